import PyProof.Rows.All
import Wide.All
import OpenK.AllK
import Wide.FinOn
import PySem.PyData
import OpenK.KMore
import OpenK.KMake
import OpenK.KDescr
import OpenK.KOwn
import KE.KIsAll
import KE.KItem
import KE.KxBytes
import PyProof.EqAt
import PyProof.EqKinds
import PyProof.TupleCall
import PyProof.ReprRoads
import PyProof.ReprLen
import PyProof.ListNew
import PyProof.WalksMore
import KE.KRevIter
import PyProof.ZipIter
import PyProof.SumWalkG
import PyProof.MinMaxWalk
import PyProof.WalkInts
import PyProof.SeqI3
import PyProof.Rows.CallKwBuiltin
import KE.KMinKey
import PyProof.AutoSeq1
import PyProof.ListMulRoad
import PyProof.FactsAll.tuple
import PyProof.Rows.SeqMore
import PyProof.CompUse
import KE.KDictOf
import PyProof.AttrMiss
import PyProof.FactsAll.zip_1
import PyProof.ListRange
import PyProof.Rows.ListRangeD
import Lean
import PySem.Challenge.RW_elderhouse_k42_calls_dry_and_deep
set_option Elab.async false
set_option linter.all false
set_option maxRecDepth 100000
set_option maxHeartbeats 4000000
open PySem.Challenge renaming pw_elderhouse_k42_calls_dry_and_deep→pw0,rw_elderhouse_k42_calls_dry_and_deep→rw0
section
namespace L2
open PySem
def Z0v (s:Stmt) (j:Nat):Stmt:=match s with
  | .ClassDef _ _ _ body _ _ _ _ _ _ _=>body.getD j (.Pass ⟨0,0,0,0⟩)
  | _=>.Pass ⟨0,0,0,0⟩
def Z0n (s:Stmt):Arguments:=match s with
  | .FunctionDef _ a _ _ _ _ _ _ _ _=>a
  | _=>{ posonlyargs:=[],args:=[],vararg:=none,kwonlyargs:=[],kw_defaults:=[],kwarg:=none,defaults:=[] }
def Z0l (s:Stmt):List Stmt:=match s with
  | .FunctionDef _ _ b _ _ _ _ _ _ _=>b
  | _=>[]
def Z0d (s:Stmt):Scope:=match s with
  | .FunctionDef _ _ _ _ _ _ sc _ _ _=>sc
  | _=>{ kind:=.function,names:=[],isGenerator:=false,isCoroutine:=false }
end L2
namespace K42
open PySem L2
def top (i:Nat):Stmt:=pw0.main.body.getD i (.Pass ⟨0,0,0,0⟩)
abbrev Z5N:Stmt:=top 0
abbrev Z2K:Stmt:=top 6
abbrev Z1G:Stmt:=top 7
abbrev Z2U:Stmt:=top 8
abbrev Z3I:Stmt:=top 13
abbrev Z2Y:Stmt:=top 15
abbrev Z2G:Stmt:=top 18
abbrev Z2z:Stmt:=top 22
abbrev Z1Y:Stmt:=top 24
abbrev Z2B:Stmt:=top 25
abbrev Z2X:Stmt:=top 26
abbrev Z2W:Stmt:=top 27
abbrev Z1W:Stmt:=top 28
abbrev Z2H:Stmt:=top 29
abbrev Z2D:Stmt:=top 30
abbrev Z1q:Stmt:=top 32
abbrev Z1T:Stmt:=top 33
abbrev Z1B:Stmt:=top 34
abbrev Z2b:Stmt:=top 35
abbrev Z1M:Stmt:=top 36
abbrev Z2m:Stmt:=top 37
abbrev Z2E:Stmt:=top 38
abbrev Z8Q:Stmt:=top 39
abbrev Z1f:Stmt:=Z0v (top 2) 0
abbrev Z1K:Stmt:=Z0v (top 2) 1
abbrev Z1F:Stmt:=Z0v (top 2) 2
abbrev Z1P:Stmt:=Z0v (top 2) 3
abbrev Z1J:Stmt:=Z0v (top 2) 4
abbrev Z1Z:Stmt:=Z0v (top 2) 5
abbrev Z1V:Stmt:=Z0v (top 2) 6
abbrev Z2O:Stmt:=Z0v (top 2) 7
abbrev Z0X:Stmt:=Z0v (top 2) 8
abbrev Z1e:Stmt:=Z0v (top 10) 0
abbrev Z1i:Stmt:=Z0v (top 10) 1
abbrev Z1d:Stmt:=Z0v (top 11) 0
abbrev Z1X:Stmt:=Z0v (top 11) 1
abbrev Z1g:Stmt:=Z0v (top 11) 2
abbrev Z0V:Stmt:=Z0v (top 11) 3
abbrev Z1Q:Stmt:=Z0v (top 11) 4
abbrev Z0T:Stmt:=Z0v (top 11) 5
abbrev Z0O:Stmt:=Z0v (top 11) 6
abbrev Z1h:Stmt:=Z0v (top 14) 0
abbrev Z0S:Stmt:=Z0v (top 14) 1
abbrev Z1R:Stmt:=Z0v (top 14) 2
abbrev Z2d:Stmt:=Z0v (top 14) 3
abbrev Z1E:Stmt:=Z0v (top 14) 4
abbrev Z1D:Stmt:=Z0v (top 14) 5
abbrev Z2C:Stmt:=Z0v (top 14) 6
abbrev Z2l:Stmt:=Z0v (top 14) 7
abbrev Z1l:Stmt:=Z0v (top 14) 8
abbrev Z1k:Stmt:=Z0v (top 14) 9
abbrev Z1m:Stmt:=Z0v (top 14) 10
abbrev Z1n:Stmt:=Z0v (top 17) 0
abbrev Z1U:Stmt:=Z0v (top 17) 1
abbrev Z2a:Stmt:=Z0v (top 17) 2
abbrev Z1S:Stmt:=Z0v (top 17) 3
abbrev Z2j:Stmt:=Z0v (top 17) 4
abbrev Z1j:Stmt:=Z0v (top 19) 0
abbrev Z2q:Stmt:=Z0v (top 19) 1
abbrev Z1c:Stmt:=Z0v (top 20) 0
abbrev Z2h:Stmt:=Z0v (top 20) 1
abbrev Z0R:Stmt:=Z0v (top 21) 0
abbrev Z1I:Stmt:=Z0v (top 21) 1
abbrev Z1s:Stmt:=Z0v (top 21) 2
noncomputable def rv:W.RowW:=W.OpenRow.toRowW (W.OpenLaw.row rw0)
noncomputable def qv:Program:={ pw0 with main:={ pw0.main with body:=[top 0,top 2,top 4,top 5,top 6,top 7,top 8,top 10,top 11,top 14,top 15,top 17,top 18,top 19,top 20,top 21,top 22,top 24,top 25,top 26,top 27,top 28,top 29,top 30,top 32,top 33,top 34,top 35,top 36,top 37,top 38,top 39] } }
noncomputable def KK (P:PySem.Params):W.Frag:=
(nat_lit 2,Function.const (("a":Str)≠"b") (⟨.none,none,(.dict #[] 0),#[]⟩:Obj) (by decide)) ::
(nat_lit 3,⟨(.type "dict"),none,(.dict #[⟨PyData.keyHash P "__name__",.str "__name__" 165,.str "law_elderhouse_k42_calls_dry_and_deep" 847⟩,⟨PyData.keyHash P "__doc__",.str "__doc__" 166,.none⟩,⟨PyData.keyHash P "__package__",.str "__package__" 167,.none⟩,⟨PyData.keyHash P "__loader__",.str "__loader__" 168,.builtin "__main__.__loader__#opaque"⟩,⟨PyData.keyHash P "__spec__",.str "__spec__" 169,.none⟩,⟨PyData.keyHash P "__annotations__",.str "__annotations__" 170,.ref 6⟩,⟨PyData.keyHash P "__builtins__",.str "__builtins__" 171,.ref 4⟩,⟨PyData.keyHash P "__file__",.str "__file__" 173,.str "/claim/cut.py" 172⟩,⟨PyData.keyHash P "__cached__",.str "__cached__" 174,.none⟩,⟨PyData.keyHash P "_wall",.str "_wall" 193,.ref 21⟩,⟨PyData.keyHash P "Hall",.str "Hall" 291,.ref 88⟩,⟨PyData.keyHash P "GREATEST",.str "GREATEST" 295,.int 1000000000000000 294⟩,⟨PyData.keyHash P "MOST_WITHIN",.str "MOST_WITHIN" 297,.int 40 296⟩,⟨PyData.keyHash P "two_told",.str "two_told" 306,.ref 99⟩,⟨PyData.keyHash P "number_told",.str "number_told" 315,.ref 106⟩,⟨PyData.keyHash P "bounded",.str "bounded" 322,.ref 113⟩,⟨PyData.keyHash P "Scope",.str "Scope" 367,.ref 137⟩,⟨PyData.keyHash P "Waits",.str "Waits" 441,.ref 198⟩,⟨PyData.keyHash P "walked",.str "walked" 450,.ref 208⟩,⟨PyData.keyHash P "Walk",.str "Walk" 578,.ref 293⟩,⟨PyData.keyHash P "chooses",.str "chooses" 585,.ref 304⟩,⟨PyData.keyHash P "Term",.str "Term" 647,.ref 347⟩,⟨PyData.keyHash P "shape_of",.str "shape_of" 656,.ref 358⟩,⟨PyData.keyHash P "Word",.str "Word" 698,.ref 382⟩,⟨PyData.keyHash P "House",.str "House" 739,.ref 408⟩,⟨PyData.keyHash P "Program",.str "Program" 783,.ref 441⟩,⟨PyData.keyHash P "pairs_of",.str "pairs_of" 789,.ref 450⟩,⟨PyData.keyHash P "program_of",.str "program_of" 797,.ref 455⟩,⟨PyData.keyHash P "house_of",.str "house_of" 803,.ref 460⟩,⟨PyData.keyHash P "word_of",.str "word_of" 814,.ref 467⟩,⟨PyData.keyHash P "term_of",.str "term_of" 820,.ref 472⟩,⟨PyData.keyHash P "all_within",.str "all_within" 830,.ref 479⟩,⟨PyData.keyHash P "parts_of",.str "parts_of" 838,.ref 486⟩,⟨PyData.keyHash P "label_of",.str "label_of" 846,.ref 493⟩,⟨PyData.keyHash P "_law_cell_at",.str "_law_cell_at" 856,.ref 500⟩,⟨PyData.keyHash P "_law_mixed",.str "_law_mixed" 864,.ref 507⟩,⟨PyData.keyHash P "_law_within",.str "_law_within" 875,.ref 514⟩,⟨PyData.keyHash P "_law_again",.str "_law_again" 888,.ref 521⟩,⟨PyData.keyHash P "_law_houses",.str "_law_houses" 902,.ref 528⟩,⟨PyData.keyHash P "_law_open",.str "_law_open" 913,.ref 535⟩,⟨PyData.keyHash P "_law_due",.str "_law_due" 927,.ref 542⟩,⟨PyData.keyHash P "law",.str "law" 933,.ref 547⟩] 42),#[]⟩) ::
(nat_lit 15,⟨.type "tuple",none,.seq #[] 0,#[]⟩) ::
(nat_lit 17,⟨.type "tuple",none,.seq #[.str "k" 190] 0,#[]⟩) ::
(nat_lit 18,⟨.type "tuple",none,.seq #[] 0,#[]⟩) ::
(nat_lit 20,⟨.type "code",none,.fields #[.str "_wall" 187,.str "_wall" 188,.str "/claim/cut.py" 189,.int 1 0,.int 1 0,.int 0 0,.int 0 0,.int 3 0,.ref 15,.bool true,.int 181 0,.ref 16,.none,.ref 17,.ref 18,.ref 19,.int 191 0,.int 1 0,.str "/claim/cut.py" 192],#[]⟩) ::
(nat_lit 21,⟨(.type "function"),none,(.func (W.fnOf "_wall" "_wall" (Z0n Z5N) (Z0l Z5N) (Z0d Z5N) .none .none .none (.str "__main__" 164) none (.ref 20) .none)),#[]⟩) ::
(nat_lit 29,⟨.type "tuple",none,.seq #[] 0,#[]⟩) ::
(nat_lit 32,⟨.type "code",none,.fields #[.str "__init__" 208,.str "Hall.__init__" 209,.str "/claim/cut.py" 210,.int 7 0,.int 2 0,.int 0 0,.int 0 0,.int 3 0,.ref 29,.bool true,.int 181 0,.ref 30,.none,.none,.none,.ref 31,.int 211 0,.int 7 0,.str "/claim/cut.py" 212],#[]⟩) ::
(nat_lit 33,⟨(.type "function"),none,(.func (W.fnOf "__init__" "Hall.__init__" (Z0n Z1f) (Z0l Z1f) (Z0d Z1f) .none .none .none (.str "elderhouse.houses" 194) none (.ref 32) .none)),#[]⟩) ::
(nat_lit 34,⟨.type "tuple",none,.seq #[] 0,#[]⟩) ::
(nat_lit 36,⟨.type "tuple",none,.seq #[.str "self" 217] 0,#[]⟩) ::
(nat_lit 37,⟨.type "tuple",none,.seq #[] 0,#[]⟩) ::
(nat_lit 39,⟨.type "code",none,.fields #[.str "houses" 214,.str "Hall.houses" 215,.str "/claim/cut.py" 216,.int 13 0,.int 1 0,.int 0 0,.int 0 0,.int 3 0,.ref 34,.bool true,.int 181 0,.ref 35,.none,.ref 36,.ref 37,.ref 38,.int 218 0,.int 13 0,.str "/claim/cut.py" 219],#[]⟩) ::
(nat_lit 40,⟨(.type "function"),none,(.func (W.fnOf "houses" "Hall.houses" (Z0n Z1K) (Z0l Z1K) (Z0d Z1K) .none .none .none (.str "elderhouse.houses" 194) none (.ref 39) .none)),#[]⟩) ::
(nat_lit 41,⟨.type "tuple",none,.seq #[] 0,#[]⟩) ::
(nat_lit 43,⟨.type "tuple",none,.seq #[.str "self" 224,.str "house" 225,.str "nearest_first" 226,.str "one" 227] 0,#[]⟩) ::
(nat_lit 44,⟨.type "tuple",none,.seq #[] 0,#[]⟩) ::
(nat_lit 46,⟨.type "code",none,.fields #[.str "elders" 221,.str "Hall.elders" 222,.str "/claim/cut.py" 223,.int 16 0,.int 2 0,.int 0 0,.int 0 0,.int 3 0,.ref 41,.bool true,.int 181 0,.ref 42,.none,.ref 43,.ref 44,.ref 45,.int 228 0,.int 16 0,.str "/claim/cut.py" 229],#[]⟩) ::
(nat_lit 47,⟨(.type "function"),none,(.func (W.fnOf "elders" "Hall.elders" (Z0n Z1F) (Z0l Z1F) (Z0d Z1F) .none .none .none (.str "elderhouse.houses" 194) none (.ref 46) .none)),#[]⟩) ::
(nat_lit 48,⟨.type "tuple",none,.seq #[] 0,#[]⟩) ::
(nat_lit 50,⟨.type "tuple",none,.seq #[.str "self" 234,.str "house" 235] 0,#[]⟩) ::
(nat_lit 51,⟨.type "tuple",none,.seq #[] 0,#[]⟩) ::
(nat_lit 53,⟨.type "code",none,.fields #[.str "younger" 231,.str "Hall.younger" 232,.str "/claim/cut.py" 233,.int 24 0,.int 2 0,.int 0 0,.int 0 0,.int 3 0,.ref 48,.bool true,.int 181 0,.ref 49,.none,.ref 50,.ref 51,.ref 52,.int 236 0,.int 24 0,.str "/claim/cut.py" 237],#[]⟩) ::
(nat_lit 54,⟨(.type "function"),none,(.func (W.fnOf "younger" "Hall.younger" (Z0n Z1P) (Z0l Z1P) (Z0d Z1P) .none .none .none (.str "elderhouse.houses" 194) none (.ref 53) .none)),#[]⟩) ::
(nat_lit 55,⟨.type "tuple",none,.seq #[] 0,#[]⟩) ::
(nat_lit 57,⟨.type "tuple",none,.seq #[.str "self" 242,.str "house" 243,.str "all_fields" 244,.str "one" 245] 0,#[]⟩) ::
(nat_lit 58,⟨.type "tuple",none,.seq #[] 0,#[]⟩) ::
(nat_lit 60,⟨.type "code",none,.fields #[.str "fields" 239,.str "Hall.fields" 240,.str "/claim/cut.py" 241,.int 27 0,.int 2 0,.int 0 0,.int 0 0,.int 3 0,.ref 55,.bool true,.int 181 0,.ref 56,.none,.ref 57,.ref 58,.ref 59,.int 246 0,.int 27 0,.str "/claim/cut.py" 247],#[]⟩) ::
(nat_lit 61,⟨(.type "function"),none,(.func (W.fnOf "fields" "Hall.fields" (Z0n Z1J) (Z0l Z1J) (Z0d Z1J) .none .none .none (.str "elderhouse.houses" 194) none (.ref 60) .none)),#[]⟩) ::
(nat_lit 62,⟨.type "tuple",none,.seq #[] 0,#[]⟩) ::
(nat_lit 65,⟨.type "code",none,.fields #[.str "place" 249,.str "Hall.place" 250,.str "/claim/cut.py" 251,.int 33 0,.int 3 0,.int 0 0,.int 0 0,.int 3 0,.ref 62,.bool true,.int 181 0,.ref 63,.none,.none,.none,.ref 64,.int 252 0,.int 33 0,.str "/claim/cut.py" 253],#[]⟩) ::
(nat_lit 66,⟨(.type "function"),none,(.func (W.fnOf "place" "Hall.place" (Z0n Z1Z) (Z0l Z1Z) (Z0d Z1Z) .none .none .none (.str "elderhouse.houses" 194) none (.ref 65) .none)),#[]⟩) ::
(nat_lit 67,⟨.type "tuple",none,.seq #[] 0,#[]⟩) ::
(nat_lit 70,⟨.type "code",none,.fields #[.str "found" 255,.str "Hall.found" 256,.str "/claim/cut.py" 257,.int 39 0,.int 3 0,.int 0 0,.int 0 0,.int 3 0,.ref 67,.bool true,.int 181 0,.ref 68,.none,.none,.none,.ref 69,.int 258 0,.int 39 0,.str "/claim/cut.py" 259],#[]⟩) ::
(nat_lit 71,⟨(.type "function"),none,(.func (W.fnOf "found" "Hall.found" (Z0n Z1V) (Z0l Z1V) (Z0d Z1V) .none .none .none (.str "elderhouse.houses" 194) none (.ref 70) .none)),#[]⟩) ::
(nat_lit 72,⟨.type "tuple",none,.seq #[] 0,#[]⟩) ::
(nat_lit 74,⟨.type "tuple",none,.seq #[.str "self" 264,.str "house" 265,.str "word" 266] 0,#[]⟩) ::
(nat_lit 75,⟨.type "tuple",none,.seq #[] 0,#[]⟩) ::
(nat_lit 77,⟨.type "code",none,.fields #[.str "head" 261,.str "Hall.head" 262,.str "/claim/cut.py" 263,.int 46 0,.int 3 0,.int 0 0,.int 0 0,.int 3 0,.ref 72,.bool true,.int 181 0,.ref 73,.none,.ref 74,.ref 75,.ref 76,.int 267 0,.int 46 0,.str "/claim/cut.py" 268],#[]⟩) ::
(nat_lit 78,⟨(.type "function"),none,(.func (W.fnOf "head" "Hall.head" (Z0n Z2O) (Z0l Z2O) (Z0d Z2O) .none .none .none (.str "elderhouse.houses" 194) none (.ref 77) .none)),#[]⟩) ::
(nat_lit 79,⟨.type "tuple",none,.seq #[] 0,#[]⟩) ::
(nat_lit 81,⟨.type "tuple",none,.seq #[.str "self" 273,.str "house" 274,.str "word" 275,.str "where" 276,.str "name" 277,.str "number" 278] 0,#[]⟩) ::
(nat_lit 82,⟨.type "tuple",none,.seq #[] 0,#[]⟩) ::
(nat_lit 84,⟨.type "code",none,.fields #[.str "found_word" 270,.str "Hall.found_word" 271,.str "/claim/cut.py" 272,.int 49 0,.int 3 0,.int 0 0,.int 0 0,.int 3 0,.ref 79,.bool true,.int 181 0,.ref 80,.none,.ref 81,.ref 82,.ref 83,.int 279 0,.int 49 0,.str "/claim/cut.py" 280],#[]⟩) ::
(nat_lit 85,⟨(.type "function"),none,(.func (W.fnOf "found_word" "Hall.found_word" (Z0n Z0X) (Z0l Z0X) (Z0d Z0X) .none .none .none (.str "elderhouse.houses" 194) none (.ref 84) .none)),#[]⟩) ::
(nat_lit 86,⟨.type "tuple",none,.seq #[.str "by_name" 282,.str "in_order" 283] 0,#[]⟩) ::
(nat_lit 87,⟨(.type "dict"),none,(.dict #[⟨PyData.keyHash P "__module__",.str "__module__" 203,.str "elderhouse.houses" 194⟩,⟨PyData.keyHash P "__firstlineno__",.str "__firstlineno__" 207,.int 5 206⟩,⟨PyData.keyHash P "__init__",.str "__init__" 213,.ref 33⟩,⟨PyData.keyHash P "houses",.str "houses" 220,.ref 40⟩,⟨PyData.keyHash P "elders",.str "elders" 230,.ref 47⟩,⟨PyData.keyHash P "younger",.str "younger" 238,.ref 54⟩,⟨PyData.keyHash P "fields",.str "fields" 248,.ref 61⟩,⟨PyData.keyHash P "place",.str "place" 254,.ref 66⟩,⟨PyData.keyHash P "found",.str "found" 260,.ref 71⟩,⟨PyData.keyHash P "head",.str "head" 269,.ref 78⟩,⟨PyData.keyHash P "found_word",.str "found_word" 281,.ref 85⟩,⟨PyData.keyHash P "__static_attributes__",.str "__static_attributes__" 284,.ref 86⟩,⟨PyData.keyHash P "__dict__",.str "__dict__" 286,.ref 89⟩,⟨PyData.keyHash P "__weakref__",.str "__weakref__" 288,.ref 90⟩,⟨PyData.keyHash P "__doc__",.str "__doc__" 289,.none⟩] 4),#[]⟩) ::
(nat_lit 88,⟨(.type "type"),none,(.cls ⟨"Hall",[(.type "object")],[.ref 88,(.type "object")],87,"Hall",true,[],[],false,none,false⟩),#[none,none,(some (.str "Hall" 196)),(some (.str "Hall" 204)),(some (.builtin "object.__new__")),(some (.bool true))]⟩) ::
(nat_lit 89,⟨.type "getset_descriptor",none,.fields #[.str "__dict__" 285,.ref 88,.builtin "function.__dict__",.builtin "function.__dict__#set"],#[]⟩) ::
(nat_lit 90,⟨.type "getset_descriptor",none,.fields #[.str "__weakref__" 287,.ref 88,.builtin "ExceptionGroup.__weakref__",.none],#[]⟩) ::
(nat_lit 93,⟨.type "tuple",none,.seq #[] 0,#[]⟩) ::
(nat_lit 95,⟨.type "tuple",none,.seq #[.str "sign" 301,.str "a" 302,.str "b" 303] 0,#[]⟩) ::
(nat_lit 96,⟨.type "tuple",none,.seq #[] 0,#[]⟩) ::
(nat_lit 98,⟨.type "code",none,.fields #[.str "two_told" 298,.str "two_told" 299,.str "/claim/cut.py" 300,.int 58 0,.int 3 0,.int 0 0,.int 0 0,.int 3 0,.ref 93,.bool true,.int 181 0,.ref 94,.none,.ref 95,.ref 96,.ref 97,.int 304 0,.int 58 0,.str "/claim/cut.py" 305],#[]⟩) ::
(nat_lit 99,⟨(.type "function"),none,(.func (W.fnOf "two_told" "two_told" (Z0n Z2K) (Z0l Z2K) (Z0d Z2K) .none .none .none (.str "elderhouse.numbers" 292) none (.ref 98) .none)),#[]⟩) ::
(nat_lit 100,⟨.type "tuple",none,.seq #[] 0,#[]⟩) ::
(nat_lit 102,⟨.type "tuple",none,.seq #[.str "sign" 310,.str "a" 311,.str "b" 312] 0,#[]⟩) ::
(nat_lit 103,⟨.type "tuple",none,.seq #[] 0,#[]⟩) ::
(nat_lit 105,⟨.type "code",none,.fields #[.str "number_told" 307,.str "number_told" 308,.str "/claim/cut.py" 309,.int 66 0,.int 3 0,.int 0 0,.int 0 0,.int 3 0,.ref 100,.bool true,.int 181 0,.ref 101,.none,.ref 102,.ref 103,.ref 104,.int 313 0,.int 66 0,.str "/claim/cut.py" 314],#[]⟩) ::
(nat_lit 106,⟨(.type "function"),none,(.func (W.fnOf "number_told" "number_told" (Z0n Z1G) (Z0l Z1G) (Z0d Z1G) .none .none .none (.str "elderhouse.numbers" 292) none (.ref 105) .none)),#[]⟩) ::
(nat_lit 107,⟨.type "tuple",none,.seq #[] 0,#[]⟩) ::
(nat_lit 109,⟨.type "tuple",none,.seq #[.str "number" 319] 0,#[]⟩) ::
(nat_lit 110,⟨.type "tuple",none,.seq #[] 0,#[]⟩) ::
(nat_lit 112,⟨.type "code",none,.fields #[.str "bounded" 316,.str "bounded" 317,.str "/claim/cut.py" 318,.int 74 0,.int 1 0,.int 0 0,.int 0 0,.int 3 0,.ref 107,.bool true,.int 181 0,.ref 108,.none,.ref 109,.ref 110,.ref 111,.int 320 0,.int 74 0,.str "/claim/cut.py" 321],#[]⟩) ::
(nat_lit 113,⟨(.type "function"),none,(.func (W.fnOf "bounded" "bounded" (Z0n Z2U) (Z0l Z2U) (Z0d Z2U) .none .none .none (.str "elderhouse.numbers" 292) none (.ref 112) .none)),#[]⟩) ::
(nat_lit 121,⟨.type "tuple",none,.seq #[] 0,#[]⟩) ::
(nat_lit 123,⟨.type "tuple",none,.seq #[.str "self" 340,.str "house" 341,.str "own_thing" 342,.str "bound" 343] 0,#[]⟩) ::
(nat_lit 124,⟨.type "tuple",none,.seq #[] 0,#[]⟩) ::
(nat_lit 126,⟨.type "code",none,.fields #[.str "__init__" 337,.str "Scope.__init__" 338,.str "/claim/cut.py" 339,.int 81 0,.int 4 0,.int 0 0,.int 0 0,.int 3 0,.ref 121,.bool true,.int 181 0,.ref 122,.none,.ref 123,.ref 124,.ref 125,.int 344 0,.int 81 0,.str "/claim/cut.py" 345],#[]⟩) ::
(nat_lit 127,⟨(.type "function"),none,(.func (W.fnOf "__init__" "Scope.__init__" (Z0n Z1e) (Z0l Z1e) (Z0d Z1e) .none .none .none (.str "elderhouse.waits" 323) none (.ref 126) .none)),#[]⟩) ::
(nat_lit 128,⟨.type "tuple",none,.seq #[] 0,#[]⟩) ::
(nat_lit 130,⟨.type "tuple",none,.seq #[.str "self" 350,.str "name" 351,.str "value" 352,.str "inner" 353] 0,#[]⟩) ::
(nat_lit 131,⟨.type "tuple",none,.seq #[] 0,#[]⟩) ::
(nat_lit 133,⟨.type "code",none,.fields #[.str "binding" 347,.str "Scope.binding" 348,.str "/claim/cut.py" 349,.int 86 0,.int 3 0,.int 0 0,.int 0 0,.int 3 0,.ref 128,.bool true,.int 181 0,.ref 129,.none,.ref 130,.ref 131,.ref 132,.int 354 0,.int 86 0,.str "/claim/cut.py" 355],#[]⟩) ::
(nat_lit 134,⟨(.type "function"),none,(.func (W.fnOf "binding" "Scope.binding" (Z0n Z1i) (Z0l Z1i) (Z0d Z1i) .none .none .none (.str "elderhouse.waits" 323) none (.ref 133) .none)),#[]⟩) ::
(nat_lit 135,⟨.type "tuple",none,.seq #[.str "bound" 357,.str "house" 358,.str "own_thing" 359] 0,#[]⟩) ::
(nat_lit 136,⟨(.type "dict"),none,(.dict #[⟨PyData.keyHash P "__module__",.str "__module__" 332,.str "elderhouse.waits" 323⟩,⟨PyData.keyHash P "__firstlineno__",.str "__firstlineno__" 336,.int 79 335⟩,⟨PyData.keyHash P "__init__",.str "__init__" 346,.ref 127⟩,⟨PyData.keyHash P "binding",.str "binding" 356,.ref 134⟩,⟨PyData.keyHash P "__static_attributes__",.str "__static_attributes__" 360,.ref 135⟩,⟨PyData.keyHash P "__dict__",.str "__dict__" 362,.ref 138⟩,⟨PyData.keyHash P "__weakref__",.str "__weakref__" 364,.ref 139⟩,⟨PyData.keyHash P "__doc__",.str "__doc__" 365,.none⟩] 4),#[]⟩) ::
(nat_lit 137,⟨(.type "type"),none,(.cls ⟨"Scope",[(.type "object")],[.ref 137,(.type "object")],136,"Scope",true,[],[],false,none,false⟩),#[none,none,(some (.str "Scope" 325)),(some (.str "Scope" 333)),(some (.builtin "object.__new__")),(some (.bool true))]⟩) ::
(nat_lit 138,⟨.type "getset_descriptor",none,.fields #[.str "__dict__" 361,.ref 137,.builtin "function.__dict__",.builtin "function.__dict__#set"],#[]⟩) ::
(nat_lit 139,⟨.type "getset_descriptor",none,.fields #[.str "__weakref__" 363,.ref 137,.builtin "ExceptionGroup.__weakref__",.none],#[]⟩) ::
(nat_lit 149,⟨.type "tuple",none,.seq #[] 0,#[]⟩) ::
(nat_lit 151,⟨.type "tuple",none,.seq #[.str "self" 383] 0,#[]⟩) ::
(nat_lit 152,⟨.type "tuple",none,.seq #[] 0,#[]⟩) ::
(nat_lit 154,⟨.type "code",none,.fields #[.str "__init__" 380,.str "Waits.__init__" 381,.str "/claim/cut.py" 382,.int 92 0,.int 1 0,.int 0 0,.int 0 0,.int 3 0,.ref 149,.bool true,.int 181 0,.ref 150,.none,.ref 151,.ref 152,.ref 153,.int 384 0,.int 92 0,.str "/claim/cut.py" 385],#[]⟩) ::
(nat_lit 155,⟨(.type "function"),none,(.func (W.fnOf "__init__" "Waits.__init__" (Z0n Z1d) (Z0l Z1d) (Z0d Z1d) .none .none .none (.str "elderhouse.waits" 323) none (.ref 154) .none)),#[]⟩) ::
(nat_lit 156,⟨.type "tuple",none,.seq #[] 0,#[]⟩) ::
(nat_lit 158,⟨.type "tuple",none,.seq #[.str "self" 390,.str "step" 391,.str "term" 392,.str "scope" 393] 0,#[]⟩) ::
(nat_lit 159,⟨.type "tuple",none,.seq #[] 0,#[]⟩) ::
(nat_lit 161,⟨.type "code",none,.fields #[.str "wait" 387,.str "Waits.wait" 388,.str "/claim/cut.py" 389,.int 96 0,.int 4 0,.int 0 0,.int 0 0,.int 3 0,.ref 156,.bool true,.int 181 0,.ref 157,.none,.ref 158,.ref 159,.ref 160,.int 394 0,.int 96 0,.str "/claim/cut.py" 395],#[]⟩) ::
(nat_lit 162,⟨(.type "function"),none,(.func (W.fnOf "wait" "Waits.wait" (Z0n Z1X) (Z0l Z1X) (Z0d Z1X) .none .none .none (.str "elderhouse.waits" 323) none (.ref 161) .none)),#[]⟩) ::
(nat_lit 163,⟨.type "tuple",none,.seq #[] 0,#[]⟩) ::
(nat_lit 165,⟨.type "tuple",none,.seq #[.str "self" 400] 0,#[]⟩) ::
(nat_lit 166,⟨.type "tuple",none,.seq #[] 0,#[]⟩) ::
(nat_lit 168,⟨.type "code",none,.fields #[.str "is_over" 397,.str "Waits.is_over" 398,.str "/claim/cut.py" 399,.int 99 0,.int 1 0,.int 0 0,.int 0 0,.int 3 0,.ref 163,.bool true,.int 181 0,.ref 164,.none,.ref 165,.ref 166,.ref 167,.int 401 0,.int 99 0,.str "/claim/cut.py" 402],#[]⟩) ::
(nat_lit 169,⟨(.type "function"),none,(.func (W.fnOf "is_over" "Waits.is_over" (Z0n Z1g) (Z0l Z1g) (Z0d Z1g) .none .none .none (.str "elderhouse.waits" 323) none (.ref 168) .none)),#[]⟩) ::
(nat_lit 170,⟨.type "tuple",none,.seq #[] 0,#[]⟩) ::
(nat_lit 172,⟨.type "tuple",none,.seq #[.str "self" 407] 0,#[]⟩) ::
(nat_lit 173,⟨.type "tuple",none,.seq #[] 0,#[]⟩) ::
(nat_lit 175,⟨.type "code",none,.fields #[.str "take_step" 404,.str "Waits.take_step" 405,.str "/claim/cut.py" 406,.int 102 0,.int 1 0,.int 0 0,.int 0 0,.int 3 0,.ref 170,.bool true,.int 181 0,.ref 171,.none,.ref 172,.ref 173,.ref 174,.int 408 0,.int 102 0,.str "/claim/cut.py" 409],#[]⟩) ::
(nat_lit 176,⟨(.type "function"),none,(.func (W.fnOf "take_step" "Waits.take_step" (Z0n Z0V) (Z0l Z0V) (Z0d Z0V) .none .none .none (.str "elderhouse.waits" 323) none (.ref 175) .none)),#[]⟩) ::
(nat_lit 177,⟨.type "tuple",none,.seq #[] 0,#[]⟩) ::
(nat_lit 179,⟨.type "tuple",none,.seq #[.str "self" 414,.str "value" 415] 0,#[]⟩) ::
(nat_lit 180,⟨.type "tuple",none,.seq #[] 0,#[]⟩) ::
(nat_lit 182,⟨.type "code",none,.fields #[.str "know" 411,.str "Waits.know" 412,.str "/claim/cut.py" 413,.int 105 0,.int 2 0,.int 0 0,.int 0 0,.int 3 0,.ref 177,.bool true,.int 181 0,.ref 178,.none,.ref 179,.ref 180,.ref 181,.int 416 0,.int 105 0,.str "/claim/cut.py" 417],#[]⟩) ::
(nat_lit 183,⟨(.type "function"),none,(.func (W.fnOf "know" "Waits.know" (Z0n Z1Q) (Z0l Z1Q) (Z0d Z1Q) .none .none .none (.str "elderhouse.waits" 323) none (.ref 182) .none)),#[]⟩) ::
(nat_lit 184,⟨.type "tuple",none,.seq #[] 0,#[]⟩) ::
(nat_lit 186,⟨.type "tuple",none,.seq #[.str "self" 422] 0,#[]⟩) ::
(nat_lit 187,⟨.type "tuple",none,.seq #[] 0,#[]⟩) ::
(nat_lit 189,⟨.type "code",none,.fields #[.str "take_value" 419,.str "Waits.take_value" 420,.str "/claim/cut.py" 421,.int 108 0,.int 1 0,.int 0 0,.int 0 0,.int 3 0,.ref 184,.bool true,.int 181 0,.ref 185,.none,.ref 186,.ref 187,.ref 188,.int 423 0,.int 108 0,.str "/claim/cut.py" 424],#[]⟩) ::
(nat_lit 190,⟨(.type "function"),none,(.func (W.fnOf "take_value" "Waits.take_value" (Z0n Z0T) (Z0l Z0T) (Z0d Z0T) .none .none .none (.str "elderhouse.waits" 323) none (.ref 189) .none)),#[]⟩) ::
(nat_lit 191,⟨.type "tuple",none,.seq #[] 0,#[]⟩) ::
(nat_lit 194,⟨.type "code",none,.fields #[.str "take_values" 426,.str "Waits.take_values" 427,.str "/claim/cut.py" 428,.int 111 0,.int 2 0,.int 0 0,.int 0 0,.int 3 0,.ref 191,.bool true,.int 181 0,.ref 192,.none,.none,.none,.ref 193,.int 429 0,.int 111 0,.str "/claim/cut.py" 430],#[]⟩) ::
(nat_lit 195,⟨(.type "function"),none,(.func (W.fnOf "take_values" "Waits.take_values" (Z0n Z0O) (Z0l Z0O) (Z0d Z0O) .none .none .none (.str "elderhouse.waits" 323) none (.ref 194) .none)),#[]⟩) ::
(nat_lit 196,⟨.type "tuple",none,.seq #[.str "known" 432,.str "waiting" 433] 0,#[]⟩) ::
(nat_lit 197,⟨(.type "dict"),none,(.dict #[⟨PyData.keyHash P "__module__",.str "__module__" 375,.str "elderhouse.waits" 323⟩,⟨PyData.keyHash P "__firstlineno__",.str "__firstlineno__" 379,.int 90 378⟩,⟨PyData.keyHash P "__init__",.str "__init__" 386,.ref 155⟩,⟨PyData.keyHash P "wait",.str "wait" 396,.ref 162⟩,⟨PyData.keyHash P "is_over",.str "is_over" 403,.ref 169⟩,⟨PyData.keyHash P "take_step",.str "take_step" 410,.ref 176⟩,⟨PyData.keyHash P "know",.str "know" 418,.ref 183⟩,⟨PyData.keyHash P "take_value",.str "take_value" 425,.ref 190⟩,⟨PyData.keyHash P "take_values",.str "take_values" 431,.ref 195⟩,⟨PyData.keyHash P "__static_attributes__",.str "__static_attributes__" 434,.ref 196⟩,⟨PyData.keyHash P "__dict__",.str "__dict__" 436,.ref 199⟩,⟨PyData.keyHash P "__weakref__",.str "__weakref__" 438,.ref 200⟩,⟨PyData.keyHash P "__doc__",.str "__doc__" 439,.none⟩] 4),#[]⟩) ::
(nat_lit 198,⟨(.type "type"),none,(.cls ⟨"Waits",[(.type "object")],[.ref 198,(.type "object")],197,"Waits",true,[],[],false,none,false⟩),#[none,none,(some (.str "Waits" 368)),(some (.str "Waits" 376)),(some (.builtin "object.__new__")),(some (.bool true))]⟩) ::
(nat_lit 199,⟨.type "getset_descriptor",none,.fields #[.str "__dict__" 435,.ref 198,.builtin "function.__dict__",.builtin "function.__dict__#set"],#[]⟩) ::
(nat_lit 200,⟨.type "getset_descriptor",none,.fields #[.str "__weakref__" 437,.ref 198,.builtin "ExceptionGroup.__weakref__",.none],#[]⟩) ::
(nat_lit 203,⟨.type "tuple",none,.seq #[.int 100 444] 0,#[]⟩) ::
(nat_lit 204,⟨.type "tuple",none,.seq #[] 0,#[]⟩) ::
(nat_lit 207,⟨.type "code",none,.fields #[.str "walked" 445,.str "walked" 446,.str "/claim/cut.py" 447,.int 115 0,.int 3 0,.int 0 0,.int 0 0,.int 3 0,.ref 204,.bool true,.int 181 0,.ref 205,.none,.none,.none,.ref 206,.int 448 0,.int 115 0,.str "/claim/cut.py" 449],#[]⟩) ::
(nat_lit 208,⟨(.type "function"),none,(.func (W.fnOf "walked" "walked" (Z0n Z3I) (Z0l Z3I) (Z0d Z3I) (.ref 203) .none .none (.str "elderhouse.walking" 442) none (.ref 207) .none)),#[]⟩) ::
(nat_lit 216,⟨.type "tuple",none,.seq #[] 0,#[]⟩) ::
(nat_lit 218,⟨.type "tuple",none,.seq #[.str "self" 466,.str "program" 467,.str "most" 468] 0,#[]⟩) ::
(nat_lit 219,⟨.type "tuple",none,.seq #[] 0,#[]⟩) ::
(nat_lit 221,⟨.type "code",none,.fields #[.str "__init__" 463,.str "Walk.__init__" 464,.str "/claim/cut.py" 465,.int 125 0,.int 3 0,.int 0 0,.int 0 0,.int 3 0,.ref 216,.bool true,.int 181 0,.ref 217,.none,.ref 218,.ref 219,.ref 220,.int 469 0,.int 125 0,.str "/claim/cut.py" 470],#[]⟩) ::
(nat_lit 222,⟨(.type "function"),none,(.func (W.fnOf "__init__" "Walk.__init__" (Z0n Z1h) (Z0l Z1h) (Z0d Z1h) .none .none .none (.str "elderhouse.walking" 442) none (.ref 221) .none)),#[]⟩) ::
(nat_lit 223,⟨.type "tuple",none,.seq #[] 0,#[]⟩) ::
(nat_lit 225,⟨.type "tuple",none,.seq #[.str "self" 475,.str "value" 476] 0,#[]⟩) ::
(nat_lit 226,⟨.type "tuple",none,.seq #[] 0,#[]⟩) ::
(nat_lit 228,⟨.type "code",none,.fields #[.str "told_answer" 472,.str "Walk.told_answer" 473,.str "/claim/cut.py" 474,.int 134 0,.int 1 0,.int 0 0,.int 0 0,.int 3 0,.ref 223,.bool true,.int 181 0,.ref 224,.none,.ref 225,.ref 226,.ref 227,.int 477 0,.int 134 0,.str "/claim/cut.py" 478],#[]⟩) ::
(nat_lit 229,⟨(.type "function"),none,(.func (W.fnOf "told_answer" "Walk.told_answer" (Z0n Z0S) (Z0l Z0S) (Z0d Z0S) .none .none .none (.str "elderhouse.walking" 442) none (.ref 228) .none)),#[]⟩) ::
(nat_lit 230,⟨.type "tuple",none,.seq #[] 0,#[]⟩) ::
(nat_lit 232,⟨.type "tuple",none,.seq #[.str "self" 483,.str "step" 484,.str "term" 485,.str "scope" 486] 0,#[]⟩) ::
(nat_lit 233,⟨.type "tuple",none,.seq #[] 0,#[]⟩) ::
(nat_lit 235,⟨.type "code",none,.fields #[.str "go_on" 480,.str "Walk.go_on" 481,.str "/claim/cut.py" 482,.int 142 0,.int 1 0,.int 0 0,.int 0 0,.int 3 0,.ref 230,.bool true,.int 181 0,.ref 231,.none,.ref 232,.ref 233,.ref 234,.int 487 0,.int 142 0,.str "/claim/cut.py" 488],#[]⟩) ::
(nat_lit 236,⟨(.type "function"),none,(.func (W.fnOf "go_on" "Walk.go_on" (Z0n Z1R) (Z0l Z1R) (Z0d Z1R) .none .none .none (.str "elderhouse.walking" 442) none (.ref 235) .none)),#[]⟩) ::
(nat_lit 237,⟨.type "tuple",none,.seq #[] 0,#[]⟩) ::
(nat_lit 239,⟨.type "tuple",none,.seq #[.str "self" 493,.str "term" 494,.str "scope" 495,.str "part" 496] 0,#[]⟩) ::
(nat_lit 240,⟨.type "tuple",none,.seq #[] 0,#[]⟩) ::
(nat_lit 242,⟨.type "code",none,.fields #[.str "begin" 490,.str "Walk.begin" 491,.str "/claim/cut.py" 492,.int 153 0,.int 3 0,.int 0 0,.int 0 0,.int 3 0,.ref 237,.bool true,.int 181 0,.ref 238,.none,.ref 239,.ref 240,.ref 241,.int 497 0,.int 153 0,.str "/claim/cut.py" 498],#[]⟩) ::
(nat_lit 243,⟨(.type "function"),none,(.func (W.fnOf "begin" "Walk.begin" (Z0n Z2d) (Z0l Z2d) (Z0d Z2d) .none .none .none (.str "elderhouse.walking" 442) none (.ref 242) .none)),#[]⟩) ::
(nat_lit 244,⟨.type "tuple",none,.seq #[] 0,#[]⟩) ::
(nat_lit 246,⟨.type "tuple",none,.seq #[.str "self" 503,.str "term" 504,.str "scope" 505,.str "value" 506,.str "parts" 507] 0,#[]⟩) ::
(nat_lit 247,⟨.type "tuple",none,.seq #[] 0,#[]⟩) ::
(nat_lit 249,⟨.type "code",none,.fields #[.str "choose" 500,.str "Walk.choose" 501,.str "/claim/cut.py" 502,.int 168 0,.int 3 0,.int 0 0,.int 0 0,.int 3 0,.ref 244,.bool true,.int 181 0,.ref 245,.none,.ref 246,.ref 247,.ref 248,.int 508 0,.int 168 0,.str "/claim/cut.py" 509],#[]⟩) ::
(nat_lit 250,⟨(.type "function"),none,(.func (W.fnOf "choose" "Walk.choose" (Z0n Z1E) (Z0l Z1E) (Z0d Z1E) .none .none .none (.str "elderhouse.walking" 442) none (.ref 249) .none)),#[]⟩) ::
(nat_lit 251,⟨.type "tuple",none,.seq #[] 0,#[]⟩) ::
(nat_lit 253,⟨.type "tuple",none,.seq #[.str "self" 514,.str "term" 515,.str "scope" 516,.str "values" 517,.str "inner" 518] 0,#[]⟩) ::
(nat_lit 254,⟨.type "tuple",none,.seq #[] 0,#[]⟩) ::
(nat_lit 256,⟨.type "code",none,.fields #[.str "finish" 511,.str "Walk.finish" 512,.str "/claim/cut.py" 513,.int 178 0,.int 3 0,.int 0 0,.int 0 0,.int 3 0,.ref 251,.bool true,.int 181 0,.ref 252,.none,.ref 253,.ref 254,.ref 255,.int 519 0,.int 178 0,.str "/claim/cut.py" 520],#[]⟩) ::
(nat_lit 257,⟨(.type "function"),none,(.func (W.fnOf "finish" "Walk.finish" (Z0n Z1D) (Z0l Z1D) (Z0d Z1D) .none .none .none (.str "elderhouse.walking" 442) none (.ref 256) .none)),#[]⟩) ::
(nat_lit 258,⟨.type "tuple",none,.seq #[] 0,#[]⟩) ::
(nat_lit 260,⟨.type "tuple",none,.seq #[.str "self" 525,.str "sign" 526,.str "one" 527,.str "other" 528,.str "told" 529] 0,#[]⟩) ::
(nat_lit 261,⟨.type "tuple",none,.seq #[] 0,#[]⟩) ::
(nat_lit 263,⟨.type "code",none,.fields #[.str "two" 522,.str "Walk.two" 523,.str "/claim/cut.py" 524,.int 198 0,.int 4 0,.int 0 0,.int 0 0,.int 3 0,.ref 258,.bool true,.int 181 0,.ref 259,.none,.ref 260,.ref 261,.ref 262,.int 530 0,.int 198 0,.str "/claim/cut.py" 531],#[]⟩) ::
(nat_lit 264,⟨(.type "function"),none,(.func (W.fnOf "two" "Walk.two" (Z0n Z2C) (Z0l Z2C) (Z0d Z2C) .none .none .none (.str "elderhouse.walking" 442) none (.ref 263) .none)),#[]⟩) ::
(nat_lit 265,⟨.type "tuple",none,.seq #[] 0,#[]⟩) ::
(nat_lit 268,⟨.type "code",none,.fields #[.str "call" 533,.str "Walk.call" 534,.str "/claim/cut.py" 535,.int 205 0,.int 5 0,.int 0 0,.int 0 0,.int 3 0,.ref 265,.bool true,.int 181 0,.ref 266,.none,.none,.none,.ref 267,.int 536 0,.int 205 0,.str "/claim/cut.py" 537],#[]⟩) ::
(nat_lit 269,⟨(.type "function"),none,(.func (W.fnOf "call" "Walk.call" (Z0n Z2l) (Z0l Z2l) (Z0d Z2l) .none .none .none (.str "elderhouse.walking" 442) none (.ref 268) .none)),#[]⟩) ::
(nat_lit 270,⟨.type "tuple",none,.seq #[] 0,#[]⟩) ::
(nat_lit 272,⟨.type "tuple",none,.seq #[.str "self" 542,.str "thing" 543] 0,#[]⟩) ::
(nat_lit 273,⟨.type "tuple",none,.seq #[] 0,#[]⟩) ::
(nat_lit 275,⟨.type "code",none,.fields #[.str "house_of" 539,.str "Walk.house_of" 540,.str "/claim/cut.py" 541,.int 220 0,.int 2 0,.int 0 0,.int 0 0,.int 3 0,.ref 270,.bool true,.int 181 0,.ref 271,.none,.ref 272,.ref 273,.ref 274,.int 544 0,.int 220 0,.str "/claim/cut.py" 545],#[]⟩) ::
(nat_lit 276,⟨(.type "function"),none,(.func (W.fnOf "house_of" "Walk.house_of" (Z0n Z1l) (Z0l Z1l) (Z0d Z1l) .none .none .none (.str "elderhouse.walking" 442) none (.ref 275) .none)),#[]⟩) ::
(nat_lit 277,⟨.type "tuple",none,.seq #[] 0,#[]⟩) ::
(nat_lit 279,⟨.type "tuple",none,.seq #[.str "self" 550,.str "thing" 551] 0,#[]⟩) ::
(nat_lit 280,⟨.type "tuple",none,.seq #[] 0,#[]⟩) ::
(nat_lit 282,⟨.type "code",none,.fields #[.str "inner_of" 547,.str "Walk.inner_of" 548,.str "/claim/cut.py" 549,.int 223 0,.int 2 0,.int 0 0,.int 0 0,.int 3 0,.ref 277,.bool true,.int 181 0,.ref 278,.none,.ref 279,.ref 280,.ref 281,.int 552 0,.int 223 0,.str "/claim/cut.py" 553],#[]⟩) ::
(nat_lit 283,⟨(.type "function"),none,(.func (W.fnOf "inner_of" "Walk.inner_of" (Z0n Z1k) (Z0l Z1k) (Z0d Z1k) .none .none .none (.str "elderhouse.walking" 442) none (.ref 282) .none)),#[]⟩) ::
(nat_lit 284,⟨.type "tuple",none,.seq #[] 0,#[]⟩) ::
(nat_lit 286,⟨.type "tuple",none,.seq #[.str "self" 558,.str "thing" 559,.str "field" 560] 0,#[]⟩) ::
(nat_lit 287,⟨.type "tuple",none,.seq #[] 0,#[]⟩) ::
(nat_lit 289,⟨.type "code",none,.fields #[.str "place_in" 555,.str "Walk.place_in" 556,.str "/claim/cut.py" 557,.int 226 0,.int 3 0,.int 0 0,.int 0 0,.int 3 0,.ref 284,.bool true,.int 181 0,.ref 285,.none,.ref 286,.ref 287,.ref 288,.int 561 0,.int 226 0,.str "/claim/cut.py" 562],#[]⟩) ::
(nat_lit 290,⟨(.type "function"),none,(.func (W.fnOf "place_in" "Walk.place_in" (Z0n Z1m) (Z0l Z1m) (Z0d Z1m) .none .none .none (.str "elderhouse.walking" 442) none (.ref 289) .none)),#[]⟩) ::
(nat_lit 291,⟨.type "tuple",none,.seq #[.str "counted" 564,.str "ended" 565,.str "hall" 566,.str "made" 567,.str "most" 568,.str "waits" 569,.str "within" 570] 0,#[]⟩) ::
(nat_lit 292,⟨(.type "dict"),none,(.dict #[⟨PyData.keyHash P "__module__",.str "__module__" 458,.str "elderhouse.walking" 442⟩,⟨PyData.keyHash P "__firstlineno__",.str "__firstlineno__" 462,.int 123 461⟩,⟨PyData.keyHash P "__init__",.str "__init__" 471,.ref 222⟩,⟨PyData.keyHash P "told_answer",.str "told_answer" 479,.ref 229⟩,⟨PyData.keyHash P "go_on",.str "go_on" 489,.ref 236⟩,⟨PyData.keyHash P "begin",.str "begin" 499,.ref 243⟩,⟨PyData.keyHash P "choose",.str "choose" 510,.ref 250⟩,⟨PyData.keyHash P "finish",.str "finish" 521,.ref 257⟩,⟨PyData.keyHash P "two",.str "two" 532,.ref 264⟩,⟨PyData.keyHash P "call",.str "call" 538,.ref 269⟩,⟨PyData.keyHash P "house_of",.str "house_of" 546,.ref 276⟩,⟨PyData.keyHash P "inner_of",.str "inner_of" 554,.ref 283⟩,⟨PyData.keyHash P "place_in",.str "place_in" 563,.ref 290⟩,⟨PyData.keyHash P "__static_attributes__",.str "__static_attributes__" 571,.ref 291⟩,⟨PyData.keyHash P "__dict__",.str "__dict__" 573,.ref 294⟩,⟨PyData.keyHash P "__weakref__",.str "__weakref__" 575,.ref 295⟩,⟨PyData.keyHash P "__doc__",.str "__doc__" 576,.none⟩] 4),#[]⟩) ::
(nat_lit 293,⟨(.type "type"),none,(.cls ⟨"Walk",[(.type "object")],[.ref 293,(.type "object")],292,"Walk",true,[],[],false,none,false⟩),#[none,none,(some (.str "Walk" 451)),(some (.str "Walk" 459)),(some (.builtin "object.__new__")),(some (.bool true))]⟩) ::
(nat_lit 294,⟨.type "getset_descriptor",none,.fields #[.str "__dict__" 572,.ref 293,.builtin "function.__dict__",.builtin "function.__dict__#set"],#[]⟩) ::
(nat_lit 295,⟨.type "getset_descriptor",none,.fields #[.str "__weakref__" 574,.ref 293,.builtin "ExceptionGroup.__weakref__",.none],#[]⟩) ::
(nat_lit 298,⟨.type "tuple",none,.seq #[] 0,#[]⟩) ::
(nat_lit 300,⟨.type "tuple",none,.seq #[.str "term" 582] 0,#[]⟩) ::
(nat_lit 301,⟨.type "tuple",none,.seq #[] 0,#[]⟩) ::
(nat_lit 303,⟨.type "code",none,.fields #[.str "chooses" 579,.str "chooses" 580,.str "/claim/cut.py" 581,.int 228 0,.int 1 0,.int 0 0,.int 0 0,.int 3 0,.ref 298,.bool true,.int 181 0,.ref 299,.none,.ref 300,.ref 301,.ref 302,.int 583 0,.int 228 0,.str "/claim/cut.py" 584],#[]⟩) ::
(nat_lit 304,⟨(.type "function"),none,(.func (W.fnOf "chooses" "chooses" (Z0n Z2Y) (Z0l Z2Y) (Z0d Z2Y) .none .none .none (.str "elderhouse.walking" 442) none (.ref 303) .none)),#[]⟩) ::
(nat_lit 312,⟨.type "tuple",none,.seq #[] 0,#[]⟩) ::
(nat_lit 315,⟨.type "code",none,.fields #[.str "__init__" 600,.str "Term.__init__" 601,.str "/claim/cut.py" 602,.int 233 0,.int 4 0,.int 0 0,.int 0 0,.int 3 0,.ref 312,.bool true,.int 181 0,.ref 313,.none,.none,.none,.ref 314,.int 603 0,.int 233 0,.str "/claim/cut.py" 604],#[]⟩) ::
(nat_lit 316,⟨(.type "function"),none,(.func (W.fnOf "__init__" "Term.__init__" (Z0n Z1n) (Z0l Z1n) (Z0d Z1n) .none .none .none (.str "elderhouse.terms" 586) none (.ref 315) .none)),#[]⟩) ::
(nat_lit 317,⟨.type "tuple",none,.seq #[] 0,#[]⟩) ::
(nat_lit 319,⟨.type "tuple",none,.seq #[.str "self" 609] 0,#[]⟩) ::
(nat_lit 320,⟨.type "tuple",none,.seq #[] 0,#[]⟩) ::
(nat_lit 322,⟨.type "code",none,.fields #[.str "plain" 606,.str "Term.plain" 607,.str "/claim/cut.py" 608,.int 241 0,.int 1 0,.int 0 0,.int 0 0,.int 3 0,.ref 317,.bool true,.int 181 0,.ref 318,.none,.ref 319,.ref 320,.ref 321,.int 610 0,.int 241 0,.str "/claim/cut.py" 611],#[]⟩) ::
(nat_lit 323,⟨(.type "function"),none,(.func (W.fnOf "plain" "Term.plain" (Z0n Z1U) (Z0l Z1U) (Z0d Z1U) .none .none .none (.str "elderhouse.terms" 586) none (.ref 322) .none)),#[]⟩) ::
(nat_lit 324,⟨.type "tuple",none,.seq #[] 0,#[]⟩) ::
(nat_lit 326,⟨.type "tuple",none,.seq #[.str "self" 616] 0,#[]⟩) ::
(nat_lit 327,⟨.type "tuple",none,.seq #[] 0,#[]⟩) ::
(nat_lit 329,⟨.type "code",none,.fields #[.str "parts" 613,.str "Term.parts" 614,.str "/claim/cut.py" 615,.int 244 0,.int 1 0,.int 0 0,.int 0 0,.int 3 0,.ref 324,.bool true,.int 181 0,.ref 325,.none,.ref 326,.ref 327,.ref 328,.int 617 0,.int 244 0,.str "/claim/cut.py" 618],#[]⟩) ::
(nat_lit 330,⟨(.type "function"),none,(.func (W.fnOf "parts" "Term.parts" (Z0n Z2a) (Z0l Z2a) (Z0d Z2a) .none .none .none (.str "elderhouse.terms" 586) none (.ref 329) .none)),#[]⟩) ::
(nat_lit 331,⟨.type "tuple",none,.seq #[] 0,#[]⟩) ::
(nat_lit 333,⟨.type "tuple",none,.seq #[.str "self" 623] 0,#[]⟩) ::
(nat_lit 334,⟨.type "tuple",none,.seq #[] 0,#[]⟩) ::
(nat_lit 336,⟨.type "code",none,.fields #[.str "depth" 620,.str "Term.depth" 621,.str "/claim/cut.py" 622,.int 247 0,.int 1 0,.int 0 0,.int 0 0,.int 3 0,.ref 331,.bool true,.int 181 0,.ref 332,.none,.ref 333,.ref 334,.ref 335,.int 624 0,.int 247 0,.str "/claim/cut.py" 625],#[]⟩) ::
(nat_lit 337,⟨(.type "function"),none,(.func (W.fnOf "depth" "Term.depth" (Z0n Z1S) (Z0l Z1S) (Z0d Z1S) .none .none .none (.str "elderhouse.terms" 586) none (.ref 336) .none)),#[]⟩) ::
(nat_lit 338,⟨.type "tuple",none,.seq #[] 0,#[]⟩) ::
(nat_lit 340,⟨.type "tuple",none,.seq #[.str "self" 630] 0,#[]⟩) ::
(nat_lit 341,⟨.type "tuple",none,.seq #[] 0,#[]⟩) ::
(nat_lit 343,⟨.type "code",none,.fields #[.str "size" 627,.str "Term.size" 628,.str "/claim/cut.py" 629,.int 250 0,.int 1 0,.int 0 0,.int 0 0,.int 3 0,.ref 338,.bool true,.int 181 0,.ref 339,.none,.ref 340,.ref 341,.ref 342,.int 631 0,.int 250 0,.str "/claim/cut.py" 632],#[]⟩) ::
(nat_lit 344,⟨(.type "function"),none,(.func (W.fnOf "size" "Term.size" (Z0n Z2j) (Z0l Z2j) (Z0d Z2j) .none .none .none (.str "elderhouse.terms" 586) none (.ref 343) .none)),#[]⟩) ::
(nat_lit 345,⟨.type "tuple",none,.seq #[.str "deep" 634,.str "form" 635,.str "inner" 636,.str "label" 637,.str "many" 638,.str "shape" 639] 0,#[]⟩) ::
(nat_lit 346,⟨(.type "dict"),none,(.dict #[⟨PyData.keyHash P "__module__",.str "__module__" 595,.str "elderhouse.terms" 586⟩,⟨PyData.keyHash P "__firstlineno__",.str "__firstlineno__" 599,.int 231 598⟩,⟨PyData.keyHash P "__init__",.str "__init__" 605,.ref 316⟩,⟨PyData.keyHash P "plain",.str "plain" 612,.ref 323⟩,⟨PyData.keyHash P "parts",.str "parts" 619,.ref 330⟩,⟨PyData.keyHash P "depth",.str "depth" 626,.ref 337⟩,⟨PyData.keyHash P "size",.str "size" 633,.ref 344⟩,⟨PyData.keyHash P "__static_attributes__",.str "__static_attributes__" 640,.ref 345⟩,⟨PyData.keyHash P "__dict__",.str "__dict__" 642,.ref 348⟩,⟨PyData.keyHash P "__weakref__",.str "__weakref__" 644,.ref 349⟩,⟨PyData.keyHash P "__doc__",.str "__doc__" 645,.none⟩] 4),#[]⟩) ::
(nat_lit 347,⟨(.type "type"),none,(.cls ⟨"Term",[(.type "object")],[.ref 347,(.type "object")],346,"Term",true,[],[],false,none,false⟩),#[none,none,(some (.str "Term" 588)),(some (.str "Term" 596)),(some (.builtin "object.__new__")),(some (.bool true))]⟩) ::
(nat_lit 348,⟨.type "getset_descriptor",none,.fields #[.str "__dict__" 641,.ref 347,.builtin "function.__dict__",.builtin "function.__dict__#set"],#[]⟩) ::
(nat_lit 349,⟨.type "getset_descriptor",none,.fields #[.str "__weakref__" 643,.ref 347,.builtin "ExceptionGroup.__weakref__",.none],#[]⟩) ::
(nat_lit 352,⟨.type "tuple",none,.seq #[] 0,#[]⟩) ::
(nat_lit 354,⟨.type "tuple",none,.seq #[.str "form" 651,.str "label" 652,.str "parts" 653] 0,#[]⟩) ::
(nat_lit 355,⟨.type "tuple",none,.seq #[] 0,#[]⟩) ::
(nat_lit 357,⟨.type "code",none,.fields #[.str "shape_of" 648,.str "shape_of" 649,.str "/claim/cut.py" 650,.int 252 0,.int 3 0,.int 0 0,.int 0 0,.int 3 0,.ref 352,.bool true,.int 181 0,.ref 353,.none,.ref 354,.ref 355,.ref 356,.int 654 0,.int 252 0,.str "/claim/cut.py" 655],#[]⟩) ::
(nat_lit 358,⟨(.type "function"),none,(.func (W.fnOf "shape_of" "shape_of" (Z0n Z2G) (Z0l Z2G) (Z0d Z2G) .none .none .none (.str "elderhouse.terms" 586) none (.ref 357) .none)),#[]⟩) ::
(nat_lit 366,⟨.type "tuple",none,.seq #[] 0,#[]⟩) ::
(nat_lit 368,⟨.type "tuple",none,.seq #[.str "self" 672,.str "name" 673,.str "params" 674,.str "kind" 675,.str "body" 676] 0,#[]⟩) ::
(nat_lit 369,⟨.type "tuple",none,.seq #[] 0,#[]⟩) ::
(nat_lit 371,⟨.type "code",none,.fields #[.str "__init__" 669,.str "Word.__init__" 670,.str "/claim/cut.py" 671,.int 264 0,.int 5 0,.int 0 0,.int 0 0,.int 3 0,.ref 366,.bool true,.int 181 0,.ref 367,.none,.ref 368,.ref 369,.ref 370,.int 677 0,.int 264 0,.str "/claim/cut.py" 678],#[]⟩) ::
(nat_lit 372,⟨(.type "function"),none,(.func (W.fnOf "__init__" "Word.__init__" (Z0n Z1j) (Z0l Z1j) (Z0d Z1j) .none .none .none (.str "elderhouse.terms" 586) none (.ref 371) .none)),#[]⟩) ::
(nat_lit 373,⟨.type "tuple",none,.seq #[] 0,#[]⟩) ::
(nat_lit 375,⟨.type "tuple",none,.seq #[.str "self" 683] 0,#[]⟩) ::
(nat_lit 376,⟨.type "tuple",none,.seq #[] 0,#[]⟩) ::
(nat_lit 378,⟨.type "code",none,.fields #[.str "plain" 680,.str "Word.plain" 681,.str "/claim/cut.py" 682,.int 270 0,.int 1 0,.int 0 0,.int 0 0,.int 3 0,.ref 373,.bool true,.int 181 0,.ref 374,.none,.ref 375,.ref 376,.ref 377,.int 684 0,.int 270 0,.str "/claim/cut.py" 685],#[]⟩) ::
(nat_lit 379,⟨(.type "function"),none,(.func (W.fnOf "plain" "Word.plain" (Z0n Z2q) (Z0l Z2q) (Z0d Z2q) .none .none .none (.str "elderhouse.terms" 586) none (.ref 378) .none)),#[]⟩) ::
(nat_lit 380,⟨.type "tuple",none,.seq #[.str "body" 687,.str "kind" 688,.str "name" 689,.str "params" 690] 0,#[]⟩) ::
(nat_lit 381,⟨(.type "dict"),none,(.dict #[⟨PyData.keyHash P "__module__",.str "__module__" 664,.str "elderhouse.terms" 586⟩,⟨PyData.keyHash P "__firstlineno__",.str "__firstlineno__" 668,.int 262 667⟩,⟨PyData.keyHash P "__init__",.str "__init__" 679,.ref 372⟩,⟨PyData.keyHash P "plain",.str "plain" 686,.ref 379⟩,⟨PyData.keyHash P "__static_attributes__",.str "__static_attributes__" 691,.ref 380⟩,⟨PyData.keyHash P "__dict__",.str "__dict__" 693,.ref 383⟩,⟨PyData.keyHash P "__weakref__",.str "__weakref__" 695,.ref 384⟩,⟨PyData.keyHash P "__doc__",.str "__doc__" 696,.none⟩] 4),#[]⟩) ::
(nat_lit 382,⟨(.type "type"),none,(.cls ⟨"Word",[(.type "object")],[.ref 382,(.type "object")],381,"Word",true,[],[],false,none,false⟩),#[none,none,(some (.str "Word" 657)),(some (.str "Word" 665)),(some (.builtin "object.__new__")),(some (.bool true))]⟩) ::
(nat_lit 383,⟨.type "getset_descriptor",none,.fields #[.str "__dict__" 692,.ref 382,.builtin "function.__dict__",.builtin "function.__dict__#set"],#[]⟩) ::
(nat_lit 384,⟨.type "getset_descriptor",none,.fields #[.str "__weakref__" 694,.ref 382,.builtin "ExceptionGroup.__weakref__",.none],#[]⟩) ::
(nat_lit 394,⟨.type "tuple",none,.seq #[] 0,#[]⟩) ::
(nat_lit 396,⟨.type "tuple",none,.seq #[.str "self" 714,.str "name" 715,.str "elder" 716,.str "own_fields" 717,.str "own_words" 718] 0,#[]⟩) ::
(nat_lit 397,⟨.type "tuple",none,.seq #[] 0,#[]⟩) ::
(nat_lit 399,⟨.type "code",none,.fields #[.str "__init__" 711,.str "House.__init__" 712,.str "/claim/cut.py" 713,.int 274 0,.int 5 0,.int 0 0,.int 0 0,.int 3 0,.ref 394,.bool true,.int 181 0,.ref 395,.none,.ref 396,.ref 397,.ref 398,.int 719 0,.int 274 0,.str "/claim/cut.py" 720],#[]⟩) ::
(nat_lit 400,⟨(.type "function"),none,(.func (W.fnOf "__init__" "House.__init__" (Z0n Z1c) (Z0l Z1c) (Z0d Z1c) .none .none .none (.str "elderhouse.terms" 586) none (.ref 399) .none)),#[]⟩) ::
(nat_lit 401,⟨.type "tuple",none,.seq #[] 0,#[]⟩) ::
(nat_lit 404,⟨.type "code",none,.fields #[.str "plain" 722,.str "House.plain" 723,.str "/claim/cut.py" 724,.int 280 0,.int 1 0,.int 0 0,.int 0 0,.int 3 0,.ref 401,.bool true,.int 181 0,.ref 402,.none,.none,.none,.ref 403,.int 725 0,.int 280 0,.str "/claim/cut.py" 726],#[]⟩) ::
(nat_lit 405,⟨(.type "function"),none,(.func (W.fnOf "plain" "House.plain" (Z0n Z2h) (Z0l Z2h) (Z0d Z2h) .none .none .none (.str "elderhouse.terms" 586) none (.ref 404) .none)),#[]⟩) ::
(nat_lit 406,⟨.type "tuple",none,.seq #[.str "elder" 728,.str "name" 729,.str "own_fields" 730,.str "own_words" 731] 0,#[]⟩) ::
(nat_lit 407,⟨(.type "dict"),none,(.dict #[⟨PyData.keyHash P "__module__",.str "__module__" 706,.str "elderhouse.terms" 586⟩,⟨PyData.keyHash P "__firstlineno__",.str "__firstlineno__" 710,.int 272 709⟩,⟨PyData.keyHash P "__init__",.str "__init__" 721,.ref 400⟩,⟨PyData.keyHash P "plain",.str "plain" 727,.ref 405⟩,⟨PyData.keyHash P "__static_attributes__",.str "__static_attributes__" 732,.ref 406⟩,⟨PyData.keyHash P "__dict__",.str "__dict__" 734,.ref 409⟩,⟨PyData.keyHash P "__weakref__",.str "__weakref__" 736,.ref 410⟩,⟨PyData.keyHash P "__doc__",.str "__doc__" 737,.none⟩] 4),#[]⟩) ::
(nat_lit 408,⟨(.type "type"),none,(.cls ⟨"House",[(.type "object")],[.ref 408,(.type "object")],407,"House",true,[],[],false,none,false⟩),#[none,none,(some (.str "House" 699)),(some (.str "House" 707)),(some (.builtin "object.__new__")),(some (.bool true))]⟩) ::
(nat_lit 409,⟨.type "getset_descriptor",none,.fields #[.str "__dict__" 733,.ref 408,.builtin "function.__dict__",.builtin "function.__dict__#set"],#[]⟩) ::
(nat_lit 410,⟨.type "getset_descriptor",none,.fields #[.str "__weakref__" 735,.ref 408,.builtin "ExceptionGroup.__weakref__",.none],#[]⟩) ::
(nat_lit 420,⟨.type "tuple",none,.seq #[] 0,#[]⟩) ::
(nat_lit 422,⟨.type "tuple",none,.seq #[.str "self" 755,.str "all_houses" 756,.str "main" 757] 0,#[]⟩) ::
(nat_lit 423,⟨.type "tuple",none,.seq #[] 0,#[]⟩) ::
(nat_lit 425,⟨.type "code",none,.fields #[.str "__init__" 752,.str "Program.__init__" 753,.str "/claim/cut.py" 754,.int 285 0,.int 3 0,.int 0 0,.int 0 0,.int 3 0,.ref 420,.bool true,.int 181 0,.ref 421,.none,.ref 422,.ref 423,.ref 424,.int 758 0,.int 285 0,.str "/claim/cut.py" 759],#[]⟩) ::
(nat_lit 426,⟨(.type "function"),none,(.func (W.fnOf "__init__" "Program.__init__" (Z0n Z0R) (Z0l Z0R) (Z0d Z0R) .none .none .none (.str "elderhouse.terms" 586) none (.ref 425) .none)),#[]⟩) ::
(nat_lit 427,⟨.type "tuple",none,.seq #[] 0,#[]⟩) ::
(nat_lit 430,⟨.type "code",none,.fields #[.str "plain" 761,.str "Program.plain" 762,.str "/claim/cut.py" 763,.int 289 0,.int 1 0,.int 0 0,.int 0 0,.int 3 0,.ref 427,.bool true,.int 181 0,.ref 428,.none,.none,.none,.ref 429,.int 764 0,.int 289 0,.str "/claim/cut.py" 765],#[]⟩) ::
(nat_lit 431,⟨(.type "function"),none,(.func (W.fnOf "plain" "Program.plain" (Z0n Z1I) (Z0l Z1I) (Z0d Z1I) .none .none .none (.str "elderhouse.terms" 586) none (.ref 430) .none)),#[]⟩) ::
(nat_lit 432,⟨.type "tuple",none,.seq #[] 0,#[]⟩) ::
(nat_lit 434,⟨.type "tuple",none,.seq #[.str "self" 770] 0,#[]⟩) ::
(nat_lit 435,⟨.type "tuple",none,.seq #[] 0,#[]⟩) ::
(nat_lit 437,⟨.type "code",none,.fields #[.str "bodies" 767,.str "Program.bodies" 768,.str "/claim/cut.py" 769,.int 293 0,.int 1 0,.int 0 0,.int 0 0,.int 3 0,.ref 432,.bool true,.int 181 0,.ref 433,.none,.ref 434,.ref 435,.ref 436,.int 771 0,.int 293 0,.str "/claim/cut.py" 772],#[]⟩) ::
(nat_lit 438,⟨(.type "function"),none,(.func (W.fnOf "bodies" "Program.bodies" (Z0n Z1s) (Z0l Z1s) (Z0d Z1s) .none .none .none (.str "elderhouse.terms" 586) none (.ref 437) .none)),#[]⟩) ::
(nat_lit 439,⟨.type "tuple",none,.seq #[.str "all_houses" 774,.str "main" 775] 0,#[]⟩) ::
(nat_lit 440,⟨(.type "dict"),none,(.dict #[⟨PyData.keyHash P "__module__",.str "__module__" 747,.str "elderhouse.terms" 586⟩,⟨PyData.keyHash P "__firstlineno__",.str "__firstlineno__" 751,.int 283 750⟩,⟨PyData.keyHash P "__init__",.str "__init__" 760,.ref 426⟩,⟨PyData.keyHash P "plain",.str "plain" 766,.ref 431⟩,⟨PyData.keyHash P "bodies",.str "bodies" 773,.ref 438⟩,⟨PyData.keyHash P "__static_attributes__",.str "__static_attributes__" 776,.ref 439⟩,⟨PyData.keyHash P "__dict__",.str "__dict__" 778,.ref 442⟩,⟨PyData.keyHash P "__weakref__",.str "__weakref__" 780,.ref 443⟩,⟨PyData.keyHash P "__doc__",.str "__doc__" 781,.none⟩] 4),#[]⟩) ::
(nat_lit 441,⟨(.type "type"),none,(.cls ⟨"Program",[(.type "object")],[.ref 441,(.type "object")],440,"Program",true,[],[],false,none,false⟩),#[none,none,(some (.str "Program" 740)),(some (.str "Program" 748)),(some (.builtin "object.__new__")),(some (.bool true))]⟩) ::
(nat_lit 442,⟨.type "getset_descriptor",none,.fields #[.str "__dict__" 777,.ref 441,.builtin "function.__dict__",.builtin "function.__dict__#set"],#[]⟩) ::
(nat_lit 443,⟨.type "getset_descriptor",none,.fields #[.str "__weakref__" 779,.ref 441,.builtin "ExceptionGroup.__weakref__",.none],#[]⟩) ::
(nat_lit 446,⟨.type "tuple",none,.seq #[] 0,#[]⟩) ::
(nat_lit 449,⟨.type "code",none,.fields #[.str "pairs_of" 784,.str "pairs_of" 785,.str "/claim/cut.py" 786,.int 295 0,.int 1 0,.int 0 0,.int 0 0,.int 3 0,.ref 446,.bool true,.int 181 0,.ref 447,.none,.none,.none,.ref 448,.int 787 0,.int 295 0,.str "/claim/cut.py" 788],#[]⟩) ::
(nat_lit 450,⟨(.type "function"),none,(.func (W.fnOf "pairs_of" "pairs_of" (Z0n Z2z) (Z0l Z2z) (Z0d Z2z) .none .none .none (.str "elderhouse.terms" 586) none (.ref 449) .none)),#[]⟩) ::
(nat_lit 451,⟨.type "tuple",none,.seq #[] 0,#[]⟩) ::
(nat_lit 454,⟨.type "code",none,.fields #[.str "program_of" 792,.str "program_of" 793,.str "/claim/cut.py" 794,.int 298 0,.int 1 0,.int 0 0,.int 0 0,.int 3 0,.ref 451,.bool true,.int 181 0,.ref 452,.none,.none,.none,.ref 453,.int 795 0,.int 298 0,.str "/claim/cut.py" 796],#[]⟩) ::
(nat_lit 455,⟨(.type "function"),none,(.func (W.fnOf "program_of" "program_of" (Z0n Z1Y) (Z0l Z1Y) (Z0d Z1Y) .none .none .none (.str "elderhouse.building" 790) none (.ref 454) .none)),#[]⟩) ::
(nat_lit 456,⟨.type "tuple",none,.seq #[] 0,#[]⟩) ::
(nat_lit 459,⟨.type "code",none,.fields #[.str "house_of" 798,.str "house_of" 799,.str "/claim/cut.py" 800,.int 302 0,.int 1 0,.int 0 0,.int 0 0,.int 3 0,.ref 456,.bool true,.int 181 0,.ref 457,.none,.none,.none,.ref 458,.int 801 0,.int 302 0,.str "/claim/cut.py" 802],#[]⟩) ::
(nat_lit 460,⟨(.type "function"),none,(.func (W.fnOf "house_of" "house_of" (Z0n Z2B) (Z0l Z2B) (Z0d Z2B) .none .none .none (.str "elderhouse.building" 790) none (.ref 459) .none)),#[]⟩) ::
(nat_lit 461,⟨.type "tuple",none,.seq #[] 0,#[]⟩) ::
(nat_lit 463,⟨.type "tuple",none,.seq #[.str "plain" 807,.str "name" 808,.str "params" 809,.str "kind" 810,.str "body" 811] 0,#[]⟩) ::
(nat_lit 464,⟨.type "tuple",none,.seq #[] 0,#[]⟩) ::
(nat_lit 466,⟨.type "code",none,.fields #[.str "word_of" 804,.str "word_of" 805,.str "/claim/cut.py" 806,.int 305 0,.int 1 0,.int 0 0,.int 0 0,.int 3 0,.ref 461,.bool true,.int 181 0,.ref 462,.none,.ref 463,.ref 464,.ref 465,.int 812 0,.int 305 0,.str "/claim/cut.py" 813],#[]⟩) ::
(nat_lit 467,⟨(.type "function"),none,(.func (W.fnOf "word_of" "word_of" (Z0n Z2X) (Z0l Z2X) (Z0d Z2X) .none .none .none (.str "elderhouse.building" 790) none (.ref 466) .none)),#[]⟩) ::
(nat_lit 468,⟨.type "tuple",none,.seq #[] 0,#[]⟩) ::
(nat_lit 471,⟨.type "code",none,.fields #[.str "term_of" 815,.str "term_of" 816,.str "/claim/cut.py" 817,.int 308 0,.int 1 0,.int 0 0,.int 0 0,.int 3 0,.ref 468,.bool true,.int 181 0,.ref 469,.none,.none,.none,.ref 470,.int 818 0,.int 308 0,.str "/claim/cut.py" 819],#[]⟩) ::
(nat_lit 472,⟨(.type "function"),none,(.func (W.fnOf "term_of" "term_of" (Z0n Z2W) (Z0l Z2W) (Z0d Z2W) .none .none .none (.str "elderhouse.building" 790) none (.ref 471) .none)),#[]⟩) ::
(nat_lit 473,⟨.type "tuple",none,.seq #[] 0,#[]⟩) ::
(nat_lit 475,⟨.type "tuple",none,.seq #[.str "plain" 824,.str "found" 825,.str "waiting" 826,.str "one" 827] 0,#[]⟩) ::
(nat_lit 476,⟨.type "tuple",none,.seq #[] 0,#[]⟩) ::
(nat_lit 478,⟨.type "code",none,.fields #[.str "all_within" 821,.str "all_within" 822,.str "/claim/cut.py" 823,.int 314 0,.int 1 0,.int 0 0,.int 0 0,.int 3 0,.ref 473,.bool true,.int 181 0,.ref 474,.none,.ref 475,.ref 476,.ref 477,.int 828 0,.int 314 0,.str "/claim/cut.py" 829],#[]⟩) ::
(nat_lit 479,⟨(.type "function"),none,(.func (W.fnOf "all_within" "all_within" (Z0n Z1W) (Z0l Z1W) (Z0d Z1W) .none .none .none (.str "elderhouse.building" 790) none (.ref 478) .none)),#[]⟩) ::
(nat_lit 480,⟨.type "tuple",none,.seq #[] 0,#[]⟩) ::
(nat_lit 482,⟨.type "tuple",none,.seq #[.str "plain" 834,.str "form" 835] 0,#[]⟩) ::
(nat_lit 483,⟨.type "tuple",none,.seq #[] 0,#[]⟩) ::
(nat_lit 485,⟨.type "code",none,.fields #[.str "parts_of" 831,.str "parts_of" 832,.str "/claim/cut.py" 833,.int 322 0,.int 1 0,.int 0 0,.int 0 0,.int 3 0,.ref 480,.bool true,.int 181 0,.ref 481,.none,.ref 482,.ref 483,.ref 484,.int 836 0,.int 322 0,.str "/claim/cut.py" 837],#[]⟩) ::
(nat_lit 486,⟨(.type "function"),none,(.func (W.fnOf "parts_of" "parts_of" (Z0n Z2H) (Z0l Z2H) (Z0d Z2H) .none .none .none (.str "elderhouse.building" 790) none (.ref 485) .none)),#[]⟩) ::
(nat_lit 487,⟨.type "tuple",none,.seq #[] 0,#[]⟩) ::
(nat_lit 489,⟨.type "tuple",none,.seq #[.str "plain" 842,.str "form" 843] 0,#[]⟩) ::
(nat_lit 490,⟨.type "tuple",none,.seq #[] 0,#[]⟩) ::
(nat_lit 492,⟨.type "code",none,.fields #[.str "label_of" 839,.str "label_of" 840,.str "/claim/cut.py" 841,.int 335 0,.int 1 0,.int 0 0,.int 0 0,.int 3 0,.ref 487,.bool true,.int 181 0,.ref 488,.none,.ref 489,.ref 490,.ref 491,.int 844 0,.int 335 0,.str "/claim/cut.py" 845],#[]⟩) ::
(nat_lit 493,⟨(.type "function"),none,(.func (W.fnOf "label_of" "label_of" (Z0n Z2D) (Z0l Z2D) (Z0d Z2D) .none .none .none (.str "elderhouse.building" 790) none (.ref 492) .none)),#[]⟩) ::
(nat_lit 494,⟨.type "tuple",none,.seq #[] 0,#[]⟩) ::
(nat_lit 496,⟨.type "tuple",none,.seq #[.str "_law_script" 852,.str "_law_k" 853] 0,#[]⟩) ::
(nat_lit 497,⟨.type "tuple",none,.seq #[] 0,#[]⟩) ::
(nat_lit 499,⟨.type "code",none,.fields #[.str "_law_cell_at" 849,.str "_law_cell_at" 850,.str "/claim/cut.py" 851,.int 343 0,.int 2 0,.int 0 0,.int 0 0,.int 3 0,.ref 494,.bool true,.int 181 0,.ref 495,.none,.ref 496,.ref 497,.ref 498,.int 854 0,.int 343 0,.str "/claim/cut.py" 855],#[]⟩) ::
(nat_lit 500,⟨(.type "function"),none,(.func (W.fnOf "_law_cell_at" "_law_cell_at" (Z0n Z1q) (Z0l Z1q) (Z0d Z1q) .none .none .none (.str "law_elderhouse_k42_calls_dry_and_deep" 847) none (.ref 499) .none)),#[]⟩) ::
(nat_lit 501,⟨.type "tuple",none,.seq #[] 0,#[]⟩) ::
(nat_lit 503,⟨.type "tuple",none,.seq #[.str "_law_cell" 860,.str "_law_k" 861] 0,#[]⟩) ::
(nat_lit 504,⟨.type "tuple",none,.seq #[] 0,#[]⟩) ::
(nat_lit 506,⟨.type "code",none,.fields #[.str "_law_mixed" 857,.str "_law_mixed" 858,.str "/claim/cut.py" 859,.int 347 0,.int 2 0,.int 0 0,.int 0 0,.int 3 0,.ref 501,.bool true,.int 181 0,.ref 502,.none,.ref 503,.ref 504,.ref 505,.int 862 0,.int 347 0,.str "/claim/cut.py" 863],#[]⟩) ::
(nat_lit 507,⟨(.type "function"),none,(.func (W.fnOf "_law_mixed" "_law_mixed" (Z0n Z1T) (Z0l Z1T) (Z0d Z1T) .none .none .none (.str "law_elderhouse_k42_calls_dry_and_deep" 847) none (.ref 506) .none)),#[]⟩) ::
(nat_lit 508,⟨.type "tuple",none,.seq #[] 0,#[]⟩) ::
(nat_lit 510,⟨.type "tuple",none,.seq #[.str "_law_term" 868,.str "_law_wraps" 869,.str "_law_cell" 870,.str "_law_k" 871,.str "_law_some" 872] 0,#[]⟩) ::
(nat_lit 511,⟨.type "tuple",none,.seq #[] 0,#[]⟩) ::
(nat_lit 513,⟨.type "code",none,.fields #[.str "_law_within" 865,.str "_law_within" 866,.str "/claim/cut.py" 867,.int 349 0,.int 3 0,.int 0 0,.int 0 0,.int 3 0,.ref 508,.bool true,.int 181 0,.ref 509,.none,.ref 510,.ref 511,.ref 512,.int 873 0,.int 349 0,.str "/claim/cut.py" 874],#[]⟩) ::
(nat_lit 514,⟨(.type "function"),none,(.func (W.fnOf "_law_within" "_law_within" (Z0n Z1B) (Z0l Z1B) (Z0d Z1B) .none .none .none (.str "law_elderhouse_k42_calls_dry_and_deep" 847) none (.ref 513) .none)),#[]⟩) ::
(nat_lit 515,⟨.type "tuple",none,.seq #[] 0,#[]⟩) ::
(nat_lit 517,⟨.type "tuple",none,.seq #[.str "_law_word" 879,.str "_law_way" 880,.str "_law_leaf" 881,.str "_law_extra" 882,.str "_law_wraps" 883,.str "_law_less" 884,.str "_law_more" 885] 0,#[]⟩) ::
(nat_lit 518,⟨.type "tuple",none,.seq #[] 0,#[]⟩) ::
(nat_lit 520,⟨.type "code",none,.fields #[.str "_law_again" 876,.str "_law_again" 877,.str "/claim/cut.py" 878,.int 355 0,.int 5 0,.int 0 0,.int 0 0,.int 3 0,.ref 515,.bool true,.int 181 0,.ref 516,.none,.ref 517,.ref 518,.ref 519,.int 886 0,.int 355 0,.str "/claim/cut.py" 887],#[]⟩) ::
(nat_lit 521,⟨(.type "function"),none,(.func (W.fnOf "_law_again" "_law_again" (Z0n Z2b) (Z0l Z2b) (Z0d Z2b) .none .none .none (.str "law_elderhouse_k42_calls_dry_and_deep" 847) none (.ref 520) .none)),#[]⟩) ::
(nat_lit 522,⟨.type "tuple",none,.seq #[] 0,#[]⟩) ::
(nat_lit 524,⟨.type "tuple",none,.seq #[.str "_law_way" 892,.str "_law_leaf" 893,.str "_law_extra" 894,.str "_law_wraps" 895,.str "_law_params" 896,.str "_law_less" 897,.str "_law_old" 898,.str "_law_young" 899] 0,#[]⟩) ::
(nat_lit 525,⟨.type "tuple",none,.seq #[] 0,#[]⟩) ::
(nat_lit 527,⟨.type "code",none,.fields #[.str "_law_houses" 889,.str "_law_houses" 890,.str "/claim/cut.py" 891,.int 366 0,.int 4 0,.int 0 0,.int 0 0,.int 3 0,.ref 522,.bool true,.int 181 0,.ref 523,.none,.ref 524,.ref 525,.ref 526,.int 900 0,.int 366 0,.str "/claim/cut.py" 901],#[]⟩) ::
(nat_lit 528,⟨(.type "function"),none,(.func (W.fnOf "_law_houses" "_law_houses" (Z0n Z1M) (Z0l Z1M) (Z0d Z1M) .none .none .none (.str "law_elderhouse_k42_calls_dry_and_deep" 847) none (.ref 527) .none)),#[]⟩) ::
(nat_lit 529,⟨.type "tuple",none,.seq #[] 0,#[]⟩) ::
(nat_lit 531,⟨.type "tuple",none,.seq #[.str "_law_way" 906,.str "_law_house" 907,.str "_law_many" 908,.str "_law_found" 909,.str "_law_k" 910] 0,#[]⟩) ::
(nat_lit 532,⟨.type "tuple",none,.seq #[] 0,#[]⟩) ::
(nat_lit 534,⟨.type "code",none,.fields #[.str "_law_open" 903,.str "_law_open" 904,.str "/claim/cut.py" 905,.int 377 0,.int 3 0,.int 0 0,.int 0 0,.int 3 0,.ref 529,.bool true,.int 181 0,.ref 530,.none,.ref 531,.ref 532,.ref 533,.int 911 0,.int 377 0,.str "/claim/cut.py" 912],#[]⟩) ::
(nat_lit 535,⟨(.type "function"),none,(.func (W.fnOf "_law_open" "_law_open" (Z0n Z2m) (Z0l Z2m) (Z0d Z2m) .none .none .none (.str "law_elderhouse_k42_calls_dry_and_deep" 847) none (.ref 534) .none)),#[]⟩) ::
(nat_lit 536,⟨.type "tuple",none,.seq #[] 0,#[]⟩) ::
(nat_lit 538,⟨.type "tuple",none,.seq #[.str "_law_s" 917,.str "_law_turns" 918,.str "_law_way" 919,.str "_law_house" 920,.str "_law_total" 921,.str "_law_calls" 922,.str "_law_many" 923,.str "_law_standing" 924] 0,#[]⟩) ::
(nat_lit 539,⟨.type "tuple",none,.seq #[] 0,#[]⟩) ::
(nat_lit 541,⟨.type "code",none,.fields #[.str "_law_due" 914,.str "_law_due" 915,.str "/claim/cut.py" 916,.int 384 0,.int 4 0,.int 0 0,.int 0 0,.int 3 0,.ref 536,.bool true,.int 181 0,.ref 537,.none,.ref 538,.ref 539,.ref 540,.int 925 0,.int 384 0,.str "/claim/cut.py" 926],#[]⟩) ::
(nat_lit 542,⟨(.type "function"),none,(.func (W.fnOf "_law_due" "_law_due" (Z0n Z2E) (Z0l Z2E) (Z0d Z2E) .none .none .none (.str "law_elderhouse_k42_calls_dry_and_deep" 847) none (.ref 541) .none)),#[]⟩) ::
(nat_lit 543,⟨.type "tuple",none,.seq #[] 0,#[]⟩) ::
(nat_lit 546,⟨.type "code",none,.fields #[.str "law" 928,.str "law" 929,.str "/claim/cut.py" 930,.int 400 0,.int 1 0,.int 0 0,.int 0 0,.int 3 0,.ref 543,.bool true,.int 181 0,.ref 544,.none,.none,.none,.ref 545,.int 931 0,.int 400 0,.str "/claim/cut.py" 932],#[]⟩) ::
(nat_lit 547,⟨(.type "function"),none,(.func (W.fnOf "law" "law" (Z0n Z8Q) (Z0l Z8Q) (Z0d Z8Q) .none .none .none (.str "law_elderhouse_k42_calls_dry_and_deep" 847) none (.ref 546) .none)),#[]⟩)::[]
noncomputable def KA:List Addr:=[2,3,15,17,18,20,21,29,32,33,34,36,37,39,40,41,43,44,46,47,48,50,51,53,54,55,57,58,60,61,62,65,66,67,70,71,72,74,75,77,78,79,81,82,84,85,86,87,88,89,90,93,95,96,98,99,100,102,103,105,106,107,109,110,112,113,121,123,124,126,127,128,130,131,133,134,135,136,137,138,139,149,151,152,154,155,156,158,159,161,162,163,165,166,168,169,170,172,173,175,176,177,179,180,182,183,184,186,187,189,190,191,194,195,196,197,198,199,200,203,204,207,208,216,218,219,221,222,223,225,226,228,229,230,232,233,235,236,237,239,240,242,243,244,246,247,249,250,251,253,254,256,257,258,260,261,263,264,265,268,269,270,272,273,275,276,277,279,280,282,283,284,286,287,289,290,291,292,293,294,295,298,300,301,303,304,312,315,316,317,319,320,322,323,324,326,327,329,330,331,333,334,336,337,338,340,341,343,344,345,346,347,348,349,352,354,355,357,358,366,368,369,371,372,373,375,376,378,379,380,381,382,383,384,394,396,397,399,400,401,404,405,406,407,408,409,410,420,422,423,425,426,427,430,431,432,434,435,437,438,439,440,441,442,443,446,449,450,451,454,455,456,459,460,461,463,464,466,467,468,471,472,473,475,476,478,479,480,482,483,485,486,487,489,490,492,493,494,496,497,499,500,501,503,504,506,507,508,510,511,513,514,515,517,518,520,521,522,524,525,527,528,529,531,532,534,535,536,538,539,541,542,543,546,547]
theorem Z3T:∀ P,KA=(KK P).map (·.1):=fun _=>by kernel_rfl
theorem J5D {p q:Program} {loose:List Str} {Xt:Shared→Bool} {α:Type} {Yf:Shared→α} {Ya:World→α} {N:Nat} {H₀:Params→Heap} {gs₀:Array GenState} {d₀:Drawn} {k₀ m₀ M:Nat} {ann:Option Value}
    (op:∀ w:World,(W.fencedOpening treeTable p w N).map (fun s=>(s.heap,s.gens,s.drawn,s.toks))=some (H₀ w.params,gs₀,d₀,k₀))
    (sz:∀ w:World,((H₀ w.params).isNs mainGlobals&&gs₀.size == 0)=true∧(H₀ w.params).objs.size=m₀∧(H₀ w.params).nsMap mainGlobals "__annotations__"=ann) (le:M≤N)
    (ex:∀ (w:World) (os:OsState),∃ s,W.topRun treeTable p w m₀ ann M ⟨H₀ w.params,gs₀,d₀,k₀,os⟩ (W.topStub p)=some s∧(W.staticsOk (importedModules p.main.body) (H₀ w.params) s.heap&&W.namesBound p s.heap&&W.gensDone s&&W.laidKept (H₀ w.params) s.heap)=true∧W.openSeen q loose (importedModules p.main.body) Xt true s=W.openGood q loose∧Yf s=Ya w):W.LeftO p q loose Xt Yf Ya N:=by
  intro w
  obtain ⟨⟨hh,gg,dr,tk,os⟩,e1,e2⟩:=Option.map_eq_some_iff.mp (op w)
  simp only [Prod.mk.injEq] at e2
  obtain ⟨a1,a2,a3,a4⟩:=e2
  subst a1 a2 a3 a4
  obtain ⟨z1,z2,z3⟩:=sz w
  obtain ⟨s,hr,b1,b2,b3⟩:=ex w os
  have hr:=W.topRun_mono (N - M) _ _ _ _ hr
  rw [Nat.add_sub_of_le le] at hr
  have ht:W.topFrom treeTable p w N ⟨H₀ w.params,gg,dr,tk,os⟩=some s:=by
    unfold W.topFrom
    simp only [z1,z2,z3,hr,Option.bind_some,b1]
  unfold W.openEnds
  rw [e1,Option.bind_some,ht,Option.map_some,b2,b3]
theorem zz:(pw0.main.body.isEmpty == false)=true:=by k_qdec
noncomputable def eN (p:Program):Env:={ scope:=p.main.scope,locals:=mainNs,globals:=mainNs,cells:=[],code:=.ref 13,frame:=some 14 }
noncomputable def cN (p:Program):Code:=.body (W.behindTheImports p) (eN p)
def po:Pos:=⟨0,0,0,0⟩
def pf:Pos:=⟨400,0,429,142⟩
def an:Option Value:=some (.ref 6)
noncomputable def Y0 (w:World) (os:OsState):Shared:=⟨W.boot_heap w.params,Array.mk [],W.boot_drawn,W.boot_toks,os⟩
noncomputable def Sa (p:Program) (w:World) (os:OsState):Shared:=match W.topGo treeTable p w 11 an 12 (Y0 w os) (W.topStub p) with
  | some (s,_)=>s
  | none=>Y0 w os
def ofL:List Obj→Nat→W.BT→W.BT
  | [],_,t=>t
  | o::l,n,t=>ofL l (n+1) (t.ins n o)
noncomputable def TB (p:Program) (w:World) (os:OsState):W.SharedT:=⟨ofL (Sa p w os).heap.objs.toList 0 .nil,15,(Sa p w os).heap.life,(Sa p w os).gens,(Sa p w os).drawn,(Sa p w os).toks,os⟩
theorem r1 (w:World) (os:OsState):W.topGo treeTable pw0 w 11 an 12 (Y0 w os) (W.topStub pw0)=some (Sa pw0 w os,⟨denote treeTable (cN pw0),cN pw0,po,[W.topFrame po]⟩):=by
  kernel_rfl
theorem r2 (w:World) (os:OsState):W.segRun treeTable pw0 w 11 an 1 1 (Sa pw0 w os) (W.blockOf (W.behindTheImports pw0) (eN pw0) (cN pw0) po [W.topFrame po])=some (.next,Sa pw0 w os,cN pw0,po):=by
  kernel_rfl
theorem r3 (w:World) (os:OsState):(TB pw0 w os).abs=Sa pw0 w os:=by
  kernel_rfl
theorem b1 (w:World) (os:OsState):(W.segRunT treeTable pw0 w 11 an 1 3626 (TB pw0 w os) (W.piecesOf (W.behindTheImports pw0) (eN pw0) (cN pw0) po [W.topFrame po])).map (fun r=>(r.1,r.2.2.1,r.2.2.2,(W.topRun treeTable pw0 w 11 an 2 r.2.1.abs (W.restOf [] (eN pw0) (cN pw0) pf [W.topFrame po])).map fun s=>(W.staticsOk (importedModules pw0.main.body) (W.boot_heap w.params) s.heap&&W.namesBound pw0 s.heap&&W.gensDone s&&W.laidKept (W.boot_heap w.params) s.heap)))=some (PySem.Flow.next,cN pw0,pf,some (true)):=by
  unfold TB Sa
  rw [W.Fast.te10110043849684766642,W.Fast.te15667345088766844465,W.Fast.te14082659384304107361,W.Fast.te14364793385576792824,W.Fast.te3752905157180328076]
  kernel_rfl
theorem b2 (w:World) (os:OsState):(W.segRunT treeTable pw0 w 11 an 1 3626 (TB pw0 w os) (W.piecesOf (W.behindTheImports pw0) (eN pw0) (cN pw0) po [W.topFrame po])).map (fun r=>((W.topRun treeTable pw0 w 11 an 2 r.2.1.abs (W.restOf [] (eN pw0) (cN pw0) pf [W.topFrame po])).map fun s=>W.openSeen qv ["walked"] (importedModules pw0.main.body) (fun s=>W.xlAt qv [] s&&W.recOk (W.RowW.records rv) s) true s))=some (some (W.openGood qv ["walked"])):=by
  unfold TB Sa
  rw [W.Fast.te10110043849684766642,W.Fast.te15667345088766844465,W.Fast.te14082659384304107361,W.Fast.te4187177175401517315,W.Fast.te14364793385576792824,W.Fast.te3752905157180328076]
  kernel_rfl
theorem b3 (w:World) (os:OsState):(W.segRunT treeTable pw0 w 11 an 1 3626 (TB pw0 w os) (W.piecesOf (W.behindTheImports pw0) (eN pw0) (cN pw0) po [W.topFrame po])).map (fun r=>((W.topRun treeTable pw0 w 11 an 2 r.2.1.abs (W.restOf [] (eN pw0) (cN pw0) pf [W.topFrame po])).map fun s=>W.Hook.obs (W.kHook KK KA Z3T) s))=some (some (W.Hook.val (W.kHook KK KA Z3T) w)):=by
  unfold TB Sa
  rw [W.Fast.te10110043849684766642,W.Fast.te15667345088766844465,W.Fast.te14082659384304107361,W.Fast.te14364793385576792824,W.Fast.te3752905157180328076]
  kernel_rfl
theorem b4 (w:World) (os:OsState):∃ T s,W.segRunT treeTable pw0 w 11 an 1 3626 (TB pw0 w os) (W.piecesOf (W.behindTheImports pw0) (eN pw0) (cN pw0) po [W.topFrame po])=some (.next,T,cN pw0,pf)∧W.topRun treeTable pw0 w 11 an 2 T.abs (W.restOf [] (eN pw0) (cN pw0) pf [W.topFrame po])=some s∧(W.staticsOk (importedModules pw0.main.body) (W.boot_heap w.params) s.heap&&W.namesBound pw0 s.heap&&W.gensDone s&&W.laidKept (W.boot_heap w.params) s.heap)=true∧W.openSeen qv ["walked"] (importedModules pw0.main.body) (fun s=>W.xlAt qv [] s&&W.recOk (W.RowW.records rv) s) true s=W.openGood qv ["walked"]∧W.Hook.obs (W.kHook KK KA Z3T) s=W.Hook.val (W.kHook KK KA Z3T) w:=by
  obtain ⟨⟨f,T,c,q⟩,hr,e⟩:=Option.map_eq_some_iff.mp (b1 w os)
  obtain ⟨r2,hr2,e2⟩:=Option.map_eq_some_iff.mp (b2 w os)
  obtain ⟨r3,hr3,e3⟩:=Option.map_eq_some_iff.mp (b3 w os)
  cases Option.some.inj (hr.symm.trans hr2)
  cases Option.some.inj (hr.symm.trans hr3)
  obtain ⟨x1,y⟩:=Prod.mk.inj e
  obtain ⟨x2,y⟩:=Prod.mk.inj y
  obtain ⟨x3,x4⟩:=Prod.mk.inj y
  cases x1
  cases x2
  cases x3
  obtain ⟨s,hs,y1⟩:=Option.map_eq_some_iff.mp x4
  obtain ⟨s2,hs2,y2⟩:=Option.map_eq_some_iff.mp e2
  obtain ⟨s3,hs3,y3⟩:=Option.map_eq_some_iff.mp e3
  cases Option.some.inj (hs.symm.trans hs2)
  cases Option.some.inj (hs.symm.trans hs3)
  exact ⟨T,s,hr,hs,y1,y2,y3⟩
theorem r7 (w:World) (os:OsState):∃ s,W.topRun treeTable pw0 w 11 an (12+(1+(3626+2))) (Y0 w os) (W.topStub pw0)=some s∧(W.staticsOk (importedModules pw0.main.body) (W.boot_heap w.params) s.heap&&W.namesBound pw0 s.heap&&W.gensDone s&&W.laidKept (W.boot_heap w.params) s.heap)=true∧W.openSeen qv ["walked"] (importedModules pw0.main.body) (fun s=>W.xlAt qv [] s&&W.recOk (W.RowW.records rv) s) true s=W.openGood qv ["walked"]∧W.Hook.obs (W.kHook KK KA Z3T) s=W.Hook.val (W.kHook KK KA Z3T) w:=by
  obtain ⟨T,s,h1,h2,h3,h4,h5⟩:=b4 w os
  refine ⟨s,W.go_top (r1 w os) (W.piece_block (r2 w os) ?_),h3,h4,h5⟩
  have h6:=W.segRun_of h1
  rw [r3] at h6
  have h7:=W.piece_app (rest:=[]) h6 h2
  rw [List.append_nil] at h7
  exact h7
theorem r8:∀ w:World,((W.boot_heap w.params).isNs mainGlobals&&(Array.mk ([]:List GenState)).size == 0)=true∧(W.boot_heap w.params).objs.size=11∧(W.boot_heap w.params).nsMap mainGlobals "__annotations__"=an:=by
  intro w
  exact ⟨by kernel_rfl,by kernel_rfl,by kernel_rfl⟩
theorem r9:∀ w:World,(W.fencedOpening treeTable pw0 w 7376).map (fun s=>(s.heap,s.gens,s.drawn,s.toks))=some (W.boot_heap w.params,Array.mk [],W.boot_drawn,W.boot_toks):=W.boot_open rfl rfl fun s=>rfl
theorem left:W.LeftO pw0 qv ["walked"] (fun s=>W.xlAt qv [] s&&W.recOk (W.RowW.records rv) s) (W.Hook.obs (W.kHook KK KA Z3T)) (W.Hook.val (W.kHook KK KA Z3T)) 7376:=J5D r9 r8 (by decide) r7
end K42
end
section
namespace P15
open PySem
inductive Lb | non | int (i:Int) | bl (b:Bool) | str (x:Str)
noncomputable def Lb.d:Lb→PyData
  | .non=>.none | .int i=>.int i | .bl b=>.bool b | .str x=>.str x
inductive Fm | number | truth | name | self | nt | iff | two | lt | new | elder | call | field | set
noncomputable def Fm.s:Fm→Str
  | .number=>"number" | .truth=>"truth" | .name=>"name" | .self=>"self" | .nt=>"not" | .iff=>"if" | .two=>"two" | .lt=>"let" | .new=>"new" | .elder=>"elder" | .call=>"call" | .field=>"field" | .set=>"set"
inductive Tm | mk (f:Fm) (l:Lb) (ps:List Tm)
noncomputable def Tm.f:Tm→Fm | .mk f _ _=>f
noncomputable def Tm.l:Tm→Lb | .mk _ l _=>l
noncomputable def Tm.ps:Tm→List Tm | .mk _ _ ps=>ps
noncomputable def Z3g (f:Fm) (l:Lb) (ps:List PyData):List PyData:=match f with
  | .self | .nt | .iff=>.str f.s::ps
  | .new | .elder=>[.str f.s,l.d,.tuple ps]
  | .call=>match ps with
    | p::qs=>[.str f.s,p,l.d,.tuple qs]
    | []=>[]
  | .field | .set=>match ps with
    | p::qs=>.str f.s::p::l.d::qs
    | []=>[]
  | _=>.str f.s::l.d::ps
mutual
noncomputable def Tm.dat:Tm→PyData
  | .mk f l ps=>.tuple (Z3g f l (dats ps))
noncomputable def dats:List Tm→List PyData
  | []=>[]
  | t::ts=>t.dat::dats ts
end
mutual
noncomputable def Tm.depth:Tm→Nat
  | .mk _ _ ps=>1+maxD ps
noncomputable def maxD:List Tm→Nat
  | []=>0
  | t::ts=>max t.depth (maxD ts)
end
mutual
noncomputable def Tm.size:Tm→Nat
  | .mk _ _ ps=>1+sumS ps
noncomputable def sumS:List Tm→Nat
  | []=>0
  | t::ts=>t.size+sumS ts
end
noncomputable def okF:Fm→Lb→Nat→Prop
  | .number,.int _,n=>n=0
  | .truth,.bl _,n=>n=0
  | .name,.str _,n=>n=0
  | .self,.non,n=>n=0
  | .nt,.non,n=>n=1
  | .iff,.non,n=>n=3
  | .two,.str _,n=>n=2
  | .lt,.str _,n=>n=2
  | .new,.str _,_=>True
  | .elder,.str _,_=>True
  | .call,.str _,n=>1≤n
  | .field,.str _,n=>n=1
  | .set,.str _,n=>n=2
  | _,_,_=>False
inductive Ok:Tm→Prop
  | mk {f:Fm} {l:Lb} {ps:List Tm}:okF f l ps.length→(∀ p∈ps,Ok p)→Ok (.mk f l ps)
mutual
noncomputable def Tm.flat:Tm→List Tm
  | .mk f l ps=>.mk f l ps::Z1t ps
noncomputable def Z1t:List Tm→List Tm
  | []=>[]
  | t::ts=>Z1t ts++t.flat
end
theorem Z3P:∀ (xs ys:List Tm),Z1t (xs++ys)=Z1t ys++Z1t xs
  | [],ys=>by show Z1t ys=_++[]; rw [List.append_nil]
  | x::xs,ys=>by show Z1t (xs++ys)++x.flat=_++(Z1t xs++x.flat); rw [Z3P xs ys,List.append_assoc]
inductive Bld:List Tm→List Tm→Prop
  | nil:Bld [] []
  | snoc {w C:List Tm} {t:Tm}:Bld w (C++t.ps)→Bld (w++[t]) (C++[t])
mutual
theorem Bld.flat:∀ (t:Tm) {w B:List Tm},Bld w B→Bld (w++t.flat.reverse) (B++[t])
  | .mk f l ps,w,B,h=>by
    have h':=Bld.flats ps h
    have e:w++(Tm.mk f l ps).flat.reverse=w++(Z1t ps).reverse++[Tm.mk f l ps]:=by
      show w++(Tm.mk f l ps::Z1t ps).reverse=_
      rw [List.reverse_cons,List.append_assoc]
    rw [e]
    exact .snoc h'
theorem Bld.flats:∀ (ts:List Tm) {w B:List Tm},Bld w B→Bld (w++(Z1t ts).reverse) (B++ts)
  | [],w,B,h=>by
    show Bld (w++[]) (B++[])
    rw [List.append_nil,List.append_nil]; exact h
  | t::ts,w,B,h=>by
    have h':=Bld.flats ts (Bld.flat t h)
    show Bld (w++(Z1t ts++t.flat).reverse) _
    rw [List.reverse_append,← List.append_assoc]
    rw [List.append_assoc B] at h'
    exact h'
end
theorem Bld.inv {w S:List Tm} {x:Tm} (h:Bld (w++[x]) S):∃ C,S=C++[x]∧Bld w (C++x.ps):=by
  generalize e:w++[x]=u at h
  cases h with
  | nil=>cases w <;> cases e
  | snoc h'=>
    obtain ⟨rfl,e2⟩:=List.append_inj' e rfl
    cases e2
    exact ⟨_,rfl,h'⟩
theorem Bld.nil_inv {S:List Tm} (h:Bld [] S):S=[]:=by
  generalize e:([]:List Tm)=u at h
  cases h with
  | nil=>rfl
  | snoc _=>exact absurd e.symm (by simp)
theorem Z7w {w:List Tm} {n:Nat} (e:w.length=n+1):∃ w' x,w=w'++[x]∧w'.length=n:=
  ⟨w.dropLast,w.getLast (by intro z; rw [z] at e; cases e),(List.dropLast_concat_getLast _).symm,by rw [List.length_dropLast,e]; rfl⟩
theorem Bld.det:∀ {n:Nat} {w S S':List Tm},w.length=n→Bld w S→Bld w S'→S=S'
  | 0,w,S,S',e,h,h'=>by
    cases List.length_eq_zero_iff.mp e
    rw [h.nil_inv,h'.nil_inv]
  | n+1,w,S,S',e,h,h'=>by
    obtain ⟨w,x,rfl,e2⟩:=Z7w e
    obtain ⟨C,rfl,h1⟩:=h.inv
    obtain ⟨C',rfl,h2⟩:=h'.inv
    rw [List.append_cancel_right (Bld.det e2 h1 h2)]
theorem Bld.pre {u:List Tm}:∀ {n:Nat} {v S:List Tm},v.length=n→Bld (u++v) S→∃ S',Bld u S'
  | 0,v,S,e,h=>by
    cases List.length_eq_zero_iff.mp e
    rw [List.append_nil] at h; exact ⟨S,h⟩
  | n+1,v,S,e,h=>by
    obtain ⟨v,x,rfl,e2⟩:=Z7w e
    rw [← List.append_assoc] at h
    obtain ⟨C,_,h'⟩:=h.inv
    exact Bld.pre e2 h'
theorem Bld.next {w S S':List Tm} {i:Nat} {x:Tm} (h:Bld w S) (hi:w[i]?=some x) (h':Bld (w.take i) S'):∃ C,S'=C++x.ps∧Bld (w.take (i+1)) (C++[x]):=by
  have e:w.take (i+1)=w.take i++[x]:=by
    rw [List.take_succ,hi]; rfl
  obtain ⟨S1,h1⟩:=Bld.pre (u:=w.take (i+1)) (v:=w.drop (i+1)) rfl (by rw [List.take_append_drop]; exact h)
  rw [e] at h1 ⊢
  obtain ⟨C,rfl,h2⟩:=h1.inv
  exact ⟨C,Bld.det rfl h' h2,h1⟩
end P15
end
section
namespace L2
open PySem PySem.Spec PyProof.Rows
abbrev Key:=Sum Int Str
def Z9h:Key→Value→Bool
  | .inl k,v=>Value.isInt k v
  | .inr x,v=>Value.isStrOf x v
def keyH (w:World):Key→Int
  | .inl k=>hashInt k
  | .inr x=>hashStr w x
theorem Z1b:∀ {k:Key} {v:Value},Z9h k v=true→(∃ i t,k=Sum.inl i∧v=Value.int i t)∨(∃ x t,k=Sum.inr x∧v=Value.str x t)
  | .inl i,v,h=>by
    obtain ⟨t,e⟩:=Value.isInt_shape (k:=i) (v:=v) h
    exact .inl ⟨i,t,rfl,e⟩
  | .inr x,v,h=>by
    obtain ⟨t,e⟩:=Value.isStrOf_shape (x:=x) (v:=v) h
    exact .inr ⟨x,t,rfl,e⟩
theorem Z9G (i:Int) (t:Tok):Z9h (.inl i) (.int i t)=true:=by simp [Z9h,Value.isInt]
theorem J1e (x:Str) (t:Tok):Z9h (.inr x) (.str x t)=true:=by simp [Z9h,Value.isStrOf]
theorem J6U (a b:Int):decide ((Sum.inl a:Key)=Sum.inl b)=(a == b):=by
  by_cases e:a=b
  · subst e; simp
  · have h:¬ (Sum.inl a:Key)=Sum.inl b:=fun q=>e (Sum.inl.inj q)
    rw [decide_eq_false h]
    exact (beq_eq_false_iff_ne.mpr e).symm
theorem J6K (a b:Str):decide ((Sum.inr a:Key)=Sum.inr b)=decide (a=b):=by
  by_cases e:a=b
  · subst e; simp
  · have h:¬ (Sum.inr a:Key)=Sum.inr b:=fun q=>e (Sum.inr.inj q)
    rw [decide_eq_false h,decide_eq_false e]
theorem J6C (a:Int) (b:Str):decide ((Sum.inl a:Key)=Sum.inr b)=false:=decide_eq_false (fun q=>nomatch q)
theorem J7j (a:Str) (b:Int):decide ((Sum.inr a:Key)=Sum.inl b)=false:=decide_eq_false (fun q=>nomatch q)
def Z0N (prog:Program) (w:World):PySem.KeyKind prog w Key where
  is:=Z9h
  hash:=keyH w
  inj:=fun v a b ha hb=>by
    rcases Z1b ha with ⟨i,t,rfl,rfl⟩ | ⟨x,t,rfl,rfl⟩
    · rcases Z1b hb with ⟨j,u,rfl,e⟩ | ⟨y,u,rfl,e⟩
      · injection e with e1 _; rw [e1]
      · exact nomatch e
    · rcases Z1b hb with ⟨j,u,rfl,e⟩ | ⟨y,u,rfl,e⟩
      · exact nomatch e
      · injection e with e1 _; rw [e1]
  byValue:=fun k v h=>by
    rcases Z1b h with ⟨i,t,rfl,rfl⟩ | ⟨x,t,rfl,rfl⟩ <;> rfl
  pyHash:=fun hv h=>by
    rcases Z1b hv with ⟨i,t,rfl,rfl⟩ | ⟨x,t,rfl,rfl⟩
    · exact wpAny_pyHash_int h
    · exact wpAny_pyHash_str h
  eqBool:=fun hu hv h=>by
    rcases Z1b hu with ⟨i,t,rfl,rfl⟩ | ⟨x,t,rfl,rfl⟩
    · rcases Z1b hv with ⟨j,u,rfl,rfl⟩ | ⟨y,u,rfl,rfl⟩
      · rw [J6U] at h; exact wpAny_eqBool_int h
      · rw [J6C] at h; exact SeqAt.EqAt.int_str i t y u _ _ _ _ h
    · rcases Z1b hv with ⟨j,u,rfl,rfl⟩ | ⟨y,u,rfl,rfl⟩
      · rw [J7j] at h; exact SeqAt.EqAt.str_int x t j u _ _ _ _ h
      · rw [J6K] at h; exact wpAny_eqBool_str h
  «strs»:=fun k x t v h=>by
    rcases Z1b h with ⟨i,u,rfl,e⟩ | ⟨y,u,rfl,e⟩
    · exact nomatch e
    · injection e with e1 _
      subst e1
      cases v <;> rfl
theorem Z6Y (prog:Program) (w:World) (i:Int) (t:Tok):(Z0N prog w).is (.inl i) (.int i t)=true:=Z9G i t
theorem Z7s (prog:Program) (w:World) (x:Str) (t:Tok):(Z0N prog w).is (.inr x) (.str x t)=true:=J1e x t
end L2
namespace L2
open PySem PySem.Spec PyProof.Rows
inductive V where
  | non | bl (b:Bool) | int (i:Int) | str (x:Str) | byt (b:Array UInt8) | flt (b:UInt64) | ref (a:Addr) | ty (n:String)
  deriving DecidableEq
def RelV:V→Value→Prop
  | .non,u=>u=Value.none
  | .bl b,u=>u=Value.bool b
  | .int i,u=>∃ t,u=Value.int i t
  | .str x,u=>∃ t,u=Value.str x t
  | .byt b,u=>∃ t,u=Value.bytes b t
  | .flt b,u=>∃ t,u=Value.float b t
  | .ref a,u=>u=Value.ref a
  | .ty n,u=>u=Value.type n
abbrev Vals:List V→List Value→Prop:=Paired RelV
theorem Vals.length {xs:List V} {us:List Value} (r:Vals xs us):xs.length=us.length:=Paired.length r
theorem Vals.get:∀ {xs:List V} {us:List Value} {i:Nat} {x:V},Vals xs us→xs[i]?=some x→∃ u,us[i]?=some u∧RelV x u
  | _,_,_,_,.nil,e=>by simp at e
  | _,_,0,_,.cons r _,e=>by simp at e; subst e; exact ⟨_,rfl,r⟩
  | _,_,i+1,x,.cons _ t,e=>by
    obtain ⟨u,h1,h2⟩:=Vals.get (i:=i) (x:=x) t (by simpa using e)
    exact ⟨u,by simpa using h1,h2⟩
theorem Vals.set {x:V} {u:Value} (r:RelV x u):∀ {xs:List V} {us:List Value} (i:Nat),Vals xs us→Vals (xs.set i x) (us.set i u)
  | _,_,_,.nil=>.nil
  | _,_,0,.cons _ t=>.cons r t
  | _,_,i+1,.cons q t=>.cons q (Vals.set r i t)
theorem Vals.append:∀ {xs ys:List V} {us ws:List Value},Vals xs us→Vals ys ws→Vals (xs++ys) (us++ws)
  | _,_,_,_,.nil,s=>s
  | _,_,_,_,.cons r t,s=>.cons r (Vals.append t s)
theorem Vals.take:∀ {xs:List V} {us:List Value} (n:Nat),Vals xs us→Vals (xs.take n) (us.take n)
  | _,_,0,_=>.nil
  | _,_,_+1,.nil=>.nil
  | _,_,n+1,.cons r t=>.cons r (Vals.take n t)
theorem Vals.drop:∀ {xs:List V} {us:List Value} (n:Nat),Vals xs us→Vals (xs.drop n) (us.drop n)
  | _,_,0,r=>r
  | _,_,_+1,.nil=>.nil
  | _,_,n+1,.cons _ t=>Vals.drop n t
def RelO:Option V→Option Value→Prop
  | some v,some u=>RelV v u
  | none,none=>True
  | _,_=>False
def KV {κ:Type}:List (κ×V)→List (κ×Value)→Prop:=Paired fun (p:κ×V) (q:κ×Value)=>p.1=q.1∧RelV p.2 q.2
def kV:Key→V
  | .inl i=>.int i
  | .inr x=>.str x
inductive HO where
  | lst (xs:List V)
  | tup (xs:List V)
  | dK (kvs:List (Key×V)) | dT (kvs:List (List Key×V))
  | set (S:Int→Bool) (n:Nat)
  | ins (C dx:Addr) (fs:List (Str×V))
  | own (x:Addr)
  | xd (fs:List (Str×V))
  | met (f x:Addr)
  | rng (lo hi:Int)
  | frz (o:Obj) (u:HO)
  | tbl (ps:Array Value)
  | ext (φ:Heap→Prop)
abbrev Hp:=Addr→Option HO
def upd (H:Hp) (a:Addr) (o:HO):Hp:=fun b=>if b=a then some o else H b
theorem Z0g {H:Hp} {a:Addr} {o:HO}:upd H a o a=some o:=by unfold upd; rw [if_pos rfl]
theorem Z0j {H:Hp} {a b:Addr} {o:HO} (h:b≠a):upd H a o b=H b:=by unfold upd; rw [if_neg h]
theorem J9z {H:Hp} {a b:Addr} {o u:HO} (h:H a=some o) (h':H b=some u) (d:o≠u):a≠b:=by
  intro e; subst e; rw [h] at h'; exact d (Option.some.inj h')
theorem Z0m {H:Hp} {a b:Addr} {o:HO} (h:H a=some o) (h':H b=none):a≠b:=by
  intro e; subst e; rw [h] at h'; cases h'
section
variable (P:Program) (w:World)
def ObjOk (H:Hp) (h:Heap) (a:Addr):HO→Prop
  | .lst xs=>xs.length≤sizeLine∧∃ (its:List Value) (n:Nat),Vals xs its∧h.get? a=some { cls:=.type "list",data:=.seq its.toArray n }
  | .tup xs=>xs.length≤sizeLine∧∃ its:List Value,Vals xs its∧IsTup h a its.toArray
  | .dK kvs=>kvs.length≤sizeLine∧(a == sysModules)=false∧∃ vs,KV kvs vs∧h.DictOf (Z0N P w) a vs
  | .dT kvs=>kvs.length≤sizeLine∧(a == sysModules)=false∧∃ xs:List (List Key×Addr×Value),
      Paired (fun (p:List Key×V) (q:List Key×Addr×Value)=>p.1=q.1∧H q.2.1=some (.tup (p.1.map kV))∧RelV p.2 q.2.2) kvs xs ∧
      ∃ o es ep,h.get? a=some o∧o.ExactDict∧o.data=.dict es ep∧es.toList=xs.map (entryOfKey (tupleKind (Z0N P w)))∧(xs.map (·.1)).Nodup
  | .set S n=>h.SetOf (intKind P w) a S n
  | .ins C dx fs=>H dx=some (.own a)∧fs.length≤1000∧dx≠a∧h.get? a=some (W.instObj C dx) ∧
      ∃ mA,h.Ns1 dx mA∧(∀ f,RelO (fs.lookup f) (mA f))∧PySem.Within mA (fs.map (·.1))
  | .own _=>∃ o,h.get? a=some o
  | .xd fs=>∃ mA,h.Ns1 a mA∧∀ f,RelO (fs.lookup f) (mA f)
  | .rng lo hi=>∃ t u v,h.get? a=some { cls:=.type "range",data:=.fields #[.int lo t,.int hi u,.int 1 v] }
  | .frz o u=>h.get? a=some o∧ObjOk H h a u
  | .tbl ps=>h.get? a=some { cls:=.none,data:=.fields ps }
  | .met f x=>h.get? a=some (W.methodObj (.ref f) (.ref x))
  | .ext φ=>φ h∧(∃ o,h.get? a=some o)∧∀ h1 h2:Heap,φ h1→(∀ o,h1.get? a=some o→h2.get? a=some o)→φ h2
def HOk (H:Hp) (h:Heap):Prop:=∀ a o,H a=some o→ObjOk P w H h a o
end
section
variable {P:Program} {w:World} {H H':Hp} {h h':Heap} {a:Addr} {o:HO}
theorem ObjOk.lt (x:ObjOk P w H h a o):a < h.objs.size:=by
  cases o with
  | lst xs=>obtain ⟨_,_,_,_,e⟩:=x; exact Heap.lt_size e
  | tup xs=>obtain ⟨_,_,_,p⟩:=x; exact p.lt
  | dK kvs=>obtain ⟨_,_,_,_,o,_,_,e,_⟩:=x; exact Heap.lt_size e
  | dT kvs=>obtain ⟨_,_,_,_,o,_,_,e,_⟩:=x; exact Heap.lt_size e
  | set S n=>obtain ⟨o,_,_,_,e,_⟩:=x; exact Heap.lt_size e
  | ins C dx fs=>obtain ⟨_,_,_,e,_⟩:=x; exact Heap.lt_size e
  | own y=>obtain ⟨_,e⟩:=x; exact Heap.lt_size e
  | xd fs=>obtain ⟨_,⟨_,_,_,e,_⟩,_⟩:=x; exact Heap.lt_size e
  | rng lo hi=>obtain ⟨_,_,_,e⟩:=x; exact Heap.lt_size e
  | frz ob u=>obtain ⟨e,_⟩:=x; exact Heap.lt_size e
  | tbl ps=>exact Heap.lt_size (show h.get? a=some _ from x)
  | met f y=>exact Heap.lt_size (show h.get? a=some _ from x)
  | ext φ=>obtain ⟨_,⟨_,e⟩,_⟩:=x; exact Heap.lt_size e
theorem Paired.mapP {α β:Type} {F G:α→β→Prop}:∀ {l₁:List α} {l₂:List β},Paired F l₁ l₂→(∀ a b,F a b→G a b)→Paired G l₁ l₂
  | _,_,.nil,_=>.nil
  | _,_,.cons r t,f=>.cons (f _ _ r) (Paired.mapP t f)
theorem ObjOk.stay (x:ObjOk P w H h a o) (k:∀ b u,(b=a∨H b=some (.own a))→h.get? b=some u→h'.get? b=some u)
    (ho:∀ b,H b=some (.own a)→H' b=some (.own a)) (ht:∀ b xs,H b=some (.tup xs)→H' b=some (.tup xs)):ObjOk P w H' h' a o:=by
  induction o with
  | lst xs=>obtain ⟨z,its,n,r,e⟩:=x; exact ⟨z,its,n,r,k _ _ (.inl rfl) e⟩
  | tup xs=>obtain ⟨z,its,r,ob,e,c⟩:=x; exact ⟨z,its,r,ob,k _ _ (.inl rfl) e,c⟩
  | dK kvs=>obtain ⟨z,y,vs,r,ob,es,ep,e,c⟩:=x; exact ⟨z,y,vs,r,ob,es,ep,k _ _ (.inl rfl) e,c⟩
  | dT kvs=>
    obtain ⟨z,y,xs,r,ob,es,ep,e,c⟩:=x
    exact ⟨z,y,xs,Paired.mapP r fun p q z=>⟨z.1,ht _ _ z.2.1,z.2.2⟩,ob,es,ep,k _ _ (.inl rfl) e,c⟩
  | set S n=>obtain ⟨ob,es,ep,t,e,c⟩:=x; exact ⟨ob,es,ep,t,k _ _ (.inl rfl) e,c⟩
  | ins C dx fs=>
    obtain ⟨d,z,ne,e,mA,⟨od,es,ep,e2,c⟩,r⟩:=x
    exact ⟨ho _ d,z,ne,k _ _ (.inl rfl) e,mA,⟨od,es,ep,k _ _ (.inr d) e2,c⟩,r⟩
  | own y=>obtain ⟨ob,e⟩:=x; exact ⟨ob,k _ _ (.inl rfl) e⟩
  | xd fs=>obtain ⟨mA,⟨od,es,ep,e,c⟩,r⟩:=x; exact ⟨mA,⟨od,es,ep,k _ _ (.inl rfl) e,c⟩,r⟩
  | rng lo hi=>obtain ⟨t,u,v,e⟩:=x; exact ⟨t,u,v,k _ _ (.inl rfl) e⟩
  | frz ob u ih=>obtain ⟨e,q⟩:=x; exact ⟨k _ _ (.inl rfl) e,ih q⟩
  | tbl ps=>
    have e:h.get? a=some { cls:=.none,data:=.fields ps }:=x
    show h'.get? a=some { cls:=.none,data:=.fields ps }
    exact k a _ (.inl rfl) e
  | met f y=>
    have e:h.get? a=some (W.methodObj (.ref f) (.ref y)):=x
    show h'.get? a=some (W.methodObj (.ref f) (.ref y))
    exact k a _ (.inl rfl) e
  | ext φ=>obtain ⟨p,⟨o,e⟩,st⟩:=x; exact ⟨st _ _ p fun o q=>k _ _ (.inl rfl) q,⟨o,k _ _ (.inl rfl) e⟩,st⟩
theorem HOk.lt (x:HOk P w H h) (e:H a=some o):a < h.objs.size:=(x a o e).lt
theorem HOk.fresh (x:HOk P w H h) (e:h.objs.size≤a):H a=none:=by
  cases q:H a with
  | none=>rfl
  | some u=>exact absurd (Nat.lt_of_lt_of_le (x.lt q) e) (Nat.lt_irrefl _)
theorem HOk.kept (x:HOk P w H h) (k:∀ b u,h.get? b=some u→h'.get? b=some u):HOk P w H h':=fun a o e=>
  (x a o e).stay (fun b u _ q=>k b u q) (fun _ q=>q) fun _ _ q=>q
theorem HOk.laid (x:HOk P w H h) (k:∀ b u,h.get? b=some u→h'.get? b=some u) (hp:h.objs.size≤a) (new:ObjOk P w (upd H a o) h' a o):HOk P w (upd H a o) h':=fun b u e=>by
  have hn:=x.fresh hp
  by_cases hb:b=a
  · subst hb; rw [Z0g] at e; cases e; exact new
  · rw [Z0j hb] at e
    exact (x b u e).stay (fun c v _ q=>k c v q) (fun c q=>by rw [Z0j (Z0m q hn)]; exact q) fun c xs q=>by rw [Z0j (Z0m q hn)]; exact q
end
def Rd (H:Hp) (a:Addr) (u:HO):Prop:=H a=some u∨∃ o,H a=some (.frz o u)
theorem Rd.ok {P:Program} {w:World} {H:Hp} {h:Heap} {a:Addr} {u:HO} (r:Rd H a u) (x:HOk P w H h):ObjOk P w H h a u:=by
  rcases r with r | ⟨o,r⟩
  · exact x a u r
  · obtain ⟨_,q⟩:=x a _ r
    exact q
def Mut:Option HO→Prop
  | some (.lst _)=>True
  | some (.dK _)=>True
  | some (.dT _)=>True
  | some (.set _ _)=>True
  | some (.ins _ _ _)=>True
  | some (.ext _)=>True
  | _=>False
section
variable {P:Program} {w:World} {H:Hp} {h h':Heap} {x e:Addr} {o':HO}
theorem HOk.write (ok:HOk P w H h) (mu:Mut (H x)) (he:e=x∨H e=some (.own x)) (k:∀ b u,b≠e→h.get? b=some u→h'.get? b=some u) (heo:∃ u,h'.get? e=some u)
    (new:ObjOk P w (upd H x o') h' x o'):HOk P w (upd H x o') h':=fun b u q=>by
  have nown:∀ c y,H c=some (.own y)→c≠x:=fun c y r z=>by subst z; rw [r] at mu; exact mu
  have ntup:∀ c xs,H c=some (.tup xs)→c≠x:=fun c xs r z=>by subst z; rw [r] at mu; exact mu
  by_cases hb:b=x
  · subst hb; rw [Z0g] at q; cases q; exact new
  · rw [Z0j hb] at q
    by_cases hbe:b=e
    · have q':H b=some (.own x):=by
        rcases he with z | z
        · exact absurd (hbe.trans z) hb
        · rw [hbe]; exact z
      rw [q] at q'; cases q'
      obtain ⟨v,hv⟩:=heo
      exact ⟨v,by rw [hbe]; exact hv⟩
    · refine (ok b u q).stay (fun c v hc r=>k c v ?_ r) (fun c r=>by rw [Z0j (nown c b r)]; exact r) fun c xs r=>by rw [Z0j (ntup c xs r)]; exact r
      rcases hc with rfl | hc
      · exact hbe
      · rintro rfl
        rcases he with z | z
        · exact nown c b hc z
        · rw [hc] at z; cases z; exact hb rfl
end
structure Un (fs ex:List Addr) (H H':Hp) (h h':Heap):Prop where
  keep:∀ b o,h.get? b=some o→H b=none→b∉fs→b∉ex→h'.get? b=some o
  slot:∀ b o,h.get? b=some o→H b=none→b∈fs→b∉ex→∃ sl,h'.get? b=some { o with slots:=sl }
  free:∀ b o,h.get? b=some o→H b=none→b∉ex→H' b=none
  there:∀ b o,h.get? b=some o→b∉ex→∃ o',h'.get? b=some o'
  tups:∀ b xs,H b=some (.tup xs)→H' b=some (.tup xs)
  frzs:∀ b o u,H b=some (.frz o u)→H' b=some (.frz o u)
  tbls:∀ b ps,H b=some (.tbl ps)→∃ more,H' b=some (.tbl (ps++more))
section
variable {fs fs' ex ex':List Addr} {H H1 H2:Hp} {h h1 h2 h':Heap} {a x e:Addr} {o:HO}
theorem Un.any (u:Un fs ex H H1 h h1) {b:Addr} {ob:Obj} (q:h.get? b=some ob) (n:H b=none) (hx:b∉ex):∃ sl,h1.get? b=some { ob with slots:=sl }:=by
  by_cases hb:b∈fs
  · exact u.slot b ob q n hb hx
  · exact ⟨ob.slots,u.keep b ob q n hb hx⟩
theorem Un.kept (k:∀ b u,h.get? b=some u→h'.get? b=some u):Un fs ex H H h h':=
  ⟨fun b ob q _ _ _=>k b ob q,fun b ob q _ _ _=>⟨ob.slots,k b ob q⟩,fun _ _ _ n _=>n,fun b ob q _=>⟨ob,k b ob q⟩,fun _ _ q=>q,fun _ _ _ q=>q,fun _ ps q=>⟨#[],by rw [q]; simp⟩⟩
theorem Un.refl:Un fs ex H H h h:=Un.kept fun _ _ q=>q
theorem Un.laid (k:∀ b u,h.get? b=some u→h'.get? b=some u) (hp:h.objs.size≤a) (hn:H a=none):Un fs ex H (upd H a o) h h' where
  keep:=fun b u q _ _ _=>k b u q
  slot:=fun b u q _ _ _=>⟨u.slots,k b u q⟩
  free:=fun b u q n _=>by rw [Z0j (Nat.ne_of_lt (Nat.lt_of_lt_of_le (Heap.lt_size q) hp))]; exact n
  there:=fun b u q _=>⟨u,k b u q⟩
  tups:=fun b xs q=>by rw [Z0j (Z0m q hn)]; exact q
  frzs:=fun b u xs q=>by rw [Z0j (Z0m q hn)]; exact q
  tbls:=fun b ps q=>⟨#[],by rw [Z0j (Z0m q hn),q]; simp⟩
theorem Un.write (mu:Mut (H x)) (he:e=x∨H e=some (.own x)) (k:∀ b u,b≠e→h.get? b=some u→h'.get? b=some u) (heo:∃ u,h'.get? e=some u):Un fs ex H (upd H x o) h h':=by
  have hx:∀ b,H b=none→b≠x:=fun b n z=>by subst z; rw [n] at mu; exact mu
  have hb:∀ b,H b=none→b≠e:=fun b n z=>by
    subst z
    rcases he with r | r
    · exact hx b n r
    · rw [n] at r; cases r
  have hm:∀ b u,H b=some u→¬ Mut (some u)→b≠x:=fun b u q nm z=>by subst z; rw [q] at mu; exact nm mu
  refine ⟨fun b u q n _ _=>k b u (hb b n) q,fun b u q n _ _=>⟨u.slots,k b u (hb b n) q⟩,fun b u q n _=>by rw [Z0j (hx b n)]; exact n,fun b u q _=>?_,
    fun b xs q=>by rw [Z0j (hm b _ q fun z=>z)]; exact q,fun b u xs q=>by rw [Z0j (hm b _ q fun z=>z)]; exact q,fun b ps q=>⟨#[],by rw [Z0j (hm b _ q fun z=>z),q]; simp⟩⟩
  by_cases hbe:b=e
  · subst hbe; exact heo
  · exact ⟨u,k b u hbe q⟩
end
def trk (h:Heap) (H:Hp):List Addr:=(List.range h.objs.size).filter fun a=>(H a).isSome
def hidT (h:Heap) (H:Hp):Heap:=W.hideAll h (trk h H)
theorem J0n (h:Heap) (H:Hp):(hidT h H).objs.size=h.objs.size:=W.hideAll_size _ _
theorem J2i {h:Heap} {H:Hp} {b:Addr} {o:Obj} (e:h.get? b=some o) (n:H b=none):(hidT h H).get? b=some o:=
  W.hideAll_get _ e fun hm=>by
    have q:(H b).isSome=true:=(List.mem_filter.mp hm).2
    rw [n] at q; simp at q
theorem J5q {h:Heap} {H:Hp} {b:Addr} {o:Obj} (e:(hidT h H).get? b=some o):h.get? b=some o∧H b=none:=by
  have e':h.get? b=some o:=W.of_hideAll (trk h H) e
  refine ⟨e',?_⟩
  cases q:H b with
  | none=>rfl
  | some x=>
    have hm:b∈trk h H:=List.mem_filter.mpr ⟨List.mem_range.mpr (Heap.lt_size e'),by simp [q]⟩
    have z:(hidT h H).get? b=none:=W.hideAll_none (trk h H) hm
    rw [z] at e; cases e
def J4Z (g h:Heap) (L:Addr):List (Addr×Obj):=(List.range h.objs.size).filterMap fun a=>if a=L∨(g.get? a).isSome=true then none else (h.get? a).map fun o=>(a,o)
def rest (g h:Heap) (L d:Addr):List (Addr×Obj):=(J4Z g h L).filter fun p=>decide (p.1≠d)
end L2
namespace L2
open PySem PySem.Spec PyProof.Rows
structure Mod (K:W.Frag) (mg:Str→Option Value) (base:Heap):Prop where
  kin:K.In base
  glob:base.Ns mainGlobals mg
  blt:∃ mb,base.Ns builtinsNs mb∧∀ x:Str,x≠"__name__"→mb x=bootBuiltins x
  nolimit:base.NoLimit
structure Cx where
  prog:Program
  w:World
  K:W.Frag
  mg:Str→Option Value
  base:Heap
  A:Around
  N:List Str
  s₀:Shared
  H₀:Hp
  env:Env
  outer:List Env
  stack:List Env
  ex:List Addr
  fn:Str→Bool
  calm:Bool
  pn:List (Addr×Obj)
  xe:Value→Shared→Prop
def frs (l:List Env):List Addr:=l.filterMap (·.frame)
abbrev Cx.fs (X:Cx):List Addr:=frs X.outer
def Vis (sc:Scope) (x:Str):Prop:=sc.names.lookup x=some .local∨sc.names.lookup x=some .cell∨sc.names.lookup x=some .free
def Loc (sc:Scope) (x:Str):Prop:=sc.names.lookup x=some .local∨sc.names.lookup x=some .cell
def Look (env:Env) (h:Heap) (m:Str→Option Value) (x:Str) (u:Value):Prop:=
  (env.kindOf x=some .local∧m x=some u)∨((env.kindOf x=some .cell∨env.kindOf x=some .free)∧∃ c,env.cells.lookup x=some c∧h.IsCell c (some u))
structure Cx.Ok (X:Cx):Prop where
  mod:Mod X.K X.mg X.base
  kind:X.env.scope.kind=.function
  glob:X.env.globals=mainGlobals
  blt:X.env.builtins=builtinsNs
  above:X.s₀.heap.objs.size≤X.env.locals
  inj:∀ x y c,X.env.cells.lookup x=some c→X.env.cells.lookup y=some c→x=y
  has:∀ x,(X.env.kindOf x=some .cell∨X.env.kindOf x=some .free)→∃ c,X.env.cells.lookup x=some c
  cab:∀ x c,X.fn x=true→X.env.cells.lookup x=some c→X.s₀.heap.objs.size≤c
  hd:X.calm=true→X.A.handled=none
  frames:X.A.frames=some X.stack
  stk:X.stack=X.outer∨(X.stack=X.env::X.outer∧X.env.frame=some X.env.locals)
  exf:∀ b∈X.ex,b≠X.env.locals∧∀ x c,X.env.cells.lookup x=some c→c≠b
  bs:∀ b o,X.base.get? b=some o→X.s₀.heap.get? b=some o∧X.H₀ b=none
  bsz:X.base.objs.size≤X.s₀.heap.objs.size
  noex:∀ b o,X.base.get? b=some o→b∉X.ex
  exfs:∀ b∈X.ex,b∉X.fs
  funs:X.s₀.heap.FunFrames X.base X.outer
  frf:∀ b∈X.fs,X.H₀ b=none
structure Inv (X:Cx) (pins:List (Addr×Obj)) (σ:List (Option V)) (H:Hp) (s:Shared):Prop where
  ok:X.Ok
  os:s.os=X.s₀.os
  bare:AllBare s.gens
  base:Un X.fs X.ex X.H₀ H X.s₀.heap s.heap
  loc:∃ m,s.heap.Ns X.env.locals m∧∀ (i:Nat) (x:Str) (v:V),X.N[i]?=some x→σ[i]?=some (some v)→Vis X.env.scope x→∃ u,RelV v u∧Look X.env s.heap m x u
  cell:∀ x c,X.env.cells.lookup x=some c→∃ v,s.heap.IsCell c v
  free:H X.env.locals=none
  freeC:∀ x c,X.env.cells.lookup x=some c→H c=none
  pin:∀ p∈X.pn++pins,s.heap.get? p.1=some p.2∧H p.1=none∧p.1≠X.env.locals∧p.1∉X.fs∧∀ v,p.2.data≠.cell v
  hok:HOk X.prog X.w H s.heap
  len:σ.length=X.N.length
section
variable {X:Cx} {pins:List (Addr×Obj)} {σ:List (Option V)} {H H':Hp} {s:Shared} {h':Heap}
theorem Cx.Ok.nofr (ok:X.Ok) {b:Addr} {o:Obj} (e:X.base.get? b=some o):b∉X.fs:=fun hb=>by
  have:=(ok.funs.mem hb).1
  rw [e] at this; cases this
theorem Inv.bs (I:Inv X pins σ H s):∀ b o,X.base.get? b=some o→s.heap.get? b=some o∧H b=none:=fun b o e=>
  ⟨I.base.keep b o (I.ok.bs b o e).1 (I.ok.bs b o e).2 (I.ok.nofr e) (I.ok.noex b o e),I.base.free b o (I.ok.bs b o e).1 (I.ok.bs b o e).2 (I.ok.noex b o e)⟩
theorem Inv.bk (I:Inv X pins σ H s):∀ b o,X.base.get? b=some o→s.heap.get? b=some o:=fun b o e=>(I.bs b o e).1
theorem Inv.mod (I:Inv X pins σ H s):Mod X.K X.mg X.base:=I.ok.mod
theorem Inv.kIn (I:Inv X pins σ H s):X.K.In s.heap:=I.ok.mod.kin.keeps I.bk
theorem Inv.lt (I:Inv X pins σ H s):X.env.locals < s.heap.objs.size:=let ⟨_,hn,_⟩:=I.loc; hn.lt
theorem Inv.sz (I:Inv X pins σ H s):X.s₀.heap.objs.size≤s.heap.objs.size:=Nat.le_trans I.ok.above (Nat.le_of_lt I.lt)
theorem Inv.nofs (I:Inv X pins σ H s) {a:Addr} (h:s.heap.objs.size≤a):a∉X.fs:=fun hb=>by
  obtain ⟨_,o,ho,_⟩:=I.ok.funs.mem hb
  exact absurd (Nat.lt_of_lt_of_le (Heap.lt_size ho) (Nat.le_trans I.sz h)) (Nat.lt_irrefl _)
theorem Inv.cne (I:Inv X pins σ H s):∀ x c,X.env.cells.lookup x=some c→c≠X.env.locals:=fun x c e z=>by
  obtain ⟨v,o,ho,hd⟩:=I.cell x c e
  obtain ⟨m,⟨o',es,ep,ho',hd',_⟩,_⟩:=I.loc
  rw [z,ho'] at ho; cases ho; rw [hd'] at hd; cases hd
theorem Inv.funs (I:Inv X pins σ H s):s.heap.FunFrames X.base X.outer:=by
  have all:∀ (l:List Env),(∀ b∈frs l,b∈X.fs)→X.s₀.heap.FunFrames X.base l→s.heap.FunFrames X.base l:=by
    intro l
    induction l with
    | nil=>intro _ _; trivial
    | cons env r ih=>
      intro hs hl
      obtain ⟨hk,⟨L,o,hf,hn,ho,hd⟩,hr⟩:=hl
      have hL:L∈X.fs:=hs L (by unfold frs; rw [List.filterMap_cons,hf]; exact List.mem_cons_self)
      obtain ⟨sl,e⟩:=I.base.slot L o ho (I.ok.frf L hL) hL fun z=>I.ok.exfs L z hL
      exact ⟨hk,⟨L,_,hf,hn,e,hd⟩,ih (fun b hb=>hs b (by unfold frs; rw [List.filterMap_cons,hf]; exact List.mem_cons_of_mem _ hb)) hr⟩
  exact all X.outer (fun _ hb=>hb) I.ok.funs
theorem Inv.stack (I:Inv X pins σ H s):s.heap.FunFrames X.base X.stack:=by
  rcases I.ok.stk with e | ⟨e,hf⟩
  · rw [e]; exact I.funs
  · rw [e]
    obtain ⟨m,hn,_⟩:=I.loc
    refine .cons (by rw [I.ok.kind]; decide) hf hn ?_ I.funs
    exact Heap.get?_none_of_le (Nat.le_trans I.ok.bsz I.ok.above)
theorem Inv.stkSub (I:Inv X pins σ H s):∀ b∈frs X.stack,b∈X.env.locals::X.fs:=fun b hb=>by
  rcases I.ok.stk with e | ⟨e,hf⟩
  · rw [e] at hb; exact List.mem_cons_of_mem _ hb
  · rw [e] at hb
    unfold frs at hb
    rw [List.filterMap_cons,hf] at hb
    exact hb
theorem Inv.stkFree (I:Inv X pins σ H s):∀ b∈frs X.stack,H b=none:=fun b hb=>by
  rcases List.mem_cons.mp (I.stkSub b hb) with e | hb
  · rw [e]; exact I.free
  · obtain ⟨_,o,ho,_⟩:=I.ok.funs.mem hb
    exact I.base.free b o ho (I.ok.frf b hb) fun z=>I.ok.exfs b z hb
theorem Inv.step {g':Array GenState} {t':Nat} {d':Drawn} {ch:List Addr} (I:Inv X pins σ H s)
    (hch:∀ b∈ch,(b∈X.ex∨X.s₀.heap.objs.size≤b)∧b≠X.env.locals∧(∀ x c,X.env.cells.lookup x=some c→c≠b)∧∀ p∈X.pn++pins,p.1≠b)
    (keep:∀ b o,b≠X.env.locals→b∉X.fs→b∉ch→s.heap.get? b=some o→H b=none→h'.get? b=some o)
    (slot:∀ b o,b≠X.env.locals→b∈X.fs→b∉ch→s.heap.get? b=some o→H b=none→∃ sl,h'.get? b=some { o with slots:=sl }) (free:∀ b o,b∉ch→s.heap.get? b=some o→H b=none→H' b=none)
    (there:∀ b o,b∉ch→s.heap.get? b=some o→∃ o',h'.get? b=some o')
    (tups:∀ b xs,H b=some (.tup xs)→H' b=some (.tup xs)) (frzs:∀ b o u,H b=some (.frz o u)→H' b=some (.frz o u)) (tbls:∀ b ps,H b=some (.tbl ps)→∃ more,H' b=some (.tbl (ps++more)))
    (ns:∀ m,s.heap.Ns X.env.locals m→h'.Ns X.env.locals m) (hok:HOk X.prog X.w H' h') (hg:AllBare g') :
    Inv X pins σ H' { s with heap:=h',gens:=g',drawn:=d',toks:=t' }:=by
  have neL:∀ b o,X.s₀.heap.get? b=some o→b≠X.env.locals:=fun b o e=>Nat.ne_of_lt (Nat.lt_of_lt_of_le (Heap.lt_size e) I.ok.above)
  have neC:∀ b o,X.s₀.heap.get? b=some o→b∉X.ex→b∉ch:=fun b o e hx hb=>by
    rcases (hch b hb).1 with z | z
    · exact hx z
    · exact absurd (Nat.lt_of_lt_of_le (Heap.lt_size e) z) (Nat.lt_irrefl _)
  have cellK:∀ x c,X.env.cells.lookup x=some c→∀ v,s.heap.IsCell c v→h'.IsCell c v:=fun x c e v ⟨o,ho,hd⟩=>by
    have nch:c∉ch:=fun z=>(hch c z).2.2.1 x c e rfl
    by_cases hc:c∈X.fs
    · obtain ⟨sl,q⟩:=slot c o (I.cne x c e) hc nch ho (I.freeC x c e)
      exact ⟨_,q,hd⟩
    · exact ⟨o,keep c o (I.cne x c e) hc nch ho (I.freeC x c e),hd⟩
  refine ⟨I.ok,I.os,hg,⟨fun b o e n hb hx=>?_,fun b o e n hb hx=>?_,fun b o e n hx=>?_,fun b o e hx=>?_,fun b xs e=>tups b xs (I.base.tups b xs e),fun b o xs e=>frzs b o xs (I.base.frzs b o xs e),fun b ps e=>?_⟩,?_,fun x c e=>?_,?_,fun x c e=>?_,fun p hp=>?_,hok,I.len⟩
  · exact keep b o (neL b o e) hb (neC b o e hx) (I.base.keep b o e n hb hx) (I.base.free b o e n hx)
  · obtain ⟨sl,e1⟩:=I.base.slot b o e n hb hx
    obtain ⟨sl',e2⟩:=slot b _ (neL b o e) hb (neC b o e hx) e1 (I.base.free b o e n hx)
    exact ⟨sl',e2⟩
  · obtain ⟨o',e1⟩:=I.base.there b o e hx
    exact free b o' (neC b o e hx) e1 (I.base.free b o e n hx)
  · obtain ⟨o',e1⟩:=I.base.there b o e hx
    exact there b o' (neC b o e hx) e1
  · obtain ⟨m1,e1⟩:=I.base.tbls b ps e
    obtain ⟨m2,e2⟩:=tbls b _ e1
    exact ⟨m1++m2,by rw [e2,Array.append_assoc]⟩
  · obtain ⟨m,hn,hl⟩:=I.loc
    refine ⟨m,ns m hn,fun i x v e1 e2 e3=>?_⟩
    obtain ⟨u,r,l⟩:=hl i x v e1 e2 e3
    refine ⟨u,r,?_⟩
    rcases l with l | ⟨k,c,e,z⟩
    · exact .inl l
    · exact .inr ⟨k,c,e,cellK x c e _ z⟩
  · obtain ⟨v,z⟩:=I.cell x c e
    exact ⟨v,cellK x c e v z⟩
  · obtain ⟨m,⟨o,_,_,ho,_⟩,_⟩:=I.loc
    exact free _ o (fun z=>(hch _ z).2.1 rfl) ho I.free
  · obtain ⟨v,o,ho,hd⟩:=I.cell x c e
    exact free c o (fun z=>(hch c z).2.2.1 x c e rfl) ho (I.freeC x c e)
  · obtain ⟨e,n,ne,nf,d⟩:=I.pin p hp
    have nch:p.1∉ch:=fun z=>(hch p.1 z).2.2.2 p hp rfl
    exact ⟨keep p.1 p.2 ne nf nch e n,free p.1 p.2 nch e n,ne,nf,d⟩
theorem Inv.un {t':Nat} (I:Inv X pins σ H s) (u:Un X.fs [] H H' s.heap h') (hok:HOk X.prog X.w H' h'):Inv X pins σ H' { s with heap:=h',toks:=t' }:=by
  obtain ⟨m,⟨o,es,ep,ho,r⟩,_⟩:=id I.loc
  obtain ⟨sl,hL⟩:=u.any ho I.free (by simp)
  exact I.step (g':=s.gens) (d':=s.drawn) (ch:=[]) (fun _ z=>nomatch z) (fun b o _ hb _ e n=>u.keep b o e n hb (by simp)) (fun b o _ hb _ e n=>u.slot b o e n hb (by simp)) (fun b o _ e n=>u.free b o e n (by simp)) (fun b o _ e=>u.there b o e (by simp)) u.tups u.frzs u.tbls (fun m' hm=>by
    obtain ⟨o',es',ep',ho',r'⟩:=hm
    rw [ho] at ho'; cases ho'
    exact ⟨_,es',ep',hL,r'⟩) hok I.bare
theorem Inv.call {g':Array GenState} {t':Nat} {d':Drawn} {ch:List Addr} (I:Inv X pins σ H s) (u:Un (frs X.stack) ch H H' s.heap h') (hok:HOk X.prog X.w H' h') (hg:AllBare g')
    (hch:∀ b∈ch,(b∈X.ex∨X.s₀.heap.objs.size≤b)∧b≠X.env.locals∧(∀ x c,X.env.cells.lookup x=some c→c≠b)∧∀ p∈X.pn++pins,p.1≠b) :
    Inv X pins σ H' { s with heap:=h',gens:=g',drawn:=d',toks:=t' }:=by
  obtain ⟨m,⟨o,es,ep,ho,r⟩,_⟩:=id I.loc
  obtain ⟨sl,hL⟩:=u.any ho I.free fun z=>(hch _ z).2.1 rfl
  exact I.step (ch:=ch) hch (fun b o hL hb hc e n=>u.keep b o e n (fun z=>(List.mem_cons.mp (I.stkSub b z)).elim hL hb) hc) (fun b o _ _ hc e n=>u.any e n hc) (fun b o hc e n=>u.free b o e n hc) (fun b o hc e=>u.there b o e hc) u.tups u.frzs u.tbls (fun m' hm=>by
    obtain ⟨o',es',ep',ho',r'⟩:=hm
    rw [ho] at ho'; cases ho'
    exact ⟨_,es',ep',hL,r'⟩) hok hg
theorem Inv.turned {t':Nat} {it:Addr} (I:Inv X pins σ H s) (k:∀ b o,b≠it→s.heap.get? b=some o→h'.get? b=some o) (hn:H it=none) (hL:it≠X.env.locals)
    (h1:it∈X.ex∨X.s₀.heap.objs.size≤it) (h2:∀ x c,X.env.cells.lookup x=some c→c≠it) (h3:∀ p∈X.pn++pins,p.1≠it):Inv X pins σ H { s with heap:=h',toks:=t' }:=by
  have nit:∀ b u,H b=some u→b≠it:=fun b u e z=>by rw [z,hn] at e; cases e
  refine I.step (g':=s.gens) (d':=s.drawn) (ch:=[it]) (fun b hb=>?_) (fun b o _ _ hc e _=>k b o (fun z=>hc (by simp [z])) e) (fun b o _ _ hc e _=>⟨o.slots,k b o (fun z=>hc (by simp [z])) e⟩) (fun _ _ _ _ n=>n)
    (fun b o hc e=>⟨o,k b o (fun z=>hc (by simp [z])) e⟩) (fun _ _ e=>e) (fun _ _ _ e=>e) (fun b ps e=>⟨#[],by rw [e]; simp⟩) (fun m hm=>?_) (fun b u e=>?_) I.bare
  · have e:b=it:=by simpa using hb
    subst e
    exact ⟨h1,hL,h2,h3⟩
  · obtain ⟨o,es,ep,ho,r⟩:=hm
    exact ⟨o,es,ep,k _ o (Ne.symm hL) ho,r⟩
  · refine (I.hok b u e).stay (fun c v hc q=>k c v ?_ q) (fun _ q=>q) fun _ _ q=>q
    rcases hc with z | z
    · rw [z]; exact nit b u e
    · exact nit c _ z
theorem Inv.tok (I:Inv X pins σ H s) (t:Nat):Inv X pins σ H { s with toks:=t }:=I.un (h':=s.heap) (t':=t) Un.refl I.hok
theorem Inv.kept {t':Nat} (I:Inv X pins σ H s) (k:∀ b u,s.heap.get? b=some u→h'.get? b=some u):Inv X pins σ H { s with heap:=h',toks:=t' }:=I.un (Un.kept k) (I.hok.kept k)
theorem Inv.laid {a:Addr} {o:HO} {t':Nat} (I:Inv X pins σ H s) (k:∀ b u,s.heap.get? b=some u→h'.get? b=some u) (hp:s.heap.objs.size≤a) (new:ObjOk X.prog X.w (upd H a o) h' a o) :
    Inv X pins σ (upd H a o) { s with heap:=h',toks:=t' }:=I.un (Un.laid k hp (I.hok.fresh hp)) (I.hok.laid k hp new)
theorem Inv.write {x e:Addr} {o:HO} {t':Nat} (I:Inv X pins σ H s) (mu:Mut (H x)) (he:e=x∨H e=some (.own x)) (k:∀ b u,b≠e→s.heap.get? b=some u→h'.get? b=some u) (heo:∃ u,h'.get? e=some u)
    (new:ObjOk X.prog X.w (upd H x o) h' x o):Inv X pins σ (upd H x o) { s with heap:=h',toks:=t' }:=I.un (Un.write mu he k heo) (I.hok.write mu he k heo new)
theorem Inv.pins_of {pins':List (Addr×Obj)} (I:Inv X pins σ H s) (h:∀ p∈pins',s.heap.get? p.1=some p.2∧H p.1=none∧p.1≠X.env.locals∧p.1∉X.fs∧∀ v,p.2.data≠.cell v):Inv X pins' σ H s:=
  ⟨I.ok,I.os,I.bare,I.base,I.loc,I.cell,I.free,I.freeC,fun p hp=>(List.mem_append.mp hp).elim (fun z=>I.pin p (List.mem_append_left _ z)) (h p),I.hok,I.len⟩
theorem Z7B {N:List Str} (hN:N.Nodup) {i j:Nat} {x:Str} (a:N[i]?=some x) (b:N[j]?=some x):i=j:=by
  obtain ⟨h1,e1⟩:=List.getElem?_eq_some_iff.mp a
  obtain ⟨h2,e2⟩:=List.getElem?_eq_some_iff.mp b
  exact (List.getElem_inj hN).mp (e1.trans e2.symm)
theorem Z6w {M:Model} {A:Around} {E:Value→Shared→Prop} {i:Nat} {x:Str} {v:V} {u:Value} {Q:Unit→Shared→Prop} (I:Inv X pins σ H s) (hN:X.N.Nodup) (hi:X.N[i]?=some x) (hx:Loc X.env.scope x) (r:RelV v u)
    (h:∀ s',Inv X pins (σ.set i (some v)) H s'→(∃ a,Heap.SameBut a s.heap s'.heap∧(a=X.env.locals∨X.env.cells.lookup x=some a))→Q () s') (hf:X.fn x=true∨X.env.scope.names.lookup x=some .local:=by first | exact .inl rfl | exact .inr rfl | assumption):wpAny M A (storeName X.env x u) Q E s:=by
  obtain ⟨m,hn,hl⟩:=id I.loc
  have hcls:(X.env.scope.kind == .class || (X.env.scope.kind == .module&&X.env.locals != X.env.globals))=false:=by rw [I.ok.kind]; rfl
  have hiσ:i < σ.length:=by rw [I.len]; exact (List.getElem?_eq_some_iff.mp hi).1
  have cne:=I.cne
  have tracked:∀ {a:Addr} {h':Heap},(∃ o,s.heap.get? a=some o∧H a=none)→Heap.SameBut a s.heap h'→HOk X.prog X.w H h':=fun {a h'} ha hs b ob e=>by
    obtain ⟨_,_,hfree⟩:=ha
    refine (I.hok b ob e).stay (fun c w' hc q=>(hs.2 c ?_).trans q) (fun _ q=>q) fun _ _ q=>q
    rintro rfl
    rcases hc with rfl | hc
    · rw [hfree] at e; cases e
    · rw [hfree] at hc; cases hc
  rcases hx with hk | hk
  · refine wpAny_storeName_local hk hn (fun h' hn' hs=>?_) hcls
    obtain ⟨oL,_,_,hoL,_⟩:=id hn
    refine h _ ⟨I.ok,I.os,I.bare,⟨fun b o e n hb hx=>?_,fun b o e n hb hx=>?_,I.base.free,fun b o e hx=>?_,I.base.tups,I.base.frzs,I.base.tbls⟩,⟨_,hn',fun j y v' e1 e2 e3=>?_⟩,fun y c e=>?_,I.free,I.freeC,fun p hp=>?_,tracked ⟨oL,hoL,I.free⟩ hs,by simpa using I.len⟩ ⟨_,hs,.inl rfl⟩
    · exact (hs.2 b (Nat.ne_of_lt (Nat.lt_of_lt_of_le (Heap.lt_size e) I.ok.above))).trans (I.base.keep b o e n hb hx)
    · obtain ⟨sl,e1⟩:=I.base.slot b o e n hb hx
      exact ⟨sl,(hs.2 b (Nat.ne_of_lt (Nat.lt_of_lt_of_le (Heap.lt_size e) I.ok.above))).trans e1⟩
    · obtain ⟨o',e1⟩:=I.base.there b o e hx
      exact ⟨o',(hs.2 b (Nat.ne_of_lt (Nat.lt_of_lt_of_le (Heap.lt_size e) I.ok.above))).trans e1⟩
    · by_cases hj:j=i
      · subst hj
        rw [hi] at e1; cases e1
        rw [List.getElem?_set_self hiσ] at e2
        cases e2
        exact ⟨u,r,.inl ⟨hk,by simp⟩⟩
      · rw [List.getElem?_set_ne (Ne.symm hj)] at e2
        obtain ⟨u',r',q⟩:=hl j y v' e1 e2 e3
        refine ⟨u',r',?_⟩
        rcases q with ⟨k,e⟩ | ⟨k,c,e,z⟩
        · refine .inl ⟨k,?_⟩
          have:y≠x:=fun e=>hj (Z7B hN e1 (e▸hi))
          simp [this,e]
        · exact .inr ⟨k,c,e,z.sameBut hs (cne y c e)⟩
    · obtain ⟨w',z⟩:=I.cell y c e
      exact ⟨w',z.sameBut hs (cne y c e)⟩
    · obtain ⟨e,n,ne,nf,d⟩:=I.pin p hp
      exact ⟨(hs.2 p.1 ne).trans e,n,ne,nf,d⟩
  · have hfn:X.fn x=true:=by
      rcases hf with z | z
      · exact z
      · rw [z] at hk; cases hk
    obtain ⟨c,hc⟩:=I.ok.has x (.inl hk)
    obtain ⟨w',z⟩:=I.cell x c hc
    refine wpAny_storeName_cell I.ok.kind hk hc z (fun h' hc' hs=>?_)
    obtain ⟨oc,hoc,hocd⟩:=id z
    refine h { s with heap:=h' } ⟨I.ok,I.os,I.bare,⟨fun b o e n hb hx=>?_,fun b o e n hb hx=>?_,I.base.free,fun b o e hx=>?_,I.base.tups,I.base.frzs,I.base.tbls⟩,⟨m,hn.sameBut hs (Ne.symm (cne x c hc)),fun j y v' e1 e2 e3=>?_⟩,fun y c' e=>?_,I.free,I.freeC,fun p hp=>?_,tracked ⟨oc,hoc,I.freeC x c hc⟩ hs,by simpa using I.len⟩ ⟨c,hs,.inr hc⟩
    · exact (hs.2 b (Nat.ne_of_lt (Nat.lt_of_lt_of_le (Heap.lt_size e) (I.ok.cab x c hfn hc)))).trans (I.base.keep b o e n hb hx)
    · obtain ⟨sl,e1⟩:=I.base.slot b o e n hb hx
      exact ⟨sl,(hs.2 b (Nat.ne_of_lt (Nat.lt_of_lt_of_le (Heap.lt_size e) (I.ok.cab x c hfn hc)))).trans e1⟩
    · obtain ⟨o',e1⟩:=I.base.there b o e hx
      exact ⟨o',(hs.2 b (Nat.ne_of_lt (Nat.lt_of_lt_of_le (Heap.lt_size e) (I.ok.cab x c hfn hc)))).trans e1⟩
    · by_cases hj:j=i
      · subst hj
        rw [hi] at e1; cases e1
        rw [List.getElem?_set_self hiσ] at e2
        cases e2
        exact ⟨u,r,.inr ⟨.inl hk,c,hc,hc'⟩⟩
      · rw [List.getElem?_set_ne (Ne.symm hj)] at e2
        obtain ⟨u',r',q⟩:=hl j y v' e1 e2 e3
        refine ⟨u',r',?_⟩
        rcases q with q | ⟨k,c',e,z'⟩
        · exact .inl q
        · refine .inr ⟨k,c',e,z'.sameBut hs ?_⟩
          rintro rfl
          exact hj (Z7B hN e1 (I.ok.inj _ _ _ e hc▸hi))
    · by_cases hcc:c'=c
      · subst hcc; exact ⟨_,hc'⟩
      · obtain ⟨w2,z2⟩:=I.cell y c' e
        exact ⟨w2,z2.sameBut hs hcc⟩
    · obtain ⟨e,n,ne,nf,d⟩:=I.pin p hp
      refine ⟨(hs.2 p.1 ?_).trans e,n,ne,nf,d⟩
      intro q
      rw [q,hoc] at e
      have q':oc=p.2:=Option.some.inj e
      exact d w' (by rw [← q']; exact hocd)
theorem Z5A {M:Model} {A:Around} {E:Value→Shared→Prop} {i:Nat} {x:Str} {v:V} {u:Value} {Q:Unit→Shared→Prop} (I:Inv X pins σ H s) (hN:X.N.Nodup) (hi:X.N[i]?=some x) (hx:Loc X.env.scope x) (r:RelV v u)
    (h:∀ s',Inv X pins (σ.set i (some v)) H s'→Q () s') (hf:X.fn x=true∨X.env.scope.names.lookup x=some .local:=by first | exact .inl rfl | exact .inr rfl | assumption):wpAny M A (storeName X.env x u) Q E s:=
  Z6w I hN hi hx r (fun s' I' _=>h s' I') hf
end
abbrev XK:=Value→Option Addr→Hp→Prop
abbrev St:=List (Option V)
abbrev VK:=V→Hp→Prop
abbrev TE:=St→Hp→VK→Prop
abbrev TT:=St→Hp→(Bool→Hp→Prop)→Prop
abbrev TA:=St→Hp→(List V→Hp→Prop)→Prop
structure Ends where
  nx:St→Hp→Prop
  rt:VK
  bk:St→Hp→Prop:=fun _ _=>False
  ct:St→Hp→Prop:=fun _ _=>False
abbrev TS:=Ends→St→Hp→Prop
def EP (X:Cx) (pins:List (Addr×Obj)) (σ:St) (Q:VK) (u:Value) (s':Shared):Prop:=∃ v H',Inv X pins σ H' s'∧RelV v u∧Q v H'
def TP (X:Cx) (pins:List (Addr×Obj)) (σ:St) (Q:Bool→Hp→Prop) (b:Bool) (s':Shared):Prop:=∃ H',Inv X pins σ H' s'∧Q b H'
def AP (X:Cx) (pins:List (Addr×Obj)) (σ:St) (Q:List V→Hp→Prop) (us:List Value) (s':Shared):Prop:=∃ vs H',Inv X pins σ H' s'∧Vals vs us∧Q vs H'
def SP (X:Cx) (pins:List (Addr×Obj)) (D:Ends) (f:Flow) (s':Shared):Prop:=
  match f with
  | .next=>∃ σ' H',Inv X pins σ' H' s'∧D.nx σ' H'
  | .brk=>∃ σ' H',Inv X pins σ' H' s'∧D.bk σ' H'
  | .cont=>∃ σ' H',Inv X pins σ' H' s'∧D.ct σ' H'
  | .ret u=>∃ v σ' H',Inv X pins σ' H' s'∧RelV v u∧D.rt v H'
def PE (X:Cx) (e:Expr) (t:TE):Prop:=
  ∀ (pins:List (Addr×Obj)) (s:Shared) (σ:St) (H:Hp) (Q:VK),Inv X pins σ H s→t σ H Q→wpAny (model X.prog X.w) X.A (eval e X.env) (EP X pins σ Q) X.xe s
def PT (X:Cx) (e:Expr) (t:TT):Prop:=
  ∀ (pins:List (Addr×Obj)) (s:Shared) (σ:St) (H:Hp) (Q:Bool→Hp→Prop),Inv X pins σ H s→t σ H Q→wpAny (model X.prog X.w) X.A (isTrue e X.env (eval e X.env)) (TP X pins σ Q) X.xe s
def PW (X:Cx) (e:Expr) (t:TT):Prop:=
  ∀ (whole:Sem Value) (pins:List (Addr×Obj)) (s:Shared) (σ:St) (H:Hp) (Q:Bool→Hp→Prop),Inv X pins σ H s→t σ H Q→wpAny (model X.prog X.w) X.A (isTrue e X.env whole) (TP X pins σ Q) X.xe s
theorem PW.pt {X:Cx} {e:Expr} {t:TT} (h:PW X e t):PT X e t:=h _
def PA (X:Cx) (es:List Expr) (t:TA):Prop:=
  ∀ (pos:Pos) (pins:List (Addr×Obj)) (s:Shared) (σ:St) (H:Hp) (Q:List V→Hp→Prop),Inv X pins σ H s→t σ H Q→wpAny (model X.prog X.w) X.A (spliced (backTo pos (starEach es X.env))) (AP X pins σ Q) X.xe s
def PS (X:Cx) (st:Stmt) (t:TS):Prop:=
  ∀ (pins:List (Addr×Obj)) (s:Shared) (σ:St) (H:Hp) (D:Ends),Inv X pins σ H s→t D σ H→wpAny (model X.prog X.w) X.A (exec st X.env) (SP X pins D) X.xe s
def PSs (X:Cx) (st:List Stmt) (t:TS):Prop:=
  ∀ (pins:List (Addr×Obj)) (s:Shared) (σ:St) (H:Hp) (D:Ends),Inv X pins σ H s→t D σ H→wpAny (model X.prog X.w) X.A (execs st X.env) (SP X pins D) X.xe s
theorem thn {α:Type} {t:Sem α} {Q Q':α→Shared→Prop} {M:Model} {A:Around} {E:Value→Shared→Prop} {s:Shared} (h:wpAny M A t Q E s) (hQ:∀ a s,Q a s→Q' a s):wpAny M A t Q' E s:=wpAny_mono h hQ fun _ _ x=>x
end L2
namespace L2
open PySem PySem.Spec PyProof.Rows
section
variable {X:Cx}
theorem bin {a b:Expr} {ta tb:TE} (ha:PE X a ta) (hb:PE X b tb) {pins:List (Addr×Obj)} {s:Shared} {σ:St} {H:Hp} {R:V→V→Hp→Prop} (I:Inv X pins σ H s) (h:ta σ H fun x H1=>tb σ H1 fun y H2=>R x y H2)
    {α:Type} {Q:α→Shared→Prop} {f:Value→Value→Sem α}
    (hf:∀ v u s2 x y H2,Inv X pins σ H2 s2→RelV x v→RelV y u→R x y H2→wpAny (model X.prog X.w) X.A (f v u) Q X.xe s2) :
    wpAny (model X.prog X.w) X.A (eval a X.env) (fun v s₁=>wpAny (model X.prog X.w) X.A (eval b X.env) (fun u s₂=>wpAny (model X.prog X.w) X.A (f v u) Q X.xe s₂) X.xe s₁) X.xe s:=by
  refine thn (ha pins s σ H _ I h) fun v s1 ⟨x,H1,I1,r1,q1⟩=>?_
  refine thn (hb pins s1 σ H1 _ I1 q1) fun u s2 ⟨y,H2,I2,r2,q2⟩=>?_
  exact hf v u s2 x y H2 I2 r1 r2 q2
def tVar (i:Nat):TE:=fun σ H Q=>∃ v,σ[i]?=some (some v)∧Q v H
def tC (v:V):TE:=fun _ H Q=>Q v H
theorem J6E {i:Nat} {x:Str} {pos:Pos} (hN:X.N[i]?=some x) (hv:Vis X.env.scope x) (hd:(x == ("__debug__":Str))=false:=by decide) (hcd:(x == ("__classdict__":Str))=false:=by decide):PE X (.Name x pos) (tVar i):=by
  intro pins s σ H Q I h
  obtain ⟨v,e,h⟩:=h
  obtain ⟨m,hn,hl⟩:=I.loc
  obtain ⟨u,r,l⟩:=hl i x v hN e hv
  have fin:EP X pins σ Q u s:=⟨v,H,I,r,h⟩
  rcases l with ⟨hk,hm⟩ | ⟨hk,c,hc,hcell⟩
  · exact wpAny_Name (wpAny_loadName_local I.ok.kind hk hn hm fin) hd
  · rcases hk with hk | hk
    · exact wpAny_Name (wpAny_loadName_cell I.ok.kind hk hc hcell fin) hd
    · exact wpAny_Name (wpAny_loadName_free I.ok.kind hk hc hcell fin hcd) hd
theorem Z0h {i j pos}:PE X (.Constant (.int i) j pos) (tC (.int i)):=fun _ _ _ H _ I h=>wpAny_Constant_int ⟨.int i,H,I.tok _,⟨_,rfl⟩,h⟩
theorem J5S {b j pos}:PE X (.Constant (.bool b) j pos) (tC (.bl b)):=fun _ _ _ H _ I h=>Constant_bool ⟨.bl b,H,I,rfl,h⟩
theorem Z2e {j pos}:PE X (.Constant .none j pos) (tC .non):=fun _ _ _ H _ I h=>Constant_none ⟨.non,H,I,rfl,h⟩
theorem Z0f {x j pos}:PE X (.Constant (.str x) j pos) (tC (.str x)):=fun _ _ _ H _ I h=>Calls.Constant_str ⟨.str x,H,I.tok _,⟨_,rfl⟩,h⟩
def Gl (X:Cx) (x:Str):Prop:=X.env.kindOf x=some .globalImplicit
theorem Z5E {E:Value→Shared→Prop} {pins:List (Addr×Obj)} {s:Shared} {σ:St} {H:Hp} {x:Str} {u:Value} {pos:Pos} {Q:Value→Shared→Prop} (I:Inv X pins σ H s) (hg:Gl X x) (hm:X.mg x=some u) (h:Q u s)
    (hd:(x == ("__debug__":Str))=false:=by decide):wpAny (model X.prog X.w) X.A (eval (.Name x pos) X.env) Q E s:=
  Calls.Name_function_global I.ok.kind hg (Calls.loadGlobal_global (by rw [I.ok.glob]; exact I.mod.glob.keeps I.bk) hm h) hd
theorem Z2A {E:Value→Shared→Prop} {pins:List (Addr×Obj)} {s:Shared} {σ:St} {H:Hp} {x:Str} {u:Value} {pos:Pos} {Q:Value→Shared→Prop} (I:Inv X pins σ H s) (hg:Gl X x) (hm:X.mg x=none) (hv:bootBuiltins x=some u) (h:Q u s)
    (hn:x≠"__name__":=by decide) (hd:(x == ("__debug__":Str))=false:=by decide):wpAny (model X.prog X.w) X.A (eval (.Name x pos) X.env) Q E s:=by
  obtain ⟨mb,h1,h2⟩:=I.mod.blt
  exact Calls.Name_function_global I.ok.kind hg (Calls.loadGlobal_builtin (by rw [I.ok.glob]; exact I.mod.glob.keeps I.bk) hm (by rw [I.ok.blt]; exact h1.keeps I.bk) ((h2 x hn).trans hv) h) hd
theorem J4r {x:Str} {v:V} {u:Value} {pos:Pos} (hg:Gl X x) (hm:X.mg x=some u) (r:RelV v u) (hd:(x == ("__debug__":Str))=false:=by decide):PE X (.Name x pos) (tC v):=
  fun _ _ _ H _ I h=>Z5E I hg hm ⟨v,H,I,r,h⟩ hd
theorem J4t {x:Str} {v:V} {u:Value} {pos:Pos} (hg:Gl X x) (hm:X.mg x=none) (hv:bootBuiltins x=some u) (r:RelV v u) (hn:x≠"__name__":=by decide) (hd:(x == ("__debug__":Str))=false:=by decide):PE X (.Name x pos) (tC v):=
  fun _ _ _ H _ I h=>Z2A I hg hm hv ⟨v,H,I,r,h⟩ hn hd
variable {a b:Expr} {ta tb:TE} {pos:Pos}
def PC (X:Cx) (op:CmpOp) (a b:Expr) (t:TE):Prop:=
  ∀ (pins:List (Addr×Obj)) (s:Shared) (σ:St) (H:Hp) (Q:VK),Inv X pins σ H s→t σ H Q →
    wpAny (model X.prog X.w) X.A (eval a X.env) (fun v s₁=>wpAny (model X.prog X.w) X.A (eval b X.env) (fun u s₂=>wpAny (model X.prog X.w) X.A (compareOp op v u) (EP X pins σ Q) X.xe s₂) X.xe s₁) X.xe s
theorem J1W (b:Expr) {op:CmpOp} (h:op≠.In) (h2:op≠.NotIn):behindInMarks op b=false:=by
  have e1:(op == CmpOp.In)=false:=by cases op <;> first | rfl | exact absurd rfl h
  have e2:(op == CmpOp.NotIn)=false:=by cases op <;> first | rfl | exact absurd rfl h2
  cases b <;> simp [behindInMarks,e1,e2]
def tB (t:TE):TT:=fun σ H Q=>t σ H fun x H1=>∃ c,x=.bl c∧Q c H1
theorem J9S {op:CmpOp} {t:TE} (h:PC X op a b t) (h1:behindInMarks op b=false:=by first | exact J1W _ (by decide) (by decide) | rfl):PT X (.Compare a [op] [b] pos) (tB t):=by
  intro pins s σ H Q I hw
  refine wpAny_isTrue_Compare1 (thn (h pins s σ H _ I hw) fun v s1 h1=>thn h1 fun u s2 h2=>thn h2 fun c s3 ⟨x,H1,I1,r1,q1⟩=>?_) h1
  obtain ⟨d,rfl,q⟩:=q1
  cases r1
  exact wpAny_truthy_bool ⟨H1,I1,q⟩
theorem Z7K {e:Expr} {t:TE} (h:PE X e t) (he:∀ whole,isTrue e X.env whole=(do let v ← whole; standAt e.pos; holding [v] (truthy v)):=by intro _; rfl):PT X e (tB t):=by
  intro pins s σ H Q I hw
  refine isTrue_plain (thn (h pins s σ H _ I hw) fun v s1 ⟨x,H1,I1,r1,q1⟩=>?_) (he _)
  obtain ⟨d,rfl,q⟩:=q1
  cases r1
  exact wpAny_truthy_bool ⟨H1,I1,q⟩
variable {tA tB':TT} {rest:List Expr}
def tAnd (t u:TT):TT:=fun σ H Q=>t σ H fun c H1=>if c=true then u σ H1 Q else Q false H1
def tOr (t u:TT):TT:=fun σ H Q=>t σ H fun c H1=>if c=true then Q true H1 else u σ H1 Q
def tNot (t:TT):TT:=fun σ H Q=>t σ H fun c H1=>Q (!c) H1
theorem Z5G (ha:PT X a tA):PW X (.BoolOp .And [a] pos) tA:=by
  intro wh pins s σ H Q I h
  refine isTrue_and (thn (ha pins s σ H Q I h) fun c s1 e=>?_)
  cases c with
  | true=>exact isTrue_and_nil e
  | false=>exact e
theorem Z8a (ha:PT X a tA) (hb:PW X (.BoolOp .And (b::rest) pos) tB'):PW X (.BoolOp .And (a::b::rest) pos) (tAnd tA tB'):=by
  intro wh pins s σ H Q I h
  refine isTrue_and (thn (ha pins s σ H _ I h) fun c s1 ⟨H1,I1,q1⟩=>?_)
  cases c with
  | true=>exact hb wh pins s1 σ H1 Q I1 q1
  | false=>exact ⟨H1,I1,q1⟩
theorem J3K (ha:PT X a tA):PT X (.UnaryOp .Not a pos) (tNot tA):=by
  intro pins s σ H Q I h
  exact isTrue_not (ha pins s σ H (fun c H1=>Q (!c) H1) I h)
def J6o (ta tb:TE):TE:=fun σ H Q=>ta σ H fun x H1=>∃ c,x=.bl c∧if c=true then tb σ H1 Q else Q (.bl false) H1
def tOrV (ta tb:TE):TE:=fun σ H Q=>ta σ H fun x H1=>∃ c,x=.bl c∧if c=true then Q (.bl true) H1 else tb σ H1 Q
def J6e (ta:TE):TE:=fun σ H Q=>ta σ H fun x H1=>∃ c,x=.bl c∧Q (.bl (!c)) H1
theorem J0K {op} {t:TE} (h:PE X a t):PE X (.BoolOp op [a] pos) t:=fun pins s σ H Q I hw=>BoolOp_one (h pins s σ H Q I hw)
theorem J3r (ha:PE X a ta) (hb:PE X (.BoolOp .And (b::rest) pos) tb):PE X (.BoolOp .And (a::b::rest) pos) (J6o ta tb):=by
  intro pins s σ H Q I h
  refine BoolOp_and (thn (ha pins s σ H _ I h) fun v s1 ⟨x,H1,I1,r1,q1⟩=>?_)
  obtain ⟨c,rfl,q1⟩:=q1
  cases r1
  refine wpAny_truthy_bool ?_
  cases c with
  | true=>exact hb pins s1 σ H1 Q I1 q1
  | false=>exact ⟨.bl false,H1,I1,rfl,q1⟩
theorem J9r (ha:PE X a ta) (hb:PE X (.BoolOp .Or (b::rest) pos) tb):PE X (.BoolOp .Or (a::b::rest) pos) (tOrV ta tb):=by
  intro pins s σ H Q I h
  refine BoolOp_or (thn (ha pins s σ H _ I h) fun v s1 ⟨x,H1,I1,r1,q1⟩=>?_)
  obtain ⟨c,rfl,q1⟩:=q1
  cases r1
  refine wpAny_truthy_bool ?_
  cases c with
  | false=>exact hb pins s1 σ H1 Q I1 q1
  | true=>exact ⟨.bl true,H1,I1,rfl,q1⟩
theorem J7r (ha:PE X a ta):PE X (.UnaryOp .Not a pos) (J6e ta):=by
  intro pins s σ H Q I h
  refine UnaryOp_ (thn (ha pins s σ H _ I h) fun v s1 ⟨x,H1,I1,r1,q1⟩=>?_)
  obtain ⟨c,rfl,q1⟩:=q1
  cases r1
  exact not_of (wpAny_truthy_bool ⟨.bl (!c),H1,I1,rfl,q1⟩)
def tIf (t:TT) (ta tb:TE):TE:=fun σ H Q=>t σ H fun c H1=>if c=true then ta σ H1 Q else tb σ H1 Q
end
end L2
namespace L2
open PySem PySem.Spec PyProof.Rows
def SqL (K:W.Frag) (H:Hp) (a:Addr) (xs:List V):Prop:=
  Rd H a (.lst xs) ∨
    ∃ (o:Obj) (its:Array Value) (n:Nat),K.lookup a=some o∧o.cls=.type "list"∧o.dict=none∧o.data=.seq its n∧its.size≤sizeLine∧Vals xs its.toList
def SqT (K:W.Frag) (H:Hp) (a:Addr) (xs:List V):Prop:=
  Rd H a (.tup xs) ∨
    ∃ (o:Obj) (its:Array Value) (n:Nat),K.lookup a=some o∧o.cls=.type "tuple"∧o.data=.seq its n∧its.size≤sizeLine∧Vals xs its.toList
def absV:Value→Option V
  | .none=>some .non
  | .bool b=>some (.bl b)
  | .int i _=>some (.int i)
  | .str x _=>some (.str x)
  | .bytes b _=>some (.byt b)
  | .float b _=>some (.flt b)
  | .ref a=>some (.ref a)
  | .type n=>some (.ty n)
  | _=>none
theorem RelV.abs {x:V} {u:Value} (r:RelV x u):absV u=some x:=by
  cases x with
  | non=>cases r; rfl
  | bl _=>cases r; rfl
  | int _=>obtain ⟨t,rfl⟩:=r; rfl
  | str _=>obtain ⟨t,rfl⟩:=r; rfl
  | byt _=>obtain ⟨t,rfl⟩:=r; rfl
  | flt _=>obtain ⟨t,rfl⟩:=r; rfl
  | ref _=>cases r; rfl
  | ty _=>cases r; rfl
theorem RelV.inj {x y:V} {u:Value} (r:RelV x u) (q:RelV y u):x=y:=Option.some.inj (r.abs.symm.trans q.abs)
theorem Vals.inj:∀ {xs ys:List V} {us:List Value},Vals xs us→Vals ys us→xs=ys
  | _,_,_,.nil,.nil=>rfl
  | _,_,_,.cons r t,.cons r' t'=>by rw [r.inj r',Vals.inj t t']
section
variable {X:Cx} {pins:List (Addr×Obj)} {σ:St} {H:Hp} {s:Shared} {a:Addr} {xs ys:List V}
theorem SqL.of {K:W.Frag} (h:H a=some (.lst xs)):SqL K H a xs:=.inl (.inl h)
theorem SqT.of {K:W.Frag} (h:H a=some (.tup xs)):SqT K H a xs:=.inl (.inl h)
theorem Inv.list (I:Inv X pins σ H s) (h:SqL X.K H a xs):∃ its:List Value,Vals xs its∧PlainL s.heap a its.toArray∧xs.length≤sizeLine:=by
  rcases h with h | ⟨o,its,n,hk,hc,hd,hs,hz,r⟩
  · obtain ⟨z,its,n,r,e⟩:=h.ok I.hok
    exact ⟨its,r,⟨_,n,e,rfl,rfl,rfl⟩,z⟩
  · refine ⟨its.toList,r,⟨o,n,I.kIn a o hk,hc,hd,by simpa using hs⟩,?_⟩
    have e:=r.length
    simp only [Array.length_toList] at e
    omega
theorem Inv.tuple (I:Inv X pins σ H s) (h:SqT X.K H a xs):∃ its:List Value,Vals xs its∧IsTup s.heap a its.toArray∧xs.length≤sizeLine:=by
  rcases h with h | ⟨o,its,n,hk,hc,hs,hz,r⟩
  · obtain ⟨z,its,r,p⟩:=h.ok I.hok
    exact ⟨its,r,p,z⟩
  · refine ⟨its.toList,r,⟨o,I.kIn a o hk,hc,n,by simpa using hs⟩,?_⟩
    have e:=r.length
    simp only [Array.length_toList] at e
    omega
theorem Inv.list_inj (I:Inv X pins σ H s) (h:SqL X.K H a xs) (h':SqL X.K H a ys):xs=ys:=by
  obtain ⟨its,r,⟨o,n,e,_,_,d⟩,_⟩:=I.list h
  obtain ⟨its',r',⟨o',n',e',_,_,d'⟩,_⟩:=I.list h'
  rw [e] at e'; cases e'
  rw [d] at d'
  injection d' with d1 _
  have:its=its':=by simpa using congrArg Array.toList d1
  subst this
  exact r.inj r'
theorem Inv.tuple_inj (I:Inv X pins σ H s) (h:SqT X.K H a xs) (h':SqT X.K H a ys):xs=ys:=by
  obtain ⟨its,r,⟨o,e,_,n,d⟩,_⟩:=I.tuple h
  obtain ⟨its',r',⟨o',e',_,n',d'⟩,_⟩:=I.tuple h'
  rw [e] at e'; cases e'
  rw [d] at d'
  injection d' with d1 _
  have:its=its':=by simpa using congrArg Array.toList d1
  subst this
  exact r.inj r'
end
abbrev Cx.wish (X:Cx) (E:Value→Shared→Prop):Cx:={ X with xe:=E }
abbrev Cx.nox (X:Cx):Cx:=X.wish fun _ _=>False
theorem Cx.Ok.wish {X:Cx} (ok:X.Ok) (E:Value→Shared→Prop):(X.wish E).Ok:=
  ⟨ok.mod,ok.kind,ok.glob,ok.blt,ok.above,ok.inj,ok.has,ok.cab,ok.hd,ok.frames,ok.stk,ok.exf,ok.bs,ok.bsz,ok.noex,ok.exfs,ok.funs,ok.frf⟩
theorem Cx.Ok.unwish {X:Cx} {E:Value→Shared→Prop} (ok:(X.wish E).Ok):X.Ok:=
  ⟨ok.mod,ok.kind,ok.glob,ok.blt,ok.above,ok.inj,ok.has,ok.cab,ok.hd,ok.frames,ok.stk,ok.exf,ok.bs,ok.bsz,ok.noex,ok.exfs,ok.funs,ok.frf⟩
section
variable {X:Cx} {pins:List (Addr×Obj)} {σ:St} {H:Hp} {s:Shared} {E:Value→Shared→Prop}
theorem Inv.wish (I:Inv X pins σ H s) (E:Value→Shared→Prop):Inv (X.wish E) pins σ H s:=⟨I.ok.wish E,I.os,I.bare,I.base,I.loc,I.cell,I.free,I.freeC,I.pin,I.hok,I.len⟩
theorem Inv.unwish (I:Inv (X.wish E) pins σ H s):Inv X pins σ H s:=⟨I.ok.unwish,I.os,I.bare,I.base,I.loc,I.cell,I.free,I.freeC,I.pin,I.hok,I.len⟩
theorem SP.unwish {D:Ends} {f:Flow} {s':Shared} (h:SP (X.wish E) pins D f s'):SP X pins D f s':=by
  cases f with
  | next=>obtain ⟨σ',H',I,q⟩:=h; exact ⟨σ',H',I.unwish,q⟩
  | brk=>obtain ⟨σ',H',I,q⟩:=h; exact ⟨σ',H',I.unwish,q⟩
  | cont=>obtain ⟨σ',H',I,q⟩:=h; exact ⟨σ',H',I.unwish,q⟩
  | ret u=>obtain ⟨v,σ',H',I,r,q⟩:=h; exact ⟨v,σ',H',I.unwish,r,q⟩
theorem PSs.nox {st:List Stmt} {t:TS} (h:PSs X.nox st t):PSs X st t:=fun pins s σ H D I hw=>
  wpAny_mono (h pins s σ H D (I.wish _) hw) (fun _ _ q=>q.unwish) fun _ _ z=>False.elim z
end
section
variable {X:Cx} {st:Stmt} {rest:List Stmt} {t u:TS} {e:Expr} {te:TE} {pos:Pos}
def J6t:TS:=fun D σ H=>D.nx σ H
def tSeq (t u:TS):TS:=fun D σ H=>t { D with nx:=u D } σ H
theorem Z0A:PSs X [] J6t:=fun _ _ σ H _ I h=>wpAny_execs_nil ⟨σ,H,I,h⟩
theorem Z0c (h1:PS X st t) (h2:PSs X rest u):PSs X (st::rest) (tSeq t u):=by
  intro pins s σ H D I h
  refine wpAny_execs_cons (thn (h1 pins s σ H { D with nx:=u D } I h) fun f s1 q=>?_)
  cases f with
  | next=>
    obtain ⟨σ',H',I',q⟩:=q
    exact h2 pins s1 σ' H' D I' q
  | ret v=>exact q
  | brk=>exact q
  | cont=>exact q
theorem Z0e (h1:PS X st t):PSs X [st] t:=by
  intro pins s σ H D I h
  refine wpAny_execs_cons (thn (h1 pins s σ H D I h) fun f s1 q=>?_)
  cases f with
  | next=>exact wpAny_execs_nil q
  | ret v=>exact q
  | brk=>exact q
  | cont=>exact q
def J7t:TS:=fun D σ H=>D.bk σ H
def J9A:TS:=fun D σ H=>D.ct σ H
theorem Inv.quiet {pins:List (Addr×Obj)} {σ:St} {H:Hp} {s:Shared} (I:Inv X pins σ H s):interactive X.env=false:=by simp [interactive,I.ok.kind]
def J5W (te:TE):TS:=fun D σ H=>te σ H fun _ H1=>D.nx σ H1
theorem Z0B (he:PE X e te) (hs:swapsWith e none pos.line X.env=pure false:=by rfl):PS X (.Expr e pos) (J5W te):=by
  intro pins s σ H D I h
  exact wpAny_Expr_any (thn (he pins s σ H _ I h) fun v s1 ⟨x,H1,I1,r1,q1⟩=>⟨σ,H1,I1,q1⟩) I.quiet hs
def tRet (te:TE):TS:=fun D σ H=>te σ H D.rt
theorem Z0q (he:PE X e te):PS X (.Return (some e) pos) (tRet te):=by
  intro pins s σ H D I h
  exact wpAny_Return_some (thn (he pins s σ H _ I h) fun v s1 ⟨x,H1,I1,r1,q1⟩=>⟨x,σ,H1,I1,r1,q1⟩)
def J5Q:TS:=fun D _ H=>D.rt .non H
theorem Z9y:PS X (.Return none pos) J5Q:=fun _ _ σ H _ I h=>wpAny_Return_none ⟨.non,σ,H,I,rfl,h⟩
def tIfS (c:TT) (t u:TS):TS:=fun D σ H=>c σ H fun b H1=>if b=true then t D σ H1 else u D σ H1
theorem Z0H {c:Expr} {a b:List Stmt} {tc:TT} (hc:PT X c tc) (ha:PSs X a t) (hb:PSs X b u):PS X (.If c a b pos) (tIfS tc t u):=by
  intro pins s σ H D I h
  refine wpAny_If (thn (hc pins s σ H _ I h) fun d s1 ⟨H1,I1,q1⟩=>?_)
  cases d with
  | true=>exact ha pins s1 σ H1 D I1 q1
  | false=>exact hb pins s1 σ H1 D I1 q1
def J7h:TS:=fun _ _ _=>False
end
abbrev TG:=V→St→Hp→(St→Hp→Prop)→Prop
abbrev TGs:=List V→St→Hp→(St→Hp→Prop)→Prop
def PG (X:Cx) (target:Expr) (t:TG):Prop:=
  ∀ (pins:List (Addr×Obj)) (s:Shared) (σ:St) (H:Hp) (v:V) (u:Value) (Q:St→Hp→Prop),Inv X pins σ H s→RelV v u→t v σ H Q →
    wpAny (model X.prog X.w) X.A (assign target X.env u) (fun _ s'=>∃ σ' H',Inv X pins σ' H' s'∧Q σ' H') X.xe s
def PGs (X:Cx) (ts:List Expr) (t:TGs):Prop:=
  ∀ (pins:List (Addr×Obj)) (s:Shared) (σ:St) (H:Hp) (vs:List V) (us:List Value) (Q:St→Hp→Prop),Inv X pins σ H s→Vals vs us→t vs σ H Q →
    wpAny (model X.prog X.w) X.A (assignInOrder ((assignEach ts X.env).map (·.2)) us) (fun _ s'=>∃ σ' H',Inv X pins σ' H' s'∧Q σ' H') X.xe s
abbrev TSet:=V→V→V→Hp→(Hp→Prop)→Prop
def PSet (X:Cx) (t:TSet):Prop:=
  ∀ (pins:List (Addr×Obj)) (s:Shared) (σ:St) (H:Hp) (o i v:V) (ov iv u:Value) (Q:Hp→Prop),Inv X pins σ H s→RelV o ov→RelV i iv→RelV v u→t o i v H Q →
    wpAny (model X.prog X.w) X.A (setItem ov iv u) (fun _ s'=>∃ H',Inv X pins σ H' s'∧Q H') X.xe s
abbrev TIp:=V→V→Hp→VK→Prop
def PIp (X:Cx) (op:Operator) (t:TIp):Prop:=
  ∀ (pins:List (Addr×Obj)) (s:Shared) (σ:St) (H:Hp) (x y:V) (v u:Value) (Q:VK),Inv X pins σ H s→RelV x v→RelV y u→t x y H Q →
    wpAny (model X.prog X.w) X.A (inplaceOp op v u) (EP X pins σ Q) X.xe s
section
variable {X:Cx} {pos:Pos}
def Z4Q (i:Nat):TG:=fun v σ H Q=>Q (σ.set i (some v)) H
theorem Z0s {i:Nat} {x:Str} (hN:X.N.Nodup) (hi:X.N[i]?=some x) (hx:Loc X.env.scope x) (hf:X.fn x=true∨X.env.scope.names.lookup x=some .local:=by first | exact .inl rfl | exact .inr rfl | assumption):PG X (.Name x pos) (Z4Q i):=by
  intro pins s σ H v u Q I r h
  exact wpAny_assign_Name (Z5A I hN hi hx r (fun s' I'=>⟨_,H,I',h⟩) hf)
def gNil:TGs:=fun vs σ H Q=>vs=[]∧Q σ H
def J7i (t:TG) (u:TGs):TGs:=fun vs σ H Q=>∃ v r,vs=v::r∧t v σ H fun σ' H'=>u r σ' H' Q
theorem Z2x:PGs X [] gNil:=by
  intro pins s σ H vs us Q I r h
  obtain ⟨e,h⟩:=h
  subst e
  cases r
  exact assignInOrder_nil ⟨σ,H,I,h⟩
theorem J1V {e:Expr} {es:List Expr} {t:TG} {u:TGs} (h1:PG X e t) (h2:PGs X es u)
    (hs:(assignEach (e::es) X.env).map (·.2)=assign e X.env::(assignEach es X.env).map (·.2):=by rfl):PGs X (e::es) (J7i t u):=by
  intro pins s σ H vs us Q I r h
  obtain ⟨v,vr,e1,h⟩:=h
  subst e1
  cases r with
  | cons r rr=>
    rw [hs]
    refine assignInOrder_cons (thn (h1 pins s σ H _ _ _ I r h) fun _ s1 ⟨σ1,H1,I1,q1⟩=>?_)
    exact h2 pins s1 σ1 H1 _ _ Q I1 rr q1
def gTup (K:W.Frag) (n:Nat) (t:TGs):TG:=fun v σ H Q=>∃ a xs,v=.ref a∧SqT K H a xs∧xs.length=n∧t xs σ H Q
theorem J7e {es:List Expr} {k:Nat} {t:TGs} {n:Nat} (hc:X.calm=true) (h:PGs X es t)
    (hn:(assignEach es X.env).length=n:=by rfl) (hst:(assignEach es X.env).findIdx? (·.1)=none:=by rfl):PG X (.Tuple es k pos) (gTup X.K n t):=by
  intro pins s σ H v u Q I r hw
  obtain ⟨a,xs,e1,hq,hl,hw⟩:=hw
  subst e1
  cases r
  obtain ⟨its,rv,ht,hz⟩:=I.tuple hq
  refine assign_Tuple_tuple (I.ok.hd hc) ht (by simp [hn,← hl,rv.length]) hst fun h' hx=>?_
  have I1:Inv X pins σ H { s with heap:=h' }:=I.kept (t':=s.toks) fun b o e=>hx b o (Nat.ne_of_lt (Heap.lt_size e)) e
  exact h pins _ σ H xs _ Q I1 (by simpa using rv) hw
def gSub (to ti:TE) (t:TSet):TG:=fun v σ H Q=>to σ H fun o H1=>ti σ H1 fun i H2=>t o i v H2 fun H3=>Q σ H3
theorem Z8g {o i:Expr} {to ti:TE} {t:TSet} (ho:PE X o to) (hi:PE X i ti) (hs:PSet X t)
    (ha:∀ v,assign (.Subscript o i pos) X.env v=(do
      let ov ← holding [v] (eval o X.env)
      let iv ← holding [v,ov] (eval i X.env)
      standAt pos
      holding [v,ov,iv] (setItem ov iv v)
      release [v,ov,iv] []):=by intro _; rfl):PG X (.Subscript o i pos) (gSub to ti t):=by
  intro pins s σ H v u Q I r h
  rw [ha]
  refine wpAny_bind (wpAny_holding (thn (ho pins s σ H _ I h) fun ov s1 ⟨x,H1,I1,r1,q1⟩=>?_))
  refine wpAny_bind (wpAny_holding (thn (hi pins s1 σ H1 _ I1 q1) fun iv s2 ⟨y,H2,I2,r2,q2⟩=>?_))
  refine wpAny_bind (wpAny_standAt (wpAny_bind (wpAny_holding (thn (hs pins s2 σ H2 x y v ov iv u _ I2 r1 r2 r q2) fun _ s3 ⟨H3,I3,q3⟩=>?_))))
  exact wpAny_release ⟨σ,H3,I3,q3⟩
def tAsg (te:TE) (g:TG):TS:=fun D σ H=>te σ H fun x H1=>g x σ H1 D.nx
theorem Z3i {tg e:Expr} {te:TE} {g:TG} (he:PE X e te) (hg:PG X tg g) (hs:swapsWithSole [tg] e pos.line X.env=pure false:=by rfl) (hw:swappedStores [tg] e X.env=pure none:=by rfl)
    (h1:(assignEach [tg] X.env).map (·.2)=[assign tg X.env]:=by rfl):PS X (.Assign [tg] e pos) (tAsg te g):=by
  intro pins s σ H D I h
  refine wpAny_Assign_stores (thn (he pins s σ H _ I h) fun v s1 ⟨x,H1,I1,r1,q1⟩=>?_) hs hw
  rw [h1]
  exact thn (hg pins s1 σ H1 x v _ I1 r1 q1) fun _ s2 q=>q
theorem Z0u {i:Nat} {x:Str} {e:Expr} {te:TE} {pos':Pos} (hN:X.N.Nodup) (hi:X.N[i]?=some x) (hx:Loc X.env.scope x) (he:PE X e te) (hs:swapsWith e (some (.Name x pos')) pos.line X.env=pure false:=by rfl) (hf:X.fn x=true∨X.env.scope.names.lookup x=some .local:=by first | exact .inl rfl | exact .inr rfl | assumption) :
    PS X (.Assign [.Name x pos'] e pos) (tAsg te (Z4Q i)):=by
  intro pins s σ H D I h
  refine wpAny_Assign_Name (thn (he pins s σ H _ I h) fun v s1 ⟨y,H1,I1,r1,q1⟩=>?_) hs
  exact Z5A I1 hN hi hx r1 (fun s2 I2=>⟨_,H1,I2,q1⟩) hf
def tPar (i j:Nat) (ta:TA):TS:=fun D σ H=>ta σ H fun vs H1=>∃ v w,vs=[v,w]∧D.nx ((σ.set i (some v)).set j (some w)) H1
def tAug (i:Nat) (te:TE) (ti:TIp):TS:=fun D σ H=>∃ x,σ[i]?=some (some x)∧te σ H fun y H1=>ti x y H1 fun z H2=>D.nx (σ.set i (some z)) H2
theorem J3F {i:Nat} {x:Str} {e:Expr} {te:TE} {op:Operator} {ti:TIp} {pos':Pos} (hN:X.N.Nodup) (hi:X.N[i]?=some x) (hx:Loc X.env.scope x) (he:PE X e te) (ho:PIp X op ti) (hf:X.fn x=true∨X.env.scope.names.lookup x=some .local:=by first | exact .inl rfl | exact .inr rfl | assumption) :
    PS X (.AugAssign (.Name x pos') op e pos) (tAug i te ti):=by
  intro pins s σ H D I h
  obtain ⟨v,e1,h⟩:=h
  obtain ⟨m,hn,hl⟩:=I.loc
  have vis:Vis X.env.scope x:=by rcases hx with k | k; exact .inl k; exact .inr (.inl k)
  obtain ⟨u,r,l⟩:=hl i x v hi e1 vis
  refine wpAny_AugAssign_Name ?_
  have go:wpAny (model X.prog X.w) X.A (eval e X.env) (fun w s₂=>wpAny (model X.prog X.w) X.A (inplaceOp op u w) (fun r s₃=>wpAny (model X.prog X.w) X.A (storeName X.env x r) (fun _=>SP X pins D .next) X.xe s₃) X.xe s₂) X.xe s:=by
    refine thn (he pins s σ H _ I h) fun w s1 ⟨y,H1,I1,r1,q1⟩=>?_
    refine thn (ho pins s1 σ H1 v y u w _ I1 r r1 q1) fun z s2 ⟨zv,H2,I2,r2,q2⟩=>?_
    exact Z5A I2 hN hi hx r2 (fun s3 I3=>⟨_,H2,I3,q2⟩) hf
  rcases l with ⟨hk,hm⟩ | ⟨hk,c,hc,hcell⟩
  · exact wpAny_loadName_local I.ok.kind hk hn hm go
  · rcases hk with hk | hk
    · exact wpAny_loadName_cell I.ok.kind hk hc hcell go
    · rcases hx with k | k
      · have:X.env.scope.names.lookup x=some .free:=hk
        rw [k] at this; cases this
      · have:X.env.scope.names.lookup x=some .free:=hk
        rw [k] at this; cases this
def J9j (to ti te:TE) (tget:V→V→Hp→VK→Prop) (tip:TIp) (tset:TSet):TS:=fun D σ H=>to σ H fun o H1=>ti σ H1 fun i H2=>tget o i H2 fun x H3=>te σ H3 fun y H4=>tip x y H4 fun z H5=>tset o i z H5 fun H6=>D.nx σ H6
def ipI (f:Int→Int→Int):TIp:=fun x y H Q=>∃ i j,x=.int i∧y=.int j∧Q (.int (f i j)) H
theorem J3O:PIp X .Add (ipI fun i j=>i+j):=by
  intro pins s σ H x y v u Q I r1 r2 h
  obtain ⟨i,j,e1,e2,q⟩:=h
  subst e1; subst e2
  obtain ⟨t,rfl⟩:=r1
  obtain ⟨t',rfl⟩:=r2
  exact iadd_int ⟨.int _,H,I.tok _,⟨_,rfl⟩,q⟩
end
section
variable {X:Cx} {pos:Pos}
def J3T (c:TT) (tb:TS):TS:=fun D σ H=>∃ W:Nat→St→Hp→Prop,(∃ m,W m σ H)∧∀ m σ H,W m σ H →
  c σ H fun b H1=>if b=true then ∃ N:St→Hp→Prop,(∀ σ' H',N σ' H'→∃ m',m' < m∧W m' σ' H')∧tb { D with nx:=N,ct:=N,bk:=D.nx } σ H1 else D.nx σ H1
theorem Z5R {c:Expr} {body:List Stmt} {tc:TT} {tb:TS} (hp:PassesOwn (model X.prog X.w) X.A X.env X.xe) (hc:PT X c tc) (hb:PSs X body tb):PS X (.While c body [] pos) (J3T tc tb):=by
  intro pins s σ H D I h
  obtain ⟨W,⟨m0,w0⟩,turn⟩:=h
  refine wpAny_While (codeAny_whileLoop (fun n s'=>∃ σ' H',Inv X pins σ' H' s'∧W n σ' H') ?_ m0 ⟨σ,H,I,w0⟩)
  rintro n s1 ⟨σ1,H1,I1,w1⟩
  refine wpAny_passesOwn hp (thn (hc pins s1 σ1 H1 _ I1 (turn n σ1 H1 w1)) fun b s2 ⟨H2,I2,q2⟩=>?_)
  cases b with
  | true=>
    obtain ⟨N,hN,q2⟩:=q2
    rw [if_pos rfl]
    refine wpAny_passesOwn hp (thn (hb pins s2 σ1 H2 _ I2 q2) fun f s3 q3=>?_)
    cases f with
    | next=>
      obtain ⟨σ3,H3,I3,n3⟩:=q3
      obtain ⟨m',hm,w3⟩:=hN σ3 H3 n3
      exact ⟨m',hm,σ3,H3,I3,w3⟩
    | cont=>
      obtain ⟨σ3,H3,I3,n3⟩:=q3
      obtain ⟨m',hm,w3⟩:=hN σ3 H3 n3
      exact ⟨m',hm,σ3,H3,I3,w3⟩
    | brk=>exact q3
    | ret v=>exact q3
  | false=>
    rw [if_neg Bool.false_ne_true]
    exact wpAny_execs_nil ⟨σ1,H2,I2,q2⟩
end
structure It where
  go:Nat→Hp→Prop
  yld:Nat→Hp→V→Hp→Prop
  stop:Nat→Hp→Prop
def FpOk (X:Cx) (pins:List (Addr×Obj)) (H:Hp) (b:Addr):Prop:=
  H b=none∧b≠X.env.locals∧b∉X.fs∧(b∈X.ex∨X.s₀.heap.objs.size≤b)∧(∀ x c,X.env.cells.lookup x=some c→c≠b)∧∀ p∈X.pn++pins,p.1≠b
theorem Inv.fpOk {X:Cx} {pins:List (Addr×Obj)} {σ:St} {H H':Hp} {s:Shared} {b:Addr} (I:Inv X pins σ H s) (hb:s.heap.objs.size≤b) (hn:H' b=none):FpOk X pins H' b:=by
  refine ⟨hn,Nat.ne_of_gt (Nat.lt_of_lt_of_le I.lt hb),I.nofs hb,.inr (Nat.le_trans I.sz hb),fun x c e z=>?_,fun p hp z=>?_⟩
  · obtain ⟨v,q⟩:=I.cell x c e
    exact absurd (Nat.lt_of_lt_of_le q.lt (by rw [z]; exact hb)) (Nat.lt_irrefl _)
  · exact absurd (Nat.lt_of_lt_of_le (Heap.lt_size (I.pin p hp).1) (by rw [z]; exact hb)) (Nat.lt_irrefl _)
structure Turn (P:Program) (w:World) (K:W.Frag) (tg:Expr) (J:It) (fp:List Addr) (it:Addr) (tn:Nat→Heap→Prop):Prop where
  mem:it∈fp
  obj:∀ i h,tn i h→∀ b∈fp,∃ o,h.get? b=some o∧∀ v,o.data≠.cell v
  keep:∀ i h h',tn i h→(∀ b∈fp,∀ o,h.get? b=some o→h'.get? b=some o)→tn i h'
  item:∀ (X:Cx),X.prog=P→X.w=w→X.K=K→X.calm=true→∀ (i:Nat) (pins:List (Addr×Obj)) (s:Shared) (σ:St) (H:Hp) (E:Value→Shared→Prop),Inv X pins σ H s→(∀ b∈fp,FpOk X pins H b)→tn i s.heap→J.go i H →
    wpAny (model P w) X.A (pyNext (.ref it)) (fun r s1=>∃ u,r=some u ∧
      wpAny (model P w) X.A (letOwnedTupleGo tg (.ref it) u) (fun _ s2=>∃ x H',Inv X pins σ H' s2∧RelV x u∧J.yld i H x H'∧tn (i+1) s2.heap∧∀ b∈fp,H' b=none) E s1) E s
  done:∀ (X:Cx),X.prog=P→X.w=w→X.K=K→X.calm=true→∀ (i:Nat) (pins:List (Addr×Obj)) (s:Shared) (σ:St) (H:Hp) (E:Value→Shared→Prop),Inv X pins σ H s→(∀ b∈fp,FpOk X pins H b)→tn i s.heap→J.stop i H →
    wpAny (model P w) X.A (pyNext (.ref it)) (fun r s1=>r=none∧Inv X pins σ H s1) E s
  self:∀ (A:Around) (i:Nat) (s:Shared) (Q:Value→Shared→Prop) (E:Value→Shared→Prop),tn i s.heap→Q (.ref it) s→wpAny (model P w) A (pyIter (.ref it)) Q E s
abbrev TI:=St→Hp→(It→Hp→Prop)→Prop
def PIE (X:Cx) (pins:List (Addr×Obj)) (σ:St) (tg:Expr) (R:It→Hp→Prop) (itv:Value) (s2:Shared):Prop:=
  ∃ (it:Addr) (fp:List Addr) (tn:Nat→Heap→Prop) (J:It) (H':Hp),itv=.ref it∧Inv X pins σ H' s2∧Turn X.prog X.w X.K tg J fp it tn∧tn 0 s2.heap∧(∀ b∈fp,FpOk X pins H' b)∧R J H'
def PI (X:Cx) (tg iter:Expr) (wi:TI):Prop:=
  ∀ (pins:List (Addr×Obj)) (s:Shared) (σ:St) (H:Hp) (R:It→Hp→Prop),Inv X pins σ H s→wi σ H R →
    wpAny (model X.prog X.w) X.A (eval iter X.env) (fun v s1=>wpAny (model X.prog X.w) X.A (pyIter v) (PIE X pins σ tg R) X.xe s1) X.xe s
theorem J3c {M:Model} {A:Around} {E:Value→Shared→Prop} {s:Shared} {tg:Expr} {it:Addr} {u:Value} {o:Obj} {n:String} {vs:Array Value} {Q:Unit→Shared→Prop} (ho:s.heap.get? it=some o) (hc:o.cls=.type n) (hd:o.data=.fields vs)
    (hn:["enumerate","zip","dict_itemiterator","dict_reverseitemiterator","odict_iterator","itertools.zip_longest","itertools.pairwise"].contains n=false) (hQ:Q () s):wpAny M A (letOwnedTupleGo tg (.ref it) u) Q E s:=by
  unfold letOwnedTupleGo
  cases tg <;> first
    | exact wpAny_pure hQ
    | (cases u <;> first
        | exact wpAny_pure hQ
        | (refine wpAny_bind (wpAny_load ho ?_)
           rw [hc,hd]
           show wpAny M A (if (["enumerate","zip","dict_itemiterator","dict_reverseitemiterator","odict_iterator","itertools.zip_longest","itertools.pairwise"].contains n&&vs[0]? == some (rawInt _))=true then _ else _) Q E s
           rw [if_neg (by intro h; rw [hn,Bool.false_and] at h; cases h)]
           exact wpAny_pure hQ))
def Itl (K:W.Frag) (a:Addr):It:=
  ⟨fun i H=>∃ xs x,SqL K H a xs∧xs[i]?=some x,fun i H x H'=>H'=H∧∀ xs,SqL K H a xs→xs[i]?=some x,fun i H=>∃ xs,SqL K H a xs∧xs.length≤i⟩
def Itt (K:W.Frag) (a:Addr):It:=
  ⟨fun i H=>∃ xs x,SqT K H a xs∧xs[i]?=some x,fun i H x H'=>H'=H∧∀ xs,SqT K H a xs→xs[i]?=some x,fun i H=>∃ xs,SqT K H a xs∧xs.length≤i⟩
def Itr (lo:Int) (n:Nat):It:=⟨fun i _=>i < n,fun i H x H'=>H'=H∧x=.int (lo+i),fun i _=>n≤i⟩
theorem J1z {P:Program} {w:World} {K:W.Frag} {tg:Expr} (a it:Addr):Turn P w K tg (Itl K a) [it] it (fun i h=>h.IsListIter it a i) where
  mem:=by simp
  obj:=fun i h st b hb=>by
    have e:b=it:=by simpa using hb
    subst e
    obtain ⟨o,e,c,d⟩:=st
    exact ⟨o,e,fun v z=>by rw [d] at z; cases z⟩
  keep:=fun i h h' st k=>st.at fun o e=>k it (by simp) o e
  item:=by
    intro X hP hw hK hc i pins s σ H E I hf st hg
    subst hP hw hK
    obtain ⟨xs,x,hq,hx⟩:=hg
    obtain ⟨its,rv,p,hz⟩:=I.list hq
    obtain ⟨u,hu,ru⟩:=rv.get hx
    obtain ⟨f0,f1,f2,f3,f4,f5⟩:=hf it (by simp)
    refine wpAny_pyNext_list_item st p.isList (x:=u) (by simpa using hu) fun h' st' sb=>?_
    have I1:Inv X pins σ H { s with heap:=h' }:=I.turned (t':=s.toks) (fun b o hb e=>(sb.2 b hb).trans e) f0 f1 f3 f4 f5
    obtain ⟨o,e,c,d⟩:=id st'
    exact ⟨u,rfl,J3c (s:={ s with heap:=h' }) e c d (by decide) ⟨x,H,I1,ru,⟨rfl,fun ys hy=>by rw [I.list_inj hy hq]; exact hx⟩,st',fun b hb=>(hf b hb).1⟩⟩
  done:=by
    intro X hP hw hK hc i pins s σ H E I hf st hg
    subst hP hw hK
    obtain ⟨xs,hq,hx⟩:=hg
    obtain ⟨its,rv,p,hz⟩:=I.list hq
    obtain ⟨f0,f1,f2,f3,f4,f5⟩:=hf it (by simp)
    have hl:=rv.length
    exact wpAny_pyNext_list_end (I.ok.hd hc) st p.isList (by simp; omega) fun h' eb=>⟨rfl,I.turned (t':=s.toks) (fun b o hb e=>eb b o hb e) f0 f1 f3 f4 f5⟩
  self:=fun _ _ _ _ _ st h=>wpAny_pyIter_listiter st h
theorem Z9b {P:Program} {w:World} {K:W.Frag} {tg:Expr} (a it:Addr):Turn P w K tg (Itt K a) [it] it (fun i h=>h.IsTupleIter it a i) where
  mem:=by simp
  obj:=fun i h st b hb=>by
    have e:b=it:=by simpa using hb
    subst e
    obtain ⟨o,e,c,d⟩:=st
    exact ⟨o,e,fun v z=>by rw [d] at z; cases z⟩
  keep:=fun i h h' st k=>st.at fun o e=>k it (by simp) o e
  item:=by
    intro X hP hw hK hc i pins s σ H E I hf st hg
    subst hP hw hK
    obtain ⟨xs,x,hq,hx⟩:=hg
    obtain ⟨its,rv,p,hz⟩:=I.tuple hq
    obtain ⟨u,hu,ru⟩:=rv.get hx
    obtain ⟨f0,f1,f2,f3,f4,f5⟩:=hf it (by simp)
    refine wpAny_pyNext_tuple_item st (show s.heap.IsTuple a its.toArray from p) (x:=u) (by simpa using hu) fun h' st' sb=>?_
    have I1:Inv X pins σ H { s with heap:=h' }:=I.turned (t':=s.toks) (fun b o hb e=>(sb.2 b hb).trans e) f0 f1 f3 f4 f5
    obtain ⟨o,e,c,d⟩:=id st'
    exact ⟨u,rfl,J3c (s:={ s with heap:=h' }) e c d (by decide) ⟨x,H,I1,ru,⟨rfl,fun ys hy=>by rw [I.tuple_inj hy hq]; exact hx⟩,st',fun b hb=>(hf b hb).1⟩⟩
  done:=by
    intro X hP hw hK hc i pins s σ H E I hf st hg
    subst hP hw hK
    obtain ⟨xs,hq,hx⟩:=hg
    obtain ⟨its,rv,p,hz⟩:=I.tuple hq
    obtain ⟨f0,f1,f2,f3,f4,f5⟩:=hf it (by simp)
    have hl:=rv.length
    exact wpAny_pyNext_tuple_end (I.ok.hd hc) st (show s.heap.IsTuple a its.toArray from p) (by simp; omega) fun h' eb=>⟨rfl,I.turned (t':=s.toks) (fun b o hb e=>eb b o hb e) f0 f1 f3 f4 f5⟩
  self:=fun _ _ _ _ _ st h=>wpAny_pyIter_tupleiter st h
theorem Z8T {P:Program} {w:World} {K:W.Frag} {tg:Expr} (it:Addr) (lo:Int) (n:Nat):Turn P w K tg (Itr lo n) [it] it (fun i h=>IsRangeIter h it (lo+(i:Nat) * 1) ((n:Int) - (i:Nat)) 1) where
  mem:=by simp
  obj:=fun i h st b hb=>by
    have e:b=it:=by simpa using hb
    subst e
    exact ⟨_,st,fun v z=>by
      have z':Data.fields _=Data.cell v:=z
      cases z'⟩
  keep:=fun i h h' st k=>k it (by simp) _ st
  item:=by
    intro X hP hw hK hc i pins s σ H E I hf st hg
    subst hP hw hK
    obtain ⟨f0,f1,f2,f3,f4,f5⟩:=hf it (by simp)
    have W:=Walks.range (prog:=X.prog) (w:=X.w) (I.ok.hd hc) it lo 1 n
    refine W.item i s _ _ hg st fun v h' tk hv st' kk=>?_
    obtain ⟨t,rfl⟩:=hv
    have I1:Inv X pins σ H { s with heap:=h',toks:=tk }:=I.turned (fun b o hb e=>kk b o (by simpa using hb) e) f0 f1 f3 f4 f5
    refine ⟨_,rfl,J3c (s:={ s with heap:=h',toks:=tk }) (n:="range_iterator") st' rfl rfl (by decide) ⟨.int (lo+i),H,I1,⟨t,?_⟩,⟨rfl,rfl⟩,st',fun b hb=>(hf b hb).1⟩⟩
    rw [Int.mul_one]
  done:=by
    intro X hP hw hK hc i pins s σ H E I hf st hg
    subst hP hw hK
    obtain ⟨f0,f1,f2,f3,f4,f5⟩:=hf it (by simp)
    exact wpAny_pyNext_range_end (I.ok.hd hc) st (by have:n≤i:=hg; omega) fun h' eb=>⟨rfl,I.turned (t':=s.toks) (fun b o hb e=>eb b o hb e) f0 f1 f3 f4 f5⟩
  self:=fun _ _ _ _ _ st h=>wpAny_pyIter_rangeiter st h
end L2
namespace L2
open PySem PySem.Spec PyProof.Rows
section
variable {X:Cx} {tg:Expr}
def J5L (K:W.Frag) (tl:TE):TI:=fun σ H R=>tl σ H fun x H1=>∃ a,x=.ref a∧(∃ xs,SqL K H1 a xs)∧R (Itl K a) H1
def iTup (K:W.Frag) (tl:TE):TI:=fun σ H R=>tl σ H fun x H1=>∃ a,x=.ref a∧(∃ xs,SqT K H1 a xs)∧R (Itt K a) H1
theorem Z3p {l:Expr} {tl:TE} (hl:PE X l tl):PI X tg l (J5L X.K tl):=by
  intro pins s σ H R I h
  refine thn (hl pins s σ H _ I h) fun v s1 ⟨x,H1,I1,r1,q1⟩=>?_
  obtain ⟨a,e,⟨xs,hq⟩,q⟩:=q1
  subst e
  cases r1
  obtain ⟨its,rv,p,hz⟩:=I1.list hq
  refine wpAny_pyIter_list p.isList ?_
  refine ⟨s1.heap.objs.size,[s1.heap.objs.size],_,_,H1,rfl,I1.kept (t':=s1.toks) fun b o e=>Heap.get?_push_of_some _ e,J1z a _,⟨_,Heap.get?_push_size _ rfl,rfl,rfl⟩,fun b hb=>?_,q⟩
  have e:b=s1.heap.objs.size:=by simpa using hb
  subst e
  exact I1.fpOk (Nat.le_refl _) (I1.hok.fresh (Nat.le_refl _))
theorem Z2S {l:Expr} {tl:TE} (hl:PE X l tl):PI X tg l (iTup X.K tl):=by
  intro pins s σ H R I h
  refine thn (hl pins s σ H _ I h) fun v s1 ⟨x,H1,I1,r1,q1⟩=>?_
  obtain ⟨a,e,⟨xs,hq⟩,q⟩:=q1
  subst e
  cases r1
  obtain ⟨its,rv,p,hz⟩:=I1.tuple hq
  refine wpAny_pyIter_tuple (show s1.heap.IsTuple a its.toArray from p) ?_
  refine ⟨s1.heap.objs.size,[s1.heap.objs.size],_,_,H1,rfl,I1.kept (t':=s1.toks) fun b o e=>Heap.get?_push_of_some _ e,Z9b a _,⟨_,Heap.get?_push_size _ rfl,rfl,rfl⟩,fun b hb=>?_,q⟩
  have e:b=s1.heap.objs.size:=by simpa using hb
  subst e
  exact I1.fpOk (Nat.le_refl _) (I1.hok.fresh (Nat.le_refl _))
theorem Z7G {pins:List (Addr×Obj)} {σ:St} {H:Hp} {s:Shared} {R:It→Hp→Prop} {E:Value→Shared→Prop} {lo hi:Int} {t u v:Tok} {tk:Nat} (I:Inv X pins σ H s) (h1:-(2 ^ 62)≤lo) (h2:lo < 2 ^ 62) (h3:-(2 ^ 62)≤hi) (h4:hi < 2 ^ 62)
    (q:R (Itr lo (hi - lo).toNat) H):wpAny (model X.prog X.w) X.A (pyIter (.ref s.heap.objs.size)) (PIE X pins σ tg R) E { s with heap:=s.heap.push { cls:=.type "range",data:=.fields #[.int lo t,.int hi u,.int 1 v] },toks:=tk }:=by
  refine wpAny_pyIter_range (IsRange.new ..) (small_one h1 h2 h3 h4) ?_
  have I1:Inv X pins σ H { s with heap:=s.heap.push { cls:=.type "range",data:=.fields #[.int lo t,.int hi u,.int 1 v] },toks:=tk }:=I.kept fun b o e=>Heap.get?_push_of_some _ e
  refine ⟨(s.heap.push { cls:=.type "range",data:=.fields #[.int lo t,.int hi u,.int 1 v] }).objs.size,[(s.heap.push { cls:=.type "range",data:=.fields #[.int lo t,.int hi u,.int 1 v] }).objs.size],_,_,H,rfl,
    I1.kept (t':=tk) fun b o e=>Heap.get?_push_of_some _ e,Z8T _ lo (hi - lo).toNat,?_,fun b hb=>?_,q⟩
  · have e1:lo+((0:Nat):Int) * 1=lo:=by simp
    have e2:(((hi - lo).toNat:Nat):Int) - ((0:Nat):Int)=Builtin.Range.rangeSize lo hi 1:=by rw [rangeSize_one]; split <;> omega
    show IsRangeIter _ _ (lo+((0:Nat):Int) * 1) ((((hi - lo).toNat:Nat):Int) - ((0:Nat):Int)) 1
    rw [e1,e2]
    exact Heap.get?_push_size _ rfl
  · have e:b=(s.heap.push { cls:=.type "range",data:=.fields #[.int lo t,.int hi u,.int 1 v] }).objs.size:=by simpa using hb
    subst e
    exact I1.fpOk (Nat.le_refl _) (I1.hok.fresh (Nat.le_refl _))
def J5M (ta:TA):TI:=fun σ H R=>ta σ H fun vs H1=>∃ j:Int,vs=[.int j]∧-(2 ^ 62)≤j∧j < 2 ^ 62∧R (Itr 0 j.toNat) H1
def J6M (ta:TA):TI:=fun σ H R=>ta σ H fun vs H1=>∃ i j:Int,vs=[.int i,.int j]∧(-(2 ^ 62)≤i∧i < 2 ^ 62∧-(2 ^ 62)≤j∧j < 2 ^ 62)∧R (Itr i (j - i).toNat) H1
theorem Z4M {a:Expr} {ta:TA} {p pos:Pos} (hg:Gl X "range") (hm:X.mg "range"=none) (ha:PA X [a] ta) (hs:starEach [a] X.env=[(false,eval a X.env)]:=by rfl):PI X tg (.Call (.Name "range" p) [a] [] pos) (J5M ta):=by
  intro pins s σ H R I h
  refine Call_ (Z2A I hg hm boot_range (PyProof.Rows.callWith_type1 (thn (ha pos pins s σ H _ I h) fun us s1 ⟨vs,H1,I1,r1,q1⟩=>?_) hs rfl))
  obtain ⟨j,e,q1,q2,q⟩:=q1
  subst e
  cases r1 with
  | cons r rr=>
    cases rr
    obtain ⟨t,rfl⟩:=r
    exact call_range_1 (Z7G I1 (by omega) (by omega) q1 q2 (by simpa using q))
theorem J0m {a b:Expr} {ta:TA} {p pos:Pos} (hg:Gl X "range") (hm:X.mg "range"=none) (ha:PA X [a,b] ta) (hs:starEach [a,b] X.env=[(false,eval a X.env),(false,eval b X.env)]:=by rfl) (hs2:starEach [b] X.env=[(false,eval b X.env)]:=by rfl) :
    PI X tg (.Call (.Name "range" p) [a,b] [] pos) (J6M ta):=by
  intro pins s σ H R I h
  refine Call_ (Z2A I hg hm boot_range (PyProof.Rows.callWith_type1 (thn (ha pos pins s σ H _ I h) fun us s1 ⟨vs,H1,I1,r1,q1⟩=>?_) (by rw [hs,hs2]) (by rw [hs2]; rfl)))
  obtain ⟨i,j,e,⟨q1,q2,q3,q4⟩,q⟩:=q1
  subst e
  cases r1 with
  | cons r rr=>
    cases rr with
    | cons r' rr=>
      cases rr
      obtain ⟨t,rfl⟩:=r
      obtain ⟨t',rfl⟩:=r'
      exact call_range_2 (Z7G I1 q1 q2 q3 q4 q)
def tFor (wi:TI) (g:TG) (tb:TS):TS:=fun D σ H=>wi σ H fun J H1=>∃ W:Nat→Nat→St→Hp→Prop,(∃ m,W 0 m σ H1)∧∀ i m σ H,W i m σ H →
  (J.stop i H∧D.nx σ H)∨(J.go i H∧∃ N:St→Hp→Prop,(∀ σ' H',N σ' H'→∃ m',m' < m∧W (i+1) m' σ' H')∧∀ x H',J.yld i H x H'→g x σ H' fun σ2 H2=>tb { D with nx:=N,ct:=N,bk:=D.nx } σ2 H2)
def Z6C (fp:List Addr) (h:Heap):List (Addr×Obj):=fp.filterMap fun b=>(h.get? b).map fun o=>(b,o)
theorem Z3e {fp:List Addr} {h:Heap} {b:Addr} {o:Obj} (hb:b∈fp) (e:h.get? b=some o):(b,o)∈Z6C fp h:=List.mem_filterMap.mpr ⟨b,hb,by rw [e]; rfl⟩
theorem Z9s {fp:List Addr} {h:Heap} {p:Addr×Obj} (hp:p∈Z6C fp h):p.1∈fp∧h.get? p.1=some p.2:=by
  obtain ⟨b,hb,e⟩:=List.mem_filterMap.mp hp
  cases q:h.get? b with
  | none=>rw [q] at e; cases e
  | some o=>
    rw [q] at e
    have e':(b,o)=p:=Option.some.inj e
    subst e'
    exact ⟨hb,q⟩
theorem Inv.pinned {pins:List (Addr×Obj)} {σ:St} {H:Hp} {s:Shared} {fp:List Addr} (I:Inv X pins σ H s) (hf:∀ b∈fp,FpOk X pins H b) (ho:∀ b∈fp,∃ o,s.heap.get? b=some o∧∀ v,o.data≠.cell v):Inv X (pins++Z6C fp s.heap) σ H s:=
  I.pins_of fun p hp=>(List.mem_append.mp hp).elim (fun z=>I.pin p (List.mem_append_right _ z)) fun z=>by
    obtain ⟨hb,e⟩:=Z9s z
    obtain ⟨f0,f1,f2,_⟩:=hf p.1 hb
    obtain ⟨o,e',d⟩:=ho p.1 hb
    rw [e] at e'; cases e'
    exact ⟨e,f0,f1,f2,d⟩
theorem Inv.unpinned {pins pl:List (Addr×Obj)} {σ:St} {H:Hp} {s:Shared} (I:Inv X (pins++pl) σ H s):Inv X pins σ H s:=I.pins_of fun p hp=>I.pin p (List.mem_append_right _ (List.mem_append_left _ hp))
theorem Z3a {iter:Expr} {body:List Stmt} {wi:TI} {g:TG} {tb:TS} {pos:Pos} (hp:PassesOwn (model X.prog X.w) X.A X.env X.xe) (hc:X.calm=true) (hi:PI X tg iter wi) (hg:PG X tg g) (hb:PSs X body tb)
    (hs:∀ x,foldedSetIterable iter X.env x=pure x:=by intro _; rfl):PS X (.For tg iter body [] pos) (tFor wi g tb):=by
  intro pins s σ H D I h
  refine wpAny_For (thn (hi pins s σ H _ I h) fun v s1 h1=>thn h1 fun itv s2 h2=>?_) hs
  obtain ⟨it,fp,tn,J,H2,e,I2,T,st2,f2,W,⟨m0,w0⟩,turn⟩:=h2
  subst e
  -- what stays true of the iterator's objects through the loop
  have stat:∀ {H':Hp},(∀ b∈fp,H' b=none)→∀ b∈fp,FpOk X pins H' b:=fun hn b hb=>⟨hn b hb,(f2 b hb).2⟩
  refine codeAny_forLoop_any (fun n s'=>∃ i σ' H',Inv X pins σ' H' s'∧tn i s'.heap∧(∀ b∈fp,H' b=none)∧W i n σ' H') ?_ m0 ⟨0,σ,H2,I2,st2,fun b hb=>(f2 b hb).1,w0⟩
  rintro n s3 ⟨i,σ3,H3,I3,st3,fr3,w3⟩
  rcases turn i n σ3 H3 w3 with ⟨stop,qn⟩ | ⟨go,N,hN,step⟩
  · refine wpAny_passesOwn hp (thn (T.done X rfl rfl rfl hc i pins s3 σ3 H3 X.xe I3 (stat fr3) st3 stop) fun r s4 ⟨hr,I4⟩=>?_)
    subst hr
    exact wpAny_execs_nil ⟨σ3,H3,I4,qn⟩
  · refine wpAny_passesOwn hp (thn (T.item X rfl rfl rfl hc i pins s3 σ3 H3 X.xe I3 (stat fr3) st3 go) fun r s4 ⟨u,hr,h4⟩=>?_)
    subst hr
    refine wpAny_passesOwn hp (thn h4 fun _ s5 ⟨x,H5,I5,r5,y5,st5,fr5⟩=>?_)
    have I5':=I5.pinned (stat fr5) (T.obj _ _ st5)
    refine wpAny_passesOwn hp (thn (hg _ s5 σ3 H5 x u _ I5' r5 (step x H5 y5)) fun _ s6 ⟨σ6,H6,I6,q6⟩=>?_)
    refine wpAny_passesOwn hp (thn (hb _ s6 σ6 H6 _ I6 q6) fun f s7 q7=>?_)
    have again:∀ {σ7:St} {H7:Hp},Inv X (pins++Z6C fp s5.heap) σ7 H7 s7→N σ7 H7→∃ m,m < n∧∃ i σ' H',Inv X pins σ' H' s7∧tn i s7.heap∧(∀ b∈fp,H' b=none)∧W i m σ' H':=fun {σ7 H7} I7 n7=>by
      obtain ⟨m',hm,w7⟩:=hN σ7 H7 n7
      refine ⟨m',hm,i+1,σ7,H7,I7.unpinned,T.keep _ _ _ st5 fun b hb o e=>(I7.pin (b,o) (List.mem_append_right _ (List.mem_append_right _ (Z3e hb e)))).1,fun b hb=>?_,w7⟩
      obtain ⟨o,e,d⟩:=T.obj _ _ st5 b hb
      exact (I7.pin (b,o) (List.mem_append_right _ (List.mem_append_right _ (Z3e hb e)))).2.1
    cases f with
    | next=>obtain ⟨σ7,H7,I7,n7⟩:=q7; exact again I7 n7
    | cont=>obtain ⟨σ7,H7,I7,n7⟩:=q7; exact again I7 n7
    | brk=>obtain ⟨σ7,H7,I7,q7⟩:=q7; exact ⟨σ7,H7,I7.unpinned,q7⟩
    | ret v=>obtain ⟨x7,σ7,H7,I7,r7,q7⟩:=q7; exact ⟨x7,σ7,H7,I7.unpinned,r7,q7⟩
end
theorem J1U {K:W.Frag} {a:Addr} {xs:List V} {g:TG} {tb:TS} {D:Ends} {σ:St} {H:Hp} (Pv:Nat→St→Hp→Prop) (h0:Pv 0 σ H) (hl:∀ i σ H,i≤xs.length→Pv i σ H→SqL K H a xs)
    (hs:∀ i x σ H,xs[i]?=some x→Pv i σ H→g x σ H fun σ2 H2=>tb { D with nx:=Pv (i+1),ct:=Pv (i+1),bk:=D.nx } σ2 H2) (hd:∀ σ H,Pv xs.length σ H→D.nx σ H) :
    ∃ W:Nat→Nat→St→Hp→Prop,(∃ m,W 0 m σ H)∧∀ i m σ H,W i m σ H →
      ((Itl K a).stop i H∧D.nx σ H)∨((Itl K a).go i H∧∃ N:St→Hp→Prop,(∀ σ' H',N σ' H'→∃ m',m' < m∧W (i+1) m' σ' H')∧∀ x H',(Itl K a).yld i H x H'→g x σ H' fun σ2 H2=>tb { D with nx:=N,ct:=N,bk:=D.nx } σ2 H2):=by
  refine ⟨fun i m σ H=>m=xs.length - i∧i≤xs.length∧Pv i σ H,⟨xs.length,by simp,Nat.zero_le _,h0⟩,?_⟩
  rintro i m σ H ⟨rfl,hi,p⟩
  have q:=hl i σ H hi p
  by_cases hlt:i < xs.length
  · refine .inr ⟨⟨xs,xs[i],q,by simp [hlt]⟩,Pv (i+1),fun σ' H' p'=>⟨xs.length - (i+1),by omega,rfl,hlt,p'⟩,fun x H' y=>?_⟩
    obtain ⟨e,y⟩:=y
    subst e
    exact hs i x σ _ (y xs q) p
  · have e:i=xs.length:=by omega
    subst e
    exact .inl ⟨⟨xs,q,Nat.le_refl _⟩,hd σ H p⟩
theorem J4v {K:W.Frag} {a:Addr} {xs:List V} {g:TG} {tb:TS} {D:Ends} {σ:St} {H:Hp} (Pv:Nat→St→Hp→Prop) (h0:Pv 0 σ H) (hl:∀ i σ H,i≤xs.length→Pv i σ H→SqT K H a xs)
    (hs:∀ i x σ H,xs[i]?=some x→Pv i σ H→g x σ H fun σ2 H2=>tb { D with nx:=Pv (i+1),ct:=Pv (i+1),bk:=D.nx } σ2 H2) (hd:∀ σ H,Pv xs.length σ H→D.nx σ H) :
    ∃ W:Nat→Nat→St→Hp→Prop,(∃ m,W 0 m σ H)∧∀ i m σ H,W i m σ H →
      ((Itt K a).stop i H∧D.nx σ H)∨((Itt K a).go i H∧∃ N:St→Hp→Prop,(∀ σ' H',N σ' H'→∃ m',m' < m∧W (i+1) m' σ' H')∧∀ x H',(Itt K a).yld i H x H'→g x σ H' fun σ2 H2=>tb { D with nx:=N,ct:=N,bk:=D.nx } σ2 H2):=by
  refine ⟨fun i m σ H=>m=xs.length - i∧i≤xs.length∧Pv i σ H,⟨xs.length,by simp,Nat.zero_le _,h0⟩,?_⟩
  rintro i m σ H ⟨rfl,hi,p⟩
  have q:=hl i σ H hi p
  by_cases hlt:i < xs.length
  · refine .inr ⟨⟨xs,xs[i],q,by simp [hlt]⟩,Pv (i+1),fun σ' H' p'=>⟨xs.length - (i+1),by omega,rfl,hlt,p'⟩,fun x H' y=>?_⟩
    obtain ⟨e,y⟩:=y
    subst e
    exact hs i x σ _ (y xs q) p
  · have e:i=xs.length:=by omega
    subst e
    exact .inl ⟨⟨xs,q,Nat.le_refl _⟩,hd σ H p⟩
theorem J0d {lo:Int} {n:Nat} {g:TG} {tb:TS} {D:Ends} {σ:St} {H:Hp} (Pv:Nat→St→Hp→Prop) (h0:Pv 0 σ H)
    (hs:∀ i σ H,i < n→Pv i σ H→g (.int (lo+i)) σ H fun σ2 H2=>tb { D with nx:=Pv (i+1),ct:=Pv (i+1),bk:=D.nx } σ2 H2) (hd:∀ σ H,Pv n σ H→D.nx σ H) :
    ∃ W:Nat→Nat→St→Hp→Prop,(∃ m,W 0 m σ H)∧∀ i m σ H,W i m σ H →
      ((Itr lo n).stop i H∧D.nx σ H)∨((Itr lo n).go i H∧∃ N:St→Hp→Prop,(∀ σ' H',N σ' H'→∃ m',m' < m∧W (i+1) m' σ' H')∧∀ x H',(Itr lo n).yld i H x H'→g x σ H' fun σ2 H2=>tb { D with nx:=N,ct:=N,bk:=D.nx } σ2 H2):=by
  refine ⟨fun i m σ H=>m=n - i∧i≤n∧Pv i σ H,⟨n,by simp,Nat.zero_le _,h0⟩,?_⟩
  rintro i m σ H ⟨rfl,hi,p⟩
  by_cases hlt:i < n
  · refine .inr ⟨hlt,Pv (i+1),fun σ' H' p'=>⟨n - (i+1),by omega,rfl,hlt,p'⟩,fun x H' y=>?_⟩
    obtain ⟨e,y⟩:=y
    subst e y
    exact hs i σ _ hlt p
  · have e:i=n:=by omega
    subst e
    exact .inl ⟨Nat.le_refl _,hd σ H p⟩
end L2
namespace L2
open PySem PySem.Spec PyProof.Rows
abbrev R2:=V→V→Hp→VK→Prop
def OpR (X:Cx) (f:Value→Value→Sem Value) (r:R2):Prop:=
  ∀ (pins:List (Addr×Obj)) (s:Shared) (σ:St) (H:Hp) (x y:V) (v u:Value) (Q:VK),Inv X pins σ H s→RelV x v→RelV y u→r x y H Q →
    wpAny (model X.prog X.w) X.A (f v u) (EP X pins σ Q) X.xe s
def UnR (X:Cx) (f:Value→Sem Value) (r:V→Hp→VK→Prop):Prop:=
  ∀ (pins:List (Addr×Obj)) (s:Shared) (σ:St) (H:Hp) (x:V) (v:Value) (Q:VK),Inv X pins σ H s→RelV x v→r x H Q →
    wpAny (model X.prog X.w) X.A (f v) (EP X pins σ Q) X.xe s
def Z4q (X:Cx) (f:Value) (r:List V→Hp→VK→Prop):Prop:=
  ∀ (pins:List (Addr×Obj)) (s:Shared) (σ:St) (H:Hp) (xs:List V) (us:List Value) (Q:VK),Inv X pins σ H s→Vals xs us→r xs H Q →
    wpAny (model X.prog X.w) X.A (call f us) (EP X pins σ Q) X.xe s
def TruR (X:Cx) (r:V→Hp→(Bool→Hp→Prop)→Prop):Prop:=
  ∀ (pins:List (Addr×Obj)) (s:Shared) (σ:St) (H:Hp) (x:V) (v:Value) (Q:Bool→Hp→Prop),Inv X pins σ H s→RelV x v→r x H Q →
    wpAny (model X.prog X.w) X.A (truthy v) (TP X pins σ Q) X.xe s
def tOp (r:R2) (ta tb:TE):TE:=fun σ H Q=>ta σ H fun x H1=>tb σ H1 fun y H2=>r x y H2 Q
def tUn (r:V→Hp→VK→Prop) (ta:TE):TE:=fun σ H Q=>ta σ H fun x H1=>r x H1 Q
def rI (C:Int→Int→Prop) (g:Int→Int→V):R2:=fun x y H Q=>∃ i j,x=.int i∧y=.int j∧C i j∧Q (g i j) H
def rI0 (g:Int→Int→V):R2:=fun x y H Q=>∃ i j,x=.int i∧y=.int j∧Q (g i j) H
def rU (g:Int→V):V→Hp→VK→Prop:=fun x H Q=>∃ i,x=.int i∧Q (g i) H
section
variable {X:Cx} {a b c:Expr} {ta tb tc:TE} {pos:Pos}
theorem binT (ha:PE X a ta) (hb:PE X b tb) {pins:List (Addr×Obj)} {s:Shared} {σ:St} {H:Hp} {R:V→V→Hp→Prop} (I:Inv X pins σ H s)
    (h:ta σ H fun x H1=>tb σ H1 fun y H2=>R x y H2) {Q:Value→Shared→Prop} {f:Value→Value→Sem Value}
    (hf:∀ v u s2 x y H2,Inv X pins σ H2 s2→RelV x v→RelV y u→R x y H2→wpAny (model X.prog X.w) X.A (f v u) Q X.xe s2) :
    wpAny (model X.prog X.w) X.A (eval a X.env) (fun v s₁=>wpAny (model X.prog X.w) X.A (eval b X.env) (fun u s₂=>wpAny (model X.prog X.w) X.A (f v u) Q X.xe s₂) X.xe s₁) X.xe s:=by
  refine thn (ha pins s σ H _ I h) fun v s1 ⟨x,H1,I1,r1,q1⟩=>?_
  refine thn (hb pins s1 σ H1 _ I1 q1) fun u s2 ⟨y,H2,I2,r2,q2⟩=>?_
  exact hf v u s2 x y H2 I2 r1 r2 q2
theorem Z0y {op:Operator} {r:R2} (ho:OpR X (binaryOp op) r) (ha:PE X a ta) (hb:PE X b tb):PE X (.BinOp a op b pos) (tOp r ta tb):=by
  intro pins s σ H Q I h
  exact wpAny_BinOp (binT ha hb I h fun v u s2 x y H2 I2 rx ry q=>ho pins s2 σ H2 x y v u Q I2 rx ry q)
theorem J6O {op:UnaryOp} {r:V→Hp→VK→Prop} (ho:UnR X (unaryOp op) r) (ha:PE X a ta):PE X (.UnaryOp op a pos) (tUn r ta):=by
  intro pins s σ H Q I h
  exact UnaryOp_ (thn (ha pins s σ H _ I h) fun v s1 ⟨x,H1,I1,r1,q1⟩=>ho pins s1 σ H1 x v Q I1 r1 q1)
theorem opI {f:Value→Value→Sem Value} {C:Int→Int→Prop} {g:Int→Int→Int}
    (rule:∀ (i j:Int) (t u:Tok) (s:Shared) (Q:Value→Shared→Prop) (E:Value→Shared→Prop),C i j→Q (.int (g i j) s.toks) { s with toks:=s.toks+1 }→wpAny (model X.prog X.w) X.A (f (.int i t) (.int j u)) Q E s) :
    OpR X f (rI C fun i j=>.int (g i j)):=by
  intro pins s σ H x y v u Q I rx ry h
  obtain ⟨i,j,rfl,rfl,hc,q⟩:=h
  obtain ⟨t,rfl⟩:=rx
  obtain ⟨t',rfl⟩:=ry
  exact rule i j t t' s _ _ hc ⟨.int (g i j),H,I.tok _,⟨_,rfl⟩,q⟩
theorem opI0 {f:Value→Value→Sem Value} {g:Int→Int→Int}
    (rule:∀ (i j:Int) (t u:Tok) (s:Shared) (Q:Value→Shared→Prop) (E:Value→Shared→Prop),Q (.int (g i j) s.toks) { s with toks:=s.toks+1 }→wpAny (model X.prog X.w) X.A (f (.int i t) (.int j u)) Q E s) :
    OpR X f (rI0 fun i j=>.int (g i j)):=by
  intro pins s σ H x y v u Q I rx ry h
  obtain ⟨i,j,rfl,rfl,q⟩:=h
  obtain ⟨t,rfl⟩:=rx
  obtain ⟨t',rfl⟩:=ry
  exact rule i j t t' s _ _ ⟨.int (g i j),H,I.tok _,⟨_,rfl⟩,q⟩
theorem opB0 {f:Value→Value→Sem Value} {g:Int→Int→Bool}
    (rule:∀ (i j:Int) (t u:Tok) (s:Shared) (Q:Value→Shared→Prop) (E:Value→Shared→Prop),Q (.bool (g i j)) s→wpAny (model X.prog X.w) X.A (f (.int i t) (.int j u)) Q E s) :
    OpR X f (rI0 fun i j=>.bl (g i j)):=by
  intro pins s σ H x y v u Q I rx ry h
  obtain ⟨i,j,rfl,rfl,q⟩:=h
  obtain ⟨t,rfl⟩:=rx
  obtain ⟨t',rfl⟩:=ry
  exact rule i j t t' s _ _ ⟨.bl (g i j),H,I,rfl,q⟩
def CDiv (i j:Int):Prop:=0 < j∧j < 1073741824
def CPow (i j:Int):Prop:=0≤j∧j≤1000000∧i.natAbs < 2 ^ 64
def CMul (i j:Int):Prop:=(-(2 ^ 64) < i∧i < 2 ^ 64)∨(-(2 ^ 64) < j∧j < 2 ^ 64)
theorem CMul.ok {i j:Int} (h:CMul i j):IntMulOk i j:=by
  rcases h with ⟨h1,h2⟩ | ⟨h1,h2⟩
  · exact .of_left (intBits_le_64 h1 h2)
  · exact .of_right (intBits_le_64 h1 h2)
theorem Z2c:OpR X (binaryOp .Add) (rI0 fun i j=>.int (i+j)):=opI0 fun _ _ _ _ _ _ _ q=>add_int q
theorem Z9J:OpR X (binaryOp .Sub) (rI0 fun i j=>.int (i - j)):=opI0 fun _ _ _ _ _ _ _ q=>sub_int q
theorem Z3m:OpR X (binaryOp .Mult) (rI CMul fun i j=>.int (i * j)):=opI fun _ _ _ _ _ _ _ hc q=>mul_int q hc.ok
theorem Z1A:OpR X (binaryOp .FloorDiv) (rI CDiv fun i j=>.int (i / j)):=opI fun i j _ _ _ _ _ hc q=>by
  have h1:(0:Int) < j:=hc.1
  have h2:j < 1073741824:=hc.2
  exact floordiv_int (by omega) (by rw [Int.fdiv_eq_ediv_of_nonneg i (by omega)]; exact q) (.inl (PyProof.noPylong_small (by omega)))
theorem Z1w:OpR X (binaryOp .Mod) (rI (fun _ j=>0 < j) fun i j=>.int (i % j)):=opI fun i j _ _ _ _ _ hc q=>by
  have h1:(0:Int) < j:=hc
  exact mod_int' (by omega) (by rw [Int.fmod_eq_emod_of_nonneg i (by omega)]; exact q)
theorem J0D:OpR X (inplaceOp .Add) (rI0 fun i j=>.int (i+j)):=opI0 fun _ _ _ _ _ _ _ q=>iadd_int q
theorem J4z:OpR X (inplaceOp .Sub) (rI0 fun i j=>.int (i - j)):=opI0 fun _ _ _ _ _ _ _ q=>isub_int q
theorem unI {f:Value→Sem Value} {g:Int→Int}
    (rule:∀ (i:Int) (t:Tok) (s:Shared) (Q:Value→Shared→Prop) (E:Value→Shared→Prop),Q (.int (g i) s.toks) { s with toks:=s.toks+1 }→wpAny (model X.prog X.w) X.A (f (.int i t)) Q E s) :
    UnR X f (rU fun i=>.int (g i)):=by
  intro pins s σ H x v Q I rx h
  obtain ⟨i,rfl,q⟩:=h
  obtain ⟨t,rfl⟩:=rx
  exact rule i t s _ _ ⟨.int (g i),H,I.tok _,⟨_,rfl⟩,q⟩
theorem J3I:UnR X (unaryOp .USub) (rU fun i=>.int (-i)):=unI fun _ _ _ _ _ q=>neg_int q
end
def scal:V→V→Bool
  | .non,.non=>true | .non,.int _=>true | .int _,.non=>true | .non,.bl _=>true | .bl _,.non=>true | .non,.str _=>true | .str _,.non=>true
  | .int _,.int _=>true | .bl _,.bl _=>true | .str _,.str _=>true | .byt _,.byt _=>true
  | .int _,.str _=>true | .str _,.int _=>true | .bl _,.str _=>true | .str _,.bl _=>true
  | _,_=>false
def rEq:R2:=fun x y H Q=>scal x y=true∧Q (.bl (decide (x=y))) H
def rNe:R2:=fun x y H Q=>scal x y=true∧Q (.bl (!decide (x=y))) H
theorem Z9C {i j:Int}:decide (V.int i=V.int j)=(i == j):=by
  rw [Bool.eq_iff_iff]
  simp
theorem J3E {i j:Bool}:decide (V.bl i=V.bl j)=(i == j):=by
  rw [Bool.eq_iff_iff]
  simp
theorem J0E {i j:Str}:decide (V.str i=V.str j)=(i == j):=by
  rw [Bool.eq_iff_iff]
  simp
theorem J1i {i j:Array UInt8}:decide (V.byt i=V.byt j)=(i.toList == j.toList):=by
  rw [Bool.eq_iff_iff]
  cases i
  cases j
  simp
section
variable {X:Cx} {a b c:Expr} {ta tb tc:TE} {pos:Pos}
theorem Z0M {pins:List (Addr×Obj)} {σ:St} {H:Hp} {s:Shared} {Q:VK} {k k':Bool} (I:Inv X pins σ H s) (q:Q (.bl k) H) (e:k=k'):EP X pins σ Q (.bool k') s:=by
  subst e
  exact ⟨.bl k,H,I,rfl,q⟩
theorem Z1a:OpR X (compareOp .Eq) rEq:=by
  intro pins s σ H x y v u Q I rx ry h
  obtain ⟨hs,q⟩:=h
  cases x with
  | non=>
    cases rx
    cases y with
    | non=>cases ry; exact PySem.EqNone.eq_none_none (Z0M I q (by simp))
    | bl j=>cases ry; exact PySem.EqNone.eq_none_bool (Z0M I q (by simp))
    | int j=>obtain ⟨t',rfl⟩:=ry; exact PySem.EqNone.eq_none_int (Z0M I q (by simp))
    | str j=>obtain ⟨t',rfl⟩:=ry; exact PySem.EqNone.eq_none_str (Z0M I q (by simp))
    | _=>exact absurd (show false=true from hs) Bool.false_ne_true
  | bl i=>
    cases rx
    cases y with
    | non=>cases ry; exact PySem.EqNone.eq_bool_none (Z0M I q (by simp))
    | bl j=>cases ry; exact eq_bool (Z0M I q J3E)
    | str j=>obtain ⟨t',rfl⟩:=ry; exact PySem.EqMixed.eq_bool_str (Z0M I q (by simp))
    | _=>exact absurd (show false=true from hs) Bool.false_ne_true
  | int i=>
    obtain ⟨t,rfl⟩:=rx
    cases y with
    | non=>cases ry; exact PySem.EqNone.eq_int_none (Z0M I q (by simp))
    | int j=>obtain ⟨t',rfl⟩:=ry; exact eq_int (Z0M I q Z9C)
    | str j=>obtain ⟨t',rfl⟩:=ry; exact PySem.EqMixed.eq_int_str (Z0M I q (by simp))
    | _=>exact absurd (show false=true from hs) Bool.false_ne_true
  | str i=>
    obtain ⟨t,rfl⟩:=rx
    cases y with
    | non=>cases ry; exact PySem.EqNone.eq_str_none (Z0M I q (by simp))
    | bl j=>cases ry; exact PySem.EqMixed.eq_str_bool (Z0M I q (by simp))
    | int j=>obtain ⟨t',rfl⟩:=ry; exact PySem.EqMixed.eq_str_int (Z0M I q (by simp))
    | str j=>obtain ⟨t',rfl⟩:=ry; exact eq_str (Z0M I q J0E)
    | _=>exact absurd (show false=true from hs) Bool.false_ne_true
  | byt i=>
    obtain ⟨t,rfl⟩:=rx
    cases y with
    | byt j=>obtain ⟨t',rfl⟩:=ry; exact W.eq_bytes (Z0M I q J1i)
    | _=>exact absurd (show false=true from hs) Bool.false_ne_true
  | _=>cases y <;> exact absurd (show false=true from hs) Bool.false_ne_true
theorem J7y:OpR X (compareOp .NotEq) rNe:=by
  intro pins s σ H x y v u Q I rx ry h
  obtain ⟨hs,q⟩:=h
  cases x with
  | non=>
    cases rx
    cases y with
    | non=>cases ry; exact PySem.EqNone.ne_none_none (Z0M I q (by simp))
    | bl j=>cases ry; exact PySem.EqNone.ne_none_bool (Z0M I q (by simp))
    | int j=>obtain ⟨t',rfl⟩:=ry; exact PySem.EqNone.ne_none_int (Z0M I q (by simp))
    | str j=>obtain ⟨t',rfl⟩:=ry; exact PySem.EqNone.ne_none_str (Z0M I q (by simp))
    | _=>exact absurd (show false=true from hs) Bool.false_ne_true
  | bl i=>
    cases rx
    cases y with
    | non=>cases ry; exact PySem.EqNone.ne_bool_none (Z0M I q (by simp))
    | bl j=>cases ry; exact ne_bool (Z0M I q (congrArg not J3E))
    | str j=>obtain ⟨t',rfl⟩:=ry; exact PySem.EqMixed.ne_bool_str (Z0M I q (by simp))
    | _=>exact absurd (show false=true from hs) Bool.false_ne_true
  | int i=>
    obtain ⟨t,rfl⟩:=rx
    cases y with
    | non=>cases ry; exact PySem.EqNone.ne_int_none (Z0M I q (by simp))
    | int j=>obtain ⟨t',rfl⟩:=ry; exact ne_int (Z0M I q (congrArg not Z9C))
    | str j=>obtain ⟨t',rfl⟩:=ry; exact PySem.EqMixed.ne_int_str (Z0M I q (by simp))
    | _=>exact absurd (show false=true from hs) Bool.false_ne_true
  | str i=>
    obtain ⟨t,rfl⟩:=rx
    cases y with
    | non=>cases ry; exact PySem.EqNone.ne_str_none (Z0M I q (by simp))
    | bl j=>cases ry; exact PySem.EqMixed.ne_str_bool (Z0M I q (by simp))
    | int j=>obtain ⟨t',rfl⟩:=ry; exact PySem.EqMixed.ne_str_int (Z0M I q (by simp))
    | str j=>obtain ⟨t',rfl⟩:=ry; exact ne_str (Z0M I q (congrArg not J0E))
    | _=>exact absurd (show false=true from hs) Bool.false_ne_true
  | byt i=>
    obtain ⟨t,rfl⟩:=rx
    cases y with
    | byt j=>obtain ⟨t',rfl⟩:=ry; exact W.ne_bytes (Z0M I q (congrArg not J1i))
    | _=>exact absurd (show false=true from hs) Bool.false_ne_true
  | _=>cases y <;> exact absurd (show false=true from hs) Bool.false_ne_true
theorem J5Z:OpR X (compareOp .Lt) (rI0 fun i j=>.bl (decide (i < j))):=opB0 fun _ _ _ _ _ _ _ q=>lt_int q
theorem J8M:OpR X (compareOp .Gt) (rI0 fun i j=>.bl (decide (j < i))):=opB0 fun _ _ _ _ _ _ _ q=>gt_int q
theorem J7s:OpR X (compareOp .GtE) (rI0 fun i j=>.bl (decide (j≤i))):=opB0 fun _ _ _ _ _ _ _ q=>ge_int q
theorem J1A:OpR X (compareOp .Is) (fun x y H Q=>y=.non∧Q (.bl (decide (x=.non))) H):=by
  intro pins s σ H x y v u Q I rx ry h
  obtain ⟨rfl,q⟩:=h
  cases ry
  refine is_none_gen (Z0M I q ?_)
  cases x <;> first
    | (cases rx; rfl)
    | (obtain ⟨t,rfl⟩:=rx; rfl)
theorem J0u:OpR X (compareOp .IsNot) (fun x y H Q=>y=.non∧Q (.bl (!decide (x=.non))) H):=by
  intro pins s σ H x y v u Q I rx ry h
  obtain ⟨rfl,q⟩:=h
  cases ry
  refine isnot_none_gen (Z0M I q ?_)
  cases x <;> first
    | (cases rx; rfl)
    | (obtain ⟨t,rfl⟩:=rx; rfl)
theorem Z0x (b:Expr) {op:CmpOp} (h:op≠.In:=by decide) (h2:op≠.NotIn:=by decide):behindInMarks op b=false:=by
  have e1:(op == CmpOp.In)=false:=by cases op <;> first | rfl | exact absurd rfl h
  have e2:(op == CmpOp.NotIn)=false:=by cases op <;> first | rfl | exact absurd rfl h2
  cases b <;> simp [behindInMarks,e1,e2]
theorem Z2u {op:CmpOp} {r:R2} (ho:OpR X (compareOp op) r) (ha:PE X a ta) (hb:PE X b tb) (hm:behindInMarks op b=false):PE X (.Compare a [op] [b] pos) (tOp r ta tb):=by
  intro pins s σ H Q I h
  exact wpAny_Compare1 (binT ha hb I h fun v u s2 x y H2 I2 rx ry q=>ho pins s2 σ H2 x y v u Q I2 rx ry q) hm
def J5N (t:TE):TT:=fun σ H Q=>t σ H fun x H'=>∃ k,x=.bl k∧Q k H'
theorem Z0p {op:CmpOp} {r:R2} (ho:OpR X (compareOp op) r) (ha:PE X a ta) (hb:PE X b tb) (hm:behindInMarks op b=false):PT X (.Compare a [op] [b] pos) (J5N (tOp r ta tb)):=by
  intro pins s σ H Q I h
  refine wpAny_isTrue_Compare1 (thn (ha pins s σ H _ I h) fun v s1 ⟨x,H1,I1,r1,q1⟩=>thn (hb pins s1 σ H1 _ I1 q1) fun u s2 ⟨y,H2,I2,r2,q2⟩=>
    thn (ho pins s2 σ H2 x y v u _ I2 r1 r2 q2) fun c s3 ⟨z,H3,I3,r3,k,e,q3⟩=>?_) hm
  subst e
  cases r3
  exact wpAny_truthy_bool ⟨H3,I3,q3⟩
def J6T (r r':R2) (ta tb tc:TE):TE:=fun σ H Q=>ta σ H fun x H1=>tb σ H1 fun y H2=>r x y H2 fun z H3=>∃ k,z=.bl k ∧
  (if k=true then tc σ H3 fun w' H4=>r' y w' H4 Q else Q (.bl false) H3)
def TruV (K:W.Frag) (x:V) (H:Hp) (k:Bool):Prop:=
  match x with
  | .non=>k=false
  | .bl b=>k=b
  | .int i=>k=(i != 0)
  | .str y=>y.length≤sizeLine∧k=((y.length:Int) != 0)
  | .byt y=>y.size≤sizeLine∧k=((y.size:Int) != 0)
  | .ref p=>(∃ xs,SqL K H p xs∧k=!xs.isEmpty)∨(∃ xs,SqT K H p xs∧k=!xs.isEmpty)∨∃ kvs,H p=some (.dK kvs)∧k=!kvs.isEmpty
  | _=>False
theorem Z8J {κ:Type} {kvs:List (κ×V)} {vs:List (κ×Value)} (r:KV kvs vs):(!vs.isEmpty)=!kvs.isEmpty:=by
  cases r <;> rfl
theorem Z5n {xs:List V} {its:List Value} (r:Vals xs its):(!its.toArray.isEmpty)=!xs.isEmpty:=by
  cases r <;> simp
theorem Z5o:(sizeLine:Nat) < 2 ^ 63:=by rw [sizeLine_eq]; decide
theorem J6S:TruR X (fun x H Q=>∃ k,TruV X.K x H k∧Q k H):=by
  intro pins s σ H x v Q I rx h
  obtain ⟨k,e,q⟩:=h
  have hl:=Z5o
  have hs:sizeLine=16777216:=sizeLine_eq
  cases x with
  | non=>
    cases rx
    have e':k=false:=e
    subst e'
    exact truthy_none ⟨H,I,q⟩
  | bl b=>
    cases rx
    have e':k=b:=e
    subst e'
    exact wpAny_truthy_bool ⟨H,I,q⟩
  | int i=>
    obtain ⟨t,rfl⟩:=rx
    have e':k=(i != 0):=e
    subst e'
    exact PySem.P.truthy_int ⟨H,I,q⟩
  | str y=>
    obtain ⟨t,rfl⟩:=rx
    obtain ⟨hy,e'⟩:y.length≤sizeLine∧k=((y.length:Int) != 0):=e
    subst e'
    exact PySem.P.truthy_str (by omega) ⟨H,I.tok _,q⟩
  | byt y=>
    obtain ⟨t,rfl⟩:=rx
    obtain ⟨hy,e'⟩:y.size≤sizeLine∧k=((y.size:Int) != 0):=e
    subst e'
    exact W.truthy_bytes (by omega) ⟨H,I.tok _,q⟩
  | ref p=>
    cases rx
    have e':(∃ xs,SqL X.K H p xs∧k=!xs.isEmpty)∨(∃ xs,SqT X.K H p xs∧k=!xs.isEmpty)∨∃ kvs,H p=some (.dK kvs)∧k=!kvs.isEmpty:=e
    rcases e' with ⟨xs,hx,e'⟩ | ⟨xs,hx,e'⟩ | ⟨kvs,hx,e'⟩
    · subst e'
      obtain ⟨its,r,pl,hz⟩:=I.list hx
      have hlen:=r.length
      exact wpAny_truthy_list pl.isList (by simp only [List.size_toArray]; omega) ⟨H,I.tok _,by rw [Z5n r]; exact q⟩
    · subst e'
      obtain ⟨its,r,pl,hz⟩:=I.tuple hx
      have hlen:=r.length
      exact truthy_tuple pl (by simp only [List.size_toArray]; omega) ⟨H,I.tok _,by rw [Z5n r]; exact q⟩
    · subst e'
      obtain ⟨hz,hS,vs,r,m⟩:kvs.length≤sizeLine∧(p == sysModules)=false∧∃ vs,KV kvs vs∧s.heap.DictOf (Z0N X.prog X.w) p vs:=I.hok p _ hx
      have hlen:kvs.length=vs.length:=Paired.length r
      exact wpAny_truthy_dict hS m (by omega) ⟨H,I.tok _,by rw [Z8J r]; exact q⟩
  | _=>exact (show False from e).elim
theorem Z7l {x:V} {us:List Value} (r:Vals [x] us):∃ u,us=[u]∧RelV x u:=by
  cases r with
  | cons r1 r2=>cases r2; exact ⟨_,rfl,r1⟩
theorem J8Q {x y:V} {us:List Value} (r:Vals [x,y] us):∃ u w',us=[u,w']∧RelV x u∧RelV y w':=by
  cases r with
  | cons r1 r2=>
    cases r2 with
    | cons r3 r4=>cases r4; exact ⟨_,_,rfl,r1,r3⟩
theorem J1X:Z4q X (.builtin "abs") (fun xs H Q=>∃ i,xs=[.int i]∧Q (.int (if i < 0 then -i else i)) H):=by
  intro pins s σ H xs us Q I r h
  obtain ⟨i,rfl,q⟩:=h
  obtain ⟨u,rfl,t,rfl⟩:=Z7l r
  exact call_abs_int fun u tk=>⟨.int (if i < 0 then -i else i),H,I.tok _,⟨_,rfl⟩,q⟩
theorem J0X (hc:X.calm=true):Z4q X (.builtin "max") (fun xs H Q=>∃ i j,xs=[.int i,.int j]∧Q (.int (if j > i then j else i)) H):=by
  intro pins s σ H xs us Q I r h
  obtain ⟨i,j,rfl,q⟩:=h
  obtain ⟨u,w',rfl,⟨t,rfl⟩,⟨t',rfl⟩⟩:=J8Q r
  refine max_two_ints (I.ok.hd hc) fun h' tk k=>⟨_,H,I.kept k,?_,q⟩
  by_cases hj:j > i
  · rw [if_pos hj,if_pos hj]; exact ⟨_,rfl⟩
  · rw [if_neg hj,if_neg hj]; exact ⟨_,rfl⟩
theorem Z6J:Z4q X (.type "int") (fun xs H Q=>(∃ i,xs=[.int i]∧Q (.int i) H)∨∃ k,xs=[.bl k]∧Q (.int (if k then 1 else 0)) H):=by
  intro pins s σ H xs us Q I r h
  rcases h with ⟨i,rfl,q⟩ | ⟨k,rfl,q⟩
  · obtain ⟨u,rfl,t,rfl⟩:=Z7l r
    exact call_int_int ⟨.int i,H,I,⟨_,rfl⟩,q⟩
  · obtain ⟨u,rfl,r1⟩:=Z7l r
    cases r1
    exact call_int_bool ⟨.int (if k then 1 else 0),H,I.tok _,⟨_,rfl⟩,q⟩
end
end L2
namespace L2
open PySem PySem.Spec PyProof.Rows
structure ObjM (h:Heap) (x dx C:Addr) (mA:Str→Option Value):Prop where
  obj:h.get? x=some (W.instObj C dx)
  ns:h.Ns1 dx mA
  ne:dx≠x
theorem Z9Q {h:Heap} {dx:Addr} {mA:Str→Option Value} (n:h.Ns1 dx mA):∃ od,h.get? dx=some od∧∀ name,W.lookIn name od=some (mA name):=by
  obtain ⟨o,es,ep,ho,hd,hk,_,hm⟩:=n
  refine ⟨o,ho,fun name=>?_⟩
  have e:=hm name
  unfold nsFind findBy at e
  rw [← Array.find?_toList] at e
  unfold W.lookIn
  rw [hd]
  dsimp only
  split
  · rename_i y q
    rw [q] at e
    exact congrArg some e
  · rename_i q
    rw [q] at e
    have a:es.toList.any (·.refKey)=false:=by
      rw [List.any_eq_false]
      intro y hy
      obtain ⟨z,t,hkey⟩:=hk y (Array.mem_toList_iff.mp hy)
      simp [DictEntry.refKey,hkey]
    have a':¬ es.toList.any (·.refKey)=true:=by rw [a]; exact Bool.false_ne_true
    rw [if_neg a']
    exact congrArg some e
theorem ObjM.look {h:Heap} {x dx C:Addr} {mA:Str→Option Value} (I:ObjM h x dx C mA):∃ od,W.InstAt h x (W.instObj C dx) C (some od)∧∀ name,W.lookIn name od=some (mA name):=
  let ⟨od,ho,hl⟩:=Z9Q I.ns
  ⟨od,⟨I.obj,rfl,rfl,ho⟩,hl⟩
section
variable {prog:Program} {w:World} {A:Around} {E:Value→Shared→Prop} {s:Shared} {K:W.Frag} {x dx C f:Addr} {mA:Str→Option Value} {name:Str} {v:Value}
theorem J4l {expr:Bool} {Q:Value→Shared→Prop} (X:K.In s.heap) (I:ObjM s.heap x dx C mA) (hg:W.plainGet K C name=true) (hh:W.hasDictIn K C=true)
    (ha:W.findIn K (.ref C) name=some none) (hv:mA name=some v) (hv':W.handedIn v=true) (h:Q v { s with toks:=s.toks+1 }) :
    wpAny (model prog w) A (getAttr (.ref x) name expr) Q E s:=by
  obtain ⟨od,J,hl⟩:=I.look
  exact W.get_value X J (W.plainGet_of hg).1 (W.findObj_own hh ha rfl (by rw [hl,hv])) hv' h
theorem J2c {pl:Sem Bool} {Q:Value×List Value→Shared→Prop} (X:K.In s.heap) (I:ObjM s.heap x dx C mA) (hg:W.plainGet K C name=true)
    (hf:W.findIn K (.ref C) name=some (some (.ref f))) (ht:W.isFn K (.ref f)=true) (hv:mA name=none) (h:Q (.ref f,[.ref x]) s) :
    wpAny (model prog w) A (getMethod (.ref x) name pl) Q E s:=by
  obtain ⟨od,J,hl⟩:=I.look
  exact W.method_fn X J (W.plainGet_of hg).1 (W.plainGet_of hg).2 hf (beq_iff_eq.mp ht) (by show (W.lookIn name od).map (·.isSome)=some false; rw [hl,hv]; rfl) h
theorem J4E {ns:List Str} {Q:Unit→Shared→Prop} (X:K.In s.heap) (I:ObjM s.heap x dx C mA)
    (hs:W.findIn K (.ref C) "__setattr__"=some (some (.builtin "object.__setattr__"))) (hp:W.plainOver K C=true) (ht:W.takerIn K C name=some none) (hh:W.hasDictIn K C=true)
    (hw:PySem.Within mA ns) (hsz:ns.length≤sizeLine)
    (h:∀ h',ObjM h' x dx C (fun y=>if y=name then some v else mA y)→Heap.SameBut dx s.heap h'→Q () { s with heap:=h',toks:=s.toks+2 }) :
    wpAny (model prog w) A (setAttr (.ref x) name v) Q E s:=by
  obtain ⟨od,J,hl⟩:=I.look
  refine W.set_plain X J hs (W.osa_open (s:={ s with toks:=s.toks+1 }) (r:=none) X J hp ht fun b=>?_)
  obtain ⟨cd,hc,hd'⟩:=W.any_some hh
  have hx:s.heap.get? x=some ⟨.ref C,some dx,.plain,#[]⟩:=I.obj
  refine wpAny_bind (wpAny_pure (wpAny_bind (wpAny_bind (wpAny_loadPart hx (wpAny_bind (W.Looks.here (s:={ s with toks:=s.toks+1 }) (W.looks_clsIn X hc) ?_))))))
  rw [hd']
  refine wpAny_pure (a:=some dx) (wpAny_bind (wpAny_pure (wpAny_bind ?_)))
  refine wpAny_nsSet1 (s:={ s with toks:=s.toks+1 }) I.ns fun h' hn2 hs2=>?_
  obtain ⟨oD,esD,epD,hoD,hdD,hcD⟩:=hn2.count (PySem.Within.cons name v hw)
  refine wpAny_bind (wpAny_lookBehind hoD (by rw [hdD]; exact pastItsLine_dict (Nat.le_trans hcD (by rw [List.length_cons]; omega))) ?_)
  exact wpAny_pure (h _ ⟨(hs2.2 _ (Ne.symm I.ne)).trans I.obj,hn2,I.ne⟩ hs2)
theorem J2V {R:Result→Shared→Prop} {vs:List Value} {kw:List (Str×Value)} (X:K.In s.heap) (hm:W.makesIn K C=true)
    (hi:W.findIn K (.ref C) "__init__"=some (some (.ref f))) (hf:W.typeIn K (.ref f)=some (.type "function"))
    (h:codeAny (model prog w) (A.under (.builtin "type.__call__" ⟨.ref C::vs,kw⟩)) (.call (.ref f) ⟨.ref (s.heap.objs.size+1)::vs,kw⟩) (W.InitBack (s.heap.objs.size+1) R)
      { s with heap:=(s.heap.push W.emptyDict).push (W.instObj C s.heap.objs.size) }) :
    codeAny (model prog w) A (.call (.ref C) ⟨vs,kw⟩) R s:=by
  obtain ⟨hh,g,d,t,os⟩:=s
  exact W.make_core (W.makes_of X hm) (W.looks_findIn X hi) (fun self=>W.bind_fn X self hf) (.inl rfl) h
end
def putF (f:Str) (v:V):List (Str×V)→List (Str×V)
  | []=>[(f,v)]
  | (g,x)::r=>if g=f then (g,v)::r else (g,x)::putF f v r
theorem Z4x (f g:Str) (v:V):∀ fs:List (Str×V),(putF f v fs).lookup g=if g=f then some v else fs.lookup g
  | []=>by
    show List.lookup g [(f,v)]=_
    by_cases h:g=f
    · have hb:(g == f)=true:=beq_iff_eq.mpr h
      simp only [List.lookup,hb,if_pos h]
    · have hb:(g == f)=false:=beq_eq_false_iff_ne.mpr h
      simp only [List.lookup,hb,if_neg h]
  | (k,x)::r=>by
    have ih:=Z4x f g v r
    rw [show putF f v ((k,x)::r)=(if k=f then (k,v)::r else (k,x)::putF f v r) from rfl]
    by_cases hk:k=f
    · rw [if_pos hk]
      by_cases h:g=k
      · have hb:(g == k)=true:=beq_iff_eq.mpr h
        simp only [List.lookup,hb,if_pos (h.trans hk)]
      · have hb:(g == k)=false:=beq_eq_false_iff_ne.mpr h
        simp only [List.lookup,hb,if_neg (fun e:g=f=>h (e.trans hk.symm))]
    · rw [if_neg hk]
      by_cases h:g=k
      · have hb:(g == k)=true:=beq_iff_eq.mpr h
        simp only [List.lookup,hb,if_neg (fun e:g=f=>hk (h.symm.trans e))]
      · have hb:(g == k)=false:=beq_eq_false_iff_ne.mpr h
        simp only [List.lookup,hb]
        exact ih
theorem Z4J (f:Str) (v:V):∀ fs:List (Str×V),f∈(putF f v fs).map (·.1)∧∀ g,g∈fs.map (·.1)→g∈(putF f v fs).map (·.1)
  | []=>⟨by simp [putF],fun g h=>by simp at h⟩
  | (k,x)::r=>by
    obtain ⟨i1,i2⟩:=Z4J f v r
    rw [show putF f v ((k,x)::r)=(if k=f then (k,v)::r else (k,x)::putF f v r) from rfl]
    by_cases hk:k=f
    · rw [if_pos hk]
      subst hk
      exact ⟨by simp,fun g h=>by simpa using h⟩
    · rw [if_neg hk]
      refine ⟨?_,fun g h=>?_⟩
      · rw [List.map_cons]
        exact List.mem_cons_of_mem _ i1
      · rw [List.map_cons] at h ⊢
        rcases List.mem_cons.mp h with e | e
        · exact List.mem_cons.mpr (.inl e)
        · exact List.mem_cons_of_mem _ (i2 g e)
theorem Z4C (f:Str) (v:V):∀ fs:List (Str×V),(putF f v fs).length≤fs.length+1
  | []=>by simp [putF]
  | (k,x)::r=>by
    have ih:=Z4C f v r
    rw [show putF f v ((k,x)::r)=(if k=f then (k,v)::r else (k,x)::putF f v r) from rfl]
    by_cases hk:k=f
    · rw [if_pos hk,List.length_cons,List.length_cons]; omega
    · rw [if_neg hk,List.length_cons,List.length_cons]; omega
theorem RelO.some_of {v:V} {o:Option Value} (r:RelO (some v) o):∃ u,o=some u∧RelV v u:=by
  cases o with
  | none=>exact (show False from r).elim
  | some u=>exact ⟨u,rfl,r⟩
theorem RelO.none_of {o:Option Value} (r:RelO none o):o=none:=by
  cases o with
  | none=>rfl
  | some u=>exact (show False from r).elim
theorem Z9R {v:V} {u:Value} (r:RelV v u):W.handedIn u=true:=by
  cases v with
  | non=>cases (show u=Value.none from r); rfl
  | bl b=>cases (show u=Value.bool b from r); rfl
  | int i=>obtain ⟨t,e⟩:=(show ∃ t,u=Value.int i t from r); cases e; rfl
  | str x=>obtain ⟨t,e⟩:=(show ∃ t,u=Value.str x t from r); cases e; rfl
  | byt b=>obtain ⟨t,e⟩:=(show ∃ t,u=Value.bytes b t from r); cases e; rfl
  | flt b=>obtain ⟨t,e⟩:=(show ∃ t,u=Value.float b t from r); cases e; rfl
  | ref a=>cases (show u=Value.ref a from r); rfl
  | ty n=>cases (show u=Value.type n from r); rfl
section
variable {P:Program} {w:World} {H H':Hp} {h h':Heap} {a C dx:Addr} {fs fs':List (Str×V)}
theorem Z5y (hok:HOk P w H h) (e:H a=some (.ins C dx fs)):∃ mA,ObjM h a dx C mA∧(∀ f,RelO (fs.lookup f) (mA f))∧PySem.Within mA (fs.map (·.1))∧fs.length≤1000∧H dx=some (.own a):=by
  obtain ⟨d,z,ne,ob,mA,n,r,q⟩:=(show ObjOk P w H h a (.ins C dx fs) from hok a _ e)
  exact ⟨mA,⟨ob,n,ne⟩,r,q,z,d⟩
end
structure Cls (K:W.Frag) (C:Addr):Prop where
  pg:W.plainGet K C Str.empty=true
  hd:W.hasDictIn K C=true
  po:W.plainOver K C=true
  sa:W.findIn K (.ref C) "__setattr__"=some (some (.builtin "object.__setattr__"))
theorem Cls.get {K:W.Frag} {C:Addr} (c:Cls K C) (f:Str):W.plainGet K C f=true:=c.pg
def NoAttr (K:W.Frag) (C:Addr) (f:Str):Prop:=W.findIn K (.ref C) f=some none
theorem NoAttr.taker {K:W.Frag} {C:Addr} {f:Str} (n:NoAttr K C f):W.takerIn K C f=some none:=by
  unfold W.takerIn
  rw [show W.findIn K (.ref C) f=some none from n]
  rfl
structure Con (K:W.Frag) (C:Addr) (f:Str) (v:V) (u:Value):Prop where
  at_:W.findIn K (.ref C) f=some (some u)
  rel:RelV v u
  get:W.specialIn K u "__get__"=some none
  cp:W.copiedNames.contains f=false
structure Meth (K:W.Frag) (C:Addr) (m:Str) (f:Addr):Prop where
  at_:W.findIn K (.ref C) m=some (some (.ref f))
  fn:W.isFn K (.ref f)=true
  kp:W.keepIn K (.ref f)=true
section
variable {X:Cx} {pins:List (Addr×Obj)} {σ:St} {H:Hp} {s:Shared} {a C dx:Addr} {fs:List (Str×V)} {f:Str} {v:V} {A:Around} {E:Value→Shared→Prop}
theorem Z5t {b:Bool} {Q:Value→Shared→Prop} (I:Inv X pins σ H s) (e:H a=some (.ins C dx fs)) (c:Cls X.K C) (n:NoAttr X.K C f) (l:fs.lookup f=some v)
    (h:∀ u s',Inv X pins σ H s'→RelV v u→Q u s'):wpAny (model X.prog X.w) A (getAttr (.ref a) f b) Q E s:=by
  obtain ⟨mA,O,r,_,_,_⟩:=Z5y I.hok e
  obtain ⟨u,hu,ru⟩:=RelO.some_of (v:=v) (o:=mA f) (by rw [← l]; exact r f)
  exact J4l I.kIn O (c.get f) c.hd n hu (Z9R ru) (h u _ (I.tok _) ru)
theorem Z4c {m:Str} {g:Addr} {pl:Sem Bool} {Q:Value×List Value→Shared→Prop} (I:Inv X pins σ H s) (e:H a=some (.ins C dx fs)) (c:Cls X.K C) (k:Meth X.K C m g) (l:fs.lookup m=none)
    (h:Q (.ref g,[.ref a]) s):wpAny (model X.prog X.w) A (getMethod (.ref a) m pl) Q E s:=by
  obtain ⟨mA,O,r,_,_,_⟩:=Z5y I.hok e
  have hn:mA m=none:=RelO.none_of (by rw [← l]; exact r m)
  exact J2c I.kIn O (c.get m) k.at_ k.fn hn h
theorem Z5w {y:V} {u:Value} {Q:Unit→Shared→Prop} (I:Inv X pins σ H s) (e:H a=some (.ins C dx fs)) (c:Cls X.K C) (n:NoAttr X.K C f) (hl:fs.length < 1000) (ry:RelV y u)
    (h:∀ s',Inv X pins σ (upd H a (.ins C dx (putF f y fs))) s'→Q () s'):wpAny (model X.prog X.w) A (setAttr (.ref a) f u) Q E s:=by
  obtain ⟨mA,O,r,wi,_,ho⟩:=Z5y I.hok e
  have hz:(fs.map (·.1)).length≤sizeLine:=by rw [List.length_map,sizeLine_eq]; omega
  refine J4E I.kIn O c.sa c.po n.taker c.hd wi hz fun h' O' sb=>h _ ?_
  have hd:∃ o,h'.get? dx=some o:=let ⟨o,_,_,e',_⟩:=O'.ns; ⟨o,e'⟩
  refine I.write (x:=a) (e:=dx) (by rw [e]; exact True.intro) (.inr ho) (fun b q hb z=>(sb.2 b hb).trans z) hd ?_
  refine ⟨by rw [Z0j O.ne]; exact ho,?_,O.ne,O'.obj,_,O'.ns,fun g=>?_,fun g hg=>?_⟩
  · have:=Z4C f y fs; omega
  · show RelO ((putF f y fs).lookup g) (if g=f then some u else mA g)
    rw [Z4x]
    by_cases q:g=f
    · rw [if_pos q,if_pos q]; exact ry
    · rw [if_neg q,if_neg q]; exact r g
  · by_cases q:g=f
    · rw [q]; exact (Z4J f y fs).1
    · refine (Z4J f y fs).2 g (wi g fun z=>hg ?_)
      show (if g=f then some u else mA g)=none
      rw [if_neg q]; exact z
theorem Inv.made (I:Inv X pins σ H s):Inv X pins σ (upd (upd H s.heap.objs.size (.own (s.heap.objs.size+1))) (s.heap.objs.size+1) (.ins C s.heap.objs.size []))
    { s with heap:=(s.heap.push W.emptyDict).push (W.instObj C s.heap.objs.size) }:=by
  have e1:(s.heap.push W.emptyDict).get? s.heap.objs.size=some W.emptyDict:=Heap.get?_push_size s.heap rfl
  have e2:((s.heap.push W.emptyDict).push (W.instObj C s.heap.objs.size)).get? (s.heap.objs.size+1)=some (W.instObj C s.heap.objs.size):=by
    have:=Heap.get?_push_size (s.heap.push W.emptyDict) (o:=W.instObj C s.heap.objs.size) rfl
    rwa [Heap.size_push] at this
  have e3:(s.heap.push W.emptyDict).Ns s.heap.objs.size (fun _=>none):=⟨W.emptyDict,#[],_,e1,rfl,(fun e he=>absurd he (by simp)),fun _=>rfl⟩
  have I1:=I.laid (a:=s.heap.objs.size) (o:=.own (s.heap.objs.size+1)) (h':=s.heap.push W.emptyDict) (t':=s.toks) (fun b u q=>Heap.get?_push_of_some _ q) (Nat.le_refl _) ⟨_,e1⟩
  refine I1.laid (a:=s.heap.objs.size+1) (o:=.ins C s.heap.objs.size []) (t':=s.toks) (fun b u q=>Heap.get?_push_of_some _ q) (Nat.le_of_eq (Heap.size_push _ _)) ?_
  have ne:s.heap.objs.size≠s.heap.objs.size+1:=Nat.ne_of_lt (Nat.lt_succ_self _)
  refine ⟨by rw [Z0j ne,Z0g],Nat.zero_le _,ne,e2,fun _=>none,(Heap.Ns1.of_empty e3).at fun o q=>Heap.get?_push_of_some _ q,fun _=>True.intro,fun y hy=>absurd rfl hy⟩
theorem J4x {prog:Program} {w:World} {env:Env} {e:Expr} {f:Str} {pos:Pos} {s:Shared} {Q:Value→Shared→Prop} (hb:attributeBase e f env (eval e env)=eval e env)
    (h:wpAny (model prog w) A (eval e env) (fun o s₁=>wpAny (model prog w) A (getAttr o f true) Q E s₁) E s):wpAny (model prog w) A (eval (.Attribute e f pos) env) Q E s:=
  Attribute_any_ h (by rw [arm_eval_Attribute,hb])
end
def tFld (K:W.Frag) (ta:TE) (f:Str):TE:=fun σ H Q=>ta σ H fun x H1=>∃ a C dx fs v,x=.ref a∧H1 a=some (.ins C dx fs)∧Cls K C∧NoAttr K C f∧fs.lookup f=some v∧Q v H1
def tCon (K:W.Frag) (ta:TE) (f:Str):TE:=fun σ H Q=>ta σ H fun x H1=>∃ a C dx fs v u,x=.ref a∧H1 a=some (.ins C dx fs)∧Cls K C∧Con K C f v u∧fs.lookup f=none∧Q v H1
def sFld (K:W.Frag) (ta tv:TE) (f:Str):TS:=fun D σ H=>tv σ H fun y H1=>ta σ H1 fun x H2=>∃ a C dx fs,x=.ref a∧H2 a=some (.ins C dx fs)∧Cls K C∧NoAttr K C f∧fs.length < 1000 ∧
  D.nx σ (upd H2 a (.ins C dx (putF f y fs)))
def InOp (X:Cx) (op:Operator) (rd:V→V→Hp→VK→Prop):Prop:=
  ∀ (pins:List (Addr×Obj)) (s:Shared) (σ:St) (H:Hp) (x y:V) (u v:Value) (Q:VK),Inv X pins σ H s→RelV x u→RelV y v→rd x y H Q→wpAny (model X.prog X.w) X.A (inplaceOp op u v) (EP X pins σ Q) X.xe s
def J5a (K:W.Frag) (ta tv:TE) (rd:V→V→Hp→VK→Prop) (f:Str):TS:=fun D σ H=>ta σ H fun x H1=>∃ a C dx fs v,x=.ref a∧H1 a=some (.ins C dx fs)∧Cls K C∧NoAttr K C f∧fs.lookup f=some v ∧
  tv σ H1 fun y H2=>rd v y H2 fun z H3=>∃ dx' fs',H3 a=some (.ins C dx' fs')∧fs'.length < 1000∧D.nx σ (upd H3 a (.ins C dx' (putF f z fs')))
section
variable {X:Cx} {o e value:Expr} {f:Str} {pos pos' tpos:Pos} {ta tv:TE}
theorem J5u {pl:Sem Bool} {m:Str} {apos:Pos} {args:List Expr} {pins:List (Addr×Obj)} {s:Shared} {σ:St} {H:Hp} {Q:Value→Shared→Prop} {te:TE} (he:PE X e te) (I:Inv X pins σ H s)
    (h:te σ H fun x H1=>∃ a C dx fs g,x=.ref a∧H1 a=some (.ins C dx fs)∧Cls X.K C∧Meth X.K C m g∧fs.lookup m=none ∧
      ∀ s1,Inv X pins σ H1 s1→wpAny (model X.prog X.w) X.A (callWith pos (.ref g) [.ref a] (backTo pos (starEach args X.env)) (backToKw pos (keywordEach [] X.env))) Q X.xe s1)
    (ht:eval (.Call (.Attribute e m apos) args [] pos) X.env=(do
      let ov ← eval e X.env
      standAt apos.atName
      let (f,first) ← holding [ov] (getMethod ov m pl)
      callWith pos f first (backTo pos (starEach args X.env)) (backToKw pos (keywordEach [] X.env)))) :
    wpAny (model X.prog X.w) X.A (eval (.Call (.Attribute e m apos) args [] pos) X.env) Q X.xe s:=by
  refine W.methodCall_KW (pl:=pl) (thn (he pins s σ H _ I h) fun u s1 ⟨x,H1,I1,rx,a,C,dx,fs,g,ex,ea,c,k,l,q⟩=>?_) ht
  subst ex
  obtain rfl:u=Value.ref a:=rx
  exact Z4c I1 ea c k l (q s1 I1)
end
section
variable {X:Cx} {pins:List (Addr×Obj)} {σ:St} {H:Hp} {s:Shared} {A:Around} {E:Value→Shared→Prop} {Q:Value→Shared→Prop} {c:Value} {b:Bool}
inductive TyOf (K:W.Frag) (H:Hp):V→Value→Prop where
  | non:TyOf K H .non (.type "NoneType")
  | bl (x:Bool):TyOf K H (.bl x) (.type "bool")
  | int (i:Int):TyOf K H (.int i) (.type "int")
  | str (x:Str):TyOf K H (.str x) (.type "str")
  | flt (x:UInt64):TyOf K H (.flt x) (.type "float")
  | lst {a:Addr} {xs:List V} (e:H a=some (.lst xs)):TyOf K H (.ref a) (.type "list")
  | frz {a:Addr} {o:Obj} {xs:List V} (e:H a=some (.frz o (.lst xs))):TyOf K H (.ref a) (.type "list")
  | tup {a:Addr} {xs:List V} (e:H a=some (.tup xs)):TyOf K H (.ref a) (.type "tuple")
  | dK {a:Addr} {kvs:List (Key×V)} (e:H a=some (.dK kvs)):TyOf K H (.ref a) (.type "dict")
  | dT {a:Addr} {kvs:List (List Key×V)} (e:H a=some (.dT kvs)):TyOf K H (.ref a) (.type "dict")
  | ins {a C dx:Addr} {fs:List (Str×V)} (e:H a=some (.ins C dx fs)) (cl:Cls K C) (ha:W.findIn K (.ref C) "__class__"=some (some (.builtin "object.__class__")))
      (hn:W.specialIn K (.builtin "object.__class__") "__get__"=some (some (.builtin "getset_descriptor.__get__"))) (htk:W.takesIn K (.builtin "object.__class__")=some true)
      (hm:W.mroIn K C (.type "object")=some true):TyOf K H (.ref a) (.ref C)
theorem Z3F {x:V} {u t:Value} (I:Inv X pins σ H s) (rx:RelV x u) (ty:TyOf X.K H x t) (e:W.kitOne X.K t c=some b) (h:∀ tk,Q (.bool b) { s with toks:=tk }) :
    wpAny (model X.prog X.w) A (call (.builtin "isinstance") [u,c]) Q E s:=by
  cases ty with
  | non=>cases (show u=Value.none from rx); exact W.kia_one W.kitx_none I.kIn True.intro e (fun z=>nomatch z) h
  | bl y=>cases (show u=Value.bool y from rx); exact W.kia_one W.kitx_bool I.kIn True.intro e (fun z=>nomatch z) h
  | int i=>obtain ⟨t,q⟩:=(show ∃ t,u=Value.int i t from rx); cases q; exact W.kia_one W.kitx_int I.kIn True.intro e (fun z=>nomatch z) h
  | str y=>obtain ⟨t,q⟩:=(show ∃ t,u=Value.str y t from rx); cases q; exact W.kia_one W.kitx_str I.kIn True.intro e (fun z=>nomatch z) h
  | flt y=>obtain ⟨t,q⟩:=(show ∃ t,u=Value.float y t from rx); cases q; exact W.kia_one W.kitx_float I.kIn True.intro e (fun z=>nomatch z) h
  | @lst a xs ea=>
    cases (show u=Value.ref a from rx)
    obtain ⟨_,_,n,_,h1⟩:=(show ObjOk X.prog X.w H s.heap a (.lst xs) from I.hok a _ ea)
    exact W.kia_one W.kitx_list I.kIn ⟨_,h1,rfl⟩ e (fun z=>nomatch z) h
  | @frz a ob xs ea=>
    cases (show u=Value.ref a from rx)
    obtain ⟨_,_,_,n,_,h1⟩:=(show ObjOk X.prog X.w H s.heap a (.frz ob (.lst xs)) from I.hok a _ ea)
    exact W.kia_one W.kitx_list I.kIn ⟨_,h1,rfl⟩ e (fun z=>nomatch z) h
  | @tup a xs ea=>
    cases (show u=Value.ref a from rx)
    obtain ⟨_,_,_,p⟩:=(show ObjOk X.prog X.w H s.heap a (.tup xs) from I.hok a _ ea)
    obtain ⟨o,h1,h2,_⟩:=p
    exact W.kia_one W.kitx_tuple I.kIn ⟨o,h1,h2⟩ e (fun z=>nomatch z) h
  | @dK a kvs ea=>
    cases (show u=Value.ref a from rx)
    obtain ⟨_,_,vs,_,p⟩:=(show ObjOk X.prog X.w H s.heap a (.dK kvs) from I.hok a _ ea)
    obtain ⟨o,es,ep,h1,h2,_⟩:=p
    exact W.kia_one W.kitx_dict I.kIn ⟨o,h1,h2.1⟩ e (fun z=>nomatch z) h
  | @dT a kvs ea=>
    cases (show u=Value.ref a from rx)
    obtain ⟨_,_,xs,_,o,es,ep,h1,h2,_⟩:=(show ObjOk X.prog X.w H s.heap a (.dT kvs) from I.hok a _ ea)
    exact W.kia_one W.kitx_dict I.kIn ⟨o,h1,h2.1⟩ e (fun z=>nomatch z) h
  | @ins a C dx fs ea cl ha hn htk hm=>
    cases (show u=Value.ref a from rx)
    obtain ⟨mA,O,_⟩:=Z5y I.hok ea
    obtain ⟨od,J,_⟩:=O.look
    exact W.kia_one (W.kitx_own (cl.get _) cl.hd ha hn htk hm) I.kIn J e (fun z=>nomatch z) h
end
end L2
namespace L2
open PySem PySem.Spec PyProof.Rows
structure Room (k:Nat) (A:Around):Prop where
  hd:A.handled=none
  dp:A.depth+3 * k+5 < recursionLimit
  un:A.units+16 * k+200 < cLine
  gd:A.guards=some []
theorem Room.mono {j k:Nat} {A:Around} (r:Room k A) (h:j≤k):Room j A:=⟨r.hd,by have:=r.dp; omega,by have:=r.un; omega,r.gd⟩
theorem Room.deeper {k:Nat} {A:Around} (r:Room (k+1) A) (env:Env):Room k (A.deeper env):=
  ⟨r.hd,by have:=r.dp; show A.depth+1+3 * k+5 < _; omega,by have:=r.un; show A.units+3+16 * k+200 < _; omega,r.gd⟩
theorem Z8Y {A:Around} {C:Addr} {us:List Value} {kw:List (Str×Value)}:(A.under (.builtin "type.__call__" ⟨.ref C::us,kw⟩)).depth=A.depth+1:=by
  first | rfl | simp [Around.under,Code.weight,Code.isCreation,Code.isGuard,Code.isCaller,Code.frames,Code.isFrame,guardIds]
theorem Z8M {A:Around} {C:Addr} {us:List Value} {kw:List (Str×Value)}:(A.under (.builtin "type.__call__" ⟨.ref C::us,kw⟩)).units=A.units+1:=by
  first | rfl | simp [Around.under,Code.cUnits,Code.frames,Code.isFrame]
theorem Room.make {k:Nat} {A:Around} (r:Room (k+1) A) (C:Addr) (us:List Value) (kw:List (Str×Value)):Room k (A.under (.builtin "type.__call__" ⟨.ref C::us,kw⟩)):=
  ⟨r.hd,by have:=r.dp; rw [Z8Y]; omega,by have:=r.un; rw [Z8M]; omega,r.gd⟩
theorem Room.depth {k:Nat} {A:Around} (r:Room k A):A.depth < recursionLimit:=by have:=r.dp; omega
theorem Room.units {k:Nat} {A:Around} (r:Room k A):A.units+64 < cLine:=by have:=r.un; omega
def tNil:TA:=fun _ H Q=>Q [] H
def J5z (ta:TE) (tr:TA):TA:=fun σ H Q=>ta σ H fun x H1=>tr σ H1 fun xs H2=>Q (x::xs) H2
section
variable {X:Cx} {e:Expr} {es:List Expr} {te:TE} {t:TA} {pos:Pos}
theorem Z0b:PA X [] tNil:=fun _ _ _ _ H Q I h=>Calls.spliced_nil ⟨[],H,I,.nil,h⟩
theorem Z0a (ha:PE X e te) (hr:PA X es t) (hs:starEach (e::es) X.env=(false,eval e X.env)::starEach es X.env:=by rfl):PA X (e::es) (J5z te t):=by
  intro pos pins s σ H Q I h
  rw [hs]
  show wpAny _ _ (spliced ((false,eval e X.env)::backTo pos (starEach es X.env))) _ _ s
  refine Calls.spliced_cons (thn (ha pins s σ H _ I h) fun u s1 ⟨x,H1,I1,r1,q1⟩=>?_)
  exact thn (hr pos pins s1 σ H1 _ I1 q1) fun us s2 ⟨xs,H2,I2,r2,q2⟩=>⟨x::xs,H2,I2,.cons r1 r2,q2⟩
def tTup (t:TA):TE:=fun σ H Q=>t σ H fun xs H1=>xs.length≤sizeLine∧∀ p,H1 p=none→Q (.ref p) (upd H1 p (.tup xs))
def tLst (t:TA):TE:=fun σ H Q=>t σ H fun xs H1=>xs.length≤sizeLine∧∀ p,H1 p=none→Q (.ref p) (upd H1 p (.lst xs))
theorem Z0k {x1} (h:PA X es t):PE X (.Tuple es x1 pos) (tTup t):=by
  intro pins s σ H Q I hq
  refine wpAny_Tuple_spliced (thn (h pos pins s σ H _ I hq) fun us s1 ⟨xs,H1,I1,r,z,q⟩=>⟨by rw [← r.length]; exact z,?_⟩)
  have hf:H1 s1.heap.objs.size=none:=I1.hok.fresh (Nat.le_refl _)
  refine ⟨.ref s1.heap.objs.size,upd H1 s1.heap.objs.size (.tup xs),I1.laid (t':=s1.toks) (fun b u e=>Heap.get?_push_of_some _ e) (Nat.le_refl _) ?_,rfl,q _ hf⟩
  exact ⟨z,us,r,⟨_,Heap.get?_push_size _ rfl,rfl,_,rfl⟩⟩
theorem Z0P (h:PA X es t):PE X (.List es pos) (tLst t):=by
  intro pins s σ H Q I hq
  refine wpAny_List_spliced (thn (h pos pins s σ H _ I hq) fun us s1 ⟨xs,H1,I1,r,z,q⟩=>⟨by rw [← r.length]; exact z,?_⟩)
  have hf:H1 s1.heap.objs.size=none:=I1.hok.fresh (Nat.le_refl _)
  refine ⟨.ref s1.heap.objs.size,upd H1 s1.heap.objs.size (.lst xs),I1.laid (t':=s1.toks) (fun b u e=>Heap.get?_push_of_some _ e) (Nat.le_refl _) ?_,rfl,q _ hf⟩
  exact ⟨z,us,0,r,Heap.get?_push_size _ rfl⟩
end
abbrev Sp:=List V→Hp→VK→XK→Prop
abbrev CXT:=List Env→Hp→Shared→XK→Value→Shared→Prop
structure Env0 (P:Program) (w:World) (K:W.Frag) (mg:Str→Option Value) (base:Heap) (A:Around) (outer:List Env) (s:Shared) (H:Hp):Prop where
  frames:A.frames=some outer
  mod:Mod K mg base
  bs:∀ b o,base.get? b=some o→s.heap.get? b=some o∧H b=none
  bsz:base.objs.size≤s.heap.objs.size
  funs:s.heap.FunFrames base outer
  frf:∀ b∈frs outer,H b=none
  hok:HOk P w H s.heap
  bare:AllBare s.gens
def CE (outer:List Env) (P:Program) (w:World) (H:Hp) (s:Shared) (Q:VK) (u:Value) (s':Shared):Prop:=
  ∃ v H',s'.os=s.os∧AllBare s'.gens∧Un (frs outer) [] H H' s.heap s'.heap∧HOk P w H' s'.heap∧RelV v u∧Q v H'
def CR (CX:CXT) (outer:List Env) (P:Program) (w:World) (H:Hp) (s:Shared) (Q:VK) (E:XK) (r:Result) (s':Shared):Prop:=
  match r with
  | .ok (.ret u)=>CE outer P w H s Q u s'
  | .ok _=>False
  | .error e=>CX outer H s E e s'
structure FnOk (P:Program) (w:World) (K:W.Frag) (mg:Str→Option Value) (base:Heap) (CX:CXT) (k:Nat) (f:Addr) (fd:FuncData) (ps:List Str) (sp:Sp):Prop where
  len:∀ vs H Q E,sp vs H Q E→vs.length=ps.length
  run:∀ (A:Around) (outer:List Env) (s:Shared) (H:Hp) (args:Args) (us:List Value) (vs:List V) (Q:VK) (E:XK),Room k A→Env0 P w K mg base A outer s H→BindsTo s fd args (ps.zip us)→Vals vs us→sp vs H Q E →
    codeAny (model P w) A (.call (.ref f) args) (CR CX outer P w H s Q E) s
theorem Env0.make {P:Program} {w:World} {K:W.Frag} {mg:Str→Option Value} {base:Heap} {A:Around} {outer:List Env} {s:Shared} {H:Hp} (e:Env0 P w K mg base A outer s H) (C:Addr) (us:List Value) (kw:List (Str×Value)) :
    Env0 P w K mg base (A.under (.builtin "type.__call__" ⟨.ref C::us,kw⟩)) outer s H:=⟨by first | exact e.frames | (simpa [Around.under,Code.envs,Code.isFrame,pushEnvs] using e.frames),e.mod,e.bs,e.bsz,e.funs,e.frf,e.hok,e.bare⟩
section
variable {X:Cx} {pins:List (Addr×Obj)} {σ:St} {H:Hp} {s s':Shared}
theorem Inv.env0 (I:Inv X pins σ H s):Env0 X.prog X.w X.K X.mg X.base X.A X.stack s H:=
  ⟨I.ok.frames,I.ok.mod,I.bs,Nat.le_trans I.ok.bsz I.sz,I.stack,I.stkFree,I.hok,I.bare⟩
theorem Inv.after {Q:VK} {u:Value} (I:Inv X pins σ H s) (h:CE X.stack X.prog X.w H s Q u s'):EP X pins σ Q u s':=by
  obtain ⟨v,H',os,bare,un,hok,r,q⟩:=h
  obtain ⟨hh,g,d,t,os'⟩:=s'
  obtain rfl:os'=s.os:=os
  exact ⟨v,H',I.call (h':=hh) (g':=g) (d':=d) (t':=t) (ch:=[]) un hok bare (fun b z=>absurd z (by simp)),r,q⟩
end
def J2A (sp:Sp) (dvs:List V) (E:XK) (t:TA):TE:=fun σ H Q=>t σ H fun vs H1=>sp (vs++dvs) H1 Q E
def Z9u (C:Addr) (m:Str) (sp:Sp) (dvs:List V) (E:XK) (ta:TE) (t:TA):TE:=fun σ H Q=>ta σ H fun x H1=>∃ a dx fs,x=.ref a∧H1 a=some (.ins C dx fs)∧fs.lookup m=none ∧
  t σ H1 fun vs H2=>sp (x::(vs++dvs)) H2 Q E
def J1s (C:Addr) (sp:Sp) (dvs:List V) (E:XK) (t:TA):TE:=fun σ H Q=>t σ H fun vs H1=>∀ x dx,H1 x=none→H1 dx=none→dx≠x →
  sp (.ref x::(vs++dvs)) (upd (upd H1 dx (.own x)) x (.ins C dx [])) (fun v H2=>v=.non∧Q (.ref x) H2) E
def Binds (K:W.Frag) (fd:FuncData) (ps:List Str) (ds:List Value):Prop:=
  ∀ (s:Shared) (us:List Value),K.In s.heap→(us++ds).length=ps.length→BindsTo s fd ⟨us,[]⟩ (ps.zip (us++ds))
theorem Binds.all {K:W.Frag} {fd:FuncData} {ps:List Str} (h:∀ us:List Value,us.length=ps.length→bindArgs fd ⟨us,[]⟩=pure (ps.zip us)):Binds K fd ps []:=fun s us _ hl=>by
  rw [List.append_nil] at hl ⊢
  exact .of_eq (h us hl)
def Z4g (CX:CXT) (X:Cx) (E:XK):Prop:=∀ (pins:List (Addr×Obj)) (σ:St) (H:Hp) (s:Shared) (e:Value) (s':Shared),Inv X pins σ H s→CX X.stack H s E e s'→X.xe e s'
section
variable {X:Cx} {CX:CXT} {k:Nat} {f C:Addr} {fd:FuncData} {ps:List Str} {sp:Sp} {dvs:List V} {ds:List Value} {E:XK} {x m:Str} {p pos apos:Pos} {e o:Expr} {es:List Expr} {ta:TE} {t:TA}
theorem J0J {pins:List (Addr×Obj)} {σ:St} {H:Hp} {s:Shared} {Q:VK} {us:List Value} {vs:List V} (F:FnOk X.prog X.w X.K X.mg X.base CX k f fd ps sp) (hr:Room k X.A) (hb:Binds X.K fd ps ds) (hd:Vals dvs ds) (hx:Z4g CX X E)
    (I:Inv X pins σ H s) (r:Vals vs us) (h:sp (vs++dvs) H Q E):wpAny (model X.prog X.w) X.A (call (.ref f) us) (EP X pins σ Q) X.xe s:=by
  have r2:Vals (vs++dvs) (us++ds):=r.append hd
  have hl:(us++ds).length=ps.length:=by rw [← r2.length]; exact F.len _ _ _ _ h
  refine wpAny_call (codeAny_mono (F.run X.A X.stack s H ⟨us,[]⟩ (us++ds) (vs++dvs) Q E hr I.env0 (hb s us I.kIn hl) r2 h) fun r s' hq=>?_)
  cases r with
  | error e=>exact hx pins σ H s e s' I hq
  | ok fl=>
    cases fl with
    | ret u=>exact I.after hq
    | next=>exact False.elim hq
    | brk=>exact False.elim hq
    | cont=>exact False.elim hq
theorem J0q (F:FnOk X.prog X.w X.K X.mg X.base CX k f fd ps sp) (hr:Room k X.A) (hg:Gl X x) (hm:X.mg x=some (.ref f)) (hk:W.keepIn X.K (.ref f)=true) (hb:Binds X.K fd ps ds) (hd:Vals dvs ds) (hx:Z4g CX X E)
    (ha:PA X (e::es) t) (hdb:(x == ("__debug__":Str))=false:=by decide) (he:starEach (e::es) X.env=(false,eval e X.env)::starEach es X.env:=by rfl) (hpl:(backTo pos (starEach es X.env)).any (·.1)=false:=by rfl) :
    PE X (.Call (.Name x p) (e::es) [] pos) (J2A sp dvs E t):=by
  intro pins s σ H Q I h
  refine wpAny_Call_Name_kw (Z5E I hg hm ?_ hdb)
  refine W.callWith_K (h₀:=X.base) I.ok.mod.kin hk (thn (ha pos pins s σ H _ I h) fun us s1 ⟨vs,H1,I1,r,q⟩=>⟨I1.kIn,?_⟩) he hpl
  exact J0J F hr hb hd hx I1 r q
theorem J4A {pl:Sem Bool} (he:PE X o ta) (c:Cls X.K C) (hm:Meth X.K C m f) (F:FnOk X.prog X.w X.K X.mg X.base CX k f fd ps sp) (hr:Room k X.A) (hb:Binds X.K fd ps ds) (hd:Vals dvs ds) (hx:Z4g CX X E) (ha:PA X (e::es) t)
    (hst:starEach (e::es) X.env=(false,eval e X.env)::starEach es X.env:=by rfl) (hpl:(backTo pos (starEach es X.env)).any (·.1)=false:=by rfl)
    (ht:eval (.Call (.Attribute o m apos) (e::es) [] pos) X.env=(do
      let ov ← eval o X.env
      standAt apos.atName
      let (f,first) ← holding [ov] (getMethod ov m pl)
      callWith pos f first (backTo pos (starEach (e::es) X.env)) (backToKw pos (keywordEach [] X.env))):=by rfl) :
    PE X (.Call (.Attribute o m apos) (e::es) [] pos) (Z9u C m sp dvs E ta t):=by
  intro pins s σ H Q I h
  refine W.methodCall_KW (pl:=pl) (thn (he pins s σ H _ I h) fun u s1 ⟨x,H1,I1,rx,a,dx,fs,ex,ea,l,q⟩=>?_) ht
  subst ex
  obtain rfl:u=Value.ref a:=rx
  refine Z4c I1 ea c hm l ?_
  refine W.callWith_K (first:=[.ref a]) (h₀:=X.base) I.ok.mod.kin hm.kp (thn (ha pos pins s1 σ H1 _ I1 q) fun us s2 ⟨vs,H2,I2,r,q2⟩=>⟨I2.kIn,?_⟩) hst hpl
  exact J0J (us:=.ref a::us) (vs:=.ref a::vs) F hr hb hd hx I2 (.cons rfl r) q2
theorem J1T {pl:Sem Bool} (he:PE X o ta) (c:Cls X.K C) (hm:Meth X.K C m f) (F:FnOk X.prog X.w X.K X.mg X.base CX k f fd ps sp) (hr:Room k X.A) (hb:Binds X.K fd ps ds) (hd:Vals dvs ds) (hx:Z4g CX X E)
    (ht:eval (.Call (.Attribute o m apos) [] [] pos) X.env=(do
      let ov ← eval o X.env
      standAt apos.atName
      let (f,first) ← holding [ov] (getMethod ov m pl)
      callWith pos f first (backTo pos (starEach [] X.env)) (backToKw pos (keywordEach [] X.env))):=by rfl) :
    PE X (.Call (.Attribute o m apos) [] [] pos) (Z9u C m sp dvs E ta tNil):=by
  intro pins s σ H Q I h
  refine W.methodCall_KW (pl:=pl) (thn (he pins s σ H _ I h) fun u s1 ⟨x,H1,I1,rx,a,dx,fs,ex,ea,l,q⟩=>?_) ht
  subst ex
  obtain rfl:u=Value.ref a:=rx
  refine Z4c I1 ea c hm l ?_
  exact W.callWith_K0 (first:=[.ref a]) I1.kIn hm.kp (J0J (us:=[.ref a]) (vs:=[.ref a]) F hr hb hd hx I1 (.cons rfl .nil) q)
structure Mk (K:W.Frag) (C f:Addr):Prop where
  makes:W.makesIn K C=true
  init:W.findIn K (.ref C) "__init__"=some (some (.ref f))
  fn:W.isFn K (.ref f)=true
  kp:W.keepIn K (.ref C)=true
theorem Z8b {pins:List (Addr×Obj)} {σ:St} {H:Hp} {s:Shared} {Q:VK} {us:List Value} {vs:List V} (M:Mk X.K C f) (F:FnOk X.prog X.w X.K X.mg X.base CX k f fd ps sp) (hr:Room (k+1) X.A) (hb:Binds X.K fd ps ds) (hd:Vals dvs ds)
    (hx:Z4g CX X E) (I:Inv X pins σ H s) (r:Vals vs us)
    (h:∀ x dx,H x=none→H dx=none→dx≠x→sp (.ref x::(vs++dvs)) (upd (upd H dx (.own x)) x (.ins C dx [])) (fun v H2=>v=.non∧Q (.ref x) H2) E) :
    wpAny (model X.prog X.w) X.A (call (.ref C) us) (EP X pins σ Q) X.xe s:=by
  have hq:=h (s.heap.objs.size+1) s.heap.objs.size (I.hok.fresh (Nat.le_succ _)) (I.hok.fresh (Nat.le_refl _)) (Nat.ne_of_lt (Nat.lt_succ_self _))
  have I2:=Inv.made (C:=C) I
  have r2:Vals (V.ref (s.heap.objs.size+1)::(vs++dvs)) (Value.ref (s.heap.objs.size+1)::(us++ds)):=.cons rfl (r.append hd)
  have hl:(Value.ref (s.heap.objs.size+1)::us++ds).length=ps.length:=by
    have e:=r2.length
    rw [F.len _ _ _ _ hq] at e
    exact e.symm
  refine wpAny_call (J2V (f:=f) I.kIn M.makes M.init (beq_iff_eq.mp M.fn) (codeAny_mono (F.run _ X.stack _ _ ⟨Value.ref (s.heap.objs.size+1)::us,[]⟩ (Value.ref (s.heap.objs.size+1)::(us++ds)) _ _ E (hr.make C us [])
    (I2.env0.make C us []) (hb _ (Value.ref (s.heap.objs.size+1)::us) I2.kIn hl) r2 hq) fun r s' hq'=>?_))
  cases r with
  | error e=>exact hx pins σ _ _ e s' I2 hq'
  | ok fl=>
    cases fl with
    | ret u=>
      obtain ⟨v,H',I3,rv,ev,q3⟩:=I2.after hq'
      subst ev
      exact ⟨rv,⟨V.ref (s.heap.objs.size+1),H',I3,rfl,q3⟩⟩
    | next=>exact False.elim hq'
    | brk=>exact False.elim hq'
    | cont=>exact False.elim hq'
theorem J5n (M:Mk X.K C f) (F:FnOk X.prog X.w X.K X.mg X.base CX k f fd ps sp) (hr:Room (k+1) X.A) (hg:Gl X x) (hm:X.mg x=some (.ref C)) (hb:Binds X.K fd ps ds) (hd:Vals dvs ds) (hx:Z4g CX X E)
    (ha:PA X (e::es) t) (hdb:(x == ("__debug__":Str))=false:=by decide) (he:starEach (e::es) X.env=(false,eval e X.env)::starEach es X.env:=by rfl) (hpl:(backTo pos (starEach es X.env)).any (·.1)=false:=by rfl) :
    PE X (.Call (.Name x p) (e::es) [] pos) (J1s C sp dvs E t):=by
  intro pins s σ H Q I h
  refine wpAny_Call_Name_kw (Z5E I hg hm ?_ hdb)
  refine W.callWith_K (h₀:=X.base) I.ok.mod.kin M.kp (thn (ha pos pins s σ H _ I h) fun us s1 ⟨vs,H1,I1,r,q⟩=>⟨I1.kIn,?_⟩) he hpl
  exact Z8b M F hr hb hd hx I1 r q
theorem J2d (M:Mk X.K C f) (F:FnOk X.prog X.w X.K X.mg X.base CX k f fd ps sp) (hr:Room (k+1) X.A) (hg:Gl X x) (hm:X.mg x=some (.ref C)) (hb:Binds X.K fd ps ds) (hd:Vals dvs ds) (hx:Z4g CX X E)
    (hdb:(x == ("__debug__":Str))=false:=by decide):PE X (.Call (.Name x p) [] [] pos) (J1s C sp dvs E tNil):=by
  intro pins s σ H Q I h
  refine wpAny_Call_Name_kw (Z5E I hg hm ?_ hdb)
  exact W.callWith_K0 I.kIn M.kp (Z8b (us:=[]) M F hr hb hd hx I .nil h)
end
def PK (X:Cx) (kws:List Keyword) (t:TA):Prop:=
  ∀ (pos:Pos) (pins:List (Addr×Obj)) (s:Shared) (σ:St) (H:Hp) (Q:List V→Hp→Prop),Inv X pins σ H s→t σ H Q→wpAny (model X.prog X.w) X.A (evalAll ((backToKw pos (keywordEach kws X.env)).map (·.2))) (AP X pins σ Q) X.xe s
section
variable {X:Cx} {CX:CXT} {k:Nat} {f C:Addr} {fd:FuncData} {ps ks:List Str} {sp:Sp} {E:XK} {x m:Str} {p pos apos kpos:Pos} {e o:Expr} {es:List Expr} {kws:List Keyword} {te ta:TE} {t tk:TA} {nm:Option Str}
theorem J6R:PK X [] tNil:=fun _ _ _ _ H Q I h=>wpAny_evalAll_nil ⟨[],H,I,.nil,h⟩
theorem J4L (ha:PE X e te) (hr:PK X kws t):PK X (⟨nm,e,kpos⟩::kws) (J5z te t):=by
  intro pos pins s σ H Q I h
  show wpAny _ _ (evalAll ((do let v ← eval e X.env; standAt pos; pure v)::(backToKw pos (keywordEach kws X.env)).map (·.2))) _ _ s
  refine wpAny_evalAll_cons (wpAny_bind (thn (ha pins s σ H _ I h) fun u s1 ⟨x,H1,I1,r1,q1⟩=>wpAny_bind (wpAny_standAt (wpAny_pure ?_))))
  exact thn (hr pos pins s1 σ H1 _ I1 q1) fun us s2 ⟨xs,H2,I2,r2,q2⟩=>⟨x::xs,H2,I2,.cons r1 r2,q2⟩
variable {g:List Value→List Value→List Value} {gV:List V→List V→List V}
end
structure Z0o (N P:List Str) (sc:Scope):Prop where
  kind:sc.kind=.function
  co:sc.isCoroutine=false
  gen:sc.isGenerator=false
  nd:N.Nodup
  pre:N.take P.length=P
  par:∀ x∈P,sc.names.lookup x=some .local∨sc.names.lookup x=some .cell
  nofree:∀ y∈sc.names,y.2≠.free
theorem Z6O {kindOf:Str→Option NameKind} {x:Str}:∀ {binds:List (Str×Value)} {m:Str→Option Value},(∀ v,(x,v)∉binds)→bindL kindOf binds m x=m x
  | [],_,_=>rfl
  | (n,v)::r,m,h=>by
    unfold bindL
    rw [Z6O fun w hw=>h w (List.mem_cons_of_mem _ hw)]
    split
    · have:x≠n:=by rintro rfl; exact h v List.mem_cons_self
      simp [this]
    · rfl
theorem Z6h {kindOf:Str→Option NameKind} {x:Str}:∀ {binds:List (Str×Value)} {m:Str→Option Value},(∀ v,(x,v)∉binds)→bindC kindOf binds m x=m x
  | [],_,_=>rfl
  | (n,v)::r,m,h=>by
    unfold bindC
    rw [Z6h fun w hw=>h w (List.mem_cons_of_mem _ hw)]
    split
    · rfl
    · have:x≠n:=by rintro rfl; exact h v List.mem_cons_self
      simp [this]
theorem Z6B {kindOf:Str→Option NameKind} {x:Str} {v:Value}:∀ {P:List Str} {vs:List Value} {i:Nat} {m:Str→Option Value},P.Nodup→P[i]?=some x→vs[i]?=some v→kindOf x=some .local →
    bindL kindOf (P.zip vs) m x=some v
  | [],_,_,_,_,h,_,_=>by simp at h
  | _::_,[],_,_,_,_,h,_=>by simp at h
  | p::P,w::vs,0,m,nd,h1,h2,hk=>by
    simp at h1 h2; subst h1; subst h2
    show bindL kindOf ((p,w)::P.zip vs) m p=_
    unfold bindL
    rw [Z6O fun v hv=>(List.nodup_cons.mp nd).1 (List.of_mem_zip hv).1,if_pos hk]
    simp
  | p::P,w::vs,i+1,m,nd,h1,h2,hk=>by
    show bindL kindOf ((p,w)::P.zip vs) m x=_
    unfold bindL
    exact Z6B (i:=i) (List.nodup_cons.mp nd).2 (by simpa using h1) (by simpa using h2) hk
theorem Z6y {kindOf:Str→Option NameKind} {x:Str} {v:Value}:∀ {P:List Str} {vs:List Value} {i:Nat} {m:Str→Option Value},P.Nodup→P[i]?=some x→vs[i]?=some v→kindOf x≠some .local →
    bindC kindOf (P.zip vs) m x=some v
  | [],_,_,_,_,h,_,_=>by simp at h
  | _::_,[],_,_,_,_,h,_=>by simp at h
  | p::P,w::vs,0,m,nd,h1,h2,hk=>by
    simp at h1 h2; subst h1; subst h2
    show bindC kindOf ((p,w)::P.zip vs) m p=_
    unfold bindC
    rw [Z6h fun v hv=>(List.nodup_cons.mp nd).1 (List.of_mem_zip hv).1,if_neg hk]
    simp
  | p::P,w::vs,i+1,m,nd,h1,h2,hk=>by
    show bindC kindOf ((p,w)::P.zip vs) m x=_
    unfold bindC
    exact Z6y (i:=i) (List.nodup_cons.mp nd).2 (by simpa using h1) (by simpa using h2) hk
def Z4U (N:List Str) (vs:List V):St:=vs.map some++List.replicate (N.length - vs.length) none
def cxOf (CX:CXT) (P:Program) (w:World) (K:W.Frag) (mg:Str→Option Value) (base:Heap) (N:List Str) (qual:Str) (scope:Scope) (f:Addr) (cd:Value) (A:Around) (outer:List Env) (s:Shared) (H:Hp) (E:XK):Cx where
  prog:=P
  w:=w
  K:=K
  mg:=mg
  base:=base
  A:=A.deeper (envOfC qual scope s.heap.objs.size f cd)
  N:=N
  s₀:=s
  H₀:=H
  env:=envOfC qual scope s.heap.objs.size f cd
  outer:=outer
  stack:=envOfC qual scope s.heap.objs.size f cd::outer
  ex:=[]
  calm:=true
  fn:=fun _=>true
  pn:=[]
  xe:=fun e s'=>wpAny (model P w) (A.deeper (envOfC qual scope s.heap.objs.size f cd)) (leaving (envOfC qual scope s.heap.objs.size f cd) e) (fun _ s''=>CX outer H s E e s'') (fun e' s''=>CX outer H s E e' s'') s'
theorem Z8r {sc:Scope} {n:Nat} {x:Str} (h:sc.names.lookup x=some .cell):∃ c,(cellsFrom n sc.names []).lookup x=some c:=by
  have q:=W.cellsFrom_some sc.names n [] (.inl h)
  exact Option.isSome_iff_exists.mp q
theorem Z9F {CX:CXT} {P:Program} {w:World} {K:W.Frag} {mg:Str→Option Value} {base:Heap} {N ps:List Str} {qual:Str} {scope:Scope} {f:Addr} {cd:Value} {A:Around} {outer:List Env} {s s1:Shared} {H:Hp} {E:XK} {us:List Value} {vs:List V}
    (S:Z0o N ps scope) (hd:A.handled=none) (e0:Env0 P w K mg base A outer s H) (hl:vs.length=ps.length) (r:Vals vs us)
    (x:InCallC s s.heap.objs.size (bindL (envOfC qual scope s.heap.objs.size f cd).kindOf (ps.zip us) fun _=>none) (cellsFrom (s.heap.objs.size+1) scope.names []) (bindC (envOfC qual scope s.heap.objs.size f cd).kindOf (ps.zip us) fun _=>none) s1) :
    Inv (cxOf CX P w K mg base N qual scope f cd A outer s H E) [] (Z4U N vs) H s1:=by
  have hpl:ps.length≤N.length:=by have:=congrArg List.length S.pre; rw [List.length_take] at this; omega
  obtain ⟨h1,tk,rfl,hk⟩:=x.done
  have noA:∀ b:Addr,b∉(cxOf CX P w K mg base N qual scope f cd A outer s H E).ex:=fun b z=>absurd (show b∈([]:List Addr) from z) (by simp)
  refine ⟨⟨e0.mod,S.kind,rfl,rfl,Nat.le_refl _,fun y z c h1 h2=>?_,fun y hy=>?_,fun y c _ h=>?_,fun _=>hd,Around.frames_deeper e0.frames,.inr ⟨rfl,rfl⟩,fun b z=>absurd z (noA b),e0.bs,e0.bsz,fun b _ _=>noA b,fun b z=>absurd z (noA b),e0.funs,e0.frf⟩,
    rfl,e0.bare,Un.kept hk,⟨_,x.toInCall.ns,fun i y v h1 h2 h3=>?_⟩,fun y c h=>⟨_,x.cell y c h⟩,e0.hok.fresh (Nat.le_refl _),fun y c h=>?_,fun p hp=>absurd (show p∈([]:List (Addr×Obj)) from hp) (by simp),e0.hok.kept hk,?_⟩
  · exact name_of_addr x.apart (PySem.mem_of_lookup h1) (PySem.mem_of_lookup h2)
  · have hy:scope.names.lookup y=some .cell∨scope.names.lookup y=some .free:=hy
    rcases hy with hy | hy
    · exact Z8r hy
    · exact absurd rfl (S.nofree _ (PySem.mem_of_lookup hy))
  · exact Nat.le_of_lt (x.above y c (PySem.mem_of_lookup h))
  · have hi:i < vs.length:=by
      unfold Z4U at h2
      by_cases hi:i < vs.length
      · exact hi
      · rw [List.getElem?_append_right (by simpa using hi)] at h2
        rw [List.getElem?_replicate] at h2
        split at h2 <;> cases h2
    have ha:vs[i]?=some v:=by
      unfold Z4U at h2
      rw [List.getElem?_append_left (by simpa using hi),List.getElem?_map] at h2
      cases e:vs[i]? with
      | none=>rw [e] at h2; cases h2
      | some a=>rw [e] at h2; cases h2; rfl
    obtain ⟨u,hu,rv⟩:=r.get ha
    have hp:ps[i]?=some y:=by
      rw [← S.pre,List.getElem?_take_of_lt (by omega)]; exact h1
    have ndP:ps.Nodup:=by rw [← S.pre]; exact S.nd.sublist (List.take_sublist _ _)
    refine ⟨u,rv,?_⟩
    rcases S.par y (List.mem_of_getElem? hp) with k | k
    · exact .inl ⟨k,Z6B ndP hp hu k⟩
    · obtain ⟨c,e⟩:=Z8r (n:=s.heap.objs.size+1) k
      refine .inr ⟨.inl k,c,e,?_⟩
      have q:=x.cell y c e
      rw [Z6y ndP hp hu (by show scope.names.lookup y≠_; rw [k]; decide)] at q
      exact q
  · exact e0.hok.fresh (Nat.le_of_lt (x.above y c (PySem.mem_of_lookup h)))
  · unfold Z4U
    show _=N.length
    rw [List.length_append,List.length_map,List.length_replicate]
    omega
theorem J5X {CX:CXT} {P:Program} {w:World} {K:W.Frag} {mg:Str→Option Value} {base:Heap} {k:Nat} {f:Addr} {name qual:Str} {params:Arguments} {body:List Stmt} {scope:Scope} {dV kV doc pm cdv ct oc:Value} {an od:Option Addr}
    {osl:Array (Option Value)} {N ps:List Str} {sp:Sp} (lk:K.lookup f=some ⟨oc,od,.func (W.fnOf name qual params body scope dV kV doc pm an cdv ct),osl⟩) (hcd:W.codeIn K cdv qual=true) (S:Z0o N ps scope)
    (len:∀ vs H Q E,sp vs H Q E→vs.length=ps.length)
    (hbody:∀ (A:Around) (outer:List Env) (s:Shared) (H:Hp) (vs:List V) (Q:VK) (E:XK),Room k (A.deeper (envOfC qual scope s.heap.objs.size f cdv))→sp vs H Q E →
      ∃ t,PSs (cxOf CX P w K mg base N qual scope f cdv A outer s H E) body t∧t { nx:=fun _ H'=>Q .non H',rt:=Q } (Z4U N vs) H) :
    FnOk P w K mg base CX (k+1) f (W.fnOf name qual params body scope dV kV doc pm an cdv ct) ps sp:=by
  refine ⟨len,fun A outer s H args us vs Q E hr e0 hb r hsp=>?_⟩
  have hl:=len _ _ _ _ hsp
  have KX:K.In s.heap:=e0.mod.kin.keeps fun b o e=>(e0.bs b o e).1
  have lim:s.heap.NoLimit:=e0.mod.nolimit.keeps fun b o e=>(e0.bs b o e).1
  have hkind:∀ y∈ps.zip us,scope.names.lookup y.1=some .local∨(scope.names.lookup y.1=some .cell∧((cellsFrom (s.heap.objs.size+1) scope.names []).lookup y.1).isSome=true):=fun ⟨n,v⟩ hy=>by
    rcases S.par n (List.of_mem_zip hy).1 with q | q
    · exact .inl q
    · exact .inr ⟨q,W.cellsFrom_some _ _ _ (.inl q)⟩
  refine codeAny_call_function hr.depth (KX _ _ lk) rfl S.co S.gen rfl (W.codeRec_of KX hcd) (hb _ _ _ _ ?_)
  refine wpAny_newFunctionEnv_cells S.kind hkind fun env he s1 x=>?_
  subst he
  refine ⟨lim.keeps x.toInCall.keep,codeAny_func ?_⟩
  obtain ⟨t,ht,hq⟩:=hbody A outer s H vs Q E (hr.deeper _) hsp
  have I:Inv (cxOf CX P w K mg base N qual scope f cdv A outer s H E) [] (Z4U N vs) H s1:=Z9F S hr.hd e0 hl r x
  refine wpAny_mono (ht [] s1 (Z4U N vs) H _ I hq) (fun fl s' hs=>?_) fun e s' hs=>hs
  have fin:∀ {σ':St} {H':Hp} {v:V} {u:Value},Inv (cxOf CX P w K mg base N qual scope f cdv A outer s H E) [] σ' H' s'→RelV v u→Q v H'→CE outer P w H s Q u s':=
    fun {σ' H' v u} J rv q=>⟨v,H',J.os,J.bare,J.base,J.hok,rv,q⟩
  cases fl with
  | ret u=>
    obtain ⟨v,σ',H',J,rv,q⟩:=hs
    exact fin J rv q
  | next=>
    obtain ⟨σ',H',J,q⟩:=hs
    exact fin (v:=V.non) (u:=Value.none) J rfl q
  | brk=>
    obtain ⟨_,_,_,q⟩:=hs
    exact False.elim q
  | cont=>
    obtain ⟨_,_,_,q⟩:=hs
    exact False.elim q
end L2
namespace L2
open PySem PySem.Spec PyProof.Rows
section
variable {X:Cx} {x:Str} {p pos:Pos} {e:Expr} {es:List Expr} {t:TA} {id T:String} {r:List V→Hp→VK→Prop}
def tCB (r:List V→Hp→VK→Prop) (t:TA):TE:=fun σ H Q=>t σ H fun vs H1=>r vs H1 Q
theorem Z1r (hc:Z4q X (.builtin id) r) (hg:Gl X x) (hm:X.mg x=none) (hv:bootBuiltins x=some (.builtin id)) (ha:PA X (e::es) t) (hn:x≠"__name__":=by decide) (hdb:(x == ("__debug__":Str))=false:=by decide)
    (he:starEach (e::es) X.env=(false,eval e X.env)::starEach es X.env:=by rfl) (hpl:(backTo pos (starEach es X.env)).any (·.1)=false:=by rfl):PE X (.Call (.Name x p) (e::es) [] pos) (tCB r t):=by
  intro pins s σ H Q I h
  refine wpAny_Call_Name_kw (Z2A I hg hm hv ?_ hn hdb)
  exact PyProof.Rows.callWith_builtin1 (thn (ha pos pins s σ H _ I h) fun us s1 ⟨vs,H1,I1,r1,q1⟩=>hc pins s1 σ H1 vs us Q I1 r1 q1) he hpl
theorem Z0Q (hc:Z4q X (.type T) r) (hg:Gl X x) (hm:X.mg x=none) (hv:bootBuiltins x=some (.type T)) (ha:PA X (e::es) t) (hn:x≠"__name__":=by decide) (hdb:(x == ("__debug__":Str))=false:=by decide)
    (he:starEach (e::es) X.env=(false,eval e X.env)::starEach es X.env:=by rfl) (hpl:(backTo pos (starEach es X.env)).any (·.1)=false:=by rfl):PE X (.Call (.Name x p) (e::es) [] pos) (tCB r t):=by
  intro pins s σ H Q I h
  refine wpAny_Call_Name_kw (Z2A I hg hm hv ?_ hn hdb)
  exact PyProof.Rows.callWith_type1 (thn (ha pos pins s σ H _ I h) fun us s1 ⟨vs,H1,I1,r1,q1⟩=>hc pins s1 σ H1 vs us Q I1 r1 q1) he hpl
end
end L2
namespace HT
open PySem PyProof.Rows
section
open PySem.SeqAt
open PySem.AutoSeq1 (wpAny_loadPart')
open PySem.MeetsSeq PySem.MeetsSeq2 PySem.MeetsSeq3
end
section
variable {prog:Program} {w:World} {A:Around} {E:Value→Shared→Prop} {s:Shared}
theorem cat_tup {t b:Addr} {vs ws:List Value} {Q:Value→Shared→Prop} (ht:IsTup s.heap t vs.toArray) (hb:IsTup s.heap b ws.toArray) (hv:vs≠[])
    (h1:ws=[]→Q (.ref t) s) (h2:ws≠[]→Q (.ref s.heap.objs.size) { s with heap:=s.heap.push { cls:=.type "tuple",data:=.seq (vs++ws).toArray } })
    (hsz:vs.length+ws.length≤sizeLine):wpAny (model prog w) A (binaryOp .Add (.ref t) (.ref b)) Q E s:=by
  obtain ⟨⟨cls,dd,data,sl⟩,ho,hc,n,hd⟩:=id ht
  obtain ⟨⟨cls2,dd2,data2,sl2⟩,ho2,hc2,n2,hd2⟩:=id hb
  simp only at hc hd hc2 hd2
  subst hc hd hc2 hd2
  have e:vs.toArray++ws.toArray=(vs++ws).toArray:=by simp
  by_cases hw:ws=[]
  · exact concat_meets ⟨_,ho,rfl⟩ ⟨_,ho2,rfl⟩ noFill_tuple_add seq_tuple_add PySem.F.slot_tuple_add PySem.F.entry_tuple_add (PySem.F.args_tuple_add_2 _ _)
      (tuple_addW1 t b vs.toArray ws.toArray n n2 dd dd2 sl sl2 (by simpa using hv) (by simp [hw])) ⟨ho,ho2,h1 hw⟩
  · refine concat_meets ⟨_,ho,rfl⟩ ⟨_,ho2,rfl⟩ noFill_tuple_add seq_tuple_add PySem.F.slot_tuple_add PySem.F.entry_tuple_add (PySem.F.args_tuple_add_2 _ _)
      (tuple_addW2 t b vs.toArray ws.toArray n n2 dd dd2 sl sl2 (by simpa using hv) (by simpa using hw) (by rw [List.size_toArray,List.size_toArray]; exact hsz)) ⟨ho,ho2,?_⟩
    rw [e]
    exact h2 hw
def sIx (n d:Nat):Option Int→Nat
  | none=>d
  | some v=>if v < 0 then (v+(n:Int)).toNat else min v.toNat n
theorem sIx_nat (n d k:Nat):sIx n d (some (k:Int))=min k n:=by
  show (if (k:Int) < 0 then ((k:Int)+(n:Int)).toNat else min (k:Int).toNat n)=min k n
  rw [if_neg (by omega),Int.toNat_natCast]
theorem J6g (n d:Nat) (hd:d≤n) (o:Option Int):sIx n d o≤n:=by
  cases o with
  | none=>exact hd
  | some v=>
    show (if v < 0 then (v+(n:Int)).toNat else min v.toNat n)≤n
    by_cases hv:v < 0
    · rw [if_pos hv]; omega
    · rw [if_neg hv]; exact Nat.min_le_right _ _
theorem Z9T (v:Int) (n d:Nat):(if v < 0 then max (v+(n:Int)) 0 else min v (n:Int))=((sIx n d (some v):Nat):Int):=by
  show (if v < 0 then max (v+(n:Int)) 0 else min v (n:Int))=(((if v < 0 then (v+(n:Int)).toNat else min v.toNat n):Nat):Int)
  by_cases hv:v < 0
  · simp only [if_pos hv]; omega
  · simp only [if_neg hv]; omega
theorem Z8K (lo hi:Option Int) (n:Nat):Builtin.Slice.sliceAdjust lo hi 1 (n:Int)=(((sIx n 0 lo:Nat):Int),((sIx n n hi:Nat):Int)):=by
  have h1:¬ ((1:Int) < 0):=by omega
  unfold Builtin.Slice.sliceAdjust
  simp only [h1,if_false]
  refine Prod.ext ?_ ?_
  · cases lo with
    | none=>rfl
    | some v=>exact Z9T v n 0
  · cases hi with
    | none=>rfl
    | some v=>exact Z9T v n n
theorem Z9c (i j:Nat):Builtin.Slice.slicePlaces (i:Int) (j:Int) 1=j - i:=by
  unfold Builtin.Slice.slicePlaces
  have h1:(1:Int) > 0:=by omega
  simp only [h1,if_true,Int.ediv_one]
  split <;> omega
theorem Z5p {v:Value} {o:Option Int} {Q:Option Int→Shared→Prop} (p:IsPart v o) (h:Q o s):wpAny (model prog w) A (Builtin.Slice.slicePartIndex v) Q E s:=by
  cases p with
  | none=>exact slicePart_none h
  | int i t=>exact slicePart_int h
theorem Z2R {sl:Addr} {vl vu:Value} {lo hi:Option Int} {n:Nat} {Q:Int×Int×Nat→Shared→Prop} (hs:s.heap.IsSliceOf sl vl vu .none) (pl:IsPart vl lo) (pu:IsPart vu hi)
    (h:Q (((sIx n 0 lo:Nat):Int),1,sIx n n hi - sIx n 0 lo) s):wpAny (model prog w) A (Builtin.Slice.sliceApplied (.ref sl) (pure (n:Int))) Q E s:=by
  obtain ⟨os,hos,hcs,hds⟩:=id hs
  unfold Builtin.Slice.sliceApplied Builtin.Slice.sliceFields
  refine wpAny_bind (wpAny_bind (wpAny_field hos hds (x:=vl) rfl (wpAny_bind (wpAny_field hos hds (x:=vu) rfl (wpAny_bind (wpAny_field hos hds (x:=.none) rfl (wpAny_pure ?_)))))))
  refine wpAny_bind (slicePart_none ?_)
  show wpAny _ _ (if ((1:Int) == 0)=true then _ else _) _ _ s
  rw [if_neg (by decide)]
  refine wpAny_bind (Z5p pl (wpAny_bind (Z5p pu (wpAny_bind (wpAny_pure ?_)))))
  show wpAny _ _ (match Builtin.Slice.sliceAdjust lo hi 1 (n:Int) with | (lo,hi)=>pure (lo,(1:Int),Builtin.Slice.slicePlaces lo hi 1)) _ _ s
  rw [Z8K lo hi n]
  show wpAny _ _ (pure (((sIx n 0 lo:Nat):Int),(1:Int),Builtin.Slice.slicePlaces ((sIx n 0 lo:Nat):Int) ((sIx n n hi:Nat):Int) 1)) _ _ s
  rw [Z9c]
  exact wpAny_pure h
theorem J1Y (xs:Array Value) (i k:Nat):((List.range k).filterMap fun (m:Nat)=>xs[((i:Int)+(m:Int) * 1).toNat]?).toArray=((xs.toList.drop i).take k).toArray:=by
  have e:(fun (m:Nat)=>xs[((i:Int)+(m:Int) * 1).toNat]?)=fun m=>xs[i+m]?:=by
    funext m
    have:((i:Int)+(m:Int) * 1).toNat=i+m:=by omega
    rw [this]
  rw [e]
  have:=pick_run xs i k
  rw [List.filterMap_map] at this
  have e2:((fun x=>xs[x]?) ∘ fun x=>i+x)=fun m=>xs[i+m]?:=rfl
  rw [e2] at this
  rw [this]
theorem getItem_tuple_cut {t sl:Addr} {items:Array Value} {vl vu:Value} {lo hi:Option Int} {Q:Value→Shared→Prop} (ht:IsTup s.heap t items) (hs:s.heap.IsSliceOf sl vl vu .none) (pl:IsPart vl lo) (pu:IsPart vu hi)
    (hw:¬ (sIx items.size 0 lo=0∧sIx items.size items.size hi=items.size))
    (h:Q (.ref s.heap.objs.size) { s with heap:=s.heap.push { cls:=.type "tuple",data:=.seq ((items.toList.drop (sIx items.size 0 lo)).take (sIx items.size items.size hi - sIx items.size 0 lo)).toArray } })
    (hsz:items.size≤sizeLine):wpAny (model prog w) A (getItem (.ref t) (.ref sl)) Q E s:=by
  have htake:sizeOk (.seq ((items.toList.drop (sIx items.size 0 lo)).take (sIx items.size items.size hi - sIx items.size 0 lo)).toArray):=by
    show ((items.toList.drop (sIx items.size 0 lo)).take (sIx items.size items.size hi - sIx items.size 0 lo)).toArray.size≤sizeLine
    rw [List.size_toArray,List.length_take,List.length_drop,Array.length_toList]
    omega
  have hj:sIx items.size items.size hi≤items.size:=J6g _ _ (Nat.le_refl _) hi
  obtain ⟨os,hos,hcs,hds⟩:=id hs
  have hTs:s.TypeIs (.ref sl) "slice":=⟨os,hos,hcs⟩
  unfold getItem
  try with_reducible refine wpAny_holding ?_
  first | refine wpAny_bind (wpAny_pure ?_) | skip
  refine wpAny_bind (wpAny_sequenceKey ht.typeIs (by decide) ?_)
  refine wpAny_bind (wpAny_callSpecial?_slot (name:=Str.ofString "__getitem__") ht.typeIs PyProof.Rows.slot_tuple_getitem
    (wpAny_call_entry PyProof.Rows.slot_tuple_getitem ht.typeIs entry_tuple_getitem ?_ (args_tuple_getitem _ _)))
  show wpAny _ _ (Builtin.Tuple.tupleItemsOf (.ref t) >>= _) _ _ s
  refine wpAny_bind (tupleItemsOf_ ht ?_)
  refine wpAny_bind (wpAny_typeOf hTs ?_)
  rw [if_pos (by decide)]
  refine wpAny_bind (Z2R hs pl pu ?_)
  have hno:¬ ((((sIx items.size 0 lo:Nat):Int) == 0&&(1:Int) == 1&&(sIx items.size items.size hi - sIx items.size 0 lo) == items.size)=true):=by
    intro q
    rw [Bool.and_eq_true,Bool.and_eq_true] at q
    have q1:((sIx items.size 0 lo:Nat):Int)=0:=eq_of_beq q.1.1
    have q2:sIx items.size items.size hi - sIx items.size 0 lo=items.size:=eq_of_beq q.2
    exact hw ⟨by omega,by omega⟩
  show wpAny _ _ (if (((sIx items.size 0 lo:Nat):Int) == 0&&(1:Int) == 1&&(sIx items.size items.size hi - sIx items.size 0 lo) == items.size)=true then _ else _) _ _ s
  rw [if_neg hno,J1Y]
  first
    | exact wpAny_bind (m:=Builtin.Tuple.tupleExact _) (wpAny_newObj_type (wpAny_pure ⟨_,rfl,wpAny_pure h⟩) htake)
    | exact wpAny_bind (m:=Builtin.Tuple.tupleExact _) (wpAny_newObj_type (wpAny_bind (wpAny_pure (wpAny_pure ⟨_,rfl,wpAny_pure h⟩))) htake)
    | exact wpAny_bind (wpAny_bind (m:=Builtin.Tuple.tupleExact _) (wpAny_newObj_type (wpAny_pure (wpAny_pure ⟨_,rfl,wpAny_pure h⟩)) htake))
    | exact wpAny_bind (wpAny_bind (m:=Builtin.Tuple.tupleExact _) (wpAny_newObj_type (wpAny_pure ⟨_,rfl,wpAny_pure h⟩) htake))
end
end HT
namespace L2
open PySem PySem.Spec PyProof.Rows
abbrev TO:=St→Hp→(Option Int→Hp→Prop)→Prop
def PO (X:Cx) (e:Option Expr) (t:TO):Prop:=
  ∀ (pins:List (Addr×Obj)) (s:Shared) (σ:St) (H:Hp) (Q:Option Int→Hp→Prop),Inv X pins σ H s→t σ H Q →
    wpAny (model X.prog X.w) X.A (evalPart e X.env) (fun u s'=>∃ o H',Inv X pins σ H' s'∧IsPart u o∧Q o H') X.xe s
def J1c:TO:=fun _ H Q=>Q none H
def J5T (t:TE):TO:=fun σ H Q=>t σ H fun x H1=>∃ i,x=.int i∧Q (some i) H1
section
variable {X:Cx} {e:Expr} {te:TE} {lo hi:Option Expr} {tl th:TO} {pos p2:Pos}
theorem Z3q:PO X none J1c:=by
  intro pins s σ H Q I h
  rw [evalPart_none]
  exact wpAny_pure ⟨none,H,I,.none,h⟩
theorem Z3u (h:PE X e te):PO X (some e) (J5T te):=by
  intro pins s σ H Q I hw
  rw [evalPart_some]
  refine thn (h pins s σ H _ I hw) fun u s1 ⟨x,H1,I1,r1,q1⟩=>?_
  obtain ⟨i,rfl,q⟩:=q1
  obtain ⟨t,rfl⟩:=r1
  exact ⟨some i,H1,I1,.int i t,q⟩
def SlR (X:Cx) (r:V→Option Int→Option Int→Hp→VK→Prop):Prop:=
  ∀ (pins:List (Addr×Obj)) (s:Shared) (σ:St) (H:Hp) (x:V) (v vl vu:Value) (lo hi:Option Int) (sl:Addr) (Q:VK),Inv X pins σ H s→RelV x v→s.heap.IsSliceOf sl vl vu .none→IsPart vl lo→IsPart vu hi→r x lo hi H Q →
    ∃ T id,typeLookup (.type T) "__getitem__"=pure (some (.builtin id))∧s.TypeIs v T∧wpAny (model X.prog X.w) X.A (getItem v (.ref sl)) (EP X pins σ Q) X.xe s
def tSl (r:V→Option Int→Option Int→Hp→VK→Prop) (te:TE) (tl th:TO):TE:=fun σ H Q=>te σ H fun x H1=>tl σ H1 fun l H2=>th σ H2 fun u H3=>r x l u H3 Q
theorem Z2N {r:V→Option Int→Option Int→Hp→VK→Prop} (hr:SlR X r) (he:PE X e te) (hl:PO X lo tl) (hu:PO X hi th):PE X (.Subscript e (.Slice lo hi none p2) pos) (tSl r te tl th):=by
  intro pins s σ H Q I h
  refine Subscript_ (thn (he pins s σ H _ I h) fun v s1 ⟨x,H1,I1,r1,q1⟩=>?_)
  refine wpAny_Slice (thn (hl pins s1 σ H1 _ I1 q1) fun vl s2 ⟨l,H2,I2,pl,q2⟩=>thn (hu pins s2 σ H2 _ I2 q2) fun vu s3 ⟨u,H3,I3,pu,q3⟩=>?_)
  rw [evalPart_none]
  refine wpAny_pure ?_
  have I4:Inv X pins σ H3 { s3 with heap:=s3.heap.push { cls:=.type "slice",data:=.fields #[vl,vu,.none] } }:=I3.kept (t':=s3.toks) fun b ob q=>Heap.get?_push_of_some _ q
  obtain ⟨T,id,hT,ht,hg⟩:=hr pins { s3 with heap:=s3.heap.push { cls:=.type "slice",data:=.fields #[vl,vu,.none] } } σ H3 x v vl vu l u s3.heap.objs.size Q I4 r1 (Heap.IsSliceOf.new ..) pl pu q3
  show wpAny (model X.prog X.w) X.A (subscriptTail e (.Slice lo hi none p2) v (.ref s3.heap.objs.size)) (EP X pins σ Q) X.xe { s3 with heap:=s3.heap.push { cls:=.type "slice",data:=.fields #[vl,vu,.none] } }
  exact tail_any (ops:=[.ref s3.heap.objs.size,v]) ht hT hg (by with_unfolding_all rfl)
def cutV (xs:List V) (lo hi:Option Int):List V:=(xs.drop (HT.sIx xs.length 0 lo)).take (HT.sIx xs.length xs.length hi - HT.sIx xs.length 0 lo)
theorem Z4H (xs:List V) (lo hi:Option Int):(cutV xs lo hi).length≤xs.length:=by
  unfold cutV
  rw [List.length_take,List.length_drop]
  omega
def rSlT (K:W.Frag):V→Option Int→Option Int→Hp→VK→Prop:=fun x lo hi H Q=>∃ a xs,x=.ref a∧SqT K H a xs ∧
  ¬ (HT.sIx xs.length 0 lo=0∧HT.sIx xs.length xs.length hi=xs.length)∧∀ p,H p=none→Q (.ref p) (upd H p (.tup (cutV xs lo hi)))
theorem J5J:SlR X (rSlT X.K):=by
  intro pins s σ H x v vl vu lo hi sl Q I rx hs pl pu h
  obtain ⟨a,xs,rfl,hx,hw,q⟩:=h
  cases rx
  obtain ⟨its,r,ht,hz⟩:=I.tuple hx
  have hlen:its.toArray.size=xs.length:=by rw [List.size_toArray]; exact r.length.symm
  refine ⟨"tuple",_,PyProof.Rows.slot_tuple_getitem.lookup,ht.typeIs,?_⟩
  refine HT.getItem_tuple_cut ht hs pl pu (by rw [hlen]; exact hw) ?_ (by rw [hlen]; exact hz)
  rw [hlen]
  refine ⟨.ref s.heap.objs.size,_,I.laid (t':=s.toks) (o:=.tup (cutV xs lo hi)) (fun b ob q=>Heap.get?_push_of_some _ q) (Nat.le_refl _) ?_,rfl,q _ (I.hok.fresh (Nat.le_refl _))⟩
  exact ⟨Nat.le_trans (Z4H xs lo hi) hz,_,(r.drop (HT.sIx xs.length 0 lo)).take (HT.sIx xs.length xs.length hi - HT.sIx xs.length 0 lo),IsTup.new _ _⟩
def J6w (K:W.Frag):R2:=fun x y H Q=>∃ a b xs ys,x=.ref a∧y=.ref b∧SqT K H a xs∧SqT K H b ys∧xs≠[]∧xs.length+ys.length≤sizeLine ∧
  (ys=[]→Q (.ref a) H)∧(ys≠[]→∀ p,H p=none→Q (.ref p) (upd H p (.tup (xs++ys))))
theorem Vals.nil_iff {xs:List V} {us:List Value} (r:Vals xs us):us=[]↔xs=[]:=by
  cases r with
  | nil=>simp
  | cons _ _=>simp
theorem J4V:OpR X (binaryOp .Add) (J6w X.K):=by
  intro pins s σ H x y v u Q I rx ry h
  obtain ⟨a,b,xs,ys,rfl,rfl,ha,hb,hx,hz,q1,q2⟩:=h
  cases rx
  cases ry
  obtain ⟨its,r1,p1,_⟩:=I.tuple ha
  obtain ⟨its2,r2,p2,_⟩:=I.tuple hb
  refine HT.cat_tup p1 p2 (fun z=>hx (r1.nil_iff.mp z)) (fun z=>⟨.ref a,H,I,rfl,q1 (r2.nil_iff.mp z)⟩) (fun z=>?_) (by rw [← r1.length,← r2.length]; exact hz)
  refine ⟨.ref s.heap.objs.size,_,I.laid (t':=s.toks) (o:=.tup (xs++ys)) (fun b ob q=>Heap.get?_push_of_some _ q) (Nat.le_refl _) ?_,rfl,q2 (fun w=>z (r2.nil_iff.mpr w)) _ (I.hok.fresh (Nat.le_refl _))⟩
  exact ⟨by rw [List.length_append]; exact hz,_,r1.append r2,IsTup.new _ _⟩
end
end L2
namespace L2
open PySem PySem.Spec PyProof.Rows
def ixN (n:Nat) (i:Int):Option Nat:=if 0≤i then (if i < n then some i.toNat else none) else if -(n:Int)≤i then some (i+n).toNat else none
def atI {α:Type} (xs:List α) (i:Int):Option α:=(ixN xs.length i).bind fun j=>xs[j]?
theorem Z9m {n:Nat} {i:Int} {j:Nat} (h:ixN n i=some j):seqIndex? i n=some j∧j < n∧-(n:Int)≤i∧i < n:=by
  unfold ixN at h
  by_cases h0:0≤i
  · rw [if_pos h0] at h
    by_cases h1:i < n
    · rw [if_pos h1] at h
      have e:i.toNat=j:=Option.some.inj h
      exact ⟨by rw [seqIndex_of h0 h1,e],by omega,by omega,h1⟩
    · rw [if_neg h1] at h; cases h
  · rw [if_neg h0] at h
    by_cases h1:-(n:Int)≤i
    · rw [if_pos h1] at h
      have e:(i+n).toNat=j:=Option.some.inj h
      exact ⟨by rw [seqIndex_neg (by omega) h1,e],by omega,h1,by omega⟩
    · rw [if_neg h1] at h; cases h
theorem J0O {α:Type} {xs:List α} {i:Int} {v:α} (h:atI xs i=some v):∃ j,seqIndex? i xs.length=some j∧xs[j]?=some v∧j < xs.length∧-(xs.length:Int)≤i∧i < xs.length:=by
  unfold atI at h
  cases e:ixN xs.length i with
  | none=>rw [e] at h; cases h
  | some j=>
    rw [e] at h
    obtain ⟨h1,h2,h3,h4⟩:=Z9m e
    exact ⟨j,h1,h,h2,h3,h4⟩
theorem Z0F {α:Type} {xs:List α} {j:Nat} {v:α} (h:xs[j]?=some v):atI xs (j:Int)=some v:=by
  have hj:j < xs.length:=(List.getElem?_eq_some_iff.mp h).1
  have e:ixN xs.length (j:Int)=some j:=by
    unfold ixN
    rw [if_pos (by omega),if_pos (by omega)]; simp
  unfold atI; rw [e]; exact h
def J4D (b:Expr):Prop:=∀ o i,subscripted b false o i=operate [o,i] (getItem o i)
def IxR (X:Cx) (r:R2):Prop:=
  ∀ (value slice:Expr) (pins:List (Addr×Obj)) (s:Shared) (σ:St) (H:Hp) (x y:V) (v u:Value) (Q:VK),Inv X pins σ H s→RelV x v→RelV y u→r x y H Q →
    subscripted slice false v u=operate [v,u] (getItem v u)→wpAny (model X.prog X.w) X.A (subscriptTail value slice v u) (EP X pins σ Q) X.xe s
def MtR (X:Cx) (id:String) (r:V→List V→Hp→VK→Prop):Prop:=
  ∀ (pins:List (Addr×Obj)) (s:Shared) (σ:St) (H:Hp) (x:V) (xs:List V) (v:Value) (us:List Value) (Q:VK),Inv X pins σ H s→RelV x v→Vals xs us→r x xs H Q →
    wpAny (model X.prog X.w) X.A (call (.builtin id) (v::us)) (EP X pins σ Q) X.xe s
section
variable {X:Cx} {a b:Expr} {ta tb:TE} {pos:Pos}
theorem Z0L {r:R2} (hr:IxR X r) (ha:PE X a ta) (hb:PE X b tb) (hs:J4D b):PE X (.Subscript a b pos) (tOp r ta tb):=by
  intro pins s σ H Q I h
  exact Subscript_ (binT ha hb I h fun v u s2 x y H2 I2 rx ry q=>hr a b pins s2 σ H2 x y v u Q I2 rx ry q (hs _ _))
def rIxL (K:W.Frag):R2:=fun x y H Q=>∃ p xs i v,x=.ref p∧y=.int i∧SqL K H p xs∧atI xs i=some v∧Q v H
def rIxT (K:W.Frag):R2:=fun x y H Q=>∃ p xs i v,x=.ref p∧y=.int i∧SqT K H p xs∧atI xs i=some v∧Q v H
def rIxS:R2:=fun x y H Q=>∃ z i c,x=.str z∧y=.int i∧z.length≤sizeLine∧atI z.cps.toList i=some c∧Q (.str ⟨#[c]⟩) H
theorem J5B:IxR X (rIxL X.K):=by
  intro value slice pins s σ H x y v u Q I rx ry h hs
  obtain ⟨p,xs,i,z,rfl,rfl,hq,he,q⟩:=h
  cases rx
  obtain ⟨t,rfl⟩:=ry
  obtain ⟨its,r,pl,hz⟩:=I.list hq
  obtain ⟨j,h1,h2,h3,h4,h5⟩:=J0O he
  obtain ⟨w,ew,rw'⟩:=r.get h2
  have hl:=r.length
  have hn:=Z5o
  have fin:EP X pins σ Q w s:=⟨z,H,I,rw',q⟩
  by_cases h0:0≤i
  · have hj:i.toNat=j:=by
      rw [seqIndex_of h0 h5] at h1
      exact Option.some.inj h1
    exact item_listR pl.isList h0 (by omega) (by rw [hj]; simpa using ew) fin hs
  · have hj:(i+(its.toArray.size:Int)).toNat=j:=by
      rw [seqIndex_neg (by omega) h4] at h1
      rw [List.size_toArray,← hl]
      exact Option.some.inj h1
    exact subscriptTail_builtinR (x:=w) pl.isList.typeIs slot_list_getitem.lookup
      (wpAny_getItem_list_neg (Q:=fun r s'=>r=w∧EP X pins σ Q r s') pl.isList (by omega) (by rw [List.size_toArray] <;> omega) (by omega) (by rw [hj]; simpa using ew) ⟨rfl,fin⟩) hs
theorem J7x:IxR X (rIxT X.K):=by
  intro value slice pins s σ H x y v u Q I rx ry h hs
  obtain ⟨p,xs,i,z,rfl,rfl,hq,he,q⟩:=h
  cases rx
  obtain ⟨t,rfl⟩:=ry
  obtain ⟨its,r,pl,hz⟩:=I.tuple hq
  obtain ⟨j,h1,h2,h3,h4,h5⟩:=J0O he
  obtain ⟨w,ew,rw'⟩:=r.get h2
  have hl:=r.length
  have hn:=Z5o
  have fin:EP X pins σ Q w s:=⟨z,H,I,rw',q⟩
  exact subscriptTail_builtinR (x:=w) pl.typeIs slot_tuple_getitem.lookup
    (getItem_tuple (j:=j) (Q:=fun r s'=>r=w∧EP X pins σ Q r s') pl (by omega) (by omega) (by rw [List.size_toArray,← hl]; exact h1) (by simpa using ew) ⟨rfl,fin⟩) hs
theorem Z8Z (its:List Value) (n j:Nat) (u:Value):Obj.mapSeq (·.setIfInBounds j u) { cls:=.type "list",data:=.seq its.toArray n }={ cls:=.type "list",data:=.seq (its.set j u).toArray n }:=by
  simp [Obj.mapSeq]
theorem Inv.lst {pins:List (Addr×Obj)} {σ:St} {H:Hp} {s:Shared} {p:Addr} {xs:List V} (I:Inv X pins σ H s) (h:H p=some (.lst xs)) :
    ∃ (its:List Value) (n:Nat),Vals xs its∧s.heap.get? p=some { cls:=.type "list",data:=.seq its.toArray n }∧xs.length≤sizeLine:=by
  obtain ⟨z,its,n,r,e⟩:=I.hok p _ h
  exact ⟨its,n,r,e,z⟩
theorem Inv.lstUpd {pins:List (Addr×Obj)} {σ:St} {H:Hp} {s:Shared} {p:Addr} {xs ys:List V} {its its':List Value} {n n':Nat} {f:Obj→Obj} (I:Inv X pins σ H s) (h:H p=some (.lst xs))
    (ho:s.heap.get? p=some { cls:=.type "list",data:=.seq its.toArray n }) (hf:f { cls:=.type "list",data:=.seq its.toArray n }={ cls:=.type "list",data:=.seq its'.toArray n' }) (r:Vals ys its') (hz:ys.length≤sizeLine) (t:Nat) :
    Inv X pins σ (upd H p (.lst ys)) { s with heap:=s.heap.update p f,toks:=t }:=by
  have e:(s.heap.update p f).get? p=some { cls:=.type "list",data:=.seq its'.toArray n' }:=by
    rw [Heap.get?_update_self f ho (by rw [hf] <;> rfl),hf]
  refine I.write (x:=p) (e:=p) (by rw [h]; trivial) (.inl rfl) (fun b u hb q=>(Heap.get?_update_other _ _ (Ne.symm hb)).trans q) ⟨_,e⟩ ?_
  exact ⟨hz,its',n',r,e⟩
def J6H:V→V→V→Hp→(Hp→Prop)→Prop:=fun o i v H Q=>∃ p xs k j,o=.ref p∧i=.int k∧H p=some (.lst xs)∧ixN xs.length k=some j∧Q (upd H p (.lst (xs.set j v)))
theorem J2D:PSet X J6H:=by
  intro pins s σ H o i v ov iv u Q I ro ri rv h
  obtain ⟨p,xs,k,j,rfl,rfl,hp,hj,q⟩:=h
  cases ro
  obtain ⟨t,rfl⟩:=ri
  obtain ⟨its,n,r,ho,hz⟩:=I.lst hp
  obtain ⟨h1,h2,h3,h4⟩:=Z9m hj
  have hl:=r.length
  have hn:=Z5o
  have I':Inv X pins σ (upd H p (.lst (xs.set j v))) { s with heap:=s.heap.update p (Obj.mapSeq (·.setIfInBounds j u)) }:=
    I.lstUpd hp ho (Z8Z its n j u) (r.set rv j) (by rw [List.length_set]; exact hz) s.toks
  by_cases h0:0≤k
  · have hk:k.toNat=j:=by
      rw [seqIndex_of h0 h4] at h1
      exact Option.some.inj h1
    exact W.ki_setAt ho h0 (by omega) (by rw [List.size_toArray,← hl]; exact h4) (by rw [hk]; exact ⟨_,I',q⟩)
  · have hk:(k+(its.toArray.size:Int)).toNat=j:=by
      rw [seqIndex_neg (by omega) h3] at h1
      rw [List.size_toArray,← hl]
      exact Option.some.inj h1
    exact W.ki_setBack ho (by omega) (by rw [List.size_toArray,← hl]; exact h3) (by omega) (by rw [hk]; exact ⟨_,I',q⟩)
theorem Z6j (lo hi:Option Int) (n:Nat):(sliceBounds lo hi none n).1=((HT.sIx n 0 lo:Nat):Int)∧(sliceBounds lo hi none n).2.1=((HT.sIx n n hi:Nat):Int)∧(sliceBounds lo hi none n).2.2=1:=by
  refine ⟨?_,?_,rfl⟩
  · cases lo with
    | none=>simp [sliceBounds,HT.sIx]
    | some i=>
      simp only [sliceBounds,HT.sIx,Option.getD_none,show (1:Int) > 0 by decide,if_true]
      by_cases h:i < 0
      · simp only [h,if_true] <;> omega
      · simp only [h,if_false] <;> omega
  · cases hi with
    | none=>simp [sliceBounds,HT.sIx]
    | some i=>
      simp only [sliceBounds,HT.sIx,Option.getD_none,show (1:Int) > 0 by decide,if_true]
      by_cases h:i < 0
      · simp only [h,if_true] <;> omega
      · simp only [h,if_false] <;> omega
theorem Z6d (its:List Value) (lo hi:Option Int):slicePick its.toArray lo hi none=((its.drop (HT.sIx its.length 0 lo)).take (HT.sIx its.length its.length hi - HT.sIx its.length 0 lo)).toArray:=by
  obtain ⟨h1,h2,h3⟩:=Z6j lo hi its.toArray.size
  unfold slicePick
  rw [h1,h2,h3]
  simp only [sliceRange_one,pick_run,List.size_toArray] <;> rfl
def rSlL (K:W.Frag):V→Option Int→Option Int→Hp→VK→Prop:=fun x lo hi H Q=>∃ a xs,x=.ref a∧SqL K H a xs∧∀ p,H p=none→Q (.ref p) (upd H p (.lst (cutV xs lo hi)))
theorem J0g:SlR X (rSlL X.K):=by
  intro pins s σ H x v vl vu lo hi sl Q I rx hs pl pu h
  obtain ⟨a,xs,rfl,hx,q⟩:=h
  cases rx
  obtain ⟨its,r,ht,hz⟩:=I.list hx
  have hlen:=r.length
  refine ⟨"list",_,slot_list_getitem.lookup,ht.isList.typeIs,?_⟩
  refine wpAny_getItem_list_slice ht.isList hs pl pu .none (by simp) ?_ (by rw [List.size_toArray] <;> omega)
  rw [Z6d,← hlen]
  refine ⟨.ref s.heap.objs.size,_,I.laid (t':=s.toks) (o:=.lst (cutV xs lo hi)) (fun b ob q=>Heap.get?_push_of_some _ q) (Nat.le_refl _) ?_,rfl,q _ (I.hok.fresh (Nat.le_refl _))⟩
  exact ⟨Nat.le_trans (Z4H xs lo hi) hz,_,0,(r.drop (HT.sIx xs.length 0 lo)).take (HT.sIx xs.length xs.length hi - HT.sIx xs.length 0 lo),Heap.get?_push_size _ rfl⟩
def Z4I:V→Bool
  | .non=>true
  | .bl _=>true
  | .int _=>true
  | .str _=>true
  | _=>false
def eqV:V→V→Bool
  | .non,.non=>true
  | .bl a,.bl b=>a == b
  | .bl a,.int b=>(if a then 1 else 0) == b
  | .int a,.bl b=>a == (if b then 1 else 0)
  | .int a,.int b=>a == b
  | .str a,.str b=>a == b
  | _,_=>false
theorem J7b {A:Around} {s:Shared} {y x:V} {u v:Value} (ry:RelV y u) (rx:RelV x v) (fy:Z4I y=true) (fx:Z4I x=true):SeqAt.EqAt A s u v (eqV y x):=by
  cases y with
  | non=>
    cases ry
    cases x with
    | non=>cases rx; exact SeqAt.EqAt.same _
    | bl b=>cases rx; exact SeqAt.EqAt.none_bool b
    | int b=>obtain ⟨t,rfl⟩:=rx; exact SeqAt.EqAt.none_int b t
    | str b=>obtain ⟨t,rfl⟩:=rx; exact SeqAt.EqAt.none_str b t
    | _=>exact absurd (show false=true from fx) Bool.false_ne_true
  | bl a=>
    cases ry
    cases x with
    | non=>cases rx; exact SeqAt.EqAt.bool_none a
    | bl b=>cases rx; exact SeqAt.EqAt.bool_bool a b
    | int b=>obtain ⟨t,rfl⟩:=rx; exact SeqAt.EqAt.bool_int a b t
    | str b=>obtain ⟨t,rfl⟩:=rx; exact SeqAt.EqAt.bool_str a b t
    | _=>exact absurd (show false=true from fx) Bool.false_ne_true
  | int a=>
    obtain ⟨t',rfl⟩:=ry
    cases x with
    | non=>cases rx; exact SeqAt.EqAt.int_none a t'
    | bl b=>cases rx; exact SeqAt.EqAt.int_bool a t' b
    | int b=>obtain ⟨t,rfl⟩:=rx; exact SeqAt.EqAt.int_int a t' b t
    | str b=>obtain ⟨t,rfl⟩:=rx; exact SeqAt.EqAt.int_str a t' b t
    | _=>exact absurd (show false=true from fx) Bool.false_ne_true
  | str a=>
    obtain ⟨t',rfl⟩:=ry
    cases x with
    | non=>cases rx; exact SeqAt.EqAt.str_none a t'
    | bl b=>cases rx; exact SeqAt.EqAt.str_bool a t' b
    | int b=>obtain ⟨t,rfl⟩:=rx; exact SeqAt.EqAt.str_int a t' b t
    | str b=>obtain ⟨t,rfl⟩:=rx; exact SeqAt.EqAt.str_str a t' b t
    | _=>exact absurd (show false=true from fx) Bool.false_ne_true
  | _=>exact absurd (show false=true from fy) Bool.false_ne_true
def eqU (x:V) (u:Value):Bool:=match u with
  | .none=>eqV .non x
  | .bool b=>eqV (.bl b) x
  | .int i _=>eqV (.int i) x
  | .str z _=>eqV (.str z) x
  | _=>false
theorem J0o {x y:V} {u:Value} (r:RelV y u) (f:Z4I y=true):eqU x u=eqV y x:=by
  cases y with
  | non=>cases r; rfl
  | bl b=>cases r; rfl
  | int i=>obtain ⟨t,rfl⟩:=r; rfl
  | str z=>obtain ⟨t,rfl⟩:=r; rfl
  | _=>exact absurd (show false=true from f) Bool.false_ne_true
theorem Z7b {x:V}:∀ {xs:List V} {us:List Value},Vals xs us→xs.all Z4I=true→us.any (eqU x)=xs.any fun y=>eqV y x
  | _,_,.nil,_=>rfl
  | y::xs,u::us,.cons r t,f=>by
    rw [List.all_cons,Bool.and_eq_true] at f
    rw [List.any_cons,List.any_cons,J0o r f.1,Z7b t f.2]
theorem Z4v {A:Around} {s:Shared} {x:V} {v:Value} (rx:RelV x v) (fx:Z4I x=true):∀ {xs:List V} {us:List Value},Vals xs us→xs.all Z4I=true→∀ u∈us,SeqAt.EqAt A s u v (eqU x u)
  | _,_,.nil,_=>fun u hu=>by cases hu
  | y::xs,u::us,.cons r t,f=>fun u' hu=>by
    rw [List.all_cons,Bool.and_eq_true] at f
    rcases List.mem_cons.mp hu with rfl | hu
    · rw [J0o r f.1]; exact J7b r rx f.1 fx
    · exact Z4v rx fx t f.2 u' hu
def inV (x:V) (xs:List V):Bool:=xs.any fun y=>eqV y x
def rIn (K:W.Frag) (neg:Bool):R2:=fun x y H Q=>∃ p xs,y=.ref p∧(SqL K H p xs∨SqT K H p xs)∧Z4I x=true∧xs.all Z4I=true∧Q (.bl (if neg then !inV x xs else inV x xs)) H
theorem Z0U:OpR X (compareOp .In) (rIn X.K false):=by
  intro pins s σ H x y v u Q I rx ry h
  obtain ⟨p,xs,rfl,hq,fx,fs,q⟩:=h
  cases ry
  rcases hq with hq | hq
  · obtain ⟨its,r,pl,hz⟩:=I.list hq
    refine SeqAt.in_listAt (eqU x) pl.isList (fun w hw=>Z4v rx fx r fs w (by simpa using hw)) ⟨.bl _,H,I,rfl,?_⟩
    rw [show its.toArray.any (eqU x)=its.any (eqU x) by simp,Z7b r fs]
    exact q
  · obtain ⟨its,r,pl,hz⟩:=I.tuple hq
    refine SeqAt.in_tupleAt (eqU x) pl (fun w hw=>Z4v rx fx r fs w (by simpa using hw)) ⟨.bl _,H,I,rfl,?_⟩
    rw [show its.toArray.any (eqU x)=its.any (eqU x) by simp,Z7b r fs]
    exact q
theorem Z2Z:Z4q X (.builtin "len") (fun xs H Q=>∃ p ys,xs=[.ref p]∧(SqL X.K H p ys∨SqT X.K H p ys)∧Q (.int ys.length) H):=by
  intro pins s σ H xs us Q I r h
  obtain ⟨p,ys,rfl,hq,q⟩:=h
  obtain ⟨u,rfl,rx⟩:=Z7l r
  cases rx
  have hn:=Z5o
  rcases hq with hq | hq
  · obtain ⟨its,r',pl,hz⟩:=I.list hq
    have hlen:=r'.length
    exact Calls.call_len_list pl.isList (by simp only [List.size_toArray] <;> omega) ⟨.int ys.length,H,I.tok _,⟨s.toks+1,by rw [List.size_toArray,hlen]⟩,q⟩
  · obtain ⟨its,r',pl,hz⟩:=I.tuple hq
    have hlen:=r'.length
    exact len_tuple pl (by simp only [List.size_toArray] <;> omega) ⟨.int ys.length,H,I.tok _,⟨s.toks+1,by rw [List.size_toArray,hlen]⟩,q⟩
theorem Z6I:Z4q X (.type "list") (fun xs H Q=>∃ p ys,xs=[.ref p]∧(SqL X.K H p ys∨SqT X.K H p ys)∧∀ l,H l=none→Q (.ref l) (upd H l (.lst ys))):=by
  intro pins s σ H xs us Q I r h
  obtain ⟨p,ys,rfl,hq,q⟩:=h
  obtain ⟨u,rfl,rx⟩:=Z7l r
  cases rx
  have fin:∀ (its:List Value),Vals ys its→ys.length≤sizeLine→∀ (h':Heap) (c':Nat),(∀ b o',s.heap.get? b=some o'→h'.get? b=some o') →
      h'.get? s.heap.objs.size=some { cls:=.type "list",dict:=none,data:=.seq its.toArray c',slots:=#[] }→EP X pins σ Q (.ref s.heap.objs.size) { s with heap:=h' }:=fun its r' hz h' c' kp e=>
    ⟨.ref s.heap.objs.size,_,I.laid (t':=s.toks) kp (Nat.le_refl _) (show ObjOk X.prog X.w _ h' _ (.lst ys) from ⟨hz,its,c',r',e⟩),rfl,q _ (I.hok.fresh (Nat.le_refl _))⟩
  rcases hq with hq | hq
  · obtain ⟨its,r',pl,hz⟩:=I.list hq
    have hlen:=r'.length
    obtain ⟨o,ho,hc,n,hd⟩:=pl.isList
    exact call_list_seq p (.inl rfl) ho hc hd (fun h' c' kp e=>fin its r' hz h' c' kp e) (by simp only [List.size_toArray] <;> omega)
  · obtain ⟨its,r',pl,hz⟩:=I.tuple hq
    have hlen:=r'.length
    obtain ⟨o,ho,hc,n,hd⟩:=pl
    exact call_list_seq p (.inr rfl) ho hc hd (fun h' c' kp e=>fin its r' hz h' c' kp e) (by simp only [List.size_toArray] <;> omega)
theorem Z0I:Z4q X (.type "tuple") (fun xs H Q=>∃ p ys,xs=[.ref p]∧((SqL X.K H p ys∧∀ l,H l=none→Q (.ref l) (upd H l (.tup ys)))∨(SqT X.K H p ys∧Q (.ref p) H))):=by
  intro pins s σ H xs us Q I r h
  obtain ⟨p,ys,rfl,h⟩:=h
  obtain ⟨u,rfl,rx⟩:=Z7l r
  cases rx
  rcases h with ⟨hq,q⟩ | ⟨hq,q⟩
  · obtain ⟨its,r',pl,hz⟩:=I.list hq
    have hlen:=r'.length
    refine call_tuple_list pl.isList (fun h' kp=>?_) (by simp only [List.size_toArray] <;> omega)
    have I1:Inv X pins σ H { s with heap:=h' }:=I.kept (t':=s.toks) kp
    have I2:Inv X pins σ (upd H h'.objs.size (.tup ys)) { s with heap:=h'.push { cls:=.type "tuple",data:=.seq its.toArray } }:=
      I1.laid (t':=s.toks) (fun b o e=>Heap.get?_push_of_some _ e) (Nat.le_refl _) (show ObjOk X.prog X.w _ _ _ (.tup ys) from ⟨hz,its,r',IsTup.new _ _⟩)
    exact ⟨.ref h'.objs.size,_,I2,rfl,q _ (I1.hok.fresh (Nat.le_refl _))⟩
  · obtain ⟨its,r',pl,hz⟩:=I.tuple hq
    exact call_tuple_same pl ⟨.ref p,H,I,rfl,q⟩
def tyV (K:W.Frag) (T:String) (x:V) (H:Hp):Prop:=match x with
  | .str _=>T="str"
  | .int _=>T="int"
  | .ref p=>(T="list"∧∃ xs,SqL K H p xs)∨(T="tuple"∧∃ o,K.lookup p=some o∧o.cls=.type "tuple"∧o.dict=none) ∨
      (T="dict"∧((∃ kvs,H p=some (.dK kvs))∨∃ kvs,H p=some (.dT kvs)))∨(T="set"∧∃ S n,H p=some (.set S n))
  | _=>False
theorem J3L {pins:List (Addr×Obj)} {σ:St} {H:Hp} {s:Shared} {T:String} {x:V} {v:Value} (I:Inv X pins σ H s) (r:RelV x v) (ty:tyV X.K T x H) :
    s.TypeIs v T∧∀ a,v=.ref a→∃ ob,s.heap.get? a=some ob∧ob.dict=none:=by
  cases x with
  | str z=>
    obtain ⟨t,rfl⟩:=r
    cases (show T="str" from ty)
    exact ⟨typeIs_str s z t,fun _ e=>nomatch e⟩
  | int i=>
    obtain ⟨t,rfl⟩:=r
    cases (show T="int" from ty)
    exact ⟨typeIs_int s i t,fun _ e=>nomatch e⟩
  | ref p=>
    cases r
    rcases ty with ⟨rfl,xs,hq⟩ | ⟨rfl,o,hk,hc,hd⟩ | ⟨rfl,hk⟩ | ⟨rfl,S,n,hk⟩
    · obtain ⟨its,_,pl,_⟩:=I.list hq
      refine ⟨pl.isList.typeIs,fun a e=>?_⟩
      cases e
      obtain ⟨o,n,e,c,hd,_⟩:=pl
      exact ⟨o,e,hd⟩
    · refine ⟨⟨o,I.kIn p o hk,hc⟩,fun a e=>?_⟩
      cases e
      exact ⟨o,I.kIn _ o hk,hd⟩
    · have z:∃ o,s.heap.get? p=some o∧o.ExactDict:=by
        rcases hk with ⟨kvs,hk⟩ | ⟨kvs,hk⟩
        · obtain ⟨_,_,_,_,o,_,_,e,ex,_⟩:=I.hok p _ hk
          exact ⟨o,e,ex⟩
        · obtain ⟨_,_,_,_,o,_,_,e,ex,_⟩:=I.hok p _ hk
          exact ⟨o,e,ex⟩
      obtain ⟨o,e,ex⟩:=z
      refine ⟨⟨o,e,ex.1⟩,fun a e2=>?_⟩
      cases e2
      exact ⟨o,e,ex.2.1⟩
    · obtain ⟨o,_,_,_,e,ex,_⟩:=I.hok p _ hk
      refine ⟨⟨o,e,ex.1⟩,fun a e2=>?_⟩
      cases e2
      exact ⟨o,e,ex.2.1⟩
  | _=>exact False.elim ty
def tBM0 (K:W.Frag) (T:String) (r:V→List V→Hp→VK→Prop) (to:TE):TE:=fun σ H Q=>to σ H fun x H1=>tyV K T x H1∧r x [] H1 Q
def tBM (K:W.Frag) (T:String) (r:V→List V→Hp→VK→Prop) (to:TE) (t:TA):TE:=fun σ H Q=>to σ H fun x H1=>tyV K T x H1∧t σ H1 fun xs H2=>r x xs H2 Q
variable {o e:Expr} {es:List Expr} {to:TE} {t:TA} {name:Str} {apos cpos:Pos} {T id:String} {r:V→List V→Hp→VK→Prop}
theorem Z6p (pa:PlainAttrs T) (slot:Slot T name id) (hty:typeOf (.builtin id)=pure (.type "method_descriptor")) (hm:MtR X id r) (ho:PE X o to)
    (hbase:attributeBase o name X.env (eval o X.env)=eval o X.env:=by rfl) (hline:(apos.endLine == cpos.line)=true:=by rfl):PE X (.Call (.Attribute o name apos) [] [] cpos) (tBM0 X.K T r to):=by
  intro pins s σ H Q I h
  refine wpAny_Call_method0_late hbase hline (thn (ho pins s σ H _ I h) fun v s1 ⟨x,H1,I1,r1,ty,q1⟩=>?_)
  obtain ⟨h1,h2⟩:=J3L I1 r1 ty
  exact ⟨T,id,pa,slot,hty,h1,h2,Calls.callWith_builtin rfl (PySem.evalArgs_none (hm pins s1 σ H1 x [] v [] Q I1 r1 .nil q1))⟩
theorem Z4m (pa:PlainAttrs T) (slot:Slot T name id) (hty:typeOf (.builtin id)=pure (.type "method_descriptor")) (hm:MtR X id r) (ho:PE X o to) (ha:PA X (e::es) t)
    (hbase:attributeBase o name X.env (eval o X.env)=eval o X.env:=by rfl)
    (hfew:((backTo cpos (starEach (e::es) X.env)).all (fun x=>!x.1)&&(backToKw cpos (keywordEach [] X.env)).all (fun x=>x.1.isSome)
      && decide ((e::es).length+([]:List Keyword).length+(if ([]:List Keyword).isEmpty then 0 else 1) < 30))=true:=by rfl)
    (hline:(apos.endLine == cpos.line)=true:=by rfl) (hs:starEach (e::es) X.env=(false,eval e X.env)::starEach es X.env:=by rfl) (hplain:(backTo cpos (starEach es X.env)).any (·.1)=false:=by rfl) :
    PE X (.Call (.Attribute o name apos) (e::es) [] cpos) (tBM X.K T r to t):=by
  intro pins s σ H Q I h
  refine wpAny_Call_method_late hbase hfew hline rfl (thn (ho pins s σ H _ I h) fun v s1 ⟨x,H1,I1,r1,ty,q1⟩=>?_)
  obtain ⟨h1,h2⟩:=J3L I1 r1 ty
  refine ⟨T,id,pa,slot,hty,h1,h2,?_⟩
  have hA:=ha cpos pins s1 σ H1 _ I1 q1
  rw [hs] at hA ⊢
  refine Calls.callWith_builtin (by show (false || (backTo cpos (starEach es X.env)).any (·.1))=false; rw [hplain] <;> rfl) (Calls.evalArgs_plain ?_)
  exact thn hA fun us s2 ⟨vs,H2,I2,r2,q2⟩=>hm pins s2 σ H2 x vs v us Q I2 r1 r2 q2
end
end L2
namespace L2
open PySem PySem.Spec PyProof.Rows
def MtM (X:Cx) (id:String) (r:V→List V→Hp→VK→Prop):Prop:=
  ∀ (pins:List (Addr×Obj)) (s:Shared) (σ:St) (H:Hp) (x:V) (xs:List V) (v:Value) (us:List Value) (Q:VK),Inv X pins σ H s→RelV x v→Vals xs us→r x xs H Q →
    wpAny (model X.prog X.w) X.A (call (.builtin id) (v::us)) (EP X pins σ Q) X.xe s
theorem Vals.one:∀ {x:V} {us:List Value},Vals [x] us→∃ u,us=[u]∧RelV x u
  | _,_,.cons r .nil=>⟨_,rfl,r⟩
theorem Vals.two:∀ {x y:V} {us:List Value},Vals [x,y] us→∃ u v,us=[u,v]∧RelV x u∧RelV y v
  | _,_,_,.cons r (.cons q .nil)=>⟨_,_,rfl,r,q⟩
theorem Vals.zero:∀ {us:List Value},Vals [] us→us=[]
  | _,.nil=>rfl
theorem Vals.dropLast {xs:List V} {us:List Value} (h:Vals xs us):Vals xs.dropLast us.dropLast:=by
  induction h with
  | nil=>exact .nil
  | cons r t ih=>
    cases t with
    | nil=>exact .nil
    | cons q t'=>exact .cons r ih
theorem Vals.reverse {xs:List V} {us:List Value} (h:Vals xs us):Vals xs.reverse us.reverse:=by
  induction h with
  | nil=>exact .nil
  | cons r t ih=>rw [List.reverse_cons,List.reverse_cons]; exact Vals.append ih (.cons r .nil)
theorem Vals.rep {xs:List V} {us:List Value} (h:Vals xs us):∀ k:Nat,Vals (List.replicate k xs).flatten (List.replicate k us).flatten
  | 0=>.nil
  | k+1=>by
    rw [List.replicate_succ,List.replicate_succ,List.flatten_cons,List.flatten_cons]
    exact Vals.append h (Vals.rep h k)
theorem Z8N {α:Type} (l:List α):l.eraseIdx (l.length - 1)=l.dropLast:=by
  induction l with
  | nil=>rfl
  | cons a r ih=>
    cases r with
    | nil=>rfl
    | cons b r=>
      have e:(a::b::r).length - 1=((b::r).length - 1)+1:=by
        have h1:(a::b::r).length=r.length+2:=rfl
        have h2:(b::r).length=r.length+1:=rfl
        omega
      rw [e,List.eraseIdx_cons_succ,ih]
      all_goals rfl
theorem Z6i (its:List Value):∀ (k:Nat) (acc:List Value),
    List.foldl (fun x1 x2=>x1++x2) acc.toArray (List.replicate k its.toArray)=(acc++(List.replicate k its).flatten).toArray
  | 0,acc=>by simp
  | k+1,acc=>by
    have e:acc.toArray++its.toArray=(acc++its).toArray:=by simp
    have e2:(acc++its)++(List.replicate k its).flatten=acc++(List.replicate (k+1) its).flatten:=by
      rw [List.replicate_succ,List.flatten_cons,List.append_assoc]
    rw [← e2,← Z6i its k (acc++its),← e,List.replicate_succ,List.foldl_cons]
section
variable {X:Cx} {pins:List (Addr×Obj)} {σ:St} {H:Hp} {s:Shared} {l b:Addr} {xs ys zs:List V}
theorem Inv.lset {its its':List Value} {n:Nat} {f:Array Value→Array Value} {t':Nat} (I:Inv X pins σ H s) (hH:H l=some (.lst xs))
    (e:s.heap.get? l=some { cls:=.type "list",data:=.seq its.toArray n }) (hf:f its.toArray=its'.toArray) (hv:Vals ys its') (hz:ys.length≤sizeLine) :
    Inv X pins σ (upd H l (.lst ys)) { s with heap:=s.heap.update l (Obj.mapSeq f),toks:=t' }:=by
  have q:=PySem.IsL.update e f
  rw [hf] at q
  refine I.write (x:=l) (e:=l) (by rw [hH]; exact trivial) (.inl rfl) (fun b' u hb hu=>(Heap.get?_update_other s.heap (Obj.mapSeq f) (Ne.symm hb)).trans hu) ⟨_,q⟩ ?_
  exact ⟨hz,its',_,hv,q⟩
theorem Inv.lnew {its:List Value} {t':Nat} (I:Inv X pins σ H s) (hv:Vals ys its) (hz:ys.length≤sizeLine) :
    Inv X pins σ (upd H s.heap.objs.size (.lst ys)) { s with heap:=s.heap.push { cls:=.type "list",data:=.seq its.toArray },toks:=t' }:=
  I.laid (fun _ _ q=>Heap.get?_push_of_some _ q) (Nat.le_refl _) ⟨hz,its,0,hv,Heap.get?_push_size _ rfl⟩
theorem Inv.fresh (I:Inv X pins σ H s):H s.heap.objs.size=none:=I.hok.fresh (Nat.le_refl _)
theorem Inv.lstM (I:Inv X pins σ H s) (hH:H l=some (.lst xs)):xs.length≤sizeLine∧∃ (its:List Value) (n:Nat),Vals xs its∧xs.length=its.length∧s.heap.get? l=some { cls:=.type "list",data:=.seq its.toArray n }:=by
  obtain ⟨z,its,n,r,e⟩:=I.hok l _ hH
  exact ⟨z,its,n,r,r.length,e⟩
theorem Z6c {n:Nat} (h:n≤sizeLine):Builtin.List.listTooLong n=false:=by
  unfold Builtin.List.listTooLong
  exact decide_eq_false (by omega)
end
section
variable {X:Cx}
def J1x:V→List V→Hp→VK→Prop:=fun x vs H Q=>∃ l xs y,x=.ref l∧vs=[y]∧H l=some (.lst xs)∧xs.length < sizeLine∧Q .non (upd H l (.lst (xs++[y])))
theorem Z1y:MtM X "list.append" J1x:=by
  intro pins s σ H x vs v us Q I rx rv h
  obtain ⟨l,xs,y,rfl,rfl,hH,hz,q⟩:=h
  cases rx
  obtain ⟨u,rfl,ru⟩:=rv.one
  obtain ⟨z,its,n,r,hl,e⟩:=I.lstM hH
  refine call_meets F.slot_list_append ⟨_,e,rfl⟩ F.entry_list_append (F.args_list_append_2 _ _) (PySem.list_append l its.toArray n u (by rw [List.size_toArray]; omega)) ⟨e,?_⟩
  refine ⟨.non,_,I.lset (its':=its++[u]) hH e (by simp) (r.append (.cons ru .nil)) ?_,rfl,q⟩
  rw [List.length_append,List.length_singleton]
  omega
def Z9j:V→List V→Hp→VK→Prop:=fun x vs H Q=>∃ l b xs zs,x=.ref l∧vs=[.ref b]∧H l=some (.lst xs)∧H b=some (.lst zs)∧xs.length+zs.length≤sizeLine∧Q .non (upd H l (.lst (xs++zs)))
theorem J7f:MtM X "list.extend" Z9j:=by
  intro pins s σ H x vs v us Q I rx rv h
  obtain ⟨l,b,xs,zs,rfl,rfl,hH,hB,hz,q⟩:=h
  cases rx
  obtain ⟨u,rfl,ru⟩:=rv.one
  cases ru
  obtain ⟨z,its,n,r,hl,e⟩:=I.lstM hH
  obtain ⟨z2,its2,n2,r2,hl2,e2⟩:=I.lstM hB
  have hsz:its.toArray.size+its2.toArray.size≤sizeLine:=by rw [List.size_toArray,List.size_toArray]; omega
  have hlong:¬ (!its.toArray.isEmpty&&Builtin.List.listTooLong (its.toArray.size+its2.toArray.size))=true:=by
    rw [Z6c hsz,Bool.and_false]
    exact Bool.false_ne_true
  refine call_meets F.slot_list_extend ⟨_,e,rfl⟩ F.entry_list_extend (F.args_list_extend_2 _ _)
    (AutoSeq1.list_extend_list_list_0 l its.toArray n b its2.toArray n2 hlong (by rw [List.size_toArray]; omega) (by omega)) ⟨e,e2,?_⟩
  refine ⟨.non,_,I.lset (its':=its++its2) hH e (by simp) (r.append r2) ?_,rfl,q⟩
  rw [List.length_append]
  omega
def rPop:V→List V→Hp→VK→Prop:=fun x vs H Q=>∃ l xs y,x=.ref l∧vs=[]∧H l=some (.lst xs)∧xs[xs.length - 1]?=some y∧Q y (upd H l (.lst xs.dropLast))
theorem Z6S:MtM X "list.pop" rPop:=by
  intro pins s σ H x vs v us Q I rx rv h
  obtain ⟨l,xs,y,rfl,rfl,hH,hy,q⟩:=h
  cases rx
  have hus:=rv.zero
  subst hus
  obtain ⟨z,its,n,r,hl,e⟩:=I.lstM hH
  obtain ⟨u,hu,ru⟩:=r.get hy
  have hy':its.toArray[its.toArray.size - 1]?=some u:=by
    show its.toArray[its.length - 1]?=some u
    rw [← Array.getElem?_toList,← hl]
    exact hu
  refine call_meets F.slot_list_pop ⟨_,e,rfl⟩ F.entry_list_pop (F.args_list_pop_1 _) (MeetsSeq.list_pop_last l its.toArray n u hy' (by rw [List.size_toArray]; omega)) ⟨e,?_⟩
  refine ⟨y,_,I.lset (its':=its.dropLast) hH e ?_ r.dropLast ?_,ru,q⟩
  · show its.toArray.eraseIdxIfInBounds (its.toArray.size - 1)=its.dropLast.toArray
    rw [List.size_toArray,List.eraseIdxIfInBounds_toArray,Z8N]
  · rw [List.length_dropLast]
    omega
def J5P:V→List V→Hp→VK→Prop:=fun x vs H Q=>∃ l xs i k y,x=.ref l∧vs=[.int i]∧H l=some (.lst xs)∧-(2 ^ 63)≤i∧i < 2 ^ 63∧seqIndex? i xs.length=some k∧xs[k]?=some y∧Q y (upd H l (.lst (xs.eraseIdx k)))
def J2P:V→List V→Hp→VK→Prop:=fun x vs H Q=>∃ l xs,x=.ref l∧vs=[]∧H l=some (.lst xs)∧Q .non (upd H l (.lst xs.reverse))
def J6d:V→List V→Hp→VK→Prop:=fun x vs H Q=>∃ l xs,x=.ref l∧vs=[]∧H l=some (.lst xs)∧Q .non (upd H l (.lst []))
def rCat:R2:=fun x y H Q=>∃ l b xs zs,x=.ref l∧y=.ref b∧H l=some (.lst xs)∧H b=some (.lst zs)∧xs.length+zs.length≤sizeLine∧∀ p,H p=none→Q (.ref p) (upd H p (.lst (xs++zs)))
theorem Z7L:OpR X (binaryOp .Add) rCat:=by
  intro pins s σ H x y v u Q I rx ry h
  obtain ⟨l,b,xs,zs,rfl,rfl,hH,hB,hz,q⟩:=h
  cases rx
  cases ry
  obtain ⟨z,its,n,r,hl,e⟩:=I.lstM hH
  obtain ⟨z2,its2,n2,r2,hl2,e2⟩:=I.lstM hB
  refine PySem.P.add_list e e2 ?_ (by rw [List.size_toArray,List.size_toArray]; omega)
  have ea:its.toArray++its2.toArray=(its++its2).toArray:=by simp
  rw [ea]
  exact ⟨.ref _,_,I.lnew (t':=s.toks) (r.append r2) (by rw [List.length_append]; omega),rfl,q _ I.fresh⟩
def rRep:R2:=fun x y H Q=>∃ l k xs,x=.ref l∧y=.int k∧H l=some (.lst xs)∧-(2 ^ 63)≤k∧k < 2 ^ 63∧xs.length * k.toNat≤sizeLine ∧
  ∀ p,H p=none→Q (.ref p) (upd H p (.lst (List.replicate k.toNat xs).flatten))
theorem J5i {α:Type} (xs:List α) (k:Nat):(List.replicate k xs).flatten.length=k * xs.length:=by
  induction k with
  | zero=>simp
  | succ k ih=>rw [List.replicate_succ,List.flatten_cons,List.length_append,ih,Nat.succ_mul,Nat.add_comm]
theorem J6j:OpR X (binaryOp .Mult) rRep:=by
  intro pins s σ H x y v u Q I rx ry h
  obtain ⟨l,k,xs,rfl,rfl,hH,h1,h2,hz,q⟩:=h
  cases rx
  obtain ⟨t,rfl⟩:=ry
  obtain ⟨z,its,n,r,hl,e⟩:=I.lstM hH
  have hlen:its.toArray.size * k.toNat≤sizeLine:=by rw [List.size_toArray,← hl]; exact hz
  have hcap:¬ its.toArray.size * k.toNat > (2 ^ 63 - 1) / 8:=by
    have:(sizeLine:Nat)≤(2 ^ 63 - 1) / 8:=by decide
    omega
  have hfit:¬ (!Builtin.List.listFitsIndex k)=true:=by
    rw [fitsIndex_both h1 h2]
    exact Bool.false_ne_true
  have hlong:¬ Builtin.List.listTooLong (its.toArray.size * k.toNat)=true:=by
    rw [Z6c hlen]
    exact Bool.false_ne_true
  have hnew:List.foldl (fun x1 x2=>x1++x2) #[] (List.replicate (if its.toArray.isEmpty=true then 0 else k.toNat) its.toArray)=(List.replicate k.toNat its).flatten.toArray:=by
    have f0:∀ m:Nat,List.foldl (fun x1 x2=>x1++x2) #[] (List.replicate m its.toArray)=(List.replicate m its).flatten.toArray:=fun m=>by
      have:=Z6i its m []
      rw [List.nil_append] at this
      exact this
    rw [f0]
    cases its with
    | nil=>simp
    | cons a r'=>rw [if_neg (by simp)]
  refine wpAny_binaryOp_repeat_ref (T:="list") (U:="int") (by decide) ⟨_,e,rfl⟩ (fun s'=>typeIs_int s' k t) noFill_list_mul F.fills_int_mul F.slot_int_rmul repeat_list F.slot_int_index.lookup
    (call_meets F.slot_int_rmul (typeIs_int s k t) F.entry_int_rmul (F.args_int_rmul_2 _ _) (int___rmul___int_list k t l its.toArray n)
      ⟨e,rfl,⟨_,e,rfl⟩,call_meets F.slot_list_mul ⟨_,e,rfl⟩ F.entry_list_mul (F.args_list_mul_2 _ _) (AutoListH.list___mul___list_int_3 l its.toArray n k t hfit hcap hlong) ⟨e,?_⟩⟩)
  rw [hnew]
  exact ⟨.ref _,_,I.lnew (t':=s.toks) (r.rep k.toNat) (by rw [J5i,Nat.mul_comm]; exact hz),rfl,q _ I.fresh⟩
end
section
variable {prog:Program} {w:World} {A:Around} {E:Value→Shared→Prop} {s:Shared}
set_option maxRecDepth 100000 in
end
section
variable {X:Cx}
end
end L2
namespace Att
open PySem PySem.W PySem.Calls PyProof.Rows
theorem Z4F {P:Params} {h:Heap}:∀ (ns:List Int) (vs:List Value),WellAll P h vs (ns.map WData.int)→IntsAre vs ns:=by
  intro ns
  induction ns with
  | nil=>
    intro vs w
    rw [List.map_nil] at w
    cases w
    exact .nil
  | cons n ns ih=>
    intro vs w
    rw [List.map_cons] at w
    cases w with
    | cons a b=>
      cases a
      exact .cons _ _ (ih _ b)
theorem J1d {l:OpenLaw} {n:Nat} (hn:l.most=some n) {P:Params} {h:Heap} {args:List WData} {vals:List Value}
    (hpre:l.row.toRowW.claim.pre args=true) (hwl:WellAll P h vals args) :
    ∃ a vs ns,vals=[Value.ref a]∧args=[WData.list (ns.map WData.int)]∧h.get? a=some { cls:=.type "list",data:=.seq vs.toArray }∧IntsAre vs ns∧ns.length≤n:=by
  have hsh:WShape.hasAll [] args [.list .int]=true:=(pre_splitW hpre).1
  have hc:l.pre.holds [] { args:=args }=true:=(pre_splitW hpre).2
  obtain ⟨d,r,rfl,h1,h2⟩:=hasAllW_cons hsh
  obtain rfl:=hasAllW_nil h2
  obtain ⟨xs,rfl,h3⟩:=hasW_list h1
  obtain ⟨ns,rfl⟩:=items_int h3
  have hlen:ns.length≤n:=by
    unfold OpenLaw.pre at hc
    have h4:(WTm.not (.lt (.lit (.int (n:Int))) (.len (.arg 0)))).holds [] { args:=[.list (ns.map .int)] }=true:=by
      have h4:=(holds_andW hc).1
      rw [hn] at h4
      exact h4
    have h5:=condW_of h4 (w_not (w_lt w_lit (w_len_list (w_arg rfl))))
    rw [List.length_map] at h5
    refine Nat.le_of_not_lt fun q=>?_
    have q':(n:Int) < ((ns.length:Nat):Int):=by omega
    first
      | (rw [decide_eq_true q'] at h5; exact absurd h5 (by decide))
      | (simp at h5; omega)
  cases hwl with
  | cons w1 w2=>
    cases w2
    cases w1 with
    | list ho hall=>exact ⟨_,_,ns,rfl,rfl,ho,Z4F ns _ hall,hlen⟩
theorem J0v (l:OpenLaw) (args:List WData):l.row.toRowW.claim.post args (.bool true) args=true:=
  postW_of (r:=l.row.toRowW) (X:=(true == true))
    (show WShape.has [] (.bool true) .bool=true by first | rfl | decide | simp [WShape.has,WShape.arms,WShape.armsAll])
    (show (WTm.eq .res (.lit (.bool true))).value [] { args:=args,res:=some (.bool true),after:=args }=some (.bool (true == true)) from w_eq_bool (w_res rfl) w_lit) rfl
theorem attach_call {l:OpenLaw} {n:Nat} {q:Program} {loose:List Str} {XP:(Str→Option Value)→Heap→Prop} {YP:World→Heap→Prop} {d:DefRec}
    (hn:l.most=some n) (hdf:d.params.defaults=[])
    (call:∀ (w:World) (s₀ s₁:Shared) (mg mb:Str→Option Value) (fa:Addr) (o:Obj) (pm cd doc:Value) (a:Addr) (vs:List Value) (ns:List Int),
      Ground q loose [] XP w s₀ mg mb s₁.heap→YP w s₁.heap →
      s₁.heap.get? fa=some o→o.data=.func (docDef d.name d.params d.body d.scope pm cd doc)→s₁.heap.CodeRec cd d.name→mg d.name=some (.ref fa) →
      s₁.heap.get? a=some { cls:=.type "list",data:=.seq vs.toArray }→IntsAre vs ns→ns.length≤n→s₁.gens=#[] →
      codeAny (model l.prog w) callerA (.call (.ref fa) ⟨[.ref a],[]⟩) (fun r s'=>r=.ok (.ret (.bool true))∧OldK s₁.heap s'.heap∧s'.os=s₁.os∧AllBare s'.gens) s₁) :
    WalkO q loose XP YP l.row.toRowW d [] (fun f vs=>PySem.call f vs):=by
  intro w s₀ s₁ mg mb G Y fa o pm cd doc dV kV ho hd hcd hD hmg hg args vals as hpre hlay hrd hwl hlo
  obtain rfl:dV=.none:=Dflts.none hD hdf
  obtain rfl:kV=.none:=Dflts.noKw hD
  obtain ⟨a,vs,ns,rfl,rfl,hobj,hints,hlen⟩:=J1d hn hpre hwl
  refine enter_call (codeAny_mono (call w s₀ s₁ mg mb fa o pm cd doc a vs ns G Y ho (fd_plain hd) hcd hmg hobj hints hlen hg) fun r s' hq=>?_)
  obtain ⟨rfl,h2,h3,h4⟩:=hq
  exact ⟨.inl ⟨.bool true,.bool true,[],rfl,fun _=>rfl,.bool true,J0v l _,fun _=>⟨List.Pairwise.nil,fun _ hm=>(nomatch hm)⟩⟩,h2,h3,h4⟩
section
variable {prog:Program} {w:World} {A:Around} {E:Value→Shared→Prop} {s:Shared} {K:Frag}
def J9H (h:Heap) (L d:Addr):List (Addr×Obj):=(List.range h.objs.size).filterMap fun a=>if a=L∨a=d then none else (h.get? a).map fun o=>(a,o)
end
end Att
namespace L2
open PySem PySem.Spec PyProof.Rows
theorem Z6X:∀ {vs:List Value} {ns:List Int},IntsAre vs ns→Vals (ns.map V.int) vs
  | _,_,.nil=>.nil
  | _,_,.cons n t h=>.cons ⟨t,rfl⟩ (Z6X h)
def Only (H:Hp):Prop:=∀ b,H b=none∨∃ o xs,H b=some (.frz o (.lst xs))
theorem J2q {P:Program} {w:World} {K:W.Frag} {mg mb:Str→Option Value} {CX:CXT} {k:Nat} {fa a:Addr} {fd:FuncData} {x:Str} {sp:Sp} {s₁:Shared} {vs:List Value} {ns:List Int}
    (KX:K.In s₁.heap) (hns:s₁.heap.Ns mainGlobals mg) (hb:s₁.heap.Ns builtinsNs mb) (hbb:∀ x:Str,x≠"__name__"→mb x=bootBuiltins x) (hlim:s₁.heap.NoLimit) (hg:s₁.gens=#[])
    (ha:s₁.heap.get? a=some { cls:=.type "list",data:=.seq vs.toArray }) (hi:IntsAre vs ns) (hl:ns.length≤sizeLine) (hr:Room k callerA)
    (F:∀ base:Heap,K.In base→base.Ns mainGlobals mg→FnOk P w K mg base CX k fa fd [x] sp) (hbind:∀ (s:Shared) (u:Value),BindsTo s fd ⟨[u],[]⟩ [(x,u)])
    (hsp:∀ H:Hp,Only H→SqL K H a (ns.map V.int)→sp [.ref a] H (fun v _=>v=.bl true) fun _ _ _=>False)
    (hCX:∀ H e s',CX [] H s₁ (fun _ _ _=>False) e s'→False) :
    codeAny (model P w) callerA (.call (.ref fa) ⟨[.ref a],[]⟩) (fun r s'=>r=.ok (.ret (.bool true))∧OldK s₁.heap s'.heap∧s'.os=s₁.os∧AllBare s'.gens) s₁:=by
  have rv:=Z6X hi
  have lenV:=hi.length
  -- from an abstract heap in which nothing but the script may be tracked
  have core:∀ H:Hp,Only H→SqL K H a (ns.map V.int)→HOk P w H s₁.heap→(∀ b,H b≠none→b=a)→(H a≠none→K.lookup a=none) →
      codeAny (model P w) callerA (.call (.ref fa) ⟨[.ref a],[]⟩) (fun r s'=>r=.ok (.ret (.bool true))∧OldK s₁.heap s'.heap∧s'.os=s₁.os∧AllBare s'.gens) s₁:=by
    intro H hO hS hok hA hK
    have base_of:∀ {b:Addr} {o:Obj},s₁.heap.get? b=some o→H b=none→(hidT s₁.heap H).get? b=some o:=fun e n=>J2i e n
    have noA:∀ {b:Addr} {o:Obj} {es:Array DictEntry} {ep:Nat},s₁.heap.get? b=some o→o.data=.dict es ep→H b=none:=fun {b o es ep} e d=>by
      cases q:H b with
      | none=>rfl
      | some u=>
        have e':b=a:=hA b (by rw [q]; simp)
        subst e'
        rw [ha] at e; cases e
        have d':Data.seq vs.toArray _=Data.dict es ep:=d
        cases d'
    have nsK:∀ {b:Addr} {m:Str→Option Value},s₁.heap.Ns b m→(hidT s₁.heap H).Ns b m:=fun {b m} ⟨o,es,ep,e,d,r⟩=>⟨o,es,ep,base_of e (noA e d),d,r⟩
    have hKb:K.In (hidT s₁.heap H):=fun b o e=>base_of (KX b o e) (by
      cases q:H b with
      | none=>rfl
      | some u=>
        have e':b=a:=hA b (by rw [q]; simp)
        subst e'
        rw [hK (by rw [q]; simp)] at e; cases e)
    have hM:Mod K mg (hidT s₁.heap H):=⟨hKb,nsK hns,⟨mb,nsK hb,hbb⟩,let ⟨mc,h1,h2⟩:=hlim; ⟨mc,nsK h1,h2⟩⟩
    have e0:Env0 P w K mg (hidT s₁.heap H) callerA [] s₁ H:=⟨rfl,hM,fun b o e=>J5q e,Nat.le_of_eq (J0n _ _),trivial,fun b hb=>absurd (show b∈([]:List Addr) from hb) (by simp),hok,.of_eq hg⟩
    refine codeAny_mono ((F _ hKb (nsK hns)).run callerA [] s₁ H ⟨[.ref a],[]⟩ [.ref a] [.ref a] _ _ hr e0 (hbind s₁ (.ref a)) (.cons rfl .nil) (hsp H hO hS)) fun r s' h=>?_
    cases r with
    | error e=>exact (hCX H e s' h).elim
    | ok fl=>
      cases fl with
      | next=>exact False.elim h
      | brk=>exact False.elim h
      | cont=>exact False.elim h
      | ret u=>
        obtain ⟨v,H',os,bare,un,hok',r',q⟩:=h
        have q':v=.bl true:=q
        subst q'
        obtain rfl:u=Value.bool true:=r'
        refine ⟨rfl,OldK.of_keep fun b o e=>?_,os,bare⟩
        cases q:H b with
        | none=>exact un.keep b o e q (by intro z; exact absurd (show b∈([]:List Addr) from z) (by simp)) (by simp)
        | some u=>
          rcases hO b with z | ⟨ob,xs,z⟩
          · rw [q] at z; cases z
          · have z2:=un.frzs b ob _ z
            obtain ⟨e1,_⟩:=hok b _ z
            obtain ⟨e2,_⟩:=hok' b _ z2
            rw [e] at e1; cases e1
            exact e2
  cases hk:K.lookup a with
  | some o=>
    -- the script is one of the module's own objects
    have e:=KX a o hk
    rw [ha] at e
    cases e
    refine core (fun _=>none) (fun _=>.inl rfl) (.inr ⟨_,vs.toArray,_,hk,rfl,rfl,rfl,by rw [List.size_toArray,lenV]; exact hl,by simpa using rv⟩) (fun b u z=>by have z':(none:Option HO)=some u:=z; cases z') (fun b z=>absurd rfl z) fun z=>absurd rfl z
  | none=>
    refine core (fun b=>if b=a then some (.frz { cls:=.type "list",data:=.seq vs.toArray } (.lst (ns.map V.int))) else none) (fun b=>?_) (.inl (.inr ⟨{ cls:=.type "list",data:=.seq vs.toArray },if_pos rfl⟩)) (fun b u z=>?_) (fun b z=>?_) fun _=>hk
    · by_cases hb:b=a
      · exact .inr ⟨_,_,if_pos hb⟩
      · exact .inl (if_neg hb)
    · by_cases hb:b=a
      · have z':=(if_pos hb).symm.trans z
        cases z'
        subst hb
        exact ⟨ha,by rw [List.length_map]; exact hl,vs,_,rv,ha⟩
      · have z':=(if_neg hb).symm.trans z
        cases z'
    · by_cases hb:b=a
      · exact hb
      · exact absurd (if_neg hb) z
end L2
namespace L2
open PySem PySem.Spec PyProof.Rows
abbrev KOf {K:W.Frag} {h:Heap} (_:K.In h):W.Frag:=K
theorem J5g {l:W.OpenLaw} {n k:Nat} {q:Program} {loose:List Str} {XP:(Str→Option Value)→Heap→Prop} {YP:World→Heap→Prop} {d:DefRec} {K:Params→W.Frag} {CX:World→CXT} {sp:World→Sp} {x:Str}
    (hn:l.most=some n) (hn2:n≤sizeLine) (hdf:d.params.defaults=[]) (hr:Room k callerA)
    (hY:∀ (w:World) (h:Heap),YP w h→(K w.params).In h)
    (F:∀ (w:World) (mg:Str→Option Value) (fa:Addr) (h:Heap),(K w.params).In h→h.Ns mainGlobals mg→mg d.name=some (.ref fa) →
      ∃ fd:FuncData,(∀ (s:Shared) (u:Value),BindsTo s fd ⟨[u],[]⟩ [(x,u)]) ∧
        ∀ base:Heap,(K w.params).In base→base.Ns mainGlobals mg→FnOk l.prog w (K w.params) mg base (CX w) k fa fd [x] (sp w))
    (hsp:∀ (w:World) (H:Hp) (a:Addr) (ns:List Int),ns.length≤n→Only H→SqL (K w.params) H a (ns.map V.int)→sp w [.ref a] H (fun v _=>v=.bl true) fun _ _ _=>False)
    (hCX:∀ (w:World) (H:Hp) (s:Shared) (e:Value) (s':Shared),CX w [] H s (fun _ _ _=>False) e s'→False) :
    W.WalkO q loose XP YP l.row.toRowW d [] (fun f vs=>PySem.call f vs):=by
  refine Att.attach_call hn hdf fun w s₀ s₁ mg mb fa o pm cd doc a vs ns G Y ho hd hcd hmg hobj hints hlen hg=>?_
  have KX:=hY w _ Y
  obtain ⟨fd,hb,hF⟩:=F w mg fa _ KX G.T.g hmg
  exact J2q KX G.T.g G.T.b G.T.builtins G.T.nolimit hg hobj hints (Nat.le_trans hlen hn2) hr hF hb (fun H hO hS=>hsp w H a ns hlen hO hS) fun H e s'=>hCX w H s₁ e s'
theorem J2j {l:W.OpenLaw} {n k:Nat} {q:Program} {loose:List Str} {XP:(Str→Option Value)→Heap→Prop} {YP:World→Heap→Prop} {d:DefRec} {K:Params→W.Frag} {CX:CXT} {sp:W.Frag→Sp} {x:Str}
    (hn:l.most=some n) (hn2:n≤sizeLine) (hdf:d.params.defaults=[]) (hr:Room k callerA)
    (hY:∀ (w:World) (h:Heap),YP w h→(K w.params).In h)
    (F:∀ (w:World) (mg:Str→Option Value) (fa:Addr) (h:Heap),(K w.params).In h→h.Ns mainGlobals mg→mg d.name=some (.ref fa) →
      ∃ fd:FuncData,(∀ (s:Shared) (u:Value),BindsTo s fd ⟨[u],[]⟩ [(x,u)]) ∧
        ∀ base:Heap,(K w.params).In base→base.Ns mainGlobals mg→FnOk l.prog w (K w.params) mg base CX k fa fd [x] (sp (K w.params)))
    (hsp:∀ (K:W.Frag) (H:Hp) (a:Addr) (ns:List Int),ns.length≤n→Only H→SqL K H a (ns.map V.int)→sp K [.ref a] H (fun v _=>v=.bl true) fun _ _ _=>False)
    (hCX:∀ (H:Hp) (s:Shared) (e:Value) (s':Shared),CX [] H s (fun _ _ _=>False) e s'→False) :
    W.WalkO q loose XP YP l.row.toRowW d [] (fun f vs=>PySem.call f vs):=
  J5g (K:=K) (CX:=fun _=>CX) (sp:=fun w=>sp (K w.params)) hn hn2 hdf hr hY F (fun w H a ns h1 h2 h3=>hsp (K w.params) H a ns h1 h2 h3) fun _ H s e s'=>hCX H s e s'
end L2
namespace L2
open PySem PySem.Spec PyProof.Rows
abbrev CX0:CXT:=fun _ _ _ _ _ _=>False
abbrev E0:XK:=fun _ _ _=>False
theorem Z8V {X:Cx}:Z4g CX0 X E0:=fun _ _ _ _ _ _ _ h=>h.elim
structure Fun (K:W.Frag) (x qual:Str) (st:Stmt) (f:Addr) (fd:FuncData):Prop where
  ex:∃ (oc:Value) (od:Option Addr) (kV doc pm:Value) (an:Option Addr) (cdv ct:Value) (osl:Array (Option Value)),
    fd=W.fnOf x qual (Z0n st) (Z0l st) (Z0d st) .none kV doc pm an cdv ct∧K.lookup f=some ⟨oc,od,.func fd,osl⟩∧W.codeIn K cdv qual=true
  kp:W.keepIn K (.ref f)=true
section
variable {P:Program} {w:World} {K:W.Frag} {mg:Str→Option Value} {base:Heap}
theorem Fun.ok {x qual:Str} {st:Stmt} {f:Addr} {fd:FuncData} {N ps:List Str} {k:Nat} {sp:Sp} (F:Fun K x qual st f fd) (S:Z0o N ps (Z0d st)) (len:∀ vs H Q E,sp vs H Q E→vs.length=ps.length)
    (hbody:∀ (cdv:Value) (A:Around) (outer:List Env) (s:Shared) (H:Hp) (vs:List V) (Q:VK) (E:XK),Room k (A.deeper (envOfC qual (Z0d st) s.heap.objs.size f cdv))→sp vs H Q E →
      ∃ t,PSs (cxOf CX0 P w K mg base N qual (Z0d st) f cdv A outer s H E).nox (Z0l st) t∧t { nx:=fun _ H'=>Q .non H',rt:=Q } (Z4U N vs) H):FnOk P w K mg base CX0 (k+1) f fd ps sp:=by
  obtain ⟨oc,od,kV,doc,pm,an,cdv,ct,osl,rfl,lk,hcd⟩:=F.ex
  refine J5X lk hcd S len fun A outer s H vs Q E hr hsp=>?_
  obtain ⟨t,h,q⟩:=hbody cdv A outer s H vs Q E hr hsp
  exact ⟨t,h.nox,q⟩
theorem Fun.binds {x qual:Str} {st:Stmt} {f:Addr} {fd:FuncData} {ps:List Str} (F:Fun K x qual st f fd)
    (h:∀ (kV doc pm:Value) (an:Option Addr) (cdv ct:Value) (us:List Value),us.length=ps.length→bindArgs (W.fnOf x qual (Z0n st) (Z0l st) (Z0d st) .none kV doc pm an cdv ct) ⟨us,[]⟩=pure (ps.zip us)):Binds K fd ps []:=by
  obtain ⟨oc,od,kV,doc,pm,an,cdv,ct,osl,rfl,lk,hcd⟩:=F.ex
  exact .all (h kV doc pm an cdv ct)
theorem J3Q {x qual:Str} {st:Stmt} {f:Addr} {oc:Value} {od an:Option Addr} {osl:Array (Option Value)} {kV doc pm cdv ct:Value} (l:K.lookup f=some ⟨oc,od,.func (W.fnOf x qual (Z0n st) (Z0l st) (Z0d st) .none kV doc pm an cdv ct),osl⟩)
    (c:W.codeIn K cdv qual=true) (k:W.keepIn K (.ref f)=true):Fun K x qual st f (W.fnOf x qual (Z0n st) (Z0l st) (Z0d st) .none kV doc pm an cdv ct):=⟨⟨oc,od,kV,doc,pm,an,cdv,ct,osl,rfl,l,c⟩,k⟩
end
theorem Z2T {A:Around} {k:Nat} (hr:Room k A):A.units+1 < cLine:=Nat.lt_of_le_of_lt (Nat.add_le_add_left (by decide:1≤64) _) hr.units
section
variable {X:Cx}
end
theorem iteT {A B:Prop} (h:A):if true=true then A else B:=by
  rw [if_pos rfl]
  exact h
theorem ite2 {c A B:Prop} [Decidable c] (h1:c→A) (h2:¬ c→B):if c then A else B:=by
  by_cases h:c
  · rw [if_pos h]
    exact h1 h
  · rw [if_neg h]
    exact h2 h
def Same (H H':Hp):Prop:=∀ b o,H b=some o→H' b=some o
theorem Same.refl (H:Hp):Same H H:=fun _ _ h=>h
theorem Same.trans {H H1 H2:Hp} (a:Same H H1) (b:Same H1 H2):Same H H2:=fun c o h=>b c o (a c o h)
theorem Same.free {H H':Hp} (e:Same H H') {l:Addr} (h:H' l=Option.none):H l=Option.none:=by
  cases q:H l with
  | none=>rfl
  | some o=>
    rw [e l o q] at h
    cases h
theorem Same.seq {K:W.Frag} {H H':Hp} {a:Addr} {xs:List V} (e:Same H H') (h:SqL K H a xs):SqL K H' a xs:=by
  rcases h with (h | ⟨o,h⟩) | h
  · exact .inl (.inl (e _ _ h))
  · exact .inl (.inr ⟨o,e _ _ h⟩)
  · exact .inr h
end L2
end
section
namespace L2
open PySem PySem.Spec PyProof.Rows PySem.SeqAt
mutual
inductive RdD (K:W.Frag) (H:Hp):V→PyData→Prop
  | non:RdD K H .non .none
  | bl (b:Bool):RdD K H (.bl b) (.bool b)
  | int (i:Int):RdD K H (.int i) (.int i)
  | str (x:Str):RdD K H (.str x) (.str x)
  | lst {a:Addr} {xs:List V} {ds:List PyData}:SqL K H a xs→RdDs K H xs ds→RdD K H (.ref a) (.list ds)
  | tup {a:Addr} {xs:List V} {ds:List PyData}:SqT K H a xs→RdDs K H xs ds→RdD K H (.ref a) (.tuple ds)
inductive RdDs (K:W.Frag) (H:Hp):List V→List PyData→Prop
  | nil:RdDs K H [] []
  | cons {x:V} {xs:List V} {d:PyData} {ds:List PyData}:RdD K H x d→RdDs K H xs ds→RdDs K H (x::xs) (d::ds)
end
section
variable {X:Cx} {pins:List (Addr×Obj)} {σ:St} {H:Hp} {s:Shared}
mutual
theorem RdD.reads (I:Inv X pins σ H s):∀ {x:V} {d:PyData} {v:Value},RdD X.K H x d→RelV x v→∃ as,Reads s.heap v d as
  | _,_,_,.non,r=>by cases (show _=Value.none from r); exact ⟨_,.none⟩
  | _,_,_,.bl b,r=>by cases (show _=Value.bool b from r); exact ⟨_,.bool b⟩
  | _,_,_,.int i,r=>by obtain ⟨t,e⟩:=(show ∃ t,_=Value.int i t from r); subst e; exact ⟨_,.int i t⟩
  | _,_,_,.str x,r=>by obtain ⟨t,e⟩:=(show ∃ t,_=Value.str x t from r); subst e; exact ⟨_,.str x t⟩
  | _,_,_,.lst (a:=a) hq hs,r=>by
    cases (show _=Value.ref a from r)
    obtain ⟨its,rv,pl,_⟩:=I.list hq
    obtain ⟨as,ra⟩:=RdDs.reads I hs rv
    obtain ⟨o,ho,hc,n,hd⟩:=pl.isList
    exact ⟨_,.list ho hc hd (by simpa using ra)⟩
  | _,_,_,.tup (a:=a) hq hs,r=>by
    cases (show _=Value.ref a from r)
    obtain ⟨its,rv,pl,_⟩:=I.tuple hq
    obtain ⟨as,ra⟩:=RdDs.reads I hs rv
    obtain ⟨o,ho,hc,n,hd⟩:=pl
    exact ⟨_,.tuple ho hc hd (by simpa using ra)⟩
theorem RdDs.reads (I:Inv X pins σ H s):∀ {xs:List V} {ds:List PyData} {vs:List Value},RdDs X.K H xs ds→Vals xs vs→∃ as,ReadsAll s.heap vs ds as
  | _,_,_,.nil,.nil=>⟨_,.nil⟩
  | _,_,_,.cons hd ht,.cons r rr=>by
    obtain ⟨as,ra⟩:=RdD.reads I hd r
    obtain ⟨bs,rb⟩:=RdDs.reads I ht rr
    exact ⟨_,.cons ra rb⟩
end
def rEqD (K:W.Frag):R2:=fun x y H Q=>∃ d e,RdD K H x d∧RdD K H y e∧shaped d=true∧shaped e=true∧Q (.bl (PyData.eqv d e)) H
def rNeD (K:W.Frag):R2:=fun x y H Q=>∃ d e,RdD K H x d∧RdD K H y e∧shaped d=true∧shaped e=true∧Q (.bl (!PyData.eqv d e)) H
end
end L2
end
section
namespace L2
open PySem PySem.Spec PyProof.Rows PySem.SeqAt
def Z4W (K:W.Frag):List V→Hp→VK→Prop:=fun xs H Q=>∃ a d,xs=[.ref a]∧RdD K H (.ref a) d∧d.showable=true∧d.hasDict=false∧d.depth≤60∧d.shown.length≤sizeLine∧Q (.str d.shown) H
theorem Z2F {X:Cx} (hg:X.A.guards=some []) (hu:X.A.units+64 < cLine):Z4q X (.builtin "repr") (Z4W X.K):=by
  intro pins s σ H xs us Q I rs h
  obtain ⟨a,d,rfl,hr,hs,hd,hz,hl,q⟩:=h
  obtain ⟨u,rfl,ru⟩:=rs.one
  obtain rfl:u=Value.ref a:=ru
  obtain ⟨as,ra⟩:=RdD.reads I hr rfl
  exact repr_of_reads' ra hs (fun z=>by rw [hd] at z; cases z) hg (by omega) (fun _ _ e=>e) (fun h' u tk k=>⟨.str d.shown,H,I.kept k,⟨_,rfl⟩,q⟩) hl
end L2
end
section
namespace L2
open PySem PySem.Spec PyProof.Rows PySem.SeqAt
theorem J2b {K:W.Frag} {H H':Hp} {a:Addr} {xs:List V} (h:SqT K H a xs) (e:Same H H'):SqT K H' a xs:=by
  rcases h with (h | ⟨o,h⟩) | h
  · exact .inl (.inl (e _ _ h))
  · exact .inl (.inr ⟨o,e _ _ h⟩)
  · exact .inr h
mutual
theorem RdD.same {K:W.Frag} {H H':Hp} (e:Same H H'):∀ {v:V} {d:PyData},RdD K H v d→RdD K H' v d
  | _,_,.non=>.non
  | _,_,.bl b=>.bl b
  | _,_,.int i=>.int i
  | _,_,.str x=>.str x
  | _,_,.lst hq hs=>.lst (e.seq hq) (RdDs.same e hs)
  | _,_,.tup hq hs=>.tup (J2b hq e) (RdDs.same e hs)
theorem RdDs.same {K:W.Frag} {H H':Hp} (e:Same H H'):∀ {v:List V} {d:List PyData},RdDs K H v d→RdDs K H' v d
  | _,_,.nil=>.nil
  | _,_,.cons h hs=>.cons (RdD.same e h) (RdDs.same e hs)
end
end L2
end
section
namespace L2
open PySem PySem.Spec PyProof.Rows
def Cx.block (X:Cx) (N:List Str) (scope:Scope) (cl:List (Str×Addr)) (C:Addr) (fp:List Addr) (s:Shared) (H:Hp):Cx:=
  { X with N:=N,s₀:=s,H₀:=H,env:=compEnvC scope cl C X.env,outer:=X.stack,stack:=X.stack,ex:=fp,fn:=fun _=>false,pn:=[],xe:=fun _ _=>False }
structure BlockOk (X:Cx) (N:List Str) (nl:List (Option Nat)) (scope:Scope) (cl:List (Str×Addr)):Prop where
  kind:scope.kind=.function
  nocell:∀ y∈scope.names,y.2≠.cell
  names:∀ y∈scope.names,y.2=.local→scope.names.lookup y.1=some .local
  clos:closureFor scope X.env=pure cl
  sub:∀ y c,cl.lookup y=some c→X.env.cells.lookup y=some c
  has:∀ y,scope.names.lookup y=some .free→∃ c,cl.lookup y=some c
  len:nl.length=N.length
  seen:∀ (i j:Nat) (y:Str),N[i]?=some y→nl[i]?=some (some j)→X.N[j]?=some y∧scope.names.lookup y=some .free∧(X.env.scope.names.lookup y=some .cell∨X.env.scope.names.lookup y=some .free)
def stOf (nl:List (Option Nat)) (σ:St):St:=nl.map fun o=>match o with
  | none=>none
  | some j=>(σ[j]?).join
theorem Z1H {x:Str} {k:NameKind}:∀ {l:List (Str×NameKind)},l.lookup x=some k→(x,k)∈l
  | [],h=>by simp at h
  | (n,q)::r,h=>by
    rw [List.lookup_cons] at h
    cases e:x == n with
    | true=>
      rw [e] at h
      have:q=k:=by simpa using h
      have e':x=n:=by simpa using e
      rw [this,e']
      exact List.mem_cons_self
    | false=>
      rw [e] at h
      exact List.mem_cons_of_mem _ (Z1H h)
theorem Z3c {env:Env} {x:Str} {k:NameKind}:∀ {l:List (Str×NameKind)},
    (l.map fun (n,k)=>if (k == NameKind.free&&env.scope.kind == .function&&env.kindOf n == some .cell) then (n,NameKind.cell) else (n,k)).lookup x=some k →
      (l.lookup x=some k∨(k=.cell∧l.lookup x=some .free))
  | [],h=>by simp at h
  | (n,q)::r,h=>by
    rw [List.map_cons] at h
    cases e:x == n with
    | true=>
      by_cases hc:(q == NameKind.free&&env.scope.kind == .function&&env.kindOf n == some .cell)=true
      · simp only [hc,if_true,List.lookup_cons,e] at h
        have hq:q=.free:=by
          rw [Bool.and_eq_true,Bool.and_eq_true] at hc
          simpa using hc.1.1
        refine .inr ⟨(by simpa using h.symm),?_⟩
        rw [List.lookup_cons,e,hq]
      · change List.lookup x ((if (q == NameKind.free&&env.scope.kind == .function&&env.kindOf n == some .cell)=true then (n,NameKind.cell) else (n,q))::_)=some k at h
        rw [if_neg hc,List.lookup_cons,e] at h
        refine .inl ?_
        rw [List.lookup_cons,e]
        exact h
    | false=>
      have h':(r.map fun (n,k)=>if (k == NameKind.free&&env.scope.kind == .function&&env.kindOf n == some .cell) then (n,NameKind.cell) else (n,k)).lookup x=some k:=by
        by_cases hc:(q == NameKind.free&&env.scope.kind == .function&&env.kindOf n == some .cell)=true
        · simpa only [hc,if_true,List.lookup_cons,e] using h
        · simpa only [hc,List.lookup_cons,e,if_false,Bool.false_eq_true] using h
      have ih:=Z3c (env:=env) h'
      rw [List.lookup_cons,e]
      exact ih
theorem Z4f {env:Env} {x:Str}:∀ {l:List (Str×NameKind)},l.lookup x=some .free →
    (l.map fun (n,k)=>if (k == NameKind.free&&env.scope.kind == .function&&env.kindOf n == some .cell) then (n,NameKind.cell) else (n,k)).lookup x=some .cell ∨
    (l.map fun (n,k)=>if (k == NameKind.free&&env.scope.kind == .function&&env.kindOf n == some .cell) then (n,NameKind.cell) else (n,k)).lookup x=some .free
  | [],h=>by simp at h
  | (n,q)::r,h=>by
    rw [List.map_cons]
    cases e:x == n with
    | true=>
      rw [List.lookup_cons,e] at h
      have hq:q=.free:=by simpa using h
      by_cases hc:(q == NameKind.free&&env.scope.kind == .function&&env.kindOf n == some .cell)=true
      · left; simp only [hc,if_true,List.lookup_cons,e]
      · right
        change List.lookup x ((if (q == NameKind.free&&env.scope.kind == .function&&env.kindOf n == some .cell)=true then (n,NameKind.cell) else (n,q))::_)=some .free
        rw [if_neg hc,List.lookup_cons,e,hq]
    | false=>
      rw [List.lookup_cons,e] at h
      have ih:=Z4f (env:=env) (l:=r) h
      by_cases hc:(q == NameKind.free&&env.scope.kind == .function&&env.kindOf n == some .cell)=true
      · simpa only [hc,if_true,List.lookup_cons,e] using ih
      · simpa only [hc,List.lookup_cons,e,if_false,Bool.false_eq_true] using ih
section
variable {X:Cx} {pins:List (Addr×Obj)} {σ:St} {H:Hp} {s:Shared} {N:List Str} {nl:List (Option Nat)} {scope:Scope} {cl:List (Str×Addr)} {fp:List Addr}
theorem Z9o (I:Inv X pins σ H s) (B:BlockOk X N nl scope cl) (hf:∀ b∈fp,FpOk X pins H b) (hob:∀ b∈fp,b < s.heap.objs.size) {C:Addr} (hC:s.heap.objs.size≤C):(X.block N scope cl C fp s H).Ok:=by
  have stk:∀ b∈frs X.stack,b=X.env.locals∨b∈X.fs:=fun b hb=>List.mem_cons.mp (I.stkSub b hb)
  refine ⟨I.ok.mod,B.kind,I.ok.glob,I.ok.blt,hC,fun x y c h1 h2=>I.ok.inj x y c (B.sub x c h1) (B.sub y c h2),fun x hx=>?_,fun x c h=>(nomatch h),I.ok.hd,I.ok.frames,.inl rfl,fun b hb=>⟨?_,fun x c e=>?_⟩,
    I.bs,Nat.le_trans I.ok.bsz I.sz,fun b o e hb=>?_,fun b hb hm=>?_,I.stack,I.stkFree⟩
  · have hx':(scope.names.map fun (n,k)=>if (k == NameKind.free&&X.env.scope.kind == .function&&X.env.kindOf n == some .cell) then (n,NameKind.cell) else (n,k)).lookup x=some .cell ∨
        (scope.names.map fun (n,k)=>if (k == NameKind.free&&X.env.scope.kind == .function&&X.env.kindOf n == some .cell) then (n,NameKind.cell) else (n,k)).lookup x=some .free:=hx
    rcases hx' with q | q
    · rcases Z3c q with z | ⟨_,z⟩
      · exact absurd rfl (B.nocell _ (Z1H z))
      · exact B.has x z
    · rcases Z3c q with z | ⟨z,_⟩
      · exact B.has x z
      · cases z
  · exact Nat.ne_of_lt (Nat.lt_of_lt_of_le (hob b hb) hC)
  · exact (hf b hb).2.2.2.2.1 x c (B.sub x c e)
  · rcases (hf b hb).2.2.2.1 with z | z
    · exact I.ok.noex b o e z
    · exact absurd (Nat.lt_of_lt_of_le (Heap.lt_size (I.ok.bs b o e).1) z) (Nat.lt_irrefl _)
  · rcases stk b hm with z | z
    · exact (hf b hb).2.1 z
    · exact (hf b hb).2.2.1 z
theorem J2Y {i:Nat} {v:V} (h:(stOf nl σ)[i]?=some (some v)):∃ j,nl[i]?=some (some j)∧σ[j]?=some (some v):=by
  unfold stOf at h
  rw [List.getElem?_map] at h
  cases e:nl[i]? with
  | none=>rw [e] at h; cases h
  | some o=>
    rw [e] at h
    cases o with
    | none=>cases h
    | some j=>
      refine ⟨j,rfl,?_⟩
      have h':(σ[j]?).join=some v:=by simpa using h
      cases q:σ[j]? with
      | none=>rw [q] at h'; cases h'
      | some o'=>
        rw [q] at h'
        have:o'=some v:=by simpa using h'
        rw [this]
theorem Z7j (I:Inv X pins σ H s) (B:BlockOk X N nl scope cl) (hf:∀ b∈fp,FpOk X pins H b) (hob:∀ b∈fp,b < s.heap.objs.size) {C D:Addr} (hD:D=s.heap.objs.size) (hC:C=s.heap.objs.size+1) {h1:Heap} {tk:Nat} {m:Str→Option Value} {n:Nat}
    (hk:∀ b o,s.heap.get? b=some o→h1.get? b=some o) (hl:h1.get? D=some { cls:=.type "list",data:=.seq ([]:List Value).toArray n }) (hn:h1.Ns C m) :
    Inv (X.block N scope cl C fp s H) [] (stOf nl σ) (upd H D (.lst [])) { s with heap:=h1,toks:=tk }:=by
  have hDn:H D=none:=I.hok.fresh (by rw [hD]; exact Nat.le_refl _)
  have hCD:C≠D:=by rw [hC,hD]; exact Nat.succ_ne_self _
  have hCn:H C=none:=I.hok.fresh (by rw [hC]; exact Nat.le_succ _)
  have cellD:∀ y c,cl.lookup y=some c→c≠D:=fun y c e z=>by
    obtain ⟨v,q⟩:=I.cell y c (B.sub y c e)
    exact absurd q.lt (by rw [z,hD]; exact Nat.lt_irrefl _)
  refine ⟨Z9o I B hf hob (by rw [hC]; exact Nat.le_succ _),rfl,I.bare,Un.laid hk (by rw [hD]; exact Nat.le_refl _) hDn,⟨m,hn,fun i y v e1 e2 _=>?_⟩,fun y c e=>?_,?_,fun y c e=>?_,fun p hp=>absurd hp (by simp [Cx.block]),?_,?_⟩
  · obtain ⟨j,hj,hv⟩:=J2Y e2
    obtain ⟨x1,x2,x3⟩:=B.seen i j y e1 hj
    obtain ⟨m0,hm0,hl0⟩:=I.loc
    obtain ⟨u,r,l⟩:=hl0 j y v x1 hv (.inr x3)
    refine ⟨u,r,?_⟩
    rcases l with ⟨hk1,_⟩ | ⟨_,c,hc,z⟩
    · have hk1':X.env.scope.names.lookup y=some .local:=hk1
      rcases x3 with q | q <;> (rw [hk1'] at q; cases q)
    · refine .inr ⟨Z4f x2,c,?_,z.keeps hk⟩
      obtain ⟨c',hc'⟩:=B.has y x2
      have q:=B.sub y c' hc'
      rw [hc] at q
      cases q
      exact hc'
  · obtain ⟨v,q⟩:=I.cell y c (B.sub y c e)
    exact ⟨v,q.keeps hk⟩
  · show (upd H D (.lst [])) C=none
    rw [Z0j hCD]
    exact hCn
  · rw [Z0j (cellD y c e)]
    exact I.freeC y c (B.sub y c e)
  · exact I.hok.laid hk (by rw [hD]; exact Nat.le_refl _) ⟨Nat.zero_le _,[],n,.nil,hl⟩
  · show (stOf nl σ).length=N.length
    unfold stOf
    rw [List.length_map,B.len]
theorem Z6r {C:Addr} {σ':St} {H':Hp} {s':Shared} {h2:Heap} (I:Inv X pins σ H s) (hf:∀ b∈fp,FpOk X pins H b) (hC:s.heap.objs.size≤C) (J:Inv (X.block N scope cl C fp s H) [] σ' H' s') (hk:∀ b o,b≠C→s'.heap.get? b=some o→h2.get? b=some o) :
    Inv X pins σ H' { s' with heap:=h2 }:=by
  obtain ⟨hp,g,d,t,os⟩:=s'
  have ho:os=s.os:=J.os
  subst ho
  have hCn:H' C=none:=J.free
  have u:=J.base
  have ne:∀ b o,s.heap.get? b=some o→b≠C:=fun b o e=>Nat.ne_of_lt (Nat.lt_of_lt_of_le (Heap.lt_size e) hC)
  have u2:Un (frs X.stack) fp H H' s.heap h2:=
    ⟨fun b o e n hb hx=>hk b o (ne b o e) (u.keep b o e n hb hx),fun b o e n hb hx=>(let ⟨sl,q⟩:=u.slot b o e n hb hx; ⟨sl,hk b _ (ne b o e) q⟩),u.free,fun b o e hx=>(let ⟨o',q⟩:=u.there b o e hx; ⟨o',hk b o' (ne b o e) q⟩),u.tups,u.frzs,u.tbls⟩
  have hok2:HOk X.prog X.w H' h2:=fun b o e=>(J.hok b o e).stay (fun c v hc q=>hk c v (fun z=>by
    subst z
    rcases hc with z | z
    · rw [← z,hCn] at e; cases e
    · rw [hCn] at z; cases z) q) (fun _ q=>q) fun _ _ q=>q
  have z:=I.call (h':=h2) (g':=g) (d':=d) (t':=t) (ch:=fp) u2 hok2 J.bare fun b hb=>(let ⟨_,f1,_,f3,f4,f5⟩:=hf b hb; ⟨f3,f1,f4,f5⟩)
  exact z
end
def PQ (X:Cx) (tst:Env→Sem Bool) (t:TT):Prop:=
  ∀ (pins:List (Addr×Obj)) (s:Shared) (σ:St) (H:Hp) (Q:Bool→Hp→Prop),Inv X pins σ H s→t σ H Q→wpAny (model X.prog X.w) X.A (tst X.env) (TP X pins σ Q) X.xe s
def Z3O:TT:=fun _ H Q=>Q true H
theorem Z9Y {X:Cx}:PQ X (fun _=>pure true) Z3O:=fun _ _ _ H _ I h=>wpAny_pure ⟨H,I,h⟩
def Z5a (J:It) (g:TG) (tc:TT) (te:TE) (D:Addr) (Q:VK) (σ0:St) (H0:Hp):Prop:=∃ W:Nat→Nat→St→Hp→Prop,(∃ m,W 0 m σ0 H0)∧∀ i m σ' H',W i m σ' H' →
  (J.stop i H'∧Q (.ref D) H')∨(J.go i H'∧∃ N:St→Hp→Prop,(∀ σ2 H2,N σ2 H2→∃ m',m' < m∧W (i+1) m' σ2 H2)∧∀ x H2,J.yld i H' x H2→g x σ' H2 fun σ3 H3=>tc σ3 H3 fun b H4=>
    if b=true then te σ3 H4 fun v H5=>∃ xs,H5 D=some (.lst xs)∧xs.length < sizeLine∧N σ3 (upd H5 D (.lst (xs++[v]))) else N σ3 H4)
def J3b (wi:TI) (nl:List (Option Nat)) (g:TG) (tc:TT) (te:TE):TE:=fun σ H Q=>wi σ H fun J H1=>∀ D,H1 D=none→Z5a J g tc te D Q (stOf nl σ) (upd H1 D (.lst []))
theorem Z6A {X:Cx} {N:List Str} {nl:List (Option Nat)} {scope:Scope} {cl:List (Str×Addr)} {elt tg iter:Expr} {ifs:List Expr} {pos:Pos} {wi:TI} {g:TG} {tst:Env→Sem Bool} {tc:TT} {te:TE} (hcalm:X.calm=true)
    (B:BlockOk X N nl scope cl) (hi:PI X tg iter wi) (hg:∀ C fp s H,PG (X.block N scope cl C fp s H) tg g) (ht:∀ C fp s H,PQ (X.block N scope cl C fp s H) tst tc) (he:∀ C fp s H,PE (X.block N scope cl C fp s H) elt te)
    (hturn:∀ (it acc:Value) (env:Env),compTurn (.ListComp elt [⟨tg,iter,ifs,0⟩] scope pos) 0 it acc env=(do
      standAt iter.pos
      match ← pyNext it with
      | none=>pure (.done .next)
      | some v=>
        letOwnedTupleGo tg it v
        assign tg env v
        let ok ← tst env
        if ok then (do
          (do let x ← eval elt env; let _ ← call (.builtin "list.append") [acc,x]; pure ())
          again (.compLoop (.ListComp elt [⟨tg,iter,ifs,0⟩] scope pos) 0 it acc env))
        else again (.compLoop (.ListComp elt [⟨tg,iter,ifs,0⟩] scope pos) 0 it acc env)))
    (hs:∀ x,foldedSetIterable iter X.env x=pure x) {pins:List (Addr×Obj)} {s:Shared} {σ:St} {H:Hp} {Q:VK} (I:Inv X pins σ H s) (h:J3b wi nl g tc te σ H Q) {use:Option (Value→Sem Unit)} {Q':Value→Shared→Prop}
    (hpost:∀ (D C:Addr) (s' s2:Shared) (fp:List Addr) (σ':St) (H' H2:Hp),Inv X pins σ H2 s2→(∀ b∈fp,FpOk X pins H2 b)→s2.heap.objs.size≤C→Inv (X.block N scope cl C fp s2 H2) [] σ' H' s'→Q (.ref D) H' →
      compPost (model X.prog X.w) X.A X.xe use Q' (.ref D) C (.ok .next) s')
    (hpos:Pos) :
    wpAny (model X.prog X.w) X.A (comprehension (.ListComp elt [⟨tg,iter,ifs,0⟩] scope pos) scope X.env hpos (newList []) false (eval iter X.env) use) Q' X.xe s:=by
  refine wpAny_comprehension_free (use:=use) rfl hs B.clos B.kind B.names ?_
  refine thn (hi pins s σ H _ I h) fun v s1 h1=>thn h1 fun itv s2 h2=>?_
  obtain ⟨it,fp,tn,J,H2,e,I2,T,st2,f2,q⟩:=h2
  subst e
  have hob:∀ b∈fp,b < s2.heap.objs.size:=fun b hb=>(let ⟨o,e,_⟩:=T.obj 0 _ st2 b hb; Heap.lt_size e)
  refine wpAny_newObj_type (wpAny_newFunctionEnv B.nocell (by intro y hy; simp at hy) (fun h1 hns hsb=>?_) B.kind)
  dsimp only at hns hsb ⊢
  generalize hD:s2.heap.objs.size=D at hns hsb ⊢
  have hC:(s2.heap.push { cls:=.type "list",dict:=none,data:=.seq ([]:List Value).toArray }).objs.size=s2.heap.objs.size+1:=by rw [Heap.size_push]
  generalize hC':(s2.heap.push { cls:=.type "list",dict:=none,data:=.seq ([]:List Value).toArray }).objs.size=C at hns hsb hC ⊢
  have hDC:D≠C:=by rw [hC,← hD]; exact (Nat.succ_ne_self _).symm
  have lt_ne:∀ b,b < s2.heap.objs.size→b≠C:=fun b hb=>by rw [hC]; exact Nat.ne_of_lt (Nat.lt_succ_of_lt hb)
  have old:∀ b o,s2.heap.get? b=some o→h1.get? b=some o:=fun b o e=>
    hsb.extBut b o (lt_ne b (Heap.lt_size e)) (Heap.get?_push_of_some _ (Heap.get?_push_of_some _ e))
  have hl:h1.get? D=some { cls:=.type "list",data:=.seq ([]:List Value).toArray 0 }:=by
    refine hsb.extBut D _ hDC (Heap.get?_push_of_some _ ?_)
    rw [← hD]
    exact Heap.get?_push_size _ rfl
  have fresh:H2 D=none:=I2.hok.fresh (by rw [hD]; exact Nat.le_refl _)
  obtain ⟨W,⟨m0,w0⟩,turn⟩:=q D fresh
  have hCle:s2.heap.objs.size≤C:=by rw [hC]; exact Nat.le_succ _
  have stat:∀ {H':Hp},(∀ b∈fp,H' b=none)→∀ b∈fp,FpOk (X.block N scope cl C fp s2 H2) [] H' b:=fun hn b hb=>by
    obtain ⟨_,f1,f2',f3,f4,f5⟩:=f2 b hb
    refine ⟨hn b hb,lt_ne b (hob b hb),fun z=>?_,.inl hb,fun x c e=>f4 x c (B.sub x c e),fun p hp=>absurd hp (by simp [Cx.block])⟩
    rcases List.mem_cons.mp (I2.stkSub b z) with z | z
    · exact f1 z
    · exact f2' z
  have main:∀ s4:Shared,(∃ tk,s4={ s2 with heap:=h1,toks:=tk }) →
      codeAny (model X.prog X.w) X.A (.compLoop (.ListComp elt [⟨tg,iter,ifs,0⟩] scope pos) 0 (.ref it) (.ref D) (X.block N scope cl C fp s2 H2).env) (compPost (model X.prog X.w) X.A X.xe use Q' (.ref D) C) s4:=by
    rintro s4 ⟨tk,rfl⟩
    have I3:Inv (X.block N scope cl C fp s2 H2) [] (stOf nl σ) (upd H2 D (.lst [])) { s2 with heap:=h1,toks:=tk }:=Z7j I2 B f2 hob hD.symm hC old hl hns
    refine codeAny_loop rfl (fun n s'=>∃ i σ' H',Inv (X.block N scope cl C fp s2 H2) [] σ' H' s'∧tn i s'.heap∧(∀ b∈fp,H' b=none)∧W i n σ' H') (fun n s5 hI=>?_) m0
      ⟨0,stOf nl σ,_,I3,T.keep 0 _ _ st2 fun b hb o e=>old b o e,fun b hb=>by rw [Z0j (fun z=>absurd (hob b hb) (by rw [z,← hD]; exact Nat.lt_irrefl _))]; exact (f2 b hb).1,w0⟩
    show wpAny _ X.A ((compTurn (.ListComp elt [⟨tg,iter,ifs,0⟩] scope pos) 0 (.ref it) (.ref D) (X.block N scope cl C fp s2 H2).env).onRaise (fun x=>do noteFrame x (X.block N scope cl C fp s2 H2).env; theTreesLotGoes x)) _ _ s5
    refine wpAny_noted ?_
    rw [hturn]
    obtain ⟨i,σ5,H5,I5,st5,fr5,w5⟩:=hI
    have quiet:∀ {α:Type} {t:Sem α} {R:α→Shared→Prop} {E':Value→Shared→Prop} {s':Shared},wpAny (model X.prog X.w) X.A t R (fun _ _=>False) s'→wpAny (model X.prog X.w) X.A t R E' s':=fun hw=>wpAny_mono hw (fun _ _ z=>z) fun _ _ z=>z.elim
    refine wpAny_bind (wpAny_standAt ?_)
    rcases turn i n σ5 H5 w5 with ⟨stop,qn⟩ | ⟨go,Nx,hN,step⟩
    · refine wpAny_bind (quiet (thn (T.done (X.block N scope cl C fp s2 H2) rfl rfl rfl hcalm i [] s5 σ5 H5 (fun _ _=>False) I5 (stat fr5) st5 stop) fun r s6 ⟨hr,I6⟩=>?_))
      subst hr
      exact quiet (wpAny_pure (hpost D C s6 s2 fp σ5 H5 H2 I2 f2 hCle I6 qn))
    · refine wpAny_bind (quiet (thn (T.item (X.block N scope cl C fp s2 H2) rfl rfl rfl hcalm i [] s5 σ5 H5 (fun _ _=>False) I5 (stat fr5) st5 go) fun r s6 ⟨u,hr,h6⟩=>?_))
      subst hr
      refine wpAny_bind (quiet (thn h6 fun _ s7 ⟨x,H7,I7,r7,y7,st7,fr7⟩=>?_))
      have I7':=I7.pinned (stat fr7) (T.obj _ _ st7)
      have again':∀ {σ8:St} {H8:Hp} {s8:Shared},Inv (X.block N scope cl C fp s2 H2) ([]++Z6C fp s7.heap) σ8 H8 s8→Nx σ8 H8→∃ m,m < n∧∃ i σ' H',Inv (X.block N scope cl C fp s2 H2) [] σ' H' s8∧tn i s8.heap∧(∀ b∈fp,H' b=none)∧W i m σ' H':=fun {σ8 H8 s8} I8 n8=>by
        obtain ⟨m',hm,w8⟩:=hN σ8 H8 n8
        refine ⟨m',hm,i+1,σ8,H8,I8.unpinned,T.keep _ _ _ st7 fun b hb o e=>(I8.pin (b,o) (List.mem_append_right _ (List.mem_append_right _ (Z3e hb e)))).1,fun b hb=>?_,w8⟩
        obtain ⟨o,e,_⟩:=T.obj _ _ st7 b hb
        exact (I8.pin (b,o) (List.mem_append_right _ (List.mem_append_right _ (Z3e hb e)))).2.1
      refine wpAny_bind (quiet (thn (hg C fp s2 H2 _ s7 σ5 H7 x u _ I7' r7 (step x H7 y7)) fun _ s8 ⟨σ8,H8,I8,q8⟩=>?_))
      refine wpAny_bind (quiet (thn (ht C fp s2 H2 _ s8 σ8 H8 _ I8 q8) fun b s9 ⟨H9,I9,q9⟩=>?_))
      cases b with
      | false=>exact quiet (wpAny_pure ⟨rfl,again' I9 q9⟩)
      | true=>
        refine wpAny_bind (wpAny_bind (quiet (thn (he C fp s2 H2 _ s9 σ8 H9 _ I9 q9) fun vy s10 hz_=>?_)))
        obtain ⟨y,H10,I10,r10,xs,e10,z10,n10⟩:=hz_
        refine wpAny_bind (quiet (thn (Z1y _ s10 σ8 H10 (.ref D) [y] (.ref D) [vy] (fun _ H'=>Nx σ8 H') I10 rfl (.cons r10 .nil) ⟨D,xs,y,rfl,rfl,e10,z10,n10⟩) fun _ s11 ⟨_,H11,I11,_,q11⟩=>?_))
        exact wpAny_pure (wpAny_pure ⟨rfl,again' I11 q11⟩)
  exact codeAny_compStart_list (main _ ⟨_,rfl⟩) (T.self _ 0 _ _ _ (T.keep 0 _ _ st2 fun b hb o e=>old b o e) (main _ ⟨_,rfl⟩))
section
variable {X:Cx} {N:List Str} {nl:List (Option Nat)} {scope:Scope} {cl:List (Str×Addr)} {elt tg iter:Expr} {pos:Pos} {wi:TI} {g:TG} {tc:TT} {te:TE}
theorem Z8t (it acc:Value) (env:Env):compTurn (.ListComp elt [⟨tg,iter,[],0⟩] scope pos) 0 it acc env=(do
      standAt iter.pos
      match ← pyNext it with
      | none=>pure (.done .next)
      | some v=>
        letOwnedTupleGo tg it v
        assign tg env v
        let ok ← (fun _=>pure true:Env→Sem Bool) env
        if ok then (do
          (do let x ← eval elt env; let _ ← call (.builtin "list.append") [acc,x]; pure ())
          again (.compLoop (.ListComp elt [⟨tg,iter,[],0⟩] scope pos) 0 it acc env))
        else again (.compLoop (.ListComp elt [⟨tg,iter,[],0⟩] scope pos) 0 it acc env)):=by rfl
theorem J0h {pins:List (Addr×Obj)} {σ:St} {Q:VK} (D C:Addr) (s' s2:Shared) (fp:List Addr) (σ':St) (H' H2:Hp) (I2:Inv X pins σ H2 s2) (f2:∀ b∈fp,FpOk X pins H2 b) (hC:s2.heap.objs.size≤C) (J:Inv (X.block N scope cl C fp s2 H2) [] σ' H' s') (q:Q (.ref D) H') :
    compPost (model X.prog X.w) X.A X.xe none (EP X pins σ Q) (.ref D) C (.ok .next) s':=by
  obtain ⟨m,hn,_⟩:=J.loc
  exact ⟨m,hn,fun h' sb=>⟨.ref D,H',Z6r I2 f2 hC J fun b o hb e=>sb.extBut b o hb e,rfl,q⟩⟩
theorem Z2f (hcalm:X.calm=true) (B:BlockOk X N nl scope cl) (hi:PI X tg iter wi) (hg:∀ C fp s H,PG (X.block N scope cl C fp s H) tg g) (he:∀ C fp s H,PE (X.block N scope cl C fp s H) elt te) (hs:∀ x,foldedSetIterable iter X.env x=pure x:=by intro _; rfl) :
    PE X (.ListComp elt [⟨tg,iter,[],0⟩] scope pos) (J3b wi nl g Z3O te):=by
  intro pins s σ H Q I h
  rw [eval_ListComp]
  exact Z6A (tst:=fun _=>pure true) hcalm B hi hg (fun _ _ _ _=>Z9Y) he Z8t hs I h J0h _
end
end L2
end
section
namespace L2
open PySem PySem.Spec PyProof.Rows
def Its (x:Str):It:=⟨fun i _=>i < x.cps.size,fun i H v H'=>H'=H∧∃ c,x.cps[i]?=some c∧v=.str ⟨#[c]⟩,fun i _=>i=x.cps.size⟩
section
variable {X:Cx} {tg:Expr}
end
def Ite (K:W.Frag) (l:Addr):It:=
  ⟨fun i H=>∃ xs x,SqL K H l xs∧xs[i]?=some x,fun i H v H'=>∃ t x,v=.ref t∧H t=none∧H'=upd H t (.tup [.int i,x])∧∀ xs,SqL K H l xs→xs[i]?=some x,fun i H=>∃ xs,SqL K H l xs∧xs.length≤i⟩
section
variable {X:Cx}
def J9w (K:W.Frag) (ta:TA):TI:=fun σ H R=>ta σ H fun vs H1=>∃ a,vs=[.ref a]∧(∃ xs,SqL K H1 a xs)∧R (Ite K a) H1
end
end L2
namespace L2
open PySem PySem.Spec PyProof.Rows
end L2
end
section
namespace L2
open PySem PySem.Spec PyProof.Rows
theorem BlockOk.plain {X:Cx} {N:List Str} {scope:Scope} (kind:scope.kind=.function) (nocell:∀ y∈scope.names,y.2≠.cell) (names:∀ y∈scope.names,y.2=.local→scope.names.lookup y.1=some .local) (nofree:∀ y∈scope.names,y.2≠.free) :
    BlockOk X N (N.map fun _=>none) scope [] where
  kind:=kind
  nocell:=nocell
  names:=names
  clos:=closureFor_none nofree
  sub:=fun y c h=>by simp at h
  has:=fun y h=>absurd rfl (nofree _ (Z1H h))
  len:=by simp
  seen:=fun i j y _ h=>by
    rw [List.getElem?_map] at h
    cases q:N[i]? with
    | none=>rw [q] at h; cases h
    | some z=>rw [q] at h; cases h
end L2
end
section
namespace L2
open PySem PySem.Spec PyProof.Rows
theorem BlockOk.of {X:Cx} {N:List Str} {nl:List (Option Nat)} {scope:Scope} {cl:List (Str×Addr)} (kind:scope.kind=.function) (nocell:∀ y∈scope.names,y.2≠.cell) (names:∀ y∈scope.names,y.2=.local→scope.names.lookup y.1=some .local)
    (clos:closureFor scope X.env=pure cl) (sub:∀ p∈cl,X.env.cells.lookup p.1=some p.2) {nm:List Str} (hnm:cl.map (·.1)=nm) (has:∀ y∈scope.names,y.2=.free→y.1∈nm) (len:nl.length=N.length)
    (seen:∀ i < nl.length,∀ j,nl[i]?=some (some j)→∃ y,N[i]?=some y∧X.N[j]?=some y∧scope.names.lookup y=some .free∧(X.env.scope.names.lookup y=some .cell∨X.env.scope.names.lookup y=some .free)):BlockOk X N nl scope cl where
  kind:=kind
  nocell:=nocell
  names:=names
  clos:=clos
  sub:=fun y c h=>sub (y,c) (PySem.mem_of_lookup h)
  has:=fun y h=>by
    have hm:=has _ (Z1H h) rfl
    rw [← hnm] at hm
    cases q:cl.lookup y with
    | some c=>exact ⟨c,rfl⟩
    | none=>
      obtain ⟨p,hp,e⟩:=List.mem_map.mp hm
      have:=List.lookup_eq_none_iff.mp q p hp
      simp [e] at this
  len:=len
  seen:=fun i j y h1 h2=>by
    obtain ⟨z,a,b,c,d⟩:=seen i (List.getElem?_eq_some_iff.mp h2).1 j h2
    rw [h1] at a
    cases a
    exact ⟨b,c,d⟩
theorem sub1 {env:Env} {x:Str} {a:Addr} (h:env.cells.lookup x=some a):∀ p∈[(x,a)],env.cells.lookup p.1=some p.2:=fun p hp=>by
  rcases List.mem_cons.mp hp with e | hp
  · subst e; exact h
  · cases hp
end L2
end
section
namespace L2
open PySem PySem.Spec PyProof.Rows PySem.SeqAt
structure Nice (k n:Nat) (d:PyData):Prop where
  lay:d.canLay0=true
  sho:d.showable=true
  leaf:d.leavesShort 30=true
  dep:d.depth≤k
  wt:d.weight≤n
structure NiceL (k n:Nat) (ds:List PyData):Prop where
  lay:PyData.canLayAll0 ds=true
  sho:PyData.showableAll ds=true
  leaf:PyData.leavesShortAll 30 ds=true
  dep:PyData.depthAll ds≤k
  wt:PyData.weightAll ds≤n
theorem Nice.mono {k n k' n':Nat} {d:PyData} (h:Nice k n d) (hk:k≤k') (hn:n≤n'):Nice k' n' d:=⟨h.lay,h.sho,h.leaf,Nat.le_trans h.dep hk,Nat.le_trans h.wt hn⟩
theorem NiceL.nil {k n:Nat}:NiceL k n []:=⟨rfl,rfl,rfl,Nat.zero_le _,Nat.zero_le _⟩
theorem NiceL.cons {k a b n:Nat} {d:PyData} {ds:List PyData} (h:Nice k a d) (hs:NiceL k b ds) (hn:a+1+b≤n):NiceL k n (d::ds) where
  lay:=by rw [PyData.canLayAll0,h.lay,hs.lay]; rfl
  sho:=by rw [PyData.showableAll,h.sho,hs.sho]; rfl
  leaf:=by rw [PyData.leavesShortAll,h.leaf,hs.leaf]; rfl
  dep:=by rw [PyData.depthAll]; exact Nat.max_le.mpr ⟨h.dep,hs.dep⟩
  wt:=by rw [PyData.weightAll]; have:=h.wt; have:=hs.wt; omega
theorem NiceL.of {k n:Nat}:∀ {ds:List PyData},(∀ d∈ds,Nice k n d)→NiceL k ((n+1) * ds.length) ds
  | [],_=>.nil
  | d::ds,h=>.cons (h d List.mem_cons_self) (NiceL.of fun e he=>h e (List.mem_cons_of_mem _ he)) (by rw [List.length_cons,Nat.mul_succ]; omega)
theorem Nice.tup {k n:Nat} {ds:List PyData} (h:NiceL k n ds):Nice (k+1) n (.tuple ds) where
  lay:=by rw [PyData.canLay0]; exact h.lay
  sho:=by rw [PyData.showable]; exact h.sho
  leaf:=by rw [PyData.leavesShort]; exact h.leaf
  dep:=by rw [PyData.depth]; exact Nat.succ_le_succ h.dep
  wt:=by rw [PyData.weight]; exact h.wt
theorem Nice.lst {k n:Nat} {ds:List PyData} (h:NiceL k n ds):Nice (k+1) n (.list ds) where
  lay:=by rw [PyData.canLay0]; exact h.lay
  sho:=by rw [PyData.showable]; exact h.sho
  leaf:=by rw [PyData.leavesShort]; exact h.leaf
  dep:=by rw [PyData.depth]; exact Nat.succ_le_succ h.dep
  wt:=by rw [PyData.weight]; exact h.wt
theorem Nice.int {k:Nat} {i:Int} (h:i.natAbs < 10 ^ 18):Nice k 60 (.int i):=by
  have hl:i.natAbs.log2 < 60:=by
    by_cases z:i.natAbs=0
    · rw [z]; decide
    · exact (Nat.log2_lt z).mpr (by omega)
  refine ⟨rfl,?_,?_,Nat.zero_le _,?_⟩
  · rw [PyData.showable]; exact decide_eq_true (by omega)
  · have e:=int_text_length_le10 (k:=18) (by decide) h
    have:(PyData.shown (.int i)).length≤30:=by
      show (Str.ofString (toString i)).length≤30
      rw [PySem.ofString_length]; omega
    rw [PyData.leavesShort]; exact decide_eq_true this
  · rw [PyData.weight]; split <;> omega
theorem Nice.str {k n:Nat} {x:Str} (h:PyData.strOk x=true) (hn:x.cps.size≤n):Nice k n (.str x):=by
  refine ⟨by rw [PyData.canLay0]; exact h,rfl,?_,Nat.zero_le _,by rw [PyData.weight]; exact hn⟩
  have h1:∀ c∈x.cps.toList,c < 0x110000:=by
    intro c hcm
    have:=(Array.all_eq_true_iff_forall_mem.mp h) c (Array.mem_toList_iff.mp hcm)
    simpa using this
  rw [PyData.leavesShort]
  refine List.all_eq_true.mpr fun c hc=>decide_eq_true ?_
  have h2:=h1 c hc
  have e:(16:Nat) ^ 8=4294967296:=by decide
  omega
theorem Nice.fits {k n:Nat} {d:PyData} (h:Nice k n d) (hn:n≤100000):d.shown.length≤sizeLine:=by
  have:=PyData.shown_le 30 (by decide) d h.leaf
  have:=h.wt
  rw [sizeLine_eq]
  omega
section
variable {K:W.Frag} {H H':Hp} {k n:Nat}
end
end L2
end
section
namespace L2
open PySem PySem.Spec PyProof.Rows PySem.SeqAt
theorem J8U {i:Nat} {σ:St} {H:Hp} {Q:VK}:tVar i σ H Q=(∃ v,σ[i]?=some (some v)∧Q v H):=rfl
theorem Y0i {v:V} {z0:St} {H:Hp} {Q:VK}:tC v z0 H Q=(Q v H):=rfl
theorem Y0c {t:TE} {σ:St} {H:Hp} {Q:Bool→Hp→Prop}:tB t σ H Q=(t σ H fun x H1=>∃ c,x=.bl c∧Q c H1):=rfl
theorem J8v {t u:TT} {σ:St} {H:Hp} {Q:Bool→Hp→Prop}:tAnd t u σ H Q=(t σ H fun c H1=>if c=true then u σ H1 Q else Q false H1):=rfl
theorem J9E {t u:TT} {σ:St} {H:Hp} {Q:Bool→Hp→Prop}:tOr t u σ H Q=(t σ H fun c H1=>if c=true then Q true H1 else u σ H1 Q):=rfl
theorem J8S {t:TT} {σ:St} {H:Hp} {Q:Bool→Hp→Prop}:tNot t σ H Q=(t σ H fun c H1=>Q (!c) H1):=rfl
theorem J7T {ta tb:TE} {σ:St} {H:Hp} {Q:VK}:J6o ta tb σ H Q=(ta σ H fun x H1=>∃ c,x=.bl c∧if c=true then tb σ H1 Q else Q (.bl false) H1):=rfl
theorem J9v {ta tb:TE} {σ:St} {H:Hp} {Q:VK}:tOrV ta tb σ H Q=(ta σ H fun x H1=>∃ c,x=.bl c∧if c=true then Q (.bl true) H1 else tb σ H1 Q):=rfl
theorem J7K {ta:TE} {σ:St} {H:Hp} {Q:VK}:J6e ta σ H Q=(ta σ H fun x H1=>∃ c,x=.bl c∧Q (.bl (!c)) H1):=rfl
theorem J9J {t:TT} {ta tb:TE} {σ:St} {H:Hp} {Q:VK}:tIf t ta tb σ H Q=(t σ H fun c H1=>if c=true then ta σ H1 Q else tb σ H1 Q):=rfl
theorem J8m {D:Ends} {σ:St} {H:Hp}:J6t  D σ H=(D.nx σ H):=rfl
theorem J9f {t u:TS} {D:Ends} {σ:St} {H:Hp}:tSeq t u D σ H=(t { D with nx:=u D } σ H):=rfl
theorem J6c {D:Ends} {σ:St} {H:Hp}:J7t  D σ H=(D.bk σ H):=rfl
theorem J7U {D:Ends} {σ:St} {H:Hp}:J9A  D σ H=(D.ct σ H):=rfl
theorem J8i {te:TE} {D:Ends} {σ:St} {H:Hp}:J5W te D σ H=(te σ H fun _ H1=>D.nx σ H1):=rfl
theorem J9l {te:TE} {D:Ends} {σ:St} {H:Hp}:tRet te D σ H=(te σ H D.rt):=rfl
theorem J7W {D:Ends} {z1:St} {H:Hp}:J5Q  D z1 H=(D.rt .non H):=rfl
theorem J9o {c:TT} {t u:TS} {D:Ends} {σ:St} {H:Hp}:tIfS c t u D σ H=(c σ H fun b H1=>if b=true then t D σ H1 else u D σ H1):=rfl
theorem J6f {z0:Ends} {z1:St} {z2:Hp}:J7h  z0 z1 z2=(False):=rfl
theorem J7L {i:Nat} {v:V} {σ:St} {H:Hp} {Q:St→Hp→Prop}:Z4Q i v σ H Q=(Q (σ.set i (some v)) H):=rfl
theorem J8P {vs:List V} {σ:St} {H:Hp} {Q:St→Hp→Prop}:gNil  vs σ H Q=(vs=[]∧Q σ H):=rfl
theorem J7D {t:TG} {u:TGs} {vs:List V} {σ:St} {H:Hp} {Q:St→Hp→Prop}:J7i t u vs σ H Q=(∃ v r,vs=v::r∧t v σ H fun σ' H'=>u r σ' H' Q):=rfl
theorem J8s {K:W.Frag} {n:Nat} {t:TGs} {v:V} {σ:St} {H:Hp} {Q:St→Hp→Prop}:gTup K n t v σ H Q=(∃ a xs,v=.ref a∧SqT K H a xs∧xs.length=n∧t xs σ H Q):=rfl
theorem J8B {to ti:TE} {t:TSet} {v:V} {σ:St} {H:Hp} {Q:St→Hp→Prop}:gSub to ti t v σ H Q=(to σ H fun o H1=>ti σ H1 fun i H2=>t o i v H2 fun H3=>Q σ H3):=rfl
theorem J8R {te:TE} {g:TG} {D:Ends} {σ:St} {H:Hp}:tAsg te g D σ H=(te σ H fun x H1=>g x σ H1 D.nx):=rfl
theorem J9n {i j:Nat} {ta:TA} {D:Ends} {σ:St} {H:Hp}:tPar i j ta D σ H=(ta σ H fun vs H1=>∃ v w,vs=[v,w]∧D.nx ((σ.set i (some v)).set j (some w)) H1):=rfl
theorem J9B {i:Nat} {te:TE} {ti:TIp} {D:Ends} {σ:St} {H:Hp}:tAug i te ti D σ H=(∃ x,σ[i]?=some (some x)∧te σ H fun y H1=>ti x y H1 fun z H2=>D.nx (σ.set i (some z)) H2):=rfl
theorem J8b {to ti te:TE} {tget:V→V→Hp→VK→Prop} {tip:TIp} {tset:TSet} {D:Ends} {σ:St} {H:Hp}:J9j to ti te tget tip tset D σ H=(to σ H fun o H1=>ti σ H1 fun i H2=>tget o i H2 fun x H3=>te σ H3 fun y H4=>tip x y H4 fun z H5=>tset o i z H5 fun H6=>D.nx σ H6):=rfl
theorem J9L {f:Int→Int→Int} {x:V} {y:V} {H:Hp} {Q:VK}:ipI f x y H Q=(∃ i j,x=.int i∧y=.int j∧Q (.int (f i j)) H):=rfl
theorem J8p {K:W.Frag} {tl:TE} {σ:St} {H:Hp} {R:It→Hp→Prop}:J5L K tl σ H R=(tl σ H fun x H1=>∃ a,x=.ref a∧(∃ xs,SqL K H1 a xs)∧R (Itl K a) H1):=rfl
theorem J8H {K:W.Frag} {tl:TE} {σ:St} {H:Hp} {R:It→Hp→Prop}:iTup K tl σ H R=(tl σ H fun x H1=>∃ a,x=.ref a∧(∃ xs,SqT K H1 a xs)∧R (Itt K a) H1):=rfl
theorem J7Y {ta:TA} {σ:St} {H:Hp} {R:It→Hp→Prop}:J5M ta σ H R=(ta σ H fun vs H1=>∃ j:Int,vs=[.int j]∧-(2 ^ 62)≤j∧j < 2 ^ 62∧R (Itr 0 j.toNat) H1):=rfl
theorem J7O {ta:TA} {σ:St} {H:Hp} {R:It→Hp→Prop}:J6M ta σ H R=(ta σ H fun vs H1=>∃ i j:Int,vs=[.int i,.int j]∧(-(2 ^ 62)≤i∧i < 2 ^ 62∧-(2 ^ 62)≤j∧j < 2 ^ 62)∧R (Itr i (j - i).toNat) H1):=rfl
theorem J9I {r:R2} {ta tb:TE} {σ:St} {H:Hp} {Q:VK}:tOp r ta tb σ H Q=(ta σ H fun x H1=>tb σ H1 fun y H2=>r x y H2 Q):=rfl
theorem J9G {r:V→Hp→VK→Prop} {ta:TE} {σ:St} {H:Hp} {Q:VK}:tUn r ta σ H Q=(ta σ H fun x H1=>r x H1 Q):=rfl
theorem Y0j {C:Int→Int→Prop} {g:Int→Int→V} {x:V} {y:V} {H:Hp} {Q:VK}:rI C g x y H Q=(∃ i j,x=.int i∧y=.int j∧C i j∧Q (g i j) H):=rfl
theorem J9M {g:Int→Int→V} {x:V} {y:V} {H:Hp} {Q:VK}:rI0 g x y H Q=(∃ i j,x=.int i∧y=.int j∧Q (g i j) H):=rfl
theorem J9X {g:Int→V} {x:V} {H:Hp} {Q:VK}:rU g x H Q=(∃ i,x=.int i∧Q (g i) H):=rfl
theorem J9N {x:V} {y:V} {H:Hp} {Q:VK}:rEq  x y H Q=(scal x y=true∧Q (.bl (decide (x=y))) H):=rfl
theorem J9F {x:V} {y:V} {H:Hp} {Q:VK}:rNe  x y H Q=(scal x y=true∧Q (.bl (!decide (x=y))) H):=rfl
theorem J7Q {t:TE} {σ:St} {H:Hp} {Q:Bool→Hp→Prop}:J5N t σ H Q=(t σ H fun x H'=>∃ k,x=.bl k∧Q k H'):=rfl
theorem J6B {r r':R2} {ta tb tc:TE} {σ:St} {H:Hp} {Q:VK}:J6T r r' ta tb tc σ H Q=(ta σ H fun x H1=>tb σ H1 fun y H2=>r x y H2 fun z H3=>∃ k,z=.bl k ∧
  (if k=true then tc σ H3 fun w' H4=>r' y w' H4 Q else Q (.bl false) H3)):=rfl
theorem J9b {K:W.Frag} {ta:TE} {f:Str} {σ:St} {H:Hp} {Q:VK}:tFld K ta f σ H Q=(ta σ H fun x H1=>∃ a C dx fs v,x=.ref a∧H1 a=some (.ins C dx fs)∧Cls K C∧NoAttr K C f∧fs.lookup f=some v∧Q v H1):=rfl
theorem J8x {K:W.Frag} {ta:TE} {f:Str} {σ:St} {H:Hp} {Q:VK}:tCon K ta f σ H Q=(ta σ H fun x H1=>∃ a C dx fs v u,x=.ref a∧H1 a=some (.ins C dx fs)∧Cls K C∧Con K C f v u∧fs.lookup f=none∧Q v H1):=rfl
theorem J9C {K:W.Frag} {ta tv:TE} {f:Str} {D:Ends} {σ:St} {H:Hp}:sFld K ta tv f D σ H=(tv σ H fun y H1=>ta σ H1 fun x H2=>∃ a C dx fs,x=.ref a∧H2 a=some (.ins C dx fs)∧Cls K C∧NoAttr K C f∧fs.length < 1000 ∧
  D.nx σ (upd H2 a (.ins C dx (putF f y fs)))):=rfl
theorem J5H {K:W.Frag} {ta tv:TE} {rd:V→V→Hp→VK→Prop} {f:Str} {D:Ends} {σ:St} {H:Hp}:J5a K ta tv rd f D σ H=(ta σ H fun x H1=>∃ a C dx fs v,x=.ref a∧H1 a=some (.ins C dx fs)∧Cls K C∧NoAttr K C f∧fs.lookup f=some v ∧
  tv σ H1 fun y H2=>rd v y H2 fun z H3=>∃ dx' fs',H3 a=some (.ins C dx' fs')∧fs'.length < 1000∧D.nx σ (upd H3 a (.ins C dx' (putF f z fs')))):=rfl
theorem J8C {z0:St} {H:Hp} {Q:List V→Hp→Prop}:tNil  z0 H Q=(Q [] H):=rfl
theorem J7Z {ta:TE} {tr:TA} {σ:St} {H:Hp} {Q:List V→Hp→Prop}:J5z ta tr σ H Q=(ta σ H fun x H1=>tr σ H1 fun xs H2=>Q (x::xs) H2):=rfl
theorem J8g {sp:Sp} {dvs:List V} {E:XK} {t:TA} {σ:St} {H:Hp} {Q:VK}:J2A sp dvs E t σ H Q=(t σ H fun vs H1=>sp (vs++dvs) H1 Q E):=rfl
theorem J7E {C:Addr} {m:Str} {sp:Sp} {dvs:List V} {E:XK} {ta:TE} {t:TA} {σ:St} {H:Hp} {Q:VK}:Z9u C m sp dvs E ta t σ H Q=(ta σ H fun x H1=>∃ a dx fs,x=.ref a∧H1 a=some (.ins C dx fs)∧fs.lookup m=none ∧
  t σ H1 fun vs H2=>sp (x::(vs++dvs)) H2 Q E):=rfl
theorem J8h {C:Addr} {sp:Sp} {dvs:List V} {E:XK} {t:TA} {σ:St} {H:Hp} {Q:VK}:J1s C sp dvs E t σ H Q=(t σ H fun vs H1=>∀ x dx,H1 x=none→H1 dx=none→dx≠x →
  sp (.ref x::(vs++dvs)) (upd (upd H1 dx (.own x)) x (.ins C dx [])) (fun v H2=>v=.non∧Q (.ref x) H2) E):=rfl
theorem J9P {r:List V→Hp→VK→Prop} {t:TA} {σ:St} {H:Hp} {Q:VK}:tCB r t σ H Q=(t σ H fun vs H1=>r vs H1 Q):=rfl
theorem J5I {z0:St} {H:Hp} {Q:Option Int→Hp→Prop}:J1c  z0 H Q=(Q none H):=rfl
theorem J7C {t:TE} {σ:St} {H:Hp} {Q:Option Int→Hp→Prop}:J5T t σ H Q=(t σ H fun x H1=>∃ i,x=.int i∧Q (some i) H1):=rfl
theorem J9O {r:V→Option Int→Option Int→Hp→VK→Prop} {te:TE} {tl th:TO} {σ:St} {H:Hp} {Q:VK}:tSl r te tl th σ H Q=(te σ H fun x H1=>tl σ H1 fun l H2=>th σ H2 fun u H3=>r x l u H3 Q):=rfl
theorem J8E {K:W.Frag} {x:V} {lo:Option Int} {hi:Option Int} {H:Hp} {Q:VK}:rSlT K x lo hi H Q=(∃ a xs,x=.ref a∧SqT K H a xs ∧
  ¬ (HT.sIx xs.length 0 lo=0∧HT.sIx xs.length xs.length hi=xs.length)∧∀ p,H p=none→Q (.ref p) (upd H p (.tup (cutV xs lo hi)))):=rfl
theorem J7I {K:W.Frag} {x:V} {y:V} {H:Hp} {Q:VK}:J6w K x y H Q=(∃ a b xs ys,x=.ref a∧y=.ref b∧SqT K H a xs∧SqT K H b ys∧xs≠[]∧xs.length+ys.length≤sizeLine ∧
  (ys=[]→Q (.ref a) H)∧(ys≠[]→∀ p,H p=none→Q (.ref p) (upd H p (.tup (xs++ys))))):=rfl
theorem J9s {K:W.Frag} {x:V} {y:V} {H:Hp} {Q:VK}:rIxL K x y H Q=(∃ p xs i v,x=.ref p∧y=.int i∧SqL K H p xs∧atI xs i=some v∧Q v H):=rfl
theorem J9p {K:W.Frag} {x:V} {y:V} {H:Hp} {Q:VK}:rIxT K x y H Q=(∃ p xs i v,x=.ref p∧y=.int i∧SqT K H p xs∧atI xs i=some v∧Q v H):=rfl
theorem J8w {x:V} {y:V} {H:Hp} {Q:VK}:rIxS  x y H Q=(∃ z i c,x=.str z∧y=.int i∧z.length≤sizeLine∧atI z.cps.toList i=some c∧Q (.str ⟨#[c]⟩) H):=rfl
theorem J8d {o:V} {i:V} {v:V} {H:Hp} {Q:(Hp→Prop)}:J6H  o i v H Q=(∃ p xs k j,o=.ref p∧i=.int k∧H p=some (.lst xs)∧ixN xs.length k=some j∧Q (upd H p (.lst (xs.set j v)))):=rfl
theorem J9R {K:W.Frag} {neg:Bool} {x:V} {y:V} {H:Hp} {Q:VK}:rIn K neg x y H Q=(∃ p xs,y=.ref p∧(SqL K H p xs∨SqT K H p xs)∧Z4I x=true∧xs.all Z4I=true∧Q (.bl (if neg then !inV x xs else inV x xs)) H):=rfl
theorem J8A {K:W.Frag} {T:String} {r:V→List V→Hp→VK→Prop} {to:TE} {σ:St} {H:Hp} {Q:VK}:tBM0 K T r to σ H Q=(to σ H fun x H1=>tyV K T x H1∧r x [] H1 Q):=rfl
theorem J9Q {K:W.Frag} {T:String} {r:V→List V→Hp→VK→Prop} {to:TE} {t:TA} {σ:St} {H:Hp} {Q:VK}:tBM K T r to t σ H Q=(to σ H fun x H1=>tyV K T x H1∧t σ H1 fun xs H2=>r x xs H2 Q):=rfl
theorem J5G {x:V} {vs:List V} {H:Hp} {Q:VK}:J1x  x vs H Q=(∃ l xs y,x=.ref l∧vs=[y]∧H l=some (.lst xs)∧xs.length < sizeLine∧Q .non (upd H l (.lst (xs++[y])))):=rfl
theorem J5E {x:V} {vs:List V} {H:Hp} {Q:VK}:Z9j  x vs H Q=(∃ l b xs zs,x=.ref l∧vs=[.ref b]∧H l=some (.lst xs)∧H b=some (.lst zs)∧xs.length+zs.length≤sizeLine∧Q .non (upd H l (.lst (xs++zs)))):=rfl
theorem J8I {x:V} {vs:List V} {H:Hp} {Q:VK}:rPop  x vs H Q=(∃ l xs y,x=.ref l∧vs=[]∧H l=some (.lst xs)∧xs[xs.length - 1]?=some y∧Q y (upd H l (.lst xs.dropLast))):=rfl
theorem J7w {x:V} {vs:List V} {H:Hp} {Q:VK}:J5P  x vs H Q=(∃ l xs i k y,x=.ref l∧vs=[.int i]∧H l=some (.lst xs)∧-(2 ^ 63)≤i∧i < 2 ^ 63∧seqIndex? i xs.length=some k∧xs[k]?=some y∧Q y (upd H l (.lst (xs.eraseIdx k)))):=rfl
theorem J5j {x:V} {vs:List V} {H:Hp} {Q:VK}:J2P  x vs H Q=(∃ l xs,x=.ref l∧vs=[]∧H l=some (.lst xs)∧Q .non (upd H l (.lst xs.reverse))):=rfl
theorem J6J {x:V} {vs:List V} {H:Hp} {Q:VK}:J6d  x vs H Q=(∃ l xs,x=.ref l∧vs=[]∧H l=some (.lst xs)∧Q .non (upd H l (.lst []))):=rfl
theorem J8G {x:V} {y:V} {H:Hp} {Q:VK}:rRep  x y H Q=(∃ l k xs,x=.ref l∧y=.int k∧H l=some (.lst xs)∧-(2 ^ 63)≤k∧k < 2 ^ 63∧xs.length * k.toNat≤sizeLine ∧
  ∀ p,H p=none→Q (.ref p) (upd H p (.lst (List.replicate k.toNat xs).flatten))):=rfl
def Z9p (J:It) (g:TG) (tb:TS) (D:Ends) (σ:St) (H:Hp):Prop:=∃ W:Nat→Nat→St→Hp→Prop,(∃ m,W 0 m σ H)∧∀ i m σ H,W i m σ H →
  (J.stop i H∧D.nx σ H)∨(J.go i H∧∃ N:St→Hp→Prop,(∀ σ' H',N σ' H'→∃ m',m' < m∧W (i+1) m' σ' H')∧∀ x H',J.yld i H x H'→g x σ H' fun σ2 H2=>tb { D with nx:=N,ct:=N,bk:=D.nx } σ2 H2)
theorem J8Z {wi:TI} {g:TG} {tb:TS} {D:Ends} {σ:St} {H:Hp}:tFor wi g tb D σ H=wi σ H fun J H1=>Z9p J g tb D σ H1:=rfl
end L2
end
section
namespace L2
open PySem PySem.Spec PyProof.Rows
def clsV:V→Option Value
  | .ty n=>some (.type n)
  | .ref a=>some (.ref a)
  | _=>none
theorem J2O {c:V} {cv u:Value} (h:clsV c=some cv) (r:RelV c u):u=cv:=by
  cases c with
  | ty n=>cases h; exact r
  | ref a=>cases h; exact r
  | _=>cases h
def rIsi (K:W.Frag):List V→Hp→VK→Prop:=fun xs H Q=>∃ x c cv t b,xs=[x,c]∧clsV c=some cv∧TyOf K H x t∧W.kitOne K t cv=some b∧Q (.bl b) H
section
variable {X:Cx}
end
section
variable {K:W.Frag}
theorem Z4s {t:Value}:W.kitOne K t t=some true:=by
  unfold W.kitOne
  rw [if_pos (by simp)]
theorem Z6g:W.kitOne K (.type "int") (.type "bool")=some false:=by with_unfolding_all rfl
end
end L2
end
section
namespace L2
open PySem PySem.Spec PyProof.Rows
structure Fn (K:W.Frag) (mg:Str→Option Value) (x:Str) (st:Stmt):Prop where
  ex:∃ f fd,Fun K x x st f fd∧mg x=some (.ref f)
structure Has (P:Program) (w:World) (K:W.Frag) (mg:Str→Option Value) (base:Heap) (k:Nat) (x:Str) (ps:List Str) (sp:Sp):Prop where
  ex:∃ f fd,FnOk P w K mg base CX0 k f fd ps sp∧Binds K fd ps []∧W.keepIn K (.ref f)=true∧mg x=some (.ref f)
structure Cst (mg:Str→Option Value) (x:Str) (v:V):Prop where
  ex:∃ u,mg x=some u∧RelV v u
section
variable {P:Program} {w:World} {K:W.Frag} {mg:Str→Option Value} {base:Heap}
theorem Z2p {h:Heap} {x:Str} {st:Stmt} {f:Addr} {oc:Value} {od an:Option Addr} {osl:Array (Option Value)} {kV doc pm cdv ct:Value} (X:K.In h) (G:h.Ns mainGlobals mg) (a:W.nsIn K mainGlobals x=some (some (.ref f)))
    (l:K.lookup f=some ⟨oc,od,.func (W.fnOf x x (Z0n st) (Z0l st) (Z0d st) .none kV doc pm an cdv ct),osl⟩) (c:W.codeIn K cdv x=true) (k:W.keepIn K (.ref f)=true):Fn K mg x st:=
  ⟨f,_,J3Q l c k,W.mg_of X G a⟩
theorem J0s {h:Heap} {x:Str} {i:Int} {t:Tok} (X:K.In h) (G:h.Ns mainGlobals mg) (a:W.nsIn K mainGlobals x=some (some (.int i t))):Cst mg x (.int i):=⟨_,W.mg_of X G a,_,rfl⟩
theorem Has.of {x:Str} {st:Stmt} {N ps:List Str} {k:Nat} {sp:Sp} (F:Fn K mg x st) (S:Z0o N ps (Z0d st))
    (hb:∀ (kV doc pm:Value) (an:Option Addr) (cdv ct:Value) (us:List Value),us.length=ps.length→bindArgs (W.fnOf x x (Z0n st) (Z0l st) (Z0d st) .none kV doc pm an cdv ct) ⟨us,[]⟩=pure (ps.zip us))
    (len:∀ vs H Q E,sp vs H Q E→vs.length=ps.length)
    (hbody:∀ (f:Addr) (cdv:Value) (A:Around) (outer:List Env) (s:Shared) (H:Hp) (vs:List V) (Q:VK) (E:XK),Room k (A.deeper (envOfC x (Z0d st) s.heap.objs.size f cdv))→sp vs H Q E →
      ∃ t,PSs (cxOf CX0 P w K mg base N x (Z0d st) f cdv A outer s H E).nox (Z0l st) t∧t { nx:=fun _ H'=>Q .non H',rt:=Q } (Z4U N vs) H):Has P w K mg base (k+1) x ps sp:=by
  obtain ⟨f,fd,F,m⟩:=F.ex
  exact ⟨f,fd,F.ok S len fun cdv=>hbody f cdv,F.binds hb,F.kp,m⟩
theorem J5l {fa:Addr} {k:Nat} {x:Str} {st:Stmt} {sp:Sp} (F:Fn K mg "law" st) (hfa:mg "law"=some (.ref fa))
    (hb:∀ (kV doc pm:Value) (an:Option Addr) (cdv ct u:Value),bindArgs (W.fnOf "law" "law" (Z0n st) (Z0l st) (Z0d st) .none kV doc pm an cdv ct) ⟨[u],[]⟩=pure [(x,u)])
    (ok:∀ (f:Addr) (fd:FuncData) (base:Heap),Fun K "law" "law" st f fd→FnOk P w K mg base CX0 k f fd [x] sp) :
    ∃ fd:FuncData,(∀ (s:Shared) (u:Value),BindsTo s fd ⟨[u],[]⟩ [(x,u)])∧∀ base:Heap,K.In base→base.Ns mainGlobals mg→FnOk P w K mg base CX0 k fa fd [x] sp:=by
  obtain ⟨f,fd,F,m⟩:=F.ex
  cases hfa.symm.trans m
  have F':=F
  obtain ⟨oc,od,kV,doc,pm,an,cdv,ct,osl,rfl,lk,hcd⟩:=F.ex
  exact ⟨_,fun s u=>.of_eq (hb kV doc pm an cdv ct u),fun base _ _=>ok _ _ base F'⟩
end
section
variable {X:Cx} {x:Str} {ps:List Str} {sp:Sp} {k j:Nat} {e:Expr} {es:List Expr} {t:TA} {p pos:Pos} {v:V}
theorem Z0J (h:Has X.prog X.w X.K X.mg X.base k x ps sp) (hr:Room j X.A) (hk:k≤j) (hg:Gl X x) (ha:PA X (e::es) t) (hdb:(x == ("__debug__":Str))=false:=by decide)
    (he:starEach (e::es) X.env=(false,eval e X.env)::starEach es X.env:=by rfl) (hpl:(backTo pos (starEach es X.env)).any (·.1)=false:=by rfl):PE X (.Call (.Name x p) (e::es) [] pos) (J2A sp [] E0 t):=by
  obtain ⟨f,fd,F,b,kp,m⟩:=h.ex
  exact J0q F (hr.mono hk) hg m kp b .nil Z8V ha hdb he hpl
theorem J3y (h:Cst X.mg x v) (hg:Gl X x) (hd:(x == ("__debug__":Str))=false:=by decide):PE X (.Name x pos) (tC v):=by
  obtain ⟨u,m,r⟩:=h.ex
  exact J4r hg m r hd
def J8z (i j:Int):Prop:=j≠0∧-(2 ^ 64) < j∧j < 2 ^ 64
theorem Z8y:OpR X (binaryOp .FloorDiv) (rI J8z fun i j=>.int (i.fdiv j)):=opI fun i j _ _ _ _ _ hc q=>floordiv_int hc.1 q (.inl (PyProof.noPylong_of_log2 (by
  have h:j.natAbs < 2 ^ 64:=by have:=hc.2; omega
  have:=(Nat.log2_lt (by have:=hc.1; omega)).mpr h
  omega)))
end
theorem Z0C {H:Hp} {p:Addr} (h:H p=none) (o:HO):Same H (upd H p o):=fun b u q=>by rw [Z0j (Z0m q h)]; exact q
end L2
end
section
namespace L2
open PySem PySem.Spec PyProof.Rows
theorem Z3z {K:W.Frag} {a:Addr} {g:TG} {tb:TS} {D:Ends} {σ:St} {H:Hp} (xs:List V) (Pv:Nat→St→Hp→Prop) (h0:Pv 0 σ H) (hl:∀ i σ H,i≤xs.length→Pv i σ H→SqL K H a xs)
    (hs:∀ i x σ H,xs[i]?=some x→Pv i σ H→g x σ H fun σ2 H2=>tb { D with nx:=Pv (i+1),ct:=Pv (i+1),bk:=D.nx } σ2 H2) (hd:∀ σ H,Pv xs.length σ H→D.nx σ H):Z9p (Itl K a) g tb D σ H:=
  J1U Pv h0 hl hs hd
theorem J3d {K:W.Frag} {a:Addr} {g:TG} {tb:TS} {D:Ends} {σ:St} {H:Hp} (xs:List V) (Pv:Nat→St→Hp→Prop) (h0:Pv 0 σ H) (hl:∀ i σ H,i≤xs.length→Pv i σ H→SqT K H a xs)
    (hs:∀ i x σ H,xs[i]?=some x→Pv i σ H→g x σ H fun σ2 H2=>tb { D with nx:=Pv (i+1),ct:=Pv (i+1),bk:=D.nx } σ2 H2) (hd:∀ σ H,Pv xs.length σ H→D.nx σ H):Z9p (Itt K a) g tb D σ H:=
  J4v Pv h0 hl hs hd
theorem Z3X {lo:Int} {n:Nat} {g:TG} {tb:TS} {D:Ends} {σ:St} {H:Hp} (Pv:Nat→St→Hp→Prop) (h0:Pv 0 σ H)
    (hs:∀ i σ H,i < n→Pv i σ H→g (.int (lo+i)) σ H fun σ2 H2=>tb { D with nx:=Pv (i+1),ct:=Pv (i+1),bk:=D.nx } σ2 H2) (hd:∀ σ H,Pv n σ H→D.nx σ H):Z9p (Itr lo n) g tb D σ H:=
  J0d Pv h0 hs hd
theorem SqL.same {K:W.Frag} {H H':Hp} {a:Addr} {xs:List V} (h:SqL K H a xs) (s:Same H H'):SqL K H' a xs:=s.seq h
theorem SqT.same {K:W.Frag} {H H':Hp} {a:Addr} {xs:List V} (h:SqT K H a xs) (e:Same H H'):SqT K H' a xs:=by
  rcases h with (h | ⟨o,h⟩) | h
  · exact .inl (.inl (e _ _ h))
  · exact .inl (.inr ⟨o,e _ _ h⟩)
  · exact .inr h
section
variable {K:W.Frag} {H:Hp} {Q:VK} {i:Int} {b:Bool} {x:Str}
theorem Z4K {v:V} {n:String} {t:Value} {k:Bool} (ht:∀ t',TyOf K H v t'→t'=t) (h0:TyOf K H v t) (hk:W.kitOne K t (.type n)=some k):rIsi K [v,.ty n] H Q=Q (.bl k) H:=by
  refine propext ⟨fun h=>?_,fun h=>⟨_,_,_,_,_,rfl,rfl,h0,hk,h⟩⟩
  obtain ⟨x,c,cv,t',b',e,hc,ty,k',q⟩:=h
  cases e
  cases hc
  rw [ht _ ty,hk] at k'
  cases k'
  exact q
theorem J4m:rIsi K [.int i,.ty "int"] H Q=Q (.bl true) H:=Z4K (fun _ h=>by cases h; rfl) (.int i) Z4s
theorem J3D:rIsi K [.int i,.ty "bool"] H Q=Q (.bl false) H:=Z4K (fun _ h=>by cases h; rfl) (.int i) Z6g
theorem Z6s:W.kitOne K (.type "bool") (.type "int")=some true:=by with_unfolding_all rfl
theorem J5F:rIsi K [.bl b,.ty "int"] H Q=Q (.bl true) H:=Z4K (fun _ h=>by cases h; rfl) (.bl b) Z6s
theorem J4X:rIsi K [.bl b,.ty "bool"] H Q=Q (.bl true) H:=Z4K (fun _ h=>by cases h; rfl) (.bl b) Z4s
theorem J5k:rIsi K [.str x,.ty "str"] H Q=Q (.bl true) H:=Z4K (fun _ h=>by cases h; rfl) (.str x) Z4s
end
section
theorem ix0 {α:Type} {x:α} {xs:List α}:atI (x::xs) 0=some x:=by simp [atI,ixN]
theorem ix1 {α:Type} {x y:α} {xs:List α}:atI (x::y::xs) 1=some y:=by
  have:((1:Int) < (xs.length:Int)+1+1):=by omega
  simp [atI,ixN,this]
end
theorem J9K {CX:CXT} {P:Program} {w:World} {K:W.Frag} {mg:Str→Option Value} {base:Heap} {N:List Str} {qual:Str} {scope:Scope} {f:Addr} {cd:Value} {A:Around} {outer:List Env} {s:Shared} {H:Hp} {E:XK}:(cxOf CX P w K mg base N qual scope f cd A outer s H E).K=K:=rfl
theorem J1k:bootBuiltins "len"=some (.builtin "len"):=by decide +kernel
theorem J6p:bootBuiltins "abs"=some (.builtin "abs"):=by decide +kernel
theorem J3v:bootBuiltins "max"=some (.builtin "max"):=by decide +kernel
theorem J6l:bootBuiltins "sum"=some (.builtin "sum"):=by decide +kernel
theorem Z4L:bootBuiltins "repr"=some (.builtin "repr"):=by decide +kernel
theorem Z5M:bootBuiltins "isinstance"=some (.builtin "isinstance"):=by decide +kernel
theorem J3P:bootBuiltins "int"=some (.type "int"):=by decide +kernel
theorem J4C:bootBuiltins "list"=some (.type "list"):=by decide +kernel
theorem Z1C:bootBuiltins "tuple"=some (.type "tuple"):=by decide +kernel
theorem J4S:bootBuiltins "dict"=some (.type "dict"):=by decide +kernel
theorem Z3w:bootBuiltins "reversed"=some (.type "reversed"):=by decide +kernel
section
variable {a c:Int} {b e:Bool} {x y:Str}
theorem Y0f:scal (.non) (.non)=true:=rfl
theorem J9U:scal (.non) (.int a)=true:=rfl
theorem J9Z:scal (.int a) (.non)=true:=rfl
theorem J9V:scal (.non) (.bl b)=true:=rfl
theorem Y0e:scal (.bl b) (.non)=true:=rfl
theorem J9T:scal (.non) (.str x)=true:=rfl
theorem Y0b:scal (.str x) (.non)=true:=rfl
theorem Y0k:scal (.int a) (.int c)=true:=rfl
theorem Y0a:scal (.bl b) (.bl e)=true:=rfl
theorem Y0h:scal (.str x) (.str y)=true:=rfl
theorem Y0d:scal (.int a) (.str x)=true:=rfl
theorem J9W:scal (.str x) (.int a)=true:=rfl
theorem J9Y:scal (.bl b) (.str x)=true:=rfl
theorem Y0g:scal (.str x) (.bl b)=true:=rfl
end
end L2
end
section
namespace L2
open PySem PySem.Spec PyProof.Rows
def Z5F (H H':Hp):Prop:=∀ b o,(∀ xs,o≠.lst xs)→H b=some o→H' b=some o
end L2
end
section
namespace L2
open PySem PySem.Spec PyProof.Rows
theorem Z5g {J:It} {te:TE} {Q:VK} {H:Hp} {D:Addr} {ys:List V} {σ0:St} (v0:Option V) (rest:St) (R:Nat→V→Hp→Prop) (mono:∀ j v H1 H2,R j v H1→Z5F H1 H2→R j v H2) (e0:σ0=v0::rest) (hD:H D=none) (hz:ys.length≤sizeLine)
    (j1:∀ i H1,Same H H1→i < ys.length→J.go i H1) (j2:∀ i H1 x H2,Same H H1→J.yld i H1 x H2→H2=H1∧ys[i]?=some x) (j3:∀ H1,Same H H1→J.stop ys.length H1)
    (he:∀ i y,ys[i]?=some y→∀ H1 (K':VK),Same H H1→(∀ v H2,Same H1 H2→R i v H2→K' v H2)→te (some y::rest) H1 K')
    (hQ:∀ vs H',Same H H'→H' D=some (.lst vs)→vs.length=ys.length→(∀ j v,vs[j]?=some v→R j v H')→Q (.ref D) H'):Z5a J (Z4Q 0) Z3O te D Q σ0 (upd H D (.lst [])):=by
  refine ⟨fun i m σ' H'=>m=ys.length - i∧i≤ys.length∧(∃ v,σ'=v::rest)∧Same H H'∧∃ vs,H' D=some (.lst vs)∧vs.length=i∧∀ j v,vs[j]?=some v→R j v H',⟨ys.length,by simp,Nat.zero_le _,⟨v0,e0⟩,Z0C hD _,[],Z0g,rfl,fun j v h=>by simp at h⟩,?_⟩
  rintro i m σ' H' ⟨rfl,hi,⟨v,rfl⟩,s1,vs,hv,hl,hr⟩
  by_cases hlt:i < ys.length
  · refine .inr ⟨j1 i H' s1 hlt,fun σ2 H2=>(∃ v,σ2=v::rest)∧Same H H2∧∃ vs,H2 D=some (.lst vs)∧vs.length=i+1∧∀ j v,vs[j]?=some v→R j v H2,fun σ2 H2 ⟨a,b,c⟩=>⟨ys.length - (i+1),by omega,rfl,hlt,a,b,c⟩,fun x H2 hx=>?_⟩
    obtain ⟨e1,e2⟩:=j2 i H' x H2 s1 hx
    subst e1
    unfold Z4Q Z3O
    rw [List.set_cons_zero]
    refine iteT (he i x e2 H2 _ s1 fun v H3 s3 hR=>?_)
    have h3:=s3 _ _ hv
    have sn:Z5F H3 (upd H3 D (.lst (vs++[v]))):=fun b o ho hb=>by
      rw [Z0j (fun z=>by rw [z,h3] at hb; cases hb; exact ho _ rfl)]
      exact hb
    refine ⟨vs,h3,by omega,⟨_,rfl⟩,fun b o hb=>?_,_,Z0g,by rw [List.length_append,hl]; rfl,fun j u hj=>?_⟩
    · rw [Z0j (Z0m hb hD)]
      exact s3 _ _ (s1 _ _ hb)
    · by_cases hj':j < vs.length
      · rw [List.getElem?_append_left hj'] at hj
        exact mono j u _ _ (mono j u _ _ (hr j u hj) fun b o _ hb=>s3 b o hb) sn
      · rw [List.getElem?_append_right (by omega)] at hj
        have ej:j - vs.length=0:=by
          have:=(List.getElem?_eq_some_iff.mp hj).1
          simp at this
          omega
        rw [ej] at hj
        cases hj
        have:j=i:=by omega
        subst this
        exact mono _ _ _ _ hR sn
  · have e:i=ys.length:=by omega
    subst e
    exact .inl ⟨j3 _ s1,hQ vs H' s1 hv hl hr⟩
theorem Z1x {K:W.Frag} {a:Addr} {te:TE} {Q:VK} {H:Hp} {D:Addr} {ys:List V} {σ0:St} (v0:Option V) (rest:St) (R:Nat→V→Hp→Prop) (mono:∀ j v H1 H2,R j v H1→Z5F H1 H2→R j v H2) (e0:σ0=v0::rest) (hD:H D=none) (hz:ys.length≤sizeLine) (ha:∀ H1,Same H H1→SqT K H1 a ys)
    (he:∀ i y,ys[i]?=some y→∀ H1 (K':VK),Same H H1→(∀ v H2,Same H1 H2→R i v H2→K' v H2)→te (some y::rest) H1 K')
    (hQ:∀ vs H',Same H H'→H' D=some (.lst vs)→vs.length=ys.length→(∀ j v,vs[j]?=some v→R j v H')→Q (.ref D) H'):Z5a (Itt K a) (Z4Q 0) Z3O te D Q σ0 (upd H D (.lst [])):=
  Z5g v0 rest R mono e0 hD hz (fun i H1 s h=>⟨ys,ys[i],ha H1 s,List.getElem?_eq_getElem h⟩) (fun i H1 x H2 s h=>⟨h.1,h.2 ys (ha H1 s)⟩) (fun H1 s=>⟨ys,ha H1 s,Nat.le_refl _⟩) he hQ
theorem Z9e {K:W.Frag} {a:Addr} {te:TE} {Q:VK} {H:Hp} {D:Addr} {ys:List V} {σ0:St} (v0:Option V) (rest:St) (R:Nat→V→Hp→Prop) (mono:∀ j v H1 H2,R j v H1→Z5F H1 H2→R j v H2) (e0:σ0=v0::rest) (hD:H D=none) (hz:ys.length≤sizeLine) (ha:∀ H1,Same H H1→SqL K H1 a ys)
    (he:∀ i y,ys[i]?=some y→∀ H1 (K':VK),Same H H1→(∀ v H2,Same H1 H2→R i v H2→K' v H2)→te (some y::rest) H1 K')
    (hQ:∀ vs H',Same H H'→H' D=some (.lst vs)→vs.length=ys.length→(∀ j v,vs[j]?=some v→R j v H')→Q (.ref D) H'):Z5a (Itl K a) (Z4Q 0) Z3O te D Q σ0 (upd H D (.lst [])):=
  Z5g v0 rest R mono e0 hD hz (fun i H1 s h=>⟨ys,ys[i],ha H1 s,List.getElem?_eq_getElem h⟩) (fun i H1 x H2 s h=>⟨h.1,h.2 ys (ha H1 s)⟩) (fun H1 s=>⟨ys,ha H1 s,Nat.le_refl _⟩) he hQ
end L2
end
section
namespace L2
open PySem PySem.Spec PyProof.Rows
def IsK (K:W.Frag):Prop:=True
def Ob (H:Hp) (a:Addr) (o:HO):Prop:=H a=some o
section
variable {K:W.Frag} {H H' H1 H2:Hp} {a b p:Addr} {o u:HO} {xs ys:List V}
theorem J9i:Ob H a o=(H a=some o):=rfl
grind_pattern J9i=>Ob H a o
theorem Ob.new:Ob (upd H p o) p o:=Z0g
grind_pattern Ob.new=>upd H p o
theorem Ob.same (h:Ob H a o) (s:Same H H'):Ob H' a o:=s _ _ h
grind_pattern Ob.same=>Ob H a o,Same H H'
theorem g_su (h:H p=none):Same H (upd H p o):=Z0C h o
grind_pattern g_su=>upd H p o
theorem g_st (h:Same H H1) (h':Same H1 H2):Same H H2:=h.trans h'
grind_pattern g_st=>Same H H1,Same H1 H2
theorem g_sT (h:SqT K H a xs) (s:Same H H'):SqT K H' a xs:=h.same s
grind_pattern g_sT=>SqT K H a xs,Same H H'
theorem g_sL (h:SqL K H a xs) (s:Same H H'):SqL K H' a xs:=h.same s
grind_pattern g_sL=>SqL K H a xs,Same H H'
theorem g_nT (k:IsK K) (h:Ob H a (.tup xs)):SqT K H a xs:=SqT.of h
grind_pattern g_nT=>IsK K,Ob H a (.tup xs)
theorem g_nL (k:IsK K) (h:Ob H a (.lst xs)):SqL K H a xs:=SqL.of h
grind_pattern g_nL=>IsK K,Ob H a (.lst xs)
end
section
variable {α:Type} {x y z u v:α} {xs:List α}
theorem ix2:atI (x::y::z::xs) 2=some z:=by
  have:((2:Int) < (xs.length:Int)+1+1+1):=by omega
  simp [atI,ixN,this]
theorem ix3:atI (x::y::z::u::xs) 3=some u:=by
  have:((3:Int) < (xs.length:Int)+1+1+1+1):=by omega
  simp [atI,ixN,this]
end
end L2
end
section
namespace L2
open PySem PySem.Spec PyProof.Rows
structure Z4R (K:W.Frag) (mg:Str→Option Value) (cn:Str) (C:Addr):Prop where
  mgC:mg cn=some (.ref C)
  cl:Cls K C
  mks:W.makesIn K C=true
  kp:W.keepIn K (.ref C)=true
structure MFn (K:W.Frag) (C:Addr) (m qual:Str) (st:Stmt):Prop where
  ex:∃ f fd,Fun K m qual st f fd∧Meth K C m f
structure HasM (P:Program) (w:World) (K:W.Frag) (mg:Str→Option Value) (base:Heap) (k:Nat) (C:Addr) (m:Str) (ps:List Str) (sp:Sp):Prop where
  ex:∃ f fd,FnOk P w K mg base CX0 k f fd ps sp∧Binds K fd ps []∧Meth K C m f
section
variable {P:Program} {w:World} {K:W.Frag} {mg:Str→Option Value} {base:Heap}
theorem Z4e {h:Heap} {cn:Str} {C:Addr} (X:K.In h) (G:h.Ns mainGlobals mg) (a:W.nsIn K mainGlobals cn=some (some (.ref C))) (pg:W.plainGet K C Str.empty=true) (hd:W.hasDictIn K C=true) (po:W.plainOver K C=true)
    (sa:W.findIn K (.ref C) "__setattr__"=some (some (.builtin "object.__setattr__"))) (mk:W.makesIn K C=true) (kp:W.keepIn K (.ref C)=true):Z4R K mg cn C:=⟨W.mg_of X G a,⟨pg,hd,po,sa⟩,mk,kp⟩
theorem Z0t {C:Addr} {f:Str} (h:W.findIn K (.ref C) f=some none):NoAttr K C f:=h
theorem Z0E {C:Addr} {m qual:Str} {st:Stmt} {f:Addr} {oc:Value} {od an:Option Addr} {osl:Array (Option Value)} {kV doc pm cdv ct:Value} (a:W.findIn K (.ref C) m=some (some (.ref f))) (i:W.isFn K (.ref f)=true)
    (l:K.lookup f=some ⟨oc,od,.func (W.fnOf m qual (Z0n st) (Z0l st) (Z0d st) .none kV doc pm an cdv ct),osl⟩) (c:W.codeIn K cdv qual=true) (k:W.keepIn K (.ref f)=true):MFn K C m qual st:=
  ⟨f,_,J3Q l c k,⟨a,i,k⟩⟩
theorem HasM.of {C:Addr} {m qual:Str} {st:Stmt} {N ps:List Str} {k:Nat} {sp:Sp} (F:MFn K C m qual st) (S:Z0o N ps (Z0d st))
    (hb:∀ (kV doc pm:Value) (an:Option Addr) (cdv ct:Value) (us:List Value),us.length=ps.length→bindArgs (W.fnOf m qual (Z0n st) (Z0l st) (Z0d st) .none kV doc pm an cdv ct) ⟨us,[]⟩=pure (ps.zip us))
    (len:∀ vs H Q E,sp vs H Q E→vs.length=ps.length)
    (hbody:∀ (f:Addr) (cdv:Value) (A:Around) (outer:List Env) (s:Shared) (H:Hp) (vs:List V) (Q:VK) (E:XK),Room k (A.deeper (envOfC qual (Z0d st) s.heap.objs.size f cdv))→sp vs H Q E →
      ∃ t,PSs (cxOf CX0 P w K mg base N qual (Z0d st) f cdv A outer s H E).nox (Z0l st) t∧t { nx:=fun _ H'=>Q .non H',rt:=Q } (Z4U N vs) H):HasM P w K mg base (k+1) C m ps sp:=by
  obtain ⟨f,fd,F,mm⟩:=F.ex
  exact ⟨f,fd,F.ok S len fun cdv=>hbody f cdv,F.binds hb,mm⟩
end
section
variable {X:Cx} {x m:Str} {ps:List Str} {sp:Sp} {k j:Nat} {C:Addr} {o e:Expr} {es:List Expr} {ta:TE} {t:TA} {p pos apos:Pos}
theorem J4W {pl:Sem Bool} (he:PE X o ta) (c:Cls X.K C) (h:HasM X.prog X.w X.K X.mg X.base k C m ps sp) (hr:Room j X.A) (hk:k≤j) (ha:PA X (e::es) t)
    (hst:starEach (e::es) X.env=(false,eval e X.env)::starEach es X.env:=by rfl) (hpl:(backTo pos (starEach es X.env)).any (·.1)=false:=by rfl)
    (ht:eval (.Call (.Attribute o m apos) (e::es) [] pos) X.env=(do
      let ov ← eval o X.env
      standAt apos.atName
      let (f,first) ← holding [ov] (getMethod ov m pl)
      callWith pos f first (backTo pos (starEach (e::es) X.env)) (backToKw pos (keywordEach [] X.env))):=by rfl) :
    PE X (.Call (.Attribute o m apos) (e::es) [] pos) (Z9u C m sp [] E0 ta t):=by
  obtain ⟨f,fd,F,b,mm⟩:=h.ex
  exact J4A he c mm F (hr.mono hk) b .nil Z8V ha hst hpl ht
theorem J1Z {pl:Sem Bool} (he:PE X o ta) (c:Cls X.K C) (h:HasM X.prog X.w X.K X.mg X.base k C m ps sp) (hr:Room j X.A) (hk:k≤j)
    (ht:eval (.Call (.Attribute o m apos) [] [] pos) X.env=(do
      let ov ← eval o X.env
      standAt apos.atName
      let (f,first) ← holding [ov] (getMethod ov m pl)
      callWith pos f first (backTo pos (starEach [] X.env)) (backToKw pos (keywordEach [] X.env))):=by rfl) :
    PE X (.Call (.Attribute o m apos) [] [] pos) (Z9u C m sp [] E0 ta tNil):=by
  obtain ⟨f,fd,F,b,mm⟩:=h.ex
  exact J1T he c mm F (hr.mono hk) b .nil Z8V ht
theorem Z3C (c:Z4R X.K X.mg x C) (h:HasM X.prog X.w X.K X.mg X.base k C "__init__" ps sp) (hr:Room j X.A) (hk:k+1≤j) (hg:Gl X x) (ha:PA X (e::es) t) (hdb:(x == ("__debug__":Str))=false:=by decide)
    (he:starEach (e::es) X.env=(false,eval e X.env)::starEach es X.env:=by rfl) (hpl:(backTo pos (starEach es X.env)).any (·.1)=false:=by rfl):PE X (.Call (.Name x p) (e::es) [] pos) (J1s C sp [] E0 t):=by
  obtain ⟨f,fd,F,b,mm⟩:=h.ex
  exact J5n ⟨c.mks,mm.at_,mm.fn,c.kp⟩ F (hr.mono hk) hg c.mgC b .nil Z8V ha hdb he hpl
theorem J5p (c:Z4R X.K X.mg x C) (h:HasM X.prog X.w X.K X.mg X.base k C "__init__" ps sp) (hr:Room j X.A) (hk:k+1≤j) (hg:Gl X x) (hdb:(x == ("__debug__":Str))=false:=by decide):PE X (.Call (.Name x p) [] [] pos) (J1s C sp [] E0 tNil):=by
  obtain ⟨f,fd,F,b,mm⟩:=h.ex
  exact J2d ⟨c.mks,mm.at_,mm.fn,c.kp⟩ F (hr.mono hk) hg c.mgC b .nil Z8V hdb
end
end L2
end
section
namespace L2
open PySem PySem.Spec PyProof.Rows
section
variable {X:Cx} {CX:CXT} {k:Nat} {f C:Addr} {fd:FuncData} {ps ks:List Str} {sp:Sp} {E:XK} {x m:Str} {p pos apos kpos:Pos} {e o:Expr} {es:List Expr} {kws:List Keyword} {te ta:TE} {t tk:TA} {nm:Option Str}
variable {g:List Value→List Value→List Value} {gV:List V→List V→List V}
end
section
variable {P:Program} {w:World} {K:W.Frag} {mg:Str→Option Value} {base:Heap}
end
end L2
end
section
namespace L2
open PySem PySem.Spec PyProof.Rows PySem.SeqAt
def mono (t:TE):TE:=fun σ H Q=>∃ Q0:VK,t σ H Q0∧∀ v H',Q0 v H'→Q v H'
section
variable {X:Cx} {o e value:Expr} {f:Str} {pos pos' tpos:Pos} {ta tv:TE}
theorem PE.mono {t:TE} (h:PE X e t):PE X e (mono t):=fun pins s σ H Q I ⟨Q0,h0,i⟩=>thn (h pins s σ H Q0 I h0) fun u s1 ⟨x,H1,I1,r,q⟩=>⟨x,H1,I1,r,i _ _ q⟩
def opt2 (o:Option (Option V)) (R:V→Prop):Prop:=match o with
  | some (some v)=>R v
  | _=>False
theorem J6n {v:V} {R:V→Prop}:opt2 (some (some v)) R=R v:=rfl
def Z8S (i:Nat):TE:=fun σ H Q=>opt2 σ[i]? fun v=>Q v H
theorem J8f {i:Nat} {σ:St} {H:Hp} {Q:VK}:Z8S i σ H Q=opt2 σ[i]? fun v=>Q v H:=rfl
theorem J4M {o:Option (Option V)} {R:V→Prop} (h:opt2 o R):∃ v,o=some (some v)∧R v:=by
  unfold opt2 at h
  split at h
  · exact ⟨_,rfl,h⟩
  · cases h
theorem J4F {i:Nat} {x:Str} (hN:X.N[i]?=some x) (hv:Vis X.env.scope x) (hd:(x == ("__debug__":Str))=false:=by decide) (hcd:(x == ("__classdict__":Str))=false:=by decide):PE X (.Name x pos) (Z8S i):=
  fun pins s σ H Q I h=>J6E hN hv hd hcd pins s σ H Q I (J4M h)
theorem pvF (i:Nat) {x:Str} (hN:X.N[i]?=some x:=by rfl) (hv:Vis X.env.scope x:=by first | exact Or.inl rfl | exact Or.inr (Or.inl rfl) | exact Or.inr (Or.inr rfl)) (hd:(x == ("__debug__":Str))=false:=by decide)
    (hcd:(x == ("__classdict__":Str))=false:=by decide):PE X (.Name x pos) (Z8S i):=J4F hN hv hd hcd
inductive Fld (K:W.Frag) (f:Str) (a:Addr) (H:Hp) (Q:VK):Prop
  | mk (C dx:Addr) (fs:List (Str×V)) (h:H a=some (.ins C dx fs)) (cl:Cls K C) (n:NoAttr K C f) (v:V) (l:fs.lookup f=some v) (q:Q v H):Fld K f a H Q
def Z9S (K:W.Frag) (ta:TE) (f:Str):TE:=fun σ H Q=>ta σ H fun x H1=>∃ a,x=.ref a∧Fld K f a H1 Q
theorem J7J {K:W.Frag} {σ:St} {H:Hp} {Q:VK}:Z9S K ta f σ H Q=ta σ H fun x H1=>∃ a,x=.ref a∧Fld K f a H1 Q:=rfl
theorem Z0i (he:PE X e ta) (hb:attributeBase e f X.env (eval e X.env)=eval e X.env):PE X (.Attribute e f pos) (Z9S X.K ta f):=by
  intro pins s σ H Q I h
  refine J4x hb (thn (he pins s σ H _ I h) fun u s1 hz=>?_)
  obtain ⟨x,H1,I1,rx,a,ex,hz⟩:=hz
  obtain ⟨C,dx,fs,ea,c,n,v,l,q⟩:=hz
  subst ex
  cases (show u=Value.ref a from rx)
  exact Z5t I1 ea c n l fun u' s2 I2 ru=>⟨v,H1,I2,ru,q⟩
inductive SFld (K:W.Frag) (f:Str) (a:Addr) (H:Hp) (R:Addr→Addr→List (Str×V)→Prop):Prop
  | mk (C dx:Addr) (fs:List (Str×V)) (h:H a=some (.ins C dx fs)) (cl:Cls K C) (n:NoAttr K C f) (l:fs.length < 1000) (r:R C dx fs):SFld K f a H R
def J6a (K:W.Frag) (ta tv:TE) (f:Str):TS:=fun D σ H=>tv σ H fun y H1=>ta σ H1 fun x H2=>∃ a,x=.ref a∧SFld K f a H2 fun C dx fs=>D.nx σ (upd H2 a (.ins C dx (putF f y fs)))
theorem J7R {K:W.Frag} {D:Ends} {σ:St} {H:Hp}:J6a K ta tv f D σ H=tv σ H fun y H1=>ta σ H1 fun x H2=>∃ a,x=.ref a∧SFld K f a H2 fun C dx fs=>D.nx σ (upd H2 a (.ins C dx (putF f y fs))):=rfl
theorem Z0D (ha:PE X o ta) (hv:PE X value tv) (hs:swapsWith value (some (.Attribute o f pos')) pos.line X.env=pure false):PS X (.Assign [.Attribute o f pos'] value pos) (J6a X.K ta tv f):=by
  intro pins s σ H D I h
  refine plainObj_wpAny_Assign_Attribute (thn (hv pins s σ H _ I h) fun u s1 ⟨y,H1,I1,ry,q⟩=>thn (ha pins s1 σ H1 _ I1 q) fun ov s2 hz=>?_) hs
  obtain ⟨x,H2,I2,rx,a,ex,hz⟩:=hz
  obtain ⟨C,dx,fs,ea,c,n,l,q2⟩:=hz
  subst ex
  cases (show ov=Value.ref a from rx)
  exact Z5w I2 ea c n l ry fun s3 I3=>⟨σ,_,I3,q2⟩
inductive FldC (K:W.Frag) (f:Str) (a:Addr) (H:Hp) (R:Addr→V→Prop):Prop
  | mk (C dx:Addr) (fs:List (Str×V)) (h:H a=some (.ins C dx fs)) (cl:Cls K C) (n:NoAttr K C f) (v:V) (l:fs.lookup f=some v) (q:R C v):FldC K f a H R
inductive InsC (C a:Addr) (H:Hp) (R:Addr→List (Str×V)→Prop):Prop
  | mk (dx:Addr) (fs:List (Str×V)) (h:H a=some (.ins C dx fs)) (l:fs.length < 1000) (r:R dx fs):InsC C a H R
def Z8s (K:W.Frag) (ta tv:TE) (rd:V→V→Hp→VK→Prop) (f:Str):TS:=fun D σ H=>ta σ H fun x H1=>∃ a,x=.ref a∧FldC K f a H1 fun C v=>
  tv σ H1 fun y H2=>rd v y H2 fun z H3=>InsC C a H3 fun dx' fs'=>D.nx σ (upd H3 a (.ins C dx' (putF f z fs')))
theorem J4I {K:W.Frag} {rd:V→V→Hp→VK→Prop} {D:Ends} {σ:St} {H:Hp}:Z8s K ta tv rd f D σ H=ta σ H fun x H1=>∃ a,x=.ref a∧FldC K f a H1 fun C v=>
  tv σ H1 fun y H2=>rd v y H2 fun z H3=>InsC C a H3 fun dx' fs'=>D.nx σ (upd H3 a (.ins C dx' (putF f z fs'))):=rfl
theorem Z3V {op:Operator} {rd:V→V→Hp→VK→Prop} (ha:PE X o ta) (hv:PE X value tv) (hop:InOp X op rd):PS X (.AugAssign (.Attribute o f tpos) op value pos) (Z8s X.K ta tv rd f):=by
  intro pins s σ H D I h
  refine wpAny_AugAssign_AttributeAny (thn (ha pins s σ H _ I h) fun ov s1 hz=>?_)
  obtain ⟨x,H1,I1,rx,a,ex,hz⟩:=hz
  obtain ⟨C,dx,fs,ea,c,n,v,l,q⟩:=hz
  subst ex
  cases (show ov=Value.ref a from rx)
  refine Z5t I1 ea c n l fun u s2 I2 ru=>thn (hv pins s2 σ H1 _ I2 q) fun w3 s3 ⟨y,H2,I3,ry,q3⟩=>thn (hop pins s3 σ H2 v y u w3 _ I3 ru ry q3) fun w4 s4 ⟨z,H3,I4,rz,hz⟩=>?_
  obtain ⟨dx',fs',ea',l',q4⟩:=hz
  exact Z5w I4 ea' c n l' rz fun s5 I5=>⟨σ,_,I5,q4⟩
inductive J1B (C:Addr) (m:Str) (a:Addr) (H:Hp) (R:Prop):Prop
  | mk (dx:Addr) (fs:List (Str×V)) (h:H a=some (.ins C dx fs)) (l:fs.lookup m=none) (r:R):J1B C m a H R
def Z9I (C:Addr) (m:Str) (sp:Sp) (dvs:List V) (E:XK) (ta:TE) (t:TA):TE:=fun σ H Q=>ta σ H fun x H1=>∃ a,x=.ref a∧J1B C m a H1 (t σ H1 fun vs H2=>sp (x::(vs++dvs)) H2 Q E)
theorem J5V {C:Addr} {m:Str} {sp:Sp} {dvs:List V} {E:XK} {t:TA} {σ:St} {H:Hp} {Q:VK}:Z9I C m sp dvs E ta t σ H Q=ta σ H fun x H1=>∃ a,x=.ref a∧J1B C m a H1 (t σ H1 fun vs H2=>sp (x::(vs++dvs)) H2 Q E):=rfl
variable {C:Addr} {m:Str} {ps:List Str} {sp:Sp} {k j:Nat} {es:List Expr} {t:TA} {apos:Pos}
theorem Z0r {pl:Sem Bool} (he:PE X o ta) (c:Cls X.K C) (h:HasM X.prog X.w X.K X.mg X.base k C m ps sp) (hr:Room j X.A) (hk:k≤j) (ha:PA X (e::es) t)
    (hst:starEach (e::es) X.env=(false,eval e X.env)::starEach es X.env:=by rfl) (hpl:(backTo pos (starEach es X.env)).any (·.1)=false:=by rfl)
    (ht:eval (.Call (.Attribute o m apos) (e::es) [] pos) X.env=(do
      let ov ← eval o X.env
      standAt apos.atName
      let (f,first) ← holding [ov] (getMethod ov m pl)
      callWith pos f first (backTo pos (starEach (e::es) X.env)) (backToKw pos (keywordEach [] X.env))):=by rfl) :
    PE X (.Call (.Attribute o m apos) (e::es) [] pos) (Z9I C m sp [] E0 ta t):=
  fun pins s σ H Q I h'=>J4W he.mono c h hr hk ha hst hpl ht pins s σ H Q I ⟨_,h',fun _ _ ⟨a,e,dx,fs,h,l,r⟩=>⟨a,dx,fs,e,h,l,r⟩⟩
theorem Z0Y {pl:Sem Bool} (he:PE X o ta) (c:Cls X.K C) (h:HasM X.prog X.w X.K X.mg X.base k C m ps sp) (hr:Room j X.A) (hk:k≤j)
    (ht:eval (.Call (.Attribute o m apos) [] [] pos) X.env=(do
      let ov ← eval o X.env
      standAt apos.atName
      let (f,first) ← holding [ov] (getMethod ov m pl)
      callWith pos f first (backTo pos (starEach [] X.env)) (backToKw pos (keywordEach [] X.env))):=by rfl) :
    PE X (.Call (.Attribute o m apos) [] [] pos) (Z9I C m sp [] E0 ta tNil):=
  fun pins s σ H Q I h'=>J1Z he.mono c h hr hk ht pins s σ H Q I ⟨_,h',fun _ _ ⟨a,e,dx,fs,h,l,r⟩=>⟨a,dx,fs,e,h,l,r⟩⟩
inductive IxT (K:W.Frag) (p:Addr) (i:Int) (H:Hp) (Q:VK):Prop
  | mk (xs:List V) (h:SqT K H p xs) (v:V) (l:atI xs i=some v) (q:Q v H):IxT K p i H Q
inductive IxL (K:W.Frag) (p:Addr) (i:Int) (H:Hp) (Q:VK):Prop
  | mk (xs:List V) (h:SqL K H p xs) (v:V) (l:atI xs i=some v) (q:Q v H):IxL K p i H Q
def Z2o (K:W.Frag):R2:=fun x y H Q=>∃ p,x=.ref p∧∃ i,y=.int i∧IxT K p i H Q
def Z1p (K:W.Frag):R2:=fun x y H Q=>∃ p,x=.ref p∧∃ i,y=.int i∧IxL K p i H Q
theorem J7N {K:W.Frag} {x y:V} {H:Hp} {Q:VK}:Z2o K x y H Q=∃ p,x=.ref p∧∃ i,y=.int i∧IxT K p i H Q:=rfl
theorem J8c {K:W.Frag} {x y:V} {H:Hp} {Q:VK}:Z1p K x y H Q=∃ p,x=.ref p∧∃ i,y=.int i∧IxL K p i H Q:=rfl
theorem Z0W:IxR X (Z2o X.K):=fun value slice pins s σ H x y v u Q I rx ry ⟨p,e1,i,e2,xs,h,z,l,q⟩ hs=>J7x value slice pins s σ H x y v u Q I rx ry ⟨p,xs,i,z,e1,e2,h,l,q⟩ hs
theorem Z0z:IxR X (Z1p X.K):=fun value slice pins s σ H x y v u Q I rx ry ⟨p,e1,i,e2,xs,h,z,l,q⟩ hs=>J5B value slice pins s σ H x y v u Q I rx ry ⟨p,xs,i,z,e1,e2,h,l,q⟩ hs
inductive SetL (p:Addr) (k:Int) (H:Hp) (R:List V→Nat→Prop):Prop
  | mk (xs:List V) (h:H p=some (.lst xs)) (j:Nat) (l:ixN xs.length k=some j) (r:R xs j):SetL p k H R
def J3V:TSet:=fun o i v H Q=>∃ p,o=.ref p∧∃ k,i=.int k∧SetL p k H fun xs j=>Q (upd H p (.lst (xs.set j v)))
theorem J6Q {o i v:V} {H:Hp} {Q:Hp→Prop}:J3V o i v H Q=∃ p,o=.ref p∧∃ k,i=.int k∧SetL p k H fun xs j=>Q (upd H p (.lst (xs.set j v))):=rfl
theorem Z3Q:PSet X J3V:=fun pins s σ H o i v ov iv u Q I ro ri rv ⟨p,e1,k,e2,xs,h,j,l,q⟩=>J2D pins s σ H o i v ov iv u Q I ro ri rv ⟨p,xs,k,j,e1,e2,h,l,q⟩
inductive HdOf (vs:List V) (R:V→List V→Prop):Prop
  | mk (v:V) (r:List V) (e:vs=v::r) (q:R v r):HdOf vs R
inductive J4Y (K:W.Frag) (a:Addr) (n:Nat) (H:Hp) (R:List V→Prop):Prop
  | mk (xs:List V) (h:SqT K H a xs) (l:xs.length=n) (q:R xs):J4Y K a n H R
def Z7c (K:W.Frag) (n:Nat) (t:TGs):TG:=fun v σ H Q=>∃ a,v=.ref a∧J4Y K a n H fun xs=>t xs σ H Q
theorem J8r {K:W.Frag} {n:Nat} {t:TGs} {v:V} {σ:St} {H:Hp} {Q:St→Hp→Prop}:Z7c K n t v σ H Q=∃ a,v=.ref a∧J4Y K a n H fun xs=>t xs σ H Q:=rfl
def Z8D (t:TG) (u:TGs):TGs:=fun vs σ H Q=>HdOf vs fun v r=>t v σ H fun σ' H'=>u r σ' H' Q
theorem J5K {t:TG} {u:TGs} {vs:List V} {σ:St} {H:Hp} {Q:St→Hp→Prop}:Z8D t u vs σ H Q=HdOf vs fun v r=>t v σ H fun σ' H'=>u r σ' H' Q:=rfl
theorem Z0w {e:Expr} {es:List Expr} {t:TG} {u:TGs} (h1:PG X e t) (h2:PGs X es u)
    (hs:(assignEach (e::es) X.env).map (·.2)=assign e X.env::(assignEach es X.env).map (·.2):=by rfl):PGs X (e::es) (Z8D t u):=
  fun pins s σ H vs us Q I r ⟨v,w,e,q⟩=>J1V h1 h2 hs pins s σ H vs us Q I r ⟨v,w,e,q⟩
theorem Z2v {es:List Expr} {k:Nat} {t:TGs} {n:Nat} (hc:X.calm=true) (h:PGs X es t)
    (hn:(assignEach es X.env).length=n:=by rfl) (hst:(assignEach es X.env).findIdx? (·.1)=none:=by rfl):PG X (.Tuple es k pos) (Z7c X.K n t):=
  fun pins s σ H v u Q I r ⟨a,e,xs,h',l,q⟩=>J7e hc h hn hst pins s σ H v u Q I r ⟨a,xs,e,h',l,q⟩
end
@[elab_as_elim] theorem el0 {α:Type} {motive:List α→Prop} (us:List α) (h:us.length=0) (k:motive []):motive us:=match us,h with | [],_=>k 
@[elab_as_elim] theorem el1 {α:Type} {motive:List α→Prop} (us:List α) (h:us.length=1) (k:∀ a:α,motive [a]):motive us:=match us,h with | [a],_=>k a
@[elab_as_elim] theorem el2 {α:Type} {motive:List α→Prop} (us:List α) (h:us.length=2) (k:∀ a b:α,motive [a,b]):motive us:=match us,h with | [a,b],_=>k a b
@[elab_as_elim] theorem el3 {α:Type} {motive:List α→Prop} (us:List α) (h:us.length=3) (k:∀ a b c:α,motive [a,b,c]):motive us:=match us,h with | [a,b,c],_=>k a b c
@[elab_as_elim] theorem el4 {α:Type} {motive:List α→Prop} (us:List α) (h:us.length=4) (k:∀ a b c d:α,motive [a,b,c,d]):motive us:=match us,h with | [a,b,c,d],_=>k a b c d
@[elab_as_elim] theorem el5 {α:Type} {motive:List α→Prop} (us:List α) (h:us.length=5) (k:∀ a b c d e:α,motive [a,b,c,d,e]):motive us:=match us,h with | [a,b,c,d,e],_=>k a b c d e
@[elab_as_elim] theorem el6 {α:Type} {motive:List α→Prop} (us:List α) (h:us.length=6) (k:∀ a b c d e f:α,motive [a,b,c,d,e,f]):motive us:=match us,h with | [a,b,c,d,e,f],_=>k a b c d e f
@[elab_as_elim] theorem el7 {α:Type} {motive:List α→Prop} (us:List α) (h:us.length=7) (k:∀ a b c d e f g:α,motive [a,b,c,d,e,f,g]):motive us:=match us,h with | [a,b,c,d,e,f,g],_=>k a b c d e f g
theorem seq2 {t1 t2:TS} {D:Ends} {σ:St} {H:Hp} (h:∀ u1,u1=t2→t1 { D with nx:=u1 D } σ H):(tSeq t1 t2) D σ H:=h _ rfl
theorem seq3 {t1 t2 t3:TS} {D:Ends} {σ:St} {H:Hp} (h:∀ u2,u2=t3→∀ u1,u1=tSeq t2 u2→t1 { D with nx:=u1 D } σ H):(tSeq t1 (tSeq t2 t3)) D σ H:=h _ rfl _ rfl
theorem seq4 {t1 t2 t3 t4:TS} {D:Ends} {σ:St} {H:Hp} (h:∀ u3,u3=t4→∀ u2,u2=tSeq t3 u3→∀ u1,u1=tSeq t2 u2→t1 { D with nx:=u1 D } σ H):(tSeq t1 (tSeq t2 (tSeq t3 t4))) D σ H:=h _ rfl _ rfl _ rfl
theorem seq6 {t1 t2 t3 t4 t5 t6:TS} {D:Ends} {σ:St} {H:Hp} (h:∀ u5,u5=t6→∀ u4,u4=tSeq t5 u5→∀ u3,u3=tSeq t4 u4→∀ u2,u2=tSeq t3 u3→∀ u1,u1=tSeq t2 u2→t1 { D with nx:=u1 D } σ H):(tSeq t1 (tSeq t2 (tSeq t3 (tSeq t4 (tSeq t5 t6))))) D σ H:=h _ rfl _ rfl _ rfl _ rfl _ rfl
theorem seq7 {t1 t2 t3 t4 t5 t6 t7:TS} {D:Ends} {σ:St} {H:Hp} (h:∀ u6,u6=t7→∀ u5,u5=tSeq t6 u6→∀ u4,u4=tSeq t5 u5→∀ u3,u3=tSeq t4 u4→∀ u2,u2=tSeq t3 u3→∀ u1,u1=tSeq t2 u2→t1 { D with nx:=u1 D } σ H):(tSeq t1 (tSeq t2 (tSeq t3 (tSeq t4 (tSeq t5 (tSeq t6 t7)))))) D σ H:=h _ rfl _ rfl _ rfl _ rfl _ rfl _ rfl
theorem seq9 {t1 t2 t3 t4 t5 t6 t7 t8 t9:TS} {D:Ends} {σ:St} {H:Hp} (h:∀ u8,u8=t9→∀ u7,u7=tSeq t8 u8→∀ u6,u6=tSeq t7 u7→∀ u5,u5=tSeq t6 u6→∀ u4,u4=tSeq t5 u5→∀ u3,u3=tSeq t4 u4→∀ u2,u2=tSeq t3 u3→∀ u1,u1=tSeq t2 u2→t1 { D with nx:=u1 D } σ H):(tSeq t1 (tSeq t2 (tSeq t3 (tSeq t4 (tSeq t5 (tSeq t6 (tSeq t7 (tSeq t8 t9)))))))) D σ H:=h _ rfl _ rfl _ rfl _ rfl _ rfl _ rfl _ rfl _ rfl
theorem J7u {t1 t2 t3 t4 t5 t6 t7 t8 t9 t10 t11 t12:TS} {D:Ends} {σ:St} {H:Hp} (h:∀ u11,u11=t12→∀ u10,u10=tSeq t11 u11→∀ u9,u9=tSeq t10 u10→∀ u8,u8=tSeq t9 u9→∀ u7,u7=tSeq t8 u8→∀ u6,u6=tSeq t7 u7→∀ u5,u5=tSeq t6 u6→∀ u4,u4=tSeq t5 u5→∀ u3,u3=tSeq t4 u4→∀ u2,u2=tSeq t3 u3→∀ u1,u1=tSeq t2 u2→t1 { D with nx:=u1 D } σ H):(tSeq t1 (tSeq t2 (tSeq t3 (tSeq t4 (tSeq t5 (tSeq t6 (tSeq t7 (tSeq t8 (tSeq t9 (tSeq t10 (tSeq t11 t12))))))))))) D σ H:=h _ rfl _ rfl _ rfl _ rfl _ rfl _ rfl _ rfl _ rfl _ rfl _ rfl _ rfl
def New (H:Hp) (o:HO) (R:Addr→Hp→Prop):Prop:=∀ p,H p=none→R p (upd H p o)
theorem New.of {H:Hp} {o:HO} {R:Addr→Hp→Prop} (h:∀ p H',H p=none→Same H H'→H' p=some o→R p H'):New H o R:=fun p hp=>h p _ hp (Z0C hp o) Z0g
theorem J8F {t:TA} {σ:St} {H:Hp} {Q:VK}:tTup t σ H Q=(t σ H fun xs H1=>xs.length≤sizeLine∧New H1 (.tup xs) fun p H2=>Q (.ref p) H2):=rfl
theorem J8V {t:TA} {σ:St} {H:Hp} {Q:VK}:tLst t σ H Q=(t σ H fun xs H1=>xs.length≤sizeLine∧New H1 (.lst xs) fun p H2=>Q (.ref p) H2):=rfl
theorem J8t {K:W.Frag} {x:V} {lo:Option Int} {hi:Option Int} {H:Hp} {Q:VK}:rSlL K x lo hi H Q=(∃ a xs,x=.ref a∧SqL K H a xs∧New H (.lst (cutV xs lo hi)) fun p H2=>Q (.ref p) H2):=rfl
theorem J9u {x:V} {y:V} {H:Hp} {Q:VK}:rCat  x y H Q=(∃ l b xs zs,x=.ref l∧y=.ref b∧H l=some (.lst xs)∧H b=some (.lst zs)∧xs.length+zs.length≤sizeLine∧New H (.lst (xs++zs)) fun p H2=>Q (.ref p) H2):=rfl
end L2
end
section
namespace TM
open PySem L2 P15
structure Kp (H H':Hp):Prop where
  t:∀ b xs,H b=some (.tup xs)→H' b=some (.tup xs)
  z:∀ b o xs,H b=some (.frz o (.tup xs))→H' b=some (.frz o (.tup xs))
  i:∀ b C dx f fs,H b=some (.ins C dx (f::fs))→H' b=some (.ins C dx (f::fs))
theorem Kp.trans {H H' H'':Hp} (a:Kp H H') (b:Kp H' H''):Kp H H'':=⟨fun _ _ h=>b.t _ _ (a.t _ _ h),fun _ _ _ h=>b.z _ _ _ (a.z _ _ _ h),fun _ _ _ _ _ h=>b.i _ _ _ _ _ (a.i _ _ _ _ _ h)⟩
theorem Kp.of {H H':Hp} (s:Same H H'):Kp H H':=⟨fun _ _ h=>s _ _ h,fun _ _ _ h=>s _ _ h,fun _ _ _ _ _ h=>s _ _ h⟩
theorem Kp.put {H:Hp} {a:Addr} {u:HO} (o:HO) (h:H a=some u) (n1:∀ xs,u≠.tup xs) (n2:∀ o xs,u≠.frz o (.tup xs)) (n3:∀ C dx f fs,u≠.ins C dx (f::fs)):Kp H (upd H a o):=by
  refine ⟨fun b xs e=>?_,fun b o xs e=>?_,fun b C dx f fs e=>?_⟩
  · rw [Z0j (fun z=>by rw [z,h] at e; cases e; exact n1 _ rfl)]; exact e
  · rw [Z0j (fun z=>by rw [z,h] at e; cases e; exact n2 _ _ rfl)]; exact e
  · rw [Z0j (fun z=>by rw [z,h] at e; cases e; exact n3 _ _ _ _ rfl)]; exact e
theorem Kp.lst {H:Hp} {a:Addr} {xs:List V} (o:HO) (h:H a=some (.lst xs)):Kp H (upd H a o):=Kp.put o h (fun _ z=>by cases z) (fun _ _ z=>by cases z) (fun _ _ _ _ z=>by cases z)
structure Kt (H H':Hp):Prop where
  t:∀ b xs,H b=some (.tup xs)→H' b=some (.tup xs)
  z:∀ b o xs,H b=some (.frz o (.tup xs))→H' b=some (.frz o (.tup xs))
theorem Kp.kt {H H':Hp} (k:Kp H H'):Kt H H':=⟨k.t,k.z⟩
theorem Kt.put {H:Hp} {a:Addr} {u:HO} (o:HO) (h:H a=some u) (n1:∀ xs,u≠.tup xs) (n2:∀ o xs,u≠.frz o (.tup xs)):Kt H (upd H a o):=by
  refine ⟨fun b xs e=>?_,fun b o xs e=>?_⟩
  · rw [Z0j (fun z=>by rw [z,h] at e; cases e; exact n1 _ rfl)]; exact e
  · rw [Z0j (fun z=>by rw [z,h] at e; cases e; exact n2 _ _ rfl)]; exact e
theorem SqT.kt {K:W.Frag} {H H':Hp} {a:Addr} {xs:List V} (h:SqT K H a xs) (k:Kt H H'):SqT K H' a xs:=by
  rcases h with (h | ⟨o,h⟩) | h
  · exact .inl (.inl (k.t _ _ h))
  · exact .inl (.inr ⟨o,k.z _ _ _ h⟩)
  · exact .inr h
theorem SqT.kp {K:W.Frag} {H H':Hp} {a:Addr} {xs:List V} (h:SqT K H a xs) (k:Kp H H'):SqT K H' a xs:=SqT.kt h k.kt
mutual
inductive RT (K:W.Frag) (H:Hp):V→PyData→Prop
  | non:RT K H .non .none
  | bl (b:Bool):RT K H (.bl b) (.bool b)
  | int (i:Int):RT K H (.int i) (.int i)
  | str (x:Str):RT K H (.str x) (.str x)
  | tup {a:Addr} {xs:List V} {ds:List PyData}:SqT K H a xs→RTs K H xs ds→RT K H (.ref a) (.tuple ds)
inductive RTs (K:W.Frag) (H:Hp):List V→List PyData→Prop
  | nil:RTs K H [] []
  | cons {v:V} {vs:List V} {d:PyData} {ds:List PyData}:RT K H v d→RTs K H vs ds→RTs K H (v::vs) (d::ds)
end
section
variable {K:W.Frag} {H H':Hp}
mutual
theorem RT.rd:∀ {v:V} {d:PyData},RT K H v d→RdD K H v d
  | _,_,.non=>.non
  | _,_,.bl b=>.bl b
  | _,_,.int i=>.int i
  | _,_,.str x=>.str x
  | _,_,.tup hq hs=>.tup hq (RTs.rd hs)
theorem RTs.rd:∀ {vs:List V} {ds:List PyData},RTs K H vs ds→RdDs K H vs ds
  | _,_,.nil=>.nil
  | _,_,.cons h hs=>.cons (RT.rd h) (RTs.rd hs)
end
mutual
theorem RT.kt (k:Kt H H'):∀ {v:V} {d:PyData},RT K H v d→RT K H' v d
  | _,_,.non=>.non
  | _,_,.bl b=>.bl b
  | _,_,.int i=>.int i
  | _,_,.str x=>.str x
  | _,_,.tup hq hs=>.tup (SqT.kt hq k) (RTs.kt k hs)
theorem RTs.kt (k:Kt H H'):∀ {vs:List V} {ds:List PyData},RTs K H vs ds→RTs K H' vs ds
  | _,_,.nil=>.nil
  | _,_,.cons h hs=>.cons (RT.kt k h) (RTs.kt k hs)
end
theorem RT.kp {v:V} {d:PyData} (k:Kp H H') (h:RT K H v d):RT K H' v d:=h.kt k.kt
theorem RTs.kp {vs:List V} {ds:List PyData} (k:Kp H H') (h:RTs K H vs ds):RTs K H' vs ds:=h.kt k.kt
theorem RT.same {v:V} {d:PyData} (h:RT K H v d) (s:Same H H'):RT K H' v d:=h.kp (Kp.of s)
theorem RTs.same {vs:List V} {ds:List PyData} (h:RTs K H vs ds) (s:Same H H'):RTs K H' vs ds:=h.kp (Kp.of s)
theorem RT.str_inv {v:V} {x:Str} (h:RT K H v (.str x)):v=.str x:=by cases h; rfl
theorem RT.tup_inv {v:V} {ds:List PyData} (h:RT K H v (.tuple ds)):∃ a xs,v=.ref a∧SqT K H a xs∧RTs K H xs ds:=by
  cases h with
  | tup a b=>exact ⟨_,_,rfl,a,b⟩
theorem RTs.inv {vs:List V} {d:PyData} {ds:List PyData} (h:RTs K H vs (d::ds)):∃ v r,vs=v::r∧RT K H v d∧RTs K H r ds:=by
  cases h with
  | cons a b=>exact ⟨_,_,rfl,a,b⟩
theorem RTs.nil_inv {vs:List V} (h:RTs K H vs []):vs=[]:=by cases h; rfl
theorem RTs.length:∀ {vs:List V} {ds:List PyData},RTs K H vs ds→vs.length=ds.length
  | _,_,.nil=>rfl
  | _,_,.cons _ hs=>congrArg (·+1) (RTs.length hs)
theorem RTs.app:∀ {xs ys:List V} {ds es:List PyData},RTs K H xs ds→RTs K H ys es→RTs K H (xs++ys) (ds++es)
  | _,_,_,_,.nil,h=>h
  | _,_,_,_,.cons a b,h=>.cons a (RTs.app b h)
theorem RTs.at:∀ {vs:List V} {ds:List PyData} {i:Nat} {v:V},RTs K H vs ds→vs[i]?=some v→∃ d,ds[i]?=some d∧RT K H v d
  | _,_,0,_,.cons a _,h=>by cases h; exact ⟨_,rfl,a⟩
  | _,_,i+1,_,.cons _ b,h=>by have:=RTs.at (i:=i) b h; exact this
end
noncomputable def lbV:Lb→V
  | .non=>.non | .int i=>.int i | .bl b=>.bl b | .str x=>.str x
theorem J3n {K:W.Frag} {H:Hp}:∀ l:Lb,RT K H (lbV l) l.d
  | .non=>.non | .int i=>.int i | .bl b=>.bl b | .str x=>.str x
theorem J4j {K:W.Frag} {H:Hp} {v:V}:∀ {l:Lb},RT K H v l.d→v=lbV l
  | .non,h=>by cases h; rfl
  | .int i,h=>by cases h; rfl
  | .bl b,h=>by cases h; rfl
  | .str x,h=>by cases h; rfl
theorem Z1o:∀ ts:List Tm,(dats ts).length=ts.length
  | []=>rfl
  | _::ts=>congrArg (·+1) (Z1o ts)
theorem Z3A:∀ xs ys:List Tm,dats (xs++ys)=dats xs++dats ys
  | [],_=>rfl
  | x::xs,ys=>congrArg (x.dat::·) (Z3A xs ys)
theorem Z9t:∀ {ts:List Tm} {i:Nat} {d:PyData},(dats ts)[i]?=some d→∃ t,ts[i]?=some t∧d=t.dat
  | t::ts,0,d,h=>by cases h; exact ⟨t,rfl,rfl⟩
  | t::ts,i+1,d,h=>by have:=Z9t (ts:=ts) (i:=i) h; exact this
noncomputable def fsT (f:Fm) (l:Lb) (inn sh:Addr) (d m:Nat):List (Str×V):=[("form",.str f.s),("label",lbV l),("inner",.ref inn),("deep",.int d),("many",.int m),("shape",.ref sh)]
mutual
inductive TO (K:W.Frag) (C:Addr) (H:Hp):V→Tm→Prop
  | mk {a dx inn sh:Addr} {f:Fm} {l:Lb} {ps:List Tm} {vs ws:List V}:H a=some (.ins C dx (fsT f l inn sh (1+maxD ps) (1+sumS ps)))→SqT K H inn vs→TOs K C H vs ps→SqT K H sh ws→RTs K H ws (Z3g f l (dats ps))→TO K C H (.ref a) (.mk f l ps)
inductive TOs (K:W.Frag) (C:Addr) (H:Hp):List V→List Tm→Prop
  | nil:TOs K C H [] []
  | cons {v:V} {vs:List V} {t:Tm} {ts:List Tm}:TO K C H v t→TOs K C H vs ts→TOs K C H (v::vs) (t::ts)
end
section
variable {K:W.Frag} {C:Addr} {H H':Hp}
mutual
theorem TO.kp (k:Kp H H'):∀ {v:V} {t:Tm},TO K C H v t→TO K C H' v t
  | _,_,.mk a b c d e=>.mk (k.i _ _ _ _ _ a) (SqT.kp b k) (TOs.kp k c) (SqT.kp d k) (e.kp k)
theorem TOs.kp (k:Kp H H'):∀ {vs:List V} {ts:List Tm},TOs K C H vs ts→TOs K C H' vs ts
  | _,_,.nil=>.nil
  | _,_,.cons h hs=>.cons (TO.kp k h) (TOs.kp k hs)
end
theorem TO.inv {v:V} {t:Tm} (h:TO K C H v t):∃ a dx inn sh vs ws,v=.ref a∧H a=some (.ins C dx (fsT t.f t.l inn sh t.depth t.size))∧SqT K H inn vs∧TOs K C H vs t.ps∧SqT K H sh ws∧RTs K H ws (Z3g t.f t.l (dats t.ps)):=by
  cases h with
  | mk a b c d e=>exact ⟨_,_,_,_,_,_,rfl,a,b,c,d,e⟩
theorem TOs.length:∀ {vs:List V} {ts:List Tm},TOs K C H vs ts→vs.length=ts.length
  | _,_,.nil=>rfl
  | _,_,.cons _ hs=>congrArg (·+1) (TOs.length hs)
theorem TOs.app:∀ {xs ys:List V} {ts us:List Tm},TOs K C H xs ts→TOs K C H ys us→TOs K C H (xs++ys) (ts++us)
  | _,_,_,_,.nil,h=>h
  | _,_,_,_,.cons a b,h=>.cons a (TOs.app b h)
theorem TOs.split:∀ {ts us:List Tm} {vs:List V},TOs K C H vs (ts++us)→∃ xs ys,vs=xs++ys∧TOs K C H xs ts∧TOs K C H ys us
  | [],us,vs,h=>⟨[],vs,rfl,.nil,h⟩
  | t::ts,us,_,.cons a b=>by
    obtain ⟨xs,ys,rfl,h1,h2⟩:=TOs.split b
    exact ⟨_::xs,ys,rfl,.cons a h1,h2⟩
theorem TOs.at:∀ {vs:List V} {ts:List Tm} {i:Nat} {v:V},TOs K C H vs ts→vs[i]?=some v→∃ t,ts[i]?=some t∧TO K C H v t
  | _,_,0,_,.cons a _,h=>by cases h; exact ⟨_,rfl,a⟩
  | _,_,i+1,_,.cons _ b,h=>by have:=TOs.at (i:=i) b h; exact this
end
def SX (x:Addr) (H H':Hp):Prop:=∀ b o,b≠x→H b=some o→H' b=some o
theorem SX.of {x:Addr} {H H':Hp} (s:Same H H'):SX x H H':=fun b o _ h=>s b o h
theorem SX.trans {x:Addr} {H H' H'':Hp} (a:SX x H H') (b:SX x H' H''):SX x H H'':=fun c o n h=>b c o n (a c o n h)
theorem SX.put {x:Addr} {H:Hp} (o:HO):SX x H (upd H x o):=fun b u n h=>by rw [Z0j n]; exact h
theorem SX.kp {x C dx:Addr} {H H':Hp} (s:SX x H H') (hx:H x=some (.ins C dx [])):Kp H H':=
  ⟨fun b xs h=>s b _ (fun z=>by rw [z,hx] at h; cases h) h,fun b o xs h=>s b _ (fun z=>by rw [z,hx] at h; cases h) h,fun b C dx f fs h=>s b _ (fun z=>by rw [z,hx] at h; cases h) h⟩
theorem SX.sqL {K:W.Frag} {x C dx a:Addr} {fs:List (Str×V)} {xs:List V} {H H':Hp} (s:SX x H H') (hx:H x=some (.ins C dx fs)) (h:SqL K H a xs):SqL K H' a xs:=by
  rcases h with (h | ⟨o,h⟩) | h
  · exact .inl (.inl (s _ _ (fun z=>by rw [z,hx] at h; cases h) h))
  · exact .inl (.inr ⟨o,s _ _ (fun z=>by rw [z,hx] at h; cases h) h⟩)
  · exact .inr h
theorem SX.sqT {K:W.Frag} {x C dx a:Addr} {fs:List (Str×V)} {xs:List V} {H H':Hp} (s:SX x H H') (hx:H x=some (.ins C dx fs)) (h:SqT K H a xs):SqT K H' a xs:=by
  rcases h with (h | ⟨o,h⟩) | h
  · exact .inl (.inl (s _ _ (fun z=>by rw [z,hx] at h; cases h) h))
  · exact .inl (.inr ⟨o,s _ _ (fun z=>by rw [z,hx] at h; cases h) h⟩)
  · exact .inr h
theorem J1u:∀ {ts:List Tm} {t:Tm},t∈ts→t.depth≤maxD ts
  | u::ts,t,h=>by
    show t.depth≤max u.depth (maxD ts)
    rcases (List.mem_cons.mp h) with rfl | h
    · exact Nat.le_max_left _ _
    · exact Nat.le_trans (J1u h) (Nat.le_max_right _ _)
theorem J0C {n:Nat}:∀ {ts:List Tm},(∀ t∈ts,t.depth≤n)→maxD ts≤n
  | [],_=>Nat.zero_le _
  | t::ts,h=>Nat.max_le.mpr ⟨h t List.mem_cons_self,J0C fun u hu=>h u (List.mem_cons_of_mem _ hu)⟩
end TM
end
section
namespace L2
open PySem
structure Z8U (P:Program) (w:World) (A:Around) (it Z:Addr) (n:Nat) (St:Nat→Array Value→Shared→Prop) (Fin:Array Value→Shared→Prop):Prop where
  item:∀ (i:Nat) (acc:Array Value) (s:Shared) (Q:Option Value→Shared→Prop) (E:Value→Shared→Prop),i < n→St i acc s→(∀ v s',St (i+1) (acc.push v) s'→(∀ o,s.heap.get? Z=some o→s'.heap.get? Z=some o)→Q (some v) s')→wpAny (model P w) A (pyNext (.ref it)) Q E s
  done:∀ (acc:Array Value) (s:Shared) (Q:Option Value→Shared→Prop) (E:Value→Shared→Prop),St n acc s→(∀ s',Fin acc s'→(∀ o,s.heap.get? Z=some o→s'.heap.get? Z=some o)→Q none s')→wpAny (model P w) A (pyNext (.ref it)) Q E s
  size:∀ i acc s,St i acc s→acc.size=i
  frame:∀ i acc s h',St i acc s→(∀ b o,b≠Z→s.heap.get? b=some o→h'.get? b=some o)→h'.objs.size=s.heap.objs.size→St i acc { s with heap:=h' }
section
variable {P:Program} {w:World} {B:Around} {E:Value→Shared→Prop} {s:Shared} {it Z:Addr} {n:Nat} {St:Nat→Array Value→Shared→Prop} {Fin:Array Value→Shared→Prop} {R:Result→Shared→Prop}
theorem Z9W (W:Z8U P w B.in1 it Z n St Fin) (hn:n≤sizeLine) (res:Value):∀ (k i:Nat) (s:Shared) (acc:Array Value) (c:Nat),n - i=k→i≤n→St i acc s→s.heap.get? Z=some { cls:=.type "list",dict:=none,data:=.seq acc c,slots:=#[] } →
    (∀ s' acc' c',Fin acc' s'→s'.heap.get? Z=some { cls:=.type "list",dict:=none,data:=.seq acc' c',slots:=#[] }→acc'.size=n→R (.ok (.ret res)) s')→codeAny (model P w) B (.builtin "list.extend.loop" ⟨[.ref Z,.ref it,res],[]⟩) R s:=by
  intro k
  induction k with
  | zero=>
    intro i s acc c hk hi st g q
    have ei:i=n:=Nat.le_antisymm hi (Nat.sub_eq_zero_iff_le.mp hk)
    subst ei
    refine codeAny_builtin F.entry_extend_loop ?_; rw [Around.under_plainId F.plain_extend_loop ⟨[.ref Z,.ref it,res],[]⟩]
    show wpAny (model P w) B.in1 (pyNext (.ref it) >>= _) _ _ s; refine wpAny_bind (W.done acc s _ _ st fun s' f kz=>wpAny_pure ?_)
    exact q s' acc c f (kz _ g) (W.size _ _ _ st)
  | succ k ih=>
    intro i s acc c hk hi st g q
    have lt:i < n:=by omega
    refine codeAny_builtin F.entry_extend_loop ?_; rw [Around.under_plainId F.plain_extend_loop ⟨[.ref Z,.ref it,res],[]⟩]
    show wpAny (model P w) B.in1 (pyNext (.ref it) >>= _) _ _ s; refine wpAny_bind (W.item i acc s _ _ lt st fun v s1 st1 kz=>?_)
    have g1:=kz _ g
    have ez:=W.size _ _ _ st
    show wpAny (model P w) B.in1 (updateSeq Z (·.push v) >>= _) _ _ _; refine wpAny_bind ?_
    refine wpAny_updateSeq g1 rfl (wpAny_pure ⟨plainId_quiet F.plain_extend_loop ⟨[.ref Z,.ref it,res],[]⟩,ih (i+1) _ (acc.push v) _ (by omega) lt (W.frame _ _ _ _ st1 (fun b o hb e=>?_) (by simp [Heap.update])) (Heap.get?_update_self _ g1 rfl) q⟩) (by rw [ez]; omega) (by show (acc.push v).size≤sizeLine+1; rw [Array.size_push,ez]; omega)
    exact (Heap.get?_update_other _ _ (Ne.symm hb)).trans e
def J6I (P:Program) (w:World) (it:Addr) (St:Shared→Prop):Prop:=∀ (A:Around) (s:Shared) (Q:Bool→Shared→Prop) (E:Value→Shared→Prop),St s→(∀ b,Q b s)→wpAny (model P w) A (Builtin.List.listLengthHint (.ref it)) Q E s
theorem Z9x {T:String} {Q:Value→Shared→Prop} (hT:∀ s,St 0 #[] s→s.TypeIs (.ref it) T) (h1:(Value.type T == Value.type "list")=false) (h2:(Value.type T == Value.type "tuple")=false) (hZI:s.heap.objs.size≠it)
    (W:Z8U P w B.in1.in1 it s.heap.objs.size n St Fin) (hs:∀ (A:Around) (s:Shared) (Q:Value→Shared→Prop) (E:Value→Shared→Prop),St 0 #[] s→Q (.ref it) s→wpAny (model P w) A (pyIter (.ref it)) Q E s) (hh:J6I P w it (St 0 #[]))
    (st:St 0 #[] { s with heap:=s.heap.push { cls:=.type "list",data:=.seq #[] } })
    (hQ:∀ s' acc c,Fin acc s'→s'.heap.get? s.heap.objs.size=some { cls:=.type "list",dict:=none,data:=.seq acc c,slots:=#[] }→acc.size=n→Q (.ref s.heap.objs.size) s')
    (hn:n≤sizeLine):wpAny (model P w) B (call (.type "list") [.ref it]) Q E s:=by
  refine callType_codes (Q₁:=fun o s1=>o=.ref s.heap.objs.size∧s1={ s with heap:=s.heap.push { cls:=.type "list",data:=.seq #[] } }) F.called_list (F.typeCall_list_1 _) F.entry_list_init (code_list_new _ ⟨rfl,rfl⟩) fun o s1 e=>?_
  obtain ⟨rfl,rfl⟩:=e
  have g1:({ s with heap:=s.heap.push { cls:=.type "list",data:=.seq #[] } }:Shared).heap.get? s.heap.objs.size=some { cls:=.type "list",data:=.seq #[] }:=Heap.get?_push_size _ rfl
  generalize ({ s with heap:=s.heap.push { cls:=.type "list",data:=.seq #[] } }:Shared)=s1 at *
  generalize s.heap.objs.size=Z at *
  refine ⟨⟨_,g1,rfl⟩,F.args_list_init_2 _ _,?_⟩
  have key:∀ (h:Heap) (c:Nat),(∀ b o,b≠Z→s1.heap.get? b=some o→h.get? b=some o)→h.objs.size=s1.heap.objs.size→h.get? Z=some { cls:=.type "list",data:=.seq #[] c }→codeAny (model P w) B.in1 (.builtin "list.extend.loop" ⟨[.ref Z,.ref it,.none],[]⟩) (wants (fun r s2=>r=.none∧Q (.ref Z) s2) E) { s1 with heap:=h }:=by
    intro h c k kz g
    exact Z9W W hn .none n 0 _ #[] c rfl (Nat.zero_le _) (W.frame _ _ _ _ st k kz) g fun s2 acc c2 f g2 ha=>⟨rfl,hQ s2 acc c2 f g2 ha⟩
  show wpAny (model P w) B.in1.in1 (do let old ← Builtin.List.listItems (.ref Z); Builtin.List.listUpdate (.ref Z) (fun _=>#[]); letGo old.toList.reverse; Builtin.List.listExtendWith (.ref Z) (.ref it) .none) _ _ s1; refine wpAny_bind ?_
  unfold Builtin.List.listItems; refine wpAny_bind (wpAny_seqItems g1 rfl (wpAny_pure ?_))
  show wpAny (model P w) B.in1.in1 (updateSeq Z (fun _=>#[]) >>= fun _=>letGo (#[]:Array Value).toList.reverse >>= fun _=>Builtin.List.listExtendWith (.ref Z) (.ref it) .none) _ _ s1
  refine wpAny_bind (wpAny_updateSeq g1 rfl (wpAny_bind (wpAny_letGo ?_)))
  have g2:=Heap.get?_update_self (Obj.mapSeq (fun _=>(#[]:Array Value))) g1 rfl
  have k2:∀ b o,b≠Z→s1.heap.get? b=some o→(s1.heap.update Z (Obj.mapSeq (fun _=>(#[]:Array Value)))).get? b=some o:=fun b o hb e=>(Heap.get?_update_other _ _ (Ne.symm hb)).trans e
  have z2:(s1.heap.update Z (Obj.mapSeq (fun _=>(#[]:Array Value)))).objs.size=s1.heap.objs.size:=by simp [Heap.update]
  generalize s1.heap.update Z (Obj.mapSeq (fun _=>(#[]:Array Value)))=h2 at *
  have f2:St 0 #[] { s1 with heap:=h2 }:=W.frame _ _ _ _ st k2 z2
  unfold Builtin.List.listExtendWith; refine wpAny_bind (wpAny_typeOf (hT _ f2) ?_)
  rw [show Builtin.List.listSameRef (.ref Z) (.ref it)=false by simp [Builtin.List.listSameRef,hZI],h1,‹(Value.type T == Value.type "tuple")=false›]
  refine wpAny_bind (hs _ _ _ _ f2 ?_)
  refine wpAny_bind (wpAny_holding (hh _ _ _ _ f2 fun b=>?_))
  refine wpAny_ite_split (fun _=>?_) (fun _=>wpAny_pure ⟨plainId_quiet F.plain_extend_loop ⟨[.ref Z,.ref it,.none],[]⟩,key h2 _ k2 z2 g2⟩)
  refine wpAny_bind (wpAny_rule (wpAny_bind ?_))
  show wpAny (model P w) B.in1.in1 (updateSeq Z (·.push .none) >>= fun _=>updateSeq Z (·.pop)) _ _ _; refine wpAny_bind (wpAny_updateSeq g2 rfl ?_)
  have g3:=Heap.get?_update_self (Obj.mapSeq (·.push Value.none)) g2 rfl
  refine wpAny_updateSeq (hz:=by seq_fits) g3 rfl ?_
  have g4:=Heap.get?_update_self (Obj.mapSeq (·.pop)) g3 rfl
  refine wpAny_pure ⟨plainId_quiet F.plain_extend_loop ⟨[.ref Z,.ref it,.none],[]⟩,key _ _ (fun b o hb e=>?_) (by simpa [Heap.update] using z2) g4⟩
  exact (Heap.get?_update_other _ _ (Ne.symm hb)).trans ((Heap.get?_update_other _ _ (Ne.symm hb)).trans (k2 b o hb e))
end
end L2
end
section
namespace L2
open PySem PySem.Spec PyProof.Rows
theorem Z9f:typeLookup (.type "list_reverseiterator") "__len__"=pure none:=by rw [typeLookup_type,builtinLookup_eq_fast]; kernel_rfl
theorem J3l:typeLookup (.type "list_reverseiterator") "__length_hint__"=pure (some (.builtin "list_reverseiterator.__length_hint__")):=by rw [typeLookup_type,builtinLookup_eq_fast]; kernel_rfl
theorem J2s {P:Program} {w:World} {it:Addr} {St:Shared→Prop} (hT:∀ s,St s→s.TypeIs (.ref it) "list_reverseiterator"):J6I P w it St:=by
  intro A s Q E st q
  unfold Builtin.List.listLengthHint; refine wpAny_bind (wpAny_specialOf (hT s st) Z9f ?_)
  show wpAny (model P w) A (specialOf (Value.ref it) (Str.ofString "__length_hint__") >>= _) _ _ _
  refine wpAny_bind (wpAny_specialOf (hT s st) J3l ?_)
  generalize hi0:("list_reverseiterator.__length_hint__":String)=id0
  wp_delta
  rw [show splitId id0=some ("list_reverseiterator","__length_hint__") from by subst hi0; decide +kernel]
  subst hi0
  refine wpAny_bind (wpAny_isInstance (T:="list_reverseiterator") (b:=true) (hT s st) (by rw [isSubtype_type]; kernel_rfl) ?_)
  refine wpAny_ite_split (fun z=>absurd z (by decide)) (fun _=>?_)
  refine wpAny_ite_split (fun _=>?_) (fun z=>absurd rfl z)
  exact wpAny_ite_split (fun z=>absurd z (by decide +kernel)) (fun _=>wpAny_pure (q _))
def Itv (K:W.Frag) (l:Addr) (n:Nat):It:=
  ⟨fun i H=>i < n∧∃ xs,SqL K H l xs∧xs.length=n,fun i H v H'=>H'=H∧∀ xs,SqL K H l xs→xs[n - 1 - i]?=some v,fun i _=>i=n⟩
theorem J2w {P:Program} {w:World} {K:W.Frag} {tg:Expr} (l it:Addr) (n:Nat):Turn P w K tg (Itv K l n) [it] it (fun i h=>h.IsRevIter it l ((n:Int) - 1 - (i:Int))) where
  mem:=by simp
  obj:=fun i h st b hb=>by
    cases List.mem_singleton.mp hb
    obtain ⟨o,e,c,d⟩:=st
    exact ⟨o,e,fun v z=>by rw [d] at z; cases z⟩
  keep:=fun i h h' st k=>st.at fun o e=>k it (List.mem_singleton.mpr rfl) o e
  item:=by
    intro X hP hw hK hc i pins s σ H E I hf st hg
    subst hP hw hK
    obtain ⟨hi,xs,hq,hn⟩:=hg
    obtain ⟨its,rv,p,hz⟩:=I.list hq
    have hx:xs[n - 1 - i]?=some (xs[n - 1 - i]'(by omega)):=List.getElem?_eq_getElem (by omega)
    obtain ⟨u,hu,ru⟩:=rv.get hx
    obtain ⟨f0,f1,f2,f3,f4,f5⟩:=hf it (List.mem_singleton.mpr rfl)
    have e0:(n:Int) - 1 - (i:Int)=((n - 1 - i:Nat):Int):=by omega
    have e2:((n - 1 - i:Nat):Int) - 1=(n:Int) - 1 - ((i+1:Nat):Int):=by omega
    have st0:=st
    rw [e0] at st0
    refine wpAny_pyNext_rev_item st0 p.isList (x:=u) (by simpa using hu) fun h' st' sb=>?_
    have I1:Inv X pins σ H { s with heap:=h' }:=I.turned (t':=s.toks) (fun b o hb e=>(sb.2 b hb).trans e) f0 f1 f3 f4 f5
    rw [e2] at st'
    obtain ⟨o,e,c,d⟩:=id st'
    exact ⟨u,rfl,J3c (s:={ s with heap:=h' }) e c d (by decide) ⟨_,H,I1,ru,⟨rfl,fun ys hy=>by rw [I.list_inj hy hq]; exact hx⟩,st',fun b hb=>(hf b hb).1⟩⟩
  done:=by
    intro X hP hw hK hc i pins s σ H E I hf st hg
    subst hP hw hK
    cases (show i=n from hg)
    obtain ⟨f0,f1,f2,f3,f4,f5⟩:=hf it (List.mem_singleton.mpr rfl)
    have st0:=st
    rw [show (n:Int) - 1 - (n:Int)=-1 by omega] at st0
    exact wpAny_pyNext_rev_end (I.ok.hd hc) st0 fun h' eb=>⟨rfl,I.turned (t':=s.toks) (fun b o hb e=>eb b o hb e) f0 f1 f3 f4 f5⟩
  self:=fun _ _ _ _ _ st h=>wpAny_pyIter_revIter st h
section
variable {X:Cx} {tg:Expr}
def iRev (K:W.Frag) (ta:TA):TI:=fun σ H R=>ta σ H fun vs H1=>∃ a xs,vs=[.ref a]∧SqL K H1 a xs∧R (Itv K a xs.length) H1
theorem J9h {K:W.Frag} {ta:TA} {σ:St} {H:Hp} {R:It→Hp→Prop}:iRev K ta σ H R=ta σ H fun vs H1=>∃ a xs,vs=[.ref a]∧SqL K H1 a xs∧R (Itv K a xs.length) H1:=rfl
theorem J1v {a:Expr} {ta:TA} {p pos:Pos} (hg:Gl X "reversed") (hm:X.mg "reversed"=none) (hb:bootBuiltins "reversed"=some (.type "reversed")) (ha:PA X [a] ta) (hs:starEach [a] X.env=[(false,eval a X.env)]:=by rfl) :
    PI X tg (.Call (.Name "reversed" p) [a] [] pos) (iRev X.K ta):=by
  intro pins s σ H R I h
  refine Call_ (Z2A I hg hm hb (PyProof.Rows.callWith_type1 (thn (ha pos pins s σ H _ I h) fun us s1 ⟨vs,H1,I1,r1,q1⟩=>?_) hs rfl))
  obtain ⟨l,xs,e,hq,q⟩:=q1
  subst e
  obtain ⟨u,rfl,ru⟩:=r1.one
  cases ru
  obtain ⟨its,rv,pl,hz⟩:=I1.list hq
  have hl:=rv.length
  refine call_reversed_list pl.isList (wpAny_pyIter_revIter (it:=s1.heap.objs.size) (l:=l) (i:=(its.toArray.size:Int) - 1) ⟨_,Heap.get?_push_size _ rfl,rfl,rfl⟩ ?_)
  refine ⟨s1.heap.objs.size,[s1.heap.objs.size],_,_,H1,rfl,I1.kept (t':=s1.toks) fun b o e=>Heap.get?_push_of_some _ e,J2w l _ xs.length,?_,fun b hb=>?_,q⟩
  · rw [show (xs.length:Int) - 1 - ((0:Nat):Int)=(its.toArray.size:Int) - 1 by rw [List.size_toArray]; omega]
    exact ⟨_,Heap.get?_push_size _ rfl,rfl,rfl⟩
  · cases List.mem_singleton.mp hb
    exact I1.fpOk (Nat.le_refl _) (I1.hok.fresh (Nat.le_refl _))
def J5O (K:W.Frag) (ta:TA):TE:=fun σ H Q=>ta σ H fun vs H1=>∃ a xs,vs=[.ref a]∧SqL K H1 a xs∧∀ l,H1 l=none→Q (.ref l) (upd H1 l (.lst xs.reverse))
theorem J8j {K:W.Frag} {ta:TA} {σ:St} {H:Hp} {Q:VK}:J5O K ta σ H Q=ta σ H fun vs H1=>∃ a xs,vs=[.ref a]∧SqL K H1 a xs∧∀ l,H1 l=none→Q (.ref l) (upd H1 l (.lst xs.reverse)):=rfl
theorem J1m {P:Program} {w:World} {A:Around} (hh:A.handled=none) {it Z l:Addr} {its:List Value} (s1:Shared) (hl:s1.heap.IsList l its.toArray) (hi:s1.heap.objs.size≤it) (hZ:s1.heap.objs.size≤Z) (hZi:Z≠it) :
    Z8U P w A it Z its.length (fun i acc s'=>∃ h' tk,s'={ s1 with heap:=h',toks:=tk }∧h'.IsRevIter it l ((its.length:Int) - 1 - (i:Int))∧(∀ b o,s1.heap.get? b=some o→h'.get? b=some o)∧acc.toList=its.reverse.take i∧i≤its.length)
      (fun acc s'=>∃ h' tk,s'={ s1 with heap:=h',toks:=tk }∧(∀ b o,s1.heap.get? b=some o→h'.get? b=some o)∧acc.toList=its.reverse) where
  item:=by
    rintro i acc s Q E hi' ⟨h',tk,rfl,st,k,ea,_⟩ q
    have e0:(its.length:Int) - 1 - (i:Int)=((its.length - 1 - i:Nat):Int):=by omega
    have e2:((its.length - 1 - i:Nat):Int) - 1=(its.length:Int) - 1 - ((i+1:Nat):Int):=by omega
    rw [e0] at st
    have hx:its.toArray[its.length - 1 - i]?=some (its[its.length - 1 - i]'(by omega)):=by simp
    refine wpAny_pyNext_rev_item st (hl.at fun o e=>k _ o e) hx fun h2 st2 sb=>q _ _ ⟨h2,tk,rfl,by rw [← e2]; exact st2,fun b o e=>(sb.2 b fun z=>?_).trans (k b o e),?_,hi'⟩ fun o e=>(sb.2 Z hZi).trans e
    · exact absurd (Heap.lt_size e) (by rw [z]; exact Nat.not_lt.mpr hi)
    · rw [Array.toList_push,ea,List.take_succ,List.getElem?_reverse hi',List.getElem?_eq_getElem (by omega)]
      rfl
  done:=by
    rintro acc s Q E ⟨h',tk,rfl,st,k,ea,_⟩ q
    rw [show (its.length:Int) - 1 - (its.length:Int)=-1 by omega] at st
    refine wpAny_pyNext_rev_end hh st fun h2 eb=>q _ ⟨h2,tk,rfl,fun b o e=>eb b o (fun z=>?_) (k b o e),?_⟩ fun o e=>eb Z o hZi e
    · exact absurd (Heap.lt_size e) (by rw [z]; exact Nat.not_lt.mpr hi)
    · rw [ea,List.take_of_length_le (by rw [List.length_reverse]; exact Nat.le_refl _)]
  size:=by
    rintro i acc s ⟨h',tk,rfl,st,k,ea,hi'⟩
    rw [← Array.length_toList,ea,List.length_take,List.length_reverse]; exact Nat.min_eq_left hi'
  frame:=by
    rintro i acc s h2 ⟨h',tk,rfl,st,k,ea,hi'⟩ kz _
    exact ⟨h2,tk,rfl,st.at fun o e=>kz it o (Ne.symm hZi) e,fun b o e=>kz b o (fun z=>absurd (Heap.lt_size e) (by rw [z]; exact Nat.not_lt.mpr hZ)) (k b o e),ea,hi'⟩
theorem J0i {x1:Expr} {ta:TA} {p p2 pos pos2:Pos} (hc:X.calm=true) (hg:Gl X "list") (hg2:Gl X "reversed") (hm:X.mg "list"=none) (hm2:X.mg "reversed"=none) (ha:PA X [x1] ta)
    (hs:starEach [x1] X.env=[(false,eval x1 X.env)]:=by rfl) (hs2:starEach [.Call (.Name "reversed" p2) [x1] [] pos2] X.env=[(false,eval (.Call (.Name "reversed" p2) [x1] [] pos2) X.env)]:=by rfl) :
    PE X (.Call (.Name "list" p) [.Call (.Name "reversed" p2) [x1] [] pos2] [] pos) (J5O X.K ta):=by
  intro pins s σ H Q I h
  refine Call_ (Z2A I hg hm rfl (PyProof.Rows.callWith_type1 ?_ hs2 rfl))
  rw [hs2]
  show wpAny (model X.prog X.w) X.A (spliced ((false,eval (.Call (.Name "reversed" p2) [x1] [] pos2) X.env)::backTo pos [])) _ _ s; refine Calls.spliced_cons ?_
  refine Call_ (Z2A I hg2 hm2 rfl (PyProof.Rows.callWith_type1 (thn (ha pos2 pins s σ H _ I h) fun us s1 hz=>?_) hs rfl))
  obtain ⟨vs,H1,I1,r1,l,xs,rfl,hq,q⟩:=hz
  obtain ⟨u,rfl,ru⟩:=r1.one
  cases ru
  obtain ⟨its,rv,pl,hz⟩:=I1.list hq
  have hl:=rv.length
  obtain ⟨ol,gl,_⟩:=id pl.isList
  refine call_reversed_list pl.isList (Calls.spliced_nil ?_)
  have ez:(s1.heap.push (revObj l ((its.toArray.size:Int) - 1))).objs.size=s1.heap.objs.size+1:=Heap.size_push ..
  have g0:∀ o,((s1.heap.push (revObj l ((its.toArray.size:Int) - 1))).push o).IsRevIter s1.heap.objs.size l ((its.length:Int) - 1 - ((0:Nat):Int)):=fun o=>by
    rw [show (its.length:Int) - 1 - ((0:Nat):Int)=(its.toArray.size:Int) - 1 by rw [List.size_toArray]; omega]
    exact ⟨_,Heap.get?_push_of_some _ (Heap.get?_push_size _ rfl),rfl,rfl⟩
  refine Z9x (n:=its.length) (T:="list_reverseiterator") (fun s' z=>?_) (by decide) (by decide) (by rw [ez]; exact Nat.succ_ne_self _)
    (J1m (show X.A.in1.in1.handled=none from I1.ok.hd hc) (it:=s1.heap.objs.size) (l:=l) s1 pl.isList (Nat.le_refl _) (by rw [ez]; exact Nat.le_succ _) (by rw [ez]; exact Nat.succ_ne_self _)) (fun A s' Q' E' z hq'=>?_) (J2s fun s' z=>?_)
    ⟨_,_,rfl,g0 _,fun b o e=>Heap.get?_push_of_some _ (Heap.get?_push_of_some _ e),rfl,Nat.zero_le _⟩ (fun s' acc c fin g sz=>?_) (by rw [← hl]; exact hz)
  · obtain ⟨h',tk,rfl,st,_⟩:=z
    exact st.typeIs
  · obtain ⟨h',tk,rfl,st,_⟩:=z
    exact wpAny_pyIter_revIter st hq'
  · obtain ⟨h',tk,rfl,st,_⟩:=z
    exact st.typeIs
  · obtain ⟨h',tk,rfl,k,ea⟩:=fin
    have eacc:acc=its.reverse.toArray:=by rw [← ea]
    subst eacc
    refine ⟨.ref _,upd H1 _ (.lst xs.reverse),I1.laid (t':=tk) k (by rw [ez]; exact Nat.le_succ _) (show ObjOk X.prog X.w _ h' _ (.lst xs.reverse) from ⟨by rw [List.length_reverse]; exact hz,its.reverse,c,rv.reverse,g⟩),rfl,q _ (I1.hok.fresh (by rw [ez]; exact Nat.le_succ _))⟩
end
end L2
end
section
namespace L2
open PySem PySem.Spec PyProof.Rows
abbrev ZipH (h:Heap) (z T TI TO:Addr) (f1:Bool):Prop:=h.get? z=some { cls:=.type "zip",dict:=none,data:=.fields #[rawInt T,.bool f1,.bool false,.ref TI,.ref TO],slots:=#[] }
section
variable {P:Program} {w:World} {A:Around} {E:Value→Shared→Prop} {s:Shared}
theorem Z7g {a:Addr} {Q:Option Obj→Shared→Prop} (h:Q (s.heap.get? a) s):wpAny (model P w) A (loadIfAlive a) Q E s:=by
  intro Γ p hc
  show Sem.wp _ Γ (Sem.loadIfAlive a _) _ _ p s
  rw [Sem.wp_loadIfAlive]
  exact h
theorem Z7D {z T TI TO:Addr} {f1:Bool} {o:Obj} {a b:Value} (hz:ZipH s.heap z T TI TO f1) (hT:s.heap.get? T=some o) (hTI:IsPair s.heap TI a b) (hTIz:TI≠z) {Q:Fin→Shared→Prop}
    (h:∀ h',ZipH h' z T TI TO true→Heap.SameBut z s.heap h'→wpAny (model P w) A (Builtin.SmallTypes.nextOf a) (fun x s1=>wpAny (model P w) A (Builtin.SmallTypes.nextOf b) (fun y s2=>wpAny (model P w) A (newTuple [x,y]) (fun r s3=>Q (.done (.ret r)) s3) E s2) E s1) E { s with heap:=h' }) :
    wpAny (model P w) A (Builtin.«zip.__next__» ⟨[.ref z],[]⟩) Q E s:=by
  show wpAny (model P w) A (field (.ref z) 2 >>= _) _ _ _; refine wpAny_bind (wpAny_field hz rfl (x:=.bool false) rfl ?_)
  show wpAny (model P w) A (field (.ref z) 3 >>= _) _ _ _; refine wpAny_bind (wpAny_field hz rfl (x:=.ref TI) rfl (wpAny_bind (wpAny_seqItems hTI rfl ?_)))
  show wpAny (model P w) A (Builtin.SmallTypes.ownedTupleIsFree (.ref z) >>= _) _ _ _; refine wpAny_bind ?_
  unfold Builtin.SmallTypes.ownedTupleIsFree; refine wpAny_bind (wpAny_field hz rfl (x:=rawInt T) rfl ?_)
  show wpAny (model P w) A (loadIfAlive ((T:Int).toNat) >>= _) _ _ _; refine wpAny_bind (Z7g ?_)
  rw [Int.toNat_natCast,hT]
  rw [if_neg (show ¬ ((some o).isNone=true) from Bool.false_ne_true)]
  refine wpAny_bind (wpAny_field hz rfl (x:=.bool f1) rfl ?_)
  have hz0:=hz
  cases f1 with
  | true=>
    refine wpAny_pure ?_
    rw [if_neg Bool.false_ne_true]; simp only [List.forIn_toArray,List.forIn_cons,List.forIn_nil]
    refine wpAny_bind (wpAny_bind (wpAny_bind (wpAny_holding ?_)))
    show wpAny (model P w) A (Builtin.SmallTypes.nextOf a >>= fun v=>pure (some v)) _ _ _; refine wpAny_bind (wpAny_mono (h s.heap hz ⟨rfl,fun _ _=>rfl⟩) (fun x s1 h1=>wpAny_pure (wpAny_pure ?_)) fun _ _ e=>e)
    refine wpAny_bind (wpAny_bind (wpAny_holding ?_))
    show wpAny (model P w) A (Builtin.SmallTypes.nextOf b >>= fun v=>pure (some v)) _ _ _; refine wpAny_bind (wpAny_mono h1 (fun y s2 h2=>wpAny_pure (wpAny_pure (wpAny_pure ?_))) fun _ _ e=>e)
    exact wpAny_bind (wpAny_mono h2 (fun r s3 h3=>wpAny_pure h3) fun _ _ e=>e)
  | false=>
    refine wpAny_bind (wpAny_setField_rec hz (by simp) fun h' hz' hs'=>wpAny_pure ?_)
    rw [if_neg Bool.false_ne_true]; simp only [List.forIn_toArray,List.forIn_cons,List.forIn_nil]
    refine wpAny_bind (wpAny_bind (wpAny_bind (wpAny_holding ?_)))
    show wpAny (model P w) A (Builtin.SmallTypes.nextOf a >>= fun v=>pure (some v)) _ _ _; refine wpAny_bind (wpAny_mono (h h' hz' hs') (fun x s1 h1=>wpAny_pure (wpAny_pure ?_)) fun _ _ e=>e)
    refine wpAny_bind (wpAny_bind (wpAny_holding ?_))
    show wpAny (model P w) A (Builtin.SmallTypes.nextOf b >>= fun v=>pure (some v)) _ _ _; refine wpAny_bind (wpAny_mono h1 (fun y s2 h2=>wpAny_pure (wpAny_pure (wpAny_pure ?_))) fun _ _ e=>e)
    exact wpAny_bind (wpAny_mono h2 (fun r s3 h3=>wpAny_pure h3) fun _ _ e=>e)
end
theorem Inv.grow {X:Cx} {pins:List (Addr×Obj)} {σ:St} {H H':Hp} {s:Shared} {h':Heap} {t':Nat} {ch:List Addr} (I:Inv X pins σ H s) (hch:∀ b∈ch,FpOk X pins H b) (k:∀ b o,b∉ch→s.heap.get? b=some o→h'.get? b=some o)
    (old:∀ b o,H b=some o→H' b=some o) (new:∀ b o,H b=none→H' b=some o→(s.heap.objs.size≤b∨b∈ch)∧ObjOk X.prog X.w H' h' b o):Inv X pins σ H' { s with heap:=h',toks:=t' }:=by
  have off:∀ b o,H b=some o→b∉ch:=fun b o e z=>Z0m e (hch b z).1 rfl
  refine I.step (g':=s.gens) (d':=s.drawn) (ch:=ch) (fun b hb=>?_) (fun b o _ _ hb e _=>k b o hb e) (fun b o _ _ hb e _=>⟨o.slots,k b o hb e⟩) (fun b o hb e n=>?_) (fun b o hb e=>⟨o,k b o hb e⟩) (fun b ys e=>old b _ e) (fun b o ys e=>old b _ e)
    (fun b ps e=>⟨#[],by rw [old b _ e]; simp⟩) (fun m hm=>hm.at' fun o q=>k _ o (fun z=>(hch _ z).2.1 rfl) q) (fun b o q=>?_) I.bare
  · obtain ⟨f0,f1,f2,f3,f4,f5⟩:=hch b hb
    exact ⟨f3,f1,f4,f5⟩
  · cases e':H' b with
    | none=>rfl
    | some o'=>
      rcases (new b o' n e').1 with z | z
      · exact absurd (Heap.lt_size e) (Nat.not_lt.mpr z)
      · exact absurd z hb
  · cases e:H b with
    | none=>exact (new b o e q).2
    | some o'=>
      have:=old b o' e
      rw [q] at this
      cases this
      refine (I.hok b o e).stay (fun c v hc r=>?_) (fun c r=>old c _ r) fun c ys r=>old c _ r
      have hc':∃ o',H c=some o':=by
        rcases hc with z | z
        · exact ⟨o,by rw [z]; exact e⟩
        · exact ⟨_,z⟩
      obtain ⟨o',hc'⟩:=hc'
      exact k c v (off c o' hc') r
theorem FpOk.to {X:Cx} {pins:List (Addr×Obj)} {H H':Hp} {b:Addr} (f:FpOk X pins H b) (e:H' b=none):FpOk X pins H' b:=⟨e,f.2⟩
theorem apart {n a b:Nat} (h:a≠b):n+a≠n+b:=fun e=>h (Nat.add_left_cancel e)
theorem Z1N {n a:Nat} (h:0 < a):n≠n+a:=Nat.ne_of_lt (Nat.lt_add_of_pos_right h)
theorem Z3b {l n a:Nat} (h:l < n):l≠n+a:=Nat.ne_of_lt (Nat.lt_of_lt_of_le h (Nat.le_add_right _ _))
theorem zap {n l1 l2:Nat} (h1:l1 < n) (h2:l2 < n):ZipApart (n+4) (n+2) (n+3) n (n+1) l1 l2:=
  ⟨apart (by decide),apart (by decide),Z1N (by decide),apart (by decide),apart (by decide),(Z1N (by decide)).symm,apart (by decide),(Z1N (by decide)).symm,apart (by decide),Z1N (by decide),Z3b h1,Z3b h1,Nat.ne_of_lt h1,Z3b h1,Z3b h2,Z3b h2,Nat.ne_of_lt h2,Z3b h2⟩
section
variable {X:Cx} {pins:List (Addr×Obj)} {σ:St} {H1:Hp} {s1:Shared} {l1 l2:Addr} {xs ys:List V}
def ZSt (X:Cx) (pins:List (Addr×Obj)) (σ:St) (H1:Hp) (s1:Shared) (l1 l2:Addr) (xs ys:List V) (i:Nat) (acc:Array Value) (s':Shared):Prop:=∃ (h':Heap) (tk:Nat) (Hi:Hp),s'={ s1 with heap:=h',toks:=tk }∧Inv X pins σ Hi { s1 with heap:=h',toks:=tk }∧Same H1 Hi∧s1.heap.objs.size+6≤h'.objs.size ∧
  (∀ a,a < 6→Hi (s1.heap.objs.size+a)=none)∧((i=0∧IsZip h' (s1.heap.objs.size+4) (s1.heap.objs.size+2) (s1.heap.objs.size+3) .none)∨∃ T f1 o,ZipH h' (s1.heap.objs.size+4) T (s1.heap.objs.size+2) (s1.heap.objs.size+3) f1∧h'.get? T=some o∧s1.heap.objs.size+6≤T) ∧
  IsPair h' (s1.heap.objs.size+2) (.ref s1.heap.objs.size) (.ref (s1.heap.objs.size+1))∧(∃ a b,IsPair h' (s1.heap.objs.size+3) a b)∧h'.IsListIter s1.heap.objs.size l1 i∧h'.IsListIter (s1.heap.objs.size+1) l2 i∧acc.size=i ∧
  ∀ (k:Nat) v,acc[k]?=some v→∃ T x y,v=.ref T∧xs[k]?=some x∧ys[k]?=some y∧Hi T=some (.tup [x,y])
def ZFin (X:Cx) (pins:List (Addr×Obj)) (σ:St) (H1:Hp) (s1:Shared) (xs ys:List V) (acc:Array Value) (s':Shared):Prop:=∃ (h':Heap) (tk:Nat) (Hi:Hp),s'={ s1 with heap:=h',toks:=tk }∧Inv X pins σ Hi { s1 with heap:=h',toks:=tk }∧Same H1 Hi ∧
  (∀ a,a < 6→Hi (s1.heap.objs.size+a)=none)∧∀ (k:Nat) v,acc[k]?=some v→∃ T x y,v=.ref T∧xs[k]?=some x∧ys[k]?=some y∧Hi T=some (.tup [x,y])
theorem Z8z (I1:Inv X pins σ H1 s1) {i:Nat} {acc:Array Value} {h' h2:Heap} {tk:Nat} {Hi:Hp} {x y:V} {ux uy:Value} {f1:Bool} (I:Inv X pins σ Hi { s1 with heap:=h',toks:=tk }) (sm:Same H1 Hi) (hsz:s1.heap.objs.size+6≤h'.objs.size) (nn:∀ a,a < 6→Hi (s1.heap.objs.size+a)=none)
    (ti:IsPair h' (s1.heap.objs.size+2) (.ref s1.heap.objs.size) (.ref (s1.heap.objs.size+1))) (ez:acc.size=i) (ha:∀ (k:Nat) v,acc[k]?=some v→∃ T x y,v=.ref T∧xs[k]?=some x∧ys[k]?=some y∧Hi T=some (.tup [x,y]))
    (hx:xs[i]?=some x) (hy:ys[i]?=some y) (rx:RelV x ux) (ry:RelV y uy) {T0:Addr} {o0:Obj} (hz:ZipH h2 (s1.heap.objs.size+4) T0 (s1.heap.objs.size+2) (s1.heap.objs.size+3) f1) (hT0:h2.get? T0=some o0) (hT06:s1.heap.objs.size+6≤T0) (to:∃ a b,IsPair h2 (s1.heap.objs.size+3) a b)
    (j1:h2.IsListIter s1.heap.objs.size l1 (i+1)) (j2:h2.IsListIter (s1.heap.objs.size+1) l2 (i+1)) (hp:IsPair h2 h'.objs.size ux uy) (hs2:h2.objs.size=h'.objs.size+1)
    (kk:∀ c o,c≠s1.heap.objs.size+4→c≠s1.heap.objs.size+3→c≠s1.heap.objs.size→c≠s1.heap.objs.size+1→h'.get? c=some o→h2.get? c=some o) :
    ZSt X pins σ H1 s1 l1 l2 xs ys (i+1) (acc.push (.ref h'.objs.size)) { s1 with heap:=h2,toks:=tk }:=by
  have fr:Hi h'.objs.size=none:=I.hok.fresh (Nat.le_refl _)
  have gt:∀ a,a < 6→s1.heap.objs.size+a≠h'.objs.size:=fun a h=>Nat.ne_of_lt (Nat.lt_of_lt_of_le (Nat.add_lt_add_left h _) hsz)
  have fp:∀ a,a < 6→FpOk X pins Hi (s1.heap.objs.size+a):=fun a h=>(I1.fpOk (Nat.le_add_right _ _) (I1.hok.fresh (Nat.le_add_right _ _))).to (nn a h)
  refine ⟨h2,tk,upd Hi h'.objs.size (.tup [x,y]),rfl,?_,fun b o e=>?_,by rw [hs2]; exact Nat.le_succ_of_le hsz,fun a h=>by rw [Z0j (gt a h)]; exact nn a h,.inr ⟨T0,f1,o0,hz,hT0,hT06⟩,kk _ _ (apart (by decide)) (apart (by decide)) (Z1N (by decide)).symm (apart (by decide)) ti,to,j1,j2,by rw [Array.size_push,ez],fun k v hk=>?_⟩
  · refine Inv.grow (s:={ s1 with heap:=h',toks:=tk }) (t':=tk) (ch:=[s1.heap.objs.size+4,s1.heap.objs.size+3,s1.heap.objs.size+0,s1.heap.objs.size+1]) I (fun b hb=>?_) (fun b o hb e=>?_) (fun b o e=>?_) (fun b o n e=>?_)
    · simp only [List.mem_cons,List.not_mem_nil,or_false] at hb; rcases hb with rfl | rfl | rfl | rfl
      · exact fp 4 (by decide)
      · exact fp 3 (by decide)
      · exact fp 0 (by decide)
      · exact fp 1 (by decide)
    · simp only [List.mem_cons,List.not_mem_nil,or_false,not_or] at hb
      exact kk b o hb.1 hb.2.1 hb.2.2.1 hb.2.2.2 e
    · rw [Z0j (Z0m e fr)]; exact e
    · by_cases eb:b=h'.objs.size
      · subst eb
        rw [Z0g] at e
        cases e
        exact ⟨.inl (Nat.le_refl _),by show 2≤sizeLine; decide,[ux,uy],.cons rx (.cons ry .nil),⟨_,hp,rfl,_,rfl⟩⟩
      · rw [Z0j eb,n] at e; cases e
  · rw [Z0j (Z0m (sm _ _ e) fr)]; exact sm _ _ e
  · rw [Array.getElem?_push] at hk
    by_cases e:k=acc.size
    · rw [if_pos e] at hk
      cases hk
      rw [e,ez]
      exact ⟨_,x,y,rfl,hx,hy,Z0g⟩
    · rw [if_neg e] at hk
      obtain ⟨T,x',y',a,b,c,d⟩:=ha k v hk
      exact ⟨T,x',y',a,b,c,by rw [Z0j (Z0m d fr)]; exact d⟩
theorem J0L {A:Around} (hh:A.handled=none) (I1:Inv X pins σ H1 s1) (q1:SqL X.K H1 l1 xs) (q2:SqL X.K H1 l2 ys) (lt1:l1 < s1.heap.objs.size) (lt2:l2 < s1.heap.objs.size) :
    Z8U X.prog X.w A (s1.heap.objs.size+4) (s1.heap.objs.size+5) (min xs.length ys.length) (ZSt X pins σ H1 s1 l1 l2 xs ys) (ZFin X pins σ H1 s1 xs ys) where
  size:=by
    rintro i acc s ⟨h',tk,Hi,rfl,_,_,_,_,_,_,_,_,_,ez,_⟩
    exact ez
  frame:=by
    rintro i acc s h2 ⟨h',tk,Hi,rfl,I,sm,sz,nn,zp,ti,⟨ta,tb,to⟩,j1,j2,ez,ha⟩ kz es
    have fp:=(I1.fpOk (b:=s1.heap.objs.size+5) (Nat.le_add_right _ _) (I1.hok.fresh (Nat.le_add_right _ _))).to (nn 5 (by decide))
    obtain ⟨f0,f1,f2,f3,f4,f5⟩:=fp
    refine ⟨h2,tk,Hi,rfl,I.turned (t':=tk) kz f0 f1 f3 f4 f5,sm,by rw [es]; exact sz,nn,?_,kz _ _ (apart (by decide)) ti,⟨ta,tb,kz _ _ (apart (by decide)) to⟩,j1.at fun o e=>kz _ o (Z1N (by decide)) e,j2.at fun o e=>kz _ o (apart (by decide)) e,ez,ha⟩
    rcases zp with ⟨a,b⟩ | ⟨T,f,o,a,b,c⟩
    · exact .inl ⟨a,kz _ _ (apart (by decide)) b⟩
    · exact .inr ⟨T,f,o,kz _ _ (apart (by decide)) a,kz _ _ (fun z=>absurd c (by rw [z]; exact Nat.not_le.mpr (Nat.add_lt_add_left (by decide) _))) b,c⟩
  item:=by
    rintro i acc s Q E hi ⟨h',tk,Hi,rfl,I,sm,sz,nn,zp,ti,⟨ta,tb,to⟩,j1,j2,ez,ha⟩ q
    have hi1:i < xs.length:=Nat.lt_of_lt_of_le hi (Nat.min_le_left _ _)
    have hi2:i < ys.length:=Nat.lt_of_lt_of_le hi (Nat.min_le_right _ _)
    obtain ⟨its1,rv1,pl1,_⟩:=I.list (sm.seq q1)
    obtain ⟨its2,rv2,pl2,_⟩:=I.list (sm.seq q2)
    have hx:=List.getElem?_eq_getElem hi1
    have hy:=List.getElem?_eq_getElem hi2
    obtain ⟨ux,gx,rx⟩:=rv1.get hx
    obtain ⟨uy,gy,ry⟩:=rv2.get hy
    have gx':its1.toArray[i]?=some ux:=by simpa using gx
    have gy':its2.toArray[i]?=some uy:=by simpa using gy
    have D:=zap lt1 lt2
    rcases zp with ⟨_,hz⟩ | ⟨T,f,o,hz,hT,hT6⟩
    · refine wpAny_pyNext_zip_item D hz ti to j1 j2 pl1.isList pl2.isList gx' gy' fun h2 hz2 to2 k1 k2 hp es kk=>q _ _ (Z8z I1 I sm sz nn ti ez ha hx hy rx ry hz2 hp sz ⟨_,_,to2⟩ k1 k2 hp es kk) fun o e=>kk _ o (apart (by decide)) (apart (by decide)) (Z1N (by decide)).symm (apart (by decide)) e
    · have ty:({ s1 with heap:=h',toks:=tk }:Shared).TypeIs (.ref (s1.heap.objs.size+4)) "zip":=⟨_,hz,rfl⟩
      unfold pyNext
      refine wpAny_bind (wpAny_attempt (wpAny_callSpecial?_slot (name:=Str.ofString "__next__") ty PySem.F.slot_zip_next (wpAny_call_entry PySem.F.slot_zip_next ty PySem.F.entry_zip_next (Z7D hz hT ti (apart (by decide)) fun h2 hz2 sb2=>?_) (PySem.F.args_zip_next_1 _))))
      refine wpAny_nextOf_list_item (j1.extBut sb2.extBut (Z1N (by decide))) (pl1.isList.extBut sb2.extBut (Z3b lt1)) gx' fun h3 k1 sb3=>?_
      refine wpAny_nextOf_list_item ((j2.extBut sb2.extBut (apart (by decide))).extBut sb3.extBut (Z1N (by decide)).symm) ((pl2.isList.extBut sb2.extBut (Z3b lt2)).extBut sb3.extBut (Nat.ne_of_lt lt2)) gy' fun h4 k2 sb4=>?_
      refine wpAny_newTuple ?_
      have e4:h4.objs.size=h'.objs.size:=by rw [sb4.1,sb3.1,sb2.1]
      have kk:∀ c o,c≠s1.heap.objs.size+4→c≠s1.heap.objs.size+3→c≠s1.heap.objs.size→c≠s1.heap.objs.size+1→h'.get? c=some o→(h4.push { cls:=.type "tuple",data:=.seq [ux,uy].toArray }).get? c=some o:=fun c o a1 a2 a3 a4 e=>Heap.get?_push_of_some _ (sb4.extBut _ _ a4 (sb3.extBut _ _ a3 (sb2.extBut _ _ a1 e)))
      have up:∀ c o,c≠s1.heap.objs.size→c≠s1.heap.objs.size+1→h2.get? c=some o→(h4.push { cls:=.type "tuple",data:=.seq [ux,uy].toArray }).get? c=some o:=fun c o a3 a4 e=>Heap.get?_push_of_some _ (sb4.extBut _ _ a4 (sb3.extBut _ _ a3 e))
      have ge6:∀ {a:Nat},a < 6→T≠s1.heap.objs.size+a:=fun {a} h z=>absurd hT6 (by rw [z]; exact Nat.not_le.mpr (Nat.add_lt_add_left h _))
      have hp:IsPair (h4.push { cls:=.type "tuple",data:=.seq [ux,uy].toArray }) h'.objs.size ux uy:=by rw [← e4]; exact Heap.get?_push_size _ rfl
      refine ⟨_,rfl,?_⟩
      refine wpAny_pure ?_
      rw [e4]
      refine q _ _ (Z8z I1 I sm sz nn ti ez ha hx hy rx ry (up _ _ (Z1N (by decide)).symm (apart (by decide)) hz2) (kk T o (ge6 (a:=4) (by decide)) (ge6 (a:=3) (by decide)) (ge6 (a:=0) (by decide)) (ge6 (a:=1) (by decide)) hT) hT6
        ⟨ta,tb,up _ _ (Z1N (by decide)).symm (apart (by decide)) (sb2.extBut _ _ (apart (by decide)) to)⟩ (k1.at fun o e=>Heap.get?_push_of_some _ (sb4.extBut _ _ (Z1N (by decide)) e)) (k2.at fun o e=>Heap.get?_push_of_some _ e) hp (by rw [Heap.size_push,e4]) kk) fun o e=>kk _ o (apart (by decide)) (apart (by decide)) (Z1N (by decide)).symm (apart (by decide)) e
  done:=by
    rintro acc s Q E ⟨h',tk,Hi,rfl,I,sm,sz,nn,zp,ti,⟨ta,tb,to⟩,j1,j2,ez,ha⟩ q
    obtain ⟨its1,rv1,pl1,_⟩:=I.list (sm.seq q1)
    obtain ⟨its2,rv2,pl2,_⟩:=I.list (sm.seq q2)
    have l1':=rv1.length
    have l2':=rv2.length
    have D:=zap lt1 lt2
    have fin:∀ h2,(∀ c o,c≠s1.heap.objs.size+4→c≠s1.heap.objs.size+3→c≠s1.heap.objs.size→c≠s1.heap.objs.size+1→h'.get? c=some o→h2.get? c=some o)→Q none { s1 with heap:=h2,toks:=tk }:=fun h2 kk=>by
      refine q _ ⟨h2,tk,Hi,rfl,Inv.grow (s:={ s1 with heap:=h',toks:=tk }) (t':=tk) (ch:=[s1.heap.objs.size+4,s1.heap.objs.size+3,s1.heap.objs.size+0,s1.heap.objs.size+1]) I (fun b hb=>?_) (fun b o hb e=>?_) (fun b o e=>e) (fun b o n e=>by rw [n] at e; cases e),sm,nn,ha⟩
        fun o e=>kk _ o (apart (by decide)) (apart (by decide)) (Z1N (by decide)).symm (apart (by decide)) e
      · have fp:∀ a,a < 6→FpOk X pins Hi (s1.heap.objs.size+a):=fun a h=>(I1.fpOk (Nat.le_add_right _ _) (I1.hok.fresh (Nat.le_add_right _ _))).to (nn a h)
        simp only [List.mem_cons,List.not_mem_nil,or_false] at hb; rcases hb with rfl | rfl | rfl | rfl
        · exact fp 4 (by decide)
        · exact fp 3 (by decide)
        · exact fp 0 (by decide)
        · exact fp 1 (by decide)
      · simp only [List.mem_cons,List.not_mem_nil,or_false,not_or] at hb
        exact kk b o hb.1 hb.2.1 hb.2.2.1 hb.2.2.2 e
    have hend:its1.toArray[min xs.length ys.length]?=none∨its2.toArray[min xs.length ys.length]?=none:=by
      by_cases e:xs.length≤ys.length
      · exact .inl (by rw [Nat.min_eq_left e]; simp; omega)
      · exact .inr (by rw [Nat.min_eq_right (by omega)]; simp; omega)
    rcases zp with ⟨_,hz⟩ | ⟨T,f,o,hz,hT,hT6⟩
    · exact wpAny_pyNext_zip_end hh D hz ti to j1 j2 pl1.isList pl2.isList hend fin
    · have ty:({ s1 with heap:=h',toks:=tk }:Shared).TypeIs (.ref (s1.heap.objs.size+4)) "zip":=⟨_,hz,rfl⟩
      unfold pyNext
      refine wpAny_bind (wpAny_attempt (wpAny_callSpecial?_slot (name:=Str.ofString "__next__") ty PySem.F.slot_zip_next (wpAny_call_entry PySem.F.slot_zip_next ty PySem.F.entry_zip_next (Z7D hz hT ti (apart (by decide)) fun h2 hz2 sb2=>?_) (PySem.F.args_zip_next_1 _))))
      cases gx:its1.toArray[min xs.length ys.length]? with
      | none=>
        refine wpAny_nextOf_list_end (show (A.in1).handled=none from hh) (j1.extBut sb2.extBut (Z1N (by decide))) (pl1.isList.extBut sb2.extBut (Z3b lt1)) gx fun h3 e eb he=>?_
        obtain ⟨oe,ho,hc⟩:=he
        refine wpAny_bind (wpAny_isInstance (T:="StopIteration") (b:=true) ⟨oe,ho,hc⟩ isSubtype_stop (wpAny_pure (fin h3 fun c o a1 a2 a3 a4 e=>?_)))
        exact eb _ _ a3 (sb2.extBut _ _ a1 e)
      | some ux=>
        have gy:=hend.resolve_left (by rw [gx]; exact fun z=>by cases z)
        refine wpAny_nextOf_list_item (j1.extBut sb2.extBut (Z1N (by decide))) (pl1.isList.extBut sb2.extBut (Z3b lt1)) gx fun h3 k1 sb3=>?_
        refine wpAny_nextOf_list_end (show (A.in1).handled=none from hh) ((j2.extBut sb2.extBut (apart (by decide))).extBut sb3.extBut (Z1N (by decide)).symm) ((pl2.isList.extBut sb2.extBut (Z3b lt2)).extBut sb3.extBut (Nat.ne_of_lt lt2)) gy fun h4 e eb he=>?_
        obtain ⟨oe,ho,hc⟩:=he
        refine wpAny_bind (wpAny_isInstance (T:="StopIteration") (b:=true) ⟨oe,ho,hc⟩ isSubtype_stop (wpAny_pure (fin h4 fun c o a1 a2 a3 a4 e=>?_)))
        exact eb _ _ a4 (sb3.extBut _ _ a3 (sb2.extBut _ _ a1 e))
def J9D (K:W.Frag) (t:TA):TE:=fun σ H Q=>t σ H fun vs H1=>∃ a b xs ys,vs=[.ref a,.ref b]∧SqL K H1 a xs∧SqL K H1 b ys∧∀ l zs H2,H1 l=none→Same H1 H2→H2 l=some (.lst zs)→zs.length=min xs.length ys.length →
  (∀ (k:Nat) v,zs[k]?=some v→∃ T x y,v=.ref T∧xs[k]?=some x∧ys[k]?=some y∧H2 T=some (.tup [x,y]))→Q (.ref l) H2
theorem J8q {K:W.Frag} {t:TA} {σ:St} {H:Hp} {Q:VK}:J9D K t σ H Q=t σ H fun vs H1=>∃ a b xs ys,vs=[.ref a,.ref b]∧SqL K H1 a xs∧SqL K H1 b ys∧∀ l zs H2,H1 l=none→Same H1 H2→H2 l=some (.lst zs)→zs.length=min xs.length ys.length →
  (∀ (k:Nat) v,zs[k]?=some v→∃ T x y,v=.ref T∧xs[k]?=some x∧ys[k]?=some y∧H2 T=some (.tup [x,y]))→Q (.ref l) H2:=rfl
end
end L2
end
section
namespace L2
open PySem PySem.Spec PyProof.Rows
theorem Z4y (ys:List Int):∀ n,n≤ys.length→preSum (fun i=>ys.getD i 0) n=(ys.take n).sum
  | 0,_=>by simp [preSum]
  | n+1,h=>by
    rw [preSum,Z4y ys n (by omega),List.take_succ_eq_append_getElem (by omega),List.sum_append]
    simp [List.getD_eq_getElem?_getD,List.getElem?_eq_getElem (show n < ys.length by omega)]
theorem J2v {X:Cx} (hc:X.calm=true):Z4q X (.builtin "sum") (fun xs H Q=>∃ (p:Addr) (ys:List Int),xs=[.ref p]∧SqL X.K H p (ys.map V.int)∧Q (.int ys.sum) H):=by
  intro pins s σ H xs us Q I r h
  obtain ⟨p,ys,rfl,hq,q⟩:=h
  obtain ⟨u,rfl,ru⟩:=r.one
  cases ru
  obtain ⟨its,rv,pl,hz⟩:=I.list hq
  obtain ⟨o,ho,_,_,_⟩:=id pl.isList
  have hne:p≠s.heap.objs.size:=Nat.ne_of_lt (Heap.lt_size ho)
  have hl:=rv.length
  rw [List.length_map] at hl
  refine call_sum_walkG (wpAny_pyIter_list pl.isList ?_)
  refine ⟨s.heap.objs.size,_,_,_,_,_,fun i=>ys.getD i 0,rfl,Walks.list (A:=X.A.in1) (show X.A.in1.handled=none from I.ok.hd hc) _ p hne its.toArray,⟨⟨_,Heap.get?_push_size _ rfl,rfl,rfl⟩,pl.isList.at fun o e=>Heap.get?_push_of_some _ e⟩,fun b hb=>?_,fun i v hv=>?_,fun h' tk t' kk=>?_⟩
  · have lt:p < s.heap.objs.size:=Heap.lt_size ho
    have e:b=s.heap.objs.size∨b=p:=by simpa using hb
    show b < (s.heap.objs.push _).size
    rw [Array.size_push]
    rcases e with e | e
    · rw [e]; exact Nat.lt_succ_self _
    · rw [e]; exact Nat.lt_succ_of_lt lt
  · have hv':its[i]?=some v:=by simpa using hv
    have hi:i < ys.length:=by
      have:=(List.getElem?_eq_some_iff.mp hv').1
      omega
    obtain ⟨u',e',r'⟩:=rv.get (i:=i) (x:=V.int ys[i]) (by rw [List.getElem?_map,List.getElem?_eq_getElem hi]; rfl)
    rw [hv'] at e'
    cases e'
    obtain ⟨t,rfl⟩:=(show ∃ t,_=Value.int ys[i] t from r')
    exact ⟨t,by simp [List.getD_eq_getElem?_getD,List.getElem?_eq_getElem hi]⟩
  · have e:preSum (fun i=>ys.getD i 0) its.toArray.size=ys.sum:=by
      rw [List.size_toArray,← hl,Z4y ys _ (Nat.le_refl _),List.take_length]
    refine ⟨.int ys.sum,H,I.kept fun b o e=>kk b o (fun z=>?_) (Heap.get?_push_of_some _ e),by rw [e]; exact ⟨_,rfl⟩,q⟩
    have z':b=s.heap.objs.size:=by simpa using z
    exact absurd (Heap.lt_size e) (by rw [z']; exact Nat.lt_irrefl _)
end L2
end
section
namespace L2
open PySem PySem.Spec PyProof.Rows
section
variable {P:Program} {w:World} {B:Around} {R:Result→Shared→Prop} {it:Addr} {fp wr:List Addr} {n:Nat} {Y:Nat→Value→Prop} {St:Nat→Heap→Prop}
theorem Z4w:(toString "max"++toString ".loop":String)="max.loop":=by decide
theorem J2r (kw:List (Str×Value)) (W:Walks P w B.in1 it fp wr n Y St) (bt:Nat→Nat→Bool) (hc:CmpOf P w B.in1 .Gt Y bt) (Z:Addr) (hZ:Z∉fp) :
    ∀ (k j:Nat) (s:Shared) (u:Value) (c:Nat),n - (j+1)=k→j+1≤n→St (j+1) s.heap→Y (argBest bt j) u→s.heap.get? Z=some { cls:=.type "list",dict:=none,data:=.seq #[u,u] c,slots:=#[] } →
    (∀ v h' tk,Y (argBest bt (n - 1)) v→(∀ b o,b∉wr→b≠Z→s.heap.get? b=some o→h'.get? b=some o)→R (.ok (.ret v)) { s with heap:=h',toks:=tk }) →
    codeAny (model P w) B (.builtin "max.loop" ⟨[.ref it,.none,.ref Z],kw⟩) R s:=by
  have hZw:Z∉wr:=fun z=>hZ (W.sub _ z)
  intro k
  induction k with
  | zero=>
    intro j s u c hk hj st hu gZ q
    have ej:j+1=n:=Nat.le_antisymm hj (Nat.sub_eq_zero_iff_le.mp hk)
    refine codeAny_builtin F.entry_max_loop ?_; rw [Around.under_plainId F.plain_max_loop ⟨[.ref it,.none,.ref Z],kw⟩]
    show wpAny (model P w) B.in1 (seqItems? (.ref Z) >>= _) _ _ s; refine wpAny_bind (wpAny_seqItems gZ rfl ?_)
    show wpAny (model P w) B.in1 (tryCatch (pyNext (.ref it)) _ >>= _) _ _ s; refine wpAny_bind (wpAny_tryCatch (W.done s _ _ (ej▸st) fun h1 tk k1=>?_))
    have gZ1:=k1 Z _ hZw gZ
    show wpAny (model P w) B.in1 (updateSeq Z (fun _=>#[]) >>= _) _ _ _; refine wpAny_bind (wpAny_updateSeq gZ1 rfl (wpAny_bind (wpAny_letGo (wpAny_pure ?_))))
    exact q u _ tk (by rw [← ej]; exact hu) fun b o hb hbZ e=>(Heap.get?_update_other _ _ (Ne.symm hbZ)).trans (k1 b o hb e)
  | succ k ih=>
    intro j s u c hk hj st hu gZ q
    have lt:j+1 < n:=by omega
    refine codeAny_builtin F.entry_max_loop ?_; rw [Around.under_plainId F.plain_max_loop ⟨[.ref it,.none,.ref Z],kw⟩]
    show wpAny (model P w) B.in1 (seqItems? (.ref Z) >>= _) _ _ s; refine wpAny_bind (wpAny_seqItems gZ rfl ?_)
    show wpAny (model P w) B.in1 (tryCatch (pyNext (.ref it)) _ >>= _) _ _ s; refine wpAny_bind (wpAny_tryCatch (W.item (j+1) s _ _ lt st fun v h1 tk hv st1 k1=>?_))
    have gZ1:=k1 Z _ hZw gZ
    show wpAny (model P w) B.in1 (tryCatch (holding [v,v] (richCompare .Gt v u >>= _)) _ >>= _) _ _ _; refine wpAny_bind (wpAny_tryCatch (wpAny_holding (wpAny_bind (hc (j+1) (argBest bt j) v u _ _ _ hv hu ?_))))
    refine wpAny_bind (wpAny_holding (wpAny_truthy_bool (wpAny_bind (wpAny_letGo (wpAny_pure ?_)))))
    cases hbt:bt (j+1) (argBest bt j) with
    | true=>
      rw [if_pos rfl]; refine wpAny_bind (wpAny_updateSeq gZ1 rfl (wpAny_bind (wpAny_letGo ?_)))
      rw [Z4w]; refine wpAny_pure ⟨plainId_quiet F.plain_max_loop ⟨[.ref it,.none,.ref Z],kw⟩,ih (j+1) _ v _ (by omega) lt (W.frame _ _ _ st1 fun b hbf o e=>?_) (by rw [argBest,hbt,if_pos rfl]; exact hv) (Heap.get?_update_self _ gZ1 rfl) fun v' h2 tk2 hv' k2=>?_⟩
      · exact (Heap.get?_update_other _ _ (fun z:Z=b=>hZ (z▸hbf))).trans e
      · exact q v' h2 tk2 hv' fun b o hbw hbZ e=>k2 b o hbw hbZ ((Heap.get?_update_other _ _ (Ne.symm hbZ)).trans (k1 b o hbw e))
    | false=>
      rw [if_neg Bool.false_ne_true]; refine wpAny_bind (wpAny_letGo ?_)
      rw [Z4w]; refine wpAny_pure ⟨plainId_quiet F.plain_max_loop ⟨[.ref it,.none,.ref Z],kw⟩,ih (j+1) _ u c (by omega) lt st1 (by rw [argBest,hbt,if_neg Bool.false_ne_true]; exact hu) gZ1 fun v' h2 tk2 hv' k2=>?_⟩
      exact q v' h2 tk2 hv' fun b o hbw hbZ e=>k2 b o hbw hbZ (k1 b o hbw e)
end
theorem Z9r (a d:Value):argsOk "max" ⟨[a],[(Str.ofString "default",d)]⟩:=by unfold argsOk; kernel_rfl
section
variable {P:Program} {w:World} {A:Around} {E:Value→Shared→Prop} {s:Shared}
def Z7a (ys:List Int) (m:Int):Prop:=m∈ys∧∀ a∈ys,a≤m
theorem J2k {ys:List Int} (h:0 < ys.length):Z7a ys (ys.getD (argBest (fun i j=>decide (ys.getD i 0 > ys.getD j 0)) (ys.length - 1)) 0):=by
  obtain ⟨a,b⟩:=argBest_gt (fun i=>ys.getD i 0) (ys.length - 1)
  refine ⟨?_,fun x hx=>?_⟩
  · have lt:argBest (fun i j=>decide (ys.getD i 0 > ys.getD j 0)) (ys.length - 1) < ys.length:=by omega
    rw [List.getD_eq_getElem?_getD,List.getElem?_eq_getElem lt]
    exact List.getElem_mem lt
  · obtain ⟨j,hj,e⟩:=List.getElem_of_mem hx
    have:=b j (by omega)
    rw [List.getD_eq_getElem?_getD,List.getElem?_eq_getElem hj] at this
    rw [← e]; exact this
theorem J1f {l it:Addr} {its:List Value} {ys:List Int} (hh:A.handled=none) (hl:ys.length=its.length) (hv:∀ (i:Nat) (v:Value),its[i]?=some v→∃ t,v=Value.int (ys.getD i 0) t) (hne:l≠it) :
    Walks P w A it [it,l] [it] its.toArray.size (fun i v=>its.toArray[i]?=some v) (fun i h=>h.IsListIter it l i∧h.IsList l its.toArray)∧CmpOf P w A .Gt (fun i v=>its.toArray[i]?=some v) (fun i j=>decide (ys.getD i 0 > ys.getD j 0)):=
  ⟨Walks.list hh it l hne its.toArray,CmpOf.ints_gt (fun i=>ys.getD i 0) fun i v h=>hv i v (by simpa using h)⟩
theorem J3j {l:Addr} {its:List Value} {ys:List Int} {d:Value} {Q:Value→Shared→Prop} (hh:A.handled=none) (pl:s.heap.IsList l its.toArray) (hlen:ys.length=its.length) (hv:∀ (i:Nat) (v:Value),its[i]?=some v→∃ t,v=Value.int (ys.getD i 0) t)
    (q:∀ v h' tk,(ys=[]→v=d)→(ys≠[]→∃ m t,v=.int m t∧Z7a ys m)→(∀ b o,s.heap.get? b=some o→h'.get? b=some o)→Q v { s with heap:=h',toks:=tk }) :
    wpAny (model P w) A (call (.builtin "max") [.ref l] [(Str.ofString "default",d)]) Q E s:=by
  obtain ⟨ol,gl,_⟩:=id pl
  have ll:l < s.heap.objs.size:=Heap.lt_size gl
  refine PyProof.Rows.kmk_tree PySem.F.kind_max PySem.F.plain_max PySem.F.entry_max (Z9r _ _) ?_
  show wpAny (model P w) A.in1 (Builtin.Builtins.bindParams "max" ["key","default"] 0 ⟨[],[(Str.ofString "default",d)]⟩ >>= _) _ _ s
  refine wpAny_bind (wpAny_of_eq (show Builtin.Builtins.bindParams "max" ["key","default"] 0 ⟨[],[(Str.ofString "default",d)]⟩=pure [none,some d] from rfl) (wpAny_bind (wpAny_pure ?_)))
  refine wpAny_bind (wpAny_pyIter_list pl (wpAny_bind (wpAny_newObj_type ?_)))
  rw [Z4w]
  have g1:((s.heap.push { cls:=.type "list_iterator",data:=.fields #[.ref l,.int 0 0] }).push { cls:=.type "list",data:=.seq #[] }).IsListIter s.heap.objs.size l 0:=⟨_,Heap.get?_push_of_some _ (Heap.get?_push_size _ rfl),rfl,rfl⟩
  have g2:((s.heap.push { cls:=.type "list_iterator",data:=.fields #[.ref l,.int 0 0] }).push { cls:=.type "list",data:=.seq #[] }).IsList l its.toArray:=pl.at fun o e=>Heap.get?_push_of_some _ (Heap.get?_push_of_some _ e)
  have g3:((s.heap.push { cls:=.type "list_iterator",data:=.fields #[.ref l,.int 0 0] }).push { cls:=.type "list",data:=.seq #[] }).get? (s.heap.objs.size+1)=some { cls:=.type "list",dict:=none,data:=.seq #[] 0,slots:=#[] }:=by
    rw [show s.heap.objs.size+1=(s.heap.push { cls:=.type "list_iterator",data:=.fields #[.ref l,.int 0 0] }).objs.size from (Heap.size_push ..).symm]; exact Heap.get?_push_size _ rfl
  have k3:∀ b o,s.heap.get? b=some o→((s.heap.push { cls:=.type "list_iterator",data:=.fields #[.ref l,.int 0 0] }).push { cls:=.type "list",data:=.seq #[] }).get? b=some o:=fun b o e=>Heap.get?_push_of_some _ (Heap.get?_push_of_some _ e)
  rw [show (s.heap.push { cls:=.type "list_iterator",data:=.fields #[.ref l,.int 0 0] }).objs.size=s.heap.objs.size+1 from Heap.size_push ..]
  generalize (s.heap.push { cls:=.type "list_iterator",data:=.fields #[.ref l,.int 0 0] }).push { cls:=.type "list",data:=.seq #[] }=h3 at *
  refine wpAny_pure ⟨plainId_quiet F.plain_max_loop _,?_⟩
  obtain ⟨W,hc⟩:=J1f (P:=P) (w:=w) (A:=A.in1) (it:=s.heap.objs.size) (l:=l) (its:=its) (ys:=ys) hh hlen hv (Nat.ne_of_lt ll)
  have hZ:s.heap.objs.size+1∉[s.heap.objs.size,l]:=fun z=>by
    rcases List.mem_cons.mp z with z | z
    · omega
    · exact absurd ll (by rw [← List.mem_singleton.mp z]; exact Nat.not_lt.mpr (Nat.le_succ _))
  refine codeAny_builtin F.entry_max_loop ?_; rw [Around.under_plainId F.plain_max_loop _]
  show wpAny (model P w) A.in1 (seqItems? (.ref (s.heap.objs.size+1)) >>= _) _ _ _; refine wpAny_bind (wpAny_seqItems g3 rfl ?_)
  show wpAny (model P w) A.in1 (tryCatch (pyNext (.ref s.heap.objs.size)) _ >>= _) _ _ _
  by_cases hy:ys=[]
  · have hn:its.toArray.size=0:=by rw [List.size_toArray,← hlen,hy]; rfl
    have st:(fun i (h:Heap)=>h.IsListIter s.heap.objs.size l i∧h.IsList l its.toArray) its.toArray.size h3:=by rw [hn]; exact ⟨g1,g2⟩
    refine wpAny_bind (wpAny_tryCatch (W.done _ _ _ st fun h4 tk k4=>?_))
    refine wpAny_bind (wpAny_rule (wpAny_pure ?_)); exact q d h4 tk (fun _=>rfl) (fun z=>absurd hy z) fun b o e=>k4 b o (fun z=>absurd (Heap.lt_size e) (by rw [List.mem_singleton.mp z]; exact Nat.lt_irrefl _)) (k3 b o e)
  · have hp:0 < ys.length:=List.length_pos_iff.mpr hy
    have hn:0 < its.toArray.size:=by rw [List.size_toArray,← hlen]; exact hp
    refine wpAny_bind (wpAny_tryCatch (W.item 0 _ _ _ hn ⟨g1,g2⟩ fun v h4 tk hv4 st4 k4=>?_))
    have g4:=k4 _ _ (fun z=>hZ (List.mem_cons.mpr (.inl (List.mem_singleton.mp z)))) g3
    refine wpAny_bind (wpAny_pure (wpAny_bind (wpAny_updateSeq g4 rfl ?_)))
    rw [Z4w]
    refine wpAny_pure ⟨plainId_quiet F.plain_max_loop _,J2r _ W _ hc _ hZ (its.toArray.size - 1) 0 _ v _ rfl hn (W.frame _ _ _ st4 fun b hb o e=>?_) hv4 (Heap.get?_update_self _ g4 rfl) fun u h5 tk5 hu k5=>?_⟩
    · exact (Heap.get?_update_other _ _ (fun z:s.heap.objs.size+1=b=>hZ (z▸hb))).trans e
    · obtain ⟨t,rfl⟩:=hv (argBest (fun i j=>decide (ys.getD i 0 > ys.getD j 0)) (its.toArray.size - 1)) _ (by rw [← List.getElem?_toArray]; exact hu)
      refine q _ h5 tk5 (fun z=>absurd z hy) (fun _=>⟨_,t,rfl,?_⟩) fun b o e=>?_
      · have:=J2k hp
        rw [List.size_toArray,← hlen]; exact this
      · have lt:=Heap.lt_size e
        have n1:b∉[s.heap.objs.size]:=fun z=>absurd lt (by rw [List.mem_singleton.mp z]; exact Nat.lt_irrefl _)
        exact k5 b o n1 (Nat.ne_of_lt (Nat.lt_succ_of_lt lt)) ((Heap.get?_update_other _ _ (Nat.ne_of_gt (Nat.lt_succ_of_lt lt))).trans (k4 b o n1 (k3 b o e)))
end
section
variable {X:Cx}
theorem J2h {its:List Value} {ys:List Int} (rv:Vals (ys.map V.int) its):ys.length=its.length∧∀ (i:Nat) (v:Value),its[i]?=some v→∃ t,v=Value.int (ys.getD i 0) t:=by
  have hl:=rv.length
  rw [List.length_map] at hl
  refine ⟨hl,fun i v h=>?_⟩
  have hi:i < ys.length:=by rw [hl]; exact (List.getElem?_eq_some_iff.mp h).1
  obtain ⟨u,e,r⟩:=rv.get (i:=i) (x:=V.int ys[i]) (by rw [List.getElem?_map,List.getElem?_eq_getElem hi]; rfl)
  rw [h] at e
  cases e
  obtain ⟨t,rfl⟩:=(show ∃ t,_=Value.int ys[i] t from r)
  exact ⟨t,by rw [List.getD_eq_getElem?_getD,List.getElem?_eq_getElem hi]; rfl⟩
def J8D (K:W.Frag):List V→Hp→VK→Prop:=fun xs H Q=>∃ (p:Addr) (ys:List Int),xs=[.ref p]∧SqL K H p (ys.map V.int)∧ys≠[]∧∀ m,Z7a ys m→Q (.int m) H
def J7n (K:W.Frag) (t tk:TA):TE:=fun σ H Q=>t σ H fun vs H1=>tk σ H1 fun zs H2=>∃ (p:Addr) (ys:List Int) (d:Int),vs=[.ref p]∧zs=[.int d]∧SqL K H2 p (ys.map V.int)∧∀ m,(ys=[]→m=d)→(ys≠[]→Z7a ys m)→Q (.int m) H2
theorem J8l {K:W.Frag} {t tk:TA} {σ:St} {H:Hp} {Q:VK}:J7n K t tk σ H Q=t σ H fun vs H1=>tk σ H1 fun zs H2=>∃ (p:Addr) (ys:List Int) (d:Int),vs=[.ref p]∧zs=[.int d]∧SqL K H2 p (ys.map V.int)∧∀ m,(ys=[]→m=d)→(ys≠[]→Z7a ys m)→Q (.int m) H2:=rfl
theorem J7X {K:W.Frag} {xs:List V} {H:Hp} {Q:VK}:J8D K xs H Q=∃ (p:Addr) (ys:List Int),xs=[.ref p]∧SqL K H p (ys.map V.int)∧ys≠[]∧∀ m,Z7a ys m→Q (.int m) H:=rfl
theorem J4o {e x1:Expr} {t tk:TA} {p pos kp:Pos} (hc:X.calm=true) (hg:Gl X "max") (hm:X.mg "max"=none) (hb:bootBuiltins "max"=some (.builtin "max")) (ha:PA X [e] t) (hk:PK X [⟨some "default",x1,kp⟩] tk)
    (he:backTo pos (starEach [e] X.env)=(false,eval e X.env)::backTo pos (starEach [] X.env):=by rfl) (hpl:(backTo pos (starEach [e] X.env)).any (·.1)=false:=by rfl)
    (hn:("max":Str)≠"__name__":=by decide) (hdb:(("max":Str) == ("__debug__":Str))=false:=by decide):PE X (.Call (.Name "max" p) [e] [⟨some "default",x1,kp⟩] pos) (J7n X.K t tk):=by
  intro pins s σ H Q I h
  refine wpAny_Call_Name_kw (Z2A I hg hm hb ?_ hn hdb)
  refine PyProof.Rows.callWith_kw (thn (ha pos pins s σ H _ I h) fun us s1 ⟨vs,H1,I1,r1,q1⟩=>thn (hk pos pins s1 σ H1 _ I1 q1) fun ws s2 hz=>?_) he hpl rfl rfl
  obtain ⟨zs,H2,I2,r2,l,ys,d,rfl,rfl,hq,q⟩:=hz
  obtain ⟨u,rfl,ru⟩:=r1.one
  cases ru
  obtain ⟨z,rfl,rz⟩:=r2.one
  obtain ⟨its,rv,pl,hz⟩:=I2.list hq
  obtain ⟨hl,hv⟩:=J2h rv
  refine J3j (I2.ok.hd hc) pl.isList hl hv fun v h' tk hd hx k=>?_
  obtain ⟨tz,rfl⟩:=(show ∃ t,z=Value.int d t from rz)
  by_cases hy:ys=[]
  · cases hd hy
    exact ⟨.int d,H2,I2.kept k,⟨_,rfl⟩,q d (fun _=>rfl) fun z=>absurd hy z⟩
  · obtain ⟨m,t,rfl,im⟩:=hx hy
    exact ⟨.int m,H2,I2.kept k,⟨_,rfl⟩,q m (fun z=>absurd z hy) fun _=>im⟩
end
end L2
end
section
namespace L2
open PySem PySem.Spec PyProof.Rows PySem.SeqAt
def rNeN (K:W.Frag):R2:=fun x y H Q=>∃ a xs b,x=.ref a∧y=.ref b∧SqL K H a xs∧SqL K H b []∧Q (.bl (!xs.isEmpty)) H
def rEqN (K:W.Frag):R2:=fun x y H Q=>∃ a xs b,x=.ref a∧y=.ref b∧SqL K H a xs∧SqL K H b []∧Q (.bl xs.isEmpty) H
theorem J9t {K:W.Frag} {x y:V} {H:Hp} {Q:VK}:rNeN K x y H Q=∃ a xs b,x=.ref a∧y=.ref b∧SqL K H a xs∧SqL K H b []∧Q (.bl (!xs.isEmpty)) H:=rfl
theorem J9y {K:W.Frag} {x y:V} {H:Hp} {Q:VK}:rEqN K x y H Q=∃ a xs b,x=.ref a∧y=.ref b∧SqL K H a xs∧SqL K H b []∧Q (.bl xs.isEmpty) H:=rfl
section
variable {X:Cx}
theorem J6i (hu:X.A.units+64 < cLine):OpR X (compareOp .Eq) (rEqN X.K):=by
  intro pins s σ H x y v u Q I rx ry h
  obtain ⟨a,xs,b,rfl,rfl,ha,hb,q⟩:=h
  cases rx
  cases ry
  obtain ⟨its,rv,pl,_⟩:=I.list ha
  obtain ⟨its2,rv2,pl2,_⟩:=I.list hb
  cases rv2.zero
  cases xs with
  | nil=>
    cases rv.zero
    exact RcAt.lists (e:=fun _=>true) pl.isList pl2.isList rfl (Nat.lt_of_le_of_lt (Nat.le_add_right _ _) hu) (fun j h=>absurd h (Nat.not_lt_zero _)) X.prog X.w X.xe _ ⟨.bl true,H,I,rfl,q⟩
  | cons x xs=>
    have hl:=rv.length
    refine RcAt.lists_lengths pl.isList pl2.isList ?_ (Nat.lt_of_le_of_lt (Nat.le_add_right _ _) hu) X.prog X.w X.xe _ ⟨.bl false,H,I,rfl,q⟩
    rw [List.size_toArray,← hl]; rfl
end
theorem Z7Y {J:It} {te:TE} {Q:VK} {H0:Hp} {D:Addr} {n:Nat} {σ0:St} (v0:Option V) (rest:St) (Pv:Nat→V→Prop) (W:Nat→List V→Hp→Prop) (e0:σ0=v0::rest) (hz:n≤sizeLine) (h0:W 0 [] (upd H0 D (.lst [])))
    (hgo:∀ i vs H,i < n→W i vs H→J.go i H∧∀ x H2,J.yld i H x H2→H2=H∧Pv i x) (hstop:∀ vs H,W n vs H→J.stop n H)
    (he:∀ i x vs H (K':VK),i < n→Pv i x→W i vs H→H D=some (.lst vs)→(∀ v H2,H2 D=some (.lst vs)→W (i+1) (vs++[v]) (upd H2 D (.lst (vs++[v])))→K' v H2)→te (some x::rest) H K')
    (hQ:∀ vs H,W n vs H→H D=some (.lst vs)→vs.length=n→Q (.ref D) H):Z5a J (Z4Q 0) Z3O te D Q σ0 (upd H0 D (.lst [])):=by
  refine ⟨fun i m σ' H'=>m=n - i∧i≤n∧(∃ v,σ'=v::rest)∧∃ vs,H' D=some (.lst vs)∧vs.length=i∧W i vs H',⟨n,by simp,Nat.zero_le _,⟨v0,e0⟩,[],Z0g,rfl,h0⟩,?_⟩
  rintro i m σ' H' ⟨rfl,hi,⟨v,rfl⟩,vs,hv,hl,hw⟩
  by_cases hlt:i < n
  · obtain ⟨go,yl⟩:=hgo i vs H' hlt hw
    refine .inr ⟨go,fun σ2 H2=>(∃ v,σ2=v::rest)∧∃ vs,H2 D=some (.lst vs)∧vs.length=i+1∧W (i+1) vs H2,fun σ2 H2 ⟨a,b⟩=>⟨n - (i+1),by omega,rfl,hlt,a,b⟩,fun x H2 hx=>?_⟩
    obtain ⟨e1,px⟩:=yl x H2 hx
    subst e1
    unfold Z4Q Z3O
    rw [List.set_cons_zero]
    refine iteT (he i x vs _ _ hlt px hw hv fun v H3 h3 hw3=>?_)
    exact ⟨vs,h3,by omega,⟨_,rfl⟩,_,Z0g,by rw [List.length_append,hl]; rfl,hw3⟩
  · have e:i=n:=by omega
    subst e
    exact .inl ⟨hstop vs H' hw,hQ vs H' hw hv hl⟩
def J9e (K:W.Frag) (te:TE) (tst:TO):TE:=fun σ H Q=>te σ H fun x H1=>tst σ H1 fun o H2=>o=some (-1)∧∃ a xs,x=.ref a∧SqL K H2 a xs∧∀ l,H2 l=none→Q (.ref l) (upd H2 l (.lst xs.reverse))
theorem J7P {K:W.Frag} {te:TE} {tst:TO} {σ:St} {H:Hp} {Q:VK}:J9e K te tst σ H Q=te σ H fun x H1=>tst σ H1 fun o H2=>o=some (-1)∧∃ a xs,x=.ref a∧SqL K H2 a xs∧∀ l,H2 l=none→Q (.ref l) (upd H2 l (.lst xs.reverse)):=rfl
def J2N (K:W.Frag) (ta:TE):TT:=fun σ H Q=>ta σ H fun x H1=>∃ a xs,x=.ref a∧SqL K H1 a xs∧Q (!xs.isEmpty) H1
theorem J7V {K:W.Frag} {ta:TE} {σ:St} {H:Hp} {Q:Bool→Hp→Prop}:J2N K ta σ H Q=ta σ H fun x H1=>∃ a xs,x=.ref a∧SqL K H1 a xs∧Q (!xs.isEmpty) H1:=rfl
theorem J4G {X:Cx} {a:Expr} {ta:TE} (ha:PE X a ta) (he:∀ whole,isTrue a X.env whole=(do let v ← whole; standAt a.pos; holding [v] (truthy v))):PT X a (J2N X.K ta):=by
  intro pins s σ H Q I h
  refine isTrue_plain (thn (ha pins s σ H _ I h) fun v s1 hz=>?_) (he _)
  obtain ⟨x,H1,I1,r1,a,xs,rfl,hq,q⟩:=hz
  exact J6S pins s1 σ H1 _ v Q I1 r1 ⟨_,.inl ⟨xs,hq,rfl⟩,q⟩
theorem J4O {c:TT} {tb:TS} {D:Ends} {σ:St} {H:Hp} (Pv:Nat→St→Hp→Prop) {m0:Nat} (h0:Pv m0 σ H)
    (hs:∀ m σ H,Pv m σ H→c σ H fun b H1=>if b=true then tb { D with nx:=fun σ' H'=>∃ m',m' < m∧Pv m' σ' H',ct:=fun σ' H'=>∃ m',m' < m∧Pv m' σ' H',bk:=D.nx } σ H1 else D.nx σ H1)
    (mono:∀ σ H Q Q',(∀ b H1,Q b H1→Q' b H1)→c σ H Q→c σ H Q'):J3T c tb D σ H:=by
  refine ⟨Pv,⟨m0,h0⟩,fun m σ H p=>mono σ H _ _ (fun b H1 q=>?_) (hs m σ H p)⟩
  cases b with
  | true=>exact ⟨_,fun σ' H' h=>h,q⟩
  | false=>exact q
theorem J0r {o:Option (Option V)} {R R':V→Prop} (i:∀ v,R v→R' v) (h:opt2 o R):opt2 o R':=by
  unfold opt2 at h ⊢
  split at h
  · exact i _ h
  · cases h
theorem J0b {K:W.Frag} {i:Nat} (σ:St) (H:Hp) (Q Q':Bool→Hp→Prop) (j:∀ b H1,Q b H1→Q' b H1) (h:J2N K (Z8S i) σ H Q):J2N K (Z8S i) σ H Q':=J0r (fun v ⟨a,xs,e,hq,q⟩=>⟨a,xs,e,hq,j _ _ q⟩) h
end L2
end
section
namespace L2
open PySem PySem.Spec PyProof.Rows
theorem J4P (l:Addr) (xs:Array Value) (n:Nat) (b:Addr) (ys:Array Value) (m:Nat) (dd:Option Addr) (sl:Array (Option Value)) (h0:¬(!xs.isEmpty&&Builtin.List.listTooLong (xs.size+ys.size))=true) (h1:xs.size≤sizeLine) (h2:xs.size+ys.size≤sizeLine+1) :
    Meets (Builtin.«list.extend» ⟨[.ref l,.ref b],[]⟩) (fun _ R s=>s.heap.get? l=some { cls:=.type "list",dict:=none,data:=.seq xs n,slots:=#[] }∧s.heap.get? b=some { cls:=.type "tuple",dict:=dd,data:=.seq ys m,slots:=sl }∧R (.ok (.ret Value.none)) { s with heap:=s.heap.update l (Obj.mapSeq fun x=>x++ys),toks:=s.toks }):=by
  refine .of_wp fun prog w A R s h=>(?_)
  obtain ⟨hp,g,d,tk,os⟩:=s
  obtain ⟨hl,hb,h⟩:=h
  have f2:=AutoSeq1.sub_tuple_tuple; have f3:=AutoSeq1.sub_list_list; have f4:=AutoSeq1.sub_tuple_list; have f5:=AutoSeq1.sub_list_tuple
  have hz':(xs++ys).size≤sizeLine+1:=by rw [Array.size_append]; exact h2
  wp_walk using (wpAny_updateSeq hl rfl (hz:=h1) (_hz':=hz')),wpAny_loadPart' hl,wpAny_loadPart' hb
  exact ⟨_,rfl,h⟩
def Z4t (K:W.Frag):V→List V→Hp→VK→Prop:=fun x vs H Q=>∃ l b xs zs,x=.ref l∧vs=[.ref b]∧H l=some (.lst xs)∧SqT K H b zs∧xs.length+zs.length≤sizeLine∧Q .non (upd H l (.lst (xs++zs)))
theorem J4y {K:W.Frag} {x:V} {vs:List V} {H:Hp} {Q:VK}:Z4t K x vs H Q=∃ l b xs zs,x=.ref l∧vs=[.ref b]∧H l=some (.lst xs)∧SqT K H b zs∧xs.length+zs.length≤sizeLine∧Q .non (upd H l (.lst (xs++zs))):=rfl
theorem Z5m {X:Cx}:MtM X "list.extend" (Z4t X.K):=by
  intro pins s σ H x vs v us Q I rx rv h
  obtain ⟨l,b,xs,zs,rfl,rfl,hH,hB,hz,q⟩:=h
  cases rx
  obtain ⟨u,rfl,ru⟩:=rv.one
  cases ru
  obtain ⟨z,its,n,r,hl,e⟩:=I.lstM hH
  obtain ⟨its2,r2,pl2,z2⟩:=I.tuple hB
  obtain ⟨⟨cl,dd,da,sl⟩,e2,ec,n2,ed⟩:=id pl2
  cases ec
  cases ed
  have hl2:=r2.length
  have hl1:=r.length
  have hsz:its.toArray.size+its2.toArray.size≤sizeLine:=by rw [List.size_toArray,List.size_toArray]; omega
  have hlong:¬ (!its.toArray.isEmpty&&Builtin.List.listTooLong (its.toArray.size+its2.toArray.size))=true:=by
    rw [Z6c hsz,Bool.and_false]; exact Bool.false_ne_true
  refine call_meets F.slot_list_extend ⟨_,e,rfl⟩ F.entry_list_extend (F.args_list_extend_2 _ _) (J4P l its.toArray n b its2.toArray n2 dd sl hlong (by rw [List.size_toArray]; omega) (by omega)) ⟨e,e2,?_⟩
  refine ⟨.non,_,I.lset (its':=its++its2) hH e (by simp) (r.append r2) ?_,rfl,q⟩
  rw [List.length_append]; omega
end L2
end
section
namespace PySem
open Sem (wp)
open Builtin
end PySem
namespace L2
open PySem PySem.Spec PyProof.Rows PySem.SeqAt
open AutoSeq1 (wpAny_loadPart')
section
variable {X:Cx}
def Z5K (K:W.Frag):R2:=fun x y H Q=>∃ a b xs ys,x=.ref a∧y=.ref b∧SqT K H a xs∧SqT K H b ys∧xs.length+ys.length≤sizeLine∧∀ p H',Same H H'→SqT K H' p (xs++ys)→Q (.ref p) H'
theorem J2t {prog:Program} {w:World} {A:Around} {E:Value→Shared→Prop} {s:Shared} {t b:Addr} {ws:List Value} {Q:Value→Shared→Prop} (ht:IsTup s.heap t #[]) (hb:IsTup s.heap b ws.toArray) (h:Q (.ref b) s):wpAny (model prog w) A (binaryOp .Add (.ref t) (.ref b)) Q E s:=by
  obtain ⟨⟨cls,dd,data,sl⟩,ho,hc,n,hd⟩:=id ht
  obtain ⟨⟨cls2,dd2,data2,sl2⟩,ho2,hc2,n2,hd2⟩:=id hb
  simp only at hc hd hc2 hd2
  subst hc hd hc2 hd2
  exact concat_meets ⟨_,ho,rfl⟩ ⟨_,ho2,rfl⟩ noFill_tuple_add seq_tuple_add PySem.F.slot_tuple_add PySem.F.entry_tuple_add (PySem.F.args_tuple_add_2 _ _)
    (tuple_addW0 t b #[] ws.toArray n n2 dd dd2 sl sl2 (by simp)) ⟨ho,ho2,h⟩
theorem Z3r:OpR X (binaryOp .Add) (Z5K X.K):=by
  intro pins s σ H x y v u Q I rx ry h
  obtain ⟨a,b,xs,ys,rfl,rfl,hx,hy,hz,q⟩:=h
  by_cases he:xs=[]
  · subst he
    obtain rfl:v=Value.ref a:=rx
    obtain rfl:u=Value.ref b:=ry
    obtain ⟨its,r,ht,_⟩:=I.tuple hx
    obtain ⟨its2,r2,ht2,_⟩:=I.tuple hy
    cases r
    exact J2t ht ht2 ⟨.ref b,H,I,rfl,q b H (Same.refl H) (by simpa using hy)⟩
  · refine J4V pins s σ H _ _ v u Q I rx ry ⟨a,b,xs,ys,rfl,rfl,hx,hy,he,hz,fun e=>?_,fun e p hp=>?_⟩
    · subst e
      exact q a H (Same.refl H) (by simpa using hx)
    · exact q p _ (fun c o hc=>by rw [Z0j (Z0m hc hp)]; exact hc) (SqT.of Z0g)
end
open HT
section
variable {prog:Program} {w:World} {A:Around} {E:Value→Shared→Prop} {s:Shared}
theorem Z3s {t sl:Addr} {items:Array Value} {vl vu:Value} {lo hi:Option Int} {Q:Value→Shared→Prop} (ht:IsTup s.heap t items) (hs:s.heap.IsSliceOf sl vl vu .none) (pl:IsPart vl lo) (pu:IsPart vu hi)
    (hw:sIx items.size 0 lo=0∧sIx items.size items.size hi=items.size) (h:Q (.ref t) s):wpAny (model prog w) A (getItem (.ref t) (.ref sl)) Q E s:=by
  obtain ⟨os,hos,hcs,hds⟩:=id hs
  have hTs:s.TypeIs (.ref sl) "slice":=⟨os,hos,hcs⟩
  unfold getItem
  try with_reducible refine wpAny_holding ?_
  first | refine wpAny_bind (wpAny_pure ?_) | skip
  refine wpAny_bind (wpAny_sequenceKey ht.typeIs (by decide) ?_)
  refine wpAny_bind (wpAny_callSpecial?_slot (name:=Str.ofString "__getitem__") ht.typeIs PyProof.Rows.slot_tuple_getitem
    (wpAny_call_entry PyProof.Rows.slot_tuple_getitem ht.typeIs entry_tuple_getitem ?_ (args_tuple_getitem _ _)))
  show wpAny _ _ (Builtin.Tuple.tupleItemsOf (.ref t) >>= _) _ _ s
  refine wpAny_bind (tupleItemsOf_ ht ?_)
  refine wpAny_bind (wpAny_typeOf hTs ?_)
  rw [if_pos (by decide)]
  refine wpAny_bind (Z2R hs pl pu ?_)
  have hyes:(((sIx items.size 0 lo:Nat):Int) == 0&&(1:Int) == 1&&(sIx items.size items.size hi - sIx items.size 0 lo) == items.size)=true:=by
    rw [hw.1,hw.2]; simp
  show wpAny _ _ (if (((sIx items.size 0 lo:Nat):Int) == 0&&(1:Int) == 1&&(sIx items.size items.size hi - sIx items.size 0 lo) == items.size)=true then _ else _) _ _ s
  rw [if_pos hyes]
  refine wpAny_bind ?_
  show wpAny _ _ ((typeOf (.ref t)) >>= _) _ _ s
  refine wpAny_bind (wpAny_typeOf ht.typeIs (wpAny_pure ?_))
  rw [if_pos (by decide)]
  first
    | exact wpAny_bind (wpAny_rule (wpAny_pure ⟨_,rfl,wpAny_pure h⟩))
    | exact wpAny_bind (wpAny_pure (wpAny_pure ⟨_,rfl,wpAny_pure h⟩))
    | exact wpAny_pure ⟨_,rfl,wpAny_pure h⟩
end
section
variable {X:Cx}
def rSlA (K:W.Frag):V→Option Int→Option Int→Hp→VK→Prop:=fun x lo hi H Q=>∃ a xs,x=.ref a∧SqT K H a xs∧∀ p H',Same H H'→SqT K H' p (cutV xs lo hi)→Q (.ref p) H'
theorem Z4S:SlR X (rSlA X.K):=by
  intro pins s σ H x v vl vu lo hi sl Q I rx hs pl pu h
  obtain ⟨a,xs,rfl,hx,q⟩:=h
  by_cases hw:HT.sIx xs.length 0 lo=0∧HT.sIx xs.length xs.length hi=xs.length
  · obtain rfl:v=Value.ref a:=rx
    obtain ⟨its,r,ht,hz⟩:=I.tuple hx
    have hlen:its.toArray.size=xs.length:=by rw [List.size_toArray]; exact r.length.symm
    refine ⟨"tuple",_,PyProof.Rows.slot_tuple_getitem.lookup,ht.typeIs,?_⟩
    refine Z3s ht hs pl pu (by rw [hlen]; exact hw) ⟨.ref a,H,I,rfl,q a H (Same.refl H) ?_⟩
    have e:cutV xs lo hi=xs:=by
      unfold cutV
      rw [hw.1,hw.2,List.drop_zero,Nat.sub_zero,List.take_length]
    rw [e]
    exact hx
  · exact J5J pins s σ H _ v vl vu lo hi sl Q I rx hs pl pu ⟨a,xs,rfl,hx,hw,fun p hp=>q p _ (fun c o hc=>by rw [Z0j (Z0m hc hp)]; exact hc) (SqT.of Z0g)⟩
end
end L2
end
section
namespace L2
open PySem PySem.Spec PyProof.Rows
def Z9V (K:W.Frag):List V→Hp→VK→Prop:=fun xs H Q=>∃ p ys,xs=[V.ref p]∧((SqL K H p ys∧∀ (l:Addr),H l=none→Q (V.ref l) (upd H l (HO.tup ys)))∨(SqT K H p ys∧Q (V.ref p) H))
theorem J6V {K:W.Frag} {xs:List V} {H:Hp} {Q:VK}:Z9V K xs H Q=(∃ p ys,xs=[V.ref p]∧((SqL K H p ys∧∀ (l:Addr),H l=none→Q (V.ref l) (upd H l (HO.tup ys)))∨(SqT K H p ys∧Q (V.ref p) H))):=rfl
end L2
end
section
namespace L2
open PySem PySem.Spec PyProof.Rows
section
variable {X:Cx}
end
end L2
end
section
namespace L2
open PySem PySem.Spec PyProof.Rows
section
variable {X:Cx} {N:List Str} {nl:List (Option Nat)} {scope:Scope} {cl:List (Str×Addr)} {elt tg iter:Expr} {pos pos' spos:Pos} {wi:TI} {g:TG} {tc:TT} {te:TE} {i:Nat} {x:Str}
theorem J1q {pins:List (Addr×Obj)} {σ:St} {Dd:Ends} (hN:X.N.Nodup) (hi:X.N[i]?=some x) (hk:X.env.scope.names.lookup x=some .local) (D C:Addr) (s' s2:Shared) (fp:List Addr) (σ':St) (H' H2:Hp)
    (I2:Inv X pins σ H2 s2) (f2:∀ b∈fp,FpOk X pins H2 b) (hC:s2.heap.objs.size≤C) (J:Inv (X.block N scope cl C fp s2 H2) [] σ' H' s') (q:Dd.nx (σ.set i (some (.ref D))) H') :
    compPost (model X.prog X.w) X.A X.xe (some (assign (.Name x pos') X.env)) (fun _ s3=>SP X pins Dd .next s3) (.ref D) C (.ok .next) s':=by
  have I3:Inv X pins σ H' s':=Z6r (h2:=s'.heap) I2 f2 hC J fun b o _ e=>e
  have ne:∀ b o,s2.heap.get? b=some o→b≠C:=fun b o e=>Nat.ne_of_lt (Nat.lt_of_lt_of_le (Heap.lt_size e) hC)
  have neL:C≠X.env.locals:=fun z=>by
    obtain ⟨m,⟨o,_,_,ho,_⟩,_⟩:=I2.loc
    exact ne _ o ho z.symm
  obtain ⟨m,hn,_⟩:=J.loc
  show wpAny _ _ (assign (.Name x pos') X.env (.ref D)) _ _ _
  have e:assign (.Name x pos') X.env (.ref D)=(do standAt pos'; bindName X.env x (.ref D)):=by rfl
  rw [e]
  refine wpAny_bind (wpAny_standAt (wpAny_bindName ?_))
  refine Z6w (v:=.ref D) I3 hN hi (.inl hk) rfl (fun s4 I4 ⟨a,sb,ha⟩=>?_) (.inr hk)
  have hCa:C≠a:=by
    rcases ha with z | z
    · rw [z]; exact neL
    · obtain ⟨v,o,ho,_⟩:=I2.cell x a z
      exact fun z2=>ne a o ho z2.symm
  refine ⟨m,hn.sameBut sb hCa,fun h' sb'=>⟨_,H',?_,q⟩⟩
  refine I4.turned (t':=s4.toks) (it:=C) (fun b o hb e=>sb'.extBut b o hb e) J.free neL (.inr (Nat.le_trans I2.sz hC)) (fun y c e z=>?_) fun p hp z=>?_
  · obtain ⟨v,o,ho,_⟩:=I2.cell y c e
    exact ne c o ho z
  · exact ne p.1 _ (I2.pin p hp).1 z
def J6v (i:Nat) (t:TE):TS:=fun D σ H=>t σ H fun v H'=>D.nx (σ.set i (some v)) H'
theorem Z1O (hcalm:X.calm=true) (hN:X.N.Nodup) (hi:X.N[i]?=some x) (hk:X.env.scope.names.lookup x=some .local) (B:BlockOk X N nl scope cl) (hit:PI X tg iter wi) (hg:∀ C fp s H,PG (X.block N scope cl C fp s H) tg g) (he:∀ C fp s H,PE (X.block N scope cl C fp s H) elt te)
    (hs:∀ x,foldedSetIterable iter X.env x=pure x:=by intro _; rfl) (hsw:swapsWith (.ListComp elt [⟨tg,iter,[],0⟩] scope pos) (some (.Name x pos')) spos.line X.env=pure true:=by rfl) :
    PS X (.Assign [.Name x pos'] (.ListComp elt [⟨tg,iter,[],0⟩] scope pos) spos) (J6v i (J3b wi nl g Z3O te)):=by
  intro pins s σ H D I h
  rw [exec_Assign_Name_used _ _ _ _ hsw]
  refine wpAny_bind (wpAny_standAt (wpAny_bind ?_))
  show wpAny _ _ (evalThenUse (.ListComp elt [⟨tg,iter,[],0⟩] scope pos) X.env _) _ _ _
  unfold evalThenUse
  refine wpAny_bind ?_
  exact thn (Z6A (Q:=fun v H'=>D.nx (σ.set i (some v)) H') (tst:=fun _=>pure true) (Q':=fun _ s3=>SP X pins D .next s3) hcalm B hit hg (fun _ _ _ _=>Z9Y) he Z8t hs I h (fun D' C s' s2 fp σ' H' H2 I2 f2 hC J q=>J1q hN hi hk D' C s' s2 fp σ' H' H2 I2 f2 hC J q) _) fun _ s3 z=>wpAny_pure (wpAny_pure z)
end
end L2
end
section
namespace L2
open PySem PySem.Spec PyProof.Rows PySem.SeqAt
theorem J8o {wi:TI} {nl:List (Option Nat)} {g:TG} {tc:TT} {te:TE} {σ:St} {H:Hp} {Q:VK}:J3b wi nl g tc te σ H Q=(wi σ H fun J H1=>∀ D,H1 D=none→Z5a J g tc te D Q (stOf nl σ) (upd H1 D (.lst []))):=rfl
theorem J7G {i:Nat} {t:TE} {D:Ends} {σ:St} {H:Hp}:J6v i t D σ H=(t σ H fun v H'=>D.nx (σ.set i (some v)) H'):=rfl
theorem J8T {K:W.Frag} {x:V} {y:V} {H:Hp} {Q:VK}:rEqD K x y H Q=(∃ d e,RdD K H x d∧RdD K H y e∧shaped d=true∧shaped e=true∧Q (.bl (PyData.eqv d e)) H):=rfl
theorem J9q {K:W.Frag} {x:V} {y:V} {H:Hp} {Q:VK}:rNeD K x y H Q=(∃ d e,RdD K H x d∧RdD K H y e∧shaped d=true∧shaped e=true∧Q (.bl (!PyData.eqv d e)) H):=rfl
theorem J8k {K:W.Frag} {ta:TA} {σ:St} {H:Hp} {R:It→Hp→Prop}:J9w K ta σ H R=(ta σ H fun vs H1=>∃ a,vs=[.ref a]∧(∃ xs,SqL K H1 a xs)∧R (Ite K a) H1):=rfl
theorem J7c {K:W.Frag} {xs:List V} {H:Hp} {Q:VK}:Z4W K xs H Q=(∃ a d,xs=[.ref a]∧RdD K H (.ref a) d∧d.showable=true∧d.hasDict=false∧d.depth≤60∧d.shown.length≤sizeLine∧Q (.str d.shown) H):=rfl
end L2
end
section
namespace L2
open PySem PySem.Spec PyProof.Rows
section
variable {κ:Type} [DecidableEq κ]
def valV (kvs:List (κ×V)) (k:κ):Option V:=(kvs.find? fun kv=>decide (kv.1=k)).map (·.2)
def putK (kvs:List (κ×V)) (k:κ) (v:V):List (κ×V):=
  if (kvs.any fun kv=>decide (kv.1=k))=true then kvs.map (fun kv=>if kv.1=k then (kv.1,v) else kv) else kvs++[(k,v)]
theorem Z3M {p:κ×V} {r:List (κ×V)} {k:κ} (e:p.1=k):valV (p::r) k=some p.2:=by simp [valV,List.find?_cons,e]
theorem Z3f {p:κ×V} {r:List (κ×V)} {k:κ} (e:¬ p.1=k):valV (p::r) k=valV r k:=by simp [valV,List.find?_cons,e]
theorem Z5z (k:κ):∀ kvs:List (κ×V),(kvs.any fun kv=>decide (kv.1=k))=(valV kvs k).isSome
  | []=>rfl
  | p::r=>by
    rw [List.any_cons]
    by_cases e:p.1=k
    · simp only [Z3M e,decide_eq_true e,Bool.true_or,Option.isSome_some]
    · rw [Z3f e,decide_eq_false e,Bool.false_or]; exact Z5z k r
theorem Z2L (kvs:List (κ×V)) (k:κ) (v:V):(putK kvs k v).length≤kvs.length+1:=by
  unfold putK
  split
  · rw [List.length_map]; omega
  · rw [List.length_append,List.length_cons,List.length_nil]; omega
theorem J3o {kvs:List (κ×V)} {k:κ} (v:V) (h:valV kvs k=none):putK kvs k v=kvs++[(k,v)]:=by
  unfold putK
  rw [Z5z,h]
  exact if_neg (by decide)
theorem RelO.isSome_eq {o:Option V} {u:Option Value} (r:RelO o u):o.isSome=u.isSome:=by
  cases o with
  | none=>cases u with
    | none=>rfl
    | some _=>exact (show False from r).elim
  | some _=>cases u with
    | none=>exact (show False from r).elim
    | some _=>rfl
theorem KV.val {kvs:List (κ×V)} {vs:List (κ×Value)} (r:KV kvs vs) (k:κ):RelO (valV kvs k) (valueAt vs k):=by
  unfold KV at r
  induction r with
  | nil=>exact True.intro
  | @cons p q ps qs h t ih=>
    obtain ⟨h1,h2⟩:=h
    by_cases e:p.1=k
    · have e':q.1=k:=h1.symm.trans e
      have b:valueAt (q::qs) k=some q.2:=by simp [valueAt,List.find?_cons,e']
      rw [Z3M e,b]; exact h2
    · have e':¬ q.1=k:=fun z=>e (h1.trans z)
      have b:valueAt (q::qs) k=valueAt qs k:=by simp [valueAt,List.find?_cons,e']
      rw [Z3f e,b]; exact ih
theorem KV.any {kvs:List (κ×V)} {vs:List (κ×Value)} (r:KV kvs vs) (k:κ):(kvs.any fun kv=>decide (kv.1=k))=vs.any fun kv=>decide (kv.1=k):=by
  unfold KV at r
  induction r with
  | nil=>rfl
  | cons h t ih=>rw [List.any_cons,List.any_cons,ih,h.1]
theorem KV.repl {kvs:List (κ×V)} {vs:List (κ×Value)} (r:KV kvs vs) (k:κ) {y:V} {u:Value} (ry:RelV y u) :
    KV (kvs.map fun kv=>if kv.1=k then (kv.1,y) else kv) (vs.map fun kv=>if kv.1=k then (kv.1,u) else kv):=by
  unfold KV at r ⊢
  induction r with
  | nil=>exact .nil
  | @cons p q ps qs h t ih=>
    rw [List.map_cons,List.map_cons]
    refine .cons ?_ ih
    obtain ⟨h1,h2⟩:=h
    by_cases e:p.1=k
    · rw [if_pos e,if_pos (h1.symm.trans e)]; exact ⟨h1,ry⟩
    · rw [if_neg e,if_neg (fun z=>e (h1.trans z))]; exact ⟨h1,h2⟩
theorem KV.put {kvs:List (κ×V)} {vs:List (κ×Value)} (r:KV kvs vs) (k:κ) {y:V} {u:Value} (ry:RelV y u):KV (putK kvs k y) (stored vs k u):=by
  unfold putK stored
  rw [r.any k]
  by_cases e:(vs.any fun kv=>decide (kv.1=k))=true
  · rw [if_pos e,if_pos e]; exact r.repl k ry
  · rw [if_neg e,if_neg e]; exact Paired.snoc r ⟨rfl,ry⟩
theorem KV.length {kvs:List (κ×V)} {vs:List (κ×Value)} (r:KV kvs vs):kvs.length=vs.length:=Paired.length r
end
theorem J0l {P:Program} {w:World} {k:Key} {u:Value} (r:RelV (kV k) u):(Z0N P w).is k u=true:=by
  cases k with
  | inl i=>obtain ⟨t,e⟩:=(show ∃ t,u=Value.int i t from r); subst e; exact Z6Y P w i t
  | inr x=>obtain ⟨t,e⟩:=(show ∃ t,u=Value.str x t from r); subst e; exact Z7s P w x t
theorem Z6q {P:Program} {w:World}:∀ {ks:List Key} {us:List Value},Vals (ks.map kV) us→ItemsAre (Z0N P w) ks us
  | [],_,r=>by rw [List.map_nil] at r; cases r; exact .nil
  | k::ks,_,r=>by
    rw [List.map_cons] at r
    cases r with
    | cons h t=>exact .cons (J0l h) (Z6q t)
abbrev KT (H:Hp):List (List Key×V)→List (List Key×Addr×Value)→Prop:=Paired fun p q=>p.1=q.1∧H q.2.1=some (.tup (p.1.map kV))∧RelV p.2 q.2.2
theorem KT.val {H:Hp} {kvs:List (List Key×V)} {xs:List (List Key×Addr×Value)} (r:KT H kvs xs) (k:List Key):RelO (valV kvs k) ((atKey xs k).map (·.2)):=by
  induction r with
  | nil=>exact True.intro
  | @cons p q ps qs h t ih=>
    obtain ⟨h1,_,h2⟩:=h
    by_cases e:p.1=k
    · have e':q.1=k:=h1.symm.trans e
      have b:atKey (q::qs) k=some q.2:=by simp [atKey,List.find?_cons,e']
      rw [Z3M e,b]; exact h2
    · have e':¬ q.1=k:=fun z=>e (h1.trans z)
      have b:atKey (q::qs) k=atKey qs k:=by simp [atKey,List.find?_cons,e']
      rw [Z3f e,b]; exact ih
theorem KT.repl {H:Hp} {kvs:List (List Key×V)} {xs:List (List Key×Addr×Value)} (r:KT H kvs xs) (k:List Key) {y:V} {u:Value} (ry:RelV y u) :
    KT H (kvs.map fun kv=>if kv.1=k then (kv.1,y) else kv) (xs.map (putAt k u)):=by
  induction r with
  | nil=>exact .nil
  | @cons p q ps qs h t ih=>
    rw [List.map_cons,List.map_cons]
    refine .cons ?_ ih
    obtain ⟨h1,h2,h3⟩:=h
    unfold putAt
    by_cases e:p.1=k
    · rw [if_pos e,if_pos (h1.symm.trans e)]; exact ⟨h1,h2,ry⟩
    · rw [if_neg e,if_neg (fun z=>e (h1.trans z))]; exact ⟨h1,h2,h3⟩
theorem KT.put {H:Hp} {kvs:List (List Key×V)} {xs:List (List Key×Addr×Value)} (r:KT H kvs xs) (k:List Key) {b:Addr} {y:V} {u:Value} (hb:H b=some (.tup (k.map kV))) (ry:RelV y u) :
    KT H (putK kvs k y) (storedH xs k b u):=by
  have e:(kvs.any fun kv=>decide (kv.1=k))=(atKey xs k).isSome:=by
    rw [Z5z,(r.val k).isSome_eq,Option.isSome_map]
  unfold putK storedH
  rw [e]
  by_cases q:(atKey xs k).isSome=true
  · rw [if_pos q,if_pos q]; exact r.repl k ry
  · rw [if_neg q,if_neg q]; exact Paired.snoc r ⟨rfl,hb,ry⟩
theorem KT.keeps {H H':Hp} {kvs:List (List Key×V)} {xs:List (List Key×Addr×Value)} (r:KT H kvs xs) (ht:∀ b ys,H b=some (.tup ys)→H' b=some (.tup ys)):KT H' kvs xs:=
  Paired.mapP r fun _ _ z=>⟨z.1,ht _ _ z.2.1,z.2.2⟩
section
variable {P:Program} {w:World} {H:Hp} {h:Heap} {a:Addr}
theorem J7g {u:HO} (ok:HOk P w H h) (e:Rd H a u):ObjOk P w H h a u:=e.ok ok
theorem J2T {kvs:List (Key×V)} (ok:HOk P w H h) (e:Rd H a (.dK kvs)):kvs.length≤sizeLine∧(a == sysModules)=false∧∃ vs,KV kvs vs∧h.DictOf (Z0N P w) a vs:=
  show ObjOk P w H h a (.dK kvs) from J7g ok e
theorem J6A {kvs:List (Key×V)} (ok:HOk P w H h) (e:H a=some (.dK kvs)):kvs.length≤sizeLine∧(a == sysModules)=false∧∃ vs,KV kvs vs∧h.DictOf (Z0N P w) a vs:=J2T ok (.inl e)
theorem J1K {ks:List Key} (ok:HOk P w H h) (e:H a=some (.tup (ks.map kV))):(tupleKind (Z0N P w)).is h ks a:=by
  obtain ⟨_,its,r,o,h1,h2,n,h3⟩:=(show ObjOk P w H h a (.tup (ks.map kV)) from ok a _ e)
  exact ⟨o,its.toArray,n,h1,h2,h3,by simpa using Z6q r⟩
theorem J4K {kvs:List (List Key×V)} (ok:HOk P w H h) (e:Rd H a (.dT kvs)):kvs.length≤sizeLine∧(a == sysModules)=false ∧
    ∃ xs,KT H kvs xs∧h.DictOfH (tupleKind (Z0N P w)) a xs:=by
  obtain ⟨z,y,xs,r,o,es,ep,h1,h2,h3,h4,h5⟩:=(show ObjOk P w H h a (.dT kvs) from J7g ok e)
  refine ⟨z,y,xs,r,o,es,ep,h1,h2,h3,h4,fun x hx=>?_,h5⟩
  have all:∀ {l:List (List Key×V)} {m:List (List Key×Addr×Value)},KT H l m→∀ x∈m,(tupleKind (Z0N P w)).is h x.1 x.2.1:=by
    intro l m q
    induction q with
    | nil=>intro x hx; exact nomatch hx
    | @cons p q ps qs hq t ih=>
      intro x hx
      rcases List.mem_cons.mp hx with e | hx
      · subst e
        exact J1K ok (by rw [← hq.1]; exact hq.2.1)
      · exact ih x hx
  exact all r x hx
theorem J9x {kvs:List (List Key×V)} (ok:HOk P w H h) (e:H a=some (.dT kvs)):kvs.length≤sizeLine∧(a == sysModules)=false ∧
    ∃ xs,KT H kvs xs∧h.DictOfH (tupleKind (Z0N P w)) a xs:=J4K ok (.inl e)
end
def DGet (H:Hp) (a:Addr) (y:V) (r:Option V):Prop:=
  (∃ kvs k,Rd H a (.dK kvs)∧y=kV k∧r=valV kvs k)∨∃ kvs k b,Rd H a (.dT kvs)∧y=.ref b∧H b=some (.tup (k.map kV))∧r=valV kvs k
def DPut (H:Hp) (a:Addr) (y v:V) (H':Hp):Prop:=
  (∃ kvs k,H a=some (.dK kvs)∧y=kV k∧kvs.length < sizeLine∧H'=upd H a (.dK (putK kvs k v))) ∨
  ∃ kvs k b,H a=some (.dT kvs)∧y=.ref b∧H b=some (.tup (k.map kV))∧kvs.length < sizeLine∧H'=upd H a (.dT (putK kvs k v))
theorem DGet.k {H:Hp} {a:Addr} {kvs:List (Key×V)} {k:Key} (e:H a=some (.dK kvs)):DGet H a (kV k) (valV kvs k):=.inl ⟨kvs,k,.inl e,rfl,rfl⟩
theorem DPut.k {H:Hp} {a:Addr} {kvs:List (Key×V)} {k:Key} {v:V} (e:H a=some (.dK kvs)) (hl:kvs.length < sizeLine):DPut H a (kV k) v (upd H a (.dK (putK kvs k v))):=.inl ⟨kvs,k,e,rfl,hl,rfl⟩
section
variable {X:Cx} {pins:List (Addr×Obj)} {σ:St} {H:Hp} {s:Shared} {a:Addr} {y v:V} {u r:Value} {o:Option V} {A:Around} {E:Value→Shared→Prop}
theorem Inv.big (I:Inv X pins σ H s):sysModules < s.heap.objs.size:=by
  have h:mainGlobals < s.heap.objs.size:=(I.mod.glob.keeps I.bk).lt
  exact Nat.lt_trans (by decide) h
theorem Z9A {Q:Value→Shared→Prop} (hu:A.units+1 < cLine) (I:Inv X pins σ H s) (g:DGet H a y (some v)) (ry:RelV y u) (h:∀ w' s',Inv X pins σ H s'→RelV v w'→Q w' s') :
    wpAny (model X.prog X.w) A (getItem (.ref a) u) Q E s:=by
  rcases g with ⟨kvs,k,e,ey,l⟩ | ⟨kvs,k,b,e,ey,eb,l⟩
  · subst ey
    obtain ⟨z,hd,vs,rel,dd⟩:=J2T I.hok e
    obtain ⟨w',hw,rw'⟩:=RelO.some_of (v:=v) (o:=valueAt vs k) (by rw [l]; exact rel.val k)
    exact wpAny_getItem_of (J0l ry) dd.mapOf hw (h w' _ (I.tok _) rw')
  · subst ey
    cases (show u=Value.ref b from ry)
    obtain ⟨z,hd,xs,rel,dd⟩:=J4K I.hok e
    obtain ⟨w',hw,rw'⟩:=RelO.some_of (v:=v) (o:=(atKey xs k).map (·.2)) (by rw [l]; exact rel.val k)
    obtain ⟨p,hp,hp2⟩:=Option.map_eq_some_iff.mp hw
    refine wpAny_getItem_heap (tupleKind_room_in1 hu) (J1K I.hok eb) dd hp ?_
    rw [hp2]
    exact h w' _ (I.tok _) rw'
theorem Z7m {h':Heap} {t':Nat} {ob:HO} (I:Inv X pins σ H s) (mu:Mut (H a)) (hs:Heap.SameBut a s.heap h') (he:∃ q,h'.get? a=some q) (new:ObjOk X.prog X.w (upd H a ob) h' a ob) :
    Inv X pins σ (upd H a ob) { s with heap:=h',toks:=t' }:=
  I.write (x:=a) (e:=a) mu (.inl rfl) (fun b q hb z=>(hs.2 b hb).trans z) he new
theorem Z8j {P:Program} {w:World} {H':Hp} {h':Heap} {kvs:List (Key×V)} {vs:List (Key×Value)} (z:kvs.length≤sizeLine) (hd:(a == sysModules)=false) (rel:KV kvs vs) (dd:h'.DictOf (Z0N P w) a vs) :
    ObjOk P w H' h' a (.dK kvs):=⟨z,hd,vs,rel,dd⟩
theorem J0I {H':Hp} {Q:Unit→Shared→Prop} (hu:A.units+1 < cLine) (I:Inv X pins σ H s) (g:DPut H a y v H') (ry:RelV y u) (rv:RelV v r) (h:∀ s',Inv X pins σ H' s'→Q () s') :
    wpAny (model X.prog X.w) A (setItem (.ref a) u r) Q E s:=by
  rcases g with ⟨kvs,k,e,ey,l,eH⟩ | ⟨kvs,k,b,e,ey,eb,l,eH⟩
  · subst ey eH
    obtain ⟨z,hd,vs,rel,dd⟩:=J6A I.hok e
    have hz:vs.length≤sizeLine:=by rw [← rel.length]; exact z
    have hl:(putK kvs k v).length≤sizeLine:=by have:=Z2L kvs k v; omega
    refine wpAny_setItem_pairs (hsz:=hz) (J0l ry) dd fun h' dd' hs=>h _ ?_
    have he:∃ q,h'.get? a=some q:=let ⟨q,_,_,hq,_⟩:=dd'; ⟨q,hq⟩
    exact Z7m I (by rw [e]; exact True.intro) hs he (Z8j hl hd (rel.put k rv) dd')
  · subst ey eH
    cases (show u=Value.ref b from ry)
    obtain ⟨z,hd,xs,rel,dd⟩:=J9x I.hok e
    have hz:xs.length≤sizeLine:=by rw [← Paired.length rel]; exact z
    have hl:(putK kvs k v).length≤sizeLine:=by have:=Z2L kvs k v; omega
    refine wpAny_setItem_heap (hsz:=hz) (tupleKind_room_in1 hu) (J1K I.hok eb) dd fun h' dd' hs=>h _ ?_
    obtain ⟨q,es,ep,hq,h2,h3,h4,_,h5⟩:=dd'
    refine Z7m I (by rw [e]; exact True.intro) hs ⟨q,hq⟩ ⟨hl,hd,_,(rel.put k eb rv).keeps fun c ys ec=>?_,q,es,ep,hq,h2,h3,h4,h5⟩
    rw [Z0j (J9z ec e (fun z=>nomatch z))]
    exact ec
end
section
variable {X:Cx} {pins:List (Addr×Obj)} {σ:St} {H:Hp} {s:Shared} {a:Addr} {kvs:List (Key×V)} {k:Key} {u:Value} {A:Around} {E:Value→Shared→Prop}
end
def NoSl (i:Expr):Prop:=∀ ov iv,subscripted i false ov iv=operate [ov,iv] (getItem ov iv)
theorem J5h {prog:Program} {w:World} {A:Around} {E:Value→Shared→Prop} {s:Shared} {env:Env} {value slice:Expr} {pos:Pos} {T id:String} {Q:Value→Shared→Prop}
    (hl:typeLookup (.type T) "__getitem__"=pure (some (.builtin id))) (hs:NoSl slice)
    (h:wpAny (model prog w) A (eval value env) (fun o s₁=>wpAny (model prog w) A (eval slice env) (fun i s₂=>s₂.TypeIs o T∧wpAny (model prog w) A (getItem o i) Q E s₂) E s₁) E s) :
    wpAny (model prog w) A (eval (.Subscript value slice pos) env) Q E s:=by
  refine Subscript_ (wpAny_mono h (fun o s₁ h₁=>wpAny_mono h₁ (fun i s₂ h₂=>?_) fun _ _ x=>x) fun _ _ x=>x)
  obtain ⟨hT,h₂⟩:=h₂
  unfold subscriptTail
  refine wpAny_bind ?_
  rw [getitemInPython_of_ne hT.not_modules]
  refine wpAny_bind (wpAny_specialOf hT hl ?_)
  have fin:wpAny (model prog w) A (subscripted slice false o i) (fun r s₃=>wpAny (model prog w) A (letTemporaryGo value o r >>= fun _=>pure r) Q E s₃) E s₂:=by
    rw [hs o i]
    exact wpAny_operating (wpAny_mono h₂ (fun r s₃ h₃=>wpAny_bind (wpAny_letTemporaryGo (wpAny_pure h₃))) fun _ _ x=>x)
  first
    | exact wpAny_pure (wpAny_bind fin)
    | exact wpAny_bind (wpAny_pure (wpAny_bind fin))
    | exact wpAny_bind fin
theorem Z7k {X:Cx} {pins:List (Addr×Obj)} {σ:St} {H:Hp} {s:Shared} {a:Addr} {y:V} {o:Option V} (I:Inv X pins σ H s) (g:DGet H a y o):s.TypeIs (.ref a) "dict":=by
  rcases g with ⟨kvs,k,e,_,_⟩ | ⟨kvs,k,b,e,_,_,_⟩
  · obtain ⟨_,_,vs,_,dd⟩:=J2T I.hok e
    exact dd.typeIs
  · obtain ⟨_,_,xs,_,dd⟩:=J4K I.hok e
    exact dd.typeIs
def J6k (td ty:TE):TE:=fun σ H Q=>td σ H fun x H1=>ty σ H1 fun y H2=>∃ a v,x=.ref a∧DGet H2 a y (some v)∧Q v H2
def J6G (td ty tv:TE):TS:=fun D σ H=>tv σ H fun v H1=>td σ H1 fun x H2=>ty σ H2 fun y H3=>∃ a H4,x=.ref a∧DPut H3 a y v H4∧D.nx σ H4
section
variable {X:Cx} {o i e value:Expr} {pos pos' tpos:Pos} {td ty tv:TE}
theorem Z1L (hu:X.A.units+1 < cLine) (ho:PE X o td) (hi:PE X i ty) (hs:NoSl i):PE X (.Subscript o i pos) (J6k td ty):=by
  intro pins s σ H Q I h
  refine J5h PySem.F.slot_dict_getitem.lookup hs (thn (ho pins s σ H _ I h) fun u s1 ⟨x,H1,I1,rx,q1⟩=>thn (hi pins s1 σ H1 _ I1 q1) fun iv s2 ⟨y,H2,I2,ry,a,v,ex,g,q2⟩=>?_)
  subst ex
  obtain rfl:u=Value.ref a:=rx
  exact ⟨Z7k I2 g,Z9A hu I2 g ry fun w' s3 I3 rw'=>⟨v,H2,I3,rw',q2⟩⟩
theorem Z5B (hu:X.A.units+1 < cLine) (ho:PE X o td) (hi:PE X i ty) (hv:PE X value tv) (hs:swapsWith value (some (.Subscript o i pos')) pos.line X.env=pure false) :
    PS X (.Assign [.Subscript o i pos'] value pos) (J6G td ty tv):=by
  intro pins s σ H D I h
  refine wpAny_Assign_Subscript (thn (hv pins s σ H _ I h) fun r s1 ⟨v,H1,I1,rv,q1⟩=>thn (ho pins s1 σ H1 _ I1 q1) fun u s2 ⟨x,H2,I2,rx,q2⟩=>thn (hi pins s2 σ H2 _ I2 q2) fun iv s3 ⟨y,H3,I3,ry,a,H4,ex,g,q3⟩=>?_) hs
  subst ex
  obtain rfl:u=Value.ref a:=rx
  exact J0I hu I3 g ry rv fun s4 I4=>⟨σ,H4,I4,q3⟩
end
theorem Z8p {P:Program} {w:World} {H:Hp} (h:Heap) (hb:sysModules < h.objs.size):ObjOk P w H (h.push { cls:=.type "dict",data:=.dict #[] }) h.objs.size (.dK []):=
  ⟨Nat.zero_le _,beq_eq_false_iff_ne.mpr (Ne.symm (Nat.ne_of_lt hb)),[],.nil,Heap.DictOf.new h⟩
def J4a:TE:=fun _ H Q=>∀ p,H p=none→Q (.ref p) (upd H p (.dK []))
section
variable {X:Cx} {pos:Pos}
theorem J2C:PE X (.Dict [] [] pos) J4a:=fun pins s σ H Q I h=>
  wpAny_Dict_empty ⟨.ref s.heap.objs.size,_,I.laid (a:=s.heap.objs.size) (o:=.dK []) (t':=s.toks) (fun _ _ q=>Heap.get?_push_of_some _ q) (Nat.le_refl _) (Z8p s.heap I.big),rfl,h _ (I.hok.fresh (Nat.le_refl _))⟩
end
def Z4X:List (TE×TE)→St→Hp→(List (V×V)→Hp→Prop)→Prop
  | [],_,H,Q=>Q [] H
  | (tk,tv)::r,σ,H,Q=>tk σ H fun x H1=>tv σ H1 fun y H2=>Z4X r σ H2 fun ps H3=>Q ((x,y)::ps) H3
abbrev VV:List (V×V)→List (Value×Value)→Prop:=Paired fun p q=>RelV p.1 q.1∧RelV p.2 q.2
def PPs (X:Cx) (pos:Pos) (keys:List (Option Expr)) (values:List Expr) (trs:List (TE×TE)):Prop:=
  ∀ (pins:List (Addr×Obj)) (s:Shared) (σ:St) (H:Hp) (Q:List (V×V)→Hp→Prop),Inv X pins σ H s→Z4X trs σ H Q →
    wpAny (model X.prog X.w) X.A (evalPairs (pairTrees keys values X.env pos)) (fun vs s'=>∃ ps H',Inv X pins σ H' s'∧VV ps vs∧Q ps H') X.xe s
theorem J1N {X:Cx} {pos:Pos}:PPs X pos [] [] []:=fun pins s σ H Q I h=>pairTrees_nil_walk ⟨[],H,I,.nil,h⟩
theorem Z3d {X:Cx} {pos:Pos} {k v:Expr} {ks:List (Option Expr)} {vs:List Expr} {tk tv:TE} {trs:List (TE×TE)} (hk:PE X k tk) (hv:PE X v tv) (hr:PPs X pos ks vs trs) :
    PPs X pos (some k::ks) (v::vs) ((tk,tv)::trs):=fun pins s σ H Q I h=>
  pairTrees_cons_walk (thn (hk pins s σ H _ I h) fun u s1 ⟨x,H1,I1,rx,q1⟩=>thn (hv pins s1 σ H1 _ I1 q1) fun w2 s2 ⟨y,H2,I2,ry,q2⟩=>
    thn (hr pins s2 σ H2 _ I2 q2) fun ws s3 ⟨ps,H3,I3,rel,q3⟩=>⟨(x,y)::ps,H3,I3,.cons ⟨rx,ry⟩ rel,q3⟩)
def Z3k (kvs more:List (Key×V)):List (Key×V):=more.foldl (fun acc kv=>putK acc kv.1 kv.2) kvs
theorem KV.merge:∀ {more:List (Key×V)} {rs:List (Key×Value)} {kvs:List (Key×V)} {vs:List (Key×Value)},KV more rs→KV kvs vs→KV (Z3k kvs more) (merged vs rs):=by
  intro more rs kvs vs r
  unfold KV at r
  induction r generalizing kvs vs with
  | nil=>intro q; exact q
  | @cons p q ps qs h t ih=>
    intro r0
    have e:KV (putK kvs p.1 p.2) (stored vs q.1 q.2):=by
      have:=r0.put p.1 h.2
      rw [← h.1]; exact this
    exact ih e
theorem Z3B:∀ (more kvs:List (Key×V)),(Z3k kvs more).length≤kvs.length+more.length
  | [],kvs=>by show kvs.length≤kvs.length+0; omega
  | p::r,kvs=>by
    have h1:=Z3B r (putK kvs p.1 p.2)
    have h2:=Z2L kvs p.1 p.2
    show (Z3k (putK kvs p.1 p.2) r).length≤_
    rw [List.length_cons]; omega
theorem Z5v {P:Program} {w:World}:∀ {kvs:List (Key×V)} {ws:List (Value×Value)},VV (kvs.map fun kv=>(kV kv.1,kv.2)) ws→∃ rs,Carries (Z0N P w) ws rs∧KV kvs rs
  | [],_,r=>by rw [List.map_nil] at r; cases r; exact ⟨[],True.intro,.nil⟩
  | p::kvs,_,r=>by
    rw [List.map_cons] at r
    cases r with
    | @cons a b as bs h t=>
      obtain ⟨rs,c,q⟩:=Z5v (P:=P) (w:=w) t
      obtain ⟨b1,b2⟩:=b
      exact ⟨(p.1,b2)::rs,⟨J0l h.1,rfl,c⟩,.cons ⟨rfl,h.2⟩ q⟩
def J7k (trs:List (TE×TE)):TE:=fun σ H Q=>∀ p,H p=none→Z4X trs σ (upd H p (.dK [])) fun ps H2=>H2 p=some (.dK [])∧∃ kvs:List (Key×V),ps=kvs.map (fun kv=>(kV kv.1,kv.2))∧kvs.length≤15∧Q (.ref p) (upd H2 p (.dK (Z3k [] kvs)))
theorem Z9z {X:Cx} {pos:Pos} {keys:List (Option Expr)} {values:List Expr} {trs:List (TE×TE)} (h:PPs X pos keys values trs) (hall:keys.all (·.isSome)=true) (hl:keys.length=values.length) (h0:keys≠[])
    (h15:keys.length≤15):PE X (.Dict keys values pos) (J7k trs):=by
  intro pins s σ H Q I q
  have hn:=I.hok.fresh (Nat.le_refl s.heap.objs.size)
  have I1:=I.laid (a:=s.heap.objs.size) (o:=.dK []) (h':=s.heap.push { cls:=.type "dict",data:=.dict #[] }) (t':=s.toks) (fun _ _ q=>Heap.get?_push_of_some _ q) (Nat.le_refl _) (Z8p s.heap I.big)
  refine wpAny_Dict_walk (knd:=Z0N X.prog X.w) hall hl h0 h15 (thn (h pins _ σ _ _ I1 (q _ hn)) fun ws s2 ⟨ps,H2,I2,rel,e,kvs,ep,lk,q2⟩=>?_)
  subst ep
  obtain ⟨rs,c,rk⟩:=Z5v (P:=X.prog) (w:=X.w) rel
  obtain ⟨z,hd,vs0,r0,dd⟩:=J6A I2.hok e
  cases r0
  refine ⟨rs,c,dd,fun h' dd' hs=>⟨.ref s.heap.objs.size,_,?_,rfl,q2⟩⟩
  have hz:(Z3k [] kvs).length≤sizeLine:=by
    have h1:=Z3B kvs []
    rw [List.length_nil] at h1
    rw [sizeLine_eq]; omega
  have he:∃ q,h'.get? s.heap.objs.size=some q:=let ⟨q,_,_,hq,_⟩:=dd'; ⟨q,hq⟩
  exact Z7m I2 (by rw [e]; exact True.intro) hs he (Z8j hz hd (rk.merge .nil) dd')
structure M1 (X:Cx) (o:Expr) (m:Str) (apos:Pos) (e:Expr) (cpos:Pos):Prop where
  base:attributeBase o m X.env (eval o X.env)=eval o X.env
  few:((backTo cpos (starEach [e] X.env)).all (fun x=>!x.1)&&(backToKw cpos (keywordEach [] X.env)).all (fun x=>x.1.isSome)
    && decide (([e]:List Expr).length+([]:List Keyword).length+(if ([]:List Keyword).isEmpty then 0 else 1) < 30))=true
  line:(apos.endLine == cpos.line)=true
  trees:backTo cpos (starEach [e] X.env)=[(false,eval e X.env)]
structure M2 (X:Cx) (o:Expr) (m:Str) (apos:Pos) (e f:Expr) (cpos:Pos):Prop where
  base:attributeBase o m X.env (eval o X.env)=eval o X.env
  few:((backTo cpos (starEach [e,f] X.env)).all (fun x=>!x.1)&&(backToKw cpos (keywordEach [] X.env)).all (fun x=>x.1.isSome)
    && decide (([e,f]:List Expr).length+([]:List Keyword).length+(if ([]:List Keyword).isEmpty then 0 else 1) < 30))=true
  line:(apos.endLine == cpos.line)=true
  trees:backTo cpos (starEach [e,f] X.env)=[(false,eval e X.env),(false,eval f X.env)]
section
variable {X:Cx} {pins:List (Addr×Obj)} {σ:St} {H:Hp} {s:Shared} {a:Addr} {y d:V} {u r:Value} {o:Option V} {A:Around} {E:Value→Shared→Prop}
end
section
variable {X:Cx} {o e f:Expr} {apos cpos:Pos} {td ty tx:TE}
end
section
variable {X:Cx} {pins:List (Addr×Obj)} {σ:St} {H:Hp} {s:Shared} {a:Addr} {kvs:List (Key×V)} {A:Around} {E:Value→Shared→Prop}
theorem J2f {Q:Value→Shared→Prop} (I:Inv X pins σ H s) (e:Rd H a (.dK kvs)) (h:∀ p s',H p=none→Inv X pins σ (upd H p (.dK kvs)) s'→Q (.ref p) s'):wpAny (model X.prog X.w) A (call (.type "dict") [.ref a]) Q E s:=by
  obtain ⟨z,hd,vs,rel,dd⟩:=J2T I.hok e
  refine kt_call_dict hd dd (by rw [← rel.length]; exact z) fun h' dd' hs=>?_
  refine h _ _ (I.hok.fresh (Nat.le_refl _)) (I.laid (a:=s.heap.objs.size) (o:=.dK kvs) (t':=s.toks) (fun b q hq=>?_) (Nat.le_refl _) (Z8j z (beq_eq_false_iff_ne.mpr (Ne.symm (Nat.ne_of_lt I.big))) rel dd'))
  exact (hs.2 b (Nat.ne_of_lt (Heap.lt_size hq))).trans (Heap.get?_push_of_some _ hq)
end
section
variable {X:Cx} {pins:List (Addr×Obj)} {σ:St} {H:Hp} {s:Shared} {a:Addr} {y:V} {u:Value} {A:Around} {E:Value→Shared→Prop}
end
end L2
namespace L2
open PySem PySem.Spec PyProof.Rows
section
variable {X:Cx}
end
section
variable {κ:Type} [DecidableEq κ]
end
end L2
end
section
namespace L2
open PySem PySem.Spec PyProof.Rows PySem.SeqAt
theorem J7M {td ty:TE} {σ:St} {H:Hp} {Q:VK}:J6k td ty σ H Q=(td σ H fun x H1=>ty σ H1 fun y H2=>∃ a v,x=.ref a∧DGet H2 a y (some v)∧Q v H2):=rfl
theorem J7F {td ty tv:TE} {D:Ends} {σ:St} {H:Hp}:J6G td ty tv D σ H=(tv σ H fun v H1=>td σ H1 fun x H2=>ty σ H2 fun y H3=>∃ a H4,x=.ref a∧DPut H3 a y v H4∧D.nx σ H4):=rfl
theorem J6r {z0:St} {H:Hp} {Q:VK}:J4a  z0 H Q=(∀ p,H p=none→Q (.ref p) (upd H p (.dK []))):=rfl
end L2
end
section
namespace PW
open PySem P15
inductive Vl | int (i:Int) | bl (b:Bool) | thing (n:Nat)
structure Wd where
  name:Str
  params:List (Str×Str)
  kind:Str
  body:Tm
structure Hs where
  name:Str
  elder:Option Str
  fields:List (Str×Str)
  words:List Wd
structure Pg where
  houses:List Hs
  main:Wd
structure Sc where
  house:Option Str
  own:Option Vl
  bound:List (Str×Vl)
inductive Wt | walk (t:Tm) (s:Sc) | choose (t:Tm) (s:Sc) | finish (t:Tm) (s:Sc) | leave
structure Ws where
  wait:List Wt
  known:List Vl
  made:List (Str×List Vl)
  counted:Nat
  within:Nat
  ended:Option (List Str)
def IxAt {α:Type} (xs:List α) (x:α) (i:Nat):Prop:=xs[i]?=some x∧∀ j,j < i→xs[j]?≠some x
def Look (P:Pg) (h:Str) (H:Hs):Prop:=H∈P.houses∧H.name=h
inductive Chain (P:Pg):Str→List Str→Prop
  | top {h:Str} {H:Hs}:Look P h H→H.elder=none→Chain P h []
  | up {h e:Str} {H:Hs} {es:List Str}:Look P h H→H.elder=some e→Chain P e es→Chain P h (e::es)
inductive Z5b (P:Pg) (w:Str):List Str→Str→Nat→Wd→Prop
  | here {h:Str} {H:Hs} {es:List Str} {i:Nat} {d:Wd}:Look P h H→IxAt (H.words.map Wd.name) w i→H.words[i]?=some d→Z5b P w (h::es) h i d
  | there {h h':Str} {H:Hs} {es:List Str} {i:Nat} {d:Wd}:Look P h H→w∉H.words.map Wd.name→Z5b P w es h' i d→Z5b P w (h::es) h' i d
inductive Flds (P:Pg):List Str→List (Str×Str)→Prop
  | nil:Flds P [] []
  | cons {h:Str} {H:Hs} {l:List Str} {fs:List (Str×Str)}:Look P h H→Flds P l fs→Flds P (h::l) (H.fields++fs)
def J0a (P:Pg) (h f:Str) (j:Nat):Prop:=∃ es fs,Chain P h es∧es.length≤100∧Flds P (h::es).reverse fs∧fs.length≤100∧IxAt (fs.map Prod.fst) f j
def putS (k:Str) (v:Vl) (b:List (Str×Vl)):List (Str×Vl):=if (b.any fun p=>decide (p.1=k))=true then b.map (fun p=>if p.1=k then (p.1,v) else p) else b++[(k,v)]
def Z2V:List (Str×Vl)→List (Str×Vl)→List (Str×Vl)
  | b,[]=>b
  | b,(k,v)::r=>Z2V (putS k v b) r
def getS (k:Str) (b:List (Str×Vl)):Option Vl:=(b.find? fun p=>decide (p.1=k)).map (·.2)
theorem J1D {k:Str} {p:Str×Vl} {r:List (Str×Vl)}:getS k (p::r)=if p.1=k then some p.2 else getS k r:=by
  unfold getS
  rw [List.find?_cons]
  by_cases h:p.1=k
  · rw [if_pos h,decide_eq_true h]; rfl
  · rw [if_neg h,decide_eq_false h]
inductive Called (P:Pg) (most:Nat) (h wd:Str) (x:Vl) (vs:List Vl):Ws→Ws→Prop
  | dry {W k m c w}:most≤c→Called P most h wd x vs ⟨W,k,m,c,w,none⟩ ⟨W,k,m,c,w,some ["dry"]⟩
  | deep {W k m c w}:c < most→40≤w→Called P most h wd x vs ⟨W,k,m,c,w,none⟩ ⟨W,k,m,c+1,w,some ["deep"]⟩
  | go {W k m c w es h' i d}:c < most→w < 40→Chain P h es→es.length≤100→Z5b P wd (h::es) h' i d→d.params.length≤100→Called P most h wd x vs ⟨W,k,m,c,w,none⟩ ⟨.walk d.body ⟨some h',some x,Z2V [] ((d.params.map Prod.fst).zip vs)⟩::.leave::W,k,m,c+1,w+1,none⟩
def Bd (n:Int):Prop:=-1000000000000000≤n∧n≤1000000000000000
inductive Two:Str→Vl→Vl→Option Vl→List Str→Prop
  | add {a b:Int}:Bd a→Bd b→Bd (a+b)→Two "+" (.int a) (.int b) (some (.int (a+b))) []
  | sub {a b:Int}:Bd a→Bd b→Bd (a - b)→Two "-" (.int a) (.int b) (some (.int (a - b))) []
  | mul {a b:Int}:Bd a→Bd b→Bd (a * b)→Two "*" (.int a) (.int b) (some (.int (a * b))) []
  | great {a b:Int}:Bd a→Bd b→¬ Bd (a * b)→Two "*" (.int a) (.int b) none ["refused","great"]
  | nought {a:Int}:Bd a→Two "/" (.int a) (.int 0) none ["refused","nought"]
  | less {a b:Int}:Bd a→Bd b→Two "<" (.int a) (.int b) (some (.bl (decide (a < b)))) []
def Z3n:Fm→Lb→Prop
  | .iff,_=>True
  | .lt,_=>True
  | .two,.str s=>s=";"
  | _,_=>False
def leaf:Fm→Prop
  | .number | .truth | .name | .self=>True
  | _=>False
inductive Step (P:Pg) (most:Nat):Ws→Ws→Prop
  | num {W k m c w s i}:Step P most ⟨.walk (.mk .number (.int i) []) s::W,k,m,c,w,none⟩ ⟨W,.int i::k,m,c,w,none⟩
  | tru {W k m c w s b}:Step P most ⟨.walk (.mk .truth (.bl b) []) s::W,k,m,c,w,none⟩ ⟨W,.bl b::k,m,c,w,none⟩
  | name {W k m c w s x v}:getS x s.bound=some v→Step P most ⟨.walk (.mk .name (.str x) []) s::W,k,m,c,w,none⟩ ⟨W,v::k,m,c,w,none⟩
  | self {W k m c w s v}:s.own=some v→Step P most ⟨.walk (.mk .self .non []) s::W,k,m,c,w,none⟩ ⟨W,v::k,m,c,w,none⟩
  | cho {W k m c w s f l p ps}:Z3n f l→ps.length≤10→Step P most ⟨.walk (.mk f l (p::ps)) s::W,k,m,c,w,none⟩ ⟨.walk p s::.choose (.mk f l (p::ps)) s::W,k,m,c,w,none⟩
  | fin {W k m c w s f l ps}:¬ Z3n f l→¬ leaf f→ps.length≤10→Step P most ⟨.walk (.mk f l ps) s::W,k,m,c,w,none⟩ ⟨ps.map (Wt.walk · s)++.finish (.mk f l ps) s::W,k,m,c,w,none⟩
  | lt {W k m c w s x p q v}:s.bound.length≤100→Step P most ⟨.choose (.mk .lt (.str x) [p,q]) s::W,v::k,m,c,w,none⟩ ⟨.walk q ⟨s.house,s.own,putS x v s.bound⟩::W,k,m,c,w,none⟩
  | iff {W k m c w s p q r b}:Step P most ⟨.choose (.mk .iff .non [p,q,r]) s::W,.bl b::k,m,c,w,none⟩ ⟨.walk (if b then q else r) s::W,k,m,c,w,none⟩
  | seq {W k m c w s p q v}:Step P most ⟨.choose (.mk .two (.str ";") [p,q]) s::W,v::k,m,c,w,none⟩ ⟨.walk q s::W,k,m,c,w,none⟩
  | two {W k m c w s g p q a b v e}:Two g a b (some v) e→Step P most ⟨.finish (.mk .two (.str g) [p,q]) s::W,b::a::k,m,c,w,none⟩ ⟨W,v::k,m,c,w,none⟩
  | refuse {W k m c w s g p q a b e}:Two g a b none e→Step P most ⟨.finish (.mk .two (.str g) [p,q]) s::W,b::a::k,m,c,w,none⟩ ⟨W,k,m,c,w,some e⟩
  | new {W k m c w s h ps vs}:vs.length=ps.length→ps.length≤10→Step P most ⟨.finish (.mk .new (.str h) ps) s::W,vs.reverse++k,m,c,w,none⟩ ⟨W,.thing m.length::k,m++[(h,vs)],c,w,none⟩
  | field {W k m c w s f p n h inn j v}:m[n]?=some (h,inn)→J0a P h f j→inn[j]?=some v→Step P most ⟨.finish (.mk .field (.str f) [p]) s::W,.thing n::k,m,c,w,none⟩ ⟨W,v::k,m,c,w,none⟩
  | set {W k m c w s f p q n h inn j v}:m[n]?=some (h,inn)→J0a P h f j→j < inn.length→Step P most ⟨.finish (.mk .set (.str f) [p,q]) s::W,v::.thing n::k,m,c,w,none⟩ ⟨W,v::k,m.set n (h,inn.set j v),c,w,none⟩
  | call {W k m c w s f ps vs n h inn S}:vs.length+1=ps.length→ps.length≤10→m[n]?=some (h,inn)→Called P most h f (.thing n) vs ⟨W,k,m,c,w,none⟩ S→Step P most ⟨.finish (.mk .call (.str f) ps) s::W,vs.reverse++.thing n::k,m,c,w,none⟩ S
  | elder {W k m c w s f ps vs h e es v S}:vs.length=ps.length→ps.length≤10→s.house=some h→s.own=some v→Chain P h (e::es)→es.length < 100→Called P most e f v vs ⟨W,k,m,c,w,none⟩ S→Step P most ⟨.finish (.mk .elder (.str f) ps) s::W,vs.reverse++k,m,c,w,none⟩ S
  | leave {W k m c w}:Step P most ⟨.leave::W,k,m,c,w+1,none⟩ ⟨W,k,m,c,w,none⟩
inductive Steps (P:Pg) (most:Nat):Nat→Ws→Ws→Prop
  | refl {S}:Steps P most 0 S S
  | step {n S S' S''}:Step P most S S'→Steps P most n S' S''→Steps P most (n+1) S S''
section
variable {P:Pg} {most:Nat}
theorem Steps.trans {n m:Nat} {S S' S'':Ws} (a:Steps P most n S S') (b:Steps P most m S' S''):Steps P most (n+m) S S'':=by
  induction a with
  | refl=>rw [Nat.zero_add]; exact b
  | step h _ ih=>rw [Nat.add_right_comm]; exact .step h (ih b)
theorem Steps.one {S S':Ws} (h:Step P most S S'):Steps P most 1 S S':=.step h .refl
theorem Steps.snoc {n:Nat} {S S' S'':Ws} (a:Steps P most n S S') (h:Step P most S' S''):Steps P most (n+1) S S'':=a.trans (.one h)
theorem Step.on {S S':Ws} (h:Step P most S S'):S.ended=none∧S.wait≠[]:=by
  cases h <;> exact ⟨rfl,by simp⟩
theorem Called.sz {h wd:Str} {x:Vl} {vs:List Vl} {S S':Ws} (a:Called P most h wd x vs S S'):S'.wait.length≤S.wait.length+2∧S'.known=S.known∧S'.made=S.made:=by
  cases a <;> refine ⟨?_,rfl,rfl⟩ <;> simp
theorem Step.sz {S S':Ws} (h:Step P most S S'):S'.wait.length≤S.wait.length+10∧S'.known.length≤S.known.length+1∧S'.made.length≤S.made.length+1:=by
  cases h with
  | call a b c d=>have:=d.sz; obtain ⟨h1,h2,h3⟩:=this; rw [h2,h3]; refine ⟨?_,?_,?_⟩ <;> simp at * <;> omega
  | elder a b c d e f g=>have:=g.sz; obtain ⟨h1,h2,h3⟩:=this; rw [h2,h3]; refine ⟨?_,?_,?_⟩ <;> simp at * <;> omega
  | _=>refine ⟨?_,?_,?_⟩ <;> simp at * <;> omega
theorem Steps.sz {n:Nat} {S S':Ws} (h:Steps P most n S S'):S'.wait.length≤S.wait.length+10 * n∧S'.known.length≤S.known.length+n∧S'.made.length≤S.made.length+n:=by
  induction h with
  | refl=>refine ⟨?_,?_,?_⟩ <;> omega
  | step a _ ih=>have:=a.sz; refine ⟨?_,?_,?_⟩ <;> omega
def Eval (P:Pg) (most b:Nat) (t:Tm) (s:Sc) (m:List (Str×List Vl)) (c w:Nat) (v:Vl) (m':List (Str×List Vl)) (c':Nat):Prop:=
  ∃ n,n≤b∧∀ W k,Steps P most n ⟨.walk t s::W,k,m,c,w,none⟩ ⟨W,v::k,m',c',w,none⟩
def J2X (P:Pg) (most b:Nat) (ts:List Tm) (s:Sc) (m:List (Str×List Vl)) (c w:Nat) (vs:List Vl) (m':List (Str×List Vl)) (c':Nat):Prop:=
  ∃ n,n≤b∧∀ W k,Steps P most n ⟨ts.map (Wt.walk · s)++W,k,m,c,w,none⟩ ⟨W,vs.reverse++k,m',c',w,none⟩
variable {b b1 b2 b' c c1 c2 c' w:Nat} {s:Sc} {m m1 m2 m':List (Str×List Vl)} {v v1 v2:Vl} {t:Tm} {ts:List Tm} {vs:List Vl}
theorem Z2k {i:Int}:Eval P most 1 (.mk .number (.int i) []) s m c w (.int i) m c:=⟨1,Nat.le_refl _,fun _ _=>.one .num⟩
theorem J7v {b:Bool}:Eval P most 1 (.mk .truth (.bl b) []) s m c w (.bl b) m c:=⟨1,Nat.le_refl _,fun _ _=>.one .tru⟩
theorem Z3S {x:Str} (h:getS x s.bound=some v):Eval P most 1 (.mk .name (.str x) []) s m c w v m c:=⟨1,Nat.le_refl _,fun _ _=>.one (.name h)⟩
theorem Z4B (h:s.own=some v):Eval P most 1 (.mk .self .non []) s m c w v m c:=⟨1,Nat.le_refl _,fun _ _=>.one (.self h)⟩
theorem Z9K:J2X P most 0 [] s m c w [] m c:=⟨0,Nat.le_refl _,fun _ _=>.refl⟩
theorem Z7O (h:Eval P most b1 t s m c w v m1 c1) (hs:J2X P most b2 ts s m1 c1 w vs m' c'):J2X P most (b1+b2) (t::ts) s m c w (v::vs) m' c':=by
  obtain ⟨n,a,q⟩:=h
  obtain ⟨n',a',q'⟩:=hs
  refine ⟨n+n',Nat.add_le_add a a',fun W k=>?_⟩
  have:=(q (ts.map (Wt.walk · s)++W) k).trans (q' W (v::k))
  rw [List.reverse_cons,List.append_assoc]
  exact this
theorem J4h {g:Str} {p q:Tm} {e:List Str} (hg:g≠";") (h:Eval P most b1 p s m c w v1 m1 c1) (h2:Eval P most b2 q s m1 c1 w v2 m' c') (ht:Two g v1 v2 (some v) e):Eval P most (b1+b2+2) (.mk .two (.str g) [p,q]) s m c w v m' c':=by
  obtain ⟨n,a,f⟩:=Z7O h (Z7O h2 Z9K)
  refine ⟨(n+1)+1,by omega,fun W k=>?_⟩
  exact .step (.fin hg (fun z=>z) (by simp)) ((f _ _).trans (.one (.two ht)))
theorem J6Y {h:Str} {ps:List Tm} (hv:vs.length=ps.length) (hp:ps.length≤10) (hs:J2X P most b ps s m c w vs m' c'):Eval P most (b+2) (.mk .new (.str h) ps) s m c w (.thing m'.length) (m'++[(h,vs)]) c':=by
  obtain ⟨n,a,f⟩:=hs
  refine ⟨(n+1)+1,by omega,fun W k=>?_⟩
  exact .step (.fin (fun z=>z) (fun z=>z) hp) ((f _ _).trans (.one (.new hv hp)))
end
end PW
end
section
namespace WK
open PySem L2 P15 TM PW
inductive A2 {α β:Type} (R:α→β→Prop):List α→List β→Prop
  | nil:A2 R [] []
  | cons {a:α} {b:β} {as:List α} {bs:List β}:R a b→A2 R as bs→A2 R (a::as) (b::bs)
section
variable {α β:Type} {R R':α→β→Prop}
theorem A2.len:∀ {as:List α} {bs:List β},A2 R as bs→as.length=bs.length
  | _,_,.nil=>rfl
  | _,_,.cons _ h=>congrArg (·+1) h.len
theorem A2.monoM:∀ {as:List α} {bs:List β},A2 R as bs→(∀ a b,a∈as→R a b→R' a b)→A2 R' as bs
  | _,_,.nil,_=>.nil
  | _,_,.cons a h,f=>.cons (f _ _ List.mem_cons_self a) (h.monoM fun a b m=>f a b (List.mem_cons_of_mem _ m))
theorem A2.mono {as:List α} {bs:List β} (h:A2 R as bs) (f:∀ a b,R a b→R' a b):A2 R' as bs:=h.monoM fun a b _=>f a b
theorem A2.app:∀ {as as':List α} {bs bs':List β},A2 R as bs→A2 R as' bs'→A2 R (as++as') (bs++bs')
  | _,_,_,_,.nil,h=>h
  | _,_,_,_,.cons a h,h'=>.cons a (h.app h')
theorem A2.snoc {as:List α} {bs:List β} {a:α} {b:β} (h:A2 R as bs) (r:R a b):A2 R (as++[a]) (bs++[b]):=h.app (.cons r .nil)
theorem A2.split:∀ {bs bs':List β} {as:List α},A2 R as (bs++bs')→∃ xs ys,as=xs++ys∧A2 R xs bs∧A2 R ys bs'
  | [],_,as,h=>⟨[],as,rfl,.nil,h⟩
  | _::bs,_,_,.cons a h=>by
    obtain ⟨xs,ys,rfl,p,q⟩:=A2.split h
    exact ⟨_::xs,ys,rfl,.cons a p,q⟩
theorem A2.one {a:List α} {b:β} (h:A2 R a [b]):∃ x,a=[x]∧R x b:=by
  cases h with
  | cons r t=>cases t; exact ⟨_,rfl,r⟩
theorem A2.last {as:List α} {bs:List β} {b:β} (h:A2 R as (bs++[b])):∃ xs x,as=xs++[x]∧A2 R xs bs∧R x b:=by
  obtain ⟨xs,ys,rfl,p,q⟩:=h.split
  obtain ⟨x,rfl,r⟩:=q.one
  exact ⟨xs,x,rfl,p,r⟩
theorem A2.at:∀ {as:List α} {bs:List β} {i:Nat} {a:α},A2 R as bs→as[i]?=some a→∃ b,bs[i]?=some b∧R a b
  | _,_,0,_,.cons r _,h=>by cases h; exact ⟨_,rfl,r⟩
  | _,_,i+1,_,.cons _ t,h=>t.at (i:=i) h
theorem A2.to:∀ {as:List α} {bs:List β} {i:Nat} {b:β},A2 R as bs→bs[i]?=some b→∃ a,as[i]?=some a∧R a b
  | _,_,0,_,.cons r _,h=>by cases h; exact ⟨_,rfl,r⟩
  | _,_,i+1,_,.cons _ t,h=>t.to (i:=i) h
theorem A2.set:∀ {as:List α} {bs:List β} (i:Nat) {a:α} {b:β},A2 R as bs→R a b→A2 R (as.set i a) (bs.set i b)
  | _,_,_,_,_,.nil,_=>.nil
  | _,_,0,_,_,.cons _ t,r=>.cons r t
  | _,_,i+1,_,_,.cons q t,r=>.cons q (t.set i r)
theorem A2.nil_inv {as:List α} (h:A2 R as []):as=[]:=by cases h; rfl
theorem A2.of:∀ {as:List α} {bs:List β},as.length=bs.length→(∀ (j:Nat) a,as[j]?=some a→∃ b,bs[j]?=some b∧R a b)→A2 R as bs
  | [],[],_,_=>.nil
  | a::as,b::bs,e,h=>by
    obtain ⟨b',hb,r⟩:=h 0 a rfl
    cases hb
    exact .cons r (A2.of (Nat.succ.inj e) fun j a' ha=>h (j+1) a' ha)
end
structure CS where
  term:Addr
  word:Addr
  house:Addr
  program:Addr
  hall:Addr
  scope:Addr
  waits:Addr
  walk:Addr
  bs:Hp
structure CS.Ok (c:CS):Prop where
  term:c.term≠c.walk
  word:c.word≠c.walk
  house:c.house≠c.walk
  hall:c.hall≠c.walk
  scope:c.scope≠c.walk
  waits:c.waits≠c.walk
structure Kw (C:Addr) (H H':Hp):Prop where
  t:∀ b xs,H b=some (.tup xs)→H' b=some (.tup xs)
  z:∀ b o xs,H b=some (.frz o (.tup xs))→H' b=some (.frz o (.tup xs))
  i:∀ b D dx f fs,D≠C→H b=some (.ins D dx (f::fs))→H' b=some (.ins D dx (f::fs))
  d:∀ b kvs,H b=some (.dK kvs)→H' b=some (.dK kvs)
section
variable {C:Addr} {H H' H'':Hp} {K:W.Frag}
theorem Kw.refl:Kw C H H:=⟨fun _ _ h=>h,fun _ _ _ h=>h,fun _ _ _ _ _ _ h=>h,fun _ _ h=>h⟩
theorem Kw.trans (a:Kw C H H') (b:Kw C H' H''):Kw C H H'':=⟨fun _ _ h=>b.t _ _ (a.t _ _ h),fun _ _ _ h=>b.z _ _ _ (a.z _ _ _ h),fun _ _ _ _ _ n h=>b.i _ _ _ _ _ n (a.i _ _ _ _ _ n h),fun _ _ h=>b.d _ _ (a.d _ _ h)⟩
theorem Kw.of (s:Same H H'):Kw C H H':=⟨fun _ _ h=>s _ _ h,fun _ _ _ h=>s _ _ h,fun _ _ _ _ _ _ h=>s _ _ h,fun _ _ h=>s _ _ h⟩
theorem Kw.lst {a:Addr} {xs:List V} (o:HO) (h:H a=some (.lst xs)):Kw C H (upd H a o):=
  ⟨fun b xs e=>by rw [Z0j (fun z=>by rw [z,h] at e; cases e)]; exact e,fun b o xs e=>by rw [Z0j (fun z=>by rw [z,h] at e; cases e)]; exact e,
   fun b D dx f fs n e=>by rw [Z0j (fun z=>by rw [z,h] at e; cases e)]; exact e,fun b kvs e=>by rw [Z0j (fun z=>by rw [z,h] at e; cases e)]; exact e⟩
theorem Kw.ins {a dx:Addr} {fs:List (Str×V)} (o:HO) (h:H a=some (.ins C dx fs)):Kw C H (upd H a o):=
  ⟨fun b xs e=>by rw [Z0j (fun z=>by rw [z,h] at e; cases e)]; exact e,fun b o xs e=>by rw [Z0j (fun z=>by rw [z,h] at e; cases e)]; exact e,
   fun b D dx f fs n e=>by rw [Z0j (fun z=>by rw [z,h] at e; cases e; exact n rfl)]; exact e,fun b kvs e=>by rw [Z0j (fun z=>by rw [z,h] at e; cases e)]; exact e⟩
theorem Kw.kt (k:Kw C H H'):Kt H H':=⟨k.t,k.z⟩
theorem Z2g {H1:Hp} {x:Addr} (s:Same H H1) (h:SX x H1 H') (n:H x=none):Same H H':=fun b o e=>h b o (Z0m e n) (s b o e)
mutual
theorem TO.kw {D:Addr} (n:D≠C) (k:Kw C H H'):∀ {v:V} {t:Tm},TO K D H v t→TO K D H' v t
  | _,_,.mk a b c d e=>.mk (k.i _ _ _ _ _ n a) (SqT.kt b k.kt) (TOs.kw n k c) (SqT.kt d k.kt) (e.kt k.kt)
theorem TOs.kw {D:Addr} (n:D≠C) (k:Kw C H H'):∀ {vs:List V} {ts:List Tm},TOs K D H vs ts→TOs K D H' vs ts
  | _,_,.nil=>.nil
  | _,_,.cons h hs=>.cons (TO.kw n k h) (TOs.kw n k hs)
end
end
inductive RV (H:Hp):V→Vl→Prop
  | int (i:Int):RV H (.int i) (.int i)
  | bl (b:Bool):RV H (.bl b) (.bl b)
  | thing {a:Addr} {n:Nat}:H a=some (.tup [.str "thing",.int n])→RV H (.ref a) (.thing n)
inductive RO (H:Hp):V→Option Vl→Prop
  | non:RO H .non none
  | some {v:V} {x:Vl}:RV H v x→RO H v (some x)
noncomputable def oS:Option Str→V
  | none=>.non
  | some s=>.str s
def RB (H:Hp):List (Key×V)→List (Str×Vl)→Prop:=A2 fun kv b=>kv.1=.inr b.1∧RV H kv.2 b.2
inductive ScO (c:CS) (H:Hp):V→Sc→Prop
  | mk {a dx d:Addr} {s:Sc} {ov:V} {kvs:List (Key×V)}:H a=some (.ins c.scope dx [("house",oS s.house),("own_thing",ov),("bound",.ref d)])→RO H ov s.own→H d=some (.dK kvs)→RB H kvs s.bound→ScO c H (.ref a) s
section
variable {C:Addr} {H H':Hp} {c:CS}
theorem RV.kw {v:V} {x:Vl} (h:RV H v x) (k:Kw C H H'):RV H' v x:=by
  cases h with
  | int i=>exact .int i
  | bl b=>exact .bl b
  | thing e=>exact .thing (k.t _ _ e)
theorem RO.kw {v:V} {x:Option Vl} (h:RO H v x) (k:Kw C H H'):RO H' v x:=by
  cases h with
  | non=>exact .non
  | some r=>exact .some (r.kw k)
theorem RB.kw {kvs:List (Key×V)} {b:List (Str×Vl)} (h:RB H kvs b) (k:Kw C H H'):RB H' kvs b:=A2.mono h fun _ _ r=>⟨r.1,r.2.kw k⟩
theorem ScO.kw {v:V} {s:Sc} (ok:c.Ok) (h:ScO c H v s) (k:Kw c.walk H H'):ScO c H' v s:=by
  cases h with
  | mk a b d e=>exact .mk (k.i _ _ _ _ _ ok.scope a) (b.kw k) (k.d _ _ d) (e.kw k)
theorem RB.any {kvs:List (Key×V)} {b:List (Str×Vl)} (x:Str) (h:RB H kvs b):(kvs.any fun kv=>decide (kv.1=Sum.inr x))=(b.any fun p=>decide (p.1=x)):=by
  unfold RB at h
  induction h with
  | nil=>rfl
  | cons r _ ih=>
    rw [List.any_cons,List.any_cons,ih,r.1]
    congr 1
    simp
theorem RB.put {kvs:List (Key×V)} {b:List (Str×Vl)} {x:Str} {v:V} {y:Vl} (h:RB H kvs b) (r:RV H v y):RB H (putK kvs (.inr x) v) (putS x y b):=by
  unfold putK putS
  rw [RB.any x h]
  split
  · unfold RB at h ⊢
    rename_i hk
    clear hk
    induction h with
    | nil=>exact .nil
    | @cons p q as bs e _ ih=>
      refine .cons ?_ ih
      dsimp only
      by_cases hq:q.1=x
      · rw [if_pos hq,if_pos (by rw [e.1,hq])]; exact ⟨by rw [e.1],r⟩
      · rw [if_neg hq,if_neg (by rw [e.1]; exact fun z=>hq (Sum.inr.inj z))]; exact e
  · exact A2.snoc h ⟨rfl,r⟩
theorem RB.get {kvs:List (Key×V)} {b:List (Str×Vl)} {x:Str} {y:Vl} (h:RB H kvs b) (g:getS x b=some y):∃ v,valV kvs (.inr x)=some v∧RV H v y:=by
  unfold RB at h
  induction h with
  | nil=>cases g
  | @cons p q as bs e _ ih=>
    rw [J1D] at g
    by_cases hq:q.1=x
    · rw [if_pos hq] at g
      cases g
      exact ⟨p.2,Z3M (by rw [e.1,hq]),e.2⟩
    · rw [if_neg hq] at g
      rw [Z3f (by rw [e.1]; exact fun z=>hq (Sum.inr.inj z))]
      exact ih g
end
noncomputable def Z2r (ps:List (Str×Str)):PyData:=.tuple (ps.map fun p=>.tuple [.str p.1,.str p.2])
noncomputable def Z3G (d:Wd):PyData:=.tuple [.str d.name,Z2r d.params,.str d.kind,d.body.dat]
noncomputable def oD:Option Str→PyData
  | none=>.none
  | some s=>.str s
noncomputable def J0y (h:Hs):PyData:=.tuple [.str h.name,oD h.elder,Z2r h.fields,.tuple (h.words.map Z3G)]
noncomputable def J3G (P:Pg):PyData:=.tuple [.tuple (P.houses.map J0y),.tuple [Z2r P.main.params,.str P.main.kind,P.main.body.dat]]
inductive WdO (K:W.Frag) (c:CS) (H:Hp):V→Wd→Prop
  | mk {a dx pt:Addr} {bv:V} {d:Wd}:H a=some (.ins c.word dx [("name",.str d.name),("params",.ref pt),("kind",.str d.kind),("body",bv)])→RT K H (.ref pt) (Z2r d.params)→TO K c.term H bv d.body→WdO K c H (.ref a) d
inductive HsO (K:W.Frag) (c:CS) (H:Hp):V→Hs→Prop
  | mk {a dx ft wt:Addr} {ws:List V} {h:Hs}:H a=some (.ins c.house dx [("name",.str h.name),("elder",oS h.elder),("own_fields",.ref ft),("own_words",.ref wt)])→RT K H (.ref ft) (Z2r h.fields)→SqT K H wt ws→A2 (WdO K c H) ws h.words→HsO K c H (.ref a) h
inductive PgO (K:W.Frag) (c:CS) (H:Hp):V→Pg→Prop
  | mk {a dx ht:Addr} {hs:List V} {mv:V} {P:Pg}:H a=some (.ins c.program dx [("all_houses",.ref ht),("main",mv)])→SqT K H ht hs→A2 (HsO K c H) hs P.houses→WdO K c H mv P.main→PgO K c H (.ref a) P
structure WdOk (d:Wd):Prop where
  ok:P15.Ok d.body
  fl:d.body.flat.length≤100
  pl:d.params.length≤100
structure HsOk (h:Hs):Prop where
  wd:∀ d∈h.words,WdOk d
  fl:h.fields.length≤100
  wl:h.words.length≤100
structure GOk (P:Pg):Prop where
  nd:(P.houses.map Hs.name).Nodup
  hs:∀ h∈P.houses,HsOk h
inductive HlO (K:W.Frag) (c:CS) (H:Hp):V→Pg→Prop
  | mk {a dx io d:Addr} {kvs:List (Key×V)} {P:Pg}:H a=some (.ins c.hall dx [("in_order",.ref io),("by_name",.ref d)])→H d=some (.dK kvs)→A2 (fun kv h=>kv.1=.inr h.name∧HsO K c H kv.2 h) kvs P.houses→GOk P→HlO K c H (.ref a) P
section
variable {K:W.Frag} {H H':Hp} {c:CS}
theorem WdO.kw (ok:c.Ok) {v:V} {d:Wd} (h:WdO K c H v d) (k:Kw c.walk H H'):WdO K c H' v d:=by
  cases h with
  | mk a b t=>exact .mk (k.i _ _ _ _ _ ok.word a) (b.kt k.kt) (TO.kw ok.term k t)
theorem HsO.kw (ok:c.Ok) {v:V} {d:Hs} (h:HsO K c H v d) (k:Kw c.walk H H'):HsO K c H' v d:=by
  cases h with
  | mk a b s t=>exact .mk (k.i _ _ _ _ _ ok.house a) (b.kt k.kt) (SqT.kt s k.kt) (t.mono fun _ _ r=>r.kw ok k)
theorem HlO.kw (ok:c.Ok) {v:V} {P:Pg} (h:HlO K c H v P) (k:Kw c.walk H H'):HlO K c H' v P:=by
  cases h with
  | mk a d r n=>exact .mk (k.i _ _ _ _ _ ok.hall a) (k.d _ _ d) (r.mono fun _ _ r=>⟨r.1,r.2.kw ok k⟩) n
theorem WdO.same {v:V} {d:Wd} (h:WdO K c H v d) (s:Same H H'):WdO K c H' v d:=by
  cases h with
  | mk a b t=>exact .mk (s _ _ a) (b.same s) (t.kp (Kp.of s))
theorem HsO.same {v:V} {d:Hs} (h:HsO K c H v d) (s:Same H H'):HsO K c H' v d:=by
  cases h with
  | mk a b q t=>exact .mk (s _ _ a) (b.same s) (SqT.kp q (Kp.of s)) (t.mono fun _ _ r=>r.same s)
theorem PgO.same {v:V} {d:Pg} (h:PgO K c H v d) (s:Same H H'):PgO K c H' v d:=by
  cases h with
  | mk a q t m=>exact .mk (s _ _ a) (SqT.kp q (Kp.of s)) (t.mono fun _ _ r=>r.same s) (m.same s)
theorem HlO.same {v:V} {P:Pg} (h:HlO K c H v P) (s:Same H H'):HlO K c H' v P:=by
  cases h with
  | mk a d r n=>exact .mk (s _ _ a) (s _ _ d) (r.mono fun _ _ r=>⟨r.1,r.2.same s⟩) n
theorem uniq {hs:List Hs}:(hs.map Hs.name).Nodup→∀ a b,a∈hs→b∈hs→a.name=b.name→a=b:=by
  induction hs with
  | nil=>intro _ a b h; cases h
  | cons x xs ih=>
    intro n a b ha hb e
    rw [List.map_cons,List.nodup_cons] at n
    rcases List.mem_cons.mp ha with z1 | ha' <;> rcases List.mem_cons.mp hb with z2 | hb'
    · rw [z1,z2]
    · exact absurd (by rw [← z1,e]; exact List.mem_map_of_mem hb') n.1
    · exact absurd (by rw [← z2,← e]; exact List.mem_map_of_mem ha') n.1
    · exact ih n.2 a b ha' hb' e
theorem J3f {hs:List Hs} {kvs:List (Key×V)} (r:A2 (fun kv h=>kv.1=.inr h.name∧HsO K c H kv.2 h) kvs hs) (n:(hs.map Hs.name).Nodup) {x:Hs} (hx:x∈hs):∃ v,valV kvs (.inr x.name)=some v∧HsO K c H v x:=by
  induction r with
  | nil=>cases hx
  | @cons p q as bs e _ ih=>
    rw [List.map_cons,List.nodup_cons] at n
    by_cases hq:q.name=x.name
    · rcases List.mem_cons.mp hx with rfl | hx
      · exact ⟨p.2,Z3M e.1,e.2⟩
      · exact absurd (hq▸List.mem_map_of_mem hx) n.1
    · rcases List.mem_cons.mp hx with rfl | hx
      · exact absurd rfl hq
      · rw [Z3f (by rw [e.1]; exact fun z=>hq (Sum.inr.inj z))]
        exact ih n.2 hx
end
inductive RWt (K:W.Frag) (c:CS) (H:Hp):V→Wt→Prop
  | walk {a:Addr} {tv sv:V} {t:Tm} {s:Sc}:H a=some (.tup [.str "walk",tv,sv])→TO K c.term H tv t→ScO c H sv s→RWt K c H (.ref a) (.walk t s)
  | choose {a:Addr} {tv sv:V} {t:Tm} {s:Sc}:H a=some (.tup [.str "choose",tv,sv])→TO K c.term H tv t→ScO c H sv s→RWt K c H (.ref a) (.choose t s)
  | finish {a:Addr} {tv sv:V} {t:Tm} {s:Sc}:H a=some (.tup [.str "finish",tv,sv])→TO K c.term H tv t→ScO c H sv s→RWt K c H (.ref a) (.finish t s)
  | leave {a:Addr}:H a=some (.tup [.str "leave",.non,.non])→RWt K c H (.ref a) .leave
def RMd (H:Hp) (m:V×Addr) (e:Str×List Vl):Prop:=∃ t vs,m.1=.ref t∧H t=some (.tup [.str e.1,.ref m.2])∧H m.2=some (.lst vs)∧A2 (RV H) vs e.2
inductive REn (K:W.Frag) (H:Hp):V→Option (List Str)→Prop
  | non:REn K H .non none
  | some {v:V} {l:List Str}:RT K H v (.tuple (l.map .str))→REn K H v (some l)
noncomputable def fsW (hl wA ml:Addr) (most c w:Nat) (ev:V):List (Str×V):=[("hall",.ref hl),("most",.int most),("waits",.ref wA),("made",.ref ml),("counted",.int c),("within",.int w),("ended",ev)]
structure Ad where
  dx:Addr
  hl:Addr
  wA:Addr
  dw:Addr
  wl:Addr
  kl:Addr
  ml:Addr
  ev:V
  ws:List V
  ks:List V
  mz:List (V×Addr)
structure WAd (K:W.Frag) (c:CS) (P:Pg) (most:Nat) (H:Hp) (a:Addr) (A:Ad) (S:Ws):Prop where
  wk:H a=some (.ins c.walk A.dx (fsW A.hl A.wA A.ml most S.counted S.within A.ev))
  wt:H A.wA=some (.ins c.waits A.dw [("waiting",.ref A.wl),("known",.ref A.kl)])
  hw:H A.wl=some (.lst A.ws)
  hk:H A.kl=some (.lst A.ks)
  hm:H A.ml=some (.lst (A.mz.map Prod.fst))
  rw:A2 (RWt K c H) A.ws S.wait.reverse
  rk:A2 (RV H) A.ks S.known.reverse
  rm:A2 (RMd H) A.mz S.made
  re:REn K H A.ev S.ended
  nd:(A.wl::A.kl::A.ml::A.mz.map Prod.snd).Nodup
  hl:HlO K c H (.ref A.hl) P
  sb:Same c.bs H
  ob:c.bs a=none∧c.bs A.wl=none∧c.bs A.kl=none∧c.bs A.ml=none∧∀ m∈A.mz,c.bs m.2=none
section
variable {K:W.Frag} {H H':Hp} {c:CS} {P:Pg} {most:Nat} {a:Addr} {A:Ad} {S:Ws}
theorem RWt.kw (ok:c.Ok) {v:V} {x:Wt} (h:RWt K c H v x) (k:Kw c.walk H H'):RWt K c H' v x:=by
  cases h with
  | walk a t s=>exact .walk (k.t _ _ a) (TO.kw ok.term k t) (s.kw ok k)
  | choose a t s=>exact .choose (k.t _ _ a) (TO.kw ok.term k t) (s.kw ok k)
  | finish a t s=>exact .finish (k.t _ _ a) (TO.kw ok.term k t) (s.kw ok k)
  | leave a=>exact .leave (k.t _ _ a)
theorem REn.kw {C:Addr} {v:V} {x:Option (List Str)} (h:REn K H v x) (k:Kw C H H'):REn K H' v x:=by
  cases h with
  | non=>exact .non
  | some r=>exact .some (r.kt k.kt)
theorem RMd.kw {C:Addr} {m:V×Addr} {e:Str×List Vl} (h:RMd H m e) (k:Kw C H H') (hs:∀ vs,H m.2=some (.lst vs)→H' m.2=some (.lst vs)):RMd H' m e:=by
  obtain ⟨t,vs,a,b,d,r⟩:=h
  exact ⟨t,vs,a,k.t _ _ b,hs _ d,r.mono fun _ _ q=>q.kw k⟩
theorem Z2J {Bs:Hp} {x:Addr} {o:HO} (s:Same Bs H) (n:Bs x=none):Same Bs (upd H x o):=fun b u e=>by rw [Z0j (Z0m e n)]; exact s _ _ e
theorem WAd.same (ok:c.Ok) (h:WAd K c P most H a A S) (s:Same H H'):WAd K c P most H' a A S:=
  have k:Kw c.walk H H':=Kw.of s
  ⟨s _ _ h.wk,s _ _ h.wt,s _ _ h.hw,s _ _ h.hk,s _ _ h.hm,h.rw.mono fun _ _ r=>r.kw ok k,h.rk.mono fun _ _ r=>r.kw k,h.rm.mono fun _ _ r=>r.kw k fun _ e=>s _ _ e,h.re.kw k,h.nd,h.hl.kw ok k,h.sb.trans s,h.ob⟩
theorem WAd.nwk (h:WAd K c P most H a A S):A.wl≠A.kl∧A.wl≠A.ml∧A.kl≠A.ml∧(∀ m∈A.mz,m.2≠A.wl∧m.2≠A.kl∧m.2≠A.ml)∧(A.mz.map Prod.snd).Nodup:=by
  have n:=h.nd
  rw [List.nodup_cons,List.nodup_cons,List.nodup_cons] at n
  obtain ⟨n1,n2,n3,n4⟩:=n
  simp only [List.mem_cons,not_or] at n1 n2
  refine ⟨n1.1,n1.2.1,n2.1,fun m hm=>⟨fun z=>n1.2.2 (z▸List.mem_map_of_mem hm),fun z=>n2.2 (z▸List.mem_map_of_mem hm),fun z=>n3 (z▸List.mem_map_of_mem hm)⟩,n4⟩
theorem WAd.push (ok:c.Ok) (h:WAd K c P most H a A S) {v:V} {x:Wt} (r:RWt K c H v x):WAd K c P most (upd H A.wl (.lst (A.ws++[v]))) a { A with ws:=A.ws++[v] } { S with wait:=x::S.wait }:=by
  have k:Kw c.walk H (upd H A.wl (.lst (A.ws++[v]))):=Kw.lst _ h.hw
  obtain ⟨n1,n2,n3,n4,n5⟩:=h.nwk
  refine ⟨?_,?_,Z0g,?_,?_,?_,h.rk.mono fun _ _ r=>r.kw k,h.rm.monoM fun m e hm r=>r.kw k fun vs q=>?_,h.re.kw k,h.nd,h.hl.kw ok k,Z2J h.sb h.ob.2.1,h.ob⟩
  · rw [Z0j (fun z=>by have:=h.hw; rw [← z,h.wk] at this; cases this)]; exact h.wk
  · rw [Z0j (fun z=>by have:=h.hw; rw [← z,h.wt] at this; cases this)]; exact h.wt
  · rw [Z0j n1.symm]; exact h.hk
  · rw [Z0j n2.symm]; exact h.hm
  · show A2 _ _ (x::S.wait).reverse
    rw [List.reverse_cons]
    exact (h.rw.mono fun _ _ r=>r.kw ok k).snoc (r.kw ok k)
  · rw [Z0j (n4 m hm).1]; exact q
theorem WAd.pop (ok:c.Ok) {x:Wt} {W:List Wt} (h:WAd K c P most H a A S) (e:S.wait=x::W):∃ ws v,A.ws=ws++[v]∧RWt K c H v x∧WAd K c P most (upd H A.wl (.lst ws)) a { A with ws:=ws } { S with wait:=W }:=by
  have hr:=h.rw
  rw [e,List.reverse_cons] at hr
  obtain ⟨ws,v,ew,r1,r2⟩:=hr.last
  have k:Kw c.walk H (upd H A.wl (.lst ws)):=Kw.lst _ h.hw
  obtain ⟨n1,n2,n3,n4,n5⟩:=h.nwk
  refine ⟨ws,v,ew,r2,?_,?_,Z0g,?_,?_,r1.mono fun _ _ r=>r.kw ok k,h.rk.mono fun _ _ r=>r.kw k,h.rm.monoM fun m e hm r=>r.kw k fun vs q=>?_,h.re.kw k,h.nd,h.hl.kw ok k,Z2J h.sb h.ob.2.1,h.ob⟩
  · rw [Z0j (fun z=>by have:=h.hw; rw [← z,h.wk] at this; cases this)]; exact h.wk
  · rw [Z0j (fun z=>by have:=h.hw; rw [← z,h.wt] at this; cases this)]; exact h.wt
  · rw [Z0j n1.symm]; exact h.hk
  · rw [Z0j n2.symm]; exact h.hm
  · rw [Z0j (n4 m hm).1]; exact q
theorem WAd.know (ok:c.Ok) (h:WAd K c P most H a A S) {ks:List V} {kn:List Vl} (r:A2 (RV H) ks kn.reverse):WAd K c P most (upd H A.kl (.lst ks)) a { A with ks:=ks } { S with known:=kn }:=by
  have k:Kw c.walk H (upd H A.kl (.lst ks)):=Kw.lst _ h.hk
  obtain ⟨n1,n2,n3,n4,n5⟩:=h.nwk
  refine ⟨?_,?_,?_,Z0g,?_,h.rw.mono fun _ _ r=>r.kw ok k,r.mono fun _ _ r=>r.kw k,h.rm.monoM fun m e hm r=>r.kw k fun vs q=>?_,h.re.kw k,h.nd,h.hl.kw ok k,Z2J h.sb h.ob.2.2.1,h.ob⟩
  · rw [Z0j (fun z=>by have:=h.hk; rw [← z,h.wk] at this; cases this)]; exact h.wk
  · rw [Z0j (fun z=>by have:=h.hk; rw [← z,h.wt] at this; cases this)]; exact h.wt
  · rw [Z0j n1]; exact h.hw
  · rw [Z0j n3.symm]; exact h.hm
  · rw [Z0j (n4 m hm).2.1]; exact q
theorem WAd.know1 (ok:c.Ok) (h:WAd K c P most H a A S) {v:V} {x:Vl} (r:RV H v x):WAd K c P most (upd H A.kl (.lst (A.ks++[v]))) a { A with ks:=A.ks++[v] } { S with known:=x::S.known }:=
  h.know ok (by rw [List.reverse_cons]; exact h.rk.snoc r)
theorem WAd.put (ok:c.Ok) (h:WAd K c P most H a A S) {cn wi:Nat} {ev:V} {en:Option (List Str)} (r:REn K H ev en):WAd K c P most (upd H a (.ins c.walk A.dx (fsW A.hl A.wA A.ml most cn wi ev))) a { A with ev:=ev } { S with counted:=cn,within:=wi,ended:=en }:=by
  have k:Kw c.walk H (upd H a (.ins c.walk A.dx (fsW A.hl A.wA A.ml most cn wi ev))):=Kw.ins _ h.wk
  refine ⟨Z0g,?_,?_,?_,?_,h.rw.mono fun _ _ r=>r.kw ok k,h.rk.mono fun _ _ r=>r.kw k,h.rm.monoM fun m e hm r=>r.kw k fun vs q=>?_,r.kw k,h.nd,h.hl.kw ok k,Z2J h.sb h.ob.1,h.ob⟩
  · exact k.i _ _ _ _ _ ok.waits h.wt
  · rw [Z0j (fun z=>by have:=h.wk; rw [← z,h.hw] at this; cases this)]; exact h.hw
  · rw [Z0j (fun z=>by have:=h.wk; rw [← z,h.hk] at this; cases this)]; exact h.hk
  · rw [Z0j (fun z=>by have:=h.wk; rw [← z,h.hm] at this; cases this)]; exact h.hm
  · rw [Z0j (fun z=>by have:=h.wk; rw [← z,q] at this; cases this)]; exact q
theorem WAd.more (ok:c.Ok) (h:WAd K c P most H a A S) {t il:Addr} {n:Str} {vs:List V} {xs:List Vl} (ht:H t=some (.tup [.str n,.ref il])) (hi:H il=some (.lst vs)) (r:A2 (RV H) vs xs) (n1:il≠A.wl) (n2:il≠A.kl) (n3:il≠A.ml) (n4:il∉A.mz.map Prod.snd) (n5:c.bs il=none) :
    WAd K c P most (upd H A.ml (.lst (A.mz.map Prod.fst++[.ref t]))) a { A with mz:=A.mz++[(.ref t,il)] } { S with made:=S.made++[(n,xs)] }:=by
  have k:Kw c.walk H (upd H A.ml (.lst (A.mz.map Prod.fst++[.ref t]))):=Kw.lst _ h.hm
  obtain ⟨m1,m2,m3,m4,m5⟩:=h.nwk
  refine ⟨?_,?_,?_,?_,?_,h.rw.mono fun _ _ r=>r.kw ok k,h.rk.mono fun _ _ r=>r.kw k,?_,h.re.kw k,?_,h.hl.kw ok k,Z2J h.sb h.ob.2.2.2.1,h.ob.1,h.ob.2.1,h.ob.2.2.1,h.ob.2.2.2.1,fun m hm=>by
    rcases (List.mem_append.mp hm) with hm | hm
    · exact h.ob.2.2.2.2 m hm
    · cases List.mem_singleton.mp hm; exact n5⟩
  · rw [Z0j (fun z=>by have:=h.hm; rw [← z,h.wk] at this; cases this)]; exact h.wk
  · rw [Z0j (fun z=>by have:=h.hm; rw [← z,h.wt] at this; cases this)]; exact h.wt
  · rw [Z0j m2]; exact h.hw
  · rw [Z0j m3]; exact h.hk
  · show upd _ _ _ _=some (.lst (List.map Prod.fst (A.mz++[(.ref t,il)])))
    rw [Z0g,List.map_append]; rfl
  · refine A2.snoc (h.rm.monoM fun m e hm r=>r.kw k fun vs q=>?_) ⟨t,vs,rfl,k.t _ _ ht,?_,r.mono fun _ _ r=>r.kw k⟩
    · rw [Z0j (m4 m hm).2.2]; exact q
    · rw [Z0j n3]; exact hi
  · have nd:=h.nd
    show (A.wl::A.kl::A.ml::(A.mz++[(V.ref t,il)]).map Prod.snd).Nodup
    rw [List.map_append]
    show (A.wl::A.kl::A.ml::((A.mz.map Prod.snd)++[il])).Nodup
    have e:A.wl::A.kl::A.ml::((A.mz.map Prod.snd)++[il])=(A.wl::A.kl::A.ml::A.mz.map Prod.snd)++[il]:=rfl
    rw [e,List.nodup_append]
    refine ⟨nd,by simp,fun x hx y hy=>?_⟩
    cases List.mem_singleton.mp hy
    simp only [List.mem_cons] at hx
    rcases hx with rfl | rfl | rfl | hx
    · exact n1.symm
    · exact n2.symm
    · exact n3.symm
    · exact fun z=>n4 (z▸hx)
theorem J3U {t:Addr} {n:Str} {vs:List V} {xs:List Vl} {m:V×Addr} (k:Kw c.walk H (upd H m.2 (.lst vs))) (q1:m.1=.ref t) (q2:H t=some (.tup [.str n,.ref m.2])) (r:A2 (RV H) vs xs):∀ {mz:List (V×Addr)} {md:List (Str×List Vl)} {i:Nat},A2 (RMd H) mz md→mz[i]?=some m→(mz.map Prod.snd).Nodup→A2 (RMd (upd H m.2 (.lst vs))) mz (md.set i (n,xs))
  | _,_,0,.cons r1 rs,hm,m5=>by
    cases hm
    rw [List.map_cons,List.nodup_cons] at m5
    refine .cons ⟨t,vs,q1,k.t _ _ q2,Z0g,r.mono fun _ _ r=>r.kw k⟩ (rs.monoM fun m' e' hm' r'=>r'.kw k fun us q=>?_)
    have ne:m'.2≠m.2:=fun z=>m5.1 (by rw [← z]; exact List.mem_map_of_mem hm')
    rw [Z0j ne]; exact q
  | p::as,_::bs,i+1,.cons r1 rs,hm,m5=>by
    rw [List.map_cons,List.nodup_cons] at m5
    refine .cons (r1.kw k fun us q=>?_) (J3U k q1 q2 r rs hm m5.2)
    rw [Z0j (fun z=>m5.1 (by rw [z]; exact List.mem_map_of_mem (List.mem_of_getElem? (show as[i]?=some m from hm))))]; exact q
theorem WAd.inner (ok:c.Ok) (h:WAd K c P most H a A S) {i:Nat} {m:V×Addr} {n:Str} {vs:List V} {xs:List Vl} (hm:A.mz[i]?=some m) (he:∃ ys,S.made[i]?=some (n,ys)) (r:A2 (RV H) vs xs) :
    WAd K c P most (upd H m.2 (.lst vs)) a A { S with made:=S.made.set i (n,xs) }:=by
  obtain ⟨ys,he⟩:=he
  obtain ⟨e,he',hr⟩:=h.rm.at hm
  rw [he] at he'
  cases he'
  obtain ⟨t,us,q1,q2,q3,q4⟩:=hr
  have k:Kw c.walk H (upd H m.2 (.lst vs)):=Kw.lst _ q3
  obtain ⟨m1,m2,m3,m4,m5⟩:=h.nwk
  have mm:=List.mem_of_getElem? hm
  refine ⟨?_,?_,?_,?_,?_,h.rw.mono fun _ _ r=>r.kw ok k,h.rk.mono fun _ _ r=>r.kw k,?_,h.re.kw k,h.nd,h.hl.kw ok k,Z2J h.sb (h.ob.2.2.2.2 m mm),h.ob⟩
  · rw [Z0j (fun z=>by rw [← z,h.wk] at q3; cases q3)]; exact h.wk
  · rw [Z0j (fun z=>by rw [← z,h.wt] at q3; cases q3)]; exact h.wt
  · rw [Z0j (m4 m mm).1.symm]; exact h.hw
  · rw [Z0j (m4 m mm).2.1.symm]; exact h.hk
  · rw [Z0j (m4 m mm).2.2.symm]; exact h.hm
  · show A2 (RMd _) A.mz (S.made.set i (n,xs))
    exact J3U k q1 q2 r h.rm hm m5
end
section
variable {K:W.Frag} {H:Hp} {c:CS} {B:Hp}
theorem WdO.cb {v:V} {d:Wd} (h:WdO K c H v d):WdO K { c with bs:=B } H v d:=by
  cases h with
  | mk a b t=>exact .mk a b t
theorem HsO.cb {v:V} {d:Hs} (h:HsO K c H v d):HsO K { c with bs:=B } H v d:=by
  cases h with
  | mk a b s t=>exact .mk a b s (t.mono fun _ _ r=>r.cb)
theorem PgO.cb {v:V} {d:Pg} (h:PgO K c H v d):PgO K { c with bs:=B } H v d:=by
  cases h with
  | mk a q t m=>exact .mk a q (t.mono fun _ _ r=>r.cb) m.cb
end
end WK
end
section
namespace PySem
theorem J7B:entryFor table "zip.__getattribute__"=some Builtin.«object.__getattribute__»:=by
  refine entryFor_alias (id':="object.__getattribute__") ?_ ?_ ?_ ?_ <;> first | kernel_rfl | decide +kernel
theorem J2Q:typeLookup (.type "zip") "__getattr__"=pure none:=am_miss_of_fast (by decide +kernel)
theorem J2E:typeLookup (.type "zip") "keys"=pure none:=am_miss_of_fast (by decide +kernel)
theorem J2g {a:Addr} {vs:Array Value} (u:Tok):Meets (Builtin.«object.__getattribute__» ⟨[.ref a,.str "keys" u],[]⟩) (fun A R s=>s.heap.get? a=some { cls:=.type "zip",data:=.fields vs }∧raisesAttr (.ref a) "keys" A R s):=by
  refine .of_wp fun pr wo B Rs st sp=>?_
  obtain ⟨hp,g,d,tk,os⟩:=st
  obtain ⟨hx,hr⟩:=sp
  have hT:(⟨hp,g,d,tk,os⟩:Shared).TypeIs (.ref a) "zip":=⟨_,hx,rfl⟩
  have f1:=J2E; unfold Builtin.«object.__getattribute__»; wp_walk using wpAny_loadPart' hx
  exact wpAny_raiseAttrError hr.1 hr.2 (attrMsg_fits (by decide +kernel) (by decide +kernel))
theorem Z9d {prog:Program} {w:World} {A:Around} {E:Value→Shared→Prop} {s:Shared} {a:Addr} {vs:Array Value} {Q:Option Value→Shared→Prop} (hA:A.handled=none) (hx:s.heap.get? a=some { cls:=.type "zip",data:=.fields vs })
    (h:∀ h' tk,(∀ b o,s.heap.get? b=some o→h'.get? b=some o)→Q none { s with heap:=h',toks:=tk }):wpAny (model prog w) A (getAttr? (.ref a) "keys") Q E s:=by
  obtain ⟨hp,g,d,tk,os⟩:=s
  have hT:(⟨hp,g,d,tk,os⟩:Shared).TypeIs (.ref a) "zip":=⟨_,hx,rfl⟩
  have f1:=sub_AttributeError
  have f3:=F.slot_zip_getattribute.lookup
  have f4:=F.slot_zip_getattribute.bind (.ref a)
  have f5:=J2Q
  unfold getAttr? getAttrBy? getAttrBy
  repeat (any_goals (first | assumption | ((with_reducible show wpAny _ _ (call (Value.builtin "zip.__getattribute__") _ _) _ _ _); refine call_meets F.slot_zip_getattribute hT J7B (F.args_zip_getattribute_2 _ _) (J2g _) ⟨hx,hA,fun h' tk' e hx'=>?_⟩) | wp_step))
  obtain ⟨ty,ut,hy⟩:=hx'.there
  show wpAny _ _ (getattributeRaised _ _ _ _ _ _ _) _ _ _; unfold getattributeRaised; repeat (any_goals (first | assumption | wp_step))
  exact h _ _ hx'.keeps
end PySem
end
section
namespace L2
open PySem PySem.Spec PyProof.Rows
theorem Z4V:entryFor table "dict.update.loop"=some Builtin.«dict.update.loop»:=entryFor_of_tree (by kernel_rfl)
theorem Z2M:plainId "dict.update.loop"=true:=by decide +kernel
def absD (ks:Nat→Key) (ys:Nat→V):Nat→List (Key×V)
  | 0=>[]
  | i+1=>putK (absD ks ys i) (ks i) (ys i)
theorem Z7q (ks:Nat→Key) (ys:Nat→V):∀ i,(absD ks ys i).length≤i
  | 0=>Nat.le_refl _
  | i+1=>by
    have:=Z2L (absD ks ys i) (ks i) (ys i)
    have:=Z7q ks ys i
    show (putK _ _ _).length≤_
    omega
section
variable {P:Program} {w:World} {B:Around} {E:Value→Shared→Prop} {it Z:Addr} {n:Nat} {St:Nat→Array Value→Shared→Prop} {Fin:Array Value→Shared→Prop} {R:Result→Shared→Prop}
theorem J1h (W:Z8U P w B.in1 it Z n St Fin) (fr:∀ (i:Nat) (acc:Array Value) (s:Shared) (h':Heap) (t:Nat),St i acc s→(∀ b o,b≠Z→s.heap.get? b=some o→h'.get? b=some o)→s.heap.objs.size≤h'.objs.size→St i acc { s with heap:=h',toks:=t }) (ks:Nat→Key) (ys:Nat→V)
    (pr:∀ (i:Nat) (acc:Array Value) (v:Value) (s:Shared),i < n→St (i+1) (acc.push v) s→∃ T uk uv o m,v=.ref T∧s.heap.get? T=some o∧o.cls=.type "tuple"∧o.data=.seq #[uk,uv] m∧(Z0N P w).is (ks i) uk=true∧RelV (ys i) uv) (hn:n≤sizeLine) (res:Value) :
    ∀ (k i:Nat) (s:Shared) (acc:Array Value) (vs:List (Key×Value)),n - i=k→i≤n→St i acc s→KV (absD ks ys i) vs→s.heap.DictOf (Z0N P w) Z vs →
    (∀ s' acc' vs',Fin acc' s'→KV (absD ks ys n) vs'→s'.heap.DictOf (Z0N P w) Z vs'→R (.ok (.ret res)) s')→codeAny (model P w) B (.builtin "dict.update.loop" ⟨[.ref Z,.ref it,rawInt i,res],[]⟩) R s:=by
  intro k
  induction k with
  | zero=>
    intro i s acc vs hk hi st kv g q
    have ei:i=n:=Nat.le_antisymm hi (Nat.sub_eq_zero_iff_le.mp hk)
    subst ei
    refine codeAny_builtin Z4V ?_; rw [Around.under_plainId Z2M ⟨[.ref Z,.ref it,rawInt i,res],[]⟩]
    show wpAny (model P w) B.in1 (pyNext (.ref it) >>= _) _ _ s
    refine wpAny_bind (W.done acc s _ _ st fun s' f kz=>?_)
    show wpAny _ _ (Builtin.Dict.addKeywords Z [] >>= _) _ _ _
    exact wpAny_bind (wpAny_pure (wpAny_pure (q s' acc vs f kv (g.at kz))))
  | succ k ih=>
    intro i s acc vs hk hi st kv g q
    have lt:i < n:=by omega
    refine codeAny_builtin Z4V ?_; rw [Around.under_plainId Z2M ⟨[.ref Z,.ref it,rawInt i,res],[]⟩]
    show wpAny (model P w) B.in1 (pyNext (.ref it) >>= _) _ _ s
    refine wpAny_bind (W.item i acc s _ _ lt st fun v s1 st1 kz=>?_)
    obtain ⟨T,uk,uv,⟨oc,odc,oda,osl⟩,m,rfl,hp,hcl,hda,hk1,hv1⟩:=pr i acc v s1 lt st1
    dsimp only at hcl hda
    subst hcl hda
    have g1:=g.at kz
    dsimp only
    refine wpAny_bind (wpAny_holding (wpAny_bind (wpAny_tryCatch ?_)))
    unfold Builtin.Dict.pairItems
    refine wpAny_bind (wpAny_typeOf (T:="tuple") ⟨_,hp,rfl⟩ ?_)
    have e0:(Value.type "tuple" == Value.type "list" || Value.type "tuple" == Value.type "tuple")=true:=by decide
    rw [if_pos e0]
    unfold seqItems?
    refine wpAny_bind (wpAny_bind (wpAny_load hp (wpAny_pure ?_)))
    refine wpAny_pure ?_
    show wpAny (model P w) B.in1 (holding [uk,uv] (dictSet Z uk uv)) _ _ _
    have hl:vs.length≤sizeLine:=by
      rw [← kv.length]
      exact Nat.le_trans (Z7q ks ys i) (Nat.le_trans hi hn)
    refine wpAny_holding (wpAny_dictSet_pairs (hsz:=hl) hk1 g1 fun h' dd hs=>?_)
    refine wpAny_pure ⟨plainId_quiet Z2M ⟨[.ref Z,.ref it,rawInt ((i:Int)+1),res],[]⟩,?_⟩
    exact ih (i+1) _ (acc.push (.ref T)) (stored vs (ks i) uv) (by omega) lt (fr (i+1) _ s1 h' _ st1 (fun b o hb e=>(hs.2 b hb).trans e) (Nat.le_of_eq hs.1.symm)) (KV.put kv (ks i) hv1) dd q
end
end L2
end
section
namespace L2
open PySem PySem.Spec PyProof.Rows
section
variable {P:Program} {w:World} {B:Around} {E:Value→Shared→Prop} {s:Shared} {it:Addr} {n:Nat} {St:Nat→Array Value→Shared→Prop} {Fin:Array Value→Shared→Prop}
theorem J1I {Q:Value→Shared→Prop} (hB:B.handled=none) (hZI:s.heap.objs.size≠it) (W:Z8U P w B.in1.in1 it s.heap.objs.size n St Fin)
    (zz:∀ s,St 0 #[] s→∃ vs,s.heap.get? it=some { cls:=.type "zip",data:=.fields vs })
    (fr:∀ (i:Nat) (acc:Array Value) (s1:Shared) (h':Heap) (t:Nat),St i acc s1→(∀ b o,b≠s.heap.objs.size→s1.heap.get? b=some o→h'.get? b=some o)→s1.heap.objs.size≤h'.objs.size→St i acc { s1 with heap:=h',toks:=t })
    (hs:∀ (A:Around) (s:Shared) (Q:Value→Shared→Prop) (E:Value→Shared→Prop),St 0 #[] s→Q (.ref it) s→wpAny (model P w) A (pyIter (.ref it)) Q E s) (ks:Nat→Key) (ys:Nat→V)
    (pr:∀ (i:Nat) (acc:Array Value) (v:Value) (s:Shared),i < n→St (i+1) (acc.push v) s→∃ T uk uv o m,v=.ref T∧s.heap.get? T=some o∧o.cls=.type "tuple"∧o.data=.seq #[uk,uv] m∧(Z0N P w).is (ks i) uk=true∧RelV (ys i) uv)
    (st:St 0 #[] { s with heap:=s.heap.push { cls:=.type "dict",data:=.dict #[] } })
    (hQ:∀ s' acc vs,Fin acc s'→KV (absD ks ys n) vs→s'.heap.DictOf (Z0N P w) s.heap.objs.size vs→Q (.ref s.heap.objs.size) s') (hn:n≤sizeLine):wpAny (model P w) B (call (.type "dict") [.ref it]) Q E s:=by
  refine callType_codes (Q₁:=fun ob sn=>ob=.ref s.heap.objs.size∧sn={ s with heap:=s.heap.push { cls:=.type "dict",data:=.dict #[] } }) F.kt_called_dict (F.kt_typeCall_dict_1 _) F.entry_dict_init (kt_code_dict_new _ ⟨rfl,rfl⟩) ?_
  rintro ob sn ⟨rfl,rfl⟩
  have hnew:({ s with heap:=s.heap.push { cls:=.type "dict",data:=.dict #[] } }:Shared).heap.DictOf (Z0N P w) s.heap.objs.size []:=Heap.DictOf.new s.heap
  have es:({ s with heap:=s.heap.push { cls:=.type "dict",data:=.dict #[] } }:Shared).heap.objs.size=s.heap.objs.size+1:=Heap.size_push ..
  generalize ({ s with heap:=s.heap.push { cls:=.type "dict",data:=.dict #[] } }:Shared)=s1 at *
  refine ⟨hnew.typeIs,F.args_dict_init_2 _ _,?_⟩; unfold Builtin.«dict.__init__»; refine wpAny_bind ?_; unfold Builtin.Dict.selfAndRest; refine wpAny_bind (wpAny_notOrdered_dict hnew.typeIs ?_)
  show wpAny _ _ (pure (s.heap.objs.size,[Value.ref it])) _ _ _
  refine wpAny_pure ?_
  show wpAny _ _ (Builtin.Dict.updateFrom "dict.__init__" s.heap.objs.size (.ref it) [] .none) _ _ _; unfold Builtin.Dict.updateFrom; obtain ⟨vs,hz⟩:=zz _ st
  refine wpAny_bind (wpAny_typeOf (T:="zip") ⟨_,hz,rfl⟩ ?_)
  rw [if_pos (by decide)]
  refine wpAny_bind (Z9d (show B.in1.in1.handled=none from hB) hz fun h' tk kp=>?_)
  have sz':s1.heap.objs.size≤h'.objs.size:=by
    obtain ⟨o,_,_,ho,_⟩:=hnew
    rw [es]
    exact Heap.lt_size (kp _ _ ho)
  have st':=fr 0 #[] s1 h' tk st (fun b o _ e=>kp b o e) sz'
  show wpAny _ _ (rule _ >>= _) _ _ _
  refine wpAny_bind (wpAny_rule (wpAny_bind (hs _ _ _ _ st' ?_)))
  refine wpAny_pure ⟨plainId_quiet Z2M ⟨[.ref s.heap.objs.size,.ref it,rawInt 0,.none],[]⟩,?_⟩
  exact J1h W fr ks ys pr hn .none n 0 _ #[] [] rfl (Nat.zero_le _) st' .nil (hnew.at fun o e=>kp _ o e) fun s2 acc vs2 f kv g=>⟨rfl,hQ s2 acc vs2 f kv g⟩
end
end L2
end
section
namespace L2
open PySem PySem.Spec PyProof.Rows
noncomputable def zipD (ks:List Str) (ys:List V):List (Key×V):=absD (fun i=>.inr (ks.getD i "")) (fun i=>ys.getD i .non) (min ks.length ys.length)
def J5U (K:W.Frag) (t:TA):TE:=fun σ H Q=>t σ H fun vs H1=>∃ (a b:Addr) (ks:List Str) (ys:List V),vs=[.ref a,.ref b]∧SqL K H1 a (ks.map V.str)∧SqL K H1 b ys∧∀ d H2,H1 d=none→Same H1 H2→H2 d=some (.dK (zipD ks ys))→Q (.ref d) H2
theorem J8e {K:W.Frag} {t:TA} {σ:St} {H:Hp} {Q:VK}:J5U K t σ H Q=t σ H fun vs H1=>∃ (a b:Addr) (ks:List Str) (ys:List V),vs=[.ref a,.ref b]∧SqL K H1 a (ks.map V.str)∧SqL K H1 b ys∧∀ d H2,H1 d=none→Same H1 H2→H2 d=some (.dK (zipD ks ys))→Q (.ref d) H2:=rfl
section
variable {X:Cx} {pins:List (Addr×Obj)} {σ:St} {H1:Hp} {s1:Shared} {l1 l2:Addr} {xs ys:List V}
theorem J1b (I1:Inv X pins σ H1 s1) {i:Nat} {acc:Array Value} {s:Shared} {h2:Heap} {t2:Nat} (h:ZSt X pins σ H1 s1 l1 l2 xs ys i acc s) (kz:∀ b o,b≠s1.heap.objs.size+5→s.heap.get? b=some o→h2.get? b=some o) (es:s.heap.objs.size≤h2.objs.size) :
    ZSt X pins σ H1 s1 l1 l2 xs ys i acc { s with heap:=h2,toks:=t2 }:=by
  obtain ⟨h',tk,Hi,rfl,I,sm,sz,nn,zp,ti,⟨ta,tb,to⟩,j1,j2,ez,ha⟩:=h
  have fp:=(I1.fpOk (b:=s1.heap.objs.size+5) (Nat.le_add_right _ _) (I1.hok.fresh (Nat.le_add_right _ _))).to (nn 5 (by decide))
  obtain ⟨f0,f1,f2,f3,f4,f5⟩:=fp
  refine ⟨h2,t2,Hi,rfl,I.turned (t':=t2) kz f0 f1 f3 f4 f5,sm,Nat.le_trans sz es,nn,?_,kz _ _ (apart (by decide)) ti,⟨ta,tb,kz _ _ (apart (by decide)) to⟩,j1.at fun o e=>kz _ o (Z1N (by decide)) e,j2.at fun o e=>kz _ o (apart (by decide)) e,ez,ha⟩
  rcases zp with ⟨a,b⟩ | ⟨T,f,o,a,b,c⟩
  · exact .inl ⟨a,kz _ _ (apart (by decide)) b⟩
  · exact .inr ⟨T,f,o,kz _ _ (apart (by decide)) a,kz _ _ (fun z=>absurd c (by rw [z]; exact Nat.not_le.mpr (Nat.add_lt_add_left (by decide) _))) b,c⟩
theorem J6h {ks:List Str} {i:Nat} {acc:Array Value} {v:Value} {s:Shared} (h:ZSt X pins σ H1 s1 l1 l2 (ks.map V.str) ys (i+1) (acc.push v) s) :
    ∃ T uk uv o m,v=.ref T∧s.heap.get? T=some o∧o.cls=.type "tuple"∧o.data=.seq #[uk,uv] m∧(Z0N X.prog X.w).is (.inr (ks.getD i "")) uk=true∧RelV (ys.getD i .non) uv:=by
  obtain ⟨h',tk,Hi,rfl,I,sm,sz,nn,zp,ti,to,j1,j2,ez,ha⟩:=h
  have es:acc.size=i:=by rw [Array.size_push] at ez; exact Nat.succ.inj ez
  have hv:(acc.push v)[i]?=some v:=by rw [← es]; simp
  obtain ⟨T,x,y,rfl,hx,hy,hT⟩:=ha i v hv
  rw [List.getElem?_map] at hx
  obtain ⟨k,hk,rfl⟩:=Option.map_eq_some_iff.mp hx
  obtain ⟨_,us,rv,o,go,oc,m,od⟩:=I.hok T _ hT
  obtain ⟨u1,u2,rfl,r1,r2⟩:=rv.two
  refine ⟨T,u1,u2,o,m,rfl,go,oc,od,?_,?_⟩
  · rw [show ks.getD i ""=k by rw [List.getD_eq_getElem?_getD,hk]; rfl]
    exact J0l (k:=.inr k) r1
  · rw [show ys.getD i .non=y by rw [List.getD_eq_getElem?_getD,hy]; rfl]
    exact r2
theorem J1G {x1 x2:Expr} {ta:TA} {p p2 pos pos2:Pos} (hc:X.calm=true) (hg:Gl X "dict") (hg2:Gl X "zip") (hm:X.mg "dict"=none) (hm2:X.mg "zip"=none) (ha:PA X [x1,x2] ta)
    (hs:starEach [x1,x2] X.env=(false,eval x1 X.env)::starEach [x2] X.env:=by rfl) (hpl:(backTo pos2 (starEach [x2] X.env)).any (·.1)=false:=by rfl) (hs2:starEach [.Call (.Name "zip" p2) [x1,x2] [] pos2] X.env=[(false,eval (.Call (.Name "zip" p2) [x1,x2] [] pos2) X.env)]:=by rfl) :
    PE X (.Call (.Name "dict" p) [.Call (.Name "zip" p2) [x1,x2] [] pos2] [] pos) (J5U X.K ta):=by
  intro pins s σ H Q I h
  refine Call_ (Z2A I hg hm rfl (PyProof.Rows.callWith_type1 ?_ hs2 rfl))
  rw [hs2]
  show wpAny (model X.prog X.w) X.A (spliced ((false,eval (.Call (.Name "zip" p2) [x1,x2] [] pos2) X.env)::backTo pos [])) _ _ s; refine Calls.spliced_cons ?_
  refine Call_ (Z2A I hg2 hm2 rfl (PyProof.Rows.callWith_type1 (thn (ha pos2 pins s σ H _ I h) fun us s1 hz=>?_) hs hpl))
  obtain ⟨vs,H1,I1,r1,l1,l2,ks,ys,rfl,q1,q2,q⟩:=hz
  obtain ⟨u1,u2,rfl,ru1,ru2⟩:=r1.two
  cases ru1
  cases ru2
  obtain ⟨its1,rv1,pl1,hz1⟩:=I1.list q1
  obtain ⟨its2,rv2,pl2,hz2⟩:=I1.list q2
  obtain ⟨o1,g1,_⟩:=id pl1.isList
  obtain ⟨o2,g2,_⟩:=id pl2.isList
  have lt1:=Heap.lt_size g1
  have lt2:=Heap.lt_size g2
  refine call_zip_2 pl1.isList pl2.isList fun h' zz tti tto j1 j2 es kk=>Calls.spliced_nil ?_
  have W:=J0L (A:=X.A.in1.in1) (show X.A.in1.in1.handled=none from I1.ok.hd hc) I1 q1 q2 lt1 lt2
  have ez:({ s1 with heap:=h' }:Shared).heap.objs.size=s1.heap.objs.size+5:=es
  have hn:min (ks.map V.str).length ys.length≤sizeLine:=Nat.le_trans (Nat.min_le_left _ _) hz1
  have hm:min (ks.map V.str).length ys.length=min ks.length ys.length:=by rw [List.length_map]
  refine J1I (s:={ s1 with heap:=h' }) (n:=min (ks.map V.str).length ys.length) (St:=ZSt X pins σ H1 s1 l1 l2 (ks.map V.str) ys) (Fin:=ZFin X pins σ H1 s1 (ks.map V.str) ys) (I1.ok.hd hc) (by rw [ez]; exact apart (by decide)) (by rw [ez]; exact W) (fun s' z=>?_)
    (fun i acc s2 h2 t2 z k hz=>J1b I1 z (fun b o hb e=>k b o (by rw [ez]; exact hb) e) hz) (fun A s' Q' E' z hq'=>?_) (fun i=>.inr (ks.getD i "")) (fun i=>ys.getD i .non) (fun i acc v s2 hi z=>J6h z) ?_ (fun s' acc vs fin kv g=>?_) hn
  · obtain ⟨h2,tk,Hi,rfl,_,_,_,_,zp,_⟩:=z
    rcases zp with ⟨_,b⟩ | ⟨T,f,o,b,_⟩
    · exact ⟨_,b⟩
    · exact ⟨_,b⟩
  · obtain ⟨h2,tk,Hi,rfl,_,_,_,_,zp,_⟩:=z
    rcases zp with ⟨_,b⟩ | ⟨T,f,o,b,_⟩
    · exact wpAny_pyIter_zip b hq'
    · have ty:({ s1 with heap:=h2,toks:=tk }:Shared).TypeIs (.ref (s1.heap.objs.size+4)) "zip":=⟨_,b,rfl⟩
      refine wpAny_pyIter_slot ty PySem.F.slot_zip_iter (wpAny_call_entry PySem.F.slot_zip_iter ty PySem.F.entry_zip_iter ?_ (PySem.F.args_zip_iter_1 _))
      exact wpAny_pure ⟨_,rfl,"zip",_,ty,PySem.F.slot_zip_next.lookup,hq'⟩
  · refine ⟨_,s1.toks,H1,rfl,I1.kept (t':=s1.toks) fun b o e=>Heap.get?_push_of_some _ (kk b o e),Same.refl _,?_,fun a _=>I1.hok.fresh (Nat.le_add_right _ _),.inl ⟨rfl,Heap.get?_push_of_some _ zz⟩,Heap.get?_push_of_some _ tti,⟨_,_,Heap.get?_push_of_some _ tto⟩,j1.at fun o e=>Heap.get?_push_of_some _ e,j2.at fun o e=>Heap.get?_push_of_some _ e,rfl,fun k v hk=>by simp at hk⟩
    rw [Heap.size_push]; exact Nat.le_of_eq (by rw [es])
  · obtain ⟨h2,tk,Hi,rfl,I2,sm,nn,ha'⟩:=fin
    rw [ez] at g ⊢
    have fz:=nn 5 (by decide)
    have hl:(zipD ks ys).length≤sizeLine:=by
      have:=Z7q (fun i=>.inr (ks.getD i "")) (fun i=>ys.getD i .non) (min ks.length ys.length)
      rw [hm] at hn
      exact Nat.le_trans this hn
    rw [hm] at kv
    have hb:=I1.big
    refine ⟨.ref _,upd Hi (s1.heap.objs.size+5) (.dK (zipD ks ys)),Inv.grow (s:={ s1 with heap:=h2,toks:=tk }) (t':=tk) (ch:=[s1.heap.objs.size+5]) I2 (fun b hb=>?_) (fun b o _ e=>e) (fun b o e=>?_) (fun b o n e=>?_),rfl,q _ _ (I1.hok.fresh (Nat.le_add_right _ _)) (fun b o e=>?_) Z0g⟩
    · cases List.mem_singleton.mp hb
      exact (I1.fpOk (Nat.le_add_right _ _) (I1.hok.fresh (Nat.le_add_right _ _))).to fz
    · rw [Z0j (Z0m e fz)]; exact e
    · by_cases eb:b=s1.heap.objs.size+5
      · subst eb
        rw [Z0g] at e
        cases e
        exact ⟨.inr (List.mem_singleton.mpr rfl),Z8j hl (beq_false_of_ne (Nat.ne_of_gt (Nat.lt_of_lt_of_le hb (Nat.le_add_right _ _)))) kv g⟩
      · rw [Z0j eb,n] at e; cases e
    · rw [Z0j (Z0m (sm _ _ e) fz)]; exact sm _ _ e
def J4c (xs:List V) (H:Hp) (Q:VK):Prop:=∃ a kvs,xs=[V.ref a]∧H a=some (.dK kvs)∧∀ p,H p=none→Q (.ref p) (upd H p (.dK kvs))
theorem J6x {xs:List V} {H:Hp} {Q:VK}:J4c xs H Q=∃ a kvs,xs=[V.ref a]∧H a=some (.dK kvs)∧∀ p,H p=none→Q (.ref p) (upd H p (.dK kvs)):=rfl
theorem Z8P:Z4q X (.type "dict") J4c:=by
  intro pins s σ H xs us Q I r h
  obtain ⟨a,kvs,rfl,ha,q⟩:=h
  obtain ⟨u,rfl,ru⟩:=Z7l r
  cases ru
  exact J2f I (.inl ha) fun p s' hp I'=>⟨.ref p,_,I',rfl,q p hp⟩
def J3A:V→List V→Hp→VK→Prop:=fun x vs H Q=>∃ (l:Addr) (ks:List Str) (k:Str) (j:Nat),x=.ref l∧vs=[.str k]∧H l=some (.lst (ks.map V.str))∧ks[j]?=some k∧(∀ i,i < j→ks[i]?≠some k)∧Q (.int j) H
theorem J6L {x:V} {vs:List V} {H:Hp} {Q:VK}:J3A x vs H Q=∃ (l:Addr) (ks:List Str) (k:Str) (j:Nat),x=.ref l∧vs=[.str k]∧H l=some (.lst (ks.map V.str))∧ks[j]?=some k∧(∀ i,i < j→ks[i]?≠some k)∧Q (.int j) H:=rfl
theorem Z3E:∀ ks:List Str,(ks.map V.str).all Z4I=true
  | []=>rfl
  | _::ks=>by rw [List.map_cons,List.all_cons,Z3E ks]; rfl
theorem Z8A:MtM X "list.index" J3A:=by
  intro pins s σ H x vs v us Q I rx rv h
  obtain ⟨l,ks,k,j,rfl,rfl,hH,hj,hno,q⟩:=h
  cases rx
  obtain ⟨u,rfl,ru⟩:=rv.one
  obtain ⟨z,its,n,r,hl,e⟩:=I.lstM hH
  have hn:=Z5o
  have hjl:j < its.length:=by
    rw [← hl,List.length_map]
    exact (List.getElem?_eq_some_iff.mp hj).1
  have at_:∀ (m:Nat) (hm:m < its.toArray.size),∃ k',ks[m]?=some k'∧eqU (.str k) its.toArray[m]=eqV (.str k') (.str k):=fun m hm=>by
    have hm':m < its.length:=by simpa using hm
    have hk:m < ks.length:=by rw [← hl,List.length_map] at hm'; exact hm'
    obtain ⟨w,gw,rw'⟩:=r.get (i:=m) (x:=.str ks[m]) (by rw [List.getElem?_map,List.getElem?_eq_getElem hk]; rfl)
    refine ⟨ks[m],List.getElem?_eq_getElem hk,?_⟩
    have:its.toArray[m]=w:=by
      rw [List.getElem?_eq_getElem hm'] at gw
      simpa using gw
    rw [this,J0o rw' rfl]
  refine call_meets F.slot_list_index ⟨_,e,rfl⟩ F.entry_list_index (F.args_list_index_2 _ _) (SeqAt.list_indexAt l its.toArray n none #[] u (eqU (.str k)) j (by simpa using hjl) (by omega) ?_ ?_) ⟨e,fun y hy=>Z4v ru rfl r (Z3E ks) y (by simpa using hy),?_⟩
  · obtain ⟨k',hk',e'⟩:=at_ j (by simpa using hjl)
    rw [e']
    rw [hj] at hk'
    cases hk'
    simp [eqV]
  · intro m hm hmj
    obtain ⟨k',hk',e'⟩:=at_ m hm
    rw [e']
    have:=hno m hmj
    rw [hk'] at this
    have:k'≠k:=fun z=>this (by rw [z])
    simp [eqV,this]
  · exact ⟨.int j,H,I.kept (t':=s.toks+1) (fun b o e=>e),⟨_,rfl⟩,q⟩
end
end L2
end
section
namespace L2
open PySem PySem.Spec PyProof.Rows
structure FnD (K:W.Frag) (mg:Str→Option Value) (x:Str) (st:Stmt) (d:V):Prop where
  ex:∃ (f dA:Addr) (oc:Value) (od:Option Addr) (kV doc pm:Value) (an:Option Addr) (cdv ct:Value) (osl:Array (Option Value)) (o:Obj) (u:Value) (n:Nat),
    K.lookup f=some ⟨oc,od,.func (W.fnOf x x (Z0n st) (Z0l st) (Z0d st) (.ref dA) kV doc pm an cdv ct),osl⟩∧W.codeIn K cdv x=true∧W.keepIn K (.ref f)=true∧mg x=some (.ref f) ∧
    K.lookup dA=some o∧o.data=.seq #[u] n∧RelV d u
structure HasF (P:Program) (w:World) (K:W.Frag) (mg:Str→Option Value) (base:Heap) (k:Nat) (x:Str) (ps:List Str) (sp:Sp) (dvs:List V):Prop where
  ex:∃ f fd ds,FnOk P w K mg base CX0 k f fd ps sp∧Binds K fd ps ds∧Vals dvs ds∧W.keepIn K (.ref f)=true∧mg x=some (.ref f)
section
variable {P:Program} {w:World} {K:W.Frag} {mg:Str→Option Value} {base:Heap}
theorem J5R {h:Heap} {x:Str} {st:Stmt} {f dA:Addr} {oc:Value} {od an:Option Addr} {osl:Array (Option Value)} {kV doc pm cdv ct:Value} {o:Obj} {u:Value} {n:Nat} {d:V} (X:K.In h) (G:h.Ns mainGlobals mg) (a:W.nsIn K mainGlobals x=some (some (.ref f)))
    (l:K.lookup f=some ⟨oc,od,.func (W.fnOf x x (Z0n st) (Z0l st) (Z0d st) (.ref dA) kV doc pm an cdv ct),osl⟩) (c:W.codeIn K cdv x=true) (k:W.keepIn K (.ref f)=true) (lo:K.lookup dA=some o) (ho:o.data=.seq #[u] n) (r:RelV d u):FnD K mg x st d:=
  ⟨f,dA,oc,od,kV,doc,pm,an,cdv,ct,osl,o,u,n,l,c,k,W.mg_of X G a,lo,ho,r⟩
theorem Has.ofD {x:Str} {st:Stmt} {N ps:List Str} {k:Nat} {sp:Sp} {d:V} (F:FnD K mg x st d) (S:Z0o N ps (Z0d st))
    (hb:∀ (kV doc pm:Value) (an:Option Addr) (cdv ct:Value) (dA:Addr) (u:Value) (us:List Value),us.length=ps.length →
      ∃ k,bindArgs (W.fnOf x x (Z0n st) (Z0l st) (Z0d st) (.ref dA) kV doc pm an cdv ct) ⟨us,[]⟩=seqItems? (.ref dA) >>= k∧k (some #[u])=pure (ps.zip us))
    (hb2:∀ (kV doc pm:Value) (an:Option Addr) (cdv ct:Value) (dA:Addr) (u:Value) (us:List Value),(us++[u]).length=ps.length →
      ∃ k,bindArgs (W.fnOf x x (Z0n st) (Z0l st) (Z0d st) (.ref dA) kV doc pm an cdv ct) ⟨us,[]⟩=seqItems? (.ref dA) >>= k∧k (some #[u])=pure (ps.zip (us++[u])))
    (len:∀ vs H Q E,sp vs H Q E→vs.length=ps.length)
    (hbody:∀ (f:Addr) (cdv:Value) (A:Around) (outer:List Env) (s:Shared) (H:Hp) (vs:List V) (Q:VK) (E:XK),Room k (A.deeper (envOfC x (Z0d st) s.heap.objs.size f cdv))→sp vs H Q E →
      ∃ t,PSs (cxOf CX0 P w K mg base N x (Z0d st) f cdv A outer s H E).nox (Z0l st) t∧t { nx:=fun _ H'=>Q .non H',rt:=Q } (Z4U N vs) H):Has P w K mg base (k+1) x ps sp∧HasF P w K mg base (k+1) x ps sp [d]:=by
  obtain ⟨f,dA,oc,od,kV,doc,pm,an,cdv,ct,osl,o,u,n,lk,hcd,kp,m,lo,ho,r⟩:=F.ex
  have ok:FnOk P w K mg base CX0 (k+1) f (W.fnOf x x (Z0n st) (Z0l st) (Z0d st) (.ref dA) kV doc pm an cdv ct) ps sp:=J5X lk hcd S len fun A outer s H vs Q E hr hsp=>by
    obtain ⟨t,h,q⟩:=hbody f cdv A outer s H vs Q E hr hsp
    exact ⟨t,h.nox,q⟩
  refine ⟨⟨f,_,ok,fun s us hK hl=>?_,kp,m⟩,⟨f,_,[u],ok,fun s us hK hl=>?_,.cons r .nil,kp,m⟩⟩
  · rw [List.append_nil] at hl ⊢
    obtain ⟨kk,h1,h2⟩:=hb kV doc pm an cdv ct dA u us hl
    exact BindsTo.of_defaults rfl (hK _ _ lo) ho h1 h2
  · obtain ⟨kk,h1,h2⟩:=hb2 kV doc pm an cdv ct dA u us hl
    exact BindsTo.of_defaults rfl (hK _ _ lo) ho h1 h2
end
section
variable {X:Cx} {x:Str} {ps:List Str} {sp:Sp} {k j:Nat} {e:Expr} {es:List Expr} {t:TA} {p pos:Pos} {dvs:List V}
theorem J5b (h:HasF X.prog X.w X.K X.mg X.base k x ps sp dvs) (hr:Room j X.A) (hk:k≤j) (hg:Gl X x) (ha:PA X (e::es) t) (hdb:(x == ("__debug__":Str))=false:=by decide)
    (he:starEach (e::es) X.env=(false,eval e X.env)::starEach es X.env:=by rfl) (hpl:(backTo pos (starEach es X.env)).any (·.1)=false:=by rfl):PE X (.Call (.Name x p) (e::es) [] pos) (J2A sp dvs E0 t):=by
  obtain ⟨f,fd,ds,F,b,hd,kp,m⟩:=h.ex
  exact J0q F (hr.mono hk) hg m kp b hd Z8V ha hdb he hpl
end
theorem Z5u {K:W.Frag} {C C':Addr} {m q q':Str} {st st':Stmt} (a:MFn K C m q st) (b:MFn K C' m q' st') (h:q≠q'):C≠C':=by
  intro e
  subst e
  obtain ⟨f,fd,F,M⟩:=a.ex
  obtain ⟨f',fd',F',M'⟩:=b.ex
  have e1:=M.at_.symm.trans M'.at_
  cases e1
  obtain ⟨oc,od,kV,doc,pm,an,cdv,ct,osl,e,lk,hcd⟩:=F.ex
  obtain ⟨oc',od',kV',doc',pm',an',cdv',ct',osl',e',lk',hcd'⟩:=F'.ex
  rw [lk] at lk'
  have:=congrArg (fun o:Option Obj=>match o with | some ⟨_,_,.func fd,_⟩=>some fd.qualname | _=>none) lk'
  subst e e'
  exact h (by simpa [W.fnOf] using this)
end L2
end
section
namespace P42
open PySem P15 PW
def num (i:Int):Tm:=.mk .number (.int i) []
def tru:Tm:=.mk .truth (.bl true) []
def nam (x:Str):Tm:=.mk .name (.str x) []
def slf:Tm:=.mk .self .non []
def two (g:Str) (a b:Tm):Tm:=.mk .two (.str g) [a,b]
def cal (t:Tm) (w:Str) (a:Tm):Tm:=.mk .call (.str w) [t,a]
def eld (w:Str) (a:Tm):Tm:=.mk .elder (.str w) [a]
def lessT:Tm:=two "-" (nam "n") (num 1)
def Z3v (i:Nat) (t:Tm):Tm:=match i with
  | 0=>.mk .lt (.str "k") [num 1,t]
  | 1=>.mk .iff .non [tru,t,num 0]
  | 2=>two "+" (num 0) t
  | _=>two ";" (num 3) t
def Z2n:List Nat→Tm→Tm
  | [],t=>t
  | i::l,t=>Z2n l (Z3v i t)
def Z3L (leaf more:Tm):Tm:=.mk .iff .non [two "<" (nam "n") (num 1),leaf,more]
inductive Oc | val (v:Vl) | stop (e:List Str)
inductive Os | vals (vs:List Vl) | stop (e:List Str)
def Res (W:List Wt) (k:List Vl) (m:List (Str×List Vl)) (c w:Nat) (S:Ws):Oc→Prop
  | .val v=>S=⟨W,v::k,m,c,w,none⟩
  | .stop e=>S.ended=some e∧S.made=m∧S.counted=c
def Ress (W:List Wt) (k:List Vl) (m:List (Str×List Vl)) (c w:Nat) (S:Ws):Os→Prop
  | .vals vs=>S=⟨W,vs.reverse++k,m,c,w,none⟩
  | .stop e=>S.ended=some e∧S.made=m∧S.counted=c
def TO (P:Pg) (most b:Nat) (t:Tm) (s:Sc) (m:List (Str×List Vl)) (c w:Nat) (o:Oc) (c':Nat):Prop:=
  ∃ n,n≤b∧∀ W k,∃ S,Steps P most n ⟨.walk t s::W,k,m,c,w,none⟩ S∧Res W k m c' w S o
def TOs (P:Pg) (most b:Nat) (ts:List Tm) (s:Sc) (m:List (Str×List Vl)) (c w:Nat) (o:Os) (c':Nat):Prop:=
  ∃ n,n≤b∧∀ W k,∃ S,Steps P most n ⟨ts.map (Wt.walk · s)++W,k,m,c,w,none⟩ S∧Ress W k m c' w S o
def CO (P:Pg) (most b:Nat) (h wd:Str) (x:Vl) (vs:List Vl) (m:List (Str×List Vl)) (c w:Nat) (o:Oc) (c':Nat):Prop:=
  ∃ n,n≤b∧∀ W k,∃ S S',Called P most h wd x vs ⟨W,k,m,c,w,none⟩ S∧Steps P most n S S'∧Res W k m c' w S' o
section
variable {P:Pg} {most:Nat} {b b1 b2 b' c c1 c2 c' w:Nat} {s:Sc} {m:List (Str×List Vl)} {v v1 v2:Vl} {t:Tm} {ts:List Tm} {vs:List Vl} {o:Oc} {e:List Str}
theorem TO.mono (h:TO P most b t s m c w o c') (hb:b≤b'):TO P most b' t s m c w o c':=by
  obtain ⟨n,a,q⟩:=h; exact ⟨n,Nat.le_trans a hb,q⟩
theorem CO.mono {h wd:Str} {x:Vl} (a:CO P most b h wd x vs m c w o c') (hb:b≤b'):CO P most b' h wd x vs m c w o c':=by
  obtain ⟨n,a,q⟩:=a; exact ⟨n,Nat.le_trans a hb,q⟩
theorem Z2w (h:Eval P most b t s m c w v m c'):TO P most b t s m c w (.val v) c':=by
  obtain ⟨n,a,q⟩:=h; exact ⟨n,a,fun W k=>⟨_,q W k,rfl⟩⟩
theorem Z2t:TOs P most 0 [] s m c w (.vals []) c:=⟨0,Nat.le_refl _,fun _ _=>⟨_,.refl,rfl⟩⟩
theorem Z2s (h:TO P most b t s m c w (.stop e) c'):TOs P most b (t::ts) s m c w (.stop e) c':=by
  obtain ⟨n,a,q⟩:=h
  refine ⟨n,a,fun W k=>?_⟩
  obtain ⟨S,h1,h2⟩:=q (ts.map (Wt.walk · s)++W) k
  exact ⟨S,h1,h2⟩
theorem Z0K (h:TO P most b1 t s m c w (.val v) c1) (hs:TOs P most b2 ts s m c1 w (.vals vs) c'):TOs P most (b1+b2) (t::ts) s m c w (.vals (v::vs)) c':=by
  obtain ⟨n,a,q⟩:=h
  obtain ⟨n',a',q'⟩:=hs
  refine ⟨n+n',Nat.add_le_add a a',fun W k=>?_⟩
  obtain ⟨S,h1,h2⟩:=q (ts.map (Wt.walk · s)++W) k
  cases h2
  obtain ⟨S',h3,h4⟩:=q' W (v::k)
  cases h4
  refine ⟨_,h1.trans h3,?_⟩
  show _=_
  rw [List.reverse_cons,List.append_assoc]
  rfl
theorem Z3y (h:TO P most b1 t s m c w (.val v) c1) (hs:TOs P most b2 ts s m c1 w (.stop e) c'):TOs P most (b1+b2) (t::ts) s m c w (.stop e) c':=by
  obtain ⟨n,a,q⟩:=h
  obtain ⟨n',a',q'⟩:=hs
  refine ⟨n+n',Nat.add_le_add a a',fun W k=>?_⟩
  obtain ⟨S,h1,h2⟩:=q (ts.map (Wt.walk · s)++W) k
  cases h2
  obtain ⟨S',h3,h4⟩:=q' W (v::k)
  exact ⟨_,h1.trans h3,h4⟩
theorem J6P {x:Str} {p q:Tm} (hb:s.bound.length≤100) (h:Eval P most b1 p s m c w v1 m c1) (h2:TO P most b2 q ⟨s.house,s.own,putS x v1 s.bound⟩ m c1 w o c'):TO P most (b1+b2+2) (.mk .lt (.str x) [p,q]) s m c w o c':=by
  obtain ⟨n,a,g⟩:=h
  obtain ⟨n',a',g'⟩:=h2
  refine ⟨(n+(n'+1))+1,by omega,fun W k=>?_⟩
  obtain ⟨S,h1,h2⟩:=g' W k
  exact ⟨S,.step (.cho (by exact trivial) (by simp)) ((g _ _).trans (.step (.lt hb) h1)),h2⟩
theorem J5t {p q r:Tm} {d:Bool} (h:Eval P most b1 p s m c w (.bl d) m c1) (h2:TO P most b2 (if d then q else r) s m c1 w o c'):TO P most (b1+b2+2) (.mk .iff .non [p,q,r]) s m c w o c':=by
  obtain ⟨n,a,g⟩:=h
  obtain ⟨n',a',g'⟩:=h2
  refine ⟨(n+(n'+1))+1,by omega,fun W k=>?_⟩
  obtain ⟨S,h1,h2⟩:=g' W k
  exact ⟨S,.step (.cho (by exact trivial) (by simp)) ((g _ _).trans (.step .iff h1)),h2⟩
theorem J7o {p q:Tm} (h:Eval P most b1 p s m c w v1 m c1) (h2:TO P most b2 q s m c1 w o c'):TO P most (b1+b2+2) (two ";" p q) s m c w o c':=by
  obtain ⟨n,a,g⟩:=h
  obtain ⟨n',a',g'⟩:=h2
  refine ⟨(n+(n'+1))+1,by omega,fun W k=>?_⟩
  obtain ⟨S,h1,h2⟩:=g' W k
  exact ⟨S,.step (.cho rfl (by simp)) ((g _ _).trans (.step .seq h1)),h2⟩
theorem Z8C {f:Fm} {l:Lb} {ps:List Tm} (hc:¬ Z3n f l) (hl:¬ leaf f) (hp:ps.length≤10) (h:TOs P most b ps s m c w (.stop e) c'):TO P most (b+1) (.mk f l ps) s m c w (.stop e) c':=by
  obtain ⟨n,a,g⟩:=h
  refine ⟨n+1,by omega,fun W k=>?_⟩
  obtain ⟨S,h1,h2⟩:=g (.finish (.mk f l ps) s::W) k
  exact ⟨S,.step (.fin hc hl hp) h1,h2⟩
theorem Z9w {g:Str} {p q:Tm} {e:List Str} (hg:g≠";") (h:TOs P most b [p,q] s m c w (.vals [v1,v2]) c') (ht:Two g v1 v2 (some v) e):TO P most (b+2) (two g p q) s m c w (.val v) c':=by
  obtain ⟨n,a,f⟩:=h
  refine ⟨(n+1)+1,by omega,fun W k=>?_⟩
  obtain ⟨S,h1,h2⟩:=f (.finish (two g p q) s::W) k
  cases h2
  exact ⟨_,.step (.fin hg (fun z=>z) (by simp)) (h1.trans (.one (.two ht))),rfl⟩
theorem J1F {g:Str} {p q:Tm} {e:List Str} (hg:g≠";") (h:TOs P most b [p,q] s m c w (.vals [v1,v2]) c') (ht:Two g v1 v2 none e):TO P most (b+2) (two g p q) s m c w (.stop e) c':=by
  obtain ⟨n,a,f⟩:=h
  refine ⟨(n+1)+1,by omega,fun W k=>?_⟩
  obtain ⟨S,h1,h2⟩:=f (.finish (two g p q) s::W) k
  cases h2
  exact ⟨_,.step (.fin hg (fun z=>z) (by simp)) (h1.trans (.one (.refuse ht))),rfl,rfl,rfl⟩
theorem Z4T {g:Str} {p q:Tm} (hg:g≠";") (h:TOs P most b [p,q] s m c w (.stop e) c'):TO P most (b+2) (two g p q) s m c w (.stop e) c':=
  (Z8C (f:=.two) (l:=.str g) hg (fun z=>z) (by simp) h).mono (by omega)
theorem Z5C {g:Str} {p q:Tm} (h:TOs P most b [p,q] s m c w (.stop e) c'):TO P most (b+2) (cal p g q) s m c w (.stop e) c':=
  (Z8C (f:=.call) (l:=.str g) (fun z=>z) (fun z=>z) (by simp) h).mono (by omega)
theorem Z5X {f h:Str} {p q:Tm} {n:Nat} {inn:List Vl} (h1:TOs P most b1 [p,q] s m c w (.vals [.thing n,v]) c1) (hm:m[n]?=some (h,inn)) (hc:CO P most b2 h f (.thing n) [v] m c1 w o c'):TO P most (b1+b2+2) (cal p f q) s m c w o c':=by
  obtain ⟨i,a,g⟩:=h1
  obtain ⟨i',a',g'⟩:=hc
  refine ⟨(i+(i'+1))+1,by omega,fun W k=>?_⟩
  obtain ⟨S,h1,h2⟩:=g (.finish (cal p f q) s::W) k
  cases h2
  obtain ⟨S1,S2,e1,e2,e3⟩:=g' W k
  exact ⟨S2,.step (.fin (fun z=>z) (fun z=>z) (by simp)) (h1.trans (.step (.call (vs:=[v]) rfl (by simp) hm e1) e2)),e3⟩
theorem J3q {f h e:Str} {q:Tm} {es:List Str} {x:Vl} (h1:Eval P most b1 q s m c w v m c1) (hh:s.house=some h) (ho:s.own=some x) (hch:Chain P h (e::es)) (hel:es.length < 100) (hc:CO P most b2 e f x [v] m c1 w o c'):TO P most (b1+b2+2) (eld f q) s m c w o c':=by
  obtain ⟨i,a,g⟩:=h1
  obtain ⟨i',a',g'⟩:=hc
  refine ⟨(i+(i'+1))+1,by omega,fun W k=>?_⟩
  obtain ⟨S1,S2,e1,e2,e3⟩:=g' W k
  exact ⟨S2,.step (.fin (fun z=>z) (fun z=>z) (by simp)) ((g _ k).trans (.step (.elder (vs:=[v]) rfl (by simp) hh ho hch hel e1) e2)),e3⟩
end
def Fd (P:Pg) (h wd h':Str) (body:Tm):Prop:=∃ es i d,Chain P h es∧es.length≤100∧Z5b P wd (h::es) h' i d∧d.params=[(("n":Str),("number":Str))]∧d.body=body
def Sn (h:Str) (x:Vl) (n:Int) (s:Sc):Prop:=s.house=some h∧s.own=some x∧(s.bound=[(("n":Str),Vl.int n)]∨s.bound=[(("n":Str),Vl.int n),(("k":Str),Vl.int 1)])
def run (most:Nat):Nat→List Nat→Option (List Str)×Nat
  | c,[]=>(none,c)
  | c,w::l=>if c=most then (some ["dry"],c) else if w=40 then (some ["deep"],c+1) else run most (c+1) l
def outc (lv:Oc) (r:Option (List Str)×Nat):Oc:=match r.1 with
  | none=>lv
  | some e=>.stop e
def Sm (o:Oc):Prop:=(∃ e,o=.stop e)∨∃ a:Int,o=.val (.int a)∧0≤a∧a≤1000
theorem Z5Q {lv:Oc} {r:Option (List Str)×Nat} (h:Sm lv):Sm (outc lv r):=by
  unfold outc
  split
  · exact h
  · exact .inl ⟨_,rfl⟩
section
variable {P:Pg} {most:Nat} {b b1 b2 b' c c1 c2 c' w:Nat} {s:Sc} {m:List (Str×List Vl)} {v v1 v2:Vl} {t:Tm} {ts:List Tm} {vs:List Vl} {o:Oc} {e:List Str} {h h' wd:Str} {x:Vl} {n:Int} {leaf more body:Tm} {lv:Oc} {l:List Nat}
theorem Sn.nn (q:Sn h x n s):getS "n" s.bound=some (.int n):=by
  obtain ⟨_,_,a | a⟩:=q <;> rw [a] <;> rfl
theorem Sn.k (q:Sn h x n s):Sn h x n ⟨s.house,s.own,putS "k" (.int 1) s.bound⟩:=by
  obtain ⟨a1,a2,a | a⟩:=q
  · refine ⟨a1,a2,.inr ?_⟩; rw [a]; rfl
  · refine ⟨a1,a2,.inr ?_⟩; rw [a]; rfl
theorem Sn.le (q:Sn h x n s):s.bound.length≤100:=by
  obtain ⟨_,_,a | a⟩:=q <;> rw [a] <;> simp
theorem J2G (i:Nat) (ho:Sm o) (hs:Sn h x n s) (ht:∀ s,Sn h x n s→TO P most b t s m c w o c'):TO P most (b+4) (Z3v i t) s m c w o c':=by
  match i with
  | 0=>exact (J6P hs.le Z2k (ht _ hs.k)).mono (by omega)
  | 1=>exact (J5t (d:=true) J7v (by rw [if_pos rfl]; exact ht _ hs)).mono (by omega)
  | 2=>
    rcases ho with ⟨e,rfl⟩ | ⟨a,rfl,h0,h1⟩
    · exact (Z4T (by decide) (Z3y (Z2w Z2k) (Z2s (ht _ hs)))).mono (by omega)
    · refine (Z9w (e:=[]) (by decide) (Z0K (Z2w Z2k) (Z0K (ht _ hs) Z2t)) ?_).mono (b:=1+(b+0)+2) (by omega)
      have:=Two.add (a:=0) (b:=a) (by constructor <;> omega) (by constructor <;> omega) (by constructor <;> omega)
      rw [Int.zero_add] at this
      exact this
  | i+3=>exact (J7o Z2k (ht _ hs)).mono (by omega)
theorem Z3N:∀ {is:List Nat} {t:Tm} {b:Nat} {s:Sc},Sm o→Sn h x n s→(∀ s,Sn h x n s→TO P most b t s m c w o c')→TO P most (b+4 * is.length) (Z2n is t) s m c w o c'
  | [],_,_,_,_,hs,ht=>ht _ hs
  | i::is,t,b,s,ho,hs,ht=>by
    refine (Z3N (is:=is) (t:=Z3v i t) (b:=b+4) ho hs fun s hs=>J2G i ho hs ht).mono ?_
    rw [List.length_cons]; omega
theorem J1j (hn:0≤n) (h5:n≤1000) (hs:Sn h x n s):Eval P most 4 (two "<" (nam "n") (num 1)) s m c w (.bl (decide (n < 1))) m c:=
  J4h (e:=[]) (by decide) (Z3S hs.nn) Z2k (.less (by constructor <;> omega) (by constructor <;> omega))
theorem Z7z (hn:0≤n) (h5:n≤1000) (hs:Sn h x n s):Eval P most 4 lessT s m c w (.int (n - 1)) m c:=
  J4h (e:=[]) (by decide) (Z3S hs.nn) Z2k (.sub (by constructor <;> omega) (by constructor <;> omega) (by constructor <;> omega))
theorem J0R (hs:Sn h x 0 s) (hl:TO P most b leaf s m c w o c'):TO P most (b+6) (Z3L leaf more) s m c w o c':=
  (J5t (J1j (Int.le_refl _) (by decide) hs) (by rw [if_pos (by decide)]; exact hl)).mono (by omega)
theorem Z7N (hn:1≤n) (h5:n≤1000) (hs:Sn h x n s) (hl:TO P most b more s m c w o c'):TO P most (b+6) (Z3L leaf more) s m c w o c':=
  (J5t (J1j (by omega) h5 hs) (by rw [if_neg (by simpa using (by omega:1≤n))]; exact hl)).mono (by omega)
theorem Z4h (hc:c≤most) (hw:w≤40) (hf:Fd P h wd h' body) (hb:c < most→w < 40→∀ s,Sn h' x n s→TO P most b body s m (c+1) (w+1) (outc lv (run most (c+1) l)) (run most (c+1) l).2):CO P most (b+1) h wd x [.int n] m c w (outc lv (run most c (w::l))) (run most c (w::l)).2:=by
  by_cases e1:c=most
  · have:run most c (w::l)=(some [("dry":Str)],c):=by unfold run; rw [if_pos e1]
    rw [this]
    exact ⟨0,by omega,fun W k=>⟨_,_,.dry (by omega),.refl,rfl,rfl,rfl⟩⟩
  by_cases e2:w=40
  · have:run most c (w::l)=(some [("deep":Str)],c+1):=by unfold run; rw [if_neg e1,if_pos e2]
    rw [this]
    exact ⟨0,by omega,fun W k=>⟨_,_,.deep (by omega) (by omega),.refl,rfl,rfl,rfl⟩⟩
  have:run most c (w::l)=run most (c+1) l:=by rw [show run most c (w::l)=if c=most then _ else if w=40 then _ else run most (c+1) l from rfl,if_neg e1,if_neg e2]
  rw [this]
  obtain ⟨es,i,d,f1,f2,f3,f4,f5⟩:=hf
  have hsn:Sn h' x n ⟨some h',some x,Z2V [] ((d.params.map Prod.fst).zip [.int n])⟩:=by
    refine ⟨rfl,rfl,.inl ?_⟩; rw [f4]; rfl
  obtain ⟨N,a,g⟩:=hb (by omega) (by omega) _ hsn
  subst f5
  generalize hr:outc lv (run most (c+1) l)=o at *
  match o with
  | .val v=>
    refine ⟨N+1,by omega,fun W k=>?_⟩
    obtain ⟨S,g1,g2⟩:=g (.leave::W) k
    cases g2
    exact ⟨_,_,.go (by omega) (by omega) f1 f2 f3 (by rw [f4]; decide),g1.snoc .leave,rfl⟩
  | .stop e=>
    refine ⟨N,by omega,fun W k=>?_⟩
    obtain ⟨S,g1,g2⟩:=g (.leave::W) k
    exact ⟨_,_,.go (by omega) (by omega) f1 f2 f3 (by rw [f4]; decide),g1,g2⟩
end
end P42
end
section
namespace P42
open PySem P15 PW
def Z4o (leaf:Tm) (lv:Oc):Prop:=∀ P most s m c w,TO P most 4 leaf s m c w lv c
def farT:Tm:=num 999999999
def nought:List Str:=["refused","nought"]
def great:List Str:=["refused","great"]
theorem J8W:Z4o (num 5) (.val (.int 5)):=fun _ _ _ _ _ _=>(Z2w Z2k).mono (by omega)
theorem J9a:Z4o (two "/" farT (num 0)) (.stop nought):=fun _ _ _ _ _ _=>
  J1F (by decide) (Z0K (Z2w Z2k) (Z0K (Z2w Z2k) Z2t)) (.nought (by constructor <;> omega))
theorem J8y:Z4o (two "*" farT farT) (.stop great):=fun _ _ _ _ _ _=>
  J1F (by decide) (Z0K (Z2w Z2k) (Z0K (Z2w Z2k) Z2t)) (.great (by constructor <;> omega) (by constructor <;> omega) (fun z=>absurd z.2 (by decide)))
def lvN (lv:Oc) (e n:Nat):Oc:=match lv with
  | .val (.int a)=>.val (.int (a+(n * e:Nat)))
  | o=>o
def Lv (lv:Oc):Prop:=lv=.val (.int 5)∨∃ e,lv=.stop e
theorem J2Z {lv:Oc} {e:Nat} (h:Lv lv):lvN lv e 0=lv:=by
  rcases h with rfl | ⟨_,rfl⟩
  · show Oc.val (.int (5+((0 * e:Nat):Int)))=_
    rw [Nat.zero_mul]; rfl
  · rfl
theorem J7d {lv:Oc} {n k:Nat} (h:Lv lv):lvN lv 0 n=lvN lv 0 k:=by
  rcases h with rfl | ⟨_,rfl⟩ <;> rfl
theorem J0f {lv:Oc} {e n:Nat} (h:Lv lv) (he:e≤2) (hn:n≤50):Sm (lvN lv e n):=by
  rcases h with rfl | ⟨d,rfl⟩
  · refine .inr ⟨_,rfl,?_⟩
    have:n * e≤50 * 2:=Nat.mul_le_mul hn he
    omega
  · exact .inl ⟨d,rfl⟩
def opA:Nat→Nat→List Nat
  | 0,w=>[w]
  | n+1,w=>w::opA n (w+1)
def opB:Nat→Nat→List Nat
  | 0,w=>[w]
  | n+1,w=>w::(w+1)::opB n (w+1)
section
variable {P:Pg} {most:Nat} {b b1 b2 b' c c1 c2 c' w i e n:Nat} {s:Sc} {m:List (Str×List Vl)} {v v1 v2:Vl} {t:Tm} {o:Oc} {h h' wd:Str} {x:Vl} {leaf more body:Tm} {lv:Oc} {l:List Nat} {inn:List Vl} {r:Option (List Str)×Nat} {is:List Nat}
theorem J5r (hl:Lv lv) (he:e≤2) (hn:n≤50) (ht:TO P most b t s m c w (outc (lvN lv e n) r) c'):TO P most (b+4) (two "+" t (num e)) s m c w (outc (lvN lv e (n+1)) r) c':=by
  unfold outc at *
  match r,ht with
  | (some d,_),ht=>exact (Z4T (by decide) (Z2s ht)).mono (by omega)
  | (none,_),ht=>
    rcases hl with rfl | ⟨d,rfl⟩
    · have:n * e≤50 * 2:=Nat.mul_le_mul hn he
      have h2:=Two.add (a:=5+(n * e:Nat)) (b:=e) (by constructor <;> omega) (by constructor <;> omega) (by constructor <;> omega)
      have e1:(5:Int)+(n * e:Nat)+e=5+((n+1) * e:Nat):=by rw [Nat.succ_mul]; omega
      rw [e1] at h2
      exact (Z9w (e:=[]) (by decide) (Z0K ht (Z0K (Z2w Z2k) Z2t)) h2).mono (by omega)
    · exact (Z4T (by decide) (Z2s ht)).mono (by omega)
theorem Z9k (hm:m[i]?=some (h,inn)) (hn:n < 1000) (hs:Sn h' (.thing i) (n+1:Nat) s) (hc:CO P most b h wd (.thing i) [.int n] m c w o c'):TO P most (b+8) (cal slf wd lessT) s m c w o c':=by
  have e1:=Z7z (P:=P) (most:=most) (m:=m) (c:=c) (w:=w) (by omega) (by omega) hs
  rw [show (((n+1:Nat):Int) - 1)=(n:Int) by omega] at e1
  exact (Z5X (Z0K (Z2w (Z4B hs.2.1)) (Z0K (Z2w e1) Z2t)) hm hc).mono (by omega)
def J4s (pl:Bool) (e:Nat) (wd:Str):Tm:=if pl then two "+" (cal slf wd lessT) (num e) else cal slf wd lessT
theorem wayA (hl:Z4o leaf lv) (hv:Lv lv) (he:e≤2) {pl:Bool} (hp:pl=false→e=0) (hm:m[i]?=some (h,inn)) {ws:List Str} (hws:∀ wd∈ws,∃ h' is wd',wd'∈ws∧is.length≤9∧Fd P h wd h' (Z3L leaf (Z2n is (J4s pl e wd')))) :
    ∀ n,n≤50→∀ wd∈ws,∀ c w,c≤most→w≤40→CO P most (100 * (n+1)) h wd (.thing i) [.int n] m c w (outc (lvN lv e n) (run most c (opA n w))) (run most c (opA n w)).2
  | 0,_,wd,hwd,c,w,hc,hw=>by
    obtain ⟨h',is,wd',hwd',his,hf⟩:=hws wd hwd
    refine (Z4h (l:=[]) (lv:=lvN lv e 0) hc hw hf (b:=10) fun h1 h2 s hs=>?_).mono (by omega)
    refine J0R hs ?_
    show TO _ _ _ _ _ _ _ _ (lvN lv e 0) _
    rw [J2Z hv]
    exact hl _ _ _ _ _ _
  | n+1,hn,wd,hwd,c,w,hc,hw=>by
    obtain ⟨h',is,wd',hwd',his,hf⟩:=hws wd hwd
    refine (Z4h (l:=opA n (w+1)) (lv:=lvN lv e (n+1)) hc hw hf (b:=100 * (n+1)+60) fun h1 h2 s hs=>?_).mono (by omega)
    have ih:=wayA hl hv he hp hm hws n (by omega) wd' hwd' (c+1) (w+1) (by omega) (by omega)
    refine (Z7N (n:=(n+1:Nat)) (b:=100 * (n+1)+12+4 * is.length) (by omega) (by omega) hs (Z3N (Z5Q (J0f hv he hn)) hs fun s hs=>?_)).mono (by omega)
    have t1:=Z9k hm (by omega) hs ih
    unfold J4s
    match pl,hp with
    | true,_=>exact (J5r hv he (by omega) t1).mono (by omega)
    | false,hp=>
      have:e=0:=hp rfl
      subst this
      rw [J7d (k:=n) hv]
      exact t1.mono (by omega)
theorem wayB (hl:Z4o leaf lv) (hv:Lv lv) (hm:m[i]?=some (h,inn)) (his:is.length≤9) (hf:Fd P h "go" h' (Z3L leaf (Z2n is (cal slf "go" (cal slf "less" (nam "n")))))) {h'':Str} (hf2:Fd P h "less" h'' lessT) :
    ∀ n,n≤50→∀ c w,c≤most→w≤40→CO P most (100 * (n+1)) h "go" (.thing i) [.int n] m c w (outc lv (run most c (opB n w))) (run most c (opB n w)).2
  | 0,_,c,w,hc,hw=>by
    refine (Z4h (l:=[]) (lv:=lv) hc hw hf (b:=10) fun h1 h2 s hs=>?_).mono (by omega)
    exact J0R hs (hl _ _ _ _ _ _)
  | n+1,hn,c,w,hc,hw=>by
    refine (Z4h (l:=(w+1)::opB n (w+1)) (lv:=lv) hc hw hf (b:=100 * (n+1)+70) fun h1 h2 s hs=>?_).mono (by omega)
    have sm:Sm lv:=by have:=J0f (e:=0) (n:=0) hv (by omega) (by omega); rw [J2Z hv] at this; exact this
    refine (Z7N (n:=(n+1:Nat)) (b:=100 * (n+1)+26+4 * is.length) (by omega) (by omega) hs (Z3N (Z5Q sm) hs fun s hs=>?_)).mono (by omega)
    have c2:=Z4h (P:=P) (most:=most) (h:=h) (wd:="less") (x:=.thing i) (n:=(n+1:Nat)) (l:=[]) (lv:=.val (.int n)) (m:=m) (c:=c+1) (w:=w+1) (b:=4) (by omega) (by omega) hf2 (fun h3 h4 s hs=>by
      have e1:=Z7z (P:=P) (most:=most) (m:=m) (c:=c+1+1) (w:=w+1+1) (by omega) (by omega) hs
      rw [show (((n+1:Nat):Int) - 1)=(n:Int) by omega] at e1
      exact Z2w e1)
    have t2:=Z5X (f:="less") (s:=s) (Z0K (Z2w (Z4B hs.2.1)) (Z0K (Z2w (Z3S hs.nn)) Z2t)) hm c2
    by_cases e1:c+1=most
    · have r1:∀ l,run most (c+1) ((w+1)::l)=(some [("dry":Str)],c+1):=fun l=>by
        show (if c+1=most then _ else _)=_
        rw [if_pos e1]
      rw [r1] at t2 ⊢
      exact (Z5C (Z3y (Z2w (Z4B hs.2.1)) (Z2s t2))).mono (by omega)
    by_cases e2:w+1=40
    · have r1:∀ l,run most (c+1) ((w+1)::l)=(some [("deep":Str)],c+1+1):=fun l=>by
        show (if c+1=most then _ else if w+1=40 then _ else _)=_
        rw [if_neg e1,if_pos e2]
      rw [r1] at t2 ⊢
      exact (Z5C (Z3y (Z2w (Z4B hs.2.1)) (Z2s t2))).mono (by omega)
    have r1:∀ l,run most (c+1) ((w+1)::l)=run most (c+1+1) l:=fun l=>by
      show (if c+1=most then _ else if w+1=40 then _ else _)=_
      rw [if_neg e1,if_neg e2]
    rw [r1] at t2 ⊢
    have ih:=wayB hl hv hm his hf hf2 n (by omega) (c+1+1) (w+1) (by omega) (by omega)
    exact (Z5X (Z0K (Z2w (Z4B hs.2.1)) (Z0K t2 Z2t)) hm ih).mono (by omega)
theorem wayC {es:List Str} (hl:Z4o leaf lv) (hv:Lv lv) (hm:m[i]?=some (h,inn)) (his:is.length≤9) (hf:Fd P h "go" h (Z3L leaf (Z2n is (eld "go" (nam "n"))))) (hch:Chain P h (h'::es)) (hel:es.length < 100) (hf2:Fd P h' "go" h' (Z3L leaf (Z2n is (J4s false 0 "go")))) :
    ∀ n,n≤50→∀ c w,c≤most→w≤40→CO P most (200 * (n+1)) h "go" (.thing i) [.int n] m c w (outc lv (run most c (opA (2 * n) w))) (run most c (opA (2 * n) w)).2
  | 0,_,c,w,hc,hw=>by
    refine (Z4h (l:=[]) (lv:=lv) hc hw hf (b:=10) fun h1 h2 s hs=>?_).mono (by omega)
    exact J0R hs (hl _ _ _ _ _ _)
  | n+1,hn,c,w,hc,hw=>by
    rw [show 2 * (n+1)=2 * n+1+1 by omega]
    have sm:Sm lv:=by have:=J0f (e:=0) (n:=0) hv (by omega) (by omega); rw [J2Z hv] at this; exact this
    refine (Z4h (l:=(w+1)::opA (2 * n) (w+1+1)) (lv:=lv) hc hw hf (b:=200 * (n+1)+150) fun h1 h2 s hs=>?_).mono (by omega)
    refine (Z7N (n:=(n+1:Nat)) (b:=200 * (n+1)+80+4 * is.length) (by omega) (by omega) hs (Z3N (Z5Q sm) hs fun s hs=>?_)).mono (by omega)
    refine (J3q (f:="go") (Z3S hs.nn) hs.1 hs.2.1 hch hel (Z4h (l:=opA (2 * n) (w+1+1)) (lv:=lv) (by omega) (by omega) hf2 (b:=200 * (n+1)+60) fun h3 h4 s hs=>?_)).mono (by omega)
    refine (Z7N (n:=(n+1:Nat)) (b:=200 * (n+1)+8+4 * is.length) (by omega) (by omega) hs (Z3N (Z5Q sm) hs fun s hs=>?_)).mono (by omega)
    exact Z9k hm (by omega) hs (wayC hl hv hm his hf hch hel hf2 n (by omega) (c+1+1) (w+1+1) (by omega) (by omega))
end
end P42
end
section
namespace P42
open PySem P15 PW
def Z7r (way:Nat) (wd:Str) (e:Nat):Tm:=match way with
  | 0=>two "+" (cal slf wd lessT) (num e)
  | 1=>eld wd (nam "n")
  | 2=>cal slf wd (cal slf "less" (nam "n"))
  | _=>cal slf wd lessT
def Z2I (way:Nat) (wd:Str) (leaf:Tm) (e:Nat) (is:List Nat):Tm:=Z3L leaf (Z2n is (Z7r way wd e))
def wdN (nm:Str) (body:Tm):Wd:=⟨nm,[("n","number")],"number",body⟩
def erW (way:Nat) (leaf:Tm) (e:Nat) (is:List Nat):List Wd:=match way with
  | 0=>[wdN "go" (Z2I 0 "go" leaf e is),wdN "less" lessT]
  | 1=>[wdN "go" (Z2I 4 "go" leaf e is),wdN "less" lessT]
  | 2=>[wdN "go" (Z2I 2 "go" leaf e is),wdN "less" lessT]
  | _=>[wdN "go" (Z2I 4 "on" leaf 0 is),wdN "less" lessT,wdN "on" (Z2I 4 "go" leaf 0 is)]
def yoW (way:Nat) (leaf:Tm) (is:List Nat):List Wd:=match way with
  | 1=>[wdN "go" (Z2I 1 "go" leaf 0 is)]
  | _=>[]
def erH (way:Nat) (leaf:Tm) (e:Nat) (is:List Nat):Hs:=⟨"er",none,[],erW way leaf e is⟩
def yoH (way:Nat) (leaf:Tm) (is:List Nat):Hs:=⟨"yo",some "er",[],yoW way leaf is⟩
def Z0G (way:Nat) (leaf:Tm) (e:Nat) (is:List Nat):List Hs:=[erH way leaf e is,yoH way leaf is]
def opn (way:Nat) (yo:Bool) (n w:Nat):List Nat:=if way=1∧yo=true then opA (2 * n) w else if way=2 then opB n w else opA n w
def hsN (yo:Bool):Str:=if yo then "yo" else "er"
section
variable {way e:Nat} {leaf:Tm} {is:List Nat} {main:Wd} {lv:Oc}
theorem J6W:Look ⟨Z0G way leaf e is,main⟩ "er" (erH way leaf e is):=⟨List.mem_cons_self,rfl⟩
theorem J5A:Look ⟨Z0G way leaf e is,main⟩ "yo" (yoH way leaf is):=⟨List.mem_cons_of_mem _ List.mem_cons_self,rfl⟩
theorem J6q:Chain ⟨Z0G way leaf e is,main⟩ "er" []:=.top J6W rfl
theorem J5y:Chain ⟨Z0G way leaf e is,main⟩ "yo" ["er"]:=.up J5A rfl J6q
theorem Z7e {wd:Str} {i:Nat} {d:Tm} (h1:IxAt ((erW way leaf e is).map Wd.name) wd i) (h2:(erW way leaf e is)[i]?=some (wdN wd d)):Fd ⟨Z0G way leaf e is,main⟩ "er" wd "er" d:=
  ⟨[],i,_,J6q,by simp,.here J6W h1 h2,rfl,rfl⟩
theorem J8X {wd:Str} {d:Tm} (hw:way≠1) (h:Fd ⟨Z0G way leaf e is,main⟩ "er" wd "er" d):Fd ⟨Z0G way leaf e is,main⟩ "yo" wd "er" d:=by
  obtain ⟨es,i,x,h1,h2,h3,h4,h5⟩:=h
  cases h1 with
  | top a b=>
    refine ⟨_,i,x,J5y,by simp,.there J5A ?_ h3,h4,h5⟩
    show wd∉(yoW way leaf is).map Wd.name
    unfold yoW
    split
    · exact absurd rfl hw
    · simp
  | up a b c=>
    obtain ⟨a1,a2⟩:=a
    rcases List.mem_cons.mp a1 with rfl | a1
    · cases b
    · cases List.mem_singleton.mp a1; exact absurd a2 (show ("yo":Str)≠"er" by decide)
theorem ix0 {α:Type} {x:α} {l:List α}:IxAt (x::l) x 0:=⟨rfl,fun j hj=>absurd hj (Nat.not_lt_zero _)⟩
theorem ix1 {α:Type} {x y:α} {l:List α} (h:y≠x):IxAt (y::x::l) x 1:=⟨rfl,fun j hj=>by
  have:j=0:=by omega
  subst this; exact fun z=>h (Option.some.inj z)⟩
theorem ix2 {α:Type} {x y z:α} {l:List α} (h:y≠x) (h2:z≠x):IxAt (y::z::x::l) x 2:=⟨rfl,fun j hj=>by
  match j,hj with
  | 0,_=>exact fun z=>h (Option.some.inj z)
  | 1,_=>exact fun z=>h2 (Option.some.inj z)⟩
variable {most i n c w:Nat} {m:List (Str×List Vl)} {inn:List Vl} {yo:Bool}
theorem Z6M {wd:Str} {d:Tm} (hw:way≠1∨yo=false) (h:Fd ⟨Z0G way leaf e is,main⟩ "er" wd "er" d):Fd ⟨Z0G way leaf e is,main⟩ (hsN yo) wd "er" d:=by
  match yo,hw with
  | false,_=>exact h
  | true,.inl hw=>exact J8X hw h
theorem J8N (hl:Z4o leaf lv) (hv:Lv lv) (hw:way < 4) (he:e≤2) (h0:way≠0→e=0) (his:is.length≤9) (hm:m[i]?=some (hsN yo,inn)) (hn:n≤50) (hc:c≤most) (hd:w≤40) :
    CO ⟨Z0G way leaf e is,main⟩ most (200 * (n+1)) (hsN yo) "go" (.thing i) [.int n] m c w (outc (lvN lv e n) (run most c (opn way yo n w))) (run most c (opn way yo n w)).2:=by
  have lv0:way≠0→lvN lv e n=lv:=fun z=>by rw [h0 z,J7d (k:=0) hv,J2Z hv]
  match way,hw with
  | 0,_=>
    exact (wayA (pl:=true) (ws:=["go"]) hl hv he (fun z=>by cases z) hm (fun wd hwd=>⟨"er",is,"go",by simp,his,by cases List.mem_singleton.mp hwd; exact Z6M (.inl (by decide)) (Z7e ix0 rfl)⟩) n hn "go" (by simp) c w hc hd).mono (by omega)
  | 1,_=>
    have e0:e=0:=h0 (by decide)
    subst e0
    match yo,hm with
    | false,hm=>
      exact (wayA (pl:=false) (ws:=["go"]) hl hv he (fun z=>rfl) hm (fun wd hwd=>⟨"er",is,"go",by simp,his,by cases List.mem_singleton.mp hwd; exact Z7e ix0 rfl⟩) n hn "go" (by simp) c w hc hd).mono (by omega)
    | true,hm=>
      rw [lv0 (by decide)]
      have f1:Fd ⟨Z0G 1 leaf 0 is,main⟩ "yo" "go" "yo" (Z2I 1 "go" leaf 0 is):=⟨["er"],0,wdN "go" (Z2I 1 "go" leaf 0 is),J5y,by simp,.here J5A (show IxAt [("go":Str)] "go" 0 from ix0) rfl,rfl,rfl⟩
      have f2:Fd ⟨Z0G 1 leaf 0 is,main⟩ "er" "go" "er" (Z2I 4 "go" leaf 0 is):=Z7e (i:=0) (show IxAt [("go":Str),"less"] "go" 0 from ix0) rfl
      exact wayC hl hv hm his f1 J5y (by simp) f2 n hn c w hc hd
  | 2,_=>
    rw [lv0 (by decide)]
    have f1:Fd ⟨Z0G 2 leaf e is,main⟩ "er" "go" "er" (Z2I 2 "go" leaf e is):=Z7e (i:=0) (show IxAt [("go":Str),"less"] "go" 0 from ix0) rfl
    have f2:Fd ⟨Z0G 2 leaf e is,main⟩ "er" "less" "er" lessT:=Z7e (i:=1) (show IxAt [("go":Str),"less"] "less" 1 from ix1 (by decide)) rfl
    exact (wayB hl hv hm his (Z6M (.inl (by decide)) f1) (Z6M (.inl (by decide)) f2) n hn c w hc hd).mono (by omega)
  | 3,_=>
    have e0:e=0:=h0 (by decide)
    subst e0
    refine (wayA (pl:=false) (ws:=["go","on"]) hl hv he (fun z=>rfl) hm (fun wd hwd=>?_) n hn "go" (by simp) c w hc hd).mono (by omega)
    rcases List.mem_cons.mp hwd with rfl | hwd
    · exact ⟨"er",is,"on",by simp,his,Z6M (.inl (by decide)) (Z7e ix0 rfl)⟩
    · cases List.mem_singleton.mp hwd
      exact ⟨"er",is,"go",by simp,his,Z6M (.inl (by decide)) (Z7e (i:=2) (show IxAt [("go":Str),"less","on"] "on" 2 from ix2 (by decide) (by decide)) rfl)⟩
end
theorem J3M {most:Nat}:∀ {l:List Nat} {c:Nat},c≤most→(run most c l).2≤most
  | [],_,h=>h
  | w::l,c,h=>by
    show (if c=most then _ else if w=40 then _ else run most (c+1) l).2≤most
    by_cases e:c=most
    · rw [if_pos e]; exact h
    rw [if_neg e]
    by_cases e2:w=40
    · rw [if_pos e2]; show c+1≤most; omega
    rw [if_neg e2]
    exact J3M (by omega)
def J1o:Option Nat→Tm
  | some n=>num n
  | none=>two "/" (num 3) (num 0)
def goT (t:Option Nat):Tm:=cal (nam "it") "go" (J1o t)
def sumT:Tm→List (Option Nat)→Tm
  | a,[]=>a
  | a,t::ts=>sumT (two "+" a (goT t)) ts
def due1 (most way:Nat) (yo:Bool) (lv:Oc) (e:Nat) (c:Nat):Option Nat→Oc×Nat
  | none=>(.stop nought,c)
  | some n=>(outc (lvN lv e n) (run most c (opn way yo n 0)),(run most c (opn way yo n 0)).2)
def due (most way:Nat) (yo:Bool) (lv:Oc) (e:Nat):List (Option Nat)→Int→Nat→Oc×Nat
  | [],tot,c=>(.val (.int tot),c)
  | t::ts,tot,c=>match due1 most way yo lv e c t with
    | (.val (.int a),c')=>due most way yo lv e ts (tot+a) c'
    | r=>r
def J1O (yo:Bool) (t:Option Nat) (ts:List (Option Nat)):Tm:=.mk .lt (.str "it") [.mk .new (.str (hsN yo)) [],sumT (goT t) ts]
section
variable {way e most c:Nat} {leaf:Tm} {is:List Nat} {main:Wd} {lv:Oc} {yo:Bool}
theorem Z9N (hc:c≤most):∀ {t:Option Nat},(due1 most way yo lv e c t).2≤most
  | none=>hc
  | some n=>J3M hc
theorem J1E (hv:Lv lv) (he:e≤2):∀ {t:Option Nat},(∀ n,t=some n→n≤50)→(∃ d,(due1 most way yo lv e c t).1=.stop d)∨∃ a:Int,(due1 most way yo lv e c t).1=.val (.int a)∧0≤a∧a≤200
  | none,_=>.inl ⟨_,rfl⟩
  | some n,hn=>by
    show (∃ d,outc _ _=_)∨∃ a:Int,outc _ _=_∧_
    unfold outc
    split
    · rcases hv with rfl | ⟨d,rfl⟩
      · refine .inr ⟨_,rfl,?_⟩
        have:n * e≤50 * 2:=Nat.mul_le_mul (hn n rfl) he
        omega
      · exact .inl ⟨d,rfl⟩
    · exact .inl ⟨_,rfl⟩
def scI:Sc:=⟨none,none,[("it",.thing 0)]⟩
theorem J0M (hl:Z4o leaf lv) (hv:Lv lv) (hw:way < 4) (he:e≤2) (h0:way≠0→e=0) (his:is.length≤9) {t:Option Nat} (ht:∀ n,t=some n→n≤50) (hc:c≤most) :
    TO ⟨Z0G way leaf e is,main⟩ most 10300 (goT t) scI [(hsN yo,[])] c 0 (due1 most way yo lv e c t).1 (due1 most way yo lv e c t).2:=by
  match t,ht with
  | none,_=>
    refine (Z5C (Z3y (Z2w (Z3S (v:=.thing 0) rfl)) (Z2s (J1F (by decide) (Z0K (Z2w Z2k) (Z0K (Z2w Z2k) Z2t)) (.nought (by constructor <;> omega)))))).mono (by omega)
  | some n,ht=>
    have:=ht n rfl
    exact (Z5X (Z0K (Z2w (Z3S (v:=.thing 0) rfl)) (Z0K (Z2w Z2k) Z2t)) rfl (J8N hl hv hw he h0 his rfl this hc (Nat.zero_le _))).mono (by omega)
theorem Z5Y {P:Pg} {s:Sc} {m:List (Str×List Vl)} {w c':Nat} {d:List Str}:∀ {ts:List (Option Nat)} {a:Tm} {b:Nat},TO P most b a s m c w (.stop d) c'→TO P most (b+2 * ts.length) (sumT a ts) s m c w (.stop d) c'
  | [],_,_,h=>h
  | t::ts,a,b,h=>(Z5Y (ts:=ts) (Z4T (by decide) (Z2s h))).mono (by rw [List.length_cons]; omega)
theorem J3X (hl:Z4o leaf lv) (hv:Lv lv) (hw:way < 4) (he:e≤2) (h0:way≠0→e=0) (his:is.length≤9) :
    ∀ {ts:List (Option Nat)} {a:Tm} {b c':Nat} {tot:Int},(∀ t∈ts,∀ n,t=some n→n≤50)→c'≤most→0≤tot→tot+200 * ts.length≤1000→TO ⟨Z0G way leaf e is,main⟩ most b a scI [(hsN yo,[])] c 0 (.val (.int tot)) c' →
      TO ⟨Z0G way leaf e is,main⟩ most (b+10310 * ts.length) (sumT a ts) scI [(hsN yo,[])] c 0 (due most way yo lv e ts tot c').1 (due most way yo lv e ts tot c').2
  | [],a,b,c',tot,_,_,_,_,h=>h
  | t::ts,a,b,c',tot,hts,hc,h1,h2,h=>by
    have ht:=J0M (main:=main) (yo:=yo) (c:=c') hl hv hw he h0 his (hts t List.mem_cons_self) hc
    have hle:=Z9N (way:=way) (yo:=yo) (lv:=lv) (e:=e) (t:=t) hc
    have hsm:=J1E (most:=most) (way:=way) (yo:=yo) (c:=c') hv he (hts t List.mem_cons_self)
    unfold due
    rw [List.length_cons] at h2 ⊢
    generalize due1 most way yo lv e c' t=r at *
    obtain ⟨o,k⟩:=r
    rcases hsm with ⟨d,hd⟩ | ⟨q,hq,q0,q1⟩
    · have hd:o=.stop d:=hd
      subst hd
      exact (Z5Y (Z4T (by decide) (Z3y h (Z2s ht)))).mono (by omega)
    · have hq:o=.val (.int q):=hq
      subst hq
      have h3:=Z9w (e:=[]) (g:="+") (by decide) (Z0K h (Z0K ht Z2t)) (Two.add (by constructor <;> omega) (by constructor <;> omega) (by constructor <;> omega))
      exact (J3X hl hv hw he h0 his (fun t ht=>hts t (List.mem_cons_of_mem _ ht)) hle (by omega) (by omega) h3).mono (by omega)
theorem J4R (hl:Z4o leaf lv) (hv:Lv lv) (hw:way < 4) (he:e≤2) (h0:way≠0→e=0) (his:is.length≤9) {t:Option Nat} {ts:List (Option Nat)} (hts:∀ x∈t::ts,∀ n,x=some n→n≤50) (h2:ts.length≤3) :
    ∃ n S,n≤90000∧Steps ⟨Z0G way leaf e is,main⟩ most n ⟨[.walk (J1O yo t ts) ⟨none,none,[]⟩],[],[],0,0,none⟩ S∧Res [] [] [(hsN yo,[])] (due most way yo lv e (t::ts) 0 0).2 0 S (due most way yo lv e (t::ts) 0 0).1:=by
  have ht:=J0M (main:=main) (yo:=yo) (c:=0) hl hv hw he h0 his (hts t List.mem_cons_self) (Nat.zero_le most)
  have hle:=Z9N (way:=way) (yo:=yo) (lv:=lv) (e:=e) (t:=t) (Nat.zero_le most)
  have hsm:=J1E (most:=most) (way:=way) (yo:=yo) (c:=0) hv he (hts t List.mem_cons_self)
  have tt:TO ⟨Z0G way leaf e is,main⟩ most 80000 (sumT (goT t) ts) scI [(hsN yo,[])] 0 0 (due most way yo lv e (t::ts) 0 0).1 (due most way yo lv e (t::ts) 0 0).2:=by
    unfold due
    generalize due1 most way yo lv e 0 t=r at *
    obtain ⟨o,k⟩:=r
    rcases hsm with ⟨d,hd⟩ | ⟨q,hq,q0,q1⟩
    · have hd:o=.stop d:=hd
      subst hd
      exact (Z5Y ht).mono (by omega)
    · have hq:o=.val (.int q):=hq
      subst hq
      show TO _ _ 80000 _ _ _ _ _ (due most way yo lv e ts (0+q) k).1 (due most way yo lv e ts (0+q) k).2
      rw [Int.zero_add]
      have h3:=J3X hl hv hw he h0 his (fun t ht=>hts t (List.mem_cons_of_mem _ ht)) hle q0 (by omega) ht
      exact h3.mono (by omega)
  obtain ⟨N,a,g⟩:=tt
  obtain ⟨S,g1,g2⟩:=g [] []
  obtain ⟨k,k2,ev⟩:=J6Y (P:=⟨Z0G way leaf e is,main⟩) (most:=most) (s:=⟨none,none,[]⟩) (m:=[]) (c:=0) (w:=0) (h:=hsN yo) (vs:=[]) (ps:=[]) rfl (Nat.zero_le _) Z9K
  exact ⟨(k+(N+1))+1,S,by omega,.step (.cho (by exact trivial) (by simp)) ((ev _ _).trans (.step (.lt (by simp)) g1)),g2⟩
end
end P42
end
section
namespace P42
open PySem P15 PW
theorem Z7h (f:Fm) (l:Lb) (ps:List Tm):(Tm.mk f l ps).flat.length=1+(Z1t ps).length:=by
  show (Tm.mk f l ps::Z1t ps).length=_
  rw [List.length_cons,Nat.add_comm]
theorem Z4O:(Z1t []).length=0:=rfl
theorem Z2i (t:Tm) (ts:List Tm):(Z1t (t::ts)).length=t.flat.length+(Z1t ts).length:=by
  show (Z1t ts++t.flat).length=_
  rw [List.length_append,Nat.add_comm]
def Fit (t:Tm) (n:Nat):Prop:=Ok t∧t.flat.length≤n
theorem Fit.mono {t:Tm} {n k:Nat} (h:Fit t n) (a:n≤k):Fit t k:=⟨h.1,Nat.le_trans h.2 a⟩
theorem fit0 {f:Fm} {l:Lb} (h:okF f l 0):Fit (.mk f l []) 1:=⟨.mk h (fun p hp=>by cases hp),Nat.le_refl _⟩
theorem fit1 {f:Fm} {l:Lb} {p:Tm} {a:Nat} (h:okF f l 1) (hp:Fit p a):Fit (.mk f l [p]) (a+1):=by
  refine ⟨.mk h (fun q hq=>by rw [List.mem_singleton.mp hq]; exact hp.1),?_⟩
  have:=hp.2
  rw [Z7h,Z2i,Z4O]; omega
theorem fit2 {f:Fm} {l:Lb} {p q:Tm} {a b:Nat} (h:okF f l 2) (hp:Fit p a) (hq:Fit q b):Fit (.mk f l [p,q]) (a+b+1):=by
  refine ⟨.mk h (fun r hr=>?_),?_⟩
  · rcases List.mem_cons.mp hr with rfl | hr
    · exact hp.1
    · rw [List.mem_singleton.mp hr]; exact hq.1
  have:=hp.2
  have:=hq.2
  rw [Z7h,Z2i,Z2i,Z4O]; omega
theorem fit3 {f:Fm} {l:Lb} {p q r:Tm} {a b c:Nat} (h:okF f l 3) (hp:Fit p a) (hq:Fit q b) (hr:Fit r c):Fit (.mk f l [p,q,r]) (a+b+c+1):=by
  refine ⟨.mk h (fun t ht=>?_),?_⟩
  · rcases List.mem_cons.mp ht with rfl | ht
    · exact hp.1
    rcases List.mem_cons.mp ht with rfl | ht
    · exact hq.1
    · rw [List.mem_singleton.mp ht]; exact hr.1
  have:=hp.2
  have:=hq.2
  have:=hr.2
  rw [Z7h,Z2i,Z2i,Z2i,Z4O]; omega
theorem Z1v (i:Int):Fit (num i) 1:=fit0 rfl
theorem Z3W (x:Str):Fit (nam x) 1:=fit0 rfl
theorem Z5J:Fit slf 1:=fit0 rfl
theorem Z2Q {g:Str} {p q:Tm} {a b:Nat} (hp:Fit p a) (hq:Fit q b):Fit (two g p q) (a+b+1):=fit2 (f:=.two) (l:=.str g) rfl hp hq
theorem Z4b {g:Str} {p q:Tm} {a b:Nat} (hp:Fit p a) (hq:Fit q b):Fit (cal p g q) (a+b+1):=fit2 (f:=.call) (l:=.str g) (by show 1≤2; omega) hp hq
theorem J3Z {x:Str} {p q:Tm} {a b:Nat} (hp:Fit p a) (hq:Fit q b):Fit (.mk .lt (.str x) [p,q]) (a+b+1):=fit2 (f:=.lt) (l:=.str x) rfl hp hq
theorem J3t {p q r:Tm} {a b c:Nat} (hp:Fit p a) (hq:Fit q b) (hr:Fit r c):Fit (.mk .iff .non [p,q,r]) (a+b+c+1):=fit3 (f:=.iff) (l:=.non) rfl hp hq hr
theorem J5d:Fit tru 1:=fit0 (f:=.truth) (l:=.bl true) rfl
theorem fit_less:Fit lessT 3:=Z2Q (Z3W _) (Z1v _)
theorem Z9n (i:Nat) {t:Tm} {a:Nat} (h:Fit t a):Fit (Z3v i t) (a+3):=by
  match i with
  | 0=>exact (J3Z (Z1v _) h).mono (by omega)
  | 1=>exact (J3t J5d h (Z1v _)).mono (by omega)
  | 2=>exact (Z2Q (Z1v _) h).mono (by omega)
  | i+3=>exact (Z2Q (Z1v _) h).mono (by omega)
theorem Z6k:∀ {is:List Nat} {t:Tm} {a:Nat},Fit t a→Fit (Z2n is t) (a+3 * is.length)
  | [],_,_,h=>h
  | i::is,t,a,h=>(Z6k (is:=is) (Z9n i h)).mono (by rw [List.length_cons]; omega)
theorem J2W (way:Nat) (wd:Str) (e:Nat):Fit (Z7r way wd e) 7:=by
  match way with
  | 0=>exact (Z2Q (Z4b Z5J fit_less) (Z1v _)).mono (by omega)
  | 1=>exact (fit1 (f:=.elder) (l:=.str wd) trivial (Z3W _)).mono (by omega)
  | 2=>exact (Z4b Z5J (Z4b Z5J (Z3W _))).mono (by omega)
  | i+3=>exact (Z4b Z5J fit_less).mono (by omega)
theorem Z5V {way:Nat} {wd:Str} {leaf:Tm} {e:Nat} {is:List Nat} (hl:Fit leaf 3) (his:is.length≤9):Fit (Z2I way wd leaf e is) 60:=
  (J3t (Z2Q (Z3W _) (Z1v _)) hl (Z6k (J2W way wd e))).mono (by omega)
theorem J3z (t:Option Nat):Fit (goT t) 5:=by
  match t with
  | none=>exact (Z4b (Z3W _) (Z2Q (Z1v _) (Z1v _))).mono (by omega)
  | some n=>exact (Z4b (Z3W _) (Z1v _)).mono (by omega)
theorem Z9v:∀ {ts:List (Option Nat)} {t:Tm} {a:Nat},Fit t a→Fit (sumT t ts) (a+6 * ts.length)
  | [],_,_,h=>h
  | i::is,t,a,h=>(Z9v (ts:=is) (Z2Q h (J3z i))).mono (by rw [List.length_cons]; omega)
theorem Z8v {yo:Bool} {t:Option Nat} {ts:List (Option Nat)} (h:ts.length≤3):Fit (J1O yo t ts) 60:=
  (J3Z (fit0 (f:=.new) (l:=.str (hsN yo)) trivial) (Z9v (J3z t))).mono (by omega)
theorem Z6V:∀ {ts:List (Option Nat)} {a:Tm} {t:Option Nat},sumT a (ts++[t])=two "+" (sumT a ts) (goT t)
  | [],_,_=>rfl
  | i::is,a,t=>Z6V (ts:=is)
theorem Z5r:∀ {is:List Nat} {i:Nat} {t:Tm},Z2n (is++[i]) t=Z3v i (Z2n is t)
  | [],_,_=>rfl
  | j::is,i,t=>Z5r (is:=is)
theorem Z5Z:∀ {n w:Nat},opA (n+1) w=opA n w++[w+n+1]
  | 0,w=>rfl
  | n+1,w=>by
    show w::opA (n+1) (w+1)=w::(opA n (w+1)++_)
    rw [Z5Z,show w+1+n+1=w+(n+1)+1 by omega]
theorem Z8B:∀ {n w:Nat},opB (n+1) w=opB n w++[w+n+1,w+n+1]
  | 0,w=>rfl
  | n+1,w=>by
    show w::(w+1)::opB (n+1) (w+1)=w::(w+1)::(opB n (w+1)++_)
    rw [Z8B,show w+1+n+1=w+(n+1)+1 by omega]
theorem Z6G:∀ n,opA n 0=List.range (n+1)
  | 0=>rfl
  | n+1=>by rw [Z5Z,Z6G n,List.range_succ (n:=n+1),Nat.zero_add]
theorem Z7p:∀ {n w:Nat},(opA n w).length=n+1
  | 0,_=>rfl
  | n+1,w=>by show (opA n (w+1)).length+1=_; rw [Z7p]
theorem Z9l:∀ {n w:Nat},(opB n w).length=2 * n+1
  | 0,_=>rfl
  | n+1,w=>by show (opB n (w+1)).length+1+1=_; rw [Z9l]; omega
theorem J0N {way:Nat} {yo:Bool} {n w:Nat}:(opn way yo n w).length≤2 * n+1:=by
  unfold opn
  split
  · rw [Z7p]; omega
  split
  · rw [Z9l]; omega
  · rw [Z7p]; omega
theorem J0p {most:Nat}:∀ {l:List Nat} {c:Nat},(run most c l).2≤c+l.length
  | [],_=>Nat.le_refl _
  | w::l,c=>by
    show (if c=most then _ else if w=40 then _ else run most (c+1) l).2≤c+(l.length+1)
    by_cases e:c=most
    · rw [if_pos e]; show c≤_; omega
    rw [if_neg e]
    by_cases e2:w=40
    · rw [if_pos e2]; show c+1≤_; omega
    rw [if_neg e2]
    have:=J0p (most:=most) (l:=l) (c:=c+1)
    omega
theorem J7p {most:Nat}:∀ {l:List Nat} {c:Nat} {d:List Str},(run most c l).1=some d→d=[("dry":Str)]∨d=[("deep":Str)]
  | [],_,_,h=>by cases h
  | w::l,c,d,h=>by
    change (if c=most then _ else if w=40 then _ else run most (c+1) l).1=some d at h
    by_cases e:c=most
    · rw [if_pos e] at h; exact .inl (Option.some.inj h).symm
    rw [if_neg e] at h
    by_cases e2:w=40
    · rw [if_pos e2] at h; exact .inr (Option.some.inj h).symm
    rw [if_neg e2] at h
    exact J7p h
end P42
end
section
namespace P42
open PySem P15 PW
def isOf (C n:Nat):List Nat:=(List.range n).map fun k=>C / (1+3 * k) % 4
theorem J2o {C n:Nat}:(isOf C n).length=n:=by unfold isOf; simp
theorem J1r {C n:Nat}:isOf C (n+1)=isOf C n++[C / (1+3 * n) % 4]:=by unfold isOf; rw [List.range_succ,List.map_append]; rfl
theorem Z9H {C n:Nat} {t:Tm}:Z2n (isOf C (n+1)) t=Z3v (C / (1+3 * n) % 4) (Z2n (isOf C n) t):=by rw [J1r,Z5r]
section
variable {most way e n c c':Nat} {yo:Bool} {lv:Oc} {ts:List (Option Nat)} {tot:Int} {d:List Str}
theorem Z5L (h:run most c (opn way yo n 0)=(some d,c')):due most way yo lv e (some n::ts) tot c=(.stop d,c'):=by
  unfold due due1
  simp only [h,outc]
theorem Z7o (h:run most c (opn way yo n 0)=(none,c')):due most way yo (.stop d) e (some n::ts) tot c=(.stop d,c'):=by
  unfold due due1
  simp only [h,outc,lvN]
theorem J0W (h:run most c (opn way yo n 0)=(none,c')):due most way yo (.val (.int 5)) e (some n::ts) tot c=due most way yo (.val (.int 5)) e ts (tot+(5+(n * e:Nat))) c':=by
  rw [due,due1]
  simp only [h,outc,lvN]
theorem J4u {w:Nat} {l:List Nat} (h:c=most):run most c (w::l)=(some [("dry":Str)],c):=by
  show (if c=most then _ else _)=_
  rw [if_pos h]
theorem J2B {l:List Nat} (h:c≠most):run most c (40::l)=(some [("deep":Str)],c+1):=by
  show (if c=most then _ else if 40=40 then _ else _)=_
  rw [if_neg h,if_pos rfl]
theorem J6y {w:Nat} {l:List Nat} (h:c≠most) (h2:w≠40):run most c (w::l)=run most (c+1) l:=by
  show (if c=most then _ else if w=40 then _ else _)=_
  rw [if_neg h,if_neg h2]
end
end P42
end
section
namespace L2
open PySem PySem.Spec PyProof.Rows
variable {X:Cx}
def J6F (ta:TA):TE:=fun σ H Q=>ta σ H fun vs H1=>∃ n:Nat,vs=[.int (n:Int)]∧n≤1000000∧∀ l,H1 l=none→Q (.ref l) (upd H1 l (.lst ((List.range n).map fun i=>V.int ((i:Nat):Int))))
theorem Z6K {α β:Type} {R:α→β→Prop}:∀ {xs:List α} {ys:List β},xs.length=ys.length→(∀ (i:Nat) x y,xs[i]?=some x→ys[i]?=some y→R x y)→Paired R xs ys
  | [],[],_,_=>.nil
  | x::xs,y::ys,hl,h=>.cons (h 0 x y rfl rfl) (Z6K (Nat.succ.inj hl) fun i a b ha hb=>h (i+1) a b ha hb)
theorem J7S {ta:TA} {σ:St} {H:Hp} {Q:VK}:J6F ta σ H Q=ta σ H fun vs H1=>∃ n:Nat,vs=[.int (n:Int)]∧n≤1000000∧New H1 (.lst ((List.range n).map fun i=>V.int ((i:Nat):Int))) fun l H2=>Q (.ref l) H2:=rfl
theorem J7H {σ:St} {H:Hp} {Q:List (V×V)→Hp→Prop}:Z4X [] σ H Q=Q [] H:=rfl
theorem J8a {tk tv:TE} {r:List (TE×TE)} {σ:St} {H:Hp} {Q:List (V×V)→Hp→Prop}:Z4X ((tk,tv)::r) σ H Q=tk σ H fun x H1=>tv σ H1 fun y H2=>Z4X r σ H2 fun ps H3=>Q ((x,y)::ps) H3:=rfl
theorem J8n {trs:List (TE×TE)} {σ:St} {H:Hp} {Q:VK}:J7k trs σ H Q=New H (.dK []) fun p H1=>Z4X trs σ H1 fun ps H2=>H2 p=some (.dK [])∧∃ kvs:List (Key×V),ps=kvs.map (fun kv=>(kV kv.1,kv.2))∧kvs.length≤15∧Q (.ref p) (upd H2 p (.dK (Z3k [] kvs))):=rfl
theorem J4U {n:Nat} {acc:Array Value} (h:ItemsOf (fun i v=>∃ t,v=.int (0+i * 1) t) acc n):Paired RelV ((List.range n).map fun i=>V.int ((i:Nat):Int)) acc.toList:=by
  refine Z6K ?_ fun i x y hx hy=>?_
  · rw [List.length_map,List.length_range,Array.length_toList,h.1]
  · rw [Array.getElem?_toList] at hy
    obtain ⟨t,rfl⟩:=h.2 i y hy
    rw [List.getElem?_map] at hx
    have hi:i < n:=by
      have:=(Array.getElem?_eq_some_iff.mp hy).1
      rw [h.1] at this; exact this
    rw [List.getElem?_range hi] at hx
    cases hx
    exact ⟨t,by rw [Int.zero_add,Int.mul_one]⟩
theorem J5f {x1:Expr} {ta:TA} {p p2 pos pos2:Pos} (hc:X.calm=true) (hg:Gl X "list") (hg2:Gl X "range") (hm:X.mg "list"=none) (hm2:X.mg "range"=none) (ha:PA X [x1] ta)
    (hs:starEach [x1] X.env=[(false,eval x1 X.env)]:=by rfl) (hs2:starEach [.Call (.Name "range" p2) [x1] [] pos2] X.env=[(false,eval (.Call (.Name "range" p2) [x1] [] pos2) X.env)]:=by rfl) :
    PE X (.Call (.Name "list" p) [.Call (.Name "range" p2) [x1] [] pos2] [] pos) (J6F ta):=by
  intro pins s σ H Q I h
  refine Call_ (Z2A I hg hm rfl (PyProof.Rows.callWith_type1 ?_ hs2 rfl))
  rw [hs2]
  show wpAny (model X.prog X.w) X.A (spliced ((false,eval (.Call (.Name "range" p2) [x1] [] pos2) X.env)::backTo pos [])) _ _ s; refine Calls.spliced_cons ?_
  refine Call_ (Z2A I hg2 hm2 boot_range (PyProof.Rows.callWith_type1 (thn (ha pos2 pins s σ H _ I h) fun us s1 hz=>?_) hs rfl))
  obtain ⟨vs,H1,I1,r1,n,rfl,hn,q⟩:=hz
  obtain ⟨u,rfl,ru⟩:=r1.one
  obtain ⟨t,rfl⟩:=ru
  refine call_range_1 (Calls.spliced_nil ?_)
  refine call_list_range (n:=n) (I1.ok.hd hc) (IsRange.new ..) (small_one (by omega) (by omega) (by omega) (by omega)) (by rw [rangeSize_one]; split <;> omega) (by omega) fun h' tk acc c k g ia=>?_
  refine ⟨.ref _,upd H1 _ (.lst ((List.range n).map fun i=>V.int ((i:Nat):Int))),I1.laid (t':=tk) (fun b o e=>k b o (Heap.get?_push_of_some _ e)) (by rw [Heap.size_push]; exact Nat.le_succ _) (show ObjOk X.prog X.w _ h' _ (.lst _) from ⟨by rw [List.length_map,List.length_range]; exact Nat.le_trans hn (by decide),acc.toList,c,J4U ia,?_⟩),rfl,q _ (I1.hok.fresh (by rw [Heap.size_push]; exact Nat.le_succ _))⟩
  exact g
end L2
end
section
namespace L2
open PySem PySem.Spec PyProof.Rows
theorem Z5T {K:W.Frag} {a:Addr} {g:TG} {tb:TS} {D:Ends} {σ:St} {H:Hp} (xs:List V) (Pv:Nat→St→Hp→Prop) (h0:Pv 0 σ H) (hl:∀ i σ H,i≤xs.length→Pv i σ H→SqL K H a xs)
    (hs:∀ i x σ H,xs.reverse[i]?=some x→Pv i σ H→g x σ H fun σ2 H2=>tb { D with nx:=Pv (i+1),ct:=Pv (i+1),bk:=D.nx } σ2 H2) (hd:∀ σ H,Pv xs.length σ H→D.nx σ H):Z9p (Itv K a xs.length) g tb D σ H:=by
  refine ⟨fun i m σ H=>m=xs.length - i∧i≤xs.length∧Pv i σ H,⟨xs.length,by simp,Nat.zero_le _,h0⟩,?_⟩
  rintro i m σ H ⟨rfl,hi,p⟩
  have q:=hl i σ H hi p
  by_cases hlt:i < xs.length
  · refine .inr ⟨⟨hlt,xs,q,rfl⟩,Pv (i+1),fun σ' H' p'=>⟨xs.length - (i+1),by omega,rfl,hlt,p'⟩,fun x H' y=>?_⟩
    obtain ⟨e,y⟩:=y
    subst e
    exact hs i x σ _ (by rw [List.getElem?_reverse hlt]; exact y xs q) p
  · have e:i=xs.length:=by omega
    subst e
    exact .inl ⟨rfl,hd σ H p⟩
end L2
end
section
namespace L2
open PySem PySem.Spec PyProof.Rows
theorem Z5l {J:It} {g:TG} {te:TE} {Q:VK} {H:Hp} {D:Addr} {ys:List V} {σ0:St} (Sv:St→Prop) (R:Nat→V→Hp→Prop) (mono:∀ j v H1 H2,R j v H1→Z5F H1 H2→R j v H2) (e0:Sv σ0) (hD:H D=none) (hz:ys.length≤sizeLine)
    (j1:∀ i H1,Same H H1→i < ys.length→J.go i H1) (j2:∀ i H1 x H2,Same H H1→J.yld i H1 x H2→H2=H1∧ys[i]?=some x) (j3:∀ H1,Same H H1→J.stop ys.length H1)
    (he:∀ i y σ,ys[i]?=some y→Sv σ→∀ H1 (K':St→VK),Same H H1→(∀ σ3 v H2,Sv σ3→Same H1 H2→R i v H2→K' σ3 v H2)→g y σ H1 fun σ3 H3=>te σ3 H3 (K' σ3))
    (hQ:∀ vs H',Same H H'→H' D=some (.lst vs)→vs.length=ys.length→(∀ j v,vs[j]?=some v→R j v H')→Q (.ref D) H'):Z5a J g Z3O te D Q σ0 (upd H D (.lst [])):=by
  refine ⟨fun i m σ' H'=>m=ys.length - i∧i≤ys.length∧Sv σ'∧Same H H'∧∃ vs,H' D=some (.lst vs)∧vs.length=i∧∀ j v,vs[j]?=some v→R j v H',⟨ys.length,by simp,Nat.zero_le _,e0,Z0C hD _,[],Z0g,rfl,fun j v h=>by simp at h⟩,?_⟩
  rintro i m σ' H' ⟨rfl,hi,hS,s1,vs,hv,hl,hr⟩
  by_cases hlt:i < ys.length
  · refine .inr ⟨j1 i H' s1 hlt,fun σ2 H2=>Sv σ2∧Same H H2∧∃ vs,H2 D=some (.lst vs)∧vs.length=i+1∧∀ j v,vs[j]?=some v→R j v H2,fun σ2 H2 ⟨a,b,c⟩=>⟨ys.length - (i+1),by omega,rfl,hlt,a,b,c⟩,fun x H2 hx=>?_⟩
    obtain ⟨e1,e2⟩:=j2 i H' x H2 s1 hx
    subst e1
    unfold Z3O
    simp only [if_true]
    refine he i x σ' e2 hS H2 _ s1 fun σ3 v H3 hS3 s3 hR=>?_
    have h3:=s3 _ _ hv
    have sn:Z5F H3 (upd H3 D (.lst (vs++[v]))):=fun b o ho hb=>by
      rw [Z0j (fun z=>by rw [z,h3] at hb; cases hb; exact ho _ rfl)]
      exact hb
    refine ⟨vs,h3,by omega,hS3,fun b o hb=>?_,_,Z0g,by rw [List.length_append,hl]; rfl,fun j u hj=>?_⟩
    · rw [Z0j (Z0m hb hD)]
      exact s3 _ _ (s1 _ _ hb)
    · by_cases hj':j < vs.length
      · rw [List.getElem?_append_left hj'] at hj
        exact mono j u _ _ (mono j u _ _ (hr j u hj) fun b o _ hb=>s3 b o hb) sn
      · rw [List.getElem?_append_right (by omega)] at hj
        have ej:j - vs.length=0:=by
          have:=(List.getElem?_eq_some_iff.mp hj).1
          simp at this
          omega
        rw [ej] at hj
        cases hj
        have:j=i:=by omega
        subst this
        exact mono _ _ _ _ hR sn
  · have e:i=ys.length:=by omega
    subst e
    exact .inl ⟨j3 _ s1,hQ vs H' s1 hv hl hr⟩
theorem Z6Z {K:W.Frag} {a:Addr} {g:TG} {te:TE} {Q:VK} {H:Hp} {D:Addr} {ys:List V} {σ0:St} (Sv:St→Prop) (R:Nat→V→Hp→Prop) (mono:∀ j v H1 H2,R j v H1→Z5F H1 H2→R j v H2) (e0:Sv σ0) (hD:H D=none) (hz:ys.length≤sizeLine) (ha:∀ H1,Same H H1→SqT K H1 a ys)
    (he:∀ i y σ,ys[i]?=some y→Sv σ→∀ H1 (K':St→VK),Same H H1→(∀ σ3 v H2,Sv σ3→Same H1 H2→R i v H2→K' σ3 v H2)→g y σ H1 fun σ3 H3=>te σ3 H3 (K' σ3))
    (hQ:∀ vs H',Same H H'→H' D=some (.lst vs)→vs.length=ys.length→(∀ j v,vs[j]?=some v→R j v H')→Q (.ref D) H'):Z5a (Itt K a) g Z3O te D Q σ0 (upd H D (.lst [])):=
  Z5l Sv R mono e0 hD hz (fun i H1 s h=>⟨ys,ys[i],ha H1 s,List.getElem?_eq_getElem h⟩) (fun i H1 x H2 s h=>⟨h.1,h.2 ys (ha H1 s)⟩) (fun H1 s=>⟨ys,ha H1 s,Nat.le_refl _⟩) he hQ
theorem Z4A {K:W.Frag} {a:Addr} {g:TG} {te:TE} {Q:VK} {H:Hp} {D:Addr} {ys:List V} {σ0:St} (Sv:St→Prop) (R:Nat→V→Hp→Prop) (mono:∀ j v H1 H2,R j v H1→Z5F H1 H2→R j v H2) (e0:Sv σ0) (hD:H D=none) (hz:ys.length≤sizeLine) (ha:∀ H1,Same H H1→SqL K H1 a ys)
    (he:∀ i y σ,ys[i]?=some y→Sv σ→∀ H1 (K':St→VK),Same H H1→(∀ σ3 v H2,Sv σ3→Same H1 H2→R i v H2→K' σ3 v H2)→g y σ H1 fun σ3 H3=>te σ3 H3 (K' σ3))
    (hQ:∀ vs H',Same H H'→H' D=some (.lst vs)→vs.length=ys.length→(∀ j v,vs[j]?=some v→R j v H')→Q (.ref D) H'):Z5a (Itl K a) g Z3O te D Q σ0 (upd H D (.lst [])):=
  Z5l Sv R mono e0 hD hz (fun i H1 s h=>⟨ys,ys[i],ha H1 s,List.getElem?_eq_getElem h⟩) (fun i H1 x H2 s h=>⟨h.1,h.2 ys (ha H1 s)⟩) (fun H1 s=>⟨ys,ha H1 s,Nat.le_refl _⟩) he hQ
end L2
end
section
namespace L2
open PySem PySem.Spec PyProof.Rows
def J6s:V→Bool
  | .non | .bl _ | .int _ | .str _=>true
  | _=>false
theorem J9c {K:W.Frag}:W.kitOne K (.type "NoneType") (.type "tuple")=some false:=by with_unfolding_all rfl
theorem J9k {K:W.Frag}:W.kitOne K (.type "bool") (.type "tuple")=some false:=by with_unfolding_all rfl
theorem J8O {K:W.Frag}:W.kitOne K (.type "int") (.type "tuple")=some false:=by with_unfolding_all rfl
theorem J8Y {K:W.Frag}:W.kitOne K (.type "str") (.type "tuple")=some false:=by with_unfolding_all rfl
def J6m (K:W.Frag):List V→Hp→VK→Prop:=fun xs H Q=>∃ x,xs=[x,.ty "tuple"]∧((∃ a us,x=.ref a∧SqT K H a us∧Q (.bl true) H)∨(J6s x=true∧Q (.bl false) H))
theorem J0Q {X:Cx}:Z4q X (.builtin "isinstance") (J6m X.K):=by
  intro pins s σ H xs us Q I rs h
  obtain ⟨x,rfl,h⟩:=h
  obtain ⟨u,v,rfl,ru,rv⟩:=rs.two
  rw [J2O (c:=.ty "tuple") rfl rv]
  rcases h with ⟨a,ws,rfl,hq,q⟩ | ⟨nt,q⟩
  · cases (show u=Value.ref a from ru)
    obtain ⟨its,r,pl,hz⟩:=I.tuple hq
    obtain ⟨o,h1,h2,_⟩:=pl
    exact W.kia_one W.kitx_tuple I.kIn ⟨o,h1,h2⟩ Z4s (fun z=>nomatch z) fun tk=>⟨.bl true,H,I.tok tk,rfl,q⟩
  · cases x with
    | non=>exact Z3F I ru .non J9c fun tk=>⟨.bl false,H,I.tok tk,rfl,q⟩
    | bl b=>exact Z3F I ru (.bl b) J9k fun tk=>⟨.bl false,H,I.tok tk,rfl,q⟩
    | int i=>exact Z3F I ru (.int i) J8O fun tk=>⟨.bl false,H,I.tok tk,rfl,q⟩
    | str x=>exact Z3F I ru (.str x) J8Y fun tk=>⟨.bl false,H,I.tok tk,rfl,q⟩
    | _=>cases nt
end L2
end
section
namespace P42
open PySem P15 PW
def Stp (d:List Str):Prop:=d=[("dry":Str)]∨d=[("deep":Str)]∨d=nought∨d=great
def DOk (b:Int) (o:Oc):Prop:=(∃ d,o=.stop d∧Stp d)∨∃ n:Int,o=.val (.int n)∧0≤n∧n≤b
def LvS (lv:Oc):Prop:=lv=.val (.int 5)∨lv=.stop nought∨lv=.stop great
theorem LvS.lv {lv:Oc} (h:LvS lv):Lv lv:=by
  rcases h with h | h | h
  · exact .inl h
  · exact .inr ⟨_,h⟩
  · exact .inr ⟨_,h⟩
theorem J1R {most way e:Nat} {yo:Bool} {lv:Oc} (hv:LvS lv) (he:e≤2):∀ {ts:List (Option Nat)} {tot:Int} {c:Nat},(∀ t∈ts,∀ n,t=some n→n≤50)→0≤tot→DOk (tot+200 * ts.length) (due most way yo lv e ts tot c).1∧(due most way yo lv e ts tot c).2≤c+101 * ts.length
  | [],tot,c,_,h0=>⟨.inr ⟨tot,rfl,h0,by simp⟩,by simp [due]⟩
  | none::ts,tot,c,hts,h0=>⟨.inl ⟨_,rfl,.inr (.inr (.inl rfl))⟩,by show c≤_; omega⟩
  | some n::ts,tot,c,hts,h0=>by
    have hn:=hts _ List.mem_cons_self n rfl
    have hl:=J0N (way:=way) (yo:=yo) (n:=n) (w:=0)
    have hr:=J0p (most:=most) (l:=opn way yo n 0) (c:=c)
    have hne:n * e≤50 * 2:=Nat.mul_le_mul hn he
    rw [List.length_cons]
    generalize hrun:run most c (opn way yo n 0)=r at *
    obtain ⟨ro,c'⟩:=r
    have hr:c'≤_:=hr
    match ro with
    | some d=>
      rw [Z5L hrun]
      have:=J7p (most:=most) (l:=opn way yo n 0) (c:=c) (d:=d) (by rw [hrun])
      refine ⟨.inl ⟨d,rfl,?_⟩,by show c'≤_; omega⟩
      rcases this with h | h
      · exact .inl h
      · exact .inr (.inl h)
    | none=>
      rcases hv with rfl | rfl | rfl
      · rw [J0W hrun]
        have ih:=J1R (most:=most) (way:=way) (yo:=yo) (lv:=.val (.int 5)) (e:=e) (.inl rfl) he (ts:=ts) (tot:=tot+(5+(n * e:Nat))) (c:=c') (fun t ht=>hts t (List.mem_cons_of_mem _ ht)) (by omega)
        refine ⟨?_,by omega⟩
        rcases ih.1 with h | ⟨k,h1,h2,h3⟩
        · exact .inl h
        · exact .inr ⟨k,h1,h2,by omega⟩
      · rw [Z7o hrun]
        exact ⟨.inl ⟨_,rfl,.inr (.inr (.inl rfl))⟩,by show c'≤_; omega⟩
      · rw [Z7o hrun]
        exact ⟨.inl ⟨_,rfl,.inr (.inr (.inr rfl))⟩,by show c'≤_; omega⟩
end P42
end
section
open PySem L2 TM WK
local macro_rules | `(tactic| walk_at "rd") => do let f := fun (s : String) => (s.splitOn " ").toArray.mapM fun n => `(Lean.Parser.Tactic.simpLemma| $(Lean.mkIdent n.toName):term); let a ← f "J6V J8o J7G J8T J9q J7c J9t J9y J4y J7V J7P J8j J8q J9h J8k J8l J7X J8e J6x J6L J7M J7F J6r J8U Y0i Y0c J8v J9E J8S J7T J9v J7K J9J J8m J9f J6c J7U J8i J9l J7W J9o J6f J7L J8P J7D J8s J8B J8R J9n J9B J8b J9L J8p J8H J7Y J7O J9I J9G Y0j J9M J9X J9N J9F J7Q J6B J9b J8x J9C J5H J8C J7Z J8g J7E J8h J9P J5I J7C J9O J8E J7I J9s J9p J8w J8d J9R J8A J9Q J5G J5E J8I J7w J5j J6J J8G J8Z J8f J6n J7J J7R J4I J5V J7N J8c J6Q J8r J5K J8F J8V J8t J9u List.getElem?_cons_zero List.getElem?_cons_succ List.set_cons_zero List.set_cons_succ Nat.reduceAdd Nat.reduceSub List.cons_append List.nil_append L2.Z4U List.map_cons List.map_nil List.length_cons List.length_nil List.replicate J9K"; let b ← f "J6V J8o J7G J8T J9q J7c J9t J9y J4y J7V J7P J8j J8q J9h J8k J8l J7X J8e J6x J6L J7M J7F J6r J7S J8n J7H J8a J8f J6n J7J J7R J4I J5V J7N J8c J6Q J8r J5K J8F J8V J8t J9u J8U Y0i Y0c J8v J9E J8S J7T J9v J7K J9J J8m J9f J6c J7U J8i J9l J7W J9o J6f J7L J8P J7D J8s J8B J8R J9n J9B J8b J9L J8p J8H J7Y J7O J9I J9G Y0j J9M J9X J9N J9F J7Q J6B J9b J8x J9C J5H J8C J7Z J8g J7E J8h J9P J5I J7C J9O J8E J7I J9s J9p J8w J8d J9R J8A J9Q J5G J5E J8I J7w J5j J6J J8G J8Z exists_eq_left' exists_eq_left exists_and_left exists_eq_right exists_eq_right' V.int.injEq V.str.injEq V.bl.injEq V.ref.injEq Option.some.injEq List.cons.injEq and_true true_and List.getElem?_cons_zero List.getElem?_cons_succ List.set_cons_zero List.set_cons_succ decide_eq_true_eq Bool.not_eq_true' decide_eq_false_iff_not reduceCtorEq Y0f J9U J9Z J9V Y0e J9T Y0b Y0k Y0a Y0h Y0d J9W J9Y Y0g L2.Z4U List.map_cons List.map_nil List.length_cons List.length_nil List.replicate List.cons_append List.nil_append List.append_nil Nat.reduceAdd Nat.reduceSub Nat.zero_add J4m J3D J5F J4X J5k ix0 ix1 exists_const if_true if_false ite_true ite_false Bool.false_eq_true decide_true decide_false Bool.not_true Bool.not_false Bool.true_eq_false CPow CDiv CMul J8z or_true true_or and_self and_assoc sizeLine_eq Nat.reduceLeDiff Nat.reduceLT Nat.reducePow Nat.reduceMul Int.reducePow Int.reduceLE Int.reduceLT Int.reduceToNat Int.reduceAbs Int.reduceNeg Int.reduceAdd Int.reduceSub Int.reduceMul ne_eq not_false_eq_true not_true_eq_false J9K Int.zero_add"; `(tactic| ((try dsimp only [$a,*]); (try simp (config := { maxSteps := 10000000 }) only [$b,*])))
section
namespace K42
open PySem L2 TM WK
open P15 (Lb Fm Tm dats Z3g okF Ok maxD sumS Z1t Bld)
open PW (Vl Wd Hs Pg Sc Wt Ws IxAt Look Chain Z5b Flds J0a putS Z2V getS Called Two Step Steps Z3n leaf)
seal L2.PE L2.PA L2.PT L2.PS L2.PSs L2.PG L2.PGs L2.PI L2.PW
theorem Z7n:Z0o ["sign","a","b"] ["sign","a","b"] (Z0d Z2K):=⟨rfl,rfl,rfl,by decide +kernel,rfl,by decide +kernel,by decide +kernel⟩
theorem Z5c:Z0o ["sign","a","b"] ["sign","a","b"] (Z0d Z1G):=⟨rfl,rfl,rfl,by decide +kernel,rfl,by decide +kernel,by decide +kernel⟩
theorem Z9g:Z0o ["number"] ["number"] (Z0d Z2U):=⟨rfl,rfl,rfl,by decide +kernel,rfl,by decide +kernel,by decide +kernel⟩
theorem sc_walked:Z0o ["program","numbers","most","walk","bound","things"] ["program","numbers","most"] (Z0d Z3I):=⟨rfl,rfl,rfl,by decide +kernel,rfl,by decide +kernel,by decide +kernel⟩
theorem Z8O:Z0o ["term"] ["term"] (Z0d Z2Y):=⟨rfl,rfl,rfl,by decide +kernel,rfl,by decide +kernel,by decide +kernel⟩
theorem Z7d:Z0o ["form","label","parts"] ["form","label","parts"] (Z0d Z2G):=⟨rfl,rfl,rfl,by decide +kernel,rfl,by decide +kernel,by decide +kernel⟩
theorem Z7f:Z0o ["pairs"] ["pairs"] (Z0d Z2z):=⟨rfl,rfl,rfl,by decide +kernel,rfl,by decide +kernel,by decide +kernel⟩
theorem sc_program_of:Z0o ["plain","told_houses","told_main","params","kind","body"] ["plain"] (Z0d Z1Y):=⟨rfl,rfl,rfl,by decide +kernel,rfl,by decide +kernel,by decide +kernel⟩
theorem sc_house_of:Z0o ["plain","name","elder","own_fields","own_words"] ["plain"] (Z0d Z2B):=⟨rfl,rfl,rfl,by decide +kernel,rfl,by decide +kernel,by decide +kernel⟩
theorem sc_word_of:Z0o ["plain","name","params","kind","body"] ["plain"] (Z0d Z2X):=⟨rfl,rfl,rfl,by decide +kernel,rfl,by decide +kernel,by decide +kernel⟩
theorem sc_term_of:Z0o ["plain","built","one","inner"] ["plain"] (Z0d Z2W):=⟨rfl,rfl,rfl,by decide +kernel,rfl,by decide +kernel,by decide +kernel⟩
theorem sc_all_within:Z0o ["plain","found","waiting","one"] ["plain"] (Z0d Z1W):=⟨rfl,rfl,rfl,by decide +kernel,rfl,by decide +kernel,by decide +kernel⟩
theorem sc_parts_of:Z0o ["plain","form"] ["plain"] (Z0d Z2H):=⟨rfl,rfl,rfl,by decide +kernel,rfl,by decide +kernel,by decide +kernel⟩
theorem sc_label_of:Z0o ["plain","form"] ["plain"] (Z0d Z2D):=⟨rfl,rfl,rfl,by decide +kernel,rfl,by decide +kernel,by decide +kernel⟩
theorem Z4D:Z0o ["_law_script","_law_k"] ["_law_script","_law_k"] (Z0d Z1q):=⟨rfl,rfl,rfl,by decide +kernel,rfl,by decide +kernel,by decide +kernel⟩
theorem Z5H:Z0o ["_law_cell","_law_k"] ["_law_cell","_law_k"] (Z0d Z1T):=⟨rfl,rfl,rfl,by decide +kernel,rfl,by decide +kernel,by decide +kernel⟩
theorem sc__law_within:Z0o ["_law_term","_law_wraps","_law_cell","_law_k","_law_some"] ["_law_term","_law_wraps","_law_cell"] (Z0d Z1B):=⟨rfl,rfl,rfl,by decide +kernel,rfl,by decide +kernel,by decide +kernel⟩
theorem sc__law_again:Z0o ["_law_word","_law_way","_law_leaf","_law_extra","_law_wraps","_law_less","_law_more"] ["_law_word","_law_way","_law_leaf","_law_extra","_law_wraps"] (Z0d Z2b):=⟨rfl,rfl,rfl,by decide +kernel,rfl,by decide +kernel,by decide +kernel⟩
theorem sc__law_houses:Z0o ["_law_way","_law_leaf","_law_extra","_law_wraps","_law_params","_law_less","_law_old","_law_young"] ["_law_way","_law_leaf","_law_extra","_law_wraps"] (Z0d Z1M):=⟨rfl,rfl,rfl,by decide +kernel,rfl,by decide +kernel,by decide +kernel⟩
theorem sc__law_open:Z0o ["_law_way","_law_house","_law_many","_law_found","_law_k"] ["_law_way","_law_house","_law_many"] (Z0d Z2m):=⟨rfl,rfl,rfl,by decide +kernel,rfl,by decide +kernel,by decide +kernel⟩
theorem sc__law_due:Z0o ["_law_s","_law_turns","_law_way","_law_house","_law_total","_law_calls","_law_many","_law_standing"] ["_law_s","_law_turns","_law_way","_law_house"] (Z0d Z2E):=⟨rfl,rfl,rfl,by decide +kernel,rfl,by decide +kernel,by decide +kernel⟩
theorem sc_law:Z0o ["_law_script","_law_cell","_law_way","_law_house","_law_end","_law_far","_law_leaf","_law_s","_law_turns","_law_k","_law_more","_law_terms","_law_body","_law_term","_law_wraps","_law_plain","_law_program","_law_near","_law_due_here"] ["_law_script"] (Z0d Z8Q):=⟨rfl,rfl,rfl,by decide +kernel,rfl,by decide +kernel,by decide +kernel⟩
theorem sc_Hall___init__:Z0o ["self","program","house"] ["self","program"] (Z0d Z1f):=⟨rfl,rfl,rfl,by decide +kernel,rfl,by decide +kernel,by decide +kernel⟩
theorem J1S:Z0o ["self"] ["self"] (Z0d Z1K):=⟨rfl,rfl,rfl,by decide +kernel,rfl,by decide +kernel,by decide +kernel⟩
theorem sc_Hall_elders:Z0o ["self","house","nearest_first","one"] ["self","house"] (Z0d Z1F):=⟨rfl,rfl,rfl,by decide +kernel,rfl,by decide +kernel,by decide +kernel⟩
theorem sc_Hall_fields:Z0o ["self","house","all_fields","one"] ["self","house"] (Z0d Z1J):=⟨rfl,rfl,rfl,by decide +kernel,rfl,by decide +kernel,by decide +kernel⟩
theorem sc_Hall_place:Z0o ["self","house","field","names"] ["self","house","field"] (Z0d Z1Z):=⟨rfl,rfl,rfl,by decide +kernel,rfl,by decide +kernel,by decide +kernel⟩
theorem sc_Hall_found:Z0o ["self","house","word","one","names"] ["self","house","word"] (Z0d Z1V):=⟨rfl,rfl,rfl,by decide +kernel,rfl,by decide +kernel,by decide +kernel⟩
theorem sc_Hall_found_word:Z0o ["self","house","word","where","name","number"] ["self","house","word"] (Z0d Z0X):=⟨rfl,rfl,rfl,by decide +kernel,rfl,by decide +kernel,by decide +kernel⟩
theorem Z3Y:Z0o ["self","house","own_thing","bound"] ["self","house","own_thing","bound"] (Z0d Z1e):=⟨rfl,rfl,rfl,by decide +kernel,rfl,by decide +kernel,by decide +kernel⟩
theorem sc_Scope_binding:Z0o ["self","name","value","inner"] ["self","name","value"] (Z0d Z1i):=⟨rfl,rfl,rfl,by decide +kernel,rfl,by decide +kernel,by decide +kernel⟩
theorem Z3U:Z0o ["self"] ["self"] (Z0d Z1d):=⟨rfl,rfl,rfl,by decide +kernel,rfl,by decide +kernel,by decide +kernel⟩
theorem Z6a:Z0o ["self","step","term","scope"] ["self","step","term","scope"] (Z0d Z1X):=⟨rfl,rfl,rfl,by decide +kernel,rfl,by decide +kernel,by decide +kernel⟩
theorem Z4l:Z0o ["self"] ["self"] (Z0d Z1g):=⟨rfl,rfl,rfl,by decide +kernel,rfl,by decide +kernel,by decide +kernel⟩
theorem Z3x:Z0o ["self"] ["self"] (Z0d Z0V):=⟨rfl,rfl,rfl,by decide +kernel,rfl,by decide +kernel,by decide +kernel⟩
theorem Z5P:Z0o ["self","value"] ["self","value"] (Z0d Z1Q):=⟨rfl,rfl,rfl,by decide +kernel,rfl,by decide +kernel,by decide +kernel⟩
theorem Z3o:Z0o ["self"] ["self"] (Z0d Z0T):=⟨rfl,rfl,rfl,by decide +kernel,rfl,by decide +kernel,by decide +kernel⟩
theorem sc_Waits_take_values:Z0o ["self","many","taken"] ["self","many"] (Z0d Z0O):=⟨rfl,rfl,rfl,by decide +kernel,rfl,by decide +kernel,by decide +kernel⟩
theorem Z4p:Z0o ["self","program","most"] ["self","program","most"] (Z0d Z1h):=⟨rfl,rfl,rfl,by decide +kernel,rfl,by decide +kernel,by decide +kernel⟩
theorem sc_Walk_told_answer:Z0o ["self","value"] ["self"] (Z0d Z0S):=⟨rfl,rfl,rfl,by decide +kernel,rfl,by decide +kernel,by decide +kernel⟩
theorem sc_Walk_go_on:Z0o ["self","step","term","scope"] ["self"] (Z0d Z1R):=⟨rfl,rfl,rfl,by decide +kernel,rfl,by decide +kernel,by decide +kernel⟩
theorem sc_Walk_begin:Z0o ["self","term","scope","part"] ["self","term","scope"] (Z0d Z2d):=⟨rfl,rfl,rfl,by decide +kernel,rfl,by decide +kernel,by decide +kernel⟩
theorem sc_Walk_choose:Z0o ["self","term","scope","value","parts"] ["self","term","scope"] (Z0d Z1E):=⟨rfl,rfl,rfl,by decide +kernel,rfl,by decide +kernel,by decide +kernel⟩
theorem sc_Walk_finish:Z0o ["self","term","scope","values","inner"] ["self","term","scope"] (Z0d Z1D):=⟨rfl,rfl,rfl,by decide +kernel,rfl,by decide +kernel,by decide +kernel⟩
theorem sc_Walk_two:Z0o ["self","sign","one","other","told"] ["self","sign","one","other"] (Z0d Z2C):=⟨rfl,rfl,rfl,by decide +kernel,rfl,by decide +kernel,by decide +kernel⟩
theorem sc_Walk_call:Z0o ["self","house","word","thing","values","found","bound","scope"] ["self","house","word","thing","values"] (Z0d Z2l):=⟨rfl,rfl,rfl,by decide +kernel,rfl,by decide +kernel,by decide +kernel⟩
theorem Z4n:Z0o ["self","thing"] ["self","thing"] (Z0d Z1l):=⟨rfl,rfl,rfl,by decide +kernel,rfl,by decide +kernel,by decide +kernel⟩
theorem Z4i:Z0o ["self","thing"] ["self","thing"] (Z0d Z1k):=⟨rfl,rfl,rfl,by decide +kernel,rfl,by decide +kernel,by decide +kernel⟩
theorem Z4k:Z0o ["self","thing","field"] ["self","thing","field"] (Z0d Z1m):=⟨rfl,rfl,rfl,by decide +kernel,rfl,by decide +kernel,by decide +kernel⟩
theorem Z4r:Z0o ["self","form","label","parts"] ["self","form","label","parts"] (Z0d Z1n):=⟨rfl,rfl,rfl,by decide +kernel,rfl,by decide +kernel,by decide +kernel⟩
theorem Z5U:Z0o ["self"] ["self"] (Z0d Z1U):=⟨rfl,rfl,rfl,by decide +kernel,rfl,by decide +kernel,by decide +kernel⟩
theorem Z5D:Z0o ["self"] ["self"] (Z0d Z2a):=⟨rfl,rfl,rfl,by decide +kernel,rfl,by decide +kernel,by decide +kernel⟩
theorem Z6b:Z0o ["self"] ["self"] (Z0d Z1S):=⟨rfl,rfl,rfl,by decide +kernel,rfl,by decide +kernel,by decide +kernel⟩
theorem Z6L:Z0o ["self"] ["self"] (Z0d Z2j):=⟨rfl,rfl,rfl,by decide +kernel,rfl,by decide +kernel,by decide +kernel⟩
theorem Z4j:Z0o ["self","name","params","kind","body"] ["self","name","params","kind","body"] (Z0d Z1j):=⟨rfl,rfl,rfl,by decide +kernel,rfl,by decide +kernel,by decide +kernel⟩
theorem Z4a:Z0o ["self","name","elder","own_fields","own_words"] ["self","name","elder","own_fields","own_words"] (Z0d Z1c):=⟨rfl,rfl,rfl,by decide +kernel,rfl,by decide +kernel,by decide +kernel⟩
theorem Z3t:Z0o ["self","all_houses","main"] ["self","all_houses","main"] (Z0d Z0R):=⟨rfl,rfl,rfl,by decide +kernel,rfl,by decide +kernel,by decide +kernel⟩
structure Txt (K:W.Frag) (mg:Str→Option Value) (Cl:Addr) (Cs:Addr) (Cq:Addr) (Ck:Addr) (Ct:Addr) (Cw:Addr) (Ch:Addr) (Cp:Addr):Prop where
  z_abs:mg "abs"=none
  z_dict:mg "dict"=none
  z_int:mg "int"=none
  z_isinstance:mg "isinstance"=none
  z_len:mg "len"=none
  z_list:mg "list"=none
  z_max:mg "max"=none
  z_range:mg "range"=none
  z_repr:mg "repr"=none
  z_reversed:mg "reversed"=none
  z_sum:mg "sum"=none
  z_tuple:mg "tuple"=none
  z_zip:mg "zip"=none
  c_GREATEST:Cst mg "GREATEST" (.int 1000000000000000)
  c_MOST_WITHIN:Cst mg "MOST_WITHIN" (.int 40)
  f__wall:Fn K mg "_wall" Z5N
  f_two_told:Fn K mg "two_told" Z2K
  f_number_told:Fn K mg "number_told" Z1G
  f_bounded:Fn K mg "bounded" Z2U
  f_walked:FnD K mg "walked" Z3I (.int 100)
  f_chooses:Fn K mg "chooses" Z2Y
  f_shape_of:Fn K mg "shape_of" Z2G
  f_pairs_of:Fn K mg "pairs_of" Z2z
  f_program_of:Fn K mg "program_of" Z1Y
  f_house_of:Fn K mg "house_of" Z2B
  f_word_of:Fn K mg "word_of" Z2X
  f_term_of:Fn K mg "term_of" Z2W
  f_all_within:Fn K mg "all_within" Z1W
  f_parts_of:Fn K mg "parts_of" Z2H
  f_label_of:Fn K mg "label_of" Z2D
  f__law_cell_at:Fn K mg "_law_cell_at" Z1q
  f__law_mixed:Fn K mg "_law_mixed" Z1T
  f__law_within:Fn K mg "_law_within" Z1B
  f__law_again:Fn K mg "_law_again" Z2b
  f__law_houses:Fn K mg "_law_houses" Z1M
  f__law_open:Fn K mg "_law_open" Z2m
  f__law_due:Fn K mg "_law_due" Z2E
  f_law:Fn K mg "law" Z8Q
  Hall:Z4R K mg "Hall" Cl
  n_Hall_by_name:NoAttr K Cl "by_name"
  n_Hall_in_order:NoAttr K Cl "in_order"
  Scope:Z4R K mg "Scope" Cs
  n_Scope_bound:NoAttr K Cs "bound"
  n_Scope_house:NoAttr K Cs "house"
  n_Scope_own_thing:NoAttr K Cs "own_thing"
  Waits:Z4R K mg "Waits" Cq
  n_Waits_known:NoAttr K Cq "known"
  n_Waits_waiting:NoAttr K Cq "waiting"
  Walk:Z4R K mg "Walk" Ck
  n_Walk_counted:NoAttr K Ck "counted"
  n_Walk_ended:NoAttr K Ck "ended"
  n_Walk_hall:NoAttr K Ck "hall"
  n_Walk_made:NoAttr K Ck "made"
  n_Walk_most:NoAttr K Ck "most"
  n_Walk_waits:NoAttr K Ck "waits"
  n_Walk_within:NoAttr K Ck "within"
  Term:Z4R K mg "Term" Ct
  n_Term_deep:NoAttr K Ct "deep"
  n_Term_form:NoAttr K Ct "form"
  n_Term_inner:NoAttr K Ct "inner"
  n_Term_label:NoAttr K Ct "label"
  n_Term_many:NoAttr K Ct "many"
  n_Term_shape:NoAttr K Ct "shape"
  Word:Z4R K mg "Word" Cw
  n_Word_body:NoAttr K Cw "body"
  n_Word_kind:NoAttr K Cw "kind"
  n_Word_name:NoAttr K Cw "name"
  n_Word_params:NoAttr K Cw "params"
  House:Z4R K mg "House" Ch
  n_House_elder:NoAttr K Ch "elder"
  n_House_name:NoAttr K Ch "name"
  n_House_own_fields:NoAttr K Ch "own_fields"
  n_House_own_words:NoAttr K Ch "own_words"
  Program:Z4R K mg "Program" Cp
  n_Program_all_houses:NoAttr K Cp "all_houses"
  n_Program_main:NoAttr K Cp "main"
  m_Hall___init__:MFn K Cl "__init__" "Hall.__init__" Z1f
  m_Hall_houses:MFn K Cl "houses" "Hall.houses" Z1K
  m_Hall_elders:MFn K Cl "elders" "Hall.elders" Z1F
  m_Hall_younger:MFn K Cl "younger" "Hall.younger" Z1P
  m_Hall_fields:MFn K Cl "fields" "Hall.fields" Z1J
  m_Hall_place:MFn K Cl "place" "Hall.place" Z1Z
  m_Hall_found:MFn K Cl "found" "Hall.found" Z1V
  m_Hall_head:MFn K Cl "head" "Hall.head" Z2O
  m_Hall_found_word:MFn K Cl "found_word" "Hall.found_word" Z0X
  m_Scope___init__:MFn K Cs "__init__" "Scope.__init__" Z1e
  m_Scope_binding:MFn K Cs "binding" "Scope.binding" Z1i
  m_Waits___init__:MFn K Cq "__init__" "Waits.__init__" Z1d
  m_Waits_wait:MFn K Cq "wait" "Waits.wait" Z1X
  m_Waits_is_over:MFn K Cq "is_over" "Waits.is_over" Z1g
  m_Waits_take_step:MFn K Cq "take_step" "Waits.take_step" Z0V
  m_Waits_know:MFn K Cq "know" "Waits.know" Z1Q
  m_Waits_take_value:MFn K Cq "take_value" "Waits.take_value" Z0T
  m_Waits_take_values:MFn K Cq "take_values" "Waits.take_values" Z0O
  m_Walk___init__:MFn K Ck "__init__" "Walk.__init__" Z1h
  m_Walk_told_answer:MFn K Ck "told_answer" "Walk.told_answer" Z0S
  m_Walk_go_on:MFn K Ck "go_on" "Walk.go_on" Z1R
  m_Walk_begin:MFn K Ck "begin" "Walk.begin" Z2d
  m_Walk_choose:MFn K Ck "choose" "Walk.choose" Z1E
  m_Walk_finish:MFn K Ck "finish" "Walk.finish" Z1D
  m_Walk_two:MFn K Ck "two" "Walk.two" Z2C
  m_Walk_call:MFn K Ck "call" "Walk.call" Z2l
  m_Walk_house_of:MFn K Ck "house_of" "Walk.house_of" Z1l
  m_Walk_inner_of:MFn K Ck "inner_of" "Walk.inner_of" Z1k
  m_Walk_place_in:MFn K Ck "place_in" "Walk.place_in" Z1m
  m_Term___init__:MFn K Ct "__init__" "Term.__init__" Z1n
  m_Term_plain:MFn K Ct "plain" "Term.plain" Z1U
  m_Term_parts:MFn K Ct "parts" "Term.parts" Z2a
  m_Term_depth:MFn K Ct "depth" "Term.depth" Z1S
  m_Term_size:MFn K Ct "size" "Term.size" Z2j
  m_Word___init__:MFn K Cw "__init__" "Word.__init__" Z1j
  m_Word_plain:MFn K Cw "plain" "Word.plain" Z2q
  m_House___init__:MFn K Ch "__init__" "House.__init__" Z1c
  m_House_plain:MFn K Ch "plain" "House.plain" Z2h
  m_Program___init__:MFn K Cp "__init__" "Program.__init__" Z0R
  m_Program_plain:MFn K Cp "plain" "Program.plain" Z1I
  m_Program_bodies:MFn K Cp "bodies" "Program.bodies" Z1s
def isA:Fm→Bool | .self | .nt | .iff=>true | _=>false
def isN:Fm→Bool | .new | .elder=>true | _=>false
def isF:Fm→Bool | .field | .set=>true | _=>false
theorem inA (f:Fm):inV (V.str f.s) [V.str (Str.ofString "self"),V.str (Str.ofString "not"),V.str (Str.ofString "if")]=isA f:=by cases f <;> decide +kernel
theorem inN (f:Fm):inV (V.str f.s) [V.str (Str.ofString "new"),V.str (Str.ofString "elder")]=isN f:=by cases f <;> decide +kernel
theorem inF (f:Fm):inV (V.str f.s) [V.str (Str.ofString "field"),V.str (Str.ofString "set")]=isF f:=by cases f <;> decide +kernel
theorem isC (f:Fm):f.s=Str.ofString "call"→f=.call:=by cases f <;> first | exact fun _=>rfl | exact fun h=>absurd h (by decide +kernel)
theorem shA {f:Fm} {l:Lb} {ds:List PyData} (h:isA f=true):Z3g f l ds=.str f.s::ds:=by cases f <;> first | rfl | cases h
theorem shN {f:Fm} {l:Lb} {ds:List PyData} (h:isN f=true):Z3g f l ds=[.str f.s,l.d,.tuple ds]:=by cases f <;> first | rfl | cases h
theorem shF {f:Fm} {l:Lb} {d:PyData} {ds:List PyData} (h:isF f=true):Z3g f l (d::ds)=.str f.s::d::l.d::ds:=by cases f <;> first | rfl | cases h
theorem shR {f:Fm} {l:Lb} {ds:List PyData} (h1:¬ isA f=true) (h2:¬ isN f=true) (h3:¬ f=.call) (h4:¬ isF f=true):Z3g f l ds=.str f.s::l.d::ds:=by cases f <;> first | rfl | exact absurd rfl h1 | exact absurd rfl h2 | exact absurd rfl h3 | exact absurd rfl h4
theorem Z3R {f:Fm} {l:Lb} {ds:List PyData} (h:okF f l ds.length) (c:f=.call∨isF f=true):∃ d r,ds=d::r:=by
  cases ds with
  | cons d r=>exact ⟨d,r,rfl⟩
  | nil=>
    cases f <;> cases l <;> first | (rcases c with c | c <;> cases c; done) | exact absurd h (by decide) | cases h
theorem cut1 (x:V) (xs:List V):cutV (x::xs) (some 1) none=xs:=by
  rw [show (some (1:Int))=some ((1:Nat):Int) from rfl]
  unfold cutV
  simp [HT.sIx]
inductive Z8e (K:W.Frag) (vs:List V) (H:Hp) (Q:VK):Prop
  | mk (f:Fm) (l:Lb) (p:Addr) (us:List V) (ds:List PyData) (a1:vs=[.str f.s,lbV l,.ref p]) (a2:SqT K H p us) (a3:RTs K H us ds) (a4:okF f l ds.length) (a5:ds.length≤100) (a6:∀ r ws H',Same H H'→SqT K H' r ws→RTs K H' ws (Z3g f l ds)→Q (.ref r) H'):Z8e K vs H Q
def Z7y (K:W.Frag):Sp:=fun vs H Q _=>Z8e K vs H Q
section
variable {Cl Cs Cq Ck Ct Cw Ch Cp:Addr} {P:Program} {w:World} {K:W.Frag} {mg:Str→Option Value} {base:Heap}
theorem J2S (T:Txt K mg Cl Cs Cq Ck Ct Cw Ch Cp):Has P w K mg base 1 "shape_of" ["form","label","parts"] (Z7y K):=by
  refine Has.of T.f_shape_of Z7d (fun _ _ _ _ _ _ us hl=>el3 us hl fun _ _ _=>rfl) (fun vs H Q E h=>?_) (fun f cdv A outer s H vs Q E hr h=>?_)
  · obtain ⟨f,l,p,us,ds,rfl,_⟩:=h
    rfl
  obtain ⟨f,l,p,us,ds,rfl,hp,hu,hok,hl,q⟩:=h
  refine ⟨_,(Z0c (Z0H (Z0p (r:=rIn K false) Z0U (pvF 0) (Z0k (Z0a Z0f (Z0a Z0f (Z0a Z0f Z0b)))) (by with_unfolding_all rfl)) (Z0e (Z0q (Z0y (r:=Z5K K) Z3r (Z0k (Z0a (pvF 0) Z0b)) (pvF 2)))) Z0A)
    (Z0c (Z0H (Z0p (r:=rIn K false) Z0U (pvF 0) (Z0k (Z0a Z0f (Z0a Z0f Z0b))) (by with_unfolding_all rfl)) (Z0e (Z0q (Z0k (Z0a (pvF 0) (Z0a (pvF 1) (Z0a (pvF 2) Z0b)))))) Z0A)
    (Z0c (Z0H (Z0p Z1a (pvF 0) Z0f (Z0x _)) (Z0e (Z0q (Z0k (Z0a (pvF 0) (Z0a (Z0L (r:=Z2o K) Z0W (pvF 2) Z0h (fun _ _=>rfl)) (Z0a (pvF 1) (Z0a (Z2N (r:=rSlA K) Z4S (pvF 2) (Z3u Z0h) Z3q) Z0b))))))) Z0A)
    (Z0c (Z0H (Z0p (r:=rIn K false) Z0U (pvF 0) (Z0k (Z0a Z0f (Z0a Z0f Z0b))) (by with_unfolding_all rfl)) (Z0e (Z0q (Z0y (r:=Z5K K) Z3r (Z0k (Z0a (pvF 0) (Z0a (Z0L (r:=Z2o K) Z0W (pvF 2) Z0h (fun _ _=>rfl)) (Z0a (pvF 1) Z0b)))) (Z2N (r:=rSlA K) Z4S (pvF 2) (Z3u Z0h) Z3q)))) Z0A)
    (Z0e (Z0q (Z0y (r:=Z5K K) Z3r (Z0k (Z0a (pvF 0) (Z0a (pvF 1) Z0b))) (pvF 2)))))))),?_⟩
  walk_at "rd"
  have hus:us.length≤100:=by rw [hu.length]; exact hl
  refine New.of fun p1 H1 h1 s1 e1=>?_
  refine ⟨_,.inr (SqT.of e1),rfl,rfl,?_⟩
  rw [inA]
  refine ite2 (fun c=>?_) (fun cA=>?_)
  · skip
    refine New.of fun p2 H2 h2 s2 e2=>?_
    have S:=s1.trans s2
    refine ⟨_,_,_,_,rfl,rfl,SqT.of e2,hp.same S,by rw [sizeLine_eq]; show 1+us.length≤_; omega,fun r H' s' hr=>q r _ H' (S.trans s') hr ?_⟩
    rw [shA c]
    exact .cons (.str _) (hu.same (S.trans s'))
  refine New.of fun p2 H2 h2 s2 e2=>?_
  refine ⟨_,.inr (SqT.of e2),rfl,rfl,?_⟩
  rw [inN]
  have S2:=s1.trans s2
  refine ite2 (fun c=>?_) (fun cN=>?_)
  · skip
    refine New.of fun p3 H3 h3 s3 e3=>?_
    have S:=S2.trans s3
    refine q _ _ H3 S (SqT.of e3) ?_
    rw [shN c]
    exact .cons (.str _) (.cons (J3n l) (.cons (.tup (hp.same S) (hu.same S)) .nil))
  refine ite2 (fun c=>?_) (fun cC=>?_)
  · obtain ⟨d,r,rfl⟩:=Z3R hok (.inl (isC f c))
    obtain ⟨v,vr,rfl,hv,hr'⟩:=hu.inv
    refine ⟨_,hp.same S2,v,ix0,?_⟩
    refine ⟨p,_,rfl,hp.same S2,fun p3 H3 s3 h3=>?_⟩
    rw [cut1] at h3
    refine New.of fun p4 H4 h4 s4 e4=>?_
    have S:=S2.trans (s3.trans s4)
    refine q _ _ H4 S (SqT.of e4) ?_
    cases isC f c
    exact .cons (.str _) (.cons (hv.same S) (.cons (J3n l) (.cons (.tup (h3.same s4) (hr'.same S)) .nil)))
  have cC':¬ f=.call:=fun z=>cC (by rw [z]; rfl)
  refine New.of fun p3 H3 h3 s3 e3=>?_
  refine ⟨_,.inr (SqT.of e3),rfl,rfl,?_⟩
  rw [inF]
  have S3:=S2.trans s3
  refine ite2 (fun c=>?_) (fun cF=>?_)
  · obtain ⟨d,r,rfl⟩:=Z3R hok (.inr c)
    obtain ⟨v,vr,rfl,hv,hr'⟩:=hu.inv
    refine ⟨_,hp.same S3,v,ix0,?_⟩
    refine New.of fun p4 H4 h4 s4 e4=>?_
    have S4:=S3.trans s4
    refine ⟨p,_,rfl,hp.same S4,fun p5 H5 s5 h5=>?_⟩
    rw [cut1] at h5
    refine ⟨_,_,_,_,rfl,rfl,SqT.of (s5 _ _ e4),h5,by rw [sizeLine_eq]; show 3+vr.length≤_; simp at hus; omega,fun r' H' s' hr=>q r' _ H' (S4.trans (s5.trans s')) hr ?_⟩
    rw [shF c]
    have S:=S4.trans (s5.trans s')
    exact .cons (.str _) (.cons (hv.same S) (.cons (J3n l) (hr'.same S)))
  refine New.of fun p4 H4 h4 s4 e4=>?_
  have S4:=S3.trans s4
  refine ⟨_,_,_,_,rfl,rfl,SqT.of e4,hp.same S4,by rw [sizeLine_eq]; show 2+us.length≤_; omega,fun r H' s' hr=>q r _ H' (S4.trans s') hr ?_⟩
  rw [shR cA cN cC' cF]
  exact .cons (.str _) (.cons (J3n l) (hu.same (S4.trans s')))
end
inductive Z7X (K:W.Frag) (vs:List V) (H:Hp) (Q:VK):Prop
  | mk (f:Fm) (l:Lb) (p:Addr) (ws:List V) (ds:List PyData) (a1:vs=[.ref p]) (a2:SqT K H p ws) (a3:RTs K H ws (Z3g f l ds)) (a4:okF f l ds.length) (a5:ds.length≤100) (a6:∀ r us H',Same H H'→SqT K H' r us→RTs K H' us ds→Q (.ref r) H'):Z7X K vs H Q
def Z5S (K:W.Frag):Sp:=fun vs H Q _=>Z7X K vs H Q
inductive Z7T (K:W.Frag) (vs:List V) (H:Hp) (Q:VK):Prop
  | mk (f:Fm) (l:Lb) (p:Addr) (ws:List V) (ds:List PyData) (a1:vs=[.ref p]) (a2:SqT K H p ws) (a3:RTs K H ws (Z3g f l ds)) (a4:okF f l ds.length) (a5:∀ H',Same H H'→Q (lbV l) H'):Z7T K vs H Q
def Z7E (K:W.Frag):Sp:=fun vs H Q _=>Z7T K vs H Q
section
variable {Cl Cs Cq Ck Ct Cw Ch Cp:Addr} {P:Program} {w:World} {K:W.Frag} {mg:Str→Option Value} {base:Heap}
theorem x_hd {f:Fm} {l:Lb} {ds:List PyData} (h:okF f l ds.length):∃ r,Z3g f l ds=.str f.s::r:=by
  by_cases c:f=.call∨isF f=true
  · obtain ⟨d,r,rfl⟩:=Z3R h c
    rcases c with rfl | c
    · exact ⟨_,rfl⟩
    · exact ⟨_,shF c⟩
  · by_cases cA:isA f=true
    · exact ⟨_,shA cA⟩
    by_cases cN:isN f=true
    · exact ⟨_,shN cN⟩
    exact ⟨_,shR cA cN (fun z=>c (.inl z)) (fun z=>c (.inr z))⟩
def isB:Fm→Bool | .nt | .iff=>true | _=>false
def isD:Fm→Bool | .two | .lt=>true | _=>false
def isE:Fm→Bool | .field | .call | .set=>true | _=>false
theorem inB (f:Fm):inV (V.str f.s) [V.str (Str.ofString "not"),V.str (Str.ofString "if")]=isB f:=by cases f <;> decide +kernel
theorem inD (f:Fm):inV (V.str f.s) [V.str (Str.ofString "two"),V.str (Str.ofString "let")]=isD f:=by cases f <;> decide +kernel
theorem inE (f:Fm):inV (V.str f.s) [V.str (Str.ofString "field"),V.str (Str.ofString "call"),V.str (Str.ofString "set")]=isE f:=by cases f <;> decide +kernel
theorem shB {f:Fm} {l:Lb} {ds:List PyData} (h:isB f=true):Z3g f l ds=.str f.s::ds:=by cases f <;> first | rfl | cases h
theorem shD {f:Fm} {l:Lb} {ds:List PyData} (h:isD f=true):Z3g f l ds=.str f.s::l.d::ds:=by cases f <;> first | rfl | cases h
theorem ok0 {f:Fm} {l:Lb} {ds:List PyData} (h:okF f l ds.length) (c1:¬ isB f=true) (c2:¬ isD f=true) (c3:¬ isN f=true) (c4:¬ f=.call) (c5:¬ isF f=true):ds=[]:=by
  cases f <;> cases l <;> first | exact List.length_eq_zero_iff.mp h | exact absurd rfl c1 | exact absurd rfl c2 | exact absurd rfl c3 | exact absurd rfl c4 | exact absurd rfl c5 | cases h
theorem okA {f:Fm} {l:Lb} {n:Nat} (h:okF f l n) (c:isA f=true):l=.non:=by
  cases f <;> cases l <;> first | rfl | (cases c; done) | cases h
theorem cut2 (x y:V) (xs:List V):cutV (x::y::xs) (some 2) none=xs:=by
  rw [show (some (2:Int))=some ((2:Nat):Int) from rfl]
  unfold cutV
  simp [HT.sIx]
theorem cut3 (x y z:V) (xs:List V):cutV (x::y::z::xs) (some 3) none=xs:=by
  rw [show (some (3:Int))=some ((3:Nat):Int) from rfl]
  unfold cutV
  simp [HT.sIx]
theorem J3p (T:Txt K mg Cl Cs Cq Ck Ct Cw Ch Cp):Has P w K mg base 1 "parts_of" ["plain"] (Z5S K):=by
  refine Has.of T.f_parts_of sc_parts_of (fun _ _ _ _ _ _ us hl=>el1 us hl fun _=>rfl) (fun vs H Q E h=>?_) (fun f cdv A outer s H vs Q E hr h=>?_)
  · obtain ⟨f,l,p,us,ds,rfl,_⟩:=h
    rfl
  obtain ⟨f,l,p,ws,ds,rfl,hp,hw,hok,hl,q⟩:=h
  refine ⟨_,(Z0c (Z0u (i:=1) sc_parts_of.nd rfl (Or.inl rfl) (Z0L (r:=Z2o K) Z0W (pvF 0) Z0h (fun _ _=>rfl)))
    (Z0c (Z0H (Z0p (r:=rIn K false) Z0U (pvF 1) (Z0k (Z0a Z0f (Z0a Z0f Z0b))) (by with_unfolding_all rfl)) (Z0e (Z0q (Z2N (r:=rSlA K) Z4S (pvF 0) (Z3u Z0h) Z3q))) Z0A)
    (Z0c (Z0H (Z0p (r:=rIn K false) Z0U (pvF 1) (Z0k (Z0a Z0f (Z0a Z0f Z0b))) (by with_unfolding_all rfl)) (Z0e (Z0q (Z2N (r:=rSlA K) Z4S (pvF 0) (Z3u Z0h) Z3q))) Z0A)
    (Z0c (Z0H (Z0p (r:=rIn K false) Z0U (pvF 1) (Z0k (Z0a Z0f (Z0a Z0f Z0b))) (by with_unfolding_all rfl)) (Z0e (Z0q (Z0L (r:=Z2o K) Z0W (pvF 0) Z0h (fun _ _=>rfl)))) Z0A)
    (Z0c (Z0H (Z0p Z1a (pvF 1) Z0f (Z0x _)) (Z0e (Z0q (Z0y (r:=Z5K K) Z3r (Z0k (Z0a (Z0L (r:=Z2o K) Z0W (pvF 0) Z0h (fun _ _=>rfl)) Z0b)) (Z0L (r:=Z2o K) Z0W (pvF 0) Z0h (fun _ _=>rfl))))) Z0A)
    (Z0c (Z0H (Z0p (r:=rIn K false) Z0U (pvF 1) (Z0k (Z0a Z0f (Z0a Z0f Z0b))) (by with_unfolding_all rfl)) (Z0e (Z0q (Z0y (r:=Z5K K) Z3r (Z0k (Z0a (Z0L (r:=Z2o K) Z0W (pvF 0) Z0h (fun _ _=>rfl)) Z0b)) (Z2N (r:=rSlA K) Z4S (pvF 0) (Z3u Z0h) Z3q)))) Z0A)
    (Z0e (Z0q (Z0k Z0b))))))))),?_⟩
  refine seq2 fun uz1 huz1=>?_
  walk_at "rd"
  obtain ⟨r0,er⟩:=x_hd hok
  have hw0:=hw
  rw [er] at hw0
  obtain ⟨v0,wr,rfl,hv0,hwr⟩:=hw0.inv
  cases hv0.str_inv
  refine ⟨_,hp,_,ix0,?_⟩
  subst huz1
  walk_at "rd"
  refine New.of fun p1 H1 h1 s1 e1=>?_
  refine ⟨_,.inr (SqT.of e1),rfl,rfl,?_⟩
  rw [inB]
  refine ite2 (fun c=>?_) (fun cB=>?_)
  · refine ⟨p,_,rfl,hp.same s1,fun r H' s' hr=>?_⟩
    rw [cut1] at hr
    rw [shB c] at er
    cases er
    exact q r _ H' (s1.trans s') hr (hwr.same (s1.trans s'))
  refine New.of fun p2 H2 h2 s2 e2=>?_
  refine ⟨_,.inr (SqT.of e2),rfl,rfl,?_⟩
  rw [inD]
  have S2:=s1.trans s2
  refine ite2 (fun c=>?_) (fun cD=>?_)
  · rw [shD c] at er
    cases er
    obtain ⟨v1,wr,rfl,_,hwr⟩:=hwr.inv
    refine ⟨p,_,rfl,hp.same S2,fun r H' s' hr=>?_⟩
    rw [cut2] at hr
    exact q r _ H' (S2.trans s') hr (hwr.same (S2.trans s'))
  refine New.of fun p3 H3 h3 s3 e3=>?_
  refine ⟨_,.inr (SqT.of e3),rfl,rfl,?_⟩
  rw [inN]
  have S3:=S2.trans s3
  refine ite2 (fun c=>?_) (fun cN=>?_)
  · rw [shN c] at er
    cases er
    obtain ⟨v1,wr,rfl,_,hwr⟩:=hwr.inv
    obtain ⟨v2,wr,rfl,h2,_⟩:=hwr.inv
    obtain ⟨a,us,rfl,ha,hu⟩:=h2.tup_inv
    exact ⟨_,hp.same S3,_,ix2,q a us H3 S3 (ha.same S3) (hu.same S3)⟩
  refine ite2 (fun c=>?_) (fun cC=>?_)
  · obtain ⟨d,r,rfl⟩:=Z3R hok (.inl (isC f c))
    cases isC f c
    cases er
    obtain ⟨v1,wr,rfl,h1',hwr⟩:=hwr.inv
    obtain ⟨v2,wr,rfl,_,hwr⟩:=hwr.inv
    obtain ⟨v3,wr,rfl,h3',_⟩:=hwr.inv
    obtain ⟨a,us,rfl,ha,hu⟩:=h3'.tup_inv
    refine ⟨_,hp.same S3,_,ix1,?_⟩
    refine New.of fun p4 H4 h4 s4 e4=>?_
    have S4:=S3.trans s4
    refine ⟨_,hp.same S4,_,ix3,_,_,_,_,rfl,rfl,SqT.of e4,ha.same S4,?_,fun r' H' s' hr=>q r' _ H' (S4.trans s') hr (.cons (h1'.same (S4.trans s')) (hu.same (S4.trans s')))⟩
    rw [sizeLine_eq,hu.length]
    simp only [List.length_cons,List.length_nil] at hl ⊢
    omega
  have cC':¬ f=.call:=fun z=>cC (by rw [z]; rfl)
  refine New.of fun p4 H4 h4 s4 e4=>?_
  refine ⟨_,.inr (SqT.of e4),rfl,rfl,?_⟩
  rw [inF]
  have S4:=S3.trans s4
  refine ite2 (fun c=>?_) (fun cF=>?_)
  · obtain ⟨d,r,rfl⟩:=Z3R hok (.inr c)
    rw [shF c] at er
    cases er
    obtain ⟨v1,wr,rfl,h1',hwr⟩:=hwr.inv
    obtain ⟨v2,wr,rfl,_,hwr⟩:=hwr.inv
    refine ⟨_,hp.same S4,_,ix1,?_⟩
    refine New.of fun p5 H5 h5 s5 e5=>?_
    have S5:=S4.trans s5
    refine ⟨p,_,rfl,hp.same S5,fun p6 H6 s6 h6=>?_⟩
    rw [cut3] at h6
    refine ⟨_,_,_,_,rfl,rfl,SqT.of (s6 _ _ e5),h6,?_,fun r' H' s' hr=>q r' _ H' (S5.trans (s6.trans s')) hr (.cons (h1'.same (S5.trans (s6.trans s'))) (hwr.same (S5.trans (s6.trans s'))))⟩
    rw [sizeLine_eq,hwr.length]
    simp only [List.length_cons,List.length_nil] at hl ⊢
    omega
  refine New.of fun p5 H5 h5 s5 e5=>?_
  cases ok0 hok cB cD cN cC' cF
  exact q _ _ H5 (S4.trans s5) (SqT.of e5) .nil
theorem J2a (T:Txt K mg Cl Cs Cq Ck Ct Cw Ch Cp):Has P w K mg base 1 "label_of" ["plain"] (Z7E K):=by
  refine Has.of T.f_label_of sc_label_of (fun _ _ _ _ _ _ us hl=>el1 us hl fun _=>rfl) (fun vs H Q E h=>?_) (fun f cdv A outer s H vs Q E hr h=>?_)
  · obtain ⟨f,l,p,us,ds,rfl,_⟩:=h
    rfl
  obtain ⟨f,l,p,ws,ds,rfl,hp,hw,hok,q⟩:=h
  refine ⟨_,(Z0c (Z0u (i:=1) sc_label_of.nd rfl (Or.inl rfl) (Z0L (r:=Z2o K) Z0W (pvF 0) Z0h (fun _ _=>rfl)))
    (Z0c (Z0H (Z0p (r:=rIn K false) Z0U (pvF 1) (Z0k (Z0a Z0f (Z0a Z0f (Z0a Z0f Z0b)))) (by with_unfolding_all rfl)) (Z0e (Z0q Z2e)) Z0A)
    (Z0c (Z0H (Z0p (r:=rIn K false) Z0U (pvF 1) (Z0k (Z0a Z0f (Z0a Z0f (Z0a Z0f Z0b)))) (by with_unfolding_all rfl)) (Z0e (Z0q (Z0L (r:=Z2o K) Z0W (pvF 0) Z0h (fun _ _=>rfl)))) Z0A)
    (Z0e (Z0q (Z0L (r:=Z2o K) Z0W (pvF 0) Z0h (fun _ _=>rfl))))))),?_⟩
  refine seq2 fun uz1 huz1=>?_
  walk_at "rd"
  obtain ⟨r0,er⟩:=x_hd hok
  have hw0:=hw
  rw [er] at hw0
  obtain ⟨v0,wr,rfl,hv0,hwr⟩:=hw0.inv
  cases hv0.str_inv
  refine ⟨_,hp,_,ix0,?_⟩
  subst huz1
  walk_at "rd"
  refine New.of fun p1 H1 h1 s1 e1=>?_
  refine ⟨_,.inr (SqT.of e1),rfl,rfl,?_⟩
  rw [inA]
  refine ite2 (fun c=>?_) (fun cA=>?_)
  · cases okA hok c
    exact q H1 s1
  refine New.of fun p2 H2 h2 s2 e2=>?_
  refine ⟨_,.inr (SqT.of e2),rfl,rfl,?_⟩
  rw [inE]
  have S2:=s1.trans s2
  refine ite2 (fun c=>?_) (fun cE=>?_)
  · have cc:f=.call∨isF f=true:=by cases f <;> first | exact .inl rfl | exact .inr rfl | cases c
    obtain ⟨d,r,rfl⟩:=Z3R hok cc
    have er2:∃ r2,Z3g f l (d::r)=.str f.s::d::l.d::r2:=by
      rcases cc with rfl | cc
      · exact ⟨_,rfl⟩
      · exact ⟨_,shF cc⟩
    obtain ⟨r2,er2⟩:=er2
    rw [er2] at er
    cases er
    obtain ⟨v1,wr,rfl,_,hwr⟩:=hwr.inv
    obtain ⟨v2,wr,rfl,h2,_⟩:=hwr.inv
    cases J4j h2
    exact ⟨_,hp.same S2,_,ix2,q H2 S2⟩
  have er2:∃ r2,Z3g f l ds=.str f.s::l.d::r2:=by
    by_cases cN:isN f=true
    · exact ⟨_,shN cN⟩
    · refine ⟨_,shR cA cN (fun z=>cE (by rw [z]; rfl)) (fun z=>cE ?_)⟩
      cases f <;> first | rfl | cases z
  obtain ⟨r2,er2⟩:=er2
  rw [er2] at er
  cases er
  obtain ⟨v1,wr,rfl,h1',_⟩:=hwr.inv
  cases J4j h1'
  exact ⟨_,hp.same S2,_,ix1,q H2 S2⟩
end
inductive Z6z (C:Addr) (K:W.Frag) (vs:List V) (H:Hp) (Q:VK):Prop
  | mk (v:V) (t:Tm) (a1:vs=[v]) (a2:TO K C H v t) (a3:∀ u,RT K H u t.dat→Q u H):Z6z C K vs H Q
def Z6W (C:Addr) (K:W.Frag):Sp:=fun vs H Q _=>Z6z C K vs H Q
inductive Z6N (C:Addr) (K:W.Frag) (vs:List V) (H:Hp) (Q:VK):Prop
  | mk (v:V) (t:Tm) (a1:vs=[v]) (a2:TO K C H v t) (a3:∀ l us,H l=none→TOs K C H us t.ps→Q (.ref l) (upd H l (.lst us))):Z6N C K vs H Q
def Z3H (C:Addr) (K:W.Frag):Sp:=fun vs H Q _=>Z6N C K vs H Q
inductive Z6l (C:Addr) (K:W.Frag) (vs:List V) (H:Hp) (Q:VK):Prop
  | mk (v:V) (t:Tm) (a1:vs=[v]) (a2:TO K C H v t) (a3:Q (.int (t.depth:Nat)) H):Z6l C K vs H Q
def Z6H (C:Addr) (K:W.Frag):Sp:=fun vs H Q _=>Z6l C K vs H Q
inductive Z7J (C:Addr) (K:W.Frag) (vs:List V) (H:Hp) (Q:VK):Prop
  | mk (v:V) (t:Tm) (a1:vs=[v]) (a2:TO K C H v t) (a3:Q (.int (t.size:Nat)) H):Z7J C K vs H Q
def Z8c (C:Addr) (K:W.Frag):Sp:=fun vs H Q _=>Z7J C K vs H Q
section
variable {Cl Cs Cq Ck Ct Cw Ch Cp:Addr} {P:Program} {w:World} {K:W.Frag} {mg:Str→Option Value} {base:Heap}
theorem J0G (T:Txt K mg Cl Cs Cq Ck Ct Cw Ch Cp):HasM P w K mg base 1 Ct "plain" ["self"] (Z6W Ct K):=by
  refine HasM.of T.m_Term_plain Z5U (fun _ _ _ _ _ _ us hl=>el1 us hl fun _=>rfl) (fun vs H Q E h=>?_) (fun f cdv A outer s H vs Q E hr h=>?_)
  · obtain ⟨v,t,rfl,_⟩:=h
    rfl
  obtain ⟨v,t,rfl,h,q⟩:=h
  refine ⟨_,(Z0e (Z0q (Z0i (pvF 0) rfl))),?_⟩
  walk_at "rd"
  obtain ⟨a,dx,inn,sh,us,ws,rfl,ha,hi,hus,hs,hw⟩:=h.inv
  refine ⟨a,rfl,Ct,dx,_,ha,T.Term.cl,T.n_Term_shape,.ref sh,rfl,q _ ?_⟩
  cases t
  exact .tup hs hw
theorem J1l (T:Txt K mg Cl Cs Cq Ck Ct Cw Ch Cp):HasM P w K mg base 1 Ct "parts" ["self"] (Z3H Ct K):=by
  refine HasM.of T.m_Term_parts Z5D (fun _ _ _ _ _ _ us hl=>el1 us hl fun _=>rfl) (fun vs H Q E h=>?_) (fun f cdv A outer s H vs Q E hr h=>?_)
  · obtain ⟨v,t,rfl,_⟩:=h
    rfl
  obtain ⟨v,t,rfl,h,q⟩:=h
  refine ⟨_,(Z0e (Z0q (Z0Q Z6I rfl T.z_list J4C (Z0a (Z0i (pvF 0) rfl) Z0b)))),?_⟩
  walk_at "rd"
  obtain ⟨a,dx,inn,sh,us,ws,rfl,ha,hi,hus,hs,hw⟩:=h.inv
  exact ⟨a,rfl,Ct,dx,_,ha,T.Term.cl,T.n_Term_inner,.ref inn,rfl,inn,rfl,us,.inr hi,fun l hl=>q l us hl hus⟩
theorem Z9U (T:Txt K mg Cl Cs Cq Ck Ct Cw Ch Cp):HasM P w K mg base 1 Ct "depth" ["self"] (Z6H Ct K):=by
  refine HasM.of T.m_Term_depth Z6b (fun _ _ _ _ _ _ us hl=>el1 us hl fun _=>rfl) (fun vs H Q E h=>?_) (fun f cdv A outer s H vs Q E hr h=>?_)
  · obtain ⟨v,t,rfl,_⟩:=h
    rfl
  obtain ⟨v,t,rfl,h,q⟩:=h
  refine ⟨_,(Z0e (Z0q (Z0i (pvF 0) rfl))),?_⟩
  walk_at "rd"
  obtain ⟨a,dx,inn,sh,us,ws,rfl,ha,hi,hus,hs,hw⟩:=h.inv
  exact ⟨a,rfl,Ct,dx,_,ha,T.Term.cl,T.n_Term_deep,.int (t.depth:Nat),rfl,q⟩
theorem J2z (T:Txt K mg Cl Cs Cq Ck Ct Cw Ch Cp):HasM P w K mg base 1 Ct "size" ["self"] (Z8c Ct K):=by
  refine HasM.of T.m_Term_size Z6L (fun _ _ _ _ _ _ us hl=>el1 us hl fun _=>rfl) (fun vs H Q E h=>?_) (fun f cdv A outer s H vs Q E hr h=>?_)
  · obtain ⟨v,t,rfl,_⟩:=h
    rfl
  obtain ⟨v,t,rfl,h,q⟩:=h
  refine ⟨_,(Z0e (Z0q (Z0i (pvF 0) rfl))),?_⟩
  walk_at "rd"
  obtain ⟨a,dx,inn,sh,us,ws,rfl,ha,hi,hus,hs,hw⟩:=h.inv
  exact ⟨a,rfl,Ct,dx,_,ha,T.Term.cl,T.n_Term_many,.int (t.size:Nat),rfl,q⟩
end
inductive Z8m (C:Addr) (K:W.Frag) (vs:List V) (H:Hp) (Q:VK):Prop
  | mk (x dx p:Addr) (f:Fm) (l:Lb) (us:List V) (ps:List Tm) (a1:vs=[.ref x,.str f.s,lbV l,.ref p]) (a2:H x=some (.ins C dx [])) (a3:SqL K H p us) (a4:TOs K C H us ps) (a5:okF f l ps.length) (a6:ps.length≤100) (a7:∀ H',SX x H H'→TO K C H' (.ref x) (.mk f l ps)→Q .non H'):Z8m C K vs H Q
def Z8k (C:Addr) (K:W.Frag):Sp:=fun vs H Q _=>Z8m C K vs H Q
theorem J6z {ts:List Tm} {m:Int} (h0:ts.map (fun t=>((t.depth:Nat):Int))=[]→m=0) (h1:ts.map (fun t=>((t.depth:Nat):Int))≠[]→Z7a (ts.map fun t=>((t.depth:Nat):Int)) m):m=((maxD ts:Nat):Int):=by
  cases ts with
  | nil=>exact h0 rfl
  | cons t ts=>
    obtain ⟨hm,hle⟩:=h1 (by simp)
    obtain ⟨u,hu,rfl⟩:=List.mem_map.mp hm
    have a:=J1u hu
    have b:maxD (t::ts)≤u.depth:=J0C fun v hv=>by
      have:=hle _ (List.mem_map.mpr ⟨v,hv,rfl⟩)
      omega
    omega
theorem J3w:∀ ts:List Tm,(ts.map fun t=>((t.size:Nat):Int)).sum=((sumS ts:Nat):Int)
  | []=>rfl
  | t::ts=>by
    rw [List.map_cons,List.sum_cons,J3w ts]
    show _=((t.size+sumS ts:Nat):Int)
    omega
theorem Z3K {α:Type} {g:α→V} {ts:List α} {vs:List V} (hl:vs.length=ts.length) (h:∀ (j:Nat) v,vs[j]?=some v→∃ t,ts[j]?=some t∧v=g t):vs=ts.map g:=by
  refine List.ext_getElem? fun j=>?_
  rw [List.getElem?_map]
  by_cases hj:j < vs.length
  · obtain ⟨t,a,b⟩:=h j _ (List.getElem?_eq_getElem hj)
    rw [List.getElem?_eq_getElem hj,a,b]; rfl
  · rw [List.getElem?_eq_none (by omega),List.getElem?_eq_none (by omega)]; rfl
theorem kpN {H H':Hp} (s:Z5F H H'):Kp H H':=⟨fun b xs h=>s b _ (fun ys z=>by cases z) h,fun b o xs h=>s b _ (fun ys z=>by cases z) h,fun b C dx f fs h=>s b _ (fun ys z=>by cases z) h⟩
theorem J3N {K:W.Frag} {H:Hp}:∀ {ts:List Tm} {vs:List V},vs.length=ts.length→(∀ (j:Nat) v,vs[j]?=some v→∃ t,ts[j]?=some t∧RT K H v t.dat)→RTs K H vs (dats ts)
  | [],[],_,_=>.nil
  | t::ts,v::vs,e,h=>by
    obtain ⟨t',a,b⟩:=h 0 v rfl
    cases a
    exact .cons b (J3N (Nat.succ.inj e) fun j u hu=>h (j+1) u hu)
section
variable {Cl Cs Cq Ck Ct Cw Ch Cp:Addr} {P:Program} {w:World} {K:W.Frag} {mg:Str→Option Value} {base:Heap}
theorem J2K (T:Txt K mg Cl Cs Cq Ck Ct Cw Ch Cp) (h_shape_of:Has P w K mg base 1 "shape_of" ["form","label","parts"] (Z7y K)) (h_Term_plain:HasM P w K mg base 1 Ct "plain" ["self"] (Z6W Ct K)) (h_Term_depth:HasM P w K mg base 1 Ct "depth" ["self"] (Z6H Ct K)) (h_Term_size:HasM P w K mg base 1 Ct "size" ["self"] (Z8c Ct K)) :
    HasM P w K mg base 2 Ct "__init__" ["self","form","label","parts"] (Z8k Ct K):=by
  refine HasM.of T.m_Term___init__ Z4r (fun _ _ _ _ _ _ us hl=>el4 us hl fun _ _ _ _=>rfl) (fun vs H Q E h=>?_) (fun f cdv A outer s H vs Q E hr h=>?_)
  · obtain ⟨x,dx,p,f,l,us,ps,rfl,_⟩:=h
    rfl
  obtain ⟨x,dx,p,f,l,us,ps,rfl,hx,hp,hu,hok,hl,q⟩:=h
  refine ⟨_,(Z0c (Z0D (pvF 0) (pvF 1) rfl)
    (Z0c (Z0D (pvF 0) (pvF 2) rfl)
    (Z0c (Z0D (pvF 0) (Z0Q Z0I rfl T.z_tuple Z1C (Z0a (pvF 3) Z0b)) rfl)
    (Z0c (Z0D (pvF 0) (Z0y Z2c Z0h (J4o rfl rfl T.z_max J3v (Z0a (Z2f rfl (BlockOk.plain (N:=["part"]) rfl (by decide +kernel) (by decide +kernel) (by decide +kernel)) (Z2S (Z0i (pvF 0) rfl))
          (fun C fp s H=>(Z0s (i:=0) (show (["part"]:List Str).Nodup by decide +kernel) rfl (Or.inl rfl)))
          (fun C fp s H=>(Z0Y (pvF 0) T.Term.cl h_Term_depth hr (by decide)))) Z0b) (J4L Z0h J6R))) rfl)
    (Z0c (Z0D (pvF 0) (Z0y Z2c Z0h (Z1r (J2v rfl) rfl T.z_sum J6l (Z0a (Z2f rfl (BlockOk.plain (N:=["part"]) rfl (by decide +kernel) (by decide +kernel) (by decide +kernel)) (Z2S (Z0i (pvF 0) rfl))
          (fun C fp s H=>(Z0s (i:=0) (show (["part"]:List Str).Nodup by decide +kernel) rfl (Or.inl rfl)))
          (fun C fp s H=>(Z0Y (pvF 0) T.Term.cl h_Term_size hr (by decide)))) Z0b))) rfl)
    (Z0e (Z0D (pvF 0) (Z0J h_shape_of hr (by decide) rfl (Z0a (pvF 1) (Z0a (pvF 2) (Z0a (Z0Q Z0I rfl T.z_tuple Z1C (Z0a (Z2f rfl (BlockOk.plain (N:=["part"]) rfl (by decide +kernel) (by decide +kernel) (by decide +kernel)) (Z2S (Z0i (pvF 0) rfl))
          (fun C fp s H=>(Z0s (i:=0) (show (["part"]:List Str).Nodup by decide +kernel) rfl (Or.inl rfl)))
          (fun C fp s H=>(Z0Y (pvF 0) T.Term.cl h_Term_plain hr (by decide)))) Z0b)) Z0b)))) rfl))))))),?_⟩
  refine seq6 fun uz5 huz5 uz4 huz4 uz3 huz3 uz2 huz2 uz1 huz1=>?_
  walk_at "rd"
  refine ⟨Ct,dx,_,hx,T.Term.cl,T.n_Term_form,Nat.lt_of_sub_eq_succ rfl,?_⟩
  subst huz1
  walk_at "rd"
  refine ⟨Ct,dx,_,Z0g,T.Term.cl,T.n_Term_label,Nat.lt_of_sub_eq_succ rfl,?_⟩
  subst huz2
  walk_at "rd"
  have S1:SX x H (upd (upd H x (.ins Ct dx (putF "form" (.str f.s) []))) x (.ins Ct dx (putF "label" (lbV l) (putF "form" (.str f.s) [])))):=(SX.put _).trans (SX.put _)
  have X1:upd (upd H x (.ins Ct dx (putF "form" (.str f.s) []))) x (.ins Ct dx (putF "label" (lbV l) (putF "form" (.str f.s) []))) x=some (.ins Ct dx (putF "label" (lbV l) (putF "form" (.str f.s) []))):=Z0g
  generalize upd (upd H x (.ins Ct dx (putF "form" (.str f.s) []))) x (.ins Ct dx (putF "label" (lbV l) (putF "form" (.str f.s) [])))=H1 at *
  refine ⟨us,.inl ⟨S1.sqL hx hp,fun inn hinn=>?_⟩⟩
  have nx:inn≠x:=fun z=>Z0m X1 hinn z.symm
  have s2:=Z0C hinn (.tup us)
  refine ⟨Ct,dx,_,s2 _ _ X1,T.Term.cl,T.n_Term_inner,Nat.lt_of_sub_eq_succ rfl,?_⟩
  have S2:SX x H (upd (upd H1 inn (.tup us)) x (.ins Ct dx (putF "inner" (.ref inn) (putF "label" (lbV l) (putF "form" (.str f.s) []))))):=S1.trans ((SX.of s2).trans (SX.put _))
  have X2:upd (upd H1 inn (.tup us)) x (.ins Ct dx (putF "inner" (.ref inn) (putF "label" (lbV l) (putF "form" (.str f.s) [])))) x=some (.ins Ct dx (putF "inner" (.ref inn) (putF "label" (lbV l) (putF "form" (.str f.s) [])))):=Z0g
  have I2:upd (upd H1 inn (.tup us)) x (.ins Ct dx (putF "inner" (.ref inn) (putF "label" (lbV l) (putF "form" (.str f.s) [])))) inn=some (.tup us):=by rw [Z0j nx]; exact Z0g
  clear s2 hinn X1 S1
  generalize upd (upd H1 inn (.tup us)) x (.ins Ct dx (putF "inner" (.ref inn) (putF "label" (lbV l) (putF "form" (.str f.s) []))))=H2 at *
  have hus:us.length=ps.length:=hu.length
  have U2:TOs K Ct H2 us ps:=hu.kp (S2.kp hx)
  subst huz3
  walk_at "rd"
  refine ⟨Ct,dx,_,X2,T.Term.cl,T.n_Term_inner,.ref inn,rfl,inn,rfl,⟨_,SqT.of I2⟩,fun D hD=>?_⟩
  refine Z1x (ys:=us) none [] (fun j v H=>∃ t,ps[j]?=some t∧v=.int ((t.depth:Nat):Int)) (fun _ _ _ _ h _=>h) rfl hD (by rw [sizeLine_eq]; omega) (fun H1 s=>SqT.of (s _ _ I2)) (fun i y hy H1 K' s k=>?_) (fun vs Ha Sa hv lv hR=>?_)
  · walk_at "rd"
    obtain ⟨t,ht,hto⟩:=U2.at hy
    have hto:=hto.kp (Kp.of s)
    obtain ⟨a,dx',inn',sh',us',ws',rfl,ha,_⟩:=hto.inv
    exact ⟨a,rfl,dx',_,ha,rfl,_,t,rfl,hto,k _ _ (Same.refl _) ⟨t,ht,rfl⟩⟩
  cases Z3K (g:=fun t:Tm=>V.int ((t.depth:Nat):Int)) (lv.trans hus) hR
  refine ⟨D,rfl,ps.map fun t=>((t.depth:Nat):Int),by rw [List.map_map]; exact SqL.of hv,fun m m0 m1=>?_⟩
  cases J6z m0 m1
  refine ⟨Ct,dx,_,Sa _ _ X2,T.Term.cl,T.n_Term_deep,Nat.lt_of_sub_eq_succ rfl,?_⟩
  have S3:SX x H2 (upd Ha x (.ins Ct dx (putF "deep" (.int (1+((maxD ps:Nat):Int))) (putF "inner" (.ref inn) (putF "label" (lbV l) (putF "form" (.str f.s) [])))))):=(SX.of Sa).trans (SX.put _)
  have X3:upd Ha x (.ins Ct dx (putF "deep" (.int (1+((maxD ps:Nat):Int))) (putF "inner" (.ref inn) (putF "label" (lbV l) (putF "form" (.str f.s) []))))) x=some (.ins Ct dx (putF "deep" (.int (1+((maxD ps:Nat):Int))) (putF "inner" (.ref inn) (putF "label" (lbV l) (putF "form" (.str f.s) []))))):=Z0g
  clear hv hR hD Sa
  generalize upd Ha x (.ins Ct dx (putF "deep" (.int (1+((maxD ps:Nat):Int))) (putF "inner" (.ref inn) (putF "label" (lbV l) (putF "form" (.str f.s) [])))))=H3 at *
  have I3:=S3 _ _ nx I2
  have U3:TOs K Ct H3 us ps:=hu.kp ((S2.trans S3).kp hx)
  subst huz4
  walk_at "rd"
  refine ⟨Ct,dx,_,X3,T.Term.cl,T.n_Term_inner,.ref inn,rfl,inn,rfl,⟨_,SqT.of I3⟩,fun D hD=>?_⟩
  refine Z1x (ys:=us) none [] (fun j v H=>∃ t,ps[j]?=some t∧v=.int ((t.size:Nat):Int)) (fun _ _ _ _ h _=>h) rfl hD (by rw [sizeLine_eq]; omega) (fun H1 s=>SqT.of (s _ _ I3)) (fun i y hy H1 K' s k=>?_) (fun vs Hb Sb hv lv hR=>?_)
  · walk_at "rd"
    obtain ⟨t,ht,hto⟩:=U3.at hy
    have hto:=hto.kp (Kp.of s)
    obtain ⟨a,dx',inn',sh',us',ws',rfl,ha,_⟩:=hto.inv
    exact ⟨a,rfl,dx',_,ha,rfl,_,t,rfl,hto,k _ _ (Same.refl _) ⟨t,ht,rfl⟩⟩
  cases Z3K (g:=fun t:Tm=>V.int ((t.size:Nat):Int)) (lv.trans hus) hR
  refine ⟨D,rfl,ps.map (fun t=>((t.size:Nat):Int)),by rw [List.map_map]; exact SqL.of hv,?_⟩
  rw [J3w]
  refine ⟨Ct,dx,_,Sb _ _ X3,T.Term.cl,T.n_Term_many,Nat.lt_of_sub_eq_succ rfl,?_⟩
  have S4:SX x H3 (upd Hb x (.ins Ct dx (putF "many" (.int (1+((sumS ps:Nat):Int))) (putF "deep" (.int (1+((maxD ps:Nat):Int))) (putF "inner" (.ref inn) (putF "label" (lbV l) (putF "form" (.str f.s) []))))))):=(SX.of Sb).trans (SX.put _)
  have X4:upd Hb x (.ins Ct dx (putF "many" (.int (1+((sumS ps:Nat):Int))) (putF "deep" (.int (1+((maxD ps:Nat):Int))) (putF "inner" (.ref inn) (putF "label" (lbV l) (putF "form" (.str f.s) [])))))) x=some (.ins Ct dx (putF "many" (.int (1+((sumS ps:Nat):Int))) (putF "deep" (.int (1+((maxD ps:Nat):Int))) (putF "inner" (.ref inn) (putF "label" (lbV l) (putF "form" (.str f.s) [])))))):=Z0g
  clear hv hR hD Sb
  generalize upd Hb x (.ins Ct dx (putF "many" (.int (1+((sumS ps:Nat):Int))) (putF "deep" (.int (1+((maxD ps:Nat):Int))) (putF "inner" (.ref inn) (putF "label" (lbV l) (putF "form" (.str f.s) []))))))=H4 at *
  have I4:=S4 _ _ nx I3
  have S04:SX x H H4:=S2.trans (S3.trans S4)
  have U4:TOs K Ct H4 us ps:=hu.kp (S04.kp hx)
  subst huz5
  walk_at "rd"
  refine ⟨Ct,dx,_,X4,T.Term.cl,T.n_Term_inner,.ref inn,rfl,inn,rfl,⟨_,SqT.of I4⟩,fun D hD=>?_⟩
  refine Z1x (ys:=us) none [] (fun j v H=>∃ t,ps[j]?=some t∧RT K H v t.dat) (fun j v H1 H2 ⟨t,a,b⟩ s=>⟨t,a,b.kp (kpN s)⟩) rfl hD (by rw [sizeLine_eq]; omega) (fun H1 s=>SqT.of (s _ _ I4)) (fun i y hy H1 K' s k=>?_) (fun vs Hc Sc hv lv hR=>?_)
  · walk_at "rd"
    obtain ⟨t,ht,hto⟩:=U4.at hy
    have hto:=hto.kp (Kp.of s)
    obtain ⟨a,dx',inn',sh',us',ws',rfl,ha,_⟩:=hto.inv
    exact ⟨a,rfl,dx',_,ha,rfl,_,t,rfl,hto,fun u hu'=>k _ _ (Same.refl _) ⟨t,ht,hu'⟩⟩
  have hd:=J3N (lv.trans hus) hR
  refine ⟨D,rfl,vs,.inl ⟨SqL.of hv,fun t5 h5=>?_⟩⟩
  have s5:=Z0C h5 (.tup vs)
  refine ⟨f,l,t5,vs,dats ps,rfl,SqT.of Z0g,hd.same s5,by rw [Z1o]; exact hok,by rw [Z1o]; exact hl,fun r ws H6 s6 hr hw=>?_⟩
  refine ⟨Ct,dx,_,s6 _ _ (s5 _ _ (Sc _ _ X4)),T.Term.cl,T.n_Term_shape,Nat.lt_of_sub_eq_succ rfl,?_⟩
  have S6:SX x H4 H6:=SX.of (Sc.trans (s5.trans s6))
  have X6:=S6
  have S7:SX x H6 (upd H6 x (.ins Ct dx (putF "shape" (.ref r) (putF "many" (.int (1+((sumS ps:Nat):Int))) (putF "deep" (.int (1+((maxD ps:Nat):Int))) (putF "inner" (.ref inn) (putF "label" (lbV l) (putF "form" (.str f.s) [])))))))):=SX.put _
  have x6:=s6 _ _ (s5 _ _ (Sc _ _ X4))
  have k6:Kp H (upd H6 x (.ins Ct dx (putF "shape" (.ref r) (putF "many" (.int (1+((sumS ps:Nat):Int))) (putF "deep" (.int (1+((maxD ps:Nat):Int))) (putF "inner" (.ref inn) (putF "label" (lbV l) (putF "form" (.str f.s) [])))))))):=(S04.trans (S6.trans S7)).kp hx
  refine q _ (S04.trans (S6.trans S7)) ?_
  have e:((putF "shape" (.ref r) (putF "many" (.int (1+((sumS ps:Nat):Int))) (putF "deep" (.int (1+((maxD ps:Nat):Int))) (putF "inner" (.ref inn) (putF "label" (lbV l) (putF "form" (.str f.s) [])))))):List (Str×V))=fsT f l inn r (1+maxD ps) (1+sumS ps):=by
    unfold fsT
    rw [Int.natCast_add,Int.natCast_add]
    rfl
  have x7:upd H6 x (.ins Ct dx (putF "shape" (.ref r) (putF "many" (.int (1+((sumS ps:Nat):Int))) (putF "deep" (.int (1+((maxD ps:Nat):Int))) (putF "inner" (.ref inn) (putF "label" (lbV l) (putF "form" (.str f.s) []))))))) x=some (.ins Ct dx (fsT f l inn r (1+maxD ps) (1+sumS ps))):=by rw [Z0g,e]
  refine .mk x7 (SqT.of (S7 _ _ nx (S6 _ _ nx I4))) (hu.kp k6) (S7.sqT x6 hr) ?_
  exact hw.kt (Kt.put _ x6 (fun _ z=>by cases z) (fun _ _ z=>by cases z))
end
inductive Z6x (K:W.Frag) (vs:List V) (H:Hp) (Q:VK):Prop
  | mk (v:V) (t:Tm) (a1:vs=[v]) (a2:RT K H v t.dat) (a3:Ok t) (a4:t.flat.length≤100) (a5:∀ l us H',Same H H'→H l=none→H' l=some (.lst us)→RTs K H' us (dats t.flat)→Q (.ref l) H'):Z6x K vs H Q
def Z6t (K:W.Frag):Sp:=fun vs H Q _=>Z6x K vs H Q
theorem Z6D {K:W.Frag} {H:Hp}:∀ {ds es:List PyData} {vs:List V},RTs K H vs (ds++es)→∃ xs ys,vs=xs++ys∧RTs K H xs ds∧RTs K H ys es
  | [],es,vs,h=>⟨[],vs,rfl,.nil,h⟩
  | d::ds,es,_,.cons a b=>by
    obtain ⟨xs,ys,rfl,h1,h2⟩:=Z6D b
    exact ⟨_::xs,ys,rfl,.cons a h1,h2⟩
theorem Z4G:∀ ts:List Tm,ts.length≤(Z1t ts).length
  | []=>Nat.le_refl _
  | .mk f l ps::ts=>by
    show ts.length+1≤(Z1t ts++(Tm.mk f l ps::Z1t ps)).length
    rw [List.length_append,List.length_cons]
    have:=Z4G ts
    omega
theorem J0P (t:Tm):Z1t [t]=t::Z1t t.ps:=by
  cases t
  rfl
noncomputable def WI (K:W.Frag) (H0:Hp) (t:Tm) (v:V) (p1 p2:Addr) (m:Nat) (σ:St) (H':Hp):Prop:=∃ us vs w B o3,Same H0 H'∧H' p1=some (.lst us)∧RTs K H' us (dats w)∧H' p2=some (.lst vs)∧RTs K H' vs (dats B)∧t.flat=w++Z1t B∧m=(Z1t B).length∧(∀ x∈B,Ok x)∧σ=[some v,some (.ref p1),some (.ref p2),o3]
section
variable {Cl Cs Cq Ck Ct Cw Ch Cp:Addr} {P:Program} {w:World} {K:W.Frag} {mg:Str→Option Value} {base:Heap}
theorem J0k (T:Txt K mg Cl Cs Cq Ck Ct Cw Ch Cp) (h_parts_of:Has P w K mg base 1 "parts_of" ["plain"] (Z5S K)):Has P w K mg base 2 "all_within" ["plain"] (Z6t K):=by
  refine Has.of T.f_all_within sc_all_within (fun _ _ _ _ _ _ us hl=>el1 us hl fun _=>rfl) (fun vs H Q E h=>?_) (fun f cdv A outer s H vs Q E hr h=>?_)
  · obtain ⟨v,t,rfl,_⟩:=h
    rfl
  obtain ⟨v,t,rfl,hv,ok,hz,q⟩:=h
  refine ⟨_,(Z0c (Z0u (i:=1) sc_all_within.nd rfl (Or.inl rfl) (Z0P Z0b))
    (Z0c (Z0u (i:=2) sc_all_within.nd rfl (Or.inl rfl) (Z0P (Z0a (pvF 0) Z0b)))
    (Z0c (Z5R PassesOwn.never (J4G (pvF 2) (fun _=>rfl)) (Z0c (Z0u (i:=3) sc_all_within.nd rfl (Or.inl rfl) (Z6p PySem.F.plainAttrs_list PySem.F.slot_list_pop PySem.F.type_list_pop Z6S (pvF 2)))
    (Z0c (Z0B (Z4m PySem.F.plainAttrs_list PySem.F.slot_list_append PySem.F.type_list_append Z1y (pvF 1) (Z0a (pvF 3) Z0b)))
    (Z0e (Z0B (Z4m (r:=Z4t K) PySem.F.plainAttrs_list PySem.F.slot_list_extend PySem.F.type_list_extend Z5m (pvF 2) (Z0a (Z0J h_parts_of hr (by decide) rfl (Z0a (pvF 3) Z0b)) Z0b)))))))
    (Z0e (Z0q (pvF 1)))))),?_⟩
  refine seq4 fun uz3 huz3 uz2 huz2 uz1 huz1=>?_
  walk_at "rd"
  refine New.of fun p1 H1 h1 s1 e1=>?_
  subst huz1
  walk_at "rd"
  refine New.of fun p2 H2 h2 s2 e2=>?_
  subst huz2
  walk_at "rd"
  refine J4O (WI K H t v p1 p2) ⟨[],[v],[],[t],none,s1.trans s2,s2 _ _ e1,.nil,e2,.cons (hv.same (s1.trans s2)) .nil,?_,rfl,fun x hx=>by rw [List.mem_singleton.mp hx]; exact ok,rfl⟩ (fun m σ H' h=>?_) J0b
  · show t.flat=[]++([]++t.flat)
    rfl
  obtain ⟨us,vs,w,B,o3,S,h1',hu,h2',hB,hf,hm,hok,rfl⟩:=h
  walk_at "rd"
  have n12:p1≠p2:=Z0m e1 h2
  have n1:H p1=none:=h1
  have n2:H p2=none:=s1.free h2
  have hul:us.length≤100:=by
    rw [hu.length,Z1o]
    have:=congrArg List.length hf
    rw [List.length_append] at this
    omega
  refine ⟨vs,SqL.of h2',?_⟩
  cases hBl:B.length with
  | zero=>
    cases List.length_eq_zero_iff.mp hBl
    cases hB.nil_inv
    refine ite2 (fun z=>by cases z) (fun _=>?_)
    subst huz3
    walk_at "rd"
    refine q p1 us H' S n1 h1' ?_
    rw [hf,show Z1t ([]:List Tm)=[] from rfl,List.append_nil]
    exact hu
  | succ n=>
    obtain ⟨B,b,rfl,_⟩:=P15.Z7w hBl
    rw [Z3A] at hB
    obtain ⟨vs,ys,rfl,hB1,hy⟩:=Z6D hB
    obtain ⟨u,r0,rfl,hu',hr0⟩:=hy.inv
    cases hr0.nil_inv
    have obk:=hok b (by simp)
    obtain ⟨f,l,ps⟩:=b
    obtain ⟨of,op⟩:okF f l ps.length∧∀ p∈ps,Ok p:=by cases obk with | mk a b=>exact ⟨a,b⟩
    obtain ⟨a,ws,rfl,hq,hw⟩:=hu'.tup_inv
    rw [P15.Z3P,J0P] at hf hm
    have hpl:ps.length≤100:=by
      have hf':t.flat=w++(Tm.mk f l ps::Z1t ps++Z1t B):=hf
      have:=congrArg List.length hf'
      simp only [List.length_append,List.length_cons] at this
      have:=Z4G ps
      omega
    refine ite2 (fun _=>?_) (fun z=>absurd (by cases vs <;> rfl) z)
    refine ⟨.inl ⟨rfl,_,SqL.of h2'⟩,_,h2',.ref a,by simp,?_⟩
    rw [List.dropLast_concat]
    have g1:upd H' p2 (.lst vs) p1=some (.lst us):=by rw [Z0j n12]; exact h1'
    have g2:upd (upd H' p2 (.lst vs)) p1 (.lst (us++[.ref a])) p2=some (.lst vs):=by rw [Z0j n12.symm]; exact Z0g
    have k2:Kp H' (upd (upd H' p2 (.lst vs)) p1 (.lst (us++[.ref a]))):=(Kp.lst _ h2').trans (Kp.lst _ g1)
    refine ⟨.inl ⟨rfl,_,SqL.of g1⟩,us,g1,by omega,.inl ⟨rfl,_,SqL.of g2⟩,f,l,a,ws,dats ps,rfl,SqT.kp hq k2,hw.kp k2,by rw [Z1o]; exact of,by rw [Z1o]; exact hpl,fun r us2 H5 s5 hr hus2=>?_⟩
    have hvl:vs.length≤100:=by
      rw [hB1.length,Z1o]
      have:=congrArg List.length hf
      simp only [List.length_append,List.length_cons] at this
      have:=Z4G B
      omega
    have g5:=s5 _ _ g2
    have k5:Kp H' (upd H5 p2 (.lst (vs++us2))):=k2.trans ((Kp.of s5).trans (Kp.lst _ g5))
    refine ⟨r,rfl,vs,g5,us2,hr,by rw [hus2.length,Z1o]; omega,(Z1t (B++ps)).length,?_,us++[.ref a],vs++us2,w++[.mk f l ps],B++ps,_,fun b o hb=>?_,?_,?_,Z0g,?_,?_,rfl,fun x hx=>?_,rfl⟩
    · rw [hm,P15.Z3P]
      exact Nat.lt_succ_self _
    · rw [Z0j (Z0m hb n2)]
      refine s5 _ _ ?_
      rw [Z0j (Z0m hb n1),Z0j (Z0m hb n2)]
      exact S _ _ hb
    · rw [Z0j n12]; exact s5 _ _ Z0g
    · rw [Z3A]
      exact (hu.kp k5).app (.cons (.tup (SqT.kp hq k5) (hw.kp k5)) .nil)
    · rw [Z3A]
      exact (hB1.kp k5).app (hus2.kp (Kp.lst _ g5))
    · rw [P15.Z3P,List.append_assoc]
      exact hf
    · rcases List.mem_append.mp hx with hx | hx
      · exact hok x (List.mem_append_left _ hx)
      · exact op x hx
end
inductive Z6v (C:Addr) (K:W.Frag) (vs:List V) (H:Hp) (Q:VK):Prop
  | mk (v:V) (t:Tm) (a1:vs=[v]) (a2:RT K H v t.dat) (a3:Ok t) (a4:t.flat.length≤100) (a5:∀ u H',Same H H'→TO K C H' u t→Q u H'):Z6v C K vs H Q
def Z6o (C:Addr) (K:W.Frag):Sp:=fun vs H Q _=>Z6v C K vs H Q
theorem SX.kpl {x:Addr} {xs:List V} {H H':Hp} (s:SX x H H') (hx:H x=some (.lst xs)):Kp H H':=
  ⟨fun b xs h=>s b _ (fun z=>by rw [z,hx] at h; cases h) h,fun b o xs h=>s b _ (fun z=>by rw [z,hx] at h; cases h) h,fun b C dx f fs h=>s b _ (fun z=>by rw [z,hx] at h; cases h) h⟩
theorem Z8F:∀ ts:List Tm,dats ts.reverse=(dats ts).reverse
  | []=>rfl
  | t::ts=>by rw [List.reverse_cons,Z3A,Z8F]; show _=(t.dat::dats ts).reverse; rw [List.reverse_cons]; rfl
theorem J1p {K:W.Frag} {H:Hp}:∀ {vs:List V} {ds:List PyData},RTs K H vs ds→RTs K H vs.reverse ds.reverse
  | _,_,.nil=>.nil
  | _,_,.cons a b=>by rw [List.reverse_cons,List.reverse_cons]; exact (J1p b).app (.cons a .nil)
mutual
theorem Z9P:∀ (t:Tm),Ok t→∀ x∈t.flat,Ok x
  | .mk f l ps,h,x,hx=>by
    rcases List.mem_cons.mp hx with rfl | hx
    · exact h
    · cases h with
      | mk a b=>exact Z8l ps b x hx
theorem Z8l:∀ (ts:List Tm),(∀ p∈ts,Ok p)→∀ x∈Z1t ts,Ok x
  | t::ts,h,x,hx=>by
    rcases (List.mem_append.mp hx) with hx | hx
    · exact Z8l ts (fun p hp=>h p (List.mem_cons_of_mem _ hp)) x hx
    · exact Z9P t (h t List.mem_cons_self) x hx
end
theorem Z5W {α:Type} {xs:List α} {y:α}:(xs++[y])[(xs++[y]).length - 1]?=some y:=by simp
theorem J4J {w S:List Tm} (h:Bld w S):S.length≤w.length:=by
  induction h with
  | nil=>exact Nat.le_refl _
  | snoc _ ih=>
    rw [List.length_append] at ih ⊢
    rw [List.length_append]
    show _+1≤_+1
    omega
noncomputable def FI (K:W.Frag) (C:Addr) (H2:Hp) (t:Tm) (v:V) (p1:Addr) (i:Nat) (σ:St) (H':Hp):Prop:=∃ os S o2 o3,SX p1 H2 H'∧H' p1=some (.lst os)∧Bld (t.flat.reverse.take i) S∧TM.TOs K C H' os S∧σ=[some v,some (.ref p1),o2,o3]
section
variable {Cl Cs Cq Ck Ct Cw Ch Cp:Addr} {P:Program} {w:World} {K:W.Frag} {mg:Str→Option Value} {base:Heap}
theorem Z9X (T:Txt K mg Cl Cs Cq Ck Ct Cw Ch Cp) (h_parts_of:Has P w K mg base 1 "parts_of" ["plain"] (Z5S K)) (h_label_of:Has P w K mg base 1 "label_of" ["plain"] (Z7E K)) (h_all_within:Has P w K mg base 2 "all_within" ["plain"] (Z6t K)) (h_Term___init__:HasM P w K mg base 2 Ct "__init__" ["self","form","label","parts"] (Z8k Ct K)) :
    Has P w K mg base 4 "term_of" ["plain"] (Z6o Ct K):=by
  refine Has.of T.f_term_of sc_term_of (fun _ _ _ _ _ _ us hl=>el1 us hl fun _=>rfl) (fun vs H Q E h=>?_) (fun f cdv A outer s H vs Q E hr h=>?_)
  · obtain ⟨v,t,rfl,_⟩:=h
    rfl
  obtain ⟨v,t,rfl,hv,ok,hz,q⟩:=h
  refine ⟨_,(Z0c (Z0u (i:=1) sc_term_of.nd rfl (Or.inr rfl) (Z0P Z0b))
    (Z0c (Z3a PassesOwn.never rfl (J1v rfl T.z_reversed Z3w (Z0a (Z0J h_all_within hr (by decide) rfl (Z0a (pvF 0) Z0b)) Z0b)) (Z0s (i:=2) sc_term_of.nd rfl (Or.inl rfl)) (Z0c (Z1O rfl sc_term_of.nd (i:=3) rfl rfl (BlockOk.of (N:=["part","built"]) (nl:=[none,some 1]) (cl:=[("built",s.heap.objs.size+1)]) rfl (by decide +kernel) (by decide +kernel) rfl (sub1 rfl) (nm:=["built"]) rfl (by decide +kernel) rfl (fun i hi j hj=>by
            match i,hi with
            | 0,_=>cases hj
             | 1,_=>cases hj; exact ⟨_,rfl,rfl,rfl,.inl rfl⟩
            )) (Z2S (Z0J h_parts_of hr (by decide) rfl (Z0a (pvF 2) Z0b)))
          (fun C fp s H=>(Z0s (i:=0) (show (["part","built"]:List Str).Nodup by decide +kernel) rfl (Or.inl rfl)))
          (fun C fp s H=>(show PE _ _ (tBM0 K "list" rPop _) from Z6p PySem.F.plainAttrs_list PySem.F.slot_list_pop PySem.F.type_list_pop Z6S (pvF 1))))
    (Z0e (Z0B (Z4m PySem.F.plainAttrs_list PySem.F.slot_list_append PySem.F.type_list_append Z1y (pvF 1) (Z0a (Z3C T.Term h_Term___init__ hr (by decide) rfl (Z0a (Z0L (r:=Z2o K) Z0W (pvF 2) Z0h (fun _ _=>rfl)) (Z0a (Z0J h_label_of hr (by decide) rfl (Z0a (pvF 2) Z0b)) (Z0a (J0i rfl rfl rfl T.z_list T.z_reversed (Z0a (pvF 3) Z0b)) Z0b)))) Z0b))))))
    (Z0e (Z0q (Z0L (r:=Z1p K) Z0z (pvF 1) Z0h (fun _ _=>rfl)))))),?_⟩
  refine seq3 fun uz2 huz2 uz1 huz1=>?_
  walk_at "rd"
  refine New.of fun p1 H1 h1 s1 e1=>?_
  subst huz1
  walk_at "rd"
  refine ⟨v,t,rfl,hv.same s1,ok,hz,fun a us H2 s2 hna ha hus=>⟨a,rfl,us,SqL.of ha,?_⟩⟩
  have e2:=s2 _ _ e1
  have nap:a≠p1:=fun z=>Z0m e1 hna z.symm
  have full:Bld t.flat.reverse [t]:=P15.Bld.flat t (w:=[]) (B:=[]) .nil
  have hlen:us.length=t.flat.length:=by rw [hus.length,Z1o]
  refine Z5T us (FI K Ct H2 t v p1) ⟨[],[],none,none,fun _ _ _ h=>h,e2,.nil,.nil,rfl⟩ (fun i σ H' _ h=>?_) (fun i x σ H' hx h=>?_) (fun σ H' h=>?_)
  · obtain ⟨os,S,o2,o3,sx,_⟩:=h
    exact SqL.of (sx _ _ nap ha)
  · obtain ⟨os,S,o2,o3,sx,hp,hb,ho,rfl⟩:=h
    have kp:=SX.kpl sx e2
    have hi:i < us.length:=by
      have:=(List.getElem?_eq_some_iff.mp hx).1
      rwa [List.length_reverse] at this
    have hrx:=(J1p hus).kp kp
    rw [← Z8F] at hrx
    obtain ⟨d,hd,hrx⟩:=hrx.at hx
    obtain ⟨y,hy,rfl⟩:=Z9t hd
    obtain ⟨C,rfl,hb'⟩:=full.next hy hb
    have oky:=Z9P t ok y (List.mem_reverse.mp (List.mem_of_getElem? hy))
    obtain ⟨f,l,ps⟩:=y
    obtain ⟨of,op⟩:okF f l ps.length∧∀ p∈ps,Ok p:=by cases oky with | mk a b=>exact ⟨a,b⟩
    obtain ⟨xa,ws,rfl,hq,hw⟩:=hrx.tup_inv
    have hSl:=J4J hb
    have hpl:ps.length≤100∧C.length≤100:=by
      rw [List.length_append,List.length_take] at hSl
      have:(Tm.mk f l ps).ps.length=ps.length:=rfl
      omega
    obtain ⟨osC,osP,rfl,hoC,hoP⟩:=TM.TOs.split ho
    have lP:osP.length=ps.length:=hoP.length
    have lC:osC.length=C.length:=hoC.length
    walk_at "rd"
    refine ⟨f,l,xa,ws,dats ps,rfl,hq,hw,by rw [Z1o]; exact of,by rw [Z1o]; exact hpl.1,fun r us2 H3 s3 hr hus2=>⟨r,rfl,⟨_,hr⟩,fun D hD=>?_⟩⟩
    have lu2:us2.length=ps.length:=by rw [hus2.length,Z1o]
    have hp3:=s3 _ _ hp
    have nDp:D≠p1:=fun z=>Z0m hp3 hD z.symm
    have sq:∀ {H4:Hp},(∀ b o,b≠p1→b≠D→H3 b=some o→H4 b=some o)→Kp H3 H4:=fun h=>⟨fun b xs e=>h b _ (fun z=>by rw [z,hp3] at e; cases e) (fun z=>by rw [z,hD] at e; cases e) e,fun b o xs e=>h b _ (fun z=>by rw [z,hp3] at e; cases e) (fun z=>by rw [z,hD] at e; cases e) e,fun b C dx f fs e=>h b _ (fun z=>by rw [z,hp3] at e; cases e) (fun z=>by rw [z,hD] at e; cases e) e⟩
    refine Z7Y (n:=ps.length) none [some (.ref p1)] (fun _ _=>True) (fun j vs H4=>H4 p1=some (.lst (osC++osP.take (ps.length - j)))∧vs=(osP.drop (ps.length - j)).reverse∧∀ b o,b≠p1→b≠D→H3 b=some o→H4 b=some o) rfl (by rw [sizeLine_eq]; omega) ⟨?_,?_,fun b o _ nb h=>?_⟩ (fun j vs H4 hj hW=>?_) (fun vs H4 hW=>?_) (fun j x vs H4 K' hj _ hW hD4 k=>?_) (fun vs H4 hW hD4 hl=>?_)
    · rw [Z0j nDp.symm,Nat.sub_zero,List.take_of_length_le (by omega)]; exact hp3
    · rw [Nat.sub_zero,List.drop_of_length_le (by omega)]; rfl
    · rw [Z0j nb]; exact h
    · exact ⟨⟨us2,us2[j],SqT.kp hr (sq hW.2.2),List.getElem?_eq_getElem (by omega)⟩,fun x H2 hy=>⟨hy.1,trivial⟩⟩
    · exact ⟨us2,SqT.kp hr (sq hW.2.2),by omega⟩
    · obtain ⟨g1,rfl,g3⟩:=hW
      obtain ⟨m,em⟩:∃ m,ps.length - j=m+1:=⟨ps.length - j - 1,by omega⟩
      have em':ps.length - (j+1)=m:=by omega
      have hm:m < osP.length:=by omega
      rw [em] at g1 hD4 k
      rw [List.take_succ_eq_append_getElem hm,← List.append_assoc] at g1
      walk_at "rd"
      refine ⟨.inl ⟨rfl,_,SqL.of g1⟩,_,g1,osP[m],Z5W,?_⟩
      rw [List.dropLast_concat]
      refine k _ _ (by rw [Z0j nDp]; exact hD4) ⟨?_,?_,fun b o nb nb' h=>?_⟩
      · rw [Z0j nDp.symm,em']; exact Z0g
      · rw [em',List.drop_eq_getElem_cons hm,List.reverse_cons]
      · rw [Z0j nb',Z0j nb]; exact g3 b o nb nb' h
    · obtain ⟨g1,rfl,g3⟩:=hW
      rw [Nat.sub_self,List.take_zero,List.append_nil] at g1
      rw [Nat.sub_self,List.drop_zero] at hD4
      have k4:Kp H' H4:=(Kp.of s3).trans (sq g3)
      have of':okF f l (dats ps).length:=by rw [Z1o]; exact of
      obtain ⟨r0,er⟩:=x_hd of'
      have hw':=hw
      rw [er] at hw'
      obtain ⟨v0,wr,rfl,hv0,_⟩:=hw'.inv
      cases hv0.str_inv
      refine ⟨.inl ⟨rfl,_,SqL.of g1⟩,_,SqT.kp hq k4,_,ix0,f,l,xa,_,dats ps,rfl,SqT.kp hq k4,hw.kp k4,of',fun H5 s5=>?_⟩
      refine ⟨D,rfl,_,SqL.of (s5 _ _ hD4),fun li hli x5 dx hx5 hdx ne5=>?_⟩
      rw [List.reverse_reverse] at hx5 hdx ⊢
      have sa:=Z0C hli (.lst osP)
      have sb:=Z0C hdx (.own x5)
      have sc:=Z0C (show upd (upd H5 li (.lst osP)) dx (.own x5) x5=none by rw [Z0j (fun z=>ne5 z.symm)]; exact hx5) (.ins Ct dx [])
      have S5:Same H4 (upd (upd (upd H5 li (.lst osP)) dx (.own x5)) x5 (.ins Ct dx [])):=s5.trans (sa.trans (sb.trans sc))
      have hp5:=sa _ _ (s5 _ _ g1)
      refine ⟨x5,dx,li,f,l,osP,ps,rfl,Z0g,SqL.of (sc _ _ (sb _ _ Z0g)),hoP.kp (k4.trans (Kp.of S5)),of,hpl.1,fun H6 sx6 hto=>⟨rfl,osC,sx6 _ _ (Z0m hp5 hx5) (S5 _ _ g1),by rw [lC]; omega,?_⟩⟩
      have g6:=sx6 _ _ (Z0m hp5 hx5) (S5 _ _ g1)
      have k6:Kp H' (upd H6 p1 (.lst (osC++[.ref x5]))):=k4.trans ((Kp.of S5).trans ((SX.kp sx6 Z0g).trans (Kp.lst _ g6)))
      refine ⟨_,_,_,_,fun b o nb h=>?_,Z0g,hb',(hoC.kp k6).app (.cons (hto.kp (Kp.lst _ g6)) .nil),rfl⟩
      rw [Z0j nb]
      have h4:=g3 b o nb (fun z=>Z0m (s3 _ _ (sx _ _ nb h)) hD z) (s3 _ _ (sx _ _ nb h))
      exact sx6 _ _ (Z0m (sa _ _ (s5 _ _ h4)) hx5) (S5 _ _ h4)
  · obtain ⟨os,S,o2,o3,sx,hp,hb,ho,rfl⟩:=h
    subst huz2
    walk_at "rd"
    rw [hlen,List.take_of_length_le (by rw [List.length_reverse]; exact Nat.le_refl _)] at hb
    cases P15.Bld.det rfl hb full
    cases ho with
    | cons a b=>
      refine ⟨_,SqL.of hp,_,ix0,q _ H' (fun b o hb=>?_) a⟩
      exact sx _ _ (Z0m hb h1) ((s1.trans s2) _ _ hb)
end
inductive Z7U (K:W.Frag) (vs:List V) (H:Hp) (Q:VK):Prop
  | mk (v:V) (ps:List (Str×Str)) (a1:vs=[v]) (a2:RT K H v (Z2r ps)) (a3:ps.length≤100) (a4:∀ r H',Same H H'→RT K H' (.ref r) (Z2r ps)→Q (.ref r) H'):Z7U K vs H Q
def Z5O (K:W.Frag):Sp:=fun vs H Q _=>Z7U K vs H Q
inductive Z8q (c:CS) (K:W.Frag) (vs:List V) (H:Hp) (Q:VK):Prop
  | mk (x dx:Addr) (pp bv:V) (d:Wd) (a1:vs=[.ref x,.str d.name,pp,.str d.kind,bv]) (a2:H x=some (.ins c.word dx [])) (a3:RT K H pp (Z2r d.params)) (a4:d.params.length≤100) (a5:TO K c.term H bv d.body) (a6:∀ H',SX x H H'→WdO K c H' (.ref x) d→Q .non H'):Z8q c K vs H Q
def Z7V (c:CS) (K:W.Frag):Sp:=fun vs H Q _=>Z8q c K vs H Q
inductive Z8u (c:CS) (K:W.Frag) (vs:List V) (H:Hp) (Q:VK):Prop
  | mk (x dx wl:Addr) (fv:V) (ws:List V) (d:Hs) (a1:vs=[.ref x,.str d.name,oS d.elder,fv,.ref wl]) (a2:H x=some (.ins c.house dx [])) (a3:RT K H fv (Z2r d.fields)) (a4:d.fields.length≤100) (a5:SqL K H wl ws) (a6:A2 (WdO K c H) ws d.words) (a7:∀ H',SX x H H'→HsO K c H' (.ref x) d→Q .non H'):Z8u c K vs H Q
def Z8G (c:CS) (K:W.Frag):Sp:=fun vs H Q _=>Z8u c K vs H Q
inductive Z7C (c:CS) (K:W.Frag) (vs:List V) (H:Hp) (Q:VK):Prop
  | mk (x dx hl:Addr) (mv:V) (hs:List V) (d:Pg) (a1:vs=[.ref x,.ref hl,mv]) (a2:H x=some (.ins c.program dx [])) (a3:SqL K H hl hs) (a4:A2 (HsO K c H) hs d.houses) (a5:WdO K c H mv d.main) (a6:∀ H',SX x H H'→PgO K c H' (.ref x) d→Q .non H'):Z7C c K vs H Q
def Z8n (c:CS) (K:W.Frag):Sp:=fun vs H Q _=>Z7C c K vs H Q
theorem SX.ktf {x C dx:Addr} {fs:List (Str×V)} {H H':Hp} (s:SX x H H') (hx:H x=some (.ins C dx fs)):Kt H H':=
  ⟨fun b xs h=>s b _ (fun z=>by rw [z,hx] at h; cases h) h,fun b o xs h=>s b _ (fun z=>by rw [z,hx] at h; cases h) h⟩
theorem WdO.kp {K:W.Frag} {c:CS} {H H':Hp} {v:V} {d:Wd} (h:WdO K c H v d) (k:Kp H H'):WdO K c H' v d:=by
  cases h with
  | mk a b t=>exact .mk (k.i _ _ _ _ _ a) (b.kp k) (t.kp k)
theorem HsO.kp {K:W.Frag} {c:CS} {H H':Hp} {v:V} {d:Hs} (h:HsO K c H v d) (k:Kp H H'):HsO K c H' v d:=by
  cases h with
  | mk a b q t=>exact .mk (k.i _ _ _ _ _ a) (b.kp k) (SqT.kp q k) (t.mono fun _ _ r=>WdO.kp r k)
theorem Z7u {α:Type} {K:W.Frag} {H:Hp} (f:α→PyData):∀ {ts:List α} {vs:List V},vs.length=ts.length→(∀ (j:Nat) v,vs[j]?=some v→∃ t,ts[j]?=some t∧RT K H v (f t))→RTs K H vs (ts.map f)
  | [],[],_,_=>.nil
  | t::ts,v::vs,e,h=>by
    obtain ⟨t',a,b⟩:=h 0 v rfl
    cases a
    exact .cons b (Z7u f (Nat.succ.inj e) fun j u hu=>h (j+1) u hu)
section
variable {Cl Cs Cq Ck Ct Cw Ch Cp:Addr} {P:Program} {w:World} {K:W.Frag} {mg:Str→Option Value} {base:Heap} {B:Hp}
theorem J2y (T:Txt K mg Cl Cs Cq Ck Ct Cw Ch Cp):Has P w K mg base 1 "pairs_of" ["pairs"] (Z5O K):=by
  refine Has.of T.f_pairs_of Z7f (fun _ _ _ _ _ _ us hl=>el1 us hl fun _=>rfl) (fun vs H Q E h=>?_) (fun f cdv A outer s H vs Q E hr h=>?_)
  · obtain ⟨v,ps,rfl,_⟩:=h
    rfl
  obtain ⟨v,ps,rfl,hp,hl,q⟩:=h
  obtain ⟨pa,xs,rfl,hq,hx⟩:=hp.tup_inv
  have lx:xs.length=ps.length:=by rw [hx.length,List.length_map]
  refine ⟨_,(Z0e (Z0q (Z0Q Z0I rfl T.z_tuple Z1C (Z0a (Z2f rfl (BlockOk.plain (N:=["pair"]) rfl (by decide +kernel) (by decide +kernel) (by decide +kernel)) (Z2S (pvF 0))
          (fun C fp s H=>(Z0s (i:=0) (show (["pair"]:List Str).Nodup by decide +kernel) rfl (Or.inl rfl)))
          (fun C fp s H=>(Z0Q (r:=Z9V K) Z0I rfl T.z_tuple Z1C (Z0a (pvF 0) Z0b)))) Z0b)))),?_⟩
  walk_at "rd"
  refine ⟨⟨_,hq⟩,fun D hD=>?_⟩
  refine Z1x (ys:=xs) none [] (fun j v H=>∃ p,ps[j]?=some p∧RT K H v (.tuple [.str p.1,.str p.2])) (fun j v H1 H2 ⟨t,a,b⟩ s=>⟨t,a,b.kp (kpN s)⟩) rfl hD (by rw [sizeLine_eq]; omega) (fun H1 s=>SqT.same hq s) (fun i y hy H1 K' s k=>?_) (fun vs Hc Sc hv lv hR=>?_)
  · walk_at "rd"
    obtain ⟨d,hd,hr'⟩:=hx.at hy
    rw [List.getElem?_map] at hd
    obtain ⟨p,hp',rfl⟩:=Option.map_eq_some_iff.mp hd
    obtain ⟨a,zs,rfl,hz,hzs⟩:=hr'.tup_inv
    exact ⟨a,rfl,zs,.inr ⟨SqT.same hz s,k _ _ (Same.refl _) ⟨p,hp',.tup (SqT.same hz s) (hzs.same s)⟩⟩⟩
  refine ⟨D,rfl,vs,.inl ⟨SqL.of hv,fun t5 h5=>?_⟩⟩
  have s5:=Z0C h5 (.tup vs)
  refine q _ _ (Sc.trans s5) (.tup (SqT.of Z0g) ?_)
  refine RTs.same ?_ s5
  exact Z7u (fun p=>.tuple [.str p.1,.str p.2]) (lv.trans lx) hR
theorem J2I (T:Txt K mg Cl Cs Cq Ck Ct Cw Ch Cp) (h_pairs_of:Has P w K mg base 1 "pairs_of" ["pairs"] (Z5O K)):HasM P w K mg base 2 Cw "__init__" ["self","name","params","kind","body"] (Z7V (CS.mk Ct Cw Ch Cp Cl Cs Cq Ck B) K):=by
  refine HasM.of T.m_Word___init__ Z4j (fun _ _ _ _ _ _ us hl=>el5 us hl fun _ _ _ _ _=>rfl) (fun vs H Q E h=>?_) (fun f cdv A outer s H vs Q E hr h=>?_)
  · obtain ⟨x,dx,pp,bv,d,rfl,_⟩:=h
    rfl
  obtain ⟨x,dx,pp,bv,d,rfl,hx,hp,hl,hb,q⟩:=h
  refine ⟨_,(Z0c (Z0D (pvF 0) (pvF 1) rfl)
    (Z0c (Z0D (pvF 0) (Z0J h_pairs_of hr (by decide) rfl (Z0a (pvF 2) Z0b)) rfl)
    (Z0c (Z0D (pvF 0) (pvF 3) rfl)
    (Z0e (Z0D (pvF 0) (pvF 4) rfl))))),?_⟩
  refine seq4 fun uz3 huz3 uz2 huz2 uz1 huz1=>?_
  walk_at "rd"
  refine ⟨Cw,dx,_,hx,T.Word.cl,T.n_Word_name,Nat.lt_of_sub_eq_succ rfl,?_⟩
  subst huz1
  walk_at "rd"
  have S1:SX x H (upd H x (.ins Cw dx (putF "name" (.str d.name) []))):=SX.put _
  have X1:upd H x (.ins Cw dx (putF "name" (.str d.name) [])) x=some (.ins Cw dx (putF "name" (.str d.name) [])):=Z0g
  generalize upd H x (.ins Cw dx (putF "name" (.str d.name) []))=H1 at *
  refine ⟨pp,d.params,rfl,hp.kp (S1.kp hx),hl,fun r H2 s2 hr2=>?_⟩
  have X2:=s2 _ _ X1
  refine ⟨Cw,dx,_,X2,T.Word.cl,T.n_Word_params,Nat.lt_of_sub_eq_succ rfl,?_⟩
  subst huz2
  walk_at "rd"
  refine ⟨Cw,dx,_,Z0g,T.Word.cl,T.n_Word_kind,Nat.lt_of_sub_eq_succ rfl,?_⟩
  subst huz3
  walk_at "rd"
  refine ⟨Cw,dx,_,Z0g,T.Word.cl,T.n_Word_body,Nat.lt_of_sub_eq_succ rfl,?_⟩
  have S3:SX x H2 _:=(SX.put (.ins Cw dx (putF "params" (.ref r) (putF "name" (.str d.name) [])))).trans ((SX.put (.ins Cw dx (putF "kind" (.str d.kind) (putF "params" (.ref r) (putF "name" (.str d.name) []))))).trans (SX.put (.ins Cw dx (putF "body" bv (putF "kind" (.str d.kind) (putF "params" (.ref r) (putF "name" (.str d.name) [])))))))
  have S4:=S1.trans ((SX.of s2).trans S3)
  exact q _ S4 (.mk (Z0g) (hr2.kt (SX.ktf S3 X2)) (hb.kp (S4.kp hx)))
theorem J2n (T:Txt K mg Cl Cs Cq Ck Ct Cw Ch Cp) (h_pairs_of:Has P w K mg base 1 "pairs_of" ["pairs"] (Z5O K)):HasM P w K mg base 2 Ch "__init__" ["self","name","elder","own_fields","own_words"] (Z8G (CS.mk Ct Cw Ch Cp Cl Cs Cq Ck B) K):=by
  refine HasM.of T.m_House___init__ Z4a (fun _ _ _ _ _ _ us hl=>el5 us hl fun _ _ _ _ _=>rfl) (fun vs H Q E h=>?_) (fun f cdv A outer s H vs Q E hr h=>?_)
  · obtain ⟨x,dx,wl,fv,ws,d,rfl,_⟩:=h
    rfl
  obtain ⟨x,dx,wl,fv,ws,d,rfl,hx,hp,hl,hw,hb,q⟩:=h
  refine ⟨_,(Z0c (Z0D (pvF 0) (pvF 1) rfl)
    (Z0c (Z0D (pvF 0) (pvF 2) rfl)
    (Z0c (Z0D (pvF 0) (Z0J h_pairs_of hr (by decide) rfl (Z0a (pvF 3) Z0b)) rfl)
    (Z0e (Z0D (pvF 0) (Z0Q Z0I rfl T.z_tuple Z1C (Z0a (pvF 4) Z0b)) rfl))))),?_⟩
  refine seq4 fun uz3 huz3 uz2 huz2 uz1 huz1=>?_
  walk_at "rd"
  refine ⟨Ch,dx,_,hx,T.House.cl,T.n_House_name,Nat.lt_of_sub_eq_succ rfl,?_⟩
  subst huz1
  walk_at "rd"
  refine ⟨Ch,dx,_,Z0g,T.House.cl,T.n_House_elder,Nat.lt_of_sub_eq_succ rfl,?_⟩
  subst huz2
  walk_at "rd"
  have S1:SX x H (upd (upd H x (.ins Ch dx (putF "name" (.str d.name) []))) x (.ins Ch dx (putF "elder" (oS d.elder) (putF "name" (.str d.name) [])))):=(SX.put _).trans (SX.put _)
  have X1:upd (upd H x (.ins Ch dx (putF "name" (.str d.name) []))) x (.ins Ch dx (putF "elder" (oS d.elder) (putF "name" (.str d.name) []))) x=some (.ins Ch dx (putF "elder" (oS d.elder) (putF "name" (.str d.name) []))):=Z0g
  generalize upd (upd H x (.ins Ch dx (putF "name" (.str d.name) []))) x (.ins Ch dx (putF "elder" (oS d.elder) (putF "name" (.str d.name) [])))=H1 at *
  refine ⟨fv,d.fields,rfl,hp.kp (S1.kp hx),hl,fun r H2 s2 hr2=>?_⟩
  have X2:=s2 _ _ X1
  refine ⟨Ch,dx,_,X2,T.House.cl,T.n_House_own_fields,Nat.lt_of_sub_eq_succ rfl,?_⟩
  subst huz3
  walk_at "rd"
  have S3:SX x H2 (upd H2 x (.ins Ch dx (putF "own_fields" (.ref r) (putF "elder" (oS d.elder) (putF "name" (.str d.name) []))))):=SX.put _
  have X3:upd H2 x (.ins Ch dx (putF "own_fields" (.ref r) (putF "elder" (oS d.elder) (putF "name" (.str d.name) [])))) x=some (.ins Ch dx (putF "own_fields" (.ref r) (putF "elder" (oS d.elder) (putF "name" (.str d.name) [])))):=Z0g
  generalize upd H2 x (.ins Ch dx (putF "own_fields" (.ref r) (putF "elder" (oS d.elder) (putF "name" (.str d.name) []))))=H3 at *
  have S03:=S1.trans ((SX.of s2).trans S3)
  refine ⟨ws,.inl ⟨S03.sqL hx hw,fun wt hwt=>?_⟩⟩
  have s4:=Z0C hwt (.tup ws)
  have X4:=s4 _ _ X3
  have nx:wt≠x:=fun z=>Z0m X3 hwt z.symm
  refine ⟨Ch,dx,_,X4,T.House.cl,T.n_House_own_words,Nat.lt_of_sub_eq_succ rfl,?_⟩
  have S4:=(SX.of (x:=x) s4).trans (SX.put (.ins Ch dx (putF "own_words" (.ref wt) (putF "own_fields" (.ref r) (putF "elder" (oS d.elder) (putF "name" (.str d.name) []))))))
  have S5:=S03.trans S4
  refine q _ S5 (.mk Z0g (hr2.kt (SX.ktf (S3.trans S4) X2)) (SqT.of (by rw [Z0j nx]; exact Z0g)) (hb.mono fun _ _ r=>WdO.kp r (S5.kp hx)))
theorem J3h (T:Txt K mg Cl Cs Cq Ck Ct Cw Ch Cp):HasM P w K mg base 1 Cp "__init__" ["self","all_houses","main"] (Z8n (CS.mk Ct Cw Ch Cp Cl Cs Cq Ck B) K):=by
  refine HasM.of T.m_Program___init__ Z3t (fun _ _ _ _ _ _ us hl=>el3 us hl fun _ _ _=>rfl) (fun vs H Q E h=>?_) (fun f cdv A outer s H vs Q E hr h=>?_)
  · obtain ⟨x,dx,hl,mv,hs,d,rfl,_⟩:=h
    rfl
  obtain ⟨x,dx,hl,mv,hs,d,rfl,hx,hw,hb,hm,q⟩:=h
  refine ⟨_,(Z0c (Z0D (pvF 0) (Z0Q Z0I rfl T.z_tuple Z1C (Z0a (pvF 1) Z0b)) rfl)
    (Z0e (Z0D (pvF 0) (pvF 2) rfl))),?_⟩
  refine seq2 fun uz1 huz1=>?_
  walk_at "rd"
  refine ⟨hs,.inl ⟨hw,fun wt hwt=>?_⟩⟩
  have s1:=Z0C hwt (.tup hs)
  have nx:wt≠x:=fun z=>Z0m hx hwt z.symm
  refine ⟨Cp,dx,_,s1 _ _ hx,T.Program.cl,T.n_Program_all_houses,Nat.lt_of_sub_eq_succ rfl,?_⟩
  subst huz1
  walk_at "rd"
  refine ⟨Cp,dx,_,Z0g,T.Program.cl,T.n_Program_main,Nat.lt_of_sub_eq_succ rfl,?_⟩
  have S4:=(SX.of (x:=x) s1).trans ((SX.put (.ins Cp dx (putF "all_houses" (.ref wt) []))).trans (SX.put (.ins Cp dx (putF "main" mv (putF "all_houses" (.ref wt) [])))))
  exact q _ S4 (.mk Z0g (SqT.of (by rw [Z0j nx,Z0j nx]; exact Z0g)) (hb.mono fun _ _ r=>HsO.kp r (S4.kp hx)) (WdO.kp hm (S4.kp hx)))
end
inductive J0F (c:CS) (K:W.Frag) (vs:List V) (H:Hp) (Q:VK):Prop
  | mk (v:V) (d:Wd) (a1:vs=[v]) (a2:RT K H v (Z3G d)) (a3:WdOk d) (a4:∀ u H',Same H H'→WdO K c H' u d→Q u H'):J0F c K vs H Q
def Z7i (c:CS) (K:W.Frag):Sp:=fun vs H Q _=>J0F c K vs H Q
inductive Z7I (c:CS) (K:W.Frag) (vs:List V) (H:Hp) (Q:VK):Prop
  | mk (v:V) (d:Hs) (a1:vs=[v]) (a2:RT K H v (J0y d)) (a3:HsOk d) (a4:∀ u H',Same H H'→HsO K c H' u d→Q u H'):Z7I c K vs H Q
def Z7W (c:CS) (K:W.Frag):Sp:=fun vs H Q _=>Z7I c K vs H Q
inductive Z5h (c:CS) (K:W.Frag) (vs:List V) (H:Hp) (Q:VK):Prop
  | mk (v:V) (d:Pg) (a1:vs=[v]) (a2:RT K H v (J3G d)) (a3:(∀ h∈d.houses,HsOk h)) (a4:d.houses.length≤100) (a5:WdOk d.main) (a6:d.main.name="main") (a7:∀ u H',Same H H'→PgO K c H' u d→Q u H'):Z5h c K vs H Q
def Z9a (c:CS) (K:W.Frag):Sp:=fun vs H Q _=>Z5h c K vs H Q
theorem Z1z {H:Hp} {x dx C:Addr} (hx:H x=none) (hdx:H dx=none) (ne:dx≠x):Same H (upd (upd H dx (.own x)) x (.ins C dx [])):=
  (Z0C hdx _).trans (Z0C (by rw [Z0j (fun z=>ne z.symm)]; exact hx) _)
theorem J8K {K:W.Frag} {H:Hp} {v:V} {o:Option Str} (h:RT K H v (oD o)):v=oS o:=by
  cases o with
  | none=>cases h; rfl
  | some s=>cases h; rfl
theorem J3Y {α:Type} {Rr:V→α→Prop} {vs:List V} {ts:List α} (l:vs.length=ts.length) (h:∀ (j:Nat) v,vs[j]?=some v→∃ t,ts[j]?=some t∧Rr v t):A2 Rr vs ts:=A2.of l h
section
variable {Cl Cs Cq Ck Ct Cw Ch Cp:Addr} {P:Program} {w:World} {K:W.Frag} {mg:Str→Option Value} {base:Heap} {B:Hp}
theorem J5m (T:Txt K mg Cl Cs Cq Ck Ct Cw Ch Cp) (h_term_of:Has P w K mg base 4 "term_of" ["plain"] (Z6o Ct K)) (h_Word___init__:HasM P w K mg base 2 Cw "__init__" ["self","name","params","kind","body"] (Z7V (CS.mk Ct Cw Ch Cp Cl Cs Cq Ck B) K)):Has P w K mg base 5 "word_of" ["plain"] (Z7i (CS.mk Ct Cw Ch Cp Cl Cs Cq Ck B) K):=by
  refine Has.of T.f_word_of sc_word_of (fun _ _ _ _ _ _ us hl=>el1 us hl fun _=>rfl) (fun vs H Q E h=>?_) (fun f cdv A outer s H vs Q E hr h=>?_)
  · obtain ⟨v,d,rfl,_⟩:=h
    rfl
  obtain ⟨v,d,rfl,hv,hd,q⟩:=h
  obtain ⟨a,xs,rfl,hq,hx⟩:=hv.tup_inv
  obtain ⟨v1,r1,rfl,h1,hx⟩:=hx.inv
  obtain ⟨v2,r2,rfl,h2,hx⟩:=hx.inv
  obtain ⟨v3,r3,rfl,h3,hx⟩:=hx.inv
  obtain ⟨v4,r4,rfl,h4,hx⟩:=hx.inv
  cases hx.nil_inv
  cases h1.str_inv
  cases h3.str_inv
  refine ⟨_,(Z0c (Z3i (pvF 0) (Z2v (n:=4) rfl (Z0w (Z0s (i:=1) sc_word_of.nd rfl (Or.inl rfl)) (Z0w (Z0s (i:=2) sc_word_of.nd rfl (Or.inl rfl)) (Z0w (Z0s (i:=3) sc_word_of.nd rfl (Or.inl rfl)) (Z0w (Z0s (i:=4) sc_word_of.nd rfl (Or.inl rfl)) Z2x))))))
    (Z0e (Z0q (Z3C T.Word h_Word___init__ hr (by decide) rfl (Z0a (pvF 1) (Z0a (pvF 2) (Z0a (pvF 3) (Z0a (Z0J h_term_of hr (by decide) rfl (Z0a (pvF 4) Z0b)) Z0b)))))))),?_⟩
  walk_at "rd"
  refine ⟨_,hq,rfl,⟨_,_,rfl,⟨_,_,rfl,⟨_,_,rfl,⟨_,_,rfl,?_⟩⟩⟩⟩⟩
  walk_at "rd"
  refine ⟨v4,d.body,rfl,h4,hd.ok,hd.fl,fun u H1 s1 hto x dx hx hdx ne=>?_⟩
  have s2:=Z1z (C:=Cw) hx hdx ne
  refine ⟨x,dx,v2,u,d,rfl,Z0g,h2.same (s1.trans s2),hd.pl,hto.kp (Kp.of s2),fun H3 sx hw=>⟨rfl,q _ _ (Z2g (s1.trans s2) sx ?_) hw⟩⟩
  cases e:H x with
  | none=>rfl
  | some o=>rw [s1 _ _ e] at hx; cases hx
theorem J2R (T:Txt K mg Cl Cs Cq Ck Ct Cw Ch Cp) (h_word_of:Has P w K mg base 5 "word_of" ["plain"] (Z7i (CS.mk Ct Cw Ch Cp Cl Cs Cq Ck B) K)) (h_House___init__:HasM P w K mg base 2 Ch "__init__" ["self","name","elder","own_fields","own_words"] (Z8G (CS.mk Ct Cw Ch Cp Cl Cs Cq Ck B) K)):Has P w K mg base 6 "house_of" ["plain"] (Z7W (CS.mk Ct Cw Ch Cp Cl Cs Cq Ck B) K):=by
  refine Has.of T.f_house_of sc_house_of (fun _ _ _ _ _ _ us hl=>el1 us hl fun _=>rfl) (fun vs H Q E h=>?_) (fun f cdv A outer s H vs Q E hr h=>?_)
  · obtain ⟨v,d,rfl,_⟩:=h
    rfl
  obtain ⟨v,d,rfl,hv,hd,q⟩:=h
  obtain ⟨a,xs,rfl,hq,hx⟩:=hv.tup_inv
  obtain ⟨v1,r1,rfl,h1,hx⟩:=hx.inv
  obtain ⟨v2,r2,rfl,h2,hx⟩:=hx.inv
  obtain ⟨v3,r3,rfl,h3,hx⟩:=hx.inv
  obtain ⟨v4,r4,rfl,h4,hx⟩:=hx.inv
  cases hx.nil_inv
  cases h1.str_inv
  cases J8K h2
  obtain ⟨wa,us,rfl,hw,hu⟩:=h4.tup_inv
  have lu:us.length=d.words.length:=by rw [hu.length,List.length_map]
  have lw:=hd.wl
  refine ⟨_,(Z0c (Z3i (pvF 0) (Z2v (n:=4) rfl (Z0w (Z0s (i:=1) sc_house_of.nd rfl (Or.inl rfl)) (Z0w (Z0s (i:=2) sc_house_of.nd rfl (Or.inl rfl)) (Z0w (Z0s (i:=3) sc_house_of.nd rfl (Or.inl rfl)) (Z0w (Z0s (i:=4) sc_house_of.nd rfl (Or.inl rfl)) Z2x))))))
    (Z0e (Z0q (Z3C T.House h_House___init__ hr (by decide) rfl (Z0a (pvF 1) (Z0a (pvF 2) (Z0a (pvF 3) (Z0a (Z2f rfl (BlockOk.plain (N:=["word"]) rfl (by decide +kernel) (by decide +kernel) (by decide +kernel)) (Z2S (pvF 4))
          (fun C fp s H=>(Z0s (i:=0) (show (["word"]:List Str).Nodup by decide +kernel) rfl (Or.inl rfl)))
          (fun C fp s H=>(Z0J h_word_of hr (by decide) rfl (Z0a (pvF 0) Z0b)))) Z0b)))))))),?_⟩
  walk_at "rd"
  refine ⟨_,hq,rfl,⟨_,_,rfl,⟨_,_,rfl,⟨_,_,rfl,⟨_,_,rfl,?_⟩⟩⟩⟩⟩
  walk_at "rd"
  refine ⟨⟨_,hw⟩,fun D hD=>?_⟩
  refine Z1x (ys:=us) none [] (fun j v H=>∃ t,d.words[j]?=some t∧WdO K (CS.mk Ct Cw Ch Cp Cl Cs Cq Ck B) H v t) (fun j v H1 H2 ⟨t,a,b⟩ s=>⟨t,a,WdO.kp b (kpN s)⟩) rfl hD (by rw [sizeLine_eq]; omega) (fun H1 s=>SqT.same hw s) (fun i y hy H1 K' s k=>?_) (fun vs Hc Sc hv lv hR=>?_)
  · walk_at "rd"
    obtain ⟨t,ht,hr'⟩:=hu.at hy
    rw [List.getElem?_map] at ht
    obtain ⟨t,ht2,rfl⟩:=Option.map_eq_some_iff.mp ht
    exact ⟨y,t,rfl,hr'.same s,hd.wd t (List.mem_of_getElem? ht2),fun u H2 s2 hw2=>k _ _ s2 ⟨t,ht2,hw2⟩⟩
  have hws:=J3Y (lv.trans lu) hR
  intro x dx hx hdx ne
  have s2:=Z1z (C:=Ch) hx hdx ne
  refine ⟨x,dx,D,v3,vs,d,rfl,Z0g,h3.same (Sc.trans s2),hd.fl,SqL.of (s2 _ _ hv),hws.mono fun _ _ r=>r.same s2,fun H3 sx hw=>⟨rfl,q _ _ (Z2g (Sc.trans s2) sx ?_) hw⟩⟩
  cases e:H x with
  | none=>rfl
  | some o=>rw [Sc _ _ e] at hx; cases hx
theorem Z8W (T:Txt K mg Cl Cs Cq Ck Ct Cw Ch Cp) (h_word_of:Has P w K mg base 5 "word_of" ["plain"] (Z7i (CS.mk Ct Cw Ch Cp Cl Cs Cq Ck B) K)) (h_house_of:Has P w K mg base 6 "house_of" ["plain"] (Z7W (CS.mk Ct Cw Ch Cp Cl Cs Cq Ck B) K)) (h_Program___init__:HasM P w K mg base 1 Cp "__init__" ["self","all_houses","main"] (Z8n (CS.mk Ct Cw Ch Cp Cl Cs Cq Ck B) K)):Has P w K mg base 7 "program_of" ["plain"] (Z9a (CS.mk Ct Cw Ch Cp Cl Cs Cq Ck B) K):=by
  refine Has.of T.f_program_of sc_program_of (fun _ _ _ _ _ _ us hl=>el1 us hl fun _=>rfl) (fun vs H Q E h=>?_) (fun f cdv A outer s H vs Q E hr h=>?_)
  · obtain ⟨v,d,rfl,_⟩:=h
    rfl
  obtain ⟨v,d,rfl,hv,hhs,hlen,hmn,hnm,q⟩:=h
  obtain ⟨a,xs,rfl,hq,hx⟩:=hv.tup_inv
  obtain ⟨v1,r1,rfl,h1,hx⟩:=hx.inv
  obtain ⟨v2,r2,rfl,h2,hx⟩:=hx.inv
  cases hx.nil_inv
  obtain ⟨b,ys,rfl,hqb,hy⟩:=h2.tup_inv
  obtain ⟨u1,r1,rfl,g1,hy⟩:=hy.inv
  obtain ⟨u2,r2,rfl,g2,hy⟩:=hy.inv
  obtain ⟨u3,r3,rfl,g3,hy⟩:=hy.inv
  cases hy.nil_inv
  cases g2.str_inv
  obtain ⟨ha,us,rfl,hw,hu⟩:=h1.tup_inv
  have lu:us.length=d.houses.length:=by rw [hu.length,List.length_map]
  refine ⟨_,(Z0c (Z3i (pvF 0) (Z2v (n:=2) rfl (Z0w (Z0s (i:=1) sc_program_of.nd rfl (Or.inl rfl)) (Z0w (Z0s (i:=2) sc_program_of.nd rfl (Or.inl rfl)) Z2x))))
    (Z0c (Z3i (pvF 2) (Z2v (n:=3) rfl (Z0w (Z0s (i:=3) sc_program_of.nd rfl (Or.inl rfl)) (Z0w (Z0s (i:=4) sc_program_of.nd rfl (Or.inl rfl)) (Z0w (Z0s (i:=5) sc_program_of.nd rfl (Or.inl rfl)) Z2x)))))
    (Z0e (Z0q (Z3C T.Program h_Program___init__ hr (by decide) rfl (Z0a (Z2f rfl (BlockOk.plain (N:=["house"]) rfl (by decide +kernel) (by decide +kernel) (by decide +kernel)) (Z2S (pvF 1))
          (fun C fp s H=>(Z0s (i:=0) (show (["house"]:List Str).Nodup by decide +kernel) rfl (Or.inl rfl)))
          (fun C fp s H=>(Z0J h_house_of hr (by decide) rfl (Z0a (pvF 0) Z0b)))) (Z0a (Z0J h_word_of hr (by decide) rfl (Z0a (Z0k (Z0a Z0f (Z0a (pvF 3) (Z0a (pvF 4) (Z0a (pvF 5) Z0b))))) Z0b)) Z0b))))))),?_⟩
  walk_at "rd"
  refine ⟨_,hq,rfl,⟨_,_,rfl,⟨_,_,rfl,?_⟩⟩⟩
  walk_at "rd"
  refine ⟨_,hqb,rfl,⟨_,_,rfl,⟨_,_,rfl,⟨_,_,rfl,?_⟩⟩⟩⟩
  walk_at "rd"
  refine ⟨⟨_,hw⟩,fun D hD=>?_⟩
  refine Z1x (ys:=us) none [] (fun j v H=>∃ t,d.houses[j]?=some t∧HsO K (CS.mk Ct Cw Ch Cp Cl Cs Cq Ck B) H v t) (fun j v H1 H2 ⟨t,a,b⟩ s=>⟨t,a,HsO.kp b (kpN s)⟩) rfl hD (by rw [sizeLine_eq]; omega) (fun H1 s=>SqT.same hw s) (fun i y hy H1 K' s k=>?_) (fun vs Hc Sc hv lv hR=>?_)
  · walk_at "rd"
    obtain ⟨t,ht,hr'⟩:=hu.at hy
    rw [List.getElem?_map] at ht
    obtain ⟨t,ht2,rfl⟩:=Option.map_eq_some_iff.mp ht
    exact ⟨y,t,rfl,hr'.same s,hhs t (List.mem_of_getElem? ht2),fun u H2 s2 hw2=>k _ _ s2 ⟨t,ht2,hw2⟩⟩
  have hws:=J3Y (lv.trans lu) hR
  refine New.of fun p1 H1 h1 s1 e1=>?_
  have wd:RT K H1 (.ref p1) (Z3G d.main):=by
    refine .tup (SqT.of e1) (.cons ?_ (.cons (g1.same (Sc.trans s1)) (.cons (.str _) (.cons (g3.same (Sc.trans s1)) .nil))))
    rw [hnm]; exact .str _
  refine ⟨.ref p1,d.main,rfl,wd,hmn,fun u H2 s2 hm x dx hx hdx ne=>?_⟩
  have s3:=Z1z (C:=Cp) hx hdx ne
  have s4:=s1.trans (s2.trans s3)
  refine ⟨x,dx,D,u,vs,d,rfl,Z0g,SqL.of (s4 _ _ hv),hws.mono fun _ _ r=>r.same s4,hm.same s3,fun H3 sx hw=>⟨rfl,q _ _ (Z2g (Sc.trans s4) sx ?_) hw⟩⟩
  cases e:H x with
  | none=>rfl
  | some o=>rw [s2 _ _ (s1 _ _ (Sc _ _ e))] at hx; cases hx
end
inductive Z8w (c:CS) (K:W.Frag) (vs:List V) (H:Hp) (Q:VK):Prop
  | mk (x dx:Addr) (pp:V) (G:Pg) (a1:vs=[.ref x,pp]) (a2:H x=some (.ins c.hall dx [])) (a3:PgO K c H pp G) (a4:GOk G) (a5:G.houses.length≤100) (a6:∀ H',SX x H H'→HlO K c H' (.ref x) G→Q .non H'):Z8w c K vs H Q
def Z8d (c:CS) (K:W.Frag):Sp:=fun vs H Q _=>Z8w c K vs H Q
inductive Z6f (c:CS) (K:W.Frag) (vs:List V) (H:Hp) (Q:VK):Prop
  | mk (a:Addr) (h:Str) (G:Pg) (es:List Str) (a1:vs=[.ref a,.str h]) (a2:HlO K c H (.ref a) G) (a3:Chain G h es) (a4:es.length≤100) (a5:∀ l H',H l=none→Same H H'→H' l=some (.lst (es.map V.str))→Q (.ref l) H'):Z6f c K vs H Q
def Z3J (c:CS) (K:W.Frag):Sp:=fun vs H Q _=>Z6f c K vs H Q
theorem J5x {kvs:List (Key×V)} {k:Key} (h:k∉kvs.map (·.1)):valV kvs k=none:=by
  induction kvs with
  | nil=>rfl
  | cons p r ih=>
    rw [List.map_cons,List.mem_cons,not_or] at h
    rw [Z3f (fun z=>h.1 z.symm)]
    exact ih h.2
noncomputable def kvOf:List V→List Hs→List (Key×V)
  | v::vs,h::hs=>(.inr h.name,v)::kvOf vs hs
  | _,_=>[]
theorem J0T:∀ {vs:List V} {hs:List Hs} {i:Nat} {v:V} {h:Hs},vs[i]?=some v→hs[i]?=some h→(kvOf vs hs).take (i+1)=(kvOf vs hs).take i++[(.inr h.name,v)]
  | _::vs,_::hs,0,v,h,a,b=>by cases a; cases b; rfl
  | _::vs,_::hs,i+1,v,h,a,b=>by
    have:=J0T (vs:=vs) (hs:=hs) (i:=i) a b
    show _::List.take (i+1) (kvOf vs hs)=_::(List.take i (kvOf vs hs)++_)
    rw [this]
theorem Z4E:∀ {vs:List V} {hs:List Hs},vs.length=hs.length→(kvOf vs hs).map (·.1)=hs.map fun h=>.inr h.name
  | [],[],_=>rfl
  | _::vs,_::hs,e=>by
    show _::List.map _ (kvOf vs hs)=_
    rw [Z4E (Nat.succ.inj e)]; rfl
theorem J0B {R:V→Hs→Prop}:∀ {vs:List V} {hs:List Hs},A2 R vs hs→A2 (fun kv h=>kv.1=.inr h.name∧R kv.2 h) (kvOf vs hs) hs
  | _,_,.nil=>.nil
  | _,_,.cons r t=>.cons ⟨rfl,r⟩ (J0B t)
theorem J2m {vs:List V} {hs:List Hs} {i:Nat} {h:Hs} (l:vs.length=hs.length) (n:(hs.map Hs.name).Nodup) (e:hs[i]?=some h):valV ((kvOf vs hs).take i) (.inr h.name)=none:=by
  refine J5x fun z=>?_
  rw [List.map_take,Z4E l] at z
  have e2:(hs.map Hs.name)[i]?=some h.name:=by rw [List.getElem?_map,e]; rfl
  have z2:h.name∈(hs.map Hs.name).take i:=by
    rw [← List.map_take] at z ⊢
    obtain ⟨g,hg,eg⟩:=List.mem_map.mp z
    exact List.mem_map.mpr ⟨g,hg,Sum.inr.inj eg⟩
  generalize hs.map Hs.name=ns at *
  obtain ⟨j,hj⟩:=List.mem_iff_getElem?.mp z2
  rw [List.getElem?_take] at hj
  split at hj
  · rename_i lt
    have h1:=(List.getElem?_eq_some_iff.mp hj).1
    have h2:=(List.getElem?_eq_some_iff.mp e2).1
    have:=(List.getElem?_inj h1 n).mp (hj.trans e2.symm)
    omega
  · cases hj
theorem Z0Z {K:W.Frag} {c:CS} {H:Hp} {a:Addr} {G:Pg} (h:HlO K c H (.ref a) G):∃ dx io d kvs,H a=some (.ins c.hall dx [("in_order",.ref io),("by_name",.ref d)])∧H d=some (.dK kvs)∧GOk G∧∀ x X,Look G x X→∃ b bx ft wt ws,DGet H d (.str x) (some (.ref b))∧H b=some (.ins c.house bx [("name",.str X.name),("elder",oS X.elder),("own_fields",.ref ft),("own_words",.ref wt)])∧RT K H (.ref ft) (Z2r X.fields)∧SqT K H wt ws∧A2 (WdO K c H) ws X.words∧HsOk X:=by
  cases h with
  | mk e1 e2 r ok=>
    refine ⟨_,_,_,_,e1,e2,ok,fun x X lk=>?_⟩
    obtain ⟨v,hv,ho⟩:=J3f r ok.nd lk.1
    cases ho with
    | mk f1 f2 f3 f4=>
      refine ⟨_,_,_,_,_,?_,f1,f2,f3,f4,ok.hs _ lk.1⟩
      rw [← hv,lk.2]
      exact DGet.k (k:=.inr x) e2
theorem Chain.at {G:Pg} {h:Str} {es:List Str} (c:Chain G h es):∀ (i:Nat) (x:Str),(h::es)[i]?=some x→∃ X,Look G x X∧X.elder=es[i]?:=by
  induction c with
  | top l e=>
    intro i x hx
    cases i with
    | zero=>cases hx; exact ⟨_,l,e⟩
    | succ i=>cases hx
  | up l e _ ih=>
    intro i x hx
    cases i with
    | zero=>cases hx; exact ⟨_,l,e⟩
    | succ i=>exact ih i x hx
theorem Z3h {H:Hp} {x d:Addr} {o:HO} (h:H x=some o) (n:H d=none):d≠x:=fun z=>Z0m h n z.symm
section
variable {Cl Cs Cq Ck Ct Cw Ch Cp:Addr} {P:Program} {w:World} {K:W.Frag} {mg:Str→Option Value} {base:Heap} {B:Hp}
noncomputable def LI (K:W.Frag) (H2:Hp) (x d:Addr) (pp:V) (hs:List V) (houses:List Hs) (i:Nat) (σ:St) (H':Hp):Prop:=∃ o2,SX d H2 H'∧H' d=some (.dK ((kvOf hs houses).take i))∧σ=[some (.ref x),some pp,o2]
theorem J2J (T:Txt K mg Cl Cs Cq Ck Ct Cw Ch Cp):HasM P w K mg base 1 Cl "__init__" ["self","program"] (Z8d (CS.mk Ct Cw Ch Cp Cl Cs Cq Ck B) K):=by
  refine HasM.of T.m_Hall___init__ sc_Hall___init__ (fun _ _ _ _ _ _ us hl=>el2 us hl fun _ _=>rfl) (fun vs H Q E h=>?_) (fun f cdv A outer s H vs Q E hr h=>?_)
  · obtain ⟨x,dx,pp,G,rfl,_⟩:=h
    rfl
  obtain ⟨x,dx,pp,G,rfl,hx,hp,ok,hlen,q⟩:=h
  obtain ⟨hp0,pa,pdx,ht,hs,mv,rfl,ha,hq,hh⟩:PgO K (CS.mk Ct Cw Ch Cp Cl Cs Cq Ck B) H pp G∧∃ pa pdx ht hs mv,pp=.ref pa∧H pa=some (.ins Cp pdx [("all_houses",.ref ht),("main",mv)])∧SqT K H ht hs∧A2 (HsO K (CS.mk Ct Cw Ch Cp Cl Cs Cq Ck B) H) hs G.houses:=by
    refine ⟨hp,?_⟩
    cases hp with
    | mk a b c d=>exact ⟨_,_,_,_,_,rfl,a,b,c⟩
  have lh:hs.length=G.houses.length:=hh.len
  refine ⟨_,(Z0c (Z0D (pvF 0) (Z0Q Z0I rfl T.z_tuple Z1C (Z0a (Z2f rfl (BlockOk.plain (N:=["house"]) rfl (by decide +kernel) (by decide +kernel) (by decide +kernel)) (Z2S (Z0i (pvF 1) rfl))
          (fun C fp s H=>(Z0s (i:=0) (show (["house"]:List Str).Nodup by decide +kernel) rfl (Or.inl rfl)))
          (fun C fp s H=>(show PE _ _ (Z9S K _ "name") from Z0i (pvF 0) rfl))) Z0b)) rfl)
    (Z0c (Z0D (pvF 0) J2C rfl)
    (Z0e (Z3a PassesOwn.never rfl (Z2S (Z0i (pvF 1) rfl)) (Z0s (i:=2) sc_Hall___init__.nd rfl (Or.inl rfl)) (Z0e (Z5B (Z2T hr) (Z0i (pvF 0) rfl) (Z0i (pvF 2) rfl) (pvF 2) rfl)))))),?_⟩
  refine seq3 fun uz2 huz2 uz1 huz1=>?_
  walk_at "rd"
  refine ⟨Cp,pdx,_,ha,T.Program.cl,T.n_Program_all_houses,.ref ht,rfl,ht,rfl,⟨_,hq⟩,fun D hD=>?_⟩
  refine Z1x (ys:=hs) none [] (fun j v H=>∃ t,G.houses[j]?=some t∧v=.str t.name) (fun _ _ _ _ h _=>h) rfl hD (by rw [sizeLine_eq]; omega) (fun H1 s=>SqT.same hq s) (fun i y hy H1 K' s k=>?_) (fun vs Hc Sc hv lv hR=>?_)
  · walk_at "rd"
    obtain ⟨t,ht',ho⟩:=hh.at hy
    have ho:=ho.same s
    cases ho with
    | mk f1 f2 f3 f4=>exact ⟨_,rfl,Ch,_,_,f1,T.House.cl,T.n_House_name,_,rfl,k _ _ (Same.refl _) ⟨t,ht',rfl⟩⟩
  walk_at "rd"
  refine ⟨vs,.inl ⟨SqL.of hv,fun io hio=>?_⟩⟩
  have s1:=Sc.trans (Z0C hio (.tup vs))
  generalize upd Hc io (.tup vs)=H1 at *
  refine ⟨Cl,dx,_,s1 _ _ hx,T.Hall.cl,T.n_Hall_in_order,Nat.lt_of_sub_eq_succ rfl,?_⟩
  subst huz1
  walk_at "rd"
  have S1:SX x H (upd H1 x (.ins Cl dx (putF "in_order" (.ref io) []))):=(SX.of s1).trans (SX.put _)
  have X1:upd H1 x (.ins Cl dx (putF "in_order" (.ref io) [])) x=some (.ins Cl dx (putF "in_order" (.ref io) [])):=Z0g
  generalize upd H1 x (.ins Cl dx (putF "in_order" (.ref io) []))=H2 at *
  intro d hd
  have s2:=Z0C hd (.dK [])
  have nd:d≠x:=Z3h X1 hd
  refine ⟨Cl,dx,_,s2 _ _ X1,T.Hall.cl,T.n_Hall_by_name,Nat.lt_of_sub_eq_succ rfl,?_⟩
  have S2:SX x H (upd (upd H2 d (.dK [])) x (.ins Cl dx (putF "by_name" (.ref d) (putF "in_order" (.ref io) [])))):=S1.trans ((SX.of s2).trans (SX.put _))
  have X2:upd (upd H2 d (.dK [])) x (.ins Cl dx (putF "by_name" (.ref d) (putF "in_order" (.ref io) []))) x=some (.ins Cl dx (putF "by_name" (.ref d) (putF "in_order" (.ref io) []))):=Z0g
  have D2:upd (upd H2 d (.dK [])) x (.ins Cl dx (putF "by_name" (.ref d) (putF "in_order" (.ref io) []))) d=some (.dK []):=by rw [Z0j nd]; exact Z0g
  have nH:H d=none:=by
    cases e:H d with
    | none=>rfl
    | some o=>rw [S1 _ _ nd e] at hd; cases hd
  generalize upd (upd H2 d (.dK [])) x (.ins Cl dx (putF "by_name" (.ref d) (putF "in_order" (.ref io) [])))=H3 at *
  have k3:=S2.kp hx
  have hh3:=hh.mono fun _ _ r=>HsO.kp r k3
  have ha3:=k3.i _ _ _ _ _ ha
  subst huz2
  walk_at "rd"
  refine ⟨Cp,pdx,_,ha3,T.Program.cl,T.n_Program_all_houses,.ref ht,rfl,ht,rfl,⟨_,SqT.kp hq k3⟩,?_⟩
  have kd:∀ {H':Hp},SX d H3 H'→Kp H3 H':=fun h=>⟨fun b xs e=>h b _ (fun z=>by rw [z,D2] at e; cases e) e,fun b o xs e=>h b _ (fun z=>by rw [z,D2] at e; cases e) e,fun b C dx f fs e=>h b _ (fun z=>by rw [z,D2] at e; cases e) e⟩
  refine J3d hs (LI K H3 x d (.ref pa) hs G.houses) ⟨none,fun _ _ _ h=>h,D2,rfl⟩ (fun i σ H' _ h=>?_) (fun i y σ H' hy h=>?_) (fun σ H' h=>?_)
  · obtain ⟨o2,sx,_⟩:=h
    exact SqT.kp hq (k3.trans (kd sx))
  · obtain ⟨o2,sx,hd',rfl⟩:=h
    obtain ⟨t,ht',ho⟩:=hh3.at hy
    have ho:=HsO.kp ho (kd sx)
    have hi:i < 100:=by have:=(List.getElem?_eq_some_iff.mp hy).1; omega
    cases ho with
    | mk f1 f2 f3 f4=>
      walk_at "rd"
      refine ⟨Cl,dx,_,sx _ _ nd.symm X2,T.Hall.cl,T.n_Hall_by_name,_,rfl,Ch,_,_,f1,T.House.cl,T.n_House_name,_,rfl,d,rfl,_,DPut.k (k:=.inr t.name) hd' ?_,_,(sx.trans (SX.put _)),?_,rfl⟩
      · have:=List.length_take_le i (kvOf hs G.houses)
        rw [sizeLine_eq]; omega
      · rw [Z0g,J0T hy ht',J3o _ (J2m lh ok.nd ht')]
  · obtain ⟨o2,sx,hd',rfl⟩:=h
    have lk:(kvOf hs G.houses).length=hs.length:=by
      have:=congrArg List.length (Z4E lh)
      rw [List.length_map,List.length_map] at this
      omega
    rw [List.take_of_length_le (by omega)] at hd'
    refine q _ (fun b o nb e=>?_) (.mk (sx _ _ nd.symm X2) hd' (J0B (hh3.mono fun _ _ r=>HsO.kp r (kd sx))) ok)
    exact sx _ _ (Z0m e nH) (S2 _ _ nb e)
noncomputable def EI (H:Hp) (a l:Addr) (h:Str) (es:List Str) (m:Nat) (σ:St) (H':Hp):Prop:=∃ i,m=es.length - i∧i≤es.length∧Same H H'∧H' l=some (.lst ((es.take i).map V.str))∧σ=[some (.ref a),some (.str h),some (.ref l),some (oS es[i]?)]
theorem Z9O (T:Txt K mg Cl Cs Cq Ck Ct Cw Ch Cp):HasM P w K mg base 1 Cl "elders" ["self","house"] (Z3J (CS.mk Ct Cw Ch Cp Cl Cs Cq Ck B) K):=by
  refine HasM.of T.m_Hall_elders sc_Hall_elders (fun _ _ _ _ _ _ us hl=>el2 us hl fun _ _=>rfl) (fun vs H Q E h=>?_) (fun f cdv A outer s H vs Q E hr h=>?_)
  · obtain ⟨a,h,G,es,rfl,_⟩:=h
    rfl
  obtain ⟨a,h,G,es,rfl,hl,hc,hlen,q⟩:=h
  refine ⟨_,(Z0c (Z0u (i:=2) sc_Hall_elders.nd rfl (Or.inl rfl) (Z0P Z0b))
    (Z0c (Z0u (i:=3) sc_Hall_elders.nd rfl (Or.inl rfl) (Z0i (Z1L (Z2T hr) (Z0i (pvF 0) rfl) (pvF 1) (fun _ _=>rfl)) rfl))
    (Z0c (Z5R PassesOwn.never (Z0p J0u (pvF 3) Z2e (Z0x _)) (Z0c (Z0B (Z4m PySem.F.plainAttrs_list PySem.F.slot_list_append PySem.F.type_list_append Z1y (pvF 2) (Z0a (pvF 3) Z0b)))
    (Z0e (Z0u (i:=3) sc_Hall_elders.nd rfl (Or.inl rfl) (Z0i (Z1L (Z2T hr) (Z0i (pvF 0) rfl) (pvF 3) (fun _ _=>rfl)) rfl)))))
    (Z0e (Z0q (pvF 2)))))),?_⟩
  refine seq4 fun uz3 huz3 uz2 huz2 uz1 huz1=>?_
  walk_at "rd"
  refine New.of fun l H1 h1 s1 e1=>?_
  subst huz1
  walk_at "rd"
  obtain ⟨X,lk,ex⟩:=Chain.at hc 0 h rfl
  obtain ⟨dx,io,d,kvs,ea,ed,ok,hlk⟩:=Z0Z (hl.same s1)
  obtain ⟨b,bx,ft,wt,ws,g1,g2,_⟩:=hlk h X lk
  refine ⟨Cl,dx,_,ea,T.Hall.cl,T.n_Hall_by_name,_,rfl,d,rfl,_,g1,_,rfl,Ch,bx,_,g2,T.House.cl,T.n_House_elder,_,rfl,?_⟩
  subst huz2
  walk_at "rd"
  refine ⟨EI H a l h es,⟨es.length,0,rfl,Nat.zero_le _,s1,e1,by rw [ex]⟩,fun m σ H' hI=>?_⟩
  obtain ⟨i,rfl,hi,sI,hl',rfl⟩:=hI
  walk_at "rd"
  cases hei:es[i]? with
  | none=>
    have:i=es.length:=by have:=List.getElem?_eq_none_iff.mp hei; omega
    subst this
    refine ite2 (fun z=>absurd rfl z) (fun _=>?_)
    subst huz3
    walk_at "rd"
    rw [List.take_of_length_le (Nat.le_refl _)] at hl'
    exact q l H' h1 sI hl'
  | some e=>
    refine ite2 (fun _=>?_) (fun z=>by simp [oS] at z)
    have hi':i < es.length:=(List.getElem?_eq_some_iff.mp hei).1
    refine ⟨fun σ' H'=>∃ m',m' < es.length - i∧EI H a l h es m' σ' H',fun _ _ h=>h,?_⟩
    obtain ⟨X,lk,ex⟩:=Chain.at hc (i+1) e hei
    have s2:Same H (upd H' l (.lst ((es.take i).map V.str++[.str e]))):=fun b o hb=>by rw [Z0j (Z0m hb h1)]; exact sI _ _ hb
    obtain ⟨dx,io,d,kvs,ea,ed,ok,hlk⟩:=Z0Z (hl.same s2)
    obtain ⟨b,bx,ft,wt,ws,g1,g2,_⟩:=hlk e X lk
    refine ⟨.inl ⟨rfl,_,SqL.of hl'⟩,_,hl',by rw [List.length_map,List.length_take]; omega,Cl,dx,_,ea,T.Hall.cl,T.n_Hall_by_name,_,rfl,d,rfl,_,g1,_,rfl,Ch,bx,_,g2,T.House.cl,T.n_House_elder,_,rfl,es.length - (i+1),by omega,i+1,rfl,hi',s2,?_,?_⟩
    · rw [Z0g,List.take_succ,hei,List.map_append]; rfl
    · rw [ex]
end
noncomputable def J7q (p:Str×Str):PyData:=.tuple [.str p.1,.str p.2]
inductive Z6n (c:CS) (K:W.Frag) (vs:List V) (H:Hp) (Q:VK):Prop
  | mk (a:Addr) (h:Str) (G:Pg) (es:List Str) (fs:List (Str×Str)) (a1:vs=[.ref a,.str h]) (a2:HlO K c H (.ref a) G) (a3:Chain G h es) (a4:es.length≤100) (a5:Flds G (h::es).reverse fs) (a6:fs.length≤100) (a7:∀ l xs H',H l=none→Same H H'→H' l=some (.lst xs)→RTs K H' xs (fs.map J7q)→Q (.ref l) H'):Z6n c K vs H Q
def Z6e (c:CS) (K:W.Frag):Sp:=fun vs H Q _=>Z6n c K vs H Q
inductive Z7Z (c:CS) (K:W.Frag) (vs:List V) (H:Hp) (Q:VK):Prop
  | mk (a:Addr) (h fl:Str) (G:Pg) (j:Nat) (a1:vs=[.ref a,.str h,.str fl]) (a2:HlO K c H (.ref a) G) (a3:G.houses.length≤100) (a4:J0a G h fl j) (a5:∀ H',Same H H'→Q (.int j) H'):Z7Z c K vs H Q
def Z8f (c:CS) (K:W.Frag):Sp:=fun vs H Q _=>Z7Z c K vs H Q
inductive Z8E (c:CS) (K:W.Frag) (vs:List V) (H:Hp) (Q:VK):Prop
  | mk (a:Addr) (h wd h':Str) (G:Pg) (es:List Str) (i:Nat) (d:Wd) (a1:vs=[.ref a,.str h,.str wd]) (a2:HlO K c H (.ref a) G) (a3:Chain G h es) (a4:es.length≤100) (a5:Z5b G wd (h::es) h' i d) (a6:∀ p H',Same H H'→H' p=some (.tup [.str h',.int i])→Q (.ref p) H'):Z8E c K vs H Q
def Z5I (c:CS) (K:W.Frag):Sp:=fun vs H Q _=>Z8E c K vs H Q
inductive Z6u (c:CS) (K:W.Frag) (vs:List V) (H:Hp) (Q:VK):Prop
  | mk (a:Addr) (h wd h':Str) (G:Pg) (es:List Str) (i:Nat) (d:Wd) (a1:vs=[.ref a,.str h,.str wd]) (a2:HlO K c H (.ref a) G) (a3:Chain G h es) (a4:es.length≤100) (a5:Z5b G wd (h::es) h' i d) (a6:∀ v H',Same H H'→WdO K c H' v d→Q v H'):Z6u c K vs H Q
def Z6E (c:CS) (K:W.Frag):Sp:=fun vs H Q _=>Z6u c K vs H Q
theorem Flds.inv {G:Pg} {h:Str} {l:List Str} {fs:List (Str×Str)} (x:Flds G (h::l) fs):∃ X f2,Look G h X∧fs=X.fields++f2∧Flds G l f2:=by
  cases x with
  | cons a b=>exact ⟨_,_,a,rfl,b⟩
theorem HlO.kpx {K:W.Frag} {c:CS} {H H':Hp} {v:V} {G:Pg} {l:Addr} {xs:List V} (h:HlO K c H v G) (s:SX l H H') (e:H l=some (.lst xs)):HlO K c H' v G:=by
  have k:=SX.kpl s e
  cases h with
  | mk a d r n=>exact .mk (k.i _ _ _ _ _ a) (s _ _ (fun z=>by rw [z,e] at d; cases d) d) (r.mono fun _ _ r=>⟨r.1,HsO.kp r.2 k⟩) n
theorem Z7M (es:List Str) (h:Str):V.str h::es.map V.str=(h::es).map V.str:=rfl
section
variable {Cl Cs Cq Ck Ct Cw Ch Cp:Addr} {P:Program} {w:World} {K:W.Frag} {mg:Str→Option Value} {base:Heap} {B:Hp}
noncomputable def FDI (K:W.Frag) (G:Pg) (H:Hp) (a l:Addr) (h:Str) (ls:List Str) (fs:List (Str×Str)) (i:Nat) (σ:St) (H':Hp):Prop:=∃ o3 xs f1 f2,SX l H H'∧H' l=some (.lst xs)∧RTs K H' xs (f1.map J7q)∧fs=f1++f2∧Flds G (ls.drop i) f2∧σ=[some (.ref a),some (.str h),some (.ref l),o3]
theorem J1M (T:Txt K mg Cl Cs Cq Ck Ct Cw Ch Cp) (h_Hall_elders:HasM P w K mg base 1 Cl "elders" ["self","house"] (Z3J (CS.mk Ct Cw Ch Cp Cl Cs Cq Ck B) K)):HasM P w K mg base 2 Cl "fields" ["self","house"] (Z6e (CS.mk Ct Cw Ch Cp Cl Cs Cq Ck B) K):=by
  refine HasM.of T.m_Hall_fields sc_Hall_fields (fun _ _ _ _ _ _ us hl=>el2 us hl fun _ _=>rfl) (fun vs H Q E h=>?_) (fun f cdv A outer s H vs Q E hr h=>?_)
  · obtain ⟨a,h,G,es,fs,rfl,_⟩:=h
    rfl
  obtain ⟨a,h,G,es,fs,rfl,hl,hc,hlen,hf,hfl,q⟩:=h
  refine ⟨_,(Z0c (Z0u (i:=2) sc_Hall_fields.nd rfl (Or.inl rfl) (Z0P Z0b))
    (Z0c (Z3a PassesOwn.never rfl (J1v rfl T.z_reversed Z3w (Z0a (Z0y Z7L (Z0P (Z0a (pvF 1) Z0b)) (Z0r (pvF 0) T.Hall.cl h_Hall_elders hr (by decide) (Z0a (pvF 1) Z0b))) Z0b)) (Z0s (i:=3) sc_Hall_fields.nd rfl (Or.inl rfl)) (Z0e (Z0B (Z4m (r:=Z4t K) PySem.F.plainAttrs_list PySem.F.slot_list_extend PySem.F.type_list_extend Z5m (pvF 2) (Z0a (Z0i (Z1L (Z2T hr) (Z0i (pvF 0) rfl) (pvF 3) (fun _ _=>rfl)) rfl) Z0b)))))
    (Z0e (Z0q (pvF 2))))),?_⟩
  refine seq3 fun uz2 huz2 uz1 huz1=>?_
  walk_at "rd"
  refine New.of fun l H1 h1 s1 e1=>?_
  subst huz1
  walk_at "rd"
  refine New.of fun l2 H2 h2 s2 e2=>?_
  obtain ⟨dx,io,d,kvs,ea,ed,ok,hlk⟩:=Z0Z (hl.same (s1.trans s2))
  refine ⟨dx,_,ea,rfl,a,h,G,es,rfl,hl.same (s1.trans s2),hc,hlen,fun l3 H3 h3 s3 e3=>?_⟩
  refine ⟨_,rfl,_,s3 _ _ e2,_,e3,by rw [List.length_map]; simp; omega,?_⟩
  refine New.of fun l4 H4 h4 s4 e4=>?_
  have s14:=s2.trans (s3.trans s4)
  have E1:=s14 _ _ e1
  have n4:l4≠l:=Z3h (s3 _ _ (s2 _ _ e1)) h4
  have kd:∀ {H':Hp},SX l H4 H'→Kp H4 H':=fun hh=>SX.kpl hh E1
  refine ⟨_,SqL.of e4,?_⟩
  refine Z5T (.str h::es.map V.str) (FDI K G H4 a l h (h::es).reverse fs) ⟨none,[],[],fs,fun _ _ _ h=>h,E1,.nil,rfl,hf,rfl⟩ (fun i σ H' _ hI=>?_) (fun i y σ H' hy hI=>?_) (fun σ H' hI=>?_)
  · obtain ⟨o3,xs,f1,f2,sx,_⟩:=hI
    exact SqL.of (sx _ _ n4 e4)
  · obtain ⟨o3,xs,f1,f2,sx,hx,hr1,rfl,hfd,rfl⟩:=hI
    rw [Z7M,← List.map_reverse,List.getElem?_map] at hy
    obtain ⟨y,hy2,rfl⟩:=Option.map_eq_some_iff.mp hy
    rw [List.drop_eq_getElem_cons (List.getElem?_eq_some_iff.mp hy2).1,(List.getElem?_eq_some_iff.mp hy2).2] at hfd
    obtain ⟨X,f3,lk,rfl,hfd2⟩:=Flds.inv hfd
    have hl':=HlO.kpx (hl.same (s1.trans (s2.trans (s3.trans s4)))) sx E1
    obtain ⟨dx,io,d,kvs,ea,ed,ok,hlk⟩:=Z0Z hl'
    obtain ⟨b,bx,ft,wt,ws,g1,g2,g3,_⟩:=hlk y X lk
    obtain ⟨fa,zs,e,hz,hzs⟩:=g3.tup_inv
    cases e
    have lx:xs.length=f1.length:=by rw [hr1.length,List.length_map]
    have lz:zs.length=X.fields.length:=by rw [hzs.length,List.length_map]
    have hfl':f1.length+(X.fields.length+f3.length)≤100:=by
      rw [List.length_append,List.length_append] at hfl; exact hfl
    walk_at "rd"
    refine ⟨.inl ⟨rfl,_,SqL.of hx⟩,Cl,dx,_,ea,T.Hall.cl,T.n_Hall_by_name,_,rfl,d,rfl,_,g1,_,rfl,Ch,bx,_,g2,T.House.cl,T.n_House_own_fields,_,rfl,_,rfl,xs,hx,zs,hz,by omega,?_⟩
    refine ⟨_,_,f1++X.fields,f3,sx.trans (SX.put _),Z0g,?_,by rw [List.append_assoc],hfd2,rfl⟩
    rw [List.map_append]
    exact (hr1.kp (Kp.lst _ hx)).app (hzs.kp (Kp.lst _ hx))
  · obtain ⟨o3,xs,f1,f2,sx,hx,hr1,rfl,hfd,rfl⟩:=hI
    rw [List.drop_of_length_le (by simp)] at hfd
    cases hfd
    rw [List.append_nil] at *
    subst huz2
    walk_at "rd"
    exact q l xs H' h1 (fun b o hb=>sx _ _ (Z0m hb h1) ((s1.trans s14) _ _ hb)) hx hr1
end
theorem J2H {G:Pg} {wd h':Str} {ls:List Str} {i:Nat} {d:Wd} (hf:Z5b G wd ls h' i d):∃ X,Look G h' X∧X.words[i]?=some d:=by
  induction hf with
  | here a b c=>exact ⟨_,a,c⟩
  | there _ _ _ ih=>exact ih
section
variable {Cl Cs Cq Ck Ct Cw Ch Cp:Addr} {P:Program} {w:World} {K:W.Frag} {mg:Str→Option Value} {base:Heap} {B:Hp}
theorem J3a (T:Txt K mg Cl Cs Cq Ck Ct Cw Ch Cp) (h_Hall_fields:HasM P w K mg base 2 Cl "fields" ["self","house"] (Z6e (CS.mk Ct Cw Ch Cp Cl Cs Cq Ck B) K)):HasM P w K mg base 3 Cl "place" ["self","house","field"] (Z8f (CS.mk Ct Cw Ch Cp Cl Cs Cq Ck B) K):=by
  refine HasM.of T.m_Hall_place sc_Hall_place (fun _ _ _ _ _ _ us hl=>el3 us hl fun _ _ _=>rfl) (fun vs H Q E h=>?_) (fun f cdv A outer s H vs Q E hr h=>?_)
  · obtain ⟨a,h,fl,G,j,rfl,_⟩:=h
    rfl
  obtain ⟨a,h,fl,G,j,rfl,hl,hgl,⟨es,fs,hc,hel,hfd,hfl,hix⟩,q⟩:=h
  refine ⟨_,(Z0c (Z1O rfl sc_Hall_place.nd (i:=3) rfl rfl (BlockOk.plain (N:=["name","kind"]) rfl (by decide +kernel) (by decide +kernel) (by decide +kernel)) (Z3p (Z0r (pvF 0) T.Hall.cl h_Hall_fields hr (by decide) (Z0a (pvF 1) Z0b)))
          (fun C fp s H=>(show PG _ _ (Z7c K 2 _) from Z2v (n:=2) rfl (Z0w (Z0s (i:=0) (show (["name","kind"]:List Str).Nodup by decide +kernel) rfl (Or.inl rfl)) (Z0w (Z0s (i:=1) (show (["name","kind"]:List Str).Nodup by decide +kernel) rfl (Or.inl rfl)) Z2x))))
          (fun C fp s H=>(pvF 0)))
    (Z0c (Z0H (Z0p (r:=rIn K false) Z0U (pvF 2) (pvF 3) (by with_unfolding_all rfl)) (Z0e (Z0q (Z4m PySem.F.plainAttrs_list PySem.F.slot_list_index PySem.F.type_list_index Z8A (pvF 3) (Z0a (pvF 2) Z0b)))) Z0A)
    (Z0e (Z0q Z2e)))),?_⟩
  refine seq3 fun uz2 huz2 uz1 huz1=>?_
  walk_at "rd"
  obtain ⟨dx,io,d,kvs,ea,ed,ok,hlk⟩:=Z0Z hl
  refine ⟨dx,_,ea,rfl,a,h,G,es,fs,rfl,hl,hc,hel,hfd,hfl,fun l xs H1 h1 s1 e1 hxs=>?_⟩
  have lx:xs.length=fs.length:=by rw [hxs.length,List.length_map]
  refine ⟨l,rfl,⟨_,SqL.of e1⟩,fun D hD=>?_⟩
  refine Z4A (ys:=xs) (fun σ=>∃ o1 o2,σ=[o1,o2]) (fun j v H=>∃ t,fs[j]?=some t∧v=.str t.1) (fun _ _ _ _ h _=>h) ⟨_,_,rfl⟩ hD (by rw [sizeLine_eq]; omega) (fun H1 s=>SqL.of (s _ _ e1)) (fun i y σ hy hS H2 K' s k=>?_) (fun vs Hc Sc hv lv hR=>?_)
  · obtain ⟨o1,o2,rfl⟩:=hS
    obtain ⟨t,ht,hr'⟩:=hxs.at hy
    rw [List.getElem?_map] at ht
    obtain ⟨t,ht2,rfl⟩:=Option.map_eq_some_iff.mp ht
    obtain ⟨b,zs,rfl,hz,hzs⟩:=hr'.tup_inv
    obtain ⟨v1,r1,rfl,g1,hzs⟩:=hzs.inv
    obtain ⟨v2,r2,rfl,g2,hzs⟩:=hzs.inv
    cases hzs.nil_inv
    cases g1.str_inv
    walk_at "rd"
    refine ⟨_,SqT.same hz s,rfl,⟨_,_,rfl,⟨_,_,rfl,?_⟩⟩⟩
    exact ⟨rfl,k _ _ _ ⟨_,_,rfl⟩ (Same.refl _) ⟨t,ht2,rfl⟩⟩
  have ev:=Z3K (g:=fun t:Str×Str=>V.str t.1) (lv.trans lx) hR
  have hv':Hc D=some (.lst ((fs.map Prod.fst).map V.str)):=by rw [hv,ev,List.map_map]; rfl
  subst huz1
  walk_at "rd"
  refine ⟨_,.inl (SqL.of hv'),rfl,Z3E _,?_⟩
  have hin:inV (.str fl) ((fs.map Prod.fst).map V.str)=true:=by
    unfold inV
    rw [List.any_map,List.any_eq_true]
    exact ⟨fl,List.mem_of_getElem? hix.1,by simp [eqV]⟩
  rw [hin]
  refine ite2 (fun _=>?_) (fun z=>absurd rfl z)
  exact ⟨.inl ⟨rfl,_,SqL.of hv'⟩,_,hv',j,hix.1,hix.2,q _ (s1.trans Sc)⟩
noncomputable def FOI (G:Pg) (H:Hp) (a l:Addr) (h wd h':Str) (ls:List Str) (ix:Nat) (d:Wd) (i:Nat) (σ:St) (H':Hp):Prop:=∃ o3 o4,Same H H'∧Z5b G wd (ls.drop i) h' ix d∧σ=[some (.ref a),some (.str h),some (.str wd),o3,o4]
theorem J3i (T:Txt K mg Cl Cs Cq Ck Ct Cw Ch Cp) (h_Hall_elders:HasM P w K mg base 1 Cl "elders" ["self","house"] (Z3J (CS.mk Ct Cw Ch Cp Cl Cs Cq Ck B) K)):HasM P w K mg base 2 Cl "found" ["self","house","word"] (Z5I (CS.mk Ct Cw Ch Cp Cl Cs Cq Ck B) K):=by
  refine HasM.of T.m_Hall_found sc_Hall_found (fun _ _ _ _ _ _ us hl=>el3 us hl fun _ _ _=>rfl) (fun vs H Q E h=>?_) (fun f cdv A outer s H vs Q E hr h=>?_)
  · obtain ⟨a,h,wd,h',G,es,i,d,rfl,_⟩:=h
    rfl
  obtain ⟨a,h,wd,h',G,es,ix,d,rfl,hl,hc,hlen,hf,q⟩:=h
  refine ⟨_,(Z0c (Z3a PassesOwn.never rfl (Z3p (Z0y Z7L (Z0P (Z0a (pvF 1) Z0b)) (Z0r (pvF 0) T.Hall.cl h_Hall_elders hr (by decide) (Z0a (pvF 1) Z0b)))) (Z0s (i:=3) sc_Hall_found.nd rfl (Or.inl rfl)) (Z0c (Z1O rfl sc_Hall_found.nd (i:=4) rfl rfl (BlockOk.plain (N:=["own"]) rfl (by decide +kernel) (by decide +kernel) (by decide +kernel)) (Z2S (Z0i (Z1L (Z2T hr) (Z0i (pvF 0) rfl) (pvF 3) (fun _ _=>rfl)) rfl))
          (fun C fp s H=>(Z0s (i:=0) (show (["own"]:List Str).Nodup by decide +kernel) rfl (Or.inl rfl)))
          (fun C fp s H=>(show PE _ _ (Z9S K _ "name") from Z0i (pvF 0) rfl)))
    (Z0e (Z0H (Z0p (r:=rIn K false) Z0U (pvF 2) (pvF 4) (by with_unfolding_all rfl)) (Z0e (Z0q (Z0k (Z0a (pvF 3) (Z0a (Z4m PySem.F.plainAttrs_list PySem.F.slot_list_index PySem.F.type_list_index Z8A (pvF 4) (Z0a (pvF 2) Z0b)) Z0b))))) Z0A))))
    (Z0e (Z0q Z2e))),?_⟩
  refine seq2 fun uz1 huz1=>?_
  walk_at "rd"
  refine New.of fun l2 H2 h2 s2 e2=>?_
  obtain ⟨dx,io,dd,kvs,ea,ed,ok,hlk⟩:=Z0Z (hl.same s2)
  refine ⟨dx,_,ea,rfl,a,h,G,es,rfl,hl.same s2,hc,hlen,fun l3 H3 h3 s3 e3=>?_⟩
  refine ⟨_,rfl,_,s3 _ _ e2,_,e3,by rw [List.length_map]; simp; omega,?_⟩
  refine New.of fun l4 H4 h4 s4 e4=>?_
  have s24:=s2.trans (s3.trans s4)
  refine ⟨⟨_,SqL.of e4⟩,?_⟩
  refine Z3z (.str h::es.map V.str) (FOI G H4 a l4 h wd h' (h::es) ix d) ⟨none,none,Same.refl _,hf,rfl⟩ (fun i σ H' _ hI=>?_) (fun i y σ H' hy hI=>?_) (fun σ H' hI=>?_)
  · obtain ⟨o3,o4,sx,_⟩:=hI
    exact SqL.of (sx _ _ e4)
  · obtain ⟨o3,o4,sx,hfd,rfl⟩:=hI
    rw [Z7M,List.getElem?_map] at hy
    obtain ⟨y,hy2,rfl⟩:=Option.map_eq_some_iff.mp hy
    rw [List.drop_eq_getElem_cons (List.getElem?_eq_some_iff.mp hy2).1,(List.getElem?_eq_some_iff.mp hy2).2] at hfd
    obtain ⟨X,lk⟩:∃ X,Look G y X:=by cases hfd with | here a _ _=>exact ⟨_,a⟩ | there a _ _=>exact ⟨_,a⟩
    obtain ⟨dx,io,dd,kvs,ea,ed,ok,hlk⟩:=Z0Z (hl.same (s24.trans sx))
    obtain ⟨b,bx,ft,wt,ws,g1,g2,g3,g4,g5,g6⟩:=hlk y X lk
    have lw:ws.length=X.words.length:=g5.len
    have lw2:=g6.wl
    refine seq2 fun uy1 huy1=>?_
    walk_at "rd"
    refine ⟨Cl,dx,_,ea,T.Hall.cl,T.n_Hall_by_name,_,rfl,dd,rfl,_,g1,_,rfl,Ch,bx,_,g2,T.House.cl,T.n_House_own_words,_,rfl,wt,rfl,⟨_,g4⟩,fun D hD=>?_⟩
    refine Z1x (ys:=ws) none [] (fun j v H=>∃ t,X.words[j]?=some t∧v=.str t.name) (fun _ _ _ _ h _=>h) rfl hD (by rw [sizeLine_eq]; omega) (fun H1 s=>SqT.same g4 s) (fun i y hy H1 K' s k=>?_) (fun vs Hc Sc hv lv hR=>?_)
    · walk_at "rd"
      obtain ⟨t,ht',ho⟩:=g5.at hy
      have ho:=ho.same s
      cases ho with
      | mk f1 f2 f3=>exact ⟨_,rfl,Cw,_,_,f1,T.Word.cl,T.n_Word_name,_,rfl,k _ _ (Same.refl _) ⟨t,ht',rfl⟩⟩
    have ev:=Z3K (g:=fun t:Wd=>V.str t.name) (lv.trans lw) hR
    have hv':Hc D=some (.lst ((X.words.map Wd.name).map V.str)):=by rw [hv,ev,List.map_map]; rfl
    subst huy1
    walk_at "rd"
    refine ⟨_,.inl (SqL.of hv'),rfl,Z3E _,?_⟩
    have hin:inV (.str wd) ((X.words.map Wd.name).map V.str)=decide (wd∈X.words.map Wd.name):=by
      unfold inV
      rw [List.any_map]
      by_cases hm:wd∈X.words.map Wd.name
      · rw [decide_eq_true hm,List.any_eq_true]
        exact ⟨wd,hm,by simp [eqV]⟩
      · rw [decide_eq_false hm,List.any_eq_false]
        intro z hz
        have:z≠wd:=fun e=>hm (e▸hz)
        simp [eqV,this]
    rw [hin]
    have un:=uniq ok.nd
    cases hfd with
    | here a1 a2 a3=>
      have:=un _ _ a1.1 lk.1 (a1.2.trans lk.2.symm)
      subst this
      refine ite2 (fun _=>?_) (fun z=>absurd (decide_eq_true (List.mem_of_getElem? a2.1)) z)
      refine ⟨.inl ⟨rfl,_,SqL.of hv'⟩,_,hv',ix,a2.1,a2.2,?_⟩
      refine New.of fun p H6 h6 s6 e6=>?_
      exact q p H6 (s24.trans (sx.trans (Sc.trans s6))) e6
    | there a1 a2 a3=>
      have:=un _ _ a1.1 lk.1 (a1.2.trans lk.2.symm)
      subst this
      refine ite2 (fun z=>absurd (of_decide_eq_true z) a2) (fun _=>?_)
      exact ⟨_,_,sx.trans Sc,a3,rfl⟩
  · obtain ⟨o3,o4,sx,hfd,rfl⟩:=hI
    rw [List.drop_of_length_le (by simp)] at hfd
    cases hfd
theorem J1w (T:Txt K mg Cl Cs Cq Ck Ct Cw Ch Cp) (h_Hall_found:HasM P w K mg base 2 Cl "found" ["self","house","word"] (Z5I (CS.mk Ct Cw Ch Cp Cl Cs Cq Ck B) K)):HasM P w K mg base 3 Cl "found_word" ["self","house","word"] (Z6E (CS.mk Ct Cw Ch Cp Cl Cs Cq Ck B) K):=by
  refine HasM.of T.m_Hall_found_word sc_Hall_found_word (fun _ _ _ _ _ _ us hl=>el3 us hl fun _ _ _=>rfl) (fun vs H Q E h=>?_) (fun f cdv A outer s H vs Q E hr h=>?_)
  · obtain ⟨a,h,wd,h',G,es,i,d,rfl,_⟩:=h
    rfl
  obtain ⟨a,h,wd,h',G,es,ix,d,rfl,hl,hc,hlen,hf,q⟩:=h
  refine ⟨_,(Z0c (Z0u (i:=3) sc_Hall_found_word.nd rfl (Or.inl rfl) (Z0r (pvF 0) T.Hall.cl h_Hall_found hr (by decide) (Z0a (pvF 1) (Z0a (pvF 2) Z0b))))
    (Z0c (Z0H (Z0p J1A (pvF 3) Z2e (Z0x _)) (Z0e (Z0q Z2e)) Z0A)
    (Z0c (Z3i (pvF 3) (Z2v (n:=2) rfl (Z0w (Z0s (i:=4) sc_Hall_found_word.nd rfl (Or.inl rfl)) (Z0w (Z0s (i:=5) sc_Hall_found_word.nd rfl (Or.inl rfl)) Z2x))))
    (Z0e (Z0q (Z0L (r:=Z2o K) Z0W (Z0i (Z1L (Z2T hr) (Z0i (pvF 0) rfl) (pvF 4) (fun _ _=>rfl)) rfl) (pvF 5) (fun _ _=>rfl))))))),?_⟩
  refine seq4 fun uz3 huz3 uz2 huz2 uz1 huz1=>?_
  walk_at "rd"
  obtain ⟨dx,io,dd,kvs,ea,ed,ok,hlk⟩:=Z0Z hl
  refine ⟨dx,_,ea,rfl,a,h,wd,h',G,es,ix,d,rfl,hl,hc,hlen,hf,fun p H1 s1 e1=>?_⟩
  subst huz1
  walk_at "rd"
  subst huz2
  walk_at "rd"
  refine ⟨_,SqT.of e1,rfl,⟨_,_,rfl,⟨_,_,rfl,?_⟩⟩⟩
  subst huz3
  walk_at "rd"
  obtain ⟨X,lk,hd⟩:=J2H hf
  obtain ⟨dx,io,dd,kvs,ea,ed,ok,hlk⟩:=Z0Z (hl.same s1)
  obtain ⟨b,bx,ft,wt,ws,g1,g2,g3,g4,g5,g6⟩:=hlk h' X lk
  obtain ⟨v,hv,hw⟩:=g5.to hd
  refine ⟨Cl,dx,_,ea,T.Hall.cl,T.n_Hall_by_name,_,rfl,dd,rfl,_,g1,_,rfl,Ch,bx,_,g2,T.House.cl,T.n_House_own_words,_,rfl,_,rfl,_,g4,v,?_,q v H1 s1 hw⟩
  exact Z0F hv
end
inductive Z7Q (c:CS) (K:W.Frag) (vs:List V) (H:Hp) (Q:VK):Prop
  | mk (x dx b:Addr) (hv ov:V) (kvs:List (Key×V)) (a1:vs=[.ref x,hv,ov,.ref b]) (a2:H x=some (.ins c.scope dx [])) (a3:H b=some (.dK kvs)) (a4:∀ d H',H d=none→SX x H H'→H' x=some (.ins c.scope dx [("house",hv),("own_thing",ov),("bound",.ref d)])→H' d=some (.dK kvs)→Q .non H'):Z7Q c K vs H Q
def Z4u (c:CS) (K:W.Frag):Sp:=fun vs H Q _=>Z7Q c K vs H Q
inductive J0Z (c:CS) (K:W.Frag) (vs:List V) (H:Hp) (Q:VK):Prop
  | mk (a:Addr) (n:Str) (v:V) (s:Sc) (y:Vl) (a1:vs=[.ref a,.str n,v]) (a2:ScO c H (.ref a) s) (a3:s.bound.length≤100) (a4:RV H v y) (a5:∀ u H',Same H H'→ScO c H' u ⟨s.house,s.own,putS n y s.bound⟩→Q u H'):J0Z c K vs H Q
def J0e (c:CS) (K:W.Frag):Sp:=fun vs H Q _=>J0Z c K vs H Q
inductive Z7F (c:CS) (K:W.Frag) (vs:List V) (H:Hp) (Q:VK):Prop
  | mk (x dx:Addr) (a1:vs=[.ref x]) (a2:H x=some (.ins c.waits dx [])) (a3:∀ l1 l2 H',H l1=none→H l2=none→l1≠l2→SX x H H'→H' x=some (.ins c.waits dx [("waiting",.ref l1),("known",.ref l2)])→H' l1=some (.lst [])→H' l2=some (.lst [])→Q .non H'):Z7F c K vs H Q
def Z7A (c:CS) (K:W.Frag):Sp:=fun vs H Q _=>Z7F c K vs H Q
inductive Z9Z (c:CS) (K:W.Frag) (vs:List V) (H:Hp) (Q:VK):Prop
  | mk (a dx wl kl:Addr) (st tv sv:V) (ws:List V) (a1:vs=[.ref a,st,tv,sv]) (a2:H a=some (.ins c.waits dx [("waiting",.ref wl),("known",.ref kl)])) (a3:H wl=some (.lst ws)) (a4:ws.length < 16777216) (a5:∀ t H1,H t=none→Same H H1→H1 t=some (.tup [st,tv,sv])→Q .non (upd H1 wl (.lst (ws++[.ref t])))):Z9Z c K vs H Q
def Z3Z (c:CS) (K:W.Frag):Sp:=fun vs H Q _=>Z9Z c K vs H Q
inductive Z9D (c:CS) (K:W.Frag) (vs:List V) (H:Hp) (Q:VK):Prop
  | mk (a dx wl kl:Addr) (ws:List V) (a1:vs=[.ref a]) (a2:H a=some (.ins c.waits dx [("waiting",.ref wl),("known",.ref kl)])) (a3:H wl=some (.lst ws)) (a4:∀ H1,Same H H1→Q (.bl ws.isEmpty) H1):Z9D c K vs H Q
def Z9L (c:CS) (K:W.Frag):Sp:=fun vs H Q _=>Z9D c K vs H Q
inductive Z9E (c:CS) (K:W.Frag) (vs:List V) (H:Hp) (Q:VK):Prop
  | mk (a dx wl kl:Addr) (ws:List V) (v:V) (a1:vs=[.ref a]) (a2:H a=some (.ins c.waits dx [("waiting",.ref wl),("known",.ref kl)])) (a3:H wl=some (.lst (ws++[v]))) (a4:∀ u,u=v→Q u (upd H wl (.lst ws))):Z9E c K vs H Q
def J1n (c:CS) (K:W.Frag):Sp:=fun vs H Q _=>Z9E c K vs H Q
inductive Z9q (c:CS) (K:W.Frag) (vs:List V) (H:Hp) (Q:VK):Prop
  | mk (a dx wl kl:Addr) (ks:List V) (v:V) (a1:vs=[.ref a,v]) (a2:H a=some (.ins c.waits dx [("waiting",.ref wl),("known",.ref kl)])) (a3:H kl=some (.lst ks)) (a4:ks.length < 16777216) (a5:∀ u,u=V.non→Q u (upd H kl (.lst (ks++[v])))):Z9q c K vs H Q
def Z4d (c:CS) (K:W.Frag):Sp:=fun vs H Q _=>Z9q c K vs H Q
inductive J4f (c:CS) (K:W.Frag) (vs:List V) (H:Hp) (Q:VK):Prop
  | mk (a dx wl kl:Addr) (ks:List V) (v:V) (a1:vs=[.ref a]) (a2:H a=some (.ins c.waits dx [("waiting",.ref wl),("known",.ref kl)])) (a3:H kl=some (.lst (ks++[v]))) (a4:∀ u,u=v→Q u (upd H kl (.lst ks))):J4f c K vs H Q
def J0w (c:CS) (K:W.Frag):Sp:=fun vs H Q _=>J4f c K vs H Q
inductive J1y (c:CS) (K:W.Frag) (vs:List V) (H:Hp) (Q:VK):Prop
  | mk (a dx wl kl:Addr) (ks us:List V) (a1:vs=[.ref a,.int (us.length:Nat)]) (a2:H a=some (.ins c.waits dx [("waiting",.ref wl),("known",.ref kl)])) (a3:H kl=some (.lst (ks++us))) (a4:us.length≤100) (a5:∀ l H',H l=none→SX kl H H'→H' kl=some (.lst ks)→H' l=some (.lst us)→Q (.ref l) H'):J1y c K vs H Q
def J1P (c:CS) (K:W.Frag):Sp:=fun vs H Q _=>J1y c K vs H Q
noncomputable def choB (t:Tm):Bool:=match t.f with
  | .iff=>true
  | .lt=>true
  | .two=>match t.l with
    | .str s=>decide (s=";")
    | _=>false
  | _=>false
theorem choB_iff {f:Fm} {l:Lb} {ps:List Tm}:choB (.mk f l ps)=true↔Z3n f l:=by
  unfold choB Z3n
  cases f <;> simp [P15.Tm.f,P15.Tm.l]
  cases l <;> simp
inductive Z5q (c:CS) (K:W.Frag) (vs:List V) (H:Hp) (Q:VK):Prop
  | mk (v:V) (t:Tm) (a1:vs=[v]) (a2:TO K c.term H v t) (a3:∀ H',Same H H'→Q (.bl (choB t)) H'):Z5q c K vs H Q
def Z5e (c:CS) (K:W.Frag):Sp:=fun vs H Q _=>Z5q c K vs H Q
section
variable {Cl Cs Cq Ck Ct Cw Ch Cp:Addr} {P:Program} {w:World} {K:W.Frag} {mg:Str→Option Value} {base:Heap} {B:Hp}
theorem J2M (T:Txt K mg Cl Cs Cq Ck Ct Cw Ch Cp):HasM P w K mg base 1 Cs "__init__" ["self","house","own_thing","bound"] (Z4u (CS.mk Ct Cw Ch Cp Cl Cs Cq Ck B) K):=by
  refine HasM.of T.m_Scope___init__ Z3Y (fun _ _ _ _ _ _ us hl=>el4 us hl fun _ _ _ _=>rfl) (fun vs H Q E h=>?_) (fun f cdv A outer s H vs Q E hr h=>?_)
  · obtain ⟨x,dx,b,hv,ov,kvs,rfl,_⟩:=h
    rfl
  obtain ⟨x,dx,b,hv,ov,kvs,rfl,hx,hb,q⟩:=h
  refine ⟨_,(Z0c (Z0D (pvF 0) (pvF 1) rfl)
    (Z0c (Z0D (pvF 0) (pvF 2) rfl)
    (Z0e (Z0D (pvF 0) (Z0Q Z8P rfl T.z_dict J4S (Z0a (pvF 3) Z0b)) rfl)))),?_⟩
  refine seq3 fun uz2 huz2 uz1 huz1=>?_
  walk_at "rd"
  refine ⟨Cs,dx,_,hx,T.Scope.cl,T.n_Scope_house,Nat.lt_of_sub_eq_succ rfl,?_⟩
  subst huz1
  walk_at "rd"
  refine ⟨Cs,dx,_,Z0g,T.Scope.cl,T.n_Scope_own_thing,Nat.lt_of_sub_eq_succ rfl,?_⟩
  subst huz2
  walk_at "rd"
  have S1:SX x H (upd (upd H x (.ins Cs dx (putF "house" hv []))) x (.ins Cs dx (putF "own_thing" ov (putF "house" hv [])))):=(SX.put _).trans (SX.put _)
  have X1:upd (upd H x (.ins Cs dx (putF "house" hv []))) x (.ins Cs dx (putF "own_thing" ov (putF "house" hv []))) x=some (.ins Cs dx (putF "own_thing" ov (putF "house" hv []))):=Z0g
  generalize upd (upd H x (.ins Cs dx (putF "house" hv []))) x (.ins Cs dx (putF "own_thing" ov (putF "house" hv [])))=H1 at *
  refine ⟨_,S1 _ _ (fun z=>by rw [z,hx] at hb; cases hb) hb,fun d hd=>?_⟩
  have s2:=Z0C hd (.dK kvs)
  have nd:d≠x:=Z3h X1 hd
  refine ⟨Cs,dx,_,s2 _ _ X1,T.Scope.cl,T.n_Scope_bound,Nat.lt_of_sub_eq_succ rfl,?_⟩
  refine q d _ ?_ (S1.trans ((SX.of s2).trans (SX.put _))) Z0g (by rw [Z0j nd]; exact Z0g)
  cases e:H d with
  | none=>rfl
  | some o=>rw [S1 _ _ nd e] at hd; cases hd
theorem J4k (T:Txt K mg Cl Cs Cq Ck Ct Cw Ch Cp) (h_Scope___init__:HasM P w K mg base 1 Cs "__init__" ["self","house","own_thing","bound"] (Z4u (CS.mk Ct Cw Ch Cp Cl Cs Cq Ck B) K)):HasM P w K mg base 3 Cs "binding" ["self","name","value"] (J0e (CS.mk Ct Cw Ch Cp Cl Cs Cq Ck B) K):=by
  refine HasM.of T.m_Scope_binding sc_Scope_binding (fun _ _ _ _ _ _ us hl=>el3 us hl fun _ _ _=>rfl) (fun vs H Q E h=>?_) (fun f cdv A outer s H vs Q E hr h=>?_)
  · obtain ⟨a,n,v,s,y,rfl,_⟩:=h
    rfl
  obtain ⟨a,n,v,sc,y,rfl,hs,hbl,hy,q⟩:=h
  refine ⟨_,(Z0c (Z0u (i:=3) sc_Scope_binding.nd rfl (Or.inl rfl) (Z3C T.Scope h_Scope___init__ hr (by decide) rfl (Z0a (Z0i (pvF 0) rfl) (Z0a (Z0i (pvF 0) rfl) (Z0a (Z0i (pvF 0) rfl) Z0b)))))
    (Z0c (Z5B (Z2T hr) (Z0i (pvF 3) rfl) (pvF 1) (pvF 2) rfl)
    (Z0e (Z0q (pvF 3))))),?_⟩
  obtain ⟨ax,d0,ov,kvs,e1,e2,e3,e4⟩:∃ dx d ov kvs,H a=some (.ins Cs dx [("house",oS sc.house),("own_thing",ov),("bound",.ref d)])∧RO H ov sc.own∧H d=some (.dK kvs)∧RB H kvs sc.bound:=by
    cases hs with
    | mk a b c d=>exact ⟨_,_,_,_,a,b,c,d⟩
  have lk:kvs.length=sc.bound.length:=A2.len e4
  refine seq3 fun uz2 huz2 uz1 huz1=>?_
  walk_at "rd"
  refine ⟨Cs,ax,_,e1,T.Scope.cl,T.n_Scope_house,_,rfl,Cs,ax,_,e1,T.Scope.cl,T.n_Scope_own_thing,_,rfl,Cs,ax,_,e1,T.Scope.cl,T.n_Scope_bound,_,rfl,fun x dx hx hdx ne=>?_⟩
  have s2:=Z1z (C:=Cs) hx hdx ne
  refine ⟨x,dx,d0,_,ov,kvs,rfl,Z0g,s2 _ _ e3,fun d H3 hd sx hx3 hd3=>⟨rfl,?_⟩⟩
  have s3:Same H H3:=Z2g s2 sx hx
  have nHd:H d=none:=by
    cases e:H d with
    | none=>rfl
    | some o=>rw [s2 _ _ e] at hd; cases hd
  subst huz1
  walk_at "rd"
  refine ⟨Cs,dx,_,hx3,T.Scope.cl,T.n_Scope_bound,_,rfl,d,rfl,_,DPut.k (k:=.inr n) hd3 (by rw [sizeLine_eq]; omega),?_⟩
  subst huz2
  walk_at "rd"
  have s4:Same H (upd H3 d (.dK (putK kvs (.inr n) v))):=fun b o e=>by rw [Z0j (Z0m e nHd)]; exact s3 _ _ e
  have nxd:x≠d:=fun z=>by rw [z,hd3] at hx3; cases hx3
  refine q _ _ s4 (.mk (by rw [Z0j nxd]; exact hx3) (e2.kw (Kw.of (C:=Ck) s4)) Z0g ?_)
  exact (RB.kw e4 (Kw.of (C:=Ck) s4)).put (hy.kw (Kw.of (C:=Ck) s4))
theorem J3k (T:Txt K mg Cl Cs Cq Ck Ct Cw Ch Cp):HasM P w K mg base 1 Cq "__init__" ["self"] (Z7A (CS.mk Ct Cw Ch Cp Cl Cs Cq Ck B) K):=by
  refine HasM.of T.m_Waits___init__ Z3U (fun _ _ _ _ _ _ us hl=>el1 us hl fun _=>rfl) (fun vs H Q E h=>?_) (fun f cdv A outer s H vs Q E hr h=>?_)
  · obtain ⟨x,dx,rfl,_⟩:=h
    rfl
  obtain ⟨x,dx,rfl,hx,q⟩:=h
  refine ⟨_,(Z0c (Z0D (pvF 0) (Z0P Z0b) rfl)
    (Z0e (Z0D (pvF 0) (Z0P Z0b) rfl))),?_⟩
  refine seq2 fun uz1 huz1=>?_
  walk_at "rd"
  refine New.of fun l1 H1 h1 s1 e1=>?_
  refine ⟨Cq,dx,_,s1 _ _ hx,T.Waits.cl,T.n_Waits_waiting,Nat.lt_of_sub_eq_succ rfl,?_⟩
  subst huz1
  walk_at "rd"
  have n1:l1≠x:=Z3h hx h1
  have X1:upd H1 x (.ins Cq dx (putF "waiting" (.ref l1) [])) x=some (.ins Cq dx (putF "waiting" (.ref l1) [])):=Z0g
  have L1:upd H1 x (.ins Cq dx (putF "waiting" (.ref l1) [])) l1=some (.lst []):=by rw [Z0j n1]; exact e1
  have S1:SX x H (upd H1 x (.ins Cq dx (putF "waiting" (.ref l1) []))):=(SX.of s1).trans (SX.put _)
  generalize upd H1 x (.ins Cq dx (putF "waiting" (.ref l1) []))=H2 at *
  refine New.of fun l2 H3 h2 s2 e2=>?_
  have n2:l2≠x:=Z3h X1 h2
  refine ⟨Cq,dx,_,s2 _ _ X1,T.Waits.cl,T.n_Waits_known,Nat.lt_of_sub_eq_succ rfl,?_⟩
  refine q l1 l2 _ h1 ?_ (fun z=>Z0m L1 h2 z) (S1.trans ((SX.of s2).trans (SX.put _))) Z0g (by rw [Z0j n1]; exact s2 _ _ L1) (by rw [Z0j n2]; exact e2)
  cases e:H l2 with
  | none=>rfl
  | some o=>rw [S1 _ _ n2 e] at h2; cases h2
theorem J4p (T:Txt K mg Cl Cs Cq Ck Ct Cw Ch Cp):HasM P w K mg base 1 Cq "wait" ["self","step","term","scope"] (Z3Z (CS.mk Ct Cw Ch Cp Cl Cs Cq Ck B) K):=by
  refine HasM.of T.m_Waits_wait Z6a (fun _ _ _ _ _ _ us hl=>el4 us hl fun _ _ _ _=>rfl) (fun vs H Q E h=>?_) (fun f cdv A outer s H vs Q E hr h=>?_)
  · obtain ⟨a,dx,wl,kl,st,tv,sv,ws,rfl,_⟩:=h
    rfl
  obtain ⟨a,dx,wl,kl,st,tv,sv,ws,rfl,ha,hw,hz,q⟩:=h
  refine ⟨_,(Z0e (Z0B (Z4m PySem.F.plainAttrs_list PySem.F.slot_list_append PySem.F.type_list_append Z1y (Z0i (pvF 0) rfl) (Z0a (Z0k (Z0a (pvF 1) (Z0a (pvF 2) (Z0a (pvF 3) Z0b)))) Z0b)))),?_⟩
  walk_at "rd"
  refine ⟨Cq,dx,_,ha,T.Waits.cl,T.n_Waits_waiting,_,rfl,.inl ⟨rfl,_,SqL.of hw⟩,?_⟩
  refine New.of fun t H1 h1 s1 e1=>?_
  exact ⟨wl,rfl,ws,s1 _ _ hw,by omega,q t H1 h1 s1 e1⟩
theorem J5e (T:Txt K mg Cl Cs Cq Ck Ct Cw Ch Cp):HasM P w K mg base 1 Cq "is_over" ["self"] (Z9L (CS.mk Ct Cw Ch Cp Cl Cs Cq Ck B) K):=by
  refine HasM.of T.m_Waits_is_over Z4l (fun _ _ _ _ _ _ us hl=>el1 us hl fun _=>rfl) (fun vs H Q E h=>?_) (fun f cdv A outer s H vs Q E hr h=>?_)
  · obtain ⟨a,dx,wl,kl,ws,rfl,_⟩:=h
    rfl
  obtain ⟨a,dx,wl,kl,ws,rfl,ha,hw,q⟩:=h
  refine ⟨_,(Z0e (Z0q (Z2u (r:=rEqN K) (J6i hr.units) (Z0i (pvF 0) rfl) (Z0P Z0b) (Z0x _)))),?_⟩
  walk_at "rd"
  refine ⟨Cq,dx,_,ha,T.Waits.cl,T.n_Waits_waiting,_,rfl,?_⟩
  refine New.of fun t H1 h1 s1 e1=>?_
  exact ⟨wl,rfl,ws,SqL.of (s1 _ _ hw),SqL.of e1,q H1 s1⟩
theorem J4w (T:Txt K mg Cl Cs Cq Ck Ct Cw Ch Cp):HasM P w K mg base 1 Cq "take_step" ["self"] (J1n (CS.mk Ct Cw Ch Cp Cl Cs Cq Ck B) K):=by
  refine HasM.of T.m_Waits_take_step Z3x (fun _ _ _ _ _ _ us hl=>el1 us hl fun _=>rfl) (fun vs H Q E h=>?_) (fun f cdv A outer s H vs Q E hr h=>?_)
  · obtain ⟨a,dx,wl,kl,ws,v,rfl,_⟩:=h
    rfl
  obtain ⟨a,dx,wl,kl,ws,v,rfl,ha,hw,q⟩:=h
  refine ⟨_,(Z0e (Z0q (Z6p PySem.F.plainAttrs_list PySem.F.slot_list_pop PySem.F.type_list_pop Z6S (Z0i (pvF 0) rfl)))),?_⟩
  walk_at "rd"
  refine ⟨Cq,dx,_,ha,T.Waits.cl,T.n_Waits_waiting,_,rfl,.inl ⟨rfl,_,SqL.of hw⟩,wl,rfl,_,hw,v,Z5W,?_⟩
  rw [List.dropLast_concat]
  exact q v rfl
theorem J5s (T:Txt K mg Cl Cs Cq Ck Ct Cw Ch Cp):HasM P w K mg base 1 Cq "know" ["self","value"] (Z4d (CS.mk Ct Cw Ch Cp Cl Cs Cq Ck B) K):=by
  refine HasM.of T.m_Waits_know Z5P (fun _ _ _ _ _ _ us hl=>el2 us hl fun _ _=>rfl) (fun vs H Q E h=>?_) (fun f cdv A outer s H vs Q E hr h=>?_)
  · obtain ⟨a,dx,wl,kl,ks,v,rfl,_⟩:=h
    rfl
  obtain ⟨a,dx,wl,kl,ks,v,rfl,ha,hw,hz,q⟩:=h
  refine ⟨_,(Z0e (Z0B (Z4m PySem.F.plainAttrs_list PySem.F.slot_list_append PySem.F.type_list_append Z1y (Z0i (pvF 0) rfl) (Z0a (pvF 1) Z0b)))),?_⟩
  walk_at "rd"
  exact ⟨Cq,dx,_,ha,T.Waits.cl,T.n_Waits_known,_,rfl,.inl ⟨rfl,_,SqL.of hw⟩,kl,rfl,ks,hw,by omega,q _ rfl⟩
theorem J7z (T:Txt K mg Cl Cs Cq Ck Ct Cw Ch Cp):HasM P w K mg base 1 Cq "take_value" ["self"] (J0w (CS.mk Ct Cw Ch Cp Cl Cs Cq Ck B) K):=by
  refine HasM.of T.m_Waits_take_value Z3o (fun _ _ _ _ _ _ us hl=>el1 us hl fun _=>rfl) (fun vs H Q E h=>?_) (fun f cdv A outer s H vs Q E hr h=>?_)
  · obtain ⟨a,dx,wl,kl,ks,v,rfl,_⟩:=h
    rfl
  obtain ⟨a,dx,wl,kl,ks,v,rfl,ha,hw,q⟩:=h
  refine ⟨_,(Z0e (Z0q (Z6p PySem.F.plainAttrs_list PySem.F.slot_list_pop PySem.F.type_list_pop Z6S (Z0i (pvF 0) rfl)))),?_⟩
  walk_at "rd"
  refine ⟨Cq,dx,_,ha,T.Waits.cl,T.n_Waits_known,_,rfl,.inl ⟨rfl,_,SqL.of hw⟩,kl,rfl,_,hw,v,Z5W,?_⟩
  rw [List.dropLast_concat]
  exact q v rfl
theorem J4B (T:Txt K mg Cl Cs Cq Ck Ct Cw Ch Cp):HasM P w K mg base 1 Cq "take_values" ["self","many"] (J1P (CS.mk Ct Cw Ch Cp Cl Cs Cq Ck B) K):=by
  refine HasM.of T.m_Waits_take_values sc_Waits_take_values (fun _ _ _ _ _ _ us hl=>el2 us hl fun _ _=>rfl) (fun vs H Q E h=>?_) (fun f cdv A outer s H vs Q E hr h=>?_)
  · obtain ⟨a,dx,wl,kl,ks,us,rfl,_⟩:=h
    rfl
  obtain ⟨a,dx,wl,kl,ks,us,rfl,ha,hw,hz,q⟩:=h
  refine ⟨_,(Z0c (Z1O rfl sc_Waits_take_values.nd (i:=2) rfl rfl (BlockOk.of (N:=["number","self"]) (nl:=[none,some 0]) (cl:=[("self",s.heap.objs.size+1)]) rfl (by decide +kernel) (by decide +kernel) rfl (sub1 rfl) (nm:=["self"]) rfl (by decide +kernel) rfl (fun i hi j hj=>by
            match i,hi with
            | 0,_=>cases hj
             | 1,_=>cases hj; exact ⟨_,rfl,rfl,rfl,.inl rfl⟩
            )) (Z4M rfl T.z_range (Z0a (pvF 1) Z0b))
          (fun C fp s H=>(Z0s (i:=0) (show (["number","self"]:List Str).Nodup by decide +kernel) rfl (Or.inl rfl)))
          (fun C fp s H=>(show PE _ _ (tBM0 K "list" rPop _) from Z6p PySem.F.plainAttrs_list PySem.F.slot_list_pop PySem.F.type_list_pop Z6S (show PE _ _ (Z9S K _ "known") from Z0i (pvF 1) rfl))))
    (Z0e (Z0q (J0i rfl rfl rfl T.z_list T.z_reversed (Z0a (pvF 2) Z0b))))),?_⟩
  refine seq2 fun uz1 huz1=>?_
  walk_at "rd"
  refine ⟨by omega,by omega,fun D hD=>?_⟩
  rw [Int.toNat_natCast]
  have nDk:D≠kl:=Z3h hw hD
  have nDa:D≠a:=Z3h ha hD
  have nka:a≠kl:=fun z=>by rw [z,hw] at ha; cases ha
  refine Z7Y (n:=us.length) none [some (.ref a)] (fun _ _=>True) (fun j vs H4=>H4 kl=some (.lst (ks++us.take (us.length - j)))∧vs=(us.drop (us.length - j)).reverse∧∀ b o,b≠kl→b≠D→H b=some o→H4 b=some o) rfl (by rw [sizeLine_eq]; omega) ⟨?_,?_,fun b o _ nb h=>?_⟩ (fun j vs H4 hj hW=>?_) (fun vs H4 hW=>?_) (fun j x vs H4 K' hj _ hW hD4 k=>?_) (fun vs H4 hW hD4 hl=>?_)
  · rw [Z0j nDk.symm,Nat.sub_zero,List.take_of_length_le (Nat.le_refl _)]; exact hw
  · rw [Nat.sub_zero,List.drop_of_length_le (Nat.le_refl _)]; rfl
  · rw [Z0j nb]; exact h
  · exact ⟨by first | exact hj | (show (j:Int) < _; omega),fun x H2 hy=>⟨by first | exact hy.1 | exact hy.2,trivial⟩⟩
  · first | exact Nat.le_refl _ | skip
  · obtain ⟨g1,rfl,g3⟩:=hW
    obtain ⟨m,em⟩:∃ m,us.length - j=m+1:=⟨us.length - j - 1,by omega⟩
    have em':us.length - (j+1)=m:=by omega
    have hm:m < us.length:=by omega
    rw [em] at g1 hD4 k
    rw [List.take_succ_eq_append_getElem hm,← List.append_assoc] at g1
    walk_at "rd"
    refine ⟨Cq,dx,_,g3 _ _ nka nDa.symm ha,T.Waits.cl,T.n_Waits_known,_,rfl,.inl ⟨rfl,_,SqL.of g1⟩,kl,rfl,_,g1,us[m],Z5W,?_⟩
    rw [List.dropLast_concat]
    refine k _ _ (by rw [Z0j nDk]; exact hD4) ⟨?_,?_,fun b o nb nb' h=>?_⟩
    · rw [Z0j nDk.symm,em']; exact Z0g
    · rw [em',List.drop_eq_getElem_cons hm,List.reverse_cons]
    · rw [Z0j nb',Z0j nb]; exact g3 b o nb nb' h
  · obtain ⟨g1,rfl,g3⟩:=hW
    rw [Nat.sub_self,List.take_zero,List.append_nil] at g1
    rw [Nat.sub_self,List.drop_zero] at hD4
    subst huz1
    walk_at "rd"
    refine ⟨_,SqL.of hD4,fun l hl=>?_⟩
    rw [List.reverse_reverse]
    have nlk:l≠kl:=Z3h g1 hl
    refine q l _ ?_ (fun b o nb e=>?_) (by rw [Z0j nlk.symm]; exact g1) Z0g
    · cases e:H l with
      | none=>rfl
      | some o=>rw [g3 _ _ nlk (Z0m e hD) e] at hl; cases hl
    · have e4:=g3 b o nb (Z0m e hD) e
      rw [Z0j (Z0m e4 hl)]; exact e4
noncomputable def isCh:Fm→Bool
  | .iff=>true | .lt=>true | _=>false
theorem inCh (f:Fm):inV (.str f.s) [.str "if",.str "let"]=isCh f:=by
  cases f <;> decide
theorem J8J (f:Fm):f.s=Str.ofString "two"→f=.two:=by cases f <;> first | exact fun _=>rfl | exact fun h=>absurd h (by decide +kernel)
theorem choT {t:Tm} (h:isCh t.f=true):choB t=true:=by
  obtain ⟨f,l,ps⟩:=t
  cases f <;> first | rfl | cases h
theorem J4T (l:Lb) (x:Str):scal (lbV l) (.str x)=true:=by cases l <;> rfl
theorem J8L (l:Lb):decide (lbV l=.str (Str.ofString ";"))=(match l with | .str s=>decide (s=";") | _=>false):=by
  cases l with
  | str s=>show decide (V.str s=V.str _)=_; by_cases h:s=";" <;> simp [h]
  | _=>exact decide_eq_false (fun z=>by cases z)
theorem choW {t:Tm} (h:t.f=.two):choB t=(match t.l with | .str s=>decide (s=";") | _=>false):=by
  obtain ⟨f,l,ps⟩:=t
  cases h
  rfl
theorem choN {t:Tm} (h:¬ isCh t.f=true) (h2:t.f≠.two):choB t=false:=by
  obtain ⟨f,l,ps⟩:=t
  cases f <;> first | rfl | exact absurd rfl h | exact absurd rfl h2
theorem Z8R (T:Txt K mg Cl Cs Cq Ck Ct Cw Ch Cp):Has P w K mg base 1 "chooses" ["term"] (Z5e (CS.mk Ct Cw Ch Cp Cl Cs Cq Ck B) K):=by
  refine Has.of T.f_chooses Z8O (fun _ _ _ _ _ _ us hl=>el1 us hl fun _=>rfl) (fun vs H Q E h=>?_) (fun f cdv A outer s H vs Q E hr h=>?_)
  · obtain ⟨v,t,rfl,_⟩:=h
    rfl
  obtain ⟨v,t,rfl,hv,q⟩:=h
  refine ⟨_,(Z0e (Z0q (J9r (Z2u (r:=rIn K false) Z0U (Z0i (pvF 0) rfl) (Z0k (Z0a Z0f (Z0a Z0f Z0b))) (by with_unfolding_all rfl)) (J0K (J3r (Z2u Z1a (Z0i (pvF 0) rfl) Z0f (Z0x _)) (J0K (Z2u Z1a (Z0i (pvF 0) rfl) Z0f (Z0x _)))))))),?_⟩
  walk_at "rd"
  obtain ⟨a,dx,inn,sh,us,ws,rfl,ha,hi,hus,hs,hw⟩:=hv.inv
  refine ⟨a,rfl,Ct,dx,_,ha,T.Term.cl,T.n_Term_form,_,rfl,?_⟩
  refine New.of fun p H2 h2 s2 e2=>⟨_,.inr (SqT.of e2),rfl,rfl,?_⟩
  rw [inCh]
  have ha2:=s2 _ _ ha
  have q2:=q H2 s2
  refine ite2 (fun c=>?_) (fun c=>?_)
  · rw [choT c] at q2; exact q2
  refine ⟨a,rfl,Ct,dx,_,ha2,T.Term.cl,T.n_Term_form,_,rfl,rfl,?_⟩
  refine ite2 (fun d=>?_) (fun d=>?_)
  · refine ⟨a,rfl,Ct,dx,_,ha2,T.Term.cl,T.n_Term_label,_,rfl,J4T _ _,?_⟩
    rw [J8L t.l,← choW (J8J _ (V.str.inj d))]
    exact q2
  · rw [choN c (fun z=>d (by rw [z]; rfl))] at q2; exact q2
end
open PW (Bd)
instance (n:Int):Decidable (Bd n):=by unfold Bd; infer_instance
def Z4Y (n:Int):List V:=if Bd n then [.str "value",.int n] else [.str "refused",.str "great"]
def numO (sg:Str) (a b:Int):Int:=if sg="+" then a+b else if sg="-" then a - b else if sg="*" then a * b else a.fdiv b
def twoO (sg:Str) (a b:Int):List V:=if sg="<" then [.str "value",.bl (decide (a < b))] else if sg="=" then [.str "value",.bl (decide (a=b))] else if sg="/"∧b=0 then [.str "refused",.str "nought"] else Z4Y (numO sg a b)
inductive Z5i (vs:List V) (H:Hp) (Q:VK):Prop
  | mk (n:_) (a1:vs=[.int n]) (a2:∀ p,H p=none→Q (.ref p) (upd H p (.tup (Z4Y n)))):Z5i vs H Q
def Z5x:Sp:=fun vs H Q _=>Z5i  vs H Q
inductive Z3j (vs:List V) (H:Hp) (Q:VK):Prop
  | mk (sg:_) (a:_) (b:_) (a1:vs=[.str sg,.int a,.int b]) (a2:Bd a) (a3:Bd b) (a4:(sg="+"∨sg="-"∨sg="*"∨b≠0)) (a5:Q (.int (numO sg a b)) H):Z3j vs H Q
def Z3l:Sp:=fun vs H Q _=>Z3j  vs H Q
inductive Z4z (vs:List V) (H:Hp) (Q:VK):Prop
  | mk (sg:_) (a:_) (b:_) (a1:vs=[.str sg,.int a,.int b]) (a2:Bd a) (a3:Bd b) (a4:(sg="+"∨sg="-"∨sg="*"∨sg="/"∨sg="<"∨sg="=")) (a5:∀ p H',H p=none→Same H H'→H' p=some (.tup (twoO sg a b))→Q (.ref p) H'):Z4z vs H Q
def Z4Z:Sp:=fun vs H Q _=>Z4z  vs H Q
def WA (K:W.Frag) (c:CS) (G:Pg) (most:Nat) (H:Hp) (a:Addr) (S:Ws):Prop:=∃ A,WAd K c G most H a A S
structure Sm (S:Ws):Prop where
  w:S.wait.length≤1000000
  k:S.known.length≤1000000
  m:S.made.length≤1000000
inductive J4d (c:CS) (K:W.Frag) (vs:List V) (H:Hp) (Q:VK):Prop
  | mk (a:Addr) (v:V) (G:Pg) (most n:Nat) (S:Ws) (h:Str) (inn:List Vl) (a1:vs=[.ref a,v]) (a2:WA K c G most H a S) (a3:RV H v (.thing n)) (a4:S.made[n]?=some (h,inn)) (a5:Q (.str h) H):J4d c K vs H Q
def Z7H (c:CS) (K:W.Frag):Sp:=fun vs H Q _=>J4d c K vs H Q
inductive J3C (c:CS) (K:W.Frag) (vs:List V) (H:Hp) (Q:VK):Prop
  | mk (a:Addr) (v:V) (G:Pg) (most n:Nat) (A:Ad) (S:Ws) (m:V×Addr) (a1:vs=[.ref a,v]) (a2:WAd K c G most H a A S) (a3:RV H v (.thing n)) (a4:A.mz[n]?=some m) (a5:Q (.ref m.2) H):J3C c K vs H Q
def J3u (c:CS) (K:W.Frag):Sp:=fun vs H Q _=>J3C c K vs H Q
inductive J1Q (c:CS) (K:W.Frag) (vs:List V) (H:Hp) (Q:VK):Prop
  | mk (a:Addr) (v:V) (G:Pg) (most n j:Nat) (S:Ws) (h fl:Str) (inn:List Vl) (a1:vs=[.ref a,v,.str fl]) (a2:WA K c G most H a S) (a3:G.houses.length≤100) (a4:RV H v (.thing n)) (a5:S.made[n]?=some (h,inn)) (a6:J0a G h fl j) (a7:∀ H',Same H H'→Q (.int j) H'):J1Q c K vs H Q
def J1L (c:CS) (K:W.Frag):Sp:=fun vs H Q _=>J1Q c K vs H Q
inductive J3H (c:CS) (K:W.Frag) (vs:List V) (H:Hp) (Q:VK):Prop
  | mk (a:Addr) (v1 v2:V) (G:Pg) (most:Nat) (S:Ws) (g:Str) (x1 x2:Vl) (o:Option Vl) (e:List Str) (a1:vs=[.ref a,.str g,v1,v2]) (a2:WA K c G most H a S) (a3:Sm S) (a4:RV H v1 x1) (a5:RV H v2 x2) (a6:Two g x1 x2 o e) (a7:∀ H',Kw c.walk H H'→WA K c G most H' a (match o with | some y=>{ S with known:=y::S.known } | none=>{ S with ended:=some e })→Q .non H'):J3H c K vs H Q
def J4e (c:CS) (K:W.Frag):Sp:=fun vs H Q _=>J3H c K vs H Q
inductive J0Y (c:CS) (K:W.Frag) (vs:List V) (H:Hp) (Q:VK):Prop
  | mk (a l:Addr) (tv:V) (G:Pg) (most:Nat) (S S':Ws) (h wd:Str) (x:Vl) (us:List V) (xs:List Vl) (a1:vs=[.ref a,.str h,.str wd,tv,.ref l]) (a2:WA K c G most H a S) (a3:Sm S) (a4:RV H tv x) (a5:H l=some (.lst us)) (a6:A2 (RV H) us xs) (a7:Called G most h wd x xs S S') (a8:∀ H',Kw c.walk H H'→WA K c G most H' a S'→Q .non H'):J0Y c K vs H Q
def J0z (c:CS) (K:W.Frag):Sp:=fun vs H Q _=>J0Y c K vs H Q
inductive Z8I (c:CS) (K:W.Frag) (vs:List V) (H:Hp) (Q:VK):Prop
  | mk (x dx:Addr) (pp:V) (G:Pg) (most:Nat) (a1:vs=[.ref x,pp,.int most]) (a2:H x=some (.ins c.walk dx [])) (a3:PgO K c H pp G) (a4:GOk G) (a5:G.houses.length≤100) (a6:Same c.bs H) (a7:c.bs x=none) (a8:∀ H',SX x H H'→WA K c G most H' x ⟨[],[],[],0,0,none⟩→Q .non H'):Z8I c K vs H Q
def Z7S (c:CS) (K:W.Frag):Sp:=fun vs H Q _=>Z8I c K vs H Q
theorem Z2y {H H':Hp} {x:Addr} (s:Same H H') (h:H' x=none):H x=none:=by
  cases e:H x with
  | none=>rfl
  | some o=>rw [s _ _ e] at h; cases h
section
variable {Cl Cs Cq Ck Ct Cw Ch Cp:Addr} {P:Program} {w:World} {K:W.Frag} {mg:Str→Option Value} {base:Heap} {B:Hp}
theorem Z8X (T:Txt K mg Cl Cs Cq Ck Ct Cw Ch Cp):Has P w K mg base 1 "bounded" ["number"] Z5x:=by
  refine Has.of T.f_bounded Z9g (fun _ _ _ _ _ _ us hl=>el1 us hl fun _=>rfl) (fun vs H Q E h=>?_) (fun f cdv A outer s H vs Q E hr h=>?_)
  · obtain ⟨n,rfl,_⟩:=h
    rfl
  obtain ⟨n,rfl,q⟩:=h
  refine ⟨_,(Z0c (Z0H (Z0p J8M (Z1r J1X rfl T.z_abs J6p (Z0a (pvF 0) Z0b)) (J3y T.c_GREATEST rfl) (Z0x _)) (Z0e (Z0q (Z0k (Z0a Z0f (Z0a Z0f Z0b))))) Z0A)
    (Z0e (Z0q (Z0k (Z0a Z0f (Z0a (pvF 0) Z0b)))))),?_⟩
  walk_at "rd"
  have hb:(1000000000000000 < if n < 0 then -n else n)↔¬ Bd n:=by unfold Bd; split <;> omega
  simp only [hb]
  unfold Z4Y at q
  by_cases hc:Bd n
  · rw [if_pos hc] at q
    rw [if_neg (fun z=>z hc)]
    exact q
  · rw [if_neg hc] at q
    rw [if_pos hc]
    exact q
theorem Z5d (T:Txt K mg Cl Cs Cq Ck Ct Cw Ch Cp):Has P w K mg base 1 "number_told" ["sign","a","b"] Z3l:=by
  refine Has.of T.f_number_told Z5c (fun _ _ _ _ _ _ us hl=>el3 us hl fun _ _ _=>rfl) (fun vs H Q E h=>?_) (fun f cdv A outer s H vs Q E hr h=>?_)
  · obtain ⟨sg,a,b,rfl,_⟩:=h
    rfl
  obtain ⟨sg,a,b,rfl,ha,hb,hs,q⟩:=h
  refine ⟨_,(Z0c (Z0H (Z0p Z1a (pvF 0) Z0f (Z0x _)) (Z0e (Z0q (Z0y Z2c (pvF 1) (pvF 2)))) Z0A)
    (Z0c (Z0H (Z0p Z1a (pvF 0) Z0f (Z0x _)) (Z0e (Z0q (Z0y Z9J (pvF 1) (pvF 2)))) Z0A)
    (Z0c (Z0H (Z0p Z1a (pvF 0) Z0f (Z0x _)) (Z0e (Z0q (Z0y Z3m (pvF 1) (pvF 2)))) Z0A)
    (Z0e (Z0q (Z0y Z8y (pvF 1) (pvF 2))))))),?_⟩
  walk_at "rd"
  unfold numO at q
  split
  · rename_i h1; rw [if_pos h1] at q; exact q
  · rename_i h1; rw [if_neg h1] at q
    split
    · rename_i h2; rw [if_pos h2] at q; exact q
    · rename_i h2; rw [if_neg h2] at q
      split
      · rename_i h3; rw [if_pos h3] at q; unfold Bd at ha; exact ⟨.inl (by omega),q⟩
      · rename_i h3; rw [if_neg h3] at q
        have:b≠0:=by
          rcases hs with z | z | z | z
          · exact absurd z h1
          · exact absurd z h2
          · exact absurd z h3
          · exact z
        unfold Bd at hb
        exact ⟨this,by omega,by omega,q⟩
theorem Z7t (T:Txt K mg Cl Cs Cq Ck Ct Cw Ch Cp) (h_bounded:Has P w K mg base 1 "bounded" ["number"] Z5x) (h_number_told:Has P w K mg base 1 "number_told" ["sign","a","b"] Z3l):Has P w K mg base 2 "two_told" ["sign","a","b"] Z4Z:=by
  refine Has.of T.f_two_told Z7n (fun _ _ _ _ _ _ us hl=>el3 us hl fun _ _ _=>rfl) (fun vs H Q E h=>?_) (fun f cdv A outer s H vs Q E hr h=>?_)
  · obtain ⟨sg,a,b,rfl,_⟩:=h
    rfl
  obtain ⟨sg,a,b,rfl,ha,hb,hs,q⟩:=h
  refine ⟨_,(Z0c (Z0H (Z0p Z1a (pvF 0) Z0f (Z0x _)) (Z0e (Z0q (Z0k (Z0a Z0f (Z0a (Z2u J5Z (pvF 1) (pvF 2) (Z0x _)) Z0b))))) Z0A)
    (Z0c (Z0H (Z0p Z1a (pvF 0) Z0f (Z0x _)) (Z0e (Z0q (Z0k (Z0a Z0f (Z0a (Z2u Z1a (pvF 1) (pvF 2) (Z0x _)) Z0b))))) Z0A)
    (Z0c (Z0H (PW.pt (Z8a (Z0p Z1a (pvF 0) Z0f (Z0x _)) (Z5G (Z0p Z1a (pvF 2) Z0h (Z0x _))))) (Z0e (Z0q (Z0k (Z0a Z0f (Z0a Z0f Z0b))))) Z0A)
    (Z0e (Z0q (Z0J h_bounded hr (by decide) rfl (Z0a (Z0J h_number_told hr (by decide) rfl (Z0a (pvF 0) (Z0a (pvF 1) (Z0a (pvF 2) Z0b)))) Z0b))))))),?_⟩
  walk_at "rd"
  unfold twoO at q
  split
  · rename_i h1; rw [if_pos h1] at q
    refine New.of fun p H1 h1 s1 e1=>q p H1 h1 s1 e1
  · rename_i h1; rw [if_neg h1] at q
    split
    · rename_i h2; rw [if_pos h2] at q
      refine New.of fun p H1 h1 s1 e1=>q p H1 h1 s1 e1
    · rename_i h2; rw [if_neg h2] at q
      split
      · rename_i h3
        split
        · rename_i h4; rw [if_pos ⟨h3,h4⟩] at q
          refine New.of fun p H1 h1 s1 e1=>q p H1 h1 s1 e1
        · rename_i h4; rw [if_neg (fun z=>h4 z.2)] at q
          exact ⟨sg,a,b,rfl,ha,hb,.inr (.inr (.inr h4)),_,rfl,fun p hp=>q p _ hp (Z0C hp _) Z0g⟩
      · rename_i h3; rw [if_neg (fun z=>h3 z.1)] at q
        refine ⟨sg,a,b,rfl,ha,hb,?_,_,rfl,fun p hp=>q p _ hp (Z0C hp _) Z0g⟩
        rcases hs with z | z | z | z | z | z
        · exact .inl z
        · exact .inr (.inl z)
        · exact .inr (.inr (.inl z))
        · exact absurd z h3
        · exact absurd z h1
        · exact absurd z h2
end
theorem SX.kw {x C dx:Addr} {fs:List (Str×V)} {H H':Hp} (s:SX x H H') (hx:H x=some (.ins C dx fs)):Kw C H H':=
  ⟨fun b xs h=>s b _ (fun z=>by rw [z,hx] at h; cases h) h,fun b o xs h=>s b _ (fun z=>by rw [z,hx] at h; cases h) h,
   fun b D dx f fs n h=>s b _ (fun z=>by rw [z,hx] at h; cases h; exact n rfl) h,fun b kvs h=>s b _ (fun z=>by rw [z,hx] at h; cases h) h⟩
theorem Z4P:∀ (l b:List (Str×Vl)) (p:Str×Vl),Z2V b (l++[p])=putS p.1 p.2 (Z2V b l)
  | [],_,_=>rfl
  | (k,v)::l,b,p=>Z4P l (putS k v b) p
theorem J3S {α β:Type}:∀ {as:List α} {bs:List β} {n:Nat} {a:α} {b:β},as[n]?=some a→bs[n]?=some b→(as.zip bs).take (n+1)=(as.zip bs).take n++[(a,b)]
  | _::_,_::_,0,_,_,ha,hb=>by cases ha; cases hb; rfl
  | _::as,_::bs,n+1,_,_,ha,hb=>by
    have:=J3S (as:=as) (bs:=bs) (n:=n) ha hb
    show _::List.take (n+1) (as.zip bs)=_::(List.take n (as.zip bs)++_)
    rw [this]
theorem J3B {H:Hp} {ks:List Str} {ys:List V} {xs:List Vl} (r:A2 (RV H) ys xs):∀ n,n≤min ks.length ys.length→RB H (absD (fun i=>.inr (ks.getD i "")) (fun i=>ys.getD i .non) n) (Z2V [] ((ks.zip xs).take n))
  | 0,_=>.nil
  | n+1,h=>by
    have hk:n < ks.length:=by omega
    have hy:n < ys.length:=by omega
    have e1:=List.getElem?_eq_getElem hk
    have e2:=List.getElem?_eq_getElem hy
    obtain ⟨x,e3,rx⟩:=r.at e2
    rw [J3S e1 e3,Z4P]
    show RB H (putK (absD _ _ n) (.inr (ks.getD n "")) (ys.getD n .non)) _
    rw [List.getD_eq_getElem?_getD,e1,List.getD_eq_getElem?_getD,e2]
    exact (J3B r n (by omega)).put rx
theorem J4b {H:Hp} {ks:List Str} {ys:List V} {xs:List Vl} (r:A2 (RV H) ys xs):RB H (zipD ks ys) (Z2V [] (ks.zip xs)):=by
  have:=J3B (ks:=ks) r _ (Nat.le_refl _)
  rw [List.take_of_length_le (by rw [List.length_zip,r.len]; exact Nat.le_refl _)] at this
  exact this
section
variable {Cl Cs Cq Ck Ct Cw Ch Cp:Addr} {P:Program} {w:World} {K:W.Frag} {mg:Str→Option Value} {base:Heap} {B:Hp}
theorem Z6R (T:Txt K mg Cl Cs Cq Ck Ct Cw Ch Cp):CS.Ok (CS.mk Ct Cw Ch Cp Cl Cs Cq Ck B):=
  ⟨Z5u T.m_Term___init__ T.m_Walk___init__ (by decide),Z5u T.m_Word___init__ T.m_Walk___init__ (by decide),Z5u T.m_House___init__ T.m_Walk___init__ (by decide),Z5u T.m_Hall___init__ T.m_Walk___init__ (by decide),Z5u T.m_Scope___init__ T.m_Walk___init__ (by decide),Z5u T.m_Waits___init__ T.m_Walk___init__ (by decide)⟩
theorem J2l (T:Txt K mg Cl Cs Cq Ck Ct Cw Ch Cp) (h_Hall___init__:HasM P w K mg base 1 Cl "__init__" ["self","program"] (Z8d (CS.mk Ct Cw Ch Cp Cl Cs Cq Ck B) K)) (h_Waits___init__:HasM P w K mg base 1 Cq "__init__" ["self"] (Z7A (CS.mk Ct Cw Ch Cp Cl Cs Cq Ck B) K)):HasM P w K mg base 3 Ck "__init__" ["self","program","most"] (Z7S (CS.mk Ct Cw Ch Cp Cl Cs Cq Ck B) K):=by
  refine HasM.of T.m_Walk___init__ Z4p (fun _ _ _ _ _ _ us hl=>el3 us hl fun _ _ _=>rfl) (fun vs H Q E h=>?_) (fun f cdv A outer s H vs Q E hr h=>?_)
  · obtain ⟨x,dx,pp,G,most,rfl,_⟩:=h
    rfl
  obtain ⟨x,dx,pp,G,most,rfl,hx,hp,gok,hlen,sB,nB,q⟩:=h
  refine ⟨_,(Z0c (Z0D (pvF 0) (Z3C T.Hall h_Hall___init__ hr (by decide) rfl (Z0a (pvF 1) Z0b)) rfl)
    (Z0c (Z0D (pvF 0) (pvF 2) rfl)
    (Z0c (Z0D (pvF 0) (J5p T.Waits h_Waits___init__ hr (by decide) rfl) rfl)
    (Z0c (Z0D (pvF 0) (Z0P Z0b) rfl)
    (Z0c (Z0D (pvF 0) Z0h rfl)
    (Z0c (Z0D (pvF 0) Z0h rfl)
    (Z0e (Z0D (pvF 0) Z2e rfl)))))))),?_⟩
  refine seq7 fun uz6 huz6 uz5 huz5 uz4 huz4 uz3 huz3 uz2 huz2 uz1 huz1=>?_
  walk_at "rd"
  intro hl hdx n1 n2 ne
  have s1:=Z1z (C:=Cl) n1 n2 ne
  refine ⟨hl,hdx,pp,G,rfl,Z0g,hp.same s1,gok,hlen,fun H1 sx1 hlo=>⟨rfl,?_⟩⟩
  have s2:Same H H1:=Z2g s1 sx1 n1
  refine ⟨Ck,dx,_,s2 _ _ hx,T.Walk.cl,T.n_Walk_hall,Nat.lt_of_sub_eq_succ rfl,?_⟩
  subst huz1
  walk_at "rd"
  refine ⟨Ck,dx,_,Z0g,T.Walk.cl,T.n_Walk_most,Nat.lt_of_sub_eq_succ rfl,?_⟩
  subst huz2
  walk_at "rd"
  have X2:upd (upd H1 x (.ins Ck dx (putF "hall" (.ref hl) []))) x (.ins Ck dx (putF "most" (.int most) (putF "hall" (.ref hl) []))) x=some (.ins Ck dx (putF "most" (.int most) (putF "hall" (.ref hl) []))):=Z0g
  have S2:SX x H1 (upd (upd H1 x (.ins Ck dx (putF "hall" (.ref hl) []))) x (.ins Ck dx (putF "most" (.int most) (putF "hall" (.ref hl) [])))):=(SX.put _).trans (SX.put _)
  have sB2:Same B (upd (upd H1 x (.ins Ck dx (putF "hall" (.ref hl) []))) x (.ins Ck dx (putF "most" (.int most) (putF "hall" (.ref hl) [])))):=Z2J (Z2J (Same.trans sB s2) nB) nB
  generalize upd (upd H1 x (.ins Ck dx (putF "hall" (.ref hl) []))) x (.ins Ck dx (putF "most" (.int most) (putF "hall" (.ref hl) [])))=H2 at *
  intro y dy m1 m2 mne
  have s3:=Z1z (C:=Cq) m1 m2 mne
  refine ⟨y,dy,rfl,Z0g,fun l1 l2 H3 k1 k2 kne sx3 e1 e2 e3=>⟨rfl,?_⟩⟩
  have s4:Same H2 H3:=Z2g s3 sx3 m1
  have X3:=s4 _ _ X2
  refine ⟨Ck,dx,_,X3,T.Walk.cl,T.n_Walk_waits,Nat.lt_of_sub_eq_succ rfl,?_⟩
  subst huz3
  walk_at "rd"
  have S4:SX x H1 (upd H3 x (.ins Ck dx (putF "waits" (.ref y) (putF "most" (.int most) (putF "hall" (.ref hl) []))))):=S2.trans ((SX.of s4).trans (SX.put _))
  have X4:upd H3 x (.ins Ck dx (putF "waits" (.ref y) (putF "most" (.int most) (putF "hall" (.ref hl) [])))) x=some (.ins Ck dx (putF "waits" (.ref y) (putF "most" (.int most) (putF "hall" (.ref hl) [])))):=Z0g
  have Y4:upd H3 x (.ins Ck dx (putF "waits" (.ref y) (putF "most" (.int most) (putF "hall" (.ref hl) [])))) y=_:=(Z0j (Z3h X2 m1)).trans e1
  have A4:upd H3 x (.ins Ck dx (putF "waits" (.ref y) (putF "most" (.int most) (putF "hall" (.ref hl) [])))) l1=_:=(Z0j (fun z=>by rw [z,X3] at e2; cases e2)).trans e2
  have B4:upd H3 x (.ins Ck dx (putF "waits" (.ref y) (putF "most" (.int most) (putF "hall" (.ref hl) [])))) l2=_:=(Z0j (fun z=>by rw [z,X3] at e3; cases e3)).trans e3
  have sB4:Same B (upd H3 x (.ins Ck dx (putF "waits" (.ref y) (putF "most" (.int most) (putF "hall" (.ref hl) []))))):=Z2J (Same.trans sB2 s4) nB
  generalize upd H3 x (.ins Ck dx (putF "waits" (.ref y) (putF "most" (.int most) (putF "hall" (.ref hl) []))))=H4 at *
  refine New.of fun ml H5 h5 s5 e5=>?_
  have X5:=s5 _ _ X4
  refine ⟨Ck,dx,_,X5,T.Walk.cl,T.n_Walk_made,Nat.lt_of_sub_eq_succ rfl,?_⟩
  subst huz4
  walk_at "rd"
  refine ⟨Ck,dx,_,Z0g,T.Walk.cl,T.n_Walk_counted,Nat.lt_of_sub_eq_succ rfl,?_⟩
  subst huz5
  walk_at "rd"
  refine ⟨Ck,dx,_,Z0g,T.Walk.cl,T.n_Walk_within,Nat.lt_of_sub_eq_succ rfl,?_⟩
  subst huz6
  walk_at "rd"
  refine ⟨Ck,dx,_,Z0g,T.Walk.cl,T.n_Walk_ended,Nat.lt_of_sub_eq_succ rfl,?_⟩
  have S5:∀ (o1 o2 o3 o4:HO),SX x H5 (upd (upd (upd (upd H5 x o1) x o2) x o3) x o4):=fun _ _ _ _=>(SX.put _).trans ((SX.put _).trans ((SX.put _).trans (SX.put _)))
  have S6:=S5 (.ins Ck dx (putF "made" (.ref ml) (putF "waits" (.ref y) (putF "most" (.int most) (putF "hall" (.ref hl) []))))) (.ins Ck dx (putF "counted" (.int 0) (putF "made" (.ref ml) (putF "waits" (.ref y) (putF "most" (.int most) (putF "hall" (.ref hl) [])))))) (.ins Ck dx (putF "within" (.int 0) (putF "counted" (.int 0) (putF "made" (.ref ml) (putF "waits" (.ref y) (putF "most" (.int most) (putF "hall" (.ref hl) []))))))) (.ins Ck dx (putF "ended" .non (putF "within" (.int 0) (putF "counted" (.int 0) (putF "made" (.ref ml) (putF "waits" (.ref y) (putF "most" (.int most) (putF "hall" (.ref hl) []))))))))
  have S7:SX x H1 _:=S4.trans ((SX.of s5).trans S6)
  have hx1:=s2 _ _ hx
  have ok:=Z6R (B:=B) T
  refine q _ ((SX.of s2).trans S7) ⟨⟨dx,hl,y,dy,l1,l2,ml,.non,[],[],[]⟩,⟨Z0g,?_,?_,?_,?_,.nil,.nil,.nil,.non,?_,HlO.kw ok hlo (SX.kw S7 hx1),Z2J (Z2J (Z2J (Z2J (Same.trans sB4 s5) nB) nB) nB) nB,nB,Z2y (Same.trans sB2 s3) k1,Z2y (Same.trans sB2 s3) k2,Z2y sB4 h5,fun m hm=>by cases hm⟩⟩
  · exact S6 _ _ (Z3h X2 m1) (s5 _ _ Y4)
  · exact S6 _ _ (fun z=>by rw [show l1=x from z,X4] at A4; cases A4) (s5 _ _ A4)
  · exact S6 _ _ (fun z=>by rw [show l2=x from z,X4] at B4; cases B4) (s5 _ _ B4)
  · exact S6 _ _ (Z3h X4 h5) e5
  · have d1:l1≠ml:=fun z=>Z0m A4 h5 z
    have d2:l2≠ml:=fun z=>Z0m B4 h5 z
    simp [kne,d1,d2]
theorem J7l (T:Txt K mg Cl Cs Cq Ck Ct Cw Ch Cp):HasM P w K mg base 1 Ck "house_of" ["self","thing"] (Z7H (CS.mk Ct Cw Ch Cp Cl Cs Cq Ck B) K):=by
  refine HasM.of T.m_Walk_house_of Z4n (fun _ _ _ _ _ _ us hl=>el2 us hl fun _ _=>rfl) (fun vs H Q E h=>?_) (fun f cdv A outer s H vs Q E hr h=>?_)
  · obtain ⟨a,v,G,most,n,S,h,inn,rfl,_⟩:=h
    rfl
  obtain ⟨a,v,G,most,n,S,h,inn,rfl,⟨A,hA⟩,hv,hm,q⟩:=h
  cases hv with
  | thing hb=>
  obtain ⟨m,hm1,t,us,e1,e2,e3,e4⟩:=hA.rm.to hm
  refine ⟨_,(Z0e (Z0q (Z0L (r:=Z2o K) Z0W (Z0L (r:=Z1p K) Z0z (Z0i (pvF 0) rfl) (Z0L (r:=Z2o K) Z0W (pvF 1) Z0h (fun _ _=>rfl)) (fun _ _=>rfl)) Z0h (fun _ _=>rfl)))),?_⟩
  walk_at "rd"
  refine ⟨Ck,A.dx,_,hA.wk,T.Walk.cl,T.n_Walk_made,_,rfl,_,SqT.of hb,_,ix1,A.ml,rfl,n,rfl,_,SqL.of hA.hm,m.1,Z0F (by rw [List.getElem?_map,hm1]; rfl),t,e1,_,SqT.of e2,_,ix0,q⟩
theorem J7a (T:Txt K mg Cl Cs Cq Ck Ct Cw Ch Cp):HasM P w K mg base 1 Ck "inner_of" ["self","thing"] (J3u (CS.mk Ct Cw Ch Cp Cl Cs Cq Ck B) K):=by
  refine HasM.of T.m_Walk_inner_of Z4i (fun _ _ _ _ _ _ us hl=>el2 us hl fun _ _=>rfl) (fun vs H Q E h=>?_) (fun f cdv A outer s H vs Q E hr h=>?_)
  · obtain ⟨a,v,G,most,n,A,S,m,rfl,_⟩:=h
    rfl
  obtain ⟨a,v,G,most,n,A,S,m,rfl,hA,hv,hm1,q⟩:=h
  cases hv with
  | thing hb=>
  obtain ⟨e,he,t,us,e1,e2,e3,e4⟩:=hA.rm.at hm1
  refine ⟨_,(Z0e (Z0q (Z0L (r:=Z2o K) Z0W (Z0L (r:=Z1p K) Z0z (Z0i (pvF 0) rfl) (Z0L (r:=Z2o K) Z0W (pvF 1) Z0h (fun _ _=>rfl)) (fun _ _=>rfl)) Z0h (fun _ _=>rfl)))),?_⟩
  walk_at "rd"
  refine ⟨Ck,A.dx,_,hA.wk,T.Walk.cl,T.n_Walk_made,_,rfl,_,SqT.of hb,_,ix1,A.ml,rfl,n,rfl,_,SqL.of hA.hm,m.1,Z0F (by rw [List.getElem?_map,hm1]; rfl),t,e1,_,SqT.of e2,_,ix1,q⟩
end
section
variable {Cl Cs Cq Ck Ct Cw Ch Cp:Addr} {P:Program} {w:World} {K:W.Frag} {mg:Str→Option Value} {base:Heap} {B:Hp}
theorem J5w (T:Txt K mg Cl Cs Cq Ck Ct Cw Ch Cp) (h_Walk_house_of:HasM P w K mg base 1 Ck "house_of" ["self","thing"] (Z7H (CS.mk Ct Cw Ch Cp Cl Cs Cq Ck B) K)) (h_Hall_place:HasM P w K mg base 3 Cl "place" ["self","house","field"] (Z8f (CS.mk Ct Cw Ch Cp Cl Cs Cq Ck B) K)):HasM P w K mg base 4 Ck "place_in" ["self","thing","field"] (J1L (CS.mk Ct Cw Ch Cp Cl Cs Cq Ck B) K):=by
  refine HasM.of T.m_Walk_place_in Z4k (fun _ _ _ _ _ _ us hl=>el3 us hl fun _ _ _=>rfl) (fun vs H Q E h=>?_) (fun f cdv A outer s H vs Q E hr h=>?_)
  · obtain ⟨a,v,G,most,n,j,S,h,fl,inn,rfl,_⟩:=h
    rfl
  obtain ⟨a,v,G,most,n,j,S,h,fl,inn,rfl,⟨A,hA⟩,hgl,hv,hm,hpl,q⟩:=h
  obtain ⟨dx,io,dd,kvs,ea,ed,ok,hlk⟩:=Z0Z hA.hl
  refine ⟨_,(Z0e (Z0q (Z0r (Z0i (pvF 0) rfl) T.Hall.cl h_Hall_place hr (by decide) (Z0a (Z0r (pvF 0) T.Walk.cl h_Walk_house_of hr (by decide) (Z0a (pvF 1) Z0b)) (Z0a (pvF 2) Z0b))))),?_⟩
  walk_at "rd"
  refine ⟨Ck,A.dx,_,hA.wk,T.Walk.cl,T.n_Walk_hall,_,rfl,_,rfl,dx,_,ea,rfl,A.dx,_,hA.wk,rfl,a,v,G,most,n,S,h,inn,rfl,⟨A,hA⟩,hv,hm,?_⟩
  exact ⟨A.hl,h,fl,G,j,rfl,hA.hl,hgl,hpl,q⟩
theorem J6Z {g:Str} {x1 x2:Vl} {o:Option Vl} {e:List Str} (t:Two g x1 x2 o e):∃ a b,x1=.int a∧x2=.int b∧PW.Bd a∧PW.Bd b∧(g="+"∨g="-"∨g="*"∨g="/"∨g="<"∨g="=")∧twoO g a b=(match o with | some (.int n)=>[.str "value",.int n] | some (.bl n)=>[.str "value",.bl n] | some (.thing n)=>[] | none=>e.map V.str)∧(∀ n,o≠some (.thing n))∧(o=none→e.length=2∧e.head?=some ("refused":Str)):=by
  cases t with
  | @add a b ha hb h=>exact ⟨a,b,rfl,rfl,ha,hb,.inl rfl,(by show Z4Y (a+b)=_; unfold Z4Y; rw [if_pos h]),fun n z=>(by cases z),fun z=>(by cases z)⟩
  | @sub a b ha hb h=>exact ⟨a,b,rfl,rfl,ha,hb,.inr (.inl rfl),(by show Z4Y (a - b)=_; unfold Z4Y; rw [if_pos h]),fun n z=>(by cases z),fun z=>(by cases z)⟩
  | @mul a b ha hb h=>exact ⟨a,b,rfl,rfl,ha,hb,.inr (.inr (.inl rfl)),(by show Z4Y (a * b)=_; unfold Z4Y; rw [if_pos h]),fun n z=>(by cases z),fun z=>(by cases z)⟩
  | @great a b ha hb h=>exact ⟨a,b,rfl,rfl,ha,hb,.inr (.inr (.inl rfl)),(by show Z4Y (a * b)=_; unfold Z4Y; rw [if_neg h]; rfl),fun n z=>(by cases z),fun _=>⟨rfl,rfl⟩⟩
  | @nought a ha=>exact ⟨a,0,rfl,rfl,ha,by unfold PW.Bd; omega,.inr (.inr (.inr (.inl rfl))),rfl,fun n z=>(by cases z),fun _=>⟨rfl,rfl⟩⟩
  | @less a b ha hb=>exact ⟨a,b,rfl,rfl,ha,hb,.inr (.inr (.inr (.inr (.inl rfl)))),rfl,fun n z=>(by cases z),fun z=>(by cases z)⟩
theorem Z7v {K:W.Frag} {H:Hp}:∀ l:List Str,RTs K H (l.map V.str) (l.map PyData.str)
  | []=>.nil
  | x::l=>.cons (.str x) (Z7v l)
theorem J6u (T:Txt K mg Cl Cs Cq Ck Ct Cw Ch Cp) (h_two_told:Has P w K mg base 2 "two_told" ["sign","a","b"] Z4Z) (h_Waits_know:HasM P w K mg base 1 Cq "know" ["self","value"] (Z4d (CS.mk Ct Cw Ch Cp Cl Cs Cq Ck B) K)):HasM P w K mg base 3 Ck "two" ["self","sign","one","other"] (J4e (CS.mk Ct Cw Ch Cp Cl Cs Cq Ck B) K):=by
  refine HasM.of T.m_Walk_two sc_Walk_two (fun _ _ _ _ _ _ us hl=>el4 us hl fun _ _ _ _=>rfl) (fun vs H Q E h=>?_) (fun f cdv A outer s H vs Q E hr h=>?_)
  · obtain ⟨a,v1,v2,G,most,S,g,x1,x2,o,e,rfl,_⟩:=h
    rfl
  obtain ⟨a,v1,v2,G,most,S,g,x1,x2,o,e,rfl,⟨A,hA⟩,sm,r1,r2,ht,q⟩:=h
  obtain ⟨i,j,rfl,rfl,bi,bj,hg,ho,hnt,hre⟩:=J6Z ht
  cases r1
  cases r2
  have ok:=Z6R (B:=B) T
  refine ⟨_,(Z0c (Z0u (i:=4) sc_Walk_two.nd rfl (Or.inl rfl) (Z0J h_two_told hr (by decide) rfl (Z0a (pvF 1) (Z0a (pvF 2) (Z0a (pvF 3) Z0b)))))
    (Z0e (Z0H (Z0p Z1a (Z0L (r:=Z2o K) Z0W (pvF 4) Z0h (fun _ _=>rfl)) Z0f (Z0x _)) (Z0e (Z0B (Z0r (Z0i (pvF 0) rfl) T.Waits.cl h_Waits_know hr (by decide) (Z0a (Z0L (r:=Z2o K) Z0W (pvF 4) Z0h (fun _ _=>rfl)) Z0b)))) (Z0e (Z0D (pvF 0) (pvF 4) rfl))))),?_⟩
  refine seq2 fun uz1 huz1=>?_
  walk_at "rd"
  refine ⟨g,i,j,rfl,bi,bj,hg,fun p H1 h1 s1 e1=>?_⟩
  subst huz1
  walk_at "rd"
  have hA1:=hA.same ok s1
  have lk:A.ks.length=S.known.length:=by rw [hA.rk.len,List.length_reverse]
  have smk:=sm.k
  cases o with
  | none=>
    obtain ⟨hl2,hh⟩:=hre rfl
    rw [ho] at e1
    obtain ⟨e0,e1',rfl⟩:∃ a b,e=[a,b]:=by
      match e,hl2 with
      | [a,b],_=>exact ⟨a,b,rfl⟩
    cases hh
    refine ⟨_,SqT.of e1,_,ix0,rfl,?_⟩
    refine ite2 (fun z=>absurd (V.str.inj z) (by decide)) (fun _=>?_)
    refine ⟨Ck,A.dx,_,hA1.wk,T.Walk.cl,T.n_Walk_ended,Nat.lt_of_sub_eq_succ rfl,?_⟩
    have re:REn K H1 (.ref p) (some ["refused",e1']):=.some (.tup (SqT.of e1) (Z7v _))
    have hA2:=hA1.put (cn:=S.counted) (wi:=S.within) ok re
    exact q _ ((Kw.of s1).trans (Kw.ins _ hA1.wk)) ⟨_,hA2⟩
  | some y=>
    have key:∃ u,twoO g i j=[.str "value",u]∧RV H1 u y:=by
      cases y with
      | int n=>exact ⟨_,ho,.int n⟩
      | bl n=>exact ⟨_,ho,.bl n⟩
      | thing n=>exact absurd rfl (hnt n)
    obtain ⟨u,hu,ru⟩:=key
    rw [hu] at e1
    refine ⟨_,SqT.of e1,_,ix0,rfl,?_⟩
    refine ite2 (fun _=>?_) (fun z=>absurd rfl z)
    refine ⟨Ck,A.dx,_,hA1.wk,T.Walk.cl,T.n_Walk_waits,_,rfl,_,rfl,A.dw,_,hA1.wt,rfl,_,SqT.of e1,u,ix1,?_⟩
    refine ⟨A.wA,A.dw,A.wl,A.kl,A.ks,u,rfl,hA1.wt,hA1.hk,by omega,fun _ _=>?_⟩
    exact q _ ((Kw.of s1).trans (Kw.lst _ hA1.hk)) ⟨_,hA1.know1 ok ru⟩
end
theorem Z5k {K:W.Frag} {H:Hp} {pt D:Addr} {ps:List (Str×Str)} {Q:VK} (hp:RT K H (.ref pt) (Z2r ps)) (hl:ps.length≤100) (hD:H D=none) (q:∀ H',Same H H'→H' D=some (.lst ((ps.map Prod.fst).map V.str))→Q (.ref D) H') :
    Z5a (Itt K pt) (Z7c K 2 (Z8D (Z4Q 0) (Z8D (Z4Q 1) gNil))) Z3O (Z8S 0) D Q [none,none] (upd H D (.lst [])):=by
  obtain ⟨a,xs,e,hq,hxs⟩:=hp.tup_inv
  cases e
  have lx:xs.length=ps.length:=by rw [hxs.length,List.length_map]
  refine Z6Z (ys:=xs) (fun σ=>∃ o1 o2,σ=[o1,o2]) (fun j v H=>∃ t,ps[j]?=some t∧v=.str t.1) (fun _ _ _ _ h _=>h) ⟨_,_,rfl⟩ hD (by rw [sizeLine_eq]; omega) (fun H1 s=>SqT.same hq s) (fun i y σ hy hS H2 K' s k=>?_) (fun vs Hc Sc hv lv hR=>?_)
  · obtain ⟨o1,o2,rfl⟩:=hS
    obtain ⟨t,ht,hr'⟩:=hxs.at hy
    rw [List.getElem?_map] at ht
    obtain ⟨t,ht2,rfl⟩:=Option.map_eq_some_iff.mp ht
    obtain ⟨b,zs,rfl,hz,hzs⟩:=hr'.tup_inv
    obtain ⟨v1,r1,rfl,g1,hzs⟩:=hzs.inv
    obtain ⟨v2,r2,rfl,g2,hzs⟩:=hzs.inv
    cases hzs.nil_inv
    cases g1.str_inv
    walk_at "rd"
    refine ⟨_,SqT.same hz s,rfl,⟨_,_,rfl,⟨_,_,rfl,?_⟩⟩⟩
    exact ⟨rfl,k _ _ _ ⟨_,_,rfl⟩ (Same.refl _) ⟨t,ht2,rfl⟩⟩
  · have ev:=Z3K (g:=fun t:Str×Str=>V.str t.1) (lv.trans lx) hR
    refine q Hc Sc ?_
    rw [hv,ev,List.map_map]; rfl
section
variable {Cl Cs Cq Ck Ct Cw Ch Cp:Addr} {P:Program} {w:World} {K:W.Frag} {mg:Str→Option Value} {base:Heap} {B:Hp}
theorem J4n (T:Txt K mg Cl Cs Cq Ck Ct Cw Ch Cp) (h_Hall_found_word:HasM P w K mg base 3 Cl "found_word" ["self","house","word"] (Z6E (CS.mk Ct Cw Ch Cp Cl Cs Cq Ck B) K)) (h_Hall_found:HasM P w K mg base 2 Cl "found" ["self","house","word"] (Z5I (CS.mk Ct Cw Ch Cp Cl Cs Cq Ck B) K)) (h_Scope___init__:HasM P w K mg base 1 Cs "__init__" ["self","house","own_thing","bound"] (Z4u (CS.mk Ct Cw Ch Cp Cl Cs Cq Ck B) K)) (h_Waits_wait:HasM P w K mg base 1 Cq "wait" ["self","step","term","scope"] (Z3Z (CS.mk Ct Cw Ch Cp Cl Cs Cq Ck B) K)):HasM P w K mg base 4 Ck "call" ["self","house","word","thing","values"] (J0z (CS.mk Ct Cw Ch Cp Cl Cs Cq Ck B) K):=by
  refine HasM.of T.m_Walk_call sc_Walk_call (fun _ _ _ _ _ _ us hl=>el5 us hl fun _ _ _ _ _=>rfl) (fun vs H Q E h=>?_) (fun f cdv A outer s H vs Q E hr h=>?_)
  · obtain ⟨a,l,tv,G,most,S,S',h,wd,x,us,xs,rfl,_⟩:=h
    rfl
  obtain ⟨a,l,tv,G,most,S,S',h,wd,x,us,xs,rfl,⟨A,hA⟩,sm,rx,hl,hus,hc,q⟩:=h
  have ok:=Z6R (B:=B) T
  refine ⟨_,(Z0c (Z0H (Z0p J7s (Z0i (pvF 0) rfl) (Z0i (pvF 0) rfl) (Z0x _)) (Z0c (Z0D (pvF 0) (Z0k (Z0a Z0f Z0b)) rfl)
    (Z0e Z9y)) Z0A)
    (Z0c (Z3V (pvF 0) Z0h J0D)
    (Z0c (Z0H (Z0p J7s (Z0i (pvF 0) rfl) (J3y T.c_MOST_WITHIN rfl) (Z0x _)) (Z0c (Z0D (pvF 0) (Z0k (Z0a Z0f Z0b)) rfl)
    (Z0e Z9y)) Z0A)
    (Z0c (Z3V (pvF 0) Z0h J0D)
    (Z0c (Z0u (i:=5) sc_Walk_call.nd rfl (Or.inl rfl) (Z0r (Z0i (pvF 0) rfl) T.Hall.cl h_Hall_found_word hr (by decide) (Z0a (pvF 1) (Z0a (pvF 2) Z0b))))
    (Z0c (Z0u (i:=6) sc_Walk_call.nd rfl (Or.inl rfl) (J1G rfl rfl rfl T.z_dict T.z_zip (Z0a (Z2f rfl (BlockOk.plain (N:=["name","kind"]) rfl (by decide +kernel) (by decide +kernel) (by decide +kernel)) (Z2S (Z0i (pvF 5) rfl))
          (fun C fp s H=>(show PG _ _ (Z7c K 2 _) from Z2v (n:=2) rfl (Z0w (Z0s (i:=0) (show (["name","kind"]:List Str).Nodup by decide +kernel) rfl (Or.inl rfl)) (Z0w (Z0s (i:=1) (show (["name","kind"]:List Str).Nodup by decide +kernel) rfl (Or.inl rfl)) Z2x))))
          (fun C fp s H=>(pvF 0))) (Z0a (pvF 4) Z0b))))
    (Z0c (Z0u (i:=7) sc_Walk_call.nd rfl (Or.inl rfl) (Z3C T.Scope h_Scope___init__ hr (by decide) rfl (Z0a (Z0L (r:=Z2o K) Z0W (Z0r (Z0i (pvF 0) rfl) T.Hall.cl h_Hall_found hr (by decide) (Z0a (pvF 1) (Z0a (pvF 2) Z0b))) Z0h (fun _ _=>rfl)) (Z0a (pvF 3) (Z0a (pvF 6) Z0b)))))
    (Z0c (Z0B (Z0r (Z0i (pvF 0) rfl) T.Waits.cl h_Waits_wait hr (by decide) (Z0a Z0f (Z0a Z2e (Z0a Z2e Z0b)))))
    (Z0e (Z0B (Z0r (Z0i (pvF 0) rfl) T.Waits.cl h_Waits_wait hr (by decide) (Z0a Z0f (Z0a (Z0i (pvF 5) rfl) (Z0a (pvF 7) Z0b)))))))))))))),?_⟩
  refine seq9 fun uz8 huz8 uz7 huz7 uz6 huz6 uz5 huz5 uz4 huz4 uz3 huz3 uz2 huz2 uz1 huz1=>?_
  walk_at "rd"
  refine ⟨Ck,A.dx,_,hA.wk,T.Walk.cl,T.n_Walk_counted,_,rfl,Ck,A.dx,_,hA.wk,T.Walk.cl,T.n_Walk_most,_,rfl,_,rfl,_,rfl,?_⟩
  have dry:∀ {H1:Hp} {A1:Ad} {S1:Ws} (e:Str),WAd K (CS.mk Ct Cw Ch Cp Cl Cs Cq Ck B) G most H1 a A1 S1→Kw Ck H H1→(∀ H',Kw Ck H H'→WA K (CS.mk Ct Cw Ch Cp Cl Cs Cq Ck B) G most H' a { S1 with ended:=some [e] }→Q .non H')→New H1 (.tup [.str e]) fun p H2=>SFld K (Str.ofString "ended") a H2 fun C dx fs=>Q .non (upd H2 a (.ins C dx (putF (Str.ofString "ended") (.ref p) fs))):=by
    intro H1 A1 S1 e hA1 k1 q1
    refine New.of fun p H2 h2 s2 e2=>?_
    have hA2:=hA1.same ok s2
    refine ⟨Ck,A1.dx,_,hA2.wk,T.Walk.cl,T.n_Walk_ended,Nat.lt_of_sub_eq_succ rfl,?_⟩
    exact q1 _ (k1.trans ((Kw.of s2).trans (Kw.ins _ hA2.wk))) ⟨_,hA2.put (cn:=S1.counted) (wi:=S1.within) (en:=some [e]) ok (.some (.tup (SqT.of e2) (Z7v [e])))⟩
  cases hc with
  | dry h1=>
    refine ite2 (fun _=>?_) (fun z=>absurd (Int.ofNat_le.mpr h1) z)
    exact dry "dry" hA Kw.refl q
  | @deep W k m c w h1 h2=>
    refine ite2 (fun z=>absurd (Int.ofNat_le.mp z) (Nat.not_le.mpr h1)) (fun _=>?_)
    subst huz1
    walk_at "rd"
    refine ⟨Ck,A.dx,_,hA.wk,T.Walk.cl,T.n_Walk_counted,_,rfl,_,rfl,A.dx,_,hA.wk,Nat.lt_of_sub_eq_succ rfl,?_⟩
    have hA1:=hA.put (cn:=c+1) (wi:=w) ok hA.re
    have k1:Kw Ck H (upd H a (.ins Ck A.dx (fsW A.hl A.wA A.ml most (c+1) w A.ev))):=Kw.ins _ hA.wk
    show uz2 _ _ (upd H a (.ins Ck A.dx (fsW A.hl A.wA A.ml most (c+1) w A.ev)))
    have hA1':WAd K (CS.mk Ct Cw Ch Cp Cl Cs Cq Ck B) G most (upd H a (.ins Ck A.dx (fsW A.hl A.wA A.ml most (c+1) w A.ev))) a _ _:=hA1
    clear hA1
    generalize upd H a (.ins Ck A.dx (fsW A.hl A.wA A.ml most (c+1) w A.ev))=H1 at *
    subst huz2
    walk_at "rd"
    refine ⟨Ck,A.dx,_,hA1'.wk,T.Walk.cl,T.n_Walk_within,_,rfl,_,rfl,?_⟩
    refine ite2 (fun _=>?_) (fun z=>absurd (Int.ofNat_le.mpr h2) z)
    exact dry "deep" hA1' k1 q
  | @go W k m c w es h' i d h1 h2 hch hel hf hpl=>
    refine ite2 (fun z=>absurd (Int.ofNat_le.mp z) (Nat.not_le.mpr h1)) (fun _=>?_)
    subst huz1
    walk_at "rd"
    refine ⟨Ck,A.dx,_,hA.wk,T.Walk.cl,T.n_Walk_counted,_,rfl,_,rfl,A.dx,_,hA.wk,Nat.lt_of_sub_eq_succ rfl,?_⟩
    have hA1:=hA.put (cn:=c+1) (wi:=w) ok hA.re
    have k1:Kw Ck H (upd H a (.ins Ck A.dx (fsW A.hl A.wA A.ml most (c+1) w A.ev))):=Kw.ins _ hA.wk
    have hl1:upd H a (.ins Ck A.dx (fsW A.hl A.wA A.ml most (c+1) w A.ev)) l=some (.lst us):=by
      rw [Z0j (fun z=>by have:=hA.wk; rw [← z,hl] at this; cases this)]; exact hl
    show uz2 _ _ (upd H a (.ins Ck A.dx (fsW A.hl A.wA A.ml most (c+1) w A.ev)))
    have hA1':WAd K (CS.mk Ct Cw Ch Cp Cl Cs Cq Ck B) G most (upd H a (.ins Ck A.dx (fsW A.hl A.wA A.ml most (c+1) w A.ev))) a _ _:=hA1
    clear hA1
    generalize upd H a (.ins Ck A.dx (fsW A.hl A.wA A.ml most (c+1) w A.ev))=H1 at *
    subst huz2
    walk_at "rd"
    refine ⟨Ck,A.dx,_,hA1'.wk,T.Walk.cl,T.n_Walk_within,_,rfl,_,rfl,?_⟩
    refine ite2 (fun z=>absurd (Int.ofNat_le.mp z) (Nat.not_le.mpr h2)) (fun _=>?_)
    subst huz3
    walk_at "rd"
    refine ⟨Ck,A.dx,_,hA1'.wk,T.Walk.cl,T.n_Walk_within,_,rfl,_,rfl,A.dx,_,hA1'.wk,Nat.lt_of_sub_eq_succ rfl,?_⟩
    have hA2:=hA1'.put (cn:=c+1) (wi:=w+1) ok hA1'.re
    have k2:Kw Ck H (upd H1 a (.ins Ck A.dx (fsW A.hl A.wA A.ml most (c+1) (w+1) A.ev))):=k1.trans (Kw.ins _ hA1'.wk)
    have hl2:upd H1 a (.ins Ck A.dx (fsW A.hl A.wA A.ml most (c+1) (w+1) A.ev)) l=some (.lst us):=by
      rw [Z0j (fun z=>by have:=hA1'.wk; rw [← z,hl1] at this; cases this)]; exact hl1
    show uz4 _ _ (upd H1 a (.ins Ck A.dx (fsW A.hl A.wA A.ml most (c+1) (w+1) A.ev)))
    have hA2':WAd K (CS.mk Ct Cw Ch Cp Cl Cs Cq Ck B) G most (upd H1 a (.ins Ck A.dx (fsW A.hl A.wA A.ml most (c+1) (w+1) A.ev))) a A ⟨W,k,m,c+1,w+1,none⟩:=hA2
    clear hA2 hA1'
    generalize upd H1 a (.ins Ck A.dx (fsW A.hl A.wA A.ml most (c+1) (w+1) A.ev))=H2 at *
    subst huz4
    walk_at "rd"
    obtain ⟨dx,io,dd,kvs,ea,ed,gok,hlk⟩:=Z0Z hA2'.hl
    refine ⟨Ck,A.dx,_,hA2'.wk,T.Walk.cl,T.n_Walk_hall,_,rfl,_,rfl,dx,_,ea,rfl,?_⟩
    refine ⟨A.hl,h,wd,h',G,es,i,d,rfl,hA2'.hl,hch,hel,hf,fun fv H3 s3 hfv=>?_⟩
    have hA3:=hA2'.same ok s3
    subst huz5
    walk_at "rd"
    obtain ⟨fa,fdx,pt,bv,rfl,f1,f2,f3⟩:∃ fa fdx pt bv,fv=.ref fa∧H3 fa=some (.ins Cw fdx [("name",.str d.name),("params",.ref pt),("kind",.str d.kind),("body",bv)])∧RT K H3 (.ref pt) (Z2r d.params)∧TO K Ct H3 bv d.body:=by
      cases hfv with
      | mk a b c=>exact ⟨_,_,_,_,rfl,a,b,c⟩
    refine ⟨_,rfl,Cw,fdx,_,f1,T.Word.cl,T.n_Word_params,_,rfl,_,rfl,?_,fun D hD=>?_⟩
    · obtain ⟨_,_,e,hq,_⟩:=f2.tup_inv
      cases e; exact ⟨_,hq⟩
    refine Z5k f2 hpl hD fun H4 s4 e4=>?_
    refine ⟨D,rfl,_,SqL.of e4,_,SqL.of (s4 _ _ (s3 _ _ hl2)),fun bd H5 hb5 s5 e5=>?_⟩
    subst huz6
    walk_at "rd"
    have S35:=s4.trans s5
    have hA5:=hA3.same ok S35
    obtain ⟨dx5,io5,dd5,kvs5,ea5,_⟩:=Z0Z hA5.hl
    refine ⟨Ck,A.dx,_,hA5.wk,T.Walk.cl,T.n_Walk_hall,_,rfl,_,rfl,dx5,_,ea5,rfl,?_⟩
    refine ⟨A.hl,h,wd,h',G,es,i,d,rfl,hA5.hl,hch,hel,hf,fun p H6 s6 e6=>?_⟩
    refine ⟨_,rfl,_,SqT.of e6,_,ix0,fun x7 dx7 n1 n2 ne=>?_⟩
    have s7:=Z1z (C:=Cs) n1 n2 ne
    refine ⟨x7,dx7,bd,_,tv,_,rfl,Z0g,s7 _ _ (s6 _ _ e5),fun d8 H8 hd8 sx8 hx8 hbd8=>⟨rfl,?_⟩⟩
    have s8:Same H6 H8:=Z2g s7 sx8 n1
    have S38:Same H3 H8:=S35.trans (s6.trans s8)
    have hA8:=hA3.same ok S38
    have k8:Kw Ck H H8:=k2.trans ((Kw.of s3).trans (Kw.of S38))
    have sco:ScO (CS.mk Ct Cw Ch Cp Cl Cs Cq Ck B) H8 (.ref x7) ⟨some h',some x,Z2V [] ((d.params.map Prod.fst).zip xs)⟩:=.mk hx8 (.some (rx.kw k8)) hbd8 (J4b (hus.mono fun _ _ r=>r.kw k8))
    subst huz7
    walk_at "rd"
    have lw:A.ws.length=W.length:=by rw [hA.rw.len,List.length_reverse]
    have smw:W.length≤1000000:=sm.w
    refine ⟨Ck,A.dx,_,hA8.wk,T.Walk.cl,T.n_Walk_waits,_,rfl,_,rfl,A.dw,_,hA8.wt,rfl,?_⟩
    refine ⟨A.wA,A.dw,A.wl,A.kl,_,_,_,A.ws,rfl,hA8.wt,hA8.hw,by omega,fun t9 H9 h9 s9 e9=>?_⟩
    have hA9:=(hA8.same ok s9).push ok (.leave e9)
    have k9:=(Kw.of (C:=Ck) s9).trans (Kw.lst (.lst (A.ws++[.ref t9])) (s9 _ _ hA8.hw))
    generalize upd H9 A.wl (.lst (A.ws++[.ref t9]))=H10 at *
    subst huz8
    walk_at "rd"
    refine ⟨Ck,A.dx,_,hA9.wk,T.Walk.cl,T.n_Walk_waits,_,rfl,_,rfl,A.dw,_,hA9.wt,rfl,?_⟩
    refine ⟨Cw,fdx,_,(k9.i _ _ _ _ _ ok.word (S38 _ _ f1)),T.Word.cl,T.n_Word_body,_,rfl,?_⟩
    refine ⟨A.wA,A.dw,A.wl,A.kl,_,_,_,A.ws++[.ref t9],rfl,hA9.wt,hA9.hw,by rw [List.length_append]; show _+1 < _; omega,fun t11 H11 h11 s11 e11=>?_⟩
    have k11:=k9.trans (Kw.of s11)
    have hA11:=(hA9.same ok s11).push ok (.walk e11 (TO.kw ok.term ((Kw.of S38).trans k11) f3) (sco.kw ok k11))
    exact q _ (k8.trans (k11.trans (Kw.lst _ (s11 _ _ hA9.hw)))) ⟨_,hA11⟩
end
inductive Z8i (c:CS) (K:W.Frag) (vs:List V) (H:Hp) (Q:VK):Prop
  | mk (a:Addr) (tv sv:V) (G:Pg) (most:Nat) (S S':Ws) (t:Tm) (sc:Sc) (a1:vs=[.ref a,tv,sv]) (a2:WA K c G most H a S) (a3:Sm S) (a4:TO K c.term H tv t) (a5:ScO c H sv sc) (a6:Step G most { S with wait:=.walk t sc::S.wait } S') (a7:∀ H',Kw c.walk H H'→WA K c G most H' a S'→Q .non H'):Z8i c K vs H Q
def Z8x (c:CS) (K:W.Frag):Sp:=fun vs H Q _=>Z8i c K vs H Q
noncomputable def isNT:Fm→Bool
  | .number=>true | .truth=>true | _=>false
theorem inNT (f:Fm):inV (V.str f.s) [V.str (Str.ofString "number"),V.str (Str.ofString "truth")]=isNT f:=by cases f <;> decide +kernel
theorem isNm (f:Fm):V.str f.s=V.str (Str.ofString "name")→f=.name:=by cases f <;> first | exact fun _=>rfl | exact fun h=>absurd (V.str.inj h) (by decide +kernel)
theorem isSf (f:Fm):V.str f.s=V.str (Str.ofString "self")→f=.self:=by cases f <;> first | exact fun _=>rfl | exact fun h=>absurd (V.str.inj h) (by decide +kernel)
theorem J7A {f:Fm} (h:¬ leaf f):isNT f=false∧f≠.name∧f≠.self:=by
  refine ⟨?_,fun z=>h (by rw [z]; trivial),fun z=>h (by rw [z]; trivial)⟩
  cases f <;> first | rfl | exact absurd trivial h
theorem J9d {f:Fm} {l:Lb} (h:Z3n f l):¬ leaf f:=by
  cases f <;> first | exact fun z=>z | exact absurd h (fun z=>z)
theorem Z9B {c:CS} {H:Hp} {v:V} {s:Sc} (h:ScO c H v s):∃ a dx d ov kvs,v=.ref a∧H a=some (.ins c.scope dx [("house",oS s.house),("own_thing",ov),("bound",.ref d)])∧RO H ov s.own∧H d=some (.dK kvs)∧RB H kvs s.bound:=by
  cases h with
  | mk a b c d=>exact ⟨_,_,_,_,_,rfl,a,b,c,d⟩
section
variable {Cl Cs Cq Ck Ct Cw Ch Cp:Addr} {P:Program} {w:World} {K:W.Frag} {mg:Str→Option Value} {base:Heap} {B:Hp}
noncomputable def BI (K:W.Frag) (c:CS) (G:Pg) (most:Nat) (H:Hp) (a l:Addr) (tv sv:V) (us:List V) (W:List Wt) (k:List Vl) (m:List (Str×List Vl)) (cn wi:Nat) (ps:List Tm) (sc:Sc) (i:Nat) (σ:St) (H':Hp):Prop:=∃ o3,Kw c.walk H H'∧H' l=some (.lst us)∧(∃ A,WAd K c G most H' a A ⟨(ps.drop (ps.length - i)).map (Wt.walk · sc)++W,k,m,cn,wi,none⟩∧l≠A.wl)∧σ=[some (.ref a),some tv,some sv,o3]
theorem J2x (T:Txt K mg Cl Cs Cq Ck Ct Cw Ch Cp) (h_chooses:Has P w K mg base 1 "chooses" ["term"] (Z5e (CS.mk Ct Cw Ch Cp Cl Cs Cq Ck B) K)) (h_Term_parts:HasM P w K mg base 1 Ct "parts" ["self"] (Z3H Ct K)) (h_Waits_wait:HasM P w K mg base 1 Cq "wait" ["self","step","term","scope"] (Z3Z (CS.mk Ct Cw Ch Cp Cl Cs Cq Ck B) K)) (h_Waits_know:HasM P w K mg base 1 Cq "know" ["self","value"] (Z4d (CS.mk Ct Cw Ch Cp Cl Cs Cq Ck B) K)):HasM P w K mg base 2 Ck "begin" ["self","term","scope"] (Z8x (CS.mk Ct Cw Ch Cp Cl Cs Cq Ck B) K):=by
  refine HasM.of T.m_Walk_begin sc_Walk_begin (fun _ _ _ _ _ _ us hl=>el3 us hl fun _ _ _=>rfl) (fun vs H Q E h=>?_) (fun f cdv A outer s H vs Q E hr h=>?_)
  · obtain ⟨a,tv,sv,G,most,S,S',t,sc,rfl,_⟩:=h
    rfl
  obtain ⟨a,tv,sv,G,most,S,S',t,sc,rfl,⟨A,hA⟩,sm,ht,hs,hst,q⟩:=h
  have ok:=Z6R (B:=B) T
  obtain ⟨ta,tdx,inn,sh,us,ws,rfl,hta,hti,hus,_⟩:=ht.inv
  obtain ⟨sa,sdx,sd,ov,kvs,rfl,hsa,hov,hsd,hkv⟩:=Z9B hs
  refine ⟨_,(Z0e (Z0H (Z0p (r:=rIn K false) Z0U (Z0i (pvF 1) rfl) (Z0k (Z0a Z0f (Z0a Z0f Z0b))) (by with_unfolding_all rfl)) (Z0e (Z0B (Z0r (Z0i (pvF 0) rfl) T.Waits.cl h_Waits_know hr (by decide) (Z0a (Z0i (pvF 1) rfl) Z0b)))) (Z0e (Z0H (Z0p Z1a (Z0i (pvF 1) rfl) Z0f (Z0x _)) (Z0e (Z0B (Z0r (Z0i (pvF 0) rfl) T.Waits.cl h_Waits_know hr (by decide) (Z0a (Z1L (Z2T hr) (Z0i (pvF 2) rfl) (Z0i (pvF 1) rfl) (fun _ _=>rfl)) Z0b)))) (Z0e (Z0H (Z0p Z1a (Z0i (pvF 1) rfl) Z0f (Z0x _)) (Z0e (Z0B (Z0r (Z0i (pvF 0) rfl) T.Waits.cl h_Waits_know hr (by decide) (Z0a (Z0i (pvF 2) rfl) Z0b)))) (Z0e (Z0H (Z7K (Z0J h_chooses hr (by decide) rfl (Z0a (pvF 1) Z0b))) (Z0c (Z0B (Z0r (Z0i (pvF 0) rfl) T.Waits.cl h_Waits_wait hr (by decide) (Z0a Z0f (Z0a (pvF 1) (Z0a (pvF 2) Z0b)))))
    (Z0e (Z0B (Z0r (Z0i (pvF 0) rfl) T.Waits.cl h_Waits_wait hr (by decide) (Z0a Z0f (Z0a (Z0L (r:=Z1p K) Z0z (Z0Y (pvF 1) T.Term.cl h_Term_parts hr (by decide)) Z0h (fun _ _=>rfl)) (Z0a (pvF 2) Z0b))))))) (Z0c (Z0B (Z0r (Z0i (pvF 0) rfl) T.Waits.cl h_Waits_wait hr (by decide) (Z0a Z0f (Z0a (pvF 1) (Z0a (pvF 2) Z0b)))))
    (Z0e (Z3a PassesOwn.never rfl (J1v rfl T.z_reversed Z3w (Z0a (Z0Y (pvF 1) T.Term.cl h_Term_parts hr (by decide)) Z0b)) (Z0s (i:=3) sc_Walk_begin.nd rfl (Or.inl rfl)) (Z0e (Z0B (Z0r (Z0i (pvF 0) rfl) T.Waits.cl h_Waits_wait hr (by decide) (Z0a Z0f (Z0a (pvF 3) (Z0a (pvF 2) Z0b))))))))))))))))),?_⟩
  walk_at "rd"
  refine ⟨Ct,tdx,_,hta,T.Term.cl,T.n_Term_form,_,rfl,?_⟩
  refine New.of fun p H1 h1 s1 e1=>⟨_,.inr (SqT.of e1),rfl,rfl,?_⟩
  rw [inNT]
  have hA1:=hA.same ok s1
  have hta1:=s1 _ _ hta
  have lk:A.ks.length=S.known.length:=by rw [hA.rk.len,List.length_reverse]
  have smk:=sm.k
  have lw:A.ws.length=S.wait.length:=by rw [hA.rw.len,List.length_reverse]
  have smw:=sm.w
  have kn:∀ {v:V} {x:Vl},RV H1 v x→(∀ H',Kw Ck H H'→WA K (CS.mk Ct Cw Ch Cp Cl Cs Cq Ck B) G most H' a { S with known:=x::S.known }→Q .non H')→Z4d (CS.mk Ct Cw Ch Cp Cl Cs Cq Ck B) K [.ref A.wA,v] H1 (fun _ H1=>Q .non H1) E0:=fun r q'=>⟨A.wA,A.dw,A.wl,A.kl,A.ks,_,rfl,hA1.wt,hA1.hk,by omega,fun _ _=>q' _ ((Kw.of s1).trans (Kw.lst _ hA1.hk)) ⟨_,hA1.know1 ok r⟩⟩
  obtain ⟨W,k,m,cn,wi,en⟩:=S
  cases hst with
  | num=>
    refine ite2 (fun _=>?_) (fun z=>absurd rfl z)
    exact ⟨Ck,A.dx,_,hA1.wk,T.Walk.cl,T.n_Walk_waits,_,rfl,_,rfl,A.dw,_,hA1.wt,rfl,Ct,tdx,_,hta1,T.Term.cl,T.n_Term_label,_,rfl,kn (.int _) q⟩
  | tru=>
    refine ite2 (fun _=>?_) (fun z=>absurd rfl z)
    exact ⟨Ck,A.dx,_,hA1.wk,T.Walk.cl,T.n_Walk_waits,_,rfl,_,rfl,A.dw,_,hA1.wt,rfl,Ct,tdx,_,hta1,T.Term.cl,T.n_Term_label,_,rfl,kn (.bl _) q⟩
  | @name _ _ _ _ _ _ x v hg=>
    refine ite2 (fun z=>by cases z) (fun _=>?_)
    refine ⟨Ct,tdx,_,hta1,T.Term.cl,T.n_Term_form,_,rfl,rfl,ite2 (fun _=>?_) (fun z=>absurd rfl z)⟩
    obtain ⟨u,hu,ru⟩:=(RB.kw hkv (Kw.of (C:=Ck) s1)).get hg
    refine ⟨Ck,A.dx,_,hA1.wk,T.Walk.cl,T.n_Walk_waits,_,rfl,_,rfl,A.dw,_,hA1.wt,rfl,Cs,sdx,_,s1 _ _ hsa,T.Scope.cl,T.n_Scope_bound,_,rfl,Ct,tdx,_,hta1,T.Term.cl,T.n_Term_label,_,rfl,sd,rfl,u,?_,kn ru q⟩
    rw [← hu]
    exact DGet.k (k:=.inr x) (s1 _ _ hsd)
  | self ho=>
    refine ite2 (fun z=>by cases z) (fun _=>?_)
    refine ⟨Ct,tdx,_,hta1,T.Term.cl,T.n_Term_form,_,rfl,rfl,ite2 (fun z=>by cases isNm _ z) (fun _=>?_)⟩
    refine ⟨Ct,tdx,_,hta1,T.Term.cl,T.n_Term_form,_,rfl,rfl,ite2 (fun _=>?_) (fun z=>absurd rfl z)⟩
    rw [ho] at hov
    cases hov with
    | some ro=>exact ⟨Ck,A.dx,_,hA1.wk,T.Walk.cl,T.n_Walk_waits,_,rfl,_,rfl,A.dw,_,hA1.wt,rfl,Cs,sdx,_,s1 _ _ hsa,T.Scope.cl,T.n_Scope_own_thing,_,rfl,kn (ro.kw (Kw.of (C:=Ck) s1)) q⟩
  | @cho _ _ _ _ _ _ f l p0 ps hch hpl=>
    obtain ⟨g1,g2,g3⟩:=J7A (J9d hch)
    refine ite2 (fun z=>by rw [show (Tm.mk f l (p0::ps)).f=f from rfl,g1] at z; cases z) (fun _=>?_)
    refine ⟨Ct,tdx,_,hta1,T.Term.cl,T.n_Term_form,_,rfl,rfl,ite2 (fun z=>absurd (isNm _ z) g2) (fun _=>?_)⟩
    refine ⟨Ct,tdx,_,hta1,T.Term.cl,T.n_Term_form,_,rfl,rfl,ite2 (fun z=>absurd (isSf _ z) g3) (fun _=>?_)⟩
    refine ⟨.ref ta,.mk f l (p0::ps),rfl,ht.kp (Kp.of s1),fun H2 s2=>⟨_,rfl,?_⟩⟩
    rw [choB_iff.mpr hch]
    refine ite2 (fun _=>?_) (fun z=>absurd rfl z)
    have hA2:=hA1.same ok s2
    have s12:=s1.trans s2
    refine ⟨Ck,A.dx,_,hA2.wk,T.Walk.cl,T.n_Walk_waits,_,rfl,_,rfl,A.dw,_,hA2.wt,rfl,?_⟩
    refine ⟨A.wA,A.dw,A.wl,A.kl,_,_,_,A.ws,rfl,hA2.wt,hA2.hw,by omega,fun t9 H3 h3 s3 e3=>?_⟩
    have k3:Kw Ck H H3:=Kw.of (s12.trans s3)
    have hA4:=(hA2.same ok s3).push ok (.choose e3 (TO.kw ok.term k3 ht) (hs.kw ok k3))
    have k4:=k3.trans (Kw.lst (.lst (A.ws++[.ref t9])) (s3 _ _ hA2.hw))
    generalize upd H3 A.wl (.lst (A.ws++[.ref t9]))=H4 at *
    refine ⟨Ck,A.dx,_,hA4.wk,T.Walk.cl,T.n_Walk_waits,_,rfl,_,rfl,A.dw,_,hA4.wt,rfl,?_⟩
    have ht4:=TO.kw ok.term k4 ht
    obtain ⟨_,tdx4,_,_,us4,_,e,hta4,hti4,hus4,_⟩:=ht4.inv
    cases e
    refine ⟨tdx4,_,hta4,rfl,.ref ta,_,rfl,ht4,fun l5 us5 hl5 hu5=>?_⟩
    have s5:=Z0C hl5 (.lst us5)
    have e5:upd H4 l5 (.lst us5) l5=some (.lst us5):=Z0g
    generalize upd H4 l5 (.lst us5)=H5 at *
    cases hu5 with
    | @cons v vs _ _ hv hvs=>
      refine ⟨l5,rfl,_,SqL.of e5,v,ix0,?_⟩
      have hA5:=hA4.same ok s5
      refine ⟨A.wA,A.dw,A.wl,A.kl,_,_,_,A.ws++[.ref t9],rfl,hA5.wt,hA5.hw,by rw [List.length_append]; show _+1 < _; omega,fun t6 H6 h6 s6 e6=>?_⟩
      have s56:=s5.trans s6
      have k6:=k4.trans (Kw.of s56)
      have hA6:=(hA5.same ok s6).push ok (.walk e6 (hv.kp (Kp.of s56)) (hs.kw ok k6))
      exact q _ (k6.trans (Kw.lst _ (s6 _ _ hA5.hw))) ⟨_,hA6⟩
  | @fin _ _ _ _ _ _ f l ps hch hlf hpl=>
    obtain ⟨g1,g2,g3⟩:=J7A hlf
    refine ite2 (fun z=>by rw [show (Tm.mk f l ps).f=f from rfl,g1] at z; cases z) (fun _=>?_)
    refine ⟨Ct,tdx,_,hta1,T.Term.cl,T.n_Term_form,_,rfl,rfl,ite2 (fun z=>absurd (isNm _ z) g2) (fun _=>?_)⟩
    refine ⟨Ct,tdx,_,hta1,T.Term.cl,T.n_Term_form,_,rfl,rfl,ite2 (fun z=>absurd (isSf _ z) g3) (fun _=>?_)⟩
    refine ⟨.ref ta,.mk f l ps,rfl,ht.kp (Kp.of s1),fun H2 s2=>⟨_,rfl,?_⟩⟩
    refine ite2 (fun z=>absurd (choB_iff.mp z) hch) (fun _=>?_)
    have hA2:=hA1.same ok s2
    have s12:=s1.trans s2
    refine ⟨Ck,A.dx,_,hA2.wk,T.Walk.cl,T.n_Walk_waits,_,rfl,_,rfl,A.dw,_,hA2.wt,rfl,?_⟩
    refine ⟨A.wA,A.dw,A.wl,A.kl,_,_,_,A.ws,rfl,hA2.wt,hA2.hw,by omega,fun t9 H3 h3 s3 e3=>?_⟩
    have k3:Kw Ck H H3:=Kw.of (s12.trans s3)
    have hA4:=(hA2.same ok s3).push ok (.finish e3 (TO.kw ok.term k3 ht) (hs.kw ok k3))
    have k4:=k3.trans (Kw.lst (.lst (A.ws++[.ref t9])) (s3 _ _ hA2.hw))
    generalize upd H3 A.wl (.lst (A.ws++[.ref t9]))=H4 at *
    have ht4:=TO.kw ok.term k4 ht
    obtain ⟨_,tdx4,_,_,us4,_,e,hta4,hti4,hus4,_⟩:=ht4.inv
    cases e
    refine ⟨tdx4,_,hta4,rfl,.ref ta,_,rfl,ht4,fun l5 us5 hl5 hu5=>?_⟩
    have s5:=Z0C hl5 (.lst us5)
    have e5:upd H4 l5 (.lst us5) l5=some (.lst us5):=Z0g
    generalize upd H4 l5 (.lst us5)=H5 at *
    have hA5:=hA4.same ok s5
    have nl:l5≠A.wl:=Z3h hA4.hw hl5
    have lu:us5.length=ps.length:=hu5.length
    refine ⟨l5,rfl,us5,SqL.of e5,?_⟩
    refine Z5T us5 (BI K (CS.mk Ct Cw Ch Cp Cl Cs Cq Ck B) G most H4 a l5 (.ref ta) (.ref sa) us5 (.finish (.mk f l ps) sc::W) k m cn wi ps sc) ⟨none,Kw.of s5,e5,⟨{ A with ws:=A.ws++[.ref t9] },by rw [Nat.sub_zero,List.drop_of_length_le (Nat.le_refl _)]; exact hA5,nl⟩,rfl⟩ (fun i σ H' _ hI=>?_) (fun i y σ H' hy hI=>?_) (fun σ H' hI=>?_)
    · obtain ⟨o3,kk,hl',_⟩:=hI
      exact SqL.of hl'
    · obtain ⟨o3,kk,hl',⟨A',hA',nl'⟩,rfl⟩:=hI
      have hi:i < us5.length:=by
        have:=(List.getElem?_eq_some_iff.mp hy).1
        rwa [List.length_reverse] at this
      rw [List.getElem?_reverse hi] at hy
      obtain ⟨tt,htt,hto⟩:=hu5.at hy
      have lw':A'.ws.length≤10+(W.length+1):=by
        rw [hA'.rw.len,List.length_reverse,List.length_append,List.length_map,List.length_drop,List.length_cons]
        omega
      have smw':W.length≤1000000:=smw
      walk_at "rd"
      refine ⟨Ck,A'.dx,_,hA'.wk,T.Walk.cl,T.n_Walk_waits,_,rfl,_,rfl,A'.dw,_,hA'.wt,rfl,?_⟩
      refine ⟨A'.wA,A'.dw,A'.wl,A'.kl,_,_,_,A'.ws,rfl,hA'.wt,hA'.hw,by omega,fun t6 H6 h6 s6 e6=>?_⟩
      have k6:=kk.trans (Kw.of s6)
      have hA6:=(hA'.same ok s6).push ok (.walk e6 (TO.kw ok.term k6 hto) (hs.kw ok (k4.trans k6)))
      refine ⟨_,k6.trans (Kw.lst _ (s6 _ _ hA'.hw)),by rw [Z0j nl']; exact s6 _ _ hl',⟨{ A' with ws:=A'.ws++[.ref t6] },?_,nl'⟩,rfl⟩
      have ed:ps.drop (ps.length - (i+1))=tt::ps.drop (ps.length - i):=by
        have e1:us5.length - 1 - i=ps.length - (i+1):=by omega
        rw [e1] at htt
        have htt:ps[ps.length - (i+1)]?=some tt:=htt
        have e2:ps.length - i=ps.length - (i+1)+1:=by omega
        rw [e2,List.drop_eq_getElem_cons (List.getElem?_eq_some_iff.mp htt).1,(List.getElem?_eq_some_iff.mp htt).2]
      rw [ed]
      exact hA6
    · obtain ⟨o3,kk,hl',⟨A',hA',nl'⟩,rfl⟩:=hI
      rw [lu,Nat.sub_self,List.drop_zero] at hA'
      exact q _ (k4.trans kk) ⟨A',hA'⟩
end
inductive Z6m (c:CS) (K:W.Frag) (vs:List V) (H:Hp) (Q:VK):Prop
  | mk (a:Addr) (tv sv:V) (G:Pg) (most:Nat) (S S':Ws) (t:Tm) (sc:Sc) (a1:vs=[.ref a,tv,sv]) (a2:WA K c G most H a S) (a3:Sm S) (a4:TO K c.term H tv t) (a5:ScO c H sv sc) (a6:Step G most { S with wait:=.choose t sc::S.wait } S') (a7:∀ H',Kw c.walk H H'→WA K c G most H' a S'→Q .non H'):Z6m c K vs H Q
def Z6Q (c:CS) (K:W.Frag):Sp:=fun vs H Q _=>Z6m c K vs H Q
theorem isLt (f:Fm):V.str f.s=V.str (Str.ofString "let")→f=.lt:=by cases f <;> first | exact fun _=>rfl | exact fun h=>absurd (V.str.inj h) (by decide +kernel)
theorem isIf (f:Fm):V.str f.s=V.str (Str.ofString "if")→f=.iff:=by cases f <;> first | exact fun _=>rfl | exact fun h=>absurd (V.str.inj h) (by decide +kernel)
theorem ix2' {α:Type} {x y z:α} {xs:List α}:atI (x::y::z::xs) 2=some z:=Z0F (j:=2) rfl
section
variable {Cl Cs Cq Ck Ct Cw Ch Cp:Addr} {P:Program} {w:World} {K:W.Frag} {mg:Str→Option Value} {base:Heap} {B:Hp}
theorem J0U (T:Txt K mg Cl Cs Cq Ck Ct Cw Ch Cp) (h_Term_parts:HasM P w K mg base 1 Ct "parts" ["self"] (Z3H Ct K)) (h_Scope_binding:HasM P w K mg base 3 Cs "binding" ["self","name","value"] (J0e (CS.mk Ct Cw Ch Cp Cl Cs Cq Ck B) K)) (h_Waits_wait:HasM P w K mg base 1 Cq "wait" ["self","step","term","scope"] (Z3Z (CS.mk Ct Cw Ch Cp Cl Cs Cq Ck B) K)) (h_Waits_take_value:HasM P w K mg base 1 Cq "take_value" ["self"] (J0w (CS.mk Ct Cw Ch Cp Cl Cs Cq Ck B) K)):HasM P w K mg base 4 Ck "choose" ["self","term","scope"] (Z6Q (CS.mk Ct Cw Ch Cp Cl Cs Cq Ck B) K):=by
  refine HasM.of T.m_Walk_choose sc_Walk_choose (fun _ _ _ _ _ _ us hl=>el3 us hl fun _ _ _=>rfl) (fun vs H Q E h=>?_) (fun f cdv A outer s H vs Q E hr h=>?_)
  · obtain ⟨a,tv,sv,G,most,S,S',t,sc,rfl,_⟩:=h
    rfl
  obtain ⟨a,tv,sv,G,most,S,S',t,sc,rfl,⟨A,hA⟩,sm,ht,hs,hst,q⟩:=h
  have ok:=Z6R (B:=B) T
  have lw:A.ws.length=S.wait.length:=by rw [hA.rw.len,List.length_reverse]
  have smw:=sm.w
  obtain ⟨W,kk,m,cn,wi,en⟩:=S
  obtain ⟨y,k,rfl⟩:∃ y k,kk=y::k:=by cases hst <;> exact ⟨_,_,rfl⟩
  have rk:=hA.rk
  rw [show (⟨W,y::k,m,cn,wi,en⟩:Ws).known.reverse=k.reverse++[y] from List.reverse_cons] at rk
  obtain ⟨ks,u,ek,rk1,ru⟩:=rk.last
  have hk:=hA.hk
  rw [ek] at hk
  refine ⟨_,(Z0c (Z0u (i:=3) sc_Walk_choose.nd rfl (Or.inl rfl) (Z0Y (Z0i (pvF 0) rfl) T.Waits.cl h_Waits_take_value hr (by decide)))
    (Z0c (Z0u (i:=4) sc_Walk_choose.nd rfl (Or.inl rfl) (Z0Y (pvF 1) T.Term.cl h_Term_parts hr (by decide)))
    (Z0e (Z0H (Z0p Z1a (Z0i (pvF 1) rfl) Z0f (Z0x _)) (Z0e (Z0B (Z0r (Z0i (pvF 0) rfl) T.Waits.cl h_Waits_wait hr (by decide) (Z0a Z0f (Z0a (Z0L (r:=Z1p K) Z0z (pvF 4) Z0h (fun _ _=>rfl)) (Z0a (Z0r (pvF 2) T.Scope.cl h_Scope_binding hr (by decide) (Z0a (Z0i (pvF 1) rfl) (Z0a (pvF 3) Z0b))) Z0b)))))) (Z0e (Z0H (PW.pt (Z8a (Z0p Z1a (Z0i (pvF 1) rfl) Z0f (Z0x _)) (Z5G (J3K (Z7K (pvF 3)))))) (Z0e (Z0B (Z0r (Z0i (pvF 0) rfl) T.Waits.cl h_Waits_wait hr (by decide) (Z0a Z0f (Z0a (Z0L (r:=Z1p K) Z0z (pvF 4) Z0h (fun _ _=>rfl)) (Z0a (pvF 2) Z0b)))))) (Z0e (Z0B (Z0r (Z0i (pvF 0) rfl) T.Waits.cl h_Waits_wait hr (by decide) (Z0a Z0f (Z0a (Z0L (r:=Z1p K) Z0z (pvF 4) Z0h (fun _ _=>rfl)) (Z0a (pvF 2) Z0b)))))))))))),?_⟩
  refine seq3 fun uz2 huz2 uz1 huz1=>?_
  walk_at "rd"
  refine ⟨Ck,A.dx,_,hA.wk,T.Walk.cl,T.n_Walk_waits,_,rfl,_,rfl,A.dw,_,hA.wt,rfl,?_⟩
  refine ⟨A.wA,A.dw,A.wl,A.kl,ks,u,rfl,hA.wt,hk,fun u' eu=>?_⟩
  subst eu
  have hA1:=hA.know ok (ks:=ks) (kn:=k) rk1
  have k1:Kw Ck H (upd H A.kl (.lst ks)):=Kw.lst _ hA.hk
  generalize upd H A.kl (.lst ks)=H1 at *
  subst huz1
  walk_at "rd"
  have ht1:=TO.kw ok.term k1 ht
  obtain ⟨ta,tdx,inn,sh,us,ws,rfl,hta,hti,hus,_⟩:=ht1.inv
  refine ⟨_,rfl,tdx,_,hta,rfl,.ref ta,t,rfl,ht1,fun l2 us2 hl2 hu2=>?_⟩
  have s2:=Z0C hl2 (.lst us2)
  have e2:upd H1 l2 (.lst us2) l2=some (.lst us2):=Z0g
  generalize upd H1 l2 (.lst us2)=H2 at *
  have hA2:=hA1.same ok s2
  have hta2:=s2 _ _ hta
  have k2:=k1.trans (Kw.of (C:=Ck) s2)
  have hs2:=hs.kw ok k2
  have ru2:=ru.kw k2
  subst huz2
  walk_at "rd"
  have go:∀ {v sv:V} {t:Tm} {sc:Sc} {H3:Hp},Same H2 H3→TO K Ct H2 v t→ScO (CS.mk Ct Cw Ch Cp Cl Cs Cq Ck B) H3 sv sc→(∀ H',Kw Ck H H'→WA K (CS.mk Ct Cw Ch Cp Cl Cs Cq Ck B) G most H' a ⟨.walk t sc::W,k,m,cn,wi,en⟩→Q .non H')→Z3Z (CS.mk Ct Cw Ch Cp Cl Cs Cq Ck B) K [.ref A.wA,.str (Str.ofString "walk"),v,sv] H3 (fun _ H1=>Q .non H1) E0:=by
    intro v sv t sc H3 s3 hv hsv q'
    have hA3:=hA2.same ok s3
    refine ⟨A.wA,A.dw,A.wl,A.kl,_,_,_,A.ws,rfl,hA3.wt,hA3.hw,by omega,fun t6 H6 h6 s6 e6=>?_⟩
    have hA6:=(hA3.same ok s6).push ok (.walk e6 (hv.kp (Kp.of (s3.trans s6))) (hsv.kw ok (Kw.of s6)))
    exact q' _ (k2.trans ((Kw.of (s3.trans s6)).trans (Kw.lst _ (s6 _ _ hA3.hw)))) ⟨_,hA6⟩
  refine ⟨Ct,tdx,_,hta2,T.Term.cl,T.n_Term_form,_,rfl,rfl,?_⟩
  cases hst with
  | @lt _ _ _ _ _ _ x p q0 v hbl=>
    refine ite2 (fun _=>?_) (fun z=>absurd rfl z)
    have hu3:TOs K Ct H2 us2 [p,q0]:=hu2.kp (Kp.of s2)
    cases hu3 with
    | cons hv1 hu3=>cases hu3 with
      | @cons v2 _ _ _ hv2 hu3=>
    cases hu3
    obtain ⟨sa,sdx,sd,ov,kvs,rfl,hsa,hov,hsd,hkv⟩:=Z9B hs2
    refine ⟨Ck,A.dx,_,hA2.wk,T.Walk.cl,T.n_Walk_waits,_,rfl,_,rfl,A.dw,_,hA2.wt,rfl,_,SqL.of e2,v2,ix1,sa,rfl,sdx,_,hsa,rfl,Ct,tdx,_,hta2,T.Term.cl,T.n_Term_label,_,rfl,?_⟩
    exact ⟨sa,x,u',sc,_,rfl,hs2,hbl,ru2,fun u3 H3 s3 hsc=>go s3 hv2 hsc q⟩
  | @iff _ _ _ _ _ _ p q0 r0 d=>
    refine ite2 (fun z=>by cases isLt _ z) (fun _=>?_)
    refine ⟨Ct,tdx,_,hta2,T.Term.cl,T.n_Term_form,_,rfl,rfl,ite2 (fun _=>?_) (fun z=>absurd rfl z)⟩
    have hu3:TOs K Ct H2 us2 [p,q0,r0]:=hu2.kp (Kp.of s2)
    cases hu3 with
    | cons hv1 hu3=>cases hu3 with
      | @cons v2 _ _ _ hv2 hu3=>cases hu3 with
        | @cons v3 _ _ _ hv3 hu3=>
    cases hu3
    cases ru2
    refine ⟨_,rfl,?_⟩
    cases d with
    | false=>
      refine ite2 (fun _=>?_) (fun z=>absurd rfl z)
      exact ⟨Ck,A.dx,_,hA2.wk,T.Walk.cl,T.n_Walk_waits,_,rfl,_,rfl,A.dw,_,hA2.wt,rfl,_,SqL.of e2,v3,ix2',go (Same.refl _) hv3 hs2 q⟩
    | true=>
      refine ite2 (fun z=>by cases z) (fun _=>?_)
      exact ⟨Ck,A.dx,_,hA2.wk,T.Walk.cl,T.n_Walk_waits,_,rfl,_,rfl,A.dw,_,hA2.wt,rfl,_,SqL.of e2,v2,ix1,go (Same.refl _) hv2 hs2 q⟩
  | @seq _ _ _ _ _ _ p q0 v=>
    refine ite2 (fun z=>by cases isLt _ z) (fun _=>?_)
    refine ⟨Ct,tdx,_,hta2,T.Term.cl,T.n_Term_form,_,rfl,rfl,ite2 (fun z=>by cases isIf _ z) (fun _=>?_)⟩
    have hu3:TOs K Ct H2 us2 [p,q0]:=hu2.kp (Kp.of s2)
    cases hu3 with
    | cons hv1 hu3=>cases hu3 with
      | @cons v2 _ _ _ hv2 hu3=>
    cases hu3
    exact ⟨Ck,A.dx,_,hA2.wk,T.Walk.cl,T.n_Walk_waits,_,rfl,_,rfl,A.dw,_,hA2.wt,rfl,_,SqL.of e2,v2,ix1,go (Same.refl _) hv2 hs2 q⟩
end
inductive Z6T (c:CS) (K:W.Frag) (vs:List V) (H:Hp) (Q:VK):Prop
  | mk (a:Addr) (tv sv:V) (G:Pg) (most:Nat) (S S':Ws) (t:Tm) (sc:Sc) (a1:vs=[.ref a,tv,sv]) (a2:WA K c G most H a S) (a3:Sm S) (a4:G.houses.length≤100) (a5:TO K c.term H tv t) (a6:ScO c H sv sc) (a7:Step G most { S with wait:=.finish t sc::S.wait } S') (a8:∀ H',Kw c.walk H H'→WA K c G most H' a S'→Q .non H'):Z6T c K vs H Q
def Z6U (c:CS) (K:W.Frag):Sp:=fun vs H Q _=>Z6T c K vs H Q
theorem isF1 (f:Fm):V.str f.s=V.str (Str.ofString "not")→f=.nt:=by cases f <;> first | exact fun _=>rfl | exact fun h=>absurd (V.str.inj h) (by decide +kernel)
theorem isF2 (f:Fm):V.str f.s=V.str (Str.ofString "two")→f=.two:=by cases f <;> first | exact fun _=>rfl | exact fun h=>absurd (V.str.inj h) (by decide +kernel)
theorem isF3 (f:Fm):V.str f.s=V.str (Str.ofString "new")→f=.new:=by cases f <;> first | exact fun _=>rfl | exact fun h=>absurd (V.str.inj h) (by decide +kernel)
theorem isF4 (f:Fm):V.str f.s=V.str (Str.ofString "field")→f=.field:=by cases f <;> first | exact fun _=>rfl | exact fun h=>absurd (V.str.inj h) (by decide +kernel)
theorem isF5 (f:Fm):V.str f.s=V.str (Str.ofString "set")→f=.set:=by cases f <;> first | exact fun _=>rfl | exact fun h=>absurd (V.str.inj h) (by decide +kernel)
theorem isF6 (f:Fm):V.str f.s=V.str (Str.ofString "call")→f=.call:=by cases f <;> first | exact fun _=>rfl | exact fun h=>absurd (V.str.inj h) (by decide +kernel)
theorem J2e {G:Pg} {most:Nat} {S S':Ws} {t:Tm} {sc:Sc} (h:Step G most { S with wait:=.finish t sc::S.wait } S'):∃ (vs k:List Vl),S.known=vs.reverse++k∧vs.length=t.ps.length∧vs.length≤10∧S.ended=none:=by
  obtain ⟨W,kk,m,cn,wi,en⟩:=S
  cases h with
  | @two _ _ _ _ _ _ _ _ _ a b=>exact ⟨[a,b],_,rfl,rfl,by simp,rfl⟩
  | @refuse _ _ _ _ _ _ _ _ _ a b=>exact ⟨[a,b],_,rfl,rfl,by simp,rfl⟩
  | new h1 h2=>exact ⟨_,_,rfl,h1,by omega,rfl⟩
  | field _ _ _=>exact ⟨[.thing _],_,rfl,rfl,by simp,rfl⟩
  | @set _ _ _ _ _ _ _ _ _ n _ _ _ v=>exact ⟨[.thing n,v],_,rfl,rfl,by simp,rfl⟩
  | @call _ k0 _ _ _ _ _ ps vs n _ _ _ h1 h2 _ _=>
    refine ⟨.thing n::vs,k0,?_,h1,by simp; omega,rfl⟩
    rw [List.reverse_cons,List.append_assoc]; rfl
  | elder h1 h2 _ _ _ _ _=>exact ⟨_,_,rfl,h1,by omega,rfl⟩
theorem Z1u {k k':List Vl} {vs vs':List Vl} (h:vs.reverse++k=vs'.reverse++k') (l:vs.length=vs'.length):vs=vs'∧k=k':=by
  have:=List.append_inj h (by simp [l])
  exact ⟨List.reverse_inj.mp this.1,this.2⟩
theorem J1H {α β:Type} {R:α→β→Prop} {us:List α} {a:β} {bs:List β} (h:A2 R us (a::bs)):∃ v r,us=v::r∧R v a∧A2 R r bs:=by
  cases h with
  | cons x y=>exact ⟨_,_,rfl,x,y⟩
theorem J0x {α β:Type} {R:α→β→Prop} {us:List α} {a b:β} (h:A2 R us [a,b]):∃ v1,R v1 a∧∃ v2,R v2 b∧us=[v1,v2]:=by
  obtain ⟨v1,r,rfl,r1,h⟩:=J1H h
  obtain ⟨v2,rfl,r2⟩:=h.one
  exact ⟨v1,r1,v2,r2,rfl⟩
theorem J5o {n j:Nat} (h:j < n):ixN n (j:Int)=some j:=by
  unfold ixN
  simp
  omega
section
variable {Cl Cs Cq Ck Ct Cw Ch Cp:Addr} {P:Program} {w:World} {K:W.Frag} {mg:Str→Option Value} {base:Heap} {B:Hp}
theorem J0V (T:Txt K mg Cl Cs Cq Ck Ct Cw Ch Cp) (h_Term_parts:HasM P w K mg base 1 Ct "parts" ["self"] (Z3H Ct K)) (h_Waits_know:HasM P w K mg base 1 Cq "know" ["self","value"] (Z4d (CS.mk Ct Cw Ch Cp Cl Cs Cq Ck B) K)) (h_Waits_take_values:HasM P w K mg base 1 Cq "take_values" ["self","many"] (J1P (CS.mk Ct Cw Ch Cp Cl Cs Cq Ck B) K))
    (h_Walk_two:HasM P w K mg base 3 Ck "two" ["self","sign","one","other"] (J4e (CS.mk Ct Cw Ch Cp Cl Cs Cq Ck B) K)) (h_Walk_call:HasM P w K mg base 4 Ck "call" ["self","house","word","thing","values"] (J0z (CS.mk Ct Cw Ch Cp Cl Cs Cq Ck B) K)) (h_Walk_house_of:HasM P w K mg base 1 Ck "house_of" ["self","thing"] (Z7H (CS.mk Ct Cw Ch Cp Cl Cs Cq Ck B) K)) (h_Walk_inner_of:HasM P w K mg base 1 Ck "inner_of" ["self","thing"] (J3u (CS.mk Ct Cw Ch Cp Cl Cs Cq Ck B) K))
    (h_Walk_place_in:HasM P w K mg base 4 Ck "place_in" ["self","thing","field"] (J1L (CS.mk Ct Cw Ch Cp Cl Cs Cq Ck B) K)) (h_Hall_elders:HasM P w K mg base 1 Cl "elders" ["self","house"] (Z3J (CS.mk Ct Cw Ch Cp Cl Cs Cq Ck B) K)):HasM P w K mg base 5 Ck "finish" ["self","term","scope"] (Z6U (CS.mk Ct Cw Ch Cp Cl Cs Cq Ck B) K):=by
  refine HasM.of T.m_Walk_finish sc_Walk_finish (fun _ _ _ _ _ _ us hl=>el3 us hl fun _ _ _=>rfl) (fun vs H Q E h=>?_) (fun f cdv A outer s H vs Q E hr h=>?_)
  · obtain ⟨a,tv,sv,G,most,S,S',t,sc,rfl,_⟩:=h
    rfl
  obtain ⟨a,tv,sv,G,most,S,S',t,sc,rfl,⟨A,hA⟩,sm,hgl,ht,hs,hst,q⟩:=h
  have ok:=Z6R (B:=B) T
  have lk:A.ks.length=S.known.length:=by rw [hA.rk.len,List.length_reverse]
  have lm:A.mz.length=S.made.length:=hA.rm.len
  have smk:=sm.k
  have smm:=sm.m
  obtain ⟨xs,k,ek,lx,lx2,en⟩:=J2e hst
  have rk:=hA.rk
  rw [ek,List.reverse_append,List.reverse_reverse] at rk
  obtain ⟨ks,us,eks,rk1,rk2⟩:=rk.split
  have hk:=hA.hk
  rw [eks] at hk
  have lu:us.length=xs.length:=rk2.len
  refine ⟨_,(Z0c (Z0u (i:=3) sc_Walk_finish.nd rfl (Or.inl rfl) (Z0r (Z0i (pvF 0) rfl) T.Waits.cl h_Waits_take_values hr (by decide) (Z0a (Z1r Z2Z rfl T.z_len J1k (Z0a (Z0Y (pvF 1) T.Term.cl h_Term_parts hr (by decide)) Z0b)) Z0b)))
    (Z0e (Z0H (Z0p Z1a (Z0i (pvF 1) rfl) Z0f (Z0x _)) (Z0e (Z0B (Z0r (Z0i (pvF 0) rfl) T.Waits.cl h_Waits_know hr (by decide) (Z0a (J7r (Z0L (r:=Z1p K) Z0z (pvF 3) Z0h (fun _ _=>rfl))) Z0b)))) (Z0e (Z0H (Z0p Z1a (Z0i (pvF 1) rfl) Z0f (Z0x _)) (Z0e (Z0B (Z0r (pvF 0) T.Walk.cl h_Walk_two hr (by decide) (Z0a (Z0i (pvF 1) rfl) (Z0a (Z0L (r:=Z1p K) Z0z (pvF 3) Z0h (fun _ _=>rfl)) (Z0a (Z0L (r:=Z1p K) Z0z (pvF 3) Z0h (fun _ _=>rfl)) Z0b)))))) (Z0e (Z0H (Z0p Z1a (Z0i (pvF 1) rfl) Z0f (Z0x _)) (Z0c (Z0B (Z4m PySem.F.plainAttrs_list PySem.F.slot_list_append PySem.F.type_list_append Z1y (Z0i (pvF 0) rfl) (Z0a (Z0k (Z0a (Z0i (pvF 1) rfl) (Z0a (pvF 3) Z0b))) Z0b)))
    (Z0e (Z0B (Z0r (Z0i (pvF 0) rfl) T.Waits.cl h_Waits_know hr (by decide) (Z0a (Z0k (Z0a Z0f (Z0a (Z0y Z9J (Z1r Z2Z rfl T.z_len J1k (Z0a (Z0i (pvF 0) rfl) Z0b)) Z0h) Z0b))) Z0b))))) (Z0e (Z0H (Z0p Z1a (Z0i (pvF 1) rfl) Z0f (Z0x _)) (Z0e (Z0B (Z0r (Z0i (pvF 0) rfl) T.Waits.cl h_Waits_know hr (by decide) (Z0a (Z0L (r:=Z1p K) Z0z (Z0r (pvF 0) T.Walk.cl h_Walk_inner_of hr (by decide) (Z0a (Z0L (r:=Z1p K) Z0z (pvF 3) Z0h (fun _ _=>rfl)) Z0b)) (Z0r (pvF 0) T.Walk.cl h_Walk_place_in hr (by decide) (Z0a (Z0L (r:=Z1p K) Z0z (pvF 3) Z0h (fun _ _=>rfl)) (Z0a (Z0i (pvF 1) rfl) Z0b))) (fun _ _=>rfl)) Z0b)))) (Z0e (Z0H (Z0p Z1a (Z0i (pvF 1) rfl) Z0f (Z0x _)) (Z0c (Z0u (i:=4) sc_Walk_finish.nd rfl (Or.inl rfl) (Z0r (pvF 0) T.Walk.cl h_Walk_inner_of hr (by decide) (Z0a (Z0L (r:=Z1p K) Z0z (pvF 3) Z0h (fun _ _=>rfl)) Z0b)))
    (Z0c (Z3i (Z0L (r:=Z1p K) Z0z (pvF 3) Z0h (fun _ _=>rfl)) (Z8g (pvF 4) (Z0r (pvF 0) T.Walk.cl h_Walk_place_in hr (by decide) (Z0a (Z0L (r:=Z1p K) Z0z (pvF 3) Z0h (fun _ _=>rfl)) (Z0a (Z0i (pvF 1) rfl) Z0b))) Z3Q))
    (Z0e (Z0B (Z0r (Z0i (pvF 0) rfl) T.Waits.cl h_Waits_know hr (by decide) (Z0a (Z0L (r:=Z1p K) Z0z (pvF 3) Z0h (fun _ _=>rfl)) Z0b)))))) (Z0e (Z0H (Z0p Z1a (Z0i (pvF 1) rfl) Z0f (Z0x _)) (Z0e (Z0B (Z0r (pvF 0) T.Walk.cl h_Walk_call hr (by decide) (Z0a (Z0r (pvF 0) T.Walk.cl h_Walk_house_of hr (by decide) (Z0a (Z0L (r:=Z1p K) Z0z (pvF 3) Z0h (fun _ _=>rfl)) Z0b)) (Z0a (Z0i (pvF 1) rfl) (Z0a (Z0L (r:=Z1p K) Z0z (pvF 3) Z0h (fun _ _=>rfl)) (Z0a (Z2N (r:=rSlL K) J0g (pvF 3) (Z3u Z0h) Z3q) Z0b))))))) (Z0e (Z0B (Z0r (pvF 0) T.Walk.cl h_Walk_call hr (by decide) (Z0a (Z0L (r:=Z1p K) Z0z (Z0r (Z0i (pvF 0) rfl) T.Hall.cl h_Hall_elders hr (by decide) (Z0a (Z0i (pvF 2) rfl) Z0b)) Z0h (fun _ _=>rfl)) (Z0a (Z0i (pvF 1) rfl) (Z0a (Z0i (pvF 2) rfl) (Z0a (pvF 3) Z0b)))))))))))))))))))),?_⟩
  refine seq2 fun uz1 huz1=>?_
  walk_at "rd"
  refine ⟨Ck,A.dx,_,hA.wk,T.Walk.cl,T.n_Walk_waits,_,rfl,_,rfl,A.dw,_,hA.wt,rfl,?_⟩
  obtain ⟨ta,tdx,inn,sh,us0,ws0,rfl,hta,hti,hus,_⟩:=ht.inv
  refine ⟨_,rfl,tdx,_,hta,rfl,.ref ta,t,rfl,ht,fun l1 us1 hl1 hu1=>?_⟩
  have s1:=Z0C hl1 (.lst us1)
  have e1:upd H l1 (.lst us1) l1=some (.lst us1):=Z0g
  generalize upd H l1 (.lst us1)=H1 at *
  have lu1:us1.length=us.length:=by rw [hu1.length,lu,lx]
  have hA1:=hA.same ok s1
  refine ⟨l1,rfl,us1,.inl (SqL.of e1),?_⟩
  rw [lu1]
  refine ⟨A.wA,A.dw,A.wl,A.kl,ks,us,rfl,hA1.wt,s1 _ _ hk,by omega,fun l2 H2 hl2 sx2 hk2 e2=>?_⟩
  have ks1:Kw Ck H H1:=Kw.of s1
  have sm2:Same (upd H1 A.kl (.lst ks)) H2:=fun b o e=>by
    by_cases hb:b=A.kl
    · subst hb; rw [Z0g] at e; rw [← e]; exact hk2
    · rw [Z0j hb] at e; exact sx2 _ _ hb e
  have hA2:=(hA1.know ok (ks:=ks) (kn:=k) (rk1.mono fun _ _ r=>r.kw ks1)).same ok sm2
  have k2:Kw Ck H H2:=ks1.trans ((Kw.lst _ hA1.hk).trans (Kw.of sm2))
  have ru:A2 (RV H2) us xs:=rk2.mono fun _ _ r=>r.kw k2
  have ht2:=TO.kw ok.term k2 ht
  have hta2:=k2.i _ _ _ _ _ ok.term hta
  have hs2:=hs.kw ok k2
  have lks:ks.length=k.length:=by rw [rk1.len,List.length_reverse]
  have lkk:ks.length≤1000000:=by
    have:A.ks.length=ks.length+us.length:=by rw [eks,List.length_append]
    omega
  have fr:l2≠A.wl∧l2≠A.kl∧l2≠A.ml∧l2∉A.mz.map Prod.snd:=by
    refine ⟨Z3h hA1.hw hl2,Z3h hA1.hk hl2,Z3h hA1.hm hl2,fun z=>?_⟩
    obtain ⟨mm,hmm,e⟩:=List.mem_map.mp z
    obtain ⟨i,hi⟩:=List.mem_iff_getElem?.mp hmm
    obtain ⟨_,_,_,_,_,_,g,_⟩:=hA1.rm.at hi
    rw [e] at g
    exact Z0m g hl2 rfl
  have nB2:B l2=none:=Z2y hA1.sb hl2
  have kn:∀ {v:V} {x:Vl} {H3:Hp} {A3:Ad} {S3:Ws},WAd K (CS.mk Ct Cw Ch Cp Cl Cs Cq Ck B) G most H3 a A3 S3→A3.ks.length≤1000000→Kw Ck H H3→RV H3 v x→(∀ H',Kw Ck H H'→WA K (CS.mk Ct Cw Ch Cp Cl Cs Cq Ck B) G most H' a { S3 with known:=x::S3.known }→Q .non H')→Z4d (CS.mk Ct Cw Ch Cp Cl Cs Cq Ck B) K [.ref A3.wA,v] H3 (fun _ H1=>Q .non H1) E0:=fun hA3 h3 k3 r q'=>⟨_,_,_,_,_,_,rfl,hA3.wt,hA3.hk,by omega,fun _ _=>q' _ (k3.trans (Kw.lst _ hA3.hk)) ⟨_,hA3.know1 ok r⟩⟩
  clear hA hA1 sx2 sm2 hk2 hl1 e1 hu1 lu1 hk rk rk2 lk
  subst huz1
  walk_at "rd"
  refine ⟨Ct,tdx,_,hta2,T.Term.cl,T.n_Term_form,_,rfl,rfl,?_⟩
  have smK:Sm { S with known:=k }:=⟨sm.w,by show k.length≤_; omega,sm.m⟩
  obtain ⟨W,kk,m,cn,wi,en0⟩:=S
  have ek':kk=xs.reverse++k:=ek
  clear ek
  have lks2:ks.length≤1000000:=lkk
  cases hst with
  | @two _ k0 _ _ _ _ g p q0 a0 b0 y e htwo=>
    obtain ⟨rfl,rfl⟩:=Z1u (vs:=[a0,b0]) (k:=k0) ek' lx.symm
    obtain ⟨v1,r1,v2,r2,rfl⟩:=J0x ru
    refine ite2 (fun z=>by cases isF1 _ z) (fun _=>?_)
    refine ⟨Ct,tdx,_,hta2,T.Term.cl,T.n_Term_form,_,rfl,rfl,ite2 (fun _=>?_) (fun z=>absurd rfl z)⟩
    refine ⟨A.dx,_,hA2.wk,rfl,Ct,tdx,_,hta2,T.Term.cl,T.n_Term_label,_,rfl,_,SqL.of e2,v1,ix0,_,SqL.of e2,v2,ix1,?_⟩
    exact ⟨a,v1,v2,G,most,_,g,a0,b0,some y,e,rfl,⟨_,hA2⟩,smK,r1,r2,htwo,fun H' k' hw=>q _ (k2.trans k') hw⟩
  | @refuse _ k0 _ _ _ _ g p q0 a0 b0 e htwo=>
    obtain ⟨rfl,rfl⟩:=Z1u (vs:=[a0,b0]) (k:=k0) ek' lx.symm
    obtain ⟨v1,r1,v2,r2,rfl⟩:=J0x ru
    refine ite2 (fun z=>by cases isF1 _ z) (fun _=>?_)
    refine ⟨Ct,tdx,_,hta2,T.Term.cl,T.n_Term_form,_,rfl,rfl,ite2 (fun _=>?_) (fun z=>absurd rfl z)⟩
    refine ⟨A.dx,_,hA2.wk,rfl,Ct,tdx,_,hta2,T.Term.cl,T.n_Term_label,_,rfl,_,SqL.of e2,v1,ix0,_,SqL.of e2,v2,ix1,?_⟩
    exact ⟨a,v1,v2,G,most,_,g,a0,b0,none,e,rfl,⟨_,hA2⟩,smK,r1,r2,htwo,fun H' k' hw=>q _ (k2.trans k') hw⟩
  | @new _ k0 _ _ _ _ h ps vs0 hv hp=>
    obtain ⟨rfl,rfl⟩:=Z1u ek' (hv.trans lx.symm)
    refine ite2 (fun z=>by cases isF1 _ z) (fun _=>?_)
    refine ⟨Ct,tdx,_,hta2,T.Term.cl,T.n_Term_form,_,rfl,rfl,ite2 (fun z=>by cases isF2 _ z) (fun _=>?_)⟩
    refine ⟨Ct,tdx,_,hta2,T.Term.cl,T.n_Term_form,_,rfl,rfl,ite2 (fun _=>?_) (fun z=>absurd rfl z)⟩
    refine ⟨Ck,A.dx,_,hA2.wk,T.Walk.cl,T.n_Walk_made,_,rfl,.inl ⟨rfl,_,SqL.of hA2.hm⟩,Ct,tdx,_,hta2,T.Term.cl,T.n_Term_label,_,rfl,?_⟩
    refine New.of fun p3 H3 h3 s3 e3=>?_
    have hA3:=hA2.same ok s3
    have smm':m.length≤1000000:=smm
    have lm':A.mz.length=m.length:=lm
    refine ⟨A.ml,rfl,_,hA3.hm,by rw [List.length_map]; show A.mz.length < _; omega,?_⟩
    have hA4:=hA3.more ok e3 (s3 _ _ e2) (ru.mono fun _ _ r=>r.kw (Kw.of (C:=Ck) s3)) fr.1 fr.2.1 fr.2.2.1 fr.2.2.2 nB2
    have k4:Kw Ck H (upd H3 A.ml (.lst (A.mz.map Prod.fst++[.ref p3]))):=k2.trans ((Kw.of s3).trans (Kw.lst _ hA3.hm))
    generalize upd H3 A.ml (.lst (A.mz.map Prod.fst++[.ref p3]))=H4 at *
    refine ⟨Ck,A.dx,_,hA4.wk,T.Walk.cl,T.n_Walk_waits,_,rfl,_,rfl,A.dw,_,hA4.wt,rfl,Ck,A.dx,_,hA4.wk,T.Walk.cl,T.n_Walk_made,_,rfl,_,rfl,_,.inl (SqL.of hA4.hm),?_⟩
    refine New.of fun p5 H5 h5 s5 e5=>?_
    have hA5:=hA4.same ok s5
    have e5':H5 p5=some (.tup [.str "thing",.int (m.length:Nat)]):=by
      rw [e5,List.length_map,List.length_append,lm']
      show some (HO.tup [.str "thing",.int (((m.length+1:Nat):Int) - 1)])=_
      rw [Int.natCast_add]
      show some (HO.tup [.str "thing",.int ((m.length:Int)+1 - 1)])=_
      rw [Int.add_sub_cancel]
    exact kn hA5 lkk (k4.trans (Kw.of s5)) (.thing e5') q
  | @field _ k0 _ _ _ _ f p n h inn j v hm hpl hj=>
    obtain ⟨rfl,rfl⟩:=Z1u (vs:=[.thing n]) (k:=k0) ek' lx.symm
    obtain ⟨v1,rfl,r1⟩:=ru.one
    obtain ⟨mi,hmi,t0,is,f1,f2,f3,f4⟩:=hA2.rm.to hm
    obtain ⟨u,hu,ru'⟩:=f4.to hj
    refine ite2 (fun z=>by cases isF1 _ z) (fun _=>?_)
    refine ⟨Ct,tdx,_,hta2,T.Term.cl,T.n_Term_form,_,rfl,rfl,ite2 (fun z=>by cases isF2 _ z) (fun _=>?_)⟩
    refine ⟨Ct,tdx,_,hta2,T.Term.cl,T.n_Term_form,_,rfl,rfl,ite2 (fun z=>by cases isF3 _ z) (fun _=>?_)⟩
    refine ⟨Ct,tdx,_,hta2,T.Term.cl,T.n_Term_form,_,rfl,rfl,ite2 (fun _=>?_) (fun z=>absurd rfl z)⟩
    refine ⟨Ck,A.dx,_,hA2.wk,T.Walk.cl,T.n_Walk_waits,_,rfl,_,rfl,A.dw,_,hA2.wt,rfl,A.dx,_,hA2.wk,rfl,_,SqL.of e2,v1,ix0,?_⟩
    refine ⟨a,v1,G,most,n,_,_,mi,rfl,hA2,r1,hmi,?_⟩
    refine ⟨A.dx,_,hA2.wk,rfl,_,SqL.of e2,v1,ix0,Ct,tdx,_,hta2,T.Term.cl,T.n_Term_label,_,rfl,?_⟩
    refine ⟨a,v1,G,most,n,j,_,h,f,inn,rfl,⟨_,hA2⟩,hgl,r1,hm,hpl,fun H3 s3=>?_⟩
    exact ⟨_,rfl,_,rfl,is,SqL.of (s3 _ _ f3),u,Z0F hu,kn (hA2.same ok s3) lkk (k2.trans (Kw.of s3)) (ru'.kw (Kw.of (C:=Ck) s3)) q⟩
  | @set _ k0 _ _ _ _ f p q0 n h inn j v hm hpl hj=>
    obtain ⟨rfl,rfl⟩:=Z1u (vs:=[.thing n,v]) (k:=k0) ek' lx.symm
    obtain ⟨v1,r1,v2,r2,rfl⟩:=J0x ru
    obtain ⟨mi,hmi,t0,is,f1,f2,f3,f4⟩:=hA2.rm.to hm
    refine ite2 (fun z=>by cases isF1 _ z) (fun _=>?_)
    refine ⟨Ct,tdx,_,hta2,T.Term.cl,T.n_Term_form,_,rfl,rfl,ite2 (fun z=>by cases isF2 _ z) (fun _=>?_)⟩
    refine ⟨Ct,tdx,_,hta2,T.Term.cl,T.n_Term_form,_,rfl,rfl,ite2 (fun z=>by cases isF3 _ z) (fun _=>?_)⟩
    refine ⟨Ct,tdx,_,hta2,T.Term.cl,T.n_Term_form,_,rfl,rfl,ite2 (fun z=>by cases isF4 _ z) (fun _=>?_)⟩
    refine ⟨Ct,tdx,_,hta2,T.Term.cl,T.n_Term_form,_,rfl,rfl,ite2 (fun _=>?_) (fun z=>absurd rfl z)⟩
    refine ⟨A.dx,_,hA2.wk,rfl,_,SqL.of e2,v1,ix0,?_⟩
    refine ⟨a,v1,G,most,n,_,_,mi,rfl,hA2,r1,hmi,?_⟩
    refine ⟨_,SqL.of e2,v2,ix1,A.dx,_,hA2.wk,rfl,_,SqL.of e2,v1,ix0,Ct,tdx,_,hta2,T.Term.cl,T.n_Term_label,_,rfl,?_⟩
    refine ⟨a,v1,G,most,n,j,_,h,f,inn,rfl,⟨_,hA2⟩,hgl,r1,hm,hpl,fun H3 s3=>?_⟩
    have hA3:=hA2.same ok s3
    have g3:=s3 _ _ f3
    have lis:is.length=inn.length:=f4.len
    refine ⟨_,rfl,_,rfl,is,g3,j,J5o (by omega),?_⟩
    have hA4:=hA3.inner ok hmi ⟨_,hm⟩ ((f4.mono fun _ _ r=>r.kw (Kw.of (C:=Ck) s3)).set j (r2.kw (Kw.of (C:=Ck) s3)))
    have k4:Kw Ck H3 (upd H3 mi.2 (.lst (is.set j v2))):=Kw.lst _ g3
    have e4:upd H3 mi.2 (.lst (is.set j v2)) l2=some (.lst [v1,v2]):=by
      rw [Z0j (fun z=>fr.2.2.2 (by rw [z]; exact List.mem_map_of_mem (List.mem_of_getElem? hmi)))]
      exact s3 _ _ e2
    generalize upd H3 mi.2 (.lst (is.set j v2))=H4 at *
    exact ⟨Ck,A.dx,_,hA4.wk,T.Walk.cl,T.n_Walk_waits,_,rfl,_,rfl,A.dw,_,hA4.wt,rfl,_,SqL.of e4,v2,ix1,kn hA4 lkk (k2.trans ((Kw.of s3).trans k4)) (r2.kw ((Kw.of s3).trans k4)) q⟩
  | @call _ k0 _ _ _ _ f ps vs0 n h inn S1 hv hp hm hcl=>
    obtain ⟨rfl,rfl⟩:=Z1u (vs:=.thing n::vs0) (k:=k0) (vs':=xs) (k':=k) (by rw [List.reverse_cons,List.append_assoc]; exact ek') (by rw [List.length_cons,hv]; exact lx.symm)
    obtain ⟨v1,vr,rfl,r1,rr⟩:=J1H ru
    refine ite2 (fun z=>by cases isF1 _ z) (fun _=>?_)
    refine ⟨Ct,tdx,_,hta2,T.Term.cl,T.n_Term_form,_,rfl,rfl,ite2 (fun z=>by cases isF2 _ z) (fun _=>?_)⟩
    refine ⟨Ct,tdx,_,hta2,T.Term.cl,T.n_Term_form,_,rfl,rfl,ite2 (fun z=>by cases isF3 _ z) (fun _=>?_)⟩
    refine ⟨Ct,tdx,_,hta2,T.Term.cl,T.n_Term_form,_,rfl,rfl,ite2 (fun z=>by cases isF4 _ z) (fun _=>?_)⟩
    refine ⟨Ct,tdx,_,hta2,T.Term.cl,T.n_Term_form,_,rfl,rfl,ite2 (fun z=>by cases isF5 _ z) (fun _=>?_)⟩
    refine ⟨Ct,tdx,_,hta2,T.Term.cl,T.n_Term_form,_,rfl,rfl,ite2 (fun _=>?_) (fun z=>absurd rfl z)⟩
    refine ⟨A.dx,_,hA2.wk,rfl,A.dx,_,hA2.wk,rfl,_,SqL.of e2,v1,ix0,?_⟩
    refine ⟨a,v1,G,most,n,_,h,inn,rfl,⟨_,hA2⟩,r1,hm,?_⟩
    refine ⟨Ct,tdx,_,hta2,T.Term.cl,T.n_Term_label,_,rfl,_,SqL.of e2,v1,ix0,_,SqL.of e2,?_⟩
    rw [cut1]
    refine New.of fun p3 H3 h3 s3 e3=>?_
    have k3:Kw Ck H2 H3:=Kw.of s3
    exact ⟨a,p3,v1,G,most,_,_,h,f,.thing n,vr,vs0,rfl,⟨_,hA2.same ok s3⟩,smK,r1.kw k3,e3,rr.mono fun _ _ r=>r.kw k3,hcl,fun H' k' hw=>q _ (k2.trans (k3.trans k')) hw⟩
  | @elder _ k0 _ _ _ _ f ps vs0 h e es v S1 hv hp hh ho hch hel hcl=>
    obtain ⟨rfl,rfl⟩:=Z1u ek' (hv.trans lx.symm)
    refine ite2 (fun z=>by cases isF1 _ z) (fun _=>?_)
    refine ⟨Ct,tdx,_,hta2,T.Term.cl,T.n_Term_form,_,rfl,rfl,ite2 (fun z=>by cases isF2 _ z) (fun _=>?_)⟩
    refine ⟨Ct,tdx,_,hta2,T.Term.cl,T.n_Term_form,_,rfl,rfl,ite2 (fun z=>by cases isF3 _ z) (fun _=>?_)⟩
    refine ⟨Ct,tdx,_,hta2,T.Term.cl,T.n_Term_form,_,rfl,rfl,ite2 (fun z=>by cases isF4 _ z) (fun _=>?_)⟩
    refine ⟨Ct,tdx,_,hta2,T.Term.cl,T.n_Term_form,_,rfl,rfl,ite2 (fun z=>by cases isF5 _ z) (fun _=>?_)⟩
    refine ⟨Ct,tdx,_,hta2,T.Term.cl,T.n_Term_form,_,rfl,rfl,ite2 (fun z=>by cases isF6 _ z) (fun _=>?_)⟩
    obtain ⟨sa,sdx,sd,ov,kvs,rfl,hsa,hov,hsd,hkv⟩:=Z9B hs2
    rw [hh] at hsa
    rw [ho] at hov
    obtain ⟨hdx,io,dd,hkvs,ea,ed,gok,hlk⟩:=Z0Z hA2.hl
    refine ⟨A.dx,_,hA2.wk,rfl,Ck,A.dx,_,hA2.wk,T.Walk.cl,T.n_Walk_hall,_,rfl,_,rfl,hdx,_,ea,rfl,sa,rfl,Cs,sdx,_,hsa,T.Scope.cl,T.n_Scope_house,_,rfl,?_⟩
    refine ⟨A.hl,h,G,e::es,rfl,hA2.hl,hch,by rw [List.length_cons]; omega,fun l3 H3 hl3 s3 e3=>?_⟩
    have k3:Kw Ck H2 H3:=Kw.of s3
    refine ⟨_,rfl,_,SqL.of e3,.str e,ix0,Ct,tdx,_,s3 _ _ hta2,T.Term.cl,T.n_Term_label,_,rfl,sa,rfl,Cs,sdx,_,s3 _ _ hsa,T.Scope.cl,T.n_Scope_own_thing,_,rfl,?_⟩
    cases hov with
    | some ro=>exact ⟨a,l2,ov,G,most,_,_,e,f,v,us,_,rfl,⟨_,hA2.same ok s3⟩,smK,ro.kw k3,s3 _ _ e2,ru.mono fun _ _ r=>r.kw k3,hcl,fun H' k' hw=>q _ (k2.trans (k3.trans k')) hw⟩
end
inductive Z9i (c:CS) (K:W.Frag) (vs:List V) (H:Hp) (Q:VK):Prop
  | mk (a:Addr) (G:Pg) (most:Nat) (S S':Ws) (a1:vs=[.ref a]) (a2:WA K c G most H a S) (a3:Sm S) (a4:G.houses.length≤100) (a5:Step G most S S') (a6:∀ H',Kw c.walk H H'→WA K c G most H' a S'→Q .non H'):Z9i c K vs H Q
def J0S (c:CS) (K:W.Frag):Sp:=fun vs H Q _=>Z9i c K vs H Q
inductive Ans (S:Ws):PyData→Prop
  | ended {e:List Str}:S.ended=some e→Ans S (.tuple (e.map .str))
  | int {n:Int} {k:List Vl}:S.ended=none→S.known=.int n::k→Ans S (.tuple [.str "value",.int n])
inductive J1a (c:CS) (K:W.Frag) (vs:List V) (H:Hp) (Q:VK):Prop
  | mk (a:Addr) (G:Pg) (most:Nat) (A:Ad) (S:Ws) (d:PyData) (a1:vs=[.ref a]) (a2:WAd K c G most H a A S) (a3:Ans S d) (a4:∀ u H',SX A.kl H H'→RT K H' u d→Q u H'):J1a c K vs H Q
def Z9M (c:CS) (K:W.Frag):Sp:=fun vs H Q _=>J1a c K vs H Q
theorem J2U {K:W.Frag} {H:Hp} {v:V} {l:List Str} (h:REn K H v (some l)):RT K H v (.tuple (l.map .str)):=by cases h; assumption
theorem Z7P {K:W.Frag} {H:Hp} {v:V} (h:REn K H v none):v=.non:=by cases h; rfl
section
variable {Cl Cs Cq Ck Ct Cw Ch Cp:Addr} {P:Program} {w:World} {K:W.Frag} {mg:Str→Option Value} {base:Heap} {B:Hp}
theorem J4N (T:Txt K mg Cl Cs Cq Ck Ct Cw Ch Cp) (h_Waits_take_step:HasM P w K mg base 1 Cq "take_step" ["self"] (J1n (CS.mk Ct Cw Ch Cp Cl Cs Cq Ck B) K)) (h_Walk_begin:HasM P w K mg base 2 Ck "begin" ["self","term","scope"] (Z8x (CS.mk Ct Cw Ch Cp Cl Cs Cq Ck B) K)) (h_Walk_choose:HasM P w K mg base 4 Ck "choose" ["self","term","scope"] (Z6Q (CS.mk Ct Cw Ch Cp Cl Cs Cq Ck B) K)) (h_Walk_finish:HasM P w K mg base 5 Ck "finish" ["self","term","scope"] (Z6U (CS.mk Ct Cw Ch Cp Cl Cs Cq Ck B) K)):HasM P w K mg base 6 Ck "go_on" ["self"] (J0S (CS.mk Ct Cw Ch Cp Cl Cs Cq Ck B) K):=by
  refine HasM.of T.m_Walk_go_on sc_Walk_go_on (fun _ _ _ _ _ _ us hl=>el1 us hl fun _=>rfl) (fun vs H Q E h=>?_) (fun f cdv A outer s H vs Q E hr h=>?_)
  · obtain ⟨a,G,most,S,S',rfl,_⟩:=h
    rfl
  obtain ⟨a,G,most,S,S',rfl,⟨A,hA⟩,sm,hgl,hst,q⟩:=h
  have ok:=Z6R (B:=B) T
  obtain ⟨W0,k,m,cn,wi,en⟩:=S
  obtain ⟨x,W,rfl⟩:∃ x W,W0=x::W:=by
    obtain ⟨_,h2⟩:=hst.on
    cases W0 with
    | nil=>exact absurd rfl h2
    | cons x W=>exact ⟨x,W,rfl⟩
  obtain ⟨ws,v,ew,rx,hA1⟩:=hA.pop ok rfl
  have hw:=hA.hw
  rw [ew] at hw
  have k1:Kw Ck H (upd H A.wl (.lst ws)):=Kw.lst _ hA.hw
  have rx1:=rx.kw ok k1
  have smS:Sm ⟨W,k,m,cn,wi,en⟩:=⟨Nat.le_trans (Nat.le_succ _) sm.w,sm.k,sm.m⟩
  refine ⟨_,(Z0c (Z3i (Z0Y (Z0i (pvF 0) rfl) T.Waits.cl h_Waits_take_step hr (by decide)) (Z2v (n:=3) rfl (Z0w (Z0s (i:=1) sc_Walk_go_on.nd rfl (Or.inl rfl)) (Z0w (Z0s (i:=2) sc_Walk_go_on.nd rfl (Or.inl rfl)) (Z0w (Z0s (i:=3) sc_Walk_go_on.nd rfl (Or.inl rfl)) Z2x)))))
    (Z0e (Z0H (Z0p Z1a (pvF 1) Z0f (Z0x _)) (Z0e (Z0B (Z0r (pvF 0) T.Walk.cl h_Walk_begin hr (by decide) (Z0a (pvF 2) (Z0a (pvF 3) Z0b))))) (Z0e (Z0H (Z0p Z1a (pvF 1) Z0f (Z0x _)) (Z0e (Z0B (Z0r (pvF 0) T.Walk.cl h_Walk_choose hr (by decide) (Z0a (pvF 2) (Z0a (pvF 3) Z0b))))) (Z0e (Z0H (Z0p Z1a (pvF 1) Z0f (Z0x _)) (Z0e (Z0B (Z0r (pvF 0) T.Walk.cl h_Walk_finish hr (by decide) (Z0a (pvF 2) (Z0a (pvF 3) Z0b))))) (Z0e (Z3V (pvF 0) Z0h J4z))))))))),?_⟩
  refine seq2 fun uz1 huz1=>?_
  walk_at "rd"
  refine ⟨Ck,A.dx,_,hA.wk,T.Walk.cl,T.n_Walk_waits,_,rfl,_,rfl,A.dw,_,hA.wt,rfl,?_⟩
  refine ⟨A.wA,A.dw,A.wl,A.kl,ws,v,rfl,hA.wt,hw,fun u eu=>?_⟩
  subst eu
  generalize upd H A.wl (.lst ws)=H1 at *
  cases rx1 with
  | walk e1 ht hs=>
    refine ⟨_,rfl,_,SqT.of e1,rfl,⟨_,_,rfl,⟨_,_,rfl,⟨_,_,rfl,?_⟩⟩⟩⟩
    subst huz1
    walk_at "rd"
    exact ⟨A.dx,_,hA1.wk,rfl,a,_,_,G,most,⟨W,k,m,cn,wi,en⟩,S',_,_,rfl,⟨_,hA1⟩,smS,ht,hs,hst,fun H' k' hw=>q _ (k1.trans k') hw⟩
  | choose e1 ht hs=>
    refine ⟨_,rfl,_,SqT.of e1,rfl,⟨_,_,rfl,⟨_,_,rfl,⟨_,_,rfl,?_⟩⟩⟩⟩
    subst huz1
    walk_at "rd"
    refine ite2 (fun z=>absurd z (by decide +kernel)) (fun _=>?_)
    exact ⟨A.dx,_,hA1.wk,rfl,a,_,_,G,most,⟨W,k,m,cn,wi,en⟩,S',_,_,rfl,⟨_,hA1⟩,smS,ht,hs,hst,fun H' k' hw=>q _ (k1.trans k') hw⟩
  | finish e1 ht hs=>
    refine ⟨_,rfl,_,SqT.of e1,rfl,⟨_,_,rfl,⟨_,_,rfl,⟨_,_,rfl,?_⟩⟩⟩⟩
    subst huz1
    walk_at "rd"
    refine ite2 (fun z=>absurd z (by decide +kernel)) (fun _=>?_)
    refine ite2 (fun z=>absurd z (by decide +kernel)) (fun _=>?_)
    exact ⟨A.dx,_,hA1.wk,rfl,a,_,_,G,most,⟨W,k,m,cn,wi,en⟩,S',_,_,rfl,⟨_,hA1⟩,smS,hgl,ht,hs,hst,fun H' k' hw=>q _ (k1.trans k') hw⟩
  | leave e1=>
    refine ⟨_,rfl,_,SqT.of e1,rfl,⟨_,_,rfl,⟨_,_,rfl,⟨_,_,rfl,?_⟩⟩⟩⟩
    subst huz1
    walk_at "rd"
    refine ite2 (fun z=>absurd z (by decide +kernel)) (fun _=>?_)
    refine ite2 (fun z=>absurd z (by decide +kernel)) (fun _=>?_)
    refine ite2 (fun z=>absurd z (by decide +kernel)) (fun _=>?_)
    cases hst with
    | @leave _ _ _ _ wi=>
    refine ⟨Ck,A.dx,_,hA1.wk,T.Walk.cl,T.n_Walk_within,_,rfl,_,rfl,A.dx,_,hA1.wk,Nat.lt_of_sub_eq_succ rfl,?_⟩
    have hA2:=hA1.put (cn:=cn) (wi:=wi) ok hA1.re
    have e:((wi+1:Nat):Int) - 1=(wi:Int):=by omega
    rw [e]
    exact q _ (k1.trans (Kw.ins _ hA1.wk)) ⟨_,hA2⟩
theorem J5v (T:Txt K mg Cl Cs Cq Ck Ct Cw Ch Cp) (h_Waits_take_value:HasM P w K mg base 1 Cq "take_value" ["self"] (J0w (CS.mk Ct Cw Ch Cp Cl Cs Cq Ck B) K)) (h_Walk_house_of:HasM P w K mg base 1 Ck "house_of" ["self","thing"] (Z7H (CS.mk Ct Cw Ch Cp Cl Cs Cq Ck B) K)):HasM P w K mg base 2 Ck "told_answer" ["self"] (Z9M (CS.mk Ct Cw Ch Cp Cl Cs Cq Ck B) K):=by
  refine HasM.of T.m_Walk_told_answer sc_Walk_told_answer (fun _ _ _ _ _ _ us hl=>el1 us hl fun _=>rfl) (fun vs H Q E h=>?_) (fun f cdv A outer s H vs Q E hr h=>?_)
  · obtain ⟨a,G,most,A,S,d,rfl,_⟩:=h
    rfl
  obtain ⟨a,G,most,A,S,d,rfl,hA,han,q⟩:=h
  refine ⟨_,(Z0c (Z0H (Z0p J0u (Z0i (pvF 0) rfl) Z2e (Z0x _)) (Z0e (Z0q (Z0i (pvF 0) rfl))) Z0A)
    (Z0c (Z0u (i:=1) sc_Walk_told_answer.nd rfl (Or.inl rfl) (Z0Y (Z0i (pvF 0) rfl) T.Waits.cl h_Waits_take_value hr (by decide)))
    (Z0c (Z0H (Z7K (Z1r (r:=J6m K) J0Q rfl T.z_isinstance Z5M (Z0a (pvF 1) (Z0a (J4t (v:=.ty "tuple") rfl T.z_tuple Z1C rfl) Z0b)))) (Z0e (Z0q (Z0k (Z0a Z0f (Z0a (Z0r (pvF 0) T.Walk.cl h_Walk_house_of hr (by decide) (Z0a (pvF 1) Z0b)) Z0b))))) Z0A)
    (Z0e (Z0q (Z0k (Z0a Z0f (Z0a (pvF 1) Z0b)))))))),?_⟩
  refine seq4 fun uz3 huz3 uz2 huz2 uz1 huz1=>?_
  walk_at "rd"
  refine ⟨Ck,A.dx,_,hA.wk,T.Walk.cl,T.n_Walk_ended,_,rfl,?_⟩
  have re:=hA.re
  cases han with
  | ended he=>
    rw [he] at re
    have r:=J2U re
    obtain ⟨pa,xs,er,hq,hx⟩:=r.tup_inv
    refine ite2 (fun _=>?_) (fun z=>absurd (by rw [er]; exact fun z=>by cases z) z)
    exact ⟨Ck,A.dx,_,hA.wk,T.Walk.cl,T.n_Walk_ended,_,rfl,q _ _ (fun _ _ _ h=>h) r⟩
  | @int n k he hk=>
    rw [he] at re
    have hev:=Z7P re
    rw [hev]
    · skip
      refine ite2 (fun z=>absurd rfl z) (fun _=>?_)
      have rk:=hA.rk
      rw [hk,List.reverse_cons] at rk
      obtain ⟨ks,u,ek,rk1,ru⟩:=rk.last
      cases ru
      have hkl:=hA.hk
      rw [ek] at hkl
      subst huz1
      walk_at "rd"
      refine ⟨Ck,A.dx,_,hA.wk,T.Walk.cl,T.n_Walk_waits,_,rfl,_,rfl,A.dw,_,hA.wt,rfl,?_⟩
      refine ⟨A.wA,A.dw,A.wl,A.kl,ks,_,rfl,hA.wt,hkl,fun u eu=>?_⟩
      subst eu
      have S1:SX A.kl H (upd H A.kl (.lst ks)):=SX.put _
      generalize upd H A.kl (.lst ks)=H1 at *
      subst huz2
      walk_at "rd"
      refine ⟨_,rfl,.inr ⟨rfl,_,rfl,?_⟩⟩
      refine ite2 (fun z=>by cases z) (fun _=>?_)
      subst huz3
      walk_at "rd"
      refine New.of fun p H3 h3 s3 e3=>q _ _ (S1.trans (SX.of s3)) ?_
      exact .tup (SqT.of e3) (.cons (.str _) (.cons (.int _) .nil))
end
noncomputable def vlD:Vl→PyData
  | .int i=>.int i
  | .bl b=>.bool b
  | .thing n=>.tuple [.str "thing",.int n]
noncomputable def mdD (e:Str×List Vl):PyData:=.tuple [.str e.1,.tuple (e.2.map vlD)]
noncomputable def wkD (S:Ws) (d:PyData):PyData:=.tuple [d,.int S.counted,.list (S.made.map mdD)]
noncomputable def S0 (G:Pg) (xs:List Vl):Ws:=⟨[.walk G.main.body ⟨none,none,Z2V [] ((G.main.params.map Prod.fst).zip xs)⟩],[],[],0,0,none⟩
inductive Z6F (c:CS) (K:W.Frag) (vs:List V) (H:Hp) (Q:VK):Prop
  | mk (pp:V) (nl:Addr) (G:Pg) (most n:Nat) (S':Ws) (us:List V) (xs:List Vl) (d:PyData) (a1:vs=[pp,.ref nl,.int most]) (a2:PgO K c H pp G) (a3:GOk G) (a4:G.houses.length≤100) (a5:G.main.params.length≤100) (a6:SqL K H nl us) (a7:A2 (RV H) us xs) (a8:n≤90000) (a9:Steps G most n (S0 G xs) S') (a10:(S'.wait=[]∨S'.ended≠none)) (a11:Ans S' d) (a12:∀ u H',Same H H'→RdD K H' u (wkD S' d)→Q u H'):Z6F c K vs H Q
def Z4N (c:CS) (K:W.Frag):Sp:=fun vs H Q _=>Z6F c K vs H Q
theorem J9g {K:W.Frag} {H:Hp} {v:V} {x:Vl} (h:RV H v x):RT K H v (vlD x):=by
  cases h with
  | int i=>exact .int i
  | bl b=>exact .bl b
  | thing e=>exact .tup (SqT.of e) (.cons (.str _) (.cons (.int _) .nil))
theorem J3W {K:W.Frag} {H:Hp}:∀ {vs:List V} {xs:List Vl},A2 (RV H) vs xs→RTs K H vs (xs.map vlD)
  | _,_,.nil=>.nil
  | _,_,.cons r t=>.cons (J9g r) (J3W t)
theorem J6N {G:Pg} {most n:Nat} {xs:List Vl} {S:Ws} (h:Steps G most n (S0 G xs) S) (hn:n≤90000):Sm S:=by
  obtain ⟨a,b,c⟩:=h.sz
  have e1:(S0 G xs).wait.length=1:=rfl
  have e2:(S0 G xs).known.length=0:=rfl
  have e3:(S0 G xs).made.length=0:=rfl
  exact ⟨by omega,by omega,by omega⟩
section
variable {Cl Cs Cq Ck Ct Cw Ch Cp:Addr} {P:Program} {w:World} {K:W.Frag} {mg:Str→Option Value} {base:Heap} {B:Hp}
noncomputable def WI2 (K:W.Frag) (c:CS) (G:Pg) (most n:Nat) (xs:List Vl) (S':Ws) (H3:Hp) (x bd:Addr) (pp:V) (nl:Addr) (mm:Nat) (σ:St) (H':Hp):Prop:=∃ S i,Steps G most i (S0 G xs) S∧Steps G most mm S S'∧i+mm=n∧WA K c G most H' x S∧σ=[some pp,some (.ref nl),some (.int most),some (.ref x),some (.ref bd),none]
theorem J0t (T:Txt K mg Cl Cs Cq Ck Ct Cw Ch Cp) (h_Walk___init__:∀ B,HasM P w K mg base 3 Ck "__init__" ["self","program","most"] (Z7S (CS.mk Ct Cw Ch Cp Cl Cs Cq Ck B) K)) (h_Scope___init__:∀ B,HasM P w K mg base 1 Cs "__init__" ["self","house","own_thing","bound"] (Z4u (CS.mk Ct Cw Ch Cp Cl Cs Cq Ck B) K)) (h_Waits_wait:∀ B,HasM P w K mg base 1 Cq "wait" ["self","step","term","scope"] (Z3Z (CS.mk Ct Cw Ch Cp Cl Cs Cq Ck B) K)) (h_Waits_is_over:∀ B,HasM P w K mg base 1 Cq "is_over" ["self"] (Z9L (CS.mk Ct Cw Ch Cp Cl Cs Cq Ck B) K))
    (h_Walk_go_on:∀ B,HasM P w K mg base 6 Ck "go_on" ["self"] (J0S (CS.mk Ct Cw Ch Cp Cl Cs Cq Ck B) K)) (h_Walk_told_answer:∀ B,HasM P w K mg base 2 Ck "told_answer" ["self"] (Z9M (CS.mk Ct Cw Ch Cp Cl Cs Cq Ck B) K)):Has P w K mg base 7 "walked" ["program","numbers","most"] (Z4N (CS.mk Ct Cw Ch Cp Cl Cs Cq Ck B) K)∧HasF P w K mg base 7 "walked" ["program","numbers","most"] (Z4N (CS.mk Ct Cw Ch Cp Cl Cs Cq Ck B) K) [.int 100]:=by
  refine Has.ofD T.f_walked sc_walked (fun _ _ _ _ _ _ _ _ us hl=>el3 us hl fun _ _ _=>⟨_,rfl,rfl⟩) (fun _ _ _ _ _ _ _ _ us hl=>?_) (fun vs H Q E h=>?_) (fun f cdv A outer s H vs Q E hr h=>?_)
  · rw [List.length_append] at hl
    exact el2 us (Nat.succ.inj hl) fun _ _=>⟨_,rfl,rfl⟩
  · obtain ⟨pp,nl,G,most,n,S',us,xs,d,rfl,_⟩:=h
    rfl
  obtain ⟨pp,nl,G,most,n,S',us,xs,d,rfl,hp0,gok,hlen,hpl,hnl,hus,hn,hst,hov,han,q⟩:=h
  have ok:=Z6R (B:=H) T
  have h_Walk___init__:=h_Walk___init__ H
  have h_Scope___init__:=h_Scope___init__ H
  have h_Waits_wait:=h_Waits_wait H
  have h_Waits_is_over:=h_Waits_is_over H
  have h_Walk_go_on:=h_Walk_go_on H
  have h_Walk_told_answer:=h_Walk_told_answer H
  have hp:PgO K (CS.mk Ct Cw Ch Cp Cl Cs Cq Ck H) H pp G:=PgO.cb hp0
  refine ⟨_,(Z0c (Z0u (i:=3) sc_walked.nd rfl (Or.inl rfl) (Z3C T.Walk h_Walk___init__ hr (by decide) rfl (Z0a (pvF 0) (Z0a (pvF 2) Z0b))))
    (Z0c (Z0u (i:=4) sc_walked.nd rfl (Or.inl rfl) (J1G rfl rfl rfl T.z_dict T.z_zip (Z0a (Z2f rfl (BlockOk.plain (N:=["name","kind"]) rfl (by decide +kernel) (by decide +kernel) (by decide +kernel)) (Z2S (Z0i (Z0i (pvF 0) rfl) rfl))
          (fun C fp s H=>(show PG _ _ (Z7c K 2 _) from Z2v (n:=2) rfl (Z0w (Z0s (i:=0) (show (["name","kind"]:List Str).Nodup by decide +kernel) rfl (Or.inl rfl)) (Z0w (Z0s (i:=1) (show (["name","kind"]:List Str).Nodup by decide +kernel) rfl (Or.inl rfl)) Z2x))))
          (fun C fp s H=>(pvF 0))) (Z0a (pvF 1) Z0b))))
    (Z0c (Z0B (Z0r (Z0i (pvF 3) rfl) T.Waits.cl h_Waits_wait hr (by decide) (Z0a Z0f (Z0a (Z0i (Z0i (pvF 0) rfl) rfl) (Z0a (Z3C T.Scope h_Scope___init__ hr (by decide) rfl (Z0a Z2e (Z0a Z2e (Z0a (pvF 4) Z0b)))) Z0b)))))
    (Z0c (Z5R PassesOwn.never (PW.pt (Z8a (Z0p J1A (Z0i (pvF 3) rfl) Z2e (Z0x _)) (Z5G (J3K (Z7K (Z0Y (Z0i (pvF 3) rfl) T.Waits.cl h_Waits_is_over hr (by decide))))))) (Z0e (Z0B (Z0Y (pvF 3) T.Walk.cl h_Walk_go_on hr (by decide)))))
    (Z0c (Z1O rfl sc_walked.nd (i:=5) rfl rfl (BlockOk.plain (N:=["house","inner"]) rfl (by decide +kernel) (by decide +kernel) (by decide +kernel)) (Z3p (Z0i (pvF 3) rfl))
          (fun C fp s H=>(show PG _ _ (Z7c K 2 _) from Z2v (n:=2) rfl (Z0w (Z0s (i:=0) (show (["house","inner"]:List Str).Nodup by decide +kernel) rfl (Or.inl rfl)) (Z0w (Z0s (i:=1) (show (["house","inner"]:List Str).Nodup by decide +kernel) rfl (Or.inl rfl)) Z2x))))
          (fun C fp s H=>(Z0k (Z0a (pvF 0) (Z0a (Z0Q (r:=Z9V K) Z0I rfl T.z_tuple Z1C (Z0a (pvF 1) Z0b)) Z0b)))))
    (Z0e (Z0q (Z0k (Z0a (Z0Y (pvF 3) T.Walk.cl h_Walk_told_answer hr (by decide)) (Z0a (Z0i (pvF 3) rfl) (Z0a (pvF 5) Z0b))))))))))),?_⟩
  refine seq6 fun uz5 huz5 uz4 huz4 uz3 huz3 uz2 huz2 uz1 huz1=>?_
  walk_at "rd"
  intro x dx n1 n2 ne
  have s1:=Z1z (C:=Ck) n1 n2 ne
  refine ⟨x,dx,pp,G,most,rfl,Z0g,hp.same s1,gok,hlen,s1,n1,fun H1 sx1 hw=>⟨rfl,?_⟩⟩
  have sH1:Same H H1:=Z2g s1 sx1 n1
  subst huz1
  walk_at "rd"
  obtain ⟨pa,pdx,ht,hs,ma,mdx,pt,bv,rfl,p1,w1,w2,w3⟩:∃ pa pdx ht hs ma mdx pt bv,pp=.ref pa∧H1 pa=some (.ins Cp pdx [("all_houses",.ref ht),("main",.ref ma)])∧H1 ma=some (.ins Cw mdx [("name",.str G.main.name),("params",.ref pt),("kind",.str G.main.kind),("body",bv)])∧RT K H1 (.ref pt) (Z2r G.main.params)∧TO K Ct H1 bv G.main.body∧hs=hs:=by
    have hp1:=hp.same sH1
    cases hp1 with
    | mk a b c d=>cases d with
      | mk e f g=>exact ⟨_,_,_,0,_,_,_,_,rfl,a,e,f,g,rfl⟩
  obtain ⟨w3,_⟩:=w3
  refine ⟨_,rfl,Cp,pdx,_,p1,T.Program.cl,T.n_Program_main,_,rfl,_,rfl,Cw,mdx,_,w1,T.Word.cl,T.n_Word_params,_,rfl,_,rfl,?_,fun D hD=>?_⟩
  · obtain ⟨_,_,e,hq,_⟩:=w2.tup_inv
    cases e; exact ⟨_,hq⟩
  refine Z5k w2 hpl hD fun H2 s2 e2=>?_
  refine ⟨D,rfl,_,SqL.of e2,us,hnl.same (sH1.trans s2),fun bd H3 hb3 s3 e3=>?_⟩
  subst huz2
  walk_at "rd"
  have s13:=s2.trans s3
  obtain ⟨A,hA1⟩:=hw
  have hA3:=hA1.same ok s13
  refine ⟨Ck,A.dx,_,hA3.wk,T.Walk.cl,T.n_Walk_waits,_,rfl,_,rfl,A.dw,_,hA3.wt,rfl,Cp,pdx,_,s13 _ _ p1,T.Program.cl,T.n_Program_main,_,rfl,_,rfl,Cw,mdx,_,s13 _ _ w1,T.Word.cl,T.n_Word_body,_,rfl,fun x7 dx7 m1 m2 mne=>?_⟩
  have s7:=Z1z (C:=Cs) m1 m2 mne
  refine ⟨x7,dx7,bd,_,_,_,rfl,Z0g,s7 _ _ e3,fun d8 H8 hd8 sx8 hx8 hbd8=>⟨rfl,?_⟩⟩
  have s8:Same H3 H8:=Z2g s7 sx8 m1
  have s18:=s13.trans s8
  have hA8:=hA1.same ok s18
  have sco:ScO (CS.mk Ct Cw Ch Cp Cl Cs Cq Ck H) H8 (.ref x7) ⟨none,none,Z2V [] ((G.main.params.map Prod.fst).zip xs)⟩:=.mk hx8 .non hbd8 (J4b (hus.mono fun _ _ r=>r.kw (Kw.of (C:=Ck) (sH1.trans s18))))
  have hAws:A.ws=[]:=A2.nil_inv hA1.rw
  refine ⟨A.wA,A.dw,A.wl,A.kl,_,_,_,A.ws,rfl,hA8.wt,hA8.hw,by rw [hAws]; show 0 < _; omega,fun t9 H9 h9 s9 e9=>?_⟩
  have hA9:=(hA8.same ok s9).push ok (.walk e9 (w3.kp (Kp.of (s18.trans s9))) (sco.kw ok (Kw.of s9)))
  have k9:Kw Ck H9 (upd H9 A.wl (.lst (A.ws++[.ref t9]))):=Kw.lst _ (s9 _ _ hA8.hw)
  generalize upd H9 A.wl (.lst (A.ws++[.ref t9]))=H10 at *
  subst huz3
  walk_at "rd"
  refine ⟨WI2 K (CS.mk Ct Cw Ch Cp Cl Cs Cq Ck H) G most n xs S' H10 x bd (.ref pa) nl,⟨n,_,0,.refl,hst,Nat.zero_add _,⟨_,hA9⟩,rfl⟩,fun mm σ H' hI=>?_⟩
  obtain ⟨S,i,st1,st2,ei,⟨A',hA'⟩,rfl⟩:=hI
  walk_at "rd"
  refine ⟨Ck,A'.dx,_,hA'.wk,T.Walk.cl,T.n_Walk_ended,_,rfl,?_⟩
  have fin:∀ {H4:Hp} {A4:Ad},WAd K (CS.mk Ct Cw Ch Cp Cl Cs Cq Ck H) G most H4 x A4 S'→uz4 { nx:=fun x H'=>Q V.non H',rt:=Q } [some (V.ref pa),some (V.ref nl),some (V.int ↑most),some (V.ref x),some (V.ref bd),none] H4:=by
    intro H4 A4 hA4
    subst huz4
    walk_at "rd"
    have smF:=J6N hst hn
    have smm:=smF.m
    have lm:A4.mz.length=S'.made.length:=hA4.rm.len
    refine ⟨Ck,A4.dx,_,hA4.wk,T.Walk.cl,T.n_Walk_made,_,rfl,_,rfl,⟨_,SqL.of hA4.hm⟩,fun D hD=>?_⟩
    refine Z4A (ys:=A4.mz.map Prod.fst) (fun σ=>∃ o1 o2,σ=[o1,o2]) (fun j v H=>∃ e,S'.made[j]?=some e∧RT K H v (mdD e)) (fun j v H1 H2 ⟨t,a,b⟩ s=>⟨t,a,b.kp (kpN s)⟩) ⟨_,_,rfl⟩ hD (by rw [sizeLine_eq,List.length_map]; omega) (fun H1 s=>SqL.of (s _ _ hA4.hm)) (fun i y σ hy hS H5 K' s5 kk=>?_) (fun vs Hc Sc hv lv hR=>?_)
    · obtain ⟨o1,o2,rfl⟩:=hS
      rw [List.getElem?_map] at hy
      obtain ⟨mi,hmi,rfl⟩:=Option.map_eq_some_iff.mp hy
      obtain ⟨e,he,t0,is,f1,f2,f3,f4⟩:=hA4.rm.at hmi
      rw [f1]
      walk_at "rd"
      refine ⟨_,SqT.of (s5 _ _ f2),rfl,⟨_,_,rfl,⟨_,_,rfl,⟨rfl,?_⟩⟩⟩⟩
      refine ⟨_,rfl,is,.inl ⟨SqL.of (s5 _ _ f3),fun p6 h6=>?_⟩⟩
      have s6:=Z0C h6 (.tup is)
      have e6:upd H5 p6 (.tup is) p6=some (.tup is):=Z0g
      generalize upd H5 p6 (.tup is)=H6 at *
      refine New.of fun p7 H7 h7 s7 e7=>?_
      refine kk _ _ _ ⟨_,_,rfl⟩ (s6.trans s7) ⟨e,he,.tup (SqT.of e7) (.cons (.str _) (.cons (.tup (SqT.of (s7 _ _ e6)) (RTs.same (J3W (f4.mono fun _ _ r=>r.kw (Kw.of (C:=Ck) (s5.trans s6)))) s7)) .nil))⟩
    have hmd:=Z7u mdD (lv.trans (by rw [List.length_map]; exact lm)) hR
    have hA5:=hA4.same ok Sc
    subst huz5
    walk_at "rd"
    refine ⟨A4.dx,_,hA5.wk,rfl,?_⟩
    refine ⟨x,G,most,A4,S',d,rfl,hA5,han,fun u H6 sx hr=>?_⟩
    have nkx:x≠A4.kl:=fun z=>by have:=hA5.wk; rw [z,hA5.hk] at this; cases this
    have nDk:D≠A4.kl:=Z3h hA4.hk hD
    refine ⟨Ck,A4.dx,_,sx _ _ nkx hA5.wk,T.Walk.cl,T.n_Walk_counted,_,rfl,?_⟩
    refine New.of fun p8 H8 h8 s8 e8=>?_
    have sb6:Same H H6:=fun b o e=>sx _ _ (Z0m e hA5.ob.2.2.1) (hA5.sb _ _ e)
    refine q _ _ (sb6.trans s8) (.tup (SqT.of e8) (.cons (hr.same s8).rd (.cons (.int _) (.cons (.lst (SqL.of (s8 _ _ (sx _ _ nDk hv))) ?_) .nil))))
    exact RTs.rd (RTs.same (RTs.kp (SX.kpl sx hA5.hk) hmd) s8)
  cases st2 with
  | refl=>
    refine ite2 (fun z=>?_) (fun _=>fin hA')
    have he:S'.ended=none:=by
      have re:=hA'.re
      rw [z] at re
      generalize S'.ended=en at re
      cases re with
      | non=>rfl
      | some r=>cases r
    have hw0:S'.wait=[]:=hov.resolve_right (fun z=>z he)
    have hAw:A'.ws=[]:=by have:=hA'.rw; rw [hw0] at this; exact A2.nil_inv this
    refine ⟨Ck,A'.dx,_,hA'.wk,T.Walk.cl,T.n_Walk_waits,_,rfl,_,rfl,A'.dw,_,hA'.wt,rfl,?_⟩
    refine ⟨A'.wA,A'.dw,A'.wl,A'.kl,A'.ws,rfl,hA'.wt,hA'.hw,fun H5 s5=>⟨_,rfl,?_⟩⟩
    rw [hAw]
    exact ite2 (fun z=>by cases z) (fun _=>fin (hA'.same ok s5))
  | @step m2 _ S2 _ hs2 hr2=>
    obtain ⟨he,hne⟩:=hs2.on
    have hev:A'.ev=.non:=by have re:=hA'.re; rw [he] at re; exact Z7P re
    have sm:=J6N st1 (by omega)
    have hAw:A'.ws.isEmpty=false:=by
      have hl:=hA'.rw.len
      rw [List.length_reverse] at hl
      cases e:A'.ws with
      | nil=>rw [e] at hl; exact absurd (List.length_eq_zero_iff.mp hl.symm) hne
      | cons _ _=>rfl
    refine ite2 (fun _=>?_) (fun z=>absurd hev z)
    refine ⟨Ck,A'.dx,_,hA'.wk,T.Walk.cl,T.n_Walk_waits,_,rfl,_,rfl,A'.dw,_,hA'.wt,rfl,?_⟩
    refine ⟨A'.wA,A'.dw,A'.wl,A'.kl,A'.ws,rfl,hA'.wt,hA'.hw,fun H5 s5=>⟨_,rfl,?_⟩⟩
    rw [hAw]
    refine ite2 (fun _=>?_) (fun z=>absurd rfl z)
    have hA5:=hA'.same ok s5
    refine ⟨fun σ' H'=>∃ m',m' < m2+1∧WI2 K (CS.mk Ct Cw Ch Cp Cl Cs Cq Ck H) G most n xs S' H10 x bd (V.ref pa) nl m' σ' H',fun _ _ h=>h,A'.dx,_,hA5.wk,rfl,?_⟩
    exact ⟨x,G,most,S,S2,rfl,⟨_,hA5⟩,sm,hlen,hs2,fun H6 k6 hw6=>⟨m2,Nat.lt_succ_self _,S2,i+1,st1.snoc hs2,hr2,by omega,hw6,rfl⟩⟩
end
open P42 (Fit Z5V fit_less Z8v wdN erW yoW erH yoH Z0G Z2I lessT hsN J1O opn Oc due Res)
theorem J4Q {nm:Str} {b:Tm} (h:Fit b 60):WdOk (wdN nm b):=⟨h.1,Nat.le_trans h.2 (by omega),by show 1≤100; omega⟩
theorem J8u {way e:Nat} {lf:Tm} {is:List Nat} (hl:Fit lf 3) (hi:is.length≤9):HsOk (erH way lf e is):=by
  have wl:WdOk (wdN "less" lessT):=J4Q (fit_less.mono (by omega))
  have wb:∀ {nm wd:Str} {w e:Nat},WdOk (wdN nm (Z2I w wd lf e is)):=J4Q (Z5V hl hi)
  unfold erH erW
  split
  all_goals
    refine ⟨fun d hd=>?_,Nat.zero_le _,by simp⟩
    simp only [List.mem_cons,List.not_mem_nil,or_false] at hd
    rcases hd with rfl | rfl | rfl <;> first | exact wb | exact wl
theorem J9m {way:Nat} {lf:Tm} {is:List Nat} (hl:Fit lf 3) (hi:is.length≤9):HsOk (yoH way lf is):=by
  have wb:∀ {nm wd:Str} {w e:Nat},WdOk (wdN nm (Z2I w wd lf e is)):=J4Q (Z5V hl hi)
  unfold yoH yoW
  split
  · refine ⟨fun d hd=>?_,Nat.zero_le _,by simp⟩
    simp only [List.mem_cons,List.not_mem_nil,or_false] at hd
    rcases hd with rfl; exact wb
  · exact ⟨fun d hd=>by simp at hd,Nat.zero_le _,by simp⟩
theorem g_ok {way e:Nat} {lf:Tm} {is:List Nat} (hl:Fit lf 3) (hi:is.length≤9) (main:Wd):GOk ⟨Z0G way lf e is,main⟩:=by
  refine ⟨?_,fun h hm=>?_⟩
  · show ([("er":Str),"yo"]).Nodup
    decide
  · rcases List.mem_cons.mp hm with rfl | hm
    · exact J8u hl hi
    · cases List.mem_singleton.mp hm; exact J9m hl hi
section
variable {K:W.Frag} {H H':Hp} {c:CS}
theorem J4i {v:V} {d:Wd} (h:WdO K c H v d) (k:Kp H H'):WdO K c H' v d:=by
  cases h with
  | mk a b t=>exact .mk (k.i _ _ _ _ _ a) (b.kp k) (t.kp k)
theorem J6b {v:V} {d:Hs} (h:HsO K c H v d) (k:Kp H H'):HsO K c H' v d:=by
  cases h with
  | mk a b q t=>exact .mk (k.i _ _ _ _ _ a) (b.kp k) (SqT.kp q k) (t.mono fun _ _ r=>J4i r k)
theorem J3s {v:V} {d:Pg} (h:PgO K c H v d) (k:Kp H H'):PgO K c H' v d:=by
  cases h with
  | mk a q t m=>exact .mk (k.i _ _ _ _ _ a) (SqT.kp q k) (t.mono fun _ _ r=>J6b r k) (J4i m k)
end
noncomputable def ocD:Oc→PyData
  | .val (.int n)=>.tuple [.str "value",.int n]
  | .val _=>.none
  | .stop e=>.tuple (e.map .str)
theorem J6D {yo:Bool} {c:Nat} {S:Ws} {o:Oc} (h:Res [] [] [(hsN yo,[])] c 0 S o) (ho:(∃ d,o=.stop d)∨∃ n,o=.val (.int n)):(S.wait=[]∨S.ended≠none)∧Ans S (ocD o)∧wkD S (ocD o)=.tuple [ocD o,.int (c:Nat),.list [.tuple [.str (hsN yo),.tuple []]]]:=by
  rcases ho with ⟨d,rfl⟩ | ⟨n,rfl⟩
  · obtain ⟨h1,h2,h3⟩:=h
    refine ⟨.inr (by rw [h1]; exact fun z=>by cases z),.ended h1,?_⟩
    unfold wkD; rw [h2,h3]; rfl
  · have:S=_:=h
    subst this
    exact ⟨.inl rfl,.int rfl rfl,rfl⟩
open P42 (Z3v Z2n isOf num nam slf two cal eld lessT Z7r Z2I Z3L)
inductive J0j (K:W.Frag) (vs:List V) (H:Hp) (Q:VK):Prop
  | mk (a:Addr) (ns:List Int) (k:Nat) (a1:vs=[.ref a,.int (k:Int)]) (a2:SqL K H a (ns.map V.int)) (a3:∀ c,Q (.int c) H):J0j K vs H Q
def J4H (K:W.Frag):Sp:=fun vs H Q _=>J0j K vs H Q
inductive Z8h (vs:List V) (H:Hp) (Q:VK):Prop
  | mk (c k:Int) (a1:vs=[.int c,.int k]) (a2:0≤k) (a3:k≤100000) (a4:∀ r,0≤r→r < 2147483647→Q (.int r) H):Z8h vs H Q
def J3m:Sp:=fun vs H Q _=>Z8h  vs H Q
inductive Z5s (K:W.Frag) (vs:List V) (H:Hp) (Q:VK):Prop
  | mk (v:V) (t:Tm) (n C:Nat) (a1:vs=[v,.int (n:Int),.int (C:Int)]) (a2:RT K H v t.dat) (a3:n≤9) (a4:∀ u H',Same H H'→RT K H' u (Z2n (isOf C n) t).dat→Q u H'):Z5s K vs H Q
def Z5j (K:W.Frag):Sp:=fun vs H Q _=>Z5s K vs H Q
inductive Z7x (K:W.Frag) (vs:List V) (H:Hp) (Q:VK):Prop
  | mk (wd:Str) (way e W:Nat) (v:V) (lf:Tm) (a1:vs=[.str wd,.int (way:Int),v,.int (e:Int),.int (W:Int)]) (a2:RT K H v lf.dat) (a3:∀ u H',Same H H'→RT K H' u (Z2I way wd lf e (isOf (W / 10) (W % 10))).dat→Q u H'):Z7x K vs H Q
def Z8o (K:W.Frag):Sp:=fun vs H Q _=>Z7x K vs H Q
section
variable {Cl Cs Cq Ck Ct Cw Ch Cp:Addr} {P:Program} {w:World} {K:W.Frag} {mg:Str→Option Value} {base:Heap} {B:Hp}
theorem J4q (T:Txt K mg Cl Cs Cq Ck Ct Cw Ch Cp):Has P w K mg base 1 "_law_cell_at" ["_law_script","_law_k"] (J4H K):=by
  refine Has.of T.f__law_cell_at Z4D (fun _ _ _ _ _ _ us hl=>el2 us hl fun _ _=>rfl) (fun vs H Q E h=>?_) (fun f cdv A outer s H vs Q E hr h=>?_)
  · obtain ⟨a,ns,k,rfl,_⟩:=h
    rfl
  obtain ⟨a,ns,k,rfl,sq,q⟩:=h
  refine ⟨_,(Z0c (Z0H (Z0p J5Z (pvF 1) (Z1r Z2Z rfl T.z_len J1k (Z0a (pvF 0) Z0b)) (Z0x _)) (Z0e (Z0q (Z0L (r:=Z1p K) Z0z (pvF 0) (pvF 1) (fun _ _=>rfl)))) Z0A)
    (Z0e (Z0q Z0h))),?_⟩
  walk_at "rd"
  refine ⟨_,.inl sq,ite2 (fun h=>?_) fun _=>q _⟩
  rw [List.length_map] at h
  have hk:k < ns.length:=by omega
  exact ⟨_,sq,_,Z0F (show (ns.map V.int)[k]?=some (.int ns[k]) by rw [List.getElem?_map,List.getElem?_eq_getElem hk]; rfl),q _⟩
theorem J2L (T:Txt K mg Cl Cs Cq Ck Ct Cw Ch Cp):Has P w K mg base 1 "_law_mixed" ["_law_cell","_law_k"] J3m:=by
  refine Has.of T.f__law_mixed Z5H (fun _ _ _ _ _ _ us hl=>el2 us hl fun _ _=>rfl) (fun vs H Q E h=>?_) (fun f cdv A outer s H vs Q E hr h=>?_)
  · obtain ⟨c,k,rfl,_⟩:=h
    rfl
  obtain ⟨c,k,rfl,k0,k1,q⟩:=h
  refine ⟨_,(Z0e (Z0q (Z0y Z1w (Z0y Z2c (Z0y Z2c (Z0y Z2c (Z0y Z3m (pvF 0) Z0h) (Z0y Z3m (Z0y Z3m Z0h (pvF 1)) (pvF 1))) (Z0y Z3m Z0h (pvF 1))) Z0h) Z0h))),?_⟩
  walk_at "rd"
  exact ⟨.inr ⟨by omega,by omega⟩,q _ (Int.emod_nonneg _ (by decide)) (Int.emod_lt_of_pos _ (by decide))⟩
noncomputable def WiI (K:W.Frag) (H:Hp) (t:Tm) (n C:Nat) (i:Nat) (σ:St) (H':Hp):Prop:=∃ u o3 o4,Same H H'∧RT K H' u (Z2n (isOf C i) t).dat∧σ=[some u,some (.int (n:Int)),some (.int (C:Int)),o3,o4]
theorem Z8L (T:Txt K mg Cl Cs Cq Ck Ct Cw Ch Cp):Has P w K mg base 1 "_law_within" ["_law_term","_law_wraps","_law_cell"] (Z5j K):=by
  refine Has.of T.f__law_within sc__law_within (fun _ _ _ _ _ _ us hl=>el3 us hl fun _ _ _=>rfl) (fun vs H Q E h=>?_) (fun f cdv A outer s H vs Q E hr h=>?_)
  · obtain ⟨v,t,n,C,rfl,_⟩:=h
    rfl
  obtain ⟨v,t,n,C,rfl,rv,hn,q⟩:=h
  refine ⟨_,(Z0c (Z3a PassesOwn.never rfl (Z4M rfl T.z_range (Z0a (pvF 1) Z0b)) (Z0s (i:=3) sc__law_within.nd rfl (Or.inl rfl)) (Z0c (Z0u (i:=4) sc__law_within.nd rfl (Or.inl rfl) (Z0P (Z0a (Z0k (Z0a Z0f (Z0a Z0f (Z0a (Z0k (Z0a Z0f (Z0a Z0h Z0b))) (Z0a (pvF 0) Z0b))))) (Z0a (Z0k (Z0a Z0f (Z0a (Z0k (Z0a Z0f (Z0a J5S Z0b))) (Z0a (pvF 0) (Z0a (Z0k (Z0a Z0f (Z0a Z0h Z0b))) Z0b))))) Z0b))))
    (Z0c (Z0u (i:=4) sc__law_within.nd rfl (Or.inl rfl) (Z0y Z7L (pvF 4) (Z0P (Z0a (Z0k (Z0a Z0f (Z0a Z0f (Z0a (Z0k (Z0a Z0f (Z0a Z0h Z0b))) (Z0a (pvF 0) Z0b))))) (Z0a (Z0k (Z0a Z0f (Z0a Z0f (Z0a (Z0k (Z0a Z0f (Z0a Z0h Z0b))) (Z0a (pvF 0) Z0b))))) Z0b)))))
    (Z0e (Z0u (i:=0) sc__law_within.nd rfl (Or.inl rfl) (Z0L (r:=Z1p K) Z0z (pvF 4) (Z0y Z1w (Z0y Z8y (pvF 2) (Z0y Z2c Z0h (Z0y Z3m Z0h (pvF 3)))) Z0h) (fun _ _=>rfl)))))))
    (Z0e (Z0q (pvF 0)))),?_⟩
  refine seq2 fun uz1 huz1=>?_
  walk_at "rd"
  refine ⟨by omega,by omega,?_⟩
  rw [Int.toNat_natCast]
  refine Z3X (WiI K H t n C) ⟨v,none,none,Same.refl _,rv,rfl⟩ (fun i σ H' hi hI=>?_) (fun σ H' hI=>?_)
  · obtain ⟨u,o3,o4,sI,ru,rfl⟩:=hI
    refine seq3 fun uy2 huy2 uy1 huy1=>?_
    walk_at "rd"
    refine New.of fun p1 H1 h1 s1 e1=>?_
    refine New.of fun p2 H2 h2 s2 e2=>?_
    refine New.of fun p3 H3 h3 s3 e3=>?_
    refine New.of fun p4 H4 h4 s4 e4=>?_
    refine New.of fun p5 H5 h5 s5 e5=>?_
    refine New.of fun p6 H6 h6 s6 e6=>?_
    have U6:Same H6 H6:=Same.refl _
    have U5:Same H5 H6:=s6.trans U6
    have U4:Same H4 H6:=s5.trans U5
    have U3:Same H3 H6:=s4.trans U4
    have U2:Same H2 H6:=s3.trans U3
    have U1:Same H1 H6:=s2.trans U2
    have U0:Same H' H6:=s1.trans U1
    have e1:=U1 _ _ e1
    have e2:=U2 _ _ e2
    have e3:=U3 _ _ e3
    have e4:=U4 _ _ e4
    have e5:=U5 _ _ e5
    have r0:RT K H6 (.ref p2) (Z3v 0 (Z2n (isOf C i) t)).dat:=.tup (SqT.of e2) (.cons (.str _) (.cons (.str _) (.cons (.tup (SqT.of e1) (.cons (.str _) (.cons (.int _) .nil))) (.cons (ru.same U0) .nil))))
    have r1:RT K H6 (.ref p5) (Z3v 1 (Z2n (isOf C i) t)).dat:=.tup (SqT.of e5) (.cons (.str _) (.cons (.tup (SqT.of e3) (.cons (.str _) (.cons (.bl _) .nil))) (.cons (ru.same U0) (.cons (.tup (SqT.of e4) (.cons (.str _) (.cons (.int _) .nil))) .nil))))
    have V0:=U0
    clear U0 U1 U2 U3 U4 U5 U6 e1 e2 e3 e4 e5 s1 s2 s3 s4 s5 s6 h1 h2 h3 h4 h5 h6
    subst huy1
    walk_at "rd"
    refine New.of fun p7 H7 h7 s7 e7=>?_
    refine New.of fun p8 H8 h8 s8 e8=>?_
    refine New.of fun p9 H9 h9 s9 e9=>?_
    refine New.of fun p10 H10 h10 s10 e10=>?_
    refine New.of fun p11 H11 h11 s11 e11=>?_
    have U11:Same H11 H11:=Same.refl _
    have U10:Same H10 H11:=s11.trans U11
    have U9:Same H9 H11:=s10.trans U10
    have U8:Same H8 H11:=s9.trans U9
    have U7:Same H7 H11:=s8.trans U8
    have U0:Same H6 H11:=s7.trans U7
    have e7:=U7 _ _ e7
    have e8:=U8 _ _ e8
    have e9:=U9 _ _ e9
    have e10:=U10 _ _ e10
    refine ⟨_,U0 _ _ e6,_,e11,by simp,?_⟩
    refine New.of fun p12 H12 h12 s12 e12=>?_
    have rs:RTs K H12 [.ref p2,.ref p5,.ref p8,.ref p10] [(Z3v 0 (Z2n (isOf C i) t)).dat,(Z3v 1 (Z2n (isOf C i) t)).dat,(Z3v 2 (Z2n (isOf C i) t)).dat,(Z3v 3 (Z2n (isOf C i) t)).dat]:=
      .cons (r0.same (U0.trans s12)) (.cons (r1.same (U0.trans s12)) (.cons (.tup (SqT.of (s12 _ _ e8)) (.cons (.str _) (.cons (.str _) (.cons (.tup (SqT.of (s12 _ _ e7)) (.cons (.str _) (.cons (.int _) .nil))) (.cons (ru.same (V0.trans (U0.trans s12))) .nil))))) (.cons (.tup (SqT.of (s12 _ _ e10)) (.cons (.str _) (.cons (.str _) (.cons (.tup (SqT.of (s12 _ _ e9)) (.cons (.str _) (.cons (.int _) .nil))) (.cons (ru.same (V0.trans (U0.trans s12))) .nil))))) .nil)))
    subst huy2
    walk_at "rd"
    have ed:((C:Int).fdiv (1+3 * (i:Int)) % 4)=((C / (1+3 * i) % 4:Nat):Int):=by
      rw [Int.fdiv_eq_ediv_of_nonneg _ (by omega)]; rfl
    rw [ed]
    obtain ⟨x,hx,rx⟩:∃ x,atI [V.ref p2,V.ref p5,V.ref p8,V.ref p10] ((C / (1+3 * i) % 4:Nat):Int)=some x∧RT K H12 x (Z3v (C / (1+3 * i) % 4) (Z2n (isOf C i) t)).dat:=by
      have h4:C / (1+3 * i) % 4 < 4:=Nat.mod_lt _ (by decide)
      generalize C / (1+3 * i) % 4=j at h4 ⊢
      match j,h4 with
      | 0,_=>exact ⟨_,Z0F rfl,by obtain ⟨_,h,r⟩:=rs.at (i:=0) rfl; cases h; exact r⟩
      | 1,_=>exact ⟨_,Z0F rfl,by obtain ⟨_,h,r⟩:=rs.at (i:=1) rfl; cases h; exact r⟩
      | 2,_=>exact ⟨_,Z0F rfl,by obtain ⟨_,h,r⟩:=rs.at (i:=2) rfl; cases h; exact r⟩
      | 3,_=>exact ⟨_,Z0F rfl,by obtain ⟨_,h,r⟩:=rs.at (i:=3) rfl; cases h; exact r⟩
    refine ⟨by omega,by omega,by omega,_,SqL.of e12,_,hx,x,_,_,sI.trans (V0.trans (U0.trans s12)),?_,rfl⟩
    rw [P42.Z9H]
    exact rx
  · obtain ⟨u,o3,o4,sI,ru,rfl⟩:=hI
    subst huz1
    walk_at "rd"
    exact q _ _ sI ru
end
open P42 (Z3v Z2n isOf num nam slf two cal eld lessT Z7r Z2I Z3L Z0G erH yoH erW yoW wdN)
inductive Z6P (K:W.Frag) (vs:List V) (H:Hp) (Q:VK):Prop
  | mk (way e W:Nat) (v:V) (lf:Tm) (a1:vs=[.int (way:Int),v,.int (e:Int),.int (W:Int)]) (a2:RT K H v lf.dat) (a3:way < 4) (a4:∀ u H',Same H H'→RT K H' u (.tuple ((Z0G way lf e (isOf (W / 10) (W % 10))).map J0y))→Q u H'):Z6P K vs H Q
def J1J (K:W.Frag):Sp:=fun vs H Q _=>Z6P K vs H Q
theorem Z5f {K:W.Frag} {H:Hp} {p:Addr} {x:Str} (h:H p=some (.tup [.str "name",.str x])):RT K H (.ref p) (nam x).dat:=.tup (SqT.of h) (.cons (.str _) (.cons (.str _) .nil))
theorem Z3D {K:W.Frag} {H:Hp} {p:Addr} {i:Int} (h:H p=some (.tup [.str "number",.int i])):RT K H (.ref p) (num i).dat:=.tup (SqT.of h) (.cons (.str _) (.cons (.int _) .nil))
noncomputable def wayE:Nat→Nat
  | 0=>0
  | 1=>4
  | 2=>2
  | _=>4
theorem Z2P {H H':Hp} {a:Addr} {o:HO} (s:Same H H') (n:H a=none):Same H (upd H' a o):=fun b u hb=>by rw [Z0j (Z0m hb n)]; exact s _ _ hb
section
variable {Cl Cs Cq Ck Ct Cw Ch Cp:Addr} {P:Program} {w:World} {K:W.Frag} {mg:Str→Option Value} {base:Heap} {B:Hp}
theorem J2u (T:Txt K mg Cl Cs Cq Ck Ct Cw Ch Cp) (h__law_within:Has P w K mg base 1 "_law_within" ["_law_term","_law_wraps","_law_cell"] (Z5j K)):Has P w K mg base 2 "_law_again" ["_law_word","_law_way","_law_leaf","_law_extra","_law_wraps"] (Z8o K):=by
  refine Has.of T.f__law_again sc__law_again (fun _ _ _ _ _ _ us hl=>el5 us hl fun _ _ _ _ _=>rfl) (fun vs H Q E h=>?_) (fun f cdv A outer s H vs Q E hr h=>?_)
  · obtain ⟨wd,way,e,W,v,lf,rfl,_⟩:=h
    rfl
  obtain ⟨wd,way,e,W,v,lf,rfl,rv,q⟩:=h
  refine ⟨_,(Z0c (Z0u (i:=5) sc__law_again.nd rfl (Or.inl rfl) (Z0k (Z0a Z0f (Z0a Z0f (Z0a (Z0k (Z0a Z0f (Z0a Z0f Z0b))) (Z0a (Z0k (Z0a Z0f (Z0a Z0h Z0b))) Z0b))))))
    (Z0c (Z0H (Z0p Z1a (pvF 1) Z0h (Z0x _)) (Z0e (Z0u (i:=6) sc__law_again.nd rfl (Or.inl rfl) (Z0k (Z0a Z0f (Z0a (pvF 0) (Z0a (Z0k (Z0a (Z0k (Z0a Z0f (Z0a Z0f Z0b))) Z0b)) Z0b)))))) (Z0e (Z0H (Z0p Z1a (pvF 1) Z0h (Z0x _)) (Z0e (Z0u (i:=6) sc__law_again.nd rfl (Or.inl rfl) (Z0k (Z0a Z0f (Z0a (Z0k (Z0a Z0f Z0b)) (Z0a (pvF 0) (Z0a (Z0k (Z0a (Z0k (Z0a Z0f (Z0a (Z0k (Z0a Z0f Z0b)) (Z0a Z0f (Z0a (Z0k (Z0a (Z0k (Z0a Z0f (Z0a Z0f Z0b))) Z0b)) Z0b))))) Z0b)) Z0b))))))) (Z0e (Z0u (i:=6) sc__law_again.nd rfl (Or.inl rfl) (Z0k (Z0a Z0f (Z0a (Z0k (Z0a Z0f Z0b)) (Z0a (pvF 0) (Z0a (Z0k (Z0a (pvF 5) Z0b)) Z0b))))))))))
    (Z0c (Z0H (Z0p Z1a (pvF 1) Z0h (Z0x _)) (Z0e (Z0u (i:=6) sc__law_again.nd rfl (Or.inl rfl) (Z0k (Z0a Z0f (Z0a Z0f (Z0a (pvF 6) (Z0a (Z0k (Z0a Z0f (Z0a (pvF 3) Z0b))) Z0b))))))) Z0A)
    (Z0e (Z0q (Z0k (Z0a Z0f (Z0a (Z0k (Z0a Z0f (Z0a Z0f (Z0a (Z0k (Z0a Z0f (Z0a Z0f Z0b))) (Z0a (Z0k (Z0a Z0f (Z0a Z0h Z0b))) Z0b))))) (Z0a (pvF 2) (Z0a (Z0J h__law_within hr (by decide) rfl (Z0a (pvF 6) (Z0a (Z0y Z1w (pvF 4) Z0h) (Z0a (Z0y Z1A (pvF 4) Z0h) Z0b)))) Z0b)))))))))),?_⟩
  refine seq4 fun uz3 huz3 uz2 huz2 uz1 huz1=>?_
  walk_at "rd"
  refine New.of fun p1 H1 h1 s1 e1=>?_
  refine New.of fun p2 H2 h2 s2 e2=>?_
  refine New.of fun p3 H3 h3 s3 e3=>?_
  have U3:Same H3 H3:=Same.refl _
  have U2:Same H2 H3:=s3.trans U3
  have U1:Same H1 H3:=s2.trans U2
  have U0:Same H H3:=s1.trans U1
  have e1:=U1 _ _ e1
  have e2:=U2 _ _ e2
  have rl:RT K H3 (.ref p3) lessT.dat:=.tup (SqT.of e3) (.cons (.str _) (.cons (.str _) (.cons (.tup (SqT.of e1) (.cons (.str _) (.cons (.str _) .nil))) (.cons (.tup (SqT.of e2) (.cons (.str _) (.cons (.int _) .nil))) .nil))))
  have V0:=U0
  clear U0 U1 U2 U3 e1 e2 s1 s2 s3 h1 h2 h3
  have key:∀ {H5:Hp} {mv:V},Same H3 H5→RT K H5 mv (Z7r way wd e).dat→uz3 { nx:=fun x H'=>Q V.non H',rt:=Q } [some (V.str wd),some (V.int ↑way),some v,some (V.int ↑e),some (V.int ↑W),some (V.ref p3),some mv] H5:=by
    intro H5 mv s5 rm
    subst huz3
    walk_at "rd"
    refine New.of fun p6 H6 h6 s6 e6=>?_
    refine New.of fun p7 H7 h7 s7 e7=>?_
    refine New.of fun p8 H8 h8 s8 e8=>?_
    have U8:Same H8 H8:=Same.refl _
    have U7:Same H7 H8:=s8.trans U8
    have U6:Same H6 H8:=s7.trans U7
    have U0:Same H5 H8:=s6.trans U6
    have e6:=U6 _ _ e6
    have e7:=U7 _ _ e7
    refine ⟨mv,_,W % 10,W / 10,rfl,rm.same U0,by omega,fun u H9 s9 ru=>New.of fun p10 H10 h10 s10 e10=>?_⟩
    have s0:=V0.trans (s5.trans (U0.trans (s9.trans s10)))
    have s8:=s9.trans s10
    exact q _ _ s0 (.tup (SqT.of e10) (.cons (.str _) (.cons (.tup (SqT.of (s8 _ _ e8)) (.cons (.str _) (.cons (.str _) (.cons (Z5f (s8 _ _ e6)) (.cons (Z3D (s8 _ _ e7)) .nil))))) (.cons (rv.same s0) (.cons (ru.same s10) .nil)))))
  have key2:∀ {H5:Hp} {mv:V},Same H3 H5→(way=0→RT K H5 mv (cal slf wd lessT).dat)→(way≠0→RT K H5 mv (Z7r way wd e).dat)→uz2 { nx:=fun x H'=>Q V.non H',rt:=Q } [some (V.str wd),some (V.int ↑way),some v,some (V.int ↑e),some (V.int ↑W),some (V.ref p3),some mv] H5:=by
    intro H5 mv s5 r0 r1
    subst huz2
    walk_at "rd"
    refine ite2 (fun z=>?_) (fun z=>key s5 (r1 (by omega)))
    have z:way=0:=by omega
    subst z
    refine New.of fun p6 H6 h6 s6 e6=>?_
    refine New.of fun p7 H7 h7 s7 e7=>?_
    exact key (s5.trans (s6.trans s7)) (.tup (SqT.of e7) (.cons (.str _) (.cons (.str _) (.cons ((r0 rfl).same (s6.trans s7)) (.cons (Z3D (s7 _ _ e6)) .nil)))))
  subst huz1
  walk_at "rd"
  refine ite2 (fun z=>?_) (fun z=>ite2 (fun z2=>?_) (fun z2=>?_))
  · have z:way=1:=by omega
    subst z
    refine New.of fun p4 H4 h4 s4 e4=>?_
    refine New.of fun p5 H5 h5 s5 e5=>?_
    refine New.of fun p6 H6 h6 s6 e6=>?_
    have U6:Same H6 H6:=Same.refl _
    have U5:Same H5 H6:=s6.trans U6
    have U4:Same H4 H6:=s5.trans U5
    have U0:Same H3 H6:=s4.trans U4
    have e4:=U4 _ _ e4
    have e5:=U5 _ _ e5
    exact key2 U0 (fun z=>by cases z) (fun _=>.tup (SqT.of e6) (.cons (.str _) (.cons (.str _) (.cons (.tup (SqT.of e5) (.cons (Z5f e4) .nil)) .nil))))
  · have z:way=2:=by omega
    subst z
    refine New.of fun p4 H4 h4 s4 e4=>?_
    refine New.of fun p5 H5 h5 s5 e5=>?_
    refine New.of fun p6 H6 h6 s6 e6=>?_
    refine New.of fun p7 H7 h7 s7 e7=>?_
    refine New.of fun p8 H8 h8 s8 e8=>?_
    refine New.of fun p9 H9 h9 s9 e9=>?_
    refine New.of fun p10 H10 h10 s10 e10=>?_
    have U10:Same H10 H10:=Same.refl _
    have U9:Same H9 H10:=s10.trans U10
    have U8:Same H8 H10:=s9.trans U9
    have U7:Same H7 H10:=s8.trans U8
    have U6:Same H6 H10:=s7.trans U7
    have U5:Same H5 H10:=s6.trans U6
    have U4:Same H4 H10:=s5.trans U5
    have U0:Same H3 H10:=s4.trans U4
    have e4:=U4 _ _ e4
    have e5:=U5 _ _ e5
    have e6:=U6 _ _ e6
    have e7:=U7 _ _ e7
    have e8:=U8 _ _ e8
    have e9:=U9 _ _ e9
    exact key2 U0 (fun z=>by cases z) (fun _=>.tup (SqT.of e10) (.cons (.str _) (.cons (.tup (SqT.of e4) (.cons (.str _) .nil)) (.cons (.str _) (.cons (.tup (SqT.of e9) (.cons (.tup (SqT.of e8) (.cons (.str _) (.cons (.tup (SqT.of e5) (.cons (.str _) .nil)) (.cons (.str _) (.cons (.tup (SqT.of e7) (.cons (Z5f e6) .nil)) .nil))))) .nil)) .nil)))))
  · skip
    refine New.of fun p4 H4 h4 s4 e4=>?_
    refine New.of fun p5 H5 h5 s5 e5=>?_
    refine New.of fun p6 H6 h6 s6 e6=>?_
    have U6:Same H6 H6:=Same.refl _
    have U5:Same H5 H6:=s6.trans U6
    have U4:Same H4 H6:=s5.trans U5
    have U0:Same H3 H6:=s4.trans U4
    have e4:=U4 _ _ e4
    have e5:=U5 _ _ e5
    have rc:RT K H6 (.ref p6) (cal slf wd lessT).dat:=.tup (SqT.of e6) (.cons (.str _) (.cons (.tup (SqT.of e4) (.cons (.str _) .nil)) (.cons (.str _) (.cons (.tup (SqT.of e5) (.cons (rl.same U0) .nil)) .nil))))
    refine key2 U0 (fun _=>rc) (fun z0=>?_)
    have:Z7r way wd e=cal slf wd lessT:=by
      match way,z0,z,z2 with
      | 0,h,_,_=>exact absurd rfl h
      | 1,_,h,_=>exact absurd rfl h
      | 2,_,_,h=>exact absurd rfl h
      | n+3,_,_,_=>rfl
    rw [this]; exact rc
theorem J0H (T:Txt K mg Cl Cs Cq Ck Ct Cw Ch Cp) (h__law_again:Has P w K mg base 2 "_law_again" ["_law_word","_law_way","_law_leaf","_law_extra","_law_wraps"] (Z8o K)):Has P w K mg base 3 "_law_houses" ["_law_way","_law_leaf","_law_extra","_law_wraps"] (J1J K):=by
  refine Has.of T.f__law_houses sc__law_houses (fun _ _ _ _ _ _ us hl=>el4 us hl fun _ _ _ _=>rfl) (fun vs H Q E h=>?_) (fun f cdv A outer s H vs Q E hr h=>?_)
  · obtain ⟨way,e,W,v,lf,rfl,_⟩:=h
    rfl
  obtain ⟨way,e,W,v,lf,rfl,rv,hw,q⟩:=h
  refine ⟨_,(Z0c (Z0u (i:=4) sc__law_houses.nd rfl (Or.inl rfl) (Z0k (Z0a (Z0k (Z0a Z0f (Z0a Z0f Z0b))) Z0b)))
    (Z0c (Z0u (i:=5) sc__law_houses.nd rfl (Or.inl rfl) (Z0k (Z0a Z0f (Z0a (pvF 4) (Z0a Z0f (Z0a (Z0k (Z0a Z0f (Z0a Z0f (Z0a (Z0k (Z0a Z0f (Z0a Z0f Z0b))) (Z0a (Z0k (Z0a Z0f (Z0a Z0h Z0b))) Z0b))))) Z0b))))))
    (Z0c (Z0u (i:=6) sc__law_houses.nd rfl (Or.inl rfl) (Z0P (Z0a (Z0k (Z0a Z0f (Z0a (pvF 4) (Z0a Z0f (Z0a (Z0J h__law_again hr (by decide) rfl (Z0a Z0f (Z0a (Z0L (r:=Z1p K) Z0z (Z0P (Z0a Z0h (Z0a Z0h (Z0a Z0h (Z0a Z0h Z0b))))) (pvF 0) (fun _ _=>rfl)) (Z0a (pvF 1) (Z0a (pvF 2) (Z0a (pvF 3) Z0b)))))) Z0b))))) (Z0a (pvF 5) Z0b))))
    (Z0c (Z0u (i:=7) sc__law_houses.nd rfl (Or.inl rfl) (Z0P Z0b))
    (Z0c (Z0H (Z0p Z1a (pvF 0) Z0h (Z0x _)) (Z0e (Z0u (i:=7) sc__law_houses.nd rfl (Or.inl rfl) (Z0P (Z0a (Z0k (Z0a Z0f (Z0a (pvF 4) (Z0a Z0f (Z0a (Z0J h__law_again hr (by decide) rfl (Z0a Z0f (Z0a Z0h (Z0a (pvF 1) (Z0a Z0h (Z0a (pvF 3) Z0b)))))) Z0b))))) Z0b)))) Z0A)
    (Z0c (Z0H (Z0p Z1a (pvF 0) Z0h (Z0x _)) (Z0c (Z3i (Z0k (Z0a Z0f (Z0a (pvF 4) (Z0a Z0f (Z0a (Z0J h__law_again hr (by decide) rfl (Z0a Z0f (Z0a Z0h (Z0a (pvF 1) (Z0a Z0h (Z0a (pvF 3) Z0b)))))) Z0b))))) (Z8g (pvF 6) Z0h Z3Q))
    (Z0e (Z0B (Z4m PySem.F.plainAttrs_list PySem.F.slot_list_append PySem.F.type_list_append Z1y (pvF 6) (Z0a (Z0k (Z0a Z0f (Z0a (pvF 4) (Z0a Z0f (Z0a (Z0J h__law_again hr (by decide) rfl (Z0a Z0f (Z0a Z0h (Z0a (pvF 1) (Z0a Z0h (Z0a (pvF 3) Z0b)))))) Z0b))))) Z0b))))) Z0A)
    (Z0e (Z0q (Z0k (Z0a (Z0k (Z0a Z0f (Z0a Z2e (Z0a (Z0k Z0b) (Z0a (Z0Q Z0I rfl T.z_tuple Z1C (Z0a (pvF 6) Z0b)) Z0b))))) (Z0a (Z0k (Z0a Z0f (Z0a Z0f (Z0a (Z0k Z0b) (Z0a (Z0Q Z0I rfl T.z_tuple Z1C (Z0a (pvF 7) Z0b)) Z0b))))) Z0b))))))))))),?_⟩
  refine seq7 fun uz6 huz6 uz5 huz5 uz4 huz4 uz3 huz3 uz2 huz2 uz1 huz1=>?_
  walk_at "rd"
  refine New.of fun p1 H1 h1 s1 e1=>?_
  refine New.of fun p2 H2 h2 s2 e2=>?_
  subst huz1
  walk_at "rd"
  refine New.of fun p3 H3 h3 s3 e3=>?_
  refine New.of fun p4 H4 h4 s4 e4=>?_
  refine New.of fun p5 H5 h5 s5 e5=>?_
  refine New.of fun p6 H6 h6 s6 e6=>?_
  have U6:Same H6 H6:=Same.refl _
  have U5:Same H5 H6:=s6.trans U6
  have U4:Same H4 H6:=s5.trans U5
  have U3:Same H3 H6:=s4.trans U4
  have U2:Same H2 H6:=s3.trans U3
  have U1:Same H1 H6:=s2.trans U2
  have U0:Same H H6:=s1.trans U1
  have e1:=U1 _ _ e1
  have e2:=U2 _ _ e2
  have e3:=U3 _ _ e3
  have e4:=U4 _ _ e4
  have e5:=U5 _ _ e5
  have rp:RT K H6 (.ref p2) (Z2r [("n","number")]):=.tup (SqT.of e2) (.cons (.tup (SqT.of e1) (.cons (.str _) (.cons (.str _) .nil))) .nil)
  have rl:RT K H6 (.ref p6) (Z3G (wdN "less" lessT)):=.tup (SqT.of e6) (.cons (.str _) (.cons rp (.cons (.str _) (.cons (.tup (SqT.of e5) (.cons (.str _) (.cons (.str _) (.cons (Z5f e3) (.cons (Z3D e4) .nil))))) .nil))))
  have V0:=U0
  clear U0 U1 U2 U3 U4 U5 U6 e1 e2 e3 e4 e5 e6 s1 s2 s3 s4 s5 s6 h1 h2 h3 h4 h5 h6
  subst huz2
  walk_at "rd"
  obtain ⟨w2,hat,hw2⟩:∃ w2:Nat,atI [V.int 0,V.int 4,V.int 2,V.int 4] (way:Int)=some (.int (w2:Int))∧w2=wayE way:=by
    match way,hw with
    | 0,_=>exact ⟨0,Z0F rfl,rfl⟩
    | 1,_=>exact ⟨4,Z0F rfl,rfl⟩
    | 2,_=>exact ⟨2,Z0F rfl,rfl⟩
    | 3,_=>exact ⟨4,Z0F rfl,rfl⟩
  refine New.of fun p7 H7 h7 s7 e7=>?_
  refine ⟨_,SqL.of e7,_,hat,"go",w2,e,W,v,lf,rfl,rv.same (V0.trans s7),fun u H8 s8 ru=>New.of fun p9 H9 h9 s9 e9=>New.of fun p10 H10 h10 s10 e10=>?_⟩
  have t6:=s7.trans (s8.trans (s9.trans s10))
  have rg:RT K H10 (.ref p9) (Z3G (wdN "go" (Z2I w2 "go" lf e (isOf (W / 10) (W % 10))))):=.tup (SqT.of (s10 _ _ e9)) (.cons (.str _) (.cons (rp.same t6) (.cons (.str _) (.cons (ru.same (s9.trans s10)) .nil))))
  have rl10:=rl.same t6
  have rp10:=rp.same t6
  have W0:=V0.trans t6
  have f10:H p10=none:=Z2y (V0.trans (s7.trans (s8.trans s9))) h10
  clear rp rl V0 t6 s7 s8 s9 s10 e7 e9 h7 h9 h10 ru
  subst huz3
  walk_at "rd"
  refine New.of fun p11 H11 h11 s11 e11=>?_
  have fin:∀ {H12:Hp} {us ys:List V} {old young:Addr},Same H H12→H12 old=some (.lst us)→H12 young=some (.lst ys)→RTs K H12 us ((erW way lf e (isOf (W / 10) (W % 10))).map Z3G)→RTs K H12 ys ((yoW way lf (isOf (W / 10) (W % 10))).map Z3G)→uz6 { nx:=fun x H'=>Q V.non H',rt:=Q } [some (V.int ↑way),some v,some (V.int ↑e),some (V.int ↑W),some (V.ref p2),some (V.ref p6),some (V.ref old),some (V.ref young)] H12:=by
    intro H12 us ys old young t12 ho hy ro ry
    subst huz6
    walk_at "rd"
    refine New.of fun r1 K1 i1 t1 g1=>⟨us,.inl ⟨SqL.of (t1 _ _ ho),fun r2 i2=>?_⟩⟩
    have t2:=Z0C i2 (.tup us)
    have g2:upd K1 r2 (.tup us) r2=some (.tup us):=Z0g
    generalize upd K1 r2 (.tup us)=K2 at *
    refine New.of fun r3 K3 i3 t3 g3=>New.of fun r4 K4 i4 t4 g4=>⟨ys,.inl ⟨SqL.of (t4 _ _ (t3 _ _ (t2 _ _ (t1 _ _ hy)))),fun r5 i5=>?_⟩⟩
    have t5:=Z0C i5 (.tup ys)
    have g5:upd K4 r5 (.tup ys) r5=some (.tup ys):=Z0g
    generalize upd K4 r5 (.tup ys)=K5 at *
    refine New.of fun r6 K6 i6 t6 g6=>New.of fun r7 K7 i7 t7 g7=>?_
    have u6:=t7
    have u5:=t6.trans u6
    have u4:=t5.trans u5
    have u3:=t4.trans u4
    have u2:=t3.trans u3
    have u1:=t2.trans u2
    have u0:=t1.trans u1
    exact q _ _ (t12.trans u0) (.tup (SqT.of g7) (.cons (.tup (SqT.of (u3 _ _ g3)) (.cons (.str _) (.cons .non (.cons (.tup (SqT.of (u1 _ _ g1)) .nil) (.cons (.tup (SqT.of (u2 _ _ g2)) (ro.same u0)) .nil))))) (.cons (.tup (SqT.of (u6 _ _ g6)) (.cons (.str _) (.cons (.str _) (.cons (.tup (SqT.of (u4 _ _ g4)) .nil) (.cons (.tup (SqT.of (u5 _ _ g5)) (ry.same u0)) .nil))))) .nil)))
  have fin5:∀ {H12:Hp} {ys:List V} {young:Addr},Same H10 H12→H10 young=none→H12 young=some (.lst ys)→RTs K H12 ys ((yoW way lf (isOf (W / 10) (W % 10))).map Z3G)→uz5 { nx:=fun x H'=>Q V.non H',rt:=Q } [some (V.int ↑way),some v,some (V.int ↑e),some (V.int ↑W),some (V.ref p2),some (V.ref p6),some (V.ref p10),some (V.ref young)] H12:=by
    intro H12 ys young t12 fy hy ry
    subst huz5
    walk_at "rd"
    have ny:young≠p10:=fun z=>by rw [z,e10] at fy; cases fy
    have o12:=t12 _ _ e10
    refine ite2 (fun z=>?_) (fun z=>?_)
    · have z:way=3:=by omega
      subst z
      refine ⟨"on",4,0,W,v,lf,rfl,rv.same (W0.trans t12),fun u1 K1 t1 ru1=>New.of fun q2 K2 i2 t2 g2=>?_⟩
      have tt:=t1.trans t2
      refine ⟨_,tt _ _ o12,0,rfl,.inl ⟨rfl,_,SqL.of Z0g⟩,?_⟩
      have kp:Kp K2 (upd K2 p10 (.lst ([V.ref p9,V.ref p6].set 0 (V.ref q2)))):=Kp.lst _ (tt _ _ o12)
      have ss:Same H (upd K2 p10 (.lst ([V.ref p9,V.ref p6].set 0 (V.ref q2)))):=Z2P (W0.trans (t12.trans tt)) f10
      have hy2:upd K2 p10 (.lst ([V.ref p9,V.ref p6].set 0 (V.ref q2))) young=some (.lst ys):=by rw [Z0j ny]; exact tt _ _ hy
      have ry2:=(ry.same tt).kp kp
      have rq2:RT K K2 (.ref q2) (Z3G (wdN "go" (Z2I 4 "on" lf 0 (isOf (W / 10) (W % 10))))):=.tup (SqT.of g2) (.cons (.str _) (.cons (rp10.same (t12.trans tt)) (.cons (.str _) (.cons (ru1.same t2) .nil))))
      have rq3:=rq2.kp kp
      have rl3:=(rl10.same (t12.trans tt)).kp kp
      have rp3:=(rp10.same (t12.trans tt)).kp kp
      have ho3:upd K2 p10 (.lst ([V.ref p9,V.ref p6].set 0 (V.ref q2))) p10=some (.lst [V.ref q2,V.ref p6]):=Z0g
      generalize upd K2 p10 (.lst ([V.ref p9,V.ref p6].set 0 (V.ref q2)))=K3 at *
      refine ⟨"go",4,0,W,v,lf,rfl,rv.same ss,fun u4 K4 t4 ru4=>New.of fun q5 K5 i5 t5 g5=>?_⟩
      have t45:=t4.trans t5
      have kp5:Kp K5 (upd K5 p10 (.lst ([V.ref q2,V.ref p6]++[V.ref q5]))):=Kp.lst _ (t45 _ _ ho3)
      refine ⟨_,t45 _ _ ho3,by simp,fin (Z2P (ss.trans t45) f10) Z0g (by rw [Z0j ny]; exact t45 _ _ hy2) (.cons ((rq3.same t45).kp kp5) (.cons ((rl3.same t45).kp kp5) (.cons (RT.kp kp5 (.tup (SqT.of g5) (.cons (.str _) (.cons (rp3.same t45) (.cons (.str _) (.cons (ru4.same t5) .nil)))))) .nil))) ((ry2.same t45).kp kp5)⟩
    · refine fin (W0.trans t12) o12 hy ?_ ry
      have:erW way lf e (isOf (W / 10) (W % 10))=[wdN "go" (Z2I w2 "go" lf e (isOf (W / 10) (W % 10))),wdN "less" lessT]:=by
        match way,hw,z,hw2 with
        | 0,_,_,h=>subst h; rfl
        | 1,_,_,h=>subst h; rfl
        | 2,_,_,h=>subst h; rfl
        | 3,_,z,_=>exact absurd rfl z
      rw [this]
      exact .cons (rg.same t12) (.cons (rl10.same t12) .nil)
  subst huz4
  walk_at "rd"
  refine ite2 (fun z=>?_) (fun z=>?_)
  · have z:way=1:=by omega
    subst z
    refine ⟨"go",1,0,W,v,lf,rfl,rv.same (W0.trans s11),fun u H12 s12 ru=>New.of fun p13 H13 h13 s13 e13=>New.of fun p14 H14 h14 s14 e14=>?_⟩
    have t:=s11.trans (s12.trans (s13.trans s14))
    exact fin5 t (Z2y (s11.trans (s12.trans s13)) h14) e14 (.cons (.tup (SqT.of (s14 _ _ e13)) (.cons (.str _) (.cons (rp10.same t) (.cons (.str _) (.cons (ru.same (s13.trans s14)) .nil))))) .nil)
  · refine fin5 s11 h11 e11 ?_
    have:yoW way lf (isOf (W / 10) (W % 10))=[]:=by
      unfold P42.yoW
      split
      · exact absurd rfl z
      · rfl
    rw [this]; exact .nil
end
open P42 (opn opA opB hsN Oc due due1 run lvN outc)
noncomputable def nV (k:Nat):V:=.int (k:Int)
noncomputable def oV:Option Nat→V
  | none=>.non
  | some n=>.int (n:Int)
noncomputable def kvS (en:Str) (e most:Nat):List (Key×V):=[(.inr "end",.str en),(.inr "extra",.int (e:Int)),(.inr "most",.int (most:Int))]
def J6X (en:Str) (lv:Oc):Prop:=(en=""∧lv=.val (.int 5))∨(en≠""∧lv=.stop ["refused",en])
inductive J1C (K:W.Frag) (vs:List V) (H:Hp) (Q:VK):Prop
  | mk (way n:Nat) (yo:Bool) (a1:vs=[.int (way:Int),.str (hsN yo),.int (n:Int)]) (a2:way < 4) (a3:n≤50) (a4:∀ l H',Same H H'→H' l=some (.lst ((opn way yo n 0).map nV))→Q (.ref l) H'):J1C K vs H Q
def J0c (K:W.Frag):Sp:=fun vs H Q _=>J1C K vs H Q
inductive J3R (K:W.Frag) (vs:List V) (H:Hp) (Q:VK):Prop
  | mk (s tl:Addr) (ts:List (Option Nat)) (way e most:Nat) (yo:Bool) (en:Str) (lv:Oc) (a1:vs=[.ref s,.ref tl,.int (way:Int),.str (hsN yo)]) (a2:H s=some (.dK (kvS en e most))) (a3:SqL K H tl (ts.map oV)) (a4:way < 4) (a5:(∀ t∈ts,∀ n,t=some n→n≤50)) (a6:J6X en lv) (a7:e≤2) (a8:ts.length≤3) (a9:∀ u p H',Same H H'→H' u=some (.tup [p,.int ((due most way yo lv e ts 0 0).2:Nat)])→RT K H' p (ocD (due most way yo lv e ts 0 0).1)→Q (.ref u) H'):J3R K vs H Q
def J4g (K:W.Frag):Sp:=fun vs H Q _=>J3R K vs H Q
theorem J3g {way i:Nat} {yo:Bool} (h:¬ (way=1∧yo=true)):opn way yo (i+1) 0=opn way yo i 0++List.replicate (if way=2 then 2 else 1) (i+1):=by
  unfold opn
  rw [if_neg h,if_neg h]
  by_cases z:way=2
  · rw [if_pos z,if_pos z,if_pos z,P42.Z8B,Nat.zero_add]; rfl
  · rw [if_neg z,if_neg z,if_neg z,P42.Z5Z,Nat.zero_add]; rfl
theorem Z7R {α:Type} {x:α}:∀ {r:Nat},(List.replicate r [x]).flatten=List.replicate r x
  | 0=>rfl
  | r+1=>by rw [List.replicate_succ,List.flatten_cons,Z7R,List.replicate_succ]; rfl
section
variable {Cl Cs Cq Ck Ct Cw Ch Cp:Addr} {P:Program} {w:World} {K:W.Frag} {mg:Str→Option Value} {base:Heap} {B:Hp}
noncomputable def OI (K:W.Frag) (H:Hp) (way n:Nat) (yo:Bool) (i:Nat) (σ:St) (H':Hp):Prop:=∃ l o4,Same H H'∧H' l=some (.lst ((opn way yo i 0).map nV))∧σ=[some (.int (way:Int)),some (.str (hsN yo)),some (.int (n:Int)),some (.ref l),o4]
theorem J5c (T:Txt K mg Cl Cs Cq Ck Ct Cw Ch Cp):Has P w K mg base 1 "_law_open" ["_law_way","_law_house","_law_many"] (J0c K):=by
  refine Has.of T.f__law_open sc__law_open (fun _ _ _ _ _ _ us hl=>el3 us hl fun _ _ _=>rfl) (fun vs H Q E h=>?_) (fun f cdv A outer s H vs Q E hr h=>?_)
  · obtain ⟨way,n,yo,rfl,_⟩:=h
    rfl
  obtain ⟨way,n,yo,rfl,hw,hn,q⟩:=h
  refine ⟨_,(Z0c (Z0H (PW.pt (Z8a (Z0p Z1a (pvF 0) Z0h (Z0x _)) (Z5G (Z0p Z1a (pvF 1) Z0f (Z0x _))))) (Z0e (Z0q (J5f rfl rfl rfl T.z_list T.z_range (Z0a (Z0y Z2c (Z0y Z3m Z0h (pvF 2)) Z0h) Z0b)))) Z0A)
    (Z0c (Z0u (i:=3) sc__law_open.nd rfl (Or.inl rfl) (Z0P (Z0a Z0h Z0b)))
    (Z0c (Z3a PassesOwn.never rfl (J0m rfl T.z_range (Z0a Z0h (Z0a (Z0y Z2c (pvF 2) Z0h) Z0b))) (Z0s (i:=4) sc__law_open.nd rfl (Or.inl rfl)) (Z0e (Z0u (i:=3) sc__law_open.nd rfl (Or.inl rfl) (Z0y Z7L (pvF 3) (Z0y J6j (Z0P (Z0a (pvF 4) Z0b)) (Z0L (r:=Z1p K) Z0z (Z0P (Z0a Z0h (Z0a Z0h Z0b))) (Z0Q Z6J rfl T.z_int J3P (Z0a (Z2u Z1a (pvF 0) Z0h (Z0x _)) Z0b)) (fun _ _=>rfl)))))))
    (Z0e (Z0q (pvF 3)))))),?_⟩
  refine seq4 fun uz3 huz3 uz2 huz2 uz1 huz1=>?_
  walk_at "rd"
  have rest:¬ (way=1∧yo=true)→uz1 { nx:=fun x H'=>Q V.non H',rt:=Q } [some (V.int ↑way),some (V.str (hsN yo)),some (V.int ↑n),none,none] H:=by
    intro ny
    subst huz1
    walk_at "rd"
    refine New.of fun p1 H1 h1 s1 e1=>?_
    subst huz2
    walk_at "rd"
    rw [show ((n:Int)+1 - 1).toNat=n by omega]
    refine ⟨by omega,by omega,Z3X (OI K H way n yo) ⟨p1,none,s1,?_,rfl⟩ (fun i σ H' hi hI=>?_) (fun σ H' hI=>?_)⟩
    · have:opn way yo 0 0=[0]:=by
        unfold P42.opn
        rw [if_neg ny]
        split <;> rfl
      rw [this]; exact e1
    · obtain ⟨l,o4,sI,hl,rfl⟩:=hI
      have hlen:=P42.J0N (way:=way) (yo:=yo) (n:=i) (w:=0)
      walk_at "rd"
      obtain ⟨r,hr0,hat⟩:∃ r:Nat,r=(if way=2 then 2 else 1)∧atI [V.int 1,V.int 2] (if (way:Int)=2 then 1 else 0)=some (.int (r:Int)):=by
        by_cases z:way=2
        · rw [if_pos z,if_pos (by omega)]; exact ⟨2,rfl,ix1⟩
        · rw [if_neg z,if_neg (by omega)]; exact ⟨1,rfl,ix0⟩
      have hr2:r≤2:=by rw [hr0]; split <;> omega
      have ei:V.int (1+(i:Int))=nV (i+1):=congrArg V.int (by omega)
      refine New.of fun q1 H1 h1 s1 e1=>New.of fun q2 H2 h2 s2 e2=>.inr ⟨_,SqL.of e2,_,hat,_,rfl,_,s2 _ _ e1,by omega,by omega,by simp; omega,fun q3 h3=>?_⟩
      have efl:(List.replicate (r:Int).toNat [V.int (1+(i:Int))]).flatten=(List.replicate r (i+1)).map nV:=by
        rw [ei,Int.toNat_natCast,List.map_replicate]
        exact Z7R
      rw [efl]
      have s3:=Z0C h3 (.lst ((List.replicate r (i+1)).map nV))
      have e3:upd H2 q3 (.lst ((List.replicate r (i+1)).map nV)) q3=some (.lst ((List.replicate r (i+1)).map nV)):=Z0g
      generalize upd H2 q3 (.lst ((List.replicate r (i+1)).map nV))=H3 at *
      have st:=s1.trans (s2.trans s3)
      refine ⟨_,st _ _ hl,_,e3,by rw [List.length_map,List.length_map,List.length_replicate]; omega,New.of fun q4 H4 h4 s4 e4=>⟨q4,_,sI.trans (st.trans s4),?_,rfl⟩⟩
      rw [J3g ny,← hr0,List.map_append]
      exact e4
    · obtain ⟨l,o4,sI,hl,rfl⟩:=hI
      subst huz3
      walk_at "rd"
      exact q _ _ sI hl
  refine ite2 (fun z=>ite2 (fun z2=>?_) (fun z2=>rest fun z3=>z2 (by rw [z3.2]; rfl))) (fun z=>rest fun z3=>z (by rw [z3.1]; rfl))
  have hy:yo=true:=by
    cases yo with
    | true=>rfl
    | false=>exact absurd z2 (by decide)
  refine ⟨2 * n+1,by omega,by omega,New.of fun l H1 h1 s1 e1=>q _ _ s1 ?_⟩
  rw [e1]
  have:opn way yo n 0=List.range (2 * n+1):=by
    unfold P42.opn
    rw [if_pos ⟨by omega,hy⟩,P42.Z6G]
  rw [this]; rfl
noncomputable def DI (K:W.Frag) (H:Hp) (s tl:Addr) (way e most:Nat) (yo:Bool) (lv:Oc) (ts:List (Option Nat)) (i:Nat) (σ:St) (H':Hp):Prop:=∃ (tot:Int) (c:Nat) (o6 o7:Option V),Same H H'∧due most way yo lv e ts 0 0=due most way yo lv e (ts.drop i) tot c∧0≤tot∧tot≤200 * i∧σ=[some (.ref s),some (.ref tl),some (.int (way:Int)),some (.str (hsN yo)),some (.int tot),some (.int (c:Int)),o6,o7]
noncomputable def EJ (H1:Hp) (s tl:Addr) (way n:Nat) (yo:Bool) (tot:Int) (most c:Nat) (j:Nat) (σ:St) (H':Hp):Prop:=H'=H1∧∃ (cj:Nat) (o7:Option V),run most c (opn way yo n 0)=run most cj ((opn way yo n 0).drop j)∧σ=[some (.ref s),some (.ref tl),some (.int (way:Int)),some (.str (hsN yo)),some (.int tot),some (.int (cj:Int)),some (oV (some n)),o7]
theorem J7m (T:Txt K mg Cl Cs Cq Ck Ct Cw Ch Cp) (h__law_open:Has P w K mg base 1 "_law_open" ["_law_way","_law_house","_law_many"] (J0c K)):Has P w K mg base 2 "_law_due" ["_law_s","_law_turns","_law_way","_law_house"] (J4g K):=by
  refine Has.of T.f__law_due sc__law_due (fun _ _ _ _ _ _ us hl=>el4 us hl fun _ _ _ _=>rfl) (fun vs H Q E h=>?_) (fun f cdv A outer s H vs Q E hr h=>?_)
  · obtain ⟨s,tl,ts,way,e,most,yo,en,lv,rfl,_⟩:=h
    rfl
  obtain ⟨s,tl,ts,way,e,most,yo,en,lv,rfl,hs,htl,hw,hts,hen,he,hl3,q⟩:=h
  refine ⟨_,(Z0c (Z0u (i:=4) sc__law_due.nd rfl (Or.inl rfl) Z0h)
    (Z0c (Z0u (i:=5) sc__law_due.nd rfl (Or.inl rfl) Z0h)
    (Z0c (Z3a PassesOwn.never rfl (Z3p (pvF 1)) (Z0s (i:=6) sc__law_due.nd rfl (Or.inl rfl)) (Z0c (Z0H (Z0p J1A (pvF 6) Z2e (Z0x _)) (Z0e (Z0q (Z0k (Z0a (Z0k (Z0a Z0f (Z0a Z0f Z0b))) (Z0a (pvF 5) Z0b))))) Z0A)
    (Z0c (Z3a PassesOwn.never rfl (Z3p (Z0J h__law_open hr (by decide) rfl (Z0a (pvF 2) (Z0a (pvF 3) (Z0a (pvF 6) Z0b))))) (Z0s (i:=7) sc__law_due.nd rfl (Or.inl rfl)) (Z0c (Z0H (Z0p Z1a (pvF 5) (Z1L (Z2T hr) (pvF 0) Z0f (fun _ _=>rfl)) (Z0x _)) (Z0e (Z0q (Z0k (Z0a (Z0k (Z0a Z0f Z0b)) (Z0a (pvF 5) Z0b))))) Z0A)
    (Z0c (J3F (i:=5) sc__law_due.nd rfl (Or.inl rfl) Z0h J3O)
    (Z0e (Z0H (Z0p Z1a (pvF 7) Z0h (Z0x _)) (Z0e (Z0q (Z0k (Z0a (Z0k (Z0a Z0f Z0b)) (Z0a (pvF 5) Z0b))))) Z0A)))))
    (Z0c (Z0H (Z0p J7y (Z1L (Z2T hr) (pvF 0) Z0f (fun _ _=>rfl)) Z0f (Z0x _)) (Z0e (Z0q (Z0k (Z0a (Z0k (Z0a Z0f (Z0a (Z1L (Z2T hr) (pvF 0) Z0f (fun _ _=>rfl)) Z0b))) (Z0a (pvF 5) Z0b))))) Z0A)
    (Z0e (J3F (i:=4) sc__law_due.nd rfl (Or.inl rfl) (Z0y Z2c Z0h (Z0y Z3m (pvF 6) (Z1L (Z2T hr) (pvF 0) Z0f (fun _ _=>rfl)))) J3O))))))
    (Z0e (Z0q (Z0k (Z0a (Z0k (Z0a Z0f (Z0a (pvF 4) Z0b))) (Z0a (pvF 5) Z0b)))))))),?_⟩
  refine seq4 fun uz3 huz3 uz2 huz2 uz1 huz1=>?_
  walk_at "rd"
  subst huz1
  walk_at "rd"
  subst huz2
  walk_at "rd"
  refine ⟨⟨_,htl⟩,Z3z (ts.map oV) (DI K H s tl way e most yo lv ts) ⟨0,0,none,none,Same.refl _,rfl,Int.le_refl _,by simp,rfl⟩ (fun i σ H' _ hI=>?_) (fun i x σ H' hx hI=>?_) (fun σ H' hI=>?_)⟩
  · obtain ⟨tot,c,o6,o7,sI,_⟩:=hI
    exact htl.same sI
  · obtain ⟨tot,c,o6,o7,sI,hd,h0,h1,rfl⟩:=hI
    rw [List.getElem?_map] at hx
    obtain ⟨t,ht,rfl⟩:=Option.map_eq_some_iff.mp hx
    have htm:=hts t (List.mem_of_getElem? ht)
    have hdr:ts.drop i=t::ts.drop (i+1):=by
      obtain ⟨hi,rfl⟩:=List.getElem?_eq_some_iff.mp ht
      exact List.drop_eq_getElem_cons hi
    have hi:=(List.getElem?_eq_some_iff.mp ht).1
    rw [hdr] at hd
    have hs':=sI _ _ hs
    refine seq4 fun uy3 huy3 uy2 huy2 uy1 huy1=>?_
    walk_at "rd"
    cases t with
    | none=>
      refine ite2 (fun _=>New.of fun p1 H1 h1 s1 e1=>New.of fun p2 H2 h2 s2 e2=>?_) (fun z=>absurd rfl z)
      rw [hd] at q
      exact q _ _ _ (sI.trans (s1.trans s2)) e2 (.tup (SqT.of (s2 _ _ e1)) (.cons (.str _) (.cons (.str _) .nil)))
    | some n=>
      refine ite2 (fun z=>by cases z) (fun _=>?_)
      have hn:=htm n rfl
      subst huy1
      walk_at "rd"
      refine ⟨way,n,yo,rfl,hw,hn,fun l H1 s1 e1=>⟨l,rfl,⟨_,SqL.of e1⟩,?_⟩⟩
      have sH:=sI.trans s1
      have hs1:=sH _ _ hs
      have dg:∀ {k:Str} {v:V} {H5:Hp},Same H1 H5→valV (kvS en e most) (.inr k)=some v→DGet H5 s (.str k) (some v):=fun s5 hv=>by
        rw [← hv]; exact DGet.k (k:=.inr _) (s5 _ _ hs1)
      refine Z3z ((opn way yo n 0).map nV) (EJ H1 s tl way n yo tot most c) ⟨rfl,c,o7,rfl,rfl⟩ (fun j σ H5 _ hJ=>?_) (fun j x σ H5 hx hJ=>?_) (fun σ H5 hJ=>?_)
      · rw [hJ.1]; exact SqL.of e1
      · obtain ⟨rfl,cj,p7,hrun,rfl⟩:=hJ
        rw [List.getElem?_map] at hx
        obtain ⟨k,hk,rfl⟩:=Option.map_eq_some_iff.mp hx
        have hkd:(opn way yo n 0).drop j=k::(opn way yo n 0).drop (j+1):=by
          obtain ⟨hi,rfl⟩:=List.getElem?_eq_some_iff.mp hk
          exact List.drop_eq_getElem_cons hi
        rw [hkd] at hrun
        walk_at "rd"
        refine ⟨_,dg (Same.refl _) rfl,rfl,ite2 (fun z=>?_) (fun z=>⟨rfl,ite2 (fun z2=>?_) (fun z2=>?_)⟩)⟩
        · have z:cj=most:=Int.ofNat.inj (V.int.inj z)
          rw [P42.J4u z] at hrun
          rw [hd,P42.Z5L hrun] at q
          exact New.of fun p1 J1 i1 t1 g1=>New.of fun p2 J2 i2 t2 g2=>q _ _ _ (sH.trans (t1.trans t2)) g2 (.tup (SqT.of (t2 _ _ g1)) (.cons (.str _) .nil))
        · have z2:k=40:=Int.ofNat.inj (V.int.inj z2)
          have z:cj≠most:=fun y=>z (by rw [y])
          subst z2
          rw [P42.J2B z] at hrun
          rw [hd,P42.Z5L hrun] at q
          exact New.of fun p1 J1 i1 t1 g1=>New.of fun p2 J2 i2 t2 g2=>q _ _ _ (sH.trans (t1.trans t2)) g2 (.tup (SqT.of (t2 _ _ g1)) (.cons (.str _) .nil))
        · have z:cj≠most:=fun y=>z (by rw [y])
          have z2:k≠40:=fun y=>z2 (by rw [y]; rfl)
          rw [P42.J6y z z2] at hrun
          exact ⟨rfl,cj+1,_,hrun,rfl⟩
      · obtain ⟨rfl,cj,p7,hrun,rfl⟩:=hJ
        rw [List.length_map,List.drop_length] at hrun
        subst huy2
        walk_at "rd"
        have hrun:run most c (opn way yo n 0)=(none,cj):=hrun
        refine ⟨_,dg (Same.refl _) rfl,rfl,?_⟩
        rcases hen with ⟨hE,rfl⟩ | ⟨hE,rfl⟩
        · refine ite2 (fun z=>absurd (by rw [hE]) z) (fun _=>?_)
          subst huy3
          walk_at "rd"
          have ne2:n * e≤50 * 2:=Nat.mul_le_mul hn he
          refine ⟨_,dg (Same.refl _) rfl,_,rfl,_,rfl,.inl ⟨by omega,by omega⟩,tot+(5+(n * e:Nat)),cj,some (oV (some n)),p7,sH,?_,by omega,by omega,?_⟩
          · rw [hd,P42.J0W hrun]
          · rw [Int.natCast_mul]
        · refine ite2 (fun _=>⟨_,dg (Same.refl _) rfl,New.of fun p1 J1 i1 t1 g1=>New.of fun p2 J2 i2 t2 g2=>?_⟩) (fun z=>absurd (fun y=>hE (V.str.inj y)) z)
          rw [hd,P42.Z7o hrun] at q
          exact q _ _ _ (sH.trans (t1.trans t2)) g2 (.tup (SqT.of (t2 _ _ g1)) (.cons (.str _) (.cons (.str _) .nil)))
  · obtain ⟨tot,c,o6,o7,sI,hd,h0,h1,rfl⟩:=hI
    subst huz3
    walk_at "rd"
    refine New.of fun p1 H1 h1 s1 e1=>New.of fun p2 H2 h2 s2 e2=>?_
    rw [List.length_map,List.drop_length] at hd
    rw [hd] at q
    exact q _ _ _ (sI.trans (s1.trans s2)) e2 (.tup (SqT.of (s2 _ _ e1)) (.cons (.str _) (.cons (.int _) .nil)))
end
open P42 (hsN Oc DOk Stp)
theorem hsN_ok {yo:Bool}:PyData.strOk (hsN yo)=true∧(hsN yo).cps.size≤6:=by cases yo <;> exact ⟨by decide +kernel,by decide +kernel⟩
theorem J5C {o:Oc} (ho:DOk 1000 o):Nice 2 200 (ocD o):=by
  rcases ho with ⟨d,rfl,hd⟩ | ⟨n,rfl,h0,h1⟩
  · rcases hd with rfl | rfl | rfl | rfl
    · exact (Nice.tup (k:=1) (n:=100) (.cons (a:=10) (b:=0) (.str (by decide +kernel) (by decide +kernel)) .nil (by omega))).mono (by omega) (by omega)
    · exact (Nice.tup (k:=1) (n:=100) (.cons (a:=10) (b:=0) (.str (by decide +kernel) (by decide +kernel)) .nil (by omega))).mono (by omega) (by omega)
    · exact (Nice.tup (k:=1) (n:=100) (.cons (a:=10) (b:=80) (.str (by decide +kernel) (by decide +kernel)) (.cons (a:=10) (b:=0) (.str (by decide +kernel) (by decide +kernel)) .nil (by omega)) (by omega))).mono (by omega) (by omega)
    · exact (Nice.tup (k:=1) (n:=100) (.cons (a:=10) (b:=80) (.str (by decide +kernel) (by decide +kernel)) (.cons (a:=10) (b:=0) (.str (by decide +kernel) (by decide +kernel)) .nil (by omega)) (by omega))).mono (by omega) (by omega)
  · exact (Nice.tup (k:=1) (n:=100) (.cons (a:=6) (b:=80) (.str (by decide +kernel) (by decide +kernel)) (.cons (a:=60) (b:=0) (.int (by omega)) .nil (by omega)) (by omega))).mono (by omega) (by omega)
theorem J2p {o:Oc} {c:Nat} {yo:Bool} (ho:DOk 1000 o) (hc:c < 1000):Nice 7 5000 (.tuple [ocD o,.int (c:Nat),.list [.tuple [.str (hsN yo),.tuple []]]]):=by
  refine Nice.tup (k:=6) (n:=5000) (.cons (a:=200) (b:=4000) ((J5C ho).mono (by omega) (by omega)) (.cons (a:=60) (b:=3500) (.int (by show ((c:Nat):Int).natAbs < 10 ^ 18; omega)) (.cons (a:=3100) (b:=0) ?_ .nil (by omega)) (by omega)) (by omega))
  have h2:Nice 4 200 (.tuple [.str (hsN yo),.tuple []]):=(Nice.tup (k:=3) (n:=200) (.cons (a:=6) (b:=190) (Nice.str hsN_ok.1 hsN_ok.2) (.cons (a:=180) (b:=0) ((Nice.tup (k:=0) (n:=0) .nil).mono (by omega) (by omega)) .nil (by omega)) (by omega)))
  have h1:NiceL 4 ((200+1) * [PyData.tuple [.str (hsN yo),.tuple []]].length) [PyData.tuple [.str (hsN yo),.tuple []]]:=NiceL.of fun d hd=>by
    cases List.mem_singleton.mp hd; exact h2
  exact (Nice.lst h1).mono (by omega) (by simp)
open P42 (hsN Oc DOk Stp LvS Lv Z4o Fit Z0G isOf num two farT nought great J1o goT sumT J1O due)
inductive J3x (K:W.Frag) (vs:List V) (H:Hp) (Q:VK):Prop
  | mk (a:Addr) (ns:List Int) (a1:vs=[.ref a]) (a2:SqL K H a (ns.map V.int)) (a3:ns.length≤63) (a4:∀ H',Q (.bl true) H'):J3x K vs H Q
def J1g (K:W.Frag):Sp:=fun vs H Q _=>J3x K vs H Q
theorem J0A {K:W.Frag} {H:Hp} {a:Addr} {ns:List Int} (hl:ns.length≤63) (hS:SqL K H a (ns.map V.int)):J1g K [.ref a] H (fun v _=>v=.bl true) fun _ _ _=>False:=⟨a,ns,rfl,hS,hl,fun _=>rfl⟩
theorem J3J {K:W.Frag} {H:Hp}:∀ {vs:List V} {ds:List PyData},vs.length=ds.length→(∀ (j:Nat) v,vs[j]?=some v→∃ d,ds[j]?=some d∧RT K H v d)→RTs K H vs ds
  | [],[],_,_=>.nil
  | v::vs,d::ds,hl,h=>by
    obtain ⟨d',e,r⟩:=h 0 v rfl
    cases e
    exact .cons r (J3J (Nat.succ.inj hl) fun j v hj=>h (j+1) v hj)
theorem J1t {K:W.Frag} {H:Hp}:∀ {vs:List V} {ds:List PyData} {i:Nat} {v:V} {d:PyData},RTs K H vs ds→RT K H v d→RTs K H (vs.set i v) (ds.set i d)
  | _,_,_,_,_,.nil,_=>.nil
  | _,_,0,_,_,.cons _ t,h=>.cons h t
  | _,_,i+1,_,_,.cons a t,h=>.cons a (J1t t h)
theorem Z8H {n L:Nat} (h:n=L+1):ixN n (-1)=some L:=by
  subst h
  unfold ixN
  rw [if_neg (by omega),if_pos (by omega)]
  exact congrArg some (by omega)
theorem J2F (xs:List V) (n:Nat) (h:n≤xs.length):cutV xs (some (n:Int)) none=xs.drop n:=by
  unfold cutV
  have e1:HT.sIx xs.length 0 (some (n:Int))=n:=by rw [HT.sIx_nat]; omega
  have e2:HT.sIx xs.length xs.length none=xs.length:=rfl
  rw [e1,e2,List.take_of_length_le (by rw [List.length_drop]; exact Nat.le_refl _)]
theorem J3e {H:Hp} {a:Addr} {kvs:List (Key×V)} (o:HO) (h:H a=some (.dK kvs)):Kp H (upd H a o):=Kp.put o h (fun _ z=>by cases z) (fun _ _ z=>by cases z) (fun _ _ _ _ z=>by cases z)
section
variable {Cl Cs Cq Ck Ct Cw Ch Cp:Addr} {P:Program} {w:World} {K:W.Frag} {mg:Str→Option Value} {base:Heap} {B:Hp}
noncomputable def TJ (H10:Hp) (a tl d p3:Addr) (C way:Nat) (yo:Bool) (en:Str) (lx:V) (i:Nat) (σ:St) (H':Hp):Prop:=∃ (ns:List Nat) (o9 o10:Option V),Same H10 H'∧H' tl=some (.lst (ns.map nV))∧ns.length=i∧(∀ n∈ns,n≤50)∧σ=[some (V.ref a),some (V.int (C:Int)),some (V.int (way:Int)),some (V.str (hsN yo)),some (V.str en),some (V.ref p3),some lx,some (V.ref d),some (V.ref tl),o9,o10,none,none,none,none,none,none,none,none]
noncomputable def BJ (K:W.Frag) (H3:Hp) (rv:V) (vs':List V) (t0:Option Nat) (ts':List (Option Nat)) (pre:St) (i:Nat) (σ:St) (H':Hp):Prop:=∃ (bv:V) (o13:Option V) (rs:Addr),rv=.ref rs∧Same H3 H'∧H' rs=some (.lst vs')∧RT K H' bv (sumT (goT t0) (ts'.take i)).dat∧σ=pre++[some bv,o13,none,none,none,none,none]
theorem J5Y (T:Txt K mg Cl Cs Cq Ck Ct Cw Ch Cp) {f:Addr} {fd:FuncData} (F:Fun K "law" "law" Z8Q f fd):FnOk P w K mg base CX0 20 f fd ["_law_script"] (J1g K):=by
  have h__law_cell_at:=J4q (P:=P) (w:=w) (base:=base) T
  have h__law_mixed:=J2L (P:=P) (w:=w) (base:=base) T
  have h__law_houses:=J0H T (J2u T (Z8L (P:=P) (w:=w) (base:=base) T))
  have h__law_due:=J7m T (J5c (P:=P) (w:=w) (base:=base) T)
  have h_shape_of:=J2S (P:=P) (w:=w) (base:=base) T
  have h_parts_of:=J3p (P:=P) (w:=w) (base:=base) T
  have h_label_of:=J2a (P:=P) (w:=w) (base:=base) T
  have h_Term_plain:=J0G (P:=P) (w:=w) (base:=base) T
  have h_Term_parts:=J1l (P:=P) (w:=w) (base:=base) T
  have h_Term_depth:=Z9U (P:=P) (w:=w) (base:=base) T
  have h_Term_size:=J2z (P:=P) (w:=w) (base:=base) T
  have h_term_of:=Z9X T h_parts_of h_label_of (J0k T h_parts_of) (J2K T h_shape_of h_Term_plain h_Term_depth h_Term_size)
  have h_pairs_of:=J2y (P:=P) (w:=w) (base:=base) T
  have h_word_of:=J5m (B:=fun _=>none) T h_term_of (J2I (B:=fun _=>none) T h_pairs_of)
  have h_house_of:=J2R (B:=fun _=>none) T h_word_of (J2n (B:=fun _=>none) T h_pairs_of)
  have h_program_of:=Z8W (B:=fun _=>none) T h_word_of h_house_of (J3h (B:=fun _=>none) T)
  have h_two_told:=Z7t T (Z8X (P:=P) (w:=w) (base:=base) T) (Z5d (P:=P) (w:=w) (base:=base) T)
  have h_el:=fun B=>Z9O (P:=P) (w:=w) (base:=base) (B:=B) T
  have h_fo:=fun B=>J3i (B:=B) T (h_el B)
  have h_fw:=fun B=>J1w (B:=B) T (h_fo B)
  have h_pl:=fun B=>J3a (B:=B) T (J1M (B:=B) T (h_el B))
  have h_si:=fun B=>J2M (P:=P) (w:=w) (base:=base) (B:=B) T
  have h_wt:=fun B=>J4p (P:=P) (w:=w) (base:=base) (B:=B) T
  have h_kn:=fun B=>J5s (P:=P) (w:=w) (base:=base) (B:=B) T
  have h_va:=fun B=>J7z (P:=P) (w:=w) (base:=base) (B:=B) T
  have h_ho:=fun B=>J7l (P:=P) (w:=w) (base:=base) (B:=B) T
  have h_be:=fun B=>J2x (B:=B) T (Z8R (B:=B) T) h_Term_parts (h_wt B) (h_kn B)
  have h_ch:=fun B=>J0U (B:=B) T h_Term_parts (J4k (B:=B) T (h_si B)) (h_wt B) (h_va B)
  have h_fi:=fun B=>J0V (B:=B) T h_Term_parts (h_kn B) (J4B (B:=B) T) (J6u (B:=B) T h_two_told (h_kn B)) (J4n (B:=B) T (h_fw B) (h_fo B) (h_si B) (h_wt B)) (h_ho B) (J7a (B:=B) T) (J5w (B:=B) T (h_ho B) (h_pl B)) (h_el B)
  have h_go:=fun B=>J4N (B:=B) T (J4w (B:=B) T) (h_be B) (h_ch B) (h_fi B)
  have h_ki:=fun B=>J2l (P:=P) (w:=w) (base:=base) (B:=B) T (J2J (B:=B) T) (J3k (B:=B) T)
  have h_wk:=J0t (B:=fun _=>none) T h_ki h_si h_wt (fun B=>J5e (B:=B) T) h_go (fun B=>J5v (B:=B) T (h_va B) (h_ho B))
  have h_walked:=h_wk.1
  have h_walked_d:=h_wk.2
  refine F.ok sc_law (fun vs H Q E h=>?_) (fun cdv A outer s H vs Q E hr h=>?_)
  · obtain ⟨a,ns,rfl,_⟩:=h
    rfl
  obtain ⟨a,sc,rfl,sq,hl,q⟩:=h
  refine ⟨_,(Z0c (Z0u (i:=1) sc_law.nd rfl (Or.inl rfl) (Z0J h__law_mixed hr (by decide) rfl (Z0a (Z0J h__law_cell_at hr (by decide) rfl (Z0a (pvF 0) (Z0a Z0h Z0b))) (Z0a Z0h Z0b))))
    (Z0c (Z0u (i:=2) sc_law.nd rfl (Or.inl rfl) (Z0y Z1w (pvF 1) Z0h))
    (Z0c (Z0u (i:=3) sc_law.nd rfl (Or.inl rfl) (Z0L (r:=Z1p K) Z0z (Z0P (Z0a Z0f (Z0a Z0f Z0b))) (Z0y Z1A (Z0y Z1w (Z0y Z1A (pvF 1) Z0h) Z0h) Z0h) (fun _ _=>rfl)))
    (Z0c (Z0u (i:=4) sc_law.nd rfl (Or.inl rfl) (Z0L (r:=Z1p K) Z0z (Z0P (Z0a Z0f (Z0a Z0f (Z0a Z0f (Z0a Z0f Z0b))))) (Z0y Z1w (Z0y Z1A (pvF 1) Z0h) Z0h) (fun _ _=>rfl)))
    (Z0c (Z0u (i:=5) sc_law.nd rfl (Or.inl rfl) (Z0k (Z0a Z0f (Z0a Z0h Z0b))))
    (Z0c (Z0u (i:=6) sc_law.nd rfl (Or.inl rfl) (Z1L (Z2T hr) (Z9z (Z3d Z0f (Z0k (Z0a Z0f (Z0a Z0h Z0b))) (Z3d Z0f (Z0k (Z0a Z0f (Z0a Z0f (Z0a (pvF 5) (Z0a (Z0k (Z0a Z0f (Z0a Z0h Z0b))) Z0b))))) (Z3d Z0f (Z0k (Z0a Z0f (Z0a Z0f (Z0a (pvF 5) (Z0a (pvF 5) Z0b))))) J1N))) rfl rfl (by exact List.cons_ne_nil _ _) (by decide)) (pvF 4) (fun _ _=>rfl)))
    (Z0c (Z0u (i:=7) sc_law.nd rfl (Or.inl rfl) (Z9z (Z3d Z0f (pvF 4) (Z3d Z0f (Z0y Z3m (Z0y Z1w (Z0y Z1A (pvF 1) Z0h) Z0h) (Z0Q Z6J rfl T.z_int J3P (Z0a (Z2u Z1a (pvF 2) Z0h (Z0x _)) Z0b))) (Z3d Z0f Z0h J1N))) rfl rfl (by exact List.cons_ne_nil _ _) (by decide)))
    (Z0c (Z0u (i:=8) sc_law.nd rfl (Or.inl rfl) (Z0P Z0b))
    (Z0c (Z3a PassesOwn.never rfl (Z4M rfl T.z_range (Z0a (Z0y Z2c Z0h (Z0y Z1w (Z0y Z1A (pvF 1) Z0h) Z0h)) Z0b)) (Z0s (i:=9) sc_law.nd rfl (Or.inl rfl)) (Z0c (Z0u (i:=10) sc_law.nd rfl (Or.inl rfl) (Z0J h__law_mixed hr (by decide) rfl (Z0a (Z0J h__law_cell_at hr (by decide) rfl (Z0a (pvF 0) (Z0a (Z0y Z2c Z0h (pvF 9)) Z0b))) (Z0a (pvF 9) Z0b))))
    (Z0e (Z0B (Z4m PySem.F.plainAttrs_list PySem.F.slot_list_append PySem.F.type_list_append Z1y (pvF 8) (Z0a (Z0L (r:=Z1p K) Z0z (Z0P (Z0a (Z0y Z1w (pvF 10) Z0h) (Z0a (Z0y Z1w (pvF 10) Z0h) (Z0a (Z0y Z2c Z0h (Z0y Z1w (pvF 10) Z0h)) (Z0a (Z0y Z2c Z0h (Z0y Z1w (pvF 10) Z0h)) Z0b))))) (Z0y Z1w (Z0y Z1A (pvF 10) Z0h) Z0h) (fun _ _=>rfl)) Z0b))))))
    (Z0c (Z1O rfl sc_law.nd (i:=11) rfl rfl (BlockOk.plain (N:=["_law_many"]) rfl (by decide +kernel) (by decide +kernel) (by decide +kernel)) (Z3p (pvF 8))
          (fun C fp s H=>(Z0s (i:=0) (show (["_law_many"]:List Str).Nodup by decide +kernel) rfl (Or.inl rfl)))
          (fun C fp s H=>(Z0k (Z0a Z0f (Z0a (pvF 0) Z0b)))))
    (Z0c (Z0H (Z0p Z1a (Z0y Z1w (Z0y Z1A (pvF 1) Z0h) Z0h) Z0h (Z0x _)) (Z0c (Z3i Z2e (Z8g (pvF 8) (J6O J3I Z0h) Z3Q))
    (Z0e (Z3i (Z0k (Z0a Z0f (Z0a Z0f (Z0a (Z0k (Z0a Z0f (Z0a Z0h Z0b))) (Z0a (Z0k (Z0a Z0f (Z0a Z0h Z0b))) Z0b))))) (Z8g (pvF 11) (J6O J3I Z0h) Z3Q)))) Z0A)
    (Z0c (Z0u (i:=12) sc_law.nd rfl (Or.inl rfl) (Z0k (Z0a Z0f (Z0a (Z0k (Z0a Z0f (Z0a Z0f Z0b))) (Z0a Z0f (Z0a (Z0k (Z0a (Z0L (r:=Z1p K) Z0z (pvF 11) Z0h (fun _ _=>rfl)) Z0b)) Z0b))))))
    (Z0c (Z3a PassesOwn.never rfl (Z3p (Z2N (r:=rSlL K) J0g (pvF 11) (Z3u Z0h) Z3q)) (Z0s (i:=13) sc_law.nd rfl (Or.inl rfl)) (Z0e (Z0u (i:=12) sc_law.nd rfl (Or.inl rfl) (Z0k (Z0a Z0f (Z0a Z0f (Z0a (pvF 12) (Z0a (Z0k (Z0a Z0f (Z0a (Z0k (Z0a Z0f (Z0a Z0f Z0b))) (Z0a Z0f (Z0a (Z0k (Z0a (pvF 13) Z0b)) Z0b))))) Z0b))))))))
    (Z0c (Z0u (i:=14) sc_law.nd rfl (Or.inl rfl) (Z0y Z2c (Z0L (r:=Z1p K) Z0z (Z0P (Z0a Z0h (Z0a Z0h (Z0a Z0h (Z0a Z0h Z0b))))) (Z0y Z1w (Z0y Z1A (pvF 1) Z0h) Z0h) (fun _ _=>rfl)) (Z0y Z3m (Z0y Z1A (pvF 1) Z0h) Z0h)))
    (Z0c (Z0u (i:=15) sc_law.nd rfl (Or.inl rfl) (Z0k (Z0a (Z0J h__law_houses hr (by decide) rfl (Z0a (pvF 2) (Z0a (pvF 6) (Z0a (Z1L (Z2T hr) (pvF 7) Z0f (fun _ _=>rfl)) (Z0a (pvF 14) Z0b))))) (Z0a (Z0k (Z0a (Z0k Z0b) (Z0a Z0f (Z0a (Z0k (Z0a Z0f (Z0a Z0f (Z0a (Z0k (Z0a Z0f (Z0a (pvF 3) (Z0a (Z0k Z0b) Z0b)))) (Z0a (pvF 12) Z0b))))) Z0b)))) Z0b))))
    (Z0c (Z0u (i:=16) sc_law.nd rfl (Or.inl rfl) (Z0J h_program_of hr (by decide) rfl (Z0a (pvF 15) Z0b)))
    (Z0c (Z0H (Z0p J7y (Z1r (r:=Z4W K) (Z2F hr.gd hr.units) rfl T.z_repr Z4L (Z0a (J5b h_walked_d hr (by decide) rfl (Z0a (pvF 16) (Z0a (Z0P Z0b) Z0b))) Z0b)) (Z1r (r:=Z4W K) (Z2F hr.gd hr.units) rfl T.z_repr Z4L (Z0a (Z0y (r:=Z5K K) Z3r (Z0J h__law_due hr (by decide) rfl (Z0a (pvF 7) (Z0a (pvF 8) (Z0a (pvF 2) (Z0a (pvF 3) Z0b))))) (Z0k (Z0a (Z0P (Z0a (Z0k (Z0a (pvF 3) (Z0a (Z0k Z0b) Z0b))) Z0b)) Z0b))) Z0b)) (Z0x _)) (Z0e (Z0q J5S)) Z0A)
    (Z0c (Z0u (i:=10) sc_law.nd rfl (Or.inl rfl) (Z0J h__law_mixed hr (by decide) rfl (Z0a (Z0J h__law_cell_at hr (by decide) rfl (Z0a (pvF 0) (Z0a Z0h Z0b))) (Z0a Z0h Z0b))))
    (Z0c (Z5B (Z2T hr) (pvF 7) Z0f Z0h rfl)
    (Z0c (Z0u (i:=17) sc_law.nd rfl (Or.inl rfl) (Z1r (J0X rfl) rfl T.z_max J3v (Z0a Z0h (Z0a (Z0y Z9J (Z0y Z2c (Z0L (r:=Z2o K) Z0W (Z0J h__law_due hr (by decide) rfl (Z0a (pvF 7) (Z0a (pvF 8) (Z0a (pvF 2) (Z0a (pvF 3) Z0b))))) Z0h (fun _ _=>rfl)) (Z0y Z1w (Z0y Z1A (pvF 10) Z0h) Z0h)) Z0h) Z0b))))
    (Z0c (Z5B (Z2T hr) (pvF 7) Z0f (Z0L (r:=Z1p K) Z0z (Z0P (Z0a (pvF 17) (Z0a (Z0y Z1w (Z0y Z1A (pvF 10) Z0h) Z0h) (Z0a (Z0y Z1w (Z0y Z1A (pvF 10) Z0h) Z0h) (Z0a (Z0y Z2c Z0h (Z0y Z1w (Z0y Z1A (pvF 10) Z0h) Z0h)) Z0b))))) (Z0y Z1w (pvF 10) Z0h) (fun _ _=>rfl)) rfl)
    (Z0c (Z0u (i:=18) sc_law.nd rfl (Or.inl rfl) (Z1r (r:=Z4W K) (Z2F hr.gd hr.units) rfl T.z_repr Z4L (Z0a (Z0y (r:=Z5K K) Z3r (Z0J h__law_due hr (by decide) rfl (Z0a (pvF 7) (Z0a (pvF 8) (Z0a (pvF 2) (Z0a (pvF 3) Z0b))))) (Z0k (Z0a (Z0P (Z0a (Z0k (Z0a (pvF 3) (Z0a (Z0k Z0b) Z0b))) Z0b)) Z0b))) Z0b)))
    (Z0e (Z0q (J3r (Z2u Z1a (Z1r (r:=Z4W K) (Z2F hr.gd hr.units) rfl T.z_repr Z4L (Z0a (Z0J h_walked hr (by decide) rfl (Z0a (pvF 16) (Z0a (Z0P Z0b) (Z0a (Z1L (Z2T hr) (pvF 7) Z0f (fun _ _=>rfl)) Z0b)))) Z0b)) (pvF 18) (Z0x _)) (J0K (Z2u Z1a (Z1r (r:=Z4W K) (Z2F hr.gd hr.units) rfl T.z_repr Z4L (Z0a (Z0J h_walked hr (by decide) rfl (Z0a (pvF 16) (Z0a (Z0P Z0b) (Z0a (Z1L (Z2T hr) (pvF 7) Z0f (fun _ _=>rfl)) Z0b)))) Z0b)) (pvF 18) (Z0x _)))))))))))))))))))))))))))),?_⟩
  refine J7u fun uz11 huz11 uz10 huz10 uz9 huz9 uz8 huz8 uz7 huz7 uz6 huz6 uz5 huz5 uz4 huz4 uz3 huz3 uz2 huz2 uz1 huz1=>?_
  walk_at "rd"
  refine ⟨a,sc,0,rfl,sq,fun c0=>⟨c0,0,rfl,by omega,by omega,fun cell ce0 ce1=>?_⟩⟩
  obtain ⟨C,rfl⟩:∃ C:Nat,cell=(C:Int):=⟨cell.toNat,by omega⟩
  subst huz1
  walk_at "rd"
  rw [show (C:Int) % 4=((C % 4:Nat):Int) by omega]
  obtain ⟨way,hway⟩:∃ way:Nat,way=C % 4:=⟨_,rfl⟩
  rw [← hway]
  have hw:way < 4:=by omega
  subst huz2
  walk_at "rd"
  obtain ⟨yo,hyo⟩:∃ yo,atI [V.str (Str.ofString "yo"),V.str (Str.ofString "er")] ((C:Int) / 4 % 3 / 2)=some (.str (hsN yo)):=by
    have h01:(C:Int) / 4 % 3 / 2=0∨(C:Int) / 4 % 3 / 2=1:=by omega
    rcases h01 with z | z
    · exact ⟨true,by rw [z]; exact ix0⟩
    · exact ⟨false,by rw [z]; exact ix1⟩
  refine New.of fun p1 H1 h1 s1 e1=>⟨_,SqL.of e1,_,hyo,?_⟩
  subst huz3
  walk_at "rd"
  obtain ⟨ei,hei,hei4⟩:∃ ei:Nat,(C:Int) / 12 % 4=(ei:Int)∧ei < 4:=⟨C / 12 % 4,by omega,by omega⟩
  obtain ⟨en,hen,henE⟩:∃ en:Str,atI [V.str (Str.ofString ""),V.str (Str.ofString ""),V.str (Str.ofString "nought"),V.str (Str.ofString "great")] ((C:Int) / 12 % 4)=some (.str en)∧(en=""∨en="nought"∨en="great"):=by
    rw [hei]
    match ei,hei4 with
    | 0,_=>exact ⟨_,Z0F rfl,.inl rfl⟩
    | 1,_=>exact ⟨_,Z0F rfl,.inl rfl⟩
    | 2,_=>exact ⟨_,Z0F rfl,.inr (.inl rfl)⟩
    | 3,_=>exact ⟨_,Z0F rfl,.inr (.inr rfl)⟩
  refine New.of fun p2 H2 h2 s2 e2=>⟨_,SqL.of e2,_,hen,?_⟩
  subst huz4
  walk_at "rd"
  refine New.of fun p3 H3 h3 s3 e3=>?_
  have rf:RT K H3 (.ref p3) farT.dat:=Z3D e3
  have S3:=s1.trans (s2.trans s3)
  clear s1 s2 s3 h1 h2 h3 e1 e2 e3
  subst huz5
  walk_at "rd"
  refine New.of fun p4 H4 h4 s4 e4=>?_
  refine New.of fun p5 H5 h5 s5 e5=>?_
  refine New.of fun p6 H6 h6 s6 e6=>?_
  refine New.of fun p7 H7 h7 s7 e7=>?_
  refine New.of fun p8 H8 h8 s8 e8=>?_
  have U8:Same H8 H8:=Same.refl _
  have U7:Same H7 H8:=s8.trans U8
  have U6:Same H6 H8:=s7.trans U7
  have U5:Same H5 H8:=s6.trans U6
  have U4:Same H4 H8:=s5.trans U5
  have U0:Same H3 H8:=s4.trans U4
  have e4:=U4 _ _ e4
  have e5:=U5 _ _ e5
  have e6:=U6 _ _ e6
  have e7:=U7 _ _ e7
  refine ⟨e4,[(.inr "",.ref p5),(.inr "nought",.ref p7),(.inr "great",.ref p8)],rfl,by simp,?_⟩
  have f4:H p4=none:=Z2y S3 h4
  have kp:=J3e (.dK (Z3k [] [(Sum.inr "",V.ref p5),(Sum.inr "nought",V.ref p7),(Sum.inr "great",V.ref p8)])) e4
  obtain ⟨lf,lv,lx,hlx,rlx,hE,hLv,hLf,hFit⟩:∃ (lf:Tm) (lv:Oc) (lx:V),valV (Z3k [] [(Sum.inr "",V.ref p5),(Sum.inr "nought",V.ref p7),(Sum.inr "great",V.ref p8)]) (.inr en)=some lx∧RT K H8 lx lf.dat∧J6X en lv∧LvS lv∧Z4o lf lv∧Fit lf 3:=by
    rcases henE with rfl | rfl | rfl
    · exact ⟨num 5,_,.ref p5,rfl,Z3D e5,.inl ⟨rfl,rfl⟩,.inl rfl,P42.J8W,(P42.Z1v 5).mono (by omega)⟩
    · exact ⟨two "/" farT (num 0),_,.ref p7,rfl,.tup (SqT.of e7) (.cons (.str _) (.cons (.str _) (.cons (rf.same U0) (.cons (Z3D e6) .nil)))),.inr ⟨by decide,rfl⟩,.inr (.inl rfl),P42.J9a,P42.Z2Q (P42.Z1v _) (P42.Z1v _)⟩
    · exact ⟨two "*" farT farT,_,.ref p8,rfl,.tup (SqT.of e8) (.cons (.str _) (.cons (.str _) (.cons (rf.same U0) (.cons (rf.same U0) .nil)))),.inr ⟨by decide,rfl⟩,.inr (.inr rfl),P42.J8y,P42.Z2Q (P42.Z1v _) (P42.Z1v _)⟩
  have S9:Same H (upd H8 p4 (.dK (Z3k [] [(Sum.inr "",V.ref p5),(Sum.inr "nought",V.ref p7),(Sum.inr "great",V.ref p8)]))):=Z2P (S3.trans U0) f4
  have rlf:=rlx.kp kp
  refine ⟨lx,by rw [← hlx]; exact DGet.k (k:=.inr en) Z0g,?_⟩
  generalize upd H8 p4 (.dK (Z3k [] [(Sum.inr "",V.ref p5),(Sum.inr "nought",V.ref p7),(Sum.inr "great",V.ref p8)]))=H9 at *
  clear kp hlx rlx rf U0 U4 U5 U6 U7 U8 e4 e5 e6 e7 e8 s4 s5 s6 s7 s8 h4 h5 h6 h7 h8 S3 f4
  subst huz6
  walk_at "rd"
  obtain ⟨e,hee,he2,he0⟩:∃ e:Nat,(C:Int) / 48 % 3 * (if (way:Int)=0 then 1 else 0)=(e:Int)∧e≤2∧(way≠0→e=0):=by
    by_cases z:way=0
    · exact ⟨C / 48 % 3,by rw [if_pos (by omega)]; omega,by omega,fun y=>absurd z y⟩
    · exact ⟨0,by rw [if_neg (by omega)]; omega,by omega,fun _=>rfl⟩
  rw [hee]
  refine New.of fun d J1 j1 t1 g1=>.inr ⟨.inl ⟨by omega,by omega⟩,g1,[(.inr "end",.str en),(.inr "extra",.int (e:Int)),(.inr "most",.int 100)],rfl,by simp,?_⟩
  have fd0:H d=none:=Z2y S9 j1
  have S10:Same H (upd J1 d (.dK (kvS en e 100))):=Z2P (S9.trans t1) fd0
  have rl10:=(rlf.same t1).kp (J3e (.dK (kvS en e 100)) g1)
  have hd10:upd J1 d (.dK (kvS en e 100)) d=some (.dK (kvS en e 100)):=Z0g
  show uz7 _ _ (upd J1 d (.dK (kvS en e 100)))
  generalize upd J1 d (.dK (kvS en e 100))=H10 at *
  clear g1 t1 j1 rlf S9 hee
  subst huz7
  walk_at "rd"
  refine New.of fun tl H11 h11 s11 e11=>?_
  have ft0:H tl=none:=Z2y S10 h11
  subst huz8
  walk_at "rd"
  obtain ⟨tn,htn,htn1,htn3⟩:∃ tn:Nat,1+(C:Int) / 144 % 3=(tn:Int)∧1≤tn∧tn≤3:=⟨1+C / 144 % 3,by omega,by omega,by omega⟩
  rw [htn,Int.toNat_natCast]
  refine ⟨by omega,by omega,Z3X (TJ H10 a tl d p3 C way yo en lx) ⟨[],none,none,s11,e11,rfl,(fun n hn=>absurd hn List.not_mem_nil),rfl⟩ (fun i σ H' hi hI=>?_) (fun σ H' hI=>?_)⟩
  · obtain ⟨ns,o9,o10,sI,htl,lns,hns,rfl⟩:=hI
    walk_at "rd"
    refine ⟨a,sc,1+i,by rw [Int.natCast_add]; rfl,sq.same (S10.trans sI),fun c1=>⟨c1,(i:Int),rfl,by omega,by omega,fun mo m0 m1=>?_⟩⟩
    obtain ⟨n,hat,hn⟩:∃ n:Nat,atI [V.int (mo % 6),V.int (mo % 51),V.int (18+mo % 5),V.int (37+mo % 6)] (mo / 51 % 4)=some (nV n)∧n≤50:=by
      obtain ⟨x,hx,hx4⟩:∃ x:Nat,mo / 51 % 4=(x:Int)∧x < 4:=⟨(mo / 51 % 4).toNat,by omega,by omega⟩
      rw [hx]
      match x,hx4 with
      | 0,_=>exact ⟨(mo % 6).toNat,(Z0F rfl).trans (congrArg (fun y=>some (V.int y)) (by omega)),by omega⟩
      | 1,_=>exact ⟨(mo % 51).toNat,(Z0F rfl).trans (congrArg (fun y=>some (V.int y)) (by omega)),by omega⟩
      | 2,_=>exact ⟨(18+mo % 5).toNat,(Z0F rfl).trans (congrArg (fun y=>some (V.int y)) (by omega)),by omega⟩
      | 3,_=>exact ⟨(37+mo % 6).toNat,(Z0F rfl).trans (congrArg (fun y=>some (V.int y)) (by omega)),by omega⟩
    refine ⟨.inl ⟨rfl,_,SqL.of htl⟩,_,rfl,_,rfl,_,rfl,_,rfl,New.of fun q1 H1 h1 s1 e1=>⟨_,rfl,_,SqL.of e1,_,hat,_,s1 _ _ htl,by rw [List.length_map]; omega,ns++[n],_,_,Z2P (sI.trans s1) h11,?_,by rw [List.length_append,lns]; rfl,fun k hk=>?_,rfl⟩⟩
    · rw [List.map_append]; exact Z0g
    · rcases List.mem_append.mp hk with hk | hk
      · exact hns k hk
      · cases List.mem_singleton.mp hk; exact hn
  obtain ⟨ns,o9,o10,sI,htl,lns,hns,rfl⟩:=hI
  have hn0:1≤ns.length:=by omega
  have hn3:ns.length≤3:=by omega
  have S12:=S10.trans sI
  have rl12:=rl10.same sI
  have hd12:=sI _ _ hd10
  have nd:tl≠d:=fun z=>by rw [z,hd10] at h11; cases h11
  clear rl10 hd10 sI S10 s11 e11 h11 lns htn htn1 htn3
  subst huz9
  walk_at "rd"
  refine ⟨⟨_,SqL.of htl⟩,fun tm hD=>?_⟩
  refine Z9e (ys:=ns.map nV) none [] (fun j v H=>∃ n,ns[j]?=some n∧RT K H v (num (n:Nat)).dat) (fun j v H1 H2 ⟨t,a,b⟩ s=>⟨t,a,b.kp (kpN s)⟩) rfl hD (by rw [sizeLine_eq,List.length_map]; omega) (fun H1 s=>SqL.of (s _ _ htl)) (fun i y hy H1 K' s k=>?_) (fun vs Hc Sc hv lvv hR=>?_)
  · rw [List.getElem?_map] at hy
    obtain ⟨n,hn,rfl⟩:=Option.map_eq_some_iff.mp hy
    walk_at "rd"
    exact New.of fun q1 J1 j1 t1 g1=>k _ _ t1 ⟨n,hn,Z3D g1⟩
  have rvs:RTs K Hc vs ((ns.map some).map fun t=>(J1o t).dat):=by
    refine J3J (by rw [lvv,List.length_map,List.length_map,List.length_map]) fun j v hj=>?_
    obtain ⟨n,hn,rn⟩:=hR j v hj
    exact ⟨_,by rw [List.getElem?_map,List.getElem?_map,hn]; rfl,rn⟩
  have htl13:Hc tl=some (.lst ((ns.map some).map oV)):=by rw [List.map_map]; exact Sc _ _ htl
  have S13:=S12.trans Sc
  have rl13:=rl12.same Sc
  have hd13:=Sc _ _ hd12
  have fm0:H tm=none:=Z2y S12 hD
  have nm1:tm≠d:=fun z=>by rw [z,hd12] at hD; cases hD
  have nm2:tm≠tl:=fun z=>by rw [z,htl] at hD; cases hD
  have hts13:∀ t∈ns.map some,∀ n,t=some n→n≤50:=by
    intro t ht n hn
    obtain ⟨k,hk,rfl⟩:=List.mem_map.mp ht
    cases hn; exact hns _ hk
  have hl13:(ns.map some).length=ns.length:=List.length_map _
  have cont:∀ {H15:Hp} {ts:List (Option Nat)} {vs:List V},Same H H15→H15 tl=some (.lst (ts.map oV))→H15 tm=some (.lst vs)→RTs K H15 vs (ts.map fun t=>(J1o t).dat)→ts.length=ns.length→(∀ t∈ts,∀ n,t=some n→n≤50)→RT K H15 lx lf.dat→H15 d=some (.dK (kvS en e 100)) →
      uz11 { nx:=fun x H'=>Q V.non H',rt:=Q } [some (V.ref a),some (V.int ↑C),some (V.int ↑way),some (V.str (hsN yo)),some (V.str en),some (V.ref p3),some lx,some (V.ref d),some (V.ref tl),o9,o10,some (V.ref tm),none,none,none,none,none,none,none] H15:=by
    clear rvs htl13 S13 rl13 hd13 hts13 hl13 hR hv Sc hns
    intro H15 ts vs S15 htl htm rtm lts hts rl15 hd15
    subst huz11
    refine J7u fun uy11 huy11 uy10 huy10 uy9 huy9 uy8 huy8 uy7 huy7 uy6 huy6 uy5 huy5 uy4 huy4 uy3 huy3 uy2 huy2 uy1 huy1=>?_
    walk_at "rd"
    obtain ⟨t0,ts',rfl⟩:∃ t0 ts',ts=t0::ts':=by
      cases ts with
      | nil=>exact absurd lts (by rw [List.length_nil]; omega)
      | cons t0 ts'=>exact ⟨t0,ts',rfl⟩
    obtain ⟨v0,vs',rfl,r0,rvs'⟩:=rtm.inv
    have l2:ts'.length≤2:=by rw [List.length_cons] at lts; omega
    refine New.of fun q1 J1 j1 t1 g1=>⟨_,SqL.of (t1 _ _ htm),_,ix0,New.of fun q2 J2 j2 t2 g2=>New.of fun q3 J3 j3 t3 g3=>?_⟩
    have t123:=t1.trans (t2.trans t3)
    have rb0:RT K J3 (.ref q3) (goT t0).dat:=.tup (SqT.of g3) (.cons (.str _) (.cons (Z5f ((t2.trans t3) _ _ g1)) (.cons (.str _) (.cons (.tup (SqT.of (t3 _ _ g2)) (.cons (r0.same t123) .nil)) .nil))))
    have htm3:=t123 _ _ htm
    have htl3:=t123 _ _ htl
    have hd3:=t123 _ _ hd15
    have rl3:=rl15.same t123
    have S16:=S15.trans t123
    have rv3:=rvs'.same t123
    clear htm htl hd15 rl15 S15 rvs' r0 rtm t123 t1 t2 t3 g1 g2 g3 j1 j2 j3
    subst huy1
    walk_at "rd"
    have ecut:cutV (v0::vs') (some 1) none=vs':=by
      have:=J2F (v0::vs') 1 (by simp)
      exact this
    refine ⟨_,SqL.of htm3,?_⟩
    rw [ecut]
    refine New.of fun rs J4 j4 t4 g4=>⟨⟨_,SqL.of g4⟩,?_⟩
    have lvs':vs'.length=ts'.length:=by rw [rv3.length,List.length_map]
    refine Z3z vs' (BJ K J3 (.ref rs) vs' t0 ts' [some (V.ref a),some (V.int ↑C),some (V.int ↑way),some (V.str (hsN yo)),some (V.str en),some (V.ref p3),some lx,some (V.ref d),some (V.ref tl),o9,o10,some (V.ref tm)]) ⟨.ref q3,none,rs,rfl,t4,g4,rb0.same t4,rfl⟩ (fun i σ H' _ hI=>?_) (fun i x σ H' hx hI=>?_) (fun σ H' hI=>?_)
    · obtain ⟨bv,o13,rs',er,sI,gI,_⟩:=hI
      cases er
      exact SqL.of gI
    · obtain ⟨bv,o13,rs',er,sI,gI,rbI,rfl⟩:=hI
      cases er
      obtain ⟨dd,hdd,rx⟩:=rv3.at hx
      rw [List.getElem?_map] at hdd
      obtain ⟨t,ht,rfl⟩:=Option.map_eq_some_iff.mp hdd
      walk_at "rd"
      refine New.of fun q4 M1 m1 u1 k1=>New.of fun q5 M2 m2 u2 k2=>New.of fun q6 M3 m3 u3 k3=>New.of fun q7 M4 m4 u4 k4=>?_
      have u34:=u3.trans u4
      have u24:=u2.trans u34
      have u14:=u1.trans u24
      have sI4:=sI.trans u14
      refine ⟨.ref q7,_,rs,rfl,sI4,u14 _ _ gI,?_,rfl⟩
      rw [List.take_succ,ht]
      show RT K M4 (.ref q7) (sumT (goT t0) (ts'.take i++[t])).dat
      rw [P42.Z6V]
      exact .tup (SqT.of k4) (.cons (.str _) (.cons (.str _) (.cons (rbI.same u14) (.cons (.tup (SqT.of (u4 _ _ k3)) (.cons (.str _) (.cons (Z5f (u24 _ _ k1)) (.cons (.str _) (.cons (.tup (SqT.of (u34 _ _ k2)) (.cons (rx.same sI4) .nil)) .nil))))) .nil))))
    obtain ⟨bv,o13,rs',er,sI,gI,rbI,rfl⟩:=hI
    rw [lvs',List.take_length] at rbI
    have htl5:=sI _ _ htl3
    have hd5:=sI _ _ hd3
    have rl5:=rl3.same sI
    have S17:=S16.trans sI
    clear htm3 htl3 hd3 rl3 rv3 S16 rb0 gI er t4 g4 j4 sI lvs' ecut
    subst huy2
    walk_at "rd"
    obtain ⟨w0,hw0⟩:∃ w0:Nat,atI [V.int 0,V.int 9,V.int 8,V.int 0] ((C:Int) / 2160 % 4)=some (.int (w0:Int)):=by
      obtain ⟨x,hx,hx4⟩:∃ x:Nat,(C:Int) / 2160 % 4=(x:Int)∧x < 4:=⟨C / 2160 % 4,by omega,by omega⟩
      rw [hx]
      match x,hx4 with
      | 0,_=>exact ⟨0,Z0F rfl⟩
      | 1,_=>exact ⟨9,Z0F rfl⟩
      | 2,_=>exact ⟨8,Z0F rfl⟩
      | 3,_=>exact ⟨0,Z0F rfl⟩
    refine New.of fun q1 J1 j1 t1 g1=>⟨_,SqL.of g1,_,hw0,_,rfl,?_⟩
    obtain ⟨W,hW⟩:∃ W:Nat,(w0:Int)+(C:Int) / 8640 * 10=(W:Int):=⟨w0+C / 8640 * 10,by omega⟩
    rw [hW]
    obtain ⟨is,his⟩:∃ is,is=isOf (W / 10) (W % 10):=⟨_,rfl⟩
    have lis:is.length≤9:=by rw [his,P42.J2o]; omega
    subst huy3
    walk_at "rd"
    refine ⟨_,by rw [show (some (V.int (e:Int)))=valV (kvS en e 100) (.inr "extra") from rfl]; exact DGet.k (k:=.inr "extra") (t1 _ _ hd5),way,e,W,lx,lf,rfl,rl5.same t1,hw,fun hu J2 t2 rhu=>?_⟩
    rw [← his] at rhu
    refine New.of fun q3 J3 j3 t3 g3=>New.of fun q4 J4 j4 t4 g4=>New.of fun q5 J5 j5 t5 g5=>New.of fun q6 J6 j6 t6 g6=>New.of fun q7 J7 j7 t7 g7=>New.of fun q8 J8 j8 t8 g8=>?_
    have u78:=t7.trans t8
    have u68:=t6.trans u78
    have u58:=t5.trans u68
    have u48:=t4.trans u58
    have u38:=t3.trans u48
    have u18:=t1.trans (t2.trans u38)
    obtain ⟨main,hmain⟩:∃ main:Wd,main=⟨"main",[],"number",J1O yo t0 ts'⟩:=⟨_,rfl⟩
    have rP:RT K J8 (.ref q8) (J3G ⟨Z0G way lf e is,main⟩):=by
      rw [hmain]
      exact .tup (SqT.of g8) (.cons (rhu.same u38) (.cons (.tup (SqT.of (t8 _ _ g7)) (.cons (.tup (SqT.of (u48 _ _ g3)) .nil) (.cons (.str _) (.cons (.tup (SqT.of (u78 _ _ g6)) (.cons (.str _) (.cons (.str _) (.cons (.tup (SqT.of (u68 _ _ g5)) (.cons (.str _) (.cons (.str _) (.cons (.tup (SqT.of (u58 _ _ g4)) .nil) .nil)))) (.cons (rbI.same u18) .nil))))) .nil)))) .nil))
    have gok:=g_ok (way:=way) (e:=e) hFit lis main
    have fm:=P42.Z8v (yo:=yo) (t:=t0) (ts:=ts') (by omega)
    have htl8:=u18 _ _ htl5
    have hd8:=u18 _ _ hd5
    have S18:=S17.trans u18
    clear rhu rbI htl5 hd5 rl5 S17 t1 t2 t3 t4 t5 t6 t7 t8 g1 g3 g4 g5 g6 g7 g8 j1 j3 j4 j5 j6 j7 j8 u78 u68 u58 u48 u38 u18
    subst huy4
    walk_at "rd"
    refine ⟨_,_,rfl,rP,gok.hs,by show 2≤100; omega,⟨by rw [hmain]; exact fm.1,by rw [hmain]; exact Nat.le_trans fm.2 (by omega),by rw [hmain]; exact Nat.zero_le _⟩,by rw [hmain],fun pu K1 w1 hpg=>?_⟩
    have htl9:=w1 _ _ htl8
    have hd9:=w1 _ _ hd8
    have S19:=S18.trans w1
    clear htl8 hd8 S18 rP w1 fm
    have run0:∀ most:Nat,∃ n S',n≤90000∧Steps ⟨Z0G way lf e is,main⟩ most n (S0 ⟨Z0G way lf e is,main⟩ []) S'∧(S'.wait=[]∨S'.ended≠none)∧Ans S' (ocD (due most way yo lv e (t0::ts') 0 0).1)∧wkD S' (ocD (due most way yo lv e (t0::ts') 0 0).1)=.tuple [ocD (due most way yo lv e (t0::ts') 0 0).1,.int ((due most way yo lv e (t0::ts') 0 0).2:Nat),.list [.tuple [.str (hsN yo),.tuple []]]]:=by
      intro most
      obtain ⟨n,S',hn,hst,hres⟩:=P42.J4R (main:=main) (most:=most) (yo:=yo) hLf hLv.lv hw he2 he0 lis hts (by omega)
      obtain ⟨o1,o2⟩:=P42.J1R (most:=most) (way:=way) (yo:=yo) (c:=0) hLv he2 hts (Int.le_refl 0)
      obtain ⟨a1,a2,a3⟩:=J6D hres (by
        rcases o1 with ⟨d,h,_⟩ | ⟨n,h,_⟩
        · exact .inl ⟨d,h⟩
        · exact .inr ⟨n,h⟩)
      exact ⟨n,S',hn,by rw [hmain] at hst ⊢; exact hst,a1,a2,a3⟩
    have dok:∀ most:Nat,DOk 1000 (due most way yo lv e (t0::ts') 0 0).1∧(due most way yo lv e (t0::ts') 0 0).2 < 1000:=by
      intro most
      obtain ⟨o1,o2⟩:=P42.J1R (most:=most) (way:=way) (yo:=yo) (c:=0) hLv he2 hts (Int.le_refl 0)
      have ll:(t0::ts').length≤3:=by rw [List.length_cons]; omega
      refine ⟨?_,by omega⟩
      rcases o1 with h | ⟨n,h,h0,h1⟩
      · exact .inl h
      · exact .inr ⟨n,h,h0,by omega⟩
    obtain ⟨D,eD⟩:∃ D:Nat→PyData,∀ most,D most=.tuple [ocD (due most way yo lv e (t0::ts') 0 0).1,.int ((due most way yo lv e (t0::ts') 0 0).2:Nat),.list [.tuple [.str (hsN yo),.tuple []]]]:=⟨fun most=>_,fun _=>rfl⟩
    have nic:∀ most,Nice 7 5000 (D most):=fun most=>by rw [eD]; exact J2p (yo:=yo) (dok most).1 (dok most).2
    have nf:∀ most,(D most).shown.length≤16777216:=fun most=>by
      have:=(nic most).fits (by omega)
      rw [sizeLine_eq] at this; exact this
    have wk:∀ (most:Nat) (G:Hp) (Q':VK) (p:Addr),G p=some (.lst [])→PgO K (CS.mk Ct Cw Ch Cp Cl Cs Cq Ck (fun _=>none)) G pu ⟨Z0G way lf e is,main⟩→(∀ ua H1,Same G H1→RdD K H1 (.ref ua) (D most)→Q' (.ref ua) H1)→Z4N (CS.mk Ct Cw Ch Cp Cl Cs Cq Ck (fun _=>none)) K [pu,.ref p,.int (most:Int)] G Q' E0:=by
      intro most G Q' p g2 hp k
      obtain ⟨n,S',hn,hst,a1,a2,a3⟩:=run0 most
      refine ⟨pu,p,_,most,n,S',[],[],_,rfl,hp,gok,by show 2≤100; omega,by rw [hmain]; exact Nat.zero_le _,SqL.of g2,.nil,hn,hst,a1,a2,fun u H1 s1 rd=>?_⟩
      rw [a3,← eD] at rd
      obtain ⟨ua,rfl⟩:∃ ua,u=.ref ua:=by
        rw [eD] at rd
        cases rd with
        | tup _ _=>exact ⟨_,rfl⟩
      exact k ua H1 s1 rd
    have dk:∀ (most:Nat) (G:Hp) (Q':VK),G d=some (.dK (kvS en e most))→G tl=some (.lst ((t0::ts').map oV))→(∀ u p H1,Same G H1→H1 u=some (.tup [p,.int ((due most way yo lv e (t0::ts') 0 0).2:Nat)])→RT K H1 p (ocD (due most way yo lv e (t0::ts') 0 0).1)→Q' (.ref u) H1)→J4g K [.ref d,.ref tl,.int (way:Int),.str (hsN yo)] G Q' E0:=by
      intro most G Q' h1 h2 k
      exact ⟨d,tl,t0::ts',way,e,most,yo,en,lv,rfl,h1,SqL.of h2,hw,hts,hE,he2,by rw [List.length_cons]; omega,k⟩
    have ct:∀ (most:Nat) (G:Hp) (Q':VK) (u:Addr) (p:V),G u=some (.tup [p,.int ((due most way yo lv e (t0::ts') 0 0).2:Nat)])→RT K G p (ocD (due most way yo lv e (t0::ts') 0 0).1)→(∀ r G7,Same G G7→RdD K G7 (.ref r) (D most)→Q' (.ref r) G7)→New G (.tup []) fun p H2=>New H2 (.tup [.str (hsN yo),.ref p]) fun p H2=>New H2 (.lst [.ref p]) fun p H2=>New H2 (.tup [.ref p]) fun p H2=>Z5K K (.ref u) (.ref p) H2 Q':=by
      intro most G Q' u p hu rp k
      refine New.of fun q1 G3 i3 s3 g3=>New.of fun q2 G4 i4 s4 g4=>New.of fun q3 G5 i5 s5 g5=>New.of fun q4 G6 i6 s6 g6=>?_
      have s36:=s3.trans (s4.trans (s5.trans s6))
      refine ⟨_,_,_,_,rfl,rfl,SqT.of (s36 _ _ hu),SqT.of g6,by rw [sizeLine_eq]; show 2+1≤16777216; omega,fun r G7 s7 hr7=>k r G7 (s36.trans s7) ?_⟩
      rw [eD]
      exact .tup hr7 (.cons (rp.same (s36.trans s7)).rd (.cons (.int _) (.cons (.lst (SqL.of ((s6.trans s7) _ _ g5)) (RTs.rd (.cons (.tup (SqT.of ((s5.trans (s6.trans s7)) _ _ g4)) (.cons (.str _) (.cons (.tup (SqT.of ((s4.trans (s5.trans (s6.trans s7))) _ _ g3)) .nil) .nil))) .nil))) .nil)))
    subst huy5
    walk_at "rd"
    refine New.of fun q0 G0 i0 s0 g0=>wk 100 _ _ q0 g0 (hpg.same s0) fun ua G1 s1 rd1=>?_
    have s1:=s0.trans s1
    refine ⟨ua,rfl,_,rd1,(nic _).sho,PyData.hasDict_of_canLay _ (nic _).lay,Nat.le_trans (nic _).dep (by omega),nf _,dk 100 _ _ (s1 _ _ hd9) (s1 _ _ htl9) fun u p G2 s2 hu rp=>?_⟩
    refine ct 100 _ _ u p hu rp fun r G7 s7 rd2=>?_
    refine ⟨r,rfl,_,rd2,(nic _).sho,PyData.hasDict_of_canLay _ (nic _).lay,Nat.le_trans (nic _).dep (by omega),nf _,ite2 (fun z=>absurd rfl z) (fun _=>?_)⟩
    have w8:=s1.trans (s2.trans s7)
    have htl10:=w8 _ _ htl9
    have hd10:=w8 _ _ hd9
    have hpg10:=hpg.same w8
    have S20:=S19.trans w8
    clear rd1 rd2 rp hu s1 s2 s7 s0 g0 i0 w8 htl9 hd9 hpg S19
    subst huy6
    walk_at "rd"
    refine ⟨a,sc,4,rfl,sq.same S20,fun c1=>⟨c1,4,rfl,by omega,by omega,fun mo m0 m1=>?_⟩⟩
    subst huy7
    walk_at "rd"
    refine ⟨_,DPut.k (k:=.inr "most") hd10 (by rw [sizeLine_eq]; show 3 < 16777216; omega),?_⟩
    have kp1:Kp G7 (upd G7 d (.dK (kvS en e 1000))):=J3e _ hd10
    have htl11:upd G7 d (.dK (kvS en e 1000)) tl=some (.lst ((t0::ts').map oV)):=by rw [Z0j nd]; exact htl10
    have hd11:upd G7 d (.dK (kvS en e 1000)) d=some (.dK (kvS en e 1000)):=Z0g
    have hpg11:=J3s hpg10 kp1
    show uy8 _ _ (upd G7 d (.dK (kvS en e 1000)))
    generalize upd G7 d (.dK (kvS en e 1000))=G8 at *
    clear kp1 htl10 hd10 hpg10 S20
    subst huy8
    walk_at "rd"
    refine dk 1000 _ _ hd11 htl11 fun u p G9 s9 hu rp=>⟨u,rfl,_,SqT.of hu,_,ix1,_,rfl,?_⟩
    have d3:=(dok 1000).2
    obtain ⟨nr,hnr⟩:∃ nr:Nat,(if (((due 1000 way yo lv e (t0::ts') 0 0).2:Nat):Int)+mo / 4 % 5 - 2 > 0 then (((due 1000 way yo lv e (t0::ts') 0 0).2:Nat):Int)+mo / 4 % 5 - 2 else 0)=(nr:Int):=by
      split
      · exact ⟨((((due 1000 way yo lv e (t0::ts') 0 0).2:Nat):Int)+mo / 4 % 5 - 2).toNat,by omega⟩
      · exact ⟨0,rfl⟩
    rw [hnr]
    have htl12:=s9 _ _ htl11
    have hd12':=s9 _ _ hd11
    have hpg12:=hpg11.same s9
    clear htl11 hd11 hpg11 s9 hu rp hnr d3
    subst huy9
    walk_at "rd"
    obtain ⟨ms,hms⟩:∃ ms:Nat,atI [V.int (nr:Int),V.int (mo / 4 % 1001),V.int (mo / 4 % 12),V.int (40+mo / 4 % 4)] (mo % 4)=some (.int (ms:Int)):=by
      obtain ⟨x,hx,hx4⟩:∃ x:Nat,mo % 4=(x:Int)∧x < 4:=⟨(mo % 4).toNat,by omega,by omega⟩
      rw [hx]
      match x,hx4 with
      | 0,_=>exact ⟨nr,Z0F rfl⟩
      | 1,_=>exact ⟨(mo / 4 % 1001).toNat,(Z0F rfl).trans (congrArg (fun y=>some (V.int y)) (by omega))⟩
      | 2,_=>exact ⟨(mo / 4 % 12).toNat,(Z0F rfl).trans (congrArg (fun y=>some (V.int y)) (by omega))⟩
      | 3,_=>exact ⟨(40+mo / 4 % 4).toNat,(Z0F rfl).trans (congrArg (fun y=>some (V.int y)) (by omega))⟩
    refine New.of fun q9 G10 i10 s10 g10=>⟨_,SqL.of g10,_,hms,_,DPut.k (k:=.inr "most") (s10 _ _ hd12') (by rw [sizeLine_eq]; show 3 < 16777216; omega),?_⟩
    have kp2:Kp G10 (upd G10 d (.dK (kvS en e ms))):=J3e _ (s10 _ _ hd12')
    have htl13:upd G10 d (.dK (kvS en e ms)) tl=some (.lst ((t0::ts').map oV)):=by rw [Z0j nd]; exact s10 _ _ htl12
    have hd13:upd G10 d (.dK (kvS en e ms)) d=some (.dK (kvS en e ms)):=Z0g
    have hpg13:=J3s (hpg12.same s10) kp2
    show uy10 _ _ (upd G10 d (.dK (kvS en e ms)))
    generalize upd G10 d (.dK (kvS en e ms))=G11 at *
    clear kp2 htl12 hd12' hpg12 hms s10 g10 i10
    subst huy10
    walk_at "rd"
    refine dk ms _ _ hd13 htl13 fun u p G12 s12 hu rp=>?_
    refine ct ms _ _ u p hu rp fun r G13 s13 rd2=>?_
    refine ⟨r,rfl,_,rd2,(nic _).sho,PyData.hasDict_of_canLay _ (nic _).lay,Nat.le_trans (nic _).dep (by omega),nf _,?_⟩
    have hd14:=s13 _ _ (s12 _ _ hd13)
    have hpg14:=hpg13.same (s12.trans s13)
    clear rd2 hu rp s12 s13 htl13 hd13 hpg13
    subst huy11
    walk_at "rd"
    have dg:∀ {G:Hp},Same G13 G→DGet G d (V.str (Str.ofString "most")) (some (.int (ms:Int))):=fun s5=>by
      rw [show (some (V.int (ms:Int)))=valV (kvS en e ms) (.inr "most") from rfl]; exact DGet.k (k:=.inr "most") (s5 _ _ hd14)
    refine New.of fun q1 G1 i1 s1 g1=>⟨_,dg s1,wk ms _ _ q1 g1 (hpg14.same s1) fun ua G2 s2 rd1=>?_⟩
    refine ⟨ua,rfl,_,rd1,(nic _).sho,PyData.hasDict_of_canLay _ (nic _).lay,Nat.le_trans (nic _).dep (by omega),nf _,ite2 (fun _=>?_) (fun z=>absurd rfl z)⟩
    have s12:=s1.trans s2
    refine New.of fun q3 G3 i3 s3 g3=>⟨_,dg (s12.trans s3),wk ms _ _ q3 g3 (hpg14.same (s12.trans s3)) fun ub G4 s4 rd2=>?_⟩
    refine ⟨ub,rfl,_,rd2,(nic _).sho,PyData.hasDict_of_canLay _ (nic _).lay,Nat.le_trans (nic _).dep (by omega),nf _,?_⟩
    rw [decide_eq_true rfl]
    exact q _
  subst huz10
  walk_at "rd"
  refine ite2 (fun _=>?_) (fun _=>cont S13 htl13 hv rvs hl13 hts13 rl13 hd13)
  obtain ⟨L,hL⟩:∃ L,ns.length=L+1:=⟨ns.length - 1,by omega⟩
  have lvs:vs.length=L+1:=by rw [lvv,List.length_map,hL]
  refine ⟨_,htl13,L,Z8H (by rw [List.length_map,hl13,hL]),?_⟩
  have kp1:Kp Hc (upd Hc tl (.lst (((ns.map some).map oV).set L V.non))):=Kp.lst _ htl13
  have hm1:upd Hc tl (.lst (((ns.map some).map oV).set L V.non)) tm=some (.lst vs):=by rw [Z0j nm2]; exact hv
  have hd1:upd Hc tl (.lst (((ns.map some).map oV).set L V.non)) d=some (.dK (kvS en e 100)):=by rw [Z0j (Ne.symm nd)]; exact hd13
  have ht1:upd Hc tl (.lst (((ns.map some).map oV).set L V.non)) tl=some (.lst (((ns.map some).map oV).set L V.non)):=Z0g
  have S1:=Z2P (o:=.lst (((ns.map some).map oV).set L V.non)) S13 ft0
  have rl1:=rl13.kp kp1
  have rv1:=rvs.kp kp1
  generalize upd Hc tl (.lst (((ns.map some).map oV).set L V.non))=J0 at *
  refine New.of fun q1 J1 j1 t1 g1=>New.of fun q2 J2 j2 t2 g2=>New.of fun q3 J3 j3 t3 g3=>?_
  have t123:=t1.trans (t2.trans t3)
  refine ⟨_,t123 _ _ hm1,L,Z8H lvs,?_⟩
  have kp3:Kp J3 (upd J3 tm (.lst (vs.set L (V.ref q3)))):=Kp.lst _ (t123 _ _ hm1)
  have rq:RT K J3 (.ref q3) (J1o none).dat:=.tup (SqT.of g3) (.cons (.str _) (.cons (.str _) (.cons (Z3D ((t2.trans t3) _ _ g1)) (.cons (Z3D (t3 _ _ g2)) .nil))))
  refine cont (ts:=(ns.map some).set L none) (Z2P (S1.trans t123) fm0) ?_ Z0g ?_ (by rw [List.length_set,hl13]) (fun t ht n hn=>?_) ((rl1.same t123).kp kp3) ?_
  · rw [Z0j (Ne.symm nm2),List.map_set]; exact t123 _ _ ht1
  · rw [List.map_set]
    exact RTs.kp kp3 (J1t (rv1.same t123) rq)
  · rcases List.mem_or_eq_of_mem_set ht with h | h
    · exact hts13 t h n hn
    · rw [h] at hn; cases hn
  · rw [Z0j (Ne.symm nm1)]; exact t123 _ _ hd1
end
end K42
end
end
section
namespace K42
open PySem L2
end K42
end
open PySem PySem.W PyProof.Rows
set_option maxRecDepth 100000 in
set_option maxHeartbeats 0 in
theorem PySem.Challenge.cw_elderhouse_k42_calls_dry_and_deep_holds : PySem.Challenge.rw_elderhouse_k42_calls_dry_and_deep.Holds := by
  w_on
  refine holds_law (by kernel_rfl) fun said=>?_
  refine holds_open (q:=K42.qv) (loose:=["walked"]) (Xt:=fun s=>xlAt K42.qv [] s&&recOk (RowW.records K42.rv) s) (XP:=XL K42.qv []) (Yf:=Hook.obs (kHook K42.KK K42.KA K42.Z3T)) (Ya:=Hook.val (kHook K42.KK K42.KA K42.Z3T)) (YP:=Hook.says (kHook K42.KK K42.KA K42.Z3T)) (N:=7376) K42.left (Hook.of (kHook K42.KK K42.KA K42.Z3T)) (Hook.keeps (kHook K42.KK K42.KA K42.Z3T)) (fun s e=>xl_of s (Bool.and_eq_true_iff.mp e).1) XL.keeps (by rfl) (by rfl) (by rfl) (fun s e=>recFacts_of (Bool.and_eq_true_iff.mp e).2) (by rfl) said (by decide +kernel) ⟨rfl,rfl,rfl,rfl,rfl,by decide +kernel⟩ ?hw ?hc
  case hw=>w_witness2
  k_fill
  refine L2.J2j (l:=rw0) (n:=63) (k:=20) (x:="_law_script") (CX:=L2.CX0) (sp:=K42.J1g) rfl (by decide) rfl ⟨rfl,by decide,by decide,rfl⟩ (fun w h Y=>W.kIn_of Y) ?F ?S (fun _ _ _ _ z=>z)
  case F=>
    intro w mg fa h KX G hmg
    have T:∃ Cl Cs Cq Ck Ct Cw Ch Cp,K42.Txt (L2.KOf KX) mg Cl Cs Cq Ck Ct Cw Ch Cp:=by
      dsimp only [L2.KOf]
      refine' ⟨_,_,_,_,_,_,_,_,K42.Txt.mk (W.mg_none_of KX G ?x0) (W.mg_none_of KX G ?x1) (W.mg_none_of KX G ?x2) (W.mg_none_of KX G ?x3) (W.mg_none_of KX G ?x4) (W.mg_none_of KX G ?x5) (W.mg_none_of KX G ?x6) (W.mg_none_of KX G ?x7) (W.mg_none_of KX G ?x8) (W.mg_none_of KX G ?x9) (W.mg_none_of KX G ?x10) (W.mg_none_of KX G ?x11) (W.mg_none_of KX G ?x12) (L2.J0s KX G ?x13) (L2.J0s KX G ?x14) (L2.Z2p KX G ?x15 ?x16 ?x17 ?x18) (L2.Z2p KX G ?x19 ?x20 ?x21 ?x22) (L2.Z2p KX G ?x23 ?x24 ?x25 ?x26) (L2.Z2p KX G ?x27 ?x28 ?x29 ?x30) (L2.J5R KX G ?x31 ?x32 ?x33 ?x34 ?x35 ?x36 ?x37) (L2.Z2p KX G ?x38 ?x39 ?x40 ?x41) (L2.Z2p KX G ?x42 ?x43 ?x44 ?x45) (L2.Z2p KX G ?x46 ?x47 ?x48 ?x49) (L2.Z2p KX G ?x50 ?x51 ?x52 ?x53) (L2.Z2p KX G ?x54 ?x55 ?x56 ?x57) (L2.Z2p KX G ?x58 ?x59 ?x60 ?x61) (L2.Z2p KX G ?x62 ?x63 ?x64 ?x65) (L2.Z2p KX G ?x66 ?x67 ?x68 ?x69) (L2.Z2p KX G ?x70 ?x71 ?x72 ?x73) (L2.Z2p KX G ?x74 ?x75 ?x76 ?x77) (L2.Z2p KX G ?x78 ?x79 ?x80 ?x81) (L2.Z2p KX G ?x82 ?x83 ?x84 ?x85) (L2.Z2p KX G ?x86 ?x87 ?x88 ?x89) (L2.Z2p KX G ?x90 ?x91 ?x92 ?x93) (L2.Z2p KX G ?x94 ?x95 ?x96 ?x97) (L2.Z2p KX G ?x98 ?x99 ?x100 ?x101) (L2.Z2p KX G ?x102 ?x103 ?x104 ?x105) (L2.Z2p KX G ?x106 ?x107 ?x108 ?x109) (L2.Z4e KX G ?x110 ?pg_Hall ?hd_Hall ?po_Hall ?sa_Hall ?mk_Hall ?kp_Hall) (L2.Z0t ?x111) (L2.Z0t ?x112) (L2.Z4e KX G ?x113 ?pg_Scope ?hd_Scope ?po_Scope ?sa_Scope ?mk_Scope ?kp_Scope) (L2.Z0t ?x114) (L2.Z0t ?x115) (L2.Z0t ?x116) (L2.Z4e KX G ?x117 ?pg_Waits ?hd_Waits ?po_Waits ?sa_Waits ?mk_Waits ?kp_Waits) (L2.Z0t ?x118) (L2.Z0t ?x119) (L2.Z4e KX G ?x120 ?pg_Walk ?hd_Walk ?po_Walk ?sa_Walk ?mk_Walk ?kp_Walk) (L2.Z0t ?x121) (L2.Z0t ?x122) (L2.Z0t ?x123) (L2.Z0t ?x124) (L2.Z0t ?x125) (L2.Z0t ?x126) (L2.Z0t ?x127) (L2.Z4e KX G ?x128 ?pg_Term ?hd_Term ?po_Term ?sa_Term ?mk_Term ?kp_Term) (L2.Z0t ?x129) (L2.Z0t ?x130) (L2.Z0t ?x131) (L2.Z0t ?x132) (L2.Z0t ?x133) (L2.Z0t ?x134) (L2.Z4e KX G ?x135 ?pg_Word ?hd_Word ?po_Word ?sa_Word ?mk_Word ?kp_Word) (L2.Z0t ?x136) (L2.Z0t ?x137) (L2.Z0t ?x138) (L2.Z0t ?x139) (L2.Z4e KX G ?x140 ?pg_House ?hd_House ?po_House ?sa_House ?mk_House ?kp_House) (L2.Z0t ?x141) (L2.Z0t ?x142) (L2.Z0t ?x143) (L2.Z0t ?x144) (L2.Z4e KX G ?x145 ?pg_Program ?hd_Program ?po_Program ?sa_Program ?mk_Program ?kp_Program) (L2.Z0t ?x146) (L2.Z0t ?x147) (L2.Z0E ?x148 ?x149 ?x150 ?x151 ?x152) (L2.Z0E ?x153 ?x154 ?x155 ?x156 ?x157) (L2.Z0E ?x158 ?x159 ?x160 ?x161 ?x162) (L2.Z0E ?x163 ?x164 ?x165 ?x166 ?x167) (L2.Z0E ?x168 ?x169 ?x170 ?x171 ?x172) (L2.Z0E ?x173 ?x174 ?x175 ?x176 ?x177) (L2.Z0E ?x178 ?x179 ?x180 ?x181 ?x182) (L2.Z0E ?x183 ?x184 ?x185 ?x186 ?x187) (L2.Z0E ?x188 ?x189 ?x190 ?x191 ?x192) (L2.Z0E ?x193 ?x194 ?x195 ?x196 ?x197) (L2.Z0E ?x198 ?x199 ?x200 ?x201 ?x202) (L2.Z0E ?x203 ?x204 ?x205 ?x206 ?x207) (L2.Z0E ?x208 ?x209 ?x210 ?x211 ?x212) (L2.Z0E ?x213 ?x214 ?x215 ?x216 ?x217) (L2.Z0E ?x218 ?x219 ?x220 ?x221 ?x222) (L2.Z0E ?x223 ?x224 ?x225 ?x226 ?x227) (L2.Z0E ?x228 ?x229 ?x230 ?x231 ?x232) (L2.Z0E ?x233 ?x234 ?x235 ?x236 ?x237) (L2.Z0E ?x238 ?x239 ?x240 ?x241 ?x242) (L2.Z0E ?x243 ?x244 ?x245 ?x246 ?x247) (L2.Z0E ?x248 ?x249 ?x250 ?x251 ?x252) (L2.Z0E ?x253 ?x254 ?x255 ?x256 ?x257) (L2.Z0E ?x258 ?x259 ?x260 ?x261 ?x262) (L2.Z0E ?x263 ?x264 ?x265 ?x266 ?x267) (L2.Z0E ?x268 ?x269 ?x270 ?x271 ?x272) (L2.Z0E ?x273 ?x274 ?x275 ?x276 ?x277) (L2.Z0E ?x278 ?x279 ?x280 ?x281 ?x282) (L2.Z0E ?x283 ?x284 ?x285 ?x286 ?x287) (L2.Z0E ?x288 ?x289 ?x290 ?x291 ?x292) (L2.Z0E ?x293 ?x294 ?x295 ?x296 ?x297) (L2.Z0E ?x298 ?x299 ?x300 ?x301 ?x302) (L2.Z0E ?x303 ?x304 ?x305 ?x306 ?x307) (L2.Z0E ?x308 ?x309 ?x310 ?x311 ?x312) (L2.Z0E ?x313 ?x314 ?x315 ?x316 ?x317) (L2.Z0E ?x318 ?x319 ?x320 ?x321 ?x322) (L2.Z0E ?x323 ?x324 ?x325 ?x326 ?x327) (L2.Z0E ?x328 ?x329 ?x330 ?x331 ?x332) (L2.Z0E ?x333 ?x334 ?x335 ?x336 ?x337) (L2.Z0E ?x338 ?x339 ?x340 ?x341 ?x342) (L2.Z0E ?x343 ?x344 ?x345 ?x346 ?x347) (L2.Z0E ?x348 ?x349 ?x350 ?x351 ?x352)⟩
      (case x0=>k_is);(case x1=>k_is);(case x2=>k_is);(case x3=>k_is);(case x4=>k_is);(case x5=>k_is);(case x6=>k_is);(case x7=>k_is);(case x8=>k_is);(case x9=>k_is);(case x10=>k_is);(case x11=>k_is);(case x12=>k_is);(case x13=>k_is);(case x14=>k_is);(case x15=>k_is);(case x16=>k_is);(case x17=>k_is);(case x18=>k_is);(case x19=>k_is);(case x20=>k_is);(case x21=>k_is);(case x22=>k_is);(case x23=>k_is);(case x24=>k_is);(case x25=>k_is);(case x26=>k_is);(case x27=>k_is);(case x28=>k_is);(case x29=>k_is);(case x30=>k_is);(case x31=>k_is);(case x32=>k_is);(case x33=>k_is);(case x34=>k_is);(case x35=>k_is);(case x36=>exact rfl);(case x37=>exact ⟨_,rfl⟩);(case x38=>k_is);(case x39=>k_is);(case x40=>k_is);(case x41=>k_is);(case x42=>k_is);(case x43=>k_is);(case x44=>k_is);(case x45=>k_is);(case x46=>k_is);(case x47=>k_is);(case x48=>k_is);(case x49=>k_is);(case x50=>k_is);(case x51=>k_is);(case x52=>k_is);(case x53=>k_is);(case x54=>k_is);(case x55=>k_is);(case x56=>k_is);(case x57=>k_is);(case x58=>k_is);(case x59=>k_is);(case x60=>k_is);(case x61=>k_is);(case x62=>k_is);(case x63=>k_is);(case x64=>k_is);(case x65=>k_is);(case x66=>k_is);(case x67=>k_is);(case x68=>k_is);(case x69=>k_is);(case x70=>k_is);(case x71=>k_is);(case x72=>k_is);(case x73=>k_is);(case x74=>k_is);(case x75=>k_is);(case x76=>k_is);(case x77=>k_is);(case x78=>k_is);(case x79=>k_is);(case x80=>k_is);(case x81=>k_is);(case x82=>k_is);(case x83=>k_is);(case x84=>k_is);(case x85=>k_is);(case x86=>k_is);(case x87=>k_is);(case x88=>k_is);(case x89=>k_is);(case x90=>k_is);(case x91=>k_is);(case x92=>k_is);(case x93=>k_is);(case x94=>k_is);(case x95=>k_is);(case x96=>k_is);(case x97=>k_is);(case x98=>k_is);(case x99=>k_is);(case x100=>k_is);(case x101=>k_is);(case x102=>k_is);(case x103=>k_is);(case x104=>k_is);(case x105=>k_is);(case x106=>k_is);(case x107=>k_is);(case x108=>k_is);(case x109=>k_is);(case x110=>k_is);(case pg_Hall=>k_is);(case hd_Hall=>k_is);(case po_Hall=>k_is);(case sa_Hall=>k_is);(case mk_Hall=>k_is);(case kp_Hall=>k_is);(case x111=>k_is);(case x112=>k_is);(case x113=>k_is);(case pg_Scope=>k_is);(case hd_Scope=>k_is);(case po_Scope=>k_is);(case sa_Scope=>k_is);(case mk_Scope=>k_is);(case kp_Scope=>k_is);(case x114=>k_is);(case x115=>k_is);(case x116=>k_is);(case x117=>k_is);(case pg_Waits=>k_is);(case hd_Waits=>k_is);(case po_Waits=>k_is);(case sa_Waits=>k_is);(case mk_Waits=>k_is);(case kp_Waits=>k_is);(case x118=>k_is);(case x119=>k_is);(case x120=>k_is);(case pg_Walk=>k_is);(case hd_Walk=>k_is);(case po_Walk=>k_is);(case sa_Walk=>k_is);(case mk_Walk=>k_is);(case kp_Walk=>k_is);(case x121=>k_is);(case x122=>k_is);(case x123=>k_is);(case x124=>k_is);(case x125=>k_is);(case x126=>k_is);(case x127=>k_is);(case x128=>k_is);(case pg_Term=>k_is);(case hd_Term=>k_is);(case po_Term=>k_is);(case sa_Term=>k_is);(case mk_Term=>k_is);(case kp_Term=>k_is);(case x129=>k_is);(case x130=>k_is);(case x131=>k_is);(case x132=>k_is);(case x133=>k_is);(case x134=>k_is);(case x135=>k_is);(case pg_Word=>k_is);(case hd_Word=>k_is);(case po_Word=>k_is);(case sa_Word=>k_is);(case mk_Word=>k_is);(case kp_Word=>k_is);(case x136=>k_is);(case x137=>k_is);(case x138=>k_is);(case x139=>k_is);(case x140=>k_is);(case pg_House=>k_is);(case hd_House=>k_is);(case po_House=>k_is);(case sa_House=>k_is);(case mk_House=>k_is);(case kp_House=>k_is);(case x141=>k_is);(case x142=>k_is);(case x143=>k_is);(case x144=>k_is);(case x145=>k_is);(case pg_Program=>k_is);(case hd_Program=>k_is);(case po_Program=>k_is);(case sa_Program=>k_is);(case mk_Program=>k_is);(case kp_Program=>k_is);(case x146=>k_is);(case x147=>k_is);(case x148=>k_is);(case x149=>k_is);(case x150=>k_is);(case x151=>k_is);(case x152=>k_is);(case x153=>k_is);(case x154=>k_is);(case x155=>k_is);(case x156=>k_is);(case x157=>k_is);(case x158=>k_is);(case x159=>k_is);(case x160=>k_is);(case x161=>k_is);(case x162=>k_is);(case x163=>k_is);(case x164=>k_is);(case x165=>k_is);(case x166=>k_is);(case x167=>k_is);(case x168=>k_is);(case x169=>k_is);(case x170=>k_is);(case x171=>k_is);(case x172=>k_is);(case x173=>k_is);(case x174=>k_is);(case x175=>k_is);(case x176=>k_is);(case x177=>k_is);(case x178=>k_is);(case x179=>k_is);(case x180=>k_is);(case x181=>k_is);(case x182=>k_is);(case x183=>k_is);(case x184=>k_is);(case x185=>k_is);(case x186=>k_is);(case x187=>k_is);(case x188=>k_is);(case x189=>k_is);(case x190=>k_is);(case x191=>k_is);(case x192=>k_is);(case x193=>k_is);(case x194=>k_is);(case x195=>k_is);(case x196=>k_is);(case x197=>k_is);(case x198=>k_is);(case x199=>k_is);(case x200=>k_is);(case x201=>k_is);(case x202=>k_is);(case x203=>k_is);(case x204=>k_is);(case x205=>k_is);(case x206=>k_is);(case x207=>k_is);(case x208=>k_is);(case x209=>k_is);(case x210=>k_is);(case x211=>k_is);(case x212=>k_is);(case x213=>k_is);(case x214=>k_is);(case x215=>k_is);(case x216=>k_is);(case x217=>k_is);(case x218=>k_is);(case x219=>k_is);(case x220=>k_is);(case x221=>k_is);(case x222=>k_is);(case x223=>k_is);(case x224=>k_is);(case x225=>k_is);(case x226=>k_is);(case x227=>k_is);(case x228=>k_is);(case x229=>k_is);(case x230=>k_is);(case x231=>k_is);(case x232=>k_is);(case x233=>k_is);(case x234=>k_is);(case x235=>k_is);(case x236=>k_is);(case x237=>k_is);(case x238=>k_is);(case x239=>k_is);(case x240=>k_is);(case x241=>k_is);(case x242=>k_is);(case x243=>k_is);(case x244=>k_is);(case x245=>k_is);(case x246=>k_is);(case x247=>k_is);(case x248=>k_is);(case x249=>k_is);(case x250=>k_is);(case x251=>k_is);(case x252=>k_is);(case x253=>k_is);(case x254=>k_is);(case x255=>k_is);(case x256=>k_is);(case x257=>k_is);(case x258=>k_is);(case x259=>k_is);(case x260=>k_is);(case x261=>k_is);(case x262=>k_is);(case x263=>k_is);(case x264=>k_is);(case x265=>k_is);(case x266=>k_is);(case x267=>k_is);(case x268=>k_is);(case x269=>k_is);(case x270=>k_is);(case x271=>k_is);(case x272=>k_is);(case x273=>k_is);(case x274=>k_is);(case x275=>k_is);(case x276=>k_is);(case x277=>k_is);(case x278=>k_is);(case x279=>k_is);(case x280=>k_is);(case x281=>k_is);(case x282=>k_is);(case x283=>k_is);(case x284=>k_is);(case x285=>k_is);(case x286=>k_is);(case x287=>k_is);(case x288=>k_is);(case x289=>k_is);(case x290=>k_is);(case x291=>k_is);(case x292=>k_is);(case x293=>k_is);(case x294=>k_is);(case x295=>k_is);(case x296=>k_is);(case x297=>k_is);(case x298=>k_is);(case x299=>k_is);(case x300=>k_is);(case x301=>k_is);(case x302=>k_is);(case x303=>k_is);(case x304=>k_is);(case x305=>k_is);(case x306=>k_is);(case x307=>k_is);(case x308=>k_is);(case x309=>k_is);(case x310=>k_is);(case x311=>k_is);(case x312=>k_is);(case x313=>k_is);(case x314=>k_is);(case x315=>k_is);(case x316=>k_is);(case x317=>k_is);(case x318=>k_is);(case x319=>k_is);(case x320=>k_is);(case x321=>k_is);(case x322=>k_is);(case x323=>k_is);(case x324=>k_is);(case x325=>k_is);(case x326=>k_is);(case x327=>k_is);(case x328=>k_is);(case x329=>k_is);(case x330=>k_is);(case x331=>k_is);(case x332=>k_is);(case x333=>k_is);(case x334=>k_is);(case x335=>k_is);(case x336=>k_is);(case x337=>k_is);(case x338=>k_is);(case x339=>k_is);(case x340=>k_is);(case x341=>k_is);(case x342=>k_is);(case x343=>k_is);(case x344=>k_is);(case x345=>k_is);(case x346=>k_is);(case x347=>k_is);(case x348=>k_is);(case x349=>k_is);(case x350=>k_is);(case x351=>k_is);(case x352=>k_is)
    obtain ⟨Cl,Cs,Cq,Ck,Ct,Cw,Ch,Cp,T⟩:=T
    exact L2.J5l T.f_law hmg (fun _ _ _ _ _ _ _=>rfl) fun f fd base F=>K42.J5Y T F
  case S=>exact fun K H a ns hl _ hS=>K42.J0A hl hS
