import PyProof.Rows.All
import Wide.All
import OpenK.AllK
import Wide.FinOn
import PySem.PyData
import OpenK.KMore
import OpenK.KMake
import OpenK.KDescr
import OpenK.KOwn
import KE.KIsAll
import KE.KItem
import KE.KxBytes
import PyProof.EqAt
import PyProof.EqKinds
import PyProof.TupleCall
import PyProof.ReprRoads
import PyProof.ReprLen
import PyProof.ListNew
import PyProof.WalksMore
import KE.KRevIter
import PyProof.ZipIter
import PyProof.SumWalkG
import PyProof.MinMaxWalk
import PyProof.WalkInts
import PyProof.SeqI3
import PyProof.Rows.CallKwBuiltin
import KE.KMinKey
import PyProof.AutoSeq1
import PyProof.ListMulRoad
import PyProof.FactsAll.tuple
import PyProof.Rows.SeqMore
import PyProof.CompUse
import KE.KDictOf
import PyProof.AttrMiss
import PyProof.FactsAll.zip_1
import PyProof.ListRange
import PyProof.Rows.ListRangeD
import KE.KLam
import KE.KSortTup
import PyProof.AttrMissHeap
import PyProof.DictIter
import PyProof.DictWalks
import PyProof.DictTruth
import PyProof.Rows.SortRuns
import PyProof.StrLawsIdx
import PyProof.StrBlock2
import PyProof.StrBlockL
import PyProof.StrLawsJoin
import PyProof.StrLawsIn
import PyProof.Rows.StrCase
import PyProof.Rows.StrAscii
import Lean
import PySem.Challenge.RW_elderhouse_k30_fits_and_nearest
set_option Elab.async false
set_option linter.all false
set_option maxRecDepth 100000
set_option maxHeartbeats 4000000
open PySem.Challenge renaming pw_elderhouse_k30_fits_and_nearest→pw0,rw_elderhouse_k30_fits_and_nearest→rw0
section
namespace L2
open PySem
def Z0L (s:Stmt) (j:Nat):Stmt:=match s with
 | .ClassDef _ _ _ body _ _ _ _ _ _ _=>body.getD j (.Pass ⟨0,0,0,0⟩)
 | _=>.Pass ⟨0,0,0,0⟩
def Z0k (s:Stmt):Arguments:=match s with
 | .FunctionDef _ a _ _ _ _ _ _ _ _=>a
 | _=>{ posonlyargs:=[],args:=[],vararg:=none,kwonlyargs:=[],kw_defaults:=[],kwarg:=none,defaults:=[] }
def Z0i (s:Stmt):List Stmt:=match s with
 | .FunctionDef _ _ b _ _ _ _ _ _ _=>b
 | _=>[]
def Z0c (s:Stmt):Scope:=match s with
 | .FunctionDef _ _ _ _ _ _ sc _ _ _=>sc
 | _=>{ kind:=.function,names:=[],isGenerator:=false,isCoroutine:=false }
end L2
namespace K30
open PySem L2
def top (i:Nat):Stmt:=pw0.main.body.getD i (.Pass ⟨0,0,0,0⟩)
abbrev Z2p:Stmt:=top 3
abbrev Z6d:Stmt:=top 4
abbrev Z2A:Stmt:=top 5
abbrev Z2k:Stmt:=top 8
abbrev Z2i:Stmt:=top 12
abbrev Z1E:Stmt:=top 14
abbrev Z2j:Stmt:=top 15
abbrev Z2E:Stmt:=top 16
abbrev Z2C:Stmt:=top 17
abbrev Z1J:Stmt:=top 18
abbrev Z2l:Stmt:=top 19
abbrev Z2h:Stmt:=top 20
abbrev Z1F:Stmt:=top 24
abbrev Z1Z:Stmt:=top 25
abbrev Z0N:Stmt:=top 26
abbrev Z0G:Stmt:=top 27
abbrev Z1X:Stmt:=top 28
abbrev Z1r:Stmt:=top 29
abbrev Z1t:Stmt:=top 30
abbrev Z1y:Stmt:=top 31
abbrev Z1V:Stmt:=top 32
abbrev Z1i:Stmt:=top 33
abbrev Z2m:Stmt:=top 34
abbrev Z0Q:Stmt:=top 35
abbrev Z8D:Stmt:=top 36
abbrev Z1a:Stmt:=Z0L (top 7) 0
abbrev Z1z:Stmt:=Z0L (top 7) 1
abbrev Z1A:Stmt:=Z0L (top 7) 2
abbrev Z1I:Stmt:=Z0L (top 7) 3
abbrev Z1T:Stmt:=Z0L (top 7) 4
abbrev Z1d:Stmt:=Z0L (top 9) 0
abbrev Z1C:Stmt:=Z0L (top 9) 1
abbrev Z0R:Stmt:=Z0L (top 10) 0
abbrev Z1s:Stmt:=Z0L (top 10) 1
abbrev Z0J:Stmt:=Z0L (top 11) 0
abbrev Z1c:Stmt:=Z0L (top 11) 1
abbrev Z0Y:Stmt:=Z0L (top 22) 0
abbrev Z1Q:Stmt:=Z0L (top 22) 1
abbrev Z1q:Stmt:=Z0L (top 22) 2
abbrev Z1R:Stmt:=Z0L (top 22) 4
abbrev Z2c:Stmt:=Z0L (top 22) 5
abbrev Z2a:Stmt:=Z0L (top 22) 6
noncomputable def rv:W.RowW:=W.OpenRow.toRowW (W.OpenLaw.row rw0)
noncomputable def qv:Program:={ pw0 with main:={ pw0.main with body:=[top 0,top 2,top 3,top 4,top 5,top 7,top 8,top 9,top 10,top 11,top 12,top 14,top 15,top 16,top 17,top 18,top 19,top 20,top 22,top 24,top 25,top 26,top 27,top 28,top 29,top 30,top 31,top 32,top 33,top 34,top 35,top 36] } }
abbrev Z6D:Stmt:=top 0
abbrev Z1N:Stmt:=Z0L (top 11) 2
abbrev Z2g:Stmt:=Z0L (top 22) 3
abbrev Z2R:Stmt:=Z0L (top 22) 7
abbrev Z1v:Stmt:=Z0L (top 22) 8
noncomputable def KB (P:PySem.Params):W.Frag:=
 (nat_lit 2,Function.const (("a":Str)≠"b") (⟨.none,none,(.dict #[] 0),#[]⟩:Obj) (by decide)) ::
 (nat_lit 3,⟨(.type "dict"),none,(.dict #[⟨PyData.keyHash P "__name__",(.str "__name__" 165),(.str "law_elderhouse_k30_fits_and_nearest" 581)⟩,⟨PyData.keyHash P "__doc__",(.str "__doc__" 166),.none⟩,⟨PyData.keyHash P "__package__",(.str "__package__" 167),.none⟩,⟨PyData.keyHash P "__loader__",(.str "__loader__" 168),(.builtin "__main__.__loader__#opaque")⟩,⟨PyData.keyHash P "__spec__",(.str "__spec__" 169),.none⟩,⟨PyData.keyHash P "__annotations__",(.str "__annotations__" 170),(.ref 6)⟩,⟨PyData.keyHash P "__builtins__",(.str "__builtins__" 171),(.ref 4)⟩,⟨PyData.keyHash P "__file__",(.str "__file__" 173),(.str "/claim/cut.py" 172)⟩,⟨PyData.keyHash P "__cached__",(.str "__cached__" 174),.none⟩,⟨PyData.keyHash P "_wall",(.str "_wall" 193),(.ref 21)⟩,⟨PyData.keyHash P "NO_HOUSES",(.str "NO_HOUSES" 198),(.ref 22)⟩,⟨PyData.keyHash P "is_house",(.str "is_house" 205),(.ref 29)⟩,⟨PyData.keyHash P "fits",(.str "fits" 214),(.ref 36)⟩,⟨PyData.keyHash P "nearest",(.str "nearest" 224),(.ref 43)⟩,⟨PyData.keyHash P "Term",(.str "Term" 286),(.ref 86)⟩,⟨PyData.keyHash P "shape_of",(.str "shape_of" 295),(.ref 97)⟩,⟨PyData.keyHash P "Word",(.str "Word" 337),(.ref 121)⟩,⟨PyData.keyHash P "House",(.str "House" 378),(.ref 147)⟩,⟨PyData.keyHash P "Program",(.str "Program" 422),(.ref 180)⟩,⟨PyData.keyHash P "pairs_of",(.str "pairs_of" 428),(.ref 189)⟩,⟨PyData.keyHash P "program_of",(.str "program_of" 436),(.ref 194)⟩,⟨PyData.keyHash P "house_of",(.str "house_of" 442),(.ref 199)⟩,⟨PyData.keyHash P "word_of",(.str "word_of" 453),(.ref 206)⟩,⟨PyData.keyHash P "term_of",(.str "term_of" 459),(.ref 211)⟩,⟨PyData.keyHash P "all_within",(.str "all_within" 469),(.ref 218)⟩,⟨PyData.keyHash P "parts_of",(.str "parts_of" 477),(.ref 225)⟩,⟨PyData.keyHash P "label_of",(.str "label_of" 485),(.ref 232)⟩,⟨PyData.keyHash P "Hall",(.str "Hall" 580),(.ref 299)⟩,⟨PyData.keyHash P "_law_drawn",(.str "_law_drawn" 591),(.ref 310)⟩,⟨PyData.keyHash P "_law_name",(.str "_law_name" 597),(.ref 315)⟩,⟨PyData.keyHash P "_law_order",(.str "_law_order" 606),(.ref 322)⟩,⟨PyData.keyHash P "_law_elders_drawn",(.str "_law_elders_drawn" 617),(.ref 329)⟩,⟨PyData.keyHash P "_law_kind",(.str "_law_kind" 625),(.ref 336)⟩,⟨PyData.keyHash P "_law_fields",(.str "_law_fields" 640),(.ref 343)⟩,⟨PyData.keyHash P "_law_params",(.str "_law_params" 646),(.ref 348)⟩,⟨PyData.keyHash P "_law_heads",(.str "_law_heads" 661),(.ref 355)⟩,⟨PyData.keyHash P "_law_rows",(.str "_law_rows" 667),(.ref 360)⟩,⟨PyData.keyHash P "_law_program",(.str "_law_program" 673),(.ref 365)⟩,⟨PyData.keyHash P "_law_ups",(.str "_law_ups" 679),(.ref 370)⟩,⟨PyData.keyHash P "_law_pair_good",(.str "_law_pair_good" 685),(.ref 375)⟩,⟨PyData.keyHash P "law",(.str "law" 691),(.ref 380)⟩] 41),#[]⟩) ::
 (nat_lit 15,⟨(.type "tuple"),none,(.seq #[] 0),#[]⟩) ::
 (nat_lit 17,⟨(.type "tuple"),none,(.seq #[(.str "k" 190)] 0),#[]⟩) ::
 (nat_lit 18,⟨(.type "tuple"),none,(.seq #[] 0),#[]⟩) ::
 (nat_lit 20,⟨(.type "code"),none,(.fields #[(.str "_wall" 187),(.str "_wall" 188),(.str "/claim/cut.py" 189),(.int (1) 0),(.int (1) 0),(.int (0) 0),(.int (0) 0),(.int (3) 0),(.ref 15),(.bool true),(.int (181) 0),(.ref 16),.none,(.ref 17),(.ref 18),(.ref 19),(.int (191) 0),(.int (1) 0),(.str "/claim/cut.py" 192)]),#[]⟩) ::
 (nat_lit 21,⟨(.type "function"),none,(.func (W.fnOf "_wall" "_wall" (L2.Z0k Z6D) (L2.Z0i Z6D) (L2.Z0c Z6D) .none .none .none (.str "__main__" 164) none (.ref 20) .none)),#[]⟩) ::
 (nat_lit 22,⟨(.type "tuple"),none,(.seq #[(.str "number" 196),(.str "truth" 197)] 0),#[]⟩) ::
 (nat_lit 23,⟨(.type "tuple"),none,(.seq #[] 0),#[]⟩) ::
 (nat_lit 25,⟨(.type "tuple"),none,(.seq #[(.str "kind" 202)] 0),#[]⟩) ::
 (nat_lit 26,⟨(.type "tuple"),none,(.seq #[] 0),#[]⟩) ::
 (nat_lit 28,⟨(.type "code"),none,(.fields #[(.str "is_house" 199),(.str "is_house" 200),(.str "/claim/cut.py" 201),(.int (6) 0),(.int (1) 0),(.int (0) 0),(.int (0) 0),(.int (3) 0),(.ref 23),(.bool true),(.int (181) 0),(.ref 24),.none,(.ref 25),(.ref 26),(.ref 27),(.int (203) 0),(.int (6) 0),(.str "/claim/cut.py" 204)]),#[]⟩) ::
 (nat_lit 29,⟨(.type "function"),none,(.func (W.fnOf "is_house" "is_house" (L2.Z0k Z2p) (L2.Z0i Z2p) (L2.Z0c Z2p) .none .none .none (.str "elderhouse.kinds" 194) none (.ref 28) .none)),#[]⟩) ::
 (nat_lit 30,⟨(.type "tuple"),none,(.seq #[] 0),#[]⟩) ::
 (nat_lit 32,⟨(.type "tuple"),none,(.seq #[(.str "hall" 209),(.str "one" 210),(.str "other" 211)] 0),#[]⟩) ::
 (nat_lit 33,⟨(.type "tuple"),none,(.seq #[] 0),#[]⟩) ::
 (nat_lit 35,⟨(.type "code"),none,(.fields #[(.str "fits" 206),(.str "fits" 207),(.str "/claim/cut.py" 208),(.int (8) 0),(.int (3) 0),(.int (0) 0),(.int (0) 0),(.int (3) 0),(.ref 30),(.bool true),(.int (181) 0),(.ref 31),.none,(.ref 32),(.ref 33),(.ref 34),(.int (212) 0),(.int (8) 0),(.str "/claim/cut.py" 213)]),#[]⟩) ::
 (nat_lit 36,⟨(.type "function"),none,(.func (W.fnOf "fits" "fits" (L2.Z0k Z6d) (L2.Z0i Z6d) (L2.Z0c Z6d) .none .none .none (.str "elderhouse.kinds" 194) none (.ref 35) .none)),#[]⟩) ::
 (nat_lit 37,⟨(.type "tuple"),none,(.seq #[] 0),#[]⟩) ::
 (nat_lit 39,⟨(.type "tuple"),none,(.seq #[(.str "hall" 218),(.str "one" 219),(.str "other" 220),(.str "common" 221)] 0),#[]⟩) ::
 (nat_lit 40,⟨(.type "tuple"),none,(.seq #[] 0),#[]⟩) ::
 (nat_lit 42,⟨(.type "code"),none,(.fields #[(.str "nearest" 215),(.str "nearest" 216),(.str "/claim/cut.py" 217),(.int (12) 0),(.int (3) 0),(.int (0) 0),(.int (0) 0),(.int (3) 0),(.ref 37),(.bool true),(.int (181) 0),(.ref 38),.none,(.ref 39),(.ref 40),(.ref 41),(.int (222) 0),(.int (12) 0),(.str "/claim/cut.py" 223)]),#[]⟩) ::
 (nat_lit 43,⟨(.type "function"),none,(.func (W.fnOf "nearest" "nearest" (L2.Z0k Z2A) (L2.Z0i Z2A) (L2.Z0c Z2A) .none .none .none (.str "elderhouse.kinds" 194) none (.ref 42) .none)),#[]⟩) ::
 (nat_lit 51,⟨(.type "tuple"),none,(.seq #[] 0),#[]⟩) ::
 (nat_lit 54,⟨(.type "code"),none,(.fields #[(.str "__init__" 239),(.str "Term.__init__" 240),(.str "/claim/cut.py" 241),(.int (24) 0),(.int (4) 0),(.int (0) 0),(.int (0) 0),(.int (3) 0),(.ref 51),(.bool true),(.int (181) 0),(.ref 52),.none,.none,.none,(.ref 53),(.int (242) 0),(.int (24) 0),(.str "/claim/cut.py" 243)]),#[]⟩) ::
 (nat_lit 55,⟨(.type "function"),none,(.func (W.fnOf "__init__" "Term.__init__" (L2.Z0k Z1a) (L2.Z0i Z1a) (L2.Z0c Z1a) .none .none .none (.str "elderhouse.terms" 225) none (.ref 54) .none)),#[]⟩) ::
 (nat_lit 56,⟨(.type "tuple"),none,(.seq #[] 0),#[]⟩) ::
 (nat_lit 58,⟨(.type "tuple"),none,(.seq #[(.str "self" 248)] 0),#[]⟩) ::
 (nat_lit 59,⟨(.type "tuple"),none,(.seq #[] 0),#[]⟩) ::
 (nat_lit 61,⟨(.type "code"),none,(.fields #[(.str "plain" 245),(.str "Term.plain" 246),(.str "/claim/cut.py" 247),(.int (32) 0),(.int (1) 0),(.int (0) 0),(.int (0) 0),(.int (3) 0),(.ref 56),(.bool true),(.int (181) 0),(.ref 57),.none,(.ref 58),(.ref 59),(.ref 60),(.int (249) 0),(.int (32) 0),(.str "/claim/cut.py" 250)]),#[]⟩) ::
 (nat_lit 62,⟨(.type "function"),none,(.func (W.fnOf "plain" "Term.plain" (L2.Z0k Z1z) (L2.Z0i Z1z) (L2.Z0c Z1z) .none .none .none (.str "elderhouse.terms" 225) none (.ref 61) .none)),#[]⟩) ::
 (nat_lit 63,⟨(.type "tuple"),none,(.seq #[] 0),#[]⟩) ::
 (nat_lit 65,⟨(.type "tuple"),none,(.seq #[(.str "self" 255)] 0),#[]⟩) ::
 (nat_lit 66,⟨(.type "tuple"),none,(.seq #[] 0),#[]⟩) ::
 (nat_lit 68,⟨(.type "code"),none,(.fields #[(.str "parts" 252),(.str "Term.parts" 253),(.str "/claim/cut.py" 254),(.int (35) 0),(.int (1) 0),(.int (0) 0),(.int (0) 0),(.int (3) 0),(.ref 63),(.bool true),(.int (181) 0),(.ref 64),.none,(.ref 65),(.ref 66),(.ref 67),(.int (256) 0),(.int (35) 0),(.str "/claim/cut.py" 257)]),#[]⟩) ::
 (nat_lit 69,⟨(.type "function"),none,(.func (W.fnOf "parts" "Term.parts" (L2.Z0k Z1A) (L2.Z0i Z1A) (L2.Z0c Z1A) .none .none .none (.str "elderhouse.terms" 225) none (.ref 68) .none)),#[]⟩) ::
 (nat_lit 70,⟨(.type "tuple"),none,(.seq #[] 0),#[]⟩) ::
 (nat_lit 72,⟨(.type "tuple"),none,(.seq #[(.str "self" 262)] 0),#[]⟩) ::
 (nat_lit 73,⟨(.type "tuple"),none,(.seq #[] 0),#[]⟩) ::
 (nat_lit 75,⟨(.type "code"),none,(.fields #[(.str "depth" 259),(.str "Term.depth" 260),(.str "/claim/cut.py" 261),(.int (38) 0),(.int (1) 0),(.int (0) 0),(.int (0) 0),(.int (3) 0),(.ref 70),(.bool true),(.int (181) 0),(.ref 71),.none,(.ref 72),(.ref 73),(.ref 74),(.int (263) 0),(.int (38) 0),(.str "/claim/cut.py" 264)]),#[]⟩) ::
 (nat_lit 76,⟨(.type "function"),none,(.func (W.fnOf "depth" "Term.depth" (L2.Z0k Z1I) (L2.Z0i Z1I) (L2.Z0c Z1I) .none .none .none (.str "elderhouse.terms" 225) none (.ref 75) .none)),#[]⟩) ::
 (nat_lit 77,⟨(.type "tuple"),none,(.seq #[] 0),#[]⟩) ::
 (nat_lit 79,⟨(.type "tuple"),none,(.seq #[(.str "self" 269)] 0),#[]⟩) ::
 (nat_lit 80,⟨(.type "tuple"),none,(.seq #[] 0),#[]⟩) ::
 (nat_lit 82,⟨(.type "code"),none,(.fields #[(.str "size" 266),(.str "Term.size" 267),(.str "/claim/cut.py" 268),(.int (41) 0),(.int (1) 0),(.int (0) 0),(.int (0) 0),(.int (3) 0),(.ref 77),(.bool true),(.int (181) 0),(.ref 78),.none,(.ref 79),(.ref 80),(.ref 81),(.int (270) 0),(.int (41) 0),(.str "/claim/cut.py" 271)]),#[]⟩) ::
 (nat_lit 83,⟨(.type "function"),none,(.func (W.fnOf "size" "Term.size" (L2.Z0k Z1T) (L2.Z0i Z1T) (L2.Z0c Z1T) .none .none .none (.str "elderhouse.terms" 225) none (.ref 82) .none)),#[]⟩) ::
 (nat_lit 84,⟨(.type "tuple"),none,(.seq #[(.str "deep" 273),(.str "form" 274),(.str "inner" 275),(.str "label" 276),(.str "many" 277),(.str "shape" 278)] 0),#[]⟩) ::
 (nat_lit 85,⟨(.type "dict"),none,(.dict #[⟨PyData.keyHash P "__module__",(.str "__module__" 234),(.str "elderhouse.terms" 225)⟩,⟨PyData.keyHash P "__firstlineno__",(.str "__firstlineno__" 238),(.int (22) 237)⟩,⟨PyData.keyHash P "__init__",(.str "__init__" 244),(.ref 55)⟩,⟨PyData.keyHash P "plain",(.str "plain" 251),(.ref 62)⟩,⟨PyData.keyHash P "parts",(.str "parts" 258),(.ref 69)⟩,⟨PyData.keyHash P "depth",(.str "depth" 265),(.ref 76)⟩,⟨PyData.keyHash P "size",(.str "size" 272),(.ref 83)⟩,⟨PyData.keyHash P "__static_attributes__",(.str "__static_attributes__" 279),(.ref 84)⟩,⟨PyData.keyHash P "__dict__",(.str "__dict__" 281),(.ref 87)⟩,⟨PyData.keyHash P "__weakref__",(.str "__weakref__" 283),(.ref 88)⟩,⟨PyData.keyHash P "__doc__",(.str "__doc__" 284),.none⟩] 4),#[]⟩) ::
 (nat_lit 86,⟨(.type "type"),none,(.cls ⟨"Term",[(.type "object")],[(.ref 86),(.type "object")],85,"Term",true,[],[],false,none,false⟩),#[none,none,(some (.str "Term" 227)),(some (.str "Term" 235)),(some (.builtin "object.__new__")),(some (.bool true))]⟩) ::
 (nat_lit 87,⟨(.type "getset_descriptor"),none,(.fields #[(.str "__dict__" 280),(.ref 86),(.builtin "function.__dict__"),(.builtin "function.__dict__#set")]),#[]⟩) ::
 (nat_lit 88,⟨(.type "getset_descriptor"),none,(.fields #[(.str "__weakref__" 282),(.ref 86),(.builtin "ExceptionGroup.__weakref__"),.none]),#[]⟩) ::
 (nat_lit 91,⟨(.type "tuple"),none,(.seq #[] 0),#[]⟩) ::
 (nat_lit 93,⟨(.type "tuple"),none,(.seq #[(.str "form" 290),(.str "label" 291),(.str "parts" 292)] 0),#[]⟩) ::
 (nat_lit 94,⟨(.type "tuple"),none,(.seq #[] 0),#[]⟩) ::
 (nat_lit 96,⟨(.type "code"),none,(.fields #[(.str "shape_of" 287),(.str "shape_of" 288),(.str "/claim/cut.py" 289),(.int (43) 0),(.int (3) 0),(.int (0) 0),(.int (0) 0),(.int (3) 0),(.ref 91),(.bool true),(.int (181) 0),(.ref 92),.none,(.ref 93),(.ref 94),(.ref 95),(.int (293) 0),(.int (43) 0),(.str "/claim/cut.py" 294)]),#[]⟩) ::
 (nat_lit 97,⟨(.type "function"),none,(.func (W.fnOf "shape_of" "shape_of" (L2.Z0k Z2k) (L2.Z0i Z2k) (L2.Z0c Z2k) .none .none .none (.str "elderhouse.terms" 225) none (.ref 96) .none)),#[]⟩) ::
 (nat_lit 105,⟨(.type "tuple"),none,(.seq #[] 0),#[]⟩) ::
 (nat_lit 107,⟨(.type "tuple"),none,(.seq #[(.str "self" 311),(.str "name" 312),(.str "params" 313),(.str "kind" 314),(.str "body" 315)] 0),#[]⟩) ::
 (nat_lit 108,⟨(.type "tuple"),none,(.seq #[] 0),#[]⟩) ::
 (nat_lit 110,⟨(.type "code"),none,(.fields #[(.str "__init__" 308),(.str "Word.__init__" 309),(.str "/claim/cut.py" 310),(.int (55) 0),(.int (5) 0),(.int (0) 0),(.int (0) 0),(.int (3) 0),(.ref 105),(.bool true),(.int (181) 0),(.ref 106),.none,(.ref 107),(.ref 108),(.ref 109),(.int (316) 0),(.int (55) 0),(.str "/claim/cut.py" 317)]),#[]⟩) ::
 (nat_lit 111,⟨(.type "function"),none,(.func (W.fnOf "__init__" "Word.__init__" (L2.Z0k Z1d) (L2.Z0i Z1d) (L2.Z0c Z1d) .none .none .none (.str "elderhouse.terms" 225) none (.ref 110) .none)),#[]⟩) ::
 (nat_lit 112,⟨(.type "tuple"),none,(.seq #[] 0),#[]⟩) ::
 (nat_lit 114,⟨(.type "tuple"),none,(.seq #[(.str "self" 322)] 0),#[]⟩) ::
 (nat_lit 115,⟨(.type "tuple"),none,(.seq #[] 0),#[]⟩) ::
 (nat_lit 117,⟨(.type "code"),none,(.fields #[(.str "plain" 319),(.str "Word.plain" 320),(.str "/claim/cut.py" 321),(.int (61) 0),(.int (1) 0),(.int (0) 0),(.int (0) 0),(.int (3) 0),(.ref 112),(.bool true),(.int (181) 0),(.ref 113),.none,(.ref 114),(.ref 115),(.ref 116),(.int (323) 0),(.int (61) 0),(.str "/claim/cut.py" 324)]),#[]⟩) ::
 (nat_lit 118,⟨(.type "function"),none,(.func (W.fnOf "plain" "Word.plain" (L2.Z0k Z1C) (L2.Z0i Z1C) (L2.Z0c Z1C) .none .none .none (.str "elderhouse.terms" 225) none (.ref 117) .none)),#[]⟩) ::
 (nat_lit 119,⟨(.type "tuple"),none,(.seq #[(.str "body" 326),(.str "kind" 327),(.str "name" 328),(.str "params" 329)] 0),#[]⟩) ::
 (nat_lit 120,⟨(.type "dict"),none,(.dict #[⟨PyData.keyHash P "__module__",(.str "__module__" 303),(.str "elderhouse.terms" 225)⟩,⟨PyData.keyHash P "__firstlineno__",(.str "__firstlineno__" 307),(.int (53) 306)⟩,⟨PyData.keyHash P "__init__",(.str "__init__" 318),(.ref 111)⟩,⟨PyData.keyHash P "plain",(.str "plain" 325),(.ref 118)⟩,⟨PyData.keyHash P "__static_attributes__",(.str "__static_attributes__" 330),(.ref 119)⟩,⟨PyData.keyHash P "__dict__",(.str "__dict__" 332),(.ref 122)⟩,⟨PyData.keyHash P "__weakref__",(.str "__weakref__" 334),(.ref 123)⟩,⟨PyData.keyHash P "__doc__",(.str "__doc__" 335),.none⟩] 4),#[]⟩) ::
 (nat_lit 121,⟨(.type "type"),none,(.cls ⟨"Word",[(.type "object")],[(.ref 121),(.type "object")],120,"Word",true,[],[],false,none,false⟩),#[none,none,(some (.str "Word" 296)),(some (.str "Word" 304)),(some (.builtin "object.__new__")),(some (.bool true))]⟩) ::
 (nat_lit 122,⟨(.type "getset_descriptor"),none,(.fields #[(.str "__dict__" 331),(.ref 121),(.builtin "function.__dict__"),(.builtin "function.__dict__#set")]),#[]⟩) ::
 (nat_lit 123,⟨(.type "getset_descriptor"),none,(.fields #[(.str "__weakref__" 333),(.ref 121),(.builtin "ExceptionGroup.__weakref__"),.none]),#[]⟩) ::
 (nat_lit 133,⟨(.type "tuple"),none,(.seq #[] 0),#[]⟩) ::
 (nat_lit 135,⟨(.type "tuple"),none,(.seq #[(.str "self" 353),(.str "name" 354),(.str "elder" 355),(.str "own_fields" 356),(.str "own_words" 357)] 0),#[]⟩) ::
 (nat_lit 136,⟨(.type "tuple"),none,(.seq #[] 0),#[]⟩) ::
 (nat_lit 138,⟨(.type "code"),none,(.fields #[(.str "__init__" 350),(.str "House.__init__" 351),(.str "/claim/cut.py" 352),(.int (65) 0),(.int (5) 0),(.int (0) 0),(.int (0) 0),(.int (3) 0),(.ref 133),(.bool true),(.int (181) 0),(.ref 134),.none,(.ref 135),(.ref 136),(.ref 137),(.int (358) 0),(.int (65) 0),(.str "/claim/cut.py" 359)]),#[]⟩) ::
 (nat_lit 139,⟨(.type "function"),none,(.func (W.fnOf "__init__" "House.__init__" (L2.Z0k Z0R) (L2.Z0i Z0R) (L2.Z0c Z0R) .none .none .none (.str "elderhouse.terms" 225) none (.ref 138) .none)),#[]⟩) ::
 (nat_lit 140,⟨(.type "tuple"),none,(.seq #[] 0),#[]⟩) ::
 (nat_lit 143,⟨(.type "code"),none,(.fields #[(.str "plain" 361),(.str "House.plain" 362),(.str "/claim/cut.py" 363),(.int (71) 0),(.int (1) 0),(.int (0) 0),(.int (0) 0),(.int (3) 0),(.ref 140),(.bool true),(.int (181) 0),(.ref 141),.none,.none,.none,(.ref 142),(.int (364) 0),(.int (71) 0),(.str "/claim/cut.py" 365)]),#[]⟩) ::
 (nat_lit 144,⟨(.type "function"),none,(.func (W.fnOf "plain" "House.plain" (L2.Z0k Z1s) (L2.Z0i Z1s) (L2.Z0c Z1s) .none .none .none (.str "elderhouse.terms" 225) none (.ref 143) .none)),#[]⟩) ::
 (nat_lit 145,⟨(.type "tuple"),none,(.seq #[(.str "elder" 367),(.str "name" 368),(.str "own_fields" 369),(.str "own_words" 370)] 0),#[]⟩) ::
 (nat_lit 146,⟨(.type "dict"),none,(.dict #[⟨PyData.keyHash P "__module__",(.str "__module__" 345),(.str "elderhouse.terms" 225)⟩,⟨PyData.keyHash P "__firstlineno__",(.str "__firstlineno__" 349),(.int (63) 348)⟩,⟨PyData.keyHash P "__init__",(.str "__init__" 360),(.ref 139)⟩,⟨PyData.keyHash P "plain",(.str "plain" 366),(.ref 144)⟩,⟨PyData.keyHash P "__static_attributes__",(.str "__static_attributes__" 371),(.ref 145)⟩,⟨PyData.keyHash P "__dict__",(.str "__dict__" 373),(.ref 148)⟩,⟨PyData.keyHash P "__weakref__",(.str "__weakref__" 375),(.ref 149)⟩,⟨PyData.keyHash P "__doc__",(.str "__doc__" 376),.none⟩] 4),#[]⟩) ::
 (nat_lit 147,⟨(.type "type"),none,(.cls ⟨"House",[(.type "object")],[(.ref 147),(.type "object")],146,"House",true,[],[],false,none,false⟩),#[none,none,(some (.str "House" 338)),(some (.str "House" 346)),(some (.builtin "object.__new__")),(some (.bool true))]⟩) ::
 (nat_lit 148,⟨(.type "getset_descriptor"),none,(.fields #[(.str "__dict__" 372),(.ref 147),(.builtin "function.__dict__"),(.builtin "function.__dict__#set")]),#[]⟩) ::
 (nat_lit 149,⟨(.type "getset_descriptor"),none,(.fields #[(.str "__weakref__" 374),(.ref 147),(.builtin "ExceptionGroup.__weakref__"),.none]),#[]⟩) ::
 (nat_lit 159,⟨(.type "tuple"),none,(.seq #[] 0),#[]⟩) ::
 (nat_lit 161,⟨(.type "tuple"),none,(.seq #[(.str "self" 394),(.str "all_houses" 395),(.str "main" 396)] 0),#[]⟩) ::
 (nat_lit 162,⟨(.type "tuple"),none,(.seq #[] 0),#[]⟩) ::
 (nat_lit 164,⟨(.type "code"),none,(.fields #[(.str "__init__" 391),(.str "Program.__init__" 392),(.str "/claim/cut.py" 393),(.int (76) 0),(.int (3) 0),(.int (0) 0),(.int (0) 0),(.int (3) 0),(.ref 159),(.bool true),(.int (181) 0),(.ref 160),.none,(.ref 161),(.ref 162),(.ref 163),(.int (397) 0),(.int (76) 0),(.str "/claim/cut.py" 398)]),#[]⟩) ::
 (nat_lit 165,⟨(.type "function"),none,(.func (W.fnOf "__init__" "Program.__init__" (L2.Z0k Z0J) (L2.Z0i Z0J) (L2.Z0c Z0J) .none .none .none (.str "elderhouse.terms" 225) none (.ref 164) .none)),#[]⟩) ::
 (nat_lit 166,⟨(.type "tuple"),none,(.seq #[] 0),#[]⟩) ::
 (nat_lit 169,⟨(.type "code"),none,(.fields #[(.str "plain" 400),(.str "Program.plain" 401),(.str "/claim/cut.py" 402),(.int (80) 0),(.int (1) 0),(.int (0) 0),(.int (0) 0),(.int (3) 0),(.ref 166),(.bool true),(.int (181) 0),(.ref 167),.none,.none,.none,(.ref 168),(.int (403) 0),(.int (80) 0),(.str "/claim/cut.py" 404)]),#[]⟩) ::
 (nat_lit 170,⟨(.type "function"),none,(.func (W.fnOf "plain" "Program.plain" (L2.Z0k Z1c) (L2.Z0i Z1c) (L2.Z0c Z1c) .none .none .none (.str "elderhouse.terms" 225) none (.ref 169) .none)),#[]⟩) ::
 (nat_lit 171,⟨(.type "tuple"),none,(.seq #[] 0),#[]⟩) ::
 (nat_lit 173,⟨(.type "tuple"),none,(.seq #[(.str "self" 409)] 0),#[]⟩) ::
 (nat_lit 174,⟨(.type "tuple"),none,(.seq #[] 0),#[]⟩) ::
 (nat_lit 176,⟨(.type "code"),none,(.fields #[(.str "bodies" 406),(.str "Program.bodies" 407),(.str "/claim/cut.py" 408),(.int (84) 0),(.int (1) 0),(.int (0) 0),(.int (0) 0),(.int (3) 0),(.ref 171),(.bool true),(.int (181) 0),(.ref 172),.none,(.ref 173),(.ref 174),(.ref 175),(.int (410) 0),(.int (84) 0),(.str "/claim/cut.py" 411)]),#[]⟩) ::
 (nat_lit 177,⟨(.type "function"),none,(.func (W.fnOf "bodies" "Program.bodies" (L2.Z0k Z1N) (L2.Z0i Z1N) (L2.Z0c Z1N) .none .none .none (.str "elderhouse.terms" 225) none (.ref 176) .none)),#[]⟩) ::
 (nat_lit 178,⟨(.type "tuple"),none,(.seq #[(.str "all_houses" 413),(.str "main" 414)] 0),#[]⟩) ::
 (nat_lit 179,⟨(.type "dict"),none,(.dict #[⟨PyData.keyHash P "__module__",(.str "__module__" 386),(.str "elderhouse.terms" 225)⟩,⟨PyData.keyHash P "__firstlineno__",(.str "__firstlineno__" 390),(.int (74) 389)⟩,⟨PyData.keyHash P "__init__",(.str "__init__" 399),(.ref 165)⟩,⟨PyData.keyHash P "plain",(.str "plain" 405),(.ref 170)⟩,⟨PyData.keyHash P "bodies",(.str "bodies" 412),(.ref 177)⟩,⟨PyData.keyHash P "__static_attributes__",(.str "__static_attributes__" 415),(.ref 178)⟩,⟨PyData.keyHash P "__dict__",(.str "__dict__" 417),(.ref 181)⟩,⟨PyData.keyHash P "__weakref__",(.str "__weakref__" 419),(.ref 182)⟩,⟨PyData.keyHash P "__doc__",(.str "__doc__" 420),.none⟩] 4),#[]⟩) ::
 (nat_lit 180,⟨(.type "type"),none,(.cls ⟨"Program",[(.type "object")],[(.ref 180),(.type "object")],179,"Program",true,[],[],false,none,false⟩),#[none,none,(some (.str "Program" 379)),(some (.str "Program" 387)),(some (.builtin "object.__new__")),(some (.bool true))]⟩) ::
 (nat_lit 181,⟨(.type "getset_descriptor"),none,(.fields #[(.str "__dict__" 416),(.ref 180),(.builtin "function.__dict__"),(.builtin "function.__dict__#set")]),#[]⟩) ::
 (nat_lit 182,⟨(.type "getset_descriptor"),none,(.fields #[(.str "__weakref__" 418),(.ref 180),(.builtin "ExceptionGroup.__weakref__"),.none]),#[]⟩) ::
 (nat_lit 185,⟨(.type "tuple"),none,(.seq #[] 0),#[]⟩) ::
 (nat_lit 188,⟨(.type "code"),none,(.fields #[(.str "pairs_of" 423),(.str "pairs_of" 424),(.str "/claim/cut.py" 425),(.int (86) 0),(.int (1) 0),(.int (0) 0),(.int (0) 0),(.int (3) 0),(.ref 185),(.bool true),(.int (181) 0),(.ref 186),.none,.none,.none,(.ref 187),(.int (426) 0),(.int (86) 0),(.str "/claim/cut.py" 427)]),#[]⟩) ::
 (nat_lit 189,⟨(.type "function"),none,(.func (W.fnOf "pairs_of" "pairs_of" (L2.Z0k Z2i) (L2.Z0i Z2i) (L2.Z0c Z2i) .none .none .none (.str "elderhouse.terms" 225) none (.ref 188) .none)),#[]⟩) ::
 (nat_lit 190,⟨(.type "tuple"),none,(.seq #[] 0),#[]⟩) ::
 (nat_lit 193,⟨(.type "code"),none,(.fields #[(.str "program_of" 431),(.str "program_of" 432),(.str "/claim/cut.py" 433),(.int (89) 0),(.int (1) 0),(.int (0) 0),(.int (0) 0),(.int (3) 0),(.ref 190),(.bool true),(.int (181) 0),(.ref 191),.none,.none,.none,(.ref 192),(.int (434) 0),(.int (89) 0),(.str "/claim/cut.py" 435)]),#[]⟩) ::
 (nat_lit 194,⟨(.type "function"),none,(.func (W.fnOf "program_of" "program_of" (L2.Z0k Z1E) (L2.Z0i Z1E) (L2.Z0c Z1E) .none .none .none (.str "elderhouse.building" 429) none (.ref 193) .none)),#[]⟩) ::
 (nat_lit 195,⟨(.type "tuple"),none,(.seq #[] 0),#[]⟩) ::
 (nat_lit 198,⟨(.type "code"),none,(.fields #[(.str "house_of" 437),(.str "house_of" 438),(.str "/claim/cut.py" 439),(.int (93) 0),(.int (1) 0),(.int (0) 0),(.int (0) 0),(.int (3) 0),(.ref 195),(.bool true),(.int (181) 0),(.ref 196),.none,.none,.none,(.ref 197),(.int (440) 0),(.int (93) 0),(.str "/claim/cut.py" 441)]),#[]⟩) ::
 (nat_lit 199,⟨(.type "function"),none,(.func (W.fnOf "house_of" "house_of" (L2.Z0k Z2j) (L2.Z0i Z2j) (L2.Z0c Z2j) .none .none .none (.str "elderhouse.building" 429) none (.ref 198) .none)),#[]⟩) ::
 (nat_lit 200,⟨(.type "tuple"),none,(.seq #[] 0),#[]⟩) ::
 (nat_lit 202,⟨(.type "tuple"),none,(.seq #[(.str "plain" 446),(.str "name" 447),(.str "params" 448),(.str "kind" 449),(.str "body" 450)] 0),#[]⟩) ::
 (nat_lit 203,⟨(.type "tuple"),none,(.seq #[] 0),#[]⟩) ::
 (nat_lit 205,⟨(.type "code"),none,(.fields #[(.str "word_of" 443),(.str "word_of" 444),(.str "/claim/cut.py" 445),(.int (96) 0),(.int (1) 0),(.int (0) 0),(.int (0) 0),(.int (3) 0),(.ref 200),(.bool true),(.int (181) 0),(.ref 201),.none,(.ref 202),(.ref 203),(.ref 204),(.int (451) 0),(.int (96) 0),(.str "/claim/cut.py" 452)]),#[]⟩) ::
 (nat_lit 206,⟨(.type "function"),none,(.func (W.fnOf "word_of" "word_of" (L2.Z0k Z2E) (L2.Z0i Z2E) (L2.Z0c Z2E) .none .none .none (.str "elderhouse.building" 429) none (.ref 205) .none)),#[]⟩) ::
 (nat_lit 207,⟨(.type "tuple"),none,(.seq #[] 0),#[]⟩) ::
 (nat_lit 210,⟨(.type "code"),none,(.fields #[(.str "term_of" 454),(.str "term_of" 455),(.str "/claim/cut.py" 456),(.int (99) 0),(.int (1) 0),(.int (0) 0),(.int (0) 0),(.int (3) 0),(.ref 207),(.bool true),(.int (181) 0),(.ref 208),.none,.none,.none,(.ref 209),(.int (457) 0),(.int (99) 0),(.str "/claim/cut.py" 458)]),#[]⟩) ::
 (nat_lit 211,⟨(.type "function"),none,(.func (W.fnOf "term_of" "term_of" (L2.Z0k Z2C) (L2.Z0i Z2C) (L2.Z0c Z2C) .none .none .none (.str "elderhouse.building" 429) none (.ref 210) .none)),#[]⟩) ::
 (nat_lit 212,⟨(.type "tuple"),none,(.seq #[] 0),#[]⟩) ::
 (nat_lit 214,⟨(.type "tuple"),none,(.seq #[(.str "plain" 463),(.str "found" 464),(.str "waiting" 465),(.str "one" 466)] 0),#[]⟩) ::
 (nat_lit 215,⟨(.type "tuple"),none,(.seq #[] 0),#[]⟩) ::
 (nat_lit 217,⟨(.type "code"),none,(.fields #[(.str "all_within" 460),(.str "all_within" 461),(.str "/claim/cut.py" 462),(.int (105) 0),(.int (1) 0),(.int (0) 0),(.int (0) 0),(.int (3) 0),(.ref 212),(.bool true),(.int (181) 0),(.ref 213),.none,(.ref 214),(.ref 215),(.ref 216),(.int (467) 0),(.int (105) 0),(.str "/claim/cut.py" 468)]),#[]⟩) ::
 (nat_lit 218,⟨(.type "function"),none,(.func (W.fnOf "all_within" "all_within" (L2.Z0k Z1J) (L2.Z0i Z1J) (L2.Z0c Z1J) .none .none .none (.str "elderhouse.building" 429) none (.ref 217) .none)),#[]⟩) ::
 (nat_lit 219,⟨(.type "tuple"),none,(.seq #[] 0),#[]⟩) ::
 (nat_lit 221,⟨(.type "tuple"),none,(.seq #[(.str "plain" 473),(.str "form" 474)] 0),#[]⟩) ::
 (nat_lit 222,⟨(.type "tuple"),none,(.seq #[] 0),#[]⟩) ::
 (nat_lit 224,⟨(.type "code"),none,(.fields #[(.str "parts_of" 470),(.str "parts_of" 471),(.str "/claim/cut.py" 472),(.int (113) 0),(.int (1) 0),(.int (0) 0),(.int (0) 0),(.int (3) 0),(.ref 219),(.bool true),(.int (181) 0),(.ref 220),.none,(.ref 221),(.ref 222),(.ref 223),(.int (475) 0),(.int (113) 0),(.str "/claim/cut.py" 476)]),#[]⟩) ::
 (nat_lit 225,⟨(.type "function"),none,(.func (W.fnOf "parts_of" "parts_of" (L2.Z0k Z2l) (L2.Z0i Z2l) (L2.Z0c Z2l) .none .none .none (.str "elderhouse.building" 429) none (.ref 224) .none)),#[]⟩) ::
 (nat_lit 226,⟨(.type "tuple"),none,(.seq #[] 0),#[]⟩) ::
 (nat_lit 228,⟨(.type "tuple"),none,(.seq #[(.str "plain" 481),(.str "form" 482)] 0),#[]⟩) ::
 (nat_lit 229,⟨(.type "tuple"),none,(.seq #[] 0),#[]⟩) ::
 (nat_lit 231,⟨(.type "code"),none,(.fields #[(.str "label_of" 478),(.str "label_of" 479),(.str "/claim/cut.py" 480),(.int (126) 0),(.int (1) 0),(.int (0) 0),(.int (0) 0),(.int (3) 0),(.ref 226),(.bool true),(.int (181) 0),(.ref 227),.none,(.ref 228),(.ref 229),(.ref 230),(.int (483) 0),(.int (126) 0),(.str "/claim/cut.py" 484)]),#[]⟩) ::
 (nat_lit 232,⟨(.type "function"),none,(.func (W.fnOf "label_of" "label_of" (L2.Z0k Z2h) (L2.Z0i Z2h) (L2.Z0c Z2h) .none .none .none (.str "elderhouse.building" 429) none (.ref 231) .none)),#[]⟩) ::
 (nat_lit 240,⟨(.type "tuple"),none,(.seq #[] 0),#[]⟩) ::
 (nat_lit 243,⟨(.type "code"),none,(.fields #[(.str "__init__" 500),(.str "Hall.__init__" 501),(.str "/claim/cut.py" 502),(.int (136) 0),(.int (2) 0),(.int (0) 0),(.int (0) 0),(.int (3) 0),(.ref 240),(.bool true),(.int (181) 0),(.ref 241),.none,.none,.none,(.ref 242),(.int (503) 0),(.int (136) 0),(.str "/claim/cut.py" 504)]),#[]⟩) ::
 (nat_lit 244,⟨(.type "function"),none,(.func (W.fnOf "__init__" "Hall.__init__" (L2.Z0k Z0Y) (L2.Z0i Z0Y) (L2.Z0c Z0Y) .none .none .none (.str "elderhouse.houses" 486) none (.ref 243) .none)),#[]⟩) ::
 (nat_lit 245,⟨(.type "tuple"),none,(.seq #[] 0),#[]⟩) ::
 (nat_lit 247,⟨(.type "tuple"),none,(.seq #[(.str "self" 509)] 0),#[]⟩) ::
 (nat_lit 248,⟨(.type "tuple"),none,(.seq #[] 0),#[]⟩) ::
 (nat_lit 250,⟨(.type "code"),none,(.fields #[(.str "houses" 506),(.str "Hall.houses" 507),(.str "/claim/cut.py" 508),(.int (142) 0),(.int (1) 0),(.int (0) 0),(.int (0) 0),(.int (3) 0),(.ref 245),(.bool true),(.int (181) 0),(.ref 246),.none,(.ref 247),(.ref 248),(.ref 249),(.int (510) 0),(.int (142) 0),(.str "/claim/cut.py" 511)]),#[]⟩) ::
 (nat_lit 251,⟨(.type "function"),none,(.func (W.fnOf "houses" "Hall.houses" (L2.Z0k Z1Q) (L2.Z0i Z1Q) (L2.Z0c Z1Q) .none .none .none (.str "elderhouse.houses" 486) none (.ref 250) .none)),#[]⟩) ::
 (nat_lit 252,⟨(.type "tuple"),none,(.seq #[] 0),#[]⟩) ::
 (nat_lit 254,⟨(.type "tuple"),none,(.seq #[(.str "self" 516),(.str "house" 517),(.str "nearest_first" 518),(.str "one" 519)] 0),#[]⟩) ::
 (nat_lit 255,⟨(.type "tuple"),none,(.seq #[] 0),#[]⟩) ::
 (nat_lit 257,⟨(.type "code"),none,(.fields #[(.str "elders" 513),(.str "Hall.elders" 514),(.str "/claim/cut.py" 515),(.int (145) 0),(.int (2) 0),(.int (0) 0),(.int (0) 0),(.int (3) 0),(.ref 252),(.bool true),(.int (181) 0),(.ref 253),.none,(.ref 254),(.ref 255),(.ref 256),(.int (520) 0),(.int (145) 0),(.str "/claim/cut.py" 521)]),#[]⟩) ::
 (nat_lit 258,⟨(.type "function"),none,(.func (W.fnOf "elders" "Hall.elders" (L2.Z0k Z1q) (L2.Z0i Z1q) (L2.Z0c Z1q) .none .none .none (.str "elderhouse.houses" 486) none (.ref 257) .none)),#[]⟩) ::
 (nat_lit 259,⟨(.type "tuple"),none,(.seq #[] 0),#[]⟩) ::
 (nat_lit 261,⟨(.type "tuple"),none,(.seq #[(.str "self" 526),(.str "house" 527)] 0),#[]⟩) ::
 (nat_lit 262,⟨(.type "tuple"),none,(.seq #[] 0),#[]⟩) ::
 (nat_lit 264,⟨(.type "code"),none,(.fields #[(.str "younger" 523),(.str "Hall.younger" 524),(.str "/claim/cut.py" 525),(.int (153) 0),(.int (2) 0),(.int (0) 0),(.int (0) 0),(.int (3) 0),(.ref 259),(.bool true),(.int (181) 0),(.ref 260),.none,(.ref 261),(.ref 262),(.ref 263),(.int (528) 0),(.int (153) 0),(.str "/claim/cut.py" 529)]),#[]⟩) ::
 (nat_lit 265,⟨(.type "function"),none,(.func (W.fnOf "younger" "Hall.younger" (L2.Z0k Z2g) (L2.Z0i Z2g) (L2.Z0c Z2g) .none .none .none (.str "elderhouse.houses" 486) none (.ref 264) .none)),#[]⟩) ::
 (nat_lit 266,⟨(.type "tuple"),none,(.seq #[] 0),#[]⟩) ::
 (nat_lit 268,⟨(.type "tuple"),none,(.seq #[(.str "self" 534),(.str "house" 535),(.str "all_fields" 536),(.str "one" 537)] 0),#[]⟩) ::
 (nat_lit 269,⟨(.type "tuple"),none,(.seq #[] 0),#[]⟩) ::
 (nat_lit 271,⟨(.type "code"),none,(.fields #[(.str "fields" 531),(.str "Hall.fields" 532),(.str "/claim/cut.py" 533),(.int (156) 0),(.int (2) 0),(.int (0) 0),(.int (0) 0),(.int (3) 0),(.ref 266),(.bool true),(.int (181) 0),(.ref 267),.none,(.ref 268),(.ref 269),(.ref 270),(.int (538) 0),(.int (156) 0),(.str "/claim/cut.py" 539)]),#[]⟩) ::
 (nat_lit 272,⟨(.type "function"),none,(.func (W.fnOf "fields" "Hall.fields" (L2.Z0k Z1R) (L2.Z0i Z1R) (L2.Z0c Z1R) .none .none .none (.str "elderhouse.houses" 486) none (.ref 271) .none)),#[]⟩) ::
 (nat_lit 273,⟨(.type "tuple"),none,(.seq #[] 0),#[]⟩) ::
 (nat_lit 276,⟨(.type "code"),none,(.fields #[(.str "place" 541),(.str "Hall.place" 542),(.str "/claim/cut.py" 543),(.int (162) 0),(.int (3) 0),(.int (0) 0),(.int (0) 0),(.int (3) 0),(.ref 273),(.bool true),(.int (181) 0),(.ref 274),.none,.none,.none,(.ref 275),(.int (544) 0),(.int (162) 0),(.str "/claim/cut.py" 545)]),#[]⟩) ::
 (nat_lit 277,⟨(.type "function"),none,(.func (W.fnOf "place" "Hall.place" (L2.Z0k Z2c) (L2.Z0i Z2c) (L2.Z0c Z2c) .none .none .none (.str "elderhouse.houses" 486) none (.ref 276) .none)),#[]⟩) ::
 (nat_lit 278,⟨(.type "tuple"),none,(.seq #[] 0),#[]⟩) ::
 (nat_lit 281,⟨(.type "code"),none,(.fields #[(.str "found" 547),(.str "Hall.found" 548),(.str "/claim/cut.py" 549),(.int (168) 0),(.int (3) 0),(.int (0) 0),(.int (0) 0),(.int (3) 0),(.ref 278),(.bool true),(.int (181) 0),(.ref 279),.none,.none,.none,(.ref 280),(.int (550) 0),(.int (168) 0),(.str "/claim/cut.py" 551)]),#[]⟩) ::
 (nat_lit 282,⟨(.type "function"),none,(.func (W.fnOf "found" "Hall.found" (L2.Z0k Z2a) (L2.Z0i Z2a) (L2.Z0c Z2a) .none .none .none (.str "elderhouse.houses" 486) none (.ref 281) .none)),#[]⟩) ::
 (nat_lit 283,⟨(.type "tuple"),none,(.seq #[] 0),#[]⟩) ::
 (nat_lit 285,⟨(.type "tuple"),none,(.seq #[(.str "self" 556),(.str "house" 557),(.str "word" 558)] 0),#[]⟩) ::
 (nat_lit 286,⟨(.type "tuple"),none,(.seq #[] 0),#[]⟩) ::
 (nat_lit 288,⟨(.type "code"),none,(.fields #[(.str "head" 553),(.str "Hall.head" 554),(.str "/claim/cut.py" 555),(.int (175) 0),(.int (3) 0),(.int (0) 0),(.int (0) 0),(.int (3) 0),(.ref 283),(.bool true),(.int (181) 0),(.ref 284),.none,(.ref 285),(.ref 286),(.ref 287),(.int (559) 0),(.int (175) 0),(.str "/claim/cut.py" 560)]),#[]⟩) ::
 (nat_lit 289,⟨(.type "function"),none,(.func (W.fnOf "head" "Hall.head" (L2.Z0k Z2R) (L2.Z0i Z2R) (L2.Z0c Z2R) .none .none .none (.str "elderhouse.houses" 486) none (.ref 288) .none)),#[]⟩) ::
 (nat_lit 290,⟨(.type "tuple"),none,(.seq #[] 0),#[]⟩) ::
 (nat_lit 292,⟨(.type "tuple"),none,(.seq #[(.str "self" 565),(.str "house" 566),(.str "word" 567)] 0),#[]⟩) ::
 (nat_lit 293,⟨(.type "tuple"),none,(.seq #[] 0),#[]⟩) ::
 (nat_lit 295,⟨(.type "code"),none,(.fields #[(.str "found_word" 562),(.str "Hall.found_word" 563),(.str "/claim/cut.py" 564),(.int (178) 0),(.int (3) 0),(.int (0) 0),(.int (0) 0),(.int (3) 0),(.ref 290),(.bool true),(.int (181) 0),(.ref 291),.none,(.ref 292),(.ref 293),(.ref 294),(.int (568) 0),(.int (178) 0),(.str "/claim/cut.py" 569)]),#[]⟩) ::
 (nat_lit 296,⟨(.type "function"),none,(.func (W.fnOf "found_word" "Hall.found_word" (L2.Z0k Z1v) (L2.Z0i Z1v) (L2.Z0c Z1v) .none .none .none (.str "elderhouse.houses" 486) none (.ref 295) .none)),#[]⟩) ::
 (nat_lit 297,⟨(.type "tuple"),none,(.seq #[(.str "by_name" 571),(.str "in_order" 572)] 0),#[]⟩) ::
 (nat_lit 298,⟨(.type "dict"),none,(.dict #[⟨PyData.keyHash P "__module__",(.str "__module__" 495),(.str "elderhouse.houses" 486)⟩,⟨PyData.keyHash P "__firstlineno__",(.str "__firstlineno__" 499),(.int (134) 498)⟩,⟨PyData.keyHash P "__init__",(.str "__init__" 505),(.ref 244)⟩,⟨PyData.keyHash P "houses",(.str "houses" 512),(.ref 251)⟩,⟨PyData.keyHash P "elders",(.str "elders" 522),(.ref 258)⟩,⟨PyData.keyHash P "younger",(.str "younger" 530),(.ref 265)⟩,⟨PyData.keyHash P "fields",(.str "fields" 540),(.ref 272)⟩,⟨PyData.keyHash P "place",(.str "place" 546),(.ref 277)⟩,⟨PyData.keyHash P "found",(.str "found" 552),(.ref 282)⟩,⟨PyData.keyHash P "head",(.str "head" 561),(.ref 289)⟩,⟨PyData.keyHash P "found_word",(.str "found_word" 570),(.ref 296)⟩,⟨PyData.keyHash P "__static_attributes__",(.str "__static_attributes__" 573),(.ref 297)⟩,⟨PyData.keyHash P "__dict__",(.str "__dict__" 575),(.ref 300)⟩,⟨PyData.keyHash P "__weakref__",(.str "__weakref__" 577),(.ref 301)⟩,⟨PyData.keyHash P "__doc__",(.str "__doc__" 578),.none⟩] 4),#[]⟩) ::
 (nat_lit 299,⟨(.type "type"),none,(.cls ⟨"Hall",[(.type "object")],[(.ref 299),(.type "object")],298,"Hall",true,[],[],false,none,false⟩),#[none,none,(some (.str "Hall" 488)),(some (.str "Hall" 496)),(some (.builtin "object.__new__")),(some (.bool true))]⟩) ::
 (nat_lit 300,⟨(.type "getset_descriptor"),none,(.fields #[(.str "__dict__" 574),(.ref 299),(.builtin "function.__dict__"),(.builtin "function.__dict__#set")]),#[]⟩) ::
 (nat_lit 301,⟨(.type "getset_descriptor"),none,(.fields #[(.str "__weakref__" 576),(.ref 299),(.builtin "ExceptionGroup.__weakref__"),.none]),#[]⟩) ::
 (nat_lit 304,⟨(.type "tuple"),none,(.seq #[] 0),#[]⟩) ::
 (nat_lit 306,⟨(.type "tuple"),none,(.seq #[(.str "_law_script" 586),(.str "_law_k" 587),(.str "_law_cell" 588)] 0),#[]⟩) ::
 (nat_lit 307,⟨(.type "tuple"),none,(.seq #[] 0),#[]⟩) ::
 (nat_lit 309,⟨(.type "code"),none,(.fields #[(.str "_law_drawn" 583),(.str "_law_drawn" 584),(.str "/claim/cut.py" 585),(.int (181) 0),(.int (2) 0),(.int (0) 0),(.int (0) 0),(.int (3) 0),(.ref 304),(.bool true),(.int (181) 0),(.ref 305),.none,(.ref 306),(.ref 307),(.ref 308),(.int (589) 0),(.int (181) 0),(.str "/claim/cut.py" 590)]),#[]⟩) ::
 (nat_lit 310,⟨(.type "function"),none,(.func (W.fnOf "_law_drawn" "_law_drawn" (L2.Z0k Z1F) (L2.Z0i Z1F) (L2.Z0c Z1F) .none .none .none (.str "law_elderhouse_k30_fits_and_nearest" 581) none (.ref 309) .none)),#[]⟩) ::
 (nat_lit 311,⟨(.type "tuple"),none,(.seq #[] 0),#[]⟩) ::
 (nat_lit 314,⟨(.type "code"),none,(.fields #[(.str "_law_name" 592),(.str "_law_name" 593),(.str "/claim/cut.py" 594),(.int (186) 0),(.int (2) 0),(.int (0) 0),(.int (0) 0),(.int (3) 0),(.ref 311),(.bool true),(.int (181) 0),(.ref 312),.none,.none,.none,(.ref 313),(.int (595) 0),(.int (186) 0),(.str "/claim/cut.py" 596)]),#[]⟩) ::
 (nat_lit 315,⟨(.type "function"),none,(.func (W.fnOf "_law_name" "_law_name" (L2.Z0k Z1Z) (L2.Z0i Z1Z) (L2.Z0c Z1Z) .none .none .none (.str "law_elderhouse_k30_fits_and_nearest" 581) none (.ref 314) .none)),#[]⟩) ::
 (nat_lit 316,⟨(.type "tuple"),none,(.seq #[] 0),#[]⟩) ::
 (nat_lit 318,⟨(.type "tuple"),none,(.seq #[(.str "_law_script" 601),(.str "_law_many" 602)] 0),#[]⟩) ::
 (nat_lit 319,⟨(.type "tuple"),none,(.seq #[(.str "_law_script" 603)] 0),#[]⟩) ::
 (nat_lit 321,⟨(.type "code"),none,(.fields #[(.str "_law_order" 598),(.str "_law_order" 599),(.str "/claim/cut.py" 600),(.int (206) 0),(.int (2) 0),(.int (0) 0),(.int (0) 0),(.int (3) 0),(.ref 316),(.bool true),(.int (181) 0),(.ref 317),.none,(.ref 318),(.ref 319),(.ref 320),(.int (604) 0),(.int (206) 0),(.str "/claim/cut.py" 605)]),#[]⟩) ::
 (nat_lit 322,⟨(.type "function"),none,(.func (W.fnOf "_law_order" "_law_order" (L2.Z0k Z0N) (L2.Z0i Z0N) (L2.Z0c Z0N) .none .none .none (.str "law_elderhouse_k30_fits_and_nearest" 581) none (.ref 321) .none)),#[]⟩) ::
 (nat_lit 323,⟨(.type "tuple"),none,(.seq #[] 0),#[]⟩) ::
 (nat_lit 325,⟨(.type "tuple"),none,(.seq #[(.str "_law_script" 610),(.str "_law_order_here" 611),(.str "_law_found" 612),(.str "_law_place" 613),(.str "_law_number" 614)] 0),#[]⟩) ::
 (nat_lit 326,⟨(.type "tuple"),none,(.seq #[] 0),#[]⟩) ::
 (nat_lit 328,⟨(.type "code"),none,(.fields #[(.str "_law_elders_drawn" 607),(.str "_law_elders_drawn" 608),(.str "/claim/cut.py" 609),(.int (208) 0),(.int (2) 0),(.int (0) 0),(.int (0) 0),(.int (3) 0),(.ref 323),(.bool true),(.int (181) 0),(.ref 324),.none,(.ref 325),(.ref 326),(.ref 327),(.int (615) 0),(.int (208) 0),(.str "/claim/cut.py" 616)]),#[]⟩) ::
 (nat_lit 329,⟨(.type "function"),none,(.func (W.fnOf "_law_elders_drawn" "_law_elders_drawn" (L2.Z0k Z0G) (L2.Z0i Z0G) (L2.Z0c Z0G) .none .none .none (.str "law_elderhouse_k30_fits_and_nearest" 581) none (.ref 328) .none)),#[]⟩) ::
 (nat_lit 330,⟨(.type "tuple"),none,(.seq #[] 0),#[]⟩) ::
 (nat_lit 332,⟨(.type "tuple"),none,(.seq #[(.str "_law_number" 621),(.str "_law_names" 622)] 0),#[]⟩) ::
 (nat_lit 333,⟨(.type "tuple"),none,(.seq #[] 0),#[]⟩) ::
 (nat_lit 335,⟨(.type "code"),none,(.fields #[(.str "_law_kind" 618),(.str "_law_kind" 619),(.str "/claim/cut.py" 620),(.int (217) 0),(.int (2) 0),(.int (0) 0),(.int (0) 0),(.int (3) 0),(.ref 330),(.bool true),(.int (181) 0),(.ref 331),.none,(.ref 332),(.ref 333),(.ref 334),(.int (623) 0),(.int (217) 0),(.str "/claim/cut.py" 624)]),#[]⟩) ::
 (nat_lit 336,⟨(.type "function"),none,(.func (W.fnOf "_law_kind" "_law_kind" (L2.Z0k Z1X) (L2.Z0i Z1X) (L2.Z0c Z1X) .none .none .none (.str "law_elderhouse_k30_fits_and_nearest" 581) none (.ref 335) .none)),#[]⟩) ::
 (nat_lit 337,⟨(.type "tuple"),none,(.seq #[] 0),#[]⟩) ::
 (nat_lit 339,⟨(.type "tuple"),none,(.seq #[(.str "_law_script" 629),(.str "_law_j" 630),(.str "_law_taken" 631),(.str "_law_pool" 632),(.str "_law_names" 633),(.str "_law_number" 634),(.str "_law_found" 635),(.str "_law_k" 636),(.str "_law_name_here" 637)] 0),#[]⟩) ::
 (nat_lit 340,⟨(.type "tuple"),none,(.seq #[] 0),#[]⟩) ::
 (nat_lit 342,⟨(.type "code"),none,(.fields #[(.str "_law_fields" 626),(.str "_law_fields" 627),(.str "/claim/cut.py" 628),(.int (219) 0),(.int (5) 0),(.int (0) 0),(.int (0) 0),(.int (3) 0),(.ref 337),(.bool true),(.int (181) 0),(.ref 338),.none,(.ref 339),(.ref 340),(.ref 341),(.int (638) 0),(.int (219) 0),(.str "/claim/cut.py" 639)]),#[]⟩) ::
 (nat_lit 343,⟨(.type "function"),none,(.func (W.fnOf "_law_fields" "_law_fields" (L2.Z0k Z1r) (L2.Z0i Z1r) (L2.Z0c Z1r) .none .none .none (.str "law_elderhouse_k30_fits_and_nearest" 581) none (.ref 342) .none)),#[]⟩) ::
 (nat_lit 344,⟨(.type "tuple"),none,(.seq #[] 0),#[]⟩) ::
 (nat_lit 347,⟨(.type "code"),none,(.fields #[(.str "_law_params" 641),(.str "_law_params" 642),(.str "/claim/cut.py" 643),(.int (227) 0),(.int (3) 0),(.int (0) 0),(.int (0) 0),(.int (3) 0),(.ref 344),(.bool true),(.int (181) 0),(.ref 345),.none,.none,.none,(.ref 346),(.int (644) 0),(.int (227) 0),(.str "/claim/cut.py" 645)]),#[]⟩) ::
 (nat_lit 348,⟨(.type "function"),none,(.func (W.fnOf "_law_params" "_law_params" (L2.Z0k Z1t) (L2.Z0i Z1t) (L2.Z0c Z1t) .none .none .none (.str "law_elderhouse_k30_fits_and_nearest" 581) none (.ref 347) .none)),#[]⟩) ::
 (nat_lit 349,⟨(.type "tuple"),none,(.seq #[] 0),#[]⟩) ::
 (nat_lit 351,⟨(.type "tuple"),none,(.seq #[(.str "_law_script" 650),(.str "_law_j" 651),(.str "_law_pools" 652),(.str "_law_names" 653),(.str "_law_number" 654),(.str "_law_found" 655),(.str "_law_k" 656),(.str "_law_more" 657),(.str "_law_word" 658)] 0),#[]⟩) ::
 (nat_lit 352,⟨(.type "tuple"),none,(.seq #[] 0),#[]⟩) ::
 (nat_lit 354,⟨(.type "code"),none,(.fields #[(.str "_law_heads" 647),(.str "_law_heads" 648),(.str "/claim/cut.py" 649),(.int (230) 0),(.int (4) 0),(.int (0) 0),(.int (0) 0),(.int (3) 0),(.ref 349),(.bool true),(.int (181) 0),(.ref 350),.none,(.ref 351),(.ref 352),(.ref 353),(.int (659) 0),(.int (230) 0),(.str "/claim/cut.py" 660)]),#[]⟩) ::
 (nat_lit 355,⟨(.type "function"),none,(.func (W.fnOf "_law_heads" "_law_heads" (L2.Z0k Z1y) (L2.Z0i Z1y) (L2.Z0c Z1y) .none .none .none (.str "law_elderhouse_k30_fits_and_nearest" 581) none (.ref 354) .none)),#[]⟩) ::
 (nat_lit 356,⟨(.type "tuple"),none,(.seq #[] 0),#[]⟩) ::
 (nat_lit 359,⟨(.type "code"),none,(.fields #[(.str "_law_rows" 662),(.str "_law_rows" 663),(.str "/claim/cut.py" 664),(.int (238) 0),(.int (1) 0),(.int (0) 0),(.int (0) 0),(.int (3) 0),(.ref 356),(.bool true),(.int (181) 0),(.ref 357),.none,.none,.none,(.ref 358),(.int (665) 0),(.int (238) 0),(.str "/claim/cut.py" 666)]),#[]⟩) ::
 (nat_lit 360,⟨(.type "function"),none,(.func (W.fnOf "_law_rows" "_law_rows" (L2.Z0k Z1V) (L2.Z0i Z1V) (L2.Z0c Z1V) .none .none .none (.str "law_elderhouse_k30_fits_and_nearest" 581) none (.ref 359) .none)),#[]⟩) ::
 (nat_lit 361,⟨(.type "tuple"),none,(.seq #[] 0),#[]⟩) ::
 (nat_lit 364,⟨(.type "code"),none,(.fields #[(.str "_law_program" 668),(.str "_law_program" 669),(.str "/claim/cut.py" 670),(.int (257) 0),(.int (1) 0),(.int (0) 0),(.int (0) 0),(.int (3) 0),(.ref 361),(.bool true),(.int (181) 0),(.ref 362),.none,.none,.none,(.ref 363),(.int (671) 0),(.int (257) 0),(.str "/claim/cut.py" 672)]),#[]⟩) ::
 (nat_lit 365,⟨(.type "function"),none,(.func (W.fnOf "_law_program" "_law_program" (L2.Z0k Z1i) (L2.Z0i Z1i) (L2.Z0c Z1i) .none .none .none (.str "law_elderhouse_k30_fits_and_nearest" 581) none (.ref 364) .none)),#[]⟩) ::
 (nat_lit 366,⟨(.type "tuple"),none,(.seq #[] 0),#[]⟩) ::
 (nat_lit 369,⟨(.type "code"),none,(.fields #[(.str "_law_ups" 674),(.str "_law_ups" 675),(.str "/claim/cut.py" 676),(.int (263) 0),(.int (2) 0),(.int (0) 0),(.int (0) 0),(.int (3) 0),(.ref 366),(.bool true),(.int (181) 0),(.ref 367),.none,.none,.none,(.ref 368),(.int (677) 0),(.int (263) 0),(.str "/claim/cut.py" 678)]),#[]⟩) ::
 (nat_lit 370,⟨(.type "function"),none,(.func (W.fnOf "_law_ups" "_law_ups" (L2.Z0k Z2m) (L2.Z0i Z2m) (L2.Z0c Z2m) .none .none .none (.str "law_elderhouse_k30_fits_and_nearest" 581) none (.ref 369) .none)),#[]⟩) ::
 (nat_lit 371,⟨(.type "tuple"),none,(.seq #[] 0),#[]⟩) ::
 (nat_lit 374,⟨(.type "code"),none,(.fields #[(.str "_law_pair_good" 680),(.str "_law_pair_good" 681),(.str "/claim/cut.py" 682),(.int (270) 0),(.int (4) 0),(.int (0) 0),(.int (0) 0),(.int (3) 0),(.ref 371),(.bool true),(.int (181) 0),(.ref 372),.none,.none,.none,(.ref 373),(.int (683) 0),(.int (270) 0),(.str "/claim/cut.py" 684)]),#[]⟩) ::
 (nat_lit 375,⟨(.type "function"),none,(.func (W.fnOf "_law_pair_good" "_law_pair_good" (L2.Z0k Z0Q) (L2.Z0i Z0Q) (L2.Z0c Z0Q) .none .none .none (.str "law_elderhouse_k30_fits_and_nearest" 581) none (.ref 374) .none)),#[]⟩) ::
 (nat_lit 376,⟨(.type "tuple"),none,(.seq #[] 0),#[]⟩) ::
 (nat_lit 379,⟨(.type "code"),none,(.fields #[(.str "law" 686),(.str "law" 687),(.str "/claim/cut.py" 688),(.int (277) 0),(.int (1) 0),(.int (0) 0),(.int (0) 0),(.int (3) 0),(.ref 376),(.bool true),(.int (181) 0),(.ref 377),.none,.none,.none,(.ref 378),(.int (689) 0),(.int (277) 0),(.str "/claim/cut.py" 690)]),#[]⟩) ::
 (nat_lit 380,⟨(.type "function"),none,(.func (W.fnOf "law" "law" (L2.Z0k Z8D) (L2.Z0i Z8D) (L2.Z0c Z8D) .none .none .none (.str "law_elderhouse_k30_fits_and_nearest" 581) none (.ref 379) .none)),#[]⟩)::[]
noncomputable def KK (P:PySem.Params):W.Frag:=(nat_lit 317,⟨.none,none,.fields #[],#[]⟩)::KB P
noncomputable def KA:List Addr:=[317,2,3,15,17,18,20,21,22,23,25,26,28,29,30,32,33,35,36,37,39,40,42,43,51,54,55,56,58,59,61,62,63,65,66,68,69,70,72,73,75,76,77,79,80,82,83,84,85,86,87,88,91,93,94,96,97,105,107,108,110,111,112,114,115,117,118,119,120,121,122,123,133,135,136,138,139,140,143,144,145,146,147,148,149,159,161,162,164,165,166,169,170,171,173,174,176,177,178,179,180,181,182,185,188,189,190,193,194,195,198,199,200,202,203,205,206,207,210,211,212,214,215,217,218,219,221,222,224,225,226,228,229,231,232,240,243,244,245,247,248,250,251,252,254,255,257,258,259,261,262,264,265,266,268,269,271,272,273,276,277,278,281,282,283,285,286,288,289,290,292,293,295,296,297,298,299,300,301,304,306,307,309,310,311,314,315,316,318,319,321,322,323,325,326,328,329,330,332,333,335,336,337,339,340,342,343,344,347,348,349,351,352,354,355,356,359,360,361,364,365,366,369,370,371,374,375,376,379,380]
theorem Z3r:∀ P,KA=(KK P).map (·.1):=fun _=>by kernel_rfl
theorem J3H {p q:Program} {loose:List Str} {Xt:Shared→Bool} {α:Type} {Yf:Shared→α} {Ya:World→α} {N:Nat} {H₀:Params→Heap} {gs₀:Array GenState} {d₀:Drawn} {k₀ m₀ M:Nat} {ann:Option Value}
  (op:∀ w:World,(W.fencedOpening treeTable p w N).map (fun s=>(s.heap,s.gens,s.drawn,s.toks))=some (H₀ w.params,gs₀,d₀,k₀))
  (sz:∀ w:World,((H₀ w.params).isNs mainGlobals&&gs₀.size == 0)=true∧(H₀ w.params).objs.size=m₀∧(H₀ w.params).nsMap mainGlobals "__annotations__"=ann) (le:M≤N)
  (ex:∀ (w:World) (os:OsState),∃ s,W.topRun treeTable p w m₀ ann M ⟨H₀ w.params,gs₀,d₀,k₀,os⟩ (W.topStub p)=some s∧(W.staticsOk (importedModules p.main.body) (H₀ w.params) s.heap&&W.namesBound p s.heap&&W.gensDone s&&W.laidKept (H₀ w.params) s.heap)=true∧W.openSeen q loose (importedModules p.main.body) Xt true s=W.openGood q loose∧Yf s=Ya w):W.LeftO p q loose Xt Yf Ya N:=by
 intro w
 obtain ⟨⟨hh,gg,dr,tk,os⟩,e1,e2⟩:=Option.map_eq_some_iff.mp (op w)
 simp only [Prod.mk.injEq] at e2
 obtain ⟨a1,a2,a3,a4⟩:=e2
 subst a1 a2 a3 a4
 obtain ⟨z1,z2,z3⟩:=sz w
 obtain ⟨s,hr,b1,b2,b3⟩:=ex w os
 have hr:=W.topRun_mono (N - M) _ _ _ _ hr
 rw [Nat.add_sub_of_le le] at hr
 have ht:W.topFrom treeTable p w N ⟨H₀ w.params,gg,dr,tk,os⟩=some s:=by
  unfold W.topFrom
  simp only [z1,z2,z3,hr,Option.bind_some,b1]
 unfold W.openEnds
 rw [e1,Option.bind_some,ht,Option.map_some,b2,b3]
theorem zz:(pw0.main.body.isEmpty == false)=true:=by k_qdec
noncomputable def eN (p:Program):Env:={ scope:=p.main.scope,locals:=mainNs,globals:=mainNs,cells:=[],code:=.ref 13,frame:=some 14 }
noncomputable def cN (p:Program):Code:=.body (W.behindTheImports p) (eN p)
def po:Pos:=⟨0,0,0,0⟩
def pf:Pos:=⟨277,0,293,50⟩
def an:Option Value:=some (.ref 6)
noncomputable def Y0 (w:World) (os:OsState):Shared:=⟨W.boot_heap w.params,Array.mk [],W.boot_drawn,W.boot_toks,os⟩
noncomputable def Sa (p:Program) (w:World) (os:OsState):Shared:=match W.topGo treeTable p w 11 an 12 (Y0 w os) (W.topStub p) with
 | some (s,_)=>s
 | none=>Y0 w os
def ofL:List Obj→Nat→W.BT→W.BT
 | [],_,t=>t
 | o::l,n,t=>ofL l (n+1) (t.ins n o)
noncomputable def TB (p:Program) (w:World) (os:OsState):W.SharedT:=⟨ofL (Sa p w os).heap.objs.toList 0 .nil,15,(Sa p w os).heap.life,(Sa p w os).gens,(Sa p w os).drawn,(Sa p w os).toks,os⟩
theorem r1 (w:World) (os:OsState):W.topGo treeTable pw0 w 11 an 12 (Y0 w os) (W.topStub pw0)=some (Sa pw0 w os,⟨denote treeTable (cN pw0),cN pw0,po,[W.topFrame po]⟩):=by
 kernel_rfl
theorem r2 (w:World) (os:OsState):W.segRun treeTable pw0 w 11 an 1 1 (Sa pw0 w os) (W.blockOf (W.behindTheImports pw0) (eN pw0) (cN pw0) po [W.topFrame po])=some (.next,Sa pw0 w os,cN pw0,po):=by
 kernel_rfl
theorem r3 (w:World) (os:OsState):(TB pw0 w os).abs=Sa pw0 w os:=by
 kernel_rfl
theorem b1 (w:World) (os:OsState):(W.segRunT treeTable pw0 w 11 an 1 2437 (TB pw0 w os) (W.piecesOf (W.behindTheImports pw0) (eN pw0) (cN pw0) po [W.topFrame po])).map (fun r=>(r.1,r.2.2.1,r.2.2.2,(W.topRun treeTable pw0 w 11 an 2 r.2.1.abs (W.restOf [] (eN pw0) (cN pw0) pf [W.topFrame po])).map fun s=>(W.staticsOk (importedModules pw0.main.body) (W.boot_heap w.params) s.heap&&W.namesBound pw0 s.heap&&W.gensDone s&&W.laidKept (W.boot_heap w.params) s.heap)))=some (PySem.Flow.next,cN pw0,pf,some (true)):=by
 unfold TB Sa
 rw [W.Fast.te10110043849684766642,W.Fast.te15667345088766844465,W.Fast.te14082659384304107361,W.Fast.te14364793385576792824,W.Fast.te7235799213719567884]
 kernel_rfl
theorem b2 (w:World) (os:OsState):(W.segRunT treeTable pw0 w 11 an 1 2437 (TB pw0 w os) (W.piecesOf (W.behindTheImports pw0) (eN pw0) (cN pw0) po [W.topFrame po])).map (fun r=>((W.topRun treeTable pw0 w 11 an 2 r.2.1.abs (W.restOf [] (eN pw0) (cN pw0) pf [W.topFrame po])).map fun s=>W.openSeen qv [] (importedModules pw0.main.body) (fun s=>W.xlAt qv [] s&&W.recOk (W.RowW.records rv) s) true s))=some (some (W.openGood qv [])):=by
 unfold TB Sa
 rw [W.Fast.te10110043849684766642,W.Fast.te15667345088766844465,W.Fast.te14082659384304107361,W.Fast.te4187177175401517315,W.Fast.te14364793385576792824,W.Fast.te7235799213719567884]
 kernel_rfl
theorem b3 (w:World) (os:OsState):(W.segRunT treeTable pw0 w 11 an 1 2437 (TB pw0 w os) (W.piecesOf (W.behindTheImports pw0) (eN pw0) (cN pw0) po [W.topFrame po])).map (fun r=>((W.topRun treeTable pw0 w 11 an 2 r.2.1.abs (W.restOf [] (eN pw0) (cN pw0) pf [W.topFrame po])).map fun s=>W.Hook.obs (W.kHook KK KA Z3r) s))=some (some (W.Hook.val (W.kHook KK KA Z3r) w)):=by
 unfold TB Sa
 rw [W.Fast.te10110043849684766642,W.Fast.te15667345088766844465,W.Fast.te14082659384304107361,W.Fast.te14364793385576792824,W.Fast.te7235799213719567884]
 kernel_rfl
theorem b4 (w:World) (os:OsState):∃ T s,W.segRunT treeTable pw0 w 11 an 1 2437 (TB pw0 w os) (W.piecesOf (W.behindTheImports pw0) (eN pw0) (cN pw0) po [W.topFrame po])=some (.next,T,cN pw0,pf)∧W.topRun treeTable pw0 w 11 an 2 T.abs (W.restOf [] (eN pw0) (cN pw0) pf [W.topFrame po])=some s∧(W.staticsOk (importedModules pw0.main.body) (W.boot_heap w.params) s.heap&&W.namesBound pw0 s.heap&&W.gensDone s&&W.laidKept (W.boot_heap w.params) s.heap)=true∧W.openSeen qv [] (importedModules pw0.main.body) (fun s=>W.xlAt qv [] s&&W.recOk (W.RowW.records rv) s) true s=W.openGood qv []∧W.Hook.obs (W.kHook KK KA Z3r) s=W.Hook.val (W.kHook KK KA Z3r) w:=by
 obtain ⟨⟨f,T,c,q⟩,hr,e⟩:=Option.map_eq_some_iff.mp (b1 w os)
 obtain ⟨r2,hr2,e2⟩:=Option.map_eq_some_iff.mp (b2 w os)
 obtain ⟨r3,hr3,e3⟩:=Option.map_eq_some_iff.mp (b3 w os)
 cases Option.some.inj (hr.symm.trans hr2)
 cases Option.some.inj (hr.symm.trans hr3)
 obtain ⟨x1,y⟩:=Prod.mk.inj e
 obtain ⟨x2,y⟩:=Prod.mk.inj y
 obtain ⟨x3,x4⟩:=Prod.mk.inj y
 cases x1
 cases x2
 cases x3
 obtain ⟨s,hs,y1⟩:=Option.map_eq_some_iff.mp x4
 obtain ⟨s2,hs2,y2⟩:=Option.map_eq_some_iff.mp e2
 obtain ⟨s3,hs3,y3⟩:=Option.map_eq_some_iff.mp e3
 cases Option.some.inj (hs.symm.trans hs2)
 cases Option.some.inj (hs.symm.trans hs3)
 exact ⟨T,s,hr,hs,y1,y2,y3⟩
theorem r7 (w:World) (os:OsState):∃ s,W.topRun treeTable pw0 w 11 an (12+(1+(2437+2))) (Y0 w os) (W.topStub pw0)=some s∧(W.staticsOk (importedModules pw0.main.body) (W.boot_heap w.params) s.heap&&W.namesBound pw0 s.heap&&W.gensDone s&&W.laidKept (W.boot_heap w.params) s.heap)=true∧W.openSeen qv [] (importedModules pw0.main.body) (fun s=>W.xlAt qv [] s&&W.recOk (W.RowW.records rv) s) true s=W.openGood qv []∧W.Hook.obs (W.kHook KK KA Z3r) s=W.Hook.val (W.kHook KK KA Z3r) w:=by
 obtain ⟨T,s,h1,h2,h3,h4,h5⟩:=b4 w os
 refine ⟨s,W.go_top (r1 w os) (W.piece_block (r2 w os) ?_),h3,h4,h5⟩
 have h6:=W.segRun_of h1
 rw [r3] at h6
 have h7:=W.piece_app (rest:=[]) h6 h2
 rw [List.append_nil] at h7
 exact h7
theorem r8:∀ w:World,((W.boot_heap w.params).isNs mainGlobals&&(Array.mk ([]:List GenState)).size == 0)=true∧(W.boot_heap w.params).objs.size=11∧(W.boot_heap w.params).nsMap mainGlobals "__annotations__"=an:=by
 intro w
 exact ⟨by kernel_rfl,by kernel_rfl,by kernel_rfl⟩
theorem r9:∀ w:World,(W.fencedOpening treeTable pw0 w 4998).map (fun s=>(s.heap,s.gens,s.drawn,s.toks))=some (W.boot_heap w.params,Array.mk [],W.boot_drawn,W.boot_toks):=W.boot_open rfl rfl fun s=>rfl
theorem left:W.LeftO pw0 qv [] (fun s=>W.xlAt qv [] s&&W.recOk (W.RowW.records rv) s) (W.Hook.obs (W.kHook KK KA Z3r)) (W.Hook.val (W.kHook KK KA Z3r)) 4998:=J3H r9 r8 (by decide) r7
end K30
end
section
namespace P15
open PySem
inductive Lb | non | int (i:Int) | bl (b:Bool) | str (x:Str)
noncomputable def Lb.d:Lb→PyData
 | .non=>.none | .int i=>.int i | .bl b=>.bool b | .str x=>.str x
inductive Fm | number | truth | name | self | nt | iff | two | lt | new | elder | call | field | set
noncomputable def Fm.s:Fm→Str
 | .number=>"number" | .truth=>"truth" | .name=>"name" | .self=>"self" | .nt=>"not" | .iff=>"if" | .two=>"two" | .lt=>"let" | .new=>"new" | .elder=>"elder" | .call=>"call" | .field=>"field" | .set=>"set"
inductive Tm | mk (f:Fm) (l:Lb) (ps:List Tm)
noncomputable def Tm.f:Tm→Fm | .mk f _ _=>f
noncomputable def Tm.l:Tm→Lb | .mk _ l _=>l
noncomputable def Tm.ps:Tm→List Tm | .mk _ _ ps=>ps
noncomputable def Z0X (f:Fm) (l:Lb) (ps:List PyData):List PyData:=match f with
 | .self | .nt | .iff=>.str f.s::ps
 | .new | .elder=>[.str f.s,l.d,.tuple ps]
 | .call=>match ps with
  | p::qs=>[.str f.s,p,l.d,.tuple qs]
  | []=>[]
 | .field | .set=>match ps with
  | p::qs=>.str f.s::p::l.d::qs
  | []=>[]
 | _=>.str f.s::l.d::ps
mutual
noncomputable def Tm.dat:Tm→PyData
 | .mk f l ps=>.tuple (Z0X f l (dats ps))
noncomputable def dats:List Tm→List PyData
 | []=>[]
 | t::ts=>t.dat::dats ts
end
mutual
noncomputable def Tm.depth:Tm→Nat
 | .mk _ _ ps=>1+maxD ps
noncomputable def maxD:List Tm→Nat
 | []=>0
 | t::ts=>max t.depth (maxD ts)
end
mutual
noncomputable def Tm.size:Tm→Nat
 | .mk _ _ ps=>1+sumS ps
noncomputable def sumS:List Tm→Nat
 | []=>0
 | t::ts=>t.size+sumS ts
end
noncomputable def okF:Fm→Lb→Nat→Prop
 | .number,.int _,n=>n=0
 | .truth,.bl _,n=>n=0
 | .name,.str _,n=>n=0
 | .self,.non,n=>n=0
 | .nt,.non,n=>n=1
 | .iff,.non,n=>n=3
 | .two,.str _,n=>n=2
 | .lt,.str _,n=>n=2
 | .new,.str _,_=>True
 | .elder,.str _,_=>True
 | .call,.str _,n=>1≤n
 | .field,.str _,n=>n=1
 | .set,.str _,n=>n=2
 | _,_,_=>False
inductive Ok:Tm→Prop
 | mk {f:Fm} {l:Lb} {ps:List Tm}:okF f l ps.length→(∀ p∈ps,Ok p)→Ok (.mk f l ps)
mutual
noncomputable def Tm.flat:Tm→List Tm
 | .mk f l ps=>.mk f l ps::flatR ps
noncomputable def flatR:List Tm→List Tm
 | []=>[]
 | t::ts=>flatR ts++t.flat
end
theorem Z3e:∀ (xs ys:List Tm),flatR (xs++ys)=flatR ys++flatR xs
 | [],ys=>by show flatR ys=_++[]; rw [List.append_nil]
 | x::xs,ys=>by show flatR (xs++ys)++x.flat=_++(flatR xs++x.flat); rw [Z3e xs ys,List.append_assoc]
inductive Bld:List Tm→List Tm→Prop
 | nil:Bld [] []
 | snoc {w C:List Tm} {t:Tm}:Bld w (C++t.ps)→Bld (w++[t]) (C++[t])
mutual
theorem Bld.flat:∀ (t:Tm) {w B:List Tm},Bld w B→Bld (w++t.flat.reverse) (B++[t])
 | .mk f l ps,w,B,h=>by
  have h':=Bld.flats ps h
  have e:w++(Tm.mk f l ps).flat.reverse=w++(flatR ps).reverse++[Tm.mk f l ps]:=by
   show w++(Tm.mk f l ps::flatR ps).reverse=_
   rw [List.reverse_cons,List.append_assoc]
  rw [e]
  exact .snoc h'
theorem Bld.flats:∀ (ts:List Tm) {w B:List Tm},Bld w B→Bld (w++(flatR ts).reverse) (B++ts)
 | [],w,B,h=>by
  show Bld (w++[]) (B++[])
  rw [List.append_nil,List.append_nil]; exact h
 | t::ts,w,B,h=>by
  have h':=Bld.flats ts (Bld.flat t h)
  show Bld (w++(flatR ts++t.flat).reverse) _
  rw [List.reverse_append,← List.append_assoc]
  rw [List.append_assoc B] at h'
  exact h'
end
theorem Bld.inv {w S:List Tm} {x:Tm} (h:Bld (w++[x]) S):∃ C,S=C++[x]∧Bld w (C++x.ps):=by
 generalize e:w++[x]=u at h
 cases h with
 | nil=>cases w <;> cases e
 | snoc h'=>
  obtain ⟨rfl,e2⟩:=List.append_inj' e rfl
  cases e2
  exact ⟨_,rfl,h'⟩
theorem Bld.nil_inv {S:List Tm} (h:Bld [] S):S=[]:=by
 generalize e:([]:List Tm)=u at h
 cases h with
 | nil=>rfl
 | snoc _=>exact absurd e.symm (by simp)
theorem Z6t {w:List Tm} {n:Nat} (e:w.length=n+1):∃ w' x,w=w'++[x]∧w'.length=n:=
 ⟨w.dropLast,w.getLast (by intro z; rw [z] at e; cases e),(List.dropLast_concat_getLast _).symm,by rw [List.length_dropLast,e]; rfl⟩
theorem Bld.det:∀ {n:Nat} {w S S':List Tm},w.length=n→Bld w S→Bld w S'→S=S'
 | 0,w,S,S',e,h,h'=>by
  cases List.length_eq_zero_iff.mp e
  rw [h.nil_inv,h'.nil_inv]
 | n+1,w,S,S',e,h,h'=>by
  obtain ⟨w,x,rfl,e2⟩:=Z6t e
  obtain ⟨C,rfl,h1⟩:=h.inv
  obtain ⟨C',rfl,h2⟩:=h'.inv
  rw [List.append_cancel_right (Bld.det e2 h1 h2)]
theorem Bld.pre {u:List Tm}:∀ {n:Nat} {v S:List Tm},v.length=n→Bld (u++v) S→∃ S',Bld u S'
 | 0,v,S,e,h=>by
  cases List.length_eq_zero_iff.mp e
  rw [List.append_nil] at h; exact ⟨S,h⟩
 | n+1,v,S,e,h=>by
  obtain ⟨v,x,rfl,e2⟩:=Z6t e
  rw [← List.append_assoc] at h
  obtain ⟨C,_,h'⟩:=h.inv
  exact Bld.pre e2 h'
theorem Bld.next {w S S':List Tm} {i:Nat} {x:Tm} (h:Bld w S) (hi:w[i]?=some x) (h':Bld (w.take i) S'):∃ C,S'=C++x.ps∧Bld (w.take (i+1)) (C++[x]):=by
 have e:w.take (i+1)=w.take i++[x]:=by
  rw [List.take_succ,hi]; rfl
 obtain ⟨S1,h1⟩:=Bld.pre (u:=w.take (i+1)) (v:=w.drop (i+1)) rfl (by rw [List.take_append_drop]; exact h)
 rw [e] at h1 ⊢
 obtain ⟨C,rfl,h2⟩:=h1.inv
 exact ⟨C,Bld.det rfl h' h2,h1⟩
end P15
end
section
namespace L2
open PySem PySem.Spec PyProof.Rows
abbrev Key:=Sum Int Str
def Z8p:Key→Value→Bool
 | .inl k,v=>Value.isInt k v
 | .inr x,v=>Value.isStrOf x v
def keyH (w:World):Key→Int
 | .inl k=>hashInt k
 | .inr x=>hashStr w x
theorem Z0P:∀ {k:Key} {v:Value},Z8p k v=true→(∃ i t,k=Sum.inl i∧v=Value.int i t)∨(∃ x t,k=Sum.inr x∧v=Value.str x t)
 | .inl i,v,h=>by
  obtain ⟨t,e⟩:=Value.isInt_shape (k:=i) (v:=v) h
  exact .inl ⟨i,t,rfl,e⟩
 | .inr x,v,h=>by
  obtain ⟨t,e⟩:=Value.isStrOf_shape (x:=x) (v:=v) h
  exact .inr ⟨x,t,rfl,e⟩
theorem Z9W (i:Int) (t:Tok):Z8p (.inl i) (.int i t)=true:=by simp [Z8p,Value.isInt]
theorem Z9S (x:Str) (t:Tok):Z8p (.inr x) (.str x t)=true:=by simp [Z8p,Value.isStrOf]
theorem J4M (a b:Int):decide ((Sum.inl a:Key)=Sum.inl b)=(a == b):=by
 by_cases e:a=b
 ·subst e; simp
 ·have h:¬ (Sum.inl a:Key)=Sum.inl b:=fun q=>e (Sum.inl.inj q)
  rw [decide_eq_false h]
  exact (beq_eq_false_iff_ne.mpr e).symm
theorem J5r (a b:Str):decide ((Sum.inr a:Key)=Sum.inr b)=decide (a=b):=by
 by_cases e:a=b
 ·subst e; simp
 ·have h:¬ (Sum.inr a:Key)=Sum.inr b:=fun q=>e (Sum.inr.inj q)
  rw [decide_eq_false h,decide_eq_false e]
theorem J5w (a:Int) (b:Str):decide ((Sum.inl a:Key)=Sum.inr b)=false:=decide_eq_false (fun q=>nomatch q)
theorem J5j (a:Str) (b:Int):decide ((Sum.inr a:Key)=Sum.inl b)=false:=decide_eq_false (fun q=>nomatch q)
def Z0T (prog:Program) (w:World):PySem.KeyKind prog w Key where
 is:=Z8p
 hash:=keyH w
 inj:=fun v a b ha hb=>by
  rcases Z0P ha with ⟨i,t,rfl,rfl⟩ | ⟨x,t,rfl,rfl⟩
  ·rcases Z0P hb with ⟨j,u,rfl,e⟩ | ⟨y,u,rfl,e⟩
   ·injection e with e1 _; rw [e1]
   ·exact nomatch e
  ·rcases Z0P hb with ⟨j,u,rfl,e⟩ | ⟨y,u,rfl,e⟩
   ·exact nomatch e
   ·injection e with e1 _; rw [e1]
 byValue:=fun k v h=>by
  rcases Z0P h with ⟨i,t,rfl,rfl⟩ | ⟨x,t,rfl,rfl⟩ <;> rfl
 pyHash:=fun hv h=>by
  rcases Z0P hv with ⟨i,t,rfl,rfl⟩ | ⟨x,t,rfl,rfl⟩
  ·exact wpAny_pyHash_int h
  ·exact wpAny_pyHash_str h
 eqBool:=fun hu hv h=>by
  rcases Z0P hu with ⟨i,t,rfl,rfl⟩ | ⟨x,t,rfl,rfl⟩
  ·rcases Z0P hv with ⟨j,u,rfl,rfl⟩ | ⟨y,u,rfl,rfl⟩
   ·rw [J4M] at h; exact wpAny_eqBool_int h
   ·rw [J5w] at h; exact SeqAt.EqAt.int_str i t y u _ _ _ _ h
  ·rcases Z0P hv with ⟨j,u,rfl,rfl⟩ | ⟨y,u,rfl,rfl⟩
   ·rw [J5j] at h; exact SeqAt.EqAt.str_int x t j u _ _ _ _ h
   ·rw [J5r] at h; exact wpAny_eqBool_str h
 «strs»:=fun k x t v h=>by
  rcases Z0P h with ⟨i,u,rfl,e⟩ | ⟨y,u,rfl,e⟩
  ·exact nomatch e
  ·injection e with e1 _
   subst e1
   cases v <;> rfl
theorem Z6M (prog:Program) (w:World) (i:Int) (t:Tok):(Z0T prog w).is (.inl i) (.int i t)=true:=Z9W i t
theorem Z6P (prog:Program) (w:World) (x:Str) (t:Tok):(Z0T prog w).is (.inr x) (.str x t)=true:=Z9S x t
end L2
namespace L2
open PySem PySem.Spec PyProof.Rows
inductive V where
 | non | bl (b:Bool) | int (i:Int) | str (x:Str) | byt (b:Array UInt8) | flt (b:UInt64) | ref (a:Addr) | ty (n:String)
 deriving DecidableEq
def RelV:V→Value→Prop
 | .non,u=>u=Value.none
 | .bl b,u=>u=Value.bool b
 | .int i,u=>∃ t,u=Value.int i t
 | .str x,u=>∃ t,u=Value.str x t
 | .byt b,u=>∃ t,u=Value.bytes b t
 | .flt b,u=>∃ t,u=Value.float b t
 | .ref a,u=>u=Value.ref a
 | .ty n,u=>u=Value.type n
abbrev Vals:List V→List Value→Prop:=Paired RelV
theorem Vals.length {xs:List V} {us:List Value} (r:Vals xs us):xs.length=us.length:=Paired.length r
theorem Vals.get:∀ {xs:List V} {us:List Value} {i:Nat} {x:V},Vals xs us→xs[i]?=some x→∃ u,us[i]?=some u∧RelV x u
 | _,_,_,_,.nil,e=>by simp at e
 | _,_,0,_,.cons r _,e=>by simp at e; subst e; exact ⟨_,rfl,r⟩
 | _,_,i+1,x,.cons _ t,e=>by
  obtain ⟨u,h1,h2⟩:=Vals.get (i:=i) (x:=x) t (by simpa using e)
  exact ⟨u,by simpa using h1,h2⟩
theorem Vals.set {x:V} {u:Value} (r:RelV x u):∀ {xs:List V} {us:List Value} (i:Nat),Vals xs us→Vals (xs.set i x) (us.set i u)
 | _,_,_,.nil=>.nil
 | _,_,0,.cons _ t=>.cons r t
 | _,_,i+1,.cons q t=>.cons q (Vals.set r i t)
theorem Vals.append:∀ {xs ys:List V} {us ws:List Value},Vals xs us→Vals ys ws→Vals (xs++ys) (us++ws)
 | _,_,_,_,.nil,s=>s
 | _,_,_,_,.cons r t,s=>.cons r (Vals.append t s)
theorem Vals.take:∀ {xs:List V} {us:List Value} (n:Nat),Vals xs us→Vals (xs.take n) (us.take n)
 | _,_,0,_=>.nil
 | _,_,_+1,.nil=>.nil
 | _,_,n+1,.cons r t=>.cons r (Vals.take n t)
theorem Vals.drop:∀ {xs:List V} {us:List Value} (n:Nat),Vals xs us→Vals (xs.drop n) (us.drop n)
 | _,_,0,r=>r
 | _,_,_+1,.nil=>.nil
 | _,_,n+1,.cons _ t=>Vals.drop n t
def RelO:Option V→Option Value→Prop
 | some v,some u=>RelV v u
 | none,none=>True
 | _,_=>False
def KV {κ:Type}:List (κ×V)→List (κ×Value)→Prop:=Paired fun (p:κ×V) (q:κ×Value)=>p.1=q.1∧RelV p.2 q.2
def kV:Key→V
 | .inl i=>.int i
 | .inr x=>.str x
inductive HO where
 | lst (xs:List V)
 | tup (xs:List V)
 | dK (kvs:List (Key×V)) | dT (kvs:List (List Key×V))
 | set (S:Int→Bool) (n:Nat)
 | ins (C dx:Addr) (fs:List (Str×V))
 | own (x:Addr)
 | xd (fs:List (Str×V))
 | met (f x:Addr)
 | rng (lo hi:Int)
 | frz (o:Obj) (u:HO)
 | tbl (ps:Array Value)
 | ext (φ:Heap→Prop)
abbrev Hp:=Addr→Option HO
def upd (H:Hp) (a:Addr) (o:HO):Hp:=fun b=>if b=a then some o else H b
theorem Z0e {H:Hp} {a:Addr} {o:HO}:upd H a o a=some o:=by unfold upd; rw [if_pos rfl]
theorem Z0h {H:Hp} {a b:Addr} {o:HO} (h:b≠a):upd H a o b=H b:=by unfold upd; rw [if_neg h]
theorem J4u {H:Hp} {a:Addr} {o u:HO}:upd (upd H a o) a u=upd H a u:=by
 funext b; unfold upd; split <;> rfl
theorem Z3V {H:Hp} {a b:Addr} {o u:HO} (h:H a=some o) (h':H b=some u) (d:o≠u):a≠b:=by
 intro e; subst e; rw [h] at h'; exact d (Option.some.inj h')
theorem Z0j {H:Hp} {a b:Addr} {o:HO} (h:H a=some o) (h':H b=none):a≠b:=by
 intro e; subst e; rw [h] at h'; cases h'
theorem Z7s {h:Heap} {xs:Array Value} {n:Nat}:∀ o,(h.push { cls:=.type "tuple",data:=.seq xs n }).get? h.objs.size=some o→o.dict=none:=fun o q=>by
 rw [Heap.get?_push_size _ rfl] at q; cases q; rfl
section
variable (P:Program) (w:World)
def ObjOk (H:Hp) (h:Heap) (a:Addr):HO→Prop
 | .lst xs=>xs.length≤sizeLine∧∃ (its:List Value) (n:Nat),Vals xs its∧h.get? a=some { cls:=.type "list",data:=.seq its.toArray n }
 | .tup xs=>(xs.length≤sizeLine∧∀ o,h.get? a=some o→o.dict=none)∧∃ its:List Value,Vals xs its∧IsTup h a its.toArray
 | .dK kvs=>kvs.length≤sizeLine∧(a == sysModules)=false∧∃ vs,KV kvs vs∧h.DictOf (Z0T P w) a vs
 | .dT kvs=>kvs.length≤sizeLine∧(a == sysModules)=false∧∃ xs:List (List Key×Addr×Value),
   Paired (fun (p:List Key×V) (q:List Key×Addr×Value)=>p.1=q.1∧H q.2.1=some (.tup (p.1.map kV))∧RelV p.2 q.2.2) kvs xs ∧
   ∃ o es ep,h.get? a=some o∧o.ExactDict∧o.data=.dict es ep∧es.toList=xs.map (entryOfKey (tupleKind (Z0T P w)))∧(xs.map (·.1)).Nodup
 | .set S n=>h.SetOf (intKind P w) a S n
 | .ins C dx fs=>H dx=some (.own a)∧fs.length≤1000∧dx≠a∧h.get? a=some (W.instObj C dx) ∧
   ∃ mA,h.Ns1 dx mA∧(∀ f,RelO (fs.lookup f) (mA f))∧PySem.Within mA (fs.map (·.1))
 | .own _=>∃ o,h.get? a=some o
 | .xd fs=>∃ mA,h.Ns1 a mA∧∀ f,RelO (fs.lookup f) (mA f)
 | .rng lo hi=>∃ t u v,h.get? a=some { cls:=.type "range",data:=.fields #[.int lo t,.int hi u,.int 1 v] }
 | .frz o u=>h.get? a=some o∧ObjOk H h a u
 | .tbl ps=>h.get? a=some { cls:=.none,data:=.fields ps }
 | .met f x=>h.get? a=some (W.methodObj (.ref f) (.ref x))
 | .ext φ=>φ h∧(∃ o,h.get? a=some o)∧∀ h1 h2:Heap,φ h1→(∀ o,h1.get? a=some o→h2.get? a=some o)→φ h2
def HOk (H:Hp) (h:Heap):Prop:=∀ a o,H a=some o→ObjOk P w H h a o
end
section
variable {P:Program} {w:World} {H H':Hp} {h h':Heap} {a:Addr} {o:HO}
theorem ObjOk.lt (x:ObjOk P w H h a o):a < h.objs.size:=by
 cases o with
 | lst xs=>obtain ⟨_,_,_,_,e⟩:=x; exact Heap.lt_size e
 | tup xs=>obtain ⟨_,_,_,p⟩:=x; exact p.lt
 | dK kvs=>obtain ⟨_,_,_,_,o,_,_,e,_⟩:=x; exact Heap.lt_size e
 | dT kvs=>obtain ⟨_,_,_,_,o,_,_,e,_⟩:=x; exact Heap.lt_size e
 | set S n=>obtain ⟨o,_,_,_,e,_⟩:=x; exact Heap.lt_size e
 | ins C dx fs=>obtain ⟨_,_,_,e,_⟩:=x; exact Heap.lt_size e
 | own y=>obtain ⟨_,e⟩:=x; exact Heap.lt_size e
 | xd fs=>obtain ⟨_,⟨_,_,_,e,_⟩,_⟩:=x; exact Heap.lt_size e
 | rng lo hi=>obtain ⟨_,_,_,e⟩:=x; exact Heap.lt_size e
 | frz ob u=>obtain ⟨e,_⟩:=x; exact Heap.lt_size e
 | tbl ps=>exact Heap.lt_size (show h.get? a=some _ from x)
 | met f y=>exact Heap.lt_size (show h.get? a=some _ from x)
 | ext φ=>obtain ⟨_,⟨_,e⟩,_⟩:=x; exact Heap.lt_size e
theorem Paired.mapP {α β:Type} {F G:α→β→Prop}:∀ {l₁:List α} {l₂:List β},Paired F l₁ l₂→(∀ a b,F a b→G a b)→Paired G l₁ l₂
 | _,_,.nil,_=>.nil
 | _,_,.cons r t,f=>.cons (f _ _ r) (Paired.mapP t f)
theorem ObjOk.stay (x:ObjOk P w H h a o) (k:∀ b u,(b=a∨H b=some (.own a))→h.get? b=some u→h'.get? b=some u)
  (ho:∀ b,H b=some (.own a)→H' b=some (.own a)) (ht:∀ b xs,H b=some (.tup xs)→H' b=some (.tup xs)):ObjOk P w H' h' a o:=by
 induction o with
 | lst xs=>obtain ⟨z,its,n,r,e⟩:=x; exact ⟨z,its,n,r,k _ _ (.inl rfl) e⟩
 | tup xs=>obtain ⟨z,its,r,ob,e,c⟩:=x; exact ⟨⟨z.1,fun o q=>by rw [k _ _ (.inl rfl) e] at q; cases q; exact z.2 _ e⟩,its,r,ob,k _ _ (.inl rfl) e,c⟩
 | dK kvs=>obtain ⟨z,y,vs,r,ob,es,ep,e,c⟩:=x; exact ⟨z,y,vs,r,ob,es,ep,k _ _ (.inl rfl) e,c⟩
 | dT kvs=>
  obtain ⟨z,y,xs,r,ob,es,ep,e,c⟩:=x
  exact ⟨z,y,xs,Paired.mapP r fun p q z=>⟨z.1,ht _ _ z.2.1,z.2.2⟩,ob,es,ep,k _ _ (.inl rfl) e,c⟩
 | set S n=>obtain ⟨ob,es,ep,t,e,c⟩:=x; exact ⟨ob,es,ep,t,k _ _ (.inl rfl) e,c⟩
 | ins C dx fs=>
  obtain ⟨d,z,ne,e,mA,⟨od,es,ep,e2,c⟩,r⟩:=x
  exact ⟨ho _ d,z,ne,k _ _ (.inl rfl) e,mA,⟨od,es,ep,k _ _ (.inr d) e2,c⟩,r⟩
 | own y=>obtain ⟨ob,e⟩:=x; exact ⟨ob,k _ _ (.inl rfl) e⟩
 | xd fs=>obtain ⟨mA,⟨od,es,ep,e,c⟩,r⟩:=x; exact ⟨mA,⟨od,es,ep,k _ _ (.inl rfl) e,c⟩,r⟩
 | rng lo hi=>obtain ⟨t,u,v,e⟩:=x; exact ⟨t,u,v,k _ _ (.inl rfl) e⟩
 | frz ob u ih=>obtain ⟨e,q⟩:=x; exact ⟨k _ _ (.inl rfl) e,ih q⟩
 | tbl ps=>
  have e:h.get? a=some { cls:=.none,data:=.fields ps }:=x
  show h'.get? a=some { cls:=.none,data:=.fields ps }
  exact k a _ (.inl rfl) e
 | met f y=>
  have e:h.get? a=some (W.methodObj (.ref f) (.ref y)):=x
  show h'.get? a=some (W.methodObj (.ref f) (.ref y))
  exact k a _ (.inl rfl) e
 | ext φ=>obtain ⟨p,⟨o,e⟩,st⟩:=x; exact ⟨st _ _ p fun o q=>k _ _ (.inl rfl) q,⟨o,k _ _ (.inl rfl) e⟩,st⟩
theorem HOk.lt (x:HOk P w H h) (e:H a=some o):a < h.objs.size:=(x a o e).lt
theorem HOk.fresh (x:HOk P w H h) (e:h.objs.size≤a):H a=none:=by
 cases q:H a with
 | none=>rfl
 | some u=>exact absurd (Nat.lt_of_lt_of_le (x.lt q) e) (Nat.lt_irrefl _)
theorem HOk.kept (x:HOk P w H h) (k:∀ b u,h.get? b=some u→h'.get? b=some u):HOk P w H h':=fun a o e=>
 (x a o e).stay (fun b u _ q=>k b u q) (fun _ q=>q) fun _ _ q=>q
theorem HOk.laid (x:HOk P w H h) (k:∀ b u,h.get? b=some u→h'.get? b=some u) (hp:h.objs.size≤a) (new:ObjOk P w (upd H a o) h' a o):HOk P w (upd H a o) h':=fun b u e=>by
 have hn:=x.fresh hp
 by_cases hb:b=a
 ·subst hb; rw [Z0e] at e; cases e; exact new
 ·rw [Z0h hb] at e
  exact (x b u e).stay (fun c v _ q=>k c v q) (fun c q=>by rw [Z0h (Z0j q hn)]; exact q) fun c xs q=>by rw [Z0h (Z0j q hn)]; exact q
end
def Rd (H:Hp) (a:Addr) (u:HO):Prop:=H a=some u∨∃ o,H a=some (.frz o u)
theorem Rd.ok {P:Program} {w:World} {H:Hp} {h:Heap} {a:Addr} {u:HO} (r:Rd H a u) (x:HOk P w H h):ObjOk P w H h a u:=by
 rcases r with r | ⟨o,r⟩
 ·exact x a u r
 ·obtain ⟨_,q⟩:=x a _ r
  exact q
def Mut:Option HO→Prop
 | some (.lst _)=>True
 | some (.dK _)=>True
 | some (.dT _)=>True
 | some (.set _ _)=>True
 | some (.ins _ _ _)=>True
 | some (.ext _)=>True
 | _=>False
section
variable {P:Program} {w:World} {H:Hp} {h h':Heap} {x e:Addr} {o':HO}
theorem HOk.write (ok:HOk P w H h) (mu:Mut (H x)) (he:e=x∨H e=some (.own x)) (k:∀ b u,b≠e→h.get? b=some u→h'.get? b=some u) (heo:∃ u,h'.get? e=some u)
  (new:ObjOk P w (upd H x o') h' x o'):HOk P w (upd H x o') h':=fun b u q=>by
 have nown:∀ c y,H c=some (.own y)→c≠x:=fun c y r z=>by subst z; rw [r] at mu; exact mu
 have ntup:∀ c xs,H c=some (.tup xs)→c≠x:=fun c xs r z=>by subst z; rw [r] at mu; exact mu
 by_cases hb:b=x
 ·subst hb; rw [Z0e] at q; cases q; exact new
 ·rw [Z0h hb] at q
  by_cases hbe:b=e
  ·have q':H b=some (.own x):=by
    rcases he with z | z
    ·exact absurd (hbe.trans z) hb
    ·rw [hbe]; exact z
   rw [q] at q'; cases q'
   obtain ⟨v,hv⟩:=heo
   exact ⟨v,by rw [hbe]; exact hv⟩
  ·refine (ok b u q).stay (fun c v hc r=>k c v ?_ r) (fun c r=>by rw [Z0h (nown c b r)]; exact r) fun c xs r=>by rw [Z0h (ntup c xs r)]; exact r
   rcases hc with rfl | hc
   ·exact hbe
   ·rintro rfl
    rcases he with z | z
    ·exact nown c b hc z
    ·rw [hc] at z; cases z; exact hb rfl
end
structure Un (fs ex:List Addr) (H H':Hp) (h h':Heap):Prop where
 keep:∀ b o,h.get? b=some o→H b=none→b∉fs→b∉ex→h'.get? b=some o
 slot:∀ b o,h.get? b=some o→H b=none→b∈fs→b∉ex→∃ sl,h'.get? b=some { o with slots:=sl }
 free:∀ b o,h.get? b=some o→H b=none→b∉ex→H' b=none
 there:∀ b o,h.get? b=some o→b∉ex→∃ o',h'.get? b=some o'
 tups:∀ b xs,H b=some (.tup xs)→H' b=some (.tup xs)
 frzs:∀ b o u,H b=some (.frz o u)→H' b=some (.frz o u)
 tbls:∀ b ps,H b=some (.tbl ps)→∃ more,H' b=some (.tbl (ps++more))
section
variable {fs fs' ex ex':List Addr} {H H1 H2:Hp} {h h1 h2 h':Heap} {a x e:Addr} {o:HO}
theorem Un.any (u:Un fs ex H H1 h h1) {b:Addr} {ob:Obj} (q:h.get? b=some ob) (n:H b=none) (hx:b∉ex):∃ sl,h1.get? b=some { ob with slots:=sl }:=by
 by_cases hb:b∈fs
 ·exact u.slot b ob q n hb hx
 ·exact ⟨ob.slots,u.keep b ob q n hb hx⟩
theorem Un.kept (k:∀ b u,h.get? b=some u→h'.get? b=some u):Un fs ex H H h h':=
 ⟨fun b ob q _ _ _=>k b ob q,fun b ob q _ _ _=>⟨ob.slots,k b ob q⟩,fun _ _ _ n _=>n,fun b ob q _=>⟨ob,k b ob q⟩,fun _ _ q=>q,fun _ _ _ q=>q,fun _ ps q=>⟨#[],by rw [q]; simp⟩⟩
theorem Un.refl:Un fs ex H H h h:=Un.kept fun _ _ q=>q
theorem Un.laid (k:∀ b u,h.get? b=some u→h'.get? b=some u) (hp:h.objs.size≤a) (hn:H a=none):Un fs ex H (upd H a o) h h' where
 keep:=fun b u q _ _ _=>k b u q
 slot:=fun b u q _ _ _=>⟨u.slots,k b u q⟩
 free:=fun b u q n _=>by rw [Z0h (Nat.ne_of_lt (Nat.lt_of_lt_of_le (Heap.lt_size q) hp))]; exact n
 there:=fun b u q _=>⟨u,k b u q⟩
 tups:=fun b xs q=>by rw [Z0h (Z0j q hn)]; exact q
 frzs:=fun b u xs q=>by rw [Z0h (Z0j q hn)]; exact q
 tbls:=fun b ps q=>⟨#[],by rw [Z0h (Z0j q hn),q]; simp⟩
theorem Un.write (mu:Mut (H x)) (he:e=x∨H e=some (.own x)) (k:∀ b u,b≠e→h.get? b=some u→h'.get? b=some u) (heo:∃ u,h'.get? e=some u):Un fs ex H (upd H x o) h h':=by
 have hx:∀ b,H b=none→b≠x:=fun b n z=>by subst z; rw [n] at mu; exact mu
 have hb:∀ b,H b=none→b≠e:=fun b n z=>by
  subst z
  rcases he with r | r
  ·exact hx b n r
  ·rw [n] at r; cases r
 have hm:∀ b u,H b=some u→¬ Mut (some u)→b≠x:=fun b u q nm z=>by subst z; rw [q] at mu; exact nm mu
 refine ⟨fun b u q n _ _=>k b u (hb b n) q,fun b u q n _ _=>⟨u.slots,k b u (hb b n) q⟩,fun b u q n _=>by rw [Z0h (hx b n)]; exact n,fun b u q _=>?_,
  fun b xs q=>by rw [Z0h (hm b _ q fun z=>z)]; exact q,fun b u xs q=>by rw [Z0h (hm b _ q fun z=>z)]; exact q,fun b ps q=>⟨#[],by rw [Z0h (hm b _ q fun z=>z),q]; simp⟩⟩
 by_cases hbe:b=e
 ·subst hbe; exact heo
 ·exact ⟨u,k b u hbe q⟩
end
def trk (h:Heap) (H:Hp):List Addr:=(List.range h.objs.size).filter fun a=>(H a).isSome
def hidT (h:Heap) (H:Hp):Heap:=W.hideAll h (trk h H)
theorem Z6m (h:Heap) (H:Hp):(hidT h H).objs.size=h.objs.size:=W.hideAll_size _ _
theorem Z7V {h:Heap} {H:Hp} {b:Addr} {o:Obj} (e:h.get? b=some o) (n:H b=none):(hidT h H).get? b=some o:=
 W.hideAll_get _ e fun hm=>by
  have q:(H b).isSome=true:=(List.mem_filter.mp hm).2
  rw [n] at q; simp at q
theorem Z9s {h:Heap} {H:Hp} {b:Addr} {o:Obj} (e:(hidT h H).get? b=some o):h.get? b=some o∧H b=none:=by
 have e':h.get? b=some o:=W.of_hideAll (trk h H) e
 refine ⟨e',?_⟩
 cases q:H b with
 | none=>rfl
 | some x=>
  have hm:b∈trk h H:=List.mem_filter.mpr ⟨List.mem_range.mpr (Heap.lt_size e'),by simp [q]⟩
  have z:(hidT h H).get? b=none:=W.hideAll_none (trk h H) hm
  rw [z] at e; cases e
def J4z (g h:Heap) (L:Addr):List (Addr×Obj):=(List.range h.objs.size).filterMap fun a=>if a=L∨(g.get? a).isSome=true then none else (h.get? a).map fun o=>(a,o)
def rest (g h:Heap) (L d:Addr):List (Addr×Obj):=(J4z g h L).filter fun p=>decide (p.1≠d)
end L2
namespace L2
open PySem PySem.Spec PyProof.Rows
structure Mod (K:W.Frag) (mg:Str→Option Value) (base:Heap):Prop where
 kin:K.In base
 glob:base.Ns mainGlobals mg
 blt:∃ mb,base.Ns builtinsNs mb∧∀ x:Str,x≠"__name__"→mb x=bootBuiltins x
 nolimit:base.NoLimit
structure Cx where
 prog:Program
 w:World
 K:W.Frag
 mg:Str→Option Value
 base:Heap
 A:Around
 N:List Str
 s₀:Shared
 H₀:Hp
 env:Env
 outer:List Env
 stack:List Env
 ex:List Addr
 fn:Str→Bool
 calm:Bool
 pn:List (Addr×Obj)
 xe:Value→Shared→Prop
def frs (l:List Env):List Addr:=l.filterMap (·.frame)
abbrev Cx.fs (X:Cx):List Addr:=frs X.outer
def Vis (sc:Scope) (x:Str):Prop:=sc.names.lookup x=some .local∨sc.names.lookup x=some .cell∨sc.names.lookup x=some .free
def Loc (sc:Scope) (x:Str):Prop:=sc.names.lookup x=some .local∨sc.names.lookup x=some .cell
def Look (env:Env) (h:Heap) (m:Str→Option Value) (x:Str) (u:Value):Prop:=
 (env.kindOf x=some .local∧m x=some u)∨((env.kindOf x=some .cell∨env.kindOf x=some .free)∧∃ c,env.cells.lookup x=some c∧h.IsCell c (some u))
structure Cx.Ok (X:Cx):Prop where
 mod:Mod X.K X.mg X.base
 kind:X.env.scope.kind=.function
 glob:X.env.globals=mainGlobals
 blt:X.env.builtins=builtinsNs
 above:X.s₀.heap.objs.size≤X.env.locals
 inj:∀ x y c,X.env.cells.lookup x=some c→X.env.cells.lookup y=some c→x=y
 has:∀ x,(X.env.kindOf x=some .cell∨X.env.kindOf x=some .free)→∃ c,X.env.cells.lookup x=some c
 cab:∀ x c,X.fn x=true→X.env.cells.lookup x=some c→X.s₀.heap.objs.size≤c
 hd:X.calm=true→X.A.handled=none
 frames:X.A.frames=some X.stack
 stk:X.stack=X.outer∨(X.stack=X.env::X.outer∧X.env.frame=some X.env.locals)
 exf:∀ b∈X.ex,b≠X.env.locals∧∀ x c,X.env.cells.lookup x=some c→c≠b
 bs:∀ b o,X.base.get? b=some o→X.s₀.heap.get? b=some o∧X.H₀ b=none
 bsz:X.base.objs.size≤X.s₀.heap.objs.size
 noex:∀ b o,X.base.get? b=some o→b∉X.ex
 exfs:∀ b∈X.ex,b∉X.fs
 funs:X.s₀.heap.FunFrames X.base X.outer
 frf:∀ b∈X.fs,X.H₀ b=none
structure Inv (X:Cx) (pins:List (Addr×Obj)) (σ:List (Option V)) (H:Hp) (s:Shared):Prop where
 ok:X.Ok
 os:s.os=X.s₀.os
 bare:AllBare s.gens
 base:Un X.fs X.ex X.H₀ H X.s₀.heap s.heap
 loc:∃ m,s.heap.Ns X.env.locals m∧∀ (i:Nat) (x:Str) (v:V),X.N[i]?=some x→σ[i]?=some (some v)→Vis X.env.scope x→∃ u,RelV v u∧Look X.env s.heap m x u
 cell:∀ x c,X.env.cells.lookup x=some c→∃ v,s.heap.IsCell c v
 free:H X.env.locals=none
 freeC:∀ x c,X.env.cells.lookup x=some c→H c=none
 pin:∀ p∈X.pn++pins,s.heap.get? p.1=some p.2∧H p.1=none∧p.1≠X.env.locals∧p.1∉X.fs∧∀ v,p.2.data≠.cell v
 hok:HOk X.prog X.w H s.heap
 len:σ.length=X.N.length
section
variable {X:Cx} {pins:List (Addr×Obj)} {σ:List (Option V)} {H H':Hp} {s:Shared} {h':Heap}
theorem Cx.Ok.nofr (ok:X.Ok) {b:Addr} {o:Obj} (e:X.base.get? b=some o):b∉X.fs:=fun hb=>by
 have:=(ok.funs.mem hb).1
 rw [e] at this; cases this
theorem Inv.bs (I:Inv X pins σ H s):∀ b o,X.base.get? b=some o→s.heap.get? b=some o∧H b=none:=fun b o e=>
 ⟨I.base.keep b o (I.ok.bs b o e).1 (I.ok.bs b o e).2 (I.ok.nofr e) (I.ok.noex b o e),I.base.free b o (I.ok.bs b o e).1 (I.ok.bs b o e).2 (I.ok.noex b o e)⟩
theorem Inv.bk (I:Inv X pins σ H s):∀ b o,X.base.get? b=some o→s.heap.get? b=some o:=fun b o e=>(I.bs b o e).1
theorem Inv.mod (I:Inv X pins σ H s):Mod X.K X.mg X.base:=I.ok.mod
theorem Inv.kIn (I:Inv X pins σ H s):X.K.In s.heap:=I.ok.mod.kin.keeps I.bk
theorem Inv.nolimit (I:Inv X pins σ H s):s.heap.NoLimit:=I.ok.mod.nolimit.keeps I.bk
theorem Inv.lt (I:Inv X pins σ H s):X.env.locals < s.heap.objs.size:=let ⟨_,hn,_⟩:=I.loc; hn.lt
theorem Inv.sz (I:Inv X pins σ H s):X.s₀.heap.objs.size≤s.heap.objs.size:=Nat.le_trans I.ok.above (Nat.le_of_lt I.lt)
theorem Inv.nofs (I:Inv X pins σ H s) {a:Addr} (h:s.heap.objs.size≤a):a∉X.fs:=fun hb=>by
 obtain ⟨_,o,ho,_⟩:=I.ok.funs.mem hb
 exact absurd (Nat.lt_of_lt_of_le (Heap.lt_size ho) (Nat.le_trans I.sz h)) (Nat.lt_irrefl _)
theorem Inv.cne (I:Inv X pins σ H s):∀ x c,X.env.cells.lookup x=some c→c≠X.env.locals:=fun x c e z=>by
 obtain ⟨v,o,ho,hd⟩:=I.cell x c e
 obtain ⟨m,⟨o',es,ep,ho',hd',_⟩,_⟩:=I.loc
 rw [z,ho'] at ho; cases ho; rw [hd'] at hd; cases hd
theorem Inv.funs (I:Inv X pins σ H s):s.heap.FunFrames X.base X.outer:=by
 have all:∀ (l:List Env),(∀ b∈frs l,b∈X.fs)→X.s₀.heap.FunFrames X.base l→s.heap.FunFrames X.base l:=by
  intro l
  induction l with
  | nil=>intro _ _; trivial
  | cons env r ih=>
   intro hs hl
   obtain ⟨hk,⟨L,o,hf,hn,ho,hd⟩,hr⟩:=hl
   have hL:L∈X.fs:=hs L (by unfold frs; rw [List.filterMap_cons,hf]; exact List.mem_cons_self)
   obtain ⟨sl,e⟩:=I.base.slot L o ho (I.ok.frf L hL) hL fun z=>I.ok.exfs L z hL
   exact ⟨hk,⟨L,_,hf,hn,e,hd⟩,ih (fun b hb=>hs b (by unfold frs; rw [List.filterMap_cons,hf]; exact List.mem_cons_of_mem _ hb)) hr⟩
 exact all X.outer (fun _ hb=>hb) I.ok.funs
theorem Inv.stack (I:Inv X pins σ H s):s.heap.FunFrames X.base X.stack:=by
 rcases I.ok.stk with e | ⟨e,hf⟩
 ·rw [e]; exact I.funs
 ·rw [e]
  obtain ⟨m,hn,_⟩:=I.loc
  refine .cons (by rw [I.ok.kind]; decide) hf hn ?_ I.funs
  exact Heap.get?_none_of_le (Nat.le_trans I.ok.bsz I.ok.above)
theorem Inv.stkSub (I:Inv X pins σ H s):∀ b∈frs X.stack,b∈X.env.locals::X.fs:=fun b hb=>by
 rcases I.ok.stk with e | ⟨e,hf⟩
 ·rw [e] at hb; exact List.mem_cons_of_mem _ hb
 ·rw [e] at hb
  unfold frs at hb
  rw [List.filterMap_cons,hf] at hb
  exact hb
theorem Inv.stkFree (I:Inv X pins σ H s):∀ b∈frs X.stack,H b=none:=fun b hb=>by
 rcases List.mem_cons.mp (I.stkSub b hb) with e | hb
 ·rw [e]; exact I.free
 ·obtain ⟨_,o,ho,_⟩:=I.ok.funs.mem hb
  exact I.base.free b o ho (I.ok.frf b hb) fun z=>I.ok.exfs b z hb
theorem Inv.step {g':Array GenState} {t':Nat} {d':Drawn} {ch:List Addr} (I:Inv X pins σ H s)
  (hch:∀ b∈ch,(b∈X.ex∨X.s₀.heap.objs.size≤b)∧b≠X.env.locals∧(∀ x c,X.env.cells.lookup x=some c→c≠b)∧∀ p∈X.pn++pins,p.1≠b)
  (keep:∀ b o,b≠X.env.locals→b∉X.fs→b∉ch→s.heap.get? b=some o→H b=none→h'.get? b=some o)
  (slot:∀ b o,b≠X.env.locals→b∈X.fs→b∉ch→s.heap.get? b=some o→H b=none→∃ sl,h'.get? b=some { o with slots:=sl }) (free:∀ b o,b∉ch→s.heap.get? b=some o→H b=none→H' b=none)
  (there:∀ b o,b∉ch→s.heap.get? b=some o→∃ o',h'.get? b=some o')
  (tups:∀ b xs,H b=some (.tup xs)→H' b=some (.tup xs)) (frzs:∀ b o u,H b=some (.frz o u)→H' b=some (.frz o u)) (tbls:∀ b ps,H b=some (.tbl ps)→∃ more,H' b=some (.tbl (ps++more)))
  (ns:∀ m,s.heap.Ns X.env.locals m→h'.Ns X.env.locals m) (hok:HOk X.prog X.w H' h') (hg:AllBare g') :
  Inv X pins σ H' { s with heap:=h',gens:=g',drawn:=d',toks:=t' }:=by
 have neL:∀ b o,X.s₀.heap.get? b=some o→b≠X.env.locals:=fun b o e=>Nat.ne_of_lt (Nat.lt_of_lt_of_le (Heap.lt_size e) I.ok.above)
 have neC:∀ b o,X.s₀.heap.get? b=some o→b∉X.ex→b∉ch:=fun b o e hx hb=>by
  rcases (hch b hb).1 with z | z
  ·exact hx z
  ·exact absurd (Nat.lt_of_lt_of_le (Heap.lt_size e) z) (Nat.lt_irrefl _)
 have cellK:∀ x c,X.env.cells.lookup x=some c→∀ v,s.heap.IsCell c v→h'.IsCell c v:=fun x c e v ⟨o,ho,hd⟩=>by
  have nch:c∉ch:=fun z=>(hch c z).2.2.1 x c e rfl
  by_cases hc:c∈X.fs
  ·obtain ⟨sl,q⟩:=slot c o (I.cne x c e) hc nch ho (I.freeC x c e)
   exact ⟨_,q,hd⟩
  ·exact ⟨o,keep c o (I.cne x c e) hc nch ho (I.freeC x c e),hd⟩
 refine ⟨I.ok,I.os,hg,⟨fun b o e n hb hx=>?_,fun b o e n hb hx=>?_,fun b o e n hx=>?_,fun b o e hx=>?_,fun b xs e=>tups b xs (I.base.tups b xs e),fun b o xs e=>frzs b o xs (I.base.frzs b o xs e),fun b ps e=>?_⟩,?_,fun x c e=>?_,?_,fun x c e=>?_,fun p hp=>?_,hok,I.len⟩
 ·exact keep b o (neL b o e) hb (neC b o e hx) (I.base.keep b o e n hb hx) (I.base.free b o e n hx)
 ·obtain ⟨sl,e1⟩:=I.base.slot b o e n hb hx
  obtain ⟨sl',e2⟩:=slot b _ (neL b o e) hb (neC b o e hx) e1 (I.base.free b o e n hx)
  exact ⟨sl',e2⟩
 ·obtain ⟨o',e1⟩:=I.base.there b o e hx
  exact free b o' (neC b o e hx) e1 (I.base.free b o e n hx)
 ·obtain ⟨o',e1⟩:=I.base.there b o e hx
  exact there b o' (neC b o e hx) e1
 ·obtain ⟨m1,e1⟩:=I.base.tbls b ps e
  obtain ⟨m2,e2⟩:=tbls b _ e1
  exact ⟨m1++m2,by rw [e2,Array.append_assoc]⟩
 ·obtain ⟨m,hn,hl⟩:=I.loc
  refine ⟨m,ns m hn,fun i x v e1 e2 e3=>?_⟩
  obtain ⟨u,r,l⟩:=hl i x v e1 e2 e3
  refine ⟨u,r,?_⟩
  rcases l with l | ⟨k,c,e,z⟩
  ·exact .inl l
  ·exact .inr ⟨k,c,e,cellK x c e _ z⟩
 ·obtain ⟨v,z⟩:=I.cell x c e
  exact ⟨v,cellK x c e v z⟩
 ·obtain ⟨m,⟨o,_,_,ho,_⟩,_⟩:=I.loc
  exact free _ o (fun z=>(hch _ z).2.1 rfl) ho I.free
 ·obtain ⟨v,o,ho,hd⟩:=I.cell x c e
  exact free c o (fun z=>(hch c z).2.2.1 x c e rfl) ho (I.freeC x c e)
 ·obtain ⟨e,n,ne,nf,d⟩:=I.pin p hp
  have nch:p.1∉ch:=fun z=>(hch p.1 z).2.2.2 p hp rfl
  exact ⟨keep p.1 p.2 ne nf nch e n,free p.1 p.2 nch e n,ne,nf,d⟩
theorem Inv.un {t':Nat} (I:Inv X pins σ H s) (u:Un X.fs [] H H' s.heap h') (hok:HOk X.prog X.w H' h'):Inv X pins σ H' { s with heap:=h',toks:=t' }:=by
 obtain ⟨m,⟨o,es,ep,ho,r⟩,_⟩:=id I.loc
 obtain ⟨sl,hL⟩:=u.any ho I.free (by simp)
 exact I.step (g':=s.gens) (d':=s.drawn) (ch:=[]) (fun _ z=>nomatch z) (fun b o _ hb _ e n=>u.keep b o e n hb (by simp)) (fun b o _ hb _ e n=>u.slot b o e n hb (by simp)) (fun b o _ e n=>u.free b o e n (by simp)) (fun b o _ e=>u.there b o e (by simp)) u.tups u.frzs u.tbls (fun m' hm=>by
  obtain ⟨o',es',ep',ho',r'⟩:=hm
  rw [ho] at ho'; cases ho'
  exact ⟨_,es',ep',hL,r'⟩) hok I.bare
theorem Inv.call {g':Array GenState} {t':Nat} {d':Drawn} {ch:List Addr} (I:Inv X pins σ H s) (u:Un (frs X.stack) ch H H' s.heap h') (hok:HOk X.prog X.w H' h') (hg:AllBare g')
  (hch:∀ b∈ch,(b∈X.ex∨X.s₀.heap.objs.size≤b)∧b≠X.env.locals∧(∀ x c,X.env.cells.lookup x=some c→c≠b)∧∀ p∈X.pn++pins,p.1≠b) :
  Inv X pins σ H' { s with heap:=h',gens:=g',drawn:=d',toks:=t' }:=by
 obtain ⟨m,⟨o,es,ep,ho,r⟩,_⟩:=id I.loc
 obtain ⟨sl,hL⟩:=u.any ho I.free fun z=>(hch _ z).2.1 rfl
 exact I.step (ch:=ch) hch (fun b o hL hb hc e n=>u.keep b o e n (fun z=>(List.mem_cons.mp (I.stkSub b z)).elim hL hb) hc) (fun b o _ _ hc e n=>u.any e n hc) (fun b o hc e n=>u.free b o e n hc) (fun b o hc e=>u.there b o e hc) u.tups u.frzs u.tbls (fun m' hm=>by
  obtain ⟨o',es',ep',ho',r'⟩:=hm
  rw [ho] at ho'; cases ho'
  exact ⟨_,es',ep',hL,r'⟩) hok hg
theorem Inv.turned {t':Nat} {it:Addr} (I:Inv X pins σ H s) (k:∀ b o,b≠it→s.heap.get? b=some o→h'.get? b=some o) (hn:H it=none) (hL:it≠X.env.locals)
  (h1:it∈X.ex∨X.s₀.heap.objs.size≤it) (h2:∀ x c,X.env.cells.lookup x=some c→c≠it) (h3:∀ p∈X.pn++pins,p.1≠it):Inv X pins σ H { s with heap:=h',toks:=t' }:=by
 have nit:∀ b u,H b=some u→b≠it:=fun b u e z=>by rw [z,hn] at e; cases e
 refine I.step (g':=s.gens) (d':=s.drawn) (ch:=[it]) (fun b hb=>?_) (fun b o _ _ hc e _=>k b o (fun z=>hc (by simp [z])) e) (fun b o _ _ hc e _=>⟨o.slots,k b o (fun z=>hc (by simp [z])) e⟩) (fun _ _ _ _ n=>n)
  (fun b o hc e=>⟨o,k b o (fun z=>hc (by simp [z])) e⟩) (fun _ _ e=>e) (fun _ _ _ e=>e) (fun b ps e=>⟨#[],by rw [e]; simp⟩) (fun m hm=>?_) (fun b u e=>?_) I.bare
 ·have e:b=it:=by simpa using hb
  subst e
  exact ⟨h1,hL,h2,h3⟩
 ·obtain ⟨o,es,ep,ho,r⟩:=hm
  exact ⟨o,es,ep,k _ o (Ne.symm hL) ho,r⟩
 ·refine (I.hok b u e).stay (fun c v hc q=>k c v ?_ q) (fun _ q=>q) fun _ _ q=>q
  rcases hc with z | z
  ·rw [z]; exact nit b u e
  ·exact nit c _ z
theorem Inv.tok (I:Inv X pins σ H s) (t:Nat):Inv X pins σ H { s with toks:=t }:=I.un (h':=s.heap) (t':=t) Un.refl I.hok
theorem Inv.kept {t':Nat} (I:Inv X pins σ H s) (k:∀ b u,s.heap.get? b=some u→h'.get? b=some u):Inv X pins σ H { s with heap:=h',toks:=t' }:=I.un (Un.kept k) (I.hok.kept k)
theorem Inv.laid {a:Addr} {o:HO} {t':Nat} (I:Inv X pins σ H s) (k:∀ b u,s.heap.get? b=some u→h'.get? b=some u) (hp:s.heap.objs.size≤a) (new:ObjOk X.prog X.w (upd H a o) h' a o) :
  Inv X pins σ (upd H a o) { s with heap:=h',toks:=t' }:=I.un (Un.laid k hp (I.hok.fresh hp)) (I.hok.laid k hp new)
theorem Inv.write {x e:Addr} {o:HO} {t':Nat} (I:Inv X pins σ H s) (mu:Mut (H x)) (he:e=x∨H e=some (.own x)) (k:∀ b u,b≠e→s.heap.get? b=some u→h'.get? b=some u) (heo:∃ u,h'.get? e=some u)
  (new:ObjOk X.prog X.w (upd H x o) h' x o):Inv X pins σ (upd H x o) { s with heap:=h',toks:=t' }:=I.un (Un.write mu he k heo) (I.hok.write mu he k heo new)
theorem Inv.pins_of {pins':List (Addr×Obj)} (I:Inv X pins σ H s) (h:∀ p∈pins',s.heap.get? p.1=some p.2∧H p.1=none∧p.1≠X.env.locals∧p.1∉X.fs∧∀ v,p.2.data≠.cell v):Inv X pins' σ H s:=
 ⟨I.ok,I.os,I.bare,I.base,I.loc,I.cell,I.free,I.freeC,fun p hp=>(List.mem_append.mp hp).elim (fun z=>I.pin p (List.mem_append_left _ z)) (h p),I.hok,I.len⟩
theorem Z6U {N:List Str} (hN:N.Nodup) {i j:Nat} {x:Str} (a:N[i]?=some x) (b:N[j]?=some x):i=j:=by
 obtain ⟨h1,e1⟩:=List.getElem?_eq_some_iff.mp a
 obtain ⟨h2,e2⟩:=List.getElem?_eq_some_iff.mp b
 exact (List.getElem_inj hN).mp (e1.trans e2.symm)
theorem Z4b {M:Model} {A:Around} {E:Value→Shared→Prop} {i:Nat} {x:Str} {v:V} {u:Value} {Q:Unit→Shared→Prop} (I:Inv X pins σ H s) (hN:X.N.Nodup) (hi:X.N[i]?=some x) (hx:Loc X.env.scope x) (r:RelV v u)
  (h:∀ s',Inv X pins (σ.set i (some v)) H s'→(∃ a,Heap.SameBut a s.heap s'.heap∧(a=X.env.locals∨X.env.cells.lookup x=some a))→Q () s') (hf:X.fn x=true∨X.env.scope.names.lookup x=some .local:=by first | exact .inl rfl | exact .inr rfl | assumption):wpAny M A (storeName X.env x u) Q E s:=by
 obtain ⟨m,hn,hl⟩:=id I.loc
 have hcls:(X.env.scope.kind == .class || (X.env.scope.kind == .module&&X.env.locals != X.env.globals))=false:=by rw [I.ok.kind]; rfl
 have hiσ:i < σ.length:=by rw [I.len]; exact (List.getElem?_eq_some_iff.mp hi).1
 have cne:=I.cne
 have tracked:∀ {a:Addr} {h':Heap},(∃ o,s.heap.get? a=some o∧H a=none)→Heap.SameBut a s.heap h'→HOk X.prog X.w H h':=fun {a h'} ha hs b ob e=>by
  obtain ⟨_,_,hfree⟩:=ha
  refine (I.hok b ob e).stay (fun c w' hc q=>(hs.2 c ?_).trans q) (fun _ q=>q) fun _ _ q=>q
  rintro rfl
  rcases hc with rfl | hc
  ·rw [hfree] at e; cases e
  ·rw [hfree] at hc; cases hc
 rcases hx with hk | hk
 ·refine wpAny_storeName_local hk hn (fun h' hn' hs=>?_) hcls
  obtain ⟨oL,_,_,hoL,_⟩:=id hn
  refine h _ ⟨I.ok,I.os,I.bare,⟨fun b o e n hb hx=>?_,fun b o e n hb hx=>?_,I.base.free,fun b o e hx=>?_,I.base.tups,I.base.frzs,I.base.tbls⟩,⟨_,hn',fun j y v' e1 e2 e3=>?_⟩,fun y c e=>?_,I.free,I.freeC,fun p hp=>?_,tracked ⟨oL,hoL,I.free⟩ hs,by simpa using I.len⟩ ⟨_,hs,.inl rfl⟩
  ·exact (hs.2 b (Nat.ne_of_lt (Nat.lt_of_lt_of_le (Heap.lt_size e) I.ok.above))).trans (I.base.keep b o e n hb hx)
  ·obtain ⟨sl,e1⟩:=I.base.slot b o e n hb hx
   exact ⟨sl,(hs.2 b (Nat.ne_of_lt (Nat.lt_of_lt_of_le (Heap.lt_size e) I.ok.above))).trans e1⟩
  ·obtain ⟨o',e1⟩:=I.base.there b o e hx
   exact ⟨o',(hs.2 b (Nat.ne_of_lt (Nat.lt_of_lt_of_le (Heap.lt_size e) I.ok.above))).trans e1⟩
  ·by_cases hj:j=i
   ·subst hj
    rw [hi] at e1; cases e1
    rw [List.getElem?_set_self hiσ] at e2
    cases e2
    exact ⟨u,r,.inl ⟨hk,by simp⟩⟩
   ·rw [List.getElem?_set_ne (Ne.symm hj)] at e2
    obtain ⟨u',r',q⟩:=hl j y v' e1 e2 e3
    refine ⟨u',r',?_⟩
    rcases q with ⟨k,e⟩ | ⟨k,c,e,z⟩
    ·refine .inl ⟨k,?_⟩
     have:y≠x:=fun e=>hj (Z6U hN e1 (e▸hi))
     simp [this,e]
    ·exact .inr ⟨k,c,e,z.sameBut hs (cne y c e)⟩
  ·obtain ⟨w',z⟩:=I.cell y c e
   exact ⟨w',z.sameBut hs (cne y c e)⟩
  ·obtain ⟨e,n,ne,nf,d⟩:=I.pin p hp
   exact ⟨(hs.2 p.1 ne).trans e,n,ne,nf,d⟩
 ·have hfn:X.fn x=true:=by
   rcases hf with z | z
   ·exact z
   ·rw [z] at hk; cases hk
  obtain ⟨c,hc⟩:=I.ok.has x (.inl hk)
  obtain ⟨w',z⟩:=I.cell x c hc
  refine wpAny_storeName_cell I.ok.kind hk hc z (fun h' hc' hs=>?_)
  obtain ⟨oc,hoc,hocd⟩:=id z
  refine h { s with heap:=h' } ⟨I.ok,I.os,I.bare,⟨fun b o e n hb hx=>?_,fun b o e n hb hx=>?_,I.base.free,fun b o e hx=>?_,I.base.tups,I.base.frzs,I.base.tbls⟩,⟨m,hn.sameBut hs (Ne.symm (cne x c hc)),fun j y v' e1 e2 e3=>?_⟩,fun y c' e=>?_,I.free,I.freeC,fun p hp=>?_,tracked ⟨oc,hoc,I.freeC x c hc⟩ hs,by simpa using I.len⟩ ⟨c,hs,.inr hc⟩
  ·exact (hs.2 b (Nat.ne_of_lt (Nat.lt_of_lt_of_le (Heap.lt_size e) (I.ok.cab x c hfn hc)))).trans (I.base.keep b o e n hb hx)
  ·obtain ⟨sl,e1⟩:=I.base.slot b o e n hb hx
   exact ⟨sl,(hs.2 b (Nat.ne_of_lt (Nat.lt_of_lt_of_le (Heap.lt_size e) (I.ok.cab x c hfn hc)))).trans e1⟩
  ·obtain ⟨o',e1⟩:=I.base.there b o e hx
   exact ⟨o',(hs.2 b (Nat.ne_of_lt (Nat.lt_of_lt_of_le (Heap.lt_size e) (I.ok.cab x c hfn hc)))).trans e1⟩
  ·by_cases hj:j=i
   ·subst hj
    rw [hi] at e1; cases e1
    rw [List.getElem?_set_self hiσ] at e2
    cases e2
    exact ⟨u,r,.inr ⟨.inl hk,c,hc,hc'⟩⟩
   ·rw [List.getElem?_set_ne (Ne.symm hj)] at e2
    obtain ⟨u',r',q⟩:=hl j y v' e1 e2 e3
    refine ⟨u',r',?_⟩
    rcases q with q | ⟨k,c',e,z'⟩
    ·exact .inl q
    ·refine .inr ⟨k,c',e,z'.sameBut hs ?_⟩
     rintro rfl
     exact hj (Z6U hN e1 (I.ok.inj _ _ _ e hc▸hi))
  ·by_cases hcc:c'=c
   ·subst hcc; exact ⟨_,hc'⟩
   ·obtain ⟨w2,z2⟩:=I.cell y c' e
    exact ⟨w2,z2.sameBut hs hcc⟩
  ·obtain ⟨e,n,ne,nf,d⟩:=I.pin p hp
   refine ⟨(hs.2 p.1 ?_).trans e,n,ne,nf,d⟩
   intro q
   rw [q,hoc] at e
   have q':oc=p.2:=Option.some.inj e
   exact d w' (by rw [← q']; exact hocd)
theorem Z7L {M:Model} {A:Around} {E:Value→Shared→Prop} {i:Nat} {x:Str} {v:V} {u:Value} {Q:Unit→Shared→Prop} (I:Inv X pins σ H s) (hN:X.N.Nodup) (hi:X.N[i]?=some x) (hx:Loc X.env.scope x) (r:RelV v u)
  (h:∀ s',Inv X pins (σ.set i (some v)) H s'→Q () s') (hf:X.fn x=true∨X.env.scope.names.lookup x=some .local:=by first | exact .inl rfl | exact .inr rfl | assumption):wpAny M A (storeName X.env x u) Q E s:=
 Z4b I hN hi hx r (fun s' I' _=>h s' I') hf
end
abbrev XK:=Value→Option Addr→Hp→Prop
abbrev St:=List (Option V)
abbrev VK:=V→Hp→Prop
abbrev TE:=St→Hp→VK→Prop
abbrev TT:=St→Hp→(Bool→Hp→Prop)→Prop
abbrev TA:=St→Hp→(List V→Hp→Prop)→Prop
structure Ends where
 nx:St→Hp→Prop
 rt:VK
 bk:St→Hp→Prop:=fun _ _=>False
 ct:St→Hp→Prop:=fun _ _=>False
abbrev TS:=Ends→St→Hp→Prop
def EP (X:Cx) (pins:List (Addr×Obj)) (σ:St) (Q:VK) (u:Value) (s':Shared):Prop:=∃ v H',Inv X pins σ H' s'∧RelV v u∧Q v H'
def TP (X:Cx) (pins:List (Addr×Obj)) (σ:St) (Q:Bool→Hp→Prop) (b:Bool) (s':Shared):Prop:=∃ H',Inv X pins σ H' s'∧Q b H'
def AP (X:Cx) (pins:List (Addr×Obj)) (σ:St) (Q:List V→Hp→Prop) (us:List Value) (s':Shared):Prop:=∃ vs H',Inv X pins σ H' s'∧Vals vs us∧Q vs H'
def SP (X:Cx) (pins:List (Addr×Obj)) (D:Ends) (f:Flow) (s':Shared):Prop:=
 match f with
 | .next=>∃ σ' H',Inv X pins σ' H' s'∧D.nx σ' H'
 | .brk=>∃ σ' H',Inv X pins σ' H' s'∧D.bk σ' H'
 | .cont=>∃ σ' H',Inv X pins σ' H' s'∧D.ct σ' H'
 | .ret u=>∃ v σ' H',Inv X pins σ' H' s'∧RelV v u∧D.rt v H'
def PE (X:Cx) (e:Expr) (t:TE):Prop:=
 ∀ (pins:List (Addr×Obj)) (s:Shared) (σ:St) (H:Hp) (Q:VK),Inv X pins σ H s→t σ H Q→wpAny (model X.prog X.w) X.A (eval e X.env) (EP X pins σ Q) X.xe s
def PT (X:Cx) (e:Expr) (t:TT):Prop:=
 ∀ (pins:List (Addr×Obj)) (s:Shared) (σ:St) (H:Hp) (Q:Bool→Hp→Prop),Inv X pins σ H s→t σ H Q→wpAny (model X.prog X.w) X.A (isTrue e X.env (eval e X.env)) (TP X pins σ Q) X.xe s
def PW (X:Cx) (e:Expr) (t:TT):Prop:=
 ∀ (whole:Sem Value) (pins:List (Addr×Obj)) (s:Shared) (σ:St) (H:Hp) (Q:Bool→Hp→Prop),Inv X pins σ H s→t σ H Q→wpAny (model X.prog X.w) X.A (isTrue e X.env whole) (TP X pins σ Q) X.xe s
theorem PW.pt {X:Cx} {e:Expr} {t:TT} (h:PW X e t):PT X e t:=h _
def PA (X:Cx) (es:List Expr) (t:TA):Prop:=
 ∀ (pos:Pos) (pins:List (Addr×Obj)) (s:Shared) (σ:St) (H:Hp) (Q:List V→Hp→Prop),Inv X pins σ H s→t σ H Q→wpAny (model X.prog X.w) X.A (spliced (backTo pos (starEach es X.env))) (AP X pins σ Q) X.xe s
def PS (X:Cx) (st:Stmt) (t:TS):Prop:=
 ∀ (pins:List (Addr×Obj)) (s:Shared) (σ:St) (H:Hp) (D:Ends),Inv X pins σ H s→t D σ H→wpAny (model X.prog X.w) X.A (exec st X.env) (SP X pins D) X.xe s
def PSs (X:Cx) (st:List Stmt) (t:TS):Prop:=
 ∀ (pins:List (Addr×Obj)) (s:Shared) (σ:St) (H:Hp) (D:Ends),Inv X pins σ H s→t D σ H→wpAny (model X.prog X.w) X.A (execs st X.env) (SP X pins D) X.xe s
theorem thn {α:Type} {t:Sem α} {Q Q':α→Shared→Prop} {M:Model} {A:Around} {E:Value→Shared→Prop} {s:Shared} (h:wpAny M A t Q E s) (hQ:∀ a s,Q a s→Q' a s):wpAny M A t Q' E s:=wpAny_mono h hQ fun _ _ x=>x
end L2
namespace L2
open PySem PySem.Spec PyProof.Rows
section
variable {X:Cx}
theorem bin {a b:Expr} {ta tb:TE} (ha:PE X a ta) (hb:PE X b tb) {pins:List (Addr×Obj)} {s:Shared} {σ:St} {H:Hp} {R:V→V→Hp→Prop} (I:Inv X pins σ H s) (h:ta σ H fun x H1=>tb σ H1 fun y H2=>R x y H2)
  {α:Type} {Q:α→Shared→Prop} {f:Value→Value→Sem α}
  (hf:∀ v u s2 x y H2,Inv X pins σ H2 s2→RelV x v→RelV y u→R x y H2→wpAny (model X.prog X.w) X.A (f v u) Q X.xe s2) :
  wpAny (model X.prog X.w) X.A (eval a X.env) (fun v s₁=>wpAny (model X.prog X.w) X.A (eval b X.env) (fun u s₂=>wpAny (model X.prog X.w) X.A (f v u) Q X.xe s₂) X.xe s₁) X.xe s:=by
 refine thn (ha pins s σ H _ I h) fun v s1 ⟨x,H1,I1,r1,q1⟩=>?_
 refine thn (hb pins s1 σ H1 _ I1 q1) fun u s2 ⟨y,H2,I2,r2,q2⟩=>?_
 exact hf v u s2 x y H2 I2 r1 r2 q2
def tVar (i:Nat):TE:=fun σ H Q=>∃ v,σ[i]?=some (some v)∧Q v H
def tC (v:V):TE:=fun _ H Q=>Q v H
theorem J4Y {i:Nat} {x:Str} {pos:Pos} (hN:X.N[i]?=some x) (hv:Vis X.env.scope x) (hd:(x == ("__debug__":Str))=false:=by decide) (hcd:(x == ("__classdict__":Str))=false:=by decide):PE X (.Name x pos) (tVar i):=by
 intro pins s σ H Q I h
 obtain ⟨v,e,h⟩:=h
 obtain ⟨m,hn,hl⟩:=I.loc
 obtain ⟨u,r,l⟩:=hl i x v hN e hv
 have fin:EP X pins σ Q u s:=⟨v,H,I,r,h⟩
 rcases l with ⟨hk,hm⟩ | ⟨hk,c,hc,hcell⟩
 ·exact wpAny_Name (wpAny_loadName_local I.ok.kind hk hn hm fin) hd
 ·rcases hk with hk | hk
  ·exact wpAny_Name (wpAny_loadName_cell I.ok.kind hk hc hcell fin) hd
  ·exact wpAny_Name (wpAny_loadName_free I.ok.kind hk hc hcell fin hcd) hd
theorem Z0f {i j pos}:PE X (.Constant (.int i) j pos) (tC (.int i)):=fun _ _ _ H _ I h=>wpAny_Constant_int ⟨.int i,H,I.tok _,⟨_,rfl⟩,h⟩
theorem J4f {b j pos}:PE X (.Constant (.bool b) j pos) (tC (.bl b)):=fun _ _ _ H _ I h=>Constant_bool ⟨.bl b,H,I,rfl,h⟩
theorem Z2L {j pos}:PE X (.Constant .none j pos) (tC .non):=fun _ _ _ H _ I h=>Constant_none ⟨.non,H,I,rfl,h⟩
theorem Z0p {x j pos}:PE X (.Constant (.str x) j pos) (tC (.str x)):=fun _ _ _ H _ I h=>Calls.Constant_str ⟨.str x,H,I.tok _,⟨_,rfl⟩,h⟩
def Gl (X:Cx) (x:Str):Prop:=X.env.kindOf x=some .globalImplicit
theorem Z6H {E:Value→Shared→Prop} {pins:List (Addr×Obj)} {s:Shared} {σ:St} {H:Hp} {x:Str} {u:Value} {pos:Pos} {Q:Value→Shared→Prop} (I:Inv X pins σ H s) (hg:Gl X x) (hm:X.mg x=some u) (h:Q u s)
  (hd:(x == ("__debug__":Str))=false:=by decide):wpAny (model X.prog X.w) X.A (eval (.Name x pos) X.env) Q E s:=
 Calls.Name_function_global I.ok.kind hg (Calls.loadGlobal_global (by rw [I.ok.glob]; exact I.mod.glob.keeps I.bk) hm h) hd
theorem Z2y {E:Value→Shared→Prop} {pins:List (Addr×Obj)} {s:Shared} {σ:St} {H:Hp} {x:Str} {u:Value} {pos:Pos} {Q:Value→Shared→Prop} (I:Inv X pins σ H s) (hg:Gl X x) (hm:X.mg x=none) (hv:bootBuiltins x=some u) (h:Q u s)
  (hn:x≠"__name__":=by decide) (hd:(x == ("__debug__":Str))=false:=by decide):wpAny (model X.prog X.w) X.A (eval (.Name x pos) X.env) Q E s:=by
 obtain ⟨mb,h1,h2⟩:=I.mod.blt
 exact Calls.Name_function_global I.ok.kind hg (Calls.loadGlobal_builtin (by rw [I.ok.glob]; exact I.mod.glob.keeps I.bk) hm (by rw [I.ok.blt]; exact h1.keeps I.bk) ((h2 x hn).trans hv) h) hd
theorem J3V {x:Str} {v:V} {u:Value} {pos:Pos} (hg:Gl X x) (hm:X.mg x=some u) (r:RelV v u) (hd:(x == ("__debug__":Str))=false:=by decide):PE X (.Name x pos) (tC v):=
 fun _ _ _ H _ I h=>Z6H I hg hm ⟨v,H,I,r,h⟩ hd
theorem J3v {x:Str} {v:V} {u:Value} {pos:Pos} (hg:Gl X x) (hm:X.mg x=none) (hv:bootBuiltins x=some u) (r:RelV v u) (hn:x≠"__name__":=by decide) (hd:(x == ("__debug__":Str))=false:=by decide):PE X (.Name x pos) (tC v):=
 fun _ _ _ H _ I h=>Z2y I hg hm hv ⟨v,H,I,r,h⟩ hn hd
variable {a b:Expr} {ta tb:TE} {pos:Pos}
def PC (X:Cx) (op:CmpOp) (a b:Expr) (t:TE):Prop:=
 ∀ (pins:List (Addr×Obj)) (s:Shared) (σ:St) (H:Hp) (Q:VK),Inv X pins σ H s→t σ H Q →
  wpAny (model X.prog X.w) X.A (eval a X.env) (fun v s₁=>wpAny (model X.prog X.w) X.A (eval b X.env) (fun u s₂=>wpAny (model X.prog X.w) X.A (compareOp op v u) (EP X pins σ Q) X.xe s₂) X.xe s₁) X.xe s
theorem J1Z (b:Expr) {op:CmpOp} (h:op≠.In) (h2:op≠.NotIn):behindInMarks op b=false:=by
 have e1:(op == CmpOp.In)=false:=by cases op <;> first | rfl | exact absurd rfl h
 have e2:(op == CmpOp.NotIn)=false:=by cases op <;> first | rfl | exact absurd rfl h2
 cases b <;> simp [behindInMarks,e1,e2]
def tB (t:TE):TT:=fun σ H Q=>t σ H fun x H1=>∃ c,x=.bl c∧Q c H1
theorem J8L {op:CmpOp} {t:TE} (h:PC X op a b t) (h1:behindInMarks op b=false:=by first | exact J1Z _ (by decide) (by decide) | rfl):PT X (.Compare a [op] [b] pos) (tB t):=by
 intro pins s σ H Q I hw
 refine wpAny_isTrue_Compare1 (thn (h pins s σ H _ I hw) fun v s1 h1=>thn h1 fun u s2 h2=>thn h2 fun c s3 ⟨x,H1,I1,r1,q1⟩=>?_) h1
 obtain ⟨d,rfl,q⟩:=q1
 cases r1
 exact wpAny_truthy_bool ⟨H1,I1,q⟩
theorem Z3s {e:Expr} {t:TE} (h:PE X e t) (he:∀ whole,isTrue e X.env whole=(do let v ← whole; standAt e.pos; holding [v] (truthy v)):=by intro _; rfl):PT X e (tB t):=by
 intro pins s σ H Q I hw
 refine isTrue_plain (thn (h pins s σ H _ I hw) fun v s1 ⟨x,H1,I1,r1,q1⟩=>?_) (he _)
 obtain ⟨d,rfl,q⟩:=q1
 cases r1
 exact wpAny_truthy_bool ⟨H1,I1,q⟩
variable {tA tB':TT} {rest:List Expr}
def tAnd (t u:TT):TT:=fun σ H Q=>t σ H fun c H1=>if c=true then u σ H1 Q else Q false H1
def tOr (t u:TT):TT:=fun σ H Q=>t σ H fun c H1=>if c=true then Q true H1 else u σ H1 Q
def tNot (t:TT):TT:=fun σ H Q=>t σ H fun c H1=>Q (!c) H1
theorem J4A (ha:PT X a tA):PW X (.BoolOp .And [a] pos) tA:=by
 intro wh pins s σ H Q I h
 refine isTrue_and (thn (ha pins s σ H Q I h) fun c s1 e=>?_)
 cases c with
 | true=>exact isTrue_and_nil e
 | false=>exact e
theorem J2B (ha:PT X a tA):PW X (.BoolOp .Or [a] pos) tA:=by
 intro wh pins s σ H Q I h
 refine isTrue_or (thn (ha pins s σ H Q I h) fun c s1 e=>?_)
 cases c with
 | false=>exact isTrue_or_nil e
 | true=>exact e
theorem J5M (ha:PT X a tA) (hb:PW X (.BoolOp .And (b::rest) pos) tB'):PW X (.BoolOp .And (a::b::rest) pos) (tAnd tA tB'):=by
 intro wh pins s σ H Q I h
 refine isTrue_and (thn (ha pins s σ H _ I h) fun c s1 ⟨H1,I1,q1⟩=>?_)
 cases c with
 | true=>exact hb wh pins s1 σ H1 Q I1 q1
 | false=>exact ⟨H1,I1,q1⟩
theorem J5n (ha:PT X a tA) (hb:PW X (.BoolOp .Or (b::rest) pos) tB'):PW X (.BoolOp .Or (a::b::rest) pos) (tOr tA tB'):=by
 intro wh pins s σ H Q I h
 refine isTrue_or (thn (ha pins s σ H _ I h) fun c s1 ⟨H1,I1,q1⟩=>?_)
 cases c with
 | true=>exact ⟨H1,I1,q1⟩
 | false=>exact hb wh pins s1 σ H1 Q I1 q1
theorem Z5R (ha:PT X a tA):PT X (.UnaryOp .Not a pos) (tNot tA):=by
 intro pins s σ H Q I h
 exact isTrue_not (ha pins s σ H (fun c H1=>Q (!c) H1) I h)
def J6o (ta tb:TE):TE:=fun σ H Q=>ta σ H fun x H1=>∃ c,x=.bl c∧if c=true then tb σ H1 Q else Q (.bl false) H1
def tOrV (ta tb:TE):TE:=fun σ H Q=>ta σ H fun x H1=>∃ c,x=.bl c∧if c=true then Q (.bl true) H1 else tb σ H1 Q
def J8c (ta:TE):TE:=fun σ H Q=>ta σ H fun x H1=>∃ c,x=.bl c∧Q (.bl (!c)) H1
theorem J2F {op} {t:TE} (h:PE X a t):PE X (.BoolOp op [a] pos) t:=fun pins s σ H Q I hw=>BoolOp_one (h pins s σ H Q I hw)
theorem J2z (ha:PE X a ta) (hb:PE X (.BoolOp .And (b::rest) pos) tb):PE X (.BoolOp .And (a::b::rest) pos) (J6o ta tb):=by
 intro pins s σ H Q I h
 refine BoolOp_and (thn (ha pins s σ H _ I h) fun v s1 ⟨x,H1,I1,r1,q1⟩=>?_)
 obtain ⟨c,rfl,q1⟩:=q1
 cases r1
 refine wpAny_truthy_bool ?_
 cases c with
 | true=>exact hb pins s1 σ H1 Q I1 q1
 | false=>exact ⟨.bl false,H1,I1,rfl,q1⟩
theorem J8w (ha:PE X a ta) (hb:PE X (.BoolOp .Or (b::rest) pos) tb):PE X (.BoolOp .Or (a::b::rest) pos) (tOrV ta tb):=by
 intro pins s σ H Q I h
 refine BoolOp_or (thn (ha pins s σ H _ I h) fun v s1 ⟨x,H1,I1,r1,q1⟩=>?_)
 obtain ⟨c,rfl,q1⟩:=q1
 cases r1
 refine wpAny_truthy_bool ?_
 cases c with
 | false=>exact hb pins s1 σ H1 Q I1 q1
 | true=>exact ⟨.bl true,H1,I1,rfl,q1⟩
def tIf (t:TT) (ta tb:TE):TE:=fun σ H Q=>t σ H fun c H1=>if c=true then ta σ H1 Q else tb σ H1 Q
theorem Z7x {c:Expr} (hc:PT X c tA) (ha:PE X a ta) (hb:PE X b tb):PE X (.IfExp c a b pos) (tIf tA ta tb):=by
 intro pins s σ H Q I h
 refine wpAny_IfExp (thn (hc pins s σ H _ I h) fun d s1 ⟨H1,I1,q1⟩=>?_)
 cases d with
 | true=>exact ha pins s1 σ H1 Q I1 q1
 | false=>exact hb pins s1 σ H1 Q I1 q1
end
end L2
namespace L2
open PySem PySem.Spec PyProof.Rows
def SqL (K:W.Frag) (H:Hp) (a:Addr) (xs:List V):Prop:=
 Rd H a (.lst xs) ∨
  ∃ (o:Obj) (its:Array Value) (n:Nat),K.lookup a=some o∧o.cls=.type "list"∧o.dict=none∧o.data=.seq its n∧its.size≤sizeLine∧Vals xs its.toList
def SqT (K:W.Frag) (H:Hp) (a:Addr) (xs:List V):Prop:=
 Rd H a (.tup xs) ∨
  ∃ (o:Obj) (its:Array Value) (n:Nat),K.lookup a=some o∧(o.cls=.type "tuple"∧o.dict=none)∧o.data=.seq its n∧its.size≤sizeLine∧Vals xs its.toList
def absV:Value→Option V
 | .none=>some .non
 | .bool b=>some (.bl b)
 | .int i _=>some (.int i)
 | .str x _=>some (.str x)
 | .bytes b _=>some (.byt b)
 | .float b _=>some (.flt b)
 | .ref a=>some (.ref a)
 | .type n=>some (.ty n)
 | _=>none
theorem RelV.abs {x:V} {u:Value} (r:RelV x u):absV u=some x:=by
 cases x with
 | non=>cases r; rfl
 | bl _=>cases r; rfl
 | int _=>obtain ⟨t,rfl⟩:=r; rfl
 | str _=>obtain ⟨t,rfl⟩:=r; rfl
 | byt _=>obtain ⟨t,rfl⟩:=r; rfl
 | flt _=>obtain ⟨t,rfl⟩:=r; rfl
 | ref _=>cases r; rfl
 | ty _=>cases r; rfl
theorem RelV.inj {x y:V} {u:Value} (r:RelV x u) (q:RelV y u):x=y:=Option.some.inj (r.abs.symm.trans q.abs)
theorem Vals.inj:∀ {xs ys:List V} {us:List Value},Vals xs us→Vals ys us→xs=ys
 | _,_,_,.nil,.nil=>rfl
 | _,_,_,.cons r t,.cons r' t'=>by rw [r.inj r',Vals.inj t t']
section
variable {X:Cx} {pins:List (Addr×Obj)} {σ:St} {H:Hp} {s:Shared} {a:Addr} {xs ys:List V}
theorem SqL.of {K:W.Frag} (h:H a=some (.lst xs)):SqL K H a xs:=.inl (.inl h)
theorem SqT.of {K:W.Frag} (h:H a=some (.tup xs)):SqT K H a xs:=.inl (.inl h)
theorem Inv.list (I:Inv X pins σ H s) (h:SqL X.K H a xs):∃ its:List Value,Vals xs its∧PlainL s.heap a its.toArray∧xs.length≤sizeLine:=by
 rcases h with h | ⟨o,its,n,hk,hc,hd,hs,hz,r⟩
 ·obtain ⟨z,its,n,r,e⟩:=h.ok I.hok
  exact ⟨its,r,⟨_,n,e,rfl,rfl,rfl⟩,z⟩
 ·refine ⟨its.toList,r,⟨o,n,I.kIn a o hk,hc,hd,by simpa using hs⟩,?_⟩
  have e:=r.length
  simp only [Array.length_toList] at e
  omega
theorem Inv.tuple (I:Inv X pins σ H s) (h:SqT X.K H a xs):∃ its:List Value,Vals xs its∧IsTup s.heap a its.toArray∧xs.length≤sizeLine:=by
 rcases h with h | ⟨o,its,n,hk,hc,hs,hz,r⟩
 ·obtain ⟨z,its,r,p⟩:=h.ok I.hok
  exact ⟨its,r,p,z.1⟩
 ·refine ⟨its.toList,r,⟨o,I.kIn a o hk,hc.1,n,by simpa using hs⟩,?_⟩
  have e:=r.length
  simp only [Array.length_toList] at e
  omega
theorem Inv.list_inj (I:Inv X pins σ H s) (h:SqL X.K H a xs) (h':SqL X.K H a ys):xs=ys:=by
 obtain ⟨its,r,⟨o,n,e,_,_,d⟩,_⟩:=I.list h
 obtain ⟨its',r',⟨o',n',e',_,_,d'⟩,_⟩:=I.list h'
 rw [e] at e'; cases e'
 rw [d] at d'
 injection d' with d1 _
 have:its=its':=by simpa using congrArg Array.toList d1
 subst this
 exact r.inj r'
theorem Inv.tuple_inj (I:Inv X pins σ H s) (h:SqT X.K H a xs) (h':SqT X.K H a ys):xs=ys:=by
 obtain ⟨its,r,⟨o,e,_,n,d⟩,_⟩:=I.tuple h
 obtain ⟨its',r',⟨o',e',_,n',d'⟩,_⟩:=I.tuple h'
 rw [e] at e'; cases e'
 rw [d] at d'
 injection d' with d1 _
 have:its=its':=by simpa using congrArg Array.toList d1
 subst this
 exact r.inj r'
end
abbrev Cx.wish (X:Cx) (E:Value→Shared→Prop):Cx:={ X with xe:=E }
abbrev Cx.nox (X:Cx):Cx:=X.wish fun _ _=>False
theorem Cx.Ok.wish {X:Cx} (ok:X.Ok) (E:Value→Shared→Prop):(X.wish E).Ok:=
 ⟨ok.mod,ok.kind,ok.glob,ok.blt,ok.above,ok.inj,ok.has,ok.cab,ok.hd,ok.frames,ok.stk,ok.exf,ok.bs,ok.bsz,ok.noex,ok.exfs,ok.funs,ok.frf⟩
theorem Cx.Ok.unwish {X:Cx} {E:Value→Shared→Prop} (ok:(X.wish E).Ok):X.Ok:=
 ⟨ok.mod,ok.kind,ok.glob,ok.blt,ok.above,ok.inj,ok.has,ok.cab,ok.hd,ok.frames,ok.stk,ok.exf,ok.bs,ok.bsz,ok.noex,ok.exfs,ok.funs,ok.frf⟩
section
variable {X:Cx} {pins:List (Addr×Obj)} {σ:St} {H:Hp} {s:Shared} {E:Value→Shared→Prop}
theorem Inv.wish (I:Inv X pins σ H s) (E:Value→Shared→Prop):Inv (X.wish E) pins σ H s:=⟨I.ok.wish E,I.os,I.bare,I.base,I.loc,I.cell,I.free,I.freeC,I.pin,I.hok,I.len⟩
theorem Inv.unwish (I:Inv (X.wish E) pins σ H s):Inv X pins σ H s:=⟨I.ok.unwish,I.os,I.bare,I.base,I.loc,I.cell,I.free,I.freeC,I.pin,I.hok,I.len⟩
theorem SP.unwish {D:Ends} {f:Flow} {s':Shared} (h:SP (X.wish E) pins D f s'):SP X pins D f s':=by
 cases f with
 | next=>obtain ⟨σ',H',I,q⟩:=h; exact ⟨σ',H',I.unwish,q⟩
 | brk=>obtain ⟨σ',H',I,q⟩:=h; exact ⟨σ',H',I.unwish,q⟩
 | cont=>obtain ⟨σ',H',I,q⟩:=h; exact ⟨σ',H',I.unwish,q⟩
 | ret u=>obtain ⟨v,σ',H',I,r,q⟩:=h; exact ⟨v,σ',H',I.unwish,r,q⟩
theorem PSs.nox {st:List Stmt} {t:TS} (h:PSs X.nox st t):PSs X st t:=fun pins s σ H D I hw=>
 wpAny_mono (h pins s σ H D (I.wish _) hw) (fun _ _ q=>q.unwish) fun _ _ z=>False.elim z
end
section
variable {X:Cx} {st:Stmt} {rest:List Stmt} {t u:TS} {e:Expr} {te:TE} {pos:Pos}
def J5F:TS:=fun D σ H=>D.nx σ H
def tSeq (t u:TS):TS:=fun D σ H=>t { D with nx:=u D } σ H
theorem Z0D:PSs X [] J5F:=fun _ _ σ H _ I h=>wpAny_execs_nil ⟨σ,H,I,h⟩
theorem Z0b (h1:PS X st t) (h2:PSs X rest u):PSs X (st::rest) (tSeq t u):=by
 intro pins s σ H D I h
 refine wpAny_execs_cons (thn (h1 pins s σ H { D with nx:=u D } I h) fun f s1 q=>?_)
 cases f with
 | next=>
  obtain ⟨σ',H',I',q⟩:=q
  exact h2 pins s1 σ' H' D I' q
 | ret v=>exact q
 | brk=>exact q
 | cont=>exact q
theorem Z0g (h1:PS X st t):PSs X [st] t:=by
 intro pins s σ H D I h
 refine wpAny_execs_cons (thn (h1 pins s σ H D I h) fun f s1 q=>?_)
 cases f with
 | next=>exact wpAny_execs_nil q
 | ret v=>exact q
 | brk=>exact q
 | cont=>exact q
def J6g:TS:=fun D σ H=>D.bk σ H
def J8o:TS:=fun D σ H=>D.ct σ H
theorem Inv.quiet {pins:List (Addr×Obj)} {σ:St} {H:Hp} {s:Shared} (I:Inv X pins σ H s):interactive X.env=false:=by simp [interactive,I.ok.kind]
def J5t (te:TE):TS:=fun D σ H=>te σ H fun _ H1=>D.nx σ H1
theorem Z2r (he:PE X e te) (hs:swapsWith e none pos.line X.env=pure false:=by rfl):PS X (.Expr e pos) (J5t te):=by
 intro pins s σ H D I h
 exact wpAny_Expr_any (thn (he pins s σ H _ I h) fun v s1 ⟨x,H1,I1,r1,q1⟩=>⟨σ,H1,I1,q1⟩) I.quiet hs
def tRet (te:TE):TS:=fun D σ H=>te σ H D.rt
theorem Z0r (he:PE X e te):PS X (.Return (some e) pos) (tRet te):=by
 intro pins s σ H D I h
 exact wpAny_Return_some (thn (he pins s σ H _ I h) fun v s1 ⟨x,H1,I1,r1,q1⟩=>⟨x,σ,H1,I1,r1,q1⟩)
def J8m:TS:=fun D _ H=>D.rt .non H
def tIfS (c:TT) (t u:TS):TS:=fun D σ H=>c σ H fun b H1=>if b=true then t D σ H1 else u D σ H1
theorem Z1H {c:Expr} {a b:List Stmt} {tc:TT} (hc:PT X c tc) (ha:PSs X a t) (hb:PSs X b u):PS X (.If c a b pos) (tIfS tc t u):=by
 intro pins s σ H D I h
 refine wpAny_If (thn (hc pins s σ H _ I h) fun d s1 ⟨H1,I1,q1⟩=>?_)
 cases d with
 | true=>exact ha pins s1 σ H1 D I1 q1
 | false=>exact hb pins s1 σ H1 D I1 q1
def J5E:TS:=fun _ _ _=>False
end
abbrev TG:=V→St→Hp→(St→Hp→Prop)→Prop
abbrev TGs:=List V→St→Hp→(St→Hp→Prop)→Prop
def PG (X:Cx) (target:Expr) (t:TG):Prop:=
 ∀ (pins:List (Addr×Obj)) (s:Shared) (σ:St) (H:Hp) (v:V) (u:Value) (Q:St→Hp→Prop),Inv X pins σ H s→RelV v u→t v σ H Q →
  wpAny (model X.prog X.w) X.A (assign target X.env u) (fun _ s'=>∃ σ' H',Inv X pins σ' H' s'∧Q σ' H') X.xe s
def PGs (X:Cx) (ts:List Expr) (t:TGs):Prop:=
 ∀ (pins:List (Addr×Obj)) (s:Shared) (σ:St) (H:Hp) (vs:List V) (us:List Value) (Q:St→Hp→Prop),Inv X pins σ H s→Vals vs us→t vs σ H Q →
  wpAny (model X.prog X.w) X.A (assignInOrder ((assignEach ts X.env).map (·.2)) us) (fun _ s'=>∃ σ' H',Inv X pins σ' H' s'∧Q σ' H') X.xe s
abbrev TSet:=V→V→V→Hp→(Hp→Prop)→Prop
def PSet (X:Cx) (t:TSet):Prop:=
 ∀ (pins:List (Addr×Obj)) (s:Shared) (σ:St) (H:Hp) (o i v:V) (ov iv u:Value) (Q:Hp→Prop),Inv X pins σ H s→RelV o ov→RelV i iv→RelV v u→t o i v H Q →
  wpAny (model X.prog X.w) X.A (setItem ov iv u) (fun _ s'=>∃ H',Inv X pins σ H' s'∧Q H') X.xe s
abbrev TIp:=V→V→Hp→VK→Prop
section
variable {X:Cx} {pos:Pos}
def Z3b (i:Nat):TG:=fun v σ H Q=>Q (σ.set i (some v)) H
theorem Z0l {i:Nat} {x:Str} (hN:X.N.Nodup) (hi:X.N[i]?=some x) (hx:Loc X.env.scope x) (hf:X.fn x=true∨X.env.scope.names.lookup x=some .local:=by first | exact .inl rfl | exact .inr rfl | assumption):PG X (.Name x pos) (Z3b i):=by
 intro pins s σ H v u Q I r h
 exact wpAny_assign_Name (Z7L I hN hi hx r (fun s' I'=>⟨_,H,I',h⟩) hf)
def gNil:TGs:=fun vs σ H Q=>vs=[]∧Q σ H
def J4S (t:TG) (u:TGs):TGs:=fun vs σ H Q=>∃ v r,vs=v::r∧t v σ H fun σ' H'=>u r σ' H' Q
theorem Z3l:PGs X [] gNil:=by
 intro pins s σ H vs us Q I r h
 obtain ⟨e,h⟩:=h
 subst e
 cases r
 exact assignInOrder_nil ⟨σ,H,I,h⟩
theorem J1i {e:Expr} {es:List Expr} {t:TG} {u:TGs} (h1:PG X e t) (h2:PGs X es u)
  (hs:(assignEach (e::es) X.env).map (·.2)=assign e X.env::(assignEach es X.env).map (·.2):=by rfl):PGs X (e::es) (J4S t u):=by
 intro pins s σ H vs us Q I r h
 obtain ⟨v,vr,e1,h⟩:=h
 subst e1
 cases r with
 | cons r rr=>
  rw [hs]
  refine assignInOrder_cons (thn (h1 pins s σ H _ _ _ I r h) fun _ s1 ⟨σ1,H1,I1,q1⟩=>?_)
  exact h2 pins s1 σ1 H1 _ _ Q I1 rr q1
def gTup (K:W.Frag) (n:Nat) (t:TGs):TG:=fun v σ H Q=>∃ a xs,v=.ref a∧SqT K H a xs∧xs.length=n∧t xs σ H Q
theorem J4W {es:List Expr} {k:Nat} {t:TGs} {n:Nat} (hc:X.calm=true) (h:PGs X es t)
  (hn:(assignEach es X.env).length=n:=by rfl) (hst:(assignEach es X.env).findIdx? (·.1)=none:=by rfl):PG X (.Tuple es k pos) (gTup X.K n t):=by
 intro pins s σ H v u Q I r hw
 obtain ⟨a,xs,e1,hq,hl,hw⟩:=hw
 subst e1
 cases r
 obtain ⟨its,rv,ht,hz⟩:=I.tuple hq
 refine assign_Tuple_tuple (I.ok.hd hc) ht (by simp [hn,← hl,rv.length]) hst fun h' hx=>?_
 have I1:Inv X pins σ H { s with heap:=h' }:=I.kept (t':=s.toks) fun b o e=>hx b o (Nat.ne_of_lt (Heap.lt_size e)) e
 exact h pins _ σ H xs _ Q I1 (by simpa using rv) hw
def gSub (to ti:TE) (t:TSet):TG:=fun v σ H Q=>to σ H fun o H1=>ti σ H1 fun i H2=>t o i v H2 fun H3=>Q σ H3
theorem Z4D {o i:Expr} {to ti:TE} {t:TSet} (ho:PE X o to) (hi:PE X i ti) (hs:PSet X t)
  (ha:∀ v,assign (.Subscript o i pos) X.env v=(do
   let ov ← holding [v] (eval o X.env)
   let iv ← holding [v,ov] (eval i X.env)
   standAt pos
   holding [v,ov,iv] (setItem ov iv v)
   release [v,ov,iv] []):=by intro _; rfl):PG X (.Subscript o i pos) (gSub to ti t):=by
 intro pins s σ H v u Q I r h
 rw [ha]
 refine wpAny_bind (wpAny_holding (thn (ho pins s σ H _ I h) fun ov s1 ⟨x,H1,I1,r1,q1⟩=>?_))
 refine wpAny_bind (wpAny_holding (thn (hi pins s1 σ H1 _ I1 q1) fun iv s2 ⟨y,H2,I2,r2,q2⟩=>?_))
 refine wpAny_bind (wpAny_standAt (wpAny_bind (wpAny_holding (thn (hs pins s2 σ H2 x y v ov iv u _ I2 r1 r2 r q2) fun _ s3 ⟨H3,I3,q3⟩=>?_))))
 exact wpAny_release ⟨σ,H3,I3,q3⟩
def tAsg (te:TE) (g:TG):TS:=fun D σ H=>te σ H fun x H1=>g x σ H1 D.nx
theorem Z2M {tg e:Expr} {te:TE} {g:TG} (he:PE X e te) (hg:PG X tg g) (hs:swapsWithSole [tg] e pos.line X.env=pure false:=by rfl) (hw:swappedStores [tg] e X.env=pure none:=by rfl)
  (h1:(assignEach [tg] X.env).map (·.2)=[assign tg X.env]:=by rfl):PS X (.Assign [tg] e pos) (tAsg te g):=by
 intro pins s σ H D I h
 refine wpAny_Assign_stores (thn (he pins s σ H _ I h) fun v s1 ⟨x,H1,I1,r1,q1⟩=>?_) hs hw
 rw [h1]
 exact thn (hg pins s1 σ H1 x v _ I1 r1 q1) fun _ s2 q=>q
theorem Z0q {i:Nat} {x:Str} {e:Expr} {te:TE} {pos':Pos} (hN:X.N.Nodup) (hi:X.N[i]?=some x) (hx:Loc X.env.scope x) (he:PE X e te) (hs:swapsWith e (some (.Name x pos')) pos.line X.env=pure false:=by rfl) (hf:X.fn x=true∨X.env.scope.names.lookup x=some .local:=by first | exact .inl rfl | exact .inr rfl | assumption) :
  PS X (.Assign [.Name x pos'] e pos) (tAsg te (Z3b i)):=by
 intro pins s σ H D I h
 refine wpAny_Assign_Name (thn (he pins s σ H _ I h) fun v s1 ⟨y,H1,I1,r1,q1⟩=>?_) hs
 exact Z7L I1 hN hi hx r1 (fun s2 I2=>⟨_,H1,I2,q1⟩) hf
def tPar (i j:Nat) (ta:TA):TS:=fun D σ H=>ta σ H fun vs H1=>∃ v w,vs=[v,w]∧D.nx ((σ.set i (some v)).set j (some w)) H1
def tAug (i:Nat) (te:TE) (ti:TIp):TS:=fun D σ H=>∃ x,σ[i]?=some (some x)∧te σ H fun y H1=>ti x y H1 fun z H2=>D.nx (σ.set i (some z)) H2
def J7n (to ti te:TE) (tget:V→V→Hp→VK→Prop) (tip:TIp) (tset:TSet):TS:=fun D σ H=>to σ H fun o H1=>ti σ H1 fun i H2=>tget o i H2 fun x H3=>te σ H3 fun y H4=>tip x y H4 fun z H5=>tset o i z H5 fun H6=>D.nx σ H6
def ipI (f:Int→Int→Int):TIp:=fun x y H Q=>∃ i j,x=.int i∧y=.int j∧Q (.int (f i j)) H
end
section
variable {X:Cx} {pos:Pos}
def J2I (c:TT) (tb:TS):TS:=fun D σ H=>∃ W:Nat→St→Hp→Prop,(∃ m,W m σ H)∧∀ m σ H,W m σ H →
 c σ H fun b H1=>if b=true then ∃ N:St→Hp→Prop,(∀ σ' H',N σ' H'→∃ m',m' < m∧W m' σ' H')∧tb { D with nx:=N,ct:=N,bk:=D.nx } σ H1 else D.nx σ H1
theorem Z5l {c:Expr} {body:List Stmt} {tc:TT} {tb:TS} (hp:PassesOwn (model X.prog X.w) X.A X.env X.xe) (hc:PT X c tc) (hb:PSs X body tb):PS X (.While c body [] pos) (J2I tc tb):=by
 intro pins s σ H D I h
 obtain ⟨W,⟨m0,w0⟩,turn⟩:=h
 refine wpAny_While (codeAny_whileLoop (fun n s'=>∃ σ' H',Inv X pins σ' H' s'∧W n σ' H') ?_ m0 ⟨σ,H,I,w0⟩)
 rintro n s1 ⟨σ1,H1,I1,w1⟩
 refine wpAny_passesOwn hp (thn (hc pins s1 σ1 H1 _ I1 (turn n σ1 H1 w1)) fun b s2 ⟨H2,I2,q2⟩=>?_)
 cases b with
 | true=>
  obtain ⟨N,hN,q2⟩:=q2
  rw [if_pos rfl]
  refine wpAny_passesOwn hp (thn (hb pins s2 σ1 H2 _ I2 q2) fun f s3 q3=>?_)
  cases f with
  | next=>
   obtain ⟨σ3,H3,I3,n3⟩:=q3
   obtain ⟨m',hm,w3⟩:=hN σ3 H3 n3
   exact ⟨m',hm,σ3,H3,I3,w3⟩
  | cont=>
   obtain ⟨σ3,H3,I3,n3⟩:=q3
   obtain ⟨m',hm,w3⟩:=hN σ3 H3 n3
   exact ⟨m',hm,σ3,H3,I3,w3⟩
  | brk=>exact q3
  | ret v=>exact q3
 | false=>
  rw [if_neg Bool.false_ne_true]
  exact wpAny_execs_nil ⟨σ1,H2,I2,q2⟩
end
structure It where
 go:Nat→Hp→Prop
 yld:Nat→Hp→V→Hp→Prop
 stop:Nat→Hp→Prop
def FpOk (X:Cx) (pins:List (Addr×Obj)) (H:Hp) (b:Addr):Prop:=
 H b=none∧b≠X.env.locals∧b∉X.fs∧(b∈X.ex∨X.s₀.heap.objs.size≤b)∧(∀ x c,X.env.cells.lookup x=some c→c≠b)∧∀ p∈X.pn++pins,p.1≠b
theorem Inv.fpOk {X:Cx} {pins:List (Addr×Obj)} {σ:St} {H H':Hp} {s:Shared} {b:Addr} (I:Inv X pins σ H s) (hb:s.heap.objs.size≤b) (hn:H' b=none):FpOk X pins H' b:=by
 refine ⟨hn,Nat.ne_of_gt (Nat.lt_of_lt_of_le I.lt hb),I.nofs hb,.inr (Nat.le_trans I.sz hb),fun x c e z=>?_,fun p hp z=>?_⟩
 ·obtain ⟨v,q⟩:=I.cell x c e
  exact absurd (Nat.lt_of_lt_of_le q.lt (by rw [z]; exact hb)) (Nat.lt_irrefl _)
 ·exact absurd (Nat.lt_of_lt_of_le (Heap.lt_size (I.pin p hp).1) (by rw [z]; exact hb)) (Nat.lt_irrefl _)
structure Turn (P:Program) (w:World) (K:W.Frag) (tg:Expr) (J:It) (fp:List Addr) (it:Addr) (tn:Nat→Heap→Prop):Prop where
 mem:it∈fp
 obj:∀ i h,tn i h→∀ b∈fp,∃ o,h.get? b=some o∧∀ v,o.data≠.cell v
 keep:∀ i h h',tn i h→(∀ b∈fp,∀ o,h.get? b=some o→h'.get? b=some o)→tn i h'
 item:∀ (X:Cx),X.prog=P→X.w=w→X.K=K→X.calm=true→∀ (i:Nat) (pins:List (Addr×Obj)) (s:Shared) (σ:St) (H:Hp) (E:Value→Shared→Prop),Inv X pins σ H s→(∀ b∈fp,FpOk X pins H b)→tn i s.heap→J.go i H →
  wpAny (model P w) X.A (pyNext (.ref it)) (fun r s1=>∃ u,r=some u ∧
   wpAny (model P w) X.A (letOwnedTupleGo tg (.ref it) u) (fun _ s2=>∃ x H',Inv X pins σ H' s2∧RelV x u∧J.yld i H x H'∧tn (i+1) s2.heap∧∀ b∈fp,H' b=none) E s1) E s
 done:∀ (X:Cx),X.prog=P→X.w=w→X.K=K→X.calm=true→∀ (i:Nat) (pins:List (Addr×Obj)) (s:Shared) (σ:St) (H:Hp) (E:Value→Shared→Prop),Inv X pins σ H s→(∀ b∈fp,FpOk X pins H b)→tn i s.heap→J.stop i H →
  wpAny (model P w) X.A (pyNext (.ref it)) (fun r s1=>r=none∧Inv X pins σ H s1) E s
 self:∀ (A:Around) (i:Nat) (s:Shared) (Q:Value→Shared→Prop) (E:Value→Shared→Prop),tn i s.heap→Q (.ref it) s→wpAny (model P w) A (pyIter (.ref it)) Q E s
abbrev TI:=St→Hp→(It→Hp→Prop)→Prop
def PIE (X:Cx) (pins:List (Addr×Obj)) (σ:St) (tg:Expr) (R:It→Hp→Prop) (itv:Value) (s2:Shared):Prop:=
 ∃ (it:Addr) (fp:List Addr) (tn:Nat→Heap→Prop) (J:It) (H':Hp),itv=.ref it∧Inv X pins σ H' s2∧Turn X.prog X.w X.K tg J fp it tn∧tn 0 s2.heap∧(∀ b∈fp,FpOk X pins H' b)∧R J H'
def PI (X:Cx) (tg iter:Expr) (wi:TI):Prop:=
 ∀ (pins:List (Addr×Obj)) (s:Shared) (σ:St) (H:Hp) (R:It→Hp→Prop),Inv X pins σ H s→wi σ H R →
  wpAny (model X.prog X.w) X.A (eval iter X.env) (fun v s1=>wpAny (model X.prog X.w) X.A (pyIter v) (PIE X pins σ tg R) X.xe s1) X.xe s
theorem J0S {M:Model} {A:Around} {E:Value→Shared→Prop} {s:Shared} {tg:Expr} {it:Addr} {u:Value} {o:Obj} {n:String} {vs:Array Value} {Q:Unit→Shared→Prop} (ho:s.heap.get? it=some o) (hc:o.cls=.type n) (hd:o.data=.fields vs)
    (hn:["enumerate","zip","dict_itemiterator","dict_reverseitemiterator","odict_iterator","itertools.zip_longest","itertools.pairwise"].contains n=false) (hQ:Q () s):wpAny M A (letOwnedTupleGo tg (.ref it) u) Q E s:=by
  unfold letOwnedTupleGo
  cases tg <;> first
    | exact wpAny_pure hQ
    | (cases u <;> first
        | exact wpAny_pure hQ
        | (refine wpAny_bind (wpAny_load ho ?_)
           rw [hc,hd]
           show wpAny M A (if (["enumerate","zip","dict_itemiterator","dict_reverseitemiterator","odict_iterator","itertools.zip_longest","itertools.pairwise"].contains n&&vs[0]? == some (rawInt _))=true then _ else _) Q E s
           rw [if_neg (by intro h; rw [hn,Bool.false_and] at h; cases h)]
           exact wpAny_pure hQ))
def Itl (K:W.Frag) (a:Addr):It:=
 ⟨fun i H=>∃ xs x,SqL K H a xs∧xs[i]?=some x,fun i H x H'=>H'=H∧∀ xs,SqL K H a xs→xs[i]?=some x,fun i H=>∃ xs,SqL K H a xs∧xs.length≤i⟩
def Itt (K:W.Frag) (a:Addr):It:=
 ⟨fun i H=>∃ xs x,SqT K H a xs∧xs[i]?=some x,fun i H x H'=>H'=H∧∀ xs,SqT K H a xs→xs[i]?=some x,fun i H=>∃ xs,SqT K H a xs∧xs.length≤i⟩
def Itr (lo:Int) (n:Nat):It:=⟨fun i _=>i < n,fun i H x H'=>H'=H∧x=.int (lo+i),fun i _=>n≤i⟩
theorem J0j {P:Program} {w:World} {K:W.Frag} {tg:Expr} (a it:Addr):Turn P w K tg (Itl K a) [it] it (fun i h=>h.IsListIter it a i) where
 mem:=by simp
 obj:=fun i h st b hb=>by
  have e:b=it:=by simpa using hb
  subst e
  obtain ⟨o,e,c,d⟩:=st
  exact ⟨o,e,fun v z=>by rw [d] at z; cases z⟩
 keep:=fun i h h' st k=>st.at fun o e=>k it (by simp) o e
 item:=by
  intro X hP hw hK hc i pins s σ H E I hf st hg
  subst hP hw hK
  obtain ⟨xs,x,hq,hx⟩:=hg
  obtain ⟨its,rv,p,hz⟩:=I.list hq
  obtain ⟨u,hu,ru⟩:=rv.get hx
  obtain ⟨f0,f1,f2,f3,f4,f5⟩:=hf it (by simp)
  refine wpAny_pyNext_list_item st p.isList (x:=u) (by simpa using hu) fun h' st' sb=>?_
  have I1:Inv X pins σ H { s with heap:=h' }:=I.turned (t':=s.toks) (fun b o hb e=>(sb.2 b hb).trans e) f0 f1 f3 f4 f5
  obtain ⟨o,e,c,d⟩:=id st'
  exact ⟨u,rfl,J0S (s:={ s with heap:=h' }) e c d (by decide) ⟨x,H,I1,ru,⟨rfl,fun ys hy=>by rw [I.list_inj hy hq]; exact hx⟩,st',fun b hb=>(hf b hb).1⟩⟩
 done:=by
  intro X hP hw hK hc i pins s σ H E I hf st hg
  subst hP hw hK
  obtain ⟨xs,hq,hx⟩:=hg
  obtain ⟨its,rv,p,hz⟩:=I.list hq
  obtain ⟨f0,f1,f2,f3,f4,f5⟩:=hf it (by simp)
  have hl:=rv.length
  exact wpAny_pyNext_list_end (I.ok.hd hc) st p.isList (by simp; omega) fun h' eb=>⟨rfl,I.turned (t':=s.toks) (fun b o hb e=>eb b o hb e) f0 f1 f3 f4 f5⟩
 self:=fun _ _ _ _ _ st h=>wpAny_pyIter_listiter st h
theorem Z8a {P:Program} {w:World} {K:W.Frag} {tg:Expr} (a it:Addr):Turn P w K tg (Itt K a) [it] it (fun i h=>h.IsTupleIter it a i) where
 mem:=by simp
 obj:=fun i h st b hb=>by
  have e:b=it:=by simpa using hb
  subst e
  obtain ⟨o,e,c,d⟩:=st
  exact ⟨o,e,fun v z=>by rw [d] at z; cases z⟩
 keep:=fun i h h' st k=>st.at fun o e=>k it (by simp) o e
 item:=by
  intro X hP hw hK hc i pins s σ H E I hf st hg
  subst hP hw hK
  obtain ⟨xs,x,hq,hx⟩:=hg
  obtain ⟨its,rv,p,hz⟩:=I.tuple hq
  obtain ⟨u,hu,ru⟩:=rv.get hx
  obtain ⟨f0,f1,f2,f3,f4,f5⟩:=hf it (by simp)
  refine wpAny_pyNext_tuple_item st (show s.heap.IsTuple a its.toArray from p) (x:=u) (by simpa using hu) fun h' st' sb=>?_
  have I1:Inv X pins σ H { s with heap:=h' }:=I.turned (t':=s.toks) (fun b o hb e=>(sb.2 b hb).trans e) f0 f1 f3 f4 f5
  obtain ⟨o,e,c,d⟩:=id st'
  exact ⟨u,rfl,J0S (s:={ s with heap:=h' }) e c d (by decide) ⟨x,H,I1,ru,⟨rfl,fun ys hy=>by rw [I.tuple_inj hy hq]; exact hx⟩,st',fun b hb=>(hf b hb).1⟩⟩
 done:=by
  intro X hP hw hK hc i pins s σ H E I hf st hg
  subst hP hw hK
  obtain ⟨xs,hq,hx⟩:=hg
  obtain ⟨its,rv,p,hz⟩:=I.tuple hq
  obtain ⟨f0,f1,f2,f3,f4,f5⟩:=hf it (by simp)
  have hl:=rv.length
  exact wpAny_pyNext_tuple_end (I.ok.hd hc) st (show s.heap.IsTuple a its.toArray from p) (by simp; omega) fun h' eb=>⟨rfl,I.turned (t':=s.toks) (fun b o hb e=>eb b o hb e) f0 f1 f3 f4 f5⟩
 self:=fun _ _ _ _ _ st h=>wpAny_pyIter_tupleiter st h
theorem Z8q {P:Program} {w:World} {K:W.Frag} {tg:Expr} (it:Addr) (lo:Int) (n:Nat):Turn P w K tg (Itr lo n) [it] it (fun i h=>IsRangeIter h it (lo+(i:Nat) * 1) ((n:Int) - (i:Nat)) 1) where
 mem:=by simp
 obj:=fun i h st b hb=>by
  have e:b=it:=by simpa using hb
  subst e
  exact ⟨_,st,fun v z=>by
   have z':Data.fields _=Data.cell v:=z
   cases z'⟩
 keep:=fun i h h' st k=>k it (by simp) _ st
 item:=by
  intro X hP hw hK hc i pins s σ H E I hf st hg
  subst hP hw hK
  obtain ⟨f0,f1,f2,f3,f4,f5⟩:=hf it (by simp)
  have W:=Walks.range (prog:=X.prog) (w:=X.w) (I.ok.hd hc) it lo 1 n
  refine W.item i s _ _ hg st fun v h' tk hv st' kk=>?_
  obtain ⟨t,rfl⟩:=hv
  have I1:Inv X pins σ H { s with heap:=h',toks:=tk }:=I.turned (fun b o hb e=>kk b o (by simpa using hb) e) f0 f1 f3 f4 f5
  refine ⟨_,rfl,J0S (s:={ s with heap:=h',toks:=tk }) (n:="range_iterator") st' rfl rfl (by decide) ⟨.int (lo+i),H,I1,⟨t,?_⟩,⟨rfl,rfl⟩,st',fun b hb=>(hf b hb).1⟩⟩
  rw [Int.mul_one]
 done:=by
  intro X hP hw hK hc i pins s σ H E I hf st hg
  subst hP hw hK
  obtain ⟨f0,f1,f2,f3,f4,f5⟩:=hf it (by simp)
  exact wpAny_pyNext_range_end (I.ok.hd hc) st (by have:n≤i:=hg; omega) fun h' eb=>⟨rfl,I.turned (t':=s.toks) (fun b o hb e=>eb b o hb e) f0 f1 f3 f4 f5⟩
 self:=fun _ _ _ _ _ st h=>wpAny_pyIter_rangeiter st h
end L2
namespace L2
open PySem PySem.Spec PyProof.Rows
section
variable {X:Cx} {tg:Expr}
def J3s (K:W.Frag) (tl:TE):TI:=fun σ H R=>tl σ H fun x H1=>∃ a,x=.ref a∧(∃ xs,SqL K H1 a xs)∧R (Itl K a) H1
def iTup (K:W.Frag) (tl:TE):TI:=fun σ H R=>tl σ H fun x H1=>∃ a,x=.ref a∧(∃ xs,SqT K H1 a xs)∧R (Itt K a) H1
theorem Z1w {l:Expr} {tl:TE} (hl:PE X l tl):PI X tg l (J3s X.K tl):=by
 intro pins s σ H R I h
 refine thn (hl pins s σ H _ I h) fun v s1 ⟨x,H1,I1,r1,q1⟩=>?_
 obtain ⟨a,e,⟨xs,hq⟩,q⟩:=q1
 subst e
 cases r1
 obtain ⟨its,rv,p,hz⟩:=I1.list hq
 refine wpAny_pyIter_list p.isList ?_
 refine ⟨s1.heap.objs.size,[s1.heap.objs.size],_,_,H1,rfl,I1.kept (t':=s1.toks) fun b o e=>Heap.get?_push_of_some _ e,J0j a _,⟨_,Heap.get?_push_size _ rfl,rfl,rfl⟩,fun b hb=>?_,q⟩
 have e:b=s1.heap.objs.size:=by simpa using hb
 subst e
 exact I1.fpOk (Nat.le_refl _) (I1.hok.fresh (Nat.le_refl _))
theorem Z2u {l:Expr} {tl:TE} (hl:PE X l tl):PI X tg l (iTup X.K tl):=by
 intro pins s σ H R I h
 refine thn (hl pins s σ H _ I h) fun v s1 ⟨x,H1,I1,r1,q1⟩=>?_
 obtain ⟨a,e,⟨xs,hq⟩,q⟩:=q1
 subst e
 cases r1
 obtain ⟨its,rv,p,hz⟩:=I1.tuple hq
 refine wpAny_pyIter_tuple (show s1.heap.IsTuple a its.toArray from p) ?_
 refine ⟨s1.heap.objs.size,[s1.heap.objs.size],_,_,H1,rfl,I1.kept (t':=s1.toks) fun b o e=>Heap.get?_push_of_some _ e,Z8a a _,⟨_,Heap.get?_push_size _ rfl,rfl,rfl⟩,fun b hb=>?_,q⟩
 have e:b=s1.heap.objs.size:=by simpa using hb
 subst e
 exact I1.fpOk (Nat.le_refl _) (I1.hok.fresh (Nat.le_refl _))
theorem Z6W {pins:List (Addr×Obj)} {σ:St} {H:Hp} {s:Shared} {R:It→Hp→Prop} {E:Value→Shared→Prop} {lo hi:Int} {t u v:Tok} {tk:Nat} (I:Inv X pins σ H s) (h1:-(2 ^ 62)≤lo) (h2:lo < 2 ^ 62) (h3:-(2 ^ 62)≤hi) (h4:hi < 2 ^ 62)
  (q:R (Itr lo (hi - lo).toNat) H):wpAny (model X.prog X.w) X.A (pyIter (.ref s.heap.objs.size)) (PIE X pins σ tg R) E { s with heap:=s.heap.push { cls:=.type "range",data:=.fields #[.int lo t,.int hi u,.int 1 v] },toks:=tk }:=by
 refine wpAny_pyIter_range (IsRange.new ..) (small_one h1 h2 h3 h4) ?_
 have I1:Inv X pins σ H { s with heap:=s.heap.push { cls:=.type "range",data:=.fields #[.int lo t,.int hi u,.int 1 v] },toks:=tk }:=I.kept fun b o e=>Heap.get?_push_of_some _ e
 refine ⟨(s.heap.push { cls:=.type "range",data:=.fields #[.int lo t,.int hi u,.int 1 v] }).objs.size,[(s.heap.push { cls:=.type "range",data:=.fields #[.int lo t,.int hi u,.int 1 v] }).objs.size],_,_,H,rfl,
  I1.kept (t':=tk) fun b o e=>Heap.get?_push_of_some _ e,Z8q _ lo (hi - lo).toNat,?_,fun b hb=>?_,q⟩
 ·have e1:lo+((0:Nat):Int) * 1=lo:=by simp
  have e2:(((hi - lo).toNat:Nat):Int) - ((0:Nat):Int)=Builtin.Range.rangeSize lo hi 1:=by rw [rangeSize_one]; split <;> omega
  show IsRangeIter _ _ (lo+((0:Nat):Int) * 1) ((((hi - lo).toNat:Nat):Int) - ((0:Nat):Int)) 1
  rw [e1,e2]
  exact Heap.get?_push_size _ rfl
 ·have e:b=(s.heap.push { cls:=.type "range",data:=.fields #[.int lo t,.int hi u,.int 1 v] }).objs.size:=by simpa using hb
  subst e
  exact I1.fpOk (Nat.le_refl _) (I1.hok.fresh (Nat.le_refl _))
def J4H (ta:TA):TI:=fun σ H R=>ta σ H fun vs H1=>∃ j:Int,vs=[.int j]∧-(2 ^ 62)≤j∧j < 2 ^ 62∧R (Itr 0 j.toNat) H1
def J6p (ta:TA):TI:=fun σ H R=>ta σ H fun vs H1=>∃ i j:Int,vs=[.int i,.int j]∧(-(2 ^ 62)≤i∧i < 2 ^ 62∧-(2 ^ 62)≤j∧j < 2 ^ 62)∧R (Itr i (j - i).toNat) H1
theorem Z1k {a:Expr} {ta:TA} {p pos:Pos} (hg:Gl X "range") (hm:X.mg "range"=none) (ha:PA X [a] ta) (hs:starEach [a] X.env=[(false,eval a X.env)]:=by rfl):PI X tg (.Call (.Name "range" p) [a] [] pos) (J4H ta):=by
 intro pins s σ H R I h
 refine Call_ (Z2y I hg hm boot_range (PyProof.Rows.callWith_type1 (thn (ha pos pins s σ H _ I h) fun us s1 ⟨vs,H1,I1,r1,q1⟩=>?_) hs rfl))
 obtain ⟨j,e,q1,q2,q⟩:=q1
 subst e
 cases r1 with
 | cons r rr=>
  cases rr
  obtain ⟨t,rfl⟩:=r
  exact call_range_1 (Z6W I1 (by omega) (by omega) q1 q2 (by simpa using q))
theorem Z8S {a b:Expr} {ta:TA} {p pos:Pos} (hg:Gl X "range") (hm:X.mg "range"=none) (ha:PA X [a,b] ta) (hs:starEach [a,b] X.env=[(false,eval a X.env),(false,eval b X.env)]:=by rfl) (hs2:starEach [b] X.env=[(false,eval b X.env)]:=by rfl) :
  PI X tg (.Call (.Name "range" p) [a,b] [] pos) (J6p ta):=by
 intro pins s σ H R I h
 refine Call_ (Z2y I hg hm boot_range (PyProof.Rows.callWith_type1 (thn (ha pos pins s σ H _ I h) fun us s1 ⟨vs,H1,I1,r1,q1⟩=>?_) (by rw [hs,hs2]) (by rw [hs2]; rfl)))
 obtain ⟨i,j,e,⟨q1,q2,q3,q4⟩,q⟩:=q1
 subst e
 cases r1 with
 | cons r rr=>
  cases rr with
  | cons r' rr=>
   cases rr
   obtain ⟨t,rfl⟩:=r
   obtain ⟨t',rfl⟩:=r'
   exact call_range_2 (Z6W I1 q1 q2 q3 q4 q)
def tFor (wi:TI) (g:TG) (tb:TS):TS:=fun D σ H=>wi σ H fun J H1=>∃ W:Nat→Nat→St→Hp→Prop,(∃ m,W 0 m σ H1)∧∀ i m σ H,W i m σ H →
 (J.stop i H∧D.nx σ H)∨(J.go i H∧∃ N:St→Hp→Prop,(∀ σ' H',N σ' H'→∃ m',m' < m∧W (i+1) m' σ' H')∧∀ x H',J.yld i H x H'→g x σ H' fun σ2 H2=>tb { D with nx:=N,ct:=N,bk:=D.nx } σ2 H2)
def Z4y (fp:List Addr) (h:Heap):List (Addr×Obj):=fp.filterMap fun b=>(h.get? b).map fun o=>(b,o)
theorem Z1S {fp:List Addr} {h:Heap} {b:Addr} {o:Obj} (hb:b∈fp) (e:h.get? b=some o):(b,o)∈Z4y fp h:=List.mem_filterMap.mpr ⟨b,hb,by rw [e]; rfl⟩
theorem J0x {fp:List Addr} {h:Heap} {p:Addr×Obj} (hp:p∈Z4y fp h):p.1∈fp∧h.get? p.1=some p.2:=by
 obtain ⟨b,hb,e⟩:=List.mem_filterMap.mp hp
 cases q:h.get? b with
 | none=>rw [q] at e; cases e
 | some o=>
  rw [q] at e
  have e':(b,o)=p:=Option.some.inj e
  subst e'
  exact ⟨hb,q⟩
theorem Inv.pinned {pins:List (Addr×Obj)} {σ:St} {H:Hp} {s:Shared} {fp:List Addr} (I:Inv X pins σ H s) (hf:∀ b∈fp,FpOk X pins H b) (ho:∀ b∈fp,∃ o,s.heap.get? b=some o∧∀ v,o.data≠.cell v):Inv X (pins++Z4y fp s.heap) σ H s:=
 I.pins_of fun p hp=>(List.mem_append.mp hp).elim (fun z=>I.pin p (List.mem_append_right _ z)) fun z=>by
  obtain ⟨hb,e⟩:=J0x z
  obtain ⟨f0,f1,f2,_⟩:=hf p.1 hb
  obtain ⟨o,e',d⟩:=ho p.1 hb
  rw [e] at e'; cases e'
  exact ⟨e,f0,f1,f2,d⟩
theorem Inv.unpinned {pins pl:List (Addr×Obj)} {σ:St} {H:Hp} {s:Shared} (I:Inv X (pins++pl) σ H s):Inv X pins σ H s:=I.pins_of fun p hp=>I.pin p (List.mem_append_right _ (List.mem_append_left _ hp))
theorem Z2v {iter:Expr} {body:List Stmt} {wi:TI} {g:TG} {tb:TS} {pos:Pos} (hp:PassesOwn (model X.prog X.w) X.A X.env X.xe) (hc:X.calm=true) (hi:PI X tg iter wi) (hg:PG X tg g) (hb:PSs X body tb)
  (hs:∀ x,foldedSetIterable iter X.env x=pure x:=by intro _; rfl):PS X (.For tg iter body [] pos) (tFor wi g tb):=by
 intro pins s σ H D I h
 refine wpAny_For (thn (hi pins s σ H _ I h) fun v s1 h1=>thn h1 fun itv s2 h2=>?_) hs
 obtain ⟨it,fp,tn,J,H2,e,I2,T,st2,f2,W,⟨m0,w0⟩,turn⟩:=h2
 subst e
 -- what stays true of the iterator's objects through the loop
 have stat:∀ {H':Hp},(∀ b∈fp,H' b=none)→∀ b∈fp,FpOk X pins H' b:=fun hn b hb=>⟨hn b hb,(f2 b hb).2⟩
 refine codeAny_forLoop_any (fun n s'=>∃ i σ' H',Inv X pins σ' H' s'∧tn i s'.heap∧(∀ b∈fp,H' b=none)∧W i n σ' H') ?_ m0 ⟨0,σ,H2,I2,st2,fun b hb=>(f2 b hb).1,w0⟩
 rintro n s3 ⟨i,σ3,H3,I3,st3,fr3,w3⟩
 rcases turn i n σ3 H3 w3 with ⟨stop,qn⟩ | ⟨go,N,hN,step⟩
 ·refine wpAny_passesOwn hp (thn (T.done X rfl rfl rfl hc i pins s3 σ3 H3 X.xe I3 (stat fr3) st3 stop) fun r s4 ⟨hr,I4⟩=>?_)
  subst hr
  exact wpAny_execs_nil ⟨σ3,H3,I4,qn⟩
 ·refine wpAny_passesOwn hp (thn (T.item X rfl rfl rfl hc i pins s3 σ3 H3 X.xe I3 (stat fr3) st3 go) fun r s4 ⟨u,hr,h4⟩=>?_)
  subst hr
  refine wpAny_passesOwn hp (thn h4 fun _ s5 ⟨x,H5,I5,r5,y5,st5,fr5⟩=>?_)
  have I5':=I5.pinned (stat fr5) (T.obj _ _ st5)
  refine wpAny_passesOwn hp (thn (hg _ s5 σ3 H5 x u _ I5' r5 (step x H5 y5)) fun _ s6 ⟨σ6,H6,I6,q6⟩=>?_)
  refine wpAny_passesOwn hp (thn (hb _ s6 σ6 H6 _ I6 q6) fun f s7 q7=>?_)
  have again:∀ {σ7:St} {H7:Hp},Inv X (pins++Z4y fp s5.heap) σ7 H7 s7→N σ7 H7→∃ m,m < n∧∃ i σ' H',Inv X pins σ' H' s7∧tn i s7.heap∧(∀ b∈fp,H' b=none)∧W i m σ' H':=fun {σ7 H7} I7 n7=>by
   obtain ⟨m',hm,w7⟩:=hN σ7 H7 n7
   refine ⟨m',hm,i+1,σ7,H7,I7.unpinned,T.keep _ _ _ st5 fun b hb o e=>(I7.pin (b,o) (List.mem_append_right _ (List.mem_append_right _ (Z1S hb e)))).1,fun b hb=>?_,w7⟩
   obtain ⟨o,e,d⟩:=T.obj _ _ st5 b hb
   exact (I7.pin (b,o) (List.mem_append_right _ (List.mem_append_right _ (Z1S hb e)))).2.1
  cases f with
  | next=>obtain ⟨σ7,H7,I7,n7⟩:=q7; exact again I7 n7
  | cont=>obtain ⟨σ7,H7,I7,n7⟩:=q7; exact again I7 n7
  | brk=>obtain ⟨σ7,H7,I7,q7⟩:=q7; exact ⟨σ7,H7,I7.unpinned,q7⟩
  | ret v=>obtain ⟨x7,σ7,H7,I7,r7,q7⟩:=q7; exact ⟨x7,σ7,H7,I7.unpinned,r7,q7⟩
end
theorem J2b {K:W.Frag} {a:Addr} {xs:List V} {g:TG} {tb:TS} {D:Ends} {σ:St} {H:Hp} (Pv:Nat→St→Hp→Prop) (h0:Pv 0 σ H) (hl:∀ i σ H,i≤xs.length→Pv i σ H→SqL K H a xs)
  (hs:∀ i x σ H,xs[i]?=some x→Pv i σ H→g x σ H fun σ2 H2=>tb { D with nx:=Pv (i+1),ct:=Pv (i+1),bk:=D.nx } σ2 H2) (hd:∀ σ H,Pv xs.length σ H→D.nx σ H) :
  ∃ W:Nat→Nat→St→Hp→Prop,(∃ m,W 0 m σ H)∧∀ i m σ H,W i m σ H →
   ((Itl K a).stop i H∧D.nx σ H)∨((Itl K a).go i H∧∃ N:St→Hp→Prop,(∀ σ' H',N σ' H'→∃ m',m' < m∧W (i+1) m' σ' H')∧∀ x H',(Itl K a).yld i H x H'→g x σ H' fun σ2 H2=>tb { D with nx:=N,ct:=N,bk:=D.nx } σ2 H2):=by
 refine ⟨fun i m σ H=>m=xs.length - i∧i≤xs.length∧Pv i σ H,⟨xs.length,by simp,Nat.zero_le _,h0⟩,?_⟩
 rintro i m σ H ⟨rfl,hi,p⟩
 have q:=hl i σ H hi p
 by_cases hlt:i < xs.length
 ·refine .inr ⟨⟨xs,xs[i],q,by simp [hlt]⟩,Pv (i+1),fun σ' H' p'=>⟨xs.length - (i+1),by omega,rfl,hlt,p'⟩,fun x H' y=>?_⟩
  obtain ⟨e,y⟩:=y
  subst e
  exact hs i x σ _ (y xs q) p
 ·have e:i=xs.length:=by omega
  subst e
  exact .inl ⟨⟨xs,q,Nat.le_refl _⟩,hd σ H p⟩
theorem J4w {K:W.Frag} {a:Addr} {xs:List V} {g:TG} {tb:TS} {D:Ends} {σ:St} {H:Hp} (Pv:Nat→St→Hp→Prop) (h0:Pv 0 σ H) (hl:∀ i σ H,i≤xs.length→Pv i σ H→SqT K H a xs)
  (hs:∀ i x σ H,xs[i]?=some x→Pv i σ H→g x σ H fun σ2 H2=>tb { D with nx:=Pv (i+1),ct:=Pv (i+1),bk:=D.nx } σ2 H2) (hd:∀ σ H,Pv xs.length σ H→D.nx σ H) :
  ∃ W:Nat→Nat→St→Hp→Prop,(∃ m,W 0 m σ H)∧∀ i m σ H,W i m σ H →
   ((Itt K a).stop i H∧D.nx σ H)∨((Itt K a).go i H∧∃ N:St→Hp→Prop,(∀ σ' H',N σ' H'→∃ m',m' < m∧W (i+1) m' σ' H')∧∀ x H',(Itt K a).yld i H x H'→g x σ H' fun σ2 H2=>tb { D with nx:=N,ct:=N,bk:=D.nx } σ2 H2):=by
 refine ⟨fun i m σ H=>m=xs.length - i∧i≤xs.length∧Pv i σ H,⟨xs.length,by simp,Nat.zero_le _,h0⟩,?_⟩
 rintro i m σ H ⟨rfl,hi,p⟩
 have q:=hl i σ H hi p
 by_cases hlt:i < xs.length
 ·refine .inr ⟨⟨xs,xs[i],q,by simp [hlt]⟩,Pv (i+1),fun σ' H' p'=>⟨xs.length - (i+1),by omega,rfl,hlt,p'⟩,fun x H' y=>?_⟩
  obtain ⟨e,y⟩:=y
  subst e
  exact hs i x σ _ (y xs q) p
 ·have e:i=xs.length:=by omega
  subst e
  exact .inl ⟨⟨xs,q,Nat.le_refl _⟩,hd σ H p⟩
theorem J0l {lo:Int} {n:Nat} {g:TG} {tb:TS} {D:Ends} {σ:St} {H:Hp} (Pv:Nat→St→Hp→Prop) (h0:Pv 0 σ H)
  (hs:∀ i σ H,i < n→Pv i σ H→g (.int (lo+i)) σ H fun σ2 H2=>tb { D with nx:=Pv (i+1),ct:=Pv (i+1),bk:=D.nx } σ2 H2) (hd:∀ σ H,Pv n σ H→D.nx σ H) :
  ∃ W:Nat→Nat→St→Hp→Prop,(∃ m,W 0 m σ H)∧∀ i m σ H,W i m σ H →
   ((Itr lo n).stop i H∧D.nx σ H)∨((Itr lo n).go i H∧∃ N:St→Hp→Prop,(∀ σ' H',N σ' H'→∃ m',m' < m∧W (i+1) m' σ' H')∧∀ x H',(Itr lo n).yld i H x H'→g x σ H' fun σ2 H2=>tb { D with nx:=N,ct:=N,bk:=D.nx } σ2 H2):=by
 refine ⟨fun i m σ H=>m=n - i∧i≤n∧Pv i σ H,⟨n,by simp,Nat.zero_le _,h0⟩,?_⟩
 rintro i m σ H ⟨rfl,hi,p⟩
 by_cases hlt:i < n
 ·refine .inr ⟨hlt,Pv (i+1),fun σ' H' p'=>⟨n - (i+1),by omega,rfl,hlt,p'⟩,fun x H' y=>?_⟩
  obtain ⟨e,y⟩:=y
  subst e y
  exact hs i σ _ hlt p
 ·have e:i=n:=by omega
  subst e
  exact .inl ⟨Nat.le_refl _,hd σ H p⟩
end L2
namespace L2
open PySem PySem.Spec PyProof.Rows
abbrev R2:=V→V→Hp→VK→Prop
def OpR (X:Cx) (f:Value→Value→Sem Value) (r:R2):Prop:=
 ∀ (pins:List (Addr×Obj)) (s:Shared) (σ:St) (H:Hp) (x y:V) (v u:Value) (Q:VK),Inv X pins σ H s→RelV x v→RelV y u→r x y H Q →
  wpAny (model X.prog X.w) X.A (f v u) (EP X pins σ Q) X.xe s
def UnR (X:Cx) (f:Value→Sem Value) (r:V→Hp→VK→Prop):Prop:=
 ∀ (pins:List (Addr×Obj)) (s:Shared) (σ:St) (H:Hp) (x:V) (v:Value) (Q:VK),Inv X pins σ H s→RelV x v→r x H Q →
  wpAny (model X.prog X.w) X.A (f v) (EP X pins σ Q) X.xe s
def Z3N (X:Cx) (f:Value) (r:List V→Hp→VK→Prop):Prop:=
 ∀ (pins:List (Addr×Obj)) (s:Shared) (σ:St) (H:Hp) (xs:List V) (us:List Value) (Q:VK),Inv X pins σ H s→Vals xs us→r xs H Q →
  wpAny (model X.prog X.w) X.A (call f us) (EP X pins σ Q) X.xe s
def TruR (X:Cx) (r:V→Hp→(Bool→Hp→Prop)→Prop):Prop:=
 ∀ (pins:List (Addr×Obj)) (s:Shared) (σ:St) (H:Hp) (x:V) (v:Value) (Q:Bool→Hp→Prop),Inv X pins σ H s→RelV x v→r x H Q →
  wpAny (model X.prog X.w) X.A (truthy v) (TP X pins σ Q) X.xe s
def tOp (r:R2) (ta tb:TE):TE:=fun σ H Q=>ta σ H fun x H1=>tb σ H1 fun y H2=>r x y H2 Q
def tUn (r:V→Hp→VK→Prop) (ta:TE):TE:=fun σ H Q=>ta σ H fun x H1=>r x H1 Q
def rI (C:Int→Int→Prop) (g:Int→Int→V):R2:=fun x y H Q=>∃ i j,x=.int i∧y=.int j∧C i j∧Q (g i j) H
def rI0 (g:Int→Int→V):R2:=fun x y H Q=>∃ i j,x=.int i∧y=.int j∧Q (g i j) H
def rU (g:Int→V):V→Hp→VK→Prop:=fun x H Q=>∃ i,x=.int i∧Q (g i) H
section
variable {X:Cx} {a b c:Expr} {ta tb tc:TE} {pos:Pos}
theorem binT (ha:PE X a ta) (hb:PE X b tb) {pins:List (Addr×Obj)} {s:Shared} {σ:St} {H:Hp} {R:V→V→Hp→Prop} (I:Inv X pins σ H s)
  (h:ta σ H fun x H1=>tb σ H1 fun y H2=>R x y H2) {Q:Value→Shared→Prop} {f:Value→Value→Sem Value}
  (hf:∀ v u s2 x y H2,Inv X pins σ H2 s2→RelV x v→RelV y u→R x y H2→wpAny (model X.prog X.w) X.A (f v u) Q X.xe s2) :
  wpAny (model X.prog X.w) X.A (eval a X.env) (fun v s₁=>wpAny (model X.prog X.w) X.A (eval b X.env) (fun u s₂=>wpAny (model X.prog X.w) X.A (f v u) Q X.xe s₂) X.xe s₁) X.xe s:=by
 refine thn (ha pins s σ H _ I h) fun v s1 ⟨x,H1,I1,r1,q1⟩=>?_
 refine thn (hb pins s1 σ H1 _ I1 q1) fun u s2 ⟨y,H2,I2,r2,q2⟩=>?_
 exact hf v u s2 x y H2 I2 r1 r2 q2
theorem Z0m {op:Operator} {r:R2} (ho:OpR X (binaryOp op) r) (ha:PE X a ta) (hb:PE X b tb):PE X (.BinOp a op b pos) (tOp r ta tb):=by
 intro pins s σ H Q I h
 exact wpAny_BinOp (binT ha hb I h fun v u s2 x y H2 I2 rx ry q=>ho pins s2 σ H2 x y v u Q I2 rx ry q)
theorem J7u {op:UnaryOp} {r:V→Hp→VK→Prop} (ho:UnR X (unaryOp op) r) (ha:PE X a ta):PE X (.UnaryOp op a pos) (tUn r ta):=by
 intro pins s σ H Q I h
 exact UnaryOp_ (thn (ha pins s σ H _ I h) fun v s1 ⟨x,H1,I1,r1,q1⟩=>ho pins s1 σ H1 x v Q I1 r1 q1)
theorem opI {f:Value→Value→Sem Value} {C:Int→Int→Prop} {g:Int→Int→Int}
  (rule:∀ (i j:Int) (t u:Tok) (s:Shared) (Q:Value→Shared→Prop) (E:Value→Shared→Prop),C i j→Q (.int (g i j) s.toks) { s with toks:=s.toks+1 }→wpAny (model X.prog X.w) X.A (f (.int i t) (.int j u)) Q E s) :
  OpR X f (rI C fun i j=>.int (g i j)):=by
 intro pins s σ H x y v u Q I rx ry h
 obtain ⟨i,j,rfl,rfl,hc,q⟩:=h
 obtain ⟨t,rfl⟩:=rx
 obtain ⟨t',rfl⟩:=ry
 exact rule i j t t' s _ _ hc ⟨.int (g i j),H,I.tok _,⟨_,rfl⟩,q⟩
theorem opI0 {f:Value→Value→Sem Value} {g:Int→Int→Int}
  (rule:∀ (i j:Int) (t u:Tok) (s:Shared) (Q:Value→Shared→Prop) (E:Value→Shared→Prop),Q (.int (g i j) s.toks) { s with toks:=s.toks+1 }→wpAny (model X.prog X.w) X.A (f (.int i t) (.int j u)) Q E s) :
  OpR X f (rI0 fun i j=>.int (g i j)):=by
 intro pins s σ H x y v u Q I rx ry h
 obtain ⟨i,j,rfl,rfl,q⟩:=h
 obtain ⟨t,rfl⟩:=rx
 obtain ⟨t',rfl⟩:=ry
 exact rule i j t t' s _ _ ⟨.int (g i j),H,I.tok _,⟨_,rfl⟩,q⟩
theorem opB0 {f:Value→Value→Sem Value} {g:Int→Int→Bool}
  (rule:∀ (i j:Int) (t u:Tok) (s:Shared) (Q:Value→Shared→Prop) (E:Value→Shared→Prop),Q (.bool (g i j)) s→wpAny (model X.prog X.w) X.A (f (.int i t) (.int j u)) Q E s) :
  OpR X f (rI0 fun i j=>.bl (g i j)):=by
 intro pins s σ H x y v u Q I rx ry h
 obtain ⟨i,j,rfl,rfl,q⟩:=h
 obtain ⟨t,rfl⟩:=rx
 obtain ⟨t',rfl⟩:=ry
 exact rule i j t t' s _ _ ⟨.bl (g i j),H,I,rfl,q⟩
def CDiv (i j:Int):Prop:=0 < j∧j < 1073741824
def CPow (i j:Int):Prop:=0≤j∧j≤1000000∧i.natAbs < 2 ^ 64
def CMul (i j:Int):Prop:=(-(2 ^ 64) < i∧i < 2 ^ 64)∨(-(2 ^ 64) < j∧j < 2 ^ 64)
theorem CMul.ok {i j:Int} (h:CMul i j):IntMulOk i j:=by
 rcases h with ⟨h1,h2⟩ | ⟨h1,h2⟩
 ·exact .of_left (intBits_le_64 h1 h2)
 ·exact .of_right (intBits_le_64 h1 h2)
theorem Z0I:OpR X (binaryOp .Add) (rI0 fun i j=>.int (i+j)):=opI0 fun _ _ _ _ _ _ _ q=>add_int q
theorem J6h:OpR X (binaryOp .Sub) (rI0 fun i j=>.int (i - j)):=opI0 fun _ _ _ _ _ _ _ q=>sub_int q
theorem Z2q:OpR X (binaryOp .Mult) (rI CMul fun i j=>.int (i * j)):=opI fun _ _ _ _ _ _ _ hc q=>mul_int q hc.ok
theorem Z1b:OpR X (binaryOp .FloorDiv) (rI CDiv fun i j=>.int (i / j)):=opI fun i j _ _ _ _ _ hc q=>by
 have h1:(0:Int) < j:=hc.1
 have h2:j < 1073741824:=hc.2
 exact floordiv_int (by omega) (by rw [Int.fdiv_eq_ediv_of_nonneg i (by omega)]; exact q) (.inl (PyProof.noPylong_small (by omega)))
theorem Z0H:OpR X (binaryOp .Mod) (rI (fun _ j=>0 < j) fun i j=>.int (i % j)):=opI fun i j _ _ _ _ _ hc q=>by
 have h1:(0:Int) < j:=hc
 exact mod_int' (by omega) (by rw [Int.fmod_eq_emod_of_nonneg i (by omega)]; exact q)
theorem unI {f:Value→Sem Value} {g:Int→Int}
  (rule:∀ (i:Int) (t:Tok) (s:Shared) (Q:Value→Shared→Prop) (E:Value→Shared→Prop),Q (.int (g i) s.toks) { s with toks:=s.toks+1 }→wpAny (model X.prog X.w) X.A (f (.int i t)) Q E s) :
  UnR X f (rU fun i=>.int (g i)):=by
 intro pins s σ H x v Q I rx h
 obtain ⟨i,rfl,q⟩:=h
 obtain ⟨t,rfl⟩:=rx
 exact rule i t s _ _ ⟨.int (g i),H,I.tok _,⟨_,rfl⟩,q⟩
theorem J5u:UnR X (unaryOp .USub) (rU fun i=>.int (-i)):=unI fun _ _ _ _ _ q=>neg_int q
end
def scal:V→V→Bool
 | .non,.non=>true | .non,.int _=>true | .int _,.non=>true | .non,.bl _=>true | .bl _,.non=>true | .non,.str _=>true | .str _,.non=>true
 | .int _,.int _=>true | .bl _,.bl _=>true | .str _,.str _=>true | .byt _,.byt _=>true
 | .int _,.str _=>true | .str _,.int _=>true | .bl _,.str _=>true | .str _,.bl _=>true
 | _,_=>false
def rEq:R2:=fun x y H Q=>scal x y=true∧Q (.bl (decide (x=y))) H
def rNe:R2:=fun x y H Q=>scal x y=true∧Q (.bl (!decide (x=y))) H
theorem J3Y {i j:Int}:decide (V.int i=V.int j)=(i == j):=by
 rw [Bool.eq_iff_iff]
 simp
theorem J6a {i j:Bool}:decide (V.bl i=V.bl j)=(i == j):=by
 rw [Bool.eq_iff_iff]
 simp
theorem J3x {i j:Str}:decide (V.str i=V.str j)=(i == j):=by
 rw [Bool.eq_iff_iff]
 simp
theorem J4y {i j:Array UInt8}:decide (V.byt i=V.byt j)=(i.toList == j.toList):=by
 rw [Bool.eq_iff_iff]
 cases i
 cases j
 simp
section
variable {X:Cx} {a b c:Expr} {ta tb tc:TE} {pos:Pos}
theorem Z1G {pins:List (Addr×Obj)} {σ:St} {H:Hp} {s:Shared} {Q:VK} {k k':Bool} (I:Inv X pins σ H s) (q:Q (.bl k) H) (e:k=k'):EP X pins σ Q (.bool k') s:=by
 subst e
 exact ⟨.bl k,H,I,rfl,q⟩
theorem Z4W:OpR X (compareOp .Eq) rEq:=by
 intro pins s σ H x y v u Q I rx ry h
 obtain ⟨hs,q⟩:=h
 cases x with
 | non=>
  cases rx
  cases y with
  | non=>cases ry; exact PySem.EqNone.eq_none_none (Z1G I q (by simp))
  | bl j=>cases ry; exact PySem.EqNone.eq_none_bool (Z1G I q (by simp))
  | int j=>obtain ⟨t',rfl⟩:=ry; exact PySem.EqNone.eq_none_int (Z1G I q (by simp))
  | str j=>obtain ⟨t',rfl⟩:=ry; exact PySem.EqNone.eq_none_str (Z1G I q (by simp))
  | _=>exact absurd (show false=true from hs) Bool.false_ne_true
 | bl i=>
  cases rx
  cases y with
  | non=>cases ry; exact PySem.EqNone.eq_bool_none (Z1G I q (by simp))
  | bl j=>cases ry; exact eq_bool (Z1G I q J6a)
  | str j=>obtain ⟨t',rfl⟩:=ry; exact PySem.EqMixed.eq_bool_str (Z1G I q (by simp))
  | _=>exact absurd (show false=true from hs) Bool.false_ne_true
 | int i=>
  obtain ⟨t,rfl⟩:=rx
  cases y with
  | non=>cases ry; exact PySem.EqNone.eq_int_none (Z1G I q (by simp))
  | int j=>obtain ⟨t',rfl⟩:=ry; exact eq_int (Z1G I q J3Y)
  | str j=>obtain ⟨t',rfl⟩:=ry; exact PySem.EqMixed.eq_int_str (Z1G I q (by simp))
  | _=>exact absurd (show false=true from hs) Bool.false_ne_true
 | str i=>
  obtain ⟨t,rfl⟩:=rx
  cases y with
  | non=>cases ry; exact PySem.EqNone.eq_str_none (Z1G I q (by simp))
  | bl j=>cases ry; exact PySem.EqMixed.eq_str_bool (Z1G I q (by simp))
  | int j=>obtain ⟨t',rfl⟩:=ry; exact PySem.EqMixed.eq_str_int (Z1G I q (by simp))
  | str j=>obtain ⟨t',rfl⟩:=ry; exact eq_str (Z1G I q J3x)
  | _=>exact absurd (show false=true from hs) Bool.false_ne_true
 | byt i=>
  obtain ⟨t,rfl⟩:=rx
  cases y with
  | byt j=>obtain ⟨t',rfl⟩:=ry; exact W.eq_bytes (Z1G I q J4y)
  | _=>exact absurd (show false=true from hs) Bool.false_ne_true
 | _=>cases y <;> exact absurd (show false=true from hs) Bool.false_ne_true
theorem J3r:OpR X (compareOp .Gt) (rI0 fun i j=>.bl (decide (j < i))):=opB0 fun _ _ _ _ _ _ _ q=>gt_int q
theorem J5m:OpR X (compareOp .Is) (fun x y H Q=>y=.non∧Q (.bl (decide (x=.non))) H):=by
 intro pins s σ H x y v u Q I rx ry h
 obtain ⟨rfl,q⟩:=h
 cases ry
 refine is_none_gen (Z1G I q ?_)
 cases x <;> first
  | (cases rx; rfl)
  | (obtain ⟨t,rfl⟩:=rx; rfl)
theorem Z6r:OpR X (compareOp .IsNot) (fun x y H Q=>y=.non∧Q (.bl (!decide (x=.non))) H):=by
 intro pins s σ H x y v u Q I rx ry h
 obtain ⟨rfl,q⟩:=h
 cases ry
 refine isnot_none_gen (Z1G I q ?_)
 cases x <;> first
  | (cases rx; rfl)
  | (obtain ⟨t,rfl⟩:=rx; rfl)
theorem Z1p (b:Expr) {op:CmpOp} (h:op≠.In:=by decide) (h2:op≠.NotIn:=by decide):behindInMarks op b=false:=by
 have e1:(op == CmpOp.In)=false:=by cases op <;> first | rfl | exact absurd rfl h
 have e2:(op == CmpOp.NotIn)=false:=by cases op <;> first | rfl | exact absurd rfl h2
 cases b <;> simp [behindInMarks,e1,e2]
theorem Z2S {op:CmpOp} {r:R2} (ho:OpR X (compareOp op) r) (ha:PE X a ta) (hb:PE X b tb) (hm:behindInMarks op b=false):PE X (.Compare a [op] [b] pos) (tOp r ta tb):=by
 intro pins s σ H Q I h
 exact wpAny_Compare1 (binT ha hb I h fun v u s2 x y H2 I2 rx ry q=>ho pins s2 σ H2 x y v u Q I2 rx ry q) hm
def J5C (t:TE):TT:=fun σ H Q=>t σ H fun x H'=>∃ k,x=.bl k∧Q k H'
theorem Z0y {op:CmpOp} {r:R2} (ho:OpR X (compareOp op) r) (ha:PE X a ta) (hb:PE X b tb) (hm:behindInMarks op b=false):PT X (.Compare a [op] [b] pos) (J5C (tOp r ta tb)):=by
 intro pins s σ H Q I h
 refine wpAny_isTrue_Compare1 (thn (ha pins s σ H _ I h) fun v s1 ⟨x,H1,I1,r1,q1⟩=>thn (hb pins s1 σ H1 _ I1 q1) fun u s2 ⟨y,H2,I2,r2,q2⟩=>
  thn (ho pins s2 σ H2 x y v u _ I2 r1 r2 q2) fun c s3 ⟨z,H3,I3,r3,k,e,q3⟩=>?_) hm
 subst e
 cases r3
 exact wpAny_truthy_bool ⟨H3,I3,q3⟩
def J5k (r r':R2) (ta tb tc:TE):TE:=fun σ H Q=>ta σ H fun x H1=>tb σ H1 fun y H2=>r x y H2 fun z H3=>∃ k,z=.bl k ∧
 (if k=true then tc σ H3 fun w' H4=>r' y w' H4 Q else Q (.bl false) H3)
def TruV (K:W.Frag) (x:V) (H:Hp) (k:Bool):Prop:=
 match x with
 | .non=>k=false
 | .bl b=>k=b
 | .int i=>k=(i != 0)
 | .str y=>y.length≤sizeLine∧k=((y.length:Int) != 0)
 | .byt y=>y.size≤sizeLine∧k=((y.size:Int) != 0)
 | .ref p=>(∃ xs,SqL K H p xs∧k=!xs.isEmpty)∨(∃ xs,SqT K H p xs∧k=!xs.isEmpty)∨∃ kvs,H p=some (.dK kvs)∧k=!kvs.isEmpty
 | _=>False
theorem Z8s {κ:Type} {kvs:List (κ×V)} {vs:List (κ×Value)} (r:KV kvs vs):(!vs.isEmpty)=!kvs.isEmpty:=by
 cases r <;> rfl
theorem Z4I {xs:List V} {its:List Value} (r:Vals xs its):(!its.toArray.isEmpty)=!xs.isEmpty:=by
 cases r <;> simp
theorem Z4F:(sizeLine:Nat) < 2 ^ 63:=by rw [sizeLine_eq]; decide
theorem J5L:TruR X (fun x H Q=>∃ k,TruV X.K x H k∧Q k H):=by
 intro pins s σ H x v Q I rx h
 obtain ⟨k,e,q⟩:=h
 have hl:=Z4F
 have hs:sizeLine=16777216:=sizeLine_eq
 cases x with
 | non=>
  cases rx
  have e':k=false:=e
  subst e'
  exact truthy_none ⟨H,I,q⟩
 | bl b=>
  cases rx
  have e':k=b:=e
  subst e'
  exact wpAny_truthy_bool ⟨H,I,q⟩
 | int i=>
  obtain ⟨t,rfl⟩:=rx
  have e':k=(i != 0):=e
  subst e'
  exact PySem.P.truthy_int ⟨H,I,q⟩
 | str y=>
  obtain ⟨t,rfl⟩:=rx
  obtain ⟨hy,e'⟩:y.length≤sizeLine∧k=((y.length:Int) != 0):=e
  subst e'
  exact PySem.P.truthy_str (by omega) ⟨H,I.tok _,q⟩
 | byt y=>
  obtain ⟨t,rfl⟩:=rx
  obtain ⟨hy,e'⟩:y.size≤sizeLine∧k=((y.size:Int) != 0):=e
  subst e'
  exact W.truthy_bytes (by omega) ⟨H,I.tok _,q⟩
 | ref p=>
  cases rx
  have e':(∃ xs,SqL X.K H p xs∧k=!xs.isEmpty)∨(∃ xs,SqT X.K H p xs∧k=!xs.isEmpty)∨∃ kvs,H p=some (.dK kvs)∧k=!kvs.isEmpty:=e
  rcases e' with ⟨xs,hx,e'⟩ | ⟨xs,hx,e'⟩ | ⟨kvs,hx,e'⟩
  ·subst e'
   obtain ⟨its,r,pl,hz⟩:=I.list hx
   have hlen:=r.length
   exact wpAny_truthy_list pl.isList (by simp only [List.size_toArray]; omega) ⟨H,I.tok _,by rw [Z4I r]; exact q⟩
  ·subst e'
   obtain ⟨its,r,pl,hz⟩:=I.tuple hx
   have hlen:=r.length
   exact truthy_tuple pl (by simp only [List.size_toArray]; omega) ⟨H,I.tok _,by rw [Z4I r]; exact q⟩
  ·subst e'
   obtain ⟨hz,hS,vs,r,m⟩:kvs.length≤sizeLine∧(p == sysModules)=false∧∃ vs,KV kvs vs∧s.heap.DictOf (Z0T X.prog X.w) p vs:=I.hok p _ hx
   have hlen:kvs.length=vs.length:=Paired.length r
   exact wpAny_truthy_dict hS m (by omega) ⟨H,I.tok _,by rw [Z8s r]; exact q⟩
 | _=>exact (show False from e).elim
theorem Z3o:OpR X (binaryOp .Add) (fun x y H Q=>∃ i j,x=.str i∧y=.str j∧i.length+j.length≤sizeLine∧Q (.str (i++j)) H):=by
 intro pins s σ H x y v u Q I rx ry h
 obtain ⟨i,j,rfl,rfl,hz,q⟩:=h
 obtain ⟨t,rfl⟩:=rx
 obtain ⟨t',rfl⟩:=ry
 exact add_str (fun t' tk=>⟨.str (i++j),H,I.tok _,⟨_,rfl⟩,q⟩) hz
theorem Z5I {x:V} {us:List Value} (r:Vals [x] us):∃ u,us=[u]∧RelV x u:=by
 cases r with
 | cons r1 r2=>cases r2; exact ⟨_,rfl,r1⟩
theorem Z9U:Z3N X (.type "int") (fun xs H Q=>(∃ i,xs=[.int i]∧Q (.int i) H)∨∃ k,xs=[.bl k]∧Q (.int (if k then 1 else 0)) H):=by
 intro pins s σ H xs us Q I r h
 rcases h with ⟨i,rfl,q⟩ | ⟨k,rfl,q⟩
 ·obtain ⟨u,rfl,t,rfl⟩:=Z5I r
  exact call_int_int ⟨.int i,H,I,⟨_,rfl⟩,q⟩
 ·obtain ⟨u,rfl,r1⟩:=Z5I r
  cases r1
  exact call_int_bool ⟨.int (if k then 1 else 0),H,I.tok _,⟨_,rfl⟩,q⟩
theorem Z5N:Z3N X (.type "str") (fun xs H Q=>∃ i,xs=[.int i]∧i.natAbs.log2 < 1920∧Q (.str (toString i)) H):=by
 intro pins s σ H xs us Q I r h
 obtain ⟨i,rfl,hz,q⟩:=h
 obtain ⟨u,rfl,t,rfl⟩:=Z5I r
 exact PySem.P.str_of_int hz ⟨.str _,H,I.tok _,⟨_,rfl⟩,q⟩
end
end L2
namespace L2
open PySem PySem.Spec PyProof.Rows
structure ObjM (h:Heap) (x dx C:Addr) (mA:Str→Option Value):Prop where
 obj:h.get? x=some (W.instObj C dx)
 ns:h.Ns1 dx mA
 ne:dx≠x
theorem J0g {h:Heap} {dx:Addr} {mA:Str→Option Value} (n:h.Ns1 dx mA):∃ od,h.get? dx=some od∧∀ name,W.lookIn name od=some (mA name):=by
 obtain ⟨o,es,ep,ho,hd,hk,_,hm⟩:=n
 refine ⟨o,ho,fun name=>?_⟩
 have e:=hm name
 unfold nsFind findBy at e
 rw [← Array.find?_toList] at e
 unfold W.lookIn
 rw [hd]
 dsimp only
 split
 ·rename_i y q
  rw [q] at e
  exact congrArg some e
 ·rename_i q
  rw [q] at e
  have a:es.toList.any (·.refKey)=false:=by
   rw [List.any_eq_false]
   intro y hy
   obtain ⟨z,t,hkey⟩:=hk y (Array.mem_toList_iff.mp hy)
   simp [DictEntry.refKey,hkey]
  have a':¬ es.toList.any (·.refKey)=true:=by rw [a]; exact Bool.false_ne_true
  rw [if_neg a']
  exact congrArg some e
theorem ObjM.look {h:Heap} {x dx C:Addr} {mA:Str→Option Value} (I:ObjM h x dx C mA):∃ od,W.InstAt h x (W.instObj C dx) C (some od)∧∀ name,W.lookIn name od=some (mA name):=
 let ⟨od,ho,hl⟩:=J0g I.ns
 ⟨od,⟨I.obj,rfl,rfl,ho⟩,hl⟩
section
variable {prog:Program} {w:World} {A:Around} {E:Value→Shared→Prop} {s:Shared} {K:W.Frag} {x dx C f:Addr} {mA:Str→Option Value} {name:Str} {v:Value}
theorem J3t {expr:Bool} {Q:Value→Shared→Prop} (X:K.In s.heap) (I:ObjM s.heap x dx C mA) (hg:W.plainGet K C name=true) (hh:W.hasDictIn K C=true)
  (ha:W.findIn K (.ref C) name=some none) (hv:mA name=some v) (hv':W.handedIn v=true) (h:Q v { s with toks:=s.toks+1 }) :
  wpAny (model prog w) A (getAttr (.ref x) name expr) Q E s:=by
 obtain ⟨od,J,hl⟩:=I.look
 exact W.get_value X J (W.plainGet_of hg).1 (W.findObj_own hh ha rfl (by rw [hl,hv])) hv' h
theorem J1e {pl:Sem Bool} {Q:Value×List Value→Shared→Prop} (X:K.In s.heap) (I:ObjM s.heap x dx C mA) (hg:W.plainGet K C name=true)
  (hf:W.findIn K (.ref C) name=some (some (.ref f))) (ht:W.isFn K (.ref f)=true) (hv:mA name=none) (h:Q (.ref f,[.ref x]) s) :
  wpAny (model prog w) A (getMethod (.ref x) name pl) Q E s:=by
 obtain ⟨od,J,hl⟩:=I.look
 exact W.method_fn X J (W.plainGet_of hg).1 (W.plainGet_of hg).2 hf (beq_iff_eq.mp ht) (by show (W.lookIn name od).map (·.isSome)=some false; rw [hl,hv]; rfl) h
theorem J3n {ns:List Str} {Q:Unit→Shared→Prop} (X:K.In s.heap) (I:ObjM s.heap x dx C mA)
  (hs:W.findIn K (.ref C) "__setattr__"=some (some (.builtin "object.__setattr__"))) (hp:W.plainOver K C=true) (ht:W.takerIn K C name=some none) (hh:W.hasDictIn K C=true)
  (hw:PySem.Within mA ns) (hsz:ns.length≤sizeLine)
  (h:∀ h',ObjM h' x dx C (fun y=>if y=name then some v else mA y)→Heap.SameBut dx s.heap h'→Q () { s with heap:=h',toks:=s.toks+2 }) :
  wpAny (model prog w) A (setAttr (.ref x) name v) Q E s:=by
 obtain ⟨od,J,hl⟩:=I.look
 refine W.set_plain X J hs (W.osa_open (s:={ s with toks:=s.toks+1 }) (r:=none) X J hp ht fun b=>?_)
 obtain ⟨cd,hc,hd'⟩:=W.any_some hh
 have hx:s.heap.get? x=some ⟨.ref C,some dx,.plain,#[]⟩:=I.obj
 refine wpAny_bind (wpAny_pure (wpAny_bind (wpAny_bind (wpAny_loadPart hx (wpAny_bind (W.Looks.here (s:={ s with toks:=s.toks+1 }) (W.looks_clsIn X hc) ?_))))))
 rw [hd']
 refine wpAny_pure (a:=some dx) (wpAny_bind (wpAny_pure (wpAny_bind ?_)))
 refine wpAny_nsSet1 (s:={ s with toks:=s.toks+1 }) I.ns fun h' hn2 hs2=>?_
 obtain ⟨oD,esD,epD,hoD,hdD,hcD⟩:=hn2.count (PySem.Within.cons name v hw)
 refine wpAny_bind (wpAny_lookBehind hoD (by rw [hdD]; exact pastItsLine_dict (Nat.le_trans hcD (by rw [List.length_cons]; omega))) ?_)
 exact wpAny_pure (h _ ⟨(hs2.2 _ (Ne.symm I.ne)).trans I.obj,hn2,I.ne⟩ hs2)
theorem J2g {R:Result→Shared→Prop} {vs:List Value} {kw:List (Str×Value)} (X:K.In s.heap) (hm:W.makesIn K C=true)
  (hi:W.findIn K (.ref C) "__init__"=some (some (.ref f))) (hf:W.typeIn K (.ref f)=some (.type "function"))
  (h:codeAny (model prog w) (A.under (.builtin "type.__call__" ⟨.ref C::vs,kw⟩)) (.call (.ref f) ⟨.ref (s.heap.objs.size+1)::vs,kw⟩) (W.InitBack (s.heap.objs.size+1) R)
   { s with heap:=(s.heap.push W.emptyDict).push (W.instObj C s.heap.objs.size) }) :
  codeAny (model prog w) A (.call (.ref C) ⟨vs,kw⟩) R s:=by
 obtain ⟨hh,g,d,t,os⟩:=s
 exact W.make_core (W.makes_of X hm) (W.looks_findIn X hi) (fun self=>W.bind_fn X self hf) (.inl rfl) h
end
def putF (f:Str) (v:V):List (Str×V)→List (Str×V)
 | []=>[(f,v)]
 | (g,x)::r=>if g=f then (g,v)::r else (g,x)::putF f v r
theorem Z3J (f g:Str) (v:V):∀ fs:List (Str×V),(putF f v fs).lookup g=if g=f then some v else fs.lookup g
 | []=>by
  show List.lookup g [(f,v)]=_
  by_cases h:g=f
  ·have hb:(g == f)=true:=beq_iff_eq.mpr h
   simp only [List.lookup,hb,if_pos h]
  ·have hb:(g == f)=false:=beq_eq_false_iff_ne.mpr h
   simp only [List.lookup,hb,if_neg h]
 | (k,x)::r=>by
  have ih:=Z3J f g v r
  rw [show putF f v ((k,x)::r)=(if k=f then (k,v)::r else (k,x)::putF f v r) from rfl]
  by_cases hk:k=f
  ·rw [if_pos hk]
   by_cases h:g=k
   ·have hb:(g == k)=true:=beq_iff_eq.mpr h
    simp only [List.lookup,hb,if_pos (h.trans hk)]
   ·have hb:(g == k)=false:=beq_eq_false_iff_ne.mpr h
    simp only [List.lookup,hb,if_neg (fun e:g=f=>h (e.trans hk.symm))]
  ·rw [if_neg hk]
   by_cases h:g=k
   ·have hb:(g == k)=true:=beq_iff_eq.mpr h
    simp only [List.lookup,hb,if_neg (fun e:g=f=>hk (h.symm.trans e))]
   ·have hb:(g == k)=false:=beq_eq_false_iff_ne.mpr h
    simp only [List.lookup,hb]
    exact ih
theorem Z3P (f:Str) (v:V):∀ fs:List (Str×V),f∈(putF f v fs).map (·.1)∧∀ g,g∈fs.map (·.1)→g∈(putF f v fs).map (·.1)
 | []=>⟨by simp [putF],fun g h=>by simp at h⟩
 | (k,x)::r=>by
  obtain ⟨i1,i2⟩:=Z3P f v r
  rw [show putF f v ((k,x)::r)=(if k=f then (k,v)::r else (k,x)::putF f v r) from rfl]
  by_cases hk:k=f
  ·rw [if_pos hk]
   subst hk
   exact ⟨by simp,fun g h=>by simpa using h⟩
  ·rw [if_neg hk]
   refine ⟨?_,fun g h=>?_⟩
   ·rw [List.map_cons]
    exact List.mem_cons_of_mem _ i1
   ·rw [List.map_cons] at h ⊢
    rcases List.mem_cons.mp h with e | e
    ·exact List.mem_cons.mpr (.inl e)
    ·exact List.mem_cons_of_mem _ (i2 g e)
theorem Z4c (f:Str) (v:V):∀ fs:List (Str×V),(putF f v fs).length≤fs.length+1
 | []=>by simp [putF]
 | (k,x)::r=>by
  have ih:=Z4c f v r
  rw [show putF f v ((k,x)::r)=(if k=f then (k,v)::r else (k,x)::putF f v r) from rfl]
  by_cases hk:k=f
  ·rw [if_pos hk,List.length_cons,List.length_cons]; omega
  ·rw [if_neg hk,List.length_cons,List.length_cons]; omega
theorem RelO.some_of {v:V} {o:Option Value} (r:RelO (some v) o):∃ u,o=some u∧RelV v u:=by
 cases o with
 | none=>exact (show False from r).elim
 | some u=>exact ⟨u,rfl,r⟩
theorem RelO.none_of {o:Option Value} (r:RelO none o):o=none:=by
 cases o with
 | none=>rfl
 | some u=>exact (show False from r).elim
theorem Z9u {v:V} {u:Value} (r:RelV v u):W.handedIn u=true:=by
 cases v with
 | non=>cases (show u=Value.none from r); rfl
 | bl b=>cases (show u=Value.bool b from r); rfl
 | int i=>obtain ⟨t,e⟩:=(show ∃ t,u=Value.int i t from r); cases e; rfl
 | str x=>obtain ⟨t,e⟩:=(show ∃ t,u=Value.str x t from r); cases e; rfl
 | byt b=>obtain ⟨t,e⟩:=(show ∃ t,u=Value.bytes b t from r); cases e; rfl
 | flt b=>obtain ⟨t,e⟩:=(show ∃ t,u=Value.float b t from r); cases e; rfl
 | ref a=>cases (show u=Value.ref a from r); rfl
 | ty n=>cases (show u=Value.type n from r); rfl
section
variable {P:Program} {w:World} {H H':Hp} {h h':Heap} {a C dx:Addr} {fs fs':List (Str×V)}
theorem Z4U (hok:HOk P w H h) (e:H a=some (.ins C dx fs)):∃ mA,ObjM h a dx C mA∧(∀ f,RelO (fs.lookup f) (mA f))∧PySem.Within mA (fs.map (·.1))∧fs.length≤1000∧H dx=some (.own a):=by
 obtain ⟨d,z,ne,ob,mA,n,r,q⟩:=(show ObjOk P w H h a (.ins C dx fs) from hok a _ e)
 exact ⟨mA,⟨ob,n,ne⟩,r,q,z,d⟩
end
structure Cls (K:W.Frag) (C:Addr):Prop where
 pg:W.plainGet K C Str.empty=true
 hd:W.hasDictIn K C=true
 po:W.plainOver K C=true
 sa:W.findIn K (.ref C) "__setattr__"=some (some (.builtin "object.__setattr__"))
theorem Cls.get {K:W.Frag} {C:Addr} (c:Cls K C) (f:Str):W.plainGet K C f=true:=c.pg
def NoAttr (K:W.Frag) (C:Addr) (f:Str):Prop:=W.findIn K (.ref C) f=some none
theorem NoAttr.taker {K:W.Frag} {C:Addr} {f:Str} (n:NoAttr K C f):W.takerIn K C f=some none:=by
 unfold W.takerIn
 rw [show W.findIn K (.ref C) f=some none from n]
 rfl
structure Con (K:W.Frag) (C:Addr) (f:Str) (v:V) (u:Value):Prop where
 at_:W.findIn K (.ref C) f=some (some u)
 rel:RelV v u
 get:W.specialIn K u "__get__"=some none
 cp:W.copiedNames.contains f=false
structure Meth (K:W.Frag) (C:Addr) (m:Str) (f:Addr):Prop where
 at_:W.findIn K (.ref C) m=some (some (.ref f))
 fn:W.isFn K (.ref f)=true
 kp:W.keepIn K (.ref f)=true
section
variable {X:Cx} {pins:List (Addr×Obj)} {σ:St} {H:Hp} {s:Shared} {a C dx:Addr} {fs:List (Str×V)} {f:Str} {v:V} {A:Around} {E:Value→Shared→Prop}
theorem Z7X {b:Bool} {Q:Value→Shared→Prop} (I:Inv X pins σ H s) (e:H a=some (.ins C dx fs)) (c:Cls X.K C) (n:NoAttr X.K C f) (l:fs.lookup f=some v)
  (h:∀ u s',Inv X pins σ H s'→RelV v u→Q u s'):wpAny (model X.prog X.w) A (getAttr (.ref a) f b) Q E s:=by
 obtain ⟨mA,O,r,_,_,_⟩:=Z4U I.hok e
 obtain ⟨u,hu,ru⟩:=RelO.some_of (v:=v) (o:=mA f) (by rw [← l]; exact r f)
 exact J3t I.kIn O (c.get f) c.hd n hu (Z9u ru) (h u _ (I.tok _) ru)
theorem Z3h {m:Str} {g:Addr} {pl:Sem Bool} {Q:Value×List Value→Shared→Prop} (I:Inv X pins σ H s) (e:H a=some (.ins C dx fs)) (c:Cls X.K C) (k:Meth X.K C m g) (l:fs.lookup m=none)
  (h:Q (.ref g,[.ref a]) s):wpAny (model X.prog X.w) A (getMethod (.ref a) m pl) Q E s:=by
 obtain ⟨mA,O,r,_,_,_⟩:=Z4U I.hok e
 have hn:mA m=none:=RelO.none_of (by rw [← l]; exact r m)
 exact J1e I.kIn O (c.get m) k.at_ k.fn hn h
theorem Z8r {y:V} {u:Value} {Q:Unit→Shared→Prop} (I:Inv X pins σ H s) (e:H a=some (.ins C dx fs)) (c:Cls X.K C) (n:NoAttr X.K C f) (hl:fs.length < 1000) (ry:RelV y u)
  (h:∀ s',Inv X pins σ (upd H a (.ins C dx (putF f y fs))) s'→Q () s'):wpAny (model X.prog X.w) A (setAttr (.ref a) f u) Q E s:=by
 obtain ⟨mA,O,r,wi,_,ho⟩:=Z4U I.hok e
 have hz:(fs.map (·.1)).length≤sizeLine:=by rw [List.length_map,sizeLine_eq]; omega
 refine J3n I.kIn O c.sa c.po n.taker c.hd wi hz fun h' O' sb=>h _ ?_
 have hd:∃ o,h'.get? dx=some o:=let ⟨o,_,_,e',_⟩:=O'.ns; ⟨o,e'⟩
 refine I.write (x:=a) (e:=dx) (by rw [e]; exact True.intro) (.inr ho) (fun b q hb z=>(sb.2 b hb).trans z) hd ?_
 refine ⟨by rw [Z0h O.ne]; exact ho,?_,O.ne,O'.obj,_,O'.ns,fun g=>?_,fun g hg=>?_⟩
 ·have:=Z4c f y fs; omega
 ·show RelO ((putF f y fs).lookup g) (if g=f then some u else mA g)
  rw [Z3J]
  by_cases q:g=f
  ·rw [if_pos q,if_pos q]; exact ry
  ·rw [if_neg q,if_neg q]; exact r g
 ·by_cases q:g=f
  ·rw [q]; exact (Z3P f y fs).1
  ·refine (Z3P f y fs).2 g (wi g fun z=>hg ?_)
   show (if g=f then some u else mA g)=none
   rw [if_neg q]; exact z
theorem Inv.made (I:Inv X pins σ H s):Inv X pins σ (upd (upd H s.heap.objs.size (.own (s.heap.objs.size+1))) (s.heap.objs.size+1) (.ins C s.heap.objs.size []))
  { s with heap:=(s.heap.push W.emptyDict).push (W.instObj C s.heap.objs.size) }:=by
 have e1:(s.heap.push W.emptyDict).get? s.heap.objs.size=some W.emptyDict:=Heap.get?_push_size s.heap rfl
 have e2:((s.heap.push W.emptyDict).push (W.instObj C s.heap.objs.size)).get? (s.heap.objs.size+1)=some (W.instObj C s.heap.objs.size):=by
  have:=Heap.get?_push_size (s.heap.push W.emptyDict) (o:=W.instObj C s.heap.objs.size) rfl
  rwa [Heap.size_push] at this
 have e3:(s.heap.push W.emptyDict).Ns s.heap.objs.size (fun _=>none):=⟨W.emptyDict,#[],_,e1,rfl,(fun e he=>absurd he (by simp)),fun _=>rfl⟩
 have I1:=I.laid (a:=s.heap.objs.size) (o:=.own (s.heap.objs.size+1)) (h':=s.heap.push W.emptyDict) (t':=s.toks) (fun b u q=>Heap.get?_push_of_some _ q) (Nat.le_refl _) ⟨_,e1⟩
 refine I1.laid (a:=s.heap.objs.size+1) (o:=.ins C s.heap.objs.size []) (t':=s.toks) (fun b u q=>Heap.get?_push_of_some _ q) (Nat.le_of_eq (Heap.size_push _ _)) ?_
 have ne:s.heap.objs.size≠s.heap.objs.size+1:=Nat.ne_of_lt (Nat.lt_succ_self _)
 refine ⟨by rw [Z0h ne,Z0e],Nat.zero_le _,ne,e2,fun _=>none,(Heap.Ns1.of_empty e3).at fun o q=>Heap.get?_push_of_some _ q,fun _=>True.intro,fun y hy=>absurd rfl hy⟩
theorem J3L {prog:Program} {w:World} {env:Env} {e:Expr} {f:Str} {pos:Pos} {s:Shared} {Q:Value→Shared→Prop} (hb:attributeBase e f env (eval e env)=eval e env)
  (h:wpAny (model prog w) A (eval e env) (fun o s₁=>wpAny (model prog w) A (getAttr o f true) Q E s₁) E s):wpAny (model prog w) A (eval (.Attribute e f pos) env) Q E s:=
 Attribute_any_ h (by rw [arm_eval_Attribute,hb])
end
def tFld (K:W.Frag) (ta:TE) (f:Str):TE:=fun σ H Q=>ta σ H fun x H1=>∃ a C dx fs v,x=.ref a∧H1 a=some (.ins C dx fs)∧Cls K C∧NoAttr K C f∧fs.lookup f=some v∧Q v H1
def tCon (K:W.Frag) (ta:TE) (f:Str):TE:=fun σ H Q=>ta σ H fun x H1=>∃ a C dx fs v u,x=.ref a∧H1 a=some (.ins C dx fs)∧Cls K C∧Con K C f v u∧fs.lookup f=none∧Q v H1
def sFld (K:W.Frag) (ta tv:TE) (f:Str):TS:=fun D σ H=>tv σ H fun y H1=>ta σ H1 fun x H2=>∃ a C dx fs,x=.ref a∧H2 a=some (.ins C dx fs)∧Cls K C∧NoAttr K C f∧fs.length < 1000 ∧
 D.nx σ (upd H2 a (.ins C dx (putF f y fs)))
def J3S (K:W.Frag) (ta tv:TE) (rd:V→V→Hp→VK→Prop) (f:Str):TS:=fun D σ H=>ta σ H fun x H1=>∃ a C dx fs v,x=.ref a∧H1 a=some (.ins C dx fs)∧Cls K C∧NoAttr K C f∧fs.lookup f=some v ∧
 tv σ H1 fun y H2=>rd v y H2 fun z H3=>∃ dx' fs',H3 a=some (.ins C dx' fs')∧fs'.length < 1000∧D.nx σ (upd H3 a (.ins C dx' (putF f z fs')))
section
variable {X:Cx} {o e value:Expr} {f:Str} {pos pos' tpos:Pos} {ta tv:TE}
theorem J3p {pl:Sem Bool} {m:Str} {apos:Pos} {args:List Expr} {pins:List (Addr×Obj)} {s:Shared} {σ:St} {H:Hp} {Q:Value→Shared→Prop} {te:TE} (he:PE X e te) (I:Inv X pins σ H s)
  (h:te σ H fun x H1=>∃ a C dx fs g,x=.ref a∧H1 a=some (.ins C dx fs)∧Cls X.K C∧Meth X.K C m g∧fs.lookup m=none ∧
   ∀ s1,Inv X pins σ H1 s1→wpAny (model X.prog X.w) X.A (callWith pos (.ref g) [.ref a] (backTo pos (starEach args X.env)) (backToKw pos (keywordEach [] X.env))) Q X.xe s1)
  (ht:eval (.Call (.Attribute e m apos) args [] pos) X.env=(do
   let ov ← eval e X.env
   standAt apos.atName
   let (f,first) ← holding [ov] (getMethod ov m pl)
   callWith pos f first (backTo pos (starEach args X.env)) (backToKw pos (keywordEach [] X.env)))) :
  wpAny (model X.prog X.w) X.A (eval (.Call (.Attribute e m apos) args [] pos) X.env) Q X.xe s:=by
 refine W.methodCall_KW (pl:=pl) (thn (he pins s σ H _ I h) fun u s1 hz_=>?_) ht
 obtain ⟨x,H1,I1,rx,a,C,dx,fs,g,ex,ea,c,k,l,q⟩:=hz_
 subst ex
 obtain rfl:u=Value.ref a:=rx
 exact Z3h I1 ea c k l (q s1 I1)
end
section
variable {X:Cx} {pins:List (Addr×Obj)} {σ:St} {H:Hp} {s:Shared} {A:Around} {E:Value→Shared→Prop} {Q:Value→Shared→Prop} {c:Value} {b:Bool}
inductive TyOf (K:W.Frag) (H:Hp):V→Value→Prop where
 | non:TyOf K H .non (.type "NoneType")
 | bl (x:Bool):TyOf K H (.bl x) (.type "bool")
 | int (i:Int):TyOf K H (.int i) (.type "int")
 | str (x:Str):TyOf K H (.str x) (.type "str")
 | flt (x:UInt64):TyOf K H (.flt x) (.type "float")
 | lst {a:Addr} {xs:List V} (e:H a=some (.lst xs)):TyOf K H (.ref a) (.type "list")
 | frz {a:Addr} {o:Obj} {xs:List V} (e:H a=some (.frz o (.lst xs))):TyOf K H (.ref a) (.type "list")
 | tup {a:Addr} {xs:List V} (e:H a=some (.tup xs)):TyOf K H (.ref a) (.type "tuple")
 | dK {a:Addr} {kvs:List (Key×V)} (e:H a=some (.dK kvs)):TyOf K H (.ref a) (.type "dict")
 | dT {a:Addr} {kvs:List (List Key×V)} (e:H a=some (.dT kvs)):TyOf K H (.ref a) (.type "dict")
 | ins {a C dx:Addr} {fs:List (Str×V)} (e:H a=some (.ins C dx fs)) (cl:Cls K C) (ha:W.findIn K (.ref C) "__class__"=some (some (.builtin "object.__class__")))
   (hn:W.specialIn K (.builtin "object.__class__") "__get__"=some (some (.builtin "getset_descriptor.__get__"))) (htk:W.takesIn K (.builtin "object.__class__")=some true)
   (hm:W.mroIn K C (.type "object")=some true):TyOf K H (.ref a) (.ref C)
theorem Z9g {x:V} {u t:Value} (I:Inv X pins σ H s) (rx:RelV x u) (ty:TyOf X.K H x t) (e:W.kitOne X.K t c=some b) (h:∀ tk,Q (.bool b) { s with toks:=tk }) :
  wpAny (model X.prog X.w) A (call (.builtin "isinstance") [u,c]) Q E s:=by
 cases ty with
 | non=>cases (show u=Value.none from rx); exact W.kia_one W.kitx_none I.kIn True.intro e (fun z=>nomatch z) h
 | bl y=>cases (show u=Value.bool y from rx); exact W.kia_one W.kitx_bool I.kIn True.intro e (fun z=>nomatch z) h
 | int i=>obtain ⟨t,q⟩:=(show ∃ t,u=Value.int i t from rx); cases q; exact W.kia_one W.kitx_int I.kIn True.intro e (fun z=>nomatch z) h
 | str y=>obtain ⟨t,q⟩:=(show ∃ t,u=Value.str y t from rx); cases q; exact W.kia_one W.kitx_str I.kIn True.intro e (fun z=>nomatch z) h
 | flt y=>obtain ⟨t,q⟩:=(show ∃ t,u=Value.float y t from rx); cases q; exact W.kia_one W.kitx_float I.kIn True.intro e (fun z=>nomatch z) h
 | @lst a xs ea=>
  cases (show u=Value.ref a from rx)
  obtain ⟨_,_,n,_,h1⟩:=(show ObjOk X.prog X.w H s.heap a (.lst xs) from I.hok a _ ea)
  exact W.kia_one W.kitx_list I.kIn ⟨_,h1,rfl⟩ e (fun z=>nomatch z) h
 | @frz a ob xs ea=>
  cases (show u=Value.ref a from rx)
  obtain ⟨_,_,_,n,_,h1⟩:=(show ObjOk X.prog X.w H s.heap a (.frz ob (.lst xs)) from I.hok a _ ea)
  exact W.kia_one W.kitx_list I.kIn ⟨_,h1,rfl⟩ e (fun z=>nomatch z) h
 | @tup a xs ea=>
  cases (show u=Value.ref a from rx)
  obtain ⟨_,_,_,p⟩:=(show ObjOk X.prog X.w H s.heap a (.tup xs) from I.hok a _ ea)
  obtain ⟨o,h1,h2,_⟩:=p
  exact W.kia_one W.kitx_tuple I.kIn ⟨o,h1,h2⟩ e (fun z=>nomatch z) h
 | @dK a kvs ea=>
  cases (show u=Value.ref a from rx)
  obtain ⟨_,_,vs,_,p⟩:=(show ObjOk X.prog X.w H s.heap a (.dK kvs) from I.hok a _ ea)
  obtain ⟨o,es,ep,h1,h2,_⟩:=p
  exact W.kia_one W.kitx_dict I.kIn ⟨o,h1,h2.1⟩ e (fun z=>nomatch z) h
 | @dT a kvs ea=>
  cases (show u=Value.ref a from rx)
  obtain ⟨_,_,xs,_,o,es,ep,h1,h2,_⟩:=(show ObjOk X.prog X.w H s.heap a (.dT kvs) from I.hok a _ ea)
  exact W.kia_one W.kitx_dict I.kIn ⟨o,h1,h2.1⟩ e (fun z=>nomatch z) h
 | @ins a C dx fs ea cl ha hn htk hm=>
  cases (show u=Value.ref a from rx)
  obtain ⟨mA,O,_⟩:=Z4U I.hok ea
  obtain ⟨od,J,_⟩:=O.look
  exact W.kia_one (W.kitx_own (cl.get _) cl.hd ha hn htk hm) I.kIn J e (fun z=>nomatch z) h
end
end L2
namespace L2
open PySem PySem.Spec PyProof.Rows
structure Room (k:Nat) (A:Around):Prop where
 hd:A.handled=none
 dp:A.depth+3 * k+5 < recursionLimit
 un:A.units+16 * k+200 < cLine
 gd:A.guards=some []
theorem Room.mono {j k:Nat} {A:Around} (r:Room k A) (h:j≤k):Room j A:=⟨r.hd,by have:=r.dp; omega,by have:=r.un; omega,r.gd⟩
theorem Room.deeper {k:Nat} {A:Around} (r:Room (k+1) A) (env:Env):Room k (A.deeper env):=
 ⟨r.hd,by have:=r.dp; show A.depth+1+3 * k+5 < _; omega,by have:=r.un; show A.units+3+16 * k+200 < _; omega,r.gd⟩
theorem Room.in1 {k:Nat} {A:Around} (r:Room (k+1) A):Room k A.in1:=
 ⟨r.hd,by have:=r.dp; show A.depth+3 * k+5 < _; omega,by have:=r.un; show A.units+1+16 * k+200 < _; omega,r.gd⟩
theorem Z8z {A:Around} {C:Addr} {us:List Value} {kw:List (Str×Value)}:(A.under (.builtin "type.__call__" ⟨.ref C::us,kw⟩)).depth=A.depth+1:=by
 first | rfl | simp [Around.under,Code.weight,Code.isCreation,Code.isGuard,Code.isCaller,Code.frames,Code.isFrame,guardIds]
theorem Z7Z {A:Around} {C:Addr} {us:List Value} {kw:List (Str×Value)}:(A.under (.builtin "type.__call__" ⟨.ref C::us,kw⟩)).units=A.units+1:=by
 first | rfl | simp [Around.under,Code.cUnits,Code.frames,Code.isFrame]
theorem Room.make {k:Nat} {A:Around} (r:Room (k+1) A) (C:Addr) (us:List Value) (kw:List (Str×Value)):Room k (A.under (.builtin "type.__call__" ⟨.ref C::us,kw⟩)):=
 ⟨r.hd,by have:=r.dp; rw [Z8z]; omega,by have:=r.un; rw [Z7Z]; omega,r.gd⟩
theorem Room.depth {k:Nat} {A:Around} (r:Room k A):A.depth < recursionLimit:=by have:=r.dp; omega
theorem Room.units {k:Nat} {A:Around} (r:Room k A):A.units+64 < cLine:=by have:=r.un; omega
def tNil:TA:=fun _ H Q=>Q [] H
def J3Q (ta:TE) (tr:TA):TA:=fun σ H Q=>ta σ H fun x H1=>tr σ H1 fun xs H2=>Q (x::xs) H2
section
variable {X:Cx} {e:Expr} {es:List Expr} {te:TE} {t:TA} {pos:Pos}
theorem Z0d:PA X [] tNil:=fun _ _ _ _ H Q I h=>Calls.spliced_nil ⟨[],H,I,.nil,h⟩
theorem Z0a (ha:PE X e te) (hr:PA X es t) (hs:starEach (e::es) X.env=(false,eval e X.env)::starEach es X.env:=by rfl):PA X (e::es) (J3Q te t):=by
 intro pos pins s σ H Q I h
 rw [hs]
 show wpAny _ _ (spliced ((false,eval e X.env)::backTo pos (starEach es X.env))) _ _ s
 refine Calls.spliced_cons (thn (ha pins s σ H _ I h) fun u s1 ⟨x,H1,I1,r1,q1⟩=>?_)
 exact thn (hr pos pins s1 σ H1 _ I1 q1) fun us s2 ⟨xs,H2,I2,r2,q2⟩=>⟨x::xs,H2,I2,.cons r1 r2,q2⟩
def tTup (t:TA):TE:=fun σ H Q=>t σ H fun xs H1=>xs.length≤sizeLine∧∀ p,H1 p=none→Q (.ref p) (upd H1 p (.tup xs))
def tLst (t:TA):TE:=fun σ H Q=>t σ H fun xs H1=>xs.length≤sizeLine∧∀ p,H1 p=none→Q (.ref p) (upd H1 p (.lst xs))
theorem Z0x {x1} (h:PA X es t):PE X (.Tuple es x1 pos) (tTup t):=by
 intro pins s σ H Q I hq
 refine wpAny_Tuple_spliced (thn (h pos pins s σ H _ I hq) fun us s1 ⟨xs,H1,I1,r,z,q⟩=>⟨by rw [← r.length]; exact z,?_⟩)
 have hf:H1 s1.heap.objs.size=none:=I1.hok.fresh (Nat.le_refl _)
 refine ⟨.ref s1.heap.objs.size,upd H1 s1.heap.objs.size (.tup xs),I1.laid (t':=s1.toks) (fun b u e=>Heap.get?_push_of_some _ e) (Nat.le_refl _) ?_,rfl,q _ hf⟩
 exact ⟨⟨z,Z7s⟩,us,r,⟨_,Heap.get?_push_size _ rfl,rfl,_,rfl⟩⟩
theorem Z1h (h:PA X es t):PE X (.List es pos) (tLst t):=by
 intro pins s σ H Q I hq
 refine wpAny_List_spliced (thn (h pos pins s σ H _ I hq) fun us s1 ⟨xs,H1,I1,r,z,q⟩=>⟨by rw [← r.length]; exact z,?_⟩)
 have hf:H1 s1.heap.objs.size=none:=I1.hok.fresh (Nat.le_refl _)
 refine ⟨.ref s1.heap.objs.size,upd H1 s1.heap.objs.size (.lst xs),I1.laid (t':=s1.toks) (fun b u e=>Heap.get?_push_of_some _ e) (Nat.le_refl _) ?_,rfl,q _ hf⟩
 exact ⟨z,us,0,r,Heap.get?_push_size _ rfl⟩
end
abbrev Sp:=List V→Hp→VK→XK→Prop
abbrev CXT:=List Env→Hp→Shared→XK→Value→Shared→Prop
structure Env0 (P:Program) (w:World) (K:W.Frag) (mg:Str→Option Value) (base:Heap) (A:Around) (outer:List Env) (s:Shared) (H:Hp):Prop where
 frames:A.frames=some outer
 mod:Mod K mg base
 bs:∀ b o,base.get? b=some o→s.heap.get? b=some o∧H b=none
 bsz:base.objs.size≤s.heap.objs.size
 funs:s.heap.FunFrames base outer
 frf:∀ b∈frs outer,H b=none
 hok:HOk P w H s.heap
 bare:AllBare s.gens
def CE (outer:List Env) (P:Program) (w:World) (H:Hp) (s:Shared) (Q:VK) (u:Value) (s':Shared):Prop:=
 ∃ v H',s'.os=s.os∧AllBare s'.gens∧Un (frs outer) [] H H' s.heap s'.heap∧HOk P w H' s'.heap∧RelV v u∧Q v H'
def CR (CX:CXT) (outer:List Env) (P:Program) (w:World) (H:Hp) (s:Shared) (Q:VK) (E:XK) (r:Result) (s':Shared):Prop:=
 match r with
 | .ok (.ret u)=>CE outer P w H s Q u s'
 | .ok _=>False
 | .error e=>CX outer H s E e s'
structure FnOk (P:Program) (w:World) (K:W.Frag) (mg:Str→Option Value) (base:Heap) (CX:CXT) (k:Nat) (f:Addr) (fd:FuncData) (ps:List Str) (sp:Sp):Prop where
 len:∀ vs H Q E,sp vs H Q E→vs.length=ps.length
 run:∀ (A:Around) (outer:List Env) (s:Shared) (H:Hp) (args:Args) (us:List Value) (vs:List V) (Q:VK) (E:XK),Room k A→Env0 P w K mg base A outer s H→BindsTo s fd args (ps.zip us)→Vals vs us→sp vs H Q E →
  codeAny (model P w) A (.call (.ref f) args) (CR CX outer P w H s Q E) s
theorem Env0.make {P:Program} {w:World} {K:W.Frag} {mg:Str→Option Value} {base:Heap} {A:Around} {outer:List Env} {s:Shared} {H:Hp} (e:Env0 P w K mg base A outer s H) (C:Addr) (us:List Value) (kw:List (Str×Value)) :
  Env0 P w K mg base (A.under (.builtin "type.__call__" ⟨.ref C::us,kw⟩)) outer s H:=⟨by first | exact e.frames | (simpa [Around.under,Code.envs,Code.isFrame,pushEnvs] using e.frames),e.mod,e.bs,e.bsz,e.funs,e.frf,e.hok,e.bare⟩
section
variable {X:Cx} {pins:List (Addr×Obj)} {σ:St} {H:Hp} {s s':Shared}
theorem Inv.env0 (I:Inv X pins σ H s):Env0 X.prog X.w X.K X.mg X.base X.A X.stack s H:=
 ⟨I.ok.frames,I.ok.mod,I.bs,Nat.le_trans I.ok.bsz I.sz,I.stack,I.stkFree,I.hok,I.bare⟩
theorem Inv.after {Q:VK} {u:Value} (I:Inv X pins σ H s) (h:CE X.stack X.prog X.w H s Q u s'):EP X pins σ Q u s':=by
 obtain ⟨v,H',os,bare,un,hok,r,q⟩:=h
 obtain ⟨hh,g,d,t,os'⟩:=s'
 obtain rfl:os'=s.os:=os
 exact ⟨v,H',I.call (h':=hh) (g':=g) (d':=d) (t':=t) (ch:=[]) un hok bare (fun b z=>absurd z (by simp)),r,q⟩
end
def J3U (sp:Sp) (dvs:List V) (E:XK) (t:TA):TE:=fun σ H Q=>t σ H fun vs H1=>sp (vs++dvs) H1 Q E
def Z9K (C:Addr) (m:Str) (sp:Sp) (dvs:List V) (E:XK) (ta:TE) (t:TA):TE:=fun σ H Q=>ta σ H fun x H1=>∃ a dx fs,x=.ref a∧H1 a=some (.ins C dx fs)∧fs.lookup m=none ∧
 t σ H1 fun vs H2=>sp (x::(vs++dvs)) H2 Q E
def J3D (C:Addr) (sp:Sp) (dvs:List V) (E:XK) (t:TA):TE:=fun σ H Q=>t σ H fun vs H1=>∀ x dx,H1 x=none→H1 dx=none→dx≠x →
 sp (.ref x::(vs++dvs)) (upd (upd H1 dx (.own x)) x (.ins C dx [])) (fun v H2=>v=.non∧Q (.ref x) H2) E
def Binds (K:W.Frag) (fd:FuncData) (ps:List Str) (ds:List Value):Prop:=
 ∀ (s:Shared) (us:List Value),K.In s.heap→(us++ds).length=ps.length→BindsTo s fd ⟨us,[]⟩ (ps.zip (us++ds))
theorem Binds.all {K:W.Frag} {fd:FuncData} {ps:List Str} (h:∀ us:List Value,us.length=ps.length→bindArgs fd ⟨us,[]⟩=pure (ps.zip us)):Binds K fd ps []:=fun s us _ hl=>by
 rw [List.append_nil] at hl ⊢
 exact .of_eq (h us hl)
def Z3U (CX:CXT) (X:Cx) (E:XK):Prop:=∀ (pins:List (Addr×Obj)) (σ:St) (H:Hp) (s:Shared) (e:Value) (s':Shared),Inv X pins σ H s→CX X.stack H s E e s'→X.xe e s'
section
variable {X:Cx} {CX:CXT} {k:Nat} {f C:Addr} {fd:FuncData} {ps:List Str} {sp:Sp} {dvs:List V} {ds:List Value} {E:XK} {x m:Str} {p pos apos:Pos} {e o:Expr} {es:List Expr} {ta:TE} {t:TA}
theorem Z8Q {pins:List (Addr×Obj)} {σ:St} {H:Hp} {s:Shared} {Q:VK} {us:List Value} {vs:List V} (F:FnOk X.prog X.w X.K X.mg X.base CX k f fd ps sp) (hr:Room k X.A) (hb:Binds X.K fd ps ds) (hd:Vals dvs ds) (hx:Z3U CX X E)
  (I:Inv X pins σ H s) (r:Vals vs us) (h:sp (vs++dvs) H Q E):wpAny (model X.prog X.w) X.A (call (.ref f) us) (EP X pins σ Q) X.xe s:=by
 have r2:Vals (vs++dvs) (us++ds):=r.append hd
 have hl:(us++ds).length=ps.length:=by rw [← r2.length]; exact F.len _ _ _ _ h
 refine wpAny_call (codeAny_mono (F.run X.A X.stack s H ⟨us,[]⟩ (us++ds) (vs++dvs) Q E hr I.env0 (hb s us I.kIn hl) r2 h) fun r s' hq=>?_)
 cases r with
 | error e=>exact hx pins σ H s e s' I hq
 | ok fl=>
  cases fl with
  | ret u=>exact I.after hq
  | next=>exact False.elim hq
  | brk=>exact False.elim hq
  | cont=>exact False.elim hq
theorem J4d (F:FnOk X.prog X.w X.K X.mg X.base CX k f fd ps sp) (hr:Room k X.A) (hg:Gl X x) (hm:X.mg x=some (.ref f)) (hk:W.keepIn X.K (.ref f)=true) (hb:Binds X.K fd ps ds) (hd:Vals dvs ds) (hx:Z3U CX X E)
  (ha:PA X (e::es) t) (hdb:(x == ("__debug__":Str))=false:=by decide) (he:starEach (e::es) X.env=(false,eval e X.env)::starEach es X.env:=by rfl) (hpl:(backTo pos (starEach es X.env)).any (·.1)=false:=by rfl) :
  PE X (.Call (.Name x p) (e::es) [] pos) (J3U sp dvs E t):=by
 intro pins s σ H Q I h
 refine wpAny_Call_Name_kw (Z6H I hg hm ?_ hdb)
 refine W.callWith_K (h₀:=X.base) I.ok.mod.kin hk (thn (ha pos pins s σ H _ I h) fun us s1 ⟨vs,H1,I1,r,q⟩=>⟨I1.kIn,?_⟩) he hpl
 exact Z8Q F hr hb hd hx I1 r q
theorem J3B {pl:Sem Bool} (he:PE X o ta) (c:Cls X.K C) (hm:Meth X.K C m f) (F:FnOk X.prog X.w X.K X.mg X.base CX k f fd ps sp) (hr:Room k X.A) (hb:Binds X.K fd ps ds) (hd:Vals dvs ds) (hx:Z3U CX X E) (ha:PA X (e::es) t)
  (hst:starEach (e::es) X.env=(false,eval e X.env)::starEach es X.env:=by rfl) (hpl:(backTo pos (starEach es X.env)).any (·.1)=false:=by rfl)
  (ht:eval (.Call (.Attribute o m apos) (e::es) [] pos) X.env=(do
   let ov ← eval o X.env
   standAt apos.atName
   let (f,first) ← holding [ov] (getMethod ov m pl)
   callWith pos f first (backTo pos (starEach (e::es) X.env)) (backToKw pos (keywordEach [] X.env))):=by rfl) :
  PE X (.Call (.Attribute o m apos) (e::es) [] pos) (Z9K C m sp dvs E ta t):=by
 intro pins s σ H Q I h
 refine W.methodCall_KW (pl:=pl) (thn (he pins s σ H _ I h) fun u s1 hz_=>?_) ht
 obtain ⟨x,H1,I1,rx,a,dx,fs,ex,ea,l,q⟩:=hz_
 subst ex
 obtain rfl:u=Value.ref a:=rx
 refine Z3h I1 ea c hm l ?_
 refine W.callWith_K (first:=[.ref a]) (h₀:=X.base) I.ok.mod.kin hm.kp (thn (ha pos pins s1 σ H1 _ I1 q) fun us s2 ⟨vs,H2,I2,r,q2⟩=>⟨I2.kIn,?_⟩) hst hpl
 exact Z8Q (us:=.ref a::us) (vs:=.ref a::vs) F hr hb hd hx I2 (.cons rfl r) q2
theorem J2n {pl:Sem Bool} (he:PE X o ta) (c:Cls X.K C) (hm:Meth X.K C m f) (F:FnOk X.prog X.w X.K X.mg X.base CX k f fd ps sp) (hr:Room k X.A) (hb:Binds X.K fd ps ds) (hd:Vals dvs ds) (hx:Z3U CX X E)
  (ht:eval (.Call (.Attribute o m apos) [] [] pos) X.env=(do
   let ov ← eval o X.env
   standAt apos.atName
   let (f,first) ← holding [ov] (getMethod ov m pl)
   callWith pos f first (backTo pos (starEach [] X.env)) (backToKw pos (keywordEach [] X.env))):=by rfl) :
  PE X (.Call (.Attribute o m apos) [] [] pos) (Z9K C m sp dvs E ta tNil):=by
 intro pins s σ H Q I h
 refine W.methodCall_KW (pl:=pl) (thn (he pins s σ H _ I h) fun u s1 hz_=>?_) ht
 obtain ⟨x,H1,I1,rx,a,dx,fs,ex,ea,l,q⟩:=hz_
 subst ex
 obtain rfl:u=Value.ref a:=rx
 refine Z3h I1 ea c hm l ?_
 exact W.callWith_K0 (first:=[.ref a]) I1.kIn hm.kp (Z8Q (us:=[.ref a]) (vs:=[.ref a]) F hr hb hd hx I1 (.cons rfl .nil) q)
structure Mk (K:W.Frag) (C f:Addr):Prop where
 makes:W.makesIn K C=true
 init:W.findIn K (.ref C) "__init__"=some (some (.ref f))
 fn:W.isFn K (.ref f)=true
 kp:W.keepIn K (.ref C)=true
theorem J0P {pins:List (Addr×Obj)} {σ:St} {H:Hp} {s:Shared} {Q:VK} {us:List Value} {vs:List V} (M:Mk X.K C f) (F:FnOk X.prog X.w X.K X.mg X.base CX k f fd ps sp) (hr:Room (k+1) X.A) (hb:Binds X.K fd ps ds) (hd:Vals dvs ds)
  (hx:Z3U CX X E) (I:Inv X pins σ H s) (r:Vals vs us)
  (h:∀ x dx,H x=none→H dx=none→dx≠x→sp (.ref x::(vs++dvs)) (upd (upd H dx (.own x)) x (.ins C dx [])) (fun v H2=>v=.non∧Q (.ref x) H2) E) :
  wpAny (model X.prog X.w) X.A (call (.ref C) us) (EP X pins σ Q) X.xe s:=by
 have hq:=h (s.heap.objs.size+1) s.heap.objs.size (I.hok.fresh (Nat.le_succ _)) (I.hok.fresh (Nat.le_refl _)) (Nat.ne_of_lt (Nat.lt_succ_self _))
 have I2:=Inv.made (C:=C) I
 have r2:Vals (V.ref (s.heap.objs.size+1)::(vs++dvs)) (Value.ref (s.heap.objs.size+1)::(us++ds)):=.cons rfl (r.append hd)
 have hl:(Value.ref (s.heap.objs.size+1)::us++ds).length=ps.length:=by
  have e:=r2.length
  rw [F.len _ _ _ _ hq] at e
  exact e.symm
 refine wpAny_call (J2g (f:=f) I.kIn M.makes M.init (beq_iff_eq.mp M.fn) (codeAny_mono (F.run _ X.stack _ _ ⟨Value.ref (s.heap.objs.size+1)::us,[]⟩ (Value.ref (s.heap.objs.size+1)::(us++ds)) _ _ E (hr.make C us [])
  (I2.env0.make C us []) (hb _ (Value.ref (s.heap.objs.size+1)::us) I2.kIn hl) r2 hq) fun r s' hq'=>?_))
 cases r with
 | error e=>exact hx pins σ _ _ e s' I2 hq'
 | ok fl=>
  cases fl with
  | ret u=>
   obtain ⟨v,H',I3,rv,ev,q3⟩:=I2.after hq'
   subst ev
   exact ⟨rv,⟨V.ref (s.heap.objs.size+1),H',I3,rfl,q3⟩⟩
  | next=>exact False.elim hq'
  | brk=>exact False.elim hq'
  | cont=>exact False.elim hq'
theorem J4c (M:Mk X.K C f) (F:FnOk X.prog X.w X.K X.mg X.base CX k f fd ps sp) (hr:Room (k+1) X.A) (hg:Gl X x) (hm:X.mg x=some (.ref C)) (hb:Binds X.K fd ps ds) (hd:Vals dvs ds) (hx:Z3U CX X E)
  (ha:PA X (e::es) t) (hdb:(x == ("__debug__":Str))=false:=by decide) (he:starEach (e::es) X.env=(false,eval e X.env)::starEach es X.env:=by rfl) (hpl:(backTo pos (starEach es X.env)).any (·.1)=false:=by rfl) :
  PE X (.Call (.Name x p) (e::es) [] pos) (J3D C sp dvs E t):=by
 intro pins s σ H Q I h
 refine wpAny_Call_Name_kw (Z6H I hg hm ?_ hdb)
 refine W.callWith_K (h₀:=X.base) I.ok.mod.kin M.kp (thn (ha pos pins s σ H _ I h) fun us s1 ⟨vs,H1,I1,r,q⟩=>⟨I1.kIn,?_⟩) he hpl
 exact J0P M F hr hb hd hx I1 r q
end
def PK (X:Cx) (kws:List Keyword) (t:TA):Prop:=
 ∀ (pos:Pos) (pins:List (Addr×Obj)) (s:Shared) (σ:St) (H:Hp) (Q:List V→Hp→Prop),Inv X pins σ H s→t σ H Q→wpAny (model X.prog X.w) X.A (evalAll ((backToKw pos (keywordEach kws X.env)).map (·.2))) (AP X pins σ Q) X.xe s
section
variable {X:Cx} {CX:CXT} {k:Nat} {f C:Addr} {fd:FuncData} {ps ks:List Str} {sp:Sp} {E:XK} {x m:Str} {p pos apos kpos:Pos} {e o:Expr} {es:List Expr} {kws:List Keyword} {te ta:TE} {t tk:TA} {nm:Option Str}
theorem J5P:PK X [] tNil:=fun _ _ _ _ H Q I h=>wpAny_evalAll_nil ⟨[],H,I,.nil,h⟩
theorem J4p (ha:PE X e te) (hr:PK X kws t):PK X (⟨nm,e,kpos⟩::kws) (J3Q te t):=by
 intro pos pins s σ H Q I h
 show wpAny _ _ (evalAll ((do let v ← eval e X.env; standAt pos; pure v)::(backToKw pos (keywordEach kws X.env)).map (·.2))) _ _ s
 refine wpAny_evalAll_cons (wpAny_bind (thn (ha pins s σ H _ I h) fun u s1 ⟨x,H1,I1,r1,q1⟩=>wpAny_bind (wpAny_standAt (wpAny_pure ?_))))
 exact thn (hr pos pins s1 σ H1 _ I1 q1) fun us s2 ⟨xs,H2,I2,r2,q2⟩=>⟨x::xs,H2,I2,.cons r1 r2,q2⟩
variable {g:List Value→List Value→List Value} {gV:List V→List V→List V}
end
structure Z0o (N P:List Str) (sc:Scope):Prop where
 kind:sc.kind=.function
 co:sc.isCoroutine=false
 gen:sc.isGenerator=false
 nd:N.Nodup
 pre:N.take P.length=P
 par:∀ x∈P,sc.names.lookup x=some .local∨sc.names.lookup x=some .cell
 nofree:∀ y∈sc.names,y.2≠.free
theorem Z6p {kindOf:Str→Option NameKind} {x:Str}:∀ {binds:List (Str×Value)} {m:Str→Option Value},(∀ v,(x,v)∉binds)→bindL kindOf binds m x=m x
 | [],_,_=>rfl
 | (n,v)::r,m,h=>by
  unfold bindL
  rw [Z6p fun w hw=>h w (List.mem_cons_of_mem _ hw)]
  split
  ·have:x≠n:=by rintro rfl; exact h v List.mem_cons_self
   simp [this]
  ·rfl
theorem Z5F {kindOf:Str→Option NameKind} {x:Str}:∀ {binds:List (Str×Value)} {m:Str→Option Value},(∀ v,(x,v)∉binds)→bindC kindOf binds m x=m x
 | [],_,_=>rfl
 | (n,v)::r,m,h=>by
  unfold bindC
  rw [Z5F fun w hw=>h w (List.mem_cons_of_mem _ hw)]
  split
  ·rfl
  ·have:x≠n:=by rintro rfl; exact h v List.mem_cons_self
   simp [this]
theorem Z5w {kindOf:Str→Option NameKind} {x:Str} {v:Value}:∀ {P:List Str} {vs:List Value} {i:Nat} {m:Str→Option Value},P.Nodup→P[i]?=some x→vs[i]?=some v→kindOf x=some .local →
  bindL kindOf (P.zip vs) m x=some v
 | [],_,_,_,_,h,_,_=>by simp at h
 | _::_,[],_,_,_,_,h,_=>by simp at h
 | p::P,w::vs,0,m,nd,h1,h2,hk=>by
  simp at h1 h2; subst h1; subst h2
  show bindL kindOf ((p,w)::P.zip vs) m p=_
  unfold bindL
  rw [Z6p fun v hv=>(List.nodup_cons.mp nd).1 (List.of_mem_zip hv).1,if_pos hk]
  simp
 | p::P,w::vs,i+1,m,nd,h1,h2,hk=>by
  show bindL kindOf ((p,w)::P.zip vs) m x=_
  unfold bindL
  exact Z5w (i:=i) (List.nodup_cons.mp nd).2 (by simpa using h1) (by simpa using h2) hk
theorem Z6a {kindOf:Str→Option NameKind} {x:Str} {v:Value}:∀ {P:List Str} {vs:List Value} {i:Nat} {m:Str→Option Value},P.Nodup→P[i]?=some x→vs[i]?=some v→kindOf x≠some .local →
  bindC kindOf (P.zip vs) m x=some v
 | [],_,_,_,_,h,_,_=>by simp at h
 | _::_,[],_,_,_,_,h,_=>by simp at h
 | p::P,w::vs,0,m,nd,h1,h2,hk=>by
  simp at h1 h2; subst h1; subst h2
  show bindC kindOf ((p,w)::P.zip vs) m p=_
  unfold bindC
  rw [Z5F fun v hv=>(List.nodup_cons.mp nd).1 (List.of_mem_zip hv).1,if_neg hk]
  simp
 | p::P,w::vs,i+1,m,nd,h1,h2,hk=>by
  show bindC kindOf ((p,w)::P.zip vs) m x=_
  unfold bindC
  exact Z6a (i:=i) (List.nodup_cons.mp nd).2 (by simpa using h1) (by simpa using h2) hk
def Z4m (N:List Str) (vs:List V):St:=vs.map some++List.replicate (N.length - vs.length) none
def cxOf (CX:CXT) (P:Program) (w:World) (K:W.Frag) (mg:Str→Option Value) (base:Heap) (N:List Str) (qual:Str) (scope:Scope) (f:Addr) (cd:Value) (A:Around) (outer:List Env) (s:Shared) (H:Hp) (E:XK):Cx where
 prog:=P
 w:=w
 K:=K
 mg:=mg
 base:=base
 A:=A.deeper (envOfC qual scope s.heap.objs.size f cd)
 N:=N
 s₀:=s
 H₀:=H
 env:=envOfC qual scope s.heap.objs.size f cd
 outer:=outer
 stack:=envOfC qual scope s.heap.objs.size f cd::outer
 ex:=[]
 calm:=true
 fn:=fun _=>true
 pn:=[]
 xe:=fun e s'=>wpAny (model P w) (A.deeper (envOfC qual scope s.heap.objs.size f cd)) (leaving (envOfC qual scope s.heap.objs.size f cd) e) (fun _ s''=>CX outer H s E e s'') (fun e' s''=>CX outer H s E e' s'') s'
theorem Z7z {sc:Scope} {n:Nat} {x:Str} (h:sc.names.lookup x=some .cell):∃ c,(cellsFrom n sc.names []).lookup x=some c:=by
 have q:=W.cellsFrom_some sc.names n [] (.inl h)
 exact Option.isSome_iff_exists.mp q
theorem Z8V {CX:CXT} {P:Program} {w:World} {K:W.Frag} {mg:Str→Option Value} {base:Heap} {N ps:List Str} {qual:Str} {scope:Scope} {f:Addr} {cd:Value} {A:Around} {outer:List Env} {s s1:Shared} {H:Hp} {E:XK} {us:List Value} {vs:List V}
  (S:Z0o N ps scope) (hd:A.handled=none) (e0:Env0 P w K mg base A outer s H) (hl:vs.length=ps.length) (r:Vals vs us)
  (x:InCallC s s.heap.objs.size (bindL (envOfC qual scope s.heap.objs.size f cd).kindOf (ps.zip us) fun _=>none) (cellsFrom (s.heap.objs.size+1) scope.names []) (bindC (envOfC qual scope s.heap.objs.size f cd).kindOf (ps.zip us) fun _=>none) s1) :
  Inv (cxOf CX P w K mg base N qual scope f cd A outer s H E) [] (Z4m N vs) H s1:=by
 have hpl:ps.length≤N.length:=by have:=congrArg List.length S.pre; rw [List.length_take] at this; omega
 obtain ⟨h1,tk,rfl,hk⟩:=x.done
 have noA:∀ b:Addr,b∉(cxOf CX P w K mg base N qual scope f cd A outer s H E).ex:=fun b z=>absurd (show b∈([]:List Addr) from z) (by simp)
 refine ⟨⟨e0.mod,S.kind,rfl,rfl,Nat.le_refl _,fun y z c h1 h2=>?_,fun y hy=>?_,fun y c _ h=>?_,fun _=>hd,Around.frames_deeper e0.frames,.inr ⟨rfl,rfl⟩,fun b z=>absurd z (noA b),e0.bs,e0.bsz,fun b _ _=>noA b,fun b z=>absurd z (noA b),e0.funs,e0.frf⟩,
  rfl,e0.bare,Un.kept hk,⟨_,x.toInCall.ns,fun i y v h1 h2 h3=>?_⟩,fun y c h=>⟨_,x.cell y c h⟩,e0.hok.fresh (Nat.le_refl _),fun y c h=>?_,fun p hp=>absurd (show p∈([]:List (Addr×Obj)) from hp) (by simp),e0.hok.kept hk,?_⟩
 ·exact name_of_addr x.apart (PySem.mem_of_lookup h1) (PySem.mem_of_lookup h2)
 ·have hy:scope.names.lookup y=some .cell∨scope.names.lookup y=some .free:=hy
  rcases hy with hy | hy
  ·exact Z7z hy
  ·exact absurd rfl (S.nofree _ (PySem.mem_of_lookup hy))
 ·exact Nat.le_of_lt (x.above y c (PySem.mem_of_lookup h))
 ·have hi:i < vs.length:=by
   unfold Z4m at h2
   by_cases hi:i < vs.length
   ·exact hi
   ·rw [List.getElem?_append_right (by simpa using hi)] at h2
    rw [List.getElem?_replicate] at h2
    split at h2 <;> cases h2
  have ha:vs[i]?=some v:=by
   unfold Z4m at h2
   rw [List.getElem?_append_left (by simpa using hi),List.getElem?_map] at h2
   cases e:vs[i]? with
   | none=>rw [e] at h2; cases h2
   | some a=>rw [e] at h2; cases h2; rfl
  obtain ⟨u,hu,rv⟩:=r.get ha
  have hp:ps[i]?=some y:=by
   rw [← S.pre,List.getElem?_take_of_lt (by omega)]; exact h1
  have ndP:ps.Nodup:=by rw [← S.pre]; exact S.nd.sublist (List.take_sublist _ _)
  refine ⟨u,rv,?_⟩
  rcases S.par y (List.mem_of_getElem? hp) with k | k
  ·exact .inl ⟨k,Z5w ndP hp hu k⟩
  ·obtain ⟨c,e⟩:=Z7z (n:=s.heap.objs.size+1) k
   refine .inr ⟨.inl k,c,e,?_⟩
   have q:=x.cell y c e
   rw [Z6a ndP hp hu (by show scope.names.lookup y≠_; rw [k]; decide)] at q
   exact q
 ·exact e0.hok.fresh (Nat.le_of_lt (x.above y c (PySem.mem_of_lookup h)))
 ·unfold Z4m
  show _=N.length
  rw [List.length_append,List.length_map,List.length_replicate]
  omega
theorem J5y {CX:CXT} {P:Program} {w:World} {K:W.Frag} {mg:Str→Option Value} {base:Heap} {k:Nat} {f:Addr} {name qual:Str} {params:Arguments} {body:List Stmt} {scope:Scope} {dV kV doc pm cdv ct oc:Value} {an od:Option Addr}
  {osl:Array (Option Value)} {N ps:List Str} {sp:Sp} (lk:K.lookup f=some ⟨oc,od,.func (W.fnOf name qual params body scope dV kV doc pm an cdv ct),osl⟩) (hcd:W.codeIn K cdv qual=true) (S:Z0o N ps scope)
  (len:∀ vs H Q E,sp vs H Q E→vs.length=ps.length)
  (hbody:∀ (A:Around) (outer:List Env) (s:Shared) (H:Hp) (vs:List V) (Q:VK) (E:XK),Room k (A.deeper (envOfC qual scope s.heap.objs.size f cdv))→sp vs H Q E →
   ∃ t,PSs (cxOf CX P w K mg base N qual scope f cdv A outer s H E) body t∧t { nx:=fun _ H'=>Q .non H',rt:=Q } (Z4m N vs) H) :
  FnOk P w K mg base CX (k+1) f (W.fnOf name qual params body scope dV kV doc pm an cdv ct) ps sp:=by
 refine ⟨len,fun A outer s H args us vs Q E hr e0 hb r hsp=>?_⟩
 have hl:=len _ _ _ _ hsp
 have KX:K.In s.heap:=e0.mod.kin.keeps fun b o e=>(e0.bs b o e).1
 have lim:s.heap.NoLimit:=e0.mod.nolimit.keeps fun b o e=>(e0.bs b o e).1
 have hkind:∀ y∈ps.zip us,scope.names.lookup y.1=some .local∨(scope.names.lookup y.1=some .cell∧((cellsFrom (s.heap.objs.size+1) scope.names []).lookup y.1).isSome=true):=fun ⟨n,v⟩ hy=>by
  rcases S.par n (List.of_mem_zip hy).1 with q | q
  ·exact .inl q
  ·exact .inr ⟨q,W.cellsFrom_some _ _ _ (.inl q)⟩
 refine codeAny_call_function hr.depth (KX _ _ lk) rfl S.co S.gen rfl (W.codeRec_of KX hcd) (hb _ _ _ _ ?_)
 refine wpAny_newFunctionEnv_cells S.kind hkind fun env he s1 x=>?_
 subst he
 refine ⟨lim.keeps x.toInCall.keep,codeAny_func ?_⟩
 obtain ⟨t,ht,hq⟩:=hbody A outer s H vs Q E (hr.deeper _) hsp
 have I:Inv (cxOf CX P w K mg base N qual scope f cdv A outer s H E) [] (Z4m N vs) H s1:=Z8V S hr.hd e0 hl r x
 refine wpAny_mono (ht [] s1 (Z4m N vs) H _ I hq) (fun fl s' hs=>?_) fun e s' hs=>hs
 have fin:∀ {σ':St} {H':Hp} {v:V} {u:Value},Inv (cxOf CX P w K mg base N qual scope f cdv A outer s H E) [] σ' H' s'→RelV v u→Q v H'→CE outer P w H s Q u s':=
  fun {σ' H' v u} J rv q=>⟨v,H',J.os,J.bare,J.base,J.hok,rv,q⟩
 cases fl with
 | ret u=>
  obtain ⟨v,σ',H',J,rv,q⟩:=hs
  exact fin J rv q
 | next=>
  obtain ⟨σ',H',J,q⟩:=hs
  exact fin (v:=V.non) (u:=Value.none) J rfl q
 | brk=>
  obtain ⟨_,_,_,q⟩:=hs
  exact False.elim q
 | cont=>
  obtain ⟨_,_,_,q⟩:=hs
  exact False.elim q
end L2
namespace L2
open PySem PySem.Spec PyProof.Rows
section
variable {X:Cx} {x:Str} {p pos:Pos} {e:Expr} {es:List Expr} {t:TA} {id T:String} {r:List V→Hp→VK→Prop}
def tCB (r:List V→Hp→VK→Prop) (t:TA):TE:=fun σ H Q=>t σ H fun vs H1=>r vs H1 Q
theorem Z2d (hc:Z3N X (.builtin id) r) (hg:Gl X x) (hm:X.mg x=none) (hv:bootBuiltins x=some (.builtin id)) (ha:PA X (e::es) t) (hn:x≠"__name__":=by decide) (hdb:(x == ("__debug__":Str))=false:=by decide)
  (he:starEach (e::es) X.env=(false,eval e X.env)::starEach es X.env:=by rfl) (hpl:(backTo pos (starEach es X.env)).any (·.1)=false:=by rfl):PE X (.Call (.Name x p) (e::es) [] pos) (tCB r t):=by
 intro pins s σ H Q I h
 refine wpAny_Call_Name_kw (Z2y I hg hm hv ?_ hn hdb)
 exact PyProof.Rows.callWith_builtin1 (thn (ha pos pins s σ H _ I h) fun us s1 ⟨vs,H1,I1,r1,q1⟩=>hc pins s1 σ H1 vs us Q I1 r1 q1) he hpl
theorem Z0z (hc:Z3N X (.type T) r) (hg:Gl X x) (hm:X.mg x=none) (hv:bootBuiltins x=some (.type T)) (ha:PA X (e::es) t) (hn:x≠"__name__":=by decide) (hdb:(x == ("__debug__":Str))=false:=by decide)
  (he:starEach (e::es) X.env=(false,eval e X.env)::starEach es X.env:=by rfl) (hpl:(backTo pos (starEach es X.env)).any (·.1)=false:=by rfl):PE X (.Call (.Name x p) (e::es) [] pos) (tCB r t):=by
 intro pins s σ H Q I h
 refine wpAny_Call_Name_kw (Z2y I hg hm hv ?_ hn hdb)
 exact PyProof.Rows.callWith_type1 (thn (ha pos pins s σ H _ I h) fun us s1 ⟨vs,H1,I1,r1,q1⟩=>hc pins s1 σ H1 vs us Q I1 r1 q1) he hpl
end
end L2
namespace HT
open PySem PyProof.Rows
section
open PySem.SeqAt
open PySem.AutoSeq1 (wpAny_loadPart')
open PySem.MeetsSeq PySem.MeetsSeq2 PySem.MeetsSeq3
end
section
variable {prog:Program} {w:World} {A:Around} {E:Value→Shared→Prop} {s:Shared}
theorem cat_tup {t b:Addr} {vs ws:List Value} {Q:Value→Shared→Prop} (ht:IsTup s.heap t vs.toArray) (hb:IsTup s.heap b ws.toArray) (hv:vs≠[])
  (h1:ws=[]→Q (.ref t) s) (h2:ws≠[]→Q (.ref s.heap.objs.size) { s with heap:=s.heap.push { cls:=.type "tuple",data:=.seq (vs++ws).toArray } })
  (hsz:vs.length+ws.length≤sizeLine):wpAny (model prog w) A (binaryOp .Add (.ref t) (.ref b)) Q E s:=by
 obtain ⟨⟨cls,dd,data,sl⟩,ho,hc,n,hd⟩:=id ht
 obtain ⟨⟨cls2,dd2,data2,sl2⟩,ho2,hc2,n2,hd2⟩:=id hb
 simp only at hc hd hc2 hd2
 subst hc hd hc2 hd2
 have e:vs.toArray++ws.toArray=(vs++ws).toArray:=by simp
 by_cases hw:ws=[]
 ·exact concat_meets ⟨_,ho,rfl⟩ ⟨_,ho2,rfl⟩ noFill_tuple_add seq_tuple_add PySem.F.slot_tuple_add PySem.F.entry_tuple_add (PySem.F.args_tuple_add_2 _ _)
   (tuple_addW1 t b vs.toArray ws.toArray n n2 dd dd2 sl sl2 (by simpa using hv) (by simp [hw])) ⟨ho,ho2,h1 hw⟩
 ·refine concat_meets ⟨_,ho,rfl⟩ ⟨_,ho2,rfl⟩ noFill_tuple_add seq_tuple_add PySem.F.slot_tuple_add PySem.F.entry_tuple_add (PySem.F.args_tuple_add_2 _ _)
   (tuple_addW2 t b vs.toArray ws.toArray n n2 dd dd2 sl sl2 (by simpa using hv) (by simpa using hw) (by rw [List.size_toArray,List.size_toArray]; exact hsz)) ⟨ho,ho2,?_⟩
  rw [e]
  exact h2 hw
def sIx (n d:Nat):Option Int→Nat
 | none=>d
 | some v=>if v < 0 then (v+(n:Int)).toNat else min v.toNat n
theorem sIx_nat (n d k:Nat):sIx n d (some (k:Int))=min k n:=by
 show (if (k:Int) < 0 then ((k:Int)+(n:Int)).toNat else min (k:Int).toNat n)=min k n
 rw [if_neg (by omega),Int.toNat_natCast]
theorem J4T (n d:Nat) (hd:d≤n) (o:Option Int):sIx n d o≤n:=by
 cases o with
 | none=>exact hd
 | some v=>
  show (if v < 0 then (v+(n:Int)).toNat else min v.toNat n)≤n
  by_cases hv:v < 0
  ·rw [if_pos hv]; omega
  ·rw [if_neg hv]; exact Nat.min_le_right _ _
theorem Z9R (v:Int) (n d:Nat):(if v < 0 then max (v+(n:Int)) 0 else min v (n:Int))=((sIx n d (some v):Nat):Int):=by
 show (if v < 0 then max (v+(n:Int)) 0 else min v (n:Int))=(((if v < 0 then (v+(n:Int)).toNat else min v.toNat n):Nat):Int)
 by_cases hv:v < 0
 ·simp only [if_pos hv]; omega
 ·simp only [if_neg hv]; omega
theorem Z8b (lo hi:Option Int) (n:Nat):Builtin.Slice.sliceAdjust lo hi 1 (n:Int)=(((sIx n 0 lo:Nat):Int),((sIx n n hi:Nat):Int)):=by
 have h1:¬ ((1:Int) < 0):=by omega
 unfold Builtin.Slice.sliceAdjust
 simp only [h1,if_false]
 refine Prod.ext ?_ ?_
 ·cases lo with
  | none=>rfl
  | some v=>exact Z9R v n 0
 ·cases hi with
  | none=>rfl
  | some v=>exact Z9R v n n
theorem Z8x (i j:Nat):Builtin.Slice.slicePlaces (i:Int) (j:Int) 1=j - i:=by
 unfold Builtin.Slice.slicePlaces
 have h1:(1:Int) > 0:=by omega
 simp only [h1,if_true,Int.ediv_one]
 split <;> omega
theorem Z4N {v:Value} {o:Option Int} {Q:Option Int→Shared→Prop} (p:IsPart v o) (h:Q o s):wpAny (model prog w) A (Builtin.Slice.slicePartIndex v) Q E s:=by
 cases p with
 | none=>exact slicePart_none h
 | int i t=>exact slicePart_int h
theorem Z2t {sl:Addr} {vl vu:Value} {lo hi:Option Int} {n:Nat} {Q:Int×Int×Nat→Shared→Prop} (hs:s.heap.IsSliceOf sl vl vu .none) (pl:IsPart vl lo) (pu:IsPart vu hi)
  (h:Q (((sIx n 0 lo:Nat):Int),1,sIx n n hi - sIx n 0 lo) s):wpAny (model prog w) A (Builtin.Slice.sliceApplied (.ref sl) (pure (n:Int))) Q E s:=by
 obtain ⟨os,hos,hcs,hds⟩:=id hs
 unfold Builtin.Slice.sliceApplied Builtin.Slice.sliceFields
 refine wpAny_bind (wpAny_bind (wpAny_field hos hds (x:=vl) rfl (wpAny_bind (wpAny_field hos hds (x:=vu) rfl (wpAny_bind (wpAny_field hos hds (x:=.none) rfl (wpAny_pure ?_)))))))
 refine wpAny_bind (slicePart_none ?_)
 show wpAny _ _ (if ((1:Int) == 0)=true then _ else _) _ _ s
 rw [if_neg (by decide)]
 refine wpAny_bind (Z4N pl (wpAny_bind (Z4N pu (wpAny_bind (wpAny_pure ?_)))))
 show wpAny _ _ (match Builtin.Slice.sliceAdjust lo hi 1 (n:Int) with | (lo,hi)=>pure (lo,(1:Int),Builtin.Slice.slicePlaces lo hi 1)) _ _ s
 rw [Z8b lo hi n]
 show wpAny _ _ (pure (((sIx n 0 lo:Nat):Int),(1:Int),Builtin.Slice.slicePlaces ((sIx n 0 lo:Nat):Int) ((sIx n n hi:Nat):Int) 1)) _ _ s
 rw [Z8x]
 exact wpAny_pure h
theorem J1a (xs:Array Value) (i k:Nat):((List.range k).filterMap fun (m:Nat)=>xs[((i:Int)+(m:Int) * 1).toNat]?).toArray=((xs.toList.drop i).take k).toArray:=by
 have e:(fun (m:Nat)=>xs[((i:Int)+(m:Int) * 1).toNat]?)=fun m=>xs[i+m]?:=by
  funext m
  have:((i:Int)+(m:Int) * 1).toNat=i+m:=by omega
  rw [this]
 rw [e]
 have:=pick_run xs i k
 rw [List.filterMap_map] at this
 have e2:((fun x=>xs[x]?) ∘ fun x=>i+x)=fun m=>xs[i+m]?:=rfl
 rw [e2] at this
 rw [this]
theorem getItem_tuple_cut {t sl:Addr} {items:Array Value} {vl vu:Value} {lo hi:Option Int} {Q:Value→Shared→Prop} (ht:IsTup s.heap t items) (hs:s.heap.IsSliceOf sl vl vu .none) (pl:IsPart vl lo) (pu:IsPart vu hi)
  (hw:¬ (sIx items.size 0 lo=0∧sIx items.size items.size hi=items.size))
  (h:Q (.ref s.heap.objs.size) { s with heap:=s.heap.push { cls:=.type "tuple",data:=.seq ((items.toList.drop (sIx items.size 0 lo)).take (sIx items.size items.size hi - sIx items.size 0 lo)).toArray } })
  (hsz:items.size≤sizeLine):wpAny (model prog w) A (getItem (.ref t) (.ref sl)) Q E s:=by
 have htake:sizeOk (.seq ((items.toList.drop (sIx items.size 0 lo)).take (sIx items.size items.size hi - sIx items.size 0 lo)).toArray):=by
  show ((items.toList.drop (sIx items.size 0 lo)).take (sIx items.size items.size hi - sIx items.size 0 lo)).toArray.size≤sizeLine
  rw [List.size_toArray,List.length_take,List.length_drop,Array.length_toList]
  omega
 have hj:sIx items.size items.size hi≤items.size:=J4T _ _ (Nat.le_refl _) hi
 obtain ⟨os,hos,hcs,hds⟩:=id hs
 have hTs:s.TypeIs (.ref sl) "slice":=⟨os,hos,hcs⟩
 unfold getItem
 try with_reducible refine wpAny_holding ?_
 first | refine wpAny_bind (wpAny_pure ?_) | skip
 refine wpAny_bind (wpAny_sequenceKey ht.typeIs (by decide) ?_)
 refine wpAny_bind (wpAny_callSpecial?_slot (name:=Str.ofString "__getitem__") ht.typeIs PyProof.Rows.slot_tuple_getitem
  (wpAny_call_entry PyProof.Rows.slot_tuple_getitem ht.typeIs entry_tuple_getitem ?_ (args_tuple_getitem _ _)))
 show wpAny _ _ (Builtin.Tuple.tupleItemsOf (.ref t) >>= _) _ _ s
 refine wpAny_bind (tupleItemsOf_ ht ?_)
 refine wpAny_bind (wpAny_typeOf hTs ?_)
 rw [if_pos (by decide)]
 refine wpAny_bind (Z2t hs pl pu ?_)
 have hno:¬ ((((sIx items.size 0 lo:Nat):Int) == 0&&(1:Int) == 1&&(sIx items.size items.size hi - sIx items.size 0 lo) == items.size)=true):=by
  intro q
  rw [Bool.and_eq_true,Bool.and_eq_true] at q
  have q1:((sIx items.size 0 lo:Nat):Int)=0:=eq_of_beq q.1.1
  have q2:sIx items.size items.size hi - sIx items.size 0 lo=items.size:=eq_of_beq q.2
  exact hw ⟨by omega,by omega⟩
 show wpAny _ _ (if (((sIx items.size 0 lo:Nat):Int) == 0&&(1:Int) == 1&&(sIx items.size items.size hi - sIx items.size 0 lo) == items.size)=true then _ else _) _ _ s
 rw [if_neg hno,J1a]
 first
  | exact wpAny_bind (m:=Builtin.Tuple.tupleExact _) (wpAny_newObj_type (wpAny_pure ⟨_,rfl,wpAny_pure h⟩) htake)
  | exact wpAny_bind (m:=Builtin.Tuple.tupleExact _) (wpAny_newObj_type (wpAny_bind (wpAny_pure (wpAny_pure ⟨_,rfl,wpAny_pure h⟩))) htake)
  | exact wpAny_bind (wpAny_bind (m:=Builtin.Tuple.tupleExact _) (wpAny_newObj_type (wpAny_pure (wpAny_pure ⟨_,rfl,wpAny_pure h⟩)) htake))
  | exact wpAny_bind (wpAny_bind (m:=Builtin.Tuple.tupleExact _) (wpAny_newObj_type (wpAny_pure ⟨_,rfl,wpAny_pure h⟩) htake))
end
end HT
namespace L2
open PySem PySem.Spec PyProof.Rows
abbrev TO:=St→Hp→(Option Int→Hp→Prop)→Prop
def PO (X:Cx) (e:Option Expr) (t:TO):Prop:=
 ∀ (pins:List (Addr×Obj)) (s:Shared) (σ:St) (H:Hp) (Q:Option Int→Hp→Prop),Inv X pins σ H s→t σ H Q →
  wpAny (model X.prog X.w) X.A (evalPart e X.env) (fun u s'=>∃ o H',Inv X pins σ H' s'∧IsPart u o∧Q o H') X.xe s
def Z9Q:TO:=fun _ H Q=>Q none H
def J5x (t:TE):TO:=fun σ H Q=>t σ H fun x H1=>∃ i,x=.int i∧Q (some i) H1
section
variable {X:Cx} {e:Expr} {te:TE} {lo hi:Option Expr} {tl th:TO} {pos p2:Pos}
theorem Z2f:PO X none Z9Q:=by
 intro pins s σ H Q I h
 rw [evalPart_none]
 exact wpAny_pure ⟨none,H,I,.none,h⟩
theorem Z1U (h:PE X e te):PO X (some e) (J5x te):=by
 intro pins s σ H Q I hw
 rw [evalPart_some]
 refine thn (h pins s σ H _ I hw) fun u s1 ⟨x,H1,I1,r1,q1⟩=>?_
 obtain ⟨i,rfl,q⟩:=q1
 obtain ⟨t,rfl⟩:=r1
 exact ⟨some i,H1,I1,.int i t,q⟩
def SlR (X:Cx) (r:V→Option Int→Option Int→Hp→VK→Prop):Prop:=
 ∀ (pins:List (Addr×Obj)) (s:Shared) (σ:St) (H:Hp) (x:V) (v vl vu:Value) (lo hi:Option Int) (sl:Addr) (Q:VK),Inv X pins σ H s→RelV x v→s.heap.IsSliceOf sl vl vu .none→IsPart vl lo→IsPart vu hi→r x lo hi H Q →
  ∃ T id,typeLookup (.type T) "__getitem__"=pure (some (.builtin id))∧s.TypeIs v T∧wpAny (model X.prog X.w) X.A (getItem v (.ref sl)) (EP X pins σ Q) X.xe s
def tSl (r:V→Option Int→Option Int→Hp→VK→Prop) (te:TE) (tl th:TO):TE:=fun σ H Q=>te σ H fun x H1=>tl σ H1 fun l H2=>th σ H2 fun u H3=>r x l u H3 Q
theorem Z1x {r:V→Option Int→Option Int→Hp→VK→Prop} (hr:SlR X r) (he:PE X e te) (hl:PO X lo tl) (hu:PO X hi th):PE X (.Subscript e (.Slice lo hi none p2) pos) (tSl r te tl th):=by
 intro pins s σ H Q I h
 refine Subscript_ (thn (he pins s σ H _ I h) fun v s1 ⟨x,H1,I1,r1,q1⟩=>?_)
 refine wpAny_Slice (thn (hl pins s1 σ H1 _ I1 q1) fun vl s2 ⟨l,H2,I2,pl,q2⟩=>thn (hu pins s2 σ H2 _ I2 q2) fun vu s3 ⟨u,H3,I3,pu,q3⟩=>?_)
 rw [evalPart_none]
 refine wpAny_pure ?_
 have I4:Inv X pins σ H3 { s3 with heap:=s3.heap.push { cls:=.type "slice",data:=.fields #[vl,vu,.none] } }:=I3.kept (t':=s3.toks) fun b ob q=>Heap.get?_push_of_some _ q
 obtain ⟨T,id,hT,ht,hg⟩:=hr pins { s3 with heap:=s3.heap.push { cls:=.type "slice",data:=.fields #[vl,vu,.none] } } σ H3 x v vl vu l u s3.heap.objs.size Q I4 r1 (Heap.IsSliceOf.new ..) pl pu q3
 show wpAny (model X.prog X.w) X.A (subscriptTail e (.Slice lo hi none p2) v (.ref s3.heap.objs.size)) (EP X pins σ Q) X.xe { s3 with heap:=s3.heap.push { cls:=.type "slice",data:=.fields #[vl,vu,.none] } }
 exact tail_any (ops:=[.ref s3.heap.objs.size,v]) ht hT hg (by with_unfolding_all rfl)
def cutV (xs:List V) (lo hi:Option Int):List V:=(xs.drop (HT.sIx xs.length 0 lo)).take (HT.sIx xs.length xs.length hi - HT.sIx xs.length 0 lo)
theorem Z3Q (xs:List V) (lo hi:Option Int):(cutV xs lo hi).length≤xs.length:=by
 unfold cutV
 rw [List.length_take,List.length_drop]
 omega
def rSlT (K:W.Frag):V→Option Int→Option Int→Hp→VK→Prop:=fun x lo hi H Q=>∃ a xs,x=.ref a∧SqT K H a xs ∧
 ¬ (HT.sIx xs.length 0 lo=0∧HT.sIx xs.length xs.length hi=xs.length)∧∀ p,H p=none→Q (.ref p) (upd H p (.tup (cutV xs lo hi)))
theorem J4N:SlR X (rSlT X.K):=by
 intro pins s σ H x v vl vu lo hi sl Q I rx hs pl pu h
 obtain ⟨a,xs,rfl,hx,hw,q⟩:=h
 cases rx
 obtain ⟨its,r,ht,hz⟩:=I.tuple hx
 have hlen:its.toArray.size=xs.length:=by rw [List.size_toArray]; exact r.length.symm
 refine ⟨"tuple",_,PyProof.Rows.slot_tuple_getitem.lookup,ht.typeIs,?_⟩
 refine HT.getItem_tuple_cut ht hs pl pu (by rw [hlen]; exact hw) ?_ (by rw [hlen]; exact hz)
 rw [hlen]
 refine ⟨.ref s.heap.objs.size,_,I.laid (t':=s.toks) (o:=.tup (cutV xs lo hi)) (fun b ob q=>Heap.get?_push_of_some _ q) (Nat.le_refl _) ?_,rfl,q _ (I.hok.fresh (Nat.le_refl _))⟩
 exact ⟨⟨Nat.le_trans (Z3Q xs lo hi) hz,Z7s⟩,_,(r.drop (HT.sIx xs.length 0 lo)).take (HT.sIx xs.length xs.length hi - HT.sIx xs.length 0 lo),IsTup.new _ _⟩
def J5g (K:W.Frag):R2:=fun x y H Q=>∃ a b xs ys,x=.ref a∧y=.ref b∧SqT K H a xs∧SqT K H b ys∧xs≠[]∧xs.length+ys.length≤sizeLine ∧
 (ys=[]→Q (.ref a) H)∧(ys≠[]→∀ p,H p=none→Q (.ref p) (upd H p (.tup (xs++ys))))
theorem Vals.nil_iff {xs:List V} {us:List Value} (r:Vals xs us):us=[]↔xs=[]:=by
 cases r with
 | nil=>simp
 | cons _ _=>simp
theorem J4m:OpR X (binaryOp .Add) (J5g X.K):=by
 intro pins s σ H x y v u Q I rx ry h
 obtain ⟨a,b,xs,ys,rfl,rfl,ha,hb,hx,hz,q1,q2⟩:=h
 cases rx
 cases ry
 obtain ⟨its,r1,p1,_⟩:=I.tuple ha
 obtain ⟨its2,r2,p2,_⟩:=I.tuple hb
 refine HT.cat_tup p1 p2 (fun z=>hx (r1.nil_iff.mp z)) (fun z=>⟨.ref a,H,I,rfl,q1 (r2.nil_iff.mp z)⟩) (fun z=>?_) (by rw [← r1.length,← r2.length]; exact hz)
 refine ⟨.ref s.heap.objs.size,_,I.laid (t':=s.toks) (o:=.tup (xs++ys)) (fun b ob q=>Heap.get?_push_of_some _ q) (Nat.le_refl _) ?_,rfl,q2 (fun w=>z (r2.nil_iff.mpr w)) _ (I.hok.fresh (Nat.le_refl _))⟩
 exact ⟨⟨by rw [List.length_append]; exact hz,Z7s⟩,_,r1.append r2,IsTup.new _ _⟩
end
end L2
namespace L2
open PySem PySem.Spec PyProof.Rows
def ixN (n:Nat) (i:Int):Option Nat:=if 0≤i then (if i < n then some i.toNat else none) else if -(n:Int)≤i then some (i+n).toNat else none
def atI {α:Type} (xs:List α) (i:Int):Option α:=(ixN xs.length i).bind fun j=>xs[j]?
theorem Z9E {n:Nat} {i:Int} {j:Nat} (h:ixN n i=some j):seqIndex? i n=some j∧j < n∧-(n:Int)≤i∧i < n:=by
 unfold ixN at h
 by_cases h0:0≤i
 ·rw [if_pos h0] at h
  by_cases h1:i < n
  ·rw [if_pos h1] at h
   have e:i.toNat=j:=Option.some.inj h
   exact ⟨by rw [seqIndex_of h0 h1,e],by omega,by omega,h1⟩
  ·rw [if_neg h1] at h; cases h
 ·rw [if_neg h0] at h
  by_cases h1:-(n:Int)≤i
  ·rw [if_pos h1] at h
   have e:(i+n).toNat=j:=Option.some.inj h
   exact ⟨by rw [seqIndex_neg (by omega) h1,e],by omega,h1,by omega⟩
  ·rw [if_neg h1] at h; cases h
theorem Z6N {α:Type} {xs:List α} {i:Int} {v:α} (h:atI xs i=some v):∃ j,seqIndex? i xs.length=some j∧xs[j]?=some v∧j < xs.length∧-(xs.length:Int)≤i∧i < xs.length:=by
 unfold atI at h
 cases e:ixN xs.length i with
 | none=>rw [e] at h; cases h
 | some j=>
  rw [e] at h
  obtain ⟨h1,h2,h3,h4⟩:=Z9E e
  exact ⟨j,h1,h,h2,h3,h4⟩
theorem Z0C {α:Type} {xs:List α} {j:Nat} {v:α} (h:xs[j]?=some v):atI xs (j:Int)=some v:=by
 have hj:j < xs.length:=(List.getElem?_eq_some_iff.mp h).1
 have e:ixN xs.length (j:Int)=some j:=by
  unfold ixN
  rw [if_pos (by omega),if_pos (by omega)]; simp
 unfold atI; rw [e]; exact h
def J4a (b:Expr):Prop:=∀ o i,subscripted b false o i=operate [o,i] (getItem o i)
def IxR (X:Cx) (r:R2):Prop:=
 ∀ (value slice:Expr) (pins:List (Addr×Obj)) (s:Shared) (σ:St) (H:Hp) (x y:V) (v u:Value) (Q:VK),Inv X pins σ H s→RelV x v→RelV y u→r x y H Q →
  subscripted slice false v u=operate [v,u] (getItem v u)→wpAny (model X.prog X.w) X.A (subscriptTail value slice v u) (EP X pins σ Q) X.xe s
def MtR (X:Cx) (id:String) (r:V→List V→Hp→VK→Prop):Prop:=
 ∀ (pins:List (Addr×Obj)) (s:Shared) (σ:St) (H:Hp) (x:V) (xs:List V) (v:Value) (us:List Value) (Q:VK),Inv X pins σ H s→RelV x v→Vals xs us→r x xs H Q →
  wpAny (model X.prog X.w) X.A (call (.builtin id) (v::us)) (EP X pins σ Q) X.xe s
section
variable {X:Cx} {a b:Expr} {ta tb:TE} {pos:Pos}
theorem Z0B {r:R2} (hr:IxR X r) (ha:PE X a ta) (hb:PE X b tb) (hs:J4a b):PE X (.Subscript a b pos) (tOp r ta tb):=by
 intro pins s σ H Q I h
 exact Subscript_ (binT ha hb I h fun v u s2 x y H2 I2 rx ry q=>hr a b pins s2 σ H2 x y v u Q I2 rx ry q (hs _ _))
def rIxL (K:W.Frag):R2:=fun x y H Q=>∃ p xs i v,x=.ref p∧y=.int i∧SqL K H p xs∧atI xs i=some v∧Q v H
def rIxT (K:W.Frag):R2:=fun x y H Q=>∃ p xs i v,x=.ref p∧y=.int i∧SqT K H p xs∧atI xs i=some v∧Q v H
def rIxS:R2:=fun x y H Q=>∃ z i c,x=.str z∧y=.int i∧z.length≤sizeLine∧atI z.cps.toList i=some c∧Q (.str ⟨#[c]⟩) H
theorem J4e:IxR X (rIxL X.K):=by
 intro value slice pins s σ H x y v u Q I rx ry h hs
 obtain ⟨p,xs,i,z,rfl,rfl,hq,he,q⟩:=h
 cases rx
 obtain ⟨t,rfl⟩:=ry
 obtain ⟨its,r,pl,hz⟩:=I.list hq
 obtain ⟨j,h1,h2,h3,h4,h5⟩:=Z6N he
 obtain ⟨w,ew,rw'⟩:=r.get h2
 have hl:=r.length
 have hn:=Z4F
 have fin:EP X pins σ Q w s:=⟨z,H,I,rw',q⟩
 by_cases h0:0≤i
 ·have hj:i.toNat=j:=by
   rw [seqIndex_of h0 h5] at h1
   exact Option.some.inj h1
  exact item_listR pl.isList h0 (by omega) (by rw [hj]; simpa using ew) fin hs
 ·have hj:(i+(its.toArray.size:Int)).toNat=j:=by
   rw [seqIndex_neg (by omega) h4] at h1
   rw [List.size_toArray,← hl]
   exact Option.some.inj h1
  exact subscriptTail_builtinR (x:=w) pl.isList.typeIs slot_list_getitem.lookup
   (wpAny_getItem_list_neg (Q:=fun r s'=>r=w∧EP X pins σ Q r s') pl.isList (by omega) (by rw [List.size_toArray] <;> omega) (by omega) (by rw [hj]; simpa using ew) ⟨rfl,fin⟩) hs
theorem J5a:IxR X (rIxT X.K):=by
 intro value slice pins s σ H x y v u Q I rx ry h hs
 obtain ⟨p,xs,i,z,rfl,rfl,hq,he,q⟩:=h
 cases rx
 obtain ⟨t,rfl⟩:=ry
 obtain ⟨its,r,pl,hz⟩:=I.tuple hq
 obtain ⟨j,h1,h2,h3,h4,h5⟩:=Z6N he
 obtain ⟨w,ew,rw'⟩:=r.get h2
 have hl:=r.length
 have hn:=Z4F
 have fin:EP X pins σ Q w s:=⟨z,H,I,rw',q⟩
 exact subscriptTail_builtinR (x:=w) pl.typeIs slot_tuple_getitem.lookup
  (getItem_tuple (j:=j) (Q:=fun r s'=>r=w∧EP X pins σ Q r s') pl (by omega) (by omega) (by rw [List.size_toArray,← hl]; exact h1) (by simpa using ew) ⟨rfl,fin⟩) hs
theorem Z5y:IxR X rIxS:=by
 intro value slice pins s σ H x y v u Q I rx ry h hs
 obtain ⟨z,i,c,rfl,rfl,hz,he,q⟩:=h
 obtain ⟨t,rfl⟩:=rx
 obtain ⟨t',rfl⟩:=ry
 obtain ⟨j,h1,h2,h3,h4,h5⟩:=Z6N he
 have hl:z.cps.toList.length=z.length:=by simp [Str.length]
 rw [hl] at h1 h4 h5
 have hn:=Z4F
 exact tail_any (typeIs_str s z t) slot_str_getitem.lookup (getItem_str (c:=c) (by
  have e1:decide (i < -(2 ^ 63:Int))=false:=decide_eq_false (by omega)
  have e2:decide (i ≥ 2 ^ 63)=false:=decide_eq_false (by omega)
  rw [e1,e2,Bool.or_false]) (by rw [h1]; simpa using h2) ⟨.str ⟨#[c]⟩,H,I.tok _,⟨_,rfl⟩,q⟩) hs
theorem Z8e (its:List Value) (n j:Nat) (u:Value):Obj.mapSeq (·.setIfInBounds j u) { cls:=.type "list",data:=.seq its.toArray n }={ cls:=.type "list",data:=.seq (its.set j u).toArray n }:=by
 simp [Obj.mapSeq]
theorem Inv.lst {pins:List (Addr×Obj)} {σ:St} {H:Hp} {s:Shared} {p:Addr} {xs:List V} (I:Inv X pins σ H s) (h:H p=some (.lst xs)) :
  ∃ (its:List Value) (n:Nat),Vals xs its∧s.heap.get? p=some { cls:=.type "list",data:=.seq its.toArray n }∧xs.length≤sizeLine:=by
 obtain ⟨z,its,n,r,e⟩:=I.hok p _ h
 exact ⟨its,n,r,e,z⟩
theorem Inv.lstUpd {pins:List (Addr×Obj)} {σ:St} {H:Hp} {s:Shared} {p:Addr} {xs ys:List V} {its its':List Value} {n n':Nat} {f:Obj→Obj} (I:Inv X pins σ H s) (h:H p=some (.lst xs))
  (ho:s.heap.get? p=some { cls:=.type "list",data:=.seq its.toArray n }) (hf:f { cls:=.type "list",data:=.seq its.toArray n }={ cls:=.type "list",data:=.seq its'.toArray n' }) (r:Vals ys its') (hz:ys.length≤sizeLine) (t:Nat) :
  Inv X pins σ (upd H p (.lst ys)) { s with heap:=s.heap.update p f,toks:=t }:=by
 have e:(s.heap.update p f).get? p=some { cls:=.type "list",data:=.seq its'.toArray n' }:=by
  rw [Heap.get?_update_self f ho (by rw [hf] <;> rfl),hf]
 refine I.write (x:=p) (e:=p) (by rw [h]; trivial) (.inl rfl) (fun b u hb q=>(Heap.get?_update_other _ _ (Ne.symm hb)).trans q) ⟨_,e⟩ ?_
 exact ⟨hz,its',n',r,e⟩
def J5h:V→V→V→Hp→(Hp→Prop)→Prop:=fun o i v H Q=>∃ p xs k j,o=.ref p∧i=.int k∧H p=some (.lst xs)∧ixN xs.length k=some j∧Q (upd H p (.lst (xs.set j v)))
theorem J1A:PSet X J5h:=by
 intro pins s σ H o i v ov iv u Q I ro ri rv h
 obtain ⟨p,xs,k,j,rfl,rfl,hp,hj,q⟩:=h
 cases ro
 obtain ⟨t,rfl⟩:=ri
 obtain ⟨its,n,r,ho,hz⟩:=I.lst hp
 obtain ⟨h1,h2,h3,h4⟩:=Z9E hj
 have hl:=r.length
 have hn:=Z4F
 have I':Inv X pins σ (upd H p (.lst (xs.set j v))) { s with heap:=s.heap.update p (Obj.mapSeq (·.setIfInBounds j u)) }:=
  I.lstUpd hp ho (Z8e its n j u) (r.set rv j) (by rw [List.length_set]; exact hz) s.toks
 by_cases h0:0≤k
 ·have hk:k.toNat=j:=by
   rw [seqIndex_of h0 h4] at h1
   exact Option.some.inj h1
  exact W.ki_setAt ho h0 (by omega) (by rw [List.size_toArray,← hl]; exact h4) (by rw [hk]; exact ⟨_,I',q⟩)
 ·have hk:(k+(its.toArray.size:Int)).toNat=j:=by
   rw [seqIndex_neg (by omega) h3] at h1
   rw [List.size_toArray,← hl]
   exact Option.some.inj h1
  exact W.ki_setBack ho (by omega) (by rw [List.size_toArray,← hl]; exact h3) (by omega) (by rw [hk]; exact ⟨_,I',q⟩)
theorem Z5A (lo hi:Option Int) (n:Nat):(sliceBounds lo hi none n).1=((HT.sIx n 0 lo:Nat):Int)∧(sliceBounds lo hi none n).2.1=((HT.sIx n n hi:Nat):Int)∧(sliceBounds lo hi none n).2.2=1:=by
 refine ⟨?_,?_,rfl⟩
 ·cases lo with
  | none=>simp [sliceBounds,HT.sIx]
  | some i=>
   simp only [sliceBounds,HT.sIx,Option.getD_none,show (1:Int) > 0 by decide,if_true]
   by_cases h:i < 0
   ·simp only [h,if_true] <;> omega
   ·simp only [h,if_false] <;> omega
 ·cases hi with
  | none=>simp [sliceBounds,HT.sIx]
  | some i=>
   simp only [sliceBounds,HT.sIx,Option.getD_none,show (1:Int) > 0 by decide,if_true]
   by_cases h:i < 0
   ·simp only [h,if_true] <;> omega
   ·simp only [h,if_false] <;> omega
theorem Z5h (its:List Value) (lo hi:Option Int):slicePick its.toArray lo hi none=((its.drop (HT.sIx its.length 0 lo)).take (HT.sIx its.length its.length hi - HT.sIx its.length 0 lo)).toArray:=by
 obtain ⟨h1,h2,h3⟩:=Z5A lo hi its.toArray.size
 unfold slicePick
 rw [h1,h2,h3]
 simp only [sliceRange_one,pick_run,List.size_toArray] <;> rfl
def rSlL (K:W.Frag):V→Option Int→Option Int→Hp→VK→Prop:=fun x lo hi H Q=>∃ a xs,x=.ref a∧SqL K H a xs∧∀ p,H p=none→Q (.ref p) (upd H p (.lst (cutV xs lo hi)))
theorem Z5u:SlR X (rSlL X.K):=by
 intro pins s σ H x v vl vu lo hi sl Q I rx hs pl pu h
 obtain ⟨a,xs,rfl,hx,q⟩:=h
 cases rx
 obtain ⟨its,r,ht,hz⟩:=I.list hx
 have hlen:=r.length
 refine ⟨"list",_,slot_list_getitem.lookup,ht.isList.typeIs,?_⟩
 refine wpAny_getItem_list_slice ht.isList hs pl pu .none (by simp) ?_ (by rw [List.size_toArray] <;> omega)
 rw [Z5h,← hlen]
 refine ⟨.ref s.heap.objs.size,_,I.laid (t':=s.toks) (o:=.lst (cutV xs lo hi)) (fun b ob q=>Heap.get?_push_of_some _ q) (Nat.le_refl _) ?_,rfl,q _ (I.hok.fresh (Nat.le_refl _))⟩
 exact ⟨Nat.le_trans (Z3Q xs lo hi) hz,_,0,(r.drop (HT.sIx xs.length 0 lo)).take (HT.sIx xs.length xs.length hi - HT.sIx xs.length 0 lo),Heap.get?_push_size _ rfl⟩
def Z3B:V→Bool
 | .non=>true
 | .bl _=>true
 | .int _=>true
 | .str _=>true
 | _=>false
def eqV:V→V→Bool
 | .non,.non=>true
 | .bl a,.bl b=>a == b
 | .bl a,.int b=>(if a then 1 else 0) == b
 | .int a,.bl b=>a == (if b then 1 else 0)
 | .int a,.int b=>a == b
 | .str a,.str b=>a == b
 | _,_=>false
theorem J5J {A:Around} {s:Shared} {y x:V} {u v:Value} (ry:RelV y u) (rx:RelV x v) (fy:Z3B y=true) (fx:Z3B x=true):SeqAt.EqAt A s u v (eqV y x):=by
 cases y with
 | non=>
  cases ry
  cases x with
  | non=>cases rx; exact SeqAt.EqAt.same _
  | bl b=>cases rx; exact SeqAt.EqAt.none_bool b
  | int b=>obtain ⟨t,rfl⟩:=rx; exact SeqAt.EqAt.none_int b t
  | str b=>obtain ⟨t,rfl⟩:=rx; exact SeqAt.EqAt.none_str b t
  | _=>exact absurd (show false=true from fx) Bool.false_ne_true
 | bl a=>
  cases ry
  cases x with
  | non=>cases rx; exact SeqAt.EqAt.bool_none a
  | bl b=>cases rx; exact SeqAt.EqAt.bool_bool a b
  | int b=>obtain ⟨t,rfl⟩:=rx; exact SeqAt.EqAt.bool_int a b t
  | str b=>obtain ⟨t,rfl⟩:=rx; exact SeqAt.EqAt.bool_str a b t
  | _=>exact absurd (show false=true from fx) Bool.false_ne_true
 | int a=>
  obtain ⟨t',rfl⟩:=ry
  cases x with
  | non=>cases rx; exact SeqAt.EqAt.int_none a t'
  | bl b=>cases rx; exact SeqAt.EqAt.int_bool a t' b
  | int b=>obtain ⟨t,rfl⟩:=rx; exact SeqAt.EqAt.int_int a t' b t
  | str b=>obtain ⟨t,rfl⟩:=rx; exact SeqAt.EqAt.int_str a t' b t
  | _=>exact absurd (show false=true from fx) Bool.false_ne_true
 | str a=>
  obtain ⟨t',rfl⟩:=ry
  cases x with
  | non=>cases rx; exact SeqAt.EqAt.str_none a t'
  | bl b=>cases rx; exact SeqAt.EqAt.str_bool a t' b
  | int b=>obtain ⟨t,rfl⟩:=rx; exact SeqAt.EqAt.str_int a t' b t
  | str b=>obtain ⟨t,rfl⟩:=rx; exact SeqAt.EqAt.str_str a t' b t
  | _=>exact absurd (show false=true from fx) Bool.false_ne_true
 | _=>exact absurd (show false=true from fy) Bool.false_ne_true
def eqU (x:V) (u:Value):Bool:=match u with
 | .none=>eqV .non x
 | .bool b=>eqV (.bl b) x
 | .int i _=>eqV (.int i) x
 | .str z _=>eqV (.str z) x
 | _=>false
theorem J2A {x y:V} {u:Value} (r:RelV y u) (f:Z3B y=true):eqU x u=eqV y x:=by
 cases y with
 | non=>cases r; rfl
 | bl b=>cases r; rfl
 | int i=>obtain ⟨t,rfl⟩:=r; rfl
 | str z=>obtain ⟨t,rfl⟩:=r; rfl
 | _=>exact absurd (show false=true from f) Bool.false_ne_true
theorem Z3S {x:V}:∀ {xs:List V} {us:List Value},Vals xs us→xs.all Z3B=true→us.any (eqU x)=xs.any fun y=>eqV y x
 | _,_,.nil,_=>rfl
 | y::xs,u::us,.cons r t,f=>by
  rw [List.all_cons,Bool.and_eq_true] at f
  rw [List.any_cons,List.any_cons,J2A r f.1,Z3S t f.2]
theorem Z2X {A:Around} {s:Shared} {x:V} {v:Value} (rx:RelV x v) (fx:Z3B x=true):∀ {xs:List V} {us:List Value},Vals xs us→xs.all Z3B=true→∀ u∈us,SeqAt.EqAt A s u v (eqU x u)
 | _,_,.nil,_=>fun u hu=>by cases hu
 | y::xs,u::us,.cons r t,f=>fun u' hu=>by
  rw [List.all_cons,Bool.and_eq_true] at f
  rcases List.mem_cons.mp hu with rfl | hu
  ·rw [J2A r f.1]; exact J5J r rx f.1 fx
  ·exact Z2X rx fx t f.2 u' hu
def inV (x:V) (xs:List V):Bool:=xs.any fun y=>eqV y x
def rIn (K:W.Frag) (neg:Bool):R2:=fun x y H Q=>∃ p xs,y=.ref p∧(SqL K H p xs∨SqT K H p xs)∧Z3B x=true∧xs.all Z3B=true∧Q (.bl (if neg then !inV x xs else inV x xs)) H
theorem Z0M:OpR X (compareOp .In) (rIn X.K false):=by
 intro pins s σ H x y v u Q I rx ry h
 obtain ⟨p,xs,rfl,hq,fx,fs,q⟩:=h
 cases ry
 rcases hq with hq | hq
 ·obtain ⟨its,r,pl,hz⟩:=I.list hq
  refine SeqAt.in_listAt (eqU x) pl.isList (fun w hw=>Z2X rx fx r fs w (by simpa using hw)) ⟨.bl _,H,I,rfl,?_⟩
  rw [show its.toArray.any (eqU x)=its.any (eqU x) by simp,Z3S r fs]
  exact q
 ·obtain ⟨its,r,pl,hz⟩:=I.tuple hq
  refine SeqAt.in_tupleAt (eqU x) pl (fun w hw=>Z2X rx fx r fs w (by simpa using hw)) ⟨.bl _,H,I,rfl,?_⟩
  rw [show its.toArray.any (eqU x)=its.any (eqU x) by simp,Z3S r fs]
  exact q
theorem Z3w:OpR X (compareOp .NotIn) (rIn X.K true):=by
 intro pins s σ H x y v u Q I rx ry h
 obtain ⟨p,xs,rfl,hq,fx,fs,q⟩:=h
 cases ry
 rcases hq with hq | hq
 ·obtain ⟨its,r,pl,hz⟩:=I.list hq
  refine SeqAt.notIn_listAt (eqU x) pl.isList (fun w hw=>Z2X rx fx r fs w (by simpa using hw)) ⟨.bl _,H,I,rfl,?_⟩
  rw [show its.toArray.any (eqU x)=its.any (eqU x) by simp,Z3S r fs]
  exact q
 ·obtain ⟨its,r,pl,hz⟩:=I.tuple hq
  refine SeqAt.notIn_tupleAt (eqU x) pl (fun w hw=>Z2X rx fx r fs w (by simpa using hw)) ⟨.bl _,H,I,rfl,?_⟩
  rw [show its.toArray.any (eqU x)=its.any (eqU x) by simp,Z3S r fs]
  exact q
theorem Z1K:Z3N X (.builtin "len") (fun xs H Q=>∃ p ys,xs=[.ref p]∧(SqL X.K H p ys∨SqT X.K H p ys)∧Q (.int ys.length) H):=by
 intro pins s σ H xs us Q I r h
 obtain ⟨p,ys,rfl,hq,q⟩:=h
 obtain ⟨u,rfl,rx⟩:=Z5I r
 cases rx
 have hn:=Z4F
 rcases hq with hq | hq
 ·obtain ⟨its,r',pl,hz⟩:=I.list hq
  have hlen:=r'.length
  exact Calls.call_len_list pl.isList (by simp only [List.size_toArray] <;> omega) ⟨.int ys.length,H,I.tok _,⟨s.toks+1,by rw [List.size_toArray,hlen]⟩,q⟩
 ·obtain ⟨its,r',pl,hz⟩:=I.tuple hq
  have hlen:=r'.length
  exact len_tuple pl (by simp only [List.size_toArray] <;> omega) ⟨.int ys.length,H,I.tok _,⟨s.toks+1,by rw [List.size_toArray,hlen]⟩,q⟩
theorem Z3v:Z3N X (.type "list") (fun xs H Q=>∃ p ys,xs=[.ref p]∧(SqL X.K H p ys∨SqT X.K H p ys)∧∀ l,H l=none→Q (.ref l) (upd H l (.lst ys))):=by
 intro pins s σ H xs us Q I r h
 obtain ⟨p,ys,rfl,hq,q⟩:=h
 obtain ⟨u,rfl,rx⟩:=Z5I r
 cases rx
 have fin:∀ (its:List Value),Vals ys its→ys.length≤sizeLine→∀ (h':Heap) (c':Nat),(∀ b o',s.heap.get? b=some o'→h'.get? b=some o') →
   h'.get? s.heap.objs.size=some { cls:=.type "list",dict:=none,data:=.seq its.toArray c',slots:=#[] }→EP X pins σ Q (.ref s.heap.objs.size) { s with heap:=h' }:=fun its r' hz h' c' kp e=>
  ⟨.ref s.heap.objs.size,_,I.laid (t':=s.toks) kp (Nat.le_refl _) (show ObjOk X.prog X.w _ h' _ (.lst ys) from ⟨hz,its,c',r',e⟩),rfl,q _ (I.hok.fresh (Nat.le_refl _))⟩
 rcases hq with hq | hq
 ·obtain ⟨its,r',pl,hz⟩:=I.list hq
  have hlen:=r'.length
  obtain ⟨o,ho,hc,n,hd⟩:=pl.isList
  exact call_list_seq p (.inl rfl) ho hc hd (fun h' c' kp e=>fin its r' hz h' c' kp e) (by simp only [List.size_toArray] <;> omega)
 ·obtain ⟨its,r',pl,hz⟩:=I.tuple hq
  have hlen:=r'.length
  obtain ⟨o,ho,hc,n,hd⟩:=pl
  exact call_list_seq p (.inr rfl) ho hc hd (fun h' c' kp e=>fin its r' hz h' c' kp e) (by simp only [List.size_toArray] <;> omega)
theorem Z0t:Z3N X (.type "tuple") (fun xs H Q=>∃ p ys,xs=[.ref p]∧((SqL X.K H p ys∧∀ l,H l=none→Q (.ref l) (upd H l (.tup ys)))∨(SqT X.K H p ys∧Q (.ref p) H))):=by
 intro pins s σ H xs us Q I r h
 obtain ⟨p,ys,rfl,h⟩:=h
 obtain ⟨u,rfl,rx⟩:=Z5I r
 cases rx
 rcases h with ⟨hq,q⟩ | ⟨hq,q⟩
 ·obtain ⟨its,r',pl,hz⟩:=I.list hq
  have hlen:=r'.length
  refine call_tuple_list pl.isList (fun h' kp=>?_) (by simp only [List.size_toArray] <;> omega)
  have I1:Inv X pins σ H { s with heap:=h' }:=I.kept (t':=s.toks) kp
  have I2:Inv X pins σ (upd H h'.objs.size (.tup ys)) { s with heap:=h'.push { cls:=.type "tuple",data:=.seq its.toArray } }:=
   I1.laid (t':=s.toks) (fun b o e=>Heap.get?_push_of_some _ e) (Nat.le_refl _) (show ObjOk X.prog X.w _ _ _ (.tup ys) from ⟨⟨hz,Z7s⟩,its,r',IsTup.new _ _⟩)
  exact ⟨.ref h'.objs.size,_,I2,rfl,q _ (I1.hok.fresh (Nat.le_refl _))⟩
 ·obtain ⟨its,r',pl,hz⟩:=I.tuple hq
  exact call_tuple_same pl ⟨.ref p,H,I,rfl,q⟩
def tyV (K:W.Frag) (T:String) (x:V) (H:Hp):Prop:=match x with
 | .str _=>T="str"
 | .int _=>T="int"
 | .ref p=>(T="list"∧∃ xs,SqL K H p xs)∨(T="tuple"∧∃ o,K.lookup p=some o∧o.cls=.type "tuple"∧o.dict=none) ∨
   (T="dict"∧((∃ kvs,H p=some (.dK kvs))∨∃ kvs,H p=some (.dT kvs)))∨(T="set"∧∃ S n,H p=some (.set S n))
 | _=>False
theorem J2Q {pins:List (Addr×Obj)} {σ:St} {H:Hp} {s:Shared} {T:String} {x:V} {v:Value} (I:Inv X pins σ H s) (r:RelV x v) (ty:tyV X.K T x H) :
  s.TypeIs v T∧∀ a,v=.ref a→∃ ob,s.heap.get? a=some ob∧ob.dict=none:=by
 cases x with
 | str z=>
  obtain ⟨t,rfl⟩:=r
  cases (show T="str" from ty)
  exact ⟨typeIs_str s z t,fun _ e=>nomatch e⟩
 | int i=>
  obtain ⟨t,rfl⟩:=r
  cases (show T="int" from ty)
  exact ⟨typeIs_int s i t,fun _ e=>nomatch e⟩
 | ref p=>
  cases r
  rcases ty with ⟨rfl,xs,hq⟩ | ⟨rfl,o,hk,hc,hd⟩ | ⟨rfl,hk⟩ | ⟨rfl,S,n,hk⟩
  ·obtain ⟨its,_,pl,_⟩:=I.list hq
   refine ⟨pl.isList.typeIs,fun a e=>?_⟩
   cases e
   obtain ⟨o,n,e,c,hd,_⟩:=pl
   exact ⟨o,e,hd⟩
  ·refine ⟨⟨o,I.kIn p o hk,hc⟩,fun a e=>?_⟩
   cases e
   exact ⟨o,I.kIn _ o hk,hd⟩
  ·have z:∃ o,s.heap.get? p=some o∧o.ExactDict:=by
    rcases hk with ⟨kvs,hk⟩ | ⟨kvs,hk⟩
    ·obtain ⟨_,_,_,_,o,_,_,e,ex,_⟩:=I.hok p _ hk
     exact ⟨o,e,ex⟩
    ·obtain ⟨_,_,_,_,o,_,_,e,ex,_⟩:=I.hok p _ hk
     exact ⟨o,e,ex⟩
   obtain ⟨o,e,ex⟩:=z
   refine ⟨⟨o,e,ex.1⟩,fun a e2=>?_⟩
   cases e2
   exact ⟨o,e,ex.2.1⟩
  ·obtain ⟨o,_,_,_,e,ex,_⟩:=I.hok p _ hk
   refine ⟨⟨o,e,ex.1⟩,fun a e2=>?_⟩
   cases e2
   exact ⟨o,e,ex.2.1⟩
 | _=>exact False.elim ty
def tBM0 (K:W.Frag) (T:String) (r:V→List V→Hp→VK→Prop) (to:TE):TE:=fun σ H Q=>to σ H fun x H1=>tyV K T x H1∧r x [] H1 Q
def tBM (K:W.Frag) (T:String) (r:V→List V→Hp→VK→Prop) (to:TE) (t:TA):TE:=fun σ H Q=>to σ H fun x H1=>tyV K T x H1∧t σ H1 fun xs H2=>r x xs H2 Q
variable {o e:Expr} {es:List Expr} {to:TE} {t:TA} {name:Str} {apos cpos:Pos} {T id:String} {r:V→List V→Hp→VK→Prop}
theorem J2E (pa:PlainAttrs T) (slot:Slot T name id) (hty:typeOf (.builtin id)=pure (.type "method_descriptor")) (hm:MtR X id r) (ho:PE X o to)
  (hbase:attributeBase o name X.env (eval o X.env)=eval o X.env:=by rfl) (hline:(apos.endLine == cpos.line)=true:=by rfl):PE X (.Call (.Attribute o name apos) [] [] cpos) (tBM0 X.K T r to):=by
 intro pins s σ H Q I h
 refine wpAny_Call_method0_late hbase hline (thn (ho pins s σ H _ I h) fun v s1 ⟨x,H1,I1,r1,ty,q1⟩=>?_)
 obtain ⟨h1,h2⟩:=J2Q I1 r1 ty
 exact ⟨T,id,pa,slot,hty,h1,h2,Calls.callWith_builtin rfl (PySem.evalArgs_none (hm pins s1 σ H1 x [] v [] Q I1 r1 .nil q1))⟩
theorem Z3C (pa:PlainAttrs T) (slot:Slot T name id) (hty:typeOf (.builtin id)=pure (.type "method_descriptor")) (hm:MtR X id r) (ho:PE X o to) (ha:PA X (e::es) t)
  (hbase:attributeBase o name X.env (eval o X.env)=eval o X.env:=by rfl)
  (hfew:((backTo cpos (starEach (e::es) X.env)).all (fun x=>!x.1)&&(backToKw cpos (keywordEach [] X.env)).all (fun x=>x.1.isSome)
   && decide ((e::es).length+([]:List Keyword).length+(if ([]:List Keyword).isEmpty then 0 else 1) < 30))=true:=by rfl)
  (hline:(apos.endLine == cpos.line)=true:=by rfl) (hs:starEach (e::es) X.env=(false,eval e X.env)::starEach es X.env:=by rfl) (hplain:(backTo cpos (starEach es X.env)).any (·.1)=false:=by rfl) :
  PE X (.Call (.Attribute o name apos) (e::es) [] cpos) (tBM X.K T r to t):=by
 intro pins s σ H Q I h
 refine wpAny_Call_method_late hbase hfew hline rfl (thn (ho pins s σ H _ I h) fun v s1 ⟨x,H1,I1,r1,ty,q1⟩=>?_)
 obtain ⟨h1,h2⟩:=J2Q I1 r1 ty
 refine ⟨T,id,pa,slot,hty,h1,h2,?_⟩
 have hA:=ha cpos pins s1 σ H1 _ I1 q1
 rw [hs] at hA ⊢
 refine Calls.callWith_builtin (by show (false || (backTo cpos (starEach es X.env)).any (·.1))=false; rw [hplain] <;> rfl) (Calls.evalArgs_plain ?_)
 exact thn hA fun us s2 ⟨vs,H2,I2,r2,q2⟩=>hm pins s2 σ H2 x vs v us Q I2 r1 r2 q2
end
end L2
namespace L2
open PySem PySem.Spec PyProof.Rows
def MtM (X:Cx) (id:String) (r:V→List V→Hp→VK→Prop):Prop:=
 ∀ (pins:List (Addr×Obj)) (s:Shared) (σ:St) (H:Hp) (x:V) (xs:List V) (v:Value) (us:List Value) (Q:VK),Inv X pins σ H s→RelV x v→Vals xs us→r x xs H Q →
  wpAny (model X.prog X.w) X.A (call (.builtin id) (v::us)) (EP X pins σ Q) X.xe s
theorem Vals.one:∀ {x:V} {us:List Value},Vals [x] us→∃ u,us=[u]∧RelV x u
 | _,_,.cons r .nil=>⟨_,rfl,r⟩
theorem Vals.two:∀ {x y:V} {us:List Value},Vals [x,y] us→∃ u v,us=[u,v]∧RelV x u∧RelV y v
 | _,_,_,.cons r (.cons q .nil)=>⟨_,_,rfl,r,q⟩
theorem Vals.zero:∀ {us:List Value},Vals [] us→us=[]
 | _,.nil=>rfl
theorem Vals.dropLast {xs:List V} {us:List Value} (h:Vals xs us):Vals xs.dropLast us.dropLast:=by
 induction h with
 | nil=>exact .nil
 | cons r t ih=>
  cases t with
  | nil=>exact .nil
  | cons q t'=>exact .cons r ih
theorem Vals.reverse {xs:List V} {us:List Value} (h:Vals xs us):Vals xs.reverse us.reverse:=by
 induction h with
 | nil=>exact .nil
 | cons r t ih=>rw [List.reverse_cons,List.reverse_cons]; exact Vals.append ih (.cons r .nil)
theorem Vals.rep {xs:List V} {us:List Value} (h:Vals xs us):∀ k:Nat,Vals (List.replicate k xs).flatten (List.replicate k us).flatten
 | 0=>.nil
 | k+1=>by
  rw [List.replicate_succ,List.replicate_succ,List.flatten_cons,List.flatten_cons]
  exact Vals.append h (Vals.rep h k)
theorem Z7W {α:Type} (l:List α):l.eraseIdx (l.length - 1)=l.dropLast:=by
 induction l with
 | nil=>rfl
 | cons a r ih=>
  cases r with
  | nil=>rfl
  | cons b r=>
   have e:(a::b::r).length - 1=((b::r).length - 1)+1:=by
    have h1:(a::b::r).length=r.length+2:=rfl
    have h2:(b::r).length=r.length+1:=rfl
    omega
   rw [e,List.eraseIdx_cons_succ,ih]
   all_goals rfl
theorem Z6c (its:List Value):∀ (k:Nat) (acc:List Value),
  List.foldl (fun x1 x2=>x1++x2) acc.toArray (List.replicate k its.toArray)=(acc++(List.replicate k its).flatten).toArray
 | 0,acc=>by simp
 | k+1,acc=>by
  have e:acc.toArray++its.toArray=(acc++its).toArray:=by simp
  have e2:(acc++its)++(List.replicate k its).flatten=acc++(List.replicate (k+1) its).flatten:=by
   rw [List.replicate_succ,List.flatten_cons,List.append_assoc]
  rw [← e2,← Z6c its k (acc++its),← e,List.replicate_succ,List.foldl_cons]
section
variable {X:Cx} {pins:List (Addr×Obj)} {σ:St} {H:Hp} {s:Shared} {l b:Addr} {xs ys zs:List V}
theorem Inv.lset {its its':List Value} {n:Nat} {f:Array Value→Array Value} {t':Nat} (I:Inv X pins σ H s) (hH:H l=some (.lst xs))
  (e:s.heap.get? l=some { cls:=.type "list",data:=.seq its.toArray n }) (hf:f its.toArray=its'.toArray) (hv:Vals ys its') (hz:ys.length≤sizeLine) :
  Inv X pins σ (upd H l (.lst ys)) { s with heap:=s.heap.update l (Obj.mapSeq f),toks:=t' }:=by
 have q:=PySem.IsL.update e f
 rw [hf] at q
 refine I.write (x:=l) (e:=l) (by rw [hH]; exact trivial) (.inl rfl) (fun b' u hb hu=>(Heap.get?_update_other s.heap (Obj.mapSeq f) (Ne.symm hb)).trans hu) ⟨_,q⟩ ?_
 exact ⟨hz,its',_,hv,q⟩
theorem Inv.lnew {its:List Value} {t':Nat} (I:Inv X pins σ H s) (hv:Vals ys its) (hz:ys.length≤sizeLine) :
  Inv X pins σ (upd H s.heap.objs.size (.lst ys)) { s with heap:=s.heap.push { cls:=.type "list",data:=.seq its.toArray },toks:=t' }:=
 I.laid (fun _ _ q=>Heap.get?_push_of_some _ q) (Nat.le_refl _) ⟨hz,its,0,hv,Heap.get?_push_size _ rfl⟩
theorem Inv.fresh (I:Inv X pins σ H s):H s.heap.objs.size=none:=I.hok.fresh (Nat.le_refl _)
theorem Inv.lstM (I:Inv X pins σ H s) (hH:H l=some (.lst xs)):xs.length≤sizeLine∧∃ (its:List Value) (n:Nat),Vals xs its∧xs.length=its.length∧s.heap.get? l=some { cls:=.type "list",data:=.seq its.toArray n }:=by
 obtain ⟨z,its,n,r,e⟩:=I.hok l _ hH
 exact ⟨z,its,n,r,r.length,e⟩
theorem Z5o {n:Nat} (h:n≤sizeLine):Builtin.List.listTooLong n=false:=by
 unfold Builtin.List.listTooLong
 exact decide_eq_false (by omega)
end
section
variable {X:Cx}
def J0y:V→List V→Hp→VK→Prop:=fun x vs H Q=>∃ l xs y,x=.ref l∧vs=[y]∧H l=some (.lst xs)∧xs.length < sizeLine∧Q .non (upd H l (.lst (xs++[y])))
theorem Z1j:MtM X "list.append" J0y:=by
 intro pins s σ H x vs v us Q I rx rv h
 obtain ⟨l,xs,y,rfl,rfl,hH,hz,q⟩:=h
 cases rx
 obtain ⟨u,rfl,ru⟩:=rv.one
 obtain ⟨z,its,n,r,hl,e⟩:=I.lstM hH
 refine call_meets F.slot_list_append ⟨_,e,rfl⟩ F.entry_list_append (F.args_list_append_2 _ _) (PySem.list_append l its.toArray n u (by rw [List.size_toArray]; omega)) ⟨e,?_⟩
 refine ⟨.non,_,I.lset (its':=its++[u]) hH e (by simp) (r.append (.cons ru .nil)) ?_,rfl,q⟩
 rw [List.length_append,List.length_singleton]
 omega
def Z9Z:V→List V→Hp→VK→Prop:=fun x vs H Q=>∃ l b xs zs,x=.ref l∧vs=[.ref b]∧H l=some (.lst xs)∧H b=some (.lst zs)∧xs.length+zs.length≤sizeLine∧Q .non (upd H l (.lst (xs++zs)))
theorem J4O:MtM X "list.extend" Z9Z:=by
 intro pins s σ H x vs v us Q I rx rv h
 obtain ⟨l,b,xs,zs,rfl,rfl,hH,hB,hz,q⟩:=h
 cases rx
 obtain ⟨u,rfl,ru⟩:=rv.one
 cases ru
 obtain ⟨z,its,n,r,hl,e⟩:=I.lstM hH
 obtain ⟨z2,its2,n2,r2,hl2,e2⟩:=I.lstM hB
 have hsz:its.toArray.size+its2.toArray.size≤sizeLine:=by rw [List.size_toArray,List.size_toArray]; omega
 have hlong:¬ (!its.toArray.isEmpty&&Builtin.List.listTooLong (its.toArray.size+its2.toArray.size))=true:=by
  rw [Z5o hsz,Bool.and_false]
  exact Bool.false_ne_true
 refine call_meets F.slot_list_extend ⟨_,e,rfl⟩ F.entry_list_extend (F.args_list_extend_2 _ _)
  (AutoSeq1.list_extend_list_list_0 l its.toArray n b its2.toArray n2 hlong (by rw [List.size_toArray]; omega) (by omega)) ⟨e,e2,?_⟩
 refine ⟨.non,_,I.lset (its':=its++its2) hH e (by simp) (r.append r2) ?_,rfl,q⟩
 rw [List.length_append]
 omega
def rPop:V→List V→Hp→VK→Prop:=fun x vs H Q=>∃ l xs y,x=.ref l∧vs=[]∧H l=some (.lst xs)∧xs[xs.length - 1]?=some y∧Q y (upd H l (.lst xs.dropLast))
theorem J2t:MtM X "list.pop" rPop:=by
 intro pins s σ H x vs v us Q I rx rv h
 obtain ⟨l,xs,y,rfl,rfl,hH,hy,q⟩:=h
 cases rx
 have hus:=rv.zero
 subst hus
 obtain ⟨z,its,n,r,hl,e⟩:=I.lstM hH
 obtain ⟨u,hu,ru⟩:=r.get hy
 have hy':its.toArray[its.toArray.size - 1]?=some u:=by
  show its.toArray[its.length - 1]?=some u
  rw [← Array.getElem?_toList,← hl]
  exact hu
 refine call_meets F.slot_list_pop ⟨_,e,rfl⟩ F.entry_list_pop (F.args_list_pop_1 _) (MeetsSeq.list_pop_last l its.toArray n u hy' (by rw [List.size_toArray]; omega)) ⟨e,?_⟩
 refine ⟨y,_,I.lset (its':=its.dropLast) hH e ?_ r.dropLast ?_,ru,q⟩
 ·show its.toArray.eraseIdxIfInBounds (its.toArray.size - 1)=its.dropLast.toArray
  rw [List.size_toArray,List.eraseIdxIfInBounds_toArray,Z7W]
 ·rw [List.length_dropLast]
  omega
def J4K:V→List V→Hp→VK→Prop:=fun x vs H Q=>∃ l xs i k y,x=.ref l∧vs=[.int i]∧H l=some (.lst xs)∧-(2 ^ 63)≤i∧i < 2 ^ 63∧seqIndex? i xs.length=some k∧xs[k]?=some y∧Q y (upd H l (.lst (xs.eraseIdx k)))
def J2c:V→List V→Hp→VK→Prop:=fun x vs H Q=>∃ l xs,x=.ref l∧vs=[]∧H l=some (.lst xs)∧Q .non (upd H l (.lst xs.reverse))
def J4Z:V→List V→Hp→VK→Prop:=fun x vs H Q=>∃ l xs,x=.ref l∧vs=[]∧H l=some (.lst xs)∧Q .non (upd H l (.lst []))
def rCat:R2:=fun x y H Q=>∃ l b xs zs,x=.ref l∧y=.ref b∧H l=some (.lst xs)∧H b=some (.lst zs)∧xs.length+zs.length≤sizeLine∧∀ p,H p=none→Q (.ref p) (upd H p (.lst (xs++zs)))
theorem Z3a:OpR X (binaryOp .Add) rCat:=by
 intro pins s σ H x y v u Q I rx ry h
 obtain ⟨l,b,xs,zs,rfl,rfl,hH,hB,hz,q⟩:=h
 cases rx
 cases ry
 obtain ⟨z,its,n,r,hl,e⟩:=I.lstM hH
 obtain ⟨z2,its2,n2,r2,hl2,e2⟩:=I.lstM hB
 refine PySem.P.add_list e e2 ?_ (by rw [List.size_toArray,List.size_toArray]; omega)
 have ea:its.toArray++its2.toArray=(its++its2).toArray:=by simp
 rw [ea]
 exact ⟨.ref _,_,I.lnew (t':=s.toks) (r.append r2) (by rw [List.length_append]; omega),rfl,q _ I.fresh⟩
def rRep:R2:=fun x y H Q=>∃ l k xs,x=.ref l∧y=.int k∧H l=some (.lst xs)∧-(2 ^ 63)≤k∧k < 2 ^ 63∧xs.length * k.toNat≤sizeLine ∧
 ∀ p,H p=none→Q (.ref p) (upd H p (.lst (List.replicate k.toNat xs).flatten))
theorem J4g {α:Type} (xs:List α) (k:Nat):(List.replicate k xs).flatten.length=k * xs.length:=by
 induction k with
 | zero=>simp
 | succ k ih=>rw [List.replicate_succ,List.flatten_cons,List.length_append,ih,Nat.succ_mul,Nat.add_comm]
theorem J2V:OpR X (binaryOp .Mult) rRep:=by
 intro pins s σ H x y v u Q I rx ry h
 obtain ⟨l,k,xs,rfl,rfl,hH,h1,h2,hz,q⟩:=h
 cases rx
 obtain ⟨t,rfl⟩:=ry
 obtain ⟨z,its,n,r,hl,e⟩:=I.lstM hH
 have hlen:its.toArray.size * k.toNat≤sizeLine:=by rw [List.size_toArray,← hl]; exact hz
 have hcap:¬ its.toArray.size * k.toNat > (2 ^ 63 - 1) / 8:=by
  have:(sizeLine:Nat)≤(2 ^ 63 - 1) / 8:=by decide
  omega
 have hfit:¬ (!Builtin.List.listFitsIndex k)=true:=by
  rw [fitsIndex_both h1 h2]
  exact Bool.false_ne_true
 have hlong:¬ Builtin.List.listTooLong (its.toArray.size * k.toNat)=true:=by
  rw [Z5o hlen]
  exact Bool.false_ne_true
 have hnew:List.foldl (fun x1 x2=>x1++x2) #[] (List.replicate (if its.toArray.isEmpty=true then 0 else k.toNat) its.toArray)=(List.replicate k.toNat its).flatten.toArray:=by
  have f0:∀ m:Nat,List.foldl (fun x1 x2=>x1++x2) #[] (List.replicate m its.toArray)=(List.replicate m its).flatten.toArray:=fun m=>by
   have:=Z6c its m []
   rw [List.nil_append] at this
   exact this
  rw [f0]
  cases its with
  | nil=>simp
  | cons a r'=>rw [if_neg (by simp)]
 refine wpAny_binaryOp_repeat_ref (T:="list") (U:="int") (by decide) ⟨_,e,rfl⟩ (fun s'=>typeIs_int s' k t) noFill_list_mul F.fills_int_mul F.slot_int_rmul repeat_list F.slot_int_index.lookup
  (call_meets F.slot_int_rmul (typeIs_int s k t) F.entry_int_rmul (F.args_int_rmul_2 _ _) (int___rmul___int_list k t l its.toArray n)
   ⟨e,rfl,⟨_,e,rfl⟩,call_meets F.slot_list_mul ⟨_,e,rfl⟩ F.entry_list_mul (F.args_list_mul_2 _ _) (AutoListH.list___mul___list_int_3 l its.toArray n k t hfit hcap hlong) ⟨e,?_⟩⟩)
 rw [hnew]
 exact ⟨.ref _,_,I.lnew (t':=s.toks) (r.rep k.toNat) (by rw [J4g,Nat.mul_comm]; exact hz),rfl,q _ I.fresh⟩
end
section
variable {prog:Program} {w:World} {A:Around} {E:Value→Shared→Prop} {s:Shared}
set_option maxRecDepth 100000 in
end
section
variable {X:Cx}
end
end L2
namespace Att
open PySem PySem.W PySem.Calls PyProof.Rows
theorem Z4k {P:Params} {h:Heap}:∀ (ns:List Int) (vs:List Value),WellAll P h vs (ns.map WData.int)→IntsAre vs ns:=by
 intro ns
 induction ns with
 | nil=>
  intro vs w
  rw [List.map_nil] at w
  cases w
  exact .nil
 | cons n ns ih=>
  intro vs w
  rw [List.map_cons] at w
  cases w with
  | cons a b=>
   cases a
   exact .cons _ _ (ih _ b)
theorem Z9k {l:OpenLaw} {n:Nat} (hn:l.most=some n) {P:Params} {h:Heap} {args:List WData} {vals:List Value}
  (hpre:l.row.toRowW.claim.pre args=true) (hwl:WellAll P h vals args) :
  ∃ a vs ns,vals=[Value.ref a]∧args=[WData.list (ns.map WData.int)]∧h.get? a=some { cls:=.type "list",data:=.seq vs.toArray }∧IntsAre vs ns∧ns.length≤n:=by
 have hsh:WShape.hasAll [] args [.list .int]=true:=(pre_splitW hpre).1
 have hc:l.pre.holds [] { args:=args }=true:=(pre_splitW hpre).2
 obtain ⟨d,r,rfl,h1,h2⟩:=hasAllW_cons hsh
 obtain rfl:=hasAllW_nil h2
 obtain ⟨xs,rfl,h3⟩:=hasW_list h1
 obtain ⟨ns,rfl⟩:=items_int h3
 have hlen:ns.length≤n:=by
  unfold OpenLaw.pre at hc
  have h4:(WTm.not (.lt (.lit (.int (n:Int))) (.len (.arg 0)))).holds [] { args:=[.list (ns.map .int)] }=true:=by
   have h4:=(holds_andW hc).1
   rw [hn] at h4
   exact h4
  have h5:=condW_of h4 (w_not (w_lt w_lit (w_len_list (w_arg rfl))))
  rw [List.length_map] at h5
  refine Nat.le_of_not_lt fun q=>?_
  have q':(n:Int) < ((ns.length:Nat):Int):=by omega
  first
   | (rw [decide_eq_true q'] at h5; exact absurd h5 (by decide))
   | (simp at h5; omega)
 cases hwl with
 | cons w1 w2=>
  cases w2
  cases w1 with
  | list ho hall=>exact ⟨_,_,ns,rfl,rfl,ho,Z4k ns _ hall,hlen⟩
theorem J0c (l:OpenLaw) (args:List WData):l.row.toRowW.claim.post args (.bool true) args=true:=
 postW_of (r:=l.row.toRowW) (X:=(true == true))
  (show WShape.has [] (.bool true) .bool=true by first | rfl | decide | simp [WShape.has,WShape.arms,WShape.armsAll])
  (show (WTm.eq .res (.lit (.bool true))).value [] { args:=args,res:=some (.bool true),after:=args }=some (.bool (true == true)) from w_eq_bool (w_res rfl) w_lit) rfl
theorem attach_call {l:OpenLaw} {n:Nat} {q:Program} {loose:List Str} {XP:(Str→Option Value)→Heap→Prop} {YP:World→Heap→Prop} {d:DefRec}
  (hn:l.most=some n) (hdf:d.params.defaults=[])
  (call:∀ (w:World) (s₀ s₁:Shared) (mg mb:Str→Option Value) (fa:Addr) (o:Obj) (pm cd doc:Value) (a:Addr) (vs:List Value) (ns:List Int),
   Ground q loose [] XP w s₀ mg mb s₁.heap→YP w s₁.heap →
   s₁.heap.get? fa=some o→o.data=.func (docDef d.name d.params d.body d.scope pm cd doc)→s₁.heap.CodeRec cd d.name→mg d.name=some (.ref fa) →
   s₁.heap.get? a=some { cls:=.type "list",data:=.seq vs.toArray }→IntsAre vs ns→ns.length≤n→s₁.gens=#[] →
   codeAny (model l.prog w) callerA (.call (.ref fa) ⟨[.ref a],[]⟩) (fun r s'=>r=.ok (.ret (.bool true))∧OldK s₁.heap s'.heap∧s'.os=s₁.os∧AllBare s'.gens) s₁) :
  WalkO q loose XP YP l.row.toRowW d [] (fun f vs=>PySem.call f vs):=by
 intro w s₀ s₁ mg mb G Y fa o pm cd doc dV kV ho hd hcd hD hmg hg args vals as hpre hlay hrd hwl hlo
 obtain rfl:dV=.none:=Dflts.none hD hdf
 obtain rfl:kV=.none:=Dflts.noKw hD
 obtain ⟨a,vs,ns,rfl,rfl,hobj,hints,hlen⟩:=Z9k hn hpre hwl
 refine enter_call (codeAny_mono (call w s₀ s₁ mg mb fa o pm cd doc a vs ns G Y ho (fd_plain hd) hcd hmg hobj hints hlen hg) fun r s' hq=>?_)
 obtain ⟨rfl,h2,h3,h4⟩:=hq
 exact ⟨.inl ⟨.bool true,.bool true,[],rfl,fun _=>rfl,.bool true,J0c l _,fun _=>⟨List.Pairwise.nil,fun _ hm=>(nomatch hm)⟩⟩,h2,h3,h4⟩
section
variable {prog:Program} {w:World} {A:Around} {E:Value→Shared→Prop} {s:Shared} {K:Frag}
def J8F (h:Heap) (L d:Addr):List (Addr×Obj):=(List.range h.objs.size).filterMap fun a=>if a=L∨a=d then none else (h.get? a).map fun o=>(a,o)
end
end Att
namespace L2
open PySem PySem.Spec PyProof.Rows
theorem Z3O:∀ {vs:List Value} {ns:List Int},IntsAre vs ns→Vals (ns.map V.int) vs
 | _,_,.nil=>.nil
 | _,_,.cons n t h=>.cons ⟨t,rfl⟩ (Z3O h)
def Only (H:Hp):Prop:=∀ b,H b=none∨∃ o xs,H b=some (.frz o (.lst xs))
theorem J1M {P:Program} {w:World} {K:W.Frag} {mg mb:Str→Option Value} {CX:CXT} {k:Nat} {fa a:Addr} {fd:FuncData} {x:Str} {sp:Sp} {s₁:Shared} {vs:List Value} {ns:List Int}
  (KX:K.In s₁.heap) (hns:s₁.heap.Ns mainGlobals mg) (hb:s₁.heap.Ns builtinsNs mb) (hbb:∀ x:Str,x≠"__name__"→mb x=bootBuiltins x) (hlim:s₁.heap.NoLimit) (hg:s₁.gens=#[])
  (ha:s₁.heap.get? a=some { cls:=.type "list",data:=.seq vs.toArray }) (hi:IntsAre vs ns) (hl:ns.length≤sizeLine) (hr:Room k callerA)
  (F:∀ base:Heap,K.In base→base.Ns mainGlobals mg→FnOk P w K mg base CX k fa fd [x] sp) (hbind:∀ (s:Shared) (u:Value),BindsTo s fd ⟨[u],[]⟩ [(x,u)])
  (hsp:∀ H:Hp,Only H→SqL K H a (ns.map V.int)→sp [.ref a] H (fun v _=>v=.bl true) fun _ _ _=>False)
  (hCX:∀ H e s',CX [] H s₁ (fun _ _ _=>False) e s'→False) :
  codeAny (model P w) callerA (.call (.ref fa) ⟨[.ref a],[]⟩) (fun r s'=>r=.ok (.ret (.bool true))∧OldK s₁.heap s'.heap∧s'.os=s₁.os∧AllBare s'.gens) s₁:=by
 have rv:=Z3O hi
 have lenV:=hi.length
 -- from an abstract heap in which nothing but the script may be tracked
 have core:∀ H:Hp,Only H→SqL K H a (ns.map V.int)→HOk P w H s₁.heap→(∀ b,H b≠none→b=a)→(H a≠none→K.lookup a=none) →
   codeAny (model P w) callerA (.call (.ref fa) ⟨[.ref a],[]⟩) (fun r s'=>r=.ok (.ret (.bool true))∧OldK s₁.heap s'.heap∧s'.os=s₁.os∧AllBare s'.gens) s₁:=by
  intro H hO hS hok hA hK
  have base_of:∀ {b:Addr} {o:Obj},s₁.heap.get? b=some o→H b=none→(hidT s₁.heap H).get? b=some o:=fun e n=>Z7V e n
  have noA:∀ {b:Addr} {o:Obj} {es:Array DictEntry} {ep:Nat},s₁.heap.get? b=some o→o.data=.dict es ep→H b=none:=fun {b o es ep} e d=>by
   cases q:H b with
   | none=>rfl
   | some u=>
    have e':b=a:=hA b (by rw [q]; simp)
    subst e'
    rw [ha] at e; cases e
    have d':Data.seq vs.toArray _=Data.dict es ep:=d
    cases d'
  have nsK:∀ {b:Addr} {m:Str→Option Value},s₁.heap.Ns b m→(hidT s₁.heap H).Ns b m:=fun {b m} ⟨o,es,ep,e,d,r⟩=>⟨o,es,ep,base_of e (noA e d),d,r⟩
  have hKb:K.In (hidT s₁.heap H):=fun b o e=>base_of (KX b o e) (by
   cases q:H b with
   | none=>rfl
   | some u=>
    have e':b=a:=hA b (by rw [q]; simp)
    subst e'
    rw [hK (by rw [q]; simp)] at e; cases e)
  have hM:Mod K mg (hidT s₁.heap H):=⟨hKb,nsK hns,⟨mb,nsK hb,hbb⟩,let ⟨mc,h1,h2⟩:=hlim; ⟨mc,nsK h1,h2⟩⟩
  have e0:Env0 P w K mg (hidT s₁.heap H) callerA [] s₁ H:=⟨rfl,hM,fun b o e=>Z9s e,Nat.le_of_eq (Z6m _ _),trivial,fun b hb=>absurd (show b∈([]:List Addr) from hb) (by simp),hok,.of_eq hg⟩
  refine codeAny_mono ((F _ hKb (nsK hns)).run callerA [] s₁ H ⟨[.ref a],[]⟩ [.ref a] [.ref a] _ _ hr e0 (hbind s₁ (.ref a)) (.cons rfl .nil) (hsp H hO hS)) fun r s' h=>?_
  cases r with
  | error e=>exact (hCX H e s' h).elim
  | ok fl=>
   cases fl with
   | next=>exact False.elim h
   | brk=>exact False.elim h
   | cont=>exact False.elim h
   | ret u=>
    obtain ⟨v,H',os,bare,un,hok',r',q⟩:=h
    have q':v=.bl true:=q
    subst q'
    obtain rfl:u=Value.bool true:=r'
    refine ⟨rfl,OldK.of_keep fun b o e=>?_,os,bare⟩
    cases q:H b with
    | none=>exact un.keep b o e q (by intro z; exact absurd (show b∈([]:List Addr) from z) (by simp)) (by simp)
    | some u=>
     rcases hO b with z | ⟨ob,xs,z⟩
     ·rw [q] at z; cases z
     ·have z2:=un.frzs b ob _ z
      obtain ⟨e1,_⟩:=hok b _ z
      obtain ⟨e2,_⟩:=hok' b _ z2
      rw [e] at e1; cases e1
      exact e2
 cases hk:K.lookup a with
 | some o=>
  -- the script is one of the module's own objects
  have e:=KX a o hk
  rw [ha] at e
  cases e
  refine core (fun _=>none) (fun _=>.inl rfl) (.inr ⟨_,vs.toArray,_,hk,rfl,rfl,rfl,by rw [List.size_toArray,lenV]; exact hl,by simpa using rv⟩) (fun b u z=>by have z':(none:Option HO)=some u:=z; cases z') (fun b z=>absurd rfl z) fun z=>absurd rfl z
 | none=>
  refine core (fun b=>if b=a then some (.frz { cls:=.type "list",data:=.seq vs.toArray } (.lst (ns.map V.int))) else none) (fun b=>?_) (.inl (.inr ⟨{ cls:=.type "list",data:=.seq vs.toArray },if_pos rfl⟩)) (fun b u z=>?_) (fun b z=>?_) fun _=>hk
  ·by_cases hb:b=a
   ·exact .inr ⟨_,_,if_pos hb⟩
   ·exact .inl (if_neg hb)
  ·by_cases hb:b=a
   ·have z':=(if_pos hb).symm.trans z
    cases z'
    subst hb
    exact ⟨ha,by rw [List.length_map]; exact hl,vs,_,rv,ha⟩
   ·have z':=(if_neg hb).symm.trans z
    cases z'
  ·by_cases hb:b=a
   ·exact hb
   ·exact absurd (if_neg hb) z
end L2
namespace L2
open PySem PySem.Spec PyProof.Rows
abbrev KOf {K:W.Frag} {h:Heap} (_:K.In h):W.Frag:=K
theorem J8a {l:W.OpenLaw} {n k:Nat} {q:Program} {loose:List Str} {XP:(Str→Option Value)→Heap→Prop} {YP:World→Heap→Prop} {d:DefRec} {K:Params→W.Frag} {CX:World→CXT} {sp:World→Sp} {x:Str}
  (hn:l.most=some n) (hn2:n≤sizeLine) (hdf:d.params.defaults=[]) (hr:Room k callerA)
  (hY:∀ (w:World) (h:Heap),YP w h→(K w.params).In h)
  (F:∀ (w:World) (mg:Str→Option Value) (fa:Addr) (h:Heap),(K w.params).In h→h.Ns mainGlobals mg→mg d.name=some (.ref fa) →
   ∃ fd:FuncData,(∀ (s:Shared) (u:Value),BindsTo s fd ⟨[u],[]⟩ [(x,u)]) ∧
    ∀ base:Heap,(K w.params).In base→base.Ns mainGlobals mg→FnOk l.prog w (K w.params) mg base (CX w) k fa fd [x] (sp w))
  (hsp:∀ (w:World) (H:Hp) (a:Addr) (ns:List Int),ns.length≤n→Only H→SqL (K w.params) H a (ns.map V.int)→sp w [.ref a] H (fun v _=>v=.bl true) fun _ _ _=>False)
  (hCX:∀ (w:World) (H:Hp) (s:Shared) (e:Value) (s':Shared),CX w [] H s (fun _ _ _=>False) e s'→False) :
  W.WalkO q loose XP YP l.row.toRowW d [] (fun f vs=>PySem.call f vs):=by
 refine Att.attach_call hn hdf fun w s₀ s₁ mg mb fa o pm cd doc a vs ns G Y ho hd hcd hmg hobj hints hlen hg=>?_
 have KX:=hY w _ Y
 obtain ⟨fd,hb,hF⟩:=F w mg fa _ KX G.T.g hmg
 exact J1M KX G.T.g G.T.b G.T.builtins G.T.nolimit hg hobj hints (Nat.le_trans hlen hn2) hr hF hb (fun H hO hS=>hsp w H a ns hlen hO hS) fun H e s'=>hCX w H s₁ e s'
end L2
namespace L2
open PySem PySem.Spec PyProof.Rows
abbrev CX0:CXT:=fun _ _ _ _ _ _=>False
abbrev E0:XK:=fun _ _ _=>False
theorem J1k {X:Cx}:Z3U CX0 X E0:=fun _ _ _ _ _ _ _ h=>h.elim
structure Fun (K:W.Frag) (x qual:Str) (st:Stmt) (f:Addr) (fd:FuncData):Prop where
 ex:∃ (oc:Value) (od:Option Addr) (kV doc pm:Value) (an:Option Addr) (cdv ct:Value) (osl:Array (Option Value)),
  fd=W.fnOf x qual (Z0k st) (Z0i st) (Z0c st) .none kV doc pm an cdv ct∧K.lookup f=some ⟨oc,od,.func fd,osl⟩∧W.codeIn K cdv qual=true
 kp:W.keepIn K (.ref f)=true
section
variable {P:Program} {w:World} {K:W.Frag} {mg:Str→Option Value} {base:Heap}
theorem Fun.ok {x qual:Str} {st:Stmt} {f:Addr} {fd:FuncData} {N ps:List Str} {k:Nat} {sp:Sp} (F:Fun K x qual st f fd) (S:Z0o N ps (Z0c st)) (len:∀ vs H Q E,sp vs H Q E→vs.length=ps.length)
  (hbody:∀ (cdv:Value) (A:Around) (outer:List Env) (s:Shared) (H:Hp) (vs:List V) (Q:VK) (E:XK),Room k (A.deeper (envOfC qual (Z0c st) s.heap.objs.size f cdv))→sp vs H Q E →
   ∃ t,PSs (cxOf CX0 P w K mg base N qual (Z0c st) f cdv A outer s H E).nox (Z0i st) t∧t { nx:=fun _ H'=>Q .non H',rt:=Q } (Z4m N vs) H):FnOk P w K mg base CX0 (k+1) f fd ps sp:=by
 obtain ⟨oc,od,kV,doc,pm,an,cdv,ct,osl,rfl,lk,hcd⟩:=F.ex
 refine J5y lk hcd S len fun A outer s H vs Q E hr hsp=>?_
 obtain ⟨t,h,q⟩:=hbody cdv A outer s H vs Q E hr hsp
 exact ⟨t,h.nox,q⟩
theorem Fun.binds {x qual:Str} {st:Stmt} {f:Addr} {fd:FuncData} {ps:List Str} (F:Fun K x qual st f fd)
  (h:∀ (kV doc pm:Value) (an:Option Addr) (cdv ct:Value) (us:List Value),us.length=ps.length→bindArgs (W.fnOf x qual (Z0k st) (Z0i st) (Z0c st) .none kV doc pm an cdv ct) ⟨us,[]⟩=pure (ps.zip us)):Binds K fd ps []:=by
 obtain ⟨oc,od,kV,doc,pm,an,cdv,ct,osl,rfl,lk,hcd⟩:=F.ex
 exact .all (h kV doc pm an cdv ct)
theorem J2C {x qual:Str} {st:Stmt} {f:Addr} {oc:Value} {od an:Option Addr} {osl:Array (Option Value)} {kV doc pm cdv ct:Value} (l:K.lookup f=some ⟨oc,od,.func (W.fnOf x qual (Z0k st) (Z0i st) (Z0c st) .none kV doc pm an cdv ct),osl⟩)
  (c:W.codeIn K cdv qual=true) (k:W.keepIn K (.ref f)=true):Fun K x qual st f (W.fnOf x qual (Z0k st) (Z0i st) (Z0c st) .none kV doc pm an cdv ct):=⟨⟨oc,od,kV,doc,pm,an,cdv,ct,osl,rfl,l,c⟩,k⟩
end
theorem Z4o {A:Around} {k:Nat} (hr:Room k A):A.units+1 < cLine:=Nat.lt_of_le_of_lt (Nat.add_le_add_left (by decide:1≤64) _) hr.units
section
variable {X:Cx}
end
theorem iteF {A B:Prop} (h:B):if false=true then A else B:=by
 rw [if_neg Bool.false_ne_true]
 exact h
theorem iteT {A B:Prop} (h:A):if true=true then A else B:=by
 rw [if_pos rfl]
 exact h
theorem ite2 {c A B:Prop} [Decidable c] (h1:c→A) (h2:¬ c→B):if c then A else B:=by
 by_cases h:c
 ·rw [if_pos h]
  exact h1 h
 ·rw [if_neg h]
  exact h2 h
def Same (H H':Hp):Prop:=∀ b o,H b=some o→H' b=some o
theorem Same.refl (H:Hp):Same H H:=fun _ _ h=>h
theorem Same.trans {H H1 H2:Hp} (a:Same H H1) (b:Same H1 H2):Same H H2:=fun c o h=>b c o (a c o h)
theorem Same.free {H H':Hp} (e:Same H H') {l:Addr} (h:H' l=Option.none):H l=Option.none:=by
 cases q:H l with
 | none=>rfl
 | some o=>
  rw [e l o q] at h
  cases h
theorem Same.seq {K:W.Frag} {H H':Hp} {a:Addr} {xs:List V} (e:Same H H') (h:SqL K H a xs):SqL K H' a xs:=by
 rcases h with (h | ⟨o,h⟩) | h
 ·exact .inl (.inl (e _ _ h))
 ·exact .inl (.inr ⟨o,e _ _ h⟩)
 ·exact .inr h
end L2
end
section
namespace L2
open PySem PySem.Spec PyProof.Rows PySem.SeqAt
mutual
inductive RdD (K:W.Frag) (H:Hp):V→PyData→Prop
 | non:RdD K H .non .none
 | bl (b:Bool):RdD K H (.bl b) (.bool b)
 | int (i:Int):RdD K H (.int i) (.int i)
 | str (x:Str):RdD K H (.str x) (.str x)
 | lst {a:Addr} {xs:List V} {ds:List PyData}:SqL K H a xs→RdDs K H xs ds→RdD K H (.ref a) (.list ds)
 | tup {a:Addr} {xs:List V} {ds:List PyData}:SqT K H a xs→RdDs K H xs ds→RdD K H (.ref a) (.tuple ds)
inductive RdDs (K:W.Frag) (H:Hp):List V→List PyData→Prop
 | nil:RdDs K H [] []
 | cons {x:V} {xs:List V} {d:PyData} {ds:List PyData}:RdD K H x d→RdDs K H xs ds→RdDs K H (x::xs) (d::ds)
end
section
variable {X:Cx} {pins:List (Addr×Obj)} {σ:St} {H:Hp} {s:Shared}
mutual
theorem RdD.reads (I:Inv X pins σ H s):∀ {x:V} {d:PyData} {v:Value},RdD X.K H x d→RelV x v→∃ as,Reads s.heap v d as
 | _,_,_,.non,r=>by cases (show _=Value.none from r); exact ⟨_,.none⟩
 | _,_,_,.bl b,r=>by cases (show _=Value.bool b from r); exact ⟨_,.bool b⟩
 | _,_,_,.int i,r=>by obtain ⟨t,e⟩:=(show ∃ t,_=Value.int i t from r); subst e; exact ⟨_,.int i t⟩
 | _,_,_,.str x,r=>by obtain ⟨t,e⟩:=(show ∃ t,_=Value.str x t from r); subst e; exact ⟨_,.str x t⟩
 | _,_,_,.lst (a:=a) hq hs,r=>by
  cases (show _=Value.ref a from r)
  obtain ⟨its,rv,pl,_⟩:=I.list hq
  obtain ⟨as,ra⟩:=RdDs.reads I hs rv
  obtain ⟨o,ho,hc,n,hd⟩:=pl.isList
  exact ⟨_,.list ho hc hd (by simpa using ra)⟩
 | _,_,_,.tup (a:=a) hq hs,r=>by
  cases (show _=Value.ref a from r)
  obtain ⟨its,rv,pl,_⟩:=I.tuple hq
  obtain ⟨as,ra⟩:=RdDs.reads I hs rv
  obtain ⟨o,ho,hc,n,hd⟩:=pl
  exact ⟨_,.tuple ho hc hd (by simpa using ra)⟩
theorem RdDs.reads (I:Inv X pins σ H s):∀ {xs:List V} {ds:List PyData} {vs:List Value},RdDs X.K H xs ds→Vals xs vs→∃ as,ReadsAll s.heap vs ds as
 | _,_,_,.nil,.nil=>⟨_,.nil⟩
 | _,_,_,.cons hd ht,.cons r rr=>by
  obtain ⟨as,ra⟩:=RdD.reads I hd r
  obtain ⟨bs,rb⟩:=RdDs.reads I ht rr
  exact ⟨_,.cons ra rb⟩
end
def rEqD (K:W.Frag):R2:=fun x y H Q=>∃ d e,RdD K H x d∧RdD K H y e∧shaped d=true∧shaped e=true∧Q (.bl (PyData.eqv d e)) H
def rNeD (K:W.Frag):R2:=fun x y H Q=>∃ d e,RdD K H x d∧RdD K H y e∧shaped d=true∧shaped e=true∧Q (.bl (!PyData.eqv d e)) H
theorem J2u (hu:X.A.units+64 < cLine):OpR X (compareOp .Eq) (rEqD X.K):=by
 intro pins s σ H x y v u Q I rx ry h
 obtain ⟨d,e,hd,he,sd,se,q⟩:=h
 obtain ⟨as,ra⟩:=RdD.reads I hd rx
 obtain ⟨bs,rb⟩:=RdD.reads I he ry
 exact eq_dataH ra rb sd se hu ⟨.bl _,H,I,rfl,q⟩
theorem J5I (hu:X.A.units+64 < cLine):OpR X (compareOp .NotEq) (rNeD X.K):=by
 intro pins s σ H x y v u Q I rx ry h
 obtain ⟨d,e,hd,he,sd,se,q⟩:=h
 obtain ⟨as,ra⟩:=RdD.reads I hd rx
 obtain ⟨bs,rb⟩:=RdD.reads I he ry
 exact ne_dataH ra rb sd se hu ⟨.bl _,H,I,rfl,q⟩
end
end L2
end
section
namespace L2
open PySem PySem.Spec PyProof.Rows PySem.SeqAt
def J5B (K:W.Frag):List V→Hp→VK→Prop:=fun xs H Q=>∃ a d,xs=[.ref a]∧RdD K H (.ref a) d∧d.showable=true∧d.hasDict=false∧d.depth≤60∧d.shown.length≤sizeLine∧Q (.str d.shown) H
end L2
end
section
namespace L2
open PySem PySem.Spec PyProof.Rows PySem.SeqAt
theorem J1Q {K:W.Frag} {H H':Hp} {a:Addr} {xs:List V} (h:SqT K H a xs) (e:Same H H'):SqT K H' a xs:=by
 rcases h with (h | ⟨o,h⟩) | h
 ·exact .inl (.inl (e _ _ h))
 ·exact .inl (.inr ⟨o,e _ _ h⟩)
 ·exact .inr h
mutual
theorem RdD.same {K:W.Frag} {H H':Hp} (e:Same H H'):∀ {v:V} {d:PyData},RdD K H v d→RdD K H' v d
 | _,_,.non=>.non
 | _,_,.bl b=>.bl b
 | _,_,.int i=>.int i
 | _,_,.str x=>.str x
 | _,_,.lst hq hs=>.lst (e.seq hq) (RdDs.same e hs)
 | _,_,.tup hq hs=>.tup (J1Q hq e) (RdDs.same e hs)
theorem RdDs.same {K:W.Frag} {H H':Hp} (e:Same H H'):∀ {v:List V} {d:List PyData},RdDs K H v d→RdDs K H' v d
 | _,_,.nil=>.nil
 | _,_,.cons h hs=>.cons (RdD.same e h) (RdDs.same e hs)
end
end L2
end
section
namespace L2
open PySem PySem.Spec PyProof.Rows
def Cx.block (X:Cx) (N:List Str) (scope:Scope) (cl:List (Str×Addr)) (C:Addr) (fp:List Addr) (s:Shared) (H:Hp):Cx:=
 { X with N:=N,s₀:=s,H₀:=H,env:=compEnvC scope cl C X.env,outer:=X.stack,stack:=X.stack,ex:=fp,fn:=fun _=>false,pn:=[],xe:=fun _ _=>False }
structure BlockOk (X:Cx) (N:List Str) (nl:List (Option Nat)) (scope:Scope) (cl:List (Str×Addr)):Prop where
 kind:scope.kind=.function
 nocell:∀ y∈scope.names,y.2≠.cell
 names:∀ y∈scope.names,y.2=.local→scope.names.lookup y.1=some .local
 clos:closureFor scope X.env=pure cl
 sub:∀ y c,cl.lookup y=some c→X.env.cells.lookup y=some c
 has:∀ y,scope.names.lookup y=some .free→∃ c,cl.lookup y=some c
 len:nl.length=N.length
 seen:∀ (i j:Nat) (y:Str),N[i]?=some y→nl[i]?=some (some j)→X.N[j]?=some y∧scope.names.lookup y=some .free∧(X.env.scope.names.lookup y=some .cell∨X.env.scope.names.lookup y=some .free)
def stOf (nl:List (Option Nat)) (σ:St):St:=nl.map fun o=>match o with
 | none=>none
 | some j=>(σ[j]?).join
theorem Z0E {x:Str} {k:NameKind}:∀ {l:List (Str×NameKind)},l.lookup x=some k→(x,k)∈l
 | [],h=>by simp at h
 | (n,q)::r,h=>by
  rw [List.lookup_cons] at h
  cases e:x == n with
  | true=>
   rw [e] at h
   have:q=k:=by simpa using h
   have e':x=n:=by simpa using e
   rw [this,e']
   exact List.mem_cons_self
  | false=>
   rw [e] at h
   exact List.mem_cons_of_mem _ (Z0E h)
theorem Z1L {env:Env} {x:Str} {k:NameKind}:∀ {l:List (Str×NameKind)},
  (l.map fun (n,k)=>if (k == NameKind.free&&env.scope.kind == .function&&env.kindOf n == some .cell) then (n,NameKind.cell) else (n,k)).lookup x=some k →
   (l.lookup x=some k∨(k=.cell∧l.lookup x=some .free))
 | [],h=>by simp at h
 | (n,q)::r,h=>by
  rw [List.map_cons] at h
  cases e:x == n with
  | true=>
   by_cases hc:(q == NameKind.free&&env.scope.kind == .function&&env.kindOf n == some .cell)=true
   ·simp only [hc,if_true,List.lookup_cons,e] at h
    have hq:q=.free:=by
     rw [Bool.and_eq_true,Bool.and_eq_true] at hc
     simpa using hc.1.1
    refine .inr ⟨(by simpa using h.symm),?_⟩
    rw [List.lookup_cons,e,hq]
   ·change List.lookup x ((if (q == NameKind.free&&env.scope.kind == .function&&env.kindOf n == some .cell)=true then (n,NameKind.cell) else (n,q))::_)=some k at h
    rw [if_neg hc,List.lookup_cons,e] at h
    refine .inl ?_
    rw [List.lookup_cons,e]
    exact h
  | false=>
   have h':(r.map fun (n,k)=>if (k == NameKind.free&&env.scope.kind == .function&&env.kindOf n == some .cell) then (n,NameKind.cell) else (n,k)).lookup x=some k:=by
    by_cases hc:(q == NameKind.free&&env.scope.kind == .function&&env.kindOf n == some .cell)=true
    ·simpa only [hc,if_true,List.lookup_cons,e] using h
    ·simpa only [hc,List.lookup_cons,e,if_false,Bool.false_eq_true] using h
   have ih:=Z1L (env:=env) h'
   rw [List.lookup_cons,e]
   exact ih
theorem Z2z {env:Env} {x:Str}:∀ {l:List (Str×NameKind)},l.lookup x=some .free →
  (l.map fun (n,k)=>if (k == NameKind.free&&env.scope.kind == .function&&env.kindOf n == some .cell) then (n,NameKind.cell) else (n,k)).lookup x=some .cell ∨
  (l.map fun (n,k)=>if (k == NameKind.free&&env.scope.kind == .function&&env.kindOf n == some .cell) then (n,NameKind.cell) else (n,k)).lookup x=some .free
 | [],h=>by simp at h
 | (n,q)::r,h=>by
  rw [List.map_cons]
  cases e:x == n with
  | true=>
   rw [List.lookup_cons,e] at h
   have hq:q=.free:=by simpa using h
   by_cases hc:(q == NameKind.free&&env.scope.kind == .function&&env.kindOf n == some .cell)=true
   ·left; simp only [hc,if_true,List.lookup_cons,e]
   ·right
    change List.lookup x ((if (q == NameKind.free&&env.scope.kind == .function&&env.kindOf n == some .cell)=true then (n,NameKind.cell) else (n,q))::_)=some .free
    rw [if_neg hc,List.lookup_cons,e,hq]
  | false=>
   rw [List.lookup_cons,e] at h
   have ih:=Z2z (env:=env) (l:=r) h
   by_cases hc:(q == NameKind.free&&env.scope.kind == .function&&env.kindOf n == some .cell)=true
   ·simpa only [hc,if_true,List.lookup_cons,e] using ih
   ·simpa only [hc,List.lookup_cons,e,if_false,Bool.false_eq_true] using ih
section
variable {X:Cx} {pins:List (Addr×Obj)} {σ:St} {H:Hp} {s:Shared} {N:List Str} {nl:List (Option Nat)} {scope:Scope} {cl:List (Str×Addr)} {fp:List Addr}
theorem J0h (I:Inv X pins σ H s) (B:BlockOk X N nl scope cl) (hf:∀ b∈fp,FpOk X pins H b) (hob:∀ b∈fp,b < s.heap.objs.size) {C:Addr} (hC:s.heap.objs.size≤C):(X.block N scope cl C fp s H).Ok:=by
 have stk:∀ b∈frs X.stack,b=X.env.locals∨b∈X.fs:=fun b hb=>List.mem_cons.mp (I.stkSub b hb)
 refine ⟨I.ok.mod,B.kind,I.ok.glob,I.ok.blt,hC,fun x y c h1 h2=>I.ok.inj x y c (B.sub x c h1) (B.sub y c h2),fun x hx=>?_,fun x c h=>(nomatch h),I.ok.hd,I.ok.frames,.inl rfl,fun b hb=>⟨?_,fun x c e=>?_⟩,
  I.bs,Nat.le_trans I.ok.bsz I.sz,fun b o e hb=>?_,fun b hb hm=>?_,I.stack,I.stkFree⟩
 ·have hx':(scope.names.map fun (n,k)=>if (k == NameKind.free&&X.env.scope.kind == .function&&X.env.kindOf n == some .cell) then (n,NameKind.cell) else (n,k)).lookup x=some .cell ∨
    (scope.names.map fun (n,k)=>if (k == NameKind.free&&X.env.scope.kind == .function&&X.env.kindOf n == some .cell) then (n,NameKind.cell) else (n,k)).lookup x=some .free:=hx
  rcases hx' with q | q
  ·rcases Z1L q with z | ⟨_,z⟩
   ·exact absurd rfl (B.nocell _ (Z0E z))
   ·exact B.has x z
  ·rcases Z1L q with z | ⟨z,_⟩
   ·exact B.has x z
   ·cases z
 ·exact Nat.ne_of_lt (Nat.lt_of_lt_of_le (hob b hb) hC)
 ·exact (hf b hb).2.2.2.2.1 x c (B.sub x c e)
 ·rcases (hf b hb).2.2.2.1 with z | z
  ·exact I.ok.noex b o e z
  ·exact absurd (Nat.lt_of_lt_of_le (Heap.lt_size (I.ok.bs b o e).1) z) (Nat.lt_irrefl _)
 ·rcases stk b hm with z | z
  ·exact (hf b hb).2.1 z
  ·exact (hf b hb).2.2.1 z
theorem Z5m {i:Nat} {v:V} (h:(stOf nl σ)[i]?=some (some v)):∃ j,nl[i]?=some (some j)∧σ[j]?=some (some v):=by
 unfold stOf at h
 rw [List.getElem?_map] at h
 cases e:nl[i]? with
 | none=>rw [e] at h; cases h
 | some o=>
  rw [e] at h
  cases o with
  | none=>cases h
  | some j=>
   refine ⟨j,rfl,?_⟩
   have h':(σ[j]?).join=some v:=by simpa using h
   cases q:σ[j]? with
   | none=>rw [q] at h'; cases h'
   | some o'=>
    rw [q] at h'
    have:o'=some v:=by simpa using h'
    rw [this]
theorem Z6K (I:Inv X pins σ H s) (B:BlockOk X N nl scope cl) (hf:∀ b∈fp,FpOk X pins H b) (hob:∀ b∈fp,b < s.heap.objs.size) {C D:Addr} (hD:D=s.heap.objs.size) (hC:C=s.heap.objs.size+1) {h1:Heap} {tk:Nat} {m:Str→Option Value} {n:Nat}
  (hk:∀ b o,s.heap.get? b=some o→h1.get? b=some o) (hl:h1.get? D=some { cls:=.type "list",data:=.seq ([]:List Value).toArray n }) (hn:h1.Ns C m) :
  Inv (X.block N scope cl C fp s H) [] (stOf nl σ) (upd H D (.lst [])) { s with heap:=h1,toks:=tk }:=by
 have hDn:H D=none:=I.hok.fresh (by rw [hD]; exact Nat.le_refl _)
 have hCD:C≠D:=by rw [hC,hD]; exact Nat.succ_ne_self _
 have hCn:H C=none:=I.hok.fresh (by rw [hC]; exact Nat.le_succ _)
 have cellD:∀ y c,cl.lookup y=some c→c≠D:=fun y c e z=>by
  obtain ⟨v,q⟩:=I.cell y c (B.sub y c e)
  exact absurd q.lt (by rw [z,hD]; exact Nat.lt_irrefl _)
 refine ⟨J0h I B hf hob (by rw [hC]; exact Nat.le_succ _),rfl,I.bare,Un.laid hk (by rw [hD]; exact Nat.le_refl _) hDn,⟨m,hn,fun i y v e1 e2 _=>?_⟩,fun y c e=>?_,?_,fun y c e=>?_,fun p hp=>absurd hp (by simp [Cx.block]),?_,?_⟩
 ·obtain ⟨j,hj,hv⟩:=Z5m e2
  obtain ⟨x1,x2,x3⟩:=B.seen i j y e1 hj
  obtain ⟨m0,hm0,hl0⟩:=I.loc
  obtain ⟨u,r,l⟩:=hl0 j y v x1 hv (.inr x3)
  refine ⟨u,r,?_⟩
  rcases l with ⟨hk1,_⟩ | ⟨_,c,hc,z⟩
  ·have hk1':X.env.scope.names.lookup y=some .local:=hk1
   rcases x3 with q | q <;> (rw [hk1'] at q; cases q)
  ·refine .inr ⟨Z2z x2,c,?_,z.keeps hk⟩
   obtain ⟨c',hc'⟩:=B.has y x2
   have q:=B.sub y c' hc'
   rw [hc] at q
   cases q
   exact hc'
 ·obtain ⟨v,q⟩:=I.cell y c (B.sub y c e)
  exact ⟨v,q.keeps hk⟩
 ·show (upd H D (.lst [])) C=none
  rw [Z0h hCD]
  exact hCn
 ·rw [Z0h (cellD y c e)]
  exact I.freeC y c (B.sub y c e)
 ·exact I.hok.laid hk (by rw [hD]; exact Nat.le_refl _) ⟨Nat.zero_le _,[],n,.nil,hl⟩
 ·show (stOf nl σ).length=N.length
  unfold stOf
  rw [List.length_map,B.len]
theorem Z5U {C:Addr} {σ':St} {H':Hp} {s':Shared} {h2:Heap} (I:Inv X pins σ H s) (hf:∀ b∈fp,FpOk X pins H b) (hC:s.heap.objs.size≤C) (J:Inv (X.block N scope cl C fp s H) [] σ' H' s') (hk:∀ b o,b≠C→s'.heap.get? b=some o→h2.get? b=some o) :
  Inv X pins σ H' { s' with heap:=h2 }:=by
 obtain ⟨hp,g,d,t,os⟩:=s'
 have ho:os=s.os:=J.os
 subst ho
 have hCn:H' C=none:=J.free
 have u:=J.base
 have ne:∀ b o,s.heap.get? b=some o→b≠C:=fun b o e=>Nat.ne_of_lt (Nat.lt_of_lt_of_le (Heap.lt_size e) hC)
 have u2:Un (frs X.stack) fp H H' s.heap h2:=
  ⟨fun b o e n hb hx=>hk b o (ne b o e) (u.keep b o e n hb hx),fun b o e n hb hx=>(let ⟨sl,q⟩:=u.slot b o e n hb hx; ⟨sl,hk b _ (ne b o e) q⟩),u.free,fun b o e hx=>(let ⟨o',q⟩:=u.there b o e hx; ⟨o',hk b o' (ne b o e) q⟩),u.tups,u.frzs,u.tbls⟩
 have hok2:HOk X.prog X.w H' h2:=fun b o e=>(J.hok b o e).stay (fun c v hc q=>hk c v (fun z=>by
  subst z
  rcases hc with z | z
  ·rw [← z,hCn] at e; cases e
  ·rw [hCn] at z; cases z) q) (fun _ q=>q) fun _ _ q=>q
 have z:=I.call (h':=h2) (g':=g) (d':=d) (t':=t) (ch:=fp) u2 hok2 J.bare fun b hb=>(let ⟨_,f1,_,f3,f4,f5⟩:=hf b hb; ⟨f3,f1,f4,f5⟩)
 exact z
end
def PQ (X:Cx) (tst:Env→Sem Bool) (t:TT):Prop:=
 ∀ (pins:List (Addr×Obj)) (s:Shared) (σ:St) (H:Hp) (Q:Bool→Hp→Prop),Inv X pins σ H s→t σ H Q→wpAny (model X.prog X.w) X.A (tst X.env) (TP X pins σ Q) X.xe s
def Z2K:TT:=fun _ H Q=>Q true H
theorem Z6y {X:Cx}:PQ X (fun _=>pure true) Z2K:=fun _ _ _ H _ I h=>wpAny_pure ⟨H,I,h⟩
theorem J2o {X:Cx} {c:Expr} {t:TT} (h:PT X c t):PQ X (fun env=>isTrue c env (eval c env)) t:=h
def Z3y (J:It) (g:TG) (tc:TT) (te:TE) (D:Addr) (Q:VK) (σ0:St) (H0:Hp):Prop:=∃ W:Nat→Nat→St→Hp→Prop,(∃ m,W 0 m σ0 H0)∧∀ i m σ' H',W i m σ' H' →
 (J.stop i H'∧Q (.ref D) H')∨(J.go i H'∧∃ N:St→Hp→Prop,(∀ σ2 H2,N σ2 H2→∃ m',m' < m∧W (i+1) m' σ2 H2)∧∀ x H2,J.yld i H' x H2→g x σ' H2 fun σ3 H3=>tc σ3 H3 fun b H4=>
  if b=true then te σ3 H4 fun v H5=>∃ xs,H5 D=some (.lst xs)∧xs.length < sizeLine∧N σ3 (upd H5 D (.lst (xs++[v]))) else N σ3 H4)
def Z5K (wi:TI) (nl:List (Option Nat)) (g:TG) (tc:TT) (te:TE):TE:=fun σ H Q=>wi σ H fun J H1=>∀ D,H1 D=none→Z3y J g tc te D Q (stOf nl σ) (upd H1 D (.lst []))
theorem Z3X {X:Cx} {N:List Str} {nl:List (Option Nat)} {scope:Scope} {cl:List (Str×Addr)} {elt tg iter:Expr} {ifs:List Expr} {pos:Pos} {wi:TI} {g:TG} {tst:Env→Sem Bool} {tc:TT} {te:TE} (hcalm:X.calm=true)
  (B:BlockOk X N nl scope cl) (hi:PI X tg iter wi) (hg:∀ C fp s H,PG (X.block N scope cl C fp s H) tg g) (ht:∀ C fp s H,PQ (X.block N scope cl C fp s H) tst tc) (he:∀ C fp s H,PE (X.block N scope cl C fp s H) elt te)
  (hturn:∀ (it acc:Value) (env:Env),compTurn (.ListComp elt [⟨tg,iter,ifs,0⟩] scope pos) 0 it acc env=(do
   standAt iter.pos
   match ← pyNext it with
   | none=>pure (.done .next)
   | some v=>
    letOwnedTupleGo tg it v
    assign tg env v
    let ok ← tst env
    if ok then (do
     (do let x ← eval elt env; let _ ← call (.builtin "list.append") [acc,x]; pure ())
     again (.compLoop (.ListComp elt [⟨tg,iter,ifs,0⟩] scope pos) 0 it acc env))
    else again (.compLoop (.ListComp elt [⟨tg,iter,ifs,0⟩] scope pos) 0 it acc env)))
  (hs:∀ x,foldedSetIterable iter X.env x=pure x) {pins:List (Addr×Obj)} {s:Shared} {σ:St} {H:Hp} {Q:VK} (I:Inv X pins σ H s) (h:Z5K wi nl g tc te σ H Q) {use:Option (Value→Sem Unit)} {Q':Value→Shared→Prop}
  (hpost:∀ (D C:Addr) (s' s2:Shared) (fp:List Addr) (σ':St) (H' H2:Hp),Inv X pins σ H2 s2→(∀ b∈fp,FpOk X pins H2 b)→s2.heap.objs.size≤C→Inv (X.block N scope cl C fp s2 H2) [] σ' H' s'→Q (.ref D) H' →
   compPost (model X.prog X.w) X.A X.xe use Q' (.ref D) C (.ok .next) s')
  (hpos:Pos) :
  wpAny (model X.prog X.w) X.A (comprehension (.ListComp elt [⟨tg,iter,ifs,0⟩] scope pos) scope X.env hpos (newList []) false (eval iter X.env) use) Q' X.xe s:=by
 refine wpAny_comprehension_free (use:=use) rfl hs B.clos B.kind B.names ?_
 refine thn (hi pins s σ H _ I h) fun v s1 h1=>thn h1 fun itv s2 h2=>?_
 obtain ⟨it,fp,tn,J,H2,e,I2,T,st2,f2,q⟩:=h2
 subst e
 have hob:∀ b∈fp,b < s2.heap.objs.size:=fun b hb=>(let ⟨o,e,_⟩:=T.obj 0 _ st2 b hb; Heap.lt_size e)
 refine wpAny_newObj_type (wpAny_newFunctionEnv B.nocell (by intro y hy; simp at hy) (fun h1 hns hsb=>?_) B.kind)
 dsimp only at hns hsb ⊢
 generalize hD:s2.heap.objs.size=D at hns hsb ⊢
 have hC:(s2.heap.push { cls:=.type "list",dict:=none,data:=.seq ([]:List Value).toArray }).objs.size=s2.heap.objs.size+1:=by rw [Heap.size_push]
 generalize hC':(s2.heap.push { cls:=.type "list",dict:=none,data:=.seq ([]:List Value).toArray }).objs.size=C at hns hsb hC ⊢
 have hDC:D≠C:=by rw [hC,← hD]; exact (Nat.succ_ne_self _).symm
 have lt_ne:∀ b,b < s2.heap.objs.size→b≠C:=fun b hb=>by rw [hC]; exact Nat.ne_of_lt (Nat.lt_succ_of_lt hb)
 have old:∀ b o,s2.heap.get? b=some o→h1.get? b=some o:=fun b o e=>
  hsb.extBut b o (lt_ne b (Heap.lt_size e)) (Heap.get?_push_of_some _ (Heap.get?_push_of_some _ e))
 have hl:h1.get? D=some { cls:=.type "list",data:=.seq ([]:List Value).toArray 0 }:=by
  refine hsb.extBut D _ hDC (Heap.get?_push_of_some _ ?_)
  rw [← hD]
  exact Heap.get?_push_size _ rfl
 have fresh:H2 D=none:=I2.hok.fresh (by rw [hD]; exact Nat.le_refl _)
 obtain ⟨W,⟨m0,w0⟩,turn⟩:=q D fresh
 have hCle:s2.heap.objs.size≤C:=by rw [hC]; exact Nat.le_succ _
 have stat:∀ {H':Hp},(∀ b∈fp,H' b=none)→∀ b∈fp,FpOk (X.block N scope cl C fp s2 H2) [] H' b:=fun hn b hb=>by
  obtain ⟨_,f1,f2',f3,f4,f5⟩:=f2 b hb
  refine ⟨hn b hb,lt_ne b (hob b hb),fun z=>?_,.inl hb,fun x c e=>f4 x c (B.sub x c e),fun p hp=>absurd hp (by simp [Cx.block])⟩
  rcases List.mem_cons.mp (I2.stkSub b z) with z | z
  ·exact f1 z
  ·exact f2' z
 have main:∀ s4:Shared,(∃ tk,s4={ s2 with heap:=h1,toks:=tk }) →
   codeAny (model X.prog X.w) X.A (.compLoop (.ListComp elt [⟨tg,iter,ifs,0⟩] scope pos) 0 (.ref it) (.ref D) (X.block N scope cl C fp s2 H2).env) (compPost (model X.prog X.w) X.A X.xe use Q' (.ref D) C) s4:=by
  rintro s4 ⟨tk,rfl⟩
  have I3:Inv (X.block N scope cl C fp s2 H2) [] (stOf nl σ) (upd H2 D (.lst [])) { s2 with heap:=h1,toks:=tk }:=Z6K I2 B f2 hob hD.symm hC old hl hns
  refine codeAny_loop rfl (fun n s'=>∃ i σ' H',Inv (X.block N scope cl C fp s2 H2) [] σ' H' s'∧tn i s'.heap∧(∀ b∈fp,H' b=none)∧W i n σ' H') (fun n s5 hI=>?_) m0
   ⟨0,stOf nl σ,_,I3,T.keep 0 _ _ st2 fun b hb o e=>old b o e,fun b hb=>by rw [Z0h (fun z=>absurd (hob b hb) (by rw [z,← hD]; exact Nat.lt_irrefl _))]; exact (f2 b hb).1,w0⟩
  show wpAny _ X.A ((compTurn (.ListComp elt [⟨tg,iter,ifs,0⟩] scope pos) 0 (.ref it) (.ref D) (X.block N scope cl C fp s2 H2).env).onRaise (fun x=>do noteFrame x (X.block N scope cl C fp s2 H2).env; theTreesLotGoes x)) _ _ s5
  refine wpAny_noted ?_
  rw [hturn]
  obtain ⟨i,σ5,H5,I5,st5,fr5,w5⟩:=hI
  have quiet:∀ {α:Type} {t:Sem α} {R:α→Shared→Prop} {E':Value→Shared→Prop} {s':Shared},wpAny (model X.prog X.w) X.A t R (fun _ _=>False) s'→wpAny (model X.prog X.w) X.A t R E' s':=fun hw=>wpAny_mono hw (fun _ _ z=>z) fun _ _ z=>z.elim
  refine wpAny_bind (wpAny_standAt ?_)
  rcases turn i n σ5 H5 w5 with ⟨stop,qn⟩ | ⟨go,Nx,hN,step⟩
  ·refine wpAny_bind (quiet (thn (T.done (X.block N scope cl C fp s2 H2) rfl rfl rfl hcalm i [] s5 σ5 H5 (fun _ _=>False) I5 (stat fr5) st5 stop) fun r s6 ⟨hr,I6⟩=>?_))
   subst hr
   exact quiet (wpAny_pure (hpost D C s6 s2 fp σ5 H5 H2 I2 f2 hCle I6 qn))
  ·refine wpAny_bind (quiet (thn (T.item (X.block N scope cl C fp s2 H2) rfl rfl rfl hcalm i [] s5 σ5 H5 (fun _ _=>False) I5 (stat fr5) st5 go) fun r s6 ⟨u,hr,h6⟩=>?_))
   subst hr
   refine wpAny_bind (quiet (thn h6 fun _ s7 ⟨x,H7,I7,r7,y7,st7,fr7⟩=>?_))
   have I7':=I7.pinned (stat fr7) (T.obj _ _ st7)
   have again':∀ {σ8:St} {H8:Hp} {s8:Shared},Inv (X.block N scope cl C fp s2 H2) ([]++Z4y fp s7.heap) σ8 H8 s8→Nx σ8 H8→∃ m,m < n∧∃ i σ' H',Inv (X.block N scope cl C fp s2 H2) [] σ' H' s8∧tn i s8.heap∧(∀ b∈fp,H' b=none)∧W i m σ' H':=fun {σ8 H8 s8} I8 n8=>by
    obtain ⟨m',hm,w8⟩:=hN σ8 H8 n8
    refine ⟨m',hm,i+1,σ8,H8,I8.unpinned,T.keep _ _ _ st7 fun b hb o e=>(I8.pin (b,o) (List.mem_append_right _ (List.mem_append_right _ (Z1S hb e)))).1,fun b hb=>?_,w8⟩
    obtain ⟨o,e,_⟩:=T.obj _ _ st7 b hb
    exact (I8.pin (b,o) (List.mem_append_right _ (List.mem_append_right _ (Z1S hb e)))).2.1
   refine wpAny_bind (quiet (thn (hg C fp s2 H2 _ s7 σ5 H7 x u _ I7' r7 (step x H7 y7)) fun _ s8 ⟨σ8,H8,I8,q8⟩=>?_))
   refine wpAny_bind (quiet (thn (ht C fp s2 H2 _ s8 σ8 H8 _ I8 q8) fun b s9 ⟨H9,I9,q9⟩=>?_))
   cases b with
   | false=>exact quiet (wpAny_pure ⟨rfl,again' I9 q9⟩)
   | true=>
    refine wpAny_bind (wpAny_bind (quiet (thn (he C fp s2 H2 _ s9 σ8 H9 _ I9 q9) fun vy s10 hz_=>?_)))
    obtain ⟨y,H10,I10,r10,xs,e10,z10,n10⟩:=hz_
    refine wpAny_bind (quiet (thn (Z1j _ s10 σ8 H10 (.ref D) [y] (.ref D) [vy] (fun _ H'=>Nx σ8 H') I10 rfl (.cons r10 .nil) ⟨D,xs,y,rfl,rfl,e10,z10,n10⟩) fun _ s11 ⟨_,H11,I11,_,q11⟩=>?_))
    exact wpAny_pure (wpAny_pure ⟨rfl,again' I11 q11⟩)
 exact codeAny_compStart_list (main _ ⟨_,rfl⟩) (T.self _ 0 _ _ _ (T.keep 0 _ _ st2 fun b hb o e=>old b o e) (main _ ⟨_,rfl⟩))
section
variable {X:Cx} {N:List Str} {nl:List (Option Nat)} {scope:Scope} {cl:List (Str×Addr)} {elt tg iter:Expr} {pos:Pos} {wi:TI} {g:TG} {tc:TT} {te:TE}
theorem Z4V (it acc:Value) (env:Env):compTurn (.ListComp elt [⟨tg,iter,[],0⟩] scope pos) 0 it acc env=(do
   standAt iter.pos
   match ← pyNext it with
   | none=>pure (.done .next)
   | some v=>
    letOwnedTupleGo tg it v
    assign tg env v
    let ok ← (fun _=>pure true:Env→Sem Bool) env
    if ok then (do
     (do let x ← eval elt env; let _ ← call (.builtin "list.append") [acc,x]; pure ())
     again (.compLoop (.ListComp elt [⟨tg,iter,[],0⟩] scope pos) 0 it acc env))
    else again (.compLoop (.ListComp elt [⟨tg,iter,[],0⟩] scope pos) 0 it acc env)):=by rfl
theorem Z6X {c:Expr} (it acc:Value) (env:Env):compTurn (.ListComp elt [⟨tg,iter,[c],0⟩] scope pos) 0 it acc env=(do
   standAt iter.pos
   match ← pyNext it with
   | none=>pure (.done .next)
   | some v=>
    letOwnedTupleGo tg it v
    assign tg env v
    let ok ← (fun env=>isTrue c env (eval c env):Env→Sem Bool) env
    if ok then (do
     (do let x ← eval elt env; let _ ← call (.builtin "list.append") [acc,x]; pure ())
     again (.compLoop (.ListComp elt [⟨tg,iter,[c],0⟩] scope pos) 0 it acc env))
    else again (.compLoop (.ListComp elt [⟨tg,iter,[c],0⟩] scope pos) 0 it acc env)):=by
 unfold compTurn
 simp
 rfl
theorem Z6b {pins:List (Addr×Obj)} {σ:St} {Q:VK} (D C:Addr) (s' s2:Shared) (fp:List Addr) (σ':St) (H' H2:Hp) (I2:Inv X pins σ H2 s2) (f2:∀ b∈fp,FpOk X pins H2 b) (hC:s2.heap.objs.size≤C) (J:Inv (X.block N scope cl C fp s2 H2) [] σ' H' s') (q:Q (.ref D) H') :
  compPost (model X.prog X.w) X.A X.xe none (EP X pins σ Q) (.ref D) C (.ok .next) s':=by
 obtain ⟨m,hn,_⟩:=J.loc
 exact ⟨m,hn,fun h' sb=>⟨.ref D,H',Z5U I2 f2 hC J fun b o hb e=>sb.extBut b o hb e,rfl,q⟩⟩
theorem Z0W (hcalm:X.calm=true) (B:BlockOk X N nl scope cl) (hi:PI X tg iter wi) (hg:∀ C fp s H,PG (X.block N scope cl C fp s H) tg g) (he:∀ C fp s H,PE (X.block N scope cl C fp s H) elt te) (hs:∀ x,foldedSetIterable iter X.env x=pure x:=by intro _; rfl) :
  PE X (.ListComp elt [⟨tg,iter,[],0⟩] scope pos) (Z5K wi nl g Z2K te):=by
 intro pins s σ H Q I h
 rw [eval_ListComp]
 exact Z3X (tst:=fun _=>pure true) hcalm B hi hg (fun _ _ _ _=>Z6y) he Z4V hs I h Z6b _
theorem Z7u {c:Expr} (hcalm:X.calm=true) (B:BlockOk X N nl scope cl) (hi:PI X tg iter wi) (hg:∀ C fp s H,PG (X.block N scope cl C fp s H) tg g) (hc:∀ C fp s H,PT (X.block N scope cl C fp s H) c tc) (he:∀ C fp s H,PE (X.block N scope cl C fp s H) elt te)
  (hs:∀ x,foldedSetIterable iter X.env x=pure x:=by intro _; rfl):PE X (.ListComp elt [⟨tg,iter,[c],0⟩] scope pos) (Z5K wi nl g tc te):=by
 intro pins s σ H Q I h
 rw [eval_ListComp]
 exact Z3X (tst:=fun env=>isTrue c env (eval c env)) hcalm B hi hg (fun C fp s H=>J2o (hc C fp s H)) he Z6X hs I h Z6b _
end
end L2
end
section
namespace L2
open PySem PySem.Spec PyProof.Rows
def Its (x:Str):It:=⟨fun i _=>i < x.cps.size,fun i H v H'=>H'=H∧∃ c,x.cps[i]?=some c∧v=.str ⟨#[c]⟩,fun i _=>i=x.cps.size⟩
section
variable {X:Cx} {tg:Expr}
end
def Ite (K:W.Frag) (l:Addr):It:=
 ⟨fun i H=>∃ xs x,SqL K H l xs∧xs[i]?=some x,fun i H v H'=>∃ t x,v=.ref t∧H t=none∧H'=upd H t (.tup [.int i,x])∧∀ xs,SqL K H l xs→xs[i]?=some x,fun i H=>∃ xs,SqL K H l xs∧xs.length≤i⟩
section
variable {X:Cx}
def J7P (K:W.Frag) (ta:TA):TI:=fun σ H R=>ta σ H fun vs H1=>∃ a,vs=[.ref a]∧(∃ xs,SqL K H1 a xs)∧R (Ite K a) H1
end
end L2
namespace L2
open PySem PySem.Spec PyProof.Rows
end L2
end
section
namespace L2
open PySem PySem.Spec PyProof.Rows
theorem BlockOk.plain {X:Cx} {N:List Str} {scope:Scope} (kind:scope.kind=.function) (nocell:∀ y∈scope.names,y.2≠.cell) (names:∀ y∈scope.names,y.2=.local→scope.names.lookup y.1=some .local) (nofree:∀ y∈scope.names,y.2≠.free) :
  BlockOk X N (N.map fun _=>none) scope [] where
 kind:=kind
 nocell:=nocell
 names:=names
 clos:=closureFor_none nofree
 sub:=fun y c h=>by simp at h
 has:=fun y h=>absurd rfl (nofree _ (Z0E h))
 len:=by simp
 seen:=fun i j y _ h=>by
  rw [List.getElem?_map] at h
  cases q:N[i]? with
  | none=>rw [q] at h; cases h
  | some z=>rw [q] at h; cases h
theorem J0b {J:It} {g:TG} {tc:TT} {te:TE} {Q:VK} {H:Hp} {D:Addr} {σ0:St} (ys:List V) (p:V→Bool) (f:V→V) (Pσ:St→Prop) (Rσ:V→St→Prop) (h0:Pσ σ0)
  (hgo:∀ i l,i < ys.length→J.go i (upd H D (.lst l))) (hstop:∀ l,J.stop ys.length (upd H D (.lst l)))
  (hy:∀ i l x H',i < ys.length→J.yld i (upd H D (.lst l)) x H'→H'=upd H D (.lst l)∧ys[i]?=some x)
  (hg:∀ x∈ys,∀ σ' H' K,Pσ σ'→(∀ σ3,Pσ σ3→Rσ x σ3→K σ3 H')→g x σ' H' K)
  (hc:∀ x∈ys,∀ σ' l K,Rσ x σ'→K (p x) (upd H D (.lst l))→tc σ' (upd H D (.lst l)) K)
  (he:∀ x∈ys,p x=true→∀ σ' l K,Rσ x σ'→K (f x) (upd H D (.lst l))→te σ' (upd H D (.lst l)) K)
  (hz:ys.length≤sizeLine) (hQ:Q (.ref D) (upd H D (.lst ((ys.filter p).map f)))) :
  Z3y J g tc te D Q σ0 (upd H D (.lst [])):=by
 refine ⟨fun i m σ' H'=>m=ys.length - i∧i≤ys.length∧Pσ σ'∧H'=upd H D (.lst (((ys.take i).filter p).map f)),⟨ys.length,by simp,Nat.zero_le _,h0,by simp⟩,?_⟩
 rintro i m σ' H' ⟨rfl,hi,hP,rfl⟩
 by_cases hlt:i < ys.length
 ·refine .inr ⟨hgo i _ hlt,fun σ2 H2=>Pσ σ2∧H2=upd H D (.lst (((ys.take (i+1)).filter p).map f)),fun σ2 H2 ⟨a,b⟩=>⟨ys.length - (i+1),by omega,rfl,hlt,a,b⟩,fun x H2 hx=>?_⟩
  obtain ⟨eH,hgx⟩:=hy i _ x H2 hlt hx
  subst eH
  have hm:x∈ys:=List.mem_of_getElem? hgx
  have e1:ys.take (i+1)=ys.take i++[x]:=by rw [List.take_add_one,hgx]; rfl
  refine hg x hm σ' _ _ hP fun σ3 hP3 hR=>hc x hm σ3 _ _ hR ?_
  cases hp:p x with
  | true=>
   refine iteT (he x hm hp σ3 _ _ hR ⟨_,Z0e,?_,hP3,?_⟩)
   ·rw [List.length_map]
    have a1:=List.length_filter_le p (ys.take i)
    have a2:(ys.take i).length=i:=by rw [List.length_take]; omega
    omega
   ·rw [J4u,e1,List.filter_append,List.map_append]
    simp [hp]
  | false=>
   refine iteF ⟨hP3,?_⟩
   rw [e1,List.filter_append,List.map_append]
   simp [hp]
 ·have e:i=ys.length:=by omega
  subst e
  refine .inl ⟨hstop _,?_⟩
  rw [List.take_length]
  exact hQ
end L2
end
section
namespace L2
open PySem PySem.Spec PyProof.Rows
theorem BlockOk.of {X:Cx} {N:List Str} {nl:List (Option Nat)} {scope:Scope} {cl:List (Str×Addr)} (kind:scope.kind=.function) (nocell:∀ y∈scope.names,y.2≠.cell) (names:∀ y∈scope.names,y.2=.local→scope.names.lookup y.1=some .local)
  (clos:closureFor scope X.env=pure cl) (sub:∀ p∈cl,X.env.cells.lookup p.1=some p.2) {nm:List Str} (hnm:cl.map (·.1)=nm) (has:∀ y∈scope.names,y.2=.free→y.1∈nm) (len:nl.length=N.length)
  (seen:∀ i < nl.length,∀ j,nl[i]?=some (some j)→∃ y,N[i]?=some y∧X.N[j]?=some y∧scope.names.lookup y=some .free∧(X.env.scope.names.lookup y=some .cell∨X.env.scope.names.lookup y=some .free)):BlockOk X N nl scope cl where
 kind:=kind
 nocell:=nocell
 names:=names
 clos:=clos
 sub:=fun y c h=>sub (y,c) (PySem.mem_of_lookup h)
 has:=fun y h=>by
  have hm:=has _ (Z0E h) rfl
  rw [← hnm] at hm
  cases q:cl.lookup y with
  | some c=>exact ⟨c,rfl⟩
  | none=>
   obtain ⟨p,hp,e⟩:=List.mem_map.mp hm
   have:=List.lookup_eq_none_iff.mp q p hp
   simp [e] at this
 len:=len
 seen:=fun i j y h1 h2=>by
  obtain ⟨z,a,b,c,d⟩:=seen i (List.getElem?_eq_some_iff.mp h2).1 j h2
  rw [h1] at a
  cases a
  exact ⟨b,c,d⟩
theorem sub1 {env:Env} {x:Str} {a:Addr} (h:env.cells.lookup x=some a):∀ p∈[(x,a)],env.cells.lookup p.1=some p.2:=fun p hp=>by
 rcases List.mem_cons.mp hp with e | hp
 ·subst e; exact h
 ·cases hp
theorem sub2 {env:Env} {x y:Str} {a b:Addr} (h:env.cells.lookup x=some a) (h':env.cells.lookup y=some b):∀ p∈[(x,a),(y,b)],env.cells.lookup p.1=some p.2:=fun p hp=>by
 rcases List.mem_cons.mp hp with e | hp
 ·subst e; exact h
 ·exact sub1 h' p hp
theorem Z3k {te:TE} {Q:VK} {H:Hp} {D:Addr} {n:Nat} {σ0:St} (v0:Option V) (rest:St) (f:Nat→V) (e0:σ0=v0::rest)
  (he:∀ i,i < n→∀ l K,K (f i) (upd H D (.lst l))→te (some (.int i)::rest) (upd H D (.lst l)) K)
  (hz:n≤sizeLine) (hQ:Q (.ref D) (upd H D (.lst ((List.range n).map f)))):Z3y (Itr 0 n) (Z3b 0) Z2K te D Q σ0 (upd H D (.lst [])):=by
 have cod:∀ i:Nat,(match (V.int (i:Int):V) with | .int x=>x.toNat | _=>0)=i:=fun i=>by simp
 refine J0b ((List.range n).map fun i:Nat=>V.int i) (fun _=>true) (fun v=>f (match v with | .int x=>x.toNat | _=>0)) (fun σ'=>∃ v,σ'=v::rest) (fun x σ'=>σ'=some x::rest) ⟨v0,e0⟩
  (fun i l h=>?_) (fun l=>?_) (fun i l x H' hi h=>?_) (fun x _ σ' H' K h1 h2=>?_) (fun x hx σ' l K h1 h2=>h2) (fun x hx hp σ' l K h1 h2=>?_) ?_ ?_
 ·rw [List.length_map,List.length_range] at h
  exact h
 ·show n≤_
  rw [List.length_map,List.length_range]
  exact Nat.le_refl _
 ·obtain ⟨rfl,hx⟩:=h
  refine ⟨rfl,?_⟩
  rw [List.length_map,List.length_range] at hi
  rw [List.getElem?_map,List.getElem?_range hi,hx,Int.zero_add]
  rfl
 ·obtain ⟨v,rfl⟩:=h1
  exact h2 _ ⟨_,rfl⟩ rfl
 ·obtain ⟨i,hi,rfl⟩:=List.mem_map.mp hx
  rw [h1]
  have:=he i (List.mem_range.mp hi) l K
  refine this ?_
  have h2':=h2
  simp only [Int.toNat_natCast] at h2'
  exact h2'
 ·rw [List.length_map,List.length_range]; exact hz
 ·rw [List.filter_eq_self.mpr fun _ _=>rfl,List.map_map]
  have:((fun v=>f (match v with | .int x=>x.toNat | _=>0)) ∘ fun i:Nat=>V.int i)=f:=by
   funext i
   simp
  rw [this]
  exact hQ
end L2
end
section
namespace L2
open PySem PySem.Spec PyProof.Rows PySem.SeqAt
structure Nice (k n:Nat) (d:PyData):Prop where
 lay:d.canLay0=true
 sho:d.showable=true
 leaf:d.leavesShort 30=true
 dep:d.depth≤k
 wt:d.weight≤n
section
variable {K:W.Frag} {H H':Hp} {k n:Nat}
end
theorem sub3 {env:Env} {x y z:Str} {a b c:Addr} (h:env.cells.lookup x=some a) (h':env.cells.lookup y=some b) (h'':env.cells.lookup z=some c):∀ p∈[(x,a),(y,b),(z,c)],env.cells.lookup p.1=some p.2:=fun p hp=>by
 rcases List.mem_cons.mp hp with e | hp
 ·subst e; exact h
 ·exact sub2 h' h'' p hp
end L2
end
section
namespace L2
open PySem PySem.Spec PyProof.Rows PySem.SeqAt
theorem J7M {i:Nat} {σ:St} {H:Hp} {Q:VK}:tVar i σ H Q=(∃ v,σ[i]?=some (some v)∧Q v H):=rfl
theorem J9h {v:V} {z0:St} {H:Hp} {Q:VK}:tC v z0 H Q=(Q v H):=rfl
theorem J9b {t:TE} {σ:St} {H:Hp} {Q:Bool→Hp→Prop}:tB t σ H Q=(t σ H fun x H1=>∃ c,x=.bl c∧Q c H1):=rfl
theorem J7Z {t u:TT} {σ:St} {H:Hp} {Q:Bool→Hp→Prop}:tAnd t u σ H Q=(t σ H fun c H1=>if c=true then u σ H1 Q else Q false H1):=rfl
theorem J8D {t u:TT} {σ:St} {H:Hp} {Q:Bool→Hp→Prop}:tOr t u σ H Q=(t σ H fun c H1=>if c=true then Q true H1 else u σ H1 Q):=rfl
theorem J7y {t:TT} {σ:St} {H:Hp} {Q:Bool→Hp→Prop}:tNot t σ H Q=(t σ H fun c H1=>Q (!c) H1):=rfl
theorem J6B {ta tb:TE} {σ:St} {H:Hp} {Q:VK}:J6o ta tb σ H Q=(ta σ H fun x H1=>∃ c,x=.bl c∧if c=true then tb σ H1 Q else Q (.bl false) H1):=rfl
theorem J7L {ta tb:TE} {σ:St} {H:Hp} {Q:VK}:tOrV ta tb σ H Q=(ta σ H fun x H1=>∃ c,x=.bl c∧if c=true then Q (.bl true) H1 else tb σ H1 Q):=rfl
theorem J6r {ta:TE} {σ:St} {H:Hp} {Q:VK}:J8c ta σ H Q=(ta σ H fun x H1=>∃ c,x=.bl c∧Q (.bl (!c)) H1):=rfl
theorem J8C {t:TT} {ta tb:TE} {σ:St} {H:Hp} {Q:VK}:tIf t ta tb σ H Q=(t σ H fun c H1=>if c=true then ta σ H1 Q else tb σ H1 Q):=rfl
theorem J7a {D:Ends} {σ:St} {H:Hp}:J5F  D σ H=(D.nx σ H):=rfl
theorem J7l {t u:TS} {D:Ends} {σ:St} {H:Hp}:tSeq t u D σ H=(t { D with nx:=u D } σ H):=rfl
theorem J5p {D:Ends} {σ:St} {H:Hp}:J6g  D σ H=(D.bk σ H):=rfl
theorem J6J {D:Ends} {σ:St} {H:Hp}:J8o  D σ H=(D.ct σ H):=rfl
theorem J6A {te:TE} {D:Ends} {σ:St} {H:Hp}:J5t te D σ H=(te σ H fun _ H1=>D.nx σ H1):=rfl
theorem J7z {te:TE} {D:Ends} {σ:St} {H:Hp}:tRet te D σ H=(te σ H D.rt):=rfl
theorem J6Z {D:Ends} {z1:St} {H:Hp}:J8m  D z1 H=(D.rt .non H):=rfl
theorem J8s {c:TT} {t u:TS} {D:Ends} {σ:St} {H:Hp}:tIfS c t u D σ H=(c σ H fun b H1=>if b=true then t D σ H1 else u D σ H1):=rfl
theorem J4Q {z0:Ends} {z1:St} {z2:Hp}:J5E  z0 z1 z2=(False):=rfl
theorem J6Y {i:Nat} {v:V} {σ:St} {H:Hp} {Q:St→Hp→Prop}:Z3b i v σ H Q=(Q (σ.set i (some v)) H):=rfl
theorem J7H {vs:List V} {σ:St} {H:Hp} {Q:St→Hp→Prop}:gNil  vs σ H Q=(vs=[]∧Q σ H):=rfl
theorem J6D {t:TG} {u:TGs} {vs:List V} {σ:St} {H:Hp} {Q:St→Hp→Prop}:J4S t u vs σ H Q=(∃ v r,vs=v::r∧t v σ H fun σ' H'=>u r σ' H' Q):=rfl
theorem J7W {K:W.Frag} {n:Nat} {t:TGs} {v:V} {σ:St} {H:Hp} {Q:St→Hp→Prop}:gTup K n t v σ H Q=(∃ a xs,v=.ref a∧SqT K H a xs∧xs.length=n∧t xs σ H Q):=rfl
theorem J8B {to ti:TE} {t:TSet} {v:V} {σ:St} {H:Hp} {Q:St→Hp→Prop}:gSub to ti t v σ H Q=(to σ H fun o H1=>ti σ H1 fun i H2=>t o i v H2 fun H3=>Q σ H3):=rfl
theorem J8x {te:TE} {g:TG} {D:Ends} {σ:St} {H:Hp}:tAsg te g D σ H=(te σ H fun x H1=>g x σ H1 D.nx):=rfl
theorem J7I {i j:Nat} {ta:TA} {D:Ends} {σ:St} {H:Hp}:tPar i j ta D σ H=(ta σ H fun vs H1=>∃ v w,vs=[v,w]∧D.nx ((σ.set i (some v)).set j (some w)) H1):=rfl
theorem J8A {i:Nat} {te:TE} {ti:TIp} {D:Ends} {σ:St} {H:Hp}:tAug i te ti D σ H=(∃ x,σ[i]?=some (some x)∧te σ H fun y H1=>ti x y H1 fun z H2=>D.nx (σ.set i (some z)) H2):=rfl
theorem J6z {to ti te:TE} {tget:V→V→Hp→VK→Prop} {tip:TIp} {tset:TSet} {D:Ends} {σ:St} {H:Hp}:J7n to ti te tget tip tset D σ H=(to σ H fun o H1=>ti σ H1 fun i H2=>tget o i H2 fun x H3=>te σ H3 fun y H4=>tip x y H4 fun z H5=>tset o i z H5 fun H6=>D.nx σ H6):=rfl
theorem J8J {f:Int→Int→Int} {x:V} {y:V} {H:Hp} {Q:VK}:ipI f x y H Q=(∃ i j,x=.int i∧y=.int j∧Q (.int (f i j)) H):=rfl
theorem J7c {K:W.Frag} {tl:TE} {σ:St} {H:Hp} {R:It→Hp→Prop}:J3s K tl σ H R=(tl σ H fun x H1=>∃ a,x=.ref a∧(∃ xs,SqL K H1 a xs)∧R (Itl K a) H1):=rfl
theorem J7O {K:W.Frag} {tl:TE} {σ:St} {H:Hp} {R:It→Hp→Prop}:iTup K tl σ H R=(tl σ H fun x H1=>∃ a,x=.ref a∧(∃ xs,SqT K H1 a xs)∧R (Itt K a) H1):=rfl
theorem J6N {ta:TA} {σ:St} {H:Hp} {R:It→Hp→Prop}:J4H ta σ H R=(ta σ H fun vs H1=>∃ j:Int,vs=[.int j]∧-(2 ^ 62)≤j∧j < 2 ^ 62∧R (Itr 0 j.toNat) H1):=rfl
theorem J6Q {ta:TA} {σ:St} {H:Hp} {R:It→Hp→Prop}:J6p ta σ H R=(ta σ H fun vs H1=>∃ i j:Int,vs=[.int i,.int j]∧(-(2 ^ 62)≤i∧i < 2 ^ 62∧-(2 ^ 62)≤j∧j < 2 ^ 62)∧R (Itr i (j - i).toNat) H1):=rfl
theorem J8N {r:R2} {ta tb:TE} {σ:St} {H:Hp} {Q:VK}:tOp r ta tb σ H Q=(ta σ H fun x H1=>tb σ H1 fun y H2=>r x y H2 Q):=rfl
theorem J8M {r:V→Hp→VK→Prop} {ta:TE} {σ:St} {H:Hp} {Q:VK}:tUn r ta σ H Q=(ta σ H fun x H1=>r x H1 Q):=rfl
theorem J9d {C:Int→Int→Prop} {g:Int→Int→V} {x:V} {y:V} {H:Hp} {Q:VK}:rI C g x y H Q=(∃ i j,x=.int i∧y=.int j∧C i j∧Q (g i j) H):=rfl
theorem J8G {g:Int→Int→V} {x:V} {y:V} {H:Hp} {Q:VK}:rI0 g x y H Q=(∃ i j,x=.int i∧y=.int j∧Q (g i j) H):=rfl
theorem J8Z {g:Int→V} {x:V} {H:Hp} {Q:VK}:rU g x H Q=(∃ i,x=.int i∧Q (g i) H):=rfl
theorem J8I {x:V} {y:V} {H:Hp} {Q:VK}:rEq  x y H Q=(scal x y=true∧Q (.bl (decide (x=y))) H):=rfl
theorem J8P {x:V} {y:V} {H:Hp} {Q:VK}:rNe  x y H Q=(scal x y=true∧Q (.bl (!decide (x=y))) H):=rfl
theorem J6U {t:TE} {σ:St} {H:Hp} {Q:Bool→Hp→Prop}:J5C t σ H Q=(t σ H fun x H'=>∃ k,x=.bl k∧Q k H'):=rfl
theorem J4R {r r':R2} {ta tb tc:TE} {σ:St} {H:Hp} {Q:VK}:J5k r r' ta tb tc σ H Q=(ta σ H fun x H1=>tb σ H1 fun y H2=>r x y H2 fun z H3=>∃ k,z=.bl k ∧
 (if k=true then tc σ H3 fun w' H4=>r' y w' H4 Q else Q (.bl false) H3)):=rfl
theorem J8r {K:W.Frag} {ta:TE} {f:Str} {σ:St} {H:Hp} {Q:VK}:tFld K ta f σ H Q=(ta σ H fun x H1=>∃ a C dx fs v,x=.ref a∧H1 a=some (.ins C dx fs)∧Cls K C∧NoAttr K C f∧fs.lookup f=some v∧Q v H1):=rfl
theorem J7F {K:W.Frag} {ta:TE} {f:Str} {σ:St} {H:Hp} {Q:VK}:tCon K ta f σ H Q=(ta σ H fun x H1=>∃ a C dx fs v u,x=.ref a∧H1 a=some (.ins C dx fs)∧Cls K C∧Con K C f v u∧fs.lookup f=none∧Q v H1):=rfl
theorem J8h {K:W.Frag} {ta tv:TE} {f:Str} {D:Ends} {σ:St} {H:Hp}:sFld K ta tv f D σ H=(tv σ H fun y H1=>ta σ H1 fun x H2=>∃ a C dx fs,x=.ref a∧H2 a=some (.ins C dx fs)∧Cls K C∧NoAttr K C f∧fs.length < 1000 ∧
 D.nx σ (upd H2 a (.ins C dx (putF f y fs)))):=rfl
theorem J4F {K:W.Frag} {ta tv:TE} {rd:V→V→Hp→VK→Prop} {f:Str} {D:Ends} {σ:St} {H:Hp}:J3S K ta tv rd f D σ H=(ta σ H fun x H1=>∃ a C dx fs v,x=.ref a∧H1 a=some (.ins C dx fs)∧Cls K C∧NoAttr K C f∧fs.lookup f=some v ∧
 tv σ H1 fun y H2=>rd v y H2 fun z H3=>∃ dx' fs',H3 a=some (.ins C dx' fs')∧fs'.length < 1000∧D.nx σ (upd H3 a (.ins C dx' (putF f z fs')))):=rfl
theorem J8q {z0:St} {H:Hp} {Q:List V→Hp→Prop}:tNil  z0 H Q=(Q [] H):=rfl
theorem J7j {ta:TE} {tr:TA} {σ:St} {H:Hp} {Q:List V→Hp→Prop}:J3Q ta tr σ H Q=(ta σ H fun x H1=>tr σ H1 fun xs H2=>Q (x::xs) H2):=rfl
theorem J6X {sp:Sp} {dvs:List V} {E:XK} {t:TA} {σ:St} {H:Hp} {Q:VK}:J3U sp dvs E t σ H Q=(t σ H fun vs H1=>sp (vs++dvs) H1 Q E):=rfl
theorem J6P {C:Addr} {m:Str} {sp:Sp} {dvs:List V} {E:XK} {ta:TE} {t:TA} {σ:St} {H:Hp} {Q:VK}:Z9K C m sp dvs E ta t σ H Q=(ta σ H fun x H1=>∃ a dx fs,x=.ref a∧H1 a=some (.ins C dx fs)∧fs.lookup m=none ∧
 t σ H1 fun vs H2=>sp (x::(vs++dvs)) H2 Q E):=rfl
theorem J6C {C:Addr} {sp:Sp} {dvs:List V} {E:XK} {t:TA} {σ:St} {H:Hp} {Q:VK}:J3D C sp dvs E t σ H Q=(t σ H fun vs H1=>∀ x dx,H1 x=none→H1 dx=none→dx≠x →
 sp (.ref x::(vs++dvs)) (upd (upd H1 dx (.own x)) x (.ins C dx [])) (fun v H2=>v=.non∧Q (.ref x) H2) E):=rfl
theorem J8H {r:List V→Hp→VK→Prop} {t:TA} {σ:St} {H:Hp} {Q:VK}:tCB r t σ H Q=(t σ H fun vs H1=>r vs H1 Q):=rfl
theorem J4B {z0:St} {H:Hp} {Q:Option Int→Hp→Prop}:Z9Q  z0 H Q=(Q none H):=rfl
theorem J6R {t:TE} {σ:St} {H:Hp} {Q:Option Int→Hp→Prop}:J5x t σ H Q=(t σ H fun x H1=>∃ i,x=.int i∧Q (some i) H1):=rfl
theorem J8K {r:V→Option Int→Option Int→Hp→VK→Prop} {te:TE} {tl th:TO} {σ:St} {H:Hp} {Q:VK}:tSl r te tl th σ H Q=(te σ H fun x H1=>tl σ H1 fun l H2=>th σ H2 fun u H3=>r x l u H3 Q):=rfl
theorem J7t {K:W.Frag} {x:V} {lo:Option Int} {hi:Option Int} {H:Hp} {Q:VK}:rSlT K x lo hi H Q=(∃ a xs,x=.ref a∧SqT K H a xs ∧
 ¬ (HT.sIx xs.length 0 lo=0∧HT.sIx xs.length xs.length hi=xs.length)∧∀ p,H p=none→Q (.ref p) (upd H p (.tup (cutV xs lo hi)))):=rfl
theorem J6K {K:W.Frag} {x:V} {y:V} {H:Hp} {Q:VK}:J5g K x y H Q=(∃ a b xs ys,x=.ref a∧y=.ref b∧SqT K H a xs∧SqT K H b ys∧xs≠[]∧xs.length+ys.length≤sizeLine ∧
 (ys=[]→Q (.ref a) H)∧(ys≠[]→∀ p,H p=none→Q (.ref p) (upd H p (.tup (xs++ys))))):=rfl
theorem J8g {K:W.Frag} {x:V} {y:V} {H:Hp} {Q:VK}:rIxL K x y H Q=(∃ p xs i v,x=.ref p∧y=.int i∧SqL K H p xs∧atI xs i=some v∧Q v H):=rfl
theorem J7V {K:W.Frag} {x:V} {y:V} {H:Hp} {Q:VK}:rIxT K x y H Q=(∃ p xs i v,x=.ref p∧y=.int i∧SqT K H p xs∧atI xs i=some v∧Q v H):=rfl
theorem J7D {x:V} {y:V} {H:Hp} {Q:VK}:rIxS  x y H Q=(∃ z i c,x=.str z∧y=.int i∧z.length≤sizeLine∧atI z.cps.toList i=some c∧Q (.str ⟨#[c]⟩) H):=rfl
theorem J6y {o:V} {i:V} {v:V} {H:Hp} {Q:(Hp→Prop)}:J5h  o i v H Q=(∃ p xs k j,o=.ref p∧i=.int k∧H p=some (.lst xs)∧ixN xs.length k=some j∧Q (upd H p (.lst (xs.set j v)))):=rfl
theorem J8Q {K:W.Frag} {neg:Bool} {x:V} {y:V} {H:Hp} {Q:VK}:rIn K neg x y H Q=(∃ p xs,y=.ref p∧(SqL K H p xs∨SqT K H p xs)∧Z3B x=true∧xs.all Z3B=true∧Q (.bl (if neg then !inV x xs else inV x xs)) H):=rfl
theorem J7X {K:W.Frag} {T:String} {r:V→List V→Hp→VK→Prop} {to:TE} {σ:St} {H:Hp} {Q:VK}:tBM0 K T r to σ H Q=(to σ H fun x H1=>tyV K T x H1∧r x [] H1 Q):=rfl
theorem J8E {K:W.Frag} {T:String} {r:V→List V→Hp→VK→Prop} {to:TE} {t:TA} {σ:St} {H:Hp} {Q:VK}:tBM K T r to t σ H Q=(to σ H fun x H1=>tyV K T x H1∧t σ H1 fun xs H2=>r x xs H2 Q):=rfl
theorem J4E {x:V} {vs:List V} {H:Hp} {Q:VK}:J0y  x vs H Q=(∃ l xs y,x=.ref l∧vs=[y]∧H l=some (.lst xs)∧xs.length < sizeLine∧Q .non (upd H l (.lst (xs++[y])))):=rfl
theorem J4D {x:V} {vs:List V} {H:Hp} {Q:VK}:Z9Z  x vs H Q=(∃ l b xs zs,x=.ref l∧vs=[.ref b]∧H l=some (.lst xs)∧H b=some (.lst zs)∧xs.length+zs.length≤sizeLine∧Q .non (upd H l (.lst (xs++zs)))):=rfl
theorem J8k {x:V} {vs:List V} {H:Hp} {Q:VK}:rPop  x vs H Q=(∃ l xs y,x=.ref l∧vs=[]∧H l=some (.lst xs)∧xs[xs.length - 1]?=some y∧Q y (upd H l (.lst xs.dropLast))):=rfl
theorem J5Y {x:V} {vs:List V} {H:Hp} {Q:VK}:J4K  x vs H Q=(∃ l xs i k y,x=.ref l∧vs=[.int i]∧H l=some (.lst xs)∧-(2 ^ 63)≤i∧i < 2 ^ 63∧seqIndex? i xs.length=some k∧xs[k]?=some y∧Q y (upd H l (.lst (xs.eraseIdx k)))):=rfl
theorem J3l {x:V} {vs:List V} {H:Hp} {Q:VK}:J2c  x vs H Q=(∃ l xs,x=.ref l∧vs=[]∧H l=some (.lst xs)∧Q .non (upd H l (.lst xs.reverse))):=rfl
theorem J5V {x:V} {vs:List V} {H:Hp} {Q:VK}:J4Z  x vs H Q=(∃ l xs,x=.ref l∧vs=[]∧H l=some (.lst xs)∧Q .non (upd H l (.lst []))):=rfl
theorem J7U {x:V} {y:V} {H:Hp} {Q:VK}:rRep  x y H Q=(∃ l k xs,x=.ref l∧y=.int k∧H l=some (.lst xs)∧-(2 ^ 63)≤k∧k < 2 ^ 63∧xs.length * k.toNat≤sizeLine ∧
 ∀ p,H p=none→Q (.ref p) (upd H p (.lst (List.replicate k.toNat xs).flatten))):=rfl
def Z9z (J:It) (g:TG) (tb:TS) (D:Ends) (σ:St) (H:Hp):Prop:=∃ W:Nat→Nat→St→Hp→Prop,(∃ m,W 0 m σ H)∧∀ i m σ H,W i m σ H →
 (J.stop i H∧D.nx σ H)∨(J.go i H∧∃ N:St→Hp→Prop,(∀ σ' H',N σ' H'→∃ m',m' < m∧W (i+1) m' σ' H')∧∀ x H',J.yld i H x H'→g x σ H' fun σ2 H2=>tb { D with nx:=N,ct:=N,bk:=D.nx } σ2 H2)
theorem J8p {wi:TI} {g:TG} {tb:TS} {D:Ends} {σ:St} {H:Hp}:tFor wi g tb D σ H=wi σ H fun J H1=>Z9z J g tb D σ H1:=rfl
end L2
end
section
namespace L2
open PySem PySem.Spec PyProof.Rows
def clsV:V→Option Value
 | .ty n=>some (.type n)
 | .ref a=>some (.ref a)
 | _=>none
theorem J0E {c:V} {cv u:Value} (h:clsV c=some cv) (r:RelV c u):u=cv:=by
 cases c with
 | ty n=>cases h; exact r
 | ref a=>cases h; exact r
 | _=>cases h
def rIsi (K:W.Frag):List V→Hp→VK→Prop:=fun xs H Q=>∃ x c cv t b,xs=[x,c]∧clsV c=some cv∧TyOf K H x t∧W.kitOne K t cv=some b∧Q (.bl b) H
section
variable {X:Cx}
theorem J1K:Z3N X (.builtin "isinstance") (rIsi X.K):=by
 intro pins s σ H xs us Q I rs h
 obtain ⟨x,c,cv,t,b,rfl,hc,ty,e,q⟩:=h
 obtain ⟨u,v,rfl,ru,rv⟩:=rs.two
 rw [J0E hc rv]
 exact Z9g I ru ty e fun tk=>⟨.bl b,H,I.tok tk,rfl,q⟩
end
section
variable {K:W.Frag}
theorem Z5r {t:Value}:W.kitOne K t t=some true:=by
 unfold W.kitOne
 rw [if_pos (by simp)]
theorem Z6k:W.kitOne K (.type "int") (.type "bool")=some false:=by with_unfolding_all rfl
end
end L2
end
section
namespace L2
open PySem PySem.Spec PyProof.Rows
structure Fn (K:W.Frag) (mg:Str→Option Value) (x:Str) (st:Stmt):Prop where
 ex:∃ f fd,Fun K x x st f fd∧mg x=some (.ref f)
structure Has (P:Program) (w:World) (K:W.Frag) (mg:Str→Option Value) (base:Heap) (k:Nat) (x:Str) (ps:List Str) (sp:Sp):Prop where
 ex:∃ f fd,FnOk P w K mg base CX0 k f fd ps sp∧Binds K fd ps []∧W.keepIn K (.ref f)=true∧mg x=some (.ref f)
structure Cst (mg:Str→Option Value) (x:Str) (v:V):Prop where
 ex:∃ u,mg x=some u∧RelV v u
section
variable {P:Program} {w:World} {K:W.Frag} {mg:Str→Option Value} {base:Heap}
theorem Z1M {h:Heap} {x:Str} {st:Stmt} {f:Addr} {oc:Value} {od an:Option Addr} {osl:Array (Option Value)} {kV doc pm cdv ct:Value} (X:K.In h) (G:h.Ns mainGlobals mg) (a:W.nsIn K mainGlobals x=some (some (.ref f)))
  (l:K.lookup f=some ⟨oc,od,.func (W.fnOf x x (Z0k st) (Z0i st) (Z0c st) .none kV doc pm an cdv ct),osl⟩) (c:W.codeIn K cdv x=true) (k:W.keepIn K (.ref f)=true):Fn K mg x st:=
 ⟨f,_,J2C l c k,W.mg_of X G a⟩
theorem J3J {h:Heap} {x:Str} {a:Addr} (X:K.In h) (G:h.Ns mainGlobals mg) (e:W.nsIn K mainGlobals x=some (some (.ref a))):Cst mg x (.ref a):=⟨_,W.mg_of X G e,rfl⟩
theorem Has.of {x:Str} {st:Stmt} {N ps:List Str} {k:Nat} {sp:Sp} (F:Fn K mg x st) (S:Z0o N ps (Z0c st))
  (hb:∀ (kV doc pm:Value) (an:Option Addr) (cdv ct:Value) (us:List Value),us.length=ps.length→bindArgs (W.fnOf x x (Z0k st) (Z0i st) (Z0c st) .none kV doc pm an cdv ct) ⟨us,[]⟩=pure (ps.zip us))
  (len:∀ vs H Q E,sp vs H Q E→vs.length=ps.length)
  (hbody:∀ (f:Addr) (cdv:Value) (A:Around) (outer:List Env) (s:Shared) (H:Hp) (vs:List V) (Q:VK) (E:XK),Room k (A.deeper (envOfC x (Z0c st) s.heap.objs.size f cdv))→sp vs H Q E →
   ∃ t,PSs (cxOf CX0 P w K mg base N x (Z0c st) f cdv A outer s H E).nox (Z0i st) t∧t { nx:=fun _ H'=>Q .non H',rt:=Q } (Z4m N vs) H):Has P w K mg base (k+1) x ps sp:=by
 obtain ⟨f,fd,F,m⟩:=F.ex
 exact ⟨f,fd,F.ok S len fun cdv=>hbody f cdv,F.binds hb,F.kp,m⟩
end
section
variable {X:Cx} {x:Str} {ps:List Str} {sp:Sp} {k j:Nat} {e:Expr} {es:List Expr} {t:TA} {p pos:Pos} {v:V}
theorem Z0v (h:Has X.prog X.w X.K X.mg X.base k x ps sp) (hr:Room j X.A) (hk:k≤j) (hg:Gl X x) (ha:PA X (e::es) t) (hdb:(x == ("__debug__":Str))=false:=by decide)
  (he:starEach (e::es) X.env=(false,eval e X.env)::starEach es X.env:=by rfl) (hpl:(backTo pos (starEach es X.env)).any (·.1)=false:=by rfl):PE X (.Call (.Name x p) (e::es) [] pos) (J3U sp [] E0 t):=by
 obtain ⟨f,fd,F,b,kp,m⟩:=h.ex
 exact J4d F (hr.mono hk) hg m kp b .nil J1k ha hdb he hpl
theorem J5G (h:Cst X.mg x v) (hg:Gl X x) (hd:(x == ("__debug__":Str))=false:=by decide):PE X (.Name x pos) (tC v):=by
 obtain ⟨u,m,r⟩:=h.ex
 exact J3V hg m r hd
def J8y (i j:Int):Prop:=j≠0∧-(2 ^ 64) < j∧j < 2 ^ 64
theorem J0Y:OpR X (binaryOp .FloorDiv) (rI J8y fun i j=>.int (i.fdiv j)):=opI fun i j _ _ _ _ _ hc q=>floordiv_int hc.1 q (.inl (PyProof.noPylong_of_log2 (by
 have h:j.natAbs < 2 ^ 64:=by have:=hc.2; omega
 have:=(Nat.log2_lt (by have:=hc.1; omega)).mpr h
 omega)))
end
theorem Z0n {H:Hp} {p:Addr} (h:H p=none) (o:HO):Same H (upd H p o):=fun b u q=>by rw [Z0h (Z0j q h)]; exact q
end L2
end
section
namespace L2
open PySem PySem.Spec PyProof.Rows
theorem Z2n {K:W.Frag} {a:Addr} {g:TG} {tb:TS} {D:Ends} {σ:St} {H:Hp} (xs:List V) (Pv:Nat→St→Hp→Prop) (h0:Pv 0 σ H) (hl:∀ i σ H,i≤xs.length→Pv i σ H→SqL K H a xs)
  (hs:∀ i x σ H,xs[i]?=some x→Pv i σ H→g x σ H fun σ2 H2=>tb { D with nx:=Pv (i+1),ct:=Pv (i+1),bk:=D.nx } σ2 H2) (hd:∀ σ H,Pv xs.length σ H→D.nx σ H):Z9z (Itl K a) g tb D σ H:=
 J2b Pv h0 hl hs hd
theorem J1g {K:W.Frag} {a:Addr} {g:TG} {tb:TS} {D:Ends} {σ:St} {H:Hp} (xs:List V) (Pv:Nat→St→Hp→Prop) (h0:Pv 0 σ H) (hl:∀ i σ H,i≤xs.length→Pv i σ H→SqT K H a xs)
  (hs:∀ i x σ H,xs[i]?=some x→Pv i σ H→g x σ H fun σ2 H2=>tb { D with nx:=Pv (i+1),ct:=Pv (i+1),bk:=D.nx } σ2 H2) (hd:∀ σ H,Pv xs.length σ H→D.nx σ H):Z9z (Itt K a) g tb D σ H:=
 J4w Pv h0 hl hs hd
theorem Z2F {lo:Int} {n:Nat} {g:TG} {tb:TS} {D:Ends} {σ:St} {H:Hp} (Pv:Nat→St→Hp→Prop) (h0:Pv 0 σ H)
  (hs:∀ i σ H,i < n→Pv i σ H→g (.int (lo+i)) σ H fun σ2 H2=>tb { D with nx:=Pv (i+1),ct:=Pv (i+1),bk:=D.nx } σ2 H2) (hd:∀ σ H,Pv n σ H→D.nx σ H):Z9z (Itr lo n) g tb D σ H:=
 J0l Pv h0 hs hd
theorem SqL.same {K:W.Frag} {H H':Hp} {a:Addr} {xs:List V} (h:SqL K H a xs) (s:Same H H'):SqL K H' a xs:=s.seq h
theorem SqT.same {K:W.Frag} {H H':Hp} {a:Addr} {xs:List V} (h:SqT K H a xs) (e:Same H H'):SqT K H' a xs:=by
 rcases h with (h | ⟨o,h⟩) | h
 ·exact .inl (.inl (e _ _ h))
 ·exact .inl (.inr ⟨o,e _ _ h⟩)
 ·exact .inr h
section
variable {K:W.Frag} {H:Hp} {Q:VK} {i:Int} {b:Bool} {x:Str}
theorem Z4f {v:V} {n:String} {t:Value} {k:Bool} (ht:∀ t',TyOf K H v t'→t'=t) (h0:TyOf K H v t) (hk:W.kitOne K t (.type n)=some k):rIsi K [v,.ty n] H Q=Q (.bl k) H:=by
 refine propext ⟨fun h=>?_,fun h=>⟨_,_,_,_,_,rfl,rfl,h0,hk,h⟩⟩
 obtain ⟨x,c,cv,t',b',e,hc,ty,k',q⟩:=h
 cases e
 cases hc
 rw [ht _ ty,hk] at k'
 cases k'
 exact q
theorem J3O:rIsi K [.int i,.ty "int"] H Q=Q (.bl true) H:=Z4f (fun _ h=>by cases h; rfl) (.int i) Z5r
theorem J2U:rIsi K [.int i,.ty "bool"] H Q=Q (.bl false) H:=Z4f (fun _ h=>by cases h; rfl) (.int i) Z6k
theorem Z6i:W.kitOne K (.type "bool") (.type "int")=some true:=by with_unfolding_all rfl
theorem J4C:rIsi K [.bl b,.ty "int"] H Q=Q (.bl true) H:=Z4f (fun _ h=>by cases h; rfl) (.bl b) Z6i
theorem J2X:rIsi K [.bl b,.ty "bool"] H Q=Q (.bl true) H:=Z4f (fun _ h=>by cases h; rfl) (.bl b) Z5r
theorem J4x:rIsi K [.str x,.ty "str"] H Q=Q (.bl true) H:=Z4f (fun _ h=>by cases h; rfl) (.str x) Z5r
end
section
theorem ix0 {α:Type} {x:α} {xs:List α}:atI (x::xs) 0=some x:=by simp [atI,ixN]
theorem ix1 {α:Type} {x y:α} {xs:List α}:atI (x::y::xs) 1=some y:=by
 have:((1:Int) < (xs.length:Int)+1+1):=by omega
 simp [atI,ixN,this]
end
theorem J8O {CX:CXT} {P:Program} {w:World} {K:W.Frag} {mg:Str→Option Value} {base:Heap} {N:List Str} {qual:Str} {scope:Scope} {f:Addr} {cd:Value} {A:Around} {outer:List Env} {s:Shared} {H:Hp} {E:XK}:(cxOf CX P w K mg base N qual scope f cd A outer s H E).K=K:=rfl
theorem Z5V:bootBuiltins "len"=some (.builtin "len"):=by decide +kernel
theorem J5Z:bootBuiltins "max"=some (.builtin "max"):=by decide +kernel
theorem J5U:bootBuiltins "sum"=some (.builtin "sum"):=by decide +kernel
theorem Z8F:bootBuiltins "sorted"=some (.builtin "sorted"):=by decide +kernel
theorem Z5k:bootBuiltins "isinstance"=some (.builtin "isinstance"):=by decide +kernel
theorem J5o:bootBuiltins "int"=some (.type "int"):=by decide +kernel
theorem J3j:bootBuiltins "bool"=some (.type "bool"):=by decide +kernel
theorem J6f:bootBuiltins "str"=some (.type "str"):=by decide +kernel
theorem Z8O:bootBuiltins "list"=some (.type "list"):=by decide +kernel
theorem Z1e:bootBuiltins "tuple"=some (.type "tuple"):=by decide +kernel
theorem J4k:bootBuiltins "dict"=some (.type "dict"):=by decide +kernel
theorem Z6x:bootBuiltins "reversed"=some (.type "reversed"):=by decide +kernel
section
variable {a c:Int} {b e:Bool} {x y:Str}
theorem J8Y:scal (.non) (.non)=true:=rfl
theorem J9f:scal (.non) (.int a)=true:=rfl
theorem J8X:scal (.int a) (.non)=true:=rfl
theorem J9c:scal (.non) (.bl b)=true:=rfl
theorem J8R:scal (.bl b) (.non)=true:=rfl
theorem J9e:scal (.non) (.str x)=true:=rfl
theorem J9g:scal (.str x) (.non)=true:=rfl
theorem J8S:scal (.int a) (.int c)=true:=rfl
theorem J8W:scal (.bl b) (.bl e)=true:=rfl
theorem J9i:scal (.str x) (.str y)=true:=rfl
theorem J8U:scal (.int a) (.str x)=true:=rfl
theorem J8T:scal (.str x) (.int a)=true:=rfl
theorem J8V:scal (.bl b) (.str x)=true:=rfl
theorem J9a:scal (.str x) (.bl b)=true:=rfl
end
end L2
end
section
namespace L2
open PySem PySem.Spec PyProof.Rows
def Z4n (H H':Hp):Prop:=∀ b o,(∀ xs,o≠.lst xs)→H b=some o→H' b=some o
theorem Z4e {te:TE} {Q:VK} {H:Hp} {D:Addr} {n:Nat} {σ0:St} (v0:Option V) (rest:St) (R:Nat→V→Hp→Prop) (mono:∀ j v H1 H2,R j v H1→Z4n H1 H2→R j v H2) (e0:σ0=v0::rest) (hD:H D=none) (hz:n≤sizeLine)
  (he:∀ i,i < n→∀ H1 (K':VK),Same H H1→(∀ v H2,Same H1 H2→R i v H2→K' v H2)→te (some (.int i)::rest) H1 K')
  (hQ:∀ vs H',Same H H'→H' D=some (.lst vs)→vs.length=n→(∀ j v,vs[j]?=some v→R j v H')→Q (.ref D) H'):Z3y (Itr 0 n) (Z3b 0) Z2K te D Q σ0 (upd H D (.lst [])):=by
 refine ⟨fun i m σ' H'=>m=n - i∧i≤n∧(∃ v,σ'=v::rest)∧Same H H'∧∃ vs,H' D=some (.lst vs)∧vs.length=i∧∀ j v,vs[j]?=some v→R j v H',⟨n,by simp,Nat.zero_le _,⟨v0,e0⟩,Z0n hD _,[],Z0e,rfl,fun j v h=>by simp at h⟩,?_⟩
 rintro i m σ' H' ⟨rfl,hi,⟨v,rfl⟩,s1,vs,hv,hl,hr⟩
 by_cases hlt:i < n
 ·refine .inr ⟨hlt,fun σ2 H2=>(∃ v,σ2=v::rest)∧Same H H2∧∃ vs,H2 D=some (.lst vs)∧vs.length=i+1∧∀ j v,vs[j]?=some v→R j v H2,fun σ2 H2 ⟨a,b,c⟩=>⟨n - (i+1),by omega,rfl,hlt,a,b,c⟩,fun x H2 hx=>?_⟩
  obtain ⟨e1,e2⟩:=hx
  subst e1 e2
  unfold Z3b Z2K
  rw [List.set_cons_zero,Int.zero_add]
  refine iteT (he i hlt H2 _ s1 fun v H3 s3 hR=>?_)
  have h3:=s3 _ _ hv
  have sn:Z4n H3 (upd H3 D (.lst (vs++[v]))):=fun b o ho hb=>by
   rw [Z0h (fun z=>by rw [z,h3] at hb; cases hb; exact ho _ rfl)]
   exact hb
  refine ⟨vs,h3,by omega,⟨_,rfl⟩,fun b o hb=>?_,_,Z0e,by rw [List.length_append,hl]; rfl,fun j u hj=>?_⟩
  ·rw [Z0h (Z0j hb hD)]
   exact s3 _ _ (s1 _ _ hb)
  ·by_cases hj':j < vs.length
   ·rw [List.getElem?_append_left hj'] at hj
    exact mono j u _ _ (mono j u _ _ (hr j u hj) fun b o _ hb=>s3 b o hb) sn
   ·rw [List.getElem?_append_right (by omega)] at hj
    have ej:j - vs.length=0:=by
     have:=(List.getElem?_eq_some_iff.mp hj).1
     simp at this
     omega
    rw [ej] at hj
    cases hj
    have:j=i:=by omega
    subst this
    exact mono _ _ _ _ hR sn
 ·have e:i=n:=by omega
  subst e
  exact .inl ⟨Nat.le_refl _,hQ vs H' s1 hv hl hr⟩
end L2
end
section
namespace L2
open PySem PySem.Spec PyProof.Rows
theorem Z4s {J:It} {te:TE} {Q:VK} {H:Hp} {D:Addr} {ys:List V} {σ0:St} (v0:Option V) (rest:St) (R:Nat→V→Hp→Prop) (mono:∀ j v H1 H2,R j v H1→Z4n H1 H2→R j v H2) (e0:σ0=v0::rest) (hD:H D=none) (hz:ys.length≤sizeLine)
  (j1:∀ i H1,Same H H1→i < ys.length→J.go i H1) (j2:∀ i H1 x H2,Same H H1→J.yld i H1 x H2→H2=H1∧ys[i]?=some x) (j3:∀ H1,Same H H1→J.stop ys.length H1)
  (he:∀ i y,ys[i]?=some y→∀ H1 (K':VK),Same H H1→(∀ v H2,Same H1 H2→R i v H2→K' v H2)→te (some y::rest) H1 K')
  (hQ:∀ vs H',Same H H'→H' D=some (.lst vs)→vs.length=ys.length→(∀ j v,vs[j]?=some v→R j v H')→Q (.ref D) H'):Z3y J (Z3b 0) Z2K te D Q σ0 (upd H D (.lst [])):=by
 refine ⟨fun i m σ' H'=>m=ys.length - i∧i≤ys.length∧(∃ v,σ'=v::rest)∧Same H H'∧∃ vs,H' D=some (.lst vs)∧vs.length=i∧∀ j v,vs[j]?=some v→R j v H',⟨ys.length,by simp,Nat.zero_le _,⟨v0,e0⟩,Z0n hD _,[],Z0e,rfl,fun j v h=>by simp at h⟩,?_⟩
 rintro i m σ' H' ⟨rfl,hi,⟨v,rfl⟩,s1,vs,hv,hl,hr⟩
 by_cases hlt:i < ys.length
 ·refine .inr ⟨j1 i H' s1 hlt,fun σ2 H2=>(∃ v,σ2=v::rest)∧Same H H2∧∃ vs,H2 D=some (.lst vs)∧vs.length=i+1∧∀ j v,vs[j]?=some v→R j v H2,fun σ2 H2 ⟨a,b,c⟩=>⟨ys.length - (i+1),by omega,rfl,hlt,a,b,c⟩,fun x H2 hx=>?_⟩
  obtain ⟨e1,e2⟩:=j2 i H' x H2 s1 hx
  subst e1
  unfold Z3b Z2K
  rw [List.set_cons_zero]
  refine iteT (he i x e2 H2 _ s1 fun v H3 s3 hR=>?_)
  have h3:=s3 _ _ hv
  have sn:Z4n H3 (upd H3 D (.lst (vs++[v]))):=fun b o ho hb=>by
   rw [Z0h (fun z=>by rw [z,h3] at hb; cases hb; exact ho _ rfl)]
   exact hb
  refine ⟨vs,h3,by omega,⟨_,rfl⟩,fun b o hb=>?_,_,Z0e,by rw [List.length_append,hl]; rfl,fun j u hj=>?_⟩
  ·rw [Z0h (Z0j hb hD)]
   exact s3 _ _ (s1 _ _ hb)
  ·by_cases hj':j < vs.length
   ·rw [List.getElem?_append_left hj'] at hj
    exact mono j u _ _ (mono j u _ _ (hr j u hj) fun b o _ hb=>s3 b o hb) sn
   ·rw [List.getElem?_append_right (by omega)] at hj
    have ej:j - vs.length=0:=by
     have:=(List.getElem?_eq_some_iff.mp hj).1
     simp at this
     omega
    rw [ej] at hj
    cases hj
    have:j=i:=by omega
    subst this
    exact mono _ _ _ _ hR sn
 ·have e:i=ys.length:=by omega
  subst e
  exact .inl ⟨j3 _ s1,hQ vs H' s1 hv hl hr⟩
theorem Z0S {K:W.Frag} {a:Addr} {te:TE} {Q:VK} {H:Hp} {D:Addr} {ys:List V} {σ0:St} (v0:Option V) (rest:St) (R:Nat→V→Hp→Prop) (mono:∀ j v H1 H2,R j v H1→Z4n H1 H2→R j v H2) (e0:σ0=v0::rest) (hD:H D=none) (hz:ys.length≤sizeLine) (ha:∀ H1,Same H H1→SqT K H1 a ys)
  (he:∀ i y,ys[i]?=some y→∀ H1 (K':VK),Same H H1→(∀ v H2,Same H1 H2→R i v H2→K' v H2)→te (some y::rest) H1 K')
  (hQ:∀ vs H',Same H H'→H' D=some (.lst vs)→vs.length=ys.length→(∀ j v,vs[j]?=some v→R j v H')→Q (.ref D) H'):Z3y (Itt K a) (Z3b 0) Z2K te D Q σ0 (upd H D (.lst [])):=
 Z4s v0 rest R mono e0 hD hz (fun i H1 s h=>⟨ys,ys[i],ha H1 s,List.getElem?_eq_getElem h⟩) (fun i H1 x H2 s h=>⟨h.1,h.2 ys (ha H1 s)⟩) (fun H1 s=>⟨ys,ha H1 s,Nat.le_refl _⟩) he hQ
theorem Z4v {K:W.Frag} {a:Addr} {te:TE} {Q:VK} {H:Hp} {D:Addr} {ys:List V} {σ0:St} (v0:Option V) (rest:St) (R:Nat→V→Hp→Prop) (mono:∀ j v H1 H2,R j v H1→Z4n H1 H2→R j v H2) (e0:σ0=v0::rest) (hD:H D=none) (hz:ys.length≤sizeLine) (ha:∀ H1,Same H H1→SqL K H1 a ys)
  (he:∀ i y,ys[i]?=some y→∀ H1 (K':VK),Same H H1→(∀ v H2,Same H1 H2→R i v H2→K' v H2)→te (some y::rest) H1 K')
  (hQ:∀ vs H',Same H H'→H' D=some (.lst vs)→vs.length=ys.length→(∀ j v,vs[j]?=some v→R j v H')→Q (.ref D) H'):Z3y (Itl K a) (Z3b 0) Z2K te D Q σ0 (upd H D (.lst [])):=
 Z4s v0 rest R mono e0 hD hz (fun i H1 s h=>⟨ys,ys[i],ha H1 s,List.getElem?_eq_getElem h⟩) (fun i H1 x H2 s h=>⟨h.1,h.2 ys (ha H1 s)⟩) (fun H1 s=>⟨ys,ha H1 s,Nat.le_refl _⟩) he hQ
end L2
end
section
namespace L2
open PySem PySem.Spec PyProof.Rows
def IsK (K:W.Frag):Prop:=True
def Ob (H:Hp) (a:Addr) (o:HO):Prop:=H a=some o
section
variable {K:W.Frag} {H H' H1 H2:Hp} {a b p:Addr} {o u:HO} {xs ys:List V}
theorem J7S:Ob H a o=(H a=some o):=rfl
grind_pattern J7S=>Ob H a o
theorem Ob.new:Ob (upd H p o) p o:=Z0e
grind_pattern Ob.new=>upd H p o
theorem Ob.same (h:Ob H a o) (s:Same H H'):Ob H' a o:=s _ _ h
grind_pattern Ob.same=>Ob H a o,Same H H'
theorem g_su (h:H p=none):Same H (upd H p o):=Z0n h o
grind_pattern g_su=>upd H p o
theorem g_st (h:Same H H1) (h':Same H1 H2):Same H H2:=h.trans h'
grind_pattern g_st=>Same H H1,Same H1 H2
theorem g_sT (h:SqT K H a xs) (s:Same H H'):SqT K H' a xs:=h.same s
grind_pattern g_sT=>SqT K H a xs,Same H H'
theorem g_sL (h:SqL K H a xs) (s:Same H H'):SqL K H' a xs:=h.same s
grind_pattern g_sL=>SqL K H a xs,Same H H'
theorem g_nT (k:IsK K) (h:Ob H a (.tup xs)):SqT K H a xs:=SqT.of h
grind_pattern g_nT=>IsK K,Ob H a (.tup xs)
theorem g_nL (k:IsK K) (h:Ob H a (.lst xs)):SqL K H a xs:=SqL.of h
grind_pattern g_nL=>IsK K,Ob H a (.lst xs)
end
section
variable {α:Type} {x y z u v:α} {xs:List α}
theorem ix2:atI (x::y::z::xs) 2=some z:=by
 have:((2:Int) < (xs.length:Int)+1+1+1):=by omega
 simp [atI,ixN,this]
theorem ix3:atI (x::y::z::u::xs) 3=some u:=by
 have:((3:Int) < (xs.length:Int)+1+1+1+1):=by omega
 simp [atI,ixN,this]
end
end L2
end
section
namespace L2
open PySem PySem.Spec PyProof.Rows
structure Z6O (K:W.Frag) (mg:Str→Option Value) (cn:Str) (C:Addr):Prop where
 mgC:mg cn=some (.ref C)
 cl:Cls K C
 mks:W.makesIn K C=true
 kp:W.keepIn K (.ref C)=true
structure MFn (K:W.Frag) (C:Addr) (m qual:Str) (st:Stmt):Prop where
 ex:∃ f fd,Fun K m qual st f fd∧Meth K C m f
structure HasM (P:Program) (w:World) (K:W.Frag) (mg:Str→Option Value) (base:Heap) (k:Nat) (C:Addr) (m:Str) (ps:List Str) (sp:Sp):Prop where
 ex:∃ f fd,FnOk P w K mg base CX0 k f fd ps sp∧Binds K fd ps []∧Meth K C m f
section
variable {P:Program} {w:World} {K:W.Frag} {mg:Str→Option Value} {base:Heap}
theorem Z5D {h:Heap} {cn:Str} {C:Addr} (X:K.In h) (G:h.Ns mainGlobals mg) (a:W.nsIn K mainGlobals cn=some (some (.ref C))) (pg:W.plainGet K C Str.empty=true) (hd:W.hasDictIn K C=true) (po:W.plainOver K C=true)
  (sa:W.findIn K (.ref C) "__setattr__"=some (some (.builtin "object.__setattr__"))) (mk:W.makesIn K C=true) (kp:W.keepIn K (.ref C)=true):Z6O K mg cn C:=⟨W.mg_of X G a,⟨pg,hd,po,sa⟩,mk,kp⟩
theorem Z0A {C:Addr} {f:Str} (h:W.findIn K (.ref C) f=some none):NoAttr K C f:=h
theorem Z1B {C:Addr} {m qual:Str} {st:Stmt} {f:Addr} {oc:Value} {od an:Option Addr} {osl:Array (Option Value)} {kV doc pm cdv ct:Value} (a:W.findIn K (.ref C) m=some (some (.ref f))) (i:W.isFn K (.ref f)=true)
  (l:K.lookup f=some ⟨oc,od,.func (W.fnOf m qual (Z0k st) (Z0i st) (Z0c st) .none kV doc pm an cdv ct),osl⟩) (c:W.codeIn K cdv qual=true) (k:W.keepIn K (.ref f)=true):MFn K C m qual st:=
 ⟨f,_,J2C l c k,⟨a,i,k⟩⟩
theorem HasM.of {C:Addr} {m qual:Str} {st:Stmt} {N ps:List Str} {k:Nat} {sp:Sp} (F:MFn K C m qual st) (S:Z0o N ps (Z0c st))
  (hb:∀ (kV doc pm:Value) (an:Option Addr) (cdv ct:Value) (us:List Value),us.length=ps.length→bindArgs (W.fnOf m qual (Z0k st) (Z0i st) (Z0c st) .none kV doc pm an cdv ct) ⟨us,[]⟩=pure (ps.zip us))
  (len:∀ vs H Q E,sp vs H Q E→vs.length=ps.length)
  (hbody:∀ (f:Addr) (cdv:Value) (A:Around) (outer:List Env) (s:Shared) (H:Hp) (vs:List V) (Q:VK) (E:XK),Room k (A.deeper (envOfC qual (Z0c st) s.heap.objs.size f cdv))→sp vs H Q E →
   ∃ t,PSs (cxOf CX0 P w K mg base N qual (Z0c st) f cdv A outer s H E).nox (Z0i st) t∧t { nx:=fun _ H'=>Q .non H',rt:=Q } (Z4m N vs) H):HasM P w K mg base (k+1) C m ps sp:=by
 obtain ⟨f,fd,F,mm⟩:=F.ex
 exact ⟨f,fd,F.ok S len fun cdv=>hbody f cdv,F.binds hb,mm⟩
end
section
variable {X:Cx} {x m:Str} {ps:List Str} {sp:Sp} {k j:Nat} {C:Addr} {o e:Expr} {es:List Expr} {ta:TE} {t:TA} {p pos apos:Pos}
theorem J3P {pl:Sem Bool} (he:PE X o ta) (c:Cls X.K C) (h:HasM X.prog X.w X.K X.mg X.base k C m ps sp) (hr:Room j X.A) (hk:k≤j) (ha:PA X (e::es) t)
  (hst:starEach (e::es) X.env=(false,eval e X.env)::starEach es X.env:=by rfl) (hpl:(backTo pos (starEach es X.env)).any (·.1)=false:=by rfl)
  (ht:eval (.Call (.Attribute o m apos) (e::es) [] pos) X.env=(do
   let ov ← eval o X.env
   standAt apos.atName
   let (f,first) ← holding [ov] (getMethod ov m pl)
   callWith pos f first (backTo pos (starEach (e::es) X.env)) (backToKw pos (keywordEach [] X.env))):=by rfl) :
  PE X (.Call (.Attribute o m apos) (e::es) [] pos) (Z9K C m sp [] E0 ta t):=by
 obtain ⟨f,fd,F,b,mm⟩:=h.ex
 exact J3B he c mm F (hr.mono hk) b .nil J1k ha hst hpl ht
theorem J0O {pl:Sem Bool} (he:PE X o ta) (c:Cls X.K C) (h:HasM X.prog X.w X.K X.mg X.base k C m ps sp) (hr:Room j X.A) (hk:k≤j)
  (ht:eval (.Call (.Attribute o m apos) [] [] pos) X.env=(do
   let ov ← eval o X.env
   standAt apos.atName
   let (f,first) ← holding [ov] (getMethod ov m pl)
   callWith pos f first (backTo pos (starEach [] X.env)) (backToKw pos (keywordEach [] X.env))):=by rfl) :
  PE X (.Call (.Attribute o m apos) [] [] pos) (Z9K C m sp [] E0 ta tNil):=by
 obtain ⟨f,fd,F,b,mm⟩:=h.ex
 exact J2n he c mm F (hr.mono hk) b .nil J1k ht
theorem Z5Y (c:Z6O X.K X.mg x C) (h:HasM X.prog X.w X.K X.mg X.base k C "__init__" ps sp) (hr:Room j X.A) (hk:k+1≤j) (hg:Gl X x) (ha:PA X (e::es) t) (hdb:(x == ("__debug__":Str))=false:=by decide)
  (he:starEach (e::es) X.env=(false,eval e X.env)::starEach es X.env:=by rfl) (hpl:(backTo pos (starEach es X.env)).any (·.1)=false:=by rfl):PE X (.Call (.Name x p) (e::es) [] pos) (J3D C sp [] E0 t):=by
 obtain ⟨f,fd,F,b,mm⟩:=h.ex
 exact J4c ⟨c.mks,mm.at_,mm.fn,c.kp⟩ F (hr.mono hk) hg c.mgC b .nil J1k ha hdb he hpl
end
end L2
end
section
namespace L2
open PySem PySem.Spec PyProof.Rows
section
variable {X:Cx} {CX:CXT} {k:Nat} {f C:Addr} {fd:FuncData} {ps ks:List Str} {sp:Sp} {E:XK} {x m:Str} {p pos apos kpos:Pos} {e o:Expr} {es:List Expr} {kws:List Keyword} {te ta:TE} {t tk:TA} {nm:Option Str}
variable {g:List Value→List Value→List Value} {gV:List V→List V→List V}
end
section
variable {P:Program} {w:World} {K:W.Frag} {mg:Str→Option Value} {base:Heap}
end
end L2
end
section
namespace L2
open PySem PySem.Spec PyProof.Rows PySem.SeqAt
def mono (t:TE):TE:=fun σ H Q=>∃ Q0:VK,t σ H Q0∧∀ v H',Q0 v H'→Q v H'
section
variable {X:Cx} {o e value:Expr} {f:Str} {pos pos' tpos:Pos} {ta tv:TE}
theorem PE.mono {t:TE} (h:PE X e t):PE X e (mono t):=fun pins s σ H Q I ⟨Q0,h0,i⟩=>thn (h pins s σ H Q0 I h0) fun u s1 ⟨x,H1,I1,r,q⟩=>⟨x,H1,I1,r,i _ _ q⟩
def opt2 (o:Option (Option V)) (R:V→Prop):Prop:=match o with
 | some (some v)=>R v
 | _=>False
theorem J6d {v:V} {R:V→Prop}:opt2 (some (some v)) R=R v:=rfl
def Z6B (i:Nat):TE:=fun σ H Q=>opt2 σ[i]? fun v=>Q v H
theorem J6t {i:Nat} {σ:St} {H:Hp} {Q:VK}:Z6B i σ H Q=opt2 σ[i]? fun v=>Q v H:=rfl
theorem J2Z {o:Option (Option V)} {R:V→Prop} (h:opt2 o R):∃ v,o=some (some v)∧R v:=by
 unfold opt2 at h
 split at h
 ·exact ⟨_,rfl,h⟩
 ·cases h
theorem J2Y {i:Nat} {x:Str} (hN:X.N[i]?=some x) (hv:Vis X.env.scope x) (hd:(x == ("__debug__":Str))=false:=by decide) (hcd:(x == ("__classdict__":Str))=false:=by decide):PE X (.Name x pos) (Z6B i):=
 fun pins s σ H Q I h=>J4Y hN hv hd hcd pins s σ H Q I (J2Z h)
theorem pvF (i:Nat) {x:Str} (hN:X.N[i]?=some x:=by rfl) (hv:Vis X.env.scope x:=by first | exact Or.inl rfl | exact Or.inr (Or.inl rfl) | exact Or.inr (Or.inr rfl)) (hd:(x == ("__debug__":Str))=false:=by decide)
  (hcd:(x == ("__classdict__":Str))=false:=by decide):PE X (.Name x pos) (Z6B i):=J2Y hN hv hd hcd
inductive Fld (K:W.Frag) (f:Str) (a:Addr) (H:Hp) (Q:VK):Prop
 | mk (C dx:Addr) (fs:List (Str×V)) (h:H a=some (.ins C dx fs)) (cl:Cls K C) (n:NoAttr K C f) (v:V) (l:fs.lookup f=some v) (q:Q v H):Fld K f a H Q
def J3C (K:W.Frag) (ta:TE) (f:Str):TE:=fun σ H Q=>ta σ H fun x H1=>∃ a,x=.ref a∧Fld K f a H1 Q
theorem J6G {K:W.Frag} {σ:St} {H:Hp} {Q:VK}:J3C K ta f σ H Q=ta σ H fun x H1=>∃ a,x=.ref a∧Fld K f a H1 Q:=rfl
theorem Z0u (he:PE X e ta) (hb:attributeBase e f X.env (eval e X.env)=eval e X.env):PE X (.Attribute e f pos) (J3C X.K ta f):=by
 intro pins s σ H Q I h
 refine J3L hb (thn (he pins s σ H _ I h) fun u s1 hz=>?_)
 obtain ⟨x,H1,I1,rx,a,ex,hz⟩:=hz
 obtain ⟨C,dx,fs,ea,c,n,v,l,q⟩:=hz
 subst ex
 cases (show u=Value.ref a from rx)
 exact Z7X I1 ea c n l fun u' s2 I2 ru=>⟨v,H1,I2,ru,q⟩
inductive SFld (K:W.Frag) (f:Str) (a:Addr) (H:Hp) (R:Addr→Addr→List (Str×V)→Prop):Prop
 | mk (C dx:Addr) (fs:List (Str×V)) (h:H a=some (.ins C dx fs)) (cl:Cls K C) (n:NoAttr K C f) (l:fs.length < 1000) (r:R C dx fs):SFld K f a H R
def J4L (K:W.Frag) (ta tv:TE) (f:Str):TS:=fun D σ H=>tv σ H fun y H1=>ta σ H1 fun x H2=>∃ a,x=.ref a∧SFld K f a H2 fun C dx fs=>D.nx σ (upd H2 a (.ins C dx (putF f y fs)))
theorem J6V {K:W.Frag} {D:Ends} {σ:St} {H:Hp}:J4L K ta tv f D σ H=tv σ H fun y H1=>ta σ H1 fun x H2=>∃ a,x=.ref a∧SFld K f a H2 fun C dx fs=>D.nx σ (upd H2 a (.ins C dx (putF f y fs))):=rfl
theorem Z0U (ha:PE X o ta) (hv:PE X value tv) (hs:swapsWith value (some (.Attribute o f pos')) pos.line X.env=pure false):PS X (.Assign [.Attribute o f pos'] value pos) (J4L X.K ta tv f):=by
 intro pins s σ H D I h
 refine plainObj_wpAny_Assign_Attribute (thn (hv pins s σ H _ I h) fun u s1 ⟨y,H1,I1,ry,q⟩=>thn (ha pins s1 σ H1 _ I1 q) fun ov s2 hz=>?_) hs
 obtain ⟨x,H2,I2,rx,a,ex,hz⟩:=hz
 obtain ⟨C,dx,fs,ea,c,n,l,q2⟩:=hz
 subst ex
 cases (show ov=Value.ref a from rx)
 exact Z8r I2 ea c n l ry fun s3 I3=>⟨σ,_,I3,q2⟩
inductive FldC (K:W.Frag) (f:Str) (a:Addr) (H:Hp) (R:Addr→V→Prop):Prop
 | mk (C dx:Addr) (fs:List (Str×V)) (h:H a=some (.ins C dx fs)) (cl:Cls K C) (n:NoAttr K C f) (v:V) (l:fs.lookup f=some v) (q:R C v):FldC K f a H R
inductive InsC (C a:Addr) (H:Hp) (R:Addr→List (Str×V)→Prop):Prop
 | mk (dx:Addr) (fs:List (Str×V)) (h:H a=some (.ins C dx fs)) (l:fs.length < 1000) (r:R dx fs):InsC C a H R
def J1H (K:W.Frag) (ta tv:TE) (rd:V→V→Hp→VK→Prop) (f:Str):TS:=fun D σ H=>ta σ H fun x H1=>∃ a,x=.ref a∧FldC K f a H1 fun C v=>
 tv σ H1 fun y H2=>rd v y H2 fun z H3=>InsC C a H3 fun dx' fs'=>D.nx σ (upd H3 a (.ins C dx' (putF f z fs')))
theorem J3A {K:W.Frag} {rd:V→V→Hp→VK→Prop} {D:Ends} {σ:St} {H:Hp}:J1H K ta tv rd f D σ H=ta σ H fun x H1=>∃ a,x=.ref a∧FldC K f a H1 fun C v=>
 tv σ H1 fun y H2=>rd v y H2 fun z H3=>InsC C a H3 fun dx' fs'=>D.nx σ (upd H3 a (.ins C dx' (putF f z fs'))):=rfl
inductive J0f (C:Addr) (m:Str) (a:Addr) (H:Hp) (R:Prop):Prop
 | mk (dx:Addr) (fs:List (Str×V)) (h:H a=some (.ins C dx fs)) (l:fs.lookup m=none) (r:R):J0f C m a H R
def Z9q (C:Addr) (m:Str) (sp:Sp) (dvs:List V) (E:XK) (ta:TE) (t:TA):TE:=fun σ H Q=>ta σ H fun x H1=>∃ a,x=.ref a∧J0f C m a H1 (t σ H1 fun vs H2=>sp (x::(vs++dvs)) H2 Q E)
theorem J5q {C:Addr} {m:Str} {sp:Sp} {dvs:List V} {E:XK} {t:TA} {σ:St} {H:Hp} {Q:VK}:Z9q C m sp dvs E ta t σ H Q=ta σ H fun x H1=>∃ a,x=.ref a∧J0f C m a H1 (t σ H1 fun vs H2=>sp (x::(vs++dvs)) H2 Q E):=rfl
variable {C:Addr} {m:Str} {ps:List Str} {sp:Sp} {k j:Nat} {es:List Expr} {t:TA} {apos:Pos}
theorem Z7T {pl:Sem Bool} (he:PE X o ta) (c:Cls X.K C) (h:HasM X.prog X.w X.K X.mg X.base k C m ps sp) (hr:Room j X.A) (hk:k≤j) (ha:PA X (e::es) t)
  (hst:starEach (e::es) X.env=(false,eval e X.env)::starEach es X.env:=by rfl) (hpl:(backTo pos (starEach es X.env)).any (·.1)=false:=by rfl)
  (ht:eval (.Call (.Attribute o m apos) (e::es) [] pos) X.env=(do
   let ov ← eval o X.env
   standAt apos.atName
   let (f,first) ← holding [ov] (getMethod ov m pl)
   callWith pos f first (backTo pos (starEach (e::es) X.env)) (backToKw pos (keywordEach [] X.env))):=by rfl) :
  PE X (.Call (.Attribute o m apos) (e::es) [] pos) (Z9q C m sp [] E0 ta t):=
 fun pins s σ H Q I h'=>J3P he.mono c h hr hk ha hst hpl ht pins s σ H Q I ⟨_,h',fun _ _ ⟨a,e,dx,fs,h,l,r⟩=>⟨a,dx,fs,e,h,l,r⟩⟩
theorem Z1D {pl:Sem Bool} (he:PE X o ta) (c:Cls X.K C) (h:HasM X.prog X.w X.K X.mg X.base k C m ps sp) (hr:Room j X.A) (hk:k≤j)
  (ht:eval (.Call (.Attribute o m apos) [] [] pos) X.env=(do
   let ov ← eval o X.env
   standAt apos.atName
   let (f,first) ← holding [ov] (getMethod ov m pl)
   callWith pos f first (backTo pos (starEach [] X.env)) (backToKw pos (keywordEach [] X.env))):=by rfl) :
  PE X (.Call (.Attribute o m apos) [] [] pos) (Z9q C m sp [] E0 ta tNil):=
 fun pins s σ H Q I h'=>J0O he.mono c h hr hk ht pins s σ H Q I ⟨_,h',fun _ _ ⟨a,e,dx,fs,h,l,r⟩=>⟨a,dx,fs,e,h,l,r⟩⟩
inductive IxT (K:W.Frag) (p:Addr) (i:Int) (H:Hp) (Q:VK):Prop
 | mk (xs:List V) (h:SqT K H p xs) (v:V) (l:atI xs i=some v) (q:Q v H):IxT K p i H Q
inductive IxL (K:W.Frag) (p:Addr) (i:Int) (H:Hp) (Q:VK):Prop
 | mk (xs:List V) (h:SqL K H p xs) (v:V) (l:atI xs i=some v) (q:Q v H):IxL K p i H Q
def Z1Y (K:W.Frag):R2:=fun x y H Q=>∃ p,x=.ref p∧∃ i,y=.int i∧IxT K p i H Q
def Z1o (K:W.Frag):R2:=fun x y H Q=>∃ p,x=.ref p∧∃ i,y=.int i∧IxL K p i H Q
theorem J6W {K:W.Frag} {x y:V} {H:Hp} {Q:VK}:Z1Y K x y H Q=∃ p,x=.ref p∧∃ i,y=.int i∧IxT K p i H Q:=rfl
theorem J7e {K:W.Frag} {x y:V} {H:Hp} {Q:VK}:Z1o K x y H Q=∃ p,x=.ref p∧∃ i,y=.int i∧IxL K p i H Q:=rfl
theorem Z0K:IxR X (Z1Y X.K):=fun value slice pins s σ H x y v u Q I rx ry ⟨p,e1,i,e2,xs,h,z,l,q⟩ hs=>J5a value slice pins s σ H x y v u Q I rx ry ⟨p,xs,i,z,e1,e2,h,l,q⟩ hs
theorem Z0s:IxR X (Z1o X.K):=fun value slice pins s σ H x y v u Q I rx ry ⟨p,e1,i,e2,xs,h,z,l,q⟩ hs=>J4e value slice pins s σ H x y v u Q I rx ry ⟨p,xs,i,z,e1,e2,h,l,q⟩ hs
inductive SetL (p:Addr) (k:Int) (H:Hp) (R:List V→Nat→Prop):Prop
 | mk (xs:List V) (h:H p=some (.lst xs)) (j:Nat) (l:ixN xs.length k=some j) (r:R xs j):SetL p k H R
def J2q:TSet:=fun o i v H Q=>∃ p,o=.ref p∧∃ k,i=.int k∧SetL p k H fun xs j=>Q (upd H p (.lst (xs.set j v)))
theorem J4P {o i v:V} {H:Hp} {Q:Hp→Prop}:J2q o i v H Q=∃ p,o=.ref p∧∃ k,i=.int k∧SetL p k H fun xs j=>Q (upd H p (.lst (xs.set j v))):=rfl
theorem Z2o:PSet X J2q:=fun pins s σ H o i v ov iv u Q I ro ri rv ⟨p,e1,k,e2,xs,h,j,l,q⟩=>J1A pins s σ H o i v ov iv u Q I ro ri rv ⟨p,xs,k,j,e1,e2,h,l,q⟩
inductive HdOf (vs:List V) (R:V→List V→Prop):Prop
 | mk (v:V) (r:List V) (e:vs=v::r) (q:R v r):HdOf vs R
inductive J3u (K:W.Frag) (a:Addr) (n:Nat) (H:Hp) (R:List V→Prop):Prop
 | mk (xs:List V) (h:SqT K H a xs) (l:xs.length=n) (q:R xs):J3u K a n H R
def J4o (K:W.Frag) (n:Nat) (t:TGs):TG:=fun v σ H Q=>∃ a,v=.ref a∧J3u K a n H fun xs=>t xs σ H Q
theorem J6O {K:W.Frag} {n:Nat} {t:TGs} {v:V} {σ:St} {H:Hp} {Q:St→Hp→Prop}:J4o K n t v σ H Q=∃ a,v=.ref a∧J3u K a n H fun xs=>t xs σ H Q:=rfl
def J2T (t:TG) (u:TGs):TGs:=fun vs σ H Q=>HdOf vs fun v r=>t v σ H fun σ' H'=>u r σ' H' Q
theorem J5e {t:TG} {u:TGs} {vs:List V} {σ:St} {H:Hp} {Q:St→Hp→Prop}:J2T t u vs σ H Q=HdOf vs fun v r=>t v σ H fun σ' H'=>u r σ' H' Q:=rfl
theorem Z0w {e:Expr} {es:List Expr} {t:TG} {u:TGs} (h1:PG X e t) (h2:PGs X es u)
  (hs:(assignEach (e::es) X.env).map (·.2)=assign e X.env::(assignEach es X.env).map (·.2):=by rfl):PGs X (e::es) (J2T t u):=
 fun pins s σ H vs us Q I r ⟨v,w,e,q⟩=>J1i h1 h2 hs pins s σ H vs us Q I r ⟨v,w,e,q⟩
theorem Z3n {es:List Expr} {k:Nat} {t:TGs} {n:Nat} (hc:X.calm=true) (h:PGs X es t)
  (hn:(assignEach es X.env).length=n:=by rfl) (hst:(assignEach es X.env).findIdx? (·.1)=none:=by rfl):PG X (.Tuple es k pos) (J4o X.K n t):=
 fun pins s σ H v u Q I r ⟨a,e,xs,h',l,q⟩=>J4W hc h hn hst pins s σ H v u Q I r ⟨a,xs,e,h',l,q⟩
end
@[elab_as_elim] theorem el0 {α:Type} {motive:List α→Prop} (us:List α) (h:us.length=0) (k:motive []):motive us:=match us,h with | [],_=>k 
@[elab_as_elim] theorem el1 {α:Type} {motive:List α→Prop} (us:List α) (h:us.length=1) (k:∀ a:α,motive [a]):motive us:=match us,h with | [a],_=>k a
@[elab_as_elim] theorem el2 {α:Type} {motive:List α→Prop} (us:List α) (h:us.length=2) (k:∀ a b:α,motive [a,b]):motive us:=match us,h with | [a,b],_=>k a b
@[elab_as_elim] theorem el3 {α:Type} {motive:List α→Prop} (us:List α) (h:us.length=3) (k:∀ a b c:α,motive [a,b,c]):motive us:=match us,h with | [a,b,c],_=>k a b c
@[elab_as_elim] theorem el4 {α:Type} {motive:List α→Prop} (us:List α) (h:us.length=4) (k:∀ a b c d:α,motive [a,b,c,d]):motive us:=match us,h with | [a,b,c,d],_=>k a b c d
@[elab_as_elim] theorem el5 {α:Type} {motive:List α→Prop} (us:List α) (h:us.length=5) (k:∀ a b c d e:α,motive [a,b,c,d,e]):motive us:=match us,h with | [a,b,c,d,e],_=>k a b c d e
@[elab_as_elim] theorem el6 {α:Type} {motive:List α→Prop} (us:List α) (h:us.length=6) (k:∀ a b c d e f:α,motive [a,b,c,d,e,f]):motive us:=match us,h with | [a,b,c,d,e,f],_=>k a b c d e f
@[elab_as_elim] theorem el7 {α:Type} {motive:List α→Prop} (us:List α) (h:us.length=7) (k:∀ a b c d e f g:α,motive [a,b,c,d,e,f,g]):motive us:=match us,h with | [a,b,c,d,e,f,g],_=>k a b c d e f g
theorem seq2 {t1 t2:TS} {D:Ends} {σ:St} {H:Hp} (h:∀ u1,u1=t2→t1 { D with nx:=u1 D } σ H):(tSeq t1 t2) D σ H:=h _ rfl
theorem seq3 {t1 t2 t3:TS} {D:Ends} {σ:St} {H:Hp} (h:∀ u2,u2=t3→∀ u1,u1=tSeq t2 u2→t1 { D with nx:=u1 D } σ H):(tSeq t1 (tSeq t2 t3)) D σ H:=h _ rfl _ rfl
theorem seq4 {t1 t2 t3 t4:TS} {D:Ends} {σ:St} {H:Hp} (h:∀ u3,u3=t4→∀ u2,u2=tSeq t3 u3→∀ u1,u1=tSeq t2 u2→t1 { D with nx:=u1 D } σ H):(tSeq t1 (tSeq t2 (tSeq t3 t4))) D σ H:=h _ rfl _ rfl _ rfl
theorem seq5 {t1 t2 t3 t4 t5:TS} {D:Ends} {σ:St} {H:Hp} (h:∀ u4,u4=t5→∀ u3,u3=tSeq t4 u4→∀ u2,u2=tSeq t3 u3→∀ u1,u1=tSeq t2 u2→t1 { D with nx:=u1 D } σ H):(tSeq t1 (tSeq t2 (tSeq t3 (tSeq t4 t5)))) D σ H:=h _ rfl _ rfl _ rfl _ rfl
theorem seq6 {t1 t2 t3 t4 t5 t6:TS} {D:Ends} {σ:St} {H:Hp} (h:∀ u5,u5=t6→∀ u4,u4=tSeq t5 u5→∀ u3,u3=tSeq t4 u4→∀ u2,u2=tSeq t3 u3→∀ u1,u1=tSeq t2 u2→t1 { D with nx:=u1 D } σ H):(tSeq t1 (tSeq t2 (tSeq t3 (tSeq t4 (tSeq t5 t6))))) D σ H:=h _ rfl _ rfl _ rfl _ rfl _ rfl
theorem seq9 {t1 t2 t3 t4 t5 t6 t7 t8 t9:TS} {D:Ends} {σ:St} {H:Hp} (h:∀ u8,u8=t9→∀ u7,u7=tSeq t8 u8→∀ u6,u6=tSeq t7 u7→∀ u5,u5=tSeq t6 u6→∀ u4,u4=tSeq t5 u5→∀ u3,u3=tSeq t4 u4→∀ u2,u2=tSeq t3 u3→∀ u1,u1=tSeq t2 u2→t1 { D with nx:=u1 D } σ H):(tSeq t1 (tSeq t2 (tSeq t3 (tSeq t4 (tSeq t5 (tSeq t6 (tSeq t7 (tSeq t8 t9)))))))) D σ H:=h _ rfl _ rfl _ rfl _ rfl _ rfl _ rfl _ rfl _ rfl
theorem J7K {t1 t2 t3 t4 t5 t6 t7 t8 t9 t10 t11:TS} {D:Ends} {σ:St} {H:Hp} (h:∀ u10,u10=t11→∀ u9,u9=tSeq t10 u10→∀ u8,u8=tSeq t9 u9→∀ u7,u7=tSeq t8 u8→∀ u6,u6=tSeq t7 u7→∀ u5,u5=tSeq t6 u6→∀ u4,u4=tSeq t5 u5→∀ u3,u3=tSeq t4 u4→∀ u2,u2=tSeq t3 u3→∀ u1,u1=tSeq t2 u2→t1 { D with nx:=u1 D } σ H):(tSeq t1 (tSeq t2 (tSeq t3 (tSeq t4 (tSeq t5 (tSeq t6 (tSeq t7 (tSeq t8 (tSeq t9 (tSeq t10 t11)))))))))) D σ H:=h _ rfl _ rfl _ rfl _ rfl _ rfl _ rfl _ rfl _ rfl _ rfl _ rfl
theorem J8n {t1 t2 t3 t4 t5 t6 t7 t8 t9 t10 t11 t12:TS} {D:Ends} {σ:St} {H:Hp} (h:∀ u11,u11=t12→∀ u10,u10=tSeq t11 u11→∀ u9,u9=tSeq t10 u10→∀ u8,u8=tSeq t9 u9→∀ u7,u7=tSeq t8 u8→∀ u6,u6=tSeq t7 u7→∀ u5,u5=tSeq t6 u6→∀ u4,u4=tSeq t5 u5→∀ u3,u3=tSeq t4 u4→∀ u2,u2=tSeq t3 u3→∀ u1,u1=tSeq t2 u2→t1 { D with nx:=u1 D } σ H):(tSeq t1 (tSeq t2 (tSeq t3 (tSeq t4 (tSeq t5 (tSeq t6 (tSeq t7 (tSeq t8 (tSeq t9 (tSeq t10 (tSeq t11 t12))))))))))) D σ H:=h _ rfl _ rfl _ rfl _ rfl _ rfl _ rfl _ rfl _ rfl _ rfl _ rfl _ rfl
def New (H:Hp) (o:HO) (R:Addr→Hp→Prop):Prop:=∀ p,H p=none→R p (upd H p o)
theorem New.of {H:Hp} {o:HO} {R:Addr→Hp→Prop} (h:∀ p H',H p=none→Same H H'→H' p=some o→R p H'):New H o R:=fun p hp=>h p _ hp (Z0n hp o) Z0e
theorem J7Y {t:TA} {σ:St} {H:Hp} {Q:VK}:tTup t σ H Q=(t σ H fun xs H1=>xs.length≤sizeLine∧New H1 (.tup xs) fun p H2=>Q (.ref p) H2):=rfl
theorem J7r {t:TA} {σ:St} {H:Hp} {Q:VK}:tLst t σ H Q=(t σ H fun xs H1=>xs.length≤sizeLine∧New H1 (.lst xs) fun p H2=>Q (.ref p) H2):=rfl
theorem J7q {K:W.Frag} {x:V} {lo:Option Int} {hi:Option Int} {H:Hp} {Q:VK}:rSlL K x lo hi H Q=(∃ a xs,x=.ref a∧SqL K H a xs∧New H (.lst (cutV xs lo hi)) fun p H2=>Q (.ref p) H2):=rfl
theorem J7p {x:V} {y:V} {H:Hp} {Q:VK}:rCat  x y H Q=(∃ l b xs zs,x=.ref l∧y=.ref b∧H l=some (.lst xs)∧H b=some (.lst zs)∧xs.length+zs.length≤sizeLine∧New H (.lst (xs++zs)) fun p H2=>Q (.ref p) H2):=rfl
end L2
end
section
namespace TM
open PySem L2 P15
structure Kp (H H':Hp):Prop where
 t:∀ b xs,H b=some (.tup xs)→H' b=some (.tup xs)
 z:∀ b o xs,H b=some (.frz o (.tup xs))→H' b=some (.frz o (.tup xs))
 i:∀ b C dx f fs,H b=some (.ins C dx (f::fs))→H' b=some (.ins C dx (f::fs))
theorem Kp.trans {H H' H'':Hp} (a:Kp H H') (b:Kp H' H''):Kp H H'':=⟨fun _ _ h=>b.t _ _ (a.t _ _ h),fun _ _ _ h=>b.z _ _ _ (a.z _ _ _ h),fun _ _ _ _ _ h=>b.i _ _ _ _ _ (a.i _ _ _ _ _ h)⟩
theorem Kp.of {H H':Hp} (s:Same H H'):Kp H H':=⟨fun _ _ h=>s _ _ h,fun _ _ _ h=>s _ _ h,fun _ _ _ _ _ h=>s _ _ h⟩
theorem Kp.put {H:Hp} {a:Addr} {u:HO} (o:HO) (h:H a=some u) (n1:∀ xs,u≠.tup xs) (n2:∀ o xs,u≠.frz o (.tup xs)) (n3:∀ C dx f fs,u≠.ins C dx (f::fs)):Kp H (upd H a o):=by
 refine ⟨fun b xs e=>?_,fun b o xs e=>?_,fun b C dx f fs e=>?_⟩
 ·rw [Z0h (fun z=>by rw [z,h] at e; cases e; exact n1 _ rfl)]; exact e
 ·rw [Z0h (fun z=>by rw [z,h] at e; cases e; exact n2 _ _ rfl)]; exact e
 ·rw [Z0h (fun z=>by rw [z,h] at e; cases e; exact n3 _ _ _ _ rfl)]; exact e
theorem Kp.lst {H:Hp} {a:Addr} {xs:List V} (o:HO) (h:H a=some (.lst xs)):Kp H (upd H a o):=Kp.put o h (fun _ z=>by cases z) (fun _ _ z=>by cases z) (fun _ _ _ _ z=>by cases z)
structure Kt (H H':Hp):Prop where
 t:∀ b xs,H b=some (.tup xs)→H' b=some (.tup xs)
 z:∀ b o xs,H b=some (.frz o (.tup xs))→H' b=some (.frz o (.tup xs))
theorem Kp.kt {H H':Hp} (k:Kp H H'):Kt H H':=⟨k.t,k.z⟩
theorem Kt.put {H:Hp} {a:Addr} {u:HO} (o:HO) (h:H a=some u) (n1:∀ xs,u≠.tup xs) (n2:∀ o xs,u≠.frz o (.tup xs)):Kt H (upd H a o):=by
 refine ⟨fun b xs e=>?_,fun b o xs e=>?_⟩
 ·rw [Z0h (fun z=>by rw [z,h] at e; cases e; exact n1 _ rfl)]; exact e
 ·rw [Z0h (fun z=>by rw [z,h] at e; cases e; exact n2 _ _ rfl)]; exact e
theorem SqT.kt {K:W.Frag} {H H':Hp} {a:Addr} {xs:List V} (h:SqT K H a xs) (k:Kt H H'):SqT K H' a xs:=by
 rcases h with (h | ⟨o,h⟩) | h
 ·exact .inl (.inl (k.t _ _ h))
 ·exact .inl (.inr ⟨o,k.z _ _ _ h⟩)
 ·exact .inr h
theorem SqT.kp {K:W.Frag} {H H':Hp} {a:Addr} {xs:List V} (h:SqT K H a xs) (k:Kp H H'):SqT K H' a xs:=SqT.kt h k.kt
mutual
inductive RT (K:W.Frag) (H:Hp):V→PyData→Prop
 | non:RT K H .non .none
 | bl (b:Bool):RT K H (.bl b) (.bool b)
 | int (i:Int):RT K H (.int i) (.int i)
 | str (x:Str):RT K H (.str x) (.str x)
 | tup {a:Addr} {xs:List V} {ds:List PyData}:SqT K H a xs→RTs K H xs ds→RT K H (.ref a) (.tuple ds)
inductive RTs (K:W.Frag) (H:Hp):List V→List PyData→Prop
 | nil:RTs K H [] []
 | cons {v:V} {vs:List V} {d:PyData} {ds:List PyData}:RT K H v d→RTs K H vs ds→RTs K H (v::vs) (d::ds)
end
section
variable {K:W.Frag} {H H':Hp}
mutual
theorem RT.rd:∀ {v:V} {d:PyData},RT K H v d→RdD K H v d
 | _,_,.non=>.non
 | _,_,.bl b=>.bl b
 | _,_,.int i=>.int i
 | _,_,.str x=>.str x
 | _,_,.tup hq hs=>.tup hq (RTs.rd hs)
theorem RTs.rd:∀ {vs:List V} {ds:List PyData},RTs K H vs ds→RdDs K H vs ds
 | _,_,.nil=>.nil
 | _,_,.cons h hs=>.cons (RT.rd h) (RTs.rd hs)
end
mutual
theorem RT.kt (k:Kt H H'):∀ {v:V} {d:PyData},RT K H v d→RT K H' v d
 | _,_,.non=>.non
 | _,_,.bl b=>.bl b
 | _,_,.int i=>.int i
 | _,_,.str x=>.str x
 | _,_,.tup hq hs=>.tup (SqT.kt hq k) (RTs.kt k hs)
theorem RTs.kt (k:Kt H H'):∀ {vs:List V} {ds:List PyData},RTs K H vs ds→RTs K H' vs ds
 | _,_,.nil=>.nil
 | _,_,.cons h hs=>.cons (RT.kt k h) (RTs.kt k hs)
end
theorem RT.kp {v:V} {d:PyData} (k:Kp H H') (h:RT K H v d):RT K H' v d:=h.kt k.kt
theorem RTs.kp {vs:List V} {ds:List PyData} (k:Kp H H') (h:RTs K H vs ds):RTs K H' vs ds:=h.kt k.kt
theorem RT.same {v:V} {d:PyData} (h:RT K H v d) (s:Same H H'):RT K H' v d:=h.kp (Kp.of s)
theorem RTs.same {vs:List V} {ds:List PyData} (h:RTs K H vs ds) (s:Same H H'):RTs K H' vs ds:=h.kp (Kp.of s)
theorem RT.str_inv {v:V} {x:Str} (h:RT K H v (.str x)):v=.str x:=by cases h; rfl
theorem RT.tup_inv {v:V} {ds:List PyData} (h:RT K H v (.tuple ds)):∃ a xs,v=.ref a∧SqT K H a xs∧RTs K H xs ds:=by
 cases h with
 | tup a b=>exact ⟨_,_,rfl,a,b⟩
theorem RTs.inv {vs:List V} {d:PyData} {ds:List PyData} (h:RTs K H vs (d::ds)):∃ v r,vs=v::r∧RT K H v d∧RTs K H r ds:=by
 cases h with
 | cons a b=>exact ⟨_,_,rfl,a,b⟩
theorem RTs.nil_inv {vs:List V} (h:RTs K H vs []):vs=[]:=by cases h; rfl
theorem RTs.length:∀ {vs:List V} {ds:List PyData},RTs K H vs ds→vs.length=ds.length
 | _,_,.nil=>rfl
 | _,_,.cons _ hs=>congrArg (·+1) (RTs.length hs)
theorem RTs.app:∀ {xs ys:List V} {ds es:List PyData},RTs K H xs ds→RTs K H ys es→RTs K H (xs++ys) (ds++es)
 | _,_,_,_,.nil,h=>h
 | _,_,_,_,.cons a b,h=>.cons a (RTs.app b h)
theorem RTs.at:∀ {vs:List V} {ds:List PyData} {i:Nat} {v:V},RTs K H vs ds→vs[i]?=some v→∃ d,ds[i]?=some d∧RT K H v d
 | _,_,0,_,.cons a _,h=>by cases h; exact ⟨_,rfl,a⟩
 | _,_,i+1,_,.cons _ b,h=>by have:=RTs.at (i:=i) b h; exact this
end
noncomputable def lbV:Lb→V
 | .non=>.non | .int i=>.int i | .bl b=>.bl b | .str x=>.str x
theorem J2e {K:W.Frag} {H:Hp}:∀ l:Lb,RT K H (lbV l) l.d
 | .non=>.non | .int i=>.int i | .bl b=>.bl b | .str x=>.str x
theorem J2H {K:W.Frag} {H:Hp} {v:V}:∀ {l:Lb},RT K H v l.d→v=lbV l
 | .non,h=>by cases h; rfl
 | .int i,h=>by cases h; rfl
 | .bl b,h=>by cases h; rfl
 | .str x,h=>by cases h; rfl
theorem Z1f:∀ ts:List Tm,(dats ts).length=ts.length
 | []=>rfl
 | _::ts=>congrArg (·+1) (Z1f ts)
theorem Z3f:∀ xs ys:List Tm,dats (xs++ys)=dats xs++dats ys
 | [],_=>rfl
 | x::xs,ys=>congrArg (x.dat::·) (Z3f xs ys)
theorem Z9d:∀ {ts:List Tm} {i:Nat} {d:PyData},(dats ts)[i]?=some d→∃ t,ts[i]?=some t∧d=t.dat
 | t::ts,0,d,h=>by cases h; exact ⟨t,rfl,rfl⟩
 | t::ts,i+1,d,h=>by have:=Z9d (ts:=ts) (i:=i) h; exact this
noncomputable def fsT (f:Fm) (l:Lb) (inn sh:Addr) (d m:Nat):List (Str×V):=[("form",.str f.s),("label",lbV l),("inner",.ref inn),("deep",.int d),("many",.int m),("shape",.ref sh)]
mutual
inductive TO (K:W.Frag) (C:Addr) (H:Hp):V→Tm→Prop
 | mk {a dx inn sh:Addr} {f:Fm} {l:Lb} {ps:List Tm} {vs ws:List V}:H a=some (.ins C dx (fsT f l inn sh (1+maxD ps) (1+sumS ps)))→SqT K H inn vs→TOs K C H vs ps→SqT K H sh ws→RTs K H ws (Z0X f l (dats ps))→TO K C H (.ref a) (.mk f l ps)
inductive TOs (K:W.Frag) (C:Addr) (H:Hp):List V→List Tm→Prop
 | nil:TOs K C H [] []
 | cons {v:V} {vs:List V} {t:Tm} {ts:List Tm}:TO K C H v t→TOs K C H vs ts→TOs K C H (v::vs) (t::ts)
end
section
variable {K:W.Frag} {C:Addr} {H H':Hp}
mutual
theorem TO.kp (k:Kp H H'):∀ {v:V} {t:Tm},TO K C H v t→TO K C H' v t
 | _,_,.mk a b c d e=>.mk (k.i _ _ _ _ _ a) (SqT.kp b k) (TOs.kp k c) (SqT.kp d k) (e.kp k)
theorem TOs.kp (k:Kp H H'):∀ {vs:List V} {ts:List Tm},TOs K C H vs ts→TOs K C H' vs ts
 | _,_,.nil=>.nil
 | _,_,.cons h hs=>.cons (TO.kp k h) (TOs.kp k hs)
end
theorem TO.inv {v:V} {t:Tm} (h:TO K C H v t):∃ a dx inn sh vs ws,v=.ref a∧H a=some (.ins C dx (fsT t.f t.l inn sh t.depth t.size))∧SqT K H inn vs∧TOs K C H vs t.ps∧SqT K H sh ws∧RTs K H ws (Z0X t.f t.l (dats t.ps)):=by
 cases h with
 | mk a b c d e=>exact ⟨_,_,_,_,_,_,rfl,a,b,c,d,e⟩
theorem TOs.length:∀ {vs:List V} {ts:List Tm},TOs K C H vs ts→vs.length=ts.length
 | _,_,.nil=>rfl
 | _,_,.cons _ hs=>congrArg (·+1) (TOs.length hs)
theorem TOs.app:∀ {xs ys:List V} {ts us:List Tm},TOs K C H xs ts→TOs K C H ys us→TOs K C H (xs++ys) (ts++us)
 | _,_,_,_,.nil,h=>h
 | _,_,_,_,.cons a b,h=>.cons a (TOs.app b h)
theorem TOs.split:∀ {ts us:List Tm} {vs:List V},TOs K C H vs (ts++us)→∃ xs ys,vs=xs++ys∧TOs K C H xs ts∧TOs K C H ys us
 | [],us,vs,h=>⟨[],vs,rfl,.nil,h⟩
 | t::ts,us,_,.cons a b=>by
  obtain ⟨xs,ys,rfl,h1,h2⟩:=TOs.split b
  exact ⟨_::xs,ys,rfl,.cons a h1,h2⟩
theorem TOs.at:∀ {vs:List V} {ts:List Tm} {i:Nat} {v:V},TOs K C H vs ts→vs[i]?=some v→∃ t,ts[i]?=some t∧TO K C H v t
 | _,_,0,_,.cons a _,h=>by cases h; exact ⟨_,rfl,a⟩
 | _,_,i+1,_,.cons _ b,h=>by have:=TOs.at (i:=i) b h; exact this
end
def SX (x:Addr) (H H':Hp):Prop:=∀ b o,b≠x→H b=some o→H' b=some o
theorem SX.of {x:Addr} {H H':Hp} (s:Same H H'):SX x H H':=fun b o _ h=>s b o h
theorem SX.trans {x:Addr} {H H' H'':Hp} (a:SX x H H') (b:SX x H' H''):SX x H H'':=fun c o n h=>b c o n (a c o n h)
theorem SX.put {x:Addr} {H:Hp} (o:HO):SX x H (upd H x o):=fun b u n h=>by rw [Z0h n]; exact h
theorem SX.kp {x C dx:Addr} {H H':Hp} (s:SX x H H') (hx:H x=some (.ins C dx [])):Kp H H':=
 ⟨fun b xs h=>s b _ (fun z=>by rw [z,hx] at h; cases h) h,fun b o xs h=>s b _ (fun z=>by rw [z,hx] at h; cases h) h,fun b C dx f fs h=>s b _ (fun z=>by rw [z,hx] at h; cases h) h⟩
theorem SX.sqL {K:W.Frag} {x C dx a:Addr} {fs:List (Str×V)} {xs:List V} {H H':Hp} (s:SX x H H') (hx:H x=some (.ins C dx fs)) (h:SqL K H a xs):SqL K H' a xs:=by
 rcases h with (h | ⟨o,h⟩) | h
 ·exact .inl (.inl (s _ _ (fun z=>by rw [z,hx] at h; cases h) h))
 ·exact .inl (.inr ⟨o,s _ _ (fun z=>by rw [z,hx] at h; cases h) h⟩)
 ·exact .inr h
theorem SX.sqT {K:W.Frag} {x C dx a:Addr} {fs:List (Str×V)} {xs:List V} {H H':Hp} (s:SX x H H') (hx:H x=some (.ins C dx fs)) (h:SqT K H a xs):SqT K H' a xs:=by
 rcases h with (h | ⟨o,h⟩) | h
 ·exact .inl (.inl (s _ _ (fun z=>by rw [z,hx] at h; cases h) h))
 ·exact .inl (.inr ⟨o,s _ _ (fun z=>by rw [z,hx] at h; cases h) h⟩)
 ·exact .inr h
theorem Z9w:∀ {ts:List Tm} {t:Tm},t∈ts→t.depth≤maxD ts
 | u::ts,t,h=>by
  show t.depth≤max u.depth (maxD ts)
  rcases (List.mem_cons.mp h) with rfl | h
  ·exact Nat.le_max_left _ _
  ·exact Nat.le_trans (Z9w h) (Nat.le_max_right _ _)
theorem Z8K {n:Nat}:∀ {ts:List Tm},(∀ t∈ts,t.depth≤n)→maxD ts≤n
 | [],_=>Nat.zero_le _
 | t::ts,h=>Nat.max_le.mpr ⟨h t List.mem_cons_self,Z8K fun u hu=>h u (List.mem_cons_of_mem _ hu)⟩
end TM
end
section
namespace L2
open PySem
structure Z9a (P:Program) (w:World) (A:Around) (it Z:Addr) (n:Nat) (St:Nat→Array Value→Shared→Prop) (Fin:Array Value→Shared→Prop):Prop where
 item:∀ (i:Nat) (acc:Array Value) (s:Shared) (Q:Option Value→Shared→Prop) (E:Value→Shared→Prop),i < n→St i acc s→(∀ v s',St (i+1) (acc.push v) s'→(∀ o,s.heap.get? Z=some o→s'.heap.get? Z=some o)→Q (some v) s')→wpAny (model P w) A (pyNext (.ref it)) Q E s
 done:∀ (acc:Array Value) (s:Shared) (Q:Option Value→Shared→Prop) (E:Value→Shared→Prop),St n acc s→(∀ s',Fin acc s'→(∀ o,s.heap.get? Z=some o→s'.heap.get? Z=some o)→Q none s')→wpAny (model P w) A (pyNext (.ref it)) Q E s
 size:∀ i acc s,St i acc s→acc.size=i
 frame:∀ i acc s h',St i acc s→(∀ b o,b≠Z→s.heap.get? b=some o→h'.get? b=some o)→h'.objs.size=s.heap.objs.size→St i acc { s with heap:=h' }
section
variable {P:Program} {w:World} {B:Around} {E:Value→Shared→Prop} {s:Shared} {it Z:Addr} {n:Nat} {St:Nat→Array Value→Shared→Prop} {Fin:Array Value→Shared→Prop} {R:Result→Shared→Prop}
theorem J0k (W:Z9a P w B.in1 it Z n St Fin) (hn:n≤sizeLine) (res:Value):∀ (k i:Nat) (s:Shared) (acc:Array Value) (c:Nat),n - i=k→i≤n→St i acc s→s.heap.get? Z=some { cls:=.type "list",dict:=none,data:=.seq acc c,slots:=#[] } →
  (∀ s' acc' c',Fin acc' s'→s'.heap.get? Z=some { cls:=.type "list",dict:=none,data:=.seq acc' c',slots:=#[] }→acc'.size=n→R (.ok (.ret res)) s')→codeAny (model P w) B (.builtin "list.extend.loop" ⟨[.ref Z,.ref it,res],[]⟩) R s:=by
 intro k
 induction k with
 | zero=>
  intro i s acc c hk hi st g q
  have ei:i=n:=Nat.le_antisymm hi (Nat.sub_eq_zero_iff_le.mp hk)
  subst ei
  refine codeAny_builtin F.entry_extend_loop ?_; rw [Around.under_plainId F.plain_extend_loop ⟨[.ref Z,.ref it,res],[]⟩]
  show wpAny (model P w) B.in1 (pyNext (.ref it) >>= _) _ _ s; refine wpAny_bind (W.done acc s _ _ st fun s' f kz=>wpAny_pure ?_)
  exact q s' acc c f (kz _ g) (W.size _ _ _ st)
 | succ k ih=>
  intro i s acc c hk hi st g q
  have lt:i < n:=by omega
  refine codeAny_builtin F.entry_extend_loop ?_; rw [Around.under_plainId F.plain_extend_loop ⟨[.ref Z,.ref it,res],[]⟩]
  show wpAny (model P w) B.in1 (pyNext (.ref it) >>= _) _ _ s; refine wpAny_bind (W.item i acc s _ _ lt st fun v s1 st1 kz=>?_)
  have g1:=kz _ g
  have ez:=W.size _ _ _ st
  show wpAny (model P w) B.in1 (updateSeq Z (·.push v) >>= _) _ _ _; refine wpAny_bind ?_
  refine wpAny_updateSeq g1 rfl (wpAny_pure ⟨plainId_quiet F.plain_extend_loop ⟨[.ref Z,.ref it,res],[]⟩,ih (i+1) _ (acc.push v) _ (by omega) lt (W.frame _ _ _ _ st1 (fun b o hb e=>?_) (by simp [Heap.update])) (Heap.get?_update_self _ g1 rfl) q⟩) (by rw [ez]; omega) (by show (acc.push v).size≤sizeLine+1; rw [Array.size_push,ez]; omega)
  exact (Heap.get?_update_other _ _ (Ne.symm hb)).trans e
def J4G (P:Program) (w:World) (it:Addr) (St:Shared→Prop):Prop:=∀ (A:Around) (s:Shared) (Q:Bool→Shared→Prop) (E:Value→Shared→Prop),St s→(∀ b,Q b s)→wpAny (model P w) A (Builtin.List.listLengthHint (.ref it)) Q E s
theorem J0r {T:String} {Q:Value→Shared→Prop} (hT:∀ s,St 0 #[] s→s.TypeIs (.ref it) T) (h1:(Value.type T == Value.type "list")=false) (h2:(Value.type T == Value.type "tuple")=false) (hZI:s.heap.objs.size≠it)
  (W:Z9a P w B.in1.in1 it s.heap.objs.size n St Fin) (hs:∀ (A:Around) (s:Shared) (Q:Value→Shared→Prop) (E:Value→Shared→Prop),St 0 #[] s→Q (.ref it) s→wpAny (model P w) A (pyIter (.ref it)) Q E s) (hh:J4G P w it (St 0 #[]))
  (st:St 0 #[] { s with heap:=s.heap.push { cls:=.type "list",data:=.seq #[] } })
  (hQ:∀ s' acc c,Fin acc s'→s'.heap.get? s.heap.objs.size=some { cls:=.type "list",dict:=none,data:=.seq acc c,slots:=#[] }→acc.size=n→Q (.ref s.heap.objs.size) s')
  (hn:n≤sizeLine):wpAny (model P w) B (call (.type "list") [.ref it]) Q E s:=by
 refine callType_codes (Q₁:=fun o s1=>o=.ref s.heap.objs.size∧s1={ s with heap:=s.heap.push { cls:=.type "list",data:=.seq #[] } }) F.called_list (F.typeCall_list_1 _) F.entry_list_init (code_list_new _ ⟨rfl,rfl⟩) fun o s1 e=>?_
 obtain ⟨rfl,rfl⟩:=e
 have g1:({ s with heap:=s.heap.push { cls:=.type "list",data:=.seq #[] } }:Shared).heap.get? s.heap.objs.size=some { cls:=.type "list",data:=.seq #[] }:=Heap.get?_push_size _ rfl
 generalize ({ s with heap:=s.heap.push { cls:=.type "list",data:=.seq #[] } }:Shared)=s1 at *
 generalize s.heap.objs.size=Z at *
 refine ⟨⟨_,g1,rfl⟩,F.args_list_init_2 _ _,?_⟩
 have key:∀ (h:Heap) (c:Nat),(∀ b o,b≠Z→s1.heap.get? b=some o→h.get? b=some o)→h.objs.size=s1.heap.objs.size→h.get? Z=some { cls:=.type "list",data:=.seq #[] c }→codeAny (model P w) B.in1 (.builtin "list.extend.loop" ⟨[.ref Z,.ref it,.none],[]⟩) (wants (fun r s2=>r=.none∧Q (.ref Z) s2) E) { s1 with heap:=h }:=by
  intro h c k kz g
  exact J0k W hn .none n 0 _ #[] c rfl (Nat.zero_le _) (W.frame _ _ _ _ st k kz) g fun s2 acc c2 f g2 ha=>⟨rfl,hQ s2 acc c2 f g2 ha⟩
 show wpAny (model P w) B.in1.in1 (do let old ← Builtin.List.listItems (.ref Z); Builtin.List.listUpdate (.ref Z) (fun _=>#[]); letGo old.toList.reverse; Builtin.List.listExtendWith (.ref Z) (.ref it) .none) _ _ s1; refine wpAny_bind ?_
 unfold Builtin.List.listItems; refine wpAny_bind (wpAny_seqItems g1 rfl (wpAny_pure ?_))
 show wpAny (model P w) B.in1.in1 (updateSeq Z (fun _=>#[]) >>= fun _=>letGo (#[]:Array Value).toList.reverse >>= fun _=>Builtin.List.listExtendWith (.ref Z) (.ref it) .none) _ _ s1
 refine wpAny_bind (wpAny_updateSeq g1 rfl (wpAny_bind (wpAny_letGo ?_)))
 have g2:=Heap.get?_update_self (Obj.mapSeq (fun _=>(#[]:Array Value))) g1 rfl
 have k2:∀ b o,b≠Z→s1.heap.get? b=some o→(s1.heap.update Z (Obj.mapSeq (fun _=>(#[]:Array Value)))).get? b=some o:=fun b o hb e=>(Heap.get?_update_other _ _ (Ne.symm hb)).trans e
 have z2:(s1.heap.update Z (Obj.mapSeq (fun _=>(#[]:Array Value)))).objs.size=s1.heap.objs.size:=by simp [Heap.update]
 generalize s1.heap.update Z (Obj.mapSeq (fun _=>(#[]:Array Value)))=h2 at *
 have f2:St 0 #[] { s1 with heap:=h2 }:=W.frame _ _ _ _ st k2 z2
 unfold Builtin.List.listExtendWith; refine wpAny_bind (wpAny_typeOf (hT _ f2) ?_)
 rw [show Builtin.List.listSameRef (.ref Z) (.ref it)=false by simp [Builtin.List.listSameRef,hZI],h1,‹(Value.type T == Value.type "tuple")=false›]
 refine wpAny_bind (hs _ _ _ _ f2 ?_)
 refine wpAny_bind (wpAny_holding (hh _ _ _ _ f2 fun b=>?_))
 refine wpAny_ite_split (fun _=>?_) (fun _=>wpAny_pure ⟨plainId_quiet F.plain_extend_loop ⟨[.ref Z,.ref it,.none],[]⟩,key h2 _ k2 z2 g2⟩)
 refine wpAny_bind (wpAny_rule (wpAny_bind ?_))
 show wpAny (model P w) B.in1.in1 (updateSeq Z (·.push .none) >>= fun _=>updateSeq Z (·.pop)) _ _ _; refine wpAny_bind (wpAny_updateSeq g2 rfl ?_)
 have g3:=Heap.get?_update_self (Obj.mapSeq (·.push Value.none)) g2 rfl
 refine wpAny_updateSeq (hz:=by seq_fits) g3 rfl ?_
 have g4:=Heap.get?_update_self (Obj.mapSeq (·.pop)) g3 rfl
 refine wpAny_pure ⟨plainId_quiet F.plain_extend_loop ⟨[.ref Z,.ref it,.none],[]⟩,key _ _ (fun b o hb e=>?_) (by simpa [Heap.update] using z2) g4⟩
 exact (Heap.get?_update_other _ _ (Ne.symm hb)).trans ((Heap.get?_update_other _ _ (Ne.symm hb)).trans (k2 b o hb e))
end
end L2
end
section
namespace L2
open PySem PySem.Spec PyProof.Rows
theorem Z8i:typeLookup (.type "list_reverseiterator") "__len__"=pure none:=by rw [typeLookup_type,builtinLookup_eq_fast]; kernel_rfl
theorem J1m:typeLookup (.type "list_reverseiterator") "__length_hint__"=pure (some (.builtin "list_reverseiterator.__length_hint__")):=by rw [typeLookup_type,builtinLookup_eq_fast]; kernel_rfl
theorem J0Z {P:Program} {w:World} {it:Addr} {St:Shared→Prop} (hT:∀ s,St s→s.TypeIs (.ref it) "list_reverseiterator"):J4G P w it St:=by
 intro A s Q E st q
 unfold Builtin.List.listLengthHint; refine wpAny_bind (wpAny_specialOf (hT s st) Z8i ?_)
 show wpAny (model P w) A (specialOf (Value.ref it) (Str.ofString "__length_hint__") >>= _) _ _ _
 refine wpAny_bind (wpAny_specialOf (hT s st) J1m ?_)
 generalize hi0:("list_reverseiterator.__length_hint__":String)=id0
 wp_delta
 rw [show splitId id0=some ("list_reverseiterator","__length_hint__") from by subst hi0; decide +kernel]
 subst hi0
 refine wpAny_bind (wpAny_isInstance (T:="list_reverseiterator") (b:=true) (hT s st) (by rw [isSubtype_type]; kernel_rfl) ?_)
 refine wpAny_ite_split (fun z=>absurd z (by decide)) (fun _=>?_)
 refine wpAny_ite_split (fun _=>?_) (fun z=>absurd rfl z)
 exact wpAny_ite_split (fun z=>absurd z (by decide +kernel)) (fun _=>wpAny_pure (q _))
def Itv (K:W.Frag) (l:Addr) (n:Nat):It:=
 ⟨fun i H=>i < n∧∃ xs,SqL K H l xs∧xs.length=n,fun i H v H'=>H'=H∧∀ xs,SqL K H l xs→xs[n - 1 - i]?=some v,fun i _=>i=n⟩
theorem J2j {P:Program} {w:World} {K:W.Frag} {tg:Expr} (l it:Addr) (n:Nat):Turn P w K tg (Itv K l n) [it] it (fun i h=>h.IsRevIter it l ((n:Int) - 1 - (i:Int))) where
 mem:=by simp
 obj:=fun i h st b hb=>by
  cases List.mem_singleton.mp hb
  obtain ⟨o,e,c,d⟩:=st
  exact ⟨o,e,fun v z=>by rw [d] at z; cases z⟩
 keep:=fun i h h' st k=>st.at fun o e=>k it (List.mem_singleton.mpr rfl) o e
 item:=by
  intro X hP hw hK hc i pins s σ H E I hf st hg
  subst hP hw hK
  obtain ⟨hi,xs,hq,hn⟩:=hg
  obtain ⟨its,rv,p,hz⟩:=I.list hq
  have hx:xs[n - 1 - i]?=some (xs[n - 1 - i]'(by omega)):=List.getElem?_eq_getElem (by omega)
  obtain ⟨u,hu,ru⟩:=rv.get hx
  obtain ⟨f0,f1,f2,f3,f4,f5⟩:=hf it (List.mem_singleton.mpr rfl)
  have e0:(n:Int) - 1 - (i:Int)=((n - 1 - i:Nat):Int):=by omega
  have e2:((n - 1 - i:Nat):Int) - 1=(n:Int) - 1 - ((i+1:Nat):Int):=by omega
  have st0:=st
  rw [e0] at st0
  refine wpAny_pyNext_rev_item st0 p.isList (x:=u) (by simpa using hu) fun h' st' sb=>?_
  have I1:Inv X pins σ H { s with heap:=h' }:=I.turned (t':=s.toks) (fun b o hb e=>(sb.2 b hb).trans e) f0 f1 f3 f4 f5
  rw [e2] at st'
  obtain ⟨o,e,c,d⟩:=id st'
  exact ⟨u,rfl,J0S (s:={ s with heap:=h' }) e c d (by decide) ⟨_,H,I1,ru,⟨rfl,fun ys hy=>by rw [I.list_inj hy hq]; exact hx⟩,st',fun b hb=>(hf b hb).1⟩⟩
 done:=by
  intro X hP hw hK hc i pins s σ H E I hf st hg
  subst hP hw hK
  cases (show i=n from hg)
  obtain ⟨f0,f1,f2,f3,f4,f5⟩:=hf it (List.mem_singleton.mpr rfl)
  have st0:=st
  rw [show (n:Int) - 1 - (n:Int)=-1 by omega] at st0
  exact wpAny_pyNext_rev_end (I.ok.hd hc) st0 fun h' eb=>⟨rfl,I.turned (t':=s.toks) (fun b o hb e=>eb b o hb e) f0 f1 f3 f4 f5⟩
 self:=fun _ _ _ _ _ st h=>wpAny_pyIter_revIter st h
section
variable {X:Cx} {tg:Expr}
def iRev (K:W.Frag) (ta:TA):TI:=fun σ H R=>ta σ H fun vs H1=>∃ a xs,vs=[.ref a]∧SqL K H1 a xs∧R (Itv K a xs.length) H1
theorem J8j {K:W.Frag} {ta:TA} {σ:St} {H:Hp} {R:It→Hp→Prop}:iRev K ta σ H R=ta σ H fun vs H1=>∃ a xs,vs=[.ref a]∧SqL K H1 a xs∧R (Itv K a xs.length) H1:=rfl
theorem J6m {a:Expr} {ta:TA} {p pos:Pos} (hg:Gl X "reversed") (hm:X.mg "reversed"=none) (hb:bootBuiltins "reversed"=some (.type "reversed")) (ha:PA X [a] ta) (hs:starEach [a] X.env=[(false,eval a X.env)]:=by rfl) :
  PI X tg (.Call (.Name "reversed" p) [a] [] pos) (iRev X.K ta):=by
 intro pins s σ H R I h
 refine Call_ (Z2y I hg hm hb (PyProof.Rows.callWith_type1 (thn (ha pos pins s σ H _ I h) fun us s1 ⟨vs,H1,I1,r1,q1⟩=>?_) hs rfl))
 obtain ⟨l,xs,e,hq,q⟩:=q1
 subst e
 obtain ⟨u,rfl,ru⟩:=r1.one
 cases ru
 obtain ⟨its,rv,pl,hz⟩:=I1.list hq
 have hl:=rv.length
 refine call_reversed_list pl.isList (wpAny_pyIter_revIter (it:=s1.heap.objs.size) (l:=l) (i:=(its.toArray.size:Int) - 1) ⟨_,Heap.get?_push_size _ rfl,rfl,rfl⟩ ?_)
 refine ⟨s1.heap.objs.size,[s1.heap.objs.size],_,_,H1,rfl,I1.kept (t':=s1.toks) fun b o e=>Heap.get?_push_of_some _ e,J2j l _ xs.length,?_,fun b hb=>?_,q⟩
 ·rw [show (xs.length:Int) - 1 - ((0:Nat):Int)=(its.toArray.size:Int) - 1 by rw [List.size_toArray]; omega]
  exact ⟨_,Heap.get?_push_size _ rfl,rfl,rfl⟩
 ·cases List.mem_singleton.mp hb
  exact I1.fpOk (Nat.le_refl _) (I1.hok.fresh (Nat.le_refl _))
def J5i (K:W.Frag) (ta:TA):TE:=fun σ H Q=>ta σ H fun vs H1=>∃ a xs,vs=[.ref a]∧SqL K H1 a xs∧∀ l,H1 l=none→Q (.ref l) (upd H1 l (.lst xs.reverse))
theorem J6w {K:W.Frag} {ta:TA} {σ:St} {H:Hp} {Q:VK}:J5i K ta σ H Q=ta σ H fun vs H1=>∃ a xs,vs=[.ref a]∧SqL K H1 a xs∧∀ l,H1 l=none→Q (.ref l) (upd H1 l (.lst xs.reverse)):=rfl
theorem Z8L {P:Program} {w:World} {A:Around} (hh:A.handled=none) {it Z l:Addr} {its:List Value} (s1:Shared) (hl:s1.heap.IsList l its.toArray) (hi:s1.heap.objs.size≤it) (hZ:s1.heap.objs.size≤Z) (hZi:Z≠it) :
  Z9a P w A it Z its.length (fun i acc s'=>∃ h' tk,s'={ s1 with heap:=h',toks:=tk }∧h'.IsRevIter it l ((its.length:Int) - 1 - (i:Int))∧(∀ b o,s1.heap.get? b=some o→h'.get? b=some o)∧acc.toList=its.reverse.take i∧i≤its.length)
   (fun acc s'=>∃ h' tk,s'={ s1 with heap:=h',toks:=tk }∧(∀ b o,s1.heap.get? b=some o→h'.get? b=some o)∧acc.toList=its.reverse) where
 item:=by
  rintro i acc s Q E hi' ⟨h',tk,rfl,st,k,ea,_⟩ q
  have e0:(its.length:Int) - 1 - (i:Int)=((its.length - 1 - i:Nat):Int):=by omega
  have e2:((its.length - 1 - i:Nat):Int) - 1=(its.length:Int) - 1 - ((i+1:Nat):Int):=by omega
  rw [e0] at st
  have hx:its.toArray[its.length - 1 - i]?=some (its[its.length - 1 - i]'(by omega)):=by simp
  refine wpAny_pyNext_rev_item st (hl.at fun o e=>k _ o e) hx fun h2 st2 sb=>q _ _ ⟨h2,tk,rfl,by rw [← e2]; exact st2,fun b o e=>(sb.2 b fun z=>?_).trans (k b o e),?_,hi'⟩ fun o e=>(sb.2 Z hZi).trans e
  ·exact absurd (Heap.lt_size e) (by rw [z]; exact Nat.not_lt.mpr hi)
  ·rw [Array.toList_push,ea,List.take_succ,List.getElem?_reverse hi',List.getElem?_eq_getElem (by omega)]
   rfl
 done:=by
  rintro acc s Q E ⟨h',tk,rfl,st,k,ea,_⟩ q
  rw [show (its.length:Int) - 1 - (its.length:Int)=-1 by omega] at st
  refine wpAny_pyNext_rev_end hh st fun h2 eb=>q _ ⟨h2,tk,rfl,fun b o e=>eb b o (fun z=>?_) (k b o e),?_⟩ fun o e=>eb Z o hZi e
  ·exact absurd (Heap.lt_size e) (by rw [z]; exact Nat.not_lt.mpr hi)
  ·rw [ea,List.take_of_length_le (by rw [List.length_reverse]; exact Nat.le_refl _)]
 size:=by
  rintro i acc s ⟨h',tk,rfl,st,k,ea,hi'⟩
  rw [← Array.length_toList,ea,List.length_take,List.length_reverse]; exact Nat.min_eq_left hi'
 frame:=by
  rintro i acc s h2 ⟨h',tk,rfl,st,k,ea,hi'⟩ kz _
  exact ⟨h2,tk,rfl,st.at fun o e=>kz it o (Ne.symm hZi) e,fun b o e=>kz b o (fun z=>absurd (Heap.lt_size e) (by rw [z]; exact Nat.not_lt.mpr hZ)) (k b o e),ea,hi'⟩
theorem J4h {x1:Expr} {ta:TA} {p p2 pos pos2:Pos} (hc:X.calm=true) (hg:Gl X "list") (hg2:Gl X "reversed") (hm:X.mg "list"=none) (hm2:X.mg "reversed"=none) (ha:PA X [x1] ta)
  (hs:starEach [x1] X.env=[(false,eval x1 X.env)]:=by rfl) (hs2:starEach [.Call (.Name "reversed" p2) [x1] [] pos2] X.env=[(false,eval (.Call (.Name "reversed" p2) [x1] [] pos2) X.env)]:=by rfl) :
  PE X (.Call (.Name "list" p) [.Call (.Name "reversed" p2) [x1] [] pos2] [] pos) (J5i X.K ta):=by
 intro pins s σ H Q I h
 refine Call_ (Z2y I hg hm rfl (PyProof.Rows.callWith_type1 ?_ hs2 rfl))
 rw [hs2]
 show wpAny (model X.prog X.w) X.A (spliced ((false,eval (.Call (.Name "reversed" p2) [x1] [] pos2) X.env)::backTo pos [])) _ _ s; refine Calls.spliced_cons ?_
 refine Call_ (Z2y I hg2 hm2 rfl (PyProof.Rows.callWith_type1 (thn (ha pos2 pins s σ H _ I h) fun us s1 hz=>?_) hs rfl))
 obtain ⟨vs,H1,I1,r1,l,xs,rfl,hq,q⟩:=hz
 obtain ⟨u,rfl,ru⟩:=r1.one
 cases ru
 obtain ⟨its,rv,pl,hz⟩:=I1.list hq
 have hl:=rv.length
 obtain ⟨ol,gl,_⟩:=id pl.isList
 refine call_reversed_list pl.isList (Calls.spliced_nil ?_)
 have ez:(s1.heap.push (revObj l ((its.toArray.size:Int) - 1))).objs.size=s1.heap.objs.size+1:=Heap.size_push ..
 have g0:∀ o,((s1.heap.push (revObj l ((its.toArray.size:Int) - 1))).push o).IsRevIter s1.heap.objs.size l ((its.length:Int) - 1 - ((0:Nat):Int)):=fun o=>by
  rw [show (its.length:Int) - 1 - ((0:Nat):Int)=(its.toArray.size:Int) - 1 by rw [List.size_toArray]; omega]
  exact ⟨_,Heap.get?_push_of_some _ (Heap.get?_push_size _ rfl),rfl,rfl⟩
 refine J0r (n:=its.length) (T:="list_reverseiterator") (fun s' z=>?_) (by decide) (by decide) (by rw [ez]; exact Nat.succ_ne_self _)
  (Z8L (show X.A.in1.in1.handled=none from I1.ok.hd hc) (it:=s1.heap.objs.size) (l:=l) s1 pl.isList (Nat.le_refl _) (by rw [ez]; exact Nat.le_succ _) (by rw [ez]; exact Nat.succ_ne_self _)) (fun A s' Q' E' z hq'=>?_) (J0Z fun s' z=>?_)
  ⟨_,_,rfl,g0 _,fun b o e=>Heap.get?_push_of_some _ (Heap.get?_push_of_some _ e),rfl,Nat.zero_le _⟩ (fun s' acc c fin g sz=>?_) (by rw [← hl]; exact hz)
 ·obtain ⟨h',tk,rfl,st,_⟩:=z
  exact st.typeIs
 ·obtain ⟨h',tk,rfl,st,_⟩:=z
  exact wpAny_pyIter_revIter st hq'
 ·obtain ⟨h',tk,rfl,st,_⟩:=z
  exact st.typeIs
 ·obtain ⟨h',tk,rfl,k,ea⟩:=fin
  have eacc:acc=its.reverse.toArray:=by rw [← ea]
  subst eacc
  refine ⟨.ref _,upd H1 _ (.lst xs.reverse),I1.laid (t':=tk) k (by rw [ez]; exact Nat.le_succ _) (show ObjOk X.prog X.w _ h' _ (.lst xs.reverse) from ⟨by rw [List.length_reverse]; exact hz,its.reverse,c,rv.reverse,g⟩),rfl,q _ (I1.hok.fresh (by rw [ez]; exact Nat.le_succ _))⟩
end
end L2
end
section
namespace L2
open PySem PySem.Spec PyProof.Rows
section
variable {P:Program} {w:World} {A:Around} {E:Value→Shared→Prop} {s:Shared}
end
theorem apart {n a b:Nat} (h:a≠b):n+a≠n+b:=fun e=>h (Nat.add_left_cancel e)
section
variable {X:Cx} {pins:List (Addr×Obj)} {σ:St} {H1:Hp} {s1:Shared} {l1 l2:Addr} {xs ys:List V}
def J7N (K:W.Frag) (t:TA):TE:=fun σ H Q=>t σ H fun vs H1=>∃ a b xs ys,vs=[.ref a,.ref b]∧SqL K H1 a xs∧SqL K H1 b ys∧∀ l zs H2,H1 l=none→Same H1 H2→H2 l=some (.lst zs)→zs.length=min xs.length ys.length →
 (∀ (k:Nat) v,zs[k]?=some v→∃ T x y,v=.ref T∧xs[k]?=some x∧ys[k]?=some y∧H2 T=some (.tup [x,y]))→Q (.ref l) H2
theorem J6s {K:W.Frag} {t:TA} {σ:St} {H:Hp} {Q:VK}:J7N K t σ H Q=t σ H fun vs H1=>∃ a b xs ys,vs=[.ref a,.ref b]∧SqL K H1 a xs∧SqL K H1 b ys∧∀ l zs H2,H1 l=none→Same H1 H2→H2 l=some (.lst zs)→zs.length=min xs.length ys.length →
 (∀ (k:Nat) v,zs[k]?=some v→∃ T x y,v=.ref T∧xs[k]?=some x∧ys[k]?=some y∧H2 T=some (.tup [x,y]))→Q (.ref l) H2:=rfl
end
end L2
end
section
namespace L2
open PySem PySem.Spec PyProof.Rows
theorem Z3K (ys:List Int):∀ n,n≤ys.length→preSum (fun i=>ys.getD i 0) n=(ys.take n).sum
 | 0,_=>by simp [preSum]
 | n+1,h=>by
  rw [preSum,Z3K ys n (by omega),List.take_succ_eq_append_getElem (by omega),List.sum_append]
  simp [List.getD_eq_getElem?_getD,List.getElem?_eq_getElem (show n < ys.length by omega)]
theorem J1G {X:Cx} (hc:X.calm=true):Z3N X (.builtin "sum") (fun xs H Q=>∃ (p:Addr) (ys:List Int),xs=[.ref p]∧SqL X.K H p (ys.map V.int)∧Q (.int ys.sum) H):=by
 intro pins s σ H xs us Q I r h
 obtain ⟨p,ys,rfl,hq,q⟩:=h
 obtain ⟨u,rfl,ru⟩:=r.one
 cases ru
 obtain ⟨its,rv,pl,hz⟩:=I.list hq
 obtain ⟨o,ho,_,_,_⟩:=id pl.isList
 have hne:p≠s.heap.objs.size:=Nat.ne_of_lt (Heap.lt_size ho)
 have hl:=rv.length
 rw [List.length_map] at hl
 refine call_sum_walkG (wpAny_pyIter_list pl.isList ?_)
 refine ⟨s.heap.objs.size,_,_,_,_,_,fun i=>ys.getD i 0,rfl,Walks.list (A:=X.A.in1) (show X.A.in1.handled=none from I.ok.hd hc) _ p hne its.toArray,⟨⟨_,Heap.get?_push_size _ rfl,rfl,rfl⟩,pl.isList.at fun o e=>Heap.get?_push_of_some _ e⟩,fun b hb=>?_,fun i v hv=>?_,fun h' tk t' kk=>?_⟩
 ·have lt:p < s.heap.objs.size:=Heap.lt_size ho
  have e:b=s.heap.objs.size∨b=p:=by simpa using hb
  show b < (s.heap.objs.push _).size
  rw [Array.size_push]
  rcases e with e | e
  ·rw [e]; exact Nat.lt_succ_self _
  ·rw [e]; exact Nat.lt_succ_of_lt lt
 ·have hv':its[i]?=some v:=by simpa using hv
  have hi:i < ys.length:=by
   have:=(List.getElem?_eq_some_iff.mp hv').1
   omega
  obtain ⟨u',e',r'⟩:=rv.get (i:=i) (x:=V.int ys[i]) (by rw [List.getElem?_map,List.getElem?_eq_getElem hi]; rfl)
  rw [hv'] at e'
  cases e'
  obtain ⟨t,rfl⟩:=(show ∃ t,_=Value.int ys[i] t from r')
  exact ⟨t,by simp [List.getD_eq_getElem?_getD,List.getElem?_eq_getElem hi]⟩
 ·have e:preSum (fun i=>ys.getD i 0) its.toArray.size=ys.sum:=by
   rw [List.size_toArray,← hl,Z3K ys _ (Nat.le_refl _),List.take_length]
  refine ⟨.int ys.sum,H,I.kept fun b o e=>kk b o (fun z=>?_) (Heap.get?_push_of_some _ e),by rw [e]; exact ⟨_,rfl⟩,q⟩
  have z':b=s.heap.objs.size:=by simpa using z
  exact absurd (Heap.lt_size e) (by rw [z']; exact Nat.lt_irrefl _)
end L2
end
section
namespace L2
open PySem PySem.Spec PyProof.Rows
section
variable {P:Program} {w:World} {B:Around} {R:Result→Shared→Prop} {it:Addr} {fp wr:List Addr} {n:Nat} {Y:Nat→Value→Prop} {St:Nat→Heap→Prop}
theorem Z3F:(toString "max"++toString ".loop":String)="max.loop":=by decide
theorem J1b (kw:List (Str×Value)) (W:Walks P w B.in1 it fp wr n Y St) (bt:Nat→Nat→Bool) (hc:CmpOf P w B.in1 .Gt Y bt) (Z:Addr) (hZ:Z∉fp) :
  ∀ (k j:Nat) (s:Shared) (u:Value) (c:Nat),n - (j+1)=k→j+1≤n→St (j+1) s.heap→Y (argBest bt j) u→s.heap.get? Z=some { cls:=.type "list",dict:=none,data:=.seq #[u,u] c,slots:=#[] } →
  (∀ v h' tk,Y (argBest bt (n - 1)) v→(∀ b o,b∉wr→b≠Z→s.heap.get? b=some o→h'.get? b=some o)→R (.ok (.ret v)) { s with heap:=h',toks:=tk }) →
  codeAny (model P w) B (.builtin "max.loop" ⟨[.ref it,.none,.ref Z],kw⟩) R s:=by
 have hZw:Z∉wr:=fun z=>hZ (W.sub _ z)
 intro k
 induction k with
 | zero=>
  intro j s u c hk hj st hu gZ q
  have ej:j+1=n:=Nat.le_antisymm hj (Nat.sub_eq_zero_iff_le.mp hk)
  refine codeAny_builtin F.entry_max_loop ?_; rw [Around.under_plainId F.plain_max_loop ⟨[.ref it,.none,.ref Z],kw⟩]
  show wpAny (model P w) B.in1 (seqItems? (.ref Z) >>= _) _ _ s; refine wpAny_bind (wpAny_seqItems gZ rfl ?_)
  show wpAny (model P w) B.in1 (tryCatch (pyNext (.ref it)) _ >>= _) _ _ s; refine wpAny_bind (wpAny_tryCatch (W.done s _ _ (ej▸st) fun h1 tk k1=>?_))
  have gZ1:=k1 Z _ hZw gZ
  show wpAny (model P w) B.in1 (updateSeq Z (fun _=>#[]) >>= _) _ _ _; refine wpAny_bind (wpAny_updateSeq gZ1 rfl (wpAny_bind (wpAny_letGo (wpAny_pure ?_))))
  exact q u _ tk (by rw [← ej]; exact hu) fun b o hb hbZ e=>(Heap.get?_update_other _ _ (Ne.symm hbZ)).trans (k1 b o hb e)
 | succ k ih=>
  intro j s u c hk hj st hu gZ q
  have lt:j+1 < n:=by omega
  refine codeAny_builtin F.entry_max_loop ?_; rw [Around.under_plainId F.plain_max_loop ⟨[.ref it,.none,.ref Z],kw⟩]
  show wpAny (model P w) B.in1 (seqItems? (.ref Z) >>= _) _ _ s; refine wpAny_bind (wpAny_seqItems gZ rfl ?_)
  show wpAny (model P w) B.in1 (tryCatch (pyNext (.ref it)) _ >>= _) _ _ s; refine wpAny_bind (wpAny_tryCatch (W.item (j+1) s _ _ lt st fun v h1 tk hv st1 k1=>?_))
  have gZ1:=k1 Z _ hZw gZ
  show wpAny (model P w) B.in1 (tryCatch (holding [v,v] (richCompare .Gt v u >>= _)) _ >>= _) _ _ _; refine wpAny_bind (wpAny_tryCatch (wpAny_holding (wpAny_bind (hc (j+1) (argBest bt j) v u _ _ _ hv hu ?_))))
  refine wpAny_bind (wpAny_holding (wpAny_truthy_bool (wpAny_bind (wpAny_letGo (wpAny_pure ?_)))))
  cases hbt:bt (j+1) (argBest bt j) with
  | true=>
   rw [if_pos rfl]; refine wpAny_bind (wpAny_updateSeq gZ1 rfl (wpAny_bind (wpAny_letGo ?_)))
   rw [Z3F]; refine wpAny_pure ⟨plainId_quiet F.plain_max_loop ⟨[.ref it,.none,.ref Z],kw⟩,ih (j+1) _ v _ (by omega) lt (W.frame _ _ _ st1 fun b hbf o e=>?_) (by rw [argBest,hbt,if_pos rfl]; exact hv) (Heap.get?_update_self _ gZ1 rfl) fun v' h2 tk2 hv' k2=>?_⟩
   ·exact (Heap.get?_update_other _ _ (fun z:Z=b=>hZ (z▸hbf))).trans e
   ·exact q v' h2 tk2 hv' fun b o hbw hbZ e=>k2 b o hbw hbZ ((Heap.get?_update_other _ _ (Ne.symm hbZ)).trans (k1 b o hbw e))
  | false=>
   rw [if_neg Bool.false_ne_true]; refine wpAny_bind (wpAny_letGo ?_)
   rw [Z3F]; refine wpAny_pure ⟨plainId_quiet F.plain_max_loop ⟨[.ref it,.none,.ref Z],kw⟩,ih (j+1) _ u c (by omega) lt st1 (by rw [argBest,hbt,if_neg Bool.false_ne_true]; exact hu) gZ1 fun v' h2 tk2 hv' k2=>?_⟩
   exact q v' h2 tk2 hv' fun b o hbw hbZ e=>k2 b o hbw hbZ (k1 b o hbw e)
end
theorem Z9t (a d:Value):argsOk "max" ⟨[a],[(Str.ofString "default",d)]⟩:=by unfold argsOk; kernel_rfl
section
variable {P:Program} {w:World} {A:Around} {E:Value→Shared→Prop} {s:Shared}
def Z6C (ys:List Int) (m:Int):Prop:=m∈ys∧∀ a∈ys,a≤m
theorem J0J {ys:List Int} (h:0 < ys.length):Z6C ys (ys.getD (argBest (fun i j=>decide (ys.getD i 0 > ys.getD j 0)) (ys.length - 1)) 0):=by
 obtain ⟨a,b⟩:=argBest_gt (fun i=>ys.getD i 0) (ys.length - 1)
 refine ⟨?_,fun x hx=>?_⟩
 ·have lt:argBest (fun i j=>decide (ys.getD i 0 > ys.getD j 0)) (ys.length - 1) < ys.length:=by omega
  rw [List.getD_eq_getElem?_getD,List.getElem?_eq_getElem lt]
  exact List.getElem_mem lt
 ·obtain ⟨j,hj,e⟩:=List.getElem_of_mem hx
  have:=b j (by omega)
  rw [List.getD_eq_getElem?_getD,List.getElem?_eq_getElem hj] at this
  rw [← e]; exact this
theorem Z9O {l it:Addr} {its:List Value} {ys:List Int} (hh:A.handled=none) (hl:ys.length=its.length) (hv:∀ (i:Nat) (v:Value),its[i]?=some v→∃ t,v=Value.int (ys.getD i 0) t) (hne:l≠it) :
  Walks P w A it [it,l] [it] its.toArray.size (fun i v=>its.toArray[i]?=some v) (fun i h=>h.IsListIter it l i∧h.IsList l its.toArray)∧CmpOf P w A .Gt (fun i v=>its.toArray[i]?=some v) (fun i j=>decide (ys.getD i 0 > ys.getD j 0)):=
 ⟨Walks.list hh it l hne its.toArray,CmpOf.ints_gt (fun i=>ys.getD i 0) fun i v h=>hv i v (by simpa using h)⟩
theorem J0W {l:Addr} {its:List Value} {ys:List Int} {d:Value} {Q:Value→Shared→Prop} (hh:A.handled=none) (pl:s.heap.IsList l its.toArray) (hlen:ys.length=its.length) (hv:∀ (i:Nat) (v:Value),its[i]?=some v→∃ t,v=Value.int (ys.getD i 0) t)
  (q:∀ v h' tk,(ys=[]→v=d)→(ys≠[]→∃ m t,v=.int m t∧Z6C ys m)→(∀ b o,s.heap.get? b=some o→h'.get? b=some o)→Q v { s with heap:=h',toks:=tk }) :
  wpAny (model P w) A (call (.builtin "max") [.ref l] [(Str.ofString "default",d)]) Q E s:=by
 obtain ⟨ol,gl,_⟩:=id pl
 have ll:l < s.heap.objs.size:=Heap.lt_size gl
 refine PyProof.Rows.kmk_tree PySem.F.kind_max PySem.F.plain_max PySem.F.entry_max (Z9t _ _) ?_
 show wpAny (model P w) A.in1 (Builtin.Builtins.bindParams "max" ["key","default"] 0 ⟨[],[(Str.ofString "default",d)]⟩ >>= _) _ _ s
 refine wpAny_bind (wpAny_of_eq (show Builtin.Builtins.bindParams "max" ["key","default"] 0 ⟨[],[(Str.ofString "default",d)]⟩=pure [none,some d] from rfl) (wpAny_bind (wpAny_pure ?_)))
 refine wpAny_bind (wpAny_pyIter_list pl (wpAny_bind (wpAny_newObj_type ?_)))
 rw [Z3F]
 have g1:((s.heap.push { cls:=.type "list_iterator",data:=.fields #[.ref l,.int 0 0] }).push { cls:=.type "list",data:=.seq #[] }).IsListIter s.heap.objs.size l 0:=⟨_,Heap.get?_push_of_some _ (Heap.get?_push_size _ rfl),rfl,rfl⟩
 have g2:((s.heap.push { cls:=.type "list_iterator",data:=.fields #[.ref l,.int 0 0] }).push { cls:=.type "list",data:=.seq #[] }).IsList l its.toArray:=pl.at fun o e=>Heap.get?_push_of_some _ (Heap.get?_push_of_some _ e)
 have g3:((s.heap.push { cls:=.type "list_iterator",data:=.fields #[.ref l,.int 0 0] }).push { cls:=.type "list",data:=.seq #[] }).get? (s.heap.objs.size+1)=some { cls:=.type "list",dict:=none,data:=.seq #[] 0,slots:=#[] }:=by
  rw [show s.heap.objs.size+1=(s.heap.push { cls:=.type "list_iterator",data:=.fields #[.ref l,.int 0 0] }).objs.size from (Heap.size_push ..).symm]; exact Heap.get?_push_size _ rfl
 have k3:∀ b o,s.heap.get? b=some o→((s.heap.push { cls:=.type "list_iterator",data:=.fields #[.ref l,.int 0 0] }).push { cls:=.type "list",data:=.seq #[] }).get? b=some o:=fun b o e=>Heap.get?_push_of_some _ (Heap.get?_push_of_some _ e)
 rw [show (s.heap.push { cls:=.type "list_iterator",data:=.fields #[.ref l,.int 0 0] }).objs.size=s.heap.objs.size+1 from Heap.size_push ..]
 generalize (s.heap.push { cls:=.type "list_iterator",data:=.fields #[.ref l,.int 0 0] }).push { cls:=.type "list",data:=.seq #[] }=h3 at *
 refine wpAny_pure ⟨plainId_quiet F.plain_max_loop _,?_⟩
 obtain ⟨W,hc⟩:=Z9O (P:=P) (w:=w) (A:=A.in1) (it:=s.heap.objs.size) (l:=l) (its:=its) (ys:=ys) hh hlen hv (Nat.ne_of_lt ll)
 have hZ:s.heap.objs.size+1∉[s.heap.objs.size,l]:=fun z=>by
  rcases List.mem_cons.mp z with z | z
  ·omega
  ·exact absurd ll (by rw [← List.mem_singleton.mp z]; exact Nat.not_lt.mpr (Nat.le_succ _))
 refine codeAny_builtin F.entry_max_loop ?_; rw [Around.under_plainId F.plain_max_loop _]
 show wpAny (model P w) A.in1 (seqItems? (.ref (s.heap.objs.size+1)) >>= _) _ _ _; refine wpAny_bind (wpAny_seqItems g3 rfl ?_)
 show wpAny (model P w) A.in1 (tryCatch (pyNext (.ref s.heap.objs.size)) _ >>= _) _ _ _
 by_cases hy:ys=[]
 ·have hn:its.toArray.size=0:=by rw [List.size_toArray,← hlen,hy]; rfl
  have st:(fun i (h:Heap)=>h.IsListIter s.heap.objs.size l i∧h.IsList l its.toArray) its.toArray.size h3:=by rw [hn]; exact ⟨g1,g2⟩
  refine wpAny_bind (wpAny_tryCatch (W.done _ _ _ st fun h4 tk k4=>?_))
  refine wpAny_bind (wpAny_rule (wpAny_pure ?_)); exact q d h4 tk (fun _=>rfl) (fun z=>absurd hy z) fun b o e=>k4 b o (fun z=>absurd (Heap.lt_size e) (by rw [List.mem_singleton.mp z]; exact Nat.lt_irrefl _)) (k3 b o e)
 ·have hp:0 < ys.length:=List.length_pos_iff.mpr hy
  have hn:0 < its.toArray.size:=by rw [List.size_toArray,← hlen]; exact hp
  refine wpAny_bind (wpAny_tryCatch (W.item 0 _ _ _ hn ⟨g1,g2⟩ fun v h4 tk hv4 st4 k4=>?_))
  have g4:=k4 _ _ (fun z=>hZ (List.mem_cons.mpr (.inl (List.mem_singleton.mp z)))) g3
  refine wpAny_bind (wpAny_pure (wpAny_bind (wpAny_updateSeq g4 rfl ?_)))
  rw [Z3F]
  refine wpAny_pure ⟨plainId_quiet F.plain_max_loop _,J1b _ W _ hc _ hZ (its.toArray.size - 1) 0 _ v _ rfl hn (W.frame _ _ _ st4 fun b hb o e=>?_) hv4 (Heap.get?_update_self _ g4 rfl) fun u h5 tk5 hu k5=>?_⟩
  ·exact (Heap.get?_update_other _ _ (fun z:s.heap.objs.size+1=b=>hZ (z▸hb))).trans e
  ·obtain ⟨t,rfl⟩:=hv (argBest (fun i j=>decide (ys.getD i 0 > ys.getD j 0)) (its.toArray.size - 1)) _ (by rw [← List.getElem?_toArray]; exact hu)
   refine q _ h5 tk5 (fun z=>absurd z hy) (fun _=>⟨_,t,rfl,?_⟩) fun b o e=>?_
   ·have:=J0J hp
    rw [List.size_toArray,← hlen]; exact this
   ·have lt:=Heap.lt_size e
    have n1:b∉[s.heap.objs.size]:=fun z=>absurd lt (by rw [List.mem_singleton.mp z]; exact Nat.lt_irrefl _)
    exact k5 b o n1 (Nat.ne_of_lt (Nat.lt_succ_of_lt lt)) ((Heap.get?_update_other _ _ (Nat.ne_of_gt (Nat.lt_succ_of_lt lt))).trans (k4 b o n1 (k3 b o e)))
end
section
variable {X:Cx}
theorem J1W {its:List Value} {ys:List Int} (rv:Vals (ys.map V.int) its):ys.length=its.length∧∀ (i:Nat) (v:Value),its[i]?=some v→∃ t,v=Value.int (ys.getD i 0) t:=by
 have hl:=rv.length
 rw [List.length_map] at hl
 refine ⟨hl,fun i v h=>?_⟩
 have hi:i < ys.length:=by rw [hl]; exact (List.getElem?_eq_some_iff.mp h).1
 obtain ⟨u,e,r⟩:=rv.get (i:=i) (x:=V.int ys[i]) (by rw [List.getElem?_map,List.getElem?_eq_getElem hi]; rfl)
 rw [h] at e
 cases e
 obtain ⟨t,rfl⟩:=(show ∃ t,_=Value.int ys[i] t from r)
 exact ⟨t,by rw [List.getD_eq_getElem?_getD,List.getElem?_eq_getElem hi]; rfl⟩
def J7B (K:W.Frag):List V→Hp→VK→Prop:=fun xs H Q=>∃ (p:Addr) (ys:List Int),xs=[.ref p]∧SqL K H p (ys.map V.int)∧ys≠[]∧∀ m,Z6C ys m→Q (.int m) H
def J5b (K:W.Frag) (t tk:TA):TE:=fun σ H Q=>t σ H fun vs H1=>tk σ H1 fun zs H2=>∃ (p:Addr) (ys:List Int) (d:Int),vs=[.ref p]∧zs=[.int d]∧SqL K H2 p (ys.map V.int)∧∀ m,(ys=[]→m=d)→(ys≠[]→Z6C ys m)→Q (.int m) H2
theorem J7i {K:W.Frag} {t tk:TA} {σ:St} {H:Hp} {Q:VK}:J5b K t tk σ H Q=t σ H fun vs H1=>tk σ H1 fun zs H2=>∃ (p:Addr) (ys:List Int) (d:Int),vs=[.ref p]∧zs=[.int d]∧SqL K H2 p (ys.map V.int)∧∀ m,(ys=[]→m=d)→(ys≠[]→Z6C ys m)→Q (.int m) H2:=rfl
theorem J7d {K:W.Frag} {xs:List V} {H:Hp} {Q:VK}:J7B K xs H Q=∃ (p:Addr) (ys:List Int),xs=[.ref p]∧SqL K H p (ys.map V.int)∧ys≠[]∧∀ m,Z6C ys m→Q (.int m) H:=rfl
theorem J3h {e x1:Expr} {t tk:TA} {p pos kp:Pos} (hc:X.calm=true) (hg:Gl X "max") (hm:X.mg "max"=none) (hb:bootBuiltins "max"=some (.builtin "max")) (ha:PA X [e] t) (hk:PK X [⟨some "default",x1,kp⟩] tk)
  (he:backTo pos (starEach [e] X.env)=(false,eval e X.env)::backTo pos (starEach [] X.env):=by rfl) (hpl:(backTo pos (starEach [e] X.env)).any (·.1)=false:=by rfl)
  (hn:("max":Str)≠"__name__":=by decide) (hdb:(("max":Str) == ("__debug__":Str))=false:=by decide):PE X (.Call (.Name "max" p) [e] [⟨some "default",x1,kp⟩] pos) (J5b X.K t tk):=by
 intro pins s σ H Q I h
 refine wpAny_Call_Name_kw (Z2y I hg hm hb ?_ hn hdb)
 refine PyProof.Rows.callWith_kw (thn (ha pos pins s σ H _ I h) fun us s1 ⟨vs,H1,I1,r1,q1⟩=>thn (hk pos pins s1 σ H1 _ I1 q1) fun ws s2 hz=>?_) he hpl rfl rfl
 obtain ⟨zs,H2,I2,r2,l,ys,d,rfl,rfl,hq,q⟩:=hz
 obtain ⟨u,rfl,ru⟩:=r1.one
 cases ru
 obtain ⟨z,rfl,rz⟩:=r2.one
 obtain ⟨its,rv,pl,hz⟩:=I2.list hq
 obtain ⟨hl,hv⟩:=J1W rv
 refine J0W (I2.ok.hd hc) pl.isList hl hv fun v h' tk hd hx k=>?_
 obtain ⟨tz,rfl⟩:=(show ∃ t,z=Value.int d t from rz)
 by_cases hy:ys=[]
 ·cases hd hy
  exact ⟨.int d,H2,I2.kept k,⟨_,rfl⟩,q d (fun _=>rfl) fun z=>absurd hy z⟩
 ·obtain ⟨m,t,rfl,im⟩:=hx hy
  exact ⟨.int m,H2,I2.kept k,⟨_,rfl⟩,q m (fun z=>absurd z hy) fun _=>im⟩
end
end L2
end
section
namespace L2
open PySem PySem.Spec PyProof.Rows PySem.SeqAt
def rNeN (K:W.Frag):R2:=fun x y H Q=>∃ a xs b,x=.ref a∧y=.ref b∧SqL K H a xs∧SqL K H b []∧Q (.bl (!xs.isEmpty)) H
def rEqN (K:W.Frag):R2:=fun x y H Q=>∃ a xs b,x=.ref a∧y=.ref b∧SqL K H a xs∧SqL K H b []∧Q (.bl xs.isEmpty) H
theorem J7J {K:W.Frag} {x y:V} {H:Hp} {Q:VK}:rNeN K x y H Q=∃ a xs b,x=.ref a∧y=.ref b∧SqL K H a xs∧SqL K H b []∧Q (.bl (!xs.isEmpty)) H:=rfl
theorem J8v {K:W.Frag} {x y:V} {H:Hp} {Q:VK}:rEqN K x y H Q=∃ a xs b,x=.ref a∧y=.ref b∧SqL K H a xs∧SqL K H b []∧Q (.bl xs.isEmpty) H:=rfl
section
variable {X:Cx}
theorem J6i (hu:X.A.units+64 < cLine):OpR X (compareOp .Eq) (rEqN X.K):=by
 intro pins s σ H x y v u Q I rx ry h
 obtain ⟨a,xs,b,rfl,rfl,ha,hb,q⟩:=h
 cases rx
 cases ry
 obtain ⟨its,rv,pl,_⟩:=I.list ha
 obtain ⟨its2,rv2,pl2,_⟩:=I.list hb
 cases rv2.zero
 cases xs with
 | nil=>
  cases rv.zero
  exact RcAt.lists (e:=fun _=>true) pl.isList pl2.isList rfl (Nat.lt_of_le_of_lt (Nat.le_add_right _ _) hu) (fun j h=>absurd h (Nat.not_lt_zero _)) X.prog X.w X.xe _ ⟨.bl true,H,I,rfl,q⟩
 | cons x xs=>
  have hl:=rv.length
  refine RcAt.lists_lengths pl.isList pl2.isList ?_ (Nat.lt_of_le_of_lt (Nat.le_add_right _ _) hu) X.prog X.w X.xe _ ⟨.bl false,H,I,rfl,q⟩
  rw [List.size_toArray,← hl]; rfl
end
theorem Z5c {J:It} {te:TE} {Q:VK} {H0:Hp} {D:Addr} {n:Nat} {σ0:St} (v0:Option V) (rest:St) (Pv:Nat→V→Prop) (W:Nat→List V→Hp→Prop) (e0:σ0=v0::rest) (hz:n≤sizeLine) (h0:W 0 [] (upd H0 D (.lst [])))
  (hgo:∀ i vs H,i < n→W i vs H→J.go i H∧∀ x H2,J.yld i H x H2→H2=H∧Pv i x) (hstop:∀ vs H,W n vs H→J.stop n H)
  (he:∀ i x vs H (K':VK),i < n→Pv i x→W i vs H→H D=some (.lst vs)→(∀ v H2,H2 D=some (.lst vs)→W (i+1) (vs++[v]) (upd H2 D (.lst (vs++[v])))→K' v H2)→te (some x::rest) H K')
  (hQ:∀ vs H,W n vs H→H D=some (.lst vs)→vs.length=n→Q (.ref D) H):Z3y J (Z3b 0) Z2K te D Q σ0 (upd H0 D (.lst [])):=by
 refine ⟨fun i m σ' H'=>m=n - i∧i≤n∧(∃ v,σ'=v::rest)∧∃ vs,H' D=some (.lst vs)∧vs.length=i∧W i vs H',⟨n,by simp,Nat.zero_le _,⟨v0,e0⟩,[],Z0e,rfl,h0⟩,?_⟩
 rintro i m σ' H' ⟨rfl,hi,⟨v,rfl⟩,vs,hv,hl,hw⟩
 by_cases hlt:i < n
 ·obtain ⟨go,yl⟩:=hgo i vs H' hlt hw
  refine .inr ⟨go,fun σ2 H2=>(∃ v,σ2=v::rest)∧∃ vs,H2 D=some (.lst vs)∧vs.length=i+1∧W (i+1) vs H2,fun σ2 H2 ⟨a,b⟩=>⟨n - (i+1),by omega,rfl,hlt,a,b⟩,fun x H2 hx=>?_⟩
  obtain ⟨e1,px⟩:=yl x H2 hx
  subst e1
  unfold Z3b Z2K
  rw [List.set_cons_zero]
  refine iteT (he i x vs _ _ hlt px hw hv fun v H3 h3 hw3=>?_)
  exact ⟨vs,h3,by omega,⟨_,rfl⟩,_,Z0e,by rw [List.length_append,hl]; rfl,hw3⟩
 ·have e:i=n:=by omega
  subst e
  exact .inl ⟨hstop vs H' hw,hQ vs H' hw hv hl⟩
def J5D (K:W.Frag) (te:TE) (tst:TO):TE:=fun σ H Q=>te σ H fun x H1=>tst σ H1 fun o H2=>o=some (-1)∧∃ a xs,x=.ref a∧SqL K H2 a xs∧∀ l,H2 l=none→Q (.ref l) (upd H2 l (.lst xs.reverse))
theorem J7f {K:W.Frag} {te:TE} {tst:TO} {σ:St} {H:Hp} {Q:VK}:J5D K te tst σ H Q=te σ H fun x H1=>tst σ H1 fun o H2=>o=some (-1)∧∃ a xs,x=.ref a∧SqL K H2 a xs∧∀ l,H2 l=none→Q (.ref l) (upd H2 l (.lst xs.reverse)):=rfl
theorem Z7R {items:Array Value}:∀ k:Nat,k≤items.size→((List.range k).map fun i:Nat=>items.size - 1 - i).filterMap (items[·]?)=items.toList.reverse.take k
 | 0,_=>by simp
 | k+1,h=>by
  have ih:=Z7R (items:=items) k (by omega)
  rw [List.range_succ,List.map_append,List.filterMap_append,ih,List.take_add_one,List.getElem?_reverse (by rw [Array.length_toList]; exact h)]
  congr 1
  simp only [List.map_cons,List.map_nil,Array.getElem?_toList,Array.length_toList]
  cases h2:items[items.size - 1 - k]? <;> simp [h2]
theorem Z4T (items:Array Value):slicePick items none none (some (-1))=items.toList.reverse.toArray:=by
 have e:sliceBounds none none (some (-1)) items.size=((items.size:Int) - 1,-1,-1):=by
  simp [sliceBounds]
 have e2:sliceRange ((items.size:Int) - 1) (-1) (-1)=(List.range items.size).map fun i:Nat=>items.size - 1 - i:=by
  unfold sliceRange
  have ec:(if (-1:Int) > 0 then (if (items.size:Int) - 1 < -1 then (-1 - ((items.size:Int) - 1)+-1 - 1) / -1 else 0) else (if (items.size:Int) - 1 > -1 then ((items.size:Int) - 1 - -1 - -1 - 1) / - -1 else 0)).toNat=items.size:=by
   rw [if_neg (by decide)]
   split
   ·rw [show - -1=(1:Int) by decide,Int.ediv_one]; omega
   ·omega
  show List.map _ (List.range (Int.toNat _))=_
  rw [ec]
  refine List.map_congr_left fun k hk=>?_
  have:=List.mem_range.mp hk
  omega
 unfold slicePick
 rw [e]
 simp only
 rw [e2,Z7R _ (Nat.le_refl _),List.take_of_length_le (by simp)]
theorem J4i {X:Cx} {e st:Expr} {te:TE} {tst:TO} {p2 pos:Pos} (he:PE X e te) (hst:PO X (some st) tst):PE X (.Subscript e (.Slice none none (some st) p2) pos) (J5D X.K te tst):=by
 intro pins s σ H Q I h
 refine Subscript_ (thn (he pins s σ H _ I h) fun v s1 hz=>?_)
 obtain ⟨x,H1,I1,r1,q1⟩:=hz
 refine wpAny_Slice ?_
 rw [evalPart_none]
 refine wpAny_pure (wpAny_pure ?_); refine thn (hst pins s1 σ H1 _ I1 q1) fun vs s3 hz=>?_
 obtain ⟨o,H3,I3,po,eo,a,xs,rfl,hq,q⟩:=hz
 subst eo
 cases r1
 have I4:Inv X pins σ H3 { s3 with heap:=s3.heap.push { cls:=.type "slice",data:=.fields #[.none,.none,vs] } }:=I3.kept (t':=s3.toks) fun b ob q=>Heap.get?_push_of_some _ q
 obtain ⟨its,rv,pl,hz⟩:=I4.list hq
 have hl:=rv.length
 show wpAny (model X.prog X.w) X.A (subscriptTail e (.Slice none none (some st) p2) (.ref a) (.ref s3.heap.objs.size)) (EP X pins σ Q) X.xe _
 refine tail_any (T:="list") (ops:=[.ref a,.ref s3.heap.objs.size]) pl.isList.typeIs slot_list_getitem.lookup ?_ (by with_unfolding_all rfl)
 refine wpAny_getItem_list_slice pl.isList (Heap.IsSliceOf.new ..) .none .none po (by decide) ?_ (by rw [List.size_toArray] <;> omega)
 rw [Z4T]
 refine ⟨.ref _,upd H3 _ (.lst xs.reverse),I4.laid (fun b o e=>Heap.get?_push_of_some _ e) (Nat.le_refl _) (show ObjOk X.prog X.w _ _ _ (.lst xs.reverse) from ⟨by rw [List.length_reverse]; exact hz,its.reverse,0,rv.reverse,Heap.get?_push_size _ rfl⟩),rfl,q _ (I4.hok.fresh (Nat.le_refl _))⟩
def J1v (K:W.Frag) (ta:TE):TT:=fun σ H Q=>ta σ H fun x H1=>∃ a xs,x=.ref a∧SqL K H1 a xs∧Q (!xs.isEmpty) H1
theorem J6x {K:W.Frag} {ta:TE} {σ:St} {H:Hp} {Q:Bool→Hp→Prop}:J1v K ta σ H Q=ta σ H fun x H1=>∃ a xs,x=.ref a∧SqL K H1 a xs∧Q (!xs.isEmpty) H1:=rfl
theorem J4v {X:Cx} {a:Expr} {ta:TE} (ha:PE X a ta) (he:∀ whole,isTrue a X.env whole=(do let v ← whole; standAt a.pos; holding [v] (truthy v))):PT X a (J1v X.K ta):=by
 intro pins s σ H Q I h
 refine isTrue_plain (thn (ha pins s σ H _ I h) fun v s1 hz=>?_) (he _)
 obtain ⟨x,H1,I1,r1,a,xs,rfl,hq,q⟩:=hz
 exact J5L pins s1 σ H1 _ v Q I1 r1 ⟨_,.inl ⟨xs,hq,rfl⟩,q⟩
theorem J4j {c:TT} {tb:TS} {D:Ends} {σ:St} {H:Hp} (Pv:Nat→St→Hp→Prop) {m0:Nat} (h0:Pv m0 σ H)
  (hs:∀ m σ H,Pv m σ H→c σ H fun b H1=>if b=true then tb { D with nx:=fun σ' H'=>∃ m',m' < m∧Pv m' σ' H',ct:=fun σ' H'=>∃ m',m' < m∧Pv m' σ' H',bk:=D.nx } σ H1 else D.nx σ H1)
  (mono:∀ σ H Q Q',(∀ b H1,Q b H1→Q' b H1)→c σ H Q→c σ H Q'):J2I c tb D σ H:=by
 refine ⟨Pv,⟨m0,h0⟩,fun m σ H p=>mono σ H _ _ (fun b H1 q=>?_) (hs m σ H p)⟩
 cases b with
 | true=>exact ⟨_,fun σ' H' h=>h,q⟩
 | false=>exact q
theorem Z8M {o:Option (Option V)} {R R':V→Prop} (i:∀ v,R v→R' v) (h:opt2 o R):opt2 o R':=by
 unfold opt2 at h ⊢
 split at h
 ·exact i _ h
 ·cases h
theorem Z9D {K:W.Frag} {i:Nat} (σ:St) (H:Hp) (Q Q':Bool→Hp→Prop) (j:∀ b H1,Q b H1→Q' b H1) (h:J1v K (Z6B i) σ H Q):J1v K (Z6B i) σ H Q':=Z8M (fun v ⟨a,xs,e,hq,q⟩=>⟨a,xs,e,hq,j _ _ q⟩) h
end L2
end
section
namespace L2
open PySem PySem.Spec PyProof.Rows
theorem J3d (l:Addr) (xs:Array Value) (n:Nat) (b:Addr) (ys:Array Value) (m:Nat) (dd:Option Addr) (sl:Array (Option Value)) (h0:¬(!xs.isEmpty&&Builtin.List.listTooLong (xs.size+ys.size))=true) (h1:xs.size≤sizeLine) (h2:xs.size+ys.size≤sizeLine+1) :
  Meets (Builtin.«list.extend» ⟨[.ref l,.ref b],[]⟩) (fun _ R s=>s.heap.get? l=some { cls:=.type "list",dict:=none,data:=.seq xs n,slots:=#[] }∧s.heap.get? b=some { cls:=.type "tuple",dict:=dd,data:=.seq ys m,slots:=sl }∧R (.ok (.ret Value.none)) { s with heap:=s.heap.update l (Obj.mapSeq fun x=>x++ys),toks:=s.toks }):=by
 refine .of_wp fun prog w A R s h=>(?_)
 obtain ⟨hp,g,d,tk,os⟩:=s
 obtain ⟨hl,hb,h⟩:=h
 have f2:=AutoSeq1.sub_tuple_tuple; have f3:=AutoSeq1.sub_list_list; have f4:=AutoSeq1.sub_tuple_list; have f5:=AutoSeq1.sub_list_tuple
 have hz':(xs++ys).size≤sizeLine+1:=by rw [Array.size_append]; exact h2
 wp_walk using (wpAny_updateSeq hl rfl (hz:=h1) (_hz':=hz')),wpAny_loadPart' hl,wpAny_loadPart' hb
 exact ⟨_,rfl,h⟩
def Z4S (K:W.Frag):V→List V→Hp→VK→Prop:=fun x vs H Q=>∃ l b xs zs,x=.ref l∧vs=[.ref b]∧H l=some (.lst xs)∧SqT K H b zs∧xs.length+zs.length≤sizeLine∧Q .non (upd H l (.lst (xs++zs)))
theorem J3e {K:W.Frag} {x:V} {vs:List V} {H:Hp} {Q:VK}:Z4S K x vs H Q=∃ l b xs zs,x=.ref l∧vs=[.ref b]∧H l=some (.lst xs)∧SqT K H b zs∧xs.length+zs.length≤sizeLine∧Q .non (upd H l (.lst (xs++zs))):=rfl
theorem Z8o {X:Cx}:MtM X "list.extend" (Z4S X.K):=by
 intro pins s σ H x vs v us Q I rx rv h
 obtain ⟨l,b,xs,zs,rfl,rfl,hH,hB,hz,q⟩:=h
 cases rx
 obtain ⟨u,rfl,ru⟩:=rv.one
 cases ru
 obtain ⟨z,its,n,r,hl,e⟩:=I.lstM hH
 obtain ⟨its2,r2,pl2,z2⟩:=I.tuple hB
 obtain ⟨⟨cl,dd,da,sl⟩,e2,ec,n2,ed⟩:=id pl2
 cases ec
 cases ed
 have hl2:=r2.length
 have hl1:=r.length
 have hsz:its.toArray.size+its2.toArray.size≤sizeLine:=by rw [List.size_toArray,List.size_toArray]; omega
 have hlong:¬ (!its.toArray.isEmpty&&Builtin.List.listTooLong (its.toArray.size+its2.toArray.size))=true:=by
  rw [Z5o hsz,Bool.and_false]; exact Bool.false_ne_true
 refine call_meets F.slot_list_extend ⟨_,e,rfl⟩ F.entry_list_extend (F.args_list_extend_2 _ _) (J3d l its.toArray n b its2.toArray n2 dd sl hlong (by rw [List.size_toArray]; omega) (by omega)) ⟨e,e2,?_⟩
 refine ⟨.non,_,I.lset (its':=its++its2) hH e (by simp) (r.append r2) ?_,rfl,q⟩
 rw [List.length_append]; omega
end L2
end
section
namespace PySem
open Sem (wp)
open Builtin
end PySem
namespace L2
open PySem PySem.Spec PyProof.Rows PySem.SeqAt
open AutoSeq1 (wpAny_loadPart')
section
variable {X:Cx}
def Z8j (K:W.Frag):R2:=fun x y H Q=>∃ a b xs ys,x=.ref a∧y=.ref b∧SqT K H a xs∧SqT K H b ys∧xs.length+ys.length≤sizeLine∧∀ p H',Same H H'→SqT K H' p (xs++ys)→Q (.ref p) H'
theorem J2m {prog:Program} {w:World} {A:Around} {E:Value→Shared→Prop} {s:Shared} {t b:Addr} {ws:List Value} {Q:Value→Shared→Prop} (ht:IsTup s.heap t #[]) (hb:IsTup s.heap b ws.toArray) (h:Q (.ref b) s):wpAny (model prog w) A (binaryOp .Add (.ref t) (.ref b)) Q E s:=by
 obtain ⟨⟨cls,dd,data,sl⟩,ho,hc,n,hd⟩:=id ht
 obtain ⟨⟨cls2,dd2,data2,sl2⟩,ho2,hc2,n2,hd2⟩:=id hb
 simp only at hc hd hc2 hd2
 subst hc hd hc2 hd2
 exact concat_meets ⟨_,ho,rfl⟩ ⟨_,ho2,rfl⟩ noFill_tuple_add seq_tuple_add PySem.F.slot_tuple_add PySem.F.entry_tuple_add (PySem.F.args_tuple_add_2 _ _)
  (tuple_addW0 t b #[] ws.toArray n n2 dd dd2 sl sl2 (by simp)) ⟨ho,ho2,h⟩
theorem Z4l:OpR X (binaryOp .Add) (Z8j X.K):=by
 intro pins s σ H x y v u Q I rx ry h
 obtain ⟨a,b,xs,ys,rfl,rfl,hx,hy,hz,q⟩:=h
 by_cases he:xs=[]
 ·subst he
  obtain rfl:v=Value.ref a:=rx
  obtain rfl:u=Value.ref b:=ry
  obtain ⟨its,r,ht,_⟩:=I.tuple hx
  obtain ⟨its2,r2,ht2,_⟩:=I.tuple hy
  cases r
  exact J2m ht ht2 ⟨.ref b,H,I,rfl,q b H (Same.refl H) (by simpa using hy)⟩
 ·refine J4m pins s σ H _ _ v u Q I rx ry ⟨a,b,xs,ys,rfl,rfl,hx,hy,he,hz,fun e=>?_,fun e p hp=>?_⟩
  ·subst e
   exact q a H (Same.refl H) (by simpa using hx)
  ·exact q p _ (fun c o hc=>by rw [Z0h (Z0j hc hp)]; exact hc) (SqT.of Z0e)
end
open HT
section
variable {prog:Program} {w:World} {A:Around} {E:Value→Shared→Prop} {s:Shared}
theorem Z2N {t sl:Addr} {items:Array Value} {vl vu:Value} {lo hi:Option Int} {Q:Value→Shared→Prop} (ht:IsTup s.heap t items) (hs:s.heap.IsSliceOf sl vl vu .none) (pl:IsPart vl lo) (pu:IsPart vu hi)
  (hw:sIx items.size 0 lo=0∧sIx items.size items.size hi=items.size) (h:Q (.ref t) s):wpAny (model prog w) A (getItem (.ref t) (.ref sl)) Q E s:=by
 obtain ⟨os,hos,hcs,hds⟩:=id hs
 have hTs:s.TypeIs (.ref sl) "slice":=⟨os,hos,hcs⟩
 unfold getItem
 try with_reducible refine wpAny_holding ?_
 first | refine wpAny_bind (wpAny_pure ?_) | skip
 refine wpAny_bind (wpAny_sequenceKey ht.typeIs (by decide) ?_)
 refine wpAny_bind (wpAny_callSpecial?_slot (name:=Str.ofString "__getitem__") ht.typeIs PyProof.Rows.slot_tuple_getitem
  (wpAny_call_entry PyProof.Rows.slot_tuple_getitem ht.typeIs entry_tuple_getitem ?_ (args_tuple_getitem _ _)))
 show wpAny _ _ (Builtin.Tuple.tupleItemsOf (.ref t) >>= _) _ _ s
 refine wpAny_bind (tupleItemsOf_ ht ?_)
 refine wpAny_bind (wpAny_typeOf hTs ?_)
 rw [if_pos (by decide)]
 refine wpAny_bind (Z2t hs pl pu ?_)
 have hyes:(((sIx items.size 0 lo:Nat):Int) == 0&&(1:Int) == 1&&(sIx items.size items.size hi - sIx items.size 0 lo) == items.size)=true:=by
  rw [hw.1,hw.2]; simp
 show wpAny _ _ (if (((sIx items.size 0 lo:Nat):Int) == 0&&(1:Int) == 1&&(sIx items.size items.size hi - sIx items.size 0 lo) == items.size)=true then _ else _) _ _ s
 rw [if_pos hyes]
 refine wpAny_bind ?_
 show wpAny _ _ ((typeOf (.ref t)) >>= _) _ _ s
 refine wpAny_bind (wpAny_typeOf ht.typeIs (wpAny_pure ?_))
 rw [if_pos (by decide)]
 first
  | exact wpAny_bind (wpAny_rule (wpAny_pure ⟨_,rfl,wpAny_pure h⟩))
  | exact wpAny_bind (wpAny_pure (wpAny_pure ⟨_,rfl,wpAny_pure h⟩))
  | exact wpAny_pure ⟨_,rfl,wpAny_pure h⟩
end
section
variable {X:Cx}
def rSlA (K:W.Frag):V→Option Int→Option Int→Hp→VK→Prop:=fun x lo hi H Q=>∃ a xs,x=.ref a∧SqT K H a xs∧∀ p H',Same H H'→SqT K H' p (cutV xs lo hi)→Q (.ref p) H'
theorem Z3Y:SlR X (rSlA X.K):=by
 intro pins s σ H x v vl vu lo hi sl Q I rx hs pl pu h
 obtain ⟨a,xs,rfl,hx,q⟩:=h
 by_cases hw:HT.sIx xs.length 0 lo=0∧HT.sIx xs.length xs.length hi=xs.length
 ·obtain rfl:v=Value.ref a:=rx
  obtain ⟨its,r,ht,hz⟩:=I.tuple hx
  have hlen:its.toArray.size=xs.length:=by rw [List.size_toArray]; exact r.length.symm
  refine ⟨"tuple",_,PyProof.Rows.slot_tuple_getitem.lookup,ht.typeIs,?_⟩
  refine Z2N ht hs pl pu (by rw [hlen]; exact hw) ⟨.ref a,H,I,rfl,q a H (Same.refl H) ?_⟩
  have e:cutV xs lo hi=xs:=by
   unfold cutV
   rw [hw.1,hw.2,List.drop_zero,Nat.sub_zero,List.take_length]
  rw [e]
  exact hx
 ·exact J4N pins s σ H _ v vl vu lo hi sl Q I rx hs pl pu ⟨a,xs,rfl,hx,hw,fun p hp=>q p _ (fun c o hc=>by rw [Z0h (Z0j hc hp)]; exact hc) (SqT.of Z0e)⟩
end
end L2
end
section
namespace L2
open PySem PySem.Spec PyProof.Rows
def J2N (K:W.Frag):List V→Hp→VK→Prop:=fun xs H Q=>∃ p ys,xs=[V.ref p]∧((SqL K H p ys∧∀ (l:Addr),H l=none→Q (V.ref l) (upd H l (HO.tup ys)))∨(SqT K H p ys∧Q (V.ref p) H))
theorem J6q {K:W.Frag} {xs:List V} {H:Hp} {Q:VK}:J2N K xs H Q=(∃ p ys,xs=[V.ref p]∧((SqL K H p ys∧∀ (l:Addr),H l=none→Q (V.ref l) (upd H l (HO.tup ys)))∨(SqT K H p ys∧Q (V.ref p) H))):=rfl
end L2
end
section
namespace L2
open PySem PySem.Spec PyProof.Rows
section
variable {X:Cx}
def rSlS:V→Option Int→Option Int→Hp→VK→Prop:=fun x lo hi H Q=>∃ z,x=.str z∧z.length≤sizeLine∧Q (.str (Txt.slice z lo hi)) H
theorem J5l:SlR X rSlS:=by
 intro pins s σ H x v vl vu lo hi sl Q I rx hs pl pu h
 obtain ⟨z,rfl,hz,q⟩:=h
 obtain ⟨t,rfl⟩:=rx
 have fin:∀ t' k,EP X pins σ Q (.str (Txt.slice z lo hi) t') { s with toks:=k }:=fun t' k=>⟨.str _,H,I.tok k,⟨t',rfl⟩,q⟩
 refine ⟨"str",_,F.slot_str_getitem.lookup,typeIs_str _ _ _,?_⟩
 cases pl with
 | none=>
  cases pu with
  | none=>exact wpAny_getItem_str_slice (l:=none) (u:=none) (st:=none) hs rfl (post_val_or_str ⟨Nat.le_trans (Txt.slice_le z _ _) hz,fin⟩)
  | int j tj=>exact wpAny_getItem_str_slice (l:=none) (u:=some (j,tj)) (st:=none) hs rfl (post_val_or_str ⟨Nat.le_trans (Txt.slice_le z _ _) hz,fin⟩)
 | int i ti=>
  cases pu with
  | none=>exact wpAny_getItem_str_slice (l:=some (i,ti)) (u:=none) (st:=none) hs rfl (post_val_or_str ⟨Nat.le_trans (Txt.slice_le z _ _) hz,fin⟩)
  | int j tj=>exact wpAny_getItem_str_slice (l:=some (i,ti)) (u:=some (j,tj)) (st:=none) hs rfl (post_val_or_str ⟨Nat.le_trans (Txt.slice_le z _ _) hz,fin⟩)
theorem Z4Q:∀ {ys:List Str} {us:List Value},Vals (ys.map V.str) us→StrsAre us ys
 | [],_,.nil=>.nil
 | y::r,_,.cons h t=>by
  obtain ⟨tk,rfl⟩:=h
  exact .cons y tk (Z4Q t)
def J4J (K:W.Frag):V→List V→Hp→VK→Prop:=fun x vs H Q=>∃ z p ys,x=.str z∧vs=[.ref p]∧SqL K H p (ys.map V.str)∧(ys.map (·.length)).sum+ys.length * z.length≤16777216∧Q (.str (Txt.join z ys)) H
theorem Z6G:MtR X "str.join" (J4J X.K):=by
 intro pins s σ H x vs v us Q I rx rv h
 obtain ⟨z,p,ys,rfl,rfl,hq,hl,q⟩:=h
 obtain ⟨t,rfl⟩:=rx
 obtain ⟨u,rfl,ru⟩:=rv.one
 cases ru
 obtain ⟨its,r,pl,_⟩:=I.list hq
 exact join_list pl.isList (by simpa using Z4Q r) hl fun t' k=>⟨.str _,H,I.tok k,⟨t',rfl⟩,q⟩
end
end L2
end
section
namespace L2
open PySem PySem.Spec PyProof.Rows
section
variable {X:Cx} {N:List Str} {nl:List (Option Nat)} {scope:Scope} {cl:List (Str×Addr)} {elt tg iter:Expr} {pos pos' spos:Pos} {wi:TI} {g:TG} {tc:TT} {te:TE} {i:Nat} {x:Str}
theorem Z9H {pins:List (Addr×Obj)} {σ:St} {Dd:Ends} (hN:X.N.Nodup) (hi:X.N[i]?=some x) (hk:X.env.scope.names.lookup x=some .local) (D C:Addr) (s' s2:Shared) (fp:List Addr) (σ':St) (H' H2:Hp)
  (I2:Inv X pins σ H2 s2) (f2:∀ b∈fp,FpOk X pins H2 b) (hC:s2.heap.objs.size≤C) (J:Inv (X.block N scope cl C fp s2 H2) [] σ' H' s') (q:Dd.nx (σ.set i (some (.ref D))) H') :
  compPost (model X.prog X.w) X.A X.xe (some (assign (.Name x pos') X.env)) (fun _ s3=>SP X pins Dd .next s3) (.ref D) C (.ok .next) s':=by
 have I3:Inv X pins σ H' s':=Z5U (h2:=s'.heap) I2 f2 hC J fun b o _ e=>e
 have ne:∀ b o,s2.heap.get? b=some o→b≠C:=fun b o e=>Nat.ne_of_lt (Nat.lt_of_lt_of_le (Heap.lt_size e) hC)
 have neL:C≠X.env.locals:=fun z=>by
  obtain ⟨m,⟨o,_,_,ho,_⟩,_⟩:=I2.loc
  exact ne _ o ho z.symm
 obtain ⟨m,hn,_⟩:=J.loc
 show wpAny _ _ (assign (.Name x pos') X.env (.ref D)) _ _ _
 have e:assign (.Name x pos') X.env (.ref D)=(do standAt pos'; bindName X.env x (.ref D)):=by rfl
 rw [e]
 refine wpAny_bind (wpAny_standAt (wpAny_bindName ?_))
 refine Z4b (v:=.ref D) I3 hN hi (.inl hk) rfl (fun s4 I4 ⟨a,sb,ha⟩=>?_) (.inr hk)
 have hCa:C≠a:=by
  rcases ha with z | z
  ·rw [z]; exact neL
  ·obtain ⟨v,o,ho,_⟩:=I2.cell x a z
   exact fun z2=>ne a o ho z2.symm
 refine ⟨m,hn.sameBut sb hCa,fun h' sb'=>⟨_,H',?_,q⟩⟩
 refine I4.turned (t':=s4.toks) (it:=C) (fun b o hb e=>sb'.extBut b o hb e) J.free neL (.inr (Nat.le_trans I2.sz hC)) (fun y c e z=>?_) fun p hp z=>?_
 ·obtain ⟨v,o,ho,_⟩:=I2.cell y c e
  exact ne c o ho z
 ·exact ne p.1 _ (I2.pin p hp).1 z
def J3Z (i:Nat) (t:TE):TS:=fun D σ H=>t σ H fun v H'=>D.nx (σ.set i (some v)) H'
theorem Z1n (hcalm:X.calm=true) (hN:X.N.Nodup) (hi:X.N[i]?=some x) (hk:X.env.scope.names.lookup x=some .local) (B:BlockOk X N nl scope cl) (hit:PI X tg iter wi) (hg:∀ C fp s H,PG (X.block N scope cl C fp s H) tg g) (he:∀ C fp s H,PE (X.block N scope cl C fp s H) elt te)
  (hs:∀ x,foldedSetIterable iter X.env x=pure x:=by intro _; rfl) (hsw:swapsWith (.ListComp elt [⟨tg,iter,[],0⟩] scope pos) (some (.Name x pos')) spos.line X.env=pure true:=by rfl) :
  PS X (.Assign [.Name x pos'] (.ListComp elt [⟨tg,iter,[],0⟩] scope pos) spos) (J3Z i (Z5K wi nl g Z2K te)):=by
 intro pins s σ H D I h
 rw [exec_Assign_Name_used _ _ _ _ hsw]
 refine wpAny_bind (wpAny_standAt (wpAny_bind ?_))
 show wpAny _ _ (evalThenUse (.ListComp elt [⟨tg,iter,[],0⟩] scope pos) X.env _) _ _ _
 unfold evalThenUse
 refine wpAny_bind ?_
 exact thn (Z3X (Q:=fun v H'=>D.nx (σ.set i (some v)) H') (tst:=fun _=>pure true) (Q':=fun _ s3=>SP X pins D .next s3) hcalm B hit hg (fun _ _ _ _=>Z6y) he Z4V hs I h (fun D' C s' s2 fp σ' H' H2 I2 f2 hC J q=>Z9H hN hi hk D' C s' s2 fp σ' H' H2 I2 f2 hC J q) _) fun _ s3 z=>wpAny_pure (wpAny_pure z)
end
end L2
end
section
namespace L2
open PySem PySem.Spec PyProof.Rows PySem.SeqAt
theorem J6I {wi:TI} {nl:List (Option Nat)} {g:TG} {tc:TT} {te:TE} {σ:St} {H:Hp} {Q:VK}:Z5K wi nl g tc te σ H Q=(wi σ H fun J H1=>∀ D,H1 D=none→Z3y J g tc te D Q (stOf nl σ) (upd H1 D (.lst []))):=rfl
theorem J6F {i:Nat} {t:TE} {D:Ends} {σ:St} {H:Hp}:J3Z i t D σ H=(t σ H fun v H'=>D.nx (σ.set i (some v)) H'):=rfl
theorem J7x {K:W.Frag} {x:V} {y:V} {H:Hp} {Q:VK}:rEqD K x y H Q=(∃ d e,RdD K H x d∧RdD K H y e∧shaped d=true∧shaped e=true∧Q (.bl (PyData.eqv d e)) H):=rfl
theorem J7T {K:W.Frag} {x:V} {y:V} {H:Hp} {Q:VK}:rNeD K x y H Q=(∃ d e,RdD K H x d∧RdD K H y e∧shaped d=true∧shaped e=true∧Q (.bl (!PyData.eqv d e)) H):=rfl
theorem J6v {K:W.Frag} {ta:TA} {σ:St} {H:Hp} {R:It→Hp→Prop}:J7P K ta σ H R=(ta σ H fun vs H1=>∃ a,vs=[.ref a]∧(∃ xs,SqL K H1 a xs)∧R (Ite K a) H1):=rfl
theorem J4I {K:W.Frag} {xs:List V} {H:Hp} {Q:VK}:J5B K xs H Q=(∃ a d,xs=[.ref a]∧RdD K H (.ref a) d∧d.showable=true∧d.hasDict=false∧d.depth≤60∧d.shown.length≤sizeLine∧Q (.str d.shown) H):=rfl
end L2
end
section
namespace L2
open PySem PySem.Spec PyProof.Rows
section
variable {κ:Type} [DecidableEq κ]
def valV (kvs:List (κ×V)) (k:κ):Option V:=(kvs.find? fun kv=>decide (kv.1=k)).map (·.2)
def putK (kvs:List (κ×V)) (k:κ) (v:V):List (κ×V):=
 if (kvs.any fun kv=>decide (kv.1=k))=true then kvs.map (fun kv=>if kv.1=k then (kv.1,v) else kv) else kvs++[(k,v)]
theorem Z1l {p:κ×V} {r:List (κ×V)} {k:κ} (e:p.1=k):valV (p::r) k=some p.2:=by simp [valV,List.find?_cons,e]
theorem Z1g {p:κ×V} {r:List (κ×V)} {k:κ} (e:¬ p.1=k):valV (p::r) k=valV r k:=by simp [valV,List.find?_cons,e]
theorem Z2T (k:κ):∀ kvs:List (κ×V),(kvs.any fun kv=>decide (kv.1=k))=(valV kvs k).isSome
 | []=>rfl
 | p::r=>by
  rw [List.any_cons]
  by_cases e:p.1=k
  ·simp only [Z1l e,decide_eq_true e,Bool.true_or,Option.isSome_some]
  ·rw [Z1g e,decide_eq_false e,Bool.false_or]; exact Z2T k r
theorem Z7q (k j:κ) (y:V):∀ kvs:List (κ×V),valV (kvs.map fun kv=>if kv.1=k then (kv.1,y) else kv) j=(valV kvs j).map fun x=>if j=k then y else x
 | []=>rfl
 | p::r=>by
  have ih:=Z7q k j y r
  rw [List.map_cons]
  by_cases h:p.1=k
  ·rw [if_pos h]
   by_cases e:p.1=j
   ·rw [Z1l (p:=(p.1,y)) e,Z1l e,Option.map_some,if_pos (e.symm.trans h)]
   ·rw [Z1g (p:=(p.1,y)) e,Z1g e,ih]
  ·rw [if_neg h]
   by_cases e:p.1=j
   ·rw [Z1l (p:=p) e,Z1l e,Option.map_some,if_neg (fun z=>h (e.trans z))]
   ·rw [Z1g (p:=p) e,Z1g e,ih]
theorem Z5W (k j:κ) (y:V):∀ kvs:List (κ×V),valV kvs k=none→valV (kvs++[(k,y)]) j=if j=k then some y else valV kvs j
 | [],_=>by
  by_cases e:k=j
  ·rw [if_pos e.symm]; exact Z1l (p:=(k,y)) e
  ·rw [if_neg (fun z=>e z.symm)]; exact Z1g (p:=(k,y)) e
 | p::r,hn=>by
  rw [List.cons_append]
  have hk:¬ p.1=k:=fun z=>by rw [Z1l z] at hn; cases hn
  rw [Z1g hk] at hn
  have ih:=Z5W k j y r hn
  by_cases e:p.1=j
  ·rw [Z1l e,Z1l e,if_neg (fun z=>hk (e.trans z))]
  ·rw [Z1g e,Z1g e,ih]
theorem Z7e (kvs:List (κ×V)) (k j:κ) (y:V):valV (putK kvs k y) j=if j=k then some y else valV kvs j:=by
 unfold putK
 by_cases a:(kvs.any fun kv=>decide (kv.1=k))=true
 ·rw [if_pos a,Z7q]
  rw [Z2T] at a
  by_cases e:j=k
  ·obtain ⟨x,hx⟩:=Option.isSome_iff_exists.mp a
   rw [if_pos e,e,hx,Option.map_some,if_pos rfl]
  ·rw [if_neg e]
   cases valV kvs j with
   | none=>rfl
   | some x=>rw [Option.map_some,if_neg e]
 ·rw [if_neg a]
  refine Z5W k j y kvs ?_
  rw [Z2T] at a
  cases q:valV kvs k with
  | none=>rfl
  | some x=>rw [q] at a; exact (a rfl).elim
theorem Z2P (kvs:List (κ×V)) (k:κ) (v:V):(putK kvs k v).length≤kvs.length+1:=by
 unfold putK
 split
 ·rw [List.length_map]; omega
 ·rw [List.length_append,List.length_cons,List.length_nil]; omega
theorem J1V {kvs:List (κ×V)} {k:κ} (v:V) (h:valV kvs k=none):putK kvs k v=kvs++[(k,v)]:=by
 unfold putK
 rw [Z2T,h]
 exact if_neg (by decide)
theorem RelO.isSome_eq {o:Option V} {u:Option Value} (r:RelO o u):o.isSome=u.isSome:=by
 cases o with
 | none=>cases u with
  | none=>rfl
  | some _=>exact (show False from r).elim
 | some _=>cases u with
  | none=>exact (show False from r).elim
  | some _=>rfl
theorem KV.val {kvs:List (κ×V)} {vs:List (κ×Value)} (r:KV kvs vs) (k:κ):RelO (valV kvs k) (valueAt vs k):=by
 unfold KV at r
 induction r with
 | nil=>exact True.intro
 | @cons p q ps qs h t ih=>
  obtain ⟨h1,h2⟩:=h
  by_cases e:p.1=k
  ·have e':q.1=k:=h1.symm.trans e
   have b:valueAt (q::qs) k=some q.2:=by simp [valueAt,List.find?_cons,e']
   rw [Z1l e,b]; exact h2
  ·have e':¬ q.1=k:=fun z=>e (h1.trans z)
   have b:valueAt (q::qs) k=valueAt qs k:=by simp [valueAt,List.find?_cons,e']
   rw [Z1g e,b]; exact ih
theorem KV.any {kvs:List (κ×V)} {vs:List (κ×Value)} (r:KV kvs vs) (k:κ):(kvs.any fun kv=>decide (kv.1=k))=vs.any fun kv=>decide (kv.1=k):=by
 unfold KV at r
 induction r with
 | nil=>rfl
 | cons h t ih=>rw [List.any_cons,List.any_cons,ih,h.1]
theorem KV.repl {kvs:List (κ×V)} {vs:List (κ×Value)} (r:KV kvs vs) (k:κ) {y:V} {u:Value} (ry:RelV y u) :
  KV (kvs.map fun kv=>if kv.1=k then (kv.1,y) else kv) (vs.map fun kv=>if kv.1=k then (kv.1,u) else kv):=by
 unfold KV at r ⊢
 induction r with
 | nil=>exact .nil
 | @cons p q ps qs h t ih=>
  rw [List.map_cons,List.map_cons]
  refine .cons ?_ ih
  obtain ⟨h1,h2⟩:=h
  by_cases e:p.1=k
  ·rw [if_pos e,if_pos (h1.symm.trans e)]; exact ⟨h1,ry⟩
  ·rw [if_neg e,if_neg (fun z=>e (h1.trans z))]; exact ⟨h1,h2⟩
theorem KV.put {kvs:List (κ×V)} {vs:List (κ×Value)} (r:KV kvs vs) (k:κ) {y:V} {u:Value} (ry:RelV y u):KV (putK kvs k y) (stored vs k u):=by
 unfold putK stored
 rw [r.any k]
 by_cases e:(vs.any fun kv=>decide (kv.1=k))=true
 ·rw [if_pos e,if_pos e]; exact r.repl k ry
 ·rw [if_neg e,if_neg e]; exact Paired.snoc r ⟨rfl,ry⟩
theorem KV.length {kvs:List (κ×V)} {vs:List (κ×Value)} (r:KV kvs vs):kvs.length=vs.length:=Paired.length r
end
theorem J1z {P:Program} {w:World} {k:Key} {u:Value} (r:RelV (kV k) u):(Z0T P w).is k u=true:=by
 cases k with
 | inl i=>obtain ⟨t,e⟩:=(show ∃ t,u=Value.int i t from r); subst e; exact Z6M P w i t
 | inr x=>obtain ⟨t,e⟩:=(show ∃ t,u=Value.str x t from r); subst e; exact Z6P P w x t
theorem Z5Z {P:Program} {w:World}:∀ {ks:List Key} {us:List Value},Vals (ks.map kV) us→ItemsAre (Z0T P w) ks us
 | [],_,r=>by rw [List.map_nil] at r; cases r; exact .nil
 | k::ks,_,r=>by
  rw [List.map_cons] at r
  cases r with
  | cons h t=>exact .cons (J1z h) (Z5Z t)
abbrev KT (H:Hp):List (List Key×V)→List (List Key×Addr×Value)→Prop:=Paired fun p q=>p.1=q.1∧H q.2.1=some (.tup (p.1.map kV))∧RelV p.2 q.2.2
theorem KT.val {H:Hp} {kvs:List (List Key×V)} {xs:List (List Key×Addr×Value)} (r:KT H kvs xs) (k:List Key):RelO (valV kvs k) ((atKey xs k).map (·.2)):=by
 induction r with
 | nil=>exact True.intro
 | @cons p q ps qs h t ih=>
  obtain ⟨h1,_,h2⟩:=h
  by_cases e:p.1=k
  ·have e':q.1=k:=h1.symm.trans e
   have b:atKey (q::qs) k=some q.2:=by simp [atKey,List.find?_cons,e']
   rw [Z1l e,b]; exact h2
  ·have e':¬ q.1=k:=fun z=>e (h1.trans z)
   have b:atKey (q::qs) k=atKey qs k:=by simp [atKey,List.find?_cons,e']
   rw [Z1g e,b]; exact ih
theorem KT.repl {H:Hp} {kvs:List (List Key×V)} {xs:List (List Key×Addr×Value)} (r:KT H kvs xs) (k:List Key) {y:V} {u:Value} (ry:RelV y u) :
  KT H (kvs.map fun kv=>if kv.1=k then (kv.1,y) else kv) (xs.map (putAt k u)):=by
 induction r with
 | nil=>exact .nil
 | @cons p q ps qs h t ih=>
  rw [List.map_cons,List.map_cons]
  refine .cons ?_ ih
  obtain ⟨h1,h2,h3⟩:=h
  unfold putAt
  by_cases e:p.1=k
  ·rw [if_pos e,if_pos (h1.symm.trans e)]; exact ⟨h1,h2,ry⟩
  ·rw [if_neg e,if_neg (fun z=>e (h1.trans z))]; exact ⟨h1,h2,h3⟩
theorem KT.put {H:Hp} {kvs:List (List Key×V)} {xs:List (List Key×Addr×Value)} (r:KT H kvs xs) (k:List Key) {b:Addr} {y:V} {u:Value} (hb:H b=some (.tup (k.map kV))) (ry:RelV y u) :
  KT H (putK kvs k y) (storedH xs k b u):=by
 have e:(kvs.any fun kv=>decide (kv.1=k))=(atKey xs k).isSome:=by
  rw [Z2T,(r.val k).isSome_eq,Option.isSome_map]
 unfold putK storedH
 rw [e]
 by_cases q:(atKey xs k).isSome=true
 ·rw [if_pos q,if_pos q]; exact r.repl k ry
 ·rw [if_neg q,if_neg q]; exact Paired.snoc r ⟨rfl,hb,ry⟩
theorem KT.keeps {H H':Hp} {kvs:List (List Key×V)} {xs:List (List Key×Addr×Value)} (r:KT H kvs xs) (ht:∀ b ys,H b=some (.tup ys)→H' b=some (.tup ys)):KT H' kvs xs:=
 Paired.mapP r fun _ _ z=>⟨z.1,ht _ _ z.2.1,z.2.2⟩
section
variable {P:Program} {w:World} {H:Hp} {h:Heap} {a:Addr}
theorem J5A {u:HO} (ok:HOk P w H h) (e:Rd H a u):ObjOk P w H h a u:=e.ok ok
theorem J3o {kvs:List (Key×V)} (ok:HOk P w H h) (e:Rd H a (.dK kvs)):kvs.length≤sizeLine∧(a == sysModules)=false∧∃ vs,KV kvs vs∧h.DictOf (Z0T P w) a vs:=
 show ObjOk P w H h a (.dK kvs) from J5A ok e
theorem J7s {kvs:List (Key×V)} (ok:HOk P w H h) (e:H a=some (.dK kvs)):kvs.length≤sizeLine∧(a == sysModules)=false∧∃ vs,KV kvs vs∧h.DictOf (Z0T P w) a vs:=J3o ok (.inl e)
theorem Z8P {ks:List Key} (ok:HOk P w H h) (e:H a=some (.tup (ks.map kV))):(tupleKind (Z0T P w)).is h ks a:=by
 obtain ⟨_,its,r,o,h1,h2,n,h3⟩:=(show ObjOk P w H h a (.tup (ks.map kV)) from ok a _ e)
 exact ⟨o,its.toArray,n,h1,h2,h3,by simpa using Z5Z r⟩
theorem J0F {kvs:List (List Key×V)} (ok:HOk P w H h) (e:Rd H a (.dT kvs)):kvs.length≤sizeLine∧(a == sysModules)=false ∧
  ∃ xs,KT H kvs xs∧h.DictOfH (tupleKind (Z0T P w)) a xs:=by
 obtain ⟨z,y,xs,r,o,es,ep,h1,h2,h3,h4,h5⟩:=(show ObjOk P w H h a (.dT kvs) from J5A ok e)
 refine ⟨z,y,xs,r,o,es,ep,h1,h2,h3,h4,fun x hx=>?_,h5⟩
 have all:∀ {l:List (List Key×V)} {m:List (List Key×Addr×Value)},KT H l m→∀ x∈m,(tupleKind (Z0T P w)).is h x.1 x.2.1:=by
  intro l m q
  induction q with
  | nil=>intro x hx; exact nomatch hx
  | @cons p q ps qs hq t ih=>
   intro x hx
   rcases List.mem_cons.mp hx with e | hx
   ·subst e
    exact Z8P ok (by rw [← hq.1]; exact hq.2.1)
   ·exact ih x hx
 exact all r x hx
theorem J8z {kvs:List (List Key×V)} (ok:HOk P w H h) (e:H a=some (.dT kvs)):kvs.length≤sizeLine∧(a == sysModules)=false ∧
  ∃ xs,KT H kvs xs∧h.DictOfH (tupleKind (Z0T P w)) a xs:=J0F ok (.inl e)
end
def DGet (H:Hp) (a:Addr) (y:V) (r:Option V):Prop:=
 (∃ kvs k,Rd H a (.dK kvs)∧y=kV k∧r=valV kvs k)∨∃ kvs k b,Rd H a (.dT kvs)∧y=.ref b∧H b=some (.tup (k.map kV))∧r=valV kvs k
def DPut (H:Hp) (a:Addr) (y v:V) (H':Hp):Prop:=
 (∃ kvs k,H a=some (.dK kvs)∧y=kV k∧kvs.length < sizeLine∧H'=upd H a (.dK (putK kvs k v))) ∨
 ∃ kvs k b,H a=some (.dT kvs)∧y=.ref b∧H b=some (.tup (k.map kV))∧kvs.length < sizeLine∧H'=upd H a (.dT (putK kvs k v))
theorem DGet.k {H:Hp} {a:Addr} {kvs:List (Key×V)} {k:Key} (e:H a=some (.dK kvs)):DGet H a (kV k) (valV kvs k):=.inl ⟨kvs,k,.inl e,rfl,rfl⟩
theorem DGet.t {H:Hp} {a b:Addr} {kvs:List (List Key×V)} {k:List Key} (e:H a=some (.dT kvs)) (eb:H b=some (.tup (k.map kV))):DGet H a (.ref b) (valV kvs k):=.inr ⟨kvs,k,b,.inl e,rfl,eb,rfl⟩
theorem DPut.k {H:Hp} {a:Addr} {kvs:List (Key×V)} {k:Key} {v:V} (e:H a=some (.dK kvs)) (hl:kvs.length < sizeLine):DPut H a (kV k) v (upd H a (.dK (putK kvs k v))):=.inl ⟨kvs,k,e,rfl,hl,rfl⟩
theorem DPut.t {H:Hp} {a b:Addr} {kvs:List (List Key×V)} {k:List Key} {v:V} (e:H a=some (.dT kvs)) (eb:H b=some (.tup (k.map kV))) (hl:kvs.length < sizeLine) :
  DPut H a (.ref b) v (upd H a (.dT (putK kvs k v))):=.inr ⟨kvs,k,b,e,rfl,eb,hl,rfl⟩
section
variable {X:Cx} {pins:List (Addr×Obj)} {σ:St} {H:Hp} {s:Shared} {a:Addr} {y v:V} {u r:Value} {o:Option V} {A:Around} {E:Value→Shared→Prop}
theorem Inv.big (I:Inv X pins σ H s):sysModules < s.heap.objs.size:=by
 have h:mainGlobals < s.heap.objs.size:=(I.mod.glob.keeps I.bk).lt
 exact Nat.lt_trans (by decide) h
theorem Z9V {Q:Value→Shared→Prop} (hu:A.units+1 < cLine) (I:Inv X pins σ H s) (g:DGet H a y (some v)) (ry:RelV y u) (h:∀ w' s',Inv X pins σ H s'→RelV v w'→Q w' s') :
  wpAny (model X.prog X.w) A (getItem (.ref a) u) Q E s:=by
 rcases g with ⟨kvs,k,e,ey,l⟩ | ⟨kvs,k,b,e,ey,eb,l⟩
 ·subst ey
  obtain ⟨z,hd,vs,rel,dd⟩:=J3o I.hok e
  obtain ⟨w',hw,rw'⟩:=RelO.some_of (v:=v) (o:=valueAt vs k) (by rw [l]; exact rel.val k)
  exact wpAny_getItem_of (J1z ry) dd.mapOf hw (h w' _ (I.tok _) rw')
 ·subst ey
  cases (show u=Value.ref b from ry)
  obtain ⟨z,hd,xs,rel,dd⟩:=J0F I.hok e
  obtain ⟨w',hw,rw'⟩:=RelO.some_of (v:=v) (o:=(atKey xs k).map (·.2)) (by rw [l]; exact rel.val k)
  obtain ⟨p,hp,hp2⟩:=Option.map_eq_some_iff.mp hw
  refine wpAny_getItem_heap (tupleKind_room_in1 hu) (Z8P I.hok eb) dd hp ?_
  rw [hp2]
  exact h w' _ (I.tok _) rw'
theorem J0a {h':Heap} {t':Nat} {ob:HO} (I:Inv X pins σ H s) (mu:Mut (H a)) (hs:Heap.SameBut a s.heap h') (he:∃ q,h'.get? a=some q) (new:ObjOk X.prog X.w (upd H a ob) h' a ob) :
  Inv X pins σ (upd H a ob) { s with heap:=h',toks:=t' }:=
 I.write (x:=a) (e:=a) mu (.inl rfl) (fun b q hb z=>(hs.2 b hb).trans z) he new
theorem J2w {P:Program} {w:World} {H':Hp} {h':Heap} {kvs:List (Key×V)} {vs:List (Key×Value)} (z:kvs.length≤sizeLine) (hd:(a == sysModules)=false) (rel:KV kvs vs) (dd:h'.DictOf (Z0T P w) a vs) :
  ObjOk P w H' h' a (.dK kvs):=⟨z,hd,vs,rel,dd⟩
theorem J0z {H':Hp} {Q:Unit→Shared→Prop} (hu:A.units+1 < cLine) (I:Inv X pins σ H s) (g:DPut H a y v H') (ry:RelV y u) (rv:RelV v r) (h:∀ s',Inv X pins σ H' s'→Q () s') :
  wpAny (model X.prog X.w) A (setItem (.ref a) u r) Q E s:=by
 rcases g with ⟨kvs,k,e,ey,l,eH⟩ | ⟨kvs,k,b,e,ey,eb,l,eH⟩
 ·subst ey eH
  obtain ⟨z,hd,vs,rel,dd⟩:=J7s I.hok e
  have hz:vs.length≤sizeLine:=by rw [← rel.length]; exact z
  have hl:(putK kvs k v).length≤sizeLine:=by have:=Z2P kvs k v; omega
  refine wpAny_setItem_pairs (hsz:=hz) (J1z ry) dd fun h' dd' hs=>h _ ?_
  have he:∃ q,h'.get? a=some q:=let ⟨q,_,_,hq,_⟩:=dd'; ⟨q,hq⟩
  exact J0a I (by rw [e]; exact True.intro) hs he (J2w hl hd (rel.put k rv) dd')
 ·subst ey eH
  cases (show u=Value.ref b from ry)
  obtain ⟨z,hd,xs,rel,dd⟩:=J8z I.hok e
  have hz:xs.length≤sizeLine:=by rw [← Paired.length rel]; exact z
  have hl:(putK kvs k v).length≤sizeLine:=by have:=Z2P kvs k v; omega
  refine wpAny_setItem_heap (hsz:=hz) (tupleKind_room_in1 hu) (Z8P I.hok eb) dd fun h' dd' hs=>h _ ?_
  obtain ⟨q,es,ep,hq,h2,h3,h4,_,h5⟩:=dd'
  refine J0a I (by rw [e]; exact True.intro) hs ⟨q,hq⟩ ⟨hl,hd,_,(rel.put k eb rv).keeps fun c ys ec=>?_,q,es,ep,hq,h2,h3,h4,h5⟩
  rw [Z0h (Z3V ec e (fun z=>nomatch z))]
  exact ec
end
section
variable {X:Cx} {pins:List (Addr×Obj)} {σ:St} {H:Hp} {s:Shared} {a:Addr} {kvs:List (Key×V)} {k:Key} {u:Value} {A:Around} {E:Value→Shared→Prop}
end
def NoSl (i:Expr):Prop:=∀ ov iv,subscripted i false ov iv=operate [ov,iv] (getItem ov iv)
theorem J3i {prog:Program} {w:World} {A:Around} {E:Value→Shared→Prop} {s:Shared} {env:Env} {value slice:Expr} {pos:Pos} {T id:String} {Q:Value→Shared→Prop}
  (hl:typeLookup (.type T) "__getitem__"=pure (some (.builtin id))) (hs:NoSl slice)
  (h:wpAny (model prog w) A (eval value env) (fun o s₁=>wpAny (model prog w) A (eval slice env) (fun i s₂=>s₂.TypeIs o T∧wpAny (model prog w) A (getItem o i) Q E s₂) E s₁) E s) :
  wpAny (model prog w) A (eval (.Subscript value slice pos) env) Q E s:=by
 refine Subscript_ (wpAny_mono h (fun o s₁ h₁=>wpAny_mono h₁ (fun i s₂ h₂=>?_) fun _ _ x=>x) fun _ _ x=>x)
 obtain ⟨hT,h₂⟩:=h₂
 unfold subscriptTail
 refine wpAny_bind ?_
 rw [getitemInPython_of_ne hT.not_modules]
 refine wpAny_bind (wpAny_specialOf hT hl ?_)
 have fin:wpAny (model prog w) A (subscripted slice false o i) (fun r s₃=>wpAny (model prog w) A (letTemporaryGo value o r >>= fun _=>pure r) Q E s₃) E s₂:=by
  rw [hs o i]
  exact wpAny_operating (wpAny_mono h₂ (fun r s₃ h₃=>wpAny_bind (wpAny_letTemporaryGo (wpAny_pure h₃))) fun _ _ x=>x)
 first
  | exact wpAny_pure (wpAny_bind fin)
  | exact wpAny_bind (wpAny_pure (wpAny_bind fin))
  | exact wpAny_bind fin
theorem Z6S {X:Cx} {pins:List (Addr×Obj)} {σ:St} {H:Hp} {s:Shared} {a:Addr} {y:V} {o:Option V} (I:Inv X pins σ H s) (g:DGet H a y o):s.TypeIs (.ref a) "dict":=by
 rcases g with ⟨kvs,k,e,_,_⟩ | ⟨kvs,k,b,e,_,_,_⟩
 ·obtain ⟨_,_,vs,_,dd⟩:=J3o I.hok e
  exact dd.typeIs
 ·obtain ⟨_,_,xs,_,dd⟩:=J0F I.hok e
  exact dd.typeIs
def J5c (td ty:TE):TE:=fun σ H Q=>td σ H fun x H1=>ty σ H1 fun y H2=>∃ a v,x=.ref a∧DGet H2 a y (some v)∧Q v H2
def J5R (td ty tv:TE):TS:=fun D σ H=>tv σ H fun v H1=>td σ H1 fun x H2=>ty σ H2 fun y H3=>∃ a H4,x=.ref a∧DPut H3 a y v H4∧D.nx σ H4
section
variable {X:Cx} {o i e value:Expr} {pos pos' tpos:Pos} {td ty tv:TE}
theorem Z2x (hu:X.A.units+1 < cLine) (ho:PE X o td) (hi:PE X i ty) (hs:NoSl i):PE X (.Subscript o i pos) (J5c td ty):=by
 intro pins s σ H Q I h
 refine J3i PySem.F.slot_dict_getitem.lookup hs (thn (ho pins s σ H _ I h) fun u s1 ⟨x,H1,I1,rx,q1⟩=>thn (hi pins s1 σ H1 _ I1 q1) fun iv s2 hz_=>?_)
 obtain ⟨y,H2,I2,ry,a,v,ex,g,q2⟩:=hz_
 subst ex
 obtain rfl:u=Value.ref a:=rx
 exact ⟨Z6S I2 g,Z9V hu I2 g ry fun w' s3 I3 rw'=>⟨v,H2,I3,rw',q2⟩⟩
theorem J0s (hu:X.A.units+1 < cLine) (ho:PE X o td) (hi:PE X i ty) (hv:PE X value tv) (hs:swapsWith value (some (.Subscript o i pos')) pos.line X.env=pure false) :
  PS X (.Assign [.Subscript o i pos'] value pos) (J5R td ty tv):=by
 intro pins s σ H D I h
 refine wpAny_Assign_Subscript (thn (hv pins s σ H _ I h) fun r s1 ⟨v,H1,I1,rv,q1⟩=>thn (ho pins s1 σ H1 _ I1 q1) fun u s2 ⟨x,H2,I2,rx,q2⟩=>thn (hi pins s2 σ H2 _ I2 q2) fun iv s3 hz_=>?_) hs
 obtain ⟨y,H3,I3,ry,a,H4,ex,g,q3⟩:=hz_
 subst ex
 obtain rfl:u=Value.ref a:=rx
 exact J0z hu I3 g ry rv fun s4 I4=>⟨σ,H4,I4,q3⟩
end
theorem J2k {P:Program} {w:World} {H:Hp} (h:Heap) (hb:sysModules < h.objs.size):ObjOk P w H (h.push { cls:=.type "dict",data:=.dict #[] }) h.objs.size (.dK []):=
 ⟨Nat.zero_le _,beq_eq_false_iff_ne.mpr (Ne.symm (Nat.ne_of_lt hb)),[],.nil,Heap.DictOf.new h⟩
theorem J1F {P:Program} {w:World} {H:Hp} (h:Heap) (hb:sysModules < h.objs.size):ObjOk P w H (h.push { cls:=.type "dict",data:=.dict #[] }) h.objs.size (.dT []):=
 ⟨Nat.zero_le _,beq_eq_false_iff_ne.mpr (Ne.symm (Nat.ne_of_lt hb)),[],.nil,_,#[],0,Heap.get?_push_size _ rfl,⟨rfl,rfl,rfl⟩,rfl,rfl,List.nodup_nil⟩
def J2M:TE:=fun _ H Q=>∀ p,H p=none→Q (.ref p) (upd H p (.dK []))
def J2L:TE:=fun _ H Q=>∀ p,H p=none→Q (.ref p) (upd H p (.dT []))
section
variable {X:Cx} {pos:Pos}
theorem J1d:PE X (.Dict [] [] pos) J2M:=fun pins s σ H Q I h=>
 wpAny_Dict_empty ⟨.ref s.heap.objs.size,_,I.laid (a:=s.heap.objs.size) (o:=.dK []) (t':=s.toks) (fun _ _ q=>Heap.get?_push_of_some _ q) (Nat.le_refl _) (J2k s.heap I.big),rfl,h _ (I.hok.fresh (Nat.le_refl _))⟩
theorem J1o:PE X (.Dict [] [] pos) J2L:=fun pins s σ H Q I h=>
 wpAny_Dict_empty ⟨.ref s.heap.objs.size,_,I.laid (a:=s.heap.objs.size) (o:=.dT []) (t':=s.toks) (fun _ _ q=>Heap.get?_push_of_some _ q) (Nat.le_refl _) (J1F s.heap I.big),rfl,h _ (I.hok.fresh (Nat.le_refl _))⟩
end
def Z4M:List (TE×TE)→St→Hp→(List (V×V)→Hp→Prop)→Prop
 | [],_,H,Q=>Q [] H
 | (tk,tv)::r,σ,H,Q=>tk σ H fun x H1=>tv σ H1 fun y H2=>Z4M r σ H2 fun ps H3=>Q ((x,y)::ps) H3
def J2P (kvs more:List (Key×V)):List (Key×V):=more.foldl (fun acc kv=>putK acc kv.1 kv.2) kvs
def J8f (trs:List (TE×TE)):TE:=fun σ H Q=>∀ p,H p=none→Z4M trs σ (upd H p (.dK [])) fun ps H2=>H2 p=some (.dK [])∧∃ kvs:List (Key×V),ps=kvs.map (fun kv=>(kV kv.1,kv.2))∧kvs.length≤15∧Q (.ref p) (upd H2 p (.dK (J2P [] kvs)))
section
variable {X:Cx} {pins:List (Addr×Obj)} {σ:St} {H:Hp} {s:Shared} {a:Addr} {y d:V} {u r:Value} {o:Option V} {A:Around} {E:Value→Shared→Prop}
end
section
variable {X:Cx} {o e f:Expr} {apos cpos:Pos} {td ty tx:TE}
end
section
variable {X:Cx} {pins:List (Addr×Obj)} {σ:St} {H:Hp} {s:Shared} {a:Addr} {kvs:List (Key×V)} {A:Around} {E:Value→Shared→Prop}
end
section
variable {X:Cx} {pins:List (Addr×Obj)} {σ:St} {H:Hp} {s:Shared} {a:Addr} {y:V} {u:Value} {A:Around} {E:Value→Shared→Prop}
end
end L2
namespace L2
open PySem PySem.Spec PyProof.Rows
section
variable {X:Cx}
end
section
variable {κ:Type} [DecidableEq κ]
end
end L2
end
section
namespace L2
open PySem PySem.Spec PyProof.Rows PySem.SeqAt
theorem J6T {td ty:TE} {σ:St} {H:Hp} {Q:VK}:J5c td ty σ H Q=(td σ H fun x H1=>ty σ H1 fun y H2=>∃ a v,x=.ref a∧DGet H2 a y (some v)∧Q v H2):=rfl
theorem J7b {td ty tv:TE} {D:Ends} {σ:St} {H:Hp}:J5R td ty tv D σ H=(tv σ H fun v H1=>td σ H1 fun x H2=>ty σ H2 fun y H3=>∃ a H4,x=.ref a∧DPut H3 a y v H4∧D.nx σ H4):=rfl
theorem J4X {z0:St} {H:Hp} {Q:VK}:J2M  z0 H Q=(∀ p,H p=none→Q (.ref p) (upd H p (.dK []))):=rfl
theorem J5z {z0:St} {H:Hp} {Q:VK}:J2L  z0 H Q=(∀ p,H p=none→Q (.ref p) (upd H p (.dT []))):=rfl
end L2
end
section
namespace PW
open PySem P15
inductive Vl | int (i:Int) | bl (b:Bool) | thing (n:Nat)
structure Wd where
 name:Str
 params:List (Str×Str)
 kind:Str
 body:Tm
structure Hs where
 name:Str
 elder:Option Str
 fields:List (Str×Str)
 words:List Wd
structure Pg where
 houses:List Hs
 main:Wd
structure Sc where
 house:Option Str
 own:Option Vl
 bound:List (Str×Vl)
inductive Wt | walk (t:Tm) (s:Sc) | choose (t:Tm) (s:Sc) | finish (t:Tm) (s:Sc) | leave
structure Ws where
 wait:List Wt
 known:List Vl
 made:List (Str×List Vl)
 counted:Nat
 within:Nat
 ended:Option (List Str)
def IxAt {α:Type} (xs:List α) (x:α) (i:Nat):Prop:=xs[i]?=some x∧∀ j,j < i→xs[j]?≠some x
def Look (P:Pg) (h:Str) (H:Hs):Prop:=H∈P.houses∧H.name=h
inductive Chain (P:Pg):Str→List Str→Prop
 | top {h:Str} {H:Hs}:Look P h H→H.elder=none→Chain P h []
 | up {h e:Str} {H:Hs} {es:List Str}:Look P h H→H.elder=some e→Chain P e es→Chain P h (e::es)
inductive Z1O (P:Pg) (w:Str):List Str→Str→Nat→Wd→Prop
 | here {h:Str} {H:Hs} {es:List Str} {i:Nat} {d:Wd}:Look P h H→IxAt (H.words.map Wd.name) w i→H.words[i]?=some d→Z1O P w (h::es) h i d
 | there {h h':Str} {H:Hs} {es:List Str} {i:Nat} {d:Wd}:Look P h H→w∉H.words.map Wd.name→Z1O P w es h' i d→Z1O P w (h::es) h' i d
inductive Flds (P:Pg):List Str→List (Str×Str)→Prop
 | nil:Flds P [] []
 | cons {h:Str} {H:Hs} {l:List Str} {fs:List (Str×Str)}:Look P h H→Flds P l fs→Flds P (h::l) (H.fields++fs)
def Z1W (P:Pg) (h f:Str) (j:Nat):Prop:=∃ es fs,Chain P h es∧es.length≤100∧Flds P (h::es).reverse fs∧fs.length≤100∧IxAt (fs.map Prod.fst) f j
def putS (k:Str) (v:Vl) (b:List (Str×Vl)):List (Str×Vl):=if (b.any fun p=>decide (p.1=k))=true then b.map (fun p=>if p.1=k then (p.1,v) else p) else b++[(k,v)]
def Z0Z:List (Str×Vl)→List (Str×Vl)→List (Str×Vl)
 | b,[]=>b
 | b,(k,v)::r=>Z0Z (putS k v b) r
def getS (k:Str) (b:List (Str×Vl)):Option Vl:=(b.find? fun p=>decide (p.1=k)).map (·.2)
inductive Z0O (P:Pg) (most:Nat) (h wd:Str) (x:Vl) (vs:List Vl):Ws→Ws→Prop
 | dry {W k m c w}:most≤c→Z0O P most h wd x vs ⟨W,k,m,c,w,none⟩ ⟨W,k,m,c,w,some ["dry"]⟩
 | deep {W k m c w}:c < most→40≤w→Z0O P most h wd x vs ⟨W,k,m,c,w,none⟩ ⟨W,k,m,c+1,w,some ["deep"]⟩
 | go {W k m c w es h' i d}:c < most→w < 40→Chain P h es→es.length≤100→Z1O P wd (h::es) h' i d→d.params.length≤100→Z0O P most h wd x vs ⟨W,k,m,c,w,none⟩ ⟨.walk d.body ⟨some h',some x,Z0Z [] ((d.params.map Prod.fst).zip vs)⟩::.leave::W,k,m,c+1,w+1,none⟩
def Bd (n:Int):Prop:=-1000000000000000≤n∧n≤1000000000000000
inductive Two:Str→Vl→Vl→Option Vl→List Str→Prop
 | add {a b:Int}:Bd a→Bd b→Bd (a+b)→Two "+" (.int a) (.int b) (some (.int (a+b))) []
 | sub {a b:Int}:Bd a→Bd b→Bd (a - b)→Two "-" (.int a) (.int b) (some (.int (a - b))) []
 | mul {a b:Int}:Bd a→Bd b→Bd (a * b)→Two "*" (.int a) (.int b) (some (.int (a * b))) []
 | great {a b:Int}:Bd a→Bd b→¬ Bd (a * b)→Two "*" (.int a) (.int b) none ["refused","great"]
 | nought {a:Int}:Bd a→Two "/" (.int a) (.int 0) none ["refused","nought"]
 | less {a b:Int}:Bd a→Bd b→Two "<" (.int a) (.int b) (some (.bl (decide (a < b)))) []
def Z0F:Fm→Lb→Prop
 | .iff,_=>True
 | .lt,_=>True
 | .two,.str s=>s=";"
 | _,_=>False
def leaf:Fm→Prop
 | .number | .truth | .name | .self=>True
 | _=>False
inductive Step (P:Pg) (most:Nat):Ws→Ws→Prop
 | num {W k m c w s i}:Step P most ⟨.walk (.mk .number (.int i) []) s::W,k,m,c,w,none⟩ ⟨W,.int i::k,m,c,w,none⟩
 | tru {W k m c w s b}:Step P most ⟨.walk (.mk .truth (.bl b) []) s::W,k,m,c,w,none⟩ ⟨W,.bl b::k,m,c,w,none⟩
 | name {W k m c w s x v}:getS x s.bound=some v→Step P most ⟨.walk (.mk .name (.str x) []) s::W,k,m,c,w,none⟩ ⟨W,v::k,m,c,w,none⟩
 | self {W k m c w s v}:s.own=some v→Step P most ⟨.walk (.mk .self .non []) s::W,k,m,c,w,none⟩ ⟨W,v::k,m,c,w,none⟩
 | cho {W k m c w s f l p ps}:Z0F f l→ps.length≤10→Step P most ⟨.walk (.mk f l (p::ps)) s::W,k,m,c,w,none⟩ ⟨.walk p s::.choose (.mk f l (p::ps)) s::W,k,m,c,w,none⟩
 | fin {W k m c w s f l ps}:¬ Z0F f l→¬ leaf f→ps.length≤10→Step P most ⟨.walk (.mk f l ps) s::W,k,m,c,w,none⟩ ⟨ps.map (Wt.walk · s)++.finish (.mk f l ps) s::W,k,m,c,w,none⟩
 | lt {W k m c w s x p q v}:s.bound.length≤100→Step P most ⟨.choose (.mk .lt (.str x) [p,q]) s::W,v::k,m,c,w,none⟩ ⟨.walk q ⟨s.house,s.own,putS x v s.bound⟩::W,k,m,c,w,none⟩
 | iff {W k m c w s p q r b}:Step P most ⟨.choose (.mk .iff .non [p,q,r]) s::W,.bl b::k,m,c,w,none⟩ ⟨.walk (if b then q else r) s::W,k,m,c,w,none⟩
 | seq {W k m c w s p q v}:Step P most ⟨.choose (.mk .two (.str ";") [p,q]) s::W,v::k,m,c,w,none⟩ ⟨.walk q s::W,k,m,c,w,none⟩
 | two {W k m c w s g p q a b v e}:Two g a b (some v) e→Step P most ⟨.finish (.mk .two (.str g) [p,q]) s::W,b::a::k,m,c,w,none⟩ ⟨W,v::k,m,c,w,none⟩
 | refuse {W k m c w s g p q a b e}:Two g a b none e→Step P most ⟨.finish (.mk .two (.str g) [p,q]) s::W,b::a::k,m,c,w,none⟩ ⟨W,k,m,c,w,some e⟩
 | new {W k m c w s h ps vs}:vs.length=ps.length→ps.length≤10→Step P most ⟨.finish (.mk .new (.str h) ps) s::W,vs.reverse++k,m,c,w,none⟩ ⟨W,.thing m.length::k,m++[(h,vs)],c,w,none⟩
 | field {W k m c w s f p n h inn j v}:m[n]?=some (h,inn)→Z1W P h f j→inn[j]?=some v→Step P most ⟨.finish (.mk .field (.str f) [p]) s::W,.thing n::k,m,c,w,none⟩ ⟨W,v::k,m,c,w,none⟩
 | set {W k m c w s f p q n h inn j v}:m[n]?=some (h,inn)→Z1W P h f j→j < inn.length→Step P most ⟨.finish (.mk .set (.str f) [p,q]) s::W,v::.thing n::k,m,c,w,none⟩ ⟨W,v::k,m.set n (h,inn.set j v),c,w,none⟩
 | call {W k m c w s f ps vs n h inn S}:vs.length+1=ps.length→ps.length≤10→m[n]?=some (h,inn)→Z0O P most h f (.thing n) vs ⟨W,k,m,c,w,none⟩ S→Step P most ⟨.finish (.mk .call (.str f) ps) s::W,vs.reverse++.thing n::k,m,c,w,none⟩ S
 | elder {W k m c w s f ps vs h e es v S}:vs.length=ps.length→ps.length≤10→s.house=some h→s.own=some v→Chain P h (e::es)→es.length < 100→Z0O P most e f v vs ⟨W,k,m,c,w,none⟩ S→Step P most ⟨.finish (.mk .elder (.str f) ps) s::W,vs.reverse++k,m,c,w,none⟩ S
 | leave {W k m c w}:Step P most ⟨.leave::W,k,m,c,w+1,none⟩ ⟨W,k,m,c,w,none⟩
inductive Z1P (P:Pg) (most:Nat):Nat→Ws→Ws→Prop
 | refl {S}:Z1P P most 0 S S
 | step {n S S' S''}:Step P most S S'→Z1P P most n S' S''→Z1P P most (n+1) S S''
section
variable {P:Pg} {most:Nat}
variable {b b1 b2 b' c c1 c2 c' w:Nat} {s:Sc} {m m1 m2 m':List (Str×List Vl)} {v v1 v2:Vl} {t:Tm} {ts:List Tm} {vs:List Vl}
end
end PW
end
section
namespace WK
open PySem L2 P15 TM PW
inductive A2 {α β:Type} (R:α→β→Prop):List α→List β→Prop
 | nil:A2 R [] []
 | cons {a:α} {b:β} {as:List α} {bs:List β}:R a b→A2 R as bs→A2 R (a::as) (b::bs)
section
variable {α β:Type} {R R':α→β→Prop}
theorem A2.len:∀ {as:List α} {bs:List β},A2 R as bs→as.length=bs.length
 | _,_,.nil=>rfl
 | _,_,.cons _ h=>congrArg (·+1) h.len
theorem A2.monoM:∀ {as:List α} {bs:List β},A2 R as bs→(∀ a b,a∈as→R a b→R' a b)→A2 R' as bs
 | _,_,.nil,_=>.nil
 | _,_,.cons a h,f=>.cons (f _ _ List.mem_cons_self a) (h.monoM fun a b m=>f a b (List.mem_cons_of_mem _ m))
theorem A2.mono {as:List α} {bs:List β} (h:A2 R as bs) (f:∀ a b,R a b→R' a b):A2 R' as bs:=h.monoM fun a b _=>f a b
theorem A2.app:∀ {as as':List α} {bs bs':List β},A2 R as bs→A2 R as' bs'→A2 R (as++as') (bs++bs')
 | _,_,_,_,.nil,h=>h
 | _,_,_,_,.cons a h,h'=>.cons a (h.app h')
theorem A2.snoc {as:List α} {bs:List β} {a:α} {b:β} (h:A2 R as bs) (r:R a b):A2 R (as++[a]) (bs++[b]):=h.app (.cons r .nil)
theorem A2.at:∀ {as:List α} {bs:List β} {i:Nat} {a:α},A2 R as bs→as[i]?=some a→∃ b,bs[i]?=some b∧R a b
 | _,_,0,_,.cons r _,h=>by cases h; exact ⟨_,rfl,r⟩
 | _,_,i+1,_,.cons _ t,h=>t.at (i:=i) h
theorem A2.of:∀ {as:List α} {bs:List β},as.length=bs.length→(∀ (j:Nat) a,as[j]?=some a→∃ b,bs[j]?=some b∧R a b)→A2 R as bs
 | [],[],_,_=>.nil
 | a::as,b::bs,e,h=>by
  obtain ⟨b',hb,r⟩:=h 0 a rfl
  cases hb
  exact .cons r (A2.of (Nat.succ.inj e) fun j a' ha=>h (j+1) a' ha)
end
structure CS where
 term:Addr
 word:Addr
 house:Addr
 program:Addr
 hall:Addr
 scope:Addr
 waits:Addr
 walk:Addr
 bs:Hp
structure Kw (C:Addr) (H H':Hp):Prop where
 t:∀ b xs,H b=some (.tup xs)→H' b=some (.tup xs)
 z:∀ b o xs,H b=some (.frz o (.tup xs))→H' b=some (.frz o (.tup xs))
 i:∀ b D dx f fs,D≠C→H b=some (.ins D dx (f::fs))→H' b=some (.ins D dx (f::fs))
 d:∀ b kvs,H b=some (.dK kvs)→H' b=some (.dK kvs)
section
variable {C:Addr} {H H' H'':Hp} {K:W.Frag}
theorem Kw.kt (k:Kw C H H'):Kt H H':=⟨k.t,k.z⟩
theorem Z2J {H1:Hp} {x:Addr} (s:Same H H1) (h:SX x H1 H') (n:H x=none):Same H H':=fun b o e=>h b o (Z0j e n) (s b o e)
mutual
theorem TO.kw {D:Addr} (n:D≠C) (k:Kw C H H'):∀ {v:V} {t:Tm},TO K D H v t→TO K D H' v t
 | _,_,.mk a b c d e=>.mk (k.i _ _ _ _ _ n a) (SqT.kt b k.kt) (TOs.kw n k c) (SqT.kt d k.kt) (e.kt k.kt)
theorem TOs.kw {D:Addr} (n:D≠C) (k:Kw C H H'):∀ {vs:List V} {ts:List Tm},TOs K D H vs ts→TOs K D H' vs ts
 | _,_,.nil=>.nil
 | _,_,.cons h hs=>.cons (TO.kw n k h) (TOs.kw n k hs)
end
end
noncomputable def oS:Option Str→V
 | none=>.non
 | some s=>.str s
section
variable {C:Addr} {H H':Hp} {c:CS}
end
noncomputable def pairsD (ps:List (Str×Str)):PyData:=.tuple (ps.map fun p=>.tuple [.str p.1,.str p.2])
noncomputable def Z2D (d:Wd):PyData:=.tuple [.str d.name,pairsD d.params,.str d.kind,d.body.dat]
noncomputable def oD:Option Str→PyData
 | none=>.none
 | some s=>.str s
noncomputable def Z3t (h:Hs):PyData:=.tuple [.str h.name,oD h.elder,pairsD h.fields,.tuple (h.words.map Z2D)]
noncomputable def Z7a (P:Pg):PyData:=.tuple [.tuple (P.houses.map Z3t),.tuple [pairsD P.main.params,.str P.main.kind,P.main.body.dat]]
inductive WdO (K:W.Frag) (c:CS) (H:Hp):V→Wd→Prop
 | mk {a dx pt:Addr} {bv:V} {d:Wd}:H a=some (.ins c.word dx [("name",.str d.name),("params",.ref pt),("kind",.str d.kind),("body",bv)])→RT K H (.ref pt) (pairsD d.params)→TO K c.term H bv d.body→WdO K c H (.ref a) d
inductive HsO (K:W.Frag) (c:CS) (H:Hp):V→Hs→Prop
 | mk {a dx ft wt:Addr} {ws:List V} {h:Hs}:H a=some (.ins c.house dx [("name",.str h.name),("elder",oS h.elder),("own_fields",.ref ft),("own_words",.ref wt)])→RT K H (.ref ft) (pairsD h.fields)→SqT K H wt ws→A2 (WdO K c H) ws h.words→HsO K c H (.ref a) h
inductive PgO (K:W.Frag) (c:CS) (H:Hp):V→Pg→Prop
 | mk {a dx ht:Addr} {hs:List V} {mv:V} {P:Pg}:H a=some (.ins c.program dx [("all_houses",.ref ht),("main",mv)])→SqT K H ht hs→A2 (HsO K c H) hs P.houses→WdO K c H mv P.main→PgO K c H (.ref a) P
structure WdOk (d:Wd):Prop where
 ok:P15.Ok d.body
 fl:d.body.flat.length≤100
 pl:d.params.length≤100
structure HsOk (h:Hs):Prop where
 wd:∀ d∈h.words,WdOk d
 fl:h.fields.length≤100
 wl:h.words.length≤100
structure GOk (P:Pg):Prop where
 nd:(P.houses.map Hs.name).Nodup
 hs:∀ h∈P.houses,HsOk h
inductive HlO (K:W.Frag) (c:CS) (H:Hp):V→Pg→Prop
 | mk {a dx io d:Addr} {kvs:List (Key×V)} {P:Pg}:H a=some (.ins c.hall dx [("in_order",.ref io),("by_name",.ref d)])→H d=some (.dK kvs)→A2 (fun kv h=>kv.1=.inr h.name∧HsO K c H kv.2 h) kvs P.houses→GOk P→HlO K c H (.ref a) P
section
variable {K:W.Frag} {H H':Hp} {c:CS}
theorem WdO.same {v:V} {d:Wd} (h:WdO K c H v d) (s:Same H H'):WdO K c H' v d:=by
 cases h with
 | mk a b t=>exact .mk (s _ _ a) (b.same s) (t.kp (Kp.of s))
theorem HsO.same {v:V} {d:Hs} (h:HsO K c H v d) (s:Same H H'):HsO K c H' v d:=by
 cases h with
 | mk a b q t=>exact .mk (s _ _ a) (b.same s) (SqT.kp q (Kp.of s)) (t.mono fun _ _ r=>r.same s)
theorem PgO.same {v:V} {d:Pg} (h:PgO K c H v d) (s:Same H H'):PgO K c H' v d:=by
 cases h with
 | mk a q t m=>exact .mk (s _ _ a) (SqT.kp q (Kp.of s)) (t.mono fun _ _ r=>r.same s) (m.same s)
theorem HlO.same {v:V} {P:Pg} (h:HlO K c H v P) (s:Same H H'):HlO K c H' v P:=by
 cases h with
 | mk a d r n=>exact .mk (s _ _ a) (s _ _ d) (r.mono fun _ _ r=>⟨r.1,r.2.same s⟩) n
theorem J0C {hs:List Hs} {kvs:List (Key×V)} (r:A2 (fun kv h=>kv.1=.inr h.name∧HsO K c H kv.2 h) kvs hs) (n:(hs.map Hs.name).Nodup) {x:Hs} (hx:x∈hs):∃ v,valV kvs (.inr x.name)=some v∧HsO K c H v x:=by
 induction r with
 | nil=>cases hx
 | @cons p q as bs e _ ih=>
  rw [List.map_cons,List.nodup_cons] at n
  by_cases hq:q.name=x.name
  ·rcases List.mem_cons.mp hx with rfl | hx
   ·exact ⟨p.2,Z1l e.1,e.2⟩
   ·exact absurd (hq▸List.mem_map_of_mem hx) n.1
  ·rcases List.mem_cons.mp hx with rfl | hx
   ·exact absurd rfl hq
   ·rw [Z1g (by rw [e.1]; exact fun z=>hq (Sum.inr.inj z))]
    exact ih n.2 hx
end
noncomputable def fsW (hl wA ml:Addr) (most c w:Nat) (ev:V):List (Str×V):=[("hall",.ref hl),("most",.int most),("waits",.ref wA),("made",.ref ml),("counted",.int c),("within",.int w),("ended",ev)]
structure Ad where
 dx:Addr
 hl:Addr
 wA:Addr
 dw:Addr
 wl:Addr
 kl:Addr
 ml:Addr
 ev:V
 ws:List V
 ks:List V
 mz:List (V×Addr)
section
variable {K:W.Frag} {H H':Hp} {c:CS} {P:Pg} {most:Nat} {a:Addr} {A:Ad} {S:Ws}
end
section
variable {K:W.Frag} {H:Hp} {c:CS} {B:Hp}
end
end WK
end
section
namespace PySem
end PySem
end
section
namespace L2
open PySem PySem.Spec PyProof.Rows
theorem Z4j:entryFor table "dict.update.loop"=some Builtin.«dict.update.loop»:=entryFor_of_tree (by kernel_rfl)
theorem Z2s:plainId "dict.update.loop"=true:=by decide +kernel
def absD (ks:Nat→Key) (ys:Nat→V):Nat→List (Key×V)
 | 0=>[]
 | i+1=>putK (absD ks ys i) (ks i) (ys i)
theorem Z6z (ks:Nat→Key) (ys:Nat→V):∀ i,(absD ks ys i).length≤i
 | 0=>Nat.le_refl _
 | i+1=>by
  have:=Z2P (absD ks ys i) (ks i) (ys i)
  have:=Z6z ks ys i
  show (putK _ _ _).length≤_
  omega
section
variable {P:Program} {w:World} {B:Around} {E:Value→Shared→Prop} {it Z:Addr} {n:Nat} {St:Nat→Array Value→Shared→Prop} {Fin:Array Value→Shared→Prop} {R:Result→Shared→Prop}
theorem J0m (W:Z9a P w B.in1 it Z n St Fin) (fr:∀ (i:Nat) (acc:Array Value) (s:Shared) (h':Heap) (t:Nat),St i acc s→(∀ b o,b≠Z→s.heap.get? b=some o→h'.get? b=some o)→s.heap.objs.size≤h'.objs.size→St i acc { s with heap:=h',toks:=t }) (ks:Nat→Key) (ys:Nat→V)
  (pr:∀ (i:Nat) (acc:Array Value) (v:Value) (s:Shared),i < n→St (i+1) (acc.push v) s→∃ T uk uv o m,v=.ref T∧s.heap.get? T=some o∧o.cls=.type "tuple"∧o.data=.seq #[uk,uv] m∧(Z0T P w).is (ks i) uk=true∧RelV (ys i) uv) (hn:n≤sizeLine) (res:Value) :
  ∀ (k i:Nat) (s:Shared) (acc:Array Value) (vs:List (Key×Value)),n - i=k→i≤n→St i acc s→KV (absD ks ys i) vs→s.heap.DictOf (Z0T P w) Z vs →
  (∀ s' acc' vs',Fin acc' s'→KV (absD ks ys n) vs'→s'.heap.DictOf (Z0T P w) Z vs'→R (.ok (.ret res)) s')→codeAny (model P w) B (.builtin "dict.update.loop" ⟨[.ref Z,.ref it,rawInt i,res],[]⟩) R s:=by
 intro k
 induction k with
 | zero=>
  intro i s acc vs hk hi st kv g q
  have ei:i=n:=Nat.le_antisymm hi (Nat.sub_eq_zero_iff_le.mp hk)
  subst ei
  refine codeAny_builtin Z4j ?_; rw [Around.under_plainId Z2s ⟨[.ref Z,.ref it,rawInt i,res],[]⟩]
  show wpAny (model P w) B.in1 (pyNext (.ref it) >>= _) _ _ s
  refine wpAny_bind (W.done acc s _ _ st fun s' f kz=>?_)
  show wpAny _ _ (Builtin.Dict.addKeywords Z [] >>= _) _ _ _
  exact wpAny_bind (wpAny_pure (wpAny_pure (q s' acc vs f kv (g.at kz))))
 | succ k ih=>
  intro i s acc vs hk hi st kv g q
  have lt:i < n:=by omega
  refine codeAny_builtin Z4j ?_; rw [Around.under_plainId Z2s ⟨[.ref Z,.ref it,rawInt i,res],[]⟩]
  show wpAny (model P w) B.in1 (pyNext (.ref it) >>= _) _ _ s
  refine wpAny_bind (W.item i acc s _ _ lt st fun v s1 st1 kz=>?_)
  obtain ⟨T,uk,uv,⟨oc,odc,oda,osl⟩,m,rfl,hp,hcl,hda,hk1,hv1⟩:=pr i acc v s1 lt st1
  dsimp only at hcl hda
  subst hcl hda
  have g1:=g.at kz
  dsimp only
  refine wpAny_bind (wpAny_holding (wpAny_bind (wpAny_tryCatch ?_)))
  unfold Builtin.Dict.pairItems
  refine wpAny_bind (wpAny_typeOf (T:="tuple") ⟨_,hp,rfl⟩ ?_)
  have e0:(Value.type "tuple" == Value.type "list" || Value.type "tuple" == Value.type "tuple")=true:=by decide
  rw [if_pos e0]
  unfold seqItems?
  refine wpAny_bind (wpAny_bind (wpAny_load hp (wpAny_pure ?_)))
  refine wpAny_pure ?_
  show wpAny (model P w) B.in1 (holding [uk,uv] (dictSet Z uk uv)) _ _ _
  have hl:vs.length≤sizeLine:=by
   rw [← kv.length]
   exact Nat.le_trans (Z6z ks ys i) (Nat.le_trans hi hn)
  refine wpAny_holding (wpAny_dictSet_pairs (hsz:=hl) hk1 g1 fun h' dd hs=>?_)
  refine wpAny_pure ⟨plainId_quiet Z2s ⟨[.ref Z,.ref it,rawInt ((i:Int)+1),res],[]⟩,?_⟩
  exact ih (i+1) _ (acc.push (.ref T)) (stored vs (ks i) uv) (by omega) lt (fr (i+1) _ s1 h' _ st1 (fun b o hb e=>(hs.2 b hb).trans e) (Nat.le_of_eq hs.1.symm)) (KV.put kv (ks i) hv1) dd q
end
end L2
end
section
namespace L2
open PySem PySem.Spec PyProof.Rows
section
variable {P:Program} {w:World} {B:Around} {E:Value→Shared→Prop} {s:Shared} {it:Addr} {n:Nat} {St:Nat→Array Value→Shared→Prop} {Fin:Array Value→Shared→Prop}
end
end L2
end
section
namespace L2
open PySem PySem.Spec PyProof.Rows
noncomputable def zipD (ks:List Str) (ys:List V):List (Key×V):=absD (fun i=>.inr (ks.getD i "")) (fun i=>ys.getD i .non) (min ks.length ys.length)
def J8l (K:W.Frag) (t:TA):TE:=fun σ H Q=>t σ H fun vs H1=>∃ (a b:Addr) (ks:List Str) (ys:List V),vs=[.ref a,.ref b]∧SqL K H1 a (ks.map V.str)∧SqL K H1 b ys∧∀ d H2,H1 d=none→Same H1 H2→H2 d=some (.dK (zipD ks ys))→Q (.ref d) H2
theorem J6H {K:W.Frag} {t:TA} {σ:St} {H:Hp} {Q:VK}:J8l K t σ H Q=t σ H fun vs H1=>∃ (a b:Addr) (ks:List Str) (ys:List V),vs=[.ref a,.ref b]∧SqL K H1 a (ks.map V.str)∧SqL K H1 b ys∧∀ d H2,H1 d=none→Same H1 H2→H2 d=some (.dK (zipD ks ys))→Q (.ref d) H2:=rfl
section
variable {X:Cx} {pins:List (Addr×Obj)} {σ:St} {H1:Hp} {s1:Shared} {l1 l2:Addr} {xs ys:List V}
def J5O (xs:List V) (H:Hp) (Q:VK):Prop:=∃ a kvs,xs=[V.ref a]∧H a=some (.dK kvs)∧∀ p,H p=none→Q (.ref p) (upd H p (.dK kvs))
theorem J5f {xs:List V} {H:Hp} {Q:VK}:J5O xs H Q=∃ a kvs,xs=[V.ref a]∧H a=some (.dK kvs)∧∀ p,H p=none→Q (.ref p) (upd H p (.dK kvs)):=rfl
def J6b:V→List V→Hp→VK→Prop:=fun x vs H Q=>∃ (l:Addr) (ks:List Str) (k:Str) (j:Nat),x=.ref l∧vs=[.str k]∧H l=some (.lst (ks.map V.str))∧ks[j]?=some k∧(∀ i,i < j→ks[i]?≠some k)∧Q (.int j) H
theorem J6j {x:V} {vs:List V} {H:Hp} {Q:VK}:J6b x vs H Q=∃ (l:Addr) (ks:List Str) (k:Str) (j:Nat),x=.ref l∧vs=[.str k]∧H l=some (.lst (ks.map V.str))∧ks[j]?=some k∧(∀ i,i < j→ks[i]?≠some k)∧Q (.int j) H:=rfl
theorem Z3g:∀ ks:List Str,(ks.map V.str).all Z3B=true
 | []=>rfl
 | _::ks=>by rw [List.map_cons,List.all_cons,Z3g ks]; rfl
end
end L2
end
section
namespace L2
open PySem PySem.Spec PyProof.Rows
section
variable {P:Program} {w:World} {K:W.Frag} {mg:Str→Option Value} {base:Heap}
end
section
variable {X:Cx} {x:Str} {ps:List Str} {sp:Sp} {k j:Nat} {e:Expr} {es:List Expr} {t:TA} {p pos:Pos} {dvs:List V}
end
end L2
end
section
namespace L2
open PySem PySem.Spec PyProof.Rows
variable {X:Cx}
def J7v (ta:TA):TE:=fun σ H Q=>ta σ H fun vs H1=>∃ n:Nat,vs=[.int (n:Int)]∧n≤1000000∧∀ l,H1 l=none→Q (.ref l) (upd H1 l (.lst ((List.range n).map fun i=>V.int ((i:Nat):Int))))
theorem J7g {ta:TA} {σ:St} {H:Hp} {Q:VK}:J7v ta σ H Q=ta σ H fun vs H1=>∃ n:Nat,vs=[.int (n:Int)]∧n≤1000000∧New H1 (.lst ((List.range n).map fun i=>V.int ((i:Nat):Int))) fun l H2=>Q (.ref l) H2:=rfl
theorem J6L {σ:St} {H:Hp} {Q:List (V×V)→Hp→Prop}:Z4M [] σ H Q=Q [] H:=rfl
theorem J7h {tk tv:TE} {r:List (TE×TE)} {σ:St} {H:Hp} {Q:List (V×V)→Hp→Prop}:Z4M ((tk,tv)::r) σ H Q=tk σ H fun x H1=>tv σ H1 fun y H2=>Z4M r σ H2 fun ps H3=>Q ((x,y)::ps) H3:=rfl
theorem J6M {trs:List (TE×TE)} {σ:St} {H:Hp} {Q:VK}:J8f trs σ H Q=New H (.dK []) fun p H1=>Z4M trs σ H1 fun ps H2=>H2 p=some (.dK [])∧∃ kvs:List (Key×V),ps=kvs.map (fun kv=>(kV kv.1,kv.2))∧kvs.length≤15∧Q (.ref p) (upd H2 p (.dK (J2P [] kvs))):=rfl
end L2
end
section
namespace L2
open PySem PySem.Spec PyProof.Rows
def BAt (mg:Str→Option Value) (base:Heap):Prop:=∃ bm o,mg "__builtins__"=some (.ref bm)∧bm≠builtinsNs∧bm≠mainGlobals∧base.get? bm=some o∧o.cls=.type "module"∧o.dict=some builtinsNs∧o.data=.plain
section
variable {X:Cx} {pins:List (Addr×Obj)} {σ:List (Option V)} {H:Hp} {s:Shared}
theorem Inv.grown {P:Addr} {ps more:Array Value} {h':Heap} {tk:Nat} (I:Inv X pins σ H s) (hP:H P=some (.tbl ps)) (k:∀ b o,b≠P→s.heap.get? b=some o→h'.get? b=some o) (hn:h'.get? P=some { cls:=.none,data:=.fields (ps++more) }) :
  Inv X pins σ (upd H P (.tbl (ps++more))) { s with heap:=h',toks:=tk }:=by
 have np:∀ b,H b=none→b≠P:=fun b n z=>by rw [z,hP] at n; cases n
 refine I.step (g':=s.gens) (d':=s.drawn) (ch:=[]) (fun _ z=>nomatch z) (fun b o _ _ _ e n=>k b o (np b n) e) (fun b o _ _ _ e n=>⟨o.slots,k b o (np b n) e⟩) (fun b o _ _ n=>by rw [Z0h (np b n)]; exact n) (fun b o _ e=>?_)
  (fun b xs e=>by rw [Z0h (Z3V e hP (fun z=>by cases z))]; exact e) (fun b o u e=>by rw [Z0h (Z3V e hP (fun z=>by cases z))]; exact e) (fun b qs e=>?_) (fun m hm=>?_) (fun b u e=>?_) I.bare
 ·by_cases hb:b=P
  ·exact ⟨_,hb▸hn⟩
  ·exact ⟨o,k b o hb e⟩
 ·by_cases hb:b=P
  ·subst hb
   rw [hP] at e; cases e
   exact ⟨more,Z0e⟩
  ·exact ⟨#[],by rw [Z0h hb,e]; simp⟩
 ·obtain ⟨o,es,ep,ho,r⟩:=hm
  exact ⟨o,es,ep,k _ o (np _ I.free) ho,r⟩
 ·by_cases hb:b=P
  ·subst hb
   rw [Z0e] at e; cases e
   exact hn
  ·rw [Z0h hb] at e
   refine (I.hok b u e).stay (fun c v hc q=>k c v ?_ q) (fun c q=>?_) fun c xs q=>?_
   ·rcases hc with z | z
    ·rw [z]; exact hb
    ·exact Z3V z hP (fun z=>by cases z)
   ·rw [Z0h (Z3V q hP (fun z=>by cases z))]; exact q
   ·rw [Z0h (Z3V q hP (fun z=>by cases z))]; exact q
theorem Inv.pin1 {p:Addr×Obj} (I:Inv X pins σ H s) (h:s.heap.get? p.1=some p.2) (hn:H p.1=none) (hl:X.s₀.heap.objs.size≤p.1) (hL:p.1≠X.env.locals) (hd:∀ v,p.2.data≠.cell v):Inv X (p::pins) σ H s:=by
 refine I.pins_of fun q hq=>?_
 rcases (List.mem_cons.mp hq) with rfl | hq
 ·exact ⟨h,hn,hL,fun z=>by
   obtain ⟨_,o,ho,_⟩:=I.ok.funs.mem z
   exact absurd (Nat.lt_of_lt_of_le (Heap.lt_size ho) hl) (Nat.lt_irrefl _),hd⟩
 ·exact I.pin q (List.mem_append_right _ hq)
theorem J0G {params:Arguments} {body:Expr} {scope:Scope} {pos:Pos} {c P:Addr} {ps:Array Value} {clos:List (Str×Addr)} {Q:Value→Shared→Prop} {E:Value→Shared→Prop} (I:Inv X pins σ H s) (hb:BAt X.mg X.base) (hcode:X.env.code=.ref c) (C:W.CodeHd X.base c P) (hP:H P=some (.tbl ps)) (ht:TriplesOk ps.toList)
  (hnf:codeAmong pos ps.toList=none) (hcl:closureFor scope X.env=pure clos) (hdef:defaultsOf params X.env=([],[]))
  (h:∀ f c' oc ctv pm vs t s',(oc:Obj).data=.fields vs→vs[1]?=some (.str (X.env.qual++"<lambda>") t)→Inv X ((f,W.kla_obj "<lambda>" (X.env.qual++"<lambda>") params body scope clos pm c' ctv)::(c',oc)::pins) σ (upd H P (.tbl (ps++#[rawInt pos.line,rawInt pos.col,.ref c']))) s'→Q (.ref f) s') :
  wpAny (model X.prog X.w) X.A (eval (.Lambda params body scope pos) X.env) Q E s:=by
 obtain ⟨bm,o,b1,b2,b3,b4,b5,b6,b7⟩:=hb
 have hP':s.heap.get? P=some (W.tabObj ps):=I.hok P _ hP
 have hg:s.heap.Ns mainGlobals X.mg:=I.mod.glob.keeps I.bk
 have nP:∀ b ob,X.base.get? b=some ob→b≠P:=fun b ob e z=>by
  have:=(I.bs b ob e).2
  rw [z,hP] at this; cases this
 have hgP:mainGlobals≠P:=by
  obtain ⟨og,es,ep,e,_⟩:=I.mod.glob
  exact nP _ _ e
 refine W.kla_eval hdef (W.kla_makeFunction (mg:=X.mg) hcl I.ok.glob hg hcode (C.keeps I.bk) hP' ht hnf hgP ⟨bm,o,b1,b2,b3,nP _ _ b4,I.bk _ _ b4,b5,b6,b7⟩ fun c' ctv h' tk hx hge hlt hrec htb=>?_)
 obtain ⟨c₂,oc,vs,t,e2,hoc,hd,hv⟩:=(hrec)
 cases e2
 have cP:c'≠P:=fun z=>by
  have:=Heap.lt_size hP'
  rw [z] at hge
  exact absurd this (Nat.not_lt.mpr hge)
 have hPs:P < h'.objs.size:=Heap.lt_size htb
 have I1:Inv X pins σ (upd H P (.tbl (ps++#[rawInt pos.line,rawInt pos.col,.ref c']))) { s with heap:=h'.push (W.kla_obj "<lambda>" (X.env.qual++"<lambda>") params body scope clos ((X.mg "__name__").getD .none) c' ctv),toks:=tk }:=
  I.grown hP (fun b ob hb e=>Heap.get?_push_of_some _ (hx b ob hb e)) (Heap.get?_push_of_some _ htb)
 have hs0:X.s₀.heap.objs.size≤c':=Nat.le_trans I.sz hge
 have hL:X.env.locals < c':=Nat.lt_of_lt_of_le I.lt hge
 have I2:=I1.pin1 (p:=(c',oc)) (Heap.get?_push_of_some _ hoc) (by rw [Z0h cP]; exact I.hok.fresh hge) hs0 (Nat.ne_of_gt hL) (fun v z=>by rw [hd] at z; cases z)
 have I3:=I2.pin1 (p:=(h'.objs.size,W.kla_obj "<lambda>" (X.env.qual++"<lambda>") params body scope clos ((X.mg "__name__").getD .none) c' ctv)) (Heap.get?_push_size _ rfl) (by rw [Z0h (Nat.ne_of_gt hPs)]; exact I.hok.fresh (Nat.le_trans hge (Nat.le_of_lt hlt))) (Nat.le_trans hs0 (Nat.le_of_lt hlt)) (Nat.ne_of_gt (Nat.lt_trans hL hlt)) (fun v z=>by cases z)
 exact h _ _ _ _ _ _ _ _ hd hv I3
end
def Cx.lam (X:Cx) (A:Around) (N:List Str) (qual:Str) (scope:Scope) (cl:List (Str×Addr)) (f c:Addr) (s:Shared) (H:Hp):Cx:=
 { X with A:=A.deeper (W.envX qual scope s.heap.objs.size f (.ref c) cl),N:=N,s₀:=s,H₀:=H,env:=W.envX qual scope s.heap.objs.size f (.ref c) cl,outer:=X.stack,stack:=W.envX qual scope s.heap.objs.size f (.ref c) cl::X.stack,ex:=[],fn:=fun _=>false,calm:=true,pn:=[],xe:=fun _ _=>False }
section
variable {X:Cx} {pins:List (Addr×Obj)} {σ:St} {H:Hp} {s:Shared} {A:Around} {N:List Str} {nl:List (Option Nat)} {qual y:Str} {scope:Scope} {cl:List (Str×Addr)} {f c:Addr}
theorem Z9G {h1:Heap} {tk:Nat} {u:Value} {v:V} (I:Inv X pins σ H s) (B:BlockOk X (y::N) (none::nl) scope cl) (hy:scope.names.lookup y=some .local) (hN:∀ z∈N,z≠y) (hA:A.frames=some X.stack) (hh:A.handled=none) (rv:RelV v u)
  (hk:∀ b o,s.heap.get? b=some o→h1.get? b=some o) (hn:h1.Ns s.heap.objs.size (fun z=>[(y,u)].reverse.lookup z)) :
  Inv (X.lam A (y::N) qual scope cl f c s H) [] (some v::stOf nl σ) H { s with heap:=h1,toks:=tk }:=by
 have noA:∀ b:Addr,b∉(X.lam A (y::N) qual scope cl f c s H).ex:=fun b z=>absurd (show b∈([]:List Addr) from z) (by simp)
 refine ⟨⟨I.ok.mod,B.kind,rfl,rfl,Nat.le_refl _,fun x z c h1 h2=>I.ok.inj x z c (B.sub x c h1) (B.sub z c h2),fun x hx=>?_,fun x c h=>(nomatch h),fun _=>hh,Around.frames_deeper hA,.inr ⟨rfl,rfl⟩,fun b z=>absurd z (noA b),I.bs,Nat.le_trans I.ok.bsz I.sz,fun b _ _=>noA b,fun b z=>absurd z (noA b),I.stack,I.stkFree⟩,
  rfl,I.bare,Un.kept hk,⟨_,hn,fun i x v' e1 e2 e3=>?_⟩,fun x c e=>?_,I.hok.fresh (Nat.le_refl _),fun x c e=>I.freeC x c (B.sub x c e),fun p hp=>absurd (show p∈([]:List (Addr×Obj)) from hp) (by simp),I.hok.kept hk,?_⟩
 ·have hx:scope.names.lookup x=some .cell∨scope.names.lookup x=some .free:=hx
  rcases hx with q | q
  ·exact absurd rfl (B.nocell _ (Z0E q))
  ·exact B.has x q
 ·cases i with
  | zero=>
   have e1:y=x:=Option.some.inj e1
   have e2:v=v':=Option.some.inj (Option.some.inj e2)
   subst e1 e2
   refine ⟨u,rv,.inl ⟨hy,?_⟩⟩
   show List.lookup y [(y,u)]=some u
   rw [List.lookup_cons,beq_self_eq_true]
  | succ i=>
   have e2:(stOf nl σ)[i]?=some (some v'):=e2
   obtain ⟨j,hj,hv⟩:=Z5m e2
   obtain ⟨x1,x2,x3⟩:=B.seen (i+1) j x e1 hj
   obtain ⟨m0,hm0,hl0⟩:=I.loc
   obtain ⟨u',r,l⟩:=hl0 j x v' x1 hv (.inr x3)
   refine ⟨u',r,?_⟩
   rcases l with ⟨hk1,_⟩ | ⟨_,c,hc,z⟩
   ·have hk1':X.env.scope.names.lookup x=some .local:=hk1
    rcases x3 with q | q <;> (rw [hk1'] at q; cases q)
   ·refine .inr ⟨.inr x2,c,?_,z.keeps hk⟩
    obtain ⟨c',hc'⟩:=B.has x x2
    have q:=B.sub x c' hc'
    rw [hc] at q
    cases q
    exact hc'
 ·obtain ⟨v,q⟩:=I.cell x c (B.sub x c e)
  exact ⟨v,q.keeps hk⟩
 ·show (some v::stOf nl σ).length=(y::N).length
  have:=B.len
  rw [List.length_cons,List.length_cons] at this ⊢
  unfold stOf
  rw [List.length_map]
  exact this
theorem J3E {params:Arguments} {nm:Str} {body:Expr} {pm ctv:Value} {oc:Obj} {vs:Array Value} {t:Tok} {te:TE} {Q:VK} {u:Value} {v:V} (I:Inv X pins σ H s) (B:BlockOk X (y::N) (none::nl) scope cl) (hy:scope.names.lookup y=some .local) (hN:∀ z∈N,z≠y)
  (hA:A.frames=some X.stack) (hh:A.handled=none) (hd:A.depth < recursionLimit) (hf:(f,W.kla_obj nm qual params body scope cl pm c ctv)∈pins) (hc:(c,oc)∈pins) (hoc:oc.data=.fields vs) (hv:vs[1]?=some (.str qual t))
  (hco:scope.isCoroutine=false) (hgen:scope.isGenerator=false) (hb:bindArgs (W.kla_fn nm qual params body scope cl pm (.ref c) ctv) ⟨[u],[]⟩=pure [(y,u)])
  (he:PE (X.lam A (y::N) qual scope cl f c s H) body te) (rv:RelV v u) (h:te (some v::stOf nl σ) H Q):wpAny (model X.prog X.w) A (call (.ref f) [u]) (EP X pins σ Q) (fun _ _=>False) s:=by
 have pf:=I.pin _ (List.mem_append_right _ hf)
 have pc:=I.pin _ (List.mem_append_right _ hc)
 refine wpAny_call (codeAny_mono (R:=fun r s'=>∃ u',r=.ok (.ret u')∧EP X pins σ Q u' s') (W.kla_callFunE hd pf.1 rfl hco hgen rfl ⟨c,oc,vs,t,rfl,pc.1,hoc,hv⟩ ?_) fun r s' hq=>?_)
 ·rw [hb]
  refine wpAny_pure (wpAny_newFunctionEnv B.nocell (fun z hz=>?_) (fun h1 hns hsb=>?_) B.kind)
  ·cases List.mem_singleton.mp hz; exact hy
  have hk:∀ b o,s.heap.get? b=some o→h1.get? b=some o:=fun b o e=>hsb.extBut b o (Nat.ne_of_lt (Heap.lt_size e)) (Heap.get?_push_of_some _ e)
  refine ⟨I.nolimit.keeps hk,W.kla_codeExpr (wpAny_mono (he [] _ _ H Q (Z9G I B hy hN hA hh rv hk hns) h) (fun u' s' hq=>?_) fun _ _ hF=>hF.elim)⟩
  obtain ⟨v',H',J,rv',q⟩:=hq
  refine ⟨u',rfl,?_⟩
  exact I.after ⟨v',H',J.os,J.bare,J.base,J.hok,rv',q⟩
 ·obtain ⟨u',rfl,hq⟩:=hq
  exact hq
end
end L2
end
section
namespace L2
open PySem PySem.Spec PySem.Calls PyProof.Rows
def KasIn {α:Type} (n:Nat) (Q:α→Prop):W.KasT α→Prop
 | .ret a=>Q a
 | .ask i j k=>i < n∧j < n∧∀ b,KasIn n Q (k b)
theorem KasIn.bind {α β:Type} {n:Nat} {Q:α→Prop} {R:β→Prop} {f:α→W.KasT β}:∀ {t:W.KasT α},KasIn n Q t→(∀ a,Q a→KasIn n R (f a))→KasIn n R (t.bind f)
 | .ret a,h,k=>k a h
 | .ask i j t,h,k=>⟨h.1,h.2.1,fun b=>KasIn.bind (h.2.2 b) k⟩
def Pm (n:Nat) (p:Array Nat):Prop:=p.toList.Perm (List.range n)
section
variable {n:Nat} {p:Array Nat}
theorem Pm.lt (h:Pm n p) (h0:0 < n) (i:Nat):p.getD i 0 < n:=by
 rw [Array.getD_eq_getD_getElem?]
 cases e:p[i]? with
 | none=>exact h0
 | some x=>
  have hm:x∈p.toList:=by
   rw [Array.mem_toList_iff]; exact Array.mem_of_getElem? e
  exact List.mem_range.mp (h.mem_iff.mp hm)
theorem Pm.rev (h:Pm n p) (i j:Nat):Pm n (W.kas_rev p i j):=((Array.perm_iff_toList_perm.mp (mirror_perm p i j _))).trans h
theorem Pm.bub (h:Pm n p) (i j:Nat):Pm n (bubble p i j):=((Array.perm_iff_toList_perm.mp (bubble_perm p i j))).trans h
theorem J0d (h:Pm n p) (h0:0 < n):∀ f m,KasIn n (fun _=>True) (W.kas_asc p f m)
 | 0,_=>trivial
 | f+1,m=>⟨h.lt h0 _,h.lt h0 _,fun b=>by
  cases b
  ·exact J0d h h0 f (m+1)
  ·exact trivial⟩
theorem Z5b (h0:0 < n):∀ f (p:Array Nat) m q,Pm n p→KasIn n (fun r:Array Nat×Nat×Nat=>Pm n r.1) (W.kas_desc f p m q)
 | 0,_,_,_,h=>h
 | f+1,p,m,q,h=>⟨h.lt h0 _,h.lt h0 _,fun b=>by
  cases b
  ·exact ⟨h.lt h0 _,h.lt h0 _,fun d=>by
    cases d
    ·exact Z5b h0 f p (m+1) (q+1) h
    ·exact h⟩
  ·show KasIn n _ (if q > 0 then _ else _)
   split
   ·exact Z5b h0 f _ _ _ (h.rev _ _)
   ·exact Z5b h0 f _ _ _ h⟩
theorem Z7N (h0:0 < n) (a b:Nat) (h:Pm n p):KasIn n (fun r:Nat×Array Nat=>Pm n r.2) (W.kas_tail3 a b p):=
 KasIn.bind (J0d (h.rev 0 a) h0 _ _) fun _ _=>h.rev 0 a
theorem Z3L (h0:0 < n) (a b:Nat) (h:Pm n p):KasIn n (fun r:Nat×Array Nat=>Pm n r.2) (W.kas_descPart a b p):=by
 refine KasIn.bind (Z5b h0 _ _ _ _ h) fun r hr=>?_
 split
 ·exact Z7N h0 _ _ (hr.rev _ _)
 ·exact Z7N h0 _ _ hr
theorem J1u (h0:0 < n) (m:Nat) (h:Pm n p):KasIn n (fun r:Nat×Array Nat=>Pm n r.2) (W.kas_count m p):=by
 refine KasIn.bind (J0d h h0 _ _) fun k _=>?_
 split
 ·exact h
 split
 ·exact ⟨h.lt h0 _,h.lt h0 _,fun b=>by
   cases b
   ·exact Z3L h0 _ _ (h.rev _ _)
   ·exact h⟩
 ·exact Z3L h0 _ _ h
theorem Z4R (h:Pm n p) (h0:0 < n) (k:Nat):∀ f l r,KasIn n (fun _=>True) (W.kas_place p k f l r)
 | 0,_,_=>trivial
 | f+1,l,r=>by
  show KasIn n _ (if l ≥ r then _ else _)
  split
  ·exact trivial
  ·exact ⟨h.lt h0 _,h.lt h0 _,fun b=>by
    cases b
    ·exact Z4R h h0 k f _ _
    ·exact Z4R h h0 k f _ _⟩
theorem J2r (h0:0 < n):∀ f (p:Array Nat) k,Pm n p→KasIn n (Pm n) (W.kas_bin f p k)
 | 0,_,_,h=>h
 | f+1,p,k,h=>KasIn.bind (Z4R h h0 k _ _ _) fun l _=>J2r h0 f _ _ (h.bub _ _)
theorem J4n (h0:0 < n):KasIn n (Pm n) (W.kas_sort n):=by
 refine KasIn.bind (J1u h0 n (show Pm n (List.toArray (List.range n)) from List.Perm.refl _)) fun r hr=>?_
 split
 ·exact J2r h0 _ _ _ hr
 ·exact hr
end
theorem Z7M {α:Type} {cmp:Nat→Nat→(Bool→Shared→Prop)→Shared→Prop} {n:Nat} {St:Shared→Prop} {Q:α→Prop} {G:α→Shared→Prop} (hc:∀ i j C s,i < n→j < n→St s→(∀ b s',St s'→C b s')→cmp i j C s) (hG:∀ a s,Q a→St s→G a s) :
  ∀ {t:W.KasT α} {s:Shared},KasIn n Q t→St s→t.kasWp cmp G s
 | .ret a,s,h,hs=>hG a s h hs
 | .ask i j k,s,h,hs=>hc i j _ s h.1 h.2.1 hs fun b s' hs'=>Z7M hc hG (h.2.2 b) hs'
def Z3H (h:Heap) (v:Value):Prop:=∃ x o n i j t u,v=.ref x∧h.get? x=some o∧o.cls=.type "tuple"∧o.data=.seq #[.int i t,.int j u] n
section
variable {prog:Program} {w:World} {A:Around} {E:Value→Shared→Prop} {s:Shared}
theorem J3q {v v':Value} {Q:Bool→Shared→Prop} (hx:Z3H s.heap v) (hy:Z3H s.heap v') (h:∀ c,Q c s):wpAny (model prog w) A (keyLt' (tuples' true) v v') Q E s:=by
 obtain ⟨x,ox,n,i,j,t,u,rfl,e1,_,d1⟩:=hx
 obtain ⟨y,oy,m,i',j',t',u',rfl,e2,_,d2⟩:=hy
 refine W.kat_lt e1 d1 e2 d2 (W.kat_cons (wpAny_eqBool_int (W.kat_go (fun _=>W.kat_yes (W.kat_cons (wpAny_eqBool_int (W.kat_go (fun _=>W.kat_yes (W.kat_nil (h _))) fun _=>W.kat_no ?_)))) fun _=>W.kat_no ?_)))
 ·show wpAny _ _ (oneLt' false _ _) _ _ _
  refine W.kat_one _ _ (lt_int ?_)
  exact h _
 ·show wpAny _ _ (oneLt' true _ _) _ _ _
  exact oneLt_int (h _)
theorem Z4K {h:Heap}:∀ {ks:List Value},(∀ v∈ks,Z3H h v)→∃ fs,W.KatTups h ks fs∧fs.length=ks.length∧∀ f∈fs,∃ i t,f=.int i t
 | [],_=>⟨[],trivial,rfl,fun f hf=>by cases hf⟩
 | v::ks,hv=>by
  obtain ⟨fs,a,b,c⟩:=Z4K (ks:=ks) fun v h=>hv v (List.mem_cons_of_mem _ h)
  obtain ⟨x,o,n,i,j,t,u,rfl,e,hc,d⟩:=hv v List.mem_cons_self
  exact ⟨.int i t::fs,W.KatTups.cons e hc d rfl a,by rw [List.length_cons,List.length_cons,b],fun f hf=>by
   rcases List.mem_cons.mp hf with rfl | hf
   ·exact ⟨i,t,rfl⟩
   ·exact c f hf⟩
theorem Z8A {ks:List Value} {Q:SortKind→Shared→Prop} (hk:∀ v∈ks,Z3H s.heap v) (h0:0 < ks.length) (h:Q (tuples' true) s):wpAny (model prog w) A (keyKind' ks.toArray) Q E s:=by
 obtain ⟨fs,a,b,c⟩:=Z4K hk
 refine W.kat_kind (T:=.type "int") a (by omega) (fun f hf=>?_) rfl h
 obtain ⟨i,t,rfl⟩:=c f hf
 exact .now
end
section
variable {prog:Program} {w:World} {A:Around} {E:Value→Shared→Prop} {s:Shared} {a kS:Addr} {ks vs:List Value} {e e1:Nat} {P:PySem.Fin→Shared→Prop}
theorem J2D {st:SortSt} {out:List Value} (nk:s.heap.get? kS=some (seqObj "list" (List.toArray ks) e)) (na:s.heap.get? a=some (seqObj "list" #[] e1)) (hka:kS≠a) (hout:(arrOf st).map (·.2)=List.toArray out) (hz:out.length < 64) (hkz:ks.length < 64) (hf:failedOf st=none)
  (h:∀ h' c c2,(∀ b o,b≠kS→b≠a→s.heap.get? b=some o→h'.get? b=some o)→h'.get? kS=some (seqObj "list" #[] c)→h'.get? a=some (seqObj "list" (List.toArray out) c2)→P (.done (.ret .none)) { s with heap:=h' }) :
  wpAny (model prog w) A (PyProof.Rows.ksk_tail a false e1 (.ref kS) st) P E s:=by
 have s1:=(Heap.SameBut.update s.heap kS (Obj.mapSeq fun _=>(#[]:Array Value)))
 obtain ⟨ck,hck⟩:∃ ck,(s.heap.update kS (Obj.mapSeq fun _=>(#[]:Array Value))).get? kS=some (seqObj "list" #[] ck):=⟨_,get?_update_seq nk fun _=>#[]⟩
 have na1:(s.heap.update kS (Obj.mapSeq fun _=>(#[]:Array Value))).get? a=some (seqObj "list" #[] e1):=(s1.2 a hka.symm).trans na
 have s2:=Heap.SameBut.update (s.heap.update kS (Obj.mapSeq fun _=>(#[]:Array Value))) a (Obj.mapSeq fun _=>List.toArray out)
 obtain ⟨c2,hc2⟩:∃ c2,((s.heap.update kS (Obj.mapSeq fun _=>(#[]:Array Value))).update a (Obj.mapSeq fun _=>List.toArray out)).get? a=some (seqObj "list" (List.toArray out) c2):=⟨_,get?_update_seq na1 fun _=>List.toArray out⟩
 unfold PyProof.Rows.ksk_tail
 try dsimp only
 rw [hout]
 simp only [Bool.false_eq_true,if_false]
 refine wpAny_bind (listUpdate_at nk rfl ?_ (by rw [List.size_toArray,sizeLine_eq]; omega) (Nat.zero_le _))
 refine wpAny_bind (wpAny_letGo ?_)
 refine wpAny_bind (seqEpoch_at na1 rfl ?_)
 refine wpAny_bind (listUpdate_at na1 rfl ?_ (Nat.zero_le _) (by rw [List.size_toArray,sizeLine_eq]; omega))
 rw [hf]
 simp only [bne_self_eq_false,Bool.false_eq_true,if_false]
 exact wpAny_pure (h _ ck c2 (fun b o h1 h2 q=>(s2.2 b h2).trans ((s1.2 b h1).trans q)) ((s2.2 kS hka).trans hck) hc2)
theorem J7C (hl:ks.length=vs.length) (h64:vs.length < 64) (nk:s.heap.get? kS=some (seqObj "list" (List.toArray ks) e)) (na:s.heap.get? a=some (seqObj "list" #[] e1)) (hka:kS≠a) (hp:∀ k∈ks,Z3H s.heap k)
  (h:∀ p h' tk c c2,Pm vs.length p→(∀ b o,b≠kS→b≠a→s.heap.get? b=some o→h'.get? b=some o)→h'.get? kS=some (seqObj "list" #[] c)→h'.get? a=some (seqObj "list" (List.toArray (p.toList.map fun i=>vs.getD i Value.none)) c2)→P (.done (.ret .none)) { s with heap:=h',toks:=tk }) :
  wpAny (model prog w) A (PyProof.Rows.ksk_end a false vs.toArray e1 (.ref kS) (List.toArray ks)) P E s:=by
 unfold PyProof.Rows.ksk_end
 try dsimp only
 simp only [Bool.false_eq_true,if_false]
 by_cases hn:vs.length < 2
 ·have hn2:vs.toArray.size < 2:=by rw [List.size_toArray]; exact hn
  rw [if_pos hn2,if_pos hn2]
  refine wpAny_bind (wpAny_pure (wpAny_bind (wpAny_pure ?_)))
  have hz:(((List.toArray ks).zip vs.toArray).map (·.2))=List.toArray vs:=by
   apply Array.toList_inj.mp
   simp
   exact List.map_snd_zip (by omega)
  refine J2D (out:=vs) nk na hka hz h64 (by omega) rfl fun h' c c2 k1 k2 k3=>?_
  refine h (List.toArray (List.range vs.length)) h' s.toks c c2 (List.Perm.refl _) k1 k2 ?_
  rw [k3]
  have:(List.range vs.length).map (fun i=>vs.getD i Value.none)=vs:=by
   refine List.ext_getElem? fun i=>?_
   rw [List.getElem?_map]
   by_cases hi:i < vs.length
   ·rw [List.getElem?_range hi,List.getElem?_eq_getElem hi]
    show some (vs.getD i Value.none)=_
    rw [List.getD_eq_getElem?_getD,List.getElem?_eq_getElem hi]; rfl
   ·rw [List.getElem?_eq_none (by rw [List.length_range]; omega),List.getElem?_eq_none (by omega)]; rfl
  rw [this]
 ·have hn2:¬ vs.toArray.size < 2:=by rw [List.size_toArray]; exact hn
  rw [if_neg hn2,if_neg hn2]
  refine wpAny_bind (Z8A hp (by omega) ?_)
  have go:(W.kas_sort vs.length).kasWp (W.kas_ask prog w A (tuples' true) ks) (fun p s'=>Pm vs.length p∧s'.heap=s.heap∧∃ tk,s'={ s with toks:=tk }) s:=by
   refine Z7M (n:=vs.length) (St:=fun s'=>s'.heap=s.heap∧∃ tk,s'={ s with toks:=tk }) (Q:=Pm vs.length) (fun i j C s' hi hj hs hC=>?_) (fun p s' hp hs=>⟨hp,hs⟩) (J4n (by omega)) ⟨rfl,_,rfl⟩
   obtain ⟨_,tk,rfl⟩:=hs
   have gi:∀ i,i < vs.length→ks.getD i Value.none∈ks:=fun i hi=>by
    rw [List.getD_eq_getElem?_getD,List.getElem?_eq_getElem (by omega)]
    exact List.getElem_mem _
   refine J3q (s:={ s with toks:=tk }) (hp _ (gi i hi)) (hp _ (gi j hj)) fun b=>?_
   exact hC b _ ⟨rfl,tk,rfl⟩
  refine wpAny_bind (wpAny_mono (W.kat_run (Q:=fun st' s'=>∃ p:Array Nat,p.size=vs.length∧arrOf st'=p.map (W.kas_item ((List.toArray ks).zip vs.toArray))∧failedOf st'=none∧(Pm vs.length p∧s'.heap=s.heap∧∃ tk,s'={ s with toks:=tk }))
   hl (by omega) h64 (fun p' st' s' a1 a2 a3 a4=>⟨p',a1,a2,a3,a4⟩) go) ?_ fun _ _ x=>x)
  rintro ⟨⟨⟩,st'⟩ s' ⟨p,hpz,har,hf,hpm,_,tk,rfl⟩
  try dsimp only
  exact J2D (s:={ s with toks:=tk }) nk na hka (W.kat_snds hl har) (by rw [List.length_map,Array.length_toList,hpz]; exact h64) (by omega) hf fun h' c c2 k1 k2 k3=>h p h' tk c c2 hpm k1 k2 k3
theorem J4U {R:List Value→Shared→Prop} {f:Value} (h64:vs.length < 64) (hka:kS≠a) (nk0:s.heap.get? kS=some (seqObj "list" #[] 0)) (na0:s.heap.get? a=some (seqObj "list" #[] e1)) (r0:R [] s)
  (turn:∀ (ks:List Value) (v:Value) (s:Shared) (e:Nat),vs[ks.length]?=some v→R ks s→s.heap.get? kS=some (seqObj "list" (List.toArray ks) e)→s.heap.get? a=some (seqObj "list" #[] e1) →
   wpAny (model prog w) A (call f [v]) (fun k s'=>s'.heap.get? kS=some (seqObj "list" (List.toArray ks) e)∧s'.heap.get? a=some (seqObj "list" #[] e1)∧∀ h' c,(∀ b o,b≠kS→s'.heap.get? b=some o→h'.get? b=some o)→h'.get? kS=some (seqObj "list" (List.toArray (ks++[k])) c)→R (ks++[k]) { s' with heap:=h' }) (fun _ _=>False) s)
  (hp:∀ ks s,R ks s→∀ k∈ks,Z3H s.heap k)
  (h:∀ ks (s:Shared) e p h' tk c c2,ks.length=vs.length→R ks s→s.heap.get? kS=some (seqObj "list" (List.toArray ks) e)→s.heap.get? a=some (seqObj "list" #[] e1)→Pm vs.length p→(∀ b o,b≠kS→b≠a→s.heap.get? b=some o→h'.get? b=some o)→h'.get? kS=some (seqObj "list" #[] c)→h'.get? a=some (seqObj "list" (List.toArray (p.toList.map fun i=>vs.getD i Value.none)) c2)→P (.done (.ret .none)) { s with heap:=h',toks:=tk }) :
  wpAny (model prog w) A (PyProof.Rows.ksk_rest a f false vs.toArray e1 (.ref kS)) P E s:=by
 unfold PyProof.Rows.ksk_rest
 refine wpAny_bind (wpAny_rule ?_)
 first
  | rw [List.forIn_toArray]
  | (rw [← Array.forIn_toList]; simp only [List.toList_toArray])
  | rw [← Array.forIn_toList]
 refine wpAny_bind (ksk_fold (fun i s'=>∃ ks e,ks.length=i∧R ks s'∧s'.heap.get? kS=some (seqObj "list" (List.toArray ks) e)∧s'.heap.get? a=some (seqObj "list" #[] e1)) vs 0 s ⟨[],0,rfl,r0,nk0,na0⟩ ?step ?done)
 case step=>
  rintro j x s' hx ⟨ks,e,hl,hR,nk,na⟩
  rw [Nat.zero_add] at hl
  subst hl
  have hj:ks.length < vs.length:=(List.getElem?_eq_some_iff.mp hx).1
  refine wpAny_bind (wpAny_attempt (wpAny_mono (turn ks x s' e hx hR nk na) (fun k s'' he=>?_) fun _ _ hF=>hF.elim))
  obtain ⟨nk2,na2,hR2⟩:=he
  try dsimp only
  have s1:=(Heap.SameBut.update s''.heap kS (Obj.mapSeq (·.push k)))
  have ea:(List.toArray ks).push k=List.toArray (ks++[k]):=by simp
  obtain ⟨c2,hc2⟩:∃ c2,(s''.heap.update kS (Obj.mapSeq (·.push k))).get? kS=some (seqObj "list" (List.toArray (ks++[k])) c2):=⟨_,by rw [← ea]; exact get?_update_seq nk2 (·.push k)⟩
  refine wpAny_bind (listUpdate_at nk2 rfl ?_ (by rw [List.size_toArray,sizeLine_eq]; omega) (Nat.le_trans (Nat.le_of_eq (Array.size_push ..)) (by rw [List.size_toArray,sizeLine_eq]; omega)))
  refine wpAny_pure ⟨rfl,ks++[k],c2,by rw [List.length_append]; simp,hR2 _ c2 (fun b o hb q=>(s1.2 b hb).trans q) hc2,hc2,(s1.2 a hka.symm).trans na2⟩
 case done=>
  rintro s' ⟨ks,e,hl,hR,nk,na⟩
  rw [Nat.zero_add] at hl
  try dsimp only
  refine wpAny_bind (listItems_at nk rfl ?_)
  exact J7C hl h64 nk na hka (hp ks s' hR) fun p h' tk c c2 x1 x2 x3 x4=>h ks s' e p h' tk c c2 hl hR nk na x1 x2 x3 x4
end
section
variable {prog:Program} {w:World} {A:Around} {E:Value→Shared→Prop} {s:Shared}
def ColR (s:Shared) (a c:Int) (n:Nat) (q:Result) (s':Shared):Prop:=∃ h' tk acc c',q=.ok (.ret (.ref s.heap.objs.size))∧s'={ s with heap:=h',toks:=tk }∧(∀ b o,s.heap.get? b=some o→h'.get? b=some o)∧h'.get? s.heap.objs.size=some { cls:=.type "list",dict:=none,data:=.seq acc c',slots:=#[] }∧ItemsOf (fun i v=>∃ t,v=.int (a+i * c) t) acc n
theorem Z4Z {r:Addr} {a b c:Int} {t u v:Tok} {n:Nat} {Q:List Value→Shared→Prop} (hh:A.handled=none) (hr:IsRange s.heap r a b c t u v) (hsmall:Builtin.Range.small a b c=true) (hn:Builtin.Range.rangeSize a b c=n) (hlen:n≤2 ^ 24)
  (h:∀ h' tk acc,s.heap.objs.size < h'.objs.size→(∀ b o,s.heap.get? b=some o→h'.get? b=some o)→ItemsOf (fun i v=>∃ t,v=.int (a+i * c) t) acc n→Q acc.toList { s with heap:=h',toks:=tk }) :
  wpAny (model prog w) A (collect (.ref r)) Q E s:=by
 have key:codeAny (model prog w) A (.builtin "proto.collect" ⟨[.ref r],[]⟩) (ColR s a c n) s:=by
  refine codeAny_builtin entry_proto_collect' ?_
  show wpAny _ _ (do again (.builtin "list.__iadd__" ⟨[← newList [],.ref r],[]⟩)) _ _ s
  refine wpAny_bind (wpAny_newList (wpAny_pure ⟨Code.quiet_builtin _ (by decide +kernel),codeAny_builtin entry_list_iadd' ?_⟩))
  show wpAny _ _ (Builtin.List.listExtendWith (.ref s.heap.objs.size) (.ref r) (.ref s.heap.objs.size)) _ _ { s with heap:=s.heap.push (seqObj "list" #[] 0) }
  rw [Around.under_plainId F.plain_list_iadd _]
  exact wpAny_extend_range (R:=ColR s a c n) (s:={ s with heap:=s.heap.push (seqObj "list" #[] 0) }) hh (Heap.get?_push_of_some _ hr) hsmall hn hlen _ _ 0 (Heap.get?_push_size _ rfl) fun h' tk acc c' hk hS hacc=>
   ⟨h',tk,acc,c',rfl,rfl,fun b o e=>hk b o (Nat.ne_of_lt (Heap.lt_size e)) (Heap.get?_push_of_some _ e),hS,hacc⟩
 unfold collect
 refine wpAny_bind (wpAny_runValue (codeAny_mono key fun q s' hq=>?_))
 obtain ⟨h',tk,acc,c',rfl,rfl,hk,hS,hacc⟩:=hq
 show wpAny (model prog w) A (do
   let o ← load s.heap.objs.size
   match o.data with
   | .seq xs _=>pure xs.toList
   | _=>unsupported "internal:collect") Q E { s with heap:=h',toks:=tk }
 refine wpAny_bind (wpAny_load hS ?_)
 exact wpAny_pure (h h' tk acc (Heap.lt_size hS) hk hacc)
theorem J1O {n:Nat} {r f:Addr} {t u v:Tok} {Q:Value→Shared→Prop} (hh:A.handled=none) (hr:IsRange s.heap r 0 n 1 t u v) (h64:n < 64)
  (h:∀ (vs:List Value) (a kS:Addr) (e1:Nat) (h1:Heap) (tk:Nat),vs.length=n→(∀ (i:Nat) x,vs[i]?=some x→∃ t,x=Value.int (i:Int) t)→(∀ b o,s.heap.get? b=some o→h1.get? b=some o)→s.heap.objs.size≤a→a < kS→h1.get? kS=some (seqObj "list" #[] 0)→h1.get? a=some (seqObj "list" #[] e1) →
   wpAny (model prog w) A.in1.in1 (PyProof.Rows.ksk_rest a (.ref f) false vs.toArray e1 (.ref kS)) (fun fin s'=>fin=.done (.ret .none)∧Q (.ref a) s') (fun _ _=>False) { s with heap:=h1,toks:=tk }) :
  wpAny (model prog w) A (call (.builtin "sorted") [.ref r] [(Str.ofString "key",.ref f)]) Q E s:=by
 refine call_function_entry_kw kind_sorted plain_sorted entry_sorted (PyProof.Rows.ksk_s1 _ _) ?_
 unfold Builtin.«sorted»
 refine wpAny_bind (m:=checkCount "sorted" 1 1 _) (wpAny_pure ?_)
 refine wpAny_bind (Z4Z (n:=n) hh hr (small_one (by omega) (by omega) (by omega) (by omega)) (by rw [rangeSize_one]; split <;> omega) (by omega) fun h1 tk acc k0 k1 hacc=>?_)
 have lacc:acc.toList.length=n:=by rw [Array.length_toList]; exact hacc.1
 have hi:∀ (i:Nat) x,acc.toList[i]?=some x→∃ t,x=Value.int (i:Int) t:=fun i x hx=>by
  rw [Array.getElem?_toList] at hx
  obtain ⟨t,rfl⟩:=hacc.2 i x hx
  exact ⟨t,by rw [Int.zero_add,Int.mul_one]⟩
 generalize acc.toList=vs at *
 refine wpAny_bind (wpAny_newList ?_ (by rw [sizeLine_eq]; omega))
 show wpAny _ _ _ _ _ { s with heap:=h1.push (seqObj "list" vs.toArray 0),toks:=tk }
 have ho:(h1.push (seqObj "list" vs.toArray 0)).get? h1.objs.size=some (seqObj "list" vs.toArray 0):=Heap.get?_push_size _ rfl
 refine wpAny_bind (wpAny_holding (wpAny_call_entry_kw slot_list_sort ⟨_,ho,rfl⟩ entry_list_sort ?body (PyProof.Rows.ksk_l1 _ _)))
 case body=>
  show wpAny (model prog w) A.in1.in1 (Builtin.«list.sort» ⟨[.ref h1.objs.size],[(Str.ofString "key",.ref f)]⟩) _ _ _
  rw [PyProof.Rows.ksk_t1]
  unfold PyProof.Rows.ksk_tree
  have s1:=Heap.SameBut.update (h1.push (seqObj "list" vs.toArray 0)) h1.objs.size (Obj.mapSeq fun _=>(#[]:Array Value))
  obtain ⟨e1,ho1⟩:∃ e1,((h1.push (seqObj "list" vs.toArray 0)).update h1.objs.size (Obj.mapSeq fun _=>(#[]:Array Value))).get? h1.objs.size=some (seqObj "list" #[] e1):=⟨_,get?_update_seq ho fun _=>#[]⟩
  refine wpAny_bind (listItems_at ho rfl ?_)
  refine wpAny_bind (listUpdate_at ho rfl ?_ (by rw [List.size_toArray,sizeLine_eq]; omega) (Nat.zero_le _))
  refine wpAny_bind (seqEpoch_at ho1 rfl ?_)
  refine wpAny_bind (wpAny_newTuple ?_ (by show vs.length≤_; rw [sizeLine_eq]; omega))
  refine wpAny_bind (wpAny_newList ?_ (Nat.zero_le _))
  refine wpAny_holding ?_
  have sz:(h1.push (seqObj "list" vs.toArray 0)).objs.size=h1.objs.size+1:=Heap.size_push ..
  refine wpAny_mono (h vs h1.objs.size ((((h1.push (seqObj "list" vs.toArray 0)).update h1.objs.size (Obj.mapSeq fun _=>(#[]:Array Value))).push (seqObj "tuple" vs.toArray 0)).objs.size) e1 ((((h1.push (seqObj "list" vs.toArray 0)).update h1.objs.size (Obj.mapSeq fun _=>(#[]:Array Value))).push (seqObj "tuple" vs.toArray 0)).push (seqObj "list" #[] 0)) tk lacc hi (fun b o e=>?_) ?_ ?_ (Heap.get?_push_size _ rfl) (Heap.get?_push_of_some _ (Heap.get?_push_of_some _ ho1))) (fun fin s' hq=>?_) fun _ _ hF=>hF.elim
  ·have e2:=k1 b o e
   have lt:=Heap.lt_size e2
   exact Heap.get?_push_of_some _ (Heap.get?_push_of_some _ ((s1.2 b (Nat.ne_of_lt lt)).trans (Heap.get?_push_of_some _ e2)))
  ·exact Nat.le_of_lt k0
  ·rw [Heap.size_push,Heap.size_update,sz]
   exact Nat.lt_succ_of_lt (Nat.lt_succ_self _)
  ·obtain ⟨rfl,hq⟩:=hq
   exact ⟨_,rfl,wpAny_pure ⟨_,rfl,hq⟩⟩
end
def CodeHdK (K:W.Frag) (c P:Addr):Prop:=∃ od vs sl file tf flags tg inF text tt,K.lookup c=some ⟨.type "code",od,.fields vs,sl⟩∧vs[11]?=some (.ref P)∧vs.getD 11 .none=.ref P∧vs.getD 18 .none=.str file tf∧vs.getD 7 .none=.int flags tg∧vs.getD 9 .none=.bool inF∧vs.getD 10 .none=.int text tt∧c≠P
theorem CodeHdK.hd {K:W.Frag} {c P:Addr} {h:Heap} (x:CodeHdK K c P) (X:K.In h):W.CodeHd h c P:=by
 obtain ⟨od,vs,sl,file,tf,flags,tg,inF,text,tt,e,r⟩:=x
 obtain ⟨r1,r2,r3,r4,r5,r6,r7⟩:=r
 exact ⟨_,vs,file,tf,flags,tg,inF,text,tt,X _ _ e,rfl,rfl,r1,r2,r3,r4,r5,r6,r7⟩
def J2x (P:Addr) (nl:List (Option Nat)) (ta:TA) (te:TE):TE:=fun σ H Q=>ta σ H fun vs H1=>∃ n:Nat,vs=[.int (n:Int)]∧n < 64∧H1 P=some (.tbl #[])∧∀ ps,
 (∀ i H3,i < n→Same (upd H1 P (.tbl ps)) H3→te (some (.int ((i:Nat):Int))::stOf nl σ) H3 fun v H4=>Same H3 H4∧∃ (t:Addr) (a b:Int),v=.ref t∧H4 t=some (.tup [.int a,.int b])) ∧
 ∀ H3 l (p:List Nat),Same (upd H1 P (.tbl ps)) H3→H3 l=none→p.Perm (List.range n)→Q (.ref l) (upd H3 l (.lst (p.map fun i=>V.int ((i:Nat):Int))))
theorem J5N {P:Addr} {nl:List (Option Nat)} {ta:TA} {te:TE} {σ:St} {H:Hp} {Q:VK}:J2x P nl ta te σ H Q=ta σ H fun vs H1=>∃ n:Nat,vs=[.int (n:Int)]∧n < 64∧H1 P=some (.tbl #[])∧∀ ps,
 (∀ i H3,i < n→Same (upd H1 P (.tbl ps)) H3→te (some (.int ((i:Nat):Int))::stOf nl σ) H3 fun v H4=>Same H3 H4∧∃ (t:Addr) (a b:Int),v=.ref t∧H4 t=some (.tup [.int a,.int b])) ∧
 ∀ H3 l (p:List Nat),Same (upd H1 P (.tbl ps)) H3→H3 l=none→p.Perm (List.range n)→Q (.ref l) (upd H3 l (.lst (p.map fun i=>V.int ((i:Nat):Int)))):=rfl
theorem J3b {P:Program} {w:World} {H:Hp} {h:Heap} {t:Addr} {a b:Int} (ok:HOk P w H h) (e:H t=some (.tup [.int a,.int b])):Z3H h (.ref t):=by
 obtain ⟨_,its,r,o,h1,h2,n,h3⟩:=(show ObjOk P w H h t (.tup _) from ok t _ e)
 cases r with
 | cons r1 r=>
  cases r with
  | cons r2 r=>
   cases r
   obtain ⟨t1,rfl⟩:=r1
   obtain ⟨t2,rfl⟩:=r2
   exact ⟨t,o,n,a,b,t1,t2,rfl,h1,h2,h3⟩
section
variable {X:Cx} {pins:List (Addr×Obj)} {σ:St} {H:Hp} {s:Shared}
theorem Inv.filled {a kS:Addr} {h':Heap} {tk c:Nat} {xs:List V} {its:List Value} (I:Inv X pins σ H s) (ha0:H a=none) (hk0:H kS=none) (ha1:X.s₀.heap.objs.size≤a) (hk1:X.s₀.heap.objs.size≤kS) (hL:a≠X.env.locals) (hLk:kS≠X.env.locals)
  (hc:∀ x c,X.env.cells.lookup x=some c→c≠a∧c≠kS) (hp:∀ p∈X.pn++pins,p.1≠a∧p.1≠kS) (k:∀ b o,b≠kS→b≠a→s.heap.get? b=some o→h'.get? b=some o)
  (na:h'.get? a=some { cls:=.type "list",data:=.seq its.toArray c }) (rel:Vals xs its) (hz:xs.length≤sizeLine):Inv X pins σ (upd H a (.lst xs)) { s with heap:=h',toks:=tk }:=by
 have nm:∀ b,b∉[a,kS]→b≠a∧b≠kS:=fun b hb=>⟨fun z=>hb (by simp [z]),fun z=>hb (by simp [z])⟩
 have nH:∀ b u,H b=some u→b≠a∧b≠kS:=fun b u e=>⟨Z0j e ha0,Z0j e hk0⟩
 refine I.step (g':=s.gens) (d':=s.drawn) (ch:=[a,kS]) (fun b hb=>?_) (fun b o _ _ hb e n=>k b o (nm b hb).2 (nm b hb).1 e) (fun b o _ _ hb e n=>⟨o.slots,k b o (nm b hb).2 (nm b hb).1 e⟩) (fun b o hb _ n=>by rw [Z0h (nm b hb).1]; exact n) (fun b o hb e=>⟨o,k b o (nm b hb).2 (nm b hb).1 e⟩)
  (fun b xs e=>by rw [Z0h (nH b _ e).1]; exact e) (fun b o u e=>by rw [Z0h (nH b _ e).1]; exact e) (fun b ps e=>⟨#[],by rw [Z0h (nH b _ e).1,e]; simp⟩) (fun m hm=>?_) (fun b u e=>?_) I.bare
 ·rcases (List.mem_cons.mp hb) with rfl | hb
  ·exact ⟨.inr ha1,hL,fun x c e=>(hc x c e).1,fun p hq=>(hp p hq).1⟩
  ·cases List.mem_singleton.mp hb
   exact ⟨.inr hk1,hLk,fun x c e=>(hc x c e).2,fun p hq=>(hp p hq).2⟩
 ·obtain ⟨o,es,ep,ho,r⟩:=hm
  exact ⟨o,es,ep,k _ o (Ne.symm hLk) (Ne.symm hL) ho,r⟩
 ·by_cases hb:b=a
  ·subst hb
   rw [Z0e] at e; cases e
   exact ⟨hz,its,c,rel,na⟩
  ·rw [Z0h hb] at e
   refine (I.hok b u e).stay (fun d v hd q=>?_) (fun d q=>by rw [Z0h (nH d _ q).1]; exact q) fun d xs q=>by rw [Z0h (nH d _ q).1]; exact q
   rcases hd with z | z
   ·rw [z] at q ⊢; exact k _ v (nH b u e).2 (nH b u e).1 q
   ·exact k _ v (nH d _ z).2 (nH d _ z).1 q
end
theorem Z8H {vs:List Value} (hi:∀ (i:Nat) x,vs[i]?=some x→∃ t,x=Value.int (i:Int) t):∀ {l:List Nat},(∀ i∈l,i < vs.length)→Vals (l.map fun i=>V.int ((i:Nat):Int)) (l.map fun i=>vs.getD i Value.none)
 | [],_=>.nil
 | i::l,h=>by
  have lt:=h i List.mem_cons_self
  obtain ⟨t,e⟩:=hi i _ (List.getElem?_eq_getElem lt)
  refine .cons ⟨t,?_⟩ (Z8H hi fun j hj=>h j (List.mem_cons_of_mem _ hj))
  show vs.getD i Value.none=_
  rw [List.getD_eq_getElem?_getD,List.getElem?_eq_getElem lt]
  exact e
section
variable {X:Cx}
theorem J2d {x1:Expr} {ta:TA} {te:TE} {p p2 pos pos2 kp lpos:Pos} {params:Arguments} {body:Expr} {scope:Scope} {cl:List (Str×Addr)} {c P:Addr} {N:List Str} {nl:List (Option Nat)} {y:Str} {k:Nat} (hcalm:X.calm=true) (hr:Room k X.A) (hk3:3≤k) (hb:BAt X.mg X.base) (hcode:X.env.code=.ref c) (C:CodeHdK X.K c P)
  (hg:Gl X "sorted") (hg2:Gl X "range") (hm:X.mg "sorted"=none) (hm2:X.mg "range"=none) (hbs:bootBuiltins "sorted"=some (.builtin "sorted")) (ha:PA X [x1] ta)
  (B:BlockOk X (y::N) (none::nl) scope cl) (hy:scope.names.lookup y=some .local) (hN:∀ z∈N,z≠y) (hdef:defaultsOf params X.env=([],[])) (hco:scope.isCoroutine=false) (hgen:scope.isGenerator=false)
  (hbind:∀ (qual:Str) (pm:Value) (c':Addr) (ctv u:Value),bindArgs (W.kla_fn "<lambda>" qual params body scope cl pm (.ref c') ctv) ⟨[u],[]⟩=pure [(y,u)])
  (he:∀ f c' s H,PE (X.lam X.A.in1.in1 (y::N) (X.env.qual++"<lambda>") scope cl f c' s H) body te)
  (hs:starEach [x1] X.env=[(false,eval x1 X.env)]:=by rfl)
  (hs2:backTo pos (starEach [.Call (.Name "range" p2) [x1] [] pos2] X.env)=(false,eval (.Call (.Name "range" p2) [x1] [] pos2) X.env)::backTo pos (starEach [] X.env):=by rfl)
  (hpl:(backTo pos (starEach [.Call (.Name "range" p2) [x1] [] pos2] X.env)).any (·.1)=false:=by rfl) :
  PE X (.Call (.Name "sorted" p) [.Call (.Name "range" p2) [x1] [] pos2] [⟨some "key",.Lambda params body scope lpos,kp⟩] pos) (J2x P nl ta te):=by
 intro pins s σ H Q I h
 refine wpAny_Call_Name_kw (Z2y I hg hm hbs ?_ (by decide) (by decide))
 refine PyProof.Rows.callWith_kw ?_ hs2 hpl rfl rfl
 rw [hs2]
 refine Calls.spliced_cons ?_
 refine Call_ (Z2y I hg2 hm2 boot_range (PyProof.Rows.callWith_type1 (thn (ha pos2 pins s σ H _ I h) fun us s1 hz=>?_) hs rfl))
 obtain ⟨vs,H1,I1,r1,n,rfl,hn,hP,q⟩:=hz
 obtain ⟨u,rfl,ru⟩:=r1.one
 obtain ⟨t,rfl⟩:=ru
 refine call_range_1 (Calls.spliced_nil ?_)
 have I2:Inv X ((s1.heap.objs.size,{ cls:=.type "range",data:=.fields #[.int 0 s1.toks,.int (n:Int) t,.int 1 (s1.toks+1)] })::pins) σ H1 { s1 with heap:=s1.heap.push { cls:=.type "range",data:=.fields #[.int 0 s1.toks,.int (n:Int) t,.int 1 (s1.toks+1)] },toks:=s1.toks+1+1 }:=
  (I1.kept (t':=s1.toks+1+1) fun b o e=>Heap.get?_push_of_some _ e).pin1 (Heap.get?_push_size _ rfl) (I1.hok.fresh (Nat.le_refl _)) I1.sz (Nat.ne_of_gt I1.lt) (fun v z=>by cases z)
 generalize hr0:s1.heap.objs.size=r at *
 show wpAny _ _ (evalAll [(do let v ← eval (.Lambda params body scope lpos) X.env; standAt pos; pure v)]) _ _ _
 refine wpAny_evalAll_cons (wpAny_bind (J0G I2 hb hcode (C.hd I2.mod.kin) hP trivial rfl B.clos hdef fun f c' oc ctv pm vs tt s3 hd hv I3=>wpAny_bind (wpAny_standAt (wpAny_pure (wpAny_evalAll_nil ?_)))))
 show wpAny _ _ (call (.builtin "sorted") [.ref r] [(Str.ofString "key",.ref f)]) _ _ s3
 obtain ⟨q1,q2⟩:=q (#[]++#[rawInt lpos.line,rawInt lpos.col,.ref c'])
 generalize upd H1 P (.tbl (#[]++#[rawInt lpos.line,rawInt lpos.col,.ref c']))=H2 at *
 have pr:=I3.pin _ (List.mem_append_right _ (List.mem_cons_of_mem _ (List.mem_cons_of_mem _ List.mem_cons_self)))
 have pf:=List.mem_cons_self (a:=(f,W.kla_obj "<lambda>" (X.env.qual++"<lambda>") params body scope cl pm c' ctv)) (l:=(c',oc)::(r,({ cls:=.type "range",data:=.fields #[.int 0 s1.toks,.int (n:Int) t,.int 1 (s1.toks+1)] }:Obj))::pins)
 refine J1O (I3.ok.hd hcalm) pr.1 hn fun vs a kS e1 h1 tk hl hi k1 ha0 hlt nk na=>?_
 have I4:=I3.kept (t':=tk) k1
 have hka:kS≠a:=Nat.ne_of_gt hlt
 have sza:X.s₀.heap.objs.size≤a:=Nat.le_trans I3.sz ha0
 have szk:X.s₀.heap.objs.size≤kS:=Nat.le_trans sza (Nat.le_of_lt hlt)
 have La:a≠X.env.locals:=Nat.ne_of_gt (Nat.lt_of_lt_of_le I3.lt ha0)
 have Lk:kS≠X.env.locals:=Nat.ne_of_gt (Nat.lt_of_lt_of_le I3.lt (Nat.le_trans ha0 (Nat.le_of_lt hlt)))
 have pl:∀ q∈X.pn++((f,W.kla_obj "<lambda>" (X.env.qual++"<lambda>") params body scope cl pm c' ctv)::(c',oc)::(r,({ cls:=.type "range",data:=.fields #[.int 0 s1.toks,.int (n:Int) t,.int 1 (s1.toks+1)] }:Obj))::pins),q.1≠a∧q.1≠kS:=fun q hq=>by
  have lt:=Nat.lt_of_lt_of_le (Heap.lt_size (I3.pin q hq).1) ha0
  exact ⟨Nat.ne_of_lt lt,Nat.ne_of_lt (Nat.lt_trans lt hlt)⟩
 have cn:∀ x c,X.env.cells.lookup x=some c→c≠a∧c≠kS:=fun x c e=>by
  obtain ⟨v,o,ho,_⟩:=I3.cell x c e
  have lt:=Nat.lt_of_lt_of_le (Heap.lt_size ho) ha0
  exact ⟨Nat.ne_of_lt lt,Nat.ne_of_lt (Nat.lt_trans lt hlt)⟩
 generalize hPN:((f,W.kla_obj "<lambda>" (X.env.qual++"<lambda>") params body scope cl pm c' ctv)::(c',oc)::(r,({ cls:=.type "range",data:=.fields #[.int 0 s1.toks,.int (n:Int) t,.int 1 (s1.toks+1)] }:Obj))::pins)=PN at *
 refine J4U (R:=fun ks s'=>∃ H3,Inv X PN σ H3 s'∧Same H2 H3∧H3 a=none∧H3 kS=none∧∀ k∈ks,∃ (t:Addr) (i j:Int),k=.ref t∧H3 t=some (.tup [.int i,.int j])) (by omega) hka nk na ⟨H2,I4,Same.refl _,I3.hok.fresh ha0,I3.hok.fresh (Nat.le_trans ha0 (Nat.le_of_lt hlt)),fun k hk=>by cases hk⟩ (fun ks v s' e hv2 hR nk2 na2=>?_) (fun ks s' hR k hk=>?_) (fun ks s' e pp h' tk2 c1 c2 hlk hR nk2 na2 hpm kk hk' ha'=>?_)
 ·obtain ⟨H3,J,sH,n1,n2,hks⟩:=hR
  obtain ⟨t',rfl⟩:=hi _ _ hv2
  have hin:ks.length < n:=by rw [← hl]; exact (List.getElem?_eq_some_iff.mp hv2).1
  have J1:=J.pin1 (p:=(a,seqObj "list" #[] e1)) na2 n1 sza La (fun v z=>by cases z)
  have J2:=J1.pin1 (p:=(kS,seqObj "list" (List.toArray ks) e)) nk2 n2 szk Lk (fun v z=>by cases z)
  have mf:(f,W.kla_obj "<lambda>" (X.env.qual++"<lambda>") params body scope cl pm c' ctv)∈(kS,seqObj "list" (List.toArray ks) e)::(a,seqObj "list" #[] e1)::PN:=by rw [← hPN]; simp
  have mc:(c',oc)∈(kS,seqObj "list" (List.toArray ks) e)::(a,seqObj "list" #[] e1)::PN:=by rw [← hPN]; simp
  refine wpAny_mono (J3E (A:=X.A.in1.in1) (v:=.int ((ks.length:Nat):Int)) J2 B hy hN J.ok.frames (J.ok.hd hcalm) (by have:=hr.dp; show X.A.depth < _; omega) mf mc hd hv hco hgen (hbind _ _ _ _ _) (he f c' s' H3) ⟨t',rfl⟩ (q1 ks.length H3 hin sH)) (fun k s4 hq=>?_) fun _ _ hF=>hF
  obtain ⟨v',H4,J4,rv',sH4,t4,i4,j4,rfl,e4⟩:=hq
  have rv':k=Value.ref t4:=rv'
  subst rv'
  have p1:=J4.pin _ (List.mem_append_right _ List.mem_cons_self)
  have p2:=J4.pin _ (List.mem_append_right _ (List.mem_cons_of_mem _ List.mem_cons_self))
  refine ⟨p1.1,p2.1,fun h' c5 kk hk5=>⟨H4,?_,sH.trans sH4,p2.2.1,p1.2.1,fun k hk=>?_⟩⟩
  ·have J5:Inv X PN σ H4 s4:=J4.pins_of fun p hp=>J4.pin p (List.mem_append_right _ (List.mem_cons_of_mem _ (List.mem_cons_of_mem _ hp)))
   exact J5.turned (t':=s4.toks) kk p1.2.1 Lk (.inr szk) (fun x c e=>(cn x c e).2) (fun p hp=>(pl p hp).2)
  ·rcases List.mem_append.mp hk with hk | hk
   ·obtain ⟨t5,i5,j5,rfl,e5⟩:=hks k hk
    exact ⟨t5,i5,j5,rfl,sH4 _ _ e5⟩
   ·cases List.mem_singleton.mp hk
    exact ⟨t4,i4,j4,rfl,e4⟩
 ·obtain ⟨H3,J,sH,n1,n2,hks⟩:=hR
  obtain ⟨t,i,j,rfl,e⟩:=hks k hk
  exact J3b J.hok e
 ·obtain ⟨H3,J,sH,n1,n2,hks⟩:=hR
  refine ⟨rfl,.ref a,_,?_,rfl,q2 H3 a pp.toList sH n1 (by rw [← hl]; exact hpm)⟩
  have lt:∀ i∈pp.toList,i < vs.length:=fun i hi=>List.mem_range.mp (hpm.mem_iff.mp hi)
  have J6:=J.filled (c:=c2) (tk:=tk2) (xs:=pp.toList.map fun i=>V.int ((i:Nat):Int)) (its:=pp.toList.map fun i=>vs.getD i Value.none) n1 n2 sza szk La Lk cn pl kk ha' (Z8H hi lt) (by rw [List.length_map,hpm.length_eq,List.length_range,sizeLine_eq]; omega)
  exact J6.pins_of fun p hp=>J6.pin p (List.mem_append_right _ (by rw [← hPN]; exact List.mem_cons_of_mem _ (List.mem_cons_of_mem _ (List.mem_cons_of_mem _ hp))))
end
end L2
end
section
namespace L2
open PySem PySem.Spec PyProof.Rows
def J8u (T0:Addr) (H:Hp):Prop:=∀ b,H b=none∨(∃ o xs,H b=some (.frz o (.lst xs)))∨(b=T0∧H b=some (.tbl #[]))
theorem Z9F {P:Program} {c T0:Addr} {w:World} {K:W.Frag} {mg mb:Str→Option Value} {CX:CXT} {k:Nat} {fa a:Addr} {fd:FuncData} {x:Str} {sp:Sp} {s₁:Shared} {vs:List Value} {ns:List Int}
  (Cd:W.CodeHd s₁.heap c T0) (hT:s₁.heap.get? T0=some (W.tabObj #[])) (hKT:K.lookup T0=none) (hbm:∃ bm ob,mg "__builtins__"=some (.ref bm)∧bm≠builtinsNs∧s₁.heap.get? bm=some ob∧ob.cls=.type "module"∧ob.dict=some builtinsNs∧ob.data=.plain)
  (KX:K.In s₁.heap) (hns:s₁.heap.Ns mainGlobals mg) (hb:s₁.heap.Ns builtinsNs mb) (hbb:∀ x:Str,x≠"__name__"→mb x=bootBuiltins x) (hlim:s₁.heap.NoLimit) (hg:s₁.gens=#[])
  (ha:s₁.heap.get? a=some { cls:=.type "list",data:=.seq vs.toArray }) (hi:IntsAre vs ns) (hl:ns.length≤sizeLine) (hr:Room k callerA)
  (F:∀ base:Heap,K.In base→base.Ns mainGlobals mg→BAt mg base→FnOk P w K mg base CX k fa fd [x] sp) (hbind:∀ (s:Shared) (u:Value),BindsTo s fd ⟨[u],[]⟩ [(x,u)])
  (hsp:∀ H:Hp,H T0=some (.tbl #[])→SqL K H a (ns.map V.int)→sp [.ref a] H (fun v _=>v=.bl true) fun _ _ _=>False)
  (hCX:∀ H e s',CX [] H s₁ (fun _ _ _=>False) e s'→False) :
  codeAny (model P w) callerA (.call (.ref fa) ⟨[.ref a],[]⟩) (fun r s'=>r=.ok (.ret (.bool true))∧OldK s₁.heap s'.heap∧s'.os=s₁.os∧AllBare s'.gens) s₁:=by
 have rv:=Z3O hi
 have lenV:=hi.length
 -- from an abstract heap in which nothing but the script may be tracked
 have core:∀ H:Hp,J8u T0 H→H T0=some (.tbl #[])→SqL K H a (ns.map V.int)→HOk P w H s₁.heap→(∀ b,H b≠none→b=a∨b=T0)→(H a≠none→K.lookup a=none) →
   codeAny (model P w) callerA (.call (.ref fa) ⟨[.ref a],[]⟩) (fun r s'=>r=.ok (.ret (.bool true))∧OldK s₁.heap s'.heap∧s'.os=s₁.os∧AllBare s'.gens) s₁:=by
  intro H hO hHT hS hok hA hK
  have base_of:∀ {b:Addr} {o:Obj},s₁.heap.get? b=some o→H b=none→(hidT s₁.heap H).get? b=some o:=fun e n=>Z7V e n
  have noA:∀ {b:Addr} {o:Obj} {es:Array DictEntry} {ep:Nat},s₁.heap.get? b=some o→o.data=.dict es ep→H b=none:=fun {b o es ep} e d=>by
   cases q:H b with
   | none=>rfl
   | some u=>
    rcases hA b (by rw [q]; simp) with e' | e'
    ·subst e'
     rw [ha] at e; cases e
     have d':Data.seq vs.toArray _=Data.dict es ep:=d
     cases d'
    ·subst e'
     rw [hT] at e; cases e
     have d':Data.fields #[]=Data.dict es ep:=d
     cases d'
  have nsK:∀ {b:Addr} {m:Str→Option Value},s₁.heap.Ns b m→(hidT s₁.heap H).Ns b m:=fun {b m} ⟨o,es,ep,e,d,r⟩=>⟨o,es,ep,base_of e (noA e d),d,r⟩
  have hKb:K.In (hidT s₁.heap H):=fun b o e=>base_of (KX b o e) (by
   cases q:H b with
   | none=>rfl
   | some u=>
    rcases hA b (by rw [q]; simp) with e' | e'
    ·subst e'
     rw [hK (by rw [q]; simp)] at e; cases e
    ·subst e'
     rw [hKT] at e; cases e)
  have hM:Mod K mg (hidT s₁.heap H):=⟨hKb,nsK hns,⟨mb,nsK hb,hbb⟩,let ⟨mc,h1,h2⟩:=hlim; ⟨mc,nsK h1,h2⟩⟩
  have e0:Env0 P w K mg (hidT s₁.heap H) callerA [] s₁ H:=⟨rfl,hM,fun b o e=>Z9s e,Nat.le_of_eq (Z6m _ _),trivial,fun b hb=>absurd (show b∈([]:List Addr) from hb) (by simp),hok,.of_eq hg⟩
  have hB:BAt mg (hidT s₁.heap H):=by
   obtain ⟨bm,ob,b1,b2,b3,b4,b5,b6⟩:=hbm
   have nb:H bm=none:=by
    cases q:H bm with
    | none=>rfl
    | some u=>
     rcases hA bm (by rw [q]; simp) with e' | e'
     ·subst e'
      rw [ha] at b3; cases b3
      injection b4 with z
      exact absurd z (by decide)
     ·subst e'
      rw [hT] at b3; cases b3; cases b4
   refine ⟨bm,ob,b1,b2,fun z=>?_,base_of b3 nb,b4,b5,b6⟩
   obtain ⟨og,es,ep,eg,dg,_⟩:=hns
   rw [← z,b3] at eg; cases eg
   rw [b6] at dg; cases dg
  refine codeAny_mono ((F _ hKb (nsK hns) hB).run callerA [] s₁ H ⟨[.ref a],[]⟩ [.ref a] [.ref a] _ _ hr e0 (hbind s₁ (.ref a)) (.cons rfl .nil) (hsp H hHT hS)) fun r s' h=>?_
  cases r with
  | error e=>exact (hCX H e s' h).elim
  | ok fl=>
   cases fl with
   | next=>exact False.elim h
   | brk=>exact False.elim h
   | cont=>exact False.elim h
   | ret u=>
    obtain ⟨v,H',os,bare,un,hok',r',q⟩:=h
    have q':v=.bl true:=q
    subst q'
    obtain rfl:u=Value.bool true:=r'
    have old:∀ b o,s₁.heap.get? b=some o→asItWas s₁.heap s'.heap b o∧∃ o',s'.heap.get? b=some o':=fun b o e=>by
     cases q:H b with
     | none=>
      have z:=un.keep b o e q (by intro z; exact absurd (show b∈([]:List Addr) from z) (by simp)) (by simp)
      exact ⟨.inl z,o,z⟩
     | some u=>
      rcases hO b with z | ⟨ob,xs,z⟩ | ⟨rfl,z⟩
      ·rw [q] at z; cases z
      ·have z2:=un.frzs b ob _ z
       obtain ⟨e1,_⟩:=hok b _ z
       obtain ⟨e2,_⟩:=hok' b _ z2
       rw [e] at e1; cases e1
       exact ⟨.inl e2,_,e2⟩
      ·obtain ⟨more,z2⟩:=un.tbls b _ z
       have e2:s'.heap.get? b=some { cls:=.none,data:=.fields (#[]++more) }:=hok' b _ z2
       rw [hT] at e; cases e
       exact ⟨.inr (.inl ⟨(Cd.tab hT).isCodeTable,rfl,#[],more,rfl,e2⟩),_,e2⟩
    exact ⟨rfl,⟨fun b o e=>(old b o e).1,fun b o e=>(old b o e).2⟩,os,bare⟩
 cases hk:K.lookup a with
 | some o=>
  -- the script is one of the module's own objects
  have e:=KX a o hk
  rw [ha] at e
  cases e
  refine core (fun b=>if b=T0 then some (.tbl #[]) else none) (fun b=>?_) (if_pos rfl) (.inr ⟨_,vs.toArray,_,hk,rfl,rfl,rfl,by rw [List.size_toArray,lenV]; exact hl,by simpa using rv⟩) (fun b u z=>?_) (fun b z=>?_) (fun z=>?_)
  ·by_cases hb:b=T0
   ·exact .inr (.inr ⟨hb,if_pos hb⟩)
   ·exact .inl (if_neg hb)
  ·by_cases hb:b=T0
   ·have z':=(if_pos hb).symm.trans z
    cases z'
    subst hb
    exact hT
   ·have z':=(if_neg hb).symm.trans z
    cases z'
  ·by_cases hb:b=T0
   ·exact .inr hb
   ·exact absurd (if_neg hb) z
  ·have:a≠T0:=fun y=>by rw [y,hT] at ha; cases ha
   exact absurd (if_neg this) z
 | none=>
  have naT:a≠T0:=fun y=>by rw [y,hT] at ha; cases ha
  refine core (fun b=>if b=a then some (.frz { cls:=.type "list",data:=.seq vs.toArray } (.lst (ns.map V.int))) else if b=T0 then some (.tbl #[]) else none) (fun b=>?_) ?_ (.inl (.inr ⟨{ cls:=.type "list",data:=.seq vs.toArray },if_pos rfl⟩)) (fun b u z=>?_) (fun b z=>?_) fun _=>hk
  ·by_cases hb:b=a
   ·exact .inr (.inl ⟨_,_,if_pos hb⟩)
   ·by_cases hb2:b=T0
    ·exact .inr (.inr ⟨hb2,(if_neg hb).trans (if_pos hb2)⟩)
    ·exact .inl ((if_neg hb).trans (if_neg hb2))
  ·exact (if_neg (Ne.symm naT)).trans (if_pos rfl)
  ·by_cases hb:b=a
   ·have z':=(if_pos hb).symm.trans z
    cases z'
    subst hb
    exact ⟨ha,by rw [List.length_map]; exact hl,vs,_,rv,ha⟩
   ·by_cases hb2:b=T0
    ·have z':=((if_neg hb).trans (if_pos hb2)).symm.trans z
     cases z'
     subst hb2
     exact hT
    ·have z':=((if_neg hb).trans (if_neg hb2)).symm.trans z
     cases z'
  ·by_cases hb:b=a
   ·exact .inl hb
   ·by_cases hb2:b=T0
    ·exact .inr hb2
    ·exact absurd ((if_neg hb).trans (if_neg hb2)) z
theorem J2a {c T0:Addr} {l:W.OpenLaw} {n k:Nat} {q:Program} {loose:List Str} {XP:(Str→Option Value)→Heap→Prop} {YP:World→Heap→Prop} {d:DefRec} {K:Params→W.Frag} {CX:World→CXT} {sp:World→Sp} {x:Str}
  (hn:l.most=some n) (hn2:n≤sizeLine) (hdf:d.params.defaults=[]) (hr:Room k callerA)
  (hY:∀ (w:World) (h:Heap),YP w h→(K w.params).In h∧h.get? T0=some (W.tabObj #[])) (hKT:∀ w:World,(K w.params).lookup T0=none) (hCd:∀ w:World,CodeHdK (K w.params) c T0)
  (F:∀ (w:World) (mg:Str→Option Value) (fa:Addr) (h:Heap),(K w.params).In h→h.Ns mainGlobals mg→mg d.name=some (.ref fa) →
   ∃ fd:FuncData,(∀ (s:Shared) (u:Value),BindsTo s fd ⟨[u],[]⟩ [(x,u)]) ∧
    ∀ base:Heap,(K w.params).In base→base.Ns mainGlobals mg→BAt mg base→FnOk l.prog w (K w.params) mg base (CX w) k fa fd [x] (sp w))
  (hsp:∀ (w:World) (H:Hp) (a:Addr) (ns:List Int),ns.length≤n→H T0=some (.tbl #[])→SqL (K w.params) H a (ns.map V.int)→sp w [.ref a] H (fun v _=>v=.bl true) fun _ _ _=>False)
  (hCX:∀ (w:World) (H:Hp) (s:Shared) (e:Value) (s':Shared),CX w [] H s (fun _ _ _=>False) e s'→False) :
  W.WalkO q loose XP YP l.row.toRowW d [] (fun f vs=>PySem.call f vs):=by
 refine Att.attach_call hn hdf fun w s₀ s₁ mg mb fa o pm cd doc a vs ns G Y ho hd hcd hmg hobj hints hlen hg=>?_
 obtain ⟨KX,hT⟩:=hY w _ Y
 obtain ⟨fd,hb,hF⟩:=F w mg fa _ KX G.T.g hmg
 exact Z9F ((hCd w).hd KX) hT (hKT w) G.T.bmain KX G.T.g G.T.b G.T.builtins G.T.nolimit hg hobj hints (Nat.le_trans hlen hn2) hr hF hb (fun H hO hS=>hsp w H a ns hlen hO hS) fun H e s'=>hCX w H s₁ e s'
structure FnT (K:W.Frag) (mg:Str→Option Value) (x:Str) (st:Stmt) (T0:Addr):Prop where
 ex:∃ (f:Addr) (oc:Value) (od:Option Addr) (kV doc pm:Value) (an:Option Addr) (c:Addr) (ct:Value) (osl:Array (Option Value)),K.lookup f=some ⟨oc,od,.func (W.fnOf x x (Z0k st) (Z0i st) (Z0c st) .none kV doc pm an (.ref c) ct),osl⟩∧W.codeIn K (.ref c) x=true∧CodeHdK K c T0∧W.keepIn K (.ref f)=true∧mg x=some (.ref f)
theorem J5d {K:W.Frag} {mg:Str→Option Value} {h:Heap} {x:Str} {st:Stmt} {T0 f c:Addr} {oc:Value} {od an:Option Addr} {osl:Array (Option Value)} {kV doc pm ct:Value} (X:K.In h) (G:h.Ns mainGlobals mg) (a:W.nsIn K mainGlobals x=some (some (.ref f)))
  (l:K.lookup f=some ⟨oc,od,.func (W.fnOf x x (Z0k st) (Z0i st) (Z0c st) .none kV doc pm an (.ref c) ct),osl⟩) (ci:W.codeIn K (.ref c) x=true) (k:W.keepIn K (.ref f)=true) (C:CodeHdK K c T0):FnT K mg x st T0:=
 ⟨f,oc,od,kV,doc,pm,an,c,ct,osl,l,ci,C,k,W.mg_of X G a⟩
theorem Has.ofT {P:Program} {w:World} {K:W.Frag} {mg:Str→Option Value} {base:Heap} {x:Str} {st:Stmt} {T0:Addr} {N ps:List Str} {k:Nat} {sp:Sp} (F:FnT K mg x st T0) (S:Z0o N ps (Z0c st))
  (hb:∀ (kV doc pm:Value) (an:Option Addr) (cdv ct:Value) (us:List Value),us.length=ps.length→bindArgs (W.fnOf x x (Z0k st) (Z0i st) (Z0c st) .none kV doc pm an cdv ct) ⟨us,[]⟩=pure (ps.zip us))
  (len:∀ vs H Q E,sp vs H Q E→vs.length=ps.length)
  (hbody:∀ (f c:Addr) (A:Around) (outer:List Env) (s:Shared) (H:Hp) (vs:List V) (Q:VK) (E:XK),CodeHdK K c T0→Room k (A.deeper (envOfC x (Z0c st) s.heap.objs.size f (.ref c)))→sp vs H Q E →
   ∃ t,PSs (cxOf CX0 P w K mg base N x (Z0c st) f (.ref c) A outer s H E).nox (Z0i st) t∧t { nx:=fun _ H'=>Q .non H',rt:=Q } (Z4m N vs) H):Has P w K mg base (k+1) x ps sp:=by
 obtain ⟨f,oc,od,kV,doc,pm,an,c,ct,osl,lk,ci,C,kp,m⟩:=F.ex
 refine ⟨f,_,J5y lk ci S len fun A outer s H vs Q E hr hsp=>?_,.all (hb kV doc pm an (.ref c) ct),kp,m⟩
 obtain ⟨t,h,q⟩:=hbody f c A outer s H vs Q E C hr hsp
 exact ⟨t,h.nox,q⟩
end L2
end
section
namespace L2
open PySem PySem.Spec PyProof.Rows
def Cx.blockC (X:Cx) (N:List Str) (scope:Scope) (cl:List (Str×Addr)) (y:Str) (C:Addr) (fp:List Addr) (s:Shared) (H:Hp):Cx:=
 { X with N:=N,s₀:=s,H₀:=H,env:=compEnvC scope ((y,C+1)::cl) C X.env,outer:=X.stack,stack:=X.stack,ex:=fp,fn:=fun x=>decide (x=y),pn:=[],xe:=fun _ _=>False }
structure BlockOkC (X:Cx) (N:List Str) (nl:List (Option Nat)) (scope:Scope) (cl:List (Str×Addr)) (y:Str):Prop where
 kind:scope.kind=.function
 one:∀ x,scope.names.lookup x=some .cell→x=y
 isY:scope.names.lookup y=some .cell
 names:∀ y∈scope.names,y.2=.local→scope.names.lookup y.1=some .local
 clos:closureFor scope X.env=pure cl
 sub:∀ y c,cl.lookup y=some c→X.env.cells.lookup y=some c
 has:∀ y,scope.names.lookup y=some .free→∃ c,cl.lookup y=some c
 len:nl.length=N.length
 seen:∀ (i j:Nat) (y:Str),N[i]?=some y→nl[i]?=some (some j)→X.N[j]?=some y∧scope.names.lookup y=some .free∧(X.env.scope.names.lookup y=some .cell∨X.env.scope.names.lookup y=some .free)
 cells:∀ C,cellsFrom C scope.names cl=(y,C)::cl
 push:∀ h:Heap,pushCells h scope.names=h.push { cls:=.type "cell",data:=.cell none }
theorem BlockOkC.of {X:Cx} {N:List Str} {nl:List (Option Nat)} {scope:Scope} {cl:List (Str×Addr)} {y x:Str} {C c:Addr} (B:BlockOkC X N nl scope cl y) (e:((y,C)::cl).lookup x=some c):(x=y∧c=C)∨cl.lookup x=some c:=by
 rw [List.lookup_cons] at e
 cases q:x == y with
 | true=>rw [q] at e; exact .inl ⟨by simpa using q,(Option.some.inj e).symm⟩
 | false=>rw [q] at e; exact .inr e
theorem BlockOkC.mk' {X:Cx} {N:List Str} {nl:List (Option Nat)} {scope:Scope} {cl:List (Str×Addr)} {y:Str} (kind:scope.kind=.function) (one:∀ p∈scope.names,p.2=.cell→p.1=y) (isY:scope.names.lookup y=some .cell) (names:∀ y∈scope.names,y.2=.local→scope.names.lookup y.1=some .local)
  (clos:closureFor scope X.env=pure cl) (sub:∀ p∈cl,X.env.cells.lookup p.1=some p.2) {nm:List Str} (hnm:cl.map (·.1)=nm) (has:∀ y∈scope.names,y.2=.free→y.1∈nm) (len:nl.length=N.length)
  (seen:∀ i < nl.length,∀ j,nl[i]?=some (some j)→∃ y,N[i]?=some y∧X.N[j]?=some y∧scope.names.lookup y=some .free∧(X.env.scope.names.lookup y=some .cell∨X.env.scope.names.lookup y=some .free))
  (cells:∀ C,cellsFrom C scope.names cl=(y,C)::cl) (push:∀ h:Heap,pushCells h scope.names=h.push { cls:=.type "cell",data:=.cell none }):BlockOkC X N nl scope cl y where
 kind:=kind
 one:=fun x h=>one _ (Z0E h) rfl
 isY:=isY
 names:=names
 clos:=clos
 sub:=fun y c h=>sub (y,c) (PySem.mem_of_lookup h)
 has:=fun y h=>by
  have hm:=has _ (Z0E h) rfl
  rw [← hnm] at hm
  cases q:cl.lookup y with
  | some c=>exact ⟨c,rfl⟩
  | none=>
   obtain ⟨p,hp,e⟩:=List.mem_map.mp hm
   have:=List.lookup_eq_none_iff.mp q p hp
   simp [e] at this
 len:=len
 seen:=fun i j y h1 h2=>by
  obtain ⟨z,a,b,c,d⟩:=seen i (List.getElem?_eq_some_iff.mp h2).1 j h2
  rw [h1] at a
  cases a
  exact ⟨b,c,d⟩
 cells:=cells
 push:=push
theorem Z9J {cl:List (Str×Addr)} {x y:Str} {C:Addr} (h:x≠y):((y,C)::cl).lookup x=cl.lookup x:=by
 rw [List.lookup_cons]
 cases q:x == y with
 | true=>exact absurd (by simpa using q) h
 | false=>rfl
theorem Z6s {M:Model} {A:Around} {E:Value→Shared→Prop} {s:Shared} {scope:Scope} {globals:Addr} {cl:List (Str×Addr)} {qual y:Str} {func:Option Addr} {code:Value} {env:Env} {builtins:Addr} {Q:Env→Shared→Prop} (hc:∀ C,cellsFrom C scope.names cl=(y,C)::cl) (hp:∀ h:Heap,pushCells h scope.names=h.push { cls:=.type "cell",data:=.cell none })
  (h:Q { scope:=scope,locals:=s.heap.objs.size,globals:=globals,cells:=(y,s.heap.objs.size+1)::cl,qual:=qual,func:=func,code:=env.code,frame:=env.frame,builtins:=env.builtins } { s with heap:=(s.heap.push { cls:=.type "dict",data:=.dict #[] }).push { cls:=.type "cell",data:=.cell none } }) :
  wpAny M A (newFunctionEnv scope globals cl [] qual func code (some env) builtins) Q E s:=by
 simp only [newFunctionEnv,Option.isSome_some,if_true]
 refine wpAny_bind (wpAny_alloc ?_)
 refine wpAny_bind (wpAny_layCells _ (fun name kind cells=>by cases hkc:kind == NameKind.cell <;> simp [hkc]) _ _ _ _ ?_)
 rw [hc,hp,show ({ s with heap:=s.heap.push { cls:=.type "dict",data:=.dict #[] } }:Shared).heap.objs.size=s.heap.objs.size+1 from Heap.size_push ..]
 rw [List.forIn_nil]
 exact (wpAny_bind (wpAny_pure (wpAny_pure h)))
section
variable {X:Cx} {pins:List (Addr×Obj)} {σ:St} {H:Hp} {s:Shared} {N:List Str} {nl:List (Option Nat)} {scope:Scope} {cl:List (Str×Addr)} {fp:List Addr} {y:Str}
theorem Z8d (I:Inv X pins σ H s) (B:BlockOkC X N nl scope cl y) (hf:∀ b∈fp,FpOk X pins H b) (hob:∀ b∈fp,b < s.heap.objs.size) {C:Addr} (hC:s.heap.objs.size≤C):(X.blockC N scope cl y C fp s H).Ok:=by
 have stk:∀ b∈frs X.stack,b=X.env.locals∨b∈X.fs:=fun b hb=>List.mem_cons.mp (I.stkSub b hb)
 have nC:∀ x c,cl.lookup x=some c→c≠C+1:=fun x c e z=>by
  obtain ⟨v,o,ho,_⟩:=I.cell x c (B.sub x c e)
  have:=Heap.lt_size ho
  rw [z] at this
  exact absurd (Nat.lt_of_lt_of_le this (Nat.le_succ_of_le hC)) (Nat.lt_irrefl _)
 refine ⟨I.ok.mod,B.kind,I.ok.glob,I.ok.blt,hC,fun x z c h1 h2=>?_,fun x hx=>?_,fun x c h e=>?_,I.ok.hd,I.ok.frames,.inl rfl,fun b hb=>⟨?_,fun x c e=>?_⟩,
  I.bs,Nat.le_trans I.ok.bsz I.sz,fun b o e hb=>?_,fun b hb hm=>?_,I.stack,I.stkFree⟩
 ·rcases B.of h1 with ⟨rfl,e1⟩ | e1 <;> rcases B.of h2 with ⟨rfl,e2⟩ | e2
  ·rfl
  ·exact absurd e1 (nC _ _ e2)
  ·exact absurd e2 (nC _ _ e1)
  ·exact I.ok.inj x z c (B.sub x c e1) (B.sub z c e2)
 ·have hx':(scope.names.map fun (n,k)=>if (k == NameKind.free&&X.env.scope.kind == .function&&X.env.kindOf n == some .cell) then (n,NameKind.cell) else (n,k)).lookup x=some .cell ∨
    (scope.names.map fun (n,k)=>if (k == NameKind.free&&X.env.scope.kind == .function&&X.env.kindOf n == some .cell) then (n,NameKind.cell) else (n,k)).lookup x=some .free:=hx
  have fr:scope.names.lookup x=some .free→∃ c,((y,C+1)::cl).lookup x=some c:=fun z=>by
   have hxy:x≠y:=fun e=>by rw [e,B.isY] at z; cases z
   rw [Z9J hxy]; exact B.has x z
  rcases hx' with q | q
  ·rcases Z1L q with z | ⟨_,z⟩
   ·have:=B.one x z
    subst this
    exact ⟨C+1,by show List.lookup x ((x,C+1)::cl)=_; rw [List.lookup_cons,beq_self_eq_true]⟩
   ·exact fr z
  ·rcases Z1L q with z | ⟨z,_⟩
   ·exact fr z
   ·cases z
 ·have hxy:x=y:=of_decide_eq_true h
  subst hxy
  have e':((x,C+1)::cl).lookup x=some (C+1):=by rw [List.lookup_cons,beq_self_eq_true]
  have:c=C+1:=Option.some.inj ((show ((x,C+1)::cl).lookup x=some c from e).symm.trans e')
  rw [this]; exact Nat.le_succ_of_le hC
 ·exact Nat.ne_of_lt (Nat.lt_of_lt_of_le (hob b hb) hC)
 ·rcases B.of e with ⟨_,rfl⟩ | e
  ·exact Nat.ne_of_gt (Nat.lt_of_lt_of_le (hob b hb) (Nat.le_succ_of_le hC))
  ·exact (hf b hb).2.2.2.2.1 x c (B.sub x c e)
 ·rcases (hf b hb).2.2.2.1 with z | z
  ·exact I.ok.noex b o e z
  ·exact absurd (Nat.lt_of_lt_of_le (Heap.lt_size (I.ok.bs b o e).1) z) (Nat.lt_irrefl _)
 ·rcases stk b hm with z | z
  ·exact (hf b hb).2.1 z
  ·exact (hf b hb).2.2.1 z
theorem Z5B (I:Inv X pins σ H s) (B:BlockOkC X N nl scope cl y) (hf:∀ b∈fp,FpOk X pins H b) (hob:∀ b∈fp,b < s.heap.objs.size) {C D:Addr} (hD:D=s.heap.objs.size) (hC:C=s.heap.objs.size+1) {h1:Heap} {tk:Nat} {m:Str→Option Value} {n:Nat}
  (hk:∀ b o,s.heap.get? b=some o→h1.get? b=some o) (hl:h1.get? D=some { cls:=.type "list",data:=.seq ([]:List Value).toArray n }) (hn:h1.Ns C m) (hcl:h1.get? (C+1)=some { cls:=.type "cell",data:=.cell none }) :
  Inv (X.blockC N scope cl y C fp s H) [] (stOf nl σ) (upd H D (.lst [])) { s with heap:=h1,toks:=tk }:=by
 have hDn:H D=none:=I.hok.fresh (by rw [hD]; exact Nat.le_refl _)
 have hCD:C≠D:=by rw [hC,hD]; exact Nat.succ_ne_self _
 have hCn:H C=none:=I.hok.fresh (by rw [hC]; exact Nat.le_succ _)
 have cellD:∀ y c,cl.lookup y=some c→c≠D:=fun y c e z=>by
  obtain ⟨v,q⟩:=I.cell y c (B.sub y c e)
  exact absurd q.lt (by rw [z,hD]; exact Nat.lt_irrefl _)
 refine ⟨Z8d I B hf hob (by rw [hC]; exact Nat.le_succ _),rfl,I.bare,Un.laid hk (by rw [hD]; exact Nat.le_refl _) hDn,⟨m,hn,fun i x v e1 e2 _=>?_⟩,fun x c e=>?_,?_,fun x c e=>?_,fun p hp=>absurd hp (by simp [Cx.blockC]),?_,?_⟩
 ·obtain ⟨j,hj,hv⟩:=Z5m e2
  obtain ⟨x1,x2,x3⟩:=B.seen i j x e1 hj
  obtain ⟨m0,hm0,hl0⟩:=I.loc
  obtain ⟨u,r,l⟩:=hl0 j x v x1 hv (.inr x3)
  refine ⟨u,r,?_⟩
  rcases l with ⟨hk1,_⟩ | ⟨_,c,hc,z⟩
  ·have hk1':X.env.scope.names.lookup x=some .local:=hk1
   rcases x3 with q | q <;> (rw [hk1'] at q; cases q)
  ·refine .inr ⟨Z2z x2,c,?_,z.keeps hk⟩
   obtain ⟨c',hc'⟩:=B.has x x2
   have q:=B.sub x c' hc'
   rw [hc] at q
   cases q
   have hxy:x≠y:=fun e=>by rw [e,B.isY] at x2; cases x2
   show ((y,C+1)::cl).lookup x=some c
   rw [Z9J hxy]; exact hc'
 ·rcases B.of e with ⟨_,rfl⟩ | e
  ·exact ⟨none,_,hcl,rfl⟩
  ·obtain ⟨v,q⟩:=I.cell x c (B.sub x c e)
   exact ⟨v,q.keeps hk⟩
 ·show (upd H D (.lst [])) C=none
  rw [Z0h hCD]
  exact hCn
 ·rcases B.of e with ⟨_,rfl⟩ | e
  ·rw [Z0h (by rw [hC,hD]; exact Nat.ne_of_gt (Nat.lt_succ_of_lt (Nat.lt_succ_self _)))]
   exact I.hok.fresh (by rw [hC]; exact Nat.le_succ_of_le (Nat.le_succ _))
  ·rw [Z0h (cellD x c e)]
   exact I.freeC x c (B.sub x c e)
 ·exact I.hok.laid hk (by rw [hD]; exact Nat.le_refl _) ⟨Nat.zero_le _,[],n,.nil,hl⟩
 ·show (stOf nl σ).length=N.length
  unfold stOf
  rw [List.length_map,B.len]
theorem Z4B {C:Addr} {σ':St} {H':Hp} {s':Shared} {h2:Heap} (I:Inv X pins σ H s) (hf:∀ b∈fp,FpOk X pins H b) (hC:s.heap.objs.size≤C) (J:Inv (X.blockC N scope cl y C fp s H) [] σ' H' s') (hk:∀ b o,b≠C→s'.heap.get? b=some o→h2.get? b=some o) :
  Inv X pins σ H' { s' with heap:=h2 }:=by
 obtain ⟨hp,g,d,t,os⟩:=s'
 have ho:os=s.os:=J.os
 subst ho
 have hCn:H' C=none:=J.free
 have u:=J.base
 have ne:∀ b o,s.heap.get? b=some o→b≠C:=fun b o e=>Nat.ne_of_lt (Nat.lt_of_lt_of_le (Heap.lt_size e) hC)
 have u2:Un (frs X.stack) fp H H' s.heap h2:=
  ⟨fun b o e n hb hx=>hk b o (ne b o e) (u.keep b o e n hb hx),fun b o e n hb hx=>(let ⟨sl,q⟩:=u.slot b o e n hb hx; ⟨sl,hk b _ (ne b o e) q⟩),u.free,fun b o e hx=>(let ⟨o',q⟩:=u.there b o e hx; ⟨o',hk b o' (ne b o e) q⟩),u.tups,u.frzs,u.tbls⟩
 have hok2:HOk X.prog X.w H' h2:=fun b o e=>(J.hok b o e).stay (fun c v hc q=>hk c v (fun z=>by
  subst z
  rcases hc with z | z
  ·rw [← z,hCn] at e; cases e
  ·rw [hCn] at z; cases z) q) (fun _ q=>q) fun _ _ q=>q
 have z:=I.call (h':=h2) (g':=g) (d':=d) (t':=t) (ch:=fp) u2 hok2 J.bare fun b hb=>(let ⟨_,f1,_,f3,f4,f5⟩:=hf b hb; ⟨f3,f1,f4,f5⟩)
 exact z
end
theorem Z4p {y:Str} {X:Cx} {N:List Str} {nl:List (Option Nat)} {scope:Scope} {cl:List (Str×Addr)} {elt tg iter:Expr} {ifs:List Expr} {pos:Pos} {wi:TI} {g:TG} {tst:Env→Sem Bool} {tc:TT} {te:TE} (hcalm:X.calm=true)
  (B:BlockOkC X N nl scope cl y) (hi:PI X tg iter wi) (hg:∀ C fp s H,PG (X.blockC N scope cl y C fp s H) tg g) (ht:∀ C fp s H,PQ (X.blockC N scope cl y C fp s H) tst tc) (he:∀ C fp s H,PE (X.blockC N scope cl y C fp s H) elt te)
  (hturn:∀ (it acc:Value) (env:Env),compTurn (.ListComp elt [⟨tg,iter,ifs,0⟩] scope pos) 0 it acc env=(do
   standAt iter.pos
   match ← pyNext it with
   | none=>pure (.done .next)
   | some v=>
    letOwnedTupleGo tg it v
    assign tg env v
    let ok ← tst env
    if ok then (do
     (do let x ← eval elt env; let _ ← call (.builtin "list.append") [acc,x]; pure ())
     again (.compLoop (.ListComp elt [⟨tg,iter,ifs,0⟩] scope pos) 0 it acc env))
    else again (.compLoop (.ListComp elt [⟨tg,iter,ifs,0⟩] scope pos) 0 it acc env)))
  (hs:∀ x,foldedSetIterable iter X.env x=pure x) {pins:List (Addr×Obj)} {s:Shared} {σ:St} {H:Hp} {Q:VK} (I:Inv X pins σ H s) (h:Z5K wi nl g tc te σ H Q) {use:Option (Value→Sem Unit)} {Q':Value→Shared→Prop}
  (hpost:∀ (D C:Addr) (s' s2:Shared) (fp:List Addr) (σ':St) (H' H2:Hp),Inv X pins σ H2 s2→(∀ b∈fp,FpOk X pins H2 b)→s2.heap.objs.size≤C→Inv (X.blockC N scope cl y C fp s2 H2) [] σ' H' s'→Q (.ref D) H' →
   compPost (model X.prog X.w) X.A X.xe use Q' (.ref D) C (.ok .next) s')
  (hpos:Pos) :
  wpAny (model X.prog X.w) X.A (comprehension (.ListComp elt [⟨tg,iter,ifs,0⟩] scope pos) scope X.env hpos (newList []) false (eval iter X.env) use) Q' X.xe s:=by
 refine wpAny_comprehension_free (use:=use) rfl hs B.clos B.kind B.names ?_
 refine thn (hi pins s σ H _ I h) fun v s1 h1=>thn h1 fun itv s2 h2=>?_
 obtain ⟨it,fp,tn,J,H2,e,I2,T,st2,f2,q⟩:=h2
 subst e
 have hob:∀ b∈fp,b < s2.heap.objs.size:=fun b hb=>(let ⟨o,e,_⟩:=T.obj 0 _ st2 b hb; Heap.lt_size e)
 refine wpAny_newObj_type (Z6s B.cells B.push ?_)
 dsimp only
 generalize hD:s2.heap.objs.size=D
 have hC:(s2.heap.push { cls:=.type "list",dict:=none,data:=.seq ([]:List Value).toArray }).objs.size=s2.heap.objs.size+1:=by rw [Heap.size_push]
 have hns:(((s2.heap.push { cls:=.type "list",dict:=none,data:=.seq ([]:List Value).toArray }).push { cls:=.type "dict",data:=.dict #[] }).push { cls:=.type "cell",data:=.cell none }).Ns (s2.heap.push { cls:=.type "list",dict:=none,data:=.seq ([]:List Value).toArray }).objs.size (fun _=>none):=(Heap.Ns.new _ (.type "dict")).push _
 have hcl:(((s2.heap.push { cls:=.type "list",dict:=none,data:=.seq ([]:List Value).toArray }).push { cls:=.type "dict",data:=.dict #[] }).push { cls:=.type "cell",data:=.cell none }).get? ((s2.heap.push { cls:=.type "list",dict:=none,data:=.seq ([]:List Value).toArray }).objs.size+1)=some { cls:=.type "cell",data:=.cell none }:=by
  rw [← Heap.size_push _ { cls:=.type "dict",data:=.dict #[] }]
  exact Heap.get?_push_size _ rfl
 have old:∀ b o,s2.heap.get? b=some o→(((s2.heap.push { cls:=.type "list",dict:=none,data:=.seq ([]:List Value).toArray }).push { cls:=.type "dict",data:=.dict #[] }).push { cls:=.type "cell",data:=.cell none }).get? b=some o:=fun b o e=>Heap.get?_push_of_some _ (Heap.get?_push_of_some _ (Heap.get?_push_of_some _ e))
 have hl:(((s2.heap.push { cls:=.type "list",dict:=none,data:=.seq ([]:List Value).toArray }).push { cls:=.type "dict",data:=.dict #[] }).push { cls:=.type "cell",data:=.cell none }).get? D=some { cls:=.type "list",data:=.seq ([]:List Value).toArray 0 }:=by
  refine Heap.get?_push_of_some _ (Heap.get?_push_of_some _ ?_)
  rw [← hD]
  exact Heap.get?_push_size _ rfl
 generalize (((s2.heap.push { cls:=.type "list",dict:=none,data:=.seq ([]:List Value).toArray }).push { cls:=.type "dict",data:=.dict #[] }).push { cls:=.type "cell",data:=.cell none })=h1 at *
 generalize hC':(s2.heap.push { cls:=.type "list",dict:=none,data:=.seq ([]:List Value).toArray }).objs.size=C at hns hcl hC ⊢
 have hDC:D≠C:=by rw [hC,← hD]; exact (Nat.succ_ne_self _).symm
 have lt_ne:∀ b,b < s2.heap.objs.size→b≠C:=fun b hb=>by rw [hC]; exact Nat.ne_of_lt (Nat.lt_succ_of_lt hb)
 have fresh:H2 D=none:=I2.hok.fresh (by rw [hD]; exact Nat.le_refl _)
 obtain ⟨W,⟨m0,w0⟩,turn⟩:=q D fresh
 have hCle:s2.heap.objs.size≤C:=by rw [hC]; exact Nat.le_succ _
 have stat:∀ {H':Hp},(∀ b∈fp,H' b=none)→∀ b∈fp,FpOk (X.blockC N scope cl y C fp s2 H2) [] H' b:=fun hn b hb=>by
  obtain ⟨_,f1,f2',f3,f4,f5⟩:=f2 b hb
  refine ⟨hn b hb,lt_ne b (hob b hb),fun z=>?_,.inl hb,fun x c e=>(by
   rcases B.of e with ⟨_,rfl⟩ | e
   ·exact Nat.ne_of_gt (Nat.lt_of_lt_of_le (hob b hb) (Nat.le_succ_of_le hCle))
   ·exact f4 x c (B.sub x c e)),fun p hp=>absurd hp (by simp [Cx.blockC])⟩
  rcases List.mem_cons.mp (I2.stkSub b z) with z | z
  ·exact f1 z
  ·exact f2' z
 have main:∀ s4:Shared,(∃ tk,s4={ s2 with heap:=h1,toks:=tk }) →
   codeAny (model X.prog X.w) X.A (.compLoop (.ListComp elt [⟨tg,iter,ifs,0⟩] scope pos) 0 (.ref it) (.ref D) (X.blockC N scope cl y C fp s2 H2).env) (compPost (model X.prog X.w) X.A X.xe use Q' (.ref D) C) s4:=by
  rintro s4 ⟨tk,rfl⟩
  have I3:Inv (X.blockC N scope cl y C fp s2 H2) [] (stOf nl σ) (upd H2 D (.lst [])) { s2 with heap:=h1,toks:=tk }:=Z5B I2 B f2 hob hD.symm hC old hl hns hcl
  refine codeAny_loop rfl (fun n s'=>∃ i σ' H',Inv (X.blockC N scope cl y C fp s2 H2) [] σ' H' s'∧tn i s'.heap∧(∀ b∈fp,H' b=none)∧W i n σ' H') (fun n s5 hI=>?_) m0
   ⟨0,stOf nl σ,_,I3,T.keep 0 _ _ st2 fun b hb o e=>old b o e,fun b hb=>by rw [Z0h (fun z=>absurd (hob b hb) (by rw [z,← hD]; exact Nat.lt_irrefl _))]; exact (f2 b hb).1,w0⟩
  show wpAny _ X.A ((compTurn (.ListComp elt [⟨tg,iter,ifs,0⟩] scope pos) 0 (.ref it) (.ref D) (X.blockC N scope cl y C fp s2 H2).env).onRaise (fun x=>do noteFrame x (X.blockC N scope cl y C fp s2 H2).env; theTreesLotGoes x)) _ _ s5
  refine wpAny_noted ?_
  rw [hturn]
  obtain ⟨i,σ5,H5,I5,st5,fr5,w5⟩:=hI
  have quiet:∀ {α:Type} {t:Sem α} {R:α→Shared→Prop} {E':Value→Shared→Prop} {s':Shared},wpAny (model X.prog X.w) X.A t R (fun _ _=>False) s'→wpAny (model X.prog X.w) X.A t R E' s':=fun hw=>wpAny_mono hw (fun _ _ z=>z) fun _ _ z=>z.elim
  refine wpAny_bind (wpAny_standAt ?_)
  rcases turn i n σ5 H5 w5 with ⟨stop,qn⟩ | ⟨go,Nx,hN,step⟩
  ·refine wpAny_bind (quiet (thn (T.done (X.blockC N scope cl y C fp s2 H2) rfl rfl rfl hcalm i [] s5 σ5 H5 (fun _ _=>False) I5 (stat fr5) st5 stop) fun r s6 ⟨hr,I6⟩=>?_))
   subst hr
   exact quiet (wpAny_pure (hpost D C s6 s2 fp σ5 H5 H2 I2 f2 hCle I6 qn))
  ·refine wpAny_bind (quiet (thn (T.item (X.blockC N scope cl y C fp s2 H2) rfl rfl rfl hcalm i [] s5 σ5 H5 (fun _ _=>False) I5 (stat fr5) st5 go) fun r s6 ⟨u,hr,h6⟩=>?_))
   subst hr
   refine wpAny_bind (quiet (thn h6 fun _ s7 ⟨x,H7,I7,r7,y7,st7,fr7⟩=>?_))
   have I7':=I7.pinned (stat fr7) (T.obj _ _ st7)
   have again':∀ {σ8:St} {H8:Hp} {s8:Shared},Inv (X.blockC N scope cl y C fp s2 H2) ([]++Z4y fp s7.heap) σ8 H8 s8→Nx σ8 H8→∃ m,m < n∧∃ i σ' H',Inv (X.blockC N scope cl y C fp s2 H2) [] σ' H' s8∧tn i s8.heap∧(∀ b∈fp,H' b=none)∧W i m σ' H':=fun {σ8 H8 s8} I8 n8=>by
    obtain ⟨m',hm,w8⟩:=hN σ8 H8 n8
    refine ⟨m',hm,i+1,σ8,H8,I8.unpinned,T.keep _ _ _ st7 fun b hb o e=>(I8.pin (b,o) (List.mem_append_right _ (List.mem_append_right _ (Z1S hb e)))).1,fun b hb=>?_,w8⟩
    obtain ⟨o,e,_⟩:=T.obj _ _ st7 b hb
    exact (I8.pin (b,o) (List.mem_append_right _ (List.mem_append_right _ (Z1S hb e)))).2.1
   refine wpAny_bind (quiet (thn (hg C fp s2 H2 _ s7 σ5 H7 x u _ I7' r7 (step x H7 y7)) fun _ s8 ⟨σ8,H8,I8,q8⟩=>?_))
   refine wpAny_bind (quiet (thn (ht C fp s2 H2 _ s8 σ8 H8 _ I8 q8) fun b s9 ⟨H9,I9,q9⟩=>?_))
   cases b with
   | false=>exact quiet (wpAny_pure ⟨rfl,again' I9 q9⟩)
   | true=>
    refine wpAny_bind (wpAny_bind (quiet (thn (he C fp s2 H2 _ s9 σ8 H9 _ I9 q9) fun vy s10 hz_=>?_)))
    obtain ⟨y,H10,I10,r10,xs,e10,z10,n10⟩:=hz_
    refine wpAny_bind (quiet (thn (Z1j _ s10 σ8 H10 (.ref D) [y] (.ref D) [vy] (fun _ H'=>Nx σ8 H') I10 rfl (.cons r10 .nil) ⟨D,xs,y,rfl,rfl,e10,z10,n10⟩) fun _ s11 ⟨_,H11,I11,_,q11⟩=>?_))
    exact wpAny_pure (wpAny_pure ⟨rfl,again' I11 q11⟩)
 exact codeAny_compStart_list (main _ ⟨_,rfl⟩) (T.self _ 0 _ _ _ (T.keep 0 _ _ st2 fun b hb o e=>old b o e) (main _ ⟨_,rfl⟩))
section
variable {X:Cx} {N:List Str} {nl:List (Option Nat)} {scope:Scope} {cl:List (Str×Addr)} {y:Str} {elt tg iter:Expr} {pos:Pos} {wi:TI} {g:TG} {tc:TT} {te:TE}
theorem Z8y {pins:List (Addr×Obj)} {σ:St} {Q:VK} (D C:Addr) (s' s2:Shared) (fp:List Addr) (σ':St) (H' H2:Hp) (I2:Inv X pins σ H2 s2) (f2:∀ b∈fp,FpOk X pins H2 b) (hC:s2.heap.objs.size≤C) (J:Inv (X.blockC N scope cl y C fp s2 H2) [] σ' H' s') (q:Q (.ref D) H') :
  compPost (model X.prog X.w) X.A X.xe none (EP X pins σ Q) (.ref D) C (.ok .next) s':=by
 obtain ⟨m,hn,_⟩:=J.loc
 exact ⟨m,hn,fun h' sb=>⟨.ref D,H',Z4B I2 f2 hC J fun b o hb e=>sb.extBut b o hb e,rfl,q⟩⟩
theorem Z9f {c:Expr} {tc:TT} (hcalm:X.calm=true) (B:BlockOkC X N nl scope cl y) (hi:PI X tg iter wi) (hg:∀ C fp s H,PG (X.blockC N scope cl y C fp s H) tg g) (hc:∀ C fp s H,PT (X.blockC N scope cl y C fp s H) c tc) (he:∀ C fp s H,PE (X.blockC N scope cl y C fp s H) elt te) (hs:∀ x,foldedSetIterable iter X.env x=pure x:=by intro _; rfl) :
  PE X (.ListComp elt [⟨tg,iter,[c],0⟩] scope pos) (Z5K wi nl g tc te):=by
 intro pins s σ H Q I h
 rw [eval_ListComp]
 exact Z4p (tst:=fun env=>isTrue c env (eval c env)) hcalm B hi hg (fun C fp s H=>J2o (hc C fp s H)) he Z6X hs I h Z8y _
end
section
variable {X:Cx} {N:List Str} {nl:List (Option Nat)} {scope:Scope} {cl:List (Str×Addr)} {y:Str} {elt tg iter:Expr} {pos pos' spos:Pos} {wi:TI} {g:TG} {tc:TT} {te:TE} {i:Nat} {x:Str}
theorem Z8u {pins:List (Addr×Obj)} {σ:St} {Dd:Ends} (hN:X.N.Nodup) (hi:X.N[i]?=some x) (hk:X.env.scope.names.lookup x=some .local) (D C:Addr) (s' s2:Shared) (fp:List Addr) (σ':St) (H' H2:Hp)
  (I2:Inv X pins σ H2 s2) (f2:∀ b∈fp,FpOk X pins H2 b) (hC:s2.heap.objs.size≤C) (J:Inv (X.blockC N scope cl y C fp s2 H2) [] σ' H' s') (q:Dd.nx (σ.set i (some (.ref D))) H') :
  compPost (model X.prog X.w) X.A X.xe (some (assign (.Name x pos') X.env)) (fun _ s3=>SP X pins Dd .next s3) (.ref D) C (.ok .next) s':=by
 have I3:Inv X pins σ H' s':=Z4B (h2:=s'.heap) I2 f2 hC J fun b o _ e=>e
 have ne:∀ b o,s2.heap.get? b=some o→b≠C:=fun b o e=>Nat.ne_of_lt (Nat.lt_of_lt_of_le (Heap.lt_size e) hC)
 have neL:C≠X.env.locals:=fun z=>by
  obtain ⟨m,⟨o,_,_,ho,_⟩,_⟩:=I2.loc
  exact ne _ o ho z.symm
 obtain ⟨m,hn,_⟩:=J.loc
 show wpAny _ _ (assign (.Name x pos') X.env (.ref D)) _ _ _
 have e:assign (.Name x pos') X.env (.ref D)=(do standAt pos'; bindName X.env x (.ref D)):=by rfl
 rw [e]
 refine wpAny_bind (wpAny_standAt (wpAny_bindName ?_))
 refine Z4b (v:=.ref D) I3 hN hi (.inl hk) rfl (fun s4 I4 ⟨a,sb,ha⟩=>?_) (.inr hk)
 have hCa:C≠a:=by
  rcases ha with z | z
  ·rw [z]; exact neL
  ·obtain ⟨v,o,ho,_⟩:=I2.cell x a z
   exact fun z2=>ne a o ho z2.symm
 refine ⟨m,hn.sameBut sb hCa,fun h' sb'=>⟨_,H',?_,q⟩⟩
 refine I4.turned (t':=s4.toks) (it:=C) (fun b o hb e=>sb'.extBut b o hb e) J.free neL (.inr (Nat.le_trans I2.sz hC)) (fun z0 c e z=>?_) fun p hp z=>?_
 ·obtain ⟨v,o,ho,_⟩:=I2.cell z0 c e
  exact ne c o ho z
 ·exact ne p.1 _ (I2.pin p hp).1 z
theorem Z6E (hcalm:X.calm=true) (hN:X.N.Nodup) (hi:X.N[i]?=some x) (hk:X.env.scope.names.lookup x=some .local) (B:BlockOkC X N nl scope cl y) (hit:PI X tg iter wi) (hg:∀ C fp s H,PG (X.blockC N scope cl y C fp s H) tg g) (he:∀ C fp s H,PE (X.blockC N scope cl y C fp s H) elt te)
  (hs:∀ x,foldedSetIterable iter X.env x=pure x:=by intro _; rfl) (hsw:swapsWith (.ListComp elt [⟨tg,iter,[],0⟩] scope pos) (some (.Name x pos')) spos.line X.env=pure true:=by rfl) :
  PS X (.Assign [.Name x pos'] (.ListComp elt [⟨tg,iter,[],0⟩] scope pos) spos) (J3Z i (Z5K wi nl g Z2K te)):=by
 intro pins s σ H D I h
 rw [exec_Assign_Name_used _ _ _ _ hsw]
 refine wpAny_bind (wpAny_standAt (wpAny_bind ?_))
 show wpAny _ _ (evalThenUse (.ListComp elt [⟨tg,iter,[],0⟩] scope pos) X.env _) _ _ _
 unfold evalThenUse
 refine wpAny_bind ?_
 exact thn (Z4p (Q:=fun v H'=>D.nx (σ.set i (some v)) H') (tst:=fun _=>pure true) (Q':=fun _ s3=>SP X pins D .next s3) hcalm B hit hg (fun _ _ _ _=>Z6y) he Z4V hs I h (fun D' C s' s2 fp σ' H' H2 I2 f2 hC J q=>Z8u hN hi hk D' C s' s2 fp σ' H' H2 I2 f2 hC J q) _) fun _ s3 z=>wpAny_pure (wpAny_pure z)
end
theorem subS {env:Env} {x:Str} {a:Addr} {l:List (Str×Addr)} (h:env.cells.lookup x=some a) (h':∀ p∈l,env.cells.lookup p.1=some p.2):∀ p∈(x,a)::l,env.cells.lookup p.1=some p.2:=fun p hp=>by
 rcases List.mem_cons.mp hp with e | hp
 ·subst e; exact h
 ·exact h' p hp
theorem sub4 {env:Env} {x y z u:Str} {a b c d:Addr} (h1:env.cells.lookup x=some a) (h2:env.cells.lookup y=some b) (h3:env.cells.lookup z=some c) (h4:env.cells.lookup u=some d):∀ p∈[(x,a),(y,b),(z,c),(u,d)],env.cells.lookup p.1=some p.2:=subS h1 (subS h2 (sub2 h3 h4))
end L2
end
section
namespace L2
open PySem PySem.Spec PyProof.Rows
def iAny (K:W.Frag) (tl:TE):TI:=fun σ H R=>tl σ H fun v H1=>∃ a,v=.ref a∧((∃ xs,SqL K H1 a xs∧R (Itl K a) H1)∨(∃ xs,SqT K H1 a xs∧R (Itt K a) H1))
theorem J8b {K:W.Frag} {tl:TE} {σ:St} {H:Hp} {R:It→Hp→Prop}:iAny K tl σ H R=tl σ H fun v H1=>∃ a,v=.ref a∧((∃ xs,SqL K H1 a xs∧R (Itl K a) H1)∨(∃ xs,SqT K H1 a xs∧R (Itt K a) H1)):=rfl
end L2
end
section
namespace PySem
theorem Z5d:typeLookup (.type "list") "keys"=pure none:=am_miss_of_fast (by decide +kernel)
theorem Z8c {prog:Program} {w:World} {A:Around} {E:Value→Shared→Prop} {s:Shared} {a:Addr} {o:Obj} {xs:Array Value} {k:Nat} {Q:Option Value→Shared→Prop} (hA:A.handled=none) (hx:s.heap.get? a=some o) (oc:o.cls=.type "list") (oda:o.data=.seq xs k) (odc:o.dict=none)
  (h:∀ h' tk,(∀ b u,s.heap.get? b=some u→h'.get? b=some u)→Q none { s with heap:=h',toks:=tk }):wpAny (model prog w) A (getAttr? (.ref a) "keys") Q E s:=by
 obtain ⟨oc',od',oda',osl⟩:=o
 dsimp only at oc oda odc
 subst oc oda odc
 obtain ⟨hp,g,d,tk,os⟩:=s
 have hT:∀ tk2,(⟨hp,g,d,tk2,os⟩:Shared).TypeIs (.ref a) "list":=fun _=>⟨_,hx,rfl⟩
 have z1:=sub_AttributeError
 have z2:=F.slot_list_getattribute.lookup
 have z3:=F.slot_list_getattribute.bind (.ref a)
 have z4:=am_list_getattr_none
 unfold getAttr? getAttrBy? getAttrBy
 repeat (any_goals (first | assumption | exact hT _ | ((with_reducible show wpAny _ _ (call (Value.builtin "list.__getattribute__") _ _) _ _ _); refine call_meets F.slot_list_getattribute (hT _) am_entry_list_getattribute (F.args_list_getattribute_2 _ _) (meets_getattribute_miss_list a xs k osl "keys" _ Z5d (by decide +kernel) (by size_fits)) ⟨hx,hA,fun h2 tk2 e2 hx2=>?_⟩) | wp_step))
 obtain ⟨ty,ut,hy⟩:=hx2.there
 show wpAny _ _ (getattributeRaised _ _ _ _ _ _ _) _ _ _; unfold getattributeRaised; repeat (any_goals (first | assumption | wp_step))
 exact h _ _ hx2.keeps
end PySem
namespace L2
open PySem PySem.Spec PyProof.Rows
def LSt (s:Shared) (it l:Addr) (its:List Value) (i:Nat) (acc:Array Value) (s2:Shared):Prop:=∃ h2 tk2,s2={ s with heap:=h2,toks:=tk2 }∧h2.IsListIter it l i∧(∀ b o,s.heap.get? b=some o→h2.get? b=some o)∧acc.toList=its.take i∧i≤its.length
def LFin (s:Shared) (its:List Value) (acc:Array Value) (s2:Shared):Prop:=∃ h2 tk2,s2={ s with heap:=h2,toks:=tk2 }∧(∀ b o,s.heap.get? b=some o→h2.get? b=some o)∧acc.toList=its
theorem Z9m {P:Program} {w:World} {A:Around} (hh:A.handled=none) {it Z l:Addr} {its:List Value} {s:Shared} (hl:s.heap.IsList l its.toArray) (hi:s.heap.objs.size≤it) (hZ:s.heap.objs.size≤Z) (hZi:Z≠it) :
  Z9a P w A it Z its.length (LSt s it l its) (LFin s its) where
 item:=by
  rintro i acc s2 Q E hi' ⟨h2,tk2,rfl,st,k,ea,_⟩ q
  have hx:its.toArray[i]?=some its[i]:=by simp
  refine wpAny_pyNext_list_item st (hl.at fun o e=>k _ o e) hx fun h3 st3 sb=>q _ _ ⟨h3,tk2,rfl,st3,fun b o e=>(sb.2 b fun z=>?_).trans (k b o e),?_,hi'⟩ fun o e=>(sb.2 Z hZi).trans e
  ·exact absurd (Heap.lt_size e) (by rw [z]; exact Nat.not_lt.mpr hi)
  ·rw [Array.toList_push,ea,List.take_succ_eq_append_getElem hi']
 done:=by
  rintro acc s2 Q E ⟨h2,tk2,rfl,st,k,ea,_⟩ q
  refine wpAny_pyNext_list_end hh st (hl.at fun o e=>k _ o e) (by simp) fun h3 eb=>q _ ⟨h3,tk2,rfl,fun b o e=>eb b o (fun z=>?_) (k b o e),?_⟩ fun o e=>eb Z o hZi e
  ·exact absurd (Heap.lt_size e) (by rw [z]; exact Nat.not_lt.mpr hi)
  ·rw [ea,List.take_of_length_le (Nat.le_refl _)]
 size:=by
  rintro i acc s2 ⟨h2,tk2,rfl,st,k,ea,hi'⟩
  rw [← Array.length_toList,ea,List.length_take]; exact Nat.min_eq_left hi'
 frame:=by
  rintro i acc s2 h3 ⟨h2,tk2,rfl,st,k,ea,hi'⟩ kz _
  exact ⟨h3,tk2,rfl,st.at fun o e=>kz it o (Ne.symm hZi) e,fun b o e=>kz b o (fun z=>absurd (Heap.lt_size e) (by rw [z]; exact Nat.not_lt.mpr hZ)) (k b o e),ea,hi'⟩
noncomputable def Z2W (ks:List Str) (ys:List V):List (Key×V):=absD (fun i=>.inr (ks.getD i "")) (fun i=>ys.getD i .non) ks.length
def J0i (K:W.Frag):List V→Hp→VK→Prop:=fun xs H Q=>∃ (a:Addr) (ts:List V) (ks:List Str) (ys:List V),xs=[.ref a]∧SqL K H a ts∧ts.length=ks.length∧(∀ i t,ts[i]?=some t→∃ T,t=.ref T∧SqT K H T [.str (ks.getD i ""),ys.getD i .non])∧∀ d,H d=none→Q (.ref d) (upd H d (.dK (Z2W ks ys)))
theorem J5H {K:W.Frag} {xs:List V} {H:Hp} {Q:VK}:J0i K xs H Q=∃ (a:Addr) (ts:List V) (ks:List Str) (ys:List V),xs=[.ref a]∧SqL K H a ts∧ts.length=ks.length∧(∀ i t,ts[i]?=some t→∃ T,t=.ref T∧SqT K H T [.str (ks.getD i ""),ys.getD i .non])∧∀ d,H d=none→Q (.ref d) (upd H d (.dK (Z2W ks ys))):=rfl
theorem Z8w {X:Cx} (hc:X.calm=true):Z3N X (.type "dict") (J0i X.K):=by
 intro pins s σ H xs us Q I r h
 obtain ⟨a,ts,ks,ys,rfl,hq,lt,hp,q⟩:=h
 obtain ⟨u,rfl,ru⟩:=Z5I r
 cases ru
 obtain ⟨its,rv,pl,hz⟩:=I.list hq
 have lits:its.length=ks.length:=by rw [← rv.length,lt]
 have isl:=pl.isList
 obtain ⟨o,n0,g0,oc,odc,oda⟩:=pl
 have hZ0:=Heap.lt_size g0
 refine callType_codes (Q₁:=fun ob sn=>ob=.ref s.heap.objs.size∧sn={ s with heap:=s.heap.push { cls:=.type "dict",data:=.dict #[] } }) F.kt_called_dict (F.kt_typeCall_dict_1 _) F.entry_dict_init (kt_code_dict_new _ ⟨rfl,rfl⟩) ?_
 rintro ob sn ⟨rfl,rfl⟩
 have hnew:({ s with heap:=s.heap.push { cls:=.type "dict",data:=.dict #[] } }:Shared).heap.DictOf (Z0T X.prog X.w) s.heap.objs.size []:=Heap.DictOf.new s.heap
 have es:({ s with heap:=s.heap.push { cls:=.type "dict",data:=.dict #[] } }:Shared).heap.objs.size=s.heap.objs.size+1:=Heap.size_push ..
 have g1:({ s with heap:=s.heap.push { cls:=.type "dict",data:=.dict #[] } }:Shared).heap.get? a=some o:=Heap.get?_push_of_some _ g0
 have k1:∀ b u,s.heap.get? b=some u→({ s with heap:=s.heap.push { cls:=.type "dict",data:=.dict #[] } }:Shared).heap.get? b=some u:=fun b u e=>Heap.get?_push_of_some _ e
 refine ⟨hnew.typeIs,F.args_dict_init_2 _ _,?_⟩; unfold Builtin.«dict.__init__»; refine wpAny_bind ?_; unfold Builtin.Dict.selfAndRest; refine wpAny_bind (wpAny_notOrdered_dict hnew.typeIs ?_)
 show wpAny _ _ (pure (s.heap.objs.size,[Value.ref a])) _ _ _
 refine wpAny_pure ?_
 show wpAny _ _ (Builtin.Dict.updateFrom "dict.__init__" s.heap.objs.size (.ref a) [] .none) _ _ _; unfold Builtin.Dict.updateFrom; refine wpAny_bind (wpAny_typeOf (T:="list") ⟨_,g1,oc⟩ ?_)
 rw [if_pos (by decide)]
 refine wpAny_bind (Z8c (show X.A.in1.in1.handled=none from I.ok.hd hc) g1 oc oda odc fun h2 tk2 kp=>?_)
 have ls:s.heap.objs.size < h2.objs.size:=by
  obtain ⟨o2,_,_,ho2,_⟩:=hnew
  exact Heap.lt_size (kp _ _ ho2)
 have k2:∀ b u,s.heap.get? b=some u→h2.get? b=some u:=fun b u e=>kp b u (k1 b u e)
 show wpAny _ _ (rule _ >>= _) _ _ _
 refine wpAny_bind (wpAny_rule (wpAny_bind (wpAny_pyIter_list (isl.at fun o e=>k2 _ o e) ?_)))
 refine wpAny_pure ⟨plainId_quiet Z2s ⟨[.ref s.heap.objs.size,.ref h2.objs.size,rawInt 0,.none],[]⟩,?_⟩
 have hZi:s.heap.objs.size≠h2.objs.size:=Nat.ne_of_lt ls
 refine J0m (n:=its.length) (Z9m (show X.A.in1.in1.handled=none from I.ok.hd hc) isl (Nat.le_of_lt ls) (Nat.le_refl _) hZi) (fun i acc s2 h3 t3 st kz _=>?_) (fun i=>.inr (ks.getD i "")) (fun i=>ys.getD i .non) (fun i acc v s2 hi st=>?_) (by rw [← rv.length]; exact hz) .none its.length 0 _ #[] [] rfl (Nat.zero_le _) ⟨_,tk2,rfl,⟨_,Heap.get?_push_size _ rfl,rfl,rfl⟩,fun b u e=>Heap.get?_push_of_some _ (k2 b u e),rfl,Nat.zero_le _⟩ .nil (hnew.at fun o e=>Heap.get?_push_of_some _ (kp _ o e)) fun s2 acc vs2 fin kv g=>?_
 ·obtain ⟨h4,tk4,rfl,st,k,ea,hi'⟩:=st
  exact ⟨h3,t3,rfl,st.at fun o e=>kz _ o (Ne.symm hZi) e,fun b u e=>kz b u (Nat.ne_of_lt (Heap.lt_size e)) (k b u e),ea,hi'⟩
 ·obtain ⟨h4,tk4,rfl,st,k,ea,hi'⟩:=st
  have ev:v=its[i]:=by
   rw [Array.toList_push,List.take_succ_eq_append_getElem hi] at ea
   have:=congrArg List.getLast? ea
   simp only [List.getLast?_concat] at this
   exact Option.some.inj this
  obtain ⟨t,ht⟩:∃ t,ts[i]?=some t:=⟨_,List.getElem?_eq_getElem (by omega)⟩
  obtain ⟨T,rfl,hT⟩:=hp i t ht
  obtain ⟨u2,hu2,ru2⟩:=rv.get ht
  rw [List.getElem?_eq_getElem hi] at hu2
  cases hu2
  obtain ⟨us,rvs,⟨ot,e1,e2,m,e3⟩,_⟩:=I.tuple hT
  obtain ⟨w1,w2,rfl,r1,r2⟩:=rvs.two
  refine ⟨T,w1,w2,ot,m,ev.trans ru2,k _ _ e1,e2,e3,J1z (k:=.inr (ks.getD i "")) r1,r2⟩
 ·obtain ⟨h4,tk4,rfl,k,_⟩:=fin
  refine ⟨rfl,.ref _,upd H s.heap.objs.size (.dK (Z2W ks ys)),I.laid (t':=tk4) k (Nat.le_refl _) (J2w ?_ (beq_false_of_ne (Nat.ne_of_gt I.big)) ?_ g),rfl,q _ (I.hok.fresh (Nat.le_refl _))⟩
  ·exact Nat.le_trans (Z6z _ _ _) (by rw [← lt]; exact hz)
  ·rw [lits] at kv; exact kv
end L2
end
section
namespace L2
open PySem PySem.Spec PyProof.Rows
section
variable {X:Cx} {pins:List (Addr×Obj)} {σ:St} {H:Hp} {s:Shared}
end
def Itd (d:Addr) (o:Obj) (kvs:List (Key×V)):It:=
 ⟨fun i H=>H d=some (.frz o (.dK kvs))∧i < kvs.length,fun i H x H'=>H'=H∧∃ k v,kvs[i]?=some (k,v)∧x=kV k,fun i H=>H d=some (.frz o (.dK kvs))∧kvs.length≤i⟩
def J7G (tl:TE):TI:=fun σ H R=>tl σ H fun v H1=>∃ d kvs,v=.ref d∧H1 d=some (.dK kvs)∧∀ o,R (Itd d o kvs) (upd H1 d (.frz o (.dK kvs)))
theorem J6u {tl:TE} {σ:St} {H:Hp} {R:It→Hp→Prop}:J7G tl σ H R=tl σ H fun v H1=>∃ d kvs,v=.ref d∧H1 d=some (.dK kvs)∧∀ o,R (Itd d o kvs) (upd H1 d (.frz o (.dK kvs))):=rfl
def J8i:List V→Hp→VK→Prop:=fun xs H Q=>∃ d kvs,xs=[V.ref d]∧Rd H d (.dK kvs)∧Q (.int (kvs.length:Int)) H
theorem J6S {xs:List V} {H:Hp} {Q:VK}:J8i xs H Q=∃ d kvs,xs=[V.ref d]∧Rd H d (.dK kvs)∧Q (.int (kvs.length:Int)) H:=rfl
def UTup (K:W.Frag) (a:Addr) (xs:List V):Prop:=∀ H:Hp,SqT K H a xs
theorem J3m {K:W.Frag} {a:Addr} {o:Obj} {its:Array Value} {n:Nat} {xs:List V} (hk:K.lookup a=some o) (hc:o.cls=.type "tuple"∧o.dict=none) (hs:o.data=.seq its n) (hz:its.size≤sizeLine) (r:Vals xs its.toList):UTup K a xs:=fun _=>.inr ⟨o,its,n,hk,hc,hs,hz,r⟩
end L2
end
section
namespace L2
open PySem PySem.Spec PyProof.Rows
def J2s:V→Bool
 | .non | .bl _ | .int _ | .str _=>true
 | _=>false
def J8t (K:W.Frag):List V→Hp→VK→Prop:=fun xs H Q=>∃ x,xs=[x,.ty "tuple"]∧((∃ a us,x=.ref a∧SqT K H a us∧Q (.bl true) H)∨(J2s x=true∧Q (.bl false) H))
theorem J6E {K:W.Frag} {xs:List V} {H:Hp} {Q:VK}:J8t K xs H Q=∃ x,xs=[x,.ty "tuple"]∧((∃ a us,x=.ref a∧SqT K H a us∧Q (.bl true) H)∨(J2s x=true∧Q (.bl false) H)):=rfl
end L2
end
section
namespace L2
open PySem PySem.Spec PyProof.Rows
def RawD (h:Heap) (d:Addr) (es:Array DictEntry) (ep:Nat):Prop:=∃ o,h.get? d=some o∧o.ExactDict∧o.data=.dict es ep
theorem RawD.at {h h':Heap} {d:Addr} {es:Array DictEntry} {ep:Nat} (x:RawD h d es ep) (e:∀ o,h.get? d=some o→h'.get? d=some o):RawD h' d es ep:=let ⟨o,ho,r⟩:=x; ⟨o,e _ ho,r⟩
theorem RawD.typeIs {s:Shared} {d:Addr} {es:Array DictEntry} {ep:Nat} (x:RawD s.heap d es ep):s.TypeIs (.ref d) "dict":=let ⟨o,ho,c,_⟩:=x; ⟨o,ho,c.1⟩
section
variable {prog:Program} {w:World} {A:Around} {E:Value→Shared→Prop} {s:Shared} {it d:Addr} {es:Array DictEntry} {ep i:Nat}
theorem J0R {Q:Value→Shared→Prop} (hd:(d == sysModules)=false) (hm:RawD s.heap d es ep)
  (hQ:Q (.ref s.heap.objs.size) { s with heap:=s.heap.push { cls:=.type "dict_keyiterator",data:=.fields #[.ref d,.int 0 0,.int es.size 0,.int ep 0] } }):wpAny (model prog w) A (pyIter (.ref d)) Q E s:=by
 have hT:=hm.typeIs
 obtain ⟨o,ho,hc,hdat⟩:=hm
 refine wpAny_pyIter_slot hT F.slot_dict_iter (wpAny_call_entry F.slot_dict_iter hT F.entry_dict_iter ?_ (F.args_dict_iter_1 _))
 unfold Builtin.«dict.__iter__»
 refine wpAny_bind ?_
 unfold Builtin.Dict.dictSlotNone
 refine wpAny_bind (wpAny_notOrdered_dict hT ?_)
 show wpAny _ _ (pure (Value.ref d)) _ _ s
 refine wpAny_pure ?_
 show wpAny _ _ (Builtin.Dict.showsAll d >>= _) _ _ s
 unfold Builtin.Dict.showsAll
 rw [if_neg (by rw [hd]; decide)]
 refine wpAny_bind (wpAny_pure (wpAny_bind (wpAny_dictEntries ho hdat (wpAny_bind (wpAny_dictEpoch ho hdat ?_)))))
 exact wpAny_bind (wpAny_newObj_type (wpAny_pure ⟨_,rfl,"dict_keyiterator",_,⟨_,Heap.get?_push_size _ rfl,rfl⟩,F.slot_dict_keyiterator_next.lookup,hQ⟩))
theorem J0V {Q:Option Value→Shared→Prop} (hit:s.heap.IsKeyIter it d i es.size ep) (hm:RawD s.heap d es ep) (hi:i < es.size)
  (hQ:∀ h',h'.IsKeyIter it d (i+1) es.size ep→Heap.SameBut it s.heap h'→Q (some es[i].key) { s with heap:=h' }):wpAny (model prog w) A (pyNext (.ref it)) Q E s:=by
 obtain ⟨o,ho,hc,hd⟩:=(id hit)
 obtain ⟨od,hod,hcd,hdd⟩:=hm
 unfold pyNext
 refine wpAny_bind (wpAny_attempt (wpAny_callSpecial?_slot (name:=Str.ofString "__next__") hit.typeIs F.slot_dict_keyiterator_next
  (wpAny_call_entry F.slot_dict_keyiterator_next hit.typeIs F.entry_dict_keyiterator_next ?_ (F.args_dict_keyiterator_next_1 _))))
 refine wpAny_bind (wpAny_pure (wpAny_bind (wpAny_bind ?_)))
 first | refine wpAny_bind (wpAny_typeNameOfWhole_keyiter hit.typeIs (wpAny_pure ?_)) | refine wpAny_bind (wpAny_typeNameOf_keyiter hit.typeIs (wpAny_pure ?_))
 refine wpAny_bind (wpAny_fieldsOf ho hd ?_)
 simp only [show Builtin.Dict_items.ownsTuple "dict_keyiterator"=false by decide,Bool.false_eq_true,if_false]
 show wpAny _ _ (if (Value.ref d == Value.none)=true then _ else _) _ _ s
 rw [if_neg (show ¬ ((Value.ref d == Value.none)=true) from Bool.false_ne_true)]
 refine wpAny_bind (wpAny_pure (wpAny_bind (wpAny_dictEntries hod hdd ?_)))
 rw [if_neg (by simp)]
 refine wpAny_bind (wpAny_pure (wpAny_bind (wpAny_dictEpoch hod hdd ?_)))
 rw [if_neg (by simp)]
 refine wpAny_pure ?_
 simp only [show ¬ ((i:Int) < 0) from by omega,if_false,Int.toNat_natCast,Array.getElem?_eq_getElem hi]
 refine wpAny_bind ?_
 first | refine wpAny_bind (wpAny_typeNameOfWhole_keyiter hit.typeIs (wpAny_pure ?_)) | refine wpAny_bind (wpAny_typeNameOf_keyiter hit.typeIs (wpAny_pure ?_))
 refine wpAny_bind (wpAny_isOneOf_keyiter hit.typeIs ?_)
 show wpAny _ _ (setField (.ref it) 1 (rawInt ((i:Int)+1)) >>= _) _ _ s
 refine wpAny_bind (wpAny_setField ho hd (by simp) ?_)
 have hit':(s.heap.update it (Obj.mapFields (·.setIfInBounds 1 (rawInt ((i:Int)+1))))).IsKeyIter it d (i+1) es.size ep:=
  ⟨_,Heap.get?_update_self _ ho (Obj.isFreed_of_fields (Obj.data_mapFields hd _)),(Obj.cls_mapFields ..).trans hc,by rw [Obj.data_mapFields hd]; simp [rawInt]⟩
 refine wpAny_bind (wpAny_holding ?_)
 refine wpAny_bind (wpAny_isOneOf_keyiter (s:={ s with heap:=s.heap.update it (Obj.mapFields (·.setIfInBounds 1 (rawInt ((i:Int)+1)))) }) hit'.typeIs ?_)
 show wpAny _ _ (pure es[i].key) _ _ _
 exact wpAny_pure (wpAny_pure ⟨_,rfl,wpAny_pure (hQ _ hit' (Heap.SameBut.update ..))⟩)
theorem J4t {Q:Option Value→Shared→Prop} (hh:A.handled=none) (hit:s.heap.IsKeyIter it d i es.size ep) (hm:RawD s.heap d es ep) (hi:es.size≤i)
  (hQ:∀ h',Heap.ExtBut it s.heap h'→Q none { s with heap:=h' }):wpAny (model prog w) A (pyNext (.ref it)) Q E s:=by
 obtain ⟨o,ho,hc,hd⟩:=(id hit)
 obtain ⟨od,hod,hcd,hdd⟩:=hm
 unfold pyNext
 refine wpAny_bind (wpAny_attempt (wpAny_callSpecial?_slot (name:=Str.ofString "__next__") hit.typeIs F.slot_dict_keyiterator_next
  (wpAny_call_entry F.slot_dict_keyiterator_next hit.typeIs F.entry_dict_keyiterator_next ?_ (F.args_dict_keyiterator_next_1 _))))
 refine wpAny_bind (wpAny_pure (wpAny_bind (wpAny_bind ?_)))
 first | refine wpAny_bind (wpAny_typeNameOfWhole_keyiter hit.typeIs (wpAny_pure ?_)) | refine wpAny_bind (wpAny_typeNameOf_keyiter hit.typeIs (wpAny_pure ?_))
 refine wpAny_bind (wpAny_fieldsOf ho hd ?_)
 simp only [show Builtin.Dict_items.ownsTuple "dict_keyiterator"=false by decide,Bool.false_eq_true,if_false]
 show wpAny _ _ (if (Value.ref d == Value.none)=true then _ else _) _ _ s
 rw [if_neg (show ¬ ((Value.ref d == Value.none)=true) from Bool.false_ne_true)]
 refine wpAny_bind (wpAny_pure (wpAny_bind (wpAny_dictEntries hod hdd ?_)))
 rw [if_neg (by simp)]
 refine wpAny_bind (wpAny_pure (wpAny_bind (wpAny_dictEpoch hod hdd ?_)))
 rw [if_neg (by simp)]
 refine wpAny_pure ?_
 simp only [show ¬ ((i:Int) < 0) from by omega,if_false,Int.toNat_natCast,Array.getElem?_eq_none hi]
 refine wpAny_bind ?_
 first | refine wpAny_bind (wpAny_typeNameOfWhole_keyiter hit.typeIs (wpAny_pure ?_)) | refine wpAny_bind (wpAny_typeNameOf_keyiter hit.typeIs (wpAny_pure ?_))
 show wpAny _ _ (setField (.ref it) 0 .none >>= _) _ _ s
 refine wpAny_bind (wpAny_setField ho hd (by simp) ?_)
 show wpAny _ _ (newExc (.type "StopIteration") [] >>= _) _ _ _
 refine wpAny_bind ?_
 simp only [newExc,newTuple]
 refine wpAny_bind (wpAny_newObj_type ?_ (by size_fits))
 refine wpAny_bind (m:=firstArgMember _ _) (wpAny_of_eq (a:=Value.none) (by first | rfl | (simp only [firstArgMember]; rfl)) ?_)
 refine wpAny_newObj_type ?_ (by size_fits)
 simp only [raiseNew]
 refine wpAny_bind (wpAny_handled ?_)
 rw [show A.in1.handled=none from hh]
 refine wpAny_bind (wpAny_pure (wpAny_throw ?_))
 refine wpAny_bind (wpAny_isInstance (T:="StopIteration") (b:=true) ⟨_,Heap.get?_push_size _ rfl,rfl⟩ isSubtype_stop ?_)
 exact (wpAny_pure (hQ _ (((Heap.SameBut.update ..).extBut.push _).push _)))
theorem Z8I (hh:A.handled=none) (hne:d≠it):Walks prog w A it [it,d] [it] es.size (fun i v=>∃ e,es[i]?=some e∧v=e.key) (fun i h=>h.IsKeyIter it d i es.size ep∧RawD h d es ep) where
 sub:=fun b hb=>by simp at hb; simp [hb]
 frame:=fun _ _ _ st hk=>⟨st.1.at fun o e=>hk it (by simp) o e,st.2.at fun o e=>hk d (by simp) o e⟩
 item:=fun i s Q E hi st hQ=>J0V st.1 st.2 hi fun h' hit' hs'=>hQ _ h' s.toks ⟨_,Array.getElem?_eq_getElem hi,rfl⟩ ⟨hit',st.2.at fun o e=>hs'.extBut d o hne e⟩ fun b o hb e=>hs'.extBut b o (fun h=>hb (by simp [h])) e
 done:=fun s Q E st hQ=>J4t hh st.1 st.2 (Nat.le_refl _) fun h' he'=>hQ h' s.toks fun b o hb e=>he' b o (fun h=>hb (by simp [h])) e
 self:=fun _ _ _ _ st hQ=>wpAny_pyIter_keyiter st.1 hQ
theorem J1J:isSubtype (.type "dict") (.type "dict")=pure true:=by rw [isSubtype_type]; kernel_rfl
theorem J0N {Q:Bool→Shared→Prop} (hm:RawD s.heap d es ep) (h:Q false s):wpAny (model prog w) A (Builtin.List.listLengthHint (.ref d)) Q E s:=by
 unfold Builtin.List.listLengthHint
 refine wpAny_bind (wpAny_specialOf (name:=Str.ofString "__len__") hm.typeIs F.slot_dict_len.lookup ?_)
 generalize hid:("dict.__len__":String)=id0
 dsimp only
 rw [show splitId id0=some ("dict","__len__") by subst hid; decide +kernel]
 dsimp only
 refine wpAny_bind (wpAny_isInstance (b:=true) hm.typeIs J1J ?_)
 subst hid
 rw [if_neg (by decide)]
 refine wpAny_ite_split (fun _=>?_) (fun z=>absurd (by decide +kernel) z)
 exact wpAny_bind (wpAny_typeOf hm.typeIs (wpAny_pure h))
theorem Z6J {Q:List Value→Shared→Prop} (hh:A.handled=none) (hd:(d == sysModules)=false) (hm:RawD s.heap d es ep) (hz:es.size≤sizeLine)
  (h:∀ h' tk acc,s.heap.objs.size < h'.objs.size→(∀ b o,s.heap.get? b=some o→h'.get? b=some o)→ItemsOf (fun i v=>∃ e,es[i]?=some e∧v=e.key) acc es.size→Q acc.toList { s with heap:=h',toks:=tk }) :
  wpAny (model prog w) A (collect (.ref d)) Q E s:=by
 have hdlt:d < s.heap.objs.size:=Heap.lt_size hm.choose_spec.1
 unfold collect
 refine wpAny_bind (wpAny_runValue (codeAny_builtin F.entry_proto_collect ?_))
 rw [Around.under_plainId F.plain_proto_collect _]
 show wpAny _ A.in1 (newList [] >>= fun l=>again (.builtin "list.__iadd__" ⟨[l,.ref d],[]⟩)) _ _ s
 refine wpAny_bind (wpAny_newObj_type ?_)
 refine wpAny_pure ⟨plainId_quiet F.plain_list_iadd _,codeAny_builtin F.entry_list_iadd ?_⟩
 rw [Around.under_plainId F.plain_list_iadd _]
 have hS₁:(s.heap.push { cls:=.type "list",data:=.seq ([]:List Value).toArray }).get? s.heap.objs.size=some { cls:=.type "list",data:=.seq ([]:List Value).toArray }:=(Heap.get?_push_size _ rfl)
 have hm1:RawD (s.heap.push { cls:=.type "list",data:=.seq ([]:List Value).toArray }) d es ep:=hm.at fun o e=>Heap.get?_push_of_some _ e
 have hSd:s.heap.objs.size≠d:=Nat.ne_of_gt hdlt
 have h1:Builtin.List.listSameRef (.ref s.heap.objs.size) (.ref d)=false:=by simp [Builtin.List.listSameRef,hSd]
 have sz1:(s.heap.push { cls:=.type "list",data:=.seq ([]:List Value).toArray }).objs.size=s.heap.objs.size+1:=Heap.size_push ..
 have kp:∀ b o,s.heap.get? b=some o→(s.heap.push { cls:=.type "list",data:=.seq ([]:List Value).toArray }).get? b=some o:=fun b o e=>Heap.get?_push_of_some _ e
 show wpAny _ A.in1 (Builtin.List.listExtendWith (.ref s.heap.objs.size) (.ref d) (.ref s.heap.objs.size)) _ _ { s with heap:=s.heap.push { cls:=.type "list",data:=.seq ([]:List Value).toArray } }
 generalize s.heap.push { cls:=.type "list",data:=.seq ([]:List Value).toArray }=g1 at *
 unfold Builtin.List.listExtendWith
 refine wpAny_bind (wpAny_typeOf (RawD.typeIs (s:={ s with heap:=g1 }) hm1) ?_)
 rw [if_neg (by rw [h1]; decide)]
 refine wpAny_bind (J0R (s:={ s with heap:=g1 }) hd hm1 ?_)
 have hit:(g1.push { cls:=.type "dict_keyiterator",data:=.fields #[.ref d,.int 0 0,.int es.size 0,.int ep 0] }).IsKeyIter g1.objs.size d 0 es.size ep:=⟨_,Heap.get?_push_size _ rfl,rfl,rfl⟩
 have hm2:RawD (g1.push { cls:=.type "dict_keyiterator",data:=.fields #[.ref d,.int 0 0,.int es.size 0,.int ep 0] }) d es ep:=hm1.at fun o e=>Heap.get?_push_of_some _ e
 have kp2:∀ b o,s.heap.get? b=some o→(g1.push { cls:=.type "dict_keyiterator",data:=.fields #[.ref d,.int 0 0,.int es.size 0,.int ep 0] }).get? b=some o:=fun b o e=>Heap.get?_push_of_some _ (kp b o e)
 have hS2:=Heap.get?_push_of_some { cls:=.type "dict_keyiterator",data:=.fields #[.ref d,.int 0 0,.int es.size 0,.int ep 0] } hS₁
 generalize g1.push { cls:=.type "dict_keyiterator",data:=.fields #[.ref d,.int 0 0,.int es.size 0,.int ep 0] }=g2 at *
 refine wpAny_bind (wpAny_holding (J0N (s:={ s with heap:=g2 }) hm2 ?_))
 rw [if_pos (by decide)]
 refine wpAny_bind (wpAny_rule (wpAny_bind ?_))
 have hSI:s.heap.objs.size≠g1.objs.size:=by rw [sz1]; exact Nat.ne_of_lt (Nat.lt_succ_self _)
 have hdI:d≠g1.objs.size:=by rw [sz1]; exact Nat.ne_of_lt (Nat.lt_succ_of_lt hdlt)
 show wpAny _ _ (updateSeq s.heap.objs.size (·.push .none) >>= fun _=>updateSeq s.heap.objs.size (·.pop)) _ _ _
 refine wpAny_bind (wpAny_updateSeq hS2 rfl ?_)
 have hS3:=Heap.get?_update_self (Obj.mapSeq (·.push Value.none)) hS2 rfl
 refine wpAny_updateSeq (hz:=by seq_fits) hS3 rfl ?_
 have hS4:=Heap.get?_update_self (Obj.mapSeq (·.pop)) hS3 rfl
 have W:=(Z8I (prog:=prog) (w:=w) (A:=A.in1) (es:=es) (ep:=ep) hh hdI).toS
 refine wpAny_pure ⟨plainId_quiet F.plain_extend_loop _,codeAny_extend_loopS W hz s.heap.objs.size (by simp [hSI,hSd]) _ es.size 0 _ _ _ rfl (Nat.zero_le _) ⟨?_,?_⟩ hS4 (ItemsOf.nil _) fun s' acc' c' hmv hS' hacc=>?_⟩
 ·exact hit.at fun o e=>(Heap.get?_update_other _ _ hSI).trans ((Heap.get?_update_other _ _ hSI).trans e)
 ·exact hm2.at fun o e=>(Heap.get?_update_other _ _ hSd).trans ((Heap.get?_update_other _ _ hSd).trans e)
 show wpAny _ A (load s.heap.objs.size >>= _) _ _ s'
 refine wpAny_bind (wpAny_load hS' ?_)
 rw [Moved.eq_with hmv]
 refine wpAny_pure (h s'.heap s'.toks acc' (Heap.lt_size hS') (fun b o e=>?_) hacc)
 have hb:=Heap.lt_size e
 have nb:s.heap.objs.size≠b:=Nat.ne_of_gt hb
 refine hmv.heap b o (fun hmem=>?_) ((Heap.get?_update_other _ _ nb).trans ((Heap.get?_update_other _ _ nb).trans (kp2 b o e)))
 rcases List.mem_cons.mp hmem with z | z
 ·exact nb z.symm
 ·rw [List.mem_singleton.mp z,sz1] at hb
  exact absurd hb (Nat.not_lt.mpr (Nat.le_succ _))
end
end L2
end
section
namespace Tim
open PySem PyProof.Rows
def CmpOk (prog:Program) (w:World) (A:Around) (s:Shared) (κ:SortKind) (P:Keyed→Prop):Prop:=
 ∀ x y,P x→P y→∀ (Q:Bool→Shared→Prop) (E:Value→Shared→Prop),(∀ b,Q b s)→wpAny (model prog w) A (keyLt' κ x.1 y.1) Q E s
structure TOk (κ:SortKind) (P:Keyed→Prop) (n:Nat) (st:SortSt):Prop where
 kd:kindOf st=κ
 sz:(arrOf st).size=n
 el:∀ x∈arrOf st,P x
 fl:failedOf st=none
section
variable {prog:Program} {w:World} {A:Around} {E:Value→Shared→Prop} {s:Shared} {κ:SortKind} {P:Keyed→Prop} {n:Nat}
theorem J4V {ar:Array Keyed} (h:∀ x∈ar,P x) {i:Nat} (hi:i < ar.size):∃ x,ar[i]?=some x∧P x:=⟨ar[i],Array.getElem?_eq_getElem hi,h _ (Array.getElem_mem hi)⟩
theorem w_ite {σ α:Type} {M:Model} {c:Prop} [Decidable c] {a b:StateT σ Sem α} {Q:α→σ→Prop} {st:σ} (h1:c→wpS M A E s a Q st) (h2:¬ c→wpS M A E s b Q st):wpS M A E s (if c then a else b) Q st:=by
 by_cases h:c
 ·rw [if_pos h]; exact h1 h
 ·rw [if_neg h]; exact h2 h
theorem w_lt (hc:CmpOk prog w A s κ P) {st:SortSt} (hk:kindOf st=κ) {x y:Keyed} {Q:Option Bool→SortSt→Prop} (hx:P x) (hy:P y) (h:∀ b,Q (some b) st):wpS (model prog w) A E s (lt' x y) Q st:=by
 rw [lt'_eq]
 refine wpS_bind (wpS_get ?_)
 rw [hk]
 refine wpS_bind (wpS_lift (wpAny_attempt (hc x y hx hy _ _ fun b=>⟨rfl,?_⟩)))
 exact wpS_pure (h b)
theorem Z2e {ar:Array Keyed} {st:SortSt} {i:Nat} {Q:Keyed→SortSt→Prop} (ha:∀ x∈ar,P x) (hi:i < ar.size) (h:∀ x,P x→ar[i]?=some x→Q x st):wpS (model prog w) A E s (elem' ar i) Q st:=by
 obtain ⟨x,e,p⟩:=J4V ha hi
 rw [elem'_eq,e]
 exact wpS_pure (h x p e)
theorem Z4w (hc:CmpOk prog w A s κ P) {st:SortSt} (hT:TOk κ P n st) {i j:Nat} {Q:Option Bool→SortSt→Prop} (hi:i < n) (hj:j < n) (h:∀ b,Q (some b) st):wpS (model prog w) A E s (ltAt' i j) Q st:=by
 rw [ltAt'_eq]
 refine wpS_bind (wpS_get ?_)
 refine wpS_bind (Z2e hT.el (by rw [hT.sz]; exact hi) fun x px _=>?_)
 refine wpS_bind (Z2e hT.el (by rw [hT.sz]; exact hj) fun y py _=>?_)
 exact w_lt hc hT.kd px py h
theorem TOk.arr {st:SortSt} (hT:TOk κ P n st) {xs:Array Keyed} (h:xs.Perm (arrOf st)):TOk κ P n (setArr st xs):=
 ⟨hT.kd,h.size_eq.trans hT.sz,fun x hx=>hT.el x (h.mem_iff.mp hx),hT.fl⟩
theorem J2l {st:SortSt} (hT:TOk κ P n st) {i j:Nat} {Q:Unit→SortSt→Prop} (h:∀ st',TOk κ P n st'→pendingOf st'=pendingOf st→Q () st'):wpS (model prog w) A E s (reverseSlice' i j) Q st:=by
 rw [reverseSlice'_eq]
 exact wpS_modify (h _ (hT.arr (mirror_perm _ _ _ _)) rfl)
theorem J6l {st:SortSt} (hT:TOk κ P n st) {i j:Nat} {Q:Unit→SortSt→Prop} (h:∀ st',TOk κ P n st'→pendingOf st'=pendingOf st→Q () st'):wpS (model prog w) A E s (moveDown' i j) Q st:=by
 rw [moveDown'_eq]
 exact wpS_modify (h _ (hT.arr (bubble_perm _ _ _)) rfl)
theorem J7Q (hc:CmpOk prog w A s κ P) {st:SortSt} (hT:TOk κ P n st) {lo m ok:Nat} (hn:lo+m≤n) {Q:Bool→SortSt→Prop} (h:∀ st',TOk κ P n st'→pendingOf st'=pendingOf st→Q true st'):wpS (model prog w) A E s (binarySort' lo m ok) Q st:=by
 rw [binarySort'_eq]
 refine wpS_bind (wpS_mono (wpS_forRange (I:=fun k c st'=>c=(none,())∧TOk κ P n st'∧pendingOf st'=pendingOf st) (Q:=fun c st'=>c=(none,())∧TOk κ P n st'∧pendingOf st'=pendingOf st) (fun k c st' hk1 hk2 hI=>?_) (fun c st' hI=>hI) ⟨rfl,hT,rfl⟩) fun c st' hI=>?_)
 ·obtain ⟨rfl,hT',hp⟩:=hI
  refine wpS_bind (wpS_mono (wpS_forRange (I:=fun i c st2=>∃ l r,c=(none,l,r)∧r≤k∧l≤k∧st2=st') (Q:=fun c st2=>∃ l r,c=(none,l,r)∧st2=st') (fun i c st2 hi1 hi2 hI=>?_) (fun c st2 hI=>?_) ⟨0,k,rfl,Nat.le_refl _,Nat.zero_le _,rfl⟩) fun c st2 hI=>?_)
  ·obtain ⟨l,r,rfl,hr,hl,rfl⟩:=hI
   dsimp only
   refine w_ite (fun _=>wpS_pure ⟨l,r,rfl,rfl⟩) (fun hlr=>?_)
   refine wpS_bind (Z4w hc hT' (by omega) (by omega) fun b=>?_)
   exact w_ite (fun _=>wpS_pure ⟨l,_,rfl,by omega,hl,rfl⟩) (fun _=>wpS_pure ⟨_,r,rfl,hr,by omega,rfl⟩)
  ·obtain ⟨l,r,rfl,_,_,rfl⟩:=hI
   exact ⟨l,r,rfl,rfl⟩
  ·obtain ⟨l,r,rfl,rfl⟩:=hI
   dsimp only
   exact wpS_bind (J6l hT' fun st3 h3 e3=>wpS_pure ⟨rfl,h3,e3.trans hp⟩)
 ·obtain ⟨rfl,hT',hp⟩:=hI
  dsimp only
  exact wpS_pure (h st' hT' hp)
abbrev SM (α:Type):Type:=StateT SortSt Sem α
def ascF (lo m a:Nat):SM (Option (Option Nat)×Nat):=forIn [a:m] (none,a) fun _ c=>do
 let x ← ltAt' (lo+c.snd) (lo+c.snd - 1)
 match x with
 | some b=>if b=true then pure (ForInStep.done (none,c.snd)) else pure (ForInStep.yield (none,c.snd+1))
 | _=>pure (ForInStep.done (some none,c.snd))
def tl3 (lo k m:Nat):SM (Option Nat):=do
 reverseSlice' lo (lo+k)
 let r ← ascF lo m k
 match r.fst with
 | some r=>pure r
 | none=>pure (some r.snd)
def dscF (lo m a:Nat):SM (Option (Option Nat)×Nat×Nat):=forIn [a:m] (none,a,0) fun _ c=>do
 let x ← ltAt' (lo+c.snd.fst) (lo+c.snd.fst - 1)
 match x with
 | some b=>
  if b=true then
   if c.snd.snd > 0 then do
    reverseSlice' (lo+c.snd.fst - (c.snd.snd+1)) (lo+c.snd.fst)
    pure (ForInStep.yield (none,c.snd.fst+1,0))
   else pure (ForInStep.yield (none,c.snd.fst+1,0))
  else do
   let y ← ltAt' (lo+c.snd.fst - 1) (lo+c.snd.fst)
   match y with
   | some d=>if d=true then pure (ForInStep.done (none,c.snd.fst,c.snd.snd)) else pure (ForInStep.yield (none,c.snd.fst+1,c.snd.snd+1))
   | _=>pure (ForInStep.done (some none,c.snd.fst,c.snd.snd))
 | _=>pure (ForInStep.done (some none,c.snd.fst,c.snd.snd))
def dscP (lo k m:Nat):SM (Option Nat):=do
 rule "list.sort.descending-run"
 let r ← dscF lo m (k+1)
 match r.fst with
 | some r=>pure r
 | none=>
  if r.snd.snd > 0 then do
   reverseSlice' (lo+r.snd.fst - (r.snd.snd+1)) (lo+r.snd.fst)
   tl3 lo r.snd.fst m
  else tl3 lo r.snd.fst m
theorem J8e (hc:CmpOk prog w A s κ P) {st:SortSt} (hT:TOk κ P n st) {lo m a:Nat} (ha:1≤a) (ham:a≤m) (hn:lo+m≤n) {Q:Option (Option Nat)×Nat→SortSt→Prop} (h:∀ k,a≤k→k≤m→Q (none,k) st):wpS (model prog w) A E s (ascF lo m a) Q st:=by
 refine wpS_forRange (I:=fun i c st'=>c=(none,i)∧st'=st) (fun i c st' hi1 hi2 hI=>?_) (fun c st' hI=>?_) ⟨rfl,rfl⟩
 ·obtain ⟨rfl,rfl⟩:=hI
  dsimp only
  refine wpS_bind (Z4w hc hT (by omega) (by omega) fun b=>?_)
  exact w_ite (fun _=>wpS_pure (h i (by omega) (by omega))) (fun _=>wpS_pure ⟨rfl,rfl⟩)
 ·obtain ⟨rfl,rfl⟩:=hI
  exact h _ (by omega) (by omega)
theorem J7w (hc:CmpOk prog w A s κ P) {st:SortSt} (hT:TOk κ P n st) {lo m k:Nat} (hk:1≤k) (hkm:k≤m) (hn:lo+m≤n) {Q:Option Nat→SortSt→Prop} (h:∀ j st',1≤j→j≤m→TOk κ P n st'→pendingOf st'=pendingOf st→Q (some j) st'):wpS (model prog w) A E s (tl3 lo k m) Q st:=by
 refine wpS_bind (J2l hT fun st2 h2 e2=>?_)
 refine wpS_bind (J8e hc h2 hk hkm hn fun j j1 j2=>?_)
 exact wpS_pure (h j st2 (by omega) j2 h2 e2)
theorem J7k (hc:CmpOk prog w A s κ P) {st:SortSt} (hT:TOk κ P n st) {lo m a:Nat} (ha:1≤a) (ham:a≤m) (hn:lo+m≤n) {Q:Option (Option Nat)×Nat×Nat→SortSt→Prop} (h:∀ k q st',a≤k→k≤m→TOk κ P n st'→pendingOf st'=pendingOf st→Q (none,k,q) st'):wpS (model prog w) A E s (dscF lo m a) Q st:=by
 refine wpS_forRange (I:=fun i c st'=>∃ q,c=(none,i,q)∧TOk κ P n st'∧pendingOf st'=pendingOf st) (fun i c st' hi1 hi2 hI=>?_) (fun c st' hI=>?_) ⟨0,rfl,hT,rfl⟩
 ·obtain ⟨q,rfl,hT',hp⟩:=hI
  dsimp only
  refine wpS_bind (Z4w hc hT' (by omega) (by omega) fun b=>?_)
  refine w_ite (fun _=>w_ite (fun _=>wpS_bind (J2l hT' fun st2 h2 e2=>wpS_pure ⟨0,rfl,h2,e2.trans hp⟩)) (fun _=>wpS_pure ⟨0,rfl,hT',hp⟩)) (fun _=>?_)
  refine wpS_bind (Z4w hc hT' (by omega) (by omega) fun d=>?_)
  exact w_ite (fun _=>wpS_pure (h i q st' (by omega) (by omega) hT' hp)) (fun _=>wpS_pure ⟨_,rfl,hT',hp⟩)
 ·obtain ⟨q,rfl,hT',hp⟩:=hI
  exact h _ q st' (by omega) (by omega) hT' hp
theorem Z4A {σ:Type} {M:Model} {t:String} {st:σ} {Q:Unit→σ→Prop} (h:Q () st):wpS M A E s (liftM (rule t):StateT σ Sem Unit) Q st:=wpS_lift (wpAny_rule ⟨rfl,h⟩)
theorem J5W (hc:CmpOk prog w A s κ P) {st:SortSt} (hT:TOk κ P n st) {lo m k:Nat} (hk:1≤k) (hkm:k+1≤m) (hn:lo+m≤n) {Q:Option Nat→SortSt→Prop} (h:∀ j st',1≤j→j≤m→TOk κ P n st'→pendingOf st'=pendingOf st→Q (some j) st'):wpS (model prog w) A E s (dscP lo k m) Q st:=by
 refine wpS_bind (Z4A ?_)
 refine wpS_bind (J7k hc hT (by omega) hkm hn fun j q st2 j1 j2 h2 e2=>?_)
 dsimp only
 have nx:∀ {st3:SortSt},TOk κ P n st3→pendingOf st3=pendingOf st→wpS (model prog w) A E s (tl3 lo j m) Q st3:=fun h3 e3=>J7w hc h3 (by omega) j2 hn fun i st4 i1 i2 h4 e4=>h i st4 i1 i2 h4 (e4.trans e3)
 exact w_ite (fun _=>wpS_bind (J2l h2 fun st3 h3 e3=>nx h3 (e3.trans e2))) (fun _=>nx h2 e2)
local macro_rules | `(tactic| walk_at "endEq") => `(tactic| (refine congrArg _ (funext fun u3 => ?_); obtain ⟨o3, k3⟩ := u3; cases o3 <;> rfl))
local macro_rules | `(tactic| walk_at "dscEq") => `(tactic| (unfold dscP dscF tl3 ascF; refine congrArg _ (funext fun u1 => ?_); refine congrArg _ (funext fun u2 => ?_); obtain ⟨o2, k2, q2⟩ := u2; cases o2 with | some o2 => rfl | none => (dsimp only; split; (refine congrArg _ (funext fun v1 => ?_); refine congrArg _ (funext fun v2 => ?_); walk_at "endEq"); (refine congrArg _ (funext fun v2 => ?_); walk_at "endEq"))))
theorem J3y (hc:CmpOk prog w A s κ P) {st:SortSt} (hT:TOk κ P n st) {lo m:Nat} (hm:1≤m) (hn:lo+m≤n) {Q:Option Nat→SortSt→Prop} (h:∀ k st',1≤k→k≤m→TOk κ P n st'→pendingOf st'=pendingOf st→Q (some k) st'):wpS (model prog w) A E s (countRun' lo m) Q st:=by
 rw [countRun'_eq]
 refine wpS_bind (wpS_mono (wpS_forRange (I:=fun i c st'=>c=(none,i)∧st'=st) (Q:=fun c st'=>∃ k,c=(none,k)∧1≤k∧k≤m∧st'=st) (fun i c st' hi1 hi2 hI=>?_) (fun c st' hI=>?_) ⟨rfl,rfl⟩) fun c st' hI=>?_)
 ·obtain ⟨rfl,rfl⟩:=hI
  dsimp only
  refine wpS_bind (Z4w hc hT (by omega) (by omega) fun b=>?_)
  exact w_ite (fun _=>wpS_pure ⟨i,rfl,by omega,by omega,rfl⟩) (fun _=>wpS_pure ⟨rfl,rfl⟩)
 ·obtain ⟨rfl,rfl⟩:=hI
  exact ⟨_,rfl,by omega,by omega,rfl⟩
 obtain ⟨k,rfl,k1,k2,rfl⟩:=hI
 dsimp only
 refine w_ite (fun _=>wpS_pure (h k st' k1 k2 hT rfl)) (fun hne=>?_)
 have hlt:k < m:=by have:k≠m:=fun z=>hne (by rw [z]; exact beq_self_eq_true m); omega
 have nx:∀ {st3:SortSt},TOk κ P n st3→pendingOf st3=pendingOf st'→wpS (model prog w) A E s (dscP lo k m) Q st3:=fun h3 e3=>J5W hc h3 k1 hlt hn fun i st4 i1 i2 h4 e4=>h i st4 i1 i2 h4 (e4.trans e3)
 refine w_ite (fun _=>wpS_bind (Z4w hc hT (by omega) (by omega) fun b=>?_)) (fun _=>Eq.mp (congrArg (fun p=>wpS (model prog w) A E s p Q st') (by walk_at "dscEq")) (nx hT rfl))
 exact w_ite (fun _=>wpS_pure (h k st' k1 k2 hT rfl)) (fun _=>wpS_bind (J2l hT fun st3 h3 e3=>Eq.mp (congrArg (fun p=>wpS (model prog w) A E s p Q st3) (by walk_at "dscEq")) (nx h3 e3)))
def Z9e:Bool→Keyed→Array Keyed→Nat→Nat→Nat→StateT SortSt Sem (Option Nat):=sortPriv% PySem.Builtin.gallop
theorem Z5a (hc:CmpOk prog w A s κ P) {st:SortSt} (hk:kindOf st=κ) {lf:Bool} {ky:Keyed} {ar:Array Keyed} {bs m hn:Nat} (pk:P ky) (ha:∀ x∈ar,P x) (hb:bs+m≤ar.size) (hh:hn < m) {Q:Option Nat→SortSt→Prop} (h:∀ k,k≤m→Q (some k) st):wpS (model prog w) A E s (Z9e lf ky ar bs m hn) Q st:=by
 have byd:∀ (j:Nat) (R:Option Bool→SortSt→Prop),j < m→(∀ b,R (some b) st)→wpS (model prog w) A E s (do
   let y ← elem' ar (bs+j)
   if lf then lt' y ky else return (← lt' ky y).map (!·):SM (Option Bool)) R st:=by
  intro j R hj hR
  refine wpS_bind (Z2e ha (by omega) fun y py _=>?_)
  refine w_ite (fun _=>w_lt hc hk py pk hR) (fun _=>wpS_bind (w_lt hc hk pk py fun b=>?_))
  exact wpS_pure (hR _)
 unfold Z9e
 refine wpS_bind (byd hn _ hh fun rt=>?_)
 dsimp only
 refine w_ite (fun _=>?_) (fun _=>?_)
 ·refine wpS_bind (wpS_mono (wpS_forRange (I:=fun i c st'=>∃ la of,c=(none,la,of)∧st'=st) (Q:=fun c st'=>∃ la of,c=(none,la,of)∧st'=st) (fun i c st' hi1 hi2 hI=>?_) (fun c st' hI=>hI) ⟨0,1,rfl,rfl⟩) fun c st' hI=>?_)
  ·obtain ⟨la,of,rfl,rfl⟩:=hI
   dsimp only
   refine w_ite (fun _=>wpS_pure ⟨la,of,rfl,rfl⟩) (fun hlt=>?_)
   refine wpS_bind (byd _ _ (by omega) fun b=>?_)
   exact w_ite (fun _=>wpS_pure ⟨la,of,rfl,rfl⟩) (fun _=>wpS_pure ⟨_,_,rfl,rfl⟩)
  ·obtain ⟨la,of,rfl,rfl⟩:=hI
   dsimp only
   refine wpS_bind (wpS_mono (wpS_forRange (I:=fun i c st2=>∃ lo hi,c=(none,lo,hi)∧hi≤m∧st2=st') (Q:=fun c st2=>∃ lo hi,c=(none,lo,hi)∧hi≤m∧st2=st') (fun i c st2 hi1 hi2 hI=>?_) (fun c st2 hI=>hI) ⟨_,hn+min of (m - hn),rfl,by omega,rfl⟩) fun c st2 hI=>?_)
   ·obtain ⟨lo,hi,rfl,hm,rfl⟩:=hI
    dsimp only
    refine w_ite (fun _=>wpS_pure ⟨lo,hi,rfl,hm,rfl⟩) (fun hlt=>?_)
    refine wpS_bind (byd _ _ (by omega) fun b=>?_)
    exact w_ite (fun _=>wpS_pure ⟨_,hi,rfl,hm,rfl⟩) (fun _=>wpS_pure ⟨lo,_,rfl,by omega,rfl⟩)
   ·obtain ⟨lo,hi,rfl,hm,rfl⟩:=hI
    exact wpS_pure (h hi hm)
 ·refine wpS_bind (wpS_mono (wpS_forRange (I:=fun i c st'=>∃ la of,c=(none,la,of)∧st'=st) (Q:=fun c st'=>∃ la of,c=(none,la,of)∧st'=st) (fun i c st' hi1 hi2 hI=>?_) (fun c st' hI=>hI) ⟨0,1,rfl,rfl⟩) fun c st' hI=>?_)
  ·obtain ⟨la,of,rfl,rfl⟩:=hI
   dsimp only
   refine w_ite (fun _=>wpS_pure ⟨la,of,rfl,rfl⟩) (fun hlt=>?_)
   refine wpS_bind (byd _ _ (by omega) fun b=>?_)
   exact w_ite (fun _=>wpS_pure ⟨la,of,rfl,rfl⟩) (fun _=>wpS_pure ⟨_,_,rfl,rfl⟩)
  ·obtain ⟨la,of,rfl,rfl⟩:=hI
   dsimp only
   refine wpS_bind (wpS_mono (wpS_forRange (I:=fun i c st2=>∃ lo hi,c=(none,lo,hi)∧hi≤m∧st2=st') (Q:=fun c st2=>∃ lo hi,c=(none,lo,hi)∧hi≤m∧st2=st') (fun i c st2 hi1 hi2 hI=>?_) (fun c st2 hI=>hI) ⟨_,hn - la,rfl,by omega,rfl⟩) fun c st2 hI=>?_)
   ·obtain ⟨lo,hi,rfl,hm,rfl⟩:=hI
    dsimp only
    refine w_ite (fun _=>wpS_pure ⟨lo,hi,rfl,hm,rfl⟩) (fun hlt=>?_)
    refine wpS_bind (byd _ _ (by omega) fun b=>?_)
    exact w_ite (fun _=>wpS_pure ⟨_,hi,rfl,hm,rfl⟩) (fun _=>wpS_pure ⟨lo,_,rfl,by omega,rfl⟩)
   ·obtain ⟨lo,hi,rfl,hm,rfl⟩:=hI
    exact wpS_pure (h hi hm)
def Z7G:Array Keyed→Array Keyed→SM (Array Keyed):=sortPriv% PySem.Builtin.mergeLo
def Z8X:Nat→SM Unit:=sortPriv% PySem.Builtin.setMinGallop
def Good (P:Keyed→Prop) (o:Array Keyed):Prop:=∀ x∈o,P x
theorem Good.app {a b:Array Keyed} (h:Good P a) (h':Good P b):Good P (a++b):=fun x hx=>(Array.mem_append.mp hx).elim (h x) (h' x)
theorem Good.push {a:Array Keyed} {x:Keyed} (h:Good P a) (p:P x):Good P (a.push x):=fun y hy=>by
 rcases Array.mem_push.mp hy with z | z
 ·exact h y z
 ·rw [z]; exact p
theorem Good.ext {a:Array Keyed} (h:Good P a) (i j:Nat):Good P (a.extract i j):=fun x hx=>by
 obtain ⟨k,hk,e⟩:=Array.mem_iff_getElem.mp hx
 rw [← e,Array.getElem_extract]
 exact h _ (Array.getElem_mem _)
theorem Good.rev {a:Array Keyed} (h:Good P a):Good P a.reverse:=fun x hx=>h x (Array.mem_reverse.mp hx)
theorem Good.one {x:Keyed} (p:P x):Good P #[x]:=fun y hy=>by
 have:y=x:=by simpa using hy
 rw [this]; exact p
theorem w_iteb {σ α:Type} {M:Model} {a b:Nat} {x y:StateT σ Sem α} {Q:α→σ→Prop} {st:σ} (h1:a=b→wpS M A E s x Q st) (h2:a≠b→wpS M A E s y Q st):wpS M A E s (if (a == b)=true then x else y) Q st:=
 w_ite (fun h=>h1 (beq_iff_eq.mp h)) (fun h=>h2 fun z=>h (beq_iff_eq.mpr z))
structure Like (κ:SortKind) (P:Keyed→Prop) (n:Nat) (st0 st:SortSt):Prop where
 ok:TOk κ P n st
 pd:pendingOf st=pendingOf st0
 ar:arrOf st=arrOf st0
theorem Z5q {st0 st:SortSt} {g:Nat} (h0:Like κ P n st0 st) {Q:Unit→SortSt→Prop} (h:∀ st',Like κ P n st0 st'→Q () st'):wpS (model prog w) A E s (Z8X g) Q st:=by
 unfold Z8X
 exact wpS_modify (h _ ⟨⟨h0.ok.kd,h0.ok.sz,h0.ok.el,h0.ok.fl⟩,h0.pd,h0.ar⟩)
theorem q_elem {ar:Array Keyed} {st:SortSt} {i:Nat} {Q:Keyed→SortSt→Prop} (ha:∀ x∈ar,P x) (hi:i < ar.size) (h:∀ x,P x→ar[i]?=some x→Q x st):wpS (model prog w) A E s ((sortPriv% PySem.Builtin.elem) ar i) Q st:=Z2e ha hi h
theorem q_setMin {st0 st:SortSt} {g:Nat} (h0:Like κ P n st0 st) {Q:Unit→SortSt→Prop} (h:∀ st',Like κ P n st0 st'→Q () st'):wpS (model prog w) A E s ((sortPriv% PySem.Builtin.setMinGallop) g) Q st:=Z5q h0 h
theorem q_gallop (hc:CmpOk prog w A s κ P) {st:SortSt} (hk:kindOf st=κ) {lf:Bool} {ky:Keyed} {ar:Array Keyed} {bs m hn:Nat} (pk:P ky) (ha:∀ x∈ar,P x) (hb:bs+m≤ar.size) (hh:hn < m) {Q:Option Nat→SortSt→Prop} (h:∀ k,k≤m→Q (some k) st):wpS (model prog w) A E s ((sortPriv% PySem.Builtin.gallop) lf ky ar bs m hn) Q st:=Z5a hc hk pk ha hb hh h
abbrev LoQ (κ:SortKind) (P:Keyed→Prop) (n:Nat) (st0:SortSt) (a b:Array Keyed) (t:Nat) (r:Option (Array Keyed)) (o:Array Keyed) (i j:Nat) (st:SortSt):Prop:=Like κ P n st0 st∧match r with
 | some x=>Good P x
 | none=>Good P o∧i+1 < a.size∧j < b.size∧t≤i+j
local macro_rules | `(tactic| walk_at "good") => `(tactic| repeat (with_reducible first | assumption | apply Good.app | apply Good.push | apply Good.ext | apply Good.rev | apply Good.one))
local macro_rules | `(tactic| walk_at "om") => `(tactic| ((try dsimp only); omega))
local macro_rules | `(tactic| walk_at "leaf") => `(tactic| first | exact ⟨rfl, by assumption, by walk_at "good", by walk_at "om", by walk_at "om", by walk_at "om"⟩ | exact ⟨by assumption, by walk_at "good", by walk_at "om", by walk_at "om", by walk_at "om"⟩ | exact ⟨by assumption, by walk_at "good"⟩)
local macro_rules | `(tactic| walk_at "wgo") => `(tactic| repeat' (first | ((with_reducible refine wpS_pure ?_); walk_at "leaf") | (with_reducible refine w_iteb (fun _ => ?_) (fun _ => ?_)) | (with_reducible refine w_ite (fun _ => ?_) (fun _ => ?_)) | (with_reducible refine wpS_bind (q_setMin (by with_unfolding_all assumption) fun _ _ => ?_)) | (with_reducible refine wpS_bind (q_elem (by with_unfolding_all assumption) (by with_unfolding_all walk_at "om") fun _ _ _ => ?_)) | (with_reducible refine wpS_bind (q_gallop (by with_unfolding_all assumption) (by with_unfolding_all exact TOk.kd (Like.ok (by assumption))) (by with_unfolding_all assumption) (by with_unfolding_all assumption) (by with_unfolding_all walk_at "om") (by with_unfolding_all walk_at "om") fun _ _ => ?_)) | dsimp only))
theorem Z9b (hc:CmpOk prog w A s κ P) {st:SortSt} (hT:TOk κ P n st) {a b:Array Keyed} (ga:Good P a) (gb:Good P b) (ha:1≤a.size) (hb:1≤b.size) {Q:Array Keyed→SortSt→Prop} (h:∀ o st',Good P o→Like κ P n st st'→Q o st'):wpS (model prog w) A E s (Z7G a b) Q st:=by
 unfold Z7G
 refine wpS_bind (Z4A ?_)
 refine wpS_bind (Z2e gb (by walk_at "om") fun x0 p0 _=>?_)
 have L0:Like κ P n st st:=⟨hT,rfl,rfl⟩
 refine w_iteb (fun _=>wpS_pure (h _ _ (by walk_at "good") L0)) (fun hj=>?_)
 refine w_iteb (fun _=>wpS_pure (h _ _ (by walk_at "good") L0)) (fun hi=>?_)
 refine wpS_bind (wpS_get ?_)
 refine wpS_bind (wpS_mono (wpS_forRange (I:=fun t c st'=>c.1=none∧LoQ κ P n st a b (t+1) none c.2.1 c.2.2.1 c.2.2.2.1 st') (Q:=fun c st'=>∃ x,c.1=some x∧Good P x∧Like κ P n st st') (fun t c st' ht1 ht2 hI=>?_) (fun c st' hI=>?_) ⟨rfl,L0,Good.one p0,by walk_at "om",by walk_at "om",by walk_at "om"⟩) fun c st' hI=>?_)
 ·obtain ⟨r,o,i,j,mg⟩:=c
  obtain ⟨e,hL,hg,h1,h2,h3⟩:=hI
  dsimp only at e hg h1 h2 h3
  subst e
  refine wpS_bind (wpS_mono (wpS_forRange (I:=fun t1 c st'=>c.1=none∧LoQ κ P n st a b (i+j+t1) none c.2.1 c.2.2.1 c.2.2.2.1 st') (Q:=fun c st'=>LoQ κ P n st a b (i+j+1) c.1 c.2.1 c.2.2.1 c.2.2.2.1 st') (fun t1 c st2 ht1 ht2 hI=>?_) (fun c st2 hI=>?_) ⟨rfl,hL,hg,h1,h2,by walk_at "om"⟩) fun c st2 hI=>?_)
  ·obtain ⟨r1,o1,i1,j1,ac,bc⟩:=c
   obtain ⟨e1,hL1,hg1,g1,g2,g3⟩:=hI
   dsimp only at e1 hg1 g1 g2 g3
   subst e1
   dsimp only
   refine wpS_bind (Z2e gb (by walk_at "om") fun xb pb _=>wpS_bind (Z2e ga (by walk_at "om") fun xa pa _=>wpS_bind (w_lt hc hL1.ok.kd pb pa fun bw=>?_)))
   dsimp only
   refine w_ite (fun _=>wpS_bind (Z2e gb (by walk_at "om") fun xb2 pb2 _=>?_)) (fun _=>wpS_bind (Z2e ga (by walk_at "om") fun xa2 pa2 _=>?_))
   ·refine w_iteb (fun _=>wpS_pure ⟨hL1,by walk_at "good"⟩) (fun hjb=>?_)
    exact w_ite (fun _=>wpS_pure ⟨hL1,by walk_at "good",by walk_at "om",by walk_at "om",by walk_at "om"⟩) (fun _=>wpS_pure ⟨rfl,hL1,by walk_at "good",by walk_at "om",by walk_at "om",by walk_at "om"⟩)
   ·refine w_iteb (fun _=>wpS_pure ⟨hL1,by walk_at "good"⟩) (fun hja=>?_)
    exact w_ite (fun _=>wpS_pure ⟨hL1,by walk_at "good",by walk_at "om",by walk_at "om",by walk_at "om"⟩) (fun _=>wpS_pure ⟨rfl,hL1,by walk_at "good",by walk_at "om",by walk_at "om",by walk_at "om"⟩)
  ·obtain ⟨e1,hL1,hg1,g1,g2,g3⟩:=hI
   rw [show c.1=none from e1]
   exact ⟨hL1,hg1,g1,g2,by have:max 0 (a.size+b.size) ≥ 1:=(by omega); omega⟩
  obtain ⟨r1,o1,i1,j1,ac,bc⟩:=c
  obtain ⟨hL1,hI⟩:=hI
  cases r1 with
  | some x=>exact wpS_pure ⟨x,rfl,hI,hL1⟩
  | none=>
  obtain ⟨hg1,g1,g2,g3⟩:=hI
  dsimp only at hg1 g1 g2 g3
  dsimp only
  refine wpS_bind (Z4A ?_)
  refine wpS_bind (wpS_mono (wpS_forRange (I:=fun t1 c st'=>c.1=none∧LoQ κ P n st a b (i1+j1) none c.2.1 c.2.2.1 c.2.2.2.1 st') (Q:=fun c st'=>LoQ κ P n st a b (i1+j1) c.1 c.2.1 c.2.2.1 c.2.2.2.1 st') (fun t1 c st3 ht1 ht2 hI=>?_) (fun c st3 hI=>?_) ⟨rfl,hL1,hg1,g1,g2,by walk_at "om"⟩) fun c st3 hI=>?_)
  ·obtain ⟨r2,o2,i2,j2,mg2,ac2,bc2⟩:=c
   obtain ⟨e2,hL2,hg2,k1,k2,k3⟩:=hI
   dsimp only at e2 hg2 k1 k2 k3
   subst e2
   dsimp only
   walk_at "wgo"
  ·obtain ⟨e1,hL1,hg1,g1,g2,g3⟩:=hI
   rw [show c.1=none from e1]
   exact ⟨hL1,hg1,g1,g2,g3⟩
  obtain ⟨r2,o2,i2,j2,mg2,ac2,bc2⟩:=c
  obtain ⟨hL2,hI⟩:=hI
  cases r2 with
  | some x=>exact wpS_pure ⟨x,rfl,hI,hL2⟩
  | none=>
  obtain ⟨hg2,k1,k2,k3⟩:=hI
  dsimp only at hg2 k1 k2 k3
  dsimp only
  exact wpS_bind (Z5q hL2 fun st4 hL4=>wpS_pure ⟨rfl,hL4,hg2,k1,k2,by walk_at "om"⟩)
 ·obtain ⟨r,o,i,j,mg⟩:=c
  obtain ⟨e,hL,hg,h1,h2,h3⟩:=hI
  dsimp only at h1 h2 h3
  exfalso
  have:max 0 (a.size+b.size)=a.size+b.size:=by omega
  rw [this] at h3
  omega
 ·obtain ⟨x,e,hg,hL⟩:=hI
  obtain ⟨r,o,i,j,mg⟩:=c
  cases e
  exact wpS_pure (h x st' hg hL)
end
end Tim
end
section
namespace Tim
open PySem PyProof.Rows
section
variable {prog:Program} {w:World} {A:Around} {E:Value→Shared→Prop} {s:Shared} {κ:SortKind} {P:Keyed→Prop} {n:Nat}
local macro_rules | `(tactic| walk_at "good2") => `(tactic| repeat (with_reducible first | assumption | apply Good.app | apply Good.push | apply Good.ext | apply Good.rev | apply Good.one))
local macro_rules | `(tactic| walk_at "om2") => `(tactic| ((try dsimp only); omega))
local macro_rules | `(tactic| walk_at "leaf2") => `(tactic| first | exact ⟨rfl, by assumption, by walk_at "good2", by walk_at "om2", by walk_at "om2", by walk_at "om2"⟩ | exact ⟨by assumption, by walk_at "good2", by walk_at "om2", by walk_at "om2", by walk_at "om2"⟩ | exact ⟨by assumption, by walk_at "good2"⟩)
local macro_rules | `(tactic| walk_at "wgo2") => `(tactic| repeat' (first | ((with_reducible refine wpS_pure ?_); walk_at "leaf2") | (with_reducible refine w_iteb (fun _ => ?_) (fun _ => ?_)) | (with_reducible refine w_ite (fun _ => ?_) (fun _ => ?_)) | (with_reducible refine wpS_bind (q_setMin (by with_unfolding_all assumption) fun _ _ => ?_)) | (with_reducible refine wpS_bind (q_elem (by with_unfolding_all assumption) (by with_unfolding_all walk_at "om2") fun _ _ _ => ?_)) | (with_reducible refine wpS_bind (q_gallop (by with_unfolding_all assumption) (by with_unfolding_all exact TOk.kd (Like.ok (by assumption))) (by with_unfolding_all assumption) (by with_unfolding_all assumption) (by with_unfolding_all walk_at "om2") (by with_unfolding_all walk_at "om2") fun _ _ => ?_)) | dsimp only))
def Z7D:Array Keyed→Array Keyed→SM (Array Keyed):=sortPriv% PySem.Builtin.mergeHi
abbrev HiQ (κ:SortKind) (P:Keyed→Prop) (n:Nat) (st0:SortSt) (a b:Array Keyed) (t:Nat) (r:Option (Array Keyed)) (o:Array Keyed) (i j:Nat) (st:SortSt):Prop:=Like κ P n st0 st∧match r with
 | some x=>Good P x
 | none=>Good P o∧(1≤i∧i < a.size)∧(2≤j∧j≤b.size)∧t+i+j≤a.size+b.size
theorem Z9Y (hc:CmpOk prog w A s κ P) {st:SortSt} (hT:TOk κ P n st) {a b:Array Keyed} (ga:Good P a) (gb:Good P b) (ha:1≤a.size) (hb:1≤b.size) {Q:Array Keyed→SortSt→Prop} (h:∀ o st',Good P o→Like κ P n st st'→Q o st'):wpS (model prog w) A E s (Z7D a b) Q st:=by
 unfold Z7D
 refine wpS_bind (Z4A ?_)
 refine wpS_bind (Z2e ga (by omega) fun x0 p0 _=>?_)
 have L0:Like κ P n st st:=⟨hT,rfl,rfl⟩
 refine w_iteb (fun _=>wpS_pure (h _ _ (by walk_at "good2") L0)) (fun hj=>?_)
 refine w_iteb (fun _=>wpS_pure (h _ _ (by walk_at "good2") L0)) (fun hi=>?_)
 refine wpS_bind (wpS_get ?_)
 refine wpS_bind (wpS_mono (wpS_forRange (I:=fun t c st'=>c.1=none∧HiQ κ P n st a b (t+1) none c.2.2.2.1 c.2.1 c.2.2.1 st') (Q:=fun c st'=>∃ x,c.1=some x∧Good P x∧Like κ P n st st') (fun t c st' ht1 ht2 hI=>?_) (fun c st' hI=>?_) ⟨rfl,L0,Good.one p0,by walk_at "om2",by walk_at "om2",by walk_at "om2"⟩) fun c st' hI=>?_)
 ·obtain ⟨r,i,j,o,mg⟩:=c
  obtain ⟨e,hL,hg,h1,h2,h3⟩:=hI
  dsimp only at e hg h1 h2 h3
  subst e
  refine wpS_bind (wpS_mono (wpS_forRange (I:=fun t1 c st'=>c.1=none∧HiQ κ P n st a b (a.size+b.size - i - j+t1) none c.2.2.2.1 c.2.1 c.2.2.1 st') (Q:=fun c st'=>HiQ κ P n st a b (a.size+b.size - i - j+1) c.1 c.2.2.2.1 c.2.1 c.2.2.1 st') (fun t1 c st2 ht1 ht2 hI=>?_) (fun c st2 hI=>?_) ⟨rfl,hL,hg,h1,h2,by walk_at "om2"⟩) fun c st2 hI=>?_)
  ·obtain ⟨r1,i1,j1,o1,ac,bc⟩:=c
   obtain ⟨e1,hL1,hg1,g1,g2,g3⟩:=hI
   dsimp only at e1 hg1 g1 g2 g3
   subst e1
   dsimp only
   refine wpS_bind (Z2e gb (by walk_at "om2") fun xb pb _=>wpS_bind (Z2e ga (by walk_at "om2") fun xa pa _=>wpS_bind (w_lt hc hL1.ok.kd pb pa fun bw=>?_)))
   dsimp only
   walk_at "wgo2"
  ·obtain ⟨e1,hL1,hg1,g1,g2,g3⟩:=hI
   rw [show c.1=none from e1]
   exact ⟨hL1,hg1,g1,g2,by have:max 0 (a.size+b.size) ≥ 1:=(by omega); omega⟩
  obtain ⟨r1,i1,j1,o1,ac,bc⟩:=c
  obtain ⟨hL1,hI⟩:=hI
  cases r1 with
  | some x=>exact wpS_pure ⟨x,rfl,hI,hL1⟩
  | none=>
  obtain ⟨hg1,g1,g2,g3⟩:=hI
  dsimp only at hg1 g1 g2 g3
  dsimp only
  refine wpS_bind (Z4A ?_)
  refine wpS_bind (wpS_mono (wpS_forRange (I:=fun t1 c st'=>c.1=none∧HiQ κ P n st a b (t+1+1) none c.2.2.2.1 c.2.1 c.2.2.1 st') (Q:=fun c st'=>HiQ κ P n st a b (t+1+1) c.1 c.2.2.2.1 c.2.1 c.2.2.1 st') (fun t1 c st3 ht1 ht2 hI=>?_) (fun c st3 hI=>?_) ⟨rfl,hL1,hg1,g1,g2,by walk_at "om2"⟩) fun c st3 hI=>?_)
  ·skip
   obtain ⟨r2,i2,j2,o2,mg2,ac2,bc2⟩:=c
   obtain ⟨e2,hL2,hg2,k1,k2,k3⟩:=hI
   dsimp only at e2 hg2 k1 k2 k3
   subst e2
   clear g1 g2 g3 h1 h2 h3 hi hj ht1 ht2
   obtain ⟨u1,u2⟩:=k1
   obtain ⟨u3,u4⟩:=k2
   dsimp only
   walk_at "wgo2"
  ·obtain ⟨e1,hL1,hg1,g1,g2,g3⟩:=hI
   rw [show c.1=none from e1]
   exact ⟨hL1,hg1,g1,g2,g3⟩
  obtain ⟨r2,i2,j2,o2,mg2,ac2,bc2⟩:=c
  obtain ⟨hL2,hI⟩:=hI
  cases r2 with
  | some x=>exact wpS_pure ⟨x,rfl,hI,hL2⟩
  | none=>
  obtain ⟨hg2,k1,k2,k3⟩:=hI
  dsimp only at hg2 k1 k2 k3
  dsimp only
  exact wpS_bind (Z5q hL2 fun st4 hL4=>wpS_pure ⟨rfl,hL4,hg2,k1,k2,by walk_at "om2"⟩)
 ·obtain ⟨r,i,j,o,mg⟩:=c
  obtain ⟨e,hL,hg,h1,h2,h3⟩:=hI
  dsimp only at h1 h2 h3
  exfalso
  have:max 0 (a.size+b.size)=a.size+b.size:=by omega
  rw [this] at h3
  omega
 ·obtain ⟨x,e,hg,hL⟩:=hI
  obtain ⟨r,i,j,o,mg⟩:=c
  cases e
  exact wpS_pure (h x st' hg hL)
end
end Tim
end
section
namespace Tim
open PySem PyProof.Rows
section
variable {prog:Program} {w:World} {A:Around} {E:Value→Shared→Prop} {s:Shared} {κ:SortKind} {P:Keyed→Prop} {n:Nat}
inductive Runs:List (Nat×Nat×Nat)→Nat→Nat→Prop
 | nil {lo:Nat}:Runs [] lo lo
 | cons {lo k p hi:Nat} {l:List (Nat×Nat×Nat)}:1≤k→Runs l (lo+k) hi→Runs ((lo,k,p)::l) lo hi
theorem Runs.le:∀ {l:List (Nat×Nat×Nat)} {lo hi:Nat},Runs l lo hi→lo≤hi
 | _,_,_,.nil=>Nat.le_refl _
 | _,_,_,.cons h t=>by have:=t.le; omega
theorem Runs.snoc:∀ {l:List (Nat×Nat×Nat)} {lo hi k p:Nat},Runs l lo hi→1≤k→Runs (l++[(hi,k,p)]) lo (hi+k)
 | _,_,_,_,_,.nil,h=>.cons h .nil
 | _,_,_,_,_,.cons h t,h'=>.cons h (t.snoc h')
theorem Runs.at:∀ {l:List (Nat×Nat×Nat)} {lo hi i:Nat} {x y:Nat×Nat×Nat},Runs l lo hi→l[i]?=some x→l[i+1]?=some y→x.1+x.2.1=y.1∧1≤x.2.1∧1≤y.2.1∧y.1+y.2.1≤hi
 | _,_,_,0,x,y,.cons h t,hx,hy=>by
  cases hx
  cases t with
  | nil=>cases hy
  | cons h2 t2=>cases hy; exact ⟨rfl,h,h2,t2.le⟩
 | _,_,_,i+1,x,y,.cons h t,hx,hy=>t.at (i:=i) hx hy
theorem Runs.join:∀ {l:List (Nat×Nat×Nat)} {lo hi i:Nat} {x y:Nat×Nat×Nat} {p:Nat},Runs l lo hi→l[i]?=some x→l[i+1]?=some y→Runs ((l.set i (x.1,x.2.1+y.2.1,p)).eraseIdx (i+1)) lo hi
 | _,_,_,0,x,y,p,.cons h t,hx,hy=>by
  cases hx
  cases t with
  | nil=>cases hy
  | @cons _ k2 p2 _ l2 h2 t2=>
   cases hy
   show Runs ((_,_,p)::l2) _ _
   refine .cons (by dsimp only; omega) ?_
   rw [Nat.add_assoc] at t2
   exact t2
 | _,_,_,i+1,x,y,p,.cons h t,hx,hy=>.cons h (t.join (i:=i) hx hy)
structure ROk (κ:SortKind) (P:Keyed→Prop) (n lo:Nat) (st:SortSt):Prop where
 ok:TOk κ P n st
 rn:Runs (pendingOf st).toList 0 lo
theorem Z7b:∀ (l:List (Keyed×Nat)) (sa:Nat) (a:Array Keyed),(∀ x∈l,P x.1)→Good P a→(l.foldl (fun a x=>a.setIfInBounds (sa+x.2) x.1) a).size=a.size∧Good P (l.foldl (fun a x=>a.setIfInBounds (sa+x.2) x.1) a)
 | [],_,a,_,h=>⟨rfl,h⟩
 | x::l,sa,a,hl,h=>by
  have g:Good P (a.setIfInBounds (sa+x.2) x.1):=fun y hy=>by
   rcases Array.mem_or_eq_of_mem_setIfInBounds hy with z | z
   ·exact h y z
   ·rw [z]; exact hl x List.mem_cons_self
  obtain ⟨h1,h2⟩:=Z7b l sa _ (fun y hy=>hl y (List.mem_cons_of_mem _ hy)) g
  refine ⟨?_,h2⟩
  rw [List.foldl_cons,h1,Array.size_setIfInBounds]
theorem J7o {σ:Type} {M:Model} {t st:σ} {Q:PUnit→σ→Prop} (h:Q ⟨⟩ t):wpS M A E s (set t:StateT σ Sem PUnit) Q st:=by
 unfold wpS; rw [StateT.run_set]; exact wpAny_pure ⟨rfl,h⟩
theorem Z4h (hc:CmpOk prog w A s κ P) {st:SortSt} {lo:Nat} (hR:ROk κ P n lo st) (hlo:lo≤n) {i:Nat} (hi:i+1 < (pendingOf st).size) {Q:Bool→SortSt→Prop} (h:∀ st',ROk κ P n lo st'→(pendingOf st').size+1=(pendingOf st).size→Q true st'):wpS (model prog w) A E s (mergeAt' i) Q st:=by
 unfold mergeAt'
 refine wpS_bind (wpS_get ?_)
 have e1:(pendingOf st)[i]?=some (pendingOf st)[i]:=Array.getElem?_eq_getElem (by omega)
 have e2:(pendingOf st)[i+1]?=some (pendingOf st)[i+1]:=Array.getElem?_eq_getElem hi
 generalize hx:(pendingOf st)[i]=x at e1
 generalize hy:(pendingOf st)[i+1]=y at e2
 obtain ⟨sa,na,pw⟩:=x
 obtain ⟨sb,nb,pb⟩:=y
 rw [e1,e2]
 dsimp only
 have hl1:(pendingOf st).toList[i]?=some (sa,na,pw):=by rw [Array.getElem?_toList]; exact e1
 have hl2:(pendingOf st).toList[i+1]?=some (sb,nb,pb):=by rw [Array.getElem?_toList]; exact e2
 obtain ⟨h1,h2,h3,h4⟩:=hR.rn.at hl1 hl2
 dsimp only at h1 h2 h3 h4
 have hsz:=hR.ok.sz
 refine wpS_bind (J7o ?_)
 have hP:Runs (((pendingOf st).setIfInBounds i (sa,na+nb,pw)).eraseIdxIfInBounds (i+1)).toList 0 lo:=by
  have:=hR.rn.join (p:=pw) hl1 hl2
  rw [Array.toList_eraseIdxIfInBounds,Array.toList_setIfInBounds]
  exact this
 have hPs:(((pendingOf st).setIfInBounds i (sa,na+nb,pw)).eraseIdxIfInBounds (i+1)).size+1=(pendingOf st).size:=by
  rw [← Array.length_toList,Array.toList_eraseIdxIfInBounds,Array.toList_setIfInBounds,List.length_eraseIdx,List.length_set,Array.length_toList,if_pos hi]
  omega
 generalize ((pendingOf st).setIfInBounds i (sa,na+nb,pw)).eraseIdxIfInBounds (i+1)=pd at *
 have T1:TOk κ P n (setPending st pd):=⟨hR.ok.kd,hR.ok.sz,hR.ok.el,hR.ok.fl⟩
 have R1:ROk κ P n lo (setPending st pd):=⟨T1,hP⟩
 have ga:Good P (arrOf st):=hR.ok.el
 refine wpS_bind (Z2e ga (show _ < (arrOf st).size by omega) fun x1 p1 _=>?_)
 refine wpS_bind (Z5a hc T1.kd p1 ga (by omega) (by omega) fun k hk=>?_)
 dsimp only
 refine w_iteb (fun _=>wpS_pure (h _ R1 hPs)) (fun hna=>?_)
 refine wpS_bind (Z2e ga (show _ < (arrOf st).size by omega) fun x2 p2 _=>?_)
 refine wpS_bind (Z5a hc T1.kd p2 ga (by omega) (by omega) fun m hm=>?_)
 dsimp only
 refine w_iteb (fun _=>wpS_pure (h _ R1 hPs)) (fun hnb=>?_)
 have fin:∀ (mg:Array Keyed) (st2:SortSt),Good P mg→Like κ P n (setPending st pd) st2→wpS (model prog w) A E s (do
   modify fun t=>setArr t (List.foldl (fun a x=>a.setIfInBounds (sa+k+x.snd) x.fst) (arrOf t) mg.toList.zipIdx)
   let t ← get
   pure (failedOf t).isNone:SM Bool) Q st2:=by
  intro mg st2 hg hL
  refine wpS_bind (wpS_modify ?_)
  refine wpS_bind (wpS_get (wpS_pure ?_))
  obtain ⟨f1,f2⟩:=Z7b (P:=P) mg.toList.zipIdx (sa+k) (arrOf st2) (fun x hx=>hg _ (by
   have:=List.fst_mem_of_mem_zipIdx hx
   exact Array.mem_toList_iff.mp this)) hL.ok.el
  have e:(failedOf (setArr st2 (List.foldl (fun a x=>a.setIfInBounds (sa+k+x.snd) x.fst) (arrOf st2) mg.toList.zipIdx))).isNone=true:=by
   show (failedOf st2).isNone=true
   rw [hL.ok.fl]; rfl
  rw [e]
  refine h _ ⟨⟨hL.ok.kd,f1.trans hL.ok.sz,f2,hL.ok.fl⟩,?_⟩ ?_
  ·show Runs (pendingOf st2).toList 0 lo
   rw [hL.pd]; exact hP
  ·show (pendingOf st2).size+1=_
   rw [hL.pd]; exact hPs
 have z1:1≤((arrOf st).extract (sa+k) sb).size:=by rw [Array.size_extract]; omega
 have z2:1≤((arrOf st).extract sb (sb+m)).size:=by rw [Array.size_extract]; omega
 exact w_ite (fun _=>wpS_bind (Z9b hc T1 (ga.ext _ _) (ga.ext _ _) z1 z2 fun o st2 ho hL=>fin o st2 ho hL)) (fun _=>wpS_bind (Z9Y hc T1 (ga.ext _ _) (ga.ext _ _) z1 z2 fun o st2 ho hL=>fin o st2 ho hL))
end
end Tim
end
section
namespace Tim
open PySem PyProof.Rows
section
variable {prog:Program} {w:World} {A:Around} {E:Value→Shared→Prop} {s:Shared} {κ:SortKind} {P:Keyed→Prop} {n:Nat}
theorem Runs.pow:∀ {l:List (Nat×Nat×Nat)} {lo hi:Nat} (i q:Nat),Runs l lo hi→Runs (l.modify i fun x=>(x.1,x.2.1,q)) lo hi
 | _,_,_,_,_,.nil=>by rw [List.modify_nil]; exact .nil
 | _,_,_,0,q,.cons h t=>.cons h t
 | _,_,_,i+1,q,.cons h t=>.cons h (Runs.pow i q t)
theorem ROk.pend {lo hi:Nat} {st:SortSt} (h:ROk κ P n lo st) {pd:Array (Nat×Nat×Nat)} (r:Runs pd.toList 0 hi):ROk κ P n hi (setPending st pd):=⟨⟨h.ok.kd,h.ok.sz,h.ok.el,h.ok.fl⟩,r⟩
theorem J6n {c:Prop} [Decidable c] {k:Nat} (h:¬ k≤1):(if c then k - 2 - 1 else k - 2)+1 < k:=by split <;> omega
theorem w_sortRuns (hc:CmpOk prog w A s κ P) {st:SortSt} (hT:TOk κ P n st) (hp:pendingOf st=#[]) {Q:Unit→SortSt→Prop} (h:∀ st',TOk κ P n st'→Q () st'):wpS (model prog w) A E s sortRuns' Q st:=by
 rw [sortRuns'_eq]
 refine wpS_bind (wpS_get ?_)
 have hsz:=hT.sz
 have R0:ROk κ P n 0 st:=⟨hT,by rw [hp]; exact .nil⟩
 (try dsimp only)
 rw [hsz]
 refine wpS_bind (wpS_mono (wpS_forRange (I:=fun t c st'=>c.1=none∧c.2≤n∧ROk κ P n c.2 st') (Q:=fun c st'=>c.1=none∧c.2≤n∧ROk κ P n c.2 st') (fun t c st' ht1 ht2 hI=>?_) (fun c st' hI=>hI) ⟨rfl,Nat.zero_le _,R0⟩) fun c st' hI=>?_)
 ·obtain ⟨r,lo⟩:=c
  obtain ⟨e,hl,hR⟩:=hI
  dsimp only at e hl hR
  subst e
  (try dsimp only)
  refine w_ite (fun _=>wpS_pure ⟨rfl,hl,hR⟩) (fun hlo=>?_)
  refine wpS_bind (J3y hc hR.ok (by omega) (by omega) fun k st2 k1 k2 h2 e2=>?_)
  have R2:ROk κ P n lo st2:=⟨h2,by rw [e2]; exact hR.rn⟩
  (try dsimp only)
  refine w_ite (fun hmr=>?_) (fun _=>?_)
  ·refine wpS_bind (Z4A ?_)
   refine wpS_bind (J7Q hc h2 (by omega) fun st3 h3 e3=>?_)
   have R3:ROk κ P n lo st3:=⟨h3,by rw [e3]; exact R2.rn⟩
   have hmn:1≤min (n - lo) (minRun' n n 0)∧min (n - lo) (minRun' n n 0)≤n - lo:=by omega
   refine w_ite (fun z=>by cases z) (fun _=>?_)
   refine wpS_bind (wpS_get ?_)
   (try dsimp only)
   generalize (pendingOf st3).back?=ob
   rcases ob with _ | ⟨s1,n1,p1⟩
   ·dsimp only
    refine wpS_bind (wpS_modify (wpS_pure ⟨rfl,by dsimp only; omega,R3.pend ?_⟩))
    rw [Array.toList_push]
    exact R3.rn.snoc (by omega)
   (try dsimp only)
   refine wpS_bind (wpS_mono (wpS_forRange (I:=fun _ c st5=>c=(none,())∧ROk κ P n lo st5) (Q:=fun c st5=>c=(none,())∧ROk κ P n lo st5) (fun t5 c st5 _ _ hI=>?_) (fun c st5 hI=>hI) ⟨rfl,R3⟩) fun c st5 hI=>?_)
   ·obtain ⟨rfl,R5⟩:=hI
    refine wpS_bind (wpS_get ?_)
    (try dsimp only)
    by_cases hs:(pendingOf st5).size > 1
    ·rw [if_pos hs,Array.getElem?_eq_getElem (by omega)]
     (try dsimp only)
     refine w_ite (fun _=>wpS_pure ⟨rfl,R5⟩) (fun _=>?_)
     refine wpS_bind (Z4h hc R5 hl (by omega) fun st6 R6 _=>?_)
     exact w_ite (fun z=>by cases z) (fun _=>wpS_pure ⟨rfl,R6⟩)
    ·rw [if_neg hs]
     exact wpS_pure ⟨rfl,R5⟩
   ·obtain ⟨rfl,R5⟩:=hI
    (try dsimp only)
    refine wpS_bind (wpS_modify ?_)
    refine wpS_bind (wpS_modify (wpS_pure ⟨rfl,by dsimp only; omega,?_⟩))
    have R6:=R5.pend (pd:=(pendingOf st5).modify ((pendingOf st5).size - 1) fun x=>(x.1,x.2.1,power' n (2 * s1+n1) (2 * s1+n1+n1+min (n - lo) (minRun' n n 0)) n)) (hi:=lo) (by
     rw [Array.toList_modify]
     exact R5.rn.pow _ _)
    refine R6.pend ?_
    rw [Array.toList_push]
    exact R6.rn.snoc (by omega)
  ·
   refine wpS_bind (wpS_get ?_)
   (try dsimp only)
   generalize (pendingOf st2).back?=ob
   rcases ob with _ | ⟨s1,n1,p1⟩
   ·dsimp only
    refine wpS_bind (wpS_modify (wpS_pure ⟨rfl,by dsimp only; omega,R2.pend ?_⟩))
    rw [Array.toList_push]
    exact R2.rn.snoc (by omega)
   (try dsimp only)
   refine wpS_bind (wpS_mono (wpS_forRange (I:=fun _ c st5=>c=(none,())∧ROk κ P n lo st5) (Q:=fun c st5=>c=(none,())∧ROk κ P n lo st5) (fun t5 c st5 _ _ hI=>?_) (fun c st5 hI=>hI) ⟨rfl,R2⟩) fun c st5 hI=>?_)
   ·obtain ⟨rfl,R5⟩:=hI
    refine wpS_bind (wpS_get ?_)
    (try dsimp only)
    by_cases hs:(pendingOf st5).size > 1
    ·rw [if_pos hs,Array.getElem?_eq_getElem (by omega)]
     (try dsimp only)
     refine w_ite (fun _=>wpS_pure ⟨rfl,R5⟩) (fun _=>?_)
     refine wpS_bind (Z4h hc R5 hl (by omega) fun st6 R6 _=>?_)
     exact w_ite (fun z=>by cases z) (fun _=>wpS_pure ⟨rfl,R6⟩)
    ·rw [if_neg hs]
     exact wpS_pure ⟨rfl,R5⟩
   ·obtain ⟨rfl,R5⟩:=hI
    (try dsimp only)
    refine wpS_bind (wpS_modify ?_)
    refine wpS_bind (wpS_modify (wpS_pure ⟨rfl,by dsimp only; omega,?_⟩))
    have R6:=R5.pend (pd:=(pendingOf st5).modify ((pendingOf st5).size - 1) fun x=>(x.1,x.2.1,power' n (2 * s1+n1) (2 * s1+n1+n1+k) n)) (hi:=lo) (by
     rw [Array.toList_modify]
     exact R5.rn.pow _ _)
    refine R6.pend ?_
    rw [Array.toList_push]
    exact R6.rn.snoc (by omega)
 ·obtain ⟨r,lo⟩:=c
  obtain ⟨e,hl,hR⟩:=hI
  dsimp only at e hl hR
  subst e
  (try dsimp only)
  refine wpS_bind (wpS_mono (wpS_forRange (I:=fun _ c st5=>c=(none,())∧ROk κ P n lo st5) (Q:=fun c st5=>c=(none,())∧ROk κ P n lo st5) (fun t5 c st5 _ _ hI=>?_) (fun c st5 hI=>hI) ⟨rfl,hR⟩) fun c st5 hI=>?_)
  ·obtain ⟨rfl,R5⟩:=hI
   refine wpS_bind (wpS_get ?_)
   (try dsimp only)
   refine w_ite (fun _=>wpS_pure ⟨rfl,R5⟩) (fun hs=>?_)
   refine wpS_bind (Z4h hc R5 hl ?_ fun st6 R6 _=>?_)
   ·exact J6n hs
   ·exact w_ite (fun z=>by cases z) (fun _=>wpS_pure ⟨rfl,R6⟩)
  ·obtain ⟨rfl,R5⟩:=hI
   exact wpS_pure (h _ R5.ok)
end
end Tim
end
section
namespace L2
open PySem PySem.Spec PyProof.Rows
def IsPairS (h:Heap) (v:Value):Prop:=∃ x o n i j t u,v=.ref x∧h.get? x=some o∧o.cls=.type "tuple"∧o.data=.seq #[.str i t,.str j u] n
theorem IsPairS.keep {h h':Heap} {v:Value} (x:IsPairS h v) (k:∀ b o,h.get? b=some o→h'.get? b=some o):IsPairS h' v:=by
 obtain ⟨x,o,n,i,j,t,u,e,e1,r⟩:=x
 exact ⟨x,o,n,i,j,t,u,e,k _ _ e1,r⟩
section
variable {prog:Program} {w:World} {A:Around} {E:Value→Shared→Prop} {s:Shared}
theorem J0L {v v':Value} {Q:Bool→Shared→Prop} (hx:IsPairS s.heap v) (hy:IsPairS s.heap v') (h:∀ c,Q c s):wpAny (model prog w) A (keyLt' (tuples' true) v v') Q E s:=by
 obtain ⟨x,ox,n,i,j,t,u,rfl,e1,_,d1⟩:=hx
 obtain ⟨y,oy,m,i',j',t',u',rfl,e2,_,d2⟩:=hy
 refine W.kat_lt e1 d1 e2 d2 (W.kat_cons (wpAny_eqBool_str (W.kat_go (fun _=>W.kat_yes (W.kat_cons (wpAny_eqBool_str (W.kat_go (fun _=>W.kat_yes (W.kat_nil (h _))) fun _=>W.kat_no ?_)))) fun _=>W.kat_no ?_)))
 ·show wpAny _ _ (oneLt' false _ _) _ _ _
  refine W.kat_one _ _ (lt_str ?_)
  exact h _
 ·show wpAny _ _ (oneLt' true _ _) _ _ _
  exact oneLt_str (h _)
theorem Z4O {h:Heap}:∀ {ks:List Value},(∀ v∈ks,IsPairS h v)→∃ fs,W.KatTups h ks fs∧fs.length=ks.length∧∀ f∈fs,∃ i t,f=.str i t
 | [],_=>⟨[],trivial,rfl,fun f hf=>by cases hf⟩
 | v::ks,hv=>by
  obtain ⟨fs,a,b,c⟩:=Z4O (ks:=ks) fun v h=>hv v (List.mem_cons_of_mem _ h)
  obtain ⟨x,o,n,i,j,t,u,rfl,e,hc,d⟩:=hv v List.mem_cons_self
  exact ⟨.str i t::fs,W.KatTups.cons e hc d rfl a,by rw [List.length_cons,List.length_cons,b],fun f hf=>by
   rcases List.mem_cons.mp hf with rfl | hf
   ·exact ⟨i,t,rfl⟩
   ·exact c f hf⟩
theorem Z8m {ks:List Value} {Q:SortKind→Shared→Prop} (hk:∀ v∈ks,IsPairS s.heap v) (h0:0 < ks.length) (h:Q (tuples' true) s):wpAny (model prog w) A (keyKind' ks.toArray) Q E s:=by
 obtain ⟨fs,a,b,c⟩:=Z4O hk
 refine W.kat_kind (T:=.type "str") a (by omega) (fun f hf=>?_) rfl h
 obtain ⟨i,t,rfl⟩:=c f hf
 exact .now
theorem Z8l {a:Addr} {vs:List Value} {n:Nat} {P:PySem.Fin→Shared→Prop} (ho:s.heap.get? a=some (seqObj "list" vs.toArray n)) (hp:∀ v∈vs,IsPairS s.heap v) (hz:vs.length≤sizeLine)
  (h:∀ (out:List Value) h' c,out.length=vs.length→(∀ v∈out,v∈vs)→(∀ b o,b≠a→s.heap.get? b=some o→h'.get? b=some o)→h'.get? a=some (seqObj "list" out.toArray c)→P (.done (.ret .none)) { s with heap:=h' }) :
  wpAny (model prog w) A (Builtin.«list.sort» ⟨[.ref a],[]⟩) P E s:=by
 rw [list_sort_plain]
 have ha:a < s.heap.objs.size:=(Heap.lt_size ho)
 refine wpAny_bind (listItems_at ho rfl ?_)
 refine wpAny_bind (listUpdate_at ho rfl ?_ (by rw [List.size_toArray]; exact hz) (Nat.zero_le _))
 obtain ⟨e1,ho1⟩:∃ e1,(s.heap.update a (Obj.mapSeq fun _=>#[])).get? a=some (seqObj "list" #[] e1):=(⟨_,get?_update_seq ho (fun _=>#[])⟩)
 have k1:=Heap.SameBut.update s.heap a (Obj.mapSeq fun _=>(#[]:Array Value))
 refine wpAny_bind (seqEpoch_at ho1 rfl ?_)
 refine wpAny_bind (wpAny_newTuple ?_ (by show vs.length≤_; exact hz))
 refine wpAny_bind (wpAny_newList ?_)
 refine wpAny_holding ?_
 have ho6:(((s.heap.update a (Obj.mapSeq fun _=>#[])).push (seqObj "tuple" vs.toArray 0)).push (seqObj "list" #[] 0)).get? a=some (seqObj "list" #[] e1):=Heap.get?_push_of_some _ (Heap.get?_push_of_some _ ho1)
 have k6:∀ b o,b≠a→s.heap.get? b=some o→(((s.heap.update a (Obj.mapSeq fun _=>#[])).push (seqObj "tuple" vs.toArray 0)).push (seqObj "list" #[] 0)).get? b=some o:=fun b o hb e=>Heap.get?_push_of_some _ (Heap.get?_push_of_some _ ((k1.2 b hb).trans e))
 show wpAny (model prog w) A _ P E { s with heap:=((s.heap.update a (Obj.mapSeq fun _=>#[])).push (seqObj "tuple" vs.toArray 0)).push (seqObj "list" #[] 0) }
 generalize ((s.heap.update a (Obj.mapSeq fun _=>#[])).push (seqObj "tuple" vs.toArray 0)).push (seqObj "list" #[] 0)=g6 at *
 dsimp only
 have hp6:∀ v∈vs,IsPairS g6 v:=fun v hv=>by
  obtain ⟨x,o,n,i,j,t,u,e,e1,r1,r2⟩:=hp v hv
  exact ⟨x,o,n,i,j,t,u,e,k6 x o (fun z=>by rw [z,ho] at e1; injection e1 with e1; subst e1; have r1:Value.type "list"=Value.type "tuple":=r1; simp at r1) e1,r1,r2⟩
 have hsz:vs.toArray.size=vs.length:=by simp
 have fin:∀ ar:Array Keyed,ar.size=vs.length→(∀ x∈ar,x.2∈vs)→∃ out:List Value,ar.map (·.2)=out.toArray∧out.length=vs.length∧∀ v∈out,v∈vs:=fun ar h1 h2=>⟨(ar.map (·.2)).toList,(Array.toArray_toList ..).symm,by simp [h1],fun v hv=>by
  rw [Array.toList_map] at hv
  obtain ⟨x,hx,rfl⟩:=List.mem_map.mp hv
  exact h2 x (Array.mem_toList_iff.mp hx)⟩
 have zp:∀ x∈vs.toArray.zip vs.toArray,x.1∈vs∧x.2∈vs:=fun x hx=>by
  have hx:=Array.mem_toList_iff.mpr hx
  rw [Array.toList_zip] at hx
  obtain ⟨x1,x2⟩:=x
  have:=List.of_mem_zip hx
  exact this
 have zs:(vs.toArray.zip vs.toArray).size=vs.length:=by simp
 have tail:∀ st':SortSt,(arrOf st').size=vs.length→(∀ x∈arrOf st',x.2∈vs)→failedOf st'=none→∀ Q':Unit,wpAny (model prog w) A (do
   let touched:=(← seqEpoch a) != e1
   Builtin.List.listUpdate (.ref a) fun _=>(arrOf st').map (·.2)
   if let some e:=failedOf st' then rule "list.sort.comparison-raised"; throw e
   if touched then rule "list.sort.modified"; raiseError "ValueError" "list modified during sort"
   ret .none) P E { s with heap:=g6 }:=fun st' h1 h2 h3 _=>by
  obtain ⟨out,o1,o2,o3⟩:=fin _ h1 h2
  refine wpAny_bind (seqEpoch_at ho6 rfl ?_)
  rw [o1]
  refine wpAny_bind (listUpdate_at ho6 rfl ?_ (Nat.zero_le _) (by rw [List.size_toArray,o2]; omega))
  rw [h3]
  simp only [bne_self_eq_false,Bool.false_eq_true,if_false]
  have k7:=Heap.SameBut.update g6 a (Obj.mapSeq fun _=>out.toArray)
  exact wpAny_pure (h out _ _ o2 o3 (fun b o hb e=>(k7.2 b hb).trans (k6 b o hb e)) (get?_update_seq ho6 fun _=>out.toArray))
 by_cases h2:vs.toArray.size < 2
 ·rw [if_pos h2,if_pos h2]
  refine wpAny_bind (wpAny_pure ?_)
  rw [StateT.run_pure]
  refine wpAny_bind (wpAny_pure ?_)
  exact tail (SortSt.mk' general' (vs.toArray.zip vs.toArray) #[] 7 none) zs (fun x hx=>(zp x hx).2) rfl ()
 ·rw [if_neg h2,if_neg h2]
  rw [hsz] at h2
  refine wpAny_bind (Z8m (s:={ s with heap:=g6 }) hp6 (by omega) ?_)
  have hc:Tim.CmpOk prog w A { s with heap:=g6 } (tuples' true) (fun x:Keyed=>x.1∈vs∧x.2∈vs):=fun x y hx hy Q E' q=>J0L (s:={ s with heap:=g6 }) (hp6 _ hx.1) (hp6 _ hy.1) q
  refine wpAny_bind (wpAny_mono (Tim.w_sortRuns (n:=vs.length) (st:=SortSt.mk' (tuples' true) (vs.toArray.zip vs.toArray) #[] 7 none) hc ⟨rfl,zs,zp,rfl⟩ rfl (Q:=fun _ st'=>Tim.TOk (tuples' true) (fun x:Keyed=>x.1∈vs∧x.2∈vs) vs.length st') (fun st' t=>t)) ?_ fun _ _ e=>e)
  rintro ⟨⟨⟩,st'⟩ s' ⟨rfl,t⟩
  exact tail st' t.sz (fun x hx=>(t.el x hx).2) t.fl ()
theorem Z8h {d:Addr} {es:Array DictEntry} {ep:Nat} {Q:Value→Shared→Prop} (hh:A.handled=none) (hd:(d == sysModules)=false) (hm:RawD s.heap d es ep) (hz:es.size≤sizeLine) (hp:∀ e∈es,IsPairS s.heap e.key)
  (h:∀ (out:List Value) a h' tk c,out.length=es.size→(∀ v∈out,∃ e∈es,v=e.key)→s.heap.objs.size≤a→(∀ b o,s.heap.get? b=some o→h'.get? b=some o)→h'.get? a=some (seqObj "list" out.toArray c)→Q (.ref a) { s with heap:=h',toks:=tk }) :
  wpAny (model prog w) A (call (.builtin "sorted") [.ref d]) Q E s:=by
 refine Calls.call_function_entry kind_sorted plain_sorted entry_sorted (args_sorted1 _) ?_
 unfold Builtin.«sorted»
 refine wpAny_bind (m:=checkCount "sorted" 1 1 _) (wpAny_pure ?_)
 refine wpAny_bind (Z6J (A:=A.in1) hh hd hm hz fun h1 tk acc k0 k1 hacc=>?_)
 have lacc:acc.toList.length=es.size:=by rw [Array.length_toList]; exact hacc.1
 have hi:∀ v∈acc.toList,∃ e∈es,v=e.key:=fun v hv=>by
  obtain ⟨j,hj⟩:=List.getElem?_of_mem hv
  rw [Array.getElem?_toList] at hj
  obtain ⟨e,he,rfl⟩:=hacc.2 j v hj
  exact ⟨e,Array.mem_of_getElem? he,rfl⟩
 generalize acc.toList=vs at *
 refine wpAny_bind (wpAny_newList ?_ (by omega))
 show wpAny _ _ _ _ _ { s with heap:=h1.push (seqObj "list" vs.toArray 0),toks:=tk }
 have ho:(h1.push (seqObj "list" vs.toArray 0)).get? h1.objs.size=some (seqObj "list" vs.toArray 0):=Heap.get?_push_size _ rfl
 have k2:∀ b o,s.heap.get? b=some o→(h1.push (seqObj "list" vs.toArray 0)).get? b=some o:=fun b o e=>Heap.get?_push_of_some _ (k1 b o e)
 have hp2:∀ v∈vs,IsPairS (h1.push (seqObj "list" vs.toArray 0)) v:=fun v hv=>by
  obtain ⟨e,he,rfl⟩:=hi v hv
  exact (hp e he).keep k2
 refine wpAny_bind (wpAny_holding (wpAny_call_entry slot_list_sort ⟨_,ho,rfl⟩ entry_list_sort (Z8l (s:={ s with heap:=h1.push (seqObj "list" vs.toArray 0),toks:=tk }) ho hp2 (by omega) fun out h' c o1 o2 k3 na=>⟨_,rfl,?_⟩) (args_list_sort _)))
 refine wpAny_pure ⟨_,rfl,h out h1.objs.size h' tk c (by omega) (fun v hv=>hi v (o2 v hv)) (Nat.le_of_lt k0) (fun b o e=>k3 b o ?_ (k2 b o e)) na⟩
 exact fun z=>absurd (Heap.lt_size (k1 b o e)) (by rw [z]; exact Nat.lt_irrefl _)
end
theorem J2i {P:Program} {w:World} {H:Hp} {h:Heap} {t:Addr} {a b:Str} (ok:HOk P w H h) (e:H t=some (.tup [.str a,.str b])):IsPairS h (.ref t):=by
 obtain ⟨_,its,r,o,h1,h2,n,h3⟩:=(show ObjOk P w H h t (.tup _) from ok t _ e)
 cases r with
 | cons r1 r=>
  cases r with
  | cons r2 r=>
   cases r
   obtain ⟨t1,rfl⟩:=r1
   obtain ⟨t2,rfl⟩:=r2
   exact ⟨t,o,n,a,b,t1,t2,rfl,h1,h2,h3⟩
def Z8J:List V→Hp→VK→Prop:=fun xs H Q=>∃ d kvs,xs=[V.ref d]∧Rd H d (.dT kvs)∧(∀ p∈kvs,∃ a b,p.1=[.inr a,.inr b]) ∧
 ∀ l zs,H l=none→zs.length=kvs.length→(∀ z∈zs,∃ t p,z=V.ref t∧p∈kvs∧H t=some (.tup (p.1.map kV)))→Q (.ref l) (upd H l (.lst zs))
theorem J6k {xs:List V} {H:Hp} {Q:VK}:Z8J xs H Q=∃ d kvs,xs=[V.ref d]∧Rd H d (.dT kvs)∧(∀ p∈kvs,∃ a b,p.1=[.inr a,.inr b]) ∧
 ∀ l zs,H l=none→zs.length=kvs.length→(∀ z∈zs,∃ t p,z=V.ref t∧p∈kvs∧H t=some (.tup (p.1.map kV)))→Q (.ref l) (upd H l (.lst zs)):=rfl
theorem KT.back {H:Hp} {kvs:List (List Key×V)} {xs:List (List Key×Addr×Value)} (r:KT H kvs xs):∀ x∈xs,∃ p∈kvs,H x.2.1=some (.tup (p.1.map kV)):=by
 induction r with
 | nil=>intro x hx; cases hx
 | cons h t ih=>
  intro x hx
  rcases List.mem_cons.mp hx with rfl | hx
  ·exact ⟨_,List.mem_cons_self,h.2.1⟩
  ·obtain ⟨p,hp,e⟩:=ih x hx
   exact ⟨p,List.mem_cons_of_mem _ hp,e⟩
theorem J0q {A:Addr→Prop}:∀ {out:List Value},(∀ v∈out,∃ t,v=Value.ref t∧A t)→∃ zs:List V,Vals zs out∧∀ z∈zs,∃ t,z=V.ref t∧A t
 | [],_=>⟨[],.nil,fun z hz=>by cases hz⟩
 | v::out,h=>by
  obtain ⟨zs,a,b⟩:=J0q (out:=out) fun v hv=>h v (List.mem_cons_of_mem _ hv)
  obtain ⟨t,rfl,ht⟩:=h v List.mem_cons_self
  exact ⟨.ref t::zs,.cons rfl a,fun z hz=>by
   rcases (List.mem_cons.mp hz) with rfl | hz
   ·exact ⟨t,rfl,ht⟩
   ·exact b z hz⟩
theorem Z8g {X:Cx} (hc:X.calm=true):Z3N X (.builtin "sorted") Z8J:=by
 intro pins s σ H xs us Q I r h
 obtain ⟨d,kvs,rfl,hd,hk,q⟩:=h
 obtain ⟨u,rfl,ru⟩:=Z5I r
 cases ru
 obtain ⟨hz,hs,ys,kt,o,es,ep,h1,h2,h3,h4,h5,h6⟩:=J0F I.hok hd
 have lys:ys.length=kvs.length:=(Paired.length kt).symm
 have les:es.size=kvs.length:=by rw [← Array.length_toList,h4,List.length_map,lys]
 have kb:=kt.back
 have hke:∀ e∈es,∃ t p,e.key=.ref t∧p∈kvs∧H t=some (.tup (p.1.map kV)):=fun e he=>by
  have he:=Array.mem_toList_iff.mpr he
  rw [h4] at he
  obtain ⟨x,hx,rfl⟩:=List.mem_map.mp he
  obtain ⟨p,hp,e⟩:=kb x hx
  exact ⟨x.2.1,p,rfl,hp,e⟩
 refine Z8h (I.ok.hd hc) hs ⟨o,h1,h2,h3⟩ (by omega) (fun e he=>?_) fun out a h' tk c o1 o2 ha k na=>?_
 ·obtain ⟨t,p,et,hp,e1⟩:=hke e he
  obtain ⟨a,b,ep⟩:=hk p hp
  rw [ep] at e1
  rw [et]
  exact J2i I.hok e1
 ·obtain ⟨zs,rz,hz2⟩:=J0q (A:=fun t=>∃ p,p∈kvs∧H t=some (.tup (p.1.map kV))) (out:=out) fun v hv=>by
   obtain ⟨e,he,rfl⟩:=o2 v hv
   obtain ⟨t,p,et,r⟩:=hke e he
   exact ⟨t,et,p,r⟩
  have lz:zs.length=kvs.length:=by rw [rz.length]; omega
  refine ⟨.ref a,_,I.laid (a:=a) (o:=.lst zs) (t':=tk) k ha ⟨by omega,out,c,rz,na⟩,rfl,q a zs (I.hok.fresh ha) lz fun z hz=>?_⟩
  obtain ⟨t,e,p,r⟩:=hz2 z hz
  exact ⟨t,p,e,r⟩
end L2
end
section
namespace L2
open PySem PySem.Spec PyProof.Rows
theorem J1P {K:W.Frag} {a:Addr} {g:TG} {tb:TS} {D:Ends} {σ:St} {H:Hp} (xs:List V) (Pv:Nat→St→Hp→Prop) (h0:Pv 0 σ H) (hl:∀ i σ H,i≤xs.length→Pv i σ H→SqL K H a xs)
  (hs:∀ i x σ H,xs.reverse[i]?=some x→Pv i σ H→g x σ H fun σ2 H2=>tb { D with nx:=Pv (i+1),ct:=Pv (i+1),bk:=D.nx } σ2 H2) (hd:∀ σ H,Pv xs.length σ H→D.nx σ H):Z9z (Itv K a xs.length) g tb D σ H:=by
 refine ⟨fun i m σ H=>m=xs.length - i∧i≤xs.length∧Pv i σ H,⟨xs.length,by simp,Nat.zero_le _,h0⟩,?_⟩
 rintro i m σ H ⟨rfl,hi,p⟩
 have q:=hl i σ H hi p
 by_cases hlt:i < xs.length
 ·refine .inr ⟨⟨hlt,xs,q,rfl⟩,Pv (i+1),fun σ' H' p'=>⟨xs.length - (i+1),by omega,rfl,hlt,p'⟩,fun x H' y=>?_⟩
  obtain ⟨e,y⟩:=y
  subst e
  exact hs i x σ _ (by rw [List.getElem?_reverse hlt]; exact y xs q) p
 ·have e:i=xs.length:=by omega
  subst e
  exact .inl ⟨rfl,hd σ H p⟩
end L2
end
section
namespace P23
open PySem
def mkS (l:List Nat):Str:=⟨l.toArray⟩
theorem J3X {a b:List Nat} (h:mkS a=mkS b):a=b:=by
 unfold mkS at h
 injection h with h
 simpa using congrArg Array.toList h
def toldS:List Str:=["house","of","has","can","main","let","in","if","then","else","new","self","elder","set","not","yes","no","number","truth"]
def toldC:List (List Nat):=toldS.map fun x=>x.cps.toList
def Z2w (r:Nat):List Nat:=(List.range 8).map fun j=>97+(r / 64+5 * j) % 26
def Z2B (r:Nat):List Nat:=(List.range 8).map fun j=>97+(r+3 * j) % 26
def rawL (w r k:Nat):List Nat:=match w with
 | 0=>((Z2w r).set (r / 8 % (1+r % 8)) (97+(r+k) % 26)).take (1+r % 8)
 | 1=>(97+(r+k / 8) % 26)::(Z2w r).take (k % 8)
 | _=>(Z2B (r+k / 8)).drop (k % 8)++(Z2B (r+k / 8)).take (k % 8)
def digs (k:Nat):List Nat:=if k < 10 then [48+k] else [48+k / 10,48+k % 10]
def digC (d:Nat):Nat:=if d=9 then 48 else 49+d
def Z3D (C k:Nat):List Nat:=
 if C % 4=2 then toldC.getD ((C / 4+k) % 19) []++[digC ((C / 4+k / 19) % 10)]
 else if mkS (rawL (C % 4) (C / 4) k)∈toldS then (rawL (C % 4) (C / 4) k).take 1++digs k else rawL (C % 4) (C / 4) k
def Z0V (C k:Nat):Str:=mkS (Z3D C k)
theorem Z2G {r:Nat}:(Z2w r).length=8:=by unfold Z2w; simp
theorem Z2I {r:Nat}:(Z2B r).length=8:=by unfold Z2B; simp
theorem Z9N {w r k:Nat}:∀ c∈rawL w r k,97≤c:=by
 have hb:∀ c∈Z2w r,97≤c:=fun c hc=>by
  obtain ⟨j,_,rfl⟩:=List.mem_map.mp hc; omega
 have ht:∀ r,∀ c∈Z2B r,97≤c:=fun r c hc=>by
  obtain ⟨j,_,rfl⟩:=List.mem_map.mp hc; omega
 intro c hc
 unfold rawL at hc
 split at hc
 ·rcases List.mem_or_eq_of_mem_set (List.mem_of_mem_take hc) with h | h
  ·exact hb c h
  ·omega
 ·rcases List.mem_cons.mp hc with h | h
  ·omega
  ·exact hb c (List.mem_of_mem_take h)
 ·rcases List.mem_append.mp hc with h | h
  ·exact ht _ c (List.mem_of_mem_drop h)
  ·exact ht _ c (List.mem_of_mem_take h)
theorem J2S {w r k:Nat}:rawL w r k≠[]:=by
 unfold rawL
 split
 ·intro h
  have:=(congrArg List.length h)
  rw [List.length_take,List.length_set,Z2G] at this
  simp at this
 ·simp
 ·intro h
  have:=(congrArg List.length h)
  rw [List.length_append,List.length_drop,List.length_take,Z2I] at this
  simp at this; omega
theorem Z8G {k:Nat} (hk:k < 100):∀ c∈digs k,c < 97:=by
 intro c hc
 unfold digs at hc
 split at hc
 ·cases List.mem_singleton.mp hc; omega
 ·rcases List.mem_cons.mp hc with h | h
  ·omega
  ·cases List.mem_singleton.mp h; omega
theorem J3f {k:Nat}:digs k≠[]:=by unfold digs; split <;> simp
theorem J1y:∀ i j:Fin 19,toldC.getD i.1 []=toldC.getD j.1 []→i=j:=by decide +kernel
end P23
end
section
namespace P23
open PySem P15 PW
def ixO:List Str→Str→Option Nat
 | [],_=>none
 | y::ys,x=>if y=x then some 0 else (ixO ys x).map (·+1)
theorem Z3G:∀ {xs:List Str} {x:Str},x∉xs→ixO xs x=none
 | [],_,_=>rfl
 | y::ys,x,h=>by
  simp only [List.mem_cons,not_or] at h
  unfold ixO
  rw [if_neg (fun z=>h.1 z.symm),Z3G h.2]; rfl
theorem Z3E:∀ {xs:List Str} {x:Str},x∈xs→∃ i,ixO xs x=some i∧IxAt xs x i
 | y::ys,x,h=>by
  by_cases e:y=x
  ·exact ⟨0,by unfold ixO; rw [if_pos e],by rw [← e]; rfl,fun j hj=>absurd hj (Nat.not_lt_zero _)⟩
  ·have h:x∈ys:=by
    rcases List.mem_cons.mp h with z | z
    ·exact absurd z.symm e
    ·exact z
   obtain ⟨i,h1,h2,h3⟩:=Z3E h
   refine ⟨i+1,by unfold ixO; rw [if_neg e,h1]; rfl,h2,fun j hj=>?_⟩
   cases j with
   | zero=>exact fun z=>e (Option.some.inj z)
   | succ j=>exact h3 j (by omega)
theorem J2R {xs:List Str} {x:Str} {i:Nat} (h:ixO xs x=some i):x∈xs∧i < xs.length∧IxAt xs x i:=by
 by_cases m:x∈xs
 ·obtain ⟨j,h1,h2⟩:=Z3E m
  rw [h] at h1; cases h1
  exact ⟨m,(List.getElem?_eq_some_iff.mp h2.1).1,h2⟩
 ·rw [Z3G m] at h; cases h
inductive FO (G:Pg) (w:Str):List Str→Option (Str×Nat×Wd)→Prop
 | nil:FO G w [] none
 | here {h:Str} {X:Hs} {es:List Str} {i:Nat} {d:Wd}:Look G h X→ixO (X.words.map Wd.name) w=some i→X.words[i]?=some d→FO G w (h::es) (some (h,i,d))
 | there {h:Str} {X:Hs} {es:List Str} {r:Option (Str×Nat×Wd)}:Look G h X→ixO (X.words.map Wd.name) w=none→FO G w es r→FO G w (h::es) r
theorem Flds.app {G:Pg} {a b:List Str} {f g:List (Str×Str)} (x:Flds G a f) (y:Flds G b g):Flds G (a++b) (f++g):=by
 induction x with
 | nil=>exact y
 | cons lk _ ih=>rw [List.append_assoc]; exact .cons lk ih
theorem Flds.ex {G:Pg} (m:Nat) (hm:∀ X∈G.houses,X.fields.length≤m):∀ {ls:List Str},(∀ x∈ls,∃ X,Look G x X)→∃ fs,Flds G ls fs∧fs.length≤m * ls.length
 | [],_=>⟨[],.nil,Nat.zero_le _⟩
 | x::ls,h=>by
  obtain ⟨X,lk⟩:=h x List.mem_cons_self
  obtain ⟨fs,hf,hl⟩:=Flds.ex m hm (ls:=ls) fun y hy=>h y (List.mem_cons_of_mem _ hy)
  refine ⟨X.fields++fs,.cons lk hf,?_⟩
  rw [List.length_append,List.length_cons,Nat.mul_add,Nat.mul_one]
  have:=hm X lk.1
  omega
theorem Chain.look {G:Pg} {h:Str} {es:List Str} (c:Chain G h es):∀ x∈h::es,∃ X,Look G x X:=by
 induction c with
 | top l _=>intro x hx; cases List.mem_singleton.mp hx; exact ⟨_,l⟩
 | up l _ _ ih=>
  intro x hx
  rcases List.mem_cons.mp hx with z | z
  ·rw [z]; exact ⟨_,l⟩
  ·exact ih x z
theorem Chain.det {G:Pg} (un:∀ a b,a∈G.houses→b∈G.houses→a.name=b.name→a=b) {h:Str} {es fs:List Str} (c:Chain G h es) (d:Chain G h fs):es=fs:=by
 induction c generalizing fs with
 | top l e=>
  cases d with
  | top _ _=>rfl
  | up l2 e2 _=>
   have:=un _ _ l.1 l2.1 (l.2.trans l2.2.symm)
   subst this
   rw [e] at e2; cases e2
 | up l e _ ih=>
  cases d with
  | top l2 e2=>
   have:=un _ _ l.1 l2.1 (l.2.trans l2.2.symm)
   subst this
   rw [e] at e2; cases e2
  | up l2 e2 c2=>
   have:=un _ _ l.1 l2.1 (l.2.trans l2.2.symm)
   subst this
   rw [e] at e2; cases e2
   rw [ih c2]
def SOk (x:Str):Prop:=x.cps.all (· < 0x110000)=true
def KdOk (ns:List Str) (k:Str):Prop:=k∈[("number":Str),"truth"]++ns++ns
theorem KdOk.sok {ns:List Str} {k:Str} (h:KdOk ns k) (hn:∀ x∈ns,SOk x):SOk k:=by
 rcases (List.mem_append.mp h) with h | h
 ·rcases List.mem_append.mp h with h | h
  ·rcases List.mem_cons.mp h with e | h
   ·rw [e]; show Array.all _ _=true; decide +kernel
   ·rcases List.mem_cons.mp h with e | h
    ·rw [e]; show Array.all _ _=true; decide +kernel
    ·cases h
  ·exact hn k h
 ·exact hn k h
theorem Z3m {α:Type} {xs:List α} {x:α} (h:xs.Nodup) (n:x∉xs):(xs++[x]).Nodup:=by
 rw [List.nodup_append]
 exact ⟨h,List.pairwise_singleton _ _,fun a ha b hb e=>n (by cases List.mem_singleton.mp hb; exact e▸ha)⟩
theorem Z2b {α:Type} {xs:List α} {i j:Nat} {x:α} (n:xs.Nodup) (h1:xs[i]?=some x) (h2:xs[j]?=some x):i=j:=
 (List.getElem?_inj (List.getElem?_eq_some_iff.mp h1).1 n).mp (h1.trans h2.symm)
structure FsOk (pool taken ns:List Str) (fs:List (Str×Str)):Prop where
 le:fs.length≤4
 nm:∀ f∈fs,f.1∈pool∧f.1∉taken∧KdOk ns f.2
 nd:(fs.map Prod.fst).Nodup
structure J0A (q1 q2 ns:List Str) (hs:List (Str×List (Str×Str)×Str)):Prop where
 le:hs.length≤8
 nm:∀ h∈hs,h.1∈q1∧FsOk q2 [] ns h.2.1∧KdOk ns h.2.2
 nd:(hs.map Prod.fst).Nodup
structure Rw where
 name:Str
 elder:Option Str
 fields:List (Str×Str)
 heads:List (Str×List (Str×Str)×Str)
structure RsOk (rs:List Rw):Prop where
 nd:(rs.map Rw.name).Nodup
 l1:1≤rs.length
 l12:rs.length≤12
 up:∃ rk:Nat→Nat,∀ j r e,rs[j]?=some r→r.elder=some e→rk j < 12∧∃ i r',rs[i]?=some r'∧r'.name=e∧rk i < rk j
 sm:∀ r∈rs,r.fields.length≤4∧r.heads.length≤8∧∀ h∈r.heads,h.2.1.length≤4
 so:∀ r∈rs,SOk r.name∧(∀ f∈r.fields,SOk f.1∧SOk f.2)∧∀ h∈r.heads,SOk h.1∧SOk h.2.2∧∀ p∈h.2.1,SOk p.1∧SOk p.2
 kd:∀ r∈rs,(∀ f∈r.fields,KdOk (rs.map Rw.name) f.2)∧∀ h∈r.heads,KdOk (rs.map Rw.name) h.2.2∧∀ p∈h.2.1,KdOk (rs.map Rw.name) p.2
 dn:∀ r∈rs,(r.fields.map Prod.fst).Nodup∧(r.heads.map Prod.fst).Nodup∧∀ h∈r.heads,(h.2.1.map Prod.fst).Nodup
 fx:∃ tk:Nat→List Str,∀ j r,rs[j]?=some r→(∀ f∈r.fields,f.1∈tk j)∧∀ i r',rs[i]?=some r'→r.elder=some r'.name→∀ x∈tk i,x∈tk j∧∀ f∈r.fields,f.1≠x
def num0:Tm:=.mk .number (.int 0) []
def wdOf (h:Str×List (Str×Str)×Str):Wd:=⟨h.1,h.2.1,h.2.2,num0⟩
def hsOf (r:Rw):Hs:=⟨r.name,r.elder,r.fields,r.heads.map wdOf⟩
def pgOf (rs:List Rw):Pg:=⟨rs.map hsOf,⟨"main",[],"number",num0⟩⟩
def J7E (r:Rw):Rw:={ r with elder:=none }
theorem Z7d {rs:List Rw} {r:Rw} (h:r∈rs):Look (pgOf rs) r.name (hsOf r):=⟨List.mem_map_of_mem h,rfl⟩
theorem Z5s (rs:List Rw):(pgOf rs).houses.map Hs.name=rs.map Rw.name:=by
 show (rs.map hsOf).map Hs.name=_
 rw [List.map_map]; rfl
theorem Z6V {rs:List Rw} {rk:Nat→Nat} (up:∀ j r e,rs[j]?=some r→r.elder=some e→rk j < 12∧∃ i r',rs[i]?=some r'∧r'.name=e∧rk i < rk j):∀ (n j:Nat) r,rk j < n→rs[j]?=some r→∃ es,Chain (pgOf rs) r.name es∧es.length≤rk j
 | 0,j,r,h,_=>absurd h (Nat.not_lt_zero _)
 | n+1,j,r,h,hr=>by
  have lk:=Z7d (List.mem_of_getElem? hr)
  cases e:r.elder with
  | none=>exact ⟨[],.top lk e,Nat.zero_le _⟩
  | some x=>
   obtain ⟨_,i,r',h1,rfl,h3⟩:=up j r x hr e
   obtain ⟨es,h4,h5⟩:=Z6V up n i r' (by omega) h1
   exact ⟨r'.name::es,.up lk e h4,by rw [List.length_cons]; omega⟩
structure RIn (G:Pg) (r:Rw) (es:List Str) (fa:List (Str×Str)):Prop where
 ch:Chain G r.name es
 fl:Flds G (r.name::es).reverse (fa++r.fields)
 le:es.length≤12
 lf:fa.length≤52
 top:r.elder=none→es=[]∧fa=[]
 up:∀ e,r.elder=some e→∃ es',es=e::es'∧Chain G e es'∧Flds G (e::es').reverse fa
theorem RIn.ex {rs:List Rw} (ok:RsOk rs) {r:Rw} (h:r∈rs):∃ es fa,RIn (pgOf rs) r es fa:=by
 obtain ⟨rk,up⟩:=ok.up
 obtain ⟨j,hj⟩:=List.getElem?_of_mem h
 have lk:=Z7d h
 have one:Flds (pgOf rs) [r.name] r.fields:=by
  have:=Flds.cons (P:=pgOf rs) lk .nil
  rw [List.append_nil] at this
  exact this
 cases e:r.elder with
 | none=>exact ⟨[],[],.top lk e,one,by simp,by simp,fun _=>⟨rfl,rfl⟩,fun x z=>by rw [e] at z; cases z⟩
 | some x=>
  obtain ⟨hl,i,r',h1,rfl,h3⟩:=up j r x hj e
  obtain ⟨es,h4,h5⟩:=Z6V up (rk i+1) i r' (Nat.lt_succ_self _) h1
  obtain ⟨fa,hf,lf⟩:=Flds.ex (G:=pgOf rs) 4 (fun X hX=>by
   obtain ⟨r2,hr2,rfl⟩:=List.mem_map.mp hX
   exact (ok.sm r2 hr2).1) (ls:=(r'.name::es).reverse) fun y hy=>Chain.look h4 y (List.mem_reverse.mp hy)
  rw [List.length_reverse,List.length_cons] at lf
  refine ⟨r'.name::es,fa,.up lk e h4,?_,by rw [List.length_cons]; omega,by omega,fun z=>(by rw [e] at z; cases z),fun y z=>?_⟩
  ·rw [List.reverse_cons]
   exact Flds.app hf one
  ·rw [e] at z; cases z
   exact ⟨es,rfl,h4,hf⟩
end P23
end
section
namespace P23
open PySem P15 PW
def ElOk (p:List Nat) (i:Nat) (es:List (Option Nat)):Prop:=∀ j e,es[j]?=some (some e)→∃ a b:Nat,a < b∧b < i∧p[b]?=some j∧p[a]?=some e
def Z2V (ns:List Str) (es:List (Option Nat)) (fss:List (List (Str×Str))) (hs:Nat→List (Str×List (Str×Str)×Str)) (j:Nat):Rw:=
 ⟨ns.getD j "",(es.getD j none).map fun e=>ns.getD e "",fss.getD j [],hs j⟩
def TkOk (es:List (Option Nat)) (fss:List (List (Str×Str))) (tks:List (List Str)) (j:Nat):Prop:=
 (∀ f∈fss.getD j [],f.1∈tks.getD j [])∧∀ e,es[j]?=some (some e)→∀ x∈tks.getD e [],x∈tks.getD j []∧∀ f∈fss.getD j [],f.1≠x
theorem Z2Q {α:Type} {xs:List α} {i j:Nat} {x d:α} (h:i≠j):(xs.set i x).getD j d=xs.getD j d:=by
 rw [List.getD_eq_getElem?_getD,List.getD_eq_getElem?_getD,List.getElem?_set_ne h]
theorem Z6A {α:Type} {xs:List α} {i:Nat} {x d:α} (h:i < xs.length):(xs.set i x).getD i d=x:=by
 rw [List.getD_eq_getElem?_getD,List.getElem?_set_self h]; rfl
theorem Z1u {α:Type} {xs:List α} {i:Nat} {d:α} (h:i < xs.length):xs.getD i d=xs[i]:=by
 rw [List.getD_eq_getElem?_getD]; rw [List.getElem?_eq_getElem h]; rfl
theorem J3F {p:List Nat} {m i j:Nat} {es:List (Option Nat)} {fss:List (List (Str×Str))} {tks:List (List Str)} {T:List Str} (hp:p.Perm (List.range m)) (el:ElOk p m es) (hj:p[i]?=some j)
  (h:∀ b,b < i→∀ j,p[b]?=some j→TkOk es fss tks j):∀ b,b < i→∀ j',p[b]?=some j'→TkOk es fss (tks.set j T) j':=by
 have ndp:p.Nodup:=hp.nodup_iff.mpr List.nodup_range
 intro b hb j' hj'
 have ne:j≠j':=fun z=>by have:=Z2b ndp hj' (z▸hj); omega
 obtain ⟨h1,h2⟩:=h b hb j' hj'
 unfold TkOk
 rw [Z2Q ne]
 refine ⟨h1,fun e he x hx=>?_⟩
 rw [Z2Q (fun z=>?_)] at hx
 ·exact h2 e he x hx
 ·obtain ⟨a,b',ab,bm,pb,pa⟩:=el j' e he
  have:=Z2b ndp hj' pb
  have:=Z2b ndp pa (z▸hj)
  omega
theorem J5X {p:List Nat} {m j e:Nat} {es:List (Option Nat)} (hp:p.Perm (List.range m)) (el:ElOk p m es) (h:es[j]?=some (some e)):e < m∧j≠e:=by
 have ndp:p.Nodup:=hp.nodup_iff.mpr List.nodup_range
 obtain ⟨a,b,ab,bm,pb,pa⟩:=el j e h
 refine ⟨List.mem_range.mp (hp.mem_iff.mp (List.mem_of_getElem? pa)),fun z=>?_⟩
 have:=Z2b ndp pa (z▸pb)
 omega
theorem J3T {p:List Nat} {m i j:Nat} {es:List (Option Nat)} {fss:List (List (Str×Str))} {tks:List (List Str)} {T:List Str} {fs:List (Str×Str)} (hp:p.Perm (List.range m)) (el:ElOk p m es) (lf:fss.length=m) (lt:tks.length=m) (hj:p[i]?=some j)
  (h:∀ b,b < i→∀ j,p[b]?=some j→TkOk es fss tks j) (hT:∀ e,es[j]?=some (some e)→tks.getD e []=T) (hn:∀ f∈fs,f.1∉T) :
  ∀ b,b < i+1→∀ j',p[b]?=some j'→TkOk es (fss.set j fs) (tks.set j (T++fs.map Prod.fst)) j':=by
 have ndp:p.Nodup:=hp.nodup_iff.mpr List.nodup_range
 have hjm:j < m:=List.mem_range.mp (hp.mem_iff.mp (List.mem_of_getElem? hj))
 have eld:∀ b,b≤i→∀ j',p[b]?=some j'→∀ e,es[j']?=some (some e)→j≠e:=fun b hb j' hj' e he z=>by
  obtain ⟨a,b',ab,bm,pb,pa⟩:=el j' e he
  have:=Z2b ndp hj' pb
  have:=Z2b ndp pa (z▸hj)
  omega
 intro b hb j' hj'
 by_cases hbi:b=i
 ·subst hbi
  have:j'=j:=Option.some.inj (hj'.symm.trans hj)
  subst this
  unfold TkOk
  rw [Z6A (by omega),Z6A (by omega)]
  refine ⟨fun f hf=>List.mem_append_right _ (List.mem_map_of_mem hf),fun e he x hx=>?_⟩
  rw [Z2Q (eld b (Nat.le_refl _) j' hj' e he),hT e he] at hx
  exact ⟨List.mem_append_left _ hx,fun f hf z=>hn f hf (z▸hx)⟩
 ·have ne:j≠j':=fun z=>hbi (Z2b ndp hj' (z▸hj))
  obtain ⟨h1,h2⟩:=h b (by omega) j' hj'
  unfold TkOk
  rw [Z2Q ne,Z2Q ne]
  refine ⟨h1,fun e he x hx=>?_⟩
  rw [Z2Q (eld b (by omega) j' hj' e he)] at hx
  exact h2 e he x hx
theorem J3R {ns:List Str} {es:List (Option Nat)} {fss:List (List (Str×Str))} {hs:Nat→List (Str×List (Str×Str)×Str)} {tks:List (List Str)} {p:List Nat} {m:Nat} {q0 q1 q2:List Str} (ln:ns.length=m) (le:es.length=m) (lf:fss.length=m) (nd:ns.Nodup) (hp:p.Perm (List.range m)) (el:ElOk p m es) (m1:1≤m) (m12:m≤12)
  (sn:∀ x∈ns,SOk x) (s0:∀ x∈q0,SOk x) (s1:∀ x∈q1,SOk x) (s2:∀ x∈q2,SOk x) (hf:∀ fs∈fss,FsOk q0 [] ns fs) (hh:∀ j,j < m→J0A q1 q2 ns (hs j)) (tk:∀ b,b < m→∀ j,p[b]?=some j→TkOk es fss tks j):RsOk ((List.range m).map (Z2V ns es fss hs)):=by
 have lp:p.length=m:=by rw [hp.length_eq,List.length_range]
 have ndp:p.Nodup:=hp.nodup_iff.mpr List.nodup_range
 have nm:((List.range m).map (Z2V ns es fss hs)).map Rw.name=ns:=by
  rw [List.map_map]
  refine List.ext_getElem? fun j=>?_
  by_cases hj:j < m
  ·rw [List.getElem?_map,List.getElem?_range hj,List.getElem?_eq_getElem (by omega)]
   show some (ns.getD j "")=_
   rw [Z1u (by omega)]
  ·rw [List.getElem?_eq_none (by rw [List.length_map,List.length_range]; omega),List.getElem?_eq_none (by omega)]
 have rat:∀ (j:Nat) r,((List.range m).map (Z2V ns es fss hs))[j]?=some r→j < m∧r=Z2V ns es fss hs j:=fun j r h=>by
  rw [List.getElem?_map] at h
  by_cases hj:j < m
  ·rw [List.getElem?_range hj] at h; cases h; exact ⟨hj,rfl⟩
  ·rw [List.getElem?_eq_none (by rw [List.length_range]; omega)] at h; cases h
 have eat:∀ j x,(es.getD j none).map (fun e=>ns.getD e "")=some x→∃ e,es[j]?=some (some e)∧ns.getD e ""=x:=fun j x he=>by
  rw [List.getD_eq_getElem?_getD] at he
  cases e1:es[j]? with
  | none=>rw [e1] at he; cases he
  | some o=>
   rw [e1] at he
   cases o with
   | none=>cases he
   | some i=>exact ⟨i,rfl,Option.some.inj he⟩
 have mem:∀ r∈(List.range m).map (Z2V ns es fss hs),∃ j,j < m∧r=Z2V ns es fss hs j:=fun r hr=>by
  obtain ⟨j,hj,rfl⟩:=List.mem_map.mp hr
  exact ⟨j,List.mem_range.mp hj,rfl⟩
 have ff:∀ j,j < m→FsOk q0 [] ns (fss.getD j []):=fun j hj=>by
  rw [Z1u (by omega)]; exact hf _ (List.getElem_mem _)
 refine ⟨by rw [nm]; exact nd,by rw [List.length_map,List.length_range]; exact m1,by rw [List.length_map,List.length_range]; exact m12,⟨fun j=>p.idxOf j,fun j r e hj he=>?_⟩,fun r hr=>?_,fun r hr=>?_,fun r hr=>?_,fun r hr=>?_,⟨fun j=>tks.getD j [],fun j r hj=>?_⟩⟩
 ·obtain ⟨hjm,rfl⟩:=rat j r hj
  obtain ⟨i,e1,e2⟩:=eat j e he
  obtain ⟨a,b,ab,bm,pb,pa⟩:=el j i e1
  obtain ⟨hb1,hb2⟩:=List.getElem?_eq_some_iff.mp pb
  obtain ⟨ha1,ha2⟩:=List.getElem?_eq_some_iff.mp pa
  have ib:p.idxOf j=b:=by rw [← hb2]; exact ndp.idxOf_getElem b hb1
  have ia:p.idxOf i=a:=by rw [← ha2]; exact ndp.idxOf_getElem a ha1
  have him:i < m:=List.mem_range.mp (hp.mem_iff.mp (List.mem_of_getElem? pa))
  exact ⟨by show p.idxOf j < 12; omega,i,Z2V ns es fss hs i,by rw [List.getElem?_map,List.getElem?_range him]; rfl,e2,by show p.idxOf i < p.idxOf j; omega⟩
 ·obtain ⟨j,hj,rfl⟩:=mem r hr
  exact ⟨(ff j hj).le,(hh j hj).le,fun h hm=>((hh j hj).nm h hm).2.1.le⟩
 ·obtain ⟨j,hj,rfl⟩:=mem r hr
  refine ⟨?_,fun f hm=>?_,fun h hm=>?_⟩
  ·show SOk (ns.getD j "")
   rw [Z1u (by omega)]; exact sn _ (List.getElem_mem _)
  ·obtain ⟨a,_,c⟩:=(ff j hj).nm f hm
   exact ⟨s0 _ a,c.sok sn⟩
  ·obtain ⟨a,b,c⟩:=(hh j hj).nm h hm
   refine ⟨s1 _ a,c.sok sn,fun p hp=>?_⟩
   obtain ⟨d,_,e⟩:=b.nm p hp
   exact ⟨s2 _ d,e.sok sn⟩
 ·rw [nm]
  obtain ⟨j,hj,rfl⟩:=mem r hr
  refine ⟨fun f hm=>((ff j hj).nm f hm).2.2,fun h hm=>?_⟩
  obtain ⟨a,b,c⟩:=(hh j hj).nm h hm
  exact ⟨c,fun p hp=>(b.nm p hp).2.2⟩
 ·obtain ⟨j,hj,rfl⟩:=mem r hr
  exact ⟨(ff j hj).nd,(hh j hj).nd,fun h hm=>((hh j hj).nm h hm).2.1.nd⟩
 ·obtain ⟨hjm,rfl⟩:=rat j r hj
  obtain ⟨b,hb⟩:=List.getElem?_of_mem (hp.mem_iff.mpr (List.mem_range.mpr hjm))
  obtain ⟨h1,h2⟩:=tk b (by have:=(List.getElem?_eq_some_iff.mp hb).1; omega) j hb
  refine ⟨h1,fun i r' hi he x hx=>?_⟩
  obtain ⟨him,rfl⟩:=rat i r' hi
  obtain ⟨e,e1,e2⟩:=eat j _ he
  obtain ⟨a,b',ab,bm,pb,pa⟩:=el j e e1
  have hem:e < m:=List.mem_range.mp (hp.mem_iff.mp (List.mem_of_getElem? pa))
  have e2:ns.getD e ""=ns.getD i "":=e2
  rw [Z1u (by omega),Z1u (by omega)] at e2
  have:e=i:=Z2b nd (List.getElem?_eq_getElem (by omega)) (by rw [e2]; exact List.getElem?_eq_getElem (by omega))
  subst this
  exact h2 e e1 x hx
end P23
end
section
namespace P23
open PySem
theorem Z9h {r s t:Nat} (hs:s < 8) (ht:t < 8):((Z2B r).drop s++(Z2B r).take s)[t]?=some (97+(r+3 * ((s+t) % 8)) % 26):=by
 have at':∀ x,x < 8→(Z2B r)[x]?=some (97+(r+3 * x) % 26):=fun x hx=>by
  unfold Z2B
  rw [List.getElem?_map,List.getElem?_range hx]; rfl
 by_cases h:t < 8 - s
 ·rw [List.getElem?_append_left (by rw [List.length_drop,Z2I]; omega),List.getElem?_drop,at' _ (by omega),show (s+t) % 8=s+t by omega]
 ·rw [List.getElem?_append_right (by rw [List.length_drop,Z2I]; omega),List.length_drop,Z2I,List.getElem?_take_of_lt (by omega),at' _ (by omega),show (s+t) % 8=t - (8 - s) by omega]
theorem J1h:∀ k k':Fin 26,(∀ t:Fin 8,(k.1 / 8+3 * ((k.1 % 8+t.1) % 8)) % 26=(k'.1 / 8+3 * ((k'.1 % 8+t.1) % 8)) % 26)→k=k':=by decide +kernel
theorem Z9p {w r k k':Nat} (hk:k < 26) (hk':k' < 26) (h:rawL w r k=rawL w r k'):k=k':=by
 unfold rawL at h
 split at h
 ·have hlt:r / 8 % (1+r % 8) < 1+r % 8:=Nat.mod_lt _ (by omega)
  have h8:r / 8 % (1+r % 8) < 8:=by omega
  have e:=congrArg (fun l=>l[r / 8 % (1+r % 8)]?) h
  simp only [List.getElem?_take_of_lt hlt] at e
  rw [List.getElem?_set_self (by rw [Z2G]; exact h8),List.getElem?_set_self (by rw [Z2G]; exact h8)] at e
  have e:=Option.some.inj e
  omega
 ·injection h with h1 h2
  have e:=congrArg List.length h2
  rw [List.length_take,List.length_take,Z2G] at e
  omega
 ·have:=J1h ⟨k,hk⟩ ⟨k',hk'⟩ fun t=>by
   have e:((Z2B (r+k / 8)).drop (k % 8)++(Z2B (r+k / 8)).take (k % 8))[t.1]?=((Z2B (r+k' / 8)).drop (k' % 8)++(Z2B (r+k' / 8)).take (k' % 8))[t.1]?:=by rw [h]
   rw [Z9h (Nat.mod_lt _ (by decide)) t.2,Z9h (Nat.mod_lt _ (by decide)) t.2] at e
   have e:=Option.some.inj e
   show (k / 8+3 * ((k % 8+t.1) % 8)) % 26=(k' / 8+3 * ((k' % 8+t.1) % 8)) % 26
   omega
  exact congrArg Fin.val this
theorem Z8C {k k':Nat} (hk:k < 26) (hk':k' < 26) (h:digs k=digs k'):k=k':=by
 unfold digs at h
 split at h <;> split at h <;> simp at h <;> omega
theorem J2f {d e:Nat} (hd:d < 10) (he:e < 10) (h:digC d=digC e):d=e:=by
 unfold digC at h
 split at h <;> split at h <;> omega
theorem Z8n {C k k':Nat} (hk:k < 26) (hk':k' < 26) (h:Z0V C k=Z0V C k'):k=k':=by
 have h:=J3X h
 unfold Z3D at h
 by_cases h2:C % 4=2
 ·rw [if_pos h2,if_pos h2] at h
  have e:=congrArg List.dropLast h
  rw [List.dropLast_concat,List.dropLast_concat] at e
  have:=J1y ⟨(C / 4+k) % 19,Nat.mod_lt _ (by decide)⟩ ⟨(C / 4+k') % 19,Nat.mod_lt _ (by decide)⟩ e
  have:(C / 4+k) % 19=(C / 4+k') % 19:=congrArg Fin.val this
  have e2:=congrArg (fun l=>l.getLast?) h
  simp only [List.getLast?_concat] at e2
  have:=J2f (Nat.mod_lt _ (by decide)) (Nat.mod_lt _ (by decide)) (Option.some.inj e2)
  omega
 rw [if_neg h2,if_neg h2] at h
 have mix:∀ {a b:Nat},a < 26→(rawL (C % 4) (C / 4) a).take 1++digs a=rawL (C % 4) (C / 4) b→False:=fun {a b} ha e=>by
  obtain ⟨c,l,hcl⟩:=List.exists_cons_of_ne_nil (J3f (k:=a))
  have hm:c∈rawL (C % 4) (C / 4) b:=by rw [← e,hcl]; simp
  have h1:=Z9N c hm
  have h3:=Z8G (k:=a) (by omega) c (by rw [hcl]; exact List.mem_cons_self)
  omega
 have len1:∀ a,((rawL (C % 4) (C / 4) a).take 1).length=1:=fun a=>by
  rw [List.length_take]
  have:=List.length_pos_iff.mpr (J2S (w:=C % 4) (r:=C / 4) (k:=a))
  omega
 split at h
 ·split at h
  ·exact Z8C hk hk' (List.append_inj h (by rw [len1,len1])).2
  ·exact (mix hk h).elim
 ·split at h
  ·exact (mix hk' h.symm).elim
  ·exact Z9p hk hk' h
theorem Z5X {w r k:Nat}:∀ c∈rawL w r k,c < 128:=by
 have hb:∀ c∈Z2w r,c < 128:=fun c hc=>by
  obtain ⟨j,_,rfl⟩:=List.mem_map.mp hc; omega
 have ht:∀ r,∀ c∈Z2B r,c < 128:=fun r c hc=>by
  obtain ⟨j,_,rfl⟩:=List.mem_map.mp hc; omega
 intro c hc
 unfold rawL at hc
 split at hc
 ·rcases List.mem_or_eq_of_mem_set (List.mem_of_mem_take hc) with h | h
  ·exact hb c h
  ·omega
 ·rcases List.mem_cons.mp hc with h | h
  ·omega
  ·exact hb c (List.mem_of_mem_take h)
 ·rcases List.mem_append.mp hc with h | h
  ·exact ht _ c (List.mem_of_mem_drop h)
  ·exact ht _ c (List.mem_of_mem_take h)
theorem J4s:∀ l∈toldC,∀ c∈l,c < 128:=by decide +kernel
theorem J1r {C k:Nat} (hk:k < 26):∀ c∈Z3D C k,c < 128:=by
 intro c hc
 unfold Z3D at hc
 split at hc
 ·rcases List.mem_append.mp hc with h | h
  ·rw [List.getD_eq_getElem?_getD] at h
   cases e:toldC[(C / 4+k) % 19]? with
   | none=>rw [e] at h; cases h
   | some l=>rw [e] at h; exact J4s l (List.mem_of_getElem? e) c h
  ·cases List.mem_singleton.mp h
   unfold digC; split <;> omega
 ·split at hc
  ·rcases List.mem_append.mp hc with h | h
   ·exact Z5X c (List.mem_of_mem_take h)
   ·have:=Z8G (k:=k) (by omega) c h; omega
  ·exact Z5X c hc
theorem J2h {C k:Nat} (hk:k < 26):SOk (Z0V C k):=by
 unfold SOk Z0V mkS
 rw [List.all_toArray,List.all_eq_true]
 intro c hc
 have:=J1r hk c hc
 exact decide_eq_true (by omega)
def Z4L (sc:List Int) (k:Nat):Int:=(sc.getD (k % sc.length) 0 * (48271+2 * (k:Int))+((k:Int) * k+1) * 69621) % 2147483647
def Z9X (C:Nat):List Str:=(List.range 26).map (Z0V C)
theorem J0T (C:Nat):(Z9X C).length=26:=by unfold Z9X; rw [List.length_map,List.length_range]
theorem Z7S (C m:Nat) (h:m≤26):((List.range m).map (Z0V C)).Nodup:=by
 refine List.pairwise_map.mpr ((List.pairwise_lt_range (n:=m)).imp_of_mem ?_)
 intro x y hx hy lt e
 have hx:=List.mem_range.mp hx
 have hy:=List.mem_range.mp hy
 have:=Z8n (by omega) (by omega) e
 omega
theorem Z5x (C m:Nat) (h:m≤26):∀ x∈(List.range m).map (Z0V C),SOk x:=fun x hx=>by
 obtain ⟨j,hj,rfl⟩:=List.mem_map.mp hx
 exact J2h (by have:=List.mem_range.mp hj; omega)
end P23
end
section
namespace L2
open PySem PySem.Spec PyProof.Rows
theorem Z7Y {J:It} {g:TG} {te:TE} {Q:VK} {H:Hp} {D:Addr} {ys:List V} {σ0:St} (Sv:St→Prop) (R:Nat→V→Hp→Prop) (mono:∀ j v H1 H2,R j v H1→Z4n H1 H2→R j v H2) (e0:Sv σ0) (hD:H D=none) (hz:ys.length≤sizeLine)
  (j1:∀ i H1,Same H H1→i < ys.length→J.go i H1) (j2:∀ i H1 x H2,Same H H1→J.yld i H1 x H2→H2=H1∧ys[i]?=some x) (j3:∀ H1,Same H H1→J.stop ys.length H1)
  (he:∀ i y σ,ys[i]?=some y→Sv σ→∀ H1 (K':St→VK),Same H H1→(∀ σ3 v H2,Sv σ3→Same H1 H2→R i v H2→K' σ3 v H2)→g y σ H1 fun σ3 H3=>te σ3 H3 (K' σ3))
  (hQ:∀ vs H',Same H H'→H' D=some (.lst vs)→vs.length=ys.length→(∀ j v,vs[j]?=some v→R j v H')→Q (.ref D) H'):Z3y J g Z2K te D Q σ0 (upd H D (.lst [])):=by
 refine ⟨fun i m σ' H'=>m=ys.length - i∧i≤ys.length∧Sv σ'∧Same H H'∧∃ vs,H' D=some (.lst vs)∧vs.length=i∧∀ j v,vs[j]?=some v→R j v H',⟨ys.length,by simp,Nat.zero_le _,e0,Z0n hD _,[],Z0e,rfl,fun j v h=>by simp at h⟩,?_⟩
 rintro i m σ' H' ⟨rfl,hi,hS,s1,vs,hv,hl,hr⟩
 by_cases hlt:i < ys.length
 ·refine .inr ⟨j1 i H' s1 hlt,fun σ2 H2=>Sv σ2∧Same H H2∧∃ vs,H2 D=some (.lst vs)∧vs.length=i+1∧∀ j v,vs[j]?=some v→R j v H2,fun σ2 H2 ⟨a,b,c⟩=>⟨ys.length - (i+1),by omega,rfl,hlt,a,b,c⟩,fun x H2 hx=>?_⟩
  obtain ⟨e1,e2⟩:=j2 i H' x H2 s1 hx
  subst e1
  unfold Z2K
  simp only [if_true]
  refine he i x σ' e2 hS H2 _ s1 fun σ3 v H3 hS3 s3 hR=>?_
  have h3:=s3 _ _ hv
  have sn:Z4n H3 (upd H3 D (.lst (vs++[v]))):=fun b o ho hb=>by
   rw [Z0h (fun z=>by rw [z,h3] at hb; cases hb; exact ho _ rfl)]
   exact hb
  refine ⟨vs,h3,by omega,hS3,fun b o hb=>?_,_,Z0e,by rw [List.length_append,hl]; rfl,fun j u hj=>?_⟩
  ·rw [Z0h (Z0j hb hD)]
   exact s3 _ _ (s1 _ _ hb)
  ·by_cases hj':j < vs.length
   ·rw [List.getElem?_append_left hj'] at hj
    exact mono j u _ _ (mono j u _ _ (hr j u hj) fun b o _ hb=>s3 b o hb) sn
   ·rw [List.getElem?_append_right (by omega)] at hj
    have ej:j - vs.length=0:=by
     have:=(List.getElem?_eq_some_iff.mp hj).1
     simp at this
     omega
    rw [ej] at hj
    cases hj
    have:j=i:=by omega
    subst this
    exact mono _ _ _ _ hR sn
 ·have e:i=ys.length:=by omega
  subst e
  exact .inl ⟨j3 _ s1,hQ vs H' s1 hv hl hr⟩
theorem Z6w {K:W.Frag} {a:Addr} {g:TG} {te:TE} {Q:VK} {H:Hp} {D:Addr} {ys:List V} {σ0:St} (Sv:St→Prop) (R:Nat→V→Hp→Prop) (mono:∀ j v H1 H2,R j v H1→Z4n H1 H2→R j v H2) (e0:Sv σ0) (hD:H D=none) (hz:ys.length≤sizeLine) (ha:∀ H1,Same H H1→SqL K H1 a ys)
  (he:∀ i y σ,ys[i]?=some y→Sv σ→∀ H1 (K':St→VK),Same H H1→(∀ σ3 v H2,Sv σ3→Same H1 H2→R i v H2→K' σ3 v H2)→g y σ H1 fun σ3 H3=>te σ3 H3 (K' σ3))
  (hQ:∀ vs H',Same H H'→H' D=some (.lst vs)→vs.length=ys.length→(∀ j v,vs[j]?=some v→R j v H')→Q (.ref D) H'):Z3y (Itl K a) g Z2K te D Q σ0 (upd H D (.lst [])):=
 Z7Y Sv R mono e0 hD hz (fun i H1 s h=>⟨ys,ys[i],ha H1 s,List.getElem?_eq_getElem h⟩) (fun i H1 x H2 s h=>⟨h.1,h.2 ys (ha H1 s)⟩) (fun H1 s=>⟨ys,ha H1 s,Nat.le_refl _⟩) he hQ
end L2
end
section
namespace K10
abbrev Tx:=List Nat
abbrev Res:=Except Nat (List Tx)
def pre (ws:List Tx):Res→Res
 | .ok r=>.ok (ws++r)
 | .error k=>.error k
end K10
end
section
namespace K10
open PySem
abbrev cds (x:Str):Tx:=x.cps.toList
theorem J3w (x:Str):(cds x).length=x.length:=by simp [cds,Str.length]
theorem Z3u (x:Str) {b:Nat} (hb:b≤x.length):cds (Txt.slice x none (some (b:Int)))=(cds x).take b:=by
 have h:=StrLaws.sliceText_to (x:=x) (j:=(b:Int)) ⟨by omega,by rw [show x.cps.toList.length=x.length from J3w x]; omega⟩
 have h2:Txt.slice x none (some (b:Int))=StrLaws.sliceText x none (some (b:Int)):=rfl
 rw [h2,h]
 simp [cds]
theorem Z4r:∀ (ps:List Str) (acc:Array Nat),(ps.foldl (fun acc p=>acc++Str.empty.cps++p.cps) acc).toList=acc.toList++(ps.map cds).flatten
 | [],acc=>by simp
 | p::r,acc=>by
  rw [List.foldl_cons,Z4r r,List.map_cons,List.flatten_cons]
  simp [cds,Str.empty]
theorem Z7k (ys:List Str):cds (Txt.join "" ys)=(ys.map cds).flatten:=by
 show ((ys.drop 1).foldl (fun acc p=>acc++Str.empty.cps++p.cps) (ys.headD Str.empty).cps).toList=_
 rw [Z4r]
 cases ys with
 | nil=>rfl
 | cons y r=>simp [cds]
end K10
end
section
namespace P23
open PySem P15 PW
theorem Chain.tail {G:Pg} {h:Str} {es:List Str} (c:Chain G h es):∀ (i:Nat) x,es[i]?=some x→Chain G x (es.drop (i+1)):=by
 induction c with
 | top _ _=>intro i x hx; cases hx
 | @up h e H es l e' c ih=>
  intro i x hx
  cases i with
  | zero=>cases hx; exact c
  | succ i=>exact ih i x hx
theorem Chain.noself {G:Pg} (un:∀ a b,a∈G.houses→b∈G.houses→a.name=b.name→a=b) {h:Str} {es:List Str} (c:Chain G h es):h∉es:=fun m=>by
 obtain ⟨i,hi⟩:=List.getElem?_of_mem m
 have:=congrArg List.length (Chain.det un c (Chain.tail c i h hi))
 rw [List.length_drop] at this
 have:=(List.getElem?_eq_some_iff.mp hi).1
 omega
end P23
end
section
namespace P23
open PySem P15 PW
def NN:List Str:=[("number":Str),"truth"]
theorem J4b:∀ x∈NN,x∈toldS∧∀ c∈x.cps.toList,97≤c:=by decide +kernel
theorem J3K {d:Nat} (h:d < 10):digC d < 97:=by unfold digC; split <;> omega
theorem J0I {C k:Nat} (hk:k < 26):Z0V C k∉NN:=fun m=>by
 obtain ⟨h1,h2⟩:=J4b _ m
 have h2:∀ c∈Z3D C k,97≤c:=fun c hc=>h2 c (by show c∈(Z3D C k).toArray.toList; simpa using hc)
 unfold Z0V Z3D at h1
 unfold Z3D at h2
 split at h2
 ·have:=h2 (digC ((C / 4+k / 19) % 10)) (List.mem_append_right _ List.mem_cons_self)
  have:=J3K (d:=(C / 4+k / 19) % 10) (Nat.mod_lt _ (by decide))
  omega
 ·split at h2
  ·have:∃ c∈digs k,c < 97:=by
    unfold digs
    split
    ·exact ⟨_,List.mem_cons_self,by omega⟩
    ·exact ⟨_,List.mem_cons_self,by omega⟩
   obtain ⟨c,hc,lt⟩:=this
   have:=h2 c (List.mem_append_right _ hc)
   omega
  ·rename_i n1 n2
   rw [if_neg n1,if_neg n2] at h1
   exact n2 h1
theorem J0p (C m:Nat) (h:m≤26):∀ x∈(List.range m).map (Z0V C),x∉NN:=fun x hx=>by
 obtain ⟨j,hj,rfl⟩:=List.mem_map.mp hx
 exact J0I (by have:=List.mem_range.mp hj; omega)
def fitP (up:Str→List Str) (a b:Str):Bool:=decide (a=b∨(a∉NN∧b∉NN∧b∈up a))
def nrP (up:Str→List Str) (a b:Str):Option Str:=if a=b then some a else if a∈NN∨b∈NN then none else (a::up a).find? (fitP up b)
def dueP (up:Str→List Str) (a b:Str):Bool:=decide (a=b∨b∈up a)
def Z2U (up:Str→List Str) (ks:List Str) (a b:Str):List Str:=ks.filter fun k=>dueP up a k&&dueP up b k
def Z3A (up:Str→List Str) (xs:List Str):List Str:=xs.filter fun k=>(xs.filter fun o=>!dueP up k o).isEmpty
structure UpOk (rs:List Rw) (up:Str→List Str):Prop where
 ch:∀ x∈rs.map Rw.name,Chain (pgOf rs) x (up x)∧(up x).length≤12
 no:∀ x,x∉rs.map Rw.name→up x=[]
 nn:∀ x∈rs.map Rw.name,x∉NN
theorem Z9B {rs:List Rw} (ok:RsOk rs):∀ a b,a∈(pgOf rs).houses→b∈(pgOf rs).houses→a.name=b.name→a=b:=fun a b ha hb e=>by
 obtain ⟨x,hx⟩:=List.getElem?_of_mem ha
 obtain ⟨y,hy⟩:=List.getElem?_of_mem hb
 have nd:((pgOf rs).houses.map Hs.name).Nodup:=by rw [Z5s]; exact ok.nd
 have:x=y:=Z2b nd (show ((pgOf rs).houses.map Hs.name)[x]?=some a.name by rw [List.getElem?_map,hx]; rfl) (by rw [List.getElem?_map,hy,e]; rfl)
 subst this
 exact Option.some.inj (hx.symm.trans hy)
section
variable {rs:List Rw} {up:Str→List Str} (ok:RsOk rs) (u:UpOk rs up)
include ok u
theorem Z6e {a b:Str} (h:b∈up a):a∈rs.map Rw.name∧b∈rs.map Rw.name:=by
 have ha:a∈rs.map Rw.name:=by
  by_cases z:a∈rs.map Rw.name
  ·exact z
  ·rw [u.no a z] at h; cases h
 obtain ⟨X,hX⟩:=Chain.look (u.ch a ha).1 b (List.mem_cons_of_mem _ h)
 exact ⟨ha,by rw [← Z5s]; exact List.mem_map.mpr ⟨X,hX.1,hX.2⟩⟩
theorem Z5t (a b:Str):fitP up a b=dueP up a b:=by
 unfold fitP dueP
 refine decide_eq_decide.mpr ⟨fun h=>h.imp id (fun h=>h.2.2),fun h=>h.imp id (fun h=>?_)⟩
 obtain ⟨h1,h2⟩:=Z6e ok u h
 exact ⟨u.nn a h1,u.nn b h2,h⟩
theorem J0t {a m:Str} {i:Nat} (ha:a∈rs.map Rw.name) (h:(a::up a)[i]?=some m):up m=(up a).drop i:=by
 cases i with
 | zero=>cases h; rfl
 | succ i=>
  have h:(up a)[i]?=some m:=h
  have hm:=(Z6e ok u (List.mem_of_getElem? h)).2
  exact Chain.det (Z9B ok) (u.ch m hm).1 (Chain.tail (u.ch a ha).1 i m h)
theorem J3W {a:Str}:a∉up a:=fun h=>Chain.noself (Z9B ok) (u.ch a (Z6e ok u h).1).1 h
theorem J1w {a b c:Str} (h1:b∈up a) (h2:c∈up b):c∈up a:=by
 obtain ⟨i,hi⟩:=List.getElem?_of_mem h1
 have:=J0t ok u (Z6e ok u h1).1 (i:=i+1) hi
 rw [this] at h2
 exact List.mem_of_mem_drop h2
theorem J1j {a b:Str} (h1:dueP up a b=true) (h2:dueP up b a=true):a=b:=by
 unfold dueP at h1 h2
 rcases of_decide_eq_true h1 with h | h
 ·exact h
 rcases of_decide_eq_true h2 with g | g
 ·exact g.symm
 exact absurd (J1w ok u h g) (J3W ok u)
theorem Z7U (a:Str):dueP up a a=true:=decide_eq_true (.inl rfl)
theorem Z5O {ks:List Str} {a b m:Str} (hm:m∈Z2U up ks a b) (hall:∀ o∈Z2U up ks a b,dueP up m o=true):((Z3A up (Z2U up ks a b)).map some++[none])[0]?=some (some m):=by
 have e:∀ k∈Z3A up (Z2U up ks a b),k=m:=fun k hk=>by
  obtain ⟨h1,h2⟩:=List.mem_filter.mp hk
  rw [List.isEmpty_iff] at h2
  have h3:=List.filter_eq_nil_iff.mp h2 m hm
  have h3:dueP up k m=true:=by simpa using h3
  exact J1j ok u h3 (hall k h1)
 have hin:m∈Z3A up (Z2U up ks a b):=List.mem_filter.mpr ⟨hm,by
  rw [List.isEmpty_iff,List.filter_eq_nil_iff]
  intro o ho
  rw [hall o ho]; decide⟩
 cases hb:Z3A up (Z2U up ks a b) with
 | nil=>rw [hb] at hin; cases hin
 | cons x l=>
  rw [hb] at e
  rw [e x List.mem_cons_self]
  rfl
theorem Z6q {ks:List Str} {a b:Str} (h:Z2U up ks a b=[]):((Z3A up (Z2U up ks a b)).map some++[none])[0]?=some none:=by
 rw [h]; rfl
theorem J3I {a b:Str} (ha:a∈NN++rs.map Rw.name) (hb:b∈NN++rs.map Rw.name):((Z3A up (Z2U up (NN++rs.map Rw.name) a b)).map some++[none])[0]?=some (nrP up a b):=by
 have dm:∀ {a b:Str},a∈NN++rs.map Rw.name→dueP up a b=true→b∈NN++rs.map Rw.name:=fun {a b} ha h=>by
  rcases of_decide_eq_true h with h | h
  ·exact h▸ha
  ·exact List.mem_append_right _ (Z6e ok u h).2
 have so:∀ o,o∈Z2U up (NN++rs.map Rw.name) a b↔dueP up a o=true∧dueP up b o=true:=fun o=>by
  unfold Z2U
  rw [List.mem_filter,Bool.and_eq_true]
  exact ⟨fun h=>h.2,fun h=>⟨dm ha h.1,h⟩⟩
 have nu:∀ {a:Str},a∈NN→∀ o,dueP up a o=true→o=a:=fun {a} h o ho=>by
  rcases of_decide_eq_true ho with z | z
  ·exact z.symm
  ·exact absurd h (u.nn a (Z6e ok u z).1)
 unfold nrP
 by_cases e:a=b
 ·subst e
  rw [if_pos rfl]
  exact Z5O ok u ((so a).mpr ⟨Z7U ok u a,Z7U ok u a⟩) fun o ho=>((so o).mp ho).1
 rw [if_neg e]
 by_cases hn:a∈NN∨b∈NN
 ·rw [if_pos hn]
  refine Z6q ok u (List.eq_nil_iff_forall_not_mem.mpr fun o ho=>?_)
  obtain ⟨h1,h2⟩:=(so o).mp ho
  rcases hn with hn | hn
  ·have:=nu hn o h1
   subst this
   rcases of_decide_eq_true h2 with z | z
   ·exact e z.symm
   ·exact u.nn _ (Z6e ok u z).2 hn
  ·have:=nu hn o h2
   subst this
   rcases of_decide_eq_true h1 with z | z
   ·exact e z
   ·exact u.nn _ (Z6e ok u z).2 hn
 rw [if_neg hn]
 have han:a∈rs.map Rw.name:=(List.mem_append.mp ha).resolve_left fun z=>hn (.inl z)
 have inl:∀ o,dueP up a o=true↔o∈a::up a:=fun o=>by
  unfold dueP
  rw [decide_eq_true_iff,List.mem_cons]
  exact ⟨fun h=>h.imp Eq.symm id,fun h=>h.imp Eq.symm id⟩
 cases hf:(a::up a).find? (fitP up b) with
 | none=>
  refine Z6q ok u (List.eq_nil_iff_forall_not_mem.mpr fun o ho=>?_)
  obtain ⟨h1,h2⟩:=(so o).mp ho
  have:=List.find?_eq_none.mp hf o ((inl o).mp h1)
  rw [Z5t ok u] at this
  exact this h2
 | some m=>
  have hm:=List.find?_some hf
  obtain ⟨hp,i,hi,e1,hlt⟩:=List.find?_eq_some_iff_getElem.mp hf
  rw [Z5t ok u] at hp
  have him:(a::up a)[i]?=some m:=by rw [List.getElem?_eq_getElem hi,e1]
  refine Z5O ok u ((so m).mpr ⟨(inl m).mpr (List.mem_of_getElem? him),hp⟩) fun o ho=>?_
  obtain ⟨h1,h2⟩:=(so o).mp ho
  obtain ⟨j,hj⟩:=List.getElem?_of_mem ((inl o).mp h1)
  have hjl:=(List.getElem?_eq_some_iff.mp hj).1
  have hij:i≤j:=Nat.le_of_not_lt fun z=>by
   have:=hlt j z
   rw [Z5t ok u,(List.getElem?_eq_some_iff.mp hj).2,h2] at this
   cases this
  have t:=J0t ok u han him
  unfold dueP
  refine decide_eq_true ?_
  rw [t]
  by_cases hij':i=j
  ·subst hij'
   rw [him] at hj
   exact .inl (Option.some.inj hj)
  ·right
   obtain ⟨j',rfl⟩:∃ j',j=j'+1:=⟨j - 1,by omega⟩
   have hj:(up a)[j']?=some o:=hj
   refine List.mem_of_getElem? (i:=j' - i) ?_
   rw [List.getElem?_drop,show i+(j' - i)=j' by omega]
   exact hj
end
end P23
end
section
namespace L2
open PySem PySem.Spec PyProof.Rows
theorem Z3j {K:W.Frag} {a:Addr} {tc:TT} {Q:VK} {H:Hp} {D:Addr} {ys:List V} {σ0:St} (v0:Option V) (rest:St) (p:V→Bool) (e0:σ0=v0::rest) (hD:H D=none) (hz:ys.length≤sizeLine) (ha:∀ H1,Same H H1→SqL K H1 a ys)
  (hc:∀ y∈ys,∀ H1 (K':Bool→Hp→Prop),Same H H1→(∀ H2,Same H1 H2→K' (p y) H2)→tc (some y::rest) H1 K')
  (hQ:∀ H',Same H H'→H' D=some (.lst (ys.filter p))→Q (.ref D) H'):Z3y (Itl K a) (Z3b 0) tc (Z6B 0) D Q σ0 (upd H D (.lst [])):=by
 refine ⟨fun i m σ' H'=>m=ys.length - i∧i≤ys.length∧(∃ v,σ'=v::rest)∧Same H H'∧H' D=some (.lst ((ys.take i).filter p)),⟨ys.length,by simp,Nat.zero_le _,⟨v0,e0⟩,Z0n hD _,Z0e⟩,?_⟩
 rintro i m σ' H' ⟨rfl,hi,⟨v,rfl⟩,s1,hv⟩
 have hq:=ha H' s1
 by_cases hlt:i < ys.length
 ·refine .inr ⟨⟨ys,ys[i],hq,List.getElem?_eq_getElem hlt⟩,fun σ2 H2=>(∃ v,σ2=v::rest)∧Same H H2∧H2 D=some (.lst ((ys.take (i+1)).filter p)),fun σ2 H2 ⟨a,b,c⟩=>⟨ys.length - (i+1),by omega,rfl,hlt,a,b,c⟩,fun x H2 hx=>?_⟩
  obtain ⟨e1,e2⟩:=hx
  subst e1
  have ex:=e2 ys hq
  rw [List.getElem?_eq_getElem hlt] at ex
  cases ex
  unfold Z3b
  rw [List.set_cons_zero]
  refine hc _ (List.getElem_mem hlt) H2 _ s1 fun H3 s3=>?_
  have h3:=s3 _ _ hv
  rw [List.take_succ_eq_append_getElem hlt,List.filter_append]
  cases e:p ys[i] with
  | true=>
   rw [if_pos rfl]
   refine ⟨_,h3,?_,⟨_,rfl⟩,fun b o hb=>?_,?_⟩
   ·have:=List.length_filter_le p (ys.take i)
    rw [List.length_take] at this
    omega
   ·rw [Z0h (Z0j hb hD)]
    exact s3 _ _ (s1 _ _ hb)
   ·rw [Z0e,List.filter_cons,e]; rfl
  | false=>
   rw [if_neg (by decide)]
   refine ⟨⟨_,rfl⟩,s1.trans s3,?_⟩
   rw [h3,List.filter_cons,e]
   simp
 ·have e:i=ys.length:=by omega
  subst e
  rw [List.take_length] at hv
  exact .inl ⟨⟨ys,hq,Nat.le_refl _⟩,hQ H' s1 hv⟩
end L2
namespace L2
open PySem PySem.Spec PyProof.Rows
end L2
end
section
namespace L2
open PySem PySem.Spec PyProof.Rows WK
end L2
end
section
namespace L2
open PySem PySem.Spec PyProof.Rows PySem.SeqAt
structure Lay (k:Nat) (d:PyData):Prop where
 lay:d.canLay0=true
 dep:d.depth≤k
structure LayL (k:Nat) (ds:List PyData):Prop where
 lay:PyData.canLayAll0 ds=true
 dep:PyData.depthAll ds≤k
theorem Lay.int {k:Nat} {i:Int}:Lay k (.int i):=⟨rfl,Nat.zero_le _⟩
theorem Lay.mono {k k':Nat} {d:PyData} (h:Lay k d) (l:k≤k'):Lay k' d:=⟨h.lay,Nat.le_trans h.dep l⟩
theorem LayL.nil {k:Nat}:LayL k []:=⟨rfl,Nat.zero_le _⟩
theorem LayL.cons {k:Nat} {d:PyData} {ds:List PyData} (h:Lay k d) (hs:LayL k ds):LayL k (d::ds):=⟨by rw [PyData.canLayAll0,h.lay,hs.lay]; rfl,by rw [PyData.depthAll]; exact Nat.max_le.mpr ⟨h.dep,hs.dep⟩⟩
theorem Lay.tup {k:Nat} {ds:List PyData} (h:LayL k ds):Lay (k+1) (.tuple ds):=⟨by rw [PyData.canLay0]; exact h.lay,by rw [PyData.depth]; exact Nat.succ_le_succ h.dep⟩
theorem Lay.shaped {k:Nat} {d:PyData} (h:Lay k d) (hk:k≤64):PySem.SeqAt.shaped d=true:=Bool.and_eq_true_iff.mpr ⟨h.lay,decide_eq_true (Nat.le_trans h.dep hk)⟩
theorem Lay.eqv {k:Nat} {d:PyData} (h:Lay k d):PyData.eqv d d=true:=eqv_refl d h.lay
theorem Lay.str {k:Nat} {x:Str} (h:P23.SOk x):Lay k (.str x):=⟨by rw [PyData.canLay0]; exact h,Nat.zero_le _⟩
theorem Lay.non {k:Nat}:Lay k .none:=⟨rfl,Nat.zero_le _⟩
theorem LayL.of {k:Nat}:∀ {ds:List PyData},(∀ d∈ds,Lay k d)→LayL k ds
 | [],_=>.nil
 | d::ds,h=>.cons (h d List.mem_cons_self) (LayL.of fun e he=>h e (List.mem_cons_of_mem _ he))
end L2
end
section
namespace L2
open PySem PySem.Spec PyProof.Rows
theorem J1T {P:Program} {w:World} {K:W.Frag} {mg:Str→Option Value} {fa:Addr} {k:Nat} {x:Str} {st:Stmt} {sp:Sp} (F:Fn K mg "law" st) (hfa:mg "law"=some (.ref fa))
  (hb:∀ (kV doc pm:Value) (an:Option Addr) (cdv ct u:Value),bindArgs (W.fnOf "law" "law" (Z0k st) (Z0i st) (Z0c st) .none kV doc pm an cdv ct) ⟨[u],[]⟩=pure [(x,u)])
  (ok:∀ (f:Addr) (fd:FuncData) (base:Heap),BAt mg base→Fun K "law" "law" st f fd→FnOk P w K mg base CX0 k f fd [x] sp) :
  ∃ fd:FuncData,(∀ (s:Shared) (u:Value),BindsTo s fd ⟨[u],[]⟩ [(x,u)])∧∀ base:Heap,K.In base→base.Ns mainGlobals mg→BAt mg base→FnOk P w K mg base CX0 k fa fd [x] sp:=by
 obtain ⟨f,fd,F,m⟩:=F.ex
 cases hfa.symm.trans m
 have F':=F
 obtain ⟨oc,od,kV,doc,pm,an,cdv,ct,osl,rfl,lk,hcd⟩:=F.ex
 exact ⟨_,fun s u=>.of_eq (hb kV doc pm an cdv ct u),fun base _ _ hB=>ok _ _ base hB F'⟩
theorem J4q {K:W.Frag} {a:Addr} {o:Obj} {h:Heap} (X:W.Frag.In ((a,o)::K) h) (n:K.lookup a=none):K.In h∧h.get? a=some o:=by
 refine ⟨fun b u e=>X b u ?_,X a o ?_⟩
 ·rw [List.lookup_cons]
  have:(b == a)=false:=beq_false_of_ne fun z=>by rw [z,n] at e; cases e
  rw [this]; exact e
 ·rw [List.lookup_cons,beq_self_eq_true]
end L2
end
section
open PySem L2 TM WK
local macro_rules | `(tactic| walk_at "rd") => do let f := fun (s : String) => (s.splitOn " ").toArray.mapM fun n => `(Lean.Parser.Tactic.simpLemma| $(Lean.mkIdent n.toName):term); let a ← f "J6q J6I J6F J7x J7T J4I J7J J8v J3e J6x J7f J6w J6s J8j J6v J8b J6E J7i J7d J6H J5f J5H J6u J6S J6j J6T J7b J4X J5N J6k J5z J7M J9h J9b J7Z J8D J7y J6B J7L J6r J8C J7a J7l J5p J6J J6A J7z J6Z J8s J4Q J6Y J7H J6D J7W J8B J8x J7I J8A J6z J8J J7c J7O J6N J6Q J8N J8M J9d J8G J8Z J8I J8P J6U J4R J8r J7F J8h J4F J8q J7j J6X J6P J6C J8H J4B J6R J8K J7t J6K J8g J7V J7D J6y J8Q J7X J8E J4E J4D J8k J5Y J3l J5V J7U J8p J6t J6d J6G J6V J3A J5q J6W J7e J4P J6O J5e J7Y J7r J7q J7p List.getElem?_cons_zero List.getElem?_cons_succ List.set_cons_zero List.set_cons_succ Nat.reduceAdd Nat.reduceSub List.cons_append List.nil_append L2.Z4m List.map_cons List.map_nil List.length_cons List.length_nil List.replicate J8O"; let b ← f "J6q J6I J6F J7x J7T J4I J7J J8v J3e J6x J7f J6w J6s J8j J6v J8b J6E J7i J7d J6H J5f J5H J6u J6S J6j J6T J7b J4X J7g J6M J6L J7h J5N J6k J5z J6t J6d J6G J6V J3A J5q J6W J7e J4P J6O J5e J7Y J7r J7q J7p J7M J9h J9b J7Z J8D J7y J6B J7L J6r J8C J7a J7l J5p J6J J6A J7z J6Z J8s J4Q J6Y J7H J6D J7W J8B J8x J7I J8A J6z J8J J7c J7O J6N J6Q J8N J8M J9d J8G J8Z J8I J8P J6U J4R J8r J7F J8h J4F J8q J7j J6X J6P J6C J8H J4B J6R J8K J7t J6K J8g J7V J7D J6y J8Q J7X J8E J4E J4D J8k J5Y J3l J5V J7U J8p exists_eq_left' exists_eq_left exists_and_left exists_eq_right exists_eq_right' V.int.injEq V.str.injEq V.bl.injEq V.ref.injEq Option.some.injEq List.cons.injEq and_true true_and List.getElem?_cons_zero List.getElem?_cons_succ List.set_cons_zero List.set_cons_succ decide_eq_true_eq Bool.not_eq_true' decide_eq_false_iff_not reduceCtorEq J8Y J9f J8X J9c J8R J9e J9g J8S J8W J9i J8U J8T J8V J9a L2.Z4m List.map_cons List.map_nil List.length_cons List.length_nil List.replicate List.cons_append List.nil_append List.append_nil Nat.reduceAdd Nat.reduceSub Nat.zero_add J3O J2U J4C J2X J4x ix0 ix1 exists_const if_true if_false ite_true ite_false Bool.false_eq_true decide_true decide_false Bool.not_true Bool.not_false Bool.true_eq_false CPow CDiv CMul J8y or_true true_or and_self and_assoc sizeLine_eq Nat.reduceLeDiff Nat.reduceLT Nat.reducePow Nat.reduceMul Int.reducePow Int.reduceLE Int.reduceLT Int.reduceToNat Int.reduceAbs Int.reduceNeg Int.reduceAdd Int.reduceSub Int.reduceMul ne_eq not_false_eq_true not_true_eq_false J8O Int.zero_add"; `(tactic| ((try dsimp only [$a,*]); (try simp (config := { maxSteps := 10000000 }) only [$b,*])))
section
set_option format.width 300
namespace K30
open PySem L2 TM WK
open P15 (Lb Fm Tm dats Z0X okF Ok maxD sumS flatR Bld)
open PW (Vl Wd Hs Pg Sc Wt Ws IxAt Look Chain Z1O Flds Z1W putS Z0Z getS Z0O Two Step Z1P Z0F leaf)
seal L2.PE L2.PA L2.PT L2.PS L2.PSs L2.PG L2.PGs L2.PI L2.PW
theorem Z6R:Z0o ["kind"] ["kind"] (Z0c Z2p):=⟨rfl,rfl,rfl,by decide +kernel,rfl,by decide +kernel,by decide +kernel⟩
theorem J2W:Z0o ["hall","one","other"] ["hall","one","other"] (Z0c Z6d):=⟨rfl,rfl,rfl,by decide +kernel,rfl,by decide +kernel,by decide +kernel⟩
theorem sc_nearest:Z0o ["hall","one","other","common"] ["hall","one","other"] (Z0c Z2A):=⟨rfl,rfl,rfl,by decide +kernel,rfl,by decide +kernel,by decide +kernel⟩
theorem Z6u:Z0o ["form","label","parts"] ["form","label","parts"] (Z0c Z2k):=⟨rfl,rfl,rfl,by decide +kernel,rfl,by decide +kernel,by decide +kernel⟩
theorem Z6Q:Z0o ["pairs"] ["pairs"] (Z0c Z2i):=⟨rfl,rfl,rfl,by decide +kernel,rfl,by decide +kernel,by decide +kernel⟩
theorem sc_program_of:Z0o ["plain","told_houses","told_main","params","kind","body"] ["plain"] (Z0c Z1E):=⟨rfl,rfl,rfl,by decide +kernel,rfl,by decide +kernel,by decide +kernel⟩
theorem sc_house_of:Z0o ["plain","name","elder","own_fields","own_words"] ["plain"] (Z0c Z2j):=⟨rfl,rfl,rfl,by decide +kernel,rfl,by decide +kernel,by decide +kernel⟩
theorem sc_word_of:Z0o ["plain","name","params","kind","body"] ["plain"] (Z0c Z2E):=⟨rfl,rfl,rfl,by decide +kernel,rfl,by decide +kernel,by decide +kernel⟩
theorem sc_term_of:Z0o ["plain","built","one","inner"] ["plain"] (Z0c Z2C):=⟨rfl,rfl,rfl,by decide +kernel,rfl,by decide +kernel,by decide +kernel⟩
theorem sc_all_within:Z0o ["plain","found","waiting","one"] ["plain"] (Z0c Z1J):=⟨rfl,rfl,rfl,by decide +kernel,rfl,by decide +kernel,by decide +kernel⟩
theorem sc_parts_of:Z0o ["plain","form"] ["plain"] (Z0c Z2l):=⟨rfl,rfl,rfl,by decide +kernel,rfl,by decide +kernel,by decide +kernel⟩
theorem sc_label_of:Z0o ["plain","form"] ["plain"] (Z0c Z2h):=⟨rfl,rfl,rfl,by decide +kernel,rfl,by decide +kernel,by decide +kernel⟩
theorem sc__law_drawn:Z0o ["_law_script","_law_k","_law_cell"] ["_law_script","_law_k"] (Z0c Z1F):=⟨rfl,rfl,rfl,by decide +kernel,rfl,by decide +kernel,by decide +kernel⟩
theorem sc__law_name:Z0o ["_law_cell","_law_k","_law_letters","_law_told","_law_rest","_law_base","_law_at","_law_name_here"] ["_law_cell","_law_k"] (Z0c Z1Z):=⟨rfl,rfl,rfl,by decide +kernel,rfl,by decide +kernel,by decide +kernel⟩
theorem Z5g:Z0o ["_law_script","_law_many"] ["_law_script","_law_many"] (Z0c Z0N):=⟨rfl,rfl,rfl,by decide +kernel,rfl,by decide +kernel,by decide +kernel⟩
theorem sc__law_elders_drawn:Z0o ["_law_script","_law_order_here","_law_found","_law_place","_law_number"] ["_law_script","_law_order_here"] (Z0c Z0G):=⟨rfl,rfl,rfl,by decide +kernel,rfl,by decide +kernel,by decide +kernel⟩
theorem Z5Q:Z0o ["_law_number","_law_names"] ["_law_number","_law_names"] (Z0c Z1X):=⟨rfl,rfl,rfl,by decide +kernel,rfl,by decide +kernel,by decide +kernel⟩
theorem sc__law_fields:Z0o ["_law_script","_law_j","_law_taken","_law_pool","_law_names","_law_number","_law_found","_law_k","_law_name_here"] ["_law_script","_law_j","_law_taken","_law_pool","_law_names"] (Z0c Z1r):=⟨rfl,rfl,rfl,by decide +kernel,rfl,by decide +kernel,by decide +kernel⟩
theorem sc__law_params:Z0o ["_law_number","_law_pool","_law_names","_law_kinds"] ["_law_number","_law_pool","_law_names"] (Z0c Z1t):=⟨rfl,rfl,rfl,by decide +kernel,rfl,by decide +kernel,by decide +kernel⟩
theorem sc__law_heads:Z0o ["_law_script","_law_j","_law_pools","_law_names","_law_number","_law_found","_law_k","_law_more","_law_word"] ["_law_script","_law_j","_law_pools","_law_names"] (Z0c Z1y):=⟨rfl,rfl,rfl,by decide +kernel,rfl,by decide +kernel,by decide +kernel⟩
theorem sc__law_rows:Z0o ["_law_script","_law_first","_law_many","_law_names","_law_pools","_law_order_here","_law_elders","_law_fields_here","_law_taken","_law_j","_law_rows_here","_law_elder"] ["_law_script"] (Z0c Z1V):=⟨rfl,rfl,rfl,by decide +kernel,rfl,by decide +kernel,by decide +kernel⟩
theorem sc__law_program:Z0o ["_law_rows_here","_law_houses","_law_name_here","_law_elder","_law_fields_here","_law_heads_here","_law_told"] ["_law_rows_here"] (Z0c Z1i):=⟨rfl,rfl,rfl,by decide +kernel,rfl,by decide +kernel,by decide +kernel⟩
theorem sc__law_ups:Z0o ["_law_rows_here","_law_name_here","_law_above","_law_found"] ["_law_rows_here","_law_name_here"] (Z0c Z2m):=⟨rfl,rfl,rfl,by decide +kernel,rfl,by decide +kernel,by decide +kernel⟩
theorem sc__law_pair_good:Z0o ["_law_hall","_law_pair","_law_kinds","_law_due","_law_found","_law_some"] ["_law_hall","_law_pair","_law_kinds","_law_due"] (Z0c Z0Q):=⟨rfl,rfl,rfl,by decide +kernel,rfl,by decide +kernel,by decide +kernel⟩
theorem sc_law:Z0o ["_law_script","_law_rows_here","_law_plain","_law_program_here","_law_hall","_law_names","_law_kinds","_law_due","_law_one","_law_ups_here","_law_other","_law_pairs","_law_pair"] ["_law_script"] (Z0c Z8D):=⟨rfl,rfl,rfl,by decide +kernel,rfl,by decide +kernel,by decide +kernel⟩
theorem Z3x:Z0o ["self","form","label","parts"] ["self","form","label","parts"] (Z0c Z1a):=⟨rfl,rfl,rfl,by decide +kernel,rfl,by decide +kernel,by decide +kernel⟩
theorem Z5j:Z0o ["self"] ["self"] (Z0c Z1z):=⟨rfl,rfl,rfl,by decide +kernel,rfl,by decide +kernel,by decide +kernel⟩
theorem Z5n:Z0o ["self"] ["self"] (Z0c Z1A):=⟨rfl,rfl,rfl,by decide +kernel,rfl,by decide +kernel,by decide +kernel⟩
theorem Z5e:Z0o ["self"] ["self"] (Z0c Z1I):=⟨rfl,rfl,rfl,by decide +kernel,rfl,by decide +kernel,by decide +kernel⟩
theorem Z5E:Z0o ["self"] ["self"] (Z0c Z1T):=⟨rfl,rfl,rfl,by decide +kernel,rfl,by decide +kernel,by decide +kernel⟩
theorem Z3z:Z0o ["self","name","params","kind","body"] ["self","name","params","kind","body"] (Z0c Z1d):=⟨rfl,rfl,rfl,by decide +kernel,rfl,by decide +kernel,by decide +kernel⟩
theorem Z5p:Z0o ["self"] ["self"] (Z0c Z1C):=⟨rfl,rfl,rfl,by decide +kernel,rfl,by decide +kernel,by decide +kernel⟩
theorem Z3p:Z0o ["self","name","elder","own_fields","own_words"] ["self","name","elder","own_fields","own_words"] (Z0c Z0R):=⟨rfl,rfl,rfl,by decide +kernel,rfl,by decide +kernel,by decide +kernel⟩
theorem sc_House_plain:Z0o ["self","told"] ["self"] (Z0c Z1s):=⟨rfl,rfl,rfl,by decide +kernel,rfl,by decide +kernel,by decide +kernel⟩
theorem Z2O:Z0o ["self","all_houses","main"] ["self","all_houses","main"] (Z0c Z0J):=⟨rfl,rfl,rfl,by decide +kernel,rfl,by decide +kernel,by decide +kernel⟩
theorem sc_Program_plain:Z0o ["self","told"] ["self"] (Z0c Z1c):=⟨rfl,rfl,rfl,by decide +kernel,rfl,by decide +kernel,by decide +kernel⟩
theorem sc_Hall___init__:Z0o ["self","program","house"] ["self","program"] (Z0c Z0Y):=⟨rfl,rfl,rfl,by decide +kernel,rfl,by decide +kernel,by decide +kernel⟩
theorem sc_Hall_elders:Z0o ["self","house","nearest_first","one"] ["self","house"] (Z0c Z1q):=⟨rfl,rfl,rfl,by decide +kernel,rfl,by decide +kernel,by decide +kernel⟩
structure Txt (K:W.Frag) (mg:Str→Option Value) (Ct:Addr) (Cw:Addr) (Ch:Addr) (Cp:Addr) (Cl:Addr) (Uh9:Addr):Prop where
 z_bool:mg "bool"=none
 z_dict:mg "dict"=none
 z_int:mg "int"=none
 z_isinstance:mg "isinstance"=none
 z_len:mg "len"=none
 z_list:mg "list"=none
 z_max:mg "max"=none
 z_range:mg "range"=none
 z_reversed:mg "reversed"=none
 z_sorted:mg "sorted"=none
 z_str:mg "str"=none
 z_sum:mg "sum"=none
 z_tuple:mg "tuple"=none
 c_NO_HOUSES:Cst mg "NO_HOUSES" (.ref Uh9)
 t_NO_HOUSES:UTup K Uh9 [.str "number",.str "truth"]
 f_is_house:Fn K mg "is_house" Z2p
 f_fits:Fn K mg "fits" Z6d
 f_nearest:Fn K mg "nearest" Z2A
 f_shape_of:Fn K mg "shape_of" Z2k
 f_pairs_of:Fn K mg "pairs_of" Z2i
 f_program_of:Fn K mg "program_of" Z1E
 f_house_of:Fn K mg "house_of" Z2j
 f_word_of:Fn K mg "word_of" Z2E
 f_term_of:Fn K mg "term_of" Z2C
 f_all_within:Fn K mg "all_within" Z1J
 f_parts_of:Fn K mg "parts_of" Z2l
 f_label_of:Fn K mg "label_of" Z2h
 f__law_drawn:Fn K mg "_law_drawn" Z1F
 f__law_name:Fn K mg "_law_name" Z1Z
 f__law_order:Fn K mg "_law_order" Z0N
 f__law_elders_drawn:Fn K mg "_law_elders_drawn" Z0G
 f__law_kind:Fn K mg "_law_kind" Z1X
 f__law_fields:Fn K mg "_law_fields" Z1r
 f__law_params:Fn K mg "_law_params" Z1t
 f__law_heads:Fn K mg "_law_heads" Z1y
 f__law_rows:Fn K mg "_law_rows" Z1V
 f__law_program:Fn K mg "_law_program" Z1i
 f__law_ups:Fn K mg "_law_ups" Z2m
 f__law_pair_good:Fn K mg "_law_pair_good" Z0Q
 f_law:Fn K mg "law" Z8D
 Term:Z6O K mg "Term" Ct
 n_Term_deep:NoAttr K Ct "deep"
 n_Term_form:NoAttr K Ct "form"
 n_Term_inner:NoAttr K Ct "inner"
 n_Term_label:NoAttr K Ct "label"
 n_Term_many:NoAttr K Ct "many"
 n_Term_shape:NoAttr K Ct "shape"
 Word:Z6O K mg "Word" Cw
 n_Word_body:NoAttr K Cw "body"
 n_Word_kind:NoAttr K Cw "kind"
 n_Word_name:NoAttr K Cw "name"
 n_Word_params:NoAttr K Cw "params"
 House:Z6O K mg "House" Ch
 n_House_elder:NoAttr K Ch "elder"
 n_House_name:NoAttr K Ch "name"
 n_House_own_fields:NoAttr K Ch "own_fields"
 n_House_own_words:NoAttr K Ch "own_words"
 Program:Z6O K mg "Program" Cp
 n_Program_all_houses:NoAttr K Cp "all_houses"
 n_Program_main:NoAttr K Cp "main"
 Hall:Z6O K mg "Hall" Cl
 n_Hall_by_name:NoAttr K Cl "by_name"
 n_Hall_in_order:NoAttr K Cl "in_order"
 m_Term___init__:MFn K Ct "__init__" "Term.__init__" Z1a
 m_Term_plain:MFn K Ct "plain" "Term.plain" Z1z
 m_Term_parts:MFn K Ct "parts" "Term.parts" Z1A
 m_Term_depth:MFn K Ct "depth" "Term.depth" Z1I
 m_Term_size:MFn K Ct "size" "Term.size" Z1T
 m_Word___init__:MFn K Cw "__init__" "Word.__init__" Z1d
 m_Word_plain:MFn K Cw "plain" "Word.plain" Z1C
 m_House___init__:MFn K Ch "__init__" "House.__init__" Z0R
 m_House_plain:MFn K Ch "plain" "House.plain" Z1s
 m_Program___init__:MFn K Cp "__init__" "Program.__init__" Z0J
 m_Program_plain:MFn K Cp "plain" "Program.plain" Z1c
 m_Hall___init__:MFn K Cl "__init__" "Hall.__init__" Z0Y
 m_Hall_houses:MFn K Cl "houses" "Hall.houses" Z1Q
 m_Hall_elders:MFn K Cl "elders" "Hall.elders" Z1q
 m_Hall_fields:MFn K Cl "fields" "Hall.fields" Z1R
 m_Hall_place:MFn K Cl "place" "Hall.place" Z2c
 m_Hall_found:MFn K Cl "found" "Hall.found" Z2a
def isA:Fm→Bool | .self | .nt | .iff=>true | _=>false
def isN:Fm→Bool | .new | .elder=>true | _=>false
def isF:Fm→Bool | .field | .set=>true | _=>false
theorem inA (f:Fm):inV (V.str f.s) [V.str (Str.ofString "self"),V.str (Str.ofString "not"),V.str (Str.ofString "if")]=isA f:=by cases f <;> decide +kernel
theorem inN (f:Fm):inV (V.str f.s) [V.str (Str.ofString "new"),V.str (Str.ofString "elder")]=isN f:=by cases f <;> decide +kernel
theorem inF (f:Fm):inV (V.str f.s) [V.str (Str.ofString "field"),V.str (Str.ofString "set")]=isF f:=by cases f <;> decide +kernel
theorem isC (f:Fm):f.s=Str.ofString "call"→f=.call:=by cases f <;> first | exact fun _=>rfl | exact fun h=>absurd h (by decide +kernel)
theorem shA {f:Fm} {l:Lb} {ds:List PyData} (h:isA f=true):Z0X f l ds=.str f.s::ds:=by cases f <;> first | rfl | cases h
theorem shN {f:Fm} {l:Lb} {ds:List PyData} (h:isN f=true):Z0X f l ds=[.str f.s,l.d,.tuple ds]:=by cases f <;> first | rfl | cases h
theorem shF {f:Fm} {l:Lb} {d:PyData} {ds:List PyData} (h:isF f=true):Z0X f l (d::ds)=.str f.s::d::l.d::ds:=by cases f <;> first | rfl | cases h
theorem shR {f:Fm} {l:Lb} {ds:List PyData} (h1:¬ isA f=true) (h2:¬ isN f=true) (h3:¬ f=.call) (h4:¬ isF f=true):Z0X f l ds=.str f.s::l.d::ds:=by cases f <;> first | rfl | exact absurd rfl h1 | exact absurd rfl h2 | exact absurd rfl h3 | exact absurd rfl h4
theorem Z3q {f:Fm} {l:Lb} {ds:List PyData} (h:okF f l ds.length) (c:f=.call∨isF f=true):∃ d r,ds=d::r:=by
 cases ds with
 | cons d r=>exact ⟨d,r,rfl⟩
 | nil=>
  cases f <;> cases l <;> first | (rcases c with c | c <;> cases c; done) | exact absurd h (by decide) | cases h
theorem cut1 (x:V) (xs:List V):cutV (x::xs) (some 1) none=xs:=by
 rw [show (some (1:Int))=some ((1:Nat):Int) from rfl]
 unfold cutV
 simp [HT.sIx]
inductive Z7O (K:W.Frag) (vs:List V) (H:Hp) (Q:VK):Prop
 | mk (f:Fm) (l:Lb) (p:Addr) (us:List V) (ds:List PyData) (a1:vs=[.str f.s,lbV l,.ref p]) (a2:SqT K H p us) (a3:RTs K H us ds) (a4:okF f l ds.length) (a5:ds.length≤100) (a6:∀ r ws H',Same H H'→SqT K H' r ws→RTs K H' ws (Z0X f l ds)→Q (.ref r) H'):Z7O K vs H Q
def Z7r (K:W.Frag):Sp:=fun vs H Q _=>Z7O K vs H Q
section
variable {Cl Cs Cq Ck Ct Cw Ch Cp:Addr} {P:Program} {w:World} {K:W.Frag} {mg:Str→Option Value} {base:Heap}
theorem J1c (T:Txt K mg Ct Cw Ch Cp Cl Uh9):Has P w K mg base 1 "shape_of" ["form","label","parts"] (Z7r K):=by
 refine Has.of T.f_shape_of Z6u (fun _ _ _ _ _ _ us hl=>el3 us hl fun _ _ _=>rfl) (fun vs H Q E h=>?_) (fun f cdv A outer s H vs Q E hr h=>?_)
 ·obtain ⟨f,l,p,us,ds,rfl,_⟩:=h
  rfl
 obtain ⟨f,l,p,us,ds,rfl,hp,hu,hok,hl,q⟩:=h
 refine ⟨_,(Z0b (Z1H (Z0y (r:=rIn K false) Z0M (pvF 0) (Z0x (Z0a Z0p (Z0a Z0p (Z0a Z0p Z0d)))) (by with_unfolding_all rfl)) (Z0g (Z0r (Z0m (r:=Z8j K) Z4l (Z0x (Z0a (pvF 0) Z0d)) (pvF 2)))) Z0D)
  (Z0b (Z1H (Z0y (r:=rIn K false) Z0M (pvF 0) (Z0x (Z0a Z0p (Z0a Z0p Z0d))) (by with_unfolding_all rfl)) (Z0g (Z0r (Z0x (Z0a (pvF 0) (Z0a (pvF 1) (Z0a (pvF 2) Z0d)))))) Z0D)
  (Z0b (Z1H (Z0y Z4W (pvF 0) Z0p (Z1p _)) (Z0g (Z0r (Z0x (Z0a (pvF 0) (Z0a (Z0B (r:=Z1Y K) Z0K (pvF 2) Z0f (fun _ _=>rfl)) (Z0a (pvF 1) (Z0a (Z1x (r:=rSlA K) Z3Y (pvF 2) (Z1U Z0f) Z2f) Z0d))))))) Z0D)
  (Z0b (Z1H (Z0y (r:=rIn K false) Z0M (pvF 0) (Z0x (Z0a Z0p (Z0a Z0p Z0d))) (by with_unfolding_all rfl)) (Z0g (Z0r (Z0m (r:=Z8j K) Z4l (Z0x (Z0a (pvF 0) (Z0a (Z0B (r:=Z1Y K) Z0K (pvF 2) Z0f (fun _ _=>rfl)) (Z0a (pvF 1) Z0d)))) (Z1x (r:=rSlA K) Z3Y (pvF 2) (Z1U Z0f) Z2f)))) Z0D)
  (Z0g (Z0r (Z0m (r:=Z8j K) Z4l (Z0x (Z0a (pvF 0) (Z0a (pvF 1) Z0d))) (pvF 2)))))))),?_⟩
 walk_at "rd"
 have hus:us.length≤100:=by rw [hu.length]; exact hl
 refine New.of fun p1 H1 h1 s1 e1=>?_
 refine ⟨_,.inr (SqT.of e1),rfl,rfl,?_⟩
 rw [inA]
 refine ite2 (fun c=>?_) (fun cA=>?_)
 ·skip
  refine New.of fun p2 H2 h2 s2 e2=>?_
  have S:=s1.trans s2
  refine ⟨_,_,_,_,rfl,rfl,SqT.of e2,hp.same S,by rw [sizeLine_eq]; show 1+us.length≤_; omega,fun r H' s' hr=>q r _ H' (S.trans s') hr ?_⟩
  rw [shA c]
  exact .cons (.str _) (hu.same (S.trans s'))
 refine New.of fun p2 H2 h2 s2 e2=>?_
 refine ⟨_,.inr (SqT.of e2),rfl,rfl,?_⟩
 rw [inN]
 have S2:=s1.trans s2
 refine ite2 (fun c=>?_) (fun cN=>?_)
 ·skip
  refine New.of fun p3 H3 h3 s3 e3=>?_
  have S:=S2.trans s3
  refine q _ _ H3 S (SqT.of e3) ?_
  rw [shN c]
  exact .cons (.str _) (.cons (J2e l) (.cons (.tup (hp.same S) (hu.same S)) .nil))
 refine ite2 (fun c=>?_) (fun cC=>?_)
 ·obtain ⟨d,r,rfl⟩:=Z3q hok (.inl (isC f c))
  obtain ⟨v,vr,rfl,hv,hr'⟩:=hu.inv
  refine ⟨_,hp.same S2,v,ix0,?_⟩
  refine ⟨p,_,rfl,hp.same S2,fun p3 H3 s3 h3=>?_⟩
  rw [cut1] at h3
  refine New.of fun p4 H4 h4 s4 e4=>?_
  have S:=S2.trans (s3.trans s4)
  refine q _ _ H4 S (SqT.of e4) ?_
  cases isC f c
  exact .cons (.str _) (.cons (hv.same S) (.cons (J2e l) (.cons (.tup (h3.same s4) (hr'.same S)) .nil)))
 have cC':¬ f=.call:=fun z=>cC (by rw [z]; rfl)
 refine New.of fun p3 H3 h3 s3 e3=>?_
 refine ⟨_,.inr (SqT.of e3),rfl,rfl,?_⟩
 rw [inF]
 have S3:=S2.trans s3
 refine ite2 (fun c=>?_) (fun cF=>?_)
 ·obtain ⟨d,r,rfl⟩:=Z3q hok (.inr c)
  obtain ⟨v,vr,rfl,hv,hr'⟩:=hu.inv
  refine ⟨_,hp.same S3,v,ix0,?_⟩
  refine New.of fun p4 H4 h4 s4 e4=>?_
  have S4:=S3.trans s4
  refine ⟨p,_,rfl,hp.same S4,fun p5 H5 s5 h5=>?_⟩
  rw [cut1] at h5
  refine ⟨_,_,_,_,rfl,rfl,SqT.of (s5 _ _ e4),h5,by rw [sizeLine_eq]; show 3+vr.length≤_; simp at hus; omega,fun r' H' s' hr=>q r' _ H' (S4.trans (s5.trans s')) hr ?_⟩
  rw [shF c]
  have S:=S4.trans (s5.trans s')
  exact .cons (.str _) (.cons (hv.same S) (.cons (J2e l) (hr'.same S)))
 refine New.of fun p4 H4 h4 s4 e4=>?_
 have S4:=S3.trans s4
 refine ⟨_,_,_,_,rfl,rfl,SqT.of e4,hp.same S4,by rw [sizeLine_eq]; show 2+us.length≤_; omega,fun r H' s' hr=>q r _ H' (S4.trans s') hr ?_⟩
 rw [shR cA cN cC' cF]
 exact .cons (.str _) (.cons (J2e l) (hu.same (S4.trans s')))
end
end K30
end
section
set_option format.width 300
namespace K30
open PySem L2 TM WK
open P15 (Lb Fm Tm dats Z0X okF Ok maxD sumS flatR Bld)
open PW (Vl Wd Hs Pg Sc Wt Ws IxAt Look Chain Z1O Flds Z1W putS Z0Z getS Z0O Two Step Z1P Z0F leaf)
seal L2.PE L2.PA L2.PT L2.PS L2.PSs L2.PG L2.PGs L2.PI L2.PW
inductive Z7Q (K:W.Frag) (vs:List V) (H:Hp) (Q:VK):Prop
 | mk (f:Fm) (l:Lb) (p:Addr) (ws:List V) (ds:List PyData) (a1:vs=[.ref p]) (a2:SqT K H p ws) (a3:RTs K H ws (Z0X f l ds)) (a4:okF f l ds.length) (a5:ds.length≤100) (a6:∀ r us H',Same H H'→SqT K H' r us→RTs K H' us ds→Q (.ref r) H'):Z7Q K vs H Q
def Z4Y (K:W.Frag):Sp:=fun vs H Q _=>Z7Q K vs H Q
inductive Z7A (K:W.Frag) (vs:List V) (H:Hp) (Q:VK):Prop
 | mk (f:Fm) (l:Lb) (p:Addr) (ws:List V) (ds:List PyData) (a1:vs=[.ref p]) (a2:SqT K H p ws) (a3:RTs K H ws (Z0X f l ds)) (a4:okF f l ds.length) (a5:∀ H',Same H H'→Q (lbV l) H'):Z7A K vs H Q
def Z7h (K:W.Frag):Sp:=fun vs H Q _=>Z7A K vs H Q
section
variable {Cl Cs Cq Ck Ct Cw Ch Cp:Addr} {P:Program} {w:World} {K:W.Frag} {mg:Str→Option Value} {base:Heap}
theorem x_hd {f:Fm} {l:Lb} {ds:List PyData} (h:okF f l ds.length):∃ r,Z0X f l ds=.str f.s::r:=by
 by_cases c:f=.call∨isF f=true
 ·obtain ⟨d,r,rfl⟩:=Z3q h c
  rcases c with rfl | c
  ·exact ⟨_,rfl⟩
  ·exact ⟨_,shF c⟩
 ·by_cases cA:isA f=true
  ·exact ⟨_,shA cA⟩
  by_cases cN:isN f=true
  ·exact ⟨_,shN cN⟩
  exact ⟨_,shR cA cN (fun z=>c (.inl z)) (fun z=>c (.inr z))⟩
def isB:Fm→Bool | .nt | .iff=>true | _=>false
def isD:Fm→Bool | .two | .lt=>true | _=>false
def isE:Fm→Bool | .field | .call | .set=>true | _=>false
theorem inB (f:Fm):inV (V.str f.s) [V.str (Str.ofString "not"),V.str (Str.ofString "if")]=isB f:=by cases f <;> decide +kernel
theorem inD (f:Fm):inV (V.str f.s) [V.str (Str.ofString "two"),V.str (Str.ofString "let")]=isD f:=by cases f <;> decide +kernel
theorem inE (f:Fm):inV (V.str f.s) [V.str (Str.ofString "field"),V.str (Str.ofString "call"),V.str (Str.ofString "set")]=isE f:=by cases f <;> decide +kernel
theorem shB {f:Fm} {l:Lb} {ds:List PyData} (h:isB f=true):Z0X f l ds=.str f.s::ds:=by cases f <;> first | rfl | cases h
theorem shD {f:Fm} {l:Lb} {ds:List PyData} (h:isD f=true):Z0X f l ds=.str f.s::l.d::ds:=by cases f <;> first | rfl | cases h
theorem ok0 {f:Fm} {l:Lb} {ds:List PyData} (h:okF f l ds.length) (c1:¬ isB f=true) (c2:¬ isD f=true) (c3:¬ isN f=true) (c4:¬ f=.call) (c5:¬ isF f=true):ds=[]:=by
 cases f <;> cases l <;> first | exact List.length_eq_zero_iff.mp h | exact absurd rfl c1 | exact absurd rfl c2 | exact absurd rfl c3 | exact absurd rfl c4 | exact absurd rfl c5 | cases h
theorem okA {f:Fm} {l:Lb} {n:Nat} (h:okF f l n) (c:isA f=true):l=.non:=by
 cases f <;> cases l <;> first | rfl | (cases c; done) | cases h
theorem cut2 (x y:V) (xs:List V):cutV (x::y::xs) (some 2) none=xs:=by
 rw [show (some (2:Int))=some ((2:Nat):Int) from rfl]
 unfold cutV
 simp [HT.sIx]
theorem cut3 (x y z:V) (xs:List V):cutV (x::y::z::xs) (some 3) none=xs:=by
 rw [show (some (3:Int))=some ((3:Nat):Int) from rfl]
 unfold cutV
 simp [HT.sIx]
theorem J1n (T:Txt K mg Ct Cw Ch Cp Cl Uh9):Has P w K mg base 1 "parts_of" ["plain"] (Z4Y K):=by
 refine Has.of T.f_parts_of sc_parts_of (fun _ _ _ _ _ _ us hl=>el1 us hl fun _=>rfl) (fun vs H Q E h=>?_) (fun f cdv A outer s H vs Q E hr h=>?_)
 ·obtain ⟨f,l,p,us,ds,rfl,_⟩:=h
  rfl
 obtain ⟨f,l,p,ws,ds,rfl,hp,hw,hok,hl,q⟩:=h
 refine ⟨_,(Z0b (Z0q (i:=1) sc_parts_of.nd rfl (Or.inl rfl) (Z0B (r:=Z1Y K) Z0K (pvF 0) Z0f (fun _ _=>rfl)))
  (Z0b (Z1H (Z0y (r:=rIn K false) Z0M (pvF 1) (Z0x (Z0a Z0p (Z0a Z0p Z0d))) (by with_unfolding_all rfl)) (Z0g (Z0r (Z1x (r:=rSlA K) Z3Y (pvF 0) (Z1U Z0f) Z2f))) Z0D)
  (Z0b (Z1H (Z0y (r:=rIn K false) Z0M (pvF 1) (Z0x (Z0a Z0p (Z0a Z0p Z0d))) (by with_unfolding_all rfl)) (Z0g (Z0r (Z1x (r:=rSlA K) Z3Y (pvF 0) (Z1U Z0f) Z2f))) Z0D)
  (Z0b (Z1H (Z0y (r:=rIn K false) Z0M (pvF 1) (Z0x (Z0a Z0p (Z0a Z0p Z0d))) (by with_unfolding_all rfl)) (Z0g (Z0r (Z0B (r:=Z1Y K) Z0K (pvF 0) Z0f (fun _ _=>rfl)))) Z0D)
  (Z0b (Z1H (Z0y Z4W (pvF 1) Z0p (Z1p _)) (Z0g (Z0r (Z0m (r:=Z8j K) Z4l (Z0x (Z0a (Z0B (r:=Z1Y K) Z0K (pvF 0) Z0f (fun _ _=>rfl)) Z0d)) (Z0B (r:=Z1Y K) Z0K (pvF 0) Z0f (fun _ _=>rfl))))) Z0D)
  (Z0b (Z1H (Z0y (r:=rIn K false) Z0M (pvF 1) (Z0x (Z0a Z0p (Z0a Z0p Z0d))) (by with_unfolding_all rfl)) (Z0g (Z0r (Z0m (r:=Z8j K) Z4l (Z0x (Z0a (Z0B (r:=Z1Y K) Z0K (pvF 0) Z0f (fun _ _=>rfl)) Z0d)) (Z1x (r:=rSlA K) Z3Y (pvF 0) (Z1U Z0f) Z2f)))) Z0D)
  (Z0g (Z0r (Z0x Z0d))))))))),?_⟩
 refine seq2 fun uz1 huz1=>?_
 walk_at "rd"
 obtain ⟨r0,er⟩:=x_hd hok
 have hw0:=hw
 rw [er] at hw0
 obtain ⟨v0,wr,rfl,hv0,hwr⟩:=hw0.inv
 cases hv0.str_inv
 refine ⟨_,hp,_,ix0,?_⟩
 subst huz1
 walk_at "rd"
 refine New.of fun p1 H1 h1 s1 e1=>?_
 refine ⟨_,.inr (SqT.of e1),rfl,rfl,?_⟩
 rw [inB]
 refine ite2 (fun c=>?_) (fun cB=>?_)
 ·refine ⟨p,_,rfl,hp.same s1,fun r H' s' hr=>?_⟩
  rw [cut1] at hr
  rw [shB c] at er
  cases er
  exact q r _ H' (s1.trans s') hr (hwr.same (s1.trans s'))
 refine New.of fun p2 H2 h2 s2 e2=>?_
 refine ⟨_,.inr (SqT.of e2),rfl,rfl,?_⟩
 rw [inD]
 have S2:=s1.trans s2
 refine ite2 (fun c=>?_) (fun cD=>?_)
 ·rw [shD c] at er
  cases er
  obtain ⟨v1,wr,rfl,_,hwr⟩:=hwr.inv
  refine ⟨p,_,rfl,hp.same S2,fun r H' s' hr=>?_⟩
  rw [cut2] at hr
  exact q r _ H' (S2.trans s') hr (hwr.same (S2.trans s'))
 refine New.of fun p3 H3 h3 s3 e3=>?_
 refine ⟨_,.inr (SqT.of e3),rfl,rfl,?_⟩
 rw [inN]
 have S3:=S2.trans s3
 refine ite2 (fun c=>?_) (fun cN=>?_)
 ·rw [shN c] at er
  cases er
  obtain ⟨v1,wr,rfl,_,hwr⟩:=hwr.inv
  obtain ⟨v2,wr,rfl,h2,_⟩:=hwr.inv
  obtain ⟨a,us,rfl,ha,hu⟩:=h2.tup_inv
  exact ⟨_,hp.same S3,_,ix2,q a us H3 S3 (ha.same S3) (hu.same S3)⟩
 refine ite2 (fun c=>?_) (fun cC=>?_)
 ·obtain ⟨d,r,rfl⟩:=Z3q hok (.inl (isC f c))
  cases isC f c
  cases er
  obtain ⟨v1,wr,rfl,h1',hwr⟩:=hwr.inv
  obtain ⟨v2,wr,rfl,_,hwr⟩:=hwr.inv
  obtain ⟨v3,wr,rfl,h3',_⟩:=hwr.inv
  obtain ⟨a,us,rfl,ha,hu⟩:=h3'.tup_inv
  refine ⟨_,hp.same S3,_,ix1,?_⟩
  refine New.of fun p4 H4 h4 s4 e4=>?_
  have S4:=S3.trans s4
  refine ⟨_,hp.same S4,_,ix3,_,_,_,_,rfl,rfl,SqT.of e4,ha.same S4,?_,fun r' H' s' hr=>q r' _ H' (S4.trans s') hr (.cons (h1'.same (S4.trans s')) (hu.same (S4.trans s')))⟩
  rw [sizeLine_eq,hu.length]
  simp only [List.length_cons,List.length_nil] at hl ⊢
  omega
 have cC':¬ f=.call:=fun z=>cC (by rw [z]; rfl)
 refine New.of fun p4 H4 h4 s4 e4=>?_
 refine ⟨_,.inr (SqT.of e4),rfl,rfl,?_⟩
 rw [inF]
 have S4:=S3.trans s4
 refine ite2 (fun c=>?_) (fun cF=>?_)
 ·obtain ⟨d,r,rfl⟩:=Z3q hok (.inr c)
  rw [shF c] at er
  cases er
  obtain ⟨v1,wr,rfl,h1',hwr⟩:=hwr.inv
  obtain ⟨v2,wr,rfl,_,hwr⟩:=hwr.inv
  refine ⟨_,hp.same S4,_,ix1,?_⟩
  refine New.of fun p5 H5 h5 s5 e5=>?_
  have S5:=S4.trans s5
  refine ⟨p,_,rfl,hp.same S5,fun p6 H6 s6 h6=>?_⟩
  rw [cut3] at h6
  refine ⟨_,_,_,_,rfl,rfl,SqT.of (s6 _ _ e5),h6,?_,fun r' H' s' hr=>q r' _ H' (S5.trans (s6.trans s')) hr (.cons (h1'.same (S5.trans (s6.trans s'))) (hwr.same (S5.trans (s6.trans s'))))⟩
  rw [sizeLine_eq,hwr.length]
  simp only [List.length_cons,List.length_nil] at hl ⊢
  omega
 refine New.of fun p5 H5 h5 s5 e5=>?_
 cases ok0 hok cB cD cN cC' cF
 exact q _ _ H5 (S4.trans s5) (SqT.of e5) .nil
theorem J0U (T:Txt K mg Ct Cw Ch Cp Cl Uh9):Has P w K mg base 1 "label_of" ["plain"] (Z7h K):=by
 refine Has.of T.f_label_of sc_label_of (fun _ _ _ _ _ _ us hl=>el1 us hl fun _=>rfl) (fun vs H Q E h=>?_) (fun f cdv A outer s H vs Q E hr h=>?_)
 ·obtain ⟨f,l,p,us,ds,rfl,_⟩:=h
  rfl
 obtain ⟨f,l,p,ws,ds,rfl,hp,hw,hok,q⟩:=h
 refine ⟨_,(Z0b (Z0q (i:=1) sc_label_of.nd rfl (Or.inl rfl) (Z0B (r:=Z1Y K) Z0K (pvF 0) Z0f (fun _ _=>rfl)))
  (Z0b (Z1H (Z0y (r:=rIn K false) Z0M (pvF 1) (Z0x (Z0a Z0p (Z0a Z0p (Z0a Z0p Z0d)))) (by with_unfolding_all rfl)) (Z0g (Z0r Z2L)) Z0D)
  (Z0b (Z1H (Z0y (r:=rIn K false) Z0M (pvF 1) (Z0x (Z0a Z0p (Z0a Z0p (Z0a Z0p Z0d)))) (by with_unfolding_all rfl)) (Z0g (Z0r (Z0B (r:=Z1Y K) Z0K (pvF 0) Z0f (fun _ _=>rfl)))) Z0D)
  (Z0g (Z0r (Z0B (r:=Z1Y K) Z0K (pvF 0) Z0f (fun _ _=>rfl))))))),?_⟩
 refine seq2 fun uz1 huz1=>?_
 walk_at "rd"
 obtain ⟨r0,er⟩:=x_hd hok
 have hw0:=hw
 rw [er] at hw0
 obtain ⟨v0,wr,rfl,hv0,hwr⟩:=hw0.inv
 cases hv0.str_inv
 refine ⟨_,hp,_,ix0,?_⟩
 subst huz1
 walk_at "rd"
 refine New.of fun p1 H1 h1 s1 e1=>?_
 refine ⟨_,.inr (SqT.of e1),rfl,rfl,?_⟩
 rw [inA]
 refine ite2 (fun c=>?_) (fun cA=>?_)
 ·cases okA hok c
  exact q H1 s1
 refine New.of fun p2 H2 h2 s2 e2=>?_
 refine ⟨_,.inr (SqT.of e2),rfl,rfl,?_⟩
 rw [inE]
 have S2:=s1.trans s2
 refine ite2 (fun c=>?_) (fun cE=>?_)
 ·have cc:f=.call∨isF f=true:=by cases f <;> first | exact .inl rfl | exact .inr rfl | cases c
  obtain ⟨d,r,rfl⟩:=Z3q hok cc
  have er2:∃ r2,Z0X f l (d::r)=.str f.s::d::l.d::r2:=by
   rcases cc with rfl | cc
   ·exact ⟨_,rfl⟩
   ·exact ⟨_,shF cc⟩
  obtain ⟨r2,er2⟩:=er2
  rw [er2] at er
  cases er
  obtain ⟨v1,wr,rfl,_,hwr⟩:=hwr.inv
  obtain ⟨v2,wr,rfl,h2,_⟩:=hwr.inv
  cases J2H h2
  exact ⟨_,hp.same S2,_,ix2,q H2 S2⟩
 have er2:∃ r2,Z0X f l ds=.str f.s::l.d::r2:=by
  by_cases cN:isN f=true
  ·exact ⟨_,shN cN⟩
  ·refine ⟨_,shR cA cN (fun z=>cE (by rw [z]; rfl)) (fun z=>cE ?_)⟩
   cases f <;> first | rfl | cases z
 obtain ⟨r2,er2⟩:=er2
 rw [er2] at er
 cases er
 obtain ⟨v1,wr,rfl,h1',_⟩:=hwr.inv
 cases J2H h1'
 exact ⟨_,hp.same S2,_,ix1,q H2 S2⟩
end
end K30
end
section
set_option format.width 300
namespace K30
open PySem L2 TM WK
open P15 (Lb Fm Tm dats Z0X okF Ok maxD sumS flatR Bld)
open PW (Vl Wd Hs Pg Sc Wt Ws IxAt Look Chain Z1O Flds Z1W putS Z0Z getS Z0O Two Step Z1P Z0F leaf)
seal L2.PE L2.PA L2.PT L2.PS L2.PSs L2.PG L2.PGs L2.PI L2.PW
inductive Z5T (C:Addr) (K:W.Frag) (vs:List V) (H:Hp) (Q:VK):Prop
 | mk (v:V) (t:Tm) (a1:vs=[v]) (a2:TO K C H v t) (a3:∀ u,RT K H u t.dat→Q u H):Z5T C K vs H Q
def Z3d (C:Addr) (K:W.Frag):Sp:=fun vs H Q _=>Z5T C K vs H Q
inductive Z6h (C:Addr) (K:W.Frag) (vs:List V) (H:Hp) (Q:VK):Prop
 | mk (v:V) (t:Tm) (a1:vs=[v]) (a2:TO K C H v t) (a3:∀ l us,H l=none→TOs K C H us t.ps→Q (.ref l) (upd H l (.lst us))):Z6h C K vs H Q
def Z8R (C:Addr) (K:W.Frag):Sp:=fun vs H Q _=>Z6h C K vs H Q
inductive Z6n (C:Addr) (K:W.Frag) (vs:List V) (H:Hp) (Q:VK):Prop
 | mk (v:V) (t:Tm) (a1:vs=[v]) (a2:TO K C H v t) (a3:Q (.int (t.depth:Nat)) H):Z6n C K vs H Q
def Z6f (C:Addr) (K:W.Frag):Sp:=fun vs H Q _=>Z6n C K vs H Q
inductive Z7J (C:Addr) (K:W.Frag) (vs:List V) (H:Hp) (Q:VK):Prop
 | mk (v:V) (t:Tm) (a1:vs=[v]) (a2:TO K C H v t) (a3:Q (.int (t.size:Nat)) H):Z7J C K vs H Q
def Z6Y (C:Addr) (K:W.Frag):Sp:=fun vs H Q _=>Z7J C K vs H Q
section
variable {Cl Cs Cq Ck Ct Cw Ch Cp:Addr} {P:Program} {w:World} {K:W.Frag} {mg:Str→Option Value} {base:Heap}
theorem Z9i (T:Txt K mg Ct Cw Ch Cp Cl Uh9):HasM P w K mg base 1 Ct "plain" ["self"] (Z3d Ct K):=by
 refine HasM.of T.m_Term_plain Z5j (fun _ _ _ _ _ _ us hl=>el1 us hl fun _=>rfl) (fun vs H Q E h=>?_) (fun f cdv A outer s H vs Q E hr h=>?_)
 ·obtain ⟨v,t,rfl,_⟩:=h
  rfl
 obtain ⟨v,t,rfl,h,q⟩:=h
 refine ⟨_,(Z0g (Z0r (Z0u (pvF 0) rfl))),?_⟩
 walk_at "rd"
 obtain ⟨a,dx,inn,sh,us,ws,rfl,ha,hi,hus,hs,hw⟩:=h.inv
 refine ⟨a,rfl,Ct,dx,_,ha,T.Term.cl,T.n_Term_shape,.ref sh,rfl,q _ ?_⟩
 cases t
 exact .tup hs hw
theorem Z8N (T:Txt K mg Ct Cw Ch Cp Cl Uh9):HasM P w K mg base 1 Ct "parts" ["self"] (Z8R Ct K):=by
 refine HasM.of T.m_Term_parts Z5n (fun _ _ _ _ _ _ us hl=>el1 us hl fun _=>rfl) (fun vs H Q E h=>?_) (fun f cdv A outer s H vs Q E hr h=>?_)
 ·obtain ⟨v,t,rfl,_⟩:=h
  rfl
 obtain ⟨v,t,rfl,h,q⟩:=h
 refine ⟨_,(Z0g (Z0r (Z0z Z3v rfl T.z_list Z8O (Z0a (Z0u (pvF 0) rfl) Z0d)))),?_⟩
 walk_at "rd"
 obtain ⟨a,dx,inn,sh,us,ws,rfl,ha,hi,hus,hs,hw⟩:=h.inv
 exact ⟨a,rfl,Ct,dx,_,ha,T.Term.cl,T.n_Term_inner,.ref inn,rfl,inn,rfl,us,.inr hi,fun l hl=>q l us hl hus⟩
theorem Z9M (T:Txt K mg Ct Cw Ch Cp Cl Uh9):HasM P w K mg base 1 Ct "depth" ["self"] (Z6f Ct K):=by
 refine HasM.of T.m_Term_depth Z5e (fun _ _ _ _ _ _ us hl=>el1 us hl fun _=>rfl) (fun vs H Q E h=>?_) (fun f cdv A outer s H vs Q E hr h=>?_)
 ·obtain ⟨v,t,rfl,_⟩:=h
  rfl
 obtain ⟨v,t,rfl,h,q⟩:=h
 refine ⟨_,(Z0g (Z0r (Z0u (pvF 0) rfl))),?_⟩
 walk_at "rd"
 obtain ⟨a,dx,inn,sh,us,ws,rfl,ha,hi,hus,hs,hw⟩:=h.inv
 exact ⟨a,rfl,Ct,dx,_,ha,T.Term.cl,T.n_Term_deep,.int (t.depth:Nat),rfl,q⟩
theorem J1l (T:Txt K mg Ct Cw Ch Cp Cl Uh9):HasM P w K mg base 1 Ct "size" ["self"] (Z6Y Ct K):=by
 refine HasM.of T.m_Term_size Z5E (fun _ _ _ _ _ _ us hl=>el1 us hl fun _=>rfl) (fun vs H Q E h=>?_) (fun f cdv A outer s H vs Q E hr h=>?_)
 ·obtain ⟨v,t,rfl,_⟩:=h
  rfl
 obtain ⟨v,t,rfl,h,q⟩:=h
 refine ⟨_,(Z0g (Z0r (Z0u (pvF 0) rfl))),?_⟩
 walk_at "rd"
 obtain ⟨a,dx,inn,sh,us,ws,rfl,ha,hi,hus,hs,hw⟩:=h.inv
 exact ⟨a,rfl,Ct,dx,_,ha,T.Term.cl,T.n_Term_many,.int (t.size:Nat),rfl,q⟩
end
end K30
end
section
set_option format.width 300
namespace K30
open PySem L2 TM WK
open P15 (Lb Fm Tm dats Z0X okF Ok maxD sumS flatR Bld)
open PW (Vl Wd Hs Pg Sc Wt Ws IxAt Look Chain Z1O Flds Z1W putS Z0Z getS Z0O Two Step Z1P Z0F leaf)
seal L2.PE L2.PA L2.PT L2.PS L2.PSs L2.PG L2.PGs L2.PI L2.PW
inductive Z7f (C:Addr) (K:W.Frag) (vs:List V) (H:Hp) (Q:VK):Prop
 | mk (x dx p:Addr) (f:Fm) (l:Lb) (us:List V) (ps:List Tm) (a1:vs=[.ref x,.str f.s,lbV l,.ref p]) (a2:H x=some (.ins C dx [])) (a3:SqL K H p us) (a4:TOs K C H us ps) (a5:okF f l ps.length) (a6:ps.length≤100) (a7:∀ H',SX x H H'→TO K C H' (.ref x) (.mk f l ps)→Q .non H'):Z7f C K vs H Q
def Z7j (C:Addr) (K:W.Frag):Sp:=fun vs H Q _=>Z7f C K vs H Q
theorem J5s {ts:List Tm} {m:Int} (h0:ts.map (fun t=>((t.depth:Nat):Int))=[]→m=0) (h1:ts.map (fun t=>((t.depth:Nat):Int))≠[]→Z6C (ts.map fun t=>((t.depth:Nat):Int)) m):m=((maxD ts:Nat):Int):=by
 cases ts with
 | nil=>exact h0 rfl
 | cons t ts=>
  obtain ⟨hm,hle⟩:=h1 (by simp)
  obtain ⟨u,hu,rfl⟩:=List.mem_map.mp hm
  have a:=Z9w hu
  have b:maxD (t::ts)≤u.depth:=Z8K fun v hv=>by
   have:=hle _ (List.mem_map.mpr ⟨v,hv,rfl⟩)
   omega
  omega
theorem J2v:∀ ts:List Tm,(ts.map fun t=>((t.size:Nat):Int)).sum=((sumS ts:Nat):Int)
 | []=>rfl
 | t::ts=>by
  rw [List.map_cons,List.sum_cons,J2v ts]
  show _=((t.size+sumS ts:Nat):Int)
  omega
theorem Z3c {α:Type} {g:α→V} {ts:List α} {vs:List V} (hl:vs.length=ts.length) (h:∀ (j:Nat) v,vs[j]?=some v→∃ t,ts[j]?=some t∧v=g t):vs=ts.map g:=by
 refine List.ext_getElem? fun j=>?_
 rw [List.getElem?_map]
 by_cases hj:j < vs.length
 ·obtain ⟨t,a,b⟩:=h j _ (List.getElem?_eq_getElem hj)
  rw [List.getElem?_eq_getElem hj,a,b]; rfl
 ·rw [List.getElem?_eq_none (by omega),List.getElem?_eq_none (by omega)]; rfl
theorem kpN {H H':Hp} (s:Z4n H H'):Kp H H':=⟨fun b xs h=>s b _ (fun ys z=>by cases z) h,fun b o xs h=>s b _ (fun ys z=>by cases z) h,fun b C dx f fs h=>s b _ (fun ys z=>by cases z) h⟩
theorem J2O {K:W.Frag} {H:Hp}:∀ {ts:List Tm} {vs:List V},vs.length=ts.length→(∀ (j:Nat) v,vs[j]?=some v→∃ t,ts[j]?=some t∧RT K H v t.dat)→RTs K H vs (dats ts)
 | [],[],_,_=>.nil
 | t::ts,v::vs,e,h=>by
  obtain ⟨t',a,b⟩:=h 0 v rfl
  cases a
  exact .cons b (J2O (Nat.succ.inj e) fun j u hu=>h (j+1) u hu)
section
variable {Cl Cs Cq Ck Ct Cw Ch Cp:Addr} {P:Program} {w:World} {K:W.Frag} {mg:Str→Option Value} {base:Heap}
theorem J1C (T:Txt K mg Ct Cw Ch Cp Cl Uh9) (h_shape_of:Has P w K mg base 1 "shape_of" ["form","label","parts"] (Z7r K)) (h_Term_plain:HasM P w K mg base 1 Ct "plain" ["self"] (Z3d Ct K)) (h_Term_depth:HasM P w K mg base 1 Ct "depth" ["self"] (Z6f Ct K)) (h_Term_size:HasM P w K mg base 1 Ct "size" ["self"] (Z6Y Ct K)) :
  HasM P w K mg base 2 Ct "__init__" ["self","form","label","parts"] (Z7j Ct K):=by
 refine HasM.of T.m_Term___init__ Z3x (fun _ _ _ _ _ _ us hl=>el4 us hl fun _ _ _ _=>rfl) (fun vs H Q E h=>?_) (fun f cdv A outer s H vs Q E hr h=>?_)
 ·obtain ⟨x,dx,p,f,l,us,ps,rfl,_⟩:=h
  rfl
 obtain ⟨x,dx,p,f,l,us,ps,rfl,hx,hp,hu,hok,hl,q⟩:=h
 refine ⟨_,(Z0b (Z0U (pvF 0) (pvF 1) rfl)
  (Z0b (Z0U (pvF 0) (pvF 2) rfl)
  (Z0b (Z0U (pvF 0) (Z0z Z0t rfl T.z_tuple Z1e (Z0a (pvF 3) Z0d)) rfl)
  (Z0b (Z0U (pvF 0) (Z0m Z0I Z0f (J3h rfl rfl T.z_max J5Z (Z0a (Z0W rfl (BlockOk.plain (N:=["part"]) rfl (by decide +kernel) (by decide +kernel) (by decide +kernel)) (Z2u (Z0u (pvF 0) rfl))
     (fun C fp s H=>(Z0l (i:=0) (show (["part"]:List Str).Nodup by decide +kernel) rfl (Or.inl rfl)))
     (fun C fp s H=>(Z1D (pvF 0) T.Term.cl h_Term_depth hr (by decide)))) Z0d) (J4p Z0f J5P))) rfl)
  (Z0b (Z0U (pvF 0) (Z0m Z0I Z0f (Z2d (J1G rfl) rfl T.z_sum J5U (Z0a (Z0W rfl (BlockOk.plain (N:=["part"]) rfl (by decide +kernel) (by decide +kernel) (by decide +kernel)) (Z2u (Z0u (pvF 0) rfl))
     (fun C fp s H=>(Z0l (i:=0) (show (["part"]:List Str).Nodup by decide +kernel) rfl (Or.inl rfl)))
     (fun C fp s H=>(Z1D (pvF 0) T.Term.cl h_Term_size hr (by decide)))) Z0d))) rfl)
  (Z0g (Z0U (pvF 0) (Z0v h_shape_of hr (by decide) rfl (Z0a (pvF 1) (Z0a (pvF 2) (Z0a (Z0z Z0t rfl T.z_tuple Z1e (Z0a (Z0W rfl (BlockOk.plain (N:=["part"]) rfl (by decide +kernel) (by decide +kernel) (by decide +kernel)) (Z2u (Z0u (pvF 0) rfl))
     (fun C fp s H=>(Z0l (i:=0) (show (["part"]:List Str).Nodup by decide +kernel) rfl (Or.inl rfl)))
     (fun C fp s H=>(Z1D (pvF 0) T.Term.cl h_Term_plain hr (by decide)))) Z0d)) Z0d)))) rfl))))))),?_⟩
 refine seq6 fun uz5 huz5 uz4 huz4 uz3 huz3 uz2 huz2 uz1 huz1=>?_
 walk_at "rd"
 refine ⟨Ct,dx,_,hx,T.Term.cl,T.n_Term_form,Nat.lt_of_sub_eq_succ rfl,?_⟩
 subst huz1
 walk_at "rd"
 refine ⟨Ct,dx,_,Z0e,T.Term.cl,T.n_Term_label,Nat.lt_of_sub_eq_succ rfl,?_⟩
 subst huz2
 walk_at "rd"
 have S1:SX x H (upd (upd H x (.ins Ct dx (putF "form" (.str f.s) []))) x (.ins Ct dx (putF "label" (lbV l) (putF "form" (.str f.s) [])))):=(SX.put _).trans (SX.put _)
 have X1:upd (upd H x (.ins Ct dx (putF "form" (.str f.s) []))) x (.ins Ct dx (putF "label" (lbV l) (putF "form" (.str f.s) []))) x=some (.ins Ct dx (putF "label" (lbV l) (putF "form" (.str f.s) []))):=Z0e
 generalize upd (upd H x (.ins Ct dx (putF "form" (.str f.s) []))) x (.ins Ct dx (putF "label" (lbV l) (putF "form" (.str f.s) [])))=H1 at *
 refine ⟨us,.inl ⟨S1.sqL hx hp,fun inn hinn=>?_⟩⟩
 have nx:inn≠x:=fun z=>Z0j X1 hinn z.symm
 have s2:=Z0n hinn (.tup us)
 refine ⟨Ct,dx,_,s2 _ _ X1,T.Term.cl,T.n_Term_inner,Nat.lt_of_sub_eq_succ rfl,?_⟩
 have S2:SX x H (upd (upd H1 inn (.tup us)) x (.ins Ct dx (putF "inner" (.ref inn) (putF "label" (lbV l) (putF "form" (.str f.s) []))))):=S1.trans ((SX.of s2).trans (SX.put _))
 have X2:upd (upd H1 inn (.tup us)) x (.ins Ct dx (putF "inner" (.ref inn) (putF "label" (lbV l) (putF "form" (.str f.s) [])))) x=some (.ins Ct dx (putF "inner" (.ref inn) (putF "label" (lbV l) (putF "form" (.str f.s) [])))):=Z0e
 have I2:upd (upd H1 inn (.tup us)) x (.ins Ct dx (putF "inner" (.ref inn) (putF "label" (lbV l) (putF "form" (.str f.s) [])))) inn=some (.tup us):=by rw [Z0h nx]; exact Z0e
 clear s2 hinn X1 S1
 generalize upd (upd H1 inn (.tup us)) x (.ins Ct dx (putF "inner" (.ref inn) (putF "label" (lbV l) (putF "form" (.str f.s) []))))=H2 at *
 have hus:us.length=ps.length:=hu.length
 have U2:TOs K Ct H2 us ps:=hu.kp (S2.kp hx)
 subst huz3
 walk_at "rd"
 refine ⟨Ct,dx,_,X2,T.Term.cl,T.n_Term_inner,.ref inn,rfl,inn,rfl,⟨_,SqT.of I2⟩,fun D hD=>?_⟩
 refine Z0S (ys:=us) none [] (fun j v H=>∃ t,ps[j]?=some t∧v=.int ((t.depth:Nat):Int)) (fun _ _ _ _ h _=>h) rfl hD (by rw [sizeLine_eq]; omega) (fun H1 s=>SqT.of (s _ _ I2)) (fun i y hy H1 K' s k=>?_) (fun vs Ha Sa hv lv hR=>?_)
 ·walk_at "rd"
  obtain ⟨t,ht,hto⟩:=U2.at hy
  have hto:=hto.kp (Kp.of s)
  obtain ⟨a,dx',inn',sh',us',ws',rfl,ha,_⟩:=hto.inv
  exact ⟨a,rfl,dx',_,ha,rfl,_,t,rfl,hto,k _ _ (Same.refl _) ⟨t,ht,rfl⟩⟩
 cases Z3c (g:=fun t:Tm=>V.int ((t.depth:Nat):Int)) (lv.trans hus) hR
 refine ⟨D,rfl,ps.map fun t=>((t.depth:Nat):Int),by rw [List.map_map]; exact SqL.of hv,fun m m0 m1=>?_⟩
 cases J5s m0 m1
 refine ⟨Ct,dx,_,Sa _ _ X2,T.Term.cl,T.n_Term_deep,Nat.lt_of_sub_eq_succ rfl,?_⟩
 have S3:SX x H2 (upd Ha x (.ins Ct dx (putF "deep" (.int (1+((maxD ps:Nat):Int))) (putF "inner" (.ref inn) (putF "label" (lbV l) (putF "form" (.str f.s) [])))))):=(SX.of Sa).trans (SX.put _)
 have X3:upd Ha x (.ins Ct dx (putF "deep" (.int (1+((maxD ps:Nat):Int))) (putF "inner" (.ref inn) (putF "label" (lbV l) (putF "form" (.str f.s) []))))) x=some (.ins Ct dx (putF "deep" (.int (1+((maxD ps:Nat):Int))) (putF "inner" (.ref inn) (putF "label" (lbV l) (putF "form" (.str f.s) []))))):=Z0e
 clear hv hR hD Sa
 generalize upd Ha x (.ins Ct dx (putF "deep" (.int (1+((maxD ps:Nat):Int))) (putF "inner" (.ref inn) (putF "label" (lbV l) (putF "form" (.str f.s) [])))))=H3 at *
 have I3:=S3 _ _ nx I2
 have U3:TOs K Ct H3 us ps:=hu.kp ((S2.trans S3).kp hx)
 subst huz4
 walk_at "rd"
 refine ⟨Ct,dx,_,X3,T.Term.cl,T.n_Term_inner,.ref inn,rfl,inn,rfl,⟨_,SqT.of I3⟩,fun D hD=>?_⟩
 refine Z0S (ys:=us) none [] (fun j v H=>∃ t,ps[j]?=some t∧v=.int ((t.size:Nat):Int)) (fun _ _ _ _ h _=>h) rfl hD (by rw [sizeLine_eq]; omega) (fun H1 s=>SqT.of (s _ _ I3)) (fun i y hy H1 K' s k=>?_) (fun vs Hb Sb hv lv hR=>?_)
 ·walk_at "rd"
  obtain ⟨t,ht,hto⟩:=U3.at hy
  have hto:=hto.kp (Kp.of s)
  obtain ⟨a,dx',inn',sh',us',ws',rfl,ha,_⟩:=hto.inv
  exact ⟨a,rfl,dx',_,ha,rfl,_,t,rfl,hto,k _ _ (Same.refl _) ⟨t,ht,rfl⟩⟩
 cases Z3c (g:=fun t:Tm=>V.int ((t.size:Nat):Int)) (lv.trans hus) hR
 refine ⟨D,rfl,ps.map (fun t=>((t.size:Nat):Int)),by rw [List.map_map]; exact SqL.of hv,?_⟩
 rw [J2v]
 refine ⟨Ct,dx,_,Sb _ _ X3,T.Term.cl,T.n_Term_many,Nat.lt_of_sub_eq_succ rfl,?_⟩
 have S4:SX x H3 (upd Hb x (.ins Ct dx (putF "many" (.int (1+((sumS ps:Nat):Int))) (putF "deep" (.int (1+((maxD ps:Nat):Int))) (putF "inner" (.ref inn) (putF "label" (lbV l) (putF "form" (.str f.s) []))))))):=(SX.of Sb).trans (SX.put _)
 have X4:upd Hb x (.ins Ct dx (putF "many" (.int (1+((sumS ps:Nat):Int))) (putF "deep" (.int (1+((maxD ps:Nat):Int))) (putF "inner" (.ref inn) (putF "label" (lbV l) (putF "form" (.str f.s) [])))))) x=some (.ins Ct dx (putF "many" (.int (1+((sumS ps:Nat):Int))) (putF "deep" (.int (1+((maxD ps:Nat):Int))) (putF "inner" (.ref inn) (putF "label" (lbV l) (putF "form" (.str f.s) [])))))):=Z0e
 clear hv hR hD Sb
 generalize upd Hb x (.ins Ct dx (putF "many" (.int (1+((sumS ps:Nat):Int))) (putF "deep" (.int (1+((maxD ps:Nat):Int))) (putF "inner" (.ref inn) (putF "label" (lbV l) (putF "form" (.str f.s) []))))))=H4 at *
 have I4:=S4 _ _ nx I3
 have S04:SX x H H4:=S2.trans (S3.trans S4)
 have U4:TOs K Ct H4 us ps:=hu.kp (S04.kp hx)
 subst huz5
 walk_at "rd"
 refine ⟨Ct,dx,_,X4,T.Term.cl,T.n_Term_inner,.ref inn,rfl,inn,rfl,⟨_,SqT.of I4⟩,fun D hD=>?_⟩
 refine Z0S (ys:=us) none [] (fun j v H=>∃ t,ps[j]?=some t∧RT K H v t.dat) (fun j v H1 H2 ⟨t,a,b⟩ s=>⟨t,a,b.kp (kpN s)⟩) rfl hD (by rw [sizeLine_eq]; omega) (fun H1 s=>SqT.of (s _ _ I4)) (fun i y hy H1 K' s k=>?_) (fun vs Hc Sc hv lv hR=>?_)
 ·walk_at "rd"
  obtain ⟨t,ht,hto⟩:=U4.at hy
  have hto:=hto.kp (Kp.of s)
  obtain ⟨a,dx',inn',sh',us',ws',rfl,ha,_⟩:=hto.inv
  exact ⟨a,rfl,dx',_,ha,rfl,_,t,rfl,hto,fun u hu'=>k _ _ (Same.refl _) ⟨t,ht,hu'⟩⟩
 have hd:=J2O (lv.trans hus) hR
 refine ⟨D,rfl,vs,.inl ⟨SqL.of hv,fun t5 h5=>?_⟩⟩
 have s5:=Z0n h5 (.tup vs)
 refine ⟨f,l,t5,vs,dats ps,rfl,SqT.of Z0e,hd.same s5,by rw [Z1f]; exact hok,by rw [Z1f]; exact hl,fun r ws H6 s6 hr hw=>?_⟩
 refine ⟨Ct,dx,_,s6 _ _ (s5 _ _ (Sc _ _ X4)),T.Term.cl,T.n_Term_shape,Nat.lt_of_sub_eq_succ rfl,?_⟩
 have S6:SX x H4 H6:=SX.of (Sc.trans (s5.trans s6))
 have X6:=S6
 have S7:SX x H6 (upd H6 x (.ins Ct dx (putF "shape" (.ref r) (putF "many" (.int (1+((sumS ps:Nat):Int))) (putF "deep" (.int (1+((maxD ps:Nat):Int))) (putF "inner" (.ref inn) (putF "label" (lbV l) (putF "form" (.str f.s) [])))))))):=SX.put _
 have x6:=s6 _ _ (s5 _ _ (Sc _ _ X4))
 have k6:Kp H (upd H6 x (.ins Ct dx (putF "shape" (.ref r) (putF "many" (.int (1+((sumS ps:Nat):Int))) (putF "deep" (.int (1+((maxD ps:Nat):Int))) (putF "inner" (.ref inn) (putF "label" (lbV l) (putF "form" (.str f.s) [])))))))):=(S04.trans (S6.trans S7)).kp hx
 refine q _ (S04.trans (S6.trans S7)) ?_
 have e:((putF "shape" (.ref r) (putF "many" (.int (1+((sumS ps:Nat):Int))) (putF "deep" (.int (1+((maxD ps:Nat):Int))) (putF "inner" (.ref inn) (putF "label" (lbV l) (putF "form" (.str f.s) [])))))):List (Str×V))=fsT f l inn r (1+maxD ps) (1+sumS ps):=by
  unfold fsT
  rw [Int.natCast_add,Int.natCast_add]
  rfl
 have x7:upd H6 x (.ins Ct dx (putF "shape" (.ref r) (putF "many" (.int (1+((sumS ps:Nat):Int))) (putF "deep" (.int (1+((maxD ps:Nat):Int))) (putF "inner" (.ref inn) (putF "label" (lbV l) (putF "form" (.str f.s) []))))))) x=some (.ins Ct dx (fsT f l inn r (1+maxD ps) (1+sumS ps))):=by rw [Z0e,e]
 refine .mk x7 (SqT.of (S7 _ _ nx (S6 _ _ nx I4))) (hu.kp k6) (S7.sqT x6 hr) ?_
 exact hw.kt (Kt.put _ x6 (fun _ z=>by cases z) (fun _ _ z=>by cases z))
end
end K30
end
section
set_option format.width 300
namespace K30
open PySem L2 TM WK
open P15 (Lb Fm Tm dats Z0X okF Ok maxD sumS flatR Bld)
open PW (Vl Wd Hs Pg Sc Wt Ws IxAt Look Chain Z1O Flds Z1W putS Z0Z getS Z0O Two Step Z1P Z0F leaf)
seal L2.PE L2.PA L2.PT L2.PS L2.PSs L2.PG L2.PGs L2.PI L2.PW
inductive Z5M (K:W.Frag) (vs:List V) (H:Hp) (Q:VK):Prop
 | mk (v:V) (t:Tm) (a1:vs=[v]) (a2:RT K H v t.dat) (a3:Ok t) (a4:t.flat.length≤100) (a5:∀ l us H',Same H H'→H l=none→H' l=some (.lst us)→RTs K H' us (dats t.flat)→Q (.ref l) H'):Z5M K vs H Q
def Z6l (K:W.Frag):Sp:=fun vs H Q _=>Z5M K vs H Q
theorem Z5H {K:W.Frag} {H:Hp}:∀ {ds es:List PyData} {vs:List V},RTs K H vs (ds++es)→∃ xs ys,vs=xs++ys∧RTs K H xs ds∧RTs K H ys es
 | [],es,vs,h=>⟨[],vs,rfl,.nil,h⟩
 | d::ds,es,_,.cons a b=>by
  obtain ⟨xs,ys,rfl,h1,h2⟩:=Z5H b
  exact ⟨_::xs,ys,rfl,.cons a h1,h2⟩
theorem Z4g:∀ ts:List Tm,ts.length≤(flatR ts).length
 | []=>Nat.le_refl _
 | .mk f l ps::ts=>by
  show ts.length+1≤(flatR ts++(Tm.mk f l ps::flatR ps)).length
  rw [List.length_append,List.length_cons]
  have:=Z4g ts
  omega
theorem J0w (t:Tm):flatR [t]=t::flatR t.ps:=by
 cases t
 rfl
noncomputable def WI (K:W.Frag) (H0:Hp) (t:Tm) (v:V) (p1 p2:Addr) (m:Nat) (σ:St) (H':Hp):Prop:=∃ us vs w B o3,Same H0 H'∧H' p1=some (.lst us)∧RTs K H' us (dats w)∧H' p2=some (.lst vs)∧RTs K H' vs (dats B)∧t.flat=w++flatR B∧m=(flatR B).length∧(∀ x∈B,Ok x)∧σ=[some v,some (.ref p1),some (.ref p2),o3]
section
variable {Cl Cs Cq Ck Ct Cw Ch Cp:Addr} {P:Program} {w:World} {K:W.Frag} {mg:Str→Option Value} {base:Heap}
theorem Z9v (T:Txt K mg Ct Cw Ch Cp Cl Uh9) (h_parts_of:Has P w K mg base 1 "parts_of" ["plain"] (Z4Y K)):Has P w K mg base 2 "all_within" ["plain"] (Z6l K):=by
 refine Has.of T.f_all_within sc_all_within (fun _ _ _ _ _ _ us hl=>el1 us hl fun _=>rfl) (fun vs H Q E h=>?_) (fun f cdv A outer s H vs Q E hr h=>?_)
 ·obtain ⟨v,t,rfl,_⟩:=h
  rfl
 obtain ⟨v,t,rfl,hv,ok,hz,q⟩:=h
 refine ⟨_,(Z0b (Z0q (i:=1) sc_all_within.nd rfl (Or.inl rfl) (Z1h Z0d))
  (Z0b (Z0q (i:=2) sc_all_within.nd rfl (Or.inl rfl) (Z1h (Z0a (pvF 0) Z0d)))
  (Z0b (Z5l PassesOwn.never (J4v (pvF 2) (fun _=>rfl)) (Z0b (Z0q (i:=3) sc_all_within.nd rfl (Or.inl rfl) (J2E PySem.F.plainAttrs_list PySem.F.slot_list_pop PySem.F.type_list_pop J2t (pvF 2)))
  (Z0b (Z2r (Z3C PySem.F.plainAttrs_list PySem.F.slot_list_append PySem.F.type_list_append Z1j (pvF 1) (Z0a (pvF 3) Z0d)))
  (Z0g (Z2r (Z3C (r:=Z4S K) PySem.F.plainAttrs_list PySem.F.slot_list_extend PySem.F.type_list_extend Z8o (pvF 2) (Z0a (Z0v h_parts_of hr (by decide) rfl (Z0a (pvF 3) Z0d)) Z0d)))))))
  (Z0g (Z0r (pvF 1)))))),?_⟩
 refine seq4 fun uz3 huz3 uz2 huz2 uz1 huz1=>?_
 walk_at "rd"
 refine New.of fun p1 H1 h1 s1 e1=>?_
 subst huz1
 walk_at "rd"
 refine New.of fun p2 H2 h2 s2 e2=>?_
 subst huz2
 walk_at "rd"
 refine J4j (WI K H t v p1 p2) ⟨[],[v],[],[t],none,s1.trans s2,s2 _ _ e1,.nil,e2,.cons (hv.same (s1.trans s2)) .nil,?_,rfl,fun x hx=>by rw [List.mem_singleton.mp hx]; exact ok,rfl⟩ (fun m σ H' h=>?_) Z9D
 ·show t.flat=[]++([]++t.flat)
  rfl
 obtain ⟨us,vs,w,B,o3,S,h1',hu,h2',hB,hf,hm,hok,rfl⟩:=h
 walk_at "rd"
 have n12:p1≠p2:=Z0j e1 h2
 have n1:H p1=none:=h1
 have n2:H p2=none:=s1.free h2
 have hul:us.length≤100:=by
  rw [hu.length,Z1f]
  have:=congrArg List.length hf
  rw [List.length_append] at this
  omega
 refine ⟨vs,SqL.of h2',?_⟩
 cases hBl:B.length with
 | zero=>
  cases List.length_eq_zero_iff.mp hBl
  cases hB.nil_inv
  refine ite2 (fun z=>by cases z) (fun _=>?_)
  subst huz3
  walk_at "rd"
  refine q p1 us H' S n1 h1' ?_
  rw [hf,show flatR ([]:List Tm)=[] from rfl,List.append_nil]
  exact hu
 | succ n=>
  obtain ⟨B,b,rfl,_⟩:=P15.Z6t hBl
  rw [Z3f] at hB
  obtain ⟨vs,ys,rfl,hB1,hy⟩:=Z5H hB
  obtain ⟨u,r0,rfl,hu',hr0⟩:=hy.inv
  cases hr0.nil_inv
  have obk:=hok b (by simp)
  obtain ⟨f,l,ps⟩:=b
  obtain ⟨of,op⟩:okF f l ps.length∧∀ p∈ps,Ok p:=by cases obk with | mk a b=>exact ⟨a,b⟩
  obtain ⟨a,ws,rfl,hq,hw⟩:=hu'.tup_inv
  rw [P15.Z3e,J0w] at hf hm
  have hpl:ps.length≤100:=by
   have hf':t.flat=w++(Tm.mk f l ps::flatR ps++flatR B):=hf
   have:=congrArg List.length hf'
   simp only [List.length_append,List.length_cons] at this
   have:=Z4g ps
   omega
  refine ite2 (fun _=>?_) (fun z=>absurd (by cases vs <;> rfl) z)
  refine ⟨.inl ⟨rfl,_,SqL.of h2'⟩,_,h2',.ref a,by simp,?_⟩
  rw [List.dropLast_concat]
  have g1:upd H' p2 (.lst vs) p1=some (.lst us):=by rw [Z0h n12]; exact h1'
  have g2:upd (upd H' p2 (.lst vs)) p1 (.lst (us++[.ref a])) p2=some (.lst vs):=by rw [Z0h n12.symm]; exact Z0e
  have k2:Kp H' (upd (upd H' p2 (.lst vs)) p1 (.lst (us++[.ref a]))):=(Kp.lst _ h2').trans (Kp.lst _ g1)
  refine ⟨.inl ⟨rfl,_,SqL.of g1⟩,us,g1,by omega,.inl ⟨rfl,_,SqL.of g2⟩,f,l,a,ws,dats ps,rfl,SqT.kp hq k2,hw.kp k2,by rw [Z1f]; exact of,by rw [Z1f]; exact hpl,fun r us2 H5 s5 hr hus2=>?_⟩
  have hvl:vs.length≤100:=by
   rw [hB1.length,Z1f]
   have:=congrArg List.length hf
   simp only [List.length_append,List.length_cons] at this
   have:=Z4g B
   omega
  have g5:=s5 _ _ g2
  have k5:Kp H' (upd H5 p2 (.lst (vs++us2))):=k2.trans ((Kp.of s5).trans (Kp.lst _ g5))
  refine ⟨r,rfl,vs,g5,us2,hr,by rw [hus2.length,Z1f]; omega,(flatR (B++ps)).length,?_,us++[.ref a],vs++us2,w++[.mk f l ps],B++ps,_,fun b o hb=>?_,?_,?_,Z0e,?_,?_,rfl,fun x hx=>?_,rfl⟩
  ·rw [hm,P15.Z3e]
   exact Nat.lt_succ_self _
  ·rw [Z0h (Z0j hb n2)]
   refine s5 _ _ ?_
   rw [Z0h (Z0j hb n1),Z0h (Z0j hb n2)]
   exact S _ _ hb
  ·rw [Z0h n12]; exact s5 _ _ Z0e
  ·rw [Z3f]
   exact (hu.kp k5).app (.cons (.tup (SqT.kp hq k5) (hw.kp k5)) .nil)
  ·rw [Z3f]
   exact (hB1.kp k5).app (hus2.kp (Kp.lst _ g5))
  ·rw [P15.Z3e,List.append_assoc]
   exact hf
  ·rcases List.mem_append.mp hx with hx | hx
   ·exact hok x (List.mem_append_left _ hx)
   ·exact op x hx
end
end K30
end
section
set_option format.width 300
namespace K30
open PySem L2 TM WK
open P15 (Lb Fm Tm dats Z0X okF Ok maxD sumS flatR Bld)
open PW (Vl Wd Hs Pg Sc Wt Ws IxAt Look Chain Z1O Flds Z1W putS Z0Z getS Z0O Two Step Z1P Z0F leaf)
seal L2.PE L2.PA L2.PT L2.PS L2.PSs L2.PG L2.PGs L2.PI L2.PW
inductive Z6g (C:Addr) (K:W.Frag) (vs:List V) (H:Hp) (Q:VK):Prop
 | mk (v:V) (t:Tm) (a1:vs=[v]) (a2:RT K H v t.dat) (a3:Ok t) (a4:t.flat.length≤100) (a5:∀ u H',Same H H'→TO K C H' u t→Q u H'):Z6g C K vs H Q
def Z5P (C:Addr) (K:W.Frag):Sp:=fun vs H Q _=>Z6g C K vs H Q
theorem SX.kpl {x:Addr} {xs:List V} {H H':Hp} (s:SX x H H') (hx:H x=some (.lst xs)):Kp H H':=
 ⟨fun b xs h=>s b _ (fun z=>by rw [z,hx] at h; cases h) h,fun b o xs h=>s b _ (fun z=>by rw [z,hx] at h; cases h) h,fun b C dx f fs h=>s b _ (fun z=>by rw [z,hx] at h; cases h) h⟩
theorem Z6Z:∀ ts:List Tm,dats ts.reverse=(dats ts).reverse
 | []=>rfl
 | t::ts=>by rw [List.reverse_cons,Z3f,Z6Z]; show _=(t.dat::dats ts).reverse; rw [List.reverse_cons]; rfl
theorem Z8W {K:W.Frag} {H:Hp}:∀ {vs:List V} {ds:List PyData},RTs K H vs ds→RTs K H vs.reverse ds.reverse
 | _,_,.nil=>.nil
 | _,_,.cons a b=>by rw [List.reverse_cons,List.reverse_cons]; exact (Z8W b).app (.cons a .nil)
mutual
theorem Z9P:∀ (t:Tm),Ok t→∀ x∈t.flat,Ok x
 | .mk f l ps,h,x,hx=>by
  rcases List.mem_cons.mp hx with rfl | hx
  ·exact h
  ·cases h with
   | mk a b=>exact flats_ok ps b x hx
theorem flats_ok:∀ (ts:List Tm),(∀ p∈ts,Ok p)→∀ x∈flatR ts,Ok x
 | t::ts,h,x,hx=>by
  rcases (List.mem_append.mp hx) with hx | hx
  ·exact flats_ok ts (fun p hp=>h p (List.mem_cons_of_mem _ hp)) x hx
  ·exact Z9P t (h t List.mem_cons_self) x hx
end
theorem J3a {α:Type} {xs:List α} {y:α}:(xs++[y])[(xs++[y]).length - 1]?=some y:=by simp
theorem J3z {w S:List Tm} (h:Bld w S):S.length≤w.length:=by
 induction h with
 | nil=>exact Nat.le_refl _
 | snoc _ ih=>
  rw [List.length_append] at ih ⊢
  rw [List.length_append]
  show _+1≤_+1
  omega
noncomputable def FI (K:W.Frag) (C:Addr) (H2:Hp) (t:Tm) (v:V) (p1:Addr) (i:Nat) (σ:St) (H':Hp):Prop:=∃ os S o2 o3,SX p1 H2 H'∧H' p1=some (.lst os)∧Bld (t.flat.reverse.take i) S∧TM.TOs K C H' os S∧σ=[some v,some (.ref p1),o2,o3]
section
variable {Cl Cs Cq Ck Ct Cw Ch Cp:Addr} {P:Program} {w:World} {K:W.Frag} {mg:Str→Option Value} {base:Heap}
theorem Z8T (T:Txt K mg Ct Cw Ch Cp Cl Uh9) (h_parts_of:Has P w K mg base 1 "parts_of" ["plain"] (Z4Y K)) (h_label_of:Has P w K mg base 1 "label_of" ["plain"] (Z7h K)) (h_all_within:Has P w K mg base 2 "all_within" ["plain"] (Z6l K)) (h_Term___init__:HasM P w K mg base 2 Ct "__init__" ["self","form","label","parts"] (Z7j Ct K)) :
    Has P w K mg base 4 "term_of" ["plain"] (Z5P Ct K):=by
  refine Has.of T.f_term_of sc_term_of (fun _ _ _ _ _ _ us hl=>el1 us hl fun _=>rfl) (fun vs H Q E h=>?_) (fun f cdv A outer s H vs Q E hr h=>?_)
  · obtain ⟨v,t,rfl,_⟩:=h
    rfl
  obtain ⟨v,t,rfl,hv,ok,hz,q⟩:=h
  refine ⟨_,(Z0b (Z0q (i:=1) sc_term_of.nd rfl (Or.inr rfl) (Z1h Z0d))
    (Z0b (Z2v PassesOwn.never rfl (J6m rfl T.z_reversed Z6x (Z0a (Z0v h_all_within hr (by decide) rfl (Z0a (pvF 0) Z0d)) Z0d)) (Z0l (i:=2) sc_term_of.nd rfl (Or.inl rfl)) (Z0b (Z1n rfl sc_term_of.nd (i:=3) rfl rfl (BlockOk.of (N:=["part","built"]) (nl:=[none,some 1]) (cl:=[("built",s.heap.objs.size+1)]) rfl (by decide +kernel) (by decide +kernel) rfl (sub1 rfl) (nm:=["built"]) rfl (by decide +kernel) rfl (fun i hi j hj=>by
            match i,hi with
            | 0,_=>cases hj
             | 1,_=>cases hj; exact ⟨_,rfl,rfl,rfl,.inl rfl⟩
            )) (Z2u (Z0v h_parts_of hr (by decide) rfl (Z0a (pvF 2) Z0d)))
          (fun C fp s H=>(Z0l (i:=0) (show (["part","built"]:List Str).Nodup by decide +kernel) rfl (Or.inl rfl)))
          (fun C fp s H=>(show PE _ _ (tBM0 K "list" rPop _) from J2E PySem.F.plainAttrs_list PySem.F.slot_list_pop PySem.F.type_list_pop J2t (pvF 1))))
    (Z0g (Z2r (Z3C PySem.F.plainAttrs_list PySem.F.slot_list_append PySem.F.type_list_append Z1j (pvF 1) (Z0a (Z5Y T.Term h_Term___init__ hr (by decide) rfl (Z0a (Z0B (r:=Z1Y K) Z0K (pvF 2) Z0f (fun _ _=>rfl)) (Z0a (Z0v h_label_of hr (by decide) rfl (Z0a (pvF 2) Z0d)) (Z0a (J4h rfl rfl rfl T.z_list T.z_reversed (Z0a (pvF 3) Z0d)) Z0d)))) Z0d))))))
    (Z0g (Z0r (Z0B (r:=Z1o K) Z0s (pvF 1) Z0f (fun _ _=>rfl)))))),?_⟩
  refine seq3 fun uz2 huz2 uz1 huz1=>?_
  walk_at "rd"
  refine New.of fun p1 H1 h1 s1 e1=>?_
  subst huz1
  walk_at "rd"
  refine ⟨v,t,rfl,hv.same s1,ok,hz,fun a us H2 s2 hna ha hus=>⟨a,rfl,us,SqL.of ha,?_⟩⟩
  have e2:=s2 _ _ e1
  have nap:a≠p1:=fun z=>Z0j e1 hna z.symm
  have full:Bld t.flat.reverse [t]:=P15.Bld.flat t (w:=[]) (B:=[]) .nil
  have hlen:us.length=t.flat.length:=by rw [hus.length,Z1f]
  refine J1P us (FI K Ct H2 t v p1) ⟨[],[],none,none,fun _ _ _ h=>h,e2,.nil,.nil,rfl⟩ (fun i σ H' _ h=>?_) (fun i x σ H' hx h=>?_) (fun σ H' h=>?_)
  · obtain ⟨os,S,o2,o3,sx,_⟩:=h
    exact SqL.of (sx _ _ nap ha)
  · obtain ⟨os,S,o2,o3,sx,hp,hb,ho,rfl⟩:=h
    have kp:=SX.kpl sx e2
    have hi:i < us.length:=by
      have:=(List.getElem?_eq_some_iff.mp hx).1
      rwa [List.length_reverse] at this
    have hrx:=(Z8W hus).kp kp
    rw [← Z6Z] at hrx
    obtain ⟨d,hd,hrx⟩:=hrx.at hx
    obtain ⟨y,hy,rfl⟩:=Z9d hd
    obtain ⟨C,rfl,hb'⟩:=full.next hy hb
    have oky:=Z9P t ok y (List.mem_reverse.mp (List.mem_of_getElem? hy))
    obtain ⟨f,l,ps⟩:=y
    obtain ⟨of,op⟩:okF f l ps.length∧∀ p∈ps,Ok p:=by cases oky with | mk a b=>exact ⟨a,b⟩
    obtain ⟨xa,ws,rfl,hq,hw⟩:=hrx.tup_inv
    have hSl:=J3z hb
    have hpl:ps.length≤100∧C.length≤100:=by
      rw [List.length_append,List.length_take] at hSl
      have:(Tm.mk f l ps).ps.length=ps.length:=rfl
      omega
    obtain ⟨osC,osP,rfl,hoC,hoP⟩:=TM.TOs.split ho
    have lP:osP.length=ps.length:=hoP.length
    have lC:osC.length=C.length:=hoC.length
    walk_at "rd"
    refine ⟨f,l,xa,ws,dats ps,rfl,hq,hw,by rw [Z1f]; exact of,by rw [Z1f]; exact hpl.1,fun r us2 H3 s3 hr hus2=>⟨r,rfl,⟨_,hr⟩,fun D hD=>?_⟩⟩
    have lu2:us2.length=ps.length:=by rw [hus2.length,Z1f]
    have hp3:=s3 _ _ hp
    have nDp:D≠p1:=fun z=>Z0j hp3 hD z.symm
    have sq:∀ {H4:Hp},(∀ b o,b≠p1→b≠D→H3 b=some o→H4 b=some o)→Kp H3 H4:=fun h=>⟨fun b xs e=>h b _ (fun z=>by rw [z,hp3] at e; cases e) (fun z=>by rw [z,hD] at e; cases e) e,fun b o xs e=>h b _ (fun z=>by rw [z,hp3] at e; cases e) (fun z=>by rw [z,hD] at e; cases e) e,fun b C dx f fs e=>h b _ (fun z=>by rw [z,hp3] at e; cases e) (fun z=>by rw [z,hD] at e; cases e) e⟩
    refine Z5c (n:=ps.length) none [some (.ref p1)] (fun _ _=>True) (fun j vs H4=>H4 p1=some (.lst (osC++osP.take (ps.length - j)))∧vs=(osP.drop (ps.length - j)).reverse∧∀ b o,b≠p1→b≠D→H3 b=some o→H4 b=some o) rfl (by rw [sizeLine_eq]; omega) ⟨?_,?_,fun b o _ nb h=>?_⟩ (fun j vs H4 hj hW=>?_) (fun vs H4 hW=>?_) (fun j x vs H4 K' hj _ hW hD4 k=>?_) (fun vs H4 hW hD4 hl=>?_)
    · rw [Z0h nDp.symm,Nat.sub_zero,List.take_of_length_le (by omega)]; exact hp3
    · rw [Nat.sub_zero,List.drop_of_length_le (by omega)]; rfl
    · rw [Z0h nb]; exact h
    · exact ⟨⟨us2,us2[j],SqT.kp hr (sq hW.2.2),List.getElem?_eq_getElem (by omega)⟩,fun x H2 hy=>⟨hy.1,trivial⟩⟩
    · exact ⟨us2,SqT.kp hr (sq hW.2.2),by omega⟩
    · obtain ⟨g1,rfl,g3⟩:=hW
      obtain ⟨m,em⟩:∃ m,ps.length - j=m+1:=⟨ps.length - j - 1,by omega⟩
      have em':ps.length - (j+1)=m:=by omega
      have hm:m < osP.length:=by omega
      rw [em] at g1 hD4 k
      rw [List.take_succ_eq_append_getElem hm,← List.append_assoc] at g1
      walk_at "rd"
      refine ⟨.inl ⟨rfl,_,SqL.of g1⟩,_,g1,osP[m],J3a,?_⟩
      rw [List.dropLast_concat]
      refine k _ _ (by rw [Z0h nDp]; exact hD4) ⟨?_,?_,fun b o nb nb' h=>?_⟩
      · rw [Z0h nDp.symm,em']; exact Z0e
      · rw [em',List.drop_eq_getElem_cons hm,List.reverse_cons]
      · rw [Z0h nb',Z0h nb]; exact g3 b o nb nb' h
    · obtain ⟨g1,rfl,g3⟩:=hW
      rw [Nat.sub_self,List.take_zero,List.append_nil] at g1
      rw [Nat.sub_self,List.drop_zero] at hD4
      have k4:Kp H' H4:=(Kp.of s3).trans (sq g3)
      have of':okF f l (dats ps).length:=by rw [Z1f]; exact of
      obtain ⟨r0,er⟩:=x_hd of'
      have hw':=hw
      rw [er] at hw'
      obtain ⟨v0,wr,rfl,hv0,_⟩:=hw'.inv
      cases hv0.str_inv
      refine ⟨.inl ⟨rfl,_,SqL.of g1⟩,_,SqT.kp hq k4,_,ix0,f,l,xa,_,dats ps,rfl,SqT.kp hq k4,hw.kp k4,of',fun H5 s5=>?_⟩
      refine ⟨D,rfl,_,SqL.of (s5 _ _ hD4),fun li hli x5 dx hx5 hdx ne5=>?_⟩
      rw [List.reverse_reverse] at hx5 hdx ⊢
      have sa:=Z0n hli (.lst osP)
      have sb:=Z0n hdx (.own x5)
      have sc:=Z0n (show upd (upd H5 li (.lst osP)) dx (.own x5) x5=none by rw [Z0h (fun z=>ne5 z.symm)]; exact hx5) (.ins Ct dx [])
      have S5:Same H4 (upd (upd (upd H5 li (.lst osP)) dx (.own x5)) x5 (.ins Ct dx [])):=s5.trans (sa.trans (sb.trans sc))
      have hp5:=sa _ _ (s5 _ _ g1)
      refine ⟨x5,dx,li,f,l,osP,ps,rfl,Z0e,SqL.of (sc _ _ (sb _ _ Z0e)),hoP.kp (k4.trans (Kp.of S5)),of,hpl.1,fun H6 sx6 hto=>⟨rfl,osC,sx6 _ _ (Z0j hp5 hx5) (S5 _ _ g1),by rw [lC]; omega,?_⟩⟩
      have g6:=sx6 _ _ (Z0j hp5 hx5) (S5 _ _ g1)
      have k6:Kp H' (upd H6 p1 (.lst (osC++[.ref x5]))):=k4.trans ((Kp.of S5).trans ((SX.kp sx6 Z0e).trans (Kp.lst _ g6)))
      refine ⟨_,_,_,_,fun b o nb h=>?_,Z0e,hb',(hoC.kp k6).app (.cons (hto.kp (Kp.lst _ g6)) .nil),rfl⟩
      rw [Z0h nb]
      have h4:=g3 b o nb (fun z=>Z0j (s3 _ _ (sx _ _ nb h)) hD z) (s3 _ _ (sx _ _ nb h))
      exact sx6 _ _ (Z0j (sa _ _ (s5 _ _ h4)) hx5) (S5 _ _ h4)
  · obtain ⟨os,S,o2,o3,sx,hp,hb,ho,rfl⟩:=h
    subst huz2
    walk_at "rd"
    rw [hlen,List.take_of_length_le (by rw [List.length_reverse]; exact Nat.le_refl _)] at hb
    cases P15.Bld.det rfl hb full
    cases ho with
    | cons a b=>
      refine ⟨_,SqL.of hp,_,ix0,q _ H' (fun b o hb=>?_) a⟩
      exact sx _ _ (Z0j hb h1) ((s1.trans s2) _ _ hb)
end
end K30
end
section
set_option format.width 300
namespace K30
open PySem L2 TM WK
open P15 (Lb Fm Tm dats Z0X okF Ok maxD sumS flatR Bld)
open PW (Vl Wd Hs Pg Sc Wt Ws IxAt Look Chain Z1O Flds Z1W putS Z0Z getS Z0O Two Step Z1P Z0F leaf)
seal L2.PE L2.PA L2.PT L2.PS L2.PSs L2.PG L2.PGs L2.PI L2.PW
open P23 (ElOk Z4L)
inductive Z7n (K:W.Frag) (vs:List V) (H:Hp) (Q:VK):Prop
 | mk (a:Addr) (ns:List Int) (k:Nat) (a1:vs=[.ref a,.int (k:Int)]) (a2:SqL K H a (ns.map V.int)) (a3:k≤1000000) (a4:∀ r,r=Z4L ns k→0≤r→r < 2147483647→Q (.int r) H):Z7n K vs H Q
def Z2H (K:W.Frag):Sp:=fun vs H Q _=>Z7n K vs H Q
inductive Z7P (K:W.Frag) (tb:Addr) (vs:List V) (H:Hp) (Q:VK):Prop
 | mk (a:Addr) (ns:List Int) (m:Nat) (a1:vs=[.ref a,.int (m:Int)]) (a2:SqL K H a (ns.map V.int)) (a3:m < 64) (a4:H tb=some (.tbl #[])) (a5:∀ H' l (p:List Nat),SX tb H H'→H l=none→H' l=some (.lst (p.map fun i=>V.int ((i:Nat):Int)))→p.Perm (List.range m)→Q (.ref l) H'):Z7P K tb vs H Q
def Z7g (K:W.Frag) (tb:Addr):Sp:=fun vs H Q _=>Z7P K tb vs H Q
noncomputable def oV:Option Nat→V
 | none=>.non
 | some n=>.int (n:Int)
inductive J0o (K:W.Frag) (vs:List V) (H:Hp) (Q:VK):Prop
 | mk (r:Int) (nl:Addr) (ns:List Str) (a1:vs=[.int r,.ref nl]) (a2:H nl=some (.lst (ns.map V.str))) (a3:ns.length≤100) (a4:∀ x H',x∈[("number":Str),"truth"]++ns++ns→Same H H'→Q (.str x) H'):J0o K vs H Q
def Z5v (K:W.Frag):Sp:=fun vs H Q _=>J0o K vs H Q
inductive Z4G (K:W.Frag) (vs:List V) (H:Hp) (Q:VK):Prop
 | mk (a:Addr) (ns:List Int) (l:Addr) (p:List Nat) (a1:vs=[.ref a,.ref l]) (a2:SqL K H a (ns.map V.int)) (a3:H l=some (.lst (p.map fun i=>V.int ((i:Nat):Int)))) (a4:p.Perm (List.range p.length)) (a5:0 < p.length) (a6:p.length < 64) (a7:∀ H' fl es,Same H H'→H fl=none→H' fl=some (.lst (es.map oV))→es.length=p.length→ElOk p p.length es→Q (.ref fl) H'):Z4G K vs H Q
def Z4x (K:W.Frag):Sp:=fun vs H Q _=>Z4G K vs H Q
theorem Z5i {α:Type} {x:α}:∀ {r:Nat},(List.replicate r [x]).flatten=List.replicate r x
 | 0=>rfl
 | r+1=>by rw [List.replicate_succ,List.flatten_cons,Z5i,List.replicate_succ]; rfl
theorem Z3M {H H':Hp} {x:Addr} (s:Same H H') (h:H' x=none):H x=none:=by
 cases e:H x with
 | none=>rfl
 | some o=>rw [s x o e] at h; cases h
theorem Z4i {n j:Nat} (h:j < n):ixN n (j:Int)=some j:=by
 unfold ixN
 rw [if_pos (by omega),if_pos (by omega),Int.toNat_natCast]
theorem Z1m {H H':Hp} {a:Addr} {o:HO} (s:Same H H') (n:H a=none):Same H (upd H' a o):=fun b u hb=>by rw [Z0h (Z0j hb n)]; exact s _ _ hb
theorem J5Q {K:W.Frag} {H H':Hp} {a tb:Addr} {xs:List V} {ps:Array Value} (s:SX tb H H') (ht:H tb=some (.tbl ps)) (h:SqL K H a xs):SqL K H' a xs:=by
 rcases h with h | h
 ·refine .inl ?_
  rcases h with h | ⟨o,h⟩
  ·exact .inl (s _ _ (Z3V h ht (fun z=>by cases z)) h)
  ·exact .inr ⟨o,s _ _ (Z3V h ht (fun z=>by cases z)) h⟩
 ·exact .inr h
section
variable {Uh9 Cl Cs Cq Ck Ct Cw Ch Cp:Addr} {P:Program} {w:World} {K:W.Frag} {mg:Str→Option Value} {base:Heap} {B:Hp}
theorem J1N (T:Txt K mg Ct Cw Ch Cp Cl Uh9):Has P w K mg base 1 "_law_drawn" ["_law_script","_law_k"] (Z2H K):=by
 refine Has.of T.f__law_drawn sc__law_drawn (fun _ _ _ _ _ _ us hl=>el2 us hl fun _ _=>rfl) (fun vs H Q E h=>?_) (fun f cdv A outer s H vs Q E hr h=>?_)
 ·obtain ⟨a,ns,k,rfl,_⟩:=h
  rfl
 obtain ⟨a,ns,k,rfl,sq,hk,q⟩:=h
 refine ⟨_,(Z0b (Z0q (i:=2) sc__law_drawn.nd rfl (Or.inl rfl) Z0f)
  (Z0b (Z1H (Z0y J3r (Z2d Z1K rfl T.z_len Z5V (Z0a (pvF 0) Z0d)) Z0f (Z1p _)) (Z0g (Z0q (i:=2) sc__law_drawn.nd rfl (Or.inl rfl) (Z0B (r:=Z1o K) Z0s (pvF 0) (Z0m Z0H (pvF 1) (Z2d Z1K rfl T.z_len Z5V (Z0a (pvF 0) Z0d))) (fun _ _=>rfl)))) Z0D)
  (Z0g (Z0r (Z0m Z0H (Z0m Z0I (Z0m Z2q (pvF 2) (Z0m Z0I Z0f (Z0m Z2q Z0f (pvF 1)))) (Z0m Z2q (Z0m Z0I (Z0m Z2q (pvF 1) (pvF 1)) Z0f) Z0f)) Z0f))))),?_⟩
 refine seq3 fun uz2 huz2 uz1 huz1=>?_
 walk_at "rd"
 have fin:∀ c:Int,c=ns.getD (k % ns.length) 0→uz2 { nx:=fun x H'=>Q V.non H',rt:=Q } [some (V.ref a),some (V.int ↑k),some (V.int c)] H:=by
  intro c hc
  subst huz2
  walk_at "rd"
  exact ⟨.inr ⟨by omega,by omega⟩,.inl ⟨by omega,by omega⟩,q _ (by rw [hc]; rfl) (Int.emod_nonneg _ (by decide)) (Int.emod_lt_of_pos _ (by decide))⟩
 subst huz1
 walk_at "rd"
 refine ⟨_,.inl sq,ite2 (fun z=>?_) (fun z=>fin 0 (by rw [List.length_map] at z; cases ns with | nil=>rfl | cons _ _=>exact absurd (by rw [List.length_cons]; omega) z))⟩
 rw [List.length_map] at z
 refine ⟨_,.inl sq,by rw [List.length_map]; exact z,?_⟩
 rw [List.length_map]
 have hlt:k % ns.length < ns.length:=Nat.mod_lt _ (by omega)
 rw [show ((k:Int) % (ns.length:Int))=((k % ns.length:Nat):Int) from rfl]
 exact ⟨_,sq,_,Z0C (show (ns.map V.int)[k % ns.length]?=some (.int ns[k % ns.length]) by rw [List.getElem?_map,List.getElem?_eq_getElem hlt]; rfl),fin _ (by rw [P23.Z1u hlt])⟩
theorem J1U (T:Txt K mg Ct Cw Ch Cp Cl Uh9) {tb:Addr} (F:FnT K mg "_law_order" Z0N tb) (hB:BAt mg base) (h__law_drawn:Has P w K mg base 1 "_law_drawn" ["_law_script","_law_k"] (Z2H K)):Has P w K mg base 5 "_law_order" ["_law_script","_law_many"] (Z7g K tb):=by
  refine Has.ofT F Z5g (fun _ _ _ _ _ _ us hl=>el2 us hl fun _ _=>rfl) (fun vs H Q E h=>?_) (fun f c A outer s H vs Q E hC hr h=>?_)
  · obtain ⟨a,ns,m,rfl,_⟩:=h
    rfl
  obtain ⟨a,ns,m,rfl,sq,hm,htb,q⟩:=h
  refine ⟨_,(Z0g (Z0r (J2d rfl hr (by decide) hB rfl hC rfl rfl T.z_sorted T.z_range rfl (Z0a (pvF 1) Z0d) (BlockOk.of (N:=["_law_j","_law_script"]) (nl:=[none,some 0]) (cl:=[("_law_script",s.heap.objs.size+1)]) rfl (by decide +kernel) (by decide +kernel) rfl (sub1 rfl) (nm:=["_law_script"]) rfl (by decide +kernel) rfl (fun i hi j hj=>by
            match i,hi with
            | 0,_=>cases hj
             | 1,_=>cases hj; exact ⟨_,rfl,rfl,rfl,.inl rfl⟩
            )) rfl (by decide +kernel) rfl rfl rfl (fun _ _ _ _ _=>rfl) (fun _ _ s H=>(Z0x (Z0a (Z0m Z1b (Z0v h__law_drawn (hr.in1.in1.deeper _) (by decide) rfl (Z0a (pvF 1) (Z0a (Z0m Z0I Z0f (pvF 0)) Z0d))) Z0f) (Z0a (pvF 0) Z0d))))))),?_⟩
  walk_at "rd"
  refine ⟨m,rfl,hm,htb,fun ps=>⟨fun i H3 hi s3=>?_,fun H3 l p s3 hl hp=>?_⟩⟩
  · have sx:SX tb H H3:=(SX.put _).trans (SX.of s3)
    exact ⟨a,ns,10+i,by rw [Int.natCast_add]; rfl,J5Q sx htb sq,by omega,fun r rz r0 r1=>⟨r,rfl,New.of fun p H2 h2 s2 e2=>⟨s2,_,_,e2⟩⟩⟩
  · have hlt:l≠tb:=fun z=>by rw [z,s3 tb _ Z0e] at hl; cases hl
    have hl0:H l=none:=by
      cases e:H l with
      | none=>rfl
      | some o=>rw [s3 l o (by rw [Z0h hlt]; exact e)] at hl; cases hl
    refine q _ l p (fun b o nb hb=>?_) hl0 Z0e hp
    rw [Z0h (Z0j hb hl0)]
    exact s3 _ _ (by rw [Z0h nb]; exact hb)
theorem J3g (T:Txt K mg Ct Cw Ch Cp Cl Uh9):Has P w K mg base 1 "_law_kind" ["_law_number","_law_names"] (Z5v K):=by
 refine Has.of T.f__law_kind Z5Q (fun _ _ _ _ _ _ us hl=>el2 us hl fun _ _=>rfl) (fun vs H Q E h=>?_) (fun f cdv A outer s H vs Q E hr h=>?_)
 ·obtain ⟨r,nl,ns,rfl,_⟩:=h
  rfl
 obtain ⟨r,nl,ns,rfl,sq,hl,q⟩:=h
 refine ⟨_,(Z0g (Z0r (Z0B (r:=Z1o K) Z0s (Z0m Z3a (Z0m Z3a (Z1h (Z0a Z0p (Z0a Z0p Z0d))) (pvF 1)) (pvF 1)) (Z0m Z0H (pvF 0) (Z0m Z0I Z0f (Z0m Z2q Z0f (Z2d Z1K rfl T.z_len Z5V (Z0a (pvF 1) Z0d))))) (fun _ _=>rfl)))),?_⟩
 walk_at "rd"
 refine New.of fun p1 H1 h1 s1 e1=>⟨_,e1,_,s1 _ _ sq,by rw [List.length_map]; show 2+_≤_; omega,New.of fun p2 H2 h2 s2 e2=>⟨_,e2,_,s2 _ _ (s1 _ _ sq),by rw [List.length_append,List.length_map]; show 2+_+_≤_; omega,New.of fun p3 H3 h3 s3 e3=>?_⟩⟩
 have S:=s1.trans (s2.trans s3)
 refine ⟨_,.inl (SqL.of (S _ _ sq)),by omega,?_⟩
 rw [List.length_map]
 have e4:[V.str (Str.ofString "number"),V.str (Str.ofString "truth")]++ns.map V.str++ns.map V.str=([(Str.ofString "number"),(Str.ofString "truth")]++ns++ns).map V.str:=by rw [List.map_append,List.map_append]; rfl
 rw [e4] at e3
 have m0:=Int.emod_nonneg r (show (2+2 * (ns.length:Int))≠0 by omega)
 have m1:=Int.emod_lt_of_pos r (show 0 < (2+2 * (ns.length:Int)) by omega)
 obtain ⟨j,hj⟩:∃ j:Nat,r % (2+2 * (ns.length:Int))=(j:Int):=⟨(r % (2+2 * (ns.length:Int))).toNat,by omega⟩
 rw [hj] at m1 ⊢
 have hlt:j < ([(Str.ofString "number"),(Str.ofString "truth")]++ns++ns).length:=by
  rw [List.length_append,List.length_append]; show j < 2+ns.length+ns.length; omega
 exact ⟨_,SqL.of e3,_,Z0C (show (([(Str.ofString "number"),(Str.ofString "truth")]++ns++ns).map V.str)[j]?=some (.str _) by rw [List.getElem?_map,List.getElem?_eq_getElem hlt]; rfl),q _ _ (List.getElem_mem hlt) S⟩
noncomputable def EDI (H:Hp) (a l fl:Addr) (p:List Nat) (i:Nat) (σ:St) (H':Hp):Prop:=∃ (es:List (Option Nat)) (o3 o4:Option V),Same H H'∧H' fl=some (.lst (es.map oV))∧es.length=p.length∧ElOk p (i+1) es∧σ=[some (.ref a),some (.ref l),some (.ref fl),o3,o4]
theorem Z4a (T:Txt K mg Ct Cw Ch Cp Cl Uh9) (h__law_drawn:Has P w K mg base 1 "_law_drawn" ["_law_script","_law_k"] (Z2H K)):Has P w K mg base 2 "_law_elders_drawn" ["_law_script","_law_order_here"] (Z4x K):=by
 refine Has.of T.f__law_elders_drawn sc__law_elders_drawn (fun _ _ _ _ _ _ us hl=>el2 us hl fun _ _=>rfl) (fun vs H Q E h=>?_) (fun f cdv A outer s H vs Q E hr h=>?_)
 ·obtain ⟨a,ns,l,p,rfl,_⟩:=h
  rfl
 obtain ⟨a,ns,l,p,rfl,sq,hl,hp,h0,hm,q⟩:=h
 refine ⟨_,(Z0b (Z0q (i:=2) sc__law_elders_drawn.nd rfl (Or.inl rfl) (Z0m J2V (Z1h (Z0a Z2L Z0d)) (Z2d Z1K rfl T.z_len Z5V (Z0a (pvF 1) Z0d))))
  (Z0b (Z2v PassesOwn.never rfl (Z8S rfl T.z_range (Z0a Z0f (Z0a (Z2d Z1K rfl T.z_len Z5V (Z0a (pvF 1) Z0d)) Z0d))) (Z0l (i:=3) sc__law_elders_drawn.nd rfl (Or.inl rfl)) (Z0b (Z0q (i:=4) sc__law_elders_drawn.nd rfl (Or.inl rfl) (Z0v h__law_drawn hr (by decide) rfl (Z0a (pvF 0) (Z0a (Z0m Z0I Z0f (pvF 3)) Z0d))))
  (Z0g (Z1H (Z0y J3r (Z0m Z0H (pvF 4) Z0f) Z0f (Z1p _)) (Z0g (Z2M (Z0B (r:=Z1o K) Z0s (pvF 1) (Z0m J6h (pvF 3) Z0f) (fun _ _=>rfl)) (Z4D (pvF 2) (Z0B (r:=Z1o K) Z0s (pvF 1) (pvF 3) (fun _ _=>rfl)) Z2o))) (Z0g (Z1H (Z0y J3r (Z0m Z0H (pvF 4) Z0f) Z0f (Z1p _)) (Z0g (Z2M (Z0B (r:=Z1o K) Z0s (pvF 1) (Z0m Z0H (Z0m Z1b (pvF 4) Z0f) (pvF 3)) (fun _ _=>rfl)) (Z4D (pvF 2) (Z0B (r:=Z1o K) Z0s (pvF 1) (pvF 3) (fun _ _=>rfl)) Z2o))) Z0D))))))
  (Z0g (Z0r (pvF 2))))),?_⟩
 refine seq3 fun uz2 huz2 uz1 huz1=>?_
 walk_at "rd"
 refine New.of fun p1 H1 h1 s1 e1=>⟨_,.inl (SqL.of (s1 _ _ hl)),_,e1,by omega,by rw [List.length_map]; omega,by rw [List.length_map]; show 1 * _≤_; omega,fun fl h2=>?_⟩
 have efl:(List.replicate (((p.map fun i=>V.int ((i:Nat):Int)).length:Nat):Int).toNat [V.non]).flatten=(List.replicate p.length (none:Option Nat)).map oV:=by
  rw [List.length_map,Int.toNat_natCast,List.map_replicate]
  exact Z5i
 rw [efl]
 have s2:=Z0n h2 (.lst ((List.replicate p.length (none:Option Nat)).map oV))
 have e2:upd H1 fl (.lst ((List.replicate p.length (none:Option Nat)).map oV)) fl=some (.lst ((List.replicate p.length (none:Option Nat)).map oV)):=Z0e
 have S2:=s1.trans s2
 have hfl:H fl=none:=Z3M s1 h2
 generalize upd H1 fl (.lst ((List.replicate p.length (none:Option Nat)).map oV))=H2 at *
 subst huz1
 walk_at "rd"
 refine ⟨_,.inl (SqL.of (S2 _ _ hl)),by omega,by rw [List.length_map]; omega,?_⟩
 rw [List.length_map,show ((p.length:Int) - 1).toNat=p.length - 1 by omega]
 refine Z2F (EDI H a l fl p) ⟨_,none,none,S2,e2,List.length_replicate,fun j e hj=>?_,rfl⟩ (fun i σ H' hi hI=>?_) (fun σ H' hI=>?_)
 ·rw [List.getElem?_replicate] at hj
  split at hj <;> cases hj
 ·obtain ⟨es,o3,o4,sI,hfl',les,hel,rfl⟩:=hI
  have hl':=sI _ _ hl
  have hpl:1+i < p.length:=by omega
  have hpb:p[i+1]?=some p[i+1]:=List.getElem?_eq_getElem (by omega)
  have hlt:p[i+1] < p.length:=List.mem_range.mp (hp.mem_iff.mp (List.getElem_mem _))
  have at1:atI (p.map fun i=>V.int ((i:Nat):Int)) (1+(i:Int))=some (.int ((p[i+1]:Nat):Int)):=by
   rw [show (1+(i:Int))=((i+1:Nat):Int) by omega]
   exact Z0C (by rw [List.getElem?_map,hpb]; rfl)
  have mono:ElOk p (i+1+1) es:=fun j e hj=>by
   obtain ⟨x,y,h1,h2,h3,h4⟩:=hel j e hj
   exact ⟨x,y,h1,by omega,h3,h4⟩
  have setp:∀ (o4:Option V) (x ea:Nat),x < i+1→p[x]?=some ea→SetL fl ((p[i+1]:Nat):Int) H' fun xs j=>EDI H a l fl p (i+1) [some (.ref a),some (.ref l),some (.ref fl),some (.int (1+(i:Int))),o4] (upd H' fl (.lst (xs.set j (.int ((ea:Nat):Int))))):=by
   intro o4 x ea hx hxe
   refine ⟨_,hfl',p[i+1],Z4i (by rw [List.length_map,les]; exact hlt),es.set p[i+1] (some ea),_,_,Z1m sI hfl,?_,by rw [List.length_set,les],fun j e hj=>?_,rfl⟩
   ·rw [List.map_set]; exact Z0e
   ·rw [List.getElem?_set] at hj
    split at hj
    ·rename_i hjj
     split at hj
     ·cases hj
      exact ⟨x,i+1,hx,by omega,by rw [← hjj]; exact hpb,hxe⟩
     ·cases hj
    ·exact mono j e hj
  walk_at "rd"
  refine ⟨a,ns,30+(1+i),by rw [Int.natCast_add,Int.natCast_add]; rfl,sq.same sI,by omega,fun r rz r0 r1=>⟨r,rfl,?_⟩⟩
  refine ite2 (fun _=>?_) (fun _=>⟨r,rfl,ite2 (fun _=>⟨r,rfl,by omega,?_⟩) (fun _=>⟨es,_,_,sI,hfl',les,mono,rfl⟩)⟩)
  ·have hpa:p[i]?=some p[i]:=List.getElem?_eq_getElem (by omega)
   refine ⟨_,SqL.of hl',.int ((p[i]:Nat):Int),?_,_,SqL.of hl',_,at1,_,rfl,setp _ i p[i] (by omega) hpa⟩
   rw [show (1+(i:Int) - 1)=((i:Nat):Int) by omega]
   exact Z0C (by rw [List.getElem?_map,hpa]; rfl)
  ·have m0:=Int.emod_nonneg (r / 5) (show (1+(i:Int))≠0 by omega)
   have m1:=Int.emod_lt_of_pos (r / 5) (show 0 < (1+(i:Int)) by omega)
   obtain ⟨x,hx⟩:∃ x:Nat,r / 5 % (1+(i:Int))=(x:Int):=⟨(r / 5 % (1+(i:Int))).toNat,by omega⟩
   rw [hx] at m1 ⊢
   have hpa:p[x]?=some p[x]:=List.getElem?_eq_getElem (by omega)
   exact ⟨_,SqL.of hl',.int ((p[x]:Nat):Int),Z0C (by rw [List.getElem?_map,hpa]; rfl),_,SqL.of hl',_,at1,_,rfl,setp _ x p[x] (by omega) hpa⟩
 ·obtain ⟨es,o3,o4,sI,hfl',les,hel,rfl⟩:=hI
  subst huz2
  walk_at "rd"
  rw [show p.length - 1+1=p.length by omega] at hel
  exact q _ _ _ sI hfl hfl' les hel
end
end K30
end
section
set_option format.width 300
namespace K30
open PySem L2 TM WK
open P15 (Lb Fm Tm dats Z0X okF Ok maxD sumS flatR Bld)
open PW (Vl Wd Hs Pg Sc Wt Ws IxAt Look Chain Z1O Flds Z1W putS Z0Z getS Z0O Two Step Z1P Z0F leaf)
seal L2.PE L2.PA L2.PT L2.PS L2.PSs L2.PG L2.PGs L2.PI L2.PW
inductive Z7C (K:W.Frag) (vs:List V) (H:Hp) (Q:VK):Prop
 | mk (v:V) (ps:List (Str×Str)) (a1:vs=[v]) (a2:RT K H v (pairsD ps)) (a3:ps.length≤100) (a4:∀ r H',Same H H'→RT K H' (.ref r) (pairsD ps)→Q (.ref r) H'):Z7C K vs H Q
def Z5f (K:W.Frag):Sp:=fun vs H Q _=>Z7C K vs H Q
inductive Z7l (c:CS) (K:W.Frag) (vs:List V) (H:Hp) (Q:VK):Prop
 | mk (x dx:Addr) (pp bv:V) (d:Wd) (a1:vs=[.ref x,.str d.name,pp,.str d.kind,bv]) (a2:H x=some (.ins c.word dx [])) (a3:RT K H pp (pairsD d.params)) (a4:d.params.length≤100) (a5:TO K c.term H bv d.body) (a6:∀ H',SX x H H'→WdO K c H' (.ref x) d→Q .non H'):Z7l c K vs H Q
def Z7m (c:CS) (K:W.Frag):Sp:=fun vs H Q _=>Z7l c K vs H Q
inductive Z7i (c:CS) (K:W.Frag) (vs:List V) (H:Hp) (Q:VK):Prop
 | mk (x dx wl:Addr) (fv:V) (ws:List V) (d:Hs) (a1:vs=[.ref x,.str d.name,oS d.elder,fv,.ref wl]) (a2:H x=some (.ins c.house dx [])) (a3:RT K H fv (pairsD d.fields)) (a4:d.fields.length≤100) (a5:SqL K H wl ws) (a6:A2 (WdO K c H) ws d.words) (a7:∀ H',SX x H H'→HsO K c H' (.ref x) d→Q .non H'):Z7i c K vs H Q
def Z7I (c:CS) (K:W.Frag):Sp:=fun vs H Q _=>Z7i c K vs H Q
inductive Z6T (c:CS) (K:W.Frag) (vs:List V) (H:Hp) (Q:VK):Prop
 | mk (x dx hl:Addr) (mv:V) (hs:List V) (d:Pg) (a1:vs=[.ref x,.ref hl,mv]) (a2:H x=some (.ins c.program dx [])) (a3:SqL K H hl hs) (a4:A2 (HsO K c H) hs d.houses) (a5:WdO K c H mv d.main) (a6:∀ H',SX x H H'→PgO K c H' (.ref x) d→Q .non H'):Z6T c K vs H Q
def Z7t (c:CS) (K:W.Frag):Sp:=fun vs H Q _=>Z6T c K vs H Q
theorem SX.ktf {x C dx:Addr} {fs:List (Str×V)} {H H':Hp} (s:SX x H H') (hx:H x=some (.ins C dx fs)):Kt H H':=
 ⟨fun b xs h=>s b _ (fun z=>by rw [z,hx] at h; cases h) h,fun b o xs h=>s b _ (fun z=>by rw [z,hx] at h; cases h) h⟩
theorem WdO.kp {K:W.Frag} {c:CS} {H H':Hp} {v:V} {d:Wd} (h:WdO K c H v d) (k:Kp H H'):WdO K c H' v d:=by
 cases h with
 | mk a b t=>exact .mk (k.i _ _ _ _ _ a) (b.kp k) (t.kp k)
theorem HsO.kp {K:W.Frag} {c:CS} {H H':Hp} {v:V} {d:Hs} (h:HsO K c H v d) (k:Kp H H'):HsO K c H' v d:=by
 cases h with
 | mk a b q t=>exact .mk (k.i _ _ _ _ _ a) (b.kp k) (SqT.kp q k) (t.mono fun _ _ r=>WdO.kp r k)
theorem Z3Z {α:Type} {K:W.Frag} {H:Hp} (f:α→PyData):∀ {ts:List α} {vs:List V},vs.length=ts.length→(∀ (j:Nat) v,vs[j]?=some v→∃ t,ts[j]?=some t∧RT K H v (f t))→RTs K H vs (ts.map f)
 | [],[],_,_=>.nil
 | t::ts,v::vs,e,h=>by
  obtain ⟨t',a,b⟩:=h 0 v rfl
  cases a
  exact .cons b (Z3Z f (Nat.succ.inj e) fun j u hu=>h (j+1) u hu)
section
variable {Uh9 Cl Cs Cq Ck Ct Cw Ch Cp:Addr} {P:Program} {w:World} {K:W.Frag} {mg:Str→Option Value} {base:Heap} {B:Hp}
theorem J1D (T:Txt K mg Ct Cw Ch Cp Cl Uh9):Has P w K mg base 1 "pairs_of" ["pairs"] (Z5f K):=by
 refine Has.of T.f_pairs_of Z6Q (fun _ _ _ _ _ _ us hl=>el1 us hl fun _=>rfl) (fun vs H Q E h=>?_) (fun f cdv A outer s H vs Q E hr h=>?_)
 ·obtain ⟨v,ps,rfl,_⟩:=h
  rfl
 obtain ⟨v,ps,rfl,hp,hl,q⟩:=h
 obtain ⟨pa,xs,rfl,hq,hx⟩:=hp.tup_inv
 have lx:xs.length=ps.length:=by rw [hx.length,List.length_map]
 refine ⟨_,(Z0g (Z0r (Z0z Z0t rfl T.z_tuple Z1e (Z0a (Z0W rfl (BlockOk.plain (N:=["pair"]) rfl (by decide +kernel) (by decide +kernel) (by decide +kernel)) (Z2u (pvF 0))
     (fun C fp s H=>(Z0l (i:=0) (show (["pair"]:List Str).Nodup by decide +kernel) rfl (Or.inl rfl)))
     (fun C fp s H=>(Z0z (r:=J2N K) Z0t rfl T.z_tuple Z1e (Z0a (pvF 0) Z0d)))) Z0d)))),?_⟩
 walk_at "rd"
 refine ⟨⟨_,hq⟩,fun D hD=>?_⟩
 refine Z0S (ys:=xs) none [] (fun j v H=>∃ p,ps[j]?=some p∧RT K H v (.tuple [.str p.1,.str p.2])) (fun j v H1 H2 ⟨t,a,b⟩ s=>⟨t,a,b.kp (kpN s)⟩) rfl hD (by rw [sizeLine_eq]; omega) (fun H1 s=>SqT.same hq s) (fun i y hy H1 K' s k=>?_) (fun vs Hc Sc hv lv hR=>?_)
 ·walk_at "rd"
  obtain ⟨d,hd,hr'⟩:=hx.at hy
  rw [List.getElem?_map] at hd
  obtain ⟨p,hp',rfl⟩:=Option.map_eq_some_iff.mp hd
  obtain ⟨a,zs,rfl,hz,hzs⟩:=hr'.tup_inv
  exact ⟨a,rfl,zs,.inr ⟨SqT.same hz s,k _ _ (Same.refl _) ⟨p,hp',.tup (SqT.same hz s) (hzs.same s)⟩⟩⟩
 refine ⟨D,rfl,vs,.inl ⟨SqL.of hv,fun t5 h5=>?_⟩⟩
 have s5:=Z0n h5 (.tup vs)
 refine q _ _ (Sc.trans s5) (.tup (SqT.of Z0e) ?_)
 refine RTs.same ?_ s5
 exact Z3Z (fun p=>.tuple [.str p.1,.str p.2]) (lv.trans lx) hR
theorem J1x (T:Txt K mg Ct Cw Ch Cp Cl Uh9) (h_pairs_of:Has P w K mg base 1 "pairs_of" ["pairs"] (Z5f K)):HasM P w K mg base 2 Cw "__init__" ["self","name","params","kind","body"] (Z7m (CS.mk Ct Cw Ch Cp Cl Cs Cq Ck B) K):=by
 refine HasM.of T.m_Word___init__ Z3z (fun _ _ _ _ _ _ us hl=>el5 us hl fun _ _ _ _ _=>rfl) (fun vs H Q E h=>?_) (fun f cdv A outer s H vs Q E hr h=>?_)
 ·obtain ⟨x,dx,pp,bv,d,rfl,_⟩:=h
  rfl
 obtain ⟨x,dx,pp,bv,d,rfl,hx,hp,hl,hb,q⟩:=h
 refine ⟨_,(Z0b (Z0U (pvF 0) (pvF 1) rfl)
  (Z0b (Z0U (pvF 0) (Z0v h_pairs_of hr (by decide) rfl (Z0a (pvF 2) Z0d)) rfl)
  (Z0b (Z0U (pvF 0) (pvF 3) rfl)
  (Z0g (Z0U (pvF 0) (pvF 4) rfl))))),?_⟩
 refine seq4 fun uz3 huz3 uz2 huz2 uz1 huz1=>?_
 walk_at "rd"
 refine ⟨Cw,dx,_,hx,T.Word.cl,T.n_Word_name,Nat.lt_of_sub_eq_succ rfl,?_⟩
 subst huz1
 walk_at "rd"
 have S1:SX x H (upd H x (.ins Cw dx (putF "name" (.str d.name) []))):=SX.put _
 have X1:upd H x (.ins Cw dx (putF "name" (.str d.name) [])) x=some (.ins Cw dx (putF "name" (.str d.name) [])):=Z0e
 generalize upd H x (.ins Cw dx (putF "name" (.str d.name) []))=H1 at *
 refine ⟨pp,d.params,rfl,hp.kp (S1.kp hx),hl,fun r H2 s2 hr2=>?_⟩
 have X2:=s2 _ _ X1
 refine ⟨Cw,dx,_,X2,T.Word.cl,T.n_Word_params,Nat.lt_of_sub_eq_succ rfl,?_⟩
 subst huz2
 walk_at "rd"
 refine ⟨Cw,dx,_,Z0e,T.Word.cl,T.n_Word_kind,Nat.lt_of_sub_eq_succ rfl,?_⟩
 subst huz3
 walk_at "rd"
 refine ⟨Cw,dx,_,Z0e,T.Word.cl,T.n_Word_body,Nat.lt_of_sub_eq_succ rfl,?_⟩
 have S3:SX x H2 _:=(SX.put (.ins Cw dx (putF "params" (.ref r) (putF "name" (.str d.name) [])))).trans ((SX.put (.ins Cw dx (putF "kind" (.str d.kind) (putF "params" (.ref r) (putF "name" (.str d.name) []))))).trans (SX.put (.ins Cw dx (putF "body" bv (putF "kind" (.str d.kind) (putF "params" (.ref r) (putF "name" (.str d.name) [])))))))
 have S4:=S1.trans ((SX.of s2).trans S3)
 exact q _ S4 (.mk (Z0e) (hr2.kt (SX.ktf S3 X2)) (hb.kp (S4.kp hx)))
theorem J1s (T:Txt K mg Ct Cw Ch Cp Cl Uh9) (h_pairs_of:Has P w K mg base 1 "pairs_of" ["pairs"] (Z5f K)):HasM P w K mg base 2 Ch "__init__" ["self","name","elder","own_fields","own_words"] (Z7I (CS.mk Ct Cw Ch Cp Cl Cs Cq Ck B) K):=by
 refine HasM.of T.m_House___init__ Z3p (fun _ _ _ _ _ _ us hl=>el5 us hl fun _ _ _ _ _=>rfl) (fun vs H Q E h=>?_) (fun f cdv A outer s H vs Q E hr h=>?_)
 ·obtain ⟨x,dx,wl,fv,ws,d,rfl,_⟩:=h
  rfl
 obtain ⟨x,dx,wl,fv,ws,d,rfl,hx,hp,hl,hw,hb,q⟩:=h
 refine ⟨_,(Z0b (Z0U (pvF 0) (pvF 1) rfl)
  (Z0b (Z0U (pvF 0) (pvF 2) rfl)
  (Z0b (Z0U (pvF 0) (Z0v h_pairs_of hr (by decide) rfl (Z0a (pvF 3) Z0d)) rfl)
  (Z0g (Z0U (pvF 0) (Z0z Z0t rfl T.z_tuple Z1e (Z0a (pvF 4) Z0d)) rfl))))),?_⟩
 refine seq4 fun uz3 huz3 uz2 huz2 uz1 huz1=>?_
 walk_at "rd"
 refine ⟨Ch,dx,_,hx,T.House.cl,T.n_House_name,Nat.lt_of_sub_eq_succ rfl,?_⟩
 subst huz1
 walk_at "rd"
 refine ⟨Ch,dx,_,Z0e,T.House.cl,T.n_House_elder,Nat.lt_of_sub_eq_succ rfl,?_⟩
 subst huz2
 walk_at "rd"
 have S1:SX x H (upd (upd H x (.ins Ch dx (putF "name" (.str d.name) []))) x (.ins Ch dx (putF "elder" (oS d.elder) (putF "name" (.str d.name) [])))):=(SX.put _).trans (SX.put _)
 have X1:upd (upd H x (.ins Ch dx (putF "name" (.str d.name) []))) x (.ins Ch dx (putF "elder" (oS d.elder) (putF "name" (.str d.name) []))) x=some (.ins Ch dx (putF "elder" (oS d.elder) (putF "name" (.str d.name) []))):=Z0e
 generalize upd (upd H x (.ins Ch dx (putF "name" (.str d.name) []))) x (.ins Ch dx (putF "elder" (oS d.elder) (putF "name" (.str d.name) [])))=H1 at *
 refine ⟨fv,d.fields,rfl,hp.kp (S1.kp hx),hl,fun r H2 s2 hr2=>?_⟩
 have X2:=s2 _ _ X1
 refine ⟨Ch,dx,_,X2,T.House.cl,T.n_House_own_fields,Nat.lt_of_sub_eq_succ rfl,?_⟩
 subst huz3
 walk_at "rd"
 have S3:SX x H2 (upd H2 x (.ins Ch dx (putF "own_fields" (.ref r) (putF "elder" (oS d.elder) (putF "name" (.str d.name) []))))):=SX.put _
 have X3:upd H2 x (.ins Ch dx (putF "own_fields" (.ref r) (putF "elder" (oS d.elder) (putF "name" (.str d.name) [])))) x=some (.ins Ch dx (putF "own_fields" (.ref r) (putF "elder" (oS d.elder) (putF "name" (.str d.name) [])))):=Z0e
 generalize upd H2 x (.ins Ch dx (putF "own_fields" (.ref r) (putF "elder" (oS d.elder) (putF "name" (.str d.name) []))))=H3 at *
 have S03:=S1.trans ((SX.of s2).trans S3)
 refine ⟨ws,.inl ⟨S03.sqL hx hw,fun wt hwt=>?_⟩⟩
 have s4:=Z0n hwt (.tup ws)
 have X4:=s4 _ _ X3
 have nx:wt≠x:=fun z=>Z0j X3 hwt z.symm
 refine ⟨Ch,dx,_,X4,T.House.cl,T.n_House_own_words,Nat.lt_of_sub_eq_succ rfl,?_⟩
 have S4:=(SX.of (x:=x) s4).trans (SX.put (.ins Ch dx (putF "own_words" (.ref wt) (putF "own_fields" (.ref r) (putF "elder" (oS d.elder) (putF "name" (.str d.name) []))))))
 have S5:=S03.trans S4
 refine q _ S5 (.mk Z0e (hr2.kt (SX.ktf (S3.trans S4) X2)) (SqT.of (by rw [Z0h nx]; exact Z0e)) (hb.mono fun _ _ r=>WdO.kp r (S5.kp hx)))
theorem J0B (T:Txt K mg Ct Cw Ch Cp Cl Uh9):HasM P w K mg base 1 Cp "__init__" ["self","all_houses","main"] (Z7t (CS.mk Ct Cw Ch Cp Cl Cs Cq Ck B) K):=by
 refine HasM.of T.m_Program___init__ Z2O (fun _ _ _ _ _ _ us hl=>el3 us hl fun _ _ _=>rfl) (fun vs H Q E h=>?_) (fun f cdv A outer s H vs Q E hr h=>?_)
 ·obtain ⟨x,dx,hl,mv,hs,d,rfl,_⟩:=h
  rfl
 obtain ⟨x,dx,hl,mv,hs,d,rfl,hx,hw,hb,hm,q⟩:=h
 refine ⟨_,(Z0b (Z0U (pvF 0) (Z0z Z0t rfl T.z_tuple Z1e (Z0a (pvF 1) Z0d)) rfl)
  (Z0g (Z0U (pvF 0) (pvF 2) rfl))),?_⟩
 refine seq2 fun uz1 huz1=>?_
 walk_at "rd"
 refine ⟨hs,.inl ⟨hw,fun wt hwt=>?_⟩⟩
 have s1:=Z0n hwt (.tup hs)
 have nx:wt≠x:=fun z=>Z0j hx hwt z.symm
 refine ⟨Cp,dx,_,s1 _ _ hx,T.Program.cl,T.n_Program_all_houses,Nat.lt_of_sub_eq_succ rfl,?_⟩
 subst huz1
 walk_at "rd"
 refine ⟨Cp,dx,_,Z0e,T.Program.cl,T.n_Program_main,Nat.lt_of_sub_eq_succ rfl,?_⟩
 have S4:=(SX.of (x:=x) s1).trans ((SX.put (.ins Cp dx (putF "all_houses" (.ref wt) []))).trans (SX.put (.ins Cp dx (putF "main" mv (putF "all_houses" (.ref wt) [])))))
 exact q _ S4 (.mk Z0e (SqT.of (by rw [Z0h nx,Z0h nx]; exact Z0e)) (hb.mono fun _ _ r=>HsO.kp r (S4.kp hx)) (WdO.kp hm (S4.kp hx)))
end
end K30
end
section
set_option format.width 300
namespace K30
open PySem L2 TM WK
open P15 (Lb Fm Tm dats Z0X okF Ok maxD sumS flatR Bld)
open PW (Vl Wd Hs Pg Sc Wt Ws IxAt Look Chain Z1O Flds Z1W putS Z0Z getS Z0O Two Step Z1P Z0F leaf)
seal L2.PE L2.PA L2.PT L2.PS L2.PSs L2.PG L2.PGs L2.PI L2.PW
open P23 (FsOk J0A KdOk Z3m Z2b)
def StrL (H:Hp) (l:Addr) (ns:List Str):Prop:=H l=some (.lst (ns.map V.str))
inductive Z4P (K:W.Frag) (vs:List V) (H:Hp) (Q:VK):Prop
 | mk (a tk pl nl:Addr) (sc:List Int) (j:Nat) (taken pool ns:List Str) (a1:vs=[.ref a,.int (j:Int),.ref tk,.ref pl,.ref nl]) (a2:SqL K H a (sc.map V.int)) (a3:j < 64) (a4:StrL H tk taken) (a5:StrL H pl pool) (a6:pool.length=26) (a7:pool.Nodup) (a8:StrL H nl ns) (a9:ns.length≤100) (a10:taken.length≤1000) (a11:∀ u fs H',Same H H'→FsOk pool taken ns fs→RT K H' u (pairsD fs)→Q u H'):Z4P K vs H Q
def Z4z (K:W.Frag):Sp:=fun vs H Q _=>Z4P K vs H Q
noncomputable def hdD (h:Str×List (Str×Str)×Str):PyData:=.tuple [.str h.1,pairsD h.2.1,.str h.2.2]
inductive Z4q (K:W.Frag) (vs:List V) (H:Hp) (Q:VK):Prop
 | mk (r:Int) (pl nl:Addr) (pool ns:List Str) (a1:vs=[.int r,.ref pl,.ref nl]) (a2:0≤r) (a3:r < 2147483647) (a4:StrL H pl pool) (a5:pool.length=26) (a6:pool.Nodup) (a7:StrL H nl ns) (a8:ns.length≤100) (a9:∀ u fs H',Same H H'→FsOk pool [] ns fs→RT K H' u (pairsD fs)→Q u H'):Z4q K vs H Q
def Z4J (K:W.Frag):Sp:=fun vs H Q _=>Z4q K vs H Q
inductive Z5S (K:W.Frag) (vs:List V) (H:Hp) (Q:VK):Prop
 | mk (a pp p0 p1 p2 nl:Addr) (sc:List Int) (j:Nat) (q0 q1 q2 ns:List Str) (a1:vs=[.ref a,.int (j:Int),.ref pp,.ref nl]) (a2:SqL K H a (sc.map V.int)) (a3:j < 64) (a4:H pp=some (.lst [.ref p0,.ref p1,.ref p2])) (a5:StrL H p1 q1) (a6:q1.length=26) (a7:q1.Nodup) (a8:StrL H p2 q2) (a9:q2.length=26) (a10:q2.Nodup) (a11:StrL H nl ns) (a12:ns.length≤100) (a13:∀ l (hs:List (Str×List (Str×Str)×Str)) us H',Same H H'→H l=none→H' l=some (.lst us)→RTs K H' us (hs.map hdD)→J0A q1 q2 ns hs→Q (.ref l) H'):Z5S K vs H Q
def Z5C (K:W.Frag):Sp:=fun vs H Q _=>Z5S K vs H Q
theorem Z4C {ns:List Str} {x:Nat} (h:x < ns.length):atI (ns.map V.str) (x:Int)=some (.str ns[x]):=Z0C (by rw [List.getElem?_map,List.getElem?_eq_getElem h]; rfl)
theorem Z3W:∀ {ns:List Str},(ns.map V.str).all Z3B=true
 | []=>rfl
 | _::ns=>Z3W (ns:=ns)
theorem in_strs {x:Str} {ns:List Str}:inV (.str x) (ns.map V.str)=true↔x∈ns:=by
 unfold inV
 rw [List.any_eq_true]
 constructor
 ·rintro ⟨y,hy,e⟩
  obtain ⟨z,hz,rfl⟩:=List.mem_map.mp hy
  have:z=x:=by simpa [eqV] using e
  exact this▸hz
 ·exact fun h=>⟨_,List.mem_map_of_mem h,by simp [eqV]⟩
theorem J2K {K:W.Frag} {H:Hp} {F:Nat→Str×Str→Prop}:∀ {vs:List V} {o:Nat},(∀ (j:Nat) v,vs[j]?=some v→∃ p:Str×Str,RT K H v (.tuple [.str p.1,.str p.2])∧F (o+j) p)→∃ fs:List (Str×Str),fs.length=vs.length∧RTs K H vs (fs.map fun p=>.tuple [.str p.1,.str p.2])∧∀ (j:Nat) p,fs[j]?=some p→F (o+j) p
 | [],_,_=>⟨[],rfl,.nil,fun j p h=>by cases h⟩
 | v::vs,o,h=>by
  obtain ⟨p,hp,hF⟩:=h 0 v rfl
  obtain ⟨fs,l,r,hf⟩:=J2K (o:=o+1) (vs:=vs) fun j v hv=>by
   have:=h (j+1) v hv
   rw [show o+1+j=o+(j+1) by omega]; exact this
  refine ⟨p::fs,by rw [List.length_cons,List.length_cons,l],.cons hp r,fun j p' hj=>?_⟩
  cases j with
  | zero=>cases hj; exact hF
  | succ j=>rw [show o+(j+1)=o+1+j by omega]; exact hf j p' hj
section
variable {Uh9 Cl Cs Cq Ck Ct Cw Ch Cp:Addr} {P:Program} {w:World} {K:W.Frag} {mg:Str→Option Value} {base:Heap} {B:Hp}
noncomputable def LFI (K:W.Frag) (H:Hp) (a tk pl nl fl:Addr) (j:Nat) (r:Int) (taken pool ns:List Str) (i:Nat) (σ:St) (H':Hp):Prop:=∃ (us:List V) (fs:List (Str×Str)) (o7 o8:Option V),Same H H'∧H' fl=some (.lst us)∧RTs K H' us (fs.map fun p=>.tuple [.str p.1,.str p.2])∧fs.length≤i∧(∀ f∈fs,f.1∉taken∧KdOk ns f.2∧∃ t:Nat,t < i∧pool[((r / 5+7 * (t:Int)) % 26).toNat]?=some f.1)∧(fs.map Prod.fst).Nodup∧σ=[some (.ref a),some (.int (j:Int)),some (.ref tk),some (.ref pl),some (.ref nl),some (.int r),some (.ref fl),o7,o8]
theorem Z8B (T:Txt K mg Ct Cw Ch Cp Cl Uh9) (h__law_drawn:Has P w K mg base 1 "_law_drawn" ["_law_script","_law_k"] (Z2H K)) (h__law_kind:Has P w K mg base 1 "_law_kind" ["_law_number","_law_names"] (Z5v K)):Has P w K mg base 2 "_law_fields" ["_law_script","_law_j","_law_taken","_law_pool","_law_names"] (Z4z K):=by
 refine Has.of T.f__law_fields sc__law_fields (fun _ _ _ _ _ _ us hl=>el5 us hl fun _ _ _ _ _=>rfl) (fun vs H Q E h=>?_) (fun f cdv A outer s H vs Q E hr h=>?_)
 ·obtain ⟨a,tk,pl,nl,sc,j,taken,pool,ns,rfl,_⟩:=h
  rfl
 obtain ⟨a,tk,pl,nl,sc,j,taken,pool,ns,rfl,sq,hj,htk,hpl,h26,ndp,hnl,hn100,ht,q⟩:=h
 refine ⟨_,(Z0b (Z0q (i:=5) sc__law_fields.nd rfl (Or.inl rfl) (Z0v h__law_drawn hr (by decide) rfl (Z0a (pvF 0) (Z0a (Z0m Z0I Z0f (pvF 1)) Z0d))))
  (Z0b (Z0q (i:=6) sc__law_fields.nd rfl (Or.inl rfl) (Z1h Z0d))
  (Z0b (Z2v PassesOwn.never rfl (Z1k rfl T.z_range (Z0a (Z0m Z0H (pvF 5) Z0f) Z0d)) (Z0l (i:=7) sc__law_fields.nd rfl (Or.inl rfl)) (Z0b (Z0q (i:=8) sc__law_fields.nd rfl (Or.inl rfl) (Z0B (r:=Z1o K) Z0s (pvF 3) (Z0m Z0H (Z0m Z0I (Z0m Z1b (pvF 5) Z0f) (Z0m Z2q Z0f (pvF 7))) Z0f) (fun _ _=>rfl)))
  (Z0g (Z1H (Z0y (r:=rIn K true) Z3w (pvF 8) (pvF 2) (by with_unfolding_all rfl)) (Z0g (Z2r (Z3C PySem.F.plainAttrs_list PySem.F.slot_list_append PySem.F.type_list_append Z1j (pvF 6) (Z0a (Z0x (Z0a (pvF 8) (Z0a (Z0v h__law_kind hr (by decide) rfl (Z0a (Z0m Z1b (Z0v h__law_drawn hr (by decide) rfl (Z0a (pvF 0) (Z0a (Z0m Z0I (Z0m Z0I Z0f (Z0m Z2q Z0f (pvF 1))) (pvF 7)) Z0d))) Z0f) (Z0a (pvF 4) Z0d))) Z0d))) Z0d)))) Z0D))))
  (Z0g (Z0r (Z0z Z0t rfl T.z_tuple Z1e (Z0a (pvF 6) Z0d))))))),?_⟩
 refine seq4 fun uz3 huz3 uz2 huz2 uz1 huz1=>?_
 walk_at "rd"
 refine ⟨a,sc,50+j,by rw [Int.natCast_add]; rfl,sq,by omega,fun r rz r0 r1=>?_⟩
 subst huz1
 walk_at "rd"
 refine New.of fun fl H1 h1 s1 e1=>?_
 subst huz2
 walk_at "rd"
 obtain ⟨n,hn,hn4⟩:∃ n:Nat,r % 5=(n:Int)∧n≤4:=⟨(r % 5).toNat,by omega,by omega⟩
 rw [hn,Int.toNat_natCast]
 have hfl:H fl=none:=h1
 refine ⟨by omega,by omega,Z2F (LFI K H a tk pl nl fl j r taken pool ns) ⟨[],[],none,none,s1,e1,.nil,Nat.zero_le _,(fun f hf=>absurd hf List.not_mem_nil),.nil,rfl⟩ (fun i σ H' hi hI=>?_) (fun σ H' hI=>?_)⟩
 ·obtain ⟨us,fs,o7,o8,sI,hu,ru,lf,hf,nf,rfl⟩:=hI
  walk_at "rd"
  obtain ⟨x,hx,hx26⟩:∃ x:Nat,(r / 5+7 * (i:Int)) % 26=(x:Int)∧x < 26:=⟨((r / 5+7 * (i:Int)) % 26).toNat,by omega,by omega⟩
  rw [hx]
  have hxl:x < pool.length:=by omega
  refine ⟨_,SqL.of (sI _ _ hpl),_,Z4C hxl,_,.inl (SqL.of (sI _ _ htk)),rfl,Z3W,?_⟩
  refine ite2 (fun z=>?_) (fun z=>⟨us,fs,_,_,sI,hu,ru,by omega,(fun f hm=>let ⟨h1,h2,t,h3,h4⟩:=hf f hm; ⟨h1,h2,t,by omega,h4⟩),nf,rfl⟩)
  have hnt:pool[x]∉taken:=fun hm=>by rw [in_strs.mpr hm] at z; cases z
  refine ⟨.inl ⟨rfl,_,SqL.of hu⟩,a,sc,70+4 * j+i,by rw [Int.natCast_add,Int.natCast_add,Int.natCast_mul]; rfl,sq.same sI,by omega,fun r2 r2z r20 r21=>⟨r2,rfl,r2 / 3,nl,ns,rfl,sI _ _ hnl,hn100,fun kx H2 hkx s2=>New.of fun p3 H3 h3 s3 e3=>?_⟩⟩
  have s23:=s2.trans s3
  have hu3:=s23 _ _ hu
  have lus:us.length=fs.length:=by rw [ru.length,List.length_map]
  refine ⟨_,hu3,by omega,us++[.ref p3],fs++[(pool[x],kx)],_,_,Z1m (sI.trans s23) hfl,Z0e,?_,by rw [List.length_append]; show _+1≤_; omega,fun f hm=>?_,?_,rfl⟩
  ·rw [List.map_append]
   exact RTs.kp (Kp.lst _ hu3) ((ru.same s23).app (.cons (.tup (SqT.of e3) (.cons (.str _) (.cons (.str _) .nil))) .nil))
  ·rcases (List.mem_append.mp hm) with hm | hm
   ·obtain ⟨h1,h2,t,h3,h4⟩:=hf f hm
    exact ⟨h1,h2,t,by omega,h4⟩
   ·cases List.mem_singleton.mp hm
    exact ⟨hnt,hkx,i,Nat.lt_succ_self _,by rw [hx,Int.toNat_natCast]; exact List.getElem?_eq_getElem hxl⟩
  ·rw [List.map_append]
   refine Z3m nf fun hm=>?_
   obtain ⟨f,hf1,hf2⟩:=List.mem_map.mp hm
   obtain ⟨_,_,t,h3,h4⟩:=hf f hf1
   rw [hf2] at h4
   have:=Z2b ndp h4 (show pool[x]?=some pool[x] from List.getElem?_eq_getElem hxl)
   omega
 ·obtain ⟨us,fs,o7,o8,sI,hu,ru,lf,hf,nf,rfl⟩:=hI
  subst huz3
  walk_at "rd"
  refine ⟨us,.inl ⟨SqL.of hu,fun l hl=>?_⟩⟩
  have s2:=Z0n hl (.tup us)
  exact q _ fs _ (sI.trans s2) ⟨by omega,(fun f hm=>let ⟨h1,h2,t,h3,h4⟩:=hf f hm; ⟨List.mem_of_getElem? h4,h1,h2⟩),nf⟩ (.tup (SqT.of Z0e) (ru.same s2))
theorem Z8v (T:Txt K mg Ct Cw Ch Cp Cl Uh9) (h__law_kind:Has P w K mg base 1 "_law_kind" ["_law_number","_law_names"] (Z5v K)):Has P w K mg base 2 "_law_params" ["_law_number","_law_pool","_law_names"] (Z4J K):=by
  refine Has.of T.f__law_params sc__law_params (fun _ _ _ _ _ _ us hl=>el3 us hl fun _ _ _=>rfl) (fun vs H Q E h=>?_) (fun f cdv A outer s H vs Q E hr h=>?_)
  · obtain ⟨r,pl,nl,pool,ns,rfl,_⟩:=h
    rfl
  obtain ⟨r,pl,nl,pool,ns,rfl,r0,r1,hpl,h26,ndp,hnl,hn100,q⟩:=h
  refine ⟨_,(Z0b (Z0q (i:=3) sc__law_params.nd rfl (Or.inr rfl) (Z0W rfl (BlockOk.of (N:=["_law_k","_law_number"]) (nl:=[none,some 0]) (cl:=[("_law_number",s.heap.objs.size+1)]) rfl (by decide +kernel) (by decide +kernel) rfl (sub1 rfl) (nm:=["_law_number"]) rfl (by decide +kernel) rfl (fun i hi j hj=>by
            match i,hi with
            | 0,_=>cases hj
             | 1,_=>cases hj; exact ⟨_,rfl,rfl,rfl,.inl rfl⟩
            )) (Z1k rfl T.z_range (Z0a Z0f Z0d))
          (fun C fp s H=>(Z0l (i:=0) (show (["_law_k","_law_number"]:List Str).Nodup by decide +kernel) rfl (Or.inl rfl)))
          (fun C fp s H=>(Z0m J0Y (Z0m Z1b (pvF 1) Z0f) (Z0m Z0I Z0f (Z0m Z2q Z0f (pvF 0)))))))
    (Z0g (Z0r (Z0z Z0t rfl T.z_tuple Z1e (Z0a (Z0W rfl (BlockOk.of (N:=["_law_k","_law_kinds","_law_names","_law_number","_law_pool"]) (nl:=[none,some 3,some 2,some 0,some 1]) (cl:=[("_law_pool",s.heap.objs.size+2),("_law_number",s.heap.objs.size+1),("_law_names",s.heap.objs.size+3),("_law_kinds",s.heap.objs.size+4)]) rfl (by decide +kernel) (by decide +kernel) rfl (sub4 rfl rfl rfl rfl) (nm:=["_law_pool","_law_number","_law_names","_law_kinds"]) rfl (by decide +kernel) rfl (fun i hi j hj=>by
            match i,hi with
            | 0,_=>cases hj
             | 1,_=>cases hj; exact ⟨_,rfl,rfl,rfl,.inl rfl⟩
             | 2,_=>cases hj; exact ⟨_,rfl,rfl,rfl,.inl rfl⟩
             | 3,_=>cases hj; exact ⟨_,rfl,rfl,rfl,.inl rfl⟩
             | 4,_=>cases hj; exact ⟨_,rfl,rfl,rfl,.inl rfl⟩
            )) (Z1k rfl T.z_range (Z0a (Z0m Z0H (pvF 0) Z0f) Z0d))
          (fun C fp s H=>(Z0l (i:=0) (show (["_law_k","_law_kinds","_law_names","_law_number","_law_pool"]:List Str).Nodup by decide +kernel) rfl (Or.inl rfl)))
          (fun C fp s H=>(Z0x (Z0a (Z0B (r:=Z1o K) Z0s (pvF 4) (Z0m Z0H (Z0m Z0I (Z0m Z1b (pvF 3) Z0f) (Z0m Z2q Z0f (pvF 0))) Z0f) (fun _ _=>rfl)) (Z0a (Z0v h__law_kind hr (by decide) rfl (Z0a (Z0B (r:=Z1o K) Z0s (pvF 1) (pvF 0) (fun _ _=>rfl)) (Z0a (pvF 2) Z0d))) Z0d))))) Z0d))))),?_⟩
  refine seq2 fun uz1 huz1=>?_
  walk_at "rd"
  intro D hD
  refine Z3k none [some (.int r)] (fun i=>V.int ((r / 7).fdiv (1+11 * (i:Int)))) rfl (fun i hi l k hk=>?_) (by rw [sizeLine_eq]; omega) ?_
  · walk_at "rd"
    exact ⟨by omega,by omega,by omega,hk⟩
  have s1:=Z0n hD (.lst ((List.range 4).map fun i=>V.int ((r / 7).fdiv (1+11 * ((i:Nat):Int)))))
  have e1:upd H D (.lst ((List.range 4).map fun i=>V.int ((r / 7).fdiv (1+11 * ((i:Nat):Int))))) D=some (.lst ((List.range 4).map fun i=>V.int ((r / 7).fdiv (1+11 * ((i:Nat):Int))))):=Z0e
  generalize upd H D (.lst ((List.range 4).map fun i=>V.int ((r / 7).fdiv (1+11 * ((i:Nat):Int)))))=H1 at *
  subst huz1
  walk_at "rd"
  obtain ⟨n,hn,hn4⟩:∃ n:Nat,r % 5=(n:Int)∧n≤4:=⟨(r % 5).toNat,by omega,by omega⟩
  rw [hn,Int.toNat_natCast]
  refine ⟨by omega,by omega,fun D2 hD2=>?_⟩
  refine Z4e (n:=n) none [some (.ref D),some (.ref nl),some (.int r),some (.ref pl)] (fun j v H=>∃ p:Str×Str,RT K H v (.tuple [.str p.1,.str p.2])∧pool[((r / 5+3 * (j:Int)) % 26).toNat]?=some p.1∧KdOk ns p.2) (fun j v H1 H2 ⟨p,b,c⟩ s=>⟨p,b.kp (kpN s),c⟩) rfl hD2 (by rw [sizeLine_eq]; omega) (fun i hi H2 K' s2 kk=>?_) (fun vs H2 s2 hD3 lvs hR=>?_)
  · walk_at "rd"
    obtain ⟨x,hx,hx26⟩:∃ x:Nat,(r / 5+3 * (i:Int)) % 26=(x:Int)∧x < 26:=⟨((r / 5+3 * (i:Int)) % 26).toNat,by omega,by omega⟩
    rw [hx]
    have hxl:x < pool.length:=by omega
    have S:=s1.trans s2
    refine ⟨_,SqL.of (S _ _ hpl),_,Z4C hxl,_,SqL.of (s2 _ _ e1),_,Z0C (by rw [List.getElem?_map,List.getElem?_range (by omega)]; rfl),_,nl,ns,rfl,S _ _ hnl,hn100,fun kx H3 hkx s3=>New.of fun p4 H4 h4 s4 e4=>kk _ _ (s3.trans s4) ⟨(pool[x],kx),.tup (SqT.of e4) (.cons (.str _) (.cons (.str _) .nil)),by rw [hx,Int.toNat_natCast]; exact List.getElem?_eq_getElem hxl,hkx⟩⟩
  · obtain ⟨fs,lfs,rfs,hfs⟩:=J2K (K:=K) (H:=H2) (vs:=vs) (o:=0) (F:=fun j p=>pool[((r / 5+3 * (j:Int)) % 26).toNat]?=some p.1∧KdOk ns p.2) fun j v hj=>by rw [Nat.zero_add]; exact hR j v hj
    have hfs:∀ (j:Nat) p,fs[j]?=some p→pool[((r / 5+3 * (j:Int)) % 26).toNat]?=some p.1∧KdOk ns p.2:=fun j p hj=>by have:=hfs j p hj; rw [Nat.zero_add] at this; exact this
    refine ⟨D2,rfl,vs,.inl ⟨SqL.of hD3,fun l hl=>?_⟩⟩
    have s3:=Z0n hl (.tup vs)
    refine q _ fs _ (s1.trans (s2.trans s3)) ⟨by omega,fun f hm=>?_,?_⟩ (.tup (SqT.of Z0e) (rfs.same s3))
    · obtain ⟨j,hj⟩:=List.getElem?_of_mem hm
      obtain ⟨h1,h2⟩:=hfs j f hj
      exact ⟨List.mem_of_getElem? h1,List.not_mem_nil,h2⟩
    · refine List.pairwise_iff_getElem.mpr fun x y hx hy lt e=>?_
      rw [List.length_map] at hx hy
      rw [List.getElem_map,List.getElem_map] at e
      have h1:=(hfs x _ (List.getElem?_eq_getElem hx)).1
      have h2:=(hfs y _ (List.getElem?_eq_getElem hy)).1
      rw [e] at h1
      have:=Z2b ndp h1 h2
      omega
noncomputable def LHI (K:W.Frag) (H:Hp) (a pp nl fl:Addr) (j:Nat) (r:Int) (q1 q2 ns:List Str) (i:Nat) (σ:St) (H':Hp):Prop:=∃ (us:List V) (hs:List (Str×List (Str×Str)×Str)) (o6 o7 o8:Option V),Same H H'∧H' fl=some (.lst us)∧RTs K H' us (hs.map hdD)∧hs.length≤i∧(∀ h∈hs,FsOk q2 [] ns h.2.1∧KdOk ns h.2.2∧∃ t:Nat,t < i∧q1[((r / 6+5 * (t:Int)) % 12).toNat]?=some h.1)∧(hs.map Prod.fst).Nodup∧σ=[some (.ref a),some (.int (j:Int)),some (.ref pp),some (.ref nl),some (.int r),some (.ref fl),o6,o7,o8]
theorem J0v (T:Txt K mg Ct Cw Ch Cp Cl Uh9) (h__law_drawn:Has P w K mg base 1 "_law_drawn" ["_law_script","_law_k"] (Z2H K)) (h__law_kind:Has P w K mg base 1 "_law_kind" ["_law_number","_law_names"] (Z5v K)) (h__law_params:Has P w K mg base 2 "_law_params" ["_law_number","_law_pool","_law_names"] (Z4J K)):Has P w K mg base 3 "_law_heads" ["_law_script","_law_j","_law_pools","_law_names"] (Z5C K):=by
 refine Has.of T.f__law_heads sc__law_heads (fun _ _ _ _ _ _ us hl=>el4 us hl fun _ _ _ _=>rfl) (fun vs H Q E h=>?_) (fun f cdv A outer s H vs Q E hr h=>?_)
 ·obtain ⟨a,pp,p0,p1,p2,nl,sc,j,q0,q1,q2,ns,rfl,_⟩:=h
  rfl
 obtain ⟨a,pp,p0,p1,p2,nl,sc,j,q0,q1,q2,ns,rfl,sq,hj,hpp,hp1,l1,nd1,hp2,l2,nd2,hnl,hn100,q⟩:=h
 refine ⟨_,(Z0b (Z0q (i:=4) sc__law_heads.nd rfl (Or.inl rfl) (Z0v h__law_drawn hr (by decide) rfl (Z0a (pvF 0) (Z0a (Z0m Z0I Z0f (pvF 1)) Z0d))))
  (Z0b (Z0q (i:=5) sc__law_heads.nd rfl (Or.inl rfl) (Z1h Z0d))
  (Z0b (Z2v PassesOwn.never rfl (Z1k rfl T.z_range (Z0a (Z0B (r:=Z1o K) Z0s (Z1h (Z0a Z0f (Z0a Z0f (Z0a Z0f (Z0a Z0f (Z0a Z0f (Z0a Z0f Z0d))))))) (Z0m Z0H (pvF 4) Z0f) (fun _ _=>rfl)) Z0d)) (Z0l (i:=6) sc__law_heads.nd rfl (Or.inl rfl)) (Z0b (Z0q (i:=7) sc__law_heads.nd rfl (Or.inl rfl) (Z0v h__law_drawn hr (by decide) rfl (Z0a (pvF 0) (Z0a (Z0m Z0I (Z0m Z0I Z0f (Z0m Z2q Z0f (pvF 1))) (pvF 6)) Z0d))))
  (Z0b (Z0q (i:=8) sc__law_heads.nd rfl (Or.inl rfl) (Z0B (r:=Z1o K) Z0s (Z0B (r:=Z1o K) Z0s (pvF 2) Z0f (fun _ _=>rfl)) (Z0m Z0H (Z0m Z0I (Z0m Z1b (pvF 4) Z0f) (Z0m Z2q Z0f (pvF 6))) Z0f) (fun _ _=>rfl)))
  (Z0g (Z2r (Z3C PySem.F.plainAttrs_list PySem.F.slot_list_append PySem.F.type_list_append Z1j (pvF 5) (Z0a (Z0x (Z0a (pvF 8) (Z0a (Z0v h__law_params hr (by decide) rfl (Z0a (pvF 7) (Z0a (Z0B (r:=Z1o K) Z0s (pvF 2) Z0f (fun _ _=>rfl)) (Z0a (pvF 3) Z0d)))) (Z0a (Z0v h__law_kind hr (by decide) rfl (Z0a (Z0m Z1b (pvF 7) Z0f) (Z0a (pvF 3) Z0d))) Z0d)))) Z0d)))))))
  (Z0g (Z0r (pvF 5)))))),?_⟩
 refine seq4 fun uz3 huz3 uz2 huz2 uz1 huz1=>?_
 walk_at "rd"
 refine ⟨a,sc,120+j,by rw [Int.natCast_add]; rfl,sq,by omega,fun r rz r0 r1=>?_⟩
 subst huz1
 walk_at "rd"
 refine New.of fun fl H1 h1 s1 e1=>?_
 subst huz2
 walk_at "rd"
 obtain ⟨n,hn,hn8⟩:∃ n:Nat,atI [V.int 0,V.int 1,V.int 2,V.int 3,V.int 2,V.int 8] (r % 6)=some (.int (n:Int))∧n≤8:=by
  obtain ⟨x,hx,hx6⟩:∃ x:Nat,r % 6=(x:Int)∧x < 6:=⟨(r % 6).toNat,by omega,by omega⟩
  rw [hx]
  match x,hx6 with
  | 0,_=>exact ⟨0,Z0C rfl,by omega⟩
  | 1,_=>exact ⟨1,Z0C rfl,by omega⟩
  | 2,_=>exact ⟨2,Z0C rfl,by omega⟩
  | 3,_=>exact ⟨3,Z0C rfl,by omega⟩
  | 4,_=>exact ⟨2,Z0C rfl,by omega⟩
  | 5,_=>exact ⟨8,Z0C rfl,by omega⟩
 refine New.of fun p3 H3 h3 s3 e3=>⟨_,SqL.of e3,_,hn,_,rfl,by omega,by omega,?_⟩
 rw [Int.toNat_natCast]
 have hfl:H fl=none:=h1
 refine Z2F (LHI K H a pp nl fl j r q1 q2 ns) ⟨[],[],none,none,none,s1.trans s3,s3 _ _ e1,.nil,Nat.zero_le _,(fun f hf=>absurd hf List.not_mem_nil),.nil,rfl⟩ (fun i σ H' hi hI=>?_) (fun σ H' hI=>?_)
 ·obtain ⟨us,hs,o6,o7,o8,sI,hu,ru,lf,hf,nf,rfl⟩:=hI
  walk_at "rd"
  refine ⟨a,sc,140+8 * j+i,by rw [Int.natCast_add,Int.natCast_add,Int.natCast_mul]; rfl,sq.same sI,by omega,fun m mz m0 m1=>?_⟩
  obtain ⟨x,hx,hx12⟩:∃ x:Nat,(r / 6+5 * (i:Int)) % 12=(x:Int)∧x < 12:=⟨((r / 6+5 * (i:Int)) % 12).toNat,by omega,by omega⟩
  rw [hx]
  have hxl:x < q1.length:=by omega
  refine ⟨_,SqL.of (sI _ _ hpp),_,ix1,p1,rfl,_,SqL.of (sI _ _ hp1),_,Z4C hxl,.inl ⟨rfl,_,SqL.of hu⟩,_,SqL.of (sI _ _ hpp),.ref p2,Z0C rfl,m,p2,nl,q2,ns,rfl,m0,m1,sI _ _ hp2,l2,nd2,sI _ _ hnl,hn100,fun pu fs H4 s4 lfs rfs=>⟨m,rfl,m / 35,nl,ns,rfl,s4 _ _ (sI _ _ hnl),hn100,fun kx H5 hkx s5=>New.of fun p6 H6 h6 s6 e6=>?_⟩⟩
  have s46:=s4.trans (s5.trans s6)
  have hu6:=s46 _ _ hu
  have lus:us.length=hs.length:=by rw [ru.length,List.length_map]
  refine ⟨_,hu6,by omega,us++[.ref p6],hs++[(q1[x],fs,kx)],_,_,_,Z1m (sI.trans s46) hfl,Z0e,?_,by rw [List.length_append]; show _+1≤_; omega,fun f hm=>?_,?_,rfl⟩
  ·rw [List.map_append]
   exact RTs.kp (Kp.lst _ hu6) ((ru.same s46).app (.cons (.tup (SqT.of e6) (.cons (.str _) (.cons (rfs.same (s5.trans s6)) (.cons (.str _) .nil)))) .nil))
  ·rcases (List.mem_append.mp hm) with hm | hm
   ·obtain ⟨h1,h2,t,h3,h4⟩:=hf f hm
    exact ⟨h1,h2,t,by omega,h4⟩
   ·cases List.mem_singleton.mp hm
    exact ⟨lfs,hkx,i,Nat.lt_succ_self _,by rw [hx,Int.toNat_natCast]; exact List.getElem?_eq_getElem hxl⟩
  ·rw [List.map_append]
   refine Z3m nf fun hm=>?_
   obtain ⟨f,hf1,hf2⟩:=List.mem_map.mp hm
   obtain ⟨_,_,t,h3,h4⟩:=hf f hf1
   rw [hf2] at h4
   have:=Z2b nd1 h4 (show q1[x]?=some q1[x] from List.getElem?_eq_getElem hxl)
   omega
 ·obtain ⟨us,hs,o6,o7,o8,sI,hu,ru,lf,hf,nf,rfl⟩:=hI
  subst huz3
  walk_at "rd"
  exact q _ hs us _ sI hfl hu ru ⟨by omega,(fun f hm=>let ⟨h1,h2,t,h3,h4⟩:=hf f hm; ⟨List.mem_of_getElem? h4,h1,h2⟩),nf⟩
end
end K30
end
section
set_option format.width 300
namespace K30
open PySem L2 TM WK
open P15 (Lb Fm Tm dats Z0X okF Ok maxD sumS flatR Bld)
open PW (Vl Wd Hs Pg Sc Wt Ws IxAt Look Chain Z1O Flds Z1W putS Z0Z getS Z0O Two Step Z1P Z0F leaf)
seal L2.PE L2.PA L2.PT L2.PS L2.PSs L2.PG L2.PGs L2.PI L2.PW
inductive Z7E (K:W.Frag) (nm:Nat→Nat→Str) (vs:List V) (H:Hp) (Q:VK):Prop
 | mk (C k:Nat) (a1:vs=[.int (C:Int),.int (k:Int)]) (a2:k < 26) (a3:∀ H',Same H H'→Q (.str (nm C k)) H'):Z7E K nm vs H Q
def Z7c (K:W.Frag) (nm:Nat→Nat→Str):Sp:=fun vs H Q _=>Z7E K nm vs H Q
open P23 (mkS Z0V Z3D rawL Z2w Z2B toldS toldC digs digC)
theorem lets:∀ j:Fin 26,(Str.ofString "abcdefghijklmnopqrstuvwxyz").cps.toList[j.1]?=some (97+j.1):=by decide +kernel
theorem Z7B {j:Nat} (h:j < 26):atI (Str.ofString "abcdefghijklmnopqrstuvwxyz").cps.toList (j:Int)=some (97+j):=Z0C (lets ⟨j,h⟩)
theorem J5v:∀ j:Fin 10,(Str.ofString "1234567890").cps.toList[j.1]?=some (digC j.1):=by decide +kernel
theorem J5K {j:Nat} (h:j < 10):atI (Str.ofString "1234567890").cps.toList (j:Int)=some (digC j):=Z0C (J5v ⟨j,h⟩)
theorem Z6I (a b:List Nat):mkS a++mkS b=mkS (a++b):=by
 show (⟨a.toArray++b.toArray⟩:Str)=⟨(a++b).toArray⟩
 simp
theorem J0X:∀ x∈toldS,x.length≤10:=by decide +kernel
theorem J1t {i:Nat} (h:i < toldS.length):mkS (toldC.getD i [])=toldS[i]:=by
 have:∀ j:Fin 19,mkS (toldC.getD j.1 [])=toldS[j.1]'j.2:=by decide +kernel
 exact this ⟨i,h⟩
theorem J1Y {k:Nat}:(digs k).length≤2:=by unfold P23.digs; split <;> simp
theorem J5T {w r k:Nat}:(rawL w r k).length≤8:=by
 have:=P23.Z2G (r:=r)
 unfold P23.rawL
 split
 ·rw [List.length_take,List.length_set]; omega
 ·rw [List.length_cons,List.length_take]; omega
 ·have:=P23.Z2I (r:=r+k / 8)
  rw [List.length_append,List.length_drop,List.length_take]; omega
theorem J0n {k:Nat} (h:k < 26):((k:Int)).natAbs.log2 < 1920:=by
 have:∀ j:Fin 26,((j.1:Int)).natAbs.log2 < 1920:=by decide +kernel
 exact this ⟨k,h⟩
theorem J1R:∀ k:Fin 26,Str.ofString (toString ((k.1:Nat):Int))=mkS (digs k.1):=by decide +kernel
theorem Z8U {k:Nat} (h:k < 26):Str.ofString (toString (k:Int))=mkS (digs k):=J1R ⟨k,h⟩
open K10 (cds Z7k Z3u)
theorem J2y {x:Str} {l:List Nat} (h:cds x=l):x=mkS l:=by
 obtain ⟨a⟩:=x
 show (⟨a⟩:Str)=⟨l.toArray⟩
 rw [← h]
theorem J1p (cs:List Nat):Txt.join "" (cs.map fun c=>mkS [c])=mkS cs:=by
 refine J2y ?_
 rw [Z7k,List.map_map]
 induction cs with
 | nil=>rfl
 | cons c cs ih=>rw [List.map_cons,List.flatten_cons,ih]; rfl
theorem Z9y {l:List Nat} (h:l≠[]):Txt.slice (mkS l) none (some 1)=mkS (l.take 1):=by
 refine J2y ?_
 have:=Z3u (mkS l) (b:=1) (by show 1≤l.toArray.size; rw [List.size_toArray]; exact List.length_pos_iff.mpr h)
 exact this
theorem Z4X {l:List Nat}:(mkS l).length=l.length:=by show l.toArray.size=_; exact List.size_toArray
theorem Z3I (xs:List V) (n:Nat) (h:n≤xs.length):cutV xs none (some (n:Int))=xs.take n:=by
 unfold cutV
 have e1:HT.sIx xs.length xs.length (some (n:Int))=n:=by rw [HT.sIx_nat]; omega
 have e2:HT.sIx xs.length 0 none=0:=rfl
 rw [e1,e2,List.drop_zero,Nat.sub_zero]
theorem Z9x (xs:List V) (n:Nat) (h:n≤xs.length):cutV xs (some (n:Int)) none=xs.drop n:=by
 unfold cutV
 have e1:HT.sIx xs.length 0 (some (n:Int))=n:=by rw [HT.sIx_nat]; omega
 have e2:HT.sIx xs.length xs.length none=xs.length:=rfl
 rw [e1,e2,List.take_of_length_le (by rw [List.length_drop]; exact Nat.le_refl _)]
theorem Z6v {K:W.Frag} {H:Hp} {p:Addr} {cs:List Nat} {Q:VK} (h:H p=some (.lst (cs.map fun c=>V.str (mkS [c])))) (hl:cs.length≤1000) (q:Q (.str (mkS cs)) H):J4J K (V.str (Str.ofString "")) [V.ref p] H Q:=by
 refine ⟨_,p,cs.map fun c=>mkS [c],rfl,rfl,?_,?_,?_⟩
 ·rw [List.map_map]; exact SqL.of h
 ·have:((cs.map fun c=>mkS [c]).map (·.length)).sum=cs.length:=by
   clear h hl q
   induction cs with
   | nil=>rfl
   | cons c cs ih=>rw [List.map_cons,List.map_cons,List.sum_cons,ih,List.length_cons]; show 1+_=_; omega
  rw [this]
  show _+_ * 0≤_
  omega
 ·rw [J1p]; exact q
section
variable {Uh9 Cl Cs Cq Ck Ct Cw Ch Cp:Addr} {P:Program} {w:World} {K:W.Frag} {mg:Str→Option Value} {base:Heap} {B:Hp}
theorem J1L (T:Txt K mg Ct Cw Ch Cp Cl Uh9):Has P w K mg base 1 "_law_name" ["_law_cell","_law_k"] (Z7c K Z0V):=by
  refine Has.of T.f__law_name sc__law_name (fun _ _ _ _ _ _ us hl=>el2 us hl fun _ _=>rfl) (fun vs H Q E h=>?_) (fun f cdv A outer s H vs Q E hr h=>?_)
  · obtain ⟨C,k,rfl,_⟩:=h
    rfl
  obtain ⟨C,k,rfl,hk,q⟩:=h
  refine ⟨_,(Z0b (Z0q (i:=2) sc__law_name.nd rfl (Or.inr rfl) Z0p)
    (Z0b (Z0q (i:=3) sc__law_name.nd rfl (Or.inl rfl) (Z1h (Z0a Z0p (Z0a Z0p (Z0a Z0p (Z0a Z0p (Z0a Z0p (Z0a Z0p (Z0a Z0p (Z0a Z0p (Z0a Z0p (Z0a Z0p (Z0a Z0p (Z0a Z0p (Z0a Z0p Z0d)))))))))))))))
    (Z0b (Z0q (i:=3) sc__law_name.nd rfl (Or.inl rfl) (Z0m Z3a (pvF 3) (Z1h (Z0a Z0p (Z0a Z0p (Z0a Z0p (Z0a Z0p (Z0a Z0p (Z0a Z0p Z0d)))))))))
    (Z0b (Z0q (i:=4) sc__law_name.nd rfl (Or.inr rfl) (Z0m Z1b (pvF 0) Z0f))
    (Z0b (Z1n rfl sc__law_name.nd (i:=5) rfl rfl (BlockOk.of (N:=["_law_j","_law_letters","_law_rest"]) (nl:=[none,some 2,some 4]) (cl:=[("_law_rest",s.heap.objs.size+3),("_law_letters",s.heap.objs.size+2)]) rfl (by decide +kernel) (by decide +kernel) rfl (sub2 rfl rfl) (nm:=["_law_rest","_law_letters"]) rfl (by decide +kernel) rfl (fun i hi j hj=>by
            match i,hi with
            | 0,_=>cases hj
             | 1,_=>cases hj; exact ⟨_,rfl,rfl,rfl,.inl rfl⟩
             | 2,_=>cases hj; exact ⟨_,rfl,rfl,rfl,.inl rfl⟩
            )) (Z1k rfl T.z_range (Z0a Z0f Z0d))
          (fun C fp s H=>(Z0l (i:=0) (show (["_law_j","_law_letters","_law_rest"]:List Str).Nodup by decide +kernel) rfl (Or.inl rfl)))
          (fun C fp s H=>(Z0B Z5y (pvF 1) (Z0m Z0H (Z0m Z0I (Z0m Z1b (pvF 2) Z0f) (Z0m Z2q Z0f (pvF 0))) Z0f) (fun _ _=>rfl))))
    (Z0b (Z1H (Z0y Z4W (Z0m Z0H (pvF 0) Z0f) Z0f (Z1p _)) (Z0g (Z0r (Z0m Z3o (Z0B (r:=Z1o K) Z0s (pvF 3) (Z0m Z0H (Z0m Z0I (pvF 4) (pvF 1)) Z0f) (fun _ _=>rfl)) (Z0B Z5y Z0p (Z0m Z0H (Z0m Z0I (pvF 4) (Z0m Z1b (pvF 1) Z0f)) Z0f) (fun _ _=>rfl))))) Z0D)
    (Z0b (Z1H (Z0y Z4W (Z0m Z0H (pvF 0) Z0f) Z0f (Z1p _)) (Z0b (Z0q (i:=6) sc__law_name.nd rfl (Or.inl rfl) (Z0m Z0H (Z0m Z1b (pvF 4) Z0f) (Z0m Z0I Z0f (Z0m Z0H (pvF 4) Z0f))))
    (Z0b (Z2M (Z0B Z5y (pvF 2) (Z0m Z0H (Z0m Z0I (pvF 4) (pvF 1)) Z0f) (fun _ _=>rfl)) (Z4D (pvF 5) (pvF 6) Z2o))
    (Z0g (Z0q (i:=7) sc__law_name.nd rfl (Or.inl rfl) (Z3C PySem.F.plainAttrs_str PySem.F.slot_str_join PySem.F.type_str_join Z6G Z0p (Z0a (Z1x (r:=rSlL K) Z5u (pvF 5) Z2f (Z1U (Z0m Z0I Z0f (Z0m Z0H (pvF 4) Z0f)))) Z0d)))))) (Z0g (Z1H (Z0y Z4W (Z0m Z0H (pvF 0) Z0f) Z0f (Z1p _)) (Z0g (Z0q (i:=7) sc__law_name.nd rfl (Or.inl rfl) (Z0m Z3o (Z0B Z5y (pvF 2) (Z0m Z0H (Z0m Z0I (pvF 4) (Z0m Z1b (pvF 1) Z0f)) Z0f) (fun _ _=>rfl)) (Z3C PySem.F.plainAttrs_str PySem.F.slot_str_join PySem.F.type_str_join Z6G Z0p (Z0a (Z1x (r:=rSlL K) Z5u (pvF 5) Z2f (Z1U (Z0m Z0H (pvF 1) Z0f))) Z0d))))) (Z0b (Z1n rfl sc__law_name.nd (i:=5) rfl rfl (BlockOk.of (N:=["_law_j","_law_k","_law_letters","_law_rest"]) (nl:=[none,some 1,some 2,some 4]) (cl:=[("_law_rest",s.heap.objs.size+3),("_law_letters",s.heap.objs.size+2),("_law_k",s.heap.objs.size+1)]) rfl (by decide +kernel) (by decide +kernel) rfl (sub3 rfl rfl rfl) (nm:=["_law_rest","_law_letters","_law_k"]) rfl (by decide +kernel) rfl (fun i hi j hj=>by
            match i,hi with
            | 0,_=>cases hj
             | 1,_=>cases hj; exact ⟨_,rfl,rfl,rfl,.inl rfl⟩
             | 2,_=>cases hj; exact ⟨_,rfl,rfl,rfl,.inl rfl⟩
             | 3,_=>cases hj; exact ⟨_,rfl,rfl,rfl,.inl rfl⟩
            )) (Z1k rfl T.z_range (Z0a Z0f Z0d))
          (fun C fp s H=>(Z0l (i:=0) (show (["_law_j","_law_k","_law_letters","_law_rest"]:List Str).Nodup by decide +kernel) rfl (Or.inl rfl)))
          (fun C fp s H=>(Z0B Z5y (pvF 2) (Z0m Z0H (Z0m Z0I (Z0m Z0I (pvF 3) (Z0m Z1b (pvF 1) Z0f)) (Z0m Z2q Z0f (pvF 0))) Z0f) (fun _ _=>rfl))))
    (Z0g (Z0q (i:=7) sc__law_name.nd rfl (Or.inl rfl) (Z3C PySem.F.plainAttrs_str PySem.F.slot_str_join PySem.F.type_str_join Z6G Z0p (Z0a (Z0m Z3a (Z1x (r:=rSlL K) Z5u (pvF 5) (Z1U (Z0m Z0H (pvF 1) Z0f)) Z2f) (Z1x (r:=rSlL K) Z5u (pvF 5) Z2f (Z1U (Z0m Z0H (pvF 1) Z0f)))) Z0d))))))))
    (Z0b (Z1H (Z0y (r:=rIn K false) Z0M (pvF 7) (pvF 3) (by with_unfolding_all rfl)) (Z0g (Z0r (Z0m Z3o (Z1x J5l (pvF 7) Z2f (Z1U Z0f)) (Z0z Z5N rfl T.z_str J6f (Z0a (pvF 1) Z0d))))) Z0D)
    (Z0g (Z0r (pvF 7))))))))))),?_⟩
  refine seq9 fun uz8 huz8 uz7 huz7 uz6 huz6 uz5 huz5 uz4 huz4 uz3 huz3 uz2 huz2 uz1 huz1=>?_
  walk_at "rd"
  subst huz1
  walk_at "rd"
  refine New.of fun p1 H1 h1 s1 e1=>?_
  subst huz2
  walk_at "rd"
  refine New.of fun p2 H2 h2 s2 e2=>⟨_,s2 _ _ e1,_,e2,by simp,New.of fun tl H3 h3 s3 e3=>?_⟩
  subst huz3
  walk_at "rd"
  subst huz4
  walk_at "rd"
  intro D hD
  obtain ⟨r,hr4⟩:∃ r:Nat,r=C / 4:=⟨_,rfl⟩
  have er:(C:Int) / 4=(r:Int):=by omega
  rw [er]
  refine Z3k none [some (.str (Str.ofString "abcdefghijklmnopqrstuvwxyz")),some (.int (r:Int))] (fun i=>V.str (mkS [97+(r / 64+5 * i) % 26])) rfl (fun i hi l kk hkk=>?_) (by rw [sizeLine_eq]; omega) ?_
  · walk_at "rd"
    rw [show ((r:Int) / 64+5 * (i:Int)) % 26=(((r / 64+5 * i) % 26:Nat):Int) by omega]
    exact ⟨by decide +kernel,_,Z7B (Nat.mod_lt _ (by decide)),hkk⟩
  have S3:=s1.trans (s2.trans s3)
  have s4:=Z0n hD (.lst ((List.range 8).map fun i=>V.str (mkS [97+(r / 64+5 * i) % 26])))
  have e4:upd H3 D (.lst ((List.range 8).map fun i=>V.str (mkS [97+(r / 64+5 * i) % 26]))) D=some (.lst ((Z2w r).map fun c=>V.str (mkS [c]))):=by
    rw [Z0e]; unfold P23.Z2w; rw [List.map_map]; rfl
  generalize upd H3 D (.lst ((List.range 8).map fun i=>V.str (mkS [97+(r / 64+5 * i) % 26])))=H4 at *
  have S4:=S3.trans s4
  have e3':H4 tl=some (.lst (toldS.map V.str)):=s4 _ _ e3
  have fin:∀ {H5:Hp} {o6:Option V} {bl:Addr} (l:List Nat),Same H H5→H5 tl=some (.lst (toldS.map V.str))→C % 4≠2→l=rawL (C % 4) r k→uz7 { nx:=fun x H'=>Q V.non H',rt:=Q } [some (V.int ↑C),some (V.int ↑k),some (V.str (Str.ofString "abcdefghijklmnopqrstuvwxyz")),some (V.ref tl),some (V.int (r:Int)),some (V.ref bl),o6,some (.str (mkS l))] H5:=by
    intro H5 o6 bl l s5 t5 hc2 hl
    subst huz7
    walk_at "rd"
    refine ⟨_,.inl (SqL.of t5),rfl,Z3W,ite2 (fun z=>?_) (fun z=>?_)⟩
    · have hm:mkS l∈toldS:=in_strs.mp z
      have en:Z0V C k=mkS (l.take 1)++Str.ofString (toString (k:Int)):=by
        unfold P23.Z0V P23.Z3D
        rw [if_neg hc2,← hr4,← hl,if_pos hm,Z8U hk]
        exact (Z6I _ _).symm
      have hne:l≠[]:=by rw [hl]; exact P23.J2S
      have ll:l.length≤8:=by rw [hl]; exact J5T
      refine ⟨_,rfl,by rw [Z4X,sizeLine_eq]; omega,?_⟩
      rw [Z9y hne]
      refine ⟨J0n hk,_,rfl,?_,?_⟩
      · rw [Z4X,Z8U hk,Z4X,List.length_take]
        have:=J1Y (k:=k)
        omega
      · rw [← en]
        exact q _ s5
    · have hm:mkS l∉toldS:=fun hm=>z (in_strs.mpr hm)
      have en:Z0V C k=mkS l:=by
        unfold P23.Z0V P23.Z3D
        rw [if_neg hc2,← hr4,← hl,if_neg hm]
      subst huz8
      walk_at "rd"
      rw [← en]
      exact q _ s5
  subst huz5
  walk_at "rd"
  refine ite2 (fun z=>?_) (fun z=>?_)
  · have h2:C % 4=2:=by omega
    have i19:(r+k) % 19 < 19:=Nat.mod_lt _ (by decide)
    have i10:(r+k / 19) % 10 < 10:=Nat.mod_lt _ (by decide)
    rw [show ((r:Int)+(k:Int)) % 19=(((r+k) % 19:Nat):Int) by omega,show ((r:Int)+(k:Int) / 19) % 10=(((r+k / 19) % 10:Nat):Int) by omega]
    have hl19:(r+k) % 19 < toldS.length:=i19
    refine ⟨_,SqL.of e3',_,Z4C hl19,by decide +kernel,_,J5K i10,_,rfl,?_,?_⟩
    · have hm:=List.getElem_mem hl19
      have:=J0X _ hm
      show _+1≤_
      omega
    · have en:Z0V C k=toldS[(r+k) % 19]++mkS [digC ((r+k / 19) % 10)]:=by
        unfold P23.Z0V P23.Z3D
        rw [if_pos h2,← hr4,← J1t hl19,Z6I]
      rw [show (toldS[(r+k) % 19]++{ cps:=#[digC ((r+k / 19) % 10)] })=Z0V C k from en.symm]
      exact q _ S4
  · have h2:C % 4≠2:=by omega
    subst huz6
    walk_at "rd"
    have b8:=P23.Z2G (r:=r)
    refine ite2 (fun z=>?_) (fun z=>ite2 (fun z1=>?_) (fun z1=>?_))
    · have w0:C % 4=0:=by omega
      rw [show ((r:Int)+(k:Int)) % 26=(((r+k) % 26:Nat):Int) by omega,show ((r:Int) / 8 % (1+(r:Int) % 8))=((r / 8 % (1+r % 8):Nat):Int) from rfl]
      have hat:r / 8 % (1+r % 8) < 1+r % 8:=Nat.mod_lt _ (by omega)
      refine ⟨by omega,by decide +kernel,_,Z7B (Nat.mod_lt _ (by decide)),_,e4,r / 8 % (1+r % 8),Z4i (by rw [List.length_map,b8]; omega),?_⟩
      have es:((Z2w r).map fun c=>V.str (mkS [c])).set (r / 8 % (1+r % 8)) (V.str ⟨#[97+(r+k) % 26]⟩)=((Z2w r).set (r / 8 % (1+r % 8)) (97+(r+k) % 26)).map fun c=>V.str (mkS [c]):=by rw [List.map_set]; rfl
      rw [es]
      have e5:upd H4 D (.lst (((Z2w r).set (r / 8 % (1+r % 8)) (97+(r+k) % 26)).map fun c=>V.str (mkS [c]))) D=some (.lst (((Z2w r).set (r / 8 % (1+r % 8)) (97+(r+k) % 26)).map fun c=>V.str (mkS [c]))):=Z0e
      have fD:H D=none:=Z3M S3 hD
      have ntl:tl≠D:=fun z=>by rw [z,hD] at e3; cases e3
      have S5:=Z1m (o:=.lst (((Z2w r).set (r / 8 % (1+r % 8)) (97+(r+k) % 26)).map fun c=>V.str (mkS [c]))) S4 fD
      have t5:upd H4 D (.lst (((Z2w r).set (r / 8 % (1+r % 8)) (97+(r+k) % 26)).map fun c=>V.str (mkS [c]))) tl=some (.lst (toldS.map V.str)):=by rw [Z0h ntl]; exact e3'
      generalize upd H4 D (.lst (((Z2w r).set (r / 8 % (1+r % 8)) (97+(r+k) % 26)).map fun c=>V.str (mkS [c])))=H5 at *
      refine ⟨rfl,_,SqL.of e5,?_⟩
      rw [show (1+(r:Int) % 8)=((1+r % 8:Nat):Int) by omega,Z3I _ _ (by rw [List.length_map,List.length_set,b8]; omega),← List.map_take]
      refine New.of fun p6 H6 h6 s6 e6=>Z6v e6 (by rw [List.length_take]; omega) ?_
      refine fin _ (S5.trans s6) (s6 _ _ t5) h2 ?_
      rw [w0]; rfl
    · have w1:C % 4=1:=by omega
      rw [show ((r:Int)+(k:Int) / 8) % 26=(((r+k / 8) % 26:Nat):Int) by omega,show ((k:Int) % 8)=((k % 8:Nat):Int) by omega]
      refine ⟨by decide +kernel,_,Z7B (Nat.mod_lt _ (by decide)),rfl,_,SqL.of e4,?_⟩
      rw [Z3I _ _ (by rw [List.length_map,b8]; omega),← List.map_take]
      refine New.of fun p6 H6 h6 s6 e6=>Z6v e6 (by rw [List.length_take]; omega) ⟨_,rfl,?_,?_⟩
      · rw [Z4X,List.length_take]; show 1+_≤_; omega
      · rw [show (({ cps:=#[97+(r+k / 8) % 26] }:Str)++mkS ((Z2w r).take (k % 8)))=mkS ((97+(r+k / 8) % 26)::(Z2w r).take (k % 8)) from Z6I [97+(r+k / 8) % 26] _]
        refine fin _ (S4.trans s6) (s6 _ _ e3') h2 ?_
        rw [w1]; rfl
    · have w3:C % 4=3:=by omega
      intro D2 hD2
      refine Z3k none [some (.int (k:Int)),some (.str (Str.ofString "abcdefghijklmnopqrstuvwxyz")),some (.int (r:Int))] (fun i=>V.str (mkS [97+(r+k / 8+3 * i) % 26])) rfl (fun i hi l kk hkk=>?_) (by rw [sizeLine_eq]; omega) ?_
      · walk_at "rd"
        rw [show ((r:Int)+(k:Int) / 8+3 * (i:Int)) % 26=(((r+k / 8+3 * i) % 26:Nat):Int) by omega]
        exact ⟨by decide +kernel,_,Z7B (Nat.mod_lt _ (by decide)),hkk⟩
      have s5:=Z0n hD2 (.lst ((List.range 8).map fun i=>V.str (mkS [97+(r+k / 8+3 * i) % 26])))
      have e5:upd H4 D2 (.lst ((List.range 8).map fun i=>V.str (mkS [97+(r+k / 8+3 * i) % 26]))) D2=some (.lst ((Z2B (r+k / 8)).map fun c=>V.str (mkS [c]))):=by
        rw [Z0e]; unfold P23.Z2B; rw [List.map_map]; rfl
      generalize upd H4 D2 (.lst ((List.range 8).map fun i=>V.str (mkS [97+(r+k / 8+3 * i) % 26])))=H5 at *
      have t8:=P23.Z2I (r:=r+k / 8)
      have k8:k % 8 < 8:=Nat.mod_lt _ (by decide)
      rw [show ((k:Int) % 8)=((k % 8:Nat):Int) by omega]
      refine ⟨rfl,D2,rfl,_,SqL.of e5,?_⟩
      rw [Z9x _ _ (by rw [List.length_map,t8]; omega),← List.map_drop]
      refine New.of fun p6 H6 h6 s6 e6=>⟨D2,rfl,_,SqL.of (s6 _ _ e5),?_⟩
      rw [Z3I _ _ (by rw [List.length_map,t8]; omega),← List.map_take]
      refine New.of fun p7 H7 h7 s7 e7=>⟨_,s7 _ _ e6,_,e7,by rw [List.length_map,List.length_map,List.length_drop,List.length_take]; omega,New.of fun p8 H8 h8 s8 e8=>?_⟩
      rw [← List.map_append] at e8
      refine Z6v e8 (by rw [List.length_append,List.length_drop,List.length_take]; omega) ?_
      have s58:=s5.trans (s6.trans (s7.trans s8))
      refine fin _ (S4.trans s58) (s58 _ _ e3') h2 ?_
      rw [w3]; rfl
end
end K30
end
section
set_option format.width 300
namespace K30
open PySem L2 TM WK
open P15 (Lb Fm Tm dats Z0X okF Ok maxD sumS flatR Bld)
open PW (Vl Wd Hs Pg Sc Wt Ws IxAt Look Chain Z1O Flds Z1W putS Z0Z getS Z0O Two Step Z1P Z0F leaf)
seal L2.PE L2.PA L2.PT L2.PS L2.PSs L2.PG L2.PGs L2.PI L2.PW
open P23 (Z0V Rw RsOk Z2V ElOk Z4L FsOk J0A TkOk)
inductive RowO (K:W.Frag) (H:Hp):V→Rw→Prop
 | mk {t hl:Addr} {ft:V} {us:List V} {r:Rw}:H t=some (.tup [.str r.name,oS r.elder,ft,.ref hl])→RT K H ft (pairsD r.fields)→H hl=some (.lst us)→RTs K H us (r.heads.map hdD)→RowO K H (.ref t) r
inductive Z7H (K:W.Frag) (tb:Addr) (vs:List V) (H:Hp) (Q:VK):Prop
 | mk (a:Addr) (sc:List Int) (a1:vs=[.ref a]) (a2:SqL K H a (sc.map V.int)) (a3:H tb=some (.tbl #[])) (a4:∀ l us (rs:List Rw) H',SX tb H H'→H' l=some (.lst us)→A2 (RowO K H') us rs→RsOk rs→(∀ x∈rs.map Rw.name,x∉P23.NN)→Q (.ref l) H'):Z7H K tb vs H Q
def J1q (K:W.Frag) (tb:Addr):Sp:=fun vs H Q _=>Z7H K tb vs H Q
theorem Z9j {K:W.Frag} {H:Hp}:∀ {vs:List V} {ds:List PyData},vs.length=ds.length→(∀ (j:Nat) v,vs[j]?=some v→∃ d,ds[j]?=some d∧RT K H v d)→RTs K H vs ds
 | [],[],_,_=>.nil
 | v::vs,d::ds,hl,h=>by
  obtain ⟨d',e,r⟩:=h 0 v rfl
  cases e
  exact .cons r (Z9j (Nat.succ.inj hl) fun j v hj=>h (j+1) v hj)
theorem Z8Y {K:W.Frag} {H:Hp}:∀ {vs:List V} {ds:List PyData} (j:Nat) {v:V} {d:PyData},RTs K H vs ds→RT K H v d→RTs K H (vs.set j v) (ds.set j d)
 | _,_,_,_,_,.nil,_=>.nil
 | _,_,0,_,_,.cons _ t,r=>.cons r t
 | _,_,j+1,_,_,.cons q t,r=>.cons q (Z8Y j t r)
inductive RowN (K:W.Frag) (x:Addr) (H:Hp):V→Rw→Prop
 | mk {t hl:Addr} {ft:V} {us:List V} {r:Rw}:H t=some (.tup [.str r.name,oS r.elder,ft,.ref hl])→RT K H ft (pairsD r.fields)→H hl=some (.lst us)→RTs K H us (r.heads.map hdD)→hl≠x→RowN K x H (.ref t) r
theorem RowN.row {K:W.Frag} {x:Addr} {H:Hp} {v:V} {r:Rw} (h:RowN K x H v r):RowO K H v r:=by
 cases h with
 | mk a b c d e=>exact .mk a b c d
theorem RowN.same {K:W.Frag} {x:Addr} {H H':Hp} {v:V} {r:Rw} (h:RowN K x H v r) (s:Same H H'):RowN K x H' v r:=by
 cases h with
 | mk a b c d e=>exact .mk (s _ _ a) (b.same s) (s _ _ c) (d.same s) e
theorem RowN.put {K:W.Frag} {x:Addr} {H:Hp} {v:V} {r:Rw} {ys:List V} (o:HO) (h:RowN K x H v r) (hx:H x=some (.lst ys)):RowN K x (upd H x o) v r:=by
 have k:Kp H (upd H x o):=Kp.lst _ hx
 cases h with
 | mk a b c d e=>exact .mk (k.t _ _ a) (b.kp k) (by rw [Z0h e]; exact c) (d.kp k) e
theorem RowO.same {K:W.Frag} {H H':Hp} {v:V} {r:Rw} (h:RowO K H v r) (s:Same H H'):RowO K H' v r:=by
 cases h with
 | mk a b c d=>exact .mk (s _ _ a) (b.same s) (s _ _ c) (d.same s)
structure RJ (K:W.Frag) (H6:Hp) (fl tk:Addr) (p:List Nat) (es:List (Option Nat)) (q0 ns:List Str) (m i:Nat) (H':Hp) (fv:List V) (fss:List (List (Str×Str))) (tv:List V) (tks:List (List Str)):Prop where
 s:Same H6 H'
 hf:H' fl=some (.lst fv)
 ht:H' tk=some (.lst tv)
 rf:RTs K H' fv (fss.map pairsD)
 lf:fss.length=m
 lv:tv.length=m
 lt:tks.length=m
 fo:∀ fs∈fss,FsOk q0 [] ns fs
 at':∀ (j:Nat) v x,tv[j]?=some v→tks[j]?=some x→∃ l,v=.ref l∧l≠tk∧l≠fl∧StrL H' l x∧x.length≤4 * i
 tk':∀ b,b < i→∀ j,p[b]?=some j→TkOk es fss tks j
noncomputable def RI (K:W.Frag) (H6:Hp) (a nl pp ol el fl tk:Addr) (p:List Nat) (es:List (Option Nat)) (q0 ns:List Str) (F m i:Nat) (σ:St) (H':Hp):Prop:=∃ o9 fv fss tv tks,RJ K H6 fl tk p es q0 ns m i H' fv fss tv tks∧σ=[some (V.ref a),some (V.int (F:Int)),some (V.int (m:Int)),some (V.ref nl),some (V.ref pp),some (V.ref ol),some (V.ref el),some (V.ref fl),some (V.ref tk),o9,none,none]
noncomputable def RK (K:W.Frag) (Hb:Hp) (a nl pp ol el fl tk rl:Addr) (ns:List Str) (es:List (Option Nat)) (fss:List (List (Str×Str))) (q1 q2:List Str) (F m i:Nat) (σ:St) (H':Hp):Prop:=∃ (o9 o11:Option V) (us:List V) (hds:List (List (Str×List (Str×Str)×Str))),Same Hb H'∧H' rl=some (.lst us)∧hds.length=i∧A2 (RowN K rl H') us ((List.range i).map (Z2V ns es fss fun j=>hds.getD j []))∧(∀ h∈hds,J0A q1 q2 ns h)∧σ=[some (V.ref a),some (V.int (F:Int)),some (V.int (m:Int)),some (V.ref nl),some (V.ref pp),some (V.ref ol),some (V.ref el),some (V.ref fl),some (V.ref tk),o9,some (V.ref rl),o11]
section
variable {Uh9 Cl Cs Cq Ck Ct Cw Ch Cp:Addr} {P:Program} {w:World} {K:W.Frag} {mg:Str→Option Value} {base:Heap} {B:Hp}
theorem J1f (T:Txt K mg Ct Cw Ch Cp Cl Uh9) {tb:Addr} (h__law_drawn:Has P w K mg base 1 "_law_drawn" ["_law_script","_law_k"] (Z2H K)) (h__law_name:Has P w K mg base 1 "_law_name" ["_law_cell","_law_k"] (Z7c K Z0V)) (h__law_order:Has P w K mg base 5 "_law_order" ["_law_script","_law_many"] (Z7g K tb)) (h__law_elders_drawn:Has P w K mg base 2 "_law_elders_drawn" ["_law_script","_law_order_here"] (Z4x K)) (h__law_fields:Has P w K mg base 2 "_law_fields" ["_law_script","_law_j","_law_taken","_law_pool","_law_names"] (Z4z K)) (h__law_heads:Has P w K mg base 3 "_law_heads" ["_law_script","_law_j","_law_pools","_law_names"] (Z5C K)):Has P w K mg base 6 "_law_rows" ["_law_script"] (J1q K tb):=by
  refine Has.of T.f__law_rows sc__law_rows (fun _ _ _ _ _ _ us hl=>el1 us hl fun _=>rfl) (fun vs H Q E h=>?_) (fun f cdv A outer s H vs Q E hr h=>?_)
  · obtain ⟨a,sc,rfl,_⟩:=h
    rfl
  obtain ⟨a,sc,rfl,sq,htb,q⟩:=h
  refine ⟨_,(Z0b (Z0q (i:=1) sc__law_rows.nd rfl (Or.inr rfl) (Z0v h__law_drawn hr (by decide) rfl (Z0a (pvF 0) (Z0a Z0f Z0d))))
    (Z0b (Z0q (i:=2) sc__law_rows.nd rfl (Or.inl rfl) (Z0B (r:=Z1o K) Z0s (Z1h (Z0a (Z0m Z0I Z0f (Z0m Z0H (pvF 1) Z0f)) (Z0a Z0f Z0d))) (Z0z Z9U rfl T.z_int J5o (Z0a (Z2S Z4W (Z0m Z0H (Z0m Z1b (pvF 1) Z0f) Z0f) Z0f (Z1p _)) Z0d)) (fun _ _=>rfl)))
    (Z0b (Z1n rfl sc__law_rows.nd (i:=3) rfl rfl (BlockOk.of (N:=["_law_j","_law_first"]) (nl:=[none,some 1]) (cl:=[("_law_first",s.heap.objs.size+2)]) rfl (by decide +kernel) (by decide +kernel) rfl (sub1 rfl) (nm:=["_law_first"]) rfl (by decide +kernel) rfl (fun i hi j hj=>by
            match i,hi with
            | 0,_=>cases hj
             | 1,_=>cases hj; exact ⟨_,rfl,rfl,rfl,.inl rfl⟩
            )) (Z1k rfl T.z_range (Z0a (pvF 2) Z0d))
          (fun C fp s H=>(Z0l (i:=0) (show (["_law_j","_law_first"]:List Str).Nodup by decide +kernel) rfl (Or.inl rfl)))
          (fun C fp s H=>(Z0v h__law_name hr (by decide) rfl (Z0a (Z0m Z1b (pvF 1) Z0f) (Z0a (pvF 0) Z0d)))))
    (Z0b (Z6E rfl sc__law_rows.nd (i:=4) rfl rfl (BlockOkC.mk' (y:="_law_way") (N:=["_law_way","_law_script"]) (nl:=[none,some 0]) (cl:=[("_law_script",s.heap.objs.size+1)]) rfl (by decide +kernel) rfl (by decide +kernel) rfl (sub1 rfl) (nm:=["_law_script"]) rfl (by decide +kernel) rfl (fun i hi j hj=>by
            match i,hi with
            | 0,_=>cases hj
             | 1,_=>cases hj; exact ⟨_,rfl,rfl,rfl,.inl rfl⟩
            ) (fun _=>rfl) (fun _=>rfl)) (Z1k rfl T.z_range (Z0a Z0f Z0d))
          (fun Cq fpq sq Hq=>(Z0l (i:=0) (show (["_law_way","_law_script"]:List Str).Nodup by decide +kernel) rfl (Or.inr rfl)))
          (fun Cq fpq sq Hq=>(Z0W rfl (BlockOk.of (N:=["_law_k","_law_script","_law_way"]) (nl:=[none,some 1,some 0]) (cl:=[("_law_way",Cq+1),("_law_script",s.heap.objs.size+1)]) rfl (by decide +kernel) (by decide +kernel) rfl (sub2 rfl rfl) (nm:=["_law_way","_law_script"]) rfl (by decide +kernel) rfl (fun i hi j hj=>by
            match i,hi with
            | 0,_=>cases hj
             | 1,_=>cases hj; exact ⟨_,rfl,rfl,rfl,.inl rfl⟩
             | 2,_=>cases hj; exact ⟨_,rfl,rfl,rfl,.inl rfl⟩
            )) (Z1k rfl T.z_range (Z0a Z0f Z0d))
          (fun C fp s H=>(Z0l (i:=0) (show (["_law_k","_law_script","_law_way"]:List Str).Nodup by decide +kernel) rfl (Or.inl rfl)))
          (fun C fp s H=>(Z0v h__law_name hr (by decide) rfl (Z0a (Z0m Z1b (Z0v h__law_drawn hr (by decide) rfl (Z0a (pvF 1) (Z0a (Z0m Z0I Z0f (pvF 2)) Z0d))) Z0f) (Z0a (pvF 0) Z0d)))))))
    (Z0b (Z0q (i:=5) sc__law_rows.nd rfl (Or.inl rfl) (Z0v h__law_order hr (by decide) rfl (Z0a (pvF 0) (Z0a (pvF 2) Z0d))))
    (Z0b (Z0q (i:=6) sc__law_rows.nd rfl (Or.inl rfl) (Z0v h__law_elders_drawn hr (by decide) rfl (Z0a (pvF 0) (Z0a (pvF 5) Z0d))))
    (Z0b (Z0q (i:=7) sc__law_rows.nd rfl (Or.inl rfl) (Z0m J2V (Z1h (Z0a (Z0x Z0d) Z0d)) (pvF 2)))
    (Z0b (Z1n rfl sc__law_rows.nd (i:=8) rfl rfl (BlockOk.plain (N:=["_law_name_here"]) rfl (by decide +kernel) (by decide +kernel) (by decide +kernel)) (Z1w (pvF 3))
          (fun C fp s H=>(Z0l (i:=0) (show (["_law_name_here"]:List Str).Nodup by decide +kernel) rfl (Or.inl rfl)))
          (fun C fp s H=>(Z1h Z0d)))
    (Z0b (Z2v PassesOwn.never rfl (Z1w (pvF 5)) (Z0l (i:=9) sc__law_rows.nd rfl (Or.inl rfl)) (Z0b (Z1H (Z0y Z6r (Z0B (r:=Z1o K) Z0s (pvF 6) (pvF 9) (fun _ _=>rfl)) Z2L (Z1p _)) (Z0g (Z2M (Z0z Z3v rfl T.z_list Z8O (Z0a (Z0B (r:=Z1o K) Z0s (pvF 8) (Z0B (r:=Z1o K) Z0s (pvF 6) (pvF 9) (fun _ _=>rfl)) (fun _ _=>rfl)) Z0d)) (Z4D (pvF 8) (pvF 9) Z2o))) Z0D)
    (Z0b (Z2M (Z0v h__law_fields hr (by decide) rfl (Z0a (pvF 0) (Z0a (pvF 9) (Z0a (Z0B (r:=Z1o K) Z0s (pvF 8) (pvF 9) (fun _ _=>rfl)) (Z0a (Z0B (r:=Z1o K) Z0s (pvF 4) Z0f (fun _ _=>rfl)) (Z0a (pvF 3) Z0d)))))) (Z4D (pvF 7) (pvF 9) Z2o))
    (Z0g (Z2M (Z0m Z3a (Z0B (r:=Z1o K) Z0s (pvF 8) (pvF 9) (fun _ _=>rfl)) (Z0W rfl (BlockOk.plain (N:=["_law_field"]) rfl (by decide +kernel) (by decide +kernel) (by decide +kernel)) (Z2u (Z0B (r:=Z1o K) Z0s (pvF 7) (pvF 9) (fun _ _=>rfl)))
          (fun C fp s H=>(Z0l (i:=0) (show (["_law_field"]:List Str).Nodup by decide +kernel) rfl (Or.inl rfl)))
          (fun C fp s H=>(Z0B (r:=Z1Y K) Z0K (pvF 0) Z0f (fun _ _=>rfl))))) (Z4D (pvF 8) (pvF 9) Z2o))))))
    (Z0b (Z0q (i:=10) sc__law_rows.nd rfl (Or.inl rfl) (Z1h Z0d))
    (Z0b (Z2v PassesOwn.never rfl (Z1k rfl T.z_range (Z0a (pvF 2) Z0d)) (Z0l (i:=9) sc__law_rows.nd rfl (Or.inl rfl)) (Z0b (Z0q (i:=11) sc__law_rows.nd rfl (Or.inl rfl) (Z7x (Z0y J5m (Z0B (r:=Z1o K) Z0s (pvF 6) (pvF 9) (fun _ _=>rfl)) Z2L (Z1p _)) Z2L (Z0B (r:=Z1o K) Z0s (pvF 3) (Z0B (r:=Z1o K) Z0s (pvF 6) (pvF 9) (fun _ _=>rfl)) (fun _ _=>rfl))))
    (Z0g (Z2r (Z3C PySem.F.plainAttrs_list PySem.F.slot_list_append PySem.F.type_list_append Z1j (pvF 10) (Z0a (Z0x (Z0a (Z0B (r:=Z1o K) Z0s (pvF 3) (pvF 9) (fun _ _=>rfl)) (Z0a (pvF 11) (Z0a (Z0B (r:=Z1o K) Z0s (pvF 7) (pvF 9) (fun _ _=>rfl)) (Z0a (Z0v h__law_heads hr (by decide) rfl (Z0a (pvF 0) (Z0a (pvF 9) (Z0a (pvF 4) (Z0a (pvF 3) Z0d))))) Z0d))))) Z0d))))))
    (Z0g (Z0r (pvF 10)))))))))))))),?_⟩
  refine J8n fun uz11 huz11 uz10 huz10 uz9 huz9 uz8 huz8 uz7 huz7 uz6 huz6 uz5 huz5 uz4 huz4 uz3 huz3 uz2 huz2 uz1 huz1=>?_
  walk_at "rd"
  refine ⟨a,sc,0,rfl,sq,by omega,fun r rz r0 r1=>?_⟩
  obtain ⟨F,rfl⟩:∃ F:Nat,r=(F:Int):=⟨r.toNat,by omega⟩
  subst huz1
  walk_at "rd"
  obtain ⟨m,hm,m1,m12⟩:∃ m:Nat,atI [V.int (1+(F:Int) % 6),V.int 12] (if (F:Int) / 6 % 8=1 then 1 else 0)=some (.int (m:Int))∧1≤m∧m≤12:=by
    by_cases z:(F:Int) / 6 % 8=1
    · rw [if_pos z]; exact ⟨12,ix1,by omega,by omega⟩
    · rw [if_neg z]
      exact ⟨1+F % 6,ix0.trans (congrArg (fun y=>some (V.int y)) (by omega)),by omega,by omega⟩
  refine New.of fun p1 H1 h1 s1 e1=>.inr ⟨_,SqL.of e1,_,hm,?_⟩
  subst huz2
  walk_at "rd"
  rw [Int.toNat_natCast]
  refine ⟨by omega,by omega,fun nl hnl=>?_⟩
  refine Z4e (n:=m) none [some (.int (F:Int))] (fun j v H=>v=.str (Z0V (F / 48) j)) (fun _ _ _ _ h _=>h) rfl hnl (by rw [sizeLine_eq]; omega) (fun i hi H2 K' s2 kk=>?_) (fun vs H2 s2 hnl2 lvs hR=>?_)
  · walk_at "rd"
    exact ⟨F / 48,i,by rw [show (F:Int) / 48=((F / 48:Nat):Int) by omega],by omega,fun H3 s3=>kk _ _ s3 rfl⟩
  obtain ⟨ns,hns⟩:∃ ns:List Str,ns=(List.range m).map fun j=>Z0V (F / 48) j:=⟨_,rfl⟩
  have lns:ns.length=m:=by rw [hns,List.length_map,List.length_range]
  have ndn:ns.Nodup:=by rw [hns]; exact P23.Z7S _ _ (by omega)
  have son:∀ x∈ns,P23.SOk x:=by rw [hns]; exact P23.Z5x _ _ (by omega)
  have nwn:∀ x∈ns,x∉P23.NN:=by rw [hns]; exact P23.J0p _ _ (by omega)
  have hnl3:StrL H2 nl ns:=by
    show H2 nl=_
    rw [hnl2]
    refine congrArg (fun l=>some (HO.lst l)) (List.ext_getElem? fun j=>?_)
    rw [hns,List.map_map]
    by_cases hj:j < m
    · rw [List.getElem?_map,List.getElem?_range hj,List.getElem?_eq_getElem (by omega)]
      exact congrArg some (hR j _ (List.getElem?_eq_getElem (by omega)))
    · rw [List.getElem?_eq_none (by omega),List.getElem?_eq_none (by rw [List.length_map,List.length_range]; omega)]
  have S2:=s1.trans s2
  clear hR hnl2 lvs hns e1 h1
  subst huz3
  walk_at "rd"
  intro pp hpp
  refine Z5c (n:=3) none [some (.ref a)] (fun i x=>x=.int ((i:Nat):Int)) (fun i vs H'=>Same H2 H'∧∀ v∈vs,∃ l xs,v=V.ref l∧l≠pp∧StrL H' l xs∧xs.length=26∧xs.Nodup∧∀ x∈xs,P23.SOk x) rfl (by rw [sizeLine_eq]; omega) ⟨Z0n hpp _,fun v hv=>absurd hv List.not_mem_nil⟩ (fun i vs H' hi hW=>⟨hi,fun x H3 hy=>?_⟩) (fun vs H' hW=>Nat.le_refl _) (fun i x vs H' K' hi hx hW hD kk=>?_) (fun vs H3 hW hD lvs=>?_)
  · obtain ⟨rfl,rfl⟩:=hy
    exact ⟨rfl,by rw [Int.zero_add]⟩
  · subst hx
    obtain ⟨sW,hWv⟩:=hW
    walk_at "rd"
    intro D2 hD2
    have nD:D2≠pp:=fun z=>by rw [z,hD] at hD2; cases hD2
    refine Z4e (n:=26) none [some (.ref a),some (.int (i:Int))] (fun j v H=>v=.str (Z0V ((Z4L sc (1+i)).toNat / 3) j)) (fun _ _ _ _ h _=>h) rfl hD2 (by rw [sizeLine_eq]; omega) (fun j hj H4 K2 s4 kk2=>?_) (fun vs2 H4 s4 hD4 lvs2 hR2=>?_)
    · walk_at "rd"
      refine ⟨a,sc,1+i,by rw [Int.natCast_add]; rfl,sq.same (S2.trans (sW.trans s4)),by omega,fun r rz r0 r1=>?_⟩
      obtain ⟨R,rfl⟩:∃ R:Nat,r=(R:Int):=⟨r.toNat,by omega⟩
      exact ⟨_,rfl,R / 3,j,by rw [show (R:Int) / 3=((R / 3:Nat):Int) by omega],hj,fun H5 s5=>kk2 _ _ s5 (by rw [← rz,Int.toNat_natCast])⟩
    · have hxs:vs2=(P23.Z9X ((Z4L sc (1+i)).toNat / 3)).map V.str:=by
        refine List.ext_getElem? fun j=>?_
        unfold P23.Z9X
        rw [List.map_map]
        by_cases hj:j < 26
        · rw [List.getElem?_map,List.getElem?_range hj,List.getElem?_eq_getElem (by omega)]
          exact congrArg some (hR2 j _ (List.getElem?_eq_getElem (by omega)))
        · rw [List.getElem?_eq_none (by omega),List.getElem?_eq_none (by rw [List.length_map,List.length_range]; omega)]
      subst hxs
      refine kk _ _ (s4 _ _ hD) ⟨Z1m (sW.trans s4) hpp,fun v hv=>?_⟩
      rcases List.mem_append.mp hv with hv | hv
      · obtain ⟨l,ys,rfl,nl2,hl,ll⟩:=hWv v hv
        refine ⟨l,ys,rfl,nl2,?_,ll⟩
        show upd _ _ _ l=_
        rw [Z0h nl2]; exact s4 _ _ hl
      · cases List.mem_singleton.mp hv
        refine ⟨D2,P23.Z9X ((Z4L sc (1+i)).toNat / 3),rfl,nD,?_,P23.J0T _,P23.Z7S _ 26 (Nat.le_refl _),P23.Z5x _ 26 (Nat.le_refl _)⟩
        show upd _ _ _ D2=_
        rw [Z0h nD]; exact hD4
  obtain ⟨s3,hWv⟩:=hW
  obtain ⟨v0,v1,v2,rfl⟩:∃ v0 v1 v2,vs=[v0,v1,v2]:=by
    match vs,lvs with
    | [v0,v1,v2],_=>exact ⟨v0,v1,v2,rfl⟩
  obtain ⟨p0,q0,rfl,_,hp0,l0,nd0,so0⟩:=hWv v0 (by simp)
  obtain ⟨p1',q1,rfl,_,hp1,l1,nd1,so1⟩:=hWv v1 (by simp)
  obtain ⟨p2,q2,rfl,_,hp2,l2,nd2,so2⟩:=hWv v2 (by simp)
  have S3:=S2.trans s3
  have hnl4:StrL H3 nl ns:=s3 _ _ hnl3
  clear hWv lvs
  subst huz4
  walk_at "rd"
  refine ⟨a,sc,m,rfl,sq.same S3,by omega,S3 _ _ htb,fun H4 ol p sx4 hol eol hperm=>?_⟩
  have lp:p.length=m:=by rw [hperm.length_eq,List.length_range]
  have hT3:=S3 _ _ htb
  have sx04:SX tb H H4:=(SX.of S3).trans sx4
  have kl:∀ {l:Addr} {xs:List V},H3 l=some (.lst xs)→H4 l=some (.lst xs):=fun h=>sx4 _ _ (Z3V h hT3 (fun z=>by cases z)) h
  have hnl5:StrL H4 nl ns:=kl hnl4
  have hpp5:H4 pp=some (.lst [.ref p0,.ref p1',.ref p2]):=kl hD
  have hp05:StrL H4 p0 q0:=kl hp0
  have hp15:StrL H4 p1' q1:=kl hp1
  have hp25:StrL H4 p2 q2:=kl hp2
  have sq5:=J5Q sx04 htb sq
  clear kl hnl4 hD hp0 hp1 hp2 hnl3 s3 sx4 S2 s2 s1 S3 hT3
  subst huz5
  walk_at "rd"
  refine ⟨a,sc,ol,p,rfl,sq5,eol,by rw [lp]; exact hperm,by omega,by omega,fun H6 el es s6 hel eel les hels=>?_⟩
  rw [lp] at les hels
  have hnl6:StrL H6 nl ns:=s6 _ _ hnl5
  have hpp6:=s6 _ _ hpp5
  have hp06:StrL H6 p0 q0:=s6 _ _ hp05
  have hp16:StrL H6 p1' q1:=s6 _ _ hp15
  have hp26:StrL H6 p2 q2:=s6 _ _ hp25
  have eol6:=s6 _ _ eol
  have sq6:=sq5.same s6
  have sx06:SX tb H H6:=sx04.trans (SX.of s6)
  clear hnl5 hpp5 hp05 hp15 hp25 eol sq5 sx04 s6
  subst huz6
  walk_at "rd"
  refine New.of fun e0 H7 h7 s7 e7=>New.of fun p8 H8 h8 s8 e8=>⟨_,e8,by omega,by omega,by rw [Int.toNat_natCast]; show 1 * _≤_; omega,fun fl hfl=>?_⟩
  have efl:(List.replicate ((m:Nat):Int).toNat [V.ref e0]).flatten=List.replicate m (V.ref e0):=by rw [Int.toNat_natCast]; exact Z5i
  rw [efl]
  have s9:=Z0n hfl (.lst (List.replicate m (V.ref e0)))
  have e9:upd H8 fl (.lst (List.replicate m (V.ref e0))) fl=some (.lst (List.replicate m (V.ref e0))):=Z0e
  generalize upd H8 fl (.lst (List.replicate m (V.ref e0)))=H9 at *
  have S8:=s7.trans s8
  have fl6:H6 fl=none:=Z3M S8 hfl
  have S9:=S8.trans s9
  subst huz7
  walk_at "rd"
  have hnl9:StrL H9 nl ns:=S9 _ _ hnl6
  refine ⟨⟨_,SqL.of hnl9⟩,fun tk htk=>?_⟩
  refine Z5c (n:=m) none [] (fun i x=>True) (fun i vs H'=>Same H9 H'∧∀ v∈vs,∃ l,v=V.ref l∧l≠tk∧l≠fl∧StrL H' l []) rfl (by rw [sizeLine_eq]; omega) ⟨Z0n htk _,fun v hv=>absurd hv List.not_mem_nil⟩ (fun i vs H' hi hW=>⟨⟨_,_,SqL.of (hW.1 _ _ hnl9),List.getElem?_eq_getElem (by rw [List.length_map]; omega)⟩,fun x H3 hy=>⟨hy.1,trivial⟩⟩) (fun vs H' hW=>⟨_,SqL.of (hW.1 _ _ hnl9),by rw [List.length_map]; omega⟩) (fun i x vs H' K' hi hx hW hD kk=>?_) (fun vs H10 hW hD lvs=>?_)
  · obtain ⟨sW,hWv⟩:=hW
    walk_at "rd"
    refine New.of fun d H3 h3 s3 e3=>?_
    have n1:d≠tk:=fun z=>by rw [z,hD] at h3; cases h3
    have n2:d≠fl:=fun z=>by rw [z,sW _ _ e9] at h3; cases h3
    refine kk _ _ (s3 _ _ hD) ⟨Z1m (sW.trans s3) htk,fun v hv=>?_⟩
    rcases List.mem_append.mp hv with hv | hv
    · obtain ⟨l,rfl,a1,a2,a3⟩:=hWv v hv
      refine ⟨l,rfl,a1,a2,?_⟩
      show upd _ _ _ l=_
      rw [Z0h a1]; exact s3 _ _ a3
    · cases List.mem_singleton.mp hv
      refine ⟨d,rfl,n1,n2,?_⟩
      show upd _ _ _ d=_
      rw [Z0h n1]; exact e3
  obtain ⟨s10,hWv⟩:=hW
  have ntf:tk≠fl:=fun z=>by rw [z,e9] at htk; cases htk
  have ut:Same H6 H8:=S8
  have i0:RJ K H6 fl tk p es q0 ns m 0 H10 (List.replicate m (V.ref e0)) (List.replicate m []) vs (List.replicate m []):=by
    refine ⟨S9.trans s10,s10 _ _ e9,hD,?_,by rw [List.length_replicate],lvs,by rw [List.length_replicate],fun fs hfs=>?_,fun j v x hv hx=>?_,fun b hb=>absurd hb (Nat.not_lt_zero _)⟩
    · have e0':=(s8.trans (s9.trans s10)) _ _ e7
      refine Z9j (by rw [List.length_replicate,List.length_map,List.length_replicate]) fun j v hj=>?_
      rw [List.getElem?_replicate] at hj
      split at hj
      · cases hj
        rename_i hjm
        exact ⟨_,by rw [List.getElem?_map,List.getElem?_replicate,if_pos hjm]; rfl,.tup (SqT.of e0') .nil⟩
      · cases hj
    · rw [(List.mem_replicate.mp hfs).2]; exact ⟨Nat.zero_le _,(fun f hf=>absurd hf List.not_mem_nil),.nil⟩
    · obtain ⟨l,rfl,a1,a2,a3⟩:=hWv v (List.mem_of_getElem? hv)
      rw [List.getElem?_replicate] at hx
      split at hx
      · cases hx; exact ⟨l,rfl,a1,a2,a3,Nat.zero_le _⟩
      · cases hx
  subst huz8
  walk_at "rd"
  have tk6:H6 tk=none:=Z3M S9 htk
  refine ⟨⟨_,SqL.of ((S9.trans s10) _ _ eol6)⟩,?_⟩
  refine Z2n (p.map fun i=>V.int ((i:Nat):Int)) (RI K H6 a nl pp ol el fl tk p es q0 ns F m) ⟨none,_,_,_,_,i0,rfl⟩ (fun i σ H' _ hI=>?_) (fun i y σ H' hy hI=>?_) (fun σ H' hI=>?_)
  · obtain ⟨o9,fv,fss,tv,tks,J,_⟩:=hI
    exact SqL.of (J.s _ _ eol6)
  · obtain ⟨o9,fv,fss,tv,tks,J,rfl⟩:=hI
    rw [List.getElem?_map] at hy
    obtain ⟨j,hy2,rfl⟩:=Option.map_eq_some_iff.mp hy
    clear hy
    have hy:=hy2
    clear hy2
    have hjm:j < m:=List.mem_range.mp (hperm.mem_iff.mp (List.mem_of_getElem? hy))
    have him:i < m:=by have:=(List.getElem?_eq_some_iff.mp hy).1; omega
    refine seq3 fun uy2 huy2 uy1 huy1=>?_
    walk_at "rd"
    have key:∀ (D:Ends),(∀ σ H,RI K H6 a nl pp ol el fl tk p es q0 ns F m (i+1) σ H→D.nx σ H)→∀ H5 tv tks,RJ K H6 fl tk p es q0 ns m i H5 fv fss tv tks→(∀ e,es[j]?=some (some e)→tks.getD e []=tks.getD j [])→uy1 D [some (V.ref a),some (V.int F),some (V.int m),some (V.ref nl),some (V.ref pp),some (V.ref ol),some (V.ref el),some (V.ref fl),some (V.ref tk),some (V.int j),none,none] H5:=by
      intro D hD5 H5 tv tks J hel5
      have lfv:fv.length=m:=by rw [J.rf.length,List.length_map]; exact J.lf
      have ltv:=J.lv
      have ltk:=J.lt
      have hx5:tks[j]?=some (tks.getD j []):=by rw [P23.Z1u (by omega)]; exact List.getElem?_eq_getElem (by omega)
      have hv5:tv[j]?=some tv[j]:=List.getElem?_eq_getElem (by omega)
      obtain ⟨l,e1,n1,n2,hl,hxl⟩:=J.at' j tv[j] _ hv5 hx5
      rw [e1] at hv5
      generalize tks.getD j []=tj at *
      subst huy1
      walk_at "rd"
      refine ⟨_,SqL.of J.ht,_,Z0C hv5,_,SqL.of (J.s _ _ hpp6),.ref p0,ix0,a,l,p0,nl,sc,j,tj,q0,ns,rfl,sq6.same J.s,by omega,hl,J.s _ _ hp06,l0,nd0,J.s _ _ hnl6,by omega,by omega,fun u fs H7 s7 fso rfs=>?_⟩
      have hf7:=s7 _ _ J.hf
      refine ⟨_,hf7,j,Z4i (by omega),?_⟩
      have tk8:upd H7 fl (.lst (fv.set j u)) tk=some (.lst tv):=by rw [Z0h ntf]; exact s7 _ _ J.ht
      have hf8:upd H7 fl (.lst (fv.set j u)) fl=some (.lst (fv.set j u)):=Z0e
      have hl8:upd H7 fl (.lst (fv.set j u)) l=some (.lst (tj.map V.str)):=by rw [Z0h n2]; exact s7 _ _ hl
      have s68:Same H6 (upd H7 fl (.lst (fv.set j u))):=Z1m (J.s.trans s7) fl6
      have kp8:Kp H7 (upd H7 fl (.lst (fv.set j u))):=Kp.lst _ hf7
      have oth8:∀ b o,b≠fl→H5 b=some o→upd H7 fl (.lst (fv.set j u)) b=some o:=fun b o nb hb=>by rw [Z0h nb]; exact s7 _ _ hb
      have ru8:=rfs.kp kp8
      have rf8:RTs K (upd H7 fl (.lst (fv.set j u))) (fv.set j u) ((fss.set j fs).map pairsD):=by
        rw [List.map_set]
        exact Z8Y j ((J.rf.same s7).kp kp8) ru8
      generalize upd H7 fl (.lst (fv.set j u))=H8 at *
      subst huy2
      walk_at "rd"
      obtain ⟨ua,uxs,rfl,huq,hux⟩:=RT.tup_inv ru8
      have lux:uxs.length=fs.length:=by rw [hux.length,List.length_map]
      have l4:=fso.le
      refine ⟨_,SqL.of tk8,_,Z0C hv5,_,SqL.of hf8,.ref ua,Z0C (by rw [List.getElem?_set_self (by omega)]),ua,rfl,⟨_,huq⟩,fun D2 hD2=>?_⟩
      refine Z0S (ys:=uxs) none [] (fun k v H=>∃ t,fs[k]?=some t∧v=.str t.1) (fun _ _ _ _ h _=>h) rfl hD2 (by rw [sizeLine_eq]; omega) (fun H1 s=>SqT.same huq s) (fun k y hy2 H9 K' s9 kk=>?_) (fun vs H9 s9 hD9 lvs hR=>?_)
      · obtain ⟨d,hd,hr'⟩:=hux.at hy2
        rw [List.getElem?_map] at hd
        obtain ⟨t,ht2,rfl⟩:=Option.map_eq_some_iff.mp hd
        obtain ⟨b,zs,rfl,hz,hzs⟩:=RT.tup_inv hr'
        obtain ⟨v1,r1,rfl,k1,hzs⟩:=hzs.inv
        cases k1.str_inv
        walk_at "rd"
        exact ⟨_,SqT.same hz s9,_,ix0,kk _ _ (Same.refl _) ⟨t,ht2,rfl⟩⟩
      · have ev:=Z3c (g:=fun t:Str×Str=>V.str t.1) (lvs.trans lux) hR
        have ev2:vs=(fs.map Prod.fst).map V.str:=by rw [ev,List.map_map]; rfl
        rw [ev2] at hD9
        refine ⟨l,rfl,D2,rfl,_,s9 _ _ hl8,_,hD9,by rw [List.length_map,List.length_map,List.length_map]; omega,New.of fun p' H10 h10 s10 e10=>?_⟩
        have S:=s9.trans s10
        have tk10:=S _ _ tk8
        have n10:p'≠tk:=fun z=>by rw [z,s9 _ _ tk8] at h10; cases h10
        have n10':p'≠fl:=fun z=>by rw [z,s9 _ _ hf8] at h10; cases h10
        refine ⟨_,tk10,j,Z4i (by omega),hD5 _ _ ⟨_,fv.set j (.ref ua),fss.set j fs,tv.set j (.ref p'),tks.set j (tj++fs.map Prod.fst),⟨Z1m (s68.trans S) tk6,?_,Z0e,RTs.kp (Kp.lst _ tk10) (rf8.same S),by rw [List.length_set]; exact J.lf,by rw [List.length_set]; exact J.lv,by rw [List.length_set]; exact J.lt,fun x hx=>?_,fun j' v x hv hx=>?_,P23.J3T hperm hels J.lf J.lt hy J.tk' hel5 (fun f hf=>(fso.nm f hf).2.1)⟩,rfl⟩⟩
        · rw [Z0h ntf.symm]; exact S _ _ hf8
        · rcases List.mem_or_eq_of_mem_set hx with hx | hx
          · exact J.fo x hx
          · rw [hx]; exact ⟨fso.le,fun f hf=>⟨(fso.nm f hf).1,List.not_mem_nil,(fso.nm f hf).2.2⟩,fso.nd⟩
        · by_cases hjj:j=j'
          · subst hjj
            rw [List.getElem?_set_self (by omega)] at hv hx
            cases hv
            cases hx
            refine ⟨p',rfl,n10,n10',?_,by rw [List.length_append,List.length_map]; omega⟩
            show upd _ _ _ _=_
            rw [Z0h n10,e10,List.map_append]
          · rw [List.getElem?_set_ne hjj] at hv hx
            obtain ⟨l',e1',n1',n2',hl',hx'⟩:=J.at' j' v x hv hx
            refine ⟨l',e1',n1',n2',?_,by omega⟩
            show upd _ _ _ _=_
            rw [Z0h n1']; exact S _ _ (oth8 _ _ n2' hl')
    have el':SqL K H' el (es.map oV):=SqL.of (J.s _ _ eel)
    obtain ⟨o,ho⟩:∃ o,es[j]?=some o:=⟨_,List.getElem?_eq_getElem (by omega)⟩
    have ato:atI (es.map oV) (j:Int)=some (oV o):=Z0C (by rw [List.getElem?_map,ho]; rfl)
    refine ⟨_,el',_,ato,?_⟩
    cases o with
    | none=>exact ite2 (fun z=>absurd rfl z) (fun _=>key _ (fun _ _ h=>h) H' tv tks J (fun e he=>by rw [ho] at he; cases he))
    | some e=>
      refine ite2 (fun _=>?_) (fun z=>absurd (fun z=>by cases z) z)
      obtain ⟨hem,hne⟩:=P23.J5X hperm hels ho
      have ltv:=J.lv
      have ltk:=J.lt
      have hxe:tks[e]?=some (tks.getD e []):=by rw [P23.Z1u (by omega)]; exact List.getElem?_eq_getElem (by omega)
      have hve:tv[e]?=some tv[e]:=List.getElem?_eq_getElem (by omega)
      obtain ⟨le,e1,n1,n2,hle,hxl⟩:=J.at' e tv[e] _ hve hxe
      rw [e1] at hve
      refine ⟨_,el',_,ato,(e:Int),rfl,_,SqL.of J.ht,_,Z0C hve,le,rfl,_,.inl (SqL.of hle),fun l hl=>?_⟩
      have s2:=Z0n hl (.lst ((tks.getD e []).map V.str))
      have e2:upd H' l (.lst ((tks.getD e []).map V.str)) l=some (.lst ((tks.getD e []).map V.str)):=Z0e
      have n3:l≠tk:=fun z=>by rw [z,J.ht] at hl; cases hl
      have n4:l≠fl:=fun z=>by rw [z,J.hf] at hl; cases hl
      generalize upd H' l (.lst ((tks.getD e []).map V.str))=H2' at *
      have tk2:=s2 _ _ J.ht
      refine ⟨_,tk2,j,Z4i (by omega),key _ (fun _ _ h=>h) _ (tv.set j (.ref l)) (tks.set j (tks.getD e [])) ⟨Z1m (J.s.trans s2) tk6,?_,Z0e,RTs.kp (Kp.lst _ tk2) (J.rf.same s2),J.lf,by rw [List.length_set]; exact J.lv,by rw [List.length_set]; exact J.lt,J.fo,fun j' v x hv hx=>?_,P23.J3F hperm hels hy J.tk'⟩ (fun e' he'=>?_)⟩
      · rw [Z0h ntf.symm]; exact s2 _ _ J.hf
      · by_cases hjj:j=j'
        · subst hjj
          rw [List.getElem?_set_self (by omega)] at hv hx
          cases hv
          cases hx
          refine ⟨l,rfl,n3,n4,?_,hxl⟩
          show upd _ _ _ _=_
          rw [Z0h n3]; exact e2
        · rw [List.getElem?_set_ne hjj] at hv hx
          obtain ⟨l',e1',n1',n2',hl',hx'⟩:=J.at' j' v x hv hx
          refine ⟨l',e1',n1',n2',?_,hx'⟩
          show upd _ _ _ _=_
          rw [Z0h n1']; exact s2 _ _ hl'
      · rw [ho] at he'; cases he'
        rw [P23.Z2Q hne,P23.Z6A (by omega)]
  · obtain ⟨o9,fv,fss,tv,tks,J,rfl⟩:=hI
    have lfv:fv.length=m:=by rw [J.rf.length,List.length_map]; exact J.lf
    have lfs:=J.lf
    subst huz9
    walk_at "rd"
    refine New.of fun rl H11 h11 s11 e11=>?_
    subst huz10
    walk_at "rd"
    refine ⟨by omega,by omega,?_⟩
    rw [Int.toNat_natCast]
    refine Z2F (RK K H' a nl pp ol el fl tk rl ns es fss q1 q2 F m) ⟨o9,none,[],[],s11,e11,rfl,.nil,(fun f hf=>absurd hf List.not_mem_nil),rfl⟩ (fun i σ G' hi hI=>?_) (fun σ G' hI=>?_)
    · obtain ⟨o9,o11,us,hds,sI,hrl,lhd,hA,hhd,rfl⟩:=hI
      have lus:us.length=i:=by rw [hA.len,List.length_map,List.length_range]
      have s6I:=J.s.trans sI
      rw [Int.zero_add]
      refine seq2 fun ux1 hux1=>?_
      walk_at "rd"
      have key:∀ (D:Ends),(∀ σ H,RK K H' a nl pp ol el fl tk rl ns es fss q1 q2 F m (i+1) σ H→D.nx σ H)→ux1 D [some (V.ref a),some (V.int F),some (V.int m),some (V.ref nl),some (V.ref pp),some (V.ref ol),some (V.ref el),some (V.ref fl),some (V.ref tk),some (V.int i),some (V.ref rl),some (oS ((es.getD i none).map fun e=>ns.getD e ""))] G':=by
        intro D hD
        have hfi:fv[i]?=some fv[i]:=List.getElem?_eq_getElem (by omega)
        obtain ⟨d,hd,rfi⟩:=J.rf.at hfi
        rw [List.getElem?_map] at hd
        obtain ⟨fs,hfs,rfl⟩:=Option.map_eq_some_iff.mp hd
        subst hux1
        walk_at "rd"
        refine ⟨.inl ⟨rfl,_,SqL.of hrl⟩,_,SqL.of (s6I _ _ hnl6),_,Z4C (show i < ns.length by omega),_,SqL.of (sI _ _ J.hf),_,Z0C hfi,a,pp,p0,p1',p2,nl,sc,i,q0,q1,q2,ns,rfl,sq6.same s6I,by omega,s6I _ _ hpp6,s6I _ _ hp16,l1,nd1,s6I _ _ hp26,l2,nd2,s6I _ _ hnl6,by omega,fun hl hs hus H2 s2 h2 e2 r2 hok=>New.of fun p3 H3 h3 s3 e3=>?_⟩
        have S:=s2.trans s3
        have hrl3:=S _ _ hrl
        have row:RowN K rl H3 (.ref p3) (Z2V ns es fss (fun j=>(hds++[hs]).getD j []) i):=by
          have e1':ns.getD i ""=ns[i]:=P23.Z1u (by omega)
          have e2':fss.getD i []=fs:=by rw [List.getD_eq_getElem?_getD,hfs]; rfl
          have e3':(hds++[hs]).getD i []=hs:=by rw [List.getD_eq_getElem?_getD,List.getElem?_append_right (by omega),lhd,Nat.sub_self]; rfl
          refine RowN.mk (r:=Z2V ns es fss (fun j=>(hds++[hs]).getD j []) i) (ft:=fv[i]) (us:=hus) (hl:=hl) ?_ ?_ (s3 _ _ e2) ?_ (fun z=>by rw [z,hrl] at h2; cases h2)
          · show H3 p3=some (.tup [.str (ns.getD i ""),oS _,_,_])
            rw [e1']; exact e3
          · show RT K H3 _ (pairsD (fss.getD i []))
            rw [e2']; exact rfi.same (sI.trans S)
          · show RTs K H3 hus (((hds++[hs]).getD i []).map hdD)
            rw [e3']; exact r2.same s3
        have er:(List.range i).map (Z2V ns es fss fun j=>(hds++[hs]).getD j [])=(List.range i).map (Z2V ns es fss fun j=>hds.getD j []):=List.map_congr_left fun j hj=>by
          have:(hds++[hs]).getD j []=hds.getD j []:=by
            have:=List.mem_range.mp hj
            rw [List.getD_eq_getElem?_getD,List.getD_eq_getElem?_getD,List.getElem?_append_left (by omega)]
          unfold P23.Z2V
          dsimp only
          rw [this]
        refine ⟨_,hrl3,by omega,hD _ _ ⟨_,_,us++[.ref p3],hds++[hs],Z1m (sI.trans S) h11,Z0e,by rw [List.length_append,lhd]; rfl,?_,fun h hm=>?_,rfl⟩⟩
        · rw [List.range_succ,List.map_append,er]
          exact A2.snoc (hA.mono fun _ _ r=>(r.same S).put _ hrl3) (row.put _ hrl3)
        · rcases (List.mem_append.mp hm) with hm | hm
          · exact hhd h hm
          · cases List.mem_singleton.mp hm; exact hok
      have el':SqL K G' el (es.map oV):=SqL.of (s6I _ _ eel)
      obtain ⟨o,ho⟩:∃ o,es[i]?=some o:=⟨_,List.getElem?_eq_getElem (by omega)⟩
      have ato:atI (es.map oV) (i:Int)=some (oV o):=Z0C (by rw [List.getElem?_map,ho]; rfl)
      have eo:es.getD i none=o:=by rw [List.getD_eq_getElem?_getD,ho]; rfl
      rw [eo] at key
      refine ⟨_,el',_,ato,?_⟩
      cases o with
      | none=>exact ite2 (fun _=>key _ (fun _ _ h=>h)) (fun z=>absurd rfl z)
      | some e=>
        have hem:=(P23.J5X hperm hels ho).1
        have atn:atI (ns.map V.str) (e:Int)=some (.str (ns.getD e "")):=by rw [P23.Z1u (by omega)]; exact Z4C (by omega)
        exact ite2 (fun z=>by cases z) (fun _=>⟨_,el',_,ato,(e:Int),rfl,_,SqL.of (s6I _ _ hnl6),_,atn,key _ (fun _ _ h=>h)⟩)
    · obtain ⟨o9,o11,us,hds,sI,hrl,lhd,hA,hhd,rfl⟩:=hI
      subst huz11
      walk_at "rd"
      refine q rl us _ G' (sx06.trans (SX.of (J.s.trans sI))) hrl (hA.mono fun _ _ r=>r.row) (P23.J3R lns les lfs ndn hperm hels m1 m12 son so0 so1 so2 J.fo (fun j hj=>by rw [P23.Z1u (by omega)]; exact hhd _ (List.getElem_mem _)) (fun b hb=>J.tk' b (by rw [List.length_map]; omega))) (fun x hx=>?_)
      rw [List.map_map] at hx
      obtain ⟨j,hj,rfl⟩:=List.mem_map.mp hx
      have hjm:=List.mem_range.mp hj
      show ns.getD j ""∉_
      rw [P23.Z1u (by omega)]
      exact nwn _ (List.getElem_mem _)
end
end K30
end
section
set_option format.width 300
namespace K30
open PySem L2 TM WK
open P15 (Lb Fm Tm dats Z0X okF Ok maxD sumS flatR Bld)
open PW (Vl Wd Hs Pg Sc Wt Ws IxAt Look Chain Z1O Flds Z1W putS Z0Z getS Z0O Two Step Z1P Z0F leaf)
seal L2.PE L2.PA L2.PT L2.PS L2.PSs L2.PG L2.PGs L2.PI L2.PW
inductive J0u (c:CS) (K:W.Frag) (vs:List V) (H:Hp) (Q:VK):Prop
 | mk (v:V) (d:Wd) (a1:vs=[v]) (a2:RT K H v (Z2D d)) (a3:WdOk d) (a4:∀ u H',Same H H'→WdO K c H' u d→Q u H'):J0u c K vs H Q
def Z6L (c:CS) (K:W.Frag):Sp:=fun vs H Q _=>J0u c K vs H Q
inductive Z7y (c:CS) (K:W.Frag) (vs:List V) (H:Hp) (Q:VK):Prop
 | mk (v:V) (d:Hs) (a1:vs=[v]) (a2:RT K H v (Z3t d)) (a3:HsOk d) (a4:∀ u H',Same H H'→HsO K c H' u d→Q u H'):Z7y c K vs H Q
def Z7F (c:CS) (K:W.Frag):Sp:=fun vs H Q _=>Z7y c K vs H Q
inductive Z4t (c:CS) (K:W.Frag) (vs:List V) (H:Hp) (Q:VK):Prop
 | mk (v:V) (d:Pg) (a1:vs=[v]) (a2:RT K H v (Z7a d)) (a3:(∀ h∈d.houses,HsOk h)) (a4:d.houses.length≤100) (a5:WdOk d.main) (a6:d.main.name="main") (a7:∀ u H',Same H H'→PgO K c H' u d→Q u H'):Z4t c K vs H Q
def Z8E (c:CS) (K:W.Frag):Sp:=fun vs H Q _=>Z4t c K vs H Q
theorem Z2Y {H:Hp} {x dx C:Addr} (hx:H x=none) (hdx:H dx=none) (ne:dx≠x):Same H (upd (upd H dx (.own x)) x (.ins C dx [])):=
 (Z0n hdx _).trans (Z0n (by rw [Z0h (fun z=>ne z.symm)]; exact hx) _)
theorem J7A {K:W.Frag} {H:Hp} {v:V} {o:Option Str} (h:RT K H v (oD o)):v=oS o:=by
 cases o with
 | none=>cases h; rfl
 | some s=>cases h; rfl
theorem J2J {α:Type} {Rr:V→α→Prop} {vs:List V} {ts:List α} (l:vs.length=ts.length) (h:∀ (j:Nat) v,vs[j]?=some v→∃ t,ts[j]?=some t∧Rr v t):A2 Rr vs ts:=A2.of l h
section
variable {Uh9 Cl Cs Cq Ck Ct Cw Ch Cp:Addr} {P:Program} {w:World} {K:W.Frag} {mg:Str→Option Value} {base:Heap} {B:Hp}
theorem J3k (T:Txt K mg Ct Cw Ch Cp Cl Uh9) (h_term_of:Has P w K mg base 4 "term_of" ["plain"] (Z5P Ct K)) (h_Word___init__:HasM P w K mg base 2 Cw "__init__" ["self","name","params","kind","body"] (Z7m (CS.mk Ct Cw Ch Cp Cl Cs Cq Ck B) K)):Has P w K mg base 5 "word_of" ["plain"] (Z6L (CS.mk Ct Cw Ch Cp Cl Cs Cq Ck B) K):=by
 refine Has.of T.f_word_of sc_word_of (fun _ _ _ _ _ _ us hl=>el1 us hl fun _=>rfl) (fun vs H Q E h=>?_) (fun f cdv A outer s H vs Q E hr h=>?_)
 ·obtain ⟨v,d,rfl,_⟩:=h
  rfl
 obtain ⟨v,d,rfl,hv,hd,q⟩:=h
 obtain ⟨a,xs,rfl,hq,hx⟩:=hv.tup_inv
 obtain ⟨v1,r1,rfl,h1,hx⟩:=hx.inv
 obtain ⟨v2,r2,rfl,h2,hx⟩:=hx.inv
 obtain ⟨v3,r3,rfl,h3,hx⟩:=hx.inv
 obtain ⟨v4,r4,rfl,h4,hx⟩:=hx.inv
 cases hx.nil_inv
 cases h1.str_inv
 cases h3.str_inv
 refine ⟨_,(Z0b (Z2M (pvF 0) (Z3n (n:=4) rfl (Z0w (Z0l (i:=1) sc_word_of.nd rfl (Or.inl rfl)) (Z0w (Z0l (i:=2) sc_word_of.nd rfl (Or.inl rfl)) (Z0w (Z0l (i:=3) sc_word_of.nd rfl (Or.inl rfl)) (Z0w (Z0l (i:=4) sc_word_of.nd rfl (Or.inl rfl)) Z3l))))))
  (Z0g (Z0r (Z5Y T.Word h_Word___init__ hr (by decide) rfl (Z0a (pvF 1) (Z0a (pvF 2) (Z0a (pvF 3) (Z0a (Z0v h_term_of hr (by decide) rfl (Z0a (pvF 4) Z0d)) Z0d)))))))),?_⟩
 walk_at "rd"
 refine ⟨_,hq,rfl,⟨_,_,rfl,⟨_,_,rfl,⟨_,_,rfl,⟨_,_,rfl,?_⟩⟩⟩⟩⟩
 walk_at "rd"
 refine ⟨v4,d.body,rfl,h4,hd.ok,hd.fl,fun u H1 s1 hto x dx hx hdx ne=>?_⟩
 have s2:=Z2Y (C:=Cw) hx hdx ne
 refine ⟨x,dx,v2,u,d,rfl,Z0e,h2.same (s1.trans s2),hd.pl,hto.kp (Kp.of s2),fun H3 sx hw=>⟨rfl,q _ _ (Z2J (s1.trans s2) sx ?_) hw⟩⟩
 cases e:H x with
 | none=>rfl
 | some o=>rw [s1 _ _ e] at hx; cases hx
theorem J0Q (T:Txt K mg Ct Cw Ch Cp Cl Uh9) (h_word_of:Has P w K mg base 5 "word_of" ["plain"] (Z6L (CS.mk Ct Cw Ch Cp Cl Cs Cq Ck B) K)) (h_House___init__:HasM P w K mg base 2 Ch "__init__" ["self","name","elder","own_fields","own_words"] (Z7I (CS.mk Ct Cw Ch Cp Cl Cs Cq Ck B) K)):Has P w K mg base 6 "house_of" ["plain"] (Z7F (CS.mk Ct Cw Ch Cp Cl Cs Cq Ck B) K):=by
 refine Has.of T.f_house_of sc_house_of (fun _ _ _ _ _ _ us hl=>el1 us hl fun _=>rfl) (fun vs H Q E h=>?_) (fun f cdv A outer s H vs Q E hr h=>?_)
 ·obtain ⟨v,d,rfl,_⟩:=h
  rfl
 obtain ⟨v,d,rfl,hv,hd,q⟩:=h
 obtain ⟨a,xs,rfl,hq,hx⟩:=hv.tup_inv
 obtain ⟨v1,r1,rfl,h1,hx⟩:=hx.inv
 obtain ⟨v2,r2,rfl,h2,hx⟩:=hx.inv
 obtain ⟨v3,r3,rfl,h3,hx⟩:=hx.inv
 obtain ⟨v4,r4,rfl,h4,hx⟩:=hx.inv
 cases hx.nil_inv
 cases h1.str_inv
 cases J7A h2
 obtain ⟨wa,us,rfl,hw,hu⟩:=h4.tup_inv
 have lu:us.length=d.words.length:=by rw [hu.length,List.length_map]
 have lw:=hd.wl
 refine ⟨_,(Z0b (Z2M (pvF 0) (Z3n (n:=4) rfl (Z0w (Z0l (i:=1) sc_house_of.nd rfl (Or.inl rfl)) (Z0w (Z0l (i:=2) sc_house_of.nd rfl (Or.inl rfl)) (Z0w (Z0l (i:=3) sc_house_of.nd rfl (Or.inl rfl)) (Z0w (Z0l (i:=4) sc_house_of.nd rfl (Or.inl rfl)) Z3l))))))
  (Z0g (Z0r (Z5Y T.House h_House___init__ hr (by decide) rfl (Z0a (pvF 1) (Z0a (pvF 2) (Z0a (pvF 3) (Z0a (Z0W rfl (BlockOk.plain (N:=["word"]) rfl (by decide +kernel) (by decide +kernel) (by decide +kernel)) (Z2u (pvF 4))
     (fun C fp s H=>(Z0l (i:=0) (show (["word"]:List Str).Nodup by decide +kernel) rfl (Or.inl rfl)))
     (fun C fp s H=>(Z0v h_word_of hr (by decide) rfl (Z0a (pvF 0) Z0d)))) Z0d)))))))),?_⟩
 walk_at "rd"
 refine ⟨_,hq,rfl,⟨_,_,rfl,⟨_,_,rfl,⟨_,_,rfl,⟨_,_,rfl,?_⟩⟩⟩⟩⟩
 walk_at "rd"
 refine ⟨⟨_,hw⟩,fun D hD=>?_⟩
 refine Z0S (ys:=us) none [] (fun j v H=>∃ t,d.words[j]?=some t∧WdO K (CS.mk Ct Cw Ch Cp Cl Cs Cq Ck B) H v t) (fun j v H1 H2 ⟨t,a,b⟩ s=>⟨t,a,WdO.kp b (kpN s)⟩) rfl hD (by rw [sizeLine_eq]; omega) (fun H1 s=>SqT.same hw s) (fun i y hy H1 K' s k=>?_) (fun vs Hc Sc hv lv hR=>?_)
 ·walk_at "rd"
  obtain ⟨t,ht,hr'⟩:=hu.at hy
  rw [List.getElem?_map] at ht
  obtain ⟨t,ht2,rfl⟩:=Option.map_eq_some_iff.mp ht
  exact ⟨y,t,rfl,hr'.same s,hd.wd t (List.mem_of_getElem? ht2),fun u H2 s2 hw2=>k _ _ s2 ⟨t,ht2,hw2⟩⟩
 have hws:=J2J (lv.trans lu) hR
 intro x dx hx hdx ne
 have s2:=Z2Y (C:=Ch) hx hdx ne
 refine ⟨x,dx,D,v3,vs,d,rfl,Z0e,h3.same (Sc.trans s2),hd.fl,SqL.of (s2 _ _ hv),hws.mono fun _ _ r=>r.same s2,fun H3 sx hw=>⟨rfl,q _ _ (Z2J (Sc.trans s2) sx ?_) hw⟩⟩
 cases e:H x with
 | none=>rfl
 | some o=>rw [Sc _ _ e] at hx; cases hx
theorem Z8t (T:Txt K mg Ct Cw Ch Cp Cl Uh9) (h_word_of:Has P w K mg base 5 "word_of" ["plain"] (Z6L (CS.mk Ct Cw Ch Cp Cl Cs Cq Ck B) K)) (h_house_of:Has P w K mg base 6 "house_of" ["plain"] (Z7F (CS.mk Ct Cw Ch Cp Cl Cs Cq Ck B) K)) (h_Program___init__:HasM P w K mg base 1 Cp "__init__" ["self","all_houses","main"] (Z7t (CS.mk Ct Cw Ch Cp Cl Cs Cq Ck B) K)):Has P w K mg base 7 "program_of" ["plain"] (Z8E (CS.mk Ct Cw Ch Cp Cl Cs Cq Ck B) K):=by
 refine Has.of T.f_program_of sc_program_of (fun _ _ _ _ _ _ us hl=>el1 us hl fun _=>rfl) (fun vs H Q E h=>?_) (fun f cdv A outer s H vs Q E hr h=>?_)
 ·obtain ⟨v,d,rfl,_⟩:=h
  rfl
 obtain ⟨v,d,rfl,hv,hhs,hlen,hmn,hnm,q⟩:=h
 obtain ⟨a,xs,rfl,hq,hx⟩:=hv.tup_inv
 obtain ⟨v1,r1,rfl,h1,hx⟩:=hx.inv
 obtain ⟨v2,r2,rfl,h2,hx⟩:=hx.inv
 cases hx.nil_inv
 obtain ⟨b,ys,rfl,hqb,hy⟩:=h2.tup_inv
 obtain ⟨u1,r1,rfl,g1,hy⟩:=hy.inv
 obtain ⟨u2,r2,rfl,g2,hy⟩:=hy.inv
 obtain ⟨u3,r3,rfl,g3,hy⟩:=hy.inv
 cases hy.nil_inv
 cases g2.str_inv
 obtain ⟨ha,us,rfl,hw,hu⟩:=h1.tup_inv
 have lu:us.length=d.houses.length:=by rw [hu.length,List.length_map]
 refine ⟨_,(Z0b (Z2M (pvF 0) (Z3n (n:=2) rfl (Z0w (Z0l (i:=1) sc_program_of.nd rfl (Or.inl rfl)) (Z0w (Z0l (i:=2) sc_program_of.nd rfl (Or.inl rfl)) Z3l))))
  (Z0b (Z2M (pvF 2) (Z3n (n:=3) rfl (Z0w (Z0l (i:=3) sc_program_of.nd rfl (Or.inl rfl)) (Z0w (Z0l (i:=4) sc_program_of.nd rfl (Or.inl rfl)) (Z0w (Z0l (i:=5) sc_program_of.nd rfl (Or.inl rfl)) Z3l)))))
  (Z0g (Z0r (Z5Y T.Program h_Program___init__ hr (by decide) rfl (Z0a (Z0W rfl (BlockOk.plain (N:=["house"]) rfl (by decide +kernel) (by decide +kernel) (by decide +kernel)) (Z2u (pvF 1))
     (fun C fp s H=>(Z0l (i:=0) (show (["house"]:List Str).Nodup by decide +kernel) rfl (Or.inl rfl)))
     (fun C fp s H=>(Z0v h_house_of hr (by decide) rfl (Z0a (pvF 0) Z0d)))) (Z0a (Z0v h_word_of hr (by decide) rfl (Z0a (Z0x (Z0a Z0p (Z0a (pvF 3) (Z0a (pvF 4) (Z0a (pvF 5) Z0d))))) Z0d)) Z0d))))))),?_⟩
 walk_at "rd"
 refine ⟨_,hq,rfl,⟨_,_,rfl,⟨_,_,rfl,?_⟩⟩⟩
 walk_at "rd"
 refine ⟨_,hqb,rfl,⟨_,_,rfl,⟨_,_,rfl,⟨_,_,rfl,?_⟩⟩⟩⟩
 walk_at "rd"
 refine ⟨⟨_,hw⟩,fun D hD=>?_⟩
 refine Z0S (ys:=us) none [] (fun j v H=>∃ t,d.houses[j]?=some t∧HsO K (CS.mk Ct Cw Ch Cp Cl Cs Cq Ck B) H v t) (fun j v H1 H2 ⟨t,a,b⟩ s=>⟨t,a,HsO.kp b (kpN s)⟩) rfl hD (by rw [sizeLine_eq]; omega) (fun H1 s=>SqT.same hw s) (fun i y hy H1 K' s k=>?_) (fun vs Hc Sc hv lv hR=>?_)
 ·walk_at "rd"
  obtain ⟨t,ht,hr'⟩:=hu.at hy
  rw [List.getElem?_map] at ht
  obtain ⟨t,ht2,rfl⟩:=Option.map_eq_some_iff.mp ht
  exact ⟨y,t,rfl,hr'.same s,hhs t (List.mem_of_getElem? ht2),fun u H2 s2 hw2=>k _ _ s2 ⟨t,ht2,hw2⟩⟩
 have hws:=J2J (lv.trans lu) hR
 refine New.of fun p1 H1 h1 s1 e1=>?_
 have wd:RT K H1 (.ref p1) (Z2D d.main):=by
  refine .tup (SqT.of e1) (.cons ?_ (.cons (g1.same (Sc.trans s1)) (.cons (.str _) (.cons (g3.same (Sc.trans s1)) .nil))))
  rw [hnm]; exact .str _
 refine ⟨.ref p1,d.main,rfl,wd,hmn,fun u H2 s2 hm x dx hx hdx ne=>?_⟩
 have s3:=Z2Y (C:=Cp) hx hdx ne
 have s4:=s1.trans (s2.trans s3)
 refine ⟨x,dx,D,u,vs,d,rfl,Z0e,SqL.of (s4 _ _ hv),hws.mono fun _ _ r=>r.same s4,hm.same s3,fun H3 sx hw=>⟨rfl,q _ _ (Z2J (Sc.trans s4) sx ?_) hw⟩⟩
 cases e:H x with
 | none=>rfl
 | some o=>rw [s2 _ _ (s1 _ _ (Sc _ _ e))] at hx; cases hx
end
end K30
end
section
set_option format.width 300
namespace K30
open PySem L2 TM WK
open P15 (Lb Fm Tm dats Z0X okF Ok maxD sumS flatR Bld)
open PW (Vl Wd Hs Pg Sc Wt Ws IxAt Look Chain Z1O Flds Z1W putS Z0Z getS Z0O Two Step Z1P Z0F leaf)
seal L2.PE L2.PA L2.PT L2.PS L2.PSs L2.PG L2.PGs L2.PI L2.PW
open P23 (Rw RsOk pgOf hsOf wdOf num0 J7E)
inductive Z7w (K:W.Frag) (vs:List V) (H:Hp) (Q:VK):Prop
 | mk (l:Addr) (us:List V) (rs:List Rw) (a1:vs=[.ref l]) (a2:H l=some (.lst us)) (a3:A2 (RowO K H) us rs) (a4:rs.length≤12) (a5:(∀ r∈rs,r.heads.length≤8)) (a6:∀ v H',Same H H'→RT K H' v (Z7a (pgOf rs))→Q v H'):Z7w K vs H Q
def J0K (K:W.Frag):Sp:=fun vs H Q _=>Z7w K vs H Q
theorem Z3R {K:W.Frag} {H H':Hp} {us:List V} {rs:List Rw} (h:A2 (RowO K H) us rs) (s:Same H H'):A2 (RowO K H') us rs:=h.mono fun _ _ r=>r.same s
theorem J1X {K:W.Frag} {H:Hp}:∀ (o:Option Str),RT K H (oS o) (oD o)
 | none=>.non
 | some s=>.str s
section
variable {Uh9 Cl Cs Cq Ck Ct Cw Ch Cp:Addr} {P:Program} {w:World} {K:W.Frag} {mg:Str→Option Value} {base:Heap} {B:Hp}
noncomputable def PRI (K:W.Frag) (H:Hp) (l hl:Addr) (rs:List Rw) (i:Nat) (σ:St) (H':Hp):Prop:=∃ ws o2 o3 o4 o5 o6,Same H H'∧H' hl=some (.lst ws)∧RTs K H' ws (((rs.take i).map hsOf).map Z3t)∧σ=[some (.ref l),some (.ref hl),o2,o3,o4,o5,o6]
theorem J1I (T:Txt K mg Ct Cw Ch Cp Cl Uh9):Has P w K mg base 1 "_law_program" ["_law_rows_here"] (J0K K):=by
 refine Has.of T.f__law_program sc__law_program (fun _ _ _ _ _ _ us hl=>el1 us hl fun _=>rfl) (fun vs H Q E h=>?_) (fun f cdv A outer s H vs Q E hr h=>?_)
 ·obtain ⟨l,us,rs,rfl,_⟩:=h
  rfl
 obtain ⟨l,us,rs,rfl,hl,hrs,l12,h8,q⟩:=h
 have lus:=hrs.len
 refine ⟨_,(Z0b (Z0q (i:=1) sc__law_program.nd rfl (Or.inl rfl) (Z1h Z0d))
  (Z0b (Z2v PassesOwn.never rfl (Z1w (pvF 0)) (Z3n (n:=4) rfl (Z0w (Z0l (i:=2) sc__law_program.nd rfl (Or.inl rfl)) (Z0w (Z0l (i:=3) sc__law_program.nd rfl (Or.inl rfl)) (Z0w (Z0l (i:=4) sc__law_program.nd rfl (Or.inl rfl)) (Z0w (Z0l (i:=5) sc__law_program.nd rfl (Or.inl rfl)) Z3l))))) (Z0b (Z1n rfl sc__law_program.nd (i:=6) rfl rfl (BlockOk.plain (N:=["_law_word","_law_params_here","_law_kind_here"]) rfl (by decide +kernel) (by decide +kernel) (by decide +kernel)) (Z1w (pvF 5))
     (fun C fp s H=>(show PG _ _ (J4o K 3 _) from Z3n (n:=3) rfl (Z0w (Z0l (i:=0) (show (["_law_word","_law_params_here","_law_kind_here"]:List Str).Nodup by decide +kernel) rfl (Or.inl rfl)) (Z0w (Z0l (i:=1) (show (["_law_word","_law_params_here","_law_kind_here"]:List Str).Nodup by decide +kernel) rfl (Or.inl rfl)) (Z0w (Z0l (i:=2) (show (["_law_word","_law_params_here","_law_kind_here"]:List Str).Nodup by decide +kernel) rfl (Or.inl rfl)) Z3l)))))
     (fun C fp s H=>(Z0x (Z0a (pvF 0) (Z0a (pvF 1) (Z0a (pvF 2) (Z0a (Z0x (Z0a Z0p (Z0a Z0f Z0d))) Z0d)))))))
  (Z0g (Z2r (Z3C PySem.F.plainAttrs_list PySem.F.slot_list_append PySem.F.type_list_append Z1j (pvF 1) (Z0a (Z0x (Z0a (pvF 2) (Z0a (pvF 3) (Z0a (pvF 4) (Z0a (Z0z Z0t rfl T.z_tuple Z1e (Z0a (pvF 6) Z0d)) Z0d))))) Z0d))))))
  (Z0g (Z0r (Z0x (Z0a (Z0z Z0t rfl T.z_tuple Z1e (Z0a (pvF 1) Z0d)) (Z0a (Z0x (Z0a (Z0x Z0d) (Z0a Z0p (Z0a (Z0x (Z0a Z0p (Z0a Z0f Z0d))) Z0d)))) Z0d))))))),?_⟩
 refine seq3 fun uz2 huz2 uz1 huz1=>?_
 walk_at "rd"
 refine New.of fun hl' H1 h1 s1 e1=>?_
 subst huz1
 walk_at "rd"
 refine ⟨⟨_,SqL.of (s1 _ _ hl)⟩,?_⟩
 refine Z2n us (PRI K H l hl' rs) ⟨[],none,none,none,none,none,s1,e1,.nil,rfl⟩ (fun i σ H' _ hI=>?_) (fun i y σ H' hy hI=>?_) (fun σ H' hI=>?_)
 ·obtain ⟨ws,o2,o3,o4,o5,o6,sI,_⟩:=hI
  exact SqL.of (sI _ _ hl)
 ·obtain ⟨ws,o2,o3,o4,o5,o6,sI,hw,rws,rfl⟩:=hI
  obtain ⟨r,hr',ro⟩:=hrs.at hy
  have h8r:=h8 r (List.mem_of_getElem? hr')
  have him:=(List.getElem?_eq_some_iff.mp hy).1
  have lws:ws.length=i:=by
   rw [rws.length,List.length_map,List.length_map,List.length_take]; omega
  have ro:=ro.same sI
  cases ro with
  | @mk t hdl ft hus _ g1 g2 g3 g4=>
  have lhu:hus.length=r.heads.length:=by rw [g4.length,List.length_map]
  walk_at "rd"
  refine ⟨_,SqT.of g1,rfl,⟨_,_,rfl,⟨_,_,rfl,⟨_,_,rfl,⟨_,_,rfl,?_⟩⟩⟩⟩⟩
  refine ⟨rfl,hdl,rfl,⟨_,SqL.of g3⟩,fun D hD=>?_⟩
  refine Z6w (ys:=hus) (fun σ=>∃ o1 o2 o3,σ=[o1,o2,o3]) (fun j v H=>∃ t,r.heads[j]?=some t∧RT K H v (Z2D (wdOf t))) (fun j v H1 H2 ⟨t,a,b⟩ s=>⟨t,a,b.kp (kpN s)⟩) ⟨_,_,_,rfl⟩ hD (by rw [sizeLine_eq]; omega) (fun H1 s=>SqL.of (s _ _ g3)) (fun k y σ hy2 hS H2 K' s kk=>?_) (fun vs Hc Sc hv lv hR=>?_)
  ·obtain ⟨p1,p2,p3,rfl⟩:=hS
   obtain ⟨d,hd,hr2⟩:=g4.at hy2
   rw [List.getElem?_map] at hd
   obtain ⟨hd1,hd2,rfl⟩:=Option.map_eq_some_iff.mp hd
   obtain ⟨b,zs,rfl,hz,hzs⟩:=RT.tup_inv hr2
   obtain ⟨v1,r1,rfl,k1,hzs⟩:=hzs.inv
   obtain ⟨v2,r2,rfl,k2,hzs⟩:=hzs.inv
   obtain ⟨v3,r3,rfl,k3,hzs⟩:=hzs.inv
   cases hzs.nil_inv
   cases k1.str_inv
   cases k3.str_inv
   walk_at "rd"
   refine ⟨_,SqT.same hz s,rfl,⟨_,_,rfl,⟨_,_,rfl,⟨_,_,rfl,?_⟩⟩⟩⟩
   refine ⟨rfl,?_⟩
   refine New.of fun p1 H3 h3 s3 e3=>New.of fun p2 H4 h4 s4 e4=>kk _ _ _ ⟨_,_,_,rfl⟩ (s3.trans s4) ⟨hd1,hd2,?_⟩
   exact .tup (SqT.of e4) (.cons (.str _) (.cons (k2.same (s.trans (s3.trans s4))) (.cons (.str _) (.cons (.tup (SqT.of (s4 _ _ e3)) (.cons (.str _) (.cons (.int _) .nil))) .nil))))
  have rwd:RTs K Hc vs ((r.heads.map wdOf).map Z2D):=by
   rw [List.map_map]
   exact Z3Z (fun t=>Z2D (wdOf t)) (lv.trans lhu) hR
  have lvs:vs.length≤8:=by omega
  refine ⟨.inl ⟨rfl,_,SqL.of (Sc _ _ hw)⟩,D,rfl,vs,.inl ⟨SqL.of hv,fun tt htt=>?_⟩⟩
  have s5:=Z0n htt (.tup vs)
  have e5:upd Hc tt (.tup vs) tt=some (.tup vs):=Z0e
  generalize upd Hc tt (.tup vs)=H5 at *
  refine New.of fun p6 H6 h6 s6 e6=>?_
  have s56:=s5.trans s6
  have sc6:=Sc.trans s56
  have hw6:=sc6 _ _ hw
  refine ⟨_,hw6,by omega,ws++[.ref p6],_,_,_,_,_,Z1m (sI.trans sc6) h1,Z0e,?_,rfl⟩
  have et:rs.take (i+1)=rs.take i++[r]:=by rw [List.take_succ,hr']; rfl
  rw [et,List.map_append,List.map_append]
  refine RTs.kp (Kp.lst _ hw6) ((rws.same sc6).app (.cons (.tup (SqT.of e6) (.cons (.str _) (.cons (J1X _) (.cons (g2.same sc6) (.cons (.tup (SqT.of (s6 _ _ e5)) (rwd.same s56)) .nil))))) .nil))
 ·obtain ⟨ws,o2,o3,o4,o5,o6,sI,hw,rws,rfl⟩:=hI
  rw [List.take_of_length_le (by omega)] at rws
  subst huz2
  walk_at "rd"
  refine ⟨ws,.inl ⟨SqL.of hw,fun tt htt=>?_⟩⟩
  have s5:=Z0n htt (.tup ws)
  have e5:upd H' tt (.tup ws) tt=some (.tup ws):=Z0e
  generalize upd H' tt (.tup ws)=H5 at *
  refine New.of fun p1 J1 h1 t1 f1=>New.of fun p2 J2 h2 t2 f2=>New.of fun p3 J3 h3 t3 f3=>New.of fun p4 J4 h4 t4 f4=>?_
  have t14:=t1.trans (t2.trans (t3.trans t4))
  refine q _ _ (sI.trans (s5.trans t14)) (.tup (SqT.of f4) (.cons (.tup (SqT.of (t14 _ _ e5)) (rws.same (s5.trans t14))) (.cons (.tup (SqT.of (t4 _ _ f3)) (.cons (.tup (SqT.of ((t2.trans (t3.trans t4)) _ _ f1)) .nil) (.cons (.str _) (.cons (.tup (SqT.of ((t3.trans t4) _ _ f2)) (.cons (.str _) (.cons (.int _) .nil))) .nil)))) .nil)))
end
end K30
end
section
set_option format.width 300
namespace K30
open PySem L2 TM WK
open P15 (Lb Fm Tm dats Z0X okF Ok maxD sumS flatR Bld)
open PW (Vl Wd Hs Pg Sc Wt Ws IxAt Look Chain Z1O Flds Z1W putS Z0Z getS Z0O Two Step Z1P Z0F leaf)
seal L2.PE L2.PA L2.PT L2.PS L2.PSs L2.PG L2.PGs L2.PI L2.PW
def InO (c:CS) (H:Hp) (x:Addr) (G:Pg):Prop:=∃ dx io d,H x=some (.ins c.hall dx [("in_order",.ref io),("by_name",.ref d)])∧H io=some (.tup (G.houses.map fun h=>V.str h.name))
inductive Z7v (c:CS) (K:W.Frag) (vs:List V) (H:Hp) (Q:VK):Prop
 | mk (x dx:Addr) (pp:V) (G:Pg) (a1:vs=[.ref x,pp]) (a2:H x=some (.ins c.hall dx [])) (a3:PgO K c H pp G) (a4:GOk G) (a5:G.houses.length≤100) (a6:∀ H',SX x H H'→HlO K c H' (.ref x) G→InO c H' x G→Q .non H'):Z7v c K vs H Q
def J1S (c:CS) (K:W.Frag):Sp:=fun vs H Q _=>Z7v c K vs H Q
inductive Z6j (c:CS) (K:W.Frag) (vs:List V) (H:Hp) (Q:VK):Prop
 | mk (a:Addr) (h:Str) (G:Pg) (es:List Str) (a1:vs=[.ref a,.str h]) (a2:HlO K c H (.ref a) G) (a3:Chain G h es) (a4:es.length≤100) (a5:∀ l H',H l=none→Same H H'→H' l=some (.lst (es.map V.str))→Q (.ref l) H'):Z6j c K vs H Q
def Z3T (c:CS) (K:W.Frag):Sp:=fun vs H Q _=>Z6j c K vs H Q
theorem J4r {kvs:List (Key×V)} {k:Key} (h:k∉kvs.map (·.1)):valV kvs k=none:=by
 induction kvs with
 | nil=>rfl
 | cons p r ih=>
  rw [List.map_cons,List.mem_cons,not_or] at h
  rw [Z1g (fun z=>h.1 z.symm)]
  exact ih h.2
noncomputable def kvOf:List V→List Hs→List (Key×V)
 | v::vs,h::hs=>(.inr h.name,v)::kvOf vs hs
 | _,_=>[]
theorem Z9r:∀ {vs:List V} {hs:List Hs} {i:Nat} {v:V} {h:Hs},vs[i]?=some v→hs[i]?=some h→(kvOf vs hs).take (i+1)=(kvOf vs hs).take i++[(.inr h.name,v)]
 | _::vs,_::hs,0,v,h,a,b=>by cases a; cases b; rfl
 | _::vs,_::hs,i+1,v,h,a,b=>by
  have:=Z9r (vs:=vs) (hs:=hs) (i:=i) a b
  show _::List.take (i+1) (kvOf vs hs)=_::(List.take i (kvOf vs hs)++_)
  rw [this]
theorem Z4d:∀ {vs:List V} {hs:List Hs},vs.length=hs.length→(kvOf vs hs).map (·.1)=hs.map fun h=>.inr h.name
 | [],[],_=>rfl
 | _::vs,_::hs,e=>by
  show _::List.map _ (kvOf vs hs)=_
  rw [Z4d (Nat.succ.inj e)]; rfl
theorem J0e {R:V→Hs→Prop}:∀ {vs:List V} {hs:List Hs},A2 R vs hs→A2 (fun kv h=>kv.1=.inr h.name∧R kv.2 h) (kvOf vs hs) hs
 | _,_,.nil=>.nil
 | _,_,.cons r t=>.cons ⟨rfl,r⟩ (J0e t)
theorem J1E {vs:List V} {hs:List Hs} {i:Nat} {h:Hs} (l:vs.length=hs.length) (n:(hs.map Hs.name).Nodup) (e:hs[i]?=some h):valV ((kvOf vs hs).take i) (.inr h.name)=none:=by
 refine J4r fun z=>?_
 rw [List.map_take,Z4d l] at z
 have e2:(hs.map Hs.name)[i]?=some h.name:=by rw [List.getElem?_map,e]; rfl
 have z2:h.name∈(hs.map Hs.name).take i:=by
  rw [← List.map_take] at z ⊢
  obtain ⟨g,hg,eg⟩:=List.mem_map.mp z
  exact List.mem_map.mpr ⟨g,hg,Sum.inr.inj eg⟩
 generalize hs.map Hs.name=ns at *
 obtain ⟨j,hj⟩:=List.mem_iff_getElem?.mp z2
 rw [List.getElem?_take] at hj
 split at hj
 ·rename_i lt
  have h1:=(List.getElem?_eq_some_iff.mp hj).1
  have h2:=(List.getElem?_eq_some_iff.mp e2).1
  have:=(List.getElem?_inj h1 n).mp (hj.trans e2.symm)
  omega
 ·cases hj
theorem Z2Z {K:W.Frag} {c:CS} {H:Hp} {a:Addr} {G:Pg} (h:HlO K c H (.ref a) G):∃ dx io d kvs,H a=some (.ins c.hall dx [("in_order",.ref io),("by_name",.ref d)])∧H d=some (.dK kvs)∧GOk G∧∀ x X,Look G x X→∃ b bx ft wt ws,DGet H d (.str x) (some (.ref b))∧H b=some (.ins c.house bx [("name",.str X.name),("elder",oS X.elder),("own_fields",.ref ft),("own_words",.ref wt)])∧RT K H (.ref ft) (pairsD X.fields)∧SqT K H wt ws∧A2 (WdO K c H) ws X.words∧HsOk X:=by
 cases h with
 | mk e1 e2 r ok=>
  refine ⟨_,_,_,_,e1,e2,ok,fun x X lk=>?_⟩
  obtain ⟨v,hv,ho⟩:=J0C r ok.nd lk.1
  cases ho with
  | mk f1 f2 f3 f4=>
   refine ⟨_,_,_,_,_,?_,f1,f2,f3,f4,ok.hs _ lk.1⟩
   rw [← hv,lk.2]
   exact DGet.k (k:=.inr x) e2
theorem Chain.at {G:Pg} {h:Str} {es:List Str} (c:Chain G h es):∀ (i:Nat) (x:Str),(h::es)[i]?=some x→∃ X,Look G x X∧X.elder=es[i]?:=by
 induction c with
 | top l e=>
  intro i x hx
  cases i with
  | zero=>cases hx; exact ⟨_,l,e⟩
  | succ i=>cases hx
 | up l e _ ih=>
  intro i x hx
  cases i with
  | zero=>cases hx; exact ⟨_,l,e⟩
  | succ i=>exact ih i x hx
theorem J7m {H:Hp} {x d:Addr} {o:HO} (h:H x=some o) (n:H d=none):d≠x:=fun z=>Z0j h n z.symm
section
variable {Uh9 Cl Cs Cq Ck Ct Cw Ch Cp:Addr} {P:Program} {w:World} {K:W.Frag} {mg:Str→Option Value} {base:Heap} {B:Hp}
noncomputable def LI (K:W.Frag) (H2:Hp) (x d:Addr) (pp:V) (hs:List V) (houses:List Hs) (i:Nat) (σ:St) (H':Hp):Prop:=∃ o2,SX d H2 H'∧H' d=some (.dK ((kvOf hs houses).take i))∧σ=[some (.ref x),some pp,o2]
theorem J0M (T:Txt K mg Ct Cw Ch Cp Cl Uh9):HasM P w K mg base 1 Cl "__init__" ["self","program"] (J1S (CS.mk Ct Cw Ch Cp Cl Cs Cq Ck B) K):=by
 refine HasM.of T.m_Hall___init__ sc_Hall___init__ (fun _ _ _ _ _ _ us hl=>el2 us hl fun _ _=>rfl) (fun vs H Q E h=>?_) (fun f cdv A outer s H vs Q E hr h=>?_)
 ·obtain ⟨x,dx,pp,G,rfl,_⟩:=h
  rfl
 obtain ⟨x,dx,pp,G,rfl,hx,hp,ok,hlen,q⟩:=h
 obtain ⟨hp0,pa,pdx,ht,hs,mv,rfl,ha,hq,hh⟩:PgO K (CS.mk Ct Cw Ch Cp Cl Cs Cq Ck B) H pp G∧∃ pa pdx ht hs mv,pp=.ref pa∧H pa=some (.ins Cp pdx [("all_houses",.ref ht),("main",mv)])∧SqT K H ht hs∧A2 (HsO K (CS.mk Ct Cw Ch Cp Cl Cs Cq Ck B) H) hs G.houses:=by
  refine ⟨hp,?_⟩
  cases hp with
  | mk a b c d=>exact ⟨_,_,_,_,_,rfl,a,b,c⟩
 have lh:hs.length=G.houses.length:=hh.len
 refine ⟨_,(Z0b (Z0U (pvF 0) (Z0z Z0t rfl T.z_tuple Z1e (Z0a (Z0W rfl (BlockOk.plain (N:=["house"]) rfl (by decide +kernel) (by decide +kernel) (by decide +kernel)) (Z2u (Z0u (pvF 1) rfl))
     (fun C fp s H=>(Z0l (i:=0) (show (["house"]:List Str).Nodup by decide +kernel) rfl (Or.inl rfl)))
     (fun C fp s H=>(show PE _ _ (J3C K _ "name") from Z0u (pvF 0) rfl))) Z0d)) rfl)
  (Z0b (Z0U (pvF 0) J1d rfl)
  (Z0g (Z2v PassesOwn.never rfl (Z2u (Z0u (pvF 1) rfl)) (Z0l (i:=2) sc_Hall___init__.nd rfl (Or.inl rfl)) (Z0g (J0s (Z4o hr) (Z0u (pvF 0) rfl) (Z0u (pvF 2) rfl) (pvF 2) rfl)))))),?_⟩
 refine seq3 fun uz2 huz2 uz1 huz1=>?_
 walk_at "rd"
 refine ⟨Cp,pdx,_,ha,T.Program.cl,T.n_Program_all_houses,.ref ht,rfl,ht,rfl,⟨_,hq⟩,fun D hD=>?_⟩
 refine Z0S (ys:=hs) none [] (fun j v H=>∃ t,G.houses[j]?=some t∧v=.str t.name) (fun _ _ _ _ h _=>h) rfl hD (by rw [sizeLine_eq]; omega) (fun H1 s=>SqT.same hq s) (fun i y hy H1 K' s k=>?_) (fun vs Hc Sc hv lv hR=>?_)
 ·walk_at "rd"
  obtain ⟨t,ht',ho⟩:=hh.at hy
  have ho:=ho.same s
  cases ho with
  | mk f1 f2 f3 f4=>exact ⟨_,rfl,Ch,_,_,f1,T.House.cl,T.n_House_name,_,rfl,k _ _ (Same.refl _) ⟨t,ht',rfl⟩⟩
 walk_at "rd"
 refine ⟨vs,.inl ⟨SqL.of hv,fun io hio=>?_⟩⟩
 have s1:=Sc.trans (Z0n hio (.tup vs))
 have eio:upd Hc io (.tup vs) io=some (.tup vs):=Z0e
 generalize upd Hc io (.tup vs)=H1 at *
 refine ⟨Cl,dx,_,s1 _ _ hx,T.Hall.cl,T.n_Hall_in_order,Nat.lt_of_sub_eq_succ rfl,?_⟩
 subst huz1
 walk_at "rd"
 have S1:SX x H (upd H1 x (.ins Cl dx (putF "in_order" (.ref io) []))):=(SX.of s1).trans (SX.put _)
 have X1:upd H1 x (.ins Cl dx (putF "in_order" (.ref io) [])) x=some (.ins Cl dx (putF "in_order" (.ref io) [])):=Z0e
 have nio:io≠x:=Z3V eio (s1 _ _ hx) (fun z=>by cases z)
 have I2:upd H1 x (.ins Cl dx (putF "in_order" (.ref io) [])) io=some (.tup vs):=by rw [Z0h nio]; exact eio
 generalize upd H1 x (.ins Cl dx (putF "in_order" (.ref io) []))=H2 at *
 intro d hd
 have s2:=Z0n hd (.dK [])
 have nd:d≠x:=J7m X1 hd
 refine ⟨Cl,dx,_,s2 _ _ X1,T.Hall.cl,T.n_Hall_by_name,Nat.lt_of_sub_eq_succ rfl,?_⟩
 have S2:SX x H (upd (upd H2 d (.dK [])) x (.ins Cl dx (putF "by_name" (.ref d) (putF "in_order" (.ref io) [])))):=S1.trans ((SX.of s2).trans (SX.put _))
 have X2:upd (upd H2 d (.dK [])) x (.ins Cl dx (putF "by_name" (.ref d) (putF "in_order" (.ref io) []))) x=some (.ins Cl dx (putF "by_name" (.ref d) (putF "in_order" (.ref io) []))):=Z0e
 have D2:upd (upd H2 d (.dK [])) x (.ins Cl dx (putF "by_name" (.ref d) (putF "in_order" (.ref io) []))) d=some (.dK []):=by rw [Z0h nd]; exact Z0e
 have I3:upd (upd H2 d (.dK [])) x (.ins Cl dx (putF "by_name" (.ref d) (putF "in_order" (.ref io) []))) io=some (.tup vs):=by rw [Z0h nio]; exact s2 _ _ I2
 have ev:vs=G.houses.map fun h=>V.str h.name:=Z3c (lv.trans lh) hR
 have nH:H d=none:=by
  cases e:H d with
  | none=>rfl
  | some o=>rw [S1 _ _ nd e] at hd; cases hd
 generalize upd (upd H2 d (.dK [])) x (.ins Cl dx (putF "by_name" (.ref d) (putF "in_order" (.ref io) [])))=H3 at *
 have k3:=S2.kp hx
 have hh3:=hh.mono fun _ _ r=>HsO.kp r k3
 have ha3:=k3.i _ _ _ _ _ ha
 subst huz2
 walk_at "rd"
 refine ⟨Cp,pdx,_,ha3,T.Program.cl,T.n_Program_all_houses,.ref ht,rfl,ht,rfl,⟨_,SqT.kp hq k3⟩,?_⟩
 have kd:∀ {H':Hp},SX d H3 H'→Kp H3 H':=fun h=>⟨fun b xs e=>h b _ (fun z=>by rw [z,D2] at e; cases e) e,fun b o xs e=>h b _ (fun z=>by rw [z,D2] at e; cases e) e,fun b C dx f fs e=>h b _ (fun z=>by rw [z,D2] at e; cases e) e⟩
 refine J1g hs (LI K H3 x d (.ref pa) hs G.houses) ⟨none,fun _ _ _ h=>h,D2,rfl⟩ (fun i σ H' _ h=>?_) (fun i y σ H' hy h=>?_) (fun σ H' h=>?_)
 ·obtain ⟨o2,sx,_⟩:=h
  exact SqT.kp hq (k3.trans (kd sx))
 ·obtain ⟨o2,sx,hd',rfl⟩:=h
  obtain ⟨t,ht',ho⟩:=hh3.at hy
  have ho:=HsO.kp ho (kd sx)
  have hi:i < 100:=by have:=(List.getElem?_eq_some_iff.mp hy).1; omega
  cases ho with
  | mk f1 f2 f3 f4=>
   walk_at "rd"
   refine ⟨Cl,dx,_,sx _ _ nd.symm X2,T.Hall.cl,T.n_Hall_by_name,_,rfl,Ch,_,_,f1,T.House.cl,T.n_House_name,_,rfl,d,rfl,_,DPut.k (k:=.inr t.name) hd' ?_,_,(sx.trans (SX.put _)),?_,rfl⟩
   ·have:=List.length_take_le i (kvOf hs G.houses)
    rw [sizeLine_eq]; omega
   ·rw [Z0e,Z9r hy ht',J1V _ (J1E lh ok.nd ht')]
 ·obtain ⟨o2,sx,hd',rfl⟩:=h
  have lk:(kvOf hs G.houses).length=hs.length:=by
   have:=congrArg List.length (Z4d lh)
   rw [List.length_map,List.length_map] at this
   omega
  rw [List.take_of_length_le (by omega)] at hd'
  refine q _ (fun b o nb e=>?_) (.mk (sx _ _ nd.symm X2) hd' (J0e (hh3.mono fun _ _ r=>HsO.kp r (kd sx))) ok) ⟨_,_,_,sx _ _ nd.symm X2,by rw [← ev]; exact sx _ _ (Z3V I3 D2 (fun z=>by cases z)) I3⟩
  exact sx _ _ (Z0j e nH) (S2 _ _ nb e)
noncomputable def EI (H:Hp) (a l:Addr) (h:Str) (es:List Str) (m:Nat) (σ:St) (H':Hp):Prop:=∃ i,m=es.length - i∧i≤es.length∧Same H H'∧H' l=some (.lst ((es.take i).map V.str))∧σ=[some (.ref a),some (.str h),some (.ref l),some (oS es[i]?)]
theorem Z8Z (T:Txt K mg Ct Cw Ch Cp Cl Uh9):HasM P w K mg base 1 Cl "elders" ["self","house"] (Z3T (CS.mk Ct Cw Ch Cp Cl Cs Cq Ck B) K):=by
 refine HasM.of T.m_Hall_elders sc_Hall_elders (fun _ _ _ _ _ _ us hl=>el2 us hl fun _ _=>rfl) (fun vs H Q E h=>?_) (fun f cdv A outer s H vs Q E hr h=>?_)
 ·obtain ⟨a,h,G,es,rfl,_⟩:=h
  rfl
 obtain ⟨a,h,G,es,rfl,hl,hc,hlen,q⟩:=h
 refine ⟨_,(Z0b (Z0q (i:=2) sc_Hall_elders.nd rfl (Or.inl rfl) (Z1h Z0d))
  (Z0b (Z0q (i:=3) sc_Hall_elders.nd rfl (Or.inl rfl) (Z0u (Z2x (Z4o hr) (Z0u (pvF 0) rfl) (pvF 1) (fun _ _=>rfl)) rfl))
  (Z0b (Z5l PassesOwn.never (Z0y Z6r (pvF 3) Z2L (Z1p _)) (Z0b (Z2r (Z3C PySem.F.plainAttrs_list PySem.F.slot_list_append PySem.F.type_list_append Z1j (pvF 2) (Z0a (pvF 3) Z0d)))
  (Z0g (Z0q (i:=3) sc_Hall_elders.nd rfl (Or.inl rfl) (Z0u (Z2x (Z4o hr) (Z0u (pvF 0) rfl) (pvF 3) (fun _ _=>rfl)) rfl)))))
  (Z0g (Z0r (pvF 2)))))),?_⟩
 refine seq4 fun uz3 huz3 uz2 huz2 uz1 huz1=>?_
 walk_at "rd"
 refine New.of fun l H1 h1 s1 e1=>?_
 subst huz1
 walk_at "rd"
 obtain ⟨X,lk,ex⟩:=Chain.at hc 0 h rfl
 obtain ⟨dx,io,d,kvs,ea,ed,ok,hlk⟩:=Z2Z (hl.same s1)
 obtain ⟨b,bx,ft,wt,ws,g1,g2,_⟩:=hlk h X lk
 refine ⟨Cl,dx,_,ea,T.Hall.cl,T.n_Hall_by_name,_,rfl,d,rfl,_,g1,_,rfl,Ch,bx,_,g2,T.House.cl,T.n_House_elder,_,rfl,?_⟩
 subst huz2
 walk_at "rd"
 refine ⟨EI H a l h es,⟨es.length,0,rfl,Nat.zero_le _,s1,e1,by rw [ex]⟩,fun m σ H' hI=>?_⟩
 obtain ⟨i,rfl,hi,sI,hl',rfl⟩:=hI
 walk_at "rd"
 cases hei:es[i]? with
 | none=>
  have:i=es.length:=by have:=List.getElem?_eq_none_iff.mp hei; omega
  subst this
  refine ite2 (fun z=>absurd rfl z) (fun _=>?_)
  subst huz3
  walk_at "rd"
  rw [List.take_of_length_le (Nat.le_refl _)] at hl'
  exact q l H' h1 sI hl'
 | some e=>
  refine ite2 (fun _=>?_) (fun z=>by simp [oS] at z)
  have hi':i < es.length:=(List.getElem?_eq_some_iff.mp hei).1
  refine ⟨fun σ' H'=>∃ m',m' < es.length - i∧EI H a l h es m' σ' H',fun _ _ h=>h,?_⟩
  obtain ⟨X,lk,ex⟩:=Chain.at hc (i+1) e hei
  have s2:Same H (upd H' l (.lst ((es.take i).map V.str++[.str e]))):=fun b o hb=>by rw [Z0h (Z0j hb h1)]; exact sI _ _ hb
  obtain ⟨dx,io,d,kvs,ea,ed,ok,hlk⟩:=Z2Z (hl.same s2)
  obtain ⟨b,bx,ft,wt,ws,g1,g2,_⟩:=hlk e X lk
  refine ⟨.inl ⟨rfl,_,SqL.of hl'⟩,_,hl',by rw [List.length_map,List.length_take]; omega,Cl,dx,_,ea,T.Hall.cl,T.n_Hall_by_name,_,rfl,d,rfl,_,g1,_,rfl,Ch,bx,_,g2,T.House.cl,T.n_House_elder,_,rfl,es.length - (i+1),by omega,i+1,rfl,hi',s2,?_,?_⟩
  ·rw [Z0e,List.take_succ,hei,List.map_append]; rfl
  ·rw [ex]
end
end K30
end
section
set_option format.width 300
namespace K30
open PySem L2 TM WK
open P15 (Lb Fm Tm dats Z0X okF Ok maxD sumS flatR Bld)
open PW (Vl Wd Hs Pg Sc Wt Ws IxAt Look Chain Z1O Flds Z1W putS Z0Z getS Z0O Two Step Z1P Z0F leaf)
seal L2.PE L2.PA L2.PT L2.PS L2.PSs L2.PG L2.PGs L2.PI L2.PW
noncomputable def J3c (p:Str×Str):PyData:=.tuple [.str p.1,.str p.2]
theorem J0H (es:List Str) (h:Str):V.str h::es.map V.str=(h::es).map V.str:=rfl
section
variable {Uh9 Cl Cs Cq Ck Ct Cw Ch Cp:Addr} {P:Program} {w:World} {K:W.Frag} {mg:Str→Option Value} {base:Heap} {B:Hp}
noncomputable def FDI (K:W.Frag) (G:Pg) (H:Hp) (a l:Addr) (h:Str) (ls:List Str) (fs:List (Str×Str)) (i:Nat) (σ:St) (H':Hp):Prop:=∃ o3 xs f1 f2,SX l H H'∧H' l=some (.lst xs)∧RTs K H' xs (f1.map J3c)∧fs=f1++f2∧Flds G (ls.drop i) f2∧σ=[some (.ref a),some (.str h),some (.ref l),o3]
end
end K30
end
section
set_option format.width 300
namespace K30
open PySem L2 TM WK
open P15 (Lb Fm Tm dats Z0X okF Ok maxD sumS flatR Bld)
open PW (Vl Wd Hs Pg Sc Wt Ws IxAt Look Chain Z1O Flds Z1W putS Z0Z getS Z0O Two Step Z1P Z0F leaf)
seal L2.PE L2.PA L2.PT L2.PS L2.PSs L2.PG L2.PGs L2.PI L2.PW
open P23 (ixO Z3G Z3E J2R FO)
noncomputable def foD:Option (Str×Nat×Wd)→PyData
 | none=>.none
 | some (h,i,_)=>.tuple [.str h,.int (i:Int)]
theorem Z7o {x:Str} {ns:List Str}:inV (.str x) (ns.map V.str)=decide (x∈ns):=by
 unfold inV
 rw [List.any_map]
 by_cases hm:x∈ns
 ·rw [decide_eq_true hm,List.any_eq_true]
  exact ⟨x,hm,by simp [eqV]⟩
 ·rw [decide_eq_false hm,List.any_eq_false]
  intro z hz
  have:z≠x:=fun e=>hm (e▸hz)
  simp [eqV,this]
section
variable {Uh9 Cl Cs Cq Ck Ct Cw Ch Cp:Addr} {P:Program} {w:World} {K:W.Frag} {mg:Str→Option Value} {base:Heap} {B:Hp}
noncomputable def FOI2 (G:Pg) (H:Hp) (a:Addr) (h wd:Str) (ls:List Str) (r:Option (Str×Nat×Wd)) (i:Nat) (σ:St) (H':Hp):Prop:=∃ o3 o4,Same H H'∧FO G wd (ls.drop i) r∧σ=[some (.ref a),some (.str h),some (.str wd),o3,o4]
end
end K30
end
section
set_option format.width 300
namespace K30
open PySem L2 TM WK
open P15 (Lb Fm Tm dats Z0X okF Ok maxD sumS flatR Bld)
open PW (Vl Wd Hs Pg Sc Wt Ws IxAt Look Chain Z1O Flds Z1W putS Z0Z getS Z0O Two Step Z1P Z0F leaf)
seal L2.PE L2.PA L2.PT L2.PS L2.PSs L2.PG L2.PGs L2.PI L2.PW
open P23 (Rw RsOk pgOf hsOf wdOf num0 NN fitP nrP)
inductive Z4H (K:W.Frag) (vs:List V) (H:Hp) (Q:VK):Prop
 | mk (k:Str) (a1:vs=[.str k]) (a2:Q (.bl (!decide (k∈NN))) H):Z4H K vs H Q
def Z3i (K:W.Frag):Sp:=fun vs H Q _=>Z4H K vs H Q
inductive Z9I (c:CS) (K:W.Frag) (vs:List V) (H:Hp) (Q:VK):Prop
 | mk (a:Addr) (x y:Str) (G:Pg) (up:Str→List Str) (a1:vs=[.ref a,.str x,.str y]) (a2:HlO K c H (.ref a) G) (a3:(x∉NN→Chain G x (up x)∧(up x).length≤100)) (a4:∀ H',Same H H'→Q (.bl (fitP up x y)) H'):Z9I c K vs H Q
def Z6F (c:CS) (K:W.Frag):Sp:=fun vs H Q _=>Z9I c K vs H Q
inductive Z4E (c:CS) (K:W.Frag) (vs:List V) (H:Hp) (Q:VK):Prop
 | mk (a:Addr) (x y:Str) (G:Pg) (up:Str→List Str) (a1:vs=[.ref a,.str x,.str y]) (a2:HlO K c H (.ref a) G) (a3:(x∉NN→Chain G x (up x)∧(up x).length≤100)) (a4:(y∉NN→Chain G y (up y)∧(up y).length≤100)) (a5:∀ H',Same H H'→Q (oS (nrP up x y)) H'):Z4E c K vs H Q
def Z4u (c:CS) (K:W.Frag):Sp:=fun vs H Q _=>Z4E c K vs H Q
section
variable {Uh9 Cl Cs Cq Ck Ct Cw Ch Cp:Addr} {P:Program} {w:World} {K:W.Frag} {mg:Str→Option Value} {base:Heap} {B:Hp}
theorem Z8f (T:Txt K mg Ct Cw Ch Cp Cl Uh9):Has P w K mg base 1 "is_house" ["kind"] (Z3i K):=by
 refine Has.of T.f_is_house Z6R (fun _ _ _ _ _ _ us hl=>el1 us hl fun _=>rfl) (fun vs H Q E h=>?_) (fun f cdv A outer s H vs Q E hr h=>?_)
 ·obtain ⟨k,rfl,_⟩:=h
  rfl
 obtain ⟨k,rfl,q⟩:=h
 refine ⟨_,(Z0g (Z0r (Z2S (r:=rIn K true) Z3w (pvF 0) (J5G T.c_NO_HOUSES rfl) (by with_unfolding_all rfl)))),?_⟩
 walk_at "rd"
 refine ⟨_,.inr (T.t_NO_HOUSES H),rfl,rfl,?_⟩
 rw [show [V.str "number",V.str "truth"]=NN.map V.str from rfl,Z7o]
 exact q
theorem J3G (T:Txt K mg Ct Cw Ch Cp Cl Uh9) (h_is_house:Has P w K mg base 1 "is_house" ["kind"] (Z3i K)) (h_Hall_elders:HasM P w K mg base 1 Cl "elders" ["self","house"] (Z3T (CS.mk Ct Cw Ch Cp Cl Cs Cq Ck B) K)):Has P w K mg base 2 "fits" ["hall","one","other"] (Z6F (CS.mk Ct Cw Ch Cp Cl Cs Cq Ck B) K):=by
 refine Has.of T.f_fits J2W (fun _ _ _ _ _ _ us hl=>el3 us hl fun _ _ _=>rfl) (fun vs H Q E h=>?_) (fun f cdv A outer s H vs Q E hr h=>?_)
 ·obtain ⟨a,x,y,G,up,rfl,_⟩:=h
  rfl
 obtain ⟨a,x,y,G,up,rfl,hl,hc,q⟩:=h
 refine ⟨_,(Z0b (Z1H (Z0y Z4W (pvF 1) (pvF 2) (Z1p _)) (Z0g (Z0r J4f)) Z0D)
  (Z0g (Z0r (J2z (Z0v h_is_house hr (by decide) rfl (Z0a (pvF 1) Z0d)) (J2z (Z0v h_is_house hr (by decide) rfl (Z0a (pvF 2) Z0d)) (J2F (Z2S (r:=rIn K false) Z0M (pvF 2) (Z7T (pvF 0) T.Hall.cl h_Hall_elders hr (by decide) (Z0a (pvF 1) Z0d)) (by with_unfolding_all rfl)))))))),?_⟩
 walk_at "rd"
 refine ite2 (fun e=>?_) (fun ne=>⟨x,rfl,_,rfl,ite2 (fun z=>?_) (fun z=>?_)⟩)
 ·have:fitP up x y=true:=decide_eq_true (.inl e)
  rw [this] at q
  exact q _ (Same.refl _)
 ·have hx:x∉NN:=fun m=>by rw [decide_eq_true m] at z; cases z
  refine ⟨y,rfl,_,rfl,ite2 (fun z=>?_) (fun z=>?_)⟩
  ·have hy:y∉NN:=fun m=>by rw [decide_eq_true m] at z; cases z
   obtain ⟨dx,io,dd,kvs,ea,ed,_,_⟩:=Z2Z hl
   obtain ⟨c1,c2⟩:=hc hx
   refine ⟨dx,_,ea,rfl,a,x,G,up x,rfl,hl,c1,c2,fun l H2 h2 s2 e2=>⟨l,rfl,_,.inl (SqL.of e2),rfl,Z3g _,?_⟩⟩
   rw [Z7o]
   have:fitP up x y=decide (y∈up x):=decide_eq_decide.mpr ⟨fun h=>(h.resolve_left ne).2.2,fun h=>.inr ⟨hx,hy,h⟩⟩
   rw [← this]
   exact q _ s2
  ·have:fitP up x y=false:=decide_eq_false fun h=>(h.resolve_left ne).2.1 (Classical.byContradiction fun n=>z (by rw [decide_eq_false n]; rfl))
   rw [this] at q
   exact q _ (Same.refl _)
 ·have:fitP up x y=false:=decide_eq_false fun h=>(h.resolve_left ne).1 (Classical.byContradiction fun n=>z (by rw [decide_eq_false n]; rfl))
  rw [this] at q
  exact q _ (Same.refl _)
noncomputable def NRI (H:Hp) (a:Addr) (x y:Str) (up:Str→List Str) (ls:List Str) (i:Nat) (σ:St) (H':Hp):Prop:=∃ o3,Same H H'∧(∀ z∈ls.take i,fitP up y z=false)∧σ=[some (.ref a),some (.str x),some (.str y),o3]
theorem Z8k (T:Txt K mg Ct Cw Ch Cp Cl Uh9) (h_is_house:Has P w K mg base 1 "is_house" ["kind"] (Z3i K)) (h_fits:Has P w K mg base 2 "fits" ["hall","one","other"] (Z6F (CS.mk Ct Cw Ch Cp Cl Cs Cq Ck B) K)) (h_Hall_elders:HasM P w K mg base 1 Cl "elders" ["self","house"] (Z3T (CS.mk Ct Cw Ch Cp Cl Cs Cq Ck B) K)):Has P w K mg base 3 "nearest" ["hall","one","other"] (Z4u (CS.mk Ct Cw Ch Cp Cl Cs Cq Ck B) K):=by
 refine Has.of T.f_nearest sc_nearest (fun _ _ _ _ _ _ us hl=>el3 us hl fun _ _ _=>rfl) (fun vs H Q E h=>?_) (fun f cdv A outer s H vs Q E hr h=>?_)
 ·obtain ⟨a,x,y,G,up,rfl,_⟩:=h
  rfl
 obtain ⟨a,x,y,G,up,rfl,hl,hcx,hcy,q⟩:=h
 refine ⟨_,(Z0b (Z1H (Z0y Z4W (pvF 1) (pvF 2) (Z1p _)) (Z0g (Z0r (pvF 1))) Z0D)
  (Z0b (Z1H (PW.pt (J5n (Z5R (Z3s (Z0v h_is_house hr (by decide) rfl (Z0a (pvF 1) Z0d)))) (J2B (Z5R (Z3s (Z0v h_is_house hr (by decide) rfl (Z0a (pvF 2) Z0d))))))) (Z0g (Z0r Z2L)) Z0D)
  (Z0b (Z2v PassesOwn.never rfl (Z1w (Z0m Z3a (Z1h (Z0a (pvF 1) Z0d)) (Z7T (pvF 0) T.Hall.cl h_Hall_elders hr (by decide) (Z0a (pvF 1) Z0d)))) (Z0l (i:=3) sc_nearest.nd rfl (Or.inl rfl)) (Z0g (Z1H (Z3s (Z0v h_fits hr (by decide) rfl (Z0a (pvF 0) (Z0a (pvF 2) (Z0a (pvF 3) Z0d))))) (Z0g (Z0r (pvF 3))) Z0D)))
  (Z0g (Z0r Z2L))))),?_⟩
 walk_at "rd"
 have mN:∀ {x:Str},(!decide (x∈NN))=false→x∈NN:=fun {x} z=>Classical.byContradiction fun n=>by rw [decide_eq_false n] at z; cases z
 refine ite2 (fun e=>?_) (fun ne=>⟨x,rfl,_,rfl,ite2 (fun z=>?_) (fun z=>?_)⟩)
 ·have:nrP up x y=some x:=if_pos e
  rw [this] at q
  exact q _ (Same.refl _)
 ·have:nrP up x y=none:=(if_neg ne).trans (if_pos (.inl (mN z)))
  rw [this] at q
  exact q _ (Same.refl _)
 have hx:x∉NN:=fun m=>z (by rw [decide_eq_true m]; rfl)
 refine ⟨y,rfl,_,rfl,ite2 (fun z=>?_) (fun z=>?_)⟩
 ·have:nrP up x y=none:=(if_neg ne).trans (if_pos (.inr (mN z)))
  rw [this] at q
  exact q _ (Same.refl _)
 have hy:y∉NN:=fun m=>z (by rw [decide_eq_true m]; rfl)
 have en:nrP up x y=(x::up x).find? (fitP up y):=(if_neg ne).trans (if_neg fun h=>h.elim hx hy)
 refine New.of fun l1 H1 h1 s1 e1=>?_
 obtain ⟨dx,io,dd,kvs,ea,ed,_,_⟩:=Z2Z (hl.same s1)
 obtain ⟨c1,c2⟩:=hcx hx
 refine ⟨dx,_,ea,rfl,a,x,G,up x,rfl,hl.same s1,c1,c2,fun l H2 h2 s2 e2=>⟨l,rfl,_,s2 _ _ e1,_,e2,by rw [List.length_map]; simp; omega,New.of fun l3 H3 h3 s3 e3=>⟨⟨_,SqL.of e3⟩,?_⟩⟩⟩
 have S:=s1.trans (s2.trans s3)
 refine Z2n (V.str x::(up x).map V.str) (NRI H3 a x y up (x::up x)) ⟨none,Same.refl _,(fun z hz=>by cases hz),rfl⟩ (fun i σ H' _ hI=>?_) (fun i v σ H' hv hI=>?_) (fun σ H' hI=>?_)
 ·obtain ⟨o3,sx,_⟩:=hI
  exact SqL.of (sx _ _ e3)
 ·obtain ⟨o3,sx,hno,rfl⟩:=hI
  rw [J0H,List.getElem?_map] at hv
  obtain ⟨v,hv2,rfl⟩:=Option.map_eq_some_iff.mp hv
  refine ⟨a,y,v,G,up,rfl,hl.same (S.trans sx),hcy,fun H4 s4=>⟨_,rfl,ite2 (fun z=>?_) (fun z=>?_)⟩⟩
  ·have:nrP up x y=some v:=by
    rw [en,List.find?_eq_some_iff_getElem]
    obtain ⟨hi,e⟩:=List.getElem?_eq_some_iff.mp hv2
    refine ⟨z,i,hi,e,fun j hj=>?_⟩
    have:=hno _ (List.mem_take_iff_getElem.mpr ⟨j,by omega,rfl⟩)
    rw [this]; rfl
   rw [this] at q
   exact q _ (S.trans (sx.trans s4))
  ·refine ⟨_,sx.trans s4,fun w hw=>?_,rfl⟩
   rw [List.take_succ,hv2] at hw
   rcases List.mem_append.mp hw with hw | hw
   ·exact hno w hw
   ·cases List.mem_singleton.mp hw
    exact Bool.eq_false_iff.mpr z
 ·obtain ⟨o3,sx,hno,rfl⟩:=hI
  have:nrP up x y=none:=by
   rw [en,List.find?_eq_none]
   intro w hw
   rw [hno w (by rw [List.take_of_length_le (by simp)]; exact hw)]
   decide
  rw [this] at q
  exact q _ (S.trans sx)
end
end K30
end
section
set_option format.width 300
namespace K30
open PySem L2 TM WK
open P15 (Lb Fm Tm dats Z0X okF Ok maxD sumS flatR Bld)
open PW (Vl Wd Hs Pg Sc Wt Ws IxAt Look Chain Z1O Flds Z1W putS Z0Z getS Z0O Two Step Z1P Z0F leaf)
seal L2.PE L2.PA L2.PT L2.PS L2.PSs L2.PG L2.PGs L2.PI L2.PW
inductive Z5z (c:CS) (K:W.Frag) (vs:List V) (H:Hp) (Q:VK):Prop
 | mk (v:V) (d:Wd) (a1:vs=[v]) (a2:WdO K c H v d) (a3:∀ u H',Same H H'→RT K H' u (Z2D d)→Q u H'):Z5z c K vs H Q
def Z5G (c:CS) (K:W.Frag):Sp:=fun vs H Q _=>Z5z c K vs H Q
inductive Z5L (c:CS) (K:W.Frag) (vs:List V) (H:Hp) (Q:VK):Prop
 | mk (v:V) (d:Hs) (a1:vs=[v]) (a2:HsO K c H v d) (a3:d.words.length≤100) (a4:∀ u H',Same H H'→RT K H' u (Z3t d)→Q u H'):Z5L c K vs H Q
def Z6o (c:CS) (K:W.Frag):Sp:=fun vs H Q _=>Z5L c K vs H Q
inductive Z5J (c:CS) (K:W.Frag) (vs:List V) (H:Hp) (Q:VK):Prop
 | mk (v:V) (d:Pg) (a1:vs=[v]) (a2:PgO K c H v d) (a3:d.houses.length≤100) (a4:(∀ h∈d.houses,h.words.length≤100)) (a5:∀ u H',Same H H'→RT K H' u (Z7a d)→Q u H'):Z5J c K vs H Q
def Z9L (c:CS) (K:W.Frag):Sp:=fun vs H Q _=>Z5J c K vs H Q
section
variable {Uh9 Cl Cs Cq Ck Ct Cw Ch Cp:Addr} {P:Program} {w:World} {K:W.Frag} {mg:Str→Option Value} {base:Heap} {B:Hp}
theorem Z9o (T:Txt K mg Ct Cw Ch Cp Cl Uh9) (h_Term_plain:HasM P w K mg base 1 Ct "plain" ["self"] (Z3d Ct K)):HasM P w K mg base 2 Cw "plain" ["self"] (Z5G (CS.mk Ct Cw Ch Cp Cl Cs Cq Ck B) K):=by
 refine HasM.of T.m_Word_plain Z5p (fun _ _ _ _ _ _ us hl=>el1 us hl fun _=>rfl) (fun vs H Q E h=>?_) (fun f cdv A outer s H vs Q E hr h=>?_)
 ·obtain ⟨v,d,rfl,_⟩:=h
  rfl
 obtain ⟨v,d,rfl,hw,q⟩:=h
 refine ⟨_,(Z0g (Z0r (Z0x (Z0a (Z0u (pvF 0) rfl) (Z0a (Z0u (pvF 0) rfl) (Z0a (Z0u (pvF 0) rfl) (Z0a (Z1D (Z0u (pvF 0) rfl) T.Term.cl h_Term_plain hr (by decide)) Z0d))))))),?_⟩
 cases hw with
 | mk f1 f2 f3=>
  obtain ⟨ba,dxb,inn,sh,bvs,bws,rfl,hba,_⟩:=f3.inv
  walk_at "rd"
  exact ⟨Cw,_,_,f1,T.Word.cl,T.n_Word_name,_,rfl,Cw,_,_,f1,T.Word.cl,T.n_Word_params,_,rfl,Cw,_,_,f1,T.Word.cl,T.n_Word_kind,_,rfl,Cw,_,_,f1,T.Word.cl,T.n_Word_body,_,rfl,ba,rfl,dxb,_,hba,rfl,.ref ba,d.body,rfl,f3,fun u ru=>New.of fun p2 H2 h2 s2 e2=>q _ _ s2 (.tup (SqT.of e2) (.cons (.str _) (.cons (f2.same s2) (.cons (.str _) (.cons (ru.same s2) .nil)))))⟩
theorem Z9l (T:Txt K mg Ct Cw Ch Cp Cl Uh9) (h_Word_plain:HasM P w K mg base 2 Cw "plain" ["self"] (Z5G (CS.mk Ct Cw Ch Cp Cl Cs Cq Ck B) K)):HasM P w K mg base 3 Ch "plain" ["self"] (Z6o (CS.mk Ct Cw Ch Cp Cl Cs Cq Ck B) K):=by
 refine HasM.of T.m_House_plain sc_House_plain (fun _ _ _ _ _ _ us hl=>el1 us hl fun _=>rfl) (fun vs H Q E h=>?_) (fun f cdv A outer s H vs Q E hr h=>?_)
 ·obtain ⟨v,d,rfl,_⟩:=h
  rfl
 obtain ⟨v,d,rfl,hw,hl,q⟩:=h
 refine ⟨_,(Z0b (Z0q (i:=1) sc_House_plain.nd rfl (Or.inl rfl) (Z0z Z0t rfl T.z_tuple Z1e (Z0a (Z0W rfl (BlockOk.plain (N:=["word"]) rfl (by decide +kernel) (by decide +kernel) (by decide +kernel)) (Z2u (Z0u (pvF 0) rfl))
     (fun C fp s H=>(Z0l (i:=0) (show (["word"]:List Str).Nodup by decide +kernel) rfl (Or.inl rfl)))
     (fun C fp s H=>(Z1D (pvF 0) T.Word.cl h_Word_plain hr (by decide)))) Z0d)))
  (Z0g (Z0r (Z0x (Z0a (Z0u (pvF 0) rfl) (Z0a (Z0u (pvF 0) rfl) (Z0a (Z0u (pvF 0) rfl) (Z0a (pvF 1) Z0d)))))))),?_⟩
 cases hw with
 | mk f1 f2 f3 f4=>
  have l4:=f4.len
  refine seq2 fun uz1 huz1=>?_
  walk_at "rd"
  refine ⟨Ch,_,_,f1,T.House.cl,T.n_House_own_words,_,rfl,_,rfl,⟨_,f3⟩,fun D hD=>?_⟩
  refine Z0S (ys:=_) none [] (fun j v H=>∃ t,d.words[j]?=some t∧RT K H v (Z2D t)) (fun j v H1 H2 ⟨t,a,b⟩ s=>⟨t,a,b.kp (kpN s)⟩) rfl hD (by rw [sizeLine_eq]; omega) (fun H1 s=>SqT.same f3 s) (fun i y hy H1 K' s k=>?_) (fun vs Hc Sc hv lv hR=>?_)
  ·obtain ⟨t,ht,hw⟩:=f4.at hy
   have hw:=hw.same s
   walk_at "rd"
   have hw0:=hw
   cases hw with
   | mk k1 k2 k3=>exact ⟨_,rfl,_,_,k1,rfl,_,t,rfl,hw0,fun u H2 s2 ru=>k _ _ s2 ⟨t,ht,ru⟩⟩
  refine ⟨D,rfl,vs,.inl ⟨SqL.of hv,fun t5 h5=>?_⟩⟩
  have s5:=Z0n h5 (.tup vs)
  have e5:upd Hc t5 (.tup vs) t5=some (.tup vs):=Z0e
  generalize upd Hc t5 (.tup vs)=H5 at *
  have S5:=Sc.trans s5
  have rws:RTs K Hc vs (d.words.map Z2D):=Z3Z Z2D (lv.trans l4) hR
  have f1':=S5 _ _ f1
  subst huz1
  walk_at "rd"
  exact ⟨Ch,_,_,f1',T.House.cl,T.n_House_name,_,rfl,Ch,_,_,f1',T.House.cl,T.n_House_elder,_,rfl,Ch,_,_,f1',T.House.cl,T.n_House_own_fields,_,rfl,New.of fun p6 H6 h6 s6 e6=>q _ _ (S5.trans s6) (.tup (SqT.of e6) (.cons (.str _) (.cons (J1X _) (.cons (f2.same (S5.trans s6)) (.cons (.tup (SqT.of (s6 _ _ e5)) (rws.same (s5.trans s6))) .nil)))))⟩
theorem Z9A (T:Txt K mg Ct Cw Ch Cp Cl Uh9) (h_Term_plain:HasM P w K mg base 1 Ct "plain" ["self"] (Z3d Ct K)) (h_House_plain:HasM P w K mg base 3 Ch "plain" ["self"] (Z6o (CS.mk Ct Cw Ch Cp Cl Cs Cq Ck B) K)):HasM P w K mg base 4 Cp "plain" ["self"] (Z9L (CS.mk Ct Cw Ch Cp Cl Cs Cq Ck B) K):=by
 refine HasM.of T.m_Program_plain sc_Program_plain (fun _ _ _ _ _ _ us hl=>el1 us hl fun _=>rfl) (fun vs H Q E h=>?_) (fun f cdv A outer s H vs Q E hr h=>?_)
 ·obtain ⟨v,d,rfl,_⟩:=h
  rfl
 obtain ⟨v,d,rfl,hw,hl,hl2,q⟩:=h
 refine ⟨_,(Z0b (Z0q (i:=1) sc_Program_plain.nd rfl (Or.inl rfl) (Z0z Z0t rfl T.z_tuple Z1e (Z0a (Z0W rfl (BlockOk.plain (N:=["house"]) rfl (by decide +kernel) (by decide +kernel) (by decide +kernel)) (Z2u (Z0u (pvF 0) rfl))
     (fun C fp s H=>(Z0l (i:=0) (show (["house"]:List Str).Nodup by decide +kernel) rfl (Or.inl rfl)))
     (fun C fp s H=>(Z1D (pvF 0) T.House.cl h_House_plain hr (by decide)))) Z0d)))
  (Z0g (Z0r (Z0x (Z0a (pvF 1) (Z0a (Z0x (Z0a (Z0u (Z0u (pvF 0) rfl) rfl) (Z0a (Z0u (Z0u (pvF 0) rfl) rfl) (Z0a (Z1D (Z0u (Z0u (pvF 0) rfl) rfl) T.Term.cl h_Term_plain hr (by decide)) Z0d)))) Z0d)))))),?_⟩
 cases hw with
 | mk f1 f2 f3 f4=>
  have l3:=f3.len
  refine seq2 fun uz1 huz1=>?_
  walk_at "rd"
  refine ⟨Cp,_,_,f1,T.Program.cl,T.n_Program_all_houses,_,rfl,_,rfl,⟨_,f2⟩,fun D hD=>?_⟩
  refine Z0S (ys:=_) none [] (fun j v H=>∃ t,d.houses[j]?=some t∧RT K H v (Z3t t)) (fun j v H1 H2 ⟨t,a,b⟩ s=>⟨t,a,b.kp (kpN s)⟩) rfl hD (by rw [sizeLine_eq]; omega) (fun H1 s=>SqT.same f2 s) (fun i y hy H1 K' s k=>?_) (fun vs Hc Sc hv lv hR=>?_)
  ·obtain ⟨t,ht,hw⟩:=f3.at hy
   have hw:=hw.same s
   have l100:=hl2 t (List.mem_of_getElem? ht)
   walk_at "rd"
   have hw0:=hw
   cases hw with
   | mk k1 k2 k3 k4=>exact ⟨_,rfl,_,_,k1,rfl,_,t,rfl,hw0,l100,fun u H2 s2 ru=>k _ _ s2 ⟨t,ht,ru⟩⟩
  refine ⟨D,rfl,vs,.inl ⟨SqL.of hv,fun t5 h5=>?_⟩⟩
  have s5:=Z0n h5 (.tup vs)
  have e5:upd Hc t5 (.tup vs) t5=some (.tup vs):=Z0e
  generalize upd Hc t5 (.tup vs)=H5 at *
  have S5:=Sc.trans s5
  have rws:RTs K Hc vs (d.houses.map Z3t):=Z3Z Z3t (lv.trans l3) hR
  have f1':=S5 _ _ f1
  have f4':=f4.same S5
  cases f4' with
  | mk m1 m2 m3=>
   obtain ⟨ba,dxb,inn,sh,bvs,bws,rfl,hba,_⟩:=m3.inv
   subst huz1
   walk_at "rd"
   exact ⟨Cp,_,_,f1',T.Program.cl,T.n_Program_main,_,rfl,_,rfl,Cw,_,_,m1,T.Word.cl,T.n_Word_params,_,rfl,Cp,_,_,f1',T.Program.cl,T.n_Program_main,_,rfl,_,rfl,Cw,_,_,m1,T.Word.cl,T.n_Word_kind,_,rfl,Cp,_,_,f1',T.Program.cl,T.n_Program_main,_,rfl,_,rfl,Cw,_,_,m1,T.Word.cl,T.n_Word_body,_,rfl,ba,rfl,dxb,_,hba,rfl,.ref ba,d.main.body,rfl,m3,fun u ru=>New.of fun p6 H6 h6 s6 e6=>New.of fun p7 H7 h7 s7 e7=>q _ _ (S5.trans (s6.trans s7)) (.tup (SqT.of e7) (.cons (.tup (SqT.of ((s6.trans s7) _ _ e5)) (rws.same (s5.trans (s6.trans s7)))) (.cons (.tup (SqT.of (s7 _ _ e6)) (.cons (m2.same (s6.trans s7)) (.cons (.str _) (.cons (ru.same (s6.trans s7)) .nil)))) .nil)))⟩
end
end K30
end
section
set_option format.width 300
namespace K30
open PySem L2 TM WK
open P15 (Lb Fm Tm dats Z0X okF Ok maxD sumS flatR Bld)
open PW (Vl Wd Hs Pg Sc Wt Ws IxAt Look Chain Z1O Flds Z1W putS Z0Z getS Z0O Two Step Z1P Z0F leaf)
seal L2.PE L2.PA L2.PT L2.PS L2.PSs L2.PG L2.PGs L2.PI L2.PW
open P23 (Rw RsOk pgOf hsOf wdOf num0 SOk ixO Z3G Z3E J2R FO)
inductive Z9c (K:W.Frag) (vs:List V) (H:Hp) (Q:VK):Prop
 | mk (l:Addr) (us:List V) (rs:List Rw) (h:Str) (es:List Str) (a1:vs=[.ref l,.str h]) (a2:H l=some (.lst us)) (a3:A2 (RowO K H) us rs) (a4:RsOk rs) (a5:Chain (pgOf rs) h es) (a6:es.length≤12) (a7:∀ k H',Same H H'→H k=none→StrL H' k es→Q (.ref k) H'):Z9c K vs H Q
def J4l (K:W.Frag):Sp:=fun vs H Q _=>Z9c K vs H Q
theorem Z7K {ks:Nat→Key} {ys:Nat→V} {n:Nat} (inj:∀ i j,i < n→j < n→ks i=ks j→i=j):∀ m,m≤n→∀ i,i < m→valV (absD ks ys m) (ks i)=some (ys i)
 | m+1,hm,i,hi=>by
  show valV (putK (absD ks ys m) (ks m) (ys m)) (ks i)=_
  rw [Z7e]
  by_cases e:ks i=ks m
  ·rw [if_pos e,inj i m (by omega) (by omega) e]
  ·rw [if_neg e]
   exact Z7K inj m (by omega) i (by have:i≠m:=fun z=>e (by rw [z]); omega)
theorem Z9C {rs:List Rw} (nd:(rs.map Rw.name).Nodup) {r:Rw} (hr:r∈rs):valV (Z2W (rs.map Rw.name) (rs.map fun r=>oS r.elder)) (.inr r.name)=some (oS r.elder):=by
 obtain ⟨i,hi⟩:=List.getElem?_of_mem hr
 have hlt:=(List.getElem?_eq_some_iff.mp hi).1
 have e1:(rs.map Rw.name).getD i ""=r.name:=by rw [List.getD_eq_getElem?_getD,List.getElem?_map,hi]; rfl
 have e2:(rs.map fun r=>oS r.elder).getD i .non=oS r.elder:=by rw [List.getD_eq_getElem?_getD,List.getElem?_map,hi]; rfl
 have:=Z7K (ks:=fun i=>Sum.inr ((rs.map Rw.name).getD i "")) (ys:=fun i=>(rs.map fun r=>oS r.elder).getD i .non) (n:=(rs.map Rw.name).length) (fun x y hx hy e=>by
  have e:=Sum.inr.inj e
  rw [P23.Z1u hx,P23.Z1u hy] at e
  exact P23.Z2b nd (List.getElem?_eq_getElem hx) (by rw [e]; exact List.getElem?_eq_getElem hy)) _ (Nat.le_refl _) i (by rw [List.length_map]; exact hlt)
 rw [e1,e2] at this
 exact this
theorem RowO.inv {K:W.Frag} {H:Hp} {v:V} {r:Rw} (h:RowO K H v r):∃ t ft hl,v=.ref t∧H t=some (.tup [.str r.name,oS r.elder,ft,.ref hl]):=by
 cases h with
 | mk a b c d=>exact ⟨_,_,_,rfl,a⟩
section
variable {Uh9 Cl Cs Cq Ck Ct Cw Ch Cp:Addr} {P:Program} {w:World} {K:W.Frag} {mg:Str→Option Value} {base:Heap} {B:Hp}
noncomputable def UPI (H:Hp) (l d k:Addr) (h:Str) (es:List Str) (m:Nat) (σ:St) (H':Hp):Prop:=∃ i x,m=es.length - i∧i≤es.length∧(h::es)[i]?=some x∧Same H H'∧H' k=some (.lst ((es.take i).map V.str))∧σ=[some (.ref l),some (.str x),some (.ref d),some (.ref k)]
theorem J3N (T:Txt K mg Ct Cw Ch Cp Cl Uh9):Has P w K mg base 1 "_law_ups" ["_law_rows_here","_law_name_here"] (J4l K):=by
 refine Has.of T.f__law_ups sc__law_ups (fun _ _ _ _ _ _ us hl=>el2 us hl fun _ _=>rfl) (fun vs H Q E h=>?_) (fun f cdv A outer s H vs Q E hr h=>?_)
 ·obtain ⟨l,us,rs,h,es,rfl,_⟩:=h
  rfl
 obtain ⟨l,us,rs,h,es,rfl,hl,hrs,ok,hch,l12,q⟩:=h
 have lus:=hrs.len
 have lrs:=ok.l12
 refine ⟨_,(Z0b (Z0q (i:=2) sc__law_ups.nd rfl (Or.inl rfl) (Z0z (r:=J0i K) (Z8w rfl) rfl T.z_dict J4k (Z0a (Z0W rfl (BlockOk.plain (N:=["_law_row"]) rfl (by decide +kernel) (by decide +kernel) (by decide +kernel)) (Z1w (pvF 0))
     (fun C fp s H=>(Z0l (i:=0) (show (["_law_row"]:List Str).Nodup by decide +kernel) rfl (Or.inl rfl)))
     (fun C fp s H=>(Z0x (Z0a (Z0B (r:=Z1Y K) Z0K (pvF 0) Z0f (fun _ _=>rfl)) (Z0a (Z0B (r:=Z1Y K) Z0K (pvF 0) Z0f (fun _ _=>rfl)) Z0d))))) Z0d)))
  (Z0b (Z0q (i:=3) sc__law_ups.nd rfl (Or.inl rfl) (Z1h Z0d))
  (Z0b (Z5l PassesOwn.never (Z0y Z6r (Z2x (Z4o hr) (pvF 2) (pvF 1) (fun _ _=>rfl)) Z2L (Z1p _)) (Z0b (Z0q (i:=1) sc__law_ups.nd rfl (Or.inl rfl) (Z2x (Z4o hr) (pvF 2) (pvF 1) (fun _ _=>rfl)))
  (Z0g (Z2r (Z3C PySem.F.plainAttrs_list PySem.F.slot_list_append PySem.F.type_list_append Z1j (pvF 3) (Z0a (pvF 1) Z0d))))))
  (Z0g (Z0r (pvF 3)))))),?_⟩
 refine seq4 fun uz3 huz3 uz2 huz2 uz1 huz1=>?_
 walk_at "rd"
 refine ⟨⟨_,SqL.of hl⟩,fun D hD=>?_⟩
 refine Z4v (ys:=us) none [] (fun k v H=>∃ r T,rs[k]?=some r∧v=.ref T∧H T=some (.tup [.str r.name,oS r.elder])) (fun j v H1 H2 ⟨r,T,a,b,c⟩ s=>⟨r,T,a,b,s _ _ (fun _ z=>by cases z) c⟩) rfl hD (by rw [sizeLine_eq]; omega) (fun H1 s=>SqL.of (s _ _ hl)) (fun k y hy3 H9 K' s9 kk=>?_) (fun vs H1 s1 hD1 lvs hR=>?_)
 ·obtain ⟨r2,hr2,ro⟩:=hrs.at hy3
  obtain ⟨t,ft,hdl,rfl,g1⟩:=(ro.same s9).inv
  walk_at "rd"
  exact ⟨_,SqT.of g1,_,ix0,_,SqT.of g1,_,ix1,New.of fun p2 H2 h2 s2 e2=>kk _ _ s2 ⟨r2,p2,hr2,rfl,e2⟩⟩
 refine ⟨D,rfl,vs,SqL.of hD1,rs.map Rw.name,by rw [lvs,lus,List.length_map],rs.map (fun r=>oS r.elder),fun i t ht=>?_,fun d hd=>?_⟩
 ·obtain ⟨r,T,hr,rfl,hT⟩:=hR i t ht
  refine ⟨T,rfl,SqT.of ?_⟩
  rw [List.getD_eq_getElem?_getD,List.getElem?_map,hr,List.getD_eq_getElem?_getD,List.getElem?_map,hr]
  exact hT
 have s2:=Z0n hd (.dK (Z2W (rs.map Rw.name) (rs.map fun r=>oS r.elder)))
 have e2:upd H1 d (.dK (Z2W (rs.map Rw.name) (rs.map fun r=>oS r.elder))) d=some (.dK (Z2W (rs.map Rw.name) (rs.map fun r=>oS r.elder))):=Z0e
 generalize upd H1 d (.dK (Z2W (rs.map Rw.name) (rs.map fun r=>oS r.elder)))=H2 at *
 subst huz1
 walk_at "rd"
 refine New.of fun k H3 h3 s3 e3=>?_
 have hd3:=s3 _ _ e2
 have S2:=s1.trans s2
 have hk0:H k=none:=Z3M S2 h3
 have ne:d≠k:=fun z=>by rw [z,e3] at hd3; cases hd3
 have look:∀ (i:Nat) x,(h::es)[i]?=some x→valV (Z2W (rs.map Rw.name) (rs.map fun r=>oS r.elder)) (.inr x)=some (oS es[i]?):=fun i x hx=>by
  obtain ⟨X,lk,ex⟩:=Chain.at hch i x hx
  obtain ⟨r,hr,rfl⟩:=List.mem_map.mp lk.1
  rw [← ex,← lk.2]
  exact Z9C ok.nd hr
 subst huz2
 walk_at "rd"
 refine ⟨UPI H2 l d k h es,⟨es.length,0,h,rfl,Nat.zero_le _,rfl,s3,e3,rfl⟩,fun m σ H' hI=>?_⟩
 obtain ⟨i,x,rfl,hi,hx,sI,hk,rfl⟩:=hI
 have hdI:=sI _ _ e2
 have gx:DGet H' d (.str x) (some (oS es[i]?)):=by
  rw [← look i x hx]
  exact DGet.k (k:=.inr x) hdI
 walk_at "rd"
 refine ⟨_,gx,?_⟩
 cases hei:es[i]? with
 | none=>
  have:i=es.length:=by have:=List.getElem?_eq_none_iff.mp hei; omega
  subst this
  refine ite2 (fun z=>absurd rfl z) (fun _=>?_)
  subst huz3
  walk_at "rd"
  rw [List.take_of_length_le (Nat.le_refl _)] at hk
  exact q k H' (S2.trans sI) hk0 hk
 | some e=>
  rw [hei] at gx
  have hi':i < es.length:=(List.getElem?_eq_some_iff.mp hei).1
  refine ite2 (fun _=>?_) (fun z=>by simp [oS] at z)
  refine ⟨fun σ' H'=>∃ m',m' < es.length - i∧UPI H2 l d k h es m' σ' H',fun _ _ h=>h,_,gx,.inl ⟨rfl,_,SqL.of hk⟩,_,hk,by rw [List.length_map,List.length_take]; omega,es.length - (i+1),by omega,i+1,e,rfl,hi',hei,Z1m sI h3,?_,rfl⟩
  rw [Z0e,List.take_succ,hei,List.map_append]; rfl
end
end K30
end
section
set_option format.width 300
namespace K30
open PySem L2 TM WK
open P15 (Lb Fm Tm dats Z0X okF Ok maxD sumS flatR Bld)
open PW (Vl Wd Hs Pg Sc Wt Ws IxAt Look Chain Z1O Flds Z1W putS Z0Z getS Z0O Two Step Z1P Z0F leaf)
seal L2.PE L2.PA L2.PT L2.PS L2.PSs L2.PG L2.PGs L2.PI L2.PW
open P23 (Rw RsOk pgOf NN fitP nrP UpOk dueP Z2U Z3A)
inductive Z7p (c:CS) (K:W.Frag) (vs:List V) (H:Hp) (Q:VK):Prop
 | mk (a p kl d:Addr) (x y:Str) (rs:List Rw) (up:Str→List Str) (kvs:List (List Key×V)) (a1:vs=[.ref a,.ref p,.ref kl,.ref d]) (a2:HlO K c H (.ref a) (pgOf rs)) (a3:RsOk rs) (a4:UpOk rs up) (a5:H p=some (.tup [.str x,.str y])) (a6:x∈NN++rs.map Rw.name) (a7:y∈NN++rs.map Rw.name) (a8:H kl=some (.lst ((NN++rs.map Rw.name).map V.str))) (a9:H d=some (.dT kvs)) (a10:(∀ x∈NN++rs.map Rw.name,∀ y∈NN++rs.map Rw.name,valV kvs [.inr x,.inr y]=some (.bl (dueP up x y)))) (a11:∀ H',Same H H'→Q (.bl true) H'):Z7p c K vs H Q
def J0D (c:CS) (K:W.Frag):Sp:=fun vs H Q _=>Z7p c K vs H Q
section
variable {Uh9 Cl Cs Cq Ck Ct Cw Ch Cp:Addr} {P:Program} {w:World} {K:W.Frag} {mg:Str→Option Value} {base:Heap} {B:Hp}
theorem J1B (T:Txt K mg Ct Cw Ch Cp Cl Uh9) (h_fits:Has P w K mg base 2 "fits" ["hall","one","other"] (Z6F (CS.mk Ct Cw Ch Cp Cl Cs Cq Ck B) K)) (h_nearest:Has P w K mg base 3 "nearest" ["hall","one","other"] (Z4u (CS.mk Ct Cw Ch Cp Cl Cs Cq Ck B) K)):Has P w K mg base 4 "_law_pair_good" ["_law_hall","_law_pair","_law_kinds","_law_due"] (J0D (CS.mk Ct Cw Ch Cp Cl Cs Cq Ck B) K):=by
  refine Has.of T.f__law_pair_good sc__law_pair_good (fun _ _ _ _ _ _ us hl=>el4 us hl fun _ _ _ _=>rfl) (fun vs H Q E h=>?_) (fun f cdv A outer s H vs Q E hr h=>?_)
  · obtain ⟨a,p,kl,d,x,y,rs,up,kvs,rfl,_⟩:=h
    rfl
  obtain ⟨a,p,kl,d,x,y,rs,up,kvs,rfl,hl,ok,u,hp,hx,hy,hk,hd,hv,q⟩:=h
  have l12:=ok.l12
  have lks:(NN++rs.map Rw.name).length≤14:=by rw [List.length_append,List.length_map]; show 2+_≤_; omega
  have chn:∀ z∈NN++rs.map Rw.name,z∉NN→Chain (pgOf rs) z (up z)∧(up z).length≤100:=fun z hz hn=>by
    obtain ⟨h1,h2⟩:=u.ch z ((List.mem_append.mp hz).resolve_left hn)
    exact ⟨h1,by omega⟩
  have get:∀ {H1:Hp} {b:Addr} {x y:Str},Same H H1→H1 b=some (.tup [.str x,.str y])→x∈NN++rs.map Rw.name→y∈NN++rs.map Rw.name→DGet H1 d (.ref b) (some (.bl (dueP up x y))):=fun {H1 b x y} s hb hx hy=>by
    rw [← hv x hx y hy]
    exact DGet.t (k:=[.inr x,.inr y]) (s _ _ hd) hb
  refine ⟨_,(Z0b (Z0q (i:=4) sc__law_pair_good.nd rfl (Or.inl rfl) (Z0v h_fits hr (by decide) rfl (Z0a (pvF 0) (Z0a (Z0B (r:=Z1Y K) Z0K (pvF 1) Z0f (fun _ _=>rfl)) (Z0a (Z0B (r:=Z1Y K) Z0K (pvF 1) Z0f (fun _ _=>rfl)) Z0d)))))
    (Z0b (Z1H (PW.pt (J5n (Z5R (Z3s (Z2d (r:=rIsi K) J1K rfl T.z_isinstance Z5k (Z0a (pvF 4) (Z0a (J3v (v:=.ty "bool") rfl T.z_bool J3j rfl) Z0d))))) (J2B (Z0y (r:=rNeD K) (J5I hr.units) (pvF 4) (Z2x (Z4o hr) (pvF 3) (pvF 1) (fun _ _=>rfl)) (Z1p _))))) (Z0g (Z0r J4f)) Z0D)
    (Z0b (Z0q (i:=5) sc__law_pair_good.nd rfl (Or.inr rfl) (Z7u rfl (BlockOk.of (N:=["_law_kind_here","_law_due","_law_pair"]) (nl:=[none,some 3,some 1]) (cl:=[("_law_pair",s.heap.objs.size+1),("_law_due",s.heap.objs.size+2)]) rfl (by decide +kernel) (by decide +kernel) rfl (sub2 rfl rfl) (nm:=["_law_pair","_law_due"]) rfl (by decide +kernel) rfl (fun i hi j hj=>by
            match i,hi with
            | 0,_=>cases hj
             | 1,_=>cases hj; exact ⟨_,rfl,rfl,rfl,.inl rfl⟩
             | 2,_=>cases hj; exact ⟨_,rfl,rfl,rfl,.inl rfl⟩
            )) (Z1w (pvF 2))
          (fun C fp s H=>(Z0l (i:=0) (show (["_law_kind_here","_law_due","_law_pair"]:List Str).Nodup by decide +kernel) rfl (Or.inl rfl)))
          (fun C fp s H=>(PW.pt (J5M (Z3s (Z2x (Z4o hr) (pvF 1) (Z0x (Z0a (Z0B (r:=Z1Y K) Z0K (pvF 2) Z0f (fun _ _=>rfl)) (Z0a (pvF 0) Z0d))) (fun _ _=>rfl))) (J4A (Z3s (Z2x (Z4o hr) (pvF 1) (Z0x (Z0a (Z0B (r:=Z1Y K) Z0K (pvF 2) Z0f (fun _ _=>rfl)) (Z0a (pvF 0) Z0d))) (fun _ _=>rfl))))))) (fun C fp s H=>(pvF 0))))
    (Z0b (Z0q (i:=5) sc__law_pair_good.nd rfl (Or.inr rfl) (Z9f rfl (BlockOkC.mk' (y:="_law_kind_here") (N:=["_law_kind_here","_law_due","_law_some"]) (nl:=[none,some 3,some 5]) (cl:=[("_law_some",s.heap.objs.size+3),("_law_due",s.heap.objs.size+2)]) rfl (by decide +kernel) rfl (by decide +kernel) rfl (sub2 rfl rfl) (nm:=["_law_some","_law_due"]) rfl (by decide +kernel) rfl (fun i hi j hj=>by
            match i,hi with
            | 0,_=>cases hj
             | 1,_=>cases hj; exact ⟨_,rfl,rfl,rfl,.inl rfl⟩
             | 2,_=>cases hj; exact ⟨_,rfl,rfl,rfl,.inl rfl⟩
            ) (fun _=>rfl) (fun _=>rfl)) (Z1w (pvF 5))
          (fun Cq fpq sq Hq=>(Z0l (i:=0) (show (["_law_kind_here","_law_due","_law_some"]:List Str).Nodup by decide +kernel) rfl (Or.inr rfl)))
          (fun Cq fpq sq Hq=>(Z0y (r:=rEqN K) (J6i hr.units) (Z7u rfl (BlockOk.of (N:=["_law_other","_law_due","_law_kind_here"]) (nl:=[none,some 1,some 0]) (cl:=[("_law_kind_here",Cq+1),("_law_due",s.heap.objs.size+2)]) rfl (by decide +kernel) (by decide +kernel) rfl (sub2 rfl rfl) (nm:=["_law_kind_here","_law_due"]) rfl (by decide +kernel) rfl (fun i hi j hj=>by
            match i,hi with
            | 0,_=>cases hj
             | 1,_=>cases hj; exact ⟨_,rfl,rfl,rfl,.inl rfl⟩
             | 2,_=>cases hj; exact ⟨_,rfl,rfl,rfl,.inl rfl⟩
            )) (show PI _ _ _ (J3s K (Z6B 2)) from (Z1w (pvF 2)))
          (fun C fp s H=>(Z0l (i:=0) (show (["_law_other","_law_due","_law_kind_here"]:List Str).Nodup by decide +kernel) rfl (Or.inl rfl)))
          (fun C fp s H=>(Z5R (Z3s (Z2x (Z4o hr) (pvF 1) (Z0x (Z0a (pvF 2) (Z0a (pvF 0) Z0d))) (fun _ _=>rfl))))) (fun C fp s H=>(pvF 0))) (Z1h Z0d) (Z1p _))) (fun Cq fpq sq Hq=>(pvF 0))))
    (Z0g (Z0r (Z2S (r:=rEqD K) (J2u hr.units) (Z0v h_nearest hr (by decide) rfl (Z0a (pvF 0) (Z0a (Z0B (r:=Z1Y K) Z0K (pvF 1) Z0f (fun _ _=>rfl)) (Z0a (Z0B (r:=Z1Y K) Z0K (pvF 1) Z0f (fun _ _=>rfl)) Z0d)))) (Z0B (r:=Z1o K) Z0s (Z0m Z3a (pvF 5) (Z1h (Z0a Z2L Z0d))) Z0f (fun _ _=>rfl)) (Z1p _)))))))),?_⟩
  refine seq5 fun uz4 huz4 uz3 huz3 uz2 huz2 uz1 huz1=>?_
  walk_at "rd"
  refine ⟨_,SqT.of hp,_,ix0,_,SqT.of hp,_,ix1,a,x,y,pgOf rs,up,rfl,hl,chn x hx,fun H1 s1=>?_⟩
  subst huz1
  walk_at "rd"
  rw [P23.Z5t ok u]
  refine ⟨_,get s1 (s1 _ _ hp) hx hy,_,.bl _,_,.bl _,rfl,rfl,ite2 (fun z=>?_) (fun _=>?_)⟩
  · exfalso
    revert z
    cases dueP up x y <;> decide
  have hk1:=s1 _ _ hk
  have lk:((NN++rs.map Rw.name).map V.str).length≤sizeLine:=by rw [sizeLine_eq,List.length_map]; omega
  subst huz2
  walk_at "rd"
  refine ⟨⟨_,SqL.of hk1⟩,fun D hD=>?_⟩
  refine Z3j (ys:=(NN++rs.map Rw.name).map V.str) none [some (.ref d),some (.ref p)] (fun v=>match v with | .str k=>dueP up x k&&dueP up y k | _=>false) rfl hD lk (fun H2 s=>SqL.of (s _ _ hk1)) (fun v hm H2 K' s2 k=>?_) (fun H2 s2 e2=>?_)
  · obtain ⟨m,hm',rfl⟩:=List.mem_map.mp hm
    replace hm:=hm'
    have S:=s1.trans s2
    walk_at "rd"
    refine ⟨_,SqT.of (S _ _ hp),_,ix0,New.of fun t H4 h4 s4 e4=>⟨_,get (S.trans s4) e4 hx hm,_,rfl,ite2 (fun z=>?_) (fun z=>?_)⟩⟩
    · have k:∀ H2,Same _ H2→K' (dueP up x m&&dueP up y m) H2:=k
      rw [z,Bool.true_and] at k
      exact ⟨_,SqT.of ((S.trans s4) _ _ hp),_,ix1,New.of fun t5 H5 h5 s5 e5=>⟨_,get (S.trans (s4.trans s5)) e5 hy hm,_,rfl,k _ (s4.trans s5)⟩⟩
    · have k:∀ H2,Same _ H2→K' (dueP up x m&&dueP up y m) H2:=k
      rw [Bool.eq_false_iff.mpr z] at k
      exact k _ s4
  have e2:H2 D=some (.lst ((Z2U up (NN++rs.map Rw.name) x y).map V.str)):=by
    rw [e2,List.filter_map]; rfl
  generalize hx1:Z2U up (NN++rs.map Rw.name) x y=xs at e2
  have lxs:xs.length≤14:=by rw [← hx1]; exact Nat.le_trans (List.length_filter_le _ _) lks
  have inx:∀ z∈xs,z∈NN++rs.map Rw.name:=fun z hz=>by rw [← hx1] at hz; exact (List.mem_filter.mp hz).1
  have lx:(xs.map V.str).length≤sizeLine:=by rw [sizeLine_eq,List.length_map]; omega
  subst huz3
  walk_at "rd"
  refine ⟨⟨_,SqL.of e2⟩,fun D1 hD1=>?_⟩
  refine Z3j (ys:=xs.map V.str) none [some (.ref d),some (.ref D)] (fun v=>match v with | .str k=>(xs.filter fun o=>!dueP up k o).isEmpty | _=>false) rfl hD1 lx (fun H3 s=>SqL.of (s _ _ e2)) (fun v hm H3 K' s3 k=>?_) (fun H3 s3 e3=>?_)
  · obtain ⟨m,hm',rfl⟩:=List.mem_map.mp hm
    replace hm:=hm'
    have S:=s1.trans (s2.trans s3)
    walk_at "rd"
    have hmk:=inx m hm
    refine ⟨⟨_,SqL.of (s3 _ _ e2)⟩,fun D2 hD2=>?_⟩
    refine Z3j (ys:=xs.map V.str) none [some (.ref d),some (.str m)] (fun v=>match v with | .str o=>!dueP up m o | _=>false) rfl hD2 lx (fun H4 s=>SqL.of (s _ _ (s3 _ _ e2))) (fun v hv2 H4 K2 s4 k2=>?_) (fun H4 s4 e4=>?_)
    · obtain ⟨o,ho,rfl⟩:=List.mem_map.mp hv2
      walk_at "rd"
      exact New.of fun t H5 h5 s5 e5=>⟨_,get (S.trans (s4.trans s5)) e5 hmk (inx o ho),_,rfl,k2 _ s5⟩
    · have e4:H4 D2=some (.lst ((xs.filter fun o=>!dueP up m o).map V.str)):=by
        rw [e4,List.filter_map]; rfl
      refine New.of fun t H5 h5 s5 e5=>⟨D2,rfl,_,SqL.of (s5 _ _ e4),SqL.of e5,?_⟩
      have k:=k _ (s4.trans s5)
      have:((xs.filter fun o=>!dueP up m o).map V.str).isEmpty=(xs.filter fun o=>!dueP up m o).isEmpty:=List.isEmpty_map
      rw [this]
      exact k
  have e3:H3 D1=some (.lst ((Z3A up xs).map V.str)):=by
    rw [e3,List.filter_map]; rfl
  have best:=P23.J3I ok u hx hy
  rw [hx1] at best
  have nso:∀ z∈NN++rs.map Rw.name,P23.SOk z:=fun z hz=>by
    rcases List.mem_append.mp hz with h | h
    · exact (by unfold P23.SOk; decide +kernel:∀ z∈NN,P23.SOk z) z h
    · obtain ⟨r,hr,rfl⟩:=List.mem_map.mp h
      exact (ok.so r hr).1
  have S3:=s1.trans (s2.trans s3)
  have lb:(Z3A up xs).length≤14:=Nat.le_trans (List.length_filter_le _ _) lxs
  have ly:Lay 0 (oD (nrP up x y)):=by
    cases hn:nrP up x y with
    | none=>exact .non
    | some m=>
      rw [hn] at best
      have:=List.mem_of_getElem? best
      rcases List.mem_append.mp this with h | h
      · obtain ⟨m',h,e⟩:=List.mem_map.mp h
        cases e
        exact .str (nso _ (inx _ (List.mem_filter.mp h).1))
      · cases List.mem_singleton.mp h
  have atb:atI ((Z3A up xs).map V.str++[V.non]) 0=some (oS (nrP up x y)):=by
    refine Z0C (j:=0) ?_
    have:(Z3A up xs).map V.str++[V.non]=((Z3A up xs).map some++[none]).map oS:=by
      rw [List.map_append,List.map_map]; rfl
    rw [this,List.getElem?_map,best]; rfl
  subst huz4
  walk_at "rd"
  refine ⟨_,SqT.of (S3 _ _ hp),_,ix0,_,SqT.of (S3 _ _ hp),_,ix1,a,x,y,pgOf rs,up,rfl,hl.same S3,chn x hx,chn y hy,fun H4 s4=>New.of fun t5 H5 h5 s5 e5=>⟨_,(s4.trans s5) _ _ e3,_,e5,by rw [List.length_map]; show _+1≤_; omega,New.of fun t6 H6 h6 s6 e6=>⟨_,SqL.of e6,_,atb,_,RT.rd (J1X _),_,RT.rd (J1X _),ly.shaped (by decide),ly.shaped (by decide),?_⟩⟩⟩
  rw [ly.eqv]
  exact q _ (S3.trans (s4.trans (s5.trans s6)))
end
end K30
end
section
set_option format.width 300
namespace K30
open PySem L2 TM WK
open P15 (Lb Fm Tm dats Z0X okF Ok maxD sumS flatR Bld)
open PW (Vl Wd Hs Pg Sc Wt Ws IxAt Look Chain Z1O Flds Z1W putS Z0Z getS Z0O Two Step Z1P Z0F leaf)
seal L2.PE L2.PA L2.PT L2.PS L2.PSs L2.PG L2.PGs L2.PI L2.PW
open P23 (Rw RsOk pgOf hsOf wdOf num0 SOk RIn UpOk dueP NN)
inductive J2G (tb:Addr) (K:W.Frag) (vs:List V) (H:Hp) (Q:VK):Prop
 | mk (a:Addr) (ns:List Int) (a1:vs=[.ref a]) (a2:SqL K H a (ns.map V.int)) (a3:ns.length≤63) (a4:H tb=some (.tbl #[])) (a5:∀ H',Q (.bl true) H'):J2G tb K vs H Q
def Z9n (tb:Addr) (K:W.Frag):Sp:=fun vs H Q _=>J2G tb K vs H Q
theorem Z9T {tb:Addr} {K:W.Frag} {H:Hp} {a:Addr} {ns:List Int} (hl:ns.length≤63) (ht:H tb=some (.tbl #[])) (hS:SqL K H a (ns.map V.int)):Z9n tb K [.ref a] H (fun v _=>v=.bl true) fun _ _ _=>False:=⟨a,ns,rfl,hS,hl,ht,fun _=>rfl⟩
theorem Lay.pair {p:Str×Str} (h:SOk p.1∧SOk p.2):Lay 1 (J3c p):=Lay.tup (.cons (.str h.1) (.cons (.str h.2) .nil))
theorem LayL.pairs {fs:List (Str×Str)} (h:∀ f∈fs,SOk f.1∧SOk f.2):LayL 1 (fs.map J3c):=LayL.of fun d hd=>by
 obtain ⟨p,hp,rfl⟩:=List.mem_map.mp hd
 exact Lay.pair (h p hp)
theorem Lay.pairsD {fs:List (Str×Str)} (h:∀ f∈fs,SOk f.1∧SOk f.2):Lay 2 (WK.pairsD fs):=Lay.tup (LayL.pairs h)
theorem J7R {rs:List Rw} (ok:RsOk rs):∃ ch:Str→List Str,∀ x∈rs.map Rw.name,Chain (pgOf rs) x (ch x)∧(ch x).length≤12:=by
 have h:∀ x:Str,∃ es,x∈rs.map Rw.name→Chain (pgOf rs) x es∧es.length≤12:=fun x=>by
  by_cases hx:x∈rs.map Rw.name
  ·obtain ⟨r,hr,rfl⟩:=List.mem_map.mp hx
   obtain ⟨es,fa,i⟩:=RIn.ex ok hr
   exact ⟨es,fun _=>⟨i.ch,i.le⟩⟩
  ·exact ⟨[],fun z=>absurd z hx⟩
 exact ⟨fun x=>Classical.choose (h x),fun x hx=>Classical.choose_spec (h x) hx⟩
theorem J6e {rs:List Rw} (ok:RsOk rs):Lay 8 (Z7a (pgOf rs)):=by
 have wl:∀ h:Str×List (Str×Str)×Str,(SOk h.1∧SOk h.2.2∧∀ p∈h.2.1,SOk p.1∧SOk p.2)→Lay 3 (Z2D (wdOf h)):=fun h ⟨h1,h2,h3⟩=>Lay.tup (.cons (.str h1) (.cons (Lay.pairsD h3) (.cons (.str h2) (.cons (Lay.tup (.cons (.str (by show Array.all _ _=true; decide +kernel)) (.cons .int .nil)):Lay 2 _) .nil))))
 have ol:∀ o:Option Str,(∀ s,o=some s→SOk s)→Lay 4 (oD o):=fun o ho=>by
  cases o with
  | none=>exact .non
  | some s=>exact .str (ho s rfl)
 have hl:∀ r∈rs,Lay 5 (Z3t (hsOf r)):=fun r hr=>by
  obtain ⟨h1,h2,h3⟩:=ok.so r hr
  refine Lay.tup (.cons (.str h1) (.cons (ol _ fun s hs=>?_) (.cons ((Lay.pairsD h2).mono (by decide)) (.cons (Lay.tup (k:=3) (LayL.of fun d hd=>?_)) .nil))))
  ·obtain ⟨rk,up⟩:=ok.up
   obtain ⟨j,hj⟩:=List.getElem?_of_mem hr
   obtain ⟨_,i,r',h4,h5,_⟩:=up j r s hj hs
   exact h5▸(ok.so r' (List.mem_of_getElem? h4)).1
  ·obtain ⟨w,hw,rfl⟩:=List.mem_map.mp hd
   obtain ⟨h,hh,rfl⟩:=List.mem_map.mp hw
   exact wl h (h3 h hh)
 refine Lay.tup (.cons ((Lay.tup (k:=5) (LayL.of fun d hd=>?_)).mono (by decide)) (.cons ((Lay.tup (k:=2) (.cons (Lay.pairsD (fun f hf=>by cases hf)) (.cons (.str (show SOk ("number":Str) by show Array.all _ _=true; decide +kernel)) (.cons (Lay.tup (k:=1) (.cons (.str (by show Array.all _ _=true; decide +kernel)) (.cons .int .nil))) .nil)))).mono (by decide)) .nil))
 obtain ⟨X,hX,rfl⟩:=List.mem_map.mp hd
 obtain ⟨r,hr,rfl⟩:=List.mem_map.mp hX
 exact hl r hr
theorem J2p:P15.Ok num0:=.mk rfl (fun p hp=>by cases hp)
theorem J3M:WdOk ⟨"main",[],"number",num0⟩:=⟨J2p,by show List.length [_]≤100; simp,by simp⟩
theorem J5S {rs:List Rw} (nd:(rs.map Rw.name).Nodup) (sm:∀ r∈rs,r.fields.length≤4∧r.heads.length≤8∧∀ h∈r.heads,h.2.1.length≤4):GOk (pgOf rs):=by
 have wok:∀ h:Str×List (Str×Str)×Str,h.2.1.length≤4→WdOk (wdOf h):=fun h l=>⟨J2p,by show List.length [_]≤100; simp,by show h.2.1.length≤100; omega⟩
 refine ⟨by rw [P23.Z5s]; exact nd,fun X hX=>?_⟩
 obtain ⟨r,hr,rfl⟩:=List.mem_map.mp hX
 obtain ⟨h1,h2,h3⟩:=sm r hr
 refine ⟨fun d hd=>?_,by show r.fields.length≤100; omega,by show (r.heads.map wdOf).length≤100; rw [List.length_map]; omega⟩
 obtain ⟨h,hh,rfl⟩:=List.mem_map.mp hd
 exact wok h (h3 h hh)
theorem J8d {rs:List Rw} (ok:RsOk rs) (nn:∀ x∈rs.map Rw.name,x∉NN):∃ up,UpOk rs up:=by
 obtain ⟨ch,hch⟩:=J7R ok
 refine ⟨fun x=>if x∈rs.map Rw.name then ch x else [],fun x hx=>?_,fun x hx=>?_,nn⟩
 ·rw [if_pos hx]; exact hch x hx
 ·exact if_neg hx
structure Kv (up:Str→List Str) (ks:List Str) (n:Nat) (S:Str→Str→Prop) (kvs:List (List Key×V)):Prop where
 le:kvs.length≤n
 ky:∀ p∈kvs,∃ a b,p.1=[.inr a,.inr b]∧a∈ks∧b∈ks
 at_:∀ a b,S a b→valV kvs [.inr a,.inr b]=some (.bl (dueP up a b))
theorem Kv.put {up:Str→List Str} {ks:List Str} {n:Nat} {S S':Str→Str→Prop} {kvs:List (List Key×V)} (h:Kv up ks n S kvs) {a b:Str} (ha:a∈ks) (hb:b∈ks) (hS:∀ x y,S' x y→S x y∨x=a∧y=b):Kv up ks (n+1) S' (putK kvs [.inr a,.inr b] (.bl (dueP up a b))):=by
 refine ⟨?_,fun p hp=>?_,fun x y hxy=>?_⟩
 ·have:=h.le
  unfold putK
  split
  ·rw [List.length_map]; omega
  ·rw [List.length_append]; show _+1≤_; omega
 ·unfold putK at hp
  split at hp
  ·obtain ⟨p',hp',rfl⟩:=List.mem_map.mp hp
   have:=h.ky p' hp'
   split <;> exact this
  ·rcases List.mem_append.mp hp with hp | hp
   ·exact h.ky p hp
   ·cases List.mem_singleton.mp hp
    exact ⟨a,b,rfl,ha,hb⟩
 ·rw [Z7e]
  by_cases e:([Sum.inr x,Sum.inr y]:List Key)=[.inr a,.inr b]
  ·rw [if_pos e]
   cases e; rfl
  ·rw [if_neg e]
   rcases hS x y hxy with z | ⟨rfl,rfl⟩
   ·exact h.at_ x y z
   ·exact absurd rfl e
noncomputable def LDI (up:Str→List Str) (ks:List Str) (H:Hp) (d:Addr) (σ0:St) (i:Nat) (σ:St) (H':Hp):Prop:=∃ (kvs:List (List Key×V)) (o:Option V×Option V×Option V),SX d H H'∧H' d=some (.dT kvs)∧Kv up ks (14 * i) (fun a b=>a∈ks.take i∧b∈ks) kvs∧σ=σ0++[o.1,o.2.1,o.2.2,none,none]
noncomputable def LPI (H:Hp) (σ0:St) (i:Nat) (σ:St) (H':Hp):Prop:=∃ (o:Option V),Same H H'∧σ=σ0++[o]
noncomputable def LDJ (up:Str→List Str) (ks:List Str) (H:Hp) (d:Addr) (σ0:St) (i:Nat) (x:Str) (j:Nat) (σ:St) (H':Hp):Prop:=∃ (kvs:List (List Key×V)) (o:Option V),SX d H H'∧H' d=some (.dT kvs)∧Kv up ks (14 * i+j) (fun a b=>a∈ks.take i∧b∈ks∨a=x∧b∈ks.take j) kvs∧σ=σ0++[o,none,none]
section
variable {Uh9 Cl Cs Cq Ck Ct Cw Ch Cp:Addr} {P:Program} {w:World} {K:W.Frag} {mg:Str→Option Value} {base:Heap} {B:Hp}
theorem J6c (T:Txt K mg Ct Cw Ch Cp Cl Uh9) {f tb:Addr} {fd:FuncData} (FT:FnT K mg "_law_order" Z0N tb) (hB:BAt mg base) (F:Fun K "law" "law" Z8D f fd):FnOk P w K mg base CX0 20 f fd ["_law_script"] (Z9n tb K):=by
 have h__law_drawn:=J1N (P:=P) (w:=w) (base:=base) T
 have h__law_order:=J1U T FT hB h__law_drawn
 have h__law_kind:=J3g (P:=P) (w:=w) (base:=base) T
 have h__law_params:=Z8v T h__law_kind
 have h__law_rows:=J1f T h__law_drawn (J1L (P:=P) (w:=w) (base:=base) T) h__law_order (Z4a T h__law_drawn) (Z8B T h__law_drawn h__law_kind) (J0v T h__law_drawn h__law_kind h__law_params)
 have h__law_program:=J1I (P:=P) (w:=w) (base:=base) T
 have h_shape_of:=J1c (P:=P) (w:=w) (base:=base) T
 have h_parts_of:=J1n (P:=P) (w:=w) (base:=base) T
 have h_label_of:=J0U (P:=P) (w:=w) (base:=base) T
 have h_Term_plain:=Z9i (P:=P) (w:=w) (base:=base) T
 have h_Term_parts:=Z8N (P:=P) (w:=w) (base:=base) T
 have h_Term_depth:=Z9M (P:=P) (w:=w) (base:=base) T
 have h_Term_size:=J1l (P:=P) (w:=w) (base:=base) T
 have h_term_of:=Z8T T h_parts_of h_label_of (Z9v T h_parts_of) (J1C T h_shape_of h_Term_plain h_Term_depth h_Term_size)
 have h_pairs_of:=J1D (P:=P) (w:=w) (base:=base) T
 have h_word_of:=J3k (B:=fun _=>none) (Cs:=0) (Cq:=0) (Ck:=0) T h_term_of (J1x T h_pairs_of)
 have h_house_of:=J0Q T h_word_of (J1s T h_pairs_of)
 have h_program_of:=Z8t T h_word_of h_house_of (J0B (P:=P) (w:=w) (base:=base) T)
 have h_Hall___init__:=J0M (P:=P) (w:=w) (base:=base) (B:=fun _=>none) (Cs:=0) (Cq:=0) (Ck:=0) T
 have h_Hall_elders:=Z8Z (P:=P) (w:=w) (base:=base) (B:=fun _=>none) (Cs:=0) (Cq:=0) (Ck:=0) T
 have h__law_ups:=J3N (P:=P) (w:=w) (base:=base) T
 have h_Program_plain:=Z9A T h_Term_plain (Z9l T (Z9o (B:=fun _=>none) (Cl:=Cl) (Cs:=0) (Cq:=0) (Ck:=0) T h_Term_plain))
 have h_is_house:=Z8f (P:=P) (w:=w) (base:=base) T
 have h_fits:=J3G T h_is_house h_Hall_elders
 have h__law_pair_good:=J1B T h_fits (Z8k T h_is_house h_fits h_Hall_elders)
 refine F.ok sc_law (fun vs H Q E h=>?_) (fun cdv A outer s H vs Q E hr h=>?_)
 ·obtain ⟨a,ns,rfl,_⟩:=h
  rfl
 obtain ⟨a,ns,rfl,sq,hl,htb,q⟩:=h
 refine ⟨_,(Z0b (Z0q (i:=1) sc_law.nd rfl (Or.inl rfl) (Z0v h__law_rows hr (by decide) rfl (Z0a (pvF 0) Z0d)))
  (Z0b (Z0q (i:=2) sc_law.nd rfl (Or.inl rfl) (Z0v h__law_program hr (by decide) rfl (Z0a (pvF 1) Z0d)))
  (Z0b (Z0q (i:=3) sc_law.nd rfl (Or.inl rfl) (Z0v h_program_of hr (by decide) rfl (Z0a (pvF 2) Z0d)))
  (Z0b (Z0q (i:=4) sc_law.nd rfl (Or.inl rfl) (Z5Y T.Hall h_Hall___init__ hr (by decide) rfl (Z0a (pvF 3) Z0d)))
  (Z0b (Z1n rfl sc_law.nd (i:=5) rfl rfl (BlockOk.plain (N:=["_law_row"]) rfl (by decide +kernel) (by decide +kernel) (by decide +kernel)) (Z1w (pvF 1))
     (fun C fp s H=>(Z0l (i:=0) (show (["_law_row"]:List Str).Nodup by decide +kernel) rfl (Or.inl rfl)))
     (fun C fp s H=>(Z0B (r:=Z1Y K) Z0K (pvF 0) Z0f (fun _ _=>rfl))))
  (Z0b (Z0q (i:=6) sc_law.nd rfl (Or.inl rfl) (Z0m Z3a (Z1h (Z0a Z0p (Z0a Z0p Z0d))) (pvF 5)))
  (Z0b (Z0q (i:=7) sc_law.nd rfl (Or.inl rfl) J1o)
  (Z0b (Z2v PassesOwn.never rfl (Z1w (pvF 6)) (Z0l (i:=8) sc_law.nd rfl (Or.inl rfl)) (Z0b (Z0q (i:=9) sc_law.nd rfl (Or.inl rfl) (Z7x (Z0y (r:=rIn K false) Z0M (pvF 8) (pvF 5) (by with_unfolding_all rfl)) (Z0v h__law_ups hr (by decide) rfl (Z0a (pvF 1) (Z0a (pvF 8) Z0d))) (Z1h Z0d)))
  (Z0g (Z2v PassesOwn.never rfl (Z1w (pvF 6)) (Z0l (i:=10) sc_law.nd rfl (Or.inl rfl)) (Z0g (J0s (Z4o hr) (pvF 7) (Z0x (Z0a (pvF 8) (Z0a (pvF 10) Z0d))) (J8w (Z2S Z4W (pvF 8) (pvF 10) (Z1p _)) (J2F (Z2S (r:=rIn K false) Z0M (pvF 10) (pvF 9) (by with_unfolding_all rfl)))) rfl))))))
  (Z0b (Z0q (i:=11) sc_law.nd rfl (Or.inl rfl) (Z2d (r:=Z8J) (Z8g rfl) rfl T.z_sorted Z8F (Z0a (pvF 7) Z0d)))
  (Z0b (Z2v PassesOwn.never rfl (Z1w (Z0m Z3a (pvF 11) (J4i (pvF 11) (Z1U (J7u J5u Z0f))))) (Z0l (i:=12) sc_law.nd rfl (Or.inl rfl)) (Z0g (Z1H (Z5R (Z3s (Z0v h__law_pair_good hr (by decide) rfl (Z0a (pvF 4) (Z0a (pvF 12) (Z0a (pvF 6) (Z0a (pvF 7) Z0d))))))) (Z0g (Z0r J4f)) Z0D)))
  (Z0g (Z0r (Z2S (r:=rEqD K) (J2u hr.units) (Z1D (pvF 3) T.Program.cl h_Program_plain hr (by decide)) (pvF 2) (Z1p _)))))))))))))),?_⟩
 refine J7K fun uz10 huz10 uz9 huz9 uz8 huz8 uz7 huz7 uz6 huz6 uz5 huz5 uz4 huz4 uz3 huz3 uz2 huz2 uz1 huz1=>?_
 walk_at "rd"
 refine ⟨a,ns,rfl,sq,htb,fun rl us rs H1 sx1 hrl hrs ok nn=>?_⟩
 have lus:=hrs.len
 have l12:=ok.l12
 have lh:∀ rs:List Rw,(pgOf rs).houses.length=rs.length:=fun rs=>List.length_map ..
 have gok:GOk (pgOf rs):=J5S ok.nd ok.sm
 subst huz1
 walk_at "rd"
 refine ⟨rl,us,rs,rfl,hrl,hrs,l12,(fun r hr=>(ok.sm r hr).2.1),fun plv H2 s2 rv=>?_⟩
 subst huz2
 walk_at "rd"
 refine ⟨plv,pgOf rs,rfl,rv,gok.hs,by rw [lh]; omega,J3M,rfl,fun u' H3 s3 hpg=>?_⟩
 subst huz3
 walk_at "rd"
 intro x dx hx hdx ne
 have s4:=Z2Y (C:=Cl) hx hdx ne
 refine ⟨x,dx,u',pgOf rs,rfl,Z0e,hpg.same s4,gok,by rw [lh]; omega,fun H5 sx5 hhl hino=>⟨rfl,?_⟩⟩
 have S35:Same H3 H5:=Z2J s4 sx5 hx
 have S15:=s2.trans (s3.trans S35)
 subst huz4
 walk_at "rd"
 have hrl5:=S15 _ _ hrl
 have hrs5:=Z3R hrs S15
 refine ⟨⟨_,SqL.of hrl5⟩,fun D hD=>?_⟩
 refine Z4v (ys:=us) none [] (fun j v H=>∃ r:Rw,rs[j]?=some r∧v=.str r.name) (fun _ _ _ _ h _=>h) rfl hD (by rw [sizeLine_eq]; omega) (fun H1 s=>SqL.of (s _ _ hrl5)) (fun i y hy H6 K' s6 k=>?_) (fun vs H6 s6 hvD lv hR=>?_)
 ·obtain ⟨r,hr',ro⟩:=hrs5.at hy
  obtain ⟨t,ft,hdl,rfl,g1⟩:=ro.inv
  walk_at "rd"
  exact ⟨_,SqT.of (s6 _ _ g1),_,ix0,k _ _ (Same.refl _) ⟨r,hr',rfl⟩⟩
 have ev:=Z3c (g:=fun r:Rw=>V.str r.name) (lv.trans lus) hR
 have hD6:StrL H6 D (rs.map Rw.name):=by show H6 D=_; rw [hvD,ev,List.map_map]; rfl
 have S16:=S15.trans s6
 subst huz5
 walk_at "rd"
 obtain ⟨up,u⟩:=J8d ok nn
 refine New.of fun l7 H7 h7 s7 e7=>⟨_,e7,_,s7 _ _ hD6,by rw [List.length_map,List.length_map]; show 2+_≤_; omega,New.of fun kl H8 h8 s8 e8=>?_⟩
 have e8:H8 kl=some (.lst ((NN++rs.map Rw.name).map V.str)):=by rw [e8,List.map_append]; rfl
 generalize hks:NN++rs.map Rw.name=ks at e8
 have lks:ks.length≤14:=by rw [← hks,List.length_append,List.length_map]; show 2+_≤_; omega
 have S18:=S16.trans (s7.trans s8)
 have S58:=s6.trans (s7.trans s8)
 have hD8:=(s7.trans s8) _ _ hD6
 have hrl8:=S18 _ _ hrl
 have hrs8:=Z3R hrs S18
 subst huz6
 walk_at "rd"
 intro d hd
 have s9:=Z0n hd (.dT [])
 have e9:upd H8 d (.dT []) d=some (.dT []):=Z0e
 generalize upd H8 d (.dT [])=H9 at *
 have kne:kl≠d:=Z0j e8 hd
 have e89:=s9 _ _ e8
 subst huz7
 walk_at "rd"
 refine ⟨⟨_,SqL.of e89⟩,?_⟩
 refine Z2n (ks.map V.str) (LDI up ks H9 d [some (.ref a),some (.ref rl),some plv,some u',some (.ref x),some (.ref D),some (.ref kl),some (.ref d)]) ⟨[],⟨none,none,none⟩,(fun _ _ _ h=>h),e9,⟨Nat.zero_le _,(fun p hp=>by cases hp),fun a b h=>by cases h.1⟩,rfl⟩ (fun i σ H' _ hI=>?_) (fun i y σ H' hy hI=>?_) (fun σ H' hI=>?_)
 ·obtain ⟨kvs,o,sx,_⟩:=hI
  exact SqL.of (sx _ _ kne e89)
 ·obtain ⟨kvs,⟨o1,o2,o3⟩,sx,ed,hkv,rfl⟩:=hI
  rw [List.getElem?_map] at hy
  obtain ⟨n,hn,rfl⟩:=Option.map_eq_some_iff.mp hy
  have S8:=Z2J s9 sx hd
  have hi:=(List.getElem?_eq_some_iff.mp hn).1
  have hnk:=List.mem_of_getElem? hn
  refine seq2 fun uy1 huy1=>?_
  walk_at "rd"
  have key:∀ (E:Ends),(∀ σ H,LDI up ks H9 d [some (.ref a),some (.ref rl),some plv,some u',some (.ref x),some (.ref D),some (.ref kl),some (.ref d)] (i+1) σ H→E.nx σ H)→∀ e H1,Same H' H1→H1 e=some (.lst ((up n).map V.str))→uy1 E [some (.ref a),some (.ref rl),some plv,some u',some (.ref x),some (.ref D),some (.ref kl),some (.ref d),some (.str n),some (.ref e),o3,none,none] H1:=by
   intro E hE e H1 s1 he
   have ed1:=s1 _ _ ed
   have sx1:=sx.trans (SX.of s1)
   have ne:e≠d:=fun z=>by rw [z,ed1] at he; cases he
   subst huy1
   walk_at "rd"
   refine ⟨⟨_,SqL.of (sx1 _ _ kne e89)⟩,?_⟩
   refine Z2n (ks.map V.str) (LDJ up ks H1 d [some (.ref a),some (.ref rl),some plv,some u',some (.ref x),some (.ref D),some (.ref kl),some (.ref d),some (.str n),some (.ref e)] i n) ⟨kvs,o3,(fun _ _ _ h=>h),ed1,⟨hkv.le,hkv.ky,fun a b h=>hkv.at_ a b (h.resolve_right fun z=>by cases z.2)⟩,rfl⟩ (fun j σ H2 _ hJ=>?_) (fun j y σ H2 hy hJ=>?_) (fun σ H2 hJ=>?_)
   ·obtain ⟨kvs,o,sx2,_⟩:=hJ
    exact SqL.of ((sx1.trans sx2) _ _ kne e89)
   ·obtain ⟨kv2,o,sx2,ed2,hkv2,rfl⟩:=hJ
    rw [List.getElem?_map] at hy
    obtain ⟨m,hm,rfl⟩:=Option.map_eq_some_iff.mp hy
    have hj:=(List.getElem?_eq_some_iff.mp hm).1
    have hmk:=List.mem_of_getElem? hm
    have le2:=hkv2.le
    have he2:=sx2 _ _ ne he
    have put:∀ (b:Bool) (H3:Hp) (t:Addr),b=dueP up n m→Same H2 H3→H3 t=some (.tup [.str n,.str m])→∃ H4,DPut H3 d (.ref t) (.bl b) H4∧LDJ up ks H1 d [some (.ref a),some (.ref rl),some plv,some u',some (.ref x),some (.ref D),some (.ref kl),some (.ref d),some (.str n),some (.ref e)] i n (j+1) [some (.ref a),some (.ref rl),some plv,some u',some (.ref x),some (.ref D),some (.ref kl),some (.ref d),some (.str n),some (.ref e),some (.str m),none,none] H4:=fun b H3 t eb s3 ht=>by
     subst eb
     refine ⟨_,DPut.t (k:=[.inr n,.inr m]) (s3 _ _ ed2) ht (by rw [sizeLine_eq]; omega),_,_,(sx2.trans (SX.of s3)).trans (SX.put _),Z0e,hkv2.put hnk hmk (fun a b h=>?_),rfl⟩
     rcases h with h | ⟨rfl,h⟩
     ·exact .inl (.inl h)
     ·rw [List.take_succ,hm] at h
      rcases (List.mem_append.mp h) with h | h
      ·exact .inl (.inr ⟨rfl,h⟩)
      ·exact .inr ⟨rfl,List.mem_singleton.mp h⟩
    walk_at "rd"
    refine ite2 (fun z=>New.of fun t H3 h3 s3 e3=>put _ _ _ (decide_eq_true (.inl z)).symm s3 e3) (fun z=>⟨_,.inl (SqL.of he2),rfl,Z3g _,?_⟩)
    rw [Z7o]
    exact New.of fun t H3 h3 s3 e3=>put _ _ _ (decide_eq_decide.mpr ⟨fun h=>.inr h,fun h=>h.resolve_left z⟩) s3 e3
   ·obtain ⟨kv2,o,sx2,ed2,hkv2,rfl⟩:=hJ
    refine hE _ _ ⟨kv2,⟨_,_,_⟩,sx1.trans sx2,ed2,⟨by have:=hkv2.le; rw [List.length_map] at this; omega,hkv2.ky,fun a b h=>hkv2.at_ a b ?_⟩,rfl⟩
    rw [List.take_succ,hn] at h
    rcases List.mem_append.mp h.1 with z | z
    ·exact .inl ⟨z,h.2⟩
    ·exact .inr ⟨List.mem_singleton.mp z,by rw [List.take_of_length_le (by simp)]; exact h.2⟩
  refine ⟨_,.inl (SqL.of (S8 _ _ hD8)),rfl,Z3g _,?_⟩
  rw [Z7o]
  refine ite2 (fun z=>?_) (fun z=>?_)
  ·have hnn:=of_decide_eq_true z
   obtain ⟨c1,c2⟩:=u.ch n hnn
   exact ⟨rl,us,rs,n,up n,rfl,S8 _ _ hrl8,Z3R hrs8 S8,ok,c1,c2,fun e H1 s1 h1 hs=>key _ (fun _ _ h=>h) e H1 s1 hs⟩
  ·have hnn:n∉rs.map Rw.name:=fun m=>z (decide_eq_true m)
   refine New.of fun e H1 h1 s1 e1=>key _ (fun _ _ h=>h) e H1 s1 ?_
   rw [e1,u.no n hnn]; rfl
 ·obtain ⟨kvs,⟨o1,o2,o3⟩,sx,ed,hkv,rfl⟩:=hI
  rw [List.length_map] at hkv
  have S8:=Z2J s9 sx hd
  have due:∀ x∈ks,∀ y∈ks,valV kvs [.inr x,.inr y]=some (.bl (dueP up x y)):=fun x hx y hy=>hkv.at_ x y ⟨by rw [List.take_of_length_le (Nat.le_refl _)]; exact hx,hy⟩
  have lkv:=hkv.le
  subst huz8
  walk_at "rd"
  refine ⟨kvs,.inl ed,(fun p hp=>by obtain ⟨a,b,e,_⟩:=hkv.ky p hp; exact ⟨a,b,e⟩),fun pl zs hpl lzs hzs=>?_⟩
  have sP:=Z0n hpl (.lst zs)
  have eP:upd H' pl (.lst zs) pl=some (.lst zs):=Z0e
  generalize upd H' pl (.lst zs)=HP at *
  have allz:∀ z∈zs,∃ t x y,z=.ref t∧x∈ks∧y∈ks∧H' t=some (.tup [.str x,.str y]):=fun z hz=>by
   obtain ⟨t,rfl,p,hp,ht⟩:=hzs z hz
   obtain ⟨x,y,e,hx,hy⟩:=hkv.ky p hp
   rw [e] at ht
   exact ⟨t,x,y,rfl,hx,hy,ht⟩
  subst huz9
  walk_at "rd"
  refine ⟨_,SqL.of eP,fun rv' hrv=>?_⟩
  have sE:=Z0n hrv (.lst zs.reverse)
  have eE:upd HP rv' (.lst zs.reverse) rv'=some (.lst zs.reverse):=Z0e
  generalize upd HP rv' (.lst zs.reverse)=HE at *
  refine ⟨_,sE _ _ eP,_,eE,by rw [List.length_reverse]; omega,New.of fun al HA hA sA eA=>⟨⟨_,SqL.of eA⟩,?_⟩⟩
  have W:=sP.trans (sE.trans sA)
  have W8:=S8.trans W
  have alla:∀ z∈zs++zs.reverse,∃ t x y,z=.ref t∧x∈ks∧y∈ks∧HA t=some (.tup [.str x,.str y]):=fun z hz=>by
   have hz:z∈zs:=(List.mem_append.mp hz).elim id List.mem_reverse.mp
   obtain ⟨t,x,y,h1,h2,h3,h4⟩:=allz z hz
   exact ⟨t,x,y,h1,h2,h3,W _ _ h4⟩
  have hhlA:=hhl.same (S58.trans W8)
  have edA:=W _ _ ed
  have ekA:=W8 _ _ e8
  have hpgA:=hpg.same (S35.trans (S58.trans W8))
  have rvA:=rv.same (s3.trans (S35.trans (S58.trans W8)))
  subst hks
  refine Z2n (zs++zs.reverse) (LPI HA [some (.ref a),some (.ref rl),some plv,some u',some (.ref x),some (.ref D),some (.ref kl),some (.ref d),o1,o2,o3,some (.ref pl)]) ⟨none,Same.refl _,rfl⟩ (fun i σ H2 _ hI=>?_) (fun i z σ H2 hz hI=>?_) (fun σ H2 hI=>?_)
  ·obtain ⟨o,s2,rfl⟩:=hI
   exact SqL.of (s2 _ _ eA)
  ·obtain ⟨o,s2,rfl⟩:=hI
   obtain ⟨t,x',y',rfl,hx',hy',ht⟩:=alla z (List.mem_of_getElem? hz)
   exact ⟨x,t,kl,d,x',y',rs,up,kvs,rfl,hhlA.same s2,ok,u,s2 _ _ ht,hx',hy',s2 _ _ ekA,s2 _ _ edA,due,fun H3 s3=>⟨true,rfl,ite2 (fun z=>by cases z) (fun _=>⟨_,s2.trans s3,rfl⟩)⟩⟩
  ·obtain ⟨o,s2,rfl⟩:=hI
   have hpF:=hpgA.same s2
   have hp0:=hpF
   have ly:=J6e ok
   cases hpF with
   | mk k1 k2 k3 k4=>
   subst huz10
   walk_at "rd"
   refine ⟨_,_,k1,rfl,_,pgOf rs,rfl,hp0,by rw [lh]; omega,(fun X hX=>?_),fun v G1 t1 rv1=>⟨_,RT.rd rv1,_,RT.rd ((rvA.same s2).same t1),ly.shaped (by decide),ly.shaped (by decide),?_⟩⟩
   ·obtain ⟨r,hr,rfl⟩:=List.mem_map.mp hX
    show (r.heads.map wdOf).length≤100
    have:=(ok.sm r hr).2.1
    rw [List.length_map]; omega
   rw [ly.eqv]
   exact q _
end
end K30
end
end
section
namespace K30
open PySem L2
theorem kbT:∀ P,(KB P).lookup 317=none:=fun _=>by kernel_rfl
theorem kbC:∀ P,L2.CodeHdK (KB P) 321 317:=fun _=>⟨none,#[(.str "_law_order" 598),(.str "_law_order" 599),(.str "/claim/cut.py" 600),(.int (206) 0),(.int (2) 0),(.int (0) 0),(.int (0) 0),(.int (3) 0),(.ref 316),(.bool true),(.int (181) 0),(.ref 317),.none,(.ref 318),(.ref 319),(.ref 320),(.int (604) 0),(.int (206) 0),(.str "/claim/cut.py" 605)],#[],"/claim/cut.py",605,3,0,true,181,0,by kernel_rfl,rfl,rfl,rfl,rfl,rfl,rfl,by decide⟩
end K30
end
open PySem PySem.W PyProof.Rows
set_option maxRecDepth 100000 in
set_option maxHeartbeats 0 in
theorem PySem.Challenge.cw_elderhouse_k30_fits_and_nearest_holds : PySem.Challenge.rw_elderhouse_k30_fits_and_nearest.Holds := by
 w_on
 refine holds_law (by kernel_rfl) fun said=>?_
 refine holds_open (q:=K30.qv) (loose:=[]) (Xt:=fun s=>xlAt K30.qv [] s&&recOk (RowW.records K30.rv) s) (XP:=XL K30.qv []) (Yf:=Hook.obs (kHook K30.KK K30.KA K30.Z3r)) (Ya:=Hook.val (kHook K30.KK K30.KA K30.Z3r)) (YP:=Hook.says (kHook K30.KK K30.KA K30.Z3r)) (N:=4998) K30.left (Hook.of (kHook K30.KK K30.KA K30.Z3r)) (Hook.keeps (kHook K30.KK K30.KA K30.Z3r)) (fun s e=>xl_of s (Bool.and_eq_true_iff.mp e).1) XL.keeps (by rfl) (by rfl) (by rfl) (fun s e=>recFacts_of (Bool.and_eq_true_iff.mp e).2) (by rfl) said (by decide +kernel) ⟨rfl,rfl,rfl,rfl,rfl,by decide +kernel⟩ ?hw ?hc
 case hw=>w_witness2
 refine L2.J2a (l:=rw0) (n:=63) (k:=20) (x:="_law_script") (c:=321) (T0:=317) (K:=K30.KB) (CX:=fun _=>L2.CX0) (sp:=fun w=>K30.Z9n 317 (K30.KB w.params)) rfl (by decide) rfl ⟨rfl,by decide,by decide,rfl⟩ (fun w h Y=>L2.J4q (W.kIn_of Y) (K30.kbT w.params)) (fun w=>K30.kbT w.params) (fun w=>K30.kbC w.params) ?F ?S (fun _ _ _ _ _ z=>z)
 case F=>
  intro w mg fa h KX G hmg
  k_fill
  have T:∃ Ct Cw Ch Cp Cl Uh9,K30.Txt (L2.KOf KX) mg Ct Cw Ch Cp Cl Uh9:=by
   dsimp only [L2.KOf]
   refine' ⟨_,_,_,_,_,_,K30.Txt.mk (W.mg_none_of KX G ?x0) (W.mg_none_of KX G ?x1) (W.mg_none_of KX G ?x2) (W.mg_none_of KX G ?x3) (W.mg_none_of KX G ?x4) (W.mg_none_of KX G ?x5) (W.mg_none_of KX G ?x6) (W.mg_none_of KX G ?x7) (W.mg_none_of KX G ?x8) (W.mg_none_of KX G ?x9) (W.mg_none_of KX G ?x10) (W.mg_none_of KX G ?x11) (W.mg_none_of KX G ?x12) (L2.J3J KX G ?x13) (L2.J3m ?x14 ?x15 ?x16 ?sz_NO_HOUSES ?x17) (L2.Z1M KX G ?x18 ?x19 ?x20 ?x21) (L2.Z1M KX G ?x22 ?x23 ?x24 ?x25) (L2.Z1M KX G ?x26 ?x27 ?x28 ?x29) (L2.Z1M KX G ?x30 ?x31 ?x32 ?x33) (L2.Z1M KX G ?x34 ?x35 ?x36 ?x37) (L2.Z1M KX G ?x38 ?x39 ?x40 ?x41) (L2.Z1M KX G ?x42 ?x43 ?x44 ?x45) (L2.Z1M KX G ?x46 ?x47 ?x48 ?x49) (L2.Z1M KX G ?x50 ?x51 ?x52 ?x53) (L2.Z1M KX G ?x54 ?x55 ?x56 ?x57) (L2.Z1M KX G ?x58 ?x59 ?x60 ?x61) (L2.Z1M KX G ?x62 ?x63 ?x64 ?x65) (L2.Z1M KX G ?x66 ?x67 ?x68 ?x69) (L2.Z1M KX G ?x70 ?x71 ?x72 ?x73) (L2.Z1M KX G ?x74 ?x75 ?x76 ?x77) (L2.Z1M KX G ?x78 ?x79 ?x80 ?x81) (L2.Z1M KX G ?x82 ?x83 ?x84 ?x85) (L2.Z1M KX G ?x86 ?x87 ?x88 ?x89) (L2.Z1M KX G ?x90 ?x91 ?x92 ?x93) (L2.Z1M KX G ?x94 ?x95 ?x96 ?x97) (L2.Z1M KX G ?x98 ?x99 ?x100 ?x101) (L2.Z1M KX G ?x102 ?x103 ?x104 ?x105) (L2.Z1M KX G ?x106 ?x107 ?x108 ?x109) (L2.Z1M KX G ?x110 ?x111 ?x112 ?x113) (L2.Z1M KX G ?x114 ?x115 ?x116 ?x117) (L2.Z5D KX G ?x118 ?pg_Term ?hd_Term ?po_Term ?sa_Term ?mk_Term ?kp_Term) (L2.Z0A ?x119) (L2.Z0A ?x120) (L2.Z0A ?x121) (L2.Z0A ?x122) (L2.Z0A ?x123) (L2.Z0A ?x124) (L2.Z5D KX G ?x125 ?pg_Word ?hd_Word ?po_Word ?sa_Word ?mk_Word ?kp_Word) (L2.Z0A ?x126) (L2.Z0A ?x127) (L2.Z0A ?x128) (L2.Z0A ?x129) (L2.Z5D KX G ?x130 ?pg_House ?hd_House ?po_House ?sa_House ?mk_House ?kp_House) (L2.Z0A ?x131) (L2.Z0A ?x132) (L2.Z0A ?x133) (L2.Z0A ?x134) (L2.Z5D KX G ?x135 ?pg_Program ?hd_Program ?po_Program ?sa_Program ?mk_Program ?kp_Program) (L2.Z0A ?x136) (L2.Z0A ?x137) (L2.Z5D KX G ?x138 ?pg_Hall ?hd_Hall ?po_Hall ?sa_Hall ?mk_Hall ?kp_Hall) (L2.Z0A ?x139) (L2.Z0A ?x140) (L2.Z1B ?x141 ?x142 ?x143 ?x144 ?x145) (L2.Z1B ?x146 ?x147 ?x148 ?x149 ?x150) (L2.Z1B ?x151 ?x152 ?x153 ?x154 ?x155) (L2.Z1B ?x156 ?x157 ?x158 ?x159 ?x160) (L2.Z1B ?x161 ?x162 ?x163 ?x164 ?x165) (L2.Z1B ?x166 ?x167 ?x168 ?x169 ?x170) (L2.Z1B ?x171 ?x172 ?x173 ?x174 ?x175) (L2.Z1B ?x176 ?x177 ?x178 ?x179 ?x180) (L2.Z1B ?x181 ?x182 ?x183 ?x184 ?x185) (L2.Z1B ?x186 ?x187 ?x188 ?x189 ?x190) (L2.Z1B ?x191 ?x192 ?x193 ?x194 ?x195) (L2.Z1B ?x196 ?x197 ?x198 ?x199 ?x200) (L2.Z1B ?x201 ?x202 ?x203 ?x204 ?x205) (L2.Z1B ?x206 ?x207 ?x208 ?x209 ?x210) (L2.Z1B ?x211 ?x212 ?x213 ?x214 ?x215) (L2.Z1B ?x216 ?x217 ?x218 ?x219 ?x220) (L2.Z1B ?x221 ?x222 ?x223 ?x224 ?x225)⟩
   (case x0=>k_is);(case x1=>k_is);(case x2=>k_is);(case x3=>k_is);(case x4=>k_is);(case x5=>k_is);(case x6=>k_is);(case x7=>k_is);(case x8=>k_is);(case x9=>k_is);(case x10=>k_is);(case x11=>k_is);(case x12=>k_is);(case x13=>k_is);(case x14=>k_is);(case x15=>first | exact rfl | exact ⟨rfl,rfl⟩);(case x16=>exact rfl);(case sz_NO_HOUSES=>decide);(case x17=>exact .cons ⟨_,rfl⟩ (.cons ⟨_,rfl⟩ (.nil)));(case x18=>k_is);(case x19=>k_is);(case x20=>k_is);(case x21=>k_is);(case x22=>k_is);(case x23=>k_is);(case x24=>k_is);(case x25=>k_is);(case x26=>k_is);(case x27=>k_is);(case x28=>k_is);(case x29=>k_is);(case x30=>k_is);(case x31=>k_is);(case x32=>k_is);(case x33=>k_is);(case x34=>k_is);(case x35=>k_is);(case x36=>k_is);(case x37=>k_is);(case x38=>k_is);(case x39=>k_is);(case x40=>k_is);(case x41=>k_is);(case x42=>k_is);(case x43=>k_is);(case x44=>k_is);(case x45=>k_is);(case x46=>k_is);(case x47=>k_is);(case x48=>k_is);(case x49=>k_is);(case x50=>k_is);(case x51=>k_is);(case x52=>k_is);(case x53=>k_is);(case x54=>k_is);(case x55=>k_is);(case x56=>k_is);(case x57=>k_is);(case x58=>k_is);(case x59=>k_is);(case x60=>k_is);(case x61=>k_is);(case x62=>k_is);(case x63=>k_is);(case x64=>k_is);(case x65=>k_is);(case x66=>k_is);(case x67=>k_is);(case x68=>k_is);(case x69=>k_is);(case x70=>k_is);(case x71=>k_is);(case x72=>k_is);(case x73=>k_is);(case x74=>k_is);(case x75=>k_is);(case x76=>k_is);(case x77=>k_is);(case x78=>k_is);(case x79=>k_is);(case x80=>k_is);(case x81=>k_is);(case x82=>k_is);(case x83=>k_is);(case x84=>k_is);(case x85=>k_is);(case x86=>k_is);(case x87=>k_is);(case x88=>k_is);(case x89=>k_is);(case x90=>k_is);(case x91=>k_is);(case x92=>k_is);(case x93=>k_is);(case x94=>k_is);(case x95=>k_is);(case x96=>k_is);(case x97=>k_is);(case x98=>k_is);(case x99=>k_is);(case x100=>k_is);(case x101=>k_is);(case x102=>k_is);(case x103=>k_is);(case x104=>k_is);(case x105=>k_is);(case x106=>k_is);(case x107=>k_is);(case x108=>k_is);(case x109=>k_is);(case x110=>k_is);(case x111=>k_is);(case x112=>k_is);(case x113=>k_is);(case x114=>k_is);(case x115=>k_is);(case x116=>k_is);(case x117=>k_is);(case x118=>k_is);(case pg_Term=>k_is);(case hd_Term=>k_is);(case po_Term=>k_is);(case sa_Term=>k_is);(case mk_Term=>k_is);(case kp_Term=>k_is);(case x119=>k_is);(case x120=>k_is);(case x121=>k_is);(case x122=>k_is);(case x123=>k_is);(case x124=>k_is);(case x125=>k_is);(case pg_Word=>k_is);(case hd_Word=>k_is);(case po_Word=>k_is);(case sa_Word=>k_is);(case mk_Word=>k_is);(case kp_Word=>k_is);(case x126=>k_is);(case x127=>k_is);(case x128=>k_is);(case x129=>k_is);(case x130=>k_is);(case pg_House=>k_is);(case hd_House=>k_is);(case po_House=>k_is);(case sa_House=>k_is);(case mk_House=>k_is);(case kp_House=>k_is);(case x131=>k_is);(case x132=>k_is);(case x133=>k_is);(case x134=>k_is);(case x135=>k_is);(case pg_Program=>k_is);(case hd_Program=>k_is);(case po_Program=>k_is);(case sa_Program=>k_is);(case mk_Program=>k_is);(case kp_Program=>k_is);(case x136=>k_is);(case x137=>k_is);(case x138=>k_is);(case pg_Hall=>k_is);(case hd_Hall=>k_is);(case po_Hall=>k_is);(case sa_Hall=>k_is);(case mk_Hall=>k_is);(case kp_Hall=>k_is);(case x139=>k_is);(case x140=>k_is);(case x141=>k_is);(case x142=>k_is);(case x143=>k_is);(case x144=>k_is);(case x145=>k_is);(case x146=>k_is);(case x147=>k_is);(case x148=>k_is);(case x149=>k_is);(case x150=>k_is);(case x151=>k_is);(case x152=>k_is);(case x153=>k_is);(case x154=>k_is);(case x155=>k_is);(case x156=>k_is);(case x157=>k_is);(case x158=>k_is);(case x159=>k_is);(case x160=>k_is);(case x161=>k_is);(case x162=>k_is);(case x163=>k_is);(case x164=>k_is);(case x165=>k_is);(case x166=>k_is);(case x167=>k_is);(case x168=>k_is);(case x169=>k_is);(case x170=>k_is);(case x171=>k_is);(case x172=>k_is);(case x173=>k_is);(case x174=>k_is);(case x175=>k_is);(case x176=>k_is);(case x177=>k_is);(case x178=>k_is);(case x179=>k_is);(case x180=>k_is);(case x181=>k_is);(case x182=>k_is);(case x183=>k_is);(case x184=>k_is);(case x185=>k_is);(case x186=>k_is);(case x187=>k_is);(case x188=>k_is);(case x189=>k_is);(case x190=>k_is);(case x191=>k_is);(case x192=>k_is);(case x193=>k_is);(case x194=>k_is);(case x195=>k_is);(case x196=>k_is);(case x197=>k_is);(case x198=>k_is);(case x199=>k_is);(case x200=>k_is);(case x201=>k_is);(case x202=>k_is);(case x203=>k_is);(case x204=>k_is);(case x205=>k_is);(case x206=>k_is);(case x207=>k_is);(case x208=>k_is);(case x209=>k_is);(case x210=>k_is);(case x211=>k_is);(case x212=>k_is);(case x213=>k_is);(case x214=>k_is);(case x215=>k_is);(case x216=>k_is);(case x217=>k_is);(case x218=>k_is);(case x219=>k_is);(case x220=>k_is);(case x221=>k_is);(case x222=>k_is);(case x223=>k_is);(case x224=>k_is);(case x225=>k_is)
  obtain ⟨Ct,Cw,Ch,Cp,Cl,Uh9,T⟩:=T
  have FT:L2.FnT (L2.KOf KX) mg "_law_order" K30.Z0N 317:=by
   dsimp only [L2.KOf]
   refine' L2.J5d KX G ?a ?l ?d ?k (K30.kbC _);(case a=>k_is);(case l=>k_is);(case d=>k_is);(case k=>k_is)
  exact L2.J1T T.f_law hmg (fun _ _ _ _ _ _ _=>rfl) fun f fd base hB F=>K30.J6c T FT hB F
 case S=>exact fun w H a ns hl ht hS=>K30.Z9T hl ht hS
