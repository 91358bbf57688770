import PyProof.Rows.All
import Wide.All
import OpenK.AllK
import Wide.FinOn
import PySem.PyData
import OpenK.KMore
import OpenK.KMake
import OpenK.KDescr
import OpenK.KOwn
import KE.KIsAll
import KE.KItem
import KE.KxBytes
import PyProof.EqAt
import PyProof.EqKinds
import PyProof.TupleCall
import PyProof.ReprRoads
import PyProof.ReprLen
import PyProof.ListNew
import PyProof.WalksMore
import KE.KRevIter
import PyProof.ZipIter
import PyProof.SumWalkG
import PyProof.MinMaxWalk
import PyProof.WalkInts
import PyProof.SeqI3
import PyProof.Rows.CallKwBuiltin
import KE.KMinKey
import PyProof.AutoSeq1
import PyProof.ListMulRoad
import PyProof.FactsAll.tuple
import PyProof.Rows.SeqMore
import PyProof.CompUse
import KE.KDictOf
import PyProof.AttrMiss
import PyProof.FactsAll.zip_1
import PyProof.ListRange
import PyProof.Rows.ListRangeD
import KE.KLam
import KE.KSortTup
import PyProof.AttrMissHeap
import PyProof.DictIter
import PyProof.DictWalks
import PyProof.DictTruth
import Lean
import PySem.Challenge.RW_elderhouse_k52_tables_and_numbers
set_option Elab.async false
set_option linter.all false
set_option maxRecDepth 100000
set_option maxHeartbeats 4000000
open PySem.Challenge renaming pw_elderhouse_k52_tables_and_numbers→pw0,rw_elderhouse_k52_tables_and_numbers→rw0
section
namespace L2
open PySem
def Z0r (s:Stmt) (j:Nat):Stmt:=match s with
 | .ClassDef _ _ _ body _ _ _ _ _ _ _=>body.getD j (.Pass ⟨0,0,0,0⟩)
 | _=>.Pass ⟨0,0,0,0⟩
def Z0h (s:Stmt):Arguments:=match s with
 | .FunctionDef _ a _ _ _ _ _ _ _ _=>a
 | _=>{ posonlyargs:=[],args:=[],vararg:=none,kwonlyargs:=[],kw_defaults:=[],kwarg:=none,defaults:=[] }
def Z0f (s:Stmt):List Stmt:=match s with
 | .FunctionDef _ _ b _ _ _ _ _ _ _=>b
 | _=>[]
def Z0b (s:Stmt):Scope:=match s with
 | .FunctionDef _ _ _ _ _ _ sc _ _ _=>sc
 | _=>{ kind:=.function,names:=[],isGenerator:=false,isCoroutine:=false }
end L2
namespace K52
open PySem L2
def top (i:Nat):Stmt:=pw0.main.body.getD i (.Pass ⟨0,0,0,0⟩)
abbrev Z1J:Stmt:=top 4
abbrev Z3B:Stmt:=top 5
abbrev Z1l:Stmt:=top 6
abbrev Z1y:Stmt:=top 7
abbrev Z2z:Stmt:=top 10
abbrev Z2B:Stmt:=top 14
abbrev Z1S:Stmt:=top 16
abbrev Z2u:Stmt:=top 17
abbrev Z2Y:Stmt:=top 18
abbrev Z2V:Stmt:=top 19
abbrev Z1V:Stmt:=top 20
abbrev Z2x:Stmt:=top 21
abbrev Z2y:Stmt:=top 22
abbrev Z5r:Stmt:=top 29
abbrev Z2v:Stmt:=top 32
abbrev Z1Q:Stmt:=top 35
abbrev Z1N:Stmt:=top 36
abbrev Z2w:Stmt:=top 38
abbrev Z2A:Stmt:=top 47
abbrev Z3y:Stmt:=top 51
abbrev Z1T:Stmt:=top 53
abbrev Z3D:Stmt:=top 64
abbrev Z1m:Stmt:=top 68
abbrev Z1I:Stmt:=top 69
abbrev Z1v:Stmt:=top 70
abbrev Z1O:Stmt:=top 71
abbrev Z7C:Stmt:=top 72
abbrev Z0W:Stmt:=Z0r (top 2) 0
abbrev Z1s:Stmt:=Z0r (top 2) 1
abbrev Z1x:Stmt:=Z0r (top 2) 2
abbrev Z1U:Stmt:=Z0r (top 2) 6
abbrev Z1c:Stmt:=Z0r (top 9) 0
abbrev Z1R:Stmt:=Z0r (top 9) 1
abbrev Z1P:Stmt:=Z0r (top 9) 2
abbrev Z1L:Stmt:=Z0r (top 9) 3
abbrev Z2h:Stmt:=Z0r (top 9) 4
abbrev Z1e:Stmt:=Z0r (top 11) 0
abbrev Z0Q:Stmt:=Z0r (top 12) 0
abbrev Z0F:Stmt:=Z0r (top 13) 0
abbrev Z0P:Stmt:=Z0r (top 48) 0
abbrev Z0D:Stmt:=Z0r (top 48) 1
abbrev Z1r:Stmt:=Z0r (top 48) 2
abbrev Z1M:Stmt:=Z0r (top 48) 3
abbrev Z0Y:Stmt:=Z0r (top 48) 4
abbrev Z0R:Stmt:=Z0r (top 61) 0
abbrev Z0O:Stmt:=Z0r (top 62) 0
abbrev Z1G:Stmt:=Z0r (top 62) 1
abbrev Z1b:Stmt:=Z0r (top 62) 2
abbrev Z0I:Stmt:=Z0r (top 62) 3
abbrev Z1H:Stmt:=Z0r (top 62) 4
abbrev Z0C:Stmt:=Z0r (top 62) 5
abbrev Z1d:Stmt:=Z0r (top 65) 0
abbrev Z0E:Stmt:=Z0r (top 65) 1
abbrev Z1W:Stmt:=Z0r (top 65) 2
abbrev Z1K:Stmt:=Z0r (top 65) 3
noncomputable def rv:W.RowW:=W.OpenRow.toRowW (W.OpenLaw.row rw0)
noncomputable def qv:Program:={ pw0 with main:={ pw0.main with body:=[top 0,top 2,top 4,top 5,top 6,top 7,top 9,top 10,top 11,top 12,top 13,top 14,top 16,top 17,top 18,top 19,top 20,top 21,top 22,top 24,top 25,top 27,top 28,top 29,top 30,top 32,top 33,top 34,top 35,top 36,top 37,top 38,top 39,top 40,top 41,top 42,top 43,top 44,top 47,top 48,top 49,top 50,top 51,top 52,top 53,top 55,top 56,top 57,top 58,top 59,top 61,top 62,top 65,top 66,top 68,top 69,top 70,top 71,top 72] } }
abbrev Z5X:Stmt:=top 0
abbrev Z2j:Stmt:=Z0r (top 2) 3
abbrev Z2r:Stmt:=Z0r (top 2) 4
abbrev Z2L:Stmt:=Z0r (top 2) 5
abbrev Z3g:Stmt:=Z0r (top 2) 7
abbrev Z1z:Stmt:=Z0r (top 2) 8
abbrev Z2M:Stmt:=Z0r (top 11) 1
abbrev Z2m:Stmt:=Z0r (top 12) 1
abbrev Z1Y:Stmt:=Z0r (top 13) 1
abbrev Z1D:Stmt:=Z0r (top 13) 2
abbrev Z1o:Stmt:=Z0r (top 25) 0
abbrev Z3v:Stmt:=top 28
abbrev Z3X:Stmt:=top 30
abbrev Z1n:Stmt:=top 33
abbrev Z3w:Stmt:=top 34
abbrev Z2t:Stmt:=top 37
abbrev Z7Y:Stmt:=top 39
abbrev Z3H:Stmt:=top 40
abbrev Z4g:Stmt:=top 41
abbrev Z2N:Stmt:=top 42
abbrev Z3b:Stmt:=top 43
abbrev Z4b:Stmt:=top 44
abbrev Z2K:Stmt:=top 49
abbrev Z4f:Stmt:=top 50
abbrev Z3j:Stmt:=top 52
abbrev Z3x:Stmt:=top 57
abbrev Z2o:Stmt:=top 58
abbrev Z4e:Stmt:=top 59
abbrev Z2a:Stmt:=Z0r (top 61) 1
abbrev Z1j:Stmt:=Z0r (top 62) 6
abbrev Z2q:Stmt:=Z0r (top 65) 4
abbrev Z2n:Stmt:=Z0r (top 65) 5
abbrev Z3u:Stmt:=Z0r (top 65) 6
abbrev Z3h:Stmt:=Z0r (top 65) 7
abbrev Z2c:Stmt:=Z0r (top 65) 8
abbrev Z1Z:Stmt:=Z0r (top 65) 9
abbrev Z2d:Stmt:=Z0r (top 65) 10
abbrev Z3Z:Stmt:=top 66
noncomputable def KK (P:PySem.Params):W.Frag:=
(nat_lit 2,Function.const (("a":Str)≠"b") (⟨.none,none,(.dict #[] 0),#[]⟩:Obj) (by decide)) ::
(nat_lit 3,⟨(.type "dict"),none,(.dict #[⟨PyData.keyHash P "__name__",.str "__name__" 165,.str "law_elderhouse_k52_tables_and_numbers" 1229⟩,⟨PyData.keyHash P "__doc__",.str "__doc__" 166,.none⟩,⟨PyData.keyHash P "__package__",.str "__package__" 167,.none⟩,⟨PyData.keyHash P "__loader__",.str "__loader__" 168,.builtin "__main__.__loader__#opaque"⟩,⟨PyData.keyHash P "__spec__",.str "__spec__" 169,.none⟩,⟨PyData.keyHash P "__annotations__",.str "__annotations__" 170,.ref 6⟩,⟨PyData.keyHash P "__builtins__",.str "__builtins__" 171,.ref 4⟩,⟨PyData.keyHash P "__file__",.str "__file__" 173,.str "/claim/cut.py" 172⟩,⟨PyData.keyHash P "__cached__",.str "__cached__" 174,.none⟩,⟨PyData.keyHash P "_wall",.str "_wall" 193,.ref 21⟩,⟨PyData.keyHash P "Hall",.str "Hall" 292,.ref 88⟩,⟨PyData.keyHash P "word_names",.str "word_names" 300,.ref 97⟩,⟨PyData.keyHash P "tables",.str "tables" 306,.ref 102⟩,⟨PyData.keyHash P "first_blocks",.str "first_blocks" 316,.ref 109⟩,⟨PyData.keyHash P "found_block",.str "found_block" 327,.ref 116⟩,⟨PyData.keyHash P "Term",.str "Term" 389,.ref 159⟩,⟨PyData.keyHash P "shape_of",.str "shape_of" 398,.ref 170⟩,⟨PyData.keyHash P "Word",.str "Word" 440,.ref 194⟩,⟨PyData.keyHash P "House",.str "House" 481,.ref 220⟩,⟨PyData.keyHash P "Program",.str "Program" 525,.ref 253⟩,⟨PyData.keyHash P "pairs_of",.str "pairs_of" 531,.ref 262⟩,⟨PyData.keyHash P "program_of",.str "program_of" 539,.ref 267⟩,⟨PyData.keyHash P "house_of",.str "house_of" 545,.ref 272⟩,⟨PyData.keyHash P "word_of",.str "word_of" 556,.ref 279⟩,⟨PyData.keyHash P "term_of",.str "term_of" 562,.ref 284⟩,⟨PyData.keyHash P "all_within",.str "all_within" 572,.ref 291⟩,⟨PyData.keyHash P "parts_of",.str "parts_of" 580,.ref 298⟩,⟨PyData.keyHash P "label_of",.str "label_of" 588,.ref 305⟩,⟨PyData.keyHash P "HouseError",.str "HouseError" 608,.ref 315⟩,⟨PyData.keyHash P "BadKind",.str "BadKind" 633,.ref 335⟩,⟨PyData.keyHash P "NO_HOUSES",.str "NO_HOUSES" 638,.ref 338⟩,⟨PyData.keyHash P "is_house",.str "is_house" 645,.ref 345⟩,⟨PyData.keyHash P "fits",.str "fits" 654,.ref 352⟩,⟨PyData.keyHash P "nearest",.str "nearest" 664,.ref 359⟩,⟨PyData.keyHash P "kinds_of",.str "kinds_of" 677,.ref 366⟩,⟨PyData.keyHash P "need_like_elders",.str "need_like_elders" 689,.ref 373⟩,⟨PyData.keyHash P "kinds_in",.str "kinds_in" 695,.ref 378⟩,⟨PyData.keyHash P "body_kinds",.str "body_kinds" 705,.ref 385⟩,⟨PyData.keyHash P "term_kinds",.str "term_kinds" 719,.ref 392⟩,⟨PyData.keyHash P "bound_ahead",.str "bound_ahead" 729,.ref 399⟩,⟨PyData.keyHash P "own_kind",.str "own_kind" 740,.ref 406⟩,⟨PyData.keyHash P "need",.str "need" 748,.ref 413⟩,⟨PyData.keyHash P "two_kind",.str "two_kind" 757,.ref 420⟩,⟨PyData.keyHash P "if_kind",.str "if_kind" 766,.ref 427⟩,⟨PyData.keyHash P "field_kind",.str "field_kind" 775,.ref 434⟩,⟨PyData.keyHash P "call_kind",.str "call_kind" 787,.ref 441⟩,⟨PyData.keyHash P "all_fit",.str "all_fit" 793,.ref 446⟩,⟨PyData.keyHash P "SIGN_ROWS",.str "SIGN_ROWS" 814,.ref 447⟩,⟨PyData.keyHash P "compiled",.str "compiled" 821,.ref 454⟩,⟨PyData.keyHash P "Maker",.str "Maker" 897,.ref 497⟩,⟨PyData.keyHash P "part_kinds",.str "part_kinds" 903,.ref 506⟩,⟨PyData.keyHash P "if_rows",.str "if_rows" 913,.ref 513⟩,⟨PyData.keyHash P "joined",.str "joined" 922,.ref 520⟩,⟨PyData.keyHash P "last_slot",.str "last_slot" 928,.ref 525⟩,⟨PyData.keyHash P "most_bound",.str "most_bound" 934,.ref 530⟩,⟨PyData.keyHash P "GREATEST",.str "GREATEST" 938,.int 1000000000000000 937⟩,⟨PyData.keyHash P "MOST_WITHIN",.str "MOST_WITHIN" 940,.int 40 939⟩,⟨PyData.keyHash P "two_told",.str "two_told" 949,.ref 537⟩,⟨PyData.keyHash P "number_told",.str "number_told" 958,.ref 544⟩,⟨PyData.keyHash P "bounded",.str "bounded" 965,.ref 551⟩,⟨PyData.keyHash P "Scope",.str "Scope" 1010,.ref 575⟩,⟨PyData.keyHash P "Waits",.str "Waits" 1084,.ref 636⟩,⟨PyData.keyHash P "walked",.str "walked" 1093,.ref 646⟩,⟨PyData.keyHash P "Walk",.str "Walk" 1221,.ref 731⟩,⟨PyData.keyHash P "chooses",.str "chooses" 1228,.ref 742⟩,⟨PyData.keyHash P "_law_cell_at",.str "_law_cell_at" 1238,.ref 749⟩,⟨PyData.keyHash P "_law_mixed",.str "_law_mixed" 1246,.ref 756⟩,⟨PyData.keyHash P "_law_houses",.str "_law_houses" 1252,.ref 761⟩,⟨PyData.keyHash P "_law_block",.str "_law_block" 1258,.ref 766⟩,⟨PyData.keyHash P "law",.str "law" 1264,.ref 771⟩] 70),#[]⟩) ::
(nat_lit 15,⟨.type "tuple",none,.seq #[] 0,#[]⟩) ::
(nat_lit 17,⟨.type "tuple",none,.seq #[.str "k" 190] 0,#[]⟩) ::
(nat_lit 18,⟨.type "tuple",none,.seq #[] 0,#[]⟩) ::
(nat_lit 20,⟨.type "code",none,.fields #[.str "_wall" 187,.str "_wall" 188,.str "/claim/cut.py" 189,.int 1 0,.int 1 0,.int 0 0,.int 0 0,.int 3 0,.ref 15,.bool true,.int 181 0,.ref 16,.none,.ref 17,.ref 18,.ref 19,.int 191 0,.int 1 0,.str "/claim/cut.py" 192],#[]⟩) ::
(nat_lit 21,⟨(.type "function"),none,(.func (W.fnOf "_wall" "_wall" (Z0h Z5X) (Z0f Z5X) (Z0b Z5X) .none .none .none (.str "__main__" 164) none (.ref 20) .none)),#[]⟩) ::
(nat_lit 29,⟨.type "tuple",none,.seq #[] 0,#[]⟩) ::
(nat_lit 32,⟨.type "code",none,.fields #[.str "__init__" 208,.str "Hall.__init__" 209,.str "/claim/cut.py" 210,.int 7 0,.int 2 0,.int 0 0,.int 0 0,.int 3 0,.ref 29,.bool true,.int 181 0,.ref 30,.none,.none,.none,.ref 31,.int 211 0,.int 7 0,.str "/claim/cut.py" 212],#[]⟩) ::
(nat_lit 33,⟨(.type "function"),none,(.func (W.fnOf "__init__" "Hall.__init__" (Z0h Z0W) (Z0f Z0W) (Z0b Z0W) .none .none .none (.str "elderhouse.houses" 194) none (.ref 32) .none)),#[]⟩) ::
(nat_lit 34,⟨.type "tuple",none,.seq #[] 0,#[]⟩) ::
(nat_lit 36,⟨.type "tuple",none,.seq #[.str "self" 217] 0,#[]⟩) ::
(nat_lit 37,⟨.type "tuple",none,.seq #[] 0,#[]⟩) ::
(nat_lit 39,⟨.type "code",none,.fields #[.str "houses" 214,.str "Hall.houses" 215,.str "/claim/cut.py" 216,.int 13 0,.int 1 0,.int 0 0,.int 0 0,.int 3 0,.ref 34,.bool true,.int 181 0,.ref 35,.none,.ref 36,.ref 37,.ref 38,.int 218 0,.int 13 0,.str "/claim/cut.py" 219],#[]⟩) ::
(nat_lit 40,⟨(.type "function"),none,(.func (W.fnOf "houses" "Hall.houses" (Z0h Z1s) (Z0f Z1s) (Z0b Z1s) .none .none .none (.str "elderhouse.houses" 194) none (.ref 39) .none)),#[]⟩) ::
(nat_lit 41,⟨.type "tuple",none,.seq #[] 0,#[]⟩) ::
(nat_lit 43,⟨.type "tuple",none,.seq #[.str "self" 224,.str "house" 225,.str "nearest_first" 226,.str "one" 227] 0,#[]⟩) ::
(nat_lit 44,⟨.type "tuple",none,.seq #[] 0,#[]⟩) ::
(nat_lit 46,⟨.type "code",none,.fields #[.str "elders" 221,.str "Hall.elders" 222,.str "/claim/cut.py" 223,.int 16 0,.int 2 0,.int 0 0,.int 0 0,.int 3 0,.ref 41,.bool true,.int 181 0,.ref 42,.none,.ref 43,.ref 44,.ref 45,.int 228 0,.int 16 0,.str "/claim/cut.py" 229],#[]⟩) ::
(nat_lit 47,⟨(.type "function"),none,(.func (W.fnOf "elders" "Hall.elders" (Z0h Z1x) (Z0f Z1x) (Z0b Z1x) .none .none .none (.str "elderhouse.houses" 194) none (.ref 46) .none)),#[]⟩) ::
(nat_lit 48,⟨.type "tuple",none,.seq #[] 0,#[]⟩) ::
(nat_lit 50,⟨.type "tuple",none,.seq #[.str "self" 234,.str "house" 235] 0,#[]⟩) ::
(nat_lit 51,⟨.type "tuple",none,.seq #[] 0,#[]⟩) ::
(nat_lit 53,⟨.type "code",none,.fields #[.str "younger" 231,.str "Hall.younger" 232,.str "/claim/cut.py" 233,.int 24 0,.int 2 0,.int 0 0,.int 0 0,.int 3 0,.ref 48,.bool true,.int 181 0,.ref 49,.none,.ref 50,.ref 51,.ref 52,.int 236 0,.int 24 0,.str "/claim/cut.py" 237],#[]⟩) ::
(nat_lit 54,⟨(.type "function"),none,(.func (W.fnOf "younger" "Hall.younger" (Z0h Z2j) (Z0f Z2j) (Z0b Z2j) .none .none .none (.str "elderhouse.houses" 194) none (.ref 53) .none)),#[]⟩) ::
(nat_lit 55,⟨.type "tuple",none,.seq #[] 0,#[]⟩) ::
(nat_lit 57,⟨.type "tuple",none,.seq #[.str "self" 242,.str "house" 243,.str "all_fields" 244,.str "one" 245] 0,#[]⟩) ::
(nat_lit 58,⟨.type "tuple",none,.seq #[] 0,#[]⟩) ::
(nat_lit 60,⟨.type "code",none,.fields #[.str "fields" 239,.str "Hall.fields" 240,.str "/claim/cut.py" 241,.int 27 0,.int 2 0,.int 0 0,.int 0 0,.int 3 0,.ref 55,.bool true,.int 181 0,.ref 56,.none,.ref 57,.ref 58,.ref 59,.int 246 0,.int 27 0,.str "/claim/cut.py" 247],#[]⟩) ::
(nat_lit 61,⟨(.type "function"),none,(.func (W.fnOf "fields" "Hall.fields" (Z0h Z2r) (Z0f Z2r) (Z0b Z2r) .none .none .none (.str "elderhouse.houses" 194) none (.ref 60) .none)),#[]⟩) ::
(nat_lit 62,⟨.type "tuple",none,.seq #[] 0,#[]⟩) ::
(nat_lit 65,⟨.type "code",none,.fields #[.str "place" 249,.str "Hall.place" 250,.str "/claim/cut.py" 251,.int 33 0,.int 3 0,.int 0 0,.int 0 0,.int 3 0,.ref 62,.bool true,.int 181 0,.ref 63,.none,.none,.none,.ref 64,.int 252 0,.int 33 0,.str "/claim/cut.py" 253],#[]⟩) ::
(nat_lit 66,⟨(.type "function"),none,(.func (W.fnOf "place" "Hall.place" (Z0h Z2L) (Z0f Z2L) (Z0b Z2L) .none .none .none (.str "elderhouse.houses" 194) none (.ref 65) .none)),#[]⟩) ::
(nat_lit 67,⟨.type "tuple",none,.seq #[] 0,#[]⟩) ::
(nat_lit 70,⟨.type "code",none,.fields #[.str "found" 255,.str "Hall.found" 256,.str "/claim/cut.py" 257,.int 39 0,.int 3 0,.int 0 0,.int 0 0,.int 3 0,.ref 67,.bool true,.int 181 0,.ref 68,.none,.none,.none,.ref 69,.int 258 0,.int 39 0,.str "/claim/cut.py" 259],#[]⟩) ::
(nat_lit 71,⟨(.type "function"),none,(.func (W.fnOf "found" "Hall.found" (Z0h Z1U) (Z0f Z1U) (Z0b Z1U) .none .none .none (.str "elderhouse.houses" 194) none (.ref 70) .none)),#[]⟩) ::
(nat_lit 72,⟨.type "tuple",none,.seq #[] 0,#[]⟩) ::
(nat_lit 74,⟨.type "tuple",none,.seq #[.str "self" 264,.str "house" 265,.str "word" 266,.str "own" 267] 0,#[]⟩) ::
(nat_lit 75,⟨.type "tuple",none,.seq #[] 0,#[]⟩) ::
(nat_lit 77,⟨.type "code",none,.fields #[.str "head" 261,.str "Hall.head" 262,.str "/claim/cut.py" 263,.int 46 0,.int 3 0,.int 0 0,.int 0 0,.int 3 0,.ref 72,.bool true,.int 181 0,.ref 73,.none,.ref 74,.ref 75,.ref 76,.int 268 0,.int 46 0,.str "/claim/cut.py" 269],#[]⟩) ::
(nat_lit 78,⟨(.type "function"),none,(.func (W.fnOf "head" "Hall.head" (Z0h Z3g) (Z0f Z3g) (Z0b Z3g) .none .none .none (.str "elderhouse.houses" 194) none (.ref 77) .none)),#[]⟩) ::
(nat_lit 79,⟨.type "tuple",none,.seq #[] 0,#[]⟩) ::
(nat_lit 81,⟨.type "tuple",none,.seq #[.str "self" 274,.str "house" 275,.str "word" 276,.str "where" 277,.str "name" 278,.str "number" 279] 0,#[]⟩) ::
(nat_lit 82,⟨.type "tuple",none,.seq #[] 0,#[]⟩) ::
(nat_lit 84,⟨.type "code",none,.fields #[.str "found_word" 271,.str "Hall.found_word" 272,.str "/claim/cut.py" 273,.int 52 0,.int 3 0,.int 0 0,.int 0 0,.int 3 0,.ref 79,.bool true,.int 181 0,.ref 80,.none,.ref 81,.ref 82,.ref 83,.int 280 0,.int 52 0,.str "/claim/cut.py" 281],#[]⟩) ::
(nat_lit 85,⟨(.type "function"),none,(.func (W.fnOf "found_word" "Hall.found_word" (Z0h Z1z) (Z0f Z1z) (Z0b Z1z) .none .none .none (.str "elderhouse.houses" 194) none (.ref 84) .none)),#[]⟩) ::
(nat_lit 86,⟨.type "tuple",none,.seq #[.str "by_name" 283,.str "in_order" 284] 0,#[]⟩) ::
(nat_lit 87,⟨(.type "dict"),none,(.dict #[⟨PyData.keyHash P "__module__",.str "__module__" 203,.str "elderhouse.houses" 194⟩,⟨PyData.keyHash P "__firstlineno__",.str "__firstlineno__" 207,.int 5 206⟩,⟨PyData.keyHash P "__init__",.str "__init__" 213,.ref 33⟩,⟨PyData.keyHash P "houses",.str "houses" 220,.ref 40⟩,⟨PyData.keyHash P "elders",.str "elders" 230,.ref 47⟩,⟨PyData.keyHash P "younger",.str "younger" 238,.ref 54⟩,⟨PyData.keyHash P "fields",.str "fields" 248,.ref 61⟩,⟨PyData.keyHash P "place",.str "place" 254,.ref 66⟩,⟨PyData.keyHash P "found",.str "found" 260,.ref 71⟩,⟨PyData.keyHash P "head",.str "head" 270,.ref 78⟩,⟨PyData.keyHash P "found_word",.str "found_word" 282,.ref 85⟩,⟨PyData.keyHash P "__static_attributes__",.str "__static_attributes__" 285,.ref 86⟩,⟨PyData.keyHash P "__dict__",.str "__dict__" 287,.ref 89⟩,⟨PyData.keyHash P "__weakref__",.str "__weakref__" 289,.ref 90⟩,⟨PyData.keyHash P "__doc__",.str "__doc__" 290,.none⟩] 4),#[]⟩) ::
(nat_lit 88,⟨(.type "type"),none,(.cls ⟨"Hall",[(.type "object")],[.ref 88,(.type "object")],87,"Hall",true,[],[],false,none,false⟩),#[none,none,(some (.str "Hall" 196)),(some (.str "Hall" 204)),(some (.builtin "object.__new__")),(some (.bool true))]⟩) ::
(nat_lit 89,⟨.type "getset_descriptor",none,.fields #[.str "__dict__" 286,.ref 88,.builtin "function.__dict__",.builtin "function.__dict__#set"],#[]⟩) ::
(nat_lit 90,⟨.type "getset_descriptor",none,.fields #[.str "__weakref__" 288,.ref 88,.builtin "ExceptionGroup.__weakref__",.none],#[]⟩) ::
(nat_lit 93,⟨.type "tuple",none,.seq #[] 0,#[]⟩) ::
(nat_lit 96,⟨.type "code",none,.fields #[.str "word_names" 295,.str "word_names" 296,.str "/claim/cut.py" 297,.int 59 0,.int 1 0,.int 0 0,.int 0 0,.int 3 0,.ref 93,.bool true,.int 181 0,.ref 94,.none,.none,.none,.ref 95,.int 298 0,.int 59 0,.str "/claim/cut.py" 299],#[]⟩) ::
(nat_lit 97,⟨(.type "function"),none,(.func (W.fnOf "word_names" "word_names" (Z0h Z1J) (Z0f Z1J) (Z0b Z1J) .none .none .none (.str "elderhouse.tables" 293) none (.ref 96) .none)),#[]⟩) ::
(nat_lit 98,⟨.type "tuple",none,.seq #[] 0,#[]⟩) ::
(nat_lit 101,⟨.type "code",none,.fields #[.str "tables" 301,.str "tables" 302,.str "/claim/cut.py" 303,.int 64 0,.int 1 0,.int 0 0,.int 0 0,.int 3 0,.ref 98,.bool true,.int 181 0,.ref 99,.none,.none,.none,.ref 100,.int 304 0,.int 64 0,.str "/claim/cut.py" 305],#[]⟩) ::
(nat_lit 102,⟨(.type "function"),none,(.func (W.fnOf "tables" "tables" (Z0h Z3B) (Z0f Z3B) (Z0b Z3B) .none .none .none (.str "elderhouse.tables" 293) none (.ref 101) .none)),#[]⟩) ::
(nat_lit 103,⟨.type "tuple",none,.seq #[] 0,#[]⟩) ::
(nat_lit 105,⟨.type "tuple",none,.seq #[.str "program" 310,.str "firsts" 311,.str "number" 312,.str "house" 313] 0,#[]⟩) ::
(nat_lit 106,⟨.type "tuple",none,.seq #[] 0,#[]⟩) ::
(nat_lit 108,⟨.type "code",none,.fields #[.str "first_blocks" 307,.str "first_blocks" 308,.str "/claim/cut.py" 309,.int 72 0,.int 1 0,.int 0 0,.int 0 0,.int 3 0,.ref 103,.bool true,.int 181 0,.ref 104,.none,.ref 105,.ref 106,.ref 107,.int 314 0,.int 72 0,.str "/claim/cut.py" 315],#[]⟩) ::
(nat_lit 109,⟨(.type "function"),none,(.func (W.fnOf "first_blocks" "first_blocks" (Z0h Z1l) (Z0f Z1l) (Z0b Z1l) .none .none .none (.str "elderhouse.tables" 293) none (.ref 108) .none)),#[]⟩) ::
(nat_lit 110,⟨.type "tuple",none,.seq #[] 0,#[]⟩) ::
(nat_lit 112,⟨.type "tuple",none,.seq #[.str "hall" 320,.str "firsts" 321,.str "house" 322,.str "word" 323,.str "where" 324] 0,#[]⟩) ::
(nat_lit 113,⟨.type "tuple",none,.seq #[] 0,#[]⟩) ::
(nat_lit 115,⟨.type "code",none,.fields #[.str "found_block" 317,.str "found_block" 318,.str "/claim/cut.py" 319,.int 79 0,.int 4 0,.int 0 0,.int 0 0,.int 3 0,.ref 110,.bool true,.int 181 0,.ref 111,.none,.ref 112,.ref 113,.ref 114,.int 325 0,.int 79 0,.str "/claim/cut.py" 326],#[]⟩) ::
(nat_lit 116,⟨(.type "function"),none,(.func (W.fnOf "found_block" "found_block" (Z0h Z1y) (Z0f Z1y) (Z0b Z1y) .none .none .none (.str "elderhouse.tables" 293) none (.ref 115) .none)),#[]⟩) ::
(nat_lit 124,⟨.type "tuple",none,.seq #[] 0,#[]⟩) ::
(nat_lit 127,⟨.type "code",none,.fields #[.str "__init__" 342,.str "Term.__init__" 343,.str "/claim/cut.py" 344,.int 87 0,.int 4 0,.int 0 0,.int 0 0,.int 3 0,.ref 124,.bool true,.int 181 0,.ref 125,.none,.none,.none,.ref 126,.int 345 0,.int 87 0,.str "/claim/cut.py" 346],#[]⟩) ::
(nat_lit 128,⟨(.type "function"),none,(.func (W.fnOf "__init__" "Term.__init__" (Z0h Z1c) (Z0f Z1c) (Z0b Z1c) .none .none .none (.str "elderhouse.terms" 328) none (.ref 127) .none)),#[]⟩) ::
(nat_lit 129,⟨.type "tuple",none,.seq #[] 0,#[]⟩) ::
(nat_lit 131,⟨.type "tuple",none,.seq #[.str "self" 351] 0,#[]⟩) ::
(nat_lit 132,⟨.type "tuple",none,.seq #[] 0,#[]⟩) ::
(nat_lit 134,⟨.type "code",none,.fields #[.str "plain" 348,.str "Term.plain" 349,.str "/claim/cut.py" 350,.int 95 0,.int 1 0,.int 0 0,.int 0 0,.int 3 0,.ref 129,.bool true,.int 181 0,.ref 130,.none,.ref 131,.ref 132,.ref 133,.int 352 0,.int 95 0,.str "/claim/cut.py" 353],#[]⟩) ::
(nat_lit 135,⟨(.type "function"),none,(.func (W.fnOf "plain" "Term.plain" (Z0h Z1R) (Z0f Z1R) (Z0b Z1R) .none .none .none (.str "elderhouse.terms" 328) none (.ref 134) .none)),#[]⟩) ::
(nat_lit 136,⟨.type "tuple",none,.seq #[] 0,#[]⟩) ::
(nat_lit 138,⟨.type "tuple",none,.seq #[.str "self" 358] 0,#[]⟩) ::
(nat_lit 139,⟨.type "tuple",none,.seq #[] 0,#[]⟩) ::
(nat_lit 141,⟨.type "code",none,.fields #[.str "parts" 355,.str "Term.parts" 356,.str "/claim/cut.py" 357,.int 98 0,.int 1 0,.int 0 0,.int 0 0,.int 3 0,.ref 136,.bool true,.int 181 0,.ref 137,.none,.ref 138,.ref 139,.ref 140,.int 359 0,.int 98 0,.str "/claim/cut.py" 360],#[]⟩) ::
(nat_lit 142,⟨(.type "function"),none,(.func (W.fnOf "parts" "Term.parts" (Z0h Z1P) (Z0f Z1P) (Z0b Z1P) .none .none .none (.str "elderhouse.terms" 328) none (.ref 141) .none)),#[]⟩) ::
(nat_lit 143,⟨.type "tuple",none,.seq #[] 0,#[]⟩) ::
(nat_lit 145,⟨.type "tuple",none,.seq #[.str "self" 365] 0,#[]⟩) ::
(nat_lit 146,⟨.type "tuple",none,.seq #[] 0,#[]⟩) ::
(nat_lit 148,⟨.type "code",none,.fields #[.str "depth" 362,.str "Term.depth" 363,.str "/claim/cut.py" 364,.int 101 0,.int 1 0,.int 0 0,.int 0 0,.int 3 0,.ref 143,.bool true,.int 181 0,.ref 144,.none,.ref 145,.ref 146,.ref 147,.int 366 0,.int 101 0,.str "/claim/cut.py" 367],#[]⟩) ::
(nat_lit 149,⟨(.type "function"),none,(.func (W.fnOf "depth" "Term.depth" (Z0h Z1L) (Z0f Z1L) (Z0b Z1L) .none .none .none (.str "elderhouse.terms" 328) none (.ref 148) .none)),#[]⟩) ::
(nat_lit 150,⟨.type "tuple",none,.seq #[] 0,#[]⟩) ::
(nat_lit 152,⟨.type "tuple",none,.seq #[.str "self" 372] 0,#[]⟩) ::
(nat_lit 153,⟨.type "tuple",none,.seq #[] 0,#[]⟩) ::
(nat_lit 155,⟨.type "code",none,.fields #[.str "size" 369,.str "Term.size" 370,.str "/claim/cut.py" 371,.int 104 0,.int 1 0,.int 0 0,.int 0 0,.int 3 0,.ref 150,.bool true,.int 181 0,.ref 151,.none,.ref 152,.ref 153,.ref 154,.int 373 0,.int 104 0,.str "/claim/cut.py" 374],#[]⟩) ::
(nat_lit 156,⟨(.type "function"),none,(.func (W.fnOf "size" "Term.size" (Z0h Z2h) (Z0f Z2h) (Z0b Z2h) .none .none .none (.str "elderhouse.terms" 328) none (.ref 155) .none)),#[]⟩) ::
(nat_lit 157,⟨.type "tuple",none,.seq #[.str "deep" 376,.str "form" 377,.str "inner" 378,.str "label" 379,.str "many" 380,.str "shape" 381] 0,#[]⟩) ::
(nat_lit 158,⟨(.type "dict"),none,(.dict #[⟨PyData.keyHash P "__module__",.str "__module__" 337,.str "elderhouse.terms" 328⟩,⟨PyData.keyHash P "__firstlineno__",.str "__firstlineno__" 341,.int 85 340⟩,⟨PyData.keyHash P "__init__",.str "__init__" 347,.ref 128⟩,⟨PyData.keyHash P "plain",.str "plain" 354,.ref 135⟩,⟨PyData.keyHash P "parts",.str "parts" 361,.ref 142⟩,⟨PyData.keyHash P "depth",.str "depth" 368,.ref 149⟩,⟨PyData.keyHash P "size",.str "size" 375,.ref 156⟩,⟨PyData.keyHash P "__static_attributes__",.str "__static_attributes__" 382,.ref 157⟩,⟨PyData.keyHash P "__dict__",.str "__dict__" 384,.ref 160⟩,⟨PyData.keyHash P "__weakref__",.str "__weakref__" 386,.ref 161⟩,⟨PyData.keyHash P "__doc__",.str "__doc__" 387,.none⟩] 4),#[]⟩) ::
(nat_lit 159,⟨(.type "type"),none,(.cls ⟨"Term",[(.type "object")],[.ref 159,(.type "object")],158,"Term",true,[],[],false,none,false⟩),#[none,none,(some (.str "Term" 330)),(some (.str "Term" 338)),(some (.builtin "object.__new__")),(some (.bool true))]⟩) ::
(nat_lit 160,⟨.type "getset_descriptor",none,.fields #[.str "__dict__" 383,.ref 159,.builtin "function.__dict__",.builtin "function.__dict__#set"],#[]⟩) ::
(nat_lit 161,⟨.type "getset_descriptor",none,.fields #[.str "__weakref__" 385,.ref 159,.builtin "ExceptionGroup.__weakref__",.none],#[]⟩) ::
(nat_lit 164,⟨.type "tuple",none,.seq #[] 0,#[]⟩) ::
(nat_lit 166,⟨.type "tuple",none,.seq #[.str "form" 393,.str "label" 394,.str "parts" 395] 0,#[]⟩) ::
(nat_lit 167,⟨.type "tuple",none,.seq #[] 0,#[]⟩) ::
(nat_lit 169,⟨.type "code",none,.fields #[.str "shape_of" 390,.str "shape_of" 391,.str "/claim/cut.py" 392,.int 106 0,.int 3 0,.int 0 0,.int 0 0,.int 3 0,.ref 164,.bool true,.int 181 0,.ref 165,.none,.ref 166,.ref 167,.ref 168,.int 396 0,.int 106 0,.str "/claim/cut.py" 397],#[]⟩) ::
(nat_lit 170,⟨(.type "function"),none,(.func (W.fnOf "shape_of" "shape_of" (Z0h Z2z) (Z0f Z2z) (Z0b Z2z) .none .none .none (.str "elderhouse.terms" 328) none (.ref 169) .none)),#[]⟩) ::
(nat_lit 178,⟨.type "tuple",none,.seq #[] 0,#[]⟩) ::
(nat_lit 180,⟨.type "tuple",none,.seq #[.str "self" 414,.str "name" 415,.str "params" 416,.str "kind" 417,.str "body" 418] 0,#[]⟩) ::
(nat_lit 181,⟨.type "tuple",none,.seq #[] 0,#[]⟩) ::
(nat_lit 183,⟨.type "code",none,.fields #[.str "__init__" 411,.str "Word.__init__" 412,.str "/claim/cut.py" 413,.int 118 0,.int 5 0,.int 0 0,.int 0 0,.int 3 0,.ref 178,.bool true,.int 181 0,.ref 179,.none,.ref 180,.ref 181,.ref 182,.int 419 0,.int 118 0,.str "/claim/cut.py" 420],#[]⟩) ::
(nat_lit 184,⟨(.type "function"),none,(.func (W.fnOf "__init__" "Word.__init__" (Z0h Z1e) (Z0f Z1e) (Z0b Z1e) .none .none .none (.str "elderhouse.terms" 328) none (.ref 183) .none)),#[]⟩) ::
(nat_lit 185,⟨.type "tuple",none,.seq #[] 0,#[]⟩) ::
(nat_lit 187,⟨.type "tuple",none,.seq #[.str "self" 425] 0,#[]⟩) ::
(nat_lit 188,⟨.type "tuple",none,.seq #[] 0,#[]⟩) ::
(nat_lit 190,⟨.type "code",none,.fields #[.str "plain" 422,.str "Word.plain" 423,.str "/claim/cut.py" 424,.int 124 0,.int 1 0,.int 0 0,.int 0 0,.int 3 0,.ref 185,.bool true,.int 181 0,.ref 186,.none,.ref 187,.ref 188,.ref 189,.int 426 0,.int 124 0,.str "/claim/cut.py" 427],#[]⟩) ::
(nat_lit 191,⟨(.type "function"),none,(.func (W.fnOf "plain" "Word.plain" (Z0h Z2M) (Z0f Z2M) (Z0b Z2M) .none .none .none (.str "elderhouse.terms" 328) none (.ref 190) .none)),#[]⟩) ::
(nat_lit 192,⟨.type "tuple",none,.seq #[.str "body" 429,.str "kind" 430,.str "name" 431,.str "params" 432] 0,#[]⟩) ::
(nat_lit 193,⟨(.type "dict"),none,(.dict #[⟨PyData.keyHash P "__module__",.str "__module__" 406,.str "elderhouse.terms" 328⟩,⟨PyData.keyHash P "__firstlineno__",.str "__firstlineno__" 410,.int 116 409⟩,⟨PyData.keyHash P "__init__",.str "__init__" 421,.ref 184⟩,⟨PyData.keyHash P "plain",.str "plain" 428,.ref 191⟩,⟨PyData.keyHash P "__static_attributes__",.str "__static_attributes__" 433,.ref 192⟩,⟨PyData.keyHash P "__dict__",.str "__dict__" 435,.ref 195⟩,⟨PyData.keyHash P "__weakref__",.str "__weakref__" 437,.ref 196⟩,⟨PyData.keyHash P "__doc__",.str "__doc__" 438,.none⟩] 4),#[]⟩) ::
(nat_lit 194,⟨(.type "type"),none,(.cls ⟨"Word",[(.type "object")],[.ref 194,(.type "object")],193,"Word",true,[],[],false,none,false⟩),#[none,none,(some (.str "Word" 399)),(some (.str "Word" 407)),(some (.builtin "object.__new__")),(some (.bool true))]⟩) ::
(nat_lit 195,⟨.type "getset_descriptor",none,.fields #[.str "__dict__" 434,.ref 194,.builtin "function.__dict__",.builtin "function.__dict__#set"],#[]⟩) ::
(nat_lit 196,⟨.type "getset_descriptor",none,.fields #[.str "__weakref__" 436,.ref 194,.builtin "ExceptionGroup.__weakref__",.none],#[]⟩) ::
(nat_lit 206,⟨.type "tuple",none,.seq #[] 0,#[]⟩) ::
(nat_lit 208,⟨.type "tuple",none,.seq #[.str "self" 456,.str "name" 457,.str "elder" 458,.str "own_fields" 459,.str "own_words" 460] 0,#[]⟩) ::
(nat_lit 209,⟨.type "tuple",none,.seq #[] 0,#[]⟩) ::
(nat_lit 211,⟨.type "code",none,.fields #[.str "__init__" 453,.str "House.__init__" 454,.str "/claim/cut.py" 455,.int 128 0,.int 5 0,.int 0 0,.int 0 0,.int 3 0,.ref 206,.bool true,.int 181 0,.ref 207,.none,.ref 208,.ref 209,.ref 210,.int 461 0,.int 128 0,.str "/claim/cut.py" 462],#[]⟩) ::
(nat_lit 212,⟨(.type "function"),none,(.func (W.fnOf "__init__" "House.__init__" (Z0h Z0Q) (Z0f Z0Q) (Z0b Z0Q) .none .none .none (.str "elderhouse.terms" 328) none (.ref 211) .none)),#[]⟩) ::
(nat_lit 213,⟨.type "tuple",none,.seq #[] 0,#[]⟩) ::
(nat_lit 216,⟨.type "code",none,.fields #[.str "plain" 464,.str "House.plain" 465,.str "/claim/cut.py" 466,.int 134 0,.int 1 0,.int 0 0,.int 0 0,.int 3 0,.ref 213,.bool true,.int 181 0,.ref 214,.none,.none,.none,.ref 215,.int 467 0,.int 134 0,.str "/claim/cut.py" 468],#[]⟩) ::
(nat_lit 217,⟨(.type "function"),none,(.func (W.fnOf "plain" "House.plain" (Z0h Z2m) (Z0f Z2m) (Z0b Z2m) .none .none .none (.str "elderhouse.terms" 328) none (.ref 216) .none)),#[]⟩) ::
(nat_lit 218,⟨.type "tuple",none,.seq #[.str "elder" 470,.str "name" 471,.str "own_fields" 472,.str "own_words" 473] 0,#[]⟩) ::
(nat_lit 219,⟨(.type "dict"),none,(.dict #[⟨PyData.keyHash P "__module__",.str "__module__" 448,.str "elderhouse.terms" 328⟩,⟨PyData.keyHash P "__firstlineno__",.str "__firstlineno__" 452,.int 126 451⟩,⟨PyData.keyHash P "__init__",.str "__init__" 463,.ref 212⟩,⟨PyData.keyHash P "plain",.str "plain" 469,.ref 217⟩,⟨PyData.keyHash P "__static_attributes__",.str "__static_attributes__" 474,.ref 218⟩,⟨PyData.keyHash P "__dict__",.str "__dict__" 476,.ref 221⟩,⟨PyData.keyHash P "__weakref__",.str "__weakref__" 478,.ref 222⟩,⟨PyData.keyHash P "__doc__",.str "__doc__" 479,.none⟩] 4),#[]⟩) ::
(nat_lit 220,⟨(.type "type"),none,(.cls ⟨"House",[(.type "object")],[.ref 220,(.type "object")],219,"House",true,[],[],false,none,false⟩),#[none,none,(some (.str "House" 441)),(some (.str "House" 449)),(some (.builtin "object.__new__")),(some (.bool true))]⟩) ::
(nat_lit 221,⟨.type "getset_descriptor",none,.fields #[.str "__dict__" 475,.ref 220,.builtin "function.__dict__",.builtin "function.__dict__#set"],#[]⟩) ::
(nat_lit 222,⟨.type "getset_descriptor",none,.fields #[.str "__weakref__" 477,.ref 220,.builtin "ExceptionGroup.__weakref__",.none],#[]⟩) ::
(nat_lit 232,⟨.type "tuple",none,.seq #[] 0,#[]⟩) ::
(nat_lit 234,⟨.type "tuple",none,.seq #[.str "self" 497,.str "all_houses" 498,.str "main" 499] 0,#[]⟩) ::
(nat_lit 235,⟨.type "tuple",none,.seq #[] 0,#[]⟩) ::
(nat_lit 237,⟨.type "code",none,.fields #[.str "__init__" 494,.str "Program.__init__" 495,.str "/claim/cut.py" 496,.int 139 0,.int 3 0,.int 0 0,.int 0 0,.int 3 0,.ref 232,.bool true,.int 181 0,.ref 233,.none,.ref 234,.ref 235,.ref 236,.int 500 0,.int 139 0,.str "/claim/cut.py" 501],#[]⟩) ::
(nat_lit 238,⟨(.type "function"),none,(.func (W.fnOf "__init__" "Program.__init__" (Z0h Z0F) (Z0f Z0F) (Z0b Z0F) .none .none .none (.str "elderhouse.terms" 328) none (.ref 237) .none)),#[]⟩) ::
(nat_lit 239,⟨.type "tuple",none,.seq #[] 0,#[]⟩) ::
(nat_lit 242,⟨.type "code",none,.fields #[.str "plain" 503,.str "Program.plain" 504,.str "/claim/cut.py" 505,.int 143 0,.int 1 0,.int 0 0,.int 0 0,.int 3 0,.ref 239,.bool true,.int 181 0,.ref 240,.none,.none,.none,.ref 241,.int 506 0,.int 143 0,.str "/claim/cut.py" 507],#[]⟩) ::
(nat_lit 243,⟨(.type "function"),none,(.func (W.fnOf "plain" "Program.plain" (Z0h Z1Y) (Z0f Z1Y) (Z0b Z1Y) .none .none .none (.str "elderhouse.terms" 328) none (.ref 242) .none)),#[]⟩) ::
(nat_lit 244,⟨.type "tuple",none,.seq #[] 0,#[]⟩) ::
(nat_lit 246,⟨.type "tuple",none,.seq #[.str "self" 512] 0,#[]⟩) ::
(nat_lit 247,⟨.type "tuple",none,.seq #[] 0,#[]⟩) ::
(nat_lit 249,⟨.type "code",none,.fields #[.str "bodies" 509,.str "Program.bodies" 510,.str "/claim/cut.py" 511,.int 147 0,.int 1 0,.int 0 0,.int 0 0,.int 3 0,.ref 244,.bool true,.int 181 0,.ref 245,.none,.ref 246,.ref 247,.ref 248,.int 513 0,.int 147 0,.str "/claim/cut.py" 514],#[]⟩) ::
(nat_lit 250,⟨(.type "function"),none,(.func (W.fnOf "bodies" "Program.bodies" (Z0h Z1D) (Z0f Z1D) (Z0b Z1D) .none .none .none (.str "elderhouse.terms" 328) none (.ref 249) .none)),#[]⟩) ::
(nat_lit 251,⟨.type "tuple",none,.seq #[.str "all_houses" 516,.str "main" 517] 0,#[]⟩) ::
(nat_lit 252,⟨(.type "dict"),none,(.dict #[⟨PyData.keyHash P "__module__",.str "__module__" 489,.str "elderhouse.terms" 328⟩,⟨PyData.keyHash P "__firstlineno__",.str "__firstlineno__" 493,.int 137 492⟩,⟨PyData.keyHash P "__init__",.str "__init__" 502,.ref 238⟩,⟨PyData.keyHash P "plain",.str "plain" 508,.ref 243⟩,⟨PyData.keyHash P "bodies",.str "bodies" 515,.ref 250⟩,⟨PyData.keyHash P "__static_attributes__",.str "__static_attributes__" 518,.ref 251⟩,⟨PyData.keyHash P "__dict__",.str "__dict__" 520,.ref 254⟩,⟨PyData.keyHash P "__weakref__",.str "__weakref__" 522,.ref 255⟩,⟨PyData.keyHash P "__doc__",.str "__doc__" 523,.none⟩] 4),#[]⟩) ::
(nat_lit 253,⟨(.type "type"),none,(.cls ⟨"Program",[(.type "object")],[.ref 253,(.type "object")],252,"Program",true,[],[],false,none,false⟩),#[none,none,(some (.str "Program" 482)),(some (.str "Program" 490)),(some (.builtin "object.__new__")),(some (.bool true))]⟩) ::
(nat_lit 254,⟨.type "getset_descriptor",none,.fields #[.str "__dict__" 519,.ref 253,.builtin "function.__dict__",.builtin "function.__dict__#set"],#[]⟩) ::
(nat_lit 255,⟨.type "getset_descriptor",none,.fields #[.str "__weakref__" 521,.ref 253,.builtin "ExceptionGroup.__weakref__",.none],#[]⟩) ::
(nat_lit 258,⟨.type "tuple",none,.seq #[] 0,#[]⟩) ::
(nat_lit 261,⟨.type "code",none,.fields #[.str "pairs_of" 526,.str "pairs_of" 527,.str "/claim/cut.py" 528,.int 149 0,.int 1 0,.int 0 0,.int 0 0,.int 3 0,.ref 258,.bool true,.int 181 0,.ref 259,.none,.none,.none,.ref 260,.int 529 0,.int 149 0,.str "/claim/cut.py" 530],#[]⟩) ::
(nat_lit 262,⟨(.type "function"),none,(.func (W.fnOf "pairs_of" "pairs_of" (Z0h Z2B) (Z0f Z2B) (Z0b Z2B) .none .none .none (.str "elderhouse.terms" 328) none (.ref 261) .none)),#[]⟩) ::
(nat_lit 263,⟨.type "tuple",none,.seq #[] 0,#[]⟩) ::
(nat_lit 266,⟨.type "code",none,.fields #[.str "program_of" 534,.str "program_of" 535,.str "/claim/cut.py" 536,.int 152 0,.int 1 0,.int 0 0,.int 0 0,.int 3 0,.ref 263,.bool true,.int 181 0,.ref 264,.none,.none,.none,.ref 265,.int 537 0,.int 152 0,.str "/claim/cut.py" 538],#[]⟩) ::
(nat_lit 267,⟨(.type "function"),none,(.func (W.fnOf "program_of" "program_of" (Z0h Z1S) (Z0f Z1S) (Z0b Z1S) .none .none .none (.str "elderhouse.building" 532) none (.ref 266) .none)),#[]⟩) ::
(nat_lit 268,⟨.type "tuple",none,.seq #[] 0,#[]⟩) ::
(nat_lit 271,⟨.type "code",none,.fields #[.str "house_of" 540,.str "house_of" 541,.str "/claim/cut.py" 542,.int 156 0,.int 1 0,.int 0 0,.int 0 0,.int 3 0,.ref 268,.bool true,.int 181 0,.ref 269,.none,.none,.none,.ref 270,.int 543 0,.int 156 0,.str "/claim/cut.py" 544],#[]⟩) ::
(nat_lit 272,⟨(.type "function"),none,(.func (W.fnOf "house_of" "house_of" (Z0h Z2u) (Z0f Z2u) (Z0b Z2u) .none .none .none (.str "elderhouse.building" 532) none (.ref 271) .none)),#[]⟩) ::
(nat_lit 273,⟨.type "tuple",none,.seq #[] 0,#[]⟩) ::
(nat_lit 275,⟨.type "tuple",none,.seq #[.str "plain" 549,.str "name" 550,.str "params" 551,.str "kind" 552,.str "body" 553] 0,#[]⟩) ::
(nat_lit 276,⟨.type "tuple",none,.seq #[] 0,#[]⟩) ::
(nat_lit 278,⟨.type "code",none,.fields #[.str "word_of" 546,.str "word_of" 547,.str "/claim/cut.py" 548,.int 159 0,.int 1 0,.int 0 0,.int 0 0,.int 3 0,.ref 273,.bool true,.int 181 0,.ref 274,.none,.ref 275,.ref 276,.ref 277,.int 554 0,.int 159 0,.str "/claim/cut.py" 555],#[]⟩) ::
(nat_lit 279,⟨(.type "function"),none,(.func (W.fnOf "word_of" "word_of" (Z0h Z2Y) (Z0f Z2Y) (Z0b Z2Y) .none .none .none (.str "elderhouse.building" 532) none (.ref 278) .none)),#[]⟩) ::
(nat_lit 280,⟨.type "tuple",none,.seq #[] 0,#[]⟩) ::
(nat_lit 283,⟨.type "code",none,.fields #[.str "term_of" 557,.str "term_of" 558,.str "/claim/cut.py" 559,.int 162 0,.int 1 0,.int 0 0,.int 0 0,.int 3 0,.ref 280,.bool true,.int 181 0,.ref 281,.none,.none,.none,.ref 282,.int 560 0,.int 162 0,.str "/claim/cut.py" 561],#[]⟩) ::
(nat_lit 284,⟨(.type "function"),none,(.func (W.fnOf "term_of" "term_of" (Z0h Z2V) (Z0f Z2V) (Z0b Z2V) .none .none .none (.str "elderhouse.building" 532) none (.ref 283) .none)),#[]⟩) ::
(nat_lit 285,⟨.type "tuple",none,.seq #[] 0,#[]⟩) ::
(nat_lit 287,⟨.type "tuple",none,.seq #[.str "plain" 566,.str "found" 567,.str "waiting" 568,.str "one" 569] 0,#[]⟩) ::
(nat_lit 288,⟨.type "tuple",none,.seq #[] 0,#[]⟩) ::
(nat_lit 290,⟨.type "code",none,.fields #[.str "all_within" 563,.str "all_within" 564,.str "/claim/cut.py" 565,.int 168 0,.int 1 0,.int 0 0,.int 0 0,.int 3 0,.ref 285,.bool true,.int 181 0,.ref 286,.none,.ref 287,.ref 288,.ref 289,.int 570 0,.int 168 0,.str "/claim/cut.py" 571],#[]⟩) ::
(nat_lit 291,⟨(.type "function"),none,(.func (W.fnOf "all_within" "all_within" (Z0h Z1V) (Z0f Z1V) (Z0b Z1V) .none .none .none (.str "elderhouse.building" 532) none (.ref 290) .none)),#[]⟩) ::
(nat_lit 292,⟨.type "tuple",none,.seq #[] 0,#[]⟩) ::
(nat_lit 294,⟨.type "tuple",none,.seq #[.str "plain" 576,.str "form" 577] 0,#[]⟩) ::
(nat_lit 295,⟨.type "tuple",none,.seq #[] 0,#[]⟩) ::
(nat_lit 297,⟨.type "code",none,.fields #[.str "parts_of" 573,.str "parts_of" 574,.str "/claim/cut.py" 575,.int 176 0,.int 1 0,.int 0 0,.int 0 0,.int 3 0,.ref 292,.bool true,.int 181 0,.ref 293,.none,.ref 294,.ref 295,.ref 296,.int 578 0,.int 176 0,.str "/claim/cut.py" 579],#[]⟩) ::
(nat_lit 298,⟨(.type "function"),none,(.func (W.fnOf "parts_of" "parts_of" (Z0h Z2x) (Z0f Z2x) (Z0b Z2x) .none .none .none (.str "elderhouse.building" 532) none (.ref 297) .none)),#[]⟩) ::
(nat_lit 299,⟨.type "tuple",none,.seq #[] 0,#[]⟩) ::
(nat_lit 301,⟨.type "tuple",none,.seq #[.str "plain" 584,.str "form" 585] 0,#[]⟩) ::
(nat_lit 302,⟨.type "tuple",none,.seq #[] 0,#[]⟩) ::
(nat_lit 304,⟨.type "code",none,.fields #[.str "label_of" 581,.str "label_of" 582,.str "/claim/cut.py" 583,.int 189 0,.int 1 0,.int 0 0,.int 0 0,.int 3 0,.ref 299,.bool true,.int 181 0,.ref 300,.none,.ref 301,.ref 302,.ref 303,.int 586 0,.int 189 0,.str "/claim/cut.py" 587],#[]⟩) ::
(nat_lit 305,⟨(.type "function"),none,(.func (W.fnOf "label_of" "label_of" (Z0h Z2y) (Z0f Z2y) (Z0b Z2y) .none .none .none (.str "elderhouse.building" 532) none (.ref 304) .none)),#[]⟩) ::
(nat_lit 306,⟨.type "tuple",none,.seq #[(.type "ValueError")] 0,#[]⟩) ::
(nat_lit 313,⟨.type "tuple",none,.seq #[] 0,#[]⟩) ::
(nat_lit 314,⟨(.type "dict"),none,(.dict #[⟨PyData.keyHash P "__module__",.str "__module__" 598,.str "elderhouse.errors" 589⟩,⟨PyData.keyHash P "__firstlineno__",.str "__firstlineno__" 602,.int 197 601⟩,⟨PyData.keyHash P "__static_attributes__",.str "__static_attributes__" 603,.ref 313⟩,⟨PyData.keyHash P "__weakref__",.str "__weakref__" 605,.ref 316⟩,⟨PyData.keyHash P "__doc__",.str "__doc__" 606,.none⟩] 3),#[]⟩) ::
(nat_lit 315,⟨(.type "type"),none,(.cls ⟨"HouseError",[(.type "ValueError")],[.ref 315,(.type "ValueError"),(.type "Exception"),(.type "BaseException"),(.type "object")],314,"HouseError",true,[],[.ref 335],false,none,false⟩),#[(some (.ref 306)),none,(some (.str "HouseError" 591)),(some (.str "HouseError" 599)),(some (.builtin "ValueError.__new__")),(some (.bool true))]⟩) ::
(nat_lit 316,⟨.type "getset_descriptor",none,.fields #[.str "__weakref__" 604,.ref 315,.builtin "ExceptionGroup.__weakref__",.none],#[]⟩) ::
(nat_lit 319,⟨.type "tuple",none,.seq #[.ref 315] 0,#[]⟩) ::
(nat_lit 326,⟨.type "tuple",none,.seq #[] 0,#[]⟩) ::
(nat_lit 328,⟨.type "tuple",none,.seq #[.str "self" 624,.str "word" 625] 0,#[]⟩) ::
(nat_lit 329,⟨.type "tuple",none,.seq #[] 0,#[]⟩) ::
(nat_lit 331,⟨.type "code",none,.fields #[.str "__init__" 621,.str "BadKind.__init__" 622,.str "/claim/cut.py" 623,.int 201 0,.int 2 0,.int 0 0,.int 0 0,.int 3 0,.ref 326,.bool true,.int 181 0,.ref 327,.none,.ref 328,.ref 329,.ref 330,.int 626 0,.int 201 0,.str "/claim/cut.py" 627],#[]⟩) ::
(nat_lit 332,⟨(.type "function"),none,(.func (W.fnOf "__init__" "BadKind.__init__" (Z0h Z1o) (Z0f Z1o) (Z0b Z1o) .none .none .none (.str "elderhouse.errors" 589) none (.ref 331) .none)),#[]⟩) ::
(nat_lit 333,⟨.type "tuple",none,.seq #[.str "word" 629] 0,#[]⟩) ::
(nat_lit 334,⟨(.type "dict"),none,(.dict #[⟨PyData.keyHash P "__module__",.str "__module__" 616,.str "elderhouse.errors" 589⟩,⟨PyData.keyHash P "__firstlineno__",.str "__firstlineno__" 620,.int 199 619⟩,⟨PyData.keyHash P "__init__",.str "__init__" 628,.ref 332⟩,⟨PyData.keyHash P "__static_attributes__",.str "__static_attributes__" 630,.ref 333⟩,⟨PyData.keyHash P "__doc__",.str "__doc__" 631,.none⟩] 2),#[]⟩) ::
(nat_lit 335,⟨(.type "type"),none,(.cls ⟨"BadKind",[.ref 315],[.ref 335,.ref 315,(.type "ValueError"),(.type "Exception"),(.type "BaseException"),(.type "object")],334,"BadKind",true,[],[],false,none,false⟩),#[(some (.ref 319)),none,(some (.str "BadKind" 609)),(some (.str "BadKind" 617)),(some (.builtin "ValueError.__new__")),(some (.bool true))]⟩) ::
(nat_lit 338,⟨.type "tuple",none,.seq #[.str "number" 636,.str "truth" 637] 0,#[]⟩) ::
(nat_lit 339,⟨.type "tuple",none,.seq #[] 0,#[]⟩) ::
(nat_lit 341,⟨.type "tuple",none,.seq #[.str "kind" 642] 0,#[]⟩) ::
(nat_lit 342,⟨.type "tuple",none,.seq #[] 0,#[]⟩) ::
(nat_lit 344,⟨.type "code",none,.fields #[.str "is_house" 639,.str "is_house" 640,.str "/claim/cut.py" 641,.int 206 0,.int 1 0,.int 0 0,.int 0 0,.int 3 0,.ref 339,.bool true,.int 181 0,.ref 340,.none,.ref 341,.ref 342,.ref 343,.int 643 0,.int 206 0,.str "/claim/cut.py" 644],#[]⟩) ::
(nat_lit 345,⟨(.type "function"),none,(.func (W.fnOf "is_house" "is_house" (Z0h Z3v) (Z0f Z3v) (Z0b Z3v) .none .none .none (.str "elderhouse.kinds" 634) none (.ref 344) .none)),#[]⟩) ::
(nat_lit 346,⟨.type "tuple",none,.seq #[] 0,#[]⟩) ::
(nat_lit 348,⟨.type "tuple",none,.seq #[.str "hall" 649,.str "one" 650,.str "other" 651] 0,#[]⟩) ::
(nat_lit 349,⟨.type "tuple",none,.seq #[] 0,#[]⟩) ::
(nat_lit 351,⟨.type "code",none,.fields #[.str "fits" 646,.str "fits" 647,.str "/claim/cut.py" 648,.int 208 0,.int 3 0,.int 0 0,.int 0 0,.int 3 0,.ref 346,.bool true,.int 181 0,.ref 347,.none,.ref 348,.ref 349,.ref 350,.int 652 0,.int 208 0,.str "/claim/cut.py" 653],#[]⟩) ::
(nat_lit 352,⟨(.type "function"),none,(.func (W.fnOf "fits" "fits" (Z0h Z5r) (Z0f Z5r) (Z0b Z5r) .none .none .none (.str "elderhouse.kinds" 634) none (.ref 351) .none)),#[]⟩) ::
(nat_lit 353,⟨.type "tuple",none,.seq #[] 0,#[]⟩) ::
(nat_lit 355,⟨.type "tuple",none,.seq #[.str "hall" 658,.str "one" 659,.str "other" 660,.str "common" 661] 0,#[]⟩) ::
(nat_lit 356,⟨.type "tuple",none,.seq #[] 0,#[]⟩) ::
(nat_lit 358,⟨.type "code",none,.fields #[.str "nearest" 655,.str "nearest" 656,.str "/claim/cut.py" 657,.int 212 0,.int 3 0,.int 0 0,.int 0 0,.int 3 0,.ref 353,.bool true,.int 181 0,.ref 354,.none,.ref 355,.ref 356,.ref 357,.int 662 0,.int 212 0,.str "/claim/cut.py" 663],#[]⟩) ::
(nat_lit 359,⟨(.type "function"),none,(.func (W.fnOf "nearest" "nearest" (Z0h Z3X) (Z0f Z3X) (Z0b Z3X) .none .none .none (.str "elderhouse.kinds" 634) none (.ref 358) .none)),#[]⟩) ::
(nat_lit 360,⟨.type "tuple",none,.seq #[] 0,#[]⟩) ::
(nat_lit 362,⟨.type "tuple",none,.seq #[.str "program" 670,.str "hall" 671,.str "told" 672,.str "house" 673,.str "word" 674] 0,#[]⟩) ::
(nat_lit 363,⟨.type "tuple",none,.seq #[] 0,#[]⟩) ::
(nat_lit 365,⟨.type "code",none,.fields #[.str "kinds_of" 667,.str "kinds_of" 668,.str "/claim/cut.py" 669,.int 222 0,.int 1 0,.int 0 0,.int 0 0,.int 3 0,.ref 360,.bool true,.int 181 0,.ref 361,.none,.ref 362,.ref 363,.ref 364,.int 675 0,.int 222 0,.str "/claim/cut.py" 676],#[]⟩) ::
(nat_lit 366,⟨(.type "function"),none,(.func (W.fnOf "kinds_of" "kinds_of" (Z0h Z2v) (Z0f Z2v) (Z0b Z2v) .none .none .none (.str "elderhouse.checking" 665) none (.ref 365) .none)),#[]⟩) ::
(nat_lit 367,⟨.type "tuple",none,.seq #[] 0,#[]⟩) ::
(nat_lit 369,⟨.type "tuple",none,.seq #[.str "hall" 681,.str "house" 682,.str "word" 683,.str "head" 684,.str "params" 685,.str "kind" 686] 0,#[]⟩) ::
(nat_lit 370,⟨.type "tuple",none,.seq #[] 0,#[]⟩) ::
(nat_lit 372,⟨.type "code",none,.fields #[.str "need_like_elders" 678,.str "need_like_elders" 679,.str "/claim/cut.py" 680,.int 231 0,.int 3 0,.int 0 0,.int 0 0,.int 3 0,.ref 367,.bool true,.int 181 0,.ref 368,.none,.ref 369,.ref 370,.ref 371,.int 687 0,.int 231 0,.str "/claim/cut.py" 688],#[]⟩) ::
(nat_lit 373,⟨(.type "function"),none,(.func (W.fnOf "need_like_elders" "need_like_elders" (Z0h Z1n) (Z0f Z1n) (Z0b Z1n) .none .none .none (.str "elderhouse.checking" 665) none (.ref 372) .none)),#[]⟩) ::
(nat_lit 374,⟨.type "tuple",none,.seq #[] 0,#[]⟩) ::
(nat_lit 377,⟨.type "code",none,.fields #[.str "kinds_in" 690,.str "kinds_in" 691,.str "/claim/cut.py" 692,.int 240 0,.int 1 0,.int 0 0,.int 0 0,.int 3 0,.ref 374,.bool true,.int 181 0,.ref 375,.none,.none,.none,.ref 376,.int 693 0,.int 240 0,.str "/claim/cut.py" 694],#[]⟩) ::
(nat_lit 378,⟨(.type "function"),none,(.func (W.fnOf "kinds_in" "kinds_in" (Z0h Z3w) (Z0f Z3w) (Z0b Z3w) .none .none .none (.str "elderhouse.checking" 665) none (.ref 377) .none)),#[]⟩) ::
(nat_lit 379,⟨.type "tuple",none,.seq #[] 0,#[]⟩) ::
(nat_lit 381,⟨.type "tuple",none,.seq #[.str "hall" 699,.str "house" 700,.str "word" 701,.str "told" 702] 0,#[]⟩) ::
(nat_lit 382,⟨.type "tuple",none,.seq #[] 0,#[]⟩) ::
(nat_lit 384,⟨.type "code",none,.fields #[.str "body_kinds" 696,.str "body_kinds" 697,.str "/claim/cut.py" 698,.int 242 0,.int 3 0,.int 0 0,.int 0 0,.int 3 0,.ref 379,.bool true,.int 181 0,.ref 380,.none,.ref 381,.ref 382,.ref 383,.int 703 0,.int 242 0,.str "/claim/cut.py" 704],#[]⟩) ::
(nat_lit 385,⟨(.type "function"),none,(.func (W.fnOf "body_kinds" "body_kinds" (Z0h Z1Q) (Z0f Z1Q) (Z0b Z1Q) .none .none .none (.str "elderhouse.checking" 665) none (.ref 384) .none)),#[]⟩) ::
(nat_lit 386,⟨.type "tuple",none,.seq #[] 0,#[]⟩) ::
(nat_lit 388,⟨.type "tuple",none,.seq #[.str "hall" 709,.str "house" 710,.str "term" 711,.str "bound" 712,.str "firsts" 713,.str "told" 714,.str "part" 715,.str "inner" 716] 0,#[]⟩) ::
(nat_lit 389,⟨.type "tuple",none,.seq #[] 0,#[]⟩) ::
(nat_lit 391,⟨.type "code",none,.fields #[.str "term_kinds" 706,.str "term_kinds" 707,.str "/claim/cut.py" 708,.int 247 0,.int 4 0,.int 0 0,.int 0 0,.int 3 0,.ref 386,.bool true,.int 181 0,.ref 387,.none,.ref 388,.ref 389,.ref 390,.int 717 0,.int 247 0,.str "/claim/cut.py" 718],#[]⟩) ::
(nat_lit 392,⟨(.type "function"),none,(.func (W.fnOf "term_kinds" "term_kinds" (Z0h Z1N) (Z0f Z1N) (Z0b Z1N) .none .none .none (.str "elderhouse.checking" 665) none (.ref 391) .none)),#[]⟩) ::
(nat_lit 393,⟨.type "tuple",none,.seq #[] 0,#[]⟩) ::
(nat_lit 395,⟨.type "tuple",none,.seq #[.str "term" 723,.str "firsts" 724,.str "bound" 725,.str "more" 726] 0,#[]⟩) ::
(nat_lit 396,⟨.type "tuple",none,.seq #[] 0,#[]⟩) ::
(nat_lit 398,⟨.type "code",none,.fields #[.str "bound_ahead" 720,.str "bound_ahead" 721,.str "/claim/cut.py" 722,.int 255 0,.int 3 0,.int 0 0,.int 0 0,.int 3 0,.ref 393,.bool true,.int 181 0,.ref 394,.none,.ref 395,.ref 396,.ref 397,.int 727 0,.int 255 0,.str "/claim/cut.py" 728],#[]⟩) ::
(nat_lit 399,⟨(.type "function"),none,(.func (W.fnOf "bound_ahead" "bound_ahead" (Z0h Z2t) (Z0f Z2t) (Z0b Z2t) .none .none .none (.str "elderhouse.checking" 665) none (.ref 398) .none)),#[]⟩) ::
(nat_lit 400,⟨.type "tuple",none,.seq #[] 0,#[]⟩) ::
(nat_lit 402,⟨.type "tuple",none,.seq #[.str "hall" 733,.str "house" 734,.str "term" 735,.str "bound" 736,.str "parts" 737] 0,#[]⟩) ::
(nat_lit 403,⟨.type "tuple",none,.seq #[] 0,#[]⟩) ::
(nat_lit 405,⟨.type "code",none,.fields #[.str "own_kind" 730,.str "own_kind" 731,.str "/claim/cut.py" 732,.int 261 0,.int 5 0,.int 0 0,.int 0 0,.int 3 0,.ref 400,.bool true,.int 181 0,.ref 401,.none,.ref 402,.ref 403,.ref 404,.int 738 0,.int 261 0,.str "/claim/cut.py" 739],#[]⟩) ::
(nat_lit 406,⟨(.type "function"),none,(.func (W.fnOf "own_kind" "own_kind" (Z0h Z2w) (Z0f Z2w) (Z0b Z2w) .none .none .none (.str "elderhouse.checking" 665) none (.ref 405) .none)),#[]⟩) ::
(nat_lit 407,⟨.type "tuple",none,.seq #[] 0,#[]⟩) ::
(nat_lit 409,⟨.type "tuple",none,.seq #[.str "word" 744,.str "holds" 745] 0,#[]⟩) ::
(nat_lit 410,⟨.type "tuple",none,.seq #[] 0,#[]⟩) ::
(nat_lit 412,⟨.type "code",none,.fields #[.str "need" 741,.str "need" 742,.str "/claim/cut.py" 743,.int 288 0,.int 2 0,.int 0 0,.int 0 0,.int 3 0,.ref 407,.bool true,.int 181 0,.ref 408,.none,.ref 409,.ref 410,.ref 411,.int 746 0,.int 288 0,.str "/claim/cut.py" 747],#[]⟩) ::
(nat_lit 413,⟨(.type "function"),none,(.func (W.fnOf "need" "need" (Z0h Z7Y) (Z0f Z7Y) (Z0b Z7Y) .none .none .none (.str "elderhouse.checking" 665) none (.ref 412) .none)),#[]⟩) ::
(nat_lit 414,⟨.type "tuple",none,.seq #[] 0,#[]⟩) ::
(nat_lit 416,⟨.type "tuple",none,.seq #[.str "sign" 752,.str "one" 753,.str "other" 754] 0,#[]⟩) ::
(nat_lit 417,⟨.type "tuple",none,.seq #[] 0,#[]⟩) ::
(nat_lit 419,⟨.type "code",none,.fields #[.str "two_kind" 749,.str "two_kind" 750,.str "/claim/cut.py" 751,.int 291 0,.int 3 0,.int 0 0,.int 0 0,.int 3 0,.ref 414,.bool true,.int 181 0,.ref 415,.none,.ref 416,.ref 417,.ref 418,.int 755 0,.int 291 0,.str "/claim/cut.py" 756],#[]⟩) ::
(nat_lit 420,⟨(.type "function"),none,(.func (W.fnOf "two_kind" "two_kind" (Z0h Z3H) (Z0f Z3H) (Z0b Z3H) .none .none .none (.str "elderhouse.checking" 665) none (.ref 419) .none)),#[]⟩) ::
(nat_lit 421,⟨.type "tuple",none,.seq #[] 0,#[]⟩) ::
(nat_lit 423,⟨.type "tuple",none,.seq #[.str "hall" 761,.str "parts" 762,.str "common" 763] 0,#[]⟩) ::
(nat_lit 424,⟨.type "tuple",none,.seq #[] 0,#[]⟩) ::
(nat_lit 426,⟨.type "code",none,.fields #[.str "if_kind" 758,.str "if_kind" 759,.str "/claim/cut.py" 760,.int 301 0,.int 2 0,.int 0 0,.int 0 0,.int 3 0,.ref 421,.bool true,.int 181 0,.ref 422,.none,.ref 423,.ref 424,.ref 425,.int 764 0,.int 301 0,.str "/claim/cut.py" 765],#[]⟩) ::
(nat_lit 427,⟨(.type "function"),none,(.func (W.fnOf "if_kind" "if_kind" (Z0h Z4g) (Z0f Z4g) (Z0b Z4g) .none .none .none (.str "elderhouse.checking" 665) none (.ref 426) .none)),#[]⟩) ::
(nat_lit 428,⟨.type "tuple",none,.seq #[] 0,#[]⟩) ::
(nat_lit 430,⟨.type "tuple",none,.seq #[.str "hall" 770,.str "kind" 771,.str "field" 772] 0,#[]⟩) ::
(nat_lit 431,⟨.type "tuple",none,.seq #[] 0,#[]⟩) ::
(nat_lit 433,⟨.type "code",none,.fields #[.str "field_kind" 767,.str "field_kind" 768,.str "/claim/cut.py" 769,.int 305 0,.int 3 0,.int 0 0,.int 0 0,.int 3 0,.ref 428,.bool true,.int 181 0,.ref 429,.none,.ref 430,.ref 431,.ref 432,.int 773 0,.int 305 0,.str "/claim/cut.py" 774],#[]⟩) ::
(nat_lit 434,⟨(.type "function"),none,(.func (W.fnOf "field_kind" "field_kind" (Z0h Z2N) (Z0f Z2N) (Z0b Z2N) .none .none .none (.str "elderhouse.checking" 665) none (.ref 433) .none)),#[]⟩) ::
(nat_lit 435,⟨.type "tuple",none,.seq #[] 0,#[]⟩) ::
(nat_lit 437,⟨.type "tuple",none,.seq #[.str "hall" 779,.str "kind" 780,.str "word" 781,.str "terms" 782,.str "params" 783,.str "told" 784] 0,#[]⟩) ::
(nat_lit 438,⟨.type "tuple",none,.seq #[] 0,#[]⟩) ::
(nat_lit 440,⟨.type "code",none,.fields #[.str "call_kind" 776,.str "call_kind" 777,.str "/claim/cut.py" 778,.int 308 0,.int 4 0,.int 0 0,.int 0 0,.int 3 0,.ref 435,.bool true,.int 181 0,.ref 436,.none,.ref 437,.ref 438,.ref 439,.int 785 0,.int 308 0,.str "/claim/cut.py" 786],#[]⟩) ::
(nat_lit 441,⟨(.type "function"),none,(.func (W.fnOf "call_kind" "call_kind" (Z0h Z3b) (Z0f Z3b) (Z0b Z3b) .none .none .none (.str "elderhouse.checking" 665) none (.ref 440) .none)),#[]⟩) ::
(nat_lit 442,⟨.type "tuple",none,.seq #[] 0,#[]⟩) ::
(nat_lit 445,⟨.type "code",none,.fields #[.str "all_fit" 788,.str "all_fit" 789,.str "/claim/cut.py" 790,.int 313 0,.int 3 0,.int 0 0,.int 0 0,.int 3 0,.ref 442,.bool true,.int 181 0,.ref 443,.none,.none,.none,.ref 444,.int 791 0,.int 313 0,.str "/claim/cut.py" 792],#[]⟩) ::
(nat_lit 446,⟨(.type "function"),none,(.func (W.fnOf "all_fit" "all_fit" (Z0h Z4b) (Z0f Z4b) (Z0b Z4b) .none .none .none (.str "elderhouse.checking" 665) none (.ref 445) .none)),#[]⟩) ::
(nat_lit 447,⟨(.type "dict"),none,(.dict #[⟨PyData.keyHash P "+",.str "+" 796,.str "add" 797⟩,⟨PyData.keyHash P "-",.str "-" 798,.str "sub" 799⟩,⟨PyData.keyHash P "*",.str "*" 800,.str "mul" 801⟩,⟨PyData.keyHash P "/",.str "/" 802,.str "div" 803⟩,⟨PyData.keyHash P "<",.str "<" 804,.str "less" 805⟩,⟨PyData.keyHash P "=",.str "=" 806,.str "same" 807⟩] 6),#[]⟩) ::
(nat_lit 448,⟨.type "tuple",none,.seq #[] 0,#[]⟩) ::
(nat_lit 450,⟨.type "tuple",none,.seq #[.str "program" 818] 0,#[]⟩) ::
(nat_lit 451,⟨.type "tuple",none,.seq #[] 0,#[]⟩) ::
(nat_lit 453,⟨.type "code",none,.fields #[.str "compiled" 815,.str "compiled" 816,.str "/claim/cut.py" 817,.int 320 0,.int 1 0,.int 0 0,.int 0 0,.int 3 0,.ref 448,.bool true,.int 181 0,.ref 449,.none,.ref 450,.ref 451,.ref 452,.int 819 0,.int 320 0,.str "/claim/cut.py" 820],#[]⟩) ::
(nat_lit 454,⟨(.type "function"),none,(.func (W.fnOf "compiled" "compiled" (Z0h Z2A) (Z0f Z2A) (Z0b Z2A) .none .none .none (.str "elderhouse.making" 794) none (.ref 453) .none)),#[]⟩) ::
(nat_lit 462,⟨.type "tuple",none,.seq #[] 0,#[]⟩) ::
(nat_lit 464,⟨.type "tuple",none,.seq #[.str "self" 837,.str "program" 838] 0,#[]⟩) ::
(nat_lit 465,⟨.type "tuple",none,.seq #[] 0,#[]⟩) ::
(nat_lit 467,⟨.type "code",none,.fields #[.str "__init__" 834,.str "Maker.__init__" 835,.str "/claim/cut.py" 836,.int 324 0,.int 2 0,.int 0 0,.int 0 0,.int 3 0,.ref 462,.bool true,.int 181 0,.ref 463,.none,.ref 464,.ref 465,.ref 466,.int 839 0,.int 324 0,.str "/claim/cut.py" 840],#[]⟩) ::
(nat_lit 468,⟨(.type "function"),none,(.func (W.fnOf "__init__" "Maker.__init__" (Z0h Z0P) (Z0f Z0P) (Z0b Z0P) .none .none .none (.str "elderhouse.making" 794) none (.ref 467) .none)),#[]⟩) ::
(nat_lit 469,⟨.type "tuple",none,.seq #[] 0,#[]⟩) ::
(nat_lit 471,⟨.type "tuple",none,.seq #[.str "self" 845,.str "kinds" 846,.str "blocks" 847,.str "house" 848,.str "word" 849] 0,#[]⟩) ::
(nat_lit 472,⟨.type "tuple",none,.seq #[] 0,#[]⟩) ::
(nat_lit 474,⟨.type "code",none,.fields #[.str "all_blocks" 842,.str "Maker.all_blocks" 843,.str "/claim/cut.py" 844,.int 331 0,.int 1 0,.int 0 0,.int 0 0,.int 3 0,.ref 469,.bool true,.int 181 0,.ref 470,.none,.ref 471,.ref 472,.ref 473,.int 850 0,.int 331 0,.str "/claim/cut.py" 851],#[]⟩) ::
(nat_lit 475,⟨(.type "function"),none,(.func (W.fnOf "all_blocks" "Maker.all_blocks" (Z0h Z0D) (Z0f Z0D) (Z0b Z0D) .none .none .none (.str "elderhouse.making" 794) none (.ref 474) .none)),#[]⟩) ::
(nat_lit 476,⟨.type "tuple",none,.seq #[] 0,#[]⟩) ::
(nat_lit 479,⟨.type "code",none,.fields #[.str "block" 853,.str "Maker.block" 854,.str "/claim/cut.py" 855,.int 340 0,.int 4 0,.int 0 0,.int 0 0,.int 3 0,.ref 476,.bool true,.int 181 0,.ref 477,.none,.none,.none,.ref 478,.int 856 0,.int 340 0,.str "/claim/cut.py" 857],#[]⟩) ::
(nat_lit 480,⟨(.type "function"),none,(.func (W.fnOf "block" "Maker.block" (Z0h Z1r) (Z0f Z1r) (Z0b Z1r) .none .none .none (.str "elderhouse.making" 794) none (.ref 479) .none)),#[]⟩) ::
(nat_lit 481,⟨.type "tuple",none,.seq #[] 0,#[]⟩) ::
(nat_lit 483,⟨.type "tuple",none,.seq #[.str "self" 862,.str "term" 863,.str "kinds" 864,.str "bound" 865,.str "house" 866,.str "inner" 867,.str "number" 868,.str "part" 869] 0,#[]⟩) ::
(nat_lit 484,⟨.type "tuple",none,.seq #[] 0,#[]⟩) ::
(nat_lit 486,⟨.type "code",none,.fields #[.str "rows" 859,.str "Maker.rows" 860,.str "/claim/cut.py" 861,.int 347 0,.int 5 0,.int 0 0,.int 0 0,.int 3 0,.ref 481,.bool true,.int 181 0,.ref 482,.none,.ref 483,.ref 484,.ref 485,.int 870 0,.int 347 0,.str "/claim/cut.py" 871],#[]⟩) ::
(nat_lit 487,⟨(.type "function"),none,(.func (W.fnOf "rows" "Maker.rows" (Z0h Z1M) (Z0f Z1M) (Z0b Z1M) .none .none .none (.str "elderhouse.making" 794) none (.ref 486) .none)),#[]⟩) ::
(nat_lit 488,⟨.type "tuple",none,.seq #[] 0,#[]⟩) ::
(nat_lit 490,⟨.type "tuple",none,.seq #[.str "self" 876,.str "term" 877,.str "kinds" 878,.str "bound" 879,.str "house" 880,.str "many" 881] 0,#[]⟩) ::
(nat_lit 491,⟨.type "tuple",none,.seq #[] 0,#[]⟩) ::
(nat_lit 493,⟨.type "code",none,.fields #[.str "own_row" 873,.str "Maker.own_row" 874,.str "/claim/cut.py" 875,.int 364 0,.int 5 0,.int 0 0,.int 0 0,.int 3 0,.ref 488,.bool true,.int 181 0,.ref 489,.none,.ref 490,.ref 491,.ref 492,.int 882 0,.int 364 0,.str "/claim/cut.py" 883],#[]⟩) ::
(nat_lit 494,⟨(.type "function"),none,(.func (W.fnOf "own_row" "Maker.own_row" (Z0h Z0Y) (Z0f Z0Y) (Z0b Z0Y) .none .none .none (.str "elderhouse.making" 794) none (.ref 493) .none)),#[]⟩) ::
(nat_lit 495,⟨.type "tuple",none,.seq #[.str "firsts" 885,.str "hall" 886,.str "program" 887,.str "sites" 888,.str "word_order" 889] 0,#[]⟩) ::
(nat_lit 496,⟨(.type "dict"),none,(.dict #[⟨PyData.keyHash P "__module__",.str "__module__" 829,.str "elderhouse.making" 794⟩,⟨PyData.keyHash P "__firstlineno__",.str "__firstlineno__" 833,.int 322 832⟩,⟨PyData.keyHash P "__init__",.str "__init__" 841,.ref 468⟩,⟨PyData.keyHash P "all_blocks",.str "all_blocks" 852,.ref 475⟩,⟨PyData.keyHash P "block",.str "block" 858,.ref 480⟩,⟨PyData.keyHash P "rows",.str "rows" 872,.ref 487⟩,⟨PyData.keyHash P "own_row",.str "own_row" 884,.ref 494⟩,⟨PyData.keyHash P "__static_attributes__",.str "__static_attributes__" 890,.ref 495⟩,⟨PyData.keyHash P "__dict__",.str "__dict__" 892,.ref 498⟩,⟨PyData.keyHash P "__weakref__",.str "__weakref__" 894,.ref 499⟩,⟨PyData.keyHash P "__doc__",.str "__doc__" 895,.none⟩] 4),#[]⟩) ::
(nat_lit 497,⟨(.type "type"),none,(.cls ⟨"Maker",[(.type "object")],[.ref 497,(.type "object")],496,"Maker",true,[],[],false,none,false⟩),#[none,none,(some (.str "Maker" 822)),(some (.str "Maker" 830)),(some (.builtin "object.__new__")),(some (.bool true))]⟩) ::
(nat_lit 498,⟨.type "getset_descriptor",none,.fields #[.str "__dict__" 891,.ref 497,.builtin "function.__dict__",.builtin "function.__dict__#set"],#[]⟩) ::
(nat_lit 499,⟨.type "getset_descriptor",none,.fields #[.str "__weakref__" 893,.ref 497,.builtin "ExceptionGroup.__weakref__",.none],#[]⟩) ::
(nat_lit 502,⟨.type "tuple",none,.seq #[] 0,#[]⟩) ::
(nat_lit 505,⟨.type "code",none,.fields #[.str "part_kinds" 898,.str "part_kinds" 899,.str "/claim/cut.py" 900,.int 386 0,.int 3 0,.int 0 0,.int 0 0,.int 3 0,.ref 502,.bool true,.int 181 0,.ref 503,.none,.none,.none,.ref 504,.int 901 0,.int 386 0,.str "/claim/cut.py" 902],#[]⟩) ::
(nat_lit 506,⟨(.type "function"),none,(.func (W.fnOf "part_kinds" "part_kinds" (Z0h Z2K) (Z0f Z2K) (Z0b Z2K) .none .none .none (.str "elderhouse.making" 794) none (.ref 505) .none)),#[]⟩) ::
(nat_lit 507,⟨.type "tuple",none,.seq #[] 0,#[]⟩) ::
(nat_lit 509,⟨.type "tuple",none,.seq #[.str "inner" 907,.str "asked" 908,.str "wanted" 909,.str "other" 910] 0,#[]⟩) ::
(nat_lit 510,⟨.type "tuple",none,.seq #[] 0,#[]⟩) ::
(nat_lit 512,⟨.type "code",none,.fields #[.str "if_rows" 904,.str "if_rows" 905,.str "/claim/cut.py" 906,.int 389 0,.int 1 0,.int 0 0,.int 0 0,.int 3 0,.ref 507,.bool true,.int 181 0,.ref 508,.none,.ref 509,.ref 510,.ref 511,.int 911 0,.int 389 0,.str "/claim/cut.py" 912],#[]⟩) ::
(nat_lit 513,⟨(.type "function"),none,(.func (W.fnOf "if_rows" "if_rows" (Z0h Z4f) (Z0f Z4f) (Z0b Z4f) .none .none .none (.str "elderhouse.making" 794) none (.ref 512) .none)),#[]⟩) ::
(nat_lit 514,⟨.type "tuple",none,.seq #[] 0,#[]⟩) ::
(nat_lit 516,⟨.type "tuple",none,.seq #[.str "rows" 917,.str "told" 918,.str "some" 919] 0,#[]⟩) ::
(nat_lit 517,⟨.type "tuple",none,.seq #[] 0,#[]⟩) ::
(nat_lit 519,⟨.type "code",none,.fields #[.str "joined" 914,.str "joined" 915,.str "/claim/cut.py" 916,.int 392 0,.int 1 0,.int 0 0,.int 0 0,.int 3 0,.ref 514,.bool true,.int 181 0,.ref 515,.none,.ref 516,.ref 517,.ref 518,.int 920 0,.int 392 0,.str "/claim/cut.py" 921],#[]⟩) ::
(nat_lit 520,⟨(.type "function"),none,(.func (W.fnOf "joined" "joined" (Z0h Z3y) (Z0f Z3y) (Z0b Z3y) .none .none .none (.str "elderhouse.making" 794) none (.ref 519) .none)),#[]⟩) ::
(nat_lit 521,⟨.type "tuple",none,.seq #[] 0,#[]⟩) ::
(nat_lit 524,⟨.type "code",none,.fields #[.str "last_slot" 923,.str "last_slot" 924,.str "/claim/cut.py" 925,.int 397 0,.int 2 0,.int 0 0,.int 0 0,.int 3 0,.ref 521,.bool true,.int 181 0,.ref 522,.none,.none,.none,.ref 523,.int 926 0,.int 397 0,.str "/claim/cut.py" 927],#[]⟩) ::
(nat_lit 525,⟨(.type "function"),none,(.func (W.fnOf "last_slot" "last_slot" (Z0h Z3j) (Z0f Z3j) (Z0b Z3j) .none .none .none (.str "elderhouse.making" 794) none (.ref 524) .none)),#[]⟩) ::
(nat_lit 526,⟨.type "tuple",none,.seq #[] 0,#[]⟩) ::
(nat_lit 529,⟨.type "code",none,.fields #[.str "most_bound" 929,.str "most_bound" 930,.str "/claim/cut.py" 931,.int 399 0,.int 2 0,.int 0 0,.int 0 0,.int 3 0,.ref 526,.bool true,.int 181 0,.ref 527,.none,.none,.none,.ref 528,.int 932 0,.int 399 0,.str "/claim/cut.py" 933],#[]⟩) ::
(nat_lit 530,⟨(.type "function"),none,(.func (W.fnOf "most_bound" "most_bound" (Z0h Z1T) (Z0f Z1T) (Z0b Z1T) .none .none .none (.str "elderhouse.making" 794) none (.ref 529) .none)),#[]⟩) ::
(nat_lit 531,⟨.type "tuple",none,.seq #[] 0,#[]⟩) ::
(nat_lit 533,⟨.type "tuple",none,.seq #[.str "sign" 944,.str "a" 945,.str "b" 946] 0,#[]⟩) ::
(nat_lit 534,⟨.type "tuple",none,.seq #[] 0,#[]⟩) ::
(nat_lit 536,⟨.type "code",none,.fields #[.str "two_told" 941,.str "two_told" 942,.str "/claim/cut.py" 943,.int 404 0,.int 3 0,.int 0 0,.int 0 0,.int 3 0,.ref 531,.bool true,.int 181 0,.ref 532,.none,.ref 533,.ref 534,.ref 535,.int 947 0,.int 404 0,.str "/claim/cut.py" 948],#[]⟩) ::
(nat_lit 537,⟨(.type "function"),none,(.func (W.fnOf "two_told" "two_told" (Z0h Z3x) (Z0f Z3x) (Z0b Z3x) .none .none .none (.str "elderhouse.numbers" 935) none (.ref 536) .none)),#[]⟩) ::
(nat_lit 538,⟨.type "tuple",none,.seq #[] 0,#[]⟩) ::
(nat_lit 540,⟨.type "tuple",none,.seq #[.str "sign" 953,.str "a" 954,.str "b" 955] 0,#[]⟩) ::
(nat_lit 541,⟨.type "tuple",none,.seq #[] 0,#[]⟩) ::
(nat_lit 543,⟨.type "code",none,.fields #[.str "number_told" 950,.str "number_told" 951,.str "/claim/cut.py" 952,.int 412 0,.int 3 0,.int 0 0,.int 0 0,.int 3 0,.ref 538,.bool true,.int 181 0,.ref 539,.none,.ref 540,.ref 541,.ref 542,.int 956 0,.int 412 0,.str "/claim/cut.py" 957],#[]⟩) ::
(nat_lit 544,⟨(.type "function"),none,(.func (W.fnOf "number_told" "number_told" (Z0h Z2o) (Z0f Z2o) (Z0b Z2o) .none .none .none (.str "elderhouse.numbers" 935) none (.ref 543) .none)),#[]⟩) ::
(nat_lit 545,⟨.type "tuple",none,.seq #[] 0,#[]⟩) ::
(nat_lit 547,⟨.type "tuple",none,.seq #[.str "number" 962] 0,#[]⟩) ::
(nat_lit 548,⟨.type "tuple",none,.seq #[] 0,#[]⟩) ::
(nat_lit 550,⟨.type "code",none,.fields #[.str "bounded" 959,.str "bounded" 960,.str "/claim/cut.py" 961,.int 420 0,.int 1 0,.int 0 0,.int 0 0,.int 3 0,.ref 545,.bool true,.int 181 0,.ref 546,.none,.ref 547,.ref 548,.ref 549,.int 963 0,.int 420 0,.str "/claim/cut.py" 964],#[]⟩) ::
(nat_lit 551,⟨(.type "function"),none,(.func (W.fnOf "bounded" "bounded" (Z0h Z4e) (Z0f Z4e) (Z0b Z4e) .none .none .none (.str "elderhouse.numbers" 935) none (.ref 550) .none)),#[]⟩) ::
(nat_lit 559,⟨.type "tuple",none,.seq #[] 0,#[]⟩) ::
(nat_lit 561,⟨.type "tuple",none,.seq #[.str "self" 983,.str "house" 984,.str "own_thing" 985,.str "bound" 986] 0,#[]⟩) ::
(nat_lit 562,⟨.type "tuple",none,.seq #[] 0,#[]⟩) ::
(nat_lit 564,⟨.type "code",none,.fields #[.str "__init__" 980,.str "Scope.__init__" 981,.str "/claim/cut.py" 982,.int 427 0,.int 4 0,.int 0 0,.int 0 0,.int 3 0,.ref 559,.bool true,.int 181 0,.ref 560,.none,.ref 561,.ref 562,.ref 563,.int 987 0,.int 427 0,.str "/claim/cut.py" 988],#[]⟩) ::
(nat_lit 565,⟨(.type "function"),none,(.func (W.fnOf "__init__" "Scope.__init__" (Z0h Z0R) (Z0f Z0R) (Z0b Z0R) .none .none .none (.str "elderhouse.waits" 966) none (.ref 564) .none)),#[]⟩) ::
(nat_lit 566,⟨.type "tuple",none,.seq #[] 0,#[]⟩) ::
(nat_lit 568,⟨.type "tuple",none,.seq #[.str "self" 993,.str "name" 994,.str "value" 995,.str "inner" 996] 0,#[]⟩) ::
(nat_lit 569,⟨.type "tuple",none,.seq #[] 0,#[]⟩) ::
(nat_lit 571,⟨.type "code",none,.fields #[.str "binding" 990,.str "Scope.binding" 991,.str "/claim/cut.py" 992,.int 432 0,.int 3 0,.int 0 0,.int 0 0,.int 3 0,.ref 566,.bool true,.int 181 0,.ref 567,.none,.ref 568,.ref 569,.ref 570,.int 997 0,.int 432 0,.str "/claim/cut.py" 998],#[]⟩) ::
(nat_lit 572,⟨(.type "function"),none,(.func (W.fnOf "binding" "Scope.binding" (Z0h Z2a) (Z0f Z2a) (Z0b Z2a) .none .none .none (.str "elderhouse.waits" 966) none (.ref 571) .none)),#[]⟩) ::
(nat_lit 573,⟨.type "tuple",none,.seq #[.str "bound" 1000,.str "house" 1001,.str "own_thing" 1002] 0,#[]⟩) ::
(nat_lit 574,⟨(.type "dict"),none,(.dict #[⟨PyData.keyHash P "__module__",.str "__module__" 975,.str "elderhouse.waits" 966⟩,⟨PyData.keyHash P "__firstlineno__",.str "__firstlineno__" 979,.int 425 978⟩,⟨PyData.keyHash P "__init__",.str "__init__" 989,.ref 565⟩,⟨PyData.keyHash P "binding",.str "binding" 999,.ref 572⟩,⟨PyData.keyHash P "__static_attributes__",.str "__static_attributes__" 1003,.ref 573⟩,⟨PyData.keyHash P "__dict__",.str "__dict__" 1005,.ref 576⟩,⟨PyData.keyHash P "__weakref__",.str "__weakref__" 1007,.ref 577⟩,⟨PyData.keyHash P "__doc__",.str "__doc__" 1008,.none⟩] 4),#[]⟩) ::
(nat_lit 575,⟨(.type "type"),none,(.cls ⟨"Scope",[(.type "object")],[.ref 575,(.type "object")],574,"Scope",true,[],[],false,none,false⟩),#[none,none,(some (.str "Scope" 968)),(some (.str "Scope" 976)),(some (.builtin "object.__new__")),(some (.bool true))]⟩) ::
(nat_lit 576,⟨.type "getset_descriptor",none,.fields #[.str "__dict__" 1004,.ref 575,.builtin "function.__dict__",.builtin "function.__dict__#set"],#[]⟩) ::
(nat_lit 577,⟨.type "getset_descriptor",none,.fields #[.str "__weakref__" 1006,.ref 575,.builtin "ExceptionGroup.__weakref__",.none],#[]⟩) ::
(nat_lit 587,⟨.type "tuple",none,.seq #[] 0,#[]⟩) ::
(nat_lit 589,⟨.type "tuple",none,.seq #[.str "self" 1026] 0,#[]⟩) ::
(nat_lit 590,⟨.type "tuple",none,.seq #[] 0,#[]⟩) ::
(nat_lit 592,⟨.type "code",none,.fields #[.str "__init__" 1023,.str "Waits.__init__" 1024,.str "/claim/cut.py" 1025,.int 438 0,.int 1 0,.int 0 0,.int 0 0,.int 3 0,.ref 587,.bool true,.int 181 0,.ref 588,.none,.ref 589,.ref 590,.ref 591,.int 1027 0,.int 438 0,.str "/claim/cut.py" 1028],#[]⟩) ::
(nat_lit 593,⟨(.type "function"),none,(.func (W.fnOf "__init__" "Waits.__init__" (Z0h Z0O) (Z0f Z0O) (Z0b Z0O) .none .none .none (.str "elderhouse.waits" 966) none (.ref 592) .none)),#[]⟩) ::
(nat_lit 594,⟨.type "tuple",none,.seq #[] 0,#[]⟩) ::
(nat_lit 596,⟨.type "tuple",none,.seq #[.str "self" 1033,.str "step" 1034,.str "term" 1035,.str "scope" 1036] 0,#[]⟩) ::
(nat_lit 597,⟨.type "tuple",none,.seq #[] 0,#[]⟩) ::
(nat_lit 599,⟨.type "code",none,.fields #[.str "wait" 1030,.str "Waits.wait" 1031,.str "/claim/cut.py" 1032,.int 442 0,.int 4 0,.int 0 0,.int 0 0,.int 3 0,.ref 594,.bool true,.int 181 0,.ref 595,.none,.ref 596,.ref 597,.ref 598,.int 1037 0,.int 442 0,.str "/claim/cut.py" 1038],#[]⟩) ::
(nat_lit 600,⟨(.type "function"),none,(.func (W.fnOf "wait" "Waits.wait" (Z0h Z1G) (Z0f Z1G) (Z0b Z1G) .none .none .none (.str "elderhouse.waits" 966) none (.ref 599) .none)),#[]⟩) ::
(nat_lit 601,⟨.type "tuple",none,.seq #[] 0,#[]⟩) ::
(nat_lit 603,⟨.type "tuple",none,.seq #[.str "self" 1043] 0,#[]⟩) ::
(nat_lit 604,⟨.type "tuple",none,.seq #[] 0,#[]⟩) ::
(nat_lit 606,⟨.type "code",none,.fields #[.str "is_over" 1040,.str "Waits.is_over" 1041,.str "/claim/cut.py" 1042,.int 445 0,.int 1 0,.int 0 0,.int 0 0,.int 3 0,.ref 601,.bool true,.int 181 0,.ref 602,.none,.ref 603,.ref 604,.ref 605,.int 1044 0,.int 445 0,.str "/claim/cut.py" 1045],#[]⟩) ::
(nat_lit 607,⟨(.type "function"),none,(.func (W.fnOf "is_over" "Waits.is_over" (Z0h Z1b) (Z0f Z1b) (Z0b Z1b) .none .none .none (.str "elderhouse.waits" 966) none (.ref 606) .none)),#[]⟩) ::
(nat_lit 608,⟨.type "tuple",none,.seq #[] 0,#[]⟩) ::
(nat_lit 610,⟨.type "tuple",none,.seq #[.str "self" 1050] 0,#[]⟩) ::
(nat_lit 611,⟨.type "tuple",none,.seq #[] 0,#[]⟩) ::
(nat_lit 613,⟨.type "code",none,.fields #[.str "take_step" 1047,.str "Waits.take_step" 1048,.str "/claim/cut.py" 1049,.int 448 0,.int 1 0,.int 0 0,.int 0 0,.int 3 0,.ref 608,.bool true,.int 181 0,.ref 609,.none,.ref 610,.ref 611,.ref 612,.int 1051 0,.int 448 0,.str "/claim/cut.py" 1052],#[]⟩) ::
(nat_lit 614,⟨(.type "function"),none,(.func (W.fnOf "take_step" "Waits.take_step" (Z0h Z0I) (Z0f Z0I) (Z0b Z0I) .none .none .none (.str "elderhouse.waits" 966) none (.ref 613) .none)),#[]⟩) ::
(nat_lit 615,⟨.type "tuple",none,.seq #[] 0,#[]⟩) ::
(nat_lit 617,⟨.type "tuple",none,.seq #[.str "self" 1057,.str "value" 1058] 0,#[]⟩) ::
(nat_lit 618,⟨.type "tuple",none,.seq #[] 0,#[]⟩) ::
(nat_lit 620,⟨.type "code",none,.fields #[.str "know" 1054,.str "Waits.know" 1055,.str "/claim/cut.py" 1056,.int 451 0,.int 2 0,.int 0 0,.int 0 0,.int 3 0,.ref 615,.bool true,.int 181 0,.ref 616,.none,.ref 617,.ref 618,.ref 619,.int 1059 0,.int 451 0,.str "/claim/cut.py" 1060],#[]⟩) ::
(nat_lit 621,⟨(.type "function"),none,(.func (W.fnOf "know" "Waits.know" (Z0h Z1H) (Z0f Z1H) (Z0b Z1H) .none .none .none (.str "elderhouse.waits" 966) none (.ref 620) .none)),#[]⟩) ::
(nat_lit 622,⟨.type "tuple",none,.seq #[] 0,#[]⟩) ::
(nat_lit 624,⟨.type "tuple",none,.seq #[.str "self" 1065] 0,#[]⟩) ::
(nat_lit 625,⟨.type "tuple",none,.seq #[] 0,#[]⟩) ::
(nat_lit 627,⟨.type "code",none,.fields #[.str "take_value" 1062,.str "Waits.take_value" 1063,.str "/claim/cut.py" 1064,.int 454 0,.int 1 0,.int 0 0,.int 0 0,.int 3 0,.ref 622,.bool true,.int 181 0,.ref 623,.none,.ref 624,.ref 625,.ref 626,.int 1066 0,.int 454 0,.str "/claim/cut.py" 1067],#[]⟩) ::
(nat_lit 628,⟨(.type "function"),none,(.func (W.fnOf "take_value" "Waits.take_value" (Z0h Z0C) (Z0f Z0C) (Z0b Z0C) .none .none .none (.str "elderhouse.waits" 966) none (.ref 627) .none)),#[]⟩) ::
(nat_lit 629,⟨.type "tuple",none,.seq #[] 0,#[]⟩) ::
(nat_lit 632,⟨.type "code",none,.fields #[.str "take_values" 1069,.str "Waits.take_values" 1070,.str "/claim/cut.py" 1071,.int 457 0,.int 2 0,.int 0 0,.int 0 0,.int 3 0,.ref 629,.bool true,.int 181 0,.ref 630,.none,.none,.none,.ref 631,.int 1072 0,.int 457 0,.str "/claim/cut.py" 1073],#[]⟩) ::
(nat_lit 633,⟨(.type "function"),none,(.func (W.fnOf "take_values" "Waits.take_values" (Z0h Z1j) (Z0f Z1j) (Z0b Z1j) .none .none .none (.str "elderhouse.waits" 966) none (.ref 632) .none)),#[]⟩) ::
(nat_lit 634,⟨.type "tuple",none,.seq #[.str "known" 1075,.str "waiting" 1076] 0,#[]⟩) ::
(nat_lit 635,⟨(.type "dict"),none,(.dict #[⟨PyData.keyHash P "__module__",.str "__module__" 1018,.str "elderhouse.waits" 966⟩,⟨PyData.keyHash P "__firstlineno__",.str "__firstlineno__" 1022,.int 436 1021⟩,⟨PyData.keyHash P "__init__",.str "__init__" 1029,.ref 593⟩,⟨PyData.keyHash P "wait",.str "wait" 1039,.ref 600⟩,⟨PyData.keyHash P "is_over",.str "is_over" 1046,.ref 607⟩,⟨PyData.keyHash P "take_step",.str "take_step" 1053,.ref 614⟩,⟨PyData.keyHash P "know",.str "know" 1061,.ref 621⟩,⟨PyData.keyHash P "take_value",.str "take_value" 1068,.ref 628⟩,⟨PyData.keyHash P "take_values",.str "take_values" 1074,.ref 633⟩,⟨PyData.keyHash P "__static_attributes__",.str "__static_attributes__" 1077,.ref 634⟩,⟨PyData.keyHash P "__dict__",.str "__dict__" 1079,.ref 637⟩,⟨PyData.keyHash P "__weakref__",.str "__weakref__" 1081,.ref 638⟩,⟨PyData.keyHash P "__doc__",.str "__doc__" 1082,.none⟩] 4),#[]⟩) ::
(nat_lit 636,⟨(.type "type"),none,(.cls ⟨"Waits",[(.type "object")],[.ref 636,(.type "object")],635,"Waits",true,[],[],false,none,false⟩),#[none,none,(some (.str "Waits" 1011)),(some (.str "Waits" 1019)),(some (.builtin "object.__new__")),(some (.bool true))]⟩) ::
(nat_lit 637,⟨.type "getset_descriptor",none,.fields #[.str "__dict__" 1078,.ref 636,.builtin "function.__dict__",.builtin "function.__dict__#set"],#[]⟩) ::
(nat_lit 638,⟨.type "getset_descriptor",none,.fields #[.str "__weakref__" 1080,.ref 636,.builtin "ExceptionGroup.__weakref__",.none],#[]⟩) ::
(nat_lit 641,⟨.type "tuple",none,.seq #[.int 100 1087] 0,#[]⟩) ::
(nat_lit 642,⟨.type "tuple",none,.seq #[] 0,#[]⟩) ::
(nat_lit 645,⟨.type "code",none,.fields #[.str "walked" 1088,.str "walked" 1089,.str "/claim/cut.py" 1090,.int 461 0,.int 3 0,.int 0 0,.int 0 0,.int 3 0,.ref 642,.bool true,.int 181 0,.ref 643,.none,.none,.none,.ref 644,.int 1091 0,.int 461 0,.str "/claim/cut.py" 1092],#[]⟩) ::
(nat_lit 646,⟨(.type "function"),none,(.func (W.fnOf "walked" "walked" (Z0h Z3D) (Z0f Z3D) (Z0b Z3D) (.ref 641) .none .none (.str "elderhouse.walking" 1085) none (.ref 645) .none)),#[]⟩) ::
(nat_lit 654,⟨.type "tuple",none,.seq #[] 0,#[]⟩) ::
(nat_lit 656,⟨.type "tuple",none,.seq #[.str "self" 1109,.str "program" 1110,.str "most" 1111] 0,#[]⟩) ::
(nat_lit 657,⟨.type "tuple",none,.seq #[] 0,#[]⟩) ::
(nat_lit 659,⟨.type "code",none,.fields #[.str "__init__" 1106,.str "Walk.__init__" 1107,.str "/claim/cut.py" 1108,.int 471 0,.int 3 0,.int 0 0,.int 0 0,.int 3 0,.ref 654,.bool true,.int 181 0,.ref 655,.none,.ref 656,.ref 657,.ref 658,.int 1112 0,.int 471 0,.str "/claim/cut.py" 1113],#[]⟩) ::
(nat_lit 660,⟨(.type "function"),none,(.func (W.fnOf "__init__" "Walk.__init__" (Z0h Z1d) (Z0f Z1d) (Z0b Z1d) .none .none .none (.str "elderhouse.walking" 1085) none (.ref 659) .none)),#[]⟩) ::
(nat_lit 661,⟨.type "tuple",none,.seq #[] 0,#[]⟩) ::
(nat_lit 663,⟨.type "tuple",none,.seq #[.str "self" 1118,.str "value" 1119] 0,#[]⟩) ::
(nat_lit 664,⟨.type "tuple",none,.seq #[] 0,#[]⟩) ::
(nat_lit 666,⟨.type "code",none,.fields #[.str "told_answer" 1115,.str "Walk.told_answer" 1116,.str "/claim/cut.py" 1117,.int 480 0,.int 1 0,.int 0 0,.int 0 0,.int 3 0,.ref 661,.bool true,.int 181 0,.ref 662,.none,.ref 663,.ref 664,.ref 665,.int 1120 0,.int 480 0,.str "/claim/cut.py" 1121],#[]⟩) ::
(nat_lit 667,⟨(.type "function"),none,(.func (W.fnOf "told_answer" "Walk.told_answer" (Z0h Z0E) (Z0f Z0E) (Z0b Z0E) .none .none .none (.str "elderhouse.walking" 1085) none (.ref 666) .none)),#[]⟩) ::
(nat_lit 668,⟨.type "tuple",none,.seq #[] 0,#[]⟩) ::
(nat_lit 670,⟨.type "tuple",none,.seq #[.str "self" 1126,.str "step" 1127,.str "term" 1128,.str "scope" 1129] 0,#[]⟩) ::
(nat_lit 671,⟨.type "tuple",none,.seq #[] 0,#[]⟩) ::
(nat_lit 673,⟨.type "code",none,.fields #[.str "go_on" 1123,.str "Walk.go_on" 1124,.str "/claim/cut.py" 1125,.int 488 0,.int 1 0,.int 0 0,.int 0 0,.int 3 0,.ref 668,.bool true,.int 181 0,.ref 669,.none,.ref 670,.ref 671,.ref 672,.int 1130 0,.int 488 0,.str "/claim/cut.py" 1131],#[]⟩) ::
(nat_lit 674,⟨(.type "function"),none,(.func (W.fnOf "go_on" "Walk.go_on" (Z0h Z1W) (Z0f Z1W) (Z0b Z1W) .none .none .none (.str "elderhouse.walking" 1085) none (.ref 673) .none)),#[]⟩) ::
(nat_lit 675,⟨.type "tuple",none,.seq #[] 0,#[]⟩) ::
(nat_lit 677,⟨.type "tuple",none,.seq #[.str "self" 1136,.str "term" 1137,.str "scope" 1138,.str "part" 1139] 0,#[]⟩) ::
(nat_lit 678,⟨.type "tuple",none,.seq #[] 0,#[]⟩) ::
(nat_lit 680,⟨.type "code",none,.fields #[.str "begin" 1133,.str "Walk.begin" 1134,.str "/claim/cut.py" 1135,.int 499 0,.int 3 0,.int 0 0,.int 0 0,.int 3 0,.ref 675,.bool true,.int 181 0,.ref 676,.none,.ref 677,.ref 678,.ref 679,.int 1140 0,.int 499 0,.str "/claim/cut.py" 1141],#[]⟩) ::
(nat_lit 681,⟨(.type "function"),none,(.func (W.fnOf "begin" "Walk.begin" (Z0h Z1K) (Z0f Z1K) (Z0b Z1K) .none .none .none (.str "elderhouse.walking" 1085) none (.ref 680) .none)),#[]⟩) ::
(nat_lit 682,⟨.type "tuple",none,.seq #[] 0,#[]⟩) ::
(nat_lit 684,⟨.type "tuple",none,.seq #[.str "self" 1146,.str "term" 1147,.str "scope" 1148,.str "value" 1149,.str "parts" 1150] 0,#[]⟩) ::
(nat_lit 685,⟨.type "tuple",none,.seq #[] 0,#[]⟩) ::
(nat_lit 687,⟨.type "code",none,.fields #[.str "choose" 1143,.str "Walk.choose" 1144,.str "/claim/cut.py" 1145,.int 514 0,.int 3 0,.int 0 0,.int 0 0,.int 3 0,.ref 682,.bool true,.int 181 0,.ref 683,.none,.ref 684,.ref 685,.ref 686,.int 1151 0,.int 514 0,.str "/claim/cut.py" 1152],#[]⟩) ::
(nat_lit 688,⟨(.type "function"),none,(.func (W.fnOf "choose" "Walk.choose" (Z0h Z2q) (Z0f Z2q) (Z0b Z2q) .none .none .none (.str "elderhouse.walking" 1085) none (.ref 687) .none)),#[]⟩) ::
(nat_lit 689,⟨.type "tuple",none,.seq #[] 0,#[]⟩) ::
(nat_lit 691,⟨.type "tuple",none,.seq #[.str "self" 1157,.str "term" 1158,.str "scope" 1159,.str "values" 1160,.str "inner" 1161] 0,#[]⟩) ::
(nat_lit 692,⟨.type "tuple",none,.seq #[] 0,#[]⟩) ::
(nat_lit 694,⟨.type "code",none,.fields #[.str "finish" 1154,.str "Walk.finish" 1155,.str "/claim/cut.py" 1156,.int 524 0,.int 3 0,.int 0 0,.int 0 0,.int 3 0,.ref 689,.bool true,.int 181 0,.ref 690,.none,.ref 691,.ref 692,.ref 693,.int 1162 0,.int 524 0,.str "/claim/cut.py" 1163],#[]⟩) ::
(nat_lit 695,⟨(.type "function"),none,(.func (W.fnOf "finish" "Walk.finish" (Z0h Z2n) (Z0f Z2n) (Z0b Z2n) .none .none .none (.str "elderhouse.walking" 1085) none (.ref 694) .none)),#[]⟩) ::
(nat_lit 696,⟨.type "tuple",none,.seq #[] 0,#[]⟩) ::
(nat_lit 698,⟨.type "tuple",none,.seq #[.str "self" 1168,.str "sign" 1169,.str "one" 1170,.str "other" 1171,.str "told" 1172] 0,#[]⟩) ::
(nat_lit 699,⟨.type "tuple",none,.seq #[] 0,#[]⟩) ::
(nat_lit 701,⟨.type "code",none,.fields #[.str "two" 1165,.str "Walk.two" 1166,.str "/claim/cut.py" 1167,.int 544 0,.int 4 0,.int 0 0,.int 0 0,.int 3 0,.ref 696,.bool true,.int 181 0,.ref 697,.none,.ref 698,.ref 699,.ref 700,.int 1173 0,.int 544 0,.str "/claim/cut.py" 1174],#[]⟩) ::
(nat_lit 702,⟨(.type "function"),none,(.func (W.fnOf "two" "Walk.two" (Z0h Z3u) (Z0f Z3u) (Z0b Z3u) .none .none .none (.str "elderhouse.walking" 1085) none (.ref 701) .none)),#[]⟩) ::
(nat_lit 703,⟨.type "tuple",none,.seq #[] 0,#[]⟩) ::
(nat_lit 706,⟨.type "code",none,.fields #[.str "call" 1176,.str "Walk.call" 1177,.str "/claim/cut.py" 1178,.int 551 0,.int 5 0,.int 0 0,.int 0 0,.int 3 0,.ref 703,.bool true,.int 181 0,.ref 704,.none,.none,.none,.ref 705,.int 1179 0,.int 551 0,.str "/claim/cut.py" 1180],#[]⟩) ::
(nat_lit 707,⟨(.type "function"),none,(.func (W.fnOf "call" "Walk.call" (Z0h Z3h) (Z0f Z3h) (Z0b Z3h) .none .none .none (.str "elderhouse.walking" 1085) none (.ref 706) .none)),#[]⟩) ::
(nat_lit 708,⟨.type "tuple",none,.seq #[] 0,#[]⟩) ::
(nat_lit 710,⟨.type "tuple",none,.seq #[.str "self" 1185,.str "thing" 1186] 0,#[]⟩) ::
(nat_lit 711,⟨.type "tuple",none,.seq #[] 0,#[]⟩) ::
(nat_lit 713,⟨.type "code",none,.fields #[.str "house_of" 1182,.str "Walk.house_of" 1183,.str "/claim/cut.py" 1184,.int 566 0,.int 2 0,.int 0 0,.int 0 0,.int 3 0,.ref 708,.bool true,.int 181 0,.ref 709,.none,.ref 710,.ref 711,.ref 712,.int 1187 0,.int 566 0,.str "/claim/cut.py" 1188],#[]⟩) ::
(nat_lit 714,⟨(.type "function"),none,(.func (W.fnOf "house_of" "Walk.house_of" (Z0h Z2c) (Z0f Z2c) (Z0b Z2c) .none .none .none (.str "elderhouse.walking" 1085) none (.ref 713) .none)),#[]⟩) ::
(nat_lit 715,⟨.type "tuple",none,.seq #[] 0,#[]⟩) ::
(nat_lit 717,⟨.type "tuple",none,.seq #[.str "self" 1193,.str "thing" 1194] 0,#[]⟩) ::
(nat_lit 718,⟨.type "tuple",none,.seq #[] 0,#[]⟩) ::
(nat_lit 720,⟨.type "code",none,.fields #[.str "inner_of" 1190,.str "Walk.inner_of" 1191,.str "/claim/cut.py" 1192,.int 569 0,.int 2 0,.int 0 0,.int 0 0,.int 3 0,.ref 715,.bool true,.int 181 0,.ref 716,.none,.ref 717,.ref 718,.ref 719,.int 1195 0,.int 569 0,.str "/claim/cut.py" 1196],#[]⟩) ::
(nat_lit 721,⟨(.type "function"),none,(.func (W.fnOf "inner_of" "Walk.inner_of" (Z0h Z1Z) (Z0f Z1Z) (Z0b Z1Z) .none .none .none (.str "elderhouse.walking" 1085) none (.ref 720) .none)),#[]⟩) ::
(nat_lit 722,⟨.type "tuple",none,.seq #[] 0,#[]⟩) ::
(nat_lit 724,⟨.type "tuple",none,.seq #[.str "self" 1201,.str "thing" 1202,.str "field" 1203] 0,#[]⟩) ::
(nat_lit 725,⟨.type "tuple",none,.seq #[] 0,#[]⟩) ::
(nat_lit 727,⟨.type "code",none,.fields #[.str "place_in" 1198,.str "Walk.place_in" 1199,.str "/claim/cut.py" 1200,.int 572 0,.int 3 0,.int 0 0,.int 0 0,.int 3 0,.ref 722,.bool true,.int 181 0,.ref 723,.none,.ref 724,.ref 725,.ref 726,.int 1204 0,.int 572 0,.str "/claim/cut.py" 1205],#[]⟩) ::
(nat_lit 728,⟨(.type "function"),none,(.func (W.fnOf "place_in" "Walk.place_in" (Z0h Z2d) (Z0f Z2d) (Z0b Z2d) .none .none .none (.str "elderhouse.walking" 1085) none (.ref 727) .none)),#[]⟩) ::
(nat_lit 729,⟨.type "tuple",none,.seq #[.str "counted" 1207,.str "ended" 1208,.str "hall" 1209,.str "made" 1210,.str "most" 1211,.str "waits" 1212,.str "within" 1213] 0,#[]⟩) ::
(nat_lit 730,⟨(.type "dict"),none,(.dict #[⟨PyData.keyHash P "__module__",.str "__module__" 1101,.str "elderhouse.walking" 1085⟩,⟨PyData.keyHash P "__firstlineno__",.str "__firstlineno__" 1105,.int 469 1104⟩,⟨PyData.keyHash P "__init__",.str "__init__" 1114,.ref 660⟩,⟨PyData.keyHash P "told_answer",.str "told_answer" 1122,.ref 667⟩,⟨PyData.keyHash P "go_on",.str "go_on" 1132,.ref 674⟩,⟨PyData.keyHash P "begin",.str "begin" 1142,.ref 681⟩,⟨PyData.keyHash P "choose",.str "choose" 1153,.ref 688⟩,⟨PyData.keyHash P "finish",.str "finish" 1164,.ref 695⟩,⟨PyData.keyHash P "two",.str "two" 1175,.ref 702⟩,⟨PyData.keyHash P "call",.str "call" 1181,.ref 707⟩,⟨PyData.keyHash P "house_of",.str "house_of" 1189,.ref 714⟩,⟨PyData.keyHash P "inner_of",.str "inner_of" 1197,.ref 721⟩,⟨PyData.keyHash P "place_in",.str "place_in" 1206,.ref 728⟩,⟨PyData.keyHash P "__static_attributes__",.str "__static_attributes__" 1214,.ref 729⟩,⟨PyData.keyHash P "__dict__",.str "__dict__" 1216,.ref 732⟩,⟨PyData.keyHash P "__weakref__",.str "__weakref__" 1218,.ref 733⟩,⟨PyData.keyHash P "__doc__",.str "__doc__" 1219,.none⟩] 4),#[]⟩) ::
(nat_lit 731,⟨(.type "type"),none,(.cls ⟨"Walk",[(.type "object")],[.ref 731,(.type "object")],730,"Walk",true,[],[],false,none,false⟩),#[none,none,(some (.str "Walk" 1094)),(some (.str "Walk" 1102)),(some (.builtin "object.__new__")),(some (.bool true))]⟩) ::
(nat_lit 732,⟨.type "getset_descriptor",none,.fields #[.str "__dict__" 1215,.ref 731,.builtin "function.__dict__",.builtin "function.__dict__#set"],#[]⟩) ::
(nat_lit 733,⟨.type "getset_descriptor",none,.fields #[.str "__weakref__" 1217,.ref 731,.builtin "ExceptionGroup.__weakref__",.none],#[]⟩) ::
(nat_lit 736,⟨.type "tuple",none,.seq #[] 0,#[]⟩) ::
(nat_lit 738,⟨.type "tuple",none,.seq #[.str "term" 1225] 0,#[]⟩) ::
(nat_lit 739,⟨.type "tuple",none,.seq #[] 0,#[]⟩) ::
(nat_lit 741,⟨.type "code",none,.fields #[.str "chooses" 1222,.str "chooses" 1223,.str "/claim/cut.py" 1224,.int 574 0,.int 1 0,.int 0 0,.int 0 0,.int 3 0,.ref 736,.bool true,.int 181 0,.ref 737,.none,.ref 738,.ref 739,.ref 740,.int 1226 0,.int 574 0,.str "/claim/cut.py" 1227],#[]⟩) ::
(nat_lit 742,⟨(.type "function"),none,(.func (W.fnOf "chooses" "chooses" (Z0h Z3Z) (Z0f Z3Z) (Z0b Z3Z) .none .none .none (.str "elderhouse.walking" 1085) none (.ref 741) .none)),#[]⟩) ::
(nat_lit 743,⟨.type "tuple",none,.seq #[] 0,#[]⟩) ::
(nat_lit 745,⟨.type "tuple",none,.seq #[.str "_law_script" 1234,.str "_law_k" 1235] 0,#[]⟩) ::
(nat_lit 746,⟨.type "tuple",none,.seq #[] 0,#[]⟩) ::
(nat_lit 748,⟨.type "code",none,.fields #[.str "_law_cell_at" 1231,.str "_law_cell_at" 1232,.str "/claim/cut.py" 1233,.int 577 0,.int 2 0,.int 0 0,.int 0 0,.int 3 0,.ref 743,.bool true,.int 181 0,.ref 744,.none,.ref 745,.ref 746,.ref 747,.int 1236 0,.int 577 0,.str "/claim/cut.py" 1237],#[]⟩) ::
(nat_lit 749,⟨(.type "function"),none,(.func (W.fnOf "_law_cell_at" "_law_cell_at" (Z0h Z1m) (Z0f Z1m) (Z0b Z1m) .none .none .none (.str "law_elderhouse_k52_tables_and_numbers" 1229) none (.ref 748) .none)),#[]⟩) ::
(nat_lit 750,⟨.type "tuple",none,.seq #[] 0,#[]⟩) ::
(nat_lit 752,⟨.type "tuple",none,.seq #[.str "_law_cell" 1242,.str "_law_k" 1243] 0,#[]⟩) ::
(nat_lit 753,⟨.type "tuple",none,.seq #[] 0,#[]⟩) ::
(nat_lit 755,⟨.type "code",none,.fields #[.str "_law_mixed" 1239,.str "_law_mixed" 1240,.str "/claim/cut.py" 1241,.int 581 0,.int 2 0,.int 0 0,.int 0 0,.int 3 0,.ref 750,.bool true,.int 181 0,.ref 751,.none,.ref 752,.ref 753,.ref 754,.int 1244 0,.int 581 0,.str "/claim/cut.py" 1245],#[]⟩) ::
(nat_lit 756,⟨(.type "function"),none,(.func (W.fnOf "_law_mixed" "_law_mixed" (Z0h Z1I) (Z0f Z1I) (Z0b Z1I) .none .none .none (.str "law_elderhouse_k52_tables_and_numbers" 1229) none (.ref 755) .none)),#[]⟩) ::
(nat_lit 757,⟨.type "tuple",none,.seq #[] 0,#[]⟩) ::
(nat_lit 760,⟨.type "code",none,.fields #[.str "_law_houses" 1247,.str "_law_houses" 1248,.str "/claim/cut.py" 1249,.int 583 0,.int 1 0,.int 0 0,.int 0 0,.int 3 0,.ref 757,.bool true,.int 181 0,.ref 758,.none,.none,.none,.ref 759,.int 1250 0,.int 583 0,.str "/claim/cut.py" 1251],#[]⟩) ::
(nat_lit 761,⟨(.type "function"),none,(.func (W.fnOf "_law_houses" "_law_houses" (Z0h Z1v) (Z0f Z1v) (Z0b Z1v) .none .none .none (.str "law_elderhouse_k52_tables_and_numbers" 1229) none (.ref 760) .none)),#[]⟩) ::
(nat_lit 762,⟨.type "tuple",none,.seq #[] 0,#[]⟩) ::
(nat_lit 765,⟨.type "code",none,.fields #[.str "_law_block" 1253,.str "_law_block" 1254,.str "/claim/cut.py" 1255,.int 600 0,.int 3 0,.int 0 0,.int 0 0,.int 3 0,.ref 762,.bool true,.int 181 0,.ref 763,.none,.none,.none,.ref 764,.int 1256 0,.int 600 0,.str "/claim/cut.py" 1257],#[]⟩) ::
(nat_lit 766,⟨(.type "function"),none,(.func (W.fnOf "_law_block" "_law_block" (Z0h Z1O) (Z0f Z1O) (Z0b Z1O) .none .none .none (.str "law_elderhouse_k52_tables_and_numbers" 1229) none (.ref 765) .none)),#[]⟩) ::
(nat_lit 767,⟨.type "tuple",none,.seq #[] 0,#[]⟩) ::
(nat_lit 770,⟨.type "code",none,.fields #[.str "law" 1259,.str "law" 1260,.str "/claim/cut.py" 1261,.int 606 0,.int 1 0,.int 0 0,.int 0 0,.int 3 0,.ref 767,.bool true,.int 181 0,.ref 768,.none,.none,.none,.ref 769,.int 1262 0,.int 606 0,.str "/claim/cut.py" 1263],#[]⟩) ::
(nat_lit 771,⟨(.type "function"),none,(.func (W.fnOf "law" "law" (Z0h Z7C) (Z0f Z7C) (Z0b Z7C) .none .none .none (.str "law_elderhouse_k52_tables_and_numbers" 1229) none (.ref 770) .none)),#[]⟩)::[]
noncomputable def KA:List Addr:=[2,3,15,17,18,20,21,29,32,33,34,36,37,39,40,41,43,44,46,47,48,50,51,53,54,55,57,58,60,61,62,65,66,67,70,71,72,74,75,77,78,79,81,82,84,85,86,87,88,89,90,93,96,97,98,101,102,103,105,106,108,109,110,112,113,115,116,124,127,128,129,131,132,134,135,136,138,139,141,142,143,145,146,148,149,150,152,153,155,156,157,158,159,160,161,164,166,167,169,170,178,180,181,183,184,185,187,188,190,191,192,193,194,195,196,206,208,209,211,212,213,216,217,218,219,220,221,222,232,234,235,237,238,239,242,243,244,246,247,249,250,251,252,253,254,255,258,261,262,263,266,267,268,271,272,273,275,276,278,279,280,283,284,285,287,288,290,291,292,294,295,297,298,299,301,302,304,305,306,313,314,315,316,319,326,328,329,331,332,333,334,335,338,339,341,342,344,345,346,348,349,351,352,353,355,356,358,359,360,362,363,365,366,367,369,370,372,373,374,377,378,379,381,382,384,385,386,388,389,391,392,393,395,396,398,399,400,402,403,405,406,407,409,410,412,413,414,416,417,419,420,421,423,424,426,427,428,430,431,433,434,435,437,438,440,441,442,445,446,447,448,450,451,453,454,462,464,465,467,468,469,471,472,474,475,476,479,480,481,483,484,486,487,488,490,491,493,494,495,496,497,498,499,502,505,506,507,509,510,512,513,514,516,517,519,520,521,524,525,526,529,530,531,533,534,536,537,538,540,541,543,544,545,547,548,550,551,559,561,562,564,565,566,568,569,571,572,573,574,575,576,577,587,589,590,592,593,594,596,597,599,600,601,603,604,606,607,608,610,611,613,614,615,617,618,620,621,622,624,625,627,628,629,632,633,634,635,636,637,638,641,642,645,646,654,656,657,659,660,661,663,664,666,667,668,670,671,673,674,675,677,678,680,681,682,684,685,687,688,689,691,692,694,695,696,698,699,701,702,703,706,707,708,710,711,713,714,715,717,718,720,721,722,724,725,727,728,729,730,731,732,733,736,738,739,741,742,743,745,746,748,749,750,752,753,755,756,757,760,761,762,765,766,767,770,771]
theorem Z4q:∀ P,KA=(KK P).map (·.1):=fun _=>by kernel_rfl
theorem J4L {p q:Program} {loose:List Str} {Xt:Shared→Bool} {α:Type} {Yf:Shared→α} {Ya:World→α} {N:Nat} {H₀:Params→Heap} {gs₀:Array GenState} {d₀:Drawn} {k₀ m₀ M:Nat} {ann:Option Value}
  (op:∀ w:World,(W.fencedOpening treeTable p w N).map (fun s=>(s.heap,s.gens,s.drawn,s.toks))=some (H₀ w.params,gs₀,d₀,k₀))
  (sz:∀ w:World,((H₀ w.params).isNs mainGlobals&&gs₀.size == 0)=true∧(H₀ w.params).objs.size=m₀∧(H₀ w.params).nsMap mainGlobals "__annotations__"=ann) (le:M≤N)
  (ex:∀ (w:World) (os:OsState),∃ s,W.topRun treeTable p w m₀ ann M ⟨H₀ w.params,gs₀,d₀,k₀,os⟩ (W.topStub p)=some s∧(W.staticsOk (importedModules p.main.body) (H₀ w.params) s.heap&&W.namesBound p s.heap&&W.gensDone s&&W.laidKept (H₀ w.params) s.heap)=true∧W.openSeen q loose (importedModules p.main.body) Xt true s=W.openGood q loose∧Yf s=Ya w):W.LeftO p q loose Xt Yf Ya N:=by
 intro w
 obtain ⟨⟨hh,gg,dr,tk,os⟩,e1,e2⟩:=Option.map_eq_some_iff.mp (op w)
 simp only [Prod.mk.injEq] at e2
 obtain ⟨a1,a2,a3,a4⟩:=e2
 subst a1 a2 a3 a4
 obtain ⟨z1,z2,z3⟩:=sz w
 obtain ⟨s,hr,b1,b2,b3⟩:=ex w os
 have hr:=W.topRun_mono (N - M) _ _ _ _ hr
 rw [Nat.add_sub_of_le le] at hr
 have ht:W.topFrom treeTable p w N ⟨H₀ w.params,gg,dr,tk,os⟩=some s:=by
  unfold W.topFrom
  simp only [z1,z2,z3,hr,Option.bind_some,b1]
 unfold W.openEnds
 rw [e1,Option.bind_some,ht,Option.map_some,b2,b3]
theorem zz:(pw0.main.body.isEmpty == false)=true:=by k_qdec
noncomputable def eN (p:Program):Env:={ scope:=p.main.scope,locals:=mainNs,globals:=mainNs,cells:=[],code:=.ref 13,frame:=some 14 }
noncomputable def cN (p:Program):Code:=.body (W.behindTheImports p) (eN p)
def po:Pos:=⟨0,0,0,0⟩
def pf:Pos:=⟨606,0,625,125⟩
def an:Option Value:=some (.ref 6)
noncomputable def Y0 (w:World) (os:OsState):Shared:=⟨W.boot_heap w.params,Array.mk [],W.boot_drawn,W.boot_toks,os⟩
noncomputable def Sa (p:Program) (w:World) (os:OsState):Shared:=match W.topGo treeTable p w 11 an 12 (Y0 w os) (W.topStub p) with
 | some (s,_)=>s
 | none=>Y0 w os
def ofL:List Obj→Nat→W.BT→W.BT
 | [],_,t=>t
 | o::l,n,t=>ofL l (n+1) (t.ins n o)
noncomputable def TB (p:Program) (w:World) (os:OsState):W.SharedT:=⟨ofL (Sa p w os).heap.objs.toList 0 .nil,15,(Sa p w os).heap.life,(Sa p w os).gens,(Sa p w os).drawn,(Sa p w os).toks,os⟩
theorem r1 (w:World) (os:OsState):W.topGo treeTable pw0 w 11 an 12 (Y0 w os) (W.topStub pw0)=some (Sa pw0 w os,⟨denote treeTable (cN pw0),cN pw0,po,[W.topFrame po]⟩):=by
 kernel_rfl
theorem r2 (w:World) (os:OsState):W.segRun treeTable pw0 w 11 an 1 1 (Sa pw0 w os) (W.blockOf (W.behindTheImports pw0) (eN pw0) (cN pw0) po [W.topFrame po])=some (.next,Sa pw0 w os,cN pw0,po):=by
 kernel_rfl
theorem r3 (w:World) (os:OsState):(TB pw0 w os).abs=Sa pw0 w os:=by
 kernel_rfl
noncomputable def e0:Obj:=⟨.none,none,.fields #[],#[]⟩
noncomputable def et:Obj:=⟨.type "tuple",none,.seq #[] 0,#[]⟩
noncomputable def ky (P:Params) (x:Str) (t:Nat) (v:Value):DictEntry:=⟨PyData.keyHash P x,.str x t,v⟩
noncomputable def fz (x y:Str) (s:Stmt):Obj:=⟨.none,none,.func { name:=x,qualname:=y,params:=L2.Z0h s,body:=.stmts (L2.Z0f s),scope:=L2.Z0b s,globals:=0,closure:=[],defaults:=.none,kwdefaults:=.none },#[]⟩
noncomputable def bi (x:String) (v:Value):Obj:=⟨.type "builtin_function_or_method",none,.fields #[.builtin x,v],#[]⟩
noncomputable def fr (a b:Nat) (x:Str) (t:Nat):Obj:=⟨.type "frame",none,.plain,#[some (.ref a),some (.ref 3),some (.ref b),none,some (.str x t),none,some (.ref 0)]⟩
noncomputable def su (a:Nat):Obj:=⟨.type "super",none,.fields #[.ref a,.ref a,.ref a],#[]⟩
noncomputable def bo (P:Params) (i:Nat):Obj:=(W.boot_heap P).objs.toList.getD i e0
noncomputable def RR (P:Params):List (Addr×Obj):=[
(0,bo P 0),
(1,⟨(.type "dict"),none,(.dict #[ky P "builtins" 162 (.ref 4),ky P "__main__" 163 (.ref 5)] 2),#[]⟩),
(4,⟨(.type "module"),(some 0),.plain,#[]⟩),
(5,⟨(.type "module"),(some 3),.plain,#[]⟩),
(6,⟨(.type "dict"),none,(.dict #[] 0),#[]⟩),
(7,et),
(8,e0),
(9,⟨(.type "code"),none,(.fields #[.str "<module>" 176,.str "<module>" 177,.str "/claim/cut.py" 178,.int 1 0,.int 0 0,.int 0 0,.int 0 0,.int 0 0,.ref 7,.bool false,.int 175 0,.ref 8,.none,.none,.none,.none,.int 179 0,.int 1 0,.str "/claim/cut.py" 180]),#[]⟩),
(10,fr 9 3 "__main__" 164),
(11,et),
(12,⟨.none,none,(.fields #[.int 1 0,.int 0 0,.ref 20,.int 5 0,.int 0 0,.ref 27,.int 59 0,.int 0 0,.ref 96,.int 64 0,.int 0 0,.ref 101,.int 72 0,.int 0 0,.ref 108,.int 79 0,.int 0 0,.ref 115,.int 85 0,.int 0 0,.ref 122,.int 106 0,.int 0 0,.ref 169,.int 116 0,.int 0 0,.ref 176,.int 126 0,.int 0 0,.ref 204,.int 137 0,.int 0 0,.ref 230,.int 149 0,.int 0 0,.ref 261,.int 152 0,.int 0 0,.ref 266,.int 156 0,.int 0 0,.ref 271,.int 159 0,.int 0 0,.ref 278,.int 162 0,.int 0 0,.ref 283,.int 168 0,.int 0 0,.ref 290,.int 176 0,.int 0 0,.ref 297,.int 189 0,.int 0 0,.ref 304,.int 197 0,.int 0 0,.ref 311,.int 199 0,.int 0 0,.ref 324,.int 206 0,.int 0 0,.ref 344,.int 208 0,.int 0 0,.ref 351,.int 212 0,.int 0 0,.ref 358,.int 222 0,.int 0 0,.ref 365,.int 231 0,.int 0 0,.ref 372,.int 240 0,.int 0 0,.ref 377,.int 242 0,.int 0 0,.ref 384,.int 247 0,.int 0 0,.ref 391,.int 255 0,.int 0 0,.ref 398,.int 261 0,.int 0 0,.ref 405,.int 288 0,.int 0 0,.ref 412,.int 291 0,.int 0 0,.ref 419,.int 301 0,.int 0 0,.ref 426,.int 305 0,.int 0 0,.ref 433,.int 308 0,.int 0 0,.ref 440,.int 313 0,.int 0 0,.ref 445,.int 320 0,.int 0 0,.ref 453,.int 322 0,.int 0 0,.ref 460,.int 386 0,.int 0 0,.ref 505,.int 389 0,.int 0 0,.ref 512,.int 392 0,.int 0 0,.ref 519,.int 397 0,.int 0 0,.ref 524,.int 399 0,.int 0 0,.ref 529,.int 404 0,.int 0 0,.ref 536,.int 412 0,.int 0 0,.ref 543,.int 420 0,.int 0 0,.ref 550,.int 425 0,.int 0 0,.ref 557,.int 436 0,.int 0 0,.ref 585,.int 461 0,.int 0 0,.ref 645,.int 469 0,.int 0 0,.ref 652,.int 574 0,.int 0 0,.ref 741,.int 577 0,.int 0 0,.ref 748,.int 581 0,.int 0 0,.ref 755,.int 583 0,.int 0 0,.ref 760,.int 600 0,.int 0 0,.ref 765,.int 606 0,.int 0 0,.ref 770]),#[]⟩),
(13,⟨(.type "code"),none,(.fields #[.str "<module>" 182,.str "<module>" 183,.str "/claim/cut.py" 184,.int 1 0,.int 0 0,.int 0 0,.int 0 0,.int 0 0,.ref 11,.bool false,.int 181 0,.ref 12,.none,.none,.none,.none,.int 185 0,.int 1 0,.str "/claim/cut.py" 186]),#[]⟩),
(14,fr 13 3 "__main__" 164),
(16,e0),
(19,fz "_wall" "_wall" Z5X),
(22,et),
(23,bi "type.__prepare__" (.type "type")),
(24,⟨(.type "dict"),none,(.dict #[ky P "__module__" 203 (.str "elderhouse.houses" 194),ky P "__qualname__" 205 (.str "Hall" 204),⟨PyData.keyHash P "__firstlineno__",.str "__firstlineno__" 207,.int 5 206⟩,ky P "__init__" 213 (.ref 33),ky P "houses" 220 (.ref 40),ky P "elders" 230 (.ref 47),ky P "younger" 238 (.ref 54),ky P "fields" 248 (.ref 61),ky P "place" 254 (.ref 66),ky P "found" 260 (.ref 71),ky P "head" 270 (.ref 78),ky P "found_word" 282 (.ref 85),ky P "__static_attributes__" 285 (.ref 86)] 13),#[]⟩),
(25,et),
(26,⟨.none,none,(.fields #[.int 7 0,.int 4 0,.ref 32,.int 13 0,.int 4 0,.ref 39,.int 16 0,.int 4 0,.ref 46,.int 24 0,.int 4 0,.ref 53,.int 27 0,.int 4 0,.ref 60,.int 33 0,.int 4 0,.ref 65,.int 39 0,.int 4 0,.ref 70,.int 46 0,.int 4 0,.ref 77,.int 52 0,.int 4 0,.ref 84]),#[]⟩),
(27,⟨(.type "code"),none,(.fields #[.str "Hall" 198,.str "Hall" 199,.str "/claim/cut.py" 200,.int 5 0,.int 0 0,.int 0 0,.int 0 0,.int 0 0,.ref 25,.bool false,.int 181 0,.ref 26,.none,.none,.none,.none,.int 201 0,.int 5 0,.str "/claim/cut.py" 202]),#[]⟩),
(28,fr 27 24 "elderhouse.houses" 194),
(30,e0),
(31,fz "__init__" "Hall.__init__" Z0W),
(35,e0),
(38,fz "houses" "Hall.houses" Z1s),
(42,e0),
(45,fz "elders" "Hall.elders" Z1x),
(49,e0),
(52,fz "younger" "Hall.younger" Z2j),
(56,e0),
(59,fz "fields" "Hall.fields" Z2r),
(63,e0),
(64,fz "place" "Hall.place" Z2L),
(68,e0),
(69,fz "found" "Hall.found" Z1U),
(73,e0),
(76,fz "head" "Hall.head" Z3g),
(80,e0),
(83,fz "found_word" "Hall.found_word" Z1z),
(91,su 88),
(92,bi "object.__init_subclass__" (.ref 88)),
(94,e0),
(95,fz "word_names" "word_names" Z1J),
(99,e0),
(100,fz "tables" "tables" Z3B),
(104,e0),
(107,fz "first_blocks" "first_blocks" Z1l),
(111,e0),
(114,fz "found_block" "found_block" Z1y),
(117,et),
(118,bi "type.__prepare__" (.type "type")),
(119,⟨(.type "dict"),none,(.dict #[ky P "__module__" 337 (.str "elderhouse.terms" 328),ky P "__qualname__" 339 (.str "Term" 338),⟨PyData.keyHash P "__firstlineno__",.str "__firstlineno__" 341,.int 85 340⟩,ky P "__init__" 347 (.ref 128),ky P "plain" 354 (.ref 135),ky P "parts" 361 (.ref 142),ky P "depth" 368 (.ref 149),ky P "size" 375 (.ref 156),ky P "__static_attributes__" 382 (.ref 157)] 9),#[]⟩),
(120,et),
(121,⟨.none,none,(.fields #[.int 87 0,.int 4 0,.ref 127,.int 95 0,.int 4 0,.ref 134,.int 98 0,.int 4 0,.ref 141,.int 101 0,.int 4 0,.ref 148,.int 104 0,.int 4 0,.ref 155]),#[]⟩),
(122,⟨(.type "code"),none,(.fields #[.str "Term" 332,.str "Term" 333,.str "/claim/cut.py" 334,.int 85 0,.int 0 0,.int 0 0,.int 0 0,.int 0 0,.ref 120,.bool false,.int 181 0,.ref 121,.none,.none,.none,.none,.int 335 0,.int 85 0,.str "/claim/cut.py" 336]),#[]⟩),
(123,fr 122 119 "elderhouse.terms" 328),
(125,e0),
(126,fz "__init__" "Term.__init__" Z1c),
(130,e0),
(133,fz "plain" "Term.plain" Z1R),
(137,e0),
(140,fz "parts" "Term.parts" Z1P),
(144,e0),
(147,fz "depth" "Term.depth" Z1L),
(151,e0),
(154,fz "size" "Term.size" Z2h),
(162,su 159),
(163,bi "object.__init_subclass__" (.ref 159)),
(165,e0),
(168,fz "shape_of" "shape_of" Z2z),
(171,et),
(172,bi "type.__prepare__" (.type "type")),
(173,⟨(.type "dict"),none,(.dict #[ky P "__module__" 406 (.str "elderhouse.terms" 328),ky P "__qualname__" 408 (.str "Word" 407),⟨PyData.keyHash P "__firstlineno__",.str "__firstlineno__" 410,.int 116 409⟩,ky P "__init__" 421 (.ref 184),ky P "plain" 428 (.ref 191),ky P "__static_attributes__" 433 (.ref 192)] 6),#[]⟩),
(174,et),
(175,⟨.none,none,(.fields #[.int 118 0,.int 4 0,.ref 183,.int 124 0,.int 4 0,.ref 190]),#[]⟩),
(176,⟨(.type "code"),none,(.fields #[.str "Word" 401,.str "Word" 402,.str "/claim/cut.py" 403,.int 116 0,.int 0 0,.int 0 0,.int 0 0,.int 0 0,.ref 174,.bool false,.int 181 0,.ref 175,.none,.none,.none,.none,.int 404 0,.int 116 0,.str "/claim/cut.py" 405]),#[]⟩),
(177,fr 176 173 "elderhouse.terms" 328),
(179,e0),
(182,fz "__init__" "Word.__init__" Z1e),
(186,e0),
(189,fz "plain" "Word.plain" Z2M),
(197,su 194),
(198,bi "object.__init_subclass__" (.ref 194)),
(199,et),
(200,bi "type.__prepare__" (.type "type")),
(201,⟨(.type "dict"),none,(.dict #[ky P "__module__" 448 (.str "elderhouse.terms" 328),ky P "__qualname__" 450 (.str "House" 449),⟨PyData.keyHash P "__firstlineno__",.str "__firstlineno__" 452,.int 126 451⟩,ky P "__init__" 463 (.ref 212),ky P "plain" 469 (.ref 217),ky P "__static_attributes__" 474 (.ref 218)] 6),#[]⟩),
(202,et),
(203,⟨.none,none,(.fields #[.int 128 0,.int 4 0,.ref 211,.int 134 0,.int 4 0,.ref 216]),#[]⟩),
(204,⟨(.type "code"),none,(.fields #[.str "House" 443,.str "House" 444,.str "/claim/cut.py" 445,.int 126 0,.int 0 0,.int 0 0,.int 0 0,.int 0 0,.ref 202,.bool false,.int 181 0,.ref 203,.none,.none,.none,.none,.int 446 0,.int 126 0,.str "/claim/cut.py" 447]),#[]⟩),
(205,fr 204 201 "elderhouse.terms" 328),
(207,e0),
(210,fz "__init__" "House.__init__" Z0Q),
(214,e0),
(215,fz "plain" "House.plain" Z2m),
(223,su 220),
(224,bi "object.__init_subclass__" (.ref 220)),
(225,et),
(226,bi "type.__prepare__" (.type "type")),
(227,⟨(.type "dict"),none,(.dict #[ky P "__module__" 489 (.str "elderhouse.terms" 328),ky P "__qualname__" 491 (.str "Program" 490),⟨PyData.keyHash P "__firstlineno__",.str "__firstlineno__" 493,.int 137 492⟩,ky P "__init__" 502 (.ref 238),ky P "plain" 508 (.ref 243),ky P "bodies" 515 (.ref 250),ky P "__static_attributes__" 518 (.ref 251)] 7),#[]⟩),
(228,et),
(229,⟨.none,none,(.fields #[.int 139 0,.int 4 0,.ref 237,.int 143 0,.int 4 0,.ref 242,.int 147 0,.int 4 0,.ref 249]),#[]⟩),
(230,⟨(.type "code"),none,(.fields #[.str "Program" 484,.str "Program" 485,.str "/claim/cut.py" 486,.int 137 0,.int 0 0,.int 0 0,.int 0 0,.int 0 0,.ref 228,.bool false,.int 181 0,.ref 229,.none,.none,.none,.none,.int 487 0,.int 137 0,.str "/claim/cut.py" 488]),#[]⟩),
(231,fr 230 227 "elderhouse.terms" 328),
(233,e0),
(236,fz "__init__" "Program.__init__" Z0F),
(240,e0),
(241,fz "plain" "Program.plain" Z1Y),
(245,e0),
(248,fz "bodies" "Program.bodies" Z1D),
(256,su 253),
(257,bi "object.__init_subclass__" (.ref 253)),
(259,e0),
(260,fz "pairs_of" "pairs_of" Z2B),
(264,e0),
(265,fz "program_of" "program_of" Z1S),
(269,e0),
(270,fz "house_of" "house_of" Z2u),
(274,e0),
(277,fz "word_of" "word_of" Z2Y),
(281,e0),
(282,fz "term_of" "term_of" Z2V),
(286,e0),
(289,fz "all_within" "all_within" Z1V),
(293,e0),
(296,fz "parts_of" "parts_of" Z2x),
(300,e0),
(303,fz "label_of" "label_of" Z2y),
(307,bi "type.__prepare__" (.type "type")),
(308,⟨(.type "dict"),none,(.dict #[ky P "__module__" 598 (.str "elderhouse.errors" 589),ky P "__qualname__" 600 (.str "HouseError" 599),⟨PyData.keyHash P "__firstlineno__",.str "__firstlineno__" 602,.int 197 601⟩,ky P "__static_attributes__" 603 (.ref 313)] 4),#[]⟩),
(309,et),
(310,e0),
(311,⟨(.type "code"),none,(.fields #[.str "HouseError" 593,.str "HouseError" 594,.str "/claim/cut.py" 595,.int 197 0,.int 0 0,.int 0 0,.int 0 0,.int 0 0,.ref 309,.bool false,.int 181 0,.ref 310,.none,.none,.none,.none,.int 596 0,.int 197 0,.str "/claim/cut.py" 597]),#[]⟩),
(312,fr 311 308 "elderhouse.errors" 589),
(317,su 315),
(318,bi "object.__init_subclass__" (.ref 315)),
(320,bi "type.__prepare__" (.type "type")),
(321,⟨(.type "dict"),none,(.dict #[ky P "__module__" 616 (.str "elderhouse.errors" 589),ky P "__qualname__" 618 (.str "BadKind" 617),⟨PyData.keyHash P "__firstlineno__",.str "__firstlineno__" 620,.int 199 619⟩,ky P "__init__" 628 (.ref 332),ky P "__static_attributes__" 630 (.ref 333)] 5),#[]⟩),
(322,et),
(323,⟨.none,none,(.fields #[.int 201 0,.int 4 0,.ref 331]),#[]⟩),
(324,⟨(.type "code"),none,(.fields #[.str "BadKind" 611,.str "BadKind" 612,.str "/claim/cut.py" 613,.int 199 0,.int 0 0,.int 0 0,.int 0 0,.int 0 0,.ref 322,.bool false,.int 181 0,.ref 323,.none,.none,.none,.none,.int 614 0,.int 199 0,.str "/claim/cut.py" 615]),#[]⟩),
(325,fr 324 321 "elderhouse.errors" 589),
(327,e0),
(330,fz "__init__" "BadKind.__init__" Z1o),
(336,su 335),
(337,bi "object.__init_subclass__" (.ref 335)),
(340,e0),
(343,fz "is_house" "is_house" Z3v),
(347,e0),
(350,fz "fits" "fits" Z5r),
(354,e0),
(357,fz "nearest" "nearest" Z3X),
(361,e0),
(364,fz "kinds_of" "kinds_of" Z2v),
(368,e0),
(371,fz "need_like_elders" "need_like_elders" Z1n),
(375,e0),
(376,fz "kinds_in" "kinds_in" Z3w),
(380,e0),
(383,fz "body_kinds" "body_kinds" Z1Q),
(387,e0),
(390,fz "term_kinds" "term_kinds" Z1N),
(394,e0),
(397,fz "bound_ahead" "bound_ahead" Z2t),
(401,e0),
(404,fz "own_kind" "own_kind" Z2w),
(408,e0),
(411,fz "need" "need" Z7Y),
(415,e0),
(418,fz "two_kind" "two_kind" Z3H),
(422,e0),
(425,fz "if_kind" "if_kind" Z4g),
(429,e0),
(432,fz "field_kind" "field_kind" Z2N),
(436,e0),
(439,fz "call_kind" "call_kind" Z3b),
(443,e0),
(444,fz "all_fit" "all_fit" Z4b),
(449,e0),
(452,fz "compiled" "compiled" Z2A),
(455,et),
(456,bi "type.__prepare__" (.type "type")),
(457,⟨(.type "dict"),none,(.dict #[ky P "__module__" 829 (.str "elderhouse.making" 794),ky P "__qualname__" 831 (.str "Maker" 830),⟨PyData.keyHash P "__firstlineno__",.str "__firstlineno__" 833,.int 322 832⟩,ky P "__init__" 841 (.ref 468),ky P "all_blocks" 852 (.ref 475),ky P "block" 858 (.ref 480),ky P "rows" 872 (.ref 487),ky P "own_row" 884 (.ref 494),ky P "__static_attributes__" 890 (.ref 495)] 9),#[]⟩),
(458,et),
(459,⟨.none,none,(.fields #[.int 324 0,.int 4 0,.ref 467,.int 331 0,.int 4 0,.ref 474,.int 340 0,.int 4 0,.ref 479,.int 347 0,.int 4 0,.ref 486,.int 364 0,.int 4 0,.ref 493]),#[]⟩),
(460,⟨(.type "code"),none,(.fields #[.str "Maker" 824,.str "Maker" 825,.str "/claim/cut.py" 826,.int 322 0,.int 0 0,.int 0 0,.int 0 0,.int 0 0,.ref 458,.bool false,.int 181 0,.ref 459,.none,.none,.none,.none,.int 827 0,.int 322 0,.str "/claim/cut.py" 828]),#[]⟩),
(461,fr 460 457 "elderhouse.making" 794),
(463,e0),
(466,fz "__init__" "Maker.__init__" Z0P),
(470,e0),
(473,fz "all_blocks" "Maker.all_blocks" Z0D),
(477,e0),
(478,fz "block" "Maker.block" Z1r),
(482,e0),
(485,fz "rows" "Maker.rows" Z1M),
(489,e0),
(492,fz "own_row" "Maker.own_row" Z0Y),
(500,su 497),
(501,bi "object.__init_subclass__" (.ref 497)),
(503,e0),
(504,fz "part_kinds" "part_kinds" Z2K),
(508,e0),
(511,fz "if_rows" "if_rows" Z4f),
(515,e0),
(518,fz "joined" "joined" Z3y),
(522,e0),
(523,fz "last_slot" "last_slot" Z3j),
(527,e0),
(528,fz "most_bound" "most_bound" Z1T),
(532,e0),
(535,fz "two_told" "two_told" Z3x),
(539,e0),
(542,fz "number_told" "number_told" Z2o),
(546,e0),
(549,fz "bounded" "bounded" Z4e),
(552,et),
(553,bi "type.__prepare__" (.type "type")),
(554,⟨(.type "dict"),none,(.dict #[ky P "__module__" 975 (.str "elderhouse.waits" 966),ky P "__qualname__" 977 (.str "Scope" 976),⟨PyData.keyHash P "__firstlineno__",.str "__firstlineno__" 979,.int 425 978⟩,ky P "__init__" 989 (.ref 565),ky P "binding" 999 (.ref 572),ky P "__static_attributes__" 1003 (.ref 573)] 6),#[]⟩),
(555,et),
(556,⟨.none,none,(.fields #[.int 427 0,.int 4 0,.ref 564,.int 432 0,.int 4 0,.ref 571]),#[]⟩),
(557,⟨(.type "code"),none,(.fields #[.str "Scope" 970,.str "Scope" 971,.str "/claim/cut.py" 972,.int 425 0,.int 0 0,.int 0 0,.int 0 0,.int 0 0,.ref 555,.bool false,.int 181 0,.ref 556,.none,.none,.none,.none,.int 973 0,.int 425 0,.str "/claim/cut.py" 974]),#[]⟩),
(558,fr 557 554 "elderhouse.waits" 966),
(560,e0),
(563,fz "__init__" "Scope.__init__" Z0R),
(567,e0),
(570,fz "binding" "Scope.binding" Z2a),
(578,su 575),
(579,bi "object.__init_subclass__" (.ref 575)),
(580,et),
(581,bi "type.__prepare__" (.type "type")),
(582,⟨(.type "dict"),none,(.dict #[ky P "__module__" 1018 (.str "elderhouse.waits" 966),ky P "__qualname__" 1020 (.str "Waits" 1019),⟨PyData.keyHash P "__firstlineno__",.str "__firstlineno__" 1022,.int 436 1021⟩,ky P "__init__" 1029 (.ref 593),ky P "wait" 1039 (.ref 600),ky P "is_over" 1046 (.ref 607),ky P "take_step" 1053 (.ref 614),ky P "know" 1061 (.ref 621),ky P "take_value" 1068 (.ref 628),ky P "take_values" 1074 (.ref 633),ky P "__static_attributes__" 1077 (.ref 634)] 11),#[]⟩),
(583,et),
(584,⟨.none,none,(.fields #[.int 438 0,.int 4 0,.ref 592,.int 442 0,.int 4 0,.ref 599,.int 445 0,.int 4 0,.ref 606,.int 448 0,.int 4 0,.ref 613,.int 451 0,.int 4 0,.ref 620,.int 454 0,.int 4 0,.ref 627,.int 457 0,.int 4 0,.ref 632]),#[]⟩),
(585,⟨(.type "code"),none,(.fields #[.str "Waits" 1013,.str "Waits" 1014,.str "/claim/cut.py" 1015,.int 436 0,.int 0 0,.int 0 0,.int 0 0,.int 0 0,.ref 583,.bool false,.int 181 0,.ref 584,.none,.none,.none,.none,.int 1016 0,.int 436 0,.str "/claim/cut.py" 1017]),#[]⟩),
(586,fr 585 582 "elderhouse.waits" 966),
(588,e0),
(591,fz "__init__" "Waits.__init__" Z0O),
(595,e0),
(598,fz "wait" "Waits.wait" Z1G),
(602,e0),
(605,fz "is_over" "Waits.is_over" Z1b),
(609,e0),
(612,fz "take_step" "Waits.take_step" Z0I),
(616,e0),
(619,fz "know" "Waits.know" Z1H),
(623,e0),
(626,fz "take_value" "Waits.take_value" Z0C),
(630,e0),
(631,fz "take_values" "Waits.take_values" Z1j),
(639,su 636),
(640,bi "object.__init_subclass__" (.ref 636)),
(643,e0),
(644,fz "walked" "walked" Z3D),
(647,et),
(648,bi "type.__prepare__" (.type "type")),
(649,⟨(.type "dict"),none,(.dict #[ky P "__module__" 1101 (.str "elderhouse.walking" 1085),ky P "__qualname__" 1103 (.str "Walk" 1102),⟨PyData.keyHash P "__firstlineno__",.str "__firstlineno__" 1105,.int 469 1104⟩,ky P "__init__" 1114 (.ref 660),ky P "told_answer" 1122 (.ref 667),ky P "go_on" 1132 (.ref 674),ky P "begin" 1142 (.ref 681),ky P "choose" 1153 (.ref 688),ky P "finish" 1164 (.ref 695),ky P "two" 1175 (.ref 702),ky P "call" 1181 (.ref 707),ky P "house_of" 1189 (.ref 714),ky P "inner_of" 1197 (.ref 721),ky P "place_in" 1206 (.ref 728),ky P "__static_attributes__" 1214 (.ref 729)] 15),#[]⟩),
(650,et),
(651,⟨.none,none,(.fields #[.int 471 0,.int 4 0,.ref 659,.int 480 0,.int 4 0,.ref 666,.int 488 0,.int 4 0,.ref 673,.int 499 0,.int 4 0,.ref 680,.int 514 0,.int 4 0,.ref 687,.int 524 0,.int 4 0,.ref 694,.int 544 0,.int 4 0,.ref 701,.int 551 0,.int 4 0,.ref 706,.int 566 0,.int 4 0,.ref 713,.int 569 0,.int 4 0,.ref 720,.int 572 0,.int 4 0,.ref 727]),#[]⟩),
(652,⟨(.type "code"),none,(.fields #[.str "Walk" 1096,.str "Walk" 1097,.str "/claim/cut.py" 1098,.int 469 0,.int 0 0,.int 0 0,.int 0 0,.int 0 0,.ref 650,.bool false,.int 181 0,.ref 651,.none,.none,.none,.none,.int 1099 0,.int 469 0,.str "/claim/cut.py" 1100]),#[]⟩),
(653,fr 652 649 "elderhouse.walking" 1085),
(655,e0),
(658,fz "__init__" "Walk.__init__" Z1d),
(662,e0),
(665,fz "told_answer" "Walk.told_answer" Z0E),
(669,e0),
(672,fz "go_on" "Walk.go_on" Z1W),
(676,e0),
(679,fz "begin" "Walk.begin" Z1K),
(683,e0),
(686,fz "choose" "Walk.choose" Z2q),
(690,e0),
(693,fz "finish" "Walk.finish" Z2n),
(697,e0),
(700,fz "two" "Walk.two" Z3u),
(704,e0),
(705,fz "call" "Walk.call" Z3h),
(709,e0),
(712,fz "house_of" "Walk.house_of" Z2c),
(716,e0),
(719,fz "inner_of" "Walk.inner_of" Z1Z),
(723,e0),
(726,fz "place_in" "Walk.place_in" Z2d),
(734,su 731),
(735,bi "object.__init_subclass__" (.ref 731)),
(737,e0),
(740,fz "chooses" "chooses" Z3Z),
(744,e0),
(747,fz "_law_cell_at" "_law_cell_at" Z1m),
(751,e0),
(754,fz "_law_mixed" "_law_mixed" Z1I),
(758,e0),
(759,fz "_law_houses" "_law_houses" Z1v),
(763,e0),
(764,fz "_law_block" "_law_block" Z1O),
(768,e0),
(769,fz "law" "law" Z7C)]
def mrg:Nat→List (Addr×Obj)→List (Addr×Obj)→List Obj
 | 0,_,_=>[]
 | n+1,(a,x)::l,(b,y)::r=>match Nat.blt a b with
  | true=>x::mrg n l ((b,y)::r)
  | false=>y::mrg n ((a,x)::l) r
 | n+1,[],(_,y)::r=>y::mrg n [] r
 | n+1,(_,x)::l,[]=>x::mrg n l []
 | _+1,[],[]=>[]
noncomputable def TF (p:Program) (w:World) (os:OsState):W.SharedT:=⟨ofL (mrg 772 (RR w.params) (KK w.params)) 0 .nil,772,(Sa p w os).heap.life,Array.mk [],W.boot_drawn,1265,os⟩
def sF (w:World) (b:Bool):World:={ w with params:={ w.params with followText:=fun x=>if x="special-get-raises" then b else w.params.followText x } }
theorem J8y (w:World):sF w (w.params.followText "special-get-raises")=w:=by
 have h:(fun x=>if x="special-get-raises" then w.params.followText "special-get-raises" else w.params.followText x)=w.params.followText:=by
  funext x
  split
  ·rename_i h; rw [h]
  ·rfl
 unfold sF
 rw [h]
theorem b0t (w:World) (os:OsState):W.segRunT treeTable pw0 (sF w true) 11 an 1 5245 (TB pw0 (sF w true) os) (W.piecesOf (W.behindTheImports pw0) (eN pw0) (cN pw0) po [W.topFrame po])=some (.next,(TF pw0 (sF w true) os),cN pw0,pf):=by
 unfold TF TB Sa
 rw [W.Fast.te10110043849684766642,W.Fast.te15667345088766844465,W.Fast.te5998194656074316561]
 kernel_rfl
theorem b0f (w:World) (os:OsState):W.segRunT treeTable pw0 (sF w false) 11 an 1 5245 (TB pw0 (sF w false) os) (W.piecesOf (W.behindTheImports pw0) (eN pw0) (cN pw0) po [W.topFrame po])=some (.next,(TF pw0 (sF w false) os),cN pw0,pf):=by
 unfold TF TB Sa
 rw [W.Fast.te10110043849684766642,W.Fast.te15667345088766844465,W.Fast.te5998194656074316561]
 kernel_rfl
theorem b0 (w:World) (os:OsState):W.segRunT treeTable pw0 w 11 an 1 5245 (TB pw0 w os) (W.piecesOf (W.behindTheImports pw0) (eN pw0) (cN pw0) po [W.topFrame po])=some (.next,(TF pw0 w os),cN pw0,pf):=by
 have h:∀ b,W.segRunT treeTable pw0 (sF w b) 11 an 1 5245 (TB pw0 (sF w b) os) (W.piecesOf (W.behindTheImports pw0) (eN pw0) (cN pw0) po [W.topFrame po])=some (.next,(TF pw0 (sF w b) os),cN pw0,pf):=fun b=>by
  cases b
  ·exact b0f w os
  ·exact b0t w os
 have h:=h (w.params.followText "special-get-raises")
 rw [J8y] at h
 exact h
theorem b1 (w:World) (os:OsState):(W.topRun treeTable pw0 w 11 an 2 (TF pw0 w os).abs (W.restOf [] (eN pw0) (cN pw0) pf [W.topFrame po])).map (fun s=>(W.staticsOk (importedModules pw0.main.body) (W.boot_heap w.params) s.heap&&W.namesBound pw0 s.heap&&W.gensDone s&&W.laidKept (W.boot_heap w.params) s.heap))=some true:=by
 kernel_rfl
theorem b2 (w:World) (os:OsState):(W.topRun treeTable pw0 w 11 an 2 (TF pw0 w os).abs (W.restOf [] (eN pw0) (cN pw0) pf [W.topFrame po])).map (fun s=>W.openSeen qv ["SIGN_ROWS","walked"] (importedModules pw0.main.body) (fun s=>W.xlAt qv [] s&&W.recOk (W.RowW.records rv) s) true s)=some (W.openGood qv ["SIGN_ROWS","walked"]):=by
 kernel_rfl
theorem b3 (w:World) (os:OsState):(W.topRun treeTable pw0 w 11 an 2 (TF pw0 w os).abs (W.restOf [] (eN pw0) (cN pw0) pf [W.topFrame po])).map (fun s=>W.Hook.obs (W.kHook KK KA Z4q) s)=some (W.Hook.val (W.kHook KK KA Z4q) w):=by
 kernel_rfl
theorem b4 (w:World) (os:OsState):∃ T s,W.segRunT treeTable pw0 w 11 an 1 5245 (TB pw0 w os) (W.piecesOf (W.behindTheImports pw0) (eN pw0) (cN pw0) po [W.topFrame po])=some (.next,T,cN pw0,pf)∧W.topRun treeTable pw0 w 11 an 2 T.abs (W.restOf [] (eN pw0) (cN pw0) pf [W.topFrame po])=some s∧(W.staticsOk (importedModules pw0.main.body) (W.boot_heap w.params) s.heap&&W.namesBound pw0 s.heap&&W.gensDone s&&W.laidKept (W.boot_heap w.params) s.heap)=true∧W.openSeen qv ["SIGN_ROWS","walked"] (importedModules pw0.main.body) (fun s=>W.xlAt qv [] s&&W.recOk (W.RowW.records rv) s) true s=W.openGood qv ["SIGN_ROWS","walked"]∧W.Hook.obs (W.kHook KK KA Z4q) s=W.Hook.val (W.kHook KK KA Z4q) w:=by
 obtain ⟨s,hs,y1⟩:=Option.map_eq_some_iff.mp (b1 w os)
 obtain ⟨s2,hs2,y2⟩:=Option.map_eq_some_iff.mp (b2 w os)
 obtain ⟨s3,hs3,y3⟩:=Option.map_eq_some_iff.mp (b3 w os)
 cases Option.some.inj (hs.symm.trans hs2)
 cases Option.some.inj (hs.symm.trans hs3)
 exact ⟨TF pw0 w os,s,b0 w os,hs,y1,y2,y3⟩
theorem r7 (w:World) (os:OsState):∃ s,W.topRun treeTable pw0 w 11 an (12+(1+(5245+2))) (Y0 w os) (W.topStub pw0)=some s∧(W.staticsOk (importedModules pw0.main.body) (W.boot_heap w.params) s.heap&&W.namesBound pw0 s.heap&&W.gensDone s&&W.laidKept (W.boot_heap w.params) s.heap)=true∧W.openSeen qv ["SIGN_ROWS","walked"] (importedModules pw0.main.body) (fun s=>W.xlAt qv [] s&&W.recOk (W.RowW.records rv) s) true s=W.openGood qv ["SIGN_ROWS","walked"]∧W.Hook.obs (W.kHook KK KA Z4q) s=W.Hook.val (W.kHook KK KA Z4q) w:=by
 obtain ⟨T,s,h1,h2,h3,h4,h5⟩:=b4 w os
 refine ⟨s,W.go_top (r1 w os) (W.piece_block (r2 w os) ?_),h3,h4,h5⟩
 have h6:=W.segRun_of h1
 rw [r3] at h6
 have h7:=W.piece_app (rest:=[]) h6 h2
 rw [List.append_nil] at h7
 exact h7
theorem r8:∀ w:World,((W.boot_heap w.params).isNs mainGlobals&&(Array.mk ([]:List GenState)).size == 0)=true∧(W.boot_heap w.params).objs.size=11∧(W.boot_heap w.params).nsMap mainGlobals "__annotations__"=an:=by
 intro w
 exact ⟨by kernel_rfl,by kernel_rfl,by kernel_rfl⟩
theorem r9:∀ w:World,(W.fencedOpening treeTable pw0 w 10614).map (fun s=>(s.heap,s.gens,s.drawn,s.toks))=some (W.boot_heap w.params,Array.mk [],W.boot_drawn,W.boot_toks):=W.boot_open rfl rfl fun s=>rfl
theorem left:W.LeftO pw0 qv ["SIGN_ROWS","walked"] (fun s=>W.xlAt qv [] s&&W.recOk (W.RowW.records rv) s) (W.Hook.obs (W.kHook KK KA Z4q)) (W.Hook.val (W.kHook KK KA Z4q)) 10614:=J4L r9 r8 (by decide) r7
theorem ws0:rw0.wellSaid=true:=by
 kernel_rfl
end K52
end
section
namespace P15
open PySem
inductive Lb | non | int (i:Int) | bl (b:Bool) | str (x:Str)
noncomputable def Lb.d:Lb→PyData
 | .non=>.none | .int i=>.int i | .bl b=>.bool b | .str x=>.str x
inductive Fm | number | truth | name | self | nt | iff | two | lt | new | elder | call | field | set
noncomputable def Fm.s:Fm→Str
 | .number=>"number" | .truth=>"truth" | .name=>"name" | .self=>"self" | .nt=>"not" | .iff=>"if" | .two=>"two" | .lt=>"let" | .new=>"new" | .elder=>"elder" | .call=>"call" | .field=>"field" | .set=>"set"
inductive Tm | mk (f:Fm) (l:Lb) (ps:List Tm)
noncomputable def Tm.f:Tm→Fm | .mk f _ _=>f
noncomputable def Tm.l:Tm→Lb | .mk _ l _=>l
noncomputable def Tm.ps:Tm→List Tm | .mk _ _ ps=>ps
noncomputable def Z1B (f:Fm) (l:Lb) (ps:List PyData):List PyData:=match f with
 | .self | .nt | .iff=>.str f.s::ps
 | .new | .elder=>[.str f.s,l.d,.tuple ps]
 | .call=>match ps with
  | p::qs=>[.str f.s,p,l.d,.tuple qs]
  | []=>[]
 | .field | .set=>match ps with
  | p::qs=>.str f.s::p::l.d::qs
  | []=>[]
 | _=>.str f.s::l.d::ps
mutual
noncomputable def Tm.dat:Tm→PyData
 | .mk f l ps=>.tuple (Z1B f l (dats ps))
noncomputable def dats:List Tm→List PyData
 | []=>[]
 | t::ts=>t.dat::dats ts
end
mutual
noncomputable def Tm.depth:Tm→Nat
 | .mk _ _ ps=>1+maxD ps
noncomputable def maxD:List Tm→Nat
 | []=>0
 | t::ts=>max t.depth (maxD ts)
end
mutual
noncomputable def Tm.size:Tm→Nat
 | .mk _ _ ps=>1+sumS ps
noncomputable def sumS:List Tm→Nat
 | []=>0
 | t::ts=>t.size+sumS ts
end
noncomputable def okF:Fm→Lb→Nat→Prop
 | .number,.int _,n=>n=0
 | .truth,.bl _,n=>n=0
 | .name,.str _,n=>n=0
 | .self,.non,n=>n=0
 | .nt,.non,n=>n=1
 | .iff,.non,n=>n=3
 | .two,.str _,n=>n=2
 | .lt,.str _,n=>n=2
 | .new,.str _,_=>True
 | .elder,.str _,_=>True
 | .call,.str _,n=>1≤n
 | .field,.str _,n=>n=1
 | .set,.str _,n=>n=2
 | _,_,_=>False
inductive Ok:Tm→Prop
 | mk {f:Fm} {l:Lb} {ps:List Tm}:okF f l ps.length→(∀ p∈ps,Ok p)→Ok (.mk f l ps)
mutual
noncomputable def Tm.flat:Tm→List Tm
 | .mk f l ps=>.mk f l ps::flatR ps
noncomputable def flatR:List Tm→List Tm
 | []=>[]
 | t::ts=>flatR ts++t.flat
end
theorem Z3V:∀ (xs ys:List Tm),flatR (xs++ys)=flatR ys++flatR xs
 | [],ys=>by show flatR ys=_++[]; rw [List.append_nil]
 | x::xs,ys=>by show flatR (xs++ys)++x.flat=_++(flatR xs++x.flat); rw [Z3V xs ys,List.append_assoc]
inductive Bld:List Tm→List Tm→Prop
 | nil:Bld [] []
 | snoc {w C:List Tm} {t:Tm}:Bld w (C++t.ps)→Bld (w++[t]) (C++[t])
mutual
theorem Bld.flat:∀ (t:Tm) {w B:List Tm},Bld w B→Bld (w++t.flat.reverse) (B++[t])
 | .mk f l ps,w,B,h=>by
  have h':=Bld.flats ps h
  have e:w++(Tm.mk f l ps).flat.reverse=w++(flatR ps).reverse++[Tm.mk f l ps]:=by
   show w++(Tm.mk f l ps::flatR ps).reverse=_
   rw [List.reverse_cons,List.append_assoc]
  rw [e]
  exact .snoc h'
theorem Bld.flats:∀ (ts:List Tm) {w B:List Tm},Bld w B→Bld (w++(flatR ts).reverse) (B++ts)
 | [],w,B,h=>by
  show Bld (w++[]) (B++[])
  rw [List.append_nil,List.append_nil]; exact h
 | t::ts,w,B,h=>by
  have h':=Bld.flats ts (Bld.flat t h)
  show Bld (w++(flatR ts++t.flat).reverse) _
  rw [List.reverse_append,← List.append_assoc]
  rw [List.append_assoc B] at h'
  exact h'
end
theorem Bld.inv {w S:List Tm} {x:Tm} (h:Bld (w++[x]) S):∃ C,S=C++[x]∧Bld w (C++x.ps):=by
 generalize e:w++[x]=u at h
 cases h with
 | nil=>cases w <;> cases e
 | snoc h'=>
  obtain ⟨rfl,e2⟩:=List.append_inj' e rfl
  cases e2
  exact ⟨_,rfl,h'⟩
theorem Bld.nil_inv {S:List Tm} (h:Bld [] S):S=[]:=by
 generalize e:([]:List Tm)=u at h
 cases h with
 | nil=>rfl
 | snoc _=>exact absurd e.symm (by simp)
theorem Z7w {w:List Tm} {n:Nat} (e:w.length=n+1):∃ w' x,w=w'++[x]∧w'.length=n:=
 ⟨w.dropLast,w.getLast (by intro z; rw [z] at e; cases e),(List.dropLast_concat_getLast _).symm,by rw [List.length_dropLast,e]; rfl⟩
theorem Bld.det:∀ {n:Nat} {w S S':List Tm},w.length=n→Bld w S→Bld w S'→S=S'
 | 0,w,S,S',e,h,h'=>by
  cases List.length_eq_zero_iff.mp e
  rw [h.nil_inv,h'.nil_inv]
 | n+1,w,S,S',e,h,h'=>by
  obtain ⟨w,x,rfl,e2⟩:=Z7w e
  obtain ⟨C,rfl,h1⟩:=h.inv
  obtain ⟨C',rfl,h2⟩:=h'.inv
  rw [List.append_cancel_right (Bld.det e2 h1 h2)]
theorem Bld.pre {u:List Tm}:∀ {n:Nat} {v S:List Tm},v.length=n→Bld (u++v) S→∃ S',Bld u S'
 | 0,v,S,e,h=>by
  cases List.length_eq_zero_iff.mp e
  rw [List.append_nil] at h; exact ⟨S,h⟩
 | n+1,v,S,e,h=>by
  obtain ⟨v,x,rfl,e2⟩:=Z7w e
  rw [← List.append_assoc] at h
  obtain ⟨C,_,h'⟩:=h.inv
  exact Bld.pre e2 h'
theorem Bld.next {w S S':List Tm} {i:Nat} {x:Tm} (h:Bld w S) (hi:w[i]?=some x) (h':Bld (w.take i) S'):∃ C,S'=C++x.ps∧Bld (w.take (i+1)) (C++[x]):=by
 have e:w.take (i+1)=w.take i++[x]:=by
  rw [List.take_succ,hi]; rfl
 obtain ⟨S1,h1⟩:=Bld.pre (u:=w.take (i+1)) (v:=w.drop (i+1)) rfl (by rw [List.take_append_drop]; exact h)
 rw [e] at h1 ⊢
 obtain ⟨C,rfl,h2⟩:=h1.inv
 exact ⟨C,Bld.det rfl h' h2,h1⟩
end P15
end
section
namespace L2
open PySem PySem.Spec PyProof.Rows
abbrev Key:=Sum Int Str
def Z9u:Key→Value→Bool
 | .inl k,v=>Value.isInt k v
 | .inr x,v=>Value.isStrOf x v
def keyH (w:World):Key→Int
 | .inl k=>hashInt k
 | .inr x=>hashStr w x
theorem Z1h:∀ {k:Key} {v:Value},Z9u k v=true→(∃ i t,k=Sum.inl i∧v=Value.int i t)∨(∃ x t,k=Sum.inr x∧v=Value.str x t)
 | .inl i,v,h=>by
  obtain ⟨t,e⟩:=Value.isInt_shape (k:=i) (v:=v) h
  exact .inl ⟨i,t,rfl,e⟩
 | .inr x,v,h=>by
  obtain ⟨t,e⟩:=Value.isStrOf_shape (x:=x) (v:=v) h
  exact .inr ⟨x,t,rfl,e⟩
theorem J0r (i:Int) (t:Tok):Z9u (.inl i) (.int i t)=true:=by simp [Z9u,Value.isInt]
theorem J0G (x:Str) (t:Tok):Z9u (.inr x) (.str x t)=true:=by simp [Z9u,Value.isStrOf]
theorem J6E (a b:Int):decide ((Sum.inl a:Key)=Sum.inl b)=(a == b):=by
 by_cases e:a=b
 ·subst e; simp
 ·have h:¬ (Sum.inl a:Key)=Sum.inl b:=fun q=>e (Sum.inl.inj q)
  rw [decide_eq_false h]
  exact (beq_eq_false_iff_ne.mpr e).symm
theorem J6r (a b:Str):decide ((Sum.inr a:Key)=Sum.inr b)=decide (a=b):=by
 by_cases e:a=b
 ·subst e; simp
 ·have h:¬ (Sum.inr a:Key)=Sum.inr b:=fun q=>e (Sum.inr.inj q)
  rw [decide_eq_false h,decide_eq_false e]
theorem J6f (a:Int) (b:Str):decide ((Sum.inl a:Key)=Sum.inr b)=false:=decide_eq_false (fun q=>nomatch q)
theorem J5N (a:Str) (b:Int):decide ((Sum.inr a:Key)=Sum.inl b)=false:=decide_eq_false (fun q=>nomatch q)
def Z0N (prog:Program) (w:World):PySem.KeyKind prog w Key where
 is:=Z9u
 hash:=keyH w
 inj:=fun v a b ha hb=>by
  rcases Z1h ha with ⟨i,t,rfl,rfl⟩ | ⟨x,t,rfl,rfl⟩
  ·rcases Z1h hb with ⟨j,u,rfl,e⟩ | ⟨y,u,rfl,e⟩
   ·injection e with e1 _; rw [e1]
   ·exact nomatch e
  ·rcases Z1h hb with ⟨j,u,rfl,e⟩ | ⟨y,u,rfl,e⟩
   ·exact nomatch e
   ·injection e with e1 _; rw [e1]
 byValue:=fun k v h=>by
  rcases Z1h h with ⟨i,t,rfl,rfl⟩ | ⟨x,t,rfl,rfl⟩ <;> rfl
 pyHash:=fun hv h=>by
  rcases Z1h hv with ⟨i,t,rfl,rfl⟩ | ⟨x,t,rfl,rfl⟩
  ·exact wpAny_pyHash_int h
  ·exact wpAny_pyHash_str h
 eqBool:=fun hu hv h=>by
  rcases Z1h hu with ⟨i,t,rfl,rfl⟩ | ⟨x,t,rfl,rfl⟩
  ·rcases Z1h hv with ⟨j,u,rfl,rfl⟩ | ⟨y,u,rfl,rfl⟩
   ·rw [J6E] at h; exact wpAny_eqBool_int h
   ·rw [J6f] at h; exact SeqAt.EqAt.int_str i t y u _ _ _ _ h
  ·rcases Z1h hv with ⟨j,u,rfl,rfl⟩ | ⟨y,u,rfl,rfl⟩
   ·rw [J5N] at h; exact SeqAt.EqAt.str_int x t j u _ _ _ _ h
   ·rw [J6r] at h; exact wpAny_eqBool_str h
 «strs»:=fun k x t v h=>by
  rcases Z1h h with ⟨i,u,rfl,e⟩ | ⟨y,u,rfl,e⟩
  ·exact nomatch e
  ·injection e with e1 _
   subst e1
   cases v <;> rfl
theorem Z7N (prog:Program) (w:World) (i:Int) (t:Tok):(Z0N prog w).is (.inl i) (.int i t)=true:=J0r i t
theorem Z7E (prog:Program) (w:World) (x:Str) (t:Tok):(Z0N prog w).is (.inr x) (.str x t)=true:=J0G x t
end L2
namespace L2
open PySem PySem.Spec PyProof.Rows
inductive V where
 | non | bl (b:Bool) | int (i:Int) | str (x:Str) | byt (b:Array UInt8) | flt (b:UInt64) | ref (a:Addr) | ty (n:String)
 deriving DecidableEq
def RelV:V→Value→Prop
 | .non,u=>u=Value.none
 | .bl b,u=>u=Value.bool b
 | .int i,u=>∃ t,u=Value.int i t
 | .str x,u=>∃ t,u=Value.str x t
 | .byt b,u=>∃ t,u=Value.bytes b t
 | .flt b,u=>∃ t,u=Value.float b t
 | .ref a,u=>u=Value.ref a
 | .ty n,u=>u=Value.type n
abbrev Vals:List V→List Value→Prop:=Paired RelV
theorem Vals.length {xs:List V} {us:List Value} (r:Vals xs us):xs.length=us.length:=Paired.length r
theorem Vals.get:∀ {xs:List V} {us:List Value} {i:Nat} {x:V},Vals xs us→xs[i]?=some x→∃ u,us[i]?=some u∧RelV x u
 | _,_,_,_,.nil,e=>by simp at e
 | _,_,0,_,.cons r _,e=>by simp at e; subst e; exact ⟨_,rfl,r⟩
 | _,_,i+1,x,.cons _ t,e=>by
  obtain ⟨u,h1,h2⟩:=Vals.get (i:=i) (x:=x) t (by simpa using e)
  exact ⟨u,by simpa using h1,h2⟩
theorem Vals.append:∀ {xs ys:List V} {us ws:List Value},Vals xs us→Vals ys ws→Vals (xs++ys) (us++ws)
 | _,_,_,_,.nil,s=>s
 | _,_,_,_,.cons r t,s=>.cons r (Vals.append t s)
theorem Vals.take:∀ {xs:List V} {us:List Value} (n:Nat),Vals xs us→Vals (xs.take n) (us.take n)
 | _,_,0,_=>.nil
 | _,_,_+1,.nil=>.nil
 | _,_,n+1,.cons r t=>.cons r (Vals.take n t)
theorem Vals.drop:∀ {xs:List V} {us:List Value} (n:Nat),Vals xs us→Vals (xs.drop n) (us.drop n)
 | _,_,0,r=>r
 | _,_,_+1,.nil=>.nil
 | _,_,n+1,.cons _ t=>Vals.drop n t
def RelO:Option V→Option Value→Prop
 | some v,some u=>RelV v u
 | none,none=>True
 | _,_=>False
def KV {κ:Type}:List (κ×V)→List (κ×Value)→Prop:=Paired fun (p:κ×V) (q:κ×Value)=>p.1=q.1∧RelV p.2 q.2
def kV:Key→V
 | .inl i=>.int i
 | .inr x=>.str x
inductive HO where
 | lst (xs:List V)
 | tup (xs:List V)
 | dK (kvs:List (Key×V)) | dT (kvs:List (List Key×V))
 | set (S:Int→Bool) (n:Nat)
 | ins (C dx:Addr) (fs:List (Str×V))
 | own (x:Addr)
 | xd (fs:List (Str×V))
 | met (f x:Addr)
 | rng (lo hi:Int)
 | frz (o:Obj) (u:HO)
 | tbl (ps:Array Value)
 | ext (φ:Heap→Prop)
abbrev Hp:=Addr→Option HO
def upd (H:Hp) (a:Addr) (o:HO):Hp:=fun b=>if b=a then some o else H b
theorem Z0e {H:Hp} {a:Addr} {o:HO}:upd H a o a=some o:=by unfold upd; rw [if_pos rfl]
theorem Z0j {H:Hp} {a b:Addr} {o:HO} (h:b≠a):upd H a o b=H b:=by unfold upd; rw [if_neg h]
theorem J3W {H:Hp} {a b:Addr} {o u:HO} (h:H a=some o) (h':H b=some u) (d:o≠u):a≠b:=by
 intro e; subst e; rw [h] at h'; exact d (Option.some.inj h')
theorem Z0i {H:Hp} {a b:Addr} {o:HO} (h:H a=some o) (h':H b=none):a≠b:=by
 intro e; subst e; rw [h] at h'; cases h'
theorem Z8m {h:Heap} {xs:Array Value} {n:Nat}:∀ o,(h.push { cls:=.type "tuple",data:=.seq xs n }).get? h.objs.size=some o→o.dict=none:=fun o q=>by
 rw [Heap.get?_push_size _ rfl] at q; cases q; rfl
section
variable (P:Program) (w:World)
def ObjOk (H:Hp) (h:Heap) (a:Addr):HO→Prop
 | .lst xs=>xs.length≤sizeLine∧∃ (its:List Value) (n:Nat),Vals xs its∧h.get? a=some { cls:=.type "list",data:=.seq its.toArray n }
 | .tup xs=>(xs.length≤sizeLine∧∀ o,h.get? a=some o→o.dict=none)∧∃ its:List Value,Vals xs its∧IsTup h a its.toArray
 | .dK kvs=>kvs.length≤sizeLine∧(a == sysModules)=false∧∃ vs,KV kvs vs∧h.DictOf (Z0N P w) a vs
 | .dT kvs=>kvs.length≤sizeLine∧(a == sysModules)=false∧∃ xs:List (List Key×Addr×Value),
   Paired (fun (p:List Key×V) (q:List Key×Addr×Value)=>p.1=q.1∧H q.2.1=some (.tup (p.1.map kV))∧RelV p.2 q.2.2) kvs xs ∧
   ∃ o es ep,h.get? a=some o∧o.ExactDict∧o.data=.dict es ep∧es.toList=xs.map (entryOfKey (tupleKind (Z0N P w)))∧(xs.map (·.1)).Nodup
 | .set S n=>h.SetOf (intKind P w) a S n
 | .ins C dx fs=>H dx=some (.own a)∧fs.length≤1000∧dx≠a∧h.get? a=some (W.instObj C dx) ∧
   ∃ mA,h.Ns1 dx mA∧(∀ f,RelO (fs.lookup f) (mA f))∧PySem.Within mA (fs.map (·.1))
 | .own _=>∃ o,h.get? a=some o
 | .xd fs=>∃ mA,h.Ns1 a mA∧∀ f,RelO (fs.lookup f) (mA f)
 | .rng lo hi=>∃ t u v,h.get? a=some { cls:=.type "range",data:=.fields #[.int lo t,.int hi u,.int 1 v] }
 | .frz o u=>h.get? a=some o∧ObjOk H h a u
 | .tbl ps=>h.get? a=some { cls:=.none,data:=.fields ps }
 | .met f x=>h.get? a=some (W.methodObj (.ref f) (.ref x))
 | .ext φ=>φ h∧(∃ o,h.get? a=some o)∧∀ h1 h2:Heap,φ h1→(∀ o,h1.get? a=some o→h2.get? a=some o)→φ h2
def HOk (H:Hp) (h:Heap):Prop:=∀ a o,H a=some o→ObjOk P w H h a o
end
section
variable {P:Program} {w:World} {H H':Hp} {h h':Heap} {a:Addr} {o:HO}
theorem ObjOk.lt (x:ObjOk P w H h a o):a < h.objs.size:=by
 cases o with
 | lst xs=>obtain ⟨_,_,_,_,e⟩:=x; exact Heap.lt_size e
 | tup xs=>obtain ⟨_,_,_,p⟩:=x; exact p.lt
 | dK kvs=>obtain ⟨_,_,_,_,o,_,_,e,_⟩:=x; exact Heap.lt_size e
 | dT kvs=>obtain ⟨_,_,_,_,o,_,_,e,_⟩:=x; exact Heap.lt_size e
 | set S n=>obtain ⟨o,_,_,_,e,_⟩:=x; exact Heap.lt_size e
 | ins C dx fs=>obtain ⟨_,_,_,e,_⟩:=x; exact Heap.lt_size e
 | own y=>obtain ⟨_,e⟩:=x; exact Heap.lt_size e
 | xd fs=>obtain ⟨_,⟨_,_,_,e,_⟩,_⟩:=x; exact Heap.lt_size e
 | rng lo hi=>obtain ⟨_,_,_,e⟩:=x; exact Heap.lt_size e
 | frz ob u=>obtain ⟨e,_⟩:=x; exact Heap.lt_size e
 | tbl ps=>exact Heap.lt_size (show h.get? a=some _ from x)
 | met f y=>exact Heap.lt_size (show h.get? a=some _ from x)
 | ext φ=>obtain ⟨_,⟨_,e⟩,_⟩:=x; exact Heap.lt_size e
theorem Paired.mapP {α β:Type} {F G:α→β→Prop}:∀ {l₁:List α} {l₂:List β},Paired F l₁ l₂→(∀ a b,F a b→G a b)→Paired G l₁ l₂
 | _,_,.nil,_=>.nil
 | _,_,.cons r t,f=>.cons (f _ _ r) (Paired.mapP t f)
theorem ObjOk.stay (x:ObjOk P w H h a o) (k:∀ b u,(b=a∨H b=some (.own a))→h.get? b=some u→h'.get? b=some u)
  (ho:∀ b,H b=some (.own a)→H' b=some (.own a)) (ht:∀ b xs,H b=some (.tup xs)→H' b=some (.tup xs)):ObjOk P w H' h' a o:=by
 induction o with
 | lst xs=>obtain ⟨z,its,n,r,e⟩:=x; exact ⟨z,its,n,r,k _ _ (.inl rfl) e⟩
 | tup xs=>obtain ⟨z,its,r,ob,e,c⟩:=x; exact ⟨⟨z.1,fun o q=>by rw [k _ _ (.inl rfl) e] at q; cases q; exact z.2 _ e⟩,its,r,ob,k _ _ (.inl rfl) e,c⟩
 | dK kvs=>obtain ⟨z,y,vs,r,ob,es,ep,e,c⟩:=x; exact ⟨z,y,vs,r,ob,es,ep,k _ _ (.inl rfl) e,c⟩
 | dT kvs=>
  obtain ⟨z,y,xs,r,ob,es,ep,e,c⟩:=x
  exact ⟨z,y,xs,Paired.mapP r fun p q z=>⟨z.1,ht _ _ z.2.1,z.2.2⟩,ob,es,ep,k _ _ (.inl rfl) e,c⟩
 | set S n=>obtain ⟨ob,es,ep,t,e,c⟩:=x; exact ⟨ob,es,ep,t,k _ _ (.inl rfl) e,c⟩
 | ins C dx fs=>
  obtain ⟨d,z,ne,e,mA,⟨od,es,ep,e2,c⟩,r⟩:=x
  exact ⟨ho _ d,z,ne,k _ _ (.inl rfl) e,mA,⟨od,es,ep,k _ _ (.inr d) e2,c⟩,r⟩
 | own y=>obtain ⟨ob,e⟩:=x; exact ⟨ob,k _ _ (.inl rfl) e⟩
 | xd fs=>obtain ⟨mA,⟨od,es,ep,e,c⟩,r⟩:=x; exact ⟨mA,⟨od,es,ep,k _ _ (.inl rfl) e,c⟩,r⟩
 | rng lo hi=>obtain ⟨t,u,v,e⟩:=x; exact ⟨t,u,v,k _ _ (.inl rfl) e⟩
 | frz ob u ih=>obtain ⟨e,q⟩:=x; exact ⟨k _ _ (.inl rfl) e,ih q⟩
 | tbl ps=>
  have e:h.get? a=some { cls:=.none,data:=.fields ps }:=x
  show h'.get? a=some { cls:=.none,data:=.fields ps }
  exact k a _ (.inl rfl) e
 | met f y=>
  have e:h.get? a=some (W.methodObj (.ref f) (.ref y)):=x
  show h'.get? a=some (W.methodObj (.ref f) (.ref y))
  exact k a _ (.inl rfl) e
 | ext φ=>obtain ⟨p,⟨o,e⟩,st⟩:=x; exact ⟨st _ _ p fun o q=>k _ _ (.inl rfl) q,⟨o,k _ _ (.inl rfl) e⟩,st⟩
theorem HOk.lt (x:HOk P w H h) (e:H a=some o):a < h.objs.size:=(x a o e).lt
theorem HOk.fresh (x:HOk P w H h) (e:h.objs.size≤a):H a=none:=by
 cases q:H a with
 | none=>rfl
 | some u=>exact absurd (Nat.lt_of_lt_of_le (x.lt q) e) (Nat.lt_irrefl _)
theorem HOk.kept (x:HOk P w H h) (k:∀ b u,h.get? b=some u→h'.get? b=some u):HOk P w H h':=fun a o e=>
 (x a o e).stay (fun b u _ q=>k b u q) (fun _ q=>q) fun _ _ q=>q
theorem HOk.laid (x:HOk P w H h) (k:∀ b u,h.get? b=some u→h'.get? b=some u) (hp:h.objs.size≤a) (new:ObjOk P w (upd H a o) h' a o):HOk P w (upd H a o) h':=fun b u e=>by
 have hn:=x.fresh hp
 by_cases hb:b=a
 ·subst hb; rw [Z0e] at e; cases e; exact new
 ·rw [Z0j hb] at e
  exact (x b u e).stay (fun c v _ q=>k c v q) (fun c q=>by rw [Z0j (Z0i q hn)]; exact q) fun c xs q=>by rw [Z0j (Z0i q hn)]; exact q
end
def Rd (H:Hp) (a:Addr) (u:HO):Prop:=H a=some u∨∃ o,H a=some (.frz o u)
theorem Rd.ok {P:Program} {w:World} {H:Hp} {h:Heap} {a:Addr} {u:HO} (r:Rd H a u) (x:HOk P w H h):ObjOk P w H h a u:=by
 rcases r with r | ⟨o,r⟩
 ·exact x a u r
 ·obtain ⟨_,q⟩:=x a _ r
  exact q
def Mut:Option HO→Prop
 | some (.lst _)=>True
 | some (.dK _)=>True
 | some (.dT _)=>True
 | some (.set _ _)=>True
 | some (.ins _ _ _)=>True
 | some (.ext _)=>True
 | _=>False
section
variable {P:Program} {w:World} {H:Hp} {h h':Heap} {x e:Addr} {o':HO}
theorem HOk.write (ok:HOk P w H h) (mu:Mut (H x)) (he:e=x∨H e=some (.own x)) (k:∀ b u,b≠e→h.get? b=some u→h'.get? b=some u) (heo:∃ u,h'.get? e=some u)
  (new:ObjOk P w (upd H x o') h' x o'):HOk P w (upd H x o') h':=fun b u q=>by
 have nown:∀ c y,H c=some (.own y)→c≠x:=fun c y r z=>by subst z; rw [r] at mu; exact mu
 have ntup:∀ c xs,H c=some (.tup xs)→c≠x:=fun c xs r z=>by subst z; rw [r] at mu; exact mu
 by_cases hb:b=x
 ·subst hb; rw [Z0e] at q; cases q; exact new
 ·rw [Z0j hb] at q
  by_cases hbe:b=e
  ·have q':H b=some (.own x):=by
    rcases he with z | z
    ·exact absurd (hbe.trans z) hb
    ·rw [hbe]; exact z
   rw [q] at q'; cases q'
   obtain ⟨v,hv⟩:=heo
   exact ⟨v,by rw [hbe]; exact hv⟩
  ·refine (ok b u q).stay (fun c v hc r=>k c v ?_ r) (fun c r=>by rw [Z0j (nown c b r)]; exact r) fun c xs r=>by rw [Z0j (ntup c xs r)]; exact r
   rcases hc with rfl | hc
   ·exact hbe
   ·rintro rfl
    rcases he with z | z
    ·exact nown c b hc z
    ·rw [hc] at z; cases z; exact hb rfl
end
structure Un (fs ex:List Addr) (H H':Hp) (h h':Heap):Prop where
 keep:∀ b o,h.get? b=some o→H b=none→b∉fs→b∉ex→h'.get? b=some o
 slot:∀ b o,h.get? b=some o→H b=none→b∈fs→b∉ex→∃ sl,h'.get? b=some { o with slots:=sl }
 free:∀ b o,h.get? b=some o→H b=none→b∉ex→H' b=none
 there:∀ b o,h.get? b=some o→b∉ex→∃ o',h'.get? b=some o'
 tups:∀ b xs,H b=some (.tup xs)→H' b=some (.tup xs)
 frzs:∀ b o u,H b=some (.frz o u)→H' b=some (.frz o u)
 tbls:∀ b ps,H b=some (.tbl ps)→∃ more,H' b=some (.tbl (ps++more))
section
variable {fs fs' ex ex':List Addr} {H H1 H2:Hp} {h h1 h2 h':Heap} {a x e:Addr} {o:HO}
theorem Un.any (u:Un fs ex H H1 h h1) {b:Addr} {ob:Obj} (q:h.get? b=some ob) (n:H b=none) (hx:b∉ex):∃ sl,h1.get? b=some { ob with slots:=sl }:=by
 by_cases hb:b∈fs
 ·exact u.slot b ob q n hb hx
 ·exact ⟨ob.slots,u.keep b ob q n hb hx⟩
theorem Un.kept (k:∀ b u,h.get? b=some u→h'.get? b=some u):Un fs ex H H h h':=
 ⟨fun b ob q _ _ _=>k b ob q,fun b ob q _ _ _=>⟨ob.slots,k b ob q⟩,fun _ _ _ n _=>n,fun b ob q _=>⟨ob,k b ob q⟩,fun _ _ q=>q,fun _ _ _ q=>q,fun _ ps q=>⟨#[],by rw [q]; simp⟩⟩
theorem Un.refl:Un fs ex H H h h:=Un.kept fun _ _ q=>q
theorem Un.laid (k:∀ b u,h.get? b=some u→h'.get? b=some u) (hp:h.objs.size≤a) (hn:H a=none):Un fs ex H (upd H a o) h h' where
 keep:=fun b u q _ _ _=>k b u q
 slot:=fun b u q _ _ _=>⟨u.slots,k b u q⟩
 free:=fun b u q n _=>by rw [Z0j (Nat.ne_of_lt (Nat.lt_of_lt_of_le (Heap.lt_size q) hp))]; exact n
 there:=fun b u q _=>⟨u,k b u q⟩
 tups:=fun b xs q=>by rw [Z0j (Z0i q hn)]; exact q
 frzs:=fun b u xs q=>by rw [Z0j (Z0i q hn)]; exact q
 tbls:=fun b ps q=>⟨#[],by rw [Z0j (Z0i q hn),q]; simp⟩
theorem Un.write (mu:Mut (H x)) (he:e=x∨H e=some (.own x)) (k:∀ b u,b≠e→h.get? b=some u→h'.get? b=some u) (heo:∃ u,h'.get? e=some u):Un fs ex H (upd H x o) h h':=by
 have hx:∀ b,H b=none→b≠x:=fun b n z=>by subst z; rw [n] at mu; exact mu
 have hb:∀ b,H b=none→b≠e:=fun b n z=>by
  subst z
  rcases he with r | r
  ·exact hx b n r
  ·rw [n] at r; cases r
 have hm:∀ b u,H b=some u→¬ Mut (some u)→b≠x:=fun b u q nm z=>by subst z; rw [q] at mu; exact nm mu
 refine ⟨fun b u q n _ _=>k b u (hb b n) q,fun b u q n _ _=>⟨u.slots,k b u (hb b n) q⟩,fun b u q n _=>by rw [Z0j (hx b n)]; exact n,fun b u q _=>?_,
  fun b xs q=>by rw [Z0j (hm b _ q fun z=>z)]; exact q,fun b u xs q=>by rw [Z0j (hm b _ q fun z=>z)]; exact q,fun b ps q=>⟨#[],by rw [Z0j (hm b _ q fun z=>z),q]; simp⟩⟩
 by_cases hbe:b=e
 ·subst hbe; exact heo
 ·exact ⟨u,k b u hbe q⟩
end
def trk (h:Heap) (H:Hp):List Addr:=(List.range h.objs.size).filter fun a=>(H a).isSome
def hidT (h:Heap) (H:Hp):Heap:=W.hideAll h (trk h H)
theorem Z9O (h:Heap) (H:Hp):(hidT h H).objs.size=h.objs.size:=W.hideAll_size _ _
theorem J2o {h:Heap} {H:Hp} {b:Addr} {o:Obj} (e:h.get? b=some o) (n:H b=none):(hidT h H).get? b=some o:=
 W.hideAll_get _ e fun hm=>by
  have q:(H b).isSome=true:=(List.mem_filter.mp hm).2
  rw [n] at q; simp at q
theorem J4s {h:Heap} {H:Hp} {b:Addr} {o:Obj} (e:(hidT h H).get? b=some o):h.get? b=some o∧H b=none:=by
 have e':h.get? b=some o:=W.of_hideAll (trk h H) e
 refine ⟨e',?_⟩
 cases q:H b with
 | none=>rfl
 | some x=>
  have hm:b∈trk h H:=List.mem_filter.mpr ⟨List.mem_range.mpr (Heap.lt_size e'),by simp [q]⟩
  have z:(hidT h H).get? b=none:=W.hideAll_none (trk h H) hm
  rw [z] at e; cases e
def J4S (g h:Heap) (L:Addr):List (Addr×Obj):=(List.range h.objs.size).filterMap fun a=>if a=L∨(g.get? a).isSome=true then none else (h.get? a).map fun o=>(a,o)
def rest (g h:Heap) (L d:Addr):List (Addr×Obj):=(J4S g h L).filter fun p=>decide (p.1≠d)
end L2
namespace L2
open PySem PySem.Spec PyProof.Rows
structure Mod (K:W.Frag) (mg:Str→Option Value) (base:Heap):Prop where
 kin:K.In base
 glob:base.Ns mainGlobals mg
 blt:∃ mb,base.Ns builtinsNs mb∧∀ x:Str,x≠"__name__"→mb x=bootBuiltins x
 nolimit:base.NoLimit
structure Cx where
 prog:Program
 w:World
 K:W.Frag
 mg:Str→Option Value
 base:Heap
 A:Around
 N:List Str
 s₀:Shared
 H₀:Hp
 env:Env
 outer:List Env
 stack:List Env
 ex:List Addr
 fn:Str→Bool
 calm:Bool
 pn:List (Addr×Obj)
 xe:Value→Shared→Prop
def frs (l:List Env):List Addr:=l.filterMap (·.frame)
abbrev Cx.fs (X:Cx):List Addr:=frs X.outer
def Vis (sc:Scope) (x:Str):Prop:=sc.names.lookup x=some .local∨sc.names.lookup x=some .cell∨sc.names.lookup x=some .free
def Loc (sc:Scope) (x:Str):Prop:=sc.names.lookup x=some .local∨sc.names.lookup x=some .cell
def Look (env:Env) (h:Heap) (m:Str→Option Value) (x:Str) (u:Value):Prop:=
 (env.kindOf x=some .local∧m x=some u)∨((env.kindOf x=some .cell∨env.kindOf x=some .free)∧∃ c,env.cells.lookup x=some c∧h.IsCell c (some u))
structure Cx.Ok (X:Cx):Prop where
 mod:Mod X.K X.mg X.base
 kind:X.env.scope.kind=.function
 glob:X.env.globals=mainGlobals
 blt:X.env.builtins=builtinsNs
 above:X.s₀.heap.objs.size≤X.env.locals
 inj:∀ x y c,X.env.cells.lookup x=some c→X.env.cells.lookup y=some c→x=y
 has:∀ x,(X.env.kindOf x=some .cell∨X.env.kindOf x=some .free)→∃ c,X.env.cells.lookup x=some c
 cab:∀ x c,X.fn x=true→X.env.cells.lookup x=some c→X.s₀.heap.objs.size≤c
 hd:X.calm=true→X.A.handled=none
 frames:X.A.frames=some X.stack
 stk:X.stack=X.outer∨(X.stack=X.env::X.outer∧X.env.frame=some X.env.locals)
 exf:∀ b∈X.ex,b≠X.env.locals∧∀ x c,X.env.cells.lookup x=some c→c≠b
 bs:∀ b o,X.base.get? b=some o→X.s₀.heap.get? b=some o∧X.H₀ b=none
 bsz:X.base.objs.size≤X.s₀.heap.objs.size
 noex:∀ b o,X.base.get? b=some o→b∉X.ex
 exfs:∀ b∈X.ex,b∉X.fs
 funs:X.s₀.heap.FunFrames X.base X.outer
 frf:∀ b∈X.fs,X.H₀ b=none
structure Inv (X:Cx) (pins:List (Addr×Obj)) (σ:List (Option V)) (H:Hp) (s:Shared):Prop where
 ok:X.Ok
 os:s.os=X.s₀.os
 bare:AllBare s.gens
 base:Un X.fs X.ex X.H₀ H X.s₀.heap s.heap
 loc:∃ m,s.heap.Ns X.env.locals m∧∀ (i:Nat) (x:Str) (v:V),X.N[i]?=some x→σ[i]?=some (some v)→Vis X.env.scope x→∃ u,RelV v u∧Look X.env s.heap m x u
 cell:∀ x c,X.env.cells.lookup x=some c→∃ v,s.heap.IsCell c v
 free:H X.env.locals=none
 freeC:∀ x c,X.env.cells.lookup x=some c→H c=none
 pin:∀ p∈X.pn++pins,s.heap.get? p.1=some p.2∧H p.1=none∧p.1≠X.env.locals∧p.1∉X.fs∧∀ v,p.2.data≠.cell v
 hok:HOk X.prog X.w H s.heap
 len:σ.length=X.N.length
section
variable {X:Cx} {pins:List (Addr×Obj)} {σ:List (Option V)} {H H':Hp} {s:Shared} {h':Heap}
theorem Cx.Ok.nofr (ok:X.Ok) {b:Addr} {o:Obj} (e:X.base.get? b=some o):b∉X.fs:=fun hb=>by
 have:=(ok.funs.mem hb).1
 rw [e] at this; cases this
theorem Inv.bs (I:Inv X pins σ H s):∀ b o,X.base.get? b=some o→s.heap.get? b=some o∧H b=none:=fun b o e=>
 ⟨I.base.keep b o (I.ok.bs b o e).1 (I.ok.bs b o e).2 (I.ok.nofr e) (I.ok.noex b o e),I.base.free b o (I.ok.bs b o e).1 (I.ok.bs b o e).2 (I.ok.noex b o e)⟩
theorem Inv.bk (I:Inv X pins σ H s):∀ b o,X.base.get? b=some o→s.heap.get? b=some o:=fun b o e=>(I.bs b o e).1
theorem Inv.mod (I:Inv X pins σ H s):Mod X.K X.mg X.base:=I.ok.mod
theorem Inv.kIn (I:Inv X pins σ H s):X.K.In s.heap:=I.ok.mod.kin.keeps I.bk
theorem Inv.lt (I:Inv X pins σ H s):X.env.locals < s.heap.objs.size:=let ⟨_,hn,_⟩:=I.loc; hn.lt
theorem Inv.sz (I:Inv X pins σ H s):X.s₀.heap.objs.size≤s.heap.objs.size:=Nat.le_trans I.ok.above (Nat.le_of_lt I.lt)
theorem Inv.nofs (I:Inv X pins σ H s) {a:Addr} (h:s.heap.objs.size≤a):a∉X.fs:=fun hb=>by
 obtain ⟨_,o,ho,_⟩:=I.ok.funs.mem hb
 exact absurd (Nat.lt_of_lt_of_le (Heap.lt_size ho) (Nat.le_trans I.sz h)) (Nat.lt_irrefl _)
theorem Inv.cne (I:Inv X pins σ H s):∀ x c,X.env.cells.lookup x=some c→c≠X.env.locals:=fun x c e z=>by
 obtain ⟨v,o,ho,hd⟩:=I.cell x c e
 obtain ⟨m,⟨o',es,ep,ho',hd',_⟩,_⟩:=I.loc
 rw [z,ho'] at ho; cases ho; rw [hd'] at hd; cases hd
theorem Inv.funs (I:Inv X pins σ H s):s.heap.FunFrames X.base X.outer:=by
 have all:∀ (l:List Env),(∀ b∈frs l,b∈X.fs)→X.s₀.heap.FunFrames X.base l→s.heap.FunFrames X.base l:=by
  intro l
  induction l with
  | nil=>intro _ _; trivial
  | cons env r ih=>
   intro hs hl
   obtain ⟨hk,⟨L,o,hf,hn,ho,hd⟩,hr⟩:=hl
   have hL:L∈X.fs:=hs L (by unfold frs; rw [List.filterMap_cons,hf]; exact List.mem_cons_self)
   obtain ⟨sl,e⟩:=I.base.slot L o ho (I.ok.frf L hL) hL fun z=>I.ok.exfs L z hL
   exact ⟨hk,⟨L,_,hf,hn,e,hd⟩,ih (fun b hb=>hs b (by unfold frs; rw [List.filterMap_cons,hf]; exact List.mem_cons_of_mem _ hb)) hr⟩
 exact all X.outer (fun _ hb=>hb) I.ok.funs
theorem Inv.stack (I:Inv X pins σ H s):s.heap.FunFrames X.base X.stack:=by
 rcases I.ok.stk with e | ⟨e,hf⟩
 ·rw [e]; exact I.funs
 ·rw [e]
  obtain ⟨m,hn,_⟩:=I.loc
  refine .cons (by rw [I.ok.kind]; decide) hf hn ?_ I.funs
  exact Heap.get?_none_of_le (Nat.le_trans I.ok.bsz I.ok.above)
theorem Inv.stkSub (I:Inv X pins σ H s):∀ b∈frs X.stack,b∈X.env.locals::X.fs:=fun b hb=>by
 rcases I.ok.stk with e | ⟨e,hf⟩
 ·rw [e] at hb; exact List.mem_cons_of_mem _ hb
 ·rw [e] at hb
  unfold frs at hb
  rw [List.filterMap_cons,hf] at hb
  exact hb
theorem Inv.stkFree (I:Inv X pins σ H s):∀ b∈frs X.stack,H b=none:=fun b hb=>by
 rcases List.mem_cons.mp (I.stkSub b hb) with e | hb
 ·rw [e]; exact I.free
 ·obtain ⟨_,o,ho,_⟩:=I.ok.funs.mem hb
  exact I.base.free b o ho (I.ok.frf b hb) fun z=>I.ok.exfs b z hb
theorem Inv.step {g':Array GenState} {t':Nat} {d':Drawn} {ch:List Addr} (I:Inv X pins σ H s)
  (hch:∀ b∈ch,(b∈X.ex∨X.s₀.heap.objs.size≤b)∧b≠X.env.locals∧(∀ x c,X.env.cells.lookup x=some c→c≠b)∧∀ p∈X.pn++pins,p.1≠b)
  (keep:∀ b o,b≠X.env.locals→b∉X.fs→b∉ch→s.heap.get? b=some o→H b=none→h'.get? b=some o)
  (slot:∀ b o,b≠X.env.locals→b∈X.fs→b∉ch→s.heap.get? b=some o→H b=none→∃ sl,h'.get? b=some { o with slots:=sl }) (free:∀ b o,b∉ch→s.heap.get? b=some o→H b=none→H' b=none)
  (there:∀ b o,b∉ch→s.heap.get? b=some o→∃ o',h'.get? b=some o')
  (tups:∀ b xs,H b=some (.tup xs)→H' b=some (.tup xs)) (frzs:∀ b o u,H b=some (.frz o u)→H' b=some (.frz o u)) (tbls:∀ b ps,H b=some (.tbl ps)→∃ more,H' b=some (.tbl (ps++more)))
  (ns:∀ m,s.heap.Ns X.env.locals m→h'.Ns X.env.locals m) (hok:HOk X.prog X.w H' h') (hg:AllBare g') :
  Inv X pins σ H' { s with heap:=h',gens:=g',drawn:=d',toks:=t' }:=by
 have neL:∀ b o,X.s₀.heap.get? b=some o→b≠X.env.locals:=fun b o e=>Nat.ne_of_lt (Nat.lt_of_lt_of_le (Heap.lt_size e) I.ok.above)
 have neC:∀ b o,X.s₀.heap.get? b=some o→b∉X.ex→b∉ch:=fun b o e hx hb=>by
  rcases (hch b hb).1 with z | z
  ·exact hx z
  ·exact absurd (Nat.lt_of_lt_of_le (Heap.lt_size e) z) (Nat.lt_irrefl _)
 have cellK:∀ x c,X.env.cells.lookup x=some c→∀ v,s.heap.IsCell c v→h'.IsCell c v:=fun x c e v ⟨o,ho,hd⟩=>by
  have nch:c∉ch:=fun z=>(hch c z).2.2.1 x c e rfl
  by_cases hc:c∈X.fs
  ·obtain ⟨sl,q⟩:=slot c o (I.cne x c e) hc nch ho (I.freeC x c e)
   exact ⟨_,q,hd⟩
  ·exact ⟨o,keep c o (I.cne x c e) hc nch ho (I.freeC x c e),hd⟩
 refine ⟨I.ok,I.os,hg,⟨fun b o e n hb hx=>?_,fun b o e n hb hx=>?_,fun b o e n hx=>?_,fun b o e hx=>?_,fun b xs e=>tups b xs (I.base.tups b xs e),fun b o xs e=>frzs b o xs (I.base.frzs b o xs e),fun b ps e=>?_⟩,?_,fun x c e=>?_,?_,fun x c e=>?_,fun p hp=>?_,hok,I.len⟩
 ·exact keep b o (neL b o e) hb (neC b o e hx) (I.base.keep b o e n hb hx) (I.base.free b o e n hx)
 ·obtain ⟨sl,e1⟩:=I.base.slot b o e n hb hx
  obtain ⟨sl',e2⟩:=slot b _ (neL b o e) hb (neC b o e hx) e1 (I.base.free b o e n hx)
  exact ⟨sl',e2⟩
 ·obtain ⟨o',e1⟩:=I.base.there b o e hx
  exact free b o' (neC b o e hx) e1 (I.base.free b o e n hx)
 ·obtain ⟨o',e1⟩:=I.base.there b o e hx
  exact there b o' (neC b o e hx) e1
 ·obtain ⟨m1,e1⟩:=I.base.tbls b ps e
  obtain ⟨m2,e2⟩:=tbls b _ e1
  exact ⟨m1++m2,by rw [e2,Array.append_assoc]⟩
 ·obtain ⟨m,hn,hl⟩:=I.loc
  refine ⟨m,ns m hn,fun i x v e1 e2 e3=>?_⟩
  obtain ⟨u,r,l⟩:=hl i x v e1 e2 e3
  refine ⟨u,r,?_⟩
  rcases l with l | ⟨k,c,e,z⟩
  ·exact .inl l
  ·exact .inr ⟨k,c,e,cellK x c e _ z⟩
 ·obtain ⟨v,z⟩:=I.cell x c e
  exact ⟨v,cellK x c e v z⟩
 ·obtain ⟨m,⟨o,_,_,ho,_⟩,_⟩:=I.loc
  exact free _ o (fun z=>(hch _ z).2.1 rfl) ho I.free
 ·obtain ⟨v,o,ho,hd⟩:=I.cell x c e
  exact free c o (fun z=>(hch c z).2.2.1 x c e rfl) ho (I.freeC x c e)
 ·obtain ⟨e,n,ne,nf,d⟩:=I.pin p hp
  have nch:p.1∉ch:=fun z=>(hch p.1 z).2.2.2 p hp rfl
  exact ⟨keep p.1 p.2 ne nf nch e n,free p.1 p.2 nch e n,ne,nf,d⟩
theorem Inv.un {t':Nat} (I:Inv X pins σ H s) (u:Un X.fs [] H H' s.heap h') (hok:HOk X.prog X.w H' h'):Inv X pins σ H' { s with heap:=h',toks:=t' }:=by
 obtain ⟨m,⟨o,es,ep,ho,r⟩,_⟩:=id I.loc
 obtain ⟨sl,hL⟩:=u.any ho I.free (by simp)
 exact I.step (g':=s.gens) (d':=s.drawn) (ch:=[]) (fun _ z=>nomatch z) (fun b o _ hb _ e n=>u.keep b o e n hb (by simp)) (fun b o _ hb _ e n=>u.slot b o e n hb (by simp)) (fun b o _ e n=>u.free b o e n (by simp)) (fun b o _ e=>u.there b o e (by simp)) u.tups u.frzs u.tbls (fun m' hm=>by
  obtain ⟨o',es',ep',ho',r'⟩:=hm
  rw [ho] at ho'; cases ho'
  exact ⟨_,es',ep',hL,r'⟩) hok I.bare
theorem Inv.call {g':Array GenState} {t':Nat} {d':Drawn} {ch:List Addr} (I:Inv X pins σ H s) (u:Un (frs X.stack) ch H H' s.heap h') (hok:HOk X.prog X.w H' h') (hg:AllBare g')
  (hch:∀ b∈ch,(b∈X.ex∨X.s₀.heap.objs.size≤b)∧b≠X.env.locals∧(∀ x c,X.env.cells.lookup x=some c→c≠b)∧∀ p∈X.pn++pins,p.1≠b) :
  Inv X pins σ H' { s with heap:=h',gens:=g',drawn:=d',toks:=t' }:=by
 obtain ⟨m,⟨o,es,ep,ho,r⟩,_⟩:=id I.loc
 obtain ⟨sl,hL⟩:=u.any ho I.free fun z=>(hch _ z).2.1 rfl
 exact I.step (ch:=ch) hch (fun b o hL hb hc e n=>u.keep b o e n (fun z=>(List.mem_cons.mp (I.stkSub b z)).elim hL hb) hc) (fun b o _ _ hc e n=>u.any e n hc) (fun b o hc e n=>u.free b o e n hc) (fun b o hc e=>u.there b o e hc) u.tups u.frzs u.tbls (fun m' hm=>by
  obtain ⟨o',es',ep',ho',r'⟩:=hm
  rw [ho] at ho'; cases ho'
  exact ⟨_,es',ep',hL,r'⟩) hok hg
theorem Inv.turned {t':Nat} {it:Addr} (I:Inv X pins σ H s) (k:∀ b o,b≠it→s.heap.get? b=some o→h'.get? b=some o) (hn:H it=none) (hL:it≠X.env.locals)
  (h1:it∈X.ex∨X.s₀.heap.objs.size≤it) (h2:∀ x c,X.env.cells.lookup x=some c→c≠it) (h3:∀ p∈X.pn++pins,p.1≠it):Inv X pins σ H { s with heap:=h',toks:=t' }:=by
 have nit:∀ b u,H b=some u→b≠it:=fun b u e z=>by rw [z,hn] at e; cases e
 refine I.step (g':=s.gens) (d':=s.drawn) (ch:=[it]) (fun b hb=>?_) (fun b o _ _ hc e _=>k b o (fun z=>hc (by simp [z])) e) (fun b o _ _ hc e _=>⟨o.slots,k b o (fun z=>hc (by simp [z])) e⟩) (fun _ _ _ _ n=>n)
  (fun b o hc e=>⟨o,k b o (fun z=>hc (by simp [z])) e⟩) (fun _ _ e=>e) (fun _ _ _ e=>e) (fun b ps e=>⟨#[],by rw [e]; simp⟩) (fun m hm=>?_) (fun b u e=>?_) I.bare
 ·have e:b=it:=by simpa using hb
  subst e
  exact ⟨h1,hL,h2,h3⟩
 ·obtain ⟨o,es,ep,ho,r⟩:=hm
  exact ⟨o,es,ep,k _ o (Ne.symm hL) ho,r⟩
 ·refine (I.hok b u e).stay (fun c v hc q=>k c v ?_ q) (fun _ q=>q) fun _ _ q=>q
  rcases hc with z | z
  ·rw [z]; exact nit b u e
  ·exact nit c _ z
theorem Inv.tok (I:Inv X pins σ H s) (t:Nat):Inv X pins σ H { s with toks:=t }:=I.un (h':=s.heap) (t':=t) Un.refl I.hok
theorem Inv.kept {t':Nat} (I:Inv X pins σ H s) (k:∀ b u,s.heap.get? b=some u→h'.get? b=some u):Inv X pins σ H { s with heap:=h',toks:=t' }:=I.un (Un.kept k) (I.hok.kept k)
theorem Inv.laid {a:Addr} {o:HO} {t':Nat} (I:Inv X pins σ H s) (k:∀ b u,s.heap.get? b=some u→h'.get? b=some u) (hp:s.heap.objs.size≤a) (new:ObjOk X.prog X.w (upd H a o) h' a o) :
  Inv X pins σ (upd H a o) { s with heap:=h',toks:=t' }:=I.un (Un.laid k hp (I.hok.fresh hp)) (I.hok.laid k hp new)
theorem Inv.write {x e:Addr} {o:HO} {t':Nat} (I:Inv X pins σ H s) (mu:Mut (H x)) (he:e=x∨H e=some (.own x)) (k:∀ b u,b≠e→s.heap.get? b=some u→h'.get? b=some u) (heo:∃ u,h'.get? e=some u)
  (new:ObjOk X.prog X.w (upd H x o) h' x o):Inv X pins σ (upd H x o) { s with heap:=h',toks:=t' }:=I.un (Un.write mu he k heo) (I.hok.write mu he k heo new)
theorem Inv.pins_of {pins':List (Addr×Obj)} (I:Inv X pins σ H s) (h:∀ p∈pins',s.heap.get? p.1=some p.2∧H p.1=none∧p.1≠X.env.locals∧p.1∉X.fs∧∀ v,p.2.data≠.cell v):Inv X pins' σ H s:=
 ⟨I.ok,I.os,I.bare,I.base,I.loc,I.cell,I.free,I.freeC,fun p hp=>(List.mem_append.mp hp).elim (fun z=>I.pin p (List.mem_append_left _ z)) (h p),I.hok,I.len⟩
theorem Z7Q {N:List Str} (hN:N.Nodup) {i j:Nat} {x:Str} (a:N[i]?=some x) (b:N[j]?=some x):i=j:=by
 obtain ⟨h1,e1⟩:=List.getElem?_eq_some_iff.mp a
 obtain ⟨h2,e2⟩:=List.getElem?_eq_some_iff.mp b
 exact (List.getElem_inj hN).mp (e1.trans e2.symm)
theorem Z4L {M:Model} {A:Around} {E:Value→Shared→Prop} {i:Nat} {x:Str} {v:V} {u:Value} {Q:Unit→Shared→Prop} (I:Inv X pins σ H s) (hN:X.N.Nodup) (hi:X.N[i]?=some x) (hx:Loc X.env.scope x) (r:RelV v u)
  (h:∀ s',Inv X pins (σ.set i (some v)) H s'→(∃ a,Heap.SameBut a s.heap s'.heap∧(a=X.env.locals∨X.env.cells.lookup x=some a))→Q () s') (hf:X.fn x=true∨X.env.scope.names.lookup x=some .local:=by first | exact .inl rfl | exact .inr rfl | assumption):wpAny M A (storeName X.env x u) Q E s:=by
 obtain ⟨m,hn,hl⟩:=id I.loc
 have hcls:(X.env.scope.kind == .class || (X.env.scope.kind == .module&&X.env.locals != X.env.globals))=false:=by rw [I.ok.kind]; rfl
 have hiσ:i < σ.length:=by rw [I.len]; exact (List.getElem?_eq_some_iff.mp hi).1
 have cne:=I.cne
 have tracked:∀ {a:Addr} {h':Heap},(∃ o,s.heap.get? a=some o∧H a=none)→Heap.SameBut a s.heap h'→HOk X.prog X.w H h':=fun {a h'} ha hs b ob e=>by
  obtain ⟨_,_,hfree⟩:=ha
  refine (I.hok b ob e).stay (fun c w' hc q=>(hs.2 c ?_).trans q) (fun _ q=>q) fun _ _ q=>q
  rintro rfl
  rcases hc with rfl | hc
  ·rw [hfree] at e; cases e
  ·rw [hfree] at hc; cases hc
 rcases hx with hk | hk
 ·refine wpAny_storeName_local hk hn (fun h' hn' hs=>?_) hcls
  obtain ⟨oL,_,_,hoL,_⟩:=id hn
  refine h _ ⟨I.ok,I.os,I.bare,⟨fun b o e n hb hx=>?_,fun b o e n hb hx=>?_,I.base.free,fun b o e hx=>?_,I.base.tups,I.base.frzs,I.base.tbls⟩,⟨_,hn',fun j y v' e1 e2 e3=>?_⟩,fun y c e=>?_,I.free,I.freeC,fun p hp=>?_,tracked ⟨oL,hoL,I.free⟩ hs,by simpa using I.len⟩ ⟨_,hs,.inl rfl⟩
  ·exact (hs.2 b (Nat.ne_of_lt (Nat.lt_of_lt_of_le (Heap.lt_size e) I.ok.above))).trans (I.base.keep b o e n hb hx)
  ·obtain ⟨sl,e1⟩:=I.base.slot b o e n hb hx
   exact ⟨sl,(hs.2 b (Nat.ne_of_lt (Nat.lt_of_lt_of_le (Heap.lt_size e) I.ok.above))).trans e1⟩
  ·obtain ⟨o',e1⟩:=I.base.there b o e hx
   exact ⟨o',(hs.2 b (Nat.ne_of_lt (Nat.lt_of_lt_of_le (Heap.lt_size e) I.ok.above))).trans e1⟩
  ·by_cases hj:j=i
   ·subst hj
    rw [hi] at e1; cases e1
    rw [List.getElem?_set_self hiσ] at e2
    cases e2
    exact ⟨u,r,.inl ⟨hk,by simp⟩⟩
   ·rw [List.getElem?_set_ne (Ne.symm hj)] at e2
    obtain ⟨u',r',q⟩:=hl j y v' e1 e2 e3
    refine ⟨u',r',?_⟩
    rcases q with ⟨k,e⟩ | ⟨k,c,e,z⟩
    ·refine .inl ⟨k,?_⟩
     have:y≠x:=fun e=>hj (Z7Q hN e1 (e▸hi))
     simp [this,e]
    ·exact .inr ⟨k,c,e,z.sameBut hs (cne y c e)⟩
  ·obtain ⟨w',z⟩:=I.cell y c e
   exact ⟨w',z.sameBut hs (cne y c e)⟩
  ·obtain ⟨e,n,ne,nf,d⟩:=I.pin p hp
   exact ⟨(hs.2 p.1 ne).trans e,n,ne,nf,d⟩
 ·have hfn:X.fn x=true:=by
   rcases hf with z | z
   ·exact z
   ·rw [z] at hk; cases hk
  obtain ⟨c,hc⟩:=I.ok.has x (.inl hk)
  obtain ⟨w',z⟩:=I.cell x c hc
  refine wpAny_storeName_cell I.ok.kind hk hc z (fun h' hc' hs=>?_)
  obtain ⟨oc,hoc,hocd⟩:=id z
  refine h { s with heap:=h' } ⟨I.ok,I.os,I.bare,⟨fun b o e n hb hx=>?_,fun b o e n hb hx=>?_,I.base.free,fun b o e hx=>?_,I.base.tups,I.base.frzs,I.base.tbls⟩,⟨m,hn.sameBut hs (Ne.symm (cne x c hc)),fun j y v' e1 e2 e3=>?_⟩,fun y c' e=>?_,I.free,I.freeC,fun p hp=>?_,tracked ⟨oc,hoc,I.freeC x c hc⟩ hs,by simpa using I.len⟩ ⟨c,hs,.inr hc⟩
  ·exact (hs.2 b (Nat.ne_of_lt (Nat.lt_of_lt_of_le (Heap.lt_size e) (I.ok.cab x c hfn hc)))).trans (I.base.keep b o e n hb hx)
  ·obtain ⟨sl,e1⟩:=I.base.slot b o e n hb hx
   exact ⟨sl,(hs.2 b (Nat.ne_of_lt (Nat.lt_of_lt_of_le (Heap.lt_size e) (I.ok.cab x c hfn hc)))).trans e1⟩
  ·obtain ⟨o',e1⟩:=I.base.there b o e hx
   exact ⟨o',(hs.2 b (Nat.ne_of_lt (Nat.lt_of_lt_of_le (Heap.lt_size e) (I.ok.cab x c hfn hc)))).trans e1⟩
  ·by_cases hj:j=i
   ·subst hj
    rw [hi] at e1; cases e1
    rw [List.getElem?_set_self hiσ] at e2
    cases e2
    exact ⟨u,r,.inr ⟨.inl hk,c,hc,hc'⟩⟩
   ·rw [List.getElem?_set_ne (Ne.symm hj)] at e2
    obtain ⟨u',r',q⟩:=hl j y v' e1 e2 e3
    refine ⟨u',r',?_⟩
    rcases q with q | ⟨k,c',e,z'⟩
    ·exact .inl q
    ·refine .inr ⟨k,c',e,z'.sameBut hs ?_⟩
     rintro rfl
     exact hj (Z7Q hN e1 (I.ok.inj _ _ _ e hc▸hi))
  ·by_cases hcc:c'=c
   ·subst hcc; exact ⟨_,hc'⟩
   ·obtain ⟨w2,z2⟩:=I.cell y c' e
    exact ⟨w2,z2.sameBut hs hcc⟩
  ·obtain ⟨e,n,ne,nf,d⟩:=I.pin p hp
   refine ⟨(hs.2 p.1 ?_).trans e,n,ne,nf,d⟩
   intro q
   rw [q,hoc] at e
   have q':oc=p.2:=Option.some.inj e
   exact d w' (by rw [← q']; exact hocd)
theorem Z6g {M:Model} {A:Around} {E:Value→Shared→Prop} {i:Nat} {x:Str} {v:V} {u:Value} {Q:Unit→Shared→Prop} (I:Inv X pins σ H s) (hN:X.N.Nodup) (hi:X.N[i]?=some x) (hx:Loc X.env.scope x) (r:RelV v u)
  (h:∀ s',Inv X pins (σ.set i (some v)) H s'→Q () s') (hf:X.fn x=true∨X.env.scope.names.lookup x=some .local:=by first | exact .inl rfl | exact .inr rfl | assumption):wpAny M A (storeName X.env x u) Q E s:=
 Z4L I hN hi hx r (fun s' I' _=>h s' I') hf
end
abbrev XK:=Value→Option Addr→Hp→Prop
abbrev St:=List (Option V)
abbrev VK:=V→Hp→Prop
abbrev TE:=St→Hp→VK→Prop
abbrev TT:=St→Hp→(Bool→Hp→Prop)→Prop
abbrev TA:=St→Hp→(List V→Hp→Prop)→Prop
structure Ends where
 nx:St→Hp→Prop
 rt:VK
 bk:St→Hp→Prop:=fun _ _=>False
 ct:St→Hp→Prop:=fun _ _=>False
abbrev TS:=Ends→St→Hp→Prop
def EP (X:Cx) (pins:List (Addr×Obj)) (σ:St) (Q:VK) (u:Value) (s':Shared):Prop:=∃ v H',Inv X pins σ H' s'∧RelV v u∧Q v H'
def TP (X:Cx) (pins:List (Addr×Obj)) (σ:St) (Q:Bool→Hp→Prop) (b:Bool) (s':Shared):Prop:=∃ H',Inv X pins σ H' s'∧Q b H'
def AP (X:Cx) (pins:List (Addr×Obj)) (σ:St) (Q:List V→Hp→Prop) (us:List Value) (s':Shared):Prop:=∃ vs H',Inv X pins σ H' s'∧Vals vs us∧Q vs H'
def SP (X:Cx) (pins:List (Addr×Obj)) (D:Ends) (f:Flow) (s':Shared):Prop:=
 match f with
 | .next=>∃ σ' H',Inv X pins σ' H' s'∧D.nx σ' H'
 | .brk=>∃ σ' H',Inv X pins σ' H' s'∧D.bk σ' H'
 | .cont=>∃ σ' H',Inv X pins σ' H' s'∧D.ct σ' H'
 | .ret u=>∃ v σ' H',Inv X pins σ' H' s'∧RelV v u∧D.rt v H'
def PE (X:Cx) (e:Expr) (t:TE):Prop:=
 ∀ (pins:List (Addr×Obj)) (s:Shared) (σ:St) (H:Hp) (Q:VK),Inv X pins σ H s→t σ H Q→wpAny (model X.prog X.w) X.A (eval e X.env) (EP X pins σ Q) X.xe s
def PT (X:Cx) (e:Expr) (t:TT):Prop:=
 ∀ (pins:List (Addr×Obj)) (s:Shared) (σ:St) (H:Hp) (Q:Bool→Hp→Prop),Inv X pins σ H s→t σ H Q→wpAny (model X.prog X.w) X.A (isTrue e X.env (eval e X.env)) (TP X pins σ Q) X.xe s
def PW (X:Cx) (e:Expr) (t:TT):Prop:=
 ∀ (whole:Sem Value) (pins:List (Addr×Obj)) (s:Shared) (σ:St) (H:Hp) (Q:Bool→Hp→Prop),Inv X pins σ H s→t σ H Q→wpAny (model X.prog X.w) X.A (isTrue e X.env whole) (TP X pins σ Q) X.xe s
theorem PW.pt {X:Cx} {e:Expr} {t:TT} (h:PW X e t):PT X e t:=h _
def PA (X:Cx) (es:List Expr) (t:TA):Prop:=
 ∀ (pos:Pos) (pins:List (Addr×Obj)) (s:Shared) (σ:St) (H:Hp) (Q:List V→Hp→Prop),Inv X pins σ H s→t σ H Q→wpAny (model X.prog X.w) X.A (spliced (backTo pos (starEach es X.env))) (AP X pins σ Q) X.xe s
def PS (X:Cx) (st:Stmt) (t:TS):Prop:=
 ∀ (pins:List (Addr×Obj)) (s:Shared) (σ:St) (H:Hp) (D:Ends),Inv X pins σ H s→t D σ H→wpAny (model X.prog X.w) X.A (exec st X.env) (SP X pins D) X.xe s
def PSs (X:Cx) (st:List Stmt) (t:TS):Prop:=
 ∀ (pins:List (Addr×Obj)) (s:Shared) (σ:St) (H:Hp) (D:Ends),Inv X pins σ H s→t D σ H→wpAny (model X.prog X.w) X.A (execs st X.env) (SP X pins D) X.xe s
theorem thn {α:Type} {t:Sem α} {Q Q':α→Shared→Prop} {M:Model} {A:Around} {E:Value→Shared→Prop} {s:Shared} (h:wpAny M A t Q E s) (hQ:∀ a s,Q a s→Q' a s):wpAny M A t Q' E s:=wpAny_mono h hQ fun _ _ x=>x
end L2
namespace L2
open PySem PySem.Spec PyProof.Rows
section
variable {X:Cx}
theorem bin {a b:Expr} {ta tb:TE} (ha:PE X a ta) (hb:PE X b tb) {pins:List (Addr×Obj)} {s:Shared} {σ:St} {H:Hp} {R:V→V→Hp→Prop} (I:Inv X pins σ H s) (h:ta σ H fun x H1=>tb σ H1 fun y H2=>R x y H2)
  {α:Type} {Q:α→Shared→Prop} {f:Value→Value→Sem α}
  (hf:∀ v u s2 x y H2,Inv X pins σ H2 s2→RelV x v→RelV y u→R x y H2→wpAny (model X.prog X.w) X.A (f v u) Q X.xe s2) :
  wpAny (model X.prog X.w) X.A (eval a X.env) (fun v s₁=>wpAny (model X.prog X.w) X.A (eval b X.env) (fun u s₂=>wpAny (model X.prog X.w) X.A (f v u) Q X.xe s₂) X.xe s₁) X.xe s:=by
 refine thn (ha pins s σ H _ I h) fun v s1 ⟨x,H1,I1,r1,q1⟩=>?_
 refine thn (hb pins s1 σ H1 _ I1 q1) fun u s2 ⟨y,H2,I2,r2,q2⟩=>?_
 exact hf v u s2 x y H2 I2 r1 r2 q2
def tVar (i:Nat):TE:=fun σ H Q=>∃ v,σ[i]?=some (some v)∧Q v H
def tC (v:V):TE:=fun _ H Q=>Q v H
theorem J5M {i:Nat} {x:Str} {pos:Pos} (hN:X.N[i]?=some x) (hv:Vis X.env.scope x) (hd:(x == ("__debug__":Str))=false:=by decide) (hcd:(x == ("__classdict__":Str))=false:=by decide):PE X (.Name x pos) (tVar i):=by
 intro pins s σ H Q I h
 obtain ⟨v,e,h⟩:=h
 obtain ⟨m,hn,hl⟩:=I.loc
 obtain ⟨u,r,l⟩:=hl i x v hN e hv
 have fin:EP X pins σ Q u s:=⟨v,H,I,r,h⟩
 rcases l with ⟨hk,hm⟩ | ⟨hk,c,hc,hcell⟩
 ·exact wpAny_Name (wpAny_loadName_local I.ok.kind hk hn hm fin) hd
 ·rcases hk with hk | hk
  ·exact wpAny_Name (wpAny_loadName_cell I.ok.kind hk hc hcell fin) hd
  ·exact wpAny_Name (wpAny_loadName_free I.ok.kind hk hc hcell fin hcd) hd
theorem Z0l {i j pos}:PE X (.Constant (.int i) j pos) (tC (.int i)):=fun _ _ _ H _ I h=>wpAny_Constant_int ⟨.int i,H,I.tok _,⟨_,rfl⟩,h⟩
theorem J4F {b j pos}:PE X (.Constant (.bool b) j pos) (tC (.bl b)):=fun _ _ _ H _ I h=>Constant_bool ⟨.bl b,H,I,rfl,h⟩
theorem Z2b {j pos}:PE X (.Constant .none j pos) (tC .non):=fun _ _ _ H _ I h=>Constant_none ⟨.non,H,I,rfl,h⟩
theorem Z0o {x j pos}:PE X (.Constant (.str x) j pos) (tC (.str x)):=fun _ _ _ H _ I h=>Calls.Constant_str ⟨.str x,H,I.tok _,⟨_,rfl⟩,h⟩
def Gl (X:Cx) (x:Str):Prop:=X.env.kindOf x=some .globalImplicit
theorem Z7J {E:Value→Shared→Prop} {pins:List (Addr×Obj)} {s:Shared} {σ:St} {H:Hp} {x:Str} {u:Value} {pos:Pos} {Q:Value→Shared→Prop} (I:Inv X pins σ H s) (hg:Gl X x) (hm:X.mg x=some u) (h:Q u s)
  (hd:(x == ("__debug__":Str))=false:=by decide):wpAny (model X.prog X.w) X.A (eval (.Name x pos) X.env) Q E s:=
 Calls.Name_function_global I.ok.kind hg (Calls.loadGlobal_global (by rw [I.ok.glob]; exact I.mod.glob.keeps I.bk) hm h) hd
theorem Z3o {E:Value→Shared→Prop} {pins:List (Addr×Obj)} {s:Shared} {σ:St} {H:Hp} {x:Str} {u:Value} {pos:Pos} {Q:Value→Shared→Prop} (I:Inv X pins σ H s) (hg:Gl X x) (hm:X.mg x=none) (hv:bootBuiltins x=some u) (h:Q u s)
  (hn:x≠"__name__":=by decide) (hd:(x == ("__debug__":Str))=false:=by decide):wpAny (model X.prog X.w) X.A (eval (.Name x pos) X.env) Q E s:=by
 obtain ⟨mb,h1,h2⟩:=I.mod.blt
 exact Calls.Name_function_global I.ok.kind hg (Calls.loadGlobal_builtin (by rw [I.ok.glob]; exact I.mod.glob.keeps I.bk) hm (by rw [I.ok.blt]; exact h1.keeps I.bk) ((h2 x hn).trans hv) h) hd
theorem J4q {x:Str} {v:V} {u:Value} {pos:Pos} (hg:Gl X x) (hm:X.mg x=none) (hv:bootBuiltins x=some u) (r:RelV v u) (hn:x≠"__name__":=by decide) (hd:(x == ("__debug__":Str))=false:=by decide):PE X (.Name x pos) (tC v):=
 fun _ _ _ H _ I h=>Z3o I hg hm hv ⟨v,H,I,r,h⟩ hn hd
variable {a b:Expr} {ta tb:TE} {pos:Pos}
def PC (X:Cx) (op:CmpOp) (a b:Expr) (t:TE):Prop:=
 ∀ (pins:List (Addr×Obj)) (s:Shared) (σ:St) (H:Hp) (Q:VK),Inv X pins σ H s→t σ H Q →
  wpAny (model X.prog X.w) X.A (eval a X.env) (fun v s₁=>wpAny (model X.prog X.w) X.A (eval b X.env) (fun u s₂=>wpAny (model X.prog X.w) X.A (compareOp op v u) (EP X pins σ Q) X.xe s₂) X.xe s₁) X.xe s
theorem J3k (b:Expr) {op:CmpOp} (h:op≠.In) (h2:op≠.NotIn):behindInMarks op b=false:=by
 have e1:(op == CmpOp.In)=false:=by cases op <;> first | rfl | exact absurd rfl h
 have e2:(op == CmpOp.NotIn)=false:=by cases op <;> first | rfl | exact absurd rfl h2
 cases b <;> simp [behindInMarks,e1,e2]
def tB (t:TE):TT:=fun σ H Q=>t σ H fun x H1=>∃ c,x=.bl c∧Q c H1
theorem J8Y {op:CmpOp} {t:TE} (h:PC X op a b t) (h1:behindInMarks op b=false:=by first | exact J3k _ (by decide) (by decide) | rfl):PT X (.Compare a [op] [b] pos) (tB t):=by
 intro pins s σ H Q I hw
 refine wpAny_isTrue_Compare1 (thn (h pins s σ H _ I hw) fun v s1 h1=>thn h1 fun u s2 h2=>thn h2 fun c s3 ⟨x,H1,I1,r1,q1⟩=>?_) h1
 obtain ⟨d,rfl,q⟩:=q1
 cases r1
 exact wpAny_truthy_bool ⟨H1,I1,q⟩
theorem Z8R {e:Expr} {t:TE} (h:PE X e t) (he:∀ whole,isTrue e X.env whole=(do let v ← whole; standAt e.pos; holding [v] (truthy v)):=by intro _; rfl):PT X e (tB t):=by
 intro pins s σ H Q I hw
 refine isTrue_plain (thn (h pins s σ H _ I hw) fun v s1 ⟨x,H1,I1,r1,q1⟩=>?_) (he _)
 obtain ⟨d,rfl,q⟩:=q1
 cases r1
 exact wpAny_truthy_bool ⟨H1,I1,q⟩
variable {tA tB':TT} {rest:List Expr}
def tAnd (t u:TT):TT:=fun σ H Q=>t σ H fun c H1=>if c=true then u σ H1 Q else Q false H1
def tOr (t u:TT):TT:=fun σ H Q=>t σ H fun c H1=>if c=true then Q true H1 else u σ H1 Q
def tNot (t:TT):TT:=fun σ H Q=>t σ H fun c H1=>Q (!c) H1
theorem Z7I (ha:PT X a tA):PW X (.BoolOp .And [a] pos) tA:=by
 intro wh pins s σ H Q I h
 refine isTrue_and (thn (ha pins s σ H Q I h) fun c s1 e=>?_)
 cases c with
 | true=>exact isTrue_and_nil e
 | false=>exact e
theorem J5A (ha:PT X a tA):PW X (.BoolOp .Or [a] pos) tA:=by
 intro wh pins s σ H Q I h
 refine isTrue_or (thn (ha pins s σ H Q I h) fun c s1 e=>?_)
 cases c with
 | false=>exact isTrue_or_nil e
 | true=>exact e
theorem J0F (ha:PT X a tA) (hb:PW X (.BoolOp .And (b::rest) pos) tB'):PW X (.BoolOp .And (a::b::rest) pos) (tAnd tA tB'):=by
 intro wh pins s σ H Q I h
 refine isTrue_and (thn (ha pins s σ H _ I h) fun c s1 ⟨H1,I1,q1⟩=>?_)
 cases c with
 | true=>exact hb wh pins s1 σ H1 Q I1 q1
 | false=>exact ⟨H1,I1,q1⟩
theorem J7J (ha:PT X a tA) (hb:PW X (.BoolOp .Or (b::rest) pos) tB'):PW X (.BoolOp .Or (a::b::rest) pos) (tOr tA tB'):=by
 intro wh pins s σ H Q I h
 refine isTrue_or (thn (ha pins s σ H _ I h) fun c s1 ⟨H1,I1,q1⟩=>?_)
 cases c with
 | true=>exact ⟨H1,I1,q1⟩
 | false=>exact hb wh pins s1 σ H1 Q I1 q1
theorem J3p (ha:PT X a tA):PT X (.UnaryOp .Not a pos) (tNot tA):=by
 intro pins s σ H Q I h
 exact isTrue_not (ha pins s σ H (fun c H1=>Q (!c) H1) I h)
def J6y (ta tb:TE):TE:=fun σ H Q=>ta σ H fun x H1=>∃ c,x=.bl c∧if c=true then tb σ H1 Q else Q (.bl false) H1
def tOrV (ta tb:TE):TE:=fun σ H Q=>ta σ H fun x H1=>∃ c,x=.bl c∧if c=true then Q (.bl true) H1 else tb σ H1 Q
def J8p (ta:TE):TE:=fun σ H Q=>ta σ H fun x H1=>∃ c,x=.bl c∧Q (.bl (!c)) H1
theorem J5k {op} {t:TE} (h:PE X a t):PE X (.BoolOp op [a] pos) t:=fun pins s σ H Q I hw=>BoolOp_one (h pins s σ H Q I hw)
theorem J6j (ha:PE X a ta) (hb:PE X (.BoolOp .And (b::rest) pos) tb):PE X (.BoolOp .And (a::b::rest) pos) (J6y ta tb):=by
 intro pins s σ H Q I h
 refine BoolOp_and (thn (ha pins s σ H _ I h) fun v s1 ⟨x,H1,I1,r1,q1⟩=>?_)
 obtain ⟨c,rfl,q1⟩:=q1
 cases r1
 refine wpAny_truthy_bool ?_
 cases c with
 | true=>exact hb pins s1 σ H1 Q I1 q1
 | false=>exact ⟨.bl false,H1,I1,rfl,q1⟩
def tIf (t:TT) (ta tb:TE):TE:=fun σ H Q=>t σ H fun c H1=>if c=true then ta σ H1 Q else tb σ H1 Q
end
end L2
namespace L2
open PySem PySem.Spec PyProof.Rows
def SqL (K:W.Frag) (H:Hp) (a:Addr) (xs:List V):Prop:=
 Rd H a (.lst xs) ∨
  ∃ (o:Obj) (its:Array Value) (n:Nat),K.lookup a=some o∧o.cls=.type "list"∧o.dict=none∧o.data=.seq its n∧its.size≤sizeLine∧Vals xs its.toList
def SqT (K:W.Frag) (H:Hp) (a:Addr) (xs:List V):Prop:=
 Rd H a (.tup xs) ∨
  ∃ (o:Obj) (its:Array Value) (n:Nat),K.lookup a=some o∧(o.cls=.type "tuple"∧o.dict=none)∧o.data=.seq its n∧its.size≤sizeLine∧Vals xs its.toList
def absV:Value→Option V
 | .none=>some .non
 | .bool b=>some (.bl b)
 | .int i _=>some (.int i)
 | .str x _=>some (.str x)
 | .bytes b _=>some (.byt b)
 | .float b _=>some (.flt b)
 | .ref a=>some (.ref a)
 | .type n=>some (.ty n)
 | _=>none
theorem RelV.abs {x:V} {u:Value} (r:RelV x u):absV u=some x:=by
 cases x with
 | non=>cases r; rfl
 | bl _=>cases r; rfl
 | int _=>obtain ⟨t,rfl⟩:=r; rfl
 | str _=>obtain ⟨t,rfl⟩:=r; rfl
 | byt _=>obtain ⟨t,rfl⟩:=r; rfl
 | flt _=>obtain ⟨t,rfl⟩:=r; rfl
 | ref _=>cases r; rfl
 | ty _=>cases r; rfl
theorem RelV.inj {x y:V} {u:Value} (r:RelV x u) (q:RelV y u):x=y:=Option.some.inj (r.abs.symm.trans q.abs)
theorem Vals.inj:∀ {xs ys:List V} {us:List Value},Vals xs us→Vals ys us→xs=ys
 | _,_,_,.nil,.nil=>rfl
 | _,_,_,.cons r t,.cons r' t'=>by rw [r.inj r',Vals.inj t t']
section
variable {X:Cx} {pins:List (Addr×Obj)} {σ:St} {H:Hp} {s:Shared} {a:Addr} {xs ys:List V}
theorem SqL.of {K:W.Frag} (h:H a=some (.lst xs)):SqL K H a xs:=.inl (.inl h)
theorem SqT.of {K:W.Frag} (h:H a=some (.tup xs)):SqT K H a xs:=.inl (.inl h)
theorem Inv.list (I:Inv X pins σ H s) (h:SqL X.K H a xs):∃ its:List Value,Vals xs its∧PlainL s.heap a its.toArray∧xs.length≤sizeLine:=by
 rcases h with h | ⟨o,its,n,hk,hc,hd,hs,hz,r⟩
 ·obtain ⟨z,its,n,r,e⟩:=h.ok I.hok
  exact ⟨its,r,⟨_,n,e,rfl,rfl,rfl⟩,z⟩
 ·refine ⟨its.toList,r,⟨o,n,I.kIn a o hk,hc,hd,by simpa using hs⟩,?_⟩
  have e:=r.length
  simp only [Array.length_toList] at e
  omega
theorem Inv.tuple (I:Inv X pins σ H s) (h:SqT X.K H a xs):∃ its:List Value,Vals xs its∧IsTup s.heap a its.toArray∧xs.length≤sizeLine:=by
 rcases h with h | ⟨o,its,n,hk,hc,hs,hz,r⟩
 ·obtain ⟨z,its,r,p⟩:=h.ok I.hok
  exact ⟨its,r,p,z.1⟩
 ·refine ⟨its.toList,r,⟨o,I.kIn a o hk,hc.1,n,by simpa using hs⟩,?_⟩
  have e:=r.length
  simp only [Array.length_toList] at e
  omega
theorem Inv.list_inj (I:Inv X pins σ H s) (h:SqL X.K H a xs) (h':SqL X.K H a ys):xs=ys:=by
 obtain ⟨its,r,⟨o,n,e,_,_,d⟩,_⟩:=I.list h
 obtain ⟨its',r',⟨o',n',e',_,_,d'⟩,_⟩:=I.list h'
 rw [e] at e'; cases e'
 rw [d] at d'
 injection d' with d1 _
 have:its=its':=by simpa using congrArg Array.toList d1
 subst this
 exact r.inj r'
theorem Inv.tuple_inj (I:Inv X pins σ H s) (h:SqT X.K H a xs) (h':SqT X.K H a ys):xs=ys:=by
 obtain ⟨its,r,⟨o,e,_,n,d⟩,_⟩:=I.tuple h
 obtain ⟨its',r',⟨o',e',_,n',d'⟩,_⟩:=I.tuple h'
 rw [e] at e'; cases e'
 rw [d] at d'
 injection d' with d1 _
 have:its=its':=by simpa using congrArg Array.toList d1
 subst this
 exact r.inj r'
end
abbrev Cx.wish (X:Cx) (E:Value→Shared→Prop):Cx:={ X with xe:=E }
abbrev Cx.nox (X:Cx):Cx:=X.wish fun _ _=>False
theorem Cx.Ok.wish {X:Cx} (ok:X.Ok) (E:Value→Shared→Prop):(X.wish E).Ok:=
 ⟨ok.mod,ok.kind,ok.glob,ok.blt,ok.above,ok.inj,ok.has,ok.cab,ok.hd,ok.frames,ok.stk,ok.exf,ok.bs,ok.bsz,ok.noex,ok.exfs,ok.funs,ok.frf⟩
theorem Cx.Ok.unwish {X:Cx} {E:Value→Shared→Prop} (ok:(X.wish E).Ok):X.Ok:=
 ⟨ok.mod,ok.kind,ok.glob,ok.blt,ok.above,ok.inj,ok.has,ok.cab,ok.hd,ok.frames,ok.stk,ok.exf,ok.bs,ok.bsz,ok.noex,ok.exfs,ok.funs,ok.frf⟩
section
variable {X:Cx} {pins:List (Addr×Obj)} {σ:St} {H:Hp} {s:Shared} {E:Value→Shared→Prop}
theorem Inv.wish (I:Inv X pins σ H s) (E:Value→Shared→Prop):Inv (X.wish E) pins σ H s:=⟨I.ok.wish E,I.os,I.bare,I.base,I.loc,I.cell,I.free,I.freeC,I.pin,I.hok,I.len⟩
theorem Inv.unwish (I:Inv (X.wish E) pins σ H s):Inv X pins σ H s:=⟨I.ok.unwish,I.os,I.bare,I.base,I.loc,I.cell,I.free,I.freeC,I.pin,I.hok,I.len⟩
theorem SP.unwish {D:Ends} {f:Flow} {s':Shared} (h:SP (X.wish E) pins D f s'):SP X pins D f s':=by
 cases f with
 | next=>obtain ⟨σ',H',I,q⟩:=h; exact ⟨σ',H',I.unwish,q⟩
 | brk=>obtain ⟨σ',H',I,q⟩:=h; exact ⟨σ',H',I.unwish,q⟩
 | cont=>obtain ⟨σ',H',I,q⟩:=h; exact ⟨σ',H',I.unwish,q⟩
 | ret u=>obtain ⟨v,σ',H',I,r,q⟩:=h; exact ⟨v,σ',H',I.unwish,r,q⟩
theorem PSs.nox {st:List Stmt} {t:TS} (h:PSs X.nox st t):PSs X st t:=fun pins s σ H D I hw=>
 wpAny_mono (h pins s σ H D (I.wish _) hw) (fun _ _ q=>q.unwish) fun _ _ z=>False.elim z
end
section
variable {X:Cx} {st:Stmt} {rest:List Stmt} {t u:TS} {e:Expr} {te:TE} {pos:Pos}
def J5K:TS:=fun D σ H=>D.nx σ H
def tSeq (t u:TS):TS:=fun D σ H=>t { D with nx:=u D } σ H
theorem Z0z:PSs X [] J5K:=fun _ _ σ H _ I h=>wpAny_execs_nil ⟨σ,H,I,h⟩
theorem Z0c (h1:PS X st t) (h2:PSs X rest u):PSs X (st::rest) (tSeq t u):=by
 intro pins s σ H D I h
 refine wpAny_execs_cons (thn (h1 pins s σ H { D with nx:=u D } I h) fun f s1 q=>?_)
 cases f with
 | next=>
  obtain ⟨σ',H',I',q⟩:=q
  exact h2 pins s1 σ' H' D I' q
 | ret v=>exact q
 | brk=>exact q
 | cont=>exact q
theorem Z0g (h1:PS X st t):PSs X [st] t:=by
 intro pins s σ H D I h
 refine wpAny_execs_cons (thn (h1 pins s σ H D I h) fun f s1 q=>?_)
 cases f with
 | next=>exact wpAny_execs_nil q
 | ret v=>exact q
 | brk=>exact q
 | cont=>exact q
def J6I:TS:=fun D σ H=>D.bk σ H
def J7L:TS:=fun D σ H=>D.ct σ H
theorem Inv.quiet {pins:List (Addr×Obj)} {σ:St} {H:Hp} {s:Shared} (I:Inv X pins σ H s):interactive X.env=false:=by simp [interactive,I.ok.kind]
def J6a (te:TE):TS:=fun D σ H=>te σ H fun _ H1=>D.nx σ H1
theorem Z1g (he:PE X e te) (hs:swapsWith e none pos.line X.env=pure false:=by rfl):PS X (.Expr e pos) (J6a te):=by
 intro pins s σ H D I h
 exact wpAny_Expr_any (thn (he pins s σ H _ I h) fun v s1 ⟨x,H1,I1,r1,q1⟩=>⟨σ,H1,I1,q1⟩) I.quiet hs
def tRet (te:TE):TS:=fun D σ H=>te σ H D.rt
theorem Z0s (he:PE X e te):PS X (.Return (some e) pos) (tRet te):=by
 intro pins s σ H D I h
 exact wpAny_Return_some (thn (he pins s σ H _ I h) fun v s1 ⟨x,H1,I1,r1,q1⟩=>⟨x,σ,H1,I1,r1,q1⟩)
def J8r:TS:=fun D _ H=>D.rt .non H
def tIfS (c:TT) (t u:TS):TS:=fun D σ H=>c σ H fun b H1=>if b=true then t D σ H1 else u D σ H1
theorem Z1C {c:Expr} {a b:List Stmt} {tc:TT} (hc:PT X c tc) (ha:PSs X a t) (hb:PSs X b u):PS X (.If c a b pos) (tIfS tc t u):=by
 intro pins s σ H D I h
 refine wpAny_If (thn (hc pins s σ H _ I h) fun d s1 ⟨H1,I1,q1⟩=>?_)
 cases d with
 | true=>exact ha pins s1 σ H1 D I1 q1
 | false=>exact hb pins s1 σ H1 D I1 q1
def J3O:TS:=fun _ _ _=>False
theorem Z0q:PS X st J3O:=fun _ _ _ _ _ _ h=>h.elim
end
abbrev TG:=V→St→Hp→(St→Hp→Prop)→Prop
abbrev TGs:=List V→St→Hp→(St→Hp→Prop)→Prop
def PG (X:Cx) (target:Expr) (t:TG):Prop:=
 ∀ (pins:List (Addr×Obj)) (s:Shared) (σ:St) (H:Hp) (v:V) (u:Value) (Q:St→Hp→Prop),Inv X pins σ H s→RelV v u→t v σ H Q →
  wpAny (model X.prog X.w) X.A (assign target X.env u) (fun _ s'=>∃ σ' H',Inv X pins σ' H' s'∧Q σ' H') X.xe s
def PGs (X:Cx) (ts:List Expr) (t:TGs):Prop:=
 ∀ (pins:List (Addr×Obj)) (s:Shared) (σ:St) (H:Hp) (vs:List V) (us:List Value) (Q:St→Hp→Prop),Inv X pins σ H s→Vals vs us→t vs σ H Q →
  wpAny (model X.prog X.w) X.A (assignInOrder ((assignEach ts X.env).map (·.2)) us) (fun _ s'=>∃ σ' H',Inv X pins σ' H' s'∧Q σ' H') X.xe s
abbrev TSet:=V→V→V→Hp→(Hp→Prop)→Prop
abbrev TIp:=V→V→Hp→VK→Prop
def PIp (X:Cx) (op:Operator) (t:TIp):Prop:=
 ∀ (pins:List (Addr×Obj)) (s:Shared) (σ:St) (H:Hp) (x y:V) (v u:Value) (Q:VK),Inv X pins σ H s→RelV x v→RelV y u→t x y H Q →
  wpAny (model X.prog X.w) X.A (inplaceOp op v u) (EP X pins σ Q) X.xe s
section
variable {X:Cx} {pos:Pos}
def Z3M (i:Nat):TG:=fun v σ H Q=>Q (σ.set i (some v)) H
theorem Z0n {i:Nat} {x:Str} (hN:X.N.Nodup) (hi:X.N[i]?=some x) (hx:Loc X.env.scope x) (hf:X.fn x=true∨X.env.scope.names.lookup x=some .local:=by first | exact .inl rfl | exact .inr rfl | assumption):PG X (.Name x pos) (Z3M i):=by
 intro pins s σ H v u Q I r h
 exact wpAny_assign_Name (Z6g I hN hi hx r (fun s' I'=>⟨_,H,I',h⟩) hf)
def gNil:TGs:=fun vs σ H Q=>vs=[]∧Q σ H
def J5o (t:TG) (u:TGs):TGs:=fun vs σ H Q=>∃ v r,vs=v::r∧t v σ H fun σ' H'=>u r σ' H' Q
theorem Z2D:PGs X [] gNil:=by
 intro pins s σ H vs us Q I r h
 obtain ⟨e,h⟩:=h
 subst e
 cases r
 exact assignInOrder_nil ⟨σ,H,I,h⟩
theorem J3o {e:Expr} {es:List Expr} {t:TG} {u:TGs} (h1:PG X e t) (h2:PGs X es u)
  (hs:(assignEach (e::es) X.env).map (·.2)=assign e X.env::(assignEach es X.env).map (·.2):=by rfl):PGs X (e::es) (J5o t u):=by
 intro pins s σ H vs us Q I r h
 obtain ⟨v,vr,e1,h⟩:=h
 subst e1
 cases r with
 | cons r rr=>
  rw [hs]
  refine assignInOrder_cons (thn (h1 pins s σ H _ _ _ I r h) fun _ s1 ⟨σ1,H1,I1,q1⟩=>?_)
  exact h2 pins s1 σ1 H1 _ _ Q I1 rr q1
def gTup (K:W.Frag) (n:Nat) (t:TGs):TG:=fun v σ H Q=>∃ a xs,v=.ref a∧SqT K H a xs∧xs.length=n∧t xs σ H Q
theorem J6t {es:List Expr} {k:Nat} {t:TGs} {n:Nat} (hc:X.calm=true) (h:PGs X es t)
  (hn:(assignEach es X.env).length=n:=by rfl) (hst:(assignEach es X.env).findIdx? (·.1)=none:=by rfl):PG X (.Tuple es k pos) (gTup X.K n t):=by
 intro pins s σ H v u Q I r hw
 obtain ⟨a,xs,e1,hq,hl,hw⟩:=hw
 subst e1
 cases r
 obtain ⟨its,rv,ht,hz⟩:=I.tuple hq
 refine assign_Tuple_tuple (I.ok.hd hc) ht (by simp [hn,← hl,rv.length]) hst fun h' hx=>?_
 have I1:Inv X pins σ H { s with heap:=h' }:=I.kept (t':=s.toks) fun b o e=>hx b o (Nat.ne_of_lt (Heap.lt_size e)) e
 exact h pins _ σ H xs _ Q I1 (by simpa using rv) hw
def gSub (to ti:TE) (t:TSet):TG:=fun v σ H Q=>to σ H fun o H1=>ti σ H1 fun i H2=>t o i v H2 fun H3=>Q σ H3
def tAsg (te:TE) (g:TG):TS:=fun D σ H=>te σ H fun x H1=>g x σ H1 D.nx
theorem Z7j {tg e:Expr} {te:TE} {g:TG} (he:PE X e te) (hg:PG X tg g) (hs:swapsWithSole [tg] e pos.line X.env=pure false:=by rfl) (hw:swappedStores [tg] e X.env=pure none:=by rfl)
  (h1:(assignEach [tg] X.env).map (·.2)=[assign tg X.env]:=by rfl):PS X (.Assign [tg] e pos) (tAsg te g):=by
 intro pins s σ H D I h
 refine wpAny_Assign_stores (thn (he pins s σ H _ I h) fun v s1 ⟨x,H1,I1,r1,q1⟩=>?_) hs hw
 rw [h1]
 exact thn (hg pins s1 σ H1 x v _ I1 r1 q1) fun _ s2 q=>q
theorem Z0w {i:Nat} {x:Str} {e:Expr} {te:TE} {pos':Pos} (hN:X.N.Nodup) (hi:X.N[i]?=some x) (hx:Loc X.env.scope x) (he:PE X e te) (hs:swapsWith e (some (.Name x pos')) pos.line X.env=pure false:=by rfl) (hf:X.fn x=true∨X.env.scope.names.lookup x=some .local:=by first | exact .inl rfl | exact .inr rfl | assumption) :
  PS X (.Assign [.Name x pos'] e pos) (tAsg te (Z3M i)):=by
 intro pins s σ H D I h
 refine wpAny_Assign_Name (thn (he pins s σ H _ I h) fun v s1 ⟨y,H1,I1,r1,q1⟩=>?_) hs
 exact Z6g I1 hN hi hx r1 (fun s2 I2=>⟨_,H1,I2,q1⟩) hf
def tPar (i j:Nat) (ta:TA):TS:=fun D σ H=>ta σ H fun vs H1=>∃ v w,vs=[v,w]∧D.nx ((σ.set i (some v)).set j (some w)) H1
def tAug (i:Nat) (te:TE) (ti:TIp):TS:=fun D σ H=>∃ x,σ[i]?=some (some x)∧te σ H fun y H1=>ti x y H1 fun z H2=>D.nx (σ.set i (some z)) H2
theorem J6d {i:Nat} {x:Str} {e:Expr} {te:TE} {op:Operator} {ti:TIp} {pos':Pos} (hN:X.N.Nodup) (hi:X.N[i]?=some x) (hx:Loc X.env.scope x) (he:PE X e te) (ho:PIp X op ti) (hf:X.fn x=true∨X.env.scope.names.lookup x=some .local:=by first | exact .inl rfl | exact .inr rfl | assumption) :
  PS X (.AugAssign (.Name x pos') op e pos) (tAug i te ti):=by
 intro pins s σ H D I h
 obtain ⟨v,e1,h⟩:=h
 obtain ⟨m,hn,hl⟩:=I.loc
 have vis:Vis X.env.scope x:=by rcases hx with k | k; exact .inl k; exact .inr (.inl k)
 obtain ⟨u,r,l⟩:=hl i x v hi e1 vis
 refine wpAny_AugAssign_Name ?_
 have go:wpAny (model X.prog X.w) X.A (eval e X.env) (fun w s₂=>wpAny (model X.prog X.w) X.A (inplaceOp op u w) (fun r s₃=>wpAny (model X.prog X.w) X.A (storeName X.env x r) (fun _=>SP X pins D .next) X.xe s₃) X.xe s₂) X.xe s:=by
  refine thn (he pins s σ H _ I h) fun w s1 ⟨y,H1,I1,r1,q1⟩=>?_
  refine thn (ho pins s1 σ H1 v y u w _ I1 r r1 q1) fun z s2 ⟨zv,H2,I2,r2,q2⟩=>?_
  exact Z6g I2 hN hi hx r2 (fun s3 I3=>⟨_,H2,I3,q2⟩) hf
 rcases l with ⟨hk,hm⟩ | ⟨hk,c,hc,hcell⟩
 ·exact wpAny_loadName_local I.ok.kind hk hn hm go
 ·rcases hk with hk | hk
  ·exact wpAny_loadName_cell I.ok.kind hk hc hcell go
  ·rcases hx with k | k
   ·have:X.env.scope.names.lookup x=some .free:=hk
    rw [k] at this; cases this
   ·have:X.env.scope.names.lookup x=some .free:=hk
    rw [k] at this; cases this
def J8n (to ti te:TE) (tget:V→V→Hp→VK→Prop) (tip:TIp) (tset:TSet):TS:=fun D σ H=>to σ H fun o H1=>ti σ H1 fun i H2=>tget o i H2 fun x H3=>te σ H3 fun y H4=>tip x y H4 fun z H5=>tset o i z H5 fun H6=>D.nx σ H6
def ipI (f:Int→Int→Int):TIp:=fun x y H Q=>∃ i j,x=.int i∧y=.int j∧Q (.int (f i j)) H
theorem J5D:PIp X .Add (ipI fun i j=>i+j):=by
 intro pins s σ H x y v u Q I r1 r2 h
 obtain ⟨i,j,e1,e2,q⟩:=h
 subst e1; subst e2
 obtain ⟨t,rfl⟩:=r1
 obtain ⟨t',rfl⟩:=r2
 exact iadd_int ⟨.int _,H,I.tok _,⟨_,rfl⟩,q⟩
end
section
variable {X:Cx} {pos:Pos}
def J3w (c:TT) (tb:TS):TS:=fun D σ H=>∃ W:Nat→St→Hp→Prop,(∃ m,W m σ H)∧∀ m σ H,W m σ H →
 c σ H fun b H1=>if b=true then ∃ N:St→Hp→Prop,(∀ σ' H',N σ' H'→∃ m',m' < m∧W m' σ' H')∧tb { D with nx:=N,ct:=N,bk:=D.nx } σ H1 else D.nx σ H1
theorem Z4H {c:Expr} {body:List Stmt} {tc:TT} {tb:TS} (hp:PassesOwn (model X.prog X.w) X.A X.env X.xe) (hc:PT X c tc) (hb:PSs X body tb):PS X (.While c body [] pos) (J3w tc tb):=by
 intro pins s σ H D I h
 obtain ⟨W,⟨m0,w0⟩,turn⟩:=h
 refine wpAny_While (codeAny_whileLoop (fun n s'=>∃ σ' H',Inv X pins σ' H' s'∧W n σ' H') ?_ m0 ⟨σ,H,I,w0⟩)
 rintro n s1 ⟨σ1,H1,I1,w1⟩
 refine wpAny_passesOwn hp (thn (hc pins s1 σ1 H1 _ I1 (turn n σ1 H1 w1)) fun b s2 ⟨H2,I2,q2⟩=>?_)
 cases b with
 | true=>
  obtain ⟨N,hN,q2⟩:=q2
  rw [if_pos rfl]
  refine wpAny_passesOwn hp (thn (hb pins s2 σ1 H2 _ I2 q2) fun f s3 q3=>?_)
  cases f with
  | next=>
   obtain ⟨σ3,H3,I3,n3⟩:=q3
   obtain ⟨m',hm,w3⟩:=hN σ3 H3 n3
   exact ⟨m',hm,σ3,H3,I3,w3⟩
  | cont=>
   obtain ⟨σ3,H3,I3,n3⟩:=q3
   obtain ⟨m',hm,w3⟩:=hN σ3 H3 n3
   exact ⟨m',hm,σ3,H3,I3,w3⟩
  | brk=>exact q3
  | ret v=>exact q3
 | false=>
  rw [if_neg Bool.false_ne_true]
  exact wpAny_execs_nil ⟨σ1,H2,I2,q2⟩
end
structure It where
 go:Nat→Hp→Prop
 yld:Nat→Hp→V→Hp→Prop
 stop:Nat→Hp→Prop
def FpOk (X:Cx) (pins:List (Addr×Obj)) (H:Hp) (b:Addr):Prop:=
 H b=none∧b≠X.env.locals∧b∉X.fs∧(b∈X.ex∨X.s₀.heap.objs.size≤b)∧(∀ x c,X.env.cells.lookup x=some c→c≠b)∧∀ p∈X.pn++pins,p.1≠b
theorem Inv.fpOk {X:Cx} {pins:List (Addr×Obj)} {σ:St} {H H':Hp} {s:Shared} {b:Addr} (I:Inv X pins σ H s) (hb:s.heap.objs.size≤b) (hn:H' b=none):FpOk X pins H' b:=by
 refine ⟨hn,Nat.ne_of_gt (Nat.lt_of_lt_of_le I.lt hb),I.nofs hb,.inr (Nat.le_trans I.sz hb),fun x c e z=>?_,fun p hp z=>?_⟩
 ·obtain ⟨v,q⟩:=I.cell x c e
  exact absurd (Nat.lt_of_lt_of_le q.lt (by rw [z]; exact hb)) (Nat.lt_irrefl _)
 ·exact absurd (Nat.lt_of_lt_of_le (Heap.lt_size (I.pin p hp).1) (by rw [z]; exact hb)) (Nat.lt_irrefl _)
structure Turn (P:Program) (w:World) (K:W.Frag) (tg:Expr) (J:It) (fp:List Addr) (it:Addr) (tn:Nat→Heap→Prop):Prop where
 mem:it∈fp
 obj:∀ i h,tn i h→∀ b∈fp,∃ o,h.get? b=some o∧∀ v,o.data≠.cell v
 keep:∀ i h h',tn i h→(∀ b∈fp,∀ o,h.get? b=some o→h'.get? b=some o)→tn i h'
 item:∀ (X:Cx),X.prog=P→X.w=w→X.K=K→X.calm=true→∀ (i:Nat) (pins:List (Addr×Obj)) (s:Shared) (σ:St) (H:Hp) (E:Value→Shared→Prop),Inv X pins σ H s→(∀ b∈fp,FpOk X pins H b)→tn i s.heap→J.go i H →
  wpAny (model P w) X.A (pyNext (.ref it)) (fun r s1=>∃ u,r=some u ∧
   wpAny (model P w) X.A (letOwnedTupleGo tg (.ref it) u) (fun _ s2=>∃ x H',Inv X pins σ H' s2∧RelV x u∧J.yld i H x H'∧tn (i+1) s2.heap∧∀ b∈fp,H' b=none) E s1) E s
 done:∀ (X:Cx),X.prog=P→X.w=w→X.K=K→X.calm=true→∀ (i:Nat) (pins:List (Addr×Obj)) (s:Shared) (σ:St) (H:Hp) (E:Value→Shared→Prop),Inv X pins σ H s→(∀ b∈fp,FpOk X pins H b)→tn i s.heap→J.stop i H →
  wpAny (model P w) X.A (pyNext (.ref it)) (fun r s1=>r=none∧Inv X pins σ H s1) E s
 self:∀ (A:Around) (i:Nat) (s:Shared) (Q:Value→Shared→Prop) (E:Value→Shared→Prop),tn i s.heap→Q (.ref it) s→wpAny (model P w) A (pyIter (.ref it)) Q E s
abbrev TI:=St→Hp→(It→Hp→Prop)→Prop
def PIE (X:Cx) (pins:List (Addr×Obj)) (σ:St) (tg:Expr) (R:It→Hp→Prop) (itv:Value) (s2:Shared):Prop:=
 ∃ (it:Addr) (fp:List Addr) (tn:Nat→Heap→Prop) (J:It) (H':Hp),itv=.ref it∧Inv X pins σ H' s2∧Turn X.prog X.w X.K tg J fp it tn∧tn 0 s2.heap∧(∀ b∈fp,FpOk X pins H' b)∧R J H'
def PI (X:Cx) (tg iter:Expr) (wi:TI):Prop:=
 ∀ (pins:List (Addr×Obj)) (s:Shared) (σ:St) (H:Hp) (R:It→Hp→Prop),Inv X pins σ H s→wi σ H R →
  wpAny (model X.prog X.w) X.A (eval iter X.env) (fun v s1=>wpAny (model X.prog X.w) X.A (pyIter v) (PIE X pins σ tg R) X.xe s1) X.xe s
theorem J2X {M:Model} {A:Around} {E:Value→Shared→Prop} {s:Shared} {tg:Expr} {it:Addr} {u:Value} {o:Obj} {n:String} {vs:Array Value} {Q:Unit→Shared→Prop} (ho:s.heap.get? it=some o) (hc:o.cls=.type n) (hd:o.data=.fields vs)
    (hn:["enumerate","zip","dict_itemiterator","dict_reverseitemiterator","odict_iterator","itertools.zip_longest","itertools.pairwise"].contains n=false) (hQ:Q () s):wpAny M A (letOwnedTupleGo tg (.ref it) u) Q E s:=by
  unfold letOwnedTupleGo
  cases tg <;> first
    | exact wpAny_pure hQ
    | (cases u <;> first
        | exact wpAny_pure hQ
        | (refine wpAny_bind (wpAny_load ho ?_)
           rw [hc,hd]
           show wpAny M A (if (["enumerate","zip","dict_itemiterator","dict_reverseitemiterator","odict_iterator","itertools.zip_longest","itertools.pairwise"].contains n&&vs[0]? == some (rawInt _))=true then _ else _) Q E s
           rw [if_neg (by intro h; rw [hn,Bool.false_and] at h; cases h)]
           exact wpAny_pure hQ))
def Itl (K:W.Frag) (a:Addr):It:=
 ⟨fun i H=>∃ xs x,SqL K H a xs∧xs[i]?=some x,fun i H x H'=>H'=H∧∀ xs,SqL K H a xs→xs[i]?=some x,fun i H=>∃ xs,SqL K H a xs∧xs.length≤i⟩
def Itt (K:W.Frag) (a:Addr):It:=
 ⟨fun i H=>∃ xs x,SqT K H a xs∧xs[i]?=some x,fun i H x H'=>H'=H∧∀ xs,SqT K H a xs→xs[i]?=some x,fun i H=>∃ xs,SqT K H a xs∧xs.length≤i⟩
def Itr (lo:Int) (n:Nat):It:=⟨fun i _=>i < n,fun i H x H'=>H'=H∧x=.int (lo+i),fun i _=>n≤i⟩
theorem J1P {P:Program} {w:World} {K:W.Frag} {tg:Expr} (a it:Addr):Turn P w K tg (Itl K a) [it] it (fun i h=>h.IsListIter it a i) where
 mem:=by simp
 obj:=fun i h st b hb=>by
  have e:b=it:=by simpa using hb
  subst e
  obtain ⟨o,e,c,d⟩:=st
  exact ⟨o,e,fun v z=>by rw [d] at z; cases z⟩
 keep:=fun i h h' st k=>st.at fun o e=>k it (by simp) o e
 item:=by
  intro X hP hw hK hc i pins s σ H E I hf st hg
  subst hP hw hK
  obtain ⟨xs,x,hq,hx⟩:=hg
  obtain ⟨its,rv,p,hz⟩:=I.list hq
  obtain ⟨u,hu,ru⟩:=rv.get hx
  obtain ⟨f0,f1,f2,f3,f4,f5⟩:=hf it (by simp)
  refine wpAny_pyNext_list_item st p.isList (x:=u) (by simpa using hu) fun h' st' sb=>?_
  have I1:Inv X pins σ H { s with heap:=h' }:=I.turned (t':=s.toks) (fun b o hb e=>(sb.2 b hb).trans e) f0 f1 f3 f4 f5
  obtain ⟨o,e,c,d⟩:=id st'
  exact ⟨u,rfl,J2X (s:={ s with heap:=h' }) e c d (by decide) ⟨x,H,I1,ru,⟨rfl,fun ys hy=>by rw [I.list_inj hy hq]; exact hx⟩,st',fun b hb=>(hf b hb).1⟩⟩
 done:=by
  intro X hP hw hK hc i pins s σ H E I hf st hg
  subst hP hw hK
  obtain ⟨xs,hq,hx⟩:=hg
  obtain ⟨its,rv,p,hz⟩:=I.list hq
  obtain ⟨f0,f1,f2,f3,f4,f5⟩:=hf it (by simp)
  have hl:=rv.length
  exact wpAny_pyNext_list_end (I.ok.hd hc) st p.isList (by simp; omega) fun h' eb=>⟨rfl,I.turned (t':=s.toks) (fun b o hb e=>eb b o hb e) f0 f1 f3 f4 f5⟩
 self:=fun _ _ _ _ _ st h=>wpAny_pyIter_listiter st h
theorem Z9v {P:Program} {w:World} {K:W.Frag} {tg:Expr} (a it:Addr):Turn P w K tg (Itt K a) [it] it (fun i h=>h.IsTupleIter it a i) where
 mem:=by simp
 obj:=fun i h st b hb=>by
  have e:b=it:=by simpa using hb
  subst e
  obtain ⟨o,e,c,d⟩:=st
  exact ⟨o,e,fun v z=>by rw [d] at z; cases z⟩
 keep:=fun i h h' st k=>st.at fun o e=>k it (by simp) o e
 item:=by
  intro X hP hw hK hc i pins s σ H E I hf st hg
  subst hP hw hK
  obtain ⟨xs,x,hq,hx⟩:=hg
  obtain ⟨its,rv,p,hz⟩:=I.tuple hq
  obtain ⟨u,hu,ru⟩:=rv.get hx
  obtain ⟨f0,f1,f2,f3,f4,f5⟩:=hf it (by simp)
  refine wpAny_pyNext_tuple_item st (show s.heap.IsTuple a its.toArray from p) (x:=u) (by simpa using hu) fun h' st' sb=>?_
  have I1:Inv X pins σ H { s with heap:=h' }:=I.turned (t':=s.toks) (fun b o hb e=>(sb.2 b hb).trans e) f0 f1 f3 f4 f5
  obtain ⟨o,e,c,d⟩:=id st'
  exact ⟨u,rfl,J2X (s:={ s with heap:=h' }) e c d (by decide) ⟨x,H,I1,ru,⟨rfl,fun ys hy=>by rw [I.tuple_inj hy hq]; exact hx⟩,st',fun b hb=>(hf b hb).1⟩⟩
 done:=by
  intro X hP hw hK hc i pins s σ H E I hf st hg
  subst hP hw hK
  obtain ⟨xs,hq,hx⟩:=hg
  obtain ⟨its,rv,p,hz⟩:=I.tuple hq
  obtain ⟨f0,f1,f2,f3,f4,f5⟩:=hf it (by simp)
  have hl:=rv.length
  exact wpAny_pyNext_tuple_end (I.ok.hd hc) st (show s.heap.IsTuple a its.toArray from p) (by simp; omega) fun h' eb=>⟨rfl,I.turned (t':=s.toks) (fun b o hb e=>eb b o hb e) f0 f1 f3 f4 f5⟩
 self:=fun _ _ _ _ _ st h=>wpAny_pyIter_tupleiter st h
theorem Z9k {P:Program} {w:World} {K:W.Frag} {tg:Expr} (it:Addr) (lo:Int) (n:Nat):Turn P w K tg (Itr lo n) [it] it (fun i h=>IsRangeIter h it (lo+(i:Nat) * 1) ((n:Int) - (i:Nat)) 1) where
 mem:=by simp
 obj:=fun i h st b hb=>by
  have e:b=it:=by simpa using hb
  subst e
  exact ⟨_,st,fun v z=>by
   have z':Data.fields _=Data.cell v:=z
   cases z'⟩
 keep:=fun i h h' st k=>k it (by simp) _ st
 item:=by
  intro X hP hw hK hc i pins s σ H E I hf st hg
  subst hP hw hK
  obtain ⟨f0,f1,f2,f3,f4,f5⟩:=hf it (by simp)
  have W:=Walks.range (prog:=X.prog) (w:=X.w) (I.ok.hd hc) it lo 1 n
  refine W.item i s _ _ hg st fun v h' tk hv st' kk=>?_
  obtain ⟨t,rfl⟩:=hv
  have I1:Inv X pins σ H { s with heap:=h',toks:=tk }:=I.turned (fun b o hb e=>kk b o (by simpa using hb) e) f0 f1 f3 f4 f5
  refine ⟨_,rfl,J2X (s:={ s with heap:=h',toks:=tk }) (n:="range_iterator") st' rfl rfl (by decide) ⟨.int (lo+i),H,I1,⟨t,?_⟩,⟨rfl,rfl⟩,st',fun b hb=>(hf b hb).1⟩⟩
  rw [Int.mul_one]
 done:=by
  intro X hP hw hK hc i pins s σ H E I hf st hg
  subst hP hw hK
  obtain ⟨f0,f1,f2,f3,f4,f5⟩:=hf it (by simp)
  exact wpAny_pyNext_range_end (I.ok.hd hc) st (by have:n≤i:=hg; omega) fun h' eb=>⟨rfl,I.turned (t':=s.toks) (fun b o hb e=>eb b o hb e) f0 f1 f3 f4 f5⟩
 self:=fun _ _ _ _ _ st h=>wpAny_pyIter_rangeiter st h
end L2
namespace L2
open PySem PySem.Spec PyProof.Rows
section
variable {X:Cx} {tg:Expr}
def J4x (K:W.Frag) (tl:TE):TI:=fun σ H R=>tl σ H fun x H1=>∃ a,x=.ref a∧(∃ xs,SqL K H1 a xs)∧R (Itl K a) H1
def iTup (K:W.Frag) (tl:TE):TI:=fun σ H R=>tl σ H fun x H1=>∃ a,x=.ref a∧(∃ xs,SqT K H1 a xs)∧R (Itt K a) H1
theorem Z2i {l:Expr} {tl:TE} (hl:PE X l tl):PI X tg l (J4x X.K tl):=by
 intro pins s σ H R I h
 refine thn (hl pins s σ H _ I h) fun v s1 ⟨x,H1,I1,r1,q1⟩=>?_
 obtain ⟨a,e,⟨xs,hq⟩,q⟩:=q1
 subst e
 cases r1
 obtain ⟨its,rv,p,hz⟩:=I1.list hq
 refine wpAny_pyIter_list p.isList ?_
 refine ⟨s1.heap.objs.size,[s1.heap.objs.size],_,_,H1,rfl,I1.kept (t':=s1.toks) fun b o e=>Heap.get?_push_of_some _ e,J1P a _,⟨_,Heap.get?_push_size _ rfl,rfl,rfl⟩,fun b hb=>?_,q⟩
 have e:b=s1.heap.objs.size:=by simpa using hb
 subst e
 exact I1.fpOk (Nat.le_refl _) (I1.hok.fresh (Nat.le_refl _))
theorem Z2f {l:Expr} {tl:TE} (hl:PE X l tl):PI X tg l (iTup X.K tl):=by
 intro pins s σ H R I h
 refine thn (hl pins s σ H _ I h) fun v s1 ⟨x,H1,I1,r1,q1⟩=>?_
 obtain ⟨a,e,⟨xs,hq⟩,q⟩:=q1
 subst e
 cases r1
 obtain ⟨its,rv,p,hz⟩:=I1.tuple hq
 refine wpAny_pyIter_tuple (show s1.heap.IsTuple a its.toArray from p) ?_
 refine ⟨s1.heap.objs.size,[s1.heap.objs.size],_,_,H1,rfl,I1.kept (t':=s1.toks) fun b o e=>Heap.get?_push_of_some _ e,Z9v a _,⟨_,Heap.get?_push_size _ rfl,rfl,rfl⟩,fun b hb=>?_,q⟩
 have e:b=s1.heap.objs.size:=by simpa using hb
 subst e
 exact I1.fpOk (Nat.le_refl _) (I1.hok.fresh (Nat.le_refl _))
theorem J2V {pins:List (Addr×Obj)} {σ:St} {H:Hp} {s:Shared} {R:It→Hp→Prop} {E:Value→Shared→Prop} {lo hi:Int} {t u v:Tok} {tk:Nat} (I:Inv X pins σ H s) (h1:-(2 ^ 62)≤lo) (h2:lo < 2 ^ 62) (h3:-(2 ^ 62)≤hi) (h4:hi < 2 ^ 62)
  (q:R (Itr lo (hi - lo).toNat) H):wpAny (model X.prog X.w) X.A (pyIter (.ref s.heap.objs.size)) (PIE X pins σ tg R) E { s with heap:=s.heap.push { cls:=.type "range",data:=.fields #[.int lo t,.int hi u,.int 1 v] },toks:=tk }:=by
 refine wpAny_pyIter_range (IsRange.new ..) (small_one h1 h2 h3 h4) ?_
 have I1:Inv X pins σ H { s with heap:=s.heap.push { cls:=.type "range",data:=.fields #[.int lo t,.int hi u,.int 1 v] },toks:=tk }:=I.kept fun b o e=>Heap.get?_push_of_some _ e
 refine ⟨(s.heap.push { cls:=.type "range",data:=.fields #[.int lo t,.int hi u,.int 1 v] }).objs.size,[(s.heap.push { cls:=.type "range",data:=.fields #[.int lo t,.int hi u,.int 1 v] }).objs.size],_,_,H,rfl,
  I1.kept (t':=tk) fun b o e=>Heap.get?_push_of_some _ e,Z9k _ lo (hi - lo).toNat,?_,fun b hb=>?_,q⟩
 ·have e1:lo+((0:Nat):Int) * 1=lo:=by simp
  have e2:(((hi - lo).toNat:Nat):Int) - ((0:Nat):Int)=Builtin.Range.rangeSize lo hi 1:=by rw [rangeSize_one]; split <;> omega
  show IsRangeIter _ _ (lo+((0:Nat):Int) * 1) ((((hi - lo).toNat:Nat):Int) - ((0:Nat):Int)) 1
  rw [e1,e2]
  exact Heap.get?_push_size _ rfl
 ·have e:b=(s.heap.push { cls:=.type "range",data:=.fields #[.int lo t,.int hi u,.int 1 v] }).objs.size:=by simpa using hb
  subst e
  exact I1.fpOk (Nat.le_refl _) (I1.hok.fresh (Nat.le_refl _))
def J6h (ta:TA):TI:=fun σ H R=>ta σ H fun vs H1=>∃ j:Int,vs=[.int j]∧-(2 ^ 62)≤j∧j < 2 ^ 62∧R (Itr 0 j.toNat) H1
def J8B (ta:TA):TI:=fun σ H R=>ta σ H fun vs H1=>∃ i j:Int,vs=[.int i,.int j]∧(-(2 ^ 62)≤i∧i < 2 ^ 62∧-(2 ^ 62)≤j∧j < 2 ^ 62)∧R (Itr i (j - i).toNat) H1
theorem Z3W {a:Expr} {ta:TA} {p pos:Pos} (hg:Gl X "range") (hm:X.mg "range"=none) (ha:PA X [a] ta) (hs:starEach [a] X.env=[(false,eval a X.env)]:=by rfl):PI X tg (.Call (.Name "range" p) [a] [] pos) (J6h ta):=by
 intro pins s σ H R I h
 refine Call_ (Z3o I hg hm boot_range (PyProof.Rows.callWith_type1 (thn (ha pos pins s σ H _ I h) fun us s1 ⟨vs,H1,I1,r1,q1⟩=>?_) hs rfl))
 obtain ⟨j,e,q1,q2,q⟩:=q1
 subst e
 cases r1 with
 | cons r rr=>
  cases rr
  obtain ⟨t,rfl⟩:=r
  exact call_range_1 (J2V I1 (by omega) (by omega) q1 q2 (by simpa using q))
def tFor (wi:TI) (g:TG) (tb:TS):TS:=fun D σ H=>wi σ H fun J H1=>∃ W:Nat→Nat→St→Hp→Prop,(∃ m,W 0 m σ H1)∧∀ i m σ H,W i m σ H →
 (J.stop i H∧D.nx σ H)∨(J.go i H∧∃ N:St→Hp→Prop,(∀ σ' H',N σ' H'→∃ m',m' < m∧W (i+1) m' σ' H')∧∀ x H',J.yld i H x H'→g x σ H' fun σ2 H2=>tb { D with nx:=N,ct:=N,bk:=D.nx } σ2 H2)
def Z5t (fp:List Addr) (h:Heap):List (Addr×Obj):=fp.filterMap fun b=>(h.get? b).map fun o=>(b,o)
theorem Z2C {fp:List Addr} {h:Heap} {b:Addr} {o:Obj} (hb:b∈fp) (e:h.get? b=some o):(b,o)∈Z5t fp h:=List.mem_filterMap.mpr ⟨b,hb,by rw [e]; rfl⟩
theorem J0p {fp:List Addr} {h:Heap} {p:Addr×Obj} (hp:p∈Z5t fp h):p.1∈fp∧h.get? p.1=some p.2:=by
 obtain ⟨b,hb,e⟩:=List.mem_filterMap.mp hp
 cases q:h.get? b with
 | none=>rw [q] at e; cases e
 | some o=>
  rw [q] at e
  have e':(b,o)=p:=Option.some.inj e
  subst e'
  exact ⟨hb,q⟩
theorem Inv.pinned {pins:List (Addr×Obj)} {σ:St} {H:Hp} {s:Shared} {fp:List Addr} (I:Inv X pins σ H s) (hf:∀ b∈fp,FpOk X pins H b) (ho:∀ b∈fp,∃ o,s.heap.get? b=some o∧∀ v,o.data≠.cell v):Inv X (pins++Z5t fp s.heap) σ H s:=
 I.pins_of fun p hp=>(List.mem_append.mp hp).elim (fun z=>I.pin p (List.mem_append_right _ z)) fun z=>by
  obtain ⟨hb,e⟩:=J0p z
  obtain ⟨f0,f1,f2,_⟩:=hf p.1 hb
  obtain ⟨o,e',d⟩:=ho p.1 hb
  rw [e] at e'; cases e'
  exact ⟨e,f0,f1,f2,d⟩
theorem Inv.unpinned {pins pl:List (Addr×Obj)} {σ:St} {H:Hp} {s:Shared} (I:Inv X (pins++pl) σ H s):Inv X pins σ H s:=I.pins_of fun p hp=>I.pin p (List.mem_append_right _ (List.mem_append_left _ hp))
theorem Z2F {iter:Expr} {body:List Stmt} {wi:TI} {g:TG} {tb:TS} {pos:Pos} (hp:PassesOwn (model X.prog X.w) X.A X.env X.xe) (hc:X.calm=true) (hi:PI X tg iter wi) (hg:PG X tg g) (hb:PSs X body tb)
  (hs:∀ x,foldedSetIterable iter X.env x=pure x:=by intro _; rfl):PS X (.For tg iter body [] pos) (tFor wi g tb):=by
 intro pins s σ H D I h
 refine wpAny_For (thn (hi pins s σ H _ I h) fun v s1 h1=>thn h1 fun itv s2 h2=>?_) hs
 obtain ⟨it,fp,tn,J,H2,e,I2,T,st2,f2,W,⟨m0,w0⟩,turn⟩:=h2
 subst e
 -- what stays true of the iterator's objects through the loop
 have stat:∀ {H':Hp},(∀ b∈fp,H' b=none)→∀ b∈fp,FpOk X pins H' b:=fun hn b hb=>⟨hn b hb,(f2 b hb).2⟩
 refine codeAny_forLoop_any (fun n s'=>∃ i σ' H',Inv X pins σ' H' s'∧tn i s'.heap∧(∀ b∈fp,H' b=none)∧W i n σ' H') ?_ m0 ⟨0,σ,H2,I2,st2,fun b hb=>(f2 b hb).1,w0⟩
 rintro n s3 ⟨i,σ3,H3,I3,st3,fr3,w3⟩
 rcases turn i n σ3 H3 w3 with ⟨stop,qn⟩ | ⟨go,N,hN,step⟩
 ·refine wpAny_passesOwn hp (thn (T.done X rfl rfl rfl hc i pins s3 σ3 H3 X.xe I3 (stat fr3) st3 stop) fun r s4 ⟨hr,I4⟩=>?_)
  subst hr
  exact wpAny_execs_nil ⟨σ3,H3,I4,qn⟩
 ·refine wpAny_passesOwn hp (thn (T.item X rfl rfl rfl hc i pins s3 σ3 H3 X.xe I3 (stat fr3) st3 go) fun r s4 ⟨u,hr,h4⟩=>?_)
  subst hr
  refine wpAny_passesOwn hp (thn h4 fun _ s5 ⟨x,H5,I5,r5,y5,st5,fr5⟩=>?_)
  have I5':=I5.pinned (stat fr5) (T.obj _ _ st5)
  refine wpAny_passesOwn hp (thn (hg _ s5 σ3 H5 x u _ I5' r5 (step x H5 y5)) fun _ s6 ⟨σ6,H6,I6,q6⟩=>?_)
  refine wpAny_passesOwn hp (thn (hb _ s6 σ6 H6 _ I6 q6) fun f s7 q7=>?_)
  have again:∀ {σ7:St} {H7:Hp},Inv X (pins++Z5t fp s5.heap) σ7 H7 s7→N σ7 H7→∃ m,m < n∧∃ i σ' H',Inv X pins σ' H' s7∧tn i s7.heap∧(∀ b∈fp,H' b=none)∧W i m σ' H':=fun {σ7 H7} I7 n7=>by
   obtain ⟨m',hm,w7⟩:=hN σ7 H7 n7
   refine ⟨m',hm,i+1,σ7,H7,I7.unpinned,T.keep _ _ _ st5 fun b hb o e=>(I7.pin (b,o) (List.mem_append_right _ (List.mem_append_right _ (Z2C hb e)))).1,fun b hb=>?_,w7⟩
   obtain ⟨o,e,d⟩:=T.obj _ _ st5 b hb
   exact (I7.pin (b,o) (List.mem_append_right _ (List.mem_append_right _ (Z2C hb e)))).2.1
  cases f with
  | next=>obtain ⟨σ7,H7,I7,n7⟩:=q7; exact again I7 n7
  | cont=>obtain ⟨σ7,H7,I7,n7⟩:=q7; exact again I7 n7
  | brk=>obtain ⟨σ7,H7,I7,q7⟩:=q7; exact ⟨σ7,H7,I7.unpinned,q7⟩
  | ret v=>obtain ⟨x7,σ7,H7,I7,r7,q7⟩:=q7; exact ⟨x7,σ7,H7,I7.unpinned,r7,q7⟩
end
theorem J2K {K:W.Frag} {a:Addr} {xs:List V} {g:TG} {tb:TS} {D:Ends} {σ:St} {H:Hp} (Pv:Nat→St→Hp→Prop) (h0:Pv 0 σ H) (hl:∀ i σ H,i≤xs.length→Pv i σ H→SqL K H a xs)
  (hs:∀ i x σ H,xs[i]?=some x→Pv i σ H→g x σ H fun σ2 H2=>tb { D with nx:=Pv (i+1),ct:=Pv (i+1),bk:=D.nx } σ2 H2) (hd:∀ σ H,Pv xs.length σ H→D.nx σ H) :
  ∃ W:Nat→Nat→St→Hp→Prop,(∃ m,W 0 m σ H)∧∀ i m σ H,W i m σ H →
   ((Itl K a).stop i H∧D.nx σ H)∨((Itl K a).go i H∧∃ N:St→Hp→Prop,(∀ σ' H',N σ' H'→∃ m',m' < m∧W (i+1) m' σ' H')∧∀ x H',(Itl K a).yld i H x H'→g x σ H' fun σ2 H2=>tb { D with nx:=N,ct:=N,bk:=D.nx } σ2 H2):=by
 refine ⟨fun i m σ H=>m=xs.length - i∧i≤xs.length∧Pv i σ H,⟨xs.length,by simp,Nat.zero_le _,h0⟩,?_⟩
 rintro i m σ H ⟨rfl,hi,p⟩
 have q:=hl i σ H hi p
 by_cases hlt:i < xs.length
 ·refine .inr ⟨⟨xs,xs[i],q,by simp [hlt]⟩,Pv (i+1),fun σ' H' p'=>⟨xs.length - (i+1),by omega,rfl,hlt,p'⟩,fun x H' y=>?_⟩
  obtain ⟨e,y⟩:=y
  subst e
  exact hs i x σ _ (y xs q) p
 ·have e:i=xs.length:=by omega
  subst e
  exact .inl ⟨⟨xs,q,Nat.le_refl _⟩,hd σ H p⟩
theorem J4V {K:W.Frag} {a:Addr} {xs:List V} {g:TG} {tb:TS} {D:Ends} {σ:St} {H:Hp} (Pv:Nat→St→Hp→Prop) (h0:Pv 0 σ H) (hl:∀ i σ H,i≤xs.length→Pv i σ H→SqT K H a xs)
  (hs:∀ i x σ H,xs[i]?=some x→Pv i σ H→g x σ H fun σ2 H2=>tb { D with nx:=Pv (i+1),ct:=Pv (i+1),bk:=D.nx } σ2 H2) (hd:∀ σ H,Pv xs.length σ H→D.nx σ H) :
  ∃ W:Nat→Nat→St→Hp→Prop,(∃ m,W 0 m σ H)∧∀ i m σ H,W i m σ H →
   ((Itt K a).stop i H∧D.nx σ H)∨((Itt K a).go i H∧∃ N:St→Hp→Prop,(∀ σ' H',N σ' H'→∃ m',m' < m∧W (i+1) m' σ' H')∧∀ x H',(Itt K a).yld i H x H'→g x σ H' fun σ2 H2=>tb { D with nx:=N,ct:=N,bk:=D.nx } σ2 H2):=by
 refine ⟨fun i m σ H=>m=xs.length - i∧i≤xs.length∧Pv i σ H,⟨xs.length,by simp,Nat.zero_le _,h0⟩,?_⟩
 rintro i m σ H ⟨rfl,hi,p⟩
 have q:=hl i σ H hi p
 by_cases hlt:i < xs.length
 ·refine .inr ⟨⟨xs,xs[i],q,by simp [hlt]⟩,Pv (i+1),fun σ' H' p'=>⟨xs.length - (i+1),by omega,rfl,hlt,p'⟩,fun x H' y=>?_⟩
  obtain ⟨e,y⟩:=y
  subst e
  exact hs i x σ _ (y xs q) p
 ·have e:i=xs.length:=by omega
  subst e
  exact .inl ⟨⟨xs,q,Nat.le_refl _⟩,hd σ H p⟩
theorem J0z {lo:Int} {n:Nat} {g:TG} {tb:TS} {D:Ends} {σ:St} {H:Hp} (Pv:Nat→St→Hp→Prop) (h0:Pv 0 σ H)
  (hs:∀ i σ H,i < n→Pv i σ H→g (.int (lo+i)) σ H fun σ2 H2=>tb { D with nx:=Pv (i+1),ct:=Pv (i+1),bk:=D.nx } σ2 H2) (hd:∀ σ H,Pv n σ H→D.nx σ H) :
  ∃ W:Nat→Nat→St→Hp→Prop,(∃ m,W 0 m σ H)∧∀ i m σ H,W i m σ H →
   ((Itr lo n).stop i H∧D.nx σ H)∨((Itr lo n).go i H∧∃ N:St→Hp→Prop,(∀ σ' H',N σ' H'→∃ m',m' < m∧W (i+1) m' σ' H')∧∀ x H',(Itr lo n).yld i H x H'→g x σ H' fun σ2 H2=>tb { D with nx:=N,ct:=N,bk:=D.nx } σ2 H2):=by
 refine ⟨fun i m σ H=>m=n - i∧i≤n∧Pv i σ H,⟨n,by simp,Nat.zero_le _,h0⟩,?_⟩
 rintro i m σ H ⟨rfl,hi,p⟩
 by_cases hlt:i < n
 ·refine .inr ⟨hlt,Pv (i+1),fun σ' H' p'=>⟨n - (i+1),by omega,rfl,hlt,p'⟩,fun x H' y=>?_⟩
  obtain ⟨e,y⟩:=y
  subst e y
  exact hs i σ _ hlt p
 ·have e:i=n:=by omega
  subst e
  exact .inl ⟨Nat.le_refl _,hd σ H p⟩
end L2
namespace L2
open PySem PySem.Spec PyProof.Rows
abbrev R2:=V→V→Hp→VK→Prop
def OpR (X:Cx) (f:Value→Value→Sem Value) (r:R2):Prop:=
 ∀ (pins:List (Addr×Obj)) (s:Shared) (σ:St) (H:Hp) (x y:V) (v u:Value) (Q:VK),Inv X pins σ H s→RelV x v→RelV y u→r x y H Q →
  wpAny (model X.prog X.w) X.A (f v u) (EP X pins σ Q) X.xe s
def Z4n (X:Cx) (f:Value) (r:List V→Hp→VK→Prop):Prop:=
 ∀ (pins:List (Addr×Obj)) (s:Shared) (σ:St) (H:Hp) (xs:List V) (us:List Value) (Q:VK),Inv X pins σ H s→Vals xs us→r xs H Q →
  wpAny (model X.prog X.w) X.A (call f us) (EP X pins σ Q) X.xe s
def TruR (X:Cx) (r:V→Hp→(Bool→Hp→Prop)→Prop):Prop:=
 ∀ (pins:List (Addr×Obj)) (s:Shared) (σ:St) (H:Hp) (x:V) (v:Value) (Q:Bool→Hp→Prop),Inv X pins σ H s→RelV x v→r x H Q →
  wpAny (model X.prog X.w) X.A (truthy v) (TP X pins σ Q) X.xe s
def tOp (r:R2) (ta tb:TE):TE:=fun σ H Q=>ta σ H fun x H1=>tb σ H1 fun y H2=>r x y H2 Q
def tUn (r:V→Hp→VK→Prop) (ta:TE):TE:=fun σ H Q=>ta σ H fun x H1=>r x H1 Q
def rI (C:Int→Int→Prop) (g:Int→Int→V):R2:=fun x y H Q=>∃ i j,x=.int i∧y=.int j∧C i j∧Q (g i j) H
def rI0 (g:Int→Int→V):R2:=fun x y H Q=>∃ i j,x=.int i∧y=.int j∧Q (g i j) H
def rU (g:Int→V):V→Hp→VK→Prop:=fun x H Q=>∃ i,x=.int i∧Q (g i) H
section
variable {X:Cx} {a b c:Expr} {ta tb tc:TE} {pos:Pos}
theorem binT (ha:PE X a ta) (hb:PE X b tb) {pins:List (Addr×Obj)} {s:Shared} {σ:St} {H:Hp} {R:V→V→Hp→Prop} (I:Inv X pins σ H s)
  (h:ta σ H fun x H1=>tb σ H1 fun y H2=>R x y H2) {Q:Value→Shared→Prop} {f:Value→Value→Sem Value}
  (hf:∀ v u s2 x y H2,Inv X pins σ H2 s2→RelV x v→RelV y u→R x y H2→wpAny (model X.prog X.w) X.A (f v u) Q X.xe s2) :
  wpAny (model X.prog X.w) X.A (eval a X.env) (fun v s₁=>wpAny (model X.prog X.w) X.A (eval b X.env) (fun u s₂=>wpAny (model X.prog X.w) X.A (f v u) Q X.xe s₂) X.xe s₁) X.xe s:=by
 refine thn (ha pins s σ H _ I h) fun v s1 ⟨x,H1,I1,r1,q1⟩=>?_
 refine thn (hb pins s1 σ H1 _ I1 q1) fun u s2 ⟨y,H2,I2,r2,q2⟩=>?_
 exact hf v u s2 x y H2 I2 r1 r2 q2
theorem Z0J {op:Operator} {r:R2} (ho:OpR X (binaryOp op) r) (ha:PE X a ta) (hb:PE X b tb):PE X (.BinOp a op b pos) (tOp r ta tb):=by
 intro pins s σ H Q I h
 exact wpAny_BinOp (binT ha hb I h fun v u s2 x y H2 I2 rx ry q=>ho pins s2 σ H2 x y v u Q I2 rx ry q)
theorem opI {f:Value→Value→Sem Value} {C:Int→Int→Prop} {g:Int→Int→Int}
  (rule:∀ (i j:Int) (t u:Tok) (s:Shared) (Q:Value→Shared→Prop) (E:Value→Shared→Prop),C i j→Q (.int (g i j) s.toks) { s with toks:=s.toks+1 }→wpAny (model X.prog X.w) X.A (f (.int i t) (.int j u)) Q E s) :
  OpR X f (rI C fun i j=>.int (g i j)):=by
 intro pins s σ H x y v u Q I rx ry h
 obtain ⟨i,j,rfl,rfl,hc,q⟩:=h
 obtain ⟨t,rfl⟩:=rx
 obtain ⟨t',rfl⟩:=ry
 exact rule i j t t' s _ _ hc ⟨.int (g i j),H,I.tok _,⟨_,rfl⟩,q⟩
theorem opI0 {f:Value→Value→Sem Value} {g:Int→Int→Int}
  (rule:∀ (i j:Int) (t u:Tok) (s:Shared) (Q:Value→Shared→Prop) (E:Value→Shared→Prop),Q (.int (g i j) s.toks) { s with toks:=s.toks+1 }→wpAny (model X.prog X.w) X.A (f (.int i t) (.int j u)) Q E s) :
  OpR X f (rI0 fun i j=>.int (g i j)):=by
 intro pins s σ H x y v u Q I rx ry h
 obtain ⟨i,j,rfl,rfl,q⟩:=h
 obtain ⟨t,rfl⟩:=rx
 obtain ⟨t',rfl⟩:=ry
 exact rule i j t t' s _ _ ⟨.int (g i j),H,I.tok _,⟨_,rfl⟩,q⟩
theorem opB0 {f:Value→Value→Sem Value} {g:Int→Int→Bool}
  (rule:∀ (i j:Int) (t u:Tok) (s:Shared) (Q:Value→Shared→Prop) (E:Value→Shared→Prop),Q (.bool (g i j)) s→wpAny (model X.prog X.w) X.A (f (.int i t) (.int j u)) Q E s) :
  OpR X f (rI0 fun i j=>.bl (g i j)):=by
 intro pins s σ H x y v u Q I rx ry h
 obtain ⟨i,j,rfl,rfl,q⟩:=h
 obtain ⟨t,rfl⟩:=rx
 obtain ⟨t',rfl⟩:=ry
 exact rule i j t t' s _ _ ⟨.bl (g i j),H,I,rfl,q⟩
def CDiv (i j:Int):Prop:=0 < j∧j < 1073741824
def CPow (i j:Int):Prop:=0≤j∧j≤1000000∧i.natAbs < 2 ^ 64
def CMul (i j:Int):Prop:=(-(2 ^ 64) < i∧i < 2 ^ 64)∨(-(2 ^ 64) < j∧j < 2 ^ 64)
theorem CMul.ok {i j:Int} (h:CMul i j):IntMulOk i j:=by
 rcases h with ⟨h1,h2⟩ | ⟨h1,h2⟩
 ·exact .of_left (intBits_le_64 h1 h2)
 ·exact .of_right (intBits_le_64 h1 h2)
theorem Z3J:OpR X (binaryOp .Add) (rI0 fun i j=>.int (i+j)):=opI0 fun _ _ _ _ _ _ _ q=>add_int q
theorem J5E:OpR X (binaryOp .Sub) (rI0 fun i j=>.int (i - j)):=opI0 fun _ _ _ _ _ _ _ q=>sub_int q
theorem Z6P:OpR X (binaryOp .Mult) (rI CMul fun i j=>.int (i * j)):=opI fun _ _ _ _ _ _ _ hc q=>mul_int q hc.ok
theorem Z3L:OpR X (binaryOp .FloorDiv) (rI CDiv fun i j=>.int (i / j)):=opI fun i j _ _ _ _ _ hc q=>by
 have h1:(0:Int) < j:=hc.1
 have h2:j < 1073741824:=hc.2
 exact floordiv_int (by omega) (by rw [Int.fdiv_eq_ediv_of_nonneg i (by omega)]; exact q) (.inl (PyProof.noPylong_small (by omega)))
theorem Z3q:OpR X (binaryOp .Mod) (rI (fun _ j=>0 < j) fun i j=>.int (i % j)):=opI fun i j _ _ _ _ _ hc q=>by
 have h1:(0:Int) < j:=hc
 exact mod_int' (by omega) (by rw [Int.fmod_eq_emod_of_nonneg i (by omega)]; exact q)
end
def scal:V→V→Bool
 | .non,.non=>true | .non,.int _=>true | .int _,.non=>true | .non,.bl _=>true | .bl _,.non=>true | .non,.str _=>true | .str _,.non=>true
 | .int _,.int _=>true | .bl _,.bl _=>true | .str _,.str _=>true | .byt _,.byt _=>true
 | .int _,.str _=>true | .str _,.int _=>true | .bl _,.str _=>true | .str _,.bl _=>true
 | _,_=>false
def rEq:R2:=fun x y H Q=>scal x y=true∧Q (.bl (decide (x=y))) H
def rNe:R2:=fun x y H Q=>scal x y=true∧Q (.bl (!decide (x=y))) H
theorem J0c {i j:Int}:decide (V.int i=V.int j)=(i == j):=by
 rw [Bool.eq_iff_iff]
 simp
theorem J3N {i j:Bool}:decide (V.bl i=V.bl j)=(i == j):=by
 rw [Bool.eq_iff_iff]
 simp
theorem Z9Q {i j:Str}:decide (V.str i=V.str j)=(i == j):=by
 rw [Bool.eq_iff_iff]
 simp
theorem J1H {i j:Array UInt8}:decide (V.byt i=V.byt j)=(i.toList == j.toList):=by
 rw [Bool.eq_iff_iff]
 cases i
 cases j
 simp
section
variable {X:Cx} {a b c:Expr} {ta tb tc:TE} {pos:Pos}
theorem Z0H {pins:List (Addr×Obj)} {σ:St} {H:Hp} {s:Shared} {Q:VK} {k k':Bool} (I:Inv X pins σ H s) (q:Q (.bl k) H) (e:k=k'):EP X pins σ Q (.bool k') s:=by
 subst e
 exact ⟨.bl k,H,I,rfl,q⟩
theorem Z4y:OpR X (compareOp .Eq) rEq:=by
 intro pins s σ H x y v u Q I rx ry h
 obtain ⟨hs,q⟩:=h
 cases x with
 | non=>
  cases rx
  cases y with
  | non=>cases ry; exact PySem.EqNone.eq_none_none (Z0H I q (by simp))
  | bl j=>cases ry; exact PySem.EqNone.eq_none_bool (Z0H I q (by simp))
  | int j=>obtain ⟨t',rfl⟩:=ry; exact PySem.EqNone.eq_none_int (Z0H I q (by simp))
  | str j=>obtain ⟨t',rfl⟩:=ry; exact PySem.EqNone.eq_none_str (Z0H I q (by simp))
  | _=>exact absurd (show false=true from hs) Bool.false_ne_true
 | bl i=>
  cases rx
  cases y with
  | non=>cases ry; exact PySem.EqNone.eq_bool_none (Z0H I q (by simp))
  | bl j=>cases ry; exact eq_bool (Z0H I q J3N)
  | str j=>obtain ⟨t',rfl⟩:=ry; exact PySem.EqMixed.eq_bool_str (Z0H I q (by simp))
  | _=>exact absurd (show false=true from hs) Bool.false_ne_true
 | int i=>
  obtain ⟨t,rfl⟩:=rx
  cases y with
  | non=>cases ry; exact PySem.EqNone.eq_int_none (Z0H I q (by simp))
  | int j=>obtain ⟨t',rfl⟩:=ry; exact eq_int (Z0H I q J0c)
  | str j=>obtain ⟨t',rfl⟩:=ry; exact PySem.EqMixed.eq_int_str (Z0H I q (by simp))
  | _=>exact absurd (show false=true from hs) Bool.false_ne_true
 | str i=>
  obtain ⟨t,rfl⟩:=rx
  cases y with
  | non=>cases ry; exact PySem.EqNone.eq_str_none (Z0H I q (by simp))
  | bl j=>cases ry; exact PySem.EqMixed.eq_str_bool (Z0H I q (by simp))
  | int j=>obtain ⟨t',rfl⟩:=ry; exact PySem.EqMixed.eq_str_int (Z0H I q (by simp))
  | str j=>obtain ⟨t',rfl⟩:=ry; exact eq_str (Z0H I q Z9Q)
  | _=>exact absurd (show false=true from hs) Bool.false_ne_true
 | byt i=>
  obtain ⟨t,rfl⟩:=rx
  cases y with
  | byt j=>obtain ⟨t',rfl⟩:=ry; exact W.eq_bytes (Z0H I q J1H)
  | _=>exact absurd (show false=true from hs) Bool.false_ne_true
 | _=>cases y <;> exact absurd (show false=true from hs) Bool.false_ne_true
theorem J6A:OpR X (compareOp .NotEq) rNe:=by
 intro pins s σ H x y v u Q I rx ry h
 obtain ⟨hs,q⟩:=h
 cases x with
 | non=>
  cases rx
  cases y with
  | non=>cases ry; exact PySem.EqNone.ne_none_none (Z0H I q (by simp))
  | bl j=>cases ry; exact PySem.EqNone.ne_none_bool (Z0H I q (by simp))
  | int j=>obtain ⟨t',rfl⟩:=ry; exact PySem.EqNone.ne_none_int (Z0H I q (by simp))
  | str j=>obtain ⟨t',rfl⟩:=ry; exact PySem.EqNone.ne_none_str (Z0H I q (by simp))
  | _=>exact absurd (show false=true from hs) Bool.false_ne_true
 | bl i=>
  cases rx
  cases y with
  | non=>cases ry; exact PySem.EqNone.ne_bool_none (Z0H I q (by simp))
  | bl j=>cases ry; exact ne_bool (Z0H I q (congrArg not J3N))
  | str j=>obtain ⟨t',rfl⟩:=ry; exact PySem.EqMixed.ne_bool_str (Z0H I q (by simp))
  | _=>exact absurd (show false=true from hs) Bool.false_ne_true
 | int i=>
  obtain ⟨t,rfl⟩:=rx
  cases y with
  | non=>cases ry; exact PySem.EqNone.ne_int_none (Z0H I q (by simp))
  | int j=>obtain ⟨t',rfl⟩:=ry; exact ne_int (Z0H I q (congrArg not J0c))
  | str j=>obtain ⟨t',rfl⟩:=ry; exact PySem.EqMixed.ne_int_str (Z0H I q (by simp))
  | _=>exact absurd (show false=true from hs) Bool.false_ne_true
 | str i=>
  obtain ⟨t,rfl⟩:=rx
  cases y with
  | non=>cases ry; exact PySem.EqNone.ne_str_none (Z0H I q (by simp))
  | bl j=>cases ry; exact PySem.EqMixed.ne_str_bool (Z0H I q (by simp))
  | int j=>obtain ⟨t',rfl⟩:=ry; exact PySem.EqMixed.ne_str_int (Z0H I q (by simp))
  | str j=>obtain ⟨t',rfl⟩:=ry; exact ne_str (Z0H I q (congrArg not Z9Q))
  | _=>exact absurd (show false=true from hs) Bool.false_ne_true
 | byt i=>
  obtain ⟨t,rfl⟩:=rx
  cases y with
  | byt j=>obtain ⟨t',rfl⟩:=ry; exact W.ne_bytes (Z0H I q (congrArg not J1H))
  | _=>exact absurd (show false=true from hs) Bool.false_ne_true
 | _=>cases y <;> exact absurd (show false=true from hs) Bool.false_ne_true
theorem J8z:OpR X (compareOp .Lt) (rI0 fun i j=>.bl (decide (i < j))):=opB0 fun _ _ _ _ _ _ _ q=>lt_int q
theorem J6g:OpR X (compareOp .Gt) (rI0 fun i j=>.bl (decide (j < i))):=opB0 fun _ _ _ _ _ _ _ q=>gt_int q
theorem J3Q:OpR X (compareOp .Is) (fun x y H Q=>y=.non∧Q (.bl (decide (x=.non))) H):=by
 intro pins s σ H x y v u Q I rx ry h
 obtain ⟨rfl,q⟩:=h
 cases ry
 refine is_none_gen (Z0H I q ?_)
 cases x <;> first
  | (cases rx; rfl)
  | (obtain ⟨t,rfl⟩:=rx; rfl)
theorem Z5K:OpR X (compareOp .IsNot) (fun x y H Q=>y=.non∧Q (.bl (!decide (x=.non))) H):=by
 intro pins s σ H x y v u Q I rx ry h
 obtain ⟨rfl,q⟩:=h
 cases ry
 refine isnot_none_gen (Z0H I q ?_)
 cases x <;> first
  | (cases rx; rfl)
  | (obtain ⟨t,rfl⟩:=rx; rfl)
theorem Z0V (b:Expr) {op:CmpOp} (h:op≠.In:=by decide) (h2:op≠.NotIn:=by decide):behindInMarks op b=false:=by
 have e1:(op == CmpOp.In)=false:=by cases op <;> first | rfl | exact absurd rfl h
 have e2:(op == CmpOp.NotIn)=false:=by cases op <;> first | rfl | exact absurd rfl h2
 cases b <;> simp [behindInMarks,e1,e2]
theorem Z5O {op:CmpOp} {r:R2} (ho:OpR X (compareOp op) r) (ha:PE X a ta) (hb:PE X b tb) (hm:behindInMarks op b=false):PE X (.Compare a [op] [b] pos) (tOp r ta tb):=by
 intro pins s σ H Q I h
 exact wpAny_Compare1 (binT ha hb I h fun v u s2 x y H2 I2 rx ry q=>ho pins s2 σ H2 x y v u Q I2 rx ry q) hm
def J6c (t:TE):TT:=fun σ H Q=>t σ H fun x H'=>∃ k,x=.bl k∧Q k H'
theorem Z0u {op:CmpOp} {r:R2} (ho:OpR X (compareOp op) r) (ha:PE X a ta) (hb:PE X b tb) (hm:behindInMarks op b=false):PT X (.Compare a [op] [b] pos) (J6c (tOp r ta tb)):=by
 intro pins s σ H Q I h
 refine wpAny_isTrue_Compare1 (thn (ha pins s σ H _ I h) fun v s1 ⟨x,H1,I1,r1,q1⟩=>thn (hb pins s1 σ H1 _ I1 q1) fun u s2 ⟨y,H2,I2,r2,q2⟩=>
  thn (ho pins s2 σ H2 x y v u _ I2 r1 r2 q2) fun c s3 ⟨z,H3,I3,r3,k,e,q3⟩=>?_) hm
 subst e
 cases r3
 exact wpAny_truthy_bool ⟨H3,I3,q3⟩
def J5B (r r':R2) (ta tb tc:TE):TE:=fun σ H Q=>ta σ H fun x H1=>tb σ H1 fun y H2=>r x y H2 fun z H3=>∃ k,z=.bl k ∧
 (if k=true then tc σ H3 fun w' H4=>r' y w' H4 Q else Q (.bl false) H3)
def TruV (K:W.Frag) (x:V) (H:Hp) (k:Bool):Prop:=
 match x with
 | .non=>k=false
 | .bl b=>k=b
 | .int i=>k=(i != 0)
 | .str y=>y.length≤sizeLine∧k=((y.length:Int) != 0)
 | .byt y=>y.size≤sizeLine∧k=((y.size:Int) != 0)
 | .ref p=>(∃ xs,SqL K H p xs∧k=!xs.isEmpty)∨(∃ xs,SqT K H p xs∧k=!xs.isEmpty)∨∃ kvs,H p=some (.dK kvs)∧k=!kvs.isEmpty
 | _=>False
theorem Z9q {κ:Type} {kvs:List (κ×V)} {vs:List (κ×Value)} (r:KV kvs vs):(!vs.isEmpty)=!kvs.isEmpty:=by
 cases r <;> rfl
theorem Z5C {xs:List V} {its:List Value} (r:Vals xs its):(!its.toArray.isEmpty)=!xs.isEmpty:=by
 cases r <;> simp
theorem Z7d:(sizeLine:Nat) < 2 ^ 63:=by rw [sizeLine_eq]; decide
theorem J5G:TruR X (fun x H Q=>∃ k,TruV X.K x H k∧Q k H):=by
 intro pins s σ H x v Q I rx h
 obtain ⟨k,e,q⟩:=h
 have hl:=Z7d
 have hs:sizeLine=16777216:=sizeLine_eq
 cases x with
 | non=>
  cases rx
  have e':k=false:=e
  subst e'
  exact truthy_none ⟨H,I,q⟩
 | bl b=>
  cases rx
  have e':k=b:=e
  subst e'
  exact wpAny_truthy_bool ⟨H,I,q⟩
 | int i=>
  obtain ⟨t,rfl⟩:=rx
  have e':k=(i != 0):=e
  subst e'
  exact PySem.P.truthy_int ⟨H,I,q⟩
 | str y=>
  obtain ⟨t,rfl⟩:=rx
  obtain ⟨hy,e'⟩:y.length≤sizeLine∧k=((y.length:Int) != 0):=e
  subst e'
  exact PySem.P.truthy_str (by omega) ⟨H,I.tok _,q⟩
 | byt y=>
  obtain ⟨t,rfl⟩:=rx
  obtain ⟨hy,e'⟩:y.size≤sizeLine∧k=((y.size:Int) != 0):=e
  subst e'
  exact W.truthy_bytes (by omega) ⟨H,I.tok _,q⟩
 | ref p=>
  cases rx
  have e':(∃ xs,SqL X.K H p xs∧k=!xs.isEmpty)∨(∃ xs,SqT X.K H p xs∧k=!xs.isEmpty)∨∃ kvs,H p=some (.dK kvs)∧k=!kvs.isEmpty:=e
  rcases e' with ⟨xs,hx,e'⟩ | ⟨xs,hx,e'⟩ | ⟨kvs,hx,e'⟩
  ·subst e'
   obtain ⟨its,r,pl,hz⟩:=I.list hx
   have hlen:=r.length
   exact wpAny_truthy_list pl.isList (by simp only [List.size_toArray]; omega) ⟨H,I.tok _,by rw [Z5C r]; exact q⟩
  ·subst e'
   obtain ⟨its,r,pl,hz⟩:=I.tuple hx
   have hlen:=r.length
   exact truthy_tuple pl (by simp only [List.size_toArray]; omega) ⟨H,I.tok _,by rw [Z5C r]; exact q⟩
  ·subst e'
   obtain ⟨hz,hS,vs,r,m⟩:kvs.length≤sizeLine∧(p == sysModules)=false∧∃ vs,KV kvs vs∧s.heap.DictOf (Z0N X.prog X.w) p vs:=I.hok p _ hx
   have hlen:kvs.length=vs.length:=Paired.length r
   exact wpAny_truthy_dict hS m (by omega) ⟨H,I.tok _,by rw [Z9q r]; exact q⟩
 | _=>exact (show False from e).elim
theorem J0b {x:V} {us:List Value} (r:Vals [x] us):∃ u,us=[u]∧RelV x u:=by
 cases r with
 | cons r1 r2=>cases r2; exact ⟨_,rfl,r1⟩
theorem J7R {x y:V} {us:List Value} (r:Vals [x,y] us):∃ u w',us=[u,w']∧RelV x u∧RelV y w':=by
 cases r with
 | cons r1 r2=>
  cases r2 with
  | cons r3 r4=>cases r4; exact ⟨_,_,rfl,r1,r3⟩
theorem J1o (hc:X.calm=true):Z4n X (.builtin "max") (fun xs H Q=>∃ i j,xs=[.int i,.int j]∧Q (.int (if j > i then j else i)) H):=by
 intro pins s σ H xs us Q I r h
 obtain ⟨i,j,rfl,q⟩:=h
 obtain ⟨u,w',rfl,⟨t,rfl⟩,⟨t',rfl⟩⟩:=J7R r
 refine max_two_ints (I.ok.hd hc) fun h' tk k=>⟨_,H,I.kept k,?_,q⟩
 by_cases hj:j > i
 ·rw [if_pos hj,if_pos hj]; exact ⟨_,rfl⟩
 ·rw [if_neg hj,if_neg hj]; exact ⟨_,rfl⟩
end
end L2
namespace L2
open PySem PySem.Spec PyProof.Rows
structure ObjM (h:Heap) (x dx C:Addr) (mA:Str→Option Value):Prop where
 obj:h.get? x=some (W.instObj C dx)
 ns:h.Ns1 dx mA
 ne:dx≠x
theorem Z9W {h:Heap} {dx:Addr} {mA:Str→Option Value} (n:h.Ns1 dx mA):∃ od,h.get? dx=some od∧∀ name,W.lookIn name od=some (mA name):=by
 obtain ⟨o,es,ep,ho,hd,hk,_,hm⟩:=n
 refine ⟨o,ho,fun name=>?_⟩
 have e:=hm name
 unfold nsFind findBy at e
 rw [← Array.find?_toList] at e
 unfold W.lookIn
 rw [hd]
 dsimp only
 split
 ·rename_i y q
  rw [q] at e
  exact congrArg some e
 ·rename_i q
  rw [q] at e
  have a:es.toList.any (·.refKey)=false:=by
   rw [List.any_eq_false]
   intro y hy
   obtain ⟨z,t,hkey⟩:=hk y (Array.mem_toList_iff.mp hy)
   simp [DictEntry.refKey,hkey]
  have a':¬ es.toList.any (·.refKey)=true:=by rw [a]; exact Bool.false_ne_true
  rw [if_neg a']
  exact congrArg some e
theorem ObjM.look {h:Heap} {x dx C:Addr} {mA:Str→Option Value} (I:ObjM h x dx C mA):∃ od,W.InstAt h x (W.instObj C dx) C (some od)∧∀ name,W.lookIn name od=some (mA name):=
 let ⟨od,ho,hl⟩:=Z9W I.ns
 ⟨od,⟨I.obj,rfl,rfl,ho⟩,hl⟩
section
variable {prog:Program} {w:World} {A:Around} {E:Value→Shared→Prop} {s:Shared} {K:W.Frag} {x dx C f:Addr} {mA:Str→Option Value} {name:Str} {v:Value}
theorem J4T {expr:Bool} {Q:Value→Shared→Prop} (X:K.In s.heap) (I:ObjM s.heap x dx C mA) (hg:W.plainGet K C name=true) (hh:W.hasDictIn K C=true)
  (ha:W.findIn K (.ref C) name=some none) (hv:mA name=some v) (hv':W.handedIn v=true) (h:Q v { s with toks:=s.toks+1 }) :
  wpAny (model prog w) A (getAttr (.ref x) name expr) Q E s:=by
 obtain ⟨od,J,hl⟩:=I.look
 exact W.get_value X J (W.plainGet_of hg).1 (W.findObj_own hh ha rfl (by rw [hl,hv])) hv' h
theorem J2e {pl:Sem Bool} {Q:Value×List Value→Shared→Prop} (X:K.In s.heap) (I:ObjM s.heap x dx C mA) (hg:W.plainGet K C name=true)
  (hf:W.findIn K (.ref C) name=some (some (.ref f))) (ht:W.isFn K (.ref f)=true) (hv:mA name=none) (h:Q (.ref f,[.ref x]) s) :
  wpAny (model prog w) A (getMethod (.ref x) name pl) Q E s:=by
 obtain ⟨od,J,hl⟩:=I.look
 exact W.method_fn X J (W.plainGet_of hg).1 (W.plainGet_of hg).2 hf (beq_iff_eq.mp ht) (by show (W.lookIn name od).map (·.isSome)=some false; rw [hl,hv]; rfl) h
theorem J4v {ns:List Str} {Q:Unit→Shared→Prop} (X:K.In s.heap) (I:ObjM s.heap x dx C mA)
  (hs:W.findIn K (.ref C) "__setattr__"=some (some (.builtin "object.__setattr__"))) (hp:W.plainOver K C=true) (ht:W.takerIn K C name=some none) (hh:W.hasDictIn K C=true)
  (hw:PySem.Within mA ns) (hsz:ns.length≤sizeLine)
  (h:∀ h',ObjM h' x dx C (fun y=>if y=name then some v else mA y)→Heap.SameBut dx s.heap h'→Q () { s with heap:=h',toks:=s.toks+2 }) :
  wpAny (model prog w) A (setAttr (.ref x) name v) Q E s:=by
 obtain ⟨od,J,hl⟩:=I.look
 refine W.set_plain X J hs (W.osa_open (s:={ s with toks:=s.toks+1 }) (r:=none) X J hp ht fun b=>?_)
 obtain ⟨cd,hc,hd'⟩:=W.any_some hh
 have hx:s.heap.get? x=some ⟨.ref C,some dx,.plain,#[]⟩:=I.obj
 refine wpAny_bind (wpAny_pure (wpAny_bind (wpAny_bind (wpAny_loadPart hx (wpAny_bind (W.Looks.here (s:={ s with toks:=s.toks+1 }) (W.looks_clsIn X hc) ?_))))))
 rw [hd']
 refine wpAny_pure (a:=some dx) (wpAny_bind (wpAny_pure (wpAny_bind ?_)))
 refine wpAny_nsSet1 (s:={ s with toks:=s.toks+1 }) I.ns fun h' hn2 hs2=>?_
 obtain ⟨oD,esD,epD,hoD,hdD,hcD⟩:=hn2.count (PySem.Within.cons name v hw)
 refine wpAny_bind (wpAny_lookBehind hoD (by rw [hdD]; exact pastItsLine_dict (Nat.le_trans hcD (by rw [List.length_cons]; omega))) ?_)
 exact wpAny_pure (h _ ⟨(hs2.2 _ (Ne.symm I.ne)).trans I.obj,hn2,I.ne⟩ hs2)
theorem J2w {R:Result→Shared→Prop} {vs:List Value} {kw:List (Str×Value)} (X:K.In s.heap) (hm:W.makesIn K C=true)
  (hi:W.findIn K (.ref C) "__init__"=some (some (.ref f))) (hf:W.typeIn K (.ref f)=some (.type "function"))
  (h:codeAny (model prog w) (A.under (.builtin "type.__call__" ⟨.ref C::vs,kw⟩)) (.call (.ref f) ⟨.ref (s.heap.objs.size+1)::vs,kw⟩) (W.InitBack (s.heap.objs.size+1) R)
   { s with heap:=(s.heap.push W.emptyDict).push (W.instObj C s.heap.objs.size) }) :
  codeAny (model prog w) A (.call (.ref C) ⟨vs,kw⟩) R s:=by
 obtain ⟨hh,g,d,t,os⟩:=s
 exact W.make_core (W.makes_of X hm) (W.looks_findIn X hi) (fun self=>W.bind_fn X self hf) (.inl rfl) h
end
def putF (f:Str) (v:V):List (Str×V)→List (Str×V)
 | []=>[(f,v)]
 | (g,x)::r=>if g=f then (g,v)::r else (g,x)::putF f v r
theorem Z4Q (f g:Str) (v:V):∀ fs:List (Str×V),(putF f v fs).lookup g=if g=f then some v else fs.lookup g
 | []=>by
  show List.lookup g [(f,v)]=_
  by_cases h:g=f
  ·have hb:(g == f)=true:=beq_iff_eq.mpr h
   simp only [List.lookup,hb,if_pos h]
  ·have hb:(g == f)=false:=beq_eq_false_iff_ne.mpr h
   simp only [List.lookup,hb,if_neg h]
 | (k,x)::r=>by
  have ih:=Z4Q f g v r
  rw [show putF f v ((k,x)::r)=(if k=f then (k,v)::r else (k,x)::putF f v r) from rfl]
  by_cases hk:k=f
  ·rw [if_pos hk]
   by_cases h:g=k
   ·have hb:(g == k)=true:=beq_iff_eq.mpr h
    simp only [List.lookup,hb,if_pos (h.trans hk)]
   ·have hb:(g == k)=false:=beq_eq_false_iff_ne.mpr h
    simp only [List.lookup,hb,if_neg (fun e:g=f=>h (e.trans hk.symm))]
  ·rw [if_neg hk]
   by_cases h:g=k
   ·have hb:(g == k)=true:=beq_iff_eq.mpr h
    simp only [List.lookup,hb,if_neg (fun e:g=f=>hk (h.symm.trans e))]
   ·have hb:(g == k)=false:=beq_eq_false_iff_ne.mpr h
    simp only [List.lookup,hb]
    exact ih
theorem Z4X (f:Str) (v:V):∀ fs:List (Str×V),f∈(putF f v fs).map (·.1)∧∀ g,g∈fs.map (·.1)→g∈(putF f v fs).map (·.1)
 | []=>⟨by simp [putF],fun g h=>by simp at h⟩
 | (k,x)::r=>by
  obtain ⟨i1,i2⟩:=Z4X f v r
  rw [show putF f v ((k,x)::r)=(if k=f then (k,v)::r else (k,x)::putF f v r) from rfl]
  by_cases hk:k=f
  ·rw [if_pos hk]
   subst hk
   exact ⟨by simp,fun g h=>by simpa using h⟩
  ·rw [if_neg hk]
   refine ⟨?_,fun g h=>?_⟩
   ·rw [List.map_cons]
    exact List.mem_cons_of_mem _ i1
   ·rw [List.map_cons] at h ⊢
    rcases List.mem_cons.mp h with e | e
    ·exact List.mem_cons.mpr (.inl e)
    ·exact List.mem_cons_of_mem _ (i2 g e)
theorem Z5h (f:Str) (v:V):∀ fs:List (Str×V),(putF f v fs).length≤fs.length+1
 | []=>by simp [putF]
 | (k,x)::r=>by
  have ih:=Z5h f v r
  rw [show putF f v ((k,x)::r)=(if k=f then (k,v)::r else (k,x)::putF f v r) from rfl]
  by_cases hk:k=f
  ·rw [if_pos hk,List.length_cons,List.length_cons]; omega
  ·rw [if_neg hk,List.length_cons,List.length_cons]; omega
theorem RelO.some_of {v:V} {o:Option Value} (r:RelO (some v) o):∃ u,o=some u∧RelV v u:=by
 cases o with
 | none=>exact (show False from r).elim
 | some u=>exact ⟨u,rfl,r⟩
theorem RelO.none_of {o:Option Value} (r:RelO none o):o=none:=by
 cases o with
 | none=>rfl
 | some u=>exact (show False from r).elim
theorem J1L {v:V} {u:Value} (r:RelV v u):W.handedIn u=true:=by
 cases v with
 | non=>cases (show u=Value.none from r); rfl
 | bl b=>cases (show u=Value.bool b from r); rfl
 | int i=>obtain ⟨t,e⟩:=(show ∃ t,u=Value.int i t from r); cases e; rfl
 | str x=>obtain ⟨t,e⟩:=(show ∃ t,u=Value.str x t from r); cases e; rfl
 | byt b=>obtain ⟨t,e⟩:=(show ∃ t,u=Value.bytes b t from r); cases e; rfl
 | flt b=>obtain ⟨t,e⟩:=(show ∃ t,u=Value.float b t from r); cases e; rfl
 | ref a=>cases (show u=Value.ref a from r); rfl
 | ty n=>cases (show u=Value.type n from r); rfl
section
variable {P:Program} {w:World} {H H':Hp} {h h':Heap} {a C dx:Addr} {fs fs':List (Str×V)}
theorem Z5Q (hok:HOk P w H h) (e:H a=some (.ins C dx fs)):∃ mA,ObjM h a dx C mA∧(∀ f,RelO (fs.lookup f) (mA f))∧PySem.Within mA (fs.map (·.1))∧fs.length≤1000∧H dx=some (.own a):=by
 obtain ⟨d,z,ne,ob,mA,n,r,q⟩:=(show ObjOk P w H h a (.ins C dx fs) from hok a _ e)
 exact ⟨mA,⟨ob,n,ne⟩,r,q,z,d⟩
end
structure Cls (K:W.Frag) (C:Addr):Prop where
 pg:W.plainGet K C Str.empty=true
 hd:W.hasDictIn K C=true
 po:W.plainOver K C=true
 sa:W.findIn K (.ref C) "__setattr__"=some (some (.builtin "object.__setattr__"))
theorem Cls.get {K:W.Frag} {C:Addr} (c:Cls K C) (f:Str):W.plainGet K C f=true:=c.pg
def NoAttr (K:W.Frag) (C:Addr) (f:Str):Prop:=W.findIn K (.ref C) f=some none
theorem NoAttr.taker {K:W.Frag} {C:Addr} {f:Str} (n:NoAttr K C f):W.takerIn K C f=some none:=by
 unfold W.takerIn
 rw [show W.findIn K (.ref C) f=some none from n]
 rfl
structure Con (K:W.Frag) (C:Addr) (f:Str) (v:V) (u:Value):Prop where
 at_:W.findIn K (.ref C) f=some (some u)
 rel:RelV v u
 get:W.specialIn K u "__get__"=some none
 cp:W.copiedNames.contains f=false
structure Meth (K:W.Frag) (C:Addr) (m:Str) (f:Addr):Prop where
 at_:W.findIn K (.ref C) m=some (some (.ref f))
 fn:W.isFn K (.ref f)=true
 kp:W.keepIn K (.ref f)=true
section
variable {X:Cx} {pins:List (Addr×Obj)} {σ:St} {H:Hp} {s:Shared} {a C dx:Addr} {fs:List (Str×V)} {f:Str} {v:V} {A:Around} {E:Value→Shared→Prop}
theorem Z9H {b:Bool} {Q:Value→Shared→Prop} (I:Inv X pins σ H s) (e:H a=some (.ins C dx fs)) (c:Cls X.K C) (n:NoAttr X.K C f) (l:fs.lookup f=some v)
  (h:∀ u s',Inv X pins σ H s'→RelV v u→Q u s'):wpAny (model X.prog X.w) A (getAttr (.ref a) f b) Q E s:=by
 obtain ⟨mA,O,r,_,_,_⟩:=Z5Q I.hok e
 obtain ⟨u,hu,ru⟩:=RelO.some_of (v:=v) (o:=mA f) (by rw [← l]; exact r f)
 exact J4T I.kIn O (c.get f) c.hd n hu (J1L ru) (h u _ (I.tok _) ru)
theorem Z4l {m:Str} {g:Addr} {pl:Sem Bool} {Q:Value×List Value→Shared→Prop} (I:Inv X pins σ H s) (e:H a=some (.ins C dx fs)) (c:Cls X.K C) (k:Meth X.K C m g) (l:fs.lookup m=none)
  (h:Q (.ref g,[.ref a]) s):wpAny (model X.prog X.w) A (getMethod (.ref a) m pl) Q E s:=by
 obtain ⟨mA,O,r,_,_,_⟩:=Z5Q I.hok e
 have hn:mA m=none:=RelO.none_of (by rw [← l]; exact r m)
 exact J2e I.kIn O (c.get m) k.at_ k.fn hn h
theorem Z9J {y:V} {u:Value} {Q:Unit→Shared→Prop} (I:Inv X pins σ H s) (e:H a=some (.ins C dx fs)) (c:Cls X.K C) (n:NoAttr X.K C f) (hl:fs.length < 1000) (ry:RelV y u)
  (h:∀ s',Inv X pins σ (upd H a (.ins C dx (putF f y fs))) s'→Q () s'):wpAny (model X.prog X.w) A (setAttr (.ref a) f u) Q E s:=by
 obtain ⟨mA,O,r,wi,_,ho⟩:=Z5Q I.hok e
 have hz:(fs.map (·.1)).length≤sizeLine:=by rw [List.length_map,sizeLine_eq]; omega
 refine J4v I.kIn O c.sa c.po n.taker c.hd wi hz fun h' O' sb=>h _ ?_
 have hd:∃ o,h'.get? dx=some o:=let ⟨o,_,_,e',_⟩:=O'.ns; ⟨o,e'⟩
 refine I.write (x:=a) (e:=dx) (by rw [e]; exact True.intro) (.inr ho) (fun b q hb z=>(sb.2 b hb).trans z) hd ?_
 refine ⟨by rw [Z0j O.ne]; exact ho,?_,O.ne,O'.obj,_,O'.ns,fun g=>?_,fun g hg=>?_⟩
 ·have:=Z5h f y fs; omega
 ·show RelO ((putF f y fs).lookup g) (if g=f then some u else mA g)
  rw [Z4Q]
  by_cases q:g=f
  ·rw [if_pos q,if_pos q]; exact ry
  ·rw [if_neg q,if_neg q]; exact r g
 ·by_cases q:g=f
  ·rw [q]; exact (Z4X f y fs).1
  ·refine (Z4X f y fs).2 g (wi g fun z=>hg ?_)
   show (if g=f then some u else mA g)=none
   rw [if_neg q]; exact z
theorem Inv.made (I:Inv X pins σ H s):Inv X pins σ (upd (upd H s.heap.objs.size (.own (s.heap.objs.size+1))) (s.heap.objs.size+1) (.ins C s.heap.objs.size []))
  { s with heap:=(s.heap.push W.emptyDict).push (W.instObj C s.heap.objs.size) }:=by
 have e1:(s.heap.push W.emptyDict).get? s.heap.objs.size=some W.emptyDict:=Heap.get?_push_size s.heap rfl
 have e2:((s.heap.push W.emptyDict).push (W.instObj C s.heap.objs.size)).get? (s.heap.objs.size+1)=some (W.instObj C s.heap.objs.size):=by
  have:=Heap.get?_push_size (s.heap.push W.emptyDict) (o:=W.instObj C s.heap.objs.size) rfl
  rwa [Heap.size_push] at this
 have e3:(s.heap.push W.emptyDict).Ns s.heap.objs.size (fun _=>none):=⟨W.emptyDict,#[],_,e1,rfl,(fun e he=>absurd he (by simp)),fun _=>rfl⟩
 have I1:=I.laid (a:=s.heap.objs.size) (o:=.own (s.heap.objs.size+1)) (h':=s.heap.push W.emptyDict) (t':=s.toks) (fun b u q=>Heap.get?_push_of_some _ q) (Nat.le_refl _) ⟨_,e1⟩
 refine I1.laid (a:=s.heap.objs.size+1) (o:=.ins C s.heap.objs.size []) (t':=s.toks) (fun b u q=>Heap.get?_push_of_some _ q) (Nat.le_of_eq (Heap.size_push _ _)) ?_
 have ne:s.heap.objs.size≠s.heap.objs.size+1:=Nat.ne_of_lt (Nat.lt_succ_self _)
 refine ⟨by rw [Z0j ne,Z0e],Nat.zero_le _,ne,e2,fun _=>none,(Heap.Ns1.of_empty e3).at fun o q=>Heap.get?_push_of_some _ q,fun _=>True.intro,fun y hy=>absurd rfl hy⟩
theorem J4U {prog:Program} {w:World} {env:Env} {e:Expr} {f:Str} {pos:Pos} {s:Shared} {Q:Value→Shared→Prop} (hb:attributeBase e f env (eval e env)=eval e env)
  (h:wpAny (model prog w) A (eval e env) (fun o s₁=>wpAny (model prog w) A (getAttr o f true) Q E s₁) E s):wpAny (model prog w) A (eval (.Attribute e f pos) env) Q E s:=
 Attribute_any_ h (by rw [arm_eval_Attribute,hb])
end
def tFld (K:W.Frag) (ta:TE) (f:Str):TE:=fun σ H Q=>ta σ H fun x H1=>∃ a C dx fs v,x=.ref a∧H1 a=some (.ins C dx fs)∧Cls K C∧NoAttr K C f∧fs.lookup f=some v∧Q v H1
def tCon (K:W.Frag) (ta:TE) (f:Str):TE:=fun σ H Q=>ta σ H fun x H1=>∃ a C dx fs v u,x=.ref a∧H1 a=some (.ins C dx fs)∧Cls K C∧Con K C f v u∧fs.lookup f=none∧Q v H1
def sFld (K:W.Frag) (ta tv:TE) (f:Str):TS:=fun D σ H=>tv σ H fun y H1=>ta σ H1 fun x H2=>∃ a C dx fs,x=.ref a∧H2 a=some (.ins C dx fs)∧Cls K C∧NoAttr K C f∧fs.length < 1000 ∧
 D.nx σ (upd H2 a (.ins C dx (putF f y fs)))
def J4X (K:W.Frag) (ta tv:TE) (rd:V→V→Hp→VK→Prop) (f:Str):TS:=fun D σ H=>ta σ H fun x H1=>∃ a C dx fs v,x=.ref a∧H1 a=some (.ins C dx fs)∧Cls K C∧NoAttr K C f∧fs.lookup f=some v ∧
 tv σ H1 fun y H2=>rd v y H2 fun z H3=>∃ dx' fs',H3 a=some (.ins C dx' fs')∧fs'.length < 1000∧D.nx σ (upd H3 a (.ins C dx' (putF f z fs')))
section
variable {X:Cx} {o e value:Expr} {f:Str} {pos pos' tpos:Pos} {ta tv:TE}
theorem J3X {pl:Sem Bool} {m:Str} {apos:Pos} {args:List Expr} {pins:List (Addr×Obj)} {s:Shared} {σ:St} {H:Hp} {Q:Value→Shared→Prop} {te:TE} (he:PE X e te) (I:Inv X pins σ H s)
  (h:te σ H fun x H1=>∃ a C dx fs g,x=.ref a∧H1 a=some (.ins C dx fs)∧Cls X.K C∧Meth X.K C m g∧fs.lookup m=none ∧
   ∀ s1,Inv X pins σ H1 s1→wpAny (model X.prog X.w) X.A (callWith pos (.ref g) [.ref a] (backTo pos (starEach args X.env)) (backToKw pos (keywordEach [] X.env))) Q X.xe s1)
  (ht:eval (.Call (.Attribute e m apos) args [] pos) X.env=(do
   let ov ← eval e X.env
   standAt apos.atName
   let (f,first) ← holding [ov] (getMethod ov m pl)
   callWith pos f first (backTo pos (starEach args X.env)) (backToKw pos (keywordEach [] X.env)))) :
  wpAny (model X.prog X.w) X.A (eval (.Call (.Attribute e m apos) args [] pos) X.env) Q X.xe s:=by
 refine W.methodCall_KW (pl:=pl) (thn (he pins s σ H _ I h) fun u s1 hz_=>?_) ht
 obtain ⟨x,H1,I1,rx,a,C,dx,fs,g,ex,ea,c,k,l,q⟩:=hz_
 subst ex
 obtain rfl:u=Value.ref a:=rx
 exact Z4l I1 ea c k l (q s1 I1)
end
section
variable {X:Cx} {pins:List (Addr×Obj)} {σ:St} {H:Hp} {s:Shared} {A:Around} {E:Value→Shared→Prop} {Q:Value→Shared→Prop} {c:Value} {b:Bool}
inductive TyOf (K:W.Frag) (H:Hp):V→Value→Prop where
 | non:TyOf K H .non (.type "NoneType")
 | bl (x:Bool):TyOf K H (.bl x) (.type "bool")
 | int (i:Int):TyOf K H (.int i) (.type "int")
 | str (x:Str):TyOf K H (.str x) (.type "str")
 | flt (x:UInt64):TyOf K H (.flt x) (.type "float")
 | lst {a:Addr} {xs:List V} (e:H a=some (.lst xs)):TyOf K H (.ref a) (.type "list")
 | frz {a:Addr} {o:Obj} {xs:List V} (e:H a=some (.frz o (.lst xs))):TyOf K H (.ref a) (.type "list")
 | tup {a:Addr} {xs:List V} (e:H a=some (.tup xs)):TyOf K H (.ref a) (.type "tuple")
 | dK {a:Addr} {kvs:List (Key×V)} (e:H a=some (.dK kvs)):TyOf K H (.ref a) (.type "dict")
 | dT {a:Addr} {kvs:List (List Key×V)} (e:H a=some (.dT kvs)):TyOf K H (.ref a) (.type "dict")
 | ins {a C dx:Addr} {fs:List (Str×V)} (e:H a=some (.ins C dx fs)) (cl:Cls K C) (ha:W.findIn K (.ref C) "__class__"=some (some (.builtin "object.__class__")))
   (hn:W.specialIn K (.builtin "object.__class__") "__get__"=some (some (.builtin "getset_descriptor.__get__"))) (htk:W.takesIn K (.builtin "object.__class__")=some true)
   (hm:W.mroIn K C (.type "object")=some true):TyOf K H (.ref a) (.ref C)
theorem Z4c {x:V} {u t:Value} (I:Inv X pins σ H s) (rx:RelV x u) (ty:TyOf X.K H x t) (e:W.kitOne X.K t c=some b) (h:∀ tk,Q (.bool b) { s with toks:=tk }) :
  wpAny (model X.prog X.w) A (call (.builtin "isinstance") [u,c]) Q E s:=by
 cases ty with
 | non=>cases (show u=Value.none from rx); exact W.kia_one W.kitx_none I.kIn True.intro e (fun z=>nomatch z) h
 | bl y=>cases (show u=Value.bool y from rx); exact W.kia_one W.kitx_bool I.kIn True.intro e (fun z=>nomatch z) h
 | int i=>obtain ⟨t,q⟩:=(show ∃ t,u=Value.int i t from rx); cases q; exact W.kia_one W.kitx_int I.kIn True.intro e (fun z=>nomatch z) h
 | str y=>obtain ⟨t,q⟩:=(show ∃ t,u=Value.str y t from rx); cases q; exact W.kia_one W.kitx_str I.kIn True.intro e (fun z=>nomatch z) h
 | flt y=>obtain ⟨t,q⟩:=(show ∃ t,u=Value.float y t from rx); cases q; exact W.kia_one W.kitx_float I.kIn True.intro e (fun z=>nomatch z) h
 | @lst a xs ea=>
  cases (show u=Value.ref a from rx)
  obtain ⟨_,_,n,_,h1⟩:=(show ObjOk X.prog X.w H s.heap a (.lst xs) from I.hok a _ ea)
  exact W.kia_one W.kitx_list I.kIn ⟨_,h1,rfl⟩ e (fun z=>nomatch z) h
 | @frz a ob xs ea=>
  cases (show u=Value.ref a from rx)
  obtain ⟨_,_,_,n,_,h1⟩:=(show ObjOk X.prog X.w H s.heap a (.frz ob (.lst xs)) from I.hok a _ ea)
  exact W.kia_one W.kitx_list I.kIn ⟨_,h1,rfl⟩ e (fun z=>nomatch z) h
 | @tup a xs ea=>
  cases (show u=Value.ref a from rx)
  obtain ⟨_,_,_,p⟩:=(show ObjOk X.prog X.w H s.heap a (.tup xs) from I.hok a _ ea)
  obtain ⟨o,h1,h2,_⟩:=p
  exact W.kia_one W.kitx_tuple I.kIn ⟨o,h1,h2⟩ e (fun z=>nomatch z) h
 | @dK a kvs ea=>
  cases (show u=Value.ref a from rx)
  obtain ⟨_,_,vs,_,p⟩:=(show ObjOk X.prog X.w H s.heap a (.dK kvs) from I.hok a _ ea)
  obtain ⟨o,es,ep,h1,h2,_⟩:=p
  exact W.kia_one W.kitx_dict I.kIn ⟨o,h1,h2.1⟩ e (fun z=>nomatch z) h
 | @dT a kvs ea=>
  cases (show u=Value.ref a from rx)
  obtain ⟨_,_,xs,_,o,es,ep,h1,h2,_⟩:=(show ObjOk X.prog X.w H s.heap a (.dT kvs) from I.hok a _ ea)
  exact W.kia_one W.kitx_dict I.kIn ⟨o,h1,h2.1⟩ e (fun z=>nomatch z) h
 | @ins a C dx fs ea cl ha hn htk hm=>
  cases (show u=Value.ref a from rx)
  obtain ⟨mA,O,_⟩:=Z5Q I.hok ea
  obtain ⟨od,J,_⟩:=O.look
  exact W.kia_one (W.kitx_own (cl.get _) cl.hd ha hn htk hm) I.kIn J e (fun z=>nomatch z) h
end
end L2
namespace L2
open PySem PySem.Spec PyProof.Rows
structure Room (k:Nat) (A:Around):Prop where
 hd:A.handled=none
 dp:A.depth+3 * k+5 < recursionLimit
 un:A.units+16 * k+200 < cLine
 gd:A.guards=some []
theorem Room.mono {j k:Nat} {A:Around} (r:Room k A) (h:j≤k):Room j A:=⟨r.hd,by have:=r.dp; omega,by have:=r.un; omega,r.gd⟩
theorem Room.deeper {k:Nat} {A:Around} (r:Room (k+1) A) (env:Env):Room k (A.deeper env):=
 ⟨r.hd,by have:=r.dp; show A.depth+1+3 * k+5 < _; omega,by have:=r.un; show A.units+3+16 * k+200 < _; omega,r.gd⟩
theorem Z9r {A:Around} {C:Addr} {us:List Value} {kw:List (Str×Value)}:(A.under (.builtin "type.__call__" ⟨.ref C::us,kw⟩)).depth=A.depth+1:=by
 first | rfl | simp [Around.under,Code.weight,Code.isCreation,Code.isGuard,Code.isCaller,Code.frames,Code.isFrame,guardIds]
theorem Z9j {A:Around} {C:Addr} {us:List Value} {kw:List (Str×Value)}:(A.under (.builtin "type.__call__" ⟨.ref C::us,kw⟩)).units=A.units+1:=by
 first | rfl | simp [Around.under,Code.cUnits,Code.frames,Code.isFrame]
theorem Room.make {k:Nat} {A:Around} (r:Room (k+1) A) (C:Addr) (us:List Value) (kw:List (Str×Value)):Room k (A.under (.builtin "type.__call__" ⟨.ref C::us,kw⟩)):=
 ⟨r.hd,by have:=r.dp; rw [Z9r]; omega,by have:=r.un; rw [Z9j]; omega,r.gd⟩
theorem Room.depth {k:Nat} {A:Around} (r:Room k A):A.depth < recursionLimit:=by have:=r.dp; omega
theorem Room.units {k:Nat} {A:Around} (r:Room k A):A.units+64 < cLine:=by have:=r.un; omega
def tNil:TA:=fun _ H Q=>Q [] H
def J4j (ta:TE) (tr:TA):TA:=fun σ H Q=>ta σ H fun x H1=>tr σ H1 fun xs H2=>Q (x::xs) H2
section
variable {X:Cx} {e:Expr} {es:List Expr} {te:TE} {t:TA} {pos:Pos}
theorem Z0d:PA X [] tNil:=fun _ _ _ _ H Q I h=>Calls.spliced_nil ⟨[],H,I,.nil,h⟩
theorem Z0a (ha:PE X e te) (hr:PA X es t) (hs:starEach (e::es) X.env=(false,eval e X.env)::starEach es X.env:=by rfl):PA X (e::es) (J4j te t):=by
 intro pos pins s σ H Q I h
 rw [hs]
 show wpAny _ _ (spliced ((false,eval e X.env)::backTo pos (starEach es X.env))) _ _ s
 refine Calls.spliced_cons (thn (ha pins s σ H _ I h) fun u s1 ⟨x,H1,I1,r1,q1⟩=>?_)
 exact thn (hr pos pins s1 σ H1 _ I1 q1) fun us s2 ⟨xs,H2,I2,r2,q2⟩=>⟨x::xs,H2,I2,.cons r1 r2,q2⟩
def tTup (t:TA):TE:=fun σ H Q=>t σ H fun xs H1=>xs.length≤sizeLine∧∀ p,H1 p=none→Q (.ref p) (upd H1 p (.tup xs))
def tLst (t:TA):TE:=fun σ H Q=>t σ H fun xs H1=>xs.length≤sizeLine∧∀ p,H1 p=none→Q (.ref p) (upd H1 p (.lst xs))
theorem Z0y {x1} (h:PA X es t):PE X (.Tuple es x1 pos) (tTup t):=by
 intro pins s σ H Q I hq
 refine wpAny_Tuple_spliced (thn (h pos pins s σ H _ I hq) fun us s1 ⟨xs,H1,I1,r,z,q⟩=>⟨by rw [← r.length]; exact z,?_⟩)
 have hf:H1 s1.heap.objs.size=none:=I1.hok.fresh (Nat.le_refl _)
 refine ⟨.ref s1.heap.objs.size,upd H1 s1.heap.objs.size (.tup xs),I1.laid (t':=s1.toks) (fun b u e=>Heap.get?_push_of_some _ e) (Nat.le_refl _) ?_,rfl,q _ hf⟩
 exact ⟨⟨z,Z8m⟩,us,r,⟨_,Heap.get?_push_size _ rfl,rfl,_,rfl⟩⟩
theorem Z0B (h:PA X es t):PE X (.List es pos) (tLst t):=by
 intro pins s σ H Q I hq
 refine wpAny_List_spliced (thn (h pos pins s σ H _ I hq) fun us s1 ⟨xs,H1,I1,r,z,q⟩=>⟨by rw [← r.length]; exact z,?_⟩)
 have hf:H1 s1.heap.objs.size=none:=I1.hok.fresh (Nat.le_refl _)
 refine ⟨.ref s1.heap.objs.size,upd H1 s1.heap.objs.size (.lst xs),I1.laid (t':=s1.toks) (fun b u e=>Heap.get?_push_of_some _ e) (Nat.le_refl _) ?_,rfl,q _ hf⟩
 exact ⟨z,us,0,r,Heap.get?_push_size _ rfl⟩
end
abbrev Sp:=List V→Hp→VK→XK→Prop
abbrev CXT:=List Env→Hp→Shared→XK→Value→Shared→Prop
structure Env0 (P:Program) (w:World) (K:W.Frag) (mg:Str→Option Value) (base:Heap) (A:Around) (outer:List Env) (s:Shared) (H:Hp):Prop where
 frames:A.frames=some outer
 mod:Mod K mg base
 bs:∀ b o,base.get? b=some o→s.heap.get? b=some o∧H b=none
 bsz:base.objs.size≤s.heap.objs.size
 funs:s.heap.FunFrames base outer
 frf:∀ b∈frs outer,H b=none
 hok:HOk P w H s.heap
 bare:AllBare s.gens
def CE (outer:List Env) (P:Program) (w:World) (H:Hp) (s:Shared) (Q:VK) (u:Value) (s':Shared):Prop:=
 ∃ v H',s'.os=s.os∧AllBare s'.gens∧Un (frs outer) [] H H' s.heap s'.heap∧HOk P w H' s'.heap∧RelV v u∧Q v H'
def CR (CX:CXT) (outer:List Env) (P:Program) (w:World) (H:Hp) (s:Shared) (Q:VK) (E:XK) (r:Result) (s':Shared):Prop:=
 match r with
 | .ok (.ret u)=>CE outer P w H s Q u s'
 | .ok _=>False
 | .error e=>CX outer H s E e s'
structure FnOk (P:Program) (w:World) (K:W.Frag) (mg:Str→Option Value) (base:Heap) (CX:CXT) (k:Nat) (f:Addr) (fd:FuncData) (ps:List Str) (sp:Sp):Prop where
 len:∀ vs H Q E,sp vs H Q E→vs.length=ps.length
 run:∀ (A:Around) (outer:List Env) (s:Shared) (H:Hp) (args:Args) (us:List Value) (vs:List V) (Q:VK) (E:XK),Room k A→Env0 P w K mg base A outer s H→BindsTo s fd args (ps.zip us)→Vals vs us→sp vs H Q E →
  codeAny (model P w) A (.call (.ref f) args) (CR CX outer P w H s Q E) s
theorem Env0.make {P:Program} {w:World} {K:W.Frag} {mg:Str→Option Value} {base:Heap} {A:Around} {outer:List Env} {s:Shared} {H:Hp} (e:Env0 P w K mg base A outer s H) (C:Addr) (us:List Value) (kw:List (Str×Value)) :
  Env0 P w K mg base (A.under (.builtin "type.__call__" ⟨.ref C::us,kw⟩)) outer s H:=⟨by first | exact e.frames | (simpa [Around.under,Code.envs,Code.isFrame,pushEnvs] using e.frames),e.mod,e.bs,e.bsz,e.funs,e.frf,e.hok,e.bare⟩
section
variable {X:Cx} {pins:List (Addr×Obj)} {σ:St} {H:Hp} {s s':Shared}
theorem Inv.env0 (I:Inv X pins σ H s):Env0 X.prog X.w X.K X.mg X.base X.A X.stack s H:=
 ⟨I.ok.frames,I.ok.mod,I.bs,Nat.le_trans I.ok.bsz I.sz,I.stack,I.stkFree,I.hok,I.bare⟩
theorem Inv.after {Q:VK} {u:Value} (I:Inv X pins σ H s) (h:CE X.stack X.prog X.w H s Q u s'):EP X pins σ Q u s':=by
 obtain ⟨v,H',os,bare,un,hok,r,q⟩:=h
 obtain ⟨hh,g,d,t,os'⟩:=s'
 obtain rfl:os'=s.os:=os
 exact ⟨v,H',I.call (h':=hh) (g':=g) (d':=d) (t':=t) (ch:=[]) un hok bare (fun b z=>absurd z (by simp)),r,q⟩
end
def J2q (sp:Sp) (dvs:List V) (E:XK) (t:TA):TE:=fun σ H Q=>t σ H fun vs H1=>sp (vs++dvs) H1 Q E
def J0D (C:Addr) (m:Str) (sp:Sp) (dvs:List V) (E:XK) (ta:TE) (t:TA):TE:=fun σ H Q=>ta σ H fun x H1=>∃ a dx fs,x=.ref a∧H1 a=some (.ins C dx fs)∧fs.lookup m=none ∧
 t σ H1 fun vs H2=>sp (x::(vs++dvs)) H2 Q E
def J0e (C:Addr) (sp:Sp) (dvs:List V) (E:XK) (t:TA):TE:=fun σ H Q=>t σ H fun vs H1=>∀ x dx,H1 x=none→H1 dx=none→dx≠x →
 sp (.ref x::(vs++dvs)) (upd (upd H1 dx (.own x)) x (.ins C dx [])) (fun v H2=>v=.non∧Q (.ref x) H2) E
def Binds (K:W.Frag) (fd:FuncData) (ps:List Str) (ds:List Value):Prop:=
 ∀ (s:Shared) (us:List Value),K.In s.heap→(us++ds).length=ps.length→BindsTo s fd ⟨us,[]⟩ (ps.zip (us++ds))
theorem Binds.all {K:W.Frag} {fd:FuncData} {ps:List Str} (h:∀ us:List Value,us.length=ps.length→bindArgs fd ⟨us,[]⟩=pure (ps.zip us)):Binds K fd ps []:=fun s us _ hl=>by
 rw [List.append_nil] at hl ⊢
 exact .of_eq (h us hl)
def Z4w (CX:CXT) (X:Cx) (E:XK):Prop:=∀ (pins:List (Addr×Obj)) (σ:St) (H:Hp) (s:Shared) (e:Value) (s':Shared),Inv X pins σ H s→CX X.stack H s E e s'→X.xe e s'
section
variable {X:Cx} {CX:CXT} {k:Nat} {f C:Addr} {fd:FuncData} {ps:List Str} {sp:Sp} {dvs:List V} {ds:List Value} {E:XK} {x m:Str} {p pos apos:Pos} {e o:Expr} {es:List Expr} {ta:TE} {t:TA}
theorem J1x {pins:List (Addr×Obj)} {σ:St} {H:Hp} {s:Shared} {Q:VK} {us:List Value} {vs:List V} (F:FnOk X.prog X.w X.K X.mg X.base CX k f fd ps sp) (hr:Room k X.A) (hb:Binds X.K fd ps ds) (hd:Vals dvs ds) (hx:Z4w CX X E)
  (I:Inv X pins σ H s) (r:Vals vs us) (h:sp (vs++dvs) H Q E):wpAny (model X.prog X.w) X.A (call (.ref f) us) (EP X pins σ Q) X.xe s:=by
 have r2:Vals (vs++dvs) (us++ds):=r.append hd
 have hl:(us++ds).length=ps.length:=by rw [← r2.length]; exact F.len _ _ _ _ h
 refine wpAny_call (codeAny_mono (F.run X.A X.stack s H ⟨us,[]⟩ (us++ds) (vs++dvs) Q E hr I.env0 (hb s us I.kIn hl) r2 h) fun r s' hq=>?_)
 cases r with
 | error e=>exact hx pins σ H s e s' I hq
 | ok fl=>
  cases fl with
  | ret u=>exact I.after hq
  | next=>exact False.elim hq
  | brk=>exact False.elim hq
  | cont=>exact False.elim hq
theorem J1G (F:FnOk X.prog X.w X.K X.mg X.base CX k f fd ps sp) (hr:Room k X.A) (hg:Gl X x) (hm:X.mg x=some (.ref f)) (hk:W.keepIn X.K (.ref f)=true) (hb:Binds X.K fd ps ds) (hd:Vals dvs ds) (hx:Z4w CX X E)
  (ha:PA X (e::es) t) (hdb:(x == ("__debug__":Str))=false:=by decide) (he:starEach (e::es) X.env=(false,eval e X.env)::starEach es X.env:=by rfl) (hpl:(backTo pos (starEach es X.env)).any (·.1)=false:=by rfl) :
  PE X (.Call (.Name x p) (e::es) [] pos) (J2q sp dvs E t):=by
 intro pins s σ H Q I h
 refine wpAny_Call_Name_kw (Z7J I hg hm ?_ hdb)
 refine W.callWith_K (h₀:=X.base) I.ok.mod.kin hk (thn (ha pos pins s σ H _ I h) fun us s1 ⟨vs,H1,I1,r,q⟩=>⟨I1.kIn,?_⟩) he hpl
 exact J1x F hr hb hd hx I1 r q
theorem J4f {pl:Sem Bool} (he:PE X o ta) (c:Cls X.K C) (hm:Meth X.K C m f) (F:FnOk X.prog X.w X.K X.mg X.base CX k f fd ps sp) (hr:Room k X.A) (hb:Binds X.K fd ps ds) (hd:Vals dvs ds) (hx:Z4w CX X E) (ha:PA X (e::es) t)
  (hst:starEach (e::es) X.env=(false,eval e X.env)::starEach es X.env:=by rfl) (hpl:(backTo pos (starEach es X.env)).any (·.1)=false:=by rfl)
  (ht:eval (.Call (.Attribute o m apos) (e::es) [] pos) X.env=(do
   let ov ← eval o X.env
   standAt apos.atName
   let (f,first) ← holding [ov] (getMethod ov m pl)
   callWith pos f first (backTo pos (starEach (e::es) X.env)) (backToKw pos (keywordEach [] X.env))):=by rfl) :
  PE X (.Call (.Attribute o m apos) (e::es) [] pos) (J0D C m sp dvs E ta t):=by
 intro pins s σ H Q I h
 refine W.methodCall_KW (pl:=pl) (thn (he pins s σ H _ I h) fun u s1 hz_=>?_) ht
 obtain ⟨x,H1,I1,rx,a,dx,fs,ex,ea,l,q⟩:=hz_
 subst ex
 obtain rfl:u=Value.ref a:=rx
 refine Z4l I1 ea c hm l ?_
 refine W.callWith_K (first:=[.ref a]) (h₀:=X.base) I.ok.mod.kin hm.kp (thn (ha pos pins s1 σ H1 _ I1 q) fun us s2 ⟨vs,H2,I2,r,q2⟩=>⟨I2.kIn,?_⟩) hst hpl
 exact J1x (us:=.ref a::us) (vs:=.ref a::vs) F hr hb hd hx I2 (.cons rfl r) q2
theorem J2m {pl:Sem Bool} (he:PE X o ta) (c:Cls X.K C) (hm:Meth X.K C m f) (F:FnOk X.prog X.w X.K X.mg X.base CX k f fd ps sp) (hr:Room k X.A) (hb:Binds X.K fd ps ds) (hd:Vals dvs ds) (hx:Z4w CX X E)
  (ht:eval (.Call (.Attribute o m apos) [] [] pos) X.env=(do
   let ov ← eval o X.env
   standAt apos.atName
   let (f,first) ← holding [ov] (getMethod ov m pl)
   callWith pos f first (backTo pos (starEach [] X.env)) (backToKw pos (keywordEach [] X.env))):=by rfl) :
  PE X (.Call (.Attribute o m apos) [] [] pos) (J0D C m sp dvs E ta tNil):=by
 intro pins s σ H Q I h
 refine W.methodCall_KW (pl:=pl) (thn (he pins s σ H _ I h) fun u s1 hz_=>?_) ht
 obtain ⟨x,H1,I1,rx,a,dx,fs,ex,ea,l,q⟩:=hz_
 subst ex
 obtain rfl:u=Value.ref a:=rx
 refine Z4l I1 ea c hm l ?_
 exact W.callWith_K0 (first:=[.ref a]) I1.kIn hm.kp (J1x (us:=[.ref a]) (vs:=[.ref a]) F hr hb hd hx I1 (.cons rfl .nil) q)
structure Mk (K:W.Frag) (C f:Addr):Prop where
 makes:W.makesIn K C=true
 init:W.findIn K (.ref C) "__init__"=some (some (.ref f))
 fn:W.isFn K (.ref f)=true
 kp:W.keepIn K (.ref C)=true
theorem Z9e {pins:List (Addr×Obj)} {σ:St} {H:Hp} {s:Shared} {Q:VK} {us:List Value} {vs:List V} (M:Mk X.K C f) (F:FnOk X.prog X.w X.K X.mg X.base CX k f fd ps sp) (hr:Room (k+1) X.A) (hb:Binds X.K fd ps ds) (hd:Vals dvs ds)
  (hx:Z4w CX X E) (I:Inv X pins σ H s) (r:Vals vs us)
  (h:∀ x dx,H x=none→H dx=none→dx≠x→sp (.ref x::(vs++dvs)) (upd (upd H dx (.own x)) x (.ins C dx [])) (fun v H2=>v=.non∧Q (.ref x) H2) E) :
  wpAny (model X.prog X.w) X.A (call (.ref C) us) (EP X pins σ Q) X.xe s:=by
 have hq:=h (s.heap.objs.size+1) s.heap.objs.size (I.hok.fresh (Nat.le_succ _)) (I.hok.fresh (Nat.le_refl _)) (Nat.ne_of_lt (Nat.lt_succ_self _))
 have I2:=Inv.made (C:=C) I
 have r2:Vals (V.ref (s.heap.objs.size+1)::(vs++dvs)) (Value.ref (s.heap.objs.size+1)::(us++ds)):=.cons rfl (r.append hd)
 have hl:(Value.ref (s.heap.objs.size+1)::us++ds).length=ps.length:=by
  have e:=r2.length
  rw [F.len _ _ _ _ hq] at e
  exact e.symm
 refine wpAny_call (J2w (f:=f) I.kIn M.makes M.init (beq_iff_eq.mp M.fn) (codeAny_mono (F.run _ X.stack _ _ ⟨Value.ref (s.heap.objs.size+1)::us,[]⟩ (Value.ref (s.heap.objs.size+1)::(us++ds)) _ _ E (hr.make C us [])
  (I2.env0.make C us []) (hb _ (Value.ref (s.heap.objs.size+1)::us) I2.kIn hl) r2 hq) fun r s' hq'=>?_))
 cases r with
 | error e=>exact hx pins σ _ _ e s' I2 hq'
 | ok fl=>
  cases fl with
  | ret u=>
   obtain ⟨v,H',I3,rv,ev,q3⟩:=I2.after hq'
   subst ev
   exact ⟨rv,⟨V.ref (s.heap.objs.size+1),H',I3,rfl,q3⟩⟩
  | next=>exact False.elim hq'
  | brk=>exact False.elim hq'
  | cont=>exact False.elim hq'
theorem J4m (M:Mk X.K C f) (F:FnOk X.prog X.w X.K X.mg X.base CX k f fd ps sp) (hr:Room (k+1) X.A) (hg:Gl X x) (hm:X.mg x=some (.ref C)) (hb:Binds X.K fd ps ds) (hd:Vals dvs ds) (hx:Z4w CX X E)
  (ha:PA X (e::es) t) (hdb:(x == ("__debug__":Str))=false:=by decide) (he:starEach (e::es) X.env=(false,eval e X.env)::starEach es X.env:=by rfl) (hpl:(backTo pos (starEach es X.env)).any (·.1)=false:=by rfl) :
  PE X (.Call (.Name x p) (e::es) [] pos) (J0e C sp dvs E t):=by
 intro pins s σ H Q I h
 refine wpAny_Call_Name_kw (Z7J I hg hm ?_ hdb)
 refine W.callWith_K (h₀:=X.base) I.ok.mod.kin M.kp (thn (ha pos pins s σ H _ I h) fun us s1 ⟨vs,H1,I1,r,q⟩=>⟨I1.kIn,?_⟩) he hpl
 exact Z9e M F hr hb hd hx I1 r q
theorem J3d (M:Mk X.K C f) (F:FnOk X.prog X.w X.K X.mg X.base CX k f fd ps sp) (hr:Room (k+1) X.A) (hg:Gl X x) (hm:X.mg x=some (.ref C)) (hb:Binds X.K fd ps ds) (hd:Vals dvs ds) (hx:Z4w CX X E)
  (hdb:(x == ("__debug__":Str))=false:=by decide):PE X (.Call (.Name x p) [] [] pos) (J0e C sp dvs E tNil):=by
 intro pins s σ H Q I h
 refine wpAny_Call_Name_kw (Z7J I hg hm ?_ hdb)
 exact W.callWith_K0 I.kIn M.kp (Z9e (us:=[]) M F hr hb hd hx I .nil h)
end
def PK (X:Cx) (kws:List Keyword) (t:TA):Prop:=
 ∀ (pos:Pos) (pins:List (Addr×Obj)) (s:Shared) (σ:St) (H:Hp) (Q:List V→Hp→Prop),Inv X pins σ H s→t σ H Q→wpAny (model X.prog X.w) X.A (evalAll ((backToKw pos (keywordEach kws X.env)).map (·.2))) (AP X pins σ Q) X.xe s
section
variable {X:Cx} {CX:CXT} {k:Nat} {f C:Addr} {fd:FuncData} {ps ks:List Str} {sp:Sp} {E:XK} {x m:Str} {p pos apos kpos:Pos} {e o:Expr} {es:List Expr} {kws:List Keyword} {te ta:TE} {t tk:TA} {nm:Option Str}
theorem J5V:PK X [] tNil:=fun _ _ _ _ H Q I h=>wpAny_evalAll_nil ⟨[],H,I,.nil,h⟩
theorem J4h (ha:PE X e te) (hr:PK X kws t):PK X (⟨nm,e,kpos⟩::kws) (J4j te t):=by
 intro pos pins s σ H Q I h
 show wpAny _ _ (evalAll ((do let v ← eval e X.env; standAt pos; pure v)::(backToKw pos (keywordEach kws X.env)).map (·.2))) _ _ s
 refine wpAny_evalAll_cons (wpAny_bind (thn (ha pins s σ H _ I h) fun u s1 ⟨x,H1,I1,r1,q1⟩=>wpAny_bind (wpAny_standAt (wpAny_pure ?_))))
 exact thn (hr pos pins s1 σ H1 _ I1 q1) fun us s2 ⟨xs,H2,I2,r2,q2⟩=>⟨x::xs,H2,I2,.cons r1 r2,q2⟩
variable {g:List Value→List Value→List Value} {gV:List V→List V→List V}
end
structure Z0m (N P:List Str) (sc:Scope):Prop where
 kind:sc.kind=.function
 co:sc.isCoroutine=false
 gen:sc.isGenerator=false
 nd:N.Nodup
 pre:N.take P.length=P
 par:∀ x∈P,sc.names.lookup x=some .local∨sc.names.lookup x=some .cell
 nofree:∀ y∈sc.names,y.2≠.free
theorem Z6K {kindOf:Str→Option NameKind} {x:Str}:∀ {binds:List (Str×Value)} {m:Str→Option Value},(∀ v,(x,v)∉binds)→bindL kindOf binds m x=m x
 | [],_,_=>rfl
 | (n,v)::r,m,h=>by
  unfold bindL
  rw [Z6K fun w hw=>h w (List.mem_cons_of_mem _ hw)]
  split
  ·have:x≠n:=by rintro rfl; exact h v List.mem_cons_self
   simp [this]
  ·rfl
theorem Z6V {kindOf:Str→Option NameKind} {x:Str}:∀ {binds:List (Str×Value)} {m:Str→Option Value},(∀ v,(x,v)∉binds)→bindC kindOf binds m x=m x
 | [],_,_=>rfl
 | (n,v)::r,m,h=>by
  unfold bindC
  rw [Z6V fun w hw=>h w (List.mem_cons_of_mem _ hw)]
  split
  ·rfl
  ·have:x≠n:=by rintro rfl; exact h v List.mem_cons_self
   simp [this]
theorem Z6k {kindOf:Str→Option NameKind} {x:Str} {v:Value}:∀ {P:List Str} {vs:List Value} {i:Nat} {m:Str→Option Value},P.Nodup→P[i]?=some x→vs[i]?=some v→kindOf x=some .local →
  bindL kindOf (P.zip vs) m x=some v
 | [],_,_,_,_,h,_,_=>by simp at h
 | _::_,[],_,_,_,_,h,_=>by simp at h
 | p::P,w::vs,0,m,nd,h1,h2,hk=>by
  simp at h1 h2; subst h1; subst h2
  show bindL kindOf ((p,w)::P.zip vs) m p=_
  unfold bindL
  rw [Z6K fun v hv=>(List.nodup_cons.mp nd).1 (List.of_mem_zip hv).1,if_pos hk]
  simp
 | p::P,w::vs,i+1,m,nd,h1,h2,hk=>by
  show bindL kindOf ((p,w)::P.zip vs) m x=_
  unfold bindL
  exact Z6k (i:=i) (List.nodup_cons.mp nd).2 (by simpa using h1) (by simpa using h2) hk
theorem Z7k {kindOf:Str→Option NameKind} {x:Str} {v:Value}:∀ {P:List Str} {vs:List Value} {i:Nat} {m:Str→Option Value},P.Nodup→P[i]?=some x→vs[i]?=some v→kindOf x≠some .local →
  bindC kindOf (P.zip vs) m x=some v
 | [],_,_,_,_,h,_,_=>by simp at h
 | _::_,[],_,_,_,_,h,_=>by simp at h
 | p::P,w::vs,0,m,nd,h1,h2,hk=>by
  simp at h1 h2; subst h1; subst h2
  show bindC kindOf ((p,w)::P.zip vs) m p=_
  unfold bindC
  rw [Z6V fun v hv=>(List.nodup_cons.mp nd).1 (List.of_mem_zip hv).1,if_neg hk]
  simp
 | p::P,w::vs,i+1,m,nd,h1,h2,hk=>by
  show bindC kindOf ((p,w)::P.zip vs) m x=_
  unfold bindC
  exact Z7k (i:=i) (List.nodup_cons.mp nd).2 (by simpa using h1) (by simpa using h2) hk
def Z4U (N:List Str) (vs:List V):St:=vs.map some++List.replicate (N.length - vs.length) none
def cxOf (CX:CXT) (P:Program) (w:World) (K:W.Frag) (mg:Str→Option Value) (base:Heap) (N:List Str) (qual:Str) (scope:Scope) (f:Addr) (cd:Value) (A:Around) (outer:List Env) (s:Shared) (H:Hp) (E:XK):Cx where
 prog:=P
 w:=w
 K:=K
 mg:=mg
 base:=base
 A:=A.deeper (envOfC qual scope s.heap.objs.size f cd)
 N:=N
 s₀:=s
 H₀:=H
 env:=envOfC qual scope s.heap.objs.size f cd
 outer:=outer
 stack:=envOfC qual scope s.heap.objs.size f cd::outer
 ex:=[]
 calm:=true
 fn:=fun _=>true
 pn:=[]
 xe:=fun e s'=>wpAny (model P w) (A.deeper (envOfC qual scope s.heap.objs.size f cd)) (leaving (envOfC qual scope s.heap.objs.size f cd) e) (fun _ s''=>CX outer H s E e s'') (fun e' s''=>CX outer H s E e' s'') s'
theorem Z8J {sc:Scope} {n:Nat} {x:Str} (h:sc.names.lookup x=some .cell):∃ c,(cellsFrom n sc.names []).lookup x=some c:=by
 have q:=W.cellsFrom_some sc.names n [] (.inl h)
 exact Option.isSome_iff_exists.mp q
theorem J0U {CX:CXT} {P:Program} {w:World} {K:W.Frag} {mg:Str→Option Value} {base:Heap} {N ps:List Str} {qual:Str} {scope:Scope} {f:Addr} {cd:Value} {A:Around} {outer:List Env} {s s1:Shared} {H:Hp} {E:XK} {us:List Value} {vs:List V}
  (S:Z0m N ps scope) (hd:A.handled=none) (e0:Env0 P w K mg base A outer s H) (hl:vs.length=ps.length) (r:Vals vs us)
  (x:InCallC s s.heap.objs.size (bindL (envOfC qual scope s.heap.objs.size f cd).kindOf (ps.zip us) fun _=>none) (cellsFrom (s.heap.objs.size+1) scope.names []) (bindC (envOfC qual scope s.heap.objs.size f cd).kindOf (ps.zip us) fun _=>none) s1) :
  Inv (cxOf CX P w K mg base N qual scope f cd A outer s H E) [] (Z4U N vs) H s1:=by
 have hpl:ps.length≤N.length:=by have:=congrArg List.length S.pre; rw [List.length_take] at this; omega
 obtain ⟨h1,tk,rfl,hk⟩:=x.done
 have noA:∀ b:Addr,b∉(cxOf CX P w K mg base N qual scope f cd A outer s H E).ex:=fun b z=>absurd (show b∈([]:List Addr) from z) (by simp)
 refine ⟨⟨e0.mod,S.kind,rfl,rfl,Nat.le_refl _,fun y z c h1 h2=>?_,fun y hy=>?_,fun y c _ h=>?_,fun _=>hd,Around.frames_deeper e0.frames,.inr ⟨rfl,rfl⟩,fun b z=>absurd z (noA b),e0.bs,e0.bsz,fun b _ _=>noA b,fun b z=>absurd z (noA b),e0.funs,e0.frf⟩,
  rfl,e0.bare,Un.kept hk,⟨_,x.toInCall.ns,fun i y v h1 h2 h3=>?_⟩,fun y c h=>⟨_,x.cell y c h⟩,e0.hok.fresh (Nat.le_refl _),fun y c h=>?_,fun p hp=>absurd (show p∈([]:List (Addr×Obj)) from hp) (by simp),e0.hok.kept hk,?_⟩
 ·exact name_of_addr x.apart (PySem.mem_of_lookup h1) (PySem.mem_of_lookup h2)
 ·have hy:scope.names.lookup y=some .cell∨scope.names.lookup y=some .free:=hy
  rcases hy with hy | hy
  ·exact Z8J hy
  ·exact absurd rfl (S.nofree _ (PySem.mem_of_lookup hy))
 ·exact Nat.le_of_lt (x.above y c (PySem.mem_of_lookup h))
 ·have hi:i < vs.length:=by
   unfold Z4U at h2
   by_cases hi:i < vs.length
   ·exact hi
   ·rw [List.getElem?_append_right (by simpa using hi)] at h2
    rw [List.getElem?_replicate] at h2
    split at h2 <;> cases h2
  have ha:vs[i]?=some v:=by
   unfold Z4U at h2
   rw [List.getElem?_append_left (by simpa using hi),List.getElem?_map] at h2
   cases e:vs[i]? with
   | none=>rw [e] at h2; cases h2
   | some a=>rw [e] at h2; cases h2; rfl
  obtain ⟨u,hu,rv⟩:=r.get ha
  have hp:ps[i]?=some y:=by
   rw [← S.pre,List.getElem?_take_of_lt (by omega)]; exact h1
  have ndP:ps.Nodup:=by rw [← S.pre]; exact S.nd.sublist (List.take_sublist _ _)
  refine ⟨u,rv,?_⟩
  rcases S.par y (List.mem_of_getElem? hp) with k | k
  ·exact .inl ⟨k,Z6k ndP hp hu k⟩
  ·obtain ⟨c,e⟩:=Z8J (n:=s.heap.objs.size+1) k
   refine .inr ⟨.inl k,c,e,?_⟩
   have q:=x.cell y c e
   rw [Z7k ndP hp hu (by show scope.names.lookup y≠_; rw [k]; decide)] at q
   exact q
 ·exact e0.hok.fresh (Nat.le_of_lt (x.above y c (PySem.mem_of_lookup h)))
 ·unfold Z4U
  show _=N.length
  rw [List.length_append,List.length_map,List.length_replicate]
  omega
theorem J6x {CX:CXT} {P:Program} {w:World} {K:W.Frag} {mg:Str→Option Value} {base:Heap} {k:Nat} {f:Addr} {name qual:Str} {params:Arguments} {body:List Stmt} {scope:Scope} {dV kV doc pm cdv ct oc:Value} {an od:Option Addr}
  {osl:Array (Option Value)} {N ps:List Str} {sp:Sp} (lk:K.lookup f=some ⟨oc,od,.func (W.fnOf name qual params body scope dV kV doc pm an cdv ct),osl⟩) (hcd:W.codeIn K cdv qual=true) (S:Z0m N ps scope)
  (len:∀ vs H Q E,sp vs H Q E→vs.length=ps.length)
  (hbody:∀ (A:Around) (outer:List Env) (s:Shared) (H:Hp) (vs:List V) (Q:VK) (E:XK),Room k (A.deeper (envOfC qual scope s.heap.objs.size f cdv))→sp vs H Q E →
   ∃ t,PSs (cxOf CX P w K mg base N qual scope f cdv A outer s H E) body t∧t { nx:=fun _ H'=>Q .non H',rt:=Q } (Z4U N vs) H) :
  FnOk P w K mg base CX (k+1) f (W.fnOf name qual params body scope dV kV doc pm an cdv ct) ps sp:=by
 refine ⟨len,fun A outer s H args us vs Q E hr e0 hb r hsp=>?_⟩
 have hl:=len _ _ _ _ hsp
 have KX:K.In s.heap:=e0.mod.kin.keeps fun b o e=>(e0.bs b o e).1
 have lim:s.heap.NoLimit:=e0.mod.nolimit.keeps fun b o e=>(e0.bs b o e).1
 have hkind:∀ y∈ps.zip us,scope.names.lookup y.1=some .local∨(scope.names.lookup y.1=some .cell∧((cellsFrom (s.heap.objs.size+1) scope.names []).lookup y.1).isSome=true):=fun ⟨n,v⟩ hy=>by
  rcases S.par n (List.of_mem_zip hy).1 with q | q
  ·exact .inl q
  ·exact .inr ⟨q,W.cellsFrom_some _ _ _ (.inl q)⟩
 refine codeAny_call_function hr.depth (KX _ _ lk) rfl S.co S.gen rfl (W.codeRec_of KX hcd) (hb _ _ _ _ ?_)
 refine wpAny_newFunctionEnv_cells S.kind hkind fun env he s1 x=>?_
 subst he
 refine ⟨lim.keeps x.toInCall.keep,codeAny_func ?_⟩
 obtain ⟨t,ht,hq⟩:=hbody A outer s H vs Q E (hr.deeper _) hsp
 have I:Inv (cxOf CX P w K mg base N qual scope f cdv A outer s H E) [] (Z4U N vs) H s1:=J0U S hr.hd e0 hl r x
 refine wpAny_mono (ht [] s1 (Z4U N vs) H _ I hq) (fun fl s' hs=>?_) fun e s' hs=>hs
 have fin:∀ {σ':St} {H':Hp} {v:V} {u:Value},Inv (cxOf CX P w K mg base N qual scope f cdv A outer s H E) [] σ' H' s'→RelV v u→Q v H'→CE outer P w H s Q u s':=
  fun {σ' H' v u} J rv q=>⟨v,H',J.os,J.bare,J.base,J.hok,rv,q⟩
 cases fl with
 | ret u=>
  obtain ⟨v,σ',H',J,rv,q⟩:=hs
  exact fin J rv q
 | next=>
  obtain ⟨σ',H',J,q⟩:=hs
  exact fin (v:=V.non) (u:=Value.none) J rfl q
 | brk=>
  obtain ⟨_,_,_,q⟩:=hs
  exact False.elim q
 | cont=>
  obtain ⟨_,_,_,q⟩:=hs
  exact False.elim q
end L2
namespace L2
open PySem PySem.Spec PyProof.Rows
section
variable {X:Cx} {x:Str} {p pos:Pos} {e:Expr} {es:List Expr} {t:TA} {id T:String} {r:List V→Hp→VK→Prop}
def tCB (r:List V→Hp→VK→Prop) (t:TA):TE:=fun σ H Q=>t σ H fun vs H1=>r vs H1 Q
theorem Z0M (hc:Z4n X (.builtin id) r) (hg:Gl X x) (hm:X.mg x=none) (hv:bootBuiltins x=some (.builtin id)) (ha:PA X (e::es) t) (hn:x≠"__name__":=by decide) (hdb:(x == ("__debug__":Str))=false:=by decide)
  (he:starEach (e::es) X.env=(false,eval e X.env)::starEach es X.env:=by rfl) (hpl:(backTo pos (starEach es X.env)).any (·.1)=false:=by rfl):PE X (.Call (.Name x p) (e::es) [] pos) (tCB r t):=by
 intro pins s σ H Q I h
 refine wpAny_Call_Name_kw (Z3o I hg hm hv ?_ hn hdb)
 exact PyProof.Rows.callWith_builtin1 (thn (ha pos pins s σ H _ I h) fun us s1 ⟨vs,H1,I1,r1,q1⟩=>hc pins s1 σ H1 vs us Q I1 r1 q1) he hpl
theorem Z0L (hc:Z4n X (.type T) r) (hg:Gl X x) (hm:X.mg x=none) (hv:bootBuiltins x=some (.type T)) (ha:PA X (e::es) t) (hn:x≠"__name__":=by decide) (hdb:(x == ("__debug__":Str))=false:=by decide)
  (he:starEach (e::es) X.env=(false,eval e X.env)::starEach es X.env:=by rfl) (hpl:(backTo pos (starEach es X.env)).any (·.1)=false:=by rfl):PE X (.Call (.Name x p) (e::es) [] pos) (tCB r t):=by
 intro pins s σ H Q I h
 refine wpAny_Call_Name_kw (Z3o I hg hm hv ?_ hn hdb)
 exact PyProof.Rows.callWith_type1 (thn (ha pos pins s σ H _ I h) fun us s1 ⟨vs,H1,I1,r1,q1⟩=>hc pins s1 σ H1 vs us Q I1 r1 q1) he hpl
end
end L2
namespace HT
open PySem PyProof.Rows
section
open PySem.SeqAt
open PySem.AutoSeq1 (wpAny_loadPart')
open PySem.MeetsSeq PySem.MeetsSeq2 PySem.MeetsSeq3
end
section
variable {prog:Program} {w:World} {A:Around} {E:Value→Shared→Prop} {s:Shared}
theorem cat_tup {t b:Addr} {vs ws:List Value} {Q:Value→Shared→Prop} (ht:IsTup s.heap t vs.toArray) (hb:IsTup s.heap b ws.toArray) (hv:vs≠[])
  (h1:ws=[]→Q (.ref t) s) (h2:ws≠[]→Q (.ref s.heap.objs.size) { s with heap:=s.heap.push { cls:=.type "tuple",data:=.seq (vs++ws).toArray } })
  (hsz:vs.length+ws.length≤sizeLine):wpAny (model prog w) A (binaryOp .Add (.ref t) (.ref b)) Q E s:=by
 obtain ⟨⟨cls,dd,data,sl⟩,ho,hc,n,hd⟩:=id ht
 obtain ⟨⟨cls2,dd2,data2,sl2⟩,ho2,hc2,n2,hd2⟩:=id hb
 simp only at hc hd hc2 hd2
 subst hc hd hc2 hd2
 have e:vs.toArray++ws.toArray=(vs++ws).toArray:=by simp
 by_cases hw:ws=[]
 ·exact concat_meets ⟨_,ho,rfl⟩ ⟨_,ho2,rfl⟩ noFill_tuple_add seq_tuple_add PySem.F.slot_tuple_add PySem.F.entry_tuple_add (PySem.F.args_tuple_add_2 _ _)
   (tuple_addW1 t b vs.toArray ws.toArray n n2 dd dd2 sl sl2 (by simpa using hv) (by simp [hw])) ⟨ho,ho2,h1 hw⟩
 ·refine concat_meets ⟨_,ho,rfl⟩ ⟨_,ho2,rfl⟩ noFill_tuple_add seq_tuple_add PySem.F.slot_tuple_add PySem.F.entry_tuple_add (PySem.F.args_tuple_add_2 _ _)
   (tuple_addW2 t b vs.toArray ws.toArray n n2 dd dd2 sl sl2 (by simpa using hv) (by simpa using hw) (by rw [List.size_toArray,List.size_toArray]; exact hsz)) ⟨ho,ho2,?_⟩
  rw [e]
  exact h2 hw
def sIx (n d:Nat):Option Int→Nat
 | none=>d
 | some v=>if v < 0 then (v+(n:Int)).toNat else min v.toNat n
theorem sIx_none (n d:Nat):sIx n d none=d:=rfl
theorem sIx_nat (n d k:Nat):sIx n d (some (k:Int))=min k n:=by
 show (if (k:Int) < 0 then ((k:Int)+(n:Int)).toNat else min (k:Int).toNat n)=min k n
 rw [if_neg (by omega),Int.toNat_natCast]
theorem J5m (n d:Nat) (hd:d≤n) (o:Option Int):sIx n d o≤n:=by
 cases o with
 | none=>exact hd
 | some v=>
  show (if v < 0 then (v+(n:Int)).toNat else min v.toNat n)≤n
  by_cases hv:v < 0
  ·rw [if_pos hv]; omega
  ·rw [if_neg hv]; exact Nat.min_le_right _ _
theorem J0L (v:Int) (n d:Nat):(if v < 0 then max (v+(n:Int)) 0 else min v (n:Int))=((sIx n d (some v):Nat):Int):=by
 show (if v < 0 then max (v+(n:Int)) 0 else min v (n:Int))=(((if v < 0 then (v+(n:Int)).toNat else min v.toNat n):Nat):Int)
 by_cases hv:v < 0
 ·simp only [if_pos hv]; omega
 ·simp only [if_neg hv]; omega
theorem Z9z (lo hi:Option Int) (n:Nat):Builtin.Slice.sliceAdjust lo hi 1 (n:Int)=(((sIx n 0 lo:Nat):Int),((sIx n n hi:Nat):Int)):=by
 have h1:¬ ((1:Int) < 0):=by omega
 unfold Builtin.Slice.sliceAdjust
 simp only [h1,if_false]
 refine Prod.ext ?_ ?_
 ·cases lo with
  | none=>rfl
  | some v=>exact J0L v n 0
 ·cases hi with
  | none=>rfl
  | some v=>exact J0L v n n
theorem Z9D (i j:Nat):Builtin.Slice.slicePlaces (i:Int) (j:Int) 1=j - i:=by
 unfold Builtin.Slice.slicePlaces
 have h1:(1:Int) > 0:=by omega
 simp only [h1,if_true,Int.ediv_one]
 split <;> omega
theorem Z5k {v:Value} {o:Option Int} {Q:Option Int→Shared→Prop} (p:IsPart v o) (h:Q o s):wpAny (model prog w) A (Builtin.Slice.slicePartIndex v) Q E s:=by
 cases p with
 | none=>exact slicePart_none h
 | int i t=>exact slicePart_int h
theorem Z3l {sl:Addr} {vl vu:Value} {lo hi:Option Int} {n:Nat} {Q:Int×Int×Nat→Shared→Prop} (hs:s.heap.IsSliceOf sl vl vu .none) (pl:IsPart vl lo) (pu:IsPart vu hi)
  (h:Q (((sIx n 0 lo:Nat):Int),1,sIx n n hi - sIx n 0 lo) s):wpAny (model prog w) A (Builtin.Slice.sliceApplied (.ref sl) (pure (n:Int))) Q E s:=by
 obtain ⟨os,hos,hcs,hds⟩:=id hs
 unfold Builtin.Slice.sliceApplied Builtin.Slice.sliceFields
 refine wpAny_bind (wpAny_bind (wpAny_field hos hds (x:=vl) rfl (wpAny_bind (wpAny_field hos hds (x:=vu) rfl (wpAny_bind (wpAny_field hos hds (x:=.none) rfl (wpAny_pure ?_)))))))
 refine wpAny_bind (slicePart_none ?_)
 show wpAny _ _ (if ((1:Int) == 0)=true then _ else _) _ _ s
 rw [if_neg (by decide)]
 refine wpAny_bind (Z5k pl (wpAny_bind (Z5k pu (wpAny_bind (wpAny_pure ?_)))))
 show wpAny _ _ (match Builtin.Slice.sliceAdjust lo hi 1 (n:Int) with | (lo,hi)=>pure (lo,(1:Int),Builtin.Slice.slicePlaces lo hi 1)) _ _ s
 rw [Z9z lo hi n]
 show wpAny _ _ (pure (((sIx n 0 lo:Nat):Int),(1:Int),Builtin.Slice.slicePlaces ((sIx n 0 lo:Nat):Int) ((sIx n n hi:Nat):Int) 1)) _ _ s
 rw [Z9D]
 exact wpAny_pure h
theorem J2z (xs:Array Value) (i k:Nat):((List.range k).filterMap fun (m:Nat)=>xs[((i:Int)+(m:Int) * 1).toNat]?).toArray=((xs.toList.drop i).take k).toArray:=by
 have e:(fun (m:Nat)=>xs[((i:Int)+(m:Int) * 1).toNat]?)=fun m=>xs[i+m]?:=by
  funext m
  have:((i:Int)+(m:Int) * 1).toNat=i+m:=by omega
  rw [this]
 rw [e]
 have:=pick_run xs i k
 rw [List.filterMap_map] at this
 have e2:((fun x=>xs[x]?) ∘ fun x=>i+x)=fun m=>xs[i+m]?:=rfl
 rw [e2] at this
 rw [this]
theorem getItem_tuple_cut {t sl:Addr} {items:Array Value} {vl vu:Value} {lo hi:Option Int} {Q:Value→Shared→Prop} (ht:IsTup s.heap t items) (hs:s.heap.IsSliceOf sl vl vu .none) (pl:IsPart vl lo) (pu:IsPart vu hi)
  (hw:¬ (sIx items.size 0 lo=0∧sIx items.size items.size hi=items.size))
  (h:Q (.ref s.heap.objs.size) { s with heap:=s.heap.push { cls:=.type "tuple",data:=.seq ((items.toList.drop (sIx items.size 0 lo)).take (sIx items.size items.size hi - sIx items.size 0 lo)).toArray } })
  (hsz:items.size≤sizeLine):wpAny (model prog w) A (getItem (.ref t) (.ref sl)) Q E s:=by
 have htake:sizeOk (.seq ((items.toList.drop (sIx items.size 0 lo)).take (sIx items.size items.size hi - sIx items.size 0 lo)).toArray):=by
  show ((items.toList.drop (sIx items.size 0 lo)).take (sIx items.size items.size hi - sIx items.size 0 lo)).toArray.size≤sizeLine
  rw [List.size_toArray,List.length_take,List.length_drop,Array.length_toList]
  omega
 have hj:sIx items.size items.size hi≤items.size:=J5m _ _ (Nat.le_refl _) hi
 obtain ⟨os,hos,hcs,hds⟩:=id hs
 have hTs:s.TypeIs (.ref sl) "slice":=⟨os,hos,hcs⟩
 unfold getItem
 try with_reducible refine wpAny_holding ?_
 first | refine wpAny_bind (wpAny_pure ?_) | skip
 refine wpAny_bind (wpAny_sequenceKey ht.typeIs (by decide) ?_)
 refine wpAny_bind (wpAny_callSpecial?_slot (name:=Str.ofString "__getitem__") ht.typeIs PyProof.Rows.slot_tuple_getitem
  (wpAny_call_entry PyProof.Rows.slot_tuple_getitem ht.typeIs entry_tuple_getitem ?_ (args_tuple_getitem _ _)))
 show wpAny _ _ (Builtin.Tuple.tupleItemsOf (.ref t) >>= _) _ _ s
 refine wpAny_bind (tupleItemsOf_ ht ?_)
 refine wpAny_bind (wpAny_typeOf hTs ?_)
 rw [if_pos (by decide)]
 refine wpAny_bind (Z3l hs pl pu ?_)
 have hno:¬ ((((sIx items.size 0 lo:Nat):Int) == 0&&(1:Int) == 1&&(sIx items.size items.size hi - sIx items.size 0 lo) == items.size)=true):=by
  intro q
  rw [Bool.and_eq_true,Bool.and_eq_true] at q
  have q1:((sIx items.size 0 lo:Nat):Int)=0:=eq_of_beq q.1.1
  have q2:sIx items.size items.size hi - sIx items.size 0 lo=items.size:=eq_of_beq q.2
  exact hw ⟨by omega,by omega⟩
 show wpAny _ _ (if (((sIx items.size 0 lo:Nat):Int) == 0&&(1:Int) == 1&&(sIx items.size items.size hi - sIx items.size 0 lo) == items.size)=true then _ else _) _ _ s
 rw [if_neg hno,J2z]
 first
  | exact wpAny_bind (m:=Builtin.Tuple.tupleExact _) (wpAny_newObj_type (wpAny_pure ⟨_,rfl,wpAny_pure h⟩) htake)
  | exact wpAny_bind (m:=Builtin.Tuple.tupleExact _) (wpAny_newObj_type (wpAny_bind (wpAny_pure (wpAny_pure ⟨_,rfl,wpAny_pure h⟩))) htake)
  | exact wpAny_bind (wpAny_bind (m:=Builtin.Tuple.tupleExact _) (wpAny_newObj_type (wpAny_pure (wpAny_pure ⟨_,rfl,wpAny_pure h⟩)) htake))
  | exact wpAny_bind (wpAny_bind (m:=Builtin.Tuple.tupleExact _) (wpAny_newObj_type (wpAny_pure ⟨_,rfl,wpAny_pure h⟩) htake))
end
end HT
namespace L2
open PySem PySem.Spec PyProof.Rows
abbrev TO:=St→Hp→(Option Int→Hp→Prop)→Prop
def PO (X:Cx) (e:Option Expr) (t:TO):Prop:=
 ∀ (pins:List (Addr×Obj)) (s:Shared) (σ:St) (H:Hp) (Q:Option Int→Hp→Prop),Inv X pins σ H s→t σ H Q →
  wpAny (model X.prog X.w) X.A (evalPart e X.env) (fun u s'=>∃ o H',Inv X pins σ H' s'∧IsPart u o∧Q o H') X.xe s
def J0u:TO:=fun _ H Q=>Q none H
def J6l (t:TE):TO:=fun σ H Q=>t σ H fun x H1=>∃ i,x=.int i∧Q (some i) H1
section
variable {X:Cx} {e:Expr} {te:TE} {lo hi:Option Expr} {tl th:TO} {pos p2:Pos}
theorem Z3e:PO X none J0u:=by
 intro pins s σ H Q I h
 rw [evalPart_none]
 exact wpAny_pure ⟨none,H,I,.none,h⟩
theorem Z3d (h:PE X e te):PO X (some e) (J6l te):=by
 intro pins s σ H Q I hw
 rw [evalPart_some]
 refine thn (h pins s σ H _ I hw) fun u s1 ⟨x,H1,I1,r1,q1⟩=>?_
 obtain ⟨i,rfl,q⟩:=q1
 obtain ⟨t,rfl⟩:=r1
 exact ⟨some i,H1,I1,.int i t,q⟩
def SlR (X:Cx) (r:V→Option Int→Option Int→Hp→VK→Prop):Prop:=
 ∀ (pins:List (Addr×Obj)) (s:Shared) (σ:St) (H:Hp) (x:V) (v vl vu:Value) (lo hi:Option Int) (sl:Addr) (Q:VK),Inv X pins σ H s→RelV x v→s.heap.IsSliceOf sl vl vu .none→IsPart vl lo→IsPart vu hi→r x lo hi H Q →
  ∃ T id,typeLookup (.type T) "__getitem__"=pure (some (.builtin id))∧s.TypeIs v T∧wpAny (model X.prog X.w) X.A (getItem v (.ref sl)) (EP X pins σ Q) X.xe s
def tSl (r:V→Option Int→Option Int→Hp→VK→Prop) (te:TE) (tl th:TO):TE:=fun σ H Q=>te σ H fun x H1=>tl σ H1 fun l H2=>th σ H2 fun u H3=>r x l u H3 Q
theorem Z2p {r:V→Option Int→Option Int→Hp→VK→Prop} (hr:SlR X r) (he:PE X e te) (hl:PO X lo tl) (hu:PO X hi th):PE X (.Subscript e (.Slice lo hi none p2) pos) (tSl r te tl th):=by
 intro pins s σ H Q I h
 refine Subscript_ (thn (he pins s σ H _ I h) fun v s1 ⟨x,H1,I1,r1,q1⟩=>?_)
 refine wpAny_Slice (thn (hl pins s1 σ H1 _ I1 q1) fun vl s2 ⟨l,H2,I2,pl,q2⟩=>thn (hu pins s2 σ H2 _ I2 q2) fun vu s3 ⟨u,H3,I3,pu,q3⟩=>?_)
 rw [evalPart_none]
 refine wpAny_pure ?_
 have I4:Inv X pins σ H3 { s3 with heap:=s3.heap.push { cls:=.type "slice",data:=.fields #[vl,vu,.none] } }:=I3.kept (t':=s3.toks) fun b ob q=>Heap.get?_push_of_some _ q
 obtain ⟨T,id,hT,ht,hg⟩:=hr pins { s3 with heap:=s3.heap.push { cls:=.type "slice",data:=.fields #[vl,vu,.none] } } σ H3 x v vl vu l u s3.heap.objs.size Q I4 r1 (Heap.IsSliceOf.new ..) pl pu q3
 show wpAny (model X.prog X.w) X.A (subscriptTail e (.Slice lo hi none p2) v (.ref s3.heap.objs.size)) (EP X pins σ Q) X.xe { s3 with heap:=s3.heap.push { cls:=.type "slice",data:=.fields #[vl,vu,.none] } }
 exact tail_any (ops:=[.ref s3.heap.objs.size,v]) ht hT hg (by with_unfolding_all rfl)
def cutV (xs:List V) (lo hi:Option Int):List V:=(xs.drop (HT.sIx xs.length 0 lo)).take (HT.sIx xs.length xs.length hi - HT.sIx xs.length 0 lo)
theorem Z3c (xs:List V) (lo hi:Option Int):(cutV xs lo hi).length≤xs.length:=by
 unfold cutV
 rw [List.length_take,List.length_drop]
 omega
def rSlT (K:W.Frag):V→Option Int→Option Int→Hp→VK→Prop:=fun x lo hi H Q=>∃ a xs,x=.ref a∧SqT K H a xs ∧
 ¬ (HT.sIx xs.length 0 lo=0∧HT.sIx xs.length xs.length hi=xs.length)∧∀ p,H p=none→Q (.ref p) (upd H p (.tup (cutV xs lo hi)))
theorem J6p:SlR X (rSlT X.K):=by
 intro pins s σ H x v vl vu lo hi sl Q I rx hs pl pu h
 obtain ⟨a,xs,rfl,hx,hw,q⟩:=h
 cases rx
 obtain ⟨its,r,ht,hz⟩:=I.tuple hx
 have hlen:its.toArray.size=xs.length:=by rw [List.size_toArray]; exact r.length.symm
 refine ⟨"tuple",_,PyProof.Rows.slot_tuple_getitem.lookup,ht.typeIs,?_⟩
 refine HT.getItem_tuple_cut ht hs pl pu (by rw [hlen]; exact hw) ?_ (by rw [hlen]; exact hz)
 rw [hlen]
 refine ⟨.ref s.heap.objs.size,_,I.laid (t':=s.toks) (o:=.tup (cutV xs lo hi)) (fun b ob q=>Heap.get?_push_of_some _ q) (Nat.le_refl _) ?_,rfl,q _ (I.hok.fresh (Nat.le_refl _))⟩
 exact ⟨⟨Nat.le_trans (Z3c xs lo hi) hz,Z8m⟩,_,(r.drop (HT.sIx xs.length 0 lo)).take (HT.sIx xs.length xs.length hi - HT.sIx xs.length 0 lo),IsTup.new _ _⟩
def J5p (K:W.Frag):R2:=fun x y H Q=>∃ a b xs ys,x=.ref a∧y=.ref b∧SqT K H a xs∧SqT K H b ys∧xs≠[]∧xs.length+ys.length≤sizeLine ∧
 (ys=[]→Q (.ref a) H)∧(ys≠[]→∀ p,H p=none→Q (.ref p) (upd H p (.tup (xs++ys))))
theorem Vals.nil_iff {xs:List V} {us:List Value} (r:Vals xs us):us=[]↔xs=[]:=by
 cases r with
 | nil=>simp
 | cons _ _=>simp
theorem J4Z:OpR X (binaryOp .Add) (J5p X.K):=by
 intro pins s σ H x y v u Q I rx ry h
 obtain ⟨a,b,xs,ys,rfl,rfl,ha,hb,hx,hz,q1,q2⟩:=h
 cases rx
 cases ry
 obtain ⟨its,r1,p1,_⟩:=I.tuple ha
 obtain ⟨its2,r2,p2,_⟩:=I.tuple hb
 refine HT.cat_tup p1 p2 (fun z=>hx (r1.nil_iff.mp z)) (fun z=>⟨.ref a,H,I,rfl,q1 (r2.nil_iff.mp z)⟩) (fun z=>?_) (by rw [← r1.length,← r2.length]; exact hz)
 refine ⟨.ref s.heap.objs.size,_,I.laid (t':=s.toks) (o:=.tup (xs++ys)) (fun b ob q=>Heap.get?_push_of_some _ q) (Nat.le_refl _) ?_,rfl,q2 (fun w=>z (r2.nil_iff.mpr w)) _ (I.hok.fresh (Nat.le_refl _))⟩
 exact ⟨⟨by rw [List.length_append]; exact hz,Z8m⟩,_,r1.append r2,IsTup.new _ _⟩
end
end L2
namespace L2
open PySem PySem.Spec PyProof.Rows
def ixN (n:Nat) (i:Int):Option Nat:=if 0≤i then (if i < n then some i.toNat else none) else if -(n:Int)≤i then some (i+n).toNat else none
def atI {α:Type} (xs:List α) (i:Int):Option α:=(ixN xs.length i).bind fun j=>xs[j]?
theorem J4i {n:Nat} {i:Int} {j:Nat} (h:ixN n i=some j):seqIndex? i n=some j∧j < n∧-(n:Int)≤i∧i < n:=by
 unfold ixN at h
 by_cases h0:0≤i
 ·rw [if_pos h0] at h
  by_cases h1:i < n
  ·rw [if_pos h1] at h
   have e:i.toNat=j:=Option.some.inj h
   exact ⟨by rw [seqIndex_of h0 h1,e],by omega,by omega,h1⟩
  ·rw [if_neg h1] at h; cases h
 ·rw [if_neg h0] at h
  by_cases h1:-(n:Int)≤i
  ·rw [if_pos h1] at h
   have e:(i+n).toNat=j:=Option.some.inj h
   exact ⟨by rw [seqIndex_neg (by omega) h1,e],by omega,h1,by omega⟩
  ·rw [if_neg h1] at h; cases h
theorem J1Z {α:Type} {xs:List α} {i:Int} {v:α} (h:atI xs i=some v):∃ j,seqIndex? i xs.length=some j∧xs[j]?=some v∧j < xs.length∧-(xs.length:Int)≤i∧i < xs.length:=by
 unfold atI at h
 cases e:ixN xs.length i with
 | none=>rw [e] at h; cases h
 | some j=>
  rw [e] at h
  obtain ⟨h1,h2,h3,h4⟩:=J4i e
  exact ⟨j,h1,h,h2,h3,h4⟩
theorem Z3i {α:Type} {xs:List α} {j:Nat} {v:α} (h:xs[j]?=some v):atI xs (j:Int)=some v:=by
 have hj:j < xs.length:=(List.getElem?_eq_some_iff.mp h).1
 have e:ixN xs.length (j:Int)=some j:=by
  unfold ixN
  rw [if_pos (by omega),if_pos (by omega)]; simp
 unfold atI; rw [e]; exact h
def J4B (b:Expr):Prop:=∀ o i,subscripted b false o i=operate [o,i] (getItem o i)
def IxR (X:Cx) (r:R2):Prop:=
 ∀ (value slice:Expr) (pins:List (Addr×Obj)) (s:Shared) (σ:St) (H:Hp) (x y:V) (v u:Value) (Q:VK),Inv X pins σ H s→RelV x v→RelV y u→r x y H Q →
  subscripted slice false v u=operate [v,u] (getItem v u)→wpAny (model X.prog X.w) X.A (subscriptTail value slice v u) (EP X pins σ Q) X.xe s
def MtR (X:Cx) (id:String) (r:V→List V→Hp→VK→Prop):Prop:=
 ∀ (pins:List (Addr×Obj)) (s:Shared) (σ:St) (H:Hp) (x:V) (xs:List V) (v:Value) (us:List Value) (Q:VK),Inv X pins σ H s→RelV x v→Vals xs us→r x xs H Q →
  wpAny (model X.prog X.w) X.A (call (.builtin id) (v::us)) (EP X pins σ Q) X.xe s
section
variable {X:Cx} {a b:Expr} {ta tb:TE} {pos:Pos}
theorem Z1q {r:R2} (hr:IxR X r) (ha:PE X a ta) (hb:PE X b tb) (hs:J4B b):PE X (.Subscript a b pos) (tOp r ta tb):=by
 intro pins s σ H Q I h
 exact Subscript_ (binT ha hb I h fun v u s2 x y H2 I2 rx ry q=>hr a b pins s2 σ H2 x y v u Q I2 rx ry q (hs _ _))
def rIxL (K:W.Frag):R2:=fun x y H Q=>∃ p xs i v,x=.ref p∧y=.int i∧SqL K H p xs∧atI xs i=some v∧Q v H
def rIxT (K:W.Frag):R2:=fun x y H Q=>∃ p xs i v,x=.ref p∧y=.int i∧SqT K H p xs∧atI xs i=some v∧Q v H
def rIxS:R2:=fun x y H Q=>∃ z i c,x=.str z∧y=.int i∧z.length≤sizeLine∧atI z.cps.toList i=some c∧Q (.str ⟨#[c]⟩) H
theorem J4l:IxR X (rIxL X.K):=by
 intro value slice pins s σ H x y v u Q I rx ry h hs
 obtain ⟨p,xs,i,z,rfl,rfl,hq,he,q⟩:=h
 cases rx
 obtain ⟨t,rfl⟩:=ry
 obtain ⟨its,r,pl,hz⟩:=I.list hq
 obtain ⟨j,h1,h2,h3,h4,h5⟩:=J1Z he
 obtain ⟨w,ew,rw'⟩:=r.get h2
 have hl:=r.length
 have hn:=Z7d
 have fin:EP X pins σ Q w s:=⟨z,H,I,rw',q⟩
 by_cases h0:0≤i
 ·have hj:i.toNat=j:=by
   rw [seqIndex_of h0 h5] at h1
   exact Option.some.inj h1
  exact item_listR pl.isList h0 (by omega) (by rw [hj]; simpa using ew) fin hs
 ·have hj:(i+(its.toArray.size:Int)).toNat=j:=by
   rw [seqIndex_neg (by omega) h4] at h1
   rw [List.size_toArray,← hl]
   exact Option.some.inj h1
  exact subscriptTail_builtinR (x:=w) pl.isList.typeIs slot_list_getitem.lookup
   (wpAny_getItem_list_neg (Q:=fun r s'=>r=w∧EP X pins σ Q r s') pl.isList (by omega) (by rw [List.size_toArray] <;> omega) (by omega) (by rw [hj]; simpa using ew) ⟨rfl,fin⟩) hs
theorem J5l:IxR X (rIxT X.K):=by
 intro value slice pins s σ H x y v u Q I rx ry h hs
 obtain ⟨p,xs,i,z,rfl,rfl,hq,he,q⟩:=h
 cases rx
 obtain ⟨t,rfl⟩:=ry
 obtain ⟨its,r,pl,hz⟩:=I.tuple hq
 obtain ⟨j,h1,h2,h3,h4,h5⟩:=J1Z he
 obtain ⟨w,ew,rw'⟩:=r.get h2
 have hl:=r.length
 have hn:=Z7d
 have fin:EP X pins σ Q w s:=⟨z,H,I,rw',q⟩
 exact subscriptTail_builtinR (x:=w) pl.typeIs slot_tuple_getitem.lookup
  (getItem_tuple (j:=j) (Q:=fun r s'=>r=w∧EP X pins σ Q r s') pl (by omega) (by omega) (by rw [List.size_toArray,← hl]; exact h1) (by simpa using ew) ⟨rfl,fin⟩) hs
def J7Y:V→V→V→Hp→(Hp→Prop)→Prop:=fun o i v H Q=>∃ p xs k j,o=.ref p∧i=.int k∧H p=some (.lst xs)∧ixN xs.length k=some j∧Q (upd H p (.lst (xs.set j v)))
theorem Z7f (lo hi:Option Int) (n:Nat):(sliceBounds lo hi none n).1=((HT.sIx n 0 lo:Nat):Int)∧(sliceBounds lo hi none n).2.1=((HT.sIx n n hi:Nat):Int)∧(sliceBounds lo hi none n).2.2=1:=by
 refine ⟨?_,?_,rfl⟩
 ·cases lo with
  | none=>simp [sliceBounds,HT.sIx]
  | some i=>
   simp only [sliceBounds,HT.sIx,Option.getD_none,show (1:Int) > 0 by decide,if_true]
   by_cases h:i < 0
   ·simp only [h,if_true] <;> omega
   ·simp only [h,if_false] <;> omega
 ·cases hi with
  | none=>simp [sliceBounds,HT.sIx]
  | some i=>
   simp only [sliceBounds,HT.sIx,Option.getD_none,show (1:Int) > 0 by decide,if_true]
   by_cases h:i < 0
   ·simp only [h,if_true] <;> omega
   ·simp only [h,if_false] <;> omega
theorem Z5W (its:List Value) (lo hi:Option Int):slicePick its.toArray lo hi none=((its.drop (HT.sIx its.length 0 lo)).take (HT.sIx its.length its.length hi - HT.sIx its.length 0 lo)).toArray:=by
 obtain ⟨h1,h2,h3⟩:=Z7f lo hi its.toArray.size
 unfold slicePick
 rw [h1,h2,h3]
 simp only [sliceRange_one,pick_run,List.size_toArray] <;> rfl
def rSlL (K:W.Frag):V→Option Int→Option Int→Hp→VK→Prop:=fun x lo hi H Q=>∃ a xs,x=.ref a∧SqL K H a xs∧∀ p,H p=none→Q (.ref p) (upd H p (.lst (cutV xs lo hi)))
theorem Z5D:SlR X (rSlL X.K):=by
 intro pins s σ H x v vl vu lo hi sl Q I rx hs pl pu h
 obtain ⟨a,xs,rfl,hx,q⟩:=h
 cases rx
 obtain ⟨its,r,ht,hz⟩:=I.list hx
 have hlen:=r.length
 refine ⟨"list",_,slot_list_getitem.lookup,ht.isList.typeIs,?_⟩
 refine wpAny_getItem_list_slice ht.isList hs pl pu .none (by simp) ?_ (by rw [List.size_toArray] <;> omega)
 rw [Z5W,← hlen]
 refine ⟨.ref s.heap.objs.size,_,I.laid (t':=s.toks) (o:=.lst (cutV xs lo hi)) (fun b ob q=>Heap.get?_push_of_some _ q) (Nat.le_refl _) ?_,rfl,q _ (I.hok.fresh (Nat.le_refl _))⟩
 exact ⟨Nat.le_trans (Z3c xs lo hi) hz,_,0,(r.drop (HT.sIx xs.length 0 lo)).take (HT.sIx xs.length xs.length hi - HT.sIx xs.length 0 lo),Heap.get?_push_size _ rfl⟩
def Z5c:V→Bool
 | .non=>true
 | .bl _=>true
 | .int _=>true
 | .str _=>true
 | _=>false
def eqV:V→V→Bool
 | .non,.non=>true
 | .bl a,.bl b=>a == b
 | .bl a,.int b=>(if a then 1 else 0) == b
 | .int a,.bl b=>a == (if b then 1 else 0)
 | .int a,.int b=>a == b
 | .str a,.str b=>a == b
 | _,_=>false
theorem J6C {A:Around} {s:Shared} {y x:V} {u v:Value} (ry:RelV y u) (rx:RelV x v) (fy:Z5c y=true) (fx:Z5c x=true):SeqAt.EqAt A s u v (eqV y x):=by
 cases y with
 | non=>
  cases ry
  cases x with
  | non=>cases rx; exact SeqAt.EqAt.same _
  | bl b=>cases rx; exact SeqAt.EqAt.none_bool b
  | int b=>obtain ⟨t,rfl⟩:=rx; exact SeqAt.EqAt.none_int b t
  | str b=>obtain ⟨t,rfl⟩:=rx; exact SeqAt.EqAt.none_str b t
  | _=>exact absurd (show false=true from fx) Bool.false_ne_true
 | bl a=>
  cases ry
  cases x with
  | non=>cases rx; exact SeqAt.EqAt.bool_none a
  | bl b=>cases rx; exact SeqAt.EqAt.bool_bool a b
  | int b=>obtain ⟨t,rfl⟩:=rx; exact SeqAt.EqAt.bool_int a b t
  | str b=>obtain ⟨t,rfl⟩:=rx; exact SeqAt.EqAt.bool_str a b t
  | _=>exact absurd (show false=true from fx) Bool.false_ne_true
 | int a=>
  obtain ⟨t',rfl⟩:=ry
  cases x with
  | non=>cases rx; exact SeqAt.EqAt.int_none a t'
  | bl b=>cases rx; exact SeqAt.EqAt.int_bool a t' b
  | int b=>obtain ⟨t,rfl⟩:=rx; exact SeqAt.EqAt.int_int a t' b t
  | str b=>obtain ⟨t,rfl⟩:=rx; exact SeqAt.EqAt.int_str a t' b t
  | _=>exact absurd (show false=true from fx) Bool.false_ne_true
 | str a=>
  obtain ⟨t',rfl⟩:=ry
  cases x with
  | non=>cases rx; exact SeqAt.EqAt.str_none a t'
  | bl b=>cases rx; exact SeqAt.EqAt.str_bool a t' b
  | int b=>obtain ⟨t,rfl⟩:=rx; exact SeqAt.EqAt.str_int a t' b t
  | str b=>obtain ⟨t,rfl⟩:=rx; exact SeqAt.EqAt.str_str a t' b t
  | _=>exact absurd (show false=true from fx) Bool.false_ne_true
 | _=>exact absurd (show false=true from fy) Bool.false_ne_true
def eqU (x:V) (u:Value):Bool:=match u with
 | .none=>eqV .non x
 | .bool b=>eqV (.bl b) x
 | .int i _=>eqV (.int i) x
 | .str z _=>eqV (.str z) x
 | _=>false
theorem J1C {x y:V} {u:Value} (r:RelV y u) (f:Z5c y=true):eqU x u=eqV y x:=by
 cases y with
 | non=>cases r; rfl
 | bl b=>cases r; rfl
 | int i=>obtain ⟨t,rfl⟩:=r; rfl
 | str z=>obtain ⟨t,rfl⟩:=r; rfl
 | _=>exact absurd (show false=true from f) Bool.false_ne_true
theorem Z5f {x:V}:∀ {xs:List V} {us:List Value},Vals xs us→xs.all Z5c=true→us.any (eqU x)=xs.any fun y=>eqV y x
 | _,_,.nil,_=>rfl
 | y::xs,u::us,.cons r t,f=>by
  rw [List.all_cons,Bool.and_eq_true] at f
  rw [List.any_cons,List.any_cons,J1C r f.1,Z5f t f.2]
theorem Z3F {A:Around} {s:Shared} {x:V} {v:Value} (rx:RelV x v) (fx:Z5c x=true):∀ {xs:List V} {us:List Value},Vals xs us→xs.all Z5c=true→∀ u∈us,SeqAt.EqAt A s u v (eqU x u)
 | _,_,.nil,_=>fun u hu=>by cases hu
 | y::xs,u::us,.cons r t,f=>fun u' hu=>by
  rw [List.all_cons,Bool.and_eq_true] at f
  rcases List.mem_cons.mp hu with rfl | hu
  ·rw [J1C r f.1]; exact J6C r rx f.1 fx
  ·exact Z3F rx fx t f.2 u' hu
def inV (x:V) (xs:List V):Bool:=xs.any fun y=>eqV y x
def rIn (K:W.Frag) (neg:Bool):R2:=fun x y H Q=>∃ p xs,y=.ref p∧(SqL K H p xs∨SqT K H p xs)∧Z5c x=true∧xs.all Z5c=true∧Q (.bl (if neg then !inV x xs else inV x xs)) H
theorem Z0T:OpR X (compareOp .In) (rIn X.K false):=by
 intro pins s σ H x y v u Q I rx ry h
 obtain ⟨p,xs,rfl,hq,fx,fs,q⟩:=h
 cases ry
 rcases hq with hq | hq
 ·obtain ⟨its,r,pl,hz⟩:=I.list hq
  refine SeqAt.in_listAt (eqU x) pl.isList (fun w hw=>Z3F rx fx r fs w (by simpa using hw)) ⟨.bl _,H,I,rfl,?_⟩
  rw [show its.toArray.any (eqU x)=its.any (eqU x) by simp,Z5f r fs]
  exact q
 ·obtain ⟨its,r,pl,hz⟩:=I.tuple hq
  refine SeqAt.in_tupleAt (eqU x) pl (fun w hw=>Z3F rx fx r fs w (by simpa using hw)) ⟨.bl _,H,I,rfl,?_⟩
  rw [show its.toArray.any (eqU x)=its.any (eqU x) by simp,Z5f r fs]
  exact q
theorem Z4x:OpR X (compareOp .NotIn) (rIn X.K true):=by
 intro pins s σ H x y v u Q I rx ry h
 obtain ⟨p,xs,rfl,hq,fx,fs,q⟩:=h
 cases ry
 rcases hq with hq | hq
 ·obtain ⟨its,r,pl,hz⟩:=I.list hq
  refine SeqAt.notIn_listAt (eqU x) pl.isList (fun w hw=>Z3F rx fx r fs w (by simpa using hw)) ⟨.bl _,H,I,rfl,?_⟩
  rw [show its.toArray.any (eqU x)=its.any (eqU x) by simp,Z5f r fs]
  exact q
 ·obtain ⟨its,r,pl,hz⟩:=I.tuple hq
  refine SeqAt.notIn_tupleAt (eqU x) pl (fun w hw=>Z3F rx fx r fs w (by simpa using hw)) ⟨.bl _,H,I,rfl,?_⟩
  rw [show its.toArray.any (eqU x)=its.any (eqU x) by simp,Z5f r fs]
  exact q
theorem Z0S:Z4n X (.builtin "len") (fun xs H Q=>∃ p ys,xs=[.ref p]∧(SqL X.K H p ys∨SqT X.K H p ys)∧Q (.int ys.length) H):=by
 intro pins s σ H xs us Q I r h
 obtain ⟨p,ys,rfl,hq,q⟩:=h
 obtain ⟨u,rfl,rx⟩:=J0b r
 cases rx
 have hn:=Z7d
 rcases hq with hq | hq
 ·obtain ⟨its,r',pl,hz⟩:=I.list hq
  have hlen:=r'.length
  exact Calls.call_len_list pl.isList (by simp only [List.size_toArray] <;> omega) ⟨.int ys.length,H,I.tok _,⟨s.toks+1,by rw [List.size_toArray,hlen]⟩,q⟩
 ·obtain ⟨its,r',pl,hz⟩:=I.tuple hq
  have hlen:=r'.length
  exact len_tuple pl (by simp only [List.size_toArray] <;> omega) ⟨.int ys.length,H,I.tok _,⟨s.toks+1,by rw [List.size_toArray,hlen]⟩,q⟩
theorem Z4v:Z4n X (.type "list") (fun xs H Q=>∃ p ys,xs=[.ref p]∧(SqL X.K H p ys∨SqT X.K H p ys)∧∀ l,H l=none→Q (.ref l) (upd H l (.lst ys))):=by
 intro pins s σ H xs us Q I r h
 obtain ⟨p,ys,rfl,hq,q⟩:=h
 obtain ⟨u,rfl,rx⟩:=J0b r
 cases rx
 have fin:∀ (its:List Value),Vals ys its→ys.length≤sizeLine→∀ (h':Heap) (c':Nat),(∀ b o',s.heap.get? b=some o'→h'.get? b=some o') →
   h'.get? s.heap.objs.size=some { cls:=.type "list",dict:=none,data:=.seq its.toArray c',slots:=#[] }→EP X pins σ Q (.ref s.heap.objs.size) { s with heap:=h' }:=fun its r' hz h' c' kp e=>
  ⟨.ref s.heap.objs.size,_,I.laid (t':=s.toks) kp (Nat.le_refl _) (show ObjOk X.prog X.w _ h' _ (.lst ys) from ⟨hz,its,c',r',e⟩),rfl,q _ (I.hok.fresh (Nat.le_refl _))⟩
 rcases hq with hq | hq
 ·obtain ⟨its,r',pl,hz⟩:=I.list hq
  have hlen:=r'.length
  obtain ⟨o,ho,hc,n,hd⟩:=pl.isList
  exact call_list_seq p (.inl rfl) ho hc hd (fun h' c' kp e=>fin its r' hz h' c' kp e) (by simp only [List.size_toArray] <;> omega)
 ·obtain ⟨its,r',pl,hz⟩:=I.tuple hq
  have hlen:=r'.length
  obtain ⟨o,ho,hc,n,hd⟩:=pl
  exact call_list_seq p (.inr rfl) ho hc hd (fun h' c' kp e=>fin its r' hz h' c' kp e) (by simp only [List.size_toArray] <;> omega)
theorem Z0A:Z4n X (.type "tuple") (fun xs H Q=>∃ p ys,xs=[.ref p]∧((SqL X.K H p ys∧∀ l,H l=none→Q (.ref l) (upd H l (.tup ys)))∨(SqT X.K H p ys∧Q (.ref p) H))):=by
 intro pins s σ H xs us Q I r h
 obtain ⟨p,ys,rfl,h⟩:=h
 obtain ⟨u,rfl,rx⟩:=J0b r
 cases rx
 rcases h with ⟨hq,q⟩ | ⟨hq,q⟩
 ·obtain ⟨its,r',pl,hz⟩:=I.list hq
  have hlen:=r'.length
  refine call_tuple_list pl.isList (fun h' kp=>?_) (by simp only [List.size_toArray] <;> omega)
  have I1:Inv X pins σ H { s with heap:=h' }:=I.kept (t':=s.toks) kp
  have I2:Inv X pins σ (upd H h'.objs.size (.tup ys)) { s with heap:=h'.push { cls:=.type "tuple",data:=.seq its.toArray } }:=
   I1.laid (t':=s.toks) (fun b o e=>Heap.get?_push_of_some _ e) (Nat.le_refl _) (show ObjOk X.prog X.w _ _ _ (.tup ys) from ⟨⟨hz,Z8m⟩,its,r',IsTup.new _ _⟩)
  exact ⟨.ref h'.objs.size,_,I2,rfl,q _ (I1.hok.fresh (Nat.le_refl _))⟩
 ·obtain ⟨its,r',pl,hz⟩:=I.tuple hq
  exact call_tuple_same pl ⟨.ref p,H,I,rfl,q⟩
def tyV (K:W.Frag) (T:String) (x:V) (H:Hp):Prop:=match x with
 | .str _=>T="str"
 | .int _=>T="int"
 | .ref p=>(T="list"∧∃ xs,SqL K H p xs)∨(T="tuple"∧∃ o,K.lookup p=some o∧o.cls=.type "tuple"∧o.dict=none) ∨
   (T="dict"∧((∃ kvs,H p=some (.dK kvs))∨∃ kvs,H p=some (.dT kvs)))∨(T="set"∧∃ S n,H p=some (.set S n))
 | _=>False
theorem J3J {pins:List (Addr×Obj)} {σ:St} {H:Hp} {s:Shared} {T:String} {x:V} {v:Value} (I:Inv X pins σ H s) (r:RelV x v) (ty:tyV X.K T x H) :
  s.TypeIs v T∧∀ a,v=.ref a→∃ ob,s.heap.get? a=some ob∧ob.dict=none:=by
 cases x with
 | str z=>
  obtain ⟨t,rfl⟩:=r
  cases (show T="str" from ty)
  exact ⟨typeIs_str s z t,fun _ e=>nomatch e⟩
 | int i=>
  obtain ⟨t,rfl⟩:=r
  cases (show T="int" from ty)
  exact ⟨typeIs_int s i t,fun _ e=>nomatch e⟩
 | ref p=>
  cases r
  rcases ty with ⟨rfl,xs,hq⟩ | ⟨rfl,o,hk,hc,hd⟩ | ⟨rfl,hk⟩ | ⟨rfl,S,n,hk⟩
  ·obtain ⟨its,_,pl,_⟩:=I.list hq
   refine ⟨pl.isList.typeIs,fun a e=>?_⟩
   cases e
   obtain ⟨o,n,e,c,hd,_⟩:=pl
   exact ⟨o,e,hd⟩
  ·refine ⟨⟨o,I.kIn p o hk,hc⟩,fun a e=>?_⟩
   cases e
   exact ⟨o,I.kIn _ o hk,hd⟩
  ·have z:∃ o,s.heap.get? p=some o∧o.ExactDict:=by
    rcases hk with ⟨kvs,hk⟩ | ⟨kvs,hk⟩
    ·obtain ⟨_,_,_,_,o,_,_,e,ex,_⟩:=I.hok p _ hk
     exact ⟨o,e,ex⟩
    ·obtain ⟨_,_,_,_,o,_,_,e,ex,_⟩:=I.hok p _ hk
     exact ⟨o,e,ex⟩
   obtain ⟨o,e,ex⟩:=z
   refine ⟨⟨o,e,ex.1⟩,fun a e2=>?_⟩
   cases e2
   exact ⟨o,e,ex.2.1⟩
  ·obtain ⟨o,_,_,_,e,ex,_⟩:=I.hok p _ hk
   refine ⟨⟨o,e,ex.1⟩,fun a e2=>?_⟩
   cases e2
   exact ⟨o,e,ex.2.1⟩
 | _=>exact False.elim ty
def tBM0 (K:W.Frag) (T:String) (r:V→List V→Hp→VK→Prop) (to:TE):TE:=fun σ H Q=>to σ H fun x H1=>tyV K T x H1∧r x [] H1 Q
def tBM (K:W.Frag) (T:String) (r:V→List V→Hp→VK→Prop) (to:TE) (t:TA):TE:=fun σ H Q=>to σ H fun x H1=>tyV K T x H1∧t σ H1 fun xs H2=>r x xs H2 Q
variable {o e:Expr} {es:List Expr} {to:TE} {t:TA} {name:Str} {apos cpos:Pos} {T id:String} {r:V→List V→Hp→VK→Prop}
theorem Z9b (pa:PlainAttrs T) (slot:Slot T name id) (hty:typeOf (.builtin id)=pure (.type "method_descriptor")) (hm:MtR X id r) (ho:PE X o to)
  (hbase:attributeBase o name X.env (eval o X.env)=eval o X.env:=by rfl) (hline:(apos.endLine == cpos.line)=true:=by rfl):PE X (.Call (.Attribute o name apos) [] [] cpos) (tBM0 X.K T r to):=by
 intro pins s σ H Q I h
 refine wpAny_Call_method0_late hbase hline (thn (ho pins s σ H _ I h) fun v s1 ⟨x,H1,I1,r1,ty,q1⟩=>?_)
 obtain ⟨h1,h2⟩:=J3J I1 r1 ty
 exact ⟨T,id,pa,slot,hty,h1,h2,Calls.callWith_builtin rfl (PySem.evalArgs_none (hm pins s1 σ H1 x [] v [] Q I1 r1 .nil q1))⟩
theorem Z3m (pa:PlainAttrs T) (slot:Slot T name id) (hty:typeOf (.builtin id)=pure (.type "method_descriptor")) (hm:MtR X id r) (ho:PE X o to) (ha:PA X (e::es) t)
  (hbase:attributeBase o name X.env (eval o X.env)=eval o X.env:=by rfl)
  (hfew:((backTo cpos (starEach (e::es) X.env)).all (fun x=>!x.1)&&(backToKw cpos (keywordEach [] X.env)).all (fun x=>x.1.isSome)
   && decide ((e::es).length+([]:List Keyword).length+(if ([]:List Keyword).isEmpty then 0 else 1) < 30))=true:=by rfl)
  (hline:(apos.endLine == cpos.line)=true:=by rfl) (hs:starEach (e::es) X.env=(false,eval e X.env)::starEach es X.env:=by rfl) (hplain:(backTo cpos (starEach es X.env)).any (·.1)=false:=by rfl) :
  PE X (.Call (.Attribute o name apos) (e::es) [] cpos) (tBM X.K T r to t):=by
 intro pins s σ H Q I h
 refine wpAny_Call_method_late hbase hfew hline rfl (thn (ho pins s σ H _ I h) fun v s1 ⟨x,H1,I1,r1,ty,q1⟩=>?_)
 obtain ⟨h1,h2⟩:=J3J I1 r1 ty
 refine ⟨T,id,pa,slot,hty,h1,h2,?_⟩
 have hA:=ha cpos pins s1 σ H1 _ I1 q1
 rw [hs] at hA ⊢
 refine Calls.callWith_builtin (by show (false || (backTo cpos (starEach es X.env)).any (·.1))=false; rw [hplain] <;> rfl) (Calls.evalArgs_plain ?_)
 exact thn hA fun us s2 ⟨vs,H2,I2,r2,q2⟩=>hm pins s2 σ H2 x vs v us Q I2 r1 r2 q2
end
end L2
namespace L2
open PySem PySem.Spec PyProof.Rows
def MtM (X:Cx) (id:String) (r:V→List V→Hp→VK→Prop):Prop:=
 ∀ (pins:List (Addr×Obj)) (s:Shared) (σ:St) (H:Hp) (x:V) (xs:List V) (v:Value) (us:List Value) (Q:VK),Inv X pins σ H s→RelV x v→Vals xs us→r x xs H Q →
  wpAny (model X.prog X.w) X.A (call (.builtin id) (v::us)) (EP X pins σ Q) X.xe s
theorem Vals.one:∀ {x:V} {us:List Value},Vals [x] us→∃ u,us=[u]∧RelV x u
 | _,_,.cons r .nil=>⟨_,rfl,r⟩
theorem Vals.two:∀ {x y:V} {us:List Value},Vals [x,y] us→∃ u v,us=[u,v]∧RelV x u∧RelV y v
 | _,_,_,.cons r (.cons q .nil)=>⟨_,_,rfl,r,q⟩
theorem Vals.zero:∀ {us:List Value},Vals [] us→us=[]
 | _,.nil=>rfl
theorem Vals.dropLast {xs:List V} {us:List Value} (h:Vals xs us):Vals xs.dropLast us.dropLast:=by
 induction h with
 | nil=>exact .nil
 | cons r t ih=>
  cases t with
  | nil=>exact .nil
  | cons q t'=>exact .cons r ih
theorem Vals.reverse {xs:List V} {us:List Value} (h:Vals xs us):Vals xs.reverse us.reverse:=by
 induction h with
 | nil=>exact .nil
 | cons r t ih=>rw [List.reverse_cons,List.reverse_cons]; exact Vals.append ih (.cons r .nil)
theorem Z9G {α:Type} (l:List α):l.eraseIdx (l.length - 1)=l.dropLast:=by
 induction l with
 | nil=>rfl
 | cons a r ih=>
  cases r with
  | nil=>rfl
  | cons b r=>
   have e:(a::b::r).length - 1=((b::r).length - 1)+1:=by
    have h1:(a::b::r).length=r.length+2:=rfl
    have h2:(b::r).length=r.length+1:=rfl
    omega
   rw [e,List.eraseIdx_cons_succ,ih]
   all_goals rfl
section
variable {X:Cx} {pins:List (Addr×Obj)} {σ:St} {H:Hp} {s:Shared} {l b:Addr} {xs ys zs:List V}
theorem Inv.lset {its its':List Value} {n:Nat} {f:Array Value→Array Value} {t':Nat} (I:Inv X pins σ H s) (hH:H l=some (.lst xs))
  (e:s.heap.get? l=some { cls:=.type "list",data:=.seq its.toArray n }) (hf:f its.toArray=its'.toArray) (hv:Vals ys its') (hz:ys.length≤sizeLine) :
  Inv X pins σ (upd H l (.lst ys)) { s with heap:=s.heap.update l (Obj.mapSeq f),toks:=t' }:=by
 have q:=PySem.IsL.update e f
 rw [hf] at q
 refine I.write (x:=l) (e:=l) (by rw [hH]; exact trivial) (.inl rfl) (fun b' u hb hu=>(Heap.get?_update_other s.heap (Obj.mapSeq f) (Ne.symm hb)).trans hu) ⟨_,q⟩ ?_
 exact ⟨hz,its',_,hv,q⟩
theorem Inv.lnew {its:List Value} {t':Nat} (I:Inv X pins σ H s) (hv:Vals ys its) (hz:ys.length≤sizeLine) :
  Inv X pins σ (upd H s.heap.objs.size (.lst ys)) { s with heap:=s.heap.push { cls:=.type "list",data:=.seq its.toArray },toks:=t' }:=
 I.laid (fun _ _ q=>Heap.get?_push_of_some _ q) (Nat.le_refl _) ⟨hz,its,0,hv,Heap.get?_push_size _ rfl⟩
theorem Inv.fresh (I:Inv X pins σ H s):H s.heap.objs.size=none:=I.hok.fresh (Nat.le_refl _)
theorem Inv.lstM (I:Inv X pins σ H s) (hH:H l=some (.lst xs)):xs.length≤sizeLine∧∃ (its:List Value) (n:Nat),Vals xs its∧xs.length=its.length∧s.heap.get? l=some { cls:=.type "list",data:=.seq its.toArray n }:=by
 obtain ⟨z,its,n,r,e⟩:=I.hok l _ hH
 exact ⟨z,its,n,r,r.length,e⟩
theorem Z8c {n:Nat} (h:n≤sizeLine):Builtin.List.listTooLong n=false:=by
 unfold Builtin.List.listTooLong
 exact decide_eq_false (by omega)
end
section
variable {X:Cx}
def J0v:V→List V→Hp→VK→Prop:=fun x vs H Q=>∃ l xs y,x=.ref l∧vs=[y]∧H l=some (.lst xs)∧xs.length < sizeLine∧Q .non (upd H l (.lst (xs++[y])))
theorem Z0K:MtM X "list.append" J0v:=by
 intro pins s σ H x vs v us Q I rx rv h
 obtain ⟨l,xs,y,rfl,rfl,hH,hz,q⟩:=h
 cases rx
 obtain ⟨u,rfl,ru⟩:=rv.one
 obtain ⟨z,its,n,r,hl,e⟩:=I.lstM hH
 refine call_meets F.slot_list_append ⟨_,e,rfl⟩ F.entry_list_append (F.args_list_append_2 _ _) (PySem.list_append l its.toArray n u (by rw [List.size_toArray]; omega)) ⟨e,?_⟩
 refine ⟨.non,_,I.lset (its':=its++[u]) hH e (by simp) (r.append (.cons ru .nil)) ?_,rfl,q⟩
 rw [List.length_append,List.length_singleton]
 omega
def J1t:V→List V→Hp→VK→Prop:=fun x vs H Q=>∃ l b xs zs,x=.ref l∧vs=[.ref b]∧H l=some (.lst xs)∧H b=some (.lst zs)∧xs.length+zs.length≤sizeLine∧Q .non (upd H l (.lst (xs++zs)))
theorem J0I:MtM X "list.extend" J1t:=by
 intro pins s σ H x vs v us Q I rx rv h
 obtain ⟨l,b,xs,zs,rfl,rfl,hH,hB,hz,q⟩:=h
 cases rx
 obtain ⟨u,rfl,ru⟩:=rv.one
 cases ru
 obtain ⟨z,its,n,r,hl,e⟩:=I.lstM hH
 obtain ⟨z2,its2,n2,r2,hl2,e2⟩:=I.lstM hB
 have hsz:its.toArray.size+its2.toArray.size≤sizeLine:=by rw [List.size_toArray,List.size_toArray]; omega
 have hlong:¬ (!its.toArray.isEmpty&&Builtin.List.listTooLong (its.toArray.size+its2.toArray.size))=true:=by
  rw [Z8c hsz,Bool.and_false]
  exact Bool.false_ne_true
 refine call_meets F.slot_list_extend ⟨_,e,rfl⟩ F.entry_list_extend (F.args_list_extend_2 _ _)
  (AutoSeq1.list_extend_list_list_0 l its.toArray n b its2.toArray n2 hlong (by rw [List.size_toArray]; omega) (by omega)) ⟨e,e2,?_⟩
 refine ⟨.non,_,I.lset (its':=its++its2) hH e (by simp) (r.append r2) ?_,rfl,q⟩
 rw [List.length_append]
 omega
def rPop:V→List V→Hp→VK→Prop:=fun x vs H Q=>∃ l xs y,x=.ref l∧vs=[]∧H l=some (.lst xs)∧xs[xs.length - 1]?=some y∧Q y (upd H l (.lst xs.dropLast))
theorem Z8T:MtM X "list.pop" rPop:=by
 intro pins s σ H x vs v us Q I rx rv h
 obtain ⟨l,xs,y,rfl,rfl,hH,hy,q⟩:=h
 cases rx
 have hus:=rv.zero
 subst hus
 obtain ⟨z,its,n,r,hl,e⟩:=I.lstM hH
 obtain ⟨u,hu,ru⟩:=r.get hy
 have hy':its.toArray[its.toArray.size - 1]?=some u:=by
  show its.toArray[its.length - 1]?=some u
  rw [← Array.getElem?_toList,← hl]
  exact hu
 refine call_meets F.slot_list_pop ⟨_,e,rfl⟩ F.entry_list_pop (F.args_list_pop_1 _) (MeetsSeq.list_pop_last l its.toArray n u hy' (by rw [List.size_toArray]; omega)) ⟨e,?_⟩
 refine ⟨y,_,I.lset (its':=its.dropLast) hH e ?_ r.dropLast ?_,ru,q⟩
 ·show its.toArray.eraseIdxIfInBounds (its.toArray.size - 1)=its.dropLast.toArray
  rw [List.size_toArray,List.eraseIdxIfInBounds_toArray,Z9G]
 ·rw [List.length_dropLast]
  omega
def J6n:V→List V→Hp→VK→Prop:=fun x vs H Q=>∃ l xs i k y,x=.ref l∧vs=[.int i]∧H l=some (.lst xs)∧-(2 ^ 63)≤i∧i < 2 ^ 63∧seqIndex? i xs.length=some k∧xs[k]?=some y∧Q y (upd H l (.lst (xs.eraseIdx k)))
def J2h:V→List V→Hp→VK→Prop:=fun x vs H Q=>∃ l xs,x=.ref l∧vs=[]∧H l=some (.lst xs)∧Q .non (upd H l (.lst xs.reverse))
def J6B:V→List V→Hp→VK→Prop:=fun x vs H Q=>∃ l xs,x=.ref l∧vs=[]∧H l=some (.lst xs)∧Q .non (upd H l (.lst []))
def rCat:R2:=fun x y H Q=>∃ l b xs zs,x=.ref l∧y=.ref b∧H l=some (.lst xs)∧H b=some (.lst zs)∧xs.length+zs.length≤sizeLine∧∀ p,H p=none→Q (.ref p) (upd H p (.lst (xs++zs)))
theorem Z4t:OpR X (binaryOp .Add) rCat:=by
 intro pins s σ H x y v u Q I rx ry h
 obtain ⟨l,b,xs,zs,rfl,rfl,hH,hB,hz,q⟩:=h
 cases rx
 cases ry
 obtain ⟨z,its,n,r,hl,e⟩:=I.lstM hH
 obtain ⟨z2,its2,n2,r2,hl2,e2⟩:=I.lstM hB
 refine PySem.P.add_list e e2 ?_ (by rw [List.size_toArray,List.size_toArray]; omega)
 have ea:its.toArray++its2.toArray=(its++its2).toArray:=by simp
 rw [ea]
 exact ⟨.ref _,_,I.lnew (t':=s.toks) (r.append r2) (by rw [List.length_append]; omega),rfl,q _ I.fresh⟩
def rRep:R2:=fun x y H Q=>∃ l k xs,x=.ref l∧y=.int k∧H l=some (.lst xs)∧-(2 ^ 63)≤k∧k < 2 ^ 63∧xs.length * k.toNat≤sizeLine ∧
 ∀ p,H p=none→Q (.ref p) (upd H p (.lst (List.replicate k.toNat xs).flatten))
end
section
variable {prog:Program} {w:World} {A:Around} {E:Value→Shared→Prop} {s:Shared}
set_option maxRecDepth 100000 in
end
section
variable {X:Cx}
end
end L2
namespace Att
open PySem PySem.W PySem.Calls PyProof.Rows
theorem Z5e {P:Params} {h:Heap}:∀ (ns:List Int) (vs:List Value),WellAll P h vs (ns.map WData.int)→IntsAre vs ns:=by
 intro ns
 induction ns with
 | nil=>
  intro vs w
  rw [List.map_nil] at w
  cases w
  exact .nil
 | cons n ns ih=>
  intro vs w
  rw [List.map_cons] at w
  cases w with
  | cons a b=>
   cases a
   exact .cons _ _ (ih _ b)
theorem J1X {l:OpenLaw} {n:Nat} (hn:l.most=some n) {P:Params} {h:Heap} {args:List WData} {vals:List Value}
  (hpre:l.row.toRowW.claim.pre args=true) (hwl:WellAll P h vals args) :
  ∃ a vs ns,vals=[Value.ref a]∧args=[WData.list (ns.map WData.int)]∧h.get? a=some { cls:=.type "list",data:=.seq vs.toArray }∧IntsAre vs ns∧ns.length≤n:=by
 have hsh:WShape.hasAll [] args [.list .int]=true:=(pre_splitW hpre).1
 have hc:l.pre.holds [] { args:=args }=true:=(pre_splitW hpre).2
 obtain ⟨d,r,rfl,h1,h2⟩:=hasAllW_cons hsh
 obtain rfl:=hasAllW_nil h2
 obtain ⟨xs,rfl,h3⟩:=hasW_list h1
 obtain ⟨ns,rfl⟩:=items_int h3
 have hlen:ns.length≤n:=by
  unfold OpenLaw.pre at hc
  have h4:(WTm.not (.lt (.lit (.int (n:Int))) (.len (.arg 0)))).holds [] { args:=[.list (ns.map .int)] }=true:=by
   have h4:=(holds_andW hc).1
   rw [hn] at h4
   exact h4
  have h5:=condW_of h4 (w_not (w_lt w_lit (w_len_list (w_arg rfl))))
  rw [List.length_map] at h5
  refine Nat.le_of_not_lt fun q=>?_
  have q':(n:Int) < ((ns.length:Nat):Int):=by omega
  first
   | (rw [decide_eq_true q'] at h5; exact absurd h5 (by decide))
   | (simp at h5; omega)
 cases hwl with
 | cons w1 w2=>
  cases w2
  cases w1 with
  | list ho hall=>exact ⟨_,_,ns,rfl,rfl,ho,Z5e ns _ hall,hlen⟩
theorem J0H (l:OpenLaw) (args:List WData):l.row.toRowW.claim.post args (.bool true) args=true:=
 postW_of (r:=l.row.toRowW) (X:=(true == true))
  (show WShape.has [] (.bool true) .bool=true by first | rfl | decide | simp [WShape.has,WShape.arms,WShape.armsAll])
  (show (WTm.eq .res (.lit (.bool true))).value [] { args:=args,res:=some (.bool true),after:=args }=some (.bool (true == true)) from w_eq_bool (w_res rfl) w_lit) rfl
theorem attach_call {l:OpenLaw} {n:Nat} {q:Program} {loose:List Str} {XP:(Str→Option Value)→Heap→Prop} {YP:World→Heap→Prop} {d:DefRec}
  (hn:l.most=some n) (hdf:d.params.defaults=[])
  (call:∀ (w:World) (s₀ s₁:Shared) (mg mb:Str→Option Value) (fa:Addr) (o:Obj) (pm cd doc:Value) (a:Addr) (vs:List Value) (ns:List Int),
   Ground q loose [] XP w s₀ mg mb s₁.heap→YP w s₁.heap →
   s₁.heap.get? fa=some o→o.data=.func (docDef d.name d.params d.body d.scope pm cd doc)→s₁.heap.CodeRec cd d.name→mg d.name=some (.ref fa) →
   s₁.heap.get? a=some { cls:=.type "list",data:=.seq vs.toArray }→IntsAre vs ns→ns.length≤n→s₁.gens=#[] →
   codeAny (model l.prog w) callerA (.call (.ref fa) ⟨[.ref a],[]⟩) (fun r s'=>r=.ok (.ret (.bool true))∧OldK s₁.heap s'.heap∧s'.os=s₁.os∧AllBare s'.gens) s₁) :
  WalkO q loose XP YP l.row.toRowW d [] (fun f vs=>PySem.call f vs):=by
 intro w s₀ s₁ mg mb G Y fa o pm cd doc dV kV ho hd hcd hD hmg hg args vals as hpre hlay hrd hwl hlo
 obtain rfl:dV=.none:=Dflts.none hD hdf
 obtain rfl:kV=.none:=Dflts.noKw hD
 obtain ⟨a,vs,ns,rfl,rfl,hobj,hints,hlen⟩:=J1X hn hpre hwl
 refine enter_call (codeAny_mono (call w s₀ s₁ mg mb fa o pm cd doc a vs ns G Y ho (fd_plain hd) hcd hmg hobj hints hlen hg) fun r s' hq=>?_)
 obtain ⟨rfl,h2,h3,h4⟩:=hq
 exact ⟨.inl ⟨.bool true,.bool true,[],rfl,fun _=>rfl,.bool true,J0H l _,fun _=>⟨List.Pairwise.nil,fun _ hm=>(nomatch hm)⟩⟩,h2,h3,h4⟩
section
variable {prog:Program} {w:World} {A:Around} {E:Value→Shared→Prop} {s:Shared} {K:Frag}
def J9c (h:Heap) (L d:Addr):List (Addr×Obj):=(List.range h.objs.size).filterMap fun a=>if a=L∨a=d then none else (h.get? a).map fun o=>(a,o)
end
end Att
namespace L2
open PySem PySem.Spec PyProof.Rows
theorem Z6u:∀ {vs:List Value} {ns:List Int},IntsAre vs ns→Vals (ns.map V.int) vs
 | _,_,.nil=>.nil
 | _,_,.cons n t h=>.cons ⟨t,rfl⟩ (Z6u h)
def Only (H:Hp):Prop:=∀ b,H b=none∨∃ o xs,H b=some (.frz o (.lst xs))
theorem J3j {P:Program} {w:World} {K:W.Frag} {mg mb:Str→Option Value} {CX:CXT} {k:Nat} {fa a:Addr} {fd:FuncData} {x:Str} {sp:Sp} {s₁:Shared} {vs:List Value} {ns:List Int}
  (KX:K.In s₁.heap) (hns:s₁.heap.Ns mainGlobals mg) (hb:s₁.heap.Ns builtinsNs mb) (hbb:∀ x:Str,x≠"__name__"→mb x=bootBuiltins x) (hlim:s₁.heap.NoLimit) (hg:s₁.gens=#[])
  (ha:s₁.heap.get? a=some { cls:=.type "list",data:=.seq vs.toArray }) (hi:IntsAre vs ns) (hl:ns.length≤sizeLine) (hr:Room k callerA)
  (F:∀ base:Heap,K.In base→base.Ns mainGlobals mg→FnOk P w K mg base CX k fa fd [x] sp) (hbind:∀ (s:Shared) (u:Value),BindsTo s fd ⟨[u],[]⟩ [(x,u)])
  (hsp:∀ H:Hp,Only H→SqL K H a (ns.map V.int)→sp [.ref a] H (fun v _=>v=.bl true) fun _ _ _=>False)
  (hCX:∀ H e s',CX [] H s₁ (fun _ _ _=>False) e s'→False) :
  codeAny (model P w) callerA (.call (.ref fa) ⟨[.ref a],[]⟩) (fun r s'=>r=.ok (.ret (.bool true))∧OldK s₁.heap s'.heap∧s'.os=s₁.os∧AllBare s'.gens) s₁:=by
 have rv:=Z6u hi
 have lenV:=hi.length
 -- from an abstract heap in which nothing but the script may be tracked
 have core:∀ H:Hp,Only H→SqL K H a (ns.map V.int)→HOk P w H s₁.heap→(∀ b,H b≠none→b=a)→(H a≠none→K.lookup a=none) →
   codeAny (model P w) callerA (.call (.ref fa) ⟨[.ref a],[]⟩) (fun r s'=>r=.ok (.ret (.bool true))∧OldK s₁.heap s'.heap∧s'.os=s₁.os∧AllBare s'.gens) s₁:=by
  intro H hO hS hok hA hK
  have base_of:∀ {b:Addr} {o:Obj},s₁.heap.get? b=some o→H b=none→(hidT s₁.heap H).get? b=some o:=fun e n=>J2o e n
  have noA:∀ {b:Addr} {o:Obj} {es:Array DictEntry} {ep:Nat},s₁.heap.get? b=some o→o.data=.dict es ep→H b=none:=fun {b o es ep} e d=>by
   cases q:H b with
   | none=>rfl
   | some u=>
    have e':b=a:=hA b (by rw [q]; simp)
    subst e'
    rw [ha] at e; cases e
    have d':Data.seq vs.toArray _=Data.dict es ep:=d
    cases d'
  have nsK:∀ {b:Addr} {m:Str→Option Value},s₁.heap.Ns b m→(hidT s₁.heap H).Ns b m:=fun {b m} ⟨o,es,ep,e,d,r⟩=>⟨o,es,ep,base_of e (noA e d),d,r⟩
  have hKb:K.In (hidT s₁.heap H):=fun b o e=>base_of (KX b o e) (by
   cases q:H b with
   | none=>rfl
   | some u=>
    have e':b=a:=hA b (by rw [q]; simp)
    subst e'
    rw [hK (by rw [q]; simp)] at e; cases e)
  have hM:Mod K mg (hidT s₁.heap H):=⟨hKb,nsK hns,⟨mb,nsK hb,hbb⟩,let ⟨mc,h1,h2⟩:=hlim; ⟨mc,nsK h1,h2⟩⟩
  have e0:Env0 P w K mg (hidT s₁.heap H) callerA [] s₁ H:=⟨rfl,hM,fun b o e=>J4s e,Nat.le_of_eq (Z9O _ _),trivial,fun b hb=>absurd (show b∈([]:List Addr) from hb) (by simp),hok,.of_eq hg⟩
  refine codeAny_mono ((F _ hKb (nsK hns)).run callerA [] s₁ H ⟨[.ref a],[]⟩ [.ref a] [.ref a] _ _ hr e0 (hbind s₁ (.ref a)) (.cons rfl .nil) (hsp H hO hS)) fun r s' h=>?_
  cases r with
  | error e=>exact (hCX H e s' h).elim
  | ok fl=>
   cases fl with
   | next=>exact False.elim h
   | brk=>exact False.elim h
   | cont=>exact False.elim h
   | ret u=>
    obtain ⟨v,H',os,bare,un,hok',r',q⟩:=h
    have q':v=.bl true:=q
    subst q'
    obtain rfl:u=Value.bool true:=r'
    refine ⟨rfl,OldK.of_keep fun b o e=>?_,os,bare⟩
    cases q:H b with
    | none=>exact un.keep b o e q (by intro z; exact absurd (show b∈([]:List Addr) from z) (by simp)) (by simp)
    | some u=>
     rcases hO b with z | ⟨ob,xs,z⟩
     ·rw [q] at z; cases z
     ·have z2:=un.frzs b ob _ z
      obtain ⟨e1,_⟩:=hok b _ z
      obtain ⟨e2,_⟩:=hok' b _ z2
      rw [e] at e1; cases e1
      exact e2
 cases hk:K.lookup a with
 | some o=>
  -- the script is one of the module's own objects
  have e:=KX a o hk
  rw [ha] at e
  cases e
  refine core (fun _=>none) (fun _=>.inl rfl) (.inr ⟨_,vs.toArray,_,hk,rfl,rfl,rfl,by rw [List.size_toArray,lenV]; exact hl,by simpa using rv⟩) (fun b u z=>by have z':(none:Option HO)=some u:=z; cases z') (fun b z=>absurd rfl z) fun z=>absurd rfl z
 | none=>
  refine core (fun b=>if b=a then some (.frz { cls:=.type "list",data:=.seq vs.toArray } (.lst (ns.map V.int))) else none) (fun b=>?_) (.inl (.inr ⟨{ cls:=.type "list",data:=.seq vs.toArray },if_pos rfl⟩)) (fun b u z=>?_) (fun b z=>?_) fun _=>hk
  ·by_cases hb:b=a
   ·exact .inr ⟨_,_,if_pos hb⟩
   ·exact .inl (if_neg hb)
  ·by_cases hb:b=a
   ·have z':=(if_pos hb).symm.trans z
    cases z'
    subst hb
    exact ⟨ha,by rw [List.length_map]; exact hl,vs,_,rv,ha⟩
   ·have z':=(if_neg hb).symm.trans z
    cases z'
  ·by_cases hb:b=a
   ·exact hb
   ·exact absurd (if_neg hb) z
end L2
namespace L2
open PySem PySem.Spec PyProof.Rows
abbrev KOf {K:W.Frag} {h:Heap} (_:K.In h):W.Frag:=K
theorem J4a {l:W.OpenLaw} {n k:Nat} {q:Program} {loose:List Str} {XP:(Str→Option Value)→Heap→Prop} {YP:World→Heap→Prop} {d:DefRec} {K:Params→W.Frag} {CX:World→CXT} {sp:World→Sp} {x:Str}
  (hn:l.most=some n) (hn2:n≤sizeLine) (hdf:d.params.defaults=[]) (hr:Room k callerA)
  (hY:∀ (w:World) (h:Heap),YP w h→(K w.params).In h)
  (F:∀ (w:World) (mg:Str→Option Value) (fa:Addr) (h:Heap),(K w.params).In h→h.Ns mainGlobals mg→mg d.name=some (.ref fa) →
   ∃ fd:FuncData,(∀ (s:Shared) (u:Value),BindsTo s fd ⟨[u],[]⟩ [(x,u)]) ∧
    ∀ base:Heap,(K w.params).In base→base.Ns mainGlobals mg→FnOk l.prog w (K w.params) mg base (CX w) k fa fd [x] (sp w))
  (hsp:∀ (w:World) (H:Hp) (a:Addr) (ns:List Int),ns.length≤n→Only H→SqL (K w.params) H a (ns.map V.int)→sp w [.ref a] H (fun v _=>v=.bl true) fun _ _ _=>False)
  (hCX:∀ (w:World) (H:Hp) (s:Shared) (e:Value) (s':Shared),CX w [] H s (fun _ _ _=>False) e s'→False) :
  W.WalkO q loose XP YP l.row.toRowW d [] (fun f vs=>PySem.call f vs):=by
 refine Att.attach_call hn hdf fun w s₀ s₁ mg mb fa o pm cd doc a vs ns G Y ho hd hcd hmg hobj hints hlen hg=>?_
 have KX:=hY w _ Y
 obtain ⟨fd,hb,hF⟩:=F w mg fa _ KX G.T.g hmg
 exact J3j KX G.T.g G.T.b G.T.builtins G.T.nolimit hg hobj hints (Nat.le_trans hlen hn2) hr hF hb (fun H hO hS=>hsp w H a ns hlen hO hS) fun H e s'=>hCX w H s₁ e s'
theorem J2j {l:W.OpenLaw} {n k:Nat} {q:Program} {loose:List Str} {XP:(Str→Option Value)→Heap→Prop} {YP:World→Heap→Prop} {d:DefRec} {K:Params→W.Frag} {CX:CXT} {sp:W.Frag→Sp} {x:Str}
  (hn:l.most=some n) (hn2:n≤sizeLine) (hdf:d.params.defaults=[]) (hr:Room k callerA)
  (hY:∀ (w:World) (h:Heap),YP w h→(K w.params).In h)
  (F:∀ (w:World) (mg:Str→Option Value) (fa:Addr) (h:Heap),(K w.params).In h→h.Ns mainGlobals mg→mg d.name=some (.ref fa) →
   ∃ fd:FuncData,(∀ (s:Shared) (u:Value),BindsTo s fd ⟨[u],[]⟩ [(x,u)]) ∧
    ∀ base:Heap,(K w.params).In base→base.Ns mainGlobals mg→FnOk l.prog w (K w.params) mg base CX k fa fd [x] (sp (K w.params)))
  (hsp:∀ (K:W.Frag) (H:Hp) (a:Addr) (ns:List Int),ns.length≤n→Only H→SqL K H a (ns.map V.int)→sp K [.ref a] H (fun v _=>v=.bl true) fun _ _ _=>False)
  (hCX:∀ (H:Hp) (s:Shared) (e:Value) (s':Shared),CX [] H s (fun _ _ _=>False) e s'→False) :
  W.WalkO q loose XP YP l.row.toRowW d [] (fun f vs=>PySem.call f vs):=
 J4a (K:=K) (CX:=fun _=>CX) (sp:=fun w=>sp (K w.params)) hn hn2 hdf hr hY F (fun w H a ns h1 h2 h3=>hsp (K w.params) H a ns h1 h2 h3) fun _ H s e s'=>hCX H s e s'
end L2
namespace L2
open PySem PySem.Spec PyProof.Rows
abbrev CX0:CXT:=fun _ _ _ _ _ _=>False
abbrev E0:XK:=fun _ _ _=>False
theorem Z9E {X:Cx}:Z4w CX0 X E0:=fun _ _ _ _ _ _ _ h=>h.elim
structure Fun (K:W.Frag) (x qual:Str) (st:Stmt) (f:Addr) (fd:FuncData):Prop where
 ex:∃ (oc:Value) (od:Option Addr) (kV doc pm:Value) (an:Option Addr) (cdv ct:Value) (osl:Array (Option Value)),
  fd=W.fnOf x qual (Z0h st) (Z0f st) (Z0b st) .none kV doc pm an cdv ct∧K.lookup f=some ⟨oc,od,.func fd,osl⟩∧W.codeIn K cdv qual=true
 kp:W.keepIn K (.ref f)=true
section
variable {P:Program} {w:World} {K:W.Frag} {mg:Str→Option Value} {base:Heap}
theorem Fun.ok {x qual:Str} {st:Stmt} {f:Addr} {fd:FuncData} {N ps:List Str} {k:Nat} {sp:Sp} (F:Fun K x qual st f fd) (S:Z0m N ps (Z0b st)) (len:∀ vs H Q E,sp vs H Q E→vs.length=ps.length)
  (hbody:∀ (cdv:Value) (A:Around) (outer:List Env) (s:Shared) (H:Hp) (vs:List V) (Q:VK) (E:XK),Room k (A.deeper (envOfC qual (Z0b st) s.heap.objs.size f cdv))→sp vs H Q E →
   ∃ t,PSs (cxOf CX0 P w K mg base N qual (Z0b st) f cdv A outer s H E).nox (Z0f st) t∧t { nx:=fun _ H'=>Q .non H',rt:=Q } (Z4U N vs) H):FnOk P w K mg base CX0 (k+1) f fd ps sp:=by
 obtain ⟨oc,od,kV,doc,pm,an,cdv,ct,osl,rfl,lk,hcd⟩:=F.ex
 refine J6x lk hcd S len fun A outer s H vs Q E hr hsp=>?_
 obtain ⟨t,h,q⟩:=hbody cdv A outer s H vs Q E hr hsp
 exact ⟨t,h.nox,q⟩
theorem Fun.binds {x qual:Str} {st:Stmt} {f:Addr} {fd:FuncData} {ps:List Str} (F:Fun K x qual st f fd)
  (h:∀ (kV doc pm:Value) (an:Option Addr) (cdv ct:Value) (us:List Value),us.length=ps.length→bindArgs (W.fnOf x qual (Z0h st) (Z0f st) (Z0b st) .none kV doc pm an cdv ct) ⟨us,[]⟩=pure (ps.zip us)):Binds K fd ps []:=by
 obtain ⟨oc,od,kV,doc,pm,an,cdv,ct,osl,rfl,lk,hcd⟩:=F.ex
 exact .all (h kV doc pm an cdv ct)
theorem J3r {x qual:Str} {st:Stmt} {f:Addr} {oc:Value} {od an:Option Addr} {osl:Array (Option Value)} {kV doc pm cdv ct:Value} (l:K.lookup f=some ⟨oc,od,.func (W.fnOf x qual (Z0h st) (Z0f st) (Z0b st) .none kV doc pm an cdv ct),osl⟩)
  (c:W.codeIn K cdv qual=true) (k:W.keepIn K (.ref f)=true):Fun K x qual st f (W.fnOf x qual (Z0h st) (Z0f st) (Z0b st) .none kV doc pm an cdv ct):=⟨⟨oc,od,kV,doc,pm,an,cdv,ct,osl,rfl,l,c⟩,k⟩
end
theorem Z9B {A:Around} {k:Nat} (hr:Room k A):A.units+1 < cLine:=Nat.lt_of_le_of_lt (Nat.add_le_add_left (by decide:1≤64) _) hr.units
section
variable {X:Cx}
end
theorem iteT {A B:Prop} (h:A):if true=true then A else B:=by
 rw [if_pos rfl]
 exact h
theorem ite2 {c A B:Prop} [Decidable c] (h1:c→A) (h2:¬ c→B):if c then A else B:=by
 by_cases h:c
 ·rw [if_pos h]
  exact h1 h
 ·rw [if_neg h]
  exact h2 h
def Same (H H':Hp):Prop:=∀ b o,H b=some o→H' b=some o
theorem Same.refl (H:Hp):Same H H:=fun _ _ h=>h
theorem Same.trans {H H1 H2:Hp} (a:Same H H1) (b:Same H1 H2):Same H H2:=fun c o h=>b c o (a c o h)
theorem Same.free {H H':Hp} (e:Same H H') {l:Addr} (h:H' l=Option.none):H l=Option.none:=by
 cases q:H l with
 | none=>rfl
 | some o=>
  rw [e l o q] at h
  cases h
theorem Same.seq {K:W.Frag} {H H':Hp} {a:Addr} {xs:List V} (e:Same H H') (h:SqL K H a xs):SqL K H' a xs:=by
 rcases h with (h | ⟨o,h⟩) | h
 ·exact .inl (.inl (e _ _ h))
 ·exact .inl (.inr ⟨o,e _ _ h⟩)
 ·exact .inr h
end L2
end
section
namespace L2
open PySem PySem.Spec PyProof.Rows PySem.SeqAt
mutual
inductive RdD (K:W.Frag) (H:Hp):V→PyData→Prop
 | non:RdD K H .non .none
 | bl (b:Bool):RdD K H (.bl b) (.bool b)
 | int (i:Int):RdD K H (.int i) (.int i)
 | str (x:Str):RdD K H (.str x) (.str x)
 | lst {a:Addr} {xs:List V} {ds:List PyData}:SqL K H a xs→RdDs K H xs ds→RdD K H (.ref a) (.list ds)
 | tup {a:Addr} {xs:List V} {ds:List PyData}:SqT K H a xs→RdDs K H xs ds→RdD K H (.ref a) (.tuple ds)
inductive RdDs (K:W.Frag) (H:Hp):List V→List PyData→Prop
 | nil:RdDs K H [] []
 | cons {x:V} {xs:List V} {d:PyData} {ds:List PyData}:RdD K H x d→RdDs K H xs ds→RdDs K H (x::xs) (d::ds)
end
section
variable {X:Cx} {pins:List (Addr×Obj)} {σ:St} {H:Hp} {s:Shared}
mutual
theorem RdD.reads (I:Inv X pins σ H s):∀ {x:V} {d:PyData} {v:Value},RdD X.K H x d→RelV x v→∃ as,Reads s.heap v d as
 | _,_,_,.non,r=>by cases (show _=Value.none from r); exact ⟨_,.none⟩
 | _,_,_,.bl b,r=>by cases (show _=Value.bool b from r); exact ⟨_,.bool b⟩
 | _,_,_,.int i,r=>by obtain ⟨t,e⟩:=(show ∃ t,_=Value.int i t from r); subst e; exact ⟨_,.int i t⟩
 | _,_,_,.str x,r=>by obtain ⟨t,e⟩:=(show ∃ t,_=Value.str x t from r); subst e; exact ⟨_,.str x t⟩
 | _,_,_,.lst (a:=a) hq hs,r=>by
  cases (show _=Value.ref a from r)
  obtain ⟨its,rv,pl,_⟩:=I.list hq
  obtain ⟨as,ra⟩:=RdDs.reads I hs rv
  obtain ⟨o,ho,hc,n,hd⟩:=pl.isList
  exact ⟨_,.list ho hc hd (by simpa using ra)⟩
 | _,_,_,.tup (a:=a) hq hs,r=>by
  cases (show _=Value.ref a from r)
  obtain ⟨its,rv,pl,_⟩:=I.tuple hq
  obtain ⟨as,ra⟩:=RdDs.reads I hs rv
  obtain ⟨o,ho,hc,n,hd⟩:=pl
  exact ⟨_,.tuple ho hc hd (by simpa using ra)⟩
theorem RdDs.reads (I:Inv X pins σ H s):∀ {xs:List V} {ds:List PyData} {vs:List Value},RdDs X.K H xs ds→Vals xs vs→∃ as,ReadsAll s.heap vs ds as
 | _,_,_,.nil,.nil=>⟨_,.nil⟩
 | _,_,_,.cons hd ht,.cons r rr=>by
  obtain ⟨as,ra⟩:=RdD.reads I hd r
  obtain ⟨bs,rb⟩:=RdDs.reads I ht rr
  exact ⟨_,.cons ra rb⟩
end
def rEqD (K:W.Frag):R2:=fun x y H Q=>∃ d e,RdD K H x d∧RdD K H y e∧shaped d=true∧shaped e=true∧Q (.bl (PyData.eqv d e)) H
def rNeD (K:W.Frag):R2:=fun x y H Q=>∃ d e,RdD K H x d∧RdD K H y e∧shaped d=true∧shaped e=true∧Q (.bl (!PyData.eqv d e)) H
theorem J0Y (hu:X.A.units+64 < cLine):OpR X (compareOp .Eq) (rEqD X.K):=by
 intro pins s σ H x y v u Q I rx ry h
 obtain ⟨d,e,hd,he,sd,se,q⟩:=h
 obtain ⟨as,ra⟩:=RdD.reads I hd rx
 obtain ⟨bs,rb⟩:=RdD.reads I he ry
 exact eq_dataH ra rb sd se hu ⟨.bl _,H,I,rfl,q⟩
end
end L2
end
section
namespace L2
open PySem PySem.Spec PyProof.Rows PySem.SeqAt
def Z5u (K:W.Frag):List V→Hp→VK→Prop:=fun xs H Q=>∃ a d,xs=[.ref a]∧RdD K H (.ref a) d∧d.showable=true∧d.hasDict=false∧d.depth≤60∧d.shown.length≤sizeLine∧Q (.str d.shown) H
theorem Z3A {X:Cx} (hg:X.A.guards=some []) (hu:X.A.units+64 < cLine):Z4n X (.builtin "repr") (Z5u X.K):=by
 intro pins s σ H xs us Q I rs h
 obtain ⟨a,d,rfl,hr,hs,hd,hz,hl,q⟩:=h
 obtain ⟨u,rfl,ru⟩:=rs.one
 obtain rfl:u=Value.ref a:=ru
 obtain ⟨as,ra⟩:=RdD.reads I hr rfl
 exact repr_of_reads' ra hs (fun z=>by rw [hd] at z; cases z) hg (by omega) (fun _ _ e=>e) (fun h' u tk k=>⟨.str d.shown,H,I.kept k,⟨_,rfl⟩,q⟩) hl
end L2
end
section
namespace L2
open PySem PySem.Spec PyProof.Rows PySem.SeqAt
theorem J2i {K:W.Frag} {H H':Hp} {a:Addr} {xs:List V} (h:SqT K H a xs) (e:Same H H'):SqT K H' a xs:=by
 rcases h with (h | ⟨o,h⟩) | h
 ·exact .inl (.inl (e _ _ h))
 ·exact .inl (.inr ⟨o,e _ _ h⟩)
 ·exact .inr h
mutual
theorem RdD.same {K:W.Frag} {H H':Hp} (e:Same H H'):∀ {v:V} {d:PyData},RdD K H v d→RdD K H' v d
 | _,_,.non=>.non
 | _,_,.bl b=>.bl b
 | _,_,.int i=>.int i
 | _,_,.str x=>.str x
 | _,_,.lst hq hs=>.lst (e.seq hq) (RdDs.same e hs)
 | _,_,.tup hq hs=>.tup (J2i hq e) (RdDs.same e hs)
theorem RdDs.same {K:W.Frag} {H H':Hp} (e:Same H H'):∀ {v:List V} {d:List PyData},RdDs K H v d→RdDs K H' v d
 | _,_,.nil=>.nil
 | _,_,.cons h hs=>.cons (RdD.same e h) (RdDs.same e hs)
end
end L2
end
section
namespace L2
open PySem PySem.Spec PyProof.Rows
def Cx.block (X:Cx) (N:List Str) (scope:Scope) (cl:List (Str×Addr)) (C:Addr) (fp:List Addr) (s:Shared) (H:Hp):Cx:=
 { X with N:=N,s₀:=s,H₀:=H,env:=compEnvC scope cl C X.env,outer:=X.stack,stack:=X.stack,ex:=fp,fn:=fun _=>false,pn:=[],xe:=fun _ _=>False }
structure BlockOk (X:Cx) (N:List Str) (nl:List (Option Nat)) (scope:Scope) (cl:List (Str×Addr)):Prop where
 kind:scope.kind=.function
 nocell:∀ y∈scope.names,y.2≠.cell
 names:∀ y∈scope.names,y.2=.local→scope.names.lookup y.1=some .local
 clos:closureFor scope X.env=pure cl
 sub:∀ y c,cl.lookup y=some c→X.env.cells.lookup y=some c
 has:∀ y,scope.names.lookup y=some .free→∃ c,cl.lookup y=some c
 len:nl.length=N.length
 seen:∀ (i j:Nat) (y:Str),N[i]?=some y→nl[i]?=some (some j)→X.N[j]?=some y∧scope.names.lookup y=some .free∧(X.env.scope.names.lookup y=some .cell∨X.env.scope.names.lookup y=some .free)
def stOf (nl:List (Option Nat)) (σ:St):St:=nl.map fun o=>match o with
 | none=>none
 | some j=>(σ[j]?).join
theorem Z0X {x:Str} {k:NameKind}:∀ {l:List (Str×NameKind)},l.lookup x=some k→(x,k)∈l
 | [],h=>by simp at h
 | (n,q)::r,h=>by
  rw [List.lookup_cons] at h
  cases e:x == n with
  | true=>
   rw [e] at h
   have:q=k:=by simpa using h
   have e':x=n:=by simpa using e
   rw [this,e']
   exact List.mem_cons_self
  | false=>
   rw [e] at h
   exact List.mem_cons_of_mem _ (Z0X h)
theorem Z2k {env:Env} {x:Str} {k:NameKind}:∀ {l:List (Str×NameKind)},
  (l.map fun (n,k)=>if (k == NameKind.free&&env.scope.kind == .function&&env.kindOf n == some .cell) then (n,NameKind.cell) else (n,k)).lookup x=some k →
   (l.lookup x=some k∨(k=.cell∧l.lookup x=some .free))
 | [],h=>by simp at h
 | (n,q)::r,h=>by
  rw [List.map_cons] at h
  cases e:x == n with
  | true=>
   by_cases hc:(q == NameKind.free&&env.scope.kind == .function&&env.kindOf n == some .cell)=true
   ·simp only [hc,if_true,List.lookup_cons,e] at h
    have hq:q=.free:=by
     rw [Bool.and_eq_true,Bool.and_eq_true] at hc
     simpa using hc.1.1
    refine .inr ⟨(by simpa using h.symm),?_⟩
    rw [List.lookup_cons,e,hq]
   ·change List.lookup x ((if (q == NameKind.free&&env.scope.kind == .function&&env.kindOf n == some .cell)=true then (n,NameKind.cell) else (n,q))::_)=some k at h
    rw [if_neg hc,List.lookup_cons,e] at h
    refine .inl ?_
    rw [List.lookup_cons,e]
    exact h
  | false=>
   have h':(r.map fun (n,k)=>if (k == NameKind.free&&env.scope.kind == .function&&env.kindOf n == some .cell) then (n,NameKind.cell) else (n,k)).lookup x=some k:=by
    by_cases hc:(q == NameKind.free&&env.scope.kind == .function&&env.kindOf n == some .cell)=true
    ·simpa only [hc,if_true,List.lookup_cons,e] using h
    ·simpa only [hc,List.lookup_cons,e,if_false,Bool.false_eq_true] using h
   have ih:=Z2k (env:=env) h'
   rw [List.lookup_cons,e]
   exact ih
theorem Z3p {env:Env} {x:Str}:∀ {l:List (Str×NameKind)},l.lookup x=some .free →
  (l.map fun (n,k)=>if (k == NameKind.free&&env.scope.kind == .function&&env.kindOf n == some .cell) then (n,NameKind.cell) else (n,k)).lookup x=some .cell ∨
  (l.map fun (n,k)=>if (k == NameKind.free&&env.scope.kind == .function&&env.kindOf n == some .cell) then (n,NameKind.cell) else (n,k)).lookup x=some .free
 | [],h=>by simp at h
 | (n,q)::r,h=>by
  rw [List.map_cons]
  cases e:x == n with
  | true=>
   rw [List.lookup_cons,e] at h
   have hq:q=.free:=by simpa using h
   by_cases hc:(q == NameKind.free&&env.scope.kind == .function&&env.kindOf n == some .cell)=true
   ·left; simp only [hc,if_true,List.lookup_cons,e]
   ·right
    change List.lookup x ((if (q == NameKind.free&&env.scope.kind == .function&&env.kindOf n == some .cell)=true then (n,NameKind.cell) else (n,q))::_)=some .free
    rw [if_neg hc,List.lookup_cons,e,hq]
  | false=>
   rw [List.lookup_cons,e] at h
   have ih:=Z3p (env:=env) (l:=r) h
   by_cases hc:(q == NameKind.free&&env.scope.kind == .function&&env.kindOf n == some .cell)=true
   ·simpa only [hc,if_true,List.lookup_cons,e] using ih
   ·simpa only [hc,List.lookup_cons,e,if_false,Bool.false_eq_true] using ih
section
variable {X:Cx} {pins:List (Addr×Obj)} {σ:St} {H:Hp} {s:Shared} {N:List Str} {nl:List (Option Nat)} {scope:Scope} {cl:List (Str×Addr)} {fp:List Addr}
theorem J1p (I:Inv X pins σ H s) (B:BlockOk X N nl scope cl) (hf:∀ b∈fp,FpOk X pins H b) (hob:∀ b∈fp,b < s.heap.objs.size) {C:Addr} (hC:s.heap.objs.size≤C):(X.block N scope cl C fp s H).Ok:=by
 have stk:∀ b∈frs X.stack,b=X.env.locals∨b∈X.fs:=fun b hb=>List.mem_cons.mp (I.stkSub b hb)
 refine ⟨I.ok.mod,B.kind,I.ok.glob,I.ok.blt,hC,fun x y c h1 h2=>I.ok.inj x y c (B.sub x c h1) (B.sub y c h2),fun x hx=>?_,fun x c h=>(nomatch h),I.ok.hd,I.ok.frames,.inl rfl,fun b hb=>⟨?_,fun x c e=>?_⟩,
  I.bs,Nat.le_trans I.ok.bsz I.sz,fun b o e hb=>?_,fun b hb hm=>?_,I.stack,I.stkFree⟩
 ·have hx':(scope.names.map fun (n,k)=>if (k == NameKind.free&&X.env.scope.kind == .function&&X.env.kindOf n == some .cell) then (n,NameKind.cell) else (n,k)).lookup x=some .cell ∨
    (scope.names.map fun (n,k)=>if (k == NameKind.free&&X.env.scope.kind == .function&&X.env.kindOf n == some .cell) then (n,NameKind.cell) else (n,k)).lookup x=some .free:=hx
  rcases hx' with q | q
  ·rcases Z2k q with z | ⟨_,z⟩
   ·exact absurd rfl (B.nocell _ (Z0X z))
   ·exact B.has x z
  ·rcases Z2k q with z | ⟨z,_⟩
   ·exact B.has x z
   ·cases z
 ·exact Nat.ne_of_lt (Nat.lt_of_lt_of_le (hob b hb) hC)
 ·exact (hf b hb).2.2.2.2.1 x c (B.sub x c e)
 ·rcases (hf b hb).2.2.2.1 with z | z
  ·exact I.ok.noex b o e z
  ·exact absurd (Nat.lt_of_lt_of_le (Heap.lt_size (I.ok.bs b o e).1) z) (Nat.lt_irrefl _)
 ·rcases stk b hm with z | z
  ·exact (hf b hb).2.1 z
  ·exact (hf b hb).2.2.1 z
theorem Z9a {i:Nat} {v:V} (h:(stOf nl σ)[i]?=some (some v)):∃ j,nl[i]?=some (some j)∧σ[j]?=some (some v):=by
 unfold stOf at h
 rw [List.getElem?_map] at h
 cases e:nl[i]? with
 | none=>rw [e] at h; cases h
 | some o=>
  rw [e] at h
  cases o with
  | none=>cases h
  | some j=>
   refine ⟨j,rfl,?_⟩
   have h':(σ[j]?).join=some v:=by simpa using h
   cases q:σ[j]? with
   | none=>rw [q] at h'; cases h'
   | some o'=>
    rw [q] at h'
    have:o'=some v:=by simpa using h'
    rw [this]
theorem Z7M (I:Inv X pins σ H s) (B:BlockOk X N nl scope cl) (hf:∀ b∈fp,FpOk X pins H b) (hob:∀ b∈fp,b < s.heap.objs.size) {C D:Addr} (hD:D=s.heap.objs.size) (hC:C=s.heap.objs.size+1) {h1:Heap} {tk:Nat} {m:Str→Option Value} {n:Nat}
  (hk:∀ b o,s.heap.get? b=some o→h1.get? b=some o) (hl:h1.get? D=some { cls:=.type "list",data:=.seq ([]:List Value).toArray n }) (hn:h1.Ns C m) :
  Inv (X.block N scope cl C fp s H) [] (stOf nl σ) (upd H D (.lst [])) { s with heap:=h1,toks:=tk }:=by
 have hDn:H D=none:=I.hok.fresh (by rw [hD]; exact Nat.le_refl _)
 have hCD:C≠D:=by rw [hC,hD]; exact Nat.succ_ne_self _
 have hCn:H C=none:=I.hok.fresh (by rw [hC]; exact Nat.le_succ _)
 have cellD:∀ y c,cl.lookup y=some c→c≠D:=fun y c e z=>by
  obtain ⟨v,q⟩:=I.cell y c (B.sub y c e)
  exact absurd q.lt (by rw [z,hD]; exact Nat.lt_irrefl _)
 refine ⟨J1p I B hf hob (by rw [hC]; exact Nat.le_succ _),rfl,I.bare,Un.laid hk (by rw [hD]; exact Nat.le_refl _) hDn,⟨m,hn,fun i y v e1 e2 _=>?_⟩,fun y c e=>?_,?_,fun y c e=>?_,fun p hp=>absurd hp (by simp [Cx.block]),?_,?_⟩
 ·obtain ⟨j,hj,hv⟩:=Z9a e2
  obtain ⟨x1,x2,x3⟩:=B.seen i j y e1 hj
  obtain ⟨m0,hm0,hl0⟩:=I.loc
  obtain ⟨u,r,l⟩:=hl0 j y v x1 hv (.inr x3)
  refine ⟨u,r,?_⟩
  rcases l with ⟨hk1,_⟩ | ⟨_,c,hc,z⟩
  ·have hk1':X.env.scope.names.lookup y=some .local:=hk1
   rcases x3 with q | q <;> (rw [hk1'] at q; cases q)
  ·refine .inr ⟨Z3p x2,c,?_,z.keeps hk⟩
   obtain ⟨c',hc'⟩:=B.has y x2
   have q:=B.sub y c' hc'
   rw [hc] at q
   cases q
   exact hc'
 ·obtain ⟨v,q⟩:=I.cell y c (B.sub y c e)
  exact ⟨v,q.keeps hk⟩
 ·show (upd H D (.lst [])) C=none
  rw [Z0j hCD]
  exact hCn
 ·rw [Z0j (cellD y c e)]
  exact I.freeC y c (B.sub y c e)
 ·exact I.hok.laid hk (by rw [hD]; exact Nat.le_refl _) ⟨Nat.zero_le _,[],n,.nil,hl⟩
 ·show (stOf nl σ).length=N.length
  unfold stOf
  rw [List.length_map,B.len]
theorem Z6H {C:Addr} {σ':St} {H':Hp} {s':Shared} {h2:Heap} (I:Inv X pins σ H s) (hf:∀ b∈fp,FpOk X pins H b) (hC:s.heap.objs.size≤C) (J:Inv (X.block N scope cl C fp s H) [] σ' H' s') (hk:∀ b o,b≠C→s'.heap.get? b=some o→h2.get? b=some o) :
  Inv X pins σ H' { s' with heap:=h2 }:=by
 obtain ⟨hp,g,d,t,os⟩:=s'
 have ho:os=s.os:=J.os
 subst ho
 have hCn:H' C=none:=J.free
 have u:=J.base
 have ne:∀ b o,s.heap.get? b=some o→b≠C:=fun b o e=>Nat.ne_of_lt (Nat.lt_of_lt_of_le (Heap.lt_size e) hC)
 have u2:Un (frs X.stack) fp H H' s.heap h2:=
  ⟨fun b o e n hb hx=>hk b o (ne b o e) (u.keep b o e n hb hx),fun b o e n hb hx=>(let ⟨sl,q⟩:=u.slot b o e n hb hx; ⟨sl,hk b _ (ne b o e) q⟩),u.free,fun b o e hx=>(let ⟨o',q⟩:=u.there b o e hx; ⟨o',hk b o' (ne b o e) q⟩),u.tups,u.frzs,u.tbls⟩
 have hok2:HOk X.prog X.w H' h2:=fun b o e=>(J.hok b o e).stay (fun c v hc q=>hk c v (fun z=>by
  subst z
  rcases hc with z | z
  ·rw [← z,hCn] at e; cases e
  ·rw [hCn] at z; cases z) q) (fun _ q=>q) fun _ _ q=>q
 have z:=I.call (h':=h2) (g':=g) (d':=d) (t':=t) (ch:=fp) u2 hok2 J.bare fun b hb=>(let ⟨_,f1,_,f3,f4,f5⟩:=hf b hb; ⟨f3,f1,f4,f5⟩)
 exact z
end
def PQ (X:Cx) (tst:Env→Sem Bool) (t:TT):Prop:=
 ∀ (pins:List (Addr×Obj)) (s:Shared) (σ:St) (H:Hp) (Q:Bool→Hp→Prop),Inv X pins σ H s→t σ H Q→wpAny (model X.prog X.w) X.A (tst X.env) (TP X pins σ Q) X.xe s
def Z3n:TT:=fun _ H Q=>Q true H
theorem Z7t {X:Cx}:PQ X (fun _=>pure true) Z3n:=fun _ _ _ H _ I h=>wpAny_pure ⟨H,I,h⟩
theorem J3F {X:Cx} {c:Expr} {t:TT} (h:PT X c t):PQ X (fun env=>isTrue c env (eval c env)) t:=h
def Z4p (J:It) (g:TG) (tc:TT) (te:TE) (D:Addr) (Q:VK) (σ0:St) (H0:Hp):Prop:=∃ W:Nat→Nat→St→Hp→Prop,(∃ m,W 0 m σ0 H0)∧∀ i m σ' H',W i m σ' H' →
 (J.stop i H'∧Q (.ref D) H')∨(J.go i H'∧∃ N:St→Hp→Prop,(∀ σ2 H2,N σ2 H2→∃ m',m' < m∧W (i+1) m' σ2 H2)∧∀ x H2,J.yld i H' x H2→g x σ' H2 fun σ3 H3=>tc σ3 H3 fun b H4=>
  if b=true then te σ3 H4 fun v H5=>∃ xs,H5 D=some (.lst xs)∧xs.length < sizeLine∧N σ3 (upd H5 D (.lst (xs++[v]))) else N σ3 H4)
def Z6U (wi:TI) (nl:List (Option Nat)) (g:TG) (tc:TT) (te:TE):TE:=fun σ H Q=>wi σ H fun J H1=>∀ D,H1 D=none→Z4p J g tc te D Q (stOf nl σ) (upd H1 D (.lst []))
theorem Z4i {X:Cx} {N:List Str} {nl:List (Option Nat)} {scope:Scope} {cl:List (Str×Addr)} {elt tg iter:Expr} {ifs:List Expr} {pos:Pos} {wi:TI} {g:TG} {tst:Env→Sem Bool} {tc:TT} {te:TE} (hcalm:X.calm=true)
  (B:BlockOk X N nl scope cl) (hi:PI X tg iter wi) (hg:∀ C fp s H,PG (X.block N scope cl C fp s H) tg g) (ht:∀ C fp s H,PQ (X.block N scope cl C fp s H) tst tc) (he:∀ C fp s H,PE (X.block N scope cl C fp s H) elt te)
  (hturn:∀ (it acc:Value) (env:Env),compTurn (.ListComp elt [⟨tg,iter,ifs,0⟩] scope pos) 0 it acc env=(do
   standAt iter.pos
   match ← pyNext it with
   | none=>pure (.done .next)
   | some v=>
    letOwnedTupleGo tg it v
    assign tg env v
    let ok ← tst env
    if ok then (do
     (do let x ← eval elt env; let _ ← call (.builtin "list.append") [acc,x]; pure ())
     again (.compLoop (.ListComp elt [⟨tg,iter,ifs,0⟩] scope pos) 0 it acc env))
    else again (.compLoop (.ListComp elt [⟨tg,iter,ifs,0⟩] scope pos) 0 it acc env)))
  (hs:∀ x,foldedSetIterable iter X.env x=pure x) {pins:List (Addr×Obj)} {s:Shared} {σ:St} {H:Hp} {Q:VK} (I:Inv X pins σ H s) (h:Z6U wi nl g tc te σ H Q) {use:Option (Value→Sem Unit)} {Q':Value→Shared→Prop}
  (hpost:∀ (D C:Addr) (s' s2:Shared) (fp:List Addr) (σ':St) (H' H2:Hp),Inv X pins σ H2 s2→(∀ b∈fp,FpOk X pins H2 b)→s2.heap.objs.size≤C→Inv (X.block N scope cl C fp s2 H2) [] σ' H' s'→Q (.ref D) H' →
   compPost (model X.prog X.w) X.A X.xe use Q' (.ref D) C (.ok .next) s')
  (hpos:Pos) :
  wpAny (model X.prog X.w) X.A (comprehension (.ListComp elt [⟨tg,iter,ifs,0⟩] scope pos) scope X.env hpos (newList []) false (eval iter X.env) use) Q' X.xe s:=by
 refine wpAny_comprehension_free (use:=use) rfl hs B.clos B.kind B.names ?_
 refine thn (hi pins s σ H _ I h) fun v s1 h1=>thn h1 fun itv s2 h2=>?_
 obtain ⟨it,fp,tn,J,H2,e,I2,T,st2,f2,q⟩:=h2
 subst e
 have hob:∀ b∈fp,b < s2.heap.objs.size:=fun b hb=>(let ⟨o,e,_⟩:=T.obj 0 _ st2 b hb; Heap.lt_size e)
 refine wpAny_newObj_type (wpAny_newFunctionEnv B.nocell (by intro y hy; simp at hy) (fun h1 hns hsb=>?_) B.kind)
 dsimp only at hns hsb ⊢
 generalize hD:s2.heap.objs.size=D at hns hsb ⊢
 have hC:(s2.heap.push { cls:=.type "list",dict:=none,data:=.seq ([]:List Value).toArray }).objs.size=s2.heap.objs.size+1:=by rw [Heap.size_push]
 generalize hC':(s2.heap.push { cls:=.type "list",dict:=none,data:=.seq ([]:List Value).toArray }).objs.size=C at hns hsb hC ⊢
 have hDC:D≠C:=by rw [hC,← hD]; exact (Nat.succ_ne_self _).symm
 have lt_ne:∀ b,b < s2.heap.objs.size→b≠C:=fun b hb=>by rw [hC]; exact Nat.ne_of_lt (Nat.lt_succ_of_lt hb)
 have old:∀ b o,s2.heap.get? b=some o→h1.get? b=some o:=fun b o e=>
  hsb.extBut b o (lt_ne b (Heap.lt_size e)) (Heap.get?_push_of_some _ (Heap.get?_push_of_some _ e))
 have hl:h1.get? D=some { cls:=.type "list",data:=.seq ([]:List Value).toArray 0 }:=by
  refine hsb.extBut D _ hDC (Heap.get?_push_of_some _ ?_)
  rw [← hD]
  exact Heap.get?_push_size _ rfl
 have fresh:H2 D=none:=I2.hok.fresh (by rw [hD]; exact Nat.le_refl _)
 obtain ⟨W,⟨m0,w0⟩,turn⟩:=q D fresh
 have hCle:s2.heap.objs.size≤C:=by rw [hC]; exact Nat.le_succ _
 have stat:∀ {H':Hp},(∀ b∈fp,H' b=none)→∀ b∈fp,FpOk (X.block N scope cl C fp s2 H2) [] H' b:=fun hn b hb=>by
  obtain ⟨_,f1,f2',f3,f4,f5⟩:=f2 b hb
  refine ⟨hn b hb,lt_ne b (hob b hb),fun z=>?_,.inl hb,fun x c e=>f4 x c (B.sub x c e),fun p hp=>absurd hp (by simp [Cx.block])⟩
  rcases List.mem_cons.mp (I2.stkSub b z) with z | z
  ·exact f1 z
  ·exact f2' z
 have main:∀ s4:Shared,(∃ tk,s4={ s2 with heap:=h1,toks:=tk }) →
   codeAny (model X.prog X.w) X.A (.compLoop (.ListComp elt [⟨tg,iter,ifs,0⟩] scope pos) 0 (.ref it) (.ref D) (X.block N scope cl C fp s2 H2).env) (compPost (model X.prog X.w) X.A X.xe use Q' (.ref D) C) s4:=by
  rintro s4 ⟨tk,rfl⟩
  have I3:Inv (X.block N scope cl C fp s2 H2) [] (stOf nl σ) (upd H2 D (.lst [])) { s2 with heap:=h1,toks:=tk }:=Z7M I2 B f2 hob hD.symm hC old hl hns
  refine codeAny_loop rfl (fun n s'=>∃ i σ' H',Inv (X.block N scope cl C fp s2 H2) [] σ' H' s'∧tn i s'.heap∧(∀ b∈fp,H' b=none)∧W i n σ' H') (fun n s5 hI=>?_) m0
   ⟨0,stOf nl σ,_,I3,T.keep 0 _ _ st2 fun b hb o e=>old b o e,fun b hb=>by rw [Z0j (fun z=>absurd (hob b hb) (by rw [z,← hD]; exact Nat.lt_irrefl _))]; exact (f2 b hb).1,w0⟩
  show wpAny _ X.A ((compTurn (.ListComp elt [⟨tg,iter,ifs,0⟩] scope pos) 0 (.ref it) (.ref D) (X.block N scope cl C fp s2 H2).env).onRaise (fun x=>do noteFrame x (X.block N scope cl C fp s2 H2).env; theTreesLotGoes x)) _ _ s5
  refine wpAny_noted ?_
  rw [hturn]
  obtain ⟨i,σ5,H5,I5,st5,fr5,w5⟩:=hI
  have quiet:∀ {α:Type} {t:Sem α} {R:α→Shared→Prop} {E':Value→Shared→Prop} {s':Shared},wpAny (model X.prog X.w) X.A t R (fun _ _=>False) s'→wpAny (model X.prog X.w) X.A t R E' s':=fun hw=>wpAny_mono hw (fun _ _ z=>z) fun _ _ z=>z.elim
  refine wpAny_bind (wpAny_standAt ?_)
  rcases turn i n σ5 H5 w5 with ⟨stop,qn⟩ | ⟨go,Nx,hN,step⟩
  ·refine wpAny_bind (quiet (thn (T.done (X.block N scope cl C fp s2 H2) rfl rfl rfl hcalm i [] s5 σ5 H5 (fun _ _=>False) I5 (stat fr5) st5 stop) fun r s6 ⟨hr,I6⟩=>?_))
   subst hr
   exact quiet (wpAny_pure (hpost D C s6 s2 fp σ5 H5 H2 I2 f2 hCle I6 qn))
  ·refine wpAny_bind (quiet (thn (T.item (X.block N scope cl C fp s2 H2) rfl rfl rfl hcalm i [] s5 σ5 H5 (fun _ _=>False) I5 (stat fr5) st5 go) fun r s6 ⟨u,hr,h6⟩=>?_))
   subst hr
   refine wpAny_bind (quiet (thn h6 fun _ s7 ⟨x,H7,I7,r7,y7,st7,fr7⟩=>?_))
   have I7':=I7.pinned (stat fr7) (T.obj _ _ st7)
   have again':∀ {σ8:St} {H8:Hp} {s8:Shared},Inv (X.block N scope cl C fp s2 H2) ([]++Z5t fp s7.heap) σ8 H8 s8→Nx σ8 H8→∃ m,m < n∧∃ i σ' H',Inv (X.block N scope cl C fp s2 H2) [] σ' H' s8∧tn i s8.heap∧(∀ b∈fp,H' b=none)∧W i m σ' H':=fun {σ8 H8 s8} I8 n8=>by
    obtain ⟨m',hm,w8⟩:=hN σ8 H8 n8
    refine ⟨m',hm,i+1,σ8,H8,I8.unpinned,T.keep _ _ _ st7 fun b hb o e=>(I8.pin (b,o) (List.mem_append_right _ (List.mem_append_right _ (Z2C hb e)))).1,fun b hb=>?_,w8⟩
    obtain ⟨o,e,_⟩:=T.obj _ _ st7 b hb
    exact (I8.pin (b,o) (List.mem_append_right _ (List.mem_append_right _ (Z2C hb e)))).2.1
   refine wpAny_bind (quiet (thn (hg C fp s2 H2 _ s7 σ5 H7 x u _ I7' r7 (step x H7 y7)) fun _ s8 ⟨σ8,H8,I8,q8⟩=>?_))
   refine wpAny_bind (quiet (thn (ht C fp s2 H2 _ s8 σ8 H8 _ I8 q8) fun b s9 ⟨H9,I9,q9⟩=>?_))
   cases b with
   | false=>exact quiet (wpAny_pure ⟨rfl,again' I9 q9⟩)
   | true=>
    refine wpAny_bind (wpAny_bind (quiet (thn (he C fp s2 H2 _ s9 σ8 H9 _ I9 q9) fun vy s10 hz_=>?_)))
    obtain ⟨y,H10,I10,r10,xs,e10,z10,n10⟩:=hz_
    refine wpAny_bind (quiet (thn (Z0K _ s10 σ8 H10 (.ref D) [y] (.ref D) [vy] (fun _ H'=>Nx σ8 H') I10 rfl (.cons r10 .nil) ⟨D,xs,y,rfl,rfl,e10,z10,n10⟩) fun _ s11 ⟨_,H11,I11,_,q11⟩=>?_))
    exact wpAny_pure (wpAny_pure ⟨rfl,again' I11 q11⟩)
 exact codeAny_compStart_list (main _ ⟨_,rfl⟩) (T.self _ 0 _ _ _ (T.keep 0 _ _ st2 fun b hb o e=>old b o e) (main _ ⟨_,rfl⟩))
section
variable {X:Cx} {N:List Str} {nl:List (Option Nat)} {scope:Scope} {cl:List (Str×Addr)} {elt tg iter:Expr} {pos:Pos} {wi:TI} {g:TG} {tc:TT} {te:TE}
theorem Z5V (it acc:Value) (env:Env):compTurn (.ListComp elt [⟨tg,iter,[],0⟩] scope pos) 0 it acc env=(do
   standAt iter.pos
   match ← pyNext it with
   | none=>pure (.done .next)
   | some v=>
    letOwnedTupleGo tg it v
    assign tg env v
    let ok ← (fun _=>pure true:Env→Sem Bool) env
    if ok then (do
     (do let x ← eval elt env; let _ ← call (.builtin "list.append") [acc,x]; pure ())
     again (.compLoop (.ListComp elt [⟨tg,iter,[],0⟩] scope pos) 0 it acc env))
    else again (.compLoop (.ListComp elt [⟨tg,iter,[],0⟩] scope pos) 0 it acc env)):=by rfl
theorem Z8D {c:Expr} (it acc:Value) (env:Env):compTurn (.ListComp elt [⟨tg,iter,[c],0⟩] scope pos) 0 it acc env=(do
   standAt iter.pos
   match ← pyNext it with
   | none=>pure (.done .next)
   | some v=>
    letOwnedTupleGo tg it v
    assign tg env v
    let ok ← (fun env=>isTrue c env (eval c env):Env→Sem Bool) env
    if ok then (do
     (do let x ← eval elt env; let _ ← call (.builtin "list.append") [acc,x]; pure ())
     again (.compLoop (.ListComp elt [⟨tg,iter,[c],0⟩] scope pos) 0 it acc env))
    else again (.compLoop (.ListComp elt [⟨tg,iter,[c],0⟩] scope pos) 0 it acc env)):=by
 unfold compTurn
 simp
 rfl
theorem Z6h {pins:List (Addr×Obj)} {σ:St} {Q:VK} (D C:Addr) (s' s2:Shared) (fp:List Addr) (σ':St) (H' H2:Hp) (I2:Inv X pins σ H2 s2) (f2:∀ b∈fp,FpOk X pins H2 b) (hC:s2.heap.objs.size≤C) (J:Inv (X.block N scope cl C fp s2 H2) [] σ' H' s') (q:Q (.ref D) H') :
  compPost (model X.prog X.w) X.A X.xe none (EP X pins σ Q) (.ref D) C (.ok .next) s':=by
 obtain ⟨m,hn,_⟩:=J.loc
 exact ⟨m,hn,fun h' sb=>⟨.ref D,H',Z6H I2 f2 hC J fun b o hb e=>sb.extBut b o hb e,rfl,q⟩⟩
theorem Z1u (hcalm:X.calm=true) (B:BlockOk X N nl scope cl) (hi:PI X tg iter wi) (hg:∀ C fp s H,PG (X.block N scope cl C fp s H) tg g) (he:∀ C fp s H,PE (X.block N scope cl C fp s H) elt te) (hs:∀ x,foldedSetIterable iter X.env x=pure x:=by intro _; rfl) :
  PE X (.ListComp elt [⟨tg,iter,[],0⟩] scope pos) (Z6U wi nl g Z3n te):=by
 intro pins s σ H Q I h
 rw [eval_ListComp]
 exact Z4i (tst:=fun _=>pure true) hcalm B hi hg (fun _ _ _ _=>Z7t) he Z5V hs I h Z6h _
theorem Z4J {c:Expr} (hcalm:X.calm=true) (B:BlockOk X N nl scope cl) (hi:PI X tg iter wi) (hg:∀ C fp s H,PG (X.block N scope cl C fp s H) tg g) (hc:∀ C fp s H,PT (X.block N scope cl C fp s H) c tc) (he:∀ C fp s H,PE (X.block N scope cl C fp s H) elt te)
  (hs:∀ x,foldedSetIterable iter X.env x=pure x:=by intro _; rfl):PE X (.ListComp elt [⟨tg,iter,[c],0⟩] scope pos) (Z6U wi nl g tc te):=by
 intro pins s σ H Q I h
 rw [eval_ListComp]
 exact Z4i (tst:=fun env=>isTrue c env (eval c env)) hcalm B hi hg (fun C fp s H=>J3F (hc C fp s H)) he Z8D hs I h Z6h _
end
end L2
end
section
namespace L2
open PySem PySem.Spec PyProof.Rows
def Its (x:Str):It:=⟨fun i _=>i < x.cps.size,fun i H v H'=>H'=H∧∃ c,x.cps[i]?=some c∧v=.str ⟨#[c]⟩,fun i _=>i=x.cps.size⟩
section
variable {X:Cx} {tg:Expr}
end
def Ite (K:W.Frag) (l:Addr):It:=
 ⟨fun i H=>∃ xs x,SqL K H l xs∧xs[i]?=some x,fun i H v H'=>∃ t x,v=.ref t∧H t=none∧H'=upd H t (.tup [.int i,x])∧∀ xs,SqL K H l xs→xs[i]?=some x,fun i H=>∃ xs,SqL K H l xs∧xs.length≤i⟩
theorem J1u {P:Program} {w:World} {K:W.Frag} {elts:List Expr} {x1:Nat} {tpos:Pos} (l e it:Addr) (hne:e≠it) :
  Turn P w K (.Tuple elts x1 tpos) (Ite K l) [e,it] e (fun i h=>(∃ old,IsEnum h e it i old)∧h.IsListIter it l i) where
 mem:=by simp
 obj:=fun i h st b hb=>by
  obtain ⟨⟨old,s1⟩,o,s2,c,d⟩:=st
  rcases List.mem_cons.mp hb with z | z
  ·subst z; exact ⟨_,s1,fun v q=>by cases q⟩
  ·have z':b=it:=by simpa using z
   subst z'; exact ⟨o,s2,fun v q=>by rw [d] at q; cases q⟩
 keep:=fun i h h' st k=>⟨let ⟨old,q⟩:=st.1; ⟨old,k e (by simp) _ q⟩,st.2.at fun o q=>k it (by simp) o q⟩
 item:=by
  intro X hP hw hK hc i pins s σ H E I hf st hg
  subst hP hw hK
  obtain ⟨xs,x,hq,hx⟩:=hg
  obtain ⟨its,rv,p,hz⟩:=I.list hq
  obtain ⟨u,hu,ru⟩:=rv.get hx
  obtain ⟨⟨old,s1⟩,s2⟩:=st
  have fe:=hf e (by simp)
  have fi:=hf it (by simp)
  refine wpAny_pyNext_enum_item s1 s2 p.isList (x:=u) (by simpa using hu) hne fun h' eo s2' ht hsz kk=>?_
  refine ⟨_,rfl,wpAny_letOwnedTupleGo_enum eo fun h2 en sb=>?_⟩
  have hte:s.heap.objs.size≠e:=Nat.ne_of_gt (Heap.lt_size s1)
  have k2:∀ b o,b≠e→b≠it→s.heap.get? b=some o→h2.get? b=some o:=fun b o h1 h3 q=>sb.extBut b o h1 (kk b o h1 h3 q)
  have fresh:H s.heap.objs.size=none:=I.hok.fresh (Nat.le_refl _)
  have ne_t:∀ b o,s.heap.get? b=some o→b≠s.heap.objs.size:=fun b o q=>Nat.ne_of_lt (Heap.lt_size q)
  have ne2:∀ b o,H b=some o→b≠e∧b≠it:=fun b o q=>⟨Z0i q fe.1,Z0i q fi.1⟩
  have htup:h2.get? s.heap.objs.size=some { cls:=.type "tuple",data:=.seq #[.int i s.toks,u] }:=sb.extBut _ _ hte ht
  have inch:∀ b,b∉[e,it]→b≠e∧b≠it:=fun b hb=>⟨fun z=>hb (by simp [z]),fun z=>hb (by simp [z])⟩
  have I2:Inv X pins σ (upd H s.heap.objs.size (.tup [.int i,x])) { s with heap:=h2,toks:=s.toks+1 }:=by
   refine I.step (g':=s.gens) (d':=s.drawn) (ch:=[e,it]) (fun b hb=>?_) (fun b o _ _ hb q _=>k2 b o (inch b hb).1 (inch b hb).2 q) (fun b o _ _ hb q _=>⟨o.slots,k2 b o (inch b hb).1 (inch b hb).2 q⟩)
    (fun b o _ q n=>by rw [Z0j (ne_t b o q)]; exact n) (fun b o hb q=>⟨o,k2 b o (inch b hb).1 (inch b hb).2 q⟩) (fun b ys q=>by rw [Z0j (Z0i q fresh)]; exact q) (fun b o ys q=>by rw [Z0j (Z0i q fresh)]; exact q)
    (fun b ps q=>⟨#[],by rw [Z0j (Z0i q fresh),q]; simp⟩) (fun m hm=>hm.at' fun o q=>k2 _ o fe.2.1.symm fi.2.1.symm q) (fun b o q=>?_) I.bare
   ·rcases List.mem_cons.mp hb with z | z
    ·subst z; exact ⟨fe.2.2.2.1,fe.2.1,fe.2.2.2.2.1,fe.2.2.2.2.2⟩
    ·have z':b=it:=by simpa using z
     subst z'; exact ⟨fi.2.2.2.1,fi.2.1,fi.2.2.2.2.1,fi.2.2.2.2.2⟩
   ·by_cases hb:b=s.heap.objs.size
    ·subst hb
     rw [Z0e] at q
     cases q
     exact ⟨⟨by show 2≤sizeLine; decide,fun o q=>by rw [htup] at q; cases q; rfl⟩,[.int i s.toks,u],.cons ⟨_,rfl⟩ (.cons ru .nil),⟨_,htup,rfl,_,rfl⟩⟩
    ·rw [Z0j hb] at q
     refine (I.hok b o q).stay (fun c v hc r=>?_) (fun c r=>by rw [Z0j (Z0i r fresh)]; exact r) fun c ys r=>by rw [Z0j (Z0i r fresh)]; exact r
     have hc':∃ o',H c=some o':=by
      rcases hc with z | z
      ·exact ⟨o,by rw [z]; exact q⟩
      ·exact ⟨_,z⟩
     obtain ⟨o',hc'⟩:=hc'
     exact k2 c v (ne2 c o' hc').1 (ne2 c o' hc').2 r
  refine ⟨.ref s.heap.objs.size,_,I2,rfl,⟨_,x,rfl,fresh,rfl,fun ys hy=>by rw [I.list_inj hy hq]; exact hx⟩,⟨⟨u,?_⟩,s2'.extBut sb.extBut hne.symm⟩,fun b hb=>?_⟩
  ·have e1:((i+1:Nat):Int)=(i:Int)+1:=by omega
   rw [e1]
   exact en
  ·rcases List.mem_cons.mp hb with z | z
   ·subst z; rw [Z0j (ne_t _ _ s1)]; exact fe.1
   ·have z':b=it:=by simpa using z
    subst z'
    obtain ⟨o,s3,_⟩:=s2
    rw [Z0j (ne_t _ _ s3)]; exact fi.1
 done:=by
  intro X hP hw hK hc i pins s σ H E I hf st hg
  subst hP hw hK
  obtain ⟨xs,hq,hx⟩:=hg
  obtain ⟨its,rv,p,hz⟩:=I.list hq
  obtain ⟨⟨old,s1⟩,s2⟩:=st
  obtain ⟨f0,f1,f2,f3,f4,f5⟩:=hf it (by simp)
  have hl:=rv.length
  exact wpAny_pyNext_enum_end (I.ok.hd hc) s1 s2 p.isList (by simp; omega) fun h' eb=>⟨rfl,I.turned (t':=s.toks) (fun b o hb q=>eb b o hb q) f0 f1 f3 f4 f5⟩
 self:=fun A i s Q E st h=>(let ⟨old,q⟩:=st.1; wpAny_pyIter_enum q h)
section
variable {X:Cx}
def J5C (K:W.Frag) (ta:TA):TI:=fun σ H R=>ta σ H fun vs H1=>∃ a,vs=[.ref a]∧(∃ xs,SqL K H1 a xs)∧R (Ite K a) H1
theorem J1w {elts:List Expr} {x1:Nat} {tpos:Pos} {a:Expr} {ta:TA} {p pos:Pos} (hg:Gl X "enumerate") (hm:X.mg "enumerate"=none) (hb:bootBuiltins "enumerate"=some (.type "enumerate")) (ha:PA X [a] ta) (hs:starEach [a] X.env=[(false,eval a X.env)]:=by rfl) :
  PI X (.Tuple elts x1 tpos) (.Call (.Name "enumerate" p) [a] [] pos) (J5C X.K ta):=by
 intro pins s σ H R I h
 refine Call_ (Z3o I hg hm hb (PyProof.Rows.callWith_type1 (thn (ha pos pins s σ H _ I h) fun us s1 ⟨vs,H1,I1,r1,q1⟩=>?_) hs rfl))
 obtain ⟨l,e,⟨xs,hq⟩,q⟩:=q1
 subst e
 obtain ⟨u,rfl,ru⟩:=r1.one
 cases ru
 obtain ⟨its,rv,pl,hz⟩:=I1.list hq
 refine call_enumerate_list pl.isList fun h' en li hsz kk=>wpAny_pyIter_enum en ?_
 refine ⟨s1.heap.objs.size+1,[s1.heap.objs.size+1,s1.heap.objs.size],_,_,H1,rfl,I1.kept (t':=s1.toks) kk,J1u l _ _ (Nat.succ_ne_self _),⟨⟨_,en⟩,li⟩,fun b hb=>?_,q⟩
 have hb':s1.heap.objs.size≤b:=by
  rcases List.mem_cons.mp hb with z | z
  ·rw [z]; exact Nat.le_succ _
  ·have z':b=s1.heap.objs.size:=by simpa using z
   rw [z']; exact Nat.le_refl _
 exact I1.fpOk hb' (I1.hok.fresh hb')
end
end L2
namespace L2
open PySem PySem.Spec PyProof.Rows
end L2
end
section
namespace L2
open PySem PySem.Spec PyProof.Rows
theorem BlockOk.plain {X:Cx} {N:List Str} {scope:Scope} (kind:scope.kind=.function) (nocell:∀ y∈scope.names,y.2≠.cell) (names:∀ y∈scope.names,y.2=.local→scope.names.lookup y.1=some .local) (nofree:∀ y∈scope.names,y.2≠.free) :
  BlockOk X N (N.map fun _=>none) scope [] where
 kind:=kind
 nocell:=nocell
 names:=names
 clos:=closureFor_none nofree
 sub:=fun y c h=>by simp at h
 has:=fun y h=>absurd rfl (nofree _ (Z0X h))
 len:=by simp
 seen:=fun i j y _ h=>by
  rw [List.getElem?_map] at h
  cases q:N[i]? with
  | none=>rw [q] at h; cases h
  | some z=>rw [q] at h; cases h
end L2
end
section
namespace L2
open PySem PySem.Spec PyProof.Rows
theorem BlockOk.of {X:Cx} {N:List Str} {nl:List (Option Nat)} {scope:Scope} {cl:List (Str×Addr)} (kind:scope.kind=.function) (nocell:∀ y∈scope.names,y.2≠.cell) (names:∀ y∈scope.names,y.2=.local→scope.names.lookup y.1=some .local)
  (clos:closureFor scope X.env=pure cl) (sub:∀ p∈cl,X.env.cells.lookup p.1=some p.2) {nm:List Str} (hnm:cl.map (·.1)=nm) (has:∀ y∈scope.names,y.2=.free→y.1∈nm) (len:nl.length=N.length)
  (seen:∀ i < nl.length,∀ j,nl[i]?=some (some j)→∃ y,N[i]?=some y∧X.N[j]?=some y∧scope.names.lookup y=some .free∧(X.env.scope.names.lookup y=some .cell∨X.env.scope.names.lookup y=some .free)):BlockOk X N nl scope cl where
 kind:=kind
 nocell:=nocell
 names:=names
 clos:=clos
 sub:=fun y c h=>sub (y,c) (PySem.mem_of_lookup h)
 has:=fun y h=>by
  have hm:=has _ (Z0X h) rfl
  rw [← hnm] at hm
  cases q:cl.lookup y with
  | some c=>exact ⟨c,rfl⟩
  | none=>
   obtain ⟨p,hp,e⟩:=List.mem_map.mp hm
   have:=List.lookup_eq_none_iff.mp q p hp
   simp [e] at this
 len:=len
 seen:=fun i j y h1 h2=>by
  obtain ⟨z,a,b,c,d⟩:=seen i (List.getElem?_eq_some_iff.mp h2).1 j h2
  rw [h1] at a
  cases a
  exact ⟨b,c,d⟩
theorem sub1 {env:Env} {x:Str} {a:Addr} (h:env.cells.lookup x=some a):∀ p∈[(x,a)],env.cells.lookup p.1=some p.2:=fun p hp=>by
 rcases List.mem_cons.mp hp with e | hp
 ·subst e; exact h
 ·cases hp
theorem sub2 {env:Env} {x y:Str} {a b:Addr} (h:env.cells.lookup x=some a) (h':env.cells.lookup y=some b):∀ p∈[(x,a),(y,b)],env.cells.lookup p.1=some p.2:=fun p hp=>by
 rcases List.mem_cons.mp hp with e | hp
 ·subst e; exact h
 ·exact sub1 h' p hp
end L2
end
section
namespace L2
open PySem PySem.Spec PyProof.Rows PySem.SeqAt
structure Nice (k n:Nat) (d:PyData):Prop where
 lay:d.canLay0=true
 sho:d.showable=true
 leaf:d.leavesShort 30=true
 dep:d.depth≤k
 wt:d.weight≤n
structure NiceL (k n:Nat) (ds:List PyData):Prop where
 lay:PyData.canLayAll0 ds=true
 sho:PyData.showableAll ds=true
 leaf:PyData.leavesShortAll 30 ds=true
 dep:PyData.depthAll ds≤k
 wt:PyData.weightAll ds≤n
theorem Nice.mono {k n k' n':Nat} {d:PyData} (h:Nice k n d) (hk:k≤k') (hn:n≤n'):Nice k' n' d:=⟨h.lay,h.sho,h.leaf,Nat.le_trans h.dep hk,Nat.le_trans h.wt hn⟩
theorem NiceL.nil {k n:Nat}:NiceL k n []:=⟨rfl,rfl,rfl,Nat.zero_le _,Nat.zero_le _⟩
theorem NiceL.cons {k a b n:Nat} {d:PyData} {ds:List PyData} (h:Nice k a d) (hs:NiceL k b ds) (hn:a+1+b≤n):NiceL k n (d::ds) where
 lay:=by rw [PyData.canLayAll0,h.lay,hs.lay]; rfl
 sho:=by rw [PyData.showableAll,h.sho,hs.sho]; rfl
 leaf:=by rw [PyData.leavesShortAll,h.leaf,hs.leaf]; rfl
 dep:=by rw [PyData.depthAll]; exact Nat.max_le.mpr ⟨h.dep,hs.dep⟩
 wt:=by rw [PyData.weightAll]; have:=h.wt; have:=hs.wt; omega
theorem NiceL.of {k n:Nat}:∀ {ds:List PyData},(∀ d∈ds,Nice k n d)→NiceL k ((n+1) * ds.length) ds
 | [],_=>.nil
 | d::ds,h=>.cons (h d List.mem_cons_self) (NiceL.of fun e he=>h e (List.mem_cons_of_mem _ he)) (by rw [List.length_cons,Nat.mul_succ]; omega)
theorem Nice.lst {k n:Nat} {ds:List PyData} (h:NiceL k n ds):Nice (k+1) n (.list ds) where
 lay:=by rw [PyData.canLay0]; exact h.lay
 sho:=by rw [PyData.showable]; exact h.sho
 leaf:=by rw [PyData.leavesShort]; exact h.leaf
 dep:=by rw [PyData.depth]; exact Nat.succ_le_succ h.dep
 wt:=by rw [PyData.weight]; exact h.wt
theorem Nice.none {k n:Nat}:Nice k n .none:=⟨rfl,rfl,rfl,Nat.zero_le _,Nat.zero_le _⟩
theorem Nice.int {k:Nat} {i:Int} (h:i.natAbs < 10 ^ 18):Nice k 60 (.int i):=by
 have hl:i.natAbs.log2 < 60:=by
  by_cases z:i.natAbs=0
  ·rw [z]; decide
  ·exact (Nat.log2_lt z).mpr (by omega)
 refine ⟨rfl,?_,?_,Nat.zero_le _,?_⟩
 ·rw [PyData.showable]; exact decide_eq_true (by omega)
 ·have e:=int_text_length_le10 (k:=18) (by decide) h
  have:(PyData.shown (.int i)).length≤30:=by
   show (Str.ofString (toString i)).length≤30
   rw [PySem.ofString_length]; omega
  rw [PyData.leavesShort]; exact decide_eq_true this
 ·rw [PyData.weight]; split <;> omega
theorem Nice.str {k n:Nat} {x:Str} (h:PyData.strOk x=true) (hn:x.cps.size≤n):Nice k n (.str x):=by
 refine ⟨by rw [PyData.canLay0]; exact h,rfl,?_,Nat.zero_le _,by rw [PyData.weight]; exact hn⟩
 have h1:∀ c∈x.cps.toList,c < 0x110000:=by
  intro c hcm
  have:=(Array.all_eq_true_iff_forall_mem.mp h) c (Array.mem_toList_iff.mp hcm)
  simpa using this
 rw [PyData.leavesShort]
 refine List.all_eq_true.mpr fun c hc=>decide_eq_true ?_
 have h2:=h1 c hc
 have e:(16:Nat) ^ 8=4294967296:=by decide
 omega
theorem Nice.fits {k n:Nat} {d:PyData} (h:Nice k n d) (hn:n≤100000):d.shown.length≤sizeLine:=by
 have:=PyData.shown_le 30 (by decide) d h.leaf
 have:=h.wt
 rw [sizeLine_eq]
 omega
section
variable {K:W.Frag} {H H':Hp} {k n:Nat}
end
theorem sub3 {env:Env} {x y z:Str} {a b c:Addr} (h:env.cells.lookup x=some a) (h':env.cells.lookup y=some b) (h'':env.cells.lookup z=some c):∀ p∈[(x,a),(y,b),(z,c)],env.cells.lookup p.1=some p.2:=fun p hp=>by
 rcases List.mem_cons.mp hp with e | hp
 ·subst e; exact h
 ·exact sub2 h' h'' p hp
end L2
end
section
namespace L2
open PySem PySem.Spec PyProof.Rows PySem.SeqAt
theorem J8b {i:Nat} {σ:St} {H:Hp} {Q:VK}:tVar i σ H Q=(∃ v,σ[i]?=some (some v)∧Q v H):=rfl
theorem J9o {v:V} {z0:St} {H:Hp} {Q:VK}:tC v z0 H Q=(Q v H):=rfl
theorem J9h {t:TE} {σ:St} {H:Hp} {Q:Bool→Hp→Prop}:tB t σ H Q=(t σ H fun x H1=>∃ c,x=.bl c∧Q c H1):=rfl
theorem J8t {t u:TT} {σ:St} {H:Hp} {Q:Bool→Hp→Prop}:tAnd t u σ H Q=(t σ H fun c H1=>if c=true then u σ H1 Q else Q false H1):=rfl
theorem J8S {t u:TT} {σ:St} {H:Hp} {Q:Bool→Hp→Prop}:tOr t u σ H Q=(t σ H fun c H1=>if c=true then Q true H1 else u σ H1 Q):=rfl
theorem J8v {t:TT} {σ:St} {H:Hp} {Q:Bool→Hp→Prop}:tNot t σ H Q=(t σ H fun c H1=>Q (!c) H1):=rfl
theorem J7n {ta tb:TE} {σ:St} {H:Hp} {Q:VK}:J6y ta tb σ H Q=(ta σ H fun x H1=>∃ c,x=.bl c∧if c=true then tb σ H1 Q else Q (.bl false) H1):=rfl
theorem J8C {ta tb:TE} {σ:St} {H:Hp} {Q:VK}:tOrV ta tb σ H Q=(ta σ H fun x H1=>∃ c,x=.bl c∧if c=true then Q (.bl true) H1 else tb σ H1 Q):=rfl
theorem J7u {ta:TE} {σ:St} {H:Hp} {Q:VK}:J8p ta σ H Q=(ta σ H fun x H1=>∃ c,x=.bl c∧Q (.bl (!c)) H1):=rfl
theorem J8X {t:TT} {ta tb:TE} {σ:St} {H:Hp} {Q:VK}:tIf t ta tb σ H Q=(t σ H fun c H1=>if c=true then ta σ H1 Q else tb σ H1 Q):=rfl
theorem J7p {D:Ends} {σ:St} {H:Hp}:J5K  D σ H=(D.nx σ H):=rfl
theorem J8L {t u:TS} {D:Ends} {σ:St} {H:Hp}:tSeq t u D σ H=(t { D with nx:=u D } σ H):=rfl
theorem J5n {D:Ends} {σ:St} {H:Hp}:J6I  D σ H=(D.bk σ H):=rfl
theorem J7k {D:Ends} {σ:St} {H:Hp}:J7L  D σ H=(D.ct σ H):=rfl
theorem J7s {te:TE} {D:Ends} {σ:St} {H:Hp}:J6a te D σ H=(te σ H fun _ H1=>D.nx σ H1):=rfl
theorem J8w {te:TE} {D:Ends} {σ:St} {H:Hp}:tRet te D σ H=(te σ H D.rt):=rfl
theorem J7w {D:Ends} {z1:St} {H:Hp}:J8r  D z1 H=(D.rt .non H):=rfl
theorem J7M {c:TT} {t u:TS} {D:Ends} {σ:St} {H:Hp}:tIfS c t u D σ H=(c σ H fun b H1=>if b=true then t D σ H1 else u D σ H1):=rfl
theorem J5x {z0:Ends} {z1:St} {z2:Hp}:J3O  z0 z1 z2=(False):=rfl
theorem J6L {i:Nat} {v:V} {σ:St} {H:Hp} {Q:St→Hp→Prop}:Z3M i v σ H Q=(Q (σ.set i (some v)) H):=rfl
theorem J7N {vs:List V} {σ:St} {H:Hp} {Q:St→Hp→Prop}:gNil  vs σ H Q=(vs=[]∧Q σ H):=rfl
theorem J7t {t:TG} {u:TGs} {vs:List V} {σ:St} {H:Hp} {Q:St→Hp→Prop}:J5o t u vs σ H Q=(∃ v r,vs=v::r∧t v σ H fun σ' H'=>u r σ' H' Q):=rfl
theorem J8E {K:W.Frag} {n:Nat} {t:TGs} {v:V} {σ:St} {H:Hp} {Q:St→Hp→Prop}:gTup K n t v σ H Q=(∃ a xs,v=.ref a∧SqT K H a xs∧xs.length=n∧t xs σ H Q):=rfl
theorem J7C {to ti:TE} {t:TSet} {v:V} {σ:St} {H:Hp} {Q:St→Hp→Prop}:gSub to ti t v σ H Q=(to σ H fun o H1=>ti σ H1 fun i H2=>t o i v H2 fun H3=>Q σ H3):=rfl
theorem J7U {te:TE} {g:TG} {D:Ends} {σ:St} {H:Hp}:tAsg te g D σ H=(te σ H fun x H1=>g x σ H1 D.nx):=rfl
theorem J8N {i j:Nat} {ta:TA} {D:Ends} {σ:St} {H:Hp}:tPar i j ta D σ H=(ta σ H fun vs H1=>∃ v w,vs=[v,w]∧D.nx ((σ.set i (some v)).set j (some w)) H1):=rfl
theorem J8i {i:Nat} {te:TE} {ti:TIp} {D:Ends} {σ:St} {H:Hp}:tAug i te ti D σ H=(∃ x,σ[i]?=some (some x)∧te σ H fun y H1=>ti x y H1 fun z H2=>D.nx (σ.set i (some z)) H2):=rfl
theorem J7y {to ti te:TE} {tget:V→V→Hp→VK→Prop} {tip:TIp} {tset:TSet} {D:Ends} {σ:St} {H:Hp}:J8n to ti te tget tip tset D σ H=(to σ H fun o H1=>ti σ H1 fun i H2=>tget o i H2 fun x H3=>te σ H3 fun y H4=>tip x y H4 fun z H5=>tset o i z H5 fun H6=>D.nx σ H6):=rfl
theorem J8Q {f:Int→Int→Int} {x:V} {y:V} {H:Hp} {Q:VK}:ipI f x y H Q=(∃ i j,x=.int i∧y=.int j∧Q (.int (f i j)) H):=rfl
theorem J7b {K:W.Frag} {tl:TE} {σ:St} {H:Hp} {R:It→Hp→Prop}:J4x K tl σ H R=(tl σ H fun x H1=>∃ a,x=.ref a∧(∃ xs,SqL K H1 a xs)∧R (Itl K a) H1):=rfl
theorem J8e {K:W.Frag} {tl:TE} {σ:St} {H:Hp} {R:It→Hp→Prop}:iTup K tl σ H R=(tl σ H fun x H1=>∃ a,x=.ref a∧(∃ xs,SqT K H1 a xs)∧R (Itt K a) H1):=rfl
theorem J6K {ta:TA} {σ:St} {H:Hp} {R:It→Hp→Prop}:J6h ta σ H R=(ta σ H fun vs H1=>∃ j:Int,vs=[.int j]∧-(2 ^ 62)≤j∧j < 2 ^ 62∧R (Itr 0 j.toNat) H1):=rfl
theorem J7A {ta:TA} {σ:St} {H:Hp} {R:It→Hp→Prop}:J8B ta σ H R=(ta σ H fun vs H1=>∃ i j:Int,vs=[.int i,.int j]∧(-(2 ^ 62)≤i∧i < 2 ^ 62∧-(2 ^ 62)≤j∧j < 2 ^ 62)∧R (Itr i (j - i).toNat) H1):=rfl
theorem J8P {r:R2} {ta tb:TE} {σ:St} {H:Hp} {Q:VK}:tOp r ta tb σ H Q=(ta σ H fun x H1=>tb σ H1 fun y H2=>r x y H2 Q):=rfl
theorem J8R {r:V→Hp→VK→Prop} {ta:TE} {σ:St} {H:Hp} {Q:VK}:tUn r ta σ H Q=(ta σ H fun x H1=>r x H1 Q):=rfl
theorem J9i {C:Int→Int→Prop} {g:Int→Int→V} {x:V} {y:V} {H:Hp} {Q:VK}:rI C g x y H Q=(∃ i j,x=.int i∧y=.int j∧C i j∧Q (g i j) H):=rfl
theorem J8T {g:Int→Int→V} {x:V} {y:V} {H:Hp} {Q:VK}:rI0 g x y H Q=(∃ i j,x=.int i∧y=.int j∧Q (g i j) H):=rfl
theorem J9q {g:Int→V} {x:V} {H:Hp} {Q:VK}:rU g x H Q=(∃ i,x=.int i∧Q (g i) H):=rfl
theorem J8O {x:V} {y:V} {H:Hp} {Q:VK}:rEq  x y H Q=(scal x y=true∧Q (.bl (decide (x=y))) H):=rfl
theorem J8U {x:V} {y:V} {H:Hp} {Q:VK}:rNe  x y H Q=(scal x y=true∧Q (.bl (!decide (x=y))) H):=rfl
theorem J7a {t:TE} {σ:St} {H:Hp} {Q:Bool→Hp→Prop}:J6c t σ H Q=(t σ H fun x H'=>∃ k,x=.bl k∧Q k H'):=rfl
theorem J5r {r r':R2} {ta tb tc:TE} {σ:St} {H:Hp} {Q:VK}:J5B r r' ta tb tc σ H Q=(ta σ H fun x H1=>tb σ H1 fun y H2=>r x y H2 fun z H3=>∃ k,z=.bl k ∧
 (if k=true then tc σ H3 fun w' H4=>r' y w' H4 Q else Q (.bl false) H3)):=rfl
theorem J8K {K:W.Frag} {ta:TE} {f:Str} {σ:St} {H:Hp} {Q:VK}:tFld K ta f σ H Q=(ta σ H fun x H1=>∃ a C dx fs v,x=.ref a∧H1 a=some (.ins C dx fs)∧Cls K C∧NoAttr K C f∧fs.lookup f=some v∧Q v H1):=rfl
theorem J8h {K:W.Frag} {ta:TE} {f:Str} {σ:St} {H:Hp} {Q:VK}:tCon K ta f σ H Q=(ta σ H fun x H1=>∃ a C dx fs v u,x=.ref a∧H1 a=some (.ins C dx fs)∧Cls K C∧Con K C f v u∧fs.lookup f=none∧Q v H1):=rfl
theorem J7T {K:W.Frag} {ta tv:TE} {f:Str} {D:Ends} {σ:St} {H:Hp}:sFld K ta tv f D σ H=(tv σ H fun y H1=>ta σ H1 fun x H2=>∃ a C dx fs,x=.ref a∧H2 a=some (.ins C dx fs)∧Cls K C∧NoAttr K C f∧fs.length < 1000 ∧
 D.nx σ (upd H2 a (.ins C dx (putF f y fs)))):=rfl
theorem J5d {K:W.Frag} {ta tv:TE} {rd:V→V→Hp→VK→Prop} {f:Str} {D:Ends} {σ:St} {H:Hp}:J4X K ta tv rd f D σ H=(ta σ H fun x H1=>∃ a C dx fs v,x=.ref a∧H1 a=some (.ins C dx fs)∧Cls K C∧NoAttr K C f∧fs.lookup f=some v ∧
 tv σ H1 fun y H2=>rd v y H2 fun z H3=>∃ dx' fs',H3 a=some (.ins C dx' fs')∧fs'.length < 1000∧D.nx σ (upd H3 a (.ins C dx' (putF f z fs')))):=rfl
theorem J8x {z0:St} {H:Hp} {Q:List V→Hp→Prop}:tNil  z0 H Q=(Q [] H):=rfl
theorem J6Z {ta:TE} {tr:TA} {σ:St} {H:Hp} {Q:List V→Hp→Prop}:J4j ta tr σ H Q=(ta σ H fun x H1=>tr σ H1 fun xs H2=>Q (x::xs) H2):=rfl
theorem J7x {sp:Sp} {dvs:List V} {E:XK} {t:TA} {σ:St} {H:Hp} {Q:VK}:J2q sp dvs E t σ H Q=(t σ H fun vs H1=>sp (vs++dvs) H1 Q E):=rfl
theorem J7g {C:Addr} {m:Str} {sp:Sp} {dvs:List V} {E:XK} {ta:TE} {t:TA} {σ:St} {H:Hp} {Q:VK}:J0D C m sp dvs E ta t σ H Q=(ta σ H fun x H1=>∃ a dx fs,x=.ref a∧H1 a=some (.ins C dx fs)∧fs.lookup m=none ∧
 t σ H1 fun vs H2=>sp (x::(vs++dvs)) H2 Q E):=rfl
theorem J6J {C:Addr} {sp:Sp} {dvs:List V} {E:XK} {t:TA} {σ:St} {H:Hp} {Q:VK}:J0e C sp dvs E t σ H Q=(t σ H fun vs H1=>∀ x dx,H1 x=none→H1 dx=none→dx≠x →
 sp (.ref x::(vs++dvs)) (upd (upd H1 dx (.own x)) x (.ins C dx [])) (fun v H2=>v=.non∧Q (.ref x) H2) E):=rfl
theorem J8V {r:List V→Hp→VK→Prop} {t:TA} {σ:St} {H:Hp} {Q:VK}:tCB r t σ H Q=(t σ H fun vs H1=>r vs H1 Q):=rfl
theorem J5f {z0:St} {H:Hp} {Q:Option Int→Hp→Prop}:J0u  z0 H Q=(Q none H):=rfl
theorem J6P {t:TE} {σ:St} {H:Hp} {Q:Option Int→Hp→Prop}:J6l t σ H Q=(t σ H fun x H1=>∃ i,x=.int i∧Q (some i) H1):=rfl
theorem J8Z {r:V→Option Int→Option Int→Hp→VK→Prop} {te:TE} {tl th:TO} {σ:St} {H:Hp} {Q:VK}:tSl r te tl th σ H Q=(te σ H fun x H1=>tl σ H1 fun l H2=>th σ H2 fun u H3=>r x l u H3 Q):=rfl
theorem J7O {K:W.Frag} {x:V} {lo:Option Int} {hi:Option Int} {H:Hp} {Q:VK}:rSlT K x lo hi H Q=(∃ a xs,x=.ref a∧SqT K H a xs ∧
 ¬ (HT.sIx xs.length 0 lo=0∧HT.sIx xs.length xs.length hi=xs.length)∧∀ p,H p=none→Q (.ref p) (upd H p (.tup (cutV xs lo hi)))):=rfl
theorem J6S {K:W.Frag} {x:V} {y:V} {H:Hp} {Q:VK}:J5p K x y H Q=(∃ a b xs ys,x=.ref a∧y=.ref b∧SqT K H a xs∧SqT K H b ys∧xs≠[]∧xs.length+ys.length≤sizeLine ∧
 (ys=[]→Q (.ref a) H)∧(ys≠[]→∀ p,H p=none→Q (.ref p) (upd H p (.tup (xs++ys))))):=rfl
theorem J8F {K:W.Frag} {x:V} {y:V} {H:Hp} {Q:VK}:rIxL K x y H Q=(∃ p xs i v,x=.ref p∧y=.int i∧SqL K H p xs∧atI xs i=some v∧Q v H):=rfl
theorem J8m {K:W.Frag} {x:V} {y:V} {H:Hp} {Q:VK}:rIxT K x y H Q=(∃ p xs i v,x=.ref p∧y=.int i∧SqT K H p xs∧atI xs i=some v∧Q v H):=rfl
theorem J8q {x:V} {y:V} {H:Hp} {Q:VK}:rIxS  x y H Q=(∃ z i c,x=.str z∧y=.int i∧z.length≤sizeLine∧atI z.cps.toList i=some c∧Q (.str ⟨#[c]⟩) H):=rfl
theorem J6O {o:V} {i:V} {v:V} {H:Hp} {Q:(Hp→Prop)}:J7Y  o i v H Q=(∃ p xs k j,o=.ref p∧i=.int k∧H p=some (.lst xs)∧ixN xs.length k=some j∧Q (upd H p (.lst (xs.set j v)))):=rfl
theorem J8W {K:W.Frag} {neg:Bool} {x:V} {y:V} {H:Hp} {Q:VK}:rIn K neg x y H Q=(∃ p xs,y=.ref p∧(SqL K H p xs∨SqT K H p xs)∧Z5c x=true∧xs.all Z5c=true∧Q (.bl (if neg then !inV x xs else inV x xs)) H):=rfl
theorem J8u {K:W.Frag} {T:String} {r:V→List V→Hp→VK→Prop} {to:TE} {σ:St} {H:Hp} {Q:VK}:tBM0 K T r to σ H Q=(to σ H fun x H1=>tyV K T x H1∧r x [] H1 Q):=rfl
theorem J9a {K:W.Frag} {T:String} {r:V→List V→Hp→VK→Prop} {to:TE} {t:TA} {σ:St} {H:Hp} {Q:VK}:tBM K T r to t σ H Q=(to σ H fun x H1=>tyV K T x H1∧t σ H1 fun xs H2=>r x xs H2 Q):=rfl
theorem J5e {x:V} {vs:List V} {H:Hp} {Q:VK}:J0v  x vs H Q=(∃ l xs y,x=.ref l∧vs=[y]∧H l=some (.lst xs)∧xs.length < sizeLine∧Q .non (upd H l (.lst (xs++[y])))):=rfl
theorem J5c {x:V} {vs:List V} {H:Hp} {Q:VK}:J1t  x vs H Q=(∃ l b xs zs,x=.ref l∧vs=[.ref b]∧H l=some (.lst xs)∧H b=some (.lst zs)∧xs.length+zs.length≤sizeLine∧Q .non (upd H l (.lst (xs++zs)))):=rfl
theorem J8M {x:V} {vs:List V} {H:Hp} {Q:VK}:rPop  x vs H Q=(∃ l xs y,x=.ref l∧vs=[]∧H l=some (.lst xs)∧xs[xs.length - 1]?=some y∧Q y (upd H l (.lst xs.dropLast))):=rfl
theorem J5Y {x:V} {vs:List V} {H:Hp} {Q:VK}:J6n  x vs H Q=(∃ l xs i k y,x=.ref l∧vs=[.int i]∧H l=some (.lst xs)∧-(2 ^ 63)≤i∧i < 2 ^ 63∧seqIndex? i xs.length=some k∧xs[k]?=some y∧Q y (upd H l (.lst (xs.eraseIdx k)))):=rfl
theorem J5b {x:V} {vs:List V} {H:Hp} {Q:VK}:J2h  x vs H Q=(∃ l xs,x=.ref l∧vs=[]∧H l=some (.lst xs)∧Q .non (upd H l (.lst xs.reverse))):=rfl
theorem J5J {x:V} {vs:List V} {H:Hp} {Q:VK}:J6B  x vs H Q=(∃ l xs,x=.ref l∧vs=[]∧H l=some (.lst xs)∧Q .non (upd H l (.lst []))):=rfl
theorem J7E {x:V} {y:V} {H:Hp} {Q:VK}:rRep  x y H Q=(∃ l k xs,x=.ref l∧y=.int k∧H l=some (.lst xs)∧-(2 ^ 63)≤k∧k < 2 ^ 63∧xs.length * k.toNat≤sizeLine ∧
 ∀ p,H p=none→Q (.ref p) (upd H p (.lst (List.replicate k.toNat xs).flatten))):=rfl
def Z9s (J:It) (g:TG) (tb:TS) (D:Ends) (σ:St) (H:Hp):Prop:=∃ W:Nat→Nat→St→Hp→Prop,(∃ m,W 0 m σ H)∧∀ i m σ H,W i m σ H →
 (J.stop i H∧D.nx σ H)∨(J.go i H∧∃ N:St→Hp→Prop,(∀ σ' H',N σ' H'→∃ m',m' < m∧W (i+1) m' σ' H')∧∀ x H',J.yld i H x H'→g x σ H' fun σ2 H2=>tb { D with nx:=N,ct:=N,bk:=D.nx } σ2 H2)
theorem J8g {wi:TI} {g:TG} {tb:TS} {D:Ends} {σ:St} {H:Hp}:tFor wi g tb D σ H=wi σ H fun J H1=>Z9s J g tb D σ H1:=rfl
end L2
end
section
namespace L2
open PySem PySem.Spec PyProof.Rows
def clsV:V→Option Value
 | .ty n=>some (.type n)
 | .ref a=>some (.ref a)
 | _=>none
theorem J2H {c:V} {cv u:Value} (h:clsV c=some cv) (r:RelV c u):u=cv:=by
 cases c with
 | ty n=>cases h; exact r
 | ref a=>cases h; exact r
 | _=>cases h
def rIsi (K:W.Frag):List V→Hp→VK→Prop:=fun xs H Q=>∃ x c cv t b,xs=[x,c]∧clsV c=some cv∧TyOf K H x t∧W.kitOne K t cv=some b∧Q (.bl b) H
section
variable {X:Cx}
end
section
variable {K:W.Frag}
theorem Z4G {t:Value}:W.kitOne K t t=some true:=by
 unfold W.kitOne
 rw [if_pos (by simp)]
theorem Z6S:W.kitOne K (.type "int") (.type "bool")=some false:=by with_unfolding_all rfl
end
end L2
end
section
namespace L2
open PySem PySem.Spec PyProof.Rows
structure Fn (K:W.Frag) (mg:Str→Option Value) (x:Str) (st:Stmt):Prop where
 ex:∃ f fd,Fun K x x st f fd∧mg x=some (.ref f)
structure Has (P:Program) (w:World) (K:W.Frag) (mg:Str→Option Value) (base:Heap) (k:Nat) (x:Str) (ps:List Str) (sp:Sp):Prop where
 ex:∃ f fd,FnOk P w K mg base CX0 k f fd ps sp∧Binds K fd ps []∧W.keepIn K (.ref f)=true∧mg x=some (.ref f)
structure Cst (mg:Str→Option Value) (x:Str) (v:V):Prop where
 ex:∃ u,mg x=some u∧RelV v u
section
variable {P:Program} {w:World} {K:W.Frag} {mg:Str→Option Value} {base:Heap}
theorem Z2l {h:Heap} {x:Str} {st:Stmt} {f:Addr} {oc:Value} {od an:Option Addr} {osl:Array (Option Value)} {kV doc pm cdv ct:Value} (X:K.In h) (G:h.Ns mainGlobals mg) (a:W.nsIn K mainGlobals x=some (some (.ref f)))
  (l:K.lookup f=some ⟨oc,od,.func (W.fnOf x x (Z0h st) (Z0f st) (Z0b st) .none kV doc pm an cdv ct),osl⟩) (c:W.codeIn K cdv x=true) (k:W.keepIn K (.ref f)=true):Fn K mg x st:=
 ⟨f,_,J3r l c k,W.mg_of X G a⟩
theorem Has.of {x:Str} {st:Stmt} {N ps:List Str} {k:Nat} {sp:Sp} (F:Fn K mg x st) (S:Z0m N ps (Z0b st))
  (hb:∀ (kV doc pm:Value) (an:Option Addr) (cdv ct:Value) (us:List Value),us.length=ps.length→bindArgs (W.fnOf x x (Z0h st) (Z0f st) (Z0b st) .none kV doc pm an cdv ct) ⟨us,[]⟩=pure (ps.zip us))
  (len:∀ vs H Q E,sp vs H Q E→vs.length=ps.length)
  (hbody:∀ (f:Addr) (cdv:Value) (A:Around) (outer:List Env) (s:Shared) (H:Hp) (vs:List V) (Q:VK) (E:XK),Room k (A.deeper (envOfC x (Z0b st) s.heap.objs.size f cdv))→sp vs H Q E →
   ∃ t,PSs (cxOf CX0 P w K mg base N x (Z0b st) f cdv A outer s H E).nox (Z0f st) t∧t { nx:=fun _ H'=>Q .non H',rt:=Q } (Z4U N vs) H):Has P w K mg base (k+1) x ps sp:=by
 obtain ⟨f,fd,F,m⟩:=F.ex
 exact ⟨f,fd,F.ok S len fun cdv=>hbody f cdv,F.binds hb,F.kp,m⟩
theorem J4g {fa:Addr} {k:Nat} {x:Str} {st:Stmt} {sp:Sp} (F:Fn K mg "law" st) (hfa:mg "law"=some (.ref fa))
  (hb:∀ (kV doc pm:Value) (an:Option Addr) (cdv ct u:Value),bindArgs (W.fnOf "law" "law" (Z0h st) (Z0f st) (Z0b st) .none kV doc pm an cdv ct) ⟨[u],[]⟩=pure [(x,u)])
  (ok:∀ (f:Addr) (fd:FuncData) (base:Heap),Fun K "law" "law" st f fd→FnOk P w K mg base CX0 k f fd [x] sp) :
  ∃ fd:FuncData,(∀ (s:Shared) (u:Value),BindsTo s fd ⟨[u],[]⟩ [(x,u)])∧∀ base:Heap,K.In base→base.Ns mainGlobals mg→FnOk P w K mg base CX0 k fa fd [x] sp:=by
 obtain ⟨f,fd,F,m⟩:=F.ex
 cases hfa.symm.trans m
 have F':=F
 obtain ⟨oc,od,kV,doc,pm,an,cdv,ct,osl,rfl,lk,hcd⟩:=F.ex
 exact ⟨_,fun s u=>.of_eq (hb kV doc pm an cdv ct u),fun base _ _=>ok _ _ base F'⟩
end
section
variable {X:Cx} {x:Str} {ps:List Str} {sp:Sp} {k j:Nat} {e:Expr} {es:List Expr} {t:TA} {p pos:Pos} {v:V}
theorem Z0G (h:Has X.prog X.w X.K X.mg X.base k x ps sp) (hr:Room j X.A) (hk:k≤j) (hg:Gl X x) (ha:PA X (e::es) t) (hdb:(x == ("__debug__":Str))=false:=by decide)
  (he:starEach (e::es) X.env=(false,eval e X.env)::starEach es X.env:=by rfl) (hpl:(backTo pos (starEach es X.env)).any (·.1)=false:=by rfl):PE X (.Call (.Name x p) (e::es) [] pos) (J2q sp [] E0 t):=by
 obtain ⟨f,fd,F,b,kp,m⟩:=h.ex
 exact J1G F (hr.mono hk) hg m kp b .nil Z9E ha hdb he hpl
def J8G (i j:Int):Prop:=j≠0∧-(2 ^ 64) < j∧j < 2 ^ 64
theorem J2b:OpR X (binaryOp .FloorDiv) (rI J8G fun i j=>.int (i.fdiv j)):=opI fun i j _ _ _ _ _ hc q=>floordiv_int hc.1 q (.inl (PyProof.noPylong_of_log2 (by
 have h:j.natAbs < 2 ^ 64:=by have:=hc.2; omega
 have:=(Nat.log2_lt (by have:=hc.1; omega)).mpr h
 omega)))
end
theorem Z0v {H:Hp} {p:Addr} (h:H p=none) (o:HO):Same H (upd H p o):=fun b u q=>by rw [Z0j (Z0i q h)]; exact q
end L2
end
section
namespace L2
open PySem PySem.Spec PyProof.Rows
theorem Z2U {K:W.Frag} {a:Addr} {g:TG} {tb:TS} {D:Ends} {σ:St} {H:Hp} (xs:List V) (Pv:Nat→St→Hp→Prop) (h0:Pv 0 σ H) (hl:∀ i σ H,i≤xs.length→Pv i σ H→SqL K H a xs)
  (hs:∀ i x σ H,xs[i]?=some x→Pv i σ H→g x σ H fun σ2 H2=>tb { D with nx:=Pv (i+1),ct:=Pv (i+1),bk:=D.nx } σ2 H2) (hd:∀ σ H,Pv xs.length σ H→D.nx σ H):Z9s (Itl K a) g tb D σ H:=
 J2K Pv h0 hl hs hd
theorem Z3Q {K:W.Frag} {a:Addr} {g:TG} {tb:TS} {D:Ends} {σ:St} {H:Hp} (xs:List V) (Pv:Nat→St→Hp→Prop) (h0:Pv 0 σ H) (hl:∀ i σ H,i≤xs.length→Pv i σ H→SqT K H a xs)
  (hs:∀ i x σ H,xs[i]?=some x→Pv i σ H→g x σ H fun σ2 H2=>tb { D with nx:=Pv (i+1),ct:=Pv (i+1),bk:=D.nx } σ2 H2) (hd:∀ σ H,Pv xs.length σ H→D.nx σ H):Z9s (Itt K a) g tb D σ H:=
 J4V Pv h0 hl hs hd
theorem Z5w {lo:Int} {n:Nat} {g:TG} {tb:TS} {D:Ends} {σ:St} {H:Hp} (Pv:Nat→St→Hp→Prop) (h0:Pv 0 σ H)
  (hs:∀ i σ H,i < n→Pv i σ H→g (.int (lo+i)) σ H fun σ2 H2=>tb { D with nx:=Pv (i+1),ct:=Pv (i+1),bk:=D.nx } σ2 H2) (hd:∀ σ H,Pv n σ H→D.nx σ H):Z9s (Itr lo n) g tb D σ H:=
 J0z Pv h0 hs hd
theorem SqL.same {K:W.Frag} {H H':Hp} {a:Addr} {xs:List V} (h:SqL K H a xs) (s:Same H H'):SqL K H' a xs:=s.seq h
theorem SqT.same {K:W.Frag} {H H':Hp} {a:Addr} {xs:List V} (h:SqT K H a xs) (e:Same H H'):SqT K H' a xs:=by
 rcases h with (h | ⟨o,h⟩) | h
 ·exact .inl (.inl (e _ _ h))
 ·exact .inl (.inr ⟨o,e _ _ h⟩)
 ·exact .inr h
section
variable {K:W.Frag} {H:Hp} {Q:VK} {i:Int} {b:Bool} {x:Str}
theorem Z4Y {v:V} {n:String} {t:Value} {k:Bool} (ht:∀ t',TyOf K H v t'→t'=t) (h0:TyOf K H v t) (hk:W.kitOne K t (.type n)=some k):rIsi K [v,.ty n] H Q=Q (.bl k) H:=by
 refine propext ⟨fun h=>?_,fun h=>⟨_,_,_,_,_,rfl,rfl,h0,hk,h⟩⟩
 obtain ⟨x,c,cv,t',b',e,hc,ty,k',q⟩:=h
 cases e
 cases hc
 rw [ht _ ty,hk] at k'
 cases k'
 exact q
theorem J4t:rIsi K [.int i,.ty "int"] H Q=Q (.bl true) H:=Z4Y (fun _ h=>by cases h; rfl) (.int i) Z4G
theorem J3S:rIsi K [.int i,.ty "bool"] H Q=Q (.bl false) H:=Z4Y (fun _ h=>by cases h; rfl) (.int i) Z6S
theorem Z6y:W.kitOne K (.type "bool") (.type "int")=some true:=by with_unfolding_all rfl
theorem J5g:rIsi K [.bl b,.ty "int"] H Q=Q (.bl true) H:=Z4Y (fun _ h=>by cases h; rfl) (.bl b) Z6y
theorem J3Y:rIsi K [.bl b,.ty "bool"] H Q=Q (.bl true) H:=Z4Y (fun _ h=>by cases h; rfl) (.bl b) Z4G
theorem J4M:rIsi K [.str x,.ty "str"] H Q=Q (.bl true) H:=Z4Y (fun _ h=>by cases h; rfl) (.str x) Z4G
end
section
theorem ix0 {α:Type} {x:α} {xs:List α}:atI (x::xs) 0=some x:=by simp [atI,ixN]
theorem ix1 {α:Type} {x y:α} {xs:List α}:atI (x::y::xs) 1=some y:=by
 have:((1:Int) < (xs.length:Int)+1+1):=by omega
 simp [atI,ixN,this]
end
theorem J9b {CX:CXT} {P:Program} {w:World} {K:W.Frag} {mg:Str→Option Value} {base:Heap} {N:List Str} {qual:Str} {scope:Scope} {f:Addr} {cd:Value} {A:Around} {outer:List Env} {s:Shared} {H:Hp} {E:XK}:(cxOf CX P w K mg base N qual scope f cd A outer s H E).K=K:=rfl
theorem Z4a:bootBuiltins "len"=some (.builtin "len"):=by decide +kernel
theorem J1D:bootBuiltins "max"=some (.builtin "max"):=by decide +kernel
theorem J3x:bootBuiltins "sum"=some (.builtin "sum"):=by decide +kernel
theorem Z5L:bootBuiltins "repr"=some (.builtin "repr"):=by decide +kernel
theorem Z5J:bootBuiltins "isinstance"=some (.builtin "isinstance"):=by decide +kernel
theorem J1S:bootBuiltins "list"=some (.type "list"):=by decide +kernel
theorem Z1E:bootBuiltins "tuple"=some (.type "tuple"):=by decide +kernel
theorem J0l:bootBuiltins "dict"=some (.type "dict"):=by decide +kernel
theorem Z7K:bootBuiltins "reversed"=some (.type "reversed"):=by decide +kernel
theorem Z4u:bootBuiltins "enumerate"=some (.type "enumerate"):=by decide +kernel
section
variable {a c:Int} {b e:Bool} {x y:Str}
theorem J9j:scal (.non) (.non)=true:=rfl
theorem J9n:scal (.non) (.int a)=true:=rfl
theorem J9f:scal (.int a) (.non)=true:=rfl
theorem J9p:scal (.non) (.bl b)=true:=rfl
theorem J9s:scal (.bl b) (.non)=true:=rfl
theorem J9d:scal (.non) (.str x)=true:=rfl
theorem J9u:scal (.str x) (.non)=true:=rfl
theorem J9l:scal (.int a) (.int c)=true:=rfl
theorem J9k:scal (.bl b) (.bl e)=true:=rfl
theorem J9e:scal (.str x) (.str y)=true:=rfl
theorem J9g:scal (.int a) (.str x)=true:=rfl
theorem J9r:scal (.str x) (.int a)=true:=rfl
theorem J9m:scal (.bl b) (.str x)=true:=rfl
theorem J9v:scal (.str x) (.bl b)=true:=rfl
end
end L2
end
section
namespace L2
open PySem PySem.Spec PyProof.Rows
def Z4S (H H':Hp):Prop:=∀ b o,(∀ xs,o≠.lst xs)→H b=some o→H' b=some o
end L2
end
section
namespace L2
open PySem PySem.Spec PyProof.Rows
theorem Z5A {J:It} {te:TE} {Q:VK} {H:Hp} {D:Addr} {ys:List V} {σ0:St} (v0:Option V) (rest:St) (R:Nat→V→Hp→Prop) (mono:∀ j v H1 H2,R j v H1→Z4S H1 H2→R j v H2) (e0:σ0=v0::rest) (hD:H D=none) (hz:ys.length≤sizeLine)
  (j1:∀ i H1,Same H H1→i < ys.length→J.go i H1) (j2:∀ i H1 x H2,Same H H1→J.yld i H1 x H2→H2=H1∧ys[i]?=some x) (j3:∀ H1,Same H H1→J.stop ys.length H1)
  (he:∀ i y,ys[i]?=some y→∀ H1 (K':VK),Same H H1→(∀ v H2,Same H1 H2→R i v H2→K' v H2)→te (some y::rest) H1 K')
  (hQ:∀ vs H',Same H H'→H' D=some (.lst vs)→vs.length=ys.length→(∀ j v,vs[j]?=some v→R j v H')→Q (.ref D) H'):Z4p J (Z3M 0) Z3n te D Q σ0 (upd H D (.lst [])):=by
 refine ⟨fun i m σ' H'=>m=ys.length - i∧i≤ys.length∧(∃ v,σ'=v::rest)∧Same H H'∧∃ vs,H' D=some (.lst vs)∧vs.length=i∧∀ j v,vs[j]?=some v→R j v H',⟨ys.length,by simp,Nat.zero_le _,⟨v0,e0⟩,Z0v hD _,[],Z0e,rfl,fun j v h=>by simp at h⟩,?_⟩
 rintro i m σ' H' ⟨rfl,hi,⟨v,rfl⟩,s1,vs,hv,hl,hr⟩
 by_cases hlt:i < ys.length
 ·refine .inr ⟨j1 i H' s1 hlt,fun σ2 H2=>(∃ v,σ2=v::rest)∧Same H H2∧∃ vs,H2 D=some (.lst vs)∧vs.length=i+1∧∀ j v,vs[j]?=some v→R j v H2,fun σ2 H2 ⟨a,b,c⟩=>⟨ys.length - (i+1),by omega,rfl,hlt,a,b,c⟩,fun x H2 hx=>?_⟩
  obtain ⟨e1,e2⟩:=j2 i H' x H2 s1 hx
  subst e1
  unfold Z3M Z3n
  rw [List.set_cons_zero]
  refine iteT (he i x e2 H2 _ s1 fun v H3 s3 hR=>?_)
  have h3:=s3 _ _ hv
  have sn:Z4S H3 (upd H3 D (.lst (vs++[v]))):=fun b o ho hb=>by
   rw [Z0j (fun z=>by rw [z,h3] at hb; cases hb; exact ho _ rfl)]
   exact hb
  refine ⟨vs,h3,by omega,⟨_,rfl⟩,fun b o hb=>?_,_,Z0e,by rw [List.length_append,hl]; rfl,fun j u hj=>?_⟩
  ·rw [Z0j (Z0i hb hD)]
   exact s3 _ _ (s1 _ _ hb)
  ·by_cases hj':j < vs.length
   ·rw [List.getElem?_append_left hj'] at hj
    exact mono j u _ _ (mono j u _ _ (hr j u hj) fun b o _ hb=>s3 b o hb) sn
   ·rw [List.getElem?_append_right (by omega)] at hj
    have ej:j - vs.length=0:=by
     have:=(List.getElem?_eq_some_iff.mp hj).1
     simp at this
     omega
    rw [ej] at hj
    cases hj
    have:j=i:=by omega
    subst this
    exact mono _ _ _ _ hR sn
 ·have e:i=ys.length:=by omega
  subst e
  exact .inl ⟨j3 _ s1,hQ vs H' s1 hv hl hr⟩
theorem Z1t {K:W.Frag} {a:Addr} {te:TE} {Q:VK} {H:Hp} {D:Addr} {ys:List V} {σ0:St} (v0:Option V) (rest:St) (R:Nat→V→Hp→Prop) (mono:∀ j v H1 H2,R j v H1→Z4S H1 H2→R j v H2) (e0:σ0=v0::rest) (hD:H D=none) (hz:ys.length≤sizeLine) (ha:∀ H1,Same H H1→SqT K H1 a ys)
  (he:∀ i y,ys[i]?=some y→∀ H1 (K':VK),Same H H1→(∀ v H2,Same H1 H2→R i v H2→K' v H2)→te (some y::rest) H1 K')
  (hQ:∀ vs H',Same H H'→H' D=some (.lst vs)→vs.length=ys.length→(∀ j v,vs[j]?=some v→R j v H')→Q (.ref D) H'):Z4p (Itt K a) (Z3M 0) Z3n te D Q σ0 (upd H D (.lst [])):=
 Z5A v0 rest R mono e0 hD hz (fun i H1 s h=>⟨ys,ys[i],ha H1 s,List.getElem?_eq_getElem h⟩) (fun i H1 x H2 s h=>⟨h.1,h.2 ys (ha H1 s)⟩) (fun H1 s=>⟨ys,ha H1 s,Nat.le_refl _⟩) he hQ
theorem Z3G {K:W.Frag} {a:Addr} {te:TE} {Q:VK} {H:Hp} {D:Addr} {ys:List V} {σ0:St} (v0:Option V) (rest:St) (R:Nat→V→Hp→Prop) (mono:∀ j v H1 H2,R j v H1→Z4S H1 H2→R j v H2) (e0:σ0=v0::rest) (hD:H D=none) (hz:ys.length≤sizeLine) (ha:∀ H1,Same H H1→SqL K H1 a ys)
  (he:∀ i y,ys[i]?=some y→∀ H1 (K':VK),Same H H1→(∀ v H2,Same H1 H2→R i v H2→K' v H2)→te (some y::rest) H1 K')
  (hQ:∀ vs H',Same H H'→H' D=some (.lst vs)→vs.length=ys.length→(∀ j v,vs[j]?=some v→R j v H')→Q (.ref D) H'):Z4p (Itl K a) (Z3M 0) Z3n te D Q σ0 (upd H D (.lst [])):=
 Z5A v0 rest R mono e0 hD hz (fun i H1 s h=>⟨ys,ys[i],ha H1 s,List.getElem?_eq_getElem h⟩) (fun i H1 x H2 s h=>⟨h.1,h.2 ys (ha H1 s)⟩) (fun H1 s=>⟨ys,ha H1 s,Nat.le_refl _⟩) he hQ
end L2
end
section
namespace L2
open PySem PySem.Spec PyProof.Rows
def IsK (K:W.Frag):Prop:=True
def Ob (H:Hp) (a:Addr) (o:HO):Prop:=H a=some o
section
variable {K:W.Frag} {H H' H1 H2:Hp} {a b p:Addr} {o u:HO} {xs ys:List V}
theorem J7X:Ob H a o=(H a=some o):=rfl
grind_pattern J7X=>Ob H a o
theorem Ob.new:Ob (upd H p o) p o:=Z0e
grind_pattern Ob.new=>upd H p o
theorem Ob.same (h:Ob H a o) (s:Same H H'):Ob H' a o:=s _ _ h
grind_pattern Ob.same=>Ob H a o,Same H H'
theorem g_su (h:H p=none):Same H (upd H p o):=Z0v h o
grind_pattern g_su=>upd H p o
theorem g_st (h:Same H H1) (h':Same H1 H2):Same H H2:=h.trans h'
grind_pattern g_st=>Same H H1,Same H1 H2
theorem g_sT (h:SqT K H a xs) (s:Same H H'):SqT K H' a xs:=h.same s
grind_pattern g_sT=>SqT K H a xs,Same H H'
theorem g_sL (h:SqL K H a xs) (s:Same H H'):SqL K H' a xs:=h.same s
grind_pattern g_sL=>SqL K H a xs,Same H H'
theorem g_nT (k:IsK K) (h:Ob H a (.tup xs)):SqT K H a xs:=SqT.of h
grind_pattern g_nT=>IsK K,Ob H a (.tup xs)
theorem g_nL (k:IsK K) (h:Ob H a (.lst xs)):SqL K H a xs:=SqL.of h
grind_pattern g_nL=>IsK K,Ob H a (.lst xs)
end
section
variable {α:Type} {x y z u v:α} {xs:List α}
theorem ix2:atI (x::y::z::xs) 2=some z:=by
 have:((2:Int) < (xs.length:Int)+1+1+1):=by omega
 simp [atI,ixN,this]
theorem ix3:atI (x::y::z::u::xs) 3=some u:=by
 have:((3:Int) < (xs.length:Int)+1+1+1+1):=by omega
 simp [atI,ixN,this]
end
end L2
end
section
namespace L2
open PySem PySem.Spec PyProof.Rows
structure Z4D (K:W.Frag) (mg:Str→Option Value) (cn:Str) (C:Addr):Prop where
 mgC:mg cn=some (.ref C)
 cl:Cls K C
 mks:W.makesIn K C=true
 kp:W.keepIn K (.ref C)=true
structure MFn (K:W.Frag) (C:Addr) (m qual:Str) (st:Stmt):Prop where
 ex:∃ f fd,Fun K m qual st f fd∧Meth K C m f
structure HasM (P:Program) (w:World) (K:W.Frag) (mg:Str→Option Value) (base:Heap) (k:Nat) (C:Addr) (m:Str) (ps:List Str) (sp:Sp):Prop where
 ex:∃ f fd,FnOk P w K mg base CX0 k f fd ps sp∧Binds K fd ps []∧Meth K C m f
section
variable {P:Program} {w:World} {K:W.Frag} {mg:Str→Option Value} {base:Heap}
theorem Z4h {h:Heap} {cn:Str} {C:Addr} (X:K.In h) (G:h.Ns mainGlobals mg) (a:W.nsIn K mainGlobals cn=some (some (.ref C))) (pg:W.plainGet K C Str.empty=true) (hd:W.hasDictIn K C=true) (po:W.plainOver K C=true)
  (sa:W.findIn K (.ref C) "__setattr__"=some (some (.builtin "object.__setattr__"))) (mk:W.makesIn K C=true) (kp:W.keepIn K (.ref C)=true):Z4D K mg cn C:=⟨W.mg_of X G a,⟨pg,hd,po,sa⟩,mk,kp⟩
theorem Z0p {C:Addr} {f:Str} (h:W.findIn K (.ref C) f=some none):NoAttr K C f:=h
theorem Z0U {C:Addr} {m qual:Str} {st:Stmt} {f:Addr} {oc:Value} {od an:Option Addr} {osl:Array (Option Value)} {kV doc pm cdv ct:Value} (a:W.findIn K (.ref C) m=some (some (.ref f))) (i:W.isFn K (.ref f)=true)
  (l:K.lookup f=some ⟨oc,od,.func (W.fnOf m qual (Z0h st) (Z0f st) (Z0b st) .none kV doc pm an cdv ct),osl⟩) (c:W.codeIn K cdv qual=true) (k:W.keepIn K (.ref f)=true):MFn K C m qual st:=
 ⟨f,_,J3r l c k,⟨a,i,k⟩⟩
theorem HasM.of {C:Addr} {m qual:Str} {st:Stmt} {N ps:List Str} {k:Nat} {sp:Sp} (F:MFn K C m qual st) (S:Z0m N ps (Z0b st))
  (hb:∀ (kV doc pm:Value) (an:Option Addr) (cdv ct:Value) (us:List Value),us.length=ps.length→bindArgs (W.fnOf m qual (Z0h st) (Z0f st) (Z0b st) .none kV doc pm an cdv ct) ⟨us,[]⟩=pure (ps.zip us))
  (len:∀ vs H Q E,sp vs H Q E→vs.length=ps.length)
  (hbody:∀ (f:Addr) (cdv:Value) (A:Around) (outer:List Env) (s:Shared) (H:Hp) (vs:List V) (Q:VK) (E:XK),Room k (A.deeper (envOfC qual (Z0b st) s.heap.objs.size f cdv))→sp vs H Q E →
   ∃ t,PSs (cxOf CX0 P w K mg base N qual (Z0b st) f cdv A outer s H E).nox (Z0f st) t∧t { nx:=fun _ H'=>Q .non H',rt:=Q } (Z4U N vs) H):HasM P w K mg base (k+1) C m ps sp:=by
 obtain ⟨f,fd,F,mm⟩:=F.ex
 exact ⟨f,fd,F.ok S len fun cdv=>hbody f cdv,F.binds hb,mm⟩
end
section
variable {X:Cx} {x m:Str} {ps:List Str} {sp:Sp} {k j:Nat} {C:Addr} {o e:Expr} {es:List Expr} {ta:TE} {t:TA} {p pos apos:Pos}
theorem J4I {pl:Sem Bool} (he:PE X o ta) (c:Cls X.K C) (h:HasM X.prog X.w X.K X.mg X.base k C m ps sp) (hr:Room j X.A) (hk:k≤j) (ha:PA X (e::es) t)
  (hst:starEach (e::es) X.env=(false,eval e X.env)::starEach es X.env:=by rfl) (hpl:(backTo pos (starEach es X.env)).any (·.1)=false:=by rfl)
  (ht:eval (.Call (.Attribute o m apos) (e::es) [] pos) X.env=(do
   let ov ← eval o X.env
   standAt apos.atName
   let (f,first) ← holding [ov] (getMethod ov m pl)
   callWith pos f first (backTo pos (starEach (e::es) X.env)) (backToKw pos (keywordEach [] X.env))):=by rfl) :
  PE X (.Call (.Attribute o m apos) (e::es) [] pos) (J0D C m sp [] E0 ta t):=by
 obtain ⟨f,fd,F,b,mm⟩:=h.ex
 exact J4f he c mm F (hr.mono hk) b .nil Z9E ha hst hpl ht
theorem J2D {pl:Sem Bool} (he:PE X o ta) (c:Cls X.K C) (h:HasM X.prog X.w X.K X.mg X.base k C m ps sp) (hr:Room j X.A) (hk:k≤j)
  (ht:eval (.Call (.Attribute o m apos) [] [] pos) X.env=(do
   let ov ← eval o X.env
   standAt apos.atName
   let (f,first) ← holding [ov] (getMethod ov m pl)
   callWith pos f first (backTo pos (starEach [] X.env)) (backToKw pos (keywordEach [] X.env))):=by rfl) :
  PE X (.Call (.Attribute o m apos) [] [] pos) (J0D C m sp [] E0 ta tNil):=by
 obtain ⟨f,fd,F,b,mm⟩:=h.ex
 exact J2m he c mm F (hr.mono hk) b .nil Z9E ht
theorem Z3t (c:Z4D X.K X.mg x C) (h:HasM X.prog X.w X.K X.mg X.base k C "__init__" ps sp) (hr:Room j X.A) (hk:k+1≤j) (hg:Gl X x) (ha:PA X (e::es) t) (hdb:(x == ("__debug__":Str))=false:=by decide)
  (he:starEach (e::es) X.env=(false,eval e X.env)::starEach es X.env:=by rfl) (hpl:(backTo pos (starEach es X.env)).any (·.1)=false:=by rfl):PE X (.Call (.Name x p) (e::es) [] pos) (J0e C sp [] E0 t):=by
 obtain ⟨f,fd,F,b,mm⟩:=h.ex
 exact J4m ⟨c.mks,mm.at_,mm.fn,c.kp⟩ F (hr.mono hk) hg c.mgC b .nil Z9E ha hdb he hpl
theorem J4Y (c:Z4D X.K X.mg x C) (h:HasM X.prog X.w X.K X.mg X.base k C "__init__" ps sp) (hr:Room j X.A) (hk:k+1≤j) (hg:Gl X x) (hdb:(x == ("__debug__":Str))=false:=by decide):PE X (.Call (.Name x p) [] [] pos) (J0e C sp [] E0 tNil):=by
 obtain ⟨f,fd,F,b,mm⟩:=h.ex
 exact J3d ⟨c.mks,mm.at_,mm.fn,c.kp⟩ F (hr.mono hk) hg c.mgC b .nil Z9E hdb
end
end L2
end
section
namespace L2
open PySem PySem.Spec PyProof.Rows
section
variable {X:Cx} {CX:CXT} {k:Nat} {f C:Addr} {fd:FuncData} {ps ks:List Str} {sp:Sp} {E:XK} {x m:Str} {p pos apos kpos:Pos} {e o:Expr} {es:List Expr} {kws:List Keyword} {te ta:TE} {t tk:TA} {nm:Option Str}
variable {g:List Value→List Value→List Value} {gV:List V→List V→List V}
end
section
variable {P:Program} {w:World} {K:W.Frag} {mg:Str→Option Value} {base:Heap}
end
end L2
end
section
namespace L2
open PySem PySem.Spec PyProof.Rows PySem.SeqAt
def mono (t:TE):TE:=fun σ H Q=>∃ Q0:VK,t σ H Q0∧∀ v H',Q0 v H'→Q v H'
section
variable {X:Cx} {o e value:Expr} {f:Str} {pos pos' tpos:Pos} {ta tv:TE}
theorem PE.mono {t:TE} (h:PE X e t):PE X e (mono t):=fun pins s σ H Q I ⟨Q0,h0,i⟩=>thn (h pins s σ H Q0 I h0) fun u s1 ⟨x,H1,I1,r,q⟩=>⟨x,H1,I1,r,i _ _ q⟩
def opt2 (o:Option (Option V)) (R:V→Prop):Prop:=match o with
 | some (some v)=>R v
 | _=>False
theorem J5H {v:V} {R:V→Prop}:opt2 (some (some v)) R=R v:=rfl
def Z6n (i:Nat):TE:=fun σ H Q=>opt2 σ[i]? fun v=>Q v H
theorem J7r {i:Nat} {σ:St} {H:Hp} {Q:VK}:Z6n i σ H Q=opt2 σ[i]? fun v=>Q v H:=rfl
theorem J4C {o:Option (Option V)} {R:V→Prop} (h:opt2 o R):∃ v,o=some (some v)∧R v:=by
 unfold opt2 at h
 split at h
 ·exact ⟨_,rfl,h⟩
 ·cases h
theorem J4k {i:Nat} {x:Str} (hN:X.N[i]?=some x) (hv:Vis X.env.scope x) (hd:(x == ("__debug__":Str))=false:=by decide) (hcd:(x == ("__classdict__":Str))=false:=by decide):PE X (.Name x pos) (Z6n i):=
 fun pins s σ H Q I h=>J5M hN hv hd hcd pins s σ H Q I (J4C h)
theorem pvF (i:Nat) {x:Str} (hN:X.N[i]?=some x:=by rfl) (hv:Vis X.env.scope x:=by first | exact Or.inl rfl | exact Or.inr (Or.inl rfl) | exact Or.inr (Or.inr rfl)) (hd:(x == ("__debug__":Str))=false:=by decide)
  (hcd:(x == ("__classdict__":Str))=false:=by decide):PE X (.Name x pos) (Z6n i):=J4k hN hv hd hcd
inductive Fld (K:W.Frag) (f:Str) (a:Addr) (H:Hp) (Q:VK):Prop
 | mk (C dx:Addr) (fs:List (Str×V)) (h:H a=some (.ins C dx fs)) (cl:Cls K C) (n:NoAttr K C f) (v:V) (l:fs.lookup f=some v) (q:Q v H):Fld K f a H Q
def Z9L (K:W.Frag) (ta:TE) (f:Str):TE:=fun σ H Q=>ta σ H fun x H1=>∃ a,x=.ref a∧Fld K f a H1 Q
theorem J7j {K:W.Frag} {σ:St} {H:Hp} {Q:VK}:Z9L K ta f σ H Q=ta σ H fun x H1=>∃ a,x=.ref a∧Fld K f a H1 Q:=rfl
theorem Z0k (he:PE X e ta) (hb:attributeBase e f X.env (eval e X.env)=eval e X.env):PE X (.Attribute e f pos) (Z9L X.K ta f):=by
 intro pins s σ H Q I h
 refine J4U hb (thn (he pins s σ H _ I h) fun u s1 hz=>?_)
 obtain ⟨x,H1,I1,rx,a,ex,hz⟩:=hz
 obtain ⟨C,dx,fs,ea,c,n,v,l,q⟩:=hz
 subst ex
 cases (show u=Value.ref a from rx)
 exact Z9H I1 ea c n l fun u' s2 I2 ru=>⟨v,H1,I2,ru,q⟩
inductive SFld (K:W.Frag) (f:Str) (a:Addr) (H:Hp) (R:Addr→Addr→List (Str×V)→Prop):Prop
 | mk (C dx:Addr) (fs:List (Str×V)) (h:H a=some (.ins C dx fs)) (cl:Cls K C) (n:NoAttr K C f) (l:fs.length < 1000) (r:R C dx fs):SFld K f a H R
def J6v (K:W.Frag) (ta tv:TE) (f:Str):TS:=fun D σ H=>tv σ H fun y H1=>ta σ H1 fun x H2=>∃ a,x=.ref a∧SFld K f a H2 fun C dx fs=>D.nx σ (upd H2 a (.ins C dx (putF f y fs)))
theorem J6W {K:W.Frag} {D:Ends} {σ:St} {H:Hp}:J6v K ta tv f D σ H=tv σ H fun y H1=>ta σ H1 fun x H2=>∃ a,x=.ref a∧SFld K f a H2 fun C dx fs=>D.nx σ (upd H2 a (.ins C dx (putF f y fs))):=rfl
theorem Z0x (ha:PE X o ta) (hv:PE X value tv) (hs:swapsWith value (some (.Attribute o f pos')) pos.line X.env=pure false):PS X (.Assign [.Attribute o f pos'] value pos) (J6v X.K ta tv f):=by
 intro pins s σ H D I h
 refine plainObj_wpAny_Assign_Attribute (thn (hv pins s σ H _ I h) fun u s1 ⟨y,H1,I1,ry,q⟩=>thn (ha pins s1 σ H1 _ I1 q) fun ov s2 hz=>?_) hs
 obtain ⟨x,H2,I2,rx,a,ex,hz⟩:=hz
 obtain ⟨C,dx,fs,ea,c,n,l,q2⟩:=hz
 subst ex
 cases (show ov=Value.ref a from rx)
 exact Z9J I2 ea c n l ry fun s3 I3=>⟨σ,_,I3,q2⟩
inductive FldC (K:W.Frag) (f:Str) (a:Addr) (H:Hp) (R:Addr→V→Prop):Prop
 | mk (C dx:Addr) (fs:List (Str×V)) (h:H a=some (.ins C dx fs)) (cl:Cls K C) (n:NoAttr K C f) (v:V) (l:fs.lookup f=some v) (q:R C v):FldC K f a H R
inductive InsC (C a:Addr) (H:Hp) (R:Addr→List (Str×V)→Prop):Prop
 | mk (dx:Addr) (fs:List (Str×V)) (h:H a=some (.ins C dx fs)) (l:fs.length < 1000) (r:R dx fs):InsC C a H R
def J2u (K:W.Frag) (ta tv:TE) (rd:V→V→Hp→VK→Prop) (f:Str):TS:=fun D σ H=>ta σ H fun x H1=>∃ a,x=.ref a∧FldC K f a H1 fun C v=>
 tv σ H1 fun y H2=>rd v y H2 fun z H3=>InsC C a H3 fun dx' fs'=>D.nx σ (upd H3 a (.ins C dx' (putF f z fs')))
theorem J4E {K:W.Frag} {rd:V→V→Hp→VK→Prop} {D:Ends} {σ:St} {H:Hp}:J2u K ta tv rd f D σ H=ta σ H fun x H1=>∃ a,x=.ref a∧FldC K f a H1 fun C v=>
 tv σ H1 fun y H2=>rd v y H2 fun z H3=>InsC C a H3 fun dx' fs'=>D.nx σ (upd H3 a (.ins C dx' (putF f z fs'))):=rfl
inductive J1U (C:Addr) (m:Str) (a:Addr) (H:Hp) (R:Prop):Prop
 | mk (dx:Addr) (fs:List (Str×V)) (h:H a=some (.ins C dx fs)) (l:fs.lookup m=none) (r:R):J1U C m a H R
def J1s (C:Addr) (m:Str) (sp:Sp) (dvs:List V) (E:XK) (ta:TE) (t:TA):TE:=fun σ H Q=>ta σ H fun x H1=>∃ a,x=.ref a∧J1U C m a H1 (t σ H1 fun vs H2=>sp (x::(vs++dvs)) H2 Q E)
theorem J5i {C:Addr} {m:Str} {sp:Sp} {dvs:List V} {E:XK} {t:TA} {σ:St} {H:Hp} {Q:VK}:J1s C m sp dvs E ta t σ H Q=ta σ H fun x H1=>∃ a,x=.ref a∧J1U C m a H1 (t σ H1 fun vs H2=>sp (x::(vs++dvs)) H2 Q E):=rfl
variable {C:Addr} {m:Str} {ps:List Str} {sp:Sp} {k j:Nat} {es:List Expr} {t:TA} {apos:Pos}
theorem Z2P {pl:Sem Bool} (he:PE X o ta) (c:Cls X.K C) (h:HasM X.prog X.w X.K X.mg X.base k C m ps sp) (hr:Room j X.A) (hk:k≤j) (ha:PA X (e::es) t)
  (hst:starEach (e::es) X.env=(false,eval e X.env)::starEach es X.env:=by rfl) (hpl:(backTo pos (starEach es X.env)).any (·.1)=false:=by rfl)
  (ht:eval (.Call (.Attribute o m apos) (e::es) [] pos) X.env=(do
   let ov ← eval o X.env
   standAt apos.atName
   let (f,first) ← holding [ov] (getMethod ov m pl)
   callWith pos f first (backTo pos (starEach (e::es) X.env)) (backToKw pos (keywordEach [] X.env))):=by rfl) :
  PE X (.Call (.Attribute o m apos) (e::es) [] pos) (J1s C m sp [] E0 ta t):=
 fun pins s σ H Q I h'=>J4I he.mono c h hr hk ha hst hpl ht pins s σ H Q I ⟨_,h',fun _ _ ⟨a,e,dx,fs,h,l,r⟩=>⟨a,dx,fs,e,h,l,r⟩⟩
theorem Z0Z {pl:Sem Bool} (he:PE X o ta) (c:Cls X.K C) (h:HasM X.prog X.w X.K X.mg X.base k C m ps sp) (hr:Room j X.A) (hk:k≤j)
  (ht:eval (.Call (.Attribute o m apos) [] [] pos) X.env=(do
   let ov ← eval o X.env
   standAt apos.atName
   let (f,first) ← holding [ov] (getMethod ov m pl)
   callWith pos f first (backTo pos (starEach [] X.env)) (backToKw pos (keywordEach [] X.env))):=by rfl) :
  PE X (.Call (.Attribute o m apos) [] [] pos) (J1s C m sp [] E0 ta tNil):=
 fun pins s σ H Q I h'=>J2D he.mono c h hr hk ht pins s σ H Q I ⟨_,h',fun _ _ ⟨a,e,dx,fs,h,l,r⟩=>⟨a,dx,fs,e,h,l,r⟩⟩
inductive IxT (K:W.Frag) (p:Addr) (i:Int) (H:Hp) (Q:VK):Prop
 | mk (xs:List V) (h:SqT K H p xs) (v:V) (l:atI xs i=some v) (q:Q v H):IxT K p i H Q
inductive IxL (K:W.Frag) (p:Addr) (i:Int) (H:Hp) (Q:VK):Prop
 | mk (xs:List V) (h:SqL K H p xs) (v:V) (l:atI xs i=some v) (q:Q v H):IxL K p i H Q
def Z2J (K:W.Frag):R2:=fun x y H Q=>∃ p,x=.ref p∧∃ i,y=.int i∧IxT K p i H Q
def Z3r (K:W.Frag):R2:=fun x y H Q=>∃ p,x=.ref p∧∃ i,y=.int i∧IxL K p i H Q
theorem J7m {K:W.Frag} {x y:V} {H:Hp} {Q:VK}:Z2J K x y H Q=∃ p,x=.ref p∧∃ i,y=.int i∧IxT K p i H Q:=rfl
theorem J7B {K:W.Frag} {x y:V} {H:Hp} {Q:VK}:Z3r K x y H Q=∃ p,x=.ref p∧∃ i,y=.int i∧IxL K p i H Q:=rfl
theorem Z1a:IxR X (Z2J X.K):=fun value slice pins s σ H x y v u Q I rx ry ⟨p,e1,i,e2,xs,h,z,l,q⟩ hs=>J5l value slice pins s σ H x y v u Q I rx ry ⟨p,xs,i,z,e1,e2,h,l,q⟩ hs
theorem Z1i:IxR X (Z3r X.K):=fun value slice pins s σ H x y v u Q I rx ry ⟨p,e1,i,e2,xs,h,z,l,q⟩ hs=>J4l value slice pins s σ H x y v u Q I rx ry ⟨p,xs,i,z,e1,e2,h,l,q⟩ hs
inductive SetL (p:Addr) (k:Int) (H:Hp) (R:List V→Nat→Prop):Prop
 | mk (xs:List V) (h:H p=some (.lst xs)) (j:Nat) (l:ixN xs.length k=some j) (r:R xs j):SetL p k H R
def J5R:TSet:=fun o i v H Q=>∃ p,o=.ref p∧∃ k,i=.int k∧SetL p k H fun xs j=>Q (upd H p (.lst (xs.set j v)))
theorem J6o {o i v:V} {H:Hp} {Q:Hp→Prop}:J5R o i v H Q=∃ p,o=.ref p∧∃ k,i=.int k∧SetL p k H fun xs j=>Q (upd H p (.lst (xs.set j v))):=rfl
inductive HdOf (vs:List V) (R:V→List V→Prop):Prop
 | mk (v:V) (r:List V) (e:vs=v::r) (q:R v r):HdOf vs R
inductive J5a (K:W.Frag) (a:Addr) (n:Nat) (H:Hp) (R:List V→Prop):Prop
 | mk (xs:List V) (h:SqT K H a xs) (l:xs.length=n) (q:R xs):J5a K a n H R
def Z7H (K:W.Frag) (n:Nat) (t:TGs):TG:=fun v σ H Q=>∃ a,v=.ref a∧J5a K a n H fun xs=>t xs σ H Q
theorem J7c {K:W.Frag} {n:Nat} {t:TGs} {v:V} {σ:St} {H:Hp} {Q:St→Hp→Prop}:Z7H K n t v σ H Q=∃ a,v=.ref a∧J5a K a n H fun xs=>t xs σ H Q:=rfl
def Z8f (t:TG) (u:TGs):TGs:=fun vs σ H Q=>HdOf vs fun v r=>t v σ H fun σ' H'=>u r σ' H' Q
theorem J5W {t:TG} {u:TGs} {vs:List V} {σ:St} {H:Hp} {Q:St→Hp→Prop}:Z8f t u vs σ H Q=HdOf vs fun v r=>t v σ H fun σ' H'=>u r σ' H' Q:=rfl
theorem Z0t {e:Expr} {es:List Expr} {t:TG} {u:TGs} (h1:PG X e t) (h2:PGs X es u)
  (hs:(assignEach (e::es) X.env).map (·.2)=assign e X.env::(assignEach es X.env).map (·.2):=by rfl):PGs X (e::es) (Z8f t u):=
 fun pins s σ H vs us Q I r ⟨v,w,e,q⟩=>J3o h1 h2 hs pins s σ H vs us Q I r ⟨v,w,e,q⟩
theorem Z2I {es:List Expr} {k:Nat} {t:TGs} {n:Nat} (hc:X.calm=true) (h:PGs X es t)
  (hn:(assignEach es X.env).length=n:=by rfl) (hst:(assignEach es X.env).findIdx? (·.1)=none:=by rfl):PG X (.Tuple es k pos) (Z7H X.K n t):=
 fun pins s σ H v u Q I r ⟨a,e,xs,h',l,q⟩=>J6t hc h hn hst pins s σ H v u Q I r ⟨a,xs,e,h',l,q⟩
end
@[elab_as_elim] theorem el0 {α:Type} {motive:List α→Prop} (us:List α) (h:us.length=0) (k:motive []):motive us:=match us,h with | [],_=>k 
@[elab_as_elim] theorem el1 {α:Type} {motive:List α→Prop} (us:List α) (h:us.length=1) (k:∀ a:α,motive [a]):motive us:=match us,h with | [a],_=>k a
@[elab_as_elim] theorem el2 {α:Type} {motive:List α→Prop} (us:List α) (h:us.length=2) (k:∀ a b:α,motive [a,b]):motive us:=match us,h with | [a,b],_=>k a b
@[elab_as_elim] theorem el3 {α:Type} {motive:List α→Prop} (us:List α) (h:us.length=3) (k:∀ a b c:α,motive [a,b,c]):motive us:=match us,h with | [a,b,c],_=>k a b c
@[elab_as_elim] theorem el4 {α:Type} {motive:List α→Prop} (us:List α) (h:us.length=4) (k:∀ a b c d:α,motive [a,b,c,d]):motive us:=match us,h with | [a,b,c,d],_=>k a b c d
@[elab_as_elim] theorem el5 {α:Type} {motive:List α→Prop} (us:List α) (h:us.length=5) (k:∀ a b c d e:α,motive [a,b,c,d,e]):motive us:=match us,h with | [a,b,c,d,e],_=>k a b c d e
@[elab_as_elim] theorem el6 {α:Type} {motive:List α→Prop} (us:List α) (h:us.length=6) (k:∀ a b c d e f:α,motive [a,b,c,d,e,f]):motive us:=match us,h with | [a,b,c,d,e,f],_=>k a b c d e f
@[elab_as_elim] theorem el7 {α:Type} {motive:List α→Prop} (us:List α) (h:us.length=7) (k:∀ a b c d e f g:α,motive [a,b,c,d,e,f,g]):motive us:=match us,h with | [a,b,c,d,e,f,g],_=>k a b c d e f g
theorem seq2 {t1 t2:TS} {D:Ends} {σ:St} {H:Hp} (h:∀ u1,u1=t2→t1 { D with nx:=u1 D } σ H):(tSeq t1 t2) D σ H:=h _ rfl
theorem seq3 {t1 t2 t3:TS} {D:Ends} {σ:St} {H:Hp} (h:∀ u2,u2=t3→∀ u1,u1=tSeq t2 u2→t1 { D with nx:=u1 D } σ H):(tSeq t1 (tSeq t2 t3)) D σ H:=h _ rfl _ rfl
theorem seq4 {t1 t2 t3 t4:TS} {D:Ends} {σ:St} {H:Hp} (h:∀ u3,u3=t4→∀ u2,u2=tSeq t3 u3→∀ u1,u1=tSeq t2 u2→t1 { D with nx:=u1 D } σ H):(tSeq t1 (tSeq t2 (tSeq t3 t4))) D σ H:=h _ rfl _ rfl _ rfl
theorem seq5 {t1 t2 t3 t4 t5:TS} {D:Ends} {σ:St} {H:Hp} (h:∀ u4,u4=t5→∀ u3,u3=tSeq t4 u4→∀ u2,u2=tSeq t3 u3→∀ u1,u1=tSeq t2 u2→t1 { D with nx:=u1 D } σ H):(tSeq t1 (tSeq t2 (tSeq t3 (tSeq t4 t5)))) D σ H:=h _ rfl _ rfl _ rfl _ rfl
theorem seq6 {t1 t2 t3 t4 t5 t6:TS} {D:Ends} {σ:St} {H:Hp} (h:∀ u5,u5=t6→∀ u4,u4=tSeq t5 u5→∀ u3,u3=tSeq t4 u4→∀ u2,u2=tSeq t3 u3→∀ u1,u1=tSeq t2 u2→t1 { D with nx:=u1 D } σ H):(tSeq t1 (tSeq t2 (tSeq t3 (tSeq t4 (tSeq t5 t6))))) D σ H:=h _ rfl _ rfl _ rfl _ rfl _ rfl
theorem seq7 {t1 t2 t3 t4 t5 t6 t7:TS} {D:Ends} {σ:St} {H:Hp} (h:∀ u6,u6=t7→∀ u5,u5=tSeq t6 u6→∀ u4,u4=tSeq t5 u5→∀ u3,u3=tSeq t4 u4→∀ u2,u2=tSeq t3 u3→∀ u1,u1=tSeq t2 u2→t1 { D with nx:=u1 D } σ H):(tSeq t1 (tSeq t2 (tSeq t3 (tSeq t4 (tSeq t5 (tSeq t6 t7)))))) D σ H:=h _ rfl _ rfl _ rfl _ rfl _ rfl _ rfl
theorem seq9 {t1 t2 t3 t4 t5 t6 t7 t8 t9:TS} {D:Ends} {σ:St} {H:Hp} (h:∀ u8,u8=t9→∀ u7,u7=tSeq t8 u8→∀ u6,u6=tSeq t7 u7→∀ u5,u5=tSeq t6 u6→∀ u4,u4=tSeq t5 u5→∀ u3,u3=tSeq t4 u4→∀ u2,u2=tSeq t3 u3→∀ u1,u1=tSeq t2 u2→t1 { D with nx:=u1 D } σ H):(tSeq t1 (tSeq t2 (tSeq t3 (tSeq t4 (tSeq t5 (tSeq t6 (tSeq t7 (tSeq t8 t9)))))))) D σ H:=h _ rfl _ rfl _ rfl _ rfl _ rfl _ rfl _ rfl _ rfl
def New (H:Hp) (o:HO) (R:Addr→Hp→Prop):Prop:=∀ p,H p=none→R p (upd H p o)
theorem New.of {H:Hp} {o:HO} {R:Addr→Hp→Prop} (h:∀ p H',H p=none→Same H H'→H' p=some o→R p H'):New H o R:=fun p hp=>h p _ hp (Z0v hp o) Z0e
theorem J7Q {t:TA} {σ:St} {H:Hp} {Q:VK}:tTup t σ H Q=(t σ H fun xs H1=>xs.length≤sizeLine∧New H1 (.tup xs) fun p H2=>Q (.ref p) H2):=rfl
theorem J7D {t:TA} {σ:St} {H:Hp} {Q:VK}:tLst t σ H Q=(t σ H fun xs H1=>xs.length≤sizeLine∧New H1 (.lst xs) fun p H2=>Q (.ref p) H2):=rfl
theorem J7H {K:W.Frag} {x:V} {lo:Option Int} {hi:Option Int} {H:Hp} {Q:VK}:rSlL K x lo hi H Q=(∃ a xs,x=.ref a∧SqL K H a xs∧New H (.lst (cutV xs lo hi)) fun p H2=>Q (.ref p) H2):=rfl
theorem J7V {x:V} {y:V} {H:Hp} {Q:VK}:rCat  x y H Q=(∃ l b xs zs,x=.ref l∧y=.ref b∧H l=some (.lst xs)∧H b=some (.lst zs)∧xs.length+zs.length≤sizeLine∧New H (.lst (xs++zs)) fun p H2=>Q (.ref p) H2):=rfl
end L2
end
section
namespace TM
open PySem L2 P15
structure Kp (H H':Hp):Prop where
 t:∀ b xs,H b=some (.tup xs)→H' b=some (.tup xs)
 z:∀ b o xs,H b=some (.frz o (.tup xs))→H' b=some (.frz o (.tup xs))
 i:∀ b C dx f fs,H b=some (.ins C dx (f::fs))→H' b=some (.ins C dx (f::fs))
theorem Kp.trans {H H' H'':Hp} (a:Kp H H') (b:Kp H' H''):Kp H H'':=⟨fun _ _ h=>b.t _ _ (a.t _ _ h),fun _ _ _ h=>b.z _ _ _ (a.z _ _ _ h),fun _ _ _ _ _ h=>b.i _ _ _ _ _ (a.i _ _ _ _ _ h)⟩
theorem Kp.of {H H':Hp} (s:Same H H'):Kp H H':=⟨fun _ _ h=>s _ _ h,fun _ _ _ h=>s _ _ h,fun _ _ _ _ _ h=>s _ _ h⟩
theorem Kp.put {H:Hp} {a:Addr} {u:HO} (o:HO) (h:H a=some u) (n1:∀ xs,u≠.tup xs) (n2:∀ o xs,u≠.frz o (.tup xs)) (n3:∀ C dx f fs,u≠.ins C dx (f::fs)):Kp H (upd H a o):=by
 refine ⟨fun b xs e=>?_,fun b o xs e=>?_,fun b C dx f fs e=>?_⟩
 ·rw [Z0j (fun z=>by rw [z,h] at e; cases e; exact n1 _ rfl)]; exact e
 ·rw [Z0j (fun z=>by rw [z,h] at e; cases e; exact n2 _ _ rfl)]; exact e
 ·rw [Z0j (fun z=>by rw [z,h] at e; cases e; exact n3 _ _ _ _ rfl)]; exact e
theorem Kp.lst {H:Hp} {a:Addr} {xs:List V} (o:HO) (h:H a=some (.lst xs)):Kp H (upd H a o):=Kp.put o h (fun _ z=>by cases z) (fun _ _ z=>by cases z) (fun _ _ _ _ z=>by cases z)
structure Kt (H H':Hp):Prop where
 t:∀ b xs,H b=some (.tup xs)→H' b=some (.tup xs)
 z:∀ b o xs,H b=some (.frz o (.tup xs))→H' b=some (.frz o (.tup xs))
theorem Kp.kt {H H':Hp} (k:Kp H H'):Kt H H':=⟨k.t,k.z⟩
theorem Kt.put {H:Hp} {a:Addr} {u:HO} (o:HO) (h:H a=some u) (n1:∀ xs,u≠.tup xs) (n2:∀ o xs,u≠.frz o (.tup xs)):Kt H (upd H a o):=by
 refine ⟨fun b xs e=>?_,fun b o xs e=>?_⟩
 ·rw [Z0j (fun z=>by rw [z,h] at e; cases e; exact n1 _ rfl)]; exact e
 ·rw [Z0j (fun z=>by rw [z,h] at e; cases e; exact n2 _ _ rfl)]; exact e
theorem SqT.kt {K:W.Frag} {H H':Hp} {a:Addr} {xs:List V} (h:SqT K H a xs) (k:Kt H H'):SqT K H' a xs:=by
 rcases h with (h | ⟨o,h⟩) | h
 ·exact .inl (.inl (k.t _ _ h))
 ·exact .inl (.inr ⟨o,k.z _ _ _ h⟩)
 ·exact .inr h
theorem SqT.kp {K:W.Frag} {H H':Hp} {a:Addr} {xs:List V} (h:SqT K H a xs) (k:Kp H H'):SqT K H' a xs:=SqT.kt h k.kt
mutual
inductive RT (K:W.Frag) (H:Hp):V→PyData→Prop
 | non:RT K H .non .none
 | bl (b:Bool):RT K H (.bl b) (.bool b)
 | int (i:Int):RT K H (.int i) (.int i)
 | str (x:Str):RT K H (.str x) (.str x)
 | tup {a:Addr} {xs:List V} {ds:List PyData}:SqT K H a xs→RTs K H xs ds→RT K H (.ref a) (.tuple ds)
inductive RTs (K:W.Frag) (H:Hp):List V→List PyData→Prop
 | nil:RTs K H [] []
 | cons {v:V} {vs:List V} {d:PyData} {ds:List PyData}:RT K H v d→RTs K H vs ds→RTs K H (v::vs) (d::ds)
end
section
variable {K:W.Frag} {H H':Hp}
mutual
theorem RT.rd:∀ {v:V} {d:PyData},RT K H v d→RdD K H v d
 | _,_,.non=>.non
 | _,_,.bl b=>.bl b
 | _,_,.int i=>.int i
 | _,_,.str x=>.str x
 | _,_,.tup hq hs=>.tup hq (RTs.rd hs)
theorem RTs.rd:∀ {vs:List V} {ds:List PyData},RTs K H vs ds→RdDs K H vs ds
 | _,_,.nil=>.nil
 | _,_,.cons h hs=>.cons (RT.rd h) (RTs.rd hs)
end
mutual
theorem RT.kt (k:Kt H H'):∀ {v:V} {d:PyData},RT K H v d→RT K H' v d
 | _,_,.non=>.non
 | _,_,.bl b=>.bl b
 | _,_,.int i=>.int i
 | _,_,.str x=>.str x
 | _,_,.tup hq hs=>.tup (SqT.kt hq k) (RTs.kt k hs)
theorem RTs.kt (k:Kt H H'):∀ {vs:List V} {ds:List PyData},RTs K H vs ds→RTs K H' vs ds
 | _,_,.nil=>.nil
 | _,_,.cons h hs=>.cons (RT.kt k h) (RTs.kt k hs)
end
theorem RT.kp {v:V} {d:PyData} (k:Kp H H') (h:RT K H v d):RT K H' v d:=h.kt k.kt
theorem RTs.kp {vs:List V} {ds:List PyData} (k:Kp H H') (h:RTs K H vs ds):RTs K H' vs ds:=h.kt k.kt
theorem RT.same {v:V} {d:PyData} (h:RT K H v d) (s:Same H H'):RT K H' v d:=h.kp (Kp.of s)
theorem RTs.same {vs:List V} {ds:List PyData} (h:RTs K H vs ds) (s:Same H H'):RTs K H' vs ds:=h.kp (Kp.of s)
theorem RT.str_inv {v:V} {x:Str} (h:RT K H v (.str x)):v=.str x:=by cases h; rfl
theorem RT.tup_inv {v:V} {ds:List PyData} (h:RT K H v (.tuple ds)):∃ a xs,v=.ref a∧SqT K H a xs∧RTs K H xs ds:=by
 cases h with
 | tup a b=>exact ⟨_,_,rfl,a,b⟩
theorem RTs.inv {vs:List V} {d:PyData} {ds:List PyData} (h:RTs K H vs (d::ds)):∃ v r,vs=v::r∧RT K H v d∧RTs K H r ds:=by
 cases h with
 | cons a b=>exact ⟨_,_,rfl,a,b⟩
theorem RTs.nil_inv {vs:List V} (h:RTs K H vs []):vs=[]:=by cases h; rfl
theorem RTs.length:∀ {vs:List V} {ds:List PyData},RTs K H vs ds→vs.length=ds.length
 | _,_,.nil=>rfl
 | _,_,.cons _ hs=>congrArg (·+1) (RTs.length hs)
theorem RTs.app:∀ {xs ys:List V} {ds es:List PyData},RTs K H xs ds→RTs K H ys es→RTs K H (xs++ys) (ds++es)
 | _,_,_,_,.nil,h=>h
 | _,_,_,_,.cons a b,h=>.cons a (RTs.app b h)
theorem RTs.at:∀ {vs:List V} {ds:List PyData} {i:Nat} {v:V},RTs K H vs ds→vs[i]?=some v→∃ d,ds[i]?=some d∧RT K H v d
 | _,_,0,_,.cons a _,h=>by cases h; exact ⟨_,rfl,a⟩
 | _,_,i+1,_,.cons _ b,h=>by have:=RTs.at (i:=i) b h; exact this
end
noncomputable def lbV:Lb→V
 | .non=>.non | .int i=>.int i | .bl b=>.bl b | .str x=>.str x
theorem J2I {K:W.Frag} {H:Hp}:∀ l:Lb,RT K H (lbV l) l.d
 | .non=>.non | .int i=>.int i | .bl b=>.bl b | .str x=>.str x
theorem J3q {K:W.Frag} {H:Hp} {v:V}:∀ {l:Lb},RT K H v l.d→v=lbV l
 | .non,h=>by cases h; rfl
 | .int i,h=>by cases h; rfl
 | .bl b,h=>by cases h; rfl
 | .str x,h=>by cases h; rfl
theorem Z1w:∀ ts:List Tm,(dats ts).length=ts.length
 | []=>rfl
 | _::ts=>congrArg (·+1) (Z1w ts)
theorem Z3Y:∀ xs ys:List Tm,dats (xs++ys)=dats xs++dats ys
 | [],_=>rfl
 | x::xs,ys=>congrArg (x.dat::·) (Z3Y xs ys)
theorem J0O:∀ {ts:List Tm} {i:Nat} {d:PyData},(dats ts)[i]?=some d→∃ t,ts[i]?=some t∧d=t.dat
 | t::ts,0,d,h=>by cases h; exact ⟨t,rfl,rfl⟩
 | t::ts,i+1,d,h=>by have:=J0O (ts:=ts) (i:=i) h; exact this
noncomputable def fsT (f:Fm) (l:Lb) (inn sh:Addr) (d m:Nat):List (Str×V):=[("form",.str f.s),("label",lbV l),("inner",.ref inn),("deep",.int d),("many",.int m),("shape",.ref sh)]
mutual
inductive TO (K:W.Frag) (C:Addr) (H:Hp):V→Tm→Prop
 | mk {a dx inn sh:Addr} {f:Fm} {l:Lb} {ps:List Tm} {vs ws:List V}:H a=some (.ins C dx (fsT f l inn sh (1+maxD ps) (1+sumS ps)))→SqT K H inn vs→TOs K C H vs ps→SqT K H sh ws→RTs K H ws (Z1B f l (dats ps))→TO K C H (.ref a) (.mk f l ps)
inductive TOs (K:W.Frag) (C:Addr) (H:Hp):List V→List Tm→Prop
 | nil:TOs K C H [] []
 | cons {v:V} {vs:List V} {t:Tm} {ts:List Tm}:TO K C H v t→TOs K C H vs ts→TOs K C H (v::vs) (t::ts)
end
section
variable {K:W.Frag} {C:Addr} {H H':Hp}
mutual
theorem TO.kp (k:Kp H H'):∀ {v:V} {t:Tm},TO K C H v t→TO K C H' v t
 | _,_,.mk a b c d e=>.mk (k.i _ _ _ _ _ a) (SqT.kp b k) (TOs.kp k c) (SqT.kp d k) (e.kp k)
theorem TOs.kp (k:Kp H H'):∀ {vs:List V} {ts:List Tm},TOs K C H vs ts→TOs K C H' vs ts
 | _,_,.nil=>.nil
 | _,_,.cons h hs=>.cons (TO.kp k h) (TOs.kp k hs)
end
theorem TO.inv {v:V} {t:Tm} (h:TO K C H v t):∃ a dx inn sh vs ws,v=.ref a∧H a=some (.ins C dx (fsT t.f t.l inn sh t.depth t.size))∧SqT K H inn vs∧TOs K C H vs t.ps∧SqT K H sh ws∧RTs K H ws (Z1B t.f t.l (dats t.ps)):=by
 cases h with
 | mk a b c d e=>exact ⟨_,_,_,_,_,_,rfl,a,b,c,d,e⟩
theorem TOs.length:∀ {vs:List V} {ts:List Tm},TOs K C H vs ts→vs.length=ts.length
 | _,_,.nil=>rfl
 | _,_,.cons _ hs=>congrArg (·+1) (TOs.length hs)
theorem TOs.app:∀ {xs ys:List V} {ts us:List Tm},TOs K C H xs ts→TOs K C H ys us→TOs K C H (xs++ys) (ts++us)
 | _,_,_,_,.nil,h=>h
 | _,_,_,_,.cons a b,h=>.cons a (TOs.app b h)
theorem TOs.split:∀ {ts us:List Tm} {vs:List V},TOs K C H vs (ts++us)→∃ xs ys,vs=xs++ys∧TOs K C H xs ts∧TOs K C H ys us
 | [],us,vs,h=>⟨[],vs,rfl,.nil,h⟩
 | t::ts,us,_,.cons a b=>by
  obtain ⟨xs,ys,rfl,h1,h2⟩:=TOs.split b
  exact ⟨_::xs,ys,rfl,.cons a h1,h2⟩
theorem TOs.at:∀ {vs:List V} {ts:List Tm} {i:Nat} {v:V},TOs K C H vs ts→vs[i]?=some v→∃ t,ts[i]?=some t∧TO K C H v t
 | _,_,0,_,.cons a _,h=>by cases h; exact ⟨_,rfl,a⟩
 | _,_,i+1,_,.cons _ b,h=>by have:=TOs.at (i:=i) b h; exact this
end
def SX (x:Addr) (H H':Hp):Prop:=∀ b o,b≠x→H b=some o→H' b=some o
theorem SX.of {x:Addr} {H H':Hp} (s:Same H H'):SX x H H':=fun b o _ h=>s b o h
theorem SX.trans {x:Addr} {H H' H'':Hp} (a:SX x H H') (b:SX x H' H''):SX x H H'':=fun c o n h=>b c o n (a c o n h)
theorem SX.put {x:Addr} {H:Hp} (o:HO):SX x H (upd H x o):=fun b u n h=>by rw [Z0j n]; exact h
theorem SX.kp {x C dx:Addr} {H H':Hp} (s:SX x H H') (hx:H x=some (.ins C dx [])):Kp H H':=
 ⟨fun b xs h=>s b _ (fun z=>by rw [z,hx] at h; cases h) h,fun b o xs h=>s b _ (fun z=>by rw [z,hx] at h; cases h) h,fun b C dx f fs h=>s b _ (fun z=>by rw [z,hx] at h; cases h) h⟩
theorem SX.sqL {K:W.Frag} {x C dx a:Addr} {fs:List (Str×V)} {xs:List V} {H H':Hp} (s:SX x H H') (hx:H x=some (.ins C dx fs)) (h:SqL K H a xs):SqL K H' a xs:=by
 rcases h with (h | ⟨o,h⟩) | h
 ·exact .inl (.inl (s _ _ (fun z=>by rw [z,hx] at h; cases h) h))
 ·exact .inl (.inr ⟨o,s _ _ (fun z=>by rw [z,hx] at h; cases h) h⟩)
 ·exact .inr h
theorem SX.sqT {K:W.Frag} {x C dx a:Addr} {fs:List (Str×V)} {xs:List V} {H H':Hp} (s:SX x H H') (hx:H x=some (.ins C dx fs)) (h:SqT K H a xs):SqT K H' a xs:=by
 rcases h with (h | ⟨o,h⟩) | h
 ·exact .inl (.inl (s _ _ (fun z=>by rw [z,hx] at h; cases h) h))
 ·exact .inl (.inr ⟨o,s _ _ (fun z=>by rw [z,hx] at h; cases h) h⟩)
 ·exact .inr h
theorem J0j:∀ {ts:List Tm} {t:Tm},t∈ts→t.depth≤maxD ts
 | u::ts,t,h=>by
  show t.depth≤max u.depth (maxD ts)
  rcases (List.mem_cons.mp h) with rfl | h
  ·exact Nat.le_max_left _ _
  ·exact Nat.le_trans (J0j h) (Nat.le_max_right _ _)
theorem J0d {n:Nat}:∀ {ts:List Tm},(∀ t∈ts,t.depth≤n)→maxD ts≤n
 | [],_=>Nat.zero_le _
 | t::ts,h=>Nat.max_le.mpr ⟨h t List.mem_cons_self,J0d fun u hu=>h u (List.mem_cons_of_mem _ hu)⟩
end TM
end
section
namespace L2
open PySem
structure Z7B (P:Program) (w:World) (A:Around) (it Z:Addr) (n:Nat) (St:Nat→Array Value→Shared→Prop) (Fin:Array Value→Shared→Prop):Prop where
 item:∀ (i:Nat) (acc:Array Value) (s:Shared) (Q:Option Value→Shared→Prop) (E:Value→Shared→Prop),i < n→St i acc s→(∀ v s',St (i+1) (acc.push v) s'→(∀ o,s.heap.get? Z=some o→s'.heap.get? Z=some o)→Q (some v) s')→wpAny (model P w) A (pyNext (.ref it)) Q E s
 done:∀ (acc:Array Value) (s:Shared) (Q:Option Value→Shared→Prop) (E:Value→Shared→Prop),St n acc s→(∀ s',Fin acc s'→(∀ o,s.heap.get? Z=some o→s'.heap.get? Z=some o)→Q none s')→wpAny (model P w) A (pyNext (.ref it)) Q E s
 size:∀ i acc s,St i acc s→acc.size=i
 frame:∀ i acc s h',St i acc s→(∀ b o,b≠Z→s.heap.get? b=some o→h'.get? b=some o)→h'.objs.size=s.heap.objs.size→St i acc { s with heap:=h' }
section
variable {P:Program} {w:World} {B:Around} {E:Value→Shared→Prop} {s:Shared} {it Z:Addr} {n:Nat} {St:Nat→Array Value→Shared→Prop} {Fin:Array Value→Shared→Prop} {R:Result→Shared→Prop}
theorem J1O (W:Z7B P w B.in1 it Z n St Fin) (hn:n≤sizeLine) (res:Value):∀ (k i:Nat) (s:Shared) (acc:Array Value) (c:Nat),n - i=k→i≤n→St i acc s→s.heap.get? Z=some { cls:=.type "list",dict:=none,data:=.seq acc c,slots:=#[] } →
  (∀ s' acc' c',Fin acc' s'→s'.heap.get? Z=some { cls:=.type "list",dict:=none,data:=.seq acc' c',slots:=#[] }→acc'.size=n→R (.ok (.ret res)) s')→codeAny (model P w) B (.builtin "list.extend.loop" ⟨[.ref Z,.ref it,res],[]⟩) R s:=by
 intro k
 induction k with
 | zero=>
  intro i s acc c hk hi st g q
  have ei:i=n:=Nat.le_antisymm hi (Nat.sub_eq_zero_iff_le.mp hk)
  subst ei
  refine codeAny_builtin F.entry_extend_loop ?_; rw [Around.under_plainId F.plain_extend_loop ⟨[.ref Z,.ref it,res],[]⟩]
  show wpAny (model P w) B.in1 (pyNext (.ref it) >>= _) _ _ s; refine wpAny_bind (W.done acc s _ _ st fun s' f kz=>wpAny_pure ?_)
  exact q s' acc c f (kz _ g) (W.size _ _ _ st)
 | succ k ih=>
  intro i s acc c hk hi st g q
  have lt:i < n:=by omega
  refine codeAny_builtin F.entry_extend_loop ?_; rw [Around.under_plainId F.plain_extend_loop ⟨[.ref Z,.ref it,res],[]⟩]
  show wpAny (model P w) B.in1 (pyNext (.ref it) >>= _) _ _ s; refine wpAny_bind (W.item i acc s _ _ lt st fun v s1 st1 kz=>?_)
  have g1:=kz _ g
  have ez:=W.size _ _ _ st
  show wpAny (model P w) B.in1 (updateSeq Z (·.push v) >>= _) _ _ _; refine wpAny_bind ?_
  refine wpAny_updateSeq g1 rfl (wpAny_pure ⟨plainId_quiet F.plain_extend_loop ⟨[.ref Z,.ref it,res],[]⟩,ih (i+1) _ (acc.push v) _ (by omega) lt (W.frame _ _ _ _ st1 (fun b o hb e=>?_) (by simp [Heap.update])) (Heap.get?_update_self _ g1 rfl) q⟩) (by rw [ez]; omega) (by show (acc.push v).size≤sizeLine+1; rw [Array.size_push,ez]; omega)
  exact (Heap.get?_update_other _ _ (Ne.symm hb)).trans e
def J6i (P:Program) (w:World) (it:Addr) (St:Shared→Prop):Prop:=∀ (A:Around) (s:Shared) (Q:Bool→Shared→Prop) (E:Value→Shared→Prop),St s→(∀ b,Q b s)→wpAny (model P w) A (Builtin.List.listLengthHint (.ref it)) Q E s
theorem Z9U {T:String} {Q:Value→Shared→Prop} (hT:∀ s,St 0 #[] s→s.TypeIs (.ref it) T) (h1:(Value.type T == Value.type "list")=false) (h2:(Value.type T == Value.type "tuple")=false) (hZI:s.heap.objs.size≠it)
  (W:Z7B P w B.in1.in1 it s.heap.objs.size n St Fin) (hs:∀ (A:Around) (s:Shared) (Q:Value→Shared→Prop) (E:Value→Shared→Prop),St 0 #[] s→Q (.ref it) s→wpAny (model P w) A (pyIter (.ref it)) Q E s) (hh:J6i P w it (St 0 #[]))
  (st:St 0 #[] { s with heap:=s.heap.push { cls:=.type "list",data:=.seq #[] } })
  (hQ:∀ s' acc c,Fin acc s'→s'.heap.get? s.heap.objs.size=some { cls:=.type "list",dict:=none,data:=.seq acc c,slots:=#[] }→acc.size=n→Q (.ref s.heap.objs.size) s')
  (hn:n≤sizeLine):wpAny (model P w) B (call (.type "list") [.ref it]) Q E s:=by
 refine callType_codes (Q₁:=fun o s1=>o=.ref s.heap.objs.size∧s1={ s with heap:=s.heap.push { cls:=.type "list",data:=.seq #[] } }) F.called_list (F.typeCall_list_1 _) F.entry_list_init (code_list_new _ ⟨rfl,rfl⟩) fun o s1 e=>?_
 obtain ⟨rfl,rfl⟩:=e
 have g1:({ s with heap:=s.heap.push { cls:=.type "list",data:=.seq #[] } }:Shared).heap.get? s.heap.objs.size=some { cls:=.type "list",data:=.seq #[] }:=Heap.get?_push_size _ rfl
 generalize ({ s with heap:=s.heap.push { cls:=.type "list",data:=.seq #[] } }:Shared)=s1 at *
 generalize s.heap.objs.size=Z at *
 refine ⟨⟨_,g1,rfl⟩,F.args_list_init_2 _ _,?_⟩
 have key:∀ (h:Heap) (c:Nat),(∀ b o,b≠Z→s1.heap.get? b=some o→h.get? b=some o)→h.objs.size=s1.heap.objs.size→h.get? Z=some { cls:=.type "list",data:=.seq #[] c }→codeAny (model P w) B.in1 (.builtin "list.extend.loop" ⟨[.ref Z,.ref it,.none],[]⟩) (wants (fun r s2=>r=.none∧Q (.ref Z) s2) E) { s1 with heap:=h }:=by
  intro h c k kz g
  exact J1O W hn .none n 0 _ #[] c rfl (Nat.zero_le _) (W.frame _ _ _ _ st k kz) g fun s2 acc c2 f g2 ha=>⟨rfl,hQ s2 acc c2 f g2 ha⟩
 show wpAny (model P w) B.in1.in1 (do let old ← Builtin.List.listItems (.ref Z); Builtin.List.listUpdate (.ref Z) (fun _=>#[]); letGo old.toList.reverse; Builtin.List.listExtendWith (.ref Z) (.ref it) .none) _ _ s1; refine wpAny_bind ?_
 unfold Builtin.List.listItems; refine wpAny_bind (wpAny_seqItems g1 rfl (wpAny_pure ?_))
 show wpAny (model P w) B.in1.in1 (updateSeq Z (fun _=>#[]) >>= fun _=>letGo (#[]:Array Value).toList.reverse >>= fun _=>Builtin.List.listExtendWith (.ref Z) (.ref it) .none) _ _ s1
 refine wpAny_bind (wpAny_updateSeq g1 rfl (wpAny_bind (wpAny_letGo ?_)))
 have g2:=Heap.get?_update_self (Obj.mapSeq (fun _=>(#[]:Array Value))) g1 rfl
 have k2:∀ b o,b≠Z→s1.heap.get? b=some o→(s1.heap.update Z (Obj.mapSeq (fun _=>(#[]:Array Value)))).get? b=some o:=fun b o hb e=>(Heap.get?_update_other _ _ (Ne.symm hb)).trans e
 have z2:(s1.heap.update Z (Obj.mapSeq (fun _=>(#[]:Array Value)))).objs.size=s1.heap.objs.size:=by simp [Heap.update]
 generalize s1.heap.update Z (Obj.mapSeq (fun _=>(#[]:Array Value)))=h2 at *
 have f2:St 0 #[] { s1 with heap:=h2 }:=W.frame _ _ _ _ st k2 z2
 unfold Builtin.List.listExtendWith; refine wpAny_bind (wpAny_typeOf (hT _ f2) ?_)
 rw [show Builtin.List.listSameRef (.ref Z) (.ref it)=false by simp [Builtin.List.listSameRef,hZI],h1,‹(Value.type T == Value.type "tuple")=false›]
 refine wpAny_bind (hs _ _ _ _ f2 ?_)
 refine wpAny_bind (wpAny_holding (hh _ _ _ _ f2 fun b=>?_))
 refine wpAny_ite_split (fun _=>?_) (fun _=>wpAny_pure ⟨plainId_quiet F.plain_extend_loop ⟨[.ref Z,.ref it,.none],[]⟩,key h2 _ k2 z2 g2⟩)
 refine wpAny_bind (wpAny_rule (wpAny_bind ?_))
 show wpAny (model P w) B.in1.in1 (updateSeq Z (·.push .none) >>= fun _=>updateSeq Z (·.pop)) _ _ _; refine wpAny_bind (wpAny_updateSeq g2 rfl ?_)
 have g3:=Heap.get?_update_self (Obj.mapSeq (·.push Value.none)) g2 rfl
 refine wpAny_updateSeq (hz:=by seq_fits) g3 rfl ?_
 have g4:=Heap.get?_update_self (Obj.mapSeq (·.pop)) g3 rfl
 refine wpAny_pure ⟨plainId_quiet F.plain_extend_loop ⟨[.ref Z,.ref it,.none],[]⟩,key _ _ (fun b o hb e=>?_) (by simpa [Heap.update] using z2) g4⟩
 exact (Heap.get?_update_other _ _ (Ne.symm hb)).trans ((Heap.get?_update_other _ _ (Ne.symm hb)).trans (k2 b o hb e))
end
end L2
end
section
namespace L2
open PySem PySem.Spec PyProof.Rows
theorem Z9n:typeLookup (.type "list_reverseiterator") "__len__"=pure none:=by rw [typeLookup_type,builtinLookup_eq_fast]; kernel_rfl
theorem J2P:typeLookup (.type "list_reverseiterator") "__length_hint__"=pure (some (.builtin "list_reverseiterator.__length_hint__")):=by rw [typeLookup_type,builtinLookup_eq_fast]; kernel_rfl
theorem J2Q {P:Program} {w:World} {it:Addr} {St:Shared→Prop} (hT:∀ s,St s→s.TypeIs (.ref it) "list_reverseiterator"):J6i P w it St:=by
 intro A s Q E st q
 unfold Builtin.List.listLengthHint; refine wpAny_bind (wpAny_specialOf (hT s st) Z9n ?_)
 show wpAny (model P w) A (specialOf (Value.ref it) (Str.ofString "__length_hint__") >>= _) _ _ _
 refine wpAny_bind (wpAny_specialOf (hT s st) J2P ?_)
 generalize hi0:("list_reverseiterator.__length_hint__":String)=id0
 wp_delta
 rw [show splitId id0=some ("list_reverseiterator","__length_hint__") from by subst hi0; decide +kernel]
 subst hi0
 refine wpAny_bind (wpAny_isInstance (T:="list_reverseiterator") (b:=true) (hT s st) (by rw [isSubtype_type]; kernel_rfl) ?_)
 refine wpAny_ite_split (fun z=>absurd z (by decide)) (fun _=>?_)
 refine wpAny_ite_split (fun _=>?_) (fun z=>absurd rfl z)
 exact wpAny_ite_split (fun z=>absurd z (by decide +kernel)) (fun _=>wpAny_pure (q _))
def Itv (K:W.Frag) (l:Addr) (n:Nat):It:=
 ⟨fun i H=>i < n∧∃ xs,SqL K H l xs∧xs.length=n,fun i H v H'=>H'=H∧∀ xs,SqL K H l xs→xs[n - 1 - i]?=some v,fun i _=>i=n⟩
theorem J2B {P:Program} {w:World} {K:W.Frag} {tg:Expr} (l it:Addr) (n:Nat):Turn P w K tg (Itv K l n) [it] it (fun i h=>h.IsRevIter it l ((n:Int) - 1 - (i:Int))) where
 mem:=by simp
 obj:=fun i h st b hb=>by
  cases List.mem_singleton.mp hb
  obtain ⟨o,e,c,d⟩:=st
  exact ⟨o,e,fun v z=>by rw [d] at z; cases z⟩
 keep:=fun i h h' st k=>st.at fun o e=>k it (List.mem_singleton.mpr rfl) o e
 item:=by
  intro X hP hw hK hc i pins s σ H E I hf st hg
  subst hP hw hK
  obtain ⟨hi,xs,hq,hn⟩:=hg
  obtain ⟨its,rv,p,hz⟩:=I.list hq
  have hx:xs[n - 1 - i]?=some (xs[n - 1 - i]'(by omega)):=List.getElem?_eq_getElem (by omega)
  obtain ⟨u,hu,ru⟩:=rv.get hx
  obtain ⟨f0,f1,f2,f3,f4,f5⟩:=hf it (List.mem_singleton.mpr rfl)
  have e0:(n:Int) - 1 - (i:Int)=((n - 1 - i:Nat):Int):=by omega
  have e2:((n - 1 - i:Nat):Int) - 1=(n:Int) - 1 - ((i+1:Nat):Int):=by omega
  have st0:=st
  rw [e0] at st0
  refine wpAny_pyNext_rev_item st0 p.isList (x:=u) (by simpa using hu) fun h' st' sb=>?_
  have I1:Inv X pins σ H { s with heap:=h' }:=I.turned (t':=s.toks) (fun b o hb e=>(sb.2 b hb).trans e) f0 f1 f3 f4 f5
  rw [e2] at st'
  obtain ⟨o,e,c,d⟩:=id st'
  exact ⟨u,rfl,J2X (s:={ s with heap:=h' }) e c d (by decide) ⟨_,H,I1,ru,⟨rfl,fun ys hy=>by rw [I.list_inj hy hq]; exact hx⟩,st',fun b hb=>(hf b hb).1⟩⟩
 done:=by
  intro X hP hw hK hc i pins s σ H E I hf st hg
  subst hP hw hK
  cases (show i=n from hg)
  obtain ⟨f0,f1,f2,f3,f4,f5⟩:=hf it (List.mem_singleton.mpr rfl)
  have st0:=st
  rw [show (n:Int) - 1 - (n:Int)=-1 by omega] at st0
  exact wpAny_pyNext_rev_end (I.ok.hd hc) st0 fun h' eb=>⟨rfl,I.turned (t':=s.toks) (fun b o hb e=>eb b o hb e) f0 f1 f3 f4 f5⟩
 self:=fun _ _ _ _ _ st h=>wpAny_pyIter_revIter st h
section
variable {X:Cx} {tg:Expr}
def iRev (K:W.Frag) (ta:TA):TI:=fun σ H R=>ta σ H fun vs H1=>∃ a xs,vs=[.ref a]∧SqL K H1 a xs∧R (Itv K a xs.length) H1
theorem J8o {K:W.Frag} {ta:TA} {σ:St} {H:Hp} {R:It→Hp→Prop}:iRev K ta σ H R=ta σ H fun vs H1=>∃ a xs,vs=[.ref a]∧SqL K H1 a xs∧R (Itv K a xs.length) H1:=rfl
theorem J5y {a:Expr} {ta:TA} {p pos:Pos} (hg:Gl X "reversed") (hm:X.mg "reversed"=none) (hb:bootBuiltins "reversed"=some (.type "reversed")) (ha:PA X [a] ta) (hs:starEach [a] X.env=[(false,eval a X.env)]:=by rfl) :
  PI X tg (.Call (.Name "reversed" p) [a] [] pos) (iRev X.K ta):=by
 intro pins s σ H R I h
 refine Call_ (Z3o I hg hm hb (PyProof.Rows.callWith_type1 (thn (ha pos pins s σ H _ I h) fun us s1 ⟨vs,H1,I1,r1,q1⟩=>?_) hs rfl))
 obtain ⟨l,xs,e,hq,q⟩:=q1
 subst e
 obtain ⟨u,rfl,ru⟩:=r1.one
 cases ru
 obtain ⟨its,rv,pl,hz⟩:=I1.list hq
 have hl:=rv.length
 refine call_reversed_list pl.isList (wpAny_pyIter_revIter (it:=s1.heap.objs.size) (l:=l) (i:=(its.toArray.size:Int) - 1) ⟨_,Heap.get?_push_size _ rfl,rfl,rfl⟩ ?_)
 refine ⟨s1.heap.objs.size,[s1.heap.objs.size],_,_,H1,rfl,I1.kept (t':=s1.toks) fun b o e=>Heap.get?_push_of_some _ e,J2B l _ xs.length,?_,fun b hb=>?_,q⟩
 ·rw [show (xs.length:Int) - 1 - ((0:Nat):Int)=(its.toArray.size:Int) - 1 by rw [List.size_toArray]; omega]
  exact ⟨_,Heap.get?_push_size _ rfl,rfl,rfl⟩
 ·cases List.mem_singleton.mp hb
  exact I1.fpOk (Nat.le_refl _) (I1.hok.fresh (Nat.le_refl _))
def J6F (K:W.Frag) (ta:TA):TE:=fun σ H Q=>ta σ H fun vs H1=>∃ a xs,vs=[.ref a]∧SqL K H1 a xs∧∀ l,H1 l=none→Q (.ref l) (upd H1 l (.lst xs.reverse))
theorem J7f {K:W.Frag} {ta:TA} {σ:St} {H:Hp} {Q:VK}:J6F K ta σ H Q=ta σ H fun vs H1=>∃ a xs,vs=[.ref a]∧SqL K H1 a xs∧∀ l,H1 l=none→Q (.ref l) (upd H1 l (.lst xs.reverse)):=rfl
theorem J0o {P:Program} {w:World} {A:Around} (hh:A.handled=none) {it Z l:Addr} {its:List Value} (s1:Shared) (hl:s1.heap.IsList l its.toArray) (hi:s1.heap.objs.size≤it) (hZ:s1.heap.objs.size≤Z) (hZi:Z≠it) :
  Z7B P w A it Z its.length (fun i acc s'=>∃ h' tk,s'={ s1 with heap:=h',toks:=tk }∧h'.IsRevIter it l ((its.length:Int) - 1 - (i:Int))∧(∀ b o,s1.heap.get? b=some o→h'.get? b=some o)∧acc.toList=its.reverse.take i∧i≤its.length)
   (fun acc s'=>∃ h' tk,s'={ s1 with heap:=h',toks:=tk }∧(∀ b o,s1.heap.get? b=some o→h'.get? b=some o)∧acc.toList=its.reverse) where
 item:=by
  rintro i acc s Q E hi' ⟨h',tk,rfl,st,k,ea,_⟩ q
  have e0:(its.length:Int) - 1 - (i:Int)=((its.length - 1 - i:Nat):Int):=by omega
  have e2:((its.length - 1 - i:Nat):Int) - 1=(its.length:Int) - 1 - ((i+1:Nat):Int):=by omega
  rw [e0] at st
  have hx:its.toArray[its.length - 1 - i]?=some (its[its.length - 1 - i]'(by omega)):=by simp
  refine wpAny_pyNext_rev_item st (hl.at fun o e=>k _ o e) hx fun h2 st2 sb=>q _ _ ⟨h2,tk,rfl,by rw [← e2]; exact st2,fun b o e=>(sb.2 b fun z=>?_).trans (k b o e),?_,hi'⟩ fun o e=>(sb.2 Z hZi).trans e
  ·exact absurd (Heap.lt_size e) (by rw [z]; exact Nat.not_lt.mpr hi)
  ·rw [Array.toList_push,ea,List.take_succ,List.getElem?_reverse hi',List.getElem?_eq_getElem (by omega)]
   rfl
 done:=by
  rintro acc s Q E ⟨h',tk,rfl,st,k,ea,_⟩ q
  rw [show (its.length:Int) - 1 - (its.length:Int)=-1 by omega] at st
  refine wpAny_pyNext_rev_end hh st fun h2 eb=>q _ ⟨h2,tk,rfl,fun b o e=>eb b o (fun z=>?_) (k b o e),?_⟩ fun o e=>eb Z o hZi e
  ·exact absurd (Heap.lt_size e) (by rw [z]; exact Nat.not_lt.mpr hi)
  ·rw [ea,List.take_of_length_le (by rw [List.length_reverse]; exact Nat.le_refl _)]
 size:=by
  rintro i acc s ⟨h',tk,rfl,st,k,ea,hi'⟩
  rw [← Array.length_toList,ea,List.length_take,List.length_reverse]; exact Nat.min_eq_left hi'
 frame:=by
  rintro i acc s h2 ⟨h',tk,rfl,st,k,ea,hi'⟩ kz _
  exact ⟨h2,tk,rfl,st.at fun o e=>kz it o (Ne.symm hZi) e,fun b o e=>kz b o (fun z=>absurd (Heap.lt_size e) (by rw [z]; exact Nat.not_lt.mpr hZ)) (k b o e),ea,hi'⟩
theorem J0M {x1:Expr} {ta:TA} {p p2 pos pos2:Pos} (hc:X.calm=true) (hg:Gl X "list") (hg2:Gl X "reversed") (hm:X.mg "list"=none) (hm2:X.mg "reversed"=none) (ha:PA X [x1] ta)
  (hs:starEach [x1] X.env=[(false,eval x1 X.env)]:=by rfl) (hs2:starEach [.Call (.Name "reversed" p2) [x1] [] pos2] X.env=[(false,eval (.Call (.Name "reversed" p2) [x1] [] pos2) X.env)]:=by rfl) :
  PE X (.Call (.Name "list" p) [.Call (.Name "reversed" p2) [x1] [] pos2] [] pos) (J6F X.K ta):=by
 intro pins s σ H Q I h
 refine Call_ (Z3o I hg hm rfl (PyProof.Rows.callWith_type1 ?_ hs2 rfl))
 rw [hs2]
 show wpAny (model X.prog X.w) X.A (spliced ((false,eval (.Call (.Name "reversed" p2) [x1] [] pos2) X.env)::backTo pos [])) _ _ s; refine Calls.spliced_cons ?_
 refine Call_ (Z3o I hg2 hm2 rfl (PyProof.Rows.callWith_type1 (thn (ha pos2 pins s σ H _ I h) fun us s1 hz=>?_) hs rfl))
 obtain ⟨vs,H1,I1,r1,l,xs,rfl,hq,q⟩:=hz
 obtain ⟨u,rfl,ru⟩:=r1.one
 cases ru
 obtain ⟨its,rv,pl,hz⟩:=I1.list hq
 have hl:=rv.length
 obtain ⟨ol,gl,_⟩:=id pl.isList
 refine call_reversed_list pl.isList (Calls.spliced_nil ?_)
 have ez:(s1.heap.push (revObj l ((its.toArray.size:Int) - 1))).objs.size=s1.heap.objs.size+1:=Heap.size_push ..
 have g0:∀ o,((s1.heap.push (revObj l ((its.toArray.size:Int) - 1))).push o).IsRevIter s1.heap.objs.size l ((its.length:Int) - 1 - ((0:Nat):Int)):=fun o=>by
  rw [show (its.length:Int) - 1 - ((0:Nat):Int)=(its.toArray.size:Int) - 1 by rw [List.size_toArray]; omega]
  exact ⟨_,Heap.get?_push_of_some _ (Heap.get?_push_size _ rfl),rfl,rfl⟩
 refine Z9U (n:=its.length) (T:="list_reverseiterator") (fun s' z=>?_) (by decide) (by decide) (by rw [ez]; exact Nat.succ_ne_self _)
  (J0o (show X.A.in1.in1.handled=none from I1.ok.hd hc) (it:=s1.heap.objs.size) (l:=l) s1 pl.isList (Nat.le_refl _) (by rw [ez]; exact Nat.le_succ _) (by rw [ez]; exact Nat.succ_ne_self _)) (fun A s' Q' E' z hq'=>?_) (J2Q fun s' z=>?_)
  ⟨_,_,rfl,g0 _,fun b o e=>Heap.get?_push_of_some _ (Heap.get?_push_of_some _ e),rfl,Nat.zero_le _⟩ (fun s' acc c fin g sz=>?_) (by rw [← hl]; exact hz)
 ·obtain ⟨h',tk,rfl,st,_⟩:=z
  exact st.typeIs
 ·obtain ⟨h',tk,rfl,st,_⟩:=z
  exact wpAny_pyIter_revIter st hq'
 ·obtain ⟨h',tk,rfl,st,_⟩:=z
  exact st.typeIs
 ·obtain ⟨h',tk,rfl,k,ea⟩:=fin
  have eacc:acc=its.reverse.toArray:=by rw [← ea]
  subst eacc
  refine ⟨.ref _,upd H1 _ (.lst xs.reverse),I1.laid (t':=tk) k (by rw [ez]; exact Nat.le_succ _) (show ObjOk X.prog X.w _ h' _ (.lst xs.reverse) from ⟨by rw [List.length_reverse]; exact hz,its.reverse,c,rv.reverse,g⟩),rfl,q _ (I1.hok.fresh (by rw [ez]; exact Nat.le_succ _))⟩
end
end L2
end
section
namespace L2
open PySem PySem.Spec PyProof.Rows
abbrev ZipH (h:Heap) (z T TI TO:Addr) (f1:Bool):Prop:=h.get? z=some { cls:=.type "zip",dict:=none,data:=.fields #[rawInt T,.bool f1,.bool false,.ref TI,.ref TO],slots:=#[] }
section
variable {P:Program} {w:World} {A:Around} {E:Value→Shared→Prop} {s:Shared}
theorem Z7m {a:Addr} {Q:Option Obj→Shared→Prop} (h:Q (s.heap.get? a) s):wpAny (model P w) A (loadIfAlive a) Q E s:=by
 intro Γ p hc
 show Sem.wp _ Γ (Sem.loadIfAlive a _) _ _ p s
 rw [Sem.wp_loadIfAlive]
 exact h
theorem Z8P {z T TI TO:Addr} {f1:Bool} {o:Obj} {a b:Value} (hz:ZipH s.heap z T TI TO f1) (hT:s.heap.get? T=some o) (hTI:IsPair s.heap TI a b) (hTIz:TI≠z) {Q:Fin→Shared→Prop}
  (h:∀ h',ZipH h' z T TI TO true→Heap.SameBut z s.heap h'→wpAny (model P w) A (Builtin.SmallTypes.nextOf a) (fun x s1=>wpAny (model P w) A (Builtin.SmallTypes.nextOf b) (fun y s2=>wpAny (model P w) A (newTuple [x,y]) (fun r s3=>Q (.done (.ret r)) s3) E s2) E s1) E { s with heap:=h' }) :
  wpAny (model P w) A (Builtin.«zip.__next__» ⟨[.ref z],[]⟩) Q E s:=by
 show wpAny (model P w) A (field (.ref z) 2 >>= _) _ _ _; refine wpAny_bind (wpAny_field hz rfl (x:=.bool false) rfl ?_)
 show wpAny (model P w) A (field (.ref z) 3 >>= _) _ _ _; refine wpAny_bind (wpAny_field hz rfl (x:=.ref TI) rfl (wpAny_bind (wpAny_seqItems hTI rfl ?_)))
 show wpAny (model P w) A (Builtin.SmallTypes.ownedTupleIsFree (.ref z) >>= _) _ _ _; refine wpAny_bind ?_
 unfold Builtin.SmallTypes.ownedTupleIsFree; refine wpAny_bind (wpAny_field hz rfl (x:=rawInt T) rfl ?_)
 show wpAny (model P w) A (loadIfAlive ((T:Int).toNat) >>= _) _ _ _; refine wpAny_bind (Z7m ?_)
 rw [Int.toNat_natCast,hT]
 rw [if_neg (show ¬ ((some o).isNone=true) from Bool.false_ne_true)]
 refine wpAny_bind (wpAny_field hz rfl (x:=.bool f1) rfl ?_)
 have hz0:=hz
 cases f1 with
 | true=>
  refine wpAny_pure ?_
  rw [if_neg Bool.false_ne_true]; simp only [List.forIn_toArray,List.forIn_cons,List.forIn_nil]
  refine wpAny_bind (wpAny_bind (wpAny_bind (wpAny_holding ?_)))
  show wpAny (model P w) A (Builtin.SmallTypes.nextOf a >>= fun v=>pure (some v)) _ _ _; refine wpAny_bind (wpAny_mono (h s.heap hz ⟨rfl,fun _ _=>rfl⟩) (fun x s1 h1=>wpAny_pure (wpAny_pure ?_)) fun _ _ e=>e)
  refine wpAny_bind (wpAny_bind (wpAny_holding ?_))
  show wpAny (model P w) A (Builtin.SmallTypes.nextOf b >>= fun v=>pure (some v)) _ _ _; refine wpAny_bind (wpAny_mono h1 (fun y s2 h2=>wpAny_pure (wpAny_pure (wpAny_pure ?_))) fun _ _ e=>e)
  exact wpAny_bind (wpAny_mono h2 (fun r s3 h3=>wpAny_pure h3) fun _ _ e=>e)
 | false=>
  refine wpAny_bind (wpAny_setField_rec hz (by simp) fun h' hz' hs'=>wpAny_pure ?_)
  rw [if_neg Bool.false_ne_true]; simp only [List.forIn_toArray,List.forIn_cons,List.forIn_nil]
  refine wpAny_bind (wpAny_bind (wpAny_bind (wpAny_holding ?_)))
  show wpAny (model P w) A (Builtin.SmallTypes.nextOf a >>= fun v=>pure (some v)) _ _ _; refine wpAny_bind (wpAny_mono (h h' hz' hs') (fun x s1 h1=>wpAny_pure (wpAny_pure ?_)) fun _ _ e=>e)
  refine wpAny_bind (wpAny_bind (wpAny_holding ?_))
  show wpAny (model P w) A (Builtin.SmallTypes.nextOf b >>= fun v=>pure (some v)) _ _ _; refine wpAny_bind (wpAny_mono h1 (fun y s2 h2=>wpAny_pure (wpAny_pure (wpAny_pure ?_))) fun _ _ e=>e)
  exact wpAny_bind (wpAny_mono h2 (fun r s3 h3=>wpAny_pure h3) fun _ _ e=>e)
end
theorem Inv.grow {X:Cx} {pins:List (Addr×Obj)} {σ:St} {H H':Hp} {s:Shared} {h':Heap} {t':Nat} {ch:List Addr} (I:Inv X pins σ H s) (hch:∀ b∈ch,FpOk X pins H b) (k:∀ b o,b∉ch→s.heap.get? b=some o→h'.get? b=some o)
  (old:∀ b o,H b=some o→H' b=some o) (new:∀ b o,H b=none→H' b=some o→(s.heap.objs.size≤b∨b∈ch)∧ObjOk X.prog X.w H' h' b o):Inv X pins σ H' { s with heap:=h',toks:=t' }:=by
 have off:∀ b o,H b=some o→b∉ch:=fun b o e z=>Z0i e (hch b z).1 rfl
 refine I.step (g':=s.gens) (d':=s.drawn) (ch:=ch) (fun b hb=>?_) (fun b o _ _ hb e _=>k b o hb e) (fun b o _ _ hb e _=>⟨o.slots,k b o hb e⟩) (fun b o hb e n=>?_) (fun b o hb e=>⟨o,k b o hb e⟩) (fun b ys e=>old b _ e) (fun b o ys e=>old b _ e)
  (fun b ps e=>⟨#[],by rw [old b _ e]; simp⟩) (fun m hm=>hm.at' fun o q=>k _ o (fun z=>(hch _ z).2.1 rfl) q) (fun b o q=>?_) I.bare
 ·obtain ⟨f0,f1,f2,f3,f4,f5⟩:=hch b hb
  exact ⟨f3,f1,f4,f5⟩
 ·cases e':H' b with
  | none=>rfl
  | some o'=>
   rcases (new b o' n e').1 with z | z
   ·exact absurd (Heap.lt_size e) (Nat.not_lt.mpr z)
   ·exact absurd z hb
 ·cases e:H b with
  | none=>exact (new b o e q).2
  | some o'=>
   have:=old b o' e
   rw [q] at this
   cases this
   refine (I.hok b o e).stay (fun c v hc r=>?_) (fun c r=>old c _ r) fun c ys r=>old c _ r
   have hc':∃ o',H c=some o':=by
    rcases hc with z | z
    ·exact ⟨o,by rw [z]; exact e⟩
    ·exact ⟨_,z⟩
   obtain ⟨o',hc'⟩:=hc'
   exact k c v (off c o' hc') r
theorem FpOk.to {X:Cx} {pins:List (Addr×Obj)} {H H':Hp} {b:Addr} (f:FpOk X pins H b) (e:H' b=none):FpOk X pins H' b:=⟨e,f.2⟩
theorem apart {n a b:Nat} (h:a≠b):n+a≠n+b:=fun e=>h (Nat.add_left_cancel e)
theorem Z2g {n a:Nat} (h:0 < a):n≠n+a:=Nat.ne_of_lt (Nat.lt_add_of_pos_right h)
theorem Z3s {l n a:Nat} (h:l < n):l≠n+a:=Nat.ne_of_lt (Nat.lt_of_lt_of_le h (Nat.le_add_right _ _))
theorem zap {n l1 l2:Nat} (h1:l1 < n) (h2:l2 < n):ZipApart (n+4) (n+2) (n+3) n (n+1) l1 l2:=
 ⟨apart (by decide),apart (by decide),Z2g (by decide),apart (by decide),apart (by decide),(Z2g (by decide)).symm,apart (by decide),(Z2g (by decide)).symm,apart (by decide),Z2g (by decide),Z3s h1,Z3s h1,Nat.ne_of_lt h1,Z3s h1,Z3s h2,Z3s h2,Nat.ne_of_lt h2,Z3s h2⟩
section
variable {X:Cx} {pins:List (Addr×Obj)} {σ:St} {H1:Hp} {s1:Shared} {l1 l2:Addr} {xs ys:List V}
def ZSt (X:Cx) (pins:List (Addr×Obj)) (σ:St) (H1:Hp) (s1:Shared) (l1 l2:Addr) (xs ys:List V) (i:Nat) (acc:Array Value) (s':Shared):Prop:=∃ (h':Heap) (tk:Nat) (Hi:Hp),s'={ s1 with heap:=h',toks:=tk }∧Inv X pins σ Hi { s1 with heap:=h',toks:=tk }∧Same H1 Hi∧s1.heap.objs.size+6≤h'.objs.size ∧
 (∀ a,a < 6→Hi (s1.heap.objs.size+a)=none)∧((i=0∧IsZip h' (s1.heap.objs.size+4) (s1.heap.objs.size+2) (s1.heap.objs.size+3) .none)∨∃ T f1 o,ZipH h' (s1.heap.objs.size+4) T (s1.heap.objs.size+2) (s1.heap.objs.size+3) f1∧h'.get? T=some o∧s1.heap.objs.size+6≤T) ∧
 IsPair h' (s1.heap.objs.size+2) (.ref s1.heap.objs.size) (.ref (s1.heap.objs.size+1))∧(∃ a b,IsPair h' (s1.heap.objs.size+3) a b)∧h'.IsListIter s1.heap.objs.size l1 i∧h'.IsListIter (s1.heap.objs.size+1) l2 i∧acc.size=i ∧
 ∀ (k:Nat) v,acc[k]?=some v→∃ T x y,v=.ref T∧xs[k]?=some x∧ys[k]?=some y∧Hi T=some (.tup [x,y])
def ZFin (X:Cx) (pins:List (Addr×Obj)) (σ:St) (H1:Hp) (s1:Shared) (xs ys:List V) (acc:Array Value) (s':Shared):Prop:=∃ (h':Heap) (tk:Nat) (Hi:Hp),s'={ s1 with heap:=h',toks:=tk }∧Inv X pins σ Hi { s1 with heap:=h',toks:=tk }∧Same H1 Hi ∧
 (∀ a,a < 6→Hi (s1.heap.objs.size+a)=none)∧∀ (k:Nat) v,acc[k]?=some v→∃ T x y,v=.ref T∧xs[k]?=some x∧ys[k]?=some y∧Hi T=some (.tup [x,y])
theorem Z7W (I1:Inv X pins σ H1 s1) {i:Nat} {acc:Array Value} {h' h2:Heap} {tk:Nat} {Hi:Hp} {x y:V} {ux uy:Value} {f1:Bool} (I:Inv X pins σ Hi { s1 with heap:=h',toks:=tk }) (sm:Same H1 Hi) (hsz:s1.heap.objs.size+6≤h'.objs.size) (nn:∀ a,a < 6→Hi (s1.heap.objs.size+a)=none)
  (ti:IsPair h' (s1.heap.objs.size+2) (.ref s1.heap.objs.size) (.ref (s1.heap.objs.size+1))) (ez:acc.size=i) (ha:∀ (k:Nat) v,acc[k]?=some v→∃ T x y,v=.ref T∧xs[k]?=some x∧ys[k]?=some y∧Hi T=some (.tup [x,y]))
  (hx:xs[i]?=some x) (hy:ys[i]?=some y) (rx:RelV x ux) (ry:RelV y uy) {T0:Addr} {o0:Obj} (hz:ZipH h2 (s1.heap.objs.size+4) T0 (s1.heap.objs.size+2) (s1.heap.objs.size+3) f1) (hT0:h2.get? T0=some o0) (hT06:s1.heap.objs.size+6≤T0) (to:∃ a b,IsPair h2 (s1.heap.objs.size+3) a b)
  (j1:h2.IsListIter s1.heap.objs.size l1 (i+1)) (j2:h2.IsListIter (s1.heap.objs.size+1) l2 (i+1)) (hp:IsPair h2 h'.objs.size ux uy) (hs2:h2.objs.size=h'.objs.size+1)
  (kk:∀ c o,c≠s1.heap.objs.size+4→c≠s1.heap.objs.size+3→c≠s1.heap.objs.size→c≠s1.heap.objs.size+1→h'.get? c=some o→h2.get? c=some o) :
  ZSt X pins σ H1 s1 l1 l2 xs ys (i+1) (acc.push (.ref h'.objs.size)) { s1 with heap:=h2,toks:=tk }:=by
 have fr:Hi h'.objs.size=none:=I.hok.fresh (Nat.le_refl _)
 have gt:∀ a,a < 6→s1.heap.objs.size+a≠h'.objs.size:=fun a h=>Nat.ne_of_lt (Nat.lt_of_lt_of_le (Nat.add_lt_add_left h _) hsz)
 have fp:∀ a,a < 6→FpOk X pins Hi (s1.heap.objs.size+a):=fun a h=>(I1.fpOk (Nat.le_add_right _ _) (I1.hok.fresh (Nat.le_add_right _ _))).to (nn a h)
 refine ⟨h2,tk,upd Hi h'.objs.size (.tup [x,y]),rfl,?_,fun b o e=>?_,by rw [hs2]; exact Nat.le_succ_of_le hsz,fun a h=>by rw [Z0j (gt a h)]; exact nn a h,.inr ⟨T0,f1,o0,hz,hT0,hT06⟩,kk _ _ (apart (by decide)) (apart (by decide)) (Z2g (by decide)).symm (apart (by decide)) ti,to,j1,j2,by rw [Array.size_push,ez],fun k v hk=>?_⟩
 ·refine Inv.grow (s:={ s1 with heap:=h',toks:=tk }) (t':=tk) (ch:=[s1.heap.objs.size+4,s1.heap.objs.size+3,s1.heap.objs.size+0,s1.heap.objs.size+1]) I (fun b hb=>?_) (fun b o hb e=>?_) (fun b o e=>?_) (fun b o n e=>?_)
  ·simp only [List.mem_cons,List.not_mem_nil,or_false] at hb; rcases hb with rfl | rfl | rfl | rfl
   ·exact fp 4 (by decide)
   ·exact fp 3 (by decide)
   ·exact fp 0 (by decide)
   ·exact fp 1 (by decide)
  ·simp only [List.mem_cons,List.not_mem_nil,or_false,not_or] at hb
   exact kk b o hb.1 hb.2.1 hb.2.2.1 hb.2.2.2 e
  ·rw [Z0j (Z0i e fr)]; exact e
  ·by_cases eb:b=h'.objs.size
   ·subst eb
    rw [Z0e] at e
    cases e
    exact ⟨.inl (Nat.le_refl _),⟨by show 2≤sizeLine; decide,fun o q=>by rw [hp] at q; cases q; rfl⟩,[ux,uy],.cons rx (.cons ry .nil),⟨_,hp,rfl,_,rfl⟩⟩
   ·rw [Z0j eb,n] at e; cases e
 ·rw [Z0j (Z0i (sm _ _ e) fr)]; exact sm _ _ e
 ·rw [Array.getElem?_push] at hk
  by_cases e:k=acc.size
  ·rw [if_pos e] at hk
   cases hk
   rw [e,ez]
   exact ⟨_,x,y,rfl,hx,hy,Z0e⟩
  ·rw [if_neg e] at hk
   obtain ⟨T,x',y',a,b,c,d⟩:=ha k v hk
   exact ⟨T,x',y',a,b,c,by rw [Z0j (Z0i d fr)]; exact d⟩
theorem J1F {A:Around} (hh:A.handled=none) (I1:Inv X pins σ H1 s1) (q1:SqL X.K H1 l1 xs) (q2:SqL X.K H1 l2 ys) (lt1:l1 < s1.heap.objs.size) (lt2:l2 < s1.heap.objs.size) :
  Z7B X.prog X.w A (s1.heap.objs.size+4) (s1.heap.objs.size+5) (min xs.length ys.length) (ZSt X pins σ H1 s1 l1 l2 xs ys) (ZFin X pins σ H1 s1 xs ys) where
 size:=by
  rintro i acc s ⟨h',tk,Hi,rfl,_,_,_,_,_,_,_,_,_,ez,_⟩
  exact ez
 frame:=by
  rintro i acc s h2 ⟨h',tk,Hi,rfl,I,sm,sz,nn,zp,ti,⟨ta,tb,to⟩,j1,j2,ez,ha⟩ kz es
  have fp:=(I1.fpOk (b:=s1.heap.objs.size+5) (Nat.le_add_right _ _) (I1.hok.fresh (Nat.le_add_right _ _))).to (nn 5 (by decide))
  obtain ⟨f0,f1,f2,f3,f4,f5⟩:=fp
  refine ⟨h2,tk,Hi,rfl,I.turned (t':=tk) kz f0 f1 f3 f4 f5,sm,by rw [es]; exact sz,nn,?_,kz _ _ (apart (by decide)) ti,⟨ta,tb,kz _ _ (apart (by decide)) to⟩,j1.at fun o e=>kz _ o (Z2g (by decide)) e,j2.at fun o e=>kz _ o (apart (by decide)) e,ez,ha⟩
  rcases zp with ⟨a,b⟩ | ⟨T,f,o,a,b,c⟩
  ·exact .inl ⟨a,kz _ _ (apart (by decide)) b⟩
  ·exact .inr ⟨T,f,o,kz _ _ (apart (by decide)) a,kz _ _ (fun z=>absurd c (by rw [z]; exact Nat.not_le.mpr (Nat.add_lt_add_left (by decide) _))) b,c⟩
 item:=by
  rintro i acc s Q E hi ⟨h',tk,Hi,rfl,I,sm,sz,nn,zp,ti,⟨ta,tb,to⟩,j1,j2,ez,ha⟩ q
  have hi1:i < xs.length:=Nat.lt_of_lt_of_le hi (Nat.min_le_left _ _)
  have hi2:i < ys.length:=Nat.lt_of_lt_of_le hi (Nat.min_le_right _ _)
  obtain ⟨its1,rv1,pl1,_⟩:=I.list (sm.seq q1)
  obtain ⟨its2,rv2,pl2,_⟩:=I.list (sm.seq q2)
  have hx:=List.getElem?_eq_getElem hi1
  have hy:=List.getElem?_eq_getElem hi2
  obtain ⟨ux,gx,rx⟩:=rv1.get hx
  obtain ⟨uy,gy,ry⟩:=rv2.get hy
  have gx':its1.toArray[i]?=some ux:=by simpa using gx
  have gy':its2.toArray[i]?=some uy:=by simpa using gy
  have D:=zap lt1 lt2
  rcases zp with ⟨_,hz⟩ | ⟨T,f,o,hz,hT,hT6⟩
  ·refine wpAny_pyNext_zip_item D hz ti to j1 j2 pl1.isList pl2.isList gx' gy' fun h2 hz2 to2 k1 k2 hp es kk=>q _ _ (Z7W I1 I sm sz nn ti ez ha hx hy rx ry hz2 hp sz ⟨_,_,to2⟩ k1 k2 hp es kk) fun o e=>kk _ o (apart (by decide)) (apart (by decide)) (Z2g (by decide)).symm (apart (by decide)) e
  ·have ty:({ s1 with heap:=h',toks:=tk }:Shared).TypeIs (.ref (s1.heap.objs.size+4)) "zip":=⟨_,hz,rfl⟩
   unfold pyNext
   refine wpAny_bind (wpAny_attempt (wpAny_callSpecial?_slot (name:=Str.ofString "__next__") ty PySem.F.slot_zip_next (wpAny_call_entry PySem.F.slot_zip_next ty PySem.F.entry_zip_next (Z8P hz hT ti (apart (by decide)) fun h2 hz2 sb2=>?_) (PySem.F.args_zip_next_1 _))))
   refine wpAny_nextOf_list_item (j1.extBut sb2.extBut (Z2g (by decide))) (pl1.isList.extBut sb2.extBut (Z3s lt1)) gx' fun h3 k1 sb3=>?_
   refine wpAny_nextOf_list_item ((j2.extBut sb2.extBut (apart (by decide))).extBut sb3.extBut (Z2g (by decide)).symm) ((pl2.isList.extBut sb2.extBut (Z3s lt2)).extBut sb3.extBut (Nat.ne_of_lt lt2)) gy' fun h4 k2 sb4=>?_
   refine wpAny_newTuple ?_
   have e4:h4.objs.size=h'.objs.size:=by rw [sb4.1,sb3.1,sb2.1]
   have kk:∀ c o,c≠s1.heap.objs.size+4→c≠s1.heap.objs.size+3→c≠s1.heap.objs.size→c≠s1.heap.objs.size+1→h'.get? c=some o→(h4.push { cls:=.type "tuple",data:=.seq [ux,uy].toArray }).get? c=some o:=fun c o a1 a2 a3 a4 e=>Heap.get?_push_of_some _ (sb4.extBut _ _ a4 (sb3.extBut _ _ a3 (sb2.extBut _ _ a1 e)))
   have up:∀ c o,c≠s1.heap.objs.size→c≠s1.heap.objs.size+1→h2.get? c=some o→(h4.push { cls:=.type "tuple",data:=.seq [ux,uy].toArray }).get? c=some o:=fun c o a3 a4 e=>Heap.get?_push_of_some _ (sb4.extBut _ _ a4 (sb3.extBut _ _ a3 e))
   have ge6:∀ {a:Nat},a < 6→T≠s1.heap.objs.size+a:=fun {a} h z=>absurd hT6 (by rw [z]; exact Nat.not_le.mpr (Nat.add_lt_add_left h _))
   have hp:IsPair (h4.push { cls:=.type "tuple",data:=.seq [ux,uy].toArray }) h'.objs.size ux uy:=by rw [← e4]; exact Heap.get?_push_size _ rfl
   refine ⟨_,rfl,?_⟩
   refine wpAny_pure ?_
   rw [e4]
   refine q _ _ (Z7W I1 I sm sz nn ti ez ha hx hy rx ry (up _ _ (Z2g (by decide)).symm (apart (by decide)) hz2) (kk T o (ge6 (a:=4) (by decide)) (ge6 (a:=3) (by decide)) (ge6 (a:=0) (by decide)) (ge6 (a:=1) (by decide)) hT) hT6
    ⟨ta,tb,up _ _ (Z2g (by decide)).symm (apart (by decide)) (sb2.extBut _ _ (apart (by decide)) to)⟩ (k1.at fun o e=>Heap.get?_push_of_some _ (sb4.extBut _ _ (Z2g (by decide)) e)) (k2.at fun o e=>Heap.get?_push_of_some _ e) hp (by rw [Heap.size_push,e4]) kk) fun o e=>kk _ o (apart (by decide)) (apart (by decide)) (Z2g (by decide)).symm (apart (by decide)) e
 done:=by
  rintro acc s Q E ⟨h',tk,Hi,rfl,I,sm,sz,nn,zp,ti,⟨ta,tb,to⟩,j1,j2,ez,ha⟩ q
  obtain ⟨its1,rv1,pl1,_⟩:=I.list (sm.seq q1)
  obtain ⟨its2,rv2,pl2,_⟩:=I.list (sm.seq q2)
  have l1':=rv1.length
  have l2':=rv2.length
  have D:=zap lt1 lt2
  have fin:∀ h2,(∀ c o,c≠s1.heap.objs.size+4→c≠s1.heap.objs.size+3→c≠s1.heap.objs.size→c≠s1.heap.objs.size+1→h'.get? c=some o→h2.get? c=some o)→Q none { s1 with heap:=h2,toks:=tk }:=fun h2 kk=>by
   refine q _ ⟨h2,tk,Hi,rfl,Inv.grow (s:={ s1 with heap:=h',toks:=tk }) (t':=tk) (ch:=[s1.heap.objs.size+4,s1.heap.objs.size+3,s1.heap.objs.size+0,s1.heap.objs.size+1]) I (fun b hb=>?_) (fun b o hb e=>?_) (fun b o e=>e) (fun b o n e=>by rw [n] at e; cases e),sm,nn,ha⟩
    fun o e=>kk _ o (apart (by decide)) (apart (by decide)) (Z2g (by decide)).symm (apart (by decide)) e
   ·have fp:∀ a,a < 6→FpOk X pins Hi (s1.heap.objs.size+a):=fun a h=>(I1.fpOk (Nat.le_add_right _ _) (I1.hok.fresh (Nat.le_add_right _ _))).to (nn a h)
    simp only [List.mem_cons,List.not_mem_nil,or_false] at hb; rcases hb with rfl | rfl | rfl | rfl
    ·exact fp 4 (by decide)
    ·exact fp 3 (by decide)
    ·exact fp 0 (by decide)
    ·exact fp 1 (by decide)
   ·simp only [List.mem_cons,List.not_mem_nil,or_false,not_or] at hb
    exact kk b o hb.1 hb.2.1 hb.2.2.1 hb.2.2.2 e
  have hend:its1.toArray[min xs.length ys.length]?=none∨its2.toArray[min xs.length ys.length]?=none:=by
   by_cases e:xs.length≤ys.length
   ·exact .inl (by rw [Nat.min_eq_left e]; simp; omega)
   ·exact .inr (by rw [Nat.min_eq_right (by omega)]; simp; omega)
  rcases zp with ⟨_,hz⟩ | ⟨T,f,o,hz,hT,hT6⟩
  ·exact wpAny_pyNext_zip_end hh D hz ti to j1 j2 pl1.isList pl2.isList hend fin
  ·have ty:({ s1 with heap:=h',toks:=tk }:Shared).TypeIs (.ref (s1.heap.objs.size+4)) "zip":=⟨_,hz,rfl⟩
   unfold pyNext
   refine wpAny_bind (wpAny_attempt (wpAny_callSpecial?_slot (name:=Str.ofString "__next__") ty PySem.F.slot_zip_next (wpAny_call_entry PySem.F.slot_zip_next ty PySem.F.entry_zip_next (Z8P hz hT ti (apart (by decide)) fun h2 hz2 sb2=>?_) (PySem.F.args_zip_next_1 _))))
   cases gx:its1.toArray[min xs.length ys.length]? with
   | none=>
    refine wpAny_nextOf_list_end (show (A.in1).handled=none from hh) (j1.extBut sb2.extBut (Z2g (by decide))) (pl1.isList.extBut sb2.extBut (Z3s lt1)) gx fun h3 e eb he=>?_
    obtain ⟨oe,ho,hc⟩:=he
    refine wpAny_bind (wpAny_isInstance (T:="StopIteration") (b:=true) ⟨oe,ho,hc⟩ isSubtype_stop (wpAny_pure (fin h3 fun c o a1 a2 a3 a4 e=>?_)))
    exact eb _ _ a3 (sb2.extBut _ _ a1 e)
   | some ux=>
    have gy:=hend.resolve_left (by rw [gx]; exact fun z=>by cases z)
    refine wpAny_nextOf_list_item (j1.extBut sb2.extBut (Z2g (by decide))) (pl1.isList.extBut sb2.extBut (Z3s lt1)) gx fun h3 k1 sb3=>?_
    refine wpAny_nextOf_list_end (show (A.in1).handled=none from hh) ((j2.extBut sb2.extBut (apart (by decide))).extBut sb3.extBut (Z2g (by decide)).symm) ((pl2.isList.extBut sb2.extBut (Z3s lt2)).extBut sb3.extBut (Nat.ne_of_lt lt2)) gy fun h4 e eb he=>?_
    obtain ⟨oe,ho,hc⟩:=he
    refine wpAny_bind (wpAny_isInstance (T:="StopIteration") (b:=true) ⟨oe,ho,hc⟩ isSubtype_stop (wpAny_pure (fin h4 fun c o a1 a2 a3 a4 e=>?_)))
    exact eb _ _ a4 (sb3.extBut _ _ a3 (sb2.extBut _ _ a1 e))
def J7F (K:W.Frag) (t:TA):TE:=fun σ H Q=>t σ H fun vs H1=>∃ a b xs ys,vs=[.ref a,.ref b]∧SqL K H1 a xs∧SqL K H1 b ys∧∀ l zs H2,H1 l=none→Same H1 H2→H2 l=some (.lst zs)→zs.length=min xs.length ys.length →
 (∀ (k:Nat) v,zs[k]?=some v→∃ T x y,v=.ref T∧xs[k]?=some x∧ys[k]?=some y∧H2 T=some (.tup [x,y]))→Q (.ref l) H2
theorem J7o {K:W.Frag} {t:TA} {σ:St} {H:Hp} {Q:VK}:J7F K t σ H Q=t σ H fun vs H1=>∃ a b xs ys,vs=[.ref a,.ref b]∧SqL K H1 a xs∧SqL K H1 b ys∧∀ l zs H2,H1 l=none→Same H1 H2→H2 l=some (.lst zs)→zs.length=min xs.length ys.length →
 (∀ (k:Nat) v,zs[k]?=some v→∃ T x y,v=.ref T∧xs[k]?=some x∧ys[k]?=some y∧H2 T=some (.tup [x,y]))→Q (.ref l) H2:=rfl
end
end L2
end
section
namespace L2
open PySem PySem.Spec PyProof.Rows
theorem Z5d (ys:List Int):∀ n,n≤ys.length→preSum (fun i=>ys.getD i 0) n=(ys.take n).sum
 | 0,_=>by simp [preSum]
 | n+1,h=>by
  rw [preSum,Z5d ys n (by omega),List.take_succ_eq_append_getElem (by omega),List.sum_append]
  simp [List.getD_eq_getElem?_getD,List.getElem?_eq_getElem (show n < ys.length by omega)]
theorem Z8v {X:Cx} (hc:X.calm=true):Z4n X (.builtin "sum") (fun xs H Q=>∃ (p:Addr) (ys:List Int),xs=[.ref p]∧SqL X.K H p (ys.map V.int)∧Q (.int ys.sum) H):=by
 intro pins s σ H xs us Q I r h
 obtain ⟨p,ys,rfl,hq,q⟩:=h
 obtain ⟨u,rfl,ru⟩:=r.one
 cases ru
 obtain ⟨its,rv,pl,hz⟩:=I.list hq
 obtain ⟨o,ho,_,_,_⟩:=id pl.isList
 have hne:p≠s.heap.objs.size:=Nat.ne_of_lt (Heap.lt_size ho)
 have hl:=rv.length
 rw [List.length_map] at hl
 refine call_sum_walkG (wpAny_pyIter_list pl.isList ?_)
 refine ⟨s.heap.objs.size,_,_,_,_,_,fun i=>ys.getD i 0,rfl,Walks.list (A:=X.A.in1) (show X.A.in1.handled=none from I.ok.hd hc) _ p hne its.toArray,⟨⟨_,Heap.get?_push_size _ rfl,rfl,rfl⟩,pl.isList.at fun o e=>Heap.get?_push_of_some _ e⟩,fun b hb=>?_,fun i v hv=>?_,fun h' tk t' kk=>?_⟩
 ·have lt:p < s.heap.objs.size:=Heap.lt_size ho
  have e:b=s.heap.objs.size∨b=p:=by simpa using hb
  show b < (s.heap.objs.push _).size
  rw [Array.size_push]
  rcases e with e | e
  ·rw [e]; exact Nat.lt_succ_self _
  ·rw [e]; exact Nat.lt_succ_of_lt lt
 ·have hv':its[i]?=some v:=by simpa using hv
  have hi:i < ys.length:=by
   have:=(List.getElem?_eq_some_iff.mp hv').1
   omega
  obtain ⟨u',e',r'⟩:=rv.get (i:=i) (x:=V.int ys[i]) (by rw [List.getElem?_map,List.getElem?_eq_getElem hi]; rfl)
  rw [hv'] at e'
  cases e'
  obtain ⟨t,rfl⟩:=(show ∃ t,_=Value.int ys[i] t from r')
  exact ⟨t,by simp [List.getD_eq_getElem?_getD,List.getElem?_eq_getElem hi]⟩
 ·have e:preSum (fun i=>ys.getD i 0) its.toArray.size=ys.sum:=by
   rw [List.size_toArray,← hl,Z5d ys _ (Nat.le_refl _),List.take_length]
  refine ⟨.int ys.sum,H,I.kept fun b o e=>kk b o (fun z=>?_) (Heap.get?_push_of_some _ e),by rw [e]; exact ⟨_,rfl⟩,q⟩
  have z':b=s.heap.objs.size:=by simpa using z
  exact absurd (Heap.lt_size e) (by rw [z']; exact Nat.lt_irrefl _)
end L2
end
section
namespace L2
open PySem PySem.Spec PyProof.Rows
section
variable {P:Program} {w:World} {B:Around} {R:Result→Shared→Prop} {it:Addr} {fp wr:List Addr} {n:Nat} {Y:Nat→Value→Prop} {St:Nat→Heap→Prop}
theorem Z4I:(toString "max"++toString ".loop":String)="max.loop":=by decide
theorem J2F (kw:List (Str×Value)) (W:Walks P w B.in1 it fp wr n Y St) (bt:Nat→Nat→Bool) (hc:CmpOf P w B.in1 .Gt Y bt) (Z:Addr) (hZ:Z∉fp) :
  ∀ (k j:Nat) (s:Shared) (u:Value) (c:Nat),n - (j+1)=k→j+1≤n→St (j+1) s.heap→Y (argBest bt j) u→s.heap.get? Z=some { cls:=.type "list",dict:=none,data:=.seq #[u,u] c,slots:=#[] } →
  (∀ v h' tk,Y (argBest bt (n - 1)) v→(∀ b o,b∉wr→b≠Z→s.heap.get? b=some o→h'.get? b=some o)→R (.ok (.ret v)) { s with heap:=h',toks:=tk }) →
  codeAny (model P w) B (.builtin "max.loop" ⟨[.ref it,.none,.ref Z],kw⟩) R s:=by
 have hZw:Z∉wr:=fun z=>hZ (W.sub _ z)
 intro k
 induction k with
 | zero=>
  intro j s u c hk hj st hu gZ q
  have ej:j+1=n:=Nat.le_antisymm hj (Nat.sub_eq_zero_iff_le.mp hk)
  refine codeAny_builtin F.entry_max_loop ?_; rw [Around.under_plainId F.plain_max_loop ⟨[.ref it,.none,.ref Z],kw⟩]
  show wpAny (model P w) B.in1 (seqItems? (.ref Z) >>= _) _ _ s; refine wpAny_bind (wpAny_seqItems gZ rfl ?_)
  show wpAny (model P w) B.in1 (tryCatch (pyNext (.ref it)) _ >>= _) _ _ s; refine wpAny_bind (wpAny_tryCatch (W.done s _ _ (ej▸st) fun h1 tk k1=>?_))
  have gZ1:=k1 Z _ hZw gZ
  show wpAny (model P w) B.in1 (updateSeq Z (fun _=>#[]) >>= _) _ _ _; refine wpAny_bind (wpAny_updateSeq gZ1 rfl (wpAny_bind (wpAny_letGo (wpAny_pure ?_))))
  exact q u _ tk (by rw [← ej]; exact hu) fun b o hb hbZ e=>(Heap.get?_update_other _ _ (Ne.symm hbZ)).trans (k1 b o hb e)
 | succ k ih=>
  intro j s u c hk hj st hu gZ q
  have lt:j+1 < n:=by omega
  refine codeAny_builtin F.entry_max_loop ?_; rw [Around.under_plainId F.plain_max_loop ⟨[.ref it,.none,.ref Z],kw⟩]
  show wpAny (model P w) B.in1 (seqItems? (.ref Z) >>= _) _ _ s; refine wpAny_bind (wpAny_seqItems gZ rfl ?_)
  show wpAny (model P w) B.in1 (tryCatch (pyNext (.ref it)) _ >>= _) _ _ s; refine wpAny_bind (wpAny_tryCatch (W.item (j+1) s _ _ lt st fun v h1 tk hv st1 k1=>?_))
  have gZ1:=k1 Z _ hZw gZ
  show wpAny (model P w) B.in1 (tryCatch (holding [v,v] (richCompare .Gt v u >>= _)) _ >>= _) _ _ _; refine wpAny_bind (wpAny_tryCatch (wpAny_holding (wpAny_bind (hc (j+1) (argBest bt j) v u _ _ _ hv hu ?_))))
  refine wpAny_bind (wpAny_holding (wpAny_truthy_bool (wpAny_bind (wpAny_letGo (wpAny_pure ?_)))))
  cases hbt:bt (j+1) (argBest bt j) with
  | true=>
   rw [if_pos rfl]; refine wpAny_bind (wpAny_updateSeq gZ1 rfl (wpAny_bind (wpAny_letGo ?_)))
   rw [Z4I]; refine wpAny_pure ⟨plainId_quiet F.plain_max_loop ⟨[.ref it,.none,.ref Z],kw⟩,ih (j+1) _ v _ (by omega) lt (W.frame _ _ _ st1 fun b hbf o e=>?_) (by rw [argBest,hbt,if_pos rfl]; exact hv) (Heap.get?_update_self _ gZ1 rfl) fun v' h2 tk2 hv' k2=>?_⟩
   ·exact (Heap.get?_update_other _ _ (fun z:Z=b=>hZ (z▸hbf))).trans e
   ·exact q v' h2 tk2 hv' fun b o hbw hbZ e=>k2 b o hbw hbZ ((Heap.get?_update_other _ _ (Ne.symm hbZ)).trans (k1 b o hbw e))
  | false=>
   rw [if_neg Bool.false_ne_true]; refine wpAny_bind (wpAny_letGo ?_)
   rw [Z4I]; refine wpAny_pure ⟨plainId_quiet F.plain_max_loop ⟨[.ref it,.none,.ref Z],kw⟩,ih (j+1) _ u c (by omega) lt st1 (by rw [argBest,hbt,if_neg Bool.false_ne_true]; exact hu) gZ1 fun v' h2 tk2 hv' k2=>?_⟩
   exact q v' h2 tk2 hv' fun b o hbw hbZ e=>k2 b o hbw hbZ (k1 b o hbw e)
end
theorem J0w (a d:Value):argsOk "max" ⟨[a],[(Str.ofString "default",d)]⟩:=by unfold argsOk; kernel_rfl
section
variable {P:Program} {w:World} {A:Around} {E:Value→Shared→Prop} {s:Shared}
def Z7u (ys:List Int) (m:Int):Prop:=m∈ys∧∀ a∈ys,a≤m
theorem Z8t {ys:List Int} (h:0 < ys.length):Z7u ys (ys.getD (argBest (fun i j=>decide (ys.getD i 0 > ys.getD j 0)) (ys.length - 1)) 0):=by
 obtain ⟨a,b⟩:=argBest_gt (fun i=>ys.getD i 0) (ys.length - 1)
 refine ⟨?_,fun x hx=>?_⟩
 ·have lt:argBest (fun i j=>decide (ys.getD i 0 > ys.getD j 0)) (ys.length - 1) < ys.length:=by omega
  rw [List.getD_eq_getElem?_getD,List.getElem?_eq_getElem lt]
  exact List.getElem_mem lt
 ·obtain ⟨j,hj,e⟩:=List.getElem_of_mem hx
  have:=b j (by omega)
  rw [List.getD_eq_getElem?_getD,List.getElem?_eq_getElem hj] at this
  rw [← e]; exact this
theorem Z6R {l it:Addr} {its:List Value} {ys:List Int} (hh:A.handled=none) (hl:ys.length=its.length) (hv:∀ (i:Nat) (v:Value),its[i]?=some v→∃ t,v=Value.int (ys.getD i 0) t) (hne:l≠it) :
  Walks P w A it [it,l] [it] its.toArray.size (fun i v=>its.toArray[i]?=some v) (fun i h=>h.IsListIter it l i∧h.IsList l its.toArray)∧CmpOf P w A .Gt (fun i v=>its.toArray[i]?=some v) (fun i j=>decide (ys.getD i 0 > ys.getD j 0)):=
 ⟨Walks.list hh it l hne its.toArray,CmpOf.ints_gt (fun i=>ys.getD i 0) fun i v h=>hv i v (by simpa using h)⟩
theorem J2A {l:Addr} {its:List Value} {ys:List Int} {d:Value} {Q:Value→Shared→Prop} (hh:A.handled=none) (pl:s.heap.IsList l its.toArray) (hlen:ys.length=its.length) (hv:∀ (i:Nat) (v:Value),its[i]?=some v→∃ t,v=Value.int (ys.getD i 0) t)
  (q:∀ v h' tk,(ys=[]→v=d)→(ys≠[]→∃ m t,v=.int m t∧Z7u ys m)→(∀ b o,s.heap.get? b=some o→h'.get? b=some o)→Q v { s with heap:=h',toks:=tk }) :
  wpAny (model P w) A (call (.builtin "max") [.ref l] [(Str.ofString "default",d)]) Q E s:=by
 obtain ⟨ol,gl,_⟩:=id pl
 have ll:l < s.heap.objs.size:=Heap.lt_size gl
 refine PyProof.Rows.kmk_tree PySem.F.kind_max PySem.F.plain_max PySem.F.entry_max (J0w _ _) ?_
 show wpAny (model P w) A.in1 (Builtin.Builtins.bindParams "max" ["key","default"] 0 ⟨[],[(Str.ofString "default",d)]⟩ >>= _) _ _ s
 refine wpAny_bind (wpAny_of_eq (show Builtin.Builtins.bindParams "max" ["key","default"] 0 ⟨[],[(Str.ofString "default",d)]⟩=pure [none,some d] from rfl) (wpAny_bind (wpAny_pure ?_)))
 refine wpAny_bind (wpAny_pyIter_list pl (wpAny_bind (wpAny_newObj_type ?_)))
 rw [Z4I]
 have g1:((s.heap.push { cls:=.type "list_iterator",data:=.fields #[.ref l,.int 0 0] }).push { cls:=.type "list",data:=.seq #[] }).IsListIter s.heap.objs.size l 0:=⟨_,Heap.get?_push_of_some _ (Heap.get?_push_size _ rfl),rfl,rfl⟩
 have g2:((s.heap.push { cls:=.type "list_iterator",data:=.fields #[.ref l,.int 0 0] }).push { cls:=.type "list",data:=.seq #[] }).IsList l its.toArray:=pl.at fun o e=>Heap.get?_push_of_some _ (Heap.get?_push_of_some _ e)
 have g3:((s.heap.push { cls:=.type "list_iterator",data:=.fields #[.ref l,.int 0 0] }).push { cls:=.type "list",data:=.seq #[] }).get? (s.heap.objs.size+1)=some { cls:=.type "list",dict:=none,data:=.seq #[] 0,slots:=#[] }:=by
  rw [show s.heap.objs.size+1=(s.heap.push { cls:=.type "list_iterator",data:=.fields #[.ref l,.int 0 0] }).objs.size from (Heap.size_push ..).symm]; exact Heap.get?_push_size _ rfl
 have k3:∀ b o,s.heap.get? b=some o→((s.heap.push { cls:=.type "list_iterator",data:=.fields #[.ref l,.int 0 0] }).push { cls:=.type "list",data:=.seq #[] }).get? b=some o:=fun b o e=>Heap.get?_push_of_some _ (Heap.get?_push_of_some _ e)
 rw [show (s.heap.push { cls:=.type "list_iterator",data:=.fields #[.ref l,.int 0 0] }).objs.size=s.heap.objs.size+1 from Heap.size_push ..]
 generalize (s.heap.push { cls:=.type "list_iterator",data:=.fields #[.ref l,.int 0 0] }).push { cls:=.type "list",data:=.seq #[] }=h3 at *
 refine wpAny_pure ⟨plainId_quiet F.plain_max_loop _,?_⟩
 obtain ⟨W,hc⟩:=Z6R (P:=P) (w:=w) (A:=A.in1) (it:=s.heap.objs.size) (l:=l) (its:=its) (ys:=ys) hh hlen hv (Nat.ne_of_lt ll)
 have hZ:s.heap.objs.size+1∉[s.heap.objs.size,l]:=fun z=>by
  rcases List.mem_cons.mp z with z | z
  ·omega
  ·exact absurd ll (by rw [← List.mem_singleton.mp z]; exact Nat.not_lt.mpr (Nat.le_succ _))
 refine codeAny_builtin F.entry_max_loop ?_; rw [Around.under_plainId F.plain_max_loop _]
 show wpAny (model P w) A.in1 (seqItems? (.ref (s.heap.objs.size+1)) >>= _) _ _ _; refine wpAny_bind (wpAny_seqItems g3 rfl ?_)
 show wpAny (model P w) A.in1 (tryCatch (pyNext (.ref s.heap.objs.size)) _ >>= _) _ _ _
 by_cases hy:ys=[]
 ·have hn:its.toArray.size=0:=by rw [List.size_toArray,← hlen,hy]; rfl
  have st:(fun i (h:Heap)=>h.IsListIter s.heap.objs.size l i∧h.IsList l its.toArray) its.toArray.size h3:=by rw [hn]; exact ⟨g1,g2⟩
  refine wpAny_bind (wpAny_tryCatch (W.done _ _ _ st fun h4 tk k4=>?_))
  refine wpAny_bind (wpAny_rule (wpAny_pure ?_)); exact q d h4 tk (fun _=>rfl) (fun z=>absurd hy z) fun b o e=>k4 b o (fun z=>absurd (Heap.lt_size e) (by rw [List.mem_singleton.mp z]; exact Nat.lt_irrefl _)) (k3 b o e)
 ·have hp:0 < ys.length:=List.length_pos_iff.mpr hy
  have hn:0 < its.toArray.size:=by rw [List.size_toArray,← hlen]; exact hp
  refine wpAny_bind (wpAny_tryCatch (W.item 0 _ _ _ hn ⟨g1,g2⟩ fun v h4 tk hv4 st4 k4=>?_))
  have g4:=k4 _ _ (fun z=>hZ (List.mem_cons.mpr (.inl (List.mem_singleton.mp z)))) g3
  refine wpAny_bind (wpAny_pure (wpAny_bind (wpAny_updateSeq g4 rfl ?_)))
  rw [Z4I]
  refine wpAny_pure ⟨plainId_quiet F.plain_max_loop _,J2F _ W _ hc _ hZ (its.toArray.size - 1) 0 _ v _ rfl hn (W.frame _ _ _ st4 fun b hb o e=>?_) hv4 (Heap.get?_update_self _ g4 rfl) fun u h5 tk5 hu k5=>?_⟩
  ·exact (Heap.get?_update_other _ _ (fun z:s.heap.objs.size+1=b=>hZ (z▸hb))).trans e
  ·obtain ⟨t,rfl⟩:=hv (argBest (fun i j=>decide (ys.getD i 0 > ys.getD j 0)) (its.toArray.size - 1)) _ (by rw [← List.getElem?_toArray]; exact hu)
   refine q _ h5 tk5 (fun z=>absurd z hy) (fun _=>⟨_,t,rfl,?_⟩) fun b o e=>?_
   ·have:=Z8t hp
    rw [List.size_toArray,← hlen]; exact this
   ·have lt:=Heap.lt_size e
    have n1:b∉[s.heap.objs.size]:=fun z=>absurd lt (by rw [List.mem_singleton.mp z]; exact Nat.lt_irrefl _)
    exact k5 b o n1 (Nat.ne_of_lt (Nat.lt_succ_of_lt lt)) ((Heap.get?_update_other _ _ (Nat.ne_of_gt (Nat.lt_succ_of_lt lt))).trans (k4 b o n1 (k3 b o e)))
end
section
variable {X:Cx}
theorem Z8i {its:List Value} {ys:List Int} (rv:Vals (ys.map V.int) its):ys.length=its.length∧∀ (i:Nat) (v:Value),its[i]?=some v→∃ t,v=Value.int (ys.getD i 0) t:=by
 have hl:=rv.length
 rw [List.length_map] at hl
 refine ⟨hl,fun i v h=>?_⟩
 have hi:i < ys.length:=by rw [hl]; exact (List.getElem?_eq_some_iff.mp h).1
 obtain ⟨u,e,r⟩:=rv.get (i:=i) (x:=V.int ys[i]) (by rw [List.getElem?_map,List.getElem?_eq_getElem hi]; rfl)
 rw [h] at e
 cases e
 obtain ⟨t,rfl⟩:=(show ∃ t,_=Value.int ys[i] t from r)
 exact ⟨t,by rw [List.getD_eq_getElem?_getD,List.getElem?_eq_getElem hi]; rfl⟩
def J4W (K:W.Frag):List V→Hp→VK→Prop:=fun xs H Q=>∃ (p:Addr) (ys:List Int),xs=[.ref p]∧SqL K H p (ys.map V.int)∧ys≠[]∧∀ m,Z7u ys m→Q (.int m) H
theorem J0W (hc:X.calm=true):Z4n X (.builtin "max") (J4W X.K):=by
 intro pins s σ H xs us Q I r h
 obtain ⟨p,ys,rfl,hq,hne,q⟩:=h
 obtain ⟨u,rfl,ru⟩:=r.one
 cases ru
 obtain ⟨its,rv,pl,hz⟩:=I.list hq
 obtain ⟨hl,hv⟩:=Z8i rv
 obtain ⟨o,ho,_,_,_⟩:=id pl.isList
 have lt:p < s.heap.objs.size:=Heap.lt_size ho
 have hp:0 < ys.length:=List.length_pos_iff.mpr hne
 refine call_max_walk (wpAny_pyIter_list pl.isList ?_)
 obtain ⟨W,hcm⟩:=Z6R (P:=X.prog) (w:=X.w) (A:=X.A.in1) (it:=s.heap.objs.size) (l:=p) (its:=its) (ys:=ys) (show X.A.in1.handled=none from I.ok.hd hc) hl hv (Nat.ne_of_lt lt)
 refine ⟨s.heap.objs.size,_,_,_,_,_,_,rfl,W,⟨⟨_,Heap.get?_push_size _ rfl,rfl,rfl⟩,pl.isList.at fun o e=>Heap.get?_push_of_some _ e⟩,fun b hb=>?_,by rw [List.size_toArray,← hl]; exact hp,hcm,fun v h' tk hu k=>?_⟩
 ·show b < (s.heap.objs.push _).size
  rw [Array.size_push]
  rcases List.mem_cons.mp hb with e | e
  ·exact e▸Nat.lt_succ_self _
  ·rw [List.mem_singleton.mp e]; exact Nat.lt_succ_of_lt lt
 ·obtain ⟨t,rfl⟩:=hv (argBest (fun i j=>decide (ys.getD i 0 > ys.getD j 0)) (its.toArray.size - 1)) _ (by rw [← List.getElem?_toArray]; exact hu)
  refine ⟨.int _,H,I.kept fun b o e=>k b o (fun z=>?_) (Heap.get?_push_of_some _ e),⟨t,rfl⟩,q _ ?_⟩
  ·exact absurd (Heap.lt_size e) (by rw [List.mem_singleton.mp z]; exact Nat.lt_irrefl _)
  ·rw [List.size_toArray,← hl]; exact Z8t hp
def J5j (K:W.Frag) (t tk:TA):TE:=fun σ H Q=>t σ H fun vs H1=>tk σ H1 fun zs H2=>∃ (p:Addr) (ys:List Int) (d:Int),vs=[.ref p]∧zs=[.int d]∧SqL K H2 p (ys.map V.int)∧∀ m,(ys=[]→m=d)→(ys≠[]→Z7u ys m)→Q (.int m) H2
theorem J6Q {K:W.Frag} {t tk:TA} {σ:St} {H:Hp} {Q:VK}:J5j K t tk σ H Q=t σ H fun vs H1=>tk σ H1 fun zs H2=>∃ (p:Addr) (ys:List Int) (d:Int),vs=[.ref p]∧zs=[.int d]∧SqL K H2 p (ys.map V.int)∧∀ m,(ys=[]→m=d)→(ys≠[]→Z7u ys m)→Q (.int m) H2:=rfl
theorem J7d {K:W.Frag} {xs:List V} {H:Hp} {Q:VK}:J4W K xs H Q=∃ (p:Addr) (ys:List Int),xs=[.ref p]∧SqL K H p (ys.map V.int)∧ys≠[]∧∀ m,Z7u ys m→Q (.int m) H:=rfl
theorem J4D {e x1:Expr} {t tk:TA} {p pos kp:Pos} (hc:X.calm=true) (hg:Gl X "max") (hm:X.mg "max"=none) (hb:bootBuiltins "max"=some (.builtin "max")) (ha:PA X [e] t) (hk:PK X [⟨some "default",x1,kp⟩] tk)
  (he:backTo pos (starEach [e] X.env)=(false,eval e X.env)::backTo pos (starEach [] X.env):=by rfl) (hpl:(backTo pos (starEach [e] X.env)).any (·.1)=false:=by rfl)
  (hn:("max":Str)≠"__name__":=by decide) (hdb:(("max":Str) == ("__debug__":Str))=false:=by decide):PE X (.Call (.Name "max" p) [e] [⟨some "default",x1,kp⟩] pos) (J5j X.K t tk):=by
 intro pins s σ H Q I h
 refine wpAny_Call_Name_kw (Z3o I hg hm hb ?_ hn hdb)
 refine PyProof.Rows.callWith_kw (thn (ha pos pins s σ H _ I h) fun us s1 ⟨vs,H1,I1,r1,q1⟩=>thn (hk pos pins s1 σ H1 _ I1 q1) fun ws s2 hz=>?_) he hpl rfl rfl
 obtain ⟨zs,H2,I2,r2,l,ys,d,rfl,rfl,hq,q⟩:=hz
 obtain ⟨u,rfl,ru⟩:=r1.one
 cases ru
 obtain ⟨z,rfl,rz⟩:=r2.one
 obtain ⟨its,rv,pl,hz⟩:=I2.list hq
 obtain ⟨hl,hv⟩:=Z8i rv
 refine J2A (I2.ok.hd hc) pl.isList hl hv fun v h' tk hd hx k=>?_
 obtain ⟨tz,rfl⟩:=(show ∃ t,z=Value.int d t from rz)
 by_cases hy:ys=[]
 ·cases hd hy
  exact ⟨.int d,H2,I2.kept k,⟨_,rfl⟩,q d (fun _=>rfl) fun z=>absurd hy z⟩
 ·obtain ⟨m,t,rfl,im⟩:=hx hy
  exact ⟨.int m,H2,I2.kept k,⟨_,rfl⟩,q m (fun z=>absurd z hy) fun _=>im⟩
end
end L2
end
section
namespace L2
open PySem PySem.Spec PyProof.Rows PySem.SeqAt
def rNeN (K:W.Frag):R2:=fun x y H Q=>∃ a xs b,x=.ref a∧y=.ref b∧SqL K H a xs∧SqL K H b []∧Q (.bl (!xs.isEmpty)) H
def rEqN (K:W.Frag):R2:=fun x y H Q=>∃ a xs b,x=.ref a∧y=.ref b∧SqL K H a xs∧SqL K H b []∧Q (.bl xs.isEmpty) H
theorem J7G {K:W.Frag} {x y:V} {H:Hp} {Q:VK}:rNeN K x y H Q=∃ a xs b,x=.ref a∧y=.ref b∧SqL K H a xs∧SqL K H b []∧Q (.bl (!xs.isEmpty)) H:=rfl
theorem J8I {K:W.Frag} {x y:V} {H:Hp} {Q:VK}:rEqN K x y H Q=∃ a xs b,x=.ref a∧y=.ref b∧SqL K H a xs∧SqL K H b []∧Q (.bl xs.isEmpty) H:=rfl
section
variable {X:Cx}
theorem J6D (hu:X.A.units+64 < cLine):OpR X (compareOp .NotEq) (rNeN X.K):=by
 intro pins s σ H x y v u Q I rx ry h
 obtain ⟨a,xs,b,rfl,rfl,ha,hb,q⟩:=h
 cases rx
 cases ry
 obtain ⟨its,rv,pl,_⟩:=I.list ha
 obtain ⟨its2,rv2,pl2,_⟩:=I.list hb
 cases rv2.zero
 cases xs with
 | nil=>
  cases rv.zero
  exact RcNeAt.lists (e:=fun _=>true) pl.isList pl2.isList rfl (Nat.lt_of_le_of_lt (Nat.le_add_right _ _) hu) (fun j h=>absurd h (Nat.not_lt_zero _)) X.prog X.w X.xe _ ⟨.bl false,H,I,rfl,q⟩
 | cons x xs=>
  have hl:=rv.length
  refine RcNeAt.lists_lengths pl.isList pl2.isList ?_ (Nat.lt_of_le_of_lt (Nat.le_add_right _ _) hu) X.prog X.w X.xe _ ⟨.bl true,H,I,rfl,q⟩
  rw [List.size_toArray,← hl]; rfl
theorem J6m (hu:X.A.units+64 < cLine):OpR X (compareOp .Eq) (rEqN X.K):=by
 intro pins s σ H x y v u Q I rx ry h
 obtain ⟨a,xs,b,rfl,rfl,ha,hb,q⟩:=h
 cases rx
 cases ry
 obtain ⟨its,rv,pl,_⟩:=I.list ha
 obtain ⟨its2,rv2,pl2,_⟩:=I.list hb
 cases rv2.zero
 cases xs with
 | nil=>
  cases rv.zero
  exact RcAt.lists (e:=fun _=>true) pl.isList pl2.isList rfl (Nat.lt_of_le_of_lt (Nat.le_add_right _ _) hu) (fun j h=>absurd h (Nat.not_lt_zero _)) X.prog X.w X.xe _ ⟨.bl true,H,I,rfl,q⟩
 | cons x xs=>
  have hl:=rv.length
  refine RcAt.lists_lengths pl.isList pl2.isList ?_ (Nat.lt_of_le_of_lt (Nat.le_add_right _ _) hu) X.prog X.w X.xe _ ⟨.bl false,H,I,rfl,q⟩
  rw [List.size_toArray,← hl]; rfl
end
theorem J3m {J:It} {te:TE} {Q:VK} {H0:Hp} {D:Addr} {n:Nat} {σ0:St} (v0:Option V) (rest:St) (Pv:Nat→V→Prop) (W:Nat→List V→Hp→Prop) (e0:σ0=v0::rest) (hz:n≤sizeLine) (h0:W 0 [] (upd H0 D (.lst [])))
  (hgo:∀ i vs H,i < n→W i vs H→J.go i H∧∀ x H2,J.yld i H x H2→H2=H∧Pv i x) (hstop:∀ vs H,W n vs H→J.stop n H)
  (he:∀ i x vs H (K':VK),i < n→Pv i x→W i vs H→H D=some (.lst vs)→(∀ v H2,H2 D=some (.lst vs)→W (i+1) (vs++[v]) (upd H2 D (.lst (vs++[v])))→K' v H2)→te (some x::rest) H K')
  (hQ:∀ vs H,W n vs H→H D=some (.lst vs)→vs.length=n→Q (.ref D) H):Z4p J (Z3M 0) Z3n te D Q σ0 (upd H0 D (.lst [])):=by
 refine ⟨fun i m σ' H'=>m=n - i∧i≤n∧(∃ v,σ'=v::rest)∧∃ vs,H' D=some (.lst vs)∧vs.length=i∧W i vs H',⟨n,by simp,Nat.zero_le _,⟨v0,e0⟩,[],Z0e,rfl,h0⟩,?_⟩
 rintro i m σ' H' ⟨rfl,hi,⟨v,rfl⟩,vs,hv,hl,hw⟩
 by_cases hlt:i < n
 ·obtain ⟨go,yl⟩:=hgo i vs H' hlt hw
  refine .inr ⟨go,fun σ2 H2=>(∃ v,σ2=v::rest)∧∃ vs,H2 D=some (.lst vs)∧vs.length=i+1∧W (i+1) vs H2,fun σ2 H2 ⟨a,b⟩=>⟨n - (i+1),by omega,rfl,hlt,a,b⟩,fun x H2 hx=>?_⟩
  obtain ⟨e1,px⟩:=yl x H2 hx
  subst e1
  unfold Z3M Z3n
  rw [List.set_cons_zero]
  refine iteT (he i x vs _ _ hlt px hw hv fun v H3 h3 hw3=>?_)
  exact ⟨vs,h3,by omega,⟨_,rfl⟩,_,Z0e,by rw [List.length_append,hl]; rfl,hw3⟩
 ·have e:i=n:=by omega
  subst e
  exact .inl ⟨hstop vs H' hw,hQ vs H' hw hv hl⟩
def J8d (K:W.Frag) (te:TE) (tst:TO):TE:=fun σ H Q=>te σ H fun x H1=>tst σ H1 fun o H2=>o=some (-1)∧∃ a xs,x=.ref a∧SqL K H2 a xs∧∀ l,H2 l=none→Q (.ref l) (upd H2 l (.lst xs.reverse))
theorem J7h {K:W.Frag} {te:TE} {tst:TO} {σ:St} {H:Hp} {Q:VK}:J8d K te tst σ H Q=te σ H fun x H1=>tst σ H1 fun o H2=>o=some (-1)∧∃ a xs,x=.ref a∧SqL K H2 a xs∧∀ l,H2 l=none→Q (.ref l) (upd H2 l (.lst xs.reverse)):=rfl
def J3g (K:W.Frag) (ta:TE):TT:=fun σ H Q=>ta σ H fun x H1=>∃ a xs,x=.ref a∧SqL K H1 a xs∧Q (!xs.isEmpty) H1
theorem J6T {K:W.Frag} {ta:TE} {σ:St} {H:Hp} {Q:Bool→Hp→Prop}:J3g K ta σ H Q=ta σ H fun x H1=>∃ a xs,x=.ref a∧SqL K H1 a xs∧Q (!xs.isEmpty) H1:=rfl
theorem J4H {X:Cx} {a:Expr} {ta:TE} (ha:PE X a ta) (he:∀ whole,isTrue a X.env whole=(do let v ← whole; standAt a.pos; holding [v] (truthy v))):PT X a (J3g X.K ta):=by
 intro pins s σ H Q I h
 refine isTrue_plain (thn (ha pins s σ H _ I h) fun v s1 hz=>?_) (he _)
 obtain ⟨x,H1,I1,r1,a,xs,rfl,hq,q⟩:=hz
 exact J5G pins s1 σ H1 _ v Q I1 r1 ⟨_,.inl ⟨xs,hq,rfl⟩,q⟩
theorem J4R {c:TT} {tb:TS} {D:Ends} {σ:St} {H:Hp} (Pv:Nat→St→Hp→Prop) {m0:Nat} (h0:Pv m0 σ H)
  (hs:∀ m σ H,Pv m σ H→c σ H fun b H1=>if b=true then tb { D with nx:=fun σ' H'=>∃ m',m' < m∧Pv m' σ' H',ct:=fun σ' H'=>∃ m',m' < m∧Pv m' σ' H',bk:=D.nx } σ H1 else D.nx σ H1)
  (mono:∀ σ H Q Q',(∀ b H1,Q b H1→Q' b H1)→c σ H Q→c σ H Q'):J3w c tb D σ H:=by
 refine ⟨Pv,⟨m0,h0⟩,fun m σ H p=>mono σ H _ _ (fun b H1 q=>?_) (hs m σ H p)⟩
 cases b with
 | true=>exact ⟨_,fun σ' H' h=>h,q⟩
 | false=>exact q
theorem J1n {o:Option (Option V)} {R R':V→Prop} (i:∀ v,R v→R' v) (h:opt2 o R):opt2 o R':=by
 unfold opt2 at h ⊢
 split at h
 ·exact i _ h
 ·cases h
theorem J1E {K:W.Frag} {i:Nat} (σ:St) (H:Hp) (Q Q':Bool→Hp→Prop) (j:∀ b H1,Q b H1→Q' b H1) (h:J3g K (Z6n i) σ H Q):J3g K (Z6n i) σ H Q':=J1n (fun v ⟨a,xs,e,hq,q⟩=>⟨a,xs,e,hq,j _ _ q⟩) h
end L2
end
section
namespace L2
open PySem PySem.Spec PyProof.Rows
theorem J4J (l:Addr) (xs:Array Value) (n:Nat) (b:Addr) (ys:Array Value) (m:Nat) (dd:Option Addr) (sl:Array (Option Value)) (h0:¬(!xs.isEmpty&&Builtin.List.listTooLong (xs.size+ys.size))=true) (h1:xs.size≤sizeLine) (h2:xs.size+ys.size≤sizeLine+1) :
  Meets (Builtin.«list.extend» ⟨[.ref l,.ref b],[]⟩) (fun _ R s=>s.heap.get? l=some { cls:=.type "list",dict:=none,data:=.seq xs n,slots:=#[] }∧s.heap.get? b=some { cls:=.type "tuple",dict:=dd,data:=.seq ys m,slots:=sl }∧R (.ok (.ret Value.none)) { s with heap:=s.heap.update l (Obj.mapSeq fun x=>x++ys),toks:=s.toks }):=by
 refine .of_wp fun prog w A R s h=>(?_)
 obtain ⟨hp,g,d,tk,os⟩:=s
 obtain ⟨hl,hb,h⟩:=h
 have f2:=AutoSeq1.sub_tuple_tuple; have f3:=AutoSeq1.sub_list_list; have f4:=AutoSeq1.sub_tuple_list; have f5:=AutoSeq1.sub_list_tuple
 have hz':(xs++ys).size≤sizeLine+1:=by rw [Array.size_append]; exact h2
 wp_walk using (wpAny_updateSeq hl rfl (hz:=h1) (_hz':=hz')),wpAny_loadPart' hl,wpAny_loadPart' hb
 exact ⟨_,rfl,h⟩
def Z5F (K:W.Frag):V→List V→Hp→VK→Prop:=fun x vs H Q=>∃ l b xs zs,x=.ref l∧vs=[.ref b]∧H l=some (.lst xs)∧SqT K H b zs∧xs.length+zs.length≤sizeLine∧Q .non (upd H l (.lst (xs++zs)))
theorem J4b {K:W.Frag} {x:V} {vs:List V} {H:Hp} {Q:VK}:Z5F K x vs H Q=∃ l b xs zs,x=.ref l∧vs=[.ref b]∧H l=some (.lst xs)∧SqT K H b zs∧xs.length+zs.length≤sizeLine∧Q .non (upd H l (.lst (xs++zs))):=rfl
theorem Z9C {X:Cx}:MtM X "list.extend" (Z5F X.K):=by
 intro pins s σ H x vs v us Q I rx rv h
 obtain ⟨l,b,xs,zs,rfl,rfl,hH,hB,hz,q⟩:=h
 cases rx
 obtain ⟨u,rfl,ru⟩:=rv.one
 cases ru
 obtain ⟨z,its,n,r,hl,e⟩:=I.lstM hH
 obtain ⟨its2,r2,pl2,z2⟩:=I.tuple hB
 obtain ⟨⟨cl,dd,da,sl⟩,e2,ec,n2,ed⟩:=id pl2
 cases ec
 cases ed
 have hl2:=r2.length
 have hl1:=r.length
 have hsz:its.toArray.size+its2.toArray.size≤sizeLine:=by rw [List.size_toArray,List.size_toArray]; omega
 have hlong:¬ (!its.toArray.isEmpty&&Builtin.List.listTooLong (its.toArray.size+its2.toArray.size))=true:=by
  rw [Z8c hsz,Bool.and_false]; exact Bool.false_ne_true
 refine call_meets F.slot_list_extend ⟨_,e,rfl⟩ F.entry_list_extend (F.args_list_extend_2 _ _) (J4J l its.toArray n b its2.toArray n2 dd sl hlong (by rw [List.size_toArray]; omega) (by omega)) ⟨e,e2,?_⟩
 refine ⟨.non,_,I.lset (its':=its++its2) hH e (by simp) (r.append r2) ?_,rfl,q⟩
 rw [List.length_append]; omega
end L2
end
section
namespace PySem
open Sem (wp)
open Builtin
end PySem
namespace L2
open PySem PySem.Spec PyProof.Rows PySem.SeqAt
open AutoSeq1 (wpAny_loadPart')
section
variable {X:Cx}
def Z9y (K:W.Frag):R2:=fun x y H Q=>∃ a b xs ys,x=.ref a∧y=.ref b∧SqT K H a xs∧SqT K H b ys∧xs.length+ys.length≤sizeLine∧∀ p H',Same H H'→SqT K H' p (xs++ys)→Q (.ref p) H'
theorem J2W {prog:Program} {w:World} {A:Around} {E:Value→Shared→Prop} {s:Shared} {t b:Addr} {ws:List Value} {Q:Value→Shared→Prop} (ht:IsTup s.heap t #[]) (hb:IsTup s.heap b ws.toArray) (h:Q (.ref b) s):wpAny (model prog w) A (binaryOp .Add (.ref t) (.ref b)) Q E s:=by
 obtain ⟨⟨cls,dd,data,sl⟩,ho,hc,n,hd⟩:=id ht
 obtain ⟨⟨cls2,dd2,data2,sl2⟩,ho2,hc2,n2,hd2⟩:=id hb
 simp only at hc hd hc2 hd2
 subst hc hd hc2 hd2
 exact concat_meets ⟨_,ho,rfl⟩ ⟨_,ho2,rfl⟩ noFill_tuple_add seq_tuple_add PySem.F.slot_tuple_add PySem.F.entry_tuple_add (PySem.F.args_tuple_add_2 _ _)
  (tuple_addW0 t b #[] ws.toArray n n2 dd dd2 sl sl2 (by simp)) ⟨ho,ho2,h⟩
theorem Z4M:OpR X (binaryOp .Add) (Z9y X.K):=by
 intro pins s σ H x y v u Q I rx ry h
 obtain ⟨a,b,xs,ys,rfl,rfl,hx,hy,hz,q⟩:=h
 by_cases he:xs=[]
 ·subst he
  obtain rfl:v=Value.ref a:=rx
  obtain rfl:u=Value.ref b:=ry
  obtain ⟨its,r,ht,_⟩:=I.tuple hx
  obtain ⟨its2,r2,ht2,_⟩:=I.tuple hy
  cases r
  exact J2W ht ht2 ⟨.ref b,H,I,rfl,q b H (Same.refl H) (by simpa using hy)⟩
 ·refine J4Z pins s σ H _ _ v u Q I rx ry ⟨a,b,xs,ys,rfl,rfl,hx,hy,he,hz,fun e=>?_,fun e p hp=>?_⟩
  ·subst e
   exact q a H (Same.refl H) (by simpa using hx)
  ·exact q p _ (fun c o hc=>by rw [Z0j (Z0i hc hp)]; exact hc) (SqT.of Z0e)
end
open HT
section
variable {prog:Program} {w:World} {A:Around} {E:Value→Shared→Prop} {s:Shared}
theorem Z3O {t sl:Addr} {items:Array Value} {vl vu:Value} {lo hi:Option Int} {Q:Value→Shared→Prop} (ht:IsTup s.heap t items) (hs:s.heap.IsSliceOf sl vl vu .none) (pl:IsPart vl lo) (pu:IsPart vu hi)
  (hw:sIx items.size 0 lo=0∧sIx items.size items.size hi=items.size) (h:Q (.ref t) s):wpAny (model prog w) A (getItem (.ref t) (.ref sl)) Q E s:=by
 obtain ⟨os,hos,hcs,hds⟩:=id hs
 have hTs:s.TypeIs (.ref sl) "slice":=⟨os,hos,hcs⟩
 unfold getItem
 try with_reducible refine wpAny_holding ?_
 first | refine wpAny_bind (wpAny_pure ?_) | skip
 refine wpAny_bind (wpAny_sequenceKey ht.typeIs (by decide) ?_)
 refine wpAny_bind (wpAny_callSpecial?_slot (name:=Str.ofString "__getitem__") ht.typeIs PyProof.Rows.slot_tuple_getitem
  (wpAny_call_entry PyProof.Rows.slot_tuple_getitem ht.typeIs entry_tuple_getitem ?_ (args_tuple_getitem _ _)))
 show wpAny _ _ (Builtin.Tuple.tupleItemsOf (.ref t) >>= _) _ _ s
 refine wpAny_bind (tupleItemsOf_ ht ?_)
 refine wpAny_bind (wpAny_typeOf hTs ?_)
 rw [if_pos (by decide)]
 refine wpAny_bind (Z3l hs pl pu ?_)
 have hyes:(((sIx items.size 0 lo:Nat):Int) == 0&&(1:Int) == 1&&(sIx items.size items.size hi - sIx items.size 0 lo) == items.size)=true:=by
  rw [hw.1,hw.2]; simp
 show wpAny _ _ (if (((sIx items.size 0 lo:Nat):Int) == 0&&(1:Int) == 1&&(sIx items.size items.size hi - sIx items.size 0 lo) == items.size)=true then _ else _) _ _ s
 rw [if_pos hyes]
 refine wpAny_bind ?_
 show wpAny _ _ ((typeOf (.ref t)) >>= _) _ _ s
 refine wpAny_bind (wpAny_typeOf ht.typeIs (wpAny_pure ?_))
 rw [if_pos (by decide)]
 first
  | exact wpAny_bind (wpAny_rule (wpAny_pure ⟨_,rfl,wpAny_pure h⟩))
  | exact wpAny_bind (wpAny_pure (wpAny_pure ⟨_,rfl,wpAny_pure h⟩))
  | exact wpAny_pure ⟨_,rfl,wpAny_pure h⟩
end
section
variable {X:Cx}
def rSlA (K:W.Frag):V→Option Int→Option Int→Hp→VK→Prop:=fun x lo hi H Q=>∃ a xs,x=.ref a∧SqT K H a xs∧∀ p H',Same H H'→SqT K H' p (cutV xs lo hi)→Q (.ref p) H'
theorem Z4N:SlR X (rSlA X.K):=by
 intro pins s σ H x v vl vu lo hi sl Q I rx hs pl pu h
 obtain ⟨a,xs,rfl,hx,q⟩:=h
 by_cases hw:HT.sIx xs.length 0 lo=0∧HT.sIx xs.length xs.length hi=xs.length
 ·obtain rfl:v=Value.ref a:=rx
  obtain ⟨its,r,ht,hz⟩:=I.tuple hx
  have hlen:its.toArray.size=xs.length:=by rw [List.size_toArray]; exact r.length.symm
  refine ⟨"tuple",_,PyProof.Rows.slot_tuple_getitem.lookup,ht.typeIs,?_⟩
  refine Z3O ht hs pl pu (by rw [hlen]; exact hw) ⟨.ref a,H,I,rfl,q a H (Same.refl H) ?_⟩
  have e:cutV xs lo hi=xs:=by
   unfold cutV
   rw [hw.1,hw.2,List.drop_zero,Nat.sub_zero,List.take_length]
  rw [e]
  exact hx
 ·exact J6p pins s σ H _ v vl vu lo hi sl Q I rx hs pl pu ⟨a,xs,rfl,hx,hw,fun p hp=>q p _ (fun c o hc=>by rw [Z0j (Z0i hc hp)]; exact hc) (SqT.of Z0e)⟩
end
end L2
end
section
namespace L2
open PySem PySem.Spec PyProof.Rows
def Z9P (K:W.Frag):List V→Hp→VK→Prop:=fun xs H Q=>∃ p ys,xs=[V.ref p]∧((SqL K H p ys∧∀ (l:Addr),H l=none→Q (V.ref l) (upd H l (HO.tup ys)))∨(SqT K H p ys∧Q (V.ref p) H))
theorem J5q {K:W.Frag} {xs:List V} {H:Hp} {Q:VK}:Z9P K xs H Q=(∃ p ys,xs=[V.ref p]∧((SqL K H p ys∧∀ (l:Addr),H l=none→Q (V.ref l) (upd H l (HO.tup ys)))∨(SqT K H p ys∧Q (V.ref p) H))):=rfl
end L2
end
section
namespace L2
open PySem PySem.Spec PyProof.Rows
section
variable {X:Cx}
end
end L2
end
section
namespace L2
open PySem PySem.Spec PyProof.Rows
section
variable {X:Cx} {N:List Str} {nl:List (Option Nat)} {scope:Scope} {cl:List (Str×Addr)} {elt tg iter:Expr} {pos pos' spos:Pos} {wi:TI} {g:TG} {tc:TT} {te:TE} {i:Nat} {x:Str}
theorem Z7c {pins:List (Addr×Obj)} {σ:St} {Dd:Ends} (hN:X.N.Nodup) (hi:X.N[i]?=some x) (hk:X.env.scope.names.lookup x=some .local) (D C:Addr) (s' s2:Shared) (fp:List Addr) (σ':St) (H' H2:Hp)
  (I2:Inv X pins σ H2 s2) (f2:∀ b∈fp,FpOk X pins H2 b) (hC:s2.heap.objs.size≤C) (J:Inv (X.block N scope cl C fp s2 H2) [] σ' H' s') (q:Dd.nx (σ.set i (some (.ref D))) H') :
  compPost (model X.prog X.w) X.A X.xe (some (assign (.Name x pos') X.env)) (fun _ s3=>SP X pins Dd .next s3) (.ref D) C (.ok .next) s':=by
 have I3:Inv X pins σ H' s':=Z6H (h2:=s'.heap) I2 f2 hC J fun b o _ e=>e
 have ne:∀ b o,s2.heap.get? b=some o→b≠C:=fun b o e=>Nat.ne_of_lt (Nat.lt_of_lt_of_le (Heap.lt_size e) hC)
 have neL:C≠X.env.locals:=fun z=>by
  obtain ⟨m,⟨o,_,_,ho,_⟩,_⟩:=I2.loc
  exact ne _ o ho z.symm
 obtain ⟨m,hn,_⟩:=J.loc
 show wpAny _ _ (assign (.Name x pos') X.env (.ref D)) _ _ _
 have e:assign (.Name x pos') X.env (.ref D)=(do standAt pos'; bindName X.env x (.ref D)):=by rfl
 rw [e]
 refine wpAny_bind (wpAny_standAt (wpAny_bindName ?_))
 refine Z4L (v:=.ref D) I3 hN hi (.inl hk) rfl (fun s4 I4 ⟨a,sb,ha⟩=>?_) (.inr hk)
 have hCa:C≠a:=by
  rcases ha with z | z
  ·rw [z]; exact neL
  ·obtain ⟨v,o,ho,_⟩:=I2.cell x a z
   exact fun z2=>ne a o ho z2.symm
 refine ⟨m,hn.sameBut sb hCa,fun h' sb'=>⟨_,H',?_,q⟩⟩
 refine I4.turned (t':=s4.toks) (it:=C) (fun b o hb e=>sb'.extBut b o hb e) J.free neL (.inr (Nat.le_trans I2.sz hC)) (fun y c e z=>?_) fun p hp z=>?_
 ·obtain ⟨v,o,ho,_⟩:=I2.cell y c e
  exact ne c o ho z
 ·exact ne p.1 _ (I2.pin p hp).1 z
def J2Y (i:Nat) (t:TE):TS:=fun D σ H=>t σ H fun v H'=>D.nx (σ.set i (some v)) H'
theorem Z3f (hcalm:X.calm=true) (hN:X.N.Nodup) (hi:X.N[i]?=some x) (hk:X.env.scope.names.lookup x=some .local) (B:BlockOk X N nl scope cl) (hit:PI X tg iter wi) (hg:∀ C fp s H,PG (X.block N scope cl C fp s H) tg g) (he:∀ C fp s H,PE (X.block N scope cl C fp s H) elt te)
  (hs:∀ x,foldedSetIterable iter X.env x=pure x:=by intro _; rfl) (hsw:swapsWith (.ListComp elt [⟨tg,iter,[],0⟩] scope pos) (some (.Name x pos')) spos.line X.env=pure true:=by rfl) :
  PS X (.Assign [.Name x pos'] (.ListComp elt [⟨tg,iter,[],0⟩] scope pos) spos) (J2Y i (Z6U wi nl g Z3n te)):=by
 intro pins s σ H D I h
 rw [exec_Assign_Name_used _ _ _ _ hsw]
 refine wpAny_bind (wpAny_standAt (wpAny_bind ?_))
 show wpAny _ _ (evalThenUse (.ListComp elt [⟨tg,iter,[],0⟩] scope pos) X.env _) _ _ _
 unfold evalThenUse
 refine wpAny_bind ?_
 exact thn (Z4i (Q:=fun v H'=>D.nx (σ.set i (some v)) H') (tst:=fun _=>pure true) (Q':=fun _ s3=>SP X pins D .next s3) hcalm B hit hg (fun _ _ _ _=>Z7t) he Z5V hs I h (fun D' C s' s2 fp σ' H' H2 I2 f2 hC J q=>Z7c hN hi hk D' C s' s2 fp σ' H' H2 I2 f2 hC J q) _) fun _ s3 z=>wpAny_pure (wpAny_pure z)
theorem Z7F {c:Expr} (hcalm:X.calm=true) (hN:X.N.Nodup) (hi:X.N[i]?=some x) (hk:X.env.scope.names.lookup x=some .local) (B:BlockOk X N nl scope cl) (hit:PI X tg iter wi) (hg:∀ C fp s H,PG (X.block N scope cl C fp s H) tg g) (hc:∀ C fp s H,PT (X.block N scope cl C fp s H) c tc) (he:∀ C fp s H,PE (X.block N scope cl C fp s H) elt te)
  (hs:∀ x,foldedSetIterable iter X.env x=pure x:=by intro _; rfl) (hsw:swapsWith (.ListComp elt [⟨tg,iter,[c],0⟩] scope pos) (some (.Name x pos')) spos.line X.env=pure true:=by rfl) :
  PS X (.Assign [.Name x pos'] (.ListComp elt [⟨tg,iter,[c],0⟩] scope pos) spos) (J2Y i (Z6U wi nl g tc te)):=by
 intro pins s σ H D I h
 rw [exec_Assign_Name_used _ _ _ _ hsw]
 refine wpAny_bind (wpAny_standAt (wpAny_bind ?_))
 show wpAny _ _ (evalThenUse (.ListComp elt [⟨tg,iter,[c],0⟩] scope pos) X.env _) _ _ _
 unfold evalThenUse
 refine wpAny_bind ?_
 exact thn (Z4i (Q:=fun v H'=>D.nx (σ.set i (some v)) H') (tst:=fun env=>isTrue c env (eval c env)) (Q':=fun _ s3=>SP X pins D .next s3) hcalm B hit hg (fun C fp s H=>J3F (hc C fp s H)) he Z8D hs I h (fun D' C s' s2 fp σ' H' H2 I2 f2 hC J q=>Z7c hN hi hk D' C s' s2 fp σ' H' H2 I2 f2 hC J q) _) fun _ s3 z=>wpAny_pure (wpAny_pure z)
end
end L2
end
section
namespace L2
open PySem PySem.Spec PyProof.Rows PySem.SeqAt
theorem J6R {wi:TI} {nl:List (Option Nat)} {g:TG} {tc:TT} {te:TE} {σ:St} {H:Hp} {Q:VK}:Z6U wi nl g tc te σ H Q=(wi σ H fun J H1=>∀ D,H1 D=none→Z4p J g tc te D Q (stOf nl σ) (upd H1 D (.lst []))):=rfl
theorem J6N {i:Nat} {t:TE} {D:Ends} {σ:St} {H:Hp}:J2Y i t D σ H=(t σ H fun v H'=>D.nx (σ.set i (some v)) H'):=rfl
theorem J7K {K:W.Frag} {x:V} {y:V} {H:Hp} {Q:VK}:rEqD K x y H Q=(∃ d e,RdD K H x d∧RdD K H y e∧shaped d=true∧shaped e=true∧Q (.bl (PyData.eqv d e)) H):=rfl
theorem J7Z {K:W.Frag} {x:V} {y:V} {H:Hp} {Q:VK}:rNeD K x y H Q=(∃ d e,RdD K H x d∧RdD K H y e∧shaped d=true∧shaped e=true∧Q (.bl (!PyData.eqv d e)) H):=rfl
theorem J6M {K:W.Frag} {ta:TA} {σ:St} {H:Hp} {R:It→Hp→Prop}:J5C K ta σ H R=(ta σ H fun vs H1=>∃ a,vs=[.ref a]∧(∃ xs,SqL K H1 a xs)∧R (Ite K a) H1):=rfl
theorem J5s {K:W.Frag} {xs:List V} {H:Hp} {Q:VK}:Z5u K xs H Q=(∃ a d,xs=[.ref a]∧RdD K H (.ref a) d∧d.showable=true∧d.hasDict=false∧d.depth≤60∧d.shown.length≤sizeLine∧Q (.str d.shown) H):=rfl
end L2
end
section
namespace L2
open PySem PySem.Spec PyProof.Rows
section
variable {κ:Type} [DecidableEq κ]
def valV (kvs:List (κ×V)) (k:κ):Option V:=(kvs.find? fun kv=>decide (kv.1=k)).map (·.2)
def putK (kvs:List (κ×V)) (k:κ) (v:V):List (κ×V):=
 if (kvs.any fun kv=>decide (kv.1=k))=true then kvs.map (fun kv=>if kv.1=k then (kv.1,v) else kv) else kvs++[(k,v)]
theorem Z4d {p:κ×V} {r:List (κ×V)} {k:κ} (e:p.1=k):valV (p::r) k=some p.2:=by simp [valV,List.find?_cons,e]
theorem Z3z {p:κ×V} {r:List (κ×V)} {k:κ} (e:¬ p.1=k):valV (p::r) k=valV r k:=by simp [valV,List.find?_cons,e]
theorem Z5P (k:κ):∀ kvs:List (κ×V),(kvs.any fun kv=>decide (kv.1=k))=(valV kvs k).isSome
 | []=>rfl
 | p::r=>by
  rw [List.any_cons]
  by_cases e:p.1=k
  ·simp only [Z4d e,decide_eq_true e,Bool.true_or,Option.isSome_some]
  ·rw [Z3z e,decide_eq_false e,Bool.false_or]; exact Z5P k r
theorem Z3N (kvs:List (κ×V)) (k:κ) (v:V):(putK kvs k v).length≤kvs.length+1:=by
 unfold putK
 split
 ·rw [List.length_map]; omega
 ·rw [List.length_append,List.length_cons,List.length_nil]; omega
theorem Z7R {kvs:List (κ×V)} {k:κ} (v:V) (h:valV kvs k=none):putK kvs k v=kvs++[(k,v)]:=by
 unfold putK
 rw [Z5P,h]
 exact if_neg (by decide)
theorem RelO.isSome_eq {o:Option V} {u:Option Value} (r:RelO o u):o.isSome=u.isSome:=by
 cases o with
 | none=>cases u with
  | none=>rfl
  | some _=>exact (show False from r).elim
 | some _=>cases u with
  | none=>exact (show False from r).elim
  | some _=>rfl
theorem KV.val {kvs:List (κ×V)} {vs:List (κ×Value)} (r:KV kvs vs) (k:κ):RelO (valV kvs k) (valueAt vs k):=by
 unfold KV at r
 induction r with
 | nil=>exact True.intro
 | @cons p q ps qs h t ih=>
  obtain ⟨h1,h2⟩:=h
  by_cases e:p.1=k
  ·have e':q.1=k:=h1.symm.trans e
   have b:valueAt (q::qs) k=some q.2:=by simp [valueAt,List.find?_cons,e']
   rw [Z4d e,b]; exact h2
  ·have e':¬ q.1=k:=fun z=>e (h1.trans z)
   have b:valueAt (q::qs) k=valueAt qs k:=by simp [valueAt,List.find?_cons,e']
   rw [Z3z e,b]; exact ih
theorem KV.any {kvs:List (κ×V)} {vs:List (κ×Value)} (r:KV kvs vs) (k:κ):(kvs.any fun kv=>decide (kv.1=k))=vs.any fun kv=>decide (kv.1=k):=by
 unfold KV at r
 induction r with
 | nil=>rfl
 | cons h t ih=>rw [List.any_cons,List.any_cons,ih,h.1]
theorem KV.repl {kvs:List (κ×V)} {vs:List (κ×Value)} (r:KV kvs vs) (k:κ) {y:V} {u:Value} (ry:RelV y u) :
  KV (kvs.map fun kv=>if kv.1=k then (kv.1,y) else kv) (vs.map fun kv=>if kv.1=k then (kv.1,u) else kv):=by
 unfold KV at r ⊢
 induction r with
 | nil=>exact .nil
 | @cons p q ps qs h t ih=>
  rw [List.map_cons,List.map_cons]
  refine .cons ?_ ih
  obtain ⟨h1,h2⟩:=h
  by_cases e:p.1=k
  ·rw [if_pos e,if_pos (h1.symm.trans e)]; exact ⟨h1,ry⟩
  ·rw [if_neg e,if_neg (fun z=>e (h1.trans z))]; exact ⟨h1,h2⟩
theorem KV.put {kvs:List (κ×V)} {vs:List (κ×Value)} (r:KV kvs vs) (k:κ) {y:V} {u:Value} (ry:RelV y u):KV (putK kvs k y) (stored vs k u):=by
 unfold putK stored
 rw [r.any k]
 by_cases e:(vs.any fun kv=>decide (kv.1=k))=true
 ·rw [if_pos e,if_pos e]; exact r.repl k ry
 ·rw [if_neg e,if_neg e]; exact Paired.snoc r ⟨rfl,ry⟩
theorem KV.length {kvs:List (κ×V)} {vs:List (κ×Value)} (r:KV kvs vs):kvs.length=vs.length:=Paired.length r
end
theorem J2k {P:Program} {w:World} {k:Key} {u:Value} (r:RelV (kV k) u):(Z0N P w).is k u=true:=by
 cases k with
 | inl i=>obtain ⟨t,e⟩:=(show ∃ t,u=Value.int i t from r); subst e; exact Z7N P w i t
 | inr x=>obtain ⟨t,e⟩:=(show ∃ t,u=Value.str x t from r); subst e; exact Z7E P w x t
theorem Z6w {P:Program} {w:World}:∀ {ks:List Key} {us:List Value},Vals (ks.map kV) us→ItemsAre (Z0N P w) ks us
 | [],_,r=>by rw [List.map_nil] at r; cases r; exact .nil
 | k::ks,_,r=>by
  rw [List.map_cons] at r
  cases r with
  | cons h t=>exact .cons (J2k h) (Z6w t)
abbrev KT (H:Hp):List (List Key×V)→List (List Key×Addr×Value)→Prop:=Paired fun p q=>p.1=q.1∧H q.2.1=some (.tup (p.1.map kV))∧RelV p.2 q.2.2
theorem KT.val {H:Hp} {kvs:List (List Key×V)} {xs:List (List Key×Addr×Value)} (r:KT H kvs xs) (k:List Key):RelO (valV kvs k) ((atKey xs k).map (·.2)):=by
 induction r with
 | nil=>exact True.intro
 | @cons p q ps qs h t ih=>
  obtain ⟨h1,_,h2⟩:=h
  by_cases e:p.1=k
  ·have e':q.1=k:=h1.symm.trans e
   have b:atKey (q::qs) k=some q.2:=by simp [atKey,List.find?_cons,e']
   rw [Z4d e,b]; exact h2
  ·have e':¬ q.1=k:=fun z=>e (h1.trans z)
   have b:atKey (q::qs) k=atKey qs k:=by simp [atKey,List.find?_cons,e']
   rw [Z3z e,b]; exact ih
theorem KT.repl {H:Hp} {kvs:List (List Key×V)} {xs:List (List Key×Addr×Value)} (r:KT H kvs xs) (k:List Key) {y:V} {u:Value} (ry:RelV y u) :
  KT H (kvs.map fun kv=>if kv.1=k then (kv.1,y) else kv) (xs.map (putAt k u)):=by
 induction r with
 | nil=>exact .nil
 | @cons p q ps qs h t ih=>
  rw [List.map_cons,List.map_cons]
  refine .cons ?_ ih
  obtain ⟨h1,h2,h3⟩:=h
  unfold putAt
  by_cases e:p.1=k
  ·rw [if_pos e,if_pos (h1.symm.trans e)]; exact ⟨h1,h2,ry⟩
  ·rw [if_neg e,if_neg (fun z=>e (h1.trans z))]; exact ⟨h1,h2,h3⟩
theorem KT.put {H:Hp} {kvs:List (List Key×V)} {xs:List (List Key×Addr×Value)} (r:KT H kvs xs) (k:List Key) {b:Addr} {y:V} {u:Value} (hb:H b=some (.tup (k.map kV))) (ry:RelV y u) :
  KT H (putK kvs k y) (storedH xs k b u):=by
 have e:(kvs.any fun kv=>decide (kv.1=k))=(atKey xs k).isSome:=by
  rw [Z5P,(r.val k).isSome_eq,Option.isSome_map]
 unfold putK storedH
 rw [e]
 by_cases q:(atKey xs k).isSome=true
 ·rw [if_pos q,if_pos q]; exact r.repl k ry
 ·rw [if_neg q,if_neg q]; exact Paired.snoc r ⟨rfl,hb,ry⟩
theorem KT.keeps {H H':Hp} {kvs:List (List Key×V)} {xs:List (List Key×Addr×Value)} (r:KT H kvs xs) (ht:∀ b ys,H b=some (.tup ys)→H' b=some (.tup ys)):KT H' kvs xs:=
 Paired.mapP r fun _ _ z=>⟨z.1,ht _ _ z.2.1,z.2.2⟩
section
variable {P:Program} {w:World} {H:Hp} {h:Heap} {a:Addr}
theorem J6w {u:HO} (ok:HOk P w H h) (e:Rd H a u):ObjOk P w H h a u:=e.ok ok
theorem J3a {kvs:List (Key×V)} (ok:HOk P w H h) (e:Rd H a (.dK kvs)):kvs.length≤sizeLine∧(a == sysModules)=false∧∃ vs,KV kvs vs∧h.DictOf (Z0N P w) a vs:=
 show ObjOk P w H h a (.dK kvs) from J6w ok e
theorem J8k {kvs:List (Key×V)} (ok:HOk P w H h) (e:H a=some (.dK kvs)):kvs.length≤sizeLine∧(a == sysModules)=false∧∃ vs,KV kvs vs∧h.DictOf (Z0N P w) a vs:=J3a ok (.inl e)
theorem J0y {ks:List Key} (ok:HOk P w H h) (e:H a=some (.tup (ks.map kV))):(tupleKind (Z0N P w)).is h ks a:=by
 obtain ⟨_,its,r,o,h1,h2,n,h3⟩:=(show ObjOk P w H h a (.tup (ks.map kV)) from ok a _ e)
 exact ⟨o,its.toArray,n,h1,h2,h3,by simpa using Z6w r⟩
theorem J3Z {kvs:List (List Key×V)} (ok:HOk P w H h) (e:Rd H a (.dT kvs)):kvs.length≤sizeLine∧(a == sysModules)=false ∧
  ∃ xs,KT H kvs xs∧h.DictOfH (tupleKind (Z0N P w)) a xs:=by
 obtain ⟨z,y,xs,r,o,es,ep,h1,h2,h3,h4,h5⟩:=(show ObjOk P w H h a (.dT kvs) from J6w ok e)
 refine ⟨z,y,xs,r,o,es,ep,h1,h2,h3,h4,fun x hx=>?_,h5⟩
 have all:∀ {l:List (List Key×V)} {m:List (List Key×Addr×Value)},KT H l m→∀ x∈m,(tupleKind (Z0N P w)).is h x.1 x.2.1:=by
  intro l m q
  induction q with
  | nil=>intro x hx; exact nomatch hx
  | @cons p q ps qs hq t ih=>
   intro x hx
   rcases List.mem_cons.mp hx with e | hx
   ·subst e
    exact J0y ok (by rw [← hq.1]; exact hq.2.1)
   ·exact ih x hx
 exact all r x hx
theorem J7P {kvs:List (List Key×V)} (ok:HOk P w H h) (e:H a=some (.dT kvs)):kvs.length≤sizeLine∧(a == sysModules)=false ∧
  ∃ xs,KT H kvs xs∧h.DictOfH (tupleKind (Z0N P w)) a xs:=J3Z ok (.inl e)
end
def DGet (H:Hp) (a:Addr) (y:V) (r:Option V):Prop:=
 (∃ kvs k,Rd H a (.dK kvs)∧y=kV k∧r=valV kvs k)∨∃ kvs k b,Rd H a (.dT kvs)∧y=.ref b∧H b=some (.tup (k.map kV))∧r=valV kvs k
def DPut (H:Hp) (a:Addr) (y v:V) (H':Hp):Prop:=
 (∃ kvs k,H a=some (.dK kvs)∧y=kV k∧kvs.length < sizeLine∧H'=upd H a (.dK (putK kvs k v))) ∨
 ∃ kvs k b,H a=some (.dT kvs)∧y=.ref b∧H b=some (.tup (k.map kV))∧kvs.length < sizeLine∧H'=upd H a (.dT (putK kvs k v))
theorem DGet.k {H:Hp} {a:Addr} {kvs:List (Key×V)} {k:Key} (e:H a=some (.dK kvs)):DGet H a (kV k) (valV kvs k):=.inl ⟨kvs,k,.inl e,rfl,rfl⟩
theorem DPut.k {H:Hp} {a:Addr} {kvs:List (Key×V)} {k:Key} {v:V} (e:H a=some (.dK kvs)) (hl:kvs.length < sizeLine):DPut H a (kV k) v (upd H a (.dK (putK kvs k v))):=.inl ⟨kvs,k,e,rfl,hl,rfl⟩
section
variable {X:Cx} {pins:List (Addr×Obj)} {σ:St} {H:Hp} {s:Shared} {a:Addr} {y v:V} {u r:Value} {o:Option V} {A:Around} {E:Value→Shared→Prop}
theorem Inv.big (I:Inv X pins σ H s):sysModules < s.heap.objs.size:=by
 have h:mainGlobals < s.heap.objs.size:=(I.mod.glob.keeps I.bk).lt
 exact Nat.lt_trans (by decide) h
theorem J0Z {Q:Value→Shared→Prop} (hu:A.units+1 < cLine) (I:Inv X pins σ H s) (g:DGet H a y (some v)) (ry:RelV y u) (h:∀ w' s',Inv X pins σ H s'→RelV v w'→Q w' s') :
  wpAny (model X.prog X.w) A (getItem (.ref a) u) Q E s:=by
 rcases g with ⟨kvs,k,e,ey,l⟩ | ⟨kvs,k,b,e,ey,eb,l⟩
 ·subst ey
  obtain ⟨z,hd,vs,rel,dd⟩:=J3a I.hok e
  obtain ⟨w',hw,rw'⟩:=RelO.some_of (v:=v) (o:=valueAt vs k) (by rw [l]; exact rel.val k)
  exact wpAny_getItem_of (J2k ry) dd.mapOf hw (h w' _ (I.tok _) rw')
 ·subst ey
  cases (show u=Value.ref b from ry)
  obtain ⟨z,hd,xs,rel,dd⟩:=J3Z I.hok e
  obtain ⟨w',hw,rw'⟩:=RelO.some_of (v:=v) (o:=(atKey xs k).map (·.2)) (by rw [l]; exact rel.val k)
  obtain ⟨p,hp,hp2⟩:=Option.map_eq_some_iff.mp hw
  refine wpAny_getItem_heap (tupleKind_room_in1 hu) (J0y I.hok eb) dd hp ?_
  rw [hp2]
  exact h w' _ (I.tok _) rw'
theorem J1J {h':Heap} {t':Nat} {ob:HO} (I:Inv X pins σ H s) (mu:Mut (H a)) (hs:Heap.SameBut a s.heap h') (he:∃ q,h'.get? a=some q) (new:ObjOk X.prog X.w (upd H a ob) h' a ob) :
  Inv X pins σ (upd H a ob) { s with heap:=h',toks:=t' }:=
 I.write (x:=a) (e:=a) mu (.inl rfl) (fun b q hb z=>(hs.2 b hb).trans z) he new
theorem Z8a {P:Program} {w:World} {H':Hp} {h':Heap} {kvs:List (Key×V)} {vs:List (Key×Value)} (z:kvs.length≤sizeLine) (hd:(a == sysModules)=false) (rel:KV kvs vs) (dd:h'.DictOf (Z0N P w) a vs) :
  ObjOk P w H' h' a (.dK kvs):=⟨z,hd,vs,rel,dd⟩
theorem J1M {H':Hp} {Q:Unit→Shared→Prop} (hu:A.units+1 < cLine) (I:Inv X pins σ H s) (g:DPut H a y v H') (ry:RelV y u) (rv:RelV v r) (h:∀ s',Inv X pins σ H' s'→Q () s') :
  wpAny (model X.prog X.w) A (setItem (.ref a) u r) Q E s:=by
 rcases g with ⟨kvs,k,e,ey,l,eH⟩ | ⟨kvs,k,b,e,ey,eb,l,eH⟩
 ·subst ey eH
  obtain ⟨z,hd,vs,rel,dd⟩:=J8k I.hok e
  have hz:vs.length≤sizeLine:=by rw [← rel.length]; exact z
  have hl:(putK kvs k v).length≤sizeLine:=by have:=Z3N kvs k v; omega
  refine wpAny_setItem_pairs (hsz:=hz) (J2k ry) dd fun h' dd' hs=>h _ ?_
  have he:∃ q,h'.get? a=some q:=let ⟨q,_,_,hq,_⟩:=dd'; ⟨q,hq⟩
  exact J1J I (by rw [e]; exact True.intro) hs he (Z8a hl hd (rel.put k rv) dd')
 ·subst ey eH
  cases (show u=Value.ref b from ry)
  obtain ⟨z,hd,xs,rel,dd⟩:=J7P I.hok e
  have hz:xs.length≤sizeLine:=by rw [← Paired.length rel]; exact z
  have hl:(putK kvs k v).length≤sizeLine:=by have:=Z3N kvs k v; omega
  refine wpAny_setItem_heap (hsz:=hz) (tupleKind_room_in1 hu) (J0y I.hok eb) dd fun h' dd' hs=>h _ ?_
  obtain ⟨q,es,ep,hq,h2,h3,h4,_,h5⟩:=dd'
  refine J1J I (by rw [e]; exact True.intro) hs ⟨q,hq⟩ ⟨hl,hd,_,(rel.put k eb rv).keeps fun c ys ec=>?_,q,es,ep,hq,h2,h3,h4,h5⟩
  rw [Z0j (J3W ec e (fun z=>nomatch z))]
  exact ec
end
section
variable {X:Cx} {pins:List (Addr×Obj)} {σ:St} {H:Hp} {s:Shared} {a:Addr} {kvs:List (Key×V)} {k:Key} {u:Value} {A:Around} {E:Value→Shared→Prop}
end
def NoSl (i:Expr):Prop:=∀ ov iv,subscripted i false ov iv=operate [ov,iv] (getItem ov iv)
theorem J4G {prog:Program} {w:World} {A:Around} {E:Value→Shared→Prop} {s:Shared} {env:Env} {value slice:Expr} {pos:Pos} {T id:String} {Q:Value→Shared→Prop}
  (hl:typeLookup (.type T) "__getitem__"=pure (some (.builtin id))) (hs:NoSl slice)
  (h:wpAny (model prog w) A (eval value env) (fun o s₁=>wpAny (model prog w) A (eval slice env) (fun i s₂=>s₂.TypeIs o T∧wpAny (model prog w) A (getItem o i) Q E s₂) E s₁) E s) :
  wpAny (model prog w) A (eval (.Subscript value slice pos) env) Q E s:=by
 refine Subscript_ (wpAny_mono h (fun o s₁ h₁=>wpAny_mono h₁ (fun i s₂ h₂=>?_) fun _ _ x=>x) fun _ _ x=>x)
 obtain ⟨hT,h₂⟩:=h₂
 unfold subscriptTail
 refine wpAny_bind ?_
 rw [getitemInPython_of_ne hT.not_modules]
 refine wpAny_bind (wpAny_specialOf hT hl ?_)
 have fin:wpAny (model prog w) A (subscripted slice false o i) (fun r s₃=>wpAny (model prog w) A (letTemporaryGo value o r >>= fun _=>pure r) Q E s₃) E s₂:=by
  rw [hs o i]
  exact wpAny_operating (wpAny_mono h₂ (fun r s₃ h₃=>wpAny_bind (wpAny_letTemporaryGo (wpAny_pure h₃))) fun _ _ x=>x)
 first
  | exact wpAny_pure (wpAny_bind fin)
  | exact wpAny_bind (wpAny_pure (wpAny_bind fin))
  | exact wpAny_bind fin
theorem Z7A {X:Cx} {pins:List (Addr×Obj)} {σ:St} {H:Hp} {s:Shared} {a:Addr} {y:V} {o:Option V} (I:Inv X pins σ H s) (g:DGet H a y o):s.TypeIs (.ref a) "dict":=by
 rcases g with ⟨kvs,k,e,_,_⟩ | ⟨kvs,k,b,e,_,_,_⟩
 ·obtain ⟨_,_,vs,_,dd⟩:=J3a I.hok e
  exact dd.typeIs
 ·obtain ⟨_,_,xs,_,dd⟩:=J3Z I.hok e
  exact dd.typeIs
def J6z (td ty:TE):TE:=fun σ H Q=>td σ H fun x H1=>ty σ H1 fun y H2=>∃ a v,x=.ref a∧DGet H2 a y (some v)∧Q v H2
def J5t (td ty tv:TE):TS:=fun D σ H=>tv σ H fun v H1=>td σ H1 fun x H2=>ty σ H2 fun y H3=>∃ a H4,x=.ref a∧DPut H3 a y v H4∧D.nx σ H4
section
variable {X:Cx} {o i e value:Expr} {pos pos' tpos:Pos} {td ty tv:TE}
theorem Z5T (hu:X.A.units+1 < cLine) (ho:PE X o td) (hi:PE X i ty) (hs:NoSl i):PE X (.Subscript o i pos) (J6z td ty):=by
 intro pins s σ H Q I h
 refine J4G PySem.F.slot_dict_getitem.lookup hs (thn (ho pins s σ H _ I h) fun u s1 ⟨x,H1,I1,rx,q1⟩=>thn (hi pins s1 σ H1 _ I1 q1) fun iv s2 hz_=>?_)
 obtain ⟨y,H2,I2,ry,a,v,ex,g,q2⟩:=hz_
 subst ex
 obtain rfl:u=Value.ref a:=rx
 exact ⟨Z7A I2 g,J0Z hu I2 g ry fun w' s3 I3 rw'=>⟨v,H2,I3,rw',q2⟩⟩
theorem J1f (hu:X.A.units+1 < cLine) (ho:PE X o td) (hi:PE X i ty) (hv:PE X value tv) (hs:swapsWith value (some (.Subscript o i pos')) pos.line X.env=pure false) :
  PS X (.Assign [.Subscript o i pos'] value pos) (J5t td ty tv):=by
 intro pins s σ H D I h
 refine wpAny_Assign_Subscript (thn (hv pins s σ H _ I h) fun r s1 ⟨v,H1,I1,rv,q1⟩=>thn (ho pins s1 σ H1 _ I1 q1) fun u s2 ⟨x,H2,I2,rx,q2⟩=>thn (hi pins s2 σ H2 _ I2 q2) fun iv s3 hz_=>?_) hs
 obtain ⟨y,H3,I3,ry,a,H4,ex,g,q3⟩:=hz_
 subst ex
 obtain rfl:u=Value.ref a:=rx
 exact J1M hu I3 g ry rv fun s4 I4=>⟨σ,H4,I4,q3⟩
end
theorem J3l {P:Program} {w:World} {H:Hp} (h:Heap) (hb:sysModules < h.objs.size):ObjOk P w H (h.push { cls:=.type "dict",data:=.dict #[] }) h.objs.size (.dK []):=
 ⟨Nat.zero_le _,beq_eq_false_iff_ne.mpr (Ne.symm (Nat.ne_of_lt hb)),[],.nil,Heap.DictOf.new h⟩
def J3u:TE:=fun _ H Q=>∀ p,H p=none→Q (.ref p) (upd H p (.dK []))
section
variable {X:Cx} {pos:Pos}
theorem Z8o:PE X (.Dict [] [] pos) J3u:=fun pins s σ H Q I h=>
 wpAny_Dict_empty ⟨.ref s.heap.objs.size,_,I.laid (a:=s.heap.objs.size) (o:=.dK []) (t':=s.toks) (fun _ _ q=>Heap.get?_push_of_some _ q) (Nat.le_refl _) (J3l s.heap I.big),rfl,h _ (I.hok.fresh (Nat.le_refl _))⟩
end
def Z5m:List (TE×TE)→St→Hp→(List (V×V)→Hp→Prop)→Prop
 | [],_,H,Q=>Q [] H
 | (tk,tv)::r,σ,H,Q=>tk σ H fun x H1=>tv σ H1 fun y H2=>Z5m r σ H2 fun ps H3=>Q ((x,y)::ps) H3
def J3z (kvs more:List (Key×V)):List (Key×V):=more.foldl (fun acc kv=>putK acc kv.1 kv.2) kvs
def J7W (trs:List (TE×TE)):TE:=fun σ H Q=>∀ p,H p=none→Z5m trs σ (upd H p (.dK [])) fun ps H2=>H2 p=some (.dK [])∧∃ kvs:List (Key×V),ps=kvs.map (fun kv=>(kV kv.1,kv.2))∧kvs.length≤15∧Q (.ref p) (upd H2 p (.dK (J3z [] kvs)))
section
variable {X:Cx} {pins:List (Addr×Obj)} {σ:St} {H:Hp} {s:Shared} {a:Addr} {y d:V} {u r:Value} {o:Option V} {A:Around} {E:Value→Shared→Prop}
end
section
variable {X:Cx} {o e f:Expr} {apos cpos:Pos} {td ty tx:TE}
end
section
variable {X:Cx} {pins:List (Addr×Obj)} {σ:St} {H:Hp} {s:Shared} {a:Addr} {kvs:List (Key×V)} {A:Around} {E:Value→Shared→Prop}
theorem J2Z {Q:Value→Shared→Prop} (I:Inv X pins σ H s) (e:Rd H a (.dK kvs)) (h:∀ p s',H p=none→Inv X pins σ (upd H p (.dK kvs)) s'→Q (.ref p) s'):wpAny (model X.prog X.w) A (call (.type "dict") [.ref a]) Q E s:=by
 obtain ⟨z,hd,vs,rel,dd⟩:=J3a I.hok e
 refine kt_call_dict hd dd (by rw [← rel.length]; exact z) fun h' dd' hs=>?_
 refine h _ _ (I.hok.fresh (Nat.le_refl _)) (I.laid (a:=s.heap.objs.size) (o:=.dK kvs) (t':=s.toks) (fun b q hq=>?_) (Nat.le_refl _) (Z8a z (beq_eq_false_iff_ne.mpr (Ne.symm (Nat.ne_of_lt I.big))) rel dd'))
 exact (hs.2 b (Nat.ne_of_lt (Heap.lt_size hq))).trans (Heap.get?_push_of_some _ hq)
end
section
variable {X:Cx} {pins:List (Addr×Obj)} {σ:St} {H:Hp} {s:Shared} {a:Addr} {y:V} {u:Value} {A:Around} {E:Value→Shared→Prop}
end
end L2
namespace L2
open PySem PySem.Spec PyProof.Rows
section
variable {X:Cx}
end
section
variable {κ:Type} [DecidableEq κ]
end
end L2
end
section
namespace L2
open PySem PySem.Spec PyProof.Rows PySem.SeqAt
theorem J6Y {td ty:TE} {σ:St} {H:Hp} {Q:VK}:J6z td ty σ H Q=(td σ H fun x H1=>ty σ H1 fun y H2=>∃ a v,x=.ref a∧DGet H2 a y (some v)∧Q v H2):=rfl
theorem J6V {td ty tv:TE} {D:Ends} {σ:St} {H:Hp}:J5t td ty tv D σ H=(tv σ H fun v H1=>td σ H1 fun x H2=>ty σ H2 fun y H3=>∃ a H4,x=.ref a∧DPut H3 a y v H4∧D.nx σ H4):=rfl
theorem J6G {z0:St} {H:Hp} {Q:VK}:J3u  z0 H Q=(∀ p,H p=none→Q (.ref p) (upd H p (.dK []))):=rfl
end L2
end
section
namespace PW
open PySem P15
inductive Vl | int (i:Int) | bl (b:Bool) | thing (n:Nat)
structure Wd where
 name:Str
 params:List (Str×Str)
 kind:Str
 body:Tm
structure Hs where
 name:Str
 elder:Option Str
 fields:List (Str×Str)
 words:List Wd
structure Pg where
 houses:List Hs
 main:Wd
structure Sc where
 house:Option Str
 own:Option Vl
 bound:List (Str×Vl)
inductive Wt | walk (t:Tm) (s:Sc) | choose (t:Tm) (s:Sc) | finish (t:Tm) (s:Sc) | leave
structure Ws where
 wait:List Wt
 known:List Vl
 made:List (Str×List Vl)
 counted:Nat
 within:Nat
 ended:Option (List Str)
def IxAt {α:Type} (xs:List α) (x:α) (i:Nat):Prop:=xs[i]?=some x∧∀ j,j < i→xs[j]?≠some x
def Look (P:Pg) (h:Str) (H:Hs):Prop:=H∈P.houses∧H.name=h
inductive Chain (P:Pg):Str→List Str→Prop
 | top {h:Str} {H:Hs}:Look P h H→H.elder=none→Chain P h []
 | up {h e:Str} {H:Hs} {es:List Str}:Look P h H→H.elder=some e→Chain P e es→Chain P h (e::es)
inductive Z2R (P:Pg) (w:Str):List Str→Str→Nat→Wd→Prop
 | here {h:Str} {H:Hs} {es:List Str} {i:Nat} {d:Wd}:Look P h H→IxAt (H.words.map Wd.name) w i→H.words[i]?=some d→Z2R P w (h::es) h i d
 | there {h h':Str} {H:Hs} {es:List Str} {i:Nat} {d:Wd}:Look P h H→w∉H.words.map Wd.name→Z2R P w es h' i d→Z2R P w (h::es) h' i d
inductive Flds (P:Pg):List Str→List (Str×Str)→Prop
 | nil:Flds P [] []
 | cons {h:Str} {H:Hs} {l:List Str} {fs:List (Str×Str)}:Look P h H→Flds P l fs→Flds P (h::l) (H.fields++fs)
def Z2Z (P:Pg) (h f:Str) (j:Nat):Prop:=∃ es fs,Chain P h es∧es.length≤100∧Flds P (h::es).reverse fs∧fs.length≤100∧IxAt (fs.map Prod.fst) f j
def putS (k:Str) (v:Vl) (b:List (Str×Vl)):List (Str×Vl):=if (b.any fun p=>decide (p.1=k))=true then b.map (fun p=>if p.1=k then (p.1,v) else p) else b++[(k,v)]
def Z1f:List (Str×Vl)→List (Str×Vl)→List (Str×Vl)
 | b,[]=>b
 | b,(k,v)::r=>Z1f (putS k v b) r
def getS (k:Str) (b:List (Str×Vl)):Option Vl:=(b.find? fun p=>decide (p.1=k)).map (·.2)
inductive Z1A (P:Pg) (most:Nat) (h wd:Str) (x:Vl) (vs:List Vl):Ws→Ws→Prop
 | dry {W k m c w}:most≤c→Z1A P most h wd x vs ⟨W,k,m,c,w,none⟩ ⟨W,k,m,c,w,some ["dry"]⟩
 | deep {W k m c w}:c < most→40≤w→Z1A P most h wd x vs ⟨W,k,m,c,w,none⟩ ⟨W,k,m,c+1,w,some ["deep"]⟩
 | go {W k m c w es h' i d}:c < most→w < 40→Chain P h es→es.length≤100→Z2R P wd (h::es) h' i d→d.params.length≤100→Z1A P most h wd x vs ⟨W,k,m,c,w,none⟩ ⟨.walk d.body ⟨some h',some x,Z1f [] ((d.params.map Prod.fst).zip vs)⟩::.leave::W,k,m,c+1,w+1,none⟩
def Bd (n:Int):Prop:=-1000000000000000≤n∧n≤1000000000000000
inductive Two:Str→Vl→Vl→Option Vl→List Str→Prop
 | add {a b:Int}:Bd a→Bd b→Bd (a+b)→Two "+" (.int a) (.int b) (some (.int (a+b))) []
 | sub {a b:Int}:Bd a→Bd b→Bd (a - b)→Two "-" (.int a) (.int b) (some (.int (a - b))) []
 | mul {a b:Int}:Bd a→Bd b→Bd (a * b)→Two "*" (.int a) (.int b) (some (.int (a * b))) []
 | great {a b:Int}:Bd a→Bd b→¬ Bd (a * b)→Two "*" (.int a) (.int b) none ["refused","great"]
 | nought {a:Int}:Bd a→Two "/" (.int a) (.int 0) none ["refused","nought"]
 | less {a b:Int}:Bd a→Bd b→Two "<" (.int a) (.int b) (some (.bl (decide (a < b)))) []
def Z1k:Fm→Lb→Prop
 | .iff,_=>True
 | .lt,_=>True
 | .two,.str s=>s=";"
 | _,_=>False
def leaf:Fm→Prop
 | .number | .truth | .name | .self=>True
 | _=>False
inductive Step (P:Pg) (most:Nat):Ws→Ws→Prop
 | num {W k m c w s i}:Step P most ⟨.walk (.mk .number (.int i) []) s::W,k,m,c,w,none⟩ ⟨W,.int i::k,m,c,w,none⟩
 | tru {W k m c w s b}:Step P most ⟨.walk (.mk .truth (.bl b) []) s::W,k,m,c,w,none⟩ ⟨W,.bl b::k,m,c,w,none⟩
 | name {W k m c w s x v}:getS x s.bound=some v→Step P most ⟨.walk (.mk .name (.str x) []) s::W,k,m,c,w,none⟩ ⟨W,v::k,m,c,w,none⟩
 | self {W k m c w s v}:s.own=some v→Step P most ⟨.walk (.mk .self .non []) s::W,k,m,c,w,none⟩ ⟨W,v::k,m,c,w,none⟩
 | cho {W k m c w s f l p ps}:Z1k f l→ps.length≤10→Step P most ⟨.walk (.mk f l (p::ps)) s::W,k,m,c,w,none⟩ ⟨.walk p s::.choose (.mk f l (p::ps)) s::W,k,m,c,w,none⟩
 | fin {W k m c w s f l ps}:¬ Z1k f l→¬ leaf f→ps.length≤10→Step P most ⟨.walk (.mk f l ps) s::W,k,m,c,w,none⟩ ⟨ps.map (Wt.walk · s)++.finish (.mk f l ps) s::W,k,m,c,w,none⟩
 | lt {W k m c w s x p q v}:s.bound.length≤100→Step P most ⟨.choose (.mk .lt (.str x) [p,q]) s::W,v::k,m,c,w,none⟩ ⟨.walk q ⟨s.house,s.own,putS x v s.bound⟩::W,k,m,c,w,none⟩
 | iff {W k m c w s p q r b}:Step P most ⟨.choose (.mk .iff .non [p,q,r]) s::W,.bl b::k,m,c,w,none⟩ ⟨.walk (if b then q else r) s::W,k,m,c,w,none⟩
 | seq {W k m c w s p q v}:Step P most ⟨.choose (.mk .two (.str ";") [p,q]) s::W,v::k,m,c,w,none⟩ ⟨.walk q s::W,k,m,c,w,none⟩
 | two {W k m c w s g p q a b v e}:Two g a b (some v) e→Step P most ⟨.finish (.mk .two (.str g) [p,q]) s::W,b::a::k,m,c,w,none⟩ ⟨W,v::k,m,c,w,none⟩
 | refuse {W k m c w s g p q a b e}:Two g a b none e→Step P most ⟨.finish (.mk .two (.str g) [p,q]) s::W,b::a::k,m,c,w,none⟩ ⟨W,k,m,c,w,some e⟩
 | new {W k m c w s h ps vs}:vs.length=ps.length→ps.length≤10→Step P most ⟨.finish (.mk .new (.str h) ps) s::W,vs.reverse++k,m,c,w,none⟩ ⟨W,.thing m.length::k,m++[(h,vs)],c,w,none⟩
 | field {W k m c w s f p n h inn j v}:m[n]?=some (h,inn)→Z2Z P h f j→inn[j]?=some v→Step P most ⟨.finish (.mk .field (.str f) [p]) s::W,.thing n::k,m,c,w,none⟩ ⟨W,v::k,m,c,w,none⟩
 | set {W k m c w s f p q n h inn j v}:m[n]?=some (h,inn)→Z2Z P h f j→j < inn.length→Step P most ⟨.finish (.mk .set (.str f) [p,q]) s::W,v::.thing n::k,m,c,w,none⟩ ⟨W,v::k,m.set n (h,inn.set j v),c,w,none⟩
 | call {W k m c w s f ps vs n h inn S}:vs.length+1=ps.length→ps.length≤10→m[n]?=some (h,inn)→Z1A P most h f (.thing n) vs ⟨W,k,m,c,w,none⟩ S→Step P most ⟨.finish (.mk .call (.str f) ps) s::W,vs.reverse++.thing n::k,m,c,w,none⟩ S
 | elder {W k m c w s f ps vs h e es v S}:vs.length=ps.length→ps.length≤10→s.house=some h→s.own=some v→Chain P h (e::es)→es.length < 100→Z1A P most e f v vs ⟨W,k,m,c,w,none⟩ S→Step P most ⟨.finish (.mk .elder (.str f) ps) s::W,vs.reverse++k,m,c,w,none⟩ S
 | leave {W k m c w}:Step P most ⟨.leave::W,k,m,c,w+1,none⟩ ⟨W,k,m,c,w,none⟩
inductive Z2T (P:Pg) (most:Nat):Nat→Ws→Ws→Prop
 | refl {S}:Z2T P most 0 S S
 | step {n S S' S''}:Step P most S S'→Z2T P most n S' S''→Z2T P most (n+1) S S''
section
variable {P:Pg} {most:Nat}
variable {b b1 b2 b' c c1 c2 c' w:Nat} {s:Sc} {m m1 m2 m':List (Str×List Vl)} {v v1 v2:Vl} {t:Tm} {ts:List Tm} {vs:List Vl}
end
end PW
end
section
namespace WK
open PySem L2 P15 TM PW
inductive A2 {α β:Type} (R:α→β→Prop):List α→List β→Prop
 | nil:A2 R [] []
 | cons {a:α} {b:β} {as:List α} {bs:List β}:R a b→A2 R as bs→A2 R (a::as) (b::bs)
section
variable {α β:Type} {R R':α→β→Prop}
theorem A2.len:∀ {as:List α} {bs:List β},A2 R as bs→as.length=bs.length
 | _,_,.nil=>rfl
 | _,_,.cons _ h=>congrArg (·+1) h.len
theorem A2.monoM:∀ {as:List α} {bs:List β},A2 R as bs→(∀ a b,a∈as→R a b→R' a b)→A2 R' as bs
 | _,_,.nil,_=>.nil
 | _,_,.cons a h,f=>.cons (f _ _ List.mem_cons_self a) (h.monoM fun a b m=>f a b (List.mem_cons_of_mem _ m))
theorem A2.mono {as:List α} {bs:List β} (h:A2 R as bs) (f:∀ a b,R a b→R' a b):A2 R' as bs:=h.monoM fun a b _=>f a b
theorem A2.app:∀ {as as':List α} {bs bs':List β},A2 R as bs→A2 R as' bs'→A2 R (as++as') (bs++bs')
 | _,_,_,_,.nil,h=>h
 | _,_,_,_,.cons a h,h'=>.cons a (h.app h')
theorem A2.snoc {as:List α} {bs:List β} {a:α} {b:β} (h:A2 R as bs) (r:R a b):A2 R (as++[a]) (bs++[b]):=h.app (.cons r .nil)
theorem A2.split:∀ {bs bs':List β} {as:List α},A2 R as (bs++bs')→∃ xs ys,as=xs++ys∧A2 R xs bs∧A2 R ys bs'
 | [],_,as,h=>⟨[],as,rfl,.nil,h⟩
 | _::bs,_,_,.cons a h=>by
  obtain ⟨xs,ys,rfl,p,q⟩:=A2.split h
  exact ⟨_::xs,ys,rfl,.cons a p,q⟩
theorem A2.one {a:List α} {b:β} (h:A2 R a [b]):∃ x,a=[x]∧R x b:=by
 cases h with
 | cons r t=>cases t; exact ⟨_,rfl,r⟩
theorem A2.last {as:List α} {bs:List β} {b:β} (h:A2 R as (bs++[b])):∃ xs x,as=xs++[x]∧A2 R xs bs∧R x b:=by
 obtain ⟨xs,ys,rfl,p,q⟩:=h.split
 obtain ⟨x,rfl,r⟩:=q.one
 exact ⟨xs,x,rfl,p,r⟩
theorem A2.at:∀ {as:List α} {bs:List β} {i:Nat} {a:α},A2 R as bs→as[i]?=some a→∃ b,bs[i]?=some b∧R a b
 | _,_,0,_,.cons r _,h=>by cases h; exact ⟨_,rfl,r⟩
 | _,_,i+1,_,.cons _ t,h=>t.at (i:=i) h
theorem A2.to:∀ {as:List α} {bs:List β} {i:Nat} {b:β},A2 R as bs→bs[i]?=some b→∃ a,as[i]?=some a∧R a b
 | _,_,0,_,.cons r _,h=>by cases h; exact ⟨_,rfl,r⟩
 | _,_,i+1,_,.cons _ t,h=>t.to (i:=i) h
theorem A2.rev:∀ {as:List α} {bs:List β},A2 R as bs→A2 R as.reverse bs.reverse
 | _,_,.nil=>.nil
 | _,_,.cons r t=>by rw [List.reverse_cons,List.reverse_cons]; exact t.rev.snoc r
theorem A2.nil_inv {as:List α} (h:A2 R as []):as=[]:=by cases h; rfl
theorem A2.of:∀ {as:List α} {bs:List β},as.length=bs.length→(∀ (j:Nat) a,as[j]?=some a→∃ b,bs[j]?=some b∧R a b)→A2 R as bs
 | [],[],_,_=>.nil
 | a::as,b::bs,e,h=>by
  obtain ⟨b',hb,r⟩:=h 0 a rfl
  cases hb
  exact .cons r (A2.of (Nat.succ.inj e) fun j a' ha=>h (j+1) a' ha)
end
structure CS where
 term:Addr
 word:Addr
 house:Addr
 program:Addr
 hall:Addr
 scope:Addr
 waits:Addr
 walk:Addr
 bs:Hp
structure CS.Ok (c:CS):Prop where
 term:c.term≠c.walk
 word:c.word≠c.walk
 house:c.house≠c.walk
 hall:c.hall≠c.walk
 scope:c.scope≠c.walk
 waits:c.waits≠c.walk
structure Kw (C:Addr) (H H':Hp):Prop where
 t:∀ b xs,H b=some (.tup xs)→H' b=some (.tup xs)
 z:∀ b o xs,H b=some (.frz o (.tup xs))→H' b=some (.frz o (.tup xs))
 i:∀ b D dx f fs,D≠C→H b=some (.ins D dx (f::fs))→H' b=some (.ins D dx (f::fs))
 d:∀ b kvs,H b=some (.dK kvs)→H' b=some (.dK kvs)
section
variable {C:Addr} {H H' H'':Hp} {K:W.Frag}
theorem Kw.trans (a:Kw C H H') (b:Kw C H' H''):Kw C H H'':=⟨fun _ _ h=>b.t _ _ (a.t _ _ h),fun _ _ _ h=>b.z _ _ _ (a.z _ _ _ h),fun _ _ _ _ _ n h=>b.i _ _ _ _ _ n (a.i _ _ _ _ _ n h),fun _ _ h=>b.d _ _ (a.d _ _ h)⟩
theorem Kw.of (s:Same H H'):Kw C H H':=⟨fun _ _ h=>s _ _ h,fun _ _ _ h=>s _ _ h,fun _ _ _ _ _ _ h=>s _ _ h,fun _ _ h=>s _ _ h⟩
theorem Kw.lst {a:Addr} {xs:List V} (o:HO) (h:H a=some (.lst xs)):Kw C H (upd H a o):=
  ⟨fun b xs e=>by rw [Z0j (fun z=>by rw [z,h] at e; cases e)]; exact e,fun b o xs e=>by rw [Z0j (fun z=>by rw [z,h] at e; cases e)]; exact e,
   fun b D dx f fs n e=>by rw [Z0j (fun z=>by rw [z,h] at e; cases e)]; exact e,fun b kvs e=>by rw [Z0j (fun z=>by rw [z,h] at e; cases e)]; exact e⟩
theorem Kw.kt (k:Kw C H H'):Kt H H':=⟨k.t,k.z⟩
theorem Z1X {H1:Hp} {x:Addr} (s:Same H H1) (h:SX x H1 H') (n:H x=none):Same H H':=fun b o e=>h b o (Z0i e n) (s b o e)
mutual
theorem TO.kw {D:Addr} (n:D≠C) (k:Kw C H H'):∀ {v:V} {t:Tm},TO K D H v t→TO K D H' v t
 | _,_,.mk a b c d e=>.mk (k.i _ _ _ _ _ n a) (SqT.kt b k.kt) (TOs.kw n k c) (SqT.kt d k.kt) (e.kt k.kt)
theorem TOs.kw {D:Addr} (n:D≠C) (k:Kw C H H'):∀ {vs:List V} {ts:List Tm},TOs K D H vs ts→TOs K D H' vs ts
 | _,_,.nil=>.nil
 | _,_,.cons h hs=>.cons (TO.kw n k h) (TOs.kw n k hs)
end
end
inductive RV (H:Hp):V→Vl→Prop
 | int (i:Int):RV H (.int i) (.int i)
 | bl (b:Bool):RV H (.bl b) (.bl b)
 | thing {a:Addr} {n:Nat}:H a=some (.tup [.str "thing",.int n])→RV H (.ref a) (.thing n)
inductive RO (H:Hp):V→Option Vl→Prop
 | non:RO H .non none
 | some {v:V} {x:Vl}:RV H v x→RO H v (some x)
noncomputable def oS:Option Str→V
 | none=>.non
 | some s=>.str s
def RB (H:Hp):List (Key×V)→List (Str×Vl)→Prop:=A2 fun kv b=>kv.1=.inr b.1∧RV H kv.2 b.2
inductive ScO (c:CS) (H:Hp):V→Sc→Prop
 | mk {a dx d:Addr} {s:Sc} {ov:V} {kvs:List (Key×V)}:H a=some (.ins c.scope dx [("house",oS s.house),("own_thing",ov),("bound",.ref d)])→RO H ov s.own→H d=some (.dK kvs)→RB H kvs s.bound→ScO c H (.ref a) s
section
variable {C:Addr} {H H':Hp} {c:CS}
theorem RV.kw {v:V} {x:Vl} (h:RV H v x) (k:Kw C H H'):RV H' v x:=by
 cases h with
 | int i=>exact .int i
 | bl b=>exact .bl b
 | thing e=>exact .thing (k.t _ _ e)
theorem RO.kw {v:V} {x:Option Vl} (h:RO H v x) (k:Kw C H H'):RO H' v x:=by
 cases h with
 | non=>exact .non
 | some r=>exact .some (r.kw k)
theorem RB.kw {kvs:List (Key×V)} {b:List (Str×Vl)} (h:RB H kvs b) (k:Kw C H H'):RB H' kvs b:=A2.mono h fun _ _ r=>⟨r.1,r.2.kw k⟩
theorem ScO.kw {v:V} {s:Sc} (ok:c.Ok) (h:ScO c H v s) (k:Kw c.walk H H'):ScO c H' v s:=by
 cases h with
 | mk a b d e=>exact .mk (k.i _ _ _ _ _ ok.scope a) (b.kw k) (k.d _ _ d) (e.kw k)
theorem RB.any {kvs:List (Key×V)} {b:List (Str×Vl)} (x:Str) (h:RB H kvs b):(kvs.any fun kv=>decide (kv.1=Sum.inr x))=(b.any fun p=>decide (p.1=x)):=by
 unfold RB at h
 induction h with
 | nil=>rfl
 | cons r _ ih=>
  rw [List.any_cons,List.any_cons,ih,r.1]
  congr 1
  simp
theorem RB.put {kvs:List (Key×V)} {b:List (Str×Vl)} {x:Str} {v:V} {y:Vl} (h:RB H kvs b) (r:RV H v y):RB H (putK kvs (.inr x) v) (putS x y b):=by
 unfold putK putS
 rw [RB.any x h]
 split
 ·unfold RB at h ⊢
  rename_i hk
  clear hk
  induction h with
  | nil=>exact .nil
  | @cons p q as bs e _ ih=>
   refine .cons ?_ ih
   dsimp only
   by_cases hq:q.1=x
   ·rw [if_pos hq,if_pos (by rw [e.1,hq])]; exact ⟨by rw [e.1],r⟩
   ·rw [if_neg hq,if_neg (by rw [e.1]; exact fun z=>hq (Sum.inr.inj z))]; exact e
 ·exact A2.snoc h ⟨rfl,r⟩
end
noncomputable def Z3k (ps:List (Str×Str)):PyData:=.tuple (ps.map fun p=>.tuple [.str p.1,.str p.2])
noncomputable def Z5s (d:Wd):PyData:=.tuple [.str d.name,Z3k d.params,.str d.kind,d.body.dat]
noncomputable def oD:Option Str→PyData
 | none=>.none
 | some s=>.str s
noncomputable def Z5y (h:Hs):PyData:=.tuple [.str h.name,oD h.elder,Z3k h.fields,.tuple (h.words.map Z5s)]
noncomputable def J6q (P:Pg):PyData:=.tuple [.tuple (P.houses.map Z5y),.tuple [Z3k P.main.params,.str P.main.kind,P.main.body.dat]]
inductive WdO (K:W.Frag) (c:CS) (H:Hp):V→Wd→Prop
 | mk {a dx pt:Addr} {bv:V} {d:Wd}:H a=some (.ins c.word dx [("name",.str d.name),("params",.ref pt),("kind",.str d.kind),("body",bv)])→RT K H (.ref pt) (Z3k d.params)→TO K c.term H bv d.body→WdO K c H (.ref a) d
inductive HsO (K:W.Frag) (c:CS) (H:Hp):V→Hs→Prop
 | mk {a dx ft wt:Addr} {ws:List V} {h:Hs}:H a=some (.ins c.house dx [("name",.str h.name),("elder",oS h.elder),("own_fields",.ref ft),("own_words",.ref wt)])→RT K H (.ref ft) (Z3k h.fields)→SqT K H wt ws→A2 (WdO K c H) ws h.words→HsO K c H (.ref a) h
inductive PgO (K:W.Frag) (c:CS) (H:Hp):V→Pg→Prop
 | mk {a dx ht:Addr} {hs:List V} {mv:V} {P:Pg}:H a=some (.ins c.program dx [("all_houses",.ref ht),("main",mv)])→SqT K H ht hs→A2 (HsO K c H) hs P.houses→WdO K c H mv P.main→PgO K c H (.ref a) P
structure WdOk (d:Wd):Prop where
 ok:P15.Ok d.body
 fl:d.body.flat.length≤100
 pl:d.params.length≤100
structure HsOk (h:Hs):Prop where
 wd:∀ d∈h.words,WdOk d
 fl:h.fields.length≤100
 wl:h.words.length≤100
structure GOk (P:Pg):Prop where
 nd:(P.houses.map Hs.name).Nodup
 hs:∀ h∈P.houses,HsOk h
inductive HlO (K:W.Frag) (c:CS) (H:Hp):V→Pg→Prop
 | mk {a dx io d:Addr} {kvs:List (Key×V)} {P:Pg}:H a=some (.ins c.hall dx [("in_order",.ref io),("by_name",.ref d)])→H d=some (.dK kvs)→A2 (fun kv h=>kv.1=.inr h.name∧HsO K c H kv.2 h) kvs P.houses→GOk P→HlO K c H (.ref a) P
section
variable {K:W.Frag} {H H':Hp} {c:CS}
theorem WdO.kw (ok:c.Ok) {v:V} {d:Wd} (h:WdO K c H v d) (k:Kw c.walk H H'):WdO K c H' v d:=by
 cases h with
 | mk a b t=>exact .mk (k.i _ _ _ _ _ ok.word a) (b.kt k.kt) (TO.kw ok.term k t)
theorem HsO.kw (ok:c.Ok) {v:V} {d:Hs} (h:HsO K c H v d) (k:Kw c.walk H H'):HsO K c H' v d:=by
 cases h with
 | mk a b s t=>exact .mk (k.i _ _ _ _ _ ok.house a) (b.kt k.kt) (SqT.kt s k.kt) (t.mono fun _ _ r=>r.kw ok k)
theorem HlO.kw (ok:c.Ok) {v:V} {P:Pg} (h:HlO K c H v P) (k:Kw c.walk H H'):HlO K c H' v P:=by
 cases h with
 | mk a d r n=>exact .mk (k.i _ _ _ _ _ ok.hall a) (k.d _ _ d) (r.mono fun _ _ r=>⟨r.1,r.2.kw ok k⟩) n
theorem WdO.same {v:V} {d:Wd} (h:WdO K c H v d) (s:Same H H'):WdO K c H' v d:=by
 cases h with
 | mk a b t=>exact .mk (s _ _ a) (b.same s) (t.kp (Kp.of s))
theorem HsO.same {v:V} {d:Hs} (h:HsO K c H v d) (s:Same H H'):HsO K c H' v d:=by
 cases h with
 | mk a b q t=>exact .mk (s _ _ a) (b.same s) (SqT.kp q (Kp.of s)) (t.mono fun _ _ r=>r.same s)
theorem PgO.same {v:V} {d:Pg} (h:PgO K c H v d) (s:Same H H'):PgO K c H' v d:=by
 cases h with
 | mk a q t m=>exact .mk (s _ _ a) (SqT.kp q (Kp.of s)) (t.mono fun _ _ r=>r.same s) (m.same s)
theorem HlO.same {v:V} {P:Pg} (h:HlO K c H v P) (s:Same H H'):HlO K c H' v P:=by
 cases h with
 | mk a d r n=>exact .mk (s _ _ a) (s _ _ d) (r.mono fun _ _ r=>⟨r.1,r.2.same s⟩) n
theorem uniq {hs:List Hs}:(hs.map Hs.name).Nodup→∀ a b,a∈hs→b∈hs→a.name=b.name→a=b:=by
 induction hs with
 | nil=>intro _ a b h; cases h
 | cons x xs ih=>
  intro n a b ha hb e
  rw [List.map_cons,List.nodup_cons] at n
  rcases List.mem_cons.mp ha with z1 | ha' <;> rcases List.mem_cons.mp hb with z2 | hb'
  ·rw [z1,z2]
  ·exact absurd (by rw [← z1,e]; exact List.mem_map_of_mem hb') n.1
  ·exact absurd (by rw [← z2,← e]; exact List.mem_map_of_mem ha') n.1
  ·exact ih n.2 a b ha' hb' e
theorem J2L {hs:List Hs} {kvs:List (Key×V)} (r:A2 (fun kv h=>kv.1=.inr h.name∧HsO K c H kv.2 h) kvs hs) (n:(hs.map Hs.name).Nodup) {x:Hs} (hx:x∈hs):∃ v,valV kvs (.inr x.name)=some v∧HsO K c H v x:=by
 induction r with
 | nil=>cases hx
 | @cons p q as bs e _ ih=>
  rw [List.map_cons,List.nodup_cons] at n
  by_cases hq:q.name=x.name
  ·rcases List.mem_cons.mp hx with rfl | hx
   ·exact ⟨p.2,Z4d e.1,e.2⟩
   ·exact absurd (hq▸List.mem_map_of_mem hx) n.1
  ·rcases List.mem_cons.mp hx with rfl | hx
   ·exact absurd rfl hq
   ·rw [Z3z (by rw [e.1]; exact fun z=>hq (Sum.inr.inj z))]
    exact ih n.2 hx
end
inductive RWt (K:W.Frag) (c:CS) (H:Hp):V→Wt→Prop
 | walk {a:Addr} {tv sv:V} {t:Tm} {s:Sc}:H a=some (.tup [.str "walk",tv,sv])→TO K c.term H tv t→ScO c H sv s→RWt K c H (.ref a) (.walk t s)
 | choose {a:Addr} {tv sv:V} {t:Tm} {s:Sc}:H a=some (.tup [.str "choose",tv,sv])→TO K c.term H tv t→ScO c H sv s→RWt K c H (.ref a) (.choose t s)
 | finish {a:Addr} {tv sv:V} {t:Tm} {s:Sc}:H a=some (.tup [.str "finish",tv,sv])→TO K c.term H tv t→ScO c H sv s→RWt K c H (.ref a) (.finish t s)
 | leave {a:Addr}:H a=some (.tup [.str "leave",.non,.non])→RWt K c H (.ref a) .leave
def RMd (H:Hp) (m:V×Addr) (e:Str×List Vl):Prop:=∃ t vs,m.1=.ref t∧H t=some (.tup [.str e.1,.ref m.2])∧H m.2=some (.lst vs)∧A2 (RV H) vs e.2
inductive REn (K:W.Frag) (H:Hp):V→Option (List Str)→Prop
 | non:REn K H .non none
 | some {v:V} {l:List Str}:RT K H v (.tuple (l.map .str))→REn K H v (some l)
noncomputable def fsW (hl wA ml:Addr) (most c w:Nat) (ev:V):List (Str×V):=[("hall",.ref hl),("most",.int most),("waits",.ref wA),("made",.ref ml),("counted",.int c),("within",.int w),("ended",ev)]
structure Ad where
 dx:Addr
 hl:Addr
 wA:Addr
 dw:Addr
 wl:Addr
 kl:Addr
 ml:Addr
 ev:V
 ws:List V
 ks:List V
 mz:List (V×Addr)
structure WAd (K:W.Frag) (c:CS) (P:Pg) (most:Nat) (H:Hp) (a:Addr) (A:Ad) (S:Ws):Prop where
 wk:H a=some (.ins c.walk A.dx (fsW A.hl A.wA A.ml most S.counted S.within A.ev))
 wt:H A.wA=some (.ins c.waits A.dw [("waiting",.ref A.wl),("known",.ref A.kl)])
 hw:H A.wl=some (.lst A.ws)
 hk:H A.kl=some (.lst A.ks)
 hm:H A.ml=some (.lst (A.mz.map Prod.fst))
 rw:A2 (RWt K c H) A.ws S.wait.reverse
 rk:A2 (RV H) A.ks S.known.reverse
 rm:A2 (RMd H) A.mz S.made
 re:REn K H A.ev S.ended
 nd:(A.wl::A.kl::A.ml::A.mz.map Prod.snd).Nodup
 hl:HlO K c H (.ref A.hl) P
 sb:Same c.bs H
 ob:c.bs a=none∧c.bs A.wl=none∧c.bs A.kl=none∧c.bs A.ml=none∧∀ m∈A.mz,c.bs m.2=none
section
variable {K:W.Frag} {H H':Hp} {c:CS} {P:Pg} {most:Nat} {a:Addr} {A:Ad} {S:Ws}
theorem RWt.kw (ok:c.Ok) {v:V} {x:Wt} (h:RWt K c H v x) (k:Kw c.walk H H'):RWt K c H' v x:=by
 cases h with
 | walk a t s=>exact .walk (k.t _ _ a) (TO.kw ok.term k t) (s.kw ok k)
 | choose a t s=>exact .choose (k.t _ _ a) (TO.kw ok.term k t) (s.kw ok k)
 | finish a t s=>exact .finish (k.t _ _ a) (TO.kw ok.term k t) (s.kw ok k)
 | leave a=>exact .leave (k.t _ _ a)
theorem REn.kw {C:Addr} {v:V} {x:Option (List Str)} (h:REn K H v x) (k:Kw C H H'):REn K H' v x:=by
 cases h with
 | non=>exact .non
 | some r=>exact .some (r.kt k.kt)
theorem RMd.kw {C:Addr} {m:V×Addr} {e:Str×List Vl} (h:RMd H m e) (k:Kw C H H') (hs:∀ vs,H m.2=some (.lst vs)→H' m.2=some (.lst vs)):RMd H' m e:=by
 obtain ⟨t,vs,a,b,d,r⟩:=h
 exact ⟨t,vs,a,k.t _ _ b,hs _ d,r.mono fun _ _ q=>q.kw k⟩
theorem Z3I {Bs:Hp} {x:Addr} {o:HO} (s:Same Bs H) (n:Bs x=none):Same Bs (upd H x o):=fun b u e=>by rw [Z0j (Z0i e n)]; exact s _ _ e
theorem WAd.same (ok:c.Ok) (h:WAd K c P most H a A S) (s:Same H H'):WAd K c P most H' a A S:=
 have k:Kw c.walk H H':=Kw.of s
 ⟨s _ _ h.wk,s _ _ h.wt,s _ _ h.hw,s _ _ h.hk,s _ _ h.hm,h.rw.mono fun _ _ r=>r.kw ok k,h.rk.mono fun _ _ r=>r.kw k,h.rm.mono fun _ _ r=>r.kw k fun _ e=>s _ _ e,h.re.kw k,h.nd,h.hl.kw ok k,h.sb.trans s,h.ob⟩
theorem WAd.nwk (h:WAd K c P most H a A S):A.wl≠A.kl∧A.wl≠A.ml∧A.kl≠A.ml∧(∀ m∈A.mz,m.2≠A.wl∧m.2≠A.kl∧m.2≠A.ml)∧(A.mz.map Prod.snd).Nodup:=by
 have n:=h.nd
 rw [List.nodup_cons,List.nodup_cons,List.nodup_cons] at n
 obtain ⟨n1,n2,n3,n4⟩:=n
 simp only [List.mem_cons,not_or] at n1 n2
 refine ⟨n1.1,n1.2.1,n2.1,fun m hm=>⟨fun z=>n1.2.2 (z▸List.mem_map_of_mem hm),fun z=>n2.2 (z▸List.mem_map_of_mem hm),fun z=>n3 (z▸List.mem_map_of_mem hm)⟩,n4⟩
theorem WAd.push (ok:c.Ok) (h:WAd K c P most H a A S) {v:V} {x:Wt} (r:RWt K c H v x):WAd K c P most (upd H A.wl (.lst (A.ws++[v]))) a { A with ws:=A.ws++[v] } { S with wait:=x::S.wait }:=by
 have k:Kw c.walk H (upd H A.wl (.lst (A.ws++[v]))):=Kw.lst _ h.hw
 obtain ⟨n1,n2,n3,n4,n5⟩:=h.nwk
 refine ⟨?_,?_,Z0e,?_,?_,?_,h.rk.mono fun _ _ r=>r.kw k,h.rm.monoM fun m e hm r=>r.kw k fun vs q=>?_,h.re.kw k,h.nd,h.hl.kw ok k,Z3I h.sb h.ob.2.1,h.ob⟩
 ·rw [Z0j (fun z=>by have:=h.hw; rw [← z,h.wk] at this; cases this)]; exact h.wk
 ·rw [Z0j (fun z=>by have:=h.hw; rw [← z,h.wt] at this; cases this)]; exact h.wt
 ·rw [Z0j n1.symm]; exact h.hk
 ·rw [Z0j n2.symm]; exact h.hm
 ·show A2 _ _ (x::S.wait).reverse
  rw [List.reverse_cons]
  exact (h.rw.mono fun _ _ r=>r.kw ok k).snoc (r.kw ok k)
 ·rw [Z0j (n4 m hm).1]; exact q
theorem WAd.pop (ok:c.Ok) {x:Wt} {W:List Wt} (h:WAd K c P most H a A S) (e:S.wait=x::W):∃ ws v,A.ws=ws++[v]∧RWt K c H v x∧WAd K c P most (upd H A.wl (.lst ws)) a { A with ws:=ws } { S with wait:=W }:=by
 have hr:=h.rw
 rw [e,List.reverse_cons] at hr
 obtain ⟨ws,v,ew,r1,r2⟩:=hr.last
 have k:Kw c.walk H (upd H A.wl (.lst ws)):=Kw.lst _ h.hw
 obtain ⟨n1,n2,n3,n4,n5⟩:=h.nwk
 refine ⟨ws,v,ew,r2,?_,?_,Z0e,?_,?_,r1.mono fun _ _ r=>r.kw ok k,h.rk.mono fun _ _ r=>r.kw k,h.rm.monoM fun m e hm r=>r.kw k fun vs q=>?_,h.re.kw k,h.nd,h.hl.kw ok k,Z3I h.sb h.ob.2.1,h.ob⟩
 ·rw [Z0j (fun z=>by have:=h.hw; rw [← z,h.wk] at this; cases this)]; exact h.wk
 ·rw [Z0j (fun z=>by have:=h.hw; rw [← z,h.wt] at this; cases this)]; exact h.wt
 ·rw [Z0j n1.symm]; exact h.hk
 ·rw [Z0j n2.symm]; exact h.hm
 ·rw [Z0j (n4 m hm).1]; exact q
theorem WAd.know (ok:c.Ok) (h:WAd K c P most H a A S) {ks:List V} {kn:List Vl} (r:A2 (RV H) ks kn.reverse):WAd K c P most (upd H A.kl (.lst ks)) a { A with ks:=ks } { S with known:=kn }:=by
 have k:Kw c.walk H (upd H A.kl (.lst ks)):=Kw.lst _ h.hk
 obtain ⟨n1,n2,n3,n4,n5⟩:=h.nwk
 refine ⟨?_,?_,?_,Z0e,?_,h.rw.mono fun _ _ r=>r.kw ok k,r.mono fun _ _ r=>r.kw k,h.rm.monoM fun m e hm r=>r.kw k fun vs q=>?_,h.re.kw k,h.nd,h.hl.kw ok k,Z3I h.sb h.ob.2.2.1,h.ob⟩
 ·rw [Z0j (fun z=>by have:=h.hk; rw [← z,h.wk] at this; cases this)]; exact h.wk
 ·rw [Z0j (fun z=>by have:=h.hk; rw [← z,h.wt] at this; cases this)]; exact h.wt
 ·rw [Z0j n1]; exact h.hw
 ·rw [Z0j n3.symm]; exact h.hm
 ·rw [Z0j (n4 m hm).2.1]; exact q
theorem WAd.know1 (ok:c.Ok) (h:WAd K c P most H a A S) {v:V} {x:Vl} (r:RV H v x):WAd K c P most (upd H A.kl (.lst (A.ks++[v]))) a { A with ks:=A.ks++[v] } { S with known:=x::S.known }:=
 h.know ok (by rw [List.reverse_cons]; exact h.rk.snoc r)
end
section
variable {K:W.Frag} {H:Hp} {c:CS} {B:Hp}
theorem WdO.cb {v:V} {d:Wd} (h:WdO K c H v d):WdO K { c with bs:=B } H v d:=by
 cases h with
 | mk a b t=>exact .mk a b t
theorem HsO.cb {v:V} {d:Hs} (h:HsO K c H v d):HsO K { c with bs:=B } H v d:=by
 cases h with
 | mk a b s t=>exact .mk a b s (t.mono fun _ _ r=>r.cb)
theorem PgO.cb {v:V} {d:Pg} (h:PgO K c H v d):PgO K { c with bs:=B } H v d:=by
 cases h with
 | mk a q t m=>exact .mk a q (t.mono fun _ _ r=>r.cb) m.cb
end
end WK
end
section
namespace PySem
theorem J5I:entryFor table "zip.__getattribute__"=some Builtin.«object.__getattribute__»:=by
 refine entryFor_alias (id':="object.__getattribute__") ?_ ?_ ?_ ?_ <;> first | kernel_rfl | decide +kernel
theorem J3f:typeLookup (.type "zip") "__getattr__"=pure none:=am_miss_of_fast (by decide +kernel)
theorem J2T:typeLookup (.type "zip") "keys"=pure none:=am_miss_of_fast (by decide +kernel)
theorem J2v {a:Addr} {vs:Array Value} (u:Tok):Meets (Builtin.«object.__getattribute__» ⟨[.ref a,.str "keys" u],[]⟩) (fun A R s=>s.heap.get? a=some { cls:=.type "zip",data:=.fields vs }∧raisesAttr (.ref a) "keys" A R s):=by
 refine .of_wp fun pr wo B Rs st sp=>?_
 obtain ⟨hp,g,d,tk,os⟩:=st
 obtain ⟨hx,hr⟩:=sp
 have hT:(⟨hp,g,d,tk,os⟩:Shared).TypeIs (.ref a) "zip":=⟨_,hx,rfl⟩
 have f1:=J2T; unfold Builtin.«object.__getattribute__»; wp_walk using wpAny_loadPart' hx
 exact wpAny_raiseAttrError hr.1 hr.2 (attrMsg_fits (by decide +kernel) (by decide +kernel))
theorem Z9w {prog:Program} {w:World} {A:Around} {E:Value→Shared→Prop} {s:Shared} {a:Addr} {vs:Array Value} {Q:Option Value→Shared→Prop} (hA:A.handled=none) (hx:s.heap.get? a=some { cls:=.type "zip",data:=.fields vs })
  (h:∀ h' tk,(∀ b o,s.heap.get? b=some o→h'.get? b=some o)→Q none { s with heap:=h',toks:=tk }):wpAny (model prog w) A (getAttr? (.ref a) "keys") Q E s:=by
 obtain ⟨hp,g,d,tk,os⟩:=s
 have hT:(⟨hp,g,d,tk,os⟩:Shared).TypeIs (.ref a) "zip":=⟨_,hx,rfl⟩
 have f1:=sub_AttributeError
 have f3:=F.slot_zip_getattribute.lookup
 have f4:=F.slot_zip_getattribute.bind (.ref a)
 have f5:=J3f
 unfold getAttr? getAttrBy? getAttrBy
 repeat (any_goals (first | assumption | ((with_reducible show wpAny _ _ (call (Value.builtin "zip.__getattribute__") _ _) _ _ _); refine call_meets F.slot_zip_getattribute hT J5I (F.args_zip_getattribute_2 _ _) (J2v _) ⟨hx,hA,fun h' tk' e hx'=>?_⟩) | wp_step))
 obtain ⟨ty,ut,hy⟩:=hx'.there
 show wpAny _ _ (getattributeRaised _ _ _ _ _ _ _) _ _ _; unfold getattributeRaised; repeat (any_goals (first | assumption | wp_step))
 exact h _ _ hx'.keeps
end PySem
end
section
namespace L2
open PySem PySem.Spec PyProof.Rows
theorem Z5g:entryFor table "dict.update.loop"=some Builtin.«dict.update.loop»:=entryFor_of_tree (by kernel_rfl)
theorem Z2G:plainId "dict.update.loop"=true:=by decide +kernel
def absD (ks:Nat→Key) (ys:Nat→V):Nat→List (Key×V)
 | 0=>[]
 | i+1=>putK (absD ks ys i) (ks i) (ys i)
theorem Z7D (ks:Nat→Key) (ys:Nat→V):∀ i,(absD ks ys i).length≤i
 | 0=>Nat.le_refl _
 | i+1=>by
  have:=Z3N (absD ks ys i) (ks i) (ys i)
  have:=Z7D ks ys i
  show (putK _ _ _).length≤_
  omega
section
variable {P:Program} {w:World} {B:Around} {E:Value→Shared→Prop} {it Z:Addr} {n:Nat} {St:Nat→Array Value→Shared→Prop} {Fin:Array Value→Shared→Prop} {R:Result→Shared→Prop}
theorem Z7a (W:Z7B P w B.in1 it Z n St Fin) (fr:∀ (i:Nat) (acc:Array Value) (s:Shared) (h':Heap) (t:Nat),St i acc s→(∀ b o,b≠Z→s.heap.get? b=some o→h'.get? b=some o)→s.heap.objs.size≤h'.objs.size→St i acc { s with heap:=h',toks:=t }) (ks:Nat→Key) (ys:Nat→V)
  (pr:∀ (i:Nat) (acc:Array Value) (v:Value) (s:Shared),i < n→St (i+1) (acc.push v) s→∃ T uk uv o m,v=.ref T∧s.heap.get? T=some o∧o.cls=.type "tuple"∧o.data=.seq #[uk,uv] m∧(Z0N P w).is (ks i) uk=true∧RelV (ys i) uv) (hn:n≤sizeLine) (res:Value) :
  ∀ (k i:Nat) (s:Shared) (acc:Array Value) (vs:List (Key×Value)),n - i=k→i≤n→St i acc s→KV (absD ks ys i) vs→s.heap.DictOf (Z0N P w) Z vs →
  (∀ s' acc' vs',Fin acc' s'→KV (absD ks ys n) vs'→s'.heap.DictOf (Z0N P w) Z vs'→R (.ok (.ret res)) s')→codeAny (model P w) B (.builtin "dict.update.loop" ⟨[.ref Z,.ref it,rawInt i,res],[]⟩) R s:=by
 intro k
 induction k with
 | zero=>
  intro i s acc vs hk hi st kv g q
  have ei:i=n:=Nat.le_antisymm hi (Nat.sub_eq_zero_iff_le.mp hk)
  subst ei
  refine codeAny_builtin Z5g ?_; rw [Around.under_plainId Z2G ⟨[.ref Z,.ref it,rawInt i,res],[]⟩]
  show wpAny (model P w) B.in1 (pyNext (.ref it) >>= _) _ _ s
  refine wpAny_bind (W.done acc s _ _ st fun s' f kz=>?_)
  show wpAny _ _ (Builtin.Dict.addKeywords Z [] >>= _) _ _ _
  exact wpAny_bind (wpAny_pure (wpAny_pure (q s' acc vs f kv (g.at kz))))
 | succ k ih=>
  intro i s acc vs hk hi st kv g q
  have lt:i < n:=by omega
  refine codeAny_builtin Z5g ?_; rw [Around.under_plainId Z2G ⟨[.ref Z,.ref it,rawInt i,res],[]⟩]
  show wpAny (model P w) B.in1 (pyNext (.ref it) >>= _) _ _ s
  refine wpAny_bind (W.item i acc s _ _ lt st fun v s1 st1 kz=>?_)
  obtain ⟨T,uk,uv,⟨oc,odc,oda,osl⟩,m,rfl,hp,hcl,hda,hk1,hv1⟩:=pr i acc v s1 lt st1
  dsimp only at hcl hda
  subst hcl hda
  have g1:=g.at kz
  dsimp only
  refine wpAny_bind (wpAny_holding (wpAny_bind (wpAny_tryCatch ?_)))
  unfold Builtin.Dict.pairItems
  refine wpAny_bind (wpAny_typeOf (T:="tuple") ⟨_,hp,rfl⟩ ?_)
  have e0:(Value.type "tuple" == Value.type "list" || Value.type "tuple" == Value.type "tuple")=true:=by decide
  rw [if_pos e0]
  unfold seqItems?
  refine wpAny_bind (wpAny_bind (wpAny_load hp (wpAny_pure ?_)))
  refine wpAny_pure ?_
  show wpAny (model P w) B.in1 (holding [uk,uv] (dictSet Z uk uv)) _ _ _
  have hl:vs.length≤sizeLine:=by
   rw [← kv.length]
   exact Nat.le_trans (Z7D ks ys i) (Nat.le_trans hi hn)
  refine wpAny_holding (wpAny_dictSet_pairs (hsz:=hl) hk1 g1 fun h' dd hs=>?_)
  refine wpAny_pure ⟨plainId_quiet Z2G ⟨[.ref Z,.ref it,rawInt ((i:Int)+1),res],[]⟩,?_⟩
  exact ih (i+1) _ (acc.push (.ref T)) (stored vs (ks i) uv) (by omega) lt (fr (i+1) _ s1 h' _ st1 (fun b o hb e=>(hs.2 b hb).trans e) (Nat.le_of_eq hs.1.symm)) (KV.put kv (ks i) hv1) dd q
end
end L2
end
section
namespace L2
open PySem PySem.Spec PyProof.Rows
section
variable {P:Program} {w:World} {B:Around} {E:Value→Shared→Prop} {s:Shared} {it:Addr} {n:Nat} {St:Nat→Array Value→Shared→Prop} {Fin:Array Value→Shared→Prop}
theorem J1h {Q:Value→Shared→Prop} (hB:B.handled=none) (hZI:s.heap.objs.size≠it) (W:Z7B P w B.in1.in1 it s.heap.objs.size n St Fin)
  (zz:∀ s,St 0 #[] s→∃ vs,s.heap.get? it=some { cls:=.type "zip",data:=.fields vs })
  (fr:∀ (i:Nat) (acc:Array Value) (s1:Shared) (h':Heap) (t:Nat),St i acc s1→(∀ b o,b≠s.heap.objs.size→s1.heap.get? b=some o→h'.get? b=some o)→s1.heap.objs.size≤h'.objs.size→St i acc { s1 with heap:=h',toks:=t })
  (hs:∀ (A:Around) (s:Shared) (Q:Value→Shared→Prop) (E:Value→Shared→Prop),St 0 #[] s→Q (.ref it) s→wpAny (model P w) A (pyIter (.ref it)) Q E s) (ks:Nat→Key) (ys:Nat→V)
  (pr:∀ (i:Nat) (acc:Array Value) (v:Value) (s:Shared),i < n→St (i+1) (acc.push v) s→∃ T uk uv o m,v=.ref T∧s.heap.get? T=some o∧o.cls=.type "tuple"∧o.data=.seq #[uk,uv] m∧(Z0N P w).is (ks i) uk=true∧RelV (ys i) uv)
  (st:St 0 #[] { s with heap:=s.heap.push { cls:=.type "dict",data:=.dict #[] } })
  (hQ:∀ s' acc vs,Fin acc s'→KV (absD ks ys n) vs→s'.heap.DictOf (Z0N P w) s.heap.objs.size vs→Q (.ref s.heap.objs.size) s') (hn:n≤sizeLine):wpAny (model P w) B (call (.type "dict") [.ref it]) Q E s:=by
 refine callType_codes (Q₁:=fun ob sn=>ob=.ref s.heap.objs.size∧sn={ s with heap:=s.heap.push { cls:=.type "dict",data:=.dict #[] } }) F.kt_called_dict (F.kt_typeCall_dict_1 _) F.entry_dict_init (kt_code_dict_new _ ⟨rfl,rfl⟩) ?_
 rintro ob sn ⟨rfl,rfl⟩
 have hnew:({ s with heap:=s.heap.push { cls:=.type "dict",data:=.dict #[] } }:Shared).heap.DictOf (Z0N P w) s.heap.objs.size []:=Heap.DictOf.new s.heap
 have es:({ s with heap:=s.heap.push { cls:=.type "dict",data:=.dict #[] } }:Shared).heap.objs.size=s.heap.objs.size+1:=Heap.size_push ..
 generalize ({ s with heap:=s.heap.push { cls:=.type "dict",data:=.dict #[] } }:Shared)=s1 at *
 refine ⟨hnew.typeIs,F.args_dict_init_2 _ _,?_⟩; unfold Builtin.«dict.__init__»; refine wpAny_bind ?_; unfold Builtin.Dict.selfAndRest; refine wpAny_bind (wpAny_notOrdered_dict hnew.typeIs ?_)
 show wpAny _ _ (pure (s.heap.objs.size,[Value.ref it])) _ _ _
 refine wpAny_pure ?_
 show wpAny _ _ (Builtin.Dict.updateFrom "dict.__init__" s.heap.objs.size (.ref it) [] .none) _ _ _; unfold Builtin.Dict.updateFrom; obtain ⟨vs,hz⟩:=zz _ st
 refine wpAny_bind (wpAny_typeOf (T:="zip") ⟨_,hz,rfl⟩ ?_)
 rw [if_pos (by decide)]
 refine wpAny_bind (Z9w (show B.in1.in1.handled=none from hB) hz fun h' tk kp=>?_)
 have sz':s1.heap.objs.size≤h'.objs.size:=by
  obtain ⟨o,_,_,ho,_⟩:=hnew
  rw [es]
  exact Heap.lt_size (kp _ _ ho)
 have st':=fr 0 #[] s1 h' tk st (fun b o _ e=>kp b o e) sz'
 show wpAny _ _ (rule _ >>= _) _ _ _
 refine wpAny_bind (wpAny_rule (wpAny_bind (hs _ _ _ _ st' ?_)))
 refine wpAny_pure ⟨plainId_quiet Z2G ⟨[.ref s.heap.objs.size,.ref it,rawInt 0,.none],[]⟩,?_⟩
 exact Z7a W fr ks ys pr hn .none n 0 _ #[] [] rfl (Nat.zero_le _) st' .nil (hnew.at fun o e=>kp _ o e) fun s2 acc vs2 f kv g=>⟨rfl,hQ s2 acc vs2 f kv g⟩
end
end L2
end
section
namespace L2
open PySem PySem.Spec PyProof.Rows
noncomputable def zipD (ks:List Str) (ys:List V):List (Key×V):=absD (fun i=>.inr (ks.getD i "")) (fun i=>ys.getD i .non) (min ks.length ys.length)
def J5S (K:W.Frag) (t:TA):TE:=fun σ H Q=>t σ H fun vs H1=>∃ (a b:Addr) (ks:List Str) (ys:List V),vs=[.ref a,.ref b]∧SqL K H1 a (ks.map V.str)∧SqL K H1 b ys∧∀ d H2,H1 d=none→Same H1 H2→H2 d=some (.dK (zipD ks ys))→Q (.ref d) H2
theorem J7q {K:W.Frag} {t:TA} {σ:St} {H:Hp} {Q:VK}:J5S K t σ H Q=t σ H fun vs H1=>∃ (a b:Addr) (ks:List Str) (ys:List V),vs=[.ref a,.ref b]∧SqL K H1 a (ks.map V.str)∧SqL K H1 b ys∧∀ d H2,H1 d=none→Same H1 H2→H2 d=some (.dK (zipD ks ys))→Q (.ref d) H2:=rfl
section
variable {X:Cx} {pins:List (Addr×Obj)} {σ:St} {H1:Hp} {s1:Shared} {l1 l2:Addr} {xs ys:List V}
theorem J1I (I1:Inv X pins σ H1 s1) {i:Nat} {acc:Array Value} {s:Shared} {h2:Heap} {t2:Nat} (h:ZSt X pins σ H1 s1 l1 l2 xs ys i acc s) (kz:∀ b o,b≠s1.heap.objs.size+5→s.heap.get? b=some o→h2.get? b=some o) (es:s.heap.objs.size≤h2.objs.size) :
  ZSt X pins σ H1 s1 l1 l2 xs ys i acc { s with heap:=h2,toks:=t2 }:=by
 obtain ⟨h',tk,Hi,rfl,I,sm,sz,nn,zp,ti,⟨ta,tb,to⟩,j1,j2,ez,ha⟩:=h
 have fp:=(I1.fpOk (b:=s1.heap.objs.size+5) (Nat.le_add_right _ _) (I1.hok.fresh (Nat.le_add_right _ _))).to (nn 5 (by decide))
 obtain ⟨f0,f1,f2,f3,f4,f5⟩:=fp
 refine ⟨h2,t2,Hi,rfl,I.turned (t':=t2) kz f0 f1 f3 f4 f5,sm,Nat.le_trans sz es,nn,?_,kz _ _ (apart (by decide)) ti,⟨ta,tb,kz _ _ (apart (by decide)) to⟩,j1.at fun o e=>kz _ o (Z2g (by decide)) e,j2.at fun o e=>kz _ o (apart (by decide)) e,ez,ha⟩
 rcases zp with ⟨a,b⟩ | ⟨T,f,o,a,b,c⟩
 ·exact .inl ⟨a,kz _ _ (apart (by decide)) b⟩
 ·exact .inr ⟨T,f,o,kz _ _ (apart (by decide)) a,kz _ _ (fun z=>absurd c (by rw [z]; exact Nat.not_le.mpr (Nat.add_lt_add_left (by decide) _))) b,c⟩
theorem J5u {ks:List Str} {i:Nat} {acc:Array Value} {v:Value} {s:Shared} (h:ZSt X pins σ H1 s1 l1 l2 (ks.map V.str) ys (i+1) (acc.push v) s) :
  ∃ T uk uv o m,v=.ref T∧s.heap.get? T=some o∧o.cls=.type "tuple"∧o.data=.seq #[uk,uv] m∧(Z0N X.prog X.w).is (.inr (ks.getD i "")) uk=true∧RelV (ys.getD i .non) uv:=by
 obtain ⟨h',tk,Hi,rfl,I,sm,sz,nn,zp,ti,to,j1,j2,ez,ha⟩:=h
 have es:acc.size=i:=by rw [Array.size_push] at ez; exact Nat.succ.inj ez
 have hv:(acc.push v)[i]?=some v:=by rw [← es]; simp
 obtain ⟨T,x,y,rfl,hx,hy,hT⟩:=ha i v hv
 rw [List.getElem?_map] at hx
 obtain ⟨k,hk,rfl⟩:=Option.map_eq_some_iff.mp hx
 obtain ⟨_,us,rv,o,go,oc,m,od⟩:=I.hok T _ hT
 obtain ⟨u1,u2,rfl,r1,r2⟩:=rv.two
 refine ⟨T,u1,u2,o,m,rfl,go,oc,od,?_,?_⟩
 ·rw [show ks.getD i ""=k by rw [List.getD_eq_getElem?_getD,hk]; rfl]
  exact J2k (k:=.inr k) r1
 ·rw [show ys.getD i .non=y by rw [List.getD_eq_getElem?_getD,hy]; rfl]
  exact r2
theorem J4d {x1 x2:Expr} {ta:TA} {p p2 pos pos2:Pos} (hc:X.calm=true) (hg:Gl X "dict") (hg2:Gl X "zip") (hm:X.mg "dict"=none) (hm2:X.mg "zip"=none) (ha:PA X [x1,x2] ta)
  (hs:starEach [x1,x2] X.env=(false,eval x1 X.env)::starEach [x2] X.env:=by rfl) (hpl:(backTo pos2 (starEach [x2] X.env)).any (·.1)=false:=by rfl) (hs2:starEach [.Call (.Name "zip" p2) [x1,x2] [] pos2] X.env=[(false,eval (.Call (.Name "zip" p2) [x1,x2] [] pos2) X.env)]:=by rfl) :
  PE X (.Call (.Name "dict" p) [.Call (.Name "zip" p2) [x1,x2] [] pos2] [] pos) (J5S X.K ta):=by
 intro pins s σ H Q I h
 refine Call_ (Z3o I hg hm rfl (PyProof.Rows.callWith_type1 ?_ hs2 rfl))
 rw [hs2]
 show wpAny (model X.prog X.w) X.A (spliced ((false,eval (.Call (.Name "zip" p2) [x1,x2] [] pos2) X.env)::backTo pos [])) _ _ s; refine Calls.spliced_cons ?_
 refine Call_ (Z3o I hg2 hm2 rfl (PyProof.Rows.callWith_type1 (thn (ha pos2 pins s σ H _ I h) fun us s1 hz=>?_) hs hpl))
 obtain ⟨vs,H1,I1,r1,l1,l2,ks,ys,rfl,q1,q2,q⟩:=hz
 obtain ⟨u1,u2,rfl,ru1,ru2⟩:=r1.two
 cases ru1
 cases ru2
 obtain ⟨its1,rv1,pl1,hz1⟩:=I1.list q1
 obtain ⟨its2,rv2,pl2,hz2⟩:=I1.list q2
 obtain ⟨o1,g1,_⟩:=id pl1.isList
 obtain ⟨o2,g2,_⟩:=id pl2.isList
 have lt1:=Heap.lt_size g1
 have lt2:=Heap.lt_size g2
 refine call_zip_2 pl1.isList pl2.isList fun h' zz tti tto j1 j2 es kk=>Calls.spliced_nil ?_
 have W:=J1F (A:=X.A.in1.in1) (show X.A.in1.in1.handled=none from I1.ok.hd hc) I1 q1 q2 lt1 lt2
 have ez:({ s1 with heap:=h' }:Shared).heap.objs.size=s1.heap.objs.size+5:=es
 have hn:min (ks.map V.str).length ys.length≤sizeLine:=Nat.le_trans (Nat.min_le_left _ _) hz1
 have hm:min (ks.map V.str).length ys.length=min ks.length ys.length:=by rw [List.length_map]
 refine J1h (s:={ s1 with heap:=h' }) (n:=min (ks.map V.str).length ys.length) (St:=ZSt X pins σ H1 s1 l1 l2 (ks.map V.str) ys) (Fin:=ZFin X pins σ H1 s1 (ks.map V.str) ys) (I1.ok.hd hc) (by rw [ez]; exact apart (by decide)) (by rw [ez]; exact W) (fun s' z=>?_)
  (fun i acc s2 h2 t2 z k hz=>J1I I1 z (fun b o hb e=>k b o (by rw [ez]; exact hb) e) hz) (fun A s' Q' E' z hq'=>?_) (fun i=>.inr (ks.getD i "")) (fun i=>ys.getD i .non) (fun i acc v s2 hi z=>J5u z) ?_ (fun s' acc vs fin kv g=>?_) hn
 ·obtain ⟨h2,tk,Hi,rfl,_,_,_,_,zp,_⟩:=z
  rcases zp with ⟨_,b⟩ | ⟨T,f,o,b,_⟩
  ·exact ⟨_,b⟩
  ·exact ⟨_,b⟩
 ·obtain ⟨h2,tk,Hi,rfl,_,_,_,_,zp,_⟩:=z
  rcases zp with ⟨_,b⟩ | ⟨T,f,o,b,_⟩
  ·exact wpAny_pyIter_zip b hq'
  ·have ty:({ s1 with heap:=h2,toks:=tk }:Shared).TypeIs (.ref (s1.heap.objs.size+4)) "zip":=⟨_,b,rfl⟩
   refine wpAny_pyIter_slot ty PySem.F.slot_zip_iter (wpAny_call_entry PySem.F.slot_zip_iter ty PySem.F.entry_zip_iter ?_ (PySem.F.args_zip_iter_1 _))
   exact wpAny_pure ⟨_,rfl,"zip",_,ty,PySem.F.slot_zip_next.lookup,hq'⟩
 ·refine ⟨_,s1.toks,H1,rfl,I1.kept (t':=s1.toks) fun b o e=>Heap.get?_push_of_some _ (kk b o e),Same.refl _,?_,fun a _=>I1.hok.fresh (Nat.le_add_right _ _),.inl ⟨rfl,Heap.get?_push_of_some _ zz⟩,Heap.get?_push_of_some _ tti,⟨_,_,Heap.get?_push_of_some _ tto⟩,j1.at fun o e=>Heap.get?_push_of_some _ e,j2.at fun o e=>Heap.get?_push_of_some _ e,rfl,fun k v hk=>by simp at hk⟩
  rw [Heap.size_push]; exact Nat.le_of_eq (by rw [es])
 ·obtain ⟨h2,tk,Hi,rfl,I2,sm,nn,ha'⟩:=fin
  rw [ez] at g ⊢
  have fz:=nn 5 (by decide)
  have hl:(zipD ks ys).length≤sizeLine:=by
   have:=Z7D (fun i=>.inr (ks.getD i "")) (fun i=>ys.getD i .non) (min ks.length ys.length)
   rw [hm] at hn
   exact Nat.le_trans this hn
  rw [hm] at kv
  have hb:=I1.big
  refine ⟨.ref _,upd Hi (s1.heap.objs.size+5) (.dK (zipD ks ys)),Inv.grow (s:={ s1 with heap:=h2,toks:=tk }) (t':=tk) (ch:=[s1.heap.objs.size+5]) I2 (fun b hb=>?_) (fun b o _ e=>e) (fun b o e=>?_) (fun b o n e=>?_),rfl,q _ _ (I1.hok.fresh (Nat.le_add_right _ _)) (fun b o e=>?_) Z0e⟩
  ·cases List.mem_singleton.mp hb
   exact (I1.fpOk (Nat.le_add_right _ _) (I1.hok.fresh (Nat.le_add_right _ _))).to fz
  ·rw [Z0j (Z0i e fz)]; exact e
  ·by_cases eb:b=s1.heap.objs.size+5
   ·subst eb
    rw [Z0e] at e
    cases e
    exact ⟨.inr (List.mem_singleton.mpr rfl),Z8a hl (beq_false_of_ne (Nat.ne_of_gt (Nat.lt_of_lt_of_le hb (Nat.le_add_right _ _)))) kv g⟩
   ·rw [Z0j eb,n] at e; cases e
  ·rw [Z0j (Z0i (sm _ _ e) fz)]; exact sm _ _ e
def J3v (xs:List V) (H:Hp) (Q:VK):Prop:=∃ a kvs,xs=[V.ref a]∧H a=some (.dK kvs)∧∀ p,H p=none→Q (.ref p) (upd H p (.dK kvs))
theorem J5Z {xs:List V} {H:Hp} {Q:VK}:J3v xs H Q=∃ a kvs,xs=[V.ref a]∧H a=some (.dK kvs)∧∀ p,H p=none→Q (.ref p) (upd H p (.dK kvs)):=rfl
theorem Z9g:Z4n X (.type "dict") J3v:=by
 intro pins s σ H xs us Q I r h
 obtain ⟨a,kvs,rfl,ha,q⟩:=h
 obtain ⟨u,rfl,ru⟩:=J0b r
 cases ru
 exact J2Z I (.inl ha) fun p s' hp I'=>⟨.ref p,_,I',rfl,q p hp⟩
def J3U:V→List V→Hp→VK→Prop:=fun x vs H Q=>∃ (l:Addr) (ks:List Str) (k:Str) (j:Nat),x=.ref l∧vs=[.str k]∧H l=some (.lst (ks.map V.str))∧ks[j]?=some k∧(∀ i,i < j→ks[i]?≠some k)∧Q (.int j) H
theorem J5z {x:V} {vs:List V} {H:Hp} {Q:VK}:J3U x vs H Q=∃ (l:Addr) (ks:List Str) (k:Str) (j:Nat),x=.ref l∧vs=[.str k]∧H l=some (.lst (ks.map V.str))∧ks[j]?=some k∧(∀ i,i < j→ks[i]?≠some k)∧Q (.int j) H:=rfl
theorem Z2S:∀ ks:List Str,(ks.map V.str).all Z5c=true
 | []=>rfl
 | _::ks=>by rw [List.map_cons,List.all_cons,Z2S ks]; rfl
theorem Z8C:MtM X "list.index" J3U:=by
 intro pins s σ H x vs v us Q I rx rv h
 obtain ⟨l,ks,k,j,rfl,rfl,hH,hj,hno,q⟩:=h
 cases rx
 obtain ⟨u,rfl,ru⟩:=rv.one
 obtain ⟨z,its,n,r,hl,e⟩:=I.lstM hH
 have hn:=Z7d
 have hjl:j < its.length:=by
  rw [← hl,List.length_map]
  exact (List.getElem?_eq_some_iff.mp hj).1
 have at_:∀ (m:Nat) (hm:m < its.toArray.size),∃ k',ks[m]?=some k'∧eqU (.str k) its.toArray[m]=eqV (.str k') (.str k):=fun m hm=>by
  have hm':m < its.length:=by simpa using hm
  have hk:m < ks.length:=by rw [← hl,List.length_map] at hm'; exact hm'
  obtain ⟨w,gw,rw'⟩:=r.get (i:=m) (x:=.str ks[m]) (by rw [List.getElem?_map,List.getElem?_eq_getElem hk]; rfl)
  refine ⟨ks[m],List.getElem?_eq_getElem hk,?_⟩
  have:its.toArray[m]=w:=by
   rw [List.getElem?_eq_getElem hm'] at gw
   simpa using gw
  rw [this,J1C rw' rfl]
 refine call_meets F.slot_list_index ⟨_,e,rfl⟩ F.entry_list_index (F.args_list_index_2 _ _) (SeqAt.list_indexAt l its.toArray n none #[] u (eqU (.str k)) j (by simpa using hjl) (by omega) ?_ ?_) ⟨e,fun y hy=>Z3F ru rfl r (Z2S ks) y (by simpa using hy),?_⟩
 ·obtain ⟨k',hk',e'⟩:=at_ j (by simpa using hjl)
  rw [e']
  rw [hj] at hk'
  cases hk'
  simp [eqV]
 ·intro m hm hmj
  obtain ⟨k',hk',e'⟩:=at_ m hm
  rw [e']
  have:=hno m hmj
  rw [hk'] at this
  have:k'≠k:=fun z=>this (by rw [z])
  simp [eqV,this]
 ·exact ⟨.int j,H,I.kept (t':=s.toks+1) (fun b o e=>e),⟨_,rfl⟩,q⟩
end
end L2
end
section
namespace L2
open PySem PySem.Spec PyProof.Rows
structure FnD (K:W.Frag) (mg:Str→Option Value) (x:Str) (st:Stmt) (d:V):Prop where
 ex:∃ (f dA:Addr) (oc:Value) (od:Option Addr) (kV doc pm:Value) (an:Option Addr) (cdv ct:Value) (osl:Array (Option Value)) (o:Obj) (u:Value) (n:Nat),
  K.lookup f=some ⟨oc,od,.func (W.fnOf x x (Z0h st) (Z0f st) (Z0b st) (.ref dA) kV doc pm an cdv ct),osl⟩∧W.codeIn K cdv x=true∧W.keepIn K (.ref f)=true∧mg x=some (.ref f) ∧
  K.lookup dA=some o∧o.data=.seq #[u] n∧RelV d u
structure HasF (P:Program) (w:World) (K:W.Frag) (mg:Str→Option Value) (base:Heap) (k:Nat) (x:Str) (ps:List Str) (sp:Sp) (dvs:List V):Prop where
 ex:∃ f fd ds,FnOk P w K mg base CX0 k f fd ps sp∧Binds K fd ps ds∧Vals dvs ds∧W.keepIn K (.ref f)=true∧mg x=some (.ref f)
section
variable {P:Program} {w:World} {K:W.Frag} {mg:Str→Option Value} {base:Heap}
theorem J5T {h:Heap} {x:Str} {st:Stmt} {f dA:Addr} {oc:Value} {od an:Option Addr} {osl:Array (Option Value)} {kV doc pm cdv ct:Value} {o:Obj} {u:Value} {n:Nat} {d:V} (X:K.In h) (G:h.Ns mainGlobals mg) (a:W.nsIn K mainGlobals x=some (some (.ref f)))
  (l:K.lookup f=some ⟨oc,od,.func (W.fnOf x x (Z0h st) (Z0f st) (Z0b st) (.ref dA) kV doc pm an cdv ct),osl⟩) (c:W.codeIn K cdv x=true) (k:W.keepIn K (.ref f)=true) (lo:K.lookup dA=some o) (ho:o.data=.seq #[u] n) (r:RelV d u):FnD K mg x st d:=
 ⟨f,dA,oc,od,kV,doc,pm,an,cdv,ct,osl,o,u,n,l,c,k,W.mg_of X G a,lo,ho,r⟩
theorem Has.ofD {x:Str} {st:Stmt} {N ps:List Str} {k:Nat} {sp:Sp} {d:V} (F:FnD K mg x st d) (S:Z0m N ps (Z0b st))
  (hb:∀ (kV doc pm:Value) (an:Option Addr) (cdv ct:Value) (dA:Addr) (u:Value) (us:List Value),us.length=ps.length →
   ∃ k,bindArgs (W.fnOf x x (Z0h st) (Z0f st) (Z0b st) (.ref dA) kV doc pm an cdv ct) ⟨us,[]⟩=seqItems? (.ref dA) >>= k∧k (some #[u])=pure (ps.zip us))
  (hb2:∀ (kV doc pm:Value) (an:Option Addr) (cdv ct:Value) (dA:Addr) (u:Value) (us:List Value),(us++[u]).length=ps.length →
   ∃ k,bindArgs (W.fnOf x x (Z0h st) (Z0f st) (Z0b st) (.ref dA) kV doc pm an cdv ct) ⟨us,[]⟩=seqItems? (.ref dA) >>= k∧k (some #[u])=pure (ps.zip (us++[u])))
  (len:∀ vs H Q E,sp vs H Q E→vs.length=ps.length)
  (hbody:∀ (f:Addr) (cdv:Value) (A:Around) (outer:List Env) (s:Shared) (H:Hp) (vs:List V) (Q:VK) (E:XK),Room k (A.deeper (envOfC x (Z0b st) s.heap.objs.size f cdv))→sp vs H Q E →
   ∃ t,PSs (cxOf CX0 P w K mg base N x (Z0b st) f cdv A outer s H E).nox (Z0f st) t∧t { nx:=fun _ H'=>Q .non H',rt:=Q } (Z4U N vs) H):Has P w K mg base (k+1) x ps sp∧HasF P w K mg base (k+1) x ps sp [d]:=by
 obtain ⟨f,dA,oc,od,kV,doc,pm,an,cdv,ct,osl,o,u,n,lk,hcd,kp,m,lo,ho,r⟩:=F.ex
 have ok:FnOk P w K mg base CX0 (k+1) f (W.fnOf x x (Z0h st) (Z0f st) (Z0b st) (.ref dA) kV doc pm an cdv ct) ps sp:=J6x lk hcd S len fun A outer s H vs Q E hr hsp=>by
  obtain ⟨t,h,q⟩:=hbody f cdv A outer s H vs Q E hr hsp
  exact ⟨t,h.nox,q⟩
 refine ⟨⟨f,_,ok,fun s us hK hl=>?_,kp,m⟩,⟨f,_,[u],ok,fun s us hK hl=>?_,.cons r .nil,kp,m⟩⟩
 ·rw [List.append_nil] at hl ⊢
  obtain ⟨kk,h1,h2⟩:=hb kV doc pm an cdv ct dA u us hl
  exact BindsTo.of_defaults rfl (hK _ _ lo) ho h1 h2
 ·obtain ⟨kk,h1,h2⟩:=hb2 kV doc pm an cdv ct dA u us hl
  exact BindsTo.of_defaults rfl (hK _ _ lo) ho h1 h2
end
section
variable {X:Cx} {x:Str} {ps:List Str} {sp:Sp} {k j:Nat} {e:Expr} {es:List Expr} {t:TA} {p pos:Pos} {dvs:List V}
theorem J4c (h:HasF X.prog X.w X.K X.mg X.base k x ps sp dvs) (hr:Room j X.A) (hk:k≤j) (hg:Gl X x) (ha:PA X (e::es) t) (hdb:(x == ("__debug__":Str))=false:=by decide)
  (he:starEach (e::es) X.env=(false,eval e X.env)::starEach es X.env:=by rfl) (hpl:(backTo pos (starEach es X.env)).any (·.1)=false:=by rfl):PE X (.Call (.Name x p) (e::es) [] pos) (J2q sp dvs E0 t):=by
 obtain ⟨f,fd,ds,F,b,hd,kp,m⟩:=h.ex
 exact J1G F (hr.mono hk) hg m kp b hd Z9E ha hdb he hpl
end
theorem Z5v {K:W.Frag} {C C':Addr} {m q q':Str} {st st':Stmt} (a:MFn K C m q st) (b:MFn K C' m q' st') (h:q≠q'):C≠C':=by
 intro e
 subst e
 obtain ⟨f,fd,F,M⟩:=a.ex
 obtain ⟨f',fd',F',M'⟩:=b.ex
 have e1:=M.at_.symm.trans M'.at_
 cases e1
 obtain ⟨oc,od,kV,doc,pm,an,cdv,ct,osl,e,lk,hcd⟩:=F.ex
 obtain ⟨oc',od',kV',doc',pm',an',cdv',ct',osl',e',lk',hcd'⟩:=F'.ex
 rw [lk] at lk'
 have:=congrArg (fun o:Option Obj=>match o with | some ⟨_,_,.func fd,_⟩=>some fd.qualname | _=>none) lk'
 subst e e'
 exact h (by simpa [W.fnOf] using this)
end L2
end
section
namespace L2
open PySem PySem.Spec PyProof.Rows
variable {X:Cx}
def J8c (ta:TA):TE:=fun σ H Q=>ta σ H fun vs H1=>∃ n:Nat,vs=[.int (n:Int)]∧n≤1000000∧∀ l,H1 l=none→Q (.ref l) (upd H1 l (.lst ((List.range n).map fun i=>V.int ((i:Nat):Int))))
theorem J7e {ta:TA} {σ:St} {H:Hp} {Q:VK}:J8c ta σ H Q=ta σ H fun vs H1=>∃ n:Nat,vs=[.int (n:Int)]∧n≤1000000∧New H1 (.lst ((List.range n).map fun i=>V.int ((i:Nat):Int))) fun l H2=>Q (.ref l) H2:=rfl
theorem J7i {σ:St} {H:Hp} {Q:List (V×V)→Hp→Prop}:Z5m [] σ H Q=Q [] H:=rfl
theorem J7z {tk tv:TE} {r:List (TE×TE)} {σ:St} {H:Hp} {Q:List (V×V)→Hp→Prop}:Z5m ((tk,tv)::r) σ H Q=tk σ H fun x H1=>tv σ H1 fun y H2=>Z5m r σ H2 fun ps H3=>Q ((x,y)::ps) H3:=rfl
theorem J7l {trs:List (TE×TE)} {σ:St} {H:Hp} {Q:VK}:J7W trs σ H Q=New H (.dK []) fun p H1=>Z5m trs σ H1 fun ps H2=>H2 p=some (.dK [])∧∃ kvs:List (Key×V),ps=kvs.map (fun kv=>(kV kv.1,kv.2))∧kvs.length≤15∧Q (.ref p) (upd H2 p (.dK (J3z [] kvs))):=rfl
end L2
end
section
namespace L2
open PySem PySem.Spec PyProof.Rows
section
variable {X:Cx} {pins:List (Addr×Obj)} {σ:List (Option V)} {H:Hp} {s:Shared}
end
section
variable {X:Cx} {pins:List (Addr×Obj)} {σ:St} {H:Hp} {s:Shared} {A:Around} {N:List Str} {nl:List (Option Nat)} {qual y:Str} {scope:Scope} {cl:List (Str×Addr)} {f c:Addr}
end
end L2
end
section
namespace L2
open PySem PySem.Spec PySem.Calls PyProof.Rows
def J4u {α:Type} (n:Nat) (Q:α→Prop):W.KasT α→Prop
 | .ret a=>Q a
 | .ask i j k=>i < n∧j < n∧∀ b,J4u n Q (k b)
def Pm (n:Nat) (p:Array Nat):Prop:=p.toList.Perm (List.range n)
section
variable {n:Nat} {p:Array Nat}
theorem Pm.lt (h:Pm n p) (h0:0 < n) (i:Nat):p.getD i 0 < n:=by
 rw [Array.getD_eq_getD_getElem?]
 cases e:p[i]? with
 | none=>exact h0
 | some x=>
  have hm:x∈p.toList:=by
   rw [Array.mem_toList_iff]; exact Array.mem_of_getElem? e
  exact List.mem_range.mp (h.mem_iff.mp hm)
theorem Z8e (h:Pm n p) (h0:0 < n) (k:Nat):∀ f l r,J4u n (fun _=>True) (W.kas_place p k f l r)
 | 0,_,_=>trivial
 | f+1,l,r=>by
  show J4u n _ (if l ≥ r then _ else _)
  split
  ·exact trivial
  ·exact ⟨h.lt h0 _,h.lt h0 _,fun b=>by
    cases b
    ·exact Z8e h h0 k f _ _
    ·exact Z8e h h0 k f _ _⟩
end
def IsPair (h:Heap) (v:Value):Prop:=∃ x o n i j t u,v=.ref x∧h.get? x=some o∧o.cls=.type "tuple"∧o.data=.seq #[.int i t,.int j u] n
section
variable {prog:Program} {w:World} {A:Around} {E:Value→Shared→Prop} {s:Shared}
end
section
variable {prog:Program} {w:World} {A:Around} {E:Value→Shared→Prop} {s:Shared} {a kS:Addr} {ks vs:List Value} {e e1:Nat} {P:PySem.Fin→Shared→Prop}
end
section
variable {prog:Program} {w:World} {A:Around} {E:Value→Shared→Prop} {s:Shared}
end
def J5P (P:Addr) (nl:List (Option Nat)) (ta:TA) (te:TE):TE:=fun σ H Q=>ta σ H fun vs H1=>∃ n:Nat,vs=[.int (n:Int)]∧n < 64∧H1 P=some (.tbl #[])∧∀ ps,
 (∀ i H3,i < n→Same (upd H1 P (.tbl ps)) H3→te (some (.int ((i:Nat):Int))::stOf nl σ) H3 fun v H4=>Same H3 H4∧∃ (t:Addr) (a b:Int),v=.ref t∧H4 t=some (.tup [.int a,.int b])) ∧
 ∀ H3 l (p:List Nat),Same (upd H1 P (.tbl ps)) H3→H3 l=none→p.Perm (List.range n)→Q (.ref l) (upd H3 l (.lst (p.map fun i=>V.int ((i:Nat):Int))))
theorem J6s {P:Addr} {nl:List (Option Nat)} {ta:TA} {te:TE} {σ:St} {H:Hp} {Q:VK}:J5P P nl ta te σ H Q=ta σ H fun vs H1=>∃ n:Nat,vs=[.int (n:Int)]∧n < 64∧H1 P=some (.tbl #[])∧∀ ps,
 (∀ i H3,i < n→Same (upd H1 P (.tbl ps)) H3→te (some (.int ((i:Nat):Int))::stOf nl σ) H3 fun v H4=>Same H3 H4∧∃ (t:Addr) (a b:Int),v=.ref t∧H4 t=some (.tup [.int a,.int b])) ∧
 ∀ H3 l (p:List Nat),Same (upd H1 P (.tbl ps)) H3→H3 l=none→p.Perm (List.range n)→Q (.ref l) (upd H3 l (.lst (p.map fun i=>V.int ((i:Nat):Int)))):=rfl
section
variable {X:Cx} {pins:List (Addr×Obj)} {σ:St} {H:Hp} {s:Shared}
end
section
variable {X:Cx}
end
end L2
end
section
namespace L2
open PySem PySem.Spec PyProof.Rows
end L2
end
section
namespace L2
open PySem PySem.Spec PyProof.Rows
def Cx.blockC (X:Cx) (N:List Str) (scope:Scope) (cl:List (Str×Addr)) (y:Str) (C:Addr) (fp:List Addr) (s:Shared) (H:Hp):Cx:=
 { X with N:=N,s₀:=s,H₀:=H,env:=compEnvC scope ((y,C+1)::cl) C X.env,outer:=X.stack,stack:=X.stack,ex:=fp,fn:=fun x=>decide (x=y),pn:=[],xe:=fun _ _=>False }
structure BlockOkC (X:Cx) (N:List Str) (nl:List (Option Nat)) (scope:Scope) (cl:List (Str×Addr)) (y:Str):Prop where
 kind:scope.kind=.function
 one:∀ x,scope.names.lookup x=some .cell→x=y
 isY:scope.names.lookup y=some .cell
 names:∀ y∈scope.names,y.2=.local→scope.names.lookup y.1=some .local
 clos:closureFor scope X.env=pure cl
 sub:∀ y c,cl.lookup y=some c→X.env.cells.lookup y=some c
 has:∀ y,scope.names.lookup y=some .free→∃ c,cl.lookup y=some c
 len:nl.length=N.length
 seen:∀ (i j:Nat) (y:Str),N[i]?=some y→nl[i]?=some (some j)→X.N[j]?=some y∧scope.names.lookup y=some .free∧(X.env.scope.names.lookup y=some .cell∨X.env.scope.names.lookup y=some .free)
 cells:∀ C,cellsFrom C scope.names cl=(y,C)::cl
 push:∀ h:Heap,pushCells h scope.names=h.push { cls:=.type "cell",data:=.cell none }
theorem BlockOkC.of {X:Cx} {N:List Str} {nl:List (Option Nat)} {scope:Scope} {cl:List (Str×Addr)} {y x:Str} {C c:Addr} (B:BlockOkC X N nl scope cl y) (e:((y,C)::cl).lookup x=some c):(x=y∧c=C)∨cl.lookup x=some c:=by
 rw [List.lookup_cons] at e
 cases q:x == y with
 | true=>rw [q] at e; exact .inl ⟨by simpa using q,(Option.some.inj e).symm⟩
 | false=>rw [q] at e; exact .inr e
theorem BlockOkC.mk' {X:Cx} {N:List Str} {nl:List (Option Nat)} {scope:Scope} {cl:List (Str×Addr)} {y:Str} (kind:scope.kind=.function) (one:∀ p∈scope.names,p.2=.cell→p.1=y) (isY:scope.names.lookup y=some .cell) (names:∀ y∈scope.names,y.2=.local→scope.names.lookup y.1=some .local)
  (clos:closureFor scope X.env=pure cl) (sub:∀ p∈cl,X.env.cells.lookup p.1=some p.2) {nm:List Str} (hnm:cl.map (·.1)=nm) (has:∀ y∈scope.names,y.2=.free→y.1∈nm) (len:nl.length=N.length)
  (seen:∀ i < nl.length,∀ j,nl[i]?=some (some j)→∃ y,N[i]?=some y∧X.N[j]?=some y∧scope.names.lookup y=some .free∧(X.env.scope.names.lookup y=some .cell∨X.env.scope.names.lookup y=some .free))
  (cells:∀ C,cellsFrom C scope.names cl=(y,C)::cl) (push:∀ h:Heap,pushCells h scope.names=h.push { cls:=.type "cell",data:=.cell none }):BlockOkC X N nl scope cl y where
 kind:=kind
 one:=fun x h=>one _ (Z0X h) rfl
 isY:=isY
 names:=names
 clos:=clos
 sub:=fun y c h=>sub (y,c) (PySem.mem_of_lookup h)
 has:=fun y h=>by
  have hm:=has _ (Z0X h) rfl
  rw [← hnm] at hm
  cases q:cl.lookup y with
  | some c=>exact ⟨c,rfl⟩
  | none=>
   obtain ⟨p,hp,e⟩:=List.mem_map.mp hm
   have:=List.lookup_eq_none_iff.mp q p hp
   simp [e] at this
 len:=len
 seen:=fun i j y h1 h2=>by
  obtain ⟨z,a,b,c,d⟩:=seen i (List.getElem?_eq_some_iff.mp h2).1 j h2
  rw [h1] at a
  cases a
  exact ⟨b,c,d⟩
 cells:=cells
 push:=push
theorem Z9V {cl:List (Str×Addr)} {x y:Str} {C:Addr} (h:x≠y):((y,C)::cl).lookup x=cl.lookup x:=by
 rw [List.lookup_cons]
 cases q:x == y with
 | true=>exact absurd (by simpa using q) h
 | false=>rfl
theorem Z7G {M:Model} {A:Around} {E:Value→Shared→Prop} {s:Shared} {scope:Scope} {globals:Addr} {cl:List (Str×Addr)} {qual y:Str} {func:Option Addr} {code:Value} {env:Env} {builtins:Addr} {Q:Env→Shared→Prop} (hc:∀ C,cellsFrom C scope.names cl=(y,C)::cl) (hp:∀ h:Heap,pushCells h scope.names=h.push { cls:=.type "cell",data:=.cell none })
  (h:Q { scope:=scope,locals:=s.heap.objs.size,globals:=globals,cells:=(y,s.heap.objs.size+1)::cl,qual:=qual,func:=func,code:=env.code,frame:=env.frame,builtins:=env.builtins } { s with heap:=(s.heap.push { cls:=.type "dict",data:=.dict #[] }).push { cls:=.type "cell",data:=.cell none } }) :
  wpAny M A (newFunctionEnv scope globals cl [] qual func code (some env) builtins) Q E s:=by
 simp only [newFunctionEnv,Option.isSome_some,if_true]
 refine wpAny_bind (wpAny_alloc ?_)
 refine wpAny_bind (wpAny_layCells _ (fun name kind cells=>by cases hkc:kind == NameKind.cell <;> simp [hkc]) _ _ _ _ ?_)
 rw [hc,hp,show ({ s with heap:=s.heap.push { cls:=.type "dict",data:=.dict #[] } }:Shared).heap.objs.size=s.heap.objs.size+1 from Heap.size_push ..]
 rw [List.forIn_nil]
 exact (wpAny_bind (wpAny_pure (wpAny_pure h)))
section
variable {X:Cx} {pins:List (Addr×Obj)} {σ:St} {H:Hp} {s:Shared} {N:List Str} {nl:List (Option Nat)} {scope:Scope} {cl:List (Str×Addr)} {fp:List Addr} {y:Str}
theorem Z9x (I:Inv X pins σ H s) (B:BlockOkC X N nl scope cl y) (hf:∀ b∈fp,FpOk X pins H b) (hob:∀ b∈fp,b < s.heap.objs.size) {C:Addr} (hC:s.heap.objs.size≤C):(X.blockC N scope cl y C fp s H).Ok:=by
 have stk:∀ b∈frs X.stack,b=X.env.locals∨b∈X.fs:=fun b hb=>List.mem_cons.mp (I.stkSub b hb)
 have nC:∀ x c,cl.lookup x=some c→c≠C+1:=fun x c e z=>by
  obtain ⟨v,o,ho,_⟩:=I.cell x c (B.sub x c e)
  have:=Heap.lt_size ho
  rw [z] at this
  exact absurd (Nat.lt_of_lt_of_le this (Nat.le_succ_of_le hC)) (Nat.lt_irrefl _)
 refine ⟨I.ok.mod,B.kind,I.ok.glob,I.ok.blt,hC,fun x z c h1 h2=>?_,fun x hx=>?_,fun x c h e=>?_,I.ok.hd,I.ok.frames,.inl rfl,fun b hb=>⟨?_,fun x c e=>?_⟩,
  I.bs,Nat.le_trans I.ok.bsz I.sz,fun b o e hb=>?_,fun b hb hm=>?_,I.stack,I.stkFree⟩
 ·rcases B.of h1 with ⟨rfl,e1⟩ | e1 <;> rcases B.of h2 with ⟨rfl,e2⟩ | e2
  ·rfl
  ·exact absurd e1 (nC _ _ e2)
  ·exact absurd e2 (nC _ _ e1)
  ·exact I.ok.inj x z c (B.sub x c e1) (B.sub z c e2)
 ·have hx':(scope.names.map fun (n,k)=>if (k == NameKind.free&&X.env.scope.kind == .function&&X.env.kindOf n == some .cell) then (n,NameKind.cell) else (n,k)).lookup x=some .cell ∨
    (scope.names.map fun (n,k)=>if (k == NameKind.free&&X.env.scope.kind == .function&&X.env.kindOf n == some .cell) then (n,NameKind.cell) else (n,k)).lookup x=some .free:=hx
  have fr:scope.names.lookup x=some .free→∃ c,((y,C+1)::cl).lookup x=some c:=fun z=>by
   have hxy:x≠y:=fun e=>by rw [e,B.isY] at z; cases z
   rw [Z9V hxy]; exact B.has x z
  rcases hx' with q | q
  ·rcases Z2k q with z | ⟨_,z⟩
   ·have:=B.one x z
    subst this
    exact ⟨C+1,by show List.lookup x ((x,C+1)::cl)=_; rw [List.lookup_cons,beq_self_eq_true]⟩
   ·exact fr z
  ·rcases Z2k q with z | ⟨z,_⟩
   ·exact fr z
   ·cases z
 ·have hxy:x=y:=of_decide_eq_true h
  subst hxy
  have e':((x,C+1)::cl).lookup x=some (C+1):=by rw [List.lookup_cons,beq_self_eq_true]
  have:c=C+1:=Option.some.inj ((show ((x,C+1)::cl).lookup x=some c from e).symm.trans e')
  rw [this]; exact Nat.le_succ_of_le hC
 ·exact Nat.ne_of_lt (Nat.lt_of_lt_of_le (hob b hb) hC)
 ·rcases B.of e with ⟨_,rfl⟩ | e
  ·exact Nat.ne_of_gt (Nat.lt_of_lt_of_le (hob b hb) (Nat.le_succ_of_le hC))
  ·exact (hf b hb).2.2.2.2.1 x c (B.sub x c e)
 ·rcases (hf b hb).2.2.2.1 with z | z
  ·exact I.ok.noex b o e z
  ·exact absurd (Nat.lt_of_lt_of_le (Heap.lt_size (I.ok.bs b o e).1) z) (Nat.lt_irrefl _)
 ·rcases stk b hm with z | z
  ·exact (hf b hb).2.1 z
  ·exact (hf b hb).2.2.1 z
theorem Z6s (I:Inv X pins σ H s) (B:BlockOkC X N nl scope cl y) (hf:∀ b∈fp,FpOk X pins H b) (hob:∀ b∈fp,b < s.heap.objs.size) {C D:Addr} (hD:D=s.heap.objs.size) (hC:C=s.heap.objs.size+1) {h1:Heap} {tk:Nat} {m:Str→Option Value} {n:Nat}
  (hk:∀ b o,s.heap.get? b=some o→h1.get? b=some o) (hl:h1.get? D=some { cls:=.type "list",data:=.seq ([]:List Value).toArray n }) (hn:h1.Ns C m) (hcl:h1.get? (C+1)=some { cls:=.type "cell",data:=.cell none }) :
  Inv (X.blockC N scope cl y C fp s H) [] (stOf nl σ) (upd H D (.lst [])) { s with heap:=h1,toks:=tk }:=by
 have hDn:H D=none:=I.hok.fresh (by rw [hD]; exact Nat.le_refl _)
 have hCD:C≠D:=by rw [hC,hD]; exact Nat.succ_ne_self _
 have hCn:H C=none:=I.hok.fresh (by rw [hC]; exact Nat.le_succ _)
 have cellD:∀ y c,cl.lookup y=some c→c≠D:=fun y c e z=>by
  obtain ⟨v,q⟩:=I.cell y c (B.sub y c e)
  exact absurd q.lt (by rw [z,hD]; exact Nat.lt_irrefl _)
 refine ⟨Z9x I B hf hob (by rw [hC]; exact Nat.le_succ _),rfl,I.bare,Un.laid hk (by rw [hD]; exact Nat.le_refl _) hDn,⟨m,hn,fun i x v e1 e2 _=>?_⟩,fun x c e=>?_,?_,fun x c e=>?_,fun p hp=>absurd hp (by simp [Cx.blockC]),?_,?_⟩
 ·obtain ⟨j,hj,hv⟩:=Z9a e2
  obtain ⟨x1,x2,x3⟩:=B.seen i j x e1 hj
  obtain ⟨m0,hm0,hl0⟩:=I.loc
  obtain ⟨u,r,l⟩:=hl0 j x v x1 hv (.inr x3)
  refine ⟨u,r,?_⟩
  rcases l with ⟨hk1,_⟩ | ⟨_,c,hc,z⟩
  ·have hk1':X.env.scope.names.lookup x=some .local:=hk1
   rcases x3 with q | q <;> (rw [hk1'] at q; cases q)
  ·refine .inr ⟨Z3p x2,c,?_,z.keeps hk⟩
   obtain ⟨c',hc'⟩:=B.has x x2
   have q:=B.sub x c' hc'
   rw [hc] at q
   cases q
   have hxy:x≠y:=fun e=>by rw [e,B.isY] at x2; cases x2
   show ((y,C+1)::cl).lookup x=some c
   rw [Z9V hxy]; exact hc'
 ·rcases B.of e with ⟨_,rfl⟩ | e
  ·exact ⟨none,_,hcl,rfl⟩
  ·obtain ⟨v,q⟩:=I.cell x c (B.sub x c e)
   exact ⟨v,q.keeps hk⟩
 ·show (upd H D (.lst [])) C=none
  rw [Z0j hCD]
  exact hCn
 ·rcases B.of e with ⟨_,rfl⟩ | e
  ·rw [Z0j (by rw [hC,hD]; exact Nat.ne_of_gt (Nat.lt_succ_of_lt (Nat.lt_succ_self _)))]
   exact I.hok.fresh (by rw [hC]; exact Nat.le_succ_of_le (Nat.le_succ _))
  ·rw [Z0j (cellD x c e)]
   exact I.freeC x c (B.sub x c e)
 ·exact I.hok.laid hk (by rw [hD]; exact Nat.le_refl _) ⟨Nat.zero_le _,[],n,.nil,hl⟩
 ·show (stOf nl σ).length=N.length
  unfold stOf
  rw [List.length_map,B.len]
theorem Z9p {C:Addr} {σ':St} {H':Hp} {s':Shared} {h2:Heap} (I:Inv X pins σ H s) (hf:∀ b∈fp,FpOk X pins H b) (hC:s.heap.objs.size≤C) (J:Inv (X.blockC N scope cl y C fp s H) [] σ' H' s') (hk:∀ b o,b≠C→s'.heap.get? b=some o→h2.get? b=some o) :
  Inv X pins σ H' { s' with heap:=h2 }:=by
 obtain ⟨hp,g,d,t,os⟩:=s'
 have ho:os=s.os:=J.os
 subst ho
 have hCn:H' C=none:=J.free
 have u:=J.base
 have ne:∀ b o,s.heap.get? b=some o→b≠C:=fun b o e=>Nat.ne_of_lt (Nat.lt_of_lt_of_le (Heap.lt_size e) hC)
 have u2:Un (frs X.stack) fp H H' s.heap h2:=
  ⟨fun b o e n hb hx=>hk b o (ne b o e) (u.keep b o e n hb hx),fun b o e n hb hx=>(let ⟨sl,q⟩:=u.slot b o e n hb hx; ⟨sl,hk b _ (ne b o e) q⟩),u.free,fun b o e hx=>(let ⟨o',q⟩:=u.there b o e hx; ⟨o',hk b o' (ne b o e) q⟩),u.tups,u.frzs,u.tbls⟩
 have hok2:HOk X.prog X.w H' h2:=fun b o e=>(J.hok b o e).stay (fun c v hc q=>hk c v (fun z=>by
  subst z
  rcases hc with z | z
  ·rw [← z,hCn] at e; cases e
  ·rw [hCn] at z; cases z) q) (fun _ q=>q) fun _ _ q=>q
 have z:=I.call (h':=h2) (g':=g) (d':=d) (t':=t) (ch:=fp) u2 hok2 J.bare fun b hb=>(let ⟨_,f1,_,f3,f4,f5⟩:=hf b hb; ⟨f3,f1,f4,f5⟩)
 exact z
end
theorem Z9I {y:Str} {X:Cx} {N:List Str} {nl:List (Option Nat)} {scope:Scope} {cl:List (Str×Addr)} {elt tg iter:Expr} {ifs:List Expr} {pos:Pos} {wi:TI} {g:TG} {tst:Env→Sem Bool} {tc:TT} {te:TE} (hcalm:X.calm=true)
  (B:BlockOkC X N nl scope cl y) (hi:PI X tg iter wi) (hg:∀ C fp s H,PG (X.blockC N scope cl y C fp s H) tg g) (ht:∀ C fp s H,PQ (X.blockC N scope cl y C fp s H) tst tc) (he:∀ C fp s H,PE (X.blockC N scope cl y C fp s H) elt te)
  (hturn:∀ (it acc:Value) (env:Env),compTurn (.ListComp elt [⟨tg,iter,ifs,0⟩] scope pos) 0 it acc env=(do
   standAt iter.pos
   match ← pyNext it with
   | none=>pure (.done .next)
   | some v=>
    letOwnedTupleGo tg it v
    assign tg env v
    let ok ← tst env
    if ok then (do
     (do let x ← eval elt env; let _ ← call (.builtin "list.append") [acc,x]; pure ())
     again (.compLoop (.ListComp elt [⟨tg,iter,ifs,0⟩] scope pos) 0 it acc env))
    else again (.compLoop (.ListComp elt [⟨tg,iter,ifs,0⟩] scope pos) 0 it acc env)))
  (hs:∀ x,foldedSetIterable iter X.env x=pure x) {pins:List (Addr×Obj)} {s:Shared} {σ:St} {H:Hp} {Q:VK} (I:Inv X pins σ H s) (h:Z6U wi nl g tc te σ H Q) {use:Option (Value→Sem Unit)} {Q':Value→Shared→Prop}
  (hpost:∀ (D C:Addr) (s' s2:Shared) (fp:List Addr) (σ':St) (H' H2:Hp),Inv X pins σ H2 s2→(∀ b∈fp,FpOk X pins H2 b)→s2.heap.objs.size≤C→Inv (X.blockC N scope cl y C fp s2 H2) [] σ' H' s'→Q (.ref D) H' →
   compPost (model X.prog X.w) X.A X.xe use Q' (.ref D) C (.ok .next) s')
  (hpos:Pos) :
  wpAny (model X.prog X.w) X.A (comprehension (.ListComp elt [⟨tg,iter,ifs,0⟩] scope pos) scope X.env hpos (newList []) false (eval iter X.env) use) Q' X.xe s:=by
 refine wpAny_comprehension_free (use:=use) rfl hs B.clos B.kind B.names ?_
 refine thn (hi pins s σ H _ I h) fun v s1 h1=>thn h1 fun itv s2 h2=>?_
 obtain ⟨it,fp,tn,J,H2,e,I2,T,st2,f2,q⟩:=h2
 subst e
 have hob:∀ b∈fp,b < s2.heap.objs.size:=fun b hb=>(let ⟨o,e,_⟩:=T.obj 0 _ st2 b hb; Heap.lt_size e)
 refine wpAny_newObj_type (Z7G B.cells B.push ?_)
 dsimp only
 generalize hD:s2.heap.objs.size=D
 have hC:(s2.heap.push { cls:=.type "list",dict:=none,data:=.seq ([]:List Value).toArray }).objs.size=s2.heap.objs.size+1:=by rw [Heap.size_push]
 have hns:(((s2.heap.push { cls:=.type "list",dict:=none,data:=.seq ([]:List Value).toArray }).push { cls:=.type "dict",data:=.dict #[] }).push { cls:=.type "cell",data:=.cell none }).Ns (s2.heap.push { cls:=.type "list",dict:=none,data:=.seq ([]:List Value).toArray }).objs.size (fun _=>none):=(Heap.Ns.new _ (.type "dict")).push _
 have hcl:(((s2.heap.push { cls:=.type "list",dict:=none,data:=.seq ([]:List Value).toArray }).push { cls:=.type "dict",data:=.dict #[] }).push { cls:=.type "cell",data:=.cell none }).get? ((s2.heap.push { cls:=.type "list",dict:=none,data:=.seq ([]:List Value).toArray }).objs.size+1)=some { cls:=.type "cell",data:=.cell none }:=by
  rw [← Heap.size_push _ { cls:=.type "dict",data:=.dict #[] }]
  exact Heap.get?_push_size _ rfl
 have old:∀ b o,s2.heap.get? b=some o→(((s2.heap.push { cls:=.type "list",dict:=none,data:=.seq ([]:List Value).toArray }).push { cls:=.type "dict",data:=.dict #[] }).push { cls:=.type "cell",data:=.cell none }).get? b=some o:=fun b o e=>Heap.get?_push_of_some _ (Heap.get?_push_of_some _ (Heap.get?_push_of_some _ e))
 have hl:(((s2.heap.push { cls:=.type "list",dict:=none,data:=.seq ([]:List Value).toArray }).push { cls:=.type "dict",data:=.dict #[] }).push { cls:=.type "cell",data:=.cell none }).get? D=some { cls:=.type "list",data:=.seq ([]:List Value).toArray 0 }:=by
  refine Heap.get?_push_of_some _ (Heap.get?_push_of_some _ ?_)
  rw [← hD]
  exact Heap.get?_push_size _ rfl
 generalize (((s2.heap.push { cls:=.type "list",dict:=none,data:=.seq ([]:List Value).toArray }).push { cls:=.type "dict",data:=.dict #[] }).push { cls:=.type "cell",data:=.cell none })=h1 at *
 generalize hC':(s2.heap.push { cls:=.type "list",dict:=none,data:=.seq ([]:List Value).toArray }).objs.size=C at hns hcl hC ⊢
 have hDC:D≠C:=by rw [hC,← hD]; exact (Nat.succ_ne_self _).symm
 have lt_ne:∀ b,b < s2.heap.objs.size→b≠C:=fun b hb=>by rw [hC]; exact Nat.ne_of_lt (Nat.lt_succ_of_lt hb)
 have fresh:H2 D=none:=I2.hok.fresh (by rw [hD]; exact Nat.le_refl _)
 obtain ⟨W,⟨m0,w0⟩,turn⟩:=q D fresh
 have hCle:s2.heap.objs.size≤C:=by rw [hC]; exact Nat.le_succ _
 have stat:∀ {H':Hp},(∀ b∈fp,H' b=none)→∀ b∈fp,FpOk (X.blockC N scope cl y C fp s2 H2) [] H' b:=fun hn b hb=>by
  obtain ⟨_,f1,f2',f3,f4,f5⟩:=f2 b hb
  refine ⟨hn b hb,lt_ne b (hob b hb),fun z=>?_,.inl hb,fun x c e=>(by
   rcases B.of e with ⟨_,rfl⟩ | e
   ·exact Nat.ne_of_gt (Nat.lt_of_lt_of_le (hob b hb) (Nat.le_succ_of_le hCle))
   ·exact f4 x c (B.sub x c e)),fun p hp=>absurd hp (by simp [Cx.blockC])⟩
  rcases List.mem_cons.mp (I2.stkSub b z) with z | z
  ·exact f1 z
  ·exact f2' z
 have main:∀ s4:Shared,(∃ tk,s4={ s2 with heap:=h1,toks:=tk }) →
   codeAny (model X.prog X.w) X.A (.compLoop (.ListComp elt [⟨tg,iter,ifs,0⟩] scope pos) 0 (.ref it) (.ref D) (X.blockC N scope cl y C fp s2 H2).env) (compPost (model X.prog X.w) X.A X.xe use Q' (.ref D) C) s4:=by
  rintro s4 ⟨tk,rfl⟩
  have I3:Inv (X.blockC N scope cl y C fp s2 H2) [] (stOf nl σ) (upd H2 D (.lst [])) { s2 with heap:=h1,toks:=tk }:=Z6s I2 B f2 hob hD.symm hC old hl hns hcl
  refine codeAny_loop rfl (fun n s'=>∃ i σ' H',Inv (X.blockC N scope cl y C fp s2 H2) [] σ' H' s'∧tn i s'.heap∧(∀ b∈fp,H' b=none)∧W i n σ' H') (fun n s5 hI=>?_) m0
   ⟨0,stOf nl σ,_,I3,T.keep 0 _ _ st2 fun b hb o e=>old b o e,fun b hb=>by rw [Z0j (fun z=>absurd (hob b hb) (by rw [z,← hD]; exact Nat.lt_irrefl _))]; exact (f2 b hb).1,w0⟩
  show wpAny _ X.A ((compTurn (.ListComp elt [⟨tg,iter,ifs,0⟩] scope pos) 0 (.ref it) (.ref D) (X.blockC N scope cl y C fp s2 H2).env).onRaise (fun x=>do noteFrame x (X.blockC N scope cl y C fp s2 H2).env; theTreesLotGoes x)) _ _ s5
  refine wpAny_noted ?_
  rw [hturn]
  obtain ⟨i,σ5,H5,I5,st5,fr5,w5⟩:=hI
  have quiet:∀ {α:Type} {t:Sem α} {R:α→Shared→Prop} {E':Value→Shared→Prop} {s':Shared},wpAny (model X.prog X.w) X.A t R (fun _ _=>False) s'→wpAny (model X.prog X.w) X.A t R E' s':=fun hw=>wpAny_mono hw (fun _ _ z=>z) fun _ _ z=>z.elim
  refine wpAny_bind (wpAny_standAt ?_)
  rcases turn i n σ5 H5 w5 with ⟨stop,qn⟩ | ⟨go,Nx,hN,step⟩
  ·refine wpAny_bind (quiet (thn (T.done (X.blockC N scope cl y C fp s2 H2) rfl rfl rfl hcalm i [] s5 σ5 H5 (fun _ _=>False) I5 (stat fr5) st5 stop) fun r s6 ⟨hr,I6⟩=>?_))
   subst hr
   exact quiet (wpAny_pure (hpost D C s6 s2 fp σ5 H5 H2 I2 f2 hCle I6 qn))
  ·refine wpAny_bind (quiet (thn (T.item (X.blockC N scope cl y C fp s2 H2) rfl rfl rfl hcalm i [] s5 σ5 H5 (fun _ _=>False) I5 (stat fr5) st5 go) fun r s6 ⟨u,hr,h6⟩=>?_))
   subst hr
   refine wpAny_bind (quiet (thn h6 fun _ s7 ⟨x,H7,I7,r7,y7,st7,fr7⟩=>?_))
   have I7':=I7.pinned (stat fr7) (T.obj _ _ st7)
   have again':∀ {σ8:St} {H8:Hp} {s8:Shared},Inv (X.blockC N scope cl y C fp s2 H2) ([]++Z5t fp s7.heap) σ8 H8 s8→Nx σ8 H8→∃ m,m < n∧∃ i σ' H',Inv (X.blockC N scope cl y C fp s2 H2) [] σ' H' s8∧tn i s8.heap∧(∀ b∈fp,H' b=none)∧W i m σ' H':=fun {σ8 H8 s8} I8 n8=>by
    obtain ⟨m',hm,w8⟩:=hN σ8 H8 n8
    refine ⟨m',hm,i+1,σ8,H8,I8.unpinned,T.keep _ _ _ st7 fun b hb o e=>(I8.pin (b,o) (List.mem_append_right _ (List.mem_append_right _ (Z2C hb e)))).1,fun b hb=>?_,w8⟩
    obtain ⟨o,e,_⟩:=T.obj _ _ st7 b hb
    exact (I8.pin (b,o) (List.mem_append_right _ (List.mem_append_right _ (Z2C hb e)))).2.1
   refine wpAny_bind (quiet (thn (hg C fp s2 H2 _ s7 σ5 H7 x u _ I7' r7 (step x H7 y7)) fun _ s8 ⟨σ8,H8,I8,q8⟩=>?_))
   refine wpAny_bind (quiet (thn (ht C fp s2 H2 _ s8 σ8 H8 _ I8 q8) fun b s9 ⟨H9,I9,q9⟩=>?_))
   cases b with
   | false=>exact quiet (wpAny_pure ⟨rfl,again' I9 q9⟩)
   | true=>
    refine wpAny_bind (wpAny_bind (quiet (thn (he C fp s2 H2 _ s9 σ8 H9 _ I9 q9) fun vy s10 hz_=>?_)))
    obtain ⟨y,H10,I10,r10,xs,e10,z10,n10⟩:=hz_
    refine wpAny_bind (quiet (thn (Z0K _ s10 σ8 H10 (.ref D) [y] (.ref D) [vy] (fun _ H'=>Nx σ8 H') I10 rfl (.cons r10 .nil) ⟨D,xs,y,rfl,rfl,e10,z10,n10⟩) fun _ s11 ⟨_,H11,I11,_,q11⟩=>?_))
    exact wpAny_pure (wpAny_pure ⟨rfl,again' I11 q11⟩)
 exact codeAny_compStart_list (main _ ⟨_,rfl⟩) (T.self _ 0 _ _ _ (T.keep 0 _ _ st2 fun b hb o e=>old b o e) (main _ ⟨_,rfl⟩))
section
variable {X:Cx} {N:List Str} {nl:List (Option Nat)} {scope:Scope} {cl:List (Str×Addr)} {y:Str} {elt tg iter:Expr} {pos:Pos} {wi:TI} {g:TG} {tc:TT} {te:TE}
end
section
variable {X:Cx} {N:List Str} {nl:List (Option Nat)} {scope:Scope} {cl:List (Str×Addr)} {y:Str} {elt tg iter:Expr} {pos pos' spos:Pos} {wi:TI} {g:TG} {tc:TT} {te:TE} {i:Nat} {x:Str}
theorem Z9l {pins:List (Addr×Obj)} {σ:St} {Dd:Ends} (hN:X.N.Nodup) (hi:X.N[i]?=some x) (hk:X.env.scope.names.lookup x=some .local) (D C:Addr) (s' s2:Shared) (fp:List Addr) (σ':St) (H' H2:Hp)
  (I2:Inv X pins σ H2 s2) (f2:∀ b∈fp,FpOk X pins H2 b) (hC:s2.heap.objs.size≤C) (J:Inv (X.blockC N scope cl y C fp s2 H2) [] σ' H' s') (q:Dd.nx (σ.set i (some (.ref D))) H') :
  compPost (model X.prog X.w) X.A X.xe (some (assign (.Name x pos') X.env)) (fun _ s3=>SP X pins Dd .next s3) (.ref D) C (.ok .next) s':=by
 have I3:Inv X pins σ H' s':=Z9p (h2:=s'.heap) I2 f2 hC J fun b o _ e=>e
 have ne:∀ b o,s2.heap.get? b=some o→b≠C:=fun b o e=>Nat.ne_of_lt (Nat.lt_of_lt_of_le (Heap.lt_size e) hC)
 have neL:C≠X.env.locals:=fun z=>by
  obtain ⟨m,⟨o,_,_,ho,_⟩,_⟩:=I2.loc
  exact ne _ o ho z.symm
 obtain ⟨m,hn,_⟩:=J.loc
 show wpAny _ _ (assign (.Name x pos') X.env (.ref D)) _ _ _
 have e:assign (.Name x pos') X.env (.ref D)=(do standAt pos'; bindName X.env x (.ref D)):=by rfl
 rw [e]
 refine wpAny_bind (wpAny_standAt (wpAny_bindName ?_))
 refine Z4L (v:=.ref D) I3 hN hi (.inl hk) rfl (fun s4 I4 ⟨a,sb,ha⟩=>?_) (.inr hk)
 have hCa:C≠a:=by
  rcases ha with z | z
  ·rw [z]; exact neL
  ·obtain ⟨v,o,ho,_⟩:=I2.cell x a z
   exact fun z2=>ne a o ho z2.symm
 refine ⟨m,hn.sameBut sb hCa,fun h' sb'=>⟨_,H',?_,q⟩⟩
 refine I4.turned (t':=s4.toks) (it:=C) (fun b o hb e=>sb'.extBut b o hb e) J.free neL (.inr (Nat.le_trans I2.sz hC)) (fun z0 c e z=>?_) fun p hp z=>?_
 ·obtain ⟨v,o,ho,_⟩:=I2.cell z0 c e
  exact ne c o ho z
 ·exact ne p.1 _ (I2.pin p hp).1 z
theorem Z7n (hcalm:X.calm=true) (hN:X.N.Nodup) (hi:X.N[i]?=some x) (hk:X.env.scope.names.lookup x=some .local) (B:BlockOkC X N nl scope cl y) (hit:PI X tg iter wi) (hg:∀ C fp s H,PG (X.blockC N scope cl y C fp s H) tg g) (he:∀ C fp s H,PE (X.blockC N scope cl y C fp s H) elt te)
  (hs:∀ x,foldedSetIterable iter X.env x=pure x:=by intro _; rfl) (hsw:swapsWith (.ListComp elt [⟨tg,iter,[],0⟩] scope pos) (some (.Name x pos')) spos.line X.env=pure true:=by rfl) :
  PS X (.Assign [.Name x pos'] (.ListComp elt [⟨tg,iter,[],0⟩] scope pos) spos) (J2Y i (Z6U wi nl g Z3n te)):=by
 intro pins s σ H D I h
 rw [exec_Assign_Name_used _ _ _ _ hsw]
 refine wpAny_bind (wpAny_standAt (wpAny_bind ?_))
 show wpAny _ _ (evalThenUse (.ListComp elt [⟨tg,iter,[],0⟩] scope pos) X.env _) _ _ _
 unfold evalThenUse
 refine wpAny_bind ?_
 exact thn (Z9I (Q:=fun v H'=>D.nx (σ.set i (some v)) H') (tst:=fun _=>pure true) (Q':=fun _ s3=>SP X pins D .next s3) hcalm B hit hg (fun _ _ _ _=>Z7t) he Z5V hs I h (fun D' C s' s2 fp σ' H' H2 I2 f2 hC J q=>Z9l hN hi hk D' C s' s2 fp σ' H' H2 I2 f2 hC J q) _) fun _ s3 z=>wpAny_pure (wpAny_pure z)
end
end L2
end
section
namespace L2
open PySem PySem.Spec PyProof.Rows
def iAny (K:W.Frag) (tl:TE):TI:=fun σ H R=>tl σ H fun v H1=>∃ a,v=.ref a∧((∃ xs,SqL K H1 a xs∧R (Itl K a) H1)∨(∃ xs,SqT K H1 a xs∧R (Itt K a) H1))
theorem J7S {K:W.Frag} {tl:TE} {σ:St} {H:Hp} {R:It→Hp→Prop}:iAny K tl σ H R=tl σ H fun v H1=>∃ a,v=.ref a∧((∃ xs,SqL K H1 a xs∧R (Itl K a) H1)∨(∃ xs,SqT K H1 a xs∧R (Itt K a) H1)):=rfl
end L2
end
section
namespace PySem
end PySem
namespace L2
open PySem PySem.Spec PyProof.Rows
def LFin (s:Shared) (its:List Value) (acc:Array Value) (s2:Shared):Prop:=∃ h2 tk2,s2={ s with heap:=h2,toks:=tk2 }∧(∀ b o,s.heap.get? b=some o→h2.get? b=some o)∧acc.toList=its
noncomputable def J3s (ks:List Str) (ys:List V):List (Key×V):=absD (fun i=>.inr (ks.getD i "")) (fun i=>ys.getD i .non) ks.length
def J5U (K:W.Frag):List V→Hp→VK→Prop:=fun xs H Q=>∃ (a:Addr) (ts:List V) (ks:List Str) (ys:List V),xs=[.ref a]∧SqL K H a ts∧ts.length=ks.length∧(∀ i t,ts[i]?=some t→∃ T,t=.ref T∧SqT K H T [.str (ks.getD i ""),ys.getD i .non])∧∀ d,H d=none→Q (.ref d) (upd H d (.dK (J3s ks ys)))
theorem J5F {K:W.Frag} {xs:List V} {H:Hp} {Q:VK}:J5U K xs H Q=∃ (a:Addr) (ts:List V) (ks:List Str) (ys:List V),xs=[.ref a]∧SqL K H a ts∧ts.length=ks.length∧(∀ i t,ts[i]?=some t→∃ T,t=.ref T∧SqT K H T [.str (ks.getD i ""),ys.getD i .non])∧∀ d,H d=none→Q (.ref d) (upd H d (.dK (J3s ks ys))):=rfl
end L2
end
section
namespace PySem
theorem Z5G:typeLookup (.type "tuple") "keys"=pure none:=am_miss_of_fast (by decide +kernel)
theorem Z9o {prog:Program} {w:World} {A:Around} {E:Value→Shared→Prop} {s:Shared} {a:Addr} {o:Obj} {xs:Array Value} {k:Nat} {Q:Option Value→Shared→Prop} (hA:A.handled=none) (hx:s.heap.get? a=some o) (oc:o.cls=.type "tuple") (oda:o.data=.seq xs k) (odc:o.dict=none)
  (h:∀ h' tk,(∀ b u,s.heap.get? b=some u→h'.get? b=some u)→Q none { s with heap:=h',toks:=tk }):wpAny (model prog w) A (getAttr? (.ref a) "keys") Q E s:=by
 obtain ⟨oc',od',oda',osl⟩:=o
 dsimp only at oc oda odc
 subst oc oda odc
 obtain ⟨hp,g,d,tk,os⟩:=s
 have hT:∀ tk2,(⟨hp,g,d,tk2,os⟩:Shared).TypeIs (.ref a) "tuple":=fun _=>⟨_,hx,rfl⟩
 have z1:=sub_AttributeError
 have z2:=F.slot_tuple_getattribute.lookup
 have z3:=F.slot_tuple_getattribute.bind (.ref a)
 have z4:=am_tuple_getattr_none
 unfold getAttr? getAttrBy? getAttrBy
 repeat (any_goals (first | assumption | exact hT _ | ((with_reducible show wpAny _ _ (call (Value.builtin "tuple.__getattribute__") _ _) _ _ _); refine call_meets F.slot_tuple_getattribute (hT _) am_entry_tuple_getattribute (F.args_tuple_getattribute_2 _ _) (meets_getattribute_miss_tuple a xs k osl "keys" _ Z5G (by decide +kernel) (by size_fits)) ⟨hx,hA,fun h2 tk2 e2 hx2=>?_⟩) | wp_step))
 obtain ⟨ty,ut,hy⟩:=hx2.there
 show wpAny _ _ (getattributeRaised _ _ _ _ _ _ _) _ _ _; unfold getattributeRaised; repeat (any_goals (first | assumption | wp_step))
 exact h _ _ hx2.keeps
end PySem
namespace L2
open PySem PySem.Spec PyProof.Rows
def TSt (s:Shared) (it l:Addr) (its:List Value) (i:Nat) (acc:Array Value) (s2:Shared):Prop:=∃ h2 tk2,s2={ s with heap:=h2,toks:=tk2 }∧h2.IsTupleIter it l i∧(∀ b o,s.heap.get? b=some o→h2.get? b=some o)∧acc.toList=its.take i∧i≤its.length
theorem IsTup.up {h h2:Heap} {a:Addr} {xs:Array Value} (x:IsTup h a xs) (k:∀ b o,h.get? b=some o→h2.get? b=some o):h2.IsTuple a xs:=x.keeps k
theorem J0A {P:Program} {w:World} {A:Around} (hh:A.handled=none) {it Z l:Addr} {its:List Value} {s:Shared} (hl:IsTup s.heap l its.toArray) (hi:s.heap.objs.size≤it) (hZ:s.heap.objs.size≤Z) (hZi:Z≠it) :
  Z7B P w A it Z its.length (TSt s it l its) (LFin s its) where
 item:=by
  rintro i acc s2 Q E hi' ⟨h2,tk2,rfl,st,k,ea,_⟩ q
  have hx:its.toArray[i]?=some its[i]:=by simp
  refine wpAny_pyNext_tuple_item st (IsTup.up hl k) hx fun h3 st3 sb=>q _ _ ⟨h3,tk2,rfl,st3,fun b o e=>(sb.2 b fun z=>?_).trans (k b o e),?_,hi'⟩ fun o e=>(sb.2 Z hZi).trans e
  ·exact absurd (Heap.lt_size e) (by rw [z]; exact Nat.not_lt.mpr hi)
  ·rw [Array.toList_push,ea,List.take_succ_eq_append_getElem hi']
 done:=by
  rintro acc s2 Q E ⟨h2,tk2,rfl,st,k,ea,_⟩ q
  refine wpAny_pyNext_tuple_end hh st (IsTup.up hl k) (by simp) fun h3 eb=>q _ ⟨h3,tk2,rfl,fun b o e=>eb b o (fun z=>?_) (k b o e),?_⟩ fun o e=>eb Z o hZi e
  ·exact absurd (Heap.lt_size e) (by rw [z]; exact Nat.not_lt.mpr hi)
  ·rw [ea,List.take_of_length_le (Nat.le_refl _)]
 size:=by
  rintro i acc s2 ⟨h2,tk2,rfl,st,k,ea,hi'⟩
  rw [← Array.length_toList,ea,List.length_take]; exact Nat.min_eq_left hi'
 frame:=by
  rintro i acc s2 h3 ⟨h2,tk2,rfl,st,k,ea,hi'⟩ kz _
  exact ⟨h3,tk2,rfl,st.at fun o e=>kz it o (Ne.symm hZi) e,fun b o e=>kz b o (fun z=>absurd (Heap.lt_size e) (by rw [z]; exact Nat.not_lt.mpr hZ)) (k b o e),ea,hi'⟩
def J1j (K:W.Frag):List V→Hp→VK→Prop:=fun xs H Q=>∃ a,xs=[.ref a]∧SqT K H a []∧∀ d,H d=none→Q (.ref d) (upd H d (.dK []))
theorem J5X {K:W.Frag} {xs:List V} {H:Hp} {Q:VK}:J1j K xs H Q=∃ a,xs=[.ref a]∧SqT K H a []∧∀ d,H d=none→Q (.ref d) (upd H d (.dK [])):=rfl
theorem Z9h {X:Cx} (hc:X.calm=true):Z4n X (.type "dict") (J1j X.K):=by
 intro pins s σ H xs us Q I r h
 obtain ⟨a,rfl,hq,q⟩:=h
 obtain ⟨u,rfl,ru⟩:=J0b r
 cases ru
 obtain ⟨o,n0,g0,oc,oda,odc⟩:∃ o n0,s.heap.get? a=some o∧o.cls=.type "tuple"∧o.data=.seq #[] n0∧o.dict=none:=by
  rcases hq with h | ⟨o,its,n,hk,hc,hs,hz,r⟩
  ·obtain ⟨⟨hz,hdn⟩,its,rv,o,g0,oc,n0,oda⟩:=h.ok I.hok
   have ei:its=[]:=by cases rv; rfl
   subst ei
   exact ⟨o,n0,g0,oc,oda,hdn o g0⟩
  ·have ei:its.toList=[]:=by generalize its.toList=l at r; cases r; rfl
   have ei:its=#[]:=Array.toList_eq_nil_iff.mp ei
   subst ei
   exact ⟨o,n,I.kIn a o hk,hc.1,hs,hc.2⟩
 have isl:IsTup s.heap a ([]:List Value).toArray:=⟨o,g0,oc,n0,oda⟩
 have hZ0:=Heap.lt_size g0
 refine callType_codes (Q₁:=fun ob sn=>ob=.ref s.heap.objs.size∧sn={ s with heap:=s.heap.push { cls:=.type "dict",data:=.dict #[] } }) F.kt_called_dict (F.kt_typeCall_dict_1 _) F.entry_dict_init (kt_code_dict_new _ ⟨rfl,rfl⟩) ?_
 rintro ob sn ⟨rfl,rfl⟩
 have hnew:({ s with heap:=s.heap.push { cls:=.type "dict",data:=.dict #[] } }:Shared).heap.DictOf (Z0N X.prog X.w) s.heap.objs.size []:=Heap.DictOf.new s.heap
 have es:({ s with heap:=s.heap.push { cls:=.type "dict",data:=.dict #[] } }:Shared).heap.objs.size=s.heap.objs.size+1:=Heap.size_push ..
 have g1:({ s with heap:=s.heap.push { cls:=.type "dict",data:=.dict #[] } }:Shared).heap.get? a=some o:=Heap.get?_push_of_some _ g0
 have k1:∀ b u,s.heap.get? b=some u→({ s with heap:=s.heap.push { cls:=.type "dict",data:=.dict #[] } }:Shared).heap.get? b=some u:=fun b u e=>Heap.get?_push_of_some _ e
 refine ⟨hnew.typeIs,F.args_dict_init_2 _ _,?_⟩; unfold Builtin.«dict.__init__»; refine wpAny_bind ?_; unfold Builtin.Dict.selfAndRest; refine wpAny_bind (wpAny_notOrdered_dict hnew.typeIs ?_)
 show wpAny _ _ (pure (s.heap.objs.size,[Value.ref a])) _ _ _
 refine wpAny_pure ?_
 show wpAny _ _ (Builtin.Dict.updateFrom "dict.__init__" s.heap.objs.size (.ref a) [] .none) _ _ _; unfold Builtin.Dict.updateFrom; refine wpAny_bind (wpAny_typeOf (T:="tuple") ⟨_,g1,oc⟩ ?_)
 rw [if_pos (by decide)]
 refine wpAny_bind (Z9o (show X.A.in1.in1.handled=none from I.ok.hd hc) g1 oc oda odc fun h2 tk2 kp=>?_)
 have ls:s.heap.objs.size < h2.objs.size:=by
  obtain ⟨o2,_,_,ho2,_⟩:=hnew
  exact Heap.lt_size (kp _ _ ho2)
 have k2:∀ b u,s.heap.get? b=some u→h2.get? b=some u:=fun b u e=>kp b u (k1 b u e)
 show wpAny _ _ (rule _ >>= _) _ _ _
 refine wpAny_bind (wpAny_rule (wpAny_bind (wpAny_pyIter_tuple (IsTup.up isl k2) ?_)))
 refine wpAny_pure ⟨plainId_quiet Z2G ⟨[.ref s.heap.objs.size,.ref h2.objs.size,rawInt 0,.none],[]⟩,?_⟩
 have hZi:s.heap.objs.size≠h2.objs.size:=Nat.ne_of_lt ls
 refine Z7a (n:=0) (J0A (its:=[]) (show X.A.in1.in1.handled=none from I.ok.hd hc) isl (Nat.le_of_lt ls) (Nat.le_refl _) hZi) (fun i acc s2 h3 t3 st kz _=>?_) (fun i=>.inr "") (fun i=>.non) (fun i acc v s2 hi st=>absurd hi (Nat.not_lt_zero _)) (Nat.zero_le _) .none 0 0 _ #[] [] rfl (Nat.zero_le _) ⟨_,tk2,rfl,⟨_,Heap.get?_push_size _ rfl,rfl,rfl⟩,fun b u e=>Heap.get?_push_of_some _ (k2 b u e),rfl,Nat.zero_le _⟩ .nil (hnew.at fun o e=>Heap.get?_push_of_some _ (kp _ o e)) fun s2 acc vs2 fin kv g=>?_
 ·obtain ⟨h4,tk4,rfl,st,k,ea,hi'⟩:=st
  exact ⟨h3,t3,rfl,st.at fun o e=>kz _ o (Ne.symm hZi) e,fun b u e=>kz b u (Nat.ne_of_lt (Heap.lt_size e)) (k b u e),ea,hi'⟩
 ·obtain ⟨h4,tk4,rfl,k,_⟩:=fin
  refine ⟨rfl,.ref _,upd H s.heap.objs.size (.dK []),I.laid (t':=tk4) k (Nat.le_refl _) (Z8a ?_ (beq_false_of_ne (Nat.ne_of_gt I.big)) ?_ g),rfl,q _ (I.hok.fresh (Nat.le_refl _))⟩
  ·exact Nat.zero_le _
  ·exact kv
end L2
end
section
namespace L2
open PySem PySem.Spec PyProof.Rows
def rLen (K:W.Frag):List V→Hp→VK→Prop:=fun xs H Q=>∃ p ys,xs=[.ref p]∧(SqL K H p ys∨SqT K H p ys)∧Q (.int ys.length) H
theorem J8J {K:W.Frag} {xs:List V} {H:Hp} {Q:VK}:rLen K xs H Q=∃ p ys,xs=[.ref p]∧(SqL K H p ys∨SqT K H p ys)∧Q (.int ys.length) H:=rfl
theorem J0T {X:Cx}:Z4n X (.builtin "len") (rLen X.K):=Z0S
end L2
end
section
namespace L2
open PySem PySem.Spec PyProof.Rows
section
variable {X:Cx} {pins:List (Addr×Obj)} {σ:St} {H:Hp} {s:Shared}
end
def Itd (d:Addr) (o:Obj) (kvs:List (Key×V)):It:=
 ⟨fun i H=>H d=some (.frz o (.dK kvs))∧i < kvs.length,fun i H x H'=>H'=H∧∃ k v,kvs[i]?=some (k,v)∧x=kV k,fun i H=>H d=some (.frz o (.dK kvs))∧kvs.length≤i⟩
def J8a (tl:TE):TI:=fun σ H R=>tl σ H fun v H1=>∃ d kvs,v=.ref d∧H1 d=some (.dK kvs)∧∀ o,R (Itd d o kvs) (upd H1 d (.frz o (.dK kvs)))
theorem J6U {tl:TE} {σ:St} {H:Hp} {R:It→Hp→Prop}:J8a tl σ H R=tl σ H fun v H1=>∃ d kvs,v=.ref d∧H1 d=some (.dK kvs)∧∀ o,R (Itd d o kvs) (upd H1 d (.frz o (.dK kvs))):=rfl
def J8f:List V→Hp→VK→Prop:=fun xs H Q=>∃ d kvs,xs=[V.ref d]∧Rd H d (.dK kvs)∧Q (.int (kvs.length:Int)) H
theorem J6X {xs:List V} {H:Hp} {Q:VK}:J8f xs H Q=∃ d kvs,xs=[V.ref d]∧Rd H d (.dK kvs)∧Q (.int (kvs.length:Int)) H:=rfl
end L2
end
section
namespace L2
open PySem PySem.Spec PyProof.Rows
def J3C:V→Bool
 | .non | .bl _ | .int _ | .str _=>true
 | _=>false
theorem J8l {K:W.Frag}:W.kitOne K (.type "NoneType") (.type "tuple")=some false:=by with_unfolding_all rfl
theorem J8s {K:W.Frag}:W.kitOne K (.type "bool") (.type "tuple")=some false:=by with_unfolding_all rfl
theorem J8H {K:W.Frag}:W.kitOne K (.type "int") (.type "tuple")=some false:=by with_unfolding_all rfl
theorem J8A {K:W.Frag}:W.kitOne K (.type "str") (.type "tuple")=some false:=by with_unfolding_all rfl
def J4n (K:W.Frag):List V→Hp→VK→Prop:=fun xs H Q=>∃ x,xs=[x,.ty "tuple"]∧((∃ a us,x=.ref a∧SqT K H a us∧Q (.bl true) H)∨(J3C x=true∧Q (.bl false) H))
theorem J7v {K:W.Frag} {xs:List V} {H:Hp} {Q:VK}:J4n K xs H Q=∃ x,xs=[x,.ty "tuple"]∧((∃ a us,x=.ref a∧SqT K H a us∧Q (.bl true) H)∨(J3C x=true∧Q (.bl false) H)):=rfl
theorem J1m {X:Cx}:Z4n X (.builtin "isinstance") (J4n X.K):=by
 intro pins s σ H xs us Q I rs h
 obtain ⟨x,rfl,h⟩:=h
 obtain ⟨u,v,rfl,ru,rv⟩:=rs.two
 rw [J2H (c:=.ty "tuple") rfl rv]
 rcases h with ⟨a,ws,rfl,hq,q⟩ | ⟨nt,q⟩
 ·cases (show u=Value.ref a from ru)
  obtain ⟨its,r,pl,hz⟩:=I.tuple hq
  obtain ⟨o,h1,h2,_⟩:=pl
  exact W.kia_one W.kitx_tuple I.kIn ⟨o,h1,h2⟩ Z4G (fun z=>nomatch z) fun tk=>⟨.bl true,H,I.tok tk,rfl,q⟩
 ·cases x with
  | non=>exact Z4c I ru .non J8l fun tk=>⟨.bl false,H,I.tok tk,rfl,q⟩
  | bl b=>exact Z4c I ru (.bl b) J8s fun tk=>⟨.bl false,H,I.tok tk,rfl,q⟩
  | int i=>exact Z4c I ru (.int i) J8H fun tk=>⟨.bl false,H,I.tok tk,rfl,q⟩
  | str x=>exact Z4c I ru (.str x) J8A fun tk=>⟨.bl false,H,I.tok tk,rfl,q⟩
  | _=>cases nt
end L2
end
section
namespace L2
open PySem PySem.Spec PyProof.Rows
theorem J2U {K:W.Frag} {a:Addr} {g:TG} {tb:TS} {D:Ends} {σ:St} {H:Hp} (xs:List V) (Pv:Nat→St→Hp→Prop) (h0:Pv 0 σ H) (hl:∀ i σ H,i≤xs.length→Pv i σ H→SqL K H a xs)
  (hs:∀ i x σ H,xs.reverse[i]?=some x→Pv i σ H→g x σ H fun σ2 H2=>tb { D with nx:=Pv (i+1),ct:=Pv (i+1),bk:=D.nx } σ2 H2) (hd:∀ σ H,Pv xs.length σ H→D.nx σ H):Z9s (Itv K a xs.length) g tb D σ H:=by
 refine ⟨fun i m σ H=>m=xs.length - i∧i≤xs.length∧Pv i σ H,⟨xs.length,by simp,Nat.zero_le _,h0⟩,?_⟩
 rintro i m σ H ⟨rfl,hi,p⟩
 have q:=hl i σ H hi p
 by_cases hlt:i < xs.length
 ·refine .inr ⟨⟨hlt,xs,q,rfl⟩,Pv (i+1),fun σ' H' p'=>⟨xs.length - (i+1),by omega,rfl,hlt,p'⟩,fun x H' y=>?_⟩
  obtain ⟨e,y⟩:=y
  subst e
  exact hs i x σ _ (by rw [List.getElem?_reverse hlt]; exact y xs q) p
 ·have e:i=xs.length:=by omega
  subst e
  exact .inl ⟨rfl,hd σ H p⟩
theorem J0K {K:W.Frag} {a:Addr} {g:TG} {tb:TS} {D:Ends} {σ:St} {H:Hp} (xs:List V) (Pv:Nat→St→Hp→Prop) (h0:Pv 0 σ H) (hl:∀ i σ H,i≤xs.length→Pv i σ H→SqL K H a xs)
  (hs:∀ i x t σ H,xs[i]?=some x→H t=none→Pv i σ H→g (.ref t) σ (upd H t (.tup [.int i,x])) fun σ2 H2=>tb { D with nx:=Pv (i+1),ct:=Pv (i+1),bk:=D.nx } σ2 H2) (hd:∀ σ H,Pv xs.length σ H→D.nx σ H):Z9s (Ite K a) g tb D σ H:=by
 refine ⟨fun i m σ H=>m=xs.length - i∧i≤xs.length∧Pv i σ H,⟨xs.length,by simp,Nat.zero_le _,h0⟩,?_⟩
 rintro i m σ H ⟨rfl,hi,p⟩
 have q:=hl i σ H hi p
 by_cases hlt:i < xs.length
 ·refine .inr ⟨⟨xs,xs[i],q,List.getElem?_eq_getElem hlt⟩,Pv (i+1),fun σ' H' p'=>⟨xs.length - (i+1),by omega,rfl,hlt,p'⟩,fun x H' y=>?_⟩
  obtain ⟨t,x',e,ht,e2,y⟩:=y
  subst e e2
  exact hs i x' t σ _ (y xs q) ht p
 ·have e:i=xs.length:=by omega
  subst e
  exact .inl ⟨⟨xs,q,Nat.le_refl _⟩,hd σ H p⟩
end L2
end
section
namespace L2
open PySem PySem.Spec PyProof.Rows
theorem Z5B {J:It} {g:TG} {te:TE} {Q:VK} {H:Hp} {D:Addr} {ys:List V} {σ0:St} (Sv:St→Prop) (R:Nat→V→Hp→Prop) (mono:∀ j v H1 H2,R j v H1→Z4S H1 H2→R j v H2) (e0:Sv σ0) (hD:H D=none) (hz:ys.length≤sizeLine)
  (j1:∀ i H1,Same H H1→i < ys.length→J.go i H1) (j2:∀ i H1 x H2,Same H H1→J.yld i H1 x H2→H2=H1∧ys[i]?=some x) (j3:∀ H1,Same H H1→J.stop ys.length H1)
  (he:∀ i y σ,ys[i]?=some y→Sv σ→∀ H1 (K':St→VK),Same H H1→(∀ σ3 v H2,Sv σ3→Same H1 H2→R i v H2→K' σ3 v H2)→g y σ H1 fun σ3 H3=>te σ3 H3 (K' σ3))
  (hQ:∀ vs H',Same H H'→H' D=some (.lst vs)→vs.length=ys.length→(∀ j v,vs[j]?=some v→R j v H')→Q (.ref D) H'):Z4p J g Z3n te D Q σ0 (upd H D (.lst [])):=by
 refine ⟨fun i m σ' H'=>m=ys.length - i∧i≤ys.length∧Sv σ'∧Same H H'∧∃ vs,H' D=some (.lst vs)∧vs.length=i∧∀ j v,vs[j]?=some v→R j v H',⟨ys.length,by simp,Nat.zero_le _,e0,Z0v hD _,[],Z0e,rfl,fun j v h=>by simp at h⟩,?_⟩
 rintro i m σ' H' ⟨rfl,hi,hS,s1,vs,hv,hl,hr⟩
 by_cases hlt:i < ys.length
 ·refine .inr ⟨j1 i H' s1 hlt,fun σ2 H2=>Sv σ2∧Same H H2∧∃ vs,H2 D=some (.lst vs)∧vs.length=i+1∧∀ j v,vs[j]?=some v→R j v H2,fun σ2 H2 ⟨a,b,c⟩=>⟨ys.length - (i+1),by omega,rfl,hlt,a,b,c⟩,fun x H2 hx=>?_⟩
  obtain ⟨e1,e2⟩:=j2 i H' x H2 s1 hx
  subst e1
  unfold Z3n
  simp only [if_true]
  refine he i x σ' e2 hS H2 _ s1 fun σ3 v H3 hS3 s3 hR=>?_
  have h3:=s3 _ _ hv
  have sn:Z4S H3 (upd H3 D (.lst (vs++[v]))):=fun b o ho hb=>by
   rw [Z0j (fun z=>by rw [z,h3] at hb; cases hb; exact ho _ rfl)]
   exact hb
  refine ⟨vs,h3,by omega,hS3,fun b o hb=>?_,_,Z0e,by rw [List.length_append,hl]; rfl,fun j u hj=>?_⟩
  ·rw [Z0j (Z0i hb hD)]
   exact s3 _ _ (s1 _ _ hb)
  ·by_cases hj':j < vs.length
   ·rw [List.getElem?_append_left hj'] at hj
    exact mono j u _ _ (mono j u _ _ (hr j u hj) fun b o _ hb=>s3 b o hb) sn
   ·rw [List.getElem?_append_right (by omega)] at hj
    have ej:j - vs.length=0:=by
     have:=(List.getElem?_eq_some_iff.mp hj).1
     simp at this
     omega
    rw [ej] at hj
    cases hj
    have:j=i:=by omega
    subst this
    exact mono _ _ _ _ hR sn
 ·have e:i=ys.length:=by omega
  subst e
  exact .inl ⟨j3 _ s1,hQ vs H' s1 hv hl hr⟩
theorem Z4W {K:W.Frag} {a:Addr} {g:TG} {te:TE} {Q:VK} {H:Hp} {D:Addr} {ys:List V} {σ0:St} (Sv:St→Prop) (R:Nat→V→Hp→Prop) (mono:∀ j v H1 H2,R j v H1→Z4S H1 H2→R j v H2) (e0:Sv σ0) (hD:H D=none) (hz:ys.length≤sizeLine) (ha:∀ H1,Same H H1→SqT K H1 a ys)
  (he:∀ i y σ,ys[i]?=some y→Sv σ→∀ H1 (K':St→VK),Same H H1→(∀ σ3 v H2,Sv σ3→Same H1 H2→R i v H2→K' σ3 v H2)→g y σ H1 fun σ3 H3=>te σ3 H3 (K' σ3))
  (hQ:∀ vs H',Same H H'→H' D=some (.lst vs)→vs.length=ys.length→(∀ j v,vs[j]?=some v→R j v H')→Q (.ref D) H'):Z4p (Itt K a) g Z3n te D Q σ0 (upd H D (.lst [])):=
 Z5B Sv R mono e0 hD hz (fun i H1 s h=>⟨ys,ys[i],ha H1 s,List.getElem?_eq_getElem h⟩) (fun i H1 x H2 s h=>⟨h.1,h.2 ys (ha H1 s)⟩) (fun H1 s=>⟨ys,ha H1 s,Nat.le_refl _⟩) he hQ
theorem Z7s {K:W.Frag} {a:Addr} {g:TG} {te:TE} {Q:VK} {H:Hp} {D:Addr} {ys:List V} {σ0:St} (Sv:St→Prop) (R:Nat→V→Hp→Prop) (mono:∀ j v H1 H2,R j v H1→Z4S H1 H2→R j v H2) (e0:Sv σ0) (hD:H D=none) (hz:ys.length≤sizeLine) (ha:∀ H1,Same H H1→SqL K H1 a ys)
  (he:∀ i y σ,ys[i]?=some y→Sv σ→∀ H1 (K':St→VK),Same H H1→(∀ σ3 v H2,Sv σ3→Same H1 H2→R i v H2→K' σ3 v H2)→g y σ H1 fun σ3 H3=>te σ3 H3 (K' σ3))
  (hQ:∀ vs H',Same H H'→H' D=some (.lst vs)→vs.length=ys.length→(∀ j v,vs[j]?=some v→R j v H')→Q (.ref D) H'):Z4p (Itl K a) g Z3n te D Q σ0 (upd H D (.lst [])):=
 Z5B Sv R mono e0 hD hz (fun i H1 s h=>⟨ys,ys[i],ha H1 s,List.getElem?_eq_getElem h⟩) (fun i H1 x H2 s h=>⟨h.1,h.2 ys (ha H1 s)⟩) (fun H1 s=>⟨ys,ha H1 s,Nat.le_refl _⟩) he hQ
end L2
end
section
namespace L2
open PySem PySem.Spec PyProof.Rows
theorem Z9f {K:W.Frag} {a:Addr} {tc:TT} {Q:VK} {H:Hp} {D:Addr} {ys:List V} {σ0:St} (v0:Option V) (rest:St) (p:V→Bool) (e0:σ0=v0::rest) (hD:H D=none) (hz:ys.length≤sizeLine) (ha:∀ H1,Same H H1→SqL K H1 a ys)
  (hc:∀ y∈ys,∀ H1 (K':Bool→Hp→Prop),Same H H1→(∀ H2,Same H1 H2→K' (p y) H2)→tc (some y::rest) H1 K')
  (hQ:∀ H',Same H H'→H' D=some (.lst (ys.filter p))→Q (.ref D) H'):Z4p (Itl K a) (Z3M 0) tc (Z6n 0) D Q σ0 (upd H D (.lst [])):=by
 refine ⟨fun i m σ' H'=>m=ys.length - i∧i≤ys.length∧(∃ v,σ'=v::rest)∧Same H H'∧H' D=some (.lst ((ys.take i).filter p)),⟨ys.length,by simp,Nat.zero_le _,⟨v0,e0⟩,Z0v hD _,Z0e⟩,?_⟩
 rintro i m σ' H' ⟨rfl,hi,⟨v,rfl⟩,s1,hv⟩
 have hq:=ha H' s1
 by_cases hlt:i < ys.length
 ·refine .inr ⟨⟨ys,ys[i],hq,List.getElem?_eq_getElem hlt⟩,fun σ2 H2=>(∃ v,σ2=v::rest)∧Same H H2∧H2 D=some (.lst ((ys.take (i+1)).filter p)),fun σ2 H2 ⟨a,b,c⟩=>⟨ys.length - (i+1),by omega,rfl,hlt,a,b,c⟩,fun x H2 hx=>?_⟩
  obtain ⟨e1,e2⟩:=hx
  subst e1
  have ex:=e2 ys hq
  rw [List.getElem?_eq_getElem hlt] at ex
  cases ex
  unfold Z3M
  rw [List.set_cons_zero]
  refine hc _ (List.getElem_mem hlt) H2 _ s1 fun H3 s3=>?_
  have h3:=s3 _ _ hv
  rw [List.take_succ_eq_append_getElem hlt,List.filter_append]
  cases e:p ys[i] with
  | true=>
   rw [if_pos rfl]
   refine ⟨_,h3,?_,⟨_,rfl⟩,fun b o hb=>?_,?_⟩
   ·have:=List.length_filter_le p (ys.take i)
    rw [List.length_take] at this
    omega
   ·rw [Z0j (Z0i hb hD)]
    exact s3 _ _ (s1 _ _ hb)
   ·rw [Z0e,List.filter_cons,e]; rfl
  | false=>
   rw [if_neg (by decide)]
   refine ⟨⟨_,rfl⟩,s1.trans s3,?_⟩
   rw [h3,List.filter_cons,e]
   simp
 ·have e:i=ys.length:=by omega
  subst e
  rw [List.take_length] at hv
  exact .inl ⟨⟨ys,hq,Nat.le_refl _⟩,hQ H' s1 hv⟩
end L2
namespace L2
open PySem PySem.Spec PyProof.Rows
end L2
end
section
namespace L2
open PySem PySem.Spec PyProof.Rows WK
def Z2E (p:Nat→Bool) (i:Nat):List Nat:=(List.range i).filter p
theorem Z3a (p:Nat→Bool) (i:Nat):Z2E p (i+1)=Z2E p i++(if p i=true then [i] else []):=by
 unfold Z2E
 rw [List.range_succ,List.filter_append]
 congr 1
 rw [List.filter_cons]; rfl
theorem Z5a (p:Nat→Bool) (i:Nat):(Z2E p i).length≤i:=by
 have:=List.length_filter_le p (List.range i)
 rw [List.length_range] at this
 exact this
theorem Z3E {J:It} {g:TG} {tc:TT} {te:TE} {Q:VK} {H:Hp} {D:Addr} {n:Nat} {σ0:St} (Sv:St→Prop) (Sw:Nat→St→Prop) (p:Nat→Bool) (R:Nat→V→Hp→Prop) (mono:∀ j v H1 H2,R j v H1→Z4S H1 H2→R j v H2) (e0:Sv σ0) (hD:H D=none) (hz:n≤sizeLine)
  (j1:∀ i H1,Same H H1→i < n→J.go i H1) (j3:∀ H1,Same H H1→J.stop n H1)
  (hg:∀ i x σ H1 H2 (K':St→Hp→Prop),i < n→Same H H1→J.yld i H1 x H2→Sv σ→(∀ σ3 H3,Sw i σ3→Same H1 H3→K' σ3 H3)→g x σ H2 K')
  (hb:∀ i σ,Sw i σ→Sv σ)
  (hc:∀ i σ,i < n→Sw i σ→∀ H1 (K':Bool→Hp→Prop),Same H H1→(∀ H2,Same H1 H2→K' (p i) H2)→tc σ H1 K')
  (he:∀ i σ,i < n→p i=true→Sw i σ→∀ H1 (K':VK),Same H H1→(∀ v H2,Same H1 H2→R i v H2→K' v H2)→te σ H1 K')
  (hQ:∀ vs H',Same H H'→H' D=some (.lst vs)→A2 (fun v i=>R i v H') vs (Z2E p n)→Q (.ref D) H'):Z4p J g tc te D Q σ0 (upd H D (.lst [])):=by
 refine ⟨fun i m σ' H'=>m=n - i∧i≤n∧Sv σ'∧Same H H'∧∃ vs,H' D=some (.lst vs)∧A2 (fun v i=>R i v H') vs (Z2E p i),⟨n,by simp,Nat.zero_le _,e0,Z0v hD _,[],Z0e,.nil⟩,?_⟩
 rintro i m σ' H' ⟨rfl,hi,hS,s1,vs,hv,hr⟩
 by_cases hlt:i < n
 ·refine .inr ⟨j1 i H' s1 hlt,fun σ2 H2=>Sv σ2∧Same H H2∧∃ vs,H2 D=some (.lst vs)∧A2 (fun v i=>R i v H2) vs (Z2E p (i+1)),fun σ2 H2 ⟨a,b,c⟩=>⟨n - (i+1),by omega,rfl,hlt,a,b,c⟩,fun x H2 hx=>?_⟩
  refine hg i x σ' H' H2 _ hlt s1 hx hS fun σ3 H3 hw s3=>?_
  refine hc i σ3 hlt hw H3 _ (s1.trans s3) fun H4 s4=>?_
  have s34:=s3.trans s4
  cases e:p i with
  | true=>
   rw [if_pos rfl]
   refine he i σ3 hlt e hw H4 _ (s1.trans s34) fun v H5 s5 hR=>?_
   have s35:=s34.trans s5
   have h5:=s35 _ _ hv
   have sn:Z4S H5 (upd H5 D (.lst (vs++[v]))):=fun b o ho hb=>by
    rw [Z0j (fun z=>by rw [z,h5] at hb; cases hb; exact ho _ rfl)]
    exact hb
   refine ⟨vs,h5,?_,hb i σ3 hw,fun b o hb=>?_,_,Z0e,?_⟩
   ·have:=Z5a p i
    rw [hr.len]; omega
   ·rw [Z0j (Z0i hb hD)]
    exact s35 _ _ (s1 _ _ hb)
   ·rw [Z3a,e,if_pos rfl]
    refine A2.snoc (hr.mono fun v j r=>mono j v _ _ (mono j v _ _ r fun b o _ hb=>s35 b o hb) sn) (mono _ _ _ _ hR sn)
  | false=>
   rw [if_neg (by decide)]
   refine ⟨hb i σ3 hw,s1.trans s34,vs,s34 _ _ hv,?_⟩
   rw [Z3a,e,if_neg (by decide),List.append_nil]
   exact hr.mono fun v j r=>mono j v _ _ r fun b o _ hb=>s34 b o hb
 ·have e:i=n:=by omega
  subst e
  exact .inl ⟨j3 _ s1,hQ vs H' s1 hv hr⟩
end L2
end
section
namespace P23
open PySem
end P23
end
section
namespace P23
open PySem P15 PW
def ixO:List Str→Str→Option Nat
 | [],_=>none
 | y::ys,x=>if y=x then some 0 else (ixO ys x).map (·+1)
theorem Z3C:∀ {xs:List Str} {x:Str},x∉xs→ixO xs x=none
 | [],_,_=>rfl
 | y::ys,x,h=>by
  simp only [List.mem_cons,not_or] at h
  unfold ixO
  rw [if_neg (fun z=>h.1 z.symm),Z3C h.2]; rfl
theorem Z2s:∀ {xs:List Str} {x:Str},x∈xs→∃ i,ixO xs x=some i∧IxAt xs x i
 | y::ys,x,h=>by
  by_cases e:y=x
  ·exact ⟨0,by unfold ixO; rw [if_pos e],by rw [← e]; rfl,fun j hj=>absurd hj (Nat.not_lt_zero _)⟩
  ·have h:x∈ys:=by
    rcases List.mem_cons.mp h with z | z
    ·exact absurd z.symm e
    ·exact z
   obtain ⟨i,h1,h2,h3⟩:=Z2s h
   refine ⟨i+1,by unfold ixO; rw [if_neg e,h1]; rfl,h2,fun j hj=>?_⟩
   cases j with
   | zero=>exact fun z=>e (Option.some.inj z)
   | succ j=>exact h3 j (by omega)
theorem Z4V {xs:List Str} {x:Str} {i:Nat} (h:ixO xs x=some i):x∈xs∧i < xs.length∧IxAt xs x i:=by
 by_cases m:x∈xs
 ·obtain ⟨j,h1,h2⟩:=Z2s m
  rw [h] at h1; cases h1
  exact ⟨m,(List.getElem?_eq_some_iff.mp h2.1).1,h2⟩
 ·rw [Z3C m] at h; cases h
inductive FO (G:Pg) (w:Str):List Str→Option (Str×Nat×Wd)→Prop
 | nil:FO G w [] none
 | here {h:Str} {X:Hs} {es:List Str} {i:Nat} {d:Wd}:Look G h X→ixO (X.words.map Wd.name) w=some i→X.words[i]?=some d→FO G w (h::es) (some (h,i,d))
 | there {h:Str} {X:Hs} {es:List Str} {r:Option (Str×Nat×Wd)}:Look G h X→ixO (X.words.map Wd.name) w=none→FO G w es r→FO G w (h::es) r
theorem FO.ex {G:Pg} {w:Str}:∀ {ls:List Str},(∀ x∈ls,∃ X,Look G x X)→∃ r,FO G w ls r
 | [],_=>⟨none,.nil⟩
 | x::ls,h=>by
  obtain ⟨X,lk⟩:=h x List.mem_cons_self
  obtain ⟨r,hr⟩:=FO.ex (ls:=ls) fun y hy=>h y (List.mem_cons_of_mem _ hy)
  cases e:ixO (X.words.map Wd.name) w with
  | none=>exact ⟨r,.there lk e hr⟩
  | some i=>
   have hi:=(Z4V e).2.1
   rw [List.length_map] at hi
   exact ⟨_,.here lk e (List.getElem?_eq_getElem hi)⟩
theorem FO.at {G:Pg} {wd h:Str} {ls:List Str} {i:Nat} {d:Wd} (f:FO G wd ls (some (h,i,d))):∃ X,Look G h X∧X.words[i]?=some d:=by
 generalize e:some (h,i,d)=r at f
 induction f with
 | nil=>cases e
 | here a b c=>cases e; exact ⟨_,a,c⟩
 | there _ _ _ ih=>exact ih e
theorem Chain.look {G:Pg} {h:Str} {es:List Str} (c:Chain G h es):∀ x∈h::es,∃ X,Look G x X:=by
 induction c with
 | top l _=>intro x hx; cases List.mem_singleton.mp hx; exact ⟨_,l⟩
 | up l _ _ ih=>
  intro x hx
  rcases List.mem_cons.mp hx with z | z
  ·rw [z]; exact ⟨_,l⟩
  ·exact ih x z
def SOk (x:Str):Prop:=x.cps.all (· < 0x110000)=true
theorem J3R {α:Type} {xs:List α} {i j:Nat} {x:α} (n:xs.Nodup) (h1:xs[i]?=some x) (h2:xs[j]?=some x):i=j:=
 (List.getElem?_inj (List.getElem?_eq_some_iff.mp h1).1 n).mp (h1.trans h2.symm)
structure Rw where
 name:Str
 elder:Option Str
 fields:List (Str×Str)
 heads:List (Str×List (Str×Str)×Str)
def J9t (r:Rw):Rw:={ r with elder:=none }
end P23
end
section
namespace P52
open PySem P15 PW P23
structure Hr where
 name:Str
 elder:Option Str
 words:List Str
def wd7 (w:Str):Wd:=⟨w,[],"number",.mk .number (.int 7) []⟩
def hs7 (r:Hr):Hs:=⟨r.name,r.elder,[],r.words.map wd7⟩
def mn7:Wd:=⟨"main",[],"number",.mk .number (.int 1) []⟩
def pg7 (rs:List Hr):Pg:=⟨rs.map hs7,mn7⟩
def WOk (x:Str):Prop:=PyData.strOk x=true∧x.cps.size≤10
structure HrOk (rs:List Hr):Prop where
 nd:(rs.map Hr.name).Nodup
 le:rs.length≤12
 up:∃ rk:Str→Nat,∀ r∈rs,∀ e,r.elder=some e→rk r.name < 12∧∃ r'∈rs,r'.name=e∧rk e < rk r.name
 wl:∀ r∈rs,r.words.length≤5
 so:∀ r∈rs,∀ w∈r.words,WOk w
theorem Z5b (rs:List Hr):(pg7 rs).houses.map Hs.name=rs.map Hr.name:=by
 show (rs.map hs7).map Hs.name=_
 rw [List.map_map]; rfl
theorem J1q {rs:List Hr} {r:Hr} (h:r∈rs):Look (pg7 rs) r.name (hs7 r):=⟨List.mem_map_of_mem h,rfl⟩
theorem J3T {rs:List Hr} {rk:Str→Nat} (up:∀ r∈rs,∀ e,r.elder=some e→rk r.name < 12∧∃ r'∈rs,r'.name=e∧rk e < rk r.name):∀ (n:Nat) r,r∈rs→(r.elder=none∨rk r.name≤n)→∃ es,Chain (pg7 rs) r.name es∧es.length≤n+1
 | 0,r,hr,h=>by
  have lk:=J1q hr
  cases e:r.elder with
  | none=>exact ⟨[],.top lk e,by simp⟩
  | some x=>
   obtain ⟨_,r',_,_,h3⟩:=up r hr x e
   rcases h with h | h
   ·rw [e] at h; cases h
   ·omega
 | n+1,r,hr,h=>by
  have lk:=J1q hr
  cases e:r.elder with
  | none=>exact ⟨[],.top lk e,by simp⟩
  | some x=>
   obtain ⟨_,r',h1,rfl,h3⟩:=up r hr x e
   rcases h with h | h
   ·rw [e] at h; cases h
   obtain ⟨es,h4,h5⟩:=J3T up n r' h1 (.inr (by omega))
   exact ⟨r'.name::es,.up lk e h4,by rw [List.length_cons]; omega⟩
theorem J1W {rs:List Hr} (ok:HrOk rs) {r:Hr} (hr:r∈rs):∃ es,Chain (pg7 rs) r.name es∧es.length≤100:=by
 obtain ⟨rk,up⟩:=ok.up
 cases e:r.elder with
 | none=>exact ⟨[],.top (J1q hr) e,by simp⟩
 | some x=>
  obtain ⟨es,h1,h2⟩:=J3T up 12 r hr (.inr (Nat.le_of_lt (up r hr x e).1))
  exact ⟨es,h1,by omega⟩
theorem all7 {rs:List Hr} (ok:HrOk rs):∃ (ch:Str→List Str) (fo:Str→Str→Option (Str×Nat×Wd)),∀ x∈rs.map Hr.name,Chain (pg7 rs) x (ch x)∧(ch x).length≤100∧∀ w,FO (pg7 rs) w (x::ch x) (fo x w):=by
 have h1:∀ x,∃ es,x∈rs.map Hr.name→Chain (pg7 rs) x es∧es.length≤100:=fun x=>by
  by_cases hx:x∈rs.map Hr.name
  ·obtain ⟨r,hr,rfl⟩:=List.mem_map.mp hx
   obtain ⟨es,h⟩:=J1W ok hr
   exact ⟨es,fun _=>h⟩
  ·exact ⟨[],fun z=>absurd z hx⟩
 have h2:∀ x w,∃ r,x∈rs.map Hr.name→FO (pg7 rs) w (x::(h1 x).choose) r:=fun x w=>by
  by_cases hx:x∈rs.map Hr.name
  ·obtain ⟨r,hr⟩:=FO.ex (G:=pg7 rs) (w:=w) (ls:=x::(h1 x).choose) (Chain.look ((h1 x).choose_spec hx).1)
   exact ⟨r,fun _=>hr⟩
  ·exact ⟨none,fun z=>absurd z hx⟩
 exact ⟨fun x=>(h1 x).choose,fun x w=>(h2 x w).choose,fun x hx=>⟨((h1 x).choose_spec hx).1,((h1 x).choose_spec hx).2,fun w=>(h2 x w).choose_spec hx⟩⟩
def Z4A (m ws:List Str):List Str:=m++ws.filter fun w=>decide (w∉m)
def Z2e (m:List Str):List (List Str)→List Str
 | []=>m
 | ws::r=>Z2e (Z4A m ws) r
theorem Z6z (m ws:List Str):(Z4A m ws).length≤m.length+ws.length:=by
 unfold Z4A
 rw [List.length_append]
 have:=List.length_filter_le (fun w=>decide (w∉m)) ws
 omega
theorem Z2X (k:Nat):∀ (l:List (List Str)) (m:List Str),(∀ ws∈l,ws.length≤k)→(Z2e m l).length≤m.length+k * l.length
 | [],m,_=>by simp [Z2e]
 | ws::r,m,h=>by
  have h1:=Z2X k r (Z4A m ws) fun x hx=>h x (List.mem_cons_of_mem _ hx)
  have h2:=Z6z m ws
  have h3:=h ws List.mem_cons_self
  show (Z2e (Z4A m ws) r).length≤_
  rw [List.length_cons,Nat.mul_add,Nat.mul_one]
  omega
theorem Z5x:∀ (l:List (List Str)) (m:List Str) x,x∈Z2e m l→x∈m∨∃ ws∈l,x∈ws
 | [],m,x,h=>.inl h
 | ws::r,m,x,h=>by
  rcases Z5x r (Z4A m ws) x h with h | ⟨w2,h1,h2⟩
  ·rcases List.mem_append.mp h with h | h
   ·exact .inl h
   ·exact .inr ⟨ws,List.mem_cons_self,(List.mem_filter.mp h).1⟩
  ·exact .inr ⟨w2,List.mem_cons_of_mem _ h1,h2⟩
theorem Z2H:∀ (l:List (List Str)) (m ws:List Str),Z2e m (l++[ws])=Z4A (Z2e m l) ws
 | [],m,ws=>rfl
 | x::r,m,ws=>Z2H r (Z4A m x) ws
def wn (G:Pg):List Str:=Z2e [] (G.houses.map fun X=>X.words.map Wd.name)
def met (rs:List Hr):List Str:=Z2e [] (rs.map Hr.words)
theorem wn7 (rs:List Hr):wn (pg7 rs)=met rs:=by
 unfold wn met
 refine congrArg _ ?_
 show (rs.map hs7).map _=_
 rw [List.map_map]
 refine List.map_congr_left fun r _=>?_
 show (r.words.map wd7).map Wd.name=r.words
 rw [List.map_map]
 exact (List.map_congr_left fun _ _=>rfl).trans (List.map_id _)
theorem Z5N {rs:List Hr} (ok:HrOk rs):(met rs).length≤60:=by
 have:=Z2X 5 (rs.map Hr.words) [] fun ws h=>by
  obtain ⟨r,hr,rfl⟩:=List.mem_map.mp h
  exact ok.wl r hr
 rw [List.length_map] at this
 have:=ok.le
 unfold met
 simp at *
 omega
theorem J0V {rs:List Hr} (ok:HrOk rs):∀ x∈met rs,WOk x:=fun x hx=>by
 rcases Z5x _ _ x hx with h | ⟨ws,h1,h2⟩
 ·cases h
 ·obtain ⟨r,hr,rfl⟩:=List.mem_map.mp h1
  exact ok.so r hr x h2
def Z1F:List Hs→Str→Nat
 | [],_=>0
 | X::r,h=>if X.name=h then 0 else X.words.length+Z1F r h
def preN (rs:List Hr) (j:Nat):Nat:=((rs.take j).map fun r=>r.words.length).sum
theorem J0S:∀ {rs:List Hr} {j:Nat} {r:Hr},(rs.map Hr.name).Nodup→rs[j]?=some r→Z1F (rs.map hs7) r.name=preN rs j
 | x::rs,0,r,_,h=>by
  cases h
  show (if (hs7 x).name=x.name then 0 else _)=_
  rw [if_pos (show (hs7 x).name=x.name from rfl)]; rfl
 | x::rs,j+1,r,n,h=>by
  rw [List.map_cons,List.nodup_cons] at n
  have h:rs[j]?=some r:=h
  have ne:¬ (hs7 x).name=r.name:=fun z=>n.1 (by
   have z:x.name=r.name:=z
   rw [z]; exact List.mem_map_of_mem (List.mem_of_getElem? h))
  show (if (hs7 x).name=r.name then 0 else (x.words.map wd7).length+Z1F (rs.map hs7) r.name)=_
  rw [if_neg ne,J0S n.2 h,List.length_map]
  unfold preN
  rw [List.take_succ_cons,List.map_cons,List.sum_cons]
def bk (G:Pg):Option (Str×Nat×Wd)→Option Nat
 | none=>none
 | some (h,i,_)=>some (Z1F G.houses h+i)
end P52
namespace P52
open PySem P15 PW P23
def NM:List Str:=["aa","ab","a","abb","b","bb","ba","c","cc","ca","d","da"]
theorem NM_nd:NM.Nodup:=by decide +kernel
def PL0:List Str:=["go","gone","g","on","o2","two"]
def PL1:List Str:=["a","ab","abc","b","ba","c"]
theorem J4P:∀ w,w∈PL0∨w∈PL1→WOk w:=by
 have h:∀ w∈PL0++PL1,PyData.strOk w=true∧w.cps.size≤10:=by decide +kernel
 exact fun w hw=>h w (List.mem_append.mpr hw)
structure DrOk (rs:List Hr):Prop where
 le:rs.length≤12
 at':∀ (j:Nat) (r:Hr),rs[j]?=some r→NM[j]?=some r.name∧(∀ e,r.elder=some e→∃ i,i < j∧NM[i]?=some e)∧r.words.length≤5∧∀ w∈r.words,WOk w
theorem DrOk.nil:DrOk []:=⟨by simp,fun j r h=>by simp at h⟩
theorem DrOk.snoc {rs:List Hr} {r:Hr} (d:DrOk rs) (l:rs.length < 12) (h:NM[rs.length]?=some r.name) (e:∀ e,r.elder=some e→∃ i,i < rs.length∧NM[i]?=some e) (w:r.words.length≤5) (s:∀ w∈r.words,WOk w):DrOk (rs++[r]):=by
 refine ⟨by rw [List.length_append]; simp; omega,fun j r' hj=>?_⟩
 by_cases hl:j < rs.length
 ·rw [List.getElem?_append_left hl] at hj
  exact d.at' j r' hj
 ·rw [List.getElem?_append_right (by omega)] at hj
  have:j - rs.length=0:=by
   have:=(List.getElem?_eq_some_iff.mp hj).1
   simp at this; omega
  rw [this] at hj
  cases hj
  have:j=rs.length:=by omega
  rw [this]
  exact ⟨h,e,w,s⟩
theorem DrOk.ok {rs:List Hr} (d:DrOk rs):HrOk rs:=by
 have hn:∀ j r,rs[j]?=some r→ixO NM r.name=some j:=fun j r h=>by
  have h1:=(d.at' j r h).1
  obtain ⟨i,e,h2⟩:=Z2s (List.mem_of_getElem? h1)
  rw [e,J3R NM_nd h2.1 h1]
 refine ⟨?_,d.le,⟨fun x=>(ixO NM x).getD 0,fun r hr e he=>?_⟩,fun r hr=>?_,fun r hr=>?_⟩
 ·have e:rs.map Hr.name=NM.take rs.length:=by
   refine List.ext_getElem? fun j=>?_
   rw [List.getElem?_map,List.getElem?_take]
   cases h:rs[j]? with
   | none=>
    rw [if_neg (by have:=List.getElem?_eq_none_iff.mp h; omega)]; rfl
   | some r=>
    rw [if_pos (List.getElem?_eq_some_iff.mp h).1,(d.at' j r h).1]; rfl
  rw [e]
  exact NM_nd.sublist (List.take_sublist _ _)
 ·obtain ⟨j,hj⟩:=List.getElem?_of_mem hr
  obtain ⟨i,hi,hi2⟩:=(d.at' j r hj).2.1 e he
  have lj:=(List.getElem?_eq_some_iff.mp hj).1
  have li:i < rs.length:=by omega
  have h3:=hn i rs[i] (List.getElem?_eq_getElem li)
  have h4:=(d.at' i rs[i] (List.getElem?_eq_getElem li)).1
  have en:rs[i].name=e:=by rw [hi2] at h4; exact (Option.some.inj h4).symm
  show (ixO NM r.name).getD 0 < 12∧∃ r',r'∈rs∧r'.name=e∧(ixO NM e).getD 0 < (ixO NM r.name).getD 0
  rw [hn j r hj]
  refine ⟨?_,rs[i],List.getElem_mem li,en,?_⟩
  ·show j < 12; have:=d.le; omega
  ·rw [← en,h3]; exact hi
 ·obtain ⟨j,hj⟩:=List.getElem?_of_mem hr
  exact (d.at' j r hj).2.2.1
 ·obtain ⟨j,hj⟩:=List.getElem?_of_mem hr
  exact (d.at' j r hj).2.2.2
theorem HrOk.perm {rs rs':List Hr} (p:rs'.Perm rs) (ok:HrOk rs):HrOk rs':=by
 have m:∀ r,r∈rs'↔r∈rs:=fun r=>p.mem_iff
 obtain ⟨rk,up⟩:=ok.up
 refine ⟨((p.map Hr.name).nodup_iff).mpr ok.nd,by rw [p.length_eq]; exact ok.le,⟨rk,fun r hr e he=>?_⟩,fun r hr=>ok.wl r ((m r).mp hr),fun r hr=>ok.so r ((m r).mp hr)⟩
 obtain ⟨h1,r',h2,h3⟩:=up r ((m r).mp hr) e he
 exact ⟨h1,r',(m r').mpr h2,h3⟩
theorem J2J (rs:List Hr) (k:Nat):(rs.drop k++rs.take k).Perm rs:=by
 have:=List.perm_append_comm (l₁:=rs.drop k) (l₂:=rs.take k)
 rw [List.take_append_drop] at this
 exact this
theorem Z5z (k:Nat):∀ (hs:List Hs) (h:Str),(∀ X∈hs,X.words.length≤k)→Z1F hs h≤k * hs.length
 | [],_,_=>Nat.zero_le _
 | X::hs,h,a=>by
  have h1:=Z5z k hs h fun Y hY=>a Y (List.mem_cons_of_mem _ hY)
  have h2:=a X List.mem_cons_self
  unfold Z1F
  rw [List.length_cons,Nat.mul_add,Nat.mul_one]
  split <;> omega
theorem J5h {rs:List Hr} (ok:HrOk rs) {w:Str} {ls:List Str} {R:Option (Str×Nat×Wd)} (f:FO (pg7 rs) w ls R) {m:Nat} (e:bk (pg7 rs) R=some m):m≤100:=by
 cases R with
 | none=>cases e
 | some t=>
  obtain ⟨h,i,d⟩:=t
  obtain ⟨X,lk,hd⟩:=f.at
  have hw:∀ X∈(pg7 rs).houses,X.words.length≤5:=fun X hX=>by
   obtain ⟨r,hr,rfl⟩:=List.mem_map.mp hX
   show (r.words.map wd7).length≤5
   rw [List.length_map]; exact ok.wl r hr
  have h1:=Z5z 5 (pg7 rs).houses h hw
  have h2:=(List.getElem?_eq_some_iff.mp hd).1
  have h3:=hw X lk.1
  have h4:(pg7 rs).houses.length≤12:=by
   show (rs.map hs7).length≤12
   rw [List.length_map]; exact ok.le
  have e:Z1F (pg7 rs).houses h+i=m:=Option.some.inj e
  omega
end P52
end
section
namespace P23
open PySem P15 PW
end P23
end
section
namespace P23
open PySem
end P23
end
section
namespace L2
open PySem PySem.Spec PyProof.Rows PySem.SeqAt
structure Lay (k:Nat) (d:PyData):Prop where
 lay:d.canLay0=true
 dep:d.depth≤k
structure LayL (k:Nat) (ds:List PyData):Prop where
 lay:PyData.canLayAll0 ds=true
 dep:PyData.depthAll ds≤k
theorem Lay.int {k:Nat} {i:Int}:Lay k (.int i):=⟨rfl,Nat.zero_le _⟩
theorem LayL.nil {k:Nat}:LayL k []:=⟨rfl,Nat.zero_le _⟩
theorem LayL.cons {k:Nat} {d:PyData} {ds:List PyData} (h:Lay k d) (hs:LayL k ds):LayL k (d::ds):=⟨by rw [PyData.canLayAll0,h.lay,hs.lay]; rfl,by rw [PyData.depthAll]; exact Nat.max_le.mpr ⟨h.dep,hs.dep⟩⟩
theorem Lay.tup {k:Nat} {ds:List PyData} (h:LayL k ds):Lay (k+1) (.tuple ds):=⟨by rw [PyData.canLay0]; exact h.lay,by rw [PyData.depth]; exact Nat.succ_le_succ h.dep⟩
theorem Lay.lst {k:Nat} {ds:List PyData} (h:LayL k ds):Lay (k+1) (.list ds):=⟨by rw [PyData.canLay0]; exact h.lay,by rw [PyData.depth]; exact Nat.succ_le_succ h.dep⟩
theorem Lay.shaped {k:Nat} {d:PyData} (h:Lay k d) (hk:k≤64):PySem.SeqAt.shaped d=true:=Bool.and_eq_true_iff.mpr ⟨h.lay,decide_eq_true (Nat.le_trans h.dep hk)⟩
theorem Lay.eqv {k:Nat} {d:PyData} (h:Lay k d):PyData.eqv d d=true:=eqv_refl d h.lay
theorem Lay.str {k:Nat} {x:Str} (h:P23.SOk x):Lay k (.str x):=⟨by rw [PyData.canLay0]; exact h,Nat.zero_le _⟩
end L2
end
section
namespace L2
open PySem PySem.Spec PyProof.Rows TM
theorem Z7z {J:It} {te:TE} {Q:VK} {H:Hp} {D:Addr} {ys:List V} {σ0:St} (v0:Option V) (rest:St) (R:Nat→V→Hp→Prop) (mono:∀ j v H1 H2,R j v H1→SX D H1 H2→R j v H2) (e0:σ0=v0::rest) (hD:H D=none) (hz:ys.length≤sizeLine)
  (j1:∀ i H1,Same H H1→i < ys.length→J.go i H1) (j2:∀ i H1 x H2,i < ys.length→Same H H1→J.yld i H1 x H2→H2=H1∧ys[i]?=some x) (j3:∀ H1,Same H H1→J.stop ys.length H1)
  (he:∀ i y,ys[i]?=some y→∀ H1 (K':VK),Same H H1→(∃ vs,H1 D=some (.lst vs))→(∀ v H2,Same H1 H2→R i v H2→K' v H2)→te (some y::rest) H1 K')
  (hQ:∀ vs H',Same H H'→H' D=some (.lst vs)→vs.length=ys.length→(∀ j v,vs[j]?=some v→R j v H')→Q (.ref D) H'):Z4p J (Z3M 0) Z3n te D Q σ0 (upd H D (.lst [])):=by
 refine ⟨fun i m σ' H'=>m=ys.length - i∧i≤ys.length∧(∃ v,σ'=v::rest)∧Same H H'∧∃ vs,H' D=some (.lst vs)∧vs.length=i∧∀ j v,vs[j]?=some v→R j v H',⟨ys.length,by simp,Nat.zero_le _,⟨v0,e0⟩,Z0v hD _,[],Z0e,rfl,fun j v h=>by simp at h⟩,?_⟩
 rintro i m σ' H' ⟨rfl,hi,⟨v,rfl⟩,s1,vs,hv,hl,hr⟩
 by_cases hlt:i < ys.length
 ·refine .inr ⟨j1 i H' s1 hlt,fun σ2 H2=>(∃ v,σ2=v::rest)∧Same H H2∧∃ vs,H2 D=some (.lst vs)∧vs.length=i+1∧∀ j v,vs[j]?=some v→R j v H2,fun σ2 H2 ⟨a,b,c⟩=>⟨ys.length - (i+1),by omega,rfl,hlt,a,b,c⟩,fun x H2 hx=>?_⟩
  obtain ⟨e1,e2⟩:=j2 i H' x H2 hlt s1 hx
  subst e1
  unfold Z3M Z3n
  rw [List.set_cons_zero]
  refine iteT (he i x e2 H2 _ s1 ⟨_,hv⟩ fun v H3 s3 hR=>?_)
  have h3:=s3 _ _ hv
  have sn:SX D H3 (upd H3 D (.lst (vs++[v]))):=SX.put _
  refine ⟨vs,h3,by omega,⟨_,rfl⟩,fun b o hb=>?_,_,Z0e,by rw [List.length_append,hl]; rfl,fun j u hj=>?_⟩
  ·rw [Z0j (Z0i hb hD)]
   exact s3 _ _ (s1 _ _ hb)
  ·by_cases hj':j < vs.length
   ·rw [List.getElem?_append_left hj'] at hj
    exact mono j u _ _ (mono j u _ _ (hr j u hj) (SX.of s3)) sn
   ·rw [List.getElem?_append_right (by omega)] at hj
    have ej:j - vs.length=0:=by
     have:=(List.getElem?_eq_some_iff.mp hj).1
     simp at this
     omega
    rw [ej] at hj
    cases hj
    have:j=i:=by omega
    subst this
    exact mono _ _ _ _ hR sn
 ·have e:i=ys.length:=by omega
  subst e
  exact .inl ⟨j3 _ s1,hQ vs H' s1 hv hl hr⟩
end L2
end
section
open PySem L2 TM WK
local macro_rules | `(tactic| walk_at "rd") => do let f := fun (s : String) => (s.splitOn " ").toArray.mapM fun n => `(Lean.Parser.Tactic.simpLemma| $(Lean.mkIdent n.toName):term); let a ← f "J5q J6R J6N J7K J7Z J5s J7G J8I J4b J6T J7h J7f J7o J8o J6M J7S J7v J6Q J7d J7q J5Z J5F J5X J8J J6U J6X J5z J6Y J6V J6G J6s J8b J9o J9h J8t J8S J8v J7n J8C J7u J8X J7p J8L J5n J7k J7s J8w J7w J7M J5x J6L J7N J7t J8E J7C J7U J8N J8i J7y J8Q J7b J8e J6K J7A J8P J8R J9i J8T J9q J8O J8U J7a J5r J8K J8h J7T J5d J8x J6Z J7x J7g J6J J8V J5f J6P J8Z J7O J6S J8F J8m J8q J6O J8W J8u J9a J5e J5c J8M J5Y J5b J5J J7E J8g J7r J5H J7j J6W J4E J5i J7m J7B J6o J7c J5W J7Q J7D J7H J7V List.getElem?_cons_zero List.getElem?_cons_succ List.set_cons_zero List.set_cons_succ Nat.reduceAdd Nat.reduceSub List.cons_append List.nil_append L2.Z4U List.map_cons List.map_nil List.length_cons List.length_nil List.replicate J9b"; let b ← f "J5q J6R J6N J7K J7Z J5s J7G J8I J4b J6T J7h J7f J7o J8o J6M J7S J7v J6Q J7d J7q J5Z J5F J5X J8J J6U J6X J5z J6Y J6V J6G J7e J7l J7i J7z J6s J7r J5H J7j J6W J4E J5i J7m J7B J6o J7c J5W J7Q J7D J7H J7V J8b J9o J9h J8t J8S J8v J7n J8C J7u J8X J7p J8L J5n J7k J7s J8w J7w J7M J5x J6L J7N J7t J8E J7C J7U J8N J8i J7y J8Q J7b J8e J6K J7A J8P J8R J9i J8T J9q J8O J8U J7a J5r J8K J8h J7T J5d J8x J6Z J7x J7g J6J J8V J5f J6P J8Z J7O J6S J8F J8m J8q J6O J8W J8u J9a J5e J5c J8M J5Y J5b J5J J7E J8g exists_eq_left' exists_eq_left exists_and_left exists_eq_right exists_eq_right' V.int.injEq V.str.injEq V.bl.injEq V.ref.injEq Option.some.injEq List.cons.injEq and_true true_and List.getElem?_cons_zero List.getElem?_cons_succ List.set_cons_zero List.set_cons_succ decide_eq_true_eq Bool.not_eq_true' decide_eq_false_iff_not reduceCtorEq J9j J9n J9f J9p J9s J9d J9u J9l J9k J9e J9g J9r J9m J9v L2.Z4U List.map_cons List.map_nil List.length_cons List.length_nil List.replicate List.cons_append List.nil_append List.append_nil Nat.reduceAdd Nat.reduceSub Nat.zero_add J4t J3S J5g J3Y J4M ix0 ix1 exists_const if_true if_false ite_true ite_false Bool.false_eq_true decide_true decide_false Bool.not_true Bool.not_false Bool.true_eq_false CPow CDiv CMul J8G or_true true_or and_self and_assoc sizeLine_eq Nat.reduceLeDiff Nat.reduceLT Nat.reducePow Nat.reduceMul Int.reducePow Int.reduceLE Int.reduceLT Int.reduceToNat Int.reduceAbs Int.reduceNeg Int.reduceAdd Int.reduceSub Int.reduceMul ne_eq not_false_eq_true not_true_eq_false J9b Int.zero_add"; `(tactic| ((try dsimp only [$a,*]); (try simp (config := { maxSteps := 10000000 }) only [$b,*])))
section
set_option format.width 520
namespace K52
open PySem L2 TM WK
open P15 (Lb Fm Tm dats Z1B okF Ok maxD sumS flatR Bld)
open PW (Vl Wd Hs Pg Sc Wt Ws IxAt Look Chain Z2R Flds Z2Z putS Z1f getS Z1A Two Step Z2T Z1k leaf)
seal L2.PE L2.PA L2.PT L2.PS L2.PSs L2.PG L2.PGs L2.PI L2.PW
theorem sc_word_names:Z0m ["program","names","house"] ["program"] (Z0b Z1J):=⟨rfl,rfl,rfl,by decide +kernel,rfl,by decide +kernel,by decide +kernel⟩
theorem sc_tables:Z0m ["program","hall","firsts","names","told","house"] ["program"] (Z0b Z3B):=⟨rfl,rfl,rfl,by decide +kernel,rfl,by decide +kernel,by decide +kernel⟩
theorem sc_first_blocks:Z0m ["program","firsts","number","house"] ["program"] (Z0b Z1l):=⟨rfl,rfl,rfl,by decide +kernel,rfl,by decide +kernel,by decide +kernel⟩
theorem sc_found_block:Z0m ["hall","firsts","house","word","where"] ["hall","firsts","house","word"] (Z0b Z1y):=⟨rfl,rfl,rfl,by decide +kernel,rfl,by decide +kernel,by decide +kernel⟩
theorem Z7L:Z0m ["form","label","parts"] ["form","label","parts"] (Z0b Z2z):=⟨rfl,rfl,rfl,by decide +kernel,rfl,by decide +kernel,by decide +kernel⟩
theorem Z7p:Z0m ["pairs"] ["pairs"] (Z0b Z2B):=⟨rfl,rfl,rfl,by decide +kernel,rfl,by decide +kernel,by decide +kernel⟩
theorem sc_program_of:Z0m ["plain","told_houses","told_main","params","kind","body"] ["plain"] (Z0b Z1S):=⟨rfl,rfl,rfl,by decide +kernel,rfl,by decide +kernel,by decide +kernel⟩
theorem sc_house_of:Z0m ["plain","name","elder","own_fields","own_words"] ["plain"] (Z0b Z2u):=⟨rfl,rfl,rfl,by decide +kernel,rfl,by decide +kernel,by decide +kernel⟩
theorem sc_word_of:Z0m ["plain","name","params","kind","body"] ["plain"] (Z0b Z2Y):=⟨rfl,rfl,rfl,by decide +kernel,rfl,by decide +kernel,by decide +kernel⟩
theorem sc_term_of:Z0m ["plain","built","one","inner"] ["plain"] (Z0b Z2V):=⟨rfl,rfl,rfl,by decide +kernel,rfl,by decide +kernel,by decide +kernel⟩
theorem sc_all_within:Z0m ["plain","found","waiting","one"] ["plain"] (Z0b Z1V):=⟨rfl,rfl,rfl,by decide +kernel,rfl,by decide +kernel,by decide +kernel⟩
theorem sc_parts_of:Z0m ["plain","form"] ["plain"] (Z0b Z2x):=⟨rfl,rfl,rfl,by decide +kernel,rfl,by decide +kernel,by decide +kernel⟩
theorem sc_label_of:Z0m ["plain","form"] ["plain"] (Z0b Z2y):=⟨rfl,rfl,rfl,by decide +kernel,rfl,by decide +kernel,by decide +kernel⟩
theorem J4K:Z0m ["hall","one","other"] ["hall","one","other"] (Z0b Z5r):=⟨rfl,rfl,rfl,by decide +kernel,rfl,by decide +kernel,by decide +kernel⟩
theorem sc_kinds_of:Z0m ["program","hall","told","house","word"] ["program"] (Z0b Z2v):=⟨rfl,rfl,rfl,by decide +kernel,rfl,by decide +kernel,by decide +kernel⟩
theorem sc_body_kinds:Z0m ["hall","house","word","told"] ["hall","house","word"] (Z0b Z1Q):=⟨rfl,rfl,rfl,by decide +kernel,rfl,by decide +kernel,by decide +kernel⟩
theorem sc_term_kinds:Z0m ["hall","house","term","bound","firsts","told","part","inner"] ["hall","house","term","bound"] (Z0b Z1N):=⟨rfl,rfl,rfl,by decide +kernel,rfl,by decide +kernel,by decide +kernel⟩
theorem Z7v:Z0m ["hall","house","term","bound","parts"] ["hall","house","term","bound","parts"] (Z0b Z2w):=⟨rfl,rfl,rfl,by decide +kernel,rfl,by decide +kernel,by decide +kernel⟩
theorem Z7l:Z0m ["program"] ["program"] (Z0b Z2A):=⟨rfl,rfl,rfl,by decide +kernel,rfl,by decide +kernel,by decide +kernel⟩
theorem sc_joined:Z0m ["rows","told","some"] ["rows"] (Z0b Z3y):=⟨rfl,rfl,rfl,by decide +kernel,rfl,by decide +kernel,by decide +kernel⟩
theorem Z5E:Z0m ["many","rows"] ["many","rows"] (Z0b Z1T):=⟨rfl,rfl,rfl,by decide +kernel,rfl,by decide +kernel,by decide +kernel⟩
theorem sc_walked:Z0m ["program","numbers","most","walk","bound","things"] ["program","numbers","most"] (Z0b Z3D):=⟨rfl,rfl,rfl,by decide +kernel,rfl,by decide +kernel,by decide +kernel⟩
theorem Z5i:Z0m ["_law_script","_law_k"] ["_law_script","_law_k"] (Z0b Z1m):=⟨rfl,rfl,rfl,by decide +kernel,rfl,by decide +kernel,by decide +kernel⟩
theorem Z5R:Z0m ["_law_cell","_law_k"] ["_law_cell","_law_k"] (Z0b Z1I):=⟨rfl,rfl,rfl,by decide +kernel,rfl,by decide +kernel,by decide +kernel⟩
theorem sc__law_houses:Z0m ["_law_script","_law_cell","_law_some_words","_law_names","_law_found","_law_k","_law_more","_law_elder","_law_is_there","_law_some","_law_at"] ["_law_script"] (Z0b Z1v):=⟨rfl,rfl,rfl,by decide +kernel,rfl,by decide +kernel,by decide +kernel⟩
theorem sc__law_block:Z0m ["_law_houses_here","_law_at","_law_word"] ["_law_houses_here","_law_at","_law_word"] (Z0b Z1O):=⟨rfl,rfl,rfl,by decide +kernel,rfl,by decide +kernel,by decide +kernel⟩
theorem sc_law:Z0m ["_law_script","_law_houses_here","_law_told","_law_met","_law_house","_law_elder","_law_some_words","_law_program","_law_due","_law_turn","_law_found","_law_row"] ["_law_script"] (Z0b Z7C):=⟨rfl,rfl,rfl,by decide +kernel,rfl,by decide +kernel,by decide +kernel⟩
theorem sc_Hall___init__:Z0m ["self","program","house"] ["self","program"] (Z0b Z0W):=⟨rfl,rfl,rfl,by decide +kernel,rfl,by decide +kernel,by decide +kernel⟩
theorem Z5j:Z0m ["self"] ["self"] (Z0b Z1s):=⟨rfl,rfl,rfl,by decide +kernel,rfl,by decide +kernel,by decide +kernel⟩
theorem sc_Hall_elders:Z0m ["self","house","nearest_first","one"] ["self","house"] (Z0b Z1x):=⟨rfl,rfl,rfl,by decide +kernel,rfl,by decide +kernel,by decide +kernel⟩
theorem sc_Hall_found:Z0m ["self","house","word","one","names"] ["self","house","word"] (Z0b Z1U):=⟨rfl,rfl,rfl,by decide +kernel,rfl,by decide +kernel,by decide +kernel⟩
theorem Z4z:Z0m ["self","form","label","parts"] ["self","form","label","parts"] (Z0b Z1c):=⟨rfl,rfl,rfl,by decide +kernel,rfl,by decide +kernel,by decide +kernel⟩
theorem Z6e:Z0m ["self"] ["self"] (Z0b Z1R):=⟨rfl,rfl,rfl,by decide +kernel,rfl,by decide +kernel,by decide +kernel⟩
theorem Z6a:Z0m ["self"] ["self"] (Z0b Z1P):=⟨rfl,rfl,rfl,by decide +kernel,rfl,by decide +kernel,by decide +kernel⟩
theorem Z5Y:Z0m ["self"] ["self"] (Z0b Z1L):=⟨rfl,rfl,rfl,by decide +kernel,rfl,by decide +kernel,by decide +kernel⟩
theorem Z7i:Z0m ["self"] ["self"] (Z0b Z2h):=⟨rfl,rfl,rfl,by decide +kernel,rfl,by decide +kernel,by decide +kernel⟩
theorem Z4C:Z0m ["self","name","params","kind","body"] ["self","name","params","kind","body"] (Z0b Z1e):=⟨rfl,rfl,rfl,by decide +kernel,rfl,by decide +kernel,by decide +kernel⟩
theorem Z4r:Z0m ["self","name","elder","own_fields","own_words"] ["self","name","elder","own_fields","own_words"] (Z0b Z0Q):=⟨rfl,rfl,rfl,by decide +kernel,rfl,by decide +kernel,by decide +kernel⟩
theorem Z3K:Z0m ["self","all_houses","main"] ["self","all_houses","main"] (Z0b Z0F):=⟨rfl,rfl,rfl,by decide +kernel,rfl,by decide +kernel,by decide +kernel⟩
theorem Z4k:Z0m ["self","program"] ["self","program"] (Z0b Z0P):=⟨rfl,rfl,rfl,by decide +kernel,rfl,by decide +kernel,by decide +kernel⟩
theorem sc_Maker_all_blocks:Z0m ["self","kinds","blocks","house","word"] ["self"] (Z0b Z0D):=⟨rfl,rfl,rfl,by decide +kernel,rfl,by decide +kernel,by decide +kernel⟩
theorem sc_Maker_block:Z0m ["self","house","word","kinds","bound","rows"] ["self","house","word","kinds"] (Z0b Z1r):=⟨rfl,rfl,rfl,by decide +kernel,rfl,by decide +kernel,by decide +kernel⟩
theorem sc_Maker_rows:Z0m ["self","term","kinds","bound","house","inner","number","part"] ["self","term","kinds","bound","house"] (Z0b Z1M):=⟨rfl,rfl,rfl,by decide +kernel,rfl,by decide +kernel,by decide +kernel⟩
theorem sc_Maker_own_row:Z0m ["self","term","kinds","bound","house","many"] ["self","term","kinds","bound","house"] (Z0b Z0Y):=⟨rfl,rfl,rfl,by decide +kernel,rfl,by decide +kernel,by decide +kernel⟩
theorem Z4m:Z0m ["self","house","own_thing","bound"] ["self","house","own_thing","bound"] (Z0b Z0R):=⟨rfl,rfl,rfl,by decide +kernel,rfl,by decide +kernel,by decide +kernel⟩
theorem Z4o:Z0m ["self"] ["self"] (Z0b Z0O):=⟨rfl,rfl,rfl,by decide +kernel,rfl,by decide +kernel,by decide +kernel⟩
theorem Z5S:Z0m ["self","step","term","scope"] ["self","step","term","scope"] (Z0b Z1G):=⟨rfl,rfl,rfl,by decide +kernel,rfl,by decide +kernel,by decide +kernel⟩
theorem Z4E:Z0m ["self"] ["self"] (Z0b Z1b):=⟨rfl,rfl,rfl,by decide +kernel,rfl,by decide +kernel,by decide +kernel⟩
theorem Z3R:Z0m ["self"] ["self"] (Z0b Z0I):=⟨rfl,rfl,rfl,by decide +kernel,rfl,by decide +kernel,by decide +kernel⟩
theorem Z5Z:Z0m ["self","value"] ["self","value"] (Z0b Z1H):=⟨rfl,rfl,rfl,by decide +kernel,rfl,by decide +kernel,by decide +kernel⟩
theorem Z3P:Z0m ["self"] ["self"] (Z0b Z0C):=⟨rfl,rfl,rfl,by decide +kernel,rfl,by decide +kernel,by decide +kernel⟩
theorem Z4B:Z0m ["self","program","most"] ["self","program","most"] (Z0b Z1d):=⟨rfl,rfl,rfl,by decide +kernel,rfl,by decide +kernel,by decide +kernel⟩
theorem sc_Walk_told_answer:Z0m ["self","value"] ["self"] (Z0b Z0E):=⟨rfl,rfl,rfl,by decide +kernel,rfl,by decide +kernel,by decide +kernel⟩
theorem sc_Walk_go_on:Z0m ["self","step","term","scope"] ["self"] (Z0b Z1W):=⟨rfl,rfl,rfl,by decide +kernel,rfl,by decide +kernel,by decide +kernel⟩
theorem Z5I:Z0m ["self","term","scope","part"] ["self","term","scope"] (Z0b Z1K):=⟨rfl,rfl,rfl,by decide +kernel,rfl,by decide +kernel,by decide +kernel⟩
structure Txt (K:W.Frag) (mg:Str→Option Value) (Cl:Addr) (Ct:Addr) (Cw:Addr) (Ch:Addr) (Cp:Addr) (C_Maker:Addr) (Cs:Addr) (Cq:Addr) (Ck:Addr):Prop where
 z_dict:mg "dict"=none
 z_enumerate:mg "enumerate"=none
 z_isinstance:mg "isinstance"=none
 z_len:mg "len"=none
 z_list:mg "list"=none
 z_max:mg "max"=none
 z_range:mg "range"=none
 z_repr:mg "repr"=none
 z_reversed:mg "reversed"=none
 z_sum:mg "sum"=none
 z_tuple:mg "tuple"=none
 z_zip:mg "zip"=none
 f_word_names:Fn K mg "word_names" Z1J
 f_tables:Fn K mg "tables" Z3B
 f_first_blocks:Fn K mg "first_blocks" Z1l
 f_found_block:Fn K mg "found_block" Z1y
 f_shape_of:Fn K mg "shape_of" Z2z
 f_pairs_of:Fn K mg "pairs_of" Z2B
 f_program_of:Fn K mg "program_of" Z1S
 f_house_of:Fn K mg "house_of" Z2u
 f_word_of:Fn K mg "word_of" Z2Y
 f_term_of:Fn K mg "term_of" Z2V
 f_all_within:Fn K mg "all_within" Z1V
 f_parts_of:Fn K mg "parts_of" Z2x
 f_label_of:Fn K mg "label_of" Z2y
 f_fits:Fn K mg "fits" Z5r
 f_kinds_of:Fn K mg "kinds_of" Z2v
 f_body_kinds:Fn K mg "body_kinds" Z1Q
 f_term_kinds:Fn K mg "term_kinds" Z1N
 f_own_kind:Fn K mg "own_kind" Z2w
 f_compiled:Fn K mg "compiled" Z2A
 f_joined:Fn K mg "joined" Z3y
 f_most_bound:Fn K mg "most_bound" Z1T
 f_walked:FnD K mg "walked" Z3D (.int 100)
 f__law_cell_at:Fn K mg "_law_cell_at" Z1m
 f__law_mixed:Fn K mg "_law_mixed" Z1I
 f__law_houses:Fn K mg "_law_houses" Z1v
 f__law_block:Fn K mg "_law_block" Z1O
 f_law:Fn K mg "law" Z7C
 Hall:Z4D K mg "Hall" Cl
 n_Hall_by_name:NoAttr K Cl "by_name"
 n_Hall_in_order:NoAttr K Cl "in_order"
 Term:Z4D K mg "Term" Ct
 n_Term_deep:NoAttr K Ct "deep"
 n_Term_form:NoAttr K Ct "form"
 n_Term_inner:NoAttr K Ct "inner"
 n_Term_label:NoAttr K Ct "label"
 n_Term_many:NoAttr K Ct "many"
 n_Term_shape:NoAttr K Ct "shape"
 Word:Z4D K mg "Word" Cw
 n_Word_body:NoAttr K Cw "body"
 n_Word_kind:NoAttr K Cw "kind"
 n_Word_name:NoAttr K Cw "name"
 n_Word_params:NoAttr K Cw "params"
 House:Z4D K mg "House" Ch
 n_House_elder:NoAttr K Ch "elder"
 n_House_name:NoAttr K Ch "name"
 n_House_own_fields:NoAttr K Ch "own_fields"
 n_House_own_words:NoAttr K Ch "own_words"
 Program:Z4D K mg "Program" Cp
 n_Program_all_houses:NoAttr K Cp "all_houses"
 n_Program_main:NoAttr K Cp "main"
 Maker:Z4D K mg "Maker" C_Maker
 n_Maker_firsts:NoAttr K C_Maker "firsts"
 n_Maker_hall:NoAttr K C_Maker "hall"
 n_Maker_program:NoAttr K C_Maker "program"
 n_Maker_sites:NoAttr K C_Maker "sites"
 n_Maker_word_order:NoAttr K C_Maker "word_order"
 Scope:Z4D K mg "Scope" Cs
 n_Scope_bound:NoAttr K Cs "bound"
 n_Scope_house:NoAttr K Cs "house"
 n_Scope_own_thing:NoAttr K Cs "own_thing"
 Waits:Z4D K mg "Waits" Cq
 n_Waits_known:NoAttr K Cq "known"
 n_Waits_waiting:NoAttr K Cq "waiting"
 Walk:Z4D K mg "Walk" Ck
 n_Walk_counted:NoAttr K Ck "counted"
 n_Walk_ended:NoAttr K Ck "ended"
 n_Walk_hall:NoAttr K Ck "hall"
 n_Walk_made:NoAttr K Ck "made"
 n_Walk_most:NoAttr K Ck "most"
 n_Walk_waits:NoAttr K Ck "waits"
 n_Walk_within:NoAttr K Ck "within"
 m_Hall___init__:MFn K Cl "__init__" "Hall.__init__" Z0W
 m_Hall_houses:MFn K Cl "houses" "Hall.houses" Z1s
 m_Hall_elders:MFn K Cl "elders" "Hall.elders" Z1x
 m_Hall_found:MFn K Cl "found" "Hall.found" Z1U
 m_Term___init__:MFn K Ct "__init__" "Term.__init__" Z1c
 m_Term_plain:MFn K Ct "plain" "Term.plain" Z1R
 m_Term_parts:MFn K Ct "parts" "Term.parts" Z1P
 m_Term_depth:MFn K Ct "depth" "Term.depth" Z1L
 m_Term_size:MFn K Ct "size" "Term.size" Z2h
 m_Word___init__:MFn K Cw "__init__" "Word.__init__" Z1e
 m_House___init__:MFn K Ch "__init__" "House.__init__" Z0Q
 m_Program___init__:MFn K Cp "__init__" "Program.__init__" Z0F
 m_Maker___init__:MFn K C_Maker "__init__" "Maker.__init__" Z0P
 m_Maker_all_blocks:MFn K C_Maker "all_blocks" "Maker.all_blocks" Z0D
 m_Maker_block:MFn K C_Maker "block" "Maker.block" Z1r
 m_Maker_rows:MFn K C_Maker "rows" "Maker.rows" Z1M
 m_Maker_own_row:MFn K C_Maker "own_row" "Maker.own_row" Z0Y
 m_Scope___init__:MFn K Cs "__init__" "Scope.__init__" Z0R
 m_Waits___init__:MFn K Cq "__init__" "Waits.__init__" Z0O
 m_Waits_wait:MFn K Cq "wait" "Waits.wait" Z1G
 m_Waits_is_over:MFn K Cq "is_over" "Waits.is_over" Z1b
 m_Waits_take_step:MFn K Cq "take_step" "Waits.take_step" Z0I
 m_Waits_know:MFn K Cq "know" "Waits.know" Z1H
 m_Waits_take_value:MFn K Cq "take_value" "Waits.take_value" Z0C
 m_Walk___init__:MFn K Ck "__init__" "Walk.__init__" Z1d
 m_Walk_told_answer:MFn K Ck "told_answer" "Walk.told_answer" Z0E
 m_Walk_go_on:MFn K Ck "go_on" "Walk.go_on" Z1W
 m_Walk_begin:MFn K Ck "begin" "Walk.begin" Z1K
def isA:Fm→Bool | .self | .nt | .iff=>true | _=>false
def isN:Fm→Bool | .new | .elder=>true | _=>false
def isF:Fm→Bool | .field | .set=>true | _=>false
theorem inA (f:Fm):inV (V.str f.s) [V.str (Str.ofString "self"),V.str (Str.ofString "not"),V.str (Str.ofString "if")]=isA f:=by cases f <;> decide +kernel
theorem inN (f:Fm):inV (V.str f.s) [V.str (Str.ofString "new"),V.str (Str.ofString "elder")]=isN f:=by cases f <;> decide +kernel
theorem inF (f:Fm):inV (V.str f.s) [V.str (Str.ofString "field"),V.str (Str.ofString "set")]=isF f:=by cases f <;> decide +kernel
theorem isC (f:Fm):f.s=Str.ofString "call"→f=.call:=by cases f <;> first | exact fun _=>rfl | exact fun h=>absurd h (by decide +kernel)
theorem shA {f:Fm} {l:Lb} {ds:List PyData} (h:isA f=true):Z1B f l ds=.str f.s::ds:=by cases f <;> first | rfl | cases h
theorem shN {f:Fm} {l:Lb} {ds:List PyData} (h:isN f=true):Z1B f l ds=[.str f.s,l.d,.tuple ds]:=by cases f <;> first | rfl | cases h
theorem shF {f:Fm} {l:Lb} {d:PyData} {ds:List PyData} (h:isF f=true):Z1B f l (d::ds)=.str f.s::d::l.d::ds:=by cases f <;> first | rfl | cases h
theorem shR {f:Fm} {l:Lb} {ds:List PyData} (h1:¬ isA f=true) (h2:¬ isN f=true) (h3:¬ f=.call) (h4:¬ isF f=true):Z1B f l ds=.str f.s::l.d::ds:=by cases f <;> first | rfl | exact absurd rfl h1 | exact absurd rfl h2 | exact absurd rfl h3 | exact absurd rfl h4
theorem Z4s {f:Fm} {l:Lb} {ds:List PyData} (h:okF f l ds.length) (c:f=.call∨isF f=true):∃ d r,ds=d::r:=by
 cases ds with
 | cons d r=>exact ⟨d,r,rfl⟩
 | nil=>
  cases f <;> cases l <;> first | (rcases c with c | c <;> cases c; done) | exact absurd h (by decide) | cases h
theorem cut1 (x:V) (xs:List V):cutV (x::xs) (some 1) none=xs:=by
 rw [show (some (1:Int))=some ((1:Nat):Int) from rfl]
 unfold cutV
 simp [HT.sIx]
inductive Z8N (K:W.Frag) (vs:List V) (H:Hp) (Q:VK):Prop
 | mk (f:Fm) (l:Lb) (p:Addr) (us:List V) (ds:List PyData) (a1:vs=[.str f.s,lbV l,.ref p]) (a2:SqT K H p us) (a3:RTs K H us ds) (a4:okF f l ds.length) (a5:ds.length≤100) (a6:∀ r ws H',Same H H'→SqT K H' r ws→RTs K H' ws (Z1B f l ds)→Q (.ref r) H'):Z8N K vs H Q
def Z8F (K:W.Frag):Sp:=fun vs H Q _=>Z8N K vs H Q
section
variable {Cl Cs Cq Ck Ct Cw Ch Cp:Addr} {P:Program} {w:World} {K:W.Frag} {mg:Str→Option Value} {base:Heap}
theorem J2p (T:Txt K mg Cl Ct Cw Ch Cp C_Maker Cs Cq Ck):Has P w K mg base 1 "shape_of" ["form","label","parts"] (Z8F K):=by
 refine Has.of T.f_shape_of Z7L (fun _ _ _ _ _ _ us hl=>el3 us hl fun _ _ _=>rfl) (fun vs H Q E h=>?_) (fun f cdv A outer s H vs Q E hr h=>?_)
 ·obtain ⟨f,l,p,us,ds,rfl,_⟩:=h
  rfl
 obtain ⟨f,l,p,us,ds,rfl,hp,hu,hok,hl,q⟩:=h
 refine ⟨_,(Z0c (Z1C (Z0u (r:=rIn K false) Z0T (pvF 0) (Z0y (Z0a Z0o (Z0a Z0o (Z0a Z0o Z0d)))) (by with_unfolding_all rfl)) (Z0g (Z0s (Z0J (r:=Z9y K) Z4M (Z0y (Z0a (pvF 0) Z0d)) (pvF 2)))) Z0z)
  (Z0c (Z1C (Z0u (r:=rIn K false) Z0T (pvF 0) (Z0y (Z0a Z0o (Z0a Z0o Z0d))) (by with_unfolding_all rfl)) (Z0g (Z0s (Z0y (Z0a (pvF 0) (Z0a (pvF 1) (Z0a (pvF 2) Z0d)))))) Z0z)
  (Z0c (Z1C (Z0u Z4y (pvF 0) Z0o (Z0V _)) (Z0g (Z0s (Z0y (Z0a (pvF 0) (Z0a (Z1q (r:=Z2J K) Z1a (pvF 2) Z0l (fun _ _=>rfl)) (Z0a (pvF 1) (Z0a (Z2p (r:=rSlA K) Z4N (pvF 2) (Z3d Z0l) Z3e) Z0d))))))) Z0z)
  (Z0c (Z1C (Z0u (r:=rIn K false) Z0T (pvF 0) (Z0y (Z0a Z0o (Z0a Z0o Z0d))) (by with_unfolding_all rfl)) (Z0g (Z0s (Z0J (r:=Z9y K) Z4M (Z0y (Z0a (pvF 0) (Z0a (Z1q (r:=Z2J K) Z1a (pvF 2) Z0l (fun _ _=>rfl)) (Z0a (pvF 1) Z0d)))) (Z2p (r:=rSlA K) Z4N (pvF 2) (Z3d Z0l) Z3e)))) Z0z)
  (Z0g (Z0s (Z0J (r:=Z9y K) Z4M (Z0y (Z0a (pvF 0) (Z0a (pvF 1) Z0d))) (pvF 2)))))))),?_⟩
 walk_at "rd"
 have hus:us.length≤100:=by rw [hu.length]; exact hl
 refine New.of fun p1 H1 h1 s1 e1=>?_
 refine ⟨_,.inr (SqT.of e1),rfl,rfl,?_⟩
 rw [inA]
 refine ite2 (fun c=>?_) (fun cA=>?_)
 ·skip
  refine New.of fun p2 H2 h2 s2 e2=>?_
  have S:=s1.trans s2
  refine ⟨_,_,_,_,rfl,rfl,SqT.of e2,hp.same S,by rw [sizeLine_eq]; show 1+us.length≤_; omega,fun r H' s' hr=>q r _ H' (S.trans s') hr ?_⟩
  rw [shA c]
  exact .cons (.str _) (hu.same (S.trans s'))
 refine New.of fun p2 H2 h2 s2 e2=>?_
 refine ⟨_,.inr (SqT.of e2),rfl,rfl,?_⟩
 rw [inN]
 have S2:=s1.trans s2
 refine ite2 (fun c=>?_) (fun cN=>?_)
 ·skip
  refine New.of fun p3 H3 h3 s3 e3=>?_
  have S:=S2.trans s3
  refine q _ _ H3 S (SqT.of e3) ?_
  rw [shN c]
  exact .cons (.str _) (.cons (J2I l) (.cons (.tup (hp.same S) (hu.same S)) .nil))
 refine ite2 (fun c=>?_) (fun cC=>?_)
 ·obtain ⟨d,r,rfl⟩:=Z4s hok (.inl (isC f c))
  obtain ⟨v,vr,rfl,hv,hr'⟩:=hu.inv
  refine ⟨_,hp.same S2,v,ix0,?_⟩
  refine ⟨p,_,rfl,hp.same S2,fun p3 H3 s3 h3=>?_⟩
  rw [cut1] at h3
  refine New.of fun p4 H4 h4 s4 e4=>?_
  have S:=S2.trans (s3.trans s4)
  refine q _ _ H4 S (SqT.of e4) ?_
  cases isC f c
  exact .cons (.str _) (.cons (hv.same S) (.cons (J2I l) (.cons (.tup (h3.same s4) (hr'.same S)) .nil)))
 have cC':¬ f=.call:=fun z=>cC (by rw [z]; rfl)
 refine New.of fun p3 H3 h3 s3 e3=>?_
 refine ⟨_,.inr (SqT.of e3),rfl,rfl,?_⟩
 rw [inF]
 have S3:=S2.trans s3
 refine ite2 (fun c=>?_) (fun cF=>?_)
 ·obtain ⟨d,r,rfl⟩:=Z4s hok (.inr c)
  obtain ⟨v,vr,rfl,hv,hr'⟩:=hu.inv
  refine ⟨_,hp.same S3,v,ix0,?_⟩
  refine New.of fun p4 H4 h4 s4 e4=>?_
  have S4:=S3.trans s4
  refine ⟨p,_,rfl,hp.same S4,fun p5 H5 s5 h5=>?_⟩
  rw [cut1] at h5
  refine ⟨_,_,_,_,rfl,rfl,SqT.of (s5 _ _ e4),h5,by rw [sizeLine_eq]; show 3+vr.length≤_; simp at hus; omega,fun r' H' s' hr=>q r' _ H' (S4.trans (s5.trans s')) hr ?_⟩
  rw [shF c]
  have S:=S4.trans (s5.trans s')
  exact .cons (.str _) (.cons (hv.same S) (.cons (J2I l) (hr'.same S)))
 refine New.of fun p4 H4 h4 s4 e4=>?_
 have S4:=S3.trans s4
 refine ⟨_,_,_,_,rfl,rfl,SqT.of e4,hp.same S4,by rw [sizeLine_eq]; show 2+us.length≤_; omega,fun r H' s' hr=>q r _ H' (S4.trans s') hr ?_⟩
 rw [shR cA cN cC' cF]
 exact .cons (.str _) (.cons (J2I l) (hu.same (S4.trans s')))
end
end K52
end
section
set_option format.width 520
namespace K52
open PySem L2 TM WK
open P15 (Lb Fm Tm dats Z1B okF Ok maxD sumS flatR Bld)
open PW (Vl Wd Hs Pg Sc Wt Ws IxAt Look Chain Z2R Flds Z2Z putS Z1f getS Z1A Two Step Z2T Z1k leaf)
seal L2.PE L2.PA L2.PT L2.PS L2.PSs L2.PG L2.PGs L2.PI L2.PW
inductive Z8y (K:W.Frag) (vs:List V) (H:Hp) (Q:VK):Prop
 | mk (f:Fm) (l:Lb) (p:Addr) (ws:List V) (ds:List PyData) (a1:vs=[.ref p]) (a2:SqT K H p ws) (a3:RTs K H ws (Z1B f l ds)) (a4:okF f l ds.length) (a5:ds.length≤100) (a6:∀ r us H',Same H H'→SqT K H' r us→RTs K H' us ds→Q (.ref r) H'):Z8y K vs H Q
def Z6d (K:W.Frag):Sp:=fun vs H Q _=>Z8y K vs H Q
inductive Z7U (K:W.Frag) (vs:List V) (H:Hp) (Q:VK):Prop
 | mk (f:Fm) (l:Lb) (p:Addr) (ws:List V) (ds:List PyData) (a1:vs=[.ref p]) (a2:SqT K H p ws) (a3:RTs K H ws (Z1B f l ds)) (a4:okF f l ds.length) (a5:∀ H',Same H H'→Q (lbV l) H'):Z7U K vs H Q
def Z8V (K:W.Frag):Sp:=fun vs H Q _=>Z7U K vs H Q
section
variable {Cl Cs Cq Ck Ct Cw Ch Cp:Addr} {P:Program} {w:World} {K:W.Frag} {mg:Str→Option Value} {base:Heap}
theorem x_hd {f:Fm} {l:Lb} {ds:List PyData} (h:okF f l ds.length):∃ r,Z1B f l ds=.str f.s::r:=by
 by_cases c:f=.call∨isF f=true
 ·obtain ⟨d,r,rfl⟩:=Z4s h c
  rcases c with rfl | c
  ·exact ⟨_,rfl⟩
  ·exact ⟨_,shF c⟩
 ·by_cases cA:isA f=true
  ·exact ⟨_,shA cA⟩
  by_cases cN:isN f=true
  ·exact ⟨_,shN cN⟩
  exact ⟨_,shR cA cN (fun z=>c (.inl z)) (fun z=>c (.inr z))⟩
def isB:Fm→Bool | .nt | .iff=>true | _=>false
def isD:Fm→Bool | .two | .lt=>true | _=>false
def isE:Fm→Bool | .field | .call | .set=>true | _=>false
theorem inB (f:Fm):inV (V.str f.s) [V.str (Str.ofString "not"),V.str (Str.ofString "if")]=isB f:=by cases f <;> decide +kernel
theorem inD (f:Fm):inV (V.str f.s) [V.str (Str.ofString "two"),V.str (Str.ofString "let")]=isD f:=by cases f <;> decide +kernel
theorem inE (f:Fm):inV (V.str f.s) [V.str (Str.ofString "field"),V.str (Str.ofString "call"),V.str (Str.ofString "set")]=isE f:=by cases f <;> decide +kernel
theorem shB {f:Fm} {l:Lb} {ds:List PyData} (h:isB f=true):Z1B f l ds=.str f.s::ds:=by cases f <;> first | rfl | cases h
theorem shD {f:Fm} {l:Lb} {ds:List PyData} (h:isD f=true):Z1B f l ds=.str f.s::l.d::ds:=by cases f <;> first | rfl | cases h
theorem ok0 {f:Fm} {l:Lb} {ds:List PyData} (h:okF f l ds.length) (c1:¬ isB f=true) (c2:¬ isD f=true) (c3:¬ isN f=true) (c4:¬ f=.call) (c5:¬ isF f=true):ds=[]:=by
 cases f <;> cases l <;> first | exact List.length_eq_zero_iff.mp h | exact absurd rfl c1 | exact absurd rfl c2 | exact absurd rfl c3 | exact absurd rfl c4 | exact absurd rfl c5 | cases h
theorem okA {f:Fm} {l:Lb} {n:Nat} (h:okF f l n) (c:isA f=true):l=.non:=by
 cases f <;> cases l <;> first | rfl | (cases c; done) | cases h
theorem cut2 (x y:V) (xs:List V):cutV (x::y::xs) (some 2) none=xs:=by
 rw [show (some (2:Int))=some ((2:Nat):Int) from rfl]
 unfold cutV
 simp [HT.sIx]
theorem cut3 (x y z:V) (xs:List V):cutV (x::y::z::xs) (some 3) none=xs:=by
 rw [show (some (3:Int))=some ((3:Nat):Int) from rfl]
 unfold cutV
 simp [HT.sIx]
theorem J3i (T:Txt K mg Cl Ct Cw Ch Cp C_Maker Cs Cq Ck):Has P w K mg base 1 "parts_of" ["plain"] (Z6d K):=by
 refine Has.of T.f_parts_of sc_parts_of (fun _ _ _ _ _ _ us hl=>el1 us hl fun _=>rfl) (fun vs H Q E h=>?_) (fun f cdv A outer s H vs Q E hr h=>?_)
 ·obtain ⟨f,l,p,us,ds,rfl,_⟩:=h
  rfl
 obtain ⟨f,l,p,ws,ds,rfl,hp,hw,hok,hl,q⟩:=h
 refine ⟨_,(Z0c (Z0w (i:=1) sc_parts_of.nd rfl (Or.inl rfl) (Z1q (r:=Z2J K) Z1a (pvF 0) Z0l (fun _ _=>rfl)))
  (Z0c (Z1C (Z0u (r:=rIn K false) Z0T (pvF 1) (Z0y (Z0a Z0o (Z0a Z0o Z0d))) (by with_unfolding_all rfl)) (Z0g (Z0s (Z2p (r:=rSlA K) Z4N (pvF 0) (Z3d Z0l) Z3e))) Z0z)
  (Z0c (Z1C (Z0u (r:=rIn K false) Z0T (pvF 1) (Z0y (Z0a Z0o (Z0a Z0o Z0d))) (by with_unfolding_all rfl)) (Z0g (Z0s (Z2p (r:=rSlA K) Z4N (pvF 0) (Z3d Z0l) Z3e))) Z0z)
  (Z0c (Z1C (Z0u (r:=rIn K false) Z0T (pvF 1) (Z0y (Z0a Z0o (Z0a Z0o Z0d))) (by with_unfolding_all rfl)) (Z0g (Z0s (Z1q (r:=Z2J K) Z1a (pvF 0) Z0l (fun _ _=>rfl)))) Z0z)
  (Z0c (Z1C (Z0u Z4y (pvF 1) Z0o (Z0V _)) (Z0g (Z0s (Z0J (r:=Z9y K) Z4M (Z0y (Z0a (Z1q (r:=Z2J K) Z1a (pvF 0) Z0l (fun _ _=>rfl)) Z0d)) (Z1q (r:=Z2J K) Z1a (pvF 0) Z0l (fun _ _=>rfl))))) Z0z)
  (Z0c (Z1C (Z0u (r:=rIn K false) Z0T (pvF 1) (Z0y (Z0a Z0o (Z0a Z0o Z0d))) (by with_unfolding_all rfl)) (Z0g (Z0s (Z0J (r:=Z9y K) Z4M (Z0y (Z0a (Z1q (r:=Z2J K) Z1a (pvF 0) Z0l (fun _ _=>rfl)) Z0d)) (Z2p (r:=rSlA K) Z4N (pvF 0) (Z3d Z0l) Z3e)))) Z0z)
  (Z0g (Z0s (Z0y Z0d))))))))),?_⟩
 refine seq2 fun uz1 huz1=>?_
 walk_at "rd"
 obtain ⟨r0,er⟩:=x_hd hok
 have hw0:=hw
 rw [er] at hw0
 obtain ⟨v0,wr,rfl,hv0,hwr⟩:=hw0.inv
 cases hv0.str_inv
 refine ⟨_,hp,_,ix0,?_⟩
 subst huz1
 walk_at "rd"
 refine New.of fun p1 H1 h1 s1 e1=>?_
 refine ⟨_,.inr (SqT.of e1),rfl,rfl,?_⟩
 rw [inB]
 refine ite2 (fun c=>?_) (fun cB=>?_)
 ·refine ⟨p,_,rfl,hp.same s1,fun r H' s' hr=>?_⟩
  rw [cut1] at hr
  rw [shB c] at er
  cases er
  exact q r _ H' (s1.trans s') hr (hwr.same (s1.trans s'))
 refine New.of fun p2 H2 h2 s2 e2=>?_
 refine ⟨_,.inr (SqT.of e2),rfl,rfl,?_⟩
 rw [inD]
 have S2:=s1.trans s2
 refine ite2 (fun c=>?_) (fun cD=>?_)
 ·rw [shD c] at er
  cases er
  obtain ⟨v1,wr,rfl,_,hwr⟩:=hwr.inv
  refine ⟨p,_,rfl,hp.same S2,fun r H' s' hr=>?_⟩
  rw [cut2] at hr
  exact q r _ H' (S2.trans s') hr (hwr.same (S2.trans s'))
 refine New.of fun p3 H3 h3 s3 e3=>?_
 refine ⟨_,.inr (SqT.of e3),rfl,rfl,?_⟩
 rw [inN]
 have S3:=S2.trans s3
 refine ite2 (fun c=>?_) (fun cN=>?_)
 ·rw [shN c] at er
  cases er
  obtain ⟨v1,wr,rfl,_,hwr⟩:=hwr.inv
  obtain ⟨v2,wr,rfl,h2,_⟩:=hwr.inv
  obtain ⟨a,us,rfl,ha,hu⟩:=h2.tup_inv
  exact ⟨_,hp.same S3,_,ix2,q a us H3 S3 (ha.same S3) (hu.same S3)⟩
 refine ite2 (fun c=>?_) (fun cC=>?_)
 ·obtain ⟨d,r,rfl⟩:=Z4s hok (.inl (isC f c))
  cases isC f c
  cases er
  obtain ⟨v1,wr,rfl,h1',hwr⟩:=hwr.inv
  obtain ⟨v2,wr,rfl,_,hwr⟩:=hwr.inv
  obtain ⟨v3,wr,rfl,h3',_⟩:=hwr.inv
  obtain ⟨a,us,rfl,ha,hu⟩:=h3'.tup_inv
  refine ⟨_,hp.same S3,_,ix1,?_⟩
  refine New.of fun p4 H4 h4 s4 e4=>?_
  have S4:=S3.trans s4
  refine ⟨_,hp.same S4,_,ix3,_,_,_,_,rfl,rfl,SqT.of e4,ha.same S4,?_,fun r' H' s' hr=>q r' _ H' (S4.trans s') hr (.cons (h1'.same (S4.trans s')) (hu.same (S4.trans s')))⟩
  rw [sizeLine_eq,hu.length]
  simp only [List.length_cons,List.length_nil] at hl ⊢
  omega
 have cC':¬ f=.call:=fun z=>cC (by rw [z]; rfl)
 refine New.of fun p4 H4 h4 s4 e4=>?_
 refine ⟨_,.inr (SqT.of e4),rfl,rfl,?_⟩
 rw [inF]
 have S4:=S3.trans s4
 refine ite2 (fun c=>?_) (fun cF=>?_)
 ·obtain ⟨d,r,rfl⟩:=Z4s hok (.inr c)
  rw [shF c] at er
  cases er
  obtain ⟨v1,wr,rfl,h1',hwr⟩:=hwr.inv
  obtain ⟨v2,wr,rfl,_,hwr⟩:=hwr.inv
  refine ⟨_,hp.same S4,_,ix1,?_⟩
  refine New.of fun p5 H5 h5 s5 e5=>?_
  have S5:=S4.trans s5
  refine ⟨p,_,rfl,hp.same S5,fun p6 H6 s6 h6=>?_⟩
  rw [cut3] at h6
  refine ⟨_,_,_,_,rfl,rfl,SqT.of (s6 _ _ e5),h6,?_,fun r' H' s' hr=>q r' _ H' (S5.trans (s6.trans s')) hr (.cons (h1'.same (S5.trans (s6.trans s'))) (hwr.same (S5.trans (s6.trans s'))))⟩
  rw [sizeLine_eq,hwr.length]
  simp only [List.length_cons,List.length_nil] at hl ⊢
  omega
 refine New.of fun p5 H5 h5 s5 e5=>?_
 cases ok0 hok cB cD cN cC' cF
 exact q _ _ H5 (S4.trans s5) (SqT.of e5) .nil
theorem J2s (T:Txt K mg Cl Ct Cw Ch Cp C_Maker Cs Cq Ck):Has P w K mg base 1 "label_of" ["plain"] (Z8V K):=by
 refine Has.of T.f_label_of sc_label_of (fun _ _ _ _ _ _ us hl=>el1 us hl fun _=>rfl) (fun vs H Q E h=>?_) (fun f cdv A outer s H vs Q E hr h=>?_)
 ·obtain ⟨f,l,p,us,ds,rfl,_⟩:=h
  rfl
 obtain ⟨f,l,p,ws,ds,rfl,hp,hw,hok,q⟩:=h
 refine ⟨_,(Z0c (Z0w (i:=1) sc_label_of.nd rfl (Or.inl rfl) (Z1q (r:=Z2J K) Z1a (pvF 0) Z0l (fun _ _=>rfl)))
  (Z0c (Z1C (Z0u (r:=rIn K false) Z0T (pvF 1) (Z0y (Z0a Z0o (Z0a Z0o (Z0a Z0o Z0d)))) (by with_unfolding_all rfl)) (Z0g (Z0s Z2b)) Z0z)
  (Z0c (Z1C (Z0u (r:=rIn K false) Z0T (pvF 1) (Z0y (Z0a Z0o (Z0a Z0o (Z0a Z0o Z0d)))) (by with_unfolding_all rfl)) (Z0g (Z0s (Z1q (r:=Z2J K) Z1a (pvF 0) Z0l (fun _ _=>rfl)))) Z0z)
  (Z0g (Z0s (Z1q (r:=Z2J K) Z1a (pvF 0) Z0l (fun _ _=>rfl))))))),?_⟩
 refine seq2 fun uz1 huz1=>?_
 walk_at "rd"
 obtain ⟨r0,er⟩:=x_hd hok
 have hw0:=hw
 rw [er] at hw0
 obtain ⟨v0,wr,rfl,hv0,hwr⟩:=hw0.inv
 cases hv0.str_inv
 refine ⟨_,hp,_,ix0,?_⟩
 subst huz1
 walk_at "rd"
 refine New.of fun p1 H1 h1 s1 e1=>?_
 refine ⟨_,.inr (SqT.of e1),rfl,rfl,?_⟩
 rw [inA]
 refine ite2 (fun c=>?_) (fun cA=>?_)
 ·cases okA hok c
  exact q H1 s1
 refine New.of fun p2 H2 h2 s2 e2=>?_
 refine ⟨_,.inr (SqT.of e2),rfl,rfl,?_⟩
 rw [inE]
 have S2:=s1.trans s2
 refine ite2 (fun c=>?_) (fun cE=>?_)
 ·have cc:f=.call∨isF f=true:=by cases f <;> first | exact .inl rfl | exact .inr rfl | cases c
  obtain ⟨d,r,rfl⟩:=Z4s hok cc
  have er2:∃ r2,Z1B f l (d::r)=.str f.s::d::l.d::r2:=by
   rcases cc with rfl | cc
   ·exact ⟨_,rfl⟩
   ·exact ⟨_,shF cc⟩
  obtain ⟨r2,er2⟩:=er2
  rw [er2] at er
  cases er
  obtain ⟨v1,wr,rfl,_,hwr⟩:=hwr.inv
  obtain ⟨v2,wr,rfl,h2,_⟩:=hwr.inv
  cases J3q h2
  exact ⟨_,hp.same S2,_,ix2,q H2 S2⟩
 have er2:∃ r2,Z1B f l ds=.str f.s::l.d::r2:=by
  by_cases cN:isN f=true
  ·exact ⟨_,shN cN⟩
  ·refine ⟨_,shR cA cN (fun z=>cE (by rw [z]; rfl)) (fun z=>cE ?_)⟩
   cases f <;> first | rfl | cases z
 obtain ⟨r2,er2⟩:=er2
 rw [er2] at er
 cases er
 obtain ⟨v1,wr,rfl,h1',_⟩:=hwr.inv
 cases J3q h1'
 exact ⟨_,hp.same S2,_,ix1,q H2 S2⟩
end
end K52
end
section
set_option format.width 520
namespace K52
open PySem L2 TM WK
open P15 (Lb Fm Tm dats Z1B okF Ok maxD sumS flatR Bld)
open PW (Vl Wd Hs Pg Sc Wt Ws IxAt Look Chain Z2R Flds Z2Z putS Z1f getS Z1A Two Step Z2T Z1k leaf)
seal L2.PE L2.PA L2.PT L2.PS L2.PSs L2.PG L2.PGs L2.PI L2.PW
inductive Z6G (C:Addr) (K:W.Frag) (vs:List V) (H:Hp) (Q:VK):Prop
 | mk (v:V) (t:Tm) (a1:vs=[v]) (a2:TO K C H v t) (a3:∀ u,RT K H u t.dat→Q u H):Z6G C K vs H Q
def Z6E (C:Addr) (K:W.Frag):Sp:=fun vs H Q _=>Z6G C K vs H Q
inductive Z7g (C:Addr) (K:W.Frag) (vs:List V) (H:Hp) (Q:VK):Prop
 | mk (v:V) (t:Tm) (a1:vs=[v]) (a2:TO K C H v t) (a3:∀ l us,H l=none→TOs K C H us t.ps→Q (.ref l) (upd H l (.lst us))):Z7g C K vs H Q
def Z3S (C:Addr) (K:W.Frag):Sp:=fun vs H Q _=>Z7g C K vs H Q
inductive Z6W (C:Addr) (K:W.Frag) (vs:List V) (H:Hp) (Q:VK):Prop
 | mk (v:V) (t:Tm) (a1:vs=[v]) (a2:TO K C H v t) (a3:Q (.int (t.depth:Nat)) H):Z6W C K vs H Q
def Z7h (C:Addr) (K:W.Frag):Sp:=fun vs H Q _=>Z6W C K vs H Q
inductive Z8b (C:Addr) (K:W.Frag) (vs:List V) (H:Hp) (Q:VK):Prop
 | mk (v:V) (t:Tm) (a1:vs=[v]) (a2:TO K C H v t) (a3:Q (.int (t.size:Nat)) H):Z8b C K vs H Q
def Z8l (C:Addr) (K:W.Frag):Sp:=fun vs H Q _=>Z8b C K vs H Q
section
variable {Cl Cs Cq Ck Ct Cw Ch Cp:Addr} {P:Program} {w:World} {K:W.Frag} {mg:Str→Option Value} {base:Heap}
theorem J0B (T:Txt K mg Cl Ct Cw Ch Cp C_Maker Cs Cq Ck):HasM P w K mg base 1 Ct "plain" ["self"] (Z6E Ct K):=by
 refine HasM.of T.m_Term_plain Z6e (fun _ _ _ _ _ _ us hl=>el1 us hl fun _=>rfl) (fun vs H Q E h=>?_) (fun f cdv A outer s H vs Q E hr h=>?_)
 ·obtain ⟨v,t,rfl,_⟩:=h
  rfl
 obtain ⟨v,t,rfl,h,q⟩:=h
 refine ⟨_,(Z0g (Z0s (Z0k (pvF 0) rfl))),?_⟩
 walk_at "rd"
 obtain ⟨a,dx,inn,sh,us,ws,rfl,ha,hi,hus,hs,hw⟩:=h.inv
 refine ⟨a,rfl,Ct,dx,_,ha,T.Term.cl,T.n_Term_shape,.ref sh,rfl,q _ ?_⟩
 cases t
 exact .tup hs hw
theorem J0s (T:Txt K mg Cl Ct Cw Ch Cp C_Maker Cs Cq Ck):HasM P w K mg base 1 Ct "parts" ["self"] (Z3S Ct K):=by
 refine HasM.of T.m_Term_parts Z6a (fun _ _ _ _ _ _ us hl=>el1 us hl fun _=>rfl) (fun vs H Q E h=>?_) (fun f cdv A outer s H vs Q E hr h=>?_)
 ·obtain ⟨v,t,rfl,_⟩:=h
  rfl
 obtain ⟨v,t,rfl,h,q⟩:=h
 refine ⟨_,(Z0g (Z0s (Z0L Z4v rfl T.z_list J1S (Z0a (Z0k (pvF 0) rfl) Z0d)))),?_⟩
 walk_at "rd"
 obtain ⟨a,dx,inn,sh,us,ws,rfl,ha,hi,hus,hs,hw⟩:=h.inv
 exact ⟨a,rfl,Ct,dx,_,ha,T.Term.cl,T.n_Term_inner,.ref inn,rfl,inn,rfl,us,.inr hi,fun l hl=>q l us hl hus⟩
theorem J0g (T:Txt K mg Cl Ct Cw Ch Cp C_Maker Cs Cq Ck):HasM P w K mg base 1 Ct "depth" ["self"] (Z7h Ct K):=by
 refine HasM.of T.m_Term_depth Z5Y (fun _ _ _ _ _ _ us hl=>el1 us hl fun _=>rfl) (fun vs H Q E h=>?_) (fun f cdv A outer s H vs Q E hr h=>?_)
 ·obtain ⟨v,t,rfl,_⟩:=h
  rfl
 obtain ⟨v,t,rfl,h,q⟩:=h
 refine ⟨_,(Z0g (Z0s (Z0k (pvF 0) rfl))),?_⟩
 walk_at "rd"
 obtain ⟨a,dx,inn,sh,us,ws,rfl,ha,hi,hus,hs,hw⟩:=h.inv
 exact ⟨a,rfl,Ct,dx,_,ha,T.Term.cl,T.n_Term_deep,.int (t.depth:Nat),rfl,q⟩
theorem J2c (T:Txt K mg Cl Ct Cw Ch Cp C_Maker Cs Cq Ck):HasM P w K mg base 1 Ct "size" ["self"] (Z8l Ct K):=by
 refine HasM.of T.m_Term_size Z7i (fun _ _ _ _ _ _ us hl=>el1 us hl fun _=>rfl) (fun vs H Q E h=>?_) (fun f cdv A outer s H vs Q E hr h=>?_)
 ·obtain ⟨v,t,rfl,_⟩:=h
  rfl
 obtain ⟨v,t,rfl,h,q⟩:=h
 refine ⟨_,(Z0g (Z0s (Z0k (pvF 0) rfl))),?_⟩
 walk_at "rd"
 obtain ⟨a,dx,inn,sh,us,ws,rfl,ha,hi,hus,hs,hw⟩:=h.inv
 exact ⟨a,rfl,Ct,dx,_,ha,T.Term.cl,T.n_Term_many,.int (t.size:Nat),rfl,q⟩
end
end K52
end
section
set_option format.width 520
namespace K52
open PySem L2 TM WK
open P15 (Lb Fm Tm dats Z1B okF Ok maxD sumS flatR Bld)
open PW (Vl Wd Hs Pg Sc Wt Ws IxAt Look Chain Z2R Flds Z2Z putS Z1f getS Z1A Two Step Z2T Z1k leaf)
seal L2.PE L2.PA L2.PT L2.PS L2.PSs L2.PG L2.PGs L2.PI L2.PW
inductive Z8u (C:Addr) (K:W.Frag) (vs:List V) (H:Hp) (Q:VK):Prop
 | mk (x dx p:Addr) (f:Fm) (l:Lb) (us:List V) (ps:List Tm) (a1:vs=[.ref x,.str f.s,lbV l,.ref p]) (a2:H x=some (.ins C dx [])) (a3:SqL K H p us) (a4:TOs K C H us ps) (a5:okF f l ps.length) (a6:ps.length≤100) (a7:∀ H',SX x H H'→TO K C H' (.ref x) (.mk f l ps)→Q .non H'):Z8u C K vs H Q
def Z8W (C:Addr) (K:W.Frag):Sp:=fun vs H Q _=>Z8u C K vs H Q
theorem J5w {ts:List Tm} {m:Int} (h0:ts.map (fun t=>((t.depth:Nat):Int))=[]→m=0) (h1:ts.map (fun t=>((t.depth:Nat):Int))≠[]→Z7u (ts.map fun t=>((t.depth:Nat):Int)) m):m=((maxD ts:Nat):Int):=by
 cases ts with
 | nil=>exact h0 rfl
 | cons t ts=>
  obtain ⟨hm,hle⟩:=h1 (by simp)
  obtain ⟨u,hu,rfl⟩:=List.mem_map.mp hm
  have a:=J0j hu
  have b:maxD (t::ts)≤u.depth:=J0d fun v hv=>by
   have:=hle _ (List.mem_map.mpr ⟨v,hv,rfl⟩)
   omega
  omega
theorem J3B:∀ ts:List Tm,(ts.map fun t=>((t.size:Nat):Int)).sum=((sumS ts:Nat):Int)
 | []=>rfl
 | t::ts=>by
  rw [List.map_cons,List.sum_cons,J3B ts]
  show _=((t.size+sumS ts:Nat):Int)
  omega
theorem Z2O {α:Type} {g:α→V} {ts:List α} {vs:List V} (hl:vs.length=ts.length) (h:∀ (j:Nat) v,vs[j]?=some v→∃ t,ts[j]?=some t∧v=g t):vs=ts.map g:=by
 refine List.ext_getElem? fun j=>?_
 rw [List.getElem?_map]
 by_cases hj:j < vs.length
 ·obtain ⟨t,a,b⟩:=h j _ (List.getElem?_eq_getElem hj)
  rw [List.getElem?_eq_getElem hj,a,b]; rfl
 ·rw [List.getElem?_eq_none (by omega),List.getElem?_eq_none (by omega)]; rfl
theorem kpN {H H':Hp} (s:Z4S H H'):Kp H H':=⟨fun b xs h=>s b _ (fun ys z=>by cases z) h,fun b o xs h=>s b _ (fun ys z=>by cases z) h,fun b C dx f fs h=>s b _ (fun ys z=>by cases z) h⟩
theorem J3G {K:W.Frag} {H:Hp}:∀ {ts:List Tm} {vs:List V},vs.length=ts.length→(∀ (j:Nat) v,vs[j]?=some v→∃ t,ts[j]?=some t∧RT K H v t.dat)→RTs K H vs (dats ts)
 | [],[],_,_=>.nil
 | t::ts,v::vs,e,h=>by
  obtain ⟨t',a,b⟩:=h 0 v rfl
  cases a
  exact .cons b (J3G (Nat.succ.inj e) fun j u hu=>h (j+1) u hu)
section
variable {Cl Cs Cq Ck Ct Cw Ch Cp:Addr} {P:Program} {w:World} {K:W.Frag} {mg:Str→Option Value} {base:Heap}
theorem J2r (T:Txt K mg Cl Ct Cw Ch Cp C_Maker Cs Cq Ck) (h_shape_of:Has P w K mg base 1 "shape_of" ["form","label","parts"] (Z8F K)) (h_Term_plain:HasM P w K mg base 1 Ct "plain" ["self"] (Z6E Ct K)) (h_Term_depth:HasM P w K mg base 1 Ct "depth" ["self"] (Z7h Ct K)) (h_Term_size:HasM P w K mg base 1 Ct "size" ["self"] (Z8l Ct K)) :
  HasM P w K mg base 2 Ct "__init__" ["self","form","label","parts"] (Z8W Ct K):=by
 refine HasM.of T.m_Term___init__ Z4z (fun _ _ _ _ _ _ us hl=>el4 us hl fun _ _ _ _=>rfl) (fun vs H Q E h=>?_) (fun f cdv A outer s H vs Q E hr h=>?_)
 ·obtain ⟨x,dx,p,f,l,us,ps,rfl,_⟩:=h
  rfl
 obtain ⟨x,dx,p,f,l,us,ps,rfl,hx,hp,hu,hok,hl,q⟩:=h
 refine ⟨_,(Z0c (Z0x (pvF 0) (pvF 1) rfl)
  (Z0c (Z0x (pvF 0) (pvF 2) rfl)
  (Z0c (Z0x (pvF 0) (Z0L Z0A rfl T.z_tuple Z1E (Z0a (pvF 3) Z0d)) rfl)
  (Z0c (Z0x (pvF 0) (Z0J Z3J Z0l (J4D rfl rfl T.z_max J1D (Z0a (Z1u rfl (BlockOk.plain (N:=["part"]) rfl (by decide +kernel) (by decide +kernel) (by decide +kernel)) (Z2f (Z0k (pvF 0) rfl))
     (fun C fp s H=>(Z0n (i:=0) (show (["part"]:List Str).Nodup by decide +kernel) rfl (Or.inl rfl)))
     (fun C fp s H=>(Z0Z (pvF 0) T.Term.cl h_Term_depth hr (by decide)))) Z0d) (J4h Z0l J5V))) rfl)
  (Z0c (Z0x (pvF 0) (Z0J Z3J Z0l (Z0M (Z8v rfl) rfl T.z_sum J3x (Z0a (Z1u rfl (BlockOk.plain (N:=["part"]) rfl (by decide +kernel) (by decide +kernel) (by decide +kernel)) (Z2f (Z0k (pvF 0) rfl))
     (fun C fp s H=>(Z0n (i:=0) (show (["part"]:List Str).Nodup by decide +kernel) rfl (Or.inl rfl)))
     (fun C fp s H=>(Z0Z (pvF 0) T.Term.cl h_Term_size hr (by decide)))) Z0d))) rfl)
  (Z0g (Z0x (pvF 0) (Z0G h_shape_of hr (by decide) rfl (Z0a (pvF 1) (Z0a (pvF 2) (Z0a (Z0L Z0A rfl T.z_tuple Z1E (Z0a (Z1u rfl (BlockOk.plain (N:=["part"]) rfl (by decide +kernel) (by decide +kernel) (by decide +kernel)) (Z2f (Z0k (pvF 0) rfl))
     (fun C fp s H=>(Z0n (i:=0) (show (["part"]:List Str).Nodup by decide +kernel) rfl (Or.inl rfl)))
     (fun C fp s H=>(Z0Z (pvF 0) T.Term.cl h_Term_plain hr (by decide)))) Z0d)) Z0d)))) rfl))))))),?_⟩
 refine seq6 fun uz5 huz5 uz4 huz4 uz3 huz3 uz2 huz2 uz1 huz1=>?_
 walk_at "rd"
 refine ⟨Ct,dx,_,hx,T.Term.cl,T.n_Term_form,Nat.lt_of_sub_eq_succ rfl,?_⟩
 subst huz1
 walk_at "rd"
 refine ⟨Ct,dx,_,Z0e,T.Term.cl,T.n_Term_label,Nat.lt_of_sub_eq_succ rfl,?_⟩
 subst huz2
 walk_at "rd"
 have S1:SX x H (upd (upd H x (.ins Ct dx (putF "form" (.str f.s) []))) x (.ins Ct dx (putF "label" (lbV l) (putF "form" (.str f.s) [])))):=(SX.put _).trans (SX.put _)
 have X1:upd (upd H x (.ins Ct dx (putF "form" (.str f.s) []))) x (.ins Ct dx (putF "label" (lbV l) (putF "form" (.str f.s) []))) x=some (.ins Ct dx (putF "label" (lbV l) (putF "form" (.str f.s) []))):=Z0e
 generalize upd (upd H x (.ins Ct dx (putF "form" (.str f.s) []))) x (.ins Ct dx (putF "label" (lbV l) (putF "form" (.str f.s) [])))=H1 at *
 refine ⟨us,.inl ⟨S1.sqL hx hp,fun inn hinn=>?_⟩⟩
 have nx:inn≠x:=fun z=>Z0i X1 hinn z.symm
 have s2:=Z0v hinn (.tup us)
 refine ⟨Ct,dx,_,s2 _ _ X1,T.Term.cl,T.n_Term_inner,Nat.lt_of_sub_eq_succ rfl,?_⟩
 have S2:SX x H (upd (upd H1 inn (.tup us)) x (.ins Ct dx (putF "inner" (.ref inn) (putF "label" (lbV l) (putF "form" (.str f.s) []))))):=S1.trans ((SX.of s2).trans (SX.put _))
 have X2:upd (upd H1 inn (.tup us)) x (.ins Ct dx (putF "inner" (.ref inn) (putF "label" (lbV l) (putF "form" (.str f.s) [])))) x=some (.ins Ct dx (putF "inner" (.ref inn) (putF "label" (lbV l) (putF "form" (.str f.s) [])))):=Z0e
 have I2:upd (upd H1 inn (.tup us)) x (.ins Ct dx (putF "inner" (.ref inn) (putF "label" (lbV l) (putF "form" (.str f.s) [])))) inn=some (.tup us):=by rw [Z0j nx]; exact Z0e
 clear s2 hinn X1 S1
 generalize upd (upd H1 inn (.tup us)) x (.ins Ct dx (putF "inner" (.ref inn) (putF "label" (lbV l) (putF "form" (.str f.s) []))))=H2 at *
 have hus:us.length=ps.length:=hu.length
 have U2:TOs K Ct H2 us ps:=hu.kp (S2.kp hx)
 subst huz3
 walk_at "rd"
 refine ⟨Ct,dx,_,X2,T.Term.cl,T.n_Term_inner,.ref inn,rfl,inn,rfl,⟨_,SqT.of I2⟩,fun D hD=>?_⟩
 refine Z1t (ys:=us) none [] (fun j v H=>∃ t,ps[j]?=some t∧v=.int ((t.depth:Nat):Int)) (fun _ _ _ _ h _=>h) rfl hD (by rw [sizeLine_eq]; omega) (fun H1 s=>SqT.of (s _ _ I2)) (fun i y hy H1 K' s k=>?_) (fun vs Ha Sa hv lv hR=>?_)
 ·walk_at "rd"
  obtain ⟨t,ht,hto⟩:=U2.at hy
  have hto:=hto.kp (Kp.of s)
  obtain ⟨a,dx',inn',sh',us',ws',rfl,ha,_⟩:=hto.inv
  exact ⟨a,rfl,dx',_,ha,rfl,_,t,rfl,hto,k _ _ (Same.refl _) ⟨t,ht,rfl⟩⟩
 cases Z2O (g:=fun t:Tm=>V.int ((t.depth:Nat):Int)) (lv.trans hus) hR
 refine ⟨D,rfl,ps.map fun t=>((t.depth:Nat):Int),by rw [List.map_map]; exact SqL.of hv,fun m m0 m1=>?_⟩
 cases J5w m0 m1
 refine ⟨Ct,dx,_,Sa _ _ X2,T.Term.cl,T.n_Term_deep,Nat.lt_of_sub_eq_succ rfl,?_⟩
 have S3:SX x H2 (upd Ha x (.ins Ct dx (putF "deep" (.int (1+((maxD ps:Nat):Int))) (putF "inner" (.ref inn) (putF "label" (lbV l) (putF "form" (.str f.s) [])))))):=(SX.of Sa).trans (SX.put _)
 have X3:upd Ha x (.ins Ct dx (putF "deep" (.int (1+((maxD ps:Nat):Int))) (putF "inner" (.ref inn) (putF "label" (lbV l) (putF "form" (.str f.s) []))))) x=some (.ins Ct dx (putF "deep" (.int (1+((maxD ps:Nat):Int))) (putF "inner" (.ref inn) (putF "label" (lbV l) (putF "form" (.str f.s) []))))):=Z0e
 clear hv hR hD Sa
 generalize upd Ha x (.ins Ct dx (putF "deep" (.int (1+((maxD ps:Nat):Int))) (putF "inner" (.ref inn) (putF "label" (lbV l) (putF "form" (.str f.s) [])))))=H3 at *
 have I3:=S3 _ _ nx I2
 have U3:TOs K Ct H3 us ps:=hu.kp ((S2.trans S3).kp hx)
 subst huz4
 walk_at "rd"
 refine ⟨Ct,dx,_,X3,T.Term.cl,T.n_Term_inner,.ref inn,rfl,inn,rfl,⟨_,SqT.of I3⟩,fun D hD=>?_⟩
 refine Z1t (ys:=us) none [] (fun j v H=>∃ t,ps[j]?=some t∧v=.int ((t.size:Nat):Int)) (fun _ _ _ _ h _=>h) rfl hD (by rw [sizeLine_eq]; omega) (fun H1 s=>SqT.of (s _ _ I3)) (fun i y hy H1 K' s k=>?_) (fun vs Hb Sb hv lv hR=>?_)
 ·walk_at "rd"
  obtain ⟨t,ht,hto⟩:=U3.at hy
  have hto:=hto.kp (Kp.of s)
  obtain ⟨a,dx',inn',sh',us',ws',rfl,ha,_⟩:=hto.inv
  exact ⟨a,rfl,dx',_,ha,rfl,_,t,rfl,hto,k _ _ (Same.refl _) ⟨t,ht,rfl⟩⟩
 cases Z2O (g:=fun t:Tm=>V.int ((t.size:Nat):Int)) (lv.trans hus) hR
 refine ⟨D,rfl,ps.map (fun t=>((t.size:Nat):Int)),by rw [List.map_map]; exact SqL.of hv,?_⟩
 rw [J3B]
 refine ⟨Ct,dx,_,Sb _ _ X3,T.Term.cl,T.n_Term_many,Nat.lt_of_sub_eq_succ rfl,?_⟩
 have S4:SX x H3 (upd Hb x (.ins Ct dx (putF "many" (.int (1+((sumS ps:Nat):Int))) (putF "deep" (.int (1+((maxD ps:Nat):Int))) (putF "inner" (.ref inn) (putF "label" (lbV l) (putF "form" (.str f.s) []))))))):=(SX.of Sb).trans (SX.put _)
 have X4:upd Hb x (.ins Ct dx (putF "many" (.int (1+((sumS ps:Nat):Int))) (putF "deep" (.int (1+((maxD ps:Nat):Int))) (putF "inner" (.ref inn) (putF "label" (lbV l) (putF "form" (.str f.s) [])))))) x=some (.ins Ct dx (putF "many" (.int (1+((sumS ps:Nat):Int))) (putF "deep" (.int (1+((maxD ps:Nat):Int))) (putF "inner" (.ref inn) (putF "label" (lbV l) (putF "form" (.str f.s) [])))))):=Z0e
 clear hv hR hD Sb
 generalize upd Hb x (.ins Ct dx (putF "many" (.int (1+((sumS ps:Nat):Int))) (putF "deep" (.int (1+((maxD ps:Nat):Int))) (putF "inner" (.ref inn) (putF "label" (lbV l) (putF "form" (.str f.s) []))))))=H4 at *
 have I4:=S4 _ _ nx I3
 have S04:SX x H H4:=S2.trans (S3.trans S4)
 have U4:TOs K Ct H4 us ps:=hu.kp (S04.kp hx)
 subst huz5
 walk_at "rd"
 refine ⟨Ct,dx,_,X4,T.Term.cl,T.n_Term_inner,.ref inn,rfl,inn,rfl,⟨_,SqT.of I4⟩,fun D hD=>?_⟩
 refine Z1t (ys:=us) none [] (fun j v H=>∃ t,ps[j]?=some t∧RT K H v t.dat) (fun j v H1 H2 ⟨t,a,b⟩ s=>⟨t,a,b.kp (kpN s)⟩) rfl hD (by rw [sizeLine_eq]; omega) (fun H1 s=>SqT.of (s _ _ I4)) (fun i y hy H1 K' s k=>?_) (fun vs Hc Sc hv lv hR=>?_)
 ·walk_at "rd"
  obtain ⟨t,ht,hto⟩:=U4.at hy
  have hto:=hto.kp (Kp.of s)
  obtain ⟨a,dx',inn',sh',us',ws',rfl,ha,_⟩:=hto.inv
  exact ⟨a,rfl,dx',_,ha,rfl,_,t,rfl,hto,fun u hu'=>k _ _ (Same.refl _) ⟨t,ht,hu'⟩⟩
 have hd:=J3G (lv.trans hus) hR
 refine ⟨D,rfl,vs,.inl ⟨SqL.of hv,fun t5 h5=>?_⟩⟩
 have s5:=Z0v h5 (.tup vs)
 refine ⟨f,l,t5,vs,dats ps,rfl,SqT.of Z0e,hd.same s5,by rw [Z1w]; exact hok,by rw [Z1w]; exact hl,fun r ws H6 s6 hr hw=>?_⟩
 refine ⟨Ct,dx,_,s6 _ _ (s5 _ _ (Sc _ _ X4)),T.Term.cl,T.n_Term_shape,Nat.lt_of_sub_eq_succ rfl,?_⟩
 have S6:SX x H4 H6:=SX.of (Sc.trans (s5.trans s6))
 have X6:=S6
 have S7:SX x H6 (upd H6 x (.ins Ct dx (putF "shape" (.ref r) (putF "many" (.int (1+((sumS ps:Nat):Int))) (putF "deep" (.int (1+((maxD ps:Nat):Int))) (putF "inner" (.ref inn) (putF "label" (lbV l) (putF "form" (.str f.s) [])))))))):=SX.put _
 have x6:=s6 _ _ (s5 _ _ (Sc _ _ X4))
 have k6:Kp H (upd H6 x (.ins Ct dx (putF "shape" (.ref r) (putF "many" (.int (1+((sumS ps:Nat):Int))) (putF "deep" (.int (1+((maxD ps:Nat):Int))) (putF "inner" (.ref inn) (putF "label" (lbV l) (putF "form" (.str f.s) [])))))))):=(S04.trans (S6.trans S7)).kp hx
 refine q _ (S04.trans (S6.trans S7)) ?_
 have e:((putF "shape" (.ref r) (putF "many" (.int (1+((sumS ps:Nat):Int))) (putF "deep" (.int (1+((maxD ps:Nat):Int))) (putF "inner" (.ref inn) (putF "label" (lbV l) (putF "form" (.str f.s) [])))))):List (Str×V))=fsT f l inn r (1+maxD ps) (1+sumS ps):=by
  unfold fsT
  rw [Int.natCast_add,Int.natCast_add]
  rfl
 have x7:upd H6 x (.ins Ct dx (putF "shape" (.ref r) (putF "many" (.int (1+((sumS ps:Nat):Int))) (putF "deep" (.int (1+((maxD ps:Nat):Int))) (putF "inner" (.ref inn) (putF "label" (lbV l) (putF "form" (.str f.s) []))))))) x=some (.ins Ct dx (fsT f l inn r (1+maxD ps) (1+sumS ps))):=by rw [Z0e,e]
 refine .mk x7 (SqT.of (S7 _ _ nx (S6 _ _ nx I4))) (hu.kp k6) (S7.sqT x6 hr) ?_
 exact hw.kt (Kt.put _ x6 (fun _ z=>by cases z) (fun _ _ z=>by cases z))
end
end K52
end
section
set_option format.width 520
namespace K52
open PySem L2 TM WK
open P15 (Lb Fm Tm dats Z1B okF Ok maxD sumS flatR Bld)
open PW (Vl Wd Hs Pg Sc Wt Ws IxAt Look Chain Z2R Flds Z2Z putS Z1f getS Z1A Two Step Z2T Z1k leaf)
seal L2.PE L2.PA L2.PT L2.PS L2.PSs L2.PG L2.PGs L2.PI L2.PW
inductive Z6t (K:W.Frag) (vs:List V) (H:Hp) (Q:VK):Prop
 | mk (v:V) (t:Tm) (a1:vs=[v]) (a2:RT K H v t.dat) (a3:Ok t) (a4:t.flat.length≤100) (a5:∀ l us H',Same H H'→H l=none→H' l=some (.lst us)→RTs K H' us (dats t.flat)→Q (.ref l) H'):Z6t K vs H Q
def Z6C (K:W.Frag):Sp:=fun vs H Q _=>Z6t K vs H Q
theorem Z6l {K:W.Frag} {H:Hp}:∀ {ds es:List PyData} {vs:List V},RTs K H vs (ds++es)→∃ xs ys,vs=xs++ys∧RTs K H xs ds∧RTs K H ys es
 | [],es,vs,h=>⟨[],vs,rfl,.nil,h⟩
 | d::ds,es,_,.cons a b=>by
  obtain ⟨xs,ys,rfl,h1,h2⟩:=Z6l b
  exact ⟨_::xs,ys,rfl,.cons a h1,h2⟩
theorem Z4T:∀ ts:List Tm,ts.length≤(flatR ts).length
 | []=>Nat.le_refl _
 | .mk f l ps::ts=>by
  show ts.length+1≤(flatR ts++(Tm.mk f l ps::flatR ps)).length
  rw [List.length_append,List.length_cons]
  have:=Z4T ts
  omega
theorem J0h (t:Tm):flatR [t]=t::flatR t.ps:=by
 cases t
 rfl
noncomputable def WI (K:W.Frag) (H0:Hp) (t:Tm) (v:V) (p1 p2:Addr) (m:Nat) (σ:St) (H':Hp):Prop:=∃ us vs w B o3,Same H0 H'∧H' p1=some (.lst us)∧RTs K H' us (dats w)∧H' p2=some (.lst vs)∧RTs K H' vs (dats B)∧t.flat=w++flatR B∧m=(flatR B).length∧(∀ x∈B,Ok x)∧σ=[some v,some (.ref p1),some (.ref p2),o3]
section
variable {Cl Cs Cq Ck Ct Cw Ch Cp:Addr} {P:Program} {w:World} {K:W.Frag} {mg:Str→Option Value} {base:Heap}
theorem J1V (T:Txt K mg Cl Ct Cw Ch Cp C_Maker Cs Cq Ck) (h_parts_of:Has P w K mg base 1 "parts_of" ["plain"] (Z6d K)):Has P w K mg base 2 "all_within" ["plain"] (Z6C K):=by
 refine Has.of T.f_all_within sc_all_within (fun _ _ _ _ _ _ us hl=>el1 us hl fun _=>rfl) (fun vs H Q E h=>?_) (fun f cdv A outer s H vs Q E hr h=>?_)
 ·obtain ⟨v,t,rfl,_⟩:=h
  rfl
 obtain ⟨v,t,rfl,hv,ok,hz,q⟩:=h
 refine ⟨_,(Z0c (Z0w (i:=1) sc_all_within.nd rfl (Or.inl rfl) (Z0B Z0d))
  (Z0c (Z0w (i:=2) sc_all_within.nd rfl (Or.inl rfl) (Z0B (Z0a (pvF 0) Z0d)))
  (Z0c (Z4H PassesOwn.never (J4H (pvF 2) (fun _=>rfl)) (Z0c (Z0w (i:=3) sc_all_within.nd rfl (Or.inl rfl) (Z9b PySem.F.plainAttrs_list PySem.F.slot_list_pop PySem.F.type_list_pop Z8T (pvF 2)))
  (Z0c (Z1g (Z3m PySem.F.plainAttrs_list PySem.F.slot_list_append PySem.F.type_list_append Z0K (pvF 1) (Z0a (pvF 3) Z0d)))
  (Z0g (Z1g (Z3m (r:=Z5F K) PySem.F.plainAttrs_list PySem.F.slot_list_extend PySem.F.type_list_extend Z9C (pvF 2) (Z0a (Z0G h_parts_of hr (by decide) rfl (Z0a (pvF 3) Z0d)) Z0d)))))))
  (Z0g (Z0s (pvF 1)))))),?_⟩
 refine seq4 fun uz3 huz3 uz2 huz2 uz1 huz1=>?_
 walk_at "rd"
 refine New.of fun p1 H1 h1 s1 e1=>?_
 subst huz1
 walk_at "rd"
 refine New.of fun p2 H2 h2 s2 e2=>?_
 subst huz2
 walk_at "rd"
 refine J4R (WI K H t v p1 p2) ⟨[],[v],[],[t],none,s1.trans s2,s2 _ _ e1,.nil,e2,.cons (hv.same (s1.trans s2)) .nil,?_,rfl,fun x hx=>by rw [List.mem_singleton.mp hx]; exact ok,rfl⟩ (fun m σ H' h=>?_) J1E
 ·show t.flat=[]++([]++t.flat)
  rfl
 obtain ⟨us,vs,w,B,o3,S,h1',hu,h2',hB,hf,hm,hok,rfl⟩:=h
 walk_at "rd"
 have n12:p1≠p2:=Z0i e1 h2
 have n1:H p1=none:=h1
 have n2:H p2=none:=s1.free h2
 have hul:us.length≤100:=by
  rw [hu.length,Z1w]
  have:=congrArg List.length hf
  rw [List.length_append] at this
  omega
 refine ⟨vs,SqL.of h2',?_⟩
 cases hBl:B.length with
 | zero=>
  cases List.length_eq_zero_iff.mp hBl
  cases hB.nil_inv
  refine ite2 (fun z=>by cases z) (fun _=>?_)
  subst huz3
  walk_at "rd"
  refine q p1 us H' S n1 h1' ?_
  rw [hf,show flatR ([]:List Tm)=[] from rfl,List.append_nil]
  exact hu
 | succ n=>
  obtain ⟨B,b,rfl,_⟩:=P15.Z7w hBl
  rw [Z3Y] at hB
  obtain ⟨vs,ys,rfl,hB1,hy⟩:=Z6l hB
  obtain ⟨u,r0,rfl,hu',hr0⟩:=hy.inv
  cases hr0.nil_inv
  have obk:=hok b (by simp)
  obtain ⟨f,l,ps⟩:=b
  obtain ⟨of,op⟩:okF f l ps.length∧∀ p∈ps,Ok p:=by cases obk with | mk a b=>exact ⟨a,b⟩
  obtain ⟨a,ws,rfl,hq,hw⟩:=hu'.tup_inv
  rw [P15.Z3V,J0h] at hf hm
  have hpl:ps.length≤100:=by
   have hf':t.flat=w++(Tm.mk f l ps::flatR ps++flatR B):=hf
   have:=congrArg List.length hf'
   simp only [List.length_append,List.length_cons] at this
   have:=Z4T ps
   omega
  refine ite2 (fun _=>?_) (fun z=>absurd (by cases vs <;> rfl) z)
  refine ⟨.inl ⟨rfl,_,SqL.of h2'⟩,_,h2',.ref a,by simp,?_⟩
  rw [List.dropLast_concat]
  have g1:upd H' p2 (.lst vs) p1=some (.lst us):=by rw [Z0j n12]; exact h1'
  have g2:upd (upd H' p2 (.lst vs)) p1 (.lst (us++[.ref a])) p2=some (.lst vs):=by rw [Z0j n12.symm]; exact Z0e
  have k2:Kp H' (upd (upd H' p2 (.lst vs)) p1 (.lst (us++[.ref a]))):=(Kp.lst _ h2').trans (Kp.lst _ g1)
  refine ⟨.inl ⟨rfl,_,SqL.of g1⟩,us,g1,by omega,.inl ⟨rfl,_,SqL.of g2⟩,f,l,a,ws,dats ps,rfl,SqT.kp hq k2,hw.kp k2,by rw [Z1w]; exact of,by rw [Z1w]; exact hpl,fun r us2 H5 s5 hr hus2=>?_⟩
  have hvl:vs.length≤100:=by
   rw [hB1.length,Z1w]
   have:=congrArg List.length hf
   simp only [List.length_append,List.length_cons] at this
   have:=Z4T B
   omega
  have g5:=s5 _ _ g2
  have k5:Kp H' (upd H5 p2 (.lst (vs++us2))):=k2.trans ((Kp.of s5).trans (Kp.lst _ g5))
  refine ⟨r,rfl,vs,g5,us2,hr,by rw [hus2.length,Z1w]; omega,(flatR (B++ps)).length,?_,us++[.ref a],vs++us2,w++[.mk f l ps],B++ps,_,fun b o hb=>?_,?_,?_,Z0e,?_,?_,rfl,fun x hx=>?_,rfl⟩
  ·rw [hm,P15.Z3V]
   exact Nat.lt_succ_self _
  ·rw [Z0j (Z0i hb n2)]
   refine s5 _ _ ?_
   rw [Z0j (Z0i hb n1),Z0j (Z0i hb n2)]
   exact S _ _ hb
  ·rw [Z0j n12]; exact s5 _ _ Z0e
  ·rw [Z3Y]
   exact (hu.kp k5).app (.cons (.tup (SqT.kp hq k5) (hw.kp k5)) .nil)
  ·rw [Z3Y]
   exact (hB1.kp k5).app (hus2.kp (Kp.lst _ g5))
  ·rw [P15.Z3V,List.append_assoc]
   exact hf
  ·rcases List.mem_append.mp hx with hx | hx
   ·exact hok x (List.mem_append_left _ hx)
   ·exact op x hx
end
end K52
end
section
set_option format.width 520
namespace K52
open PySem L2 TM WK
open P15 (Lb Fm Tm dats Z1B okF Ok maxD sumS flatR Bld)
open PW (Vl Wd Hs Pg Sc Wt Ws IxAt Look Chain Z2R Flds Z2Z putS Z1f getS Z1A Two Step Z2T Z1k leaf)
seal L2.PE L2.PA L2.PT L2.PS L2.PSs L2.PG L2.PGs L2.PI L2.PW
inductive Z6v (C:Addr) (K:W.Frag) (vs:List V) (H:Hp) (Q:VK):Prop
 | mk (v:V) (t:Tm) (a1:vs=[v]) (a2:RT K H v t.dat) (a3:Ok t) (a4:t.flat.length≤100) (a5:∀ u H',Same H H'→TO K C H' u t→Q u H'):Z6v C K vs H Q
def Z6O (C:Addr) (K:W.Frag):Sp:=fun vs H Q _=>Z6v C K vs H Q
theorem SX.kpl {x:Addr} {xs:List V} {H H':Hp} (s:SX x H H') (hx:H x=some (.lst xs)):Kp H H':=
 ⟨fun b xs h=>s b _ (fun z=>by rw [z,hx] at h; cases h) h,fun b o xs h=>s b _ (fun z=>by rw [z,hx] at h; cases h) h,fun b C dx f fs h=>s b _ (fun z=>by rw [z,hx] at h; cases h) h⟩
theorem Z8X:∀ ts:List Tm,dats ts.reverse=(dats ts).reverse
 | []=>rfl
 | t::ts=>by rw [List.reverse_cons,Z3Y,Z8X]; show _=(t.dat::dats ts).reverse; rw [List.reverse_cons]; rfl
theorem J1r {K:W.Frag} {H:Hp}:∀ {vs:List V} {ds:List PyData},RTs K H vs ds→RTs K H vs.reverse ds.reverse
 | _,_,.nil=>.nil
 | _,_,.cons a b=>by rw [List.reverse_cons,List.reverse_cons]; exact (J1r b).app (.cons a .nil)
mutual
theorem J1d:∀ (t:Tm),Ok t→∀ x∈t.flat,Ok x
 | .mk f l ps,h,x,hx=>by
  rcases List.mem_cons.mp hx with rfl | hx
  ·exact h
  ·cases h with
   | mk a b=>exact flats_ok ps b x hx
theorem flats_ok:∀ (ts:List Tm),(∀ p∈ts,Ok p)→∀ x∈flatR ts,Ok x
 | t::ts,h,x,hx=>by
  rcases (List.mem_append.mp hx) with hx | hx
  ·exact flats_ok ts (fun p hp=>h p (List.mem_cons_of_mem _ hp)) x hx
  ·exact J1d t (h t List.mem_cons_self) x hx
end
theorem Z7o {α:Type} {xs:List α} {y:α}:(xs++[y])[(xs++[y]).length - 1]?=some y:=by simp
theorem J4p {w S:List Tm} (h:Bld w S):S.length≤w.length:=by
 induction h with
 | nil=>exact Nat.le_refl _
 | snoc _ ih=>
  rw [List.length_append] at ih ⊢
  rw [List.length_append]
  show _+1≤_+1
  omega
noncomputable def FI (K:W.Frag) (C:Addr) (H2:Hp) (t:Tm) (v:V) (p1:Addr) (i:Nat) (σ:St) (H':Hp):Prop:=∃ os S o2 o3,SX p1 H2 H'∧H' p1=some (.lst os)∧Bld (t.flat.reverse.take i) S∧TM.TOs K C H' os S∧σ=[some v,some (.ref p1),o2,o3]
section
variable {Cl Cs Cq Ck Ct Cw Ch Cp:Addr} {P:Program} {w:World} {K:W.Frag} {mg:Str→Option Value} {base:Heap}
theorem J1A (T:Txt K mg Cl Ct Cw Ch Cp C_Maker Cs Cq Ck) (h_parts_of:Has P w K mg base 1 "parts_of" ["plain"] (Z6d K)) (h_label_of:Has P w K mg base 1 "label_of" ["plain"] (Z8V K)) (h_all_within:Has P w K mg base 2 "all_within" ["plain"] (Z6C K)) (h_Term___init__:HasM P w K mg base 2 Ct "__init__" ["self","form","label","parts"] (Z8W Ct K)) :
    Has P w K mg base 4 "term_of" ["plain"] (Z6O Ct K):=by
  refine Has.of T.f_term_of sc_term_of (fun _ _ _ _ _ _ us hl=>el1 us hl fun _=>rfl) (fun vs H Q E h=>?_) (fun f cdv A outer s H vs Q E hr h=>?_)
  · obtain ⟨v,t,rfl,_⟩:=h
    rfl
  obtain ⟨v,t,rfl,hv,ok,hz,q⟩:=h
  refine ⟨_,(Z0c (Z0w (i:=1) sc_term_of.nd rfl (Or.inr rfl) (Z0B Z0d))
    (Z0c (Z2F PassesOwn.never rfl (J5y rfl T.z_reversed Z7K (Z0a (Z0G h_all_within hr (by decide) rfl (Z0a (pvF 0) Z0d)) Z0d)) (Z0n (i:=2) sc_term_of.nd rfl (Or.inl rfl)) (Z0c (Z3f rfl sc_term_of.nd (i:=3) rfl rfl (BlockOk.of (N:=["part","built"]) (nl:=[none,some 1]) (cl:=[("built",s.heap.objs.size+1)]) rfl (by decide +kernel) (by decide +kernel) rfl (sub1 rfl) (nm:=["built"]) rfl (by decide +kernel) rfl (fun i hi j hj=>by
            match i,hi with
            | 0,_=>cases hj
             | 1,_=>cases hj; exact ⟨_,rfl,rfl,rfl,.inl rfl⟩
            )) (Z2f (Z0G h_parts_of hr (by decide) rfl (Z0a (pvF 2) Z0d)))
          (fun C fp s H=>(Z0n (i:=0) (show (["part","built"]:List Str).Nodup by decide +kernel) rfl (Or.inl rfl)))
          (fun C fp s H=>(show PE _ _ (tBM0 K "list" rPop _) from Z9b PySem.F.plainAttrs_list PySem.F.slot_list_pop PySem.F.type_list_pop Z8T (pvF 1))))
    (Z0g (Z1g (Z3m PySem.F.plainAttrs_list PySem.F.slot_list_append PySem.F.type_list_append Z0K (pvF 1) (Z0a (Z3t T.Term h_Term___init__ hr (by decide) rfl (Z0a (Z1q (r:=Z2J K) Z1a (pvF 2) Z0l (fun _ _=>rfl)) (Z0a (Z0G h_label_of hr (by decide) rfl (Z0a (pvF 2) Z0d)) (Z0a (J0M rfl rfl rfl T.z_list T.z_reversed (Z0a (pvF 3) Z0d)) Z0d)))) Z0d))))))
    (Z0g (Z0s (Z1q (r:=Z3r K) Z1i (pvF 1) Z0l (fun _ _=>rfl)))))),?_⟩
  refine seq3 fun uz2 huz2 uz1 huz1=>?_
  walk_at "rd"
  refine New.of fun p1 H1 h1 s1 e1=>?_
  subst huz1
  walk_at "rd"
  refine ⟨v,t,rfl,hv.same s1,ok,hz,fun a us H2 s2 hna ha hus=>⟨a,rfl,us,SqL.of ha,?_⟩⟩
  have e2:=s2 _ _ e1
  have nap:a≠p1:=fun z=>Z0i e1 hna z.symm
  have full:Bld t.flat.reverse [t]:=P15.Bld.flat t (w:=[]) (B:=[]) .nil
  have hlen:us.length=t.flat.length:=by rw [hus.length,Z1w]
  refine J2U us (FI K Ct H2 t v p1) ⟨[],[],none,none,fun _ _ _ h=>h,e2,.nil,.nil,rfl⟩ (fun i σ H' _ h=>?_) (fun i x σ H' hx h=>?_) (fun σ H' h=>?_)
  · obtain ⟨os,S,o2,o3,sx,_⟩:=h
    exact SqL.of (sx _ _ nap ha)
  · obtain ⟨os,S,o2,o3,sx,hp,hb,ho,rfl⟩:=h
    have kp:=SX.kpl sx e2
    have hi:i < us.length:=by
      have:=(List.getElem?_eq_some_iff.mp hx).1
      rwa [List.length_reverse] at this
    have hrx:=(J1r hus).kp kp
    rw [← Z8X] at hrx
    obtain ⟨d,hd,hrx⟩:=hrx.at hx
    obtain ⟨y,hy,rfl⟩:=J0O hd
    obtain ⟨C,rfl,hb'⟩:=full.next hy hb
    have oky:=J1d t ok y (List.mem_reverse.mp (List.mem_of_getElem? hy))
    obtain ⟨f,l,ps⟩:=y
    obtain ⟨of,op⟩:okF f l ps.length∧∀ p∈ps,Ok p:=by cases oky with | mk a b=>exact ⟨a,b⟩
    obtain ⟨xa,ws,rfl,hq,hw⟩:=hrx.tup_inv
    have hSl:=J4p hb
    have hpl:ps.length≤100∧C.length≤100:=by
      rw [List.length_append,List.length_take] at hSl
      have:(Tm.mk f l ps).ps.length=ps.length:=rfl
      omega
    obtain ⟨osC,osP,rfl,hoC,hoP⟩:=TM.TOs.split ho
    have lP:osP.length=ps.length:=hoP.length
    have lC:osC.length=C.length:=hoC.length
    walk_at "rd"
    refine ⟨f,l,xa,ws,dats ps,rfl,hq,hw,by rw [Z1w]; exact of,by rw [Z1w]; exact hpl.1,fun r us2 H3 s3 hr hus2=>⟨r,rfl,⟨_,hr⟩,fun D hD=>?_⟩⟩
    have lu2:us2.length=ps.length:=by rw [hus2.length,Z1w]
    have hp3:=s3 _ _ hp
    have nDp:D≠p1:=fun z=>Z0i hp3 hD z.symm
    have sq:∀ {H4:Hp},(∀ b o,b≠p1→b≠D→H3 b=some o→H4 b=some o)→Kp H3 H4:=fun h=>⟨fun b xs e=>h b _ (fun z=>by rw [z,hp3] at e; cases e) (fun z=>by rw [z,hD] at e; cases e) e,fun b o xs e=>h b _ (fun z=>by rw [z,hp3] at e; cases e) (fun z=>by rw [z,hD] at e; cases e) e,fun b C dx f fs e=>h b _ (fun z=>by rw [z,hp3] at e; cases e) (fun z=>by rw [z,hD] at e; cases e) e⟩
    refine J3m (n:=ps.length) none [some (.ref p1)] (fun _ _=>True) (fun j vs H4=>H4 p1=some (.lst (osC++osP.take (ps.length - j)))∧vs=(osP.drop (ps.length - j)).reverse∧∀ b o,b≠p1→b≠D→H3 b=some o→H4 b=some o) rfl (by rw [sizeLine_eq]; omega) ⟨?_,?_,fun b o _ nb h=>?_⟩ (fun j vs H4 hj hW=>?_) (fun vs H4 hW=>?_) (fun j x vs H4 K' hj _ hW hD4 k=>?_) (fun vs H4 hW hD4 hl=>?_)
    · rw [Z0j nDp.symm,Nat.sub_zero,List.take_of_length_le (by omega)]; exact hp3
    · rw [Nat.sub_zero,List.drop_of_length_le (by omega)]; rfl
    · rw [Z0j nb]; exact h
    · exact ⟨⟨us2,us2[j],SqT.kp hr (sq hW.2.2),List.getElem?_eq_getElem (by omega)⟩,fun x H2 hy=>⟨hy.1,trivial⟩⟩
    · exact ⟨us2,SqT.kp hr (sq hW.2.2),by omega⟩
    · obtain ⟨g1,rfl,g3⟩:=hW
      obtain ⟨m,em⟩:∃ m,ps.length - j=m+1:=⟨ps.length - j - 1,by omega⟩
      have em':ps.length - (j+1)=m:=by omega
      have hm:m < osP.length:=by omega
      rw [em] at g1 hD4 k
      rw [List.take_succ_eq_append_getElem hm,← List.append_assoc] at g1
      walk_at "rd"
      refine ⟨.inl ⟨rfl,_,SqL.of g1⟩,_,g1,osP[m],Z7o,?_⟩
      rw [List.dropLast_concat]
      refine k _ _ (by rw [Z0j nDp]; exact hD4) ⟨?_,?_,fun b o nb nb' h=>?_⟩
      · rw [Z0j nDp.symm,em']; exact Z0e
      · rw [em',List.drop_eq_getElem_cons hm,List.reverse_cons]
      · rw [Z0j nb',Z0j nb]; exact g3 b o nb nb' h
    · obtain ⟨g1,rfl,g3⟩:=hW
      rw [Nat.sub_self,List.take_zero,List.append_nil] at g1
      rw [Nat.sub_self,List.drop_zero] at hD4
      have k4:Kp H' H4:=(Kp.of s3).trans (sq g3)
      have of':okF f l (dats ps).length:=by rw [Z1w]; exact of
      obtain ⟨r0,er⟩:=x_hd of'
      have hw':=hw
      rw [er] at hw'
      obtain ⟨v0,wr,rfl,hv0,_⟩:=hw'.inv
      cases hv0.str_inv
      refine ⟨.inl ⟨rfl,_,SqL.of g1⟩,_,SqT.kp hq k4,_,ix0,f,l,xa,_,dats ps,rfl,SqT.kp hq k4,hw.kp k4,of',fun H5 s5=>?_⟩
      refine ⟨D,rfl,_,SqL.of (s5 _ _ hD4),fun li hli x5 dx hx5 hdx ne5=>?_⟩
      rw [List.reverse_reverse] at hx5 hdx ⊢
      have sa:=Z0v hli (.lst osP)
      have sb:=Z0v hdx (.own x5)
      have sc:=Z0v (show upd (upd H5 li (.lst osP)) dx (.own x5) x5=none by rw [Z0j (fun z=>ne5 z.symm)]; exact hx5) (.ins Ct dx [])
      have S5:Same H4 (upd (upd (upd H5 li (.lst osP)) dx (.own x5)) x5 (.ins Ct dx [])):=s5.trans (sa.trans (sb.trans sc))
      have hp5:=sa _ _ (s5 _ _ g1)
      refine ⟨x5,dx,li,f,l,osP,ps,rfl,Z0e,SqL.of (sc _ _ (sb _ _ Z0e)),hoP.kp (k4.trans (Kp.of S5)),of,hpl.1,fun H6 sx6 hto=>⟨rfl,osC,sx6 _ _ (Z0i hp5 hx5) (S5 _ _ g1),by rw [lC]; omega,?_⟩⟩
      have g6:=sx6 _ _ (Z0i hp5 hx5) (S5 _ _ g1)
      have k6:Kp H' (upd H6 p1 (.lst (osC++[.ref x5]))):=k4.trans ((Kp.of S5).trans ((SX.kp sx6 Z0e).trans (Kp.lst _ g6)))
      refine ⟨_,_,_,_,fun b o nb h=>?_,Z0e,hb',(hoC.kp k6).app (.cons (hto.kp (Kp.lst _ g6)) .nil),rfl⟩
      rw [Z0j nb]
      have h4:=g3 b o nb (fun z=>Z0i (s3 _ _ (sx _ _ nb h)) hD z) (s3 _ _ (sx _ _ nb h))
      exact sx6 _ _ (Z0i (sa _ _ (s5 _ _ h4)) hx5) (S5 _ _ h4)
  · obtain ⟨os,S,o2,o3,sx,hp,hb,ho,rfl⟩:=h
    subst huz2
    walk_at "rd"
    rw [hlen,List.take_of_length_le (by rw [List.length_reverse]; exact Nat.le_refl _)] at hb
    cases P15.Bld.det rfl hb full
    cases ho with
    | cons a b=>
      refine ⟨_,SqL.of hp,_,ix0,q _ H' (fun b o hb=>?_) a⟩
      exact sx _ _ (Z0i hb h1) ((s1.trans s2) _ _ hb)
end
end K52
end
section
set_option format.width 520
namespace K52
open PySem L2 TM WK
open P15 (Lb Fm Tm dats Z1B okF Ok maxD sumS flatR Bld)
open PW (Vl Wd Hs Pg Sc Wt Ws IxAt Look Chain Z2R Flds Z2Z putS Z1f getS Z1A Two Step Z2T Z1k leaf)
seal L2.PE L2.PA L2.PT L2.PS L2.PSs L2.PG L2.PGs L2.PI L2.PW
inductive Z8L (K:W.Frag) (vs:List V) (H:Hp) (Q:VK):Prop
 | mk (v:V) (ps:List (Str×Str)) (a1:vs=[v]) (a2:RT K H v (Z3k ps)) (a3:ps.length≤100) (a4:∀ r H',Same H H'→RT K H' (.ref r) (Z3k ps)→Q (.ref r) H'):Z8L K vs H Q
def Z6f (K:W.Frag):Sp:=fun vs H Q _=>Z8L K vs H Q
inductive Z8Y (c:CS) (K:W.Frag) (vs:List V) (H:Hp) (Q:VK):Prop
 | mk (x dx:Addr) (pp bv:V) (d:Wd) (a1:vs=[.ref x,.str d.name,pp,.str d.kind,bv]) (a2:H x=some (.ins c.word dx [])) (a3:RT K H pp (Z3k d.params)) (a4:d.params.length≤100) (a5:TO K c.term H bv d.body) (a6:∀ H',SX x H H'→WdO K c H' (.ref x) d→Q .non H'):Z8Y c K vs H Q
def Z8n (c:CS) (K:W.Frag):Sp:=fun vs H Q _=>Z8Y c K vs H Q
inductive Z8w (c:CS) (K:W.Frag) (vs:List V) (H:Hp) (Q:VK):Prop
 | mk (x dx wl:Addr) (fv:V) (ws:List V) (d:Hs) (a1:vs=[.ref x,.str d.name,oS d.elder,fv,.ref wl]) (a2:H x=some (.ins c.house dx [])) (a3:RT K H fv (Z3k d.fields)) (a4:d.fields.length≤100) (a5:SqL K H wl ws) (a6:A2 (WdO K c H) ws d.words) (a7:∀ H',SX x H H'→HsO K c H' (.ref x) d→Q .non H'):Z8w c K vs H Q
def Z8U (c:CS) (K:W.Frag):Sp:=fun vs H Q _=>Z8w c K vs H Q
inductive Z9c (c:CS) (K:W.Frag) (vs:List V) (H:Hp) (Q:VK):Prop
 | mk (x dx hl:Addr) (mv:V) (hs:List V) (d:Pg) (a1:vs=[.ref x,.ref hl,mv]) (a2:H x=some (.ins c.program dx [])) (a3:SqL K H hl hs) (a4:A2 (HsO K c H) hs d.houses) (a5:WdO K c H mv d.main) (a6:∀ H',SX x H H'→PgO K c H' (.ref x) d→Q .non H'):Z9c c K vs H Q
def Z7S (c:CS) (K:W.Frag):Sp:=fun vs H Q _=>Z9c c K vs H Q
theorem SX.ktf {x C dx:Addr} {fs:List (Str×V)} {H H':Hp} (s:SX x H H') (hx:H x=some (.ins C dx fs)):Kt H H':=
 ⟨fun b xs h=>s b _ (fun z=>by rw [z,hx] at h; cases h) h,fun b o xs h=>s b _ (fun z=>by rw [z,hx] at h; cases h) h⟩
theorem WdO.kp {K:W.Frag} {c:CS} {H H':Hp} {v:V} {d:Wd} (h:WdO K c H v d) (k:Kp H H'):WdO K c H' v d:=by
 cases h with
 | mk a b t=>exact .mk (k.i _ _ _ _ _ a) (b.kp k) (t.kp k)
theorem HsO.kp {K:W.Frag} {c:CS} {H H':Hp} {v:V} {d:Hs} (h:HsO K c H v d) (k:Kp H H'):HsO K c H' v d:=by
 cases h with
 | mk a b q t=>exact .mk (k.i _ _ _ _ _ a) (b.kp k) (SqT.kp q k) (t.mono fun _ _ r=>WdO.kp r k)
theorem Z7x {α:Type} {K:W.Frag} {H:Hp} (f:α→PyData):∀ {ts:List α} {vs:List V},vs.length=ts.length→(∀ (j:Nat) v,vs[j]?=some v→∃ t,ts[j]?=some t∧RT K H v (f t))→RTs K H vs (ts.map f)
 | [],[],_,_=>.nil
 | t::ts,v::vs,e,h=>by
  obtain ⟨t',a,b⟩:=h 0 v rfl
  cases a
  exact .cons b (Z7x f (Nat.succ.inj e) fun j u hu=>h (j+1) u hu)
section
variable {C_Maker Cl Cs Cq Ck Ct Cw Ch Cp:Addr} {P:Program} {w:World} {K:W.Frag} {mg:Str→Option Value} {base:Heap} {B:Hp}
theorem J2E (T:Txt K mg Cl Ct Cw Ch Cp C_Maker Cs Cq Ck):Has P w K mg base 1 "pairs_of" ["pairs"] (Z6f K):=by
 refine Has.of T.f_pairs_of Z7p (fun _ _ _ _ _ _ us hl=>el1 us hl fun _=>rfl) (fun vs H Q E h=>?_) (fun f cdv A outer s H vs Q E hr h=>?_)
 ·obtain ⟨v,ps,rfl,_⟩:=h
  rfl
 obtain ⟨v,ps,rfl,hp,hl,q⟩:=h
 obtain ⟨pa,xs,rfl,hq,hx⟩:=hp.tup_inv
 have lx:xs.length=ps.length:=by rw [hx.length,List.length_map]
 refine ⟨_,(Z0g (Z0s (Z0L Z0A rfl T.z_tuple Z1E (Z0a (Z1u rfl (BlockOk.plain (N:=["pair"]) rfl (by decide +kernel) (by decide +kernel) (by decide +kernel)) (Z2f (pvF 0))
     (fun C fp s H=>(Z0n (i:=0) (show (["pair"]:List Str).Nodup by decide +kernel) rfl (Or.inl rfl)))
     (fun C fp s H=>(Z0L (r:=Z9P K) Z0A rfl T.z_tuple Z1E (Z0a (pvF 0) Z0d)))) Z0d)))),?_⟩
 walk_at "rd"
 refine ⟨⟨_,hq⟩,fun D hD=>?_⟩
 refine Z1t (ys:=xs) none [] (fun j v H=>∃ p,ps[j]?=some p∧RT K H v (.tuple [.str p.1,.str p.2])) (fun j v H1 H2 ⟨t,a,b⟩ s=>⟨t,a,b.kp (kpN s)⟩) rfl hD (by rw [sizeLine_eq]; omega) (fun H1 s=>SqT.same hq s) (fun i y hy H1 K' s k=>?_) (fun vs Hc Sc hv lv hR=>?_)
 ·walk_at "rd"
  obtain ⟨d,hd,hr'⟩:=hx.at hy
  rw [List.getElem?_map] at hd
  obtain ⟨p,hp',rfl⟩:=Option.map_eq_some_iff.mp hd
  obtain ⟨a,zs,rfl,hz,hzs⟩:=hr'.tup_inv
  exact ⟨a,rfl,zs,.inr ⟨SqT.same hz s,k _ _ (Same.refl _) ⟨p,hp',.tup (SqT.same hz s) (hzs.same s)⟩⟩⟩
 refine ⟨D,rfl,vs,.inl ⟨SqL.of hv,fun t5 h5=>?_⟩⟩
 have s5:=Z0v h5 (.tup vs)
 refine q _ _ (Sc.trans s5) (.tup (SqT.of Z0e) ?_)
 refine RTs.same ?_ s5
 exact Z7x (fun p=>.tuple [.str p.1,.str p.2]) (lv.trans lx) hR
theorem J2f (T:Txt K mg Cl Ct Cw Ch Cp C_Maker Cs Cq Ck) (h_pairs_of:Has P w K mg base 1 "pairs_of" ["pairs"] (Z6f K)):HasM P w K mg base 2 Cw "__init__" ["self","name","params","kind","body"] (Z8n (CS.mk Ct Cw Ch Cp Cl Cs Cq Ck B) K):=by
 refine HasM.of T.m_Word___init__ Z4C (fun _ _ _ _ _ _ us hl=>el5 us hl fun _ _ _ _ _=>rfl) (fun vs H Q E h=>?_) (fun f cdv A outer s H vs Q E hr h=>?_)
 ·obtain ⟨x,dx,pp,bv,d,rfl,_⟩:=h
  rfl
 obtain ⟨x,dx,pp,bv,d,rfl,hx,hp,hl,hb,q⟩:=h
 refine ⟨_,(Z0c (Z0x (pvF 0) (pvF 1) rfl)
  (Z0c (Z0x (pvF 0) (Z0G h_pairs_of hr (by decide) rfl (Z0a (pvF 2) Z0d)) rfl)
  (Z0c (Z0x (pvF 0) (pvF 3) rfl)
  (Z0g (Z0x (pvF 0) (pvF 4) rfl))))),?_⟩
 refine seq4 fun uz3 huz3 uz2 huz2 uz1 huz1=>?_
 walk_at "rd"
 refine ⟨Cw,dx,_,hx,T.Word.cl,T.n_Word_name,Nat.lt_of_sub_eq_succ rfl,?_⟩
 subst huz1
 walk_at "rd"
 have S1:SX x H (upd H x (.ins Cw dx (putF "name" (.str d.name) []))):=SX.put _
 have X1:upd H x (.ins Cw dx (putF "name" (.str d.name) [])) x=some (.ins Cw dx (putF "name" (.str d.name) [])):=Z0e
 generalize upd H x (.ins Cw dx (putF "name" (.str d.name) []))=H1 at *
 refine ⟨pp,d.params,rfl,hp.kp (S1.kp hx),hl,fun r H2 s2 hr2=>?_⟩
 have X2:=s2 _ _ X1
 refine ⟨Cw,dx,_,X2,T.Word.cl,T.n_Word_params,Nat.lt_of_sub_eq_succ rfl,?_⟩
 subst huz2
 walk_at "rd"
 refine ⟨Cw,dx,_,Z0e,T.Word.cl,T.n_Word_kind,Nat.lt_of_sub_eq_succ rfl,?_⟩
 subst huz3
 walk_at "rd"
 refine ⟨Cw,dx,_,Z0e,T.Word.cl,T.n_Word_body,Nat.lt_of_sub_eq_succ rfl,?_⟩
 have S3:SX x H2 _:=(SX.put (.ins Cw dx (putF "params" (.ref r) (putF "name" (.str d.name) [])))).trans ((SX.put (.ins Cw dx (putF "kind" (.str d.kind) (putF "params" (.ref r) (putF "name" (.str d.name) []))))).trans (SX.put (.ins Cw dx (putF "body" bv (putF "kind" (.str d.kind) (putF "params" (.ref r) (putF "name" (.str d.name) [])))))))
 have S4:=S1.trans ((SX.of s2).trans S3)
 exact q _ S4 (.mk (Z0e) (hr2.kt (SX.ktf S3 X2)) (hb.kp (S4.kp hx)))
theorem J2n (T:Txt K mg Cl Ct Cw Ch Cp C_Maker Cs Cq Ck) (h_pairs_of:Has P w K mg base 1 "pairs_of" ["pairs"] (Z6f K)):HasM P w K mg base 2 Ch "__init__" ["self","name","elder","own_fields","own_words"] (Z8U (CS.mk Ct Cw Ch Cp Cl Cs Cq Ck B) K):=by
 refine HasM.of T.m_House___init__ Z4r (fun _ _ _ _ _ _ us hl=>el5 us hl fun _ _ _ _ _=>rfl) (fun vs H Q E h=>?_) (fun f cdv A outer s H vs Q E hr h=>?_)
 ·obtain ⟨x,dx,wl,fv,ws,d,rfl,_⟩:=h
  rfl
 obtain ⟨x,dx,wl,fv,ws,d,rfl,hx,hp,hl,hw,hb,q⟩:=h
 refine ⟨_,(Z0c (Z0x (pvF 0) (pvF 1) rfl)
  (Z0c (Z0x (pvF 0) (pvF 2) rfl)
  (Z0c (Z0x (pvF 0) (Z0G h_pairs_of hr (by decide) rfl (Z0a (pvF 3) Z0d)) rfl)
  (Z0g (Z0x (pvF 0) (Z0L Z0A rfl T.z_tuple Z1E (Z0a (pvF 4) Z0d)) rfl))))),?_⟩
 refine seq4 fun uz3 huz3 uz2 huz2 uz1 huz1=>?_
 walk_at "rd"
 refine ⟨Ch,dx,_,hx,T.House.cl,T.n_House_name,Nat.lt_of_sub_eq_succ rfl,?_⟩
 subst huz1
 walk_at "rd"
 refine ⟨Ch,dx,_,Z0e,T.House.cl,T.n_House_elder,Nat.lt_of_sub_eq_succ rfl,?_⟩
 subst huz2
 walk_at "rd"
 have S1:SX x H (upd (upd H x (.ins Ch dx (putF "name" (.str d.name) []))) x (.ins Ch dx (putF "elder" (oS d.elder) (putF "name" (.str d.name) [])))):=(SX.put _).trans (SX.put _)
 have X1:upd (upd H x (.ins Ch dx (putF "name" (.str d.name) []))) x (.ins Ch dx (putF "elder" (oS d.elder) (putF "name" (.str d.name) []))) x=some (.ins Ch dx (putF "elder" (oS d.elder) (putF "name" (.str d.name) []))):=Z0e
 generalize upd (upd H x (.ins Ch dx (putF "name" (.str d.name) []))) x (.ins Ch dx (putF "elder" (oS d.elder) (putF "name" (.str d.name) [])))=H1 at *
 refine ⟨fv,d.fields,rfl,hp.kp (S1.kp hx),hl,fun r H2 s2 hr2=>?_⟩
 have X2:=s2 _ _ X1
 refine ⟨Ch,dx,_,X2,T.House.cl,T.n_House_own_fields,Nat.lt_of_sub_eq_succ rfl,?_⟩
 subst huz3
 walk_at "rd"
 have S3:SX x H2 (upd H2 x (.ins Ch dx (putF "own_fields" (.ref r) (putF "elder" (oS d.elder) (putF "name" (.str d.name) []))))):=SX.put _
 have X3:upd H2 x (.ins Ch dx (putF "own_fields" (.ref r) (putF "elder" (oS d.elder) (putF "name" (.str d.name) [])))) x=some (.ins Ch dx (putF "own_fields" (.ref r) (putF "elder" (oS d.elder) (putF "name" (.str d.name) [])))):=Z0e
 generalize upd H2 x (.ins Ch dx (putF "own_fields" (.ref r) (putF "elder" (oS d.elder) (putF "name" (.str d.name) []))))=H3 at *
 have S03:=S1.trans ((SX.of s2).trans S3)
 refine ⟨ws,.inl ⟨S03.sqL hx hw,fun wt hwt=>?_⟩⟩
 have s4:=Z0v hwt (.tup ws)
 have X4:=s4 _ _ X3
 have nx:wt≠x:=fun z=>Z0i X3 hwt z.symm
 refine ⟨Ch,dx,_,X4,T.House.cl,T.n_House_own_words,Nat.lt_of_sub_eq_succ rfl,?_⟩
 have S4:=(SX.of (x:=x) s4).trans (SX.put (.ins Ch dx (putF "own_words" (.ref wt) (putF "own_fields" (.ref r) (putF "elder" (oS d.elder) (putF "name" (.str d.name) []))))))
 have S5:=S03.trans S4
 refine q _ S5 (.mk Z0e (hr2.kt (SX.ktf (S3.trans S4) X2)) (SqT.of (by rw [Z0j nx]; exact Z0e)) (hb.mono fun _ _ r=>WdO.kp r (S5.kp hx)))
theorem J2G (T:Txt K mg Cl Ct Cw Ch Cp C_Maker Cs Cq Ck):HasM P w K mg base 1 Cp "__init__" ["self","all_houses","main"] (Z7S (CS.mk Ct Cw Ch Cp Cl Cs Cq Ck B) K):=by
 refine HasM.of T.m_Program___init__ Z3K (fun _ _ _ _ _ _ us hl=>el3 us hl fun _ _ _=>rfl) (fun vs H Q E h=>?_) (fun f cdv A outer s H vs Q E hr h=>?_)
 ·obtain ⟨x,dx,hl,mv,hs,d,rfl,_⟩:=h
  rfl
 obtain ⟨x,dx,hl,mv,hs,d,rfl,hx,hw,hb,hm,q⟩:=h
 refine ⟨_,(Z0c (Z0x (pvF 0) (Z0L Z0A rfl T.z_tuple Z1E (Z0a (pvF 1) Z0d)) rfl)
  (Z0g (Z0x (pvF 0) (pvF 2) rfl))),?_⟩
 refine seq2 fun uz1 huz1=>?_
 walk_at "rd"
 refine ⟨hs,.inl ⟨hw,fun wt hwt=>?_⟩⟩
 have s1:=Z0v hwt (.tup hs)
 have nx:wt≠x:=fun z=>Z0i hx hwt z.symm
 refine ⟨Cp,dx,_,s1 _ _ hx,T.Program.cl,T.n_Program_all_houses,Nat.lt_of_sub_eq_succ rfl,?_⟩
 subst huz1
 walk_at "rd"
 refine ⟨Cp,dx,_,Z0e,T.Program.cl,T.n_Program_main,Nat.lt_of_sub_eq_succ rfl,?_⟩
 have S4:=(SX.of (x:=x) s1).trans ((SX.put (.ins Cp dx (putF "all_houses" (.ref wt) []))).trans (SX.put (.ins Cp dx (putF "main" mv (putF "all_houses" (.ref wt) [])))))
 exact q _ S4 (.mk Z0e (SqT.of (by rw [Z0j nx,Z0j nx]; exact Z0e)) (hb.mono fun _ _ r=>HsO.kp r (S4.kp hx)) (WdO.kp hm (S4.kp hx)))
end
end K52
end
section
set_option format.width 520
namespace K52
open PySem L2 TM WK
open P15 (Lb Fm Tm dats Z1B okF Ok maxD sumS flatR Bld)
open PW (Vl Wd Hs Pg Sc Wt Ws IxAt Look Chain Z2R Flds Z2Z putS Z1f getS Z1A Two Step Z2T Z1k leaf)
seal L2.PE L2.PA L2.PT L2.PS L2.PSs L2.PG L2.PGs L2.PI L2.PW
inductive J1Y (c:CS) (K:W.Frag) (vs:List V) (H:Hp) (Q:VK):Prop
 | mk (v:V) (d:Wd) (a1:vs=[v]) (a2:RT K H v (Z5s d)) (a3:WdOk d) (a4:∀ u H',Same H H'→WdO K c H' u d→Q u H'):J1Y c K vs H Q
def Z7q (c:CS) (K:W.Frag):Sp:=fun vs H Q _=>J1Y c K vs H Q
inductive Z8q (c:CS) (K:W.Frag) (vs:List V) (H:Hp) (Q:VK):Prop
 | mk (v:V) (d:Hs) (a1:vs=[v]) (a2:RT K H v (Z5y d)) (a3:HsOk d) (a4:∀ u H',Same H H'→HsO K c H' u d→Q u H'):Z8q c K vs H Q
def Z8A (c:CS) (K:W.Frag):Sp:=fun vs H Q _=>Z8q c K vs H Q
inductive Z5n (c:CS) (K:W.Frag) (vs:List V) (H:Hp) (Q:VK):Prop
 | mk (v:V) (d:Pg) (a1:vs=[v]) (a2:RT K H v (J6q d)) (a3:(∀ h∈d.houses,HsOk h)) (a4:d.houses.length≤100) (a5:WdOk d.main) (a6:d.main.name="main") (a7:∀ u H',Same H H'→PgO K c H' u d→Q u H'):Z5n c K vs H Q
def Z9K (c:CS) (K:W.Frag):Sp:=fun vs H Q _=>Z5n c K vs H Q
theorem Z1p {H:Hp} {x dx C:Addr} (hx:H x=none) (hdx:H dx=none) (ne:dx≠x):Same H (upd (upd H dx (.own x)) x (.ins C dx [])):=
 (Z0v hdx _).trans (Z0v (by rw [Z0j (fun z=>ne z.symm)]; exact hx) _)
theorem J8D {K:W.Frag} {H:Hp} {v:V} {o:Option Str} (h:RT K H v (oD o)):v=oS o:=by
 cases o with
 | none=>cases h; rfl
 | some s=>cases h; rfl
theorem J3M {α:Type} {Rr:V→α→Prop} {vs:List V} {ts:List α} (l:vs.length=ts.length) (h:∀ (j:Nat) v,vs[j]?=some v→∃ t,ts[j]?=some t∧Rr v t):A2 Rr vs ts:=A2.of l h
section
variable {C_Maker Cl Cs Cq Ck Ct Cw Ch Cp:Addr} {P:Program} {w:World} {K:W.Frag} {mg:Str→Option Value} {base:Heap} {B:Hp}
theorem J4N (T:Txt K mg Cl Ct Cw Ch Cp C_Maker Cs Cq Ck) (h_term_of:Has P w K mg base 4 "term_of" ["plain"] (Z6O Ct K)) (h_Word___init__:HasM P w K mg base 2 Cw "__init__" ["self","name","params","kind","body"] (Z8n (CS.mk Ct Cw Ch Cp Cl Cs Cq Ck B) K)):Has P w K mg base 5 "word_of" ["plain"] (Z7q (CS.mk Ct Cw Ch Cp Cl Cs Cq Ck B) K):=by
 refine Has.of T.f_word_of sc_word_of (fun _ _ _ _ _ _ us hl=>el1 us hl fun _=>rfl) (fun vs H Q E h=>?_) (fun f cdv A outer s H vs Q E hr h=>?_)
 ·obtain ⟨v,d,rfl,_⟩:=h
  rfl
 obtain ⟨v,d,rfl,hv,hd,q⟩:=h
 obtain ⟨a,xs,rfl,hq,hx⟩:=hv.tup_inv
 obtain ⟨v1,r1,rfl,h1,hx⟩:=hx.inv
 obtain ⟨v2,r2,rfl,h2,hx⟩:=hx.inv
 obtain ⟨v3,r3,rfl,h3,hx⟩:=hx.inv
 obtain ⟨v4,r4,rfl,h4,hx⟩:=hx.inv
 cases hx.nil_inv
 cases h1.str_inv
 cases h3.str_inv
 refine ⟨_,(Z0c (Z7j (pvF 0) (Z2I (n:=4) rfl (Z0t (Z0n (i:=1) sc_word_of.nd rfl (Or.inl rfl)) (Z0t (Z0n (i:=2) sc_word_of.nd rfl (Or.inl rfl)) (Z0t (Z0n (i:=3) sc_word_of.nd rfl (Or.inl rfl)) (Z0t (Z0n (i:=4) sc_word_of.nd rfl (Or.inl rfl)) Z2D))))))
  (Z0g (Z0s (Z3t T.Word h_Word___init__ hr (by decide) rfl (Z0a (pvF 1) (Z0a (pvF 2) (Z0a (pvF 3) (Z0a (Z0G h_term_of hr (by decide) rfl (Z0a (pvF 4) Z0d)) Z0d)))))))),?_⟩
 walk_at "rd"
 refine ⟨_,hq,rfl,⟨_,_,rfl,⟨_,_,rfl,⟨_,_,rfl,⟨_,_,rfl,?_⟩⟩⟩⟩⟩
 walk_at "rd"
 refine ⟨v4,d.body,rfl,h4,hd.ok,hd.fl,fun u H1 s1 hto x dx hx hdx ne=>?_⟩
 have s2:=Z1p (C:=Cw) hx hdx ne
 refine ⟨x,dx,v2,u,d,rfl,Z0e,h2.same (s1.trans s2),hd.pl,hto.kp (Kp.of s2),fun H3 sx hw=>⟨rfl,q _ _ (Z1X (s1.trans s2) sx ?_) hw⟩⟩
 cases e:H x with
 | none=>rfl
 | some o=>rw [s1 _ _ e] at hx; cases hx
theorem J3b (T:Txt K mg Cl Ct Cw Ch Cp C_Maker Cs Cq Ck) (h_word_of:Has P w K mg base 5 "word_of" ["plain"] (Z7q (CS.mk Ct Cw Ch Cp Cl Cs Cq Ck B) K)) (h_House___init__:HasM P w K mg base 2 Ch "__init__" ["self","name","elder","own_fields","own_words"] (Z8U (CS.mk Ct Cw Ch Cp Cl Cs Cq Ck B) K)):Has P w K mg base 6 "house_of" ["plain"] (Z8A (CS.mk Ct Cw Ch Cp Cl Cs Cq Ck B) K):=by
 refine Has.of T.f_house_of sc_house_of (fun _ _ _ _ _ _ us hl=>el1 us hl fun _=>rfl) (fun vs H Q E h=>?_) (fun f cdv A outer s H vs Q E hr h=>?_)
 ·obtain ⟨v,d,rfl,_⟩:=h
  rfl
 obtain ⟨v,d,rfl,hv,hd,q⟩:=h
 obtain ⟨a,xs,rfl,hq,hx⟩:=hv.tup_inv
 obtain ⟨v1,r1,rfl,h1,hx⟩:=hx.inv
 obtain ⟨v2,r2,rfl,h2,hx⟩:=hx.inv
 obtain ⟨v3,r3,rfl,h3,hx⟩:=hx.inv
 obtain ⟨v4,r4,rfl,h4,hx⟩:=hx.inv
 cases hx.nil_inv
 cases h1.str_inv
 cases J8D h2
 obtain ⟨wa,us,rfl,hw,hu⟩:=h4.tup_inv
 have lu:us.length=d.words.length:=by rw [hu.length,List.length_map]
 have lw:=hd.wl
 refine ⟨_,(Z0c (Z7j (pvF 0) (Z2I (n:=4) rfl (Z0t (Z0n (i:=1) sc_house_of.nd rfl (Or.inl rfl)) (Z0t (Z0n (i:=2) sc_house_of.nd rfl (Or.inl rfl)) (Z0t (Z0n (i:=3) sc_house_of.nd rfl (Or.inl rfl)) (Z0t (Z0n (i:=4) sc_house_of.nd rfl (Or.inl rfl)) Z2D))))))
  (Z0g (Z0s (Z3t T.House h_House___init__ hr (by decide) rfl (Z0a (pvF 1) (Z0a (pvF 2) (Z0a (pvF 3) (Z0a (Z1u rfl (BlockOk.plain (N:=["word"]) rfl (by decide +kernel) (by decide +kernel) (by decide +kernel)) (Z2f (pvF 4))
     (fun C fp s H=>(Z0n (i:=0) (show (["word"]:List Str).Nodup by decide +kernel) rfl (Or.inl rfl)))
     (fun C fp s H=>(Z0G h_word_of hr (by decide) rfl (Z0a (pvF 0) Z0d)))) Z0d)))))))),?_⟩
 walk_at "rd"
 refine ⟨_,hq,rfl,⟨_,_,rfl,⟨_,_,rfl,⟨_,_,rfl,⟨_,_,rfl,?_⟩⟩⟩⟩⟩
 walk_at "rd"
 refine ⟨⟨_,hw⟩,fun D hD=>?_⟩
 refine Z1t (ys:=us) none [] (fun j v H=>∃ t,d.words[j]?=some t∧WdO K (CS.mk Ct Cw Ch Cp Cl Cs Cq Ck B) H v t) (fun j v H1 H2 ⟨t,a,b⟩ s=>⟨t,a,WdO.kp b (kpN s)⟩) rfl hD (by rw [sizeLine_eq]; omega) (fun H1 s=>SqT.same hw s) (fun i y hy H1 K' s k=>?_) (fun vs Hc Sc hv lv hR=>?_)
 ·walk_at "rd"
  obtain ⟨t,ht,hr'⟩:=hu.at hy
  rw [List.getElem?_map] at ht
  obtain ⟨t,ht2,rfl⟩:=Option.map_eq_some_iff.mp ht
  exact ⟨y,t,rfl,hr'.same s,hd.wd t (List.mem_of_getElem? ht2),fun u H2 s2 hw2=>k _ _ s2 ⟨t,ht2,hw2⟩⟩
 have hws:=J3M (lv.trans lu) hR
 intro x dx hx hdx ne
 have s2:=Z1p (C:=Ch) hx hdx ne
 refine ⟨x,dx,D,v3,vs,d,rfl,Z0e,h3.same (Sc.trans s2),hd.fl,SqL.of (s2 _ _ hv),hws.mono fun _ _ r=>r.same s2,fun H3 sx hw=>⟨rfl,q _ _ (Z1X (Sc.trans s2) sx ?_) hw⟩⟩
 cases e:H x with
 | none=>rfl
 | some o=>rw [Sc _ _ e] at hx; cases hx
theorem Z9i (T:Txt K mg Cl Ct Cw Ch Cp C_Maker Cs Cq Ck) (h_word_of:Has P w K mg base 5 "word_of" ["plain"] (Z7q (CS.mk Ct Cw Ch Cp Cl Cs Cq Ck B) K)) (h_house_of:Has P w K mg base 6 "house_of" ["plain"] (Z8A (CS.mk Ct Cw Ch Cp Cl Cs Cq Ck B) K)) (h_Program___init__:HasM P w K mg base 1 Cp "__init__" ["self","all_houses","main"] (Z7S (CS.mk Ct Cw Ch Cp Cl Cs Cq Ck B) K)):Has P w K mg base 7 "program_of" ["plain"] (Z9K (CS.mk Ct Cw Ch Cp Cl Cs Cq Ck B) K):=by
 refine Has.of T.f_program_of sc_program_of (fun _ _ _ _ _ _ us hl=>el1 us hl fun _=>rfl) (fun vs H Q E h=>?_) (fun f cdv A outer s H vs Q E hr h=>?_)
 ·obtain ⟨v,d,rfl,_⟩:=h
  rfl
 obtain ⟨v,d,rfl,hv,hhs,hlen,hmn,hnm,q⟩:=h
 obtain ⟨a,xs,rfl,hq,hx⟩:=hv.tup_inv
 obtain ⟨v1,r1,rfl,h1,hx⟩:=hx.inv
 obtain ⟨v2,r2,rfl,h2,hx⟩:=hx.inv
 cases hx.nil_inv
 obtain ⟨b,ys,rfl,hqb,hy⟩:=h2.tup_inv
 obtain ⟨u1,r1,rfl,g1,hy⟩:=hy.inv
 obtain ⟨u2,r2,rfl,g2,hy⟩:=hy.inv
 obtain ⟨u3,r3,rfl,g3,hy⟩:=hy.inv
 cases hy.nil_inv
 cases g2.str_inv
 obtain ⟨ha,us,rfl,hw,hu⟩:=h1.tup_inv
 have lu:us.length=d.houses.length:=by rw [hu.length,List.length_map]
 refine ⟨_,(Z0c (Z7j (pvF 0) (Z2I (n:=2) rfl (Z0t (Z0n (i:=1) sc_program_of.nd rfl (Or.inl rfl)) (Z0t (Z0n (i:=2) sc_program_of.nd rfl (Or.inl rfl)) Z2D))))
  (Z0c (Z7j (pvF 2) (Z2I (n:=3) rfl (Z0t (Z0n (i:=3) sc_program_of.nd rfl (Or.inl rfl)) (Z0t (Z0n (i:=4) sc_program_of.nd rfl (Or.inl rfl)) (Z0t (Z0n (i:=5) sc_program_of.nd rfl (Or.inl rfl)) Z2D)))))
  (Z0g (Z0s (Z3t T.Program h_Program___init__ hr (by decide) rfl (Z0a (Z1u rfl (BlockOk.plain (N:=["house"]) rfl (by decide +kernel) (by decide +kernel) (by decide +kernel)) (Z2f (pvF 1))
     (fun C fp s H=>(Z0n (i:=0) (show (["house"]:List Str).Nodup by decide +kernel) rfl (Or.inl rfl)))
     (fun C fp s H=>(Z0G h_house_of hr (by decide) rfl (Z0a (pvF 0) Z0d)))) (Z0a (Z0G h_word_of hr (by decide) rfl (Z0a (Z0y (Z0a Z0o (Z0a (pvF 3) (Z0a (pvF 4) (Z0a (pvF 5) Z0d))))) Z0d)) Z0d))))))),?_⟩
 walk_at "rd"
 refine ⟨_,hq,rfl,⟨_,_,rfl,⟨_,_,rfl,?_⟩⟩⟩
 walk_at "rd"
 refine ⟨_,hqb,rfl,⟨_,_,rfl,⟨_,_,rfl,⟨_,_,rfl,?_⟩⟩⟩⟩
 walk_at "rd"
 refine ⟨⟨_,hw⟩,fun D hD=>?_⟩
 refine Z1t (ys:=us) none [] (fun j v H=>∃ t,d.houses[j]?=some t∧HsO K (CS.mk Ct Cw Ch Cp Cl Cs Cq Ck B) H v t) (fun j v H1 H2 ⟨t,a,b⟩ s=>⟨t,a,HsO.kp b (kpN s)⟩) rfl hD (by rw [sizeLine_eq]; omega) (fun H1 s=>SqT.same hw s) (fun i y hy H1 K' s k=>?_) (fun vs Hc Sc hv lv hR=>?_)
 ·walk_at "rd"
  obtain ⟨t,ht,hr'⟩:=hu.at hy
  rw [List.getElem?_map] at ht
  obtain ⟨t,ht2,rfl⟩:=Option.map_eq_some_iff.mp ht
  exact ⟨y,t,rfl,hr'.same s,hhs t (List.mem_of_getElem? ht2),fun u H2 s2 hw2=>k _ _ s2 ⟨t,ht2,hw2⟩⟩
 have hws:=J3M (lv.trans lu) hR
 refine New.of fun p1 H1 h1 s1 e1=>?_
 have wd:RT K H1 (.ref p1) (Z5s d.main):=by
  refine .tup (SqT.of e1) (.cons ?_ (.cons (g1.same (Sc.trans s1)) (.cons (.str _) (.cons (g3.same (Sc.trans s1)) .nil))))
  rw [hnm]; exact .str _
 refine ⟨.ref p1,d.main,rfl,wd,hmn,fun u H2 s2 hm x dx hx hdx ne=>?_⟩
 have s3:=Z1p (C:=Cp) hx hdx ne
 have s4:=s1.trans (s2.trans s3)
 refine ⟨x,dx,D,u,vs,d,rfl,Z0e,SqL.of (s4 _ _ hv),hws.mono fun _ _ r=>r.same s4,hm.same s3,fun H3 sx hw=>⟨rfl,q _ _ (Z1X (Sc.trans s4) sx ?_) hw⟩⟩
 cases e:H x with
 | none=>rfl
 | some o=>rw [s2 _ _ (s1 _ _ (Sc _ _ e))] at hx; cases hx
end
end K52
end
section
set_option format.width 520
namespace K52
open PySem L2 TM WK
open P15 (Lb Fm Tm dats Z1B okF Ok maxD sumS flatR Bld)
open PW (Vl Wd Hs Pg Sc Wt Ws IxAt Look Chain Z2R Flds Z2Z putS Z1f getS Z1A Two Step Z2T Z1k leaf)
seal L2.PE L2.PA L2.PT L2.PS L2.PSs L2.PG L2.PGs L2.PI L2.PW
def InO (c:CS) (H:Hp) (x:Addr) (G:Pg):Prop:=∃ dx io d,H x=some (.ins c.hall dx [("in_order",.ref io),("by_name",.ref d)])∧H io=some (.tup (G.houses.map fun h=>V.str h.name))
inductive Z8B (c:CS) (K:W.Frag) (vs:List V) (H:Hp) (Q:VK):Prop
 | mk (x dx:Addr) (pp:V) (G:Pg) (a1:vs=[.ref x,pp]) (a2:H x=some (.ins c.hall dx [])) (a3:PgO K c H pp G) (a4:GOk G) (a5:G.houses.length≤100) (a6:∀ H',SX x H H'→HlO K c H' (.ref x) G→InO c H' x G→Q .non H'):Z8B c K vs H Q
def Z3T (c:CS) (K:W.Frag):Sp:=fun vs H Q _=>Z8B c K vs H Q
inductive Z6F (c:CS) (K:W.Frag) (vs:List V) (H:Hp) (Q:VK):Prop
 | mk (a:Addr) (h:Str) (G:Pg) (es:List Str) (a1:vs=[.ref a,.str h]) (a2:HlO K c H (.ref a) G) (a3:Chain G h es) (a4:es.length≤100) (a5:∀ l H',H l=none→Same H H'→H' l=some (.lst (es.map V.str))→Q (.ref l) H'):Z6F c K vs H Q
def Z6J (c:CS) (K:W.Frag):Sp:=fun vs H Q _=>Z6F c K vs H Q
theorem J4O {kvs:List (Key×V)} {k:Key} (h:k∉kvs.map (·.1)):valV kvs k=none:=by
 induction kvs with
 | nil=>rfl
 | cons p r ih=>
  rw [List.map_cons,List.mem_cons,not_or] at h
  rw [Z3z (fun z=>h.1 z.symm)]
  exact ih h.2
noncomputable def kvOf:List V→List Hs→List (Key×V)
 | v::vs,h::hs=>(.inr h.name,v)::kvOf vs hs
 | _,_=>[]
theorem Z7y:∀ {vs:List V} {hs:List Hs} {i:Nat} {v:V} {h:Hs},vs[i]?=some v→hs[i]?=some h→(kvOf vs hs).take (i+1)=(kvOf vs hs).take i++[(.inr h.name,v)]
 | _::vs,_::hs,0,v,h,a,b=>by cases a; cases b; rfl
 | _::vs,_::hs,i+1,v,h,a,b=>by
  have:=Z7y (vs:=vs) (hs:=hs) (i:=i) a b
  show _::List.take (i+1) (kvOf vs hs)=_::(List.take i (kvOf vs hs)++_)
  rw [this]
theorem Z4j:∀ {vs:List V} {hs:List Hs},vs.length=hs.length→(kvOf vs hs).map (·.1)=hs.map fun h=>.inr h.name
 | [],[],_=>rfl
 | _::vs,_::hs,e=>by
  show _::List.map _ (kvOf vs hs)=_
  rw [Z4j (Nat.succ.inj e)]; rfl
theorem J1R {R:V→Hs→Prop}:∀ {vs:List V} {hs:List Hs},A2 R vs hs→A2 (fun kv h=>kv.1=.inr h.name∧R kv.2 h) (kvOf vs hs) hs
 | _,_,.nil=>.nil
 | _,_,.cons r t=>.cons ⟨rfl,r⟩ (J1R t)
theorem Z8z {vs:List V} {hs:List Hs} {i:Nat} {h:Hs} (l:vs.length=hs.length) (n:(hs.map Hs.name).Nodup) (e:hs[i]?=some h):valV ((kvOf vs hs).take i) (.inr h.name)=none:=by
 refine J4O fun z=>?_
 rw [List.map_take,Z4j l] at z
 have e2:(hs.map Hs.name)[i]?=some h.name:=by rw [List.getElem?_map,e]; rfl
 have z2:h.name∈(hs.map Hs.name).take i:=by
  rw [← List.map_take] at z ⊢
  obtain ⟨g,hg,eg⟩:=List.mem_map.mp z
  exact List.mem_map.mpr ⟨g,hg,Sum.inr.inj eg⟩
 generalize hs.map Hs.name=ns at *
 obtain ⟨j,hj⟩:=List.mem_iff_getElem?.mp z2
 rw [List.getElem?_take] at hj
 split at hj
 ·rename_i lt
  have h1:=(List.getElem?_eq_some_iff.mp hj).1
  have h2:=(List.getElem?_eq_some_iff.mp e2).1
  have:=(List.getElem?_inj h1 n).mp (hj.trans e2.symm)
  omega
 ·cases hj
theorem Z2W {K:W.Frag} {c:CS} {H:Hp} {a:Addr} {G:Pg} (h:HlO K c H (.ref a) G):∃ dx io d kvs,H a=some (.ins c.hall dx [("in_order",.ref io),("by_name",.ref d)])∧H d=some (.dK kvs)∧GOk G∧∀ x X,Look G x X→∃ b bx ft wt ws,DGet H d (.str x) (some (.ref b))∧H b=some (.ins c.house bx [("name",.str X.name),("elder",oS X.elder),("own_fields",.ref ft),("own_words",.ref wt)])∧RT K H (.ref ft) (Z3k X.fields)∧SqT K H wt ws∧A2 (WdO K c H) ws X.words∧HsOk X:=by
 cases h with
 | mk e1 e2 r ok=>
  refine ⟨_,_,_,_,e1,e2,ok,fun x X lk=>?_⟩
  obtain ⟨v,hv,ho⟩:=J2L r ok.nd lk.1
  cases ho with
  | mk f1 f2 f3 f4=>
   refine ⟨_,_,_,_,_,?_,f1,f2,f3,f4,ok.hs _ lk.1⟩
   rw [← hv,lk.2]
   exact DGet.k (k:=.inr x) e2
theorem Chain.at {G:Pg} {h:Str} {es:List Str} (c:Chain G h es):∀ (i:Nat) (x:Str),(h::es)[i]?=some x→∃ X,Look G x X∧X.elder=es[i]?:=by
 induction c with
 | top l e=>
  intro i x hx
  cases i with
  | zero=>cases hx; exact ⟨_,l,e⟩
  | succ i=>cases hx
 | up l e _ ih=>
  intro i x hx
  cases i with
  | zero=>cases hx; exact ⟨_,l,e⟩
  | succ i=>exact ih i x hx
theorem Z2Q {H:Hp} {x d:Addr} {o:HO} (h:H x=some o) (n:H d=none):d≠x:=fun z=>Z0i h n z.symm
section
variable {C_Maker Cl Cs Cq Ck Ct Cw Ch Cp:Addr} {P:Program} {w:World} {K:W.Frag} {mg:Str→Option Value} {base:Heap} {B:Hp}
noncomputable def LI (K:W.Frag) (H2:Hp) (x d:Addr) (pp:V) (hs:List V) (houses:List Hs) (i:Nat) (σ:St) (H':Hp):Prop:=∃ o2,SX d H2 H'∧H' d=some (.dK ((kvOf hs houses).take i))∧σ=[some (.ref x),some pp,o2]
theorem J2S (T:Txt K mg Cl Ct Cw Ch Cp C_Maker Cs Cq Ck):HasM P w K mg base 1 Cl "__init__" ["self","program"] (Z3T (CS.mk Ct Cw Ch Cp Cl Cs Cq Ck B) K):=by
 refine HasM.of T.m_Hall___init__ sc_Hall___init__ (fun _ _ _ _ _ _ us hl=>el2 us hl fun _ _=>rfl) (fun vs H Q E h=>?_) (fun f cdv A outer s H vs Q E hr h=>?_)
 ·obtain ⟨x,dx,pp,G,rfl,_⟩:=h
  rfl
 obtain ⟨x,dx,pp,G,rfl,hx,hp,ok,hlen,q⟩:=h
 obtain ⟨hp0,pa,pdx,ht,hs,mv,rfl,ha,hq,hh⟩:PgO K (CS.mk Ct Cw Ch Cp Cl Cs Cq Ck B) H pp G∧∃ pa pdx ht hs mv,pp=.ref pa∧H pa=some (.ins Cp pdx [("all_houses",.ref ht),("main",mv)])∧SqT K H ht hs∧A2 (HsO K (CS.mk Ct Cw Ch Cp Cl Cs Cq Ck B) H) hs G.houses:=by
  refine ⟨hp,?_⟩
  cases hp with
  | mk a b c d=>exact ⟨_,_,_,_,_,rfl,a,b,c⟩
 have lh:hs.length=G.houses.length:=hh.len
 refine ⟨_,(Z0c (Z0x (pvF 0) (Z0L Z0A rfl T.z_tuple Z1E (Z0a (Z1u rfl (BlockOk.plain (N:=["house"]) rfl (by decide +kernel) (by decide +kernel) (by decide +kernel)) (Z2f (Z0k (pvF 1) rfl))
     (fun C fp s H=>(Z0n (i:=0) (show (["house"]:List Str).Nodup by decide +kernel) rfl (Or.inl rfl)))
     (fun C fp s H=>(show PE _ _ (Z9L K _ "name") from Z0k (pvF 0) rfl))) Z0d)) rfl)
  (Z0c (Z0x (pvF 0) Z8o rfl)
  (Z0g (Z2F PassesOwn.never rfl (Z2f (Z0k (pvF 1) rfl)) (Z0n (i:=2) sc_Hall___init__.nd rfl (Or.inl rfl)) (Z0g (J1f (Z9B hr) (Z0k (pvF 0) rfl) (Z0k (pvF 2) rfl) (pvF 2) rfl)))))),?_⟩
 refine seq3 fun uz2 huz2 uz1 huz1=>?_
 walk_at "rd"
 refine ⟨Cp,pdx,_,ha,T.Program.cl,T.n_Program_all_houses,.ref ht,rfl,ht,rfl,⟨_,hq⟩,fun D hD=>?_⟩
 refine Z1t (ys:=hs) none [] (fun j v H=>∃ t,G.houses[j]?=some t∧v=.str t.name) (fun _ _ _ _ h _=>h) rfl hD (by rw [sizeLine_eq]; omega) (fun H1 s=>SqT.same hq s) (fun i y hy H1 K' s k=>?_) (fun vs Hc Sc hv lv hR=>?_)
 ·walk_at "rd"
  obtain ⟨t,ht',ho⟩:=hh.at hy
  have ho:=ho.same s
  cases ho with
  | mk f1 f2 f3 f4=>exact ⟨_,rfl,Ch,_,_,f1,T.House.cl,T.n_House_name,_,rfl,k _ _ (Same.refl _) ⟨t,ht',rfl⟩⟩
 walk_at "rd"
 refine ⟨vs,.inl ⟨SqL.of hv,fun io hio=>?_⟩⟩
 have s1:=Sc.trans (Z0v hio (.tup vs))
 have eio:upd Hc io (.tup vs) io=some (.tup vs):=Z0e
 generalize upd Hc io (.tup vs)=H1 at *
 refine ⟨Cl,dx,_,s1 _ _ hx,T.Hall.cl,T.n_Hall_in_order,Nat.lt_of_sub_eq_succ rfl,?_⟩
 subst huz1
 walk_at "rd"
 have S1:SX x H (upd H1 x (.ins Cl dx (putF "in_order" (.ref io) []))):=(SX.of s1).trans (SX.put _)
 have X1:upd H1 x (.ins Cl dx (putF "in_order" (.ref io) [])) x=some (.ins Cl dx (putF "in_order" (.ref io) [])):=Z0e
 have nio:io≠x:=J3W eio (s1 _ _ hx) (fun z=>by cases z)
 have I2:upd H1 x (.ins Cl dx (putF "in_order" (.ref io) [])) io=some (.tup vs):=by rw [Z0j nio]; exact eio
 generalize upd H1 x (.ins Cl dx (putF "in_order" (.ref io) []))=H2 at *
 intro d hd
 have s2:=Z0v hd (.dK [])
 have nd:d≠x:=Z2Q X1 hd
 refine ⟨Cl,dx,_,s2 _ _ X1,T.Hall.cl,T.n_Hall_by_name,Nat.lt_of_sub_eq_succ rfl,?_⟩
 have S2:SX x H (upd (upd H2 d (.dK [])) x (.ins Cl dx (putF "by_name" (.ref d) (putF "in_order" (.ref io) [])))):=S1.trans ((SX.of s2).trans (SX.put _))
 have X2:upd (upd H2 d (.dK [])) x (.ins Cl dx (putF "by_name" (.ref d) (putF "in_order" (.ref io) []))) x=some (.ins Cl dx (putF "by_name" (.ref d) (putF "in_order" (.ref io) []))):=Z0e
 have D2:upd (upd H2 d (.dK [])) x (.ins Cl dx (putF "by_name" (.ref d) (putF "in_order" (.ref io) []))) d=some (.dK []):=by rw [Z0j nd]; exact Z0e
 have I3:upd (upd H2 d (.dK [])) x (.ins Cl dx (putF "by_name" (.ref d) (putF "in_order" (.ref io) []))) io=some (.tup vs):=by rw [Z0j nio]; exact s2 _ _ I2
 have ev:vs=G.houses.map fun h=>V.str h.name:=Z2O (lv.trans lh) hR
 have nH:H d=none:=by
  cases e:H d with
  | none=>rfl
  | some o=>rw [S1 _ _ nd e] at hd; cases hd
 generalize upd (upd H2 d (.dK [])) x (.ins Cl dx (putF "by_name" (.ref d) (putF "in_order" (.ref io) [])))=H3 at *
 have k3:=S2.kp hx
 have hh3:=hh.mono fun _ _ r=>HsO.kp r k3
 have ha3:=k3.i _ _ _ _ _ ha
 subst huz2
 walk_at "rd"
 refine ⟨Cp,pdx,_,ha3,T.Program.cl,T.n_Program_all_houses,.ref ht,rfl,ht,rfl,⟨_,SqT.kp hq k3⟩,?_⟩
 have kd:∀ {H':Hp},SX d H3 H'→Kp H3 H':=fun h=>⟨fun b xs e=>h b _ (fun z=>by rw [z,D2] at e; cases e) e,fun b o xs e=>h b _ (fun z=>by rw [z,D2] at e; cases e) e,fun b C dx f fs e=>h b _ (fun z=>by rw [z,D2] at e; cases e) e⟩
 refine Z3Q hs (LI K H3 x d (.ref pa) hs G.houses) ⟨none,fun _ _ _ h=>h,D2,rfl⟩ (fun i σ H' _ h=>?_) (fun i y σ H' hy h=>?_) (fun σ H' h=>?_)
 ·obtain ⟨o2,sx,_⟩:=h
  exact SqT.kp hq (k3.trans (kd sx))
 ·obtain ⟨o2,sx,hd',rfl⟩:=h
  obtain ⟨t,ht',ho⟩:=hh3.at hy
  have ho:=HsO.kp ho (kd sx)
  have hi:i < 100:=by have:=(List.getElem?_eq_some_iff.mp hy).1; omega
  cases ho with
  | mk f1 f2 f3 f4=>
   walk_at "rd"
   refine ⟨Cl,dx,_,sx _ _ nd.symm X2,T.Hall.cl,T.n_Hall_by_name,_,rfl,Ch,_,_,f1,T.House.cl,T.n_House_name,_,rfl,d,rfl,_,DPut.k (k:=.inr t.name) hd' ?_,_,(sx.trans (SX.put _)),?_,rfl⟩
   ·have:=List.length_take_le i (kvOf hs G.houses)
    rw [sizeLine_eq]; omega
   ·rw [Z0e,Z7y hy ht',Z7R _ (Z8z lh ok.nd ht')]
 ·obtain ⟨o2,sx,hd',rfl⟩:=h
  have lk:(kvOf hs G.houses).length=hs.length:=by
   have:=congrArg List.length (Z4j lh)
   rw [List.length_map,List.length_map] at this
   omega
  rw [List.take_of_length_le (by omega)] at hd'
  refine q _ (fun b o nb e=>?_) (.mk (sx _ _ nd.symm X2) hd' (J1R (hh3.mono fun _ _ r=>HsO.kp r (kd sx))) ok) ⟨_,_,_,sx _ _ nd.symm X2,by rw [← ev]; exact sx _ _ (J3W I3 D2 (fun z=>by cases z)) I3⟩
  exact sx _ _ (Z0i e nH) (S2 _ _ nb e)
noncomputable def EI (H:Hp) (a l:Addr) (h:Str) (es:List Str) (m:Nat) (σ:St) (H':Hp):Prop:=∃ i,m=es.length - i∧i≤es.length∧Same H H'∧H' l=some (.lst ((es.take i).map V.str))∧σ=[some (.ref a),some (.str h),some (.ref l),some (oS es[i]?)]
theorem J1k (T:Txt K mg Cl Ct Cw Ch Cp C_Maker Cs Cq Ck):HasM P w K mg base 1 Cl "elders" ["self","house"] (Z6J (CS.mk Ct Cw Ch Cp Cl Cs Cq Ck B) K):=by
 refine HasM.of T.m_Hall_elders sc_Hall_elders (fun _ _ _ _ _ _ us hl=>el2 us hl fun _ _=>rfl) (fun vs H Q E h=>?_) (fun f cdv A outer s H vs Q E hr h=>?_)
 ·obtain ⟨a,h,G,es,rfl,_⟩:=h
  rfl
 obtain ⟨a,h,G,es,rfl,hl,hc,hlen,q⟩:=h
 refine ⟨_,(Z0c (Z0w (i:=2) sc_Hall_elders.nd rfl (Or.inl rfl) (Z0B Z0d))
  (Z0c (Z0w (i:=3) sc_Hall_elders.nd rfl (Or.inl rfl) (Z0k (Z5T (Z9B hr) (Z0k (pvF 0) rfl) (pvF 1) (fun _ _=>rfl)) rfl))
  (Z0c (Z4H PassesOwn.never (Z0u Z5K (pvF 3) Z2b (Z0V _)) (Z0c (Z1g (Z3m PySem.F.plainAttrs_list PySem.F.slot_list_append PySem.F.type_list_append Z0K (pvF 2) (Z0a (pvF 3) Z0d)))
  (Z0g (Z0w (i:=3) sc_Hall_elders.nd rfl (Or.inl rfl) (Z0k (Z5T (Z9B hr) (Z0k (pvF 0) rfl) (pvF 3) (fun _ _=>rfl)) rfl)))))
  (Z0g (Z0s (pvF 2)))))),?_⟩
 refine seq4 fun uz3 huz3 uz2 huz2 uz1 huz1=>?_
 walk_at "rd"
 refine New.of fun l H1 h1 s1 e1=>?_
 subst huz1
 walk_at "rd"
 obtain ⟨X,lk,ex⟩:=Chain.at hc 0 h rfl
 obtain ⟨dx,io,d,kvs,ea,ed,ok,hlk⟩:=Z2W (hl.same s1)
 obtain ⟨b,bx,ft,wt,ws,g1,g2,_⟩:=hlk h X lk
 refine ⟨Cl,dx,_,ea,T.Hall.cl,T.n_Hall_by_name,_,rfl,d,rfl,_,g1,_,rfl,Ch,bx,_,g2,T.House.cl,T.n_House_elder,_,rfl,?_⟩
 subst huz2
 walk_at "rd"
 refine ⟨EI H a l h es,⟨es.length,0,rfl,Nat.zero_le _,s1,e1,by rw [ex]⟩,fun m σ H' hI=>?_⟩
 obtain ⟨i,rfl,hi,sI,hl',rfl⟩:=hI
 walk_at "rd"
 cases hei:es[i]? with
 | none=>
  have:i=es.length:=by have:=List.getElem?_eq_none_iff.mp hei; omega
  subst this
  refine ite2 (fun z=>absurd rfl z) (fun _=>?_)
  subst huz3
  walk_at "rd"
  rw [List.take_of_length_le (Nat.le_refl _)] at hl'
  exact q l H' h1 sI hl'
 | some e=>
  refine ite2 (fun _=>?_) (fun z=>by simp [oS] at z)
  have hi':i < es.length:=(List.getElem?_eq_some_iff.mp hei).1
  refine ⟨fun σ' H'=>∃ m',m' < es.length - i∧EI H a l h es m' σ' H',fun _ _ h=>h,?_⟩
  obtain ⟨X,lk,ex⟩:=Chain.at hc (i+1) e hei
  have s2:Same H (upd H' l (.lst ((es.take i).map V.str++[.str e]))):=fun b o hb=>by rw [Z0j (Z0i hb h1)]; exact sI _ _ hb
  obtain ⟨dx,io,d,kvs,ea,ed,ok,hlk⟩:=Z2W (hl.same s2)
  obtain ⟨b,bx,ft,wt,ws,g1,g2,_⟩:=hlk e X lk
  refine ⟨.inl ⟨rfl,_,SqL.of hl'⟩,_,hl',by rw [List.length_map,List.length_take]; omega,Cl,dx,_,ea,T.Hall.cl,T.n_Hall_by_name,_,rfl,d,rfl,_,g1,_,rfl,Ch,bx,_,g2,T.House.cl,T.n_House_elder,_,rfl,es.length - (i+1),by omega,i+1,rfl,hi',s2,?_,?_⟩
  ·rw [Z0e,List.take_succ,hei,List.map_append]; rfl
  ·rw [ex]
end
end K52
end
section
set_option format.width 520
namespace K52
open PySem L2 TM WK
open P15 (Lb Fm Tm dats Z1B okF Ok maxD sumS flatR Bld)
open PW (Vl Wd Hs Pg Sc Wt Ws IxAt Look Chain Z2R Flds Z2Z putS Z1f getS Z1A Two Step Z2T Z1k leaf)
seal L2.PE L2.PA L2.PT L2.PS L2.PSs L2.PG L2.PGs L2.PI L2.PW
open P23 (ixO Z3C Z2s Z4V FO)
noncomputable def foD:Option (Str×Nat×Wd)→PyData
 | none=>.none
 | some (h,i,_)=>.tuple [.str h,.int (i:Int)]
inductive Z6T (c:CS) (K:W.Frag) (vs:List V) (H:Hp) (Q:VK):Prop
 | mk (a:Addr) (h wd:Str) (G:Pg) (es:List Str) (r:Option (Str×Nat×Wd)) (a1:vs=[.ref a,.str h,.str wd]) (a2:HlO K c H (.ref a) G) (a3:Chain G h es) (a4:es.length≤100) (a5:FO G wd (h::es) r) (a6:∀ v H',Same H H'→RT K H' v (foD r)→Q v H'):Z6T c K vs H Q
def Z6M (c:CS) (K:W.Frag):Sp:=fun vs H Q _=>Z6T c K vs H Q
inductive Z6i (c:CS) (K:W.Frag) (vs:List V) (H:Hp) (Q:VK):Prop
 | mk (a:Addr) (G:Pg) (a1:vs=[.ref a]) (a2:InO c H a G) (a3:∀ l H',H l=none→Same H H'→H' l=some (.lst ((G.houses.map Hs.name).map V.str))→Q (.ref l) H'):Z6i c K vs H Q
def Z6x (c:CS) (K:W.Frag):Sp:=fun vs H Q _=>Z6i c K vs H Q
theorem Z8s {x:Str} {ns:List Str}:inV (.str x) (ns.map V.str)=decide (x∈ns):=by
 unfold inV
 rw [List.any_map]
 by_cases hm:x∈ns
 ·rw [decide_eq_true hm,List.any_eq_true]
  exact ⟨x,hm,by simp [eqV]⟩
 ·rw [decide_eq_false hm,List.any_eq_false]
  intro z hz
  have:z≠x:=fun e=>hm (e▸hz)
  simp [eqV,this]
theorem Z9N (hs:List Hs):(hs.map fun h=>V.str h.name)=(hs.map Hs.name).map V.str:=by rw [List.map_map]; rfl
theorem J3c (es:List Str) (h:Str):V.str h::es.map V.str=(h::es).map V.str:=rfl
section
variable {C_Maker Cl Cs Cq Ck Ct Cw Ch Cp:Addr} {P:Program} {w:World} {K:W.Frag} {mg:Str→Option Value} {base:Heap} {B:Hp}
noncomputable def FOI2 (G:Pg) (H:Hp) (a:Addr) (h wd:Str) (ls:List Str) (r:Option (Str×Nat×Wd)) (i:Nat) (σ:St) (H':Hp):Prop:=∃ o3 o4,Same H H'∧FO G wd (ls.drop i) r∧σ=[some (.ref a),some (.str h),some (.str wd),o3,o4]
theorem J1y (T:Txt K mg Cl Ct Cw Ch Cp C_Maker Cs Cq Ck) (h_Hall_elders:HasM P w K mg base 1 Cl "elders" ["self","house"] (Z6J (CS.mk Ct Cw Ch Cp Cl Cs Cq Ck B) K)):HasM P w K mg base 2 Cl "found" ["self","house","word"] (Z6M (CS.mk Ct Cw Ch Cp Cl Cs Cq Ck B) K):=by
 refine HasM.of T.m_Hall_found sc_Hall_found (fun _ _ _ _ _ _ us hl=>el3 us hl fun _ _ _=>rfl) (fun vs H Q E h=>?_) (fun f cdv A outer s H vs Q E hr h=>?_)
 ·obtain ⟨a,h,wd,G,es,r,rfl,_⟩:=h
  rfl
 obtain ⟨a,h,wd,G,es,r,rfl,hl,hc,hlen,hf,q⟩:=h
 refine ⟨_,(Z0c (Z2F PassesOwn.never rfl (Z2i (Z0J Z4t (Z0B (Z0a (pvF 1) Z0d)) (Z2P (pvF 0) T.Hall.cl h_Hall_elders hr (by decide) (Z0a (pvF 1) Z0d)))) (Z0n (i:=3) sc_Hall_found.nd rfl (Or.inl rfl)) (Z0c (Z3f rfl sc_Hall_found.nd (i:=4) rfl rfl (BlockOk.plain (N:=["own"]) rfl (by decide +kernel) (by decide +kernel) (by decide +kernel)) (Z2f (Z0k (Z5T (Z9B hr) (Z0k (pvF 0) rfl) (pvF 3) (fun _ _=>rfl)) rfl))
     (fun C fp s H=>(Z0n (i:=0) (show (["own"]:List Str).Nodup by decide +kernel) rfl (Or.inl rfl)))
     (fun C fp s H=>(show PE _ _ (Z9L K _ "name") from Z0k (pvF 0) rfl)))
  (Z0g (Z1C (Z0u (r:=rIn K false) Z0T (pvF 2) (pvF 4) (by with_unfolding_all rfl)) (Z0g (Z0s (Z0y (Z0a (pvF 3) (Z0a (Z3m PySem.F.plainAttrs_list PySem.F.slot_list_index PySem.F.type_list_index Z8C (pvF 4) (Z0a (pvF 2) Z0d)) Z0d))))) Z0z))))
  (Z0g (Z0s Z2b))),?_⟩
 refine seq2 fun uz1 huz1=>?_
 walk_at "rd"
 refine New.of fun l2 H2 h2 s2 e2=>?_
 obtain ⟨dx,io,dd,kvs,ea,ed,ok,hlk⟩:=Z2W (hl.same s2)
 refine ⟨dx,_,ea,rfl,a,h,G,es,rfl,hl.same s2,hc,hlen,fun l3 H3 h3 s3 e3=>?_⟩
 refine ⟨_,rfl,_,s3 _ _ e2,_,e3,by rw [List.length_map]; simp; omega,?_⟩
 refine New.of fun l4 H4 h4 s4 e4=>?_
 have s24:=s2.trans (s3.trans s4)
 refine ⟨⟨_,SqL.of e4⟩,?_⟩
 refine Z2U (.str h::es.map V.str) (FOI2 G H4 a h wd (h::es) r) ⟨none,none,Same.refl _,hf,rfl⟩ (fun i σ H' _ hI=>?_) (fun i y σ H' hy hI=>?_) (fun σ H' hI=>?_)
 ·obtain ⟨o3,o4,sx,_⟩:=hI
  exact SqL.of (sx _ _ e4)
 ·obtain ⟨o3,o4,sx,hfd,rfl⟩:=hI
  rw [J3c,List.getElem?_map] at hy
  obtain ⟨y,hy2,rfl⟩:=Option.map_eq_some_iff.mp hy
  rw [List.drop_eq_getElem_cons (List.getElem?_eq_some_iff.mp hy2).1,(List.getElem?_eq_some_iff.mp hy2).2] at hfd
  obtain ⟨X,lk⟩:∃ X,Look G y X:=by cases hfd with | here a _ _=>exact ⟨_,a⟩ | there a _ _=>exact ⟨_,a⟩
  obtain ⟨dx,io,dd,kvs,ea,ed,ok,hlk⟩:=Z2W (hl.same (s24.trans sx))
  obtain ⟨b,bx,ft,wt,ws,g1,g2,g3,g4,g5,g6⟩:=hlk y X lk
  have lw:ws.length=X.words.length:=g5.len
  have lw2:=g6.wl
  refine seq2 fun uy1 huy1=>?_
  walk_at "rd"
  refine ⟨Cl,dx,_,ea,T.Hall.cl,T.n_Hall_by_name,_,rfl,dd,rfl,_,g1,_,rfl,Ch,bx,_,g2,T.House.cl,T.n_House_own_words,_,rfl,wt,rfl,⟨_,g4⟩,fun D hD=>?_⟩
  refine Z1t (ys:=ws) none [] (fun j v H=>∃ t,X.words[j]?=some t∧v=.str t.name) (fun _ _ _ _ h _=>h) rfl hD (by rw [sizeLine_eq]; omega) (fun H1 s=>SqT.same g4 s) (fun i y hy H1 K' s k=>?_) (fun vs Hc Sc hv lv hR=>?_)
  ·walk_at "rd"
   obtain ⟨t,ht',ho⟩:=g5.at hy
   have ho:=ho.same s
   cases ho with
   | mk f1 f2 f3=>exact ⟨_,rfl,Cw,_,_,f1,T.Word.cl,T.n_Word_name,_,rfl,k _ _ (Same.refl _) ⟨t,ht',rfl⟩⟩
  have ev:=Z2O (g:=fun t:Wd=>V.str t.name) (lv.trans lw) hR
  have hv':Hc D=some (.lst ((X.words.map Wd.name).map V.str)):=by rw [hv,ev,List.map_map]; rfl
  subst huy1
  walk_at "rd"
  refine ⟨_,.inl (SqL.of hv'),rfl,Z2S _,?_⟩
  rw [Z8s]
  have un:=uniq ok.nd
  cases hfd with
  | here a1 a2 a3=>
   have:=un _ _ a1.1 lk.1 (a1.2.trans lk.2.symm)
   subst this
   obtain ⟨m1,m2,m3⟩:=Z4V a2
   refine ite2 (fun _=>?_) (fun z=>absurd (decide_eq_true m1) z)
   refine ⟨.inl ⟨rfl,_,SqL.of hv'⟩,_,hv',_,m3.1,m3.2,?_⟩
   refine New.of fun p H6 h6 s6 e6=>?_
   exact q _ H6 (s24.trans (sx.trans (Sc.trans s6))) (.tup (SqT.of e6) (.cons (.str _) (.cons (.int _) .nil)))
  | there a1 a2 a3=>
   have:=un _ _ a1.1 lk.1 (a1.2.trans lk.2.symm)
   subst this
   refine ite2 (fun z=>?_) (fun _=>?_)
   ·obtain ⟨j,e,_⟩:=Z2s (of_decide_eq_true z)
    rw [a2] at e; cases e
   exact ⟨_,_,sx.trans Sc,a3,rfl⟩
 ·obtain ⟨o3,o4,sx,hfd,rfl⟩:=hI
  rw [List.drop_of_length_le (by simp)] at hfd
  cases hfd
  subst huz1
  walk_at "rd"
  exact q _ _ (s24.trans sx) .non
theorem J0t (T:Txt K mg Cl Ct Cw Ch Cp C_Maker Cs Cq Ck):HasM P w K mg base 1 Cl "houses" ["self"] (Z6x (CS.mk Ct Cw Ch Cp Cl Cs Cq Ck B) K):=by
 refine HasM.of T.m_Hall_houses Z5j (fun _ _ _ _ _ _ us hl=>el1 us hl fun _=>rfl) (fun vs H Q E h=>?_) (fun f cdv A outer s H vs Q E hr h=>?_)
 ·obtain ⟨a,G,rfl,_⟩:=h
  rfl
 obtain ⟨a,G,rfl,⟨dx,io,d,ea,eio⟩,q⟩:=h
 refine ⟨_,(Z0g (Z0s (Z0L Z4v rfl T.z_list J1S (Z0a (Z0k (pvF 0) rfl) Z0d)))),?_⟩
 walk_at "rd"
 rw [Z9N] at eio
 exact ⟨Cl,dx,_,ea,T.Hall.cl,T.n_Hall_in_order,.ref io,rfl,io,rfl,_,.inr (SqT.of eio),fun l hl=>q l _ hl (Z0v hl _) Z0e⟩
end
end K52
end
section
set_option format.width 520
namespace K52
open PySem L2 TM WK
open P15 (Lb Fm Tm dats Z1B okF Ok maxD sumS flatR Bld)
open PW (Vl Wd Hs Pg Sc Wt Ws IxAt Look Chain Z2R Flds Z2Z putS Z1f getS Z1A Two Step Z2T Z1k leaf)
seal L2.PE L2.PA L2.PT L2.PS L2.PSs L2.PG L2.PGs L2.PI L2.PW
open P52 (WOk Hr HrOk DrOk NM PL0 PL1 J4P)
inductive J1B (K:W.Frag) (vs:List V) (H:Hp) (Q:VK):Prop
 | mk (a:Addr) (ns:List Int) (k:Nat) (a1:vs=[.ref a,.int (k:Int)]) (a2:SqL K H a (ns.map V.int)) (a3:∀ c,Q (.int c) H):J1B K vs H Q
def J0a (K:W.Frag):Sp:=fun vs H Q _=>J1B K vs H Q
inductive Z8g (vs:List V) (H:Hp) (Q:VK):Prop
 | mk (c k:Int) (a1:vs=[.int c,.int k]) (a2:0≤k) (a3:k≤100000) (a4:∀ r:Nat,r < 2147483647→Q (.int (r:Int)) H):Z8g vs H Q
def Z8r:Sp:=fun vs H Q _=>Z8g  vs H Q
inductive HrO (K:W.Frag) (X:Addr) (H:Hp):V→Hr→Prop
 | mk {a wl:Addr} {r:Hr}:wl≠X→SqT K H a [.str r.name,oS r.elder,.ref wl]→H wl=some (.lst (r.words.map V.str))→HrO K X H (.ref a) r
theorem HrO.same {K:W.Frag} {X:Addr} {H H':Hp} {v:V} {r:Hr} (h:HrO K X H v r) (s:Same H H'):HrO K X H' v r:=by
 cases h with
 | mk n a b=>exact .mk n (SqT.same a s) (s _ _ b)
theorem HrO.put {K:W.Frag} {X:Addr} {H:Hp} {v:V} {r:Hr} {xs:List V} (h:HrO K X H v r) (o:HO) (e:H X=some (.lst xs)):HrO K X (upd H X o) v r:=by
 cases h with
 | mk n a b=>exact .mk n (SqT.kp a (Kp.lst _ e)) (by rw [Z0j n]; exact b)
inductive Z5l (K:W.Frag) (vs:List V) (H:Hp) (Q:VK):Prop
 | mk (a:Addr) (ns:List Int) (a1:vs=[.ref a]) (a2:SqL K H a (ns.map V.int)) (a3:∀ l X us rs H',H l=none→Same H H'→H' l=some (.lst us)→A2 (HrO K X H') us rs→HrOk rs→Q (.ref l) H'):Z5l K vs H Q
def Z9A (K:W.Frag):Sp:=fun vs H Q _=>Z5l K vs H Q
theorem J0k (xs:List V) (k:Nat):cutV xs none (some (k:Int))=xs.take k:=by
 unfold cutV
 rw [HT.sIx_none,HT.sIx_nat,List.drop_zero,Nat.sub_zero]
 by_cases h:k≤xs.length
 ·rw [Nat.min_eq_left h]
 ·rw [Nat.min_eq_right (by omega),List.take_of_length_le (Nat.le_refl _),List.take_of_length_le (by omega)]
theorem J2l (xs:List V) (k:Nat):cutV xs (some (k:Int)) none=xs.drop k:=by
 unfold cutV
 rw [HT.sIx_none,HT.sIx_nat]
 by_cases h:k≤xs.length
 ·rw [Nat.min_eq_left h,List.take_of_length_le (by rw [List.length_drop]; omega)]
 ·rw [Nat.min_eq_right (by omega),List.drop_eq_nil_of_le (Nat.le_refl _),List.drop_eq_nil_of_le (by omega),List.take_nil]
theorem Z7O {α β:Type} {R:α→β→Prop}:∀ {as:List α} {bs:List β} (k:Nat),A2 R as bs→A2 R (as.take k) (bs.take k)
 | _,_,0,_=>.nil
 | _,_,_+1,.nil=>.nil
 | _,_,k+1,.cons r t=>.cons r (Z7O k t)
theorem J0f {α β:Type} {R:α→β→Prop}:∀ {as:List α} {bs:List β} (k:Nat),A2 R as bs→A2 R (as.drop k) (bs.drop k)
 | _,_,0,h=>h
 | _,_,_+1,.nil=>.nil
 | _,_,k+1,.cons r t=>J0f k t
theorem J0x {pool:List Str} {H:Hp}:∀ {vs:List V} {ks:List Nat},A2 (fun v _=>∃ x∈pool,v=V.str x) vs ks→∃ ws:List Str,vs=ws.map V.str∧(∀ x∈ws,x∈pool)∧ws.length=ks.length
 | _,_,.nil=>⟨[],rfl,(fun _ h=>by cases h),rfl⟩
 | _,_,.cons ⟨x,h1,h2⟩ t=>by
  obtain ⟨ws,e1,e2,e3⟩:=J0x (H:=H) t
  refine ⟨x::ws,by rw [h2,e1]; rfl,fun y hy=>?_,by rw [List.length_cons,List.length_cons,e3]⟩
  rcases List.mem_cons.mp hy with z | z
  ·rw [z]; exact h1
  ·exact e2 y z
noncomputable def bAt (bs:List V) (k:Nat):Bool:=match bs[k]? with
 | some (.bl b)=>b
 | _=>false
section
variable {C_Maker Cl Cs Cq Ck Ct Cw Ch Cp:Addr} {P:Program} {w:World} {K:W.Frag} {mg:Str→Option Value} {base:Heap} {B:Hp}
theorem J4Q (T:Txt K mg Cl Ct Cw Ch Cp C_Maker Cs Cq Ck):Has P w K mg base 1 "_law_cell_at" ["_law_script","_law_k"] (J0a K):=by
 refine Has.of T.f__law_cell_at Z5i (fun _ _ _ _ _ _ us hl=>el2 us hl fun _ _=>rfl) (fun vs H Q E h=>?_) (fun f cdv A outer s H vs Q E hr h=>?_)
 ·obtain ⟨a,ns,k,rfl,_⟩:=h
  rfl
 obtain ⟨a,ns,k,rfl,sq,q⟩:=h
 refine ⟨_,(Z0c (Z1C (Z0u J8z (pvF 1) (Z0M Z0S rfl T.z_len Z4a (Z0a (pvF 0) Z0d)) (Z0V _)) (Z0g (Z0s (Z1q (r:=Z3r K) Z1i (pvF 0) (pvF 1) (fun _ _=>rfl)))) Z0z)
  (Z0g (Z0s Z0l))),?_⟩
 walk_at "rd"
 refine ⟨_,.inl sq,ite2 (fun h=>?_) fun _=>q _⟩
 rw [List.length_map] at h
 have hk:k < ns.length:=by omega
 exact ⟨_,sq,_,Z3i (show (ns.map V.int)[k]?=some (.int ns[k]) by rw [List.getElem?_map,List.getElem?_eq_getElem hk]; rfl),q _⟩
theorem J2R (T:Txt K mg Cl Ct Cw Ch Cp C_Maker Cs Cq Ck):Has P w K mg base 1 "_law_mixed" ["_law_cell","_law_k"] Z8r:=by
 refine Has.of T.f__law_mixed Z5R (fun _ _ _ _ _ _ us hl=>el2 us hl fun _ _=>rfl) (fun vs H Q E h=>?_) (fun f cdv A outer s H vs Q E hr h=>?_)
 ·obtain ⟨c,k,rfl,_⟩:=h
  rfl
 obtain ⟨c,k,rfl,k0,k1,q⟩:=h
 refine ⟨_,(Z0g (Z0s (Z0J Z3q (Z0J Z3J (Z0J Z3J (Z0J Z3J (Z0J Z6P (pvF 0) Z0l) (Z0J Z6P (Z0J Z6P Z0l (pvF 1)) (pvF 1))) (Z0J Z6P Z0l (pvF 1))) Z0l) Z0l))),?_⟩
 walk_at "rd"
 have h0:=Int.emod_nonneg (c * 48271+104729 * k * k+7919 * k+12345) (show (2147483647:Int)≠0 by decide)
 have h1:=Int.emod_lt_of_pos (c * 48271+104729 * k * k+7919 * k+12345) (show (0:Int) < 2147483647 by decide)
 refine ⟨.inr ⟨by omega,by omega⟩,?_⟩
 generalize (c * 48271+104729 * k * k+7919 * k+12345) % 2147483647=r at *
 obtain ⟨n,rfl⟩:=Int.eq_ofNat_of_zero_le h0
 exact q n (by omega)
noncomputable def HI (K:W.Frag) (H:Hp) (a pl nl fl:Addr) (c:Nat) (i:Nat) (σ:St) (H':Hp):Prop:=∃ o5 o6 o7 o8 o9 o10 us rs,SX fl H H'∧H' fl=some (.lst us)∧A2 (HrO K fl H') us rs∧DrOk rs∧rs.length=i∧σ=[some (.ref a),some (.int (c:Int)),some (.ref pl),some (.ref nl),some (.ref fl),o5,o6,o7,o8,o9,o10]
theorem Z9t (T:Txt K mg Cl Ct Cw Ch Cp C_Maker Cs Cq Ck) (h__law_cell_at:Has P w K mg base 1 "_law_cell_at" ["_law_script","_law_k"] (J0a K)) (h__law_mixed:Has P w K mg base 1 "_law_mixed" ["_law_cell","_law_k"] Z8r):Has P w K mg base 2 "_law_houses" ["_law_script"] (Z9A K):=by
  refine Has.of T.f__law_houses sc__law_houses (fun _ _ _ _ _ _ us hl=>el1 us hl fun _=>rfl) (fun vs H Q E h=>?_) (fun f cdv A outer s H vs Q E hr h=>?_)
  · obtain ⟨a,ns,rfl,_⟩:=h
    rfl
  obtain ⟨a,ns,rfl,sq,q⟩:=h
  refine ⟨_,(Z0c (Z0w (i:=1) sc__law_houses.nd rfl (Or.inl rfl) (Z0G h__law_mixed hr (by decide) rfl (Z0a (Z0G h__law_cell_at hr (by decide) rfl (Z0a (pvF 0) (Z0a Z0l Z0d))) (Z0a Z0l Z0d))))
    (Z0c (Z0w (i:=2) sc__law_houses.nd rfl (Or.inr rfl) (Z1q (r:=Z3r K) Z1i (Z0B (Z0a (Z0B (Z0a Z0o (Z0a Z0o (Z0a Z0o (Z0a Z0o (Z0a Z0o (Z0a Z0o Z0d))))))) (Z0a (Z0B (Z0a Z0o (Z0a Z0o (Z0a Z0o (Z0a Z0o (Z0a Z0o (Z0a Z0o Z0d))))))) Z0d))) (Z0J Z3q (pvF 1) Z0l) (fun _ _=>rfl)))
    (Z0c (Z0w (i:=3) sc__law_houses.nd rfl (Or.inl rfl) (Z0B (Z0a Z0o (Z0a Z0o (Z0a Z0o (Z0a Z0o (Z0a Z0o (Z0a Z0o (Z0a Z0o (Z0a Z0o (Z0a Z0o (Z0a Z0o (Z0a Z0o (Z0a Z0o Z0d))))))))))))))
    (Z0c (Z0w (i:=4) sc__law_houses.nd rfl (Or.inl rfl) (Z0B Z0d))
    (Z0c (Z2F PassesOwn.never rfl (Z3W rfl T.z_range (Z0a (Z0J Z3q (Z0J Z3L (pvF 1) Z0l) Z0l) Z0d)) (Z0n (i:=5) sc__law_houses.nd rfl (Or.inl rfl)) (Z0c (Z0w (i:=6) sc__law_houses.nd rfl (Or.inr rfl) (Z0G h__law_mixed hr (by decide) rfl (Z0a (Z0G h__law_cell_at hr (by decide) rfl (Z0a (pvF 0) (Z0a (Z0J Z3J Z0l (pvF 5)) Z0d))) (Z0a (pvF 5) Z0d))))
    (Z0c (Z0w (i:=7) sc__law_houses.nd rfl (Or.inl rfl) Z2b)
    (Z0c (Z1C (PW.pt (J0F (Z0u J6g (pvF 5) Z0l (Z0V _)) (Z7I (Z0u J6g (Z0J Z3q (pvF 6) Z0l) Z0l (Z0V _))))) (Z0g (Z0w (i:=7) sc__law_houses.nd rfl (Or.inl rfl) (Z1q (r:=Z3r K) Z1i (pvF 3) (Z1q (r:=Z3r K) Z1i (Z0B (Z0a (Z0J J5E (pvF 5) Z0l) (Z0a (Z0J Z3q (Z0J Z3L (pvF 6) Z0l) (pvF 5)) Z0d))) (Z0J Z3q (Z0J Z3L (pvF 6) Z0l) Z0l) (fun _ _=>rfl)) (fun _ _=>rfl)))) Z0z)
    (Z0c (Z0w (i:=8) sc__law_houses.nd rfl (Or.inr rfl) (Z1u rfl (BlockOk.of (N:=["_law_at","_law_more"]) (nl:=[none,some 6]) (cl:=[("_law_more",s.heap.objs.size+2)]) rfl (by decide +kernel) (by decide +kernel) rfl (sub1 rfl) (nm:=["_law_more"]) rfl (by decide +kernel) rfl (fun i hi j hj=>by
            match i,hi with
            | 0,_=>cases hj
             | 1,_=>cases hj; exact ⟨_,rfl,rfl,rfl,.inl rfl⟩
            )) (Z2f (Z0y (Z0a Z0l (Z0a Z0l (Z0a Z0l (Z0a Z0l (Z0a Z0l (Z0a Z0l Z0d))))))))
          (fun C fp s H=>(Z0n (i:=0) (show (["_law_at","_law_more"]:List Str).Nodup by decide +kernel) rfl (Or.inl rfl)))
          (fun C fp s H=>(Z5O Z4y (Z0J Z3q (Z0J J2b (pvF 1) (Z0J Z6P Z0l (pvF 0))) Z0l) Z0l (Z0V _)))))
    (Z0c (Z7F rfl sc__law_houses.nd (i:=9) rfl rfl (BlockOk.of (N:=["_law_j","_law_is_there","_law_more","_law_some_words"]) (nl:=[none,some 8,some 6,some 2]) (cl:=[("_law_some_words",s.heap.objs.size+1),("_law_more",s.heap.objs.size+2),("_law_is_there",s.heap.objs.size+3)]) rfl (by decide +kernel) (by decide +kernel) rfl (sub3 rfl rfl rfl) (nm:=["_law_some_words","_law_more","_law_is_there"]) rfl (by decide +kernel) rfl (fun i hi j hj=>by
            match i,hi with
            | 0,_=>cases hj
             | 1,_=>cases hj; exact ⟨_,rfl,rfl,rfl,.inl rfl⟩
             | 2,_=>cases hj; exact ⟨_,rfl,rfl,rfl,.inl rfl⟩
             | 3,_=>cases hj; exact ⟨_,rfl,rfl,rfl,.inl rfl⟩
            )) (Z3W rfl T.z_range (Z0a Z0l Z0d))
          (fun C fp s H=>(Z0n (i:=0) (show (["_law_j","_law_is_there","_law_more","_law_some_words"]:List Str).Nodup by decide +kernel) rfl (Or.inl rfl)))
          (fun C fp s H=>(Z8R (Z1q (r:=Z3r K) Z1i (pvF 1) (pvF 0) (fun _ _=>rfl)))) (fun C fp s H=>(Z1q (r:=Z3r K) Z1i (pvF 3) (Z0J Z3q (Z0J Z3J (pvF 0) (Z0J Z3L (pvF 2) Z0l)) Z0l) (fun _ _=>rfl))))
    (Z0c (Z1C (Z0u Z4y (Z0J Z3q (Z0J Z3L (pvF 1) Z0l) Z0l) Z0l (Z0V _)) (Z0g (Z0w (i:=9) sc__law_houses.nd rfl (Or.inl rfl) (Z0B Z0d))) Z0z)
    (Z0g (Z1g (Z3m PySem.F.plainAttrs_list PySem.F.slot_list_append PySem.F.type_list_append Z0K (pvF 4) (Z0a (Z0y (Z0a (Z1q (r:=Z3r K) Z1i (pvF 3) (pvF 5) (fun _ _=>rfl)) (Z0a (pvF 7) (Z0a (Z2p (r:=rSlL K) Z5D (pvF 9) Z3e (Z3d Z0l)) Z0d)))) Z0d)))))))))))
    (Z0c (Z0w (i:=10) sc__law_houses.nd rfl (Or.inl rfl) (Z0J Z3q (Z0J Z3L (pvF 1) Z0l) (Z0M (J1o rfl) rfl T.z_max J1D (Z0a Z0l (Z0a (Z0M Z0S rfl T.z_len Z4a (Z0a (pvF 4) Z0d)) Z0d)))))
    (Z0g (Z0s (Z1q (r:=Z3r K) Z1i (Z0B (Z0a (Z0J Z4t (Z2p (r:=rSlL K) Z5D (pvF 4) (Z3d (pvF 10)) Z3e) (Z2p (r:=rSlL K) Z5D (pvF 4) Z3e (Z3d (pvF 10)))) (Z0a (J0M rfl rfl rfl T.z_list T.z_reversed (Z0a (pvF 4) Z0d)) Z0d))) (Z0J Z3q (Z0J Z3L (pvF 1) Z0l) Z0l) (fun _ _=>rfl)))))))))),?_⟩
  refine seq7 fun uz6 huz6 uz5 huz5 uz4 huz4 uz3 huz3 uz2 huz2 uz1 huz1=>?_
  walk_at "rd"
  refine ⟨a,ns,0,rfl,sq,fun c0=>?_⟩
  refine ⟨c0,0,rfl,by omega,by omega,fun c hc=>?_⟩
  subst huz1
  walk_at "rd"
  refine New.of fun p1 H1 h1 s1 e1=>New.of fun p2 H2 h2 s2 e2=>New.of fun p3 H3 h3 s3 e3=>?_
  have s03:=s1.trans (s2.trans s3)
  have key:∀ (pl:Addr) (pool:List Str),(∀ w∈pool,WOk w)→pool.length=6→H3 pl=some (.lst (pool.map V.str))→uz2 { nx:=fun x H'=>Q V.non H',rt:=Q } [some (V.ref a),some (V.int (c:Int)),some (.ref pl),none,none,none,none,none,none,none,none] H3:=by
    intro pl pool hpo hp6 epl
    subst huz2
    walk_at "rd"
    refine New.of fun nl H4 h4 s4 e4=>?_
    have e4:H4 nl=some (.lst (NM.map V.str)):=e4
    subst huz3
    walk_at "rd"
    refine New.of fun fl H5 h5 s5 e5=>?_
    subst huz4
    walk_at "rd"
    have s05:=s03.trans (s4.trans s5)
    have n4l:nl≠fl:=fun z=>Z2Q e4 h5 z.symm
    have npl:pl≠fl:=fun z=>Z2Q (s4 _ _ epl) h5 z.symm
    have h0f:H fl=none:=by
      cases e:H fl with
      | none=>rfl
      | some o=>rw [s03.trans s4 _ _ e] at h5; cases h5
    refine ⟨by omega,by omega,Z5w (HI K H5 a pl nl fl c) ⟨none,none,none,none,none,none,[],[],(fun _ _ _ h=>h),e5,.nil,DrOk.nil,rfl,rfl⟩ (fun i σ H' hi hI=>?_) (fun σ H' hI=>?_)⟩
    · obtain ⟨o5,o6,o7,o8,o9,o10,us,rs,sx,ef,hA,hd,hrl,rfl⟩:=hI
      have hi12:i < 12:=by omega
      have lus:us.length=i:=hA.len.trans hrl
      have sH:Same H H':=fun b o e=>sx _ _ (Z0i e h0f) (s05 _ _ e)
      have epl':=sx _ _ npl (s5 _ _ (s4 _ _ epl))
      have enl':=sx _ _ n4l (s5 _ _ e4)
      refine seq7 fun uy6 huy6 uy5 huy5 uy4 huy4 uy3 huy3 uy2 huy2 uy1 huy1=>?_
      walk_at "rd"
      refine ⟨a,ns,1+i,by rw [Int.natCast_add]; rfl,SqL.same sq sH,fun c1=>?_⟩
      refine ⟨c1,i,rfl,by omega,by omega,fun m hm=>?_⟩
      subst huy1
      walk_at "rd"
      subst huy2
      walk_at "rd"
      have key2:∀ (D:Ends),(∀ σ H',HI K H5 a pl nl fl c (i+1) σ H'→D.nx σ H')→∀ (el:Option Str) (H6:Hp),Same H' H6→(∀ e,el=some e→∃ j,j < i∧NM[j]?=some e)→uy3 D [some (V.ref a),some (V.int (c:Int)),some (V.ref pl),some (V.ref nl),some (V.ref fl),some (V.int (i:Int)),some (V.int (m:Int)),some (oS el),o8,o9,o10] H6:=by
        intro D hDn el H6 s6 hel
        subst huy3
        walk_at "rd"
        refine New.of fun tp H7 h7 s7 e7=>?_
        refine ⟨⟨_,SqT.of e7⟩,fun D8 hD8=>?_⟩
        refine Z1t (ys:=[.int 1,.int 2,.int 4,.int 8,.int 16,.int 32]) none [some (.int (m:Int))] (fun j v H=>∃ b,v=.bl b) (fun _ _ _ _ h _=>h) rfl hD8 (by rw [sizeLine_eq]; decide) (fun H1 s=>SqT.of (s _ _ e7)) (fun k y hy H1 K' s kk=>?_) (fun bs H8 S8 e8 lb hR=>?_)
        · have hpos:∃ z:Int,y=.int z∧0 < z∧z < 100:=by
            have:=List.mem_of_getElem? hy
            simp only [List.mem_cons,List.not_mem_nil,or_false] at this
            rcases this with rfl | rfl | rfl | rfl | rfl | rfl <;> exact ⟨_,rfl,by decide,by decide⟩
          obtain ⟨z,rfl,z0,z1⟩:=hpos
          walk_at "rd"
          exact ⟨by omega,by omega,by omega,kk _ _ (Same.refl _) ⟨_,rfl⟩⟩
        have s8:=s6.trans (s7.trans S8)
        subst huy4
        walk_at "rd"
        intro D9 hD9
        refine Z3E (n:=6) (fun σ=>∃ o,σ=[o,some (.ref D8),some (.int (m:Int)),some (.ref pl)]) (fun k σ=>σ=[some (.int (k:Int)),some (.ref D8),some (.int (m:Int)),some (.ref pl)]) (bAt bs) (fun k v H=>∃ x∈pool,v=V.str x) (fun _ _ _ _ h _=>h) ⟨_,rfl⟩ hD9 (by rw [sizeLine_eq]; decide) (fun k H2 s hk=>hk) (fun H2 s=>Nat.le_refl _) (fun k x σ H2 H3 K' hk s2 yl hS kk=>?_) (fun k σ hS=>⟨_,hS⟩) (fun k σ hk hS H2 K' s2 kk=>?_) (fun k σ hk hp hS H2 K' s2 kk=>?_) (fun vs H9 S9 hv hA9=>?_)
        · obtain ⟨o,rfl⟩:=hS
          obtain ⟨rfl,rfl⟩:=yl
          walk_at "rd"
          exact kk _ _ rfl (Same.refl _)
        · subst hS
          have hkb:k < bs.length:=by rw [lb]; exact hk
          obtain ⟨b,hb⟩:=hR k bs[k] (List.getElem?_eq_getElem hkb)
          have eb:bs[k]?=some (.bl b):=by rw [List.getElem?_eq_getElem hkb,hb]
          have kk:=kk H2 (Same.refl _)
          rw [show bAt bs k=b by unfold bAt; rw [eb]] at kk
          walk_at "rd"
          exact ⟨_,SqL.of (s2 _ _ e8),.bl b,Z3i eb,_,rfl,kk⟩
        · subst hS
          walk_at "rd"
          have ep:((k:Int)+(m:Int) / 120) % 6=(((k+m / 120) % 6:Nat):Int):=by omega
          rw [ep]
          have hlt:(k+m / 120) % 6 < pool.length:=by rw [hp6]; exact Nat.mod_lt _ (by decide)
          exact ⟨_,SqL.of (s2 _ _ (s8 _ _ epl')),.str pool[(k+m / 120) % 6],Z3i (by rw [List.getElem?_map,List.getElem?_eq_getElem hlt]; rfl),kk _ _ (Same.refl _) ⟨_,List.getElem_mem hlt,rfl⟩⟩
        obtain ⟨ws,rfl,hws,lws⟩:=J0x (H:=H9) hA9
        have lk6:=Z5a (bAt bs) 6
        have s9:=s8.trans S9
        have key3:∀ (sl:Addr) (ws:List Str) (H10:Hp),Same H' H10→H10 sl=some (.lst (ws.map V.str))→(∀ x∈ws,x∈pool)→uy6 D [some (V.ref a),some (V.int (c:Int)),some (V.ref pl),some (V.ref nl),some (V.ref fl),some (V.int (i:Int)),some (V.int (m:Int)),some (oS el),some (V.ref D8),some (.ref sl),o10] H10:=by
          intro sl ws H10 s10 es hws
          subst huy6
          walk_at "rd"
          have hiN:i < NM.length:=hi12
          refine ⟨.inl ⟨rfl,_,SqL.of (s10 _ _ ef)⟩,_,SqL.of (s10 _ _ enl'),.str NM[i],Z3i (by rw [List.getElem?_map,List.getElem?_eq_getElem hiN]; rfl),_,SqL.of es,New.of fun p11 H11 h11 s11 e11=>New.of fun p12 H12 h12 s12 e12=>⟨us,s12 _ _ (s11 _ _ (s10 _ _ ef)),by omega,hDn _ _ ?_⟩⟩
          rw [show (5:Int)=((5:Nat):Int) from rfl,J0k,← List.map_take] at e11
          have n11:p11≠fl:=Z2Q (s10 _ _ ef) h11
          have s1012:=s10.trans (s11.trans s12)
          refine ⟨_,_,_,_,_,_,us++[.ref p12],rs++[⟨NM[i],el,ws.take 5⟩],(sx.trans (SX.of s1012)).trans (SX.put _),Z0e,A2.snoc (hA.mono fun _ _ r=>(r.same s1012).put _ (s1012 _ _ ef)) ?_,P52.DrOk.snoc hd (by omega) (by rw [hrl]; exact List.getElem?_eq_getElem hiN) (by rw [hrl]; exact hel) (by rw [List.length_take]; omega) (fun x hx=>hpo x (hws x (List.mem_of_mem_take hx))),by rw [List.length_append,hrl]; rfl,rfl⟩
          have n12:p12≠fl:=Z2Q (s11 _ _ (s10 _ _ ef)) h12
          exact .mk n11 (SqT.of (by rw [Z0j n12]; exact e12)) (by rw [Z0j n11]; exact s12 _ _ e11)
        subst huy5
        walk_at "rd"
        exact ite2 (fun _=>New.of fun p10 H10 h10 s10 e10=>key3 p10 [] H10 (s9.trans s10) e10 (fun x h=>by cases h)) (fun _=>key3 D9 ws H9 s9 hv hws)
      refine ite2 (fun hi0=>ite2 (fun hm5=>⟨hi0,New.of fun p6 H6 h6 s6 e6=>?_⟩) (fun _=>key2 _ (fun _ _ h=>h) none H' (Same.refl _) (fun e z=>by cases z))) (fun _=>key2 _ (fun _ _ h=>h) none H' (Same.refl _) (fun e z=>by cases z))
      have pick:∀ (v:Int),0≤v→v < i→IxL K nl v H6 fun x H1=>uy3 { nx:=HI K H5 a pl nl fl c (i+1),rt:=Q,bk:=uz5 { nx:=fun x H'=>Q V.non H',rt:=Q },ct:=HI K H5 a pl nl fl c (i+1) } [some (V.ref a),some (V.int (c:Int)),some (V.ref pl),some (V.ref nl),some (V.ref fl),some (V.int (i:Int)),some (V.int (m:Int)),some x,o8,o9,o10] H1:=by
        intro v v0 v1
        obtain ⟨j,rfl⟩:=Int.eq_ofNat_of_zero_le v0
        have hj:j < NM.length:=by show j < 12; omega
        exact ⟨_,SqL.of (s6 _ _ enl'),.str NM[j],Z3i (by rw [List.getElem?_map,List.getElem?_eq_getElem hj]; rfl),key2 _ (fun _ _ h=>h) (some NM[j]) H6 s6 (fun e z=>by cases z; exact ⟨j,by omega,List.getElem?_eq_getElem hj⟩)⟩
      rcases (show (m:Int) / 60 % 2=0∨(m:Int) / 60 % 2=1 by omega) with e | e
      · rw [e]
        exact ⟨_,SqL.of e6,_,ix0,_,rfl,pick _ (by omega) (by omega)⟩
      · rw [e]
        exact ⟨_,SqL.of e6,_,ix1,_,rfl,pick _ (Int.emod_nonneg _ (by omega)) (Int.emod_lt_of_pos _ (by omega))⟩
    · obtain ⟨o5,o6,o7,o8,o9,o10,us,rs,sx,ef,hA,hd,hrl,rfl⟩:=hI
      have sH:Same H H':=fun b o e=>sx _ _ (Z0i e h0f) (s05 _ _ e)
      have lus:us.length=rs.length:=hA.len
      have l12:=hd.le
      subst huz5
      walk_at "rd"
      refine ⟨us,.inl (SqL.of ef),?_⟩
      obtain ⟨k,ek⟩:∃ k:Nat,(if (us.length:Int) > 1 then (us.length:Int) else 1)=((k+1:Nat):Int):=by
        by_cases h:(us.length:Int) > 1
        · rw [if_pos h]; exact ⟨us.length - 1,by omega⟩
        · rw [if_neg h]; exact ⟨0,rfl⟩
      rw [ek]
      refine ⟨by omega,?_⟩
      obtain ⟨t,et⟩:∃ t:Nat,(c:Int) / 104 % ((k+1:Nat):Int)=(t:Int):=⟨c / 104 % (k+1),by rw [Int.natCast_emod,Int.natCast_ediv]; rfl⟩
      rw [et]
      subst huz6
      walk_at "rd"
      refine ⟨us,SqL.of ef,New.of fun p6 H6 h6 s6 e6=>⟨us,SqL.of (s6 _ _ ef),New.of fun p7 H7 h7 s7 e7=>⟨_,s7 _ _ e6,_,e7,?_,New.of fun p8 H8 h8 s8 e8=>⟨us,SqL.of (s8 _ _ (s7 _ _ (s6 _ _ ef))),fun l9 h9=>?_⟩⟩⟩⟩
      · have:=Z3c us (some (t:Int)) none
        have:=Z3c us none (some (t:Int))
        omega
      have s9:=Z0v h9 (.lst us.reverse)
      have e9:upd H8 l9 (.lst us.reverse) l9=some (.lst us.reverse):=Z0e
      generalize upd H8 l9 (.lst us.reverse)=H9 at *
      refine New.of fun p10 H10 h10 s10 e10=>?_
      have s610:=s6.trans (s7.trans (s8.trans (s9.trans s10)))
      have old:∀ {x:Addr} {Hx:Hp},Same H' Hx→Hx x=none→H x=none:=fun {x Hx} ss hn=>by
        cases e:H x with
        | none=>rfl
        | some o=>rw [ss _ _ (sH _ _ e)] at hn; cases hn
      have hok:=hd.ok
      rcases (show (c:Int) / 1352 % 2=0∨(c:Int) / 1352 % 2=1 by omega) with e | e
      · rw [e]
        rw [J2l,J0k] at e8
        exact ⟨_,SqL.of e10,_,ix0,q p8 fl (us.drop t++us.take t) (rs.drop t++rs.take t) H10 (old (s6.trans s7) h8) (sH.trans s610) (s10 _ _ (s9 _ _ e8)) (((J0f t hA).app (Z7O t hA)).mono fun _ _ r=>r.same s610) (P52.HrOk.perm (P52.J2J rs t) hok)⟩
      · rw [e]
        exact ⟨_,SqL.of e10,_,ix1,q l9 fl us.reverse rs.reverse H10 (old (s6.trans (s7.trans s8)) h9) (sH.trans s610) (s10 _ _ e9) (hA.rev.mono fun _ _ r=>r.same s610) (P52.HrOk.perm (List.reverse_perm rs) hok)⟩
  rcases (show (c:Int) % 2=0∨(c:Int) % 2=1 by omega) with e | e
  · rw [e]
    exact ⟨_,SqL.of e3,_,ix0,key p1 PL0 (fun w h=>J4P w (.inl h)) rfl (s3 _ _ (s2 _ _ e1))⟩
  · rw [e]
    exact ⟨_,SqL.of e3,_,ix1,key p2 PL1 (fun w h=>J4P w (.inr h)) rfl (s3 _ _ e2)⟩
end
end K52
end
section
set_option format.width 520
namespace K52
open PySem L2 TM WK
open P15 (Lb Fm Tm dats Z1B okF Ok maxD sumS flatR Bld)
open PW (Vl Wd Hs Pg Sc Wt Ws IxAt Look Chain Z2R Flds Z2Z putS Z1f getS Z1A Two Step Z2T Z1k leaf)
seal L2.PE L2.PA L2.PT L2.PS L2.PSs L2.PG L2.PGs L2.PI L2.PW
open P23 (ixO Z3C Z2s Z4V FO)
open P52 (Z4A Z2e Z6z Z2X Z2H wn Z1F bk)
noncomputable def fvs:Nat→List Hs→List V
 | _,[]=>[]
 | n,X::r=>.int (n:Int)::fvs (n+X.words.length) r
theorem Z9R:∀ (n:Nat) (hs:List Hs),(fvs n hs).length=hs.length
 | _,[]=>rfl
 | n,X::r=>congrArg (·+1) (Z9R (n+X.words.length) r)
def sumW (hs:List Hs):Nat:=(hs.map fun X=>X.words.length).sum
theorem J3y:∀ {hs:List Hs} {n i:Nat} {X:Hs},hs[i]?=some X→(fvs n hs)[i]?=some (.int ((n+sumW (hs.take i):Nat):Int))
 | Y::hs,n,0,X,h=>rfl
 | Y::hs,n,i+1,X,h=>by
  have:=J3y (hs:=hs) (n:=n+Y.words.length) (i:=i) (X:=X) h
  show (fvs (n+Y.words.length) hs)[i]?=_
  rw [this]
  show some (V.int ((n+Y.words.length+sumW (hs.take i):Nat):Int))=some (V.int ((n+sumW (Y::hs.take i):Nat):Int))
  refine congrArg (fun k:Nat=>some (V.int (k:Int))) ?_
  show _=n+((Y::hs.take i).map fun X=>X.words.length).sum
  rw [List.map_cons,List.sum_cons,Nat.add_assoc]; rfl
theorem J1T {hs:List Hs} {i:Nat} {X:Hs} (h:hs[i]?=some X):sumW (hs.take (i+1))=sumW (hs.take i)+X.words.length:=by
 have hl:=(List.getElem?_eq_some_iff.mp h).1
 unfold sumW
 rw [List.take_succ_eq_append_getElem hl,(List.getElem?_eq_some_iff.mp h).2,List.map_append,List.sum_append]
 simp
theorem J0R:∀ {hs:List Hs} {n:Nat} {h:Str},h∈hs.map Hs.name→valV (kvOf (fvs n hs) hs) (.inr h)=some (.int ((n+Z1F hs h:Nat):Int))
 | Y::hs,n,h,hm=>by
  show valV ((.inr Y.name,.int (n:Int))::kvOf (fvs (n+Y.words.length) hs) hs) _=_
  by_cases e:Y.name=h
  ·rw [Z4d (by rw [e])]
   show _=some (V.int ((n+(if Y.name=h then 0 else _):Nat):Int))
   rw [if_pos e]; rfl
  ·have hm:h∈hs.map Hs.name:=by
    rcases List.mem_cons.mp hm with z | z
    ·exact absurd z.symm e
    ·exact z
   rw [Z3z (fun z=>e (Sum.inr.inj z)),J0R hm]
   show _=some (V.int ((n+(if Y.name=h then 0 else Y.words.length+Z1F hs h):Nat):Int))
   rw [if_neg e,Nat.add_assoc]
noncomputable def bkV:Option Nat→V
 | none=>.non
 | some n=>.int (n:Int)
inductive Z6Z (c:CS) (K:W.Frag) (vs:List V) (H:Hp) (Q:VK):Prop
 | mk (pp:V) (G:Pg) (a1:vs=[pp]) (a2:PgO K c H pp G) (a3:GOk G) (a4:G.houses.length≤100) (a5:∀ l H',H l=none→Same H H'→H' l=some (.lst ((wn G).map V.str))→Q (.ref l) H'):Z6Z c K vs H Q
def Z4R (c:CS) (K:W.Frag):Sp:=fun vs H Q _=>Z6Z c K vs H Q
inductive Z6D (c:CS) (K:W.Frag) (vs:List V) (H:Hp) (Q:VK):Prop
 | mk (pp:V) (G:Pg) (a1:vs=[pp]) (a2:PgO K c H pp G) (a3:GOk G) (a4:G.houses.length≤100) (a5:∀ d H',Same H H'→H' d=some (.dK (kvOf (fvs 0 G.houses) G.houses))→Q (.ref d) H'):Z6D c K vs H Q
def Z4Z (c:CS) (K:W.Frag):Sp:=fun vs H Q _=>Z6D c K vs H Q
inductive Z6m (c:CS) (K:W.Frag) (vs:List V) (H:Hp) (Q:VK):Prop
 | mk (a d:Addr) (h wd:Str) (G:Pg) (es:List Str) (r:Option (Str×Nat×Wd)) (a1:vs=[.ref a,.ref d,.str h,.str wd]) (a2:HlO K c H (.ref a) G) (a3:H d=some (.dK (kvOf (fvs 0 G.houses) G.houses))) (a4:Chain G h es) (a5:es.length≤100) (a6:FO G wd (h::es) r) (a7:∀ H',Same H H'→Q (bkV (bk G r)) H'):Z6m c K vs H Q
def Z7b (c:CS) (K:W.Frag):Sp:=fun vs H Q _=>Z6m c K vs H Q
theorem J3K {G:Pg} (ok:GOk G) (hl:G.houses.length≤100):∀ i,(Z2e [] ((G.houses.take i).map fun X=>X.words.map Wd.name)).length≤10000:=fun i=>by
 have:=Z2X 100 ((G.houses.take i).map fun X=>X.words.map Wd.name) [] fun ws h=>by
  obtain ⟨X,hX,rfl⟩:=List.mem_map.mp h
  rw [List.length_map]
  exact (ok.hs X (List.mem_of_mem_take hX)).wl
 rw [List.length_map,List.length_take,List.length_nil] at this
 have:min i G.houses.length≤100:=by omega
 omega
theorem J1l {ns:List Str} {q:Str→Bool} {vs:List V} (h:A2 (fun v i=>v=V.str (ns.getD i "")) vs (Z2E (fun i=>q (ns.getD i "")) ns.length)):vs=(ns.filter q).map V.str:=by
 have e1:vs=(Z2E (fun i=>q (ns.getD i "")) ns.length).map fun i=>V.str (ns.getD i ""):=by
  generalize Z2E (fun i=>q (ns.getD i "")) ns.length=ks at h
  induction h with
  | nil=>rfl
  | cons r _ ih=>rw [r,ih]; rfl
 have e2:(List.range ns.length).map (fun i=>ns.getD i "")=ns:=by
  refine List.ext_getElem? fun j=>?_
  rw [List.getElem?_map]
  by_cases hj:j < ns.length
  ·rw [List.getElem?_range hj,List.getElem?_eq_getElem hj,Option.map_some,List.getD_eq_getElem?_getD,List.getElem?_eq_getElem hj]; rfl
  ·rw [List.getElem?_eq_none (by rw [List.length_range]; omega),List.getElem?_eq_none (by omega)]; rfl
 have e3:ns.filter q=((List.range ns.length).filter fun i=>q (ns.getD i "")).map fun i=>ns.getD i "":=by
  have:=List.filter_map (f:=fun i=>ns.getD i "") (p:=q) (l:=List.range ns.length)
  rw [e2] at this
  exact this
 rw [e1,e3,List.map_map]; rfl
theorem J7I {H:Hp} {a:Addr} {kvs:List (Key×V)} (o:HO) (h:H a=some (.dK kvs)):Kp H (upd H a o):=
 ⟨fun b xs e=>(Z0j (fun z=>by rw [z,h] at e; cases e)).trans e,fun b o xs e=>(Z0j (fun z=>by rw [z,h] at e; cases e)).trans e,fun b C dx f fs e=>(Z0j (fun z=>by rw [z,h] at e; cases e)).trans e⟩
theorem Z4F {K:W.Frag} {c:CS} {H:Hp} {pp:V} {G:Pg} (hp:PgO K c H pp G):∃ pa pdx ht hs mv,pp=.ref pa∧H pa=some (.ins c.program pdx [("all_houses",.ref ht),("main",mv)])∧SqT K H ht hs∧A2 (HsO K c H) hs G.houses∧WdO K c H mv G.main:=by
 cases hp with
 | mk a b c d=>exact ⟨_,_,_,_,_,rfl,a,b,c,d⟩
theorem SX.kwl {C l:Addr} {H H':Hp} {xs:List V} (s:SX l H H') (h:H l=some (.lst xs)):Kw C H H':=
 ⟨fun b xs e=>s b _ (fun z=>by rw [z,h] at e; cases e) e,fun b o xs e=>s b _ (fun z=>by rw [z,h] at e; cases e) e,fun b D dx f fs n e=>s b _ (fun z=>by rw [z,h] at e; cases e) e,fun b kvs e=>s b _ (fun z=>by rw [z,h] at e; cases e) e⟩
section
variable {C_Maker Cl Cs Cq Ck Ct Cw Ch Cp:Addr} {P:Program} {w:World} {K:W.Frag} {mg:Str→Option Value} {base:Heap} {B:Hp}
theorem Z9Y (T:Txt K mg Cl Ct Cw Ch Cp C_Maker Cs Cq Ck):CS.Ok (CS.mk Ct Cw Ch Cp Cl Cs Cq Ck B):=
 ⟨Z5v T.m_Term___init__ T.m_Walk___init__ (by decide),Z5v T.m_Word___init__ T.m_Walk___init__ (by decide),Z5v T.m_House___init__ T.m_Walk___init__ (by decide),Z5v T.m_Hall___init__ T.m_Walk___init__ (by decide),Z5v T.m_Scope___init__ T.m_Walk___init__ (by decide),Z5v T.m_Waits___init__ T.m_Walk___init__ (by decide)⟩
noncomputable def WNI (H1:Hp) (l:Addr) (pp:V) (houses:List Hs) (i:Nat) (σ:St) (H':Hp):Prop:=∃ o2,SX l H1 H'∧H' l=some (.lst ((Z2e [] ((houses.take i).map fun X=>X.words.map Wd.name)).map V.str))∧σ=[some pp,some (.ref l),o2]
theorem J0P (T:Txt K mg Cl Ct Cw Ch Cp C_Maker Cs Cq Ck):Has P w K mg base 1 "word_names" ["program"] (Z4R (CS.mk Ct Cw Ch Cp Cl Cs Cq Ck B) K):=by
  refine Has.of T.f_word_names sc_word_names (fun _ _ _ _ _ _ us hl=>el1 us hl fun _=>rfl) (fun vs H Q E h=>?_) (fun f cdv A outer s H vs Q E hr h=>?_)
  · obtain ⟨pp,G,rfl,_⟩:=h
    rfl
  obtain ⟨pp,G,rfl,hp,ok,hlen,q⟩:=h
  obtain ⟨pa,pdx,ht,hs,mv,rfl,ha,hq,hh,hm⟩:=Z4F hp
  have lh:hs.length=G.houses.length:=hh.len
  refine ⟨_,(Z0c (Z0w (i:=1) sc_word_names.nd rfl (Or.inr rfl) (Z0B Z0d))
    (Z0c (Z2F PassesOwn.never rfl (Z2f (Z0k (pvF 0) rfl)) (Z0n (i:=2) sc_word_names.nd rfl (Or.inl rfl)) (Z0g (Z1g (Z3m PySem.F.plainAttrs_list PySem.F.slot_list_extend PySem.F.type_list_extend J0I (pvF 1) (Z0a (Z4J rfl (BlockOk.of (N:=["word","names"]) (nl:=[none,some 1]) (cl:=[("names",s.heap.objs.size+1)]) rfl (by decide +kernel) (by decide +kernel) rfl (sub1 rfl) (nm:=["names"]) rfl (by decide +kernel) rfl (fun i hi j hj=>by
            match i,hi with
            | 0,_=>cases hj
             | 1,_=>cases hj; exact ⟨_,rfl,rfl,rfl,.inl rfl⟩
            )) (Z2f (Z0k (pvF 2) rfl))
          (fun C fp s H=>(Z0n (i:=0) (show (["word","names"]:List Str).Nodup by decide +kernel) rfl (Or.inl rfl)))
          (fun C fp s H=>(Z0u (r:=rIn K true) Z4x (show PE _ _ (Z9L K _ "name") from Z0k (pvF 0) rfl) (pvF 1) (by with_unfolding_all rfl))) (fun C fp s H=>(show PE _ _ (Z9L K _ "name") from Z0k (pvF 0) rfl))) Z0d)))))
    (Z0g (Z0s (pvF 1))))),?_⟩
  refine seq3 fun uz2 huz2 uz1 huz1=>?_
  walk_at "rd"
  refine New.of fun l H1 h1 s1 e1=>?_
  subst huz1
  walk_at "rd"
  refine ⟨Cp,pdx,_,s1 _ _ ha,T.Program.cl,T.n_Program_all_houses,.ref ht,rfl,ht,rfl,⟨_,SqT.same hq s1⟩,?_⟩
  refine Z3Q hs (WNI H1 l (.ref pa) G.houses) ⟨none,fun _ _ _ h=>h,e1,rfl⟩ (fun i σ H' _ h=>?_) (fun i y σ H' hy h=>?_) (fun σ H' h=>?_)
  · obtain ⟨o2,sx,_⟩:=h
    exact SqT.kp (SqT.same hq s1) (SX.kpl sx e1)
  · obtain ⟨o2,sx,e',rfl⟩:=h
    obtain ⟨X,hX,ho⟩:=hh.at hy
    have kp1:=SX.kpl sx e1
    have ho:=HsO.kp (ho.same s1) kp1
    have lm:=J3K ok hlen i
    generalize hM:Z2e [] ((G.houses.take i).map fun X=>X.words.map Wd.name)=M at *
    have hXk:=ok.hs X (List.mem_of_getElem? hX)
    have hwl:=hXk.wl
    cases ho with
    | @mk b bx ft wt ws _ f1 f2 f3 f4=>
    have lw:ws.length=X.words.length:=f4.len
    walk_at "rd"
    refine ⟨.inl ⟨rfl,_,SqL.of e'⟩,Ch,bx,_,f1,T.House.cl,T.n_House_own_words,_,rfl,wt,rfl,⟨_,f3⟩,fun D hD=>?_⟩
    have nDl:D≠l:=Z2Q e' hD
    refine Z3E (n:=(X.words.map Wd.name).length) (fun σ=>∃ o,σ=[o,some (.ref l)]) (fun k σ=>∃ y,ws[k]?=some y∧σ=[some y,some (.ref l)]) (fun k=>(fun x=>decide (x∉M)) ((X.words.map Wd.name).getD k "")) (fun k v H=>v=V.str ((X.words.map Wd.name).getD k "")) (fun _ _ _ _ h _=>h) ⟨_,rfl⟩ hD (by rw [sizeLine_eq,List.length_map]; omega) (fun k H2 s hk=>⟨ws,ws[k]'(by rw [List.length_map] at hk; omega),SqT.same f3 s,List.getElem?_eq_getElem _⟩) (fun H2 s=>⟨ws,SqT.same f3 s,by rw [List.length_map]; omega⟩) (fun k x σ H2 H3 K' hk s2 yl hS kk=>?_) (fun k σ hS=>?_) (fun k σ hk hS H2 K' s2 kk=>?_) (fun k σ hk hp hS H2 K' s2 kk=>?_) (fun vs H4 S4 hv hA=>?_)
    · obtain ⟨o,rfl⟩:=hS
      obtain ⟨rfl,yl⟩:=yl
      walk_at "rd"
      exact kk _ _ ⟨x,yl ws (SqT.same f3 s2),rfl⟩ (Same.refl _)
    · obtain ⟨y,_,rfl⟩:=hS
      exact ⟨_,rfl⟩
    · obtain ⟨y,hy',rfl⟩:=hS
      obtain ⟨t,ht',ho⟩:=f4.at hy'
      have hn:(X.words.map Wd.name).getD k ""=t.name:=by rw [List.getD_eq_getElem?_getD,List.getElem?_map,ht']; rfl
      rw [hn] at kk
      have ho:=ho.same s2
      cases ho with
      | mk g1 g2 g3=>
        walk_at "rd"
        refine ⟨Cw,_,_,g1,T.Word.cl,T.n_Word_name,_,rfl,_,.inl (SqL.of (s2 _ _ e')),rfl,Z2S _,?_⟩
        rw [Z8s]
        have kk:=kk H2 (Same.refl _)
        by_cases hm:t.name∈M
        · rw [decide_eq_true hm]
          rw [show (fun x=>decide (x∉M)) t.name=false from decide_eq_false (fun z=>z hm)] at kk
          exact kk
        · rw [decide_eq_false hm]
          rw [show (fun x=>decide (x∉M)) t.name=true from decide_eq_true hm] at kk
          exact kk
    · obtain ⟨y,hy',rfl⟩:=hS
      obtain ⟨t,ht',ho⟩:=f4.at hy'
      have hn:(X.words.map Wd.name).getD k ""=t.name:=by rw [List.getD_eq_getElem?_getD,List.getElem?_map,ht']; rfl
      have ho:=ho.same s2
      cases ho with
      | mk g1 g2 g3=>
        walk_at "rd"
        exact ⟨Cw,_,_,g1,T.Word.cl,T.n_Word_name,_,rfl,kk _ _ (Same.refl _) (by rw [hn])⟩
    have ev:=J1l (q:=fun x=>decide (x∉M)) hA
    rw [ev] at hv
    have lf:=List.length_filter_le (fun x=>decide (x∉M)) (X.words.map Wd.name)
    rw [List.length_map] at lf
    walk_at "rd"
    refine ⟨_,S4 _ _ e',_,hv,by rw [List.length_map,List.length_map]; omega,?_⟩
    refine ⟨_,(sx.trans (SX.of S4)).trans (SX.put _),?_,rfl⟩
    have hlt:=(List.getElem?_eq_some_iff.mp hX).1
    have et:G.houses.take (i+1)=G.houses.take i++[X]:=by rw [List.take_succ_eq_append_getElem hlt,(List.getElem?_eq_some_iff.mp hX).2]
    have em:Z2e [] ((G.houses.take (i+1)).map fun X=>X.words.map Wd.name)=Z4A M (X.words.map Wd.name):=by
      rw [et,List.map_append,← hM]
      exact Z2H _ _ _
    rw [Z0e,em,← List.map_append]
    rfl
  · obtain ⟨o2,sx,e',rfl⟩:=h
    subst huz2
    walk_at "rd"
    rw [List.take_of_length_le (by omega)] at e'
    exact q l H' h1 (fun b o e=>sx _ _ (Z0i e h1) (s1 _ _ e)) e'
noncomputable def FBI (H1:Hp) (d:Addr) (pp:V) (houses:List Hs) (i:Nat) (σ:St) (H':Hp):Prop:=∃ o3,SX d H1 H'∧H' d=some (.dK ((kvOf (fvs 0 houses) houses).take i))∧σ=[some pp,some (.ref d),some (.int ((sumW (houses.take i):Nat):Int)),o3]
theorem Z9S (T:Txt K mg Cl Ct Cw Ch Cp C_Maker Cs Cq Ck):Has P w K mg base 1 "first_blocks" ["program"] (Z4Z (CS.mk Ct Cw Ch Cp Cl Cs Cq Ck B) K):=by
 refine Has.of T.f_first_blocks sc_first_blocks (fun _ _ _ _ _ _ us hl=>el1 us hl fun _=>rfl) (fun vs H Q E h=>?_) (fun f cdv A outer s H vs Q E hr h=>?_)
 ·obtain ⟨pp,G,rfl,_⟩:=h
  rfl
 obtain ⟨pp,G,rfl,hp,ok,hlen,q⟩:=h
 obtain ⟨pa,pdx,ht,hs,mv,rfl,ha,hq,hh,hm⟩:=Z4F hp
 have lh:hs.length=G.houses.length:=hh.len
 have lf:=Z9R 0 G.houses
 refine ⟨_,(Z0c (Z0w (i:=1) sc_first_blocks.nd rfl (Or.inl rfl) Z8o)
  (Z0c (Z0w (i:=2) sc_first_blocks.nd rfl (Or.inl rfl) Z0l)
  (Z0c (Z2F PassesOwn.never rfl (Z2f (Z0k (pvF 0) rfl)) (Z0n (i:=3) sc_first_blocks.nd rfl (Or.inl rfl)) (Z0c (J1f (Z9B hr) (pvF 1) (Z0k (pvF 3) rfl) (pvF 2) rfl)
  (Z0g (J6d (i:=2) sc_first_blocks.nd rfl (Or.inl rfl) (Z0M Z0S rfl T.z_len Z4a (Z0a (Z0k (pvF 3) rfl) Z0d)) J5D))))
  (Z0g (Z0s (pvF 1)))))),?_⟩
 refine seq4 fun uz3 huz3 uz2 huz2 uz1 huz1=>?_
 walk_at "rd"
 intro d hd
 have s1:=Z0v hd (.dK [])
 have e1:upd H d (.dK []) d=some (.dK []):=Z0e
 generalize upd H d (.dK [])=H1 at *
 subst huz1
 walk_at "rd"
 subst huz2
 walk_at "rd"
 refine ⟨Cp,pdx,_,s1 _ _ ha,T.Program.cl,T.n_Program_all_houses,.ref ht,rfl,ht,rfl,⟨_,SqT.same hq s1⟩,?_⟩
 have kd:∀ {H':Hp},SX d H1 H'→Kp H1 H':=fun h=>⟨fun b xs e=>h b _ (fun z=>by rw [z,e1] at e; cases e) e,fun b o xs e=>h b _ (fun z=>by rw [z,e1] at e; cases e) e,fun b C dx f fs e=>h b _ (fun z=>by rw [z,e1] at e; cases e) e⟩
 refine Z3Q hs (FBI H1 d (.ref pa) G.houses) ⟨none,fun _ _ _ h=>h,e1,rfl⟩ (fun i σ H' _ h=>?_) (fun i y σ H' hy h=>?_) (fun σ H' h=>?_)
 ·obtain ⟨o2,sx,_⟩:=h
  exact SqT.kp (SqT.same hq s1) (kd sx)
 ·obtain ⟨o2,sx,e',rfl⟩:=h
  obtain ⟨X,hX,ho⟩:=hh.at hy
  have ho:=HsO.kp (ho.same s1) (kd sx)
  have hi:i < 100:=by have:=(List.getElem?_eq_some_iff.mp hy).1; omega
  cases ho with
  | @mk b bx ft wt ws _ f1 f2 f3 f4=>
  have lw:ws.length=X.words.length:=f4.len
  have hwl:=(ok.hs X (List.mem_of_getElem? hX)).wl
  refine seq2 fun uy1 huy1=>?_
  walk_at "rd"
  refine ⟨Ch,bx,_,f1,T.House.cl,T.n_House_name,_,rfl,_,DPut.k (k:=.inr X.name) e' ?_,?_⟩
  ·have:=List.length_take_le i (kvOf (fvs 0 G.houses) G.houses)
   rw [sizeLine_eq]; omega
  have sx2:=sx.trans (SX.put (H:=H') (.dK (putK ((kvOf (fvs 0 G.houses) G.houses).take i) (.inr X.name) (.int ((sumW (G.houses.take i):Nat):Int)))))
  have e2:upd H' d (.dK (putK ((kvOf (fvs 0 G.houses) G.houses).take i) (.inr X.name) (.int ((sumW (G.houses.take i):Nat):Int)))) d=some (.dK ((kvOf (fvs 0 G.houses) G.houses).take (i+1))):=by
   have:=J3y (n:=0) hX
   rw [Nat.zero_add] at this
   rw [Z0e,Z7y this hX,Z7R _ (Z8z lf ok.nd hX)]
  have nbd:b≠d:=fun z=>by rw [z,e'] at f1; cases f1
  have f1':upd H' d (.dK (putK ((kvOf (fvs 0 G.houses) G.houses).take i) (.inr X.name) (.int ((sumW (G.houses.take i):Nat):Int)))) b=_:=(Z0j nbd).trans f1
  have f3':=SqT.kp f3 (J7I (.dK (putK ((kvOf (fvs 0 G.houses) G.houses).take i) (.inr X.name) (.int ((sumW (G.houses.take i):Nat):Int)))) e')
  generalize upd H' d (.dK (putK ((kvOf (fvs 0 G.houses) G.houses).take i) (.inr X.name) (.int ((sumW (G.houses.take i):Nat):Int))))=H2 at *
  subst huy1
  walk_at "rd"
  refine ⟨Ch,bx,_,f1',T.House.cl,T.n_House_own_words,_,rfl,?_⟩
  refine ⟨wt,rfl,ws,.inr f3',some (.ref b),sx2,e2,?_⟩
  rw [J1T hX,lw,Int.natCast_add]
 ·obtain ⟨o2,sx,e',rfl⟩:=h
  subst huz3
  walk_at "rd"
  have lk:(kvOf (fvs 0 G.houses) G.houses).length=hs.length:=by
   have:=congrArg List.length (Z4j lf)
   rw [List.length_map,List.length_map] at this
   omega
  rw [List.take_of_length_le (by omega)] at e'
  exact q d H' (fun b o e=>sx _ _ (Z0i e hd) (s1 _ _ e)) e'
theorem J0Q (T:Txt K mg Cl Ct Cw Ch Cp C_Maker Cs Cq Ck) (h_Hall_found:HasM P w K mg base 2 Cl "found" ["self","house","word"] (Z6M (CS.mk Ct Cw Ch Cp Cl Cs Cq Ck B) K)):Has P w K mg base 3 "found_block" ["hall","firsts","house","word"] (Z7b (CS.mk Ct Cw Ch Cp Cl Cs Cq Ck B) K):=by
 refine Has.of T.f_found_block sc_found_block (fun _ _ _ _ _ _ us hl=>el4 us hl fun _ _ _ _=>rfl) (fun vs H Q E h=>?_) (fun f cdv A outer s H vs Q E hr h=>?_)
 ·obtain ⟨a,d,h,wd,G,es,r,rfl,_⟩:=h
  rfl
 obtain ⟨a,d,h,wd,G,es,r,rfl,hl,hd,hc,hel,hf,q⟩:=h
 refine ⟨_,(Z0c (Z0w (i:=4) sc_found_block.nd rfl (Or.inl rfl) (Z2P (pvF 0) T.Hall.cl h_Hall_found hr (by decide) (Z0a (pvF 2) (Z0a (pvF 3) Z0d))))
  (Z0c (Z1C (Z0u J3Q (pvF 4) Z2b (Z0V _)) (Z0g (Z0s Z2b)) Z0z)
  (Z0g (Z0s (Z0J Z3J (Z5T (Z9B hr) (pvF 1) (Z1q (r:=Z2J K) Z1a (pvF 4) Z0l (fun _ _=>rfl)) (fun _ _=>rfl)) (Z1q (r:=Z2J K) Z1a (pvF 4) Z0l (fun _ _=>rfl))))))),?_⟩
 refine seq3 fun uz2 huz2 uz1 huz1=>?_
 walk_at "rd"
 obtain ⟨dx,io,dd,kvs,ea,ed,ok,hlk⟩:=Z2W hl
 refine ⟨dx,_,ea,rfl,a,h,wd,G,es,r,rfl,hl,hc,hel,hf,fun p H1 s1 e1=>?_⟩
 subst huz1
 walk_at "rd"
 cases r with
 | none=>
  cases e1
  exact ite2 (fun _=>q _ s1) (fun z=>absurd rfl z)
 | some t=>
  obtain ⟨h',ix,d'⟩:=t
  obtain ⟨pa,xs,rfl,hq,hx⟩:=RT.tup_inv e1
  obtain ⟨v1,r1,rfl,g1,hx⟩:=hx.inv
  obtain ⟨v2,r2,rfl,g2,hx⟩:=hx.inv
  cases hx.nil_inv
  cases g1
  cases g2
  refine ite2 (fun z=>by simp at z) (fun _=>?_)
  subst huz2
  walk_at "rd"
  obtain ⟨X,lk,hd'⟩:=hf.at
  have hm:h'∈G.houses.map Hs.name:=by rw [← lk.2]; exact List.mem_map_of_mem lk.1
  have hv:=J0R (n:=0) hm
  rw [Nat.zero_add] at hv
  refine ⟨_,hq,_,ix0,.int ((Z1F G.houses h':Nat):Int),?_,⟨_,hq,_,ix1,_,rfl,_,rfl,?_⟩⟩
  ·rw [← hv]
   exact DGet.k (k:=.inr h') (s1 _ _ hd)
  ·have:=q H1 s1
   rw [show bkV (bk G (some (h',ix,d')))=V.int ((Z1F G.houses h':Nat)+(ix:Nat):Int) from by
    show V.int ((Z1F G.houses h'+ix:Nat):Int)=_
    rw [Int.natCast_add]] at this
   exact this
def TbO (H H':Hp) (l:Addr) (rows:List (List V)):Prop:=∃ vs,H' l=some (.lst vs)∧A2 (fun v ds=>∃ r,v=.ref r∧r≠l∧H r=none∧H' r=some (.lst ds)) vs rows
inductive Z6B (c:CS) (K:W.Frag) (vs:List V) (H:Hp) (Q:VK):Prop
 | mk (pp:V) (G:Pg) (ch:Str→List Str) (fo:Str→Str→Option (Str×Nat×Wd)) (a1:vs=[pp]) (a2:PgO K c H pp G) (a3:GOk G) (a4:G.houses.length≤100) (a5:(∀ x∈G.houses.map Hs.name,Chain G x (ch x)∧(ch x).length≤100∧∀ w,FO G w (x::ch x) (fo x w))) (a6:∀ l H',H l=none→Same H H'→TbO H H' l ((G.houses.map Hs.name).map fun x=>(wn G).map fun w=>bkV (bk G (fo x w)))→Q (.ref l) H'):Z6B c K vs H Q
def J0n (c:CS) (K:W.Frag):Sp:=fun vs H Q _=>Z6B c K vs H Q
noncomputable def TBI (H0 H1:Hp) (l:Addr) (rows:List (List V)) (σ0:St) (i:Nat) (σ:St) (H':Hp):Prop:=∃ o5,SX l H1 H'∧TbO H0 H' l (rows.take i)∧σ=σ0++[o5]
theorem J1N (T:Txt K mg Cl Ct Cw Ch Cp C_Maker Cs Cq Ck) (h_Hall___init__:HasM P w K mg base 1 Cl "__init__" ["self","program"] (Z3T (CS.mk Ct Cw Ch Cp Cl Cs Cq Ck B) K)) (h_first_blocks:Has P w K mg base 1 "first_blocks" ["program"] (Z4Z (CS.mk Ct Cw Ch Cp Cl Cs Cq Ck B) K)) (h_word_names:Has P w K mg base 1 "word_names" ["program"] (Z4R (CS.mk Ct Cw Ch Cp Cl Cs Cq Ck B) K)) (h_Hall_houses:HasM P w K mg base 1 Cl "houses" ["self"] (Z6x (CS.mk Ct Cw Ch Cp Cl Cs Cq Ck B) K)) (h_found_block:Has P w K mg base 3 "found_block" ["hall","firsts","house","word"] (Z7b (CS.mk Ct Cw Ch Cp Cl Cs Cq Ck B) K)):Has P w K mg base 4 "tables" ["program"] (J0n (CS.mk Ct Cw Ch Cp Cl Cs Cq Ck B) K):=by
  refine Has.of T.f_tables sc_tables (fun _ _ _ _ _ _ us hl=>el1 us hl fun _=>rfl) (fun vs H Q E h=>?_) (fun f cdv A outer s H vs Q E hr h=>?_)
  · obtain ⟨pp,G,ch,fo,rfl,_⟩:=h
    rfl
  obtain ⟨pp,G,ch,fo,rfl,hp,ok,hlen,hfo,q⟩:=h
  refine ⟨_,(Z0c (Z0w (i:=1) sc_tables.nd rfl (Or.inr rfl) (Z3t T.Hall h_Hall___init__ hr (by decide) rfl (Z0a (pvF 0) Z0d)))
    (Z0c (Z0w (i:=2) sc_tables.nd rfl (Or.inr rfl) (Z0G h_first_blocks hr (by decide) rfl (Z0a (pvF 0) Z0d)))
    (Z0c (Z0w (i:=3) sc_tables.nd rfl (Or.inl rfl) (Z0G h_word_names hr (by decide) rfl (Z0a (pvF 0) Z0d)))
    (Z0c (Z0w (i:=4) sc_tables.nd rfl (Or.inl rfl) (Z0B Z0d))
    (Z0c (Z2F PassesOwn.never rfl (Z2i (Z0Z (pvF 1) T.Hall.cl h_Hall_houses hr (by decide))) (Z0n (i:=5) sc_tables.nd rfl (Or.inr rfl)) (Z0g (Z1g (Z3m PySem.F.plainAttrs_list PySem.F.slot_list_append PySem.F.type_list_append Z0K (pvF 4) (Z0a (Z1u rfl (BlockOk.of (N:=["name","firsts","hall","house"]) (nl:=[none,some 2,some 1,some 5]) (cl:=[("house",s.heap.objs.size+3),("hall",s.heap.objs.size+1),("firsts",s.heap.objs.size+2)]) rfl (by decide +kernel) (by decide +kernel) rfl (sub3 rfl rfl rfl) (nm:=["house","hall","firsts"]) rfl (by decide +kernel) rfl (fun i hi j hj=>by
            match i,hi with
            | 0,_=>cases hj
             | 1,_=>cases hj; exact ⟨_,rfl,rfl,rfl,.inl rfl⟩
             | 2,_=>cases hj; exact ⟨_,rfl,rfl,rfl,.inl rfl⟩
             | 3,_=>cases hj; exact ⟨_,rfl,rfl,rfl,.inl rfl⟩
            )) (Z2i (pvF 3))
          (fun C fp s H=>(Z0n (i:=0) (show (["name","firsts","hall","house"]:List Str).Nodup by decide +kernel) rfl (Or.inl rfl)))
          (fun C fp s H=>(Z0G h_found_block hr (by decide) rfl (Z0a (pvF 2) (Z0a (pvF 1) (Z0a (pvF 3) (Z0a (pvF 0) Z0d))))))) Z0d)))))
    (Z0g (Z0s (pvF 4)))))))),?_⟩
  refine seq6 fun uz5 huz5 uz4 huz4 uz3 huz3 uz2 huz2 uz1 huz1=>?_
  walk_at "rd"
  intro x dx n1 n2 ne
  have s1:=Z1p (C:=Cl) n1 n2 ne
  refine ⟨x,dx,pp,G,rfl,Z0e,hp.same s1,ok,hlen,fun H1 sx1 hl1 hi1=>⟨rfl,?_⟩⟩
  have sH1:Same H H1:=Z1X s1 sx1 n1
  subst huz1
  walk_at "rd"
  refine ⟨pp,G,rfl,hp.same sH1,ok,hlen,fun d H2 s2 e2=>?_⟩
  subst huz2
  walk_at "rd"
  refine ⟨pp,G,rfl,hp.same (sH1.trans s2),ok,hlen,fun nl H3 h3 s3 e3=>?_⟩
  subst huz3
  walk_at "rd"
  refine New.of fun l H4 h4 s4 e4=>?_
  subst huz4
  walk_at "rd"
  have sH4:=sH1.trans (s2.trans (s3.trans s4))
  have hl4:=hl1.same (s2.trans (s3.trans s4))
  have hi4:InO (CS.mk Ct Cw Ch Cp Cl Cs Cq Ck B) H4 x G:=by
    obtain ⟨a,b,c,e,f⟩:=hi1
    exact ⟨a,b,c,(s2.trans (s3.trans s4)) _ _ e,(s2.trans (s3.trans s4)) _ _ f⟩
  obtain ⟨dx',io,dd,kvs,ea,ed,_,hlk⟩:=Z2W hl4
  refine ⟨dx',_,ea,rfl,x,G,rfl,hi4,fun hsl H5 h5 s5 e5=>?_⟩
  refine ⟨hsl,rfl,⟨_,SqL.of e5⟩,?_⟩
  have h0l:H l=none:=by
    cases e:H l with
    | none=>rfl
    | some o=>rw [sH1.trans (s2.trans s3) _ _ e] at h4; cases h4
  have sH5:=sH4.trans s5
  have e4':=s5 _ _ e4
  have lwn:(wn G).length≤10000:=by
    have:=J3K ok hlen G.houses.length
    rw [List.take_of_length_le (Nat.le_refl _)] at this
    exact this
  refine Z2U ((G.houses.map Hs.name).map V.str) (TBI H H5 l ((G.houses.map Hs.name).map fun x=>(wn G).map fun w=>bkV (bk G (fo x w))) [some pp,some (V.ref x),some (V.ref d),some (V.ref nl),some (V.ref l)]) ⟨none,fun _ _ _ h=>h,⟨[],e4',.nil⟩,rfl⟩ (fun i σ H' _ h=>?_) (fun i y σ H' hy h=>?_) (fun σ H' h=>?_)
  · obtain ⟨o5,sx,_⟩:=h
    exact SqL.of (sx _ _ (Z2Q e4 h5) e5)
  · obtain ⟨o5,sx,⟨vs,hv,hA⟩,rfl⟩:=h
    rw [List.getElem?_map] at hy
    obtain ⟨hn,hy2,rfl⟩:=Option.map_eq_some_iff.mp hy
    obtain ⟨hc,hcl,hF⟩:=hfo hn (List.mem_of_getElem? hy2)
    have nnl:nl≠l:=fun z=>Z2Q e3 h4 z.symm
    have en':=sx _ _ nnl (s5 _ _ (s4 _ _ e3))
    have ed':=sx _ _ (fun z=>Z2Q (s3 _ _ e2) h4 z.symm) (s5 _ _ (s4 _ _ (s3 _ _ e2)))
    have nsx:∀ {b:Addr} {o:HO},H4 b=some o→b≠l→H' b=some o:=fun e n=>sx _ _ n (s5 _ _ e)
    have hl':=(hl4.same s5).kw (Z9Y (B:=B) T) (SX.kwl sx e4')
    walk_at "rd"
    refine ⟨.inl ⟨rfl,_,SqL.of hv⟩,⟨_,SqL.of en'⟩,fun D hD=>?_⟩
    refine Z3G (ys:=(wn G).map V.str) none [some (.ref d),some (.ref x),some (.str hn)] (fun j v H=>∃ t,(wn G)[j]?=some t∧v=bkV (bk G (fo hn t))) (fun _ _ _ _ h _=>h) rfl hD (by rw [sizeLine_eq,List.length_map]; omega) (fun H1 s=>SqL.of (s _ _ en')) (fun j y hy H6 K' s6 kk=>?_) (fun us Hc Sc hu lu hR=>?_)
    · rw [List.getElem?_map] at hy
      obtain ⟨t,ht,rfl⟩:=Option.map_eq_some_iff.mp hy
      walk_at "rd"
      exact ⟨x,d,hn,t,G,ch hn,fo hn t,rfl,hl'.same s6,s6 _ _ ed',hc,hcl,hF t,fun H7 s7=>kk _ _ s7 ⟨t,ht,rfl⟩⟩
    have eu:=Z2O (g:=fun t=>bkV (bk G (fo hn t))) (lu.trans (by rw [List.length_map])) hR
    rw [eu] at hu
    have nDl:D≠l:=Z2Q hv hD
    have nHD:H D=none:=by
      cases e:H D with
      | none=>rfl
      | some o=>rw [sx _ _ nDl (sH5 _ _ e)] at hD; cases hD
    walk_at "rd"
    refine ⟨_,Sc _ _ hv,?_,?_⟩
    · have:=hA.len
      rw [List.length_take,List.length_map,List.length_map] at this
      omega
    refine ⟨_,(sx.trans (SX.of Sc)).trans (SX.put _),⟨_,Z0e,?_⟩,rfl⟩
    have et:((G.houses.map Hs.name).map fun x=>(wn G).map fun w=>bkV (bk G (fo x w))).take (i+1)=((G.houses.map Hs.name).map fun x=>(wn G).map fun w=>bkV (bk G (fo x w))).take i++[(wn G).map fun w=>bkV (bk G (fo hn w))]:=by
      have e:((G.houses.map Hs.name).map fun x=>(wn G).map fun w=>bkV (bk G (fo x w)))[i]?=some ((wn G).map fun w=>bkV (bk G (fo hn w))):=by rw [List.getElem?_map,hy2]; rfl
      rw [List.take_succ_eq_append_getElem (List.getElem?_eq_some_iff.mp e).1,(List.getElem?_eq_some_iff.mp e).2]
    rw [et]
    refine A2.snoc (hA.mono fun v ds ⟨r,a1,a2,a3,a4⟩=>⟨r,a1,a2,a3,by rw [Z0j a2]; exact Sc _ _ a4⟩) ⟨D,rfl,nDl,nHD,by rw [Z0j nDl]; exact hu⟩
  · obtain ⟨o5,sx,hT,rfl⟩:=h
    subst huz5
    walk_at "rd"
    rw [List.take_of_length_le (by rw [List.length_map,List.length_map,List.length_map,List.length_map]; exact Nat.le_refl _)] at hT
    exact q l H' h0l (fun b o e=>sx _ _ (Z0i e h0l) (sH5 _ _ e)) hT
end
end K52
end
section
set_option format.width 520
namespace K52
open PySem L2 TM WK
open P15 (Lb Fm Tm dats Z1B okF Ok maxD sumS flatR Bld)
open PW (Vl Wd Hs Pg Sc Wt Ws IxAt Look Chain Z2R Flds Z2Z putS Z1f getS Z1A Two Step Z2T Z1k leaf)
seal L2.PE L2.PA L2.PT L2.PS L2.PSs L2.PG L2.PGs L2.PI L2.PW
open P23 (ixO Z3C Z2s Z4V FO)
open P52 (Hr HrOk hs7 pg7 wd7 bk Z1F J0S preN J1q Z5b)
theorem Z6b {p:Nat→Bool}:∀ {n:Nat},(∀ i,i < n→p i=false)→Z2E p n=[]
 | 0,_=>rfl
 | n+1,h=>by rw [Z3a,Z6b fun i hi=>h i (by omega),h n (Nat.lt_succ_self _)]; rfl
theorem Z5o {p:Nat→Bool} {i:Nat} (h0:∀ j,j < i→p j=false) (hi:p i=true):∀ n,i < n→∃ t,Z2E p n=i::t
 | n+1,h=>by
  rw [Z3a]
  by_cases e:n=i
  ·subst e
   rw [Z6b h0,hi]; exact ⟨[],rfl⟩
  ·obtain ⟨t,ht⟩:=Z5o h0 hi n (by omega)
   rw [ht]; exact ⟨_,rfl⟩
inductive Z6q (K:W.Frag) (vs:List V) (H:Hp) (Q:VK):Prop
 | mk (l X:Addr) (us:List V) (rs:List Hr) (j:Nat) (r:Hr) (wd:Str) (es:List Str) (R:Option (Str×Nat×Wd)) (a1:vs=[.ref l,.int (j:Int),.str wd]) (a2:H l=some (.lst us)) (a3:A2 (HrO K X H) us rs) (a4:HrOk rs) (a5:rs[j]?=some r) (a6:Chain (pg7 rs) r.name es) (a7:FO (pg7 rs) wd (r.name::es) R) (a8:∀ H',Same H H'→Q (bkV (bk (pg7 rs) R)) H'):Z6q K vs H Q
def J0N (K:W.Frag):Sp:=fun vs H Q _=>Z6q K vs H Q
theorem Z5U {rs:List Hr} (ok:HrOk rs) {r:Hr} (hr:r∈rs) {Y:Hs} (h:Look (pg7 rs) r.name Y):Y=hs7 r:=
 uniq (by rw [Z5b]; exact ok.nd) _ _ h.1 (J1q hr).1 h.2
theorem J3D (r:Hr):(hs7 r).words.map Wd.name=r.words:=by
 show (r.words.map wd7).map Wd.name=r.words
 rw [List.map_map]
 exact (List.map_congr_left fun _ _=>rfl).trans (List.map_id _)
noncomputable def LBI (H:Hp) (l:Addr) (wd:Str) (rs:List Hr) (R:Option (Str×Nat×Wd)) (mm:Nat) (σ:St) (H':Hp):Prop:=∃ av,Same H H'∧σ=[some (.ref l),some av,some (.str wd)]∧((∃ (j:Nat) (r:Hr) (es:List Str),av=.int (j:Int)∧rs[j]?=some r∧Chain (pg7 rs) r.name es∧mm=es.length+1∧FO (pg7 rs) wd (r.name::es) R)∨(av=.non∧mm=0∧R=none))
theorem ix2 {α:Type} {x y z:α} {xs:List α}:atI (x::y::z::xs) 2=some z:=Z3i (j:=2) rfl
noncomputable def isEl (rs:List Hr) (e:Option Str) (i:Nat):Bool:=match rs[i]? with
 | some r=>decide (some r.name=e)
 | none=>false
theorem Z5H {rs:List Hr} {e:Option Str} {i:Nat} {r:Hr} (h:rs[i]?=some r):isEl rs e i=decide (some r.name=e):=by unfold isEl; rw [h]
section
variable {C_Maker Cl Cs Cq Ck Ct Cw Ch Cp:Addr} {P:Program} {w:World} {K:W.Frag} {mg:Str→Option Value} {base:Heap} {B:Hp}
theorem J0m (T:Txt K mg Cl Ct Cw Ch Cp C_Maker Cs Cq Ck):Has P w K mg base 1 "_law_block" ["_law_houses_here","_law_at","_law_word"] (J0N K):=by
  refine Has.of T.f__law_block sc__law_block (fun _ _ _ _ _ _ us hl=>el3 us hl fun _ _ _=>rfl) (fun vs H Q E h=>?_) (fun f cdv A outer s H vs Q E hr h=>?_)
  · obtain ⟨l,X,us,rs,j,r,wd,es,R,rfl,_⟩:=h
    rfl
  obtain ⟨l,X,us,rs,j,r,wd,es,R,rfl,el,hA,ok,hj,hc,hf,q⟩:=h
  have lus:us.length=rs.length:=hA.len
  have l12:=ok.le
  refine ⟨_,(Z0c (Z4H PassesOwn.never (Z0u Z5K (pvF 1) Z2b (Z0V _)) (Z0c (Z1C (Z0u (r:=rIn K false) Z0T (pvF 2) (Z1q (r:=Z2J K) Z1a (Z1q (r:=Z3r K) Z1i (pvF 0) (pvF 1) (fun _ _=>rfl)) Z0l (fun _ _=>rfl)) (by with_unfolding_all rfl)) (Z0g (Z0s (Z0J Z3J (Z0M (Z8v rfl) rfl T.z_sum J3x (Z0a (Z1u rfl (BlockOk.plain (N:=["_law_house"]) rfl (by decide +kernel) (by decide +kernel) (by decide +kernel)) (Z2i (Z2p (r:=rSlL K) Z5D (pvF 0) Z3e (Z3d (pvF 1))))
          (fun C fp s H=>(Z0n (i:=0) (show (["_law_house"]:List Str).Nodup by decide +kernel) rfl (Or.inl rfl)))
          (fun C fp s H=>(Z0M (r:=rLen K) J0T rfl T.z_len Z4a (Z0a (Z1q (r:=Z2J K) Z1a (pvF 0) Z0l (fun _ _=>rfl)) Z0d)))) Z0d)) (Z3m PySem.F.plainAttrs_list PySem.F.slot_list_index PySem.F.type_list_index Z8C (Z1q (r:=Z2J K) Z1a (Z1q (r:=Z3r K) Z1i (pvF 0) (pvF 1) (fun _ _=>rfl)) Z0l (fun _ _=>rfl)) (Z0a (pvF 2) Z0d))))) Z0z)
    (Z0g (Z0w (i:=1) sc__law_block.nd rfl (Or.inr rfl) (Z1q (r:=Z3r K) Z1i (Z0J Z4t (Z4J rfl (BlockOk.of (N:=["_law_k","_law_house","_law_at","_law_houses_here"]) (nl:=[none,none,some 1,some 0]) (cl:=[("_law_houses_here",s.heap.objs.size+1),("_law_at",s.heap.objs.size+2)]) rfl (by decide +kernel) (by decide +kernel) rfl (sub2 rfl rfl) (nm:=["_law_houses_here","_law_at"]) rfl (by decide +kernel) rfl (fun i hi j hj=>by
            match i,hi with
            | 0,_=>cases hj
             | 1,_=>cases hj
             | 2,_=>cases hj; exact ⟨_,rfl,rfl,rfl,.inl rfl⟩
             | 3,_=>cases hj; exact ⟨_,rfl,rfl,rfl,.inl rfl⟩
            )) (J1w rfl T.z_enumerate Z4u (Z0a (pvF 0) Z0d))
          (fun C fp s H=>(show PG _ _ (Z7H K 2 _) from Z2I (n:=2) rfl (Z0t (Z0n (i:=0) (show (["_law_k","_law_house","_law_at","_law_houses_here"]:List Str).Nodup by decide +kernel) rfl (Or.inl rfl)) (Z0t (Z0n (i:=1) (show (["_law_k","_law_house","_law_at","_law_houses_here"]:List Str).Nodup by decide +kernel) rfl (Or.inl rfl)) Z2D))))
          (fun C fp s H=>(Z0u Z4y (Z1q (r:=Z2J K) Z1a (pvF 1) Z0l (fun _ _=>rfl)) (Z1q (r:=Z2J K) Z1a (Z1q (r:=Z3r K) Z1i (pvF 3) (pvF 2) (fun _ _=>rfl)) Z0l (fun _ _=>rfl)) (Z0V _))) (fun C fp s H=>(pvF 0))) (Z0B (Z0a Z2b Z0d))) Z0l (fun _ _=>rfl))))))
    (Z0g (Z0s Z2b))),?_⟩
  refine seq2 fun uz1 huz1=>?_
  walk_at "rd"
  refine ⟨LBI H l wd rs R,⟨_,_,Same.refl _,rfl,.inl ⟨j,r,es,rfl,hj,hc,rfl,hf⟩⟩,fun mm σ H' hI=>?_⟩
  obtain ⟨av,sH,rfl,hI⟩:=hI
  walk_at "rd"
  rcases hI with ⟨j,r,es,rfl,hj,hc,rfl,hf⟩ | ⟨rfl,rfl,rfl⟩
  · refine ite2 (fun _=>?_) (fun z=>absurd (fun z=>by cases z) z)
    have hrm:=List.mem_of_getElem? hj
    obtain ⟨u,hu,ho⟩:=hA.to hj
    have ho:=ho.same sH
    have el':=sH _ _ el
    have hA':=hA.mono fun _ _ r=>r.same sH
    cases ho with
    | @mk ta wl _ n1 f1 f2=>
    refine ⟨fun σ' H'=>∃ m',m' < es.length+1∧LBI H l wd rs R m' σ' H',fun _ _ h=>h,_,rfl,_,SqL.of el',.ref ta,Z3i hu,ta,rfl,⟨_,f1,.ref wl,ix2,wl,rfl,_,.inl (SqL.of f2),rfl,Z2S _,?_⟩⟩
    rw [Z8s]
    cases hf with
    | here a1 a2 a3=>
      have:=Z5U ok hrm a1
      subst this
      rw [J3D] at a2
      obtain ⟨m1,m2,m3⟩:=Z4V a2
      refine ite2 (fun _=>?_) (fun z=>absurd (decide_eq_true m1) z)
      refine ⟨_,rfl,_,SqL.of el',New.of fun p H2 h2 s2 e2=>⟨⟨_,SqL.of e2⟩,fun D hD=>?_⟩⟩
      rw [J0k] at e2
      have hT:=Z7O j (hA'.mono fun _ _ r=>r.same s2)
      refine Z3G (ys:=us.take j) none [] (fun k v H=>∃ r',(rs.take j)[k]?=some r'∧v=V.int ((r'.words.length:Nat):Int)) (fun _ _ _ _ h _=>h) rfl hD (by rw [sizeLine_eq,List.length_take]; omega) (fun H1 s=>SqL.of (s _ _ e2)) (fun k y hy H3 K' s3 kk=>?_) (fun vs H3 S3 hv lv hR=>?_)
      · obtain ⟨r',hr',ho⟩:=hT.at hy
        have ho:=ho.same s3
        cases ho with
        | mk g0 g1 g2=>
          walk_at "rd"
          refine ⟨_,g1,_,ix2,?_⟩
          exact ⟨_,rfl,_,.inl (SqL.of g2),kk _ _ (Same.refl _) ⟨r',hr',by rw [List.length_map]⟩⟩
      have ev:=Z2O (g:=fun r':Hr=>V.int ((r'.words.length:Nat):Int)) (lv.trans hT.len) hR
      rw [ev] at hv
      have s23:=s2.trans S3
      have ev2:((rs.take j).map fun r':Hr=>V.int ((r'.words.length:Nat):Int))=((rs.take j).map fun r':Hr=>((r'.words.length:Nat):Int)).map V.int:=by rw [List.map_map]; rfl
      rw [ev2] at hv
      refine ⟨D,rfl,_,SqL.of hv,_,rfl,_,SqL.of (s23 _ _ el'),.ref ta,Z3i hu,ta,rfl,⟨_,SqT.same f1 s23,.ref wl,ix2,.inl ⟨rfl,_,SqL.of (s23 _ _ f2)⟩,wl,rfl,_,s23 _ _ f2,_,m3.1,m3.2,?_⟩⟩
      have:=q H3 (sH.trans s23)
      have ef:=J0S ok.nd hj
      rw [show bkV (bk (pg7 rs) (some (r.name,_,_)))=V.int ((Z1F (rs.map hs7) r.name+_:Nat):Int) from rfl,ef] at this
      rw [show ((rs.take j).map fun r':Hr=>((r'.words.length:Nat):Int)).sum=((preN rs j:Nat):Int) from ?_,← Int.natCast_add]
      · exact this
      · unfold preN
        generalize rs.take j=zs
        induction zs with
        | nil=>rfl
        | cons z zs ih=>rw [List.map_cons,List.sum_cons,List.map_cons,List.sum_cons,ih,Int.natCast_add]
    | there a1 a2 a3=>
      have:=Z5U ok hrm a1
      subst this
      rw [J3D] at a2
      refine ite2 (fun z=>?_) (fun _=>?_)
      · obtain ⟨j,e,_⟩:=Z2s (of_decide_eq_true z)
        rw [a2] at e; cases e
      refine ⟨⟨_,SqL.of el'⟩,fun D hD=>?_⟩
      refine Z3E (n:=rs.length) (fun σ=>∃ o1 o2,σ=[o1,o2,some (V.int (j:Int)),some (V.ref l)]) (fun k σ=>∃ y,us[k]?=some y∧σ=[some (.int (k:Int)),some y,some (V.int (j:Int)),some (V.ref l)]) (isEl rs r.elder) (fun i v H=>v=V.int (i:Int)) (fun _ _ _ _ h _=>h) ⟨_,_,rfl⟩ hD (by rw [sizeLine_eq]; omega) (fun i H1 s hi=>⟨us,us[i],SqL.of (s _ _ el'),List.getElem?_eq_getElem (by omega)⟩) (fun H1 s=>⟨us,SqL.of (s _ _ el'),by omega⟩) (fun i x σ H1 H2 K' hi s1 yl hS kk=>?_) (fun i σ hS=>?_) (fun i σ hi hS H1 K' s1 kk=>?_) (fun i σ hi hp hS H1 K' s1 kk=>?_) (fun vs H2 S2 hv hA2=>?_)
      · obtain ⟨o1,o2,rfl⟩:=hS
        obtain ⟨t2,x2,rfl,ht,rfl,hx⟩:=yl
        walk_at "rd"
        refine ⟨_,SqT.of Z0e,rfl,⟨_,_,rfl,⟨_,_,rfl,?_⟩⟩⟩
        exact ⟨rfl,kk _ _ ⟨x2,hx us (SqL.of (s1 _ _ el')),rfl⟩ (Z0v ht _)⟩
      · obtain ⟨y,_,rfl⟩:=hS
        exact ⟨_,_,rfl⟩
      · obtain ⟨y,hy,rfl⟩:=hS
        obtain ⟨r',hr',ho⟩:=hA'.at hy
        have ho:=ho.same s1
        have kk:=kk H1 (Same.refl _)
        rw [Z5H hr'] at kk
        cases ho with
        | mk g0 g1 g2=>
          walk_at "rd"
          refine ⟨_,g1,_,ix0,_,SqL.of (s1 _ _ el'),.ref ta,Z3i hu,ta,rfl,⟨_,SqT.same f1 s1,_,ix1,?_,?_⟩⟩
          · cases r.elder <;> rfl
          · have ed:decide (V.str r'.name=oS r.elder)=decide (some r'.name=r.elder):=by
              cases r.elder with
              | none=>exact (decide_eq_false (fun z=>by cases z)).trans (decide_eq_false (fun z=>by cases z)).symm
              | some x=>
                by_cases hx:r'.name=x
                · exact (decide_eq_true (by rw [hx]; rfl)).trans (decide_eq_true (by rw [hx])).symm
                · exact (decide_eq_false (fun z=>hx (V.str.inj z))).trans (decide_eq_false (fun z=>hx (Option.some.inj z))).symm
            rw [ed]
            exact kk
      · obtain ⟨y,hy,rfl⟩:=hS
        exact kk _ _ (Same.refl _) rfl
      have ev:vs=(Z2E (isEl rs r.elder) rs.length).map fun i=>V.int ((i:Nat):Int):=by
        clear hv
        generalize Z2E (isEl rs r.elder) rs.length=ks at hA2
        induction hA2 with
        | nil=>rfl
        | cons r _ ih=>rw [r,ih]; rfl
      subst ev
      have lk:=Z5a (isEl rs r.elder) rs.length
      refine New.of fun p3 H3 h3 s3 e3=>⟨D,rfl,_,s3 _ _ hv,_,e3,by rw [List.length_map]; simp; omega,New.of fun p4 H4 h4 s4 e4=>?_⟩
      have sH4:=sH.trans (S2.trans (s3.trans s4))
      cases hc with
      | top lk he=>
        have:=Z5U ok hrm lk
        subst this
        have he:r.elder=none:=he
        rw [Z6b (p:=isEl rs r.elder) (n:=rs.length) (fun k hk=>by rw [Z5H (List.getElem?_eq_getElem hk),he]; exact decide_eq_false (fun z=>by cases z))] at e4
        cases a3
        exact ⟨_,SqL.of e4,_,ix0,0,by omega,.non,sH4,rfl,.inr ⟨rfl,rfl,rfl⟩⟩
      | @up _ e' _ es' lk he hc'=>
        have:=Z5U ok hrm lk
        subst this
        have he:r.elder=some e':=he
        obtain ⟨Y,hY⟩:=P23.Chain.look hc' e' List.mem_cons_self
        obtain ⟨r',hr',rfl⟩:=List.mem_map.mp hY.1
        have hn':r'.name=e':=hY.2
        obtain ⟨j',hj'⟩:=List.getElem?_of_mem hr'
        have lj':=(List.getElem?_eq_some_iff.mp hj').1
        obtain ⟨t,ht⟩:=Z5o (p:=isEl rs r.elder) (i:=j') (fun k hk=>by
          have hkl:k < rs.length:=by omega
          rw [Z5H (List.getElem?_eq_getElem hkl),he]
          refine decide_eq_false (fun z=>?_)
          have e1:(rs.map Hr.name)[k]?=some e':=by rw [List.getElem?_map,List.getElem?_eq_getElem hkl]; exact z
          have e2:(rs.map Hr.name)[j']?=some e':=by rw [List.getElem?_map,hj',← hn']; rfl
          have:=P23.J3R ok.nd e1 e2
          omega) (by rw [Z5H hj',he,hn']; exact decide_eq_true rfl) rs.length lj'
        rw [ht] at e4
        subst hn'
        exact ⟨_,SqL.of e4,_,ix0,es'.length+1,by simp,.int (j':Int),sH4,rfl,.inl ⟨j',r',es',rfl,hj',hc',rfl,a3⟩⟩
  · refine ite2 (fun z=>absurd rfl z) (fun _=>?_)
    subst huz1
    walk_at "rd"
    exact q _ sH
end
end K52
end
section
set_option format.width 520
namespace K52
open PySem L2 TM WK
open P15 (Lb Fm Tm dats Z1B okF Ok maxD sumS flatR Bld)
open PW (Vl Wd Hs Pg Sc Wt Ws IxAt Look Chain Z2R Flds Z2Z putS Z1f getS Z1A Two Step Z2T Z1k leaf)
seal L2.PE L2.PA L2.PT L2.PS L2.PSs L2.PG L2.PGs L2.PI L2.PW
open P52 (mn7 pg7)
noncomputable def numT (n:Int):Tm:=.mk .number (.int n) []
theorem Z3U {K:W.Frag} {C:Addr} {H:Hp} {v:V} {n:Int} (h:TO K C H v (numT n)):∃ a dx inn sh,v=.ref a∧H a=some (.ins C dx [("form",.str "number"),("label",.int n),("inner",.ref inn),("deep",.int 1),("many",.int 1),("shape",.ref sh)]):=by
 cases h with
 | mk a b c d e=>exact ⟨_,_,_,_,rfl,a⟩
inductive J0C (vs:List V) (H:Hp) (Q:VK):Prop
 | mk (hv:V) (a:Str) (a1:vs=[hv,.str a,.str a]) (a2:Q (.bl true) H):J0C vs H Q
def J0i:Sp:=fun vs H Q _=>J0C  vs H Q
inductive J0J (c:CS) (K:W.Frag) (vs:List V) (H:Hp) (Q:VK):Prop
 | mk (hv sv tv bv pp:V) (n:Int) (a1:vs=[hv,sv,tv,bv,pp]) (a2:TO K c.term H tv (numT n)) (a3:∀ H',Same H H'→Q (.str "number") H'):J0J c K vs H Q
def Z9M (c:CS) (K:W.Frag):Sp:=fun vs H Q _=>J0J c K vs H Q
inductive Z8Q (c:CS) (K:W.Frag) (vs:List V) (H:Hp) (Q:VK):Prop
 | mk (hv sv tv bv:V) (n:Int) (a1:vs=[hv,sv,tv,bv]) (a2:TO K c.term H tv (numT n)) (a3:∀ l H',H l=none→Same H H'→H' l=some (.lst [.str "number"])→Q (.ref l) H'):Z8Q c K vs H Q
def Z8H (c:CS) (K:W.Frag):Sp:=fun vs H Q _=>Z8Q c K vs H Q
inductive MnO (K:W.Frag) (c:CS) (H:Hp) (n:Int):V→Prop
 | mk {a dx pt:Addr} {bv:V} {nm:Str}:H a=some (.ins c.word dx [("name",.str nm),("params",.ref pt),("kind",.str "number"),("body",bv)])→SqT K H pt []→TO K c.term H bv (numT n)→MnO K c H n (.ref a)
theorem MnO.same {K:W.Frag} {c:CS} {H H':Hp} {n:Int} {v:V} (h:MnO K c H n v) (s:Same H H'):MnO K c H' n v:=by
 cases h with
 | mk a b t=>exact .mk (s _ _ a) (SqT.same b s) (t.kp (Kp.of s))
inductive Z8S (c:CS) (K:W.Frag) (vs:List V) (H:Hp) (Q:VK):Prop
 | mk (hv sv wv:V) (n:Int) (a1:vs=[hv,sv,wv]) (a2:MnO K c H n wv) (a3:∀ l H',H l=none→Same H H'→H' l=some (.lst [.str "number"])→Q (.ref l) H'):Z8S c K vs H Q
def Z8d (c:CS) (K:W.Frag):Sp:=fun vs H Q _=>Z8S c K vs H Q
theorem J3P {K:W.Frag} {c:CS} {H:Hp} {v:V} (h:WdO K c H v mn7):MnO K c H 1 v:=by
 cases h with
 | mk a b t=>
  obtain ⟨_,xs,e,hq,hx⟩:=b.tup_inv
  cases e
  cases hx
  exact .mk a hq t
def AtI (σ0:St) (H0:Hp) (_:Nat) (σ:St) (H:Hp):Prop:=σ=σ0∧H=H0
inductive Z5p (c:CS) (K:W.Frag) (vs:List V) (H:Hp) (Q:VK):Prop
 | mk (pp:V) (a1:vs=[pp]) (a2:PgO K c H pp (pg7 [])) (a3:∀ l l2 H',Same H H'→H' l=some (.lst [.ref l2])→H' l2=some (.lst [.str "number"])→Q (.ref l) H'):Z5p c K vs H Q
def Z5q (c:CS) (K:W.Frag):Sp:=fun vs H Q _=>Z5p c K vs H Q
inductive Z6p (K:W.Frag) (vs:List V) (H:Hp) (Q:VK):Prop
 | mk (a:Addr) (a1:vs=[.ref a]) (a2:SqL K H a []) (a3:∀ l H',H l=none→Same H H'→H' l=some (.lst [])→Q (.ref l) H'):Z6p K vs H Q
def Z6I (K:W.Frag):Sp:=fun vs H Q _=>Z6p K vs H Q
inductive Z8I (K:W.Frag) (vs:List V) (H:Hp) (Q:VK):Prop
 | mk (rl t1 t2:Addr) (x:V) (a1:vs=[.int 0,.ref rl]) (a2:H rl=some (.lst [.ref t1,.ref t2])) (a3:SqT K H t1 [.str "push",x]) (a4:SqT K H t2 [.str "back"]) (a5:∀ H',Same H H'→Q (.int 0) H'):Z8I K vs H Q
def Z7X (K:W.Frag):Sp:=fun vs H Q _=>Z8I K vs H Q
def NoM (fs:List (Str×V)):Prop:=fs.lookup (Str.ofString "own_row")=none∧fs.lookup (Str.ofString "rows")=none
inductive Z6Y (cm:Addr) (c:CS) (K:W.Frag) (vs:List V) (H:Hp) (Q:VK):Prop
 | mk (ma dx:Addr) (fs:List (Str×V)) (tv kv bv hv:V) (n:Int) (a1:vs=[.ref ma,tv,kv,bv,hv]) (a2:H ma=some (.ins cm dx fs)) (a3:TO K c.term H tv (numT n)) (a4:∀ t H',H t=none→Same H H'→H' t=some (.tup [.str "push",.int n])→Q (.ref t) H'):Z6Y cm c K vs H Q
def Z6r (cm:Addr) (c:CS) (K:W.Frag):Sp:=fun vs H Q _=>Z6Y cm c K vs H Q
inductive Z8Z (cm:Addr) (c:CS) (K:W.Frag) (vs:List V) (H:Hp) (Q:VK):Prop
 | mk (ma dx bl:Addr) (fs:List (Str×V)) (tv kv hv:V) (n:Int) (a1:vs=[.ref ma,tv,kv,.ref bl,hv]) (a2:H ma=some (.ins cm dx fs)) (a3:NoM fs) (a4:TO K c.term H tv (numT n)) (a5:∀ l t H',Same H H'→H' l=some (.lst [.ref t])→H' t=some (.tup [.str "push",.int n])→Q (.ref l) H'):Z8Z cm c K vs H Q
def Z8G (cm:Addr) (c:CS) (K:W.Frag):Sp:=fun vs H Q _=>Z8Z cm c K vs H Q
noncomputable def blD (n:Int):PyData:=.tuple [.int 0,.int 0,.tuple [.tuple [.str "push",.int n],.tuple [.str "back"]]]
inductive Z6j (cm:Addr) (c:CS) (K:W.Frag) (vs:List V) (H:Hp) (Q:VK):Prop
 | mk (ma dx:Addr) (fs:List (Str×V)) (wv kv:V) (n:Int) (a1:vs=[.ref ma,.non,wv,kv]) (a2:H ma=some (.ins cm dx fs)) (a3:NoM fs) (a4:MnO K c H n wv) (a5:∀ v H',Same H H'→RT K H' v (blD n)→Q v H'):Z6j cm c K vs H Q
def Z6A (cm:Addr) (c:CS) (K:W.Frag):Sp:=fun vs H Q _=>Z6j cm c K vs H Q
noncomputable def fsM (pp:V) (hl wo fi st:Addr):List (Str×V):=[("program",pp),("hall",.ref hl),("word_order",.ref wo),("firsts",.ref fi),("sites",.ref st)]
inductive Z8p (cm:Addr) (c:CS) (K:W.Frag) (vs:List V) (H:Hp) (Q:VK):Prop
 | mk (x dx:Addr) (pp:V) (G:Pg) (a1:vs=[.ref x,pp]) (a2:H x=some (.ins cm dx [])) (a3:PgO K c H pp G) (a4:GOk G) (a5:G.houses.length≤100) (a6:∀ hl wo fi st H',SX x H H'→H' x=some (.ins cm dx (fsM pp hl wo fi st))→Q .non H'):Z8p cm c K vs H Q
def Z8K (cm:Addr) (c:CS) (K:W.Frag):Sp:=fun vs H Q _=>Z8p cm c K vs H Q
inductive J1Q (cm:Addr) (c:CS) (K:W.Frag) (vs:List V) (H:Hp) (Q:VK):Prop
 | mk (ma dx hl wo fi st:Addr) (pp:V) (a1:vs=[.ref ma]) (a2:H ma=some (.ins cm dx (fsM pp hl wo fi st))) (a3:PgO K c H pp (pg7 [])) (a4:∀ v H',Same H H'→RdD K H' v (.list [blD 1])→Q v H'):J1Q cm c K vs H Q
def J0X (cm:Addr) (c:CS) (K:W.Frag):Sp:=fun vs H Q _=>J1Q cm c K vs H Q
inductive Z4P (c:CS) (K:W.Frag) (vs:List V) (H:Hp) (Q:VK):Prop
 | mk (pp:V) (a1:vs=[pp]) (a2:PgO K c H pp (pg7 [])) (a3:∀ v H',Same H H'→RdD K H' v (.list [blD 1])→Q v H'):Z4P c K vs H Q
def Z7r (c:CS) (K:W.Frag):Sp:=fun vs H Q _=>Z4P c K vs H Q
theorem PgO.kp' {K:W.Frag} {c:CS} {H H':Hp} {v:V} {d:Pg} (h:PgO K c H v d) (k:Kp H H'):PgO K c H' v d:=by
 cases h with
 | mk a q t m=>exact .mk (k.i _ _ _ _ _ a) (SqT.kp q k) (t.mono fun _ _ r=>HsO.kp r k) (WdO.kp m k)
section
variable {C_Maker Cl Cs Cq Ck Ct Cw Ch Cp:Addr} {P:Program} {w:World} {K:W.Frag} {mg:Str→Option Value} {base:Heap} {B:Hp}
theorem J4r (T:Txt K mg Cl Ct Cw Ch Cp C_Maker Cs Cq Ck):Has P w K mg base 1 "fits" ["hall","one","other"] J0i:=by
 refine Has.of T.f_fits J4K (fun _ _ _ _ _ _ us hl=>el3 us hl fun _ _ _=>rfl) (fun vs H Q E h=>?_) (fun f cdv A outer s H vs Q E hr h=>?_)
 ·obtain ⟨hv,a,rfl,_⟩:=h
  rfl
 obtain ⟨hv,a,rfl,q⟩:=h
 refine ⟨_,(Z0c (Z1C (Z0u Z4y (pvF 1) (pvF 2) (Z0V _)) (Z0g (Z0s J4F)) Z0z)
  (Z0g Z0q)),?_⟩
 walk_at "rd"
 exact q
theorem J4A (T:Txt K mg Cl Ct Cw Ch Cp C_Maker Cs Cq Ck):Has P w K mg base 1 "own_kind" ["hall","house","term","bound","parts"] (Z9M (CS.mk Ct Cw Ch Cp Cl Cs Cq Ck B) K):=by
 refine Has.of T.f_own_kind Z7v (fun _ _ _ _ _ _ us hl=>el5 us hl fun _ _ _ _ _=>rfl) (fun vs H Q E h=>?_) (fun f cdv A outer s H vs Q E hr h=>?_)
 ·obtain ⟨hv,sv,tv,bv,pp,n,rfl,_⟩:=h
  rfl
 obtain ⟨hv,sv,tv,bv,pp,n,rfl,ht,q⟩:=h
 obtain ⟨a,dx,inn,sh,rfl,h1⟩:=Z3U ht
 refine ⟨_,(Z0c (Z1C (Z0u (r:=rIn K false) Z0T (Z0k (pvF 2) rfl) (Z0y (Z0a Z0o (Z0a Z0o Z0d))) (by with_unfolding_all rfl)) (Z0g (Z0s (Z0k (pvF 2) rfl))) Z0z)
  (Z0c Z0q
  (Z0c Z0q
  (Z0c Z0q
  (Z0c Z0q
  (Z0c Z0q
  (Z0c Z0q
  (Z0c Z0q
  (Z0c Z0q
  (Z0c Z0q
  (Z0c Z0q
  (Z0g Z0q)))))))))))),?_⟩
 walk_at "rd"
 refine ⟨Ct,dx,_,h1,T.Term.cl,T.n_Term_form,_,rfl,New.of fun p H2 h2 s2 e2=>⟨_,.inr (SqT.of e2),rfl,rfl,?_⟩⟩
 exact ite2 (fun _=>⟨Ct,dx,_,s2 _ _ h1,T.Term.cl,T.n_Term_form,_,rfl,q _ s2⟩) (fun z=>absurd (by decide +kernel) z)
theorem J2g (T:Txt K mg Cl Ct Cw Ch Cp C_Maker Cs Cq Ck) (h_own_kind:Has P w K mg base 1 "own_kind" ["hall","house","term","bound","parts"] (Z9M (CS.mk Ct Cw Ch Cp Cl Cs Cq Ck B) K)) (h_Term_parts:HasM P w K mg base 1 Ct "parts" ["self"] (Z3S Ct K)):Has P w K mg base 2 "term_kinds" ["hall","house","term","bound"] (Z8H (CS.mk Ct Cw Ch Cp Cl Cs Cq Ck B) K):=by
 refine Has.of T.f_term_kinds sc_term_kinds (fun _ _ _ _ _ _ us hl=>el4 us hl fun _ _ _ _=>rfl) (fun vs H Q E h=>?_) (fun f cdv A outer s H vs Q E hr h=>?_)
 ·obtain ⟨hv,sv,tv,bv,n,rfl,_⟩:=h
  rfl
 obtain ⟨hv,sv,tv,bv,n,rfl,ht,q⟩:=h
 refine ⟨_,(Z0c (Z0w (i:=4) sc_term_kinds.nd rfl (Or.inl rfl) (Z0B Z0d))
  (Z0c (Z0w (i:=5) sc_term_kinds.nd rfl (Or.inl rfl) (Z0B Z0d))
  (Z0c (Z2F PassesOwn.never rfl (Z2i (Z0Z (pvF 2) T.Term.cl h_Term_parts hr (by decide))) (Z0n (i:=6) sc_term_kinds.nd rfl (Or.inl rfl)) (Z0c Z0q
  (Z0c Z0q
  (Z0g Z0q))))
  (Z0g (Z0s (Z0J Z4t (Z0B (Z0a (Z0G h_own_kind hr (by decide) rfl (Z0a (pvF 0) (Z0a (pvF 1) (Z0a (pvF 2) (Z0a (pvF 3) (Z0a (pvF 4) Z0d)))))) Z0d)) (pvF 5))))))),?_⟩
 refine seq4 fun uz3 huz3 uz2 huz2 uz1 huz1=>?_
 walk_at "rd"
 refine New.of fun l1 H1 h1 s1 e1=>?_
 subst huz1
 walk_at "rd"
 refine New.of fun l2 H2 h2 s2 e2=>?_
 subst huz2
 walk_at "rd"
 obtain ⟨a,dx,inn,sh,rfl,hta⟩:=Z3U ht
 have s12:=s1.trans s2
 refine ⟨a,rfl,dx,_,s12 _ _ hta,rfl,⟨_,_,rfl,ht.kp (Kp.of s12),fun l3 us h3 hus=>?_⟩⟩
 cases hus
 have s3:=Z0v h3 (.lst [])
 have e3:upd H2 l3 (.lst []) l3=some (.lst []):=Z0e
 generalize upd H2 l3 (.lst [])=H3 at *
 refine ⟨l3,rfl,⟨_,SqL.of e3⟩,Z2U [] (AtI [some hv,some sv,some (.ref a),some bv,some (V.ref l1),some (V.ref l2),none,none] H3) ⟨rfl,rfl⟩ (fun i σ H' _ h=>by obtain ⟨rfl,rfl⟩:=h; exact SqL.of e3) (fun i y σ H' hy _=>by cases hy) (fun σ H' h=>?_)⟩
 obtain ⟨rfl,rfl⟩:=h
 subst huz3
 walk_at "rd"
 refine ⟨hv,sv,.ref a,bv,.ref l1,n,rfl,ht.kp (Kp.of (s12.trans s3)),fun H4 s4=>?_⟩
 refine New.of fun p5 H5 h5 s5 e5=>⟨_,e5,_,s5 _ _ (s4 _ _ (s3 _ _ e2)),by decide,New.of fun p6 H6 h6 s6 e6=>?_⟩
 have sH:=s12.trans (s3.trans (s4.trans (s5.trans s6)))
 refine q p6 H6 ?_ sH e6
 cases e:H p6 with
 | none=>rfl
 | some o=>rw [s12.trans (s3.trans (s4.trans s5)) _ _ e] at h6; cases h6
theorem J2M (T:Txt K mg Cl Ct Cw Ch Cp C_Maker Cs Cq Ck) (h_term_kinds:Has P w K mg base 2 "term_kinds" ["hall","house","term","bound"] (Z8H (CS.mk Ct Cw Ch Cp Cl Cs Cq Ck B) K)) (h_fits:Has P w K mg base 1 "fits" ["hall","one","other"] J0i):Has P w K mg base 3 "body_kinds" ["hall","house","word"] (Z8d (CS.mk Ct Cw Ch Cp Cl Cs Cq Ck B) K):=by
 refine Has.of T.f_body_kinds sc_body_kinds (fun _ _ _ _ _ _ us hl=>el3 us hl fun _ _ _=>rfl) (fun vs H Q E h=>?_) (fun f cdv A outer s H vs Q E hr h=>?_)
 ·obtain ⟨hv,sv,wv,n,rfl,_⟩:=h
  rfl
 obtain ⟨hv,sv,wv,n,rfl,hm,q⟩:=h
 refine ⟨_,(Z0c (Z0w (i:=3) sc_body_kinds.nd rfl (Or.inl rfl) (Z0G h_term_kinds hr (by decide) rfl (Z0a (pvF 0) (Z0a (pvF 1) (Z0a (Z0k (pvF 2) rfl) (Z0a (Z0L (r:=J1j K) (Z9h rfl) rfl T.z_dict J0l (Z0a (Z0k (pvF 2) rfl) Z0d)) Z0d))))))
  (Z0c (Z1C (J3p (Z8R (Z0G h_fits hr (by decide) rfl (Z0a (pvF 0) (Z0a (Z1q (r:=Z3r K) Z1i (pvF 3) Z0l (fun _ _=>rfl)) (Z0a (Z0k (pvF 2) rfl) Z0d)))))) (Z0g Z0q) Z0z)
  (Z0g (Z0s (pvF 3))))),?_⟩
 cases hm with
 | @mk a dx pt bv nm f1 f2 f3=>
 refine seq3 fun uz2 huz2 uz1 huz1=>?_
 walk_at "rd"
 refine ⟨Cw,dx,_,f1,T.Word.cl,T.n_Word_body,_,rfl,Cw,dx,_,f1,T.Word.cl,T.n_Word_params,_,rfl,_,rfl,f2,fun d hd=>?_⟩
 have s1:=Z0v hd (.dK [])
 generalize upd H d (.dK [])=H1 at *
 refine ⟨hv,sv,bv,.ref d,n,rfl,f3.kp (Kp.of s1),fun l H2 h2 s2 e2=>?_⟩
 subst huz1
 walk_at "rd"
 refine ⟨_,SqL.of e2,_,ix0,⟨Cw,dx,_,s2 _ _ (s1 _ _ f1),T.Word.cl,T.n_Word_kind,_,rfl,⟨hv,"number",rfl,⟨_,rfl,ite2 (fun z=>by cases z) (fun _=>?_)⟩⟩⟩⟩
 subst huz2
 walk_at "rd"
 refine q l H2 ?_ (s1.trans s2) e2
 cases e:H l with
 | none=>rfl
 | some o=>rw [s1 _ _ e] at h2; cases h2
theorem gok0:GOk (pg7 []):=⟨.nil,fun h hh=>by cases hh⟩
theorem Z9F (T:Txt K mg Cl Ct Cw Ch Cp C_Maker Cs Cq Ck) (h_Hall___init__:HasM P w K mg base 1 Cl "__init__" ["self","program"] (Z3T (CS.mk Ct Cw Ch Cp Cl Cs Cq Ck B) K)) (h_body_kinds:Has P w K mg base 3 "body_kinds" ["hall","house","word"] (Z8d (CS.mk Ct Cw Ch Cp Cl Cs Cq Ck B) K)):Has P w K mg base 4 "kinds_of" ["program"] (Z5q (CS.mk Ct Cw Ch Cp Cl Cs Cq Ck B) K):=by
 refine Has.of T.f_kinds_of sc_kinds_of (fun _ _ _ _ _ _ us hl=>el1 us hl fun _=>rfl) (fun vs H Q E h=>?_) (fun f cdv A outer s H vs Q E hr h=>?_)
 ·obtain ⟨pp,rfl,_⟩:=h
  rfl
 obtain ⟨pp,rfl,hp,q⟩:=h
 obtain ⟨pa,pdx,ht,hs,mv,rfl,ha,hq,hh,hm⟩:=Z4F hp
 cases hh
 have hm:=J3P hm
 refine ⟨_,(Z0c (Z0w (i:=1) sc_kinds_of.nd rfl (Or.inl rfl) (Z3t T.Hall h_Hall___init__ hr (by decide) rfl (Z0a (pvF 0) Z0d)))
  (Z0c (Z0w (i:=2) sc_kinds_of.nd rfl (Or.inl rfl) (Z0B Z0d))
  (Z0c (Z2F PassesOwn.never rfl (Z2f (Z0k (pvF 0) rfl)) (Z0n (i:=3) sc_kinds_of.nd rfl (Or.inl rfl)) (Z0g Z0q))
  (Z0c (Z1g (Z3m PySem.F.plainAttrs_list PySem.F.slot_list_append PySem.F.type_list_append Z0K (pvF 2) (Z0a (Z0G h_body_kinds hr (by decide) rfl (Z0a (pvF 1) (Z0a Z2b (Z0a (Z0k (pvF 0) rfl) Z0d)))) Z0d)))
  (Z0g (Z0s (pvF 2))))))),?_⟩
 refine seq5 fun uz4 huz4 uz3 huz3 uz2 huz2 uz1 huz1=>?_
 walk_at "rd"
 intro x dx n1 n2 ne
 have s1:=Z1p (C:=Cl) n1 n2 ne
 refine ⟨x,dx,.ref pa,pg7 [],rfl,Z0e,hp.same s1,gok0,by decide,fun H1 sx1 hl1 hi1=>⟨rfl,?_⟩⟩
 have sH1:Same H H1:=Z1X s1 sx1 n1
 subst huz1
 walk_at "rd"
 refine New.of fun l2 H2 h2 s2 e2=>?_
 subst huz2
 walk_at "rd"
 have sH2:=sH1.trans s2
 refine ⟨Cp,pdx,_,sH2 _ _ ha,T.Program.cl,T.n_Program_all_houses,.ref ht,rfl,ht,rfl,⟨_,SqT.same hq sH2⟩,?_⟩
 refine Z3Q [] (AtI [some (.ref pa),some (.ref x),some (.ref l2),none,none] H2) ⟨rfl,rfl⟩ (fun i σ H' _ h=>by obtain ⟨rfl,rfl⟩:=h; exact SqT.same hq sH2) (fun i y σ H' hy _=>by cases hy) (fun σ H' h=>?_)
 obtain ⟨rfl,rfl⟩:=h
 subst huz3
 walk_at "rd"
 refine ⟨.inl ⟨rfl,_,SqL.of e2⟩,⟨Cp,pdx,_,sH2 _ _ ha,T.Program.cl,T.n_Program_main,_,rfl,⟨.ref x,.non,mv,1,rfl,hm.same sH2,fun l5 H5 h5 s5 e5=>⟨_,s5 _ _ e2,by decide,?_⟩⟩⟩⟩
 subst huz4
 walk_at "rd"
 have n5:l5≠l2:=Z2Q e2 h5
 have h02:H l2=none:=by
  cases e:H l2 with
  | none=>rfl
  | some o=>rw [sH1 _ _ e] at h2; cases h2
 exact q l2 l5 _ (fun b o e=>by rw [Z0j (Z0i e h02)]; exact s5 _ _ (sH2 _ _ e)) Z0e (by rw [Z0j n5]; exact e5)
theorem J1z (T:Txt K mg Cl Ct Cw Ch Cp C_Maker Cs Cq Ck):Has P w K mg base 1 "joined" ["rows"] (Z6I K):=by
 refine Has.of T.f_joined sc_joined (fun _ _ _ _ _ _ us hl=>el1 us hl fun _=>rfl) (fun vs H Q E h=>?_) (fun f cdv A outer s H vs Q E hr h=>?_)
 ·obtain ⟨a,rfl,_⟩:=h
  rfl
 obtain ⟨a,rfl,ha,q⟩:=h
 refine ⟨_,(Z0c (Z0w (i:=1) sc_joined.nd rfl (Or.inl rfl) (Z0B Z0d))
  (Z0c (Z2F PassesOwn.never rfl (Z2i (pvF 0)) (Z0n (i:=2) sc_joined.nd rfl (Or.inl rfl)) (Z0g Z0q))
  (Z0g (Z0s (pvF 1))))),?_⟩
 refine seq3 fun uz2 huz2 uz1 huz1=>?_
 walk_at "rd"
 refine New.of fun l1 H1 h1 s1 e1=>?_
 subst huz1
 walk_at "rd"
 refine ⟨⟨_,SqL.same ha s1⟩,Z2U [] (AtI [some (.ref a),some (.ref l1),none] H1) ⟨rfl,rfl⟩ (fun i σ H' _ h=>by obtain ⟨rfl,rfl⟩:=h; exact SqL.same ha s1) (fun i y σ H' hy _=>by cases hy) (fun σ H' h=>?_)⟩
 obtain ⟨rfl,rfl⟩:=h
 subst huz2
 walk_at "rd"
 exact q l1 _ h1 s1 e1
theorem J2O (T:Txt K mg Cl Ct Cw Ch Cp C_Maker Cs Cq Ck):Has P w K mg base 1 "most_bound" ["many","rows"] (Z7X K):=by
 refine Has.of T.f_most_bound Z5E (fun _ _ _ _ _ _ us hl=>el2 us hl fun _ _=>rfl) (fun vs H Q E h=>?_) (fun f cdv A outer s H vs Q E hr h=>?_)
 ·obtain ⟨rl,t1,t2,x,rfl,_⟩:=h
  rfl
 obtain ⟨rl,t1,t2,x,rfl,hr0,ht1,ht2,q⟩:=h
 refine ⟨_,(Z0g (Z0s (Z0M (r:=J4W K) (J0W rfl) rfl T.z_max J1D (Z0a (Z0J Z4t (Z0B (Z0a (pvF 0) Z0d)) (Z4J rfl (BlockOk.plain (N:=["row"]) rfl (by decide +kernel) (by decide +kernel) (by decide +kernel)) (Z2i (pvF 1))
     (fun C fp s H=>(Z0n (i:=0) (show (["row"]:List Str).Nodup by decide +kernel) rfl (Or.inl rfl)))
     (fun C fp s H=>(Z0u Z4y (Z1q (r:=Z2J K) Z1a (pvF 0) Z0l (fun _ _=>rfl)) Z0o (Z0V _))) (fun C fp s H=>(Z0J Z3J (Z1q (r:=Z2J K) Z1a (pvF 0) Z0l (fun _ _=>rfl)) Z0l)))) Z0d)))),?_⟩
 walk_at "rd"
 refine New.of fun p1 H1 h1 s1 e1=>⟨⟨_,SqL.of (s1 _ _ hr0)⟩,fun D hD=>?_⟩
 have gr:=s1 _ _ hr0
 refine Z3E (n:=2) (fun σ=>∃ o,σ=[o]) (fun k σ=>∃ t,([V.ref t1,.ref t2]:List V)[k]?=some (.ref t)∧σ=[some (.ref t)]) (fun _=>false) (fun _ _ _=>True) (fun _ _ _ _ h _=>h) ⟨_,rfl⟩ hD (by rw [sizeLine_eq]; decide) (fun k H2 s hk=>⟨_,([V.ref t1,.ref t2]:List V)[k],SqL.of (s _ _ gr),List.getElem?_eq_getElem _⟩) (fun H2 s=>⟨_,SqL.of (s _ _ gr),Nat.le_refl _⟩) (fun k y σ H2 H3 K' hk s2 yl hS kk=>?_) (fun k σ hS=>?_) (fun k σ hk hS H2 K' s2 kk=>?_) (fun k σ hk hp hS H2 K' s2 kk=>by cases hp) (fun vs H4 S4 hv hA=>?_)
 ·obtain ⟨o,rfl⟩:=hS
  obtain ⟨rfl,yl⟩:=yl
  have yl:=yl _ (SqL.of (s2 _ _ gr))
  walk_at "rd"
  match k,hk,yl with
  | 0,_,yl=>cases yl; exact kk _ _ ⟨t1,rfl,rfl⟩ (Same.refl _)
  | 1,_,yl=>cases yl; exact kk _ _ ⟨t2,rfl,rfl⟩ (Same.refl _)
 ·obtain ⟨t,_,rfl⟩:=hS
  exact ⟨_,rfl⟩
 ·obtain ⟨t,ht,rfl⟩:=hS
  have kk:=kk H2 (Same.refl _)
  have go:∀ (x:Str) (xs:List V),SqT K H2 t (.str x::xs)→x≠"keep"→IxT K t 0 H2 (fun x_1 H3=>scal x_1 (V.str (Str.ofString "keep"))=true∧K' (decide (x_1=V.str (Str.ofString "keep"))) H3):=fun x xs hq hx=>⟨_,hq,_,ix0,rfl,by rw [decide_eq_false (fun z=>hx (V.str.inj z))]; exact kk⟩
  walk_at "rd"
  match k,hk,ht with
  | 0,_,ht=>cases ht; exact go _ _ (SqT.same ht1 (s1.trans s2)) (by decide +kernel)
  | 1,_,ht=>cases ht; exact go _ _ (SqT.same ht2 (s1.trans s2)) (by decide +kernel)
 have evs:vs=[]:=by
  rw [show Z2E (fun _=>false) 2=[] from rfl] at hA
  exact A2.nil_inv hA
 subst evs
 refine ⟨D,rfl,_,S4 _ _ e1,_,hv,by decide,New.of fun p5 H5 h5 s5 e5=>⟨[0],SqL.of e5,by decide,fun m hm=>?_⟩⟩
 have em:m=0:=by simpa using hm.1
 subst em
 exact q _ (s1.trans (S4.trans s5))
theorem J0E (T:Txt K mg Cl Ct Cw Ch Cp C_Maker Cs Cq Ck) (h_Term_parts:HasM P w K mg base 1 Ct "parts" ["self"] (Z3S Ct K)):HasM P w K mg base 2 C_Maker "own_row" ["self","term","kinds","bound","house"] (Z6r C_Maker (CS.mk Ct Cw Ch Cp Cl Cs Cq Ck B) K):=by
 refine HasM.of T.m_Maker_own_row sc_Maker_own_row (fun _ _ _ _ _ _ us hl=>el5 us hl fun _ _ _ _ _=>rfl) (fun vs H Q E h=>?_) (fun f cdv A outer s H vs Q E hr h=>?_)
 ·obtain ⟨ma,dx,fs,tv,kv,bv,hv,n,rfl,_⟩:=h
  rfl
 obtain ⟨ma,dx,fs,tv,kv,bv,hv,n,rfl,hma,ht,q⟩:=h
 obtain ⟨a,tdx,inn,sh,rfl,hta⟩:=Z3U ht
 refine ⟨_,(Z0c (Z0w (i:=5) sc_Maker_own_row.nd rfl (Or.inl rfl) (Z0M Z0S rfl T.z_len Z4a (Z0a (Z0Z (pvF 1) T.Term.cl h_Term_parts hr (by decide)) Z0d)))
  (Z0c (Z1C (Z0u (r:=rIn K false) Z0T (Z0k (pvF 1) rfl) (Z0y (Z0a Z0o (Z0a Z0o Z0d))) (by with_unfolding_all rfl)) (Z0g (Z0s (Z0y (Z0a Z0o (Z0a (Z0k (pvF 1) rfl) Z0d))))) Z0z)
  (Z0c Z0q
  (Z0c Z0q
  (Z0c Z0q
  (Z0c Z0q
  (Z0c Z0q
  (Z0c Z0q
  (Z0c Z0q
  (Z0c Z0q
  (Z0g Z0q))))))))))),?_⟩
 refine seq3 fun uz2 huz2 uz1 huz1=>?_
 walk_at "rd"
 refine ⟨tdx,_,hta,rfl,⟨_,_,rfl,ht,fun l3 us h3 hus=>?_⟩⟩
 cases hus
 have s3:=Z0v h3 (.lst [])
 have e3:upd H l3 (.lst []) l3=some (.lst []):=Z0e
 generalize upd H l3 (.lst [])=H3 at *
 refine ⟨l3,rfl,_,.inl (SqL.of e3),?_⟩
 subst huz1
 walk_at "rd"
 refine ⟨Ct,tdx,_,s3 _ _ hta,T.Term.cl,T.n_Term_form,_,rfl,New.of fun p H4 h4 s4 e4=>⟨_,.inr (SqT.of e4),rfl,rfl,?_⟩⟩
 refine ite2 (fun _=>⟨Ct,tdx,_,s4 _ _ (s3 _ _ hta),T.Term.cl,T.n_Term_label,_,rfl,New.of fun p5 H5 h5 s5 e5=>?_⟩) (fun z=>absurd (by decide +kernel) z)
 refine q p5 H5 ?_ (s3.trans (s4.trans s5)) e5
 cases e:H p5 with
 | none=>rfl
 | some o=>rw [s3.trans s4 _ _ e] at h5; cases h5
theorem J2t (T:Txt K mg Cl Ct Cw Ch Cp C_Maker Cs Cq Ck) (h_Term_parts:HasM P w K mg base 1 Ct "parts" ["self"] (Z3S Ct K)) (h_joined:Has P w K mg base 1 "joined" ["rows"] (Z6I K)) (h_Maker_own_row:HasM P w K mg base 2 C_Maker "own_row" ["self","term","kinds","bound","house"] (Z6r C_Maker (CS.mk Ct Cw Ch Cp Cl Cs Cq Ck B) K)):HasM P w K mg base 3 C_Maker "rows" ["self","term","kinds","bound","house"] (Z8G C_Maker (CS.mk Ct Cw Ch Cp Cl Cs Cq Ck B) K):=by
 refine HasM.of T.m_Maker_rows sc_Maker_rows (fun _ _ _ _ _ _ us hl=>el5 us hl fun _ _ _ _ _=>rfl) (fun vs H Q E h=>?_) (fun f cdv A outer s H vs Q E hr h=>?_)
 ·obtain ⟨ma,dx,bl,fs,tv,kv,hv,n,rfl,_⟩:=h
  rfl
 obtain ⟨ma,dx,bl,fs,tv,kv,hv,n,rfl,hma,nm,ht,q⟩:=h
 obtain ⟨a,tdx,inn,sh,rfl,hta⟩:=Z3U ht
 refine ⟨_,(Z0c (Z0w (i:=5) sc_Maker_rows.nd rfl (Or.inl rfl) (Z0B Z0d))
  (Z0c (Z2F PassesOwn.never rfl (J1w rfl T.z_enumerate Z4u (Z0a (Z0Z (pvF 1) T.Term.cl h_Term_parts hr (by decide)) Z0d)) (Z2I (n:=2) rfl (Z0t (Z0n (i:=6) sc_Maker_rows.nd rfl (Or.inl rfl)) (Z0t (Z0n (i:=7) sc_Maker_rows.nd rfl (Or.inl rfl)) Z2D))) (Z0g Z0q))
  (Z0c (Z1C (Z0u Z4y (Z0k (pvF 1) rfl) Z0o (Z0V _)) (Z0g Z0q) Z0z)
  (Z0c (Z1C (Z0u Z4y (Z0k (pvF 1) rfl) Z0o (Z0V _)) (Z0g Z0q) Z0z)
  (Z0c (Z1C (PW.pt (J0F (Z0u Z4y (Z0k (pvF 1) rfl) Z0o (Z0V _)) (Z7I (Z0u (r:=rEqD K) (J0Y hr.units) (Z0k (pvF 1) rfl) Z0o (Z0V _))))) (Z0g Z0q) Z0z)
  (Z0c (Z1C (Z0u Z4y (Z0k (pvF 1) rfl) Z0o (Z0V _)) (Z0g Z0q) Z0z)
  (Z0g (Z0s (Z0J Z4t (Z0G h_joined hr (by decide) rfl (Z0a (pvF 5) Z0d)) (Z0B (Z0a (Z2P (pvF 0) T.Maker.cl h_Maker_own_row hr (by decide) (Z0a (pvF 1) (Z0a (pvF 2) (Z0a (pvF 3) (Z0a (pvF 4) Z0d))))) Z0d))))))))))),?_⟩
 refine seq7 fun uz6 huz6 uz5 huz5 uz4 huz4 uz3 huz3 uz2 huz2 uz1 huz1=>?_
 walk_at "rd"
 refine New.of fun l1 H1 h1 s1 e1=>?_
 subst huz1
 walk_at "rd"
 refine ⟨tdx,_,s1 _ _ hta,rfl,⟨_,_,rfl,ht.kp (Kp.of s1),fun l3 us h3 hus=>?_⟩⟩
 cases hus
 have s3:=Z0v h3 (.lst [])
 have e3:upd H1 l3 (.lst []) l3=some (.lst []):=Z0e
 generalize upd H1 l3 (.lst [])=H3 at *
 have s13:=s1.trans s3
 refine ⟨l3,rfl,⟨_,SqL.of e3⟩,J0K [] (AtI [some (V.ref ma),some (V.ref a),some kv,some (V.ref bl),some hv,some (V.ref l1),none,none] H3) ⟨rfl,rfl⟩ (fun i σ H' _ h=>by obtain ⟨rfl,rfl⟩:=h; exact SqL.of e3) (fun i y t σ H' hy _ _=>by cases hy) (fun σ H' h=>?_)⟩
 obtain ⟨rfl,rfl⟩:=h
 have fl:∀ {R:VK},R (.str "number") H'→Fld K (Str.ofString "form") a H' R:=fun r=>⟨Ct,_,_,s13 _ _ hta,T.Term.cl,T.n_Term_form,_,rfl,r⟩
 subst huz2
 walk_at "rd"
 refine fl ⟨rfl,ite2 (fun z=>absurd (V.str.inj z) (by decide +kernel)) (fun _=>?_)⟩
 subst huz3
 walk_at "rd"
 refine fl ⟨rfl,ite2 (fun z=>absurd (V.str.inj z) (by decide +kernel)) (fun _=>?_)⟩
 subst huz4
 walk_at "rd"
 refine fl ⟨rfl,ite2 (fun z=>absurd (V.str.inj z) (by decide +kernel)) (fun _=>?_)⟩
 subst huz5
 walk_at "rd"
 refine fl ⟨rfl,ite2 (fun z=>absurd (V.str.inj z) (by decide +kernel)) (fun _=>?_)⟩
 subst huz6
 walk_at "rd"
 refine ⟨l1,rfl,SqL.of (s3 _ _ e1),fun l5 H5 h5 s5 e5=>?_⟩
 have s15:=s13.trans s5
 refine ⟨dx,_,s15 _ _ hma,nm.1,⟨ma,dx,fs,_,kv,.ref bl,hv,n,rfl,s15 _ _ hma,ht.kp (Kp.of s15),fun t6 H6 h6 s6 e6=>?_⟩⟩
 refine New.of fun p7 H7 h7 s7 e7=>⟨l5,rfl,_,s7 _ _ (s6 _ _ e5),_,e7,by simp,New.of fun p8 H8 h8 s8 e8=>?_⟩
 exact q p8 t6 H8 (s15.trans (s6.trans (s7.trans s8))) e8 (s8 _ _ (s7 _ _ e6))
theorem J1b (T:Txt K mg Cl Ct Cw Ch Cp C_Maker Cs Cq Ck) (h_most_bound:Has P w K mg base 1 "most_bound" ["many","rows"] (Z7X K)) (h_Maker_rows:HasM P w K mg base 3 C_Maker "rows" ["self","term","kinds","bound","house"] (Z8G C_Maker (CS.mk Ct Cw Ch Cp Cl Cs Cq Ck B) K)):HasM P w K mg base 4 C_Maker "block" ["self","house","word","kinds"] (Z6A C_Maker (CS.mk Ct Cw Ch Cp Cl Cs Cq Ck B) K):=by
 refine HasM.of T.m_Maker_block sc_Maker_block (fun _ _ _ _ _ _ us hl=>el4 us hl fun _ _ _ _=>rfl) (fun vs H Q E h=>?_) (fun f cdv A outer s H vs Q E hr h=>?_)
 ·obtain ⟨ma,dx,fs,wv,kv,n,rfl,_⟩:=h
  rfl
 obtain ⟨ma,dx,fs,wv,kv,n,rfl,hma,nom,hm,q⟩:=h
 refine ⟨_,(Z0c (Z3f rfl sc_Maker_block.nd (i:=4) rfl rfl (BlockOk.plain (N:=["name","kind"]) rfl (by decide +kernel) (by decide +kernel) (by decide +kernel)) (Z2f (Z0k (pvF 2) rfl))
     (fun C fp s H=>(show PG _ _ (Z7H K 2 _) from Z2I (n:=2) rfl (Z0t (Z0n (i:=0) (show (["name","kind"]:List Str).Nodup by decide +kernel) rfl (Or.inl rfl)) (Z0t (Z0n (i:=1) (show (["name","kind"]:List Str).Nodup by decide +kernel) rfl (Or.inl rfl)) Z2D))))
     (fun C fp s H=>(pvF 0)))
  (Z0c (Z1C (Z0u Z5K (pvF 1) Z2b (Z0V _)) (Z0g Z0q) Z0z)
  (Z0c (Z0w (i:=5) sc_Maker_block.nd rfl (Or.inl rfl) (Z0J Z4t (Z2P (pvF 0) T.Maker.cl h_Maker_rows hr (by decide) (Z0a (Z0k (pvF 2) rfl) (Z0a (pvF 3) (Z0a (pvF 4) (Z0a (pvF 1) Z0d))))) (Z0B (Z0a (Z0y (Z0a Z0o Z0d)) Z0d))))
  (Z0g (Z0s (Z0y (Z0a (Z0M Z0S rfl T.z_len Z4a (Z0a (pvF 4) Z0d)) (Z0a (Z0G h_most_bound hr (by decide) rfl (Z0a (Z0M Z0S rfl T.z_len Z4a (Z0a (pvF 4) Z0d)) (Z0a (pvF 5) Z0d))) (Z0a (Z0L Z0A rfl T.z_tuple Z1E (Z0a (pvF 5) Z0d)) Z0d))))))))),?_⟩
 cases hm with
 | @mk a wdx pt bv nm f1 f2 f3=>
 refine seq4 fun uz3 huz3 uz2 huz2 uz1 huz1=>?_
 walk_at "rd"
 refine ⟨Cw,wdx,_,f1,T.Word.cl,T.n_Word_params,_,rfl,_,rfl,⟨_,f2⟩,fun D hD=>?_⟩
 refine Z4W (ys:=[]) (fun σ=>∃ o1 o2,σ=[o1,o2]) (fun j v H=>True) (fun _ _ _ _ h _=>h) ⟨_,_,rfl⟩ hD (by decide) (fun H1 s=>SqT.same f2 s) (fun i y σ hy hS H5 K' s5 kk=>by cases hy) (fun vs H1 s1 e1 lv hR=>?_)
 have evs:vs=[]:=List.length_eq_zero_iff.mp lv
 subst evs
 subst huz1
 walk_at "rd"
 subst huz2
 walk_at "rd"
 refine ⟨dx,_,s1 _ _ hma,nom.2,⟨Cw,wdx,_,s1 _ _ f1,T.Word.cl,T.n_Word_body,_,rfl,⟨ma,dx,D,fs,bv,kv,.non,n,rfl,s1 _ _ hma,nom,f3.kp (Kp.of s1),fun l t H2 s2 e2 e3=>?_⟩⟩⟩
 refine New.of fun p4 H4 h4 s4 e4=>New.of fun p5 H5 h5 s5 e5=>⟨l,rfl,_,s5 _ _ (s4 _ _ e2),_,e5,by simp,New.of fun p6 H6 h6 s6 e6=>?_⟩
 have s26:=s4.trans (s5.trans s6)
 subst huz3
 walk_at "rd"
 have e1':=s26 _ _ (s2 _ _ e1)
 refine ⟨_,.inl (SqL.of e1'),_,.inl (SqL.of e1'),⟨p6,t,p4,.int n,rfl,e6,SqT.of (s26 _ _ e3),SqT.of (s6 _ _ (s5 _ _ e4)),fun H7 s7=>⟨_,.inl ⟨SqL.of (s7 _ _ e6),fun l8 h8=>?_⟩⟩⟩⟩
 have s8:=Z0v h8 (.tup ([V.ref t]++[V.ref p4]))
 have e8:upd H7 l8 (.tup ([V.ref t]++[V.ref p4])) l8=some (.tup [V.ref t,.ref p4]):=Z0e
 generalize upd H7 l8 (.tup ([V.ref t]++[V.ref p4]))=H8 at *
 refine New.of fun p9 H9 h9 s9 e9=>?_
 have s79:=s7.trans (s8.trans s9)
 refine q _ _ (s1.trans (s2.trans (s26.trans s79))) (.tup (SqT.of e9) (.cons (.int _) (.cons (.int _) (.cons (.tup (SqT.of (s9 _ _ e8)) (.cons (.tup (SqT.of (s79 _ _ (s26 _ _ e3))) (.cons (.str _) (.cons (.int _) .nil))) (.cons (.tup (SqT.of (s79 _ _ (s6 _ _ (s5 _ _ e4)))) (.cons (.str _) .nil)) .nil))) .nil))))
theorem J2x (T:Txt K mg Cl Ct Cw Ch Cp C_Maker Cs Cq Ck) (h_Hall___init__:HasM P w K mg base 1 Cl "__init__" ["self","program"] (Z3T (CS.mk Ct Cw Ch Cp Cl Cs Cq Ck B) K)) (h_first_blocks:Has P w K mg base 1 "first_blocks" ["program"] (Z4Z (CS.mk Ct Cw Ch Cp Cl Cs Cq Ck B) K)) (h_word_names:Has P w K mg base 1 "word_names" ["program"] (Z4R (CS.mk Ct Cw Ch Cp Cl Cs Cq Ck B) K)):HasM P w K mg base 3 C_Maker "__init__" ["self","program"] (Z8K C_Maker (CS.mk Ct Cw Ch Cp Cl Cs Cq Ck B) K):=by
 refine HasM.of T.m_Maker___init__ Z4k (fun _ _ _ _ _ _ us hl=>el2 us hl fun _ _=>rfl) (fun vs H Q E h=>?_) (fun f cdv A outer s H vs Q E hr h=>?_)
 ·obtain ⟨x,dx,pp,G,rfl,_⟩:=h
  rfl
 obtain ⟨x,dx,pp,G,rfl,hx,hp,ok,hlen,q⟩:=h
 refine ⟨_,(Z0c (Z0x (pvF 0) (pvF 1) rfl)
  (Z0c (Z0x (pvF 0) (Z3t T.Hall h_Hall___init__ hr (by decide) rfl (Z0a (pvF 1) Z0d)) rfl)
  (Z0c (Z0x (pvF 0) (Z0G h_word_names hr (by decide) rfl (Z0a (pvF 1) Z0d)) rfl)
  (Z0c (Z0x (pvF 0) (Z0G h_first_blocks hr (by decide) rfl (Z0a (pvF 1) Z0d)) rfl)
  (Z0g (Z0x (pvF 0) (Z0B Z0d) rfl)))))),?_⟩
 refine seq5 fun uz4 huz4 uz3 huz3 uz2 huz2 uz1 huz1=>?_
 walk_at "rd"
 refine ⟨C_Maker,dx,_,hx,T.Maker.cl,T.n_Maker_program,Nat.lt_of_sub_eq_succ rfl,?_⟩
 subst huz1
 walk_at "rd"
 have S1:SX x H (upd H x (.ins C_Maker dx (putF "program" pp []))):=SX.put _
 have X1:upd H x (.ins C_Maker dx (putF "program" pp [])) x=some (.ins C_Maker dx (putF "program" pp [])):=Z0e
 generalize upd H x (.ins C_Maker dx (putF (Str.ofString "program") pp []))=H1 at *
 intro y dy n1 n2 ne
 have s1:=Z1p (C:=Cl) n1 n2 ne
 have hp1:PgO K (CS.mk Ct Cw Ch Cp Cl Cs Cq Ck B) H1 pp G:=PgO.kp' hp (S1.kp hx)
 refine ⟨y,dy,pp,G,rfl,Z0e,hp1.same s1,ok,hlen,fun H2 sx2 hlo _=>⟨rfl,?_⟩⟩
 have s2:Same H1 H2:=Z1X s1 sx2 n1
 refine ⟨C_Maker,dx,_,s2 _ _ X1,T.Maker.cl,T.n_Maker_hall,Nat.lt_of_sub_eq_succ rfl,?_⟩
 subst huz2
 walk_at "rd"
 have S2:SX x H (upd H2 x (.ins C_Maker dx (putF "hall" (.ref y) (putF "program" pp [])))):=S1.trans ((SX.of s2).trans (SX.put _))
 have X2:upd H2 x (.ins C_Maker dx (putF "hall" (.ref y) (putF "program" pp []))) x=some (.ins C_Maker dx (putF "hall" (.ref y) (putF "program" pp []))):=Z0e
 generalize upd H2 x (.ins C_Maker dx (putF (Str.ofString "hall") (.ref y) (putF (Str.ofString "program") pp [])))=H3 at *
 refine ⟨pp,G,rfl,PgO.kp' hp (S2.kp hx),ok,hlen,fun wo H4 h4 s4 e4=>?_⟩
 refine ⟨C_Maker,dx,_,s4 _ _ X2,T.Maker.cl,T.n_Maker_word_order,Nat.lt_of_sub_eq_succ rfl,?_⟩
 subst huz3
 walk_at "rd"
 have S4:SX x H (upd H4 x (.ins C_Maker dx (putF "word_order" (.ref wo) (putF "hall" (.ref y) (putF "program" pp []))))):=S2.trans ((SX.of s4).trans (SX.put _))
 have X4:upd H4 x (.ins C_Maker dx (putF "word_order" (.ref wo) (putF "hall" (.ref y) (putF "program" pp [])))) x=some (.ins C_Maker dx (putF "word_order" (.ref wo) (putF "hall" (.ref y) (putF "program" pp [])))):=Z0e
 generalize upd H4 x (.ins C_Maker dx (putF (Str.ofString "word_order") (.ref wo) (putF (Str.ofString "hall") (.ref y) (putF (Str.ofString "program") pp []))))=H5 at *
 refine ⟨pp,G,rfl,PgO.kp' hp (S4.kp hx),ok,hlen,fun fi H6 s6 e6=>?_⟩
 refine ⟨C_Maker,dx,_,s6 _ _ X4,T.Maker.cl,T.n_Maker_firsts,Nat.lt_of_sub_eq_succ rfl,?_⟩
 subst huz4
 walk_at "rd"
 have S6:=S4.trans ((SX.of s6).trans (SX.put (.ins C_Maker dx (putF "firsts" (.ref fi) (putF "word_order" (.ref wo) (putF "hall" (.ref y) (putF "program" pp [])))))))
 have X6:upd H6 x (.ins C_Maker dx (putF "firsts" (.ref fi) (putF "word_order" (.ref wo) (putF "hall" (.ref y) (putF "program" pp []))))) x=_:=Z0e
 generalize upd H6 x (.ins C_Maker dx (putF (Str.ofString "firsts") (.ref fi) (putF (Str.ofString "word_order") (.ref wo) (putF (Str.ofString "hall") (.ref y) (putF (Str.ofString "program") pp [])))))=H7 at *
 refine New.of fun st H8 h8 s8 e8=>?_
 refine ⟨C_Maker,dx,_,s8 _ _ X6,T.Maker.cl,T.n_Maker_sites,Nat.lt_of_sub_eq_succ rfl,?_⟩
 exact q y wo fi st _ (S6.trans ((SX.of s8).trans (SX.put _))) Z0e
theorem J4y (T:Txt K mg Cl Ct Cw Ch Cp C_Maker Cs Cq Ck) (h_kinds_of:Has P w K mg base 4 "kinds_of" ["program"] (Z5q (CS.mk Ct Cw Ch Cp Cl Cs Cq Ck B) K)) (h_Maker_block:HasM P w K mg base 4 C_Maker "block" ["self","house","word","kinds"] (Z6A C_Maker (CS.mk Ct Cw Ch Cp Cl Cs Cq Ck B) K)):HasM P w K mg base 5 C_Maker "all_blocks" ["self"] (J0X C_Maker (CS.mk Ct Cw Ch Cp Cl Cs Cq Ck B) K):=by
 refine HasM.of T.m_Maker_all_blocks sc_Maker_all_blocks (fun _ _ _ _ _ _ us hl=>el1 us hl fun _=>rfl) (fun vs H Q E h=>?_) (fun f cdv A outer s H vs Q E hr h=>?_)
 ·obtain ⟨ma,dx,hl,wo,fi,st,pp,rfl,_⟩:=h
  rfl
 obtain ⟨ma,dx,hl,wo,fi,st,pp,rfl,hma,hp,q⟩:=h
 obtain ⟨pa,pdx,ht,hs,mv,rfl,ha,hq,hh,hm⟩:=Z4F hp
 cases hh
 have hm:=J3P hm
 refine ⟨_,(Z0c (Z0w (i:=1) sc_Maker_all_blocks.nd rfl (Or.inl rfl) (Z0G h_kinds_of hr (by decide) rfl (Z0a (Z0k (pvF 0) rfl) Z0d)))
  (Z0c (Z0w (i:=2) sc_Maker_all_blocks.nd rfl (Or.inl rfl) (Z0B Z0d))
  (Z0c (Z2F PassesOwn.never rfl (Z2f (Z0k (Z0k (pvF 0) rfl) rfl)) (Z0n (i:=3) sc_Maker_all_blocks.nd rfl (Or.inl rfl)) (Z0g Z0q))
  (Z0c (Z1g (Z3m PySem.F.plainAttrs_list PySem.F.slot_list_append PySem.F.type_list_append Z0K (pvF 2) (Z0a (Z2P (pvF 0) T.Maker.cl h_Maker_block hr (by decide) (Z0a Z2b (Z0a (Z0k (Z0k (pvF 0) rfl) rfl) (Z0a (Z1q (r:=Z3r K) Z1i (pvF 1) (Z0M Z0S rfl T.z_len Z4a (Z0a (pvF 2) Z0d)) (fun _ _=>rfl)) Z0d)))) Z0d)))
  (Z0g (Z0s (pvF 2))))))),?_⟩
 refine seq5 fun uz4 huz4 uz3 huz3 uz2 huz2 uz1 huz1=>?_
 walk_at "rd"
 refine ⟨C_Maker,dx,_,hma,T.Maker.cl,T.n_Maker_program,_,rfl,⟨.ref pa,rfl,hp,fun l l2 H1 s1 e1 e2=>?_⟩⟩
 subst huz1
 walk_at "rd"
 refine New.of fun l3 H3 h3 s3 e3=>?_
 subst huz2
 walk_at "rd"
 have s13:=s1.trans s3
 refine ⟨C_Maker,dx,_,s13 _ _ hma,T.Maker.cl,T.n_Maker_program,_,rfl,?_⟩
 refine ⟨_,rfl,Cp,pdx,_,s13 _ _ ha,T.Program.cl,T.n_Program_all_houses,.ref ht,rfl,ht,rfl,⟨_,SqT.same hq s13⟩,?_⟩
 refine Z3Q [] (AtI [some (V.ref ma),some (V.ref l),some (V.ref l3),none,none] H3) ⟨rfl,rfl⟩ (fun i σ H' _ h=>by obtain ⟨rfl,rfl⟩:=h; exact SqT.same hq s13) (fun i y σ H' hy _=>by cases hy) (fun σ H' h=>?_)
 obtain ⟨rfl,rfl⟩:=h
 subst huz3
 walk_at "rd"
 refine ⟨.inl ⟨rfl,_,SqL.of e3⟩,⟨dx,_,s13 _ _ hma,rfl,⟨C_Maker,dx,_,s13 _ _ hma,T.Maker.cl,T.n_Maker_program,_,rfl,_,rfl,⟨Cp,pdx,_,s13 _ _ ha,T.Program.cl,T.n_Program_main,_,rfl,_,.inl (SqL.of e3),⟨_,SqL.of (s3 _ _ e1),_,ix0,?_⟩⟩⟩⟩⟩
 refine ⟨ma,dx,_,mv,_,1,rfl,s13 _ _ hma,⟨rfl,rfl⟩,hm.same s13,fun v H5 s5 r5=>⟨_,s5 _ _ e3,by decide,?_⟩⟩
 subst huz4
 walk_at "rd"
 have h03:H l3=none:=by
  cases e:H l3 with
  | none=>rfl
  | some o=>rw [s1 _ _ e] at h3; cases h3
 exact q _ _ (fun b o e=>by rw [Z0j (Z0i e h03)]; exact s5 _ _ (s13 _ _ e)) (.lst (SqL.of Z0e) (.cons (RT.rd (r5.kp (Kp.lst _ (s5 _ _ e3)))) .nil))
theorem Z7P (T:Txt K mg Cl Ct Cw Ch Cp C_Maker Cs Cq Ck) (h_Maker___init__:HasM P w K mg base 3 C_Maker "__init__" ["self","program"] (Z8K C_Maker (CS.mk Ct Cw Ch Cp Cl Cs Cq Ck B) K)) (h_Maker_all_blocks:HasM P w K mg base 5 C_Maker "all_blocks" ["self"] (J0X C_Maker (CS.mk Ct Cw Ch Cp Cl Cs Cq Ck B) K)):Has P w K mg base 6 "compiled" ["program"] (Z7r (CS.mk Ct Cw Ch Cp Cl Cs Cq Ck B) K):=by
 refine Has.of T.f_compiled Z7l (fun _ _ _ _ _ _ us hl=>el1 us hl fun _=>rfl) (fun vs H Q E h=>?_) (fun f cdv A outer s H vs Q E hr h=>?_)
 ·obtain ⟨pp,rfl,_⟩:=h
  rfl
 obtain ⟨pp,rfl,hp,q⟩:=h
 refine ⟨_,(Z0g (Z0s (Z0Z (Z3t T.Maker h_Maker___init__ hr (by decide) rfl (Z0a (pvF 0) Z0d)) T.Maker.cl h_Maker_all_blocks hr (by decide)))),?_⟩
 walk_at "rd"
 intro x dx n1 n2 ne
 have s1:=Z1p (C:=C_Maker) n1 n2 ne
 refine ⟨x,dx,pp,pg7 [],rfl,Z0e,hp.same s1,gok0,by decide,fun hl wo fi st H1 sx1 e1=>⟨rfl,?_⟩⟩
 have sH1:Same H H1:=Z1X s1 sx1 n1
 exact ⟨dx,_,e1,rfl,⟨x,dx,hl,wo,fi,st,pp,rfl,e1,hp.same sH1,fun v H' s' r=>q v H' (sH1.trans s') r⟩⟩
end
end K52
end
section
set_option format.width 520
namespace K52
open PySem L2 TM WK
open P15 (Lb Fm Tm dats Z1B okF Ok maxD sumS flatR Bld)
open PW (Vl Wd Hs Pg Sc Wt Ws IxAt Look Chain Z2R Flds Z2Z putS Z1f getS Z1A Two Step Z2T Z1k leaf)
seal L2.PE L2.PA L2.PT L2.PS L2.PSs L2.PG L2.PGs L2.PI L2.PW
inductive Z9d (c:CS) (K:W.Frag) (vs:List V) (H:Hp) (Q:VK):Prop
 | mk (x dx b:Addr) (hv ov:V) (kvs:List (Key×V)) (a1:vs=[.ref x,hv,ov,.ref b]) (a2:H x=some (.ins c.scope dx [])) (a3:H b=some (.dK kvs)) (a4:∀ d H',H d=none→SX x H H'→H' x=some (.ins c.scope dx [("house",hv),("own_thing",ov),("bound",.ref d)])→H' d=some (.dK kvs)→Q .non H'):Z9d c K vs H Q
def Z7T (c:CS) (K:W.Frag):Sp:=fun vs H Q _=>Z9d c K vs H Q
inductive Z8x (c:CS) (K:W.Frag) (vs:List V) (H:Hp) (Q:VK):Prop
 | mk (x dx:Addr) (a1:vs=[.ref x]) (a2:H x=some (.ins c.waits dx [])) (a3:∀ l1 l2 H',H l1=none→H l2=none→l1≠l2→SX x H H'→H' x=some (.ins c.waits dx [("waiting",.ref l1),("known",.ref l2)])→H' l1=some (.lst [])→H' l2=some (.lst [])→Q .non H'):Z8x c K vs H Q
def Z7V (c:CS) (K:W.Frag):Sp:=fun vs H Q _=>Z8x c K vs H Q
inductive J1K (c:CS) (K:W.Frag) (vs:List V) (H:Hp) (Q:VK):Prop
 | mk (a dx wl kl:Addr) (st tv sv:V) (ws:List V) (a1:vs=[.ref a,st,tv,sv]) (a2:H a=some (.ins c.waits dx [("waiting",.ref wl),("known",.ref kl)])) (a3:H wl=some (.lst ws)) (a4:ws.length < 16777216) (a5:∀ t H1,H t=none→Same H H1→H1 t=some (.tup [st,tv,sv])→Q .non (upd H1 wl (.lst (ws++[.ref t])))):J1K c K vs H Q
def J1e (c:CS) (K:W.Frag):Sp:=fun vs H Q _=>J1K c K vs H Q
inductive Z9T (c:CS) (K:W.Frag) (vs:List V) (H:Hp) (Q:VK):Prop
 | mk (a dx wl kl:Addr) (ws:List V) (a1:vs=[.ref a]) (a2:H a=some (.ins c.waits dx [("waiting",.ref wl),("known",.ref kl)])) (a3:H wl=some (.lst ws)) (a4:∀ H1,Same H H1→Q (.bl ws.isEmpty) H1):Z9T c K vs H Q
def J2a (c:CS) (K:W.Frag):Sp:=fun vs H Q _=>Z9T c K vs H Q
inductive J1i (c:CS) (K:W.Frag) (vs:List V) (H:Hp) (Q:VK):Prop
 | mk (a dx wl kl:Addr) (ws:List V) (v:V) (a1:vs=[.ref a]) (a2:H a=some (.ins c.waits dx [("waiting",.ref wl),("known",.ref kl)])) (a3:H wl=some (.lst (ws++[v]))) (a4:∀ u,u=v→Q u (upd H wl (.lst ws))):J1i c K vs H Q
def J1c (c:CS) (K:W.Frag):Sp:=fun vs H Q _=>J1i c K vs H Q
inductive J1v (c:CS) (K:W.Frag) (vs:List V) (H:Hp) (Q:VK):Prop
 | mk (a dx wl kl:Addr) (ks:List V) (v:V) (a1:vs=[.ref a,v]) (a2:H a=some (.ins c.waits dx [("waiting",.ref wl),("known",.ref kl)])) (a3:H kl=some (.lst ks)) (a4:ks.length < 16777216) (a5:∀ u,u=V.non→Q u (upd H kl (.lst (ks++[v])))):J1v c K vs H Q
def J1g (c:CS) (K:W.Frag):Sp:=fun vs H Q _=>J1v c K vs H Q
inductive J3t (c:CS) (K:W.Frag) (vs:List V) (H:Hp) (Q:VK):Prop
 | mk (a dx wl kl:Addr) (ks:List V) (v:V) (a1:vs=[.ref a]) (a2:H a=some (.ins c.waits dx [("waiting",.ref wl),("known",.ref kl)])) (a3:H kl=some (.lst (ks++[v]))) (a4:∀ u,u=v→Q u (upd H kl (.lst ks))):J3t c K vs H Q
def J3L (c:CS) (K:W.Frag):Sp:=fun vs H Q _=>J3t c K vs H Q
section
variable {C_Maker Cl Cs Cq Ck Ct Cw Ch Cp:Addr} {P:Program} {w:World} {K:W.Frag} {mg:Str→Option Value} {base:Heap} {B:Hp}
theorem J3h (T:Txt K mg Cl Ct Cw Ch Cp C_Maker Cs Cq Ck):HasM P w K mg base 1 Cs "__init__" ["self","house","own_thing","bound"] (Z7T (CS.mk Ct Cw Ch Cp Cl Cs Cq Ck B) K):=by
 refine HasM.of T.m_Scope___init__ Z4m (fun _ _ _ _ _ _ us hl=>el4 us hl fun _ _ _ _=>rfl) (fun vs H Q E h=>?_) (fun f cdv A outer s H vs Q E hr h=>?_)
 ·obtain ⟨x,dx,b,hv,ov,kvs,rfl,_⟩:=h
  rfl
 obtain ⟨x,dx,b,hv,ov,kvs,rfl,hx,hb,q⟩:=h
 refine ⟨_,(Z0c (Z0x (pvF 0) (pvF 1) rfl)
  (Z0c (Z0x (pvF 0) (pvF 2) rfl)
  (Z0g (Z0x (pvF 0) (Z0L Z9g rfl T.z_dict J0l (Z0a (pvF 3) Z0d)) rfl)))),?_⟩
 refine seq3 fun uz2 huz2 uz1 huz1=>?_
 walk_at "rd"
 refine ⟨Cs,dx,_,hx,T.Scope.cl,T.n_Scope_house,Nat.lt_of_sub_eq_succ rfl,?_⟩
 subst huz1
 walk_at "rd"
 refine ⟨Cs,dx,_,Z0e,T.Scope.cl,T.n_Scope_own_thing,Nat.lt_of_sub_eq_succ rfl,?_⟩
 subst huz2
 walk_at "rd"
 have S1:SX x H (upd (upd H x (.ins Cs dx (putF "house" hv []))) x (.ins Cs dx (putF "own_thing" ov (putF "house" hv [])))):=(SX.put _).trans (SX.put _)
 have X1:upd (upd H x (.ins Cs dx (putF "house" hv []))) x (.ins Cs dx (putF "own_thing" ov (putF "house" hv []))) x=some (.ins Cs dx (putF "own_thing" ov (putF "house" hv []))):=Z0e
 generalize upd (upd H x (.ins Cs dx (putF "house" hv []))) x (.ins Cs dx (putF "own_thing" ov (putF "house" hv [])))=H1 at *
 refine ⟨_,S1 _ _ (fun z=>by rw [z,hx] at hb; cases hb) hb,fun d hd=>?_⟩
 have s2:=Z0v hd (.dK kvs)
 have nd:d≠x:=Z2Q X1 hd
 refine ⟨Cs,dx,_,s2 _ _ X1,T.Scope.cl,T.n_Scope_bound,Nat.lt_of_sub_eq_succ rfl,?_⟩
 refine q d _ ?_ (S1.trans ((SX.of s2).trans (SX.put _))) Z0e (by rw [Z0j nd]; exact Z0e)
 cases e:H d with
 | none=>rfl
 | some o=>rw [S1 _ _ nd e] at hd; cases hd
theorem J2d (T:Txt K mg Cl Ct Cw Ch Cp C_Maker Cs Cq Ck):HasM P w K mg base 1 Cq "__init__" ["self"] (Z7V (CS.mk Ct Cw Ch Cp Cl Cs Cq Ck B) K):=by
 refine HasM.of T.m_Waits___init__ Z4o (fun _ _ _ _ _ _ us hl=>el1 us hl fun _=>rfl) (fun vs H Q E h=>?_) (fun f cdv A outer s H vs Q E hr h=>?_)
 ·obtain ⟨x,dx,rfl,_⟩:=h
  rfl
 obtain ⟨x,dx,rfl,hx,q⟩:=h
 refine ⟨_,(Z0c (Z0x (pvF 0) (Z0B Z0d) rfl)
  (Z0g (Z0x (pvF 0) (Z0B Z0d) rfl))),?_⟩
 refine seq2 fun uz1 huz1=>?_
 walk_at "rd"
 refine New.of fun l1 H1 h1 s1 e1=>?_
 refine ⟨Cq,dx,_,s1 _ _ hx,T.Waits.cl,T.n_Waits_waiting,Nat.lt_of_sub_eq_succ rfl,?_⟩
 subst huz1
 walk_at "rd"
 have n1:l1≠x:=Z2Q hx h1
 have X1:upd H1 x (.ins Cq dx (putF "waiting" (.ref l1) [])) x=some (.ins Cq dx (putF "waiting" (.ref l1) [])):=Z0e
 have L1:upd H1 x (.ins Cq dx (putF "waiting" (.ref l1) [])) l1=some (.lst []):=by rw [Z0j n1]; exact e1
 have S1:SX x H (upd H1 x (.ins Cq dx (putF "waiting" (.ref l1) []))):=(SX.of s1).trans (SX.put _)
 generalize upd H1 x (.ins Cq dx (putF "waiting" (.ref l1) []))=H2 at *
 refine New.of fun l2 H3 h2 s2 e2=>?_
 have n2:l2≠x:=Z2Q X1 h2
 refine ⟨Cq,dx,_,s2 _ _ X1,T.Waits.cl,T.n_Waits_known,Nat.lt_of_sub_eq_succ rfl,?_⟩
 refine q l1 l2 _ h1 ?_ (fun z=>Z0i L1 h2 z) (S1.trans ((SX.of s2).trans (SX.put _))) Z0e (by rw [Z0j n1]; exact s2 _ _ L1) (by rw [Z0j n2]; exact e2)
 cases e:H l2 with
 | none=>rfl
 | some o=>rw [S1 _ _ n2 e] at h2; cases h2
theorem J4w (T:Txt K mg Cl Ct Cw Ch Cp C_Maker Cs Cq Ck):HasM P w K mg base 1 Cq "wait" ["self","step","term","scope"] (J1e (CS.mk Ct Cw Ch Cp Cl Cs Cq Ck B) K):=by
 refine HasM.of T.m_Waits_wait Z5S (fun _ _ _ _ _ _ us hl=>el4 us hl fun _ _ _ _=>rfl) (fun vs H Q E h=>?_) (fun f cdv A outer s H vs Q E hr h=>?_)
 ·obtain ⟨a,dx,wl,kl,st,tv,sv,ws,rfl,_⟩:=h
  rfl
 obtain ⟨a,dx,wl,kl,st,tv,sv,ws,rfl,ha,hw,hz,q⟩:=h
 refine ⟨_,(Z0g (Z1g (Z3m PySem.F.plainAttrs_list PySem.F.slot_list_append PySem.F.type_list_append Z0K (Z0k (pvF 0) rfl) (Z0a (Z0y (Z0a (pvF 1) (Z0a (pvF 2) (Z0a (pvF 3) Z0d)))) Z0d)))),?_⟩
 walk_at "rd"
 refine ⟨Cq,dx,_,ha,T.Waits.cl,T.n_Waits_waiting,_,rfl,.inl ⟨rfl,_,SqL.of hw⟩,?_⟩
 refine New.of fun t H1 h1 s1 e1=>?_
 exact ⟨wl,rfl,ws,s1 _ _ hw,by omega,q t H1 h1 s1 e1⟩
theorem J3V (T:Txt K mg Cl Ct Cw Ch Cp C_Maker Cs Cq Ck):HasM P w K mg base 1 Cq "is_over" ["self"] (J2a (CS.mk Ct Cw Ch Cp Cl Cs Cq Ck B) K):=by
 refine HasM.of T.m_Waits_is_over Z4E (fun _ _ _ _ _ _ us hl=>el1 us hl fun _=>rfl) (fun vs H Q E h=>?_) (fun f cdv A outer s H vs Q E hr h=>?_)
 ·obtain ⟨a,dx,wl,kl,ws,rfl,_⟩:=h
  rfl
 obtain ⟨a,dx,wl,kl,ws,rfl,ha,hw,q⟩:=h
 refine ⟨_,(Z0g (Z0s (Z5O (r:=rEqN K) (J6m hr.units) (Z0k (pvF 0) rfl) (Z0B Z0d) (Z0V _)))),?_⟩
 walk_at "rd"
 refine ⟨Cq,dx,_,ha,T.Waits.cl,T.n_Waits_waiting,_,rfl,?_⟩
 refine New.of fun t H1 h1 s1 e1=>?_
 exact ⟨wl,rfl,ws,SqL.of (s1 _ _ hw),SqL.of e1,q H1 s1⟩
theorem J4z (T:Txt K mg Cl Ct Cw Ch Cp C_Maker Cs Cq Ck):HasM P w K mg base 1 Cq "take_step" ["self"] (J1c (CS.mk Ct Cw Ch Cp Cl Cs Cq Ck B) K):=by
 refine HasM.of T.m_Waits_take_step Z3R (fun _ _ _ _ _ _ us hl=>el1 us hl fun _=>rfl) (fun vs H Q E h=>?_) (fun f cdv A outer s H vs Q E hr h=>?_)
 ·obtain ⟨a,dx,wl,kl,ws,v,rfl,_⟩:=h
  rfl
 obtain ⟨a,dx,wl,kl,ws,v,rfl,ha,hw,q⟩:=h
 refine ⟨_,(Z0g (Z0s (Z9b PySem.F.plainAttrs_list PySem.F.slot_list_pop PySem.F.type_list_pop Z8T (Z0k (pvF 0) rfl)))),?_⟩
 walk_at "rd"
 refine ⟨Cq,dx,_,ha,T.Waits.cl,T.n_Waits_waiting,_,rfl,.inl ⟨rfl,_,SqL.of hw⟩,wl,rfl,_,hw,v,Z7o,?_⟩
 rw [List.dropLast_concat]
 exact q v rfl
theorem J4o (T:Txt K mg Cl Ct Cw Ch Cp C_Maker Cs Cq Ck):HasM P w K mg base 1 Cq "know" ["self","value"] (J1g (CS.mk Ct Cw Ch Cp Cl Cs Cq Ck B) K):=by
 refine HasM.of T.m_Waits_know Z5Z (fun _ _ _ _ _ _ us hl=>el2 us hl fun _ _=>rfl) (fun vs H Q E h=>?_) (fun f cdv A outer s H vs Q E hr h=>?_)
 ·obtain ⟨a,dx,wl,kl,ks,v,rfl,_⟩:=h
  rfl
 obtain ⟨a,dx,wl,kl,ks,v,rfl,ha,hw,hz,q⟩:=h
 refine ⟨_,(Z0g (Z1g (Z3m PySem.F.plainAttrs_list PySem.F.slot_list_append PySem.F.type_list_append Z0K (Z0k (pvF 0) rfl) (Z0a (pvF 1) Z0d)))),?_⟩
 walk_at "rd"
 exact ⟨Cq,dx,_,ha,T.Waits.cl,T.n_Waits_known,_,rfl,.inl ⟨rfl,_,SqL.of hw⟩,kl,rfl,ks,hw,by omega,q _ rfl⟩
theorem J6k (T:Txt K mg Cl Ct Cw Ch Cp C_Maker Cs Cq Ck):HasM P w K mg base 1 Cq "take_value" ["self"] (J3L (CS.mk Ct Cw Ch Cp Cl Cs Cq Ck B) K):=by
 refine HasM.of T.m_Waits_take_value Z3P (fun _ _ _ _ _ _ us hl=>el1 us hl fun _=>rfl) (fun vs H Q E h=>?_) (fun f cdv A outer s H vs Q E hr h=>?_)
 ·obtain ⟨a,dx,wl,kl,ks,v,rfl,_⟩:=h
  rfl
 obtain ⟨a,dx,wl,kl,ks,v,rfl,ha,hw,q⟩:=h
 refine ⟨_,(Z0g (Z0s (Z9b PySem.F.plainAttrs_list PySem.F.slot_list_pop PySem.F.type_list_pop Z8T (Z0k (pvF 0) rfl)))),?_⟩
 walk_at "rd"
 refine ⟨Cq,dx,_,ha,T.Waits.cl,T.n_Waits_known,_,rfl,.inl ⟨rfl,_,SqL.of hw⟩,kl,rfl,_,hw,v,Z7o,?_⟩
 rw [List.dropLast_concat]
 exact q v rfl
end
end K52
end
section
set_option format.width 520
namespace K52
open PySem L2 TM WK
open P15 (Lb Fm Tm dats Z1B okF Ok maxD sumS flatR Bld)
open PW (Vl Wd Hs Pg Sc Wt Ws IxAt Look Chain Z2R Flds Z2Z putS Z1f getS Z1A Two Step Z2T Z1k leaf)
seal L2.PE L2.PA L2.PT L2.PS L2.PSs L2.PG L2.PGs L2.PI L2.PW
theorem Z5M {H H':Hp} {x:Addr} (s:Same H H') (h:H' x=none):H x=none:=by
 cases e:H x with
 | none=>rfl
 | some o=>rw [s _ _ e] at h; cases h
def WA (K:W.Frag) (c:CS) (G:Pg) (most:Nat) (H:Hp) (a:Addr) (S:Ws):Prop:=∃ A,WAd K c G most H a A S
inductive Z8h (c:CS) (K:W.Frag) (vs:List V) (H:Hp) (Q:VK):Prop
 | mk (x dx:Addr) (pp:V) (G:Pg) (most:Nat) (a1:vs=[.ref x,pp,.int most]) (a2:H x=some (.ins c.walk dx [])) (a3:PgO K c H pp G) (a4:GOk G) (a5:G.houses.length≤100) (a6:Same c.bs H) (a7:c.bs x=none) (a8:∀ H',SX x H H'→WA K c G most H' x ⟨[],[],[],0,0,none⟩→Q .non H'):Z8h c K vs H Q
def Z7Z (c:CS) (K:W.Frag):Sp:=fun vs H Q _=>Z8h c K vs H Q
theorem SX.kw {x C dx:Addr} {fs:List (Str×V)} {H H':Hp} (s:SX x H H') (hx:H x=some (.ins C dx fs)):Kw C H H':=
  ⟨fun b xs h=>s b _ (fun z=>by rw [z,hx] at h; cases h) h,fun b o xs h=>s b _ (fun z=>by rw [z,hx] at h; cases h) h,
   fun b D dx f fs n h=>s b _ (fun z=>by rw [z,hx] at h; cases h; exact n rfl) h,fun b kvs h=>s b _ (fun z=>by rw [z,hx] at h; cases h) h⟩
theorem Z4K:∀ (l b:List (Str×Vl)) (p:Str×Vl),Z1f b (l++[p])=putS p.1 p.2 (Z1f b l)
 | [],_,_=>rfl
 | (k,v)::l,b,p=>Z4K l (putS k v b) p
theorem J3I {α β:Type}:∀ {as:List α} {bs:List β} {n:Nat} {a:α} {b:β},as[n]?=some a→bs[n]?=some b→(as.zip bs).take (n+1)=(as.zip bs).take n++[(a,b)]
 | _::_,_::_,0,_,_,ha,hb=>by cases ha; cases hb; rfl
 | _::as,_::bs,n+1,_,_,ha,hb=>by
  have:=J3I (as:=as) (bs:=bs) (n:=n) ha hb
  show _::List.take (n+1) (as.zip bs)=_::(List.take n (as.zip bs)++_)
  rw [this]
theorem J3A {H:Hp} {ks:List Str} {ys:List V} {xs:List Vl} (r:A2 (RV H) ys xs):∀ n,n≤min ks.length ys.length→RB H (absD (fun i=>.inr (ks.getD i "")) (fun i=>ys.getD i .non) n) (Z1f [] ((ks.zip xs).take n))
 | 0,_=>.nil
 | n+1,h=>by
  have hk:n < ks.length:=by omega
  have hy:n < ys.length:=by omega
  have e1:=List.getElem?_eq_getElem hk
  have e2:=List.getElem?_eq_getElem hy
  obtain ⟨x,e3,rx⟩:=r.at e2
  rw [J3I e1 e3,Z4K]
  show RB H (putK (absD _ _ n) (.inr (ks.getD n "")) (ys.getD n .non)) _
  rw [List.getD_eq_getElem?_getD,e1,List.getD_eq_getElem?_getD,e2]
  exact (J3A r n (by omega)).put rx
theorem J6b {H:Hp} {ks:List Str} {ys:List V} {xs:List Vl} (r:A2 (RV H) ys xs):RB H (zipD ks ys) (Z1f [] (ks.zip xs)):=by
 have:=J3A (ks:=ks) r _ (Nat.le_refl _)
 rw [List.take_of_length_le (by rw [List.length_zip,r.len]; exact Nat.le_refl _)] at this
 exact this
theorem Z9m {K:W.Frag} {H:Hp} {pt D:Addr} {ps:List (Str×Str)} {Q:VK} (hp:RT K H (.ref pt) (Z3k ps)) (hl:ps.length≤100) (hD:H D=none) (q:∀ H',Same H H'→H' D=some (.lst ((ps.map Prod.fst).map V.str))→Q (.ref D) H') :
  Z4p (Itt K pt) (Z7H K 2 (Z8f (Z3M 0) (Z8f (Z3M 1) gNil))) Z3n (Z6n 0) D Q [none,none] (upd H D (.lst [])):=by
 obtain ⟨a,xs,e,hq,hxs⟩:=hp.tup_inv
 cases e
 have lx:xs.length=ps.length:=by rw [hxs.length,List.length_map]
 refine Z4W (ys:=xs) (fun σ=>∃ o1 o2,σ=[o1,o2]) (fun j v H=>∃ t,ps[j]?=some t∧v=.str t.1) (fun _ _ _ _ h _=>h) ⟨_,_,rfl⟩ hD (by rw [sizeLine_eq]; omega) (fun H1 s=>SqT.same hq s) (fun i y σ hy hS H2 K' s k=>?_) (fun vs Hc Sc hv lv hR=>?_)
 ·obtain ⟨o1,o2,rfl⟩:=hS
  obtain ⟨t,ht,hr'⟩:=hxs.at hy
  rw [List.getElem?_map] at ht
  obtain ⟨t,ht2,rfl⟩:=Option.map_eq_some_iff.mp ht
  obtain ⟨b,zs,rfl,hz,hzs⟩:=hr'.tup_inv
  obtain ⟨v1,r1,rfl,g1,hzs⟩:=hzs.inv
  obtain ⟨v2,r2,rfl,g2,hzs⟩:=hzs.inv
  cases hzs.nil_inv
  cases g1.str_inv
  walk_at "rd"
  refine ⟨_,SqT.same hz s,rfl,⟨_,_,rfl,⟨_,_,rfl,?_⟩⟩⟩
  exact ⟨rfl,k _ _ _ ⟨_,_,rfl⟩ (Same.refl _) ⟨t,ht2,rfl⟩⟩
 ·have ev:=Z2O (g:=fun t:Str×Str=>V.str t.1) (lv.trans lx) hR
  refine q Hc Sc ?_
  rw [hv,ev,List.map_map]; rfl
inductive Z6N (c:CS) (K:W.Frag) (vs:List V) (H:Hp) (Q:VK):Prop
 | mk (a:Addr) (tv sv:V) (G:Pg) (most:Nat) (S:Ws) (n:Int) (a1:vs=[.ref a,tv,sv]) (a2:WA K c G most H a S) (a3:S.known=[]) (a4:TO K c.term H tv (numT n)) (a5:∀ H',Kw c.walk H H'→WA K c G most H' a { S with known:=.int n::S.known }→Q .non H'):Z6N c K vs H Q
def Z6Q (c:CS) (K:W.Frag):Sp:=fun vs H Q _=>Z6N c K vs H Q
inductive Z8j (c:CS) (K:W.Frag) (vs:List V) (H:Hp) (Q:VK):Prop
 | mk (a:Addr) (G:Pg) (most:Nat) (sc:Sc) (n:Int) (a1:vs=[.ref a]) (a2:WA K c G most H a ⟨[.walk (numT n) sc],[],[],0,0,none⟩) (a3:∀ H',Kw c.walk H H'→WA K c G most H' a ⟨[],[.int n],[],0,0,none⟩→Q .non H'):Z8j c K vs H Q
def Z8k (c:CS) (K:W.Frag):Sp:=fun vs H Q _=>Z8j c K vs H Q
inductive Z8M (c:CS) (K:W.Frag) (vs:List V) (H:Hp) (Q:VK):Prop
 | mk (a:Addr) (G:Pg) (most:Nat) (A:Ad) (n:Int) (a1:vs=[.ref a]) (a2:WAd K c G most H a A ⟨[],[.int n],[],0,0,none⟩) (a3:∀ u H',SX A.kl H H'→RT K H' u (.tuple [.str "value",.int n])→Q u H'):Z8M c K vs H Q
def Z8O (c:CS) (K:W.Frag):Sp:=fun vs H Q _=>Z8M c K vs H Q
theorem Z6c {K:W.Frag} {H:Hp} {v:V} (h:REn K H v none):v=.non:=by cases h; rfl
noncomputable def wk1 (n:Int):PyData:=.tuple [.tuple [.str "value",.int n],.int 0,.list []]
inductive Z6X (c:CS) (K:W.Frag) (vs:List V) (H:Hp) (Q:VK):Prop
 | mk (pp:V) (nl:Addr) (G:Pg) (most:Nat) (n:Int) (a1:vs=[pp,.ref nl,.int most]) (a2:PgO K c H pp G) (a3:GOk G) (a4:G.houses.length≤100) (a5:G.main.params=[]) (a6:G.main.body=numT n) (a7:SqL K H nl []) (a8:∀ u H',Same H H'→RdD K H' u (wk1 n)→Q u H'):Z6X c K vs H Q
def Z7e (c:CS) (K:W.Frag):Sp:=fun vs H Q _=>Z6X c K vs H Q
section
variable {C_Maker Cl Cs Cq Ck Ct Cw Ch Cp:Addr} {P:Program} {w:World} {K:W.Frag} {mg:Str→Option Value} {base:Heap} {B:Hp}
theorem J2y (T:Txt K mg Cl Ct Cw Ch Cp C_Maker Cs Cq Ck) (h_Hall___init__:HasM P w K mg base 1 Cl "__init__" ["self","program"] (Z3T (CS.mk Ct Cw Ch Cp Cl Cs Cq Ck B) K)) (h_Waits___init__:HasM P w K mg base 1 Cq "__init__" ["self"] (Z7V (CS.mk Ct Cw Ch Cp Cl Cs Cq Ck B) K)):HasM P w K mg base 3 Ck "__init__" ["self","program","most"] (Z7Z (CS.mk Ct Cw Ch Cp Cl Cs Cq Ck B) K):=by
 refine HasM.of T.m_Walk___init__ Z4B (fun _ _ _ _ _ _ us hl=>el3 us hl fun _ _ _=>rfl) (fun vs H Q E h=>?_) (fun f cdv A outer s H vs Q E hr h=>?_)
 ·obtain ⟨x,dx,pp,G,most,rfl,_⟩:=h
  rfl
 obtain ⟨x,dx,pp,G,most,rfl,hx,hp,gok,hlen,sB,nB,q⟩:=h
 refine ⟨_,(Z0c (Z0x (pvF 0) (Z3t T.Hall h_Hall___init__ hr (by decide) rfl (Z0a (pvF 1) Z0d)) rfl)
  (Z0c (Z0x (pvF 0) (pvF 2) rfl)
  (Z0c (Z0x (pvF 0) (J4Y T.Waits h_Waits___init__ hr (by decide) rfl) rfl)
  (Z0c (Z0x (pvF 0) (Z0B Z0d) rfl)
  (Z0c (Z0x (pvF 0) Z0l rfl)
  (Z0c (Z0x (pvF 0) Z0l rfl)
  (Z0g (Z0x (pvF 0) Z2b rfl)))))))),?_⟩
 refine seq7 fun uz6 huz6 uz5 huz5 uz4 huz4 uz3 huz3 uz2 huz2 uz1 huz1=>?_
 walk_at "rd"
 intro hl hdx n1 n2 ne
 have s1:=Z1p (C:=Cl) n1 n2 ne
 refine ⟨hl,hdx,pp,G,rfl,Z0e,hp.same s1,gok,hlen,fun H1 sx1 hlo _=>⟨rfl,?_⟩⟩
 have s2:Same H H1:=Z1X s1 sx1 n1
 refine ⟨Ck,dx,_,s2 _ _ hx,T.Walk.cl,T.n_Walk_hall,Nat.lt_of_sub_eq_succ rfl,?_⟩
 subst huz1
 walk_at "rd"
 refine ⟨Ck,dx,_,Z0e,T.Walk.cl,T.n_Walk_most,Nat.lt_of_sub_eq_succ rfl,?_⟩
 subst huz2
 walk_at "rd"
 have X2:upd (upd H1 x (.ins Ck dx (putF "hall" (.ref hl) []))) x (.ins Ck dx (putF "most" (.int most) (putF "hall" (.ref hl) []))) x=some (.ins Ck dx (putF "most" (.int most) (putF "hall" (.ref hl) []))):=Z0e
 have S2:SX x H1 (upd (upd H1 x (.ins Ck dx (putF "hall" (.ref hl) []))) x (.ins Ck dx (putF "most" (.int most) (putF "hall" (.ref hl) [])))):=(SX.put _).trans (SX.put _)
 have sB2:Same B (upd (upd H1 x (.ins Ck dx (putF "hall" (.ref hl) []))) x (.ins Ck dx (putF "most" (.int most) (putF "hall" (.ref hl) [])))):=Z3I (Z3I (Same.trans sB s2) nB) nB
 generalize upd (upd H1 x (.ins Ck dx (putF "hall" (.ref hl) []))) x (.ins Ck dx (putF "most" (.int most) (putF "hall" (.ref hl) [])))=H2 at *
 intro y dy m1 m2 mne
 have s3:=Z1p (C:=Cq) m1 m2 mne
 refine ⟨y,dy,rfl,Z0e,fun l1 l2 H3 k1 k2 kne sx3 e1 e2 e3=>⟨rfl,?_⟩⟩
 have s4:Same H2 H3:=Z1X s3 sx3 m1
 have X3:=s4 _ _ X2
 refine ⟨Ck,dx,_,X3,T.Walk.cl,T.n_Walk_waits,Nat.lt_of_sub_eq_succ rfl,?_⟩
 subst huz3
 walk_at "rd"
 have S4:SX x H1 (upd H3 x (.ins Ck dx (putF "waits" (.ref y) (putF "most" (.int most) (putF "hall" (.ref hl) []))))):=S2.trans ((SX.of s4).trans (SX.put _))
 have X4:upd H3 x (.ins Ck dx (putF "waits" (.ref y) (putF "most" (.int most) (putF "hall" (.ref hl) [])))) x=some (.ins Ck dx (putF "waits" (.ref y) (putF "most" (.int most) (putF "hall" (.ref hl) [])))):=Z0e
 have Y4:upd H3 x (.ins Ck dx (putF "waits" (.ref y) (putF "most" (.int most) (putF "hall" (.ref hl) [])))) y=_:=(Z0j (Z2Q X2 m1)).trans e1
 have A4:upd H3 x (.ins Ck dx (putF "waits" (.ref y) (putF "most" (.int most) (putF "hall" (.ref hl) [])))) l1=_:=(Z0j (fun z=>by rw [z,X3] at e2; cases e2)).trans e2
 have B4:upd H3 x (.ins Ck dx (putF "waits" (.ref y) (putF "most" (.int most) (putF "hall" (.ref hl) [])))) l2=_:=(Z0j (fun z=>by rw [z,X3] at e3; cases e3)).trans e3
 have sB4:Same B (upd H3 x (.ins Ck dx (putF "waits" (.ref y) (putF "most" (.int most) (putF "hall" (.ref hl) []))))):=Z3I (Same.trans sB2 s4) nB
 generalize upd H3 x (.ins Ck dx (putF "waits" (.ref y) (putF "most" (.int most) (putF "hall" (.ref hl) []))))=H4 at *
 refine New.of fun ml H5 h5 s5 e5=>?_
 have X5:=s5 _ _ X4
 refine ⟨Ck,dx,_,X5,T.Walk.cl,T.n_Walk_made,Nat.lt_of_sub_eq_succ rfl,?_⟩
 subst huz4
 walk_at "rd"
 refine ⟨Ck,dx,_,Z0e,T.Walk.cl,T.n_Walk_counted,Nat.lt_of_sub_eq_succ rfl,?_⟩
 subst huz5
 walk_at "rd"
 refine ⟨Ck,dx,_,Z0e,T.Walk.cl,T.n_Walk_within,Nat.lt_of_sub_eq_succ rfl,?_⟩
 subst huz6
 walk_at "rd"
 refine ⟨Ck,dx,_,Z0e,T.Walk.cl,T.n_Walk_ended,Nat.lt_of_sub_eq_succ rfl,?_⟩
 have S5:∀ (o1 o2 o3 o4:HO),SX x H5 (upd (upd (upd (upd H5 x o1) x o2) x o3) x o4):=fun _ _ _ _=>(SX.put _).trans ((SX.put _).trans ((SX.put _).trans (SX.put _)))
 have S6:=S5 (.ins Ck dx (putF "made" (.ref ml) (putF "waits" (.ref y) (putF "most" (.int most) (putF "hall" (.ref hl) []))))) (.ins Ck dx (putF "counted" (.int 0) (putF "made" (.ref ml) (putF "waits" (.ref y) (putF "most" (.int most) (putF "hall" (.ref hl) [])))))) (.ins Ck dx (putF "within" (.int 0) (putF "counted" (.int 0) (putF "made" (.ref ml) (putF "waits" (.ref y) (putF "most" (.int most) (putF "hall" (.ref hl) []))))))) (.ins Ck dx (putF "ended" .non (putF "within" (.int 0) (putF "counted" (.int 0) (putF "made" (.ref ml) (putF "waits" (.ref y) (putF "most" (.int most) (putF "hall" (.ref hl) []))))))))
 have S7:SX x H1 _:=S4.trans ((SX.of s5).trans S6)
 have hx1:=s2 _ _ hx
 have ok:=Z9Y (B:=B) T
 refine q _ ((SX.of s2).trans S7) ⟨⟨dx,hl,y,dy,l1,l2,ml,.non,[],[],[]⟩,⟨Z0e,?_,?_,?_,?_,.nil,.nil,.nil,.non,?_,HlO.kw ok hlo (SX.kw S7 hx1),Z3I (Z3I (Z3I (Z3I (Same.trans sB4 s5) nB) nB) nB) nB,nB,Z5M (Same.trans sB2 s3) k1,Z5M (Same.trans sB2 s3) k2,Z5M sB4 h5,fun m hm=>by cases hm⟩⟩
 ·exact S6 _ _ (Z2Q X2 m1) (s5 _ _ Y4)
 ·exact S6 _ _ (fun z=>by rw [show l1=x from z,X4] at A4; cases A4) (s5 _ _ A4)
 ·exact S6 _ _ (fun z=>by rw [show l2=x from z,X4] at B4; cases B4) (s5 _ _ B4)
 ·exact S6 _ _ (Z2Q X4 h5) e5
 ·have d1:l1≠ml:=fun z=>Z0i A4 h5 z
  have d2:l2≠ml:=fun z=>Z0i B4 h5 z
  simp [kne,d1,d2]
theorem J1a (T:Txt K mg Cl Ct Cw Ch Cp C_Maker Cs Cq Ck) (h_Waits_know:HasM P w K mg base 1 Cq "know" ["self","value"] (J1g (CS.mk Ct Cw Ch Cp Cl Cs Cq Ck B) K)):HasM P w K mg base 2 Ck "begin" ["self","term","scope"] (Z6Q (CS.mk Ct Cw Ch Cp Cl Cs Cq Ck B) K):=by
 refine HasM.of T.m_Walk_begin Z5I (fun _ _ _ _ _ _ us hl=>el3 us hl fun _ _ _=>rfl) (fun vs H Q E h=>?_) (fun f cdv A outer s H vs Q E hr h=>?_)
 ·obtain ⟨a,tv,sv,G,most,S,n,rfl,_⟩:=h
  rfl
 obtain ⟨a,tv,sv,G,most,S,n,rfl,⟨A,hA⟩,hk0,ht,q⟩:=h
 have ok:=Z9Y (B:=B) T
 obtain ⟨ta,tdx,inn,sh,rfl,hta⟩:=Z3U ht
 refine ⟨_,(Z0g (Z1C (Z0u (r:=rIn K false) Z0T (Z0k (pvF 1) rfl) (Z0y (Z0a Z0o (Z0a Z0o Z0d))) (by with_unfolding_all rfl)) (Z0g (Z1g (Z2P (Z0k (pvF 0) rfl) T.Waits.cl h_Waits_know hr (by decide) (Z0a (Z0k (pvF 1) rfl) Z0d)))) (Z0g Z0q))),?_⟩
 walk_at "rd"
 refine ⟨Ct,tdx,_,hta,T.Term.cl,T.n_Term_form,_,rfl,?_⟩
 refine New.of fun p H1 h1 s1 e1=>⟨_,.inr (SqT.of e1),rfl,rfl,?_⟩
 have hA1:=hA.same ok s1
 have hta1:=s1 _ _ hta
 have lk:A.ks.length=0:=by rw [hA.rk.len,List.length_reverse,hk0]; rfl
 refine ite2 (fun _=>?_) (fun z=>absurd (by decide +kernel) z)
 exact ⟨Ck,A.dx,_,hA1.wk,T.Walk.cl,T.n_Walk_waits,_,rfl,_,rfl,A.dw,_,hA1.wt,rfl,Ct,tdx,_,hta1,T.Term.cl,T.n_Term_label,_,rfl,⟨A.wA,A.dw,A.wl,A.kl,A.ks,_,rfl,hA1.wt,hA1.hk,by omega,fun _ _=>q _ ((Kw.of s1).trans (Kw.lst _ hA1.hk)) ⟨_,hA1.know1 ok (.int _)⟩⟩⟩
theorem J3n (T:Txt K mg Cl Ct Cw Ch Cp C_Maker Cs Cq Ck) (h_Waits_take_step:HasM P w K mg base 1 Cq "take_step" ["self"] (J1c (CS.mk Ct Cw Ch Cp Cl Cs Cq Ck B) K)) (h_Walk_begin:HasM P w K mg base 2 Ck "begin" ["self","term","scope"] (Z6Q (CS.mk Ct Cw Ch Cp Cl Cs Cq Ck B) K)):HasM P w K mg base 6 Ck "go_on" ["self"] (Z8k (CS.mk Ct Cw Ch Cp Cl Cs Cq Ck B) K):=by
 refine HasM.of T.m_Walk_go_on sc_Walk_go_on (fun _ _ _ _ _ _ us hl=>el1 us hl fun _=>rfl) (fun vs H Q E h=>?_) (fun f cdv A outer s H vs Q E hr h=>?_)
 ·obtain ⟨a,G,most,sc,n,rfl,_⟩:=h
  rfl
 obtain ⟨a,G,most,sc,n,rfl,⟨A,hA⟩,q⟩:=h
 have ok:=Z9Y (B:=B) T
 obtain ⟨ws,v,ew,rx,hA1⟩:=hA.pop ok rfl
 have hw:=hA.hw
 rw [ew] at hw
 have k1:Kw Ck H (upd H A.wl (.lst ws)):=Kw.lst _ hw
 have rx1:=rx.kw ok k1
 refine ⟨_,(Z0c (Z7j (Z0Z (Z0k (pvF 0) rfl) T.Waits.cl h_Waits_take_step hr (by decide)) (Z2I (n:=3) rfl (Z0t (Z0n (i:=1) sc_Walk_go_on.nd rfl (Or.inl rfl)) (Z0t (Z0n (i:=2) sc_Walk_go_on.nd rfl (Or.inl rfl)) (Z0t (Z0n (i:=3) sc_Walk_go_on.nd rfl (Or.inl rfl)) Z2D)))))
  (Z0g (Z1C (Z0u Z4y (pvF 1) Z0o (Z0V _)) (Z0g (Z1g (Z2P (pvF 0) T.Walk.cl h_Walk_begin hr (by decide) (Z0a (pvF 2) (Z0a (pvF 3) Z0d))))) (Z0g Z0q)))),?_⟩
 refine seq2 fun uz1 huz1=>?_
 walk_at "rd"
 refine ⟨Ck,A.dx,_,hA.wk,T.Walk.cl,T.n_Walk_waits,_,rfl,_,rfl,A.dw,_,hA.wt,rfl,?_⟩
 refine ⟨A.wA,A.dw,A.wl,A.kl,ws,v,rfl,hA.wt,hw,fun u eu=>?_⟩
 subst eu
 generalize upd H A.wl (.lst ws)=H1 at *
 cases rx1 with
 | walk e1 ht hs=>
  refine ⟨_,rfl,_,SqT.of e1,rfl,⟨_,_,rfl,⟨_,_,rfl,⟨_,_,rfl,?_⟩⟩⟩⟩
  subst huz1
  walk_at "rd"
  exact ⟨A.dx,_,hA1.wk,rfl,a,_,_,G,most,⟨[],[],[],0,0,none⟩,n,rfl,⟨_,hA1⟩,rfl,ht,fun H' k' hw=>q _ (k1.trans k') hw⟩
theorem J2C (T:Txt K mg Cl Ct Cw Ch Cp C_Maker Cs Cq Ck) (h_Waits_take_value:HasM P w K mg base 1 Cq "take_value" ["self"] (J3L (CS.mk Ct Cw Ch Cp Cl Cs Cq Ck B) K)):HasM P w K mg base 2 Ck "told_answer" ["self"] (Z8O (CS.mk Ct Cw Ch Cp Cl Cs Cq Ck B) K):=by
 refine HasM.of T.m_Walk_told_answer sc_Walk_told_answer (fun _ _ _ _ _ _ us hl=>el1 us hl fun _=>rfl) (fun vs H Q E h=>?_) (fun f cdv A outer s H vs Q E hr h=>?_)
 ·obtain ⟨a,G,most,A,n,rfl,_⟩:=h
  rfl
 obtain ⟨a,G,most,A,n,rfl,hA,q⟩:=h
 refine ⟨_,(Z0c (Z1C (Z0u Z5K (Z0k (pvF 0) rfl) Z2b (Z0V _)) (Z0g Z0q) Z0z)
  (Z0c (Z0w (i:=1) sc_Walk_told_answer.nd rfl (Or.inl rfl) (Z0Z (Z0k (pvF 0) rfl) T.Waits.cl h_Waits_take_value hr (by decide)))
  (Z0c (Z1C (Z8R (Z0M (r:=J4n K) J1m rfl T.z_isinstance Z5J (Z0a (pvF 1) (Z0a (J4q (v:=.ty "tuple") rfl T.z_tuple Z1E rfl) Z0d)))) (Z0g Z0q) Z0z)
  (Z0g (Z0s (Z0y (Z0a Z0o (Z0a (pvF 1) Z0d)))))))),?_⟩
 refine seq4 fun uz3 huz3 uz2 huz2 uz1 huz1=>?_
 walk_at "rd"
 refine ⟨Ck,A.dx,_,hA.wk,T.Walk.cl,T.n_Walk_ended,_,rfl,?_⟩
 have hev:=Z6c hA.re
 rw [hev]
 refine ite2 (fun z=>absurd rfl z) (fun _=>?_)
 have rk:=hA.rk
 rw [show ([Vl.int n]:List Vl).reverse=[]++[.int n] from rfl] at rk
 obtain ⟨ks,u,ek,rk1,ru⟩:=rk.last
 cases ru
 have hkl:=hA.hk
 rw [ek] at hkl
 subst huz1
 walk_at "rd"
 refine ⟨Ck,A.dx,_,hA.wk,T.Walk.cl,T.n_Walk_waits,_,rfl,_,rfl,A.dw,_,hA.wt,rfl,?_⟩
 refine ⟨A.wA,A.dw,A.wl,A.kl,ks,_,rfl,hA.wt,hkl,fun u eu=>?_⟩
 subst eu
 have S1:SX A.kl H (upd H A.kl (.lst ks)):=SX.put _
 generalize upd H A.kl (.lst ks)=H1 at *
 subst huz2
 walk_at "rd"
 refine .inr ⟨rfl,?_⟩
 subst huz3
 walk_at "rd"
 refine New.of fun p H3 h3 s3 e3=>q _ _ (S1.trans (SX.of s3)) ?_
 exact .tup (SqT.of e3) (.cons (.str _) (.cons (.int _) .nil))
noncomputable def WI1 (K:W.Frag) (c:CS) (G:Pg) (most:Nat) (n:Int) (sc:Sc) (x bd:Addr) (pp:V) (nl:Addr) (mm:Nat) (σ:St) (H':Hp):Prop:=((mm=1∧WA K c G most H' x ⟨[.walk (numT n) sc],[],[],0,0,none⟩)∨(mm=0∧WA K c G most H' x ⟨[],[.int n],[],0,0,none⟩))∧σ=[some pp,some (.ref nl),some (.int most),some (.ref x),some (.ref bd),none]
theorem J0q (T:Txt K mg Cl Ct Cw Ch Cp C_Maker Cs Cq Ck) (h_Walk___init__:∀ B,HasM P w K mg base 3 Ck "__init__" ["self","program","most"] (Z7Z (CS.mk Ct Cw Ch Cp Cl Cs Cq Ck B) K)) (h_Scope___init__:∀ B,HasM P w K mg base 1 Cs "__init__" ["self","house","own_thing","bound"] (Z7T (CS.mk Ct Cw Ch Cp Cl Cs Cq Ck B) K)) (h_Waits_wait:∀ B,HasM P w K mg base 1 Cq "wait" ["self","step","term","scope"] (J1e (CS.mk Ct Cw Ch Cp Cl Cs Cq Ck B) K)) (h_Waits_is_over:∀ B,HasM P w K mg base 1 Cq "is_over" ["self"] (J2a (CS.mk Ct Cw Ch Cp Cl Cs Cq Ck B) K))
  (h_Walk_go_on:∀ B,HasM P w K mg base 6 Ck "go_on" ["self"] (Z8k (CS.mk Ct Cw Ch Cp Cl Cs Cq Ck B) K)) (h_Walk_told_answer:∀ B,HasM P w K mg base 2 Ck "told_answer" ["self"] (Z8O (CS.mk Ct Cw Ch Cp Cl Cs Cq Ck B) K)):Has P w K mg base 7 "walked" ["program","numbers","most"] (Z7e (CS.mk Ct Cw Ch Cp Cl Cs Cq Ck B) K)∧HasF P w K mg base 7 "walked" ["program","numbers","most"] (Z7e (CS.mk Ct Cw Ch Cp Cl Cs Cq Ck B) K) [.int 100]:=by
 refine Has.ofD T.f_walked sc_walked (fun _ _ _ _ _ _ _ _ us hl=>el3 us hl fun _ _ _=>⟨_,rfl,rfl⟩) (fun _ _ _ _ _ _ _ _ us hl=>?_) (fun vs H Q E h=>?_) (fun f cdv A outer s H vs Q E hr h=>?_)
 ·rw [List.length_append] at hl
  exact el2 us (Nat.succ.inj hl) fun _ _=>⟨_,rfl,rfl⟩
 ·obtain ⟨pp,nl,G,most,n,rfl,_⟩:=h
  rfl
 obtain ⟨pp,nl,G,most,n,rfl,hp0,gok,hlen,hpl,hbd,hnl,q⟩:=h
 have ok:=Z9Y (B:=H) T
 have h_Walk___init__:=h_Walk___init__ H
 have h_Scope___init__:=h_Scope___init__ H
 have h_Waits_wait:=h_Waits_wait H
 have h_Waits_is_over:=h_Waits_is_over H
 have h_Walk_go_on:=h_Walk_go_on H
 have h_Walk_told_answer:=h_Walk_told_answer H
 have hp:PgO K (CS.mk Ct Cw Ch Cp Cl Cs Cq Ck H) H pp G:=PgO.cb hp0
 refine ⟨_,(Z0c (Z0w (i:=3) sc_walked.nd rfl (Or.inl rfl) (Z3t T.Walk h_Walk___init__ hr (by decide) rfl (Z0a (pvF 0) (Z0a (pvF 2) Z0d))))
  (Z0c (Z0w (i:=4) sc_walked.nd rfl (Or.inl rfl) (J4d rfl rfl rfl T.z_dict T.z_zip (Z0a (Z1u rfl (BlockOk.plain (N:=["name","kind"]) rfl (by decide +kernel) (by decide +kernel) (by decide +kernel)) (Z2f (Z0k (Z0k (pvF 0) rfl) rfl))
     (fun C fp s H=>(show PG _ _ (Z7H K 2 _) from Z2I (n:=2) rfl (Z0t (Z0n (i:=0) (show (["name","kind"]:List Str).Nodup by decide +kernel) rfl (Or.inl rfl)) (Z0t (Z0n (i:=1) (show (["name","kind"]:List Str).Nodup by decide +kernel) rfl (Or.inl rfl)) Z2D))))
     (fun C fp s H=>(pvF 0))) (Z0a (pvF 1) Z0d))))
  (Z0c (Z1g (Z2P (Z0k (pvF 3) rfl) T.Waits.cl h_Waits_wait hr (by decide) (Z0a Z0o (Z0a (Z0k (Z0k (pvF 0) rfl) rfl) (Z0a (Z3t T.Scope h_Scope___init__ hr (by decide) rfl (Z0a Z2b (Z0a Z2b (Z0a (pvF 4) Z0d)))) Z0d)))))
  (Z0c (Z4H PassesOwn.never (PW.pt (J0F (Z0u J3Q (Z0k (pvF 3) rfl) Z2b (Z0V _)) (Z7I (J3p (Z8R (Z0Z (Z0k (pvF 3) rfl) T.Waits.cl h_Waits_is_over hr (by decide))))))) (Z0g (Z1g (Z0Z (pvF 3) T.Walk.cl h_Walk_go_on hr (by decide)))))
  (Z0c (Z3f rfl sc_walked.nd (i:=5) rfl rfl (BlockOk.plain (N:=["house","inner"]) rfl (by decide +kernel) (by decide +kernel) (by decide +kernel)) (Z2i (Z0k (pvF 3) rfl))
     (fun C fp s H=>(show PG _ _ (Z7H K 2 _) from Z2I (n:=2) rfl (Z0t (Z0n (i:=0) (show (["house","inner"]:List Str).Nodup by decide +kernel) rfl (Or.inl rfl)) (Z0t (Z0n (i:=1) (show (["house","inner"]:List Str).Nodup by decide +kernel) rfl (Or.inl rfl)) Z2D))))
     (fun C fp s H=>(Z0y (Z0a (pvF 0) (Z0a (Z0L (r:=Z9P K) Z0A rfl T.z_tuple Z1E (Z0a (pvF 1) Z0d)) Z0d)))))
  (Z0g (Z0s (Z0y (Z0a (Z0Z (pvF 3) T.Walk.cl h_Walk_told_answer hr (by decide)) (Z0a (Z0k (pvF 3) rfl) (Z0a (pvF 5) Z0d))))))))))),?_⟩
 refine seq6 fun uz5 huz5 uz4 huz4 uz3 huz3 uz2 huz2 uz1 huz1=>?_
 walk_at "rd"
 intro x dx n1 n2 ne
 have s1:=Z1p (C:=Ck) n1 n2 ne
 refine ⟨x,dx,pp,G,most,rfl,Z0e,hp.same s1,gok,hlen,s1,n1,fun H1 sx1 hw=>⟨rfl,?_⟩⟩
 have sH1:Same H H1:=Z1X s1 sx1 n1
 subst huz1
 walk_at "rd"
 obtain ⟨pa,pdx,ht,hs,ma,mdx,pt,bv,rfl,p1,w1,w2,w3⟩:∃ pa pdx ht hs ma mdx pt bv,pp=.ref pa∧H1 pa=some (.ins Cp pdx [("all_houses",.ref ht),("main",.ref ma)])∧H1 ma=some (.ins Cw mdx [("name",.str G.main.name),("params",.ref pt),("kind",.str G.main.kind),("body",bv)])∧RT K H1 (.ref pt) (Z3k G.main.params)∧TO K Ct H1 bv G.main.body∧hs=hs:=by
  have hp1:=hp.same sH1
  cases hp1 with
  | mk a b c d=>cases d with
   | mk e f g=>exact ⟨_,_,_,0,_,_,_,_,rfl,a,e,f,g,rfl⟩
 obtain ⟨w3,_⟩:=w3
 refine ⟨_,rfl,Cp,pdx,_,p1,T.Program.cl,T.n_Program_main,_,rfl,_,rfl,Cw,mdx,_,w1,T.Word.cl,T.n_Word_params,_,rfl,_,rfl,?_,fun D hD=>?_⟩
 ·obtain ⟨_,_,e,hq,_⟩:=w2.tup_inv
  cases e; exact ⟨_,hq⟩
 refine Z9m w2 (by rw [hpl]; decide) hD fun H2 s2 e2=>?_
 refine ⟨D,rfl,_,SqL.of e2,[],SqL.same hnl (sH1.trans s2),fun bd H3 hb3 s3 e3=>?_⟩
 rw [hbd] at w3
 subst huz2
 walk_at "rd"
 have s13:=s2.trans s3
 obtain ⟨A,hA1⟩:=hw
 have hA3:=hA1.same ok s13
 refine ⟨Ck,A.dx,_,hA3.wk,T.Walk.cl,T.n_Walk_waits,_,rfl,_,rfl,A.dw,_,hA3.wt,rfl,Cp,pdx,_,s13 _ _ p1,T.Program.cl,T.n_Program_main,_,rfl,_,rfl,Cw,mdx,_,s13 _ _ w1,T.Word.cl,T.n_Word_body,_,rfl,fun x7 dx7 m1 m2 mne=>?_⟩
 have s7:=Z1p (C:=Cs) m1 m2 mne
 refine ⟨x7,dx7,bd,_,_,_,rfl,Z0e,s7 _ _ e3,fun d8 H8 hd8 sx8 hx8 hbd8=>⟨rfl,?_⟩⟩
 have s8:Same H3 H8:=Z1X s7 sx8 m1
 have s18:=s13.trans s8
 have hA8:=hA1.same ok s18
 have sco:ScO (CS.mk Ct Cw Ch Cp Cl Cs Cq Ck H) H8 (.ref x7) ⟨none,none,Z1f [] ((G.main.params.map Prod.fst).zip [])⟩:=.mk hx8 .non hbd8 (J6b (H:=H8) .nil)
 have hAws:A.ws=[]:=A2.nil_inv hA1.rw
 refine ⟨A.wA,A.dw,A.wl,A.kl,_,_,_,A.ws,rfl,hA8.wt,hA8.hw,by rw [hAws]; show 0 < _; omega,fun t9 H9 h9 s9 e9=>?_⟩
 have hA9:=(hA8.same ok s9).push ok (.walk e9 (w3.kp (Kp.of (s18.trans s9))) (sco.kw ok (Kw.of s9)))
 have k9:Kw Ck H9 (upd H9 A.wl (.lst (A.ws++[.ref t9]))):=Kw.lst _ (s9 _ _ hA8.hw)
 generalize upd H9 A.wl (.lst (A.ws++[.ref t9]))=H10 at *
 subst huz3
 walk_at "rd"
 refine ⟨WI1 K (CS.mk Ct Cw Ch Cp Cl Cs Cq Ck H) G most n ⟨none,none,Z1f [] ((G.main.params.map Prod.fst).zip [])⟩ x bd (.ref pa) nl,⟨1,.inl ⟨rfl,⟨_,hA9⟩⟩,rfl⟩,fun mm σ H' hI=>?_⟩
 obtain ⟨hI,rfl⟩:=hI
 walk_at "rd"
 rcases hI with ⟨rfl,⟨A',hA'⟩⟩ | ⟨rfl,⟨A',hA'⟩⟩
 ·have hev:A'.ev=.non:=Z6c hA'.re
  have hAw:A'.ws.isEmpty=false:=by
   have hl:=hA'.rw.len
   cases e:A'.ws with
   | nil=>rw [e] at hl; cases hl
   | cons _ _=>rfl
  refine ⟨Ck,A'.dx,_,hA'.wk,T.Walk.cl,T.n_Walk_ended,_,rfl,?_⟩
  refine ite2 (fun _=>?_) (fun z=>absurd hev z)
  refine ⟨Ck,A'.dx,_,hA'.wk,T.Walk.cl,T.n_Walk_waits,_,rfl,_,rfl,A'.dw,_,hA'.wt,rfl,?_⟩
  refine ⟨A'.wA,A'.dw,A'.wl,A'.kl,A'.ws,rfl,hA'.wt,hA'.hw,fun H5 s5=>⟨_,rfl,?_⟩⟩
  rw [hAw]
  refine ite2 (fun _=>?_) (fun z=>absurd rfl z)
  have hA5:=hA'.same ok s5
  refine ⟨fun σ' H'=>∃ m',m' < 1∧WI1 K (CS.mk Ct Cw Ch Cp Cl Cs Cq Ck H) G most n ⟨none,none,Z1f [] ((G.main.params.map Prod.fst).zip [])⟩ x bd (V.ref pa) nl m' σ' H',fun _ _ h=>h,A'.dx,_,hA5.wk,rfl,?_⟩
  exact ⟨x,G,most,_,n,rfl,⟨_,hA5⟩,fun H6 k6 hw6=>⟨0,by decide,.inr ⟨rfl,hw6⟩,rfl⟩⟩
 have hev:A'.ev=.non:=Z6c hA'.re
 refine ⟨Ck,A'.dx,_,hA'.wk,T.Walk.cl,T.n_Walk_ended,_,rfl,?_⟩
 refine ite2 (fun _=>?_) (fun z=>absurd hev z)
 have hAw:A'.ws=[]:=A2.nil_inv hA'.rw
 refine ⟨Ck,A'.dx,_,hA'.wk,T.Walk.cl,T.n_Walk_waits,_,rfl,_,rfl,A'.dw,_,hA'.wt,rfl,?_⟩
 refine ⟨A'.wA,A'.dw,A'.wl,A'.kl,A'.ws,rfl,hA'.wt,hA'.hw,fun H4 s4=>⟨_,rfl,?_⟩⟩
 rw [hAw]
 refine ite2 (fun z=>by cases z) (fun _=>?_)
 have hA4:=hA'.same ok s4
 clear hA' s4
 have hmz:A'.mz=[]:=A2.nil_inv hA4.rm
 have hm4:=hA4.hm
 rw [hmz] at hm4
 subst huz4
 walk_at "rd"
 refine ⟨Ck,A'.dx,_,hA4.wk,T.Walk.cl,T.n_Walk_made,_,rfl,_,rfl,⟨_,SqL.of hm4⟩,fun D hD=>?_⟩
 refine Z7s (ys:=[]) (fun σ=>∃ o1 o2,σ=[o1,o2]) (fun j v H=>True) (fun _ _ _ _ h _=>h) ⟨_,_,rfl⟩ hD (by decide) (fun H1 s=>SqL.of (s _ _ hm4)) (fun i y σ hy hS H5 K' s5 kk=>by cases hy) (fun vs Hc Sc hv lv hR=>?_)
 have evs:vs=[]:=List.length_eq_zero_iff.mp lv
 subst evs
 have hA5:=hA4.same ok Sc
 subst huz5
 walk_at "rd"
 refine ⟨A'.dx,_,hA5.wk,rfl,?_⟩
 refine ⟨x,G,most,A',n,rfl,hA5,fun u H6 sx hr=>?_⟩
 have nkx:x≠A'.kl:=fun z=>by have:=hA5.wk; rw [z,hA5.hk] at this; cases this
 have nDk:D≠A'.kl:=Z2Q hA4.hk hD
 refine ⟨Ck,A'.dx,_,sx _ _ nkx hA5.wk,T.Walk.cl,T.n_Walk_counted,_,rfl,?_⟩
 refine New.of fun p8 H8 h8 s8 e8=>?_
 have sb6:Same H H6:=fun b o e=>sx _ _ (Z0i e hA5.ob.2.2.1) (hA5.sb _ _ e)
 exact q _ _ (sb6.trans s8) (.tup (SqT.of e8) (.cons (hr.same s8).rd (.cons (.int _) (.cons (.lst (SqL.of (s8 _ _ (sx _ _ nDk hv))) .nil) .nil))))
end
end K52
end
section
set_option format.width 520
namespace K52
open PySem L2 TM WK
open P15 (Lb Fm Tm dats Z1B okF Ok maxD sumS flatR Bld)
open PW (Vl Wd Hs Pg Sc Wt Ws IxAt Look Chain Z2R Flds Z2Z putS Z1f getS Z1A Two Step Z2T Z1k leaf)
seal L2.PE L2.PA L2.PT L2.PS L2.PSs L2.PG L2.PGs L2.PI L2.PW
open P23 (ixO Z3C Z2s Z4V FO)
open P52 (WOk Hr HrOk hs7 pg7 wd7 mn7 bk met Z2e Z4A Z2H wn wn7 Z5N J0V J5h Z5b all7)
inductive J3H (K:W.Frag) (vs:List V) (H:Hp) (Q:VK):Prop
 | mk (a:Addr) (ns:List Int) (a1:vs=[.ref a]) (a2:SqL K H a (ns.map V.int)) (a3:∀ H',Q (.bl true) H'):J3H K vs H Q
def Z9X (K:W.Frag):Sp:=fun vs H Q _=>J3H K vs H Q
theorem Z9Z {K:W.Frag} {H:Hp} {a:Addr} {ns:List Int} (hl:ns.length≤63) (hS:SqL K H a (ns.map V.int)):Z9X K [.ref a] H (fun v _=>v=.bl true) fun _ _ _=>False:=⟨a,ns,rfl,hS,fun _=>rfl⟩
noncomputable def bkD:Option Nat→PyData
 | none=>.none
 | some n=>.int (n:Int)
theorem J5L {K:W.Frag} {H:Hp}:∀ o:Option Nat,RdD K H (bkV o) (bkD o)
 | none=>.non
 | some n=>.int _
theorem Z4O {α:Type} {K:W.Frag} {H:Hp} {f:α→V} {g:α→PyData} (h:∀ a,RdD K H (f a) (g a)):∀ l:List α,RdDs K H (l.map f) (l.map g)
 | []=>.nil
 | a::l=>.cons (h a) (Z4O h l)
theorem J3E {α:Type} {K:W.Frag} {H:Hp} {R:V→α→Prop} {g:α→PyData} (h:∀ v a,R v a→RdD K H v (g a)):∀ {vs:List V} {as:List α},A2 R vs as→RdDs K H vs (as.map g)
 | _,_,.nil=>.nil
 | _,_,.cons r t=>.cons (h _ _ r) (J3E h t)
theorem J6e (n:Int):P15.Ok (.mk .number (.int n) []):=.mk rfl (fun p hp=>by cases hp)
theorem J6H {r:Hr} (h:r.words.length≤5):HsOk (hs7 r) where
 wd:=fun d hd=>by
  obtain ⟨w,_,rfl⟩:=List.mem_map.mp hd
  exact ⟨J6e _,Nat.le_of_ble_eq_true rfl,Nat.zero_le _⟩
 fl:=Nat.zero_le _
 wl:=by show (r.words.map wd7).length≤100; rw [List.length_map]; omega
noncomputable def L1 (K:W.Frag) (H0:Hp) (a l tl:Addr) (rs:List Hr) (i:Nat) (σ:St) (H':Hp):Prop:=∃ o4 o5 o6 ml tvs,SX tl H0 H'∧H' tl=some (.lst tvs)∧RTs K H' tvs ((rs.take i).map fun r=>Z5y (hs7 r))∧ml≠tl∧H' ml=some (.lst ((Z2e [] ((rs.take i).map Hr.words)).map V.str))∧σ=[some (.ref a),some (.ref l),some (.ref tl),some (.ref ml),o4,o5,o6,none,none,none,none,none]
noncomputable def pIn (M:List Str) (v:V):Bool:=!(inV v (M.map V.str))
theorem J4e {M:List Str} {x:Str}:pIn M (.str x)=decide (x∉M):=by
 unfold pIn
 rw [Z8s]
 by_cases h:x∈M
 ·rw [decide_eq_true h,decide_eq_false (fun z=>z h)]; rfl
 ·rw [decide_eq_false h,decide_eq_true h]; rfl
theorem Z8E {p:V→Bool} {q:Str→Bool} (e:∀ x,p (.str x)=q x):∀ ns:List Str,(ns.map V.str).filter p=(ns.filter q).map V.str
 | []=>rfl
 | x::ns=>by
  rw [List.map_cons,List.filter_cons,List.filter_cons,e,Z8E e ns]
  split <;> rfl
noncomputable def dueD (rs:List Hr) (fo:Str→Str→Option (Str×Nat×Wd)):PyData:=.list ((rs.map Hr.name).map fun x=>.list ((met rs).map fun w=>bkD (bk (pg7 rs) (fo x w))))
noncomputable def metD (rs:List Hr):PyData:=.list ((met rs).map .str)
def L2t (H0:Hp) (σ0:St) (_:Nat) (σ:St) (H':Hp):Prop:=∃ o9 o10 o11,Same H0 H'∧σ=σ0++[o9,o10,o11]
theorem J5O {k n:Nat} {d:PyData} (h:Nice k n d) (hk:k≤60) (hn:n≤100000):d.showable=true∧d.hasDict=false∧d.depth≤60∧d.shown.length≤16777216:=
 ⟨h.sho,PyData.hasDict_of_canLay d h.lay,Nat.le_trans h.dep hk,by have:=h.fits hn; rw [sizeLine_eq] at this; exact this⟩
theorem J3e {rs:List Hr} (ok:HrOk rs):Nice 1 1000 (metD rs):=by
 refine (Nice.lst (k:=0) (n:=(10+1) * ((met rs).map PyData.str).length) (NiceL.of fun d hd=>?_)).mono (Nat.le_refl _) ?_
 ·obtain ⟨x,hx,rfl⟩:=List.mem_map.mp hd
  exact .str (J0V ok x hx).1 (J0V ok x hx).2
 ·rw [List.length_map]
  have:=Z5N ok
  omega
theorem J2N {rs:List Hr} (ok:HrOk rs) {ch:Str→List Str} {fo:Str→Str→Option (Str×Nat×Wd)} (hfo:∀ x∈rs.map Hr.name,Chain (pg7 rs) x (ch x)∧(ch x).length≤100∧∀ w,FO (pg7 rs) w (x::ch x) (fo x w)):Nice 2 100000 (dueD rs fo):=by
 have h1:∀ d∈(rs.map Hr.name).map fun x=>PyData.list ((met rs).map fun w=>bkD (bk (pg7 rs) (fo x w))),Nice 1 4000 d:=fun d hd=>by
  obtain ⟨x,hx,rfl⟩:=List.mem_map.mp hd
  refine (Nice.lst (k:=0) (n:=(60+1) * ((met rs).map fun w=>bkD (bk (pg7 rs) (fo x w))).length) (NiceL.of fun d hd=>?_)).mono (Nat.le_refl _) ?_
  ·obtain ⟨w,hw,rfl⟩:=List.mem_map.mp hd
   cases e:bk (pg7 rs) (fo x w) with
   | none=>exact .none
   | some m=>
    have:=J5h ok ((hfo x hx).2.2 w) e
    exact .int (by omega)
  ·rw [List.length_map]
   have:=Z5N ok
   omega
 refine (Nice.lst (k:=1) (NiceL.of h1)).mono (Nat.le_refl _) ?_
 rw [List.length_map,List.length_map]
 have:=ok.le
 omega
theorem J8j {K:W.Frag} {H0 H:Hp} {l:Addr} {rs:List Hr} {fo:Str→Str→Option (Str×Nat×Wd)} (h:TbO H0 H l (((pg7 rs).houses.map Hs.name).map fun x=>(wn (pg7 rs)).map fun w=>bkV (bk (pg7 rs) (fo x w)))):RdD K H (.ref l) (dueD rs fo):=by
 obtain ⟨vs,e,hA⟩:=h
 rw [Z5b,wn7] at hA
 refine .lst (SqL.of e) ?_
 have h2:∀ (ns:List Str) (vs:List V),A2 (fun v ds=>∃ r,v=V.ref r∧r≠l∧H0 r=none∧H r=some (.lst ds)) vs (ns.map fun x=>(met rs).map fun w=>bkV (bk (pg7 rs) (fo x w)))→RdDs K H vs (ns.map fun x=>PyData.list ((met rs).map fun w=>bkD (bk (pg7 rs) (fo x w)))):=by
  intro ns
  induction ns with
  | nil=>intro vs h; cases h; exact .nil
  | cons n ns ih=>
   intro vs h
   cases h with
   | cons r t=>
    obtain ⟨r,rfl,_,_,e⟩:=r
    exact .cons (.lst (SqL.of e) (Z4O (fun w=>J5L _) (met rs))) (ih _ t)
 exact h2 _ _ hA
noncomputable def L3 (H0:Hp) (fl:Addr) (vs:List V) (σ0:St) (i:Nat) (σ:St) (H':Hp):Prop:=∃ o11,Same H0 H'∧H' fl=some (.lst vs)∧(∀ v∈vs,∃ r xs,v=V.ref r∧r≠fl∧H0 r=none∧H' r=some (.lst xs)∧xs.length≤10000+i)∧σ=σ0++[o11]
theorem bl_lay:Lay 4 (.list [blD 1]):=Lay.lst (.cons (Lay.tup (.cons .int (.cons .int (.cons (Lay.tup (.cons (Lay.tup (.cons (.str (by show Array.all _ _=true; decide +kernel)) (.cons .int .nil))) (.cons (Lay.tup (.cons (.str (by show Array.all _ _=true; decide +kernel)) .nil)) .nil))) .nil)))) .nil)
theorem Z6L:SeqAt.shaped (.list [blD 1])=true:=bl_lay.shaped (by decide)
theorem J6u:PyData.eqv (.list [blD 1]) (.list [blD 1])=true:=bl_lay.eqv
theorem wk_lay:Lay 2 (wk1 1):=Lay.tup (.cons (Lay.tup (.cons (.str (by show Array.all _ _=true; decide +kernel)) (.cons .int .nil))) (.cons .int (.cons (Lay.lst .nil) .nil)))
theorem Z6o:SeqAt.shaped (wk1 1)=true:=wk_lay.shaped (by decide)
theorem J5Q:PyData.eqv (wk1 1) (wk1 1)=true:=wk_lay.eqv
section
variable {C_Maker Cl Cs Cq Ck Ct Cw Ch Cp:Addr} {P:Program} {w:World} {K:W.Frag} {mg:Str→Option Value} {base:Heap} {B:Hp}
theorem J5v (T:Txt K mg Cl Ct Cw Ch Cp C_Maker Cs Cq Ck) {f:Addr} {fd:FuncData} (F:Fun K "law" "law" Z7C f fd):FnOk P w K mg base CX0 20 f fd ["_law_script"] (Z9X K):=by
  have h__law_houses:=Z9t T (J4Q (P:=P) (w:=w) (base:=base) T) (J2R (P:=P) (w:=w) (base:=base) T)
  have h__law_block:=J0m (P:=P) (w:=w) (base:=base) T
  have h_shape_of:=J2p (P:=P) (w:=w) (base:=base) T
  have h_parts_of:=J3i (P:=P) (w:=w) (base:=base) T
  have h_label_of:=J2s (P:=P) (w:=w) (base:=base) T
  have h_Term_plain:=J0B (P:=P) (w:=w) (base:=base) T
  have h_Term_parts:=J0s (P:=P) (w:=w) (base:=base) T
  have h_Term_depth:=J0g (P:=P) (w:=w) (base:=base) T
  have h_Term_size:=J2c (P:=P) (w:=w) (base:=base) T
  have h_term_of:=J1A T h_parts_of h_label_of (J1V T h_parts_of) (J2r T h_shape_of h_Term_plain h_Term_depth h_Term_size)
  have h_pairs_of:=J2E (P:=P) (w:=w) (base:=base) T
  have h_word_of:=J4N (B:=fun _=>none) T h_term_of (J2f (B:=fun _=>none) T h_pairs_of)
  have h_house_of:=J3b (B:=fun _=>none) T h_word_of (J2n (B:=fun _=>none) T h_pairs_of)
  have h_program_of:=Z9i (B:=fun _=>none) T h_word_of h_house_of (J2G (B:=fun _=>none) T)
  have h_li:=fun B=>J2S (P:=P) (w:=w) (base:=base) (B:=B) T
  have h_si:=fun B=>J3h (P:=P) (w:=w) (base:=base) (B:=B) T
  have h_wt:=fun B=>J4w (P:=P) (w:=w) (base:=base) (B:=B) T
  have h_go:=fun B=>J3n (B:=B) T (J4z (P:=P) (w:=w) (base:=base) (B:=B) T) (J1a (B:=B) T (J4o (B:=B) T))
  have h_ki:=fun B=>J2y (B:=B) T (h_li B) (J2d (B:=B) T)
  have h_wk:=J0q (B:=fun _=>none) T h_ki h_si h_wt (fun B=>J3V (B:=B) T) h_go (fun B=>J2C (B:=B) T (J6k (B:=B) T))
  have h_walked_d:=h_wk.2
  have h_fb:=Z9S (P:=P) (w:=w) (base:=base) (B:=fun _=>none) T
  have h_word_names:=J0P (P:=P) (w:=w) (base:=base) (B:=fun _=>none) T
  have h_tables:=J1N (B:=fun _=>none) T (h_li _) h_fb h_word_names (J0t (B:=fun _=>none) T) (J0Q (B:=fun _=>none) T (J1y (B:=fun _=>none) T (J1k (B:=fun _=>none) T)))
  have h_bk:=J2M (B:=fun _=>none) T (J2g (B:=fun _=>none) T (J4A (B:=fun _=>none) T) h_Term_parts) (J4r T)
  have h_compiled:=Z7P (B:=fun _=>none) T (J2x (B:=fun _=>none) T (h_li _) h_fb h_word_names) (J4y (B:=fun _=>none) T (Z9F (B:=fun _=>none) T (h_li _) h_bk) (J1b (B:=fun _=>none) T (J2O T) (J2t (B:=fun _=>none) T h_Term_parts (J1z T) (J0E (B:=fun _=>none) T h_Term_parts))))
  refine F.ok sc_law (fun vs H Q E h=>?_) (fun cdv A outer s H vs Q E hr h=>?_)
  · obtain ⟨a,ns,rfl,_⟩:=h
    rfl
  obtain ⟨a,ns,rfl,sq,q⟩:=h
  refine ⟨_,(Z0c (Z0w (i:=1) sc_law.nd rfl (Or.inr rfl) (Z0G h__law_houses hr (by decide) rfl (Z0a (pvF 0) Z0d)))
    (Z0c (Z0w (i:=2) sc_law.nd rfl (Or.inl rfl) (Z0B Z0d))
    (Z0c (Z0w (i:=3) sc_law.nd rfl (Or.inr rfl) (Z0B Z0d))
    (Z0c (Z2F PassesOwn.never rfl (Z2i (pvF 1)) (Z2I (n:=3) rfl (Z0t (Z0n (i:=4) sc_law.nd rfl (Or.inl rfl)) (Z0t (Z0n (i:=5) sc_law.nd rfl (Or.inl rfl)) (Z0t (Z0n (i:=6) sc_law.nd rfl (Or.inl rfl)) Z2D)))) (Z0c (Z1g (Z3m PySem.F.plainAttrs_list PySem.F.slot_list_append PySem.F.type_list_append Z0K (pvF 2) (Z0a (Z0y (Z0a (pvF 4) (Z0a (pvF 5) (Z0a (Z0y Z0d) (Z0a (Z0L Z0A rfl T.z_tuple Z1E (Z0a (Z1u rfl (BlockOk.plain (N:=["_law_word"]) rfl (by decide +kernel) (by decide +kernel) (by decide +kernel)) (Z2i (pvF 6))
          (fun C fp s H=>(Z0n (i:=0) (show (["_law_word"]:List Str).Nodup by decide +kernel) rfl (Or.inl rfl)))
          (fun C fp s H=>(Z0y (Z0a (pvF 0) (Z0a (Z0y Z0d) (Z0a Z0o (Z0a (Z0y (Z0a Z0o (Z0a Z0l Z0d))) Z0d))))))) Z0d)) Z0d))))) Z0d)))
    (Z0g (Z0w (i:=3) sc_law.nd rfl (Or.inr rfl) (Z0J Z4t (pvF 3) (Z4J rfl (BlockOk.of (N:=["_law_word","_law_met"]) (nl:=[none,some 3]) (cl:=[("_law_met",s.heap.objs.size+2)]) rfl (by decide +kernel) (by decide +kernel) rfl (sub1 rfl) (nm:=["_law_met"]) rfl (by decide +kernel) rfl (fun i hi j hj=>by
            match i,hi with
            | 0,_=>cases hj
             | 1,_=>cases hj; exact ⟨_,rfl,rfl,rfl,.inl rfl⟩
            )) (Z2i (pvF 6))
          (fun C fp s H=>(Z0n (i:=0) (show (["_law_word","_law_met"]:List Str).Nodup by decide +kernel) rfl (Or.inl rfl)))
          (fun C fp s H=>(Z0u (r:=rIn K true) Z4x (pvF 0) (pvF 1) (by with_unfolding_all rfl))) (fun C fp s H=>(pvF 0))))))))
    (Z0c (Z0w (i:=7) sc_law.nd rfl (Or.inl rfl) (Z0G h_program_of hr (by decide) rfl (Z0a (Z0y (Z0a (Z0L Z0A rfl T.z_tuple Z1E (Z0a (pvF 2) Z0d)) (Z0a (Z0y (Z0a (Z0y Z0d) (Z0a Z0o (Z0a (Z0y (Z0a Z0o (Z0a Z0l Z0d))) Z0d)))) Z0d))) Z0d)))
    (Z0c (Z7n rfl sc_law.nd (i:=8) rfl rfl (BlockOkC.mk' (y:="_law_at") (N:=["_law_at","_law_houses_here","_law_met"]) (nl:=[none,some 1,some 3]) (cl:=[("_law_met",s.heap.objs.size+2),("_law_houses_here",s.heap.objs.size+1)]) rfl (by decide +kernel) rfl (by decide +kernel) rfl (sub2 rfl rfl) (nm:=["_law_met","_law_houses_here"]) rfl (by decide +kernel) rfl (fun i hi j hj=>by
            match i,hi with
            | 0,_=>cases hj
             | 1,_=>cases hj; exact ⟨_,rfl,rfl,rfl,.inl rfl⟩
             | 2,_=>cases hj; exact ⟨_,rfl,rfl,rfl,.inl rfl⟩
            ) (fun _=>rfl) (fun _=>rfl)) (Z3W rfl T.z_range (Z0a (Z0M Z0S rfl T.z_len Z4a (Z0a (pvF 1) Z0d)) Z0d))
          (fun Cq fpq sq Hq=>(Z0n (i:=0) (show (["_law_at","_law_houses_here","_law_met"]:List Str).Nodup by decide +kernel) rfl (Or.inr rfl)))
          (fun Cq fpq sq Hq=>(Z1u rfl (BlockOk.of (N:=["_law_word","_law_at","_law_houses_here"]) (nl:=[none,some 0,some 1]) (cl:=[("_law_houses_here",s.heap.objs.size+1),("_law_at",Cq+1)]) rfl (by decide +kernel) (by decide +kernel) rfl (sub2 rfl rfl) (nm:=["_law_houses_here","_law_at"]) rfl (by decide +kernel) rfl (fun i hi j hj=>by
            match i,hi with
            | 0,_=>cases hj
             | 1,_=>cases hj; exact ⟨_,rfl,rfl,rfl,.inl rfl⟩
             | 2,_=>cases hj; exact ⟨_,rfl,rfl,rfl,.inl rfl⟩
            )) (show PI _ _ _ (J4x K (Z6n 2)) from (Z2i (pvF 2)))
          (fun C fp s H=>(Z0n (i:=0) (show (["_law_word","_law_at","_law_houses_here"]:List Str).Nodup by decide +kernel) rfl (Or.inl rfl)))
          (fun C fp s H=>(Z0G h__law_block hr (by decide) rfl (Z0a (pvF 2) (Z0a (pvF 1) (Z0a (pvF 0) Z0d))))))))
    (Z0c (Z2F PassesOwn.never rfl (Z3W rfl T.z_range (Z0a Z0l Z0d)) (Z0n (i:=9) sc_law.nd rfl (Or.inl rfl)) (Z0c (Z0w (i:=10) sc_law.nd rfl (Or.inl rfl) (Z0G h_tables hr (by decide) rfl (Z0a (pvF 7) Z0d)))
    (Z0c (Z1C (PW.pt (J7J (Z0u J6A (Z0M (r:=Z5u K) (Z3A hr.gd hr.units) rfl T.z_repr Z5L (Z0a (Z0G h_word_names hr (by decide) rfl (Z0a (pvF 7) Z0d)) Z0d)) (Z0M (r:=Z5u K) (Z3A hr.gd hr.units) rfl T.z_repr Z5L (Z0a (pvF 3) Z0d)) (Z0V _)) (J5A (Z0u J6A (Z0M (r:=Z5u K) (Z3A hr.gd hr.units) rfl T.z_repr Z5L (Z0a (pvF 10) Z0d)) (Z0M (r:=Z5u K) (Z3A hr.gd hr.units) rfl T.z_repr Z5L (Z0a (pvF 8) Z0d)) (Z0V _))))) (Z0g (Z0s J4F)) Z0z)
    (Z0c (Z2F PassesOwn.never rfl (Z2i (pvF 10)) (Z0n (i:=11) sc_law.nd rfl (Or.inl rfl)) (Z0g (Z1g (Z3m PySem.F.plainAttrs_list PySem.F.slot_list_append PySem.F.type_list_append Z0K (pvF 11) (Z0a Z2b Z0d)))))
    (Z0c (Z1g (Z3m PySem.F.plainAttrs_list PySem.F.slot_list_append PySem.F.type_list_append Z0K (pvF 10) (Z0a Z2b Z0d)))
    (Z0g (Z1g (Z3m PySem.F.plainAttrs_list PySem.F.slot_list_append PySem.F.type_list_append Z0K (Z0G h_word_names hr (by decide) rfl (Z0a (pvF 7) Z0d)) (Z0a Z0o Z0d)))))))))
    (Z0c (Z1C (Z0u (r:=rNeN K) (J6D hr.units) (pvF 1) (Z0B Z0d) (Z0V _)) (Z0g (Z0s J4F)) Z0z)
    (Z0g (Z0s (J6j (Z5O (r:=rEqD K) (J0Y hr.units) (Z0G h_compiled hr (by decide) rfl (Z0a (pvF 7) Z0d)) (Z0B (Z0a (Z0y (Z0a Z0l (Z0a Z0l (Z0a (Z0y (Z0a (Z0y (Z0a Z0o (Z0a Z0l Z0d))) (Z0a (Z0y (Z0a Z0o Z0d)) Z0d))) Z0d)))) Z0d)) (Z0V _)) (J5k (Z5O (r:=rEqD K) (J0Y hr.units) (J4c h_walked_d hr (by decide) rfl (Z0a (pvF 7) (Z0a (Z0B Z0d) Z0d))) (Z0y (Z0a (Z0y (Z0a Z0o (Z0a Z0l Z0d))) (Z0a Z0l (Z0a (Z0B Z0d) Z0d)))) (Z0V _)))))))))))))),?_⟩
  refine seq9 fun uz8 huz8 uz7 huz7 uz6 huz6 uz5 huz5 uz4 huz4 uz3 huz3 uz2 huz2 uz1 huz1=>?_
  walk_at "rd"
  refine ⟨a,ns,rfl,sq,fun l X us rs H1 h1 s1 e1 hA ok=>?_⟩
  have lus:us.length=rs.length:=hA.len
  have l12:=ok.le
  subst huz1
  walk_at "rd"
  refine New.of fun tl H2 h2 s2 e2=>?_
  subst huz2
  walk_at "rd"
  refine New.of fun ml H3 h3 s3 e3=>?_
  subst huz3
  walk_at "rd"
  have nml:ml≠tl:=Z2Q e2 h3
  have s13:=s2.trans s3
  refine ⟨⟨_,SqL.of (s13 _ _ e1)⟩,?_⟩
  have s1x:∀ {H':Hp},SX tl H3 H'→Same H1 H':=fun sx b o e=>sx _ _ (Z0i e h2) (s13 _ _ e)
  refine Z2U us (L1 K H3 a l tl rs) ⟨none,none,none,ml,[],(fun _ _ _ h=>h),s3 _ _ e2,.nil,nml,e3,rfl⟩ (fun i σ H' _ h=>?_) (fun i y σ H' hy h=>?_) (fun σ H' h=>?_)
  · obtain ⟨o4,o5,o6,m',tvs,sx,_⟩:=h
    exact SqL.of (s1x sx _ _ e1)
  · obtain ⟨o4,o5,o6,m',tvs,sx,et,hT,nm,em,rfl⟩:=h
    obtain ⟨r,hr',ho⟩:=hA.at hy
    cases ho with
    | @mk ta wl _ nX f1 f2=>
    have nwl:wl≠tl:=Z0i f2 h2
    have f1:=SqT.same f1 (s1x sx)
    have f2:=s1x sx _ _ f2
    have hw5:=ok.wl r (List.mem_of_getElem? hr')
    have lt:=hT.length
    rw [List.length_map,List.length_take] at lt
    have lmM:=P52.Z2X 5 ((rs.take i).map Hr.words) [] (fun ws h=>by
      obtain ⟨r2,h2,rfl⟩:=List.mem_map.mp h
      exact ok.wl r2 (List.mem_of_mem_take h2))
    rw [List.length_map,List.length_take,List.length_nil] at lmM
    generalize hM:Z2e [] ((rs.take i).map Hr.words)=M at *
    refine ⟨ta,rfl,⟨_,f1,rfl,⟨_,_,rfl,⟨_,_,rfl,⟨_,_,rfl,?_⟩⟩⟩⟩⟩
    refine ⟨rfl,?_⟩
    refine seq2 fun uy1 huy1=>?_
    walk_at "rd"
    refine ⟨.inl ⟨rfl,_,SqL.of et⟩,New.of fun p4 H4 h4 s4 e4=>⟨⟨_,SqL.of (s4 _ _ f2)⟩,fun D hD=>?_⟩⟩
    refine Z3G (ys:=r.words.map V.str) none [] (fun j v H=>∃ t,r.words[j]?=some t∧RT K H v (Z5s (wd7 t))) (fun j v H1 H2 ⟨t,a,b⟩ s=>⟨t,a,b.kp (kpN s)⟩) rfl hD (by rw [sizeLine_eq,List.length_map]; omega) (fun H5 s=>SqL.of (s _ _ (s4 _ _ f2))) (fun j y hy H5 K' s5 kk=>?_) (fun vs H5 s5 e5 lv hR=>?_)
    · rw [List.getElem?_map] at hy
      obtain ⟨t,ht,rfl⟩:=Option.map_eq_some_iff.mp hy
      walk_at "rd"
      refine New.of fun q1 G1 g1 t1 d1=>New.of fun q2 G2 g2 t2 d2=>New.of fun q3 G3 g3 t3 d3=>?_
      exact kk _ _ (t1.trans (t2.trans t3)) ⟨t,ht,.tup (SqT.of d3) (.cons (.str _) (.cons (.tup (SqT.of (t3 _ _ (t2 _ _ d1))) .nil) (.cons (.str _) (.cons (.tup (SqT.of (t3 _ _ d2)) (.cons (.str _) (.cons (.int _) .nil))) .nil))))⟩
    have hws:=Z7x (fun t=>Z5s (wd7 t)) (lv.trans (by rw [List.length_map])) hR
    refine ⟨D,rfl,vs,.inl ⟨SqL.of e5,fun l6 h6=>?_⟩⟩
    have s6:=Z0v h6 (.tup vs)
    have e6:upd H5 l6 (.tup vs) l6=some (.tup vs):=Z0e
    generalize upd H5 l6 (.tup vs)=H6 at *
    refine New.of fun p7 H7 h7 s7 e7=>?_
    have s47:=s4.trans (s5.trans (s6.trans s7))
    refine ⟨tvs,s47 _ _ et,by omega,?_⟩
    have row:RT K H7 (.ref p7) (Z5y (hs7 r)):=by
      refine .tup (SqT.of e7) (.cons (.str _) (.cons ?_ (.cons (.tup (SqT.of (s7 _ _ (s6 _ _ (s5 _ _ e4)))) .nil) (.cons (.tup (SqT.of (s7 _ _ e6)) ?_) .nil))))
      · show RT K H7 (oS r.elder) (oD r.elder)
        cases r.elder with
        | none=>exact .non
        | some x=>exact .str _
      · show RTs K H7 vs ((r.words.map wd7).map Z5s)
        rw [List.map_map]
        exact RTs.same hws (s6.trans s7)
    have et7:=s47 _ _ et
    have et2:(rs.take (i+1))=rs.take i++[r]:=by
      rw [List.take_succ_eq_append_getElem (List.getElem?_eq_some_iff.mp hr').1,(List.getElem?_eq_some_iff.mp hr').2]
    have hT8:RTs K (upd H7 tl (.lst (tvs++[.ref p7]))) (tvs++[.ref p7]) ((rs.take (i+1)).map fun r=>Z5y (hs7 r)):=by
      rw [et2,List.map_append]
      exact ((RTs.same hT s47).kp (Kp.lst _ et7)).app (.cons (row.kp (Kp.lst _ et7)) .nil)
    have sx8:SX tl H3 (upd H7 tl (.lst (tvs++[.ref p7]))):=(sx.trans (SX.of s47)).trans (SX.put _)
    have em8:upd H7 tl (.lst (tvs++[.ref p7])) m'=_:=(Z0j nm).trans (s47 _ _ em)
    have f28:upd H7 tl (.lst (tvs++[.ref p7])) wl=_:=(Z0j nwl).trans (s47 _ _ f2)
    have e8:upd H7 tl (.lst (tvs++[.ref p7])) tl=some (.lst (tvs++[.ref p7])):=Z0e
    generalize upd H7 tl (.lst (tvs++[.ref p7]))=H8 at *
    subst huy1
    walk_at "rd"
    refine ⟨⟨_,SqL.of f28⟩,fun D hD=>?_⟩
    refine Z9f (ys:=r.words.map V.str) none [some (.ref m')] (pIn M) rfl hD (by rw [sizeLine_eq,List.length_map]; omega) (fun H9 s=>SqL.of (s _ _ f28)) (fun y hy H9 K' s9 kk=>?_) (fun H9 s9 e9=>?_)
    · obtain ⟨x,hx,rfl⟩:=List.mem_map.mp hy
      walk_at "rd"
      refine ⟨_,.inl (SqL.of (s9 _ _ em8)),rfl,Z2S _,?_⟩
      exact kk H9 (Same.refl _)
    rw [Z8E (q:=fun x=>decide (x∉M)) (fun x=>J4e)] at e9
    have lf:=List.length_filter_le (fun x=>decide (x∉M)) r.words
    refine ⟨D,rfl,_,s9 _ _ em8,_,e9,by rw [List.length_map,List.length_map]; omega,New.of fun p10 H10 h10 s10 e10=>?_⟩
    have e810:=(s9.trans s10) _ _ e8
    refine ⟨_,_,_,p10,tvs++[.ref p7],sx8.trans (SX.of (s9.trans s10)),e810,RTs.same hT8 (s9.trans s10),?_,?_,rfl⟩
    · exact fun z=>by have:=s9 _ _ e8; rw [← z,h10] at this; cases this
    · have em2:Z2e [] ((rs.take (i+1)).map Hr.words)=Z4A M r.words:=by
        rw [et2,List.map_append,← hM]
        exact Z2H _ _ _
      rw [e10,← List.map_append,em2]
      rfl
  · obtain ⟨o4,o5,o6,m',tvs,sx,et,hT,nm,em,rfl⟩:=h
    have sH1:=s1x sx
    rw [List.take_of_length_le (by omega)] at hT em
    clear e3 nml
    subst huz4
    walk_at "rd"
    refine ⟨tvs,.inl ⟨SqL.of et,fun l5 h5=>?_⟩⟩
    have s5:=Z0v h5 (.tup tvs)
    have e5:upd H' l5 (.tup tvs) l5=some (.tup tvs):=Z0e
    generalize upd H' l5 (.tup tvs)=H5 at *
    refine New.of fun p6 H6 h6 s6 e6=>New.of fun p7 H7 h7 s7 e7=>New.of fun p8 H8 h8 s8 e8=>New.of fun p9 H9 h9 s9 e9=>?_
    have s59:=s5.trans (s6.trans (s7.trans (s8.trans s9)))
    refine ⟨.ref p9,pg7 rs,rfl,?_,fun h hh=>?_,by show (rs.map hs7).length≤100; rw [List.length_map]; omega,⟨?_,?_,Nat.zero_le _⟩,rfl,fun u H10 s10 hp=>?_⟩
    · refine .tup (SqT.of e9) (.cons (.tup (SqT.of (s9 _ _ (s8 _ _ (s7 _ _ (s6 _ _ e5))))) ?_) (.cons (.tup (SqT.of (s9 _ _ e8)) (.cons (.tup (SqT.of (s9 _ _ (s8 _ _ (s7 _ _ e6)))) .nil) (.cons (.str _) (.cons (.tup (SqT.of (s9 _ _ (s8 _ _ e7))) (.cons (.str _) (.cons (.int _) .nil))) .nil)))) .nil))
      show RTs K H9 tvs ((rs.map hs7).map Z5y)
      rw [List.map_map]
      exact RTs.same hT s59
    · obtain ⟨r,hr',rfl⟩:=List.mem_map.mp hh
      exact J6H (ok.wl r hr')
    · exact J6e _
    · exact Nat.le_of_ble_eq_true rfl
    subst huz5
    walk_at "rd"
    obtain ⟨ch,fo,hfo⟩:=all7 ok
    have sH10:=sH1.trans (s59.trans s10)
    have e1':=sH10 _ _ e1
    have hA':=hA.mono fun _ _ r=>r.same sH10
    have em':=s10 _ _ (s59 _ _ em)
    have lmet:=Z5N ok
    refine ⟨us,.inl (SqL.of e1'),by omega,by omega,fun D hD=>?_⟩
    rw [Int.toNat_natCast]
    have nDl:D≠l:=Z2Q e1' hD
    refine Z7z (J:=Itr 0 us.length) (ys:=(List.range us.length).map fun j:Nat=>V.int (j:Int)) none [some (.ref l),some (.ref m')] (fun j v H=>∃ r rl,rs[j]?=some r∧v=.ref rl∧rl≠D∧H rl=some (.lst ((met rs).map fun w=>bkV (bk (pg7 rs) (fo r.name w))))) (fun j v H1 H2 ⟨r,rl,a1,a2,a3,a4⟩ sx=>⟨r,rl,a1,a2,a3,sx _ _ a3 a4⟩) rfl hD (by rw [sizeLine_eq,List.length_map,List.length_range]; omega) ?_ ?_ ?_ ?_ ?_
    · intro i H11 _ hi
      rw [List.length_map,List.length_range] at hi
      exact hi
    · intro i H11 y H12 hi _ yl
      rw [List.length_map,List.length_range] at hi
      obtain ⟨rfl,rfl⟩:=yl
      refine ⟨rfl,?_⟩
      rw [List.getElem?_map,List.getElem?_range hi,Int.zero_add]; rfl
    · intro H11 _
      rw [List.length_map,List.length_range]
      exact Nat.le_refl _
    · intro i y hy H11 K' s11 hD11 kk
      rw [List.getElem?_map] at hy
      obtain ⟨i',hi',rfl⟩:=Option.map_eq_some_iff.mp hy
      have hi2:=(List.getElem?_eq_some_iff.mp hi').1
      rw [List.length_range] at hi2
      rw [List.getElem?_range hi2] at hi'
      cases hi'
      have hir:i < rs.length:=by omega
      obtain ⟨hc,hcl,hF⟩:=hfo rs[i].name (List.mem_map_of_mem (List.getElem_mem hir))
      walk_at "rd"
      have em11:=s11 _ _ em'
      refine ⟨⟨_,SqL.of em11⟩,fun D2 hD2=>?_⟩
      refine Z3G (ys:=(met rs).map V.str) none [some (.int (i:Int)),some (.ref l)] (fun j v H=>∃ t,(met rs)[j]?=some t∧v=bkV (bk (pg7 rs) (fo rs[i].name t))) (fun _ _ _ _ h _=>h) rfl hD2 (by rw [sizeLine_eq,List.length_map]; omega) (fun H12 s=>SqL.of (s _ _ em11)) (fun j y hy H12 K' s12 kk=>?_) (fun vs H12 s12 hv lv hR=>?_)
      · rw [List.getElem?_map] at hy
        obtain ⟨t,ht,rfl⟩:=Option.map_eq_some_iff.mp hy
        walk_at "rd"
        exact ⟨l,X,us,rs,i,rs[i],t,ch rs[i].name,fo rs[i].name t,rfl,s12 _ _ (s11 _ _ e1'),hA'.mono fun _ _ r=>(r.same s11).same s12,ok,List.getElem?_eq_getElem hir,hc,hF t,fun H13 s13=>kk _ _ s13 ⟨t,ht,rfl⟩⟩
      have ev:=Z2O (g:=fun t=>bkV (bk (pg7 rs) (fo rs[i].name t))) (lv.trans (by rw [List.length_map])) hR
      rw [ev] at hv
      obtain ⟨vs11,hd11⟩:=hD11
      exact kk _ _ s12 ⟨rs[i],D2,List.getElem?_eq_getElem hir,rfl,Z2Q hd11 hD2,hv⟩
    intro vs H11 s11 e11 lv hR
    rw [List.length_map,List.length_range] at lv
    have hdue:RdD K H11 (.ref D) (dueD rs fo):=by
      refine .lst (SqL.of e11) ?_
      rw [List.map_map]
      exact J3E (R:=fun v r=>∃ rl,v=.ref rl∧H11 rl=some (.lst ((met rs).map fun w=>bkV (bk (pg7 rs) (fo r.name w))))) (fun v r ⟨rl,a1,a2⟩=>by
        rw [a1]
        exact .lst (SqL.of a2) (Z4O (fun w=>J5L _) (met rs))) (A2.of (lv.trans lus) fun j v hv=>by
        obtain ⟨r,rl,a1,a2,a3,a4⟩:=hR j v hv
        exact ⟨r,a1,rl,a2,a4⟩)
    have e1'':=s11 _ _ e1'
    have em'':=s11 _ _ em'
    have hp11:=hp.same s11
    have hmet:RdD K H11 (.ref m') (metD rs):=.lst (SqL.of em'') (Z4O (fun w=>.str w) (met rs))
    clear hR hA' e11 e1' em' hT et sx
    have gok:GOk (pg7 rs):=⟨by rw [Z5b]; exact ok.nd,fun h hh=>by
      obtain ⟨r,hr',rfl⟩:=List.mem_map.mp hh
      exact J6H (ok.wl r hr')⟩
    have hlen:(pg7 rs).houses.length≤100:=by show (rs.map hs7).length≤100; rw [List.length_map]; omega
    have hfo':∀ x∈(pg7 rs).houses.map Hs.name,Chain (pg7 rs) x (ch x)∧(ch x).length≤100∧∀ w,FO (pg7 rs) w (x::ch x) (fo x w):=by rw [Z5b]; exact hfo
    subst huz6
    walk_at "rd"
    refine Z5w (L2t H11 [some (V.ref a),some (V.ref l),some (V.ref tl),some (V.ref m'),o4,o5,o6,some u,some (V.ref D)]) ⟨none,none,none,Same.refl _,rfl⟩ (fun i σ H' hi hI=>?_) (fun σ H' hI=>?_)
    · obtain ⟨o9,o10,o11,sI,rfl⟩:=hI
      refine seq5 fun uy4 huy4 uy3 huy3 uy2 huy2 uy1 huy1=>?_
      walk_at "rd"
      refine ⟨u,pg7 rs,ch,fo,rfl,hp11.same sI,gok,hlen,hfo',fun fl H12 h12 s12 hT=>?_⟩
      subst huy1
      walk_at "rd"
      refine ⟨u,pg7 rs,rfl,hp11.same (sI.trans s12),gok,hlen,fun wl H13 h13 s13 e13=>?_⟩
      rw [wn7] at e13
      have sI13:=sI.trans (s12.trans s13)
      obtain ⟨m1,m2,m3,m4⟩:=J5O (J3e ok) (by decide) (by decide)
      obtain ⟨d1,d2,d3,d4⟩:=J5O (J2N ok hfo) (by decide) (by decide)
      refine ⟨wl,rfl,metD rs,.lst (SqL.of e13) (Z4O (fun w=>.str w) (met rs)),m1,m2,m3,m4,metD rs,hmet.same sI13,m1,m2,m3,m4,ite2 (fun z=>absurd rfl z) (fun _=>?_)⟩
      refine ⟨dueD rs fo,(J8j hT).same s13,d1,d2,d3,d4,dueD rs fo,hdue.same sI13,d1,d2,d3,d4,ite2 (fun z=>absurd rfl z) (fun _=>?_)⟩
      obtain ⟨vs,ef,hv⟩:=hT
      have h0f:H' fl=none:=h12
      have s13':Same H' H13:=s12.trans s13
      have hv':∀ v∈vs,∃ r xs,v=V.ref r∧r≠fl∧H' r=none∧H13 r=some (.lst xs)∧xs.length≤10000+0:=by
        intro v hm
        obtain ⟨j,hj⟩:=(List.getElem?_of_mem hm)
        obtain ⟨ds,hd,r,a1,a2,a3,a4⟩:=hv.at hj
        refine ⟨r,ds,a1,a2,a3,s13 _ _ a4,?_⟩
        rw [List.getElem?_map] at hd
        obtain ⟨x,_,rfl⟩:=Option.map_eq_some_iff.mp hd
        rw [List.length_map,wn7]
        omega
      have lvs:vs.length≤12:=by
        rw [hv.len,List.length_map,Z5b,List.length_map]; exact ok.le
      subst huy2
      walk_at "rd"
      refine ⟨⟨_,SqL.of (s13 _ _ ef)⟩,Z2U vs (L3 H' fl vs [some (V.ref a),some (V.ref l),some (V.ref tl),some (V.ref m'),o4,o5,o6,some u,some (V.ref D),some (V.int (i:Int)),some (V.ref fl)]) ⟨o11,s13',s13 _ _ ef,hv',rfl⟩ (fun k σ Hc _ h=>?_) (fun k y σ Hc hy h=>?_) (fun σ Hc h=>?_)⟩
      · obtain ⟨o,_,ec,_⟩:=h
        exact SqL.of ec
      · obtain ⟨o,sc,ec,hvc,rfl⟩:=h
        have hk:=(List.getElem?_eq_some_iff.mp hy).1
        obtain ⟨r,xs,rfl,nr,r0,er,lx⟩:=hvc y (List.mem_of_getElem? hy)
        walk_at "rd"
        refine ⟨.inl ⟨rfl,_,SqL.of er⟩,xs,er,by omega,?_⟩
        refine ⟨_,fun b o e=>by rw [Z0j (Z0i e r0)]; exact sc _ _ e,by rw [Z0j nr.symm]; exact ec,fun v hm=>?_,rfl⟩
        obtain ⟨r',xs',a1,a2,a3,a4,a5⟩:=hvc v hm
        by_cases e:r'=r
        · subst e
          rw [er] at a4; cases a4
          exact ⟨r',_,a1,a2,a3,Z0e,by rw [List.length_append]; simp; omega⟩
        · exact ⟨r',xs',a1,a2,a3,by rw [Z0j e]; exact a4,by omega⟩
      · obtain ⟨o,sc,ec,hvc,rfl⟩:=h
        subst huy3
        walk_at "rd"
        refine ⟨.inl ⟨rfl,_,SqL.of ec⟩,vs,ec,by omega,?_⟩
        have sc2:Same H' (upd Hc fl (.lst (vs++[.non]))):=fun b o e=>by rw [Z0j (Z0i e h0f)]; exact sc _ _ e
        generalize upd Hc fl (.lst (vs++[.non]))=H14 at *
        subst huy4
        walk_at "rd"
        refine ⟨u,pg7 rs,rfl,hp11.same (sI.trans sc2),gok,hlen,fun w2 H15 h15 s15 e15=>?_⟩
        refine ⟨.inl ⟨rfl,_,SqL.of e15⟩,w2,rfl,_,e15,by rw [List.length_map,wn7]; omega,_,_,_,fun b o e=>?_,rfl⟩
        rw [Z0j (Z0i e (Z5M (sI.trans sc2) h15))]
        exact s15 _ _ ((sI.trans sc2) _ _ e)
    · obtain ⟨o9,o10,o11,sI,rfl⟩:=hI
      subst huz7
      walk_at "rd"
      refine New.of fun p12 H12 h12 s12 e12=>⟨us,SqL.of (s12 _ _ (sI _ _ e1'')),SqL.of e12,ite2 (fun _=>q _) (fun hem=>?_)⟩
      have hrs:rs=[]:=by
        cases us with
        | nil=>exact List.length_eq_zero_iff.mp lus.symm
        | cons _ _=>exact absurd rfl hem
      subst hrs
      subst huz8
      walk_at "rd"
      have hp12:=hp11.same (sI.trans s12)
      refine ⟨u,rfl,hp12,fun v H13 s13 hr13=>?_⟩
      refine New.of fun q1 G1 g1 t1 d1=>New.of fun q2 G2 g2 t2 d2=>New.of fun q3 G3 g3 t3 d3=>New.of fun q4 G4 g4 t4 d4=>New.of fun q5 G5 g5 t5 d5=>?_
      have t15:=t1.trans (t2.trans (t3.trans (t4.trans t5)))
      refine ⟨.list [blD 1],hr13.same t15,.list [blD 1],.lst (SqL.of d5) (.cons (.tup (SqT.of (t5 _ _ d4)) (.cons (.int _) (.cons (.int _) (.cons (.tup (SqT.of (t5 _ _ (t4 _ _ d3))) (.cons (.tup (SqT.of (t5 _ _ (t4 _ _ (t3 _ _ (t2 _ _ d1))))) (.cons (.str _) (.cons (.int _) .nil))) (.cons (.tup (SqT.of (t5 _ _ (t4 _ _ (t3 _ _ d2)))) (.cons (.str _) .nil)) .nil))) .nil)))) .nil),Z6L,Z6L,ite2 (fun _=>?_) (fun z=>absurd J6u z)⟩
      refine New.of fun q6 G6 g6 t6 d6=>?_
      refine ⟨u,q6,pg7 [],100,1,rfl,hp12.same (s13.trans (t15.trans t6)),gok0,by decide,rfl,rfl,SqL.of d6,fun v2 H14 s14 hr14=>?_⟩
      refine New.of fun q7 G7 g7 t7 d7=>New.of fun q8 G8 g8 t8 d8=>New.of fun q9 G9 g9 t9 d9=>?_
      have t79:=t7.trans (t8.trans t9)
      refine ⟨wk1 1,hr14.same t79,wk1 1,.tup (SqT.of d9) (.cons (.tup (SqT.of (t9 _ _ (t8 _ _ d7))) (.cons (.str _) (.cons (.int _) .nil))) (.cons (.int _) (.cons (.lst (SqL.of (t9 _ _ d8)) .nil) .nil))),Z6o,Z6o,?_⟩
      rw [J5Q]
      exact q _
end
end K52
end
end
section
namespace K52
open PySem L2
end K52
end
open PySem PySem.W PyProof.Rows
set_option maxRecDepth 100000 in
set_option maxHeartbeats 0 in
theorem PySem.Challenge.cw_elderhouse_k52_tables_and_numbers_holds : PySem.Challenge.rw_elderhouse_k52_tables_and_numbers.Holds := by
 w_on
 refine holds_law K52.ws0 fun said=>?_
 refine holds_open (q:=K52.qv) (loose:=["SIGN_ROWS","walked"]) (Xt:=fun s=>xlAt K52.qv [] s&&recOk (RowW.records K52.rv) s) (XP:=XL K52.qv []) (Yf:=Hook.obs (kHook K52.KK K52.KA K52.Z4q)) (Ya:=Hook.val (kHook K52.KK K52.KA K52.Z4q)) (YP:=Hook.says (kHook K52.KK K52.KA K52.Z4q)) (N:=10614) K52.left (Hook.of (kHook K52.KK K52.KA K52.Z4q)) (Hook.keeps (kHook K52.KK K52.KA K52.Z4q)) (fun s e=>xl_of s (Bool.and_eq_true_iff.mp e).1) XL.keeps (by rfl) (by rfl) (by rfl) (fun s e=>recFacts_of (Bool.and_eq_true_iff.mp e).2) (by rfl) said (by decide +kernel) ⟨rfl,rfl,rfl,rfl,rfl,by decide +kernel⟩ ?hw ?hc
 case hw=>w_witness2
 k_fill
 refine L2.J2j (l:=rw0) (n:=63) (k:=20) (x:="_law_script") (CX:=L2.CX0) (sp:=K52.Z9X) rfl (by decide) rfl ⟨rfl,by decide,by decide,rfl⟩ (fun w h Y=>W.kIn_of Y) ?F ?S (fun _ _ _ _ z=>z)
 case F=>
  intro w mg fa h KX G hmg
  have T:∃ Cl Ct Cw Ch Cp C_Maker Cs Cq Ck,K52.Txt (L2.KOf KX) mg Cl Ct Cw Ch Cp C_Maker Cs Cq Ck:=by
   dsimp only [L2.KOf]
   refine' ⟨_,_,_,_,_,_,_,_,_,K52.Txt.mk (W.mg_none_of KX G ?x0) (W.mg_none_of KX G ?x1) (W.mg_none_of KX G ?x2) (W.mg_none_of KX G ?x3) (W.mg_none_of KX G ?x4) (W.mg_none_of KX G ?x5) (W.mg_none_of KX G ?x6) (W.mg_none_of KX G ?x7) (W.mg_none_of KX G ?x8) (W.mg_none_of KX G ?x9) (W.mg_none_of KX G ?x10) (W.mg_none_of KX G ?x11) (L2.Z2l KX G ?x12 ?x13 ?x14 ?x15) (L2.Z2l KX G ?x16 ?x17 ?x18 ?x19) (L2.Z2l KX G ?x20 ?x21 ?x22 ?x23) (L2.Z2l KX G ?x24 ?x25 ?x26 ?x27) (L2.Z2l KX G ?x28 ?x29 ?x30 ?x31) (L2.Z2l KX G ?x32 ?x33 ?x34 ?x35) (L2.Z2l KX G ?x36 ?x37 ?x38 ?x39) (L2.Z2l KX G ?x40 ?x41 ?x42 ?x43) (L2.Z2l KX G ?x44 ?x45 ?x46 ?x47) (L2.Z2l KX G ?x48 ?x49 ?x50 ?x51) (L2.Z2l KX G ?x52 ?x53 ?x54 ?x55) (L2.Z2l KX G ?x56 ?x57 ?x58 ?x59) (L2.Z2l KX G ?x60 ?x61 ?x62 ?x63) (L2.Z2l KX G ?x64 ?x65 ?x66 ?x67) (L2.Z2l KX G ?x68 ?x69 ?x70 ?x71) (L2.Z2l KX G ?x72 ?x73 ?x74 ?x75) (L2.Z2l KX G ?x76 ?x77 ?x78 ?x79) (L2.Z2l KX G ?x80 ?x81 ?x82 ?x83) (L2.Z2l KX G ?x84 ?x85 ?x86 ?x87) (L2.Z2l KX G ?x88 ?x89 ?x90 ?x91) (L2.Z2l KX G ?x92 ?x93 ?x94 ?x95) (L2.J5T KX G ?x96 ?x97 ?x98 ?x99 ?x100 ?x101 ?x102) (L2.Z2l KX G ?x103 ?x104 ?x105 ?x106) (L2.Z2l KX G ?x107 ?x108 ?x109 ?x110) (L2.Z2l KX G ?x111 ?x112 ?x113 ?x114) (L2.Z2l KX G ?x115 ?x116 ?x117 ?x118) (L2.Z2l KX G ?x119 ?x120 ?x121 ?x122) (L2.Z4h KX G ?x123 ?pg_Hall ?hd_Hall ?po_Hall ?sa_Hall ?mk_Hall ?kp_Hall) (L2.Z0p ?x124) (L2.Z0p ?x125) (L2.Z4h KX G ?x126 ?pg_Term ?hd_Term ?po_Term ?sa_Term ?mk_Term ?kp_Term) (L2.Z0p ?x127) (L2.Z0p ?x128) (L2.Z0p ?x129) (L2.Z0p ?x130) (L2.Z0p ?x131) (L2.Z0p ?x132) (L2.Z4h KX G ?x133 ?pg_Word ?hd_Word ?po_Word ?sa_Word ?mk_Word ?kp_Word) (L2.Z0p ?x134) (L2.Z0p ?x135) (L2.Z0p ?x136) (L2.Z0p ?x137) (L2.Z4h KX G ?x138 ?pg_House ?hd_House ?po_House ?sa_House ?mk_House ?kp_House) (L2.Z0p ?x139) (L2.Z0p ?x140) (L2.Z0p ?x141) (L2.Z0p ?x142) (L2.Z4h KX G ?x143 ?pg_Program ?hd_Program ?po_Program ?sa_Program ?mk_Program ?kp_Program) (L2.Z0p ?x144) (L2.Z0p ?x145) (L2.Z4h KX G ?x146 ?pg_Maker ?hd_Maker ?po_Maker ?sa_Maker ?mk_Maker ?kp_Maker) (L2.Z0p ?x147) (L2.Z0p ?x148) (L2.Z0p ?x149) (L2.Z0p ?x150) (L2.Z0p ?x151) (L2.Z4h KX G ?x152 ?pg_Scope ?hd_Scope ?po_Scope ?sa_Scope ?mk_Scope ?kp_Scope) (L2.Z0p ?x153) (L2.Z0p ?x154) (L2.Z0p ?x155) (L2.Z4h KX G ?x156 ?pg_Waits ?hd_Waits ?po_Waits ?sa_Waits ?mk_Waits ?kp_Waits) (L2.Z0p ?x157) (L2.Z0p ?x158) (L2.Z4h KX G ?x159 ?pg_Walk ?hd_Walk ?po_Walk ?sa_Walk ?mk_Walk ?kp_Walk) (L2.Z0p ?x160) (L2.Z0p ?x161) (L2.Z0p ?x162) (L2.Z0p ?x163) (L2.Z0p ?x164) (L2.Z0p ?x165) (L2.Z0p ?x166) (L2.Z0U ?x167 ?x168 ?x169 ?x170 ?x171) (L2.Z0U ?x172 ?x173 ?x174 ?x175 ?x176) (L2.Z0U ?x177 ?x178 ?x179 ?x180 ?x181) (L2.Z0U ?x182 ?x183 ?x184 ?x185 ?x186) (L2.Z0U ?x187 ?x188 ?x189 ?x190 ?x191) (L2.Z0U ?x192 ?x193 ?x194 ?x195 ?x196) (L2.Z0U ?x197 ?x198 ?x199 ?x200 ?x201) (L2.Z0U ?x202 ?x203 ?x204 ?x205 ?x206) (L2.Z0U ?x207 ?x208 ?x209 ?x210 ?x211) (L2.Z0U ?x212 ?x213 ?x214 ?x215 ?x216) (L2.Z0U ?x217 ?x218 ?x219 ?x220 ?x221) (L2.Z0U ?x222 ?x223 ?x224 ?x225 ?x226) (L2.Z0U ?x227 ?x228 ?x229 ?x230 ?x231) (L2.Z0U ?x232 ?x233 ?x234 ?x235 ?x236) (L2.Z0U ?x237 ?x238 ?x239 ?x240 ?x241) (L2.Z0U ?x242 ?x243 ?x244 ?x245 ?x246) (L2.Z0U ?x247 ?x248 ?x249 ?x250 ?x251) (L2.Z0U ?x252 ?x253 ?x254 ?x255 ?x256) (L2.Z0U ?x257 ?x258 ?x259 ?x260 ?x261) (L2.Z0U ?x262 ?x263 ?x264 ?x265 ?x266) (L2.Z0U ?x267 ?x268 ?x269 ?x270 ?x271) (L2.Z0U ?x272 ?x273 ?x274 ?x275 ?x276) (L2.Z0U ?x277 ?x278 ?x279 ?x280 ?x281) (L2.Z0U ?x282 ?x283 ?x284 ?x285 ?x286) (L2.Z0U ?x287 ?x288 ?x289 ?x290 ?x291) (L2.Z0U ?x292 ?x293 ?x294 ?x295 ?x296) (L2.Z0U ?x297 ?x298 ?x299 ?x300 ?x301) (L2.Z0U ?x302 ?x303 ?x304 ?x305 ?x306)⟩
   (case x0=>k_is);(case x1=>k_is);(case x2=>k_is);(case x3=>k_is);(case x4=>k_is);(case x5=>k_is);(case x6=>k_is);(case x7=>k_is);(case x8=>k_is);(case x9=>k_is);(case x10=>k_is);(case x11=>k_is);(case x12=>k_is);(case x13=>k_is);(case x14=>k_is);(case x15=>k_is);(case x16=>k_is);(case x17=>k_is);(case x18=>k_is);(case x19=>k_is);(case x20=>k_is);(case x21=>k_is);(case x22=>k_is);(case x23=>k_is);(case x24=>k_is);(case x25=>k_is);(case x26=>k_is);(case x27=>k_is);(case x28=>k_is);(case x29=>k_is);(case x30=>k_is);(case x31=>k_is);(case x32=>k_is);(case x33=>k_is);(case x34=>k_is);(case x35=>k_is);(case x36=>k_is);(case x37=>k_is);(case x38=>k_is);(case x39=>k_is);(case x40=>k_is);(case x41=>k_is);(case x42=>k_is);(case x43=>k_is);(case x44=>k_is);(case x45=>k_is);(case x46=>k_is);(case x47=>k_is);(case x48=>k_is);(case x49=>k_is);(case x50=>k_is);(case x51=>k_is);(case x52=>k_is);(case x53=>k_is);(case x54=>k_is);(case x55=>k_is);(case x56=>k_is);(case x57=>k_is);(case x58=>k_is);(case x59=>k_is);(case x60=>k_is);(case x61=>k_is);(case x62=>k_is);(case x63=>k_is);(case x64=>k_is);(case x65=>k_is);(case x66=>k_is);(case x67=>k_is);(case x68=>k_is);(case x69=>k_is);(case x70=>k_is);(case x71=>k_is);(case x72=>k_is);(case x73=>k_is);(case x74=>k_is);(case x75=>k_is);(case x76=>k_is);(case x77=>k_is);(case x78=>k_is);(case x79=>k_is);(case x80=>k_is);(case x81=>k_is);(case x82=>k_is);(case x83=>k_is);(case x84=>k_is);(case x85=>k_is);(case x86=>k_is);(case x87=>k_is);(case x88=>k_is);(case x89=>k_is);(case x90=>k_is);(case x91=>k_is);(case x92=>k_is);(case x93=>k_is);(case x94=>k_is);(case x95=>k_is);(case x96=>k_is);(case x97=>k_is);(case x98=>k_is);(case x99=>k_is);(case x100=>k_is);(case x101=>exact rfl);(case x102=>exact ⟨_,rfl⟩);(case x103=>k_is);(case x104=>k_is);(case x105=>k_is);(case x106=>k_is);(case x107=>k_is);(case x108=>k_is);(case x109=>k_is);(case x110=>k_is);(case x111=>k_is);(case x112=>k_is);(case x113=>k_is);(case x114=>k_is);(case x115=>k_is);(case x116=>k_is);(case x117=>k_is);(case x118=>k_is);(case x119=>k_is);(case x120=>k_is);(case x121=>k_is);(case x122=>k_is);(case x123=>k_is);(case pg_Hall=>k_is);(case hd_Hall=>k_is);(case po_Hall=>k_is);(case sa_Hall=>k_is);(case mk_Hall=>k_is);(case kp_Hall=>k_is);(case x124=>k_is);(case x125=>k_is);(case x126=>k_is);(case pg_Term=>k_is);(case hd_Term=>k_is);(case po_Term=>k_is);(case sa_Term=>k_is);(case mk_Term=>k_is);(case kp_Term=>k_is);(case x127=>k_is);(case x128=>k_is);(case x129=>k_is);(case x130=>k_is);(case x131=>k_is);(case x132=>k_is);(case x133=>k_is);(case pg_Word=>k_is);(case hd_Word=>k_is);(case po_Word=>k_is);(case sa_Word=>k_is);(case mk_Word=>k_is);(case kp_Word=>k_is);(case x134=>k_is);(case x135=>k_is);(case x136=>k_is);(case x137=>k_is);(case x138=>k_is);(case pg_House=>k_is);(case hd_House=>k_is);(case po_House=>k_is);(case sa_House=>k_is);(case mk_House=>k_is);(case kp_House=>k_is);(case x139=>k_is);(case x140=>k_is);(case x141=>k_is);(case x142=>k_is);(case x143=>k_is);(case pg_Program=>k_is);(case hd_Program=>k_is);(case po_Program=>k_is);(case sa_Program=>k_is);(case mk_Program=>k_is);(case kp_Program=>k_is);(case x144=>k_is);(case x145=>k_is);(case x146=>k_is);(case pg_Maker=>k_is);(case hd_Maker=>k_is);(case po_Maker=>k_is);(case sa_Maker=>k_is);(case mk_Maker=>k_is);(case kp_Maker=>k_is);(case x147=>k_is);(case x148=>k_is);(case x149=>k_is);(case x150=>k_is);(case x151=>k_is);(case x152=>k_is);(case pg_Scope=>k_is);(case hd_Scope=>k_is);(case po_Scope=>k_is);(case sa_Scope=>k_is);(case mk_Scope=>k_is);(case kp_Scope=>k_is);(case x153=>k_is);(case x154=>k_is);(case x155=>k_is);(case x156=>k_is);(case pg_Waits=>k_is);(case hd_Waits=>k_is);(case po_Waits=>k_is);(case sa_Waits=>k_is);(case mk_Waits=>k_is);(case kp_Waits=>k_is);(case x157=>k_is);(case x158=>k_is);(case x159=>k_is);(case pg_Walk=>k_is);(case hd_Walk=>k_is);(case po_Walk=>k_is);(case sa_Walk=>k_is);(case mk_Walk=>k_is);(case kp_Walk=>k_is);(case x160=>k_is);(case x161=>k_is);(case x162=>k_is);(case x163=>k_is);(case x164=>k_is);(case x165=>k_is);(case x166=>k_is);(case x167=>k_is);(case x168=>k_is);(case x169=>k_is);(case x170=>k_is);(case x171=>k_is);(case x172=>k_is);(case x173=>k_is);(case x174=>k_is);(case x175=>k_is);(case x176=>k_is);(case x177=>k_is);(case x178=>k_is);(case x179=>k_is);(case x180=>k_is);(case x181=>k_is);(case x182=>k_is);(case x183=>k_is);(case x184=>k_is);(case x185=>k_is);(case x186=>k_is);(case x187=>k_is);(case x188=>k_is);(case x189=>k_is);(case x190=>k_is);(case x191=>k_is);(case x192=>k_is);(case x193=>k_is);(case x194=>k_is);(case x195=>k_is);(case x196=>k_is);(case x197=>k_is);(case x198=>k_is);(case x199=>k_is);(case x200=>k_is);(case x201=>k_is);(case x202=>k_is);(case x203=>k_is);(case x204=>k_is);(case x205=>k_is);(case x206=>k_is);(case x207=>k_is);(case x208=>k_is);(case x209=>k_is);(case x210=>k_is);(case x211=>k_is);(case x212=>k_is);(case x213=>k_is);(case x214=>k_is);(case x215=>k_is);(case x216=>k_is);(case x217=>k_is);(case x218=>k_is);(case x219=>k_is);(case x220=>k_is);(case x221=>k_is);(case x222=>k_is);(case x223=>k_is);(case x224=>k_is);(case x225=>k_is);(case x226=>k_is);(case x227=>k_is);(case x228=>k_is);(case x229=>k_is);(case x230=>k_is);(case x231=>k_is);(case x232=>k_is);(case x233=>k_is);(case x234=>k_is);(case x235=>k_is);(case x236=>k_is);(case x237=>k_is);(case x238=>k_is);(case x239=>k_is);(case x240=>k_is);(case x241=>k_is);(case x242=>k_is);(case x243=>k_is);(case x244=>k_is);(case x245=>k_is);(case x246=>k_is);(case x247=>k_is);(case x248=>k_is);(case x249=>k_is);(case x250=>k_is);(case x251=>k_is);(case x252=>k_is);(case x253=>k_is);(case x254=>k_is);(case x255=>k_is);(case x256=>k_is);(case x257=>k_is);(case x258=>k_is);(case x259=>k_is);(case x260=>k_is);(case x261=>k_is);(case x262=>k_is);(case x263=>k_is);(case x264=>k_is);(case x265=>k_is);(case x266=>k_is);(case x267=>k_is);(case x268=>k_is);(case x269=>k_is);(case x270=>k_is);(case x271=>k_is);(case x272=>k_is);(case x273=>k_is);(case x274=>k_is);(case x275=>k_is);(case x276=>k_is);(case x277=>k_is);(case x278=>k_is);(case x279=>k_is);(case x280=>k_is);(case x281=>k_is);(case x282=>k_is);(case x283=>k_is);(case x284=>k_is);(case x285=>k_is);(case x286=>k_is);(case x287=>k_is);(case x288=>k_is);(case x289=>k_is);(case x290=>k_is);(case x291=>k_is);(case x292=>k_is);(case x293=>k_is);(case x294=>k_is);(case x295=>k_is);(case x296=>k_is);(case x297=>k_is);(case x298=>k_is);(case x299=>k_is);(case x300=>k_is);(case x301=>k_is);(case x302=>k_is);(case x303=>k_is);(case x304=>k_is);(case x305=>k_is);(case x306=>k_is)
  obtain ⟨Cl,Ct,Cw,Ch,Cp,C_Maker,Cs,Cq,Ck,T⟩:=T
  exact L2.J4g T.f_law hmg (fun _ _ _ _ _ _ _=>rfl) fun f fd base F=>K52.J5v T F
 case S=>exact fun K H a ns hl _ hS=>K52.Z9Z hl hS
