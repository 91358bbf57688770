import PyProof.Rows.All
import Wide.All
import OpenK.AllK
import Wide.FinOn
import PySem.PyData
import OpenK.KMore
import OpenK.KMake
import OpenK.KDescr
import OpenK.KOwn
import KE.KIsAll
import KE.KItem
import KE.KxBytes
import PyProof.EqAt
import PyProof.EqKinds
import PyProof.TupleCall
import PyProof.ReprRoads
import PyProof.ReprLen
import PyProof.ListNew
import PyProof.WalksMore
import KE.KRevIter
import PyProof.ZipIter
import PyProof.SumWalkG
import PyProof.MinMaxWalk
import PyProof.WalkInts
import PyProof.SeqI3
import PyProof.Rows.CallKwBuiltin
import KE.KMinKey
import PyProof.AutoSeq1
import PyProof.ListMulRoad
import PyProof.FactsAll.tuple
import PyProof.Rows.SeqMore
import PyProof.CompUse
import KE.KDictOf
import PyProof.AttrMiss
import PyProof.FactsAll.zip_1
import PyProof.ListRange
import PyProof.Rows.ListRangeD
import KE.KLam
import KE.KSortTup
import PyProof.AttrMissHeap
import PyProof.DictIter
import PyProof.DictWalks
import PyProof.DictTruth
import KE.KDictSum
import PyProof.Rows.SortStr
import PyProof.Rows.SortWalk
import PyProof.DictUpdate
import KE.KUnpack
import PyProof.ExcClass3
import PyProof.StationsW
import PyProof.InstSpecial
import OpenK.KCls
import PyProof.ExcArgs
import KE.KIsNot
import PyProof.NsDelKeeps
import PyProof.StrLawsIdx
import PyProof.StrBlock2
import PyProof.StrBlockL
import PyProof.StrLawsJoin
import PyProof.StrLawsIn
import PyProof.Rows.StrCase
import PyProof.Rows.StrAscii
import KE.KIntText
import KE.IntTextLaws
import Lean
import PySem.Challenge.RW_elderhouse_k13_bounds
set_option Elab.async false
set_option linter.all false
set_option maxRecDepth 100000
set_option compiler.extract_closed false
set_option maxHeartbeats 4000000
open PySem.W renaming Frag→y0
open PySem renaming Addr→t0,Value→q0,Shared→X0,Str→Z0,World→U0,Heap→V0,Around→M0
open PySem.Challenge renaming pw_elderhouse_k13_bounds→pw0,rw_elderhouse_k13_bounds→rw0
open Nat renaming le_refl→qa0,le_trans→qa1,lt_of_lt_of_le→qa5,ne_of_lt→qa9,lt_irrefl→qb1,zero_le→qb2,lt_of_sub_eq_succ→qb3,add_le_add→qc3,lt_succ_self→qd2,le_of_not_lt→qd4,le_of_succ_le_succ→qd7,ne_of_gt→qd9,le_of_eq→qf3,le_succ→qf4,le_of_lt→qf7,mul_le_mul→qg6,lt_succ_of_lt→qg9,lt_of_le_of_lt→qi6
open List renaming length_append→qa2,replicate→qa4,size_toArray→qa6,getElem?_eq_getElem→qa7,append_assoc→qa8,length_map→qb0,mem_cons→qb4,lookup_cons→qb5,getD_eq_getElem?_getD→qb6,replicate_succ→qb9,map_cons→qc0,append_nil→qc1,mem_singleton→qc2,getElem?_map→qc4,getElem?_eq_some_iff→qc6,lookup→qc7,flatten_cons→qc8,mem_append_right→qc9,mem_cons_of_mem→qd1,range→qd5,map_map→qd6,mem_cons_self→qd8,length_cons→qe0,all_cons→qe3,map_append→qe4,mem_range→qe9,filterMap_cons→qf0,mem_append→qf1,length_drop→qf5,takeWhile_cons→qf6,mem_map→qf9,getElem?_eq_none→qg2,not_mem_nil→qg3,drop_drop→qg4,drop_eq_nil_of_le→qg5,nodup_cons→qg7,length_take→qg8,take_length→qh0,find?_cons→qh1,contains_cons→qh2,dropWhile_cons→qh4,mem_append_left→qh6,getElem?_set_self→qh7,getElem?_set_ne→qh8,getElem?_append_right→qi0,getElem?_append_left→qi1,mem_of_getElem?→qi2,getElem_of_mem→qi7,length_pos_iff→qi8,eq_nil_of_length_eq_zero→qj0,takeWhile_sublist→qj1,flatMap_append→qj3,getElem?_drop→qj4
open Bool renaming false_ne_true→qa3,and_eq_true→qc5,or_true→qe5,eq_iff_iff→qf2,or_eq_true_iff→qg1,and_eq_true_iff→qj2
open Int renaming emod_nonneg→qb7,emod_lt_of_pos→qb8,ofNat_lt→qe1
open Option.some renaming inj→qd0
open Option renaming map_eq_some_iff→qd3,bind_some→qe8,isSome_iff_exists→qh9
open PySem.F renaming plainAttrs_list→qe2,slot_list_append→qe6,type_list_append→qe7,slot_tuple_add→qi3,entry_tuple_add→qi4,args_tuple_add_2→qi5,excBase_ValueError→qi9
open Array renaming length_toList→qf8,getElem?_eq_some_iff→qg0
open Classical renaming byContradiction→qh3
open Nat.succ renaming inj→qh5
local macro_rules | `(tactic| walk_at "r") => do let f : String -> Lean.MacroM (Array (Lean.TSyntax ``Lean.Parser.Tactic.simpLemma)) := λ s => (do let v <-(s.splitOn " ").toArray.filterM λ n => do { let r <-Lean.Macro.resolveGlobalName n.toName; return !r.isEmpty }; v.mapM λ n => `(Lean.Parser.Tactic.simpLemma| $(Lean.mkIdent n.toName):term)); let a <-f "J6Q J7L J6S J5o J6H J6f J6B J7q J4Y J6y J5G J7h J5D J6z J7f J6J J7j J8j J8v J7F J8a J7K J6W J6Z J6A J6O J7Q J6u J6Y J7z J6U J7B J6w J7y J7s J7d J7Z J6v J7u J7X J8h J8w J8d J8i J7T J7R J6K J5Y J7t J6C J6R J6F J6T J7S J4W J6V J7V J7M J6N J7v J7g J7G J8c J7W J4X J4Z J7a J7A J6L J5b J6E J6D J4a J6t J6x J6M J6G J6m J6X J7n J7p J7D List.getElem?_cons_zero List.getElem?_cons_succ List.set_cons_zero List.set_cons_succ Nat.reduceAdd Nat.reduceSub List.cons_append List.nil_append L2.Z3w List.map_cons List.map_nil List.length_cons List.length_nil List.replicate J8e J5X"; let b <-f "J6P J6I exists_eq_left' exists_eq_left exists_and_left exists_eq_right exists_eq_right' V.int.injEq V.str.injEq V.bl.injEq V.ref.injEq Option.some.injEq List.cons.injEq and_true true_and decide_eq_true_eq Bool.not_eq_true' decide_eq_false_iff_not reduceCtorEq J8k J8t J8p J8z J8x J8l J8o J8u J8r J8m J8y J8n J8s J8q List.append_nil Nat.zero_add J4z J3s J4V J3M J4O ix0 ix1 exists_const if_true if_false ite_true ite_false Bool.false_eq_true decide_true decide_false Bool.not_true Bool.not_false Bool.true_eq_false CPow CDiv CMul J7O or_true true_or and_self and_assoc sizeLine_eq Nat.reduceLeDiff Nat.reduceLT Nat.reducePow Nat.reduceMul Int.reducePow Int.reduceLE Int.reduceLT Int.reduceToNat Int.reduceAbs Int.reduceNeg Int.reduceAdd Int.reduceSub Int.reduceMul ne_eq not_false_eq_true not_true_eq_false Int.zero_add"; `(tactic| ((try dsimp only [$a,*]); (try simp (config := { maxSteps := 10000000 }) only [$a,*,$b,*])))
theorem qP{p:Prop}(h:p:=by decide+kernel):p:=h
theorem qQ{p:Prop}(h:p:=by decide):p:=h
theorem qR{p:Prop}(h:p:=by lia):p:=h
theorem qS{p:Prop}(h:p:=by first|decide|lia):p:=h
section
namespace L2
open PySem
def Z0D(s:Stmt)(j:Nat):Stmt:=match s with
 | .ClassDef _ _ _ body _ _ _ _ _ _ _=>body.getD j (.Pass ⟨0,0,0,0⟩)
 |_=>.Pass ⟨0,0,0,0⟩
def Z0Q(s:Stmt):Arguments:=match s with
 | .FunctionDef _ a _ _ _ _ _ _ _ _=>a
 |_=>{posonlyargs:=[],args:=[],vararg:=none,kwonlyargs:=[],kw_defaults:=[],kwarg:=none,defaults:=[]}
def Z0B(s:Stmt):List Stmt:=match s with
 | .FunctionDef _ _ b _ _ _ _ _ _ _=>b
 |_=>[]
def Z0e(s:Stmt):Scope:=match s with
 | .FunctionDef _ _ _ _ _ _ sc _ _ _=>sc
 |_=>{kind:=.function,names:=[],isGenerator:=false,isCoroutine:=false}
end L2
namespace K13
open PySem L2
section
local macro_rules | `(tactic| walk_at $k:str) => do let s := "__name__ elderhouse.errors HouseError ValueError BadWords __init__ BadForm BadName BadKind BadInput elderhouse.words LONGEST_TEXT LONGEST_NUMBER LONGEST_NAME FIGURES 0123456789 SMALL_LETTERS abcdefghijklmnopqrstuvwxyz GREAT_LETTERS ABCDEFGHIJKLMNOPQRSTUVWXYZ GAPS SIGNS (){},.;=+-*/< TOLD_WORDS house of has can main let in if then else new self elder set not yes no number truth is_told is_name words word_at row_at is_row_sign is_number is_name_row elderhouse.guests TRUTHS Guest ahead behind take takes need need_name need_end elderhouse.terms Term plain parts depth size shape_of Word House Program bodies pairs_of elderhouse.reading MOST_HOUSES MOST_FIELDS MOST_WORDS MOST_PARAMS MOST_TERMS MOST_DEEP MOST_SIZE MOST_OPEN STRENGTHS ; < = + - * / WEAKEST ABOVE_WEAKEST read need_few_open need_few need_bounds read_house read_word read_pair read_kind read_list read_terms read_term read_part read_if read_let read_set read_pointed read_one law_elderhouse_k13_bounds _law_cell_at _law_told _law_deep _law_many _law_row _law_counted law"; let ns := (s.splitOn " ").toArray; let xs := (Array.range ns.size).map λ i => Lean.mkIdent (Lean.Name.mkSimple s!"x{i}"); let C <-ns.mapM λ n => do { let c : Array Lean.Term <-n.toList.toArray.mapM λ k => `(nat_lit $(Lean.Syntax.mkNumLit (toString k.toNat))); `(Str.mk (Array.mk [$c,*])) }; match k.getString with | "t1" => do { let r <-(ns.zip xs).mapM λ (n, x) => `(tactic| generalize Str.ofString $(Lean.Syntax.mkStrLit n) = $x); `(tactic| (($[$r]*); exact $(Lean.mkIdent `hR) $xs*)) } | "t2" => `(tactic| exact Subtype.val $(Lean.mkIdent `Fx) $C*) | "t3" => do { let E <-(ns.zip C).mapM λ (n, c) => do { let d : Array Lean.Term <-n.toList.toArray.mapM λ k => `(Char.ofNat (nat_lit $(Lean.Syntax.mkNumLit (toString k.toNat)))); `((W.Fast.ofString_ofList [$d,*] : Str.ofString $(Lean.Syntax.mkStrLit n) = $c)) }; let a <-E.toList.tail!.foldlM (λ a e => `(congr $a $e)) (<-`(congrArg (Subtype.val $(Lean.mkIdent `Fx)) $(E[0]!))); let L <-ns.mapM λ n => `(Str.ofString $(Lean.Syntax.mkStrLit n)); `(tactic| exact Eq.trans (b := Subtype.val $(Lean.mkIdent `Fx) $L*) rfl $a) } | _ => Lean.Macro.throwUnsupported
noncomputable def Fx:{F:Z0->Z0->Z0->Z0->Z0->Z0->Z0->Z0->Z0->Z0->Z0->Z0->Z0->Z0->Z0->Z0->Z0->Z0->Z0->Z0->Z0->Z0->Z0->Z0->Z0->Z0->Z0->Z0->Z0->Z0->Z0->Z0->Z0->Z0->Z0->Z0->Z0->Z0->Z0->Z0->Z0->Z0->Z0->Z0->Z0->Z0->Z0->Z0->Z0->Z0->Z0->Z0->Z0->Z0->Z0->Z0->Z0->Z0->Z0->Z0->Z0->Z0->Z0->Z0->Z0->Z0->Z0->Z0->Z0->Z0->Z0->Z0->Z0->Z0->Z0->Z0->Z0->Z0->Z0->Z0->Z0->Z0->Z0->Z0->Z0->Z0->Z0->Z0->Z0->Z0->Z0->Z0->Z0->Z0->Z0->Z0->Z0->Z0->Z0->Z0->Z0->Z0->Z0->Z0->Z0->Z0->Z0->Z0->Z0->Z0->Z0->Z0->Z0->Z0->Z0->Z0->Z0->Program//∀R:Program->Prop,(∀x0 x1 x2 x3 x4 x5 x6 x7 x8 x9 x10 x11 x12 x13 x14 x15 x16 x17 x18 x19 x20 x21 x22 x23 x24 x25 x26 x27 x28 x29 x30 x31 x32 x33 x34 x35 x36 x37 x38 x39 x40 x41 x42 x43 x44 x45 x46 x47 x48 x49 x50 x51 x52 x53 x54 x55 x56 x57 x58 x59 x60 x61 x62 x63 x64 x65 x66 x67 x68 x69 x70 x71 x72 x73 x74 x75 x76 x77 x78 x79 x80 x81 x82 x83 x84 x85 x86 x87 x88 x89 x90 x91 x92 x93 x94 x95 x96 x97 x98 x99 x100 x101 x102 x103 x104 x105 x106 x107 x108 x109 x110 x111 x112 x113 x114 x115 x116:Z0,R (F x0 x1 x2 x3 x4 x5 x6 x7 x8 x9 x10 x11 x12 x13 x14 x15 x16 x17 x18 x19 x20 x21 x22 x23 x24 x25 x26 x27 x28 x29 x30 x31 x32 x33 x34 x35 x36 x37 x38 x39 x40 x41 x42 x43 x44 x45 x46 x47 x48 x49 x50 x51 x52 x53 x54 x55 x56 x57 x58 x59 x60 x61 x62 x63 x64 x65 x66 x67 x68 x69 x70 x71 x72 x73 x74 x75 x76 x77 x78 x79 x80 x81 x82 x83 x84 x85 x86 x87 x88 x89 x90 x91 x92 x93 x94 x95 x96 x97 x98 x99 x100 x101 x102 x103 x104 x105 x106 x107 x108 x109 x110 x111 x112 x113 x114 x115 x116))->R pw0}:=by
 refine⟨?F,?h⟩
 case h=>
  intro R hR;delta pw0;walk_at "t1"
noncomputable def _root_.PySem.W.Fast.tw10436134537444737994:Program:=by
 walk_at "t2"
theorem _root_.PySem.W.Fast.te10436134537444737994:pw0=W.Fast.tw10436134537444737994:=by
 delta W.Fast.tw10436134537444737994;walk_at "t3"
end
def top(i:Nat):Stmt:=pw0.main.body.getD i (.Pass ⟨0,0,0,0⟩)
abbrev O0H:Stmt:=top 17
abbrev O0I:Stmt:=top 18
abbrev O1b:Stmt:=top 19
abbrev O0J:Stmt:=top 20
abbrev O0Q:Stmt:=top 21
abbrev O0h:Stmt:=top 22
abbrev O0q:Stmt:=top 23
abbrev O0i:Stmt:=top 24
abbrev Z2U:Stmt:=top 30
abbrev Z2Y:Stmt:=top 34
abbrev Z7Q:Stmt:=top 47
abbrev Z1t:Stmt:=top 48
abbrev Z2Z:Stmt:=top 49
abbrev Z1Q:Stmt:=top 50
abbrev Z2g:Stmt:=top 51
abbrev Z2p:Stmt:=top 52
abbrev Z2w:Stmt:=top 53
abbrev Z2A:Stmt:=top 54
abbrev Z2o:Stmt:=top 55
abbrev Z0E:Stmt:=top 56
abbrev Z2B:Stmt:=top 57
abbrev Z2x:Stmt:=top 58
abbrev Z3o:Stmt:=top 59
abbrev Z3a:Stmt:=top 60
abbrev Z2W:Stmt:=top 61
abbrev Z1C:Stmt:=top 62
abbrev Z2T:Stmt:=top 63
abbrev Z1z:Stmt:=top 65
abbrev Z2q:Stmt:=top 66
abbrev Z2t:Stmt:=top 67
abbrev Z2s:Stmt:=top 68
abbrev Z2S:Stmt:=top 69
abbrev Z1y:Stmt:=top 70
abbrev Z9t:Stmt:=top 71
abbrev Z1i:Stmt:=Z0D (top 27) 0
abbrev Z1P:Stmt:=Z0D (top 27) 1
abbrev Z1B:Stmt:=Z0D (top 27) 2
abbrev Z2a:Stmt:=Z0D (top 27) 3
abbrev Z1O:Stmt:=Z0D (top 27) 4
abbrev Z2f:Stmt:=Z0D (top 27) 5
abbrev Z1d:Stmt:=Z0D (top 27) 6
abbrev Z1j:Stmt:=Z0D (top 27) 7
abbrev Z1s:Stmt:=Z0D (top 29) 0
abbrev Z2e:Stmt:=Z0D (top 29) 1
abbrev Z2b:Stmt:=Z0D (top 29) 2
abbrev Z2h:Stmt:=Z0D (top 29) 3
abbrev Z2v:Stmt:=Z0D (top 29) 4
abbrev Z1q:Stmt:=Z0D (top 31) 0
abbrev Z2M:Stmt:=Z0D (top 31) 1
abbrev Z1l:Stmt:=Z0D (top 32) 0
abbrev Z2z:Stmt:=Z0D (top 32) 1
abbrev Z0V:Stmt:=Z0D (top 33) 0
abbrev Z1X:Stmt:=Z0D (top 33) 1
abbrev Z1k:Stmt:=Z0D (top 33) 2
noncomputable def rv:W.RowW:=W.OpenRow.toRowW (W.OpenLaw.row rw0)
noncomputable def qv:Program:={pw0 with main:={pw0.main with body:=[top 1,top 2,top 3,top 4,top 5,top 6,top 8,top 9,top 10,top 11,top 12,top 13,top 14,top 15,top 16,top 17,top 18,top 19,top 20,top 21,top 22,top 23,top 24,top 27,top 29,top 30,top 31,top 32,top 33,top 34,top 36,top 37,top 38,top 39,top 40,top 41,top 42,top 43,top 45,top 46,top 47,top 48,top 49,top 50,top 51,top 52,top 53,top 54,top 55,top 56,top 57,top 58,top 59,top 60,top 61,top 62,top 63,top 65,top 66,top 67,top 68,top 69,top 70,top 71]}}
abbrev Z1W:Stmt:=Z0D (top 2) 0
abbrev Z2c:Stmt:=Z0D (top 4) 0
abbrev Z2d:Stmt:=Z0D (top 5) 0
noncomputable def cO(x y:Z0)(n:Nat)(l a b:Int)(r:Nat)(d:Nat):Obj:=⟨.type "code",none,.fields #[.str x n,.str y (n+1),.str "/claim/cut.py" (n+2),.int l 0,.int a 0,.int 0 0,.int 0 0,.int b 0,.ref r,.bool true,.int 181 0,.ref (r+1),.none,.ref (r+2),.ref (r+3),.ref (r+4),.int d 0,.int l 0,.str "/claim/cut.py" (d+1)],#[]⟩
noncomputable def fU(x y:Z0)(s:Stmt)(m:Z0)(t c:Nat):Obj:=⟨.type "function",none,.func (W.fnOf x y (L2.Z0Q s) (L2.Z0B s) (L2.Z0e s) .none .none .none (.str m t) none (.ref c) .none),#[]⟩
noncomputable def eT:Obj:=⟨.type "tuple",none,.seq #[] 0,#[]⟩
noncomputable def kE(P:PySem.Params)(x:Z0)(t:Nat)(v:q0):DictEntry:=⟨PyData.keyHash P x,.str x t,v⟩
noncomputable def fV0(x:Z0)(s:Stmt)(c:Nat):Obj:=fU x x s "elderhouse.reading" 705 c
noncomputable def fW1(x y:Z0)(s:Stmt)(c:Nat):Obj:=fU x y s "elderhouse.terms" 502 c
noncomputable def fV1(x:Z0)(s:Stmt)(c:Nat):Obj:=fU x x s "elderhouse.terms" 502 c
noncomputable def fV2(x:Z0)(s:Stmt)(c:Nat):Obj:=fU x x s "elderhouse.words" 314 c
noncomputable def fW3(x y:Z0)(s:Stmt)(c:Nat):Obj:=fU x y s "elderhouse.guests" 413 c
noncomputable def fV4(x:Z0)(s:Stmt)(c:Nat):Obj:=fU x x s "law_elderhouse_k13_bounds" 908 c
noncomputable def fW5(x y:Z0)(s:Stmt)(c:Nat):Obj:=fU x y s "elderhouse.errors" 187 c
noncomputable def tS:List Z0->Nat->List q0
 |[],_=>[]
 |x::xs,n=>.str x n::tS xs (n+1)
noncomputable def tT(l:List Z0)(n:Nat):Obj:=⟨.type "tuple",none,.seq (tS l n).toArray 0,#[]⟩
noncomputable def cQ(x:Z0)(n:Nat)(l a:Int)(r d:Nat):Obj:=cO x x n l a 3 r d
noncomputable def cP(x y:Z0)(n:Nat)(l a:Int)(r:Nat):Obj:=⟨.type "code",none,.fields #[.str x n,.str y (n+1),.str "/claim/cut.py" (n+2),.int l 0,.int a 0,.int 0 0,.int 0 0,.int 3 0,.ref r,.bool true,.int 181 0,.ref (r+1),.none,.none,.none,.ref (r+2),.int ((n+3:Nat):Int) 0,.int l 0,.str "/claim/cut.py" (n+4)],#[]⟩
noncomputable def KB(P:PySem.Params):y0:=
(nat_lit 2,Function.const (("a":Z0)≠"b") (⟨.none,none,(.dict #[] 0),#[]⟩:Obj) qQ)::
(nat_lit 3,⟨(.type "dict"),none,(.dict #[kE P "__name__" 165 (.str "law_elderhouse_k13_bounds" 908),kE P "__doc__" 166 .none,kE P "__package__" 167 .none,kE P "__loader__" 168 (.builtin "__main__.__loader__#opaque"),kE P "__spec__" 169 .none,kE P "__annotations__" 170 (.ref 6),kE P "__builtins__" 171 (.ref 4),kE P "__file__" 173 (.str "/claim/cut.py" 172),kE P "__cached__" 174 .none,kE P "HouseError" 206 (.ref 24),kE P "BadWords" 231 (.ref 44),kE P "BadForm" 247 (.ref 56),kE P "BadName" 272 (.ref 75),kE P "BadKind" 297 (.ref 94),kE P "BadInput" 313 (.ref 106),⟨PyData.keyHash P "LONGEST_TEXT",.str "LONGEST_TEXT" 317,.int 6000 316⟩,⟨PyData.keyHash P "LONGEST_NUMBER",.str "LONGEST_NUMBER" 319,.int 9 318⟩,⟨PyData.keyHash P "LONGEST_NAME",.str "LONGEST_NAME" 321,.int 8 320⟩,kE P "FIGURES" 323 (.str "0123456789" 322),kE P "SMALL_LETTERS" 325 (.str "abcdefghijklmnopqrstuvwxyz" 324),kE P "GREAT_LETTERS" 327 (.str "ABCDEFGHIJKLMNOPQRSTUVWXYZ" 326),kE P "GAPS" 329 (.str " \t\n" 328),kE P "SIGNS" 331 (.str "(){},.;=+-*/<" 330),kE P "TOLD_WORDS" 351 (.ref 109),kE P "is_told" 358 (.ref 116),kE P "is_name" 365 (.ref 123),kE P "words" 375 (.ref 130),kE P "word_at" 384 (.ref 137),kE P "row_at" 393 (.ref 144),kE P "is_row_sign" 400 (.ref 151),kE P "is_number" 406 (.ref 156),kE P "is_name_row" 412 (.ref 161),kE P "TRUTHS" 419 (.ref 162),kE P "Guest" 501 (.ref 228),kE P "Term" 563 (.ref 275),kE P "shape_of" 572 (.ref 286),kE P "Word" 614 (.ref 310),kE P "House" 655 (.ref 336),kE P "Program" 698 (.ref 367),kE P "pairs_of" 704 (.ref 376),⟨PyData.keyHash P "MOST_HOUSES",.str "MOST_HOUSES" 708,.int 12 707⟩,⟨PyData.keyHash P "MOST_FIELDS",.str "MOST_FIELDS" 710,.int 4 709⟩,⟨PyData.keyHash P "MOST_WORDS",.str "MOST_WORDS" 712,.int 8 711⟩,⟨PyData.keyHash P "MOST_PARAMS",.str "MOST_PARAMS" 714,.int 4 713⟩,⟨PyData.keyHash P "MOST_TERMS",.str "MOST_TERMS" 716,.int 8 715⟩,⟨PyData.keyHash P "MOST_DEEP",.str "MOST_DEEP" 718,.int 14 717⟩,⟨PyData.keyHash P "MOST_SIZE",.str "MOST_SIZE" 720,.int 400 719⟩,⟨PyData.keyHash P "MOST_OPEN",.str "MOST_OPEN" 722,.int 14 721⟩,kE P "STRENGTHS" 744 (.ref 377),⟨PyData.keyHash P "WEAKEST",.str "WEAKEST" 746,.int 1 745⟩,⟨PyData.keyHash P "ABOVE_WEAKEST",.str "ABOVE_WEAKEST" 748,.int 2 747⟩,kE P "read" 754 (.ref 382),kE P "need_few_open" 763 (.ref 389),kE P "need_few" 771 (.ref 396),kE P "need_bounds" 777 (.ref 401),kE P "read_house" 788 (.ref 408),kE P "read_word" 798 (.ref 415),kE P "read_pair" 806 (.ref 422),kE P "read_kind" 813 (.ref 429),kE P "read_list" 822 (.ref 436),kE P "read_terms" 832 (.ref 443),kE P "read_term" 845 (.ref 450),kE P "read_part" 854 (.ref 457),kE P "read_if" 865 (.ref 464),kE P "read_let" 876 (.ref 471),kE P "read_set" 886 (.ref 478),kE P "read_pointed" 896 (.ref 485),kE P "read_one" 907 (.ref 492),kE P "_law_cell_at" 917 (.ref 499),kE P "_law_told" 926 (.ref 506),kE P "_law_deep" 934 (.ref 513),kE P "_law_many" 944 (.ref 520),kE P "_law_row" 953 (.ref 527),kE P "_law_counted" 963 (.ref 534),kE P "law" 982 (.ref 541)] 75),#[]⟩)::
(nat_lit 15,⟨.type "tuple",none,.seq #[(.type "ValueError")] 0,#[]⟩)::
(nat_lit 22,eT)::
(nat_lit 23,⟨(.type "dict"),none,(.dict #[kE P "__module__" 196 (.str "elderhouse.errors" 187),⟨PyData.keyHash P "__firstlineno__",.str "__firstlineno__" 200,.int 2 199⟩,kE P "__static_attributes__" 201 (.ref 22),kE P "__weakref__" 203 (.ref 25),kE P "__doc__" 204 .none] 3),#[]⟩)::
(nat_lit 24,⟨(.type "type"),none,(.cls ⟨"HouseError",[(.type "ValueError")],[.ref 24,(.type "ValueError"),(.type "Exception"),(.type "BaseException"),(.type "object")],23,"HouseError",true,[],[.ref 44,.ref 56,.ref 75,.ref 94,.ref 106],false,none,false⟩),#[(some (.ref 15)),none,(some (.str "HouseError" 189)),(some (.str "HouseError" 197)),(some (.builtin "ValueError.__new__")),(some (.bool true))]⟩)::
(nat_lit 25,⟨.type "getset_descriptor",none,.fields #[.str "__weakref__" 202,.ref 24,.builtin "ExceptionGroup.__weakref__",.none],#[]⟩)::
(nat_lit 28,⟨.type "tuple",none,.seq #[.ref 24] 0,#[]⟩)::
(nat_lit 35,eT)::
(nat_lit 37,tT ["self","at"] 222)::
(nat_lit 38,eT)::
(nat_lit 40,cO "__init__" "BadWords.__init__" 219 6 2 3 35 224)::
(nat_lit 41,fW5 "__init__" "BadWords.__init__" Z1W 40)::
(nat_lit 42,tT ["at"] 227)::
(nat_lit 43,⟨(.type "dict"),none,(.dict #[kE P "__module__" 214 (.str "elderhouse.errors" 187),⟨PyData.keyHash P "__firstlineno__",.str "__firstlineno__" 218,.int 4 217⟩,kE P "__init__" 226 (.ref 41),kE P "__static_attributes__" 228 (.ref 42),kE P "__doc__" 229 .none] 2),#[]⟩)::
(nat_lit 44,⟨(.type "type"),none,(.cls ⟨"BadWords",[.ref 24],[.ref 44,.ref 24,(.type "ValueError"),(.type "Exception"),(.type "BaseException"),(.type "object")],43,"BadWords",true,[],[],false,none,false⟩),#[(some (.ref 28)),none,(some (.str "BadWords" 207)),(some (.str "BadWords" 215)),(some (.builtin "ValueError.__new__")),(some (.bool true))]⟩)::
(nat_lit 47,⟨.type "tuple",none,.seq #[.ref 24] 0,#[]⟩)::
(nat_lit 54,eT)::
(nat_lit 55,⟨(.type "dict"),none,(.dict #[kE P "__module__" 239 (.str "elderhouse.errors" 187),⟨PyData.keyHash P "__firstlineno__",.str "__firstlineno__" 243,.int 9 242⟩,kE P "__static_attributes__" 244 (.ref 54),kE P "__doc__" 245 .none] 2),#[]⟩)::
(nat_lit 56,⟨(.type "type"),none,(.cls ⟨"BadForm",[.ref 24],[.ref 56,.ref 24,(.type "ValueError"),(.type "Exception"),(.type "BaseException"),(.type "object")],55,"BadForm",true,[],[],false,none,false⟩),#[(some (.ref 47)),none,(some (.str "BadForm" 232)),(some (.str "BadForm" 240)),(some (.builtin "ValueError.__new__")),(some (.bool true))]⟩)::
(nat_lit 59,⟨.type "tuple",none,.seq #[.ref 24] 0,#[]⟩)::
(nat_lit 66,eT)::
(nat_lit 68,tT ["self","word"] 263)::
(nat_lit 69,eT)::
(nat_lit 71,cO "__init__" "BadName.__init__" 260 13 2 3 66 265)::
(nat_lit 72,fW5 "__init__" "BadName.__init__" Z2c 71)::
(nat_lit 73,tT ["word"] 268)::
(nat_lit 74,⟨(.type "dict"),none,(.dict #[kE P "__module__" 255 (.str "elderhouse.errors" 187),⟨PyData.keyHash P "__firstlineno__",.str "__firstlineno__" 259,.int 11 258⟩,kE P "__init__" 267 (.ref 72),kE P "__static_attributes__" 269 (.ref 73),kE P "__doc__" 270 .none] 2),#[]⟩)::
(nat_lit 75,⟨(.type "type"),none,(.cls ⟨"BadName",[.ref 24],[.ref 75,.ref 24,(.type "ValueError"),(.type "Exception"),(.type "BaseException"),(.type "object")],74,"BadName",true,[],[],false,none,false⟩),#[(some (.ref 59)),none,(some (.str "BadName" 248)),(some (.str "BadName" 256)),(some (.builtin "ValueError.__new__")),(some (.bool true))]⟩)::
(nat_lit 78,⟨.type "tuple",none,.seq #[.ref 24] 0,#[]⟩)::
(nat_lit 85,eT)::
(nat_lit 87,tT ["self","word"] 288)::
(nat_lit 88,eT)::
(nat_lit 90,cO "__init__" "BadKind.__init__" 285 18 2 3 85 290)::
(nat_lit 91,fW5 "__init__" "BadKind.__init__" Z2d 90)::
(nat_lit 92,tT ["word"] 293)::
(nat_lit 93,⟨(.type "dict"),none,(.dict #[kE P "__module__" 280 (.str "elderhouse.errors" 187),⟨PyData.keyHash P "__firstlineno__",.str "__firstlineno__" 284,.int 16 283⟩,kE P "__init__" 292 (.ref 91),kE P "__static_attributes__" 294 (.ref 92),kE P "__doc__" 295 .none] 2),#[]⟩)::
(nat_lit 94,⟨(.type "type"),none,(.cls ⟨"BadKind",[.ref 24],[.ref 94,.ref 24,(.type "ValueError"),(.type "Exception"),(.type "BaseException"),(.type "object")],93,"BadKind",true,[],[],false,none,false⟩),#[(some (.ref 78)),none,(some (.str "BadKind" 273)),(some (.str "BadKind" 281)),(some (.builtin "ValueError.__new__")),(some (.bool true))]⟩)::
(nat_lit 97,⟨.type "tuple",none,.seq #[.ref 24] 0,#[]⟩)::
(nat_lit 104,eT)::
(nat_lit 105,⟨(.type "dict"),none,(.dict #[kE P "__module__" 305 (.str "elderhouse.errors" 187),⟨PyData.keyHash P "__firstlineno__",.str "__firstlineno__" 309,.int 21 308⟩,kE P "__static_attributes__" 310 (.ref 104),kE P "__doc__" 311 .none] 2),#[]⟩)::
(nat_lit 106,⟨(.type "type"),none,(.cls ⟨"BadInput",[.ref 24],[.ref 106,.ref 24,(.type "ValueError"),(.type "Exception"),(.type "BaseException"),(.type "object")],105,"BadInput",true,[],[],false,none,false⟩),#[(some (.ref 97)),none,(some (.str "BadInput" 298)),(some (.str "BadInput" 306)),(some (.builtin "ValueError.__new__")),(some (.bool true))]⟩)::
(nat_lit 109,tT ["house","of","has","can","main","let","in","if","then","else","new","self","elder","set","not","yes","no","number","truth"] 332)::
(nat_lit 110,eT)::
(nat_lit 112,tT ["word"] 355)::
(nat_lit 113,eT)::
(nat_lit 115,cQ "is_told" 352 33 1 110 356)::
(nat_lit 116,fV2 "is_told" O0H 115)::
(nat_lit 117,eT)::
(nat_lit 119,tT ["word"] 362)::
(nat_lit 120,eT)::
(nat_lit 122,cQ "is_name" 359 35 1 117 363)::
(nat_lit 123,fV2 "is_name" O0I 122)::
(nat_lit 124,eT)::
(nat_lit 126,tT ["text","cut","at","word"] 369)::
(nat_lit 127,eT)::
(nat_lit 129,cQ "words" 366 37 1 124 373)::
(nat_lit 130,fV2 "words" O1b 129)::
(nat_lit 131,eT)::
(nat_lit 133,tT ["text","at","row"] 379)::
(nat_lit 134,eT)::
(nat_lit 136,cQ "word_at" 376 50 2 131 382)::
(nat_lit 137,fV2 "word_at" O0J 136)::
(nat_lit 138,eT)::
(nat_lit 140,tT ["text","at","end"] 388)::
(nat_lit 141,eT)::
(nat_lit 143,cQ "row_at" 385 57 2 138 391)::
(nat_lit 144,fV2 "row_at" O0Q 143)::
(nat_lit 145,eT)::
(nat_lit 147,tT ["sign"] 397)::
(nat_lit 148,eT)::
(nat_lit 150,cQ "is_row_sign" 394 62 1 145 398)::
(nat_lit 151,fV2 "is_row_sign" O0h 150)::
(nat_lit 152,eT)::
(nat_lit 155,cP "is_number" "is_number" 401 64 1 152)::
(nat_lit 156,fV2 "is_number" O0q 155)::
(nat_lit 157,eT)::
(nat_lit 160,cP "is_name_row" "is_name_row" 407 70 1 157)::
(nat_lit 161,fV2 "is_name_row" O0i 160)::
(nat_lit 162,⟨.type "dict",none,.dict #[kE P "yes" 415 (.bool true),kE P "no" 416 (.bool false)] 2,#[]⟩)::
(nat_lit 170,eT)::
(nat_lit 172,tT ["self","all_words"] 435)::
(nat_lit 173,eT)::
(nat_lit 175,cO "__init__" "Guest.__init__" 432 78 2 3 170 437)::
(nat_lit 176,fW3 "__init__" "Guest.__init__" Z1i 175)::
(nat_lit 177,eT)::
(nat_lit 179,tT ["self"] 443)::
(nat_lit 180,eT)::
(nat_lit 182,cO "ahead" "Guest.ahead" 440 82 1 3 177 444)::
(nat_lit 183,fW3 "ahead" "Guest.ahead" Z1P 182)::
(nat_lit 184,eT)::
(nat_lit 186,tT ["self"] 450)::
(nat_lit 187,eT)::
(nat_lit 189,cO "behind" "Guest.behind" 447 87 1 3 184 451)::
(nat_lit 190,fW3 "behind" "Guest.behind" Z1B 189)::
(nat_lit 191,eT)::
(nat_lit 193,tT ["self","word"] 457)::
(nat_lit 194,eT)::
(nat_lit 196,cO "take" "Guest.take" 454 90 1 3 191 459)::
(nat_lit 197,fW3 "take" "Guest.take" Z2a 196)::
(nat_lit 198,eT)::
(nat_lit 200,tT ["self","word"] 465)::
(nat_lit 201,eT)::
(nat_lit 203,cO "takes" "Guest.takes" 462 97 2 3 198 467)::
(nat_lit 204,fW3 "takes" "Guest.takes" Z1O 203)::
(nat_lit 205,eT)::
(nat_lit 207,tT ["self","word"] 473)::
(nat_lit 208,eT)::
(nat_lit 210,cO "need" "Guest.need" 470 103 2 3 205 475)::
(nat_lit 211,fW3 "need" "Guest.need" Z2f 210)::
(nat_lit 212,eT)::
(nat_lit 214,tT ["self"] 481)::
(nat_lit 215,eT)::
(nat_lit 217,cO "need_name" "Guest.need_name" 478 107 1 3 212 482)::
(nat_lit 218,fW3 "need_name" "Guest.need_name" Z1d 217)::
(nat_lit 219,eT)::
(nat_lit 221,tT ["self"] 488)::
(nat_lit 222,eT)::
(nat_lit 224,cO "need_end" "Guest.need_end" 485 112 1 3 219 489)::
(nat_lit 225,fW3 "need_end" "Guest.need_end" Z1j 224)::
(nat_lit 226,tT ["gone","row"] 492)::
(nat_lit 227,⟨(.type "dict"),none,(.dict #[kE P "__module__" 427 (.str "elderhouse.guests" 413),⟨PyData.keyHash P "__firstlineno__",.str "__firstlineno__" 431,.int 76 430⟩,kE P "__init__" 439 (.ref 176),kE P "ahead" 446 (.ref 183),kE P "behind" 453 (.ref 190),kE P "take" 461 (.ref 197),kE P "takes" 469 (.ref 204),kE P "need" 477 (.ref 211),kE P "need_name" 484 (.ref 218),kE P "need_end" 491 (.ref 225),kE P "__static_attributes__" 494 (.ref 226),kE P "__dict__" 496 (.ref 229),kE P "__weakref__" 498 (.ref 230),kE P "__doc__" 499 .none] 4),#[]⟩)::
(nat_lit 228,⟨(.type "type"),none,(.cls ⟨"Guest",[(.type "object")],[.ref 228,(.type "object")],227,"Guest",true,[],[],false,none,false⟩),#[none,none,(some (.str "Guest" 420)),(some (.str "Guest" 428)),(some (.builtin "object.__new__")),(some (.bool true))]⟩)::
(nat_lit 229,⟨.type "getset_descriptor",none,.fields #[.str "__dict__" 495,.ref 228,.builtin "function.__dict__",.builtin "function.__dict__#set"],#[]⟩)::
(nat_lit 230,⟨.type "getset_descriptor",none,.fields #[.str "__weakref__" 497,.ref 228,.builtin "ExceptionGroup.__weakref__",.none],#[]⟩)::
(nat_lit 240,eT)::
(nat_lit 243,cP "__init__" "Term.__init__" 516 118 4 240)::
(nat_lit 244,fW1 "__init__" "Term.__init__" Z1s 243)::
(nat_lit 245,eT)::
(nat_lit 247,tT ["self"] 525)::
(nat_lit 248,eT)::
(nat_lit 250,cO "plain" "Term.plain" 522 126 1 3 245 526)::
(nat_lit 251,fW1 "plain" "Term.plain" Z2e 250)::
(nat_lit 252,eT)::
(nat_lit 254,tT ["self"] 532)::
(nat_lit 255,eT)::
(nat_lit 257,cO "parts" "Term.parts" 529 129 1 3 252 533)::
(nat_lit 258,fW1 "parts" "Term.parts" Z2b 257)::
(nat_lit 259,eT)::
(nat_lit 261,tT ["self"] 539)::
(nat_lit 262,eT)::
(nat_lit 264,cO "depth" "Term.depth" 536 132 1 3 259 540)::
(nat_lit 265,fW1 "depth" "Term.depth" Z2h 264)::
(nat_lit 266,eT)::
(nat_lit 268,tT ["self"] 546)::
(nat_lit 269,eT)::
(nat_lit 271,cO "size" "Term.size" 543 135 1 3 266 547)::
(nat_lit 272,fW1 "size" "Term.size" Z2v 271)::
(nat_lit 273,tT ["deep","form","inner","label","many","shape"] 550)::
(nat_lit 274,⟨(.type "dict"),none,(.dict #[kE P "__module__" 511 (.str "elderhouse.terms" 502),⟨PyData.keyHash P "__firstlineno__",.str "__firstlineno__" 515,.int 116 514⟩,kE P "__init__" 521 (.ref 244),kE P "plain" 528 (.ref 251),kE P "parts" 535 (.ref 258),kE P "depth" 542 (.ref 265),kE P "size" 549 (.ref 272),kE P "__static_attributes__" 556 (.ref 273),kE P "__dict__" 558 (.ref 276),kE P "__weakref__" 560 (.ref 277),kE P "__doc__" 561 .none] 4),#[]⟩)::
(nat_lit 275,⟨(.type "type"),none,(.cls ⟨"Term",[(.type "object")],[.ref 275,(.type "object")],274,"Term",true,[],[],false,none,false⟩),#[none,none,(some (.str "Term" 504)),(some (.str "Term" 512)),(some (.builtin "object.__new__")),(some (.bool true))]⟩)::
(nat_lit 276,⟨.type "getset_descriptor",none,.fields #[.str "__dict__" 557,.ref 275,.builtin "function.__dict__",.builtin "function.__dict__#set"],#[]⟩)::
(nat_lit 277,⟨.type "getset_descriptor",none,.fields #[.str "__weakref__" 559,.ref 275,.builtin "ExceptionGroup.__weakref__",.none],#[]⟩)::
(nat_lit 280,eT)::
(nat_lit 282,tT ["form","label","parts"] 567)::
(nat_lit 283,eT)::
(nat_lit 285,cQ "shape_of" 564 137 3 280 570)::
(nat_lit 286,fV1 "shape_of" Z2U 285)::
(nat_lit 294,eT)::
(nat_lit 296,tT ["self","name","params","kind","body"] 588)::
(nat_lit 297,eT)::
(nat_lit 299,cO "__init__" "Word.__init__" 585 149 5 3 294 593)::
(nat_lit 300,fW1 "__init__" "Word.__init__" Z1q 299)::
(nat_lit 301,eT)::
(nat_lit 303,tT ["self"] 599)::
(nat_lit 304,eT)::
(nat_lit 306,cO "plain" "Word.plain" 596 155 1 3 301 600)::
(nat_lit 307,fW1 "plain" "Word.plain" Z2M 306)::
(nat_lit 308,tT ["body","kind","name","params"] 603)::
(nat_lit 309,⟨(.type "dict"),none,(.dict #[kE P "__module__" 580 (.str "elderhouse.terms" 502),⟨PyData.keyHash P "__firstlineno__",.str "__firstlineno__" 584,.int 147 583⟩,kE P "__init__" 595 (.ref 300),kE P "plain" 602 (.ref 307),kE P "__static_attributes__" 607 (.ref 308),kE P "__dict__" 609 (.ref 311),kE P "__weakref__" 611 (.ref 312),kE P "__doc__" 612 .none] 4),#[]⟩)::
(nat_lit 310,⟨(.type "type"),none,(.cls ⟨"Word",[(.type "object")],[.ref 310,(.type "object")],309,"Word",true,[],[],false,none,false⟩),#[none,none,(some (.str "Word" 573)),(some (.str "Word" 581)),(some (.builtin "object.__new__")),(some (.bool true))]⟩)::
(nat_lit 311,⟨.type "getset_descriptor",none,.fields #[.str "__dict__" 608,.ref 310,.builtin "function.__dict__",.builtin "function.__dict__#set"],#[]⟩)::
(nat_lit 312,⟨.type "getset_descriptor",none,.fields #[.str "__weakref__" 610,.ref 310,.builtin "ExceptionGroup.__weakref__",.none],#[]⟩)::
(nat_lit 322,eT)::
(nat_lit 324,tT ["self","name","elder","own_fields","own_words"] 630)::
(nat_lit 325,eT)::
(nat_lit 327,cO "__init__" "House.__init__" 627 159 5 3 322 635)::
(nat_lit 328,fW1 "__init__" "House.__init__" Z1l 327)::
(nat_lit 329,eT)::
(nat_lit 332,cP "plain" "House.plain" 638 165 1 329)::
(nat_lit 333,fW1 "plain" "House.plain" Z2z 332)::
(nat_lit 334,tT ["elder","name","own_fields","own_words"] 644)::
(nat_lit 335,⟨(.type "dict"),none,(.dict #[kE P "__module__" 622 (.str "elderhouse.terms" 502),⟨PyData.keyHash P "__firstlineno__",.str "__firstlineno__" 626,.int 157 625⟩,kE P "__init__" 637 (.ref 328),kE P "plain" 643 (.ref 333),kE P "__static_attributes__" 648 (.ref 334),kE P "__dict__" 650 (.ref 337),kE P "__weakref__" 652 (.ref 338),kE P "__doc__" 653 .none] 4),#[]⟩)::
(nat_lit 336,⟨(.type "type"),none,(.cls ⟨"House",[(.type "object")],[.ref 336,(.type "object")],335,"House",true,[],[],false,none,false⟩),#[none,none,(some (.str "House" 615)),(some (.str "House" 623)),(some (.builtin "object.__new__")),(some (.bool true))]⟩)::
(nat_lit 337,⟨.type "getset_descriptor",none,.fields #[.str "__dict__" 649,.ref 336,.builtin "function.__dict__",.builtin "function.__dict__#set"],#[]⟩)::
(nat_lit 338,⟨.type "getset_descriptor",none,.fields #[.str "__weakref__" 651,.ref 336,.builtin "ExceptionGroup.__weakref__",.none],#[]⟩)::
(nat_lit 348,eT)::
(nat_lit 350,tT ["self","all_houses","main"] 671)::
(nat_lit 351,eT)::
(nat_lit 353,cO "__init__" "Program.__init__" 668 170 3 3 348 674)::
(nat_lit 354,fW1 "__init__" "Program.__init__" Z0V 353)::
(nat_lit 355,eT)::
(nat_lit 358,cP "plain" "Program.plain" 677 174 1 355)::
(nat_lit 359,fW1 "plain" "Program.plain" Z1X 358)::
(nat_lit 360,eT)::
(nat_lit 363,cP "bodies" "Program.bodies" 683 178 1 360)::
(nat_lit 364,fW1 "bodies" "Program.bodies" Z1k 363)::
(nat_lit 365,tT ["all_houses","main"] 689)::
(nat_lit 366,⟨(.type "dict"),none,(.dict #[kE P "__module__" 663 (.str "elderhouse.terms" 502),⟨PyData.keyHash P "__firstlineno__",.str "__firstlineno__" 667,.int 168 666⟩,kE P "__init__" 676 (.ref 354),kE P "plain" 682 (.ref 359),kE P "bodies" 688 (.ref 364),kE P "__static_attributes__" 691 (.ref 365),kE P "__dict__" 693 (.ref 368),kE P "__weakref__" 695 (.ref 369),kE P "__doc__" 696 .none] 4),#[]⟩)::
(nat_lit 367,⟨(.type "type"),none,(.cls ⟨"Program",[(.type "object")],[.ref 367,(.type "object")],366,"Program",true,[],[],false,none,false⟩),#[none,none,(some (.str "Program" 656)),(some (.str "Program" 664)),(some (.builtin "object.__new__")),(some (.bool true))]⟩)::
(nat_lit 368,⟨.type "getset_descriptor",none,.fields #[.str "__dict__" 692,.ref 367,.builtin "function.__dict__",.builtin "function.__dict__#set"],#[]⟩)::
(nat_lit 369,⟨.type "getset_descriptor",none,.fields #[.str "__weakref__" 694,.ref 367,.builtin "ExceptionGroup.__weakref__",.none],#[]⟩)::
(nat_lit 372,eT)::
(nat_lit 375,cP "pairs_of" "pairs_of" 699 184 1 372)::
(nat_lit 376,fV1 "pairs_of" Z2Y 375)::
(nat_lit 377,⟨(.type "dict"),none,(.dict #[⟨PyData.keyHash P ";",.str ";" 723,.int 1 724⟩,⟨PyData.keyHash P "<",.str "<" 725,.int 2 726⟩,⟨PyData.keyHash P "=",.str "=" 727,.int 2 728⟩,⟨PyData.keyHash P "+",.str "+" 729,.int 3 730⟩,⟨PyData.keyHash P "-",.str "-" 731,.int 3 732⟩,⟨PyData.keyHash P "*",.str "*" 733,.int 4 734⟩,⟨PyData.keyHash P "/",.str "/" 735,.int 4 736⟩] 7),#[]⟩)::
(nat_lit 378,eT)::
(nat_lit 381,cP "read" "read" 749 198 1 378)::
(nat_lit 382,fV0 "read" Z7Q 381)::
(nat_lit 383,eT)::
(nat_lit 385,tT ["row","still_open","word"] 758)::
(nat_lit 386,eT)::
(nat_lit 388,cQ "need_few_open" 755 214 1 383 761)::
(nat_lit 389,fV0 "need_few_open" Z1t 388)::
(nat_lit 390,eT)::
(nat_lit 392,tT ["found","most"] 767)::
(nat_lit 393,eT)::
(nat_lit 395,cQ "need_few" 764 223 2 390 769)::
(nat_lit 396,fV0 "need_few" Z2Z 395)::
(nat_lit 397,eT)::
(nat_lit 400,cP "need_bounds" "need_bounds" 772 226 1 397)::
(nat_lit 401,fV0 "need_bounds" Z1Q 400)::
(nat_lit 402,eT)::
(nat_lit 404,tT ["guest","name","elder","own_fields","own_words"] 781)::
(nat_lit 405,eT)::
(nat_lit 407,cQ "read_house" 778 231 1 402 786)::
(nat_lit 408,fV0 "read_house" Z2g 407)::
(nat_lit 409,eT)::
(nat_lit 411,tT ["guest","name","params","kind"] 792)::
(nat_lit 412,eT)::
(nat_lit 414,cQ "read_word" 789 247 2 409 796)::
(nat_lit 415,fV0 "read_word" Z2p 414)::
(nat_lit 416,eT)::
(nat_lit 418,tT ["guest","name"] 802)::
(nat_lit 419,eT)::
(nat_lit 421,cQ "read_pair" 799 253 1 416 804)::
(nat_lit 422,fV0 "read_pair" Z2w 421)::
(nat_lit 423,eT)::
(nat_lit 425,tT ["guest"] 810)::
(nat_lit 426,eT)::
(nat_lit 428,cQ "read_kind" 807 256 1 423 811)::
(nat_lit 429,fV0 "read_kind" Z2A 428)::
(nat_lit 430,eT)::
(nat_lit 432,tT ["guest","read_item","found"] 817)::
(nat_lit 433,eT)::
(nat_lit 435,cQ "read_list" 814 262 2 430 820)::
(nat_lit 436,fV0 "read_list" Z2o 435)::
(nat_lit 437,eT)::
(nat_lit 439,tT ["guest","deep","found"] 826)::
(nat_lit 440,tT ["deep"] 829)::
(nat_lit 442,cQ "read_terms" 823 272 2 437 830)::
(nat_lit 443,fV0 "read_terms" Z0E 442)::
(nat_lit 444,eT)::
(nat_lit 446,tT ["guest","least","lowest","deep","term","sign","right"] 836)::
(nat_lit 447,eT)::
(nat_lit 449,cQ "read_term" 833 276 4 444 843)::
(nat_lit 450,fV0 "read_term" Z2B 449)::
(nat_lit 451,eT)::
(nat_lit 453,tT ["guest","lowest","deep"] 849)::
(nat_lit 454,eT)::
(nat_lit 456,cQ "read_part" 846 288 3 451 852)::
(nat_lit 457,fV0 "read_part" Z2x 456)::
(nat_lit 458,eT)::
(nat_lit 460,tT ["guest","deep","asked","wanted","other"] 858)::
(nat_lit 461,eT)::
(nat_lit 463,cQ "read_if" 855 300 2 458 863)::
(nat_lit 464,fV0 "read_if" Z3o 463)::
(nat_lit 465,eT)::
(nat_lit 467,tT ["guest","lowest","deep","name","first"] 869)::
(nat_lit 468,eT)::
(nat_lit 470,cQ "read_let" 866 307 3 465 874)::
(nat_lit 471,fV0 "read_let" Z3a 470)::
(nat_lit 472,eT)::
(nat_lit 474,tT ["guest","deep","field","value"] 880)::
(nat_lit 475,eT)::
(nat_lit 477,cQ "read_set" 877 313 2 472 884)::
(nat_lit 478,fV0 "read_set" Z2W 477)::
(nat_lit 479,eT)::
(nat_lit 481,tT ["guest","deep","term","name"] 890)::
(nat_lit 482,eT)::
(nat_lit 484,cQ "read_pointed" 887 320 2 479 894)::
(nat_lit 485,fV0 "read_pointed" Z1C 484)::
(nat_lit 486,eT)::
(nat_lit 488,tT ["guest","deep","word","name","term"] 900)::
(nat_lit 489,eT)::
(nat_lit 491,cQ "read_one" 897 329 2 486 905)::
(nat_lit 492,fV0 "read_one" Z2T 491)::
(nat_lit 493,eT)::
(nat_lit 495,tT ["_law_script","_law_k"] 913)::
(nat_lit 496,eT)::
(nat_lit 498,cQ "_law_cell_at" 910 352 2 493 915)::
(nat_lit 499,fV4 "_law_cell_at" Z1z 498)::
(nat_lit 500,eT)::
(nat_lit 502,tT ["_law_text","e","_law_others"] 921)::
(nat_lit 503,eT)::
(nat_lit 505,cQ "_law_told" 918 356 1 500 924)::
(nat_lit 506,fV4 "_law_told" Z2q 505)::
(nat_lit 507,eT)::
(nat_lit 509,tT ["_law_way","_law_many_here"] 930)::
(nat_lit 510,eT)::
(nat_lit 512,cQ "_law_deep" 927 362 2 507 932)::
(nat_lit 513,fV4 "_law_deep" Z2t 512)::
(nat_lit 514,eT)::
(nat_lit 516,tT ["_law_cell","_law_long","_law_text","_law_more"] 938)::
(nat_lit 517,eT)::
(nat_lit 519,cQ "_law_many" 935 394 1 514 942)::
(nat_lit 520,fV4 "_law_many" Z2s 519)::
(nat_lit 521,eT)::
(nat_lit 523,tT ["_law_cell","_law_word","_law_house"] 948)::
(nat_lit 524,eT)::
(nat_lit 526,cQ "_law_row" 945 399 1 521 951)::
(nat_lit 527,fV4 "_law_row" Z2S 526)::
(nat_lit 528,eT)::
(nat_lit 530,tT ["_law_way","_law_cell","_law_many_here","_law_row_here"] 957)::
(nat_lit 531,eT)::
(nat_lit 533,cQ "_law_counted" 954 403 2 528 961)::
(nat_lit 534,fV4 "_law_counted" Z1y 533)::
(nat_lit 535,eT)::
(nat_lit 537,tT ["_law_script","_law_cell","_law_way","_law_many_here","_law_more","_law_body","_law_deep_here","_law_great","_law_brackets","_law_found","_law_last","_law_text","_law_is_good"] 967)::
(nat_lit 538,eT)::
(nat_lit 540,cQ "law" 964 422 1 535 980)::
(nat_lit 541,fV4 "law" Z9t 540)::[]
noncomputable def KK(P:PySem.Params):y0:=(nat_lit 438,⟨.none,none,.fields #[],#[]⟩)::KB P
noncomputable def KA:List t0:=[438,2,3,15,22,23,24,25,28,35,37,38,40,41,42,43,44,47,54,55,56,59,66,68,69,71,72,73,74,75,78,85,87,88,90,91,92,93,94,97,104,105,106,109,110,112,113,115,116,117,119,120,122,123,124,126,127,129,130,131,133,134,136,137,138,140,141,143,144,145,147,148,150,151,152,155,156,157,160,161,162,170,172,173,175,176,177,179,180,182,183,184,186,187,189,190,191,193,194,196,197,198,200,201,203,204,205,207,208,210,211,212,214,215,217,218,219,221,222,224,225,226,227,228,229,230,240,243,244,245,247,248,250,251,252,254,255,257,258,259,261,262,264,265,266,268,269,271,272,273,274,275,276,277,280,282,283,285,286,294,296,297,299,300,301,303,304,306,307,308,309,310,311,312,322,324,325,327,328,329,332,333,334,335,336,337,338,348,350,351,353,354,355,358,359,360,363,364,365,366,367,368,369,372,375,376,377,378,381,382,383,385,386,388,389,390,392,393,395,396,397,400,401,402,404,405,407,408,409,411,412,414,415,416,418,419,421,422,423,425,426,428,429,430,432,433,435,436,437,439,440,442,443,444,446,447,449,450,451,453,454,456,457,458,460,461,463,464,465,467,468,470,471,472,474,475,477,478,479,481,482,484,485,486,488,489,491,492,493,495,496,498,499,500,502,503,505,506,507,509,510,512,513,514,516,517,519,520,521,523,524,526,527,528,530,531,533,534,535,537,538,540,541]
theorem ka_eq:∀P,KA=(KK P).map (·.1):=λ _=>by kernel_rfl
theorem J4n{p q:Program}{loose:List Z0}{Xt:X0->Bool}{α:Type}{Yf:X0->α}{Ya:U0->α}{N:Nat}{H₀:Params->V0}{gs₀:Array GenState}{d₀:Drawn}{k₀ m₀ M:Nat}{ann:Option q0}(op:∀w:U0,(W.fencedOpening treeTable p w N).map (λ s=>(s.heap,s.gens,s.drawn,s.toks))=some (H₀ w.params,gs₀,d₀,k₀))(sz:∀w:U0,((H₀ w.params).isNs mainGlobals&&gs₀.size==0)=true/\(H₀ w.params).objs.size=m₀/\(H₀ w.params).nsMap mainGlobals "__annotations__"=ann)(le:M<=N)(ex:∀(w:U0)(os:OsState),∃s,W.topRun treeTable p w m₀ ann M ⟨H₀ w.params,gs₀,d₀,k₀,os⟩ (W.topStub p)=some s/\(W.staticsOk (importedModules p.main.body) (H₀ w.params) s.heap&&W.namesBound p s.heap&&W.gensDone s&&W.laidKept (H₀ w.params) s.heap)=true/\W.openSeen q loose (importedModules p.main.body) Xt true s=W.openGood q loose/\Yf s=Ya w):W.LeftO p q loose Xt Yf Ya N:=by
 intro w;obtain⟨⟨hh,gg,dr,tk,os⟩,e1,e2⟩:=qd3.mp (op w);simp only[Prod.mk.injEq]at e2;obtain⟨a1,a2,a3,a4⟩:=e2;subst a1 a2 a3 a4;obtain⟨z1,z2,z3⟩:=sz w;obtain⟨s,hr,b1,b2,b3⟩:=ex w os;have hr:=W.topRun_mono (N-M) _ _ _ _ hr;rw[Nat.add_sub_of_le le]at hr;have ht:W.topFrom treeTable p w N ⟨H₀ w.params,gg,dr,tk,os⟩=some s:=by
  unfold W.topFrom;simp only[z1,z2,z3,hr,qe8,b1]
 unfold W.openEnds;rw[e1,qe8,ht,Option.map_some,b2,b3]
theorem zz:(pw0.main.body.isEmpty==false)=true:=by k_qdec
noncomputable def eN(p:Program):Env:={scope:=p.main.scope,locals:=mainNs,globals:=mainNs,cells:=[],code:=.ref 13,frame:=some 14}
noncomputable def cN(p:Program):Code:=.body (W.behindTheImports p) (eN p)
def po:Pos:=⟨0,0,0,0⟩
def pf:Pos:=⟨422,0,440,23⟩
def an:Option q0:=some (.ref 6)
noncomputable def Y0(w:U0)(os:OsState):X0:=⟨W.boot_heap w.params,Array.mk [],W.boot_drawn,W.boot_toks,os⟩
noncomputable def Sa(p:Program)(w:U0)(os:OsState):X0:=match W.topGo treeTable p w 11 an 12 (Y0 w os) (W.topStub p)with
 |some (s,_)=>s
 |none=>Y0 w os
def ofL:List Obj->Nat->W.BT->W.BT
 |[],_,t=>t
 |o::l,n,t=>ofL l (n+1) (t.ins n o)
noncomputable def TB(p:Program)(w:U0)(os:OsState):W.SharedT:=⟨ofL (Sa p w os).heap.objs.toList 0 .nil,15,(Sa p w os).heap.life,(Sa p w os).gens,(Sa p w os).drawn,(Sa p w os).toks,os⟩
theorem r1(w:U0)(os:OsState):W.topGo treeTable pw0 w 11 an 12 (Y0 w os) (W.topStub pw0)=some (Sa pw0 w os,⟨denote treeTable (cN pw0),cN pw0,po,[W.topFrame po]⟩):=by
 kernel_rfl
theorem r2(w:U0)(os:OsState):W.segRun treeTable pw0 w 11 an 1 1 (Sa pw0 w os) (W.blockOf (W.behindTheImports pw0) (eN pw0) (cN pw0) po [W.topFrame po])=some (.next,Sa pw0 w os,cN pw0,po):=by
 kernel_rfl
theorem r3(w:U0)(os:OsState):(TB pw0 w os).abs=Sa pw0 w os:=by
 kernel_rfl
noncomputable def e0:Obj:=⟨.none,none,.fields #[],#[]⟩
noncomputable def et:Obj:=⟨.type "tuple",none,.seq #[] 0,#[]⟩
noncomputable def ky(P:Params)(x:Z0)(t:Nat)(v:q0):DictEntry:=⟨PyData.keyHash P x,.str x t,v⟩
noncomputable def fz(x y:Z0)(s:Stmt):Obj:=⟨.none,none,.func {name:=x,qualname:=y,params:=L2.Z0Q s,body:=.stmts (L2.Z0B s),scope:=L2.Z0e s,globals:=0,closure:=[],defaults:=.none,kwdefaults:=.none},#[]⟩
noncomputable def bi(x:String)(v:q0):Obj:=⟨.type "builtin_function_or_method",none,.fields #[.builtin x,v],#[]⟩
noncomputable def fr(a b:Nat)(x:Z0)(t:Nat):Obj:=⟨.type "frame",none,.plain,#[some (.ref a),some (.ref 3),some (.ref b),none,some (.str x t),none,some (.ref 0)]⟩
noncomputable def su(a:Nat):Obj:=⟨.type "super",none,.fields #[.ref a,.ref a,.ref a],#[]⟩
noncomputable def bo(P:Params)(i:Nat):Obj:=(W.boot_heap P).objs.toList.getD i e0
noncomputable def RZ(P:Params):List (t0×Obj):=[
(0,bo P 0),
(1,⟨(.type "dict"),none,(.dict #[ky P "builtins" 162 (.ref 4),ky P "__main__" 163 (.ref 5)] 2),#[]⟩),
(4,⟨(.type "module"),(some 0),.plain,#[]⟩),
(5,⟨(.type "module"),(some 3),.plain,#[]⟩),
(6,⟨(.type "dict"),none,(.dict #[] 0),#[]⟩),
(7,et),
(8,e0),
(9,⟨(.type "code"),none,(.fields #[.str "<module>" 176,.str "<module>" 177,.str "/claim/cut.py" 178,.int 1 0,.int 0 0,.int 0 0,.int 0 0,.int 0 0,.ref 7,.bool false,.int 175 0,.ref 8,.none,.none,.none,.none,.int 179 0,.int 1 0,.str "/claim/cut.py" 180]),#[]⟩),
(10,fr 9 3 "__main__" 164),
(11,et),
(12,⟨.none,none,(.fields #[.int 2 0,.int 0 0,.ref 20,.int 4 0,.int 0 0,.ref 33,.int 9 0,.int 0 0,.ref 52,.int 11 0,.int 0 0,.ref 64,.int 16 0,.int 0 0,.ref 83,.int 21 0,.int 0 0,.ref 102,.int 33 0,.int 0 0,.ref 115,.int 35 0,.int 0 0,.ref 122,.int 37 0,.int 0 0,.ref 129,.int 50 0,.int 0 0,.ref 136,.int 57 0,.int 0 0,.ref 143,.int 62 0,.int 0 0,.ref 150,.int 64 0,.int 0 0,.ref 155,.int 70 0,.int 0 0,.ref 160,.int 76 0,.int 0 0,.ref 168,.int 116 0,.int 0 0,.ref 238,.int 137 0,.int 0 0,.ref 285,.int 147 0,.int 0 0,.ref 292,.int 157 0,.int 0 0,.ref 320,.int 168 0,.int 0 0,.ref 346,.int 184 0,.int 0 0,.ref 375,.int 198 0,.int 0 0,.ref 381,.int 214 0,.int 0 0,.ref 388,.int 223 0,.int 0 0,.ref 395,.int 226 0,.int 0 0,.ref 400,.int 231 0,.int 0 0,.ref 407,.int 247 0,.int 0 0,.ref 414,.int 253 0,.int 0 0,.ref 421,.int 256 0,.int 0 0,.ref 428,.int 262 0,.int 0 0,.ref 435,.int 272 0,.int 0 0,.ref 442,.int 276 0,.int 0 0,.ref 449,.int 288 0,.int 0 0,.ref 456,.int 300 0,.int 0 0,.ref 463,.int 307 0,.int 0 0,.ref 470,.int 313 0,.int 0 0,.ref 477,.int 320 0,.int 0 0,.ref 484,.int 329 0,.int 0 0,.ref 491,.int 352 0,.int 0 0,.ref 498,.int 356 0,.int 0 0,.ref 505,.int 362 0,.int 0 0,.ref 512,.int 394 0,.int 0 0,.ref 519,.int 399 0,.int 0 0,.ref 526,.int 403 0,.int 0 0,.ref 533,.int 422 0,.int 0 0,.ref 540]),#[]⟩),
(13,⟨(.type "code"),none,(.fields #[.str "<module>" 182,.str "<module>" 183,.str "/claim/cut.py" 184,.int 1 0,.int 0 0,.int 0 0,.int 0 0,.int 0 0,.ref 11,.bool false,.int 181 0,.ref 12,.none,.none,.none,.none,.int 185 0,.int 1 0,.str "/claim/cut.py" 186]),#[]⟩),
(14,fr 13 3 "__main__" 164),
(16,bi "type.__prepare__" (.type "type")),
(17,⟨(.type "dict"),none,(.dict #[ky P "__module__" 196 (.str "elderhouse.errors" 187),ky P "__qualname__" 198 (.str "HouseError" 197),⟨PyData.keyHash P "__firstlineno__",.str "__firstlineno__" 200,.int 2 199⟩,ky P "__static_attributes__" 201 (.ref 22)] 4),#[]⟩),
(18,et),
(19,e0),
(20,⟨(.type "code"),none,(.fields #[.str "HouseError" 191,.str "HouseError" 192,.str "/claim/cut.py" 193,.int 2 0,.int 0 0,.int 0 0,.int 0 0,.int 0 0,.ref 18,.bool false,.int 181 0,.ref 19,.none,.none,.none,.none,.int 194 0,.int 2 0,.str "/claim/cut.py" 195]),#[]⟩),
(21,fr 20 17 "elderhouse.errors" 187),
(26,su 24),
(27,bi "object.__init_subclass__" (.ref 24)),
(29,bi "type.__prepare__" (.type "type")),
(30,⟨(.type "dict"),none,(.dict #[ky P "__module__" 214 (.str "elderhouse.errors" 187),ky P "__qualname__" 216 (.str "BadWords" 215),⟨PyData.keyHash P "__firstlineno__",.str "__firstlineno__" 218,.int 4 217⟩,ky P "__init__" 226 (.ref 41),ky P "__static_attributes__" 228 (.ref 42)] 5),#[]⟩),
(31,et),
(32,⟨.none,none,(.fields #[.int 6 0,.int 4 0,.ref 40]),#[]⟩),
(33,⟨(.type "code"),none,(.fields #[.str "BadWords" 209,.str "BadWords" 210,.str "/claim/cut.py" 211,.int 4 0,.int 0 0,.int 0 0,.int 0 0,.int 0 0,.ref 31,.bool false,.int 181 0,.ref 32,.none,.none,.none,.none,.int 212 0,.int 4 0,.str "/claim/cut.py" 213]),#[]⟩),
(34,fr 33 30 "elderhouse.errors" 187),
(36,e0),
(39,fz "__init__" "BadWords.__init__" Z1W),
(45,su 44),
(46,bi "object.__init_subclass__" (.ref 44)),
(48,bi "type.__prepare__" (.type "type")),
(49,⟨(.type "dict"),none,(.dict #[ky P "__module__" 239 (.str "elderhouse.errors" 187),ky P "__qualname__" 241 (.str "BadForm" 240),⟨PyData.keyHash P "__firstlineno__",.str "__firstlineno__" 243,.int 9 242⟩,ky P "__static_attributes__" 244 (.ref 54)] 4),#[]⟩),
(50,et),
(51,e0),
(52,⟨(.type "code"),none,(.fields #[.str "BadForm" 234,.str "BadForm" 235,.str "/claim/cut.py" 236,.int 9 0,.int 0 0,.int 0 0,.int 0 0,.int 0 0,.ref 50,.bool false,.int 181 0,.ref 51,.none,.none,.none,.none,.int 237 0,.int 9 0,.str "/claim/cut.py" 238]),#[]⟩),
(53,fr 52 49 "elderhouse.errors" 187),
(57,su 56),
(58,bi "object.__init_subclass__" (.ref 56)),
(60,bi "type.__prepare__" (.type "type")),
(61,⟨(.type "dict"),none,(.dict #[ky P "__module__" 255 (.str "elderhouse.errors" 187),ky P "__qualname__" 257 (.str "BadName" 256),⟨PyData.keyHash P "__firstlineno__",.str "__firstlineno__" 259,.int 11 258⟩,ky P "__init__" 267 (.ref 72),ky P "__static_attributes__" 269 (.ref 73)] 5),#[]⟩),
(62,et),
(63,⟨.none,none,(.fields #[.int 13 0,.int 4 0,.ref 71]),#[]⟩),
(64,⟨(.type "code"),none,(.fields #[.str "BadName" 250,.str "BadName" 251,.str "/claim/cut.py" 252,.int 11 0,.int 0 0,.int 0 0,.int 0 0,.int 0 0,.ref 62,.bool false,.int 181 0,.ref 63,.none,.none,.none,.none,.int 253 0,.int 11 0,.str "/claim/cut.py" 254]),#[]⟩),
(65,fr 64 61 "elderhouse.errors" 187),
(67,e0),
(70,fz "__init__" "BadName.__init__" Z2c),
(76,su 75),
(77,bi "object.__init_subclass__" (.ref 75)),
(79,bi "type.__prepare__" (.type "type")),
(80,⟨(.type "dict"),none,(.dict #[ky P "__module__" 280 (.str "elderhouse.errors" 187),ky P "__qualname__" 282 (.str "BadKind" 281),⟨PyData.keyHash P "__firstlineno__",.str "__firstlineno__" 284,.int 16 283⟩,ky P "__init__" 292 (.ref 91),ky P "__static_attributes__" 294 (.ref 92)] 5),#[]⟩),
(81,et),
(82,⟨.none,none,(.fields #[.int 18 0,.int 4 0,.ref 90]),#[]⟩),
(83,⟨(.type "code"),none,(.fields #[.str "BadKind" 275,.str "BadKind" 276,.str "/claim/cut.py" 277,.int 16 0,.int 0 0,.int 0 0,.int 0 0,.int 0 0,.ref 81,.bool false,.int 181 0,.ref 82,.none,.none,.none,.none,.int 278 0,.int 16 0,.str "/claim/cut.py" 279]),#[]⟩),
(84,fr 83 80 "elderhouse.errors" 187),
(86,e0),
(89,fz "__init__" "BadKind.__init__" Z2d),
(95,su 94),
(96,bi "object.__init_subclass__" (.ref 94)),
(98,bi "type.__prepare__" (.type "type")),
(99,⟨(.type "dict"),none,(.dict #[ky P "__module__" 305 (.str "elderhouse.errors" 187),ky P "__qualname__" 307 (.str "BadInput" 306),⟨PyData.keyHash P "__firstlineno__",.str "__firstlineno__" 309,.int 21 308⟩,ky P "__static_attributes__" 310 (.ref 104)] 4),#[]⟩),
(100,et),
(101,e0),
(102,⟨(.type "code"),none,(.fields #[.str "BadInput" 300,.str "BadInput" 301,.str "/claim/cut.py" 302,.int 21 0,.int 0 0,.int 0 0,.int 0 0,.int 0 0,.ref 100,.bool false,.int 181 0,.ref 101,.none,.none,.none,.none,.int 303 0,.int 21 0,.str "/claim/cut.py" 304]),#[]⟩),
(103,fr 102 99 "elderhouse.errors" 187),
(107,su 106),
(108,bi "object.__init_subclass__" (.ref 106)),
(111,e0),
(114,fz "is_told" "is_told" O0H),
(118,e0),
(121,fz "is_name" "is_name" O0I),
(125,e0),
(128,fz "words" "words" O1b),
(132,e0),
(135,fz "word_at" "word_at" O0J),
(139,e0),
(142,fz "row_at" "row_at" O0Q),
(146,e0),
(149,fz "is_row_sign" "is_row_sign" O0h),
(153,e0),
(154,fz "is_number" "is_number" O0q),
(158,e0),
(159,fz "is_name_row" "is_name_row" O0i),
(163,et),
(164,bi "type.__prepare__" (.type "type")),
(165,⟨(.type "dict"),none,(.dict #[ky P "__module__" 427 (.str "elderhouse.guests" 413),ky P "__qualname__" 429 (.str "Guest" 428),⟨PyData.keyHash P "__firstlineno__",.str "__firstlineno__" 431,.int 76 430⟩,ky P "__init__" 439 (.ref 176),ky P "ahead" 446 (.ref 183),ky P "behind" 453 (.ref 190),ky P "take" 461 (.ref 197),ky P "takes" 469 (.ref 204),ky P "need" 477 (.ref 211),ky P "need_name" 484 (.ref 218),ky P "need_end" 491 (.ref 225),ky P "__static_attributes__" 494 (.ref 226)] 12),#[]⟩),
(166,et),
(167,⟨.none,none,(.fields #[.int 78 0,.int 4 0,.ref 175,.int 82 0,.int 4 0,.ref 182,.int 87 0,.int 4 0,.ref 189,.int 90 0,.int 4 0,.ref 196,.int 97 0,.int 4 0,.ref 203,.int 103 0,.int 4 0,.ref 210,.int 107 0,.int 4 0,.ref 217,.int 112 0,.int 4 0,.ref 224]),#[]⟩),
(168,⟨(.type "code"),none,(.fields #[.str "Guest" 422,.str "Guest" 423,.str "/claim/cut.py" 424,.int 76 0,.int 0 0,.int 0 0,.int 0 0,.int 0 0,.ref 166,.bool false,.int 181 0,.ref 167,.none,.none,.none,.none,.int 425 0,.int 76 0,.str "/claim/cut.py" 426]),#[]⟩),
(169,fr 168 165 "elderhouse.guests" 413),
(171,e0),
(174,fz "__init__" "Guest.__init__" Z1i),
(178,e0),
(181,fz "ahead" "Guest.ahead" Z1P),
(185,e0),
(188,fz "behind" "Guest.behind" Z1B),
(192,e0),
(195,fz "take" "Guest.take" Z2a),
(199,e0),
(202,fz "takes" "Guest.takes" Z1O),
(206,e0),
(209,fz "need" "Guest.need" Z2f),
(213,e0),
(216,fz "need_name" "Guest.need_name" Z1d),
(220,e0),
(223,fz "need_end" "Guest.need_end" Z1j),
(231,su 228),
(232,bi "object.__init_subclass__" (.ref 228)),
(233,et),
(234,bi "type.__prepare__" (.type "type")),
(235,⟨(.type "dict"),none,(.dict #[ky P "__module__" 511 (.str "elderhouse.terms" 502),ky P "__qualname__" 513 (.str "Term" 512),⟨PyData.keyHash P "__firstlineno__",.str "__firstlineno__" 515,.int 116 514⟩,ky P "__init__" 521 (.ref 244),ky P "plain" 528 (.ref 251),ky P "parts" 535 (.ref 258),ky P "depth" 542 (.ref 265),ky P "size" 549 (.ref 272),ky P "__static_attributes__" 556 (.ref 273)] 9),#[]⟩),
(236,et),
(237,⟨.none,none,(.fields #[.int 118 0,.int 4 0,.ref 243,.int 126 0,.int 4 0,.ref 250,.int 129 0,.int 4 0,.ref 257,.int 132 0,.int 4 0,.ref 264,.int 135 0,.int 4 0,.ref 271]),#[]⟩),
(238,⟨(.type "code"),none,(.fields #[.str "Term" 506,.str "Term" 507,.str "/claim/cut.py" 508,.int 116 0,.int 0 0,.int 0 0,.int 0 0,.int 0 0,.ref 236,.bool false,.int 181 0,.ref 237,.none,.none,.none,.none,.int 509 0,.int 116 0,.str "/claim/cut.py" 510]),#[]⟩),
(239,fr 238 235 "elderhouse.terms" 502),
(241,e0),
(242,fz "__init__" "Term.__init__" Z1s),
(246,e0),
(249,fz "plain" "Term.plain" Z2e),
(253,e0),
(256,fz "parts" "Term.parts" Z2b),
(260,e0),
(263,fz "depth" "Term.depth" Z2h),
(267,e0),
(270,fz "size" "Term.size" Z2v),
(278,su 275),
(279,bi "object.__init_subclass__" (.ref 275)),
(281,e0),
(284,fz "shape_of" "shape_of" Z2U),
(287,et),
(288,bi "type.__prepare__" (.type "type")),
(289,⟨(.type "dict"),none,(.dict #[ky P "__module__" 580 (.str "elderhouse.terms" 502),ky P "__qualname__" 582 (.str "Word" 581),⟨PyData.keyHash P "__firstlineno__",.str "__firstlineno__" 584,.int 147 583⟩,ky P "__init__" 595 (.ref 300),ky P "plain" 602 (.ref 307),ky P "__static_attributes__" 607 (.ref 308)] 6),#[]⟩),
(290,et),
(291,⟨.none,none,(.fields #[.int 149 0,.int 4 0,.ref 299,.int 155 0,.int 4 0,.ref 306]),#[]⟩),
(292,⟨(.type "code"),none,(.fields #[.str "Word" 575,.str "Word" 576,.str "/claim/cut.py" 577,.int 147 0,.int 0 0,.int 0 0,.int 0 0,.int 0 0,.ref 290,.bool false,.int 181 0,.ref 291,.none,.none,.none,.none,.int 578 0,.int 147 0,.str "/claim/cut.py" 579]),#[]⟩),
(293,fr 292 289 "elderhouse.terms" 502),
(295,e0),
(298,fz "__init__" "Word.__init__" Z1q),
(302,e0),
(305,fz "plain" "Word.plain" Z2M),
(313,su 310),
(314,bi "object.__init_subclass__" (.ref 310)),
(315,et),
(316,bi "type.__prepare__" (.type "type")),
(317,⟨(.type "dict"),none,(.dict #[ky P "__module__" 622 (.str "elderhouse.terms" 502),ky P "__qualname__" 624 (.str "House" 623),⟨PyData.keyHash P "__firstlineno__",.str "__firstlineno__" 626,.int 157 625⟩,ky P "__init__" 637 (.ref 328),ky P "plain" 643 (.ref 333),ky P "__static_attributes__" 648 (.ref 334)] 6),#[]⟩),
(318,et),
(319,⟨.none,none,(.fields #[.int 159 0,.int 4 0,.ref 327,.int 165 0,.int 4 0,.ref 332]),#[]⟩),
(320,⟨(.type "code"),none,(.fields #[.str "House" 617,.str "House" 618,.str "/claim/cut.py" 619,.int 157 0,.int 0 0,.int 0 0,.int 0 0,.int 0 0,.ref 318,.bool false,.int 181 0,.ref 319,.none,.none,.none,.none,.int 620 0,.int 157 0,.str "/claim/cut.py" 621]),#[]⟩),
(321,fr 320 317 "elderhouse.terms" 502),
(323,e0),
(326,fz "__init__" "House.__init__" Z1l),
(330,e0),
(331,fz "plain" "House.plain" Z2z),
(339,su 336),
(340,bi "object.__init_subclass__" (.ref 336)),
(341,et),
(342,bi "type.__prepare__" (.type "type")),
(343,⟨(.type "dict"),none,(.dict #[ky P "__module__" 663 (.str "elderhouse.terms" 502),ky P "__qualname__" 665 (.str "Program" 664),⟨PyData.keyHash P "__firstlineno__",.str "__firstlineno__" 667,.int 168 666⟩,ky P "__init__" 676 (.ref 354),ky P "plain" 682 (.ref 359),ky P "bodies" 688 (.ref 364),ky P "__static_attributes__" 691 (.ref 365)] 7),#[]⟩),
(344,et),
(345,⟨.none,none,(.fields #[.int 170 0,.int 4 0,.ref 353,.int 174 0,.int 4 0,.ref 358,.int 178 0,.int 4 0,.ref 363]),#[]⟩),
(346,⟨(.type "code"),none,(.fields #[.str "Program" 658,.str "Program" 659,.str "/claim/cut.py" 660,.int 168 0,.int 0 0,.int 0 0,.int 0 0,.int 0 0,.ref 344,.bool false,.int 181 0,.ref 345,.none,.none,.none,.none,.int 661 0,.int 168 0,.str "/claim/cut.py" 662]),#[]⟩),
(347,fr 346 343 "elderhouse.terms" 502),
(349,e0),
(352,fz "__init__" "Program.__init__" Z0V),
(356,e0),
(357,fz "plain" "Program.plain" Z1X),
(361,e0),
(362,fz "bodies" "Program.bodies" Z1k),
(370,su 367),
(371,bi "object.__init_subclass__" (.ref 367)),
(373,e0),
(374,fz "pairs_of" "pairs_of" Z2Y),
(379,e0),
(380,fz "read" "read" Z7Q),
(384,e0),
(387,fz "need_few_open" "need_few_open" Z1t),
(391,e0),
(394,fz "need_few" "need_few" Z2Z),
(398,e0),
(399,fz "need_bounds" "need_bounds" Z1Q),
(403,e0),
(406,fz "read_house" "read_house" Z2g),
(410,e0),
(413,fz "read_word" "read_word" Z2p),
(417,e0),
(420,fz "read_pair" "read_pair" Z2w),
(424,e0),
(427,fz "read_kind" "read_kind" Z2A),
(431,e0),
(434,fz "read_list" "read_list" Z2o),
(438,e0),
(441,fz "read_terms" "read_terms" Z0E),
(445,e0),
(448,fz "read_term" "read_term" Z2B),
(452,e0),
(455,fz "read_part" "read_part" Z2x),
(459,e0),
(462,fz "read_if" "read_if" Z3o),
(466,e0),
(469,fz "read_let" "read_let" Z3a),
(473,e0),
(476,fz "read_set" "read_set" Z2W),
(480,e0),
(483,fz "read_pointed" "read_pointed" Z1C),
(487,e0),
(490,fz "read_one" "read_one" Z2T),
(494,e0),
(497,fz "_law_cell_at" "_law_cell_at" Z1z),
(501,e0),
(504,fz "_law_told" "_law_told" Z2q),
(508,e0),
(511,fz "_law_deep" "_law_deep" Z2t),
(515,e0),
(518,fz "_law_many" "_law_many" Z2s),
(522,e0),
(525,fz "_law_row" "_law_row" Z2S),
(529,e0),
(532,fz "_law_counted" "_law_counted" Z1y),
(536,e0),
(539,fz "law" "law" Z9t)]
def mrg:Nat->List (t0×Obj)->List (t0×Obj)->List Obj
 |0,_,_=>[]
 |n+1,(a,x)::l,(b,y)::r=>match Nat.blt a b with
  |true=>x::mrg n l ((b,y)::r)
  |false=>y::mrg n ((a,x)::l) r
 |n+1,[],(_,y)::r=>y::mrg n [] r
 |n+1,(_,x)::l,[]=>x::mrg n l []
 |_+1,[],[]=>[]
noncomputable def TF(p:Program)(w:U0)(os:OsState):W.SharedT:=⟨ofL (mrg 542 (RZ w.params) (KB w.params)) 0 .nil,542,(Sa p w os).heap.life,Array.mk [],W.boot_drawn,983,os⟩
def sF(w:U0)(b:Bool):U0:={w with params:={w.params with followText:=λ x=>if x="special-get-raises" then b else w.params.followText x}}
theorem J7E(w:U0):sF w (w.params.followText "special-get-raises")=w:=by
 have h:(λ x=>if x="special-get-raises" then w.params.followText "special-get-raises" else w.params.followText x)=w.params.followText:=by
  funext x;split
  ·rename_i h;rw[h]
  ·rfl
 unfold sF;rw[h]
theorem b0t(w:U0)(os:OsState):W.segRunT treeTable pw0 (sF w true) 11 an 1 4377 (TB pw0 (sF w true) os) (W.piecesOf (W.behindTheImports pw0) (eN pw0) (cN pw0) po [W.topFrame po])=some (.next,(TF pw0 (sF w true) os),cN pw0,pf):=by
 unfold TF TB Sa;rw[W.Fast.te10110043849684766642,W.Fast.te15667345088766844465,W.Fast.te10436134537444737994];kernel_rfl
theorem b0f(w:U0)(os:OsState):W.segRunT treeTable pw0 (sF w false) 11 an 1 4377 (TB pw0 (sF w false) os) (W.piecesOf (W.behindTheImports pw0) (eN pw0) (cN pw0) po [W.topFrame po])=some (.next,(TF pw0 (sF w false) os),cN pw0,pf):=by
 unfold TF TB Sa;rw[W.Fast.te10110043849684766642,W.Fast.te15667345088766844465,W.Fast.te10436134537444737994];kernel_rfl
theorem b0(w:U0)(os:OsState):W.segRunT treeTable pw0 w 11 an 1 4377 (TB pw0 w os) (W.piecesOf (W.behindTheImports pw0) (eN pw0) (cN pw0) po [W.topFrame po])=some (.next,(TF pw0 w os),cN pw0,pf):=by
 have h:∀b,W.segRunT treeTable pw0 (sF w b) 11 an 1 4377 (TB pw0 (sF w b) os) (W.piecesOf (W.behindTheImports pw0) (eN pw0) (cN pw0) po [W.topFrame po])=some (.next,(TF pw0 (sF w b) os),cN pw0,pf):=λ b=>by
  cases b
  ·exact b0f w os
  ·exact b0t w os
 have h:=h (w.params.followText "special-get-raises");rw[J7E]at h;exact h
theorem b1(w:U0)(os:OsState):(W.topRun treeTable pw0 w 11 an 2 (TF pw0 w os).abs (W.restOf [] (eN pw0) (cN pw0) pf [W.topFrame po])).map (λ s=>(W.staticsOk (importedModules pw0.main.body) (W.boot_heap w.params) s.heap&&W.namesBound pw0 s.heap&&W.gensDone s&&W.laidKept (W.boot_heap w.params) s.heap))=some true:=by
 kernel_rfl
theorem b2(w:U0)(os:OsState):(W.topRun treeTable pw0 w 11 an 2 (TF pw0 w os).abs (W.restOf [] (eN pw0) (cN pw0) pf [W.topFrame po])).map (λ s=>W.openSeen qv ["TRUTHS","STRENGTHS"] (importedModules pw0.main.body) (λ s=>W.xlAt qv [] s&&W.recOk (W.RowW.records rv) s) true s)=some (W.openGood qv ["TRUTHS","STRENGTHS"]):=by
 kernel_rfl
theorem b3(w:U0)(os:OsState):(W.topRun treeTable pw0 w 11 an 2 (TF pw0 w os).abs (W.restOf [] (eN pw0) (cN pw0) pf [W.topFrame po])).map (λ s=>W.Hook.obs (W.kHook KK KA ka_eq) s)=some (W.Hook.val (W.kHook KK KA ka_eq) w):=by
 kernel_rfl
theorem b4(w:U0)(os:OsState):∃T s,W.segRunT treeTable pw0 w 11 an 1 4377 (TB pw0 w os) (W.piecesOf (W.behindTheImports pw0) (eN pw0) (cN pw0) po [W.topFrame po])=some (.next,T,cN pw0,pf)/\W.topRun treeTable pw0 w 11 an 2 T.abs (W.restOf [] (eN pw0) (cN pw0) pf [W.topFrame po])=some s/\(W.staticsOk (importedModules pw0.main.body) (W.boot_heap w.params) s.heap&&W.namesBound pw0 s.heap&&W.gensDone s&&W.laidKept (W.boot_heap w.params) s.heap)=true/\W.openSeen qv ["TRUTHS","STRENGTHS"] (importedModules pw0.main.body) (λ s=>W.xlAt qv [] s&&W.recOk (W.RowW.records rv) s) true s=W.openGood qv ["TRUTHS","STRENGTHS"]/\W.Hook.obs (W.kHook KK KA ka_eq) s=W.Hook.val (W.kHook KK KA ka_eq) w:=by
 obtain⟨s,hs,y1⟩:=qd3.mp (b1 w os);obtain⟨s2,hs2,y2⟩:=qd3.mp (b2 w os);obtain⟨s3,hs3,y3⟩:=qd3.mp (b3 w os);cases qd0 (hs.symm.trans hs2);cases qd0 (hs.symm.trans hs3);exact⟨TF pw0 w os,s,b0 w os,hs,y1,y2,y3⟩
theorem r7(w:U0)(os:OsState):∃s,W.topRun treeTable pw0 w 11 an (12+(1+(4377+2))) (Y0 w os) (W.topStub pw0)=some s/\(W.staticsOk (importedModules pw0.main.body) (W.boot_heap w.params) s.heap&&W.namesBound pw0 s.heap&&W.gensDone s&&W.laidKept (W.boot_heap w.params) s.heap)=true/\W.openSeen qv ["TRUTHS","STRENGTHS"] (importedModules pw0.main.body) (λ s=>W.xlAt qv [] s&&W.recOk (W.RowW.records rv) s) true s=W.openGood qv ["TRUTHS","STRENGTHS"]/\W.Hook.obs (W.kHook KK KA ka_eq) s=W.Hook.val (W.kHook KK KA ka_eq) w:=by
 obtain⟨T,s,h1,h2,h3,h4,h5⟩:=b4 w os;refine⟨s,W.go_top (r1 w os) (W.piece_block (r2 w os) ?_),h3,h4,h5⟩;have h6:=W.segRun_of h1;rw[r3]at h6;have h7:=W.piece_app (rest:=[]) h6 h2;rw[qc1]at h7;exact h7
theorem r8:∀w:U0,((W.boot_heap w.params).isNs mainGlobals&&(Array.mk ([]:List GenState)).size==0)=true/\(W.boot_heap w.params).objs.size=11/\(W.boot_heap w.params).nsMap mainGlobals "__annotations__"=an:=by
 intro w;exact⟨by kernel_rfl,by kernel_rfl,by kernel_rfl⟩
theorem r9:∀w:U0,(W.fencedOpening treeTable pw0 w 8878).map (λ s=>(s.heap,s.gens,s.drawn,s.toks))=some (W.boot_heap w.params,Array.mk [],W.boot_drawn,W.boot_toks):=W.boot_open rfl rfl λ s=>rfl
theorem left:W.LeftO pw0 qv ["TRUTHS","STRENGTHS"] (λ s=>W.xlAt qv [] s&&W.recOk (W.RowW.records rv) s) (W.Hook.obs (W.kHook KK KA ka_eq)) (W.Hook.val (W.kHook KK KA ka_eq)) 8878:=J4n r9 r8 qQ r7
theorem ws0:rw0.wellSaid=true:=by
 kernel_rfl
end K13
end
section
namespace P15
open PySem
inductive Lb|non|int(i:Int)|bl(b:Bool)|str(x:Z0)
noncomputable def Lb.d:Lb->PyData
 | .non=>.none| .int i=>.int i| .bl b=>.bool b| .str x=>.str x
inductive Fm|number|truth|name|self|nt|iff|two|lt|new|elder|call|field|set
noncomputable def Fm.s:Fm->Z0
 | .number=>"number"| .truth=>"truth"| .name=>"name"| .self=>"self"| .nt=>"not"| .iff=>"if"| .two=>"two"| .lt=>"let"| .new=>"new"| .elder=>"elder"| .call=>"call"| .field=>"field"| .set=>"set"
inductive Tm|mk(f:Fm)(l:Lb)(ps:List Tm)
noncomputable def Tm.f:Tm->Fm| .mk f _ _=>f
noncomputable def Tm.l:Tm->Lb| .mk _ l _=>l
noncomputable def Tm.ps:Tm->List Tm| .mk _ _ ps=>ps
noncomputable def Z1m(f:Fm)(l:Lb)(ps:List PyData):List PyData:=match f with
 | .self| .nt| .iff=>.str f.s::ps
 | .new| .elder=>[.str f.s,l.d,.tuple ps]
 | .call=>match ps with
  |p::qs=>[.str f.s,p,l.d,.tuple qs]
  |[]=>[]
 | .field| .set=>match ps with
  |p::qs=>.str f.s::p::l.d::qs
  |[]=>[]
 |_=>.str f.s::l.d::ps
mutual
noncomputable def Tm.dat:Tm->PyData
 | .mk f l ps=>.tuple (Z1m f l (dats ps))
noncomputable def dats:List Tm->List PyData
 |[]=>[]
 |t::ts=>t.dat::dats ts
end
mutual
noncomputable def Tm.depth:Tm->Nat
 | .mk _ _ ps=>1+maxD ps
noncomputable def maxD:List Tm->Nat
 |[]=>0
 |t::ts=>max t.depth (maxD ts)
end
mutual
noncomputable def Tm.size:Tm->Nat
 | .mk _ _ ps=>1+sumS ps
noncomputable def sumS:List Tm->Nat
 |[]=>0
 |t::ts=>t.size+sumS ts
end
noncomputable def okF:Fm->Lb->Nat->Prop
 | .number,.int _,n=>n=0
 | .truth,.bl _,n=>n=0
 | .name,.str _,n=>n=0
 | .self,.non,n=>n=0
 | .nt,.non,n=>n=1
 | .iff,.non,n=>n=3
 | .two,.str _,n=>n=2
 | .lt,.str _,n=>n=2
 | .new,.str _,_=>True
 | .elder,.str _,_=>True
 | .call,.str _,n=>1<=n
 | .field,.str _,n=>n=1
 | .set,.str _,n=>n=2
 |_,_,_=>False
inductive Ok:Tm->Prop
 |mk{f:Fm}{l:Lb}{ps:List Tm}:okF f l ps.length->(∀p∈ps,Ok p)->Ok (.mk f l ps)
mutual
noncomputable def Tm.flat:Tm->List Tm
 | .mk f l ps=>.mk f l ps::flatR ps
noncomputable def flatR:List Tm->List Tm
 |[]=>[]
 |t::ts=>flatR ts++t.flat
end
inductive Bld:List Tm->List Tm->Prop
 |nil:Bld [] []
 |snoc{w C:List Tm}{t:Tm}:Bld w (C++t.ps)->Bld (w++[t]) (C++[t])
mutual
theorem Bld.flat:∀(t:Tm){w B:List Tm},Bld w B->Bld (w++t.flat.reverse) (B++[t])
 | .mk f l ps,w,B,h=>by
  have h':=Bld.flats ps h;have e:w++(Tm.mk f l ps).flat.reverse=w++(flatR ps).reverse++[Tm.mk f l ps]:=by
   show w++(Tm.mk f l ps::flatR ps).reverse=_;rw[List.reverse_cons,qa8]
  rw[e];exact .snoc h'
theorem Bld.flats:∀(ts:List Tm){w B:List Tm},Bld w B->Bld (w++(flatR ts).reverse) (B++ts)
 |[],w,B,h=>by
  show Bld (w++[]) (B++[]);rw[qc1,qc1];exact h
 |t::ts,w,B,h=>by
  have h':=Bld.flats ts (Bld.flat t h);show Bld (w++(flatR ts++t.flat).reverse) _;rw[List.reverse_append,<-qa8];rw[qa8 B]at h';exact h'
end
end P15
end
section
namespace L2
open PySem PySem.Spec PyProof.Rows
abbrev Key:=Sum Int Z0
def Z7g:Key->q0->Bool
 | .inl k,v=>Value.isInt k v
 | .inr x,v=>Value.isStrOf x v
def keyH(w:U0):Key->Int
 | .inl k=>hashInt k
 | .inr x=>hashStr w x
theorem Z0S:∀{k:Key}{v:q0},Z7g k v=true->(∃i t,k=Sum.inl i/\v=Value.int i t)\/(∃x t,k=Sum.inr x/\v=Value.str x t)
 | .inl i,v,h=>by
  obtain⟨t,e⟩:=Value.isInt_shape (k:=i) (v:=v) h;exact .inl ⟨i,t,rfl,e⟩
 | .inr x,v,h=>by
  obtain⟨t,e⟩:=Value.isStrOf_shape (x:=x) (v:=v) h;exact .inr ⟨x,t,rfl,e⟩
theorem J0f(i:Int)(t:Tok):Z7g (.inl i) (.int i t)=true:=by simp[Z7g,Value.isInt]
theorem J1l(x:Z0)(t:Tok):Z7g (.inr x) (.str x t)=true:=by simp[Z7g,Value.isStrOf]
theorem J5I(a b:Int):decide ((Sum.inl a:Key)=Sum.inl b)=(a==b):=by
 by_cases e:a=b
 ·subst e;simp
 ·have h:¬(Sum.inl a:Key)=Sum.inl b:=λ q=>e (Sum.inl.inj q);rw[decide_eq_false h];exact(beq_eq_false_iff_ne.mpr e).symm
theorem J6o(a b:Z0):decide ((Sum.inr a:Key)=Sum.inr b)=decide (a=b):=by
 by_cases e:a=b
 ·subst e;simp
 ·have h:¬(Sum.inr a:Key)=Sum.inr b:=λ q=>e (Sum.inr.inj q);rw[decide_eq_false h,decide_eq_false e]
theorem J5i(a:Int)(b:Z0):decide ((Sum.inl a:Key)=Sum.inr b)=false:=decide_eq_false (λ q=>nomatch q)
theorem J5Z(a:Z0)(b:Int):decide ((Sum.inr a:Key)=Sum.inl b)=false:=decide_eq_false (λ q=>nomatch q)
def Z2i(prog:Program)(w:U0):PySem.KeyKind prog w Key where
 is:=Z7g
 hash:=keyH w
 inj:=λ v a b ha hb=>by
  rcases Z0S ha with⟨i,t,rfl,rfl⟩|⟨x,t,rfl,rfl⟩
  ·rcases Z0S hb with⟨j,u,rfl,e⟩|⟨y,u,rfl,e⟩
   ·injection e with e1 _;rw[e1]
   ·exact nomatch e
  ·rcases Z0S hb with⟨j,u,rfl,e⟩|⟨y,u,rfl,e⟩
   ·exact nomatch e
   ·injection e with e1 _;rw[e1]
 byValue:=λ k v h=>by
  rcases Z0S h with⟨i,t,rfl,rfl⟩|⟨x,t,rfl,rfl⟩<;>rfl
 pyHash:=λ hv h=>by
  rcases Z0S hv with⟨i,t,rfl,rfl⟩|⟨x,t,rfl,rfl⟩
  ·exact wpAny_pyHash_int h
  ·exact wpAny_pyHash_str h
 eqBool:=λ hu hv h=>by
  rcases Z0S hu with⟨i,t,rfl,rfl⟩|⟨x,t,rfl,rfl⟩
  ·rcases Z0S hv with⟨j,u,rfl,rfl⟩|⟨y,u,rfl,rfl⟩
   ·rw[J5I]at h;exact wpAny_eqBool_int h
   ·rw[J5i]at h;exact SeqAt.EqAt.int_str i t y u _ _ _ _ h
  ·rcases Z0S hv with⟨j,u,rfl,rfl⟩|⟨y,u,rfl,rfl⟩
   ·rw[J5Z]at h;exact SeqAt.EqAt.str_int x t j u _ _ _ _ h
   ·rw[J6o]at h;exact wpAny_eqBool_str h
 «strs»:=λ k x t v h=>by
  rcases Z0S h with⟨i,u,rfl,e⟩|⟨y,u,rfl,e⟩
  ·exact nomatch e
  ·injection e with e1 _
   subst e1;cases v<;>rfl
theorem Z7t(prog:Program)(w:U0)(i:Int)(t:Tok):(Z2i prog w).is (.inl i) (.int i t)=true:=J0f i t
theorem Z7s(prog:Program)(w:U0)(x:Z0)(t:Tok):(Z2i prog w).is (.inr x) (.str x t)=true:=J1l x t
end L2
namespace L2
open PySem PySem.Spec PyProof.Rows
inductive V where
 |non|bl(b:Bool)|int(i:Int)|str(x:Z0)|byt(b:Array UInt8)|flt(b:UInt64)|ref(a:t0)|ty(n:String)
 deriving DecidableEq
def RelV:V->q0->Prop
 | .non,u=>u=Value.none
 | .bl b,u=>u=Value.bool b
 | .int i,u=>∃t,u=Value.int i t
 | .str x,u=>∃t,u=Value.str x t
 | .byt b,u=>∃t,u=Value.bytes b t
 | .flt b,u=>∃t,u=Value.float b t
 | .ref a,u=>u=Value.ref a
 | .ty n,u=>u=Value.type n
abbrev Vals:List V->List q0->Prop:=Paired RelV
theorem Vals.length{xs:List V}{us:List q0}(r:Vals xs us):xs.length=us.length:=Paired.length r
theorem Vals.get:∀{xs:List V}{us:List q0}{i:Nat}{x:V},Vals xs us->xs[i]?=some x->∃u,us[i]?=some u/\RelV x u
 |_,_,_,_,.nil,e=>by simp at e
 |_,_,0,_,.cons r _,e=>by simp at e;subst e;exact⟨_,rfl,r⟩
 |_,_,i+1,x,.cons _ t,e=>by
  obtain⟨u,h1,h2⟩:=Vals.get (i:=i) (x:=x) t (by simpa using e);exact⟨u,by simpa using h1,h2⟩
theorem Vals.append:∀{xs ys:List V}{us ws:List q0},Vals xs us->Vals ys ws->Vals (xs++ys) (us++ws)
 |_,_,_,_,.nil,s=>s
 |_,_,_,_,.cons r t,s=>.cons r (Vals.append t s)
theorem Vals.take:∀{xs:List V}{us:List q0}(n:Nat),Vals xs us->Vals (xs.take n) (us.take n)
 |_,_,0,_=>.nil
 |_,_,_+1,.nil=>.nil
 |_,_,n+1,.cons r t=>.cons r (Vals.take n t)
theorem Vals.drop:∀{xs:List V}{us:List q0}(n:Nat),Vals xs us->Vals (xs.drop n) (us.drop n)
 |_,_,0,r=>r
 |_,_,_+1,.nil=>.nil
 |_,_,n+1,.cons _ t=>Vals.drop n t
def RelO:Option V->Option q0->Prop
 |some v,some u=>RelV v u
 |none,none=>True
 |_,_=>False
def KV{κ:Type}:List (κ×V)->List (κ×q0)->Prop:=Paired λ(p:κ×V) (q:κ×q0)=>p.1=q.1/\RelV p.2 q.2
def kV:Key->V
 | .inl i=>.int i
 | .inr x=>.str x
inductive HO where
 |lst(xs:List V)
 |tup(xs:List V)
 |dK(kvs:List (Key×V))|dT(kvs:List (List Key×V))
 |set(S:Int->Bool)(n:Nat)
 |ins(C dx:t0)(fs:List (Z0×V))
 |own(x:t0)
 |xd(fs:List (Z0×V))
 |met(f x:t0)
 |rng(lo hi:Int)
 |frz(o:Obj)(u:HO)
 |tbl(ps:Array q0)
 |ext(φ:V0->Prop)
abbrev Hp:=t0->Option HO
def upd(H:Hp)(a:t0)(o:HO):Hp:=λ b=>if b=a then some o else H b
theorem Z0g{H:Hp}{a:t0}{o:HO}:upd H a o a=some o:=by unfold upd;rw[if_pos rfl]
theorem Z0k{H:Hp}{a b:t0}{o:HO}(h:b≠a):upd H a o b=H b:=by unfold upd;rw[if_neg h]
theorem Z7w{H:Hp}{a:t0}{o u:HO}:upd (upd H a o) a u=upd H a u:=by
 funext b;unfold upd;split<;>rfl
theorem J1y{H:Hp}{a b:t0}{o u:HO}(h:H a=some o)(h':H b=some u)(d:o≠u):a≠b:=by
 intro e;subst e;rw[h]at h';exact d (qd0 h')
theorem Z0i{H:Hp}{a b:t0}{o:HO}(h:H a=some o)(h':H b=none):a≠b:=by
 intro e;subst e;rw[h]at h';cases h'
theorem Z8W{h:V0}{xs:Array q0}{n:Nat}:∀o,(h.push {cls:=.type "tuple",data:=.seq xs n}).get? h.objs.size=some o->o.dict=none:=λ o q=>by
 rw[Heap.get?_push_size _ rfl]at q;cases q;rfl
section
variable(P:Program)(w:U0)
def ObjOk(H:Hp)(h:V0)(a:t0):HO->Prop
 | .lst xs=>xs.length<=sizeLine/\∃(its:List q0)(n:Nat),Vals xs its/\h.get? a=some {cls:=.type "list",data:=.seq its.toArray n}
 | .tup xs=>(xs.length<=sizeLine/\∀o,h.get? a=some o->o.dict=none)/\∃its:List q0,Vals xs its/\IsTup h a its.toArray
 | .dK kvs=>kvs.length<=sizeLine/\(a==sysModules)=false/\∃vs,KV kvs vs/\h.DictOf (Z2i P w) a vs
 | .dT kvs=>kvs.length<=sizeLine/\(a==sysModules)=false/\∃xs:List (List Key×t0×q0),
   Paired (λ(p:List Key×V) (q:List Key×t0×q0)=>p.1=q.1/\H q.2.1=some (.tup (p.1.map kV))/\RelV p.2 q.2.2) kvs xs/\
   ∃o es ep,h.get? a=some o/\o.ExactDict/\o.data=.dict es ep/\es.toList=xs.map (entryOfKey (tupleKind (Z2i P w)))/\(xs.map (·.1)).Nodup
 | .set S n=>h.SetOf (intKind P w) a S n
 | .ins C dx fs=>H dx=some (.own a)/\fs.length<=1000/\dx≠a/\h.get? a=some (W.instObj C dx)/\
   ∃mA,h.Ns1 dx mA/\(∀f,RelO (fs.lookup f) (mA f))/\PySem.Within mA (fs.map (·.1))
 | .own _=>∃o,h.get? a=some o
 | .xd fs=>∃mA,h.Ns1 a mA/\∀f,RelO (fs.lookup f) (mA f)
 | .rng lo hi=>∃t u v,h.get? a=some {cls:=.type "range",data:=.fields #[.int lo t,.int hi u,.int 1 v]}
 | .frz o u=>h.get? a=some o/\ObjOk H h a u
 | .tbl ps=>h.get? a=some {cls:=.none,data:=.fields ps}
 | .met f x=>h.get? a=some (W.methodObj (.ref f) (.ref x))
 | .ext φ=>φ h/\(∃o,h.get? a=some o)/\∀h1 h2:V0,φ h1->(∀o,h1.get? a=some o->h2.get? a=some o)->φ h2
def HOk(H:Hp)(h:V0):Prop:=∀a o,H a=some o->ObjOk P w H h a o
end
section
variable{P:Program}{w:U0}{H H':Hp}{h h':V0}{a:t0}{o:HO}
theorem ObjOk.lt(x:ObjOk P w H h a o):a<h.objs.size:=by
 cases o with
 |lst xs=>obtain⟨_,_,_,_,e⟩:=x;exact Heap.lt_size e
 |tup xs=>obtain⟨_,_,_,p⟩:=x;exact p.lt
 |dK kvs=>obtain⟨_,_,_,_,o,_,_,e,_⟩:=x;exact Heap.lt_size e
 |dT kvs=>obtain⟨_,_,_,_,o,_,_,e,_⟩:=x;exact Heap.lt_size e
 |set S n=>obtain⟨o,_,_,_,e,_⟩:=x;exact Heap.lt_size e
 |ins C dx fs=>obtain⟨_,_,_,e,_⟩:=x;exact Heap.lt_size e
 |own y=>obtain⟨_,e⟩:=x;exact Heap.lt_size e
 |xd fs=>obtain⟨_,⟨_,_,_,e,_⟩,_⟩:=x;exact Heap.lt_size e
 |rng lo hi=>obtain⟨_,_,_,e⟩:=x;exact Heap.lt_size e
 |frz ob u=>obtain⟨e,_⟩:=x;exact Heap.lt_size e
 |tbl ps=>exact Heap.lt_size (show h.get? a=some _ from x)
 |met f y=>exact Heap.lt_size (show h.get? a=some _ from x)
 |ext φ=>obtain⟨_,⟨_,e⟩,_⟩:=x;exact Heap.lt_size e
theorem Paired.mapP{α β:Type}{F G:α->β->Prop}:∀{l₁:List α}{l₂:List β},Paired F l₁ l₂->(∀a b,F a b->G a b)->Paired G l₁ l₂
 |_,_,.nil,_=>.nil
 |_,_,.cons r t,f=>.cons (f _ _ r) (Paired.mapP t f)
theorem ObjOk.stay(x:ObjOk P w H h a o)(k:∀b u,(b=a\/H b=some (.own a))->h.get? b=some u->h'.get? b=some u)(ho:∀b,H b=some (.own a)->H' b=some (.own a))(ht:∀b xs,H b=some (.tup xs)->H' b=some (.tup xs)):ObjOk P w H' h' a o:=by
 induction o with
 |lst xs=>obtain⟨z,its,n,r,e⟩:=x;exact⟨z,its,n,r,k _ _ (.inl rfl) e⟩
 |tup xs=>obtain⟨z,its,r,ob,e,c⟩:=x;exact⟨⟨z.1,λ o q=>by rw[k _ _ (.inl rfl) e]at q;cases q;exact z.2 _ e⟩,its,r,ob,k _ _ (.inl rfl) e,c⟩
 |dK kvs=>obtain⟨z,y,vs,r,ob,es,ep,e,c⟩:=x;exact⟨z,y,vs,r,ob,es,ep,k _ _ (.inl rfl) e,c⟩
 |dT kvs=>
  obtain⟨z,y,xs,r,ob,es,ep,e,c⟩:=x;exact⟨z,y,xs,Paired.mapP r λ p q z=>⟨z.1,ht _ _ z.2.1,z.2.2⟩,ob,es,ep,k _ _ (.inl rfl) e,c⟩
 |set S n=>obtain⟨ob,es,ep,t,e,c⟩:=x;exact⟨ob,es,ep,t,k _ _ (.inl rfl) e,c⟩
 |ins C dx fs=>
  obtain⟨d,z,ne,e,mA,⟨od,es,ep,e2,c⟩,r⟩:=x;exact⟨ho _ d,z,ne,k _ _ (.inl rfl) e,mA,⟨od,es,ep,k _ _ (.inr d) e2,c⟩,r⟩
 |own y=>obtain⟨ob,e⟩:=x;exact⟨ob,k _ _ (.inl rfl) e⟩
 |xd fs=>obtain⟨mA,⟨od,es,ep,e,c⟩,r⟩:=x;exact⟨mA,⟨od,es,ep,k _ _ (.inl rfl) e,c⟩,r⟩
 |rng lo hi=>obtain⟨t,u,v,e⟩:=x;exact⟨t,u,v,k _ _ (.inl rfl) e⟩
 |frz ob u ih=>obtain⟨e,q⟩:=x;exact⟨k _ _ (.inl rfl) e,ih q⟩
 |tbl ps=>
  have e:h.get? a=some {cls:=.none,data:=.fields ps}:=x;show h'.get? a=some {cls:=.none,data:=.fields ps};exact k a _ (.inl rfl) e
 |met f y=>
  have e:h.get? a=some (W.methodObj (.ref f) (.ref y)):=x;show h'.get? a=some (W.methodObj (.ref f) (.ref y));exact k a _ (.inl rfl) e
 |ext φ=>obtain⟨p,⟨o,e⟩,st⟩:=x;exact⟨st _ _ p λ o q=>k _ _ (.inl rfl) q,⟨o,k _ _ (.inl rfl) e⟩,st⟩
theorem HOk.lt(x:HOk P w H h)(e:H a=some o):a<h.objs.size:=(x a o e).lt
theorem HOk.fresh(x:HOk P w H h)(e:h.objs.size<=a):H a=none:=by
 cases q:H a with
 |none=>rfl
 |some u=>exact absurd (qa5 (x.lt q) e) (qb1 _)
theorem HOk.kept(x:HOk P w H h)(k:∀b u,h.get? b=some u->h'.get? b=some u):HOk P w H h':=λ a o e=>
 (x a o e).stay (λ b u _ q=>k b u q) (λ _ q=>q) λ _ _ q=>q
theorem HOk.laid(x:HOk P w H h)(k:∀b u,h.get? b=some u->h'.get? b=some u)(hp:h.objs.size<=a)(new:ObjOk P w (upd H a o) h' a o):HOk P w (upd H a o) h':=λ b u e=>by
 have hn:=x.fresh hp;by_cases hb:b=a
 ·subst hb;rw[Z0g]at e;cases e;exact new
 ·rw[Z0k hb]at e;exact(x b u e).stay (λ c v _ q=>k c v q) (λ c q=>by rw[Z0k (Z0i q hn)];exact q) λ c xs q=>by rw[Z0k (Z0i q hn)];exact q
end
def Rd(H:Hp)(a:t0)(u:HO):Prop:=H a=some u\/∃o,H a=some (.frz o u)
theorem Rd.ok{P:Program}{w:U0}{H:Hp}{h:V0}{a:t0}{u:HO}(r:Rd H a u)(x:HOk P w H h):ObjOk P w H h a u:=by
 rcases r with r|⟨o,r⟩
 ·exact x a u r
 ·obtain⟨_,q⟩:=x a _ r;exact q
def Mut:Option HO->Prop
 |some (.lst _)=>True
 |some (.dK _)=>True
 |some (.dT _)=>True
 |some (.set _ _)=>True
 |some (.ins _ _ _)=>True
 |some (.ext _)=>True
 |_=>False
section
variable{P:Program}{w:U0}{H:Hp}{h h':V0}{x e:t0}{o':HO}
theorem HOk.write(ok:HOk P w H h)(mu:Mut (H x))(he:e=x\/H e=some (.own x))(k:∀b u,b≠e->h.get? b=some u->h'.get? b=some u)(heo:∃u,h'.get? e=some u)(new:ObjOk P w (upd H x o') h' x o'):HOk P w (upd H x o') h':=λ b u q=>by
 have nown:∀c y,H c=some (.own y)->c≠x:=λ c y r z=>by subst z;rw[r]at mu;exact mu
 have ntup:∀c xs,H c=some (.tup xs)->c≠x:=λ c xs r z=>by subst z;rw[r]at mu;exact mu
 by_cases hb:b=x
 ·subst hb;rw[Z0g]at q;cases q;exact new
 ·rw[Z0k hb]at q;by_cases hbe:b=e
  ·have q':H b=some (.own x):=by
    rcases he with z|z
    ·exact absurd (hbe.trans z) hb
    ·rw[hbe];exact z
   rw[q]at q';cases q';obtain⟨v,hv⟩:=heo;exact⟨v,by rw[hbe];exact hv⟩
  ·refine(ok b u q).stay (λ c v hc r=>k c v ?_ r) (λ c r=>by rw[Z0k (nown c b r)];exact r) λ c xs r=>by rw[Z0k (ntup c xs r)];exact r
   rcases hc with rfl|hc
   ·exact hbe
   ·rintro rfl;rcases he with z|z
    ·exact nown c b hc z
    ·rw[hc]at z;cases z;exact hb rfl
end
structure Un(fs ex:List t0)(H H':Hp)(h h':V0):Prop where
 keep:∀b o,h.get? b=some o->H b=none->b∉fs->b∉ex->h'.get? b=some o
 slot:∀b o,h.get? b=some o->H b=none->b∈fs->b∉ex->∃sl,h'.get? b=some {o with slots:=sl}
 free:∀b o,h.get? b=some o->H b=none->b∉ex->H' b=none
 there:∀b o,h.get? b=some o->b∉ex->∃o',h'.get? b=some o'
 tups:∀b xs,H b=some (.tup xs)->H' b=some (.tup xs)
 frzs:∀b o u,H b=some (.frz o u)->H' b=some (.frz o u)
 tbls:∀b ps,H b=some (.tbl ps)->∃more,H' b=some (.tbl (ps++more))
section
variable{fs fs' ex ex':List t0}{H H1 H2:Hp}{h h1 h2 h':V0}{a x e:t0}{o:HO}
theorem Un.any(u:Un fs ex H H1 h h1){b:t0}{ob:Obj}(q:h.get? b=some ob)(n:H b=none)(hx:b∉ex):∃sl,h1.get? b=some {ob with slots:=sl}:=by
 by_cases hb:b∈fs
 ·exact u.slot b ob q n hb hx
 ·exact⟨ob.slots,u.keep b ob q n hb hx⟩
theorem Un.kept(k:∀b u,h.get? b=some u->h'.get? b=some u):Un fs ex H H h h':=
 ⟨λ b ob q _ _ _=>k b ob q,λ b ob q _ _ _=>⟨ob.slots,k b ob q⟩,λ _ _ _ n _=>n,λ b ob q _=>⟨ob,k b ob q⟩,λ _ _ q=>q,λ _ _ _ q=>q,λ _ ps q=>⟨#[],by rw[q];simp⟩⟩
theorem Un.refl:Un fs ex H H h h:=Un.kept λ _ _ q=>q
theorem Un.laid(k:∀b u,h.get? b=some u->h'.get? b=some u)(hp:h.objs.size<=a)(hn:H a=none):Un fs ex H (upd H a o) h h' where
 keep:=λ b u q _ _ _=>k b u q
 slot:=λ b u q _ _ _=>⟨u.slots,k b u q⟩
 free:=λ b u q n _=>by rw[Z0k (qa9 (qa5 (Heap.lt_size q) hp))];exact n
 there:=λ b u q _=>⟨u,k b u q⟩
 tups:=λ b xs q=>by rw[Z0k (Z0i q hn)];exact q
 frzs:=λ b u xs q=>by rw[Z0k (Z0i q hn)];exact q
 tbls:=λ b ps q=>⟨#[],by rw[Z0k (Z0i q hn),q];simp⟩
theorem Un.write(mu:Mut (H x))(he:e=x\/H e=some (.own x))(k:∀b u,b≠e->h.get? b=some u->h'.get? b=some u)(heo:∃u,h'.get? e=some u):Un fs ex H (upd H x o) h h':=by
 have hx:∀b,H b=none->b≠x:=λ b n z=>by subst z;rw[n]at mu;exact mu
 have hb:∀b,H b=none->b≠e:=λ b n z=>by
  subst z;rcases he with r|r
  ·exact hx b n r
  ·rw[n]at r;cases r
 have hm:∀b u,H b=some u->¬Mut (some u)->b≠x:=λ b u q nm z=>by subst z;rw[q]at mu;exact nm mu
 refine⟨λ b u q n _ _=>k b u (hb b n) q,λ b u q n _ _=>⟨u.slots,k b u (hb b n) q⟩,λ b u q n _=>by rw[Z0k (hx b n)];exact n,λ b u q _=>?_,
  λ b xs q=>by rw[Z0k (hm b _ q λ z=>z)];exact q,λ b u xs q=>by rw[Z0k (hm b _ q λ z=>z)];exact q,λ b ps q=>⟨#[],by rw[Z0k (hm b _ q λ z=>z),q];simp⟩⟩
 by_cases hbe:b=e
 ·subst hbe;exact heo
 ·exact⟨u,k b u hbe q⟩
end
def trk(h:V0)(H:Hp):List t0:=(qd5 h.objs.size).filter λ a=>(H a).isSome
def hidT(h:V0)(H:Hp):V0:=W.hideAll h (trk h H)
theorem Z6B(h:V0)(H:Hp):(hidT h H).objs.size=h.objs.size:=W.hideAll_size _ _
theorem Z8E{h:V0}{H:Hp}{b:t0}{o:Obj}(e:h.get? b=some o)(n:H b=none):(hidT h H).get? b=some o:=
 W.hideAll_get _ e λ hm=>by
  have q:(H b).isSome=true:=(List.mem_filter.mp hm).2;rw[n]at q;simp at q
theorem J1v{h:V0}{H:Hp}{b:t0}{o:Obj}(e:(hidT h H).get? b=some o):h.get? b=some o/\H b=none:=by
 have e':h.get? b=some o:=W.of_hideAll (trk h H) e;refine⟨e',?_⟩;cases q:H b with
 |none=>rfl
 |some x=>
  have hm:b∈trk h H:=List.mem_filter.mpr ⟨qe9.mpr (Heap.lt_size e'),by simp[q]⟩;have z:(hidT h H).get? b=none:=W.hideAll_none (trk h H) hm;rw[z]at e;cases e
def J4h(g h:V0)(L:t0):List (t0×Obj):=(qd5 h.objs.size).filterMap λ a=>if a=L\/(g.get? a).isSome=true then none else(h.get? a).map λ o=>(a,o)
def rest(g h:V0)(L d:t0):List (t0×Obj):=(J4h g h L).filter λ p=>decide (p.1≠d)
end L2
namespace L2
open PySem PySem.Spec PyProof.Rows
structure Mod(K:y0)(mg:Z0->Option q0)(base:V0):Prop where
 kin:K.In base
 glob:base.Ns mainGlobals mg
 blt:∃mb,base.Ns builtinsNs mb/\∀x:Z0,x≠"__name__"->mb x=bootBuiltins x
 nolimit:base.NoLimit
structure Cx where
 prog:Program
 w:U0
 K:y0
 mg:Z0->Option q0
 base:V0
 A:M0
 N:List Z0
 s₀:X0
 H₀:Hp
 env:Env
 outer:List Env
 stack:List Env
 ex:List t0
 fn:Z0->Bool
 calm:Bool
 pn:List (t0×Obj)
 xe:q0->X0->Prop
def frs(l:List Env):List t0:=l.filterMap (·.frame)
abbrev Cx.fs(X:Cx):List t0:=frs X.outer
def Vis(sc:Scope)(x:Z0):Prop:=sc.names.lookup x=some .local\/sc.names.lookup x=some .cell\/sc.names.lookup x=some .free
def Loc(sc:Scope)(x:Z0):Prop:=sc.names.lookup x=some .local\/sc.names.lookup x=some .cell
def Look(env:Env)(h:V0)(m:Z0->Option q0)(x:Z0)(u:q0):Prop:=
 (env.kindOf x=some .local/\m x=some u)\/((env.kindOf x=some .cell\/env.kindOf x=some .free)/\∃c,env.cells.lookup x=some c/\h.IsCell c (some u))
structure Cx.Ok(X:Cx):Prop where
 mod:Mod X.K X.mg X.base
 kind:X.env.scope.kind=.function
 glob:X.env.globals=mainGlobals
 blt:X.env.builtins=builtinsNs
 above:X.s₀.heap.objs.size<=X.env.locals
 inj:∀x y c,X.env.cells.lookup x=some c->X.env.cells.lookup y=some c->x=y
 has:∀x,(X.env.kindOf x=some .cell\/X.env.kindOf x=some .free)->∃c,X.env.cells.lookup x=some c
 cab:∀x c,X.fn x=true->X.env.cells.lookup x=some c->X.s₀.heap.objs.size<=c
 hd:X.calm=true->X.A.handled=none
 frames:X.A.frames=some X.stack
 stk:X.stack=X.outer\/(X.stack=X.env::X.outer/\X.env.frame=some X.env.locals)
 exf:∀b∈X.ex,b≠X.env.locals/\∀x c,X.env.cells.lookup x=some c->c≠b
 bs:∀b o,X.base.get? b=some o->X.s₀.heap.get? b=some o/\X.H₀ b=none
 bsz:X.base.objs.size<=X.s₀.heap.objs.size
 noex:∀b o,X.base.get? b=some o->b∉X.ex
 exfs:∀b∈X.ex,b∉X.fs
 funs:X.s₀.heap.FunFrames X.base X.outer
 frf:∀b∈X.fs,X.H₀ b=none
structure Inv(X:Cx)(pins:List (t0×Obj))(σ:List (Option V))(H:Hp)(s:X0):Prop where
 ok:X.Ok
 os:s.os=X.s₀.os
 bare:AllBare s.gens
 base:Un X.fs X.ex X.H₀ H X.s₀.heap s.heap
 loc:∃m,s.heap.Ns X.env.locals m/\∀(i:Nat)(x:Z0)(v:V),X.N[i]?=some x->σ[i]?=some (some v)->Vis X.env.scope x->∃u,RelV v u/\Look X.env s.heap m x u
 cell:∀x c,X.env.cells.lookup x=some c->∃v,s.heap.IsCell c v
 free:H X.env.locals=none
 freeC:∀x c,X.env.cells.lookup x=some c->H c=none
 pin:∀p∈X.pn++pins,s.heap.get? p.1=some p.2/\H p.1=none/\p.1≠X.env.locals/\p.1∉X.fs/\∀v,p.2.data≠.cell v
 hok:HOk X.prog X.w H s.heap
 len:σ.length=X.N.length
section
variable{X:Cx}{pins:List (t0×Obj)}{σ:List (Option V)}{H H':Hp}{s:X0}{h':V0}
theorem Cx.Ok.nofr(ok:X.Ok){b:t0}{o:Obj}(e:X.base.get? b=some o):b∉X.fs:=λ hb=>by
 have:=(ok.funs.mem hb).1;rw[e]at this;cases this
theorem Inv.bs(I:Inv X pins σ H s):∀b o,X.base.get? b=some o->s.heap.get? b=some o/\H b=none:=λ b o e=>
 ⟨I.base.keep b o (I.ok.bs b o e).1 (I.ok.bs b o e).2 (I.ok.nofr e) (I.ok.noex b o e),I.base.free b o (I.ok.bs b o e).1 (I.ok.bs b o e).2 (I.ok.noex b o e)⟩
theorem Inv.bk(I:Inv X pins σ H s):∀b o,X.base.get? b=some o->s.heap.get? b=some o:=λ b o e=>(I.bs b o e).1
theorem Inv.mod(I:Inv X pins σ H s):Mod X.K X.mg X.base:=I.ok.mod
theorem Inv.kIn(I:Inv X pins σ H s):X.K.In s.heap:=I.ok.mod.kin.keeps I.bk
theorem Inv.lt(I:Inv X pins σ H s):X.env.locals<s.heap.objs.size:=let⟨_,hn,_⟩:=I.loc;hn.lt
theorem Inv.sz(I:Inv X pins σ H s):X.s₀.heap.objs.size<=s.heap.objs.size:=qa1 I.ok.above (qf7 I.lt)
theorem Inv.nofs(I:Inv X pins σ H s){a:t0}(h:s.heap.objs.size<=a):a∉X.fs:=λ hb=>by
 obtain⟨_,o,ho,_⟩:=I.ok.funs.mem hb;exact absurd (qa5 (Heap.lt_size ho) (qa1 I.sz h)) (qb1 _)
theorem Inv.cne(I:Inv X pins σ H s):∀x c,X.env.cells.lookup x=some c->c≠X.env.locals:=λ x c e z=>by
 obtain⟨v,o,ho,hd⟩:=I.cell x c e;obtain⟨m,⟨o',es,ep,ho',hd',_⟩,_⟩:=I.loc;rw[z,ho']at ho;cases ho;rw[hd']at hd;cases hd
theorem Inv.funs(I:Inv X pins σ H s):s.heap.FunFrames X.base X.outer:=by
 have all:∀(l:List Env),(∀b∈frs l,b∈X.fs)->X.s₀.heap.FunFrames X.base l->s.heap.FunFrames X.base l:=by
  intro l;induction l with
  |nil=>intro _ _;trivial
  |cons env r ih=>
   intro hs hl;obtain⟨hk,⟨L,o,hf,hn,ho,hd⟩,hr⟩:=hl;have hL:L∈X.fs:=hs L (by unfold frs;rw[qf0,hf];exact qd8);obtain⟨sl,e⟩:=I.base.slot L o ho (I.ok.frf L hL) hL λ z=>I.ok.exfs L z hL;exact⟨hk,⟨L,_,hf,hn,e,hd⟩,ih (λ b hb=>hs b (by unfold frs;rw[qf0,hf];exact qd1 _ hb)) hr⟩
 exact all X.outer (λ _ hb=>hb) I.ok.funs
theorem Inv.stack(I:Inv X pins σ H s):s.heap.FunFrames X.base X.stack:=by
 rcases I.ok.stk with e|⟨e,hf⟩
 ·rw[e];exact I.funs
 ·rw[e];obtain⟨m,hn,_⟩:=I.loc;refine .cons (by rw[I.ok.kind];decide) hf hn ?_ I.funs;exact Heap.get?_none_of_le (qa1 I.ok.bsz I.ok.above)
theorem Inv.stkSub(I:Inv X pins σ H s):∀b∈frs X.stack,b∈X.env.locals::X.fs:=λ b hb=>by
 rcases I.ok.stk with e|⟨e,hf⟩
 ·rw[e]at hb;exact qd1 _ hb
 ·rw[e]at hb;unfold frs at hb;rw[qf0,hf]at hb;exact hb
theorem Inv.stkFree(I:Inv X pins σ H s):∀b∈frs X.stack,H b=none:=λ b hb=>by
 rcases qb4.mp (I.stkSub b hb)with e|hb
 ·rw[e];exact I.free
 ·obtain⟨_,o,ho,_⟩:=I.ok.funs.mem hb;exact I.base.free b o ho (I.ok.frf b hb) λ z=>I.ok.exfs b z hb
theorem Inv.step{g':Array GenState}{t':Nat}{d':Drawn}{ch:List t0}(I:Inv X pins σ H s)(hch:∀b∈ch,(b∈X.ex\/X.s₀.heap.objs.size<=b)/\b≠X.env.locals/\(∀x c,X.env.cells.lookup x=some c->c≠b)/\∀p∈X.pn++pins,p.1≠b)(keep:∀b o,b≠X.env.locals->b∉X.fs->b∉ch->s.heap.get? b=some o->H b=none->h'.get? b=some o)(slot:∀b o,b≠X.env.locals->b∈X.fs->b∉ch->s.heap.get? b=some o->H b=none->∃sl,h'.get? b=some {o with slots:=sl})(free:∀b o,b∉ch->s.heap.get? b=some o->H b=none->H' b=none)(there:∀b o,b∉ch->s.heap.get? b=some o->∃o',h'.get? b=some o')(tups:∀b xs,H b=some (.tup xs)->H' b=some (.tup xs))(frzs:∀b o u,H b=some (.frz o u)->H' b=some (.frz o u))(tbls:∀b ps,H b=some (.tbl ps)->∃more,H' b=some (.tbl (ps++more)))(ns:∀m,s.heap.Ns X.env.locals m->h'.Ns X.env.locals m)(hok:HOk X.prog X.w H' h')(hg:AllBare g'):Inv X pins σ H' {s with heap:=h',gens:=g',drawn:=d',toks:=t'}:=by
 have neL:∀b o,X.s₀.heap.get? b=some o->b≠X.env.locals:=λ b o e=>qa9 (qa5 (Heap.lt_size e) I.ok.above);have neC:∀b o,X.s₀.heap.get? b=some o->b∉X.ex->b∉ch:=λ b o e hx hb=>by
  rcases(hch b hb).1 with z|z
  ·exact hx z
  ·exact absurd (qa5 (Heap.lt_size e) z) (qb1 _)
 have cellK:∀x c,X.env.cells.lookup x=some c->∀v,s.heap.IsCell c v->h'.IsCell c v:=λ x c e v ⟨o,ho,hd⟩=>by
  have nch:c∉ch:=λ z=>(hch c z).2.2.1 x c e rfl;by_cases hc:c∈X.fs
  ·obtain⟨sl,q⟩:=slot c o (I.cne x c e) hc nch ho (I.freeC x c e);exact⟨_,q,hd⟩
  ·exact⟨o,keep c o (I.cne x c e) hc nch ho (I.freeC x c e),hd⟩
 refine⟨I.ok,I.os,hg,⟨λ b o e n hb hx=>?_,λ b o e n hb hx=>?_,λ b o e n hx=>?_,λ b o e hx=>?_,λ b xs e=>tups b xs (I.base.tups b xs e),λ b o xs e=>frzs b o xs (I.base.frzs b o xs e),λ b ps e=>?_⟩,?_,λ x c e=>?_,?_,λ x c e=>?_,λ p hp=>?_,hok,I.len⟩
 ·exact keep b o (neL b o e) hb (neC b o e hx) (I.base.keep b o e n hb hx) (I.base.free b o e n hx)
 ·obtain⟨sl,e1⟩:=I.base.slot b o e n hb hx;obtain⟨sl',e2⟩:=slot b _ (neL b o e) hb (neC b o e hx) e1 (I.base.free b o e n hx);exact⟨sl',e2⟩
 ·obtain⟨o',e1⟩:=I.base.there b o e hx;exact free b o' (neC b o e hx) e1 (I.base.free b o e n hx)
 ·obtain⟨o',e1⟩:=I.base.there b o e hx;exact there b o' (neC b o e hx) e1
 ·obtain⟨m1,e1⟩:=I.base.tbls b ps e;obtain⟨m2,e2⟩:=tbls b _ e1;exact⟨m1++m2,by rw[e2,Array.append_assoc]⟩
 ·obtain⟨m,hn,hl⟩:=I.loc;refine⟨m,ns m hn,λ i x v e1 e2 e3=>?_⟩;obtain⟨u,r,l⟩:=hl i x v e1 e2 e3;refine⟨u,r,?_⟩;rcases l with l|⟨k,c,e,z⟩
  ·exact .inl l
  ·exact .inr ⟨k,c,e,cellK x c e _ z⟩
 ·obtain⟨v,z⟩:=I.cell x c e;exact⟨v,cellK x c e v z⟩
 ·obtain⟨m,⟨o,_,_,ho,_⟩,_⟩:=I.loc;exact free _ o (λ z=>(hch _ z).2.1 rfl) ho I.free
 ·obtain⟨v,o,ho,hd⟩:=I.cell x c e;exact free c o (λ z=>(hch c z).2.2.1 x c e rfl) ho (I.freeC x c e)
 ·obtain⟨e,n,ne,nf,d⟩:=I.pin p hp;have nch:p.1∉ch:=λ z=>(hch p.1 z).2.2.2 p hp rfl;exact⟨keep p.1 p.2 ne nf nch e n,free p.1 p.2 nch e n,ne,nf,d⟩
theorem Inv.un{t':Nat}(I:Inv X pins σ H s)(u:Un X.fs [] H H' s.heap h')(hok:HOk X.prog X.w H' h'):Inv X pins σ H' {s with heap:=h',toks:=t'}:=by
 obtain⟨m,⟨o,es,ep,ho,r⟩,_⟩:=id I.loc;obtain⟨sl,hL⟩:=u.any ho I.free (by simp);exact I.step (g':=s.gens) (d':=s.drawn) (ch:=[]) (λ _ z=>nomatch z) (λ b o _ hb _ e n=>u.keep b o e n hb (by simp)) (λ b o _ hb _ e n=>u.slot b o e n hb (by simp)) (λ b o _ e n=>u.free b o e n (by simp)) (λ b o _ e=>u.there b o e (by simp)) u.tups u.frzs u.tbls (λ m' hm=>by
  obtain⟨o',es',ep',ho',r'⟩:=hm;rw[ho]at ho';cases ho';exact⟨_,es',ep',hL,r'⟩) hok I.bare
theorem Inv.call{g':Array GenState}{t':Nat}{d':Drawn}{ch:List t0}(I:Inv X pins σ H s)(u:Un (frs X.stack) ch H H' s.heap h')(hok:HOk X.prog X.w H' h')(hg:AllBare g')(hch:∀b∈ch,(b∈X.ex\/X.s₀.heap.objs.size<=b)/\b≠X.env.locals/\(∀x c,X.env.cells.lookup x=some c->c≠b)/\∀p∈X.pn++pins,p.1≠b):Inv X pins σ H' {s with heap:=h',gens:=g',drawn:=d',toks:=t'}:=by
 obtain⟨m,⟨o,es,ep,ho,r⟩,_⟩:=id I.loc;obtain⟨sl,hL⟩:=u.any ho I.free λ z=>(hch _ z).2.1 rfl;exact I.step (ch:=ch) hch (λ b o hL hb hc e n=>u.keep b o e n (λ z=>(qb4.mp (I.stkSub b z)).elim hL hb) hc) (λ b o _ _ hc e n=>u.any e n hc) (λ b o hc e n=>u.free b o e n hc) (λ b o hc e=>u.there b o e hc) u.tups u.frzs u.tbls (λ m' hm=>by
  obtain⟨o',es',ep',ho',r'⟩:=hm;rw[ho]at ho';cases ho';exact⟨_,es',ep',hL,r'⟩) hok hg
theorem Inv.turned{t':Nat}{it:t0}(I:Inv X pins σ H s)(k:∀b o,b≠it->s.heap.get? b=some o->h'.get? b=some o)(hn:H it=none)(hL:it≠X.env.locals)(h1:it∈X.ex\/X.s₀.heap.objs.size<=it)(h2:∀x c,X.env.cells.lookup x=some c->c≠it)(h3:∀p∈X.pn++pins,p.1≠it):Inv X pins σ H {s with heap:=h',toks:=t'}:=by
 have nit:∀b u,H b=some u->b≠it:=λ b u e z=>by rw[z,hn]at e;cases e
 refine I.step (g':=s.gens) (d':=s.drawn) (ch:=[it]) (λ b hb=>?_) (λ b o _ _ hc e _=>k b o (λ z=>hc (by simp [z])) e) (λ b o _ _ hc e _=>⟨o.slots,k b o (λ z=>hc (by simp [z])) e⟩) (λ _ _ _ _ n=>n)
  (λ b o hc e=>⟨o,k b o (λ z=>hc (by simp[z])) e⟩) (λ _ _ e=>e) (λ _ _ _ e=>e) (λ b ps e=>⟨#[],by rw[e];simp⟩) (λ m hm=>?_) (λ b u e=>?_) I.bare
 ·have e:b=it:=by simpa using hb
  subst e;exact⟨h1,hL,h2,h3⟩
 ·obtain⟨o,es,ep,ho,r⟩:=hm;exact⟨o,es,ep,k _ o (Ne.symm hL) ho,r⟩
 ·refine(I.hok b u e).stay (λ c v hc q=>k c v ?_ q) (λ _ q=>q) λ _ _ q=>q;rcases hc with z|z
  ·rw[z];exact nit b u e
  ·exact nit c _ z
theorem Inv.tok(I:Inv X pins σ H s)(t:Nat):Inv X pins σ H {s with toks:=t}:=I.un (h':=s.heap) (t':=t) Un.refl I.hok
theorem Inv.kept{t':Nat}(I:Inv X pins σ H s)(k:∀b u,s.heap.get? b=some u->h'.get? b=some u):Inv X pins σ H {s with heap:=h',toks:=t'}:=I.un (Un.kept k) (I.hok.kept k)
theorem Inv.laid{a:t0}{o:HO}{t':Nat}(I:Inv X pins σ H s)(k:∀b u,s.heap.get? b=some u->h'.get? b=some u)(hp:s.heap.objs.size<=a)(new:ObjOk X.prog X.w (upd H a o) h' a o):Inv X pins σ (upd H a o) {s with heap:=h',toks:=t'}:=I.un (Un.laid k hp (I.hok.fresh hp)) (I.hok.laid k hp new)
theorem Inv.write{x e:t0}{o:HO}{t':Nat}(I:Inv X pins σ H s)(mu:Mut (H x))(he:e=x\/H e=some (.own x))(k:∀b u,b≠e->s.heap.get? b=some u->h'.get? b=some u)(heo:∃u,h'.get? e=some u)(new:ObjOk X.prog X.w (upd H x o) h' x o):Inv X pins σ (upd H x o) {s with heap:=h',toks:=t'}:=I.un (Un.write mu he k heo) (I.hok.write mu he k heo new)
theorem Inv.pins_of{pins':List (t0×Obj)}(I:Inv X pins σ H s)(h:∀p∈pins',s.heap.get? p.1=some p.2/\H p.1=none/\p.1≠X.env.locals/\p.1∉X.fs/\∀v,p.2.data≠.cell v):Inv X pins' σ H s:=
 ⟨I.ok,I.os,I.bare,I.base,I.loc,I.cell,I.free,I.freeC,λ p hp=>(qf1.mp hp).elim (λ z=>I.pin p (qh6 _ z)) (h p),I.hok,I.len⟩
theorem Z5X{N:List Z0}(hN:N.Nodup){i j:Nat}{x:Z0}(a:N[i]?=some x)(b:N[j]?=some x):i=j:=by
 obtain⟨h1,e1⟩:=qc6.mp a;obtain⟨h2,e2⟩:=qc6.mp b;exact(List.getElem_inj hN).mp (e1.trans e2.symm)
theorem J0b{M:Model}{A:M0}{E:q0->X0->Prop}{i:Nat}{x:Z0}{v:V}{u:q0}{Q:Unit->X0->Prop}(I:Inv X pins σ H s)(hN:X.N.Nodup)(hi:X.N[i]?=some x)(hx:Loc X.env.scope x)(r:RelV v u)(h:∀s',Inv X pins (σ.set i (some v)) H s'->(∃a,Heap.SameBut a s.heap s'.heap/\(a=X.env.locals\/X.env.cells.lookup x=some a))->Q () s')(hf:X.fn x=true\/X.env.scope.names.lookup x=some .local:=by first|exact .inl rfl|exact .inr rfl|assumption):wpAny M A (storeName X.env x u) Q E s:=by
 obtain⟨m,hn,hl⟩:=id I.loc;have hcls:(X.env.scope.kind==.class||(X.env.scope.kind==.module&&X.env.locals !=X.env.globals))=false:=by rw[I.ok.kind];rfl
 have hiσ:i<σ.length:=by rw[I.len];exact(qc6.mp hi).1
 have cne:=I.cne;have tracked:∀{a:t0}{h':V0},(∃o,s.heap.get? a=some o/\H a=none)->Heap.SameBut a s.heap h'->HOk X.prog X.w H h':=λ{a h'} ha hs b ob e=>by
  obtain⟨_,_,hfree⟩:=ha;refine(I.hok b ob e).stay (λ c w' hc q=>(hs.2 c ?_).trans q) (λ _ q=>q) λ _ _ q=>q;rintro rfl;rcases hc with rfl|hc
  ·rw[hfree]at e;cases e
  ·rw[hfree]at hc;cases hc
 rcases hx with hk|hk
 ·refine wpAny_storeName_local hk hn (λ h' hn' hs=>?_) hcls;obtain⟨oL,_,_,hoL,_⟩:=id hn;refine h _ ⟨I.ok,I.os,I.bare,⟨λ b o e n hb hx=>?_,λ b o e n hb hx=>?_,I.base.free,λ b o e hx=>?_,I.base.tups,I.base.frzs,I.base.tbls⟩,⟨_,hn',λ j y v' e1 e2 e3=>?_⟩,λ y c e=>?_,I.free,I.freeC,λ p hp=>?_,tracked ⟨oL,hoL,I.free⟩ hs,by simpa using I.len⟩ ⟨_,hs,.inl rfl⟩
  ·exact(hs.2 b (qa9 (qa5 (Heap.lt_size e) I.ok.above))).trans (I.base.keep b o e n hb hx)
  ·obtain⟨sl,e1⟩:=I.base.slot b o e n hb hx;exact⟨sl,(hs.2 b (qa9 (qa5 (Heap.lt_size e) I.ok.above))).trans e1⟩
  ·obtain⟨o',e1⟩:=I.base.there b o e hx;exact⟨o',(hs.2 b (qa9 (qa5 (Heap.lt_size e) I.ok.above))).trans e1⟩
  ·by_cases hj:j=i
   ·subst hj;rw[hi]at e1;cases e1;rw[qh7 hiσ]at e2;cases e2;exact⟨u,r,.inl ⟨hk,by simp⟩⟩
   ·rw[qh8 (Ne.symm hj)]at e2;obtain⟨u',r',q⟩:=hl j y v' e1 e2 e3;refine⟨u',r',?_⟩;rcases q with⟨k,e⟩|⟨k,c,e,z⟩
    ·refine .inl ⟨k,?_⟩;have:y≠x:=λ e=>hj (Z5X hN e1 (e▸hi));simp[this,e]
    ·exact .inr ⟨k,c,e,z.sameBut hs (cne y c e)⟩
  ·obtain⟨w',z⟩:=I.cell y c e;exact⟨w',z.sameBut hs (cne y c e)⟩
  ·obtain⟨e,n,ne,nf,d⟩:=I.pin p hp;exact⟨(hs.2 p.1 ne).trans e,n,ne,nf,d⟩
 ·have hfn:X.fn x=true:=by
   rcases hf with z|z
   ·exact z
   ·rw[z]at hk;cases hk
  obtain⟨c,hc⟩:=I.ok.has x (.inl hk);obtain⟨w',z⟩:=I.cell x c hc;refine wpAny_storeName_cell I.ok.kind hk hc z (λ h' hc' hs=>?_);obtain⟨oc,hoc,hocd⟩:=id z;refine h {s with heap:=h'} ⟨I.ok,I.os,I.bare,⟨λ b o e n hb hx=>?_,λ b o e n hb hx=>?_,I.base.free,λ b o e hx=>?_,I.base.tups,I.base.frzs,I.base.tbls⟩,⟨m,hn.sameBut hs (Ne.symm (cne x c hc)),λ j y v' e1 e2 e3=>?_⟩,λ y c' e=>?_,I.free,I.freeC,λ p hp=>?_,tracked ⟨oc,hoc,I.freeC x c hc⟩ hs,by simpa using I.len⟩ ⟨c,hs,.inr hc⟩
  ·exact(hs.2 b (qa9 (qa5 (Heap.lt_size e) (I.ok.cab x c hfn hc)))).trans (I.base.keep b o e n hb hx)
  ·obtain⟨sl,e1⟩:=I.base.slot b o e n hb hx;exact⟨sl,(hs.2 b (qa9 (qa5 (Heap.lt_size e) (I.ok.cab x c hfn hc)))).trans e1⟩
  ·obtain⟨o',e1⟩:=I.base.there b o e hx;exact⟨o',(hs.2 b (qa9 (qa5 (Heap.lt_size e) (I.ok.cab x c hfn hc)))).trans e1⟩
  ·by_cases hj:j=i
   ·subst hj;rw[hi]at e1;cases e1;rw[qh7 hiσ]at e2;cases e2;exact⟨u,r,.inr ⟨.inl hk,c,hc,hc'⟩⟩
   ·rw[qh8 (Ne.symm hj)]at e2;obtain⟨u',r',q⟩:=hl j y v' e1 e2 e3;refine⟨u',r',?_⟩;rcases q with q|⟨k,c',e,z'⟩
    ·exact .inl q
    ·refine .inr ⟨k,c',e,z'.sameBut hs ?_⟩;rintro rfl;exact hj (Z5X hN e1 (I.ok.inj _ _ _ e hc▸hi))
  ·by_cases hcc:c'=c
   ·subst hcc;exact⟨_,hc'⟩
   ·obtain⟨w2,z2⟩:=I.cell y c' e;exact⟨w2,z2.sameBut hs hcc⟩
  ·obtain⟨e,n,ne,nf,d⟩:=I.pin p hp;refine⟨(hs.2 p.1 ?_).trans e,n,ne,nf,d⟩;intro q;rw[q,hoc]at e;have q':oc=p.2:=qd0 e;exact d w' (by rw[<-q'];exact hocd)
theorem Z3V{M:Model}{A:M0}{E:q0->X0->Prop}{i:Nat}{x:Z0}{v:V}{u:q0}{Q:Unit->X0->Prop}(I:Inv X pins σ H s)(hN:X.N.Nodup)(hi:X.N[i]?=some x)(hx:Loc X.env.scope x)(r:RelV v u)(h:∀s',Inv X pins (σ.set i (some v)) H s'->Q () s')(hf:X.fn x=true\/X.env.scope.names.lookup x=some .local:=by first|exact .inl rfl|exact .inr rfl|assumption):wpAny M A (storeName X.env x u) Q E s:=
 J0b I hN hi hx r (λ s' I' _=>h s' I') hf
theorem Inv.call'{s':X0}{ch:List t0}(I:Inv X pins σ H s)(ho:s'.os=s.os)(u:Un (frs X.stack) ch H H' s.heap s'.heap)(hok:HOk X.prog X.w H' s'.heap)(hg:AllBare s'.gens)(hch:∀b∈ch,(b∈X.ex\/X.s₀.heap.objs.size<=b)/\b≠X.env.locals/\(∀x c,X.env.cells.lookup x=some c->c≠b)/\∀p∈X.pn++pins,p.1≠b):Inv X pins σ H' s':=by
 obtain⟨h',g',d',t',o'⟩:=s';have e:o'=s.os:=ho;subst e;exact I.call (g':=g') (t':=t') (d':=d') u hok hg hch
end
abbrev XK:=q0->Option t0->Hp->Prop
abbrev St:=List (Option V)
abbrev VK:=V->Hp->Prop
abbrev TE:=St->Hp->VK->Prop
abbrev TT:=St->Hp->(Bool->Hp->Prop)->Prop
abbrev TA:=St->Hp->(List V->Hp->Prop)->Prop
structure Ends where
 nx:St->Hp->Prop
 rt:VK
 bk:St->Hp->Prop:=λ _ _=>False
 ct:St->Hp->Prop:=λ _ _=>False
abbrev TS:=Ends->St->Hp->Prop
def EP(X:Cx)(pins:List (t0×Obj))(σ:St)(Q:VK)(u:q0)(s':X0):Prop:=∃v H',Inv X pins σ H' s'/\RelV v u/\Q v H'
def TP(X:Cx)(pins:List (t0×Obj))(σ:St)(Q:Bool->Hp->Prop)(b:Bool)(s':X0):Prop:=∃H',Inv X pins σ H' s'/\Q b H'
def AP(X:Cx)(pins:List (t0×Obj))(σ:St)(Q:List V->Hp->Prop)(us:List q0)(s':X0):Prop:=∃vs H',Inv X pins σ H' s'/\Vals vs us/\Q vs H'
def SP(X:Cx)(pins:List (t0×Obj))(D:Ends)(f:Flow)(s':X0):Prop:=
 match f with
 | .next=>∃σ' H',Inv X pins σ' H' s'/\D.nx σ' H'
 | .brk=>∃σ' H',Inv X pins σ' H' s'/\D.bk σ' H'
 | .cont=>∃σ' H',Inv X pins σ' H' s'/\D.ct σ' H'
 | .ret u=>∃v σ' H',Inv X pins σ' H' s'/\RelV v u/\D.rt v H'
def PE(X:Cx)(e:Expr)(t:TE):Prop:=
 ∀(pins:List (t0×Obj))(s:X0)(σ:St)(H:Hp)(Q:VK),Inv X pins σ H s->t σ H Q->wpAny (model X.prog X.w) X.A (eval e X.env) (EP X pins σ Q) X.xe s
def PT(X:Cx)(e:Expr)(t:TT):Prop:=
 ∀(pins:List (t0×Obj))(s:X0)(σ:St)(H:Hp)(Q:Bool->Hp->Prop),Inv X pins σ H s->t σ H Q->wpAny (model X.prog X.w) X.A (isTrue e X.env (eval e X.env)) (TP X pins σ Q) X.xe s
def PW(X:Cx)(e:Expr)(t:TT):Prop:=
 ∀(whole:Sem q0)(pins:List (t0×Obj))(s:X0)(σ:St)(H:Hp)(Q:Bool->Hp->Prop),Inv X pins σ H s->t σ H Q->wpAny (model X.prog X.w) X.A (isTrue e X.env whole) (TP X pins σ Q) X.xe s
theorem PW.pt{X:Cx}{e:Expr}{t:TT}(h:PW X e t):PT X e t:=h _
def PA(X:Cx)(es:List Expr)(t:TA):Prop:=
 ∀(pos:Pos)(pins:List (t0×Obj))(s:X0)(σ:St)(H:Hp)(Q:List V->Hp->Prop),Inv X pins σ H s->t σ H Q->wpAny (model X.prog X.w) X.A (spliced (backTo pos (starEach es X.env))) (AP X pins σ Q) X.xe s
def PS(X:Cx)(st:Stmt)(t:TS):Prop:=
 ∀(pins:List (t0×Obj))(s:X0)(σ:St)(H:Hp)(D:Ends),Inv X pins σ H s->t D σ H->wpAny (model X.prog X.w) X.A (exec st X.env) (SP X pins D) X.xe s
def PSs(X:Cx)(st:List Stmt)(t:TS):Prop:=
 ∀(pins:List (t0×Obj))(s:X0)(σ:St)(H:Hp)(D:Ends),Inv X pins σ H s->t D σ H->wpAny (model X.prog X.w) X.A (execs st X.env) (SP X pins D) X.xe s
theorem thn{α:Type}{t:Sem α}{Q Q':α->X0->Prop}{M:Model}{A:M0}{E:q0->X0->Prop}{s:X0}(h:wpAny M A t Q E s)(hQ:∀a s,Q a s->Q' a s):wpAny M A t Q' E s:=wpAny_mono h hQ λ _ _ x=>x
end L2
namespace L2
open PySem PySem.Spec PyProof.Rows
section
variable{X:Cx}
theorem bin{a b:Expr}{ta tb:TE}(ha:PE X a ta)(hb:PE X b tb){pins:List (t0×Obj)}{s:X0}{σ:St}{H:Hp}{R:V->V->Hp->Prop}(I:Inv X pins σ H s)(h:ta σ H λ x H1=>tb σ H1 λ y H2=>R x y H2){α:Type}{Q:α->X0->Prop}{f:q0->q0->Sem α}(hf:∀v u s2 x y H2,Inv X pins σ H2 s2->RelV x v->RelV y u->R x y H2->wpAny (model X.prog X.w) X.A (f v u) Q X.xe s2):wpAny (model X.prog X.w) X.A (eval a X.env) (λ v s₁=>wpAny (model X.prog X.w) X.A (eval b X.env) (λ u s₂=>wpAny (model X.prog X.w) X.A (f v u) Q X.xe s₂) X.xe s₁) X.xe s:=by
 refine thn (ha pins s σ H _ I h) λ v s1 ⟨x,H1,I1,r1,q1⟩=>?_;refine thn (hb pins s1 σ H1 _ I1 q1) λ u s2 ⟨y,H2,I2,r2,q2⟩=>?_;exact hf v u s2 x y H2 I2 r1 r2 q2
def tVar(i:Nat):TE:=λ σ H Q=>∃v,σ[i]?=some (some v)/\Q v H
def tC(v:V):TE:=λ _ H Q=>Q v H
theorem J3l{i:Nat}{x:Z0}{pos:Pos}(hN:X.N[i]?=some x)(hv:Vis X.env.scope x)(hd:(x==("__debug__":Z0))=false:=by decide)(hcd:(x==("__classdict__":Z0))=false:=by decide):PE X (.Name x pos) (tVar i):=by
 intro pins s σ H Q I h;obtain⟨v,e,h⟩:=h;obtain⟨m,hn,hl⟩:=I.loc;obtain⟨u,r,l⟩:=hl i x v hN e hv;have fin:EP X pins σ Q u s:=⟨v,H,I,r,h⟩;rcases l with⟨hk,hm⟩|⟨hk,c,hc,hcell⟩
 ·exact wpAny_Name (wpAny_loadName_local I.ok.kind hk hn hm fin) hd
 ·rcases hk with hk|hk
  ·exact wpAny_Name (wpAny_loadName_cell I.ok.kind hk hc hcell fin) hd
  ·exact wpAny_Name (wpAny_loadName_free I.ok.kind hk hc hcell fin hcd) hd
theorem Z0c{i j pos}:PE X (.Constant (.int i) j pos) (tC (.int i)):=λ _ _ _ H _ I h=>wpAny_Constant_int ⟨.int i,H,I.tok _,⟨_,rfl⟩,h⟩
theorem Z9p{b j pos}:PE X (.Constant (.bool b) j pos) (tC (.bl b)):=λ _ _ _ H _ I h=>Constant_bool ⟨.bl b,H,I,rfl,h⟩
theorem Z7W{j pos}:PE X (.Constant .none j pos) (tC .non):=λ _ _ _ H _ I h=>Constant_none ⟨.non,H,I,rfl,h⟩
theorem Z0d{x j pos}:PE X (.Constant (.str x) j pos) (tC (.str x)):=λ _ _ _ H _ I h=>Calls.Constant_str ⟨.str x,H,I.tok _,⟨_,rfl⟩,h⟩
def Gl(X:Cx)(x:Z0):Prop:=X.env.kindOf x=some .globalImplicit
theorem Z2I{E:q0->X0->Prop}{pins:List (t0×Obj)}{s:X0}{σ:St}{H:Hp}{x:Z0}{u:q0}{pos:Pos}{Q:q0->X0->Prop}(I:Inv X pins σ H s)(hg:Gl X x)(hm:X.mg x=some u)(h:Q u s)(hd:(x==("__debug__":Z0))=false:=by decide):wpAny (model X.prog X.w) X.A (eval (.Name x pos) X.env) Q E s:=
 Calls.Name_function_global I.ok.kind hg (Calls.loadGlobal_global (by rw[I.ok.glob];exact I.mod.glob.keeps I.bk) hm h) hd
theorem Z8g{E:q0->X0->Prop}{pins:List (t0×Obj)}{s:X0}{σ:St}{H:Hp}{x:Z0}{u:q0}{pos:Pos}{Q:q0->X0->Prop}(I:Inv X pins σ H s)(hg:Gl X x)(hm:X.mg x=none)(hv:bootBuiltins x=some u)(h:Q u s)(hn:x≠"__name__":=by decide)(hd:(x==("__debug__":Z0))=false:=by decide):wpAny (model X.prog X.w) X.A (eval (.Name x pos) X.env) Q E s:=by
 obtain⟨mb,h1,h2⟩:=I.mod.blt;exact Calls.Name_function_global I.ok.kind hg (Calls.loadGlobal_builtin (by rw[I.ok.glob];exact I.mod.glob.keeps I.bk) hm (by rw[I.ok.blt];exact h1.keeps I.bk) ((h2 x hn).trans hv) h) hd
theorem Z4f{x:Z0}{v:V}{u:q0}{pos:Pos}(hg:Gl X x)(hm:X.mg x=some u)(r:RelV v u)(hd:(x==("__debug__":Z0))=false:=by decide):PE X (.Name x pos) (tC v):=
 λ _ _ _ H _ I h=>Z2I I hg hm ⟨v,H,I,r,h⟩ hd
theorem Z4u{x:Z0}{v:V}{u:q0}{pos:Pos}(hg:Gl X x)(hm:X.mg x=none)(hv:bootBuiltins x=some u)(r:RelV v u)(hn:x≠"__name__":=by decide)(hd:(x==("__debug__":Z0))=false:=by decide):PE X (.Name x pos) (tC v):=
 λ _ _ _ H _ I h=>Z8g I hg hm hv ⟨v,H,I,r,h⟩ hn hd
variable{a b:Expr}{ta tb:TE}{pos:Pos}
def PC(X:Cx)(op:CmpOp)(a b:Expr)(t:TE):Prop:=
 ∀(pins:List (t0×Obj))(s:X0)(σ:St)(H:Hp)(Q:VK),Inv X pins σ H s->t σ H Q->
  wpAny (model X.prog X.w) X.A (eval a X.env) (λ v s₁=>wpAny (model X.prog X.w) X.A (eval b X.env) (λ u s₂=>wpAny (model X.prog X.w) X.A (compareOp op v u) (EP X pins σ Q) X.xe s₂) X.xe s₁) X.xe s
theorem J2y(b:Expr){op:CmpOp}(h:op≠.In)(h2:op≠.NotIn):behindInMarks op b=false:=by
 have e1:(op==CmpOp.In)=false:=by cases op<;>first|rfl|exact absurd rfl h
 have e2:(op==CmpOp.NotIn)=false:=by cases op<;>first|rfl|exact absurd rfl h2
 cases b<;>simp[behindInMarks,e1,e2]
def tB(t:TE):TT:=λ σ H Q=>t σ H λ x H1=>∃c,x=.bl c/\Q c H1
theorem J5a{op:CmpOp}{t:TE}(h:PC X op a b t)(h1:behindInMarks op b=false:=by first|exact J2y _ qQ qQ|rfl):PT X (.Compare a [op] [b] pos) (tB t):=by
 intro pins s σ H Q I hw;refine wpAny_isTrue_Compare1 (thn (h pins s σ H _ I hw) λ v s1 h1=>thn h1 λ u s2 h2=>thn h2 λ c s3 ⟨x,H1,I1,r1,q1⟩=>?_) h1;obtain⟨d,rfl,q⟩:=q1;cases r1;exact wpAny_truthy_bool ⟨H1,I1,q⟩
theorem Z0T{e:Expr}{t:TE}(h:PE X e t)(he:∀whole,isTrue e X.env whole=(do let v<-whole;standAt e.pos;holding [v] (truthy v)):=by intro _;rfl):PT X e (tB t):=by
 intro pins s σ H Q I hw;refine isTrue_plain (thn (h pins s σ H _ I hw) λ v s1 ⟨x,H1,I1,r1,q1⟩=>?_) (he _);obtain⟨d,rfl,q⟩:=q1;cases r1;exact wpAny_truthy_bool ⟨H1,I1,q⟩
variable{tA tB':TT}{rest:List Expr}
def tAnd(t u:TT):TT:=λ σ H Q=>t σ H λ c H1=>if c=true then u σ H1 Q else Q false H1
def tOr(t u:TT):TT:=λ σ H Q=>t σ H λ c H1=>if c=true then Q true H1 else u σ H1 Q
def tNot(t:TT):TT:=λ σ H Q=>t σ H λ c H1=>Q (!c) H1
theorem Z7I(ha:PT X a tA):PW X (.BoolOp .And [a] pos) tA:=by
 intro wh pins s σ H Q I h;refine isTrue_and (thn (ha pins s σ H Q I h) λ c s1 e=>?_);cases c with
 |true=>exact isTrue_and_nil e
 |false=>exact e
theorem Z7S(ha:PT X a tA):PW X (.BoolOp .Or [a] pos) tA:=by
 intro wh pins s σ H Q I h;refine isTrue_or (thn (ha pins s σ H Q I h) λ c s1 e=>?_);cases c with
 |false=>exact isTrue_or_nil e
 |true=>exact e
theorem J1d(ha:PT X a tA)(hb:PW X (.BoolOp .And (b::rest) pos) tB'):PW X (.BoolOp .And (a::b::rest) pos) (tAnd tA tB'):=by
 intro wh pins s σ H Q I h;refine isTrue_and (thn (ha pins s σ H _ I h) λ c s1 ⟨H1,I1,q1⟩=>?_);cases c with
 |true=>exact hb wh pins s1 σ H1 Q I1 q1
 |false=>exact⟨H1,I1,q1⟩
theorem J2q(ha:PT X a tA)(hb:PW X (.BoolOp .Or (b::rest) pos) tB'):PW X (.BoolOp .Or (a::b::rest) pos) (tOr tA tB'):=by
 intro wh pins s σ H Q I h;refine isTrue_or (thn (ha pins s σ H _ I h) λ c s1 ⟨H1,I1,q1⟩=>?_);cases c with
 |true=>exact⟨H1,I1,q1⟩
 |false=>exact hb wh pins s1 σ H1 Q I1 q1
theorem Z4T(ha:PT X a tA):PT X (.UnaryOp .Not a pos) (tNot tA):=by
 intro pins s σ H Q I h;exact isTrue_not (ha pins s σ H (λ c H1=>Q (!c) H1) I h)
def J6d(ta tb:TE):TE:=λ σ H Q=>ta σ H λ x H1=>∃c,x=.bl c/\if c=true then tb σ H1 Q else Q (.bl false) H1
def tOrV(ta tb:TE):TE:=λ σ H Q=>ta σ H λ x H1=>∃c,x=.bl c/\if c=true then Q (.bl true) H1 else tb σ H1 Q
def J6r(ta:TE):TE:=λ σ H Q=>ta σ H λ x H1=>∃c,x=.bl c/\Q (.bl (!c)) H1
theorem Z3O{op}{t:TE}(h:PE X a t):PE X (.BoolOp op [a] pos) t:=λ pins s σ H Q I hw=>BoolOp_one (h pins s σ H Q I hw)
theorem Z7J(ha:PE X a ta)(hb:PE X (.BoolOp .And (b::rest) pos) tb):PE X (.BoolOp .And (a::b::rest) pos) (J6d ta tb):=by
 intro pins s σ H Q I h;refine BoolOp_and (thn (ha pins s σ H _ I h) λ v s1 ⟨x,H1,I1,r1,q1⟩=>?_);obtain⟨c,rfl,q1⟩:=q1;cases r1;refine wpAny_truthy_bool ?_;cases c with
 |true=>exact hb pins s1 σ H1 Q I1 q1
 |false=>exact⟨.bl false,H1,I1,rfl,q1⟩
theorem Z6O(ha:PE X a ta)(hb:PE X (.BoolOp .Or (b::rest) pos) tb):PE X (.BoolOp .Or (a::b::rest) pos) (tOrV ta tb):=by
 intro pins s σ H Q I h;refine BoolOp_or (thn (ha pins s σ H _ I h) λ v s1 ⟨x,H1,I1,r1,q1⟩=>?_);obtain⟨c,rfl,q1⟩:=q1;cases r1;refine wpAny_truthy_bool ?_;cases c with
 |false=>exact hb pins s1 σ H1 Q I1 q1
 |true=>exact⟨.bl true,H1,I1,rfl,q1⟩
theorem Z8d(ha:PE X a ta):PE X (.UnaryOp .Not a pos) (J6r ta):=by
 intro pins s σ H Q I h;refine UnaryOp_ (thn (ha pins s σ H _ I h) λ v s1 ⟨x,H1,I1,r1,q1⟩=>?_);obtain⟨c,rfl,q1⟩:=q1;cases r1;exact not_of (wpAny_truthy_bool ⟨.bl (!c),H1,I1,rfl,q1⟩)
end
end L2
namespace L2
open PySem PySem.Spec PyProof.Rows
def SqL(K:y0)(H:Hp)(a:t0)(xs:List V):Prop:=
 Rd H a (.lst xs)\/
  ∃(o:Obj)(its:Array q0)(n:Nat),K.lookup a=some o/\o.cls=.type "list"/\o.dict=none/\o.data=.seq its n/\its.size<=sizeLine/\Vals xs its.toList
def SqT(K:y0)(H:Hp)(a:t0)(xs:List V):Prop:=
 Rd H a (.tup xs)\/
  ∃(o:Obj)(its:Array q0)(n:Nat),K.lookup a=some o/\(o.cls=.type "tuple"/\o.dict=none)/\o.data=.seq its n/\its.size<=sizeLine/\Vals xs its.toList
def absV:q0->Option V
 | .none=>some .non
 | .bool b=>some (.bl b)
 | .int i _=>some (.int i)
 | .str x _=>some (.str x)
 | .bytes b _=>some (.byt b)
 | .float b _=>some (.flt b)
 | .ref a=>some (.ref a)
 | .type n=>some (.ty n)
 |_=>none
theorem RelV.abs{x:V}{u:q0}(r:RelV x u):absV u=some x:=by
 cases x with
 |non=>cases r;rfl
 |bl _=>cases r;rfl
 |int _=>obtain⟨t,rfl⟩:=r;rfl
 |str _=>obtain⟨t,rfl⟩:=r;rfl
 |byt _=>obtain⟨t,rfl⟩:=r;rfl
 |flt _=>obtain⟨t,rfl⟩:=r;rfl
 |ref _=>cases r;rfl
 |ty _=>cases r;rfl
theorem RelV.inj{x y:V}{u:q0}(r:RelV x u)(q:RelV y u):x=y:=qd0 (r.abs.symm.trans q.abs)
theorem Vals.inj:∀{xs ys:List V}{us:List q0},Vals xs us->Vals ys us->xs=ys
 |_,_,_,.nil,.nil=>rfl
 |_,_,_,.cons r t,.cons r' t'=>by rw[r.inj r',Vals.inj t t']
section
variable{X:Cx}{pins:List (t0×Obj)}{σ:St}{H:Hp}{s:X0}{a:t0}{xs ys:List V}
theorem SqL.of{K:y0}(h:H a=some (.lst xs)):SqL K H a xs:=.inl (.inl h)
theorem SqT.of{K:y0}(h:H a=some (.tup xs)):SqT K H a xs:=.inl (.inl h)
theorem Inv.list(I:Inv X pins σ H s)(h:SqL X.K H a xs):∃its:List q0,Vals xs its/\PlainL s.heap a its.toArray/\xs.length<=sizeLine:=by
 rcases h with h|⟨o,its,n,hk,hc,hd,hs,hz,r⟩
 ·obtain⟨z,its,n,r,e⟩:=h.ok I.hok;exact⟨its,r,⟨_,n,e,rfl,rfl,rfl⟩,z⟩
 ·refine⟨its.toList,r,⟨o,n,I.kIn a o hk,hc,hd,by simpa using hs⟩,?_⟩;have e:=r.length;simp only[qf8]at e;lia
theorem Inv.tuple(I:Inv X pins σ H s)(h:SqT X.K H a xs):∃its:List q0,Vals xs its/\IsTup s.heap a its.toArray/\xs.length<=sizeLine:=by
 rcases h with h|⟨o,its,n,hk,hc,hs,hz,r⟩
 ·obtain⟨z,its,r,p⟩:=h.ok I.hok;exact⟨its,r,p,z.1⟩
 ·refine⟨its.toList,r,⟨o,I.kIn a o hk,hc.1,n,by simpa using hs⟩,?_⟩;have e:=r.length;simp only[qf8]at e;lia
theorem Inv.list_inj(I:Inv X pins σ H s)(h:SqL X.K H a xs)(h':SqL X.K H a ys):xs=ys:=by
 obtain⟨its,r,⟨o,n,e,_,_,d⟩,_⟩:=I.list h;obtain⟨its',r',⟨o',n',e',_,_,d'⟩,_⟩:=I.list h';rw[e]at e';cases e';rw[d]at d';injection d' with d1 _
 have:its=its':=by simpa using congrArg Array.toList d1
 subst this;exact r.inj r'
theorem Inv.tuple_inj(I:Inv X pins σ H s)(h:SqT X.K H a xs)(h':SqT X.K H a ys):xs=ys:=by
 obtain⟨its,r,⟨o,e,_,n,d⟩,_⟩:=I.tuple h;obtain⟨its',r',⟨o',e',_,n',d'⟩,_⟩:=I.tuple h';rw[e]at e';cases e';rw[d]at d';injection d' with d1 _
 have:its=its':=by simpa using congrArg Array.toList d1
 subst this;exact r.inj r'
end
abbrev Cx.wish(X:Cx)(E:q0->X0->Prop):Cx:={X with xe:=E}
abbrev Cx.nox(X:Cx):Cx:=X.wish λ _ _=>False
theorem Cx.Ok.wish{X:Cx}(ok:X.Ok)(E:q0->X0->Prop):(X.wish E).Ok:=
 ⟨ok.mod,ok.kind,ok.glob,ok.blt,ok.above,ok.inj,ok.has,ok.cab,ok.hd,ok.frames,ok.stk,ok.exf,ok.bs,ok.bsz,ok.noex,ok.exfs,ok.funs,ok.frf⟩
theorem Cx.Ok.unwish{X:Cx}{E:q0->X0->Prop}(ok:(X.wish E).Ok):X.Ok:=
 ⟨ok.mod,ok.kind,ok.glob,ok.blt,ok.above,ok.inj,ok.has,ok.cab,ok.hd,ok.frames,ok.stk,ok.exf,ok.bs,ok.bsz,ok.noex,ok.exfs,ok.funs,ok.frf⟩
section
variable{X:Cx}{pins:List (t0×Obj)}{σ:St}{H:Hp}{s:X0}{E:q0->X0->Prop}
theorem Inv.wish(I:Inv X pins σ H s)(E:q0->X0->Prop):Inv (X.wish E) pins σ H s:=⟨I.ok.wish E,I.os,I.bare,I.base,I.loc,I.cell,I.free,I.freeC,I.pin,I.hok,I.len⟩
theorem Inv.unwish(I:Inv (X.wish E) pins σ H s):Inv X pins σ H s:=⟨I.ok.unwish,I.os,I.bare,I.base,I.loc,I.cell,I.free,I.freeC,I.pin,I.hok,I.len⟩
theorem SP.unwish{D:Ends}{f:Flow}{s':X0}(h:SP (X.wish E) pins D f s'):SP X pins D f s':=by
 cases f with
 |next=>obtain⟨σ',H',I,q⟩:=h;exact⟨σ',H',I.unwish,q⟩
 |brk=>obtain⟨σ',H',I,q⟩:=h;exact⟨σ',H',I.unwish,q⟩
 |cont=>obtain⟨σ',H',I,q⟩:=h;exact⟨σ',H',I.unwish,q⟩
 |ret u=>obtain⟨v,σ',H',I,r,q⟩:=h;exact⟨v,σ',H',I.unwish,r,q⟩
theorem PSs.nox{st:List Stmt}{t:TS}(h:PSs X.nox st t):PSs X st t:=λ pins s σ H D I hw=>
 wpAny_mono (h pins s σ H D (I.wish _) hw) (λ _ _ q=>q.unwish) λ _ _ z=>False.elim z
end
section
variable{X:Cx}{st:Stmt}{rest:List Stmt}{t u:TS}{e:Expr}{te:TE}{pos:Pos}
def J6l:TS:=λ D σ H=>D.nx σ H
def tSeq(t u:TS):TS:=λ D σ H=>t {D with nx:=u D} σ H
theorem Z0m:PSs X [] J6l:=λ _ _ σ H _ I h=>wpAny_execs_nil ⟨σ,H,I,h⟩
theorem Z0a(h1:PS X st t)(h2:PSs X rest u):PSs X (st::rest) (tSeq t u):=by
 intro pins s σ H D I h;refine wpAny_execs_cons (thn (h1 pins s σ H {D with nx:=u D} I h) λ f s1 q=>?_);cases f with
 |next=>
  obtain⟨σ',H',I',q⟩:=q;exact h2 pins s1 σ' H' D I' q
 |ret v=>exact q
 |brk=>exact q
 |cont=>exact q
theorem Z0b(h1:PS X st t):PSs X [st] t:=by
 intro pins s σ H D I h;refine wpAny_execs_cons (thn (h1 pins s σ H D I h) λ f s1 q=>?_);cases f with
 |next=>exact wpAny_execs_nil q
 |ret v=>exact q
 |brk=>exact q
 |cont=>exact q
theorem Inv.quiet{pins:List (t0×Obj)}{σ:St}{H:Hp}{s:X0}(I:Inv X pins σ H s):interactive X.env=false:=by simp[interactive,I.ok.kind]
def J4g(te:TE):TS:=λ D σ H=>te σ H λ _ H1=>D.nx σ H1
theorem Z0w(he:PE X e te)(hs:swapsWith e none pos.line X.env=pure false:=by rfl):PS X (.Expr e pos) (J4g te):=by
 intro pins s σ H D I h;exact wpAny_Expr_any (thn (he pins s σ H _ I h) λ v s1 ⟨x,H1,I1,r1,q1⟩=>⟨σ,H1,I1,q1⟩) I.quiet hs
def tRet(te:TE):TS:=λ D σ H=>te σ H D.rt
theorem Z0l(he:PE X e te):PS X (.Return (some e) pos) (tRet te):=by
 intro pins s σ H D I h;exact wpAny_Return_some (thn (he pins s σ H _ I h) λ v s1 ⟨x,H1,I1,r1,q1⟩=>⟨x,σ,H1,I1,r1,q1⟩)
def tIfS(c:TT)(t u:TS):TS:=λ D σ H=>c σ H λ b H1=>if b=true then t D σ H1 else u D σ H1
theorem Z0r{c:Expr}{a b:List Stmt}{tc:TT}(hc:PT X c tc)(ha:PSs X a t)(hb:PSs X b u):PS X (.If c a b pos) (tIfS tc t u):=by
 intro pins s σ H D I h;refine wpAny_If (thn (hc pins s σ H _ I h) λ d s1 ⟨H1,I1,q1⟩=>?_);cases d with
 |true=>exact ha pins s1 σ H1 D I1 q1
 |false=>exact hb pins s1 σ H1 D I1 q1
end
abbrev TG:=V->St->Hp->(St->Hp->Prop)->Prop
abbrev TGs:=List V->St->Hp->(St->Hp->Prop)->Prop
def PG(X:Cx)(target:Expr)(t:TG):Prop:=
 ∀(pins:List (t0×Obj))(s:X0)(σ:St)(H:Hp)(v:V)(u:q0)(Q:St->Hp->Prop),Inv X pins σ H s->RelV v u->t v σ H Q->
  wpAny (model X.prog X.w) X.A (assign target X.env u) (λ _ s'=>∃σ' H',Inv X pins σ' H' s'/\Q σ' H') X.xe s
def PGs(X:Cx)(ts:List Expr)(t:TGs):Prop:=
 ∀(pins:List (t0×Obj))(s:X0)(σ:St)(H:Hp)(vs:List V)(us:List q0)(Q:St->Hp->Prop),Inv X pins σ H s->Vals vs us->t vs σ H Q->
  wpAny (model X.prog X.w) X.A (assignInOrder ((assignEach ts X.env).map (·.2)) us) (λ _ s'=>∃σ' H',Inv X pins σ' H' s'/\Q σ' H') X.xe s
abbrev TSet:=V->V->V->Hp->(Hp->Prop)->Prop
abbrev TIp:=V->V->Hp->VK->Prop
def PIp(X:Cx)(op:Operator)(t:TIp):Prop:=
 ∀(pins:List (t0×Obj))(s:X0)(σ:St)(H:Hp)(x y:V)(v u:q0)(Q:VK),Inv X pins σ H s->RelV x v->RelV y u->t x y H Q->
  wpAny (model X.prog X.w) X.A (inplaceOp op v u) (EP X pins σ Q) X.xe s
section
variable{X:Cx}{pos:Pos}
def Z4x(i:Nat):TG:=λ v σ H Q=>Q (σ.set i (some v)) H
theorem Z7o{i:Nat}{x:Z0}(hN:X.N.Nodup)(hi:X.N[i]?=some x)(hx:Loc X.env.scope x)(hf:X.fn x=true\/X.env.scope.names.lookup x=some .local:=by first|exact .inl rfl|exact .inr rfl|assumption):PG X (.Name x pos) (Z4x i):=by
 intro pins s σ H v u Q I r h;exact wpAny_assign_Name (Z3V I hN hi hx r (λ s' I'=>⟨_,H,I',h⟩) hf)
def gNil:TGs:=λ vs σ H Q=>vs=[]/\Q σ H
def J5L(t:TG)(u:TGs):TGs:=λ vs σ H Q=>∃v r,vs=v::r/\t v σ H λ σ' H'=>u r σ' H' Q
theorem Z7m:PGs X [] gNil:=by
 intro pins s σ H vs us Q I r h;obtain⟨e,h⟩:=h;subst e;cases r;exact assignInOrder_nil ⟨σ,H,I,h⟩
theorem J3c{e:Expr}{es:List Expr}{t:TG}{u:TGs}(h1:PG X e t)(h2:PGs X es u)(hs:(assignEach (e::es) X.env).map (·.2)=assign e X.env::(assignEach es X.env).map (·.2):=by rfl):PGs X (e::es) (J5L t u):=by
 intro pins s σ H vs us Q I r h;obtain⟨v,vr,e1,h⟩:=h;subst e1;cases r with
 |cons r rr=>
  rw[hs];refine assignInOrder_cons (thn (h1 pins s σ H _ _ _ I r h) λ _ s1 ⟨σ1,H1,I1,q1⟩=>?_);exact h2 pins s1 σ1 H1 _ _ Q I1 rr q1
def gTup(K:y0)(n:Nat)(t:TGs):TG:=λ v σ H Q=>∃a xs,v=.ref a/\SqT K H a xs/\xs.length=n/\t xs σ H Q
theorem J5u{es:List Expr}{k:Nat}{t:TGs}{n:Nat}(hc:X.calm=true)(h:PGs X es t)(hn:(assignEach es X.env).length=n:=by rfl)(hst:(assignEach es X.env).findIdx? (·.1)=none:=by rfl):PG X (.Tuple es k pos) (gTup X.K n t):=by
 intro pins s σ H v u Q I r hw;obtain⟨a,xs,e1,hq,hl,hw⟩:=hw;subst e1;cases r;obtain⟨its,rv,ht,hz⟩:=I.tuple hq;refine assign_Tuple_tuple (I.ok.hd hc) ht (by simp[hn,<-hl,rv.length]) hst λ h' hx=>?_;have I1:Inv X pins σ H {s with heap:=h'}:=I.kept (t':=s.toks) λ b o e=>hx b o (qa9 (Heap.lt_size e)) e;exact h pins _ σ H xs _ Q I1 (by simpa using rv) hw
def tAsg(te:TE)(g:TG):TS:=λ D σ H=>te σ H λ x H1=>g x σ H1 D.nx
theorem J3v{tg e:Expr}{te:TE}{g:TG}(he:PE X e te)(hg:PG X tg g)(hs:swapsWithSole [tg] e pos.line X.env=pure false:=by rfl)(hw:swappedStores [tg] e X.env=pure none:=by rfl)(h1:(assignEach [tg] X.env).map (·.2)=[assign tg X.env]:=by rfl):PS X (.Assign [tg] e pos) (tAsg te g):=by
 intro pins s σ H D I h;refine wpAny_Assign_stores (thn (he pins s σ H _ I h) λ v s1 ⟨x,H1,I1,r1,q1⟩=>?_) hs hw;rw[h1];exact thn (hg pins s1 σ H1 x v _ I1 r1 q1) λ _ s2 q=>q
theorem J5J{i:Nat}{x:Z0}{e:Expr}{te:TE}{pos':Pos}(hN:X.N.Nodup)(hi:X.N[i]?=some x)(hx:Loc X.env.scope x)(he:PE X e te)(hs:swapsWith e (some (.Name x pos')) pos.line X.env=pure false:=by rfl)(hf:X.fn x=true\/X.env.scope.names.lookup x=some .local:=by first|exact .inl rfl|exact .inr rfl|assumption):PS X (.Assign [.Name x pos'] e pos) (tAsg te (Z4x i)):=by
 intro pins s σ H D I h;refine wpAny_Assign_Name (thn (he pins s σ H _ I h) λ v s1 ⟨y,H1,I1,r1,q1⟩=>?_) hs;exact Z3V I1 hN hi hx r1 (λ s2 I2=>⟨_,H1,I2,q1⟩) hf
def tAug(i:Nat)(te:TE)(ti:TIp):TS:=λ D σ H=>∃x,σ[i]?=some (some x)/\te σ H λ y H1=>ti x y H1 λ z H2=>D.nx (σ.set i (some z)) H2
theorem Z6x{i:Nat}{x:Z0}{e:Expr}{te:TE}{op:Operator}{ti:TIp}{pos':Pos}(hN:X.N.Nodup)(hi:X.N[i]?=some x)(hx:Loc X.env.scope x)(he:PE X e te)(ho:PIp X op ti)(hf:X.fn x=true\/X.env.scope.names.lookup x=some .local:=by first|exact .inl rfl|exact .inr rfl|assumption):PS X (.AugAssign (.Name x pos') op e pos) (tAug i te ti):=by
 intro pins s σ H D I h;obtain⟨v,e1,h⟩:=h;obtain⟨m,hn,hl⟩:=I.loc;have vis:Vis X.env.scope x:=by rcases hx with k|k;exact .inl k;exact .inr (.inl k)
 obtain⟨u,r,l⟩:=hl i x v hi e1 vis;refine wpAny_AugAssign_Name ?_;have go:wpAny (model X.prog X.w) X.A (eval e X.env) (λ w s₂=>wpAny (model X.prog X.w) X.A (inplaceOp op u w) (λ r s₃=>wpAny (model X.prog X.w) X.A (storeName X.env x r) (λ _=>SP X pins D .next) X.xe s₃) X.xe s₂) X.xe s:=by
  refine thn (he pins s σ H _ I h) λ w s1 ⟨y,H1,I1,r1,q1⟩=>?_;refine thn (ho pins s1 σ H1 v y u w _ I1 r r1 q1) λ z s2 ⟨zv,H2,I2,r2,q2⟩=>?_;exact Z3V I2 hN hi hx r2 (λ s3 I3=>⟨_,H2,I3,q2⟩) hf
 rcases l with⟨hk,hm⟩|⟨hk,c,hc,hcell⟩
 ·exact wpAny_loadName_local I.ok.kind hk hn hm go
 ·rcases hk with hk|hk
  ·exact wpAny_loadName_cell I.ok.kind hk hc hcell go
  ·rcases hx with k|k
   ·have:X.env.scope.names.lookup x=some .free:=hk;rw[k]at this;cases this
   ·have:X.env.scope.names.lookup x=some .free:=hk;rw[k]at this;cases this
def ipI(f:Int->Int->Int):TIp:=λ x y H Q=>∃i j,x=.int i/\y=.int j/\Q (.int (f i j)) H
theorem Z8l:PIp X .Add (ipI λ i j=>i+j):=by
 intro pins s σ H x y v u Q I r1 r2 h;obtain⟨i,j,e1,e2,q⟩:=h;subst e1;subst e2;obtain⟨t,rfl⟩:=r1;obtain⟨t',rfl⟩:=r2;exact iadd_int ⟨.int _,H,I.tok _,⟨_,rfl⟩,q⟩
theorem J5x:PIp X .Sub (ipI λ i j=>i-j):=by
 intro pins s σ H x y v u Q I r1 r2 h;obtain⟨i,j,e1,e2,q⟩:=h;subst e1;subst e2;obtain⟨t,rfl⟩:=r1;obtain⟨t',rfl⟩:=r2;exact isub_int ⟨.int _,H,I.tok _,⟨_,rfl⟩,q⟩
end
section
variable{X:Cx}{pos:Pos}
def J3F(c:TT)(tb:TS):TS:=λ D σ H=>∃W:Nat->St->Hp->Prop,(∃m,W m σ H)/\∀m σ H,W m σ H->
 c σ H λ b H1=>if b=true then ∃N:St->Hp->Prop,(∀σ' H',N σ' H'->∃m',m'<m/\W m' σ' H')/\tb {D with nx:=N,ct:=N,bk:=D.nx} σ H1 else D.nx σ H1
theorem Z1Y{c:Expr}{body:List Stmt}{tc:TT}{tb:TS}(hp:PassesOwn (model X.prog X.w) X.A X.env X.xe)(hc:PT X c tc)(hb:PSs X body tb):PS X (.While c body [] pos) (J3F tc tb):=by
 intro pins s σ H D I h;obtain⟨W,⟨m0,w0⟩,turn⟩:=h;refine wpAny_While (codeAny_whileLoop (λ n s'=>∃σ' H',Inv X pins σ' H' s'/\W n σ' H') ?_ m0 ⟨σ,H,I,w0⟩);rintro n s1 ⟨σ1,H1,I1,w1⟩;refine wpAny_passesOwn hp (thn (hc pins s1 σ1 H1 _ I1 (turn n σ1 H1 w1)) λ b s2 ⟨H2,I2,q2⟩=>?_);cases b with
 |true=>
  obtain⟨N,hN,q2⟩:=q2;rw[if_pos rfl];refine wpAny_passesOwn hp (thn (hb pins s2 σ1 H2 _ I2 q2) λ f s3 q3=>?_);cases f with
  |next=>
   obtain⟨σ3,H3,I3,n3⟩:=q3;obtain⟨m',hm,w3⟩:=hN σ3 H3 n3;exact⟨m',hm,σ3,H3,I3,w3⟩
  |cont=>
   obtain⟨σ3,H3,I3,n3⟩:=q3;obtain⟨m',hm,w3⟩:=hN σ3 H3 n3;exact⟨m',hm,σ3,H3,I3,w3⟩
  |brk=>exact q3
  |ret v=>exact q3
 |false=>
  rw[if_neg qa3];exact wpAny_execs_nil ⟨σ1,H2,I2,q2⟩
end
structure It where
 go:Nat->Hp->Prop
 yld:Nat->Hp->V->Hp->Prop
 stop:Nat->Hp->Prop
def FpOk(X:Cx)(pins:List (t0×Obj))(H:Hp)(b:t0):Prop:=
 H b=none/\b≠X.env.locals/\b∉X.fs/\(b∈X.ex\/X.s₀.heap.objs.size<=b)/\(∀x c,X.env.cells.lookup x=some c->c≠b)/\∀p∈X.pn++pins,p.1≠b
theorem Inv.fpOk{X:Cx}{pins:List (t0×Obj)}{σ:St}{H H':Hp}{s:X0}{b:t0}(I:Inv X pins σ H s)(hb:s.heap.objs.size<=b)(hn:H' b=none):FpOk X pins H' b:=by
 refine⟨hn,qd9 (qa5 I.lt hb),I.nofs hb,.inr (qa1 I.sz hb),λ x c e z=>?_,λ p hp z=>?_⟩
 ·obtain⟨v,q⟩:=I.cell x c e;exact absurd (qa5 q.lt (by rw[z];exact hb)) (qb1 _)
 ·exact absurd (qa5 (Heap.lt_size (I.pin p hp).1) (by rw[z];exact hb)) (qb1 _)
structure Turn(P:Program)(w:U0)(K:y0)(tg:Expr)(J:It)(fp:List t0)(it:t0)(tn:Nat->V0->Prop):Prop where
 mem:it∈fp
 obj:∀i h,tn i h->∀b∈fp,∃o,h.get? b=some o/\∀v,o.data≠.cell v
 keep:∀i h h',tn i h->(∀b∈fp,∀o,h.get? b=some o->h'.get? b=some o)->tn i h'
 item:∀(X:Cx),X.prog=P->X.w=w->X.K=K->X.calm=true->∀(i:Nat)(pins:List (t0×Obj))(s:X0)(σ:St)(H:Hp)(E:q0->X0->Prop),Inv X pins σ H s->(∀b∈fp,FpOk X pins H b)->tn i s.heap->J.go i H->
  wpAny (model P w) X.A (pyNext (.ref it)) (λ r s1=>∃u,r=some u/\wpAny (model P w) X.A (letOwnedTupleGo tg (.ref it) u) (λ _ s2=>∃x H',Inv X pins σ H' s2/\RelV x u/\J.yld i H x H'/\tn (i+1) s2.heap/\∀b∈fp,H' b=none) E s1) E s
 done:∀(X:Cx),X.prog=P->X.w=w->X.K=K->X.calm=true->∀(i:Nat)(pins:List (t0×Obj))(s:X0)(σ:St)(H:Hp)(E:q0->X0->Prop),Inv X pins σ H s->(∀b∈fp,FpOk X pins H b)->tn i s.heap->J.stop i H->
  wpAny (model P w) X.A (pyNext (.ref it)) (λ r s1=>r=none/\Inv X pins σ H s1) E s
 self:∀(A:M0)(i:Nat)(s:X0)(Q:q0->X0->Prop)(E:q0->X0->Prop),tn i s.heap->Q (.ref it) s->wpAny (model P w) A (pyIter (.ref it)) Q E s
abbrev TI:=St->Hp->(It->Hp->Prop)->Prop
def PIE(X:Cx)(pins:List (t0×Obj))(σ:St)(tg:Expr)(R:It->Hp->Prop)(itv:q0)(s2:X0):Prop:=
 ∃(it:t0)(fp:List t0)(tn:Nat->V0->Prop)(J:It)(H':Hp),itv=.ref it/\Inv X pins σ H' s2/\Turn X.prog X.w X.K tg J fp it tn/\tn 0 s2.heap/\(∀b∈fp,FpOk X pins H' b)/\R J H'
def PI(X:Cx)(tg iter:Expr)(wi:TI):Prop:=
 ∀(pins:List (t0×Obj))(s:X0)(σ:St)(H:Hp)(R:It->Hp->Prop),Inv X pins σ H s->wi σ H R->
  wpAny (model X.prog X.w) X.A (eval iter X.env) (λ v s1=>wpAny (model X.prog X.w) X.A (pyIter v) (PIE X pins σ tg R) X.xe s1) X.xe s
theorem J3T{M:Model}{A:M0}{E:q0->X0->Prop}{s:X0}{tg:Expr}{it:t0}{u:q0}{o:Obj}{n:String}{vs:Array q0}{Q:Unit->X0->Prop}(ho:s.heap.get? it=some o)(hc:o.cls=.type n)(hd:o.data=.fields vs)(hn:["enumerate","zip","dict_itemiterator","dict_reverseitemiterator","odict_iterator","itertools.zip_longest","itertools.pairwise"].contains n=false)(hQ:Q () s):wpAny M A (letOwnedTupleGo tg (.ref it) u) Q E s:=by
  unfold letOwnedTupleGo;cases tg <;> first
    |exact wpAny_pure hQ
    | (cases u <;> first
        |exact wpAny_pure hQ
        | (refine wpAny_bind (wpAny_load ho ?_)
           rw[hc,hd];show wpAny M A (if(["enumerate","zip","dict_itemiterator","dict_reverseitemiterator","odict_iterator","itertools.zip_longest","itertools.pairwise"].contains n&&vs[0]?==some (rawInt _))=true then _ else _) Q E s;rw[if_neg (by intro h;rw[hn,Bool.false_and]at h;cases h)];exact wpAny_pure hQ))
def Itl(K:y0)(a:t0):It:=
 ⟨λ i H=>∃xs x,SqL K H a xs/\xs[i]?=some x,λ i H x H'=>H'=H/\∀xs,SqL K H a xs->xs[i]?=some x,λ i H=>∃xs,SqL K H a xs/\xs.length<=i⟩
def Itt(K:y0)(a:t0):It:=
 ⟨λ i H=>∃xs x,SqT K H a xs/\xs[i]?=some x,λ i H x H'=>H'=H/\∀xs,SqT K H a xs->xs[i]?=some x,λ i H=>∃xs,SqT K H a xs/\xs.length<=i⟩
def Itr(lo:Int)(n:Nat):It:=⟨λ i _=>i<n,λ i H x H'=>H'=H/\x=.int (lo+i),λ i _=>n<=i⟩
theorem J0Y{P:Program}{w:U0}{K:y0}{tg:Expr}(a it:t0):Turn P w K tg (Itl K a) [it] it (λ i h=>h.IsListIter it a i)where
 mem:=by simp
 obj:=λ i h st b hb=>by
  have e:b=it:=by simpa using hb
  subst e;obtain⟨o,e,c,d⟩:=st;exact⟨o,e,λ v z=>by rw[d]at z;cases z⟩
 keep:=λ i h h' st k=>st.at λ o e=>k it (by simp) o e
 item:=by
  intro X hP hw hK hc i pins s σ H E I hf st hg;subst hP hw hK;obtain⟨xs,x,hq,hx⟩:=hg;obtain⟨its,rv,p,hz⟩:=I.list hq;obtain⟨u,hu,ru⟩:=rv.get hx;obtain⟨f0,f1,f2,f3,f4,f5⟩:=hf it (by simp);refine wpAny_pyNext_list_item st p.isList (x:=u) (by simpa using hu) λ h' st' sb=>?_;have I1:Inv X pins σ H {s with heap:=h'}:=I.turned (t':=s.toks) (λ b o hb e=>(sb.2 b hb).trans e) f0 f1 f3 f4 f5;obtain⟨o,e,c,d⟩:=id st';exact⟨u,rfl,J3T (s:={s with heap:=h'}) e c d qQ ⟨x,H,I1,ru,⟨rfl,λ ys hy=>by rw[I.list_inj hy hq];exact hx⟩,st',λ b hb=>(hf b hb).1⟩⟩
 done:=by
  intro X hP hw hK hc i pins s σ H E I hf st hg;subst hP hw hK;obtain⟨xs,hq,hx⟩:=hg;obtain⟨its,rv,p,hz⟩:=I.list hq;obtain⟨f0,f1,f2,f3,f4,f5⟩:=hf it (by simp);have hl:=rv.length;exact wpAny_pyNext_list_end (I.ok.hd hc) st p.isList (by simp;lia) λ h' eb=>⟨rfl,I.turned (t':=s.toks) (λ b o hb e=>eb b o hb e) f0 f1 f3 f4 f5⟩
 self:=λ _ _ _ _ _ st h=>wpAny_pyIter_listiter st h
theorem Z9h{P:Program}{w:U0}{K:y0}{tg:Expr}(a it:t0):Turn P w K tg (Itt K a) [it] it (λ i h=>h.IsTupleIter it a i)where
 mem:=by simp
 obj:=λ i h st b hb=>by
  have e:b=it:=by simpa using hb
  subst e;obtain⟨o,e,c,d⟩:=st;exact⟨o,e,λ v z=>by rw[d]at z;cases z⟩
 keep:=λ i h h' st k=>st.at λ o e=>k it (by simp) o e
 item:=by
  intro X hP hw hK hc i pins s σ H E I hf st hg;subst hP hw hK;obtain⟨xs,x,hq,hx⟩:=hg;obtain⟨its,rv,p,hz⟩:=I.tuple hq;obtain⟨u,hu,ru⟩:=rv.get hx;obtain⟨f0,f1,f2,f3,f4,f5⟩:=hf it (by simp);refine wpAny_pyNext_tuple_item st (show s.heap.IsTuple a its.toArray from p) (x:=u) (by simpa using hu) λ h' st' sb=>?_;have I1:Inv X pins σ H {s with heap:=h'}:=I.turned (t':=s.toks) (λ b o hb e=>(sb.2 b hb).trans e) f0 f1 f3 f4 f5;obtain⟨o,e,c,d⟩:=id st';exact⟨u,rfl,J3T (s:={s with heap:=h'}) e c d qQ ⟨x,H,I1,ru,⟨rfl,λ ys hy=>by rw[I.tuple_inj hy hq];exact hx⟩,st',λ b hb=>(hf b hb).1⟩⟩
 done:=by
  intro X hP hw hK hc i pins s σ H E I hf st hg;subst hP hw hK;obtain⟨xs,hq,hx⟩:=hg;obtain⟨its,rv,p,hz⟩:=I.tuple hq;obtain⟨f0,f1,f2,f3,f4,f5⟩:=hf it (by simp);have hl:=rv.length;exact wpAny_pyNext_tuple_end (I.ok.hd hc) st (show s.heap.IsTuple a its.toArray from p) (by simp;lia) λ h' eb=>⟨rfl,I.turned (t':=s.toks) (λ b o hb e=>eb b o hb e) f0 f1 f3 f4 f5⟩
 self:=λ _ _ _ _ _ st h=>wpAny_pyIter_tupleiter st h
end L2
namespace L2
open PySem PySem.Spec PyProof.Rows
section
variable{X:Cx}{tg:Expr}
def J5N(K:y0)(tl:TE):TI:=λ σ H R=>tl σ H λ x H1=>∃a,x=.ref a/\(∃xs,SqL K H1 a xs)/\R (Itl K a) H1
def iTup(K:y0)(tl:TE):TI:=λ σ H R=>tl σ H λ x H1=>∃a,x=.ref a/\(∃xs,SqT K H1 a xs)/\R (Itt K a) H1
theorem Z5E{l:Expr}{tl:TE}(hl:PE X l tl):PI X tg l (J5N X.K tl):=by
 intro pins s σ H R I h;refine thn (hl pins s σ H _ I h) λ v s1 ⟨x,H1,I1,r1,q1⟩=>?_;obtain⟨a,e,⟨xs,hq⟩,q⟩:=q1;subst e;cases r1;obtain⟨its,rv,p,hz⟩:=I1.list hq;refine wpAny_pyIter_list p.isList ?_;refine⟨s1.heap.objs.size,[s1.heap.objs.size],_,_,H1,rfl,I1.kept (t':=s1.toks) λ b o e=>Heap.get?_push_of_some _ e,J0Y a _,⟨_,Heap.get?_push_size _ rfl,rfl,rfl⟩,λ b hb=>?_,q⟩;have e:b=s1.heap.objs.size:=by simpa using hb
 subst e;exact I1.fpOk (qa0 _) (I1.hok.fresh (qa0 _))
theorem Z4Y{l:Expr}{tl:TE}(hl:PE X l tl):PI X tg l (iTup X.K tl):=by
 intro pins s σ H R I h;refine thn (hl pins s σ H _ I h) λ v s1 ⟨x,H1,I1,r1,q1⟩=>?_;obtain⟨a,e,⟨xs,hq⟩,q⟩:=q1;subst e;cases r1;obtain⟨its,rv,p,hz⟩:=I1.tuple hq;refine wpAny_pyIter_tuple (show s1.heap.IsTuple a its.toArray from p) ?_;refine⟨s1.heap.objs.size,[s1.heap.objs.size],_,_,H1,rfl,I1.kept (t':=s1.toks) λ b o e=>Heap.get?_push_of_some _ e,Z9h a _,⟨_,Heap.get?_push_size _ rfl,rfl,rfl⟩,λ b hb=>?_,q⟩;have e:b=s1.heap.objs.size:=by simpa using hb
 subst e;exact I1.fpOk (qa0 _) (I1.hok.fresh (qa0 _))
def tFor(wi:TI)(g:TG)(tb:TS):TS:=λ D σ H=>wi σ H λ J H1=>∃W:Nat->Nat->St->Hp->Prop,(∃m,W 0 m σ H1)/\∀i m σ H,W i m σ H->
 (J.stop i H/\D.nx σ H)\/(J.go i H/\∃N:St->Hp->Prop,(∀σ' H',N σ' H'->∃m',m'<m/\W (i+1) m' σ' H')/\∀x H',J.yld i H x H'->g x σ H' λ σ2 H2=>tb {D with nx:=N,ct:=N,bk:=D.nx} σ2 H2)
def Z6M(fp:List t0)(h:V0):List (t0×Obj):=fp.filterMap λ b=>(h.get? b).map λ o=>(b,o)
theorem Z2R{fp:List t0}{h:V0}{b:t0}{o:Obj}(hb:b∈fp)(e:h.get? b=some o):(b,o)∈Z6M fp h:=List.mem_filterMap.mpr ⟨b,hb,by rw[e];rfl⟩
theorem J0p{fp:List t0}{h:V0}{p:t0×Obj}(hp:p∈Z6M fp h):p.1∈fp/\h.get? p.1=some p.2:=by
 obtain⟨b,hb,e⟩:=List.mem_filterMap.mp hp;cases q:h.get? b with
 |none=>rw[q]at e;cases e
 |some o=>
  rw[q]at e;have e':(b,o)=p:=qd0 e;subst e';exact⟨hb,q⟩
theorem Inv.pinned{pins:List (t0×Obj)}{σ:St}{H:Hp}{s:X0}{fp:List t0}(I:Inv X pins σ H s)(hf:∀b∈fp,FpOk X pins H b)(ho:∀b∈fp,∃o,s.heap.get? b=some o/\∀v,o.data≠.cell v):Inv X (pins++Z6M fp s.heap) σ H s:=
 I.pins_of λ p hp=>(qf1.mp hp).elim (λ z=>I.pin p (qc9 _ z)) λ z=>by
  obtain⟨hb,e⟩:=J0p z;obtain⟨f0,f1,f2,_⟩:=hf p.1 hb;obtain⟨o,e',d⟩:=ho p.1 hb;rw[e]at e';cases e';exact⟨e,f0,f1,f2,d⟩
theorem Inv.unpinned{pins pl:List (t0×Obj)}{σ:St}{H:Hp}{s:X0}(I:Inv X (pins++pl) σ H s):Inv X pins σ H s:=I.pins_of λ p hp=>I.pin p (qc9 _ (qh6 _ hp))
theorem J3H{iter:Expr}{body:List Stmt}{wi:TI}{g:TG}{tb:TS}{pos:Pos}(hp:PassesOwn (model X.prog X.w) X.A X.env X.xe)(hc:X.calm=true)(hi:PI X tg iter wi)(hg:PG X tg g)(hb:PSs X body tb)(hs:∀x,foldedSetIterable iter X.env x=pure x:=by intro _;rfl):PS X (.For tg iter body [] pos) (tFor wi g tb):=by
 intro pins s σ H D I h;refine wpAny_For (thn (hi pins s σ H _ I h) λ v s1 h1=>thn h1 λ itv s2 h2=>?_) hs;obtain⟨it,fp,tn,J,H2,e,I2,T,st2,f2,W,⟨m0,w0⟩,turn⟩:=h2;subst e
 --what stays true of the iterator's objects through the loop
 have stat:∀{H':Hp},(∀b∈fp,H' b=none)->∀b∈fp,FpOk X pins H' b:=λ hn b hb=>⟨hn b hb,(f2 b hb).2⟩;refine codeAny_forLoop_any (λ n s'=>∃i σ' H',Inv X pins σ' H' s'/\tn i s'.heap/\(∀b∈fp,H' b=none)/\W i n σ' H') ?_ m0 ⟨0,σ,H2,I2,st2,λ b hb=>(f2 b hb).1,w0⟩;rintro n s3 ⟨i,σ3,H3,I3,st3,fr3,w3⟩;rcases turn i n σ3 H3 w3 with⟨stop,qn⟩|⟨go,N,hN,step⟩
 ·refine wpAny_passesOwn hp (thn (T.done X rfl rfl rfl hc i pins s3 σ3 H3 X.xe I3 (stat fr3) st3 stop) λ r s4 ⟨hr,I4⟩=>?_);subst hr;exact wpAny_execs_nil ⟨σ3,H3,I4,qn⟩
 ·refine wpAny_passesOwn hp (thn (T.item X rfl rfl rfl hc i pins s3 σ3 H3 X.xe I3 (stat fr3) st3 go) λ r s4 ⟨u,hr,h4⟩=>?_);subst hr;refine wpAny_passesOwn hp (thn h4 λ _ s5 ⟨x,H5,I5,r5,y5,st5,fr5⟩=>?_);have I5':=I5.pinned (stat fr5) (T.obj _ _ st5);refine wpAny_passesOwn hp (thn (hg _ s5 σ3 H5 x u _ I5' r5 (step x H5 y5)) λ _ s6 ⟨σ6,H6,I6,q6⟩=>?_);refine wpAny_passesOwn hp (thn (hb _ s6 σ6 H6 _ I6 q6) λ f s7 q7=>?_);have again:∀{σ7:St}{H7:Hp},Inv X (pins++Z6M fp s5.heap) σ7 H7 s7->N σ7 H7->∃m,m<n/\∃i σ' H',Inv X pins σ' H' s7/\tn i s7.heap/\(∀b∈fp,H' b=none)/\W i m σ' H':=λ{σ7 H7} I7 n7=>by
   obtain⟨m',hm,w7⟩:=hN σ7 H7 n7;refine⟨m',hm,i+1,σ7,H7,I7.unpinned,T.keep _ _ _ st5 λ b hb o e=>(I7.pin (b,o) (qc9 _ (qc9 _ (Z2R hb e)))).1,λ b hb=>?_,w7⟩;obtain⟨o,e,d⟩:=T.obj _ _ st5 b hb;exact(I7.pin (b,o) (qc9 _ (qc9 _ (Z2R hb e)))).2.1
  cases f with
  |next=>obtain⟨σ7,H7,I7,n7⟩:=q7;exact again I7 n7
  |cont=>obtain⟨σ7,H7,I7,n7⟩:=q7;exact again I7 n7
  |brk=>obtain⟨σ7,H7,I7,q7⟩:=q7;exact⟨σ7,H7,I7.unpinned,q7⟩
  |ret v=>obtain⟨x7,σ7,H7,I7,r7,q7⟩:=q7;exact⟨x7,σ7,H7,I7.unpinned,r7,q7⟩
end
theorem J1L{K:y0}{a:t0}{xs:List V}{g:TG}{tb:TS}{D:Ends}{σ:St}{H:Hp}(Pv:Nat->St->Hp->Prop)(h0:Pv 0 σ H)(hl:∀i σ H,i<=xs.length->Pv i σ H->SqL K H a xs)(hs:∀i x σ H,xs[i]?=some x->Pv i σ H->g x σ H λ σ2 H2=>tb {D with nx:=Pv (i+1),ct:=Pv (i+1),bk:=D.nx} σ2 H2)(hd:∀σ H,Pv xs.length σ H->D.nx σ H):∃W:Nat->Nat->St->Hp->Prop,(∃m,W 0 m σ H)/\∀i m σ H,W i m σ H->((Itl K a).stop i H/\D.nx σ H)\/((Itl K a).go i H/\∃N:St->Hp->Prop,(∀σ' H',N σ' H'->∃m',m'<m/\W (i+1) m' σ' H')/\∀x H',(Itl K a).yld i H x H'->g x σ H' λ σ2 H2=>tb {D with nx:=N,ct:=N,bk:=D.nx} σ2 H2):=by
 refine⟨λ i m σ H=>m=xs.length-i/\i<=xs.length/\Pv i σ H,⟨xs.length,by simp,qb2 _,h0⟩,?_⟩;rintro i m σ H ⟨rfl,hi,p⟩;have q:=hl i σ H hi p;by_cases hlt:i<xs.length
 ·refine .inr ⟨⟨xs,xs[i],q,by simp[hlt]⟩,Pv (i+1),λ σ' H' p'=>⟨xs.length-(i+1),qR,rfl,hlt,p'⟩,λ x H' y=>?_⟩;obtain⟨e,y⟩:=y;subst e;exact hs i x σ _ (y xs q) p
 ·have e:i=xs.length:=by lia
  subst e;exact .inl ⟨⟨xs,q,qa0 _⟩,hd σ H p⟩
theorem J3S{K:y0}{a:t0}{xs:List V}{g:TG}{tb:TS}{D:Ends}{σ:St}{H:Hp}(Pv:Nat->St->Hp->Prop)(h0:Pv 0 σ H)(hl:∀i σ H,i<=xs.length->Pv i σ H->SqT K H a xs)(hs:∀i x σ H,xs[i]?=some x->Pv i σ H->g x σ H λ σ2 H2=>tb {D with nx:=Pv (i+1),ct:=Pv (i+1),bk:=D.nx} σ2 H2)(hd:∀σ H,Pv xs.length σ H->D.nx σ H):∃W:Nat->Nat->St->Hp->Prop,(∃m,W 0 m σ H)/\∀i m σ H,W i m σ H->((Itt K a).stop i H/\D.nx σ H)\/((Itt K a).go i H/\∃N:St->Hp->Prop,(∀σ' H',N σ' H'->∃m',m'<m/\W (i+1) m' σ' H')/\∀x H',(Itt K a).yld i H x H'->g x σ H' λ σ2 H2=>tb {D with nx:=N,ct:=N,bk:=D.nx} σ2 H2):=by
 refine⟨λ i m σ H=>m=xs.length-i/\i<=xs.length/\Pv i σ H,⟨xs.length,by simp,qb2 _,h0⟩,?_⟩;rintro i m σ H ⟨rfl,hi,p⟩;have q:=hl i σ H hi p;by_cases hlt:i<xs.length
 ·refine .inr ⟨⟨xs,xs[i],q,by simp[hlt]⟩,Pv (i+1),λ σ' H' p'=>⟨xs.length-(i+1),qR,rfl,hlt,p'⟩,λ x H' y=>?_⟩;obtain⟨e,y⟩:=y;subst e;exact hs i x σ _ (y xs q) p
 ·have e:i=xs.length:=by lia
  subst e;exact .inl ⟨⟨xs,q,qa0 _⟩,hd σ H p⟩
end L2
namespace L2
open PySem PySem.Spec PyProof.Rows
abbrev R2:=V->V->Hp->VK->Prop
def OpR(X:Cx)(f:q0->q0->Sem q0)(r:R2):Prop:=
 ∀(pins:List (t0×Obj))(s:X0)(σ:St)(H:Hp)(x y:V)(v u:q0)(Q:VK),Inv X pins σ H s->RelV x v->RelV y u->r x y H Q->
  wpAny (model X.prog X.w) X.A (f v u) (EP X pins σ Q) X.xe s
def UnR(X:Cx)(f:q0->Sem q0)(r:V->Hp->VK->Prop):Prop:=
 ∀(pins:List (t0×Obj))(s:X0)(σ:St)(H:Hp)(x:V)(v:q0)(Q:VK),Inv X pins σ H s->RelV x v->r x H Q->
  wpAny (model X.prog X.w) X.A (f v) (EP X pins σ Q) X.xe s
def Z3l(X:Cx)(f:q0)(r:List V->Hp->VK->Prop):Prop:=
 ∀(pins:List (t0×Obj))(s:X0)(σ:St)(H:Hp)(xs:List V)(us:List q0)(Q:VK),Inv X pins σ H s->Vals xs us->r xs H Q->
  wpAny (model X.prog X.w) X.A (call f us) (EP X pins σ Q) X.xe s
def tOp(r:R2)(ta tb:TE):TE:=λ σ H Q=>ta σ H λ x H1=>tb σ H1 λ y H2=>r x y H2 Q
def tUn(r:V->Hp->VK->Prop)(ta:TE):TE:=λ σ H Q=>ta σ H λ x H1=>r x H1 Q
def rI(C:Int->Int->Prop)(g:Int->Int->V):R2:=λ x y H Q=>∃i j,x=.int i/\y=.int j/\C i j/\Q (g i j) H
def rI0(g:Int->Int->V):R2:=λ x y H Q=>∃i j,x=.int i/\y=.int j/\Q (g i j) H
def rU(g:Int->V):V->Hp->VK->Prop:=λ x H Q=>∃i,x=.int i/\Q (g i) H
section
variable{X:Cx}{a b c:Expr}{ta tb tc:TE}{pos:Pos}
theorem binT(ha:PE X a ta)(hb:PE X b tb){pins:List (t0×Obj)}{s:X0}{σ:St}{H:Hp}{R:V->V->Hp->Prop}(I:Inv X pins σ H s)(h:ta σ H λ x H1=>tb σ H1 λ y H2=>R x y H2){Q:q0->X0->Prop}{f:q0->q0->Sem q0}(hf:∀v u s2 x y H2,Inv X pins σ H2 s2->RelV x v->RelV y u->R x y H2->wpAny (model X.prog X.w) X.A (f v u) Q X.xe s2):wpAny (model X.prog X.w) X.A (eval a X.env) (λ v s₁=>wpAny (model X.prog X.w) X.A (eval b X.env) (λ u s₂=>wpAny (model X.prog X.w) X.A (f v u) Q X.xe s₂) X.xe s₁) X.xe s:=by
 refine thn (ha pins s σ H _ I h) λ v s1 ⟨x,H1,I1,r1,q1⟩=>?_;refine thn (hb pins s1 σ H1 _ I1 q1) λ u s2 ⟨y,H2,I2,r2,q2⟩=>?_;exact hf v u s2 x y H2 I2 r1 r2 q2
theorem Z0f{op:Operator}{r:R2}(ho:OpR X (binaryOp op) r)(ha:PE X a ta)(hb:PE X b tb):PE X (.BinOp a op b pos) (tOp r ta tb):=by
 intro pins s σ H Q I h;exact wpAny_BinOp (binT ha hb I h λ v u s2 x y H2 I2 rx ry q=>ho pins s2 σ H2 x y v u Q I2 rx ry q)
theorem J7C{op:UnaryOp}{r:V->Hp->VK->Prop}(ho:UnR X (unaryOp op) r)(ha:PE X a ta):PE X (.UnaryOp op a pos) (tUn r ta):=by
 intro pins s σ H Q I h;exact UnaryOp_ (thn (ha pins s σ H _ I h) λ v s1 ⟨x,H1,I1,r1,q1⟩=>ho pins s1 σ H1 x v Q I1 r1 q1)
theorem opI{f:q0->q0->Sem q0}{C:Int->Int->Prop}{g:Int->Int->Int}(rule:∀(i j:Int)(t u:Tok)(s:X0)(Q:q0->X0->Prop)(E:q0->X0->Prop),C i j->Q (.int (g i j) s.toks) {s with toks:=s.toks+1}->wpAny (model X.prog X.w) X.A (f (.int i t) (.int j u)) Q E s):OpR X f (rI C λ i j=>.int (g i j)):=by
 intro pins s σ H x y v u Q I rx ry h;obtain⟨i,j,rfl,rfl,hc,q⟩:=h;obtain⟨t,rfl⟩:=rx;obtain⟨t',rfl⟩:=ry;exact rule i j t t' s _ _ hc ⟨.int (g i j),H,I.tok _,⟨_,rfl⟩,q⟩
theorem opI0{f:q0->q0->Sem q0}{g:Int->Int->Int}(rule:∀(i j:Int)(t u:Tok)(s:X0)(Q:q0->X0->Prop)(E:q0->X0->Prop),Q (.int (g i j) s.toks) {s with toks:=s.toks+1}->wpAny (model X.prog X.w) X.A (f (.int i t) (.int j u)) Q E s):OpR X f (rI0 λ i j=>.int (g i j)):=by
 intro pins s σ H x y v u Q I rx ry h;obtain⟨i,j,rfl,rfl,q⟩:=h;obtain⟨t,rfl⟩:=rx;obtain⟨t',rfl⟩:=ry;exact rule i j t t' s _ _ ⟨.int (g i j),H,I.tok _,⟨_,rfl⟩,q⟩
theorem opB0{f:q0->q0->Sem q0}{g:Int->Int->Bool}(rule:∀(i j:Int)(t u:Tok)(s:X0)(Q:q0->X0->Prop)(E:q0->X0->Prop),Q (.bool (g i j)) s->wpAny (model X.prog X.w) X.A (f (.int i t) (.int j u)) Q E s):OpR X f (rI0 λ i j=>.bl (g i j)):=by
 intro pins s σ H x y v u Q I rx ry h;obtain⟨i,j,rfl,rfl,q⟩:=h;obtain⟨t,rfl⟩:=rx;obtain⟨t',rfl⟩:=ry;exact rule i j t t' s _ _ ⟨.bl (g i j),H,I,rfl,q⟩
def CDiv(i j:Int):Prop:=0<j/\j<1073741824
def CPow(i j:Int):Prop:=0<=j/\j<=1000000/\i.natAbs<2^64
def CMul(i j:Int):Prop:=(-(2^64)<i/\i<2^64)\/(-(2^64)<j/\j<2^64)
theorem CMul.ok{i j:Int}(h:CMul i j):IntMulOk i j:=by
 rcases h with⟨h1,h2⟩|⟨h1,h2⟩
 ·exact .of_left (intBits_le_64 h1 h2)
 ·exact .of_right (intBits_le_64 h1 h2)
theorem Z0N:OpR X (binaryOp .Add) (rI0 λ i j=>.int (i+j)):=opI0 λ _ _ _ _ _ _ _ q=>add_int q
theorem Z0A:OpR X (binaryOp .Sub) (rI0 λ i j=>.int (i-j)):=opI0 λ _ _ _ _ _ _ _ q=>sub_int q
theorem Z3d:OpR X (binaryOp .Mult) (rI CMul λ i j=>.int (i*j)):=opI λ _ _ _ _ _ _ _ hc q=>mul_int q hc.ok
theorem Z3J:OpR X (binaryOp .FloorDiv) (rI CDiv λ i j=>.int (i/j)):=opI λ i j _ _ _ _ _ hc q=>by
 have h1:(0:Int)<j:=hc.1;have h2:j<1073741824:=hc.2;exact floordiv_int qR (by rw[Int.fdiv_eq_ediv_of_nonneg i qR];exact q) (.inl (PyProof.noPylong_small qR))
theorem Z1u:OpR X (binaryOp .Mod) (rI (λ _ j=>0<j) λ i j=>.int (i%j)):=opI λ i j _ _ _ _ _ hc q=>by
 have h1:(0:Int)<j:=hc;exact mod_int' qR (by rw[Int.fmod_eq_emod_of_nonneg i qR];exact q)
theorem J1C:OpR X (inplaceOp .Add) (rI0 λ i j=>.int (i+j)):=opI0 λ _ _ _ _ _ _ _ q=>iadd_int q
theorem unI{f:q0->Sem q0}{g:Int->Int}(rule:∀(i:Int)(t:Tok)(s:X0)(Q:q0->X0->Prop)(E:q0->X0->Prop),Q (.int (g i) s.toks) {s with toks:=s.toks+1}->wpAny (model X.prog X.w) X.A (f (.int i t)) Q E s):UnR X f (rU λ i=>.int (g i)):=by
 intro pins s σ H x v Q I rx h;obtain⟨i,rfl,q⟩:=h;obtain⟨t,rfl⟩:=rx;exact rule i t s _ _ ⟨.int (g i),H,I.tok _,⟨_,rfl⟩,q⟩
theorem J6e:UnR X (unaryOp .USub) (rU λ i=>.int (-i)):=unI λ _ _ _ _ _ q=>neg_int q
end
def scal:V->V->Bool
 | .non,.non=>true| .non,.int _=>true| .int _,.non=>true| .non,.bl _=>true| .bl _,.non=>true| .non,.str _=>true| .str _,.non=>true
 | .int _,.int _=>true| .bl _,.bl _=>true| .str _,.str _=>true| .byt _,.byt _=>true
 | .int _,.str _=>true| .str _,.int _=>true| .bl _,.str _=>true| .str _,.bl _=>true
 |_,_=>false
def rEq:R2:=λ x y H Q=>scal x y=true/\Q (.bl (decide (x=y))) H
def rNe:R2:=λ x y H Q=>scal x y=true/\Q (.bl (!decide (x=y))) H
theorem J1D{i j:Int}:decide (V.int i=V.int j)=(i==j):=by
 rw[qf2];simp
theorem J3q{i j:Bool}:decide (V.bl i=V.bl j)=(i==j):=by
 rw[qf2];simp
theorem J0F{i j:Z0}:decide (V.str i=V.str j)=(i==j):=by
 rw[qf2];simp
theorem Z9x{i j:Array UInt8}:decide (V.byt i=V.byt j)=(i.toList==j.toList):=by
 rw[qf2];cases i;cases j;simp
section
variable{X:Cx}{a b c:Expr}{ta tb tc:TE}{pos:Pos}
theorem Z0F{pins:List (t0×Obj)}{σ:St}{H:Hp}{s:X0}{Q:VK}{k k':Bool}(I:Inv X pins σ H s)(q:Q (.bl k) H)(e:k=k'):EP X pins σ Q (.bool k') s:=by
 subst e;exact⟨.bl k,H,I,rfl,q⟩
theorem Z1a:OpR X (compareOp .Eq) rEq:=by
 intro pins s σ H x y v u Q I rx ry h;obtain⟨hs,q⟩:=h;cases x with
 |non=>
  cases rx;cases y with
  |non=>cases ry;exact PySem.EqNone.eq_none_none (Z0F I q (by simp))
  |bl j=>cases ry;exact PySem.EqNone.eq_none_bool (Z0F I q (by simp))
  |int j=>obtain⟨t',rfl⟩:=ry;exact PySem.EqNone.eq_none_int (Z0F I q (by simp))
  |str j=>obtain⟨t',rfl⟩:=ry;exact PySem.EqNone.eq_none_str (Z0F I q (by simp))
  |_=>exact absurd (show false=true from hs) qa3
 |bl i=>
  cases rx;cases y with
  |non=>cases ry;exact PySem.EqNone.eq_bool_none (Z0F I q (by simp))
  |bl j=>cases ry;exact eq_bool (Z0F I q J3q)
  |str j=>obtain⟨t',rfl⟩:=ry;exact PySem.EqMixed.eq_bool_str (Z0F I q (by simp))
  |_=>exact absurd (show false=true from hs) qa3
 |int i=>
  obtain⟨t,rfl⟩:=rx;cases y with
  |non=>cases ry;exact PySem.EqNone.eq_int_none (Z0F I q (by simp))
  |int j=>obtain⟨t',rfl⟩:=ry;exact eq_int (Z0F I q J1D)
  |str j=>obtain⟨t',rfl⟩:=ry;exact PySem.EqMixed.eq_int_str (Z0F I q (by simp))
  |_=>exact absurd (show false=true from hs) qa3
 |str i=>
  obtain⟨t,rfl⟩:=rx;cases y with
  |non=>cases ry;exact PySem.EqNone.eq_str_none (Z0F I q (by simp))
  |bl j=>cases ry;exact PySem.EqMixed.eq_str_bool (Z0F I q (by simp))
  |int j=>obtain⟨t',rfl⟩:=ry;exact PySem.EqMixed.eq_str_int (Z0F I q (by simp))
  |str j=>obtain⟨t',rfl⟩:=ry;exact eq_str (Z0F I q J0F)
  |_=>exact absurd (show false=true from hs) qa3
 |byt i=>
  obtain⟨t,rfl⟩:=rx;cases y with
  |byt j=>obtain⟨t',rfl⟩:=ry;exact W.eq_bytes (Z0F I q Z9x)
  |_=>exact absurd (show false=true from hs) qa3
 |_=>cases y<;>exact absurd (show false=true from hs) qa3
theorem J4H:OpR X (compareOp .NotEq) rNe:=by
 intro pins s σ H x y v u Q I rx ry h;obtain⟨hs,q⟩:=h;cases x with
 |non=>
  cases rx;cases y with
  |non=>cases ry;exact PySem.EqNone.ne_none_none (Z0F I q (by simp))
  |bl j=>cases ry;exact PySem.EqNone.ne_none_bool (Z0F I q (by simp))
  |int j=>obtain⟨t',rfl⟩:=ry;exact PySem.EqNone.ne_none_int (Z0F I q (by simp))
  |str j=>obtain⟨t',rfl⟩:=ry;exact PySem.EqNone.ne_none_str (Z0F I q (by simp))
  |_=>exact absurd (show false=true from hs) qa3
 |bl i=>
  cases rx;cases y with
  |non=>cases ry;exact PySem.EqNone.ne_bool_none (Z0F I q (by simp))
  |bl j=>cases ry;exact ne_bool (Z0F I q (congrArg not J3q))
  |str j=>obtain⟨t',rfl⟩:=ry;exact PySem.EqMixed.ne_bool_str (Z0F I q (by simp))
  |_=>exact absurd (show false=true from hs) qa3
 |int i=>
  obtain⟨t,rfl⟩:=rx;cases y with
  |non=>cases ry;exact PySem.EqNone.ne_int_none (Z0F I q (by simp))
  |int j=>obtain⟨t',rfl⟩:=ry;exact ne_int (Z0F I q (congrArg not J1D))
  |str j=>obtain⟨t',rfl⟩:=ry;exact PySem.EqMixed.ne_int_str (Z0F I q (by simp))
  |_=>exact absurd (show false=true from hs) qa3
 |str i=>
  obtain⟨t,rfl⟩:=rx;cases y with
  |non=>cases ry;exact PySem.EqNone.ne_str_none (Z0F I q (by simp))
  |bl j=>cases ry;exact PySem.EqMixed.ne_str_bool (Z0F I q (by simp))
  |int j=>obtain⟨t',rfl⟩:=ry;exact PySem.EqMixed.ne_str_int (Z0F I q (by simp))
  |str j=>obtain⟨t',rfl⟩:=ry;exact ne_str (Z0F I q (congrArg not J0F))
  |_=>exact absurd (show false=true from hs) qa3
 |byt i=>
  obtain⟨t,rfl⟩:=rx;cases y with
  |byt j=>obtain⟨t',rfl⟩:=ry;exact W.ne_bytes (Z0F I q (congrArg not Z9x))
  |_=>exact absurd (show false=true from hs) qa3
 |_=>cases y<;>exact absurd (show false=true from hs) qa3
theorem Z9E:OpR X (compareOp .Lt) (rI0 λ i j=>.bl (decide (i<j))):=opB0 λ _ _ _ _ _ _ _ q=>lt_int q
theorem Z4z:OpR X (compareOp .LtE) (rI0 λ i j=>.bl (decide (i<=j))):=opB0 λ _ _ _ _ _ _ _ q=>le_int q
theorem Z6K:OpR X (compareOp .Gt) (rI0 λ i j=>.bl (decide (j<i))):=opB0 λ _ _ _ _ _ _ _ q=>gt_int q
theorem J7c:OpR X (compareOp .GtE) (rI0 λ i j=>.bl (decide (j<=i))):=opB0 λ _ _ _ _ _ _ _ q=>ge_int q
theorem Z1p:OpR X (compareOp .In) (λ x y H Q=>∃i j,x=.str i/\y=.str j/\Q (.bl (!(Builtin.Str.occurrences j i 0 j.length 1).isEmpty)) H):=by
 intro pins s σ H x y v u Q I rx ry h;obtain⟨i,j,rfl,rfl,q⟩:=h;obtain⟨t,rfl⟩:=rx;obtain⟨t',rfl⟩:=ry;exact in_str (Z0F I q rfl)
theorem Z1Z(b:Expr){op:CmpOp}(h:op≠.In:=by decide)(h2:op≠.NotIn:=by decide):behindInMarks op b=false:=by
 have e1:(op==CmpOp.In)=false:=by cases op<;>first|rfl|exact absurd rfl h
 have e2:(op==CmpOp.NotIn)=false:=by cases op<;>first|rfl|exact absurd rfl h2
 cases b<;>simp[behindInMarks,e1,e2]
theorem Z0I{op:CmpOp}{r:R2}(ho:OpR X (compareOp op) r)(ha:PE X a ta)(hb:PE X b tb)(hm:behindInMarks op b=false):PE X (.Compare a [op] [b] pos) (tOp r ta tb):=by
 intro pins s σ H Q I h;exact wpAny_Compare1 (binT ha hb I h λ v u s2 x y H2 I2 rx ry q=>ho pins s2 σ H2 x y v u Q I2 rx ry q) hm
def J1Y(t:TE):TT:=λ σ H Q=>t σ H λ x H'=>∃k,x=.bl k/\Q k H'
theorem Z2L{op:CmpOp}{r:R2}(ho:OpR X (compareOp op) r)(ha:PE X a ta)(hb:PE X b tb)(hm:behindInMarks op b=false):PT X (.Compare a [op] [b] pos) (J1Y (tOp r ta tb)):=by
 intro pins s σ H Q I h;refine wpAny_isTrue_Compare1 (thn (ha pins s σ H _ I h) λ v s1 ⟨x,H1,I1,r1,q1⟩=>thn (hb pins s1 σ H1 _ I1 q1) λ u s2 ⟨y,H2,I2,r2,q2⟩=>thn (ho pins s2 σ H2 x y v u _ I2 r1 r2 q2) λ c s3 ⟨z,H3,I3,r3,k,e,q3⟩=>?_) hm;subst e;cases r3;exact wpAny_truthy_bool ⟨H3,I3,q3⟩
def J3e(r r':R2)(ta tb tc:TE):TE:=λ σ H Q=>ta σ H λ x H1=>tb σ H1 λ y H2=>r x y H2 λ z H3=>∃k,z=.bl k/\
 (if k=true then tc σ H3 λ w' H4=>r' y w' H4 Q else Q (.bl false) H3)
theorem Z8T{op op':CmpOp}{r r':R2}(ho:OpR X (compareOp op) r)(ho':OpR X (compareOp op') r')(ha:PE X a ta)(hb:PE X b tb)(hc:PE X c tc)(hm:lastMarks [op,op'] [b,c]=false:=by with_unfolding_all rfl):PT X (.Compare a [op,op'] [b,c] pos) (J1Y (J3e r r' ta tb tc)):=by
 intro pins s σ H Q I h;refine isTrue_chain (thn (ha pins s σ H _ I h) λ v s1 ⟨x,H1,I1,r1,q1⟩=>test_link (thn (hb pins s1 σ H1 _ I1 q1) λ u s2 ⟨y,H2,I2,r2,q2⟩=>thn (ho pins s2 σ H2 x y v u _ I2 r1 r2 q2) λ d s3 ⟨z,H3,I3,r3,k,e,q3⟩=>?_)) hm;subst e;cases r3;refine wpAny_truthy_bool ?_;cases k with
 |false=>
  obtain⟨k',e',q'⟩:=q3;cases e';exact ite_ff ⟨H3,I3,q'⟩
 |true=>
  refine ite_tt (test_last (thn (hc pins s3 σ H3 _ I3 q3) λ w' s4 ⟨z',H4,I4,r4,q4⟩=>thn (ho' pins s4 σ H4 y z' u w' _ I4 r2 r4 q4) λ d' s5 ⟨z2,H5,I5,r5,k2,e2,q5⟩=>?_));subst e2;cases r5;exact wpAny_truthy_bool ⟨H5,I5,q5⟩
theorem Z6c:(sizeLine:Nat)<2^63:=by rw[sizeLine_eq];decide
theorem Z0h:OpR X (binaryOp .Add) (λ x y H Q=>∃i j,x=.str i/\y=.str j/\i.length+j.length<=sizeLine/\Q (.str (i++j)) H):=by
 intro pins s σ H x y v u Q I rx ry h;obtain⟨i,j,rfl,rfl,hz,q⟩:=h;obtain⟨t,rfl⟩:=rx;obtain⟨t',rfl⟩:=ry;exact add_str (λ t' tk=>⟨.str (i++j),H,I.tok _,⟨_,rfl⟩,q⟩) hz
theorem Z6Z{x:V}{us:List q0}(r:Vals [x] us):∃u,us=[u]/\RelV x u:=by
 cases r with
 |cons r1 r2=>cases r2;exact⟨_,rfl,r1⟩
theorem J7b{x y:V}{us:List q0}(r:Vals [x,y] us):∃u w',us=[u,w']/\RelV x u/\RelV y w':=by
 cases r with
 |cons r1 r2=>
  cases r2 with
  |cons r3 r4=>cases r4;exact⟨_,_,rfl,r1,r3⟩
theorem Z6l(hc:X.calm=true):Z3l X (.builtin "min") (λ xs H Q=>∃i j,xs=[.int i,.int j]/\Q (.int (if j<i then j else i)) H):=by
 intro pins s σ H xs us Q I r h;obtain⟨i,j,rfl,q⟩:=h;obtain⟨u,w',rfl,⟨t,rfl⟩,⟨t',rfl⟩⟩:=J7b r;refine min_two_ints (I.ok.hd hc) λ h' tk k=>⟨_,H,I.kept k,?_,q⟩;by_cases hj:j<i
 ·rw[if_pos hj,if_pos hj];exact⟨_,rfl⟩
 ·rw[if_neg hj,if_neg hj];exact⟨_,rfl⟩
theorem J0Q:Z3l X (.type "int") (λ xs H Q=>(∃i,xs=[.int i]/\Q (.int i) H)\/∃k,xs=[.bl k]/\Q (.int (if k then 1 else 0)) H):=by
 intro pins s σ H xs us Q I r h;rcases h with⟨i,rfl,q⟩|⟨k,rfl,q⟩
 ·obtain⟨u,rfl,t,rfl⟩:=Z6Z r;exact call_int_int ⟨.int i,H,I,⟨_,rfl⟩,q⟩
 ·obtain⟨u,rfl,r1⟩:=Z6Z r;cases r1;exact call_int_bool ⟨.int (if k then 1 else 0),H,I.tok _,⟨_,rfl⟩,q⟩
end
end L2
namespace L2
open PySem PySem.Spec PyProof.Rows
structure ObjM(h:V0)(x dx C:t0)(mA:Z0->Option q0):Prop where
 obj:h.get? x=some (W.instObj C dx)
 ns:h.Ns1 dx mA
 ne:dx≠x
theorem Z9Q{h:V0}{dx:t0}{mA:Z0->Option q0}(n:h.Ns1 dx mA):∃od,h.get? dx=some od/\∀name,W.lookIn name od=some (mA name):=by
 obtain⟨o,es,ep,ho,hd,hk,_,hm⟩:=n;refine⟨o,ho,λ name=>?_⟩;have e:=hm name;unfold nsFind findBy at e;rw[<-Array.find?_toList]at e;unfold W.lookIn;rw[hd];dsimp only;split
 ·rename_i y q;rw[q]at e;exact congrArg some e
 ·rename_i q;rw[q]at e;have a:es.toList.any (·.refKey)=false:=by
   rw[List.any_eq_false];intro y hy;obtain⟨z,t,hkey⟩:=hk y (Array.mem_toList_iff.mp hy);simp[DictEntry.refKey,hkey]
  have a':¬es.toList.any (·.refKey)=true:=by rw[a];exact qa3
  rw[if_neg a'];exact congrArg some e
theorem ObjM.look{h:V0}{x dx C:t0}{mA:Z0->Option q0}(I:ObjM h x dx C mA):∃od,W.InstAt h x (W.instObj C dx) C (some od)/\∀name,W.lookIn name od=some (mA name):=
 let⟨od,ho,hl⟩:=Z9Q I.ns
 ⟨od,⟨I.obj,rfl,rfl,ho⟩,hl⟩
section
variable{prog:Program}{w:U0}{A:M0}{E:q0->X0->Prop}{s:X0}{K:y0}{x dx C f:t0}{mA:Z0->Option q0}{name:Z0}{v:q0}
theorem J4N{expr:Bool}{Q:q0->X0->Prop}(X:K.In s.heap)(I:ObjM s.heap x dx C mA)(hg:W.plainGet K C name=true)(hh:W.hasDictIn K C=true)(ha:W.findIn K (.ref C) name=some none)(hv:mA name=some v)(hv':W.handedIn v=true)(h:Q v {s with toks:=s.toks+1}):wpAny (model prog w) A (getAttr (.ref x) name expr) Q E s:=by
 obtain⟨od,J,hl⟩:=I.look;exact W.get_value X J (W.plainGet_of hg).1 (W.findObj_own hh ha rfl (by rw[hl,hv])) hv' h
theorem J2n{pl:Sem Bool}{Q:q0×List q0->X0->Prop}(X:K.In s.heap)(I:ObjM s.heap x dx C mA)(hg:W.plainGet K C name=true)(hf:W.findIn K (.ref C) name=some (some (.ref f)))(ht:W.isFn K (.ref f)=true)(hv:mA name=none)(h:Q (.ref f,[.ref x]) s):wpAny (model prog w) A (getMethod (.ref x) name pl) Q E s:=by
 obtain⟨od,J,hl⟩:=I.look;exact W.method_fn X J (W.plainGet_of hg).1 (W.plainGet_of hg).2 hf (beq_iff_eq.mp ht) (by show(W.lookIn name od).map (·.isSome)=some false;rw[hl,hv];rfl) h
theorem J3J{ns:List Z0}{Q:Unit->X0->Prop}(X:K.In s.heap)(I:ObjM s.heap x dx C mA)(hs:W.findIn K (.ref C) "__setattr__"=some (some (.builtin "object.__setattr__")))(hp:W.plainOver K C=true)(ht:W.takerIn K C name=some none)(hh:W.hasDictIn K C=true)(hw:PySem.Within mA ns)(hsz:ns.length<=sizeLine)(h:∀h',ObjM h' x dx C (λ y=>if y=name then some v else mA y)->Heap.SameBut dx s.heap h'->Q () {s with heap:=h',toks:=s.toks+2}):wpAny (model prog w) A (setAttr (.ref x) name v) Q E s:=by
 obtain⟨od,J,hl⟩:=I.look;refine W.set_plain X J hs (W.osa_open (s:={s with toks:=s.toks+1}) (r:=none) X J hp ht λ b=>?_);obtain⟨cd,hc,hd'⟩:=W.any_some hh;have hx:s.heap.get? x=some ⟨.ref C,some dx,.plain,#[]⟩:=I.obj;refine wpAny_bind (wpAny_pure (wpAny_bind (wpAny_bind (wpAny_loadPart hx (wpAny_bind (W.Looks.here (s:={s with toks:=s.toks+1}) (W.looks_clsIn X hc) ?_))))));rw[hd'];refine wpAny_pure (a:=some dx) (wpAny_bind (wpAny_pure (wpAny_bind ?_)));refine wpAny_nsSet1 (s:={s with toks:=s.toks+1}) I.ns λ h' hn2 hs2=>?_;obtain⟨oD,esD,epD,hoD,hdD,hcD⟩:=hn2.count (PySem.Within.cons name v hw);refine wpAny_bind (wpAny_lookBehind hoD (by rw[hdD];exact pastItsLine_dict (qa1 hcD (by rw[qe0];lia))) ?_);exact wpAny_pure (h _ ⟨(hs2.2 _ (Ne.symm I.ne)).trans I.obj,hn2,I.ne⟩ hs2)
theorem J2W{R:Result->X0->Prop}{vs:List q0}{kw:List (Z0×q0)}(X:K.In s.heap)(hm:W.makesIn K C=true)(hi:W.findIn K (.ref C) "__init__"=some (some (.ref f)))(hf:W.typeIn K (.ref f)=some (.type "function"))(h:codeAny (model prog w) (A.under (.builtin "type.__call__" ⟨.ref C::vs,kw⟩)) (.call (.ref f) ⟨.ref (s.heap.objs.size+1)::vs,kw⟩) (W.InitBack (s.heap.objs.size+1) R) {s with heap:=(s.heap.push W.emptyDict).push (W.instObj C s.heap.objs.size)}):codeAny (model prog w) A (.call (.ref C) ⟨vs,kw⟩) R s:=by
 obtain⟨hh,g,d,t,os⟩:=s;exact W.make_core (W.makes_of X hm) (W.looks_findIn X hi) (λ self=>W.bind_fn X self hf) (.inl rfl) h
end
def putF(f:Z0)(v:V):List (Z0×V)->List (Z0×V)
 |[]=>[(f,v)]
 |(g,x)::r=>if g=f then(g,v)::r else(g,x)::putF f v r
theorem Z4h(f g:Z0)(v:V):∀fs:List (Z0×V),(putF f v fs).lookup g=if g=f then some v else fs.lookup g
 |[]=>by
  show qc7 g [(f,v)]=_;by_cases h:g=f
  ·have hb:(g==f)=true:=beq_iff_eq.mpr h;simp only[qc7,hb,if_pos h]
  ·have hb:(g==f)=false:=beq_eq_false_iff_ne.mpr h;simp only[qc7,hb,if_neg h]
 |(k,x)::r=>by
  have ih:=Z4h f g v r;rw[show putF f v ((k,x)::r)=(if k=f then(k,v)::r else(k,x)::putF f v r)from rfl];by_cases hk:k=f
  ·rw[if_pos hk];by_cases h:g=k
   ·have hb:(g==k)=true:=beq_iff_eq.mpr h;simp only[qc7,hb,if_pos (h.trans hk)]
   ·have hb:(g==k)=false:=beq_eq_false_iff_ne.mpr h;simp only[qc7,hb,if_neg (λ e:g=f=>h (e.trans hk.symm))]
  ·rw[if_neg hk];by_cases h:g=k
   ·have hb:(g==k)=true:=beq_iff_eq.mpr h;simp only[qc7,hb,if_neg (λ e:g=f=>hk (h.symm.trans e))]
   ·have hb:(g==k)=false:=beq_eq_false_iff_ne.mpr h;simp only[qc7,hb];exact ih
theorem Z4C(f:Z0)(v:V):∀fs:List (Z0×V),f∈(putF f v fs).map (·.1)/\∀g,g∈fs.map (·.1)->g∈(putF f v fs).map (·.1)
 |[]=>⟨by simp[putF],λ g h=>by simp at h⟩
 |(k,x)::r=>by
  obtain⟨i1,i2⟩:=Z4C f v r;rw[show putF f v ((k,x)::r)=(if k=f then(k,v)::r else(k,x)::putF f v r)from rfl];by_cases hk:k=f
  ·rw[if_pos hk];subst hk;exact⟨by simp,λ g h=>by simpa using h⟩
  ·rw[if_neg hk];refine⟨?_,λ g h=>?_⟩
   ·rw[qc0];exact qd1 _ i1
   ·rw[qc0]at h ⊢;rcases qb4.mp h with e|e
    ·exact qb4.mpr (.inl e)
    ·exact qd1 _ (i2 g e)
theorem Z4p(f:Z0)(v:V):∀fs:List (Z0×V),(putF f v fs).length<=fs.length+1
 |[]=>by simp[putF]
 |(k,x)::r=>by
  have ih:=Z4p f v r;rw[show putF f v ((k,x)::r)=(if k=f then(k,v)::r else(k,x)::putF f v r)from rfl];by_cases hk:k=f
  ·rw[if_pos hk,qe0,qe0];lia
  ·rw[if_neg hk,qe0,qe0];lia
theorem RelO.some_of{v:V}{o:Option q0}(r:RelO (some v) o):∃u,o=some u/\RelV v u:=by
 cases o with
 |none=>exact(show False from r).elim
 |some u=>exact⟨u,rfl,r⟩
theorem RelO.none_of{o:Option q0}(r:RelO none o):o=none:=by
 cases o with
 |none=>rfl
 |some u=>exact(show False from r).elim
theorem Z9D{v:V}{u:q0}(r:RelV v u):W.handedIn u=true:=by
 cases v with
 |non=>cases(show u=Value.none from r);rfl
 |bl b=>cases(show u=Value.bool b from r);rfl
 |int i=>obtain⟨t,e⟩:=(show ∃t,u=Value.int i t from r);cases e;rfl
 |str x=>obtain⟨t,e⟩:=(show ∃t,u=Value.str x t from r);cases e;rfl
 |byt b=>obtain⟨t,e⟩:=(show ∃t,u=Value.bytes b t from r);cases e;rfl
 |flt b=>obtain⟨t,e⟩:=(show ∃t,u=Value.float b t from r);cases e;rfl
 |ref a=>cases(show u=Value.ref a from r);rfl
 |ty n=>cases(show u=Value.type n from r);rfl
section
variable{P:Program}{w:U0}{H H':Hp}{h h':V0}{a C dx:t0}{fs fs':List (Z0×V)}
theorem Z5Q(hok:HOk P w H h)(e:H a=some (.ins C dx fs)):∃mA,ObjM h a dx C mA/\(∀f,RelO (fs.lookup f) (mA f))/\PySem.Within mA (fs.map (·.1))/\fs.length<=1000/\H dx=some (.own a):=by
 obtain⟨d,z,ne,ob,mA,n,r,q⟩:=(show ObjOk P w H h a (.ins C dx fs)from hok a _ e);exact⟨mA,⟨ob,n,ne⟩,r,q,z,d⟩
end
structure Cls(K:y0)(C:t0):Prop where
 pg:W.plainGet K C Str.empty=true
 hd:W.hasDictIn K C=true
 po:W.plainOver K C=true
 sa:W.findIn K (.ref C) "__setattr__"=some (some (.builtin "object.__setattr__"))
theorem Cls.get{K:y0}{C:t0}(c:Cls K C)(f:Z0):W.plainGet K C f=true:=c.pg
def NoAttr(K:y0)(C:t0)(f:Z0):Prop:=W.findIn K (.ref C) f=some none
theorem NoAttr.taker{K:y0}{C:t0}{f:Z0}(n:NoAttr K C f):W.takerIn K C f=some none:=by
 unfold W.takerIn;rw[show W.findIn K (.ref C) f=some none from n];rfl
structure Con(K:y0)(C:t0)(f:Z0)(v:V)(u:q0):Prop where
 at_:W.findIn K (.ref C) f=some (some u)
 rel:RelV v u
 get:W.specialIn K u "__get__"=some none
 cp:W.copiedNames.contains f=false
structure Meth(K:y0)(C:t0)(m:Z0)(f:t0):Prop where
 at_:W.findIn K (.ref C) m=some (some (.ref f))
 fn:W.isFn K (.ref f)=true
 kp:W.keepIn K (.ref f)=true
section
variable{X:Cx}{pins:List (t0×Obj)}{σ:St}{H:Hp}{s:X0}{a C dx:t0}{fs:List (Z0×V)}{f:Z0}{v:V}{A:M0}{E:q0->X0->Prop}
theorem Z5e{b:Bool}{Q:q0->X0->Prop}(I:Inv X pins σ H s)(e:H a=some (.ins C dx fs))(c:Cls X.K C)(n:NoAttr X.K C f)(l:fs.lookup f=some v)(h:∀u s',Inv X pins σ H s'->RelV v u->Q u s'):wpAny (model X.prog X.w) A (getAttr (.ref a) f b) Q E s:=by
 obtain⟨mA,O,r,_,_,_⟩:=Z5Q I.hok e;obtain⟨u,hu,ru⟩:=RelO.some_of (v:=v) (o:=mA f) (by rw[<-l];exact r f);exact J4N I.kIn O (c.get f) c.hd n hu (Z9D ru) (h u _ (I.tok _) ru)
theorem Z3B{m:Z0}{g:t0}{pl:Sem Bool}{Q:q0×List q0->X0->Prop}(I:Inv X pins σ H s)(e:H a=some (.ins C dx fs))(c:Cls X.K C)(k:Meth X.K C m g)(l:fs.lookup m=none)(h:Q (.ref g,[.ref a]) s):wpAny (model X.prog X.w) A (getMethod (.ref a) m pl) Q E s:=by
 obtain⟨mA,O,r,_,_,_⟩:=Z5Q I.hok e;have hn:mA m=none:=RelO.none_of (by rw[<-l];exact r m);exact J2n I.kIn O (c.get m) k.at_ k.fn hn h
theorem Z5i{y:V}{u:q0}{Q:Unit->X0->Prop}(I:Inv X pins σ H s)(e:H a=some (.ins C dx fs))(c:Cls X.K C)(n:NoAttr X.K C f)(hl:fs.length<1000)(ry:RelV y u)(h:∀s',Inv X pins σ (upd H a (.ins C dx (putF f y fs))) s'->Q () s'):wpAny (model X.prog X.w) A (setAttr (.ref a) f u) Q E s:=by
 obtain⟨mA,O,r,wi,_,ho⟩:=Z5Q I.hok e;have hz:(fs.map (·.1)).length<=sizeLine:=by rw[qb0,sizeLine_eq];lia
 refine J3J I.kIn O c.sa c.po n.taker c.hd wi hz λ h' O' sb=>h _ ?_;have hd:∃o,h'.get? dx=some o:=let⟨o,_,_,e',_⟩:=O'.ns;⟨o,e'⟩;refine I.write (x:=a) (e:=dx) (by rw[e];exact True.intro) (.inr ho) (λ b q hb z=>(sb.2 b hb).trans z) hd ?_;refine⟨by rw[Z0k O.ne];exact ho,?_,O.ne,O'.obj,_,O'.ns,λ g=>?_,λ g hg=>?_⟩
 ·have:=Z4p f y fs;lia
 ·show RelO ((putF f y fs).lookup g) (if g=f then some u else mA g);rw[Z4h];by_cases q:g=f
  ·rw[if_pos q,if_pos q];exact ry
  ·rw[if_neg q,if_neg q];exact r g
 ·by_cases q:g=f
  ·rw[q];exact(Z4C f y fs).1
  ·refine(Z4C f y fs).2 g (wi g λ z=>hg ?_);show(if g=f then some u else mA g)=none;rw[if_neg q];exact z
theorem Inv.made(I:Inv X pins σ H s):Inv X pins σ (upd (upd H s.heap.objs.size (.own (s.heap.objs.size+1))) (s.heap.objs.size+1) (.ins C s.heap.objs.size [])) {s with heap:=(s.heap.push W.emptyDict).push (W.instObj C s.heap.objs.size)}:=by
 have e1:(s.heap.push W.emptyDict).get? s.heap.objs.size=some W.emptyDict:=Heap.get?_push_size s.heap rfl;have e2:((s.heap.push W.emptyDict).push (W.instObj C s.heap.objs.size)).get? (s.heap.objs.size+1)=some (W.instObj C s.heap.objs.size):=by
  have:=Heap.get?_push_size (s.heap.push W.emptyDict) (o:=W.instObj C s.heap.objs.size) rfl
  rwa [Heap.size_push]at this
 have e3:(s.heap.push W.emptyDict).Ns s.heap.objs.size (λ _=>none):=⟨W.emptyDict,#[],_,e1,rfl,(λ e he=>absurd he (by simp)),λ _=>rfl⟩;have I1:=I.laid (a:=s.heap.objs.size) (o:=.own (s.heap.objs.size+1)) (h':=s.heap.push W.emptyDict) (t':=s.toks) (λ b u q=>Heap.get?_push_of_some _ q) (qa0 _) ⟨_,e1⟩;refine I1.laid (a:=s.heap.objs.size+1) (o:=.ins C s.heap.objs.size []) (t':=s.toks) (λ b u q=>Heap.get?_push_of_some _ q) (qf3 (Heap.size_push _ _)) ?_;have ne:s.heap.objs.size≠s.heap.objs.size+1:=qa9 (qd2 _);refine⟨by rw[Z0k ne,Z0g],qb2 _,ne,e2,λ _=>none,(Heap.Ns1.of_empty e3).at λ o q=>Heap.get?_push_of_some _ q,λ _=>True.intro,λ y hy=>absurd rfl hy⟩
theorem J4x{prog:Program}{w:U0}{env:Env}{e:Expr}{f:Z0}{pos:Pos}{s:X0}{Q:q0->X0->Prop}(hb:attributeBase e f env (eval e env)=eval e env)(h:wpAny (model prog w) A (eval e env) (λ o s₁=>wpAny (model prog w) A (getAttr o f true) Q E s₁) E s):wpAny (model prog w) A (eval (.Attribute e f pos) env) Q E s:=
 Attribute_any_ h (by rw[arm_eval_Attribute,hb])
end
def InOp(X:Cx)(op:Operator)(rd:V->V->Hp->VK->Prop):Prop:=
 ∀(pins:List (t0×Obj))(s:X0)(σ:St)(H:Hp)(x y:V)(u v:q0)(Q:VK),Inv X pins σ H s->RelV x u->RelV y v->rd x y H Q->wpAny (model X.prog X.w) X.A (inplaceOp op u v) (EP X pins σ Q) X.xe s
section
variable{X:Cx}{o e value:Expr}{f:Z0}{pos pos' tpos:Pos}{ta tv:TE}
theorem J3N{pl:Sem Bool}{m:Z0}{apos:Pos}{args:List Expr}{pins:List (t0×Obj)}{s:X0}{σ:St}{H:Hp}{Q:q0->X0->Prop}{te:TE}(he:PE X e te)(I:Inv X pins σ H s)(h:te σ H λ x H1=>∃a C dx fs g,x=.ref a/\H1 a=some (.ins C dx fs)/\Cls X.K C/\Meth X.K C m g/\fs.lookup m=none/\∀s1,Inv X pins σ H1 s1->wpAny (model X.prog X.w) X.A (callWith pos (.ref g) [.ref a] (backTo pos (starEach args X.env)) (backToKw pos (keywordEach [] X.env))) Q X.xe s1)(ht:eval (.Call (.Attribute e m apos) args [] pos) X.env=(do
   let ov<-eval e X.env
   standAt apos.atName
   let(f,first)<-holding [ov] (getMethod ov m pl)
   callWith pos f first (backTo pos (starEach args X.env)) (backToKw pos (keywordEach [] X.env)))):wpAny (model X.prog X.w) X.A (eval (.Call (.Attribute e m apos) args [] pos) X.env) Q X.xe s:=by
 refine W.methodCall_KW (pl:=pl) (thn (he pins s σ H _ I h) λ u s1 hz_=>?_) ht;obtain⟨x,H1,I1,rx,a,C,dx,fs,g,ex,ea,c,k,l,q⟩:=hz_;subst ex;obtain rfl:u=Value.ref a:=rx;exact Z3B I1 ea c k l (q s1 I1)
end
section
variable{X:Cx}{pins:List (t0×Obj)}{σ:St}{H:Hp}{s:X0}{A:M0}{E:q0->X0->Prop}{Q:q0->X0->Prop}{c:q0}{b:Bool}
inductive TyOf(K:y0)(H:Hp):V->q0->Prop where
 |non:TyOf K H .non (.type "NoneType")
 |bl(x:Bool):TyOf K H (.bl x) (.type "bool")
 |int(i:Int):TyOf K H (.int i) (.type "int")
 |str(x:Z0):TyOf K H (.str x) (.type "str")
 |flt(x:UInt64):TyOf K H (.flt x) (.type "float")
 |lst{a:t0}{xs:List V}(e:H a=some (.lst xs)):TyOf K H (.ref a) (.type "list")
 |frz{a:t0}{o:Obj}{xs:List V}(e:H a=some (.frz o (.lst xs))):TyOf K H (.ref a) (.type "list")
 |tup{a:t0}{xs:List V}(e:H a=some (.tup xs)):TyOf K H (.ref a) (.type "tuple")
 |dK{a:t0}{kvs:List (Key×V)}(e:H a=some (.dK kvs)):TyOf K H (.ref a) (.type "dict")
 |dT{a:t0}{kvs:List (List Key×V)}(e:H a=some (.dT kvs)):TyOf K H (.ref a) (.type "dict")
 |ins{a C dx:t0}{fs:List (Z0×V)}(e:H a=some (.ins C dx fs))(cl:Cls K C)(ha:W.findIn K (.ref C) "__class__"=some (some (.builtin "object.__class__")))
   (hn:W.specialIn K (.builtin "object.__class__") "__get__"=some (some (.builtin "getset_descriptor.__get__"))) (htk:W.takesIn K (.builtin "object.__class__")=some true)
   (hm:W.mroIn K C (.type "object")=some true):TyOf K H (.ref a) (.ref C)
theorem J1m{x:V}{u t:q0}(I:Inv X pins σ H s)(rx:RelV x u)(ty:TyOf X.K H x t)(e:W.kitOne X.K t c=some b)(h:∀tk,Q (.bool b) {s with toks:=tk}):wpAny (model X.prog X.w) A (call (.builtin "isinstance") [u,c]) Q E s:=by
 cases ty with
 |non=>cases(show u=Value.none from rx);exact W.kia_one W.kitx_none I.kIn True.intro e (λ z=>nomatch z) h
 |bl y=>cases(show u=Value.bool y from rx);exact W.kia_one W.kitx_bool I.kIn True.intro e (λ z=>nomatch z) h
 |int i=>obtain⟨t,q⟩:=(show ∃t,u=Value.int i t from rx);cases q;exact W.kia_one W.kitx_int I.kIn True.intro e (λ z=>nomatch z) h
 |str y=>obtain⟨t,q⟩:=(show ∃t,u=Value.str y t from rx);cases q;exact W.kia_one W.kitx_str I.kIn True.intro e (λ z=>nomatch z) h
 |flt y=>obtain⟨t,q⟩:=(show ∃t,u=Value.float y t from rx);cases q;exact W.kia_one W.kitx_float I.kIn True.intro e (λ z=>nomatch z) h
 |@lst a xs ea=>
  cases(show u=Value.ref a from rx);obtain⟨_,_,n,_,h1⟩:=(show ObjOk X.prog X.w H s.heap a (.lst xs)from I.hok a _ ea);exact W.kia_one W.kitx_list I.kIn ⟨_,h1,rfl⟩ e (λ z=>nomatch z) h
 |@frz a ob xs ea=>
  cases(show u=Value.ref a from rx);obtain⟨_,_,_,n,_,h1⟩:=(show ObjOk X.prog X.w H s.heap a (.frz ob (.lst xs))from I.hok a _ ea);exact W.kia_one W.kitx_list I.kIn ⟨_,h1,rfl⟩ e (λ z=>nomatch z) h
 |@tup a xs ea=>
  cases(show u=Value.ref a from rx);obtain⟨_,_,_,p⟩:=(show ObjOk X.prog X.w H s.heap a (.tup xs)from I.hok a _ ea);obtain⟨o,h1,h2,_⟩:=p;exact W.kia_one W.kitx_tuple I.kIn ⟨o,h1,h2⟩ e (λ z=>nomatch z) h
 |@dK a kvs ea=>
  cases(show u=Value.ref a from rx);obtain⟨_,_,vs,_,p⟩:=(show ObjOk X.prog X.w H s.heap a (.dK kvs)from I.hok a _ ea);obtain⟨o,es,ep,h1,h2,_⟩:=p;exact W.kia_one W.kitx_dict I.kIn ⟨o,h1,h2.1⟩ e (λ z=>nomatch z) h
 |@dT a kvs ea=>
  cases(show u=Value.ref a from rx);obtain⟨_,_,xs,_,o,es,ep,h1,h2,_⟩:=(show ObjOk X.prog X.w H s.heap a (.dT kvs)from I.hok a _ ea);exact W.kia_one W.kitx_dict I.kIn ⟨o,h1,h2.1⟩ e (λ z=>nomatch z) h
 |@ins a C dx fs ea cl ha hn htk hm=>
  cases(show u=Value.ref a from rx);obtain⟨mA,O,_⟩:=Z5Q I.hok ea;obtain⟨od,J,_⟩:=O.look;exact W.kia_one (W.kitx_own (cl.get _) cl.hd ha hn htk hm) I.kIn J e (λ z=>nomatch z) h
end
end L2
namespace L2
open PySem PySem.Spec PyProof.Rows
structure Room(k:Nat)(A:M0):Prop where
 hd:A.handled=none
 dp:A.depth+3*k+5<recursionLimit
 un:A.units+16*k+200<cLine
 gd:A.guards=some []
theorem Room.mono{j k:Nat}{A:M0}(r:Room k A)(h:j<=k):Room j A:=⟨r.hd,by have:=r.dp;lia,by have:=r.un;lia,r.gd⟩
theorem Room.deeper{k:Nat}{A:M0}(r:Room (k+1) A)(env:Env):Room k (A.deeper env):=
 ⟨r.hd,by have:=r.dp;show A.depth+1+3*k+5<_;lia,by have:=r.un;show A.units+3+16*k+200<_;lia,r.gd⟩
theorem Z9m{A:M0}{C:t0}{us:List q0}{kw:List (Z0×q0)}:(A.under (.builtin "type.__call__" ⟨.ref C::us,kw⟩)).depth=A.depth+1:=by
 first|rfl|simp[Around.under,Code.weight,Code.isCreation,Code.isGuard,Code.isCaller,Code.frames,Code.isFrame,guardIds]
theorem Z9c{A:M0}{C:t0}{us:List q0}{kw:List (Z0×q0)}:(A.under (.builtin "type.__call__" ⟨.ref C::us,kw⟩)).units=A.units+1:=by
 first|rfl|simp[Around.under,Code.cUnits,Code.frames,Code.isFrame]
theorem Room.make{k:Nat}{A:M0}(r:Room (k+1) A)(C:t0)(us:List q0)(kw:List (Z0×q0)):Room k (A.under (.builtin "type.__call__" ⟨.ref C::us,kw⟩)):=
 ⟨r.hd,by have:=r.dp;rw[Z9m];lia,by have:=r.un;rw[Z9c];lia,r.gd⟩
theorem Room.depth{k:Nat}{A:M0}(r:Room k A):A.depth<recursionLimit:=by have:=r.dp;lia
theorem Room.units{k:Nat}{A:M0}(r:Room k A):A.units+64<cLine:=by have:=r.un;lia
def tNil:TA:=λ _ H Q=>Q [] H
def Z4B(ta:TE)(tr:TA):TA:=λ σ H Q=>ta σ H λ x H1=>tr σ H1 λ xs H2=>Q (x::xs) H2
section
variable{X:Cx}{e:Expr}{es:List Expr}{te:TE}{t:TA}{pos:Pos}
theorem Z2O:PA X [] tNil:=λ _ _ _ _ H Q I h=>Calls.spliced_nil ⟨[],H,I,.nil,h⟩
theorem Z0t(ha:PE X e te)(hr:PA X es t)(hs:starEach (e::es) X.env=(false,eval e X.env)::starEach es X.env:=by rfl):PA X (e::es) (Z4B te t):=by
 intro pos pins s σ H Q I h;rw[hs];show wpAny _ _ (spliced ((false,eval e X.env)::backTo pos (starEach es X.env))) _ _ s;refine Calls.spliced_cons (thn (ha pins s σ H _ I h) λ u s1 ⟨x,H1,I1,r1,q1⟩=>?_);exact thn (hr pos pins s1 σ H1 _ I1 q1) λ us s2 ⟨xs,H2,I2,r2,q2⟩=>⟨x::xs,H2,I2,.cons r1 r2,q2⟩
def tTup(t:TA):TE:=λ σ H Q=>t σ H λ xs H1=>xs.length<=sizeLine/\∀p,H1 p=none->Q (.ref p) (upd H1 p (.tup xs))
def tLst(t:TA):TE:=λ σ H Q=>t σ H λ xs H1=>xs.length<=sizeLine/\∀p,H1 p=none->Q (.ref p) (upd H1 p (.lst xs))
theorem Z0C{x1}(h:PA X es t):PE X (.Tuple es x1 pos) (tTup t):=by
 intro pins s σ H Q I hq;refine wpAny_Tuple_spliced (thn (h pos pins s σ H _ I hq) λ us s1 ⟨xs,H1,I1,r,z,q⟩=>⟨by rw[<-r.length];exact z,?_⟩);have hf:H1 s1.heap.objs.size=none:=I1.hok.fresh (qa0 _);refine⟨.ref s1.heap.objs.size,upd H1 s1.heap.objs.size (.tup xs),I1.laid (t':=s1.toks) (λ b u e=>Heap.get?_push_of_some _ e) (qa0 _) ?_,rfl,q _ hf⟩;exact⟨⟨z,Z8W⟩,us,r,⟨_,Heap.get?_push_size _ rfl,rfl,_,rfl⟩⟩
theorem Z0O(h:PA X es t):PE X (.List es pos) (tLst t):=by
 intro pins s σ H Q I hq;refine wpAny_List_spliced (thn (h pos pins s σ H _ I hq) λ us s1 ⟨xs,H1,I1,r,z,q⟩=>⟨by rw[<-r.length];exact z,?_⟩);have hf:H1 s1.heap.objs.size=none:=I1.hok.fresh (qa0 _);refine⟨.ref s1.heap.objs.size,upd H1 s1.heap.objs.size (.lst xs),I1.laid (t':=s1.toks) (λ b u e=>Heap.get?_push_of_some _ e) (qa0 _) ?_,rfl,q _ hf⟩;exact⟨z,us,0,r,Heap.get?_push_size _ rfl⟩
end
abbrev Sp:=List V->Hp->VK->XK->Prop
abbrev CXT:=List Env->Hp->X0->XK->q0->X0->Prop
structure Env0(P:Program)(w:U0)(K:y0)(mg:Z0->Option q0)(base:V0)(A:M0)(outer:List Env)(s:X0)(H:Hp):Prop where
 frames:A.frames=some outer
 mod:Mod K mg base
 bs:∀b o,base.get? b=some o->s.heap.get? b=some o/\H b=none
 bsz:base.objs.size<=s.heap.objs.size
 funs:s.heap.FunFrames base outer
 frf:∀b∈frs outer,H b=none
 hok:HOk P w H s.heap
 bare:AllBare s.gens
def CE(outer:List Env)(P:Program)(w:U0)(H:Hp)(s:X0)(Q:VK)(u:q0)(s':X0):Prop:=
 ∃v H',s'.os=s.os/\AllBare s'.gens/\Un (frs outer) [] H H' s.heap s'.heap/\HOk P w H' s'.heap/\RelV v u/\Q v H'
def CR(CX:CXT)(outer:List Env)(P:Program)(w:U0)(H:Hp)(s:X0)(Q:VK)(E:XK)(r:Result)(s':X0):Prop:=
 match r with
 | .ok (.ret u)=>CE outer P w H s Q u s'
 | .ok _=>False
 | .error e=>CX outer H s E e s'
structure FnOk(P:Program)(w:U0)(K:y0)(mg:Z0->Option q0)(base:V0)(CX:CXT)(k:Nat)(f:t0)(fd:FuncData)(ps:List Z0)(sp:Sp):Prop where
 len:∀vs H Q E,sp vs H Q E->vs.length=ps.length
 run:∀(A:M0)(outer:List Env)(s:X0)(H:Hp)(args:Args)(us:List q0)(vs:List V)(Q:VK)(E:XK),Room k A->Env0 P w K mg base A outer s H->BindsTo s fd args (ps.zip us)->Vals vs us->sp vs H Q E->
  codeAny (model P w) A (.call (.ref f) args) (CR CX outer P w H s Q E) s
theorem FnOk.mono{P:Program}{w:U0}{K:y0}{mg:Z0->Option q0}{base:V0}{CX:CXT}{j k:Nat}{f:t0}{fd:FuncData}{ps:List Z0}{sp:Sp}(F:FnOk P w K mg base CX j f fd ps sp)(h:j<=k):FnOk P w K mg base CX k f fd ps sp:=⟨F.len,λ A outer s H args us vs Q E hr=>F.run A outer s H args us vs Q E (hr.mono h)⟩
theorem FnOk.imp{P:Program}{w:U0}{K:y0}{mg:Z0->Option q0}{base:V0}{CX:CXT}{k:Nat}{f:t0}{fd:FuncData}{ps:List Z0}{sp sp':Sp}(F:FnOk P w K mg base CX k f fd ps sp)(h:∀vs H Q E,sp' vs H Q E->sp vs H Q E):FnOk P w K mg base CX k f fd ps sp':=
 ⟨λ vs H Q E q=>F.len vs H Q E (h _ _ _ _ q),λ A outer s H args us vs Q E hr he hb hv hs=>F.run A outer s H args us vs Q E hr he hb hv (h _ _ _ _ hs)⟩
theorem Env0.make{P:Program}{w:U0}{K:y0}{mg:Z0->Option q0}{base:V0}{A:M0}{outer:List Env}{s:X0}{H:Hp}(e:Env0 P w K mg base A outer s H)(C:t0)(us:List q0)(kw:List (Z0×q0)):Env0 P w K mg base (A.under (.builtin "type.__call__" ⟨.ref C::us,kw⟩)) outer s H:=⟨by first|exact e.frames|(simpa[Around.under,Code.envs,Code.isFrame,pushEnvs]using e.frames),e.mod,e.bs,e.bsz,e.funs,e.frf,e.hok,e.bare⟩
section
variable{X:Cx}{pins:List (t0×Obj)}{σ:St}{H:Hp}{s s':X0}
theorem Inv.env0(I:Inv X pins σ H s):Env0 X.prog X.w X.K X.mg X.base X.A X.stack s H:=
 ⟨I.ok.frames,I.ok.mod,I.bs,qa1 I.ok.bsz I.sz,I.stack,I.stkFree,I.hok,I.bare⟩
theorem Inv.after{Q:VK}{u:q0}(I:Inv X pins σ H s)(h:CE X.stack X.prog X.w H s Q u s'):EP X pins σ Q u s':=by
 obtain⟨v,H',os,bare,un,hok,r,q⟩:=h;obtain⟨hh,g,d,t,os'⟩:=s';obtain rfl:os'=s.os:=os;exact⟨v,H',I.call (h':=hh) (g':=g) (d':=d) (t':=t) (ch:=[]) un hok bare (λ b z=>absurd z (by simp)),r,q⟩
end
def J1H(sp:Sp)(dvs:List V)(E:XK)(t:TA):TE:=λ σ H Q=>t σ H λ vs H1=>sp (vs++dvs) H1 Q E
def Z9w(C:t0)(m:Z0)(sp:Sp)(dvs:List V)(E:XK)(ta:TE)(t:TA):TE:=λ σ H Q=>ta σ H λ x H1=>∃a dx fs,x=.ref a/\H1 a=some (.ins C dx fs)/\fs.lookup m=none/\
 t σ H1 λ vs H2=>sp (x::(vs++dvs)) H2 Q E
def J4k(C:t0)(sp:Sp)(dvs:List V)(E:XK)(t:TA):TE:=λ σ H Q=>t σ H λ vs H1=>∀x dx,H1 x=none->H1 dx=none->dx≠x->
 sp (.ref x::(vs++dvs)) (upd (upd H1 dx (.own x)) x (.ins C dx [])) (λ v H2=>v=.non/\Q (.ref x) H2) E
def Binds(K:y0)(fd:FuncData)(ps:List Z0)(ds:List q0):Prop:=
 ∀(s:X0)(us:List q0),K.In s.heap->(us++ds).length=ps.length->BindsTo s fd ⟨us,[]⟩ (ps.zip (us++ds))
theorem Binds.all{K:y0}{fd:FuncData}{ps:List Z0}(h:∀us:List q0,us.length=ps.length->bindArgs fd ⟨us,[]⟩=pure (ps.zip us)):Binds K fd ps []:=λ s us _ hl=>by
 rw[qc1]at hl ⊢;exact .of_eq (h us hl)
def Z3N(CX:CXT)(X:Cx)(E:XK):Prop:=∀(pins:List (t0×Obj))(σ:St)(H:Hp)(s:X0)(e:q0)(s':X0),Inv X pins σ H s->CX X.stack H s E e s'->X.xe e s'
section
variable{X:Cx}{CX:CXT}{k:Nat}{f C:t0}{fd:FuncData}{ps:List Z0}{sp:Sp}{dvs:List V}{ds:List q0}{E:XK}{x m:Z0}{p pos apos:Pos}{e o:Expr}{es:List Expr}{ta:TE}{t:TA}
theorem Z7Z{pins:List (t0×Obj)}{σ:St}{H:Hp}{s:X0}{Q:VK}{us:List q0}{vs:List V}(F:FnOk X.prog X.w X.K X.mg X.base CX k f fd ps sp)(hr:Room k X.A)(hb:Binds X.K fd ps ds)(hd:Vals dvs ds)(hx:Z3N CX X E)(I:Inv X pins σ H s)(r:Vals vs us)(h:sp (vs++dvs) H Q E):wpAny (model X.prog X.w) X.A (call (.ref f) us) (EP X pins σ Q) X.xe s:=by
 have r2:Vals (vs++dvs) (us++ds):=r.append hd;have hl:(us++ds).length=ps.length:=by rw[<-r2.length];exact F.len _ _ _ _ h
 refine wpAny_call (codeAny_mono (F.run X.A X.stack s H ⟨us,[]⟩ (us++ds) (vs++dvs) Q E hr I.env0 (hb s us I.kIn hl) r2 h) λ r s' hq=>?_);cases r with
 |error e=>exact hx pins σ H s e s' I hq
 |ok fl=>
  cases fl with
  |ret u=>exact I.after hq
  |next=>exact False.elim hq
  |brk=>exact False.elim hq
  |cont=>exact False.elim hq
theorem Z2l(F:FnOk X.prog X.w X.K X.mg X.base CX k f fd ps sp)(hr:Room k X.A)(hg:Gl X x)(hm:X.mg x=some (.ref f))(hk:W.keepIn X.K (.ref f)=true)(hb:Binds X.K fd ps ds)(hd:Vals dvs ds)(hx:Z3N CX X E)(ha:PA X (e::es) t)(hdb:(x==("__debug__":Z0))=false:=by decide)(he:starEach (e::es) X.env=(false,eval e X.env)::starEach es X.env:=by rfl)(hpl:(backTo pos (starEach es X.env)).any (·.1)=false:=by rfl):PE X (.Call (.Name x p) (e::es) [] pos) (J1H sp dvs E t):=by
 intro pins s σ H Q I h;refine wpAny_Call_Name_kw (Z2I I hg hm ?_ hdb);refine W.callWith_K (h₀:=X.base) I.ok.mod.kin hk (thn (ha pos pins s σ H _ I h) λ us s1 ⟨vs,H1,I1,r,q⟩=>⟨I1.kIn,?_⟩) he hpl;exact Z7Z F hr hb hd hx I1 r q
theorem Z9K{pl:Sem Bool}(he:PE X o ta)(c:Cls X.K C)(hm:Meth X.K C m f)(F:FnOk X.prog X.w X.K X.mg X.base CX k f fd ps sp)(hr:Room k X.A)(hb:Binds X.K fd ps ds)(hd:Vals dvs ds)(hx:Z3N CX X E)(ha:PA X (e::es) t)(hst:starEach (e::es) X.env=(false,eval e X.env)::starEach es X.env:=by rfl)(hpl:(backTo pos (starEach es X.env)).any (·.1)=false:=by rfl)(ht:eval (.Call (.Attribute o m apos) (e::es) [] pos) X.env=(do
   let ov<-eval o X.env
   standAt apos.atName
   let(f,first)<-holding [ov] (getMethod ov m pl)
   callWith pos f first (backTo pos (starEach (e::es) X.env)) (backToKw pos (keywordEach [] X.env))):=by rfl):PE X (.Call (.Attribute o m apos) (e::es) [] pos) (Z9w C m sp dvs E ta t):=by
 intro pins s σ H Q I h;refine W.methodCall_KW (pl:=pl) (thn (he pins s σ H _ I h) λ u s1 hz_=>?_) ht;obtain⟨x,H1,I1,rx,a,dx,fs,ex,ea,l,q⟩:=hz_;subst ex;obtain rfl:u=Value.ref a:=rx;refine Z3B I1 ea c hm l ?_;refine W.callWith_K (first:=[.ref a]) (h₀:=X.base) I.ok.mod.kin hm.kp (thn (ha pos pins s1 σ H1 _ I1 q) λ us s2 ⟨vs,H2,I2,r,q2⟩=>⟨I2.kIn,?_⟩) hst hpl;exact Z7Z (us:=.ref a::us) (vs:=.ref a::vs) F hr hb hd hx I2 (.cons rfl r) q2
theorem Z8k{pl:Sem Bool}(he:PE X o ta)(c:Cls X.K C)(hm:Meth X.K C m f)(F:FnOk X.prog X.w X.K X.mg X.base CX k f fd ps sp)(hr:Room k X.A)(hb:Binds X.K fd ps ds)(hd:Vals dvs ds)(hx:Z3N CX X E)(ht:eval (.Call (.Attribute o m apos) [] [] pos) X.env=(do
   let ov<-eval o X.env
   standAt apos.atName
   let(f,first)<-holding [ov] (getMethod ov m pl)
   callWith pos f first (backTo pos (starEach [] X.env)) (backToKw pos (keywordEach [] X.env))):=by rfl):PE X (.Call (.Attribute o m apos) [] [] pos) (Z9w C m sp dvs E ta tNil):=by
 intro pins s σ H Q I h;refine W.methodCall_KW (pl:=pl) (thn (he pins s σ H _ I h) λ u s1 hz_=>?_) ht;obtain⟨x,H1,I1,rx,a,dx,fs,ex,ea,l,q⟩:=hz_;subst ex;obtain rfl:u=Value.ref a:=rx;refine Z3B I1 ea c hm l ?_;exact W.callWith_K0 (first:=[.ref a]) I1.kIn hm.kp (Z7Z (us:=[.ref a]) (vs:=[.ref a]) F hr hb hd hx I1 (.cons rfl .nil) q)
structure Mk(K:y0)(C f:t0):Prop where
 makes:W.makesIn K C=true
 init:W.findIn K (.ref C) "__init__"=some (some (.ref f))
 fn:W.isFn K (.ref f)=true
 kp:W.keepIn K (.ref C)=true
theorem J1W{pins:List (t0×Obj)}{σ:St}{H:Hp}{s:X0}{Q:VK}{us:List q0}{vs:List V}(M:Mk X.K C f)(F:FnOk X.prog X.w X.K X.mg X.base CX k f fd ps sp)(hr:Room (k+1) X.A)(hb:Binds X.K fd ps ds)(hd:Vals dvs ds)(hx:Z3N CX X E)(I:Inv X pins σ H s)(r:Vals vs us)(h:∀x dx,H x=none->H dx=none->dx≠x->sp (.ref x::(vs++dvs)) (upd (upd H dx (.own x)) x (.ins C dx [])) (λ v H2=>v=.non/\Q (.ref x) H2) E):wpAny (model X.prog X.w) X.A (call (.ref C) us) (EP X pins σ Q) X.xe s:=by
 have hq:=h (s.heap.objs.size+1) s.heap.objs.size (I.hok.fresh (qf4 _)) (I.hok.fresh (qa0 _)) (qa9 (qd2 _));have I2:=Inv.made (C:=C) I;have r2:Vals (V.ref (s.heap.objs.size+1)::(vs++dvs)) (Value.ref (s.heap.objs.size+1)::(us++ds)):=.cons rfl (r.append hd);have hl:(Value.ref (s.heap.objs.size+1)::us++ds).length=ps.length:=by
  have e:=r2.length;rw[F.len _ _ _ _ hq]at e;exact e.symm
 refine wpAny_call (J2W (f:=f) I.kIn M.makes M.init (beq_iff_eq.mp M.fn) (codeAny_mono (F.run _ X.stack _ _ ⟨Value.ref (s.heap.objs.size+1)::us,[]⟩ (Value.ref (s.heap.objs.size+1)::(us++ds)) _ _ E (hr.make C us []) (I2.env0.make C us []) (hb _ (Value.ref (s.heap.objs.size+1)::us) I2.kIn hl) r2 hq) λ r s' hq'=>?_));cases r with
 |error e=>exact hx pins σ _ _ e s' I2 hq'
 |ok fl=>
  cases fl with
  |ret u=>
   obtain⟨v,H',I3,rv,ev,q3⟩:=I2.after hq';subst ev;exact⟨rv,⟨V.ref (s.heap.objs.size+1),H',I3,rfl,q3⟩⟩
  |next=>exact False.elim hq'
  |brk=>exact False.elim hq'
  |cont=>exact False.elim hq'
theorem J3Z(M:Mk X.K C f)(F:FnOk X.prog X.w X.K X.mg X.base CX k f fd ps sp)(hr:Room (k+1) X.A)(hg:Gl X x)(hm:X.mg x=some (.ref C))(hb:Binds X.K fd ps ds)(hd:Vals dvs ds)(hx:Z3N CX X E)(ha:PA X (e::es) t)(hdb:(x==("__debug__":Z0))=false:=by decide)(he:starEach (e::es) X.env=(false,eval e X.env)::starEach es X.env:=by rfl)(hpl:(backTo pos (starEach es X.env)).any (·.1)=false:=by rfl):PE X (.Call (.Name x p) (e::es) [] pos) (J4k C sp dvs E t):=by
 intro pins s σ H Q I h;refine wpAny_Call_Name_kw (Z2I I hg hm ?_ hdb);refine W.callWith_K (h₀:=X.base) I.ok.mod.kin M.kp (thn (ha pos pins s σ H _ I h) λ us s1 ⟨vs,H1,I1,r,q⟩=>⟨I1.kIn,?_⟩) he hpl;exact J1W M F hr hb hd hx I1 r q
end
def PK(X:Cx)(kws:List Keyword)(t:TA):Prop:=
 ∀(pos:Pos)(pins:List (t0×Obj))(s:X0)(σ:St)(H:Hp)(Q:List V->Hp->Prop),Inv X pins σ H s->t σ H Q->wpAny (model X.prog X.w) X.A (evalAll ((backToKw pos (keywordEach kws X.env)).map (·.2))) (AP X pins σ Q) X.xe s
section
variable{X:Cx}{CX:CXT}{k:Nat}{f C:t0}{fd:FuncData}{ps ks:List Z0}{sp:Sp}{E:XK}{x m:Z0}{p pos apos kpos:Pos}{e o:Expr}{es:List Expr}{kws:List Keyword}{te ta:TE}{t tk:TA}{nm:Option Z0}
theorem J5q:PK X [] tNil:=λ _ _ _ _ H Q I h=>wpAny_evalAll_nil ⟨[],H,I,.nil,h⟩
theorem J4u(ha:PE X e te)(hr:PK X kws t):PK X (⟨nm,e,kpos⟩::kws) (Z4B te t):=by
 intro pos pins s σ H Q I h;show wpAny _ _ (evalAll ((do let v<-eval e X.env;standAt pos;pure v)::(backToKw pos (keywordEach kws X.env)).map (·.2))) _ _ s;refine wpAny_evalAll_cons (wpAny_bind (thn (ha pins s σ H _ I h) λ u s1 ⟨x,H1,I1,r1,q1⟩=>wpAny_bind (wpAny_standAt (wpAny_pure ?_))));exact thn (hr pos pins s1 σ H1 _ I1 q1) λ us s2 ⟨xs,H2,I2,r2,q2⟩=>⟨x::xs,H2,I2,.cons r1 r2,q2⟩
variable{g:List q0->List q0->List q0}{gV:List V->List V->List V}
end
structure Z0n(N P:List Z0)(sc:Scope):Prop where
 kind:sc.kind=.function
 co:sc.isCoroutine=false
 gen:sc.isGenerator=false
 nd:N.Nodup
 pre:N.take P.length=P
 par:∀x∈P,sc.names.lookup x=some .local\/sc.names.lookup x=some .cell
 nofree:∀y∈sc.names,y.2≠.free
theorem Z6H{kindOf:Z0->Option NameKind}{x:Z0}:∀{binds:List (Z0×q0)}{m:Z0->Option q0},(∀v,(x,v)∉binds)->bindL kindOf binds m x=m x
 |[],_,_=>rfl
 |(n,v)::r,m,h=>by
  unfold bindL;rw[Z6H λ w hw=>h w (qd1 _ hw)];split
  ·have:x≠n:=by rintro rfl;exact h v qd8
   simp[this]
  ·rfl
theorem Z6V{kindOf:Z0->Option NameKind}{x:Z0}:∀{binds:List (Z0×q0)}{m:Z0->Option q0},(∀v,(x,v)∉binds)->bindC kindOf binds m x=m x
 |[],_,_=>rfl
 |(n,v)::r,m,h=>by
  unfold bindC;rw[Z6V λ w hw=>h w (qd1 _ hw)];split
  ·rfl
  ·have:x≠n:=by rintro rfl;exact h v qd8
   simp[this]
theorem Z6e{kindOf:Z0->Option NameKind}{x:Z0}{v:q0}:∀{P:List Z0}{vs:List q0}{i:Nat}{m:Z0->Option q0},P.Nodup->P[i]?=some x->vs[i]?=some v->kindOf x=some .local->bindL kindOf (P.zip vs) m x=some v
 |[],_,_,_,_,h,_,_=>by simp at h
 |_::_,[],_,_,_,_,h,_=>by simp at h
 |p::P,w::vs,0,m,nd,h1,h2,hk=>by
  simp at h1 h2;subst h1;subst h2;show bindL kindOf ((p,w)::P.zip vs) m p=_;unfold bindL;rw[Z6H λ v hv=>(qg7.mp nd).1 (List.of_mem_zip hv).1,if_pos hk];simp
 |p::P,w::vs,i+1,m,nd,h1,h2,hk=>by
  show bindL kindOf ((p,w)::P.zip vs) m x=_;unfold bindL;exact Z6e (i:=i) (qg7.mp nd).2 (by simpa using h1) (by simpa using h2) hk
theorem Z6h{kindOf:Z0->Option NameKind}{x:Z0}{v:q0}:∀{P:List Z0}{vs:List q0}{i:Nat}{m:Z0->Option q0},P.Nodup->P[i]?=some x->vs[i]?=some v->kindOf x≠some .local->bindC kindOf (P.zip vs) m x=some v
 |[],_,_,_,_,h,_,_=>by simp at h
 |_::_,[],_,_,_,_,h,_=>by simp at h
 |p::P,w::vs,0,m,nd,h1,h2,hk=>by
  simp at h1 h2;subst h1;subst h2;show bindC kindOf ((p,w)::P.zip vs) m p=_;unfold bindC;rw[Z6V λ v hv=>(qg7.mp nd).1 (List.of_mem_zip hv).1,if_neg hk];simp
 |p::P,w::vs,i+1,m,nd,h1,h2,hk=>by
  show bindC kindOf ((p,w)::P.zip vs) m x=_;unfold bindC;exact Z6h (i:=i) (qg7.mp nd).2 (by simpa using h1) (by simpa using h2) hk
def Z3w(N:List Z0)(vs:List V):St:=vs.map some++qa4 (N.length-vs.length) none
def cxOf(CX:CXT)(P:Program)(w:U0)(K:y0)(mg:Z0->Option q0)(base:V0)(N:List Z0)(qual:Z0)(scope:Scope)(f:t0)(cd:q0)(A:M0)(outer:List Env)(s:X0)(H:Hp)(E:XK):Cx where
 prog:=P
 w:=w
 K:=K
 mg:=mg
 base:=base
 A:=A.deeper (envOfC qual scope s.heap.objs.size f cd)
 N:=N
 s₀:=s
 H₀:=H
 env:=envOfC qual scope s.heap.objs.size f cd
 outer:=outer
 stack:=envOfC qual scope s.heap.objs.size f cd::outer
 ex:=[]
 calm:=true
 fn:=λ _=>true
 pn:=[]
 xe:=λ e s'=>wpAny (model P w) (A.deeper (envOfC qual scope s.heap.objs.size f cd)) (leaving (envOfC qual scope s.heap.objs.size f cd) e) (λ _ s''=>CX outer H s E e s'') (λ e' s''=>CX outer H s E e' s'') s'
theorem Z8c{sc:Scope}{n:Nat}{x:Z0}(h:sc.names.lookup x=some .cell):∃c,(cellsFrom n sc.names []).lookup x=some c:=by
 have q:=W.cellsFrom_some sc.names n [] (.inl h);exact qh9.mp q
theorem J0k{CX:CXT}{P:Program}{w:U0}{K:y0}{mg:Z0->Option q0}{base:V0}{N ps:List Z0}{qual:Z0}{scope:Scope}{f:t0}{cd:q0}{A:M0}{outer:List Env}{s s1:X0}{H:Hp}{E:XK}{us:List q0}{vs:List V}(S:Z0n N ps scope)(hd:A.handled=none)(e0:Env0 P w K mg base A outer s H)(hl:vs.length=ps.length)(r:Vals vs us)(x:InCallC s s.heap.objs.size (bindL (envOfC qual scope s.heap.objs.size f cd).kindOf (ps.zip us) λ _=>none) (cellsFrom (s.heap.objs.size+1) scope.names []) (bindC (envOfC qual scope s.heap.objs.size f cd).kindOf (ps.zip us) λ _=>none) s1):Inv (cxOf CX P w K mg base N qual scope f cd A outer s H E) [] (Z3w N vs) H s1:=by
 have hpl:ps.length<=N.length:=by have:=congrArg List.length S.pre;rw[qg8]at this;lia
 obtain⟨h1,tk,rfl,hk⟩:=x.done;have noA:∀b:t0,b∉(cxOf CX P w K mg base N qual scope f cd A outer s H E).ex:=λ b z=>absurd (show b∈([]:List t0)from z) (by simp);refine⟨⟨e0.mod,S.kind,rfl,rfl,qa0 _,λ y z c h1 h2=>?_,λ y hy=>?_,λ y c _ h=>?_,λ _=>hd,Around.frames_deeper e0.frames,.inr ⟨rfl,rfl⟩,λ b z=>absurd z (noA b),e0.bs,e0.bsz,λ b _ _=>noA b,λ b z=>absurd z (noA b),e0.funs,e0.frf⟩,rfl,e0.bare,Un.kept hk,⟨_,x.toInCall.ns,λ i y v h1 h2 h3=>?_⟩,λ y c h=>⟨_,x.cell y c h⟩,e0.hok.fresh (qa0 _),λ y c h=>?_,λ p hp=>absurd (show p∈([]:List (t0×Obj))from hp) (by simp),e0.hok.kept hk,?_⟩
 ·exact name_of_addr x.apart (PySem.mem_of_lookup h1) (PySem.mem_of_lookup h2)
 ·have hy:scope.names.lookup y=some .cell\/scope.names.lookup y=some .free:=hy;rcases hy with hy|hy
  ·exact Z8c hy
  ·exact absurd rfl (S.nofree _ (PySem.mem_of_lookup hy))
 ·exact qf7 (x.above y c (PySem.mem_of_lookup h))
 ·have hi:i<vs.length:=by
   unfold Z3w at h2;by_cases hi:i<vs.length
   ·exact hi
   ·rw[qi0 (by simpa using hi)]at h2;rw[List.getElem?_replicate]at h2;split at h2<;>cases h2
  have ha:vs[i]?=some v:=by
   unfold Z3w at h2;rw[qi1 (by simpa using hi),qc4]at h2;cases e:vs[i]? with
   |none=>rw[e]at h2;cases h2
   |some a=>rw[e]at h2;cases h2;rfl
  obtain⟨u,hu,rv⟩:=r.get ha;have hp:ps[i]?=some y:=by
   rw[<-S.pre,List.getElem?_take_of_lt qR];exact h1
  have ndP:ps.Nodup:=by rw[<-S.pre];exact S.nd.sublist (List.take_sublist _ _)
  refine⟨u,rv,?_⟩;rcases S.par y (qi2 hp)with k|k
  ·exact .inl ⟨k,Z6e ndP hp hu k⟩
  ·obtain⟨c,e⟩:=Z8c (n:=s.heap.objs.size+1) k;refine .inr ⟨.inl k,c,e,?_⟩;have q:=x.cell y c e;rw[Z6h ndP hp hu (by show scope.names.lookup y≠_;rw[k];decide)]at q;exact q
 ·exact e0.hok.fresh (qf7 (x.above y c (PySem.mem_of_lookup h)))
 ·unfold Z3w;show _=N.length;rw[qa2,qb0,List.length_replicate];lia
theorem J4F{CX:CXT}{P:Program}{w:U0}{K:y0}{mg:Z0->Option q0}{base:V0}{k:Nat}{f:t0}{name qual:Z0}{params:Arguments}{body:List Stmt}{scope:Scope}{dV kV doc pm cdv ct oc:q0}{an od:Option t0}{osl:Array (Option q0)}{N ps:List Z0}{sp:Sp}(lk:K.lookup f=some ⟨oc,od,.func (W.fnOf name qual params body scope dV kV doc pm an cdv ct),osl⟩)(hcd:W.codeIn K cdv qual=true)(S:Z0n N ps scope)(len:∀vs H Q E,sp vs H Q E->vs.length=ps.length)(hbody:∀(A:M0)(outer:List Env)(s:X0)(H:Hp)(vs:List V)(Q:VK)(E:XK),Room k (A.deeper (envOfC qual scope s.heap.objs.size f cdv))->sp vs H Q E->∃t,PSs (cxOf CX P w K mg base N qual scope f cdv A outer s H E) body t/\t {nx:=λ _ H'=>Q .non H',rt:=Q} (Z3w N vs) H):FnOk P w K mg base CX (k+1) f (W.fnOf name qual params body scope dV kV doc pm an cdv ct) ps sp:=by
 refine⟨len,λ A outer s H args us vs Q E hr e0 hb r hsp=>?_⟩;have hl:=len _ _ _ _ hsp;have KX:K.In s.heap:=e0.mod.kin.keeps λ b o e=>(e0.bs b o e).1;have lim:s.heap.NoLimit:=e0.mod.nolimit.keeps λ b o e=>(e0.bs b o e).1;have hkind:∀y∈ps.zip us,scope.names.lookup y.1=some .local\/(scope.names.lookup y.1=some .cell/\((cellsFrom (s.heap.objs.size+1) scope.names []).lookup y.1).isSome=true):=λ⟨n,v⟩ hy=>by
  rcases S.par n (List.of_mem_zip hy).1 with q|q
  ·exact .inl q
  ·exact .inr ⟨q,W.cellsFrom_some _ _ _ (.inl q)⟩
 refine codeAny_call_function hr.depth (KX _ _ lk) rfl S.co S.gen rfl (W.codeRec_of KX hcd) (hb _ _ _ _ ?_);refine wpAny_newFunctionEnv_cells S.kind hkind λ env he s1 x=>?_;subst he;refine⟨lim.keeps x.toInCall.keep,codeAny_func ?_⟩;obtain⟨t,ht,hq⟩:=hbody A outer s H vs Q E (hr.deeper _) hsp;have I:Inv (cxOf CX P w K mg base N qual scope f cdv A outer s H E) [] (Z3w N vs) H s1:=J0k S hr.hd e0 hl r x;refine wpAny_mono (ht [] s1 (Z3w N vs) H _ I hq) (λ fl s' hs=>?_) λ e s' hs=>hs;have fin:∀{σ':St}{H':Hp}{v:V}{u:q0},Inv (cxOf CX P w K mg base N qual scope f cdv A outer s H E) [] σ' H' s'->RelV v u->Q v H'->CE outer P w H s Q u s':=
  λ{σ' H' v u} J rv q=>⟨v,H',J.os,J.bare,J.base,J.hok,rv,q⟩
 cases fl with
 |ret u=>
  obtain⟨v,σ',H',J,rv,q⟩:=hs;exact fin J rv q
 |next=>
  obtain⟨σ',H',J,q⟩:=hs;exact fin (v:=V.non) (u:=Value.none) J rfl q
 |brk=>
  obtain⟨_,_,_,q⟩:=hs;exact False.elim q
 |cont=>
  obtain⟨_,_,_,q⟩:=hs;exact False.elim q
end L2
namespace L2
open PySem PySem.Spec PyProof.Rows
section
variable{X:Cx}{x:Z0}{p pos:Pos}{e:Expr}{es:List Expr}{t:TA}{id T:String}{r:List V->Hp->VK->Prop}
def tCB(r:List V->Hp->VK->Prop)(t:TA):TE:=λ σ H Q=>t σ H λ vs H1=>r vs H1 Q
theorem Z0s(hc:Z3l X (.builtin id) r)(hg:Gl X x)(hm:X.mg x=none)(hv:bootBuiltins x=some (.builtin id))(ha:PA X (e::es) t)(hn:x≠"__name__":=by decide)(hdb:(x==("__debug__":Z0))=false:=by decide)(he:starEach (e::es) X.env=(false,eval e X.env)::starEach es X.env:=by rfl)(hpl:(backTo pos (starEach es X.env)).any (·.1)=false:=by rfl):PE X (.Call (.Name x p) (e::es) [] pos) (tCB r t):=by
 intro pins s σ H Q I h;refine wpAny_Call_Name_kw (Z8g I hg hm hv ?_ hn hdb);exact PyProof.Rows.callWith_builtin1 (thn (ha pos pins s σ H _ I h) λ us s1 ⟨vs,H1,I1,r1,q1⟩=>hc pins s1 σ H1 vs us Q I1 r1 q1) he hpl
theorem Z1h(hc:Z3l X (.type T) r)(hg:Gl X x)(hm:X.mg x=none)(hv:bootBuiltins x=some (.type T))(ha:PA X (e::es) t)(hn:x≠"__name__":=by decide)(hdb:(x==("__debug__":Z0))=false:=by decide)(he:starEach (e::es) X.env=(false,eval e X.env)::starEach es X.env:=by rfl)(hpl:(backTo pos (starEach es X.env)).any (·.1)=false:=by rfl):PE X (.Call (.Name x p) (e::es) [] pos) (tCB r t):=by
 intro pins s σ H Q I h;refine wpAny_Call_Name_kw (Z8g I hg hm hv ?_ hn hdb);exact PyProof.Rows.callWith_type1 (thn (ha pos pins s σ H _ I h) λ us s1 ⟨vs,H1,I1,r1,q1⟩=>hc pins s1 σ H1 vs us Q I1 r1 q1) he hpl
end
end L2
namespace HT
open PySem PyProof.Rows
section
open PySem.SeqAt
open PySem.AutoSeq1 (wpAny_loadPart')
open PySem.MeetsSeq PySem.MeetsSeq2 PySem.MeetsSeq3
end
section
variable{prog:Program}{w:U0}{A:M0}{E:q0->X0->Prop}{s:X0}
theorem cat_tup{t b:t0}{vs ws:List q0}{Q:q0->X0->Prop}(ht:IsTup s.heap t vs.toArray)(hb:IsTup s.heap b ws.toArray)(hv:vs≠[])(h1:ws=[]->Q (.ref t) s)(h2:ws≠[]->Q (.ref s.heap.objs.size) {s with heap:=s.heap.push {cls:=.type "tuple",data:=.seq (vs++ws).toArray}})(hsz:vs.length+ws.length<=sizeLine):wpAny (model prog w) A (binaryOp .Add (.ref t) (.ref b)) Q E s:=by
 obtain⟨⟨cls,dd,data,sl⟩,ho,hc,n,hd⟩:=id ht;obtain⟨⟨cls2,dd2,data2,sl2⟩,ho2,hc2,n2,hd2⟩:=id hb;simp only at hc hd hc2 hd2;subst hc hd hc2 hd2;have e:vs.toArray++ws.toArray=(vs++ws).toArray:=by simp
 by_cases hw:ws=[]
 ·exact concat_meets ⟨_,ho,rfl⟩ ⟨_,ho2,rfl⟩ noFill_tuple_add seq_tuple_add qi3 qi4 (qi5 _ _)
   (tuple_addW1 t b vs.toArray ws.toArray n n2 dd dd2 sl sl2 (by simpa using hv) (by simp[hw])) ⟨ho,ho2,h1 hw⟩
 ·refine concat_meets ⟨_,ho,rfl⟩ ⟨_,ho2,rfl⟩ noFill_tuple_add seq_tuple_add qi3 qi4 (qi5 _ _)
   (tuple_addW2 t b vs.toArray ws.toArray n n2 dd dd2 sl sl2 (by simpa using hv) (by simpa using hw) (by rw[qa6,qa6];exact hsz)) ⟨ho,ho2,?_⟩
  rw[e];exact h2 hw
def sIx(n d:Nat):Option Int->Nat
 |none=>d
 |some v=>if v<0 then(v+(n:Int)).toNat else min v.toNat n
theorem J5t(n d:Nat)(hd:d<=n)(o:Option Int):sIx n d o<=n:=by
 cases o with
 |none=>exact hd
 |some v=>
  show(if v<0 then(v+(n:Int)).toNat else min v.toNat n)<=n;by_cases hv:v<0
  ·rw[if_pos hv];lia
  ·rw[if_neg hv];exact Nat.min_le_right _ _
theorem J0z(v:Int)(n d:Nat):(if v<0 then max (v+(n:Int)) 0 else min v (n:Int))=((sIx n d (some v):Nat):Int):=by
 show(if v<0 then max (v+(n:Int)) 0 else min v (n:Int))=(((if v<0 then(v+(n:Int)).toNat else min v.toNat n):Nat):Int);by_cases hv:v<0
 ·simp only[if_pos hv];lia
 ·simp only[if_neg hv];lia
theorem Z9d(lo hi:Option Int)(n:Nat):Builtin.Slice.sliceAdjust lo hi 1 (n:Int)=(((sIx n 0 lo:Nat):Int),((sIx n n hi:Nat):Int)):=by
 have h1:¬((1:Int)<0):=by lia
 unfold Builtin.Slice.sliceAdjust;simp only[h1,if_false];refine Prod.ext ?_ ?_
 ·cases lo with
  |none=>rfl
  |some v=>exact J0z v n 0
 ·cases hi with
  |none=>rfl
  |some v=>exact J0z v n n
theorem Z9r(i j:Nat):Builtin.Slice.slicePlaces (i:Int) (j:Int) 1=j-i:=by
 unfold Builtin.Slice.slicePlaces;have h1:(1:Int)>0:=by lia
 simp only[h1,if_true,Int.ediv_one];split<;>lia
theorem Z5l{v:q0}{o:Option Int}{Q:Option Int->X0->Prop}(p:IsPart v o)(h:Q o s):wpAny (model prog w) A (Builtin.Slice.slicePartIndex v) Q E s:=by
 cases p with
 |none=>exact slicePart_none h
 |int i t=>exact slicePart_int h
theorem Z2E{sl:t0}{vl vu:q0}{lo hi:Option Int}{n:Nat}{Q:Int×Int×Nat->X0->Prop}(hs:s.heap.IsSliceOf sl vl vu .none)(pl:IsPart vl lo)(pu:IsPart vu hi)(h:Q (((sIx n 0 lo:Nat):Int),1,sIx n n hi-sIx n 0 lo) s):wpAny (model prog w) A (Builtin.Slice.sliceApplied (.ref sl) (pure (n:Int))) Q E s:=by
 obtain⟨os,hos,hcs,hds⟩:=id hs;unfold Builtin.Slice.sliceApplied Builtin.Slice.sliceFields;refine wpAny_bind (wpAny_bind (wpAny_field hos hds (x:=vl) rfl (wpAny_bind (wpAny_field hos hds (x:=vu) rfl (wpAny_bind (wpAny_field hos hds (x:=.none) rfl (wpAny_pure ?_)))))));refine wpAny_bind (slicePart_none ?_);show wpAny _ _ (if((1:Int)==0)=true then _ else _) _ _ s;rw[if_neg qQ];refine wpAny_bind (Z5l pl (wpAny_bind (Z5l pu (wpAny_bind (wpAny_pure ?_)))));show wpAny _ _ (match Builtin.Slice.sliceAdjust lo hi 1 (n:Int)with|(lo,hi)=>pure (lo,(1:Int),Builtin.Slice.slicePlaces lo hi 1)) _ _ s;rw[Z9d lo hi n];show wpAny _ _ (pure (((sIx n 0 lo:Nat):Int),(1:Int),Builtin.Slice.slicePlaces ((sIx n 0 lo:Nat):Int) ((sIx n n hi:Nat):Int) 1)) _ _ s;rw[Z9r];exact wpAny_pure h
theorem J2A(xs:Array q0)(i k:Nat):((qd5 k).filterMap λ(m:Nat)=>xs[((i:Int)+(m:Int)*1).toNat]?).toArray=((xs.toList.drop i).take k).toArray:=by
 have e:(λ(m:Nat)=>xs[((i:Int)+(m:Int)*1).toNat]?)=λ m=>xs[i+m]?:=by
  funext m;have:((i:Int)+(m:Int)*1).toNat=i+m:=by lia
  rw[this]
 rw[e];have:=pick_run xs i k;rw[List.filterMap_map]at this;have e2:((λ x=>xs[x]?)∘λ x=>i+x)=λ m=>xs[i+m]?:=rfl;rw[e2]at this;rw[this]
theorem getItem_tuple_cut{t sl:t0}{items:Array q0}{vl vu:q0}{lo hi:Option Int}{Q:q0->X0->Prop}(ht:IsTup s.heap t items)(hs:s.heap.IsSliceOf sl vl vu .none)(pl:IsPart vl lo)(pu:IsPart vu hi)(hw:¬(sIx items.size 0 lo=0/\sIx items.size items.size hi=items.size))(h:Q (.ref s.heap.objs.size) {s with heap:=s.heap.push {cls:=.type "tuple",data:=.seq ((items.toList.drop (sIx items.size 0 lo)).take (sIx items.size items.size hi-sIx items.size 0 lo)).toArray}})(hsz:items.size<=sizeLine):wpAny (model prog w) A (getItem (.ref t) (.ref sl)) Q E s:=by
 have htake:sizeOk (.seq ((items.toList.drop (sIx items.size 0 lo)).take (sIx items.size items.size hi-sIx items.size 0 lo)).toArray):=by
  show((items.toList.drop (sIx items.size 0 lo)).take (sIx items.size items.size hi-sIx items.size 0 lo)).toArray.size<=sizeLine;rw[qa6,qg8,qf5,qf8];lia
 have hj:sIx items.size items.size hi<=items.size:=J5t _ _ (qa0 _) hi;obtain⟨os,hos,hcs,hds⟩:=id hs;have hTs:s.TypeIs (.ref sl) "slice":=⟨os,hos,hcs⟩;unfold getItem;try with_reducible refine wpAny_holding ?_
 first|refine wpAny_bind (wpAny_pure ?_)|skip
 refine wpAny_bind (wpAny_sequenceKey ht.typeIs qQ ?_);refine wpAny_bind (wpAny_callSpecial?_slot (name:=Str.ofString "__getitem__") ht.typeIs PyProof.Rows.slot_tuple_getitem (wpAny_call_entry PyProof.Rows.slot_tuple_getitem ht.typeIs entry_tuple_getitem ?_ (args_tuple_getitem _ _)));show wpAny _ _ (Builtin.Tuple.tupleItemsOf (.ref t)>>=_) _ _ s;refine wpAny_bind (tupleItemsOf_ ht ?_);refine wpAny_bind (wpAny_typeOf hTs ?_);rw[if_pos qQ];refine wpAny_bind (Z2E hs pl pu ?_);have hno:¬((((sIx items.size 0 lo:Nat):Int)==0&&(1:Int)==1&&(sIx items.size items.size hi-sIx items.size 0 lo)==items.size)=true):=by
  intro q;rw[qc5,qc5]at q;have q1:((sIx items.size 0 lo:Nat):Int)=0:=eq_of_beq q.1.1;have q2:sIx items.size items.size hi-sIx items.size 0 lo=items.size:=eq_of_beq q.2;exact hw ⟨qR,qR⟩
 show wpAny _ _ (if (((sIx items.size 0 lo:Nat):Int) == 0&&(1:Int) == 1&&(sIx items.size items.size hi - sIx items.size 0 lo) == items.size)=true then _ else _) _ _ s;rw [if_neg hno,J2A];first
  |exact wpAny_bind (m:=Builtin.Tuple.tupleExact _) (wpAny_newObj_type (wpAny_pure ⟨_,rfl,wpAny_pure h⟩) htake)
  |exact wpAny_bind (m:=Builtin.Tuple.tupleExact _) (wpAny_newObj_type (wpAny_bind (wpAny_pure (wpAny_pure ⟨_,rfl,wpAny_pure h⟩))) htake)
  |exact wpAny_bind (wpAny_bind (m:=Builtin.Tuple.tupleExact _) (wpAny_newObj_type (wpAny_pure (wpAny_pure ⟨_,rfl,wpAny_pure h⟩)) htake))
  |exact wpAny_bind (wpAny_bind (m:=Builtin.Tuple.tupleExact _) (wpAny_newObj_type (wpAny_pure ⟨_,rfl,wpAny_pure h⟩) htake))
end
end HT
namespace L2
open PySem PySem.Spec PyProof.Rows
abbrev TO:=St->Hp->(Option Int->Hp->Prop)->Prop
def PO(X:Cx)(e:Option Expr)(t:TO):Prop:=
 ∀(pins:List (t0×Obj))(s:X0)(σ:St)(H:Hp)(Q:Option Int->Hp->Prop),Inv X pins σ H s->t σ H Q->
  wpAny (model X.prog X.w) X.A (evalPart e X.env) (λ u s'=>∃o H',Inv X pins σ H' s'/\IsPart u o/\Q o H') X.xe s
def J1z:TO:=λ _ H Q=>Q none H
def J5V(t:TE):TO:=λ σ H Q=>t σ H λ x H1=>∃i,x=.int i/\Q (some i) H1
section
variable{X:Cx}{e:Expr}{te:TE}{lo hi:Option Expr}{tl th:TO}{pos p2:Pos}
theorem J0I:PO X none J1z:=by
 intro pins s σ H Q I h;rw[evalPart_none];exact wpAny_pure ⟨none,H,I,.none,h⟩
theorem Z5p(h:PE X e te):PO X (some e) (J5V te):=by
 intro pins s σ H Q I hw;rw[evalPart_some];refine thn (h pins s σ H _ I hw) λ u s1 ⟨x,H1,I1,r1,q1⟩=>?_;obtain⟨i,rfl,q⟩:=q1;obtain⟨t,rfl⟩:=r1;exact⟨some i,H1,I1,.int i t,q⟩
def SlR(X:Cx)(r:V->Option Int->Option Int->Hp->VK->Prop):Prop:=
 ∀(pins:List (t0×Obj))(s:X0)(σ:St)(H:Hp)(x:V)(v vl vu:q0)(lo hi:Option Int)(sl:t0)(Q:VK),Inv X pins σ H s->RelV x v->s.heap.IsSliceOf sl vl vu .none->IsPart vl lo->IsPart vu hi->r x lo hi H Q->
  ∃T id,typeLookup (.type T) "__getitem__"=pure (some (.builtin id))/\s.TypeIs v T/\wpAny (model X.prog X.w) X.A (getItem v (.ref sl)) (EP X pins σ Q) X.xe s
def tSl(r:V->Option Int->Option Int->Hp->VK->Prop)(te:TE)(tl th:TO):TE:=λ σ H Q=>te σ H λ x H1=>tl σ H1 λ l H2=>th σ H2 λ u H3=>r x l u H3 Q
theorem Z5v{r:V->Option Int->Option Int->Hp->VK->Prop}(hr:SlR X r)(he:PE X e te)(hl:PO X lo tl)(hu:PO X hi th):PE X (.Subscript e (.Slice lo hi none p2) pos) (tSl r te tl th):=by
 intro pins s σ H Q I h;refine Subscript_ (thn (he pins s σ H _ I h) λ v s1 ⟨x,H1,I1,r1,q1⟩=>?_);refine wpAny_Slice (thn (hl pins s1 σ H1 _ I1 q1) λ vl s2 ⟨l,H2,I2,pl,q2⟩=>thn (hu pins s2 σ H2 _ I2 q2) λ vu s3 ⟨u,H3,I3,pu,q3⟩=>?_);rw[evalPart_none];refine wpAny_pure ?_;have I4:Inv X pins σ H3 {s3 with heap:=s3.heap.push {cls:=.type "slice",data:=.fields #[vl,vu,.none]}}:=I3.kept (t':=s3.toks) λ b ob q=>Heap.get?_push_of_some _ q;obtain⟨T,id,hT,ht,hg⟩:=hr pins {s3 with heap:=s3.heap.push {cls:=.type "slice",data:=.fields #[vl,vu,.none]}} σ H3 x v vl vu l u s3.heap.objs.size Q I4 r1 (Heap.IsSliceOf.new ..) pl pu q3;show wpAny (model X.prog X.w) X.A (subscriptTail e (.Slice lo hi none p2) v (.ref s3.heap.objs.size)) (EP X pins σ Q) X.xe {s3 with heap:=s3.heap.push {cls:=.type "slice",data:=.fields #[vl,vu,.none]}};exact tail_any (ops:=[.ref s3.heap.objs.size,v]) ht hT hg (by with_unfolding_all rfl)
def cutV(xs:List V)(lo hi:Option Int):List V:=(xs.drop (HT.sIx xs.length 0 lo)).take (HT.sIx xs.length xs.length hi-HT.sIx xs.length 0 lo)
theorem Z4D(xs:List V)(lo hi:Option Int):(cutV xs lo hi).length<=xs.length:=by
 unfold cutV;rw[qg8,qf5];lia
def rSlT(K:y0):V->Option Int->Option Int->Hp->VK->Prop:=λ x lo hi H Q=>∃a xs,x=.ref a/\SqT K H a xs/\
 ¬(HT.sIx xs.length 0 lo=0/\HT.sIx xs.length xs.length hi=xs.length)/\∀p,H p=none->Q (.ref p) (upd H p (.tup (cutV xs lo hi)))
theorem J5H:SlR X (rSlT X.K):=by
 intro pins s σ H x v vl vu lo hi sl Q I rx hs pl pu h;obtain⟨a,xs,rfl,hx,hw,q⟩:=h;cases rx;obtain⟨its,r,ht,hz⟩:=I.tuple hx;have hlen:its.toArray.size=xs.length:=by rw[qa6];exact r.length.symm
 refine⟨"tuple",_,PyProof.Rows.slot_tuple_getitem.lookup,ht.typeIs,?_⟩;refine HT.getItem_tuple_cut ht hs pl pu (by rw[hlen];exact hw) ?_ (by rw[hlen];exact hz);rw[hlen];refine⟨.ref s.heap.objs.size,_,I.laid (t':=s.toks) (o:=.tup (cutV xs lo hi)) (λ b ob q=>Heap.get?_push_of_some _ q) (qa0 _) ?_,rfl,q _ (I.hok.fresh (qa0 _))⟩;exact⟨⟨qa1 (Z4D xs lo hi) hz,Z8W⟩,_,(r.drop (HT.sIx xs.length 0 lo)).take (HT.sIx xs.length xs.length hi-HT.sIx xs.length 0 lo),IsTup.new _ _⟩
def J5r(K:y0):R2:=λ x y H Q=>∃a b xs ys,x=.ref a/\y=.ref b/\SqT K H a xs/\SqT K H b ys/\xs≠[]/\xs.length+ys.length<=sizeLine/\
 (ys=[]->Q (.ref a) H)/\(ys≠[]->∀p,H p=none->Q (.ref p) (upd H p (.tup (xs++ys))))
theorem Vals.nil_iff{xs:List V}{us:List q0}(r:Vals xs us):us=[]↔xs=[]:=by
 cases r with
 |nil=>simp
 |cons _ _=>simp
theorem J3P:OpR X (binaryOp .Add) (J5r X.K):=by
 intro pins s σ H x y v u Q I rx ry h;obtain⟨a,b,xs,ys,rfl,rfl,ha,hb,hx,hz,q1,q2⟩:=h;cases rx;cases ry;obtain⟨its,r1,p1,_⟩:=I.tuple ha;obtain⟨its2,r2,p2,_⟩:=I.tuple hb;refine HT.cat_tup p1 p2 (λ z=>hx (r1.nil_iff.mp z)) (λ z=>⟨.ref a,H,I,rfl,q1 (r2.nil_iff.mp z)⟩) (λ z=>?_) (by rw[<-r1.length,<-r2.length];exact hz);refine⟨.ref s.heap.objs.size,_,I.laid (t':=s.toks) (o:=.tup (xs++ys)) (λ b ob q=>Heap.get?_push_of_some _ q) (qa0 _) ?_,rfl,q2 (λ w=>z (r2.nil_iff.mpr w)) _ (I.hok.fresh (qa0 _))⟩;exact⟨⟨by rw[qa2];exact hz,Z8W⟩,_,r1.append r2,IsTup.new _ _⟩
end
end L2
namespace L2
open PySem PySem.Spec PyProof.Rows
def ixN(n:Nat)(i:Int):Option Nat:=if 0<=i then(if i<n then some i.toNat else none)else if -(n:Int)<=i then some (i+n).toNat else none
def atI{α:Type}(xs:List α)(i:Int):Option α:=(ixN xs.length i).bind λ j=>xs[j]?
theorem J4L{n:Nat}{i:Int}{j:Nat}(h:ixN n i=some j):seqIndex? i n=some j/\j<n/\-(n:Int)<=i/\i<n:=by
 unfold ixN at h;by_cases h0:0<=i
 ·rw[if_pos h0]at h;by_cases h1:i<n
  ·rw[if_pos h1]at h;have e:i.toNat=j:=qd0 h;exact⟨by rw[seqIndex_of h0 h1,e],qR,qR,h1⟩
  ·rw[if_neg h1]at h;cases h
 ·rw[if_neg h0]at h;by_cases h1:-(n:Int)<=i
  ·rw[if_pos h1]at h;have e:(i+n).toNat=j:=qd0 h;exact⟨by rw[seqIndex_neg qR h1,e],qR,h1,qR⟩
  ·rw[if_neg h1]at h;cases h
theorem Z7l{α:Type}{xs:List α}{i:Int}{v:α}(h:atI xs i=some v):∃j,seqIndex? i xs.length=some j/\xs[j]?=some v/\j<xs.length/\-(xs.length:Int)<=i/\i<xs.length:=by
 unfold atI at h;cases e:ixN xs.length i with
 |none=>rw[e]at h;cases h
 |some j=>
  rw[e]at h;obtain⟨h1,h2,h3,h4⟩:=J4L e;exact⟨j,h1,h,h2,h3,h4⟩
theorem Z2H{α:Type}{xs:List α}{j:Nat}{v:α}(h:xs[j]?=some v):atI xs (j:Int)=some v:=by
 have hj:j<xs.length:=(qc6.mp h).1;have e:ixN xs.length (j:Int)=some j:=by
  unfold ixN;rw[if_pos qR,if_pos qR];simp
 unfold atI;rw[e];exact h
theorem J3d{α:Type}(xs:List α)(v:α):atI (xs++[v]) (-1)=some v:=by
 have hl:(xs++[v]).length=xs.length+1:=by simp
 have e:ixN (xs++[v]).length (-1)=some xs.length:=by
  unfold ixN;rw[hl,if_neg qQ,if_pos qR];congr 1;lia
 unfold atI;rw[e];show(xs++[v])[xs.length]?=some v;simp
def Z7q(b:Expr):Prop:=∀o i,subscripted b false o i=operate [o,i] (getItem o i)
def IxR(X:Cx)(r:R2):Prop:=
 ∀(value slice:Expr)(pins:List (t0×Obj))(s:X0)(σ:St)(H:Hp)(x y:V)(v u:q0)(Q:VK),Inv X pins σ H s->RelV x v->RelV y u->r x y H Q->
  subscripted slice false v u=operate [v,u] (getItem v u)->wpAny (model X.prog X.w) X.A (subscriptTail value slice v u) (EP X pins σ Q) X.xe s
def MtR(X:Cx)(id:String)(r:V->List V->Hp->VK->Prop):Prop:=
 ∀(pins:List (t0×Obj))(s:X0)(σ:St)(H:Hp)(x:V)(xs:List V)(v:q0)(us:List q0)(Q:VK),Inv X pins σ H s->RelV x v->Vals xs us->r x xs H Q->
  wpAny (model X.prog X.w) X.A (call (.builtin id) (v::us)) (EP X pins σ Q) X.xe s
section
variable{X:Cx}{a b:Expr}{ta tb:TE}{pos:Pos}
theorem Z5I{r:R2}(hr:IxR X r)(ha:PE X a ta)(hb:PE X b tb)(hs:Z7q b):PE X (.Subscript a b pos) (tOp r ta tb):=by
 intro pins s σ H Q I h;exact Subscript_ (binT ha hb I h λ v u s2 x y H2 I2 rx ry q=>hr a b pins s2 σ H2 x y v u Q I2 rx ry q (hs _ _))
def rIxL(K:y0):R2:=λ x y H Q=>∃p xs i v,x=.ref p/\y=.int i/\SqL K H p xs/\atI xs i=some v/\Q v H
def rIxT(K:y0):R2:=λ x y H Q=>∃p xs i v,x=.ref p/\y=.int i/\SqT K H p xs/\atI xs i=some v/\Q v H
def rIxS:R2:=λ x y H Q=>∃z i c,x=.str z/\y=.int i/\z.length<=sizeLine/\atI z.cps.toList i=some c/\Q (.str ⟨#[c]⟩) H
theorem J4M:IxR X (rIxL X.K):=by
 intro value slice pins s σ H x y v u Q I rx ry h hs;obtain⟨p,xs,i,z,rfl,rfl,hq,he,q⟩:=h;cases rx;obtain⟨t,rfl⟩:=ry;obtain⟨its,r,pl,hz⟩:=I.list hq;obtain⟨j,h1,h2,h3,h4,h5⟩:=Z7l he;obtain⟨w,ew,rw'⟩:=r.get h2;have hl:=r.length;have hn:=Z6c;have fin:EP X pins σ Q w s:=⟨z,H,I,rw',q⟩;by_cases h0:0<=i
 ·have hj:i.toNat=j:=by
   rw[seqIndex_of h0 h5]at h1;exact qd0 h1
  exact item_listR pl.isList h0 qR (by rw[hj];simpa using ew) fin hs
 ·have hj:(i+(its.toArray.size:Int)).toNat=j:=by
   rw[seqIndex_neg qR h4]at h1;rw[qa6,<-hl];exact qd0 h1
  exact subscriptTail_builtinR (x:=w) pl.isList.typeIs slot_list_getitem.lookup
   (wpAny_getItem_list_neg (Q:=λ r s'=>r=w/\EP X pins σ Q r s') pl.isList qR (by rw[qa6]<;>lia) qR (by rw[hj];simpa using ew) ⟨rfl,fin⟩) hs
theorem J6b:IxR X (rIxT X.K):=by
 intro value slice pins s σ H x y v u Q I rx ry h hs;obtain ⟨p,xs,i,z,rfl,rfl,hq,he,q⟩:=h;cases rx;obtain ⟨t,rfl⟩:=ry;obtain ⟨its,r,pl,hz⟩:=I.tuple hq;obtain ⟨j,h1,h2,h3,h4,h5⟩:=Z7l he;obtain ⟨w,ew,rw'⟩:=r.get h2;have hl:=r.length;have hn:=Z6c;have fin:EP X pins σ Q w s:=⟨z,H,I,rw',q⟩;exact subscriptTail_builtinR (x:=w) pl.typeIs slot_tuple_getitem.lookup
  (getItem_tuple (j:=j) (Q:=λ r s'=>r=w/\EP X pins σ Q r s') pl qR qR (by rw[qa6,<-hl];exact h1) (by simpa using ew) ⟨rfl,fin⟩) hs
theorem Z5n:IxR X rIxS:=by
 intro value slice pins s σ H x y v u Q I rx ry h hs;obtain⟨z,i,c,rfl,rfl,hz,he,q⟩:=h;obtain⟨t,rfl⟩:=rx;obtain⟨t',rfl⟩:=ry;obtain⟨j,h1,h2,h3,h4,h5⟩:=Z7l he;have hl:z.cps.toList.length=z.length:=by simp[Str.length]
 rw[hl]at h1 h4 h5;have hn:=Z6c;exact tail_any (typeIs_str s z t) slot_str_getitem.lookup (getItem_str (c:=c) (by
  have e1:decide (i< -(2^63:Int))=false:=decide_eq_false qR;have e2:decide (i>=2^63)=false:=decide_eq_false qR;rw[e1,e2,Bool.or_false]) (by rw[h1];simpa using h2) ⟨.str ⟨#[c]⟩,H,I.tok _,⟨_,rfl⟩,q⟩) hs
theorem Z6w(lo hi:Option Int)(n:Nat):(sliceBounds lo hi none n).1=((HT.sIx n 0 lo:Nat):Int)/\(sliceBounds lo hi none n).2.1=((HT.sIx n n hi:Nat):Int)/\(sliceBounds lo hi none n).2.2=1:=by
 refine⟨?_,?_,rfl⟩
 ·cases lo with
  |none=>simp[sliceBounds,HT.sIx]
  |some i=>
   simp only[sliceBounds,HT.sIx,Option.getD_none,show(1:Int)>0 by decide,if_true];by_cases h:i<0
   ·simp only[h,if_true]<;>lia
   ·simp only[h,if_false]<;>lia
 ·cases hi with
  |none=>simp[sliceBounds,HT.sIx]
  |some i=>
   simp only[sliceBounds,HT.sIx,Option.getD_none,show(1:Int)>0 by decide,if_true];by_cases h:i<0
   ·simp only[h,if_true]<;>lia
   ·simp only[h,if_false]<;>lia
theorem Z5D(its:List q0)(lo hi:Option Int):slicePick its.toArray lo hi none=((its.drop (HT.sIx its.length 0 lo)).take (HT.sIx its.length its.length hi-HT.sIx its.length 0 lo)).toArray:=by
 obtain⟨h1,h2,h3⟩:=Z6w lo hi its.toArray.size;unfold slicePick;rw[h1,h2,h3];simp only[sliceRange_one,pick_run,qa6]<;>rfl
def rSlL(K:y0):V->Option Int->Option Int->Hp->VK->Prop:=λ x lo hi H Q=>∃a xs,x=.ref a/\SqL K H a xs/\∀p,H p=none->Q (.ref p) (upd H p (.lst (cutV xs lo hi)))
theorem J7m:SlR X (rSlL X.K):=by
 intro pins s σ H x v vl vu lo hi sl Q I rx hs pl pu h;obtain⟨a,xs,rfl,hx,q⟩:=h;cases rx;obtain⟨its,r,ht,hz⟩:=I.list hx;have hlen:=r.length;refine⟨"list",_,slot_list_getitem.lookup,ht.isList.typeIs,?_⟩;refine wpAny_getItem_list_slice ht.isList hs pl pu .none (by simp) ?_ (by rw[qa6]<;>lia);rw[Z5D,<-hlen];refine⟨.ref s.heap.objs.size,_,I.laid (t':=s.toks) (o:=.lst (cutV xs lo hi)) (λ b ob q=>Heap.get?_push_of_some _ q) (qa0 _) ?_,rfl,q _ (I.hok.fresh (qa0 _))⟩;exact⟨qa1 (Z4D xs lo hi) hz,_,0,(r.drop (HT.sIx xs.length 0 lo)).take (HT.sIx xs.length xs.length hi-HT.sIx xs.length 0 lo),Heap.get?_push_size _ rfl⟩
def Z3F:V->Bool
 | .non=>true
 | .bl _=>true
 | .int _=>true
 | .str _=>true
 |_=>false
def eqV:V->V->Bool
 | .non,.non=>true
 | .bl a,.bl b=>a==b
 | .bl a,.int b=>(if a then 1 else 0)==b
 | .int a,.bl b=>a==(if b then 1 else 0)
 | .int a,.int b=>a==b
 | .str a,.str b=>a==b
 |_,_=>false
theorem J5c{A:M0}{s:X0}{y x:V}{u v:q0}(ry:RelV y u)(rx:RelV x v)(fy:Z3F y=true)(fx:Z3F x=true):SeqAt.EqAt A s u v (eqV y x):=by
 cases y with
 |non=>
  cases ry;cases x with
  |non=>cases rx;exact SeqAt.EqAt.same _
  |bl b=>cases rx;exact SeqAt.EqAt.none_bool b
  |int b=>obtain⟨t,rfl⟩:=rx;exact SeqAt.EqAt.none_int b t
  |str b=>obtain⟨t,rfl⟩:=rx;exact SeqAt.EqAt.none_str b t
  |_=>exact absurd (show false=true from fx) qa3
 |bl a=>
  cases ry;cases x with
  |non=>cases rx;exact SeqAt.EqAt.bool_none a
  |bl b=>cases rx;exact SeqAt.EqAt.bool_bool a b
  |int b=>obtain⟨t,rfl⟩:=rx;exact SeqAt.EqAt.bool_int a b t
  |str b=>obtain⟨t,rfl⟩:=rx;exact SeqAt.EqAt.bool_str a b t
  |_=>exact absurd (show false=true from fx) qa3
 |int a=>
  obtain⟨t',rfl⟩:=ry;cases x with
  |non=>cases rx;exact SeqAt.EqAt.int_none a t'
  |bl b=>cases rx;exact SeqAt.EqAt.int_bool a t' b
  |int b=>obtain⟨t,rfl⟩:=rx;exact SeqAt.EqAt.int_int a t' b t
  |str b=>obtain⟨t,rfl⟩:=rx;exact SeqAt.EqAt.int_str a t' b t
  |_=>exact absurd (show false=true from fx) qa3
 |str a=>
  obtain⟨t',rfl⟩:=ry;cases x with
  |non=>cases rx;exact SeqAt.EqAt.str_none a t'
  |bl b=>cases rx;exact SeqAt.EqAt.str_bool a t' b
  |int b=>obtain⟨t,rfl⟩:=rx;exact SeqAt.EqAt.str_int a t' b t
  |str b=>obtain⟨t,rfl⟩:=rx;exact SeqAt.EqAt.str_str a t' b t
  |_=>exact absurd (show false=true from fx) qa3
 |_=>exact absurd (show false=true from fy) qa3
def eqU(x:V)(u:q0):Bool:=match u with
 | .none=>eqV .non x
 | .bool b=>eqV (.bl b) x
 | .int i _=>eqV (.int i) x
 | .str z _=>eqV (.str z) x
 |_=>false
theorem J3y{x y:V}{u:q0}(r:RelV y u)(f:Z3F y=true):eqU x u=eqV y x:=by
 cases y with
 |non=>cases r;rfl
 |bl b=>cases r;rfl
 |int i=>obtain⟨t,rfl⟩:=r;rfl
 |str z=>obtain⟨t,rfl⟩:=r;rfl
 |_=>exact absurd (show false=true from f) qa3
theorem Z7x{x:V}:∀{xs:List V}{us:List q0},Vals xs us->xs.all Z3F=true->us.any (eqU x)=xs.any λ y=>eqV y x
 |_,_,.nil,_=>rfl
 |y::xs,u::us,.cons r t,f=>by
  rw[qe3,qc5]at f;rw[List.any_cons,List.any_cons,J3y r f.1,Z7x t f.2]
theorem Z5J{A:M0}{s:X0}{x:V}{v:q0}(rx:RelV x v)(fx:Z3F x=true):∀{xs:List V}{us:List q0},Vals xs us->xs.all Z3F=true->∀u∈us,SeqAt.EqAt A s u v (eqU x u)
 |_,_,.nil,_=>λ u hu=>by cases hu
 |y::xs,u::us,.cons r t,f=>λ u' hu=>by
  rw[qe3,qc5]at f;rcases qb4.mp hu with rfl|hu
  ·rw[J3y r f.1];exact J5c r rx f.1 fx
  ·exact Z5J rx fx t f.2 u' hu
def inV(x:V)(xs:List V):Bool:=xs.any λ y=>eqV y x
def rIn(K:y0)(neg:Bool):R2:=λ x y H Q=>∃p xs,y=.ref p/\(SqL K H p xs\/SqT K H p xs)/\Z3F x=true/\xs.all Z3F=true/\Q (.bl (if neg then !inV x xs else inV x xs)) H
theorem Z2n:OpR X (compareOp .In) (rIn X.K false):=by
 intro pins s σ H x y v u Q I rx ry h;obtain⟨p,xs,rfl,hq,fx,fs,q⟩:=h;cases ry;rcases hq with hq|hq
 ·obtain⟨its,r,pl,hz⟩:=I.list hq;refine SeqAt.in_listAt (eqU x) pl.isList (λ w hw=>Z5J rx fx r fs w (by simpa using hw)) ⟨.bl _,H,I,rfl,?_⟩;rw[show its.toArray.any (eqU x)=its.any (eqU x)by simp,Z7x r fs];exact q
 ·obtain⟨its,r,pl,hz⟩:=I.tuple hq;refine SeqAt.in_tupleAt (eqU x) pl (λ w hw=>Z5J rx fx r fs w (by simpa using hw)) ⟨.bl _,H,I,rfl,?_⟩;rw[show its.toArray.any (eqU x)=its.any (eqU x)by simp,Z7x r fs];exact q
theorem Z6R:Z3l X (.builtin "len") (λ xs H Q=>∃p ys,xs=[.ref p]/\(SqL X.K H p ys\/SqT X.K H p ys)/\Q (.int ys.length) H):=by
 intro pins s σ H xs us Q I r h;obtain⟨p,ys,rfl,hq,q⟩:=h;obtain⟨u,rfl,rx⟩:=Z6Z r;cases rx;have hn:=Z6c;rcases hq with hq|hq
 ·obtain⟨its,r',pl,hz⟩:=I.list hq;have hlen:=r'.length;exact Calls.call_len_list pl.isList (by simp only[qa6]<;>lia) ⟨.int ys.length,H,I.tok _,⟨s.toks+1,by rw[qa6,hlen]⟩,q⟩
 ·obtain⟨its,r',pl,hz⟩:=I.tuple hq;have hlen:=r'.length;exact len_tuple pl (by simp only[qa6]<;>lia) ⟨.int ys.length,H,I.tok _,⟨s.toks+1,by rw[qa6,hlen]⟩,q⟩
theorem Z0P:Z3l X (.builtin "len") (λ xs H Q=>∃z,xs=[.str z]/\z.length<=sizeLine/\Q (.int z.length) H):=by
 intro pins s σ H xs us Q I r h;obtain⟨z,rfl,hz,q⟩:=h;obtain⟨u,rfl,t,rfl⟩:=Z6Z r;have hn:=Z6c;exact len_str qR ⟨.int z.length,H,I.tok _,⟨_,rfl⟩,q⟩
theorem Z6u:Z3l X (.type "list") (λ xs H Q=>∃p ys,xs=[.ref p]/\(SqL X.K H p ys\/SqT X.K H p ys)/\∀l,H l=none->Q (.ref l) (upd H l (.lst ys))):=by
 intro pins s σ H xs us Q I r h;obtain⟨p,ys,rfl,hq,q⟩:=h;obtain⟨u,rfl,rx⟩:=Z6Z r;cases rx;have fin:∀(its:List q0),Vals ys its->ys.length<=sizeLine->∀(h':V0)(c':Nat),(∀b o',s.heap.get? b=some o'->h'.get? b=some o')->
   h'.get? s.heap.objs.size=some {cls:=.type "list",dict:=none,data:=.seq its.toArray c',slots:=#[]}->EP X pins σ Q (.ref s.heap.objs.size) {s with heap:=h'}:=λ its r' hz h' c' kp e=>
  ⟨.ref s.heap.objs.size,_,I.laid (t':=s.toks) kp (qa0 _) (show ObjOk X.prog X.w _ h' _ (.lst ys)from⟨hz,its,c',r',e⟩),rfl,q _ (I.hok.fresh (qa0 _))⟩
 rcases hq with hq|hq
 ·obtain⟨its,r',pl,hz⟩:=I.list hq;have hlen:=r'.length;obtain⟨o,ho,hc,n,hd⟩:=pl.isList;exact call_list_seq p (.inl rfl) ho hc hd (λ h' c' kp e=>fin its r' hz h' c' kp e) (by simp only[qa6]<;>lia)
 ·obtain⟨its,r',pl,hz⟩:=I.tuple hq;have hlen:=r'.length;obtain⟨o,ho,hc,n,hd⟩:=pl;exact call_list_seq p (.inr rfl) ho hc hd (λ h' c' kp e=>fin its r' hz h' c' kp e) (by simp only[qa6]<;>lia)
theorem Z0R:Z3l X (.type "tuple") (λ xs H Q=>∃p ys,xs=[.ref p]/\((SqL X.K H p ys/\∀l,H l=none->Q (.ref l) (upd H l (.tup ys)))\/(SqT X.K H p ys/\Q (.ref p) H))):=by
 intro pins s σ H xs us Q I r h;obtain⟨p,ys,rfl,h⟩:=h;obtain⟨u,rfl,rx⟩:=Z6Z r;cases rx;rcases h with⟨hq,q⟩|⟨hq,q⟩
 ·obtain⟨its,r',pl,hz⟩:=I.list hq;have hlen:=r'.length;refine call_tuple_list pl.isList (λ h' kp=>?_) (by simp only[qa6]<;>lia);have I1:Inv X pins σ H {s with heap:=h'}:=I.kept (t':=s.toks) kp;have I2:Inv X pins σ (upd H h'.objs.size (.tup ys)) {s with heap:=h'.push {cls:=.type "tuple",data:=.seq its.toArray}}:=
   I1.laid (t':=s.toks) (λ b o e=>Heap.get?_push_of_some _ e) (qa0 _) (show ObjOk X.prog X.w _ _ _ (.tup ys)from⟨⟨hz,Z8W⟩,its,r',IsTup.new _ _⟩)
  exact⟨.ref h'.objs.size,_,I2,rfl,q _ (I1.hok.fresh (qa0 _))⟩
 ·obtain⟨its,r',pl,hz⟩:=I.tuple hq;exact call_tuple_same pl ⟨.ref p,H,I,rfl,q⟩
def tyV(K:y0)(T:String)(x:V)(H:Hp):Prop:=match x with
 | .str _=>T="str"
 | .int _=>T="int"
 | .ref p=>(T="list"/\∃xs,SqL K H p xs)\/(T="tuple"/\∃o,K.lookup p=some o/\o.cls=.type "tuple"/\o.dict=none)\/
   (T="dict"/\((∃kvs,H p=some (.dK kvs))\/∃kvs,H p=some (.dT kvs)))\/(T="set"/\∃S n,H p=some (.set S n))
 |_=>False
theorem J6j{pins:List (t0×Obj)}{σ:St}{H:Hp}{s:X0}{T:String}{x:V}{v:q0}(I:Inv X pins σ H s)(r:RelV x v)(ty:tyV X.K T x H):s.TypeIs v T/\∀a,v=.ref a->∃ob,s.heap.get? a=some ob/\ob.dict=none:=by
 cases x with
 |str z=>
  obtain⟨t,rfl⟩:=r;cases(show T="str" from ty);exact⟨typeIs_str s z t,λ _ e=>nomatch e⟩
 |int i=>
  obtain⟨t,rfl⟩:=r;cases(show T="int" from ty);exact⟨typeIs_int s i t,λ _ e=>nomatch e⟩
 |ref p=>
  cases r;rcases ty with⟨rfl,xs,hq⟩|⟨rfl,o,hk,hc,hd⟩|⟨rfl,hk⟩|⟨rfl,S,n,hk⟩
  ·obtain⟨its,_,pl,_⟩:=I.list hq;refine⟨pl.isList.typeIs,λ a e=>?_⟩;cases e;obtain⟨o,n,e,c,hd,_⟩:=pl;exact⟨o,e,hd⟩
  ·refine⟨⟨o,I.kIn p o hk,hc⟩,λ a e=>?_⟩;cases e;exact⟨o,I.kIn _ o hk,hd⟩
  ·have z:∃o,s.heap.get? p=some o/\o.ExactDict:=by
    rcases hk with⟨kvs,hk⟩|⟨kvs,hk⟩
    ·obtain⟨_,_,_,_,o,_,_,e,ex,_⟩:=I.hok p _ hk;exact⟨o,e,ex⟩
    ·obtain⟨_,_,_,_,o,_,_,e,ex,_⟩:=I.hok p _ hk;exact⟨o,e,ex⟩
   obtain⟨o,e,ex⟩:=z;refine⟨⟨o,e,ex.1⟩,λ a e2=>?_⟩;cases e2;exact⟨o,e,ex.2.1⟩
  ·obtain⟨o,_,_,_,e,ex,_⟩:=I.hok p _ hk;refine⟨⟨o,e,ex.1⟩,λ a e2=>?_⟩;cases e2;exact⟨o,e,ex.2.1⟩
 |_=>exact False.elim ty
def tBM(K:y0)(T:String)(r:V->List V->Hp->VK->Prop)(to:TE)(t:TA):TE:=λ σ H Q=>to σ H λ x H1=>tyV K T x H1/\t σ H1 λ xs H2=>r x xs H2 Q
variable{o e:Expr}{es:List Expr}{to:TE}{t:TA}{name:Z0}{apos cpos:Pos}{T id:String}{r:V->List V->Hp->VK->Prop}
theorem Z4M(pa:PlainAttrs T)(slot:Slot T name id)(hty:typeOf (.builtin id)=pure (.type "method_descriptor"))(hm:MtR X id r)(ho:PE X o to)(ha:PA X (e::es) t)(hbase:attributeBase o name X.env (eval o X.env)=eval o X.env:=by rfl)(hfew:((backTo cpos (starEach (e::es) X.env)).all (λ x=>!x.1)&&(backToKw cpos (keywordEach [] X.env)).all (λ x=>x.1.isSome)&&decide ((e::es).length+([]:List Keyword).length+(if([]:List Keyword).isEmpty then 0 else 1)<30))=true:=by rfl)(hline:(apos.endLine==cpos.line)=true:=by rfl)(hs:starEach (e::es) X.env=(false,eval e X.env)::starEach es X.env:=by rfl)(hplain:(backTo cpos (starEach es X.env)).any (·.1)=false:=by rfl):PE X (.Call (.Attribute o name apos) (e::es) [] cpos) (tBM X.K T r to t):=by
 intro pins s σ H Q I h;refine wpAny_Call_method_late hbase hfew hline rfl (thn (ho pins s σ H _ I h) λ v s1 ⟨x,H1,I1,r1,ty,q1⟩=>?_);obtain⟨h1,h2⟩:=J6j I1 r1 ty;refine⟨T,id,pa,slot,hty,h1,h2,?_⟩;have hA:=ha cpos pins s1 σ H1 _ I1 q1;rw[hs]at hA ⊢;refine Calls.callWith_builtin (by show(false||(backTo cpos (starEach es X.env)).any (·.1))=false;rw[hplain]<;>rfl) (Calls.evalArgs_plain ?_);exact thn hA λ us s2 ⟨vs,H2,I2,r2,q2⟩=>hm pins s2 σ H2 x vs v us Q I2 r1 r2 q2
end
end L2
namespace L2
open PySem PySem.Spec PyProof.Rows
def MtM(X:Cx)(id:String)(r:V->List V->Hp->VK->Prop):Prop:=
 ∀(pins:List (t0×Obj))(s:X0)(σ:St)(H:Hp)(x:V)(xs:List V)(v:q0)(us:List q0)(Q:VK),Inv X pins σ H s->RelV x v->Vals xs us->r x xs H Q->
  wpAny (model X.prog X.w) X.A (call (.builtin id) (v::us)) (EP X pins σ Q) X.xe s
theorem Vals.one:∀{x:V}{us:List q0},Vals [x] us->∃u,us=[u]/\RelV x u
 |_,_,.cons r .nil=>⟨_,rfl,r⟩
theorem Vals.two:∀{x y:V}{us:List q0},Vals [x,y] us->∃u v,us=[u,v]/\RelV x u/\RelV y v
 |_,_,_,.cons r (.cons q .nil)=>⟨_,_,rfl,r,q⟩
theorem Vals.rep{xs:List V}{us:List q0}(h:Vals xs us):∀k:Nat,Vals (qa4 k xs).flatten (qa4 k us).flatten
 |0=>.nil
 |k+1=>by
  rw[qb9,qb9,qc8,qc8];exact Vals.append h (Vals.rep h k)
theorem Z6I(its:List q0):∀(k:Nat)(acc:List q0),List.foldl (λ x1 x2=>x1++x2) acc.toArray (qa4 k its.toArray)=(acc++(qa4 k its).flatten).toArray
 |0,acc=>by simp
 |k+1,acc=>by
  have e:acc.toArray++its.toArray=(acc++its).toArray:=by simp
  have e2:(acc++its)++(qa4 k its).flatten=acc++(qa4 (k+1) its).flatten:=by
   rw[qb9,qc8,qa8]
  rw[<-e2,<-Z6I its k (acc++its),<-e,qb9,List.foldl_cons]
section
variable{X:Cx}{pins:List (t0×Obj)}{σ:St}{H:Hp}{s:X0}{l b:t0}{xs ys zs:List V}
theorem Inv.lset{its its':List q0}{n:Nat}{f:Array q0->Array q0}{t':Nat}(I:Inv X pins σ H s)(hH:H l=some (.lst xs))(e:s.heap.get? l=some {cls:=.type "list",data:=.seq its.toArray n})(hf:f its.toArray=its'.toArray)(hv:Vals ys its')(hz:ys.length<=sizeLine):Inv X pins σ (upd H l (.lst ys)) {s with heap:=s.heap.update l (Obj.mapSeq f),toks:=t'}:=by
 have q:=PySem.IsL.update e f;rw[hf]at q;refine I.write (x:=l) (e:=l) (by rw[hH];exact trivial) (.inl rfl) (λ b' u hb hu=>(Heap.get?_update_other s.heap (Obj.mapSeq f) (Ne.symm hb)).trans hu) ⟨_,q⟩ ?_;exact⟨hz,its',_,hv,q⟩
theorem Inv.lnew{its:List q0}{t':Nat}(I:Inv X pins σ H s)(hv:Vals ys its)(hz:ys.length<=sizeLine):Inv X pins σ (upd H s.heap.objs.size (.lst ys)) {s with heap:=s.heap.push {cls:=.type "list",data:=.seq its.toArray},toks:=t'}:=
 I.laid (λ _ _ q=>Heap.get?_push_of_some _ q) (qa0 _) ⟨hz,its,0,hv,Heap.get?_push_size _ rfl⟩
theorem Inv.fresh(I:Inv X pins σ H s):H s.heap.objs.size=none:=I.hok.fresh (qa0 _)
theorem Inv.lstM(I:Inv X pins σ H s)(hH:H l=some (.lst xs)):xs.length<=sizeLine/\∃(its:List q0)(n:Nat),Vals xs its/\xs.length=its.length/\s.heap.get? l=some {cls:=.type "list",data:=.seq its.toArray n}:=by
 obtain⟨z,its,n,r,e⟩:=I.hok l _ hH;exact⟨z,its,n,r,r.length,e⟩
theorem Z8J{n:Nat}(h:n<=sizeLine):Builtin.List.listTooLong n=false:=by
 unfold Builtin.List.listTooLong;exact decide_eq_false qR
end
section
variable{X:Cx}
def Z7r:V->List V->Hp->VK->Prop:=λ x vs H Q=>∃l xs y,x=.ref l/\vs=[y]/\H l=some (.lst xs)/\xs.length<sizeLine/\Q .non (upd H l (.lst (xs++[y])))
theorem Z1H:MtM X "list.append" Z7r:=by
 intro pins s σ H x vs v us Q I rx rv h;obtain⟨l,xs,y,rfl,rfl,hH,hz,q⟩:=h;cases rx;obtain⟨u,rfl,ru⟩:=rv.one;obtain⟨z,its,n,r,hl,e⟩:=I.lstM hH;refine call_meets F.slot_list_append ⟨_,e,rfl⟩ F.entry_list_append (F.args_list_append_2 _ _) (PySem.list_append l its.toArray n u (by rw[qa6];lia)) ⟨e,?_⟩;refine⟨.non,_,I.lset (its':=its++[u]) hH e (by simp) (r.append (.cons ru .nil)) ?_,rfl,q⟩;rw[qa2,List.length_singleton];lia
def J0q:V->List V->Hp->VK->Prop:=λ x vs H Q=>∃l b xs zs,x=.ref l/\vs=[.ref b]/\H l=some (.lst xs)/\H b=some (.lst zs)/\xs.length+zs.length<=sizeLine/\Q .non (upd H l (.lst (xs++zs)))
theorem J0n:MtM X "list.extend" J0q:=by
 intro pins s σ H x vs v us Q I rx rv h;obtain⟨l,b,xs,zs,rfl,rfl,hH,hB,hz,q⟩:=h;cases rx;obtain⟨u,rfl,ru⟩:=rv.one;cases ru;obtain⟨z,its,n,r,hl,e⟩:=I.lstM hH;obtain⟨z2,its2,n2,r2,hl2,e2⟩:=I.lstM hB;have hsz:its.toArray.size+its2.toArray.size<=sizeLine:=by rw[qa6,qa6];lia
 have hlong:¬(!its.toArray.isEmpty&&Builtin.List.listTooLong (its.toArray.size+its2.toArray.size))=true:=by
  rw[Z8J hsz,Bool.and_false];exact qa3
 refine call_meets F.slot_list_extend ⟨_,e,rfl⟩ F.entry_list_extend (F.args_list_extend_2 _ _)
  (AutoSeq1.list_extend_list_list_0 l its.toArray n b its2.toArray n2 hlong (by rw[qa6];lia) qR) ⟨e,e2,?_⟩
 refine⟨.non,_,I.lset (its':=its++its2) hH e (by simp) (r.append r2) ?_,rfl,q⟩;rw[qa2];lia
def rCat:R2:=λ x y H Q=>∃l b xs zs,x=.ref l/\y=.ref b/\H l=some (.lst xs)/\H b=some (.lst zs)/\xs.length+zs.length<=sizeLine/\∀p,H p=none->Q (.ref p) (upd H p (.lst (xs++zs)))
theorem J3x:OpR X (binaryOp .Add) rCat:=by
 intro pins s σ H x y v u Q I rx ry h;obtain⟨l,b,xs,zs,rfl,rfl,hH,hB,hz,q⟩:=h;cases rx;cases ry;obtain⟨z,its,n,r,hl,e⟩:=I.lstM hH;obtain⟨z2,its2,n2,r2,hl2,e2⟩:=I.lstM hB;refine PySem.P.add_list e e2 ?_ (by rw[qa6,qa6];lia);have ea:its.toArray++its2.toArray=(its++its2).toArray:=by simp
 rw[ea];exact⟨.ref _,_,I.lnew (t':=s.toks) (r.append r2) (by rw[qa2];lia),rfl,q _ I.fresh⟩
def rRep:R2:=λ x y H Q=>∃l k xs,x=.ref l/\y=.int k/\H l=some (.lst xs)/\-(2^63)<=k/\k<2^63/\xs.length*k.toNat<=sizeLine/\
 ∀p,H p=none->Q (.ref p) (upd H p (.lst (qa4 k.toNat xs).flatten))
theorem J4J{α:Type}(xs:List α)(k:Nat):(qa4 k xs).flatten.length=k*xs.length:=by
 induction k with
 |zero=>simp
 |succ k ih=>rw[qb9,qc8,qa2,ih,Nat.succ_mul,Nat.add_comm]
theorem J3C:OpR X (binaryOp .Mult) rRep:=by
 intro pins s σ H x y v u Q I rx ry h;obtain⟨l,k,xs,rfl,rfl,hH,h1,h2,hz,q⟩:=h;cases rx;obtain⟨t,rfl⟩:=ry;obtain⟨z,its,n,r,hl,e⟩:=I.lstM hH;have hlen:its.toArray.size*k.toNat<=sizeLine:=by rw[qa6,<-hl];exact hz
 have hcap:¬its.toArray.size*k.toNat>(2^63-1)/8:=by
  have:(sizeLine:Nat)<=(2^63-1)/8:=by decide
  lia
 have hfit:¬(!Builtin.List.listFitsIndex k)=true:=by
  rw[fitsIndex_both h1 h2];exact qa3
 have hlong:¬Builtin.List.listTooLong (its.toArray.size*k.toNat)=true:=by
  rw[Z8J hlen];exact qa3
 have hnew:List.foldl (λ x1 x2=>x1++x2) #[] (qa4 (if its.toArray.isEmpty=true then 0 else k.toNat) its.toArray)=(qa4 k.toNat its).flatten.toArray:=by
  have f0:∀m:Nat,List.foldl (λ x1 x2=>x1++x2) #[] (qa4 m its.toArray)=(qa4 m its).flatten.toArray:=λ m=>by
   have:=Z6I its m [];rw[List.nil_append]at this;exact this
  rw[f0];cases its with
  |nil=>simp
  |cons a r'=>rw[if_neg (by simp)]
 refine wpAny_binaryOp_repeat_ref (T:="list") (U:="int") qQ ⟨_,e,rfl⟩ (λ s'=>typeIs_int s' k t) noFill_list_mul F.fills_int_mul F.slot_int_rmul repeat_list F.slot_int_index.lookup
  (call_meets F.slot_int_rmul (typeIs_int s k t) F.entry_int_rmul (F.args_int_rmul_2 _ _) (int___rmul___int_list k t l its.toArray n) ⟨e,rfl,⟨_,e,rfl⟩,call_meets F.slot_list_mul ⟨_,e,rfl⟩ F.entry_list_mul (F.args_list_mul_2 _ _) (AutoListH.list___mul___list_int_3 l its.toArray n k t hfit hcap hlong) ⟨e,?_⟩⟩)
 rw[hnew];exact⟨.ref _,_,I.lnew (t':=s.toks) (r.rep k.toNat) (by rw[J4J,Nat.mul_comm];exact hz),rfl,q _ I.fresh⟩
end
section
variable{prog:Program}{w:U0}{A:M0}{E:q0->X0->Prop}{s:X0}
set_option maxRecDepth 100000 in
end
end L2
namespace Att
open PySem PySem.W PySem.Calls PyProof.Rows
theorem Z4A{P:Params}{h:V0}:∀(ns:List Int)(vs:List q0),WellAll P h vs (ns.map WData.int)->IntsAre vs ns:=by
 intro ns;induction ns with
 |nil=>
  intro vs w;rw[List.map_nil]at w;cases w;exact .nil
 |cons n ns ih=>
  intro vs w;rw[qc0]at w;cases w with
  |cons a b=>
   cases a;exact .cons _ _ (ih _ b)
theorem J0a{l:OpenLaw}{n:Nat}(hn:l.most=some n){P:Params}{h:V0}{args:List WData}{vals:List q0}(hpre:l.row.toRowW.claim.pre args=true)(hwl:WellAll P h vals args):∃a vs ns,vals=[Value.ref a]/\args=[WData.list (ns.map WData.int)]/\h.get? a=some {cls:=.type "list",data:=.seq vs.toArray}/\IntsAre vs ns/\ns.length<=n:=by
 have hsh:WShape.hasAll [] args [.list .int]=true:=(pre_splitW hpre).1;have hc:l.pre.holds [] {args:=args}=true:=(pre_splitW hpre).2;obtain⟨d,r,rfl,h1,h2⟩:=hasAllW_cons hsh;obtain rfl:=hasAllW_nil h2;obtain⟨xs,rfl,h3⟩:=hasW_list h1;obtain⟨ns,rfl⟩:=items_int h3;have hlen:ns.length<=n:=by
  unfold OpenLaw.pre at hc;have h4:(WTm.not (.lt (.lit (.int (n:Int))) (.len (.arg 0)))).holds [] {args:=[.list (ns.map .int)]}=true:=by
   have h4:=(holds_andW hc).1;rw[hn]at h4;exact h4
  have h5:=condW_of h4 (w_not (w_lt w_lit (w_len_list (w_arg rfl))));rw[qb0]at h5;refine qd4 λ q=>?_;have q':(n:Int)<((ns.length:Nat):Int):=by lia
  first
   |(rw[decide_eq_true q']at h5;exact absurd h5 qQ)
   |(simp at h5;lia)
 cases hwl with
 |cons w1 w2=>
  cases w2;cases w1 with
  |list ho hall=>exact⟨_,_,ns,rfl,rfl,ho,Z4A ns _ hall,hlen⟩
theorem Z9S(l:OpenLaw)(args:List WData):l.row.toRowW.claim.post args (.bool true) args=true:=
 postW_of (r:=l.row.toRowW) (X:=(true == true))
  (show WShape.has [] (.bool true) .bool=true by first|rfl|decide|simp[WShape.has,WShape.arms,WShape.armsAll])
  (show(WTm.eq .res (.lit (.bool true))).value [] {args:=args,res:=some (.bool true),after:=args}=some (.bool (true==true))from w_eq_bool (w_res rfl) w_lit) rfl
theorem attach_call{l:OpenLaw}{n:Nat}{q:Program}{loose:List Z0}{XP:(Z0->Option q0)->V0->Prop}{YP:U0->V0->Prop}{d:DefRec}(hn:l.most=some n)(hdf:d.params.defaults=[])(call:∀(w:U0)(s₀ s₁:X0)(mg mb:Z0->Option q0)(fa:t0)(o:Obj)(pm cd doc:q0)(a:t0)(vs:List q0)(ns:List Int),Ground q loose [] XP w s₀ mg mb s₁.heap->YP w s₁.heap->s₁.heap.get? fa=some o->o.data=.func (docDef d.name d.params d.body d.scope pm cd doc)->s₁.heap.CodeRec cd d.name->mg d.name=some (.ref fa)->s₁.heap.get? a=some {cls:=.type "list",data:=.seq vs.toArray}->IntsAre vs ns->ns.length<=n->s₁.gens=#[]->codeAny (model l.prog w) callerA (.call (.ref fa) ⟨[.ref a],[]⟩) (λ r s'=>r=.ok (.ret (.bool true))/\OldK s₁.heap s'.heap/\s'.os=s₁.os/\AllBare s'.gens) s₁):WalkO q loose XP YP l.row.toRowW d [] (λ f vs=>PySem.call f vs):=by
 intro w s₀ s₁ mg mb G Y fa o pm cd doc dV kV ho hd hcd hD hmg hg args vals as hpre hlay hrd hwl hlo;obtain rfl:dV=.none:=Dflts.none hD hdf;obtain rfl:kV=.none:=Dflts.noKw hD;obtain⟨a,vs,ns,rfl,rfl,hobj,hints,hlen⟩:=J0a hn hpre hwl;refine enter_call (codeAny_mono (call w s₀ s₁ mg mb fa o pm cd doc a vs ns G Y ho (fd_plain hd) hcd hmg hobj hints hlen hg) λ r s' hq=>?_);obtain⟨rfl,h2,h3,h4⟩:=hq;exact⟨.inl ⟨.bool true,.bool true,[],rfl,λ _=>rfl,.bool true,Z9S l _,λ _=>⟨List.Pairwise.nil,λ _ hm=>(nomatch hm)⟩⟩,h2,h3,h4⟩
section
variable{prog:Program}{w:U0}{A:M0}{E:q0->X0->Prop}{s:X0}{K:Frag}
def J8b(h:V0)(L d:t0):List (t0×Obj):=(qd5 h.objs.size).filterMap λ a=>if a=L\/a=d then none else(h.get? a).map λ o=>(a,o)
end
end Att
namespace L2
open PySem PySem.Spec PyProof.Rows
theorem Z4g:∀{vs:List q0}{ns:List Int},IntsAre vs ns->Vals (ns.map V.int) vs
 |_,_,.nil=>.nil
 |_,_,.cons n t h=>.cons ⟨t,rfl⟩ (Z4g h)
def Only(H:Hp):Prop:=∀b,H b=none\/∃o xs,H b=some (.frz o (.lst xs))
theorem J2T{P:Program}{w:U0}{K:y0}{mg mb:Z0->Option q0}{CX:CXT}{k:Nat}{fa a:t0}{fd:FuncData}{x:Z0}{sp:Sp}{s₁:X0}{vs:List q0}{ns:List Int}(KX:K.In s₁.heap)(hns:s₁.heap.Ns mainGlobals mg)(hb:s₁.heap.Ns builtinsNs mb)(hbb:∀x:Z0,x≠"__name__"->mb x=bootBuiltins x)(hlim:s₁.heap.NoLimit)(hg:s₁.gens=#[])(ha:s₁.heap.get? a=some {cls:=.type "list",data:=.seq vs.toArray})(hi:IntsAre vs ns)(hl:ns.length<=sizeLine)(hr:Room k callerA)(F:∀base:V0,K.In base->base.Ns mainGlobals mg->FnOk P w K mg base CX k fa fd [x] sp)(hbind:∀(s:X0)(u:q0),BindsTo s fd ⟨[u],[]⟩ [(x,u)])(hsp:∀H:Hp,Only H->SqL K H a (ns.map V.int)->sp [.ref a] H (λ v _=>v=.bl true) λ _ _ _=>False)(hCX:∀H e s',CX [] H s₁ (λ _ _ _=>False) e s'->False):codeAny (model P w) callerA (.call (.ref fa) ⟨[.ref a],[]⟩) (λ r s'=>r=.ok (.ret (.bool true))/\OldK s₁.heap s'.heap/\s'.os=s₁.os/\AllBare s'.gens) s₁:=by
 have rv:=Z4g hi;have lenV:=hi.length
 --from an abstract heap in which nothing but the script may be tracked
 have core:∀H:Hp,Only H->SqL K H a (ns.map V.int)->HOk P w H s₁.heap->(∀b,H b≠none->b=a)->(H a≠none->K.lookup a=none)->
   codeAny (model P w) callerA (.call (.ref fa) ⟨[.ref a],[]⟩) (λ r s'=>r=.ok (.ret (.bool true))/\OldK s₁.heap s'.heap/\s'.os=s₁.os/\AllBare s'.gens) s₁:=by
  intro H hO hS hok hA hK;have base_of:∀{b:t0}{o:Obj},s₁.heap.get? b=some o->H b=none->(hidT s₁.heap H).get? b=some o:=λ e n=>Z8E e n;have noA:∀{b:t0}{o:Obj}{es:Array DictEntry}{ep:Nat},s₁.heap.get? b=some o->o.data=.dict es ep->H b=none:=λ{b o es ep} e d=>by
   cases q:H b with
   |none=>rfl
   |some u=>
    have e':b=a:=hA b (by rw[q];simp);subst e';rw[ha]at e;cases e;have d':Data.seq vs.toArray _=Data.dict es ep:=d;cases d'
  have nsK:∀{b:t0}{m:Z0->Option q0},s₁.heap.Ns b m->(hidT s₁.heap H).Ns b m:=λ{b m} ⟨o,es,ep,e,d,r⟩=>⟨o,es,ep,base_of e (noA e d),d,r⟩;have hKb:K.In (hidT s₁.heap H):=λ b o e=>base_of (KX b o e) (by
   cases q:H b with
   |none=>rfl
   |some u=>
    have e':b=a:=hA b (by rw[q];simp);subst e';rw[hK (by rw[q];simp)]at e;cases e)
  have hM:Mod K mg (hidT s₁.heap H):=⟨hKb,nsK hns,⟨mb,nsK hb,hbb⟩,let⟨mc,h1,h2⟩:=hlim;⟨mc,nsK h1,h2⟩⟩;have e0:Env0 P w K mg (hidT s₁.heap H) callerA [] s₁ H:=⟨rfl,hM,λ b o e=>J1v e,qf3 (Z6B _ _),trivial,λ b hb=>absurd (show b∈([]:List t0)from hb) (by simp),hok,.of_eq hg⟩;refine codeAny_mono ((F _ hKb (nsK hns)).run callerA [] s₁ H ⟨[.ref a],[]⟩ [.ref a] [.ref a] _ _ hr e0 (hbind s₁ (.ref a)) (.cons rfl .nil) (hsp H hO hS)) λ r s' h=>?_;cases r with
  |error e=>exact(hCX H e s' h).elim
  |ok fl=>
   cases fl with
   |next=>exact False.elim h
   |brk=>exact False.elim h
   |cont=>exact False.elim h
   |ret u=>
    obtain⟨v,H',os,bare,un,hok',r',q⟩:=h;have q':v=.bl true:=q;subst q';obtain rfl:u=Value.bool true:=r';refine⟨rfl,OldK.of_keep λ b o e=>?_,os,bare⟩;cases q:H b with
    |none=>exact un.keep b o e q (by intro z;exact absurd (show b∈([]:List t0)from z) (by simp)) (by simp)
    |some u=>
     rcases hO b with z|⟨ob,xs,z⟩
     ·rw[q]at z;cases z
     ·have z2:=un.frzs b ob _ z;obtain⟨e1,_⟩:=hok b _ z;obtain⟨e2,_⟩:=hok' b _ z2;rw[e]at e1;cases e1;exact e2
 cases hk:K.lookup a with
 |some o=>
  --the script is one of the module's own objects
  have e:=KX a o hk;rw[ha]at e;cases e;refine core (λ _=>none) (λ _=>.inl rfl) (.inr ⟨_,vs.toArray,_,hk,rfl,rfl,rfl,by rw[qa6,lenV];exact hl,by simpa using rv⟩) (λ b u z=>by have z':(none:Option HO)=some u:=z;cases z') (λ b z=>absurd rfl z) λ z=>absurd rfl z
 |none=>
  refine core (λ b=>if b=a then some (.frz {cls:=.type "list",data:=.seq vs.toArray} (.lst (ns.map V.int)))else none) (λ b=>?_) (.inl (.inr ⟨{cls:=.type "list",data:=.seq vs.toArray},if_pos rfl⟩)) (λ b u z=>?_) (λ b z=>?_) λ _=>hk
  ·by_cases hb:b=a
   ·exact .inr ⟨_,_,if_pos hb⟩
   ·exact .inl (if_neg hb)
  ·by_cases hb:b=a
   ·have z':=(if_pos hb).symm.trans z;cases z';subst hb;exact⟨ha,by rw[qb0];exact hl,vs,_,rv,ha⟩
   ·have z':=(if_neg hb).symm.trans z;cases z'
  ·by_cases hb:b=a
   ·exact hb
   ·exact absurd (if_neg hb) z
end L2
namespace L2
open PySem PySem.Spec PyProof.Rows
abbrev KOf{K:y0}{h:V0}(_:K.In h):y0:=K
theorem J7P{l:W.OpenLaw}{n k:Nat}{q:Program}{loose:List Z0}{XP:(Z0->Option q0)->V0->Prop}{YP:U0->V0->Prop}{d:DefRec}{K:Params->y0}{CX:U0->CXT}{sp:U0->Sp}{x:Z0}(hn:l.most=some n)(hn2:n<=sizeLine)(hdf:d.params.defaults=[])(hr:Room k callerA)(hY:∀(w:U0)(h:V0),YP w h->(K w.params).In h)(F:∀(w:U0)(mg:Z0->Option q0)(fa:t0)(h:V0),(K w.params).In h->h.Ns mainGlobals mg->mg d.name=some (.ref fa)->∃fd:FuncData,(∀(s:X0)(u:q0),BindsTo s fd ⟨[u],[]⟩ [(x,u)])/\∀base:V0,(K w.params).In base->base.Ns mainGlobals mg->FnOk l.prog w (K w.params) mg base (CX w) k fa fd [x] (sp w))(hsp:∀(w:U0)(H:Hp)(a:t0)(ns:List Int),ns.length<=n->Only H->SqL (K w.params) H a (ns.map V.int)->sp w [.ref a] H (λ v _=>v=.bl true) λ _ _ _=>False)(hCX:∀(w:U0)(H:Hp)(s:X0)(e:q0)(s':X0),CX w [] H s (λ _ _ _=>False) e s'->False):W.WalkO q loose XP YP l.row.toRowW d [] (λ f vs=>PySem.call f vs):=by
 refine Att.attach_call hn hdf λ w s₀ s₁ mg mb fa o pm cd doc a vs ns G Y ho hd hcd hmg hobj hints hlen hg=>?_;have KX:=hY w _ Y;obtain⟨fd,hb,hF⟩:=F w mg fa _ KX G.T.g hmg;exact J2T KX G.T.g G.T.b G.T.builtins G.T.nolimit hg hobj hints (qa1 hlen hn2) hr hF hb (λ H hO hS=>hsp w H a ns hlen hO hS) λ H e s'=>hCX w H s₁ e s'
end L2
namespace L2
open PySem PySem.Spec PyProof.Rows
abbrev CX0:CXT:=λ _ _ _ _ _ _=>False
abbrev E0:XK:=λ _ _ _=>False
theorem Z4N{X:Cx}:Z3N CX0 X E0:=λ _ _ _ _ _ _ _ h=>h.elim
structure Fun(K:y0)(x qual:Z0)(st:Stmt)(f:t0)(fd:FuncData):Prop where
 ex:∃(oc:q0)(od:Option t0)(kV doc pm:q0)(an:Option t0)(cdv ct:q0)(osl:Array (Option q0)),
  fd=W.fnOf x qual (Z0Q st) (Z0B st) (Z0e st) .none kV doc pm an cdv ct/\K.lookup f=some ⟨oc,od,.func fd,osl⟩/\W.codeIn K cdv qual=true
 kp:W.keepIn K (.ref f)=true
section
variable{P:Program}{w:U0}{K:y0}{mg:Z0->Option q0}{base:V0}
theorem Fun.ok{x qual:Z0}{st:Stmt}{f:t0}{fd:FuncData}{N ps:List Z0}{k:Nat}{sp:Sp}(F:Fun K x qual st f fd)(S:Z0n N ps (Z0e st))(len:∀vs H Q E,sp vs H Q E->vs.length=ps.length)(hbody:∀(cdv:q0)(A:M0)(outer:List Env)(s:X0)(H:Hp)(vs:List V)(Q:VK)(E:XK),Room k (A.deeper (envOfC qual (Z0e st) s.heap.objs.size f cdv))->sp vs H Q E->∃t,PSs (cxOf CX0 P w K mg base N qual (Z0e st) f cdv A outer s H E).nox (Z0B st) t/\t {nx:=λ _ H'=>Q .non H',rt:=Q} (Z3w N vs) H):FnOk P w K mg base CX0 (k+1) f fd ps sp:=by
 obtain⟨oc,od,kV,doc,pm,an,cdv,ct,osl,rfl,lk,hcd⟩:=F.ex;refine J4F lk hcd S len λ A outer s H vs Q E hr hsp=>?_;obtain⟨t,h,q⟩:=hbody cdv A outer s H vs Q E hr hsp;exact⟨t,h.nox,q⟩
theorem Fun.binds{x qual:Z0}{st:Stmt}{f:t0}{fd:FuncData}{ps:List Z0}(F:Fun K x qual st f fd)(h:∀(kV doc pm:q0)(an:Option t0)(cdv ct:q0)(us:List q0),us.length=ps.length->bindArgs (W.fnOf x qual (Z0Q st) (Z0B st) (Z0e st) .none kV doc pm an cdv ct) ⟨us,[]⟩=pure (ps.zip us)):Binds K fd ps []:=by
 obtain⟨oc,od,kV,doc,pm,an,cdv,ct,osl,rfl,lk,hcd⟩:=F.ex;exact .all (h kV doc pm an cdv ct)
theorem Z8r{x qual:Z0}{st:Stmt}{f:t0}{oc:q0}{od an:Option t0}{osl:Array (Option q0)}{kV doc pm cdv ct:q0}(l:K.lookup f=some ⟨oc,od,.func (W.fnOf x qual (Z0Q st) (Z0B st) (Z0e st) .none kV doc pm an cdv ct),osl⟩)(c:W.codeIn K cdv qual=true)(k:W.keepIn K (.ref f)=true):Fun K x qual st f (W.fnOf x qual (Z0Q st) (Z0B st) (Z0e st) .none kV doc pm an cdv ct):=⟨⟨oc,od,kV,doc,pm,an,cdv,ct,osl,rfl,l,c⟩,k⟩
end
theorem J7i{A:M0}{k:Nat}(hr:Room k A):A.units+1<cLine:=qi6 (Nat.add_le_add_left (by decide:1<=64) _) hr.units
section
variable{X:Cx}
theorem pv(i:Nat){x:Z0}{pos:Pos}(hN:X.N[i]?=some x:=by rfl)(hv:Vis X.env.scope x:=by first|exact Or.inl rfl|exact Or.inr (Or.inl rfl)|exact Or.inr (Or.inr rfl))(hd:(x==("__debug__":Z0))=false:=by decide)(hcd:(x==("__classdict__":Z0))=false:=by decide):PE X (.Name x pos) (tVar i):=J3l hN hv hd hcd
end
theorem iteF{A B:Prop}(h:B):if false=true then A else B:=by
 rw[if_neg qa3];exact h
theorem iteT{A B:Prop}(h:A):if true=true then A else B:=by
 rw[if_pos rfl];exact h
theorem ite2{c A B:Prop}[Decidable c](h1:c->A)(h2:¬c->B):if c then A else B:=by
 by_cases h:c
 ·rw[if_pos h];exact h1 h
 ·rw[if_neg h];exact h2 h
def Same(H H':Hp):Prop:=∀b o,H b=some o->H' b=some o
theorem Same.refl(H:Hp):Same H H:=λ _ _ h=>h
theorem Same.trans{H H1 H2:Hp}(a:Same H H1)(b:Same H1 H2):Same H H2:=λ c o h=>b c o (a c o h)
theorem Same.free{H H':Hp}(e:Same H H'){l:t0}(h:H' l=Option.none):H l=Option.none:=by
 cases q:H l with
 |none=>rfl
 |some o=>
  rw[e l o q]at h;cases h
theorem Same.seq{K:y0}{H H':Hp}{a:t0}{xs:List V}(e:Same H H')(h:SqL K H a xs):SqL K H' a xs:=by
 rcases h with(h|⟨o,h⟩)|h
 ·exact .inl (.inl (e _ _ h))
 ·exact .inl (.inr ⟨o,e _ _ h⟩)
 ·exact .inr h
end L2
end
section
namespace L2
open PySem PySem.Spec PyProof.Rows PySem.SeqAt
mutual
inductive RdD(K:y0)(H:Hp):V->PyData->Prop
 |non:RdD K H .non .none
 |bl(b:Bool):RdD K H (.bl b) (.bool b)
 |int(i:Int):RdD K H (.int i) (.int i)
 |str(x:Z0):RdD K H (.str x) (.str x)
 |lst{a:t0}{xs:List V}{ds:List PyData}:SqL K H a xs->RdDs K H xs ds->RdD K H (.ref a) (.list ds)
 |tup{a:t0}{xs:List V}{ds:List PyData}:SqT K H a xs->RdDs K H xs ds->RdD K H (.ref a) (.tuple ds)
inductive RdDs(K:y0)(H:Hp):List V->List PyData->Prop
 |nil:RdDs K H [] []
 |cons{x:V}{xs:List V}{d:PyData}{ds:List PyData}:RdD K H x d->RdDs K H xs ds->RdDs K H (x::xs) (d::ds)
end
section
variable{X:Cx}{pins:List (t0×Obj)}{σ:St}{H:Hp}{s:X0}
mutual
theorem RdD.reads(I:Inv X pins σ H s):∀{x:V}{d:PyData}{v:q0},RdD X.K H x d->RelV x v->∃as,Reads s.heap v d as
 |_,_,_,.non,r=>by cases(show _=Value.none from r);exact⟨_,.none⟩
 |_,_,_,.bl b,r=>by cases(show _=Value.bool b from r);exact⟨_,.bool b⟩
 |_,_,_,.int i,r=>by obtain⟨t,e⟩:=(show ∃t,_=Value.int i t from r);subst e;exact⟨_,.int i t⟩
 |_,_,_,.str x,r=>by obtain⟨t,e⟩:=(show ∃t,_=Value.str x t from r);subst e;exact⟨_,.str x t⟩
 |_,_,_,.lst (a:=a) hq hs,r=>by
  cases(show _=Value.ref a from r);obtain⟨its,rv,pl,_⟩:=I.list hq;obtain⟨as,ra⟩:=RdDs.reads I hs rv;obtain⟨o,ho,hc,n,hd⟩:=pl.isList;exact⟨_,.list ho hc hd (by simpa using ra)⟩
 |_,_,_,.tup (a:=a) hq hs,r=>by
  cases(show _=Value.ref a from r);obtain⟨its,rv,pl,_⟩:=I.tuple hq;obtain⟨as,ra⟩:=RdDs.reads I hs rv;obtain⟨o,ho,hc,n,hd⟩:=pl;exact⟨_,.tuple ho hc hd (by simpa using ra)⟩
theorem RdDs.reads(I:Inv X pins σ H s):∀{xs:List V}{ds:List PyData}{vs:List q0},RdDs X.K H xs ds->Vals xs vs->∃as,ReadsAll s.heap vs ds as
 |_,_,_,.nil,.nil=>⟨_,.nil⟩
 |_,_,_,.cons hd ht,.cons r rr=>by
  obtain⟨as,ra⟩:=RdD.reads I hd r;obtain⟨bs,rb⟩:=RdDs.reads I ht rr;exact⟨_,.cons ra rb⟩
end
def rEqD(K:y0):R2:=λ x y H Q=>∃d e,RdD K H x d/\RdD K H y e/\shaped d=true/\shaped e=true/\Q (.bl (PyData.eqv d e)) H
theorem J0T(hu:X.A.units+64<cLine):OpR X (compareOp .Eq) (rEqD X.K):=by
 intro pins s σ H x y v u Q I rx ry h;obtain⟨d,e,hd,he,sd,se,q⟩:=h;obtain⟨as,ra⟩:=RdD.reads I hd rx;obtain⟨bs,rb⟩:=RdD.reads I he ry;exact eq_dataH ra rb sd se hu ⟨.bl _,H,I,rfl,q⟩
end
theorem J2X{K:y0}{H H':Hp}{a:t0}{xs:List V}(h:SqT K H a xs)(e:Same H H'):SqT K H' a xs:=by
 rcases h with(h|⟨o,h⟩)|h
 ·exact .inl (.inl (e _ _ h))
 ·exact .inl (.inr ⟨o,e _ _ h⟩)
 ·exact .inr h
mutual
theorem RdD.same{K:y0}{H H':Hp}(e:Same H H'):∀{v:V}{d:PyData},RdD K H v d->RdD K H' v d
 |_,_,.non=>.non
 |_,_,.bl b=>.bl b
 |_,_,.int i=>.int i
 |_,_,.str x=>.str x
 |_,_,.lst hq hs=>.lst (e.seq hq) (RdDs.same e hs)
 |_,_,.tup hq hs=>.tup (J2X hq e) (RdDs.same e hs)
theorem RdDs.same{K:y0}{H H':Hp}(e:Same H H'):∀{v:List V}{d:List PyData},RdDs K H v d->RdDs K H' v d
 |_,_,.nil=>.nil
 |_,_,.cons h hs=>.cons (RdD.same e h) (RdDs.same e hs)
end
end L2
end
section
namespace L2
open PySem PySem.Spec PyProof.Rows
def Cx.block(X:Cx)(N:List Z0)(scope:Scope)(cl:List (Z0×t0))(C:t0)(fp:List t0)(s:X0)(H:Hp):Cx:=
 {X with N:=N,s₀:=s,H₀:=H,env:=compEnvC scope cl C X.env,outer:=X.stack,stack:=X.stack,ex:=fp,fn:=λ _=>false,pn:=[],xe:=λ _ _=>False}
structure BlockOk(X:Cx)(N:List Z0)(nl:List (Option Nat))(scope:Scope)(cl:List (Z0×t0)):Prop where
 kind:scope.kind=.function
 nocell:∀y∈scope.names,y.2≠.cell
 names:∀y∈scope.names,y.2=.local->scope.names.lookup y.1=some .local
 clos:closureFor scope X.env=pure cl
 sub:∀y c,cl.lookup y=some c->X.env.cells.lookup y=some c
 has:∀y,scope.names.lookup y=some .free->∃c,cl.lookup y=some c
 len:nl.length=N.length
 seen:∀(i j:Nat)(y:Z0),N[i]?=some y->nl[i]?=some (some j)->X.N[j]?=some y/\scope.names.lookup y=some .free/\(X.env.scope.names.lookup y=some .cell\/X.env.scope.names.lookup y=some .free)
def stOf(nl:List (Option Nat))(σ:St):St:=nl.map λ o=>match o with
 |none=>none
 |some j=>(σ[j]?).join
theorem Z0Z{x:Z0}{k:NameKind}:∀{l:List (Z0×NameKind)},l.lookup x=some k->(x,k)∈l
 |[],h=>by simp at h
 |(n,q)::r,h=>by
  rw[qb5]at h;cases e:x==n with
  |true=>
   rw[e]at h;have:q=k:=by simpa using h
   have e':x=n:=by simpa using e
   rw[this,e'];exact qd8
  |false=>
   rw[e]at h;exact qd1 _ (Z0Z h)
theorem Z2K{env:Env}{x:Z0}{k:NameKind}:∀{l:List (Z0×NameKind)},(l.map λ(n,k)=>if(k==NameKind.free&&env.scope.kind==.function&&env.kindOf n==some .cell)then(n,NameKind.cell)else(n,k)).lookup x=some k->(l.lookup x=some k\/(k=.cell/\l.lookup x=some .free))
 |[],h=>by simp at h
 |(n,q)::r,h=>by
  rw[qc0]at h;cases e:x==n with
  |true=>
   by_cases hc:(q==NameKind.free&&env.scope.kind==.function&&env.kindOf n==some .cell)=true
   ·simp only[hc,if_true,qb5,e]at h;have hq:q=.free:=by
     rw[qc5,qc5]at hc;simpa using hc.1.1
    refine .inr ⟨(by simpa using h.symm),?_⟩;rw[qb5,e,hq]
   ·change qc7 x ((if(q==NameKind.free&&env.scope.kind==.function&&env.kindOf n==some .cell)=true then(n,NameKind.cell)else(n,q))::_)=some k at h;rw[if_neg hc,qb5,e]at h;refine .inl ?_;rw[qb5,e];exact h
  |false=>
   have h':(r.map λ(n,k)=>if(k==NameKind.free&&env.scope.kind==.function&&env.kindOf n==some .cell)then(n,NameKind.cell)else(n,k)).lookup x=some k:=by
    by_cases hc:(q==NameKind.free&&env.scope.kind==.function&&env.kindOf n==some .cell)=true
    ·simpa only[hc,if_true,qb5,e]using h
    ·simpa only[hc,qb5,e,if_false,Bool.false_eq_true]using h
   have ih:=Z2K (env:=env) h';rw[qb5,e];exact ih
theorem Z3L{env:Env}{x:Z0}:∀{l:List (Z0×NameKind)},l.lookup x=some .free->(l.map λ(n,k)=>if(k==NameKind.free&&env.scope.kind==.function&&env.kindOf n==some .cell)then(n,NameKind.cell)else(n,k)).lookup x=some .cell\/(l.map λ(n,k)=>if(k==NameKind.free&&env.scope.kind==.function&&env.kindOf n==some .cell)then(n,NameKind.cell)else(n,k)).lookup x=some .free
 |[],h=>by simp at h
 |(n,q)::r,h=>by
  rw[qc0];cases e:x==n with
  |true=>
   rw[qb5,e]at h;have hq:q=.free:=by simpa using h
   by_cases hc:(q==NameKind.free&&env.scope.kind==.function&&env.kindOf n==some .cell)=true
   ·left;simp only[hc,if_true,qb5,e]
   ·right;change qc7 x ((if(q==NameKind.free&&env.scope.kind==.function&&env.kindOf n==some .cell)=true then(n,NameKind.cell)else(n,q))::_)=some .free;rw[if_neg hc,qb5,e,hq]
  |false=>
   rw[qb5,e]at h;have ih:=Z3L (env:=env) (l:=r) h;by_cases hc:(q==NameKind.free&&env.scope.kind==.function&&env.kindOf n==some .cell)=true
   ·simpa only[hc,if_true,qb5,e]using ih
   ·simpa only[hc,qb5,e,if_false,Bool.false_eq_true]using ih
section
variable{X:Cx}{pins:List (t0×Obj)}{σ:St}{H:Hp}{s:X0}{N:List Z0}{nl:List (Option Nat)}{scope:Scope}{cl:List (Z0×t0)}{fp:List t0}
theorem J1F(I:Inv X pins σ H s)(B:BlockOk X N nl scope cl)(hf:∀b∈fp,FpOk X pins H b)(hob:∀b∈fp,b<s.heap.objs.size){C:t0}(hC:s.heap.objs.size<=C):(X.block N scope cl C fp s H).Ok:=by
 have stk:∀b∈frs X.stack,b=X.env.locals\/b∈X.fs:=λ b hb=>qb4.mp (I.stkSub b hb);refine⟨I.ok.mod,B.kind,I.ok.glob,I.ok.blt,hC,λ x y c h1 h2=>I.ok.inj x y c (B.sub x c h1) (B.sub y c h2),λ x hx=>?_,λ x c h=>(nomatch h),I.ok.hd,I.ok.frames,.inl rfl,λ b hb=>⟨?_,λ x c e=>?_⟩,I.bs,qa1 I.ok.bsz I.sz,λ b o e hb=>?_,λ b hb hm=>?_,I.stack,I.stkFree⟩
 ·have hx':(scope.names.map λ(n,k)=>if(k==NameKind.free&&X.env.scope.kind==.function&&X.env.kindOf n==some .cell)then(n,NameKind.cell)else(n,k)).lookup x=some .cell\/
    (scope.names.map λ(n,k)=>if(k==NameKind.free&&X.env.scope.kind==.function&&X.env.kindOf n==some .cell)then(n,NameKind.cell)else(n,k)).lookup x=some .free:=hx
  rcases hx' with q|q
  ·rcases Z2K q with z|⟨_,z⟩
   ·exact absurd rfl (B.nocell _ (Z0Z z))
   ·exact B.has x z
  ·rcases Z2K q with z|⟨z,_⟩
   ·exact B.has x z
   ·cases z
 ·exact qa9 (qa5 (hob b hb) hC)
 ·exact(hf b hb).2.2.2.2.1 x c (B.sub x c e)
 ·rcases(hf b hb).2.2.2.1 with z|z
  ·exact I.ok.noex b o e z
  ·exact absurd (qa5 (Heap.lt_size (I.ok.bs b o e).1) z) (qb1 _)
 ·rcases stk b hm with z|z
  ·exact(hf b hb).2.1 z
  ·exact(hf b hb).2.2.1 z
theorem J2k{i:Nat}{v:V}(h:(stOf nl σ)[i]?=some (some v)):∃j,nl[i]?=some (some j)/\σ[j]?=some (some v):=by
 unfold stOf at h;rw[qc4]at h;cases e:nl[i]? with
 |none=>rw[e]at h;cases h
 |some o=>
  rw[e]at h;cases o with
  |none=>cases h
  |some j=>
   refine⟨j,rfl,?_⟩;have h':(σ[j]?).join=some v:=by simpa using h
   cases q:σ[j]? with
   |none=>rw[q]at h';cases h'
   |some o'=>
    rw[q]at h';have:o'=some v:=by simpa using h'
    rw[this]
theorem Z7u(I:Inv X pins σ H s)(B:BlockOk X N nl scope cl)(hf:∀b∈fp,FpOk X pins H b)(hob:∀b∈fp,b<s.heap.objs.size){C D:t0}(hD:D=s.heap.objs.size)(hC:C=s.heap.objs.size+1){h1:V0}{tk:Nat}{m:Z0->Option q0}{n:Nat}(hk:∀b o,s.heap.get? b=some o->h1.get? b=some o)(hl:h1.get? D=some {cls:=.type "list",data:=.seq ([]:List q0).toArray n})(hn:h1.Ns C m):Inv (X.block N scope cl C fp s H) [] (stOf nl σ) (upd H D (.lst [])) {s with heap:=h1,toks:=tk}:=by
 have hDn:H D=none:=I.hok.fresh (by rw[hD];exact qa0 _);have hCD:C≠D:=by rw[hC,hD];exact Nat.succ_ne_self _
 have hCn:H C=none:=I.hok.fresh (by rw[hC];exact qf4 _);have cellD:∀y c,cl.lookup y=some c->c≠D:=λ y c e z=>by
  obtain⟨v,q⟩:=I.cell y c (B.sub y c e);exact absurd q.lt (by rw[z,hD];exact qb1 _)
 refine⟨J1F I B hf hob (by rw[hC];exact qf4 _),rfl,I.bare,Un.laid hk (by rw[hD];exact qa0 _) hDn,⟨m,hn,λ i y v e1 e2 _=>?_⟩,λ y c e=>?_,?_,λ y c e=>?_,λ p hp=>absurd hp (by simp[Cx.block]),?_,?_⟩
 ·obtain⟨j,hj,hv⟩:=J2k e2;obtain⟨x1,x2,x3⟩:=B.seen i j y e1 hj;obtain⟨m0,hm0,hl0⟩:=I.loc;obtain⟨u,r,l⟩:=hl0 j y v x1 hv (.inr x3);refine⟨u,r,?_⟩;rcases l with⟨hk1,_⟩|⟨_,c,hc,z⟩
  ·have hk1':X.env.scope.names.lookup y=some .local:=hk1;rcases x3 with q|q<;>(rw[hk1']at q;cases q)
  ·refine .inr ⟨Z3L x2,c,?_,z.keeps hk⟩;obtain⟨c',hc'⟩:=B.has y x2;have q:=B.sub y c' hc';rw[hc]at q;cases q;exact hc'
 ·obtain⟨v,q⟩:=I.cell y c (B.sub y c e);exact⟨v,q.keeps hk⟩
 ·show(upd H D (.lst [])) C=none;rw[Z0k hCD];exact hCn
 ·rw[Z0k (cellD y c e)];exact I.freeC y c (B.sub y c e)
 ·exact I.hok.laid hk (by rw[hD];exact qa0 _) ⟨qb2 _,[],n,.nil,hl⟩
 ·show(stOf nl σ).length=N.length;unfold stOf;rw[qb0,B.len]
theorem Z9T{C:t0}{σ':St}{H':Hp}{s':X0}{h2:V0}(I:Inv X pins σ H s)(hf:∀b∈fp,FpOk X pins H b)(hC:s.heap.objs.size<=C)(J:Inv (X.block N scope cl C fp s H) [] σ' H' s')(hk:∀b o,b≠C->s'.heap.get? b=some o->h2.get? b=some o):Inv X pins σ H' {s' with heap:=h2}:=by
 obtain⟨hp,g,d,t,os⟩:=s';have ho:os=s.os:=J.os;subst ho;have hCn:H' C=none:=J.free;have u:=J.base;have ne:∀b o,s.heap.get? b=some o->b≠C:=λ b o e=>qa9 (qa5 (Heap.lt_size e) hC);have u2:Un (frs X.stack) fp H H' s.heap h2:=
  ⟨λ b o e n hb hx=>hk b o (ne b o e) (u.keep b o e n hb hx),λ b o e n hb hx=>(let⟨sl,q⟩:=u.slot b o e n hb hx;⟨sl,hk b _ (ne b o e) q⟩),u.free,λ b o e hx=>(let⟨o',q⟩:=u.there b o e hx;⟨o',hk b o' (ne b o e) q⟩),u.tups,u.frzs,u.tbls⟩
 have hok2:HOk X.prog X.w H' h2:=λ b o e=>(J.hok b o e).stay (λ c v hc q=>hk c v (λ z=>by
  subst z;rcases hc with z|z
  ·rw[<-z,hCn]at e;cases e
  ·rw[hCn]at z;cases z) q) (λ _ q=>q) λ _ _ q=>q
 have z:=I.call (h':=h2) (g':=g) (d':=d) (t':=t) (ch:=fp) u2 hok2 J.bare λ b hb=>(let⟨_,f1,_,f3,f4,f5⟩:=hf b hb;⟨f3,f1,f4,f5⟩);exact z
end
def PQ(X:Cx)(tst:Env->Sem Bool)(t:TT):Prop:=
 ∀(pins:List (t0×Obj))(s:X0)(σ:St)(H:Hp)(Q:Bool->Hp->Prop),Inv X pins σ H s->t σ H Q->wpAny (model X.prog X.w) X.A (tst X.env) (TP X pins σ Q) X.xe s
def Z4J:TT:=λ _ H Q=>Q true H
theorem J3L{X:Cx}:PQ X (λ _=>pure true) Z4J:=λ _ _ _ H _ I h=>wpAny_pure ⟨H,I,h⟩
def Z4H(J:It)(g:TG)(tc:TT)(te:TE)(D:t0)(Q:VK)(σ0:St)(H0:Hp):Prop:=∃W:Nat->Nat->St->Hp->Prop,(∃m,W 0 m σ0 H0)/\∀i m σ' H',W i m σ' H'->
 (J.stop i H'/\Q (.ref D) H')\/(J.go i H'/\∃N:St->Hp->Prop,(∀σ2 H2,N σ2 H2->∃m',m'<m/\W (i+1) m' σ2 H2)/\∀x H2,J.yld i H' x H2->g x σ' H2 λ σ3 H3=>tc σ3 H3 λ b H4=>if b=true then te σ3 H4 λ v H5=>∃xs,H5 D=some (.lst xs)/\xs.length<sizeLine/\N σ3 (upd H5 D (.lst (xs++[v])))else N σ3 H4)
def J3Y(wi:TI)(nl:List (Option Nat))(g:TG)(tc:TT)(te:TE):TE:=λ σ H Q=>wi σ H λ J H1=>∀D,H1 D=none->Z4H J g tc te D Q (stOf nl σ) (upd H1 D (.lst []))
theorem Z9O{X:Cx}{N:List Z0}{nl:List (Option Nat)}{scope:Scope}{cl:List (Z0×t0)}{elt tg iter:Expr}{ifs:List Expr}{pos:Pos}{wi:TI}{g:TG}{tst:Env->Sem Bool}{tc:TT}{te:TE}(hcalm:X.calm=true)(B:BlockOk X N nl scope cl)(hi:PI X tg iter wi)(hg:∀C fp s H,PG (X.block N scope cl C fp s H) tg g)(ht:∀C fp s H,PQ (X.block N scope cl C fp s H) tst tc)(he:∀C fp s H,PE (X.block N scope cl C fp s H) elt te)(hturn:∀(it acc:q0)(env:Env),compTurn (.ListComp elt [⟨tg,iter,ifs,0⟩] scope pos) 0 it acc env=(do
   standAt iter.pos
   match<-pyNext it with
   |none=>pure (.done .next)
   |some v=>
    letOwnedTupleGo tg it v
    assign tg env v
    let ok<-tst env
    if ok then(do
     (do let x<-eval elt env;let _<-call (.builtin "list.append") [acc,x];pure ())
     again (.compLoop (.ListComp elt [⟨tg,iter,ifs,0⟩] scope pos) 0 it acc env))
    else again (.compLoop (.ListComp elt [⟨tg,iter,ifs,0⟩] scope pos) 0 it acc env))) (hs:∀x,foldedSetIterable iter X.env x=pure x) {pins:List (t0×Obj)} {s:X0} {σ:St} {H:Hp} {Q:VK} (I:Inv X pins σ H s) (h:J3Y wi nl g tc te σ H Q) {use:Option (q0->Sem Unit)} {Q':q0->X0->Prop} (hpost:∀(D C:t0) (s' s2:X0) (fp:List t0) (σ':St) (H' H2:Hp),Inv X pins σ H2 s2->(∀b∈fp,FpOk X pins H2 b)->s2.heap.objs.size<=C->Inv (X.block N scope cl C fp s2 H2) [] σ' H' s'->Q (.ref D) H'->compPost (model X.prog X.w) X.A X.xe use Q' (.ref D) C (.ok .next) s') (hpos:Pos):wpAny (model X.prog X.w) X.A (comprehension (.ListComp elt [⟨tg,iter,ifs,0⟩] scope pos) scope X.env hpos (newList []) false (eval iter X.env) use) Q' X.xe s:=by
 refine wpAny_comprehension_free (use:=use) rfl hs B.clos B.kind B.names ?_;refine thn (hi pins s σ H _ I h) λ v s1 h1=>thn h1 λ itv s2 h2=>?_;obtain⟨it,fp,tn,J,H2,e,I2,T,st2,f2,q⟩:=h2;subst e;have hob:∀b∈fp,b<s2.heap.objs.size:=λ b hb=>(let⟨o,e,_⟩:=T.obj 0 _ st2 b hb;Heap.lt_size e);refine wpAny_newObj_type (wpAny_newFunctionEnv B.nocell (by intro y hy;simp at hy) (λ h1 hns hsb=>?_) B.kind);dsimp only at hns hsb ⊢;generalize hD:s2.heap.objs.size=D at hns hsb ⊢;have hC:(s2.heap.push {cls:=.type "list",dict:=none,data:=.seq ([]:List q0).toArray}).objs.size=s2.heap.objs.size+1:=by rw[Heap.size_push]
 generalize hC':(s2.heap.push {cls:=.type "list",dict:=none,data:=.seq ([]:List q0).toArray}).objs.size=C at hns hsb hC ⊢;have hDC:D≠C:=by rw[hC,<-hD];exact(Nat.succ_ne_self _).symm
 have lt_ne:∀b,b<s2.heap.objs.size->b≠C:=λ b hb=>by rw[hC];exact qa9 (qg9 hb)
 have old:∀b o,s2.heap.get? b=some o->h1.get? b=some o:=λ b o e=>
  hsb.extBut b o (lt_ne b (Heap.lt_size e)) (Heap.get?_push_of_some _ (Heap.get?_push_of_some _ e))
 have hl:h1.get? D=some {cls:=.type "list",data:=.seq ([]:List q0).toArray 0}:=by
  refine hsb.extBut D _ hDC (Heap.get?_push_of_some _ ?_);rw[<-hD];exact Heap.get?_push_size _ rfl
 have fresh:H2 D=none:=I2.hok.fresh (by rw[hD];exact qa0 _);obtain⟨W,⟨m0,w0⟩,turn⟩:=q D fresh;have hCle:s2.heap.objs.size<=C:=by rw[hC];exact qf4 _
 have stat:∀{H':Hp},(∀b∈fp,H' b=none)->∀b∈fp,FpOk (X.block N scope cl C fp s2 H2) [] H' b:=λ hn b hb=>by
  obtain⟨_,f1,f2',f3,f4,f5⟩:=f2 b hb;refine⟨hn b hb,lt_ne b (hob b hb),λ z=>?_,.inl hb,λ x c e=>f4 x c (B.sub x c e),λ p hp=>absurd hp (by simp[Cx.block])⟩;rcases qb4.mp (I2.stkSub b z)with z|z
  ·exact f1 z
  ·exact f2' z
 have main:∀s4:X0,(∃tk,s4={s2 with heap:=h1,toks:=tk})->
   codeAny (model X.prog X.w) X.A (.compLoop (.ListComp elt [⟨tg,iter,ifs,0⟩] scope pos) 0 (.ref it) (.ref D) (X.block N scope cl C fp s2 H2).env) (compPost (model X.prog X.w) X.A X.xe use Q' (.ref D) C) s4:=by
  rintro s4 ⟨tk,rfl⟩;have I3:Inv (X.block N scope cl C fp s2 H2) [] (stOf nl σ) (upd H2 D (.lst [])) { s2 with heap:=h1,toks:=tk }:=Z7u I2 B f2 hob hD.symm hC old hl hns;refine codeAny_loop rfl (λ n s'=>∃ i σ' H',Inv (X.block N scope cl C fp s2 H2) [] σ' H' s'/\tn i s'.heap/\(∀ b∈fp,H' b=none)/\W i n σ' H') (λ n s5 hI=>?_) m0
   ⟨0,stOf nl σ,_,I3,T.keep 0 _ _ st2 λ b hb o e=>old b o e,λ b hb=>by rw[Z0k (λ z=>absurd (hob b hb) (by rw[z,<-hD];exact qb1 _))];exact(f2 b hb).1,w0⟩
  show wpAny _ X.A ((compTurn (.ListComp elt [⟨tg,iter,ifs,0⟩] scope pos) 0 (.ref it) (.ref D) (X.block N scope cl C fp s2 H2).env).onRaise (λ x=>do noteFrame x (X.block N scope cl C fp s2 H2).env;theTreesLotGoes x)) _ _ s5;refine wpAny_noted ?_;rw[hturn];obtain⟨i,σ5,H5,I5,st5,fr5,w5⟩:=hI;have quiet:∀{α:Type}{t:Sem α}{R:α->X0->Prop}{E':q0->X0->Prop}{s':X0},wpAny (model X.prog X.w) X.A t R (λ _ _=>False) s'->wpAny (model X.prog X.w) X.A t R E' s':=λ hw=>wpAny_mono hw (λ _ _ z=>z) λ _ _ z=>z.elim;refine wpAny_bind (wpAny_standAt ?_);rcases turn i n σ5 H5 w5 with⟨stop,qn⟩|⟨go,Nx,hN,step⟩
  ·refine wpAny_bind (quiet (thn (T.done (X.block N scope cl C fp s2 H2) rfl rfl rfl hcalm i [] s5 σ5 H5 (λ _ _=>False) I5 (stat fr5) st5 stop) λ r s6 ⟨hr,I6⟩=>?_));subst hr;exact quiet (wpAny_pure (hpost D C s6 s2 fp σ5 H5 H2 I2 f2 hCle I6 qn))
  ·refine wpAny_bind (quiet (thn (T.item (X.block N scope cl C fp s2 H2) rfl rfl rfl hcalm i [] s5 σ5 H5 (λ _ _=>False) I5 (stat fr5) st5 go) λ r s6 ⟨u,hr,h6⟩=>?_));subst hr;refine wpAny_bind (quiet (thn h6 λ _ s7 ⟨x,H7,I7,r7,y7,st7,fr7⟩=>?_));have I7':=I7.pinned (stat fr7) (T.obj _ _ st7);have again':∀{σ8:St}{H8:Hp}{s8:X0},Inv (X.block N scope cl C fp s2 H2) ([]++Z6M fp s7.heap) σ8 H8 s8->Nx σ8 H8->∃m,m<n/\∃i σ' H',Inv (X.block N scope cl C fp s2 H2) [] σ' H' s8/\tn i s8.heap/\(∀b∈fp,H' b=none)/\W i m σ' H':=λ{σ8 H8 s8} I8 n8=>by
    obtain⟨m',hm,w8⟩:=hN σ8 H8 n8;refine⟨m',hm,i+1,σ8,H8,I8.unpinned,T.keep _ _ _ st7 λ b hb o e=>(I8.pin (b,o) (qc9 _ (qc9 _ (Z2R hb e)))).1,λ b hb=>?_,w8⟩;obtain⟨o,e,_⟩:=T.obj _ _ st7 b hb;exact(I8.pin (b,o) (qc9 _ (qc9 _ (Z2R hb e)))).2.1
   refine wpAny_bind (quiet (thn (hg C fp s2 H2 _ s7 σ5 H7 x u _ I7' r7 (step x H7 y7)) λ _ s8 ⟨σ8,H8,I8,q8⟩=>?_));refine wpAny_bind (quiet (thn (ht C fp s2 H2 _ s8 σ8 H8 _ I8 q8) λ b s9 ⟨H9,I9,q9⟩=>?_));cases b with
   |false=>exact quiet (wpAny_pure ⟨rfl,again' I9 q9⟩)
   |true=>
    refine wpAny_bind (wpAny_bind (quiet (thn (he C fp s2 H2 _ s9 σ8 H9 _ I9 q9) λ vy s10 hz_=>?_)));obtain⟨y,H10,I10,r10,xs,e10,z10,n10⟩:=hz_;refine wpAny_bind (quiet (thn (Z1H _ s10 σ8 H10 (.ref D) [y] (.ref D) [vy] (λ _ H'=>Nx σ8 H') I10 rfl (.cons r10 .nil) ⟨D,xs,y,rfl,rfl,e10,z10,n10⟩) λ _ s11 ⟨_,H11,I11,_,q11⟩=>?_));exact wpAny_pure (wpAny_pure ⟨rfl,again' I11 q11⟩)
 exact codeAny_compStart_list (main _ ⟨_,rfl⟩) (T.self _ 0 _ _ _ (T.keep 0 _ _ st2 λ b hb o e=>old b o e) (main _ ⟨_,rfl⟩))
section
variable{X:Cx}{N:List Z0}{nl:List (Option Nat)}{scope:Scope}{cl:List (Z0×t0)}{elt tg iter:Expr}{pos:Pos}{wi:TI}{g:TG}{tc:TT}{te:TE}
theorem J1R(it acc:q0)(env:Env):compTurn (.ListComp elt [⟨tg,iter,[],0⟩] scope pos) 0 it acc env=(do
   standAt iter.pos
   match<-pyNext it with
   |none=>pure (.done .next)
   |some v=>
    letOwnedTupleGo tg it v
    assign tg env v
    let ok<-(λ _=>pure true:Env->Sem Bool) env
    if ok then(do
     (do let x<-eval elt env;let _<-call (.builtin "list.append") [acc,x];pure ())
     again (.compLoop (.ListComp elt [⟨tg,iter,[],0⟩] scope pos) 0 it acc env))
    else again (.compLoop (.ListComp elt [⟨tg,iter,[],0⟩] scope pos) 0 it acc env)):=by rfl
theorem Z9V{pins:List (t0×Obj)}{σ:St}{Q:VK}(D C:t0)(s' s2:X0)(fp:List t0)(σ':St)(H' H2:Hp)(I2:Inv X pins σ H2 s2)(f2:∀b∈fp,FpOk X pins H2 b)(hC:s2.heap.objs.size<=C)(J:Inv (X.block N scope cl C fp s2 H2) [] σ' H' s')(q:Q (.ref D) H'):compPost (model X.prog X.w) X.A X.xe none (EP X pins σ Q) (.ref D) C (.ok .next) s':=by
 obtain⟨m,hn,_⟩:=J.loc;exact⟨m,hn,λ h' sb=>⟨.ref D,H',Z9T I2 f2 hC J λ b o hb e=>sb.extBut b o hb e,rfl,q⟩⟩
theorem Z1A(hcalm:X.calm=true)(B:BlockOk X N nl scope cl)(hi:PI X tg iter wi)(hg:∀C fp s H,PG (X.block N scope cl C fp s H) tg g)(he:∀C fp s H,PE (X.block N scope cl C fp s H) elt te)(hs:∀x,foldedSetIterable iter X.env x=pure x:=by intro _;rfl):PE X (.ListComp elt [⟨tg,iter,[],0⟩] scope pos) (J3Y wi nl g Z4J te):=by
 intro pins s σ H Q I h;rw[eval_ListComp];exact Z9O (tst:=λ _=>pure true) hcalm B hi hg (λ _ _ _ _=>J3L) he J1R hs I h Z9V _
end
end L2
end
section
namespace L2
open PySem PySem.Spec PyProof.Rows
def Its(x:Z0):It:=⟨λ i _=>i<x.cps.size,λ i H v H'=>H'=H/\∃c,x.cps[i]?=some c/\v=.str ⟨#[c]⟩,λ i _=>i=x.cps.size⟩
theorem Z8e{P:Program}{w:U0}{K:y0}{tg:Expr}(it:t0)(x:Z0)(t:Tok)(cls:String)(hn:["enumerate","zip","dict_itemiterator","dict_reverseitemiterator","odict_iterator","itertools.zip_longest","itertools.pairwise"].contains cls=false)(W:∀A:M0,A.handled=none->Walks P w A it [it] [it] x.cps.size (SignAt x) (λ i h=>h.IsStrIter it cls x t i))(hself:∀(A:M0)(i:Nat)(s:X0)(Q:q0->X0->Prop)(E:q0->X0->Prop),s.heap.IsStrIter it cls x t i->Q (.ref it) s->wpAny (model P w) A (pyIter (.ref it)) Q E s):Turn P w K tg (Its x) [it] it (λ i h=>h.IsStrIter it cls x t i)where
 mem:=by simp
 obj:=λ i h st b hb=>by
  have e:b=it:=by simpa using hb
  subst e;obtain⟨o,e,c,d⟩:=st;exact⟨o,e,λ v z=>by rw[d]at z;cases z⟩
 keep:=λ i h h' st k=>(let⟨o,ho,r⟩:=st;⟨o,k it (by simp) o ho,r⟩)
 item:=by
  intro X hP hw hK hc i pins s σ H E I hf st hg;subst hP hw hK;obtain⟨f0,f1,f2,f3,f4,f5⟩:=hf it (by simp);refine(W X.A (I.ok.hd hc)).item i s _ E hg st λ v h' tk hv st' kk=>?_;obtain⟨c,u,hx,rfl⟩:=hv;have I1:Inv X pins σ H {s with heap:=h',toks:=tk}:=I.turned (λ b o hb e=>kk b o (by simpa using hb) e) f0 f1 f3 f4 f5;obtain⟨o,e,oc,d⟩:=id st';exact⟨_,rfl,J3T (s:={s with heap:=h',toks:=tk}) e oc d hn ⟨.str ⟨#[c]⟩,H,I1,⟨u,rfl⟩,⟨rfl,c,hx,rfl⟩,st',λ b hb=>(hf b hb).1⟩⟩
 done:=by
  intro X hP hw hK hc i pins s σ H E I hf st hg;subst hP hw hK;obtain⟨f0,f1,f2,f3,f4,f5⟩:=hf it (by simp);have hg':i=x.cps.size:=hg;subst hg';exact(W X.A (I.ok.hd hc)).done s _ E st λ h' tk kk=>⟨rfl,I.turned (λ b o hb e=>kk b o (by simpa using hb) e) f0 f1 f3 f4 f5⟩
 self:=hself
section
variable{X:Cx}{tg:Expr}
def iStr(tl:TE):TI:=λ σ H R=>tl σ H λ x H1=>∃z,x=.str z/\R (Its z) H1
theorem J3G{l:Expr}{tl:TE}(hl:PE X l tl):PI X tg l (iStr tl):=by
 intro pins s σ H R I h;refine thn (hl pins s σ H _ I h) λ v s1 ⟨x,H1,I1,r1,q1⟩=>?_;obtain⟨z,e,q⟩:=q1;subst e;obtain⟨t,rfl⟩:=r1;have fp:∀b∈[s1.heap.objs.size],FpOk X pins H1 b:=λ b hb=>by
  have e:b=s1.heap.objs.size:=by simpa using hb
  subst e;exact I1.fpOk (qa0 _) (I1.hok.fresh (qa0 _))
 cases ha:z.cps.all (·<128)with
 |false=>
  refine wpAny_pyIter_wide ha ?_;exact⟨s1.heap.objs.size,[s1.heap.objs.size],_,_,H1,rfl,I1.kept (t':=s1.toks) λ b o e=>Heap.get?_push_of_some _ e,Z8e _ z t "str_iterator" qQ (λ A hA=>Walks.strWide hA _ z t) (λ A i s Q E st hq=>wpAny_pyIter_striter_wide st hq),⟨_,Heap.get?_push_size _ rfl,rfl,rfl⟩,fp,q⟩
 |true=>
  refine wpAny_pyIter_ascii ha ?_;exact⟨s1.heap.objs.size,[s1.heap.objs.size],_,_,H1,rfl,I1.kept (t':=s1.toks) λ b o e=>Heap.get?_push_of_some _ e,Z8e _ z t "str_ascii_iterator" qQ (λ A hA=>Walks.strAscii hA _ z t) (λ A i s Q E st hq=>wpAny_pyIter_striter_ascii st hq),⟨_,Heap.get?_push_size _ rfl,rfl,rfl⟩,fp,q⟩
end
def Ite(K:y0)(l:t0):It:=
 ⟨λ i H=>∃xs x,SqL K H l xs/\xs[i]?=some x,λ i H v H'=>∃t x,v=.ref t/\H t=none/\H'=upd H t (.tup [.int i,x])/\∀xs,SqL K H l xs->xs[i]?=some x,λ i H=>∃xs,SqL K H l xs/\xs.length<=i⟩
end L2
namespace L2
open PySem PySem.Spec PyProof.Rows
theorem Z5w(ys:List Bool):(qd5 ys.length).all (λ i=>ys.getD i false)=ys.all id:=by
 rw[qf2,List.all_eq_true,List.all_eq_true];constructor
 ·intro h y hy;obtain⟨i,hi,e⟩:=qi7 hy;have:=h i (qe9.mpr hi);rw[qb6,qa7 hi]at this;rw[<-e];exact this
 ·intro h i hi;have hi':=qe9.mp hi;rw[qb6,qa7 hi'];exact h _ (List.getElem_mem hi')
theorem Z5y{X:Cx}(hc:X.calm=true):Z3l X (.builtin "all") (λ xs H Q=>∃(p:t0)(ys:List Bool),xs=[.ref p]/\SqL X.K H p (ys.map V.bl)/\Q (.bl (ys.all id)) H):=by
 intro pins s σ H xs us Q I r h;obtain⟨p,ys,rfl,hq,q⟩:=h;obtain⟨u,rfl,ru⟩:=r.one;cases ru;obtain⟨its,rv,pl,hz⟩:=I.list hq;obtain⟨o,ho,_,_,_⟩:=id pl.isList;have hne:p≠s.heap.objs.size:=qa9 (Heap.lt_size ho);have hl:=rv.length;rw[qb0]at hl;refine call_all_walk (wpAny_pyIter_list pl.isList ?_);refine⟨s.heap.objs.size,_,_,_,_,_,λ i=>ys.getD i false,rfl,Walks.list (A:=X.A.in1) (show X.A.in1.handled=none from I.ok.hd hc) _ p hne its.toArray,⟨⟨_,Heap.get?_push_size _ rfl,rfl,rfl⟩,pl.isList.at λ o e=>Heap.get?_push_of_some _ e⟩,λ i v s1 Q1 E1 hv hq1=>?_,λ h' tk kk=>?_⟩
 ·have hv':its[i]?=some v:=by simpa using hv
  have hi:i<ys.length:=by
   have:=(qc6.mp hv').1;lia
  obtain⟨u',e',r'⟩:=rv.get (i:=i) (x:=V.bl ys[i]) (by rw[qc4,qa7 hi];rfl);rw[hv']at e';cases e';cases(show _=Value.bool ys[i]from r');refine wpAny_truthy_bool ?_;dsimp only at hq1;rw[qb6,qa7 hi]at hq1;exact hq1
 ·have e:(qd5 its.toArray.size).all (λ i=>ys.getD i false)=ys.all id:=by
   rw[qa6,<-hl];exact Z5w ys
  refine⟨.bl (ys.all id),H,I.kept λ b o e=>kk b o (λ z=>?_) (Heap.get?_push_of_some _ e),by rw[e];rfl,q⟩;have z':b=s.heap.objs.size:=by simpa using z
  exact absurd (Heap.lt_size e) (by rw[z'];exact qb1 _)
end L2
end
section
namespace L2
open PySem PySem.Spec PyProof.Rows
theorem BlockOk.plain{X:Cx}{N:List Z0}{scope:Scope}(kind:scope.kind=.function)(nocell:∀y∈scope.names,y.2≠.cell)(names:∀y∈scope.names,y.2=.local->scope.names.lookup y.1=some .local)(nofree:∀y∈scope.names,y.2≠.free):BlockOk X N (N.map λ _=>none) scope []where
 kind:=kind
 nocell:=nocell
 names:=names
 clos:=closureFor_none nofree
 sub:=λ y c h=>by simp at h
 has:=λ y h=>absurd rfl (nofree _ (Z0Z h))
 len:=by simp
 seen:=λ i j y _ h=>by
  rw[qc4]at h;cases q:N[i]? with
  |none=>rw[q]at h;cases h
  |some z=>rw[q]at h;cases h
theorem J0X{J:It}{g:TG}{tc:TT}{te:TE}{Q:VK}{H:Hp}{D:t0}{σ0:St}(ys:List V)(p:V->Bool)(f:V->V)(Pσ:St->Prop)(Rσ:V->St->Prop)(h0:Pσ σ0)(hgo:∀i l,i<ys.length->J.go i (upd H D (.lst l)))(hstop:∀l,J.stop ys.length (upd H D (.lst l)))(hy:∀i l x H',i<ys.length->J.yld i (upd H D (.lst l)) x H'->H'=upd H D (.lst l)/\ys[i]?=some x)(hg:∀x∈ys,∀σ' H' K,Pσ σ'->(∀σ3,Pσ σ3->Rσ x σ3->K σ3 H')->g x σ' H' K)(hc:∀x∈ys,∀σ' l K,Rσ x σ'->K (p x) (upd H D (.lst l))->tc σ' (upd H D (.lst l)) K)(he:∀x∈ys,p x=true->∀σ' l K,Rσ x σ'->K (f x) (upd H D (.lst l))->te σ' (upd H D (.lst l)) K)(hz:ys.length<=sizeLine)(hQ:Q (.ref D) (upd H D (.lst ((ys.filter p).map f)))):Z4H J g tc te D Q σ0 (upd H D (.lst [])):=by
 refine⟨λ i m σ' H'=>m=ys.length-i/\i<=ys.length/\Pσ σ'/\H'=upd H D (.lst (((ys.take i).filter p).map f)),⟨ys.length,by simp,qb2 _,h0,by simp⟩,?_⟩;rintro i m σ' H' ⟨rfl,hi,hP,rfl⟩;by_cases hlt:i<ys.length
 ·refine .inr ⟨hgo i _ hlt,λ σ2 H2=>Pσ σ2/\H2=upd H D (.lst (((ys.take (i+1)).filter p).map f)),λ σ2 H2 ⟨a,b⟩=>⟨ys.length-(i+1),qR,rfl,hlt,a,b⟩,λ x H2 hx=>?_⟩;obtain⟨eH,hgx⟩:=hy i _ x H2 hlt hx;subst eH;have hm:x∈ys:=qi2 hgx;have e1:ys.take (i+1)=ys.take i++[x]:=by rw[List.take_add_one,hgx];rfl
  refine hg x hm σ' _ _ hP λ σ3 hP3 hR=>hc x hm σ3 _ _ hR ?_;cases hp:p x with
  |true=>
   refine iteT (he x hm hp σ3 _ _ hR ⟨_,Z0g,?_,hP3,?_⟩)
   ·rw[qb0];have a1:=List.length_filter_le p (ys.take i);have a2:(ys.take i).length=i:=by rw[qg8];lia
    lia
   ·rw[Z7w,e1,List.filter_append,qe4];simp[hp]
  |false=>
   refine iteF ⟨hP3,?_⟩;rw[e1,List.filter_append,qe4];simp[hp]
 ·have e:i=ys.length:=by lia
  subst e;refine .inl ⟨hstop _,?_⟩;rw[qh0];exact hQ
theorem Z9g{tc:TT}{te:TE}{Q:VK}{H:Hp}{D:t0}{z:Z0}{σ0:St}(v0:Option V)(rest:St)(p:Nat->Bool)(f:Nat->V)(e0:σ0=v0::rest)(hc:∀c∈z.cps.toList,∀l K,K (p c) (upd H D (.lst l))->tc (some (.str ⟨#[c]⟩)::rest) (upd H D (.lst l)) K)(he:∀c∈z.cps.toList,p c=true->∀l K,K (f c) (upd H D (.lst l))->te (some (.str ⟨#[c]⟩)::rest) (upd H D (.lst l)) K)(hz:z.length<=sizeLine)(hQ:Q (.ref D) (upd H D (.lst ((z.cps.toList.filter p).map f)))):Z4H (Its z) (Z4x 0) tc te D Q σ0 (upd H D (.lst [])):=by
 have cod:∀ c:Nat,(match (V.str ⟨#[c]⟩:V) with | .str x=>x.cps.getD 0 0 | _=>0)=c:=λ c=>rfl;refine J0X (z.cps.toList.map λ c=>V.str ⟨#[c]⟩) (λ v=>p (match v with | .str x=>x.cps.getD 0 0 | _=>0)) (λ v=>f (match v with | .str x=>x.cps.getD 0 0 | _=>0)) (λ σ'=>∃ v,σ'=v::rest) (λ x σ'=>σ'=some x::rest) ⟨v0,e0⟩
  (λ i l h=>?_) (λ l=>?_) (λ i l x H' _ h=>?_) (λ x _ σ' H' K h1 h2=>?_) (λ x hx σ' l K h1 h2=>?_) (λ x hx hp σ' l K h1 h2=>?_) ?_ ?_
 ·show i<z.cps.size;rw[qb0,qf8]at h;exact h
 ·show(z.cps.toList.map λ c=>V.str ⟨#[c]⟩).length=z.cps.size;rw[qb0,qf8]
 ·obtain⟨rfl,c,hc',rfl⟩:=h;refine⟨rfl,?_⟩;rw[qc4,show z.cps.toList[i]?=some c by simpa using hc'];rfl
 ·obtain⟨v,rfl⟩:=h1;exact h2 _ ⟨_,rfl⟩ rfl
 ·obtain⟨c,hc',rfl⟩:=qf9.mp hx;rw[h1];exact hc c hc' l K h2
 ·obtain⟨c,hc',rfl⟩:=qf9.mp hx;rw[h1];exact he c hc' hp l K h2
 ·rw[qb0];have:z.cps.toList.length=z.length:=by simp[Str.length]
  lia
 ·have e:((z.cps.toList.map λ c=>V.str ⟨#[c]⟩).filter λ v=>p (match v with| .str x=>x.cps.getD 0 0|_=>0)).map (λ v=>f (match v with| .str x=>x.cps.getD 0 0|_=>0))=(z.cps.toList.filter p).map f:=by
   rw[List.filter_map,qd6];rfl
  rw[e];exact hQ
theorem Z4y{te:TE}{Q:VK}{H:Hp}{D:t0}{z:Z0}{σ0:St}(v0:Option V)(rest:St)(f:Nat->V)(e0:σ0=v0::rest)(he:∀c∈z.cps.toList,∀l K,K (f c) (upd H D (.lst l))->te (some (.str ⟨#[c]⟩)::rest) (upd H D (.lst l)) K)(hz:z.length<=sizeLine)(hQ:Q (.ref D) (upd H D (.lst (z.cps.toList.map f)))):Z4H (Its z) (Z4x 0) Z4J te D Q σ0 (upd H D (.lst [])):=
 Z9g v0 rest (λ _=>true) f e0 (λ _ _ _ _ k=>k) (λ c hc _=>he c hc) hz (by rw[List.filter_eq_self.mpr λ _ _=>rfl];exact hQ)
open PySem.SeqAt
structure Nice(k n:Nat)(d:PyData):Prop where
 lay:d.canLay0=true
 sho:d.showable=true
 leaf:d.leavesShort 30=true
 dep:d.depth<=k
 wt:d.weight<=n
theorem J7j{i:Nat}{σ:St}{H:Hp}{Q:VK}:tVar i σ H Q=(∃v,σ[i]?=some (some v)/\Q v H):=rfl
theorem J8j{v:V}{z0:St}{H:Hp}{Q:VK}:tC v z0 H Q=(Q v H):=rfl
theorem J8v{t:TE}{σ:St}{H:Hp}{Q:Bool->Hp->Prop}:tB t σ H Q=(t σ H λ x H1=>∃c,x=.bl c/\Q c H1):=rfl
theorem J7F{t u:TT}{σ:St}{H:Hp}{Q:Bool->Hp->Prop}:tAnd t u σ H Q=(t σ H λ c H1=>if c=true then u σ H1 Q else Q false H1):=rfl
theorem J8a{t u:TT}{σ:St}{H:Hp}{Q:Bool->Hp->Prop}:tOr t u σ H Q=(t σ H λ c H1=>if c=true then Q true H1 else u σ H1 Q):=rfl
theorem J7K{t:TT}{σ:St}{H:Hp}{Q:Bool->Hp->Prop}:tNot t σ H Q=(t σ H λ c H1=>Q (!c) H1):=rfl
theorem J6W{ta tb:TE}{σ:St}{H:Hp}{Q:VK}:J6d ta tb σ H Q=(ta σ H λ x H1=>∃c,x=.bl c/\if c=true then tb σ H1 Q else Q (.bl false) H1):=rfl
theorem J6Z{ta tb:TE}{σ:St}{H:Hp}{Q:VK}:tOrV ta tb σ H Q=(ta σ H λ x H1=>∃c,x=.bl c/\if c=true then Q (.bl true) H1 else tb σ H1 Q):=rfl
theorem J6A{ta:TE}{σ:St}{H:Hp}{Q:VK}:J6r ta σ H Q=(ta σ H λ x H1=>∃c,x=.bl c/\Q (.bl (!c)) H1):=rfl
theorem J6O{D:Ends}{σ:St}{H:Hp}:J6l D σ H=(D.nx σ H):=rfl
theorem J7Q{t u:TS}{D:Ends}{σ:St}{H:Hp}:tSeq t u D σ H=(t {D with nx:=u D} σ H):=rfl
theorem J6u{te:TE}{D:Ends}{σ:St}{H:Hp}:J4g te D σ H=(te σ H λ _ H1=>D.nx σ H1):=rfl
theorem J6Y{te:TE}{D:Ends}{σ:St}{H:Hp}:tRet te D σ H=(te σ H D.rt):=rfl
theorem J7z{c:TT}{t u:TS}{D:Ends}{σ:St}{H:Hp}:tIfS c t u D σ H=(c σ H λ b H1=>if b=true then t D σ H1 else u D σ H1):=rfl
theorem J6U{i:Nat}{v:V}{σ:St}{H:Hp}{Q:St->Hp->Prop}:Z4x i v σ H Q=(Q (σ.set i (some v)) H):=rfl
theorem J7B{vs:List V}{σ:St}{H:Hp}{Q:St->Hp->Prop}:gNil vs σ H Q=(vs=[]/\Q σ H):=rfl
theorem J6w{t:TG}{u:TGs}{vs:List V}{σ:St}{H:Hp}{Q:St->Hp->Prop}:J5L t u vs σ H Q=(∃v r,vs=v::r/\t v σ H λ σ' H'=>u r σ' H' Q):=rfl
theorem J7y{K:y0}{n:Nat}{t:TGs}{v:V}{σ:St}{H:Hp}{Q:St->Hp->Prop}:gTup K n t v σ H Q=(∃a xs,v=.ref a/\SqT K H a xs/\xs.length=n/\t xs σ H Q):=rfl
theorem J7s{te:TE}{g:TG}{D:Ends}{σ:St}{H:Hp}:tAsg te g D σ H=(te σ H λ x H1=>g x σ H1 D.nx):=rfl
theorem J7d{i:Nat}{te:TE}{ti:TIp}{D:Ends}{σ:St}{H:Hp}:tAug i te ti D σ H=(∃x,σ[i]?=some (some x)/\te σ H λ y H1=>ti x y H1 λ z H2=>D.nx (σ.set i (some z)) H2):=rfl
theorem J7Z{f:Int->Int->Int}{x:V}{y:V}{H:Hp}{Q:VK}:ipI f x y H Q=(∃i j,x=.int i/\y=.int j/\Q (.int (f i j)) H):=rfl
theorem J6v{K:y0}{tl:TE}{σ:St}{H:Hp}{R:It->Hp->Prop}:J5N K tl σ H R=(tl σ H λ x H1=>∃a,x=.ref a/\(∃xs,SqL K H1 a xs)/\R (Itl K a) H1):=rfl
theorem J7u{K:y0}{tl:TE}{σ:St}{H:Hp}{R:It->Hp->Prop}:iTup K tl σ H R=(tl σ H λ x H1=>∃a,x=.ref a/\(∃xs,SqT K H1 a xs)/\R (Itt K a) H1):=rfl
theorem J7X{r:R2}{ta tb:TE}{σ:St}{H:Hp}{Q:VK}:tOp r ta tb σ H Q=(ta σ H λ x H1=>tb σ H1 λ y H2=>r x y H2 Q):=rfl
theorem J8h{r:V->Hp->VK->Prop}{ta:TE}{σ:St}{H:Hp}{Q:VK}:tUn r ta σ H Q=(ta σ H λ x H1=>r x H1 Q):=rfl
theorem J8w{C:Int->Int->Prop}{g:Int->Int->V}{x:V}{y:V}{H:Hp}{Q:VK}:rI C g x y H Q=(∃i j,x=.int i/\y=.int j/\C i j/\Q (g i j) H):=rfl
theorem J8d{g:Int->Int->V}{x:V}{y:V}{H:Hp}{Q:VK}:rI0 g x y H Q=(∃i j,x=.int i/\y=.int j/\Q (g i j) H):=rfl
theorem J8i{g:Int->V}{x:V}{H:Hp}{Q:VK}:rU g x H Q=(∃i,x=.int i/\Q (g i) H):=rfl
theorem J7T{x:V}{y:V}{H:Hp}{Q:VK}:rEq x y H Q=(scal x y=true/\Q (.bl (decide (x=y))) H):=rfl
theorem J7R{x:V}{y:V}{H:Hp}{Q:VK}:rNe x y H Q=(scal x y=true/\Q (.bl (!decide (x=y))) H):=rfl
theorem J6K{t:TE}{σ:St}{H:Hp}{Q:Bool->Hp->Prop}:J1Y t σ H Q=(t σ H λ x H'=>∃k,x=.bl k/\Q k H'):=rfl
theorem J5Y{r r':R2}{ta tb tc:TE}{σ:St}{H:Hp}{Q:VK}:J3e r r' ta tb tc σ H Q=(ta σ H λ x H1=>tb σ H1 λ y H2=>r x y H2 λ z H3=>∃k,z=.bl k/\(if k=true then tc σ H3 λ w' H4=>r' y w' H4 Q else Q (.bl false) H3)):=rfl
theorem J7t{z0:St}{H:Hp}{Q:List V->Hp->Prop}:tNil z0 H Q=(Q [] H):=rfl
theorem J6C{ta:TE}{tr:TA}{σ:St}{H:Hp}{Q:List V->Hp->Prop}:Z4B ta tr σ H Q=(ta σ H λ x H1=>tr σ H1 λ xs H2=>Q (x::xs) H2):=rfl
theorem J6R{sp:Sp}{dvs:List V}{E:XK}{t:TA}{σ:St}{H:Hp}{Q:VK}:J1H sp dvs E t σ H Q=(t σ H λ vs H1=>sp (vs++dvs) H1 Q E):=rfl
theorem J6F{C:t0}{m:Z0}{sp:Sp}{dvs:List V}{E:XK}{ta:TE}{t:TA}{σ:St}{H:Hp}{Q:VK}:Z9w C m sp dvs E ta t σ H Q=(ta σ H λ x H1=>∃a dx fs,x=.ref a/\H1 a=some (.ins C dx fs)/\fs.lookup m=none/\t σ H1 λ vs H2=>sp (x::(vs++dvs)) H2 Q E):=rfl
theorem J6T{C:t0}{sp:Sp}{dvs:List V}{E:XK}{t:TA}{σ:St}{H:Hp}{Q:VK}:J4k C sp dvs E t σ H Q=(t σ H λ vs H1=>∀x dx,H1 x=none->H1 dx=none->dx≠x->sp (.ref x::(vs++dvs)) (upd (upd H1 dx (.own x)) x (.ins C dx [])) (λ v H2=>v=.non/\Q (.ref x) H2) E):=rfl
theorem J7S{r:List V->Hp->VK->Prop}{t:TA}{σ:St}{H:Hp}{Q:VK}:tCB r t σ H Q=(t σ H λ vs H1=>r vs H1 Q):=rfl
theorem J4W{z0:St}{H:Hp}{Q:Option Int->Hp->Prop}:J1z z0 H Q=(Q none H):=rfl
theorem J6V{t:TE}{σ:St}{H:Hp}{Q:Option Int->Hp->Prop}:J5V t σ H Q=(t σ H λ x H1=>∃i,x=.int i/\Q (some i) H1):=rfl
theorem J7V{r:V->Option Int->Option Int->Hp->VK->Prop}{te:TE}{tl th:TO}{σ:St}{H:Hp}{Q:VK}:tSl r te tl th σ H Q=(te σ H λ x H1=>tl σ H1 λ l H2=>th σ H2 λ u H3=>r x l u H3 Q):=rfl
theorem J7M{K:y0}{x:V}{lo:Option Int}{hi:Option Int}{H:Hp}{Q:VK}:rSlT K x lo hi H Q=(∃a xs,x=.ref a/\SqT K H a xs/\¬(HT.sIx xs.length 0 lo=0/\HT.sIx xs.length xs.length hi=xs.length)/\∀p,H p=none->Q (.ref p) (upd H p (.tup (cutV xs lo hi)))):=rfl
theorem J6N{K:y0}{x:V}{y:V}{H:Hp}{Q:VK}:J5r K x y H Q=(∃a b xs ys,x=.ref a/\y=.ref b/\SqT K H a xs/\SqT K H b ys/\xs≠[]/\xs.length+ys.length<=sizeLine/\(ys=[]->Q (.ref a) H)/\(ys≠[]->∀p,H p=none->Q (.ref p) (upd H p (.tup (xs++ys))))):=rfl
theorem J7v{K:y0}{x:V}{y:V}{H:Hp}{Q:VK}:rIxL K x y H Q=(∃p xs i v,x=.ref p/\y=.int i/\SqL K H p xs/\atI xs i=some v/\Q v H):=rfl
theorem J7g{K:y0}{x:V}{y:V}{H:Hp}{Q:VK}:rIxT K x y H Q=(∃p xs i v,x=.ref p/\y=.int i/\SqT K H p xs/\atI xs i=some v/\Q v H):=rfl
theorem J7G{x:V}{y:V}{H:Hp}{Q:VK}:rIxS x y H Q=(∃z i c,x=.str z/\y=.int i/\z.length<=sizeLine/\atI z.cps.toList i=some c/\Q (.str ⟨#[c]⟩) H):=rfl
theorem J8c{K:y0}{neg:Bool}{x:V}{y:V}{H:Hp}{Q:VK}:rIn K neg x y H Q=(∃p xs,y=.ref p/\(SqL K H p xs\/SqT K H p xs)/\Z3F x=true/\xs.all Z3F=true/\Q (.bl (if neg then !inV x xs else inV x xs)) H):=rfl
theorem J7W{K:y0}{T:String}{r:V->List V->Hp->VK->Prop}{to:TE}{t:TA}{σ:St}{H:Hp}{Q:VK}:tBM K T r to t σ H Q=(to σ H λ x H1=>tyV K T x H1/\t σ H1 λ xs H2=>r x xs H2 Q):=rfl
theorem J4X{x:V}{vs:List V}{H:Hp}{Q:VK}:Z7r x vs H Q=(∃l xs y,x=.ref l/\vs=[y]/\H l=some (.lst xs)/\xs.length<sizeLine/\Q .non (upd H l (.lst (xs++[y])))):=rfl
theorem J4Z{x:V}{vs:List V}{H:Hp}{Q:VK}:J0q x vs H Q=(∃l b xs zs,x=.ref l/\vs=[.ref b]/\H l=some (.lst xs)/\H b=some (.lst zs)/\xs.length+zs.length<=sizeLine/\Q .non (upd H l (.lst (xs++zs)))):=rfl
theorem J7a{x:V}{y:V}{H:Hp}{Q:VK}:rRep x y H Q=(∃l k xs,x=.ref l/\y=.int k/\H l=some (.lst xs)/\-(2^63)<=k/\k<2^63/\xs.length*k.toNat<=sizeLine/\∀p,H p=none->Q (.ref p) (upd H p (.lst (qa4 k.toNat xs).flatten))):=rfl
def J4G(J:It)(g:TG)(tb:TS)(D:Ends)(σ:St)(H:Hp):Prop:=∃W:Nat->Nat->St->Hp->Prop,(∃m,W 0 m σ H)/\∀i m σ H,W i m σ H->
 (J.stop i H/\D.nx σ H)\/(J.go i H/\∃N:St->Hp->Prop,(∀σ' H',N σ' H'->∃m',m'<m/\W (i+1) m' σ' H')/\∀x H',J.yld i H x H'->g x σ H' λ σ2 H2=>tb {D with nx:=N,ct:=N,bk:=D.nx} σ2 H2)
theorem J7A{wi:TI}{g:TG}{tb:TS}{D:Ends}{σ:St}{H:Hp}:tFor wi g tb D σ H=wi σ H λ J H1=>J4G J g tb D σ H1:=rfl
def clsV:V->Option q0
 | .ty n=>some (.type n)
 | .ref a=>some (.ref a)
 |_=>none
theorem Z8u{c:V}{cv u:q0}(h:clsV c=some cv)(r:RelV c u):u=cv:=by
 cases c with
 |ty n=>cases h;exact r
 |ref a=>cases h;exact r
 |_=>cases h
def rIsi(K:y0):List V->Hp->VK->Prop:=λ xs H Q=>∃x c cv t b,xs=[x,c]/\clsV c=some cv/\TyOf K H x t/\W.kitOne K t cv=some b/\Q (.bl b) H
section
variable{X:Cx}
theorem Z3U:Z3l X (.builtin "isinstance") (rIsi X.K):=by
 intro pins s σ H xs us Q I rs h;obtain⟨x,c,cv,t,b,rfl,hc,ty,e,q⟩:=h;obtain⟨u,v,rfl,ru,rv⟩:=rs.two;rw[Z8u hc rv];exact J1m I ru ty e λ tk=>⟨.bl b,H,I.tok tk,rfl,q⟩
end
section
variable{K:y0}
theorem Z4c{t:q0}:W.kitOne K t t=some true:=by
 unfold W.kitOne;rw[if_pos (by simp)]
theorem Z6L:W.kitOne K (.type "int") (.type "bool")=some false:=by with_unfolding_all rfl
end
structure Fn(K:y0)(mg:Z0->Option q0)(x:Z0)(st:Stmt):Prop where
 ex:∃f fd,Fun K x x st f fd/\mg x=some (.ref f)
structure Has(P:Program)(w:U0)(K:y0)(mg:Z0->Option q0)(base:V0)(k:Nat)(x:Z0)(ps:List Z0)(sp:Sp):Prop where
 ex:∃f fd,FnOk P w K mg base CX0 k f fd ps sp/\Binds K fd ps []/\W.keepIn K (.ref f)=true/\mg x=some (.ref f)
structure Cst(mg:Z0->Option q0)(x:Z0)(v:V):Prop where
 ex:∃u,mg x=some u/\RelV v u
section
variable{P:Program}{w:U0}{K:y0}{mg:Z0->Option q0}{base:V0}
theorem Z1b{h:V0}{x:Z0}{st:Stmt}{f:t0}{oc:q0}{od an:Option t0}{osl:Array (Option q0)}{kV doc pm cdv ct:q0}(X:K.In h)(G:h.Ns mainGlobals mg)(a:W.nsIn K mainGlobals x=some (some (.ref f)))(l:K.lookup f=some ⟨oc,od,.func (W.fnOf x x (Z0Q st) (Z0B st) (Z0e st) .none kV doc pm an cdv ct),osl⟩)(c:W.codeIn K cdv x=true)(k:W.keepIn K (.ref f)=true):Fn K mg x st:=
 ⟨f,_,Z8r l c k,W.mg_of X G a⟩
theorem Z1v{h:V0}{x:Z0}{i:Int}{t:Tok}(X:K.In h)(G:h.Ns mainGlobals mg)(a:W.nsIn K mainGlobals x=some (some (.int i t))):Cst mg x (.int i):=⟨_,W.mg_of X G a,_,rfl⟩
theorem Z7y{h:V0}{x:Z0}{a:t0}(X:K.In h)(G:h.Ns mainGlobals mg)(e:W.nsIn K mainGlobals x=some (some (.ref a))):Cst mg x (.ref a):=⟨_,W.mg_of X G e,rfl⟩
theorem Z4r{h:V0}{x y:Z0}{t:Tok}(X:K.In h)(G:h.Ns mainGlobals mg)(a:W.nsIn K mainGlobals x=some (some (.str y t))):Cst mg x (.str y):=⟨_,W.mg_of X G a,_,rfl⟩
theorem Has.of{x:Z0}{st:Stmt}{N ps:List Z0}{k:Nat}{sp:Sp}(F:Fn K mg x st)(S:Z0n N ps (Z0e st))(hb:∀(kV doc pm:q0)(an:Option t0)(cdv ct:q0)(us:List q0),us.length=ps.length->bindArgs (W.fnOf x x (Z0Q st) (Z0B st) (Z0e st) .none kV doc pm an cdv ct) ⟨us,[]⟩=pure (ps.zip us))(len:∀vs H Q E,sp vs H Q E->vs.length=ps.length)(hbody:∀(f:t0)(cdv:q0)(A:M0)(outer:List Env)(s:X0)(H:Hp)(vs:List V)(Q:VK)(E:XK),Room k (A.deeper (envOfC x (Z0e st) s.heap.objs.size f cdv))->sp vs H Q E->∃t,PSs (cxOf CX0 P w K mg base N x (Z0e st) f cdv A outer s H E).nox (Z0B st) t/\t {nx:=λ _ H'=>Q .non H',rt:=Q} (Z3w N vs) H):Has P w K mg base (k+1) x ps sp:=by
 obtain⟨f,fd,F,m⟩:=F.ex;exact⟨f,fd,F.ok S len λ cdv=>hbody f cdv,F.binds hb,F.kp,m⟩
theorem Has.mono{j k:Nat}{x:Z0}{ps:List Z0}{sp:Sp}(h:Has P w K mg base j x ps sp)(hk:j<=k):Has P w K mg base k x ps sp:=
 let⟨f,fd,F,b,kp,m⟩:=h.ex;⟨f,fd,F.mono hk,b,kp,m⟩
end
section
variable{X:Cx}{x:Z0}{ps:List Z0}{sp:Sp}{k j:Nat}{e:Expr}{es:List Expr}{t:TA}{p pos:Pos}{v:V}
theorem J6a(h:Has X.prog X.w X.K X.mg X.base k x ps sp)(hr:Room j X.A)(hk:k<=j)(hg:Gl X x)(ha:PA X (e::es) t)(hdb:(x==("__debug__":Z0))=false:=by decide)(he:starEach (e::es) X.env=(false,eval e X.env)::starEach es X.env:=by rfl)(hpl:(backTo pos (starEach es X.env)).any (·.1)=false:=by rfl):PE X (.Call (.Name x p) (e::es) [] pos) (J1H sp [] E0 t):=by
 obtain⟨f,fd,F,b,kp,m⟩:=h.ex;exact Z2l F (hr.mono hk) hg m kp b .nil Z4N ha hdb he hpl
theorem Z0G(h:Cst X.mg x v)(hg:Gl X x)(hd:(x==("__debug__":Z0))=false:=by decide):PE X (.Name x pos) (tC v):=by
 obtain⟨u,m,r⟩:=h.ex;exact Z4f hg m r hd
def J7O(i j:Int):Prop:=j≠0/\-(2^64)<j/\j<2^64
theorem J2i:OpR X (binaryOp .FloorDiv) (rI J7O λ i j=>.int (i.fdiv j)):=opI λ i j _ _ _ _ _ hc q=>floordiv_int hc.1 q (.inl (PyProof.noPylong_of_log2 (by
 have h:j.natAbs<2^64:=by have:=hc.2;omega
 have:=(Nat.log2_lt (by have:=hc.1;omega)).mpr h;omega)))
end
theorem Z0K{H:Hp}{p:t0}(h:H p=none)(o:HO):Same H (upd H p o):=λ b u q=>by rw[Z0k (Z0i q h)];exact q
theorem J0l{K:y0}{a:t0}{g:TG}{tb:TS}{D:Ends}{σ:St}{H:Hp}(xs:List V)(Pv:Nat->St->Hp->Prop)(h0:Pv 0 σ H)(hl:∀i σ H,i<=xs.length->Pv i σ H->SqL K H a xs)(hs:∀i x σ H,xs[i]?=some x->Pv i σ H->g x σ H λ σ2 H2=>tb {D with nx:=Pv (i+1),ct:=Pv (i+1),bk:=D.nx} σ2 H2)(hd:∀σ H,Pv xs.length σ H->D.nx σ H):J4G (Itl K a) g tb D σ H:=
 J1L Pv h0 hl hs hd
theorem J2E{K:y0}{a:t0}{g:TG}{tb:TS}{D:Ends}{σ:St}{H:Hp}(xs:List V)(Pv:Nat->St->Hp->Prop)(h0:Pv 0 σ H)(hl:∀i σ H,i<=xs.length->Pv i σ H->SqT K H a xs)(hs:∀i x σ H,xs[i]?=some x->Pv i σ H->g x σ H λ σ2 H2=>tb {D with nx:=Pv (i+1),ct:=Pv (i+1),bk:=D.nx} σ2 H2)(hd:∀σ H,Pv xs.length σ H->D.nx σ H):J4G (Itt K a) g tb D σ H:=
 J3S Pv h0 hl hs hd
theorem SqL.same{K:y0}{H H':Hp}{a:t0}{xs:List V}(h:SqL K H a xs)(s:Same H H'):SqL K H' a xs:=s.seq h
theorem SqT.same{K:y0}{H H':Hp}{a:t0}{xs:List V}(h:SqT K H a xs)(e:Same H H'):SqT K H' a xs:=by
 rcases h with(h|⟨o,h⟩)|h
 ·exact .inl (.inl (e _ _ h))
 ·exact .inl (.inr ⟨o,e _ _ h⟩)
 ·exact .inr h
section
variable{K:y0}{H:Hp}{Q:VK}{i:Int}{b:Bool}{x:Z0}
theorem Z4e{v:V}{n:String}{t:q0}{k:Bool}(ht:∀t',TyOf K H v t'->t'=t)(h0:TyOf K H v t)(hk:W.kitOne K t (.type n)=some k):rIsi K [v,.ty n] H Q=Q (.bl k) H:=by
 refine propext ⟨λ h=>?_,λ h=>⟨_,_,_,_,_,rfl,rfl,h0,hk,h⟩⟩;obtain⟨x,c,cv,t',b',e,hc,ty,k',q⟩:=h;cases e;cases hc;rw[ht _ ty,hk]at k';cases k';exact q
theorem J4z:rIsi K [.int i,.ty "int"] H Q=Q (.bl true) H:=Z4e (λ _ h=>by cases h;rfl) (.int i) Z4c
theorem J3s:rIsi K [.int i,.ty "bool"] H Q=Q (.bl false) H:=Z4e (λ _ h=>by cases h;rfl) (.int i) Z6L
theorem Z6F:W.kitOne K (.type "bool") (.type "int")=some true:=by with_unfolding_all rfl
theorem J4V:rIsi K [.bl b,.ty "int"] H Q=Q (.bl true) H:=Z4e (λ _ h=>by cases h;rfl) (.bl b) Z6F
theorem J3M:rIsi K [.bl b,.ty "bool"] H Q=Q (.bl true) H:=Z4e (λ _ h=>by cases h;rfl) (.bl b) Z4c
theorem J4O:rIsi K [.str x,.ty "str"] H Q=Q (.bl true) H:=Z4e (λ _ h=>by cases h;rfl) (.str x) Z4c
end
theorem ix0{α:Type}{x:α}{xs:List α}:atI (x::xs) 0=some x:=by simp[atI,ixN]
theorem ix1{α:Type}{x y:α}{xs:List α}:atI (x::y::xs) 1=some y:=by
 have:((1:Int)<(xs.length:Int)+1+1):=by lia
 simp[atI,ixN,this]
theorem J8e{CX:CXT}{P:Program}{w:U0}{K:y0}{mg:Z0->Option q0}{base:V0}{N:List Z0}{qual:Z0}{scope:Scope}{f:t0}{cd:q0}{A:M0}{outer:List Env}{s:X0}{H:Hp}{E:XK}:(cxOf CX P w K mg base N qual scope f cd A outer s H E).K=K:=rfl
theorem J1t:bootBuiltins "len"=some (.builtin "len"):=by decide+kernel
theorem J5P:bootBuiltins "max"=some (.builtin "max"):=by decide+kernel
theorem J3I:bootBuiltins "min"=some (.builtin "min"):=by decide+kernel
theorem J3f:bootBuiltins "sum"=some (.builtin "sum"):=by decide+kernel
theorem J5y:bootBuiltins "all"=some (.builtin "all"):=by decide+kernel
theorem J6h:bootBuiltins "any"=some (.builtin "any"):=by decide+kernel
theorem Z2r:bootBuiltins "isinstance"=some (.builtin "isinstance"):=by decide+kernel
theorem Z8q:bootBuiltins "int"=some (.type "int"):=by decide+kernel
theorem J4i:bootBuiltins "list"=some (.type "list"):=by decide+kernel
theorem Z2u:bootBuiltins "tuple"=some (.type "tuple"):=by decide+kernel
section
variable{a c:Int}{b e:Bool}{x y:Z0}
theorem J8k:scal (.non) (.non)=true:=rfl
theorem J8t:scal (.non) (.int a)=true:=rfl
theorem J8p:scal (.int a) (.non)=true:=rfl
theorem J8z:scal (.non) (.bl b)=true:=rfl
theorem J8x:scal (.bl b) (.non)=true:=rfl
theorem J8l:scal (.non) (.str x)=true:=rfl
theorem J8o:scal (.str x) (.non)=true:=rfl
theorem J8u:scal (.int a) (.int c)=true:=rfl
theorem J8r:scal (.bl b) (.bl e)=true:=rfl
theorem J8m:scal (.str x) (.str y)=true:=rfl
theorem J8y:scal (.int a) (.str x)=true:=rfl
theorem J8n:scal (.str x) (.int a)=true:=rfl
theorem J8s:scal (.bl b) (.str x)=true:=rfl
theorem J8q:scal (.str x) (.bl b)=true:=rfl
end
def Z6S(H H':Hp):Prop:=∀b o,(∀xs,o≠.lst xs)->H b=some o->H' b=some o
theorem Z4U{J:It}{te:TE}{Q:VK}{H:Hp}{D:t0}{ys:List V}{σ0:St}(v0:Option V)(rest:St)(R:Nat->V->Hp->Prop)(mono:∀j v H1 H2,R j v H1->Z6S H1 H2->R j v H2)(e0:σ0=v0::rest)(hD:H D=none)(hz:ys.length<=sizeLine)(j1:∀i H1,Same H H1->i<ys.length->J.go i H1)(j2:∀i H1 x H2,Same H H1->J.yld i H1 x H2->H2=H1/\ys[i]?=some x)(j3:∀H1,Same H H1->J.stop ys.length H1)(he:∀i y,ys[i]?=some y->∀H1 (K':VK),Same H H1->(∀v H2,Same H1 H2->R i v H2->K' v H2)->te (some y::rest) H1 K')(hQ:∀vs H',Same H H'->H' D=some (.lst vs)->vs.length=ys.length->(∀j v,vs[j]?=some v->R j v H')->Q (.ref D) H'):Z4H J (Z4x 0) Z4J te D Q σ0 (upd H D (.lst [])):=by
 refine⟨λ i m σ' H'=>m=ys.length-i/\i<=ys.length/\(∃v,σ'=v::rest)/\Same H H'/\∃vs,H' D=some (.lst vs)/\vs.length=i/\∀j v,vs[j]?=some v->R j v H',⟨ys.length,by simp,qb2 _,⟨v0,e0⟩,Z0K hD _,[],Z0g,rfl,λ j v h=>by simp at h⟩,?_⟩;rintro i m σ' H' ⟨rfl,hi,⟨v,rfl⟩,s1,vs,hv,hl,hr⟩;by_cases hlt:i<ys.length
 ·refine .inr ⟨j1 i H' s1 hlt,λ σ2 H2=>(∃v,σ2=v::rest)/\Same H H2/\∃vs,H2 D=some (.lst vs)/\vs.length=i+1/\∀j v,vs[j]?=some v->R j v H2,λ σ2 H2 ⟨a,b,c⟩=>⟨ys.length-(i+1),qR,rfl,hlt,a,b,c⟩,λ x H2 hx=>?_⟩;obtain⟨e1,e2⟩:=j2 i H' x H2 s1 hx;subst e1;unfold Z4x Z4J;rw[List.set_cons_zero];refine iteT (he i x e2 H2 _ s1 λ v H3 s3 hR=>?_);have h3:=s3 _ _ hv;have sn:Z6S H3 (upd H3 D (.lst (vs++[v]))):=λ b o ho hb=>by
   rw[Z0k (λ z=>by rw[z,h3]at hb;cases hb;exact ho _ rfl)];exact hb
  refine⟨vs,h3,qR,⟨_,rfl⟩,λ b o hb=>?_,_,Z0g,by rw[qa2,hl];rfl,λ j u hj=>?_⟩
  ·rw[Z0k (Z0i hb hD)];exact s3 _ _ (s1 _ _ hb)
  ·by_cases hj':j<vs.length
   ·rw[qi1 hj']at hj;exact mono j u _ _ (mono j u _ _ (hr j u hj) λ b o _ hb=>s3 b o hb) sn
   ·rw[qi0 qR]at hj;have ej:j-vs.length=0:=by
     have:=(qc6.mp hj).1;simp at this;lia
    rw[ej]at hj;cases hj;have:j=i:=by lia
    subst this;exact mono _ _ _ _ hR sn
 ·have e:i=ys.length:=by lia
  subst e;exact .inl ⟨j3 _ s1,hQ vs H' s1 hv hl hr⟩
theorem Z2X{K:y0}{a:t0}{te:TE}{Q:VK}{H:Hp}{D:t0}{ys:List V}{σ0:St}(v0:Option V)(rest:St)(R:Nat->V->Hp->Prop)(mono:∀j v H1 H2,R j v H1->Z6S H1 H2->R j v H2)(e0:σ0=v0::rest)(hD:H D=none)(hz:ys.length<=sizeLine)(ha:∀H1,Same H H1->SqT K H1 a ys)(he:∀i y,ys[i]?=some y->∀H1 (K':VK),Same H H1->(∀v H2,Same H1 H2->R i v H2->K' v H2)->te (some y::rest) H1 K')(hQ:∀vs H',Same H H'->H' D=some (.lst vs)->vs.length=ys.length->(∀j v,vs[j]?=some v->R j v H')->Q (.ref D) H'):Z4H (Itt K a) (Z4x 0) Z4J te D Q σ0 (upd H D (.lst [])):=
 Z4U v0 rest R mono e0 hD hz (λ i H1 s h=>⟨ys,ys[i],ha H1 s,qa7 h⟩) (λ i H1 x H2 s h=>⟨h.1,h.2 ys (ha H1 s)⟩) (λ H1 s=>⟨ys,ha H1 s,qa0 _⟩) he hQ
theorem Z3C{K:y0}{a:t0}{te:TE}{Q:VK}{H:Hp}{D:t0}{ys:List V}{σ0:St}(v0:Option V)(rest:St)(R:Nat->V->Hp->Prop)(mono:∀j v H1 H2,R j v H1->Z6S H1 H2->R j v H2)(e0:σ0=v0::rest)(hD:H D=none)(hz:ys.length<=sizeLine)(ha:∀H1,Same H H1->SqL K H1 a ys)(he:∀i y,ys[i]?=some y->∀H1 (K':VK),Same H H1->(∀v H2,Same H1 H2->R i v H2->K' v H2)->te (some y::rest) H1 K')(hQ:∀vs H',Same H H'->H' D=some (.lst vs)->vs.length=ys.length->(∀j v,vs[j]?=some v->R j v H')->Q (.ref D) H'):Z4H (Itl K a) (Z4x 0) Z4J te D Q σ0 (upd H D (.lst [])):=
 Z4U v0 rest R mono e0 hD hz (λ i H1 s h=>⟨ys,ys[i],ha H1 s,qa7 h⟩) (λ i H1 x H2 s h=>⟨h.1,h.2 ys (ha H1 s)⟩) (λ H1 s=>⟨ys,ha H1 s,qa0 _⟩) he hQ
def IsK(K:y0):Prop:=True
def Ob(H:Hp)(a:t0)(o:HO):Prop:=H a=some o
section
variable{K:y0}{H H' H1 H2:Hp}{a b p:t0}{o u:HO}{xs ys:List V}
theorem J7e:Ob H a o=(H a=some o):=rfl
grind_pattern J7e=>Ob H a o
theorem Ob.new:Ob (upd H p o) p o:=Z0g
grind_pattern Ob.new=>upd H p o
theorem Ob.same(h:Ob H a o)(s:Same H H'):Ob H' a o:=s _ _ h
grind_pattern Ob.same=>Ob H a o,Same H H'
theorem g_su(h:H p=none):Same H (upd H p o):=Z0K h o
grind_pattern g_su=>upd H p o
theorem g_st(h:Same H H1)(h':Same H1 H2):Same H H2:=h.trans h'
grind_pattern g_st=>Same H H1,Same H1 H2
theorem g_sT(h:SqT K H a xs)(s:Same H H'):SqT K H' a xs:=h.same s
grind_pattern g_sT=>SqT K H a xs,Same H H'
theorem g_sL(h:SqL K H a xs)(s:Same H H'):SqL K H' a xs:=h.same s
grind_pattern g_sL=>SqL K H a xs,Same H H'
theorem g_nT(k:IsK K)(h:Ob H a (.tup xs)):SqT K H a xs:=SqT.of h
grind_pattern g_nT=>IsK K,Ob H a (.tup xs)
theorem g_nL(k:IsK K)(h:Ob H a (.lst xs)):SqL K H a xs:=SqL.of h
grind_pattern g_nL=>IsK K,Ob H a (.lst xs)
end
structure Z7h(K:y0)(mg:Z0->Option q0)(cn:Z0)(C:t0):Prop where
 mgC:mg cn=some (.ref C)
 cl:Cls K C
 mks:W.makesIn K C=true
 kp:W.keepIn K (.ref C)=true
structure MFn(K:y0)(C:t0)(m qual:Z0)(st:Stmt):Prop where
 ex:∃f fd,Fun K m qual st f fd/\Meth K C m f
structure HasM(P:Program)(w:U0)(K:y0)(mg:Z0->Option q0)(base:V0)(k:Nat)(C:t0)(m:Z0)(ps:List Z0)(sp:Sp):Prop where
 ex:∃f fd,FnOk P w K mg base CX0 k f fd ps sp/\Binds K fd ps []/\Meth K C m f
section
variable{P:Program}{w:U0}{K:y0}{mg:Z0->Option q0}{base:V0}
theorem Z6z{h:V0}{cn:Z0}{C:t0}(X:K.In h)(G:h.Ns mainGlobals mg)(a:W.nsIn K mainGlobals cn=some (some (.ref C)))(pg:W.plainGet K C Str.empty=true)(hd:W.hasDictIn K C=true)(po:W.plainOver K C=true)(sa:W.findIn K (.ref C) "__setattr__"=some (some (.builtin "object.__setattr__")))(mk:W.makesIn K C=true)(kp:W.keepIn K (.ref C)=true):Z7h K mg cn C:=⟨W.mg_of X G a,⟨pg,hd,po,sa⟩,mk,kp⟩
theorem Z0z{C:t0}{f:Z0}(h:W.findIn K (.ref C) f=some none):NoAttr K C f:=h
theorem Z1n{C:t0}{m qual:Z0}{st:Stmt}{f:t0}{oc:q0}{od an:Option t0}{osl:Array (Option q0)}{kV doc pm cdv ct:q0}(a:W.findIn K (.ref C) m=some (some (.ref f)))(i:W.isFn K (.ref f)=true)(l:K.lookup f=some ⟨oc,od,.func (W.fnOf m qual (Z0Q st) (Z0B st) (Z0e st) .none kV doc pm an cdv ct),osl⟩)(c:W.codeIn K cdv qual=true)(k:W.keepIn K (.ref f)=true):MFn K C m qual st:=
 ⟨f,_,Z8r l c k,⟨a,i,k⟩⟩
theorem HasM.of{C:t0}{m qual:Z0}{st:Stmt}{N ps:List Z0}{k:Nat}{sp:Sp}(F:MFn K C m qual st)(S:Z0n N ps (Z0e st))(hb:∀(kV doc pm:q0)(an:Option t0)(cdv ct:q0)(us:List q0),us.length=ps.length->bindArgs (W.fnOf m qual (Z0Q st) (Z0B st) (Z0e st) .none kV doc pm an cdv ct) ⟨us,[]⟩=pure (ps.zip us))(len:∀vs H Q E,sp vs H Q E->vs.length=ps.length)(hbody:∀(f:t0)(cdv:q0)(A:M0)(outer:List Env)(s:X0)(H:Hp)(vs:List V)(Q:VK)(E:XK),Room k (A.deeper (envOfC qual (Z0e st) s.heap.objs.size f cdv))->sp vs H Q E->∃t,PSs (cxOf CX0 P w K mg base N qual (Z0e st) f cdv A outer s H E).nox (Z0B st) t/\t {nx:=λ _ H'=>Q .non H',rt:=Q} (Z3w N vs) H):HasM P w K mg base (k+1) C m ps sp:=by
 obtain⟨f,fd,F,mm⟩:=F.ex;exact⟨f,fd,F.ok S len λ cdv=>hbody f cdv,F.binds hb,mm⟩
end
section
variable{X:Cx}{x m:Z0}{ps:List Z0}{sp:Sp}{k j:Nat}{C:t0}{o e:Expr}{es:List Expr}{ta:TE}{t:TA}{p pos apos:Pos}
theorem J4y{pl:Sem Bool}(he:PE X o ta)(c:Cls X.K C)(h:HasM X.prog X.w X.K X.mg X.base k C m ps sp)(hr:Room j X.A)(hk:k<=j)(ha:PA X (e::es) t)(hst:starEach (e::es) X.env=(false,eval e X.env)::starEach es X.env:=by rfl)(hpl:(backTo pos (starEach es X.env)).any (·.1)=false:=by rfl)(ht:eval (.Call (.Attribute o m apos) (e::es) [] pos) X.env=(do
   let ov<-eval o X.env
   standAt apos.atName
   let(f,first)<-holding [ov] (getMethod ov m pl)
   callWith pos f first (backTo pos (starEach (e::es) X.env)) (backToKw pos (keywordEach [] X.env))):=by rfl):PE X (.Call (.Attribute o m apos) (e::es) [] pos) (Z9w C m sp [] E0 ta t):=by
 obtain⟨f,fd,F,b,mm⟩:=h.ex;exact Z9K he c mm F (hr.mono hk) b .nil Z4N ha hst hpl ht
theorem J2o{pl:Sem Bool}(he:PE X o ta)(c:Cls X.K C)(h:HasM X.prog X.w X.K X.mg X.base k C m ps sp)(hr:Room j X.A)(hk:k<=j)(ht:eval (.Call (.Attribute o m apos) [] [] pos) X.env=(do
   let ov<-eval o X.env
   standAt apos.atName
   let(f,first)<-holding [ov] (getMethod ov m pl)
   callWith pos f first (backTo pos (starEach [] X.env)) (backToKw pos (keywordEach [] X.env))):=by rfl):PE X (.Call (.Attribute o m apos) [] [] pos) (Z9w C m sp [] E0 ta tNil):=by
 obtain⟨f,fd,F,b,mm⟩:=h.ex;exact Z8k he c mm F (hr.mono hk) b .nil Z4N ht
theorem Z1K(c:Z7h X.K X.mg x C)(h:HasM X.prog X.w X.K X.mg X.base k C "__init__" ps sp)(hr:Room j X.A)(hk:k+1<=j)(hg:Gl X x)(ha:PA X (e::es) t)(hdb:(x==("__debug__":Z0))=false:=by decide)(he:starEach (e::es) X.env=(false,eval e X.env)::starEach es X.env:=by rfl)(hpl:(backTo pos (starEach es X.env)).any (·.1)=false:=by rfl):PE X (.Call (.Name x p) (e::es) [] pos) (J4k C sp [] E0 t):=by
 obtain⟨f,fd,F,b,mm⟩:=h.ex;exact J3Z ⟨c.mks,mm.at_,mm.fn,c.kp⟩ F (hr.mono hk) hg c.mgC b .nil Z4N ha hdb he hpl
end
def mono(t:TE):TE:=λ σ H Q=>∃Q0:VK,t σ H Q0/\∀v H',Q0 v H'->Q v H'
section
variable{X:Cx}{o e value:Expr}{f:Z0}{pos pos' tpos:Pos}{ta tv:TE}
theorem PE.mono{t:TE}(h:PE X e t):PE X e (mono t):=λ pins s σ H Q I ⟨Q0,h0,i⟩=>thn (h pins s σ H Q0 I h0) λ u s1 ⟨x,H1,I1,r,q⟩=>⟨x,H1,I1,r,i _ _ q⟩
def opt2(o:Option (Option V))(R:V->Prop):Prop:=match o with
 |some (some v)=>R v
 |_=>False
theorem J5b{v:V}{R:V->Prop}:opt2 (some (some v)) R=R v:=rfl
def J0h(i:Nat):TE:=λ σ H Q=>opt2 σ[i]? λ v=>Q v H
theorem J6L{i:Nat}{σ:St}{H:Hp}{Q:VK}:J0h i σ H Q=opt2 σ[i]? λ v=>Q v H:=rfl
theorem J3O{o:Option (Option V)}{R:V->Prop}(h:opt2 o R):∃v,o=some (some v)/\R v:=by
 unfold opt2 at h;split at h
 ·exact⟨_,rfl,h⟩
 ·cases h
theorem J4j{i:Nat}{x:Z0}(hN:X.N[i]?=some x)(hv:Vis X.env.scope x)(hd:(x==("__debug__":Z0))=false:=by decide)(hcd:(x==("__classdict__":Z0))=false:=by decide):PE X (.Name x pos) (J0h i):=
 λ pins s σ H Q I h=>J3l hN hv hd hcd pins s σ H Q I (J3O h)
theorem pvF(i:Nat){x:Z0}(hN:X.N[i]?=some x:=by rfl)(hv:Vis X.env.scope x:=by first|exact Or.inl rfl|exact Or.inr (Or.inl rfl)|exact Or.inr (Or.inr rfl))(hd:(x==("__debug__":Z0))=false:=by decide)(hcd:(x==("__classdict__":Z0))=false:=by decide):PE X (.Name x pos) (J0h i):=J4j hN hv hd hcd
inductive Fld(K:y0)(f:Z0)(a:t0)(H:Hp)(Q:VK):Prop
 |mk(C dx:t0)(fs:List (Z0×V))(h:H a=some (.ins C dx fs))(cl:Cls K C)(n:NoAttr K C f)(v:V)(l:fs.lookup f=some v)(q:Q v H):Fld K f a H Q
def J2Y(K:y0)(ta:TE)(f:Z0):TE:=λ σ H Q=>ta σ H λ x H1=>∃a,x=.ref a/\Fld K f a H1 Q
theorem J6E{K:y0}{σ:St}{H:Hp}{Q:VK}:J2Y K ta f σ H Q=ta σ H λ x H1=>∃a,x=.ref a/\Fld K f a H1 Q:=rfl
theorem Z7i(he:PE X e ta)(hb:attributeBase e f X.env (eval e X.env)=eval e X.env):PE X (.Attribute e f pos) (J2Y X.K ta f):=by
 intro pins s σ H Q I h;refine J4x hb (thn (he pins s σ H _ I h) λ u s1 hz=>?_);obtain⟨x,H1,I1,rx,a,ex,hz⟩:=hz;obtain⟨C,dx,fs,ea,c,n,v,l,q⟩:=hz;subst ex;cases(show u=Value.ref a from rx);exact Z5e I1 ea c n l λ u' s2 I2 ru=>⟨v,H1,I2,ru,q⟩
inductive SFld(K:y0)(f:Z0)(a:t0)(H:Hp)(R:t0->t0->List (Z0×V)->Prop):Prop
 |mk(C dx:t0)(fs:List (Z0×V))(h:H a=some (.ins C dx fs))(cl:Cls K C)(n:NoAttr K C f)(l:fs.length<1000)(r:R C dx fs):SFld K f a H R
def J6k(K:y0)(ta tv:TE)(f:Z0):TS:=λ D σ H=>tv σ H λ y H1=>ta σ H1 λ x H2=>∃a,x=.ref a/\SFld K f a H2 λ C dx fs=>D.nx σ (upd H2 a (.ins C dx (putF f y fs)))
theorem J6D{K:y0}{D:Ends}{σ:St}{H:Hp}:J6k K ta tv f D σ H=tv σ H λ y H1=>ta σ H1 λ x H2=>∃a,x=.ref a/\SFld K f a H2 λ C dx fs=>D.nx σ (upd H2 a (.ins C dx (putF f y fs))):=rfl
theorem Z0U(ha:PE X o ta)(hv:PE X value tv)(hs:swapsWith value (some (.Attribute o f pos')) pos.line X.env=pure false):PS X (.Assign [.Attribute o f pos'] value pos) (J6k X.K ta tv f):=by
 intro pins s σ H D I h;refine plainObj_wpAny_Assign_Attribute (thn (hv pins s σ H _ I h) λ u s1 ⟨y,H1,I1,ry,q⟩=>thn (ha pins s1 σ H1 _ I1 q) λ ov s2 hz=>?_) hs;obtain⟨x,H2,I2,rx,a,ex,hz⟩:=hz;obtain⟨C,dx,fs,ea,c,n,l,q2⟩:=hz;subst ex;cases(show ov=Value.ref a from rx);exact Z5i I2 ea c n l ry λ s3 I3=>⟨σ,_,I3,q2⟩
inductive FldC(K:y0)(f:Z0)(a:t0)(H:Hp)(R:t0->V->Prop):Prop
 |mk(C dx:t0)(fs:List (Z0×V))(h:H a=some (.ins C dx fs))(cl:Cls K C)(n:NoAttr K C f)(v:V)(l:fs.lookup f=some v)(q:R C v):FldC K f a H R
inductive InsC(C a:t0)(H:Hp)(R:t0->List (Z0×V)->Prop):Prop
 |mk(dx:t0)(fs:List (Z0×V))(h:H a=some (.ins C dx fs))(l:fs.length<1000)(r:R dx fs):InsC C a H R
def Z8o(K:y0)(ta tv:TE)(rd:V->V->Hp->VK->Prop)(f:Z0):TS:=λ D σ H=>ta σ H λ x H1=>∃a,x=.ref a/\FldC K f a H1 λ C v=>
 tv σ H1 λ y H2=>rd v y H2 λ z H3=>InsC C a H3 λ dx' fs'=>D.nx σ (upd H3 a (.ins C dx' (putF f z fs')))
theorem J4a{K:y0}{rd:V->V->Hp->VK->Prop}{D:Ends}{σ:St}{H:Hp}:Z8o K ta tv rd f D σ H=ta σ H λ x H1=>∃a,x=.ref a/\FldC K f a H1 λ C v=>tv σ H1 λ y H2=>rd v y H2 λ z H3=>InsC C a H3 λ dx' fs'=>D.nx σ (upd H3 a (.ins C dx' (putF f z fs'))):=rfl
theorem Z4S{op:Operator}{rd:V->V->Hp->VK->Prop}(ha:PE X o ta)(hv:PE X value tv)(hop:InOp X op rd):PS X (.AugAssign (.Attribute o f tpos) op value pos) (Z8o X.K ta tv rd f):=by
 intro pins s σ H D I h;refine wpAny_AugAssign_AttributeAny (thn (ha pins s σ H _ I h) λ ov s1 hz=>?_);obtain⟨x,H1,I1,rx,a,ex,hz⟩:=hz;obtain⟨C,dx,fs,ea,c,n,v,l,q⟩:=hz;subst ex;cases(show ov=Value.ref a from rx);refine Z5e I1 ea c n l λ u s2 I2 ru=>thn (hv pins s2 σ H1 _ I2 q) λ w3 s3 ⟨y,H2,I3,ry,q3⟩=>thn (hop pins s3 σ H2 v y u w3 _ I3 ru ry q3) λ w4 s4 ⟨z,H3,I4,rz,hz⟩=>?_;obtain⟨dx',fs',ea',l',q4⟩:=hz;exact Z5i I4 ea' c n l' rz λ s5 I5=>⟨σ,_,I5,q4⟩
inductive Z8a(C:t0)(m:Z0)(a:t0)(H:Hp)(R:Prop):Prop
 |mk(dx:t0)(fs:List (Z0×V))(h:H a=some (.ins C dx fs))(l:fs.lookup m=none)(r:R):Z8a C m a H R
def Z6q(C:t0)(m:Z0)(sp:Sp)(dvs:List V)(E:XK)(ta:TE)(t:TA):TE:=λ σ H Q=>ta σ H λ x H1=>∃a,x=.ref a/\Z8a C m a H1 (t σ H1 λ vs H2=>sp (x::(vs++dvs)) H2 Q E)
theorem J6t{C:t0}{m:Z0}{sp:Sp}{dvs:List V}{E:XK}{t:TA}{σ:St}{H:Hp}{Q:VK}:Z6q C m sp dvs E ta t σ H Q=ta σ H λ x H1=>∃a,x=.ref a/\Z8a C m a H1 (t σ H1 λ vs H2=>sp (x::(vs++dvs)) H2 Q E):=rfl
variable{C:t0}{m:Z0}{ps:List Z0}{sp:Sp}{k j:Nat}{es:List Expr}{t:TA}{apos:Pos}
theorem Z0W{pl:Sem Bool}(he:PE X o ta)(c:Cls X.K C)(h:HasM X.prog X.w X.K X.mg X.base k C m ps sp)(hr:Room j X.A)(hk:k<=j)(ha:PA X (e::es) t)(hst:starEach (e::es) X.env=(false,eval e X.env)::starEach es X.env:=by rfl)(hpl:(backTo pos (starEach es X.env)).any (·.1)=false:=by rfl)(ht:eval (.Call (.Attribute o m apos) (e::es) [] pos) X.env=(do
   let ov<-eval o X.env
   standAt apos.atName
   let(f,first)<-holding [ov] (getMethod ov m pl)
   callWith pos f first (backTo pos (starEach (e::es) X.env)) (backToKw pos (keywordEach [] X.env))):=by rfl):PE X (.Call (.Attribute o m apos) (e::es) [] pos) (Z6q C m sp [] E0 ta t):=
 λ pins s σ H Q I h'=>J4y he.mono c h hr hk ha hst hpl ht pins s σ H Q I ⟨_,h',λ _ _ ⟨a,e,dx,fs,h,l,r⟩=>⟨a,dx,fs,e,h,l,r⟩⟩
theorem Z0x{pl:Sem Bool}(he:PE X o ta)(c:Cls X.K C)(h:HasM X.prog X.w X.K X.mg X.base k C m ps sp)(hr:Room j X.A)(hk:k<=j)(ht:eval (.Call (.Attribute o m apos) [] [] pos) X.env=(do
   let ov<-eval o X.env
   standAt apos.atName
   let(f,first)<-holding [ov] (getMethod ov m pl)
   callWith pos f first (backTo pos (starEach [] X.env)) (backToKw pos (keywordEach [] X.env))):=by rfl):PE X (.Call (.Attribute o m apos) [] [] pos) (Z6q C m sp [] E0 ta tNil):=
 λ pins s σ H Q I h'=>J2o he.mono c h hr hk ht pins s σ H Q I ⟨_,h',λ _ _ ⟨a,e,dx,fs,h,l,r⟩=>⟨a,dx,fs,e,h,l,r⟩⟩
inductive IxT(K:y0)(p:t0)(i:Int)(H:Hp)(Q:VK):Prop
 |mk(xs:List V)(h:SqT K H p xs)(v:V)(l:atI xs i=some v)(q:Q v H):IxT K p i H Q
inductive IxL(K:y0)(p:t0)(i:Int)(H:Hp)(Q:VK):Prop
 |mk(xs:List V)(h:SqL K H p xs)(v:V)(l:atI xs i=some v)(q:Q v H):IxL K p i H Q
def Z9i(K:y0):R2:=λ x y H Q=>∃p,x=.ref p/\∃i,y=.int i/\IxT K p i H Q
def J2v(K:y0):R2:=λ x y H Q=>∃p,x=.ref p/\∃i,y=.int i/\IxL K p i H Q
theorem J6x{K:y0}{x y:V}{H:Hp}{Q:VK}:Z9i K x y H Q=∃p,x=.ref p/\∃i,y=.int i/\IxT K p i H Q:=rfl
theorem J6M{K:y0}{x y:V}{H:Hp}{Q:VK}:J2v K x y H Q=∃p,x=.ref p/\∃i,y=.int i/\IxL K p i H Q:=rfl
theorem J0c:IxR X (Z9i X.K):=λ value slice pins s σ H x y v u Q I rx ry ⟨p,e1,i,e2,xs,h,z,l,q⟩ hs=>J6b value slice pins s σ H x y v u Q I rx ry ⟨p,xs,i,z,e1,e2,h,l,q⟩ hs
theorem J1X:IxR X (J2v X.K):=λ value slice pins s σ H x y v u Q I rx ry ⟨p,e1,i,e2,xs,h,z,l,q⟩ hs=>J4M value slice pins s σ H x y v u Q I rx ry ⟨p,xs,i,z,e1,e2,h,l,q⟩ hs
inductive SetL(p:t0)(k:Int)(H:Hp)(R:List V->Nat->Prop):Prop
 |mk(xs:List V)(h:H p=some (.lst xs))(j:Nat)(l:ixN xs.length k=some j)(r:R xs j):SetL p k H R
inductive HdOf(vs:List V)(R:V->List V->Prop):Prop
 |mk(v:V)(r:List V)(e:vs=v::r)(q:R v r):HdOf vs R
inductive J3X(K:y0)(a:t0)(n:Nat)(H:Hp)(R:List V->Prop):Prop
 |mk(xs:List V)(h:SqT K H a xs)(l:xs.length=n)(q:R xs):J3X K a n H R
def J4C(K:y0)(n:Nat)(t:TGs):TG:=λ v σ H Q=>∃a,v=.ref a/\J3X K a n H λ xs=>t xs σ H Q
theorem J6G{K:y0}{n:Nat}{t:TGs}{v:V}{σ:St}{H:Hp}{Q:St->Hp->Prop}:J4C K n t v σ H Q=∃a,v=.ref a/\J3X K a n H λ xs=>t xs σ H Q:=rfl
def J3D(t:TG)(u:TGs):TGs:=λ vs σ H Q=>HdOf vs λ v r=>t v σ H λ σ' H'=>u r σ' H' Q
theorem J6m{t:TG}{u:TGs}{vs:List V}{σ:St}{H:Hp}{Q:St->Hp->Prop}:J3D t u vs σ H Q=HdOf vs λ v r=>t v σ H λ σ' H'=>u r σ' H' Q:=rfl
theorem Z1D{e:Expr}{es:List Expr}{t:TG}{u:TGs}(h1:PG X e t)(h2:PGs X es u)(hs:(assignEach (e::es) X.env).map (·.2)=assign e X.env::(assignEach es X.env).map (·.2):=by rfl):PGs X (e::es) (J3D t u):=
 λ pins s σ H vs us Q I r ⟨v,w,e,q⟩=>J3c h1 h2 hs pins s σ H vs us Q I r ⟨v,w,e,q⟩
theorem Z7D{es:List Expr}{k:Nat}{t:TGs}{n:Nat}(hc:X.calm=true)(h:PGs X es t)(hn:(assignEach es X.env).length=n:=by rfl)(hst:(assignEach es X.env).findIdx? (·.1)=none:=by rfl):PG X (.Tuple es k pos) (J4C X.K n t):=
 λ pins s σ H v u Q I r ⟨a,e,xs,h',l,q⟩=>J5u hc h hn hst pins s σ H v u Q I r ⟨a,xs,e,h',l,q⟩
end
@[elab_as_elim] theorem el0 {α:Type} {motive:List α->Prop} (us:List α) (h:us.length=0) (k:motive []):motive us:=match us,h with|[],_=>k
@[elab_as_elim] theorem el1 {α:Type} {motive:List α->Prop} (us:List α) (h:us.length=1) (k:∀a:α,motive [a]):motive us:=match us,h with|[a],_=>k a
@[elab_as_elim] theorem el2 {α:Type} {motive:List α->Prop} (us:List α) (h:us.length=2) (k:∀a b:α,motive [a,b]):motive us:=match us,h with|[a,b],_=>k a b
@[elab_as_elim] theorem el3 {α:Type} {motive:List α->Prop} (us:List α) (h:us.length=3) (k:∀a b c:α,motive [a,b,c]):motive us:=match us,h with|[a,b,c],_=>k a b c
@[elab_as_elim] theorem el4 {α:Type} {motive:List α->Prop} (us:List α) (h:us.length=4) (k:∀a b c d:α,motive [a,b,c,d]):motive us:=match us,h with|[a,b,c,d],_=>k a b c d
@[elab_as_elim] theorem el5 {α:Type} {motive:List α->Prop} (us:List α) (h:us.length=5) (k:∀a b c d e:α,motive [a,b,c,d,e]):motive us:=match us,h with|[a,b,c,d,e],_=>k a b c d e
@[elab_as_elim] theorem el6 {α:Type} {motive:List α->Prop} (us:List α) (h:us.length=6) (k:∀a b c d e f:α,motive [a,b,c,d,e,f]):motive us:=match us,h with|[a,b,c,d,e,f],_=>k a b c d e f
@[elab_as_elim] theorem el7 {α:Type} {motive:List α->Prop} (us:List α) (h:us.length=7) (k:∀a b c d e f g:α,motive [a,b,c,d,e,f,g]):motive us:=match us,h with|[a,b,c,d,e,f,g],_=>k a b c d e f g
theorem seq2{t1 t2:TS}{D:Ends}{σ:St}{H:Hp}(h:∀u1,u1=t2->t1 {D with nx:=u1 D} σ H):(tSeq t1 t2) D σ H:=h _ rfl
theorem seq4{t1 t2 t3 t4:TS}{D:Ends}{σ:St}{H:Hp}(h:∀u3,u3=t4->∀u2,u2=tSeq t3 u3->∀u1,u1=tSeq t2 u2->t1 {D with nx:=u1 D} σ H):(tSeq t1 (tSeq t2 (tSeq t3 t4))) D σ H:=h _ rfl _ rfl _ rfl
theorem seq6{t1 t2 t3 t4 t5 t6:TS}{D:Ends}{σ:St}{H:Hp}(h:∀u5,u5=t6->∀u4,u4=tSeq t5 u5->∀u3,u3=tSeq t4 u4->∀u2,u2=tSeq t3 u3->∀u1,u1=tSeq t2 u2->t1 {D with nx:=u1 D} σ H):(tSeq t1 (tSeq t2 (tSeq t3 (tSeq t4 (tSeq t5 t6))))) D σ H:=h _ rfl _ rfl _ rfl _ rfl _ rfl
theorem J7l{t1 t2 t3 t4 t5 t6 t7 t8 t9 t10 t11 t12:TS}{D:Ends}{σ:St}{H:Hp}(h:∀u11,u11=t12->∀u10,u10=tSeq t11 u11->∀u9,u9=tSeq t10 u10->∀u8,u8=tSeq t9 u9->∀u7,u7=tSeq t8 u8->∀u6,u6=tSeq t7 u7->∀u5,u5=tSeq t6 u6->∀u4,u4=tSeq t5 u5->∀u3,u3=tSeq t4 u4->∀u2,u2=tSeq t3 u3->∀u1,u1=tSeq t2 u2->t1 {D with nx:=u1 D} σ H):(tSeq t1 (tSeq t2 (tSeq t3 (tSeq t4 (tSeq t5 (tSeq t6 (tSeq t7 (tSeq t8 (tSeq t9 (tSeq t10 (tSeq t11 t12))))))))))) D σ H:=h _ rfl _ rfl _ rfl _ rfl _ rfl _ rfl _ rfl _ rfl _ rfl _ rfl _ rfl
theorem J7w{t1 t2 t3 t4 t5 t6 t7 t8 t9 t10 t11 t12 t13:TS}{D:Ends}{σ:St}{H:Hp}(h:∀u12,u12=t13->∀u11,u11=tSeq t12 u12->∀u10,u10=tSeq t11 u11->∀u9,u9=tSeq t10 u10->∀u8,u8=tSeq t9 u9->∀u7,u7=tSeq t8 u8->∀u6,u6=tSeq t7 u7->∀u5,u5=tSeq t6 u6->∀u4,u4=tSeq t5 u5->∀u3,u3=tSeq t4 u4->∀u2,u2=tSeq t3 u3->∀u1,u1=tSeq t2 u2->t1 {D with nx:=u1 D} σ H):(tSeq t1 (tSeq t2 (tSeq t3 (tSeq t4 (tSeq t5 (tSeq t6 (tSeq t7 (tSeq t8 (tSeq t9 (tSeq t10 (tSeq t11 (tSeq t12 t13)))))))))))) D σ H:=h _ rfl _ rfl _ rfl _ rfl _ rfl _ rfl _ rfl _ rfl _ rfl _ rfl _ rfl _ rfl
def New(H:Hp)(o:HO)(R:t0->Hp->Prop):Prop:=∀p,H p=none->R p (upd H p o)
theorem New.of{H:Hp}{o:HO}{R:t0->Hp->Prop}(h:∀p H',H p=none->Same H H'->H' p=some o->R p H'):New H o R:=λ p hp=>h p _ hp (Z0K hp o) Z0g
theorem J6X{t:TA}{σ:St}{H:Hp}{Q:VK}:tTup t σ H Q=(t σ H λ xs H1=>xs.length<=sizeLine/\New H1 (.tup xs) λ p H2=>Q (.ref p) H2):=rfl
theorem J7n{t:TA}{σ:St}{H:Hp}{Q:VK}:tLst t σ H Q=(t σ H λ xs H1=>xs.length<=sizeLine/\New H1 (.lst xs) λ p H2=>Q (.ref p) H2):=rfl
theorem J7p{K:y0}{x:V}{lo:Option Int}{hi:Option Int}{H:Hp}{Q:VK}:rSlL K x lo hi H Q=(∃a xs,x=.ref a/\SqL K H a xs/\New H (.lst (cutV xs lo hi)) λ p H2=>Q (.ref p) H2):=rfl
theorem J7D{x:V}{y:V}{H:Hp}{Q:VK}:rCat x y H Q=(∃l b xs zs,x=.ref l/\y=.ref b/\H l=some (.lst xs)/\H b=some (.lst zs)/\xs.length+zs.length<=sizeLine/\New H (.lst (xs++zs)) λ p H2=>Q (.ref p) H2):=rfl
theorem qA(K)(i:Nat){x:Z0}(hN:X.N[i]?=some x:=by rfl)(hv:Vis X.env.scope x:=by first|exact Or.inl rfl|exact Or.inr (Or.inl rfl)|exact Or.inr (Or.inr rfl))(hd:(x==("__debug__":Z0))=false:=by decide)(hc:(x==("__classdict__":Z0))=false:=by decide)(h:IxR X (Z9i K):=by exact J0c):PE X (.Subscript (.Name x p) (.Constant (.int j) l p2) p3) (tOp (Z9i K) (J0h i) (tC (.int j))):=Z5I h (pvF i hN hv hd hc) Z0c (λ _ _=>rfl)
theorem qC(K)(ha:PE X a ta)(hb:PE X b tb)(h:IxR X (Z9i K):=by exact J0c)(hs:Z7q b:=by exact λ _ _=>rfl):PE X (.Subscript a b pos) (tOp (Z9i K) ta tb):=Z5I h ha hb hs
theorem qD(K)(ha:PE X a ta)(hb:PE X b tb)(h:IxR X (J2v K):=by exact J1X)(hs:Z7q b:=by exact λ _ _=>rfl):PE X (.Subscript a b pos) (tOp (J2v K) ta tb):=Z5I h ha hb hs
theorem qF{x:Z0}(h:Has X.prog X.w X.K X.mg X.base k x ps sp)(hr:Room j X.A)(ha:PA X (e::es) t)(hk:k<=j:=by first|decide|lia)(hg:Gl X x:=by exact rfl)(hd:(x==("__debug__":Z0))=false:=by decide)(he:starEach (e::es) X.env=(false,eval e X.env)::starEach es X.env:=by rfl)(hl:(backTo pos (starEach es X.env)).any (·.1)=false:=by rfl):PE X (.Call (.Name x p) (e::es) [] pos) (J1H sp [] E0 t):=J6a h hr hk hg ha hd he hl
theorem qG(i:Nat){x:Z0}{e:Expr}{te:TE}{pos':Pos}(hN:X.N.Nodup)(he:PE X e te)(hi:X.N[i]?=some x:=by exact rfl)(hx:Loc X.env.scope x:=by exact Or.inl rfl)(hs:swapsWith e (some (.Name x pos')) pos.line X.env=pure false:=by rfl)(hf:X.fn x=true\/X.env.scope.names.lookup x=some .local:=by first|exact .inl rfl|exact .inr rfl|assumption):PS X (.Assign [.Name x pos'] e pos) (tAsg te (Z4x i)):=J5J hN hi hx he hs hf
theorem qH(i:Nat){x:Z0}(hN:X.N.Nodup)(hi:X.N[i]?=some x:=by exact rfl)(hx:Loc X.env.scope x:=by exact Or.inl rfl)(hf:X.fn x=true\/X.env.scope.names.lookup x=some .local:=by first|exact .inl rfl|exact .inr rfl|assumption):PG X (.Name x pos) (Z4x i):=Z7o hN hi hx hf
theorem qI(a:PE X e te)(h:starEach [e] X.env=(false,eval e X.env)::starEach [] X.env:=by rfl):PA X [e] (Z4B te tNil):=Z0t a Z2O h
theorem qJ(a:PE X e te)(b:PE X f tf)(h:starEach [e,f] X.env=(false,eval e X.env)::starEach [f] X.env:=by rfl)(h2:starEach [f] X.env=(false,eval f X.env)::starEach [] X.env:=by rfl):PA X [e,f] (Z4B te (Z4B tf tNil)):=Z0t a (qI b h2) h
theorem qK(a:PE X e te)(b:PE X f tf)(c:PE X g tg)(h:starEach [e,f,g] X.env=(false,eval e X.env)::starEach [f,g] X.env:=by rfl)(h2:starEach [f,g] X.env=(false,eval f X.env)::starEach [g] X.env:=by rfl)(h3:starEach [g] X.env=(false,eval g X.env)::starEach [] X.env:=by rfl):PA X [e,f,g] (Z4B te (Z4B tf (Z4B tg tNil))):=Z0t a (qJ b c h2 h3) h
theorem qL(hm:X.mg "len"=none)(ha:PA X (e::es) t)(hg:Gl X "len":=by exact rfl)(he:starEach (e::es) X.env=(false,eval e X.env)::starEach es X.env:=by rfl)(hl:(backTo pos (starEach es X.env)).any (·.1)=false:=by rfl):PE X (.Call (.Name "len" p) (e::es) [] pos) (tCB (λ xs H Q=>∃p ys,xs=[.ref p]/\(SqL X.K H p ys\/SqT X.K H p ys)/\Q (.int ys.length) H) t):=Z0s Z6R hg hm J1t ha (he:=he) (hpl:=hl)
theorem qM{op:CmpOp}{r:R2}(ho:OpR X (compareOp op) r)(ha:PE X a ta)(hb:PE X b tb)(h:op≠.In:=by decide)(h2:op≠.NotIn:=by decide):PT X (.Compare a [op] [b] pos) (J1Y (tOp r ta tb)):=Z2L ho ha hb (Z1Z _ h h2)
theorem qN{i j p pos}:PE X (.UnaryOp .USub (.Constant (.int i) j p) pos) (tUn (rU λ i=>.int (-i)) (tC (.int i))):=J7C J6e Z0c
theorem qO(i:Nat){x f:Z0}(hN:X.N[i]?=some x:=by rfl)(hv:Vis X.env.scope x:=by first|exact Or.inl rfl|exact Or.inr (Or.inl rfl)|exact Or.inr (Or.inr rfl))(hd:(x==("__debug__":Z0))=false:=by decide)(hc:(x==("__classdict__":Z0))=false:=by decide)(hb:attributeBase (.Name x p) f X.env (eval (.Name x p) X.env)=eval (.Name x p) X.env:=by exact rfl):PE X (.Attribute (.Name x p) f pos) (J2Y X.K (J0h i) f):=Z7i (pvF i hN hv hd hc) hb
end L2
end
section
namespace TM
open PySem L2 P15
structure Kp(H H':Hp):Prop where
 t:∀b xs,H b=some (.tup xs)->H' b=some (.tup xs)
 z:∀b o xs,H b=some (.frz o (.tup xs))->H' b=some (.frz o (.tup xs))
 i:∀b C dx f fs,H b=some (.ins C dx (f::fs))->H' b=some (.ins C dx (f::fs))
theorem Kp.of{H H':Hp}(s:Same H H'):Kp H H':=⟨λ _ _ h=>s _ _ h,λ _ _ _ h=>s _ _ h,λ _ _ _ _ _ h=>s _ _ h⟩
structure Kt(H H':Hp):Prop where
 t:∀b xs,H b=some (.tup xs)->H' b=some (.tup xs)
 z:∀b o xs,H b=some (.frz o (.tup xs))->H' b=some (.frz o (.tup xs))
theorem Kp.kt{H H':Hp}(k:Kp H H'):Kt H H':=⟨k.t,k.z⟩
theorem Kt.put{H:Hp}{a:t0}{u:HO}(o:HO)(h:H a=some u)(n1:∀xs,u≠.tup xs)(n2:∀o xs,u≠.frz o (.tup xs)):Kt H (upd H a o):=by
 refine⟨λ b xs e=>?_,λ b o xs e=>?_⟩
 ·rw[Z0k (λ z=>by rw[z,h]at e;cases e;exact n1 _ rfl)];exact e
 ·rw[Z0k (λ z=>by rw[z,h]at e;cases e;exact n2 _ _ rfl)];exact e
theorem SqT.kt{K:y0}{H H':Hp}{a:t0}{xs:List V}(h:SqT K H a xs)(k:Kt H H'):SqT K H' a xs:=by
 rcases h with(h|⟨o,h⟩)|h
 ·exact .inl (.inl (k.t _ _ h))
 ·exact .inl (.inr ⟨o,k.z _ _ _ h⟩)
 ·exact .inr h
theorem SqT.kp{K:y0}{H H':Hp}{a:t0}{xs:List V}(h:SqT K H a xs)(k:Kp H H'):SqT K H' a xs:=SqT.kt h k.kt
mutual
inductive RT(K:y0)(H:Hp):V->PyData->Prop
 |non:RT K H .non .none
 |bl(b:Bool):RT K H (.bl b) (.bool b)
 |int(i:Int):RT K H (.int i) (.int i)
 |str(x:Z0):RT K H (.str x) (.str x)
 |tup{a:t0}{xs:List V}{ds:List PyData}:SqT K H a xs->RTs K H xs ds->RT K H (.ref a) (.tuple ds)
inductive RTs(K:y0)(H:Hp):List V->List PyData->Prop
 |nil:RTs K H [] []
 |cons{v:V}{vs:List V}{d:PyData}{ds:List PyData}:RT K H v d->RTs K H vs ds->RTs K H (v::vs) (d::ds)
end
section
variable{K:y0}{H H':Hp}
mutual
theorem RT.rd:∀{v:V}{d:PyData},RT K H v d->RdD K H v d
 |_,_,.non=>.non
 |_,_,.bl b=>.bl b
 |_,_,.int i=>.int i
 |_,_,.str x=>.str x
 |_,_,.tup hq hs=>.tup hq (RTs.rd hs)
theorem RTs.rd:∀{vs:List V}{ds:List PyData},RTs K H vs ds->RdDs K H vs ds
 |_,_,.nil=>.nil
 |_,_,.cons h hs=>.cons (RT.rd h) (RTs.rd hs)
end
mutual
theorem RT.kt(k:Kt H H'):∀{v:V}{d:PyData},RT K H v d->RT K H' v d
 |_,_,.non=>.non
 |_,_,.bl b=>.bl b
 |_,_,.int i=>.int i
 |_,_,.str x=>.str x
 |_,_,.tup hq hs=>.tup (SqT.kt hq k) (RTs.kt k hs)
theorem RTs.kt(k:Kt H H'):∀{vs:List V}{ds:List PyData},RTs K H vs ds->RTs K H' vs ds
 |_,_,.nil=>.nil
 |_,_,.cons h hs=>.cons (RT.kt k h) (RTs.kt k hs)
end
theorem RT.kp{v:V}{d:PyData}(k:Kp H H')(h:RT K H v d):RT K H' v d:=h.kt k.kt
theorem RTs.kp{vs:List V}{ds:List PyData}(k:Kp H H')(h:RTs K H vs ds):RTs K H' vs ds:=h.kt k.kt
theorem RT.same{v:V}{d:PyData}(h:RT K H v d)(s:Same H H'):RT K H' v d:=h.kp (Kp.of s)
theorem RTs.same{vs:List V}{ds:List PyData}(h:RTs K H vs ds)(s:Same H H'):RTs K H' vs ds:=h.kp (Kp.of s)
theorem RT.tup_inv{v:V}{ds:List PyData}(h:RT K H v (.tuple ds)):∃a xs,v=.ref a/\SqT K H a xs/\RTs K H xs ds:=by
 cases h with
 |tup a b=>exact⟨_,_,rfl,a,b⟩
theorem RTs.inv{vs:List V}{d:PyData}{ds:List PyData}(h:RTs K H vs (d::ds)):∃v r,vs=v::r/\RT K H v d/\RTs K H r ds:=by
 cases h with
 |cons a b=>exact⟨_,_,rfl,a,b⟩
theorem RTs.length:∀{vs:List V}{ds:List PyData},RTs K H vs ds->vs.length=ds.length
 |_,_,.nil=>rfl
 |_,_,.cons _ hs=>congrArg (·+1) (RTs.length hs)
theorem RTs.at:∀{vs:List V}{ds:List PyData}{i:Nat}{v:V},RTs K H vs ds->vs[i]?=some v->∃d,ds[i]?=some d/\RT K H v d
 |_,_,0,_,.cons a _,h=>by cases h;exact⟨_,rfl,a⟩
 |_,_,i+1,_,.cons _ b,h=>by have:=RTs.at (i:=i) b h;exact this
end
noncomputable def lbV:Lb->V
 | .non=>.non| .int i=>.int i| .bl b=>.bl b| .str x=>.str x
theorem J2c{K:y0}{H:Hp}:∀l:Lb,RT K H (lbV l) l.d
 | .non=>.non| .int i=>.int i| .bl b=>.bl b| .str x=>.str x
theorem Z5W:∀ts:List Tm,(dats ts).length=ts.length
 |[]=>rfl
 |_::ts=>congrArg (·+1) (Z5W ts)
noncomputable def fsT(f:Fm)(l:Lb)(inn sh:t0)(d m:Nat):List (Z0×V):=[("form",.str f.s),("label",lbV l),("inner",.ref inn),("deep",.int d),("many",.int m),("shape",.ref sh)]
mutual
inductive TO(K:y0)(C:t0)(H:Hp):V->Tm->Prop
 |mk{a dx inn sh:t0}{f:Fm}{l:Lb}{ps:List Tm}{vs ws:List V}:H a=some (.ins C dx (fsT f l inn sh (1+maxD ps) (1+sumS ps)))->SqT K H inn vs->TOs K C H vs ps->SqT K H sh ws->RTs K H ws (Z1m f l (dats ps))->TO K C H (.ref a) (.mk f l ps)
inductive TOs(K:y0)(C:t0)(H:Hp):List V->List Tm->Prop
 |nil:TOs K C H [] []
 |cons{v:V}{vs:List V}{t:Tm}{ts:List Tm}:TO K C H v t->TOs K C H vs ts->TOs K C H (v::vs) (t::ts)
end
section
variable{K:y0}{C:t0}{H H':Hp}
mutual
theorem TO.kp(k:Kp H H'):∀{v:V}{t:Tm},TO K C H v t->TO K C H' v t
 |_,_,.mk a b c d e=>.mk (k.i _ _ _ _ _ a) (SqT.kp b k) (TOs.kp k c) (SqT.kp d k) (e.kp k)
theorem TOs.kp(k:Kp H H'):∀{vs:List V}{ts:List Tm},TOs K C H vs ts->TOs K C H' vs ts
 |_,_,.nil=>.nil
 |_,_,.cons h hs=>.cons (TO.kp k h) (TOs.kp k hs)
end
theorem TO.inv{v:V}{t:Tm}(h:TO K C H v t):∃a dx inn sh vs ws,v=.ref a/\H a=some (.ins C dx (fsT t.f t.l inn sh t.depth t.size))/\SqT K H inn vs/\TOs K C H vs t.ps/\SqT K H sh ws/\RTs K H ws (Z1m t.f t.l (dats t.ps)):=by
 cases h with
 |mk a b c d e=>exact⟨_,_,_,_,_,_,rfl,a,b,c,d,e⟩
theorem TOs.length:∀{vs:List V}{ts:List Tm},TOs K C H vs ts->vs.length=ts.length
 |_,_,.nil=>rfl
 |_,_,.cons _ hs=>congrArg (·+1) (TOs.length hs)
theorem TOs.app:∀{xs ys:List V}{ts us:List Tm},TOs K C H xs ts->TOs K C H ys us->TOs K C H (xs++ys) (ts++us)
 |_,_,_,_,.nil,h=>h
 |_,_,_,_,.cons a b,h=>.cons a (TOs.app b h)
theorem TOs.at:∀{vs:List V}{ts:List Tm}{i:Nat}{v:V},TOs K C H vs ts->vs[i]?=some v->∃t,ts[i]?=some t/\TO K C H v t
 |_,_,0,_,.cons a _,h=>by cases h;exact⟨_,rfl,a⟩
 |_,_,i+1,_,.cons _ b,h=>by have:=TOs.at (i:=i) b h;exact this
end
def SX(x:t0)(H H':Hp):Prop:=∀b o,b≠x->H b=some o->H' b=some o
theorem nq{H:Hp}{a b:t0}{x y:Option HO}(h:H a=x)(q:H b=y)(n:x≠y:=by(intro z;cases z)):b≠a:=λ z=>n (by rw[<-h,<-q,z])
theorem SX.of{x:t0}{H H':Hp}(s:Same H H'):SX x H H':=λ b o _ h=>s b o h
theorem SX.trans{x:t0}{H H' H'':Hp}(a:SX x H H')(b:SX x H' H''):SX x H H'':=λ c o n h=>b c o n (a c o n h)
theorem SX.put{x:t0}{H:Hp}(o:HO):SX x H (upd H x o):=λ b u n h=>by rw[Z0k n];exact h
theorem SX.kp{x C dx:t0}{H H':Hp}(s:SX x H H')(hx:H x=some (.ins C dx [])):Kp H H':=
 ⟨λ b xs h=>s b _ (λ z=>by rw[z,hx]at h;cases h) h,λ b o xs h=>s b _ (λ z=>by rw[z,hx]at h;cases h) h,λ b C dx f fs h=>s b _ (λ z=>by rw[z,hx]at h;cases h) h⟩
theorem SX.sqL{K:y0}{x C dx a:t0}{fs:List (Z0×V)}{xs:List V}{H H':Hp}(s:SX x H H')(hx:H x=some (.ins C dx fs))(h:SqL K H a xs):SqL K H' a xs:=by
 rcases h with(h|⟨o,h⟩)|h
 ·exact .inl (.inl (s _ _ (λ z=>by rw[z,hx]at h;cases h) h))
 ·exact .inl (.inr ⟨o,s _ _ (λ z=>by rw[z,hx]at h;cases h) h⟩)
 ·exact .inr h
theorem SX.sqT{K:y0}{x C dx a:t0}{fs:List (Z0×V)}{xs:List V}{H H':Hp}(s:SX x H H')(hx:H x=some (.ins C dx fs))(h:SqT K H a xs):SqT K H' a xs:=by
 rcases h with(h|⟨o,h⟩)|h
 ·exact .inl (.inl (s _ _ (λ z=>by rw[z,hx]at h;cases h) h))
 ·exact .inl (.inr ⟨o,s _ _ (λ z=>by rw[z,hx]at h;cases h) h⟩)
 ·exact .inr h
theorem J0H:∀{ts:List Tm}{t:Tm},t∈ts->t.depth<=maxD ts
 |u::ts,t,h=>by
  show t.depth<=max u.depth (maxD ts);rcases(qb4.mp h)with rfl|h
  ·exact Nat.le_max_left _ _
  ·exact qa1 (J0H h) (Nat.le_max_right _ _)
theorem J1p{n:Nat}:∀{ts:List Tm},(∀t∈ts,t.depth<=n)->maxD ts<=n
 |[],_=>qb2 _
 |t::ts,h=>Nat.max_le.mpr ⟨h t qd8,J1p λ u hu=>h u (qd1 _ hu)⟩
end TM
end
section
namespace L2
open PySem PySem.Spec PyProof.Rows
def Itv(K:y0)(l:t0)(n:Nat):It:=
 ⟨λ i H=>i<n/\∃xs,SqL K H l xs/\xs.length=n,λ i H v H'=>H'=H/\∀xs,SqL K H l xs->xs[n-1-i]?=some v,λ i _=>i=n⟩
theorem apart{n a b:Nat}(h:a≠b):n+a≠n+b:=λ e=>h (Nat.add_left_cancel e)
theorem Z4n(ys:List Int):∀n,n<=ys.length->preSum (λ i=>ys.getD i 0) n=(ys.take n).sum
 |0,_=>by simp[preSum]
 |n+1,h=>by
  rw[preSum,Z4n ys n qR,List.take_succ_eq_append_getElem qR,List.sum_append];simp[qb6,qa7 (show n<ys.length by lia)]
theorem Z7X{X:Cx}(hc:X.calm=true):Z3l X (.builtin "sum") (λ xs H Q=>∃(p:t0)(ys:List Int),xs=[.ref p]/\SqL X.K H p (ys.map V.int)/\Q (.int ys.sum) H):=by
 intro pins s σ H xs us Q I r h;obtain⟨p,ys,rfl,hq,q⟩:=h;obtain⟨u,rfl,ru⟩:=r.one;cases ru;obtain⟨its,rv,pl,hz⟩:=I.list hq;obtain⟨o,ho,_,_,_⟩:=id pl.isList;have hne:p≠s.heap.objs.size:=qa9 (Heap.lt_size ho);have hl:=rv.length;rw[qb0]at hl;refine call_sum_walkG (wpAny_pyIter_list pl.isList ?_);refine⟨s.heap.objs.size,_,_,_,_,_,λ i=>ys.getD i 0,rfl,Walks.list (A:=X.A.in1) (show X.A.in1.handled=none from I.ok.hd hc) _ p hne its.toArray,⟨⟨_,Heap.get?_push_size _ rfl,rfl,rfl⟩,pl.isList.at λ o e=>Heap.get?_push_of_some _ e⟩,λ b hb=>?_,λ i v hv=>?_,λ h' tk t' kk=>?_⟩
 ·have lt:p<s.heap.objs.size:=Heap.lt_size ho;have e:b=s.heap.objs.size\/b=p:=by simpa using hb
  show b<(s.heap.objs.push _).size;rw[Array.size_push];rcases e with e|e
  ·rw[e];exact qd2 _
  ·rw[e];exact qg9 lt
 ·have hv':its[i]?=some v:=by simpa using hv
  have hi:i<ys.length:=by
   have:=(qc6.mp hv').1;lia
  obtain⟨u',e',r'⟩:=rv.get (i:=i) (x:=V.int ys[i]) (by rw[qc4,qa7 hi];rfl);rw[hv']at e';cases e';obtain⟨t,rfl⟩:=(show ∃t,_=Value.int ys[i] t from r');exact⟨t,by simp[qb6,qa7 hi]⟩
 ·have e:preSum (λ i=>ys.getD i 0) its.toArray.size=ys.sum:=by
   rw[qa6,<-hl,Z4n ys _ (qa0 _),qh0]
  refine⟨.int ys.sum,H,I.kept λ b o e=>kk b o (λ z=>?_) (Heap.get?_push_of_some _ e),by rw[e];exact⟨_,rfl⟩,q⟩;have z':b=s.heap.objs.size:=by simpa using z
  exact absurd (Heap.lt_size e) (by rw[z'];exact qb1 _)
section
variable{P:Program}{w:U0}{B:M0}{R:Result->X0->Prop}{it:t0}{fp wr:List t0}{n:Nat}{Y:Nat->q0->Prop}{St:Nat->V0->Prop}
theorem Z3X:(toString "max"++toString ".loop":String)="max.loop":=by decide
theorem J2V(kw:List (Z0×q0))(W:Walks P w B.in1 it fp wr n Y St)(bt:Nat->Nat->Bool)(hc:CmpOf P w B.in1 .Gt Y bt)(Z:t0)(hZ:Z∉fp):∀(k j:Nat)(s:X0)(u:q0)(c:Nat),n-(j+1)=k->j+1<=n->St (j+1) s.heap->Y (argBest bt j) u->s.heap.get? Z=some {cls:=.type "list",dict:=none,data:=.seq #[u,u] c,slots:=#[]}->(∀v h' tk,Y (argBest bt (n-1)) v->(∀b o,b∉wr->b≠Z->s.heap.get? b=some o->h'.get? b=some o)->R (.ok (.ret v)) {s with heap:=h',toks:=tk})->codeAny (model P w) B (.builtin "max.loop" ⟨[.ref it,.none,.ref Z],kw⟩) R s:=by
 have hZw:Z∉wr:=λ z=>hZ (W.sub _ z);intro k;induction k with
 |zero=>
  intro j s u c hk hj st hu gZ q;have ej:j+1=n:=Nat.le_antisymm hj (Nat.sub_eq_zero_iff_le.mp hk);refine codeAny_builtin F.entry_max_loop ?_;rw[Around.under_plainId F.plain_max_loop ⟨[.ref it,.none,.ref Z],kw⟩];show wpAny (model P w) B.in1 (seqItems? (.ref Z)>>=_) _ _ s;refine wpAny_bind (wpAny_seqItems gZ rfl ?_);show wpAny (model P w) B.in1 (tryCatch (pyNext (.ref it)) _>>=_) _ _ s;refine wpAny_bind (wpAny_tryCatch (W.done s _ _ (ej▸st) λ h1 tk k1=>?_));have gZ1:=k1 Z _ hZw gZ;show wpAny (model P w) B.in1 (updateSeq Z (λ _=>#[])>>=_) _ _ _;refine wpAny_bind (wpAny_updateSeq gZ1 rfl (wpAny_bind (wpAny_letGo (wpAny_pure ?_))));exact q u _ tk (by rw[<-ej];exact hu) λ b o hb hbZ e=>(Heap.get?_update_other _ _ (Ne.symm hbZ)).trans (k1 b o hb e)
 |succ k ih=>
  intro j s u c hk hj st hu gZ q;have lt:j+1<n:=by omega
  refine codeAny_builtin F.entry_max_loop ?_;rw[Around.under_plainId F.plain_max_loop ⟨[.ref it,.none,.ref Z],kw⟩];show wpAny (model P w) B.in1 (seqItems? (.ref Z)>>=_) _ _ s;refine wpAny_bind (wpAny_seqItems gZ rfl ?_);show wpAny (model P w) B.in1 (tryCatch (pyNext (.ref it)) _>>=_) _ _ s;refine wpAny_bind (wpAny_tryCatch (W.item (j+1) s _ _ lt st λ v h1 tk hv st1 k1=>?_));have gZ1:=k1 Z _ hZw gZ;show wpAny (model P w) B.in1 (tryCatch (holding [v,v] (richCompare .Gt v u>>=_)) _>>=_) _ _ _;refine wpAny_bind (wpAny_tryCatch (wpAny_holding (wpAny_bind (hc (j+1) (argBest bt j) v u _ _ _ hv hu ?_))));refine wpAny_bind (wpAny_holding (wpAny_truthy_bool (wpAny_bind (wpAny_letGo (wpAny_pure ?_)))));cases hbt:bt (j+1) (argBest bt j)with
  |true=>
   rw[if_pos rfl];refine wpAny_bind (wpAny_updateSeq gZ1 rfl (wpAny_bind (wpAny_letGo ?_)));rw[Z3X];refine wpAny_pure ⟨plainId_quiet F.plain_max_loop ⟨[.ref it,.none,.ref Z],kw⟩,ih (j+1) _ v _ (by omega) lt (W.frame _ _ _ st1 λ b hbf o e=>?_) (by rw[argBest,hbt,if_pos rfl];exact hv) (Heap.get?_update_self _ gZ1 rfl) λ v' h2 tk2 hv' k2=>?_⟩
   ·exact(Heap.get?_update_other _ _ (λ z:Z=b=>hZ (z▸hbf))).trans e
   ·exact q v' h2 tk2 hv' λ b o hbw hbZ e=>k2 b o hbw hbZ ((Heap.get?_update_other _ _ (Ne.symm hbZ)).trans (k1 b o hbw e))
  |false=>
   rw[if_neg qa3];refine wpAny_bind (wpAny_letGo ?_);rw[Z3X];refine wpAny_pure ⟨plainId_quiet F.plain_max_loop ⟨[.ref it,.none,.ref Z],kw⟩,ih (j+1) _ u c (by omega) lt st1 (by rw[argBest,hbt,if_neg qa3];exact hu) gZ1 λ v' h2 tk2 hv' k2=>?_⟩;exact q v' h2 tk2 hv' λ b o hbw hbZ e=>k2 b o hbw hbZ (k1 b o hbw e)
end
theorem J0g(a d:q0):argsOk "max" ⟨[a],[(Str.ofString "default",d)]⟩:=by unfold argsOk;kernel_rfl
section
variable{P:Program}{w:U0}{A:M0}{E:q0->X0->Prop}{s:X0}
def J1E(ys:List Int)(m:Int):Prop:=m∈ys/\∀a∈ys,a<=m
theorem J2j{ys:List Int}(h:0<ys.length):J1E ys (ys.getD (argBest (λ i j=>decide (ys.getD i 0>ys.getD j 0)) (ys.length-1)) 0):=by
 obtain⟨a,b⟩:=argBest_gt (λ i=>ys.getD i 0) (ys.length-1);refine⟨?_,λ x hx=>?_⟩
 ·have lt:argBest (λ i j=>decide (ys.getD i 0>ys.getD j 0)) (ys.length-1)<ys.length:=by omega
  rw[qb6,qa7 lt];exact List.getElem_mem lt
 ·obtain⟨j,hj,e⟩:=qi7 hx;have:=b j (by omega);rw[qb6,qa7 hj]at this;rw[<-e];exact this
theorem Z9L{l it:t0}{its:List q0}{ys:List Int}(hh:A.handled=none)(hl:ys.length=its.length)(hv:∀(i:Nat)(v:q0),its[i]?=some v->∃t,v=Value.int (ys.getD i 0) t)(hne:l≠it):Walks P w A it [it,l] [it] its.toArray.size (λ i v=>its.toArray[i]?=some v) (λ i h=>h.IsListIter it l i/\h.IsList l its.toArray)/\CmpOf P w A .Gt (λ i v=>its.toArray[i]?=some v) (λ i j=>decide (ys.getD i 0>ys.getD j 0)):=
 ⟨Walks.list hh it l hne its.toArray,CmpOf.ints_gt (λ i=>ys.getD i 0) λ i v h=>hv i v (by simpa using h)⟩
theorem J2U{l:t0}{its:List q0}{ys:List Int}{d:q0}{Q:q0->X0->Prop}(hh:A.handled=none)(pl:s.heap.IsList l its.toArray)(hlen:ys.length=its.length)(hv:∀(i:Nat)(v:q0),its[i]?=some v->∃t,v=Value.int (ys.getD i 0) t)(q:∀v h' tk,(ys=[]->v=d)->(ys≠[]->∃m t,v=.int m t/\J1E ys m)->(∀b o,s.heap.get? b=some o->h'.get? b=some o)->Q v {s with heap:=h',toks:=tk}):wpAny (model P w) A (call (.builtin "max") [.ref l] [(Str.ofString "default",d)]) Q E s:=by
 obtain⟨ol,gl,_⟩:=id pl;have ll:l<s.heap.objs.size:=Heap.lt_size gl;refine PyProof.Rows.kmk_tree PySem.F.kind_max PySem.F.plain_max PySem.F.entry_max (J0g _ _) ?_;show wpAny (model P w) A.in1 (Builtin.Builtins.bindParams "max" ["key","default"] 0 ⟨[],[(Str.ofString "default",d)]⟩>>=_) _ _ s;refine wpAny_bind (wpAny_of_eq (show Builtin.Builtins.bindParams "max" ["key","default"] 0 ⟨[],[(Str.ofString "default",d)]⟩=pure [none,some d]from rfl) (wpAny_bind (wpAny_pure ?_)));refine wpAny_bind (wpAny_pyIter_list pl (wpAny_bind (wpAny_newObj_type ?_)));rw[Z3X];have g1:((s.heap.push {cls:=.type "list_iterator",data:=.fields #[.ref l,.int 0 0]}).push {cls:=.type "list",data:=.seq #[]}).IsListIter s.heap.objs.size l 0:=⟨_,Heap.get?_push_of_some _ (Heap.get?_push_size _ rfl),rfl,rfl⟩;have g2:((s.heap.push {cls:=.type "list_iterator",data:=.fields #[.ref l,.int 0 0]}).push {cls:=.type "list",data:=.seq #[]}).IsList l its.toArray:=pl.at λ o e=>Heap.get?_push_of_some _ (Heap.get?_push_of_some _ e);have g3:((s.heap.push {cls:=.type "list_iterator",data:=.fields #[.ref l,.int 0 0]}).push {cls:=.type "list",data:=.seq #[]}).get? (s.heap.objs.size+1)=some {cls:=.type "list",dict:=none,data:=.seq #[] 0,slots:=#[]}:=by
  rw[show s.heap.objs.size+1=(s.heap.push {cls:=.type "list_iterator",data:=.fields #[.ref l,.int 0 0]}).objs.size from(Heap.size_push ..).symm];exact Heap.get?_push_size _ rfl
 have k3:∀b o,s.heap.get? b=some o->((s.heap.push {cls:=.type "list_iterator",data:=.fields #[.ref l,.int 0 0]}).push {cls:=.type "list",data:=.seq #[]}).get? b=some o:=λ b o e=>Heap.get?_push_of_some _ (Heap.get?_push_of_some _ e);rw[show(s.heap.push {cls:=.type "list_iterator",data:=.fields #[.ref l,.int 0 0]}).objs.size=s.heap.objs.size+1 from Heap.size_push ..];generalize(s.heap.push {cls:=.type "list_iterator",data:=.fields #[.ref l,.int 0 0]}).push {cls:=.type "list",data:=.seq #[]}=h3 at*;refine wpAny_pure ⟨plainId_quiet F.plain_max_loop _,?_⟩;obtain⟨W,hc⟩:=Z9L (P:=P) (w:=w) (A:=A.in1) (it:=s.heap.objs.size) (l:=l) (its:=its) (ys:=ys) hh hlen hv (qa9 ll);have hZ:s.heap.objs.size+1∉[s.heap.objs.size,l]:=λ z=>by
  rcases qb4.mp z with z|z
  ·omega
  ·exact absurd ll (by rw[<-qc2.mp z];exact Nat.not_lt.mpr (qf4 _))
 refine codeAny_builtin F.entry_max_loop ?_;rw[Around.under_plainId F.plain_max_loop _];show wpAny (model P w) A.in1 (seqItems? (.ref (s.heap.objs.size+1))>>=_) _ _ _;refine wpAny_bind (wpAny_seqItems g3 rfl ?_);show wpAny (model P w) A.in1 (tryCatch (pyNext (.ref s.heap.objs.size)) _>>=_) _ _ _;by_cases hy:ys=[]
 ·have hn:its.toArray.size=0:=by rw[qa6,<-hlen,hy];rfl
  have st:(λ i (h:V0)=>h.IsListIter s.heap.objs.size l i/\h.IsList l its.toArray) its.toArray.size h3:=by rw[hn];exact⟨g1,g2⟩
  refine wpAny_bind (wpAny_tryCatch (W.done _ _ _ st λ h4 tk k4=>?_));refine wpAny_bind (wpAny_rule (wpAny_pure ?_));exact q d h4 tk (λ _=>rfl) (λ z=>absurd hy z) λ b o e=>k4 b o (λ z=>absurd (Heap.lt_size e) (by rw[qc2.mp z];exact qb1 _)) (k3 b o e)
 ·have hp:0<ys.length:=qi8.mpr hy;have hn:0<its.toArray.size:=by rw[qa6,<-hlen];exact hp
  refine wpAny_bind (wpAny_tryCatch (W.item 0 _ _ _ hn ⟨g1,g2⟩ λ v h4 tk hv4 st4 k4=>?_));have g4:=k4 _ _ (λ z=>hZ (qb4.mpr (.inl (qc2.mp z)))) g3;refine wpAny_bind (wpAny_pure (wpAny_bind (wpAny_updateSeq g4 rfl ?_)));rw[Z3X];refine wpAny_pure ⟨plainId_quiet F.plain_max_loop _,J2V _ W _ hc _ hZ (its.toArray.size-1) 0 _ v _ rfl hn (W.frame _ _ _ st4 λ b hb o e=>?_) hv4 (Heap.get?_update_self _ g4 rfl) λ u h5 tk5 hu k5=>?_⟩
  ·exact(Heap.get?_update_other _ _ (λ z:s.heap.objs.size+1=b=>hZ (z▸hb))).trans e
  ·obtain⟨t,rfl⟩:=hv (argBest (λ i j=>decide (ys.getD i 0>ys.getD j 0)) (its.toArray.size-1)) _ (by rw[<-List.getElem?_toArray];exact hu);refine q _ h5 tk5 (λ z=>absurd z hy) (λ _=>⟨_,t,rfl,?_⟩) λ b o e=>?_
   ·have:=J2j hp;rw[qa6,<-hlen];exact this
   ·have lt:=Heap.lt_size e;have n1:b∉[s.heap.objs.size]:=λ z=>absurd lt (by rw[qc2.mp z];exact qb1 _);exact k5 b o n1 (qa9 (qg9 lt)) ((Heap.get?_update_other _ _ (qd9 (qg9 lt))).trans (k4 b o n1 (k3 b o e)))
end
section
variable{X:Cx}
theorem J1N{its:List q0}{ys:List Int}(rv:Vals (ys.map V.int) its):ys.length=its.length/\∀(i:Nat)(v:q0),its[i]?=some v->∃t,v=Value.int (ys.getD i 0) t:=by
 have hl:=rv.length;rw[qb0]at hl;refine⟨hl,λ i v h=>?_⟩;have hi:i<ys.length:=by rw[hl];exact(qc6.mp h).1
 obtain⟨u,e,r⟩:=rv.get (i:=i) (x:=V.int ys[i]) (by rw[qc4,qa7 hi];rfl);rw[h]at e;cases e;obtain⟨t,rfl⟩:=(show ∃t,_=Value.int ys[i] t from r);exact⟨t,by rw[qb6,qa7 hi];rfl⟩
def J5g(K:y0)(t tk:TA):TE:=λ σ H Q=>t σ H λ vs H1=>tk σ H1 λ zs H2=>∃(p:t0)(ys:List Int)(d:Int),vs=[.ref p]/\zs=[.int d]/\SqL K H2 p (ys.map V.int)/\∀m,(ys=[]->m=d)->(ys≠[]->J1E ys m)->Q (.int m) H2
theorem J6J{K:y0}{t tk:TA}{σ:St}{H:Hp}{Q:VK}:J5g K t tk σ H Q=t σ H λ vs H1=>tk σ H1 λ zs H2=>∃(p:t0)(ys:List Int)(d:Int),vs=[.ref p]/\zs=[.int d]/\SqL K H2 p (ys.map V.int)/\∀m,(ys=[]->m=d)->(ys≠[]->J1E ys m)->Q (.int m) H2:=rfl
theorem J4U{e x1:Expr}{t tk:TA}{p pos kp:Pos}(hc:X.calm=true)(hg:Gl X "max")(hm:X.mg "max"=none)(hb:bootBuiltins "max"=some (.builtin "max"))(ha:PA X [e] t)(hk:PK X [⟨some "default",x1,kp⟩] tk)(he:backTo pos (starEach [e] X.env)=(false,eval e X.env)::backTo pos (starEach [] X.env):=by rfl)(hpl:(backTo pos (starEach [e] X.env)).any (·.1)=false:=by rfl)(hn:("max":Z0)≠"__name__":=by decide)(hdb:(("max":Z0)==("__debug__":Z0))=false:=by decide):PE X (.Call (.Name "max" p) [e] [⟨some "default",x1,kp⟩] pos) (J5g X.K t tk):=by
 intro pins s σ H Q I h;refine wpAny_Call_Name_kw (Z8g I hg hm hb ?_ hn hdb);refine PyProof.Rows.callWith_kw (thn (ha pos pins s σ H _ I h) λ us s1 ⟨vs,H1,I1,r1,q1⟩=>thn (hk pos pins s1 σ H1 _ I1 q1) λ ws s2 hz=>?_) he hpl rfl rfl;obtain⟨zs,H2,I2,r2,l,ys,d,rfl,rfl,hq,q⟩:=hz;obtain⟨u,rfl,ru⟩:=r1.one;cases ru;obtain⟨z,rfl,rz⟩:=r2.one;obtain⟨its,rv,pl,hz⟩:=I2.list hq;obtain⟨hl,hv⟩:=J1N rv;refine J2U (I2.ok.hd hc) pl.isList hl hv λ v h' tk hd hx k=>?_;obtain⟨tz,rfl⟩:=(show ∃t,z=Value.int d t from rz);by_cases hy:ys=[]
 ·cases hd hy;exact⟨.int d,H2,I2.kept k,⟨_,rfl⟩,q d (λ _=>rfl) λ z=>absurd hy z⟩
 ·obtain⟨m,t,rfl,im⟩:=hx hy;exact⟨.int m,H2,I2.kept k,⟨_,rfl⟩,q m (λ z=>absurd z hy) λ _=>im⟩
end
open PySem.SeqAt
open AutoSeq1 (wpAny_loadPart')
section
variable{X:Cx}
def J1M(K:y0):R2:=λ x y H Q=>∃a b xs ys,x=.ref a/\y=.ref b/\SqT K H a xs/\SqT K H b ys/\xs.length+ys.length<=sizeLine/\∀p H',Same H H'->SqT K H' p (xs++ys)->Q (.ref p) H'
theorem J2S{prog:Program}{w:U0}{A:M0}{E:q0->X0->Prop}{s:X0}{t b:t0}{ws:List q0}{Q:q0->X0->Prop}(ht:IsTup s.heap t #[])(hb:IsTup s.heap b ws.toArray)(h:Q (.ref b) s):wpAny (model prog w) A (binaryOp .Add (.ref t) (.ref b)) Q E s:=by
 obtain ⟨⟨cls,dd,data,sl⟩,ho,hc,n,hd⟩:=id ht;obtain ⟨⟨cls2,dd2,data2,sl2⟩,ho2,hc2,n2,hd2⟩:=id hb;simp only at hc hd hc2 hd2;subst hc hd hc2 hd2;exact concat_meets ⟨_,ho,rfl⟩ ⟨_,ho2,rfl⟩ noFill_tuple_add seq_tuple_add qi3 qi4 (qi5 _ _)
  (tuple_addW0 t b #[] ws.toArray n n2 dd dd2 sl sl2 (by simp)) ⟨ho,ho2,h⟩
theorem Z7F:OpR X (binaryOp .Add) (J1M X.K):=by
 intro pins s σ H x y v u Q I rx ry h;obtain⟨a,b,xs,ys,rfl,rfl,hx,hy,hz,q⟩:=h;by_cases he:xs=[]
 ·subst he;obtain rfl:v=Value.ref a:=rx;obtain rfl:u=Value.ref b:=ry;obtain⟨its,r,ht,_⟩:=I.tuple hx;obtain⟨its2,r2,ht2,_⟩:=I.tuple hy;cases r;exact J2S ht ht2 ⟨.ref b,H,I,rfl,q b H (Same.refl H) (by simpa using hy)⟩
 ·refine J3P pins s σ H _ _ v u Q I rx ry ⟨a,b,xs,ys,rfl,rfl,hx,hy,he,hz,λ e=>?_,λ e p hp=>?_⟩
  ·subst e;exact q a H (Same.refl H) (by simpa using hx)
  ·exact q p _ (λ c o hc=>by rw[Z0k (Z0i hc hp)];exact hc) (SqT.of Z0g)
end
open HT
section
variable{prog:Program}{w:U0}{A:M0}{E:q0->X0->Prop}{s:X0}
theorem Z3e{t sl:t0}{items:Array q0}{vl vu:q0}{lo hi:Option Int}{Q:q0->X0->Prop}(ht:IsTup s.heap t items)(hs:s.heap.IsSliceOf sl vl vu .none)(pl:IsPart vl lo)(pu:IsPart vu hi)(hw:sIx items.size 0 lo=0/\sIx items.size items.size hi=items.size)(h:Q (.ref t) s):wpAny (model prog w) A (getItem (.ref t) (.ref sl)) Q E s:=by
 obtain⟨os,hos,hcs,hds⟩:=id hs;have hTs:s.TypeIs (.ref sl) "slice":=⟨os,hos,hcs⟩;unfold getItem;try with_reducible refine wpAny_holding ?_
 first|refine wpAny_bind (wpAny_pure ?_)|skip
 refine wpAny_bind (wpAny_sequenceKey ht.typeIs qQ ?_);refine wpAny_bind (wpAny_callSpecial?_slot (name:=Str.ofString "__getitem__") ht.typeIs PyProof.Rows.slot_tuple_getitem (wpAny_call_entry PyProof.Rows.slot_tuple_getitem ht.typeIs entry_tuple_getitem ?_ (args_tuple_getitem _ _)));show wpAny _ _ (Builtin.Tuple.tupleItemsOf (.ref t)>>=_) _ _ s;refine wpAny_bind (tupleItemsOf_ ht ?_);refine wpAny_bind (wpAny_typeOf hTs ?_);rw[if_pos qQ];refine wpAny_bind (Z2E hs pl pu ?_);have hyes:(((sIx items.size 0 lo:Nat):Int)==0&&(1:Int)==1&&(sIx items.size items.size hi-sIx items.size 0 lo)==items.size)=true:=by
  rw[hw.1,hw.2];simp
 show wpAny _ _ (if (((sIx items.size 0 lo:Nat):Int) == 0&&(1:Int) == 1&&(sIx items.size items.size hi - sIx items.size 0 lo) == items.size)=true then _ else _) _ _ s;rw [if_pos hyes];refine wpAny_bind ?_;show wpAny _ _ ((typeOf (.ref t)) >>= _) _ _ s;refine wpAny_bind (wpAny_typeOf ht.typeIs (wpAny_pure ?_));rw [if_pos qQ];first
  |exact wpAny_bind (wpAny_rule (wpAny_pure ⟨_,rfl,wpAny_pure h⟩))
  |exact wpAny_bind (wpAny_pure (wpAny_pure ⟨_,rfl,wpAny_pure h⟩))
  |exact wpAny_pure ⟨_,rfl,wpAny_pure h⟩
end
section
variable{X:Cx}
def rSlA(K:y0):V->Option Int->Option Int->Hp->VK->Prop:=λ x lo hi H Q=>∃a xs,x=.ref a/\SqT K H a xs/\∀p H',Same H H'->SqT K H' p (cutV xs lo hi)->Q (.ref p) H'
theorem J1b:SlR X (rSlA X.K):=by
 intro pins s σ H x v vl vu lo hi sl Q I rx hs pl pu h;obtain⟨a,xs,rfl,hx,q⟩:=h;by_cases hw:HT.sIx xs.length 0 lo=0/\HT.sIx xs.length xs.length hi=xs.length
 ·obtain rfl:v=Value.ref a:=rx;obtain⟨its,r,ht,hz⟩:=I.tuple hx;have hlen:its.toArray.size=xs.length:=by rw[qa6];exact r.length.symm
  refine⟨"tuple",_,PyProof.Rows.slot_tuple_getitem.lookup,ht.typeIs,?_⟩;refine Z3e ht hs pl pu (by rw[hlen];exact hw) ⟨.ref a,H,I,rfl,q a H (Same.refl H) ?_⟩;have e:cutV xs lo hi=xs:=by
   unfold cutV;rw[hw.1,hw.2,List.drop_zero,Nat.sub_zero,qh0]
  rw[e];exact hx
 ·exact J5H pins s σ H _ v vl vu lo hi sl Q I rx hs pl pu ⟨a,xs,rfl,hx,hw,λ p hp=>q p _ (λ c o hc=>by rw[Z0k (Z0i hc hp)];exact hc) (SqT.of Z0g)⟩
end
def J3A(K:y0):List V->Hp->VK->Prop:=λ xs H Q=>∃p ys,xs=[V.ref p]/\((SqL K H p ys/\∀(l:t0),H l=none->Q (V.ref l) (upd H l (HO.tup ys)))\/(SqT K H p ys/\Q (V.ref p) H))
theorem J5D{K:y0}{xs:List V}{H:Hp}{Q:VK}:J3A K xs H Q=(∃p ys,xs=[V.ref p]/\((SqL K H p ys/\∀(l:t0),H l=none->Q (V.ref l) (upd H l (HO.tup ys)))\/(SqT K H p ys/\Q (V.ref p) H))):=rfl
section
variable{X:Cx}
def rSlS:V->Option Int->Option Int->Hp->VK->Prop:=λ x lo hi H Q=>∃z,x=.str z/\z.length<=sizeLine/\Q (.str (Txt.slice z lo hi)) H
theorem J5s:SlR X rSlS:=by
 intro pins s σ H x v vl vu lo hi sl Q I rx hs pl pu h;obtain⟨z,rfl,hz,q⟩:=h;obtain⟨t,rfl⟩:=rx;have fin:∀t' k,EP X pins σ Q (.str (Txt.slice z lo hi) t') {s with toks:=k}:=λ t' k=>⟨.str _,H,I.tok k,⟨t',rfl⟩,q⟩;refine⟨"str",_,F.slot_str_getitem.lookup,typeIs_str _ _ _,?_⟩;cases pl with
 |none=>
  cases pu with
  |none=>exact wpAny_getItem_str_slice (l:=none) (u:=none) (st:=none) hs rfl (post_val_or_str ⟨qa1 (Txt.slice_le z _ _) hz,fin⟩)
  |int j tj=>exact wpAny_getItem_str_slice (l:=none) (u:=some (j,tj)) (st:=none) hs rfl (post_val_or_str ⟨qa1 (Txt.slice_le z _ _) hz,fin⟩)
 |int i ti=>
  cases pu with
  |none=>exact wpAny_getItem_str_slice (l:=some (i,ti)) (u:=none) (st:=none) hs rfl (post_val_or_str ⟨qa1 (Txt.slice_le z _ _) hz,fin⟩)
  |int j tj=>exact wpAny_getItem_str_slice (l:=some (i,ti)) (u:=some (j,tj)) (st:=none) hs rfl (post_val_or_str ⟨qa1 (Txt.slice_le z _ _) hz,fin⟩)
theorem Z5d:∀{ys:List Z0}{us:List q0},Vals (ys.map V.str) us->StrsAre us ys
 |[],_,.nil=>.nil
 |y::r,_,.cons h t=>by
  obtain⟨tk,rfl⟩:=h;exact .cons y tk (Z5d t)
def J5m(K:y0):V->List V->Hp->VK->Prop:=λ x vs H Q=>∃z p ys,x=.str z/\vs=[.ref p]/\SqL K H p (ys.map V.str)/\(ys.map (·.length)).sum+ys.length*z.length<=16777216/\Q (.str (Txt.join z ys)) H
theorem Z9M:MtR X "str.join" (J5m X.K):=by
 intro pins s σ H x vs v us Q I rx rv h;obtain⟨z,p,ys,rfl,rfl,hq,hl,q⟩:=h;obtain⟨t,rfl⟩:=rx;obtain⟨u,rfl,ru⟩:=rv.one;cases ru;obtain⟨its,r,pl,_⟩:=I.list hq;exact join_list pl.isList (by simpa using Z5d r) hl λ t' k=>⟨.str _,H,I.tok k,⟨t',rfl⟩,q⟩
def J4d:R2:=λ x y H Q=>∃z k,x=.str z/\y=.int k/\-(2^63)<=k/\k<2^63/\z.length*k.toNat<=sizeLine/\Q (.str (Txt.mul z k)) H
theorem Z0o:OpR X (binaryOp .Mult) J4d:=by
 intro pins s σ H x y v u Q I rx ry h;obtain⟨z,k,rfl,rfl,h1,h2,hz,q⟩:=h;obtain⟨t,rfl⟩:=rx;obtain⟨t',rfl⟩:=ry;refine SB.mul ⟨?_,λ hk _=>?_,λ _ _=>?_⟩ λ t' k'=>⟨.str _,H,I.tok k',⟨t',rfl⟩,q⟩
 ·rw[decide_eq_false qR,decide_eq_false qR];rfl
 ·intro hgt;have hk1:1<=k:=by lia
  have e1:(z.length:Int)*k<=(sizeLine:Nat):=by
   have:((z.length*k.toNat:Nat):Int)<=(sizeLine:Nat):=by exact_mod_cast hz
   rw[Int.natCast_mul,Int.toNat_of_nonneg qR]at this;exact this
  have e2:((2^63-1)/k+1)*k<=(z.length:Int)*k:=Int.mul_le_mul_of_nonneg_right qR qR;have e3:(2^63-1:Int)<((2^63-1)/k+1)*k:=by
   have:=Int.lt_mul_of_ediv_lt (a:=2^63-1) (b:=(2^63-1)/k+1) (c:=k) qR qR;exact this
  have e4:((sizeLine:Nat):Int)<2^63-1:=by decide
  lia
 ·unfold Builtin.Str.tooLong;exact decide_eq_false qR
end
theorem J6z{wi:TI}{nl:List (Option Nat)}{g:TG}{tc:TT}{te:TE}{σ:St}{H:Hp}{Q:VK}:J3Y wi nl g tc te σ H Q=(wi σ H λ J H1=>∀D,H1 D=none->Z4H J g tc te D Q (stOf nl σ) (upd H1 D (.lst []))):=rfl
theorem J7f{K:y0}{x:V}{y:V}{H:Hp}{Q:VK}:rEqD K x y H Q=(∃d e,RdD K H x d/\RdD K H y e/\shaped d=true/\shaped e=true/\Q (.bl (PyData.eqv d e)) H):=rfl
section
variable{κ:Type}[DecidableEq κ]
def valV(kvs:List (κ×V))(k:κ):Option V:=(kvs.find? λ kv=>decide (kv.1=k)).map (·.2)
def putK(kvs:List (κ×V))(k:κ)(v:V):List (κ×V):=
 if(kvs.any λ kv=>decide (kv.1=k))=true then kvs.map (λ kv=>if kv.1=k then(kv.1,v)else kv)else kvs++[(k,v)]
theorem J2p{p:κ×V}{r:List (κ×V)}{k:κ}(e:p.1=k):valV (p::r) k=some p.2:=by simp[valV,qh1,e]
theorem Z1x{p:κ×V}{r:List (κ×V)}{k:κ}(e:¬p.1=k):valV (p::r) k=valV r k:=by simp[valV,qh1,e]
theorem RelO.isSome_eq{o:Option V}{u:Option q0}(r:RelO o u):o.isSome=u.isSome:=by
 cases o with
 |none=>cases u with
  |none=>rfl
  |some _=>exact(show False from r).elim
 |some _=>cases u with
  |none=>exact(show False from r).elim
  |some _=>rfl
theorem RelO.getD{o:Option V}{u:Option q0}{d:V}{d':q0}(r:RelO o u)(rd:RelV d d'):RelV (o.getD d) (u.getD d'):=by
 cases o with
 |none=>cases u with
  |none=>exact rd
  |some _=>exact(show False from r).elim
 |some _=>cases u with
  |none=>exact(show False from r).elim
  |some _=>exact r
theorem KV.val{kvs:List (κ×V)}{vs:List (κ×q0)}(r:KV kvs vs)(k:κ):RelO (valV kvs k) (valueAt vs k):=by
 unfold KV at r;induction r with
 |nil=>exact True.intro
 |@cons p q ps qs h t ih=>
  obtain⟨h1,h2⟩:=h;by_cases e:p.1=k
  ·have e':q.1=k:=h1.symm.trans e;have b:valueAt (q::qs) k=some q.2:=by simp[valueAt,qh1,e']
   rw[J2p e,b];exact h2
  ·have e':¬q.1=k:=λ z=>e (h1.trans z);have b:valueAt (q::qs) k=valueAt qs k:=by simp[valueAt,qh1,e']
   rw[Z1x e,b];exact ih
end
theorem J4D{P:Program}{w:U0}{k:Key}{u:q0}(r:RelV (kV k) u):(Z2i P w).is k u=true:=by
 cases k with
 |inl i=>obtain⟨t,e⟩:=(show ∃t,u=Value.int i t from r);subst e;exact Z7t P w i t
 |inr x=>obtain⟨t,e⟩:=(show ∃t,u=Value.str x t from r);subst e;exact Z7s P w x t
def DGet(H:Hp)(a:t0)(y:V)(r:Option V):Prop:=
 (∃kvs k,Rd H a (.dK kvs)/\y=kV k/\r=valV kvs k)\/∃kvs k b,Rd H a (.dT kvs)/\y=.ref b/\H b=some (.tup (k.map kV))/\r=valV kvs k
def DPut(H:Hp)(a:t0)(y v:V)(H':Hp):Prop:=
 (∃kvs k,H a=some (.dK kvs)/\y=kV k/\kvs.length<sizeLine/\H'=upd H a (.dK (putK kvs k v)))\/
 ∃kvs k b,H a=some (.dT kvs)/\y=.ref b/\H b=some (.tup (k.map kV))/\kvs.length<sizeLine/\H'=upd H a (.dT (putK kvs k v))
def NoSl(i:Expr):Prop:=∀ov iv,subscripted i false ov iv=operate [ov,iv] (getItem ov iv)
theorem J3K{prog:Program}{w:U0}{A:M0}{E:q0->X0->Prop}{s:X0}{env:Env}{value slice:Expr}{pos:Pos}{T id:String}{Q:q0->X0->Prop}(hl:typeLookup (.type T) "__getitem__"=pure (some (.builtin id)))(hs:NoSl slice)(h:wpAny (model prog w) A (eval value env) (λ o s₁=>wpAny (model prog w) A (eval slice env) (λ i s₂=>s₂.TypeIs o T/\wpAny (model prog w) A (getItem o i) Q E s₂) E s₁) E s):wpAny (model prog w) A (eval (.Subscript value slice pos) env) Q E s:=by
 refine Subscript_ (wpAny_mono h (λ o s₁ h₁=>wpAny_mono h₁ (λ i s₂ h₂=>?_) λ _ _ x=>x) λ _ _ x=>x);obtain⟨hT,h₂⟩:=h₂;unfold subscriptTail;refine wpAny_bind ?_;rw[getitemInPython_of_ne hT.not_modules];refine wpAny_bind (wpAny_specialOf hT hl ?_);have fin:wpAny (model prog w) A (subscripted slice false o i) (λ r s₃=>wpAny (model prog w) A (letTemporaryGo value o r>>=λ _=>pure r) Q E s₃) E s₂:=by
  rw[hs o i];exact wpAny_operating (wpAny_mono h₂ (λ r s₃ h₃=>wpAny_bind (wpAny_letTemporaryGo (wpAny_pure h₃))) λ _ _ x=>x)
 first
  |exact wpAny_pure (wpAny_bind fin)
  |exact wpAny_bind (wpAny_pure (wpAny_bind fin))
  |exact wpAny_bind fin
def Z8i:List (TE×TE)->St->Hp->(List (V×V)->Hp->Prop)->Prop
 |[],_,H,Q=>Q [] H
 |(tk,tv)::r,σ,H,Q=>tk σ H λ x H1=>tv σ H1 λ y H2=>Z8i r σ H2 λ ps H3=>Q ((x,y)::ps) H3
def J7Y(kvs more:List (Key×V)):List (Key×V):=more.foldl (λ acc kv=>putK acc kv.1 kv.2) kvs
structure M2(X:Cx)(o:Expr)(m:Z0)(apos:Pos)(e f:Expr)(cpos:Pos):Prop where
 base:attributeBase o m X.env (eval o X.env)=eval o X.env
 few:((backTo cpos (starEach [e,f] X.env)).all (λ x=>!x.1)&&(backToKw cpos (keywordEach [] X.env)).all (λ x=>x.1.isSome)&&decide (([e,f]:List Expr).length+([]:List Keyword).length+(if([]:List Keyword).isEmpty then 0 else 1)<30))=true
 line:(apos.endLine==cpos.line)=true
 trees:backTo cpos (starEach [e,f] X.env)=[(false,eval e X.env),(false,eval f X.env)]
end L2
end
section
namespace PW
open PySem P15
inductive Vl|int(i:Int)|bl(b:Bool)|thing(n:Nat)
structure Wd where
 name:Z0
 params:List (Z0×Z0)
 kind:Z0
 body:Tm
structure Hs where
 name:Z0
 elder:Option Z0
 fields:List (Z0×Z0)
 words:List Wd
structure Pg where
 houses:List Hs
 main:Wd
structure Sc where
 house:Option Z0
 own:Option Vl
 bound:List (Z0×Vl)
inductive Wt|walk(t:Tm)(s:Sc)|choose(t:Tm)(s:Sc)|finish(t:Tm)(s:Sc)|leave
structure Ws where
 wait:List Wt
 known:List Vl
 made:List (Z0×List Vl)
 counted:Nat
 within:Nat
 ended:Option (List Z0)
def IxAt{α:Type}(xs:List α)(x:α)(i:Nat):Prop:=xs[i]?=some x/\∀j,j<i->xs[j]?≠some x
def Look(P:Pg)(h:Z0)(H:Hs):Prop:=H∈P.houses/\H.name=h
inductive Z1w(P:Pg):Z0->List Z0->Prop
 |top{h:Z0}{H:Hs}:Look P h H->H.elder=none->Z1w P h []
 |up{h e:Z0}{H:Hs}{es:List Z0}:Look P h H->H.elder=some e->Z1w P e es->Z1w P h (e::es)
inductive Z1G(P:Pg)(w:Z0):List Z0->Z0->Nat->Wd->Prop
 |here{h:Z0}{H:Hs}{es:List Z0}{i:Nat}{d:Wd}:Look P h H->IxAt (H.words.map Wd.name) w i->H.words[i]?=some d->Z1G P w (h::es) h i d
 |there{h h':Z0}{H:Hs}{es:List Z0}{i:Nat}{d:Wd}:Look P h H->w∉H.words.map Wd.name->Z1G P w es h' i d->Z1G P w (h::es) h' i d
inductive Flds(P:Pg):List Z0->List (Z0×Z0)->Prop
 |nil:Flds P [] []
 |cons{h:Z0}{H:Hs}{l:List Z0}{fs:List (Z0×Z0)}:Look P h H->Flds P l fs->Flds P (h::l) (H.fields++fs)
def Z1U(P:Pg)(h f:Z0)(j:Nat):Prop:=∃es fs,Z1w P h es/\es.length<=100/\Flds P (h::es).reverse fs/\fs.length<=100/\IxAt (fs.map Prod.fst) f j
def Bd(n:Int):Prop:=-1000000000000000<=n/\n<=1000000000000000
inductive Two:Z0->Vl->Vl->Option Vl->List Z0->Prop
 |add{a b:Int}:Bd a->Bd b->Bd (a+b)->Two "+" (.int a) (.int b) (some (.int (a+b))) []
 |sub{a b:Int}:Bd a->Bd b->Bd (a-b)->Two "-" (.int a) (.int b) (some (.int (a-b))) []
 |mul{a b:Int}:Bd a->Bd b->Bd (a*b)->Two "*" (.int a) (.int b) (some (.int (a*b))) []
 |great{a b:Int}:Bd a->Bd b->¬Bd (a*b)->Two "*" (.int a) (.int b) none ["refused","great"]
 |nought{a:Int}:Bd a->Two "/" (.int a) (.int 0) none ["refused","nought"]
 |less{a b:Int}:Bd a->Bd b->Two "<" (.int a) (.int b) (some (.bl (decide (a<b)))) []
def leaf:Fm->Prop
 | .number| .truth| .name| .self=>True
 |_=>False
end PW
end
section
namespace WK
open PySem L2 P15 TM PW
inductive A2{α β:Type}(R:α->β->Prop):List α->List β->Prop
 |nil:A2 R [] []
 |cons{a:α}{b:β}{as:List α}{bs:List β}:R a b->A2 R as bs->A2 R (a::as) (b::bs)
section
variable{α β:Type}{R R':α->β->Prop}
theorem A2.len:∀{as:List α}{bs:List β},A2 R as bs->as.length=bs.length
 |_,_,.nil=>rfl
 |_,_,.cons _ h=>congrArg (·+1) h.len
theorem A2.monoM:∀{as:List α}{bs:List β},A2 R as bs->(∀a b,a∈as->R a b->R' a b)->A2 R' as bs
 |_,_,.nil,_=>.nil
 |_,_,.cons a h,f=>.cons (f _ _ qd8 a) (h.monoM λ a b m=>f a b (qd1 _ m))
theorem A2.mono{as:List α}{bs:List β}(h:A2 R as bs)(f:∀a b,R a b->R' a b):A2 R' as bs:=h.monoM λ a b _=>f a b
theorem A2.app:∀{as as':List α}{bs bs':List β},A2 R as bs->A2 R as' bs'->A2 R (as++as') (bs++bs')
 |_,_,_,_,.nil,h=>h
 |_,_,_,_,.cons a h,h'=>.cons a (h.app h')
theorem A2.snoc{as:List α}{bs:List β}{a:α}{b:β}(h:A2 R as bs)(r:R a b):A2 R (as++[a]) (bs++[b]):=h.app (.cons r .nil)
theorem A2.at:∀{as:List α}{bs:List β}{i:Nat}{a:α},A2 R as bs->as[i]?=some a->∃b,bs[i]?=some b/\R a b
 |_,_,0,_,.cons r _,h=>by cases h;exact⟨_,rfl,r⟩
 |_,_,i+1,_,.cons _ t,h=>t.at (i:=i) h
end
structure CS where
 term:t0
 word:t0
 house:t0
 program:t0
 hall:t0
 scope:t0
 waits:t0
 walk:t0
 bs:Hp
structure Kw(C:t0)(H H':Hp):Prop where
 t:∀b xs,H b=some (.tup xs)->H' b=some (.tup xs)
 z:∀b o xs,H b=some (.frz o (.tup xs))->H' b=some (.frz o (.tup xs))
 i:∀b D dx f fs,D≠C->H b=some (.ins D dx (f::fs))->H' b=some (.ins D dx (f::fs))
 d:∀b kvs,H b=some (.dK kvs)->H' b=some (.dK kvs)
section
variable{C:t0}{H H' H'':Hp}{K:y0}
theorem Kw.kt(k:Kw C H H'):Kt H H':=⟨k.t,k.z⟩
mutual
theorem TO.kw{D:t0}(n:D≠C)(k:Kw C H H'):∀{v:V}{t:Tm},TO K D H v t->TO K D H' v t
 |_,_,.mk a b c d e=>.mk (k.i _ _ _ _ _ n a) (SqT.kt b k.kt) (TOs.kw n k c) (SqT.kt d k.kt) (e.kt k.kt)
theorem TOs.kw{D:t0}(n:D≠C)(k:Kw C H H'):∀{vs:List V}{ts:List Tm},TOs K D H vs ts->TOs K D H' vs ts
 |_,_,.nil=>.nil
 |_,_,.cons h hs=>.cons (TO.kw n k h) (TOs.kw n k hs)
end
end
noncomputable def oS:Option Z0->V
 |none=>.non
 |some s=>.str s
noncomputable def Z4O(ps:List (Z0×Z0)):PyData:=.tuple (ps.map λ p=>.tuple [.str p.1,.str p.2])
noncomputable def J5w(d:Wd):PyData:=.tuple [.str d.name,Z4O d.params,.str d.kind,d.body.dat]
noncomputable def oD:Option Z0->PyData
 |none=>.none
 |some s=>.str s
noncomputable def J5S(h:Hs):PyData:=.tuple [.str h.name,oD h.elder,Z4O h.fields,.tuple (h.words.map J5w)]
noncomputable def J8f(P:Pg):PyData:=.tuple [.tuple (P.houses.map J5S),.tuple [Z4O P.main.params,.str P.main.kind,P.main.body.dat]]
inductive WdO(K:y0)(c:CS)(H:Hp):V->Wd->Prop
 |mk{a dx pt:t0}{bv:V}{d:Wd}:H a=some (.ins c.word dx [("name",.str d.name),("params",.ref pt),("kind",.str d.kind),("body",bv)])->RT K H (.ref pt) (Z4O d.params)->TO K c.term H bv d.body->WdO K c H (.ref a) d
inductive HsO(K:y0)(c:CS)(H:Hp):V->Hs->Prop
 |mk{a dx ft wt:t0}{ws:List V}{h:Hs}:H a=some (.ins c.house dx [("name",.str h.name),("elder",oS h.elder),("own_fields",.ref ft),("own_words",.ref wt)])->RT K H (.ref ft) (Z4O h.fields)->SqT K H wt ws->A2 (WdO K c H) ws h.words->HsO K c H (.ref a) h
inductive PgO(K:y0)(c:CS)(H:Hp):V->Pg->Prop
 |mk{a dx ht:t0}{hs:List V}{mv:V}{P:Pg}:H a=some (.ins c.program dx [("all_houses",.ref ht),("main",mv)])->SqT K H ht hs->A2 (HsO K c H) hs P.houses->WdO K c H mv P.main->PgO K c H (.ref a) P
section
variable{K:y0}{H H':Hp}{c:CS}
theorem WdO.same{v:V}{d:Wd}(h:WdO K c H v d)(s:Same H H'):WdO K c H' v d:=by
 cases h with
 |mk a b t=>exact .mk (s _ _ a) (b.same s) (t.kp (Kp.of s))
theorem HsO.same{v:V}{d:Hs}(h:HsO K c H v d)(s:Same H H'):HsO K c H' v d:=by
 cases h with
 |mk a b q t=>exact .mk (s _ _ a) (b.same s) (SqT.kp q (Kp.of s)) (t.mono λ _ _ r=>r.same s)
theorem PgO.same{v:V}{d:Pg}(h:PgO K c H v d)(s:Same H H'):PgO K c H' v d:=by
 cases h with
 |mk a q t m=>exact .mk (s _ _ a) (SqT.kp q (Kp.of s)) (t.mono λ _ _ r=>r.same s) (m.same s)
end
noncomputable def fsW(hl wA ml:t0)(most c w:Nat)(ev:V):List (Z0×V):=[("hall",.ref hl),("most",.int most),("waits",.ref wA),("made",.ref ml),("counted",.int c),("within",.int w),("ended",ev)]
structure Ad where
 dx:t0
 hl:t0
 wA:t0
 dw:t0
 wl:t0
 kl:t0
 ml:t0
 ev:V
 ws:List V
 ks:List V
 mz:List (V×t0)
end WK
end
section
namespace L2
open PySem PySem.Spec PyProof.Rows
def absD(ks:Nat->Key)(ys:Nat->V):Nat->List (Key×V)
 |0=>[]
 |i+1=>putK (absD ks ys i) (ks i) (ys i)
noncomputable def zipD(ks:List Z0)(ys:List V):List (Key×V):=absD (λ i=>.inr (ks.getD i "")) (λ i=>ys.getD i .non) (min ks.length ys.length)
variable{X:Cx}
theorem J6P{σ:St}{H:Hp}{Q:List (V×V)->Hp->Prop}:Z8i [] σ H Q=Q [] H:=rfl
theorem J6I{tk tv:TE}{r:List (TE×TE)}{σ:St}{H:Hp}{Q:List (V×V)->Hp->Prop}:Z8i ((tk,tv)::r) σ H Q=tk σ H λ x H1=>tv σ H1 λ y H2=>Z8i r σ H2 λ ps H3=>Q ((x,y)::ps) H3:=rfl
def BAt(mg:Z0->Option q0)(base:V0):Prop:=∃bm o,mg "__builtins__"=some (.ref bm)/\bm≠builtinsNs/\bm≠mainGlobals/\base.get? bm=some o/\o.cls=.type "module"/\o.dict=some builtinsNs/\o.data=.plain
section
variable{X:Cx}{pins:List (t0×Obj)}{σ:List (Option V)}{H:Hp}{s:X0}
theorem Inv.grown{P:t0}{ps more:Array q0}{h':V0}{tk:Nat}(I:Inv X pins σ H s)(hP:H P=some (.tbl ps))(k:∀b o,b≠P->s.heap.get? b=some o->h'.get? b=some o)(hn:h'.get? P=some {cls:=.none,data:=.fields (ps++more)}):Inv X pins σ (upd H P (.tbl (ps++more))) {s with heap:=h',toks:=tk}:=by
 have np:∀b,H b=none->b≠P:=λ b n z=>by rw[z,hP]at n;cases n
 refine I.step (g':=s.gens) (d':=s.drawn) (ch:=[]) (λ _ z=>nomatch z) (λ b o _ _ _ e n=>k b o (np b n) e) (λ b o _ _ _ e n=>⟨o.slots,k b o (np b n) e⟩) (λ b o _ _ n=>by rw [Z0k (np b n)]; exact n) (λ b o _ e=>?_)
  (λ b xs e=>by rw[Z0k (J1y e hP (λ z=>by cases z))];exact e) (λ b o u e=>by rw[Z0k (J1y e hP (λ z=>by cases z))];exact e) (λ b qs e=>?_) (λ m hm=>?_) (λ b u e=>?_) I.bare
 ·by_cases hb:b=P
  ·exact⟨_,hb▸hn⟩
  ·exact⟨o,k b o hb e⟩
 ·by_cases hb:b=P
  ·subst hb;rw[hP]at e;cases e;exact⟨more,Z0g⟩
  ·exact⟨#[],by rw[Z0k hb,e];simp⟩
 ·obtain⟨o,es,ep,ho,r⟩:=hm;exact⟨o,es,ep,k _ o (np _ I.free) ho,r⟩
 ·by_cases hb:b=P
  ·subst hb;rw[Z0g]at e;cases e;exact hn
  ·rw[Z0k hb]at e;refine(I.hok b u e).stay (λ c v hc q=>k c v ?_ q) (λ c q=>?_) λ c xs q=>?_
   ·rcases hc with z|z
    ·rw[z];exact hb
    ·exact J1y z hP (λ z=>by cases z)
   ·rw[Z0k (J1y q hP (λ z=>by cases z))];exact q
   ·rw[Z0k (J1y q hP (λ z=>by cases z))];exact q
theorem Inv.pin1{p:t0×Obj}(I:Inv X pins σ H s)(h:s.heap.get? p.1=some p.2)(hn:H p.1=none)(hl:X.s₀.heap.objs.size<=p.1)(hL:p.1≠X.env.locals)(hd:∀v,p.2.data≠.cell v):Inv X (p::pins) σ H s:=by
 refine I.pins_of λ q hq=>?_;rcases(qb4.mp hq)with rfl|hq
 ·exact⟨h,hn,hL,λ z=>by
   obtain⟨_,o,ho,_⟩:=I.ok.funs.mem z;exact absurd (qa5 (Heap.lt_size ho) hl) (qb1 _),hd⟩
 ·exact I.pin q (qc9 _ hq)
end
end L2
end
section
namespace L2
open PySem PySem.Spec PySem.Calls PyProof.Rows
def Pm(n:Nat)(p:Array Nat):Prop:=p.toList.Perm (qd5 n)
section
variable{n:Nat}{p:Array Nat}
theorem Pm.lt(h:Pm n p)(h0:0<n)(i:Nat):p.getD i 0<n:=by
 rw[Array.getD_eq_getD_getElem?];cases e:p[i]? with
 |none=>exact h0
 |some x=>
  have hm:x∈p.toList:=by
   rw[Array.mem_toList_iff];exact Array.mem_of_getElem? e
  exact qe9.mp (h.mem_iff.mp hm)
end
def CodeHdK(K:y0)(c P:t0):Prop:=∃od vs sl file tf flags tg inF text tt,K.lookup c=some ⟨.type "code",od,.fields vs,sl⟩/\vs[11]?=some (.ref P)/\vs.getD 11 .none=.ref P/\vs.getD 18 .none=.str file tf/\vs.getD 7 .none=.int flags tg/\vs.getD 9 .none=.bool inF/\vs.getD 10 .none=.int text tt/\c≠P
theorem CodeHdK.hd{K:y0}{c P:t0}{h:V0}(x:CodeHdK K c P)(X:K.In h):W.CodeHd h c P:=by
 obtain⟨od,vs,sl,file,tf,flags,tg,inF,text,tt,e,r⟩:=x;obtain⟨r1,r2,r3,r4,r5,r6,r7⟩:=r;exact⟨_,vs,file,tf,flags,tg,inF,text,tt,X _ _ e,rfl,rfl,r1,r2,r3,r4,r5,r6,r7⟩
def J7o(T0:t0)(H:Hp):Prop:=∀b,H b=none\/(∃o xs,H b=some (.frz o (.lst xs)))\/(b=T0/\H b=some (.tbl #[]))
theorem J1o{P:Program}{c T0:t0}{w:U0}{K:y0}{mg mb:Z0->Option q0}{CX:CXT}{k:Nat}{fa a:t0}{fd:FuncData}{x:Z0}{sp:Sp}{s₁:X0}{vs:List q0}{ns:List Int}(Cd:W.CodeHd s₁.heap c T0)(hT:s₁.heap.get? T0=some (W.tabObj #[]))(hKT:K.lookup T0=none)(hbm:∃bm ob,mg "__builtins__"=some (.ref bm)/\bm≠builtinsNs/\s₁.heap.get? bm=some ob/\ob.cls=.type "module"/\ob.dict=some builtinsNs/\ob.data=.plain)(KX:K.In s₁.heap)(hns:s₁.heap.Ns mainGlobals mg)(hb:s₁.heap.Ns builtinsNs mb)(hbb:∀x:Z0,x≠"__name__"->mb x=bootBuiltins x)(hlim:s₁.heap.NoLimit)(hg:s₁.gens=#[])(ha:s₁.heap.get? a=some {cls:=.type "list",data:=.seq vs.toArray})(hi:IntsAre vs ns)(hl:ns.length<=sizeLine)(hr:Room k callerA)(F:∀base:V0,K.In base->base.Ns mainGlobals mg->BAt mg base->FnOk P w K mg base CX k fa fd [x] sp)(hbind:∀(s:X0)(u:q0),BindsTo s fd ⟨[u],[]⟩ [(x,u)])(hsp:∀H:Hp,H T0=some (.tbl #[])->SqL K H a (ns.map V.int)->sp [.ref a] H (λ v _=>v=.bl true) λ _ _ _=>False)(hCX:∀H e s',CX [] H s₁ (λ _ _ _=>False) e s'->False):codeAny (model P w) callerA (.call (.ref fa) ⟨[.ref a],[]⟩) (λ r s'=>r=.ok (.ret (.bool true))/\OldK s₁.heap s'.heap/\s'.os=s₁.os/\AllBare s'.gens) s₁:=by
 have rv:=Z4g hi;have lenV:=hi.length
 --from an abstract heap in which nothing but the script may be tracked
 have core:∀H:Hp,J7o T0 H->H T0=some (.tbl #[])->SqL K H a (ns.map V.int)->HOk P w H s₁.heap->(∀b,H b≠none->b=a\/b=T0)->(H a≠none->K.lookup a=none)->
   codeAny (model P w) callerA (.call (.ref fa) ⟨[.ref a],[]⟩) (λ r s'=>r=.ok (.ret (.bool true))/\OldK s₁.heap s'.heap/\s'.os=s₁.os/\AllBare s'.gens) s₁:=by
  intro H hO hHT hS hok hA hK;have base_of:∀{b:t0}{o:Obj},s₁.heap.get? b=some o->H b=none->(hidT s₁.heap H).get? b=some o:=λ e n=>Z8E e n;have noA:∀{b:t0}{o:Obj}{es:Array DictEntry}{ep:Nat},s₁.heap.get? b=some o->o.data=.dict es ep->H b=none:=λ{b o es ep} e d=>by
   cases q:H b with
   |none=>rfl
   |some u=>
    rcases hA b (by rw[q];simp)with e'|e'
    ·subst e';rw[ha]at e;cases e;have d':Data.seq vs.toArray _=Data.dict es ep:=d;cases d'
    ·subst e';rw[hT]at e;cases e;have d':Data.fields #[]=Data.dict es ep:=d;cases d'
  have nsK:∀{b:t0}{m:Z0->Option q0},s₁.heap.Ns b m->(hidT s₁.heap H).Ns b m:=λ{b m} ⟨o,es,ep,e,d,r⟩=>⟨o,es,ep,base_of e (noA e d),d,r⟩;have hKb:K.In (hidT s₁.heap H):=λ b o e=>base_of (KX b o e) (by
   cases q:H b with
   |none=>rfl
   |some u=>
    rcases hA b (by rw[q];simp)with e'|e'
    ·subst e';rw[hK (by rw[q];simp)]at e;cases e
    ·subst e';rw[hKT]at e;cases e)
  have hM:Mod K mg (hidT s₁.heap H):=⟨hKb,nsK hns,⟨mb,nsK hb,hbb⟩,let⟨mc,h1,h2⟩:=hlim;⟨mc,nsK h1,h2⟩⟩;have e0:Env0 P w K mg (hidT s₁.heap H) callerA [] s₁ H:=⟨rfl,hM,λ b o e=>J1v e,qf3 (Z6B _ _),trivial,λ b hb=>absurd (show b∈([]:List t0)from hb) (by simp),hok,.of_eq hg⟩;have hB:BAt mg (hidT s₁.heap H):=by
   obtain⟨bm,ob,b1,b2,b3,b4,b5,b6⟩:=hbm;have nb:H bm=none:=by
    cases q:H bm with
    |none=>rfl
    |some u=>
     rcases hA bm (by rw[q];simp)with e'|e'
     ·subst e';rw[ha]at b3;cases b3;injection b4 with z
      exact absurd z qQ
     ·subst e';rw[hT]at b3;cases b3;cases b4
   refine⟨bm,ob,b1,b2,λ z=>?_,base_of b3 nb,b4,b5,b6⟩;obtain⟨og,es,ep,eg,dg,_⟩:=hns;rw[<-z,b3]at eg;cases eg;rw[b6]at dg;cases dg
  refine codeAny_mono ((F _ hKb (nsK hns) hB).run callerA [] s₁ H ⟨[.ref a],[]⟩ [.ref a] [.ref a] _ _ hr e0 (hbind s₁ (.ref a)) (.cons rfl .nil) (hsp H hHT hS)) λ r s' h=>?_;cases r with
  |error e=>exact(hCX H e s' h).elim
  |ok fl=>
   cases fl with
   |next=>exact False.elim h
   |brk=>exact False.elim h
   |cont=>exact False.elim h
   |ret u=>
    obtain⟨v,H',os,bare,un,hok',r',q⟩:=h;have q':v=.bl true:=q;subst q';obtain rfl:u=Value.bool true:=r';have old:∀b o,s₁.heap.get? b=some o->asItWas s₁.heap s'.heap b o/\∃o',s'.heap.get? b=some o':=λ b o e=>by
     cases q:H b with
     |none=>
      have z:=un.keep b o e q (by intro z;exact absurd (show b∈([]:List t0)from z) (by simp)) (by simp);exact⟨.inl z,o,z⟩
     |some u=>
      rcases hO b with z|⟨ob,xs,z⟩|⟨rfl,z⟩
      ·rw[q]at z;cases z
      ·have z2:=un.frzs b ob _ z;obtain⟨e1,_⟩:=hok b _ z;obtain⟨e2,_⟩:=hok' b _ z2;rw[e]at e1;cases e1;exact⟨.inl e2,_,e2⟩
      ·obtain⟨more,z2⟩:=un.tbls b _ z;have e2:s'.heap.get? b=some {cls:=.none,data:=.fields (#[]++more)}:=hok' b _ z2;rw[hT]at e;cases e;exact⟨.inr (.inl ⟨(Cd.tab hT).isCodeTable,rfl,#[],more,rfl,e2⟩),_,e2⟩
    exact⟨rfl,⟨λ b o e=>(old b o e).1,λ b o e=>(old b o e).2⟩,os,bare⟩
 cases hk:K.lookup a with
 |some o=>
  --the script is one of the module's own objects
  have e:=KX a o hk;rw[ha]at e;cases e;refine core (λ b=>if b=T0 then some (.tbl #[])else none) (λ b=>?_) (if_pos rfl) (.inr ⟨_,vs.toArray,_,hk,rfl,rfl,rfl,by rw[qa6,lenV];exact hl,by simpa using rv⟩) (λ b u z=>?_) (λ b z=>?_) (λ z=>?_)
  ·by_cases hb:b=T0
   ·exact .inr (.inr ⟨hb,if_pos hb⟩)
   ·exact .inl (if_neg hb)
  ·by_cases hb:b=T0
   ·have z':=(if_pos hb).symm.trans z;cases z';subst hb;exact hT
   ·have z':=(if_neg hb).symm.trans z;cases z'
  ·by_cases hb:b=T0
   ·exact .inr hb
   ·exact absurd (if_neg hb) z
  ·have:a≠T0:=λ y=>by rw[y,hT]at ha;cases ha
   exact absurd (if_neg this) z
 |none=>
  have naT:a≠T0:=λ y=>by rw[y,hT]at ha;cases ha
  refine core (λ b=>if b=a then some (.frz {cls:=.type "list",data:=.seq vs.toArray} (.lst (ns.map V.int)))else if b=T0 then some (.tbl #[])else none) (λ b=>?_) ?_ (.inl (.inr ⟨{cls:=.type "list",data:=.seq vs.toArray},if_pos rfl⟩)) (λ b u z=>?_) (λ b z=>?_) λ _=>hk
  ·by_cases hb:b=a
   ·exact .inr (.inl ⟨_,_,if_pos hb⟩)
   ·by_cases hb2:b=T0
    ·exact .inr (.inr ⟨hb2,(if_neg hb).trans (if_pos hb2)⟩)
    ·exact .inl ((if_neg hb).trans (if_neg hb2))
  ·exact(if_neg (Ne.symm naT)).trans (if_pos rfl)
  ·by_cases hb:b=a
   ·have z':=(if_pos hb).symm.trans z;cases z';subst hb;exact⟨ha,by rw[qb0];exact hl,vs,_,rv,ha⟩
   ·by_cases hb2:b=T0
    ·have z':=((if_neg hb).trans (if_pos hb2)).symm.trans z;cases z';subst hb2;exact hT
    ·have z':=((if_neg hb).trans (if_neg hb2)).symm.trans z;cases z'
  ·by_cases hb:b=a
   ·exact .inl hb
   ·by_cases hb2:b=T0
    ·exact .inr hb2
    ·exact absurd ((if_neg hb).trans (if_neg hb2)) z
theorem J1O{c T0:t0}{l:W.OpenLaw}{n k:Nat}{q:Program}{loose:List Z0}{XP:(Z0->Option q0)->V0->Prop}{YP:U0->V0->Prop}{d:DefRec}{K:Params->y0}{CX:U0->CXT}{sp:U0->Sp}{x:Z0}(hn:l.most=some n)(hn2:n<=sizeLine)(hdf:d.params.defaults=[])(hr:Room k callerA)(hY:∀(w:U0)(h:V0),YP w h->(K w.params).In h/\h.get? T0=some (W.tabObj #[]))(hKT:∀w:U0,(K w.params).lookup T0=none)(hCd:∀w:U0,CodeHdK (K w.params) c T0)(F:∀(w:U0)(mg:Z0->Option q0)(fa:t0)(h:V0),(K w.params).In h->h.Ns mainGlobals mg->mg d.name=some (.ref fa)->∃fd:FuncData,(∀(s:X0)(u:q0),BindsTo s fd ⟨[u],[]⟩ [(x,u)])/\∀base:V0,(K w.params).In base->base.Ns mainGlobals mg->BAt mg base->FnOk l.prog w (K w.params) mg base (CX w) k fa fd [x] (sp w))(hsp:∀(w:U0)(H:Hp)(a:t0)(ns:List Int),ns.length<=n->H T0=some (.tbl #[])->SqL (K w.params) H a (ns.map V.int)->sp w [.ref a] H (λ v _=>v=.bl true) λ _ _ _=>False)(hCX:∀(w:U0)(H:Hp)(s:X0)(e:q0)(s':X0),CX w [] H s (λ _ _ _=>False) e s'->False):W.WalkO q loose XP YP l.row.toRowW d [] (λ f vs=>PySem.call f vs):=by
 refine Att.attach_call hn hdf λ w s₀ s₁ mg mb fa o pm cd doc a vs ns G Y ho hd hcd hmg hobj hints hlen hg=>?_;obtain⟨KX,hT⟩:=hY w _ Y;obtain⟨fd,hb,hF⟩:=F w mg fa _ KX G.T.g hmg;exact J1o ((hCd w).hd KX) hT (hKT w) G.T.bmain KX G.T.g G.T.b G.T.builtins G.T.nolimit hg hobj hints (qa1 hlen hn2) hr hF hb (λ H hO hS=>hsp w H a ns hlen hO hS) λ H e s'=>hCX w H s₁ e s'
noncomputable def J7U(ks:List Z0)(ys:List V):List (Key×V):=absD (λ i=>.inr (ks.getD i "")) (λ i=>ys.getD i .non) ks.length
def Itd(d:t0)(o:Obj)(kvs:List (Key×V)):It:=
 ⟨λ i H=>H d=some (.frz o (.dK kvs))/\i<kvs.length,λ i H x H'=>H'=H/\∃k v,kvs[i]?=some (k,v)/\x=kV k,λ i H=>H d=some (.frz o (.dK kvs))/\kvs.length<=i⟩
def UTup(K:y0)(a:t0)(xs:List V):Prop:=∀H:Hp,SqT K H a xs
theorem J4s{K:y0}{a:t0}{o:Obj}{its:Array q0}{n:Nat}{xs:List V}(hk:K.lookup a=some o)(hc:o.cls=.type "tuple"/\o.dict=none)(hs:o.data=.seq its n)(hz:its.size<=sizeLine)(r:Vals xs its.toList):UTup K a xs:=λ _=>.inr ⟨o,its,n,hk,hc,hs,hz,r⟩
def J8g:V->Bool
 | .non| .bl _| .int _| .str _=>true
 |_=>false
structure Z8Y(P:Program)(w:U0)(K:y0)(a:t0)(kvs:List (Key×V)):Prop where
 of:∀h:V0,K.In h->∃vs,KV kvs vs/\h.DictOf (Z2i P w) a vs
 ns:(a==sysModules)=false
section
variable{X:Cx}{o i:Expr}{ty:TE}{pos:Pos}{a:t0}{kvs:List (Key×V)}
def tMIn(kvs:List (Key×V))(ty:TE):TE:=λ σ H Q=>ty σ H λ y H1=>∃k,y=kV k/\Q (.bl (valV kvs k).isSome) H1
def J3Q(kvs:List (Key×V))(ty:TE):TE:=λ σ H Q=>ty σ H λ y H1=>∃k v,y=kV k/\valV kvs k=some v/\Q v H1
theorem J7q{kvs:List (Key×V)}{ty:TE}{σ:St}{H:Hp}{Q:VK}:tMIn kvs ty σ H Q=(ty σ H λ y H1=>∃k,y=kV k/\Q (.bl (valV kvs k).isSome) H1):=rfl
theorem J6B{kvs:List (Key×V)}{ty:TE}{σ:St}{H:Hp}{Q:VK}:J3Q kvs ty σ H Q=(ty σ H λ y H1=>∃k v,y=kV k/\valV kvs k=some v/\Q v H1):=rfl
theorem J5M(M:Z8Y X.prog X.w X.K a kvs)(hi:PE X i ty)(ho:PE X o (tC (.ref a))):PC X .In i o (tMIn kvs ty):=by
 intro pins s σ H Q I h;refine thn (hi pins s σ H _ I h) λ iv s1 ⟨y,H1,I1,ry,k,ey,q1⟩=>thn (ho pins s1 σ H1 (λ v H'=>v=.ref a/\Q (.bl (valV kvs k).isSome) H') I1 ⟨rfl,q1⟩) λ u s2 ⟨x,H2,I2,rx,ex,q2⟩=>?_;subst ex ey;obtain rfl:u=Value.ref a:=rx;obtain⟨vs,rel,dd⟩:=M.of _ I2.kIn;refine wpAny_in_of (J4D ry) M.ns dd.mapOf ?_;rw[<-(rel.val k).isSome_eq];exact⟨.bl _,H2,I2.tok _,rfl,q2⟩
theorem J0y(M:Z8Y X.prog X.w X.K a kvs)(ho:PE X o (tC (.ref a)))(hi:PE X i ty)(hs:NoSl i):PE X (.Subscript o i pos) (J3Q kvs ty):=by
 intro pins s σ H Q I h;refine J3K PySem.F.slot_dict_getitem.lookup hs (thn (ho pins s σ H (λ v H'=>v=.ref a/\J3Q kvs ty σ H' Q) I ⟨rfl,h⟩) λ u s1 ⟨x,H1,I1,rx,ex,q1⟩=>thn (hi pins s1 σ H1 _ I1 q1) λ iv s2 hz_=>?_);obtain⟨y,H2,I2,ry,k,v,ey,l,q2⟩:=hz_;subst ex ey;obtain rfl:u=Value.ref a:=rx;obtain⟨vs,rel,dd⟩:=M.of _ I2.kIn;obtain⟨w',hw,rw'⟩:=RelO.some_of (v:=v) (o:=valueAt vs k) (by rw[<-l];exact rel.val k);exact⟨dd.typeIs,wpAny_getItem_of (J4D ry) dd.mapOf hw ⟨v,H2,I2.tok _,rw',q2⟩⟩
end
inductive Ent(w:U0):List DictEntry->List (Key×V)->Prop
 |nil:Ent w [] []
 |cons{e:DictEntry}{k:Key}{v:V}{es:List DictEntry}{kvs:List (Key×V)}:Z7g k e.key=true->e.hash=keyH w k->RelV v e.val->Ent w es kvs->Ent w (e::es) ((k,v)::kvs)
theorem Ent.of{P:Program}{w:U0}:∀{es:List DictEntry}{kvs:List (Key×V)},Ent w es kvs->∃vs,KV kvs vs/\Pairs (Z2i P w) es vs/\vs.map (·.1)=kvs.map (·.1)/\∀e∈es,∃k,(Z2i P w).is k e.key=true/\e.hash=(Z2i P w).hash k
 |_,_,.nil=>⟨[],.nil,.nil,rfl,λ _ h=>by cases h⟩
 |_,_,.cons (e:=e) (k:=k) (v:=v) h1 h2 h3 t=>by
  obtain⟨vs,a,b,c,d⟩:=Ent.of (P:=P) t;refine⟨(k,e.val)::vs,.cons ⟨rfl,h3⟩ a,.cons h1 rfl b,by rw[qc0,qc0,c],λ e' he'=>?_⟩;rcases qb4.mp he' with z|z
  ·subst z;exact⟨k,h1,h2⟩
  ·exact d e' z
theorem Z8p{P:Program}{w:U0}{K:y0}{a:t0}{o:Obj}{es:Array DictEntry}{ep:Nat}{kvs:List (Key×V)}(l:K.lookup a=some o)(e:o.ExactDict)(d:o.data=.dict es ep)(p:Ent w es.toList kvs)(nd:(kvs.map (·.1)).Nodup)(ns:(a==sysModules)=false):Z8Y P w K a kvs:=by
 obtain⟨vs,h1,h2,h3,h4⟩:=Ent.of (P:=P) p;exact⟨λ h hk=>⟨vs,h1,o,es,ep,hk a o l,e,d,λ x hx=>h4 x (by simpa using hx),h2,by rw[h3];exact nd⟩,ns⟩
theorem Z9a{J:It}{g:TG}{te:TE}{Q:VK}{H:Hp}{D:t0}{ys:List V}{σ0:St}(Sv:St->Prop)(R:Nat->V->Hp->Prop)(mono:∀j v H1 H2,R j v H1->Z6S H1 H2->R j v H2)(e0:Sv σ0)(hD:H D=none)(hz:ys.length<=sizeLine)(j1:∀i H1,Same H H1->i<ys.length->J.go i H1)(j2:∀i H1 x H2,Same H H1->J.yld i H1 x H2->H2=H1/\ys[i]?=some x)(j3:∀H1,Same H H1->J.stop ys.length H1)(he:∀i y σ,ys[i]?=some y->Sv σ->∀H1 (K':St->VK),Same H H1->(∀σ3 v H2,Sv σ3->Same H1 H2->R i v H2->K' σ3 v H2)->g y σ H1 λ σ3 H3=>te σ3 H3 (K' σ3))(hQ:∀vs H',Same H H'->H' D=some (.lst vs)->vs.length=ys.length->(∀j v,vs[j]?=some v->R j v H')->Q (.ref D) H'):Z4H J g Z4J te D Q σ0 (upd H D (.lst [])):=by
 refine⟨λ i m σ' H'=>m=ys.length-i/\i<=ys.length/\Sv σ'/\Same H H'/\∃vs,H' D=some (.lst vs)/\vs.length=i/\∀j v,vs[j]?=some v->R j v H',⟨ys.length,by simp,qb2 _,e0,Z0K hD _,[],Z0g,rfl,λ j v h=>by simp at h⟩,?_⟩;rintro i m σ' H' ⟨rfl,hi,hS,s1,vs,hv,hl,hr⟩;by_cases hlt:i<ys.length
 ·refine .inr ⟨j1 i H' s1 hlt,λ σ2 H2=>Sv σ2/\Same H H2/\∃vs,H2 D=some (.lst vs)/\vs.length=i+1/\∀j v,vs[j]?=some v->R j v H2,λ σ2 H2 ⟨a,b,c⟩=>⟨ys.length-(i+1),qR,rfl,hlt,a,b,c⟩,λ x H2 hx=>?_⟩;obtain⟨e1,e2⟩:=j2 i H' x H2 s1 hx;subst e1;unfold Z4J;simp only[if_true];refine he i x σ' e2 hS H2 _ s1 λ σ3 v H3 hS3 s3 hR=>?_;have h3:=s3 _ _ hv;have sn:Z6S H3 (upd H3 D (.lst (vs++[v]))):=λ b o ho hb=>by
   rw[Z0k (λ z=>by rw[z,h3]at hb;cases hb;exact ho _ rfl)];exact hb
  refine⟨vs,h3,qR,hS3,λ b o hb=>?_,_,Z0g,by rw[qa2,hl];rfl,λ j u hj=>?_⟩
  ·rw[Z0k (Z0i hb hD)];exact s3 _ _ (s1 _ _ hb)
  ·by_cases hj':j<vs.length
   ·rw[qi1 hj']at hj;exact mono j u _ _ (mono j u _ _ (hr j u hj) λ b o _ hb=>s3 b o hb) sn
   ·rw[qi0 qR]at hj;have ej:j-vs.length=0:=by
     have:=(qc6.mp hj).1;simp at this;lia
    rw[ej]at hj;cases hj;have:j=i:=by lia
    subst this;exact mono _ _ _ _ hR sn
 ·have e:i=ys.length:=by lia
  subst e;exact .inl ⟨j3 _ s1,hQ vs H' s1 hv hl hr⟩
theorem Z7B{K:y0}{a:t0}{g:TG}{te:TE}{Q:VK}{H:Hp}{D:t0}{ys:List V}{σ0:St}(Sv:St->Prop)(R:Nat->V->Hp->Prop)(mono:∀j v H1 H2,R j v H1->Z6S H1 H2->R j v H2)(e0:Sv σ0)(hD:H D=none)(hz:ys.length<=sizeLine)(ha:∀H1,Same H H1->SqT K H1 a ys)(he:∀i y σ,ys[i]?=some y->Sv σ->∀H1 (K':St->VK),Same H H1->(∀σ3 v H2,Sv σ3->Same H1 H2->R i v H2->K' σ3 v H2)->g y σ H1 λ σ3 H3=>te σ3 H3 (K' σ3))(hQ:∀vs H',Same H H'->H' D=some (.lst vs)->vs.length=ys.length->(∀j v,vs[j]?=some v->R j v H')->Q (.ref D) H'):Z4H (Itt K a) g Z4J te D Q σ0 (upd H D (.lst [])):=
 Z9a Sv R mono e0 hD hz (λ i H1 s h=>⟨ys,ys[i],ha H1 s,qa7 h⟩) (λ i H1 x H2 s h=>⟨h.1,h.2 ys (ha H1 s)⟩) (λ H1 s=>⟨ys,ha H1 s,qa0 _⟩) he hQ
def Itz(K:y0)(l m:t0):It:=
 ⟨λ i H=>∃xs ys x y,SqL K H l xs/\SqL K H m ys/\xs[i]?=some x/\ys[i]?=some y,λ i H v H'=>∃t x y,v=.ref t/\H t=none/\H'=upd H t (.tup [x,y])/\(∀xs,SqL K H l xs->xs[i]?=some x)/\∀ys,SqL K H m ys->ys[i]?=some y,λ i H=>∃xs ys,SqL K H l xs/\SqL K H m ys/\(xs.length<=i\/ys.length<=i)⟩
inductive J7I(K:y0)(a:t0)(n:Nat)(H:Hp)(R:List V->Prop):Prop
 |mk(xs:List V)(h:SqL K H a xs)(l:xs.length=n)(q:R xs):J7I K a n H R
end L2
end
section
namespace PySem.XO
open PySem
section
variable{prog:Program}{w:U0}{A:M0}{E:q0->X0->Prop}{h:V0}{g:Array GenState}{d:Drawn}{t:Nat}{os:OsState}
variable{nm q:Z0}{C N:t0}{bs bm bmB:List q0}{hdct:Bool}{sn:List Z0}{sub:List q0}{ab:Bool}{col:Option Bool}{dd:Option t0}{k0 k1 k2 k3 k5:Option q0}{B Bn newId nid initId inN:String}{bmN:List q0}
def born(h:V0)(C:t0)(rest:List q0):V0:=
 (h.push {cls:=.type "tuple",data:=.seq rest.toArray}).push {cls:=.ref C,data:=.fields #[.ref h.objs.size,.none,.none,.none,.bool false,.none]}
theorem Z2V{rest:List q0}{b:t0}{o:Obj}(e:h.get? b=some o):(born h C rest).get? b=some o:=Heap.get?_push_of_some _ (Heap.get?_push_of_some _ e)
theorem Z6P{rest:List q0}:(born h C rest).get? (h.objs.size+1)=some {cls:=.ref C,data:=.fields #[.ref h.objs.size,.none,.none,.none,.bool false,.none]}:=by
 unfold born
 heap_get
theorem Z5M(Fn:ExcBaseFacts Bn newId inN bmN)(hBn:bmB.contains (.type Bn)=true)(F:ExcBaseFacts B nid initId bmB)(T:OwnTail h bmB bm){mN:Z0->Option q0}{rest:List q0}{f:t0}{ofn:Obj}{Q:Fin->X0->Prop}(hC:h.get? C=some (excClassObj nm q C N bs bm hdct sn sub ab col dd k0 k1 k2 k3 k5 newId))(hn:h.Ns N mN)(hi:mN "__init__"=some (.ref f))(hf:h.get? f=some ofn)(hfc:ofn.cls=.type "function")(hq:codeAny (model prog w) A (.call (.ref f) ⟨.ref (h.objs.size+1)::rest,[]⟩) (λ r s'=>match r with| .ok (.ret v)=>v=.none/\Q (.done (.ret (.ref (h.objs.size+1)))) s'| .ok _=>False| .error x=>E x s') ⟨born h C rest,g,d,t,os⟩)(hrest:rest.length<=sizeLine):wpAny (model prog w) A (Builtin.«type.__call__» ⟨.ref C::rest,[]⟩) Q E ⟨h,g,d,t,os⟩:=by
 repeat (first|with_reducible refine wpAny_madeBy_exc hC ?_|with_reducible refine wpAny_loadPart_at hC ?_|wp_step)
 refine codeAny_call_builtin_code (Code.quiet_builtin _ Fn.quiet) (wpAny_check_new_subU Fn hBn T hC (codeAny_exc_new_subU Fn hBn F T hC ?_ hrest));have hC1:=Z2V (C:=C) (rest:=rest) hC;have hn1:(born h C rest).Ns N mN:=hn.keeps λ b o e=>Z2V e;have self:=Z6P (h:=h) (C:=C) (rest:=rest);have hsub:(Value.ref C::bm).contains (.ref C)=true:=by simp
 have T1:OwnTail (born h C rest) bmB bm:=T.keeps λ b o e=>Z2V e;change wpAny _ _ _ _ _ ⟨born h C rest,g,d,t,os⟩;unfold isInstance;repeat (first|with_reducible refine wpAny_loadPart_at self ?_|(with_reducible refine wpAny_isSubtype_exc hC1 ?_;rw[hsub])|wp_step)
 show wpAny _ _ (typeLookup (.ref C) _) _ _ _;refine wpAny_typeLookup_tail hC1 hn1 T1 F.mroIs F.init.lookup ?_;rw[hi];refine wpAny_holding (wpAny_bind (wpAny_bindSpecial_def (Z2V hf) hfc ?_));refine wpAny_bind (wpAny_call (codeAny_mono hq λ r s' hr=>?_));cases r with
 |error x=>exact hr
 |ok fl=>
  cases fl with
  |ret v=>
   obtain⟨rfl,hr⟩:=hr
   wp_walk
   exact hr
  |next=>exact hr.elim
  |brk=>exact hr.elim
  |cont=>exact hr.elim
theorem J2B(Fn:ExcBaseFacts Bn newId inN bmN)(hBn:bmB.contains (.type Bn)=true)(F:ExcBaseFacts B nid initId bmB)(T:OwnTail h bmB bm){mN:Z0->Option q0}{rest:List q0}{f:t0}{ofn:Obj}{Q:q0->X0->Prop}(hC:h.get? C=some (excClassObj nm q C N bs bm hdct sn sub ab col dd k0 k1 k2 k3 k5 newId))(hn:h.Ns N mN)(hi:mN "__init__"=some (.ref f))(hf:h.get? f=some ofn)(hfc:ofn.cls=.type "function")(hq:codeAny (model prog w) (A.under (.builtin "type.__call__" ⟨.ref C::rest,[]⟩)) (.call (.ref f) ⟨.ref (h.objs.size+1)::rest,[]⟩) (λ r s'=>match r with| .ok (.ret v)=>v=.none/\Q (.ref (h.objs.size+1)) s'| .ok _=>False| .error x=>E x s') ⟨born h C rest,g,d,t,os⟩)(hrest:rest.length<=sizeLine):wpAny (model prog w) A (call (.ref C) rest) Q E ⟨h,g,d,t,os⟩:=by
 have look:=tc_lookup;have bnd:=tc_bind (.ref C);have isT:(⟨h,g,d,t,os⟩:X0).TypeIs (.ref C) "type":=⟨_,hC,rfl⟩;refine wpAny_call (codeAny_of_tree ?_);change wpAny _ _ (callAny (.ref C) _) _ _ _;repeat (any_goals (first|with_reducible refine wpAny_loadPart_at hC ?_|assumption|wp_step))
 refine⟨rfl,codeAny_call_builtin_at (Code.quiet_builtin _ qP) entry_typeCall (wpAny_check_type_call_sub hC ?_)⟩;exact Z5M Fn hBn F T hC hn hi hf hfc hq hrest
end
section
variable{M:Model}{A:M0}{E:q0->X0->Prop}{env:Env}{s:X0}
variable{nm q:Z0}{C N:t0}{bs bm:List q0}{hdct:Bool}{sn:List Z0}{sub:List q0}{ab:Bool}{col:Option Bool}{dd:Option t0}{k0 k1 k2 k3 k5:Option q0}{newId:String}
theorem Z7f{x:Sem q0}{Q:Flow->X0->Prop}(hbase:bm.contains (.type "BaseException")=true)(hh:A.handled=none)(h:wpAny M A x (λ v s1=>∃e ed vs sl,v=.ref e/\s1.heap.get? C=some (excClassObj nm q C N bs bm hdct sn sub ab col dd k0 k1 k2 k3 k5 newId)/\s1.heap.get? e=some {cls:=.ref C,dict:=ed,data:=.fields vs,slots:=sl}/\vs[1]?=some .none/\E (.ref e) s1) E s):wpAny M A (raiseStmt env (some x) none) Q E s:=by
 have sup:(Value.ref C::bm).contains (.type "BaseException")=true:=by rw[qh2,hbase,qe5]
 unfold raiseStmt;refine wpAny_bind (wpAny_mono h (λ v s1 h1=>?_) λ _ _ z=>z);obtain⟨e,ed,vs,sl,rfl,hC,he,h1',hE⟩:=h1;obtain⟨hp,g,d,tk,os⟩:=s1;have hC':hp.get? C=some (excClassObj nm q C N bs bm hdct sn sub ab col dd k0 k1 k2 k3 k5 newId):=hC;have he':hp.get? e=some {cls:=.ref C,dict:=ed,data:=.fields vs,slots:=sl}:=he;repeat (first|with_reducible refine wpAny_loadPart_at he' ?_|with_reducible refine wpAny_loadPart_at hC' ?_|(with_reducible refine wpAny_isSubtype_exc hC' ?_;rw[sup])|wp_step)
 rw[h1'];refine wpAny_pure (wpAny_ite ?_);rw[if_neg qQ];exact wpAny_pure (wpAny_raiseNew_none hh hE)
end
end PySem.XO
end
section
namespace PySem.W
open PySem PySem.Calls PyProof.Rows Builtin Builtin.ObjectAttr
def Z1S:List q0->Bool
 |[.type a,.type b,.type c,.type d]=>a=="ValueError"&&b=="Exception"&&c=="BaseException"&&d=="object"
 | .ref _::r=>Z1S r
 |_=>false
theorem Z3K(self:q0):∀{l:List q0},Z1S l=true->refuseLoop self "__setattr__" l=pure ()
 |[.type a,.type b,.type c,.type d],e=>by
  simp only[Z1S,qc5,beq_iff_eq]at e;obtain⟨⟨⟨rfl,rfl⟩,rfl⟩,rfl⟩:=e;exact PySem.F.store_ValueError.passes self
 | .ref c::r,e=>by rw[refuseLoop_ref];exact Z3K self (by cases r<;>first|exact e|cases e)
theorem Z6n:∀{l:List q0},Z1S l=true->l.contains (.type "object")=true
 |[.type a,.type b,.type c,.type d],e=>by
  simp only[Z1S,qc5,beq_iff_eq]at e;obtain⟨⟨⟨rfl,rfl⟩,rfl⟩,rfl⟩:=e;simp
 | .ref c::r,e=>by rw[qh2,Z6n (l:=r) (by cases r<;>first|exact e|cases e),qe5]
def valueOver(K:Frag)(C:t0):Bool:=(clsIn K C).any λ cd=>Z1S cd.mro
section
variable{prog:Program}{w:U0}{A:M0}{E:q0->X0->Prop}{R:Result->X0->Prop}{s:X0}{K:Frag}{x C:t0}{ox:Obj}{od:Option Obj}
theorem J1a{name:Z0}{tk:Tok}{v:q0}(X:K.In s.heap)(I:InstAt s.heap x ox C od)(hp:valueOver K C=true)(ht:takerIn K C name=some none)(h:∀b,wpAny (model prog w) A.in1 (storeInOwnDict (.ref x) (.ref C) (.str name tk) name v b) (λ fin s'=>match fin with| .done f=>R (.ok f) s'| .again c'=>c'.quiet=true/\codeAny (model prog w) A c' R s') (λ e s'=>R (.error e) s') s):codeAny (model prog w) A (.call (.builtin "object.__setattr__") ⟨[.ref x,.str name tk,v],[]⟩) R s:=by
 have SF:=PySem.F.store_object;obtain⟨cd,hc,ho⟩:=any_some hp;have ne:cd.mro.isEmpty=false:=by
  cases q:cd.mro with
  |nil=>rw[q]at ho;cases ho
  |cons _ _=>rfl
 have sub:Looks (model prog w) s.heap (isInstance (.ref x) (.type "object")) true:=I.type.andThen (looks_mroIn X (by unfold mroIn;rw[hc,qe8,if_neg (by rw[ne];decide),Z6n ho]));refine codeAny_call_builtin SF.slot.plain SF.entry (@check_slot (model prog w) _ _ s "object.__setattr__" "object" "__setattr__" (.ref x) [.str name tk,v] [] _ SF.kind SF.split sub (SF.args (.ref x) (.str name tk) v) ?_);obtain⟨attr,ha,hr⟩:=Option.bind_eq_some_iff.mp ht;have hm:Looks (model prog w) s.heap (mroOf (.ref C)) cd.mro:=(looks_clsIn X hc).andThen .now;have taker:Looks (model prog w) s.heap (storeTaker? attr) none:=by
  cases attr with
  |none=>exact .now
  |some a=>
   obtain⟨b,hb,q⟩:=qd3.mp hr;refine(looks_takesIn X hb).andThen ?_;cases b with
   |true=>cases q
   |false=>exact .now
 rw[osa_eq,refuse_eq];refine wpAny_bind (wpAny_bind (I.type.here (wpAny_bind (hm.here ?_))));rw[Z3K _ ho];exact wpAny_pure (wpAny_bind (I.type.here (wpAny_bind ((looks_findIn X ha).here (wpAny_bind (taker.here (h _)))))))
theorem xset_new{name:Z0}{v:q0}{Q:Unit->X0->Prop}{vs:Array q0}{sl:Array (Option q0)}(X:K.In s.heap)(hx:s.heap.get? x=some {cls:=.ref C,dict:=none,data:=.fields vs,slots:=sl})(hs:findIn K (.ref C) "__setattr__"=some (some (.builtin "object.__setattr__")))(hp:valueOver K C=true)(ht:takerIn K C name=some none)(hh:hasDictIn K C=true)(h:∀h',h'.Ns1 s.heap.objs.size (λ y=>if y=name then some v else none)->h'.get? x=some {cls:=.ref C,dict:=some s.heap.objs.size,data:=.fields vs,slots:=sl}->(∀b o,b≠x->s.heap.get? b=some o->h'.get? b=some o)->Q () {s with heap:=h',toks:=s.toks+2}):wpAny (model prog w) A (setAttr (.ref x) name v) Q E s:=by
 have I:InstAt s.heap x {cls:=.ref C,dict:=none,data:=.fields vs,slots:=sl} C none:=⟨hx,rfl,rfl,True.intro⟩;refine set_plain X I hs (J1a (s:={s with toks:=s.toks+1}) X I hp ht λ b=>?_);obtain⟨cd,hc,hd'⟩:=any_some hh;have hxs:x≠s.heap.objs.size:=qa9 (Heap.lt_size hx);have hx1:(s.heap.push {cls:=.type "dict",data:=.dict #[]}).get? x=some {cls:=.ref C,dict:=none,data:=.fields vs,slots:=sl}:=Heap.get?_push_of_some _ hx;refine wpAny_bind (wpAny_pure (wpAny_bind (wpAny_bind (wpAny_loadPart hx (wpAny_bind (Looks.here (s:={s with toks:=s.toks+1}) (looks_clsIn X hc) ?_))))));rw[hd'];change wpAny (model prog w) A.in1 (alloc {cls:=.type "dict",data:=.dict #[]}>>=λ d=>update x (λ o=>{o with dict:=some d})>>=λ _=>dictMade (.ref C) x d) _ _ _;refine wpAny_bind (wpAny_alloc (wpAny_bind (wpAny_update hx1 ?_)));have hgd:((s.heap.push {cls:=.type "dict",data:=.dict #[]}).update x λ o=>{o with dict:=some s.heap.objs.size}).get? s.heap.objs.size=some {cls:=.type "dict",data:=.dict #[]}:=
  (Heap.get?_update_ne _ _ _ _ hxs.symm).trans (Heap.get?_push_at rfl rfl)
 have hnd:((s.heap.push {cls:=.type "dict",data:=.dict #[]}).update x λ o=>{o with dict:=some s.heap.objs.size}).Ns s.heap.objs.size (λ _=>none):=
  ⟨_,#[],_,hgd,rfl,λ e he=>absurd he (by simp),λ _=>rfl⟩
 refine wpAny_pure (a:=some s.heap.objs.size) ?_;show wpAny _ _ (storeInDict s.heap.objs.size (.str name _) name v) _ _ _;unfold storeInDict newKeyGuard;refine wpAny_bind (wpAny_pure (wpAny_bind (wpAny_nsSet1 (Heap.Ns1.of_empty hnd) λ h' hn' sb=>?_)));obtain⟨oD,esD,epD,hoD,hdD,hcD⟩:=hn'.count (Within.cons name v Within.nil);refine wpAny_bind (wpAny_lookBehind hoD (by rw[hdD];exact pastItsLine_dict (qa1 hcD (by rw[qe0,List.length_nil,sizeLine_eq];lia))) ?_);refine wpAny_pure (h h' hn' ?_ λ b o hb e=>?_)
 ·exact(sb.2 x hxs).trans (Heap.get?_update_self _ hx1 rfl)
 ·exact(sb.2 b (qa9 (Heap.lt_size e))).trans ((Heap.get?_update_ne _ _ _ _ hb).trans (Heap.get?_push_of_some _ e))
end
section
variable{prog:Program}{w:U0}{A:M0}{E:q0->X0->Prop}{s:X0}{K:Frag}{x C:t0}{ox:Obj}{od:Option Obj}{name:Z0}
theorem J6i{Q:Option q0->X0->Prop}(X:K.In s.heap)(I:InstAt s.heap x ox C od)(hga:findIn K (.ref C) "__getattribute__"=some (some (.builtin "BaseException.__getattribute__")))(hgk:findIn K (.ref C) "__getattr__"=some none)(hB:mroIn K C (.type "BaseException")=some true)(hf:findObj K C od "__class__"=some (.bind (.builtin "getset_descriptor.__get__") (.builtin "object.__class__")))(hm:mroIn K C (.type "object")=some true)(h:Q (some (.ref C)) {s with toks:=s.toks+1}):wpAny (model prog w) A (getAttr? (.ref x) "__class__") Q E s:=by
 obtain⟨hp,g,d,t,os⟩:=s;have L0:=I.type (M:=model prog w);have L1:=looks_findIn (M:=model prog w) X hga;have L2:=looks_find (M:=model prog w) X I hf;have L3:Looks (model prog w) hp (hookBefore (.ref C)) none:=looks_hook (mc:=.ref C) X (by have q:onTheHeap (Value.ref C)=true:=rfl;rw[if_pos q];exact hgk);have bnd:=F.excAttr_ValueError.ga.bind (.ref x);unfold getAttr? getAttrBy? getAttrBy;refine wpAny_bind (wpAny_mkText (wpAny_bind (wpAny_attempt (wpAny_holding (wpAny_bind (L0.at (wpAny_bind (L1.at ?_))))))));have hne:(onTheHeap (Value.ref C)&&Value.builtin "BaseException.__getattribute__"==Value.builtin "object.__getattribute__")=false:=by
  rw[show(Value.builtin "BaseException.__getattribute__"==Value.builtin "object.__getattribute__")=false by decide+kernel];rfl
 dsimp only;rw[if_neg (by rw[hne];exact qa3)];unfold getAttrByItsOwn;refine wpAny_bind (L3.at (wpAny_bind (wpAny_attempt (wpAny_holding ?_))));unfold callGetattribute;rw[if_neg qQ];unfold boundAndCalled;refine wpAny_bind (wpAny_of_eq bnd ?_);have hI:Looks (model prog w) hp (isInstance (.ref x) (.type "BaseException")) true:=L0.andThen (looks_mroIn X hB);have hkd:builtinKind "BaseException.__getattribute__"=some .slot:=by decide+kernel
 have hsp:splitId "BaseException.__getattribute__"=some ("BaseException","__getattribute__"):=by decide+kernel
 refine wpAny_call ?_;refine codeAny_call_builtin F.excAttr_ValueError.ga.plain F.entry_bexc_ga ?_;have ha:=F.args_bexc_ga (.ref x) (.str "__class__" t);refine @check_slot (model prog w) _ _ ⟨hp,g,d,t+1,os⟩ "BaseException.__getattribute__" "BaseException" "__getattribute__" (.ref x) [.str "__class__" t] [] _ hkd hsp hI ha ?_;refine wpAny_bind (wpAny_pure (wpAny_bind (wpAny_pure (wpAny_bind (L0.at (wpAny_bind (L2.at ?_)))))));show wpAny _ _ (holding [.builtin "object.__class__"] (call (.builtin "getset_descriptor.__get__") [.builtin "object.__class__",.ref x,.ref C])>>=ret) _ _ _;refine wpAny_bind (wpAny_holding (wpAny_call (class_get (s:=⟨hp,g,d,t+1,os⟩) (ox:=ox) (od:=od) X I hm ?_)));refine wpAny_pure ?_;show wpAny _ _ (handedOut (.ref C)) _ _ _;exact handed_on rfl (wpAny_pure h)
theorem kitx_exc(hdct:hasDictIn K C=true)(hga:findIn K (.ref C) "__getattribute__"=some (some (.builtin "BaseException.__getattribute__")))(hgk:findIn K (.ref C) "__getattr__"=some none)(hB:mroIn K C (.type "BaseException")=some true)(ha:findIn K (.ref C) "__class__"=some (some (.builtin "object.__class__")))(hn:specialIn K (.builtin "object.__class__") "__get__"=some (some (.builtin "getset_descriptor.__get__")))(htk:takesIn K (.builtin "object.__class__")=some true)(hm:mroIn K C (.type "object")=some true):KitX K (.ref x) (.ref C) (λ h=>∃ox od,InstAt h x ox C od)where
 ty:=λ _ _ _ ⟨_,_,I⟩=>I.type
 it:=λ _ _ X _=>by
  obtain⟨cd,hc,_⟩:=any_some hdct;unfold clsIn at hc;split at hc
  ·rename_i ho;intro A' Q' E' s' k q;unfold isType loadHead;exact wpAny_bind (wpAny_loadPart (k _ _ (X _ _ ho)) (wpAny_pure q))
  ·cases hc
 ne:=λ h tp dd its n sl X htp=>by
  obtain⟨cd,hc,_⟩:=any_some hdct;refine Bool.eq_false_iff.mpr λ q=>?_;have e:C=tp:=Value.ref.inj (beq_iff_eq.mp q);subst e;unfold clsIn at hc;split at hc
  ·rename_i ho;have z:=(X _ _ ho).symm.trans htp;cases z
  ·cases hc
 ca:=λ X ⟨ox,od,I⟩ k=>J6i X I hga hgk hB (by
  obtain⟨cd,hc,_⟩:=any_some hdct;unfold findObj;rw[hc,qe8,ha,qe8];show(specialIn K (.builtin "object.__class__") "__get__").bind _=_;rw[hn,qe8];show(takesIn K (.builtin "object.__class__")).bind _=_;rw[htk];rfl) hm k
end
end PySem.W
end
section
namespace PySem.XF
open PySem
structure Wake(fs ex:List t0)(a:t0)(h h':V0):Prop where
 keep:∀b o,h.get? b=some o->b∉fs->b≠a->b∉ex->h'.get? b=some o
 slot:∀b o,h.get? b=some o->b∈fs->b≠a->b∉ex->∃sl,h'.get? b=some {o with slots:=sl}
def TbAt(h:V0)(vs:Array q0)(T:t0)(fl:q0):Prop:=vs[1]?=some (.ref T)/\∃oT ts,h.get? T=some oT/\oT.data=.fields ts/\ts[3]?=some fl
section
variable{M:Model}{A:M0}{E:q0->X0->Prop}{s:X0}
theorem J0L{base:V0}{env:Env}{outer:List Env}{L e:t0}{cls head:q0}{ed:Option t0}{vs:Array q0}{sl:Array (Option q0)}{had:Bool}{Q:Unit->X0->Prop}(hfr:A.frames=some (env::outer))(hl:s.heap.FunFrames base (env::outer))(hf:env.frame=some L)(he:s.heap.get? e=some {cls:=cls,dict:=ed,data:=.fields vs,slots:=sl})(hsz:1<vs.size)(hQ:∀h' vs' T,Wake ((env::outer).filterMap (·.frame)) [] e s.heap h'->s.heap.objs.size<=T->h'.get? e=some {cls:=cls,dict:=ed,data:=.fields vs',slots:=sl}->TbAt h' vs' T (rawInt L)->Q () {s with heap:=h'}):wpAny M A (do let a<-frameOf env;let pl<-entryPlaceOf L had;let b<-EntryCells.newEntry head a .none (rawInt L) .none pl;setField (.ref e) 1 b) Q E s:=by
 have hne:e∉(env::outer).filterMap (·.frame):=λ hm=>by
  obtain⟨_,o,ho,hnf⟩:=hl.mem hm;rw[he]at ho;cases ho;exact hnf vs rfl
 refine wpAny_bind (wpAny_frameOf_fun hfr hl hf λ h1 hs1=>wpAny_bind (wpAny_entryPlaceOf λ pl hpl=>?_));unfold EntryCells.newEntry newFields;refine wpAny_bind (wpAny_newObj_type ?_ (hpl.sizeOk5 _ _ _ _ _));have e1:h1.get? e=some {cls:=cls,dict:=ed,data:=.fields vs,slots:=sl}:=(hs1.2.1 e hne).trans he;generalize htr:({cls:=.type "traceback",dict:=none,data:=.fields ([head,.ref L,.none,rawInt L,.none]++(if pl.isEmpty then qa4 6 Value.none else pl)).toArray}:Obj)=otr;have e2:(h1.push otr).get? e=_:=Heap.get?_push_of_some otr e1;have hTe:h1.objs.size≠e:=qd9 (Heap.lt_size e1);refine wpAny_setField e2 rfl hsz (hQ _ (vs.setIfInBounds 1 (.ref h1.objs.size)) h1.objs.size ⟨λ b o e n1 n2 _=>?_,λ b o e n1 n2 _=>?_⟩ (qf3 hs1.1.symm) (Heap.get?_update_self _ e2 rfl) ⟨by simp[hsz],otr,([head,.ref L,.none,rawInt L,.none]++(if pl.isEmpty then qa4 6 Value.none else pl)).toArray,?_,by rw[<-htr],?_⟩)
 ·rw[Heap.get?_update_other _ _ (Ne.symm n2)];exact Heap.get?_push_of_some _ ((hs1.2.1 b n1).trans e)
 ·obtain⟨sl,q⟩:=hs1.2.2 b o e;refine⟨sl,?_⟩;rw[Heap.get?_update_other _ _ (Ne.symm n2)];exact Heap.get?_push_of_some _ q
 ·rw[Heap.get?_update_other _ _ (Ne.symm hTe)];refine Heap.get?_push_size _ ?_;rw[<-htr];rfl
 ·first|(simp;done)|(rcases hpl with rfl|⟨_,_,_,_,_,_,_,rfl⟩<;>simp)
theorem Z9s{base:V0}{env:Env}{outer:List Env}{L e:t0}{cls:q0}{ed:Option t0}{vs:Array q0}{sl:Array (Option q0)}{Q:Unit->X0->Prop}(hfr:A.frames=some (env::outer))(hl:s.heap.FunFrames base (env::outer))(hf:env.frame=some L)(he:s.heap.get? e=some {cls:=cls,dict:=ed,data:=.fields vs,slots:=sl})(h1:vs[1]?=some .none)(hQ:∀h' vs' T,Wake ((env::outer).filterMap (·.frame)) [] e s.heap h'->s.heap.objs.size<=T->h'.get? e=some {cls:=cls,dict:=ed,data:=.fields vs',slots:=sl}->TbAt h' vs' T (rawInt L)->Q () {s with heap:=h'}):wpAny M A (noteFrame (.ref e) env) Q E s:=by
 unfold noteFrame;simp only[hf];refine wpAny_bind (wpAny_field he rfl h1 ?_);rw[if_neg qQ];exact J0L hfr hl hf he (qg0.mp h1).1 hQ
theorem J1K{base:V0}{env:Env}{outer:List Env}{L e T0:t0}{cls:q0}{ed:Option t0}{vs:Array q0}{sl:Array (Option q0)}{Q:Unit->X0->Prop}(hfr:A.frames=some (env::outer))(hl:s.heap.FunFrames base (env::outer))(hf:env.frame=some L)(he:s.heap.get? e=some {cls:=cls,dict:=ed,data:=.fields vs,slots:=sl})(htb:TbAt s.heap vs T0 .none)(hTe:T0≠e)(hQ:∀h' vs' T,Wake ((env::outer).filterMap (·.frame)) [T0] e s.heap h'->s.heap.objs.size<=T->h'.get? e=some {cls:=cls,dict:=ed,data:=.fields vs',slots:=sl}->TbAt h' vs' T (rawInt L)->Q () {s with heap:=h'}):wpAny M A (noteFrame (.ref e) env) Q E s:=by
 obtain⟨h1,oT,ts,hT,hdT,h3⟩:=htb;unfold noteFrame;simp only[hf];refine wpAny_bind (wpAny_field he rfl h1 ?_);rw[if_pos (show(Value.ref T0 !=Value.none)=true from by simp)];refine wpAny_bind (wpAny_field hT hdT h3 ?_);rw[if_neg (show ¬((Value.none==rawInt L)=true)from by simp[rawInt])];refine wpAny_bind (wpAny_setField hT hdT (qg0.mp h3).1 ?_);have other:∀b,b≠T0->(s.heap.update T0 (Obj.mapFields (·.setIfInBounds 3 Value.none))).get? b=s.heap.get? b:=λ b hb=>Heap.get?_update_other _ _ (Ne.symm hb);have notT:∀b o,s.heap.get? b=some o->(∀ws,o.data≠.fields ws)->b≠T0:=λ b o hb hnf z=>by
  rw[z,hT]at hb;cases hb;exact hnf ts hdT
 refine J0L (s:={ s with heap:=s.heap.update T0 (Obj.mapFields (·.setIfInBounds 3 Value.none)) }) hfr (hl.of_keeps λ b o hb hnf=>⟨o,(other b (notT b o hb hnf)).trans hb,rfl⟩) hf
  ((other e (Ne.symm hTe)).trans he) (qg0.mp h1).1 λ h' vs' T wk ht q1 q2=>hQ h' vs' T ⟨λ b o e n1 n2 n3=>?_,λ b o e n1 n2 n3=>?_⟩ (qa1 (qf3 (by simp[Heap.update])) ht) q1 q2
 ·exact wk.keep b o ((other b (by simpa using n3)).trans e) n1 n2 (by simp)
 ·exact wk.slot b o ((other b (by simpa using n3)).trans e) n1 n2 (by simp)
theorem Z9F{env:Env}{L e T:t0}{cls:q0}{ed:Option t0}{vs:Array q0}{sl:Array (Option q0)}{Q:Unit->X0->Prop}(hf:env.frame=some L)(he:s.heap.get? e=some {cls:=cls,dict:=ed,data:=.fields vs,slots:=sl})(htb:TbAt s.heap vs T (rawInt L))(hQ:Q () s):wpAny M A (noteFrame (.ref e) env) Q E s:=by
 obtain⟨h1,oT,ts,hT,hdT,h3⟩:=htb;unfold noteFrame;simp only[hf];refine wpAny_bind (wpAny_field he rfl h1 ?_);rw[if_pos (show(Value.ref T !=Value.none)=true from by simp)];refine wpAny_bind (wpAny_field hT hdT h3 ?_);rw[if_pos (show(rawInt L==rawInt L)=true from by simp)];exact wpAny_pure hQ
theorem J3a{e T:t0}{cls fl:q0}{ed:Option t0}{vs:Array q0}{sl:Array (Option q0)}{fr:Option t0}{Q:Unit->X0->Prop}(he:s.heap.get? e=some {cls:=cls,dict:=ed,data:=.fields vs,slots:=sl})(htb:TbAt s.heap vs T fl)(hTe:T≠e)(hQ:∀h',Wake [] [T] e s.heap h'->h'.get? e=some {cls:=cls,dict:=ed,data:=.fields vs,slots:=sl}->TbAt h' vs T (fr.elim .none λ f=>rawInt f)->Q () {s with heap:=h'}):wpAny M A (setFlight (.ref e) fr) Q E s:=by
 obtain⟨h1,oT,ts,hT,hdT,h3⟩:=htb;have hsz:=(qg0.mp h3).1;have other:∀b,b≠T->(s.heap.update T (Obj.mapFields (·.setIfInBounds 3 (fr.elim Value.none λ f=>rawInt f)))).get? b=s.heap.get? b:=λ b hb=>Heap.get?_update_other _ _ (Ne.symm hb);unfold setFlight;refine wpAny_bind (wpAny_field he rfl h1 ?_);rw[if_pos (show(Value.ref T !=Value.none)=true from by simp)];refine wpAny_setField hT hdT hsz (hQ _ ⟨λ b o e _ _ n3=>(other b (by simpa using n3)).trans e,λ b o _ n _ _=>absurd n (by simp)⟩ ((other e (Ne.symm hTe)).trans he) ⟨h1,_,_,Heap.get?_update_self _ hT (Obj.isFreed_of_fields (Obj.data_mapFields hdT _)),Obj.data_mapFields hdT _,by simp[hsz]⟩)
end
end PySem.XF
end
section
namespace L2
open PySem PySem.Spec PyProof.Rows PySem.XF
def excO(a C:t0)(ed:Option t0):HO:=.ext λ h=>∃vs sl,h.get? a=some {cls:=.ref C,dict:=ed,data:=.fields vs,slots:=sl}
theorem Z9X{P:Program}{w:U0}{H:Hp}{h:V0}{a C:t0}{ed:Option t0}{vs:Array q0}{sl:Array (Option q0)}(e:h.get? a=some {cls:=.ref C,dict:=ed,data:=.fields vs,slots:=sl}):ObjOk P w H h a (excO a C ed):=
 ⟨⟨vs,sl,e⟩,⟨_,e⟩,λ h1 h2 ⟨vs,sl,q⟩ k=>⟨vs,sl,k _ q⟩⟩
structure Lone(X:Cx)(pins:List (t0×Obj))(H:Hp)(a T:t0):Prop where
 new:X.s₀.heap.objs.size<=T
 pin:∀p∈X.pn++pins,p.1≠T
 free:H T=none
 ne:T≠a
def Z7E(X:Cx)(pins:List (t0×Obj))(H:Hp)(h:V0)(a C:t0)(ed:Option t0)(fl:Option q0):Prop:=
 H a=some (excO a C ed)/\∃vs sl,h.get? a=some {cls:=.ref C,dict:=ed,data:=.fields vs,slots:=sl}/\match fl with
  |none=>vs[1]?=some .none
  |some f=>∃T,TbAt h vs T f/\Lone X pins H a T
section
variable{X:Cx}{pins:List (t0×Obj)}{σ:St}{H:Hp}{s:X0}{a C:t0}{ed:Option t0}{E:q0->X0->Prop}
theorem Inv.lone(I:Inv X pins σ H s){T:t0}{oT:Obj}{ts:Array q0}(n:Lone X pins H a T)(hT:s.heap.get? T=some oT)(hd:oT.data=.fields ts):(T∈X.ex\/X.s₀.heap.objs.size<=T)/\T≠X.env.locals/\(∀x c,X.env.cells.lookup x=some c->c≠T)/\∀p∈X.pn++pins,p.1≠T:=by
 refine⟨.inr n.new,λ z=>?_,λ x c e z=>?_,n.pin⟩
 ·obtain⟨m,⟨o,es,ep,ho,hd',_⟩,_⟩:=I.loc;rw[<-z,hT]at ho;cases ho;rw[hd]at hd';cases hd'
 ·obtain⟨v,o,ho,hd'⟩:=I.cell x c e;rw[z,hT]at ho;cases ho;rw[hd]at hd';cases hd'
theorem Inv.wake{h':V0}{ex:List t0}{vs:Array q0}{sl:Array (Option q0)}(I:Inv X pins σ H s)(hx:H a=some (excO a C ed))(wk:Wake (frs X.stack) ex a s.heap h')(ea:h'.get? a=some {cls:=.ref C,dict:=ed,data:=.fields vs,slots:=sl})(hex:∀b∈ex,H b=none/\(b∈X.ex\/X.s₀.heap.objs.size<=b)/\b≠X.env.locals/\(∀x c,X.env.cells.lookup x=some c->c≠b)/\∀p∈X.pn++pins,p.1≠b):Inv X pins σ H {s with heap:=h'}:=by
 have na:∀b,H b=none->b≠a:=λ b n z=>by rw[z,hx]at n;cases n
 have nfs:∀b o,H b=some o->b∉frs X.stack:=λ b o q z=>by rw[I.stkFree b z]at q;cases q
 have nex:∀b o,H b=some o->b∉ex:=λ b o q z=>by rw[(hex b z).1]at q;cases q
 have there:∀b o,s.heap.get? b=some o->b∉ex->∃o',h'.get? b=some o':=λ b o q z=>by
  by_cases e1:b=a
  ·rw[e1];exact⟨_,ea⟩
  ·by_cases e2:b∈frs X.stack
   ·obtain⟨sl,r⟩:=wk.slot b o q e2 e1 z;exact⟨_,r⟩
   ·exact⟨_,wk.keep b o q e2 e1 z⟩
 refine I.call (g':=s.gens) (d':=s.drawn) (t':=s.toks) (ch:=ex) ⟨λ b o q n h1 h2=>wk.keep b o q h1 (na b n) h2,λ b o q n h1 h2=>wk.slot b o q h1 (na b n) h2,λ _ _ _ n _=>n,there,λ _ _ q=>q,λ _ _ _ q=>q,λ _ ps q=>⟨#[],by simpa using q⟩⟩ (λ b u q=>?_) I.bare λ b hb=>(hex b hb).2;by_cases e1:b=a
 ·subst e1;rw[hx]at q;cases q;exact Z9X ea
 ·refine(I.hok b u q).stay (λ c v hc r=>?_) (λ _ r=>r) λ _ _ r=>r;have hca:c≠a:=by
   rcases hc with rfl|hc
   ·exact e1
   ·intro z;rw[z,hx]at hc;cases hc
  have hcH:∃o,H c=some o:=by
   rcases hc with rfl|hc
   ·exact⟨_,q⟩
   ·exact⟨_,hc⟩
  obtain⟨o,hcH⟩:=hcH;exact wk.keep c v r (nfs c o hcH) hca (nex c o hcH)
def Z8K(X:Cx)(pins:List (t0×Obj))(H:Hp)(h:V0)(a C:t0)(ed:Option t0):Prop:=
 Z7E X pins H h a C ed none\/Z7E X pins H h a C ed (some .none)\/Z7E X pins H h a C ed (some (rawInt X.env.locals))
theorem Z8P(I:Inv X pins σ H s)(hx:H a=some (excO a C ed)){T:t0}(hT:s.heap.objs.size<=T):Lone X pins H a T:=by
 refine⟨qa1 I.sz hT,λ p hp z=>?_,I.hok.fresh hT,λ z=>?_⟩
 ·have:=Heap.lt_size (I.pin p hp).1;rw[z]at this;exact absurd (qa5 this hT) (qb1 _)
 ·have:=I.hok.lt hx;rw[<-z]at this;exact absurd (qa5 this hT) (qb1 _)
theorem Z5N{A:M0}{Q:Unit->X0->Prop}(I:Inv X pins σ H s)(hA:A.frames=X.A.frames)(hs:X.stack=X.env::X.outer)(hf:X.env.frame=some X.env.locals)(F:Z8K X pins H s.heap a C ed)(h:∀s',Inv X pins σ H s'->Z7E X pins H s'.heap a C ed (some (rawInt X.env.locals))->Q () s'):wpAny (model X.prog X.w) A (noteFrame (.ref a) X.env) Q E s:=by
 have hfr:A.frames=some (X.env::X.outer):=by rw[hA,I.ok.frames,hs]
 have hl:s.heap.FunFrames X.base (X.env::X.outer):=by have:=I.stack;rw[hs]at this;exact this
 have hfs:(X.env::X.outer).filterMap (·.frame)=frs X.stack:=by rw[hs];rfl
 rcases F with⟨hx,vs,sl,ea,h1⟩|⟨hx,vs,sl,ea,T,tb,ln⟩|⟨hx,vs,sl,ea,T,tb,ln⟩
 ·refine Z9s hfr hl hf ea h1 λ h' vs' T wk hT ea' tb'=>h _ (I.wake hx (by rw[hfs]at wk;exact wk) ea' λ b z=>absurd z (by simp)) ⟨hx,vs',sl,ea',T,tb',Z8P I hx hT⟩
 ·refine J1K hfr hl hf ea tb ln.ne λ h' vs' T' wk hT ea' tb'=>h _ (I.wake hx (by rw[hfs]at wk;exact wk) ea' λ b z=>?_) ⟨hx,vs',sl,ea',T',tb',Z8P I hx hT⟩;obtain rfl:b=T:=by simpa using z
  obtain⟨_,oT,ts,q1,q2,_⟩:=tb;exact⟨ln.free,I.lone ln q1 q2⟩
 ·exact Z9F hf ea tb (h s I ⟨hx,vs,sl,ea,T,tb,ln⟩)
theorem Z2P{A:M0}{fr:Option t0}{fl:q0}{Q:Unit->X0->Prop}(I:Inv X pins σ H s)(F:Z7E X pins H s.heap a C ed (some fl))(h:∀s',Inv X pins σ H s'->Z7E X pins H s'.heap a C ed (some (fr.elim .none λ f=>rawInt f))->Q () s'):wpAny (model X.prog X.w) A (setFlight (.ref a) fr) Q E s:=by
 obtain⟨hx,vs,sl,ea,T,tb,ln⟩:=F;refine J3a ea tb ln.ne λ h' wk ea' tb'=>h _ (I.wake hx ⟨λ b o q _ n2 n3=>wk.keep b o q (by simp) n2 n3,λ b o q _ n2 n3=>⟨o.slots,wk.keep b o q (by simp) n2 n3⟩⟩ ea' λ b z=>?_) ⟨hx,vs,sl,ea',T,tb',ln⟩;obtain rfl:b=T:=by simpa using z
 obtain⟨_,oT,ts,q1,q2,_⟩:=tb;exact⟨ln.free,I.lone ln q1 q2⟩
end
def Raised(X:Cx)(E:St->XK)(e:q0)(s:X0):Prop:=∃a C ed σ H,e=.ref a/\Inv X [] σ H s/\Z8K X [] H s.heap a C ed/\E σ (.ref C) ed H
def CXe(P:Program)(w:U0):CXT:=λ outer H s E e s'=>∃a C ed H',e=.ref a/\s'.os=s.os/\AllBare s'.gens/\Un (frs outer) [] H H' s.heap s'.heap/\HOk P w H' s'.heap/\H' a=some (excO a C ed)/\
 (∃vs sl,s'.heap.get? a=some {cls:=.ref C,dict:=ed,data:=.fields vs,slots:=sl}/\∃T,TbAt s'.heap vs T .none/\s.heap.objs.size<=T/\H' T=none/\T≠a)/\E (.ref C) ed H'
section
variable{X:Cx}{E:St->XK}
theorem Z0H(hs:X.stack=X.env::X.outer)(hf:X.env.frame=some X.env.locals):PassesOwn (model X.prog X.w) X.A X.env (Raised X E):=by
 rintro e s ⟨a,C,ed,σ,H,rfl,I,F,q⟩;refine Z5N I rfl hs hf F λ s1 I1 F1=>?_;obtain⟨hx,vs,sl,ea,T,tb,ln⟩:=F1;refine wpAny_bind (wpAny_field ea rfl tb.1 ?_);rw[if_neg (show ¬((Value.ref T==Value.none)=true)from by simp)];refine Z2P I1 ⟨hx,vs,sl,ea,T,tb,ln⟩ λ s2 I2 F2=>?_;rw[hf]at F2;exact⟨a,C,ed,σ,H,rfl,I2,.inr (.inr F2),q⟩
theorem J0t{pins:List (t0×Obj)}{σ:St}{H:Hp}{s s':X0}{e:q0}{E':XK}(I:Inv X pins σ H s)(c:CXe X.prog X.w X.stack H s E' e s')(h:∀cl ed H',E' cl ed H'->E σ cl ed H'):Raised X E e s':=by
 obtain⟨a,C,ed,H',rfl,ho,hg,un,hok,hx,⟨vs,sl,ea,T,tb,hT,hfT,hne⟩,q⟩:=c;have I1:Inv X pins σ H' s':=I.call' ho un hok hg λ b z=>absurd z (by simp);have I2:Inv X [] σ H' s':=I1.pins_of λ p hp=>absurd hp (by simp);refine⟨a,C,ed,σ,H',rfl,I2,.inr (.inl ⟨hx,vs,sl,ea,T,tb,qa1 I.sz hT,λ p hp z=>?_,hfT,hne⟩),h _ _ _ q⟩;have hp':p∈X.pn:=by simpa using hp
 have:=Heap.lt_size (I.pin p (qh6 _ hp')).1;rw[z]at this;exact absurd (qa5 this hT) (qb1 _)
theorem Raised.passes{E':XK}(h:∀σ cl ed H',E' cl ed H'->E σ cl ed H'):Z3N (CXe X.prog X.w) (X.wish (Raised X E)) E':=λ pins σ H s e s' I c=>J0t I.unwish c λ _ _ _ q=>h _ _ _ _ q
end
section
variable{P:Program}{w:U0}{K:y0}{mg:Z0->Option q0}{base:V0}
theorem Z8N{N:List Z0}{qual:Z0}{scope:Scope}{f:t0}{cd:q0}{A:M0}{outer:List Env}{s:X0}{H:Hp}{E:XK}{e:q0}{s':X0}(r:Raised (cxOf (CXe P w) P w K mg base N qual scope f cd A outer s H E) (λ _=>E) e s'):(cxOf (CXe P w) P w K mg base N qual scope f cd A outer s H E).xe e s':=by
 obtain⟨a,C,ed,σ,H',rfl,I,F,q⟩:=r;show wpAny _ _ (leaving _ _) _ _ _;unfold leaving;refine wpAny_bind (Z5N I rfl rfl rfl F λ s1 I1 F1=>Z2P I1 F1 λ s2 I2 F2=>?_);obtain⟨hx,vs,sl,ea,T,tb,ln⟩:=F2;exact⟨a,C,ed,H',rfl,I2.os,I2.bare,I2.base,I2.hok,hx,⟨vs,sl,ea,T,tb,ln.new,ln.free,ln.ne⟩,q⟩
theorem Fun.okX{x qual:Z0}{st:Stmt}{f:t0}{fd:FuncData}{N ps:List Z0}{k:Nat}{sp:Sp}(F:Fun K x qual st f fd)(S:Z0n N ps (Z0e st))(len:∀vs H Q E,sp vs H Q E->vs.length=ps.length)(hbody:∀(cdv:q0)(A:M0)(outer:List Env)(s:X0)(H:Hp)(vs:List V)(Q:VK)(E:XK),Room k (A.deeper (envOfC qual (Z0e st) s.heap.objs.size f cdv))->sp vs H Q E->∃t,PSs ((cxOf (CXe P w) P w K mg base N qual (Z0e st) f cdv A outer s H E).wish (Raised (cxOf (CXe P w) P w K mg base N qual (Z0e st) f cdv A outer s H E) λ _=>E)) (Z0B st) t/\t {nx:=λ _ H'=>Q .non H',rt:=Q} (Z3w N vs) H):FnOk P w K mg base (CXe P w) (k+1) f fd ps sp:=by
 obtain⟨oc,od,kV,doc,pm,an,cdv,ct,osl,rfl,lk,hcd⟩:=F.ex;refine J4F lk hcd S len λ A outer s H vs Q E hr hsp=>?_;obtain⟨t,h,q⟩:=hbody cdv A outer s H vs Q E hr hsp;refine⟨t,λ pins s1 σ H1 D I hw=>wpAny_mono (h pins s1 σ H1 D (I.wish _) hw) (λ _ _ z=>z.unwish) λ e s2 z=>Z8N z,q⟩
end
open PySem.XO
abbrev bmV:List q0:=[.type "ValueError",.type "Exception",.type "BaseException",.type "object"]
def xIn(K:y0)(C:t0)(ini:Option t0):Bool:=match K.lookup C with
 |some ⟨.type "type",_,.cls cd,sl⟩=>(match cd.mro,sl.toList with
  | .ref C'::bm,[_,_,_,_,some (.builtin n),_]=>C'==C&&n=="ValueError.__new__"&&!cd.hasDel&&W.tailIn K bmV bm&&W.nsOkIn K cd.ns&&W.nsIn K cd.ns "__init__"==some (ini.map .ref)
  |_,_=>false)
 |_=>false
theorem Z9n{K:y0}{h:V0}{N:t0}{mg:Z0->Option q0}{n:Z0}{v:q0}(X:K.In h)(G:h.Ns N mg)(e:W.nsIn K N n=some (some v)):mg n=some v:=by
 obtain⟨o,es,ep,ho,hd,_,hf⟩:=G;unfold W.nsIn at e;split at e
 ·rename_i c d es' n' sl q;have:=X _ _ q;rw[ho]at this;cases this;cases hd;split at e
  ·rename_i en he;cases e;rw[<-hf];unfold nsFind findBy;rw[<-Array.find?_toList,he];rfl
  ·split at e<;>cases e
 ·cases e
theorem Z3k{K:y0}{h:V0}{C:t0}{ini:Option t0}(X:K.In h)(q:xIn K C ini=true):∃nm qn N bs bm hdct sn sub ab col dd k0 k1 k2 k3 k5 mN,K.lookup C=some (excClassObj nm qn C N bs bm hdct sn sub ab col dd k0 k1 k2 k3 k5 "ValueError.__new__")/\h.Ns N mN/\mN "__init__"=ini.map .ref/\OwnTail h bmV bm:=by
 unfold xIn at q;split at q
 ·rename_i dd cd sl ho;split at q
  ·rename_i C' bm k0 k1 k2 k3 n k5 hm hs;simp only[qc5,beq_iff_eq,Bool.not_eq_true']at q;obtain⟨⟨⟨⟨⟨rfl,rfl⟩,hdel⟩,ht⟩,hok⟩,hi⟩:=q;obtain⟨nm,bs,mro,ns,qn,hd,sn,sub,ab,col,del⟩:=cd;dsimp only at hm hdel hok hi;subst hm hdel;have hsl:sl=#[k0,k1,k2,k3,some (.builtin "ValueError.__new__"),k5]:=by
    obtain⟨l⟩:=sl;simp only at hs;rw[hs]
   subst hsl;have G:h.Ns ns (h.nsMap ns):=.of_isNs (W.isNs_of_in X hok);refine⟨nm,qn,ns,bs,bm,hd,sn,sub,ab,col,dd,k0,k1,k2,k3,k5,h.nsMap ns,ho,G,?_,W.tail_of_in X ht⟩;cases ini with
   |none=>exact W.ns_none_of X G hi
   |some f=>exact Z9n X G hi
  ·cases q
 ·cases q
theorem Z4o{h:V0}{bm:List q0}(T:OwnTail h bmV bm):bm.contains (.type "BaseException")=true:=T.hasType qQ
theorem J2t{H:Hp}{a:t0}{o:HO}(h:H a=some o):upd H a o=H:=by
 funext b;unfold upd;split
 ·rename_i e;rw[e,h]
 ·rfl
def excN(a C:t0)(ed:Option t0):HO:=.ext λ h=>∃vs sl,h.get? a=some {cls:=.ref C,dict:=ed,data:=.fields vs,slots:=sl}/\vs[1]?=some .none
theorem Z5t{P:Program}{w:U0}{H:Hp}{h:V0}{a C:t0}{ed:Option t0}{vs:Array q0}{sl:Array (Option q0)}(e:h.get? a=some {cls:=.ref C,dict:=ed,data:=.fields vs,slots:=sl})(n:vs[1]?=some .none):ObjOk P w H h a (excN a C ed):=
 ⟨⟨vs,sl,e,n⟩,⟨_,e⟩,λ h1 h2 ⟨vs,sl,q,n⟩ k=>⟨vs,sl,k _ q,n⟩⟩
section
variable{X:Cx}{pins:List (t0×Obj)}{σ:St}{H:Hp}{s:X0}{a C:t0}{ed:Option t0}{E:q0->X0->Prop}
theorem Inv.newExc(I:Inv X pins σ H s)(h:H a=some (excN a C ed)):∃vs sl,s.heap.get? a=some {cls:=.ref C,dict:=ed,data:=.fields vs,slots:=sl}/\vs[1]?=some .none:=(I.hok a _ h).1
theorem Inv.anExc(I:Inv X pins σ H s)(h:H a=some (excO a C ed)):∃vs sl,s.heap.get? a=some {cls:=.ref C,dict:=ed,data:=.fields vs,slots:=sl}:=(I.hok a _ h).1
theorem Inv.ready(I:Inv X pins σ H s)(h:H a=some (excN a C ed)):Inv X pins σ (upd H a (excO a C ed)) s/\Z7E X pins (upd H a (excO a C ed)) s.heap a C ed none:=by
 obtain⟨vs,sl,e,n⟩:=I.newExc h;refine⟨?_,Z0g,vs,sl,e,n⟩;exact I.write (t':=s.toks) (h':=s.heap) (x:=a) (e:=a) (by rw[h];exact True.intro) (.inl rfl) (λ b u _ q=>q) ⟨_,e⟩ (Z9X e)
end
abbrev TJ:=Z0->TE
def PJ(X:Cx)(es:List Expr)(t:TJ):Prop:=
 ∀(pins:List (t0×Obj))(s:X0)(σ:St)(H:Hp)(acc:Z0)(Q:VK),Inv X pins σ H s->t acc σ H Q->wpAny (model X.prog X.w) X.A (joinParts acc (evalEach es X.env)) (EP X pins σ Q) X.xe s
def J5v:TJ:=λ acc _ H Q=>acc.length<=sizeLine/\Q (.str acc) H
def J3t(te:TE)(tr:TJ):TJ:=λ acc σ H Q=>te σ H λ x H1=>∃z,x=.str z/\(acc++z).length<=sizeLine/\tr (acc++z) σ H1 Q
def tFmt(te:TE):TE:=λ σ H Q=>te σ H λ x H1=>(∃i,x=.int i/\i.natAbs.log2<1920/\Q (.str (toString i)) H1)\/(∃z:Z0,x=.str z/\z.length<=sizeLine/\Q (.str z) H1)
section
variable{X:Cx}{e v1 v2:Expr}{es:List Expr}{te:TE}{t:TJ}{pos:Pos}
theorem J1j:PJ X [] J5v:=λ pins s σ H acc Q I h=>joinParts_nil ⟨.str acc,H,I.tok _,⟨_,rfl⟩,h.2⟩ h.1
theorem Z3f(he:PE X e te)(hr:PJ X es t)(hs:evalEach (e::es) X.env=eval e X.env::evalEach es X.env:=by rfl):PJ X (e::es) (J3t te t):=by
 intro pins s σ H acc Q I h;rw[hs];refine joinParts_cons (thn (he pins s σ H _ I h) λ u s1 ⟨x,H1,I1,r1,z,ex,hz,q1⟩=>?_);subst ex;obtain⟨tk,rfl⟩:=r1;exact⟨hz,hr pins s1 σ H1 _ Q I1 q1⟩
theorem Z7v(h:PJ X (v1::v2::es) t)(hs:evalEach (v1::v2::es) X.env=eval v1 X.env::eval v2 X.env::evalEach es X.env:=by rfl):PE X (.JoinedStr (v1::v2::es) pos) (t Str.empty):=by
 intro pins s σ H Q I q;refine JoinedStr_many ?_;have:=h pins s σ H Str.empty Q I q;rw[hs]at this;exact this
theorem J0E(he:PE X e te):PE X (.FormattedValue e (-1) none pos) (tFmt te):=by
 intro pins s σ H Q I h;refine PyProof.Rows.FormattedValue_plain (thn (he pins s σ H _ I h) λ u s1 ⟨x,H1,I1,r1,q1⟩=>?_);rcases q1 with⟨i,ex,hi,q⟩|⟨z,ex,hz,q⟩
 ·subst ex;obtain⟨tk,rfl⟩:=r1;exact formatField_int_small hi ⟨.str _,H1,I1.tok _,⟨_,rfl⟩,q⟩
 ·subst ex;obtain⟨tk,rfl⟩:=r1;exact formatField_str (λ t' tk'=>⟨.str _,H1,I1.tok _,⟨_,rfl⟩,q⟩) hz
end
structure XSup(K:y0)(B:t0):Prop where
 ga:W.specialIn K (.ref B) "__getattribute__"=some (some (.builtin "type.__getattribute__"))
 rd:W.readsIn K B (.type "type")=true
 ini:W.findCls K (.ref B) (.type "type") "__init__"=some (.val (.builtin "ValueError.__init__"))
def J5K(K:y0)(t:TA):TE:=λ σ H Q=>t σ H λ vs H1=>∃x C ini ed ws,vs=.ref x::ws/\H1 x=some (excN x C ed)/\xIn K C ini=true/\ws.length<=sizeLine/\Q .non H1
section
variable{X:Cx}{e:Expr}{es:List Expr}{te:TE}{t:TA}{pos apos p:Pos}{B:t0}{b:Z0}
theorem Z9l{pins:List (t0×Obj)}{σ:St}{H:Hp}{s:X0}{x C:t0}{ini ed:Option t0}{us:List q0}{Q:q0->X0->Prop}(I:Inv X pins σ H s)(hx:H x=some (excN x C ed))(hC:xIn X.K C ini=true)(hz:us.length<=sizeLine)(h:∀s',Inv X pins σ H s'->Q .none s'):wpAny (model X.prog X.w) X.A (call (.builtin "ValueError.__init__") (.ref x::us)) Q X.xe s:=by
 obtain⟨nm,qn,N,bs,bm,hdct,sn,sub,ab,col,dd,k0,k1,k2,k3,k5,mN,lC,nN,hi,T⟩:=Z3k I.kIn hC;have oC:=I.kIn _ _ lC;obtain⟨vs,sl,ex,h1⟩:=I.newExc hx;have F:=qi9;obtain⟨hp,g,d,tk,os⟩:=s;have oC':hp.get? C=some (excClassObj nm qn C N bs bm hdct sn sub ab col dd k0 k1 k2 k3 k5 "ValueError.__new__"):=oC;have ex':hp.get? x=some {cls:=.ref C,dict:=ed,data:=.fields vs,slots:=sl}:=ex;refine wpAny_call (codeAny_call_builtin F.init.plain F.initEntry (wpAny_check_init_subU F T oC' ex' rfl ?_));have hsz:0<vs.size:=Nat.lt_trans (Nat.zero_lt_one) (qg0.mp h1).1;unfold Builtin.«BaseException.__init__»;have ex2:(hp.push {cls:=.type "tuple",data:=.seq us.toArray}).get? x=some {cls:=.ref C,dict:=ed,data:=.fields vs,slots:=sl}:=Heap.get?_push_of_some _ ex'
 wp_walk
 have J:Inv X pins σ H ⟨(hp.push {cls:=.type "tuple",data:=.seq us.toArray}).update x (Obj.mapFields (·.setIfInBounds 0 (.ref hp.objs.size))),g,d,tk,os⟩:=by
  have J1:=I.kept (t':=tk) (h':=hp.push {cls:=.type "tuple",data:=.seq us.toArray}) λ b u q=>Heap.get?_push_of_some _ q;have e3:=Heap.get?_update_self (Obj.mapFields (·.setIfInBounds 0 (.ref hp.objs.size))) ex2 rfl;have J2:=J1.write (t':=tk) (h':=(hp.push {cls:=.type "tuple",data:=.seq us.toArray}).update x (Obj.mapFields (·.setIfInBounds 0 (.ref hp.objs.size)))) (x:=x) (e:=x) (o:=excN x C ed) (by rw[hx];exact True.intro) (.inl rfl) (λ b u n q=>(Heap.get?_update_other _ _ (Ne.symm n)).trans q) ⟨_,e3⟩ (Z5t e3 (by show(vs.setIfInBounds 0 _)[1]?=_;rw[Array.getElem?_setIfInBounds_ne qQ];exact h1));rw[J2t hx]at J2;exact J2
 rw[show vs[0]?=some vs[0]from Array.getElem?_eq_getElem hsz];refine wpAny_pure (wpAny_bind (wpAny_setField ex2 rfl hsz ?_));have fin:∀s',Inv X pins σ H s'->wpAny (model X.prog X.w) X.A.in1 (ret Value.none) (λ fin s'=>match fin with
   | .done f=>(match(Except.ok f:Result)with| .ok (.ret v)=>Q v s'| .ok _=>False| .error e=>X.xe e s')
   | .again c'=>c'.quiet=true/\codeAny (model X.prog X.w) X.A c' (λ r s'=>match r with| .ok (.ret v)=>Q v s'| .ok _=>False| .error e=>X.xe e s') s') (λ e s'=>X.xe e s') s':=λ s' K=>wpAny_pure (h s' K)
 split
 ·exact wpAny_letGo (fin _ J)
 ·exact wpAny_pure (fin _ J)
theorem J2O(hB:XSup X.K B)(hg:Gl X b)(hm:X.mg b=some (.ref B))(ha:PA X (e::es) t)(hd:(b==("__debug__":Z0))=false:=by decide)(hst:starEach (e::es) X.env=(false,eval e X.env)::starEach es X.env:=by rfl)(hpl:(backTo pos (starEach es X.env)).any (·.1)=false:=by rfl){pl:Sem Bool}(ht:eval (.Call (.Attribute (.Name b p) "__init__" apos) (e::es) [] pos) X.env=(do
   let ov<-eval (.Name b p) X.env
   standAt apos.atName
   let(f,first)<-holding [ov] (getMethod ov "__init__" pl)
   callWith pos f first (backTo pos (starEach (e::es) X.env)) (backToKw pos (keywordEach [] X.env))):=by rfl):PE X (.Call (.Attribute (.Name b p) "__init__" apos) (e::es) [] pos) (J5K X.K t):=by
 intro pins s σ H Q I h;refine W.methodCall_KW (pl:=pl) (Z2I I hg hm ?_ hd) ht;refine W.method_cls I.kIn hB.ga (W.cls_value I.kIn hB.rd hB.ini rfl ?_);have I1:=I.tok (s.toks+1);have hA:=ha pos pins _ σ H _ I1 h;rw[hst]at hA ⊢;refine Calls.callWith_builtin (by show(false||(backTo pos (starEach es X.env)).any (·.1))=false;rw[hpl]<;>rfl) (Calls.evalArgs_plain ?_);refine thn hA λ us s2 ⟨vs,H2,I2,r2,x,C,ini,ed,ws,ev,hx,hC,hz,q⟩=>?_;subst ev;cases r2 with
 |cons r r'=>
  obtain rfl:=(show _=Value.ref x from r);exact Z9l I2 hx hC (by rw[<-r'.length];exact hz) λ s3 I3=>⟨.non,H2,I3,rfl,q⟩
end
structure XCls(K:y0)(C:t0):Prop where
 sa:W.findIn K (.ref C) "__setattr__"=some (some (.builtin "object.__setattr__"))
 vo:W.valueOver K C=true
 hd:W.hasDictIn K C=true
 ga:W.findIn K (.ref C) "__getattribute__"=some (some (.builtin "BaseException.__getattribute__"))
 gk:W.findIn K (.ref C) "__getattr__"=some none
 hB:W.mroIn K C (.type "BaseException")=some true
 ha:W.findIn K (.ref C) "__class__"=some (some (.builtin "object.__class__"))
 hn:W.specialIn K (.builtin "object.__class__") "__get__"=some (some (.builtin "getset_descriptor.__get__"))
 tk:W.takesIn K (.builtin "object.__class__")=some true
 hm:W.mroIn K C (.type "object")=some true
def J7k(K:y0)(ta tv:TE)(f:Z0):TS:=λ D σ H=>tv σ H λ y H1=>ta σ H1 λ x H2=>∃a C,x=.ref a/\H2 a=some (excN a C none)/\XCls K C/\NoAttr K C f/\
 ∀dx,H2 dx=none->D.nx σ (upd (upd H2 a (excN a C (some dx))) dx (.xd [(f,y)]))
section
variable{X:Cx}{o e value:Expr}{f:Z0}{pos pos' tpos:Pos}{ta tv:TE}
theorem J4T(ha:PE X o ta)(hv:PE X value tv)(hs:swapsWith value (some (.Attribute o f pos')) pos.line X.env=pure false):PS X (.Assign [.Attribute o f pos'] value pos) (J7k X.K ta tv f):=by
 intro pins s σ H D I h;refine plainObj_wpAny_Assign_Attribute (thn (hv pins s σ H _ I h) λ u s1 ⟨y,H1,I1,ry,q⟩=>thn (ha pins s1 σ H1 _ I1 q) λ ov s2 ⟨x,H2,I2,rx,a,C,ex,ea,c,n,q2⟩=>?_) hs;subst ex;obtain rfl:ov=Value.ref a:=rx;obtain⟨vs,sl,ga,h1⟩:=I2.newExc ea;refine W.xset_new I2.kIn ga c.sa c.vo n.taker c.hd λ h' ns ga' kp=>?_;have fr:H2 s2.heap.objs.size=none:=I2.hok.fresh (qa0 _);refine⟨σ,_,?_,q2 _ fr⟩;have nea:s2.heap.objs.size≠a:=λ z=>by rw[z,ea]at fr;cases fr
 have na:∀b,H2 b=none->b≠a:=λ b n z=>by rw[z,ea]at n;cases n
 have hold:∀b o,H2 b=some o->(∀φ,o≠.ext φ)->upd (upd H2 a (excN a C (some s2.heap.objs.size))) s2.heap.objs.size (.xd [(f,y)]) b=some o:=λ b o q ne=>by
  rw[Z0k (Z0i q fr),Z0k]
  ·exact q
  ·rintro rfl;rw[ea]at q;cases q;exact ne _ rfl
 refine I2.un (t':=s2.toks+2) (h':=h') ⟨λ b o q n _ _=>kp b o (na b n) q,λ b o q n _ _=>⟨o.slots,kp b o (na b n) q⟩,λ b o q n _=>?_,λ b o q _=>?_,λ b xs q=>hold b _ q (λ φ z=>nomatch z),λ b o u q=>hold b _ q (λ φ z=>nomatch z),λ b ps q=>⟨#[],by simpa using hold b _ q (λ φ z=>nomatch z)⟩⟩ λ b u q=>?_
 ·rw[Z0k (λ z=>by rw[z]at q;exact absurd (Heap.lt_size q) (qb1 _)),Z0k (na b n)];exact n
 ·by_cases z:b=a
  ·rw[z];exact⟨_,ga'⟩
  ·exact⟨o,kp b o z q⟩
 ·by_cases z:b=s2.heap.objs.size
  ·subst z;rw[Z0g]at q;cases q;refine⟨_,ns,λ g=>?_⟩;by_cases q:g=f
   ·have hb:(g==f)=true:=beq_iff_eq.mpr q;simp only[qc7,hb,if_pos q];exact ry
   ·have hb:(g==f)=false:=beq_eq_false_iff_ne.mpr q;simp only[qc7,hb,if_neg q];exact True.intro
  ·rw[Z0k z]at q;by_cases z2:b=a
   ·subst z2;rw[Z0g]at q;cases q;exact Z5t ga' h1
   ·rw[Z0k z2]at q;refine(I2.hok b u q).stay (λ c v hc r=>kp c v ?_ r) (λ c r=>hold c _ r (λ φ z=>nomatch z)) λ c xs r=>hold c _ r (λ φ z=>nomatch z);rcases hc with rfl|hc
    ·exact z2
    ·intro z;rw[z,ea]at hc;cases hc
end
def J5k(C:t0)(sp:Sp)(E:St->XK)(t:TA):TS:=λ D σ H=>t σ H λ vs H1=>vs.length<=sizeLine/\∀x,H1 x=none->
 sp (.ref x::vs) (upd H1 x (excN x C none)) (λ v H2=>v=.non/\∃ed,H2 x=some (excN x C ed)/\E σ (.ref C) ed (upd H2 x (excO x C ed))) E0
section
variable{X:Cx}{E:St->XK}{k:Nat}{f C:t0}{fd:FuncData}{ps:List Z0}{sp:Sp}{c:Z0}{p cpos pos:Pos}{e:Expr}{es:List Expr}{t:TA}
theorem Z8Q(hC:xIn X.K C (some f)=true)(kp:W.keepIn X.K (.ref C)=true)(hfn:W.isFn X.K (.ref f)=true)(F:FnOk X.prog X.w X.K X.mg X.base CX0 k f fd ps sp)(hr:Room (k+1) X.A)(hb:Binds X.K fd ps [])(hg:Gl X c)(hm:X.mg c=some (.ref C))(ha:PA (X.wish (Raised X E)) (e::es) t)(hd:(c==("__debug__":Z0))=false:=by decide)(hst:starEach (e::es) X.env=(false,eval e X.env)::starEach es X.env:=by rfl)(hpl:(backTo cpos (starEach es X.env)).any (·.1)=false:=by rfl):PS (X.wish (Raised X E)) (.Raise (some (.Call (.Name c p) (e::es) [] cpos)) none pos) (J5k C sp E t):=by
 intro pins s σ H D I h;obtain ⟨nm,qn,N,bs,bm,hdct,sn,sub,ab,col,dd,k0,k1,k2,k3,k5,mN,lC,nN,hi,T⟩:=Z3k I.kIn hC;rw [arm_exec_Raise];refine wpAny_bind (wpAny_standAt ?_);show wpAny _ _ (raiseStmt X.env (some (do let v <-eval (.Call (.Name c p) (e::es) [] cpos) X.env; standAt pos; pure v)) none) _ _ _;refine Z7f (C:=C) (nm:=nm) (q:=qn) (N:=N) (bs:=bs) (bm:=bm) (hdct:=hdct) (sn:=sn) (sub:=sub) (ab:=ab) (col:=col) (dd:=dd) (k0:=k0) (k1:=k1) (k2:=k2) (k3:=k3) (k5:=k5) (newId:="ValueError.__new__") (Z4o T) hr.hd
  (wpAny_bind (thn ?_ λ v s1 z=>wpAny_bind (wpAny_standAt (wpAny_pure z))))
 refine wpAny_Call_Name_kw (Z2I I hg hm ?_ hd);refine W.callWith_K (h₀:=X.base) I.ok.mod.kin kp (thn (ha cpos pins s σ H _ I h) λ us s1 ⟨vs,H1,I1,r,hz,q⟩=>⟨I1.kIn,?_⟩) hst hpl;obtain⟨nm',qn',N',bs',bm',hdct',sn',sub',ab',col',dd',k0',k1',k2',k3',k5',mN',lC',nN',hi',T'⟩:=Z3k I1.kIn hC;have FV:=qi9;obtain⟨of,lf,hfc⟩:∃of,X.K.lookup f=some of/\of.cls=.type "function":=by
  have z:(X.K.lookup f).map (·.cls)=some (.type "function"):=beq_iff_eq.mp hfn;cases q:X.K.lookup f with
  |none=>rw[q]at z;cases z
  |some of=>rw[q]at z;exact⟨of,rfl,qd0 z⟩
 have hzu:us.length<=sizeLine:=by rw[<-r.length];exact hz
 obtain⟨hp,g,d,tk,os⟩:=s1;have fr:H1 (hp.objs.size+1)=none:=I1.hok.fresh (qf4 _);have e2:(born hp C us).get? (hp.objs.size+1)=some {cls:=.ref C,data:=.fields #[.ref hp.objs.size,.none,.none,.none,.bool false,.none]}:=Z6P;have J1:=I1.kept (t':=tk) (h':=hp.push {cls:=.type "tuple",data:=.seq us.toArray}) λ b u q=>Heap.get?_push_of_some _ q;have J:Inv (X.wish (Raised X E)) pins σ (upd H1 (hp.objs.size+1) (excN (hp.objs.size+1) C none)) ⟨born hp C us,g,d,tk,os⟩:=
  J1.laid (t':=tk) (h':=born hp C us) (λ b u q=>Heap.get?_push_of_some _ q) (qf3 (Heap.size_push _ _)) (Z5t e2 rfl)
 have hq:=q (hp.objs.size+1) fr;have r2:Vals (V.ref (hp.objs.size+1)::vs) (Value.ref (hp.objs.size+1)::us):=.cons rfl r;have hl:(Value.ref (hp.objs.size+1)::us++[]).length=ps.length:=by
  rw[qc1,<-r2.length];exact F.len _ _ _ _ hq
 refine J2B (h:=hp) FV qQ FV T' (I1.kIn _ _ lC') nN' hi' (I1.kIn _ _ lf) hfc ?_ hzu;have bt:=hb ⟨born hp C us,g,d,tk,os⟩ (Value.ref (hp.objs.size+1)::us) J.kIn hl;rw[qc1]at bt;refine codeAny_mono (F.run _ X.stack _ _ ⟨Value.ref (hp.objs.size+1)::us,[]⟩ (Value.ref (hp.objs.size+1)::us) _ _ E0 (hr.make C us []) (J.env0.make C us []) bt r2 hq) λ r s' z=>?_;cases r with
 |error e=>exact z.elim
 |ok fl=>
  cases fl with
  |ret u=>
   obtain⟨v,H',I3,rv,ev,ed,hx,hE⟩:=J.after z;subst ev;obtain⟨vs3,sl3,ex3,h3⟩:=I3.newExc hx;obtain⟨I4,F4⟩:=I3.ready hx;refine⟨rv,_,ed,vs3,sl3,rfl,I3.kIn _ _ lC,ex3,h3,?_⟩;exact⟨_,C,ed,σ,_,rfl,I4.unwish.pins_of λ p hp=>absurd hp (by simp),.inl F4,hE⟩
  |next=>exact z.elim
  |brk=>exact z.elim
  |cont=>exact z.elim
end
section
variable{P:Program}{w:U0}{H H':Hp}{h h':V0}{a:t0}{o:HO}{fs ex:List t0}
theorem ObjOk.get(x:ObjOk P w H h a o):∃u,h.get? a=some u:=by
 cases o with
 |lst xs=>obtain⟨_,_,_,_,e⟩:=x;exact⟨_,e⟩
 |tup xs=>obtain⟨_,_,_,_,e,_⟩:=x;exact⟨_,e⟩
 |dK kvs=>obtain⟨_,_,_,_,o,_,_,e,_⟩:=x;exact⟨_,e⟩
 |dT kvs=>obtain⟨_,_,_,_,o,_,_,e,_⟩:=x;exact⟨_,e⟩
 |set S n=>obtain⟨o,_,_,_,e,_⟩:=x;exact⟨_,e⟩
 |ins C dx fs=>obtain⟨_,_,_,e,_⟩:=x;exact⟨_,e⟩
 |own y=>obtain⟨_,e⟩:=x;exact⟨_,e⟩
 |xd fs=>obtain⟨_,⟨_,_,_,e,_⟩,_⟩:=x;exact⟨_,e⟩
 |rng lo hi=>obtain⟨_,_,_,e⟩:=x;exact⟨_,e⟩
 |frz ob u=>obtain⟨e,_⟩:=x;exact⟨_,e⟩
 |tbl ps=>exact⟨_,(show h.get? a=some _ from x)⟩
 |met f y=>exact⟨_,(show h.get? a=some _ from x)⟩
 |ext φ=>obtain⟨_,⟨_,e⟩,_⟩:=x;exact⟨_,e⟩
theorem HOk.freshN(x:HOk P w H h)(e:h.get? a=none):H a=none:=by
 cases q:H a with
 |none=>rfl
 |some u=>obtain⟨v,z⟩:=(x a u q).get;rw[e]at z;cases z
theorem Un.laidN(k:∀b u,h.get? b=some u->h'.get? b=some u)(hp:h.get? a=none)(hn:H a=none):Un fs ex H (upd H a o) h h' where
 keep:=λ b u q _ _ _=>k b u q
 slot:=λ b u q _ _ _=>⟨u.slots,k b u q⟩
 free:=λ b u q n _=>by rw[Z0k (λ z=>by rw[z,hp]at q;cases q)];exact n
 there:=λ b u q _=>⟨u,k b u q⟩
 tups:=λ b xs q=>by rw[Z0k (Z0i q hn)];exact q
 frzs:=λ b u xs q=>by rw[Z0k (Z0i q hn)];exact q
 tbls:=λ b ps q=>⟨#[],by rw[Z0k (Z0i q hn),q];simp⟩
theorem HOk.laidN(x:HOk P w H h)(k:∀b u,h.get? b=some u->h'.get? b=some u)(hn:H a=none)(new:ObjOk P w (upd H a o) h' a o):HOk P w (upd H a o) h':=λ b u e=>by
 by_cases hb:b=a
 ·subst hb;rw[Z0g]at e;cases e;exact new
 ·rw[Z0k hb]at e;exact(x b u e).stay (λ c v _ q=>k c v q) (λ c q=>by rw[Z0k (Z0i q hn)];exact q) λ c xs q=>by rw[Z0k (Z0i q hn)];exact q
end
def Z7H(C:t0)(E:St->XK)(t:TA):TS:=λ D σ H=>t σ H λ vs H1=>vs.length<=sizeLine/\∀x,H1 x=none->E σ (.ref C) none (upd H1 x (excO x C none))
section
variable{X:Cx}{E:St->XK}{C:t0}{c:Z0}{p cpos pos:Pos}{e:Expr}{es:List Expr}{t:TA}
theorem J0s(hC:xIn X.K C none=true)(kp:W.keepIn X.K (.ref C)=true){k:Nat}(hr:Room k X.A)(hg:Gl X c)(hm:X.mg c=some (.ref C))(ha:PA (X.wish (Raised X E)) (e::es) t)(hd:(c==("__debug__":Z0))=false:=by decide)(hst:starEach (e::es) X.env=(false,eval e X.env)::starEach es X.env:=by rfl)(hpl:(backTo cpos (starEach es X.env)).any (·.1)=false:=by rfl):PS (X.wish (Raised X E)) (.Raise (some (.Call (.Name c p) (e::es) [] cpos)) none pos) (Z7H C E t):=by
 intro pins s σ H D I h;obtain ⟨nm,qn,N,bs,bm,hdct,sn,sub,ab,col,dd,k0,k1,k2,k3,k5,mN,lC,nN,hi,T⟩:=Z3k I.kIn hC;rw [arm_exec_Raise];refine wpAny_bind (wpAny_standAt ?_);show wpAny _ _ (raiseStmt X.env (some (do let v <-eval (.Call (.Name c p) (e::es) [] cpos) X.env; standAt pos; pure v)) none) _ _ _;refine Z7f (C:=C) (nm:=nm) (q:=qn) (N:=N) (bs:=bs) (bm:=bm) (hdct:=hdct) (sn:=sn) (sub:=sub) (ab:=ab) (col:=col) (dd:=dd) (k0:=k0) (k1:=k1) (k2:=k2) (k3:=k3) (k5:=k5) (newId:="ValueError.__new__") (Z4o T) hr.hd
  (wpAny_bind (thn ?_ λ v s1 z=>wpAny_bind (wpAny_standAt (wpAny_pure z))))
 refine wpAny_Call_Name_kw (Z2I I hg hm ?_ hd);refine W.callWith_K (h₀:=X.base) I.ok.mod.kin kp (thn (ha cpos pins s σ H _ I h) λ us s1 ⟨vs,H1,I1,r,hz,q⟩=>⟨I1.kIn,?_⟩) hst hpl;obtain⟨nm',qn',N',bs',bm',hdct',sn',sub',ab',col',dd',k0',k1',k2',k3',k5',mN',lC',nN',hi',T'⟩:=Z3k I1.kIn hC;have FV:=qi9;have hzu:us.length<=sizeLine:=by rw[<-r.length];exact hz
 obtain⟨hp,g,d,tk,os⟩:=s1;refine wpAny_call_exc_subU FV qQ FV T' (I1.kIn _ _ lC') nN' hi' (λ h' x M=>?_) hzu;obtain⟨keeps,new,t',ex,_,_⟩:=M;have fr:H1 x=none:=I1.hok.freshN new;have J:Inv (X.wish (Raised X E)) pins σ (upd H1 x (excN x C none)) ⟨h',g,d,tk,os⟩:=
  I1.un (t':=tk) (Un.laidN keeps new fr) (I1.hok.laidN keeps fr (Z5t ex rfl))
 have hx:upd H1 x (excN x C none) x=some (excN x C none):=Z0g;obtain⟨I4,F4⟩:=J.ready hx;obtain⟨vs3,sl3,ex3,h3⟩:=J.newExc hx;refine⟨x,_,vs3,sl3,rfl,J.kIn _ _ lC,ex3,h3,?_⟩;rw[Z7w]at I4 F4;exact⟨_,C,none,σ,_,rfl,I4.unwish.pins_of λ p hp=>absurd hp (by simp),.inl F4,q x fr⟩
end
theorem Z7A{M:Model}{A:M0}{E:q0->X0->Prop}{h:V0}{g:Array GenState}{d:Drawn}{t:Nat}{os:OsState}{Q:Bool->X0->Prop}{e:t0}{oe:Obj}{nm q:Z0}{C N:t0}{bs bm:List q0}{hdct:Bool}{sn:List Z0}{sub:List q0}{ab:Bool}{col:Option Bool}{dd:Option t0}{k0 k1 k2 k3 k5:Option q0}{newId:String}{nm' q':Z0}{C' N':t0}{bs' bm':List q0}{hdct':Bool}{sn':List Z0}{sub':List q0}{ab':Bool}{col':Option Bool}{dd':Option t0}{k0' k1' k2' k3' k5':Option q0}{newId':String}{b:Bool}(hC:h.get? C=some (excClassObj nm q C N bs bm hdct sn sub ab col dd k0 k1 k2 k3 k5 newId))(he:h.get? e=some oe)(hcls:oe.cls=.ref C)(hB:h.get? C'=some (excClassObj nm' q' C' N' bs' bm' hdct' sn' sub' ab' col' dd' k0' k1' k2' k3' k5' newId'))(hbase:bm'.contains (.type "BaseException")=true)(hsub:(Value.ref C::bm).contains (.ref C')=b)(hq:Q b ⟨h,g,d,t,os⟩):wpAny M A (excMatches (.ref e) (.ref C')) Q E ⟨h,g,d,t,os⟩:=by
 have hcB:(Value.ref C'::bm').contains (.type "BaseException")=true:=by rw[qh2,hbase,qe5]
 have f:=tc_notTuple;unfold excMatches;repeat (first|(with_reducible refine wpAny_loadPart_at he ?_;rw[hcls])|with_reducible refine wpAny_loadPart_at hB ?_|(with_reducible refine wpAny_isSubtype_exc hB ?_;rw[hcB])|(with_reducible refine wpAny_isSubtype_exc hC ?_;rw[hsub])|wp_step)
 cases b<;>(wp_walk;exact hq)
section
variable{X:Cx}{pins:List (t0×Obj)}{σ:St}{H:Hp}{s:X0}
abbrev Cx.pinned(X:Cx)(l:List (t0×Obj)):Cx:={X with pn:=l}
theorem Cx.Ok.pinned(ok:X.Ok)(l:List (t0×Obj)):(X.pinned l).Ok:=⟨ok.mod,ok.kind,ok.glob,ok.blt,ok.above,ok.inj,ok.has,ok.cab,ok.hd,ok.frames,ok.stk,ok.exf,ok.bs,ok.bsz,ok.noex,ok.exfs,ok.funs,ok.frf⟩
theorem Inv.borne(I:Inv X pins σ H s):Inv (X.pinned (X.pn++pins)) [] σ H s:=⟨I.ok.pinned _,I.os,I.bare,I.base,I.loc,I.cell,I.free,I.freeC,λ p hp=>I.pin p (by simpa using hp),I.hok,I.len⟩
theorem Inv.unborne(ok:X.Ok)(I:Inv (X.pinned (X.pn++pins)) [] σ H s):Inv X pins σ H s:=⟨ok,I.os,I.bare,I.base,I.loc,I.cell,I.free,I.freeC,λ p hp=>I.pin p (by simpa using hp),I.hok,I.len⟩
abbrev Cx.held(X:Cx)(e:q0):Cx:={X with A:=X.A.mark (some e),calm:=false}
theorem Inv.held(I:Inv X pins σ H s)(e:q0):Inv (X.held e) pins σ H s:=
 ⟨⟨I.ok.mod,I.ok.kind,I.ok.glob,I.ok.blt,I.ok.above,I.ok.inj,I.ok.has,I.ok.cab,(λ z=>nomatch z),I.ok.frames,I.ok.stk,I.ok.exf,I.ok.bs,I.ok.bsz,I.ok.noex,I.ok.exfs,I.ok.funs,I.ok.frf⟩,I.os,I.bare,I.base,I.loc,I.cell,I.free,I.freeC,I.pin,I.hok,I.len⟩
theorem Inv.unheld(ok:X.Ok){e:q0}(I:Inv (X.held e) pins σ H s):Inv X pins σ H s:=⟨ok,I.os,I.bare,I.base,I.loc,I.cell,I.free,I.freeC,I.pin,I.hok,I.len⟩
theorem Z5B{M:Model}{A:M0}{E:q0->X0->Prop}{i:Nat}{x:Z0}{pos:Pos}{Q:Unit->X0->Prop}(I:Inv X pins σ H s)(hN:X.N.Nodup)(hi:X.N[i]?=some x)(hk:X.env.scope.names.lookup x=some .local)(h:∀s',Inv X pins (σ.set i none) H s'->Q () s'):wpAny M A (do bindName X.env x .none;unbindBehindTheSuite X.env x pos) Q E s:=by
 obtain⟨m,hn,hl⟩:=id I.loc;have hcls:(X.env.scope.kind==.class||(X.env.scope.kind==.module&&X.env.locals !=X.env.globals))=false:=by rw[I.ok.kind];rfl
 have hiσ:i<σ.length:=by rw[I.len];exact(qc6.mp hi).1
 refine wpAny_nameGoes_keeps hk hn hcls λ h' v hn' hs=>?_;have I0:=I.tok (s.toks+1);obtain⟨oL,_,_,hoL,_⟩:=id hn;have tracked:HOk X.prog X.w H h':=λ b ob e=>by
  refine(I.hok b ob e).stay (λ c w' hc q=>(hs.2 c ?_).trans q) (λ _ q=>q) λ _ _ q=>q;rintro rfl;rcases hc with rfl|hc
  ·rw[I.free]at e;cases e
  ·rw[I.free]at hc;cases hc
 refine h _ ⟨I.ok,I.os,I.bare,⟨λ b o e n hb hx=>?_,λ b o e n hb hx=>?_,I.base.free,λ b o e hx=>?_,I.base.tups,I.base.frzs,I.base.tbls⟩,⟨_,hn',λ j y v' e1 e2 e3=>?_⟩,λ y c e=>?_,I.free,I.freeC,λ p hp=>?_,tracked,by simpa using I.len⟩
 ·exact(hs.2 b (qa9 (qa5 (Heap.lt_size e) I.ok.above))).trans (I.base.keep b o e n hb hx)
 ·obtain⟨sl,e1⟩:=I.base.slot b o e n hb hx;exact⟨sl,(hs.2 b (qa9 (qa5 (Heap.lt_size e) I.ok.above))).trans e1⟩
 ·obtain⟨o',e1⟩:=I.base.there b o e hx;exact⟨o',(hs.2 b (qa9 (qa5 (Heap.lt_size e) I.ok.above))).trans e1⟩
 ·by_cases hj:j=i
  ·subst hj;rw[qh7 hiσ]at e2;cases e2
  ·rw[qh8 (Ne.symm hj)]at e2;obtain⟨u',r',q⟩:=hl j y v' e1 e2 e3;refine⟨u',r',?_⟩;rcases q with⟨k,e⟩|⟨k,c,e,z⟩
   ·refine .inl ⟨k,?_⟩;have:y≠x:=λ e=>hj (Z5X hN e1 (e▸hi));show(if y=x then v else m y)=some u';rw[if_neg this,e]
   ·exact .inr ⟨k,c,e,z.sameBut hs (I.cne y c e)⟩
 ·obtain⟨w',z⟩:=I.cell y c e;exact⟨w',z.sameBut hs (I.cne y c e)⟩
 ·obtain⟨e,n,ne,nf,d⟩:=I.pin p hp;exact⟨(hs.2 p.1 ne).trans e,n,ne,nf,d⟩
end
def tTry(K:y0)(B:t0)(tb:(St->XK)->TS)(i:Nat)(ts:t0->TS):TS:=λ D σ H=>∃E:St->XK,tb E D σ H/\
 ∀σ' a C ed H',σ'.length=σ.length->E σ' (.ref C) ed H'->H' a=some (excO a C ed)->(∃ini,xIn K C ini=true)/\W.mroIn K C (.ref B)=some true/\
  ts a {nx:=λ σ2 H2=>D.nx (σ2.set i none) H2,rt:=D.rt,bk:=λ σ2 H2=>D.bk (σ2.set i none) H2,ct:=λ σ2 H2=>D.ct (σ2.set i none) H2} (σ'.set i (some (.ref a))) H'
section
variable{X:Cx}{B:t0}{b n:Z0}{p hpos pos:Pos}{body suite:List Stmt}{b0:Stmt}{i:Nat}{tb:(St->XK)->TS}{ts:t0->TS}
theorem J5C(hs:X.stack=X.env::X.outer)(hf:X.env.frame=some X.env.locals)(hB:xIn X.K B none=true)(hg:Gl X b)(hm:X.mg b=some (.ref B))(hN:X.N.Nodup)(hi:X.N[i]?=some n)(hk:X.env.scope.names.lookup n=some .local)(hb:∀(l:List (t0×Obj))(E:St->XK),PSs ((X.pinned l).wish (Raised (X.pinned l) E)) body (tb E))(hsu:∀a,PSs (X.held (.ref a)).nox (b0::suite) (ts a))(hd:(b==("__debug__":Z0))=false:=by decide):PS X (.Try body [.ExceptHandler (some (.Name b p)) (some n) (b0::suite) hpos] [] [] pos) (tTry X.K B tb i ts):=by
 intro pins s σ H D I h;obtain⟨E,h1,h2⟩:=h;have ok:=I.ok;refine wpAny_Try_except (wpAny_mono (hb (X.pn++pins) E [] s σ H D ((I.borne).wish _) h1) (λ f s1 q=>?_) λ e s1 q=>?_)
 ·cases f with
  |next=>obtain⟨σ',H',I',q⟩:=q;exact wpAny_execs_nil ⟨σ',H',I'.unwish.unborne ok,q⟩
  |brk=>obtain⟨σ',H',I',q⟩:=q;exact⟨σ',H',I'.unwish.unborne ok,q⟩
  |cont=>obtain⟨σ',H',I',q⟩:=q;exact⟨σ',H',I'.unwish.unborne ok,q⟩
  |ret u=>obtain⟨v,σ',H',I',r,q⟩:=q;exact⟨v,σ',H',I'.unwish.unborne ok,r,q⟩
 obtain⟨a,C,ed,σ',H',rfl,I1,F1,q⟩:=q;have hx:H' a=some (excO a C ed):=by rcases F1 with F|F|F<;>exact F.1
 obtain⟨⟨ini,xC⟩,hsub,h3⟩:=h2 σ' a C ed H' (I1.len.trans I.len.symm) q hx;refine Z5N (X:=X.pinned (X.pn++pins)) I1 rfl hs hf F1 λ s2 I2 F2=>Z2P (X:=X.pinned (X.pn++pins)) I2 F2 λ s3 I3 F3=>?_;refine wpAny_handleBy_cons (codeAny_handlers_test (Z2I (X:=(X.pinned (X.pn++pins)).held (.ref a)) (I3.held (.ref a)) hg hm ?_ hd)) (λ z=>nomatch z);obtain⟨nm,qn,N,bs,bm,hdct,sn,sub,ab,col,dd,k0,k1,k2,k3,k5,mN,lC,nN,_,T⟩:=Z3k I3.kIn xC;obtain⟨nm',qn',N',bs',bm',hdct',sn',sub',ab',col',dd',k0',k1',k2',k3',k5',mN',lB,nN',_,T'⟩:=Z3k I3.kIn hB;obtain⟨vs,sl,ea⟩:=I3.anExc hx;have hs3:(Value.ref C::bm).contains (.ref B)=true:=by
  unfold W.mroIn W.clsIn at hsub;rw[show X.K.lookup C=_ from lC]at hsub;simpa using hsub
 obtain⟨hp,g,d,tk,os⟩:=s3;refine Z7A (h:=hp) (I3.kIn _ _ lC) ea rfl (I3.kIn _ _ lB) (Z4o T') hs3 ?_;refine codeAny_handlers_suite_as (Z2P (X:=X.pinned (X.pn++pins)) I3 F3 λ s4 I4 F4=>?_);refine Z3V (X:=X.pinned (X.pn++pins)) (v:=.ref a) I4 hN hi (.inl hk) rfl (λ s5 I5=>?_) (.inr hk);have I6:Inv (X.held (.ref a)).nox pins (σ'.set i (some (.ref a))) H' s5:=(((I5.unborne (X:=X) ok).held (.ref a))).wish _;refine wpAny_mono (hsu a pins s5 _ H' _ I6 h3) (λ f s6 z=>?_) λ _ _ z=>z.elim;cases f with
 |next=>
  obtain⟨σ2,H2,J,z⟩:=z;exact Z5B (J.unwish.unheld (X:=X) ok) hN hi hk λ s7 J7=>⟨_,H2,J7,z⟩
 |brk=>
  obtain⟨σ2,H2,J,z⟩:=z;exact Z5B (J.unwish.unheld (X:=X) ok) hN hi hk λ s7 J7=>⟨_,H2,J7,z⟩
 |cont=>
  obtain⟨σ2,H2,J,z⟩:=z;exact Z5B (J.unwish.unheld (X:=X) ok) hN hi hk λ s7 J7=>⟨_,H2,J7,z⟩
 |ret u=>
  obtain⟨v,σ2,H2,J,r,z⟩:=z;exact Z5B (J.unwish.unheld (X:=X) ok) hN hi hk λ s7 J7=>⟨v,_,H2,J7,r,z⟩
end
structure HasX(P:Program)(w:U0)(K:y0)(mg:Z0->Option q0)(base:V0)(k:Nat)(x:Z0)(ps:List Z0)(sp:Sp):Prop where
 ex:∃f fd,FnOk P w K mg base (CXe P w) k f fd ps sp/\Binds K fd ps []/\W.keepIn K (.ref f)=true/\mg x=some (.ref f)
structure HasMX(P:Program)(w:U0)(K:y0)(mg:Z0->Option q0)(base:V0)(k:Nat)(C:t0)(m:Z0)(ps:List Z0)(sp:Sp):Prop where
 ex:∃f fd,FnOk P w K mg base (CXe P w) k f fd ps sp/\Binds K fd ps []/\Meth K C m f
abbrev Cx.xx(X:Cx)(E:XK):Cx:=X.wish (Raised X λ _=>E)
section
variable{P:Program}{w:U0}{K:y0}{mg:Z0->Option q0}{base:V0}
theorem HasX.of{x:Z0}{st:Stmt}{N ps:List Z0}{k:Nat}{sp:Sp}(F:Fn K mg x st)(S:Z0n N ps (Z0e st))(hb:∀(kV doc pm:q0)(an:Option t0)(cdv ct:q0)(us:List q0),us.length=ps.length->bindArgs (W.fnOf x x (Z0Q st) (Z0B st) (Z0e st) .none kV doc pm an cdv ct) ⟨us,[]⟩=pure (ps.zip us))(len:∀vs H Q E,sp vs H Q E->vs.length=ps.length)(hbody:∀(f:t0)(cdv:q0)(A:M0)(outer:List Env)(s:X0)(H:Hp)(vs:List V)(Q:VK)(E:XK),Room k (A.deeper (envOfC x (Z0e st) s.heap.objs.size f cdv))->sp vs H Q E->∃t,PSs ((cxOf (CXe P w) P w K mg base N x (Z0e st) f cdv A outer s H E).xx E) (Z0B st) t/\t {nx:=λ _ H'=>Q .non H',rt:=Q} (Z3w N vs) H):HasX P w K mg base (k+1) x ps sp:=by
 obtain⟨f,fd,F,m⟩:=F.ex;exact⟨f,fd,F.okX S len λ cdv=>hbody f cdv,F.binds hb,F.kp,m⟩
theorem HasMX.of{C:t0}{m qual:Z0}{st:Stmt}{N ps:List Z0}{k:Nat}{sp:Sp}(F:MFn K C m qual st)(S:Z0n N ps (Z0e st))(hb:∀(kV doc pm:q0)(an:Option t0)(cdv ct:q0)(us:List q0),us.length=ps.length->bindArgs (W.fnOf m qual (Z0Q st) (Z0B st) (Z0e st) .none kV doc pm an cdv ct) ⟨us,[]⟩=pure (ps.zip us))(len:∀vs H Q E,sp vs H Q E->vs.length=ps.length)(hbody:∀(f:t0)(cdv:q0)(A:M0)(outer:List Env)(s:X0)(H:Hp)(vs:List V)(Q:VK)(E:XK),Room k (A.deeper (envOfC qual (Z0e st) s.heap.objs.size f cdv))->sp vs H Q E->∃t,PSs ((cxOf (CXe P w) P w K mg base N qual (Z0e st) f cdv A outer s H E).xx E) (Z0B st) t/\t {nx:=λ _ H'=>Q .non H',rt:=Q} (Z3w N vs) H):HasMX P w K mg base (k+1) C m ps sp:=by
 obtain⟨f,fd,F,mm⟩:=F.ex;exact⟨f,fd,F.okX S len λ cdv=>hbody f cdv,F.binds hb,mm⟩
end
section
variable{X:Cx}{x m:Z0}{ps:List Z0}{sp:Sp}{k j:Nat}{C:t0}{o e:Expr}{es:List Expr}{ta:TE}{t:TA}{p pos apos cpos:Pos}{E:XK}
theorem Z0p(h:HasX X.prog X.w X.K X.mg X.base k x ps sp)(hr:Room j X.A)(hk:k<=j)(hg:Gl X x)(ha:PA (X.xx E) (e::es) t)(hdb:(x==("__debug__":Z0))=false:=by decide)(he:starEach (e::es) X.env=(false,eval e X.env)::starEach es X.env:=by rfl)(hpl:(backTo pos (starEach es X.env)).any (·.1)=false:=by rfl):PE (X.xx E) (.Call (.Name x p) (e::es) [] pos) (J1H sp [] E t):=by
 obtain⟨f,fd,F,b,kp,m⟩:=h.ex;exact Z2l F (hr.mono hk) hg m kp b .nil (Raised.passes λ _ _ _ _ q=>q) ha hdb he hpl
theorem Z1c{pl:Sem Bool}(he:PE (X.xx E) o ta)(c:Cls X.K C)(h:HasMX X.prog X.w X.K X.mg X.base k C m ps sp)(hr:Room j X.A)(hk:k<=j)(ha:PA (X.xx E) (e::es) t)(hst:starEach (e::es) X.env=(false,eval e X.env)::starEach es X.env:=by rfl)(hpl:(backTo pos (starEach es X.env)).any (·.1)=false:=by rfl)(ht:eval (.Call (.Attribute o m apos) (e::es) [] pos) X.env=(do
   let ov<-eval o X.env
   standAt apos.atName
   let(f,first)<-holding [ov] (getMethod ov m pl)
   callWith pos f first (backTo pos (starEach (e::es) X.env)) (backToKw pos (keywordEach [] X.env))):=by rfl):PE (X.xx E) (.Call (.Attribute o m apos) (e::es) [] pos) (Z6q C m sp [] E ta t):=
 let⟨_,_,F,b,mm⟩:=h.ex
 λ pins s σ H Q I h'=>Z9K he.mono c mm F (hr.mono hk) b .nil (Raised.passes λ _ _ _ _ q=>q) ha hst hpl ht pins s σ H Q I ⟨_,h',λ _ _ ⟨a,e,dx,fs,h,l,r⟩=>⟨a,dx,fs,e,h,l,r⟩⟩
theorem Z0L{pl:Sem Bool}(he:PE (X.xx E) o ta)(c:Cls X.K C)(h:HasMX X.prog X.w X.K X.mg X.base k C m ps sp)(hr:Room j X.A)(hk:k<=j)(ht:eval (.Call (.Attribute o m apos) [] [] pos) X.env=(do
   let ov<-eval o X.env
   standAt apos.atName
   let(f,first)<-holding [ov] (getMethod ov m pl)
   callWith pos f first (backTo pos (starEach [] X.env)) (backToKw pos (keywordEach [] X.env))):=by rfl):PE (X.xx E) (.Call (.Attribute o m apos) [] [] pos) (Z6q C m sp [] E ta tNil):=
 let⟨_,_,F,b,mm⟩:=h.ex
 λ pins s σ H Q I h'=>Z8k he.mono c mm F (hr.mono hk) b .nil (Raised.passes λ _ _ _ _ q=>q) ht pins s σ H Q I ⟨_,h',λ _ _ ⟨a,e,dx,fs,h,l,r⟩=>⟨a,dx,fs,e,h,l,r⟩⟩
structure XOk(K:y0)(mg:Z0->Option q0)(x:Z0)(C:t0):Prop where
 mgC:mg x=some (.ref C)
 xin:xIn K C none=true
 kp:W.keepIn K (.ref C)=true
theorem Z0M(c:XOk X.K X.mg x C)(hr:Room k X.A)(hg:Gl X x)(ha:PA (X.xx E) (e::es) t)(hd:(x==("__debug__":Z0))=false:=by decide)(hst:starEach (e::es) X.env=(false,eval e X.env)::starEach es X.env:=by rfl)(hpl:(backTo cpos (starEach es X.env)).any (·.1)=false:=by rfl):PS (X.xx E) (.Raise (some (.Call (.Name x p) (e::es) [] cpos)) none pos) (Z7H C (λ _=>E) t):=J0s c.xin c.kp hr hg c.mgC ha hd hst hpl
end
theorem J4Y{C:t0}{E:St->XK}{t:TA}{D:Ends}{σ:St}{H:Hp}:Z7H C E t D σ H=t σ H λ vs H1=>vs.length<=sizeLine/\∀x,H1 x=none->E σ (.ref C) none (upd H1 x (excO x C none)):=rfl
theorem J6y{acc:Z0}{σ:St}{H:Hp}{Q:VK}:J5v acc σ H Q=(acc.length<=sizeLine/\Q (.str acc) H):=rfl
theorem J5G{te:TE}{tr:TJ}{acc:Z0}{σ:St}{H:Hp}{Q:VK}:J3t te tr acc σ H Q=te σ H λ x H1=>∃z,x=.str z/\(acc++z).length<=sizeLine/\tr (acc++z) σ H1 Q:=rfl
theorem J7h{te:TE}{σ:St}{H:Hp}{Q:VK}:tFmt te σ H Q=te σ H λ x H1=>(∃i,x=.int i/\i.natAbs.log2<1920/\Q (.str (toString i)) H1)\/(∃z:Z0,x=.str z/\z.length<=sizeLine/\Q (.str z) H1):=rfl
theorem J5Q{K:y0}{mg:Z0->Option q0}{h:V0}{x:Z0}{C:t0}(X:K.In h)(G:h.Ns mainGlobals mg)(a:W.nsIn K mainGlobals x=some (some (.ref C)))(b:xIn K C none=true)(c:W.keepIn K (.ref C)=true):XOk K mg x C:=⟨W.mg_of X G a,b,c⟩
end L2
end
section
namespace K10
abbrev Tx:=List Nat
def figs:Tx:=[48,49,50,51,52,53,54,55,56,57]
def smalls:Tx:=[97,98,99,100,101,102,103,104,105,106,107,108,109,110,111,112,113,114,115,116,117,118,119,120,121,122]
def greats:Tx:=[65,66,67,68,69,70,71,72,73,74,75,76,77,78,79,80,81,82,83,84,85,86,87,88,89,90]
def gaps:Tx:=[32,9,10]
def sgns:Tx:=[40,41,123,125,44,46,59,61,43,45,42,47,60]
def Z0v(c:Nat):Bool:=smalls.contains c||figs.contains c||greats.contains c
def isNum:Tx->Bool
 |[]=>false
 |c::r=>decide (r.length<=8)&&(if c=48 then r.isEmpty else(c::r).all λ x=>figs.contains x)
def isNm:Tx->Bool
 |[]=>false
 |c::r=>decide (r.length<=7)&&(smalls.contains c&&(c::r).all λ x=>smalls.contains x||figs.contains x)
theorem Z3E(t:Tx):(t.dropWhile Z0v).length<=t.length:=(List.dropWhile_sublist Z0v).length_le
abbrev Res:=Except Nat (List Tx)
def pre(ws:List Tx):Res->Res
 | .ok r=>.ok (ws++r)
 | .error k=>.error k
theorem J4P(r:Res):pre [] r=r:=by cases r<;>rfl
theorem J0o(a b:List Tx)(r:Res):pre a (pre b r)=pre (a++b) r:=by cases r<;>simp[pre]
def cutP:Tx->Nat->Res
 |[],_=>.ok []
 |c::r,k=>
  if gaps.contains c then cutP r (k+1)
  else if Z0v c then
   if isNum ((c::r).takeWhile Z0v)||isNm ((c::r).takeWhile Z0v)then pre [(c::r).takeWhile Z0v] (cutP (r.dropWhile Z0v) (k+((c::r).takeWhile Z0v).length))else .error k
  else if sgns.contains c then pre [[c]] (cutP r (k+1))else .error k
termination_by t=>t.length
decreasing_by
 ·simp
 ·have:=Z3E r;simp;lia
 ·simp
theorem Z5K(t:Tx):t.takeWhile Z0v++t.dropWhile Z0v=t:=List.takeWhile_append_dropWhile
open PySem
abbrev cds(x:Z0):Tx:=x.cps.toList
theorem cds_len(x:Z0):(cds x).length=x.length:=by simp[cds,Str.length]
theorem Z7n{x y:Z0}(h:cds x=cds y):x=y:=by
 obtain⟨⟨a⟩⟩:=x;obtain⟨⟨b⟩⟩:=y;have h':a=b:=h;rw[h']
theorem cds_app(x y:Z0):cds (x++y)=cds x++cds y:=by
 show(x.cps++y.cps).toList=_;rw[Array.toList_append]
theorem Z9H(x:Z0){a b:Nat}(hab:a<=b)(hb:b<=x.length):cds (Txt.slice x (some (a:Int)) (some (b:Int)))=((cds x).drop a).take (b-a):=by
 have h:=StrLaws.sliceText_nat x hab hb;have h2:Txt.slice x (some (a:Int)) (some (b:Int))=StrLaws.sliceText x (some (a:Int)) (some (b:Int)):=rfl;rw[h2,h]
theorem Z6J(c:Array Nat):∀(k:Nat)(acc:Array Nat),((qa4 k c).foldl (·++·) acc).toList=acc.toList++(qa4 k c.toList).flatten
 |0,acc=>by simp
 |k+1,acc=>by
  rw[qb9,List.foldl_cons,Z6J c k,qb9,qc8,Array.toList_append,qa8]
theorem cds_mul(x:Z0)(k:Int):cds (Txt.mul x k)=(qa4 k.toNat (cds x)).flatten:=by
 unfold Txt.mul;by_cases h1:k<1
 ·rw[if_pos h1,show k.toNat=0 by lia];rfl
 ·rw[if_neg h1];by_cases h2:(k==1||x.length==0)=true
  ·rw[if_pos h2];rcases qg1.mp h2 with h|h
   ·have:k=1:=by simpa using h
    subst this;simp[cds]
   ·have hx:(cds x).length=0:=by rw[cds_len];simpa using h
    have hx':cds x=[]:=qj0 hx;rw[hx'];simp
  ·rw[if_neg h2];show((qa4 k.toNat x.cps).foldl (·++·) #[]).toList=_;rw[Z6J];simp[cds]
end K10
end
section
namespace RR
open PySem P15
open PW (Wd Hs Pg)
open K10 (isNm isNum)
inductive Res(α:Type)where
 |ok(a:α)(n:Nat)
 |bad
 |out
def Res.bind{α β:Type}:Res α->(α->Nat->Res β)->Res β
 | .ok a n,f=>f a n
 | .bad,_=>.bad
 | .out,_=>.out
def told:List Z0:=["house","of","has","can","main","let","in","if","then","else","new","self","elder","set","not","yes","no","number","truth"]
def Z1e(x:Z0):Bool:=isNm x.cps.toList&&!told.contains x
def stren(x:Z0):Nat:=if x=";" then 1 else if x="<" then 2 else if x="=" then 2 else if x="+" then 3 else if x="-" then 3 else if x="*" then 4 else if x="/" then 4 else 0
def Z3i(x:Z0):Int:=((x.cps.toList.foldl (λ(acc c:Nat)=>acc*10+(c-48)) 0:Nat):Int)
def eqs(x:Z0):Bool:=x=="<"||x=="="
section
variable(ws:List Z0)
def ahead(n:Nat):Z0:=ws.getD n ""
def need(x:Z0)(n:Nat):Res Unit:=if ahead ws n=x then .ok () (n+1)else .bad
def needName(n:Nat):Res Z0:=if Z1e (ahead ws n)=true then .ok (ahead ws n) (n+1)else .bad
def rMore{α:Type}(item:Nat->Res α):Nat->List α->Nat->Res (List α)
 |0,_,_=>.out
 |k+1,found,n=>if ahead ws n="," then(item (n+1)).bind λ a m=>rMore item k (found++[a]) m else(need ws ")" n).bind λ _ m=>.ok found m
def rList{α:Type}(item:Nat->Res α)(n:Nat):Res (List α):=(need ws "(" n).bind λ _ m=>if ahead ws m=")" then .ok [] (m+1)else(item m).bind λ a j=>rMore ws item (ws.length+1) [a] j
structure Rr where
 T:Nat->Nat->Nat->Nat->Res Tm
 Pt:Nat->Nat->Nat->Res Tm
variable(r:Rr)
def rTerms(deep n:Nat):Res (List Tm):=(rList ws (λ m=>r.T 1 1 deep m) n).bind λ ps m=>if 8<ps.length then .bad else .ok ps m
def rOne(deep n:Nat):Res Tm:=
 let x:=ahead ws n
 if x="" then .bad
 else if isNum x.cps.toList=true then .ok (.mk .number (.int (Z3i x)) []) (n+1)
 else if x="yes" then .ok (.mk .truth (.bl true) []) (n+1)
 else if x="no" then .ok (.mk .truth (.bl false) []) (n+1)
 else if Z1e x=true then .ok (.mk .name (.str x) []) (n+1)
 else if x="self" then .ok (.mk .self .non []) (n+1)
 else if x="new" then(needName ws (n+1)).bind λ y m=>(rTerms ws r (deep+1) m).bind λ ps j=>.ok (.mk .new (.str y) ps) j
 else if x="elder" then(need ws "." (n+1)).bind λ _ i=>(needName ws i).bind λ y m=>(rTerms ws r (deep+1) m).bind λ ps j=>.ok (.mk .elder (.str y) ps) j
 else if x="(" then(r.T 1 1 deep (n+1)).bind λ t m=>(need ws ")" m).bind λ _ j=>.ok t j
 else .bad
def rPts(deep:Nat):Nat->Tm->Nat->Res Tm
 |0,_,_=>.out
 |k+1,t,n=>if ahead ws n="." then(needName ws (n+1)).bind λ x m=>
   if ahead ws m="(" then(rTerms ws r (deep+1) m).bind λ ps j=>rPts deep k (.mk .call (.str x) (t::ps)) j
   else rPts deep k (.mk .field (.str x) [t]) m
  else .ok t n
def rPointed(deep n:Nat):Res Tm:=(rOne ws r deep n).bind λ t m=>rPts ws r deep (ws.length+1) t m
def rIf(deep n:Nat):Res Tm:=(r.T 1 1 (deep+1) n).bind λ a i=>(need ws "then" i).bind λ _ i=>(r.T 1 1 (deep+1) i).bind λ b j=>(need ws "else" j).bind λ _ j=>(r.T 2 2 (deep+1) j).bind λ c m=>.ok (.mk .iff .non [a,b,c]) m
def rLet(low deep n:Nat):Res Tm:=(needName ws n).bind λ x i=>(need ws "=" i).bind λ _ i=>(r.T 1 1 (deep+1) i).bind λ a j=>(need ws "in" j).bind λ _ j=>(r.T low low (deep+1) j).bind λ b m=>.ok (.mk .lt (.str x) [a,b]) m
def rSet(deep n:Nat):Res Tm:=(rPointed ws r deep n).bind λ t i=>match t with
 | .mk .field l ps=>if ws.getD (i-1) ""=")" then .bad else(need ws "=" i).bind λ _ j=>(r.T 2 2 (deep+1) j).bind λ v m=>.ok (.mk .set l (ps++[v])) m
 |_=>.bad
def rPart(low deep n:Nat):Res Tm:=
 if 14<deep then .bad
 else if ahead ws n="not" then(r.Pt low (deep+1) (n+1)).bind λ t m=>.ok (.mk .nt .non [t]) m
 else if ahead ws n="if" then rIf ws r deep (n+1)
 else if ahead ws n="let" then rLet ws r low deep (n+1)
 else if ahead ws n="set" then rSet ws r deep (n+1)
 else rPointed ws r deep n
def rTail(least low deep:Nat):Nat->Tm->Nat->Res Tm
 |0,_,_=>.out
 |k+1,t,n=>if least<=stren (ahead ws n)then(r.T (if ahead ws n=";" then 1 else stren (ahead ws n)+1) low (deep+1) (n+1)).bind λ u m=>
   if(eqs (ahead ws n)&&eqs (ahead ws m))=true then .bad else rTail least low deep k (.mk .two (.str (ahead ws n)) [t,u]) m
  else .ok t n
def rd:Nat->Rr
 |0=>⟨λ _ _ _ _=>.out,λ _ _ _=>.out⟩
 |k+1=>⟨λ least low deep n=>(rPart ws (rd k) low deep n).bind λ t m=>rTail ws (rd k) least low deep (ws.length+1) t m,rPart ws (rd k)⟩
def rKind(n:Nat):Res Z0:=if ahead ws n="number" then .ok "number" (n+1)else if ahead ws n="truth" then .ok "truth" (n+1)else needName ws n
def rPair(n:Nat):Res (Z0×Z0):=(needName ws n).bind λ x m=>(rKind ws m).bind λ k j=>.ok (x,k) j
def rWord(k:Nat)(name:Z0)(n:Nat):Res Wd:=(rList ws (rPair ws) n).bind λ ps i=>if 4<ps.length then .bad else(rKind ws i).bind λ kd j=>(need ws "=" j).bind λ _ j=>((rd ws k).T 1 1 1 j).bind λ t m=>.ok ⟨name,ps,kd,t⟩ m
def rFields:Nat->List (Z0×Z0)->Nat->Res (List (Z0×Z0))
 |0,_,_=>.out
 |k+1,xs,n=>if ahead ws n="has" then(rPair ws (n+1)).bind λ x m=>rFields k (xs++[x]) m else .ok xs n
def rWords(kf:Nat):Nat->List Wd->Nat->Res (List Wd)
 |0,_,_=>.out
 |k+1,xs,n=>if ahead ws n="can" then(needName ws (n+1)).bind λ x i=>(rWord ws kf x i).bind λ d m=>rWords kf k (xs++[d]) m else .ok xs n
def rOf(n:Nat):Res (Option Z0):=if ahead ws n="of" then(needName ws (n+1)).bind λ y m=>.ok (some y) m else .ok none n
def rHouse(kf n:Nat):Res Hs:=(needName ws n).bind λ x i=>(rOf ws i).bind λ el i=>(need ws "{" i).bind λ _ i=>(rFields ws (ws.length+1) [] i).bind λ fs j=>if 4<fs.length then .bad else
 (rWords ws kf (ws.length+1) [] j).bind λ wds j=>if 8<wds.length then .bad else(need ws "}" j).bind λ _ m=>.ok ⟨x,el,fs,wds⟩ m
def rHouses(kf:Nat):Nat->List Hs->Nat->Res (List Hs)
 |0,_,_=>.out
 |k+1,xs,n=>if ahead ws n="house" then(rHouse ws kf (n+1)).bind λ d m=>rHouses kf k (xs++[d]) m else .ok xs n
def opens:List Z0->Int->Bool
 |[],_=>true
 |x::r,o=>let o':=if x="(" then o+1 else if x=")" then o-1 else o;if 14<o' then false else opens r o'
def bodies(p:Pg):List Tm:=(p.houses.flatMap λ h=>h.words.map (·.body))++[p.main.body]
noncomputable def rRest(kf:Nat)(hs:List Hs)(n:Nat):Res Pg:=if 12<hs.length then .bad else(need ws "main" n).bind λ _ n=>(rWord ws kf "main" n).bind λ mn n=>
 if ahead ws n≠"" then .bad else if(mn.params.all λ p=>decide (p.2="number"))=false then .bad else
 if((bodies ⟨hs,mn⟩).any λ b=>decide (14<b.depth))=true then .bad else if 400<sumS (bodies ⟨hs,mn⟩)then .bad else .ok ⟨hs,mn⟩ n
noncomputable def rProg(kf:Nat):Res Pg:=if opens ws 0=false then .bad else(rHouses ws kf (ws.length+1) [] 0).bind (rRest ws kf)
end
variable{ws:List Z0}
theorem bind_ok{α β:Type}{a:Res α}{f:α->Nat->Res β}{b:β}{m:Nat}(h:a.bind f=.ok b m):∃x i,a=.ok x i/\f x i=.ok b m:=by
 cases a with
 |ok x i=>exact⟨x,i,rfl,h⟩
 |bad=>cases h
 |out=>cases h
theorem ahead_lt{n:Nat}(h:ahead ws n≠""):n<ws.length:=by
 refine qh3 λ z=>h ?_;unfold ahead;rw[qb6,qg2 (qd4 z)];rfl
theorem need_ok{x:Z0}{n m:Nat}{u:Unit}(hx:x≠"")(h:need ws x n=.ok u m):m=n+1/\n<ws.length:=by
 unfold need at h;split at h
 ·rename_i e;cases h;exact⟨rfl,ahead_lt (by rw[e];exact hx)⟩
 ·cases h
theorem isName_ne:Z1e ""=false:=by decide+kernel
theorem stren_ne:stren ""=0:=by decide+kernel
theorem needName_ok{x:Z0}{n m:Nat}(h:needName ws n=.ok x m):m=n+1/\n<ws.length/\Z1e x=true/\x=ahead ws n:=by
 unfold needName at h;split at h
 ·rename_i e;cases h;exact⟨rfl,ahead_lt (λ z=>by rw[z,isName_ne]at e;cases e),e,rfl⟩
 ·cases h
def Gd(ws:List Z0)(n:Nat)(r:Res Tm):Prop:=∀t m,r=.ok t m->m<=ws.length/\Ok t/\n+t.size<=m
def GdL(ws:List Z0)(n:Nat)(r:Res (List Tm)):Prop:=∀ts m,r=.ok ts m->m<=ws.length/\(∀p∈ts,Ok p)/\n+sumS ts<m
theorem Z4s:∀(xs:List Tm)(t:Tm),sumS (xs++[t])=sumS xs+t.size
 |[],t=>by show t.size+0=0+t.size;lia
 |x::xs,t=>by show x.size+sumS (xs++[t])=x.size+sumS xs+t.size;rw[Z4s xs t];lia
theorem Z5g{item:Nat->Res Tm}(hi:∀n,Gd ws n (item n))(s:Nat):∀(k:Nat)(found:List Tm)(n:Nat),(∀p∈found,Ok p)->s+sumS found<=n->GdL ws s (rMore ws item k found n)
 |0,found,n,_,_=>λ ts m h=>by cases h
 |k+1,found,n,ho,hs=>λ ts m h=>by
  unfold rMore at h;split at h
  ·obtain⟨a,i,e1,h⟩:=bind_ok h;obtain⟨q1,q2,q3⟩:=hi _ _ _ e1;refine Z5g hi s k (found++[a]) i (λ p hp=>?_) (by rw[Z4s];lia) ts m h;rcases qf1.mp hp with z|z
   ·exact ho p z
   ·rw[qc2.mp z];exact q2
  ·obtain⟨a,i,e1,h⟩:=bind_ok h;obtain⟨q1,q2⟩:=need_ok qP e1;cases h;exact⟨qR,ho,qR⟩
theorem Z9o{item:Nat->Res Tm}(hi:∀n,Gd ws n (item n))(n:Nat):GdL ws n (rList ws item n):=λ ts m h=>by
 unfold rList at h;obtain⟨a,i,e1,h⟩:=bind_ok h;obtain⟨q1,q2⟩:=need_ok qP e1;split at h
 ·rename_i e;have:=ahead_lt (ws:=ws) (n:=i) (by rw[e];decide+kernel);cases h;exact⟨qR,λ p hp=>(qg3 hp).elim,by show n+0<_;lia⟩
 ·obtain⟨t,j,e2,h⟩:=bind_ok h;obtain⟨q3,q4,q5⟩:=hi _ _ _ e2;exact Z5g hi n _ [t] j (λ p hp=>by rw[qc2.mp hp];exact q4) (by show n+(t.size+0)<=j;lia) ts m h
structure RG(ws:List Z0)(r:Rr):Prop where
 T:∀least low deep n,1<=least->1<=low->Gd ws n (r.T least low deep n)
 P:∀low deep n,1<=low->Gd ws n (r.Pt low deep n)
variable{r:Rr}
theorem rTerms_good(g:RG ws r)(deep n:Nat):∀ts m,rTerms ws r deep n=.ok ts m->m<=ws.length/\(∀p∈ts,Ok p)/\n+sumS ts<m/\ts.length<=8:=λ ts m h=>by
 unfold rTerms at h;obtain⟨ps,i,e1,h⟩:=bind_ok h;split at h
 ·cases h
 ·rename_i l;cases h;obtain⟨a,b,c⟩:=Z9o (λ n=>g.T 1 1 deep n (qa0 _) (qa0 _)) n _ _ e1;exact⟨a,b,c,qd4 l⟩
theorem ok0{f:Fm}{l:Lb}(h:okF f l 0):Ok (.mk f l []):=.mk h λ p hp=>(qg3 hp).elim
theorem ok1{f:Fm}{l:Lb}{t:Tm}(h:okF f l 1)(a:Ok t):Ok (.mk f l [t]):=.mk h λ p hp=>by rw[qc2.mp hp];exact a
theorem ok2{f:Fm}{l:Lb}{t u:Tm}(h:okF f l 2)(a:Ok t)(b:Ok u):Ok (.mk f l [t,u]):=.mk h λ p hp=>by
 rcases qb4.mp hp with z|z
 ·rw[z];exact a
 ·rw[qc2.mp z];exact b
theorem sz0{f:Fm}{l:Lb}:(Tm.mk f l []).size=1:=rfl
theorem sz1{f:Fm}{l:Lb}{t:Tm}:(Tm.mk f l [t]).size=1+(t.size+0):=rfl
theorem szL{f:Fm}{l:Lb}{ts:List Tm}:(Tm.mk f l ts).size=1+sumS ts:=rfl
theorem szC{f:Fm}{l:Lb}{t:Tm}{ts:List Tm}:(Tm.mk f l (t::ts)).size=1+(t.size+sumS ts):=rfl
theorem J0J(g:RG ws r)(deep n:Nat):Gd ws n (rOne ws r deep n):=λ t m h=>by
 unfold rOne at h;dsimp only at h;split at h
 ·cases h
 rename_i ne;have hl:=ahead_lt (ws:=ws) (n:=n) ne;have fin:∀{f l},Res.ok (Tm.mk f l []) (n+1)=.ok t m->okF f l 0->m<=ws.length/\Ok t/\n+t.size<=m:=λ e ho=>by
  cases e;exact⟨qR,ok0 ho,by rw[sz0];lia⟩
 split at h
 ·exact fin h rfl
 split at h
 ·exact fin h rfl
 split at h
 ·exact fin h rfl
 split at h
 ·exact fin h rfl
 split at h
 ·exact fin h rfl
 split at h
 ·obtain⟨y,i,e1,h⟩:=bind_ok h;obtain⟨q1,q2,q3,q4⟩:=needName_ok e1;obtain⟨ps,j,e2,h⟩:=bind_ok h;obtain⟨a,b,c,d⟩:=rTerms_good g _ _ _ _ e2;cases h;exact⟨a,.mk trivial b,by rw[szL];lia⟩
 split at h
 ·obtain⟨u,i,e0,h⟩:=bind_ok h;obtain⟨q5,q6⟩:=need_ok qP e0;obtain⟨y,i',e1,h⟩:=bind_ok h;obtain⟨q1,q2,q3,q4⟩:=needName_ok e1;obtain⟨ps,j,e2,h⟩:=bind_ok h;obtain⟨a,b,c,d⟩:=rTerms_good g _ _ _ _ e2;cases h;exact⟨a,.mk trivial b,by rw[szL];lia⟩
 split at h
 ·obtain⟨u,i,e0,h⟩:=bind_ok h;obtain⟨a,b,c⟩:=g.T _ _ _ _ (qa0 _) (qa0 _) _ _ e0;obtain⟨u',i',e1,h⟩:=bind_ok h;obtain⟨q5,q6⟩:=need_ok qP e1;cases h;exact⟨qR,b,qR⟩
 ·cases h
theorem Z4j(g:RG ws r)(deep s:Nat):∀(k:Nat)(t:Tm)(n:Nat),n<=ws.length->Ok t->s+t.size<=n->Gd ws s (rPts ws r deep k t n)
 |0,_,_,_,_,_=>λ t m h=>by cases h
 |k+1,t,n,hn,ho,hs=>λ u m h=>by
  unfold rPts at h;split at h
  ·obtain⟨x,i,e1,h⟩:=bind_ok h;obtain⟨q1,q2,q3,q4⟩:=needName_ok e1;split at h
   ·obtain⟨ps,j,e2,h⟩:=bind_ok h;obtain⟨a,b,c,d⟩:=rTerms_good g _ _ _ _ e2;refine Z4j g deep s k (.mk .call (.str x) (t::ps)) j a (.mk (show 1<=ps.length+1 from Nat.succ_le_succ (qb2 _)) λ p hp=>?_) (by rw[szC];lia) u m h;rcases qb4.mp hp with z|z
    ·rw[z];exact ho
    ·exact b p z
   ·exact Z4j g deep s k (.mk .field (.str x) [t]) i qR (ok1 rfl ho) (by rw[sz1];lia) u m h
  ·cases h;exact⟨hn,ho,hs⟩
theorem rPointed_good(g:RG ws r)(deep n:Nat):Gd ws n (rPointed ws r deep n):=λ t m h=>by
 unfold rPointed at h;obtain⟨u,i,e1,h⟩:=bind_ok h;obtain⟨a,b,c⟩:=J0J g _ _ _ _ e1;exact Z4j g deep n _ u i a b c t m h
theorem Z5b(g:RG ws r)(low deep n:Nat)(hl:1<=low):Gd ws n (rPart ws r low deep n):=λ t m h=>by
 unfold rPart at h;split at h
 ·cases h
 split at h
 ·obtain⟨u,i,e1,h⟩:=bind_ok h;obtain⟨a,b,c⟩:=g.P _ _ _ hl _ _ e1;cases h;exact⟨a,ok1 rfl b,by rw[sz1];lia⟩
 split at h
 ·unfold rIf at h;obtain⟨u,i,e1,h⟩:=bind_ok h;obtain⟨a1,b1,c1⟩:=g.T _ _ _ _ (qa0 _) (qa0 _) _ _ e1;obtain⟨_,i',e1,h⟩:=bind_ok h;obtain⟨q5,q6⟩:=need_ok qP e1;obtain⟨v,j,e1,h⟩:=bind_ok h;obtain⟨a2,b2,c2⟩:=g.T _ _ _ _ (qa0 _) (qa0 _) _ _ e1;obtain⟨_,j',e1,h⟩:=bind_ok h;obtain⟨q7,q8⟩:=need_ok qP e1;obtain⟨x,k,e1,h⟩:=bind_ok h;obtain⟨a3,b3,c3⟩:=g.T _ _ _ _ qQ qQ _ _ e1;cases h;refine⟨a3,.mk rfl λ p hp=>?_,by show n+(1+(u.size+(v.size+(x.size+0))))<=m;lia⟩;rcases qb4.mp hp with z|z
  ·rw[z];exact b1
  rcases qb4.mp z with z|z
  ·rw[z];exact b2
  ·rw[qc2.mp z];exact b3
 split at h
 ·unfold rLet at h;obtain⟨x,i,e1,h⟩:=bind_ok h;obtain⟨q1,q2,q3,q4⟩:=needName_ok e1;obtain⟨_,i',e1,h⟩:=bind_ok h;obtain⟨q5,q6⟩:=need_ok qP e1;obtain⟨v,j,e1,h⟩:=bind_ok h;obtain⟨a2,b2,c2⟩:=g.T _ _ _ _ (qa0 _) (qa0 _) _ _ e1;obtain⟨_,j',e1,h⟩:=bind_ok h;obtain⟨q7,q8⟩:=need_ok qP e1;obtain⟨x',k,e1,h⟩:=bind_ok h;obtain⟨a3,b3,c3⟩:=g.T _ _ _ _ hl hl _ _ e1;cases h;exact⟨a3,ok2 rfl b2 b3,by show n+(1+(v.size+(x'.size+0)))<=m;lia⟩
 split at h
 ·unfold rSet at h;obtain⟨t',i,e1,h⟩:=bind_ok h;obtain⟨a1,b1,c1⟩:=rPointed_good g _ _ _ _ e1;split at h
  ·rename_i l ps;split at h
   ·cases h
   obtain⟨_,j',e1,h⟩:=bind_ok h;obtain⟨q7,q8⟩:=need_ok qP e1;obtain⟨v,k,e1,h⟩:=bind_ok h;obtain⟨a3,b3,c3⟩:=g.T _ _ _ _ qQ qQ _ _ e1;cases h;rw[szL]at c1;cases b1 with
   |mk o1 o2=>
   refine⟨a3,.mk ?_ λ p hp=>?_,by rw[szL,Z4s];lia⟩
   ·rw[qa2];cases l<;>first|exact o1.elim|(show _+1=2;rw[show ps.length=1 from o1])
   ·rcases qf1.mp hp with z|z
    ·exact o2 p z
    ·rw[qc2.mp z];exact b3
  ·cases h
 ·exact rPointed_good g _ _ _ _ h
theorem Z4R(g:RG ws r)(least low deep s:Nat)(h1:1<=least)(h2:1<=low):∀(k:Nat)(t:Tm)(n:Nat),n<=ws.length->Ok t->s+t.size<=n->Gd ws s (rTail ws r least low deep k t n)
 |0,_,_,_,_,_=>λ t m h=>by cases h
 |k+1,t,n,hn,ho,hs=>λ u m h=>by
  unfold rTail at h;split at h
  ·rename_i hst;obtain⟨x,i,e1,h⟩:=bind_ok h;obtain⟨a,b,c⟩:=g.T _ _ _ _ (by split<;>lia) h2 _ _ e1;split at h
   ·cases h
   ·exact Z4R g least low deep s h1 h2 k (.mk .two (.str (ahead ws n)) [t,x]) i a (ok2 rfl ho b) (by show s+(1+(t.size+(x.size+0)))<=i;lia) u m h
  ·cases h;exact⟨hn,ho,hs⟩
theorem rd_good(ws:List Z0):∀k,RG ws (rd ws k)
 |0=>⟨λ _ _ _ _ _ _ t m h=>(nomatch (show Res.out=Res.ok t m from h)),λ _ _ _ _ t m h=>(nomatch (show Res.out=Res.ok t m from h))⟩
 |k+1=>by
  have g:=rd_good ws k;refine⟨λ least low deep n h1 h2 t m h=>?_,λ low deep n h2=>Z5b g low deep n h2⟩;obtain⟨u,i,e1,h⟩:=bind_ok (show(rPart ws (rd ws k) low deep n).bind _=_ from h);obtain⟨a,b,c⟩:=Z5b g low deep n h2 _ _ e1;exact Z4R g least low deep n h1 h2 _ u i a b c t m h
end RR
end
section
namespace L2
open PySem PySem.Spec PyProof.Rows
section
variable{X:Cx}{o e f:Expr}{ty tx:TE}{apos cpos:Pos}{a:t0}{kvs:List (Key×V)}
def J0d(kvs:List (Key×V))(ty tx:TE):TE:=λ σ H Q=>ty σ H λ y H1=>tx σ H1 λ z H2=>∃k,y=kV k/\Q ((valV kvs k).getD z) H2
theorem J6f{σ:St}{H:Hp}{Q:VK}:J0d kvs ty tx σ H Q=(ty σ H λ y H1=>tx σ H1 λ z H2=>∃k,y=kV k/\Q ((valV kvs k).getD z) H2):=rfl
theorem J2D(M:Z8Y X.prog X.w X.K a kvs)(hu:X.A.units+1<cLine)(ho:PE X o (tC (.ref a)))(he:PE X e ty)(hf:PE X f tx)(m:M2 X o "get" apos e f cpos):PE X (.Call (.Attribute o "get" apos) [e,f] [] cpos) (J0d kvs ty tx):=by
 intro pins s σ H Q I h;refine wpAny_Call_method m.base m.few m.line PySem.F.plainAttrs_dict PySem.F.slot_dict_get PySem.F.type_dict_get (thn (ho pins s σ H (λ v H'=>v=.ref a/\J0d kvs ty tx σ H' Q) I ⟨rfl,h⟩) λ u s1 hz_=>?_);obtain⟨x,H1,I1,rx,ex,q1⟩:=hz_;subst ex;obtain rfl:u=Value.ref a:=rx;obtain⟨vs,rel,dd⟩:=M.of _ I1.kIn;obtain⟨od,es,ep,d1,d2,_⟩:=id dd;refine⟨dd.typeIs,?_,?_⟩
 ·intro b eb;cases eb;exact⟨od,d1,d2.2.1⟩
 rw[m.trees];refine Calls.callWith_builtin rfl (Calls.evalArgs_plain (Calls.spliced_cons (thn (he pins s1 σ H1 _ I1 q1) λ iv s2 ⟨y,H2,I2,ry,q2⟩=>Calls.spliced_cons (thn (hf pins s2 σ H2 _ I2 q2) λ fv s3 ⟨z,H3,I3,rz,k,ey,q3⟩=>Calls.spliced_nil ?_))));subst ey;obtain⟨vs,rel,dd⟩:=M.of _ I3.kIn;refine call_meetsIn PySem.F.slot_dict_get dd.typeIs PySem.F.entry_dict_get (PySem.F.args_dict_get_3 _ _ _) (meets_dict_get_default (Z2i X.prog X.w) a (J4D ry) M.ns fv) ⟨_,dd.mapOf,⟨_,H3,I3.tok _,?_,q3⟩⟩;exact(rel.val k).getD rz
end
variable{X:Cx}
def J4Q:List V->Hp->VK->Prop:=λ xs H Q=>∃(x:Z0)(n:Int),xs=[.str x]/\intText? x=some n/\x.length<=640/\Q (.int n) H
theorem J6H{xs:List V}{H:Hp}{Q:VK}:J4Q xs H Q=∃(x:Z0)(n:Int),xs=[.str x]/\intText? x=some n/\x.length<=640/\Q (.int n) H:=rfl
theorem J0G:Z3l X (.type "int") J4Q:=by
 intro pins s σ H xs us Q I r h;obtain⟨x,n,rfl,hn,hl,q⟩:=h;obtain⟨u,rfl,t,rfl⟩:=Z6Z r;exact W.KIN.call_text hn hl ⟨.int n,H,I.tok _,⟨_,rfl⟩,q⟩
theorem J2g{c:Nat}(h:K10.figs.contains c=true):48<=c/\c<=57:=by
 have h:=List.contains_iff_mem.mp h;unfold K10.figs at h;simp only[qb4,qg3,or_false]at h;omega
theorem J1U{x:Z0}(h:K10.isNum x.cps.toList=true):intText? x=some (NumText.digitsVal x.cps.toList:Int)/\x.length<=640:=by
 have hl:x.length=x.cps.toList.length:=by show x.cps.size=_;simp
 have hd:NumText.AllDigits x.cps.toList/\x.cps.toList≠[]/\x.cps.toList.length<=9:=by
  cases hx:x.cps.toList with
  |nil=>rw[hx]at h;cases h
  |cons c r=>
   rw[hx]at h;unfold K10.isNum at h;rw[qc5,decide_eq_true_eq]at h;refine⟨?_,List.cons_ne_nil _ _,by rw[qe0];lia⟩;by_cases hc:c=48
   ·rw[if_pos hc]at h;have hr:=List.isEmpty_iff.mp h.2;subst hr hc;intro d hd;rw[qc2.mp hd];decide
   ·rw[if_neg hc]at h;intro d hd;exact J2g (List.all_eq_true.mp h.2 d hd)
 exact⟨intText_digits hd.1 hd.2.1 (by rw[hl];lia),by rw[hl];lia⟩
structure ItemAt(P:Program)(w:U0)(K:y0)(mg:Z0->Option q0)(base:V0)(k:Nat)(f:t0)(sp:Sp):Prop where
 ex:∃fd ps,FnOk P w K mg base (CXe P w) k f fd ps sp/\Binds K fd ps []/\W.FnAt f base
theorem HasX.item{P:Program}{w:U0}{K:y0}{mg:Z0->Option q0}{base:V0}{k:Nat}{x:Z0}{st:Stmt}{ps:List Z0}{sp:Sp}(h:HasX P w K mg base k x ps sp)(N:Fn K mg x st)(hk:K.In base):∃f,mg x=some (.ref f)/\ItemAt P w K mg base k f sp:=by
 obtain⟨f,fd,F,b,kp,m⟩:=h.ex;obtain⟨f',fd',F',m'⟩:=N.ex;cases m.symm.trans m';obtain⟨oc,od,kV,doc,pm,an,cdv,ct,osl,rfl,lk,hcd⟩:=F'.ex;exact⟨f,m,fd,ps,F,b,_,_,_,_,hk _ _ lk⟩
theorem ItemAt.mono{P:Program}{w:U0}{K:y0}{mg:Z0->Option q0}{base:V0}{j k:Nat}{f:t0}{sp:Sp}(h:ItemAt P w K mg base j f sp)(hk:j<=k):ItemAt P w K mg base k f sp:=
 let⟨fd,ps,F,b,m⟩:=h.ex;⟨fd,ps,F.mono hk,b,m⟩
def J3B(P:Program)(w:U0)(K:y0)(mg:Z0->Option q0)(base:V0)(j:Nat)(E:XK)(tc:TE)(t:TA):TE:=λ σ H Q=>tc σ H λ v H0=>∃f sp,v=.ref f/\ItemAt P w K mg base j f sp/\t σ H0 λ vs H1=>sp vs H1 Q E
theorem J5o{P:Program}{w:U0}{K:y0}{mg:Z0->Option q0}{base:V0}{j:Nat}{E:XK}{tc:TE}{t:TA}{σ:St}{H:Hp}{Q:VK}:J3B P w K mg base j E tc t σ H Q=tc σ H λ v H0=>∃f sp,v=.ref f/\ItemAt P w K mg base j f sp/\t σ H0 λ vs H1=>sp vs H1 Q E:=rfl
section
variable{X:Cx}{x:Z0}{k j:Nat}{e:Expr}{es:List Expr}{tc:TE}{t:TA}{p pos:Pos}{E:XK}
theorem Z8b(hr:Room j X.A)(hc:PE (X.xx E) (.Name x p) tc)(ha:PA (X.xx E) (e::es) t)(he:starEach (e::es) X.env=(false,eval e X.env)::starEach es X.env:=by rfl)(hpl:(backTo pos (starEach es X.env)).any (·.1)=false:=by rfl):PE (X.xx E) (.Call (.Name x p) (e::es) [] pos) (J3B X.prog X.w X.K X.mg X.base j E tc t):=by
 intro pins s σ H Q I h;refine wpAny_Call_Name_kw (thn (hc pins s σ H _ I h) λ u s0 hz=>?_);obtain⟨v,H0,I0,rv,f,sp,ev,ia,h⟩:=hz;subst ev;obtain rfl:u=Value.ref f:=rv;obtain⟨fd,ps,F,b,oc,od,fd',sl,g⟩:=ia.ex;have at_:∀{H':Hp}{s':X0},Inv (X.xx E) pins σ H' s'->W.FnAt f s'.heap:=λ I'=>⟨oc,od,fd',sl,I'.bk _ _ g⟩;refine W.callWith_F (at_ I0) (thn (ha pos pins s0 σ H0 _ I0 h) λ us s1 hz=>?_) he hpl;obtain⟨vs,H1,I1,r,q⟩:=hz;exact⟨at_ I1,Z7Z (dvs:=[]) (ds:=[]) F hr b .nil (Raised.passes λ _ _ _ _ q=>q) I1 r (by rw[qc1];exact q)⟩
end
def tFnV(mg:Z0->Option q0)(x:Z0):TE:=λ _ H Q=>∀f,mg x=some (.ref f)->Q (.ref f) H
theorem J7L{mg:Z0->Option q0}{x:Z0}{σ:St}{H:Hp}{Q:VK}:tFnV mg x σ H Q=∀f,mg x=some (.ref f)->Q (.ref f) H:=rfl
theorem J6p{X:Cx}{x:Z0}{st:Stmt}{pos:Pos}(F:Fn X.K X.mg x st)(hg:Gl X x)(hd:(x==("__debug__":Z0))=false:=by decide):PE X (.Name x pos) (tFnV X.mg x):=by
 obtain⟨f,fd,_,m⟩:=F.ex;intro pins s σ H Q I h;exact Z4f (v:=.ref f) hg m rfl hd pins s σ H Q I (h f m)
theorem FnOk.impl{P:Program}{w:U0}{K:y0}{mg:Z0->Option q0}{base:V0}{CX:CXT}{k:Nat}{f:t0}{fd:FuncData}{ps:List Z0}{sp sp':Sp}(F:FnOk P w K mg base CX k f fd ps sp)(h:∀vs H Q E,sp' vs H Q E->sp vs H Q E):FnOk P w K mg base CX k f fd ps sp':=
 ⟨λ vs H Q E x=>F.len vs H Q E (h _ _ _ _ x),λ A outer s H args us vs Q E a b c d e=>F.run A outer s H args us vs Q E a b c d (h _ _ _ _ e)⟩
theorem ItemAt.imp{P:Program}{w:U0}{K:y0}{mg:Z0->Option q0}{base:V0}{k:Nat}{f:t0}{sp sp':Sp}(h:ItemAt P w K mg base k f sp)(i:∀vs H Q E,sp' vs H Q E->sp vs H Q E):ItemAt P w K mg base k f sp':=
 let⟨fd,ps,F,b,m⟩:=h.ex;⟨fd,ps,F.impl i,b,m⟩
def cxL(P:Program)(w:U0)(K:y0)(mg:Z0->Option q0)(base:V0)(N:List Z0)(qual:Z0)(scope:Scope)(f:t0)(cd:q0)(cl:List (Z0×t0))(A:M0)(outer:List Env)(s:X0)(H:Hp)(E:XK):Cx where
 prog:=P
 w:=w
 K:=K
 mg:=mg
 base:=base
 A:=A.deeper (W.envX qual scope s.heap.objs.size f cd cl)
 N:=N
 s₀:=s
 H₀:=H
 env:=W.envX qual scope s.heap.objs.size f cd cl
 outer:=outer
 stack:=W.envX qual scope s.heap.objs.size f cd cl::outer
 ex:=[]
 calm:=true
 fn:=λ _=>false
 pn:=[]
 xe:=λ e s'=>wpAny (model P w) (A.deeper (W.envX qual scope s.heap.objs.size f cd cl)) (leaving (W.envX qual scope s.heap.objs.size f cd cl) e) (λ _ s''=>CXe P w outer H s E e s'') (λ e' s''=>CXe P w outer H s E e' s'') s'
section
variable{P:Program}{w:U0}{K:y0}{mg:Z0->Option q0}{base:V0}{N:List Z0}{qual:Z0}{scope:Scope}{f ca c':t0}{A:M0}{outer:List Env}{s:X0}{H:Hp}{E:XK}{y z:Z0}
structure J5z(scope:Scope)(y z:Z0):Prop where
 kind:scope.kind=.function
 nocell:∀x∈scope.names,x.2≠NameKind.cell
 hy:scope.names.lookup y=some .local
 hz:scope.names.lookup z=some .free
 only:∀x,scope.names.lookup x=some .free->x=z
 co:scope.isCoroutine=false
 gen:scope.isGenerator=false
theorem J2H{z x:Z0}{c c':t0}(h:qc7 x [(z,c)]=some c'):x=z/\c'=c:=by
 rw[qb5]at h;by_cases e:x=z
 ·subst e;rw[beq_self_eq_true]at h;cases h;exact⟨rfl,rfl⟩
 ·rw[beq_eq_false_iff_ne.mpr e]at h;cases h
theorem J3k{z:Z0}{c:t0}:qc7 z [(z,c)]=some c:=by rw[qb5,beq_self_eq_true]
theorem J4w{h1:V0}{tk:Nat}{u0 u:q0}{v0 v:V}(S:J5z scope y z)(e0:Env0 P w K mg base A outer s H)(hh:A.handled=none)(hc:base.IsCell ca (some u))(r0:RelV v0 u0)(rv:RelV v u)(hk:∀b o,s.heap.get? b=some o->h1.get? b=some o)(hn:h1.Ns s.heap.objs.size (λ x=>[(y,u0)].reverse.lookup x)):Inv (cxL P w K mg base [y,z] qual scope f (.ref c') [(z,ca)] A outer s H E) [] [some v0,some v] H {s with heap:=h1,toks:=tk}:=by
 have hcs:s.heap.IsCell ca (some u):=hc.keeps λ b o e=>(e0.bs b o e).1;have hcH:H ca=none:=by obtain⟨o,e,_⟩:=hc;exact(e0.bs _ _ e).2
 refine⟨⟨e0.mod,S.kind,rfl,rfl,qa0 _,λ x z' c h1 h2=>(J2H h1).1.trans (J2H h2).1.symm,λ x hx=>?_,λ x c h=>(nomatch h),λ _=>hh,Around.frames_deeper e0.frames,.inr ⟨rfl,rfl⟩,λ b q=>(nomatch q),e0.bs,e0.bsz,λ b o e q=>(nomatch q),λ b q=>(nomatch q),e0.funs,e0.frf⟩,rfl,e0.bare,Un.kept hk,⟨_,hn,λ i x v' e1 e2 e3=>?_⟩,λ x c e=>?_,e0.hok.fresh (qa0 _),λ x c e=>?_,λ p hp=>(nomatch hp),e0.hok.kept hk,rfl⟩
 ·have hx:scope.names.lookup x=some .cell\/scope.names.lookup x=some .free:=hx;rcases hx with q|q
  ·exact absurd rfl (S.nocell _ (Z0Z q))
  ·rw[S.only x q];exact⟨ca,J3k⟩
 ·match i with
  |0=>
   cases(show some y=some x from e1);cases(show some (some v0)=some (some v')from e2);exact⟨u0,r0,.inl ⟨S.hy,(show qc7 y [(y,u0)]=some u0 by rw[qb5,beq_self_eq_true])⟩⟩
  |1=>
   cases(show some z=some x from e1);cases(show some (some v)=some (some v')from e2);exact⟨u,rv,.inr ⟨.inr S.hz,ca,J3k,hcs.keeps hk⟩⟩
  |i+2=>exact(nomatch (show none=some x from e1))
 ·rw[(J2H e).2];exact⟨_,hcs.keeps hk⟩
 ·rw[(J2H e).2];exact hcH
theorem Z9C{cl:List (Z0×t0)}{e:q0}{s':X0}(r:Raised (cxL P w K mg base N qual scope f (.ref c') cl A outer s H E) (λ _=>E) e s'):(cxL P w K mg base N qual scope f (.ref c') cl A outer s H E).xe e s':=by
 obtain⟨a,C,ed,σ,H',rfl,I,F,q⟩:=r;show wpAny _ _ (leaving _ _) _ _ _;unfold leaving;refine wpAny_bind (Z5N I rfl rfl rfl F λ s1 I1 F1=>Z2P I1 F1 λ s2 I2 F2=>?_);obtain⟨hx,vs,sl,ea,T,tb,ln⟩:=F2;exact⟨a,C,ed,H',rfl,I2.os,I2.bare,I2.base,I2.hok,hx,⟨vs,sl,ea,T,tb,ln.new,ln.free,ln.ne⟩,q⟩
theorem J5F{params:Arguments}{nm:Z0}{body:Expr}{pm ctv u:q0}{v:V}{k:Nat}{sp:Sp}(S:J5z scope y z)(hf:base.get? f=some (W.kla_obj nm qual params body scope [(z,ca)] pm c' ctv))(hc:base.IsCell ca (some u))(rv:RelV v u)(hcode:∀vs (H:Hp) Q E,sp vs H Q E->∃oc:V0->Prop,H c'=some (.ext oc)/\∀h,oc h->∃o vs t,h.get? c'=some o/\o.data=.fields vs/\vs[1]?=some (.str qual t))(len:∀vs H Q E,sp vs H Q E->vs.length=1)(hbody:∀(A:M0)(outer:List Env)(s:X0)(H:Hp)(v0:V)(Q:VK)(E:XK),Room k (A.deeper (W.envX qual scope s.heap.objs.size f (.ref c') [(z,ca)]))->sp [v0] H Q E->∃te,PE ((cxL P w K mg base [y,z] qual scope f (.ref c') [(z,ca)] A outer s H E).xx E) body te/\te [some v0,some v] H Q):FnOk P w K mg base (CXe P w) (k+1) f (W.kla_fn nm qual params body scope [(z,ca)] pm (.ref c') ctv) [y] sp:=by
 refine⟨len,λ A outer s H args us vs Q E hr e0 hb r hsp=>?_⟩;have hl:=len _ _ _ _ hsp;obtain⟨v0,rfl⟩:∃v0,vs=[v0]:=by
  match vs,hl with
  |[a],_=>exact⟨a,rfl⟩
 obtain⟨u0,rfl,r0⟩:=Z6Z r;have lim:s.heap.NoLimit:=e0.mod.nolimit.keeps λ b o e=>(e0.bs b o e).1;obtain⟨φ,hH,hφ⟩:=hcode _ _ _ _ hsp;obtain⟨o,ws,t,g1,g2,g3⟩:=hφ _ (e0.hok _ _ hH).1;refine W.kla_callFunE hr.depth (e0.bs _ _ hf).1 rfl S.co S.gen rfl ⟨c',o,ws,t,rfl,g1,g2,g3⟩ (hb _ _ _ _ ?_);refine wpAny_newFunctionEnv S.nocell (λ x hx=>?_) (λ h1 hns hsb=>?_) S.kind
 ·cases qc2.mp (show x∈[(y,u0)]from hx);exact S.hy
 have hk:∀b o,s.heap.get? b=some o->h1.get? b=some o:=λ b o e=>hsb.extBut b o (qa9 (Heap.lt_size e)) (Heap.get?_push_of_some _ e);refine⟨lim.keeps hk,W.kla_codeExpr ?_⟩;obtain⟨te,hte,hq⟩:=hbody A outer s H v0 Q E (hr.deeper _) hsp;have I:Inv (cxL P w K mg base [y,z] qual scope f (.ref c') [(z,ca)] A outer s H E) [] [some v0,some v] H {s with heap:=h1,toks:=s.toks+1}:=J4w S e0 hr.hd hc r0 rv hk hns;refine wpAny_mono (hte [] _ _ H Q (I.wish _) hq) (λ u' s' hs=>?_) λ e s' hs=>Z9C hs;obtain⟨v',H',J,rv',q⟩:=hs;exact⟨v',H',J.os,J.bare,J.base,J.hok,rv',q⟩
end
end L2
end
section
namespace TM
open PySem L2 P15 WK
structure Kq(H H':Hp):Prop where
 t:∀b xs,H b=some (.tup xs)->H' b=some (.tup xs)
 z:∀b o xs,H b=some (.frz o (.tup xs))->H' b=some (.frz o (.tup xs))
 i:∀b C dx f v fs,f≠("row":Z0)->H b=some (.ins C dx ((f,v)::fs))->H' b=some (.ins C dx ((f,v)::fs))
theorem Kq.trans{H H' H'':Hp}(a:Kq H H')(b:Kq H' H''):Kq H H'':=⟨λ _ _ h=>b.t _ _ (a.t _ _ h),λ _ _ _ h=>b.z _ _ _ (a.z _ _ _ h),λ _ _ _ _ _ _ n h=>b.i _ _ _ _ _ _ n (a.i _ _ _ _ _ _ n h)⟩
theorem Kq.of{H H':Hp}(s:Same H H'):Kq H H':=⟨λ _ _ h=>s _ _ h,λ _ _ _ h=>s _ _ h,λ _ _ _ _ _ _ _ h=>s _ _ h⟩
theorem Kq.kt{H H':Hp}(k:Kq H H'):Kt H H':=⟨k.t,k.z⟩
theorem Kq.sxl{H H':Hp}{l:t0}{xs:List V}(s:SX l H H')(h:H l=some (.lst xs)):Kq H H':=
 ⟨λ b xs e=>s _ _ (λ z=>by rw[z,h]at e;cases e) e,λ b o xs e=>s _ _ (λ z=>by rw[z,h]at e;cases e) e,λ b C' dx' f v fs' n e=>s _ _ (λ z=>by rw[z,h]at e;cases e) e⟩
structure SY(g:t0)(H H':Hp):Prop where
 k:∀b o,b≠g->(∀ps,o≠.tbl ps)->H b=some o->H' b=some o
 t:∀b ps,b≠g->H b=some (.tbl ps)->∃ps',H' b=some (.tbl ps')
theorem SY.ofx{g:t0}{H H':Hp}(s:SX g H H'):SY g H H':=⟨λ b o n _ e=>s _ _ n e,λ b ps n e=>⟨ps,s _ _ n e⟩⟩
theorem SY.of{g:t0}{H H':Hp}(s:Same H H'):SY g H H':=.ofx (SX.of s)
theorem SY.put{g:t0}{H:Hp}(o:HO):SY g H (upd H g o):=.ofx (SX.put o)
theorem SY.trans{g:t0}{H H' H'':Hp}(a:SY g H H')(b:SY g H' H''):SY g H H'':=⟨λ c o n t h=>b.k c o n t (a.k c o n t h),λ c ps n e=>let⟨ps',e'⟩:=a.t c ps n e;b.t c ps' n e'⟩
theorem SY.lst{g b:t0}{H H':Hp}{xs:List V}(s:SY g H H')(n:b≠g)(e:H b=some (.lst xs)):H' b=some (.lst xs):=s.k _ _ n (λ _ z=>by cases z) e
theorem SY.free{g b:t0}{H H':Hp}(s:SY g H H')(n:b≠g)(e:H' b=none):H b=none:=by
 cases z:H b with
 |none=>rfl
 |some o=>
  by_cases t:∃ps,o=.tbl ps
  ·obtain⟨ps,rfl⟩:=t;obtain⟨ps',y⟩:=s.t _ _ n z;rw[e]at y;cases y
  ·rw[s.k _ _ n (λ ps y=>t ⟨ps,y⟩) z]at e;cases e
theorem SY.side{g p:t0}{H H' H'':Hp}(s:SY g H H')(hp:H p=none)(x:SX p H' H''):SY g H H'':=⟨λ b o n t e=>x _ _ (Z0i e hp) (s.k _ _ n t e),λ b ps n e=>let⟨ps',e'⟩:=s.t _ _ n e;⟨ps',x _ _ (Z0i e hp) e'⟩⟩
theorem Kq.sy{H H':Hp}{g C dx:t0}{rv:V}{fs:List (Z0×V)}(s:SY g H H')(h:H g=some (.ins C dx (("row",rv)::fs))):Kq H H':=
 ⟨λ b xs e=>s.k _ _ (λ z=>by rw[z,h]at e;cases e) (λ _ z=>by cases z) e,λ b o xs e=>s.k _ _ (λ z=>by rw[z,h]at e;cases e) (λ _ z=>by cases z) e,λ b C' dx' f v fs' n e=>s.k _ _ (λ z=>by rw[z,h]at e;cases e;exact n rfl) (λ _ z=>by cases z) e⟩
section
variable{K:y0}{C:t0}{H H':Hp}
theorem Z5O:("form":Z0)≠"row":=by decide+kernel
theorem Z8m:("name":Z0)≠"row":=by decide+kernel
mutual
theorem TO.kq(k:Kq H H'):∀{v:V}{t:Tm},TO K C H v t->TO K C H' v t
 |_,_,.mk a b c d e=>.mk (k.i _ _ _ _ _ _ Z5O a) (SqT.kt b k.kt) (TOs.kq k c) (SqT.kt d k.kt) (e.kt k.kt)
theorem TOs.kq(k:Kq H H'):∀{vs:List V}{ts:List Tm},TOs K C H vs ts->TOs K C H' vs ts
 |_,_,.nil=>.nil
 |_,_,.cons h hs=>.cons (TO.kq k h) (TOs.kq k hs)
end
variable{c:CS}
theorem _root_.WK.WdO.kq(k:Kq H H'){v:V}{d:PW.Wd}(h:WdO K c H v d):WdO K c H' v d:=by
 cases h with
 |mk a b t=>exact .mk (k.i _ _ _ _ _ _ Z8m a) (b.kt k.kt) (t.kq k)
theorem _root_.WK.HsO.kq(k:Kq H H'){v:V}{d:PW.Hs}(h:HsO K c H v d):HsO K c H' v d:=by
 cases h with
 |mk a b q t=>exact .mk (k.i _ _ _ _ _ _ Z8m a) (b.kt k.kt) (SqT.kt q k.kt) (t.mono λ _ _ r=>WdO.kq k r)
end
end TM
end
section
namespace L2
open PySem PySem.Spec PyProof.Rows
open TM (SY)
def J7r:Obj:={cls:=.none,data:=.freed}
def cutH(h:V0)(p:t0->Bool):V0:={h with objs:=h.objs.mapIdx λ i o=>if p i then o else J7r}
theorem J1f{h:V0}{p:t0->Bool}:(cutH h p).objs.size=h.objs.size:=by simp[cutH]
theorem J2r{h:V0}{p:t0->Bool}{b:t0}:(cutH h p).get? b=if p b=true then h.get? b else none:=by
 unfold Heap.get? cutH;simp only[Array.getElem?_mapIdx];cases h.objs[b]? with
 |none=>
  by_cases e:p b=true
  ·rw[if_pos e];rfl
  ·rw[if_neg e];rfl
 |some o=>
  by_cases e:p b=true
  ·rw[if_pos e];simp only[Option.map_some,if_pos e]
  ·rw[if_neg e];simp only[Option.map_some,if_neg e];rfl
theorem Z3P{h base base':V0}:∀{l:List Env},h.FunFrames base l->(∀b∈frs l,base'.get? b=none)->h.FunFrames base' l
 |[],_,_=>trivial
 |env::rest,x,q=>by
  obtain⟨a,⟨L,o,b1,b2,b3,b4⟩,c⟩:=x;refine⟨a,⟨L,o,b1,q L ?_,b3,b4⟩,Z3P c λ b hb=>q b ?_⟩
  ·unfold frs;rw[qf0,b1];exact qd8
  ·unfold frs at hb ⊢;rw[qf0,b1];exact qd1 _ hb
section
variable{X:Cx}{pins:List (t0×Obj)}{σ:St}{H:Hp}{s:X0}{z:Z0}{f ca a:t0}{fo:Obj}{o:HO}
theorem Inv.adopt(I:Inv X pins σ H s)(hs:X.s₀.heap.objs.size<=a)(hn:H a=none)(nl:a≠X.env.locals)(nc:∀x c,X.env.cells.lookup x=some c->c≠a)(np:∀p∈X.pn++pins,p.1≠a)(new:ObjOk X.prog X.w (upd H a o) s.heap a o):Inv X pins σ (upd H a o) s:=by
 have old:∀b u,X.s₀.heap.get? b=some u->b≠a:=λ b u e z=>absurd (qa5 (z▸Heap.lt_size e) hs) (qb1 _);refine⟨I.ok,I.os,I.bare,⟨I.base.keep,I.base.slot,λ b u e n x=>by rw[Z0k (old b u e)];exact I.base.free b u e n x,I.base.there,λ b xs e=>?_,λ b u xs e=>?_,λ b ps e=>?_⟩,I.loc,I.cell,by rw[Z0k (Ne.symm nl)];exact I.free,λ x c e=>by rw[Z0k (nc x c e)];exact I.freeC x c e,λ p hp=>?_,I.hok.laidN (λ _ _ e=>e) hn new,I.len⟩
 ·have:=I.base.tups b xs e;rw[Z0k (λ z=>by rw[z,hn]at this;cases this)];exact this
 ·have:=I.base.frzs b u xs e;rw[Z0k (λ z=>by rw[z,hn]at this;cases this)];exact this
 ·obtain⟨m,q⟩:=I.base.tbls b ps e;exact⟨m,by rw[Z0k (λ z=>by rw[z,hn]at q;cases q)];exact q⟩
 ·obtain⟨p1,p2,p3⟩:=I.pin p hp;exact⟨p1,by rw[Z0k (np p hp)];exact p2,p3⟩
theorem Inv.env2(I:Inv X pins σ H s)(hf:(f,fo)∈pins)(hca:X.env.cells.lookup z=some ca)(hfn:X.fn z=true)(hst:X.stack=X.env::X.outer)(hfr:X.env.frame=some X.env.locals):∃base',Env0 X.prog X.w X.K X.mg base' X.A X.stack s H/\base'.get? f=some fo/\(∀o,s.heap.get? ca=some o->base'.get? ca=some o)/\(∀b o,X.base.get? b=some o->base'.get? b=some o):=by
 have e0:=I.env0;obtain⟨f1,f2,f3,f4,f5⟩:=I.pin _ (qc9 _ hf);obtain⟨cv,oc,c1,c2⟩:=I.cell _ _ hca;have c3:=I.freeC _ _ hca;have c4:=I.ok.cab _ _ hfn hca;let p:t0->Bool:=λ b=>(X.base.get? b).isSome||(b==f||b==ca)
 have get:∀b,(cutH s.heap p).get? b=if p b=true then s.heap.get? b else none:=λ b=>J2r;have inB:∀b u,X.base.get? b=some u->(cutH s.heap p).get? b=some u:=λ b u e=>by
  rw[get,if_pos (by show((X.base.get? b).isSome||_)=true;rw[e];rfl)];exact(e0.bs _ _ e).1
 have gf:(cutH s.heap p).get? f=some fo:=by
  rw[get,if_pos (by show(_||(f==f||_))=true;rw[beq_self_eq_true,Bool.true_or,qe5])];exact f1
 have gc:∀u,s.heap.get? ca=some u->(cutH s.heap p).get? ca=some u:=λ u e=>by
  rw[get,if_pos (by show(_||(_||ca==ca))=true;rw[beq_self_eq_true,qe5,qe5])];exact e
 refine⟨cutH s.heap p,⟨e0.frames,⟨e0.mod.kin.keeps inB,e0.mod.glob.keeps inB,?_,e0.mod.nolimit.keeps inB⟩,λ b u e=>?_,by rw[J1f];exact qa0 _,Z3P e0.funs λ b hb=>?_,e0.frf,e0.hok,e0.bare⟩,gf,gc,inB⟩
 ·obtain⟨mb,m1,m2⟩:=e0.mod.blt;exact⟨mb,m1.keeps inB,m2⟩
 ·rw[get]at e;split at e
  ·rename_i hp;refine⟨e,?_⟩;rcases qg1.mp hp with q|q
   ·obtain⟨u',q'⟩:=qh9.mp q;exact(e0.bs _ _ q').2
   ·rcases qg1.mp q with q|q
    ·rw[beq_iff_eq.mp q];exact f2
    ·rw[beq_iff_eq.mp q];exact c3
  ·cases e
 ·rw[get,if_neg];intro hp;rw[hst]at hb;have hb':b=X.env.locals\/b∈X.fs:=by
   unfold frs at hb;rw[qf0,hfr]at hb;exact qb4.mp hb
  rcases qg1.mp hp with q|q
  ·obtain⟨u',q'⟩:=qh9.mp q;have:=(e0.funs.mem (b:=b) (by rw[hst];exact hb)).1;rw[q']at this;cases this
  ·rcases qg1.mp q with q|q
   ·rw[beq_iff_eq.mp q]at hb';rcases hb' with y|y
    ·exact f3 y
    ·exact f4 y
   ·rw[beq_iff_eq.mp q]at hb';rcases hb' with y|y
    ·obtain⟨m,⟨ol,es,ep,l1,l2,_⟩,_⟩:=I.loc;rw[<-y,c1]at l1;cases l1;rw[c2]at l2;cases l2
    ·obtain⟨_,u',y',_⟩:=I.ok.funs.mem y;exact absurd (qa5 (Heap.lt_size y') c4) (qb1 _)
def Z4w(c:t0)(q:Z0):HO:=.ext λ h=>∃oc vs t,h.get? c=some oc/\oc.data=.fields vs/\vs[1]?=some (.str q t)
theorem Z9W{P:Program}{w:U0}{H:Hp}{h:V0}{c:t0}{q:Z0}{oc:Obj}{vs:Array q0}{t:Tok}(a:h.get? c=some oc)(b:oc.data=.fields vs)(d:vs[1]?=some (.str q t)):ObjOk P w H h c (Z4w c q):=
 ⟨⟨oc,vs,t,a,b,d⟩,⟨_,a⟩,λ h1 h2 ⟨o',v',t',x1,x2,x3⟩ k=>⟨o',v',t',k _ x1,x2,x3⟩⟩
def TbL(P:t0)(pos:Pos)(q:Z0)(H:Hp):Prop:=H P=some (.tbl #[])\/∃a b c,H P=some (.tbl #[a,b,.ref c])/\codeAmong pos [a,b,.ref c]=some (.ref c)/\TriplesOk [a,b,.ref c]/\H c=some (Z4w c q)
theorem J4b{params:Arguments}{body:Expr}{scope:Scope}{pos:Pos}{c P:t0}{clos:List (Z0×t0)}{Q:q0->X0->Prop}{E:q0->X0->Prop}(I:Inv X pins σ H s)(hb:BAt X.mg X.base)(hcode:X.env.code=.ref c)(C:W.CodeHd X.base c P)(hT:TbL P pos (X.env.qual++"<lambda>") H)(hcl:closureFor scope X.env=pure clos)(hdef:defaultsOf params X.env=([],[]))(h:∀f c' ctv pm s' H2,(∀g,SY g H H2)->TbL P pos (X.env.qual++"<lambda>") H2->H2 c'=some (Z4w c' (X.env.qual++"<lambda>"))->Inv X ((f,W.kla_obj "<lambda>" (X.env.qual++"<lambda>") params body scope clos pm c' ctv)::pins) σ H2 s'->Q (.ref f) s'):wpAny (model X.prog X.w) X.A (eval (.Lambda params body scope pos) X.env) Q E s:=by
 obtain⟨bm,o,b1,b2,b3,b4,b5,b6,b7⟩:=hb;have hg:s.heap.Ns mainGlobals X.mg:=I.mod.glob.keeps I.bk;have nP:∀{ps},H P=some (.tbl ps)->∀b ob,X.base.get? b=some ob->b≠P:=λ hP b ob e z=>by
  have:=(I.bs b ob e).2;rw[z,hP]at this;cases this
 rcases hT with hP|⟨a,b,c',hP,hca,htr,hco⟩
 ·have hP':s.heap.get? P=some (W.tabObj #[]):=I.hok P _ hP;have hgP:mainGlobals≠P:=by
   obtain⟨og,es,ep,e,_⟩:=I.mod.glob;exact nP hP _ _ e
  refine W.kla_eval hdef (W.kla_makeFunction (mg:=X.mg) hcl I.ok.glob hg hcode (C.keeps I.bk) hP' trivial rfl hgP ⟨bm,o,b1,b2,b3,nP hP _ _ b4,I.bk _ _ b4,b5,b6,b7⟩ λ c' ctv h' tk hx hge hlt hrec htb=>?_);obtain⟨c₂,oc,vs,t,e2,hoc,hd,hv⟩:=(hrec);cases e2;have cP:c'≠P:=λ z=>by
   have:=Heap.lt_size hP';rw[z]at hge;exact absurd this (Nat.not_lt.mpr hge)
  have hPs:P<h'.objs.size:=Heap.lt_size htb;have I1:Inv X pins σ (upd H P (.tbl (#[]++#[rawInt pos.line,rawInt pos.col,.ref c']))) {s with heap:=h'.push (W.kla_obj "<lambda>" (X.env.qual++"<lambda>") params body scope clos ((X.mg "__name__").getD .none) c' ctv),toks:=tk}:=
   I.grown hP (λ b ob hb e=>Heap.get?_push_of_some _ (hx b ob hb e)) (Heap.get?_push_of_some _ htb)
  have hs0:X.s₀.heap.objs.size<=c':=qa1 I.sz hge;have hL:X.env.locals<c':=qa5 I.lt hge;have hc0:H c'=none:=I.hok.fresh hge;have hc1:upd H P (.tbl (#[]++#[rawInt pos.line,rawInt pos.col,.ref c'])) c'=none:=by rw[Z0k cP];exact hc0
  have np:∀p∈X.pn++pins,p.1≠c':=λ p hp z=>by
   have:=Heap.lt_size (I.pin p hp).1;rw[z]at this;exact absurd (qa5 this hge) (qb1 _)
  have nc:∀x c,X.env.cells.lookup x=some c->c≠c':=λ x c e z=>by
   obtain⟨v,o',q,_⟩:=I.cell x c e;have:=Heap.lt_size q;rw[z]at this;exact absurd (qa5 this hge) (qb1 _)
  have I2:=I1.adopt (o:=Z4w c' (X.env.qual++"<lambda>")) hs0 hc1 (qd9 hL) nc np (Z9W (Heap.get?_push_of_some _ hoc) hd hv);have hf0:upd (upd H P (.tbl (#[]++#[rawInt pos.line,rawInt pos.col,.ref c']))) c' (Z4w c' (X.env.qual++"<lambda>")) h'.objs.size=none:=by
   rw[Z0k (qd9 hlt),Z0k (qd9 hPs)];exact I.hok.fresh (qa1 hge (qf7 hlt))
  have I3:=I2.pin1 (p:=(h'.objs.size,W.kla_obj "<lambda>" (X.env.qual++"<lambda>") params body scope clos ((X.mg "__name__").getD .none) c' ctv)) (Heap.get?_push_size _ rfl) hf0 (qa1 hs0 (qf7 hlt)) (qd9 (Nat.lt_trans hL hlt)) (λ v z=>by cases z);refine h _ _ _ _ _ _ (λ g=>⟨λ b o' n t e=>?_,λ b ps n e=>?_⟩) (.inr ⟨rawInt pos.line,rawInt pos.col,c',?_,?_,?_,Z0g⟩) Z0g I3
  ·rw[Z0k (Z0i e hc0),Z0k (λ z=>by rw[z,hP]at e;cases e;exact t _ rfl)];exact e
  ·rw[Z0k (Z0i e hc0)];by_cases hb:b=P
   ·subst hb;exact⟨_,Z0g⟩
   ·exact⟨ps,by rw[Z0k hb];exact e⟩
  ·rw[Z0k (Ne.symm cP),Z0g];rfl
  ·simp[codeAmong,rawInt]
  ·simp[TriplesOk,rawInt]
 ·have hP':s.heap.get? P=some (W.tabObj #[a,b,.ref c']):=I.hok P _ hP;refine W.kla_eval hdef (W.kla_makeFunctionHit (mg:=X.mg) hcl I.ok.glob hg hcode (C.keeps I.bk) hP' htr hca ⟨bm,o,b1,b2,b3,nP hP _ _ b4,I.bk _ _ b4,b5,b6,b7⟩ λ ctv h' tk hx hge=>?_);have I1:Inv X pins σ H {s with heap:=h'.push (W.kla_obj "<lambda>" (X.env.qual++"<lambda>") params body scope clos ((X.mg "__name__").getD .none) c' ctv),toks:=tk}:=
   I.kept λ b u q=>Heap.get?_push_of_some _ (hx b u q)
  have I3:=I1.pin1 (p:=(h'.objs.size,W.kla_obj "<lambda>" (X.env.qual++"<lambda>") params body scope clos ((X.mg "__name__").getD .none) c' ctv)) (Heap.get?_push_size _ rfl) (I.hok.fresh hge) (qa1 I.sz hge) (qd9 (qa5 I.lt hge)) (λ v z=>by cases z);exact h _ _ _ _ _ _ (λ g=>SY.of (Same.refl _)) (.inr ⟨a,b,c',hP,hca,htr,hco⟩) hco I3
end
def J6c(K:y0)(mg:Z0->Option q0)(Pt:t0)(lp:Pos)(qn:Z0)(params:Arguments)(body:Expr)(scope:Scope)(z:Z0)(i:Nat)(spB:V0->Sp)(E:XK)(te:TE):TE:=λ σ H Q=>te σ H λ v1 H1=>∃v,σ[i]?=some (some v)/\TbL Pt lp qn H1/\
 ∀(f ca c':t0)(ctv pm u:q0)(base':V0)(H2:Hp),(∀g,SY g H1 H2)->TbL Pt lp qn H2->H2 c'=some (Z4w c' qn)->Mod K mg base'->BAt mg base'->base'.get? f=some (W.kla_obj "<lambda>" qn params body scope [(z,ca)] pm c' ctv)->base'.IsCell ca (some u)->RelV v u->spB base' [v1,.ref f] H2 Q E
theorem J6S{K:y0}{mg:Z0->Option q0}{Pt:t0}{lp:Pos}{qn:Z0}{params:Arguments}{body:Expr}{scope:Scope}{z:Z0}{i:Nat}{spB:V0->Sp}{E:XK}{te:TE}{σ:St}{H:Hp}{Q:VK}:J6c K mg Pt lp qn params body scope z i spB E te σ H Q=te σ H λ v1 H1=>∃v,σ[i]?=some (some v)/\TbL Pt lp qn H1/\∀(f ca c':t0)(ctv pm u:q0)(base':V0)(H2:Hp),(∀g,SY g H1 H2)->TbL Pt lp qn H2->H2 c'=some (Z4w c' qn)->Mod K mg base'->BAt mg base'->base'.get? f=some (W.kla_obj "<lambda>" qn params body scope [(z,ca)] pm c' ctv)->base'.IsCell ca (some u)->RelV v u->spB base' [v1,.ref f] H2 Q E:=rfl
section
variable{X:Cx}{x z:Z0}{ps:List Z0}{spB:V0->Sp}{k j i:Nat}{e:Expr}{te:TE}{p pos lp:Pos}{E:XK}{params:Arguments}{body:Expr}{scope:Scope}{c Pt ca:t0}
theorem J4E(h:∀base',X.K.In base'->BAt X.mg base'->HasX X.prog X.w X.K X.mg base' k x ps (spB base'))(hKb:X.K.In X.base)(hr:Room j X.A)(hk:k<=j)(hg:Gl X x)(he:PE (X.xx E) e te)(hb:BAt X.mg X.base)(hcode:X.env.code=.ref c)(C:W.CodeHd X.base c Pt)(hN:X.N[i]?=some z)(hz:X.env.scope.names.lookup z=some .cell)(hca:X.env.cells.lookup z=some ca)(hcl:closureFor scope X.env=pure [(z,ca)])(hdef:defaultsOf params X.env=([],[]))(hfn:X.fn z=true)(hst:X.stack=X.env::X.outer)(hfr:X.env.frame=some X.env.locals)(hdb:(x==("__debug__":Z0))=false:=by decide)(hs1:starEach [e,.Lambda params body scope lp] X.env=(false,eval e X.env)::starEach [.Lambda params body scope lp] X.env:=by rfl)(hs2:starEach [.Lambda params body scope lp] X.env=(false,eval (.Lambda params body scope lp) X.env)::starEach [] X.env:=by rfl)(hpl:(backTo pos (starEach [.Lambda params body scope lp] X.env)).any (·.1)=false:=by rfl):PE (X.xx E) (.Call (.Name x p) [e,.Lambda params body scope lp] [] pos) (J6c X.K X.mg Pt lp (X.env.qual++"<lambda>") params body scope z i spB E te):=by
 intro pins s σ H Q I h';obtain⟨fl,fd,F0,b,kp,m⟩:=(h X.base hKb hb).ex;refine wpAny_Call_Name_kw (Z2I I hg m ?_ hdb);refine W.callWith_K (h₀:=X.base) I.ok.mod.kin kp ?_ hs1 hpl;rw[hs1];show wpAny _ _ (spliced ((false,eval e X.env)::backTo pos (starEach [.Lambda params body scope lp] X.env))) _ _ s;refine Calls.spliced_cons (thn (he pins s σ H _ I h') λ u1 s1 hz1=>?_);obtain⟨v1,H1,I1,r1,v,ev,hT,q⟩:=hz1;rw[hs2];show wpAny _ _ (spliced ((false,eval (.Lambda params body scope lp) X.env)::backTo pos (starEach [] X.env))) _ _ s1;refine Calls.spliced_cons (J4b (X:=X.xx E) (pos:=lp) I1 hb hcode C hT hcl hdef λ f c' ctv pm s2 H2 sy hT2 hc2 I2=>?_);refine Calls.spliced_nil ⟨I2.kIn,?_⟩;obtain⟨base',e0,gf,gc,inB⟩:=I2.env2 (z:=z) (ca:=ca) (qd8) hca hfn hst hfr;obtain⟨mm,hn,hl⟩:=I2.loc;obtain⟨u,ru,lk⟩:=hl i z v hN ev (.inr (.inl hz));have cellAt:base'.IsCell ca (some u):=by
  rcases lk with⟨y,_⟩|⟨_,cc,y,⟨oo,y1,y2⟩⟩
  ·have y:X.env.scope.names.lookup z=some .local:=y;rw[hz]at y;cases y
  ·have y:X.env.cells.lookup z=some cc:=y;rw[hca]at y;cases y;exact⟨oo,gc _ y1,y2⟩
 have hsp:=q f ca c' ctv pm u base' H2 sy hT2 hc2 e0.mod (let⟨bm,o,b1,b2,b3,b4,b5⟩:=hb;⟨bm,o,b1,b2,b3,inB _ _ b4,b5⟩) gf cellAt ru;obtain⟨fl',fd',F,b',kp',m'⟩:=(h base' e0.mod.kin (let⟨bm,o,b1,b2,b3,b4,b5⟩:=hb;⟨bm,o,b1,b2,b3,inB _ _ b4,b5⟩)).ex;cases m.symm.trans m';have r2:Vals [v1,V.ref f] [u1,Value.ref f]:=.cons r1 (.cons rfl .nil);have hl2:([u1,Value.ref f]++[]).length=ps.length:=by rw[qc1,<-r2.length];exact F.len _ _ _ _ hsp
 have bt:=b' s2 [u1,Value.ref f] I2.kIn hl2;rw[qc1]at bt;refine wpAny_call (codeAny_mono (F.run X.A X.stack s2 H2 ⟨[u1,Value.ref f],[]⟩ [u1,Value.ref f] _ Q E (hr.mono hk) e0 bt r2 hsp) λ r s' hq=>?_);cases r with
 |error e=>exact(Raised.passes (X:=X) (E:=λ _=>E) (E':=E) λ _ _ _ _ q=>q) _ σ H2 s2 e s' I2 hq
 |ok fl=>
  cases fl with
  |ret u=>
   obtain⟨v,H',J,rv,q⟩:=I2.after hq;exact⟨v,H',J.pins_of λ p hp=>J.pin p (qc9 _ (qd1 _ hp)),rv,q⟩
  |next=>exact False.elim hq
  |brk=>exact False.elim hq
  |cont=>exact False.elim hq
end
structure FnC(K:y0)(mg:Z0->Option q0)(x:Z0)(st:Stmt)(c:t0):Prop where
 ex:∃f oc od kV doc pm an ct osl,K.lookup f=some ⟨oc,od,.func (W.fnOf x x (Z0Q st) (Z0B st) (Z0e st) .none kV doc pm an (.ref c) ct),osl⟩/\W.codeIn K (.ref c) x=true/\W.keepIn K (.ref f)=true/\mg x=some (.ref f)
theorem HasX.ofC{P:Program}{w:U0}{K:y0}{mg:Z0->Option q0}{base:V0}{x:Z0}{st:Stmt}{N ps:List Z0}{k:Nat}{sp:Sp}{c:t0}(F:FnC K mg x st c)(S:Z0n N ps (Z0e st))(hb:∀(kV doc pm:q0)(an:Option t0)(cdv ct:q0)(us:List q0),us.length=ps.length->bindArgs (W.fnOf x x (Z0Q st) (Z0B st) (Z0e st) .none kV doc pm an cdv ct) ⟨us,[]⟩=pure (ps.zip us))(len:∀vs H Q E,sp vs H Q E->vs.length=ps.length)(hbody:∀(f:t0)(A:M0)(outer:List Env)(s:X0)(H:Hp)(vs:List V)(Q:VK)(E:XK),Room k (A.deeper (envOfC x (Z0e st) s.heap.objs.size f (.ref c)))->sp vs H Q E->∃t,PSs ((cxOf (CXe P w) P w K mg base N x (Z0e st) f (.ref c) A outer s H E).xx E) (Z0B st) t/\t {nx:=λ _ H'=>Q .non H',rt:=Q} (Z3w N vs) H):HasX P w K mg base (k+1) x ps sp:=by
 obtain⟨f,oc,od,kV,doc,pm,an,ct,osl,lk,hcd,kp,m⟩:=F.ex;refine⟨f,_,J4F lk hcd S len λ A outer s H vs Q E hr hsp=>?_,(Z8r lk hcd kp).binds hb,kp,m⟩;obtain⟨t,h,q⟩:=hbody f A outer s H vs Q E hr hsp;exact⟨t,λ pins s1 σ H1 D I hw=>wpAny_mono (h pins s1 σ H1 D (I.wish _) hw) (λ _ _ z=>z.unwish) λ e s2 z=>Z8N z,q⟩
def J4f(K:y0):List V->Hp->VK->Prop:=λ xs H Q=>∃(p:t0)(ys:List Bool),xs=[.ref p]/\SqL K H p (ys.map V.bl)/\Q (.bl (ys.any id)) H
theorem J6Q{K:y0}{xs:List V}{H:Hp}{Q:VK}:J4f K xs H Q=∃(p:t0)(ys:List Bool),xs=[.ref p]/\SqL K H p (ys.map V.bl)/\Q (.bl (ys.any id)) H:=rfl
theorem Z5u(ys:List Bool):(qd5 ys.length).any (λ i=>ys.getD i false)=ys.any id:=by
 rw[(qf2),List.any_eq_true,List.any_eq_true];constructor
 ·rintro⟨i,hi,h⟩;have hi':=qe9.mp hi;rw[qb6,qa7 hi']at h;exact⟨_,List.getElem_mem hi',h⟩
 ·rintro⟨y,hy,h⟩;obtain⟨i,hi,e⟩:=qi7 hy;refine⟨i,qe9.mpr hi,?_⟩;rw[(qb6),qa7 hi];show ys[i]=true;rw[e];exact h
theorem J2L{X:Cx}(hc:X.calm=true):Z3l X (.builtin "any") (J4f X.K):=by
 intro pins s σ H xs us Q I r h;obtain⟨p,ys,rfl,hq,q⟩:=h;obtain⟨u,rfl,ru⟩:=r.one;cases ru;obtain⟨its,rv,pl,hz⟩:=I.list hq;obtain⟨o,ho,_,_,_⟩:=id pl.isList;have hne:p≠s.heap.objs.size:=qa9 (Heap.lt_size ho);have hl:=rv.length;rw[qb0]at hl;refine call_any_walk (wpAny_pyIter_list pl.isList ?_);refine⟨s.heap.objs.size,_,_,_,_,_,λ i=>ys.getD i false,rfl,Walks.list (A:=X.A.in1) (show X.A.in1.handled=none from I.ok.hd hc) _ p hne its.toArray,⟨⟨_,Heap.get?_push_size _ rfl,rfl,rfl⟩,pl.isList.at λ o e=>Heap.get?_push_of_some _ e⟩,λ i v s1 Q1 E1 hv hq1=>?_,λ h' tk kk=>?_⟩
 ·have hv':its[i]?=some v:=by simpa using hv
  have hi:i<ys.length:=by
   have:=(qc6.mp hv').1;lia
  obtain⟨u',e',r'⟩:=rv.get (i:=i) (x:=V.bl ys[i]) (by rw[qc4,qa7 hi];rfl);rw[hv']at e';cases e';cases(show _=Value.bool ys[i]from r');refine wpAny_truthy_bool ?_;dsimp only at hq1;rw[qb6,qa7 hi]at hq1;exact hq1
 ·have e:(qd5 its.toArray.size).any (λ i=>ys.getD i false)=ys.any id:=by
   rw[qa6,<-hl];exact Z5u ys
  refine⟨.bl (ys.any id),H,I.kept λ b o e=>kk b o (λ z=>?_) (Heap.get?_push_of_some _ e),by rw[e];rfl,q⟩;have z':b=s.heap.objs.size:=by simpa using z
  exact absurd (Heap.lt_size e) (by rw[z'];exact qb1 _)
def J3j(K:y0):List V->Hp->VK->Prop:=λ xs H Q=>∃a c cv C b,xs=[.ref a,c]/\clsV c=some cv/\H a=some (excO a C none)/\XCls K C/\W.kitOne K (.ref C) cv=some b/\Q (.bl b) H
theorem J5X{K:y0}{xs:List V}{H:Hp}{Q:VK}:J3j K xs H Q=∃a c cv C b,xs=[.ref a,c]/\clsV c=some cv/\H a=some (excO a C none)/\XCls K C/\W.kitOne K (.ref C) cv=some b/\Q (.bl b) H:=rfl
section
variable{X:Cx}
theorem Z1T:Z3l X (.builtin "isinstance") (J3j X.K):=by
 intro pins s σ H xs us Q I rs h;obtain⟨a,c,cv,C,b,rfl,hc,ea,cl,e,q⟩:=h;obtain⟨u,v,rfl,ru,rv⟩:=rs.two;rw[Z8u hc rv];obtain rfl:u=Value.ref a:=ru;obtain⟨vs,sl,ga⟩:=I.anExc ea;exact W.kia_one (W.kitx_exc cl.hd cl.ga cl.gk cl.hB cl.ha cl.hn cl.tk cl.hm) I.kIn ⟨_,none,⟨ga,rfl,rfl,trivial⟩⟩ e (λ z=>nomatch z) λ tk=>⟨.bl b,H,I.tok tk,rfl,q⟩
end
end L2
end
section
namespace K10
def Ws(t:Tx)(ws:List Tx):Prop:=∀k,cutP t k=.ok ws
def Sep(t:Tx):Prop:=t=[]\/∃g r,t=g::r/\gaps.contains g=true
theorem J4K{g:Nat}(h:gaps.contains g=true):Z0v g=false:=by
 have h:=List.contains_iff_mem.mp h;unfold gaps at h;simp only[qb4,qg3,or_false]at h;rcases h with rfl|rfl|rfl<;>decide+kernel
theorem Sep.row{t:Tx}(h:Sep t):t.takeWhile Z0v=[]/\t.dropWhile Z0v=t:=by
 rcases h with rfl|⟨g,r,rfl,hg⟩
 ·exact⟨rfl,rfl⟩
 ·rw[qf6,qh4,J4K hg];exact⟨rfl,rfl⟩
theorem Z8z{b:Tx}(hb:Sep b):∀a:Tx,(a++b).takeWhile Z0v=a.takeWhile Z0v
 |[]=>hb.row.1
 |c::r=>by
  rw[List.cons_append,qf6,qf6,Z8z hb r]
theorem Z8j{b:Tx}(hb:Sep b):∀a:Tx,(a++b).dropWhile Z0v=a.dropWhile Z0v++b
 |[]=>hb.row.2
 |c::r=>by
  rw[List.cons_append,qh4,qh4,Z8j hb r];split<;>rfl
theorem Z7L{ws:List Tx}{r:Res}{us:List Tx}(h:pre ws r=.ok us):∃vs,r=.ok vs/\us=ws++vs:=by
 cases r with
 |ok vs=>cases h;exact⟨vs,rfl,rfl⟩
 |error k=>cases h
theorem Z5G{b:Tx}{wb:List Tx}(hb:Sep b)(wB:Ws b wb):∀(n:Nat)(a:Tx)(k:Nat)(wa:List Tx),a.length<=n->cutP a k=.ok wa->cutP (a++b) k=.ok (wa++wb)
 |n,[],k,wa,_,h=>by
  rw[cutP]at h;cases h;exact wB k
 |0,c::r,k,wa,hn,_=>by cases hn
 |n+1,c::r,k,wa,hn,h=>by
  have hr:r.length<=n:=qd7 hn;rw[List.cons_append,cutP];rw[cutP]at h;have e1:(c::(r++b)).takeWhile Z0v=(c::r).takeWhile Z0v:=Z8z hb (c::r);rw[e1,Z8j hb r];split at h
  ·rename_i hg;rw[if_pos hg];exact Z5G hb wB n r (k+1) wa hr h
  ·rename_i hg;rw[if_neg hg];split at h
   ·rename_i hc;rw[if_pos hc];split at h
    ·rename_i hw;rw[if_pos hw];obtain⟨vs,e,rfl⟩:=Z7L h;rw[Z5G hb wB n _ _ vs (qa1 (Z3E r) hr) e];show Except.ok _=_;rw[qa8]
    ·cases h
   ·rename_i hc;rw[if_neg hc];split at h
    ·rename_i hw;rw[if_pos hw];obtain⟨vs,e,rfl⟩:=Z7L h;rw[Z5G hb wB n r (k+1) vs hr e];rfl
    ·cases h
theorem Ws.app{a b:Tx}{wa wb:List Tx}(hb:Sep b)(hA:Ws a wa)(hB:Ws b wb):Ws (a++b) (wa++wb):=λ k=>Z5G hb hB _ a k wa (qa0 _) (hA k)
theorem Ws.gap{b:Tx}{wb:List Tx}{g:Nat}(hg:gaps.contains g=true)(h:Ws b wb):Ws (g::b) wb:=λ k=>by
 rw[cutP,if_pos hg];exact h (k+1)
theorem ws_nil:Ws [] []:=λ k=>by rw[cutP]
theorem Sep.gap{b:Tx}{g:Nat}(hg:gaps.contains g=true):Sep (g::b):=.inr ⟨g,b,rfl,hg⟩
theorem Ws.appG{a b:Tx}{wa wb:List Tx}(hA:Ws a wa)(hB:Ws b wb):Ws (a++(32::b)) (wa++wb):=Ws.app (Sep.gap qQ) hA (Ws.gap qQ hB)
theorem sep_rep{p:Tx}(hp:Sep p)(hb:Sep b):∀n,Sep ((qa4 n p).flatten++b)
 |0=>hb
 |n+1=>by
  rw[qb9,qc8,qa8];rcases hp with rfl|⟨g,r,rfl,hg⟩
  ·exact sep_rep (.inl rfl) hb n
  ·exact .inr ⟨g,_,rfl,hg⟩
theorem Ws.rep{p b:Tx}{wp wb:List Tx}(hp:Sep p)(hP:Ws p wp)(hb:Sep b)(hB:Ws b wb):∀n,Ws ((qa4 n p).flatten++b) ((qa4 n wp).flatten++wb)
 |0=>hB
 |n+1=>by
  rw[qb9,qc8,qa8,qb9,qc8,qa8];exact Ws.app (sep_rep hp hb n) hP (Ws.rep hp hP hb hB n)
theorem Ws.repG{p b:Tx}{wp wb:List Tx}(hP:Ws p wp)(hB:Ws b wb):∀n,Ws ((qa4 n (p++[32])).flatten++b) ((qa4 n wp).flatten++wb)
 |0=>hB
 |n+1=>by
  rw[qb9,qc8,qa8,qa8,qb9,qc8,qa8];exact Ws.appG hP (Ws.repG hP hB n)
theorem cut_few:∀(n:Nat)(a:Tx)(k:Nat)(wa:List Tx),a.length<=n->cutP a k=.ok wa->wa.length<=a.length/\∀w∈wa,w.length<=a.length
 |n,[],k,wa,_,h=>by
  rw[cutP]at h;cases h;exact⟨qa0 _,λ w hw=>(qg3 hw).elim⟩
 |0,c::r,k,wa,hn,_=>by cases hn
 |n+1,c::r,k,wa,hn,h=>by
  have hr:r.length<=n:=qd7 hn;rw[cutP]at h;rw[qe0];split at h
  ·obtain⟨q1,q2⟩:=cut_few n r (k+1) wa hr h;exact⟨qR,λ w hw=>Nat.le_succ_of_le (q2 w hw)⟩
  split at h
  ·split at h
   ·obtain⟨vs,e,rfl⟩:=Z7L h;have hd:=Z3E r;obtain⟨q1,q2⟩:=cut_few n _ _ vs (qa1 hd hr) e;refine⟨by rw[qa2];show 1+_<=_;lia,λ w hw=>?_⟩;rcases qf1.mp hw with z|z
    ·rw[qc2.mp z];exact(qj1 Z0v).length_le
    ·exact qa1 (q2 w z) qR
   ·cases h
  split at h
  ·obtain⟨vs,e,rfl⟩:=Z7L h;obtain⟨q1,q2⟩:=cut_few n r (k+1) vs hr e;refine⟨by rw[qa2];show 1+_<=_;lia,λ w hw=>?_⟩;rcases qf1.mp hw with z|z
   ·rw[qc2.mp z];exact Nat.succ_le_succ (qb2 _)
   ·exact Nat.le_succ_of_le (q2 w z)
  ·cases h
end K10
end
section
namespace RR
open PySem P15
open PW (Wd Hs Pg)
def rp{α:Type}(n:Nat)(x:List α):List α:=(qa4 n x).flatten
def hdW:List Z0:=["main","(",")","number","="]
def famW:Nat->Nat->List Z0
 |0,n=>(["1"]:List Z0)++rp n (["+","a"]:List Z0)
 |1,n=>rp n (["a",";"]:List Z0)++(["yes"]:List Z0)
 |2,n=>(["a"]:List Z0)++rp n ([".","b"]:List Z0)
 |3,n=>rp n (["not"]:List Z0)++(["yes"]:List Z0)
 |4,n=>rp n (["if","yes","then","1","else"]:List Z0)++(["2"]:List Z0)
 |5,n=>rp n (["let","b","=","0","in"]:List Z0)++(["b"]:List Z0)
 |6,n=>rp n (["set","a",".","b","="]:List Z0)++(["self"]:List Z0)
 |7,n=>rp n (["new","h","("]:List Z0)++((["3"]:List Z0)++rp n ([")"]:List Z0))
 |8,n=>rp n (["elder",".","w","("]:List Z0)++((["a"]:List Z0)++rp n ([")"]:List Z0))
 |9,n=>rp n (["a",".","w","("]:List Z0)++((["no"]:List Z0)++rp n ([")"]:List Z0))
 |10,n=>rp (n+1) (["("]:List Z0)++((["1"]:List Z0)++rp (n+1) ([")"]:List Z0))
 |11,n=>rp n (["if"]:List Z0)++((["yes"]:List Z0)++rp n (["then","1","else","2"]:List Z0))
 |12,n=>rp n (["if","yes","then"]:List Z0)++((["1"]:List Z0)++rp n (["else","2"]:List Z0))
 |13,n=>rp n (["let","a","="]:List Z0)++((["1"]:List Z0)++rp n (["in","2"]:List Z0))
 |14,n=>(["set","a"]:List Z0)++(rp (n+1) ([".","b"]:List Z0)++(["=","1"]:List Z0))
 |_,n=>(["a"]:List Z0)++rp n ([".","w","(",")"]:List Z0)
def famN:Nat->Nat->Nat×Nat×Nat
 |0,n=>(n+1,2*n+1,0)
 |1,n=>(n+1,2*n+1,0)
 |2,n=>(n+1,n+1,0)
 |3,n=>(n+1,n+1,0)
 |4,n=>(n+1,3*n+1,0)
 |5,n=>(n+1,2*n+1,0)
 |6,n=>(n+1,2*n+1,0)
 |7,n=>(n+1,n+1,n)
 |8,n=>(n+1,n+1,n)
 |9,n=>(n+1,2*n+1,n)
 |10,n=>(1,1,n+1)
 |11,n=>(n+1,3*n+1,0)
 |12,n=>(n+1,3*n+1,0)
 |13,n=>(n+1,2*n+1,0)
 |14,n=>(n+2,n+3,0)
 |_,n=>(n+1,n+1,1)
noncomputable def chk(wy n:Nat):Bool:=match rProg (hdW++famW wy n) 17 with
 | .ok p _=>decide ((famN wy n).1<=14)&&decide ((famN wy n).2.2<=14)&&decide (p.main.body.depth=(famN wy n).1)&&decide (p.main.body.size=(famN wy n).2.1)
 | .bad=>decide (14<(famN wy n).1)||decide (14<(famN wy n).2.2)
 | .out=>false
theorem chk_all:∀wy<16,∀n<16,chk wy n=true:=by decide+kernel
theorem Z2j{α:Type}(n:Nat)(x:List α):rp (n+1) x=x++rp n x:=by
 unfold rp;rw[(qb9),qc8]
theorem rp_add{α:Type}(x:List α)(b:Nat):∀a,rp (a+b) x=rp a x++rp b x
 |0=>by rw[Nat.zero_add];rfl
 |a+1=>by rw[show a+1+b=(a+b)+1 by lia,Z2j,Z2j,rp_add x b a,qa8]
noncomputable def body(ws:List Z0):Res Pg:=(rHouses ws 17 (ws.length+1) [] 0).bind (rRest ws 17)
def Z3b{α:Type}:Res α->Bool
 | .bad=>true
 |_=>false
theorem J5f{α:Type}{r:Res α}(h:Z3b r=true):r=.bad:=by
 cases r with
 |bad=>rfl
 |ok a n=>cases h
 |out=>cases h
theorem prog_bad{ws:List Z0}(h:Z3b (body ws)=true):rProg ws 17=.bad:=by
 unfold rProg;split
 ·rfl
 ·exact J5f h
theorem prog_open{ws:List Z0}(h:opens ws 0=false):rProg ws 17=.bad:=by
 unfold rProg;rw[if_pos h]
theorem big1(t:List Z0):Z3b (body (hdW++(rp 15 (["a",";"]:List Z0)++t)))=true:=by with_unfolding_all rfl
theorem big3(t:List Z0):Z3b (body (hdW++(rp 15 (["not"]:List Z0)++t)))=true:=by with_unfolding_all rfl
theorem big4(t:List Z0):Z3b (body (hdW++(rp 15 (["if","yes","then","1","else"]:List Z0)++t)))=true:=by with_unfolding_all rfl
theorem big5(t:List Z0):Z3b (body (hdW++(rp 15 (["let","b","=","0","in"]:List Z0)++t)))=true:=by with_unfolding_all rfl
theorem big6(t:List Z0):Z3b (body (hdW++(rp 15 (["set","a",".","b","="]:List Z0)++t)))=true:=by with_unfolding_all rfl
theorem big11(t:List Z0):Z3b (body (hdW++(rp 15 (["if"]:List Z0)++t)))=true:=by with_unfolding_all rfl
theorem big12(t:List Z0):Z3b (body (hdW++(rp 15 (["if","yes","then"]:List Z0)++t)))=true:=by with_unfolding_all rfl
theorem big13(t:List Z0):Z3b (body (hdW++(rp 15 (["let","a","="]:List Z0)++t)))=true:=by with_unfolding_all rfl
theorem big7(t:List Z0):opens (hdW++(rp 15 (["new","h","("]:List Z0)++t)) 0=false:=by with_unfolding_all rfl
theorem big8(t:List Z0):opens (hdW++(rp 15 (["elder",".","w","("]:List Z0)++t)) 0=false:=by with_unfolding_all rfl
theorem big9(t:List Z0):opens (hdW++(rp 15 (["a",".","w","("]:List Z0)++t)) 0=false:=by with_unfolding_all rfl
theorem big10(t:List Z0):opens (hdW++(rp 15 (["("]:List Z0)++t)) 0=false:=by with_unfolding_all rfl
variable{ws:List Z0}{i:Nat}
theorem Z0u{x:Z0}{r:List Z0}(h:ws.drop i=x::r):ahead ws i=x/\ws.drop (i+1)=r:=by
 constructor
 ·unfold ahead;have:ws[i]?=some x:=by rw[<-List.head?_drop,h];rfl
  rw[qb6,this];rfl
 ·rw[<-qg4,h];rfl
theorem Z1r(h:ws.drop i=[]):ahead ws i="":=by
 unfold ahead;have:ws[i]?=none:=by rw[<-List.head?_drop,h];rfl
 rw[qb6,this];rfl
def Stop(xs:List Z0):Prop:=xs=[]\/∃x r,xs=x::r/\x≠"."/\stren x=0
theorem Stop.at{xs:List Z0}(h:Stop xs)(e:ws.drop i=xs):ahead ws i≠"."/\stren (ahead ws i)=0:=by
 rcases h with rfl|⟨x,r,rfl,a,b⟩
 ·rw[Z1r e];exact⟨qP,qP⟩
 ·rw[(Z0u e).1];exact⟨a,b⟩
theorem J7J:Z1e "b"=true:=by decide+kernel
theorem J7H:Z1e "w"=true:=by decide+kernel
theorem dp1{f:Fm}{l:Lb}{t:Tm}:(Tm.mk f l [t]).depth=t.depth+1:=by
 show 1+max t.depth 0=_;rw[Nat.max_zero];lia
def fldb:Nat->Tm->Tm
 |0,t=>t
 |j+1,t=>fldb j (.mk .field (.str "b") [t])
theorem Z3G:∀j t,(fldb j t).depth=t.depth+j
 |0,t=>rfl
 |j+1,t=>by show(fldb j _).depth=_;rw[Z3G j,dp1];lia
theorem Z6A:∀j t,∃u,fldb (j+1) t=.mk .field (.str "b") [u]
 |0,t=>⟨t,rfl⟩
 |j+1,t=>Z6A j _
def J1k:Nat->Tm->Tm
 |0,t=>t
 |j+1,t=>J1k j (.mk .call (.str "w") [t])
theorem Z4q:∀j t,(J1k j t).depth=t.depth+j
 |0,t=>rfl
 |j+1,t=>by show(J1k j _).depth=_;rw[Z4q j,dp1];lia
theorem J4R(r:Rr)(deep:Nat):∀(j fuel:Nat)(t:Tm)(i:Nat)(rest:List Z0),ws.drop i=rp j ([".","b"]:List Z0)++rest->(∀x r,rest=x::r->x≠"."/\x≠"(")->j<fuel->rPts ws r deep fuel t i=.ok (fldb j t) (i+2*j)
 |0,k+1,t,i,rest,h,hr,_=>by
  have e:ahead ws i≠".":=by
   cases rest with
   |nil=>rw[Z1r h];decide+kernel
   |cons x r=>rw[(Z0u h).1];exact(hr x r rfl).1
  unfold rPts;rw[if_neg e];rfl
 |j+1,k+1,t,i,rest,h,hr,hk=>by
  rw[Z2j,qa8]at h;obtain⟨e1,h⟩:=Z0u (r:="b"::(rp j ([".","b"]:List Z0)++rest)) h;obtain⟨e2,h⟩:=Z0u h;have a:=J4R r deep j k (.mk .field (.str "b") [t]) (i+1+1) rest h hr qR;unfold rPts;rw[if_pos e1];unfold needName;rw[e2,if_pos J7J];show(if ahead ws (i+1+1)="(" then _ else rPts ws r deep k (.mk .field (.str "b") [t]) (i+1+1))=_;rw[if_neg,a]
  ·show Res.ok _ _=Res.ok _ _;rw[show i+1+1+2*j=i+2*(j+1)by lia];rfl
  ·cases j with
   |zero=>
    cases rest with
    |nil=>rw[Z1r h];decide+kernel
    |cons x r=>rw[(Z0u h).1];exact(hr x r rfl).2
   |succ j=>rw[Z2j]at h;rw[(Z0u (r:="b"::_) h).1];decide+kernel
theorem J5l(r:Rr)(deep:Nat):∀(j fuel:Nat)(t:Tm)(i:Nat),ws.drop i=rp j ([".","w","(",")"]:List Z0)->j<fuel->rPts ws r deep fuel t i=.ok (J1k j t) (i+4*j)
 |0,k+1,t,i,h,_=>by
  unfold rPts;rw[if_neg (by rw[Z1r h];decide+kernel)];rfl
 |j+1,k+1,t,i,h,hk=>by
  rw[Z2j]at h;obtain⟨e1,h⟩:=Z0u (r:="w"::"("::")"::rp j ([".","w","(",")"]:List Z0)) h;obtain⟨e2,h⟩:=Z0u h;obtain⟨e3,h⟩:=Z0u h;obtain⟨e4,h⟩:=Z0u h;have a:=J5l r deep j k (.mk .call (.str "w") [t]) (i+1+1+1+1) h qR;unfold rPts;rw[if_pos e1];unfold needName;rw[e2,if_pos J7H];show(if ahead ws (i+1+1)="(" then(rTerms ws r (deep+1) (i+1+1)).bind _ else _)=_;rw[if_pos e3];have et:rTerms ws r (deep+1) (i+1+1)=.ok [] (i+1+1+1+1):=by
   unfold rTerms rList need;rw[if_pos e3];show(if ahead ws (i+1+1+1)=")" then Res.ok [] (i+1+1+1+1)else _).bind _=_;rw[if_pos e4];rfl
  rw[et];show rPts ws r deep k (.mk .call (.str "w") [t]) (i+1+1+1+1)=_;rw[a];show Res.ok _ _=Res.ok _ _;rw[show i+1+1+1+1+4*j=i+4*(j+1)by lia];rfl
end RR
end
section
namespace RR
open PySem P15
open K10 (cds Ws Sep gaps Z0v isNum isNm sgns)
def wsF:Nat->List Nat->Option (List (List Nat))
 |_,[]=>some []
 |0,_::_=>none
 | n+1,c::r=>if gaps.contains c then wsF n r else if Z0v c then (if isNum ((c::r).takeWhile Z0v) || isNm ((c::r).takeWhile Z0v) then (wsF n (r.dropWhile Z0v)).map ((c::r).takeWhile Z0v::·) else none)
  else if sgns.contains c then(wsF n r).map ([c]::·)else none
theorem ws_of:∀(n:Nat)(t:List Nat)(ws:List (List Nat)),wsF n t=some ws->Ws t ws
 |n,[],ws,h=>by
  have e:ws=[]:=by cases n<;>(cases h;rfl)
  rw[e];exact K10.ws_nil
 |n+1,c::r,ws,h=>by
  intro k;rw[K10.cutP];unfold wsF at h;split at h
  ·rename_i a;rw[if_pos a];exact ws_of n r ws h _
  rename_i a;rw[if_neg a];split at h
  ·rename_i b;rw[if_pos b];split at h
   ·rename_i d;rw[if_pos d];obtain⟨us,e,rfl⟩:=qd3.mp h;rw[ws_of n _ us e _];rfl
   ·cases h
  ·rename_i b;rw[if_neg b];split at h
   ·rename_i d;rw[if_pos d];obtain⟨us,e,rfl⟩:=qd3.mp h;rw[ws_of n _ us e _];rfl
   ·cases h
def WW(x:Z0)(ws:List Z0):Prop:=Ws (cds x) (ws.map cds)
theorem Z0y{x:Z0}{ws:List Z0}(n:Nat)(h:wsF n (cds x)=some (ws.map cds)):WW x ws:=ws_of n _ _ h
def Bl(x:Z0):Prop:=Sep (cds x)
def En(x y:Z0):Prop:=cds x=cds y++[32]
theorem en_of{x y:Z0}(h:cds x=cds y++[32]):En x y:=h
theorem Z0X{x y:Z0}(h:cds x=32::cds y):Bl x:=by unfold Bl;rw[h];exact Sep.gap qQ
theorem WW.app{a b:Z0}{u v:List Z0}(A:WW a u)(B:WW b v)(s:Bl b):WW (a++b) (u++v):=by
 unfold WW;rw[K10.cds_app,qe4];exact Ws.app s A B
theorem WW.appG{a a' b:Z0}{u v:List Z0}(A:WW a' u)(e:En a a')(B:WW b v):WW (a++b) (u++v):=by
 unfold WW;rw[K10.cds_app,qe4,e,qa8];exact Ws.appG A B
theorem J0R{α β:Type}(f:α->β)(x:List α):∀n,(rp n x).map f=(qa4 n (x.map f)).flatten
 |0=>rfl
 |n+1=>by rw[Z2j,qe4,J0R f x n,qb9,qc8]
theorem WW.mul{p:Z0}{u:List Z0}(A:WW p u)(s:Bl p)(k:Int):WW (Txt.mul p k) (rp k.toNat u):=by
 unfold WW;rw[K10.cds_mul,J0R];have h:=Ws.rep s A (.inl rfl) K10.ws_nil k.toNat;rw[qc1,qc1]at h;exact h
theorem Bl.mul{p:Z0}(s:Bl p)(k:Int):Bl (Txt.mul p k):=by
 unfold Bl;rw[K10.cds_mul];have h:=K10.sep_rep s (.inl rfl) k.toNat;rw[qc1]at h;exact h
theorem Bl.app{p q:Z0}(s:Bl p)(t:Bl q):Bl (p++q):=by
 unfold Bl;rw[K10.cds_app];rcases s with e|⟨g,r,e,h⟩
 ·rw[e];exact t
 ·rw[e];exact .inr ⟨g,r++cds q,rfl,h⟩
theorem WW.mulG{p p' b:Z0}{u v:List Z0}(A:WW p' u)(e:En p p')(B:WW b v)(k:Int):WW (Txt.mul p k++b) (rp k.toNat u++v):=by
 unfold WW;rw[K10.cds_app,K10.cds_mul,qe4,J0R,e];exact Ws.repG A B k.toNat
open PW (Wd Hs Pg)
variable{ws:List Z0}{i:Nat}
theorem Z3v{xs:List Z0}{t:Tm}{m:Nat}(h:(rd (hdW++xs) 17).T 1 1 1 5=.ok t m)(d:14<t.depth):Z3b (body (hdW++xs))=true:=by
 have e:body (hdW++xs)=(((rd (hdW++xs) 17).T 1 1 1 5).bind λ t m=>(Res.ok (α:=Wd) ⟨"main",[],"number",t⟩ m)).bind λ mn n=>
   if ahead (hdW++xs) n≠"" then .bad else if(mn.params.all λ p=>decide (p.2="number"))=false then .bad else
   if((bodies ⟨[],mn⟩).any λ b=>decide (14<b.depth))=true then .bad else if 400<sumS (bodies ⟨[],mn⟩)then .bad else .ok ⟨[],mn⟩ n:=by
  with_unfolding_all rfl
 rw[e,h];show Z3b (if ahead (hdW++xs) m≠"" then .bad else if(([]:List (Z0×Z0)).all λ p=>decide (p.2="number"))=false then .bad else
   if(([t]).any λ b=>decide (14<b.depth))=true then .bad else _)=true
 split
 ·rfl
 split
 ·rfl
 rw[if_pos (by simp[d])];rfl
def addT:Nat->Tm->Tm
 |0,t=>t
 |j+1,t=>addT j (.mk .two (.str "+") [t,.mk .name (.str "a") []])
theorem Z5k:∀j t,t.depth+j<=(addT j t).depth
 |0,t=>qa0 _
 |j+1,t=>by
  have a:=Z5k j (.mk .two (.str "+") [t,.mk .name (.str "a") []]);have b:(Tm.mk .two (.str "+") [t,.mk .name (.str "a") []]).depth=1+max t.depth (max (Tm.mk .name (.str "a") []).depth 0):=rfl;have c:t.depth<=max t.depth (max (Tm.mk .name (.str "a") []).depth 0):=Nat.le_max_left _ _;show _<=(addT j _).depth;lia
theorem J3R:Z1e "a"=true:=by decide+kernel
theorem J5E:K10.isNum ("a":Z0).cps.toList=false:=by decide+kernel
theorem J5n:K10.isNum ("1":Z0).cps.toList=true:=by decide+kernel
theorem J2Q(r:Rr)(deep:Nat)(e:ahead ws i="a"):rOne ws r deep i=.ok (.mk .name (.str "a") []) (i+1):=by
 unfold rOne;rw[e];show(if("a":Z0)="" then _ else if K10.isNum ("a":Z0).cps.toList=true then _ else _)=_;rw[if_neg qP,if_neg (by rw[J5E];decide),if_neg qP,if_neg qP,if_pos J3R]
theorem J5p(r:Rr)(deep:Nat)(e:ahead ws i="1"):rOne ws r deep i=.ok (.mk .number (.int (Z3i "1")) []) (i+1):=by
 unfold rOne;rw[e];show(if("1":Z0)="" then _ else if K10.isNum ("1":Z0).cps.toList=true then _ else _)=_;rw[if_neg qP,if_pos J5n]
theorem Z3s(r:Rr)(low:Nat)(deep:Nat)(hd:¬14<deep){x:Z0}(e:ahead ws i=x)(h:x≠"not"/\x≠"if"/\x≠"let"/\x≠"set"):rPart ws r low deep i=rPointed ws r deep i:=by
 unfold rPart;rw[if_neg hd,e,if_neg h.1,if_neg h.2.1,if_neg h.2.2.1,if_neg h.2.2.2]
theorem J1g(r:Rr)(deep k:Nat)(t:Tm)(e:ahead ws i≠"."):rPts ws r deep (k+1) t i=.ok t i:=by
 unfold rPts;rw[if_neg e]
theorem Z3z(r:Rr)(least low deep k:Nat)(t:Tm)(e:stren (ahead ws i)<least):rTail ws r least low deep (k+1) t i=.ok t i:=by
 unfold rTail;rw[if_neg qR]
theorem t_a(k:Nat)(least low deep:Nat)(hd:¬14<deep)(e:ahead ws i="a")(e2:ahead ws (i+1)≠".")(e3:stren (ahead ws (i+1))<least):(rd ws (k+1)).T least low deep i=.ok (.mk .name (.str "a") []) (i+1):=by
 show(rPart ws (rd ws k) low deep i).bind _=_;rw[Z3s _ _ _ hd e qP];unfold rPointed;rw[J2Q _ _ e];show(rPts ws (rd ws k) deep (ws.length+1) _ (i+1)).bind _=_;rw[J1g _ _ _ _ e2];exact Z3z _ _ _ _ _ _ e3
theorem Z6T(k:Nat):∀(j fuel:Nat)(t:Tm)(i:Nat),ws.drop i=rp j (["+","a"]:List Z0)->j<fuel->rTail ws (rd ws (k+1)) 1 1 1 fuel t i=.ok (addT j t) (i+2*j)
 |0,f+1,t,i,h,_=>by
  refine(Z3z _ _ _ _ _ _ ?_).trans ?_
  ·rw[Z1r h];decide+kernel
  ·rfl
 |j+1,f+1,t,i,h,hf=>by
  rw[Z2j]at h;obtain⟨e1,h⟩:=Z0u (r:="a"::rp j (["+","a"]:List Z0)) h;obtain⟨e2,h⟩:=Z0u h;have a:=Z6T k j f (.mk .two (.str "+") [t,.mk .name (.str "a") []]) (i+1+1) h qR;have e3:ahead ws (i+1+1)≠"."/\stren (ahead ws (i+1+1))<4/\eqs (ahead ws (i+1+1))=false:=by
   cases j with
   |zero=>rw[Z1r h];decide+kernel
   |succ j=>rw[Z2j]at h;rw[(Z0u (r:="a"::_) h).1];decide+kernel
  unfold rTail;rw[e1,if_pos qP];show((rd ws (k+1)).T (stren "+"+1) 1 (1+1) (i+1)).bind _=_;rw[show stren "+"+1=4 by decide+kernel,t_a k 4 1 2 qQ e2 e3.1 e3.2.1];show(if(eqs "+"&&eqs (ahead ws (i+1+1)))=true then Res.bad else rTail ws (rd ws (k+1)) 1 1 1 f (.mk .two (.str "+") [t,.mk .name (.str "a") []]) (i+1+1))=_;rw[if_neg (by rw[show eqs "+"=false by decide+kernel,Bool.false_and];decide),a];show Res.ok _ _=Res.ok _ _;rw[show i+1+1+2*j=i+2*(j+1)by lia];rfl
theorem Z3t{α:Type}(x:List α):∀n,(rp n x).length=n*x.length
 |0=>by rw[Nat.zero_mul];rfl
 |n+1=>by rw[Z2j,qa2,Z3t x n,Nat.succ_mul,Nat.add_comm]
theorem big0(n:Nat)(hn:15<=n):Z3b (body (hdW++famW 0 n))=true:=by
 refine Z3v (t:=addT n (.mk .number (.int (Z3i "1")) [])) (m:=6+2*n) ?_ ?_
 ·have h:(hdW++famW 0 n).drop 5=("1":Z0)::rp n (["+","a"]:List Z0):=rfl;obtain⟨e1,h⟩:=Z0u h;have l:(hdW++famW 0 n).length=6+n*2:=by
   show(hdW++((["1"]:List Z0)++rp n (["+","a"]:List Z0))).length=_;rw[qa2,qa2,Z3t];show 5+(1+n*2)=_;lia
  have e2:ahead (hdW++famW 0 n) 6≠".":=by
   obtain⟨j,rfl⟩:∃j,n=j+1:=⟨n-1,qR⟩;rw[Z2j]at h;rw[(Z0u (r:="a"::_) h).1];decide+kernel
  show(rPart _ (rd _ 16) 1 1 5).bind _=_;rw[Z3s _ _ _ qQ e1 qP];unfold rPointed;rw[J5p _ _ e1];show(rPts _ (rd _ 16) 1 _ _ 6).bind _=_;rw[J1g _ _ _ _ e2];exact Z6T 15 n _ _ 6 h (by rw[l];lia)
 ·have:=Z5k n (.mk .number (.int (Z3i "1")) []);lia
theorem big2(n:Nat)(hn:15<=n):Z3b (body (hdW++famW 2 n))=true:=by
 refine Z3v (t:=fldb n (.mk .name (.str "a") [])) (m:=6+2*n) ?_ ?_
 ·have h:(hdW++famW 2 n).drop 5=("a":Z0)::rp n ([".","b"]:List Z0):=rfl;obtain⟨e1,h⟩:=Z0u h;have l:(hdW++famW 2 n).length=6+n*2:=by
   show(hdW++((["a"]:List Z0)++rp n ([".","b"]:List Z0))).length=_;rw[qa2,qa2,Z3t];show 5+(1+n*2)=_;lia
  show(rPart _ (rd _ 16) 1 1 5).bind _=_;rw[Z3s _ _ _ qQ e1 qP];unfold rPointed;rw[J2Q _ _ e1];show(rPts _ (rd _ 16) 1 _ _ 6).bind _=_;rw[J4R (rd _ 16) 1 n _ _ 6 [] (by rw[qc1];exact h) (λ x r h=>by cases h) (by rw[l];lia)];refine Z3z _ _ _ _ _ _ ?_;rw[Z1r (qg5 (by rw[l];lia))];decide+kernel
 ·rw[Z3G];lia
theorem big15(n:Nat)(hn:15<=n):Z3b (body (hdW++famW 15 n))=true:=by
 refine Z3v (t:=J1k n (.mk .name (.str "a") [])) (m:=6+4*n) ?_ ?_
 ·have h:(hdW++famW 15 n).drop 5=("a":Z0)::rp n ([".","w","(",")"]:List Z0):=rfl;obtain⟨e1,h⟩:=Z0u h;have l:(hdW++famW 15 n).length=6+n*4:=by
   show(hdW++((["a"]:List Z0)++rp n ([".","w","(",")"]:List Z0))).length=_;rw[qa2,qa2,Z3t];show 5+(1+n*4)=_;lia
  show(rPart _ (rd _ 16) 1 1 5).bind _=_;rw[Z3s _ _ _ qQ e1 qP];unfold rPointed;rw[J2Q _ _ e1];show(rPts _ (rd _ 16) 1 _ _ 6).bind _=_;rw[J5l (rd _ 16) 1 n _ _ 6 h (by rw[l];lia)];refine Z3z _ _ _ _ _ _ ?_;rw[Z1r (qg5 (by rw[l];lia))];decide+kernel
 ·rw[Z4q];lia
theorem big14(n:Nat)(hn:15<=n):Z3b (body (hdW++famW 14 n))=true:=by
 obtain⟨u,hu⟩:=Z6A n (.mk .name (.str "a") []);have hd:=Z3G (n+1) (.mk .name (.str "a") []);rw[hu,dp1]at hd;refine Z3v (t:=.mk .set (.str "b") [u,.mk .number (.int (Z3i "1")) []]) (m:=11+2*n) ?_ ?_
 ·have h:(hdW++famW 14 n).drop 5=("set":Z0)::("a":Z0)::(rp (n+1) ([".","b"]:List Z0)++(["=","1"]:List Z0)):=rfl;obtain⟨e1,h⟩:=Z0u h;obtain⟨e2,h⟩:=Z0u h;have l:(hdW++famW 14 n).length=11+n*2:=by
   show(hdW++((["set","a"]:List Z0)++(rp (n+1) ([".","b"]:List Z0)++(["=","1"]:List Z0)))).length=_;rw[qa2,qa2,qa2,Z3t];show 5+(2+((n+1)*2+2))=_;lia
  have h9:(hdW++famW 14 n).drop (9+2*n)=(["=","1"]:List Z0):=by
   have a:(7:Nat)+(2*n+2)=9+2*n:=by lia
   rw[<-a,<-qg4,h,List.drop_append_of_le_length (by rw[Z3t];show _<=(n+1)*2;lia),qg5 (by rw[Z3t];show(n+1)*2<=_;lia)];rfl
  have h8:(hdW++famW 14 n).drop (9+2*n-1)=(["b","=","1"]:List Z0):=by
   have a:(7:Nat)+2*n+1=9+2*n-1:=by lia
   rw[<-a,<-qg4,<-qg4,h,rp_add ([".","b"]:List Z0) 1 n,qa8,List.drop_append_of_le_length (by rw[Z3t];show _<=n*2;lia),qg5 (as:=rp n ([".","b"]:List Z0)) (by rw[Z3t];show n*2<=_;lia)];rfl
  obtain⟨e3,h9⟩:=Z0u h9;obtain⟨e4,h9⟩:=Z0u h9;have e5:=Z1r h9;have e6:=(Z0u h8).1;have ep:rPointed (hdW++famW 14 n) (rd (hdW++famW 14 n) 16) 1 6=.ok (.mk .field (.str "b") [u]) (9+2*n):=by
   unfold rPointed;rw[J2Q _ _ e2];show rPts _ (rd _ 16) 1 _ _ 7=_;rw[J4R (rd _ 16) 1 (n+1) _ _ 7 _ h (λ x r h=>by cases h;decide+kernel) (by rw[l];lia),hu];rw[show 7+2*(n+1)=9+2*n by lia]
  have eT:(rd (hdW++famW 14 n) 16).T 2 2 2 (9+2*n+1)=.ok (.mk .number (.int (Z3i "1")) []) (11+2*n):=by
   show(rPart _ (rd _ 15) 2 2 _).bind _=_;rw[Z3s _ _ _ qQ e4 qP];unfold rPointed;rw[J5p _ _ e4];show(rPts _ (rd _ 15) 2 _ _ (9+2*n+1+1)).bind _=_;rw[J1g _ _ _ _ (by rw[e5];decide+kernel)];show rTail _ (rd _ 15) 2 2 2 _ _ (9+2*n+1+1)=_;rw[Z3z _ _ _ _ _ _ (by rw[e5];decide+kernel)];rw[show 9+2*n+1+1=11+2*n by lia]
  have ePt:rPart (hdW++famW 14 n) (rd (hdW++famW 14 n) 16) 1 1 5=rSet (hdW++famW 14 n) (rd (hdW++famW 14 n) 16) 1 6:=by
   unfold rPart;rw[if_neg qQ,e1,if_neg qP,if_neg qP,if_neg qP,if_pos rfl]
  show(rPart _ (rd _ 16) 1 1 5).bind _=_;rw[ePt];unfold rSet;rw[ep];show((if ahead (hdW++famW 14 n) (9+2*n-1)=")" then Res.bad else(need _ "=" (9+2*n)).bind _).bind _)=_;rw[e6,if_neg qP];unfold need;rw[e3,if_pos rfl];show((((rd (hdW++famW 14 n) 16).T 2 2 2 (9+2*n+1)).bind _).bind _)=_;rw[eT];show rTail _ (rd _ 16) 1 1 1 _ _ (11+2*n)=_;refine Z3z _ _ _ _ _ _ ?_;rw[show 11+2*n=9+2*n+1+1 by lia,e5];decide+kernel
 ·show 14<1+max u.depth _;have:=Nat.le_max_left u.depth (max (Tm.mk .number (.int (Z3i "1")) []).depth 0);have h2:14<1+max u.depth (max (Tm.mk .number (.int (Z3i "1")) []).depth 0):=by lia
  exact h2
end RR
end
section
namespace RR
open PySem P15
open PW (Wd Hs Pg)
open K10 (isNm isNum)
abbrev Ls:=List Z0
inductive RS(α:Type)where
 |ok(a:α)(s:Ls)
 |bad
 |out
def RS.bind{α β:Type}:RS α->(α->Ls->RS β)->RS β
 | .ok a s,f=>f a s
 | .bad,_=>.bad
 | .out,_=>.out
def hd(s:Ls):Z0:=s.headD ""
def Z4I(x:Z0)(s:Ls):RS Unit:=if hd s=x then .ok () s.tail else .bad
def Z1g(s:Ls):RS Z0:=if Z1e (hd s)=true then .ok (hd s) s.tail else .bad
def Z8C{α:Type}(item:Ls->RS α):Nat->List α->Ls->RS (List α)
 |0,_,_=>.out
 |k+1,found,n=>if hd n="," then(item n.tail).bind λ a m=>Z8C item k (found++[a]) m else(Z4I ")" n).bind λ _ m=>.ok found m
section
variable(F:Nat)
def Z8f{α:Type}(item:Ls->RS α)(n:Ls):RS (List α):=(Z4I "(" n).bind λ _ m=>if hd m=")" then .ok [] m.tail else(item m).bind λ a j=>Z8C item F [a] j
structure Sr where
 T:Nat->Nat->Nat->Ls->RS Tm
 Pt:Nat->Nat->Ls->RS Tm
variable(r:Sr)
def Z4i(deep:Nat)(n:Ls):RS (List Tm):=(Z8f F (λ m=>r.T 1 1 deep m) n).bind λ ps m=>if 8<ps.length then .bad else .ok ps m
def J4S(deep:Nat)(n:Ls):RS Tm:=
 let x:=hd n
 if x="" then .bad
 else if isNum x.cps.toList=true then .ok (.mk .number (.int (Z3i x)) []) n.tail
 else if x="yes" then .ok (.mk .truth (.bl true) []) n.tail
 else if x="no" then .ok (.mk .truth (.bl false) []) n.tail
 else if Z1e x=true then .ok (.mk .name (.str x) []) n.tail
 else if x="self" then .ok (.mk .self .non []) n.tail
 else if x="new" then(Z1g n.tail).bind λ y m=>(Z4i F r (deep+1) m).bind λ ps j=>.ok (.mk .new (.str y) ps) j
 else if x="elder" then(Z4I "." n.tail).bind λ _ i=>(Z1g i).bind λ y m=>(Z4i F r (deep+1) m).bind λ ps j=>.ok (.mk .elder (.str y) ps) j
 else if x="(" then(r.T 1 1 deep n.tail).bind λ t m=>(Z4I ")" m).bind λ _ j=>.ok t j
 else .bad
def Z9U(deep:Nat):Nat->Tm->Ls->RS Tm
 |0,_,_=>.out
 |k+1,t,n=>if hd n="." then(Z1g n.tail).bind λ x m=>
   if hd m="(" then(Z4i F r (deep+1) m).bind λ ps j=>Z9U deep k (.mk .call (.str x) (t::ps)) j
   else Z9U deep k (.mk .field (.str x) [t]) m
  else .ok t n
def Z4F(deep:Nat)(n:Ls):RS Tm:=(J4S F r deep n).bind λ t m=>Z9U F r deep F t m
def Z8F(low deep:Nat)(n:Ls):RS Tm:=
 if 14<deep then .bad
 else if hd n="not" then .out
 else if hd n="if" then .out
 else if hd n="let" then .out
 else if hd n="set" then .out
 else Z4F F r deep n
def Z8M(least low deep:Nat):Nat->Tm->Ls->RS Tm
 |0,_,_=>.out
 |k+1,t,n=>if least<=stren (hd n)then(r.T (if hd n=";" then 1 else stren (hd n)+1) low (deep+1) n.tail).bind λ u m=>
   if(eqs (hd n)&&eqs (hd m))=true then .bad else Z8M least low deep k (.mk .two (.str (hd n)) [t,u]) m
  else .ok t n
def rdS:Nat->Sr
 |0=>⟨λ _ _ _ _=>.out,λ _ _ _=>.out⟩
 |k+1=>⟨λ least low deep n=>(Z8F F (rdS k) low deep n).bind λ t m=>Z8M (rdS k) least low deep F t m,Z8F F (rdS k)⟩
def Z8t(n:Ls):RS Z0:=if hd n="number" then .ok "number" n.tail else if hd n="truth" then .ok "truth" n.tail else Z1g n
def Z8G(n:Ls):RS (Z0×Z0):=(Z1g n).bind λ x m=>(Z8t m).bind λ k j=>.ok (x,k) j
def Z7O(k:Nat)(name:Z0)(n:Ls):RS Wd:=(Z8f F Z8G n).bind λ ps i=>if 4<ps.length then .bad else(Z8t i).bind λ kd j=>(Z4I "=" j).bind λ _ j=>((rdS F k).T 1 1 1 j).bind λ t m=>.ok ⟨name,ps,kd,t⟩ m
def Z3Z:Nat->List (Z0×Z0)->Ls->RS (List (Z0×Z0))
 |0,_,_=>.out
 |k+1,xs,n=>if hd n="has" then(Z8G n.tail).bind λ x m=>Z3Z k (xs++[x]) m else .ok xs n
def Z5U(kf:Nat):Nat->List Wd->Ls->RS (List Wd)
 |0,_,_=>.out
 |k+1,xs,n=>if hd n="can" then(Z1g n.tail).bind λ x i=>(Z7O F kf x i).bind λ d m=>Z5U kf k (xs++[d]) m else .ok xs n
def rOfS(n:Ls):RS (Option Z0):=if hd n="of" then(Z1g n.tail).bind λ y m=>.ok (some y) m else .ok none n
def Z7z(kf:Nat)(n:Ls):RS Hs:=(Z1g n).bind λ x i=>(rOfS i).bind λ el i=>(Z4I "{" i).bind λ _ i=>(Z3Z F [] i).bind λ fs j=>if 4<fs.length then .bad else
 (Z5U F kf F [] j).bind λ wds j=>if 8<wds.length then .bad else(Z4I "}" j).bind λ _ m=>.ok ⟨x,el,fs,wds⟩ m
def Z3Y(kf:Nat):Nat->List Hs->Ls->RS (List Hs)
 |0,_,_=>.out
 |k+1,xs,n=>if hd n="house" then(Z7z F kf n.tail).bind λ d m=>Z3Y kf k (xs++[d]) m else .ok xs n
noncomputable def J0i(kf:Nat)(hs:List Hs)(n:Ls):RS Pg:=if 12<hs.length then .bad else(Z4I "main" n).bind λ _ n=>(Z7O F kf "main" n).bind λ mn n=>
 if hd n≠"" then .bad else if(mn.params.all λ p=>decide (p.2="number"))=false then .bad else
 if((bodies ⟨hs,mn⟩).any λ b=>decide (14<b.depth))=true then .bad else if 400<sumS (bodies ⟨hs,mn⟩)then .bad else .ok ⟨hs,mn⟩ n
noncomputable def Z6N(ws:Ls)(kf:Nat):RS Pg:=if opens ws 0=false then .bad else(Z3Y F kf F [] ws).bind (J0i F kf)
end
section
variable{ws:Ls}
def Rl{α:Type}(ws:Ls)(r:Res α):RS α->Prop
 | .out=>True
 | .bad=>r=.bad
 | .ok a l=>∃n,r=.ok a n/\ws.drop n=l
theorem Rl.bind{α β:Type}{r:Res α}{s:RS α}{f:α->Nat->Res β}{g:α->Ls->RS β}(h:Rl ws r s)(i:∀a n,Rl ws (f a n) (g a (ws.drop n))):Rl ws (r.bind f) (s.bind g):=by
 cases s with
 |out=>trivial
 |bad=>rw[show r=.bad from h];rfl
 |ok a l=>obtain⟨n,rfl,rfl⟩:=h;exact i a n
theorem Z1E{α:Type}(a:α)(n:Nat):Rl ws (.ok a n) (.ok a (ws.drop n)):=⟨n,rfl,rfl⟩
theorem Z1M{α:Type}:Rl ws (.bad:Res α) .bad:=rfl
theorem Z2F{α:Type}(r:Res α):Rl ws r .out:=trivial
theorem Z0J(n:Nat):ahead ws n=hd (ws.drop n):=by
 unfold ahead hd;rw[qb6,List.headD_eq_head?_getD,List.head?_drop]
theorem tl(n:Nat):(ws.drop n).tail=ws.drop (n+1):=by simp
theorem Z2Q(x:Z0)(n:Nat):Rl ws (need ws x n) (Z4I x (ws.drop n)):=by
 unfold need Z4I;rw[Z0J,tl];split
 ·exact Z1E _ _
 ·exact Z1M
theorem Z2J(n:Nat):Rl ws (needName ws n) (Z1g (ws.drop n)):=by
 unfold needName Z1g;rw[Z0J,tl];split
 ·exact Z1E _ _
 ·exact Z1M
theorem Z9v{α:Type}{item:Nat->Res α}{itemS:Ls->RS α}(h:∀n,Rl ws (item n) (itemS (ws.drop n))):∀(k k':Nat)(found:List α)(n:Nat),k<=k'->Rl ws (rMore ws item k' found n) (Z8C itemS k found (ws.drop n))
 |0,_,_,_,_=>Z2F _
 |k+1,k'+1,found,n,hk=>by
  unfold rMore Z8C;rw[Z0J,tl];split
  ·exact(h _).bind λ a m=>Z9v h k k' _ m (qd7 hk)
  ·exact(Z2Q _ _).bind λ a m=>Z1E _ _
variable{F:Nat}(hF:F<=ws.length+1)
include hF
theorem J0m{α:Type}{item:Nat->Res α}{itemS:Ls->RS α}(h:∀n,Rl ws (item n) (itemS (ws.drop n)))(n:Nat):Rl ws (rList ws item n) (Z8f F itemS (ws.drop n)):=by
 unfold rList Z8f;refine(Z2Q _ _).bind λ _ m=>?_;rw[Z0J,tl];split
 ·exact Z1E _ _
 ·exact(h _).bind λ a j=>Z9v h F _ _ _ hF
structure RlR(ws:Ls)(r:Rr)(s:Sr):Prop where
 T:∀a b c n,Rl ws (r.T a b c n) (s.T a b c (ws.drop n))
 Pt:∀a b n,Rl ws (r.Pt a b n) (s.Pt a b (ws.drop n))
variable{r:Rr}{s:Sr}(h:RlR ws r s)
include h
theorem Z5L(deep n:Nat):Rl ws (rTerms ws r deep n) (Z4i F s deep (ws.drop n)):=by
 unfold rTerms Z4i;refine(J0m hF (λ m=>h.T _ _ _ _) n).bind λ ps m=>?_;split
 ·exact Z1M
 ·exact Z1E _ _
theorem J5j(deep n:Nat):Rl ws (rOne ws r deep n) (J4S F s deep (ws.drop n)):=by
 unfold rOne J4S;dsimp only;rw[Z0J,tl];split
 ·exact Z1M
 split
 ·exact Z1E _ _
 split
 ·exact Z1E _ _
 split
 ·exact Z1E _ _
 split
 ·exact Z1E _ _
 split
 ·exact Z1E _ _
 split
 ·exact(Z2J _).bind λ y m=>(Z5L hF h _ _).bind λ ps j=>Z1E _ _
 split
 ·exact(Z2Q _ _).bind λ _ i=>(Z2J _).bind λ y m=>(Z5L hF h _ _).bind λ ps j=>Z1E _ _
 split
 ·exact(h.T _ _ _ _).bind λ t m=>(Z2Q _ _).bind λ _ j=>Z1E _ _
 ·exact Z1M
theorem J0e(deep:Nat):∀(k k':Nat)(t:Tm)(n:Nat),k<=k'->Rl ws (rPts ws r deep k' t n) (Z9U F s deep k t (ws.drop n))
 |0,_,_,_,_=>Z2F _
 |k+1,k'+1,t,n,hk=>by
  unfold rPts Z9U;rw[Z0J,tl];split
  ·refine(Z2J _).bind λ x m=>?_;rw[Z0J];split
   ·exact(Z5L hF h _ _).bind λ ps j=>J0e deep k k' _ _ (qd7 hk)
   ·exact J0e deep k k' _ _ (qd7 hk)
  ·exact Z1E _ _
theorem Z9k(deep n:Nat):Rl ws (rPointed ws r deep n) (Z4F F s deep (ws.drop n)):=by
 unfold rPointed Z4F;exact(J5j hF h _ _).bind λ t m=>J0e hF h _ _ _ _ _ hF
theorem J1x(low deep n:Nat):Rl ws (rPart ws r low deep n) (Z8F F s low deep (ws.drop n)):=by
 unfold rPart Z8F;rw[Z0J];split
 ·exact Z1M
 split
 ·exact Z2F _
 split
 ·exact Z2F _
 split
 ·exact Z2F _
 split
 ·exact Z2F _
 ·exact Z9k hF h _ _
omit hF in
theorem J1e(least low deep:Nat):∀(k k':Nat)(t:Tm)(n:Nat),k<=k'->Rl ws (rTail ws r least low deep k' t n) (Z8M s least low deep k t (ws.drop n))
 |0,_,_,_,_=>Z2F _
 |k+1,k'+1,t,n,hk=>by
  unfold rTail Z8M;rw[Z0J,tl];split
  ·refine(h.T _ _ _ _).bind λ u m=>?_;rw[Z0J];split
   ·exact Z1M
   ·exact J1e least low deep k k' _ _ (qd7 hk)
  ·exact Z1E _ _
omit h
theorem J1S:∀k,RlR ws (rd ws k) (rdS F k)
 |0=>⟨λ _ _ _ _=>Z2F _,λ _ _ _=>Z2F _⟩
 |k+1=>⟨λ least low deep n=>(J1x hF (J1S k) low deep n).bind λ t m=>J1e (J1S k) least low deep F _ t m hF,λ low deep n=>J1x hF (J1S k) low deep n⟩
omit hF
theorem J1J(n:Nat):Rl ws (rKind ws n) (Z8t (ws.drop n)):=by
 unfold rKind Z8t;rw[Z0J,tl];split
 ·exact Z1E _ _
 split
 ·exact Z1E _ _
 ·exact Z2J _
theorem J0u(n:Nat):Rl ws (rPair ws n) (Z8G (ws.drop n)):=by
 unfold rPair Z8G;exact(Z2J _).bind λ x m=>(J1J _).bind λ k j=>Z1E _ _
theorem Z6j:∀(k k':Nat)(xs:List (Z0×Z0))(n:Nat),k<=k'->Rl ws (rFields ws k' xs n) (Z3Z k xs (ws.drop n))
 |0,_,_,_,_=>Z2F _
 |k+1,k'+1,xs,n,hk=>by
  unfold rFields Z3Z;rw[Z0J,tl];split
  ·exact(J0u _).bind λ x m=>Z6j k k' _ _ (qd7 hk)
  ·exact Z1E _ _
theorem J7N(n:Nat):Rl ws (rOf ws n) (rOfS (ws.drop n)):=by
 unfold rOf rOfS;rw[Z0J,tl];split
 ·exact(Z2J _).bind λ y m=>Z1E _ _
 ·exact Z1E _ _
include hF
theorem J0w(k:Nat)(x:Z0)(n:Nat):Rl ws (rWord ws k x n) (Z7O F k x (ws.drop n)):=by
 unfold rWord Z7O;refine(J0m hF J0u _).bind λ ps i=>?_;split
 ·exact Z1M
 ·exact(J1J _).bind λ kd j=>(Z2Q _ _).bind λ _ j=>((J1S hF k).T _ _ _ _).bind λ t m=>Z1E _ _
theorem Z8H(kf:Nat):∀(k k':Nat)(xs:List Wd)(n:Nat),k<=k'->Rl ws (rWords ws kf k' xs n) (Z5U F kf k xs (ws.drop n))
 |0,_,_,_,_=>Z2F _
 |k+1,k'+1,xs,n,hk=>by
  unfold rWords Z5U;rw[Z0J,tl];split
  ·exact(Z2J _).bind λ x m=>(J0w hF _ _ _).bind λ d m=>Z8H kf k k' _ _ (qd7 hk)
  ·exact Z1E _ _
theorem J1V(kf n:Nat):Rl ws (rHouse ws kf n) (Z7z F kf (ws.drop n)):=by
 unfold rHouse Z7z;refine(Z2J _).bind λ x i=>(J7N _).bind λ el i=>(Z2Q _ _).bind λ _ i=>(Z6j _ _ _ _ hF).bind λ fs j=>?_;split
 ·exact Z1M
 refine(Z8H hF _ _ _ _ _ hF).bind λ wds j=>?_;split
 ·exact Z1M
 ·exact(Z2Q _ _).bind λ _ m=>Z1E _ _
theorem Z7b(kf:Nat):∀(k k':Nat)(xs:List Hs)(n:Nat),k<=k'->Rl ws (rHouses ws kf k' xs n) (Z3Y F kf k xs (ws.drop n))
 |0,_,_,_,_=>Z2F _
 |k+1,k'+1,xs,n,hk=>by
  unfold rHouses Z3Y;rw[Z0J,tl];split
  ·exact(J1V hF _ _).bind λ d m=>Z7b kf k k' _ _ (qd7 hk)
  ·exact Z1E _ _
theorem J4m(kf:Nat)(hs:List Hs)(n:Nat):Rl ws (rRest ws kf hs n) (J0i F kf hs (ws.drop n)):=by
 unfold rRest J0i;split
 ·exact Z1M
 refine(Z2Q _ _).bind λ _ n=>(J0w hF _ _ _).bind λ mn n=>?_;rw[Z0J];split
 ·exact Z1M
 split
 ·exact Z1M
 split
 ·exact Z1M
 split
 ·exact Z1M
 ·exact Z1E _ _
theorem J0x(kf:Nat):Rl ws (rProg ws kf) (Z6N F ws kf):=by
 unfold rProg Z6N;split
 ·exact Z1M
 ·exact(Z7b hF kf F _ [] 0 hF).bind λ hs n=>J4m hF _ _ _
end
noncomputable def Z4E(ws:Ls):Nat:=match Z6N (min 20 (ws.length+1)) ws 17 with
 | .ok _ _=>1
 | .bad=>0
 | .out=>2
theorem tells_bad{ws:Ls}(h:Z4E ws=0):rProg ws 17=.bad:=by
 have a:=J0x (ws:=ws) (Nat.min_le_right 20 (ws.length+1)) 17;unfold Z4E at h;revert a h;cases Z6N (min 20 (ws.length+1)) ws 17 with
 |ok p l=>exact λ h _=>by cases h
 |bad=>exact λ _ a=>a
 |out=>exact λ h _=>by cases h
theorem tells_ok{ws:Ls}(h:Z4E ws=1):∃p n,rProg ws 17=.ok p n:=by
 have a:=J0x (ws:=ws) (Nat.min_le_right 20 (ws.length+1)) 17;unfold Z4E at h;revert a h;cases Z6N (min 20 (ws.length+1)) ws 17 with
 |ok p l=>exact λ _ a=>⟨p,a.choose,a.choose_spec.1⟩
 |bad=>exact λ h _=>by cases h
 |out=>exact λ h _=>by cases h
end RR
end
section
namespace L2
open PySem PySem.Spec PyProof.Rows
theorem J3V{K:y0}{a:t0}{o:Obj}{h:V0}(X:W.Frag.In ((a,o)::K) h)(n:K.lookup a=none):K.In h/\h.get? a=some o:=by
 refine⟨λ b u e=>X b u ?_,X a o ?_⟩
 ·rw[qb5];have:(b==a)=false:=beq_false_of_ne λ z=>by rw[z,n]at e;cases e
  rw[this];exact e
 ·rw[qb5,beq_self_eq_true]
theorem J1Z{P:Program}{w:U0}{K:y0}{mg:Z0->Option q0}{fa:t0}{k:Nat}{x:Z0}{st:Stmt}{sp:Sp}(F:Fn K mg "law" st)(hfa:mg "law"=some (.ref fa))(hb:∀(kV doc pm:q0)(an:Option t0)(cdv ct u:q0),bindArgs (W.fnOf "law" "law" (Z0Q st) (Z0B st) (Z0e st) .none kV doc pm an cdv ct) ⟨[u],[]⟩=pure [(x,u)])(ok:∀(f:t0)(fd:FuncData)(base:V0),K.In base->BAt mg base->Fun K "law" "law" st f fd->FnOk P w K mg base CX0 k f fd [x] sp):∃fd:FuncData,(∀(s:X0)(u:q0),BindsTo s fd ⟨[u],[]⟩ [(x,u)])/\∀base:V0,K.In base->base.Ns mainGlobals mg->BAt mg base->FnOk P w K mg base CX0 k fa fd [x] sp:=by
 obtain⟨f,fd,F,m⟩:=F.ex;cases hfa.symm.trans m;have F':=F;obtain⟨oc,od,kV,doc,pm,an,cdv,ct,osl,rfl,lk,hcd⟩:=F.ex;exact⟨_,λ s u=>.of_eq (hb kV doc pm an cdv ct u),λ base hK _ hB=>ok _ _ base hK hB F'⟩
end L2
end
section
open PySem L2 TM WK
section
namespace K13
open PySem L2 TM WK
open P15 (Lb Fm Tm dats Z1m okF Ok maxD sumS flatR Bld)
open PW (Wd Hs Pg IxAt Look Z1w Z1G Flds Z1U)
seal L2.PE L2.PA L2.PT L2.PS L2.PSs L2.PG L2.PGs L2.PI L2.PW
theorem Z7C:Z0n ["form","label","parts"] ["form","label","parts"] (Z0e Z2U):=⟨rfl,rfl,rfl,qP,rfl,qP,qP⟩
theorem Z7G:Z0n ["pairs"] ["pairs"] (Z0e Z2Y):=⟨rfl,rfl,rfl,qP,rfl,qP,qP⟩
theorem O0M:Z0n ["text","row","guest","all_houses","main","program"] ["text"] (Z0e Z7Q):=⟨rfl,rfl,rfl,qP,rfl,qP,qP⟩
theorem O0c:Z0n ["row","still_open","word"] ["row"] (Z0e Z1t):=⟨rfl,rfl,rfl,qP,rfl,qP,qP⟩
theorem Z7k:Z0n ["found","most"] ["found","most"] (Z0e Z2Z):=⟨rfl,rfl,rfl,qP,rfl,qP,qP⟩
theorem Z4L:Z0n ["program"] ["program"] (Z0e Z1Q):=⟨rfl,rfl,rfl,qP,rfl,qP,qP⟩
theorem O0f:Z0n ["guest","name","elder","own_fields","own_words"] ["guest"] (Z0e Z2g):=⟨rfl,rfl,rfl,qP,rfl,qP,qP⟩
theorem O0s:Z0n ["guest","name","params","kind"] ["guest","name"] (Z0e Z2p):=⟨rfl,rfl,rfl,qP,rfl,qP,qP⟩
theorem O0O:Z0n ["guest","name"] ["guest"] (Z0e Z2w):=⟨rfl,rfl,rfl,qP,rfl,qP,qP⟩
theorem Z6t:Z0n ["guest"] ["guest"] (Z0e Z2A):=⟨rfl,rfl,rfl,qP,rfl,qP,qP⟩
theorem O0P:Z0n ["guest","read_item","found"] ["guest","read_item"] (Z0e Z2o):=⟨rfl,rfl,rfl,qP,rfl,qP,qP⟩
theorem O0K:Z0n ["guest","deep","found"] ["guest","deep"] (Z0e Z0E):=⟨rfl,rfl,rfl,qP,rfl,qP,qP⟩
theorem O0d:Z0n ["guest","least","lowest","deep","term","sign","right"] ["guest","least","lowest","deep"] (Z0e Z2B):=⟨rfl,rfl,rfl,qP,rfl,qP,qP⟩
theorem Z3M:Z0n ["guest","lowest","deep"] ["guest","lowest","deep"] (Z0e Z2x):=⟨rfl,rfl,rfl,qP,rfl,qP,qP⟩
theorem O0u:Z0n ["guest","deep","asked","wanted","other"] ["guest","deep"] (Z0e Z3o):=⟨rfl,rfl,rfl,qP,rfl,qP,qP⟩
theorem O0w:Z0n ["guest","lowest","deep","name","first"] ["guest","lowest","deep"] (Z0e Z3a):=⟨rfl,rfl,rfl,qP,rfl,qP,qP⟩
theorem O0x:Z0n ["guest","deep","field","value"] ["guest","deep"] (Z0e Z2W):=⟨rfl,rfl,rfl,qP,rfl,qP,qP⟩
theorem O0e:Z0n ["guest","deep","term","name"] ["guest","deep"] (Z0e Z1C):=⟨rfl,rfl,rfl,qP,rfl,qP,qP⟩
theorem O0j:Z0n ["guest","deep","word","name","term"] ["guest","deep"] (Z0e Z2T):=⟨rfl,rfl,rfl,qP,rfl,qP,qP⟩
theorem Z4t:Z0n ["_law_script","_law_k"] ["_law_script","_law_k"] (Z0e Z1z):=⟨rfl,rfl,rfl,qP,rfl,qP,qP⟩
theorem O0t:Z0n ["_law_text","e","_law_others"] ["_law_text"] (Z0e Z2q):=⟨rfl,rfl,rfl,qP,rfl,qP,qP⟩
theorem Z6X:Z0n ["_law_way","_law_many_here"] ["_law_way","_law_many_here"] (Z0e Z2t):=⟨rfl,rfl,rfl,qP,rfl,qP,qP⟩
theorem O0l:Z0n ["_law_cell","_law_long","_law_text","_law_more"] ["_law_cell"] (Z0e Z2s):=⟨rfl,rfl,rfl,qP,rfl,qP,qP⟩
theorem O0y:Z0n ["_law_cell","_law_word","_law_house"] ["_law_cell"] (Z0e Z2S):=⟨rfl,rfl,rfl,qP,rfl,qP,qP⟩
theorem O0b:Z0n ["_law_way","_law_cell","_law_many_here","_law_row_here"] ["_law_way","_law_cell"] (Z0e Z1y):=⟨rfl,rfl,rfl,qP,rfl,qP,qP⟩
theorem O0m:Z0n ["_law_script","_law_cell","_law_way","_law_many_here","_law_more","_law_body","_law_deep_here","_law_great","_law_brackets","_law_found","_law_last","_law_text","_law_is_good"] ["_law_script"] (Z0e Z9t):=⟨rfl,rfl,rfl,qP,rfl,qP,qP⟩
theorem Z3I:Z0n ["self","all_words"] ["self","all_words"] (Z0e Z1i):=⟨rfl,rfl,rfl,qP,rfl,qP,qP⟩
theorem Z4G:Z0n ["self"] ["self"] (Z0e Z1P):=⟨rfl,rfl,rfl,qP,rfl,qP,qP⟩
theorem Z4v:Z0n ["self"] ["self"] (Z0e Z1B):=⟨rfl,rfl,rfl,qP,rfl,qP,qP⟩
theorem sc_Guest_take:Z0n ["self","word"] ["self"] (Z0e Z2a):=⟨rfl,rfl,rfl,qP,rfl,qP,qP⟩
theorem Z4K:Z0n ["self","word"] ["self","word"] (Z0e Z1O):=⟨rfl,rfl,rfl,qP,rfl,qP,qP⟩
theorem Z5R:Z0n ["self","word"] ["self","word"] (Z0e Z2f):=⟨rfl,rfl,rfl,qP,rfl,qP,qP⟩
theorem Z3p:Z0n ["self"] ["self"] (Z0e Z1d):=⟨rfl,rfl,rfl,qP,rfl,qP,qP⟩
theorem Z3H:Z0n ["self"] ["self"] (Z0e Z1j):=⟨rfl,rfl,rfl,qP,rfl,qP,qP⟩
theorem Z3S:Z0n ["self","form","label","parts"] ["self","form","label","parts"] (Z0e Z1s):=⟨rfl,rfl,rfl,qP,rfl,qP,qP⟩
theorem Z5V:Z0n ["self"] ["self"] (Z0e Z2e):=⟨rfl,rfl,rfl,qP,rfl,qP,qP⟩
theorem Z5T:Z0n ["self"] ["self"] (Z0e Z2b):=⟨rfl,rfl,rfl,qP,rfl,qP,qP⟩
theorem Z5C:Z0n ["self"] ["self"] (Z0e Z2h):=⟨rfl,rfl,rfl,qP,rfl,qP,qP⟩
theorem Z6d:Z0n ["self"] ["self"] (Z0e Z2v):=⟨rfl,rfl,rfl,qP,rfl,qP,qP⟩
theorem Z3R:Z0n ["self","name","params","kind","body"] ["self","name","params","kind","body"] (Z0e Z1q):=⟨rfl,rfl,rfl,qP,rfl,qP,qP⟩
theorem Z3D:Z0n ["self","name","elder","own_fields","own_words"] ["self","name","elder","own_fields","own_words"] (Z0e Z1l):=⟨rfl,rfl,rfl,qP,rfl,qP,qP⟩
theorem Z3h:Z0n ["self","all_houses","main"] ["self","all_houses","main"] (Z0e Z0V):=⟨rfl,rfl,rfl,qP,rfl,qP,qP⟩
theorem sc_Program_bodies:Z0n ["self","told","house"] ["self"] (Z0e Z1k):=⟨rfl,rfl,rfl,qP,rfl,qP,qP⟩
noncomputable def Z1J:List (Key×V):=[(.inr ";",.int 1),(.inr "<",.int 2),(.inr "=",.int 2),(.inr "+",.int 3),(.inr "-",.int 3),(.inr "*",.int 4),(.inr "/",.int 4)]
noncomputable def Z2N:List (Key×V):=[(.inr "yes",.bl true),(.inr "no",.bl false)]
structure Txt(P:Program)(w:U0)(K:y0)(mg:Z0->Option q0)(C_Guest:t0)(Ct:t0)(Cw:t0)(Ch:t0)(Cp:t0)(C_BadForm:t0)(D_STRENGTHS:t0)(D_TRUTHS:t0)(U_TOLD_WORDS:t0):Prop where
 z_all:mg "all"=none
 z_any:mg "any"=none
 z_int:mg "int"=none
 O0n:mg "isinstance"=none
 z_len:mg "len"=none
 z_list:mg "list"=none
 z_max:mg "max"=none
 z_min:mg "min"=none
 z_str:mg "str"=none
 z_sum:mg "sum"=none
 O0z:mg "tuple"=none
 c_ABOVE_WEAKEST:Cst mg "ABOVE_WEAKEST" (.int 2)
 c_FIGURES:Cst mg "FIGURES" (.str "0123456789")
 c_GAPS:Cst mg "GAPS" (.str " \t\n")
 c_GREAT_LETTERS:Cst mg "GREAT_LETTERS" (.str "ABCDEFGHIJKLMNOPQRSTUVWXYZ")
 c_LONGEST_NAME:Cst mg "LONGEST_NAME" (.int 8)
 c_LONGEST_NUMBER:Cst mg "LONGEST_NUMBER" (.int 9)
 c_LONGEST_TEXT:Cst mg "LONGEST_TEXT" (.int 6000)
 c_MOST_DEEP:Cst mg "MOST_DEEP" (.int 14)
 c_MOST_FIELDS:Cst mg "MOST_FIELDS" (.int 4)
 c_MOST_HOUSES:Cst mg "MOST_HOUSES" (.int 12)
 c_MOST_OPEN:Cst mg "MOST_OPEN" (.int 14)
 c_MOST_PARAMS:Cst mg "MOST_PARAMS" (.int 4)
 c_MOST_SIZE:Cst mg "MOST_SIZE" (.int 400)
 c_MOST_TERMS:Cst mg "MOST_TERMS" (.int 8)
 c_MOST_WORDS:Cst mg "MOST_WORDS" (.int 8)
 c_SIGNS:Cst mg "SIGNS" (.str "(){},.;=+-*/<")
 c_SMALL_LETTERS:Cst mg "SMALL_LETTERS" (.str "abcdefghijklmnopqrstuvwxyz")
 c_WEAKEST:Cst mg "WEAKEST" (.int 1)
 c_STRENGTHS:Cst mg "STRENGTHS" (.ref D_STRENGTHS)
 d_STRENGTHS:Z8Y P w K D_STRENGTHS Z1J
 c_TRUTHS:Cst mg "TRUTHS" (.ref D_TRUTHS)
 d_TRUTHS:Z8Y P w K D_TRUTHS Z2N
 c_TOLD_WORDS:Cst mg "TOLD_WORDS" (.ref U_TOLD_WORDS)
 t_TOLD_WORDS:UTup K U_TOLD_WORDS [.str "house",.str "of",.str "has",.str "can",.str "main",.str "let",.str "in",.str "if",.str "then",.str "else",.str "new",.str "self",.str "elder",.str "set",.str "not",.str "yes",.str "no",.str "number",.str "truth"]
 O1A:Fn K mg "is_told" O0H
 O1B:Fn K mg "is_name" O0I
 O1H:Fn K mg "words" O1b
 O1C:Fn K mg "word_at" O0J
 O1F:Fn K mg "row_at" O0Q
 O1c:Fn K mg "is_row_sign" O0h
 O0R:Fn K mg "is_number" O0q
 O0L:Fn K mg "is_name_row" O0i
 O1o:Fn K mg "shape_of" Z2U
 O1p:Fn K mg "pairs_of" Z2Y
 f_read:Fn K mg "read" Z7Q
 O0S:Fn K mg "need_few_open" Z1t
 O1q:Fn K mg "need_few" Z2Z
 O1d:Fn K mg "need_bounds" Z1Q
 O1f:Fn K mg "read_house" Z2g
 O1h:Fn K mg "read_word" Z2p
 O0A:Fn K mg "read_pair" Z2w
 O1i:Fn K mg "read_kind" Z2A
 O1j:Fn K mg "read_list" Z2o
 O1G:Fn K mg "read_terms" Z0E
 O0T:Fn K mg "read_term" Z2B
 O0U:Fn K mg "read_part" Z2x
 O1D:Fn K mg "read_if" Z3o
 O1r:Fn K mg "read_let" Z3a
 O1s:Fn K mg "read_set" Z2W
 O0X:Fn K mg "read_pointed" Z1C
 O1t:Fn K mg "read_one" Z2T
 O0Y:Fn K mg "_law_cell_at" Z1z
 O1k:Fn K mg "_law_told" Z2q
 O1l:Fn K mg "_law_deep" Z2t
 O1m:Fn K mg "_law_many" Z2s
 O1u:Fn K mg "_law_row" Z2S
 O0Z:Fn K mg "_law_counted" Z1y
 f_law:Fn K mg "law" Z9t
 Guest:Z7h K mg "Guest" C_Guest
 n_Guest_gone:NoAttr K C_Guest "gone"
 n_Guest_row:NoAttr K C_Guest "row"
 Term:Z7h K mg "Term" Ct
 n_Term_deep:NoAttr K Ct "deep"
 n_Term_form:NoAttr K Ct "form"
 n_Term_inner:NoAttr K Ct "inner"
 n_Term_label:NoAttr K Ct "label"
 n_Term_many:NoAttr K Ct "many"
 n_Term_shape:NoAttr K Ct "shape"
 Word:Z7h K mg "Word" Cw
 n_Word_body:NoAttr K Cw "body"
 n_Word_kind:NoAttr K Cw "kind"
 n_Word_name:NoAttr K Cw "name"
 n_Word_params:NoAttr K Cw "params"
 House:Z7h K mg "House" Ch
 n_House_elder:NoAttr K Ch "elder"
 n_House_name:NoAttr K Ch "name"
 n_House_own_fields:NoAttr K Ch "own_fields"
 n_House_own_words:NoAttr K Ch "own_words"
 Program:Z7h K mg "Program" Cp
 n_Program_all_houses:NoAttr K Cp "all_houses"
 n_Program_main:NoAttr K Cp "main"
 x_BadForm:XOk K mg "BadForm" C_BadForm
 m_Guest___init__:MFn K C_Guest "__init__" "Guest.__init__" Z1i
 m_Guest_ahead:MFn K C_Guest "ahead" "Guest.ahead" Z1P
 m_Guest_behind:MFn K C_Guest "behind" "Guest.behind" Z1B
 m_Guest_take:MFn K C_Guest "take" "Guest.take" Z2a
 m_Guest_takes:MFn K C_Guest "takes" "Guest.takes" Z1O
 m_Guest_need:MFn K C_Guest "need" "Guest.need" Z2f
 m_Guest_need_name:MFn K C_Guest "need_name" "Guest.need_name" Z1d
 m_Guest_need_end:MFn K C_Guest "need_end" "Guest.need_end" Z1j
 m_Term___init__:MFn K Ct "__init__" "Term.__init__" Z1s
 m_Term_plain:MFn K Ct "plain" "Term.plain" Z2e
 m_Term_parts:MFn K Ct "parts" "Term.parts" Z2b
 m_Term_depth:MFn K Ct "depth" "Term.depth" Z2h
 m_Term_size:MFn K Ct "size" "Term.size" Z2v
 m_Word___init__:MFn K Cw "__init__" "Word.__init__" Z1q
 m_Word_plain:MFn K Cw "plain" "Word.plain" Z2M
 m_House___init__:MFn K Ch "__init__" "House.__init__" Z1l
 m_House_plain:MFn K Ch "plain" "House.plain" Z2z
 m_Program___init__:MFn K Cp "__init__" "Program.__init__" Z0V
 m_Program_plain:MFn K Cp "plain" "Program.plain" Z1X
 m_Program_bodies:MFn K Cp "bodies" "Program.bodies" Z1k
def isA:Fm->Bool| .self| .nt| .iff=>true|_=>false
def isN:Fm->Bool| .new| .elder=>true|_=>false
def isF:Fm->Bool| .field| .set=>true|_=>false
theorem inA(f:Fm):inV (V.str f.s) [V.str (Str.ofString "self"),V.str (Str.ofString "not"),V.str (Str.ofString "if")]=isA f:=by cases f<;>decide+kernel
theorem inN(f:Fm):inV (V.str f.s) [V.str (Str.ofString "new"),V.str (Str.ofString "elder")]=isN f:=by cases f<;>decide+kernel
theorem inF(f:Fm):inV (V.str f.s) [V.str (Str.ofString "field"),V.str (Str.ofString "set")]=isF f:=by cases f<;>decide+kernel
theorem isC(f:Fm):f.s=Str.ofString "call"->f=.call:=by cases f<;>first|exact λ _=>rfl|exact λ h=>absurd h qP
theorem shA{f:Fm}{l:Lb}{ds:List PyData}(h:isA f=true):Z1m f l ds=.str f.s::ds:=by cases f<;>first|rfl|cases h
theorem shN{f:Fm}{l:Lb}{ds:List PyData}(h:isN f=true):Z1m f l ds=[.str f.s,l.d,.tuple ds]:=by cases f<;>first|rfl|cases h
theorem shF{f:Fm}{l:Lb}{d:PyData}{ds:List PyData}(h:isF f=true):Z1m f l (d::ds)=.str f.s::d::l.d::ds:=by cases f<;>first|rfl|cases h
theorem shR{f:Fm}{l:Lb}{ds:List PyData}(h1:¬isA f=true)(h2:¬isN f=true)(h3:¬f=.call)(h4:¬isF f=true):Z1m f l ds=.str f.s::l.d::ds:=by cases f<;>first|rfl|exact absurd rfl h1|exact absurd rfl h2|exact absurd rfl h3|exact absurd rfl h4
theorem J1n{f:Fm}{l:Lb}{ds:List PyData}(h:okF f l ds.length)(c:f=.call\/isF f=true):∃d r,ds=d::r:=by
 cases ds with
 |cons d r=>exact⟨d,r,rfl⟩
 |nil=>
  cases f<;>cases l<;>first|(rcases c with c|c<;>cases c;done)|exact absurd h qQ|cases h
theorem cut1(x:V)(xs:List V):cutV (x::xs) (some 1) none=xs:=by
 rw[show(some (1:Int))=some ((1:Nat):Int)from rfl];unfold cutV;simp[HT.sIx]
inductive Z8D(K:y0)(vs:List V)(H:Hp)(Q:VK):Prop
 |mk(f:Fm)(l:Lb)(p:t0)(us:List V)(ds:List PyData)(a1:vs=[.str f.s,lbV l,.ref p])(a2:SqT K H p us)(a3:RTs K H us ds)(a4:okF f l ds.length)(a5:ds.length<=20000)(a6:∀r ws H',Same H H'->SqT K H' r ws->RTs K H' ws (Z1m f l ds)->Q (.ref r) H'):Z8D K vs H Q
def Z7U(K:y0):Sp:=λ vs H Q _=>Z8D K vs H Q
theorem J2N(T:Txt P w K mg C_Guest Ct Cw Ch Cp C_BadForm D_STRENGTHS D_TRUTHS U_TOLD_WORDS):Has P w K mg base 1 "shape_of" ["form","label","parts"] (Z7U K):=by
 refine Has.of T.O1o Z7C (λ _ _ _ _ _ _ us hl=>el3 us hl λ _ _ _=>rfl) (λ vs H Q E h=>?_) (λ f cdv A outer s H vs Q E hr h=>?_)
 ·obtain⟨f,l,p,us,ds,rfl,_⟩:=h;rfl
 obtain⟨f,l,p,us,ds,rfl,hp,hu,hok,hl,q⟩:=h;refine⟨_,(Z0a (Z0r (Z2L (r:=rIn K false) Z2n (pvF 0) (Z0C (qK Z0d Z0d Z0d)) (by with_unfolding_all rfl)) (Z0b (Z0l (Z0f (r:=J1M K) Z7F (Z0C (qI (pvF 0))) (pvF 2)))) Z0m) (Z0a (Z0r (Z2L (r:=rIn K false) Z2n (pvF 0) (Z0C (qJ Z0d Z0d)) (by with_unfolding_all rfl)) (Z0b (Z0l (Z0C (qK (pvF 0) (pvF 1) (pvF 2))))) Z0m) (Z0a (Z0r (qM Z1a (pvF 0) Z0d) (Z0b (Z0l (Z0C (Z0t (pvF 0) (qK (qA K 2) (pvF 1) (Z5v (r:=rSlA K) J1b (pvF 2) (Z5p Z0c) J0I)))))) Z0m) (Z0a (Z0r (Z2L (r:=rIn K false) Z2n (pvF 0) (Z0C (qJ Z0d Z0d)) (by with_unfolding_all rfl)) (Z0b (Z0l (Z0f (r:=J1M K) Z7F (Z0C (qK (pvF 0) (qA K 2) (pvF 1))) (Z5v (r:=rSlA K) J1b (pvF 2) (Z5p Z0c) J0I)))) Z0m) (Z0b (Z0l (Z0f (r:=J1M K) Z7F (Z0C (qJ (pvF 0) (pvF 1))) (pvF 2)))))))),?_⟩;walk_at "r";have hus:us.length<=20000:=by rw[hu.length];exact hl
 refine New.of λ p1 H1 h1 s1 e1=>?_;refine⟨_,.inr (SqT.of e1),rfl,rfl,?_⟩;rw[inA];refine ite2 (λ c=>?_) (λ cA=>?_)
 ·skip
  refine New.of λ p2 H2 h2 s2 e2=>?_;have S:=s1.trans s2;refine⟨_,_,_,_,rfl,rfl,SqT.of e2,hp.same S,by rw[sizeLine_eq];show 1+us.length<=_;lia,λ r H' s' hr=>q r _ H' (S.trans s') hr ?_⟩;rw[shA c];exact .cons (.str _) (hu.same (S.trans s'))
 refine New.of λ p2 H2 h2 s2 e2=>?_;refine⟨_,.inr (SqT.of e2),rfl,rfl,?_⟩;rw[inN];have S2:=s1.trans s2;refine ite2 (λ c=>?_) (λ cN=>?_)
 ·skip
  refine New.of λ p3 H3 h3 s3 e3=>?_;have S:=S2.trans s3;refine q _ _ H3 S (SqT.of e3) ?_;rw[shN c];exact .cons (.str _) (.cons (J2c l) (.cons (.tup (hp.same S) (hu.same S)) .nil))
 refine ite2 (λ c=>?_) (λ cC=>?_)
 ·obtain⟨d,r,rfl⟩:=J1n hok (.inl (isC f c));obtain⟨v,vr,rfl,hv,hr'⟩:=hu.inv;refine⟨_,hp.same S2,v,ix0,?_⟩;refine⟨p,_,rfl,hp.same S2,λ p3 H3 s3 h3=>?_⟩;rw[cut1]at h3;refine New.of λ p4 H4 h4 s4 e4=>?_;have S:=S2.trans (s3.trans s4);refine q _ _ H4 S (SqT.of e4) ?_;cases isC f c;exact .cons (.str _) (.cons (hv.same S) (.cons (J2c l) (.cons (.tup (h3.same s4) (hr'.same S)) .nil)))
 have cC':¬f=.call:=λ z=>cC (by rw[z];rfl);refine New.of λ p3 H3 h3 s3 e3=>?_;refine⟨_,.inr (SqT.of e3),rfl,rfl,?_⟩;rw[inF];have S3:=S2.trans s3;refine ite2 (λ c=>?_) (λ cF=>?_)
 ·obtain⟨d,r,rfl⟩:=J1n hok (.inr c);obtain⟨v,vr,rfl,hv,hr'⟩:=hu.inv;refine⟨_,hp.same S3,v,ix0,?_⟩;refine New.of λ p4 H4 h4 s4 e4=>?_;have S4:=S3.trans s4;refine⟨p,_,rfl,hp.same S4,λ p5 H5 s5 h5=>?_⟩;rw[cut1]at h5;refine⟨_,_,_,_,rfl,rfl,SqT.of (s5 _ _ e4),h5,by rw[sizeLine_eq];show 3+vr.length<=_;simp at hus;lia,λ r' H' s' hr=>q r' _ H' (S4.trans (s5.trans s')) hr ?_⟩;rw[shF c];have S:=S4.trans (s5.trans s');exact .cons (.str _) (.cons (hv.same S) (.cons (J2c l) (hr'.same S)))
 refine New.of λ p4 H4 h4 s4 e4=>?_;have S4:=S3.trans s4;refine⟨_,_,_,_,rfl,rfl,SqT.of e4,hp.same S4,by rw[sizeLine_eq];show 2+us.length<=_;lia,λ r H' s' hr=>q r _ H' (S4.trans s') hr ?_⟩;rw[shR cA cN cC' cF];exact .cons (.str _) (.cons (J2c l) (hu.same (S4.trans s')))
inductive Z6Y(C:t0)(K:y0)(vs:List V)(H:Hp)(Q:VK):Prop
 |mk(v:V)(t:Tm)(a1:vs=[v])(a2:TO K C H v t)(a3:∀u,RT K H u t.dat->Q u H):Z6Y C K vs H Q
def Z6k(C:t0)(K:y0):Sp:=λ vs H Q _=>Z6Y C K vs H Q
inductive Z6C(C:t0)(K:y0)(vs:List V)(H:Hp)(Q:VK):Prop
 |mk(v:V)(t:Tm)(a1:vs=[v])(a2:TO K C H v t)(a3:∀l us,H l=none->TOs K C H us t.ps->Q (.ref l) (upd H l (.lst us))):Z6C C K vs H Q
def Z6i(C:t0)(K:y0):Sp:=λ vs H Q _=>Z6C C K vs H Q
inductive Z6W(C:t0)(K:y0)(vs:List V)(H:Hp)(Q:VK):Prop
 |mk(v:V)(t:Tm)(a1:vs=[v])(a2:TO K C H v t)(a3:Q (.int (t.depth:Nat)) H):Z6W C K vs H Q
def Z3n(C:t0)(K:y0):Sp:=λ vs H Q _=>Z6W C K vs H Q
inductive Z7N(C:t0)(K:y0)(vs:List V)(H:Hp)(Q:VK):Prop
 |mk(v:V)(t:Tm)(a1:vs=[v])(a2:TO K C H v t)(a3:Q (.int (t.size:Nat)) H):Z7N C K vs H Q
def Z4a(C:t0)(K:y0):Sp:=λ vs H Q _=>Z7N C K vs H Q
theorem Z9Z(T:Txt P w K mg C_Guest Ct Cw Ch Cp C_BadForm D_STRENGTHS D_TRUTHS U_TOLD_WORDS):HasM P w K mg base 1 Ct "plain" ["self"] (Z6k Ct K):=by
 refine HasM.of T.m_Term_plain Z5V (λ _ _ _ _ _ _ us hl=>el1 us hl λ _=>rfl) (λ vs H Q E h=>?_) (λ f cdv A outer s H vs Q E hr h=>?_)
 ·obtain⟨v,t,rfl,_⟩:=h;rfl
 obtain⟨v,t,rfl,h,q⟩:=h;refine⟨_,(Z0b (Z0l (qO 0))),?_⟩;walk_at "r";obtain⟨a,dx,inn,sh,us,ws,rfl,ha,hi,hus,hs,hw⟩:=h.inv;refine⟨a,rfl,Ct,dx,_,ha,T.Term.cl,T.n_Term_shape,.ref sh,rfl,q _ ?_⟩;cases t;exact .tup hs hw
theorem J0r(T:Txt P w K mg C_Guest Ct Cw Ch Cp C_BadForm D_STRENGTHS D_TRUTHS U_TOLD_WORDS):HasM P w K mg base 1 Ct "parts" ["self"] (Z6i Ct K):=by
 refine HasM.of T.m_Term_parts Z5T (λ _ _ _ _ _ _ us hl=>el1 us hl λ _=>rfl) (λ vs H Q E h=>?_) (λ f cdv A outer s H vs Q E hr h=>?_)
 ·obtain⟨v,t,rfl,_⟩:=h;rfl
 obtain⟨v,t,rfl,h,q⟩:=h;refine⟨_,(Z0b (Z0l (Z1h Z6u rfl T.z_list J4i (qI (qO 0))))),?_⟩;walk_at "r";obtain⟨a,dx,inn,sh,us,ws,rfl,ha,hi,hus,hs,hw⟩:=h.inv;exact⟨a,rfl,Ct,dx,_,ha,T.Term.cl,T.n_Term_inner,.ref inn,rfl,inn,rfl,us,.inr hi,λ l hl=>q l us hl hus⟩
theorem Z7d(T:Txt P w K mg C_Guest Ct Cw Ch Cp C_BadForm D_STRENGTHS D_TRUTHS U_TOLD_WORDS):HasM P w K mg base 1 Ct "depth" ["self"] (Z3n Ct K):=by
 refine HasM.of T.m_Term_depth Z5C (λ _ _ _ _ _ _ us hl=>el1 us hl λ _=>rfl) (λ vs H Q E h=>?_) (λ f cdv A outer s H vs Q E hr h=>?_)
 ·obtain⟨v,t,rfl,_⟩:=h;rfl
 obtain⟨v,t,rfl,h,q⟩:=h;refine⟨_,(Z0b (Z0l (qO 0))),?_⟩;walk_at "r";obtain⟨a,dx,inn,sh,us,ws,rfl,ha,hi,hus,hs,hw⟩:=h.inv;exact⟨a,rfl,Ct,dx,_,ha,T.Term.cl,T.n_Term_deep,.int (t.depth:Nat),rfl,q⟩
theorem Z8O(T:Txt P w K mg C_Guest Ct Cw Ch Cp C_BadForm D_STRENGTHS D_TRUTHS U_TOLD_WORDS):HasM P w K mg base 1 Ct "size" ["self"] (Z4a Ct K):=by
 refine HasM.of T.m_Term_size Z6d (λ _ _ _ _ _ _ us hl=>el1 us hl λ _=>rfl) (λ vs H Q E h=>?_) (λ f cdv A outer s H vs Q E hr h=>?_)
 ·obtain⟨v,t,rfl,_⟩:=h;rfl
 obtain⟨v,t,rfl,h,q⟩:=h;refine⟨_,(Z0b (Z0l (qO 0))),?_⟩;walk_at "r";obtain⟨a,dx,inn,sh,us,ws,rfl,ha,hi,hus,hs,hw⟩:=h.inv;exact⟨a,rfl,Ct,dx,_,ha,T.Term.cl,T.n_Term_many,.int (t.size:Nat),rfl,q⟩
inductive Z7K(C:t0)(K:y0)(vs:List V)(H:Hp)(Q:VK):Prop
 |mk(x dx p:t0)(f:Fm)(l:Lb)(us:List V)(ps:List Tm)(a1:vs=[.ref x,.str f.s,lbV l,.ref p])(a2:H x=some (.ins C dx []))(a3:SqL K H p us)(a4:TOs K C H us ps)(a5:okF f l ps.length)(a6:ps.length<=20000)(a7:∀H',SX x H H'->TO K C H' (.ref x) (.mk f l ps)->Q .non H'):Z7K C K vs H Q
def Z1o(C:t0)(K:y0):Sp:=λ vs H Q _=>Z7K C K vs H Q
theorem J5O{ts:List Tm}{m:Int}(h0:ts.map (λ t=>((t.depth:Nat):Int))=[]->m=0)(h1:ts.map (λ t=>((t.depth:Nat):Int))≠[]->J1E (ts.map λ t=>((t.depth:Nat):Int)) m):m=((maxD ts:Nat):Int):=by
 cases ts with
 |nil=>exact h0 rfl
 |cons t ts=>
  obtain⟨hm,hle⟩:=h1 (by simp);obtain⟨u,hu,rfl⟩:=qf9.mp hm;have a:=J0H hu;have b:maxD (t::ts)<=u.depth:=J1p λ v hv=>by
   have:=hle _ (qf9.mpr ⟨v,hv,rfl⟩);lia
  lia
theorem J3u:∀ts:List Tm,(ts.map λ t=>((t.size:Nat):Int)).sum=((sumS ts:Nat):Int)
 |[]=>rfl
 |t::ts=>by
  rw[qc0,List.sum_cons,J3u ts];show _=((t.size+sumS ts:Nat):Int);lia
theorem Z8S{α:Type}{g:α->V}{ts:List α}{vs:List V}(hl:vs.length=ts.length)(h:∀(j:Nat) v,vs[j]?=some v->∃t,ts[j]?=some t/\v=g t):vs=ts.map g:=by
 refine List.ext_getElem? λ j=>?_;rw[qc4];by_cases hj:j<vs.length
 ·obtain⟨t,a,b⟩:=h j _ (qa7 hj);rw[qa7 hj,a,b];rfl
 ·rw[qg2 qR,qg2 qR];rfl
theorem kpN{H H':Hp}(s:Z6S H H'):Kp H H':=⟨λ b xs h=>s b _ (λ ys z=>by cases z) h,λ b o xs h=>s b _ (λ ys z=>by cases z) h,λ b C dx f fs h=>s b _ (λ ys z=>by cases z) h⟩
theorem J3g{K:y0}{H:Hp}:∀{ts:List Tm}{vs:List V},vs.length=ts.length->(∀(j:Nat) v,vs[j]?=some v->∃t,ts[j]?=some t/\RT K H v t.dat)->RTs K H vs (dats ts)
 |[],[],_,_=>.nil
 |t::ts,v::vs,e,h=>by
  obtain⟨t',a,b⟩:=h 0 v rfl;cases a;exact .cons b (J3g (qh5 e) λ j u hu=>h (j+1) u hu)
theorem J2J(T:Txt P w K mg C_Guest Ct Cw Ch Cp C_BadForm D_STRENGTHS D_TRUTHS U_TOLD_WORDS)(O1v:Has P w K mg base 1 "shape_of" ["form","label","parts"] (Z7U K))(h_Term_plain:HasM P w K mg base 1 Ct "plain" ["self"] (Z6k Ct K))(h_Term_depth:HasM P w K mg base 1 Ct "depth" ["self"] (Z3n Ct K))(h_Term_size:HasM P w K mg base 1 Ct "size" ["self"] (Z4a Ct K)):HasM P w K mg base 2 Ct "__init__" ["self","form","label","parts"] (Z1o Ct K):=by
 refine HasM.of T.m_Term___init__ Z3S (λ _ _ _ _ _ _ us hl=>el4 us hl λ _ _ _ _=>rfl) (λ vs H Q E h=>?_) (λ f cdv A outer s H vs Q E hr h=>?_)
 ·obtain⟨x,dx,p,f,l,us,ps,rfl,_⟩:=h;rfl
 obtain⟨x,dx,p,f,l,us,ps,rfl,hx,hp,hu,hok,hl,q⟩:=h;refine⟨_,(Z0a (Z0U (pvF 0) (pvF 1) rfl) (Z0a (Z0U (pvF 0) (pvF 2) rfl) (Z0a (Z0U (pvF 0) (Z1h Z0R rfl T.O0z Z2u (qI (pvF 3))) rfl) (Z0a (Z0U (pvF 0) (Z0f Z0N Z0c (J4U rfl rfl T.z_max J5P (qI (Z1A rfl (BlockOk.plain (N:=["part"]) rfl qP qP qP) (Z4Y (qO 0)) (λ C fp s H=>(qH 0 (show(["part"]:List Z0).Nodup by decide+kernel))) (λ C fp s H=>(Z0x (pvF 0) T.Term.cl h_Term_depth hr qQ)))) (J4u Z0c J5q))) rfl) (Z0a (Z0U (pvF 0) (Z0f Z0N Z0c (Z0s (Z7X rfl) rfl T.z_sum J3f (qI (Z1A rfl (BlockOk.plain (N:=["part"]) rfl qP qP qP) (Z4Y (qO 0)) (λ C fp s H=>(qH 0 (show(["part"]:List Z0).Nodup by decide+kernel))) (λ C fp s H=>(Z0x (pvF 0) T.Term.cl h_Term_size hr qQ)))))) rfl) (Z0b (Z0U (pvF 0) (qF O1v hr (qK (pvF 1) (pvF 2) (Z1h Z0R rfl T.O0z Z2u (qI (Z1A rfl (BlockOk.plain (N:=["part"]) rfl qP qP qP) (Z4Y (qO 0)) (λ C fp s H=>(qH 0 (show(["part"]:List Z0).Nodup by decide+kernel))) (λ C fp s H=>(Z0x (pvF 0) T.Term.cl h_Term_plain hr qQ))))))) rfl))))))),?_⟩;refine seq6 λ uz5 huz5 uz4 huz4 uz3 huz3 uz2 huz2 uz1 huz1=>?_;walk_at "r";refine⟨Ct,dx,_,hx,T.Term.cl,T.n_Term_form,qb3 rfl,?_⟩;subst huz1;walk_at "r";refine⟨Ct,dx,_,Z0g,T.Term.cl,T.n_Term_label,qb3 rfl,?_⟩;subst huz2;walk_at "r";have S1:SX x H (upd (upd H x (.ins Ct dx (putF "form" (.str f.s) []))) x (.ins Ct dx (putF "label" (lbV l) (putF "form" (.str f.s) [])))):=(SX.put _).trans (SX.put _);have X1:upd (upd H x (.ins Ct dx (putF "form" (.str f.s) []))) x (.ins Ct dx (putF "label" (lbV l) (putF "form" (.str f.s) []))) x=some (.ins Ct dx (putF "label" (lbV l) (putF "form" (.str f.s) []))):=Z0g;generalize upd (upd H x (.ins Ct dx (putF "form" (.str f.s) []))) x (.ins Ct dx (putF "label" (lbV l) (putF "form" (.str f.s) [])))=H1 at*;refine⟨us,.inl ⟨S1.sqL hx hp,λ inn hinn=>?_⟩⟩;have nx:inn≠x:=λ z=>Z0i X1 hinn z.symm;have s2:=Z0K hinn (.tup us);refine⟨Ct,dx,_,s2 _ _ X1,T.Term.cl,T.n_Term_inner,qb3 rfl,?_⟩;have S2:SX x H (upd (upd H1 inn (.tup us)) x (.ins Ct dx (putF "inner" (.ref inn) (putF "label" (lbV l) (putF "form" (.str f.s) []))))):=S1.trans ((SX.of s2).trans (SX.put _));have X2:upd (upd H1 inn (.tup us)) x (.ins Ct dx (putF "inner" (.ref inn) (putF "label" (lbV l) (putF "form" (.str f.s) [])))) x=some (.ins Ct dx (putF "inner" (.ref inn) (putF "label" (lbV l) (putF "form" (.str f.s) [])))):=Z0g;have I2:upd (upd H1 inn (.tup us)) x (.ins Ct dx (putF "inner" (.ref inn) (putF "label" (lbV l) (putF "form" (.str f.s) [])))) inn=some (.tup us):=by rw[Z0k nx];exact Z0g
 clear s2 hinn X1 S1;generalize upd (upd H1 inn (.tup us)) x (.ins Ct dx (putF "inner" (.ref inn) (putF "label" (lbV l) (putF "form" (.str f.s) []))))=H2 at*;have hus:us.length=ps.length:=hu.length;have U2:TOs K Ct H2 us ps:=hu.kp (S2.kp hx);subst huz3;walk_at "r";refine⟨Ct,dx,_,X2,T.Term.cl,T.n_Term_inner,.ref inn,rfl,inn,rfl,⟨_,SqT.of I2⟩,λ D hD=>?_⟩;refine Z2X (ys:=us) none [] (λ j v H=>∃t,ps[j]?=some t/\v=.int ((t.depth:Nat):Int)) (λ _ _ _ _ h _=>h) rfl hD (by rw[sizeLine_eq];lia) (λ H1 s=>SqT.of (s _ _ I2)) (λ i y hy H1 K' s k=>?_) (λ vs Ha Sa hv lv hR=>?_)
 ·walk_at "r";obtain⟨t,ht,hto⟩:=U2.at hy;have hto:=hto.kp (Kp.of s);obtain⟨a,dx',inn',sh',us',ws',rfl,ha,_⟩:=hto.inv;exact⟨a,rfl,dx',_,ha,rfl,_,t,rfl,hto,k _ _ (Same.refl _) ⟨t,ht,rfl⟩⟩
 cases Z8S (g:=λ t:Tm=>V.int ((t.depth:Nat):Int)) (lv.trans hus) hR;refine⟨D,rfl,ps.map λ t=>((t.depth:Nat):Int),by rw[qd6];exact SqL.of hv,λ m m0 m1=>?_⟩;cases J5O m0 m1;refine⟨Ct,dx,_,Sa _ _ X2,T.Term.cl,T.n_Term_deep,qb3 rfl,?_⟩;have S3:SX x H2 (upd Ha x (.ins Ct dx (putF "deep" (.int (1+((maxD ps:Nat):Int))) (putF "inner" (.ref inn) (putF "label" (lbV l) (putF "form" (.str f.s) [])))))):=(SX.of Sa).trans (SX.put _);have X3:upd Ha x (.ins Ct dx (putF "deep" (.int (1+((maxD ps:Nat):Int))) (putF "inner" (.ref inn) (putF "label" (lbV l) (putF "form" (.str f.s) []))))) x=some (.ins Ct dx (putF "deep" (.int (1+((maxD ps:Nat):Int))) (putF "inner" (.ref inn) (putF "label" (lbV l) (putF "form" (.str f.s) []))))):=Z0g;clear hv hR hD Sa;generalize upd Ha x (.ins Ct dx (putF "deep" (.int (1+((maxD ps:Nat):Int))) (putF "inner" (.ref inn) (putF "label" (lbV l) (putF "form" (.str f.s) [])))))=H3 at*;have I3:=S3 _ _ nx I2;have U3:TOs K Ct H3 us ps:=hu.kp ((S2.trans S3).kp hx);subst huz4;walk_at "r";refine⟨Ct,dx,_,X3,T.Term.cl,T.n_Term_inner,.ref inn,rfl,inn,rfl,⟨_,SqT.of I3⟩,λ D hD=>?_⟩;refine Z2X (ys:=us) none [] (λ j v H=>∃t,ps[j]?=some t/\v=.int ((t.size:Nat):Int)) (λ _ _ _ _ h _=>h) rfl hD (by rw[sizeLine_eq];lia) (λ H1 s=>SqT.of (s _ _ I3)) (λ i y hy H1 K' s k=>?_) (λ vs Hb Sb hv lv hR=>?_)
 ·walk_at "r";obtain⟨t,ht,hto⟩:=U3.at hy;have hto:=hto.kp (Kp.of s);obtain⟨a,dx',inn',sh',us',ws',rfl,ha,_⟩:=hto.inv;exact⟨a,rfl,dx',_,ha,rfl,_,t,rfl,hto,k _ _ (Same.refl _) ⟨t,ht,rfl⟩⟩
 cases Z8S (g:=λ t:Tm=>V.int ((t.size:Nat):Int)) (lv.trans hus) hR;refine⟨D,rfl,ps.map (λ t=>((t.size:Nat):Int)),by rw[qd6];exact SqL.of hv,?_⟩;rw[J3u];refine⟨Ct,dx,_,Sb _ _ X3,T.Term.cl,T.n_Term_many,qb3 rfl,?_⟩;have S4:SX x H3 (upd Hb x (.ins Ct dx (putF "many" (.int (1+((sumS ps:Nat):Int))) (putF "deep" (.int (1+((maxD ps:Nat):Int))) (putF "inner" (.ref inn) (putF "label" (lbV l) (putF "form" (.str f.s) []))))))):=(SX.of Sb).trans (SX.put _);have X4:upd Hb x (.ins Ct dx (putF "many" (.int (1+((sumS ps:Nat):Int))) (putF "deep" (.int (1+((maxD ps:Nat):Int))) (putF "inner" (.ref inn) (putF "label" (lbV l) (putF "form" (.str f.s) [])))))) x=some (.ins Ct dx (putF "many" (.int (1+((sumS ps:Nat):Int))) (putF "deep" (.int (1+((maxD ps:Nat):Int))) (putF "inner" (.ref inn) (putF "label" (lbV l) (putF "form" (.str f.s) [])))))):=Z0g;clear hv hR hD Sb;generalize upd Hb x (.ins Ct dx (putF "many" (.int (1+((sumS ps:Nat):Int))) (putF "deep" (.int (1+((maxD ps:Nat):Int))) (putF "inner" (.ref inn) (putF "label" (lbV l) (putF "form" (.str f.s) []))))))=H4 at*;have I4:=S4 _ _ nx I3;have S04:SX x H H4:=S2.trans (S3.trans S4);have U4:TOs K Ct H4 us ps:=hu.kp (S04.kp hx);subst huz5;walk_at "r";refine⟨Ct,dx,_,X4,T.Term.cl,T.n_Term_inner,.ref inn,rfl,inn,rfl,⟨_,SqT.of I4⟩,λ D hD=>?_⟩;refine Z2X (ys:=us) none [] (λ j v H=>∃t,ps[j]?=some t/\RT K H v t.dat) (λ j v H1 H2 ⟨t,a,b⟩ s=>⟨t,a,b.kp (kpN s)⟩) rfl hD (by rw[sizeLine_eq];lia) (λ H1 s=>SqT.of (s _ _ I4)) (λ i y hy H1 K' s k=>?_) (λ vs Hc Sc hv lv hR=>?_)
 ·walk_at "r";obtain⟨t,ht,hto⟩:=U4.at hy;have hto:=hto.kp (Kp.of s);obtain⟨a,dx',inn',sh',us',ws',rfl,ha,_⟩:=hto.inv;exact⟨a,rfl,dx',_,ha,rfl,_,t,rfl,hto,λ u hu'=>k _ _ (Same.refl _) ⟨t,ht,hu'⟩⟩
 have hd:=J3g (lv.trans hus) hR;refine⟨D,rfl,vs,.inl ⟨SqL.of hv,λ t5 h5=>?_⟩⟩;have s5:=Z0K h5 (.tup vs);refine⟨f,l,t5,vs,dats ps,rfl,SqT.of Z0g,hd.same s5,by rw[Z5W];exact hok,by rw[Z5W];exact hl,λ r ws H6 s6 hr hw=>?_⟩;refine⟨Ct,dx,_,s6 _ _ (s5 _ _ (Sc _ _ X4)),T.Term.cl,T.n_Term_shape,qb3 rfl,?_⟩;have S6:SX x H4 H6:=SX.of (Sc.trans (s5.trans s6));have X6:=S6;have S7:SX x H6 (upd H6 x (.ins Ct dx (putF "shape" (.ref r) (putF "many" (.int (1+((sumS ps:Nat):Int))) (putF "deep" (.int (1+((maxD ps:Nat):Int))) (putF "inner" (.ref inn) (putF "label" (lbV l) (putF "form" (.str f.s) [])))))))):=SX.put _;have x6:=s6 _ _ (s5 _ _ (Sc _ _ X4));have k6:Kp H (upd H6 x (.ins Ct dx (putF "shape" (.ref r) (putF "many" (.int (1+((sumS ps:Nat):Int))) (putF "deep" (.int (1+((maxD ps:Nat):Int))) (putF "inner" (.ref inn) (putF "label" (lbV l) (putF "form" (.str f.s) [])))))))):=(S04.trans (S6.trans S7)).kp hx;refine q _ (S04.trans (S6.trans S7)) ?_;have e:((putF "shape" (.ref r) (putF "many" (.int (1+((sumS ps:Nat):Int))) (putF "deep" (.int (1+((maxD ps:Nat):Int))) (putF "inner" (.ref inn) (putF "label" (lbV l) (putF "form" (.str f.s) [])))))):List (Z0×V))=fsT f l inn r (1+maxD ps) (1+sumS ps):=by
  unfold fsT;rw[Int.natCast_add,Int.natCast_add];rfl
 have x7:upd H6 x (.ins Ct dx (putF "shape" (.ref r) (putF "many" (.int (1+((sumS ps:Nat):Int))) (putF "deep" (.int (1+((maxD ps:Nat):Int))) (putF "inner" (.ref inn) (putF "label" (lbV l) (putF "form" (.str f.s) []))))))) x=some (.ins Ct dx (fsT f l inn r (1+maxD ps) (1+sumS ps))):=by rw[Z0g,e]
 refine .mk x7 (SqT.of (S7 _ _ nx (S6 _ _ nx I4))) (hu.kp k6) (S7.sqT x6 hr) ?_;exact hw.kt (Kt.put _ x6 (λ _ z=>by cases z) (λ _ _ z=>by cases z))
open RR (Res ahead need needName Z1e)
structure GC where
 g:t0
 tb:t0
 lp:Pos
 qn:Z0
def TbS(cg:GC)(H:Hp):Prop:=TbL cg.tb cg.lp cg.qn H
theorem TbS.sx{cg:GC}{H H':Hp}{g:t0}{C dx:t0}{fs:List (Z0×V)}(h:TbS cg H)(e:H g=some (.ins C dx fs))(s:SX g H H'):TbS cg H':=by
 rcases h with h|⟨a,b,c,h,k,t,q⟩
 ·exact .inl (s _ _ (λ z=>by rw[z,e]at h;cases h) h)
 ·exact .inr ⟨a,b,c,s _ _ (λ z=>by rw[z,e]at h;cases h) h,k,t,s _ _ (λ z=>by rw[z,e]at q;cases q) q⟩
theorem TbS.same{cg:GC}{H H':Hp}(h:TbS cg H)(s:Same H H'):TbS cg H':=by
 rcases h with h|⟨a,b,c,h,k,t,q⟩
 ·exact .inl (s _ _ h)
 ·exact .inr ⟨a,b,c,s _ _ h,k,t,s _ _ q⟩
structure GuO(K:y0)(cg:GC)(H:Hp)(g:t0)(ws:List Z0)(n:Nat):Prop where
 tb:TbS cg H
 ex:∃dx ra,H g=some (.ins cg.g dx [("row",.ref ra),("gone",.int n)])/\SqT K H ra (ws.map V.str)
 len:ws.length<=6000
 le:n<=ws.length
 wd:∀w∈ws,w.length<=6000
def BF(cb g:t0)(H:Hp)(E:XK):Prop:=∀H',SY g H H'->E (.ref cb) none H'
def To{α:Type}(r:Res α)(p:α->Nat->Prop)(q:Prop):Prop:=match r with
 | .ok a n=>p a n
 | .bad=>q
 | .out=>False
theorem GuO.same{K:y0}{cg:GC}{g:t0}{H H':Hp}{ws:List Z0}{n:Nat}(h:GuO K cg H g ws n)(s:Same H H'):GuO K cg H' g ws n:=by
 obtain⟨t,⟨dx,ra,a,b⟩,c,d,e⟩:=h;exact⟨t.same s,⟨dx,ra,s _ _ a,SqT.same b s⟩,c,d,e⟩
theorem BF.same{cb g:t0}{H H':Hp}{E:XK}(h:BF cb g H E)(s:SY g H H'):BF cb g H' E:=λ H2 s2=>h H2 (s.trans s2)
theorem BF.new{cb g x:t0}{H:Hp}{E:XK}{o:HO}(h:BF cb g H E)(n:H x=none):E (.ref cb) none (upd H x o):=h _ (.of λ b u e=>by
 rw[Z0k (Z0i e n)];exact e)
theorem GuO.put{K:y0}{cg:GC}{g dx ra:t0}{H:Hp}{ws:List Z0}{n:Nat}(h:H g=some (.ins cg.g dx [("row",.ref ra),("gone",.int n)]))(r:SqT K H ra (ws.map V.str))(l:ws.length<=6000)(wd:∀w∈ws,w.length<=6000){m:Nat}(hm:m<=ws.length)(tb:TbS cg H):GuO K cg (upd H g (.ins cg.g dx [("row",.ref ra),("gone",.int m)])) g ws m:=
 ⟨tb.sx h (SX.put _),⟨dx,ra,Z0g,SqT.kt r ⟨λ b xs e=>by rw[Z0k (λ z=>by rw[z,h]at e;cases e)];exact e,λ b o xs e=>by rw[Z0k (λ z=>by rw[z,h]at e;cases e)];exact e⟩⟩,l,hm,wd⟩
inductive Z7Y(cg:GC)(K:y0)(vs:List V)(H:Hp)(Q:VK):Prop
 |mk(x dx p:t0)(ws:List Z0)(a1:vs=[.ref x,.ref p])(a2:H x=some (.ins cg.g dx []))(a3:SqL K H p (ws.map V.str))(a4:ws.length<=6000)(a5:(∀w∈ws,w.length<=6000))(a6:TbS cg H)(a7:∀H',SX x H H'->GuO K cg H' x ws 0->Q .non H'):Z7Y cg K vs H Q
def Z8V(cg:GC)(K:y0):Sp:=λ vs H Q _=>Z7Y cg K vs H Q
inductive Z6y(cg:GC)(K:y0)(vs:List V)(H:Hp)(Q:VK):Prop
 |mk(g:t0)(ws:List Z0)(n:Nat)(a1:vs=[.ref g])(a2:GuO K cg H g ws n)(a3:Q (.str (ahead ws n)) H):Z6y cg K vs H Q
def Z1F(cg:GC)(K:y0):Sp:=λ vs H Q _=>Z6y cg K vs H Q
inductive Z4V(cg:GC)(K:y0)(vs:List V)(H:Hp)(Q:VK):Prop
 |mk(g:t0)(ws:List Z0)(n:Nat)(a1:vs=[.ref g])(a2:GuO K cg H g ws n)(a3:1<=n)(a4:Q (.str (ws.getD (n-1) "")) H):Z4V cg K vs H Q
def Z5m(cg:GC)(K:y0):Sp:=λ vs H Q _=>Z4V cg K vs H Q
def Z4d(cg:GC)(cb:t0)(K:y0):Sp:=λ vs H Q E=>∃(g:t0)(ws:List Z0)(n:Nat),vs=[.ref g]/\GuO K cg H g ws n/\if ahead ws n="" then BF cb g H E else ∀H',SY g H H'->GuO K cg H' g ws (n+1)->Q (.str (ahead ws n)) H'
inductive Z7a(cg:GC)(K:y0)(vs:List V)(H:Hp)(Q:VK):Prop
 |mk(g:t0)(ws:List Z0)(n:Nat)(x:Z0)(a1:vs=[.ref g,.str x])(a2:GuO K cg H g ws n)(a3:x≠"")(a4:if ahead ws n=x then ∀H',SY g H H'->GuO K cg H' g ws (n+1)->Q (.bl true) H' else Q (.bl false) H):Z7a cg K vs H Q
def Z1I(cg:GC)(K:y0):Sp:=λ vs H Q _=>Z7a cg K vs H Q
def Z1R(cg:GC)(cb:t0)(K:y0):Sp:=λ vs H Q E=>∃(g:t0)(ws:List Z0)(n:Nat)(x:Z0),vs=[.ref g,.str x]/\GuO K cg H g ws n/\x≠""/\x.length<=100/\To (need ws x n) (λ _ m=>∀H',SY g H H'->GuO K cg H' g ws m->Q .non H') (BF cb g H E)
def Z1V(cg:GC)(cb:t0)(K:y0):Sp:=λ vs H Q E=>∃(g:t0)(ws:List Z0)(n:Nat),vs=[.ref g]/\GuO K cg H g ws n/\To (needName ws n) (λ x m=>∀H',SY g H H'->GuO K cg H' g ws m->Q (.str x) H') (BF cb g H E)
def Z6v(cg:GC)(cb:t0)(K:y0):Sp:=λ vs H Q E=>∃(g:t0)(ws:List Z0)(n:Nat),vs=[.ref g]/\GuO K cg H g ws n/\if ahead ws n="" then Q .non H else BF cb g H E
inductive Z6s(vs:List V)(H:Hp)(Q:VK):Prop
 |mk(x:Z0)(a1:vs=[.str x])(a2:x.length<=6000)(a3:∀H',Same H H'->Q (.bl (Z1e x)) H'):Z6s vs H Q
def Z3y:Sp:=λ vs H Q _=>Z6s vs H Q
theorem Z0u{ws:List Z0}{n:Nat}(h:n<ws.length):∃x,ws[n]?=some x/\ahead ws n=x:=⟨ws[n],qa7 h,by unfold RR.ahead;rw[qb6,qa7 h];rfl⟩
theorem Z6Q{ws:List Z0}{n:Nat}(h:¬n<ws.length):ahead ws n="":=by unfold RR.ahead;rw[qb6,qg2 (qd4 h)];rfl
theorem GuO.wl{K:y0}{cg:GC}{g:t0}{H:Hp}{ws:List Z0}{n:Nat}(h:GuO K cg H g ws n):(ahead ws n).length<=6000:=by
 by_cases z:n<ws.length
 ·obtain⟨x,a,b⟩:=Z0u z;rw[b];exact h.wd _ (qi2 a)
 ·rw[Z6Q z];exact qb2 _
theorem J2z(T:Txt P w K mg C_Guest Ct Cw Ch Cp C_BadForm D_STRENGTHS D_TRUTHS U_TOLD_WORDS):HasM P w K mg base 1 C_Guest "__init__" ["self","all_words"] (Z8V ⟨C_Guest,C_tb,LP,LQ⟩ K):=by
 refine HasM.of T.m_Guest___init__ Z3I (λ _ _ _ _ _ _ us hl=>el2 us hl λ _ _=>rfl) (λ vs H Q E h=>?_) (λ f cdv A outer s H vs Q E hr h=>?_)
 ·obtain⟨x,dx,p,ws,rfl,_⟩:=h;rfl
 obtain⟨x,dx,p,ws,rfl,hx,hp,hl,hw,htb,q⟩:=h;refine⟨_,(Z0a (Z0U (pvF 0) (Z1h Z0R rfl T.O0z Z2u (qI (pvF 1))) rfl) (Z0b (Z0U (pvF 0) Z0c rfl))),?_⟩;walk_at "r";refine⟨_,.inl ⟨hp,λ l hl'=>?_⟩⟩;have s1:=Z0K hl' (.tup (ws.map V.str));have e1:upd H l (.tup (ws.map V.str)) l=some (.tup (ws.map V.str)):=Z0g;generalize upd H l (.tup (ws.map V.str))=H1 at*;refine⟨C_Guest,dx,_,s1 _ _ hx,T.Guest.cl,T.n_Guest_row,qb3 rfl,⟨C_Guest,dx,_,Z0g,T.Guest.cl,T.n_Guest_gone,qb3 rfl,?_⟩⟩;have nl:l≠x:=λ z=>by rw[z,s1 _ _ hx]at e1;cases e1
 rw[Z7w];exact q _ (λ b o n e=>by rw[Z0k n];exact s1 _ _ e) ⟨(htb.same s1).sx (s1 _ _ hx) (SX.put _),⟨dx,l,Z0g,SqT.of (by rw[Z0k nl];exact e1)⟩,hl,qb2 _,hw⟩
theorem Z3m(T:Txt P w K mg C_Guest Ct Cw Ch Cp C_BadForm D_STRENGTHS D_TRUTHS U_TOLD_WORDS):HasM P w K mg base 1 C_Guest "ahead" ["self"] (Z1F ⟨C_Guest,C_tb,LP,LQ⟩ K):=by
 refine HasM.of T.m_Guest_ahead Z4G (λ _ _ _ _ _ _ us hl=>el1 us hl λ _=>rfl) (λ vs H Q E h=>?_) (λ f cdv A outer s H vs Q E hr h=>?_)
 ·obtain⟨g,ws,n,rfl,_⟩:=h;rfl
 obtain⟨g,ws,n,rfl,hg,q⟩:=h;obtain⟨tb,⟨dx,ra,h1,h2⟩,h3,h4,h5⟩:=hg;refine⟨_,(Z0a (Z0r (qM Z9E (qO 0) (qL T.z_len (qI (qO 0)))) (Z0b (Z0l (qC K (qO 0) (qO 0)))) Z0m) (Z0b (Z0l Z0d))),?_⟩;walk_at "r";refine⟨C_Guest,dx,_,h1,T.Guest.cl,T.n_Guest_gone,_,rfl,⟨C_Guest,dx,_,h1,T.Guest.cl,T.n_Guest_row,_,rfl,ra,rfl,_,.inr h2,_,rfl,ite2 (λ e=>?_) λ e=>?_⟩⟩
 ·rw[qb0]at e;obtain⟨x,a,b⟩:=Z0u (qe1.mp e);refine⟨C_Guest,dx,_,h1,T.Guest.cl,T.n_Guest_row,_,rfl,⟨C_Guest,dx,_,h1,T.Guest.cl,T.n_Guest_gone,_,rfl,ra,rfl,_,rfl,⟨_,h2,_,Z2H (by rw[qc4,a];rfl),?_⟩⟩⟩;rw[<-b];exact q
 ·rw[qb0]at e;rw[Z6Q (λ z=>e (qe1.mpr z))]at q;exact q
theorem Z9q(T:Txt P w K mg C_Guest Ct Cw Ch Cp C_BadForm D_STRENGTHS D_TRUTHS U_TOLD_WORDS):HasM P w K mg base 1 C_Guest "behind" ["self"] (Z5m ⟨C_Guest,C_tb,LP,LQ⟩ K):=by
 refine HasM.of T.m_Guest_behind Z4v (λ _ _ _ _ _ _ us hl=>el1 us hl λ _=>rfl) (λ vs H Q E h=>?_) (λ f cdv A outer s H vs Q E hr h=>?_)
 ·obtain⟨g,ws,n,rfl,_⟩:=h;rfl
 obtain⟨g,ws,n,rfl,hg,hn,q⟩:=h;obtain⟨tb,⟨dx,ra,h1,h2⟩,h3,h4,h5⟩:=hg;refine⟨_,(Z0b (Z0l (qC K (qO 0) (Z0f Z0A (qO 0) Z0c)))),?_⟩;walk_at "r";obtain⟨x,a,b⟩:=Z0u (ws:=ws) (n:=n-1) (by omega);refine⟨C_Guest,dx,_,h1,T.Guest.cl,T.n_Guest_row,_,rfl,⟨C_Guest,dx,_,h1,T.Guest.cl,T.n_Guest_gone,_,rfl,_,rfl,ra,rfl,⟨_,h2,.str x,?_,?_⟩⟩⟩
 ·rw[show((n:Nat):Int)-1=((n-1:Nat):Int)by omega];exact Z2H (by rw[qc4,a];rfl)
 ·rw[<-b];exact q
theorem Z8R(T:Txt P w K mg C_Guest Ct Cw Ch Cp C_BadForm D_STRENGTHS D_TRUTHS U_TOLD_WORDS)(h_Guest_ahead:HasM P w K mg base 1 C_Guest "ahead" ["self"] (Z1F ⟨C_Guest,C_tb,LP,LQ⟩ K)):HasMX P w K mg base 2 C_Guest "take" ["self"] (Z4d ⟨C_Guest,C_tb,LP,LQ⟩ C_BadForm K):=by
 refine HasMX.of T.m_Guest_take sc_Guest_take (λ _ _ _ _ _ _ us hl=>el1 us hl λ _=>rfl) (λ vs H Q E h=>?_) (λ f cdv A outer s H vs Q E hr h=>?_)
 ·obtain⟨g,ws,n,rfl,_⟩:=h;rfl
 obtain⟨g,ws,n,rfl,hg,q⟩:=h;have hg0:=hg;obtain⟨tb,⟨dx,ra,h1,h2⟩,h3,h4,h5⟩:=hg;refine⟨_,(Z0a (qG 1 sc_Guest_take.nd (Z0x (pvF 0) T.Guest.cl h_Guest_ahead hr qS)) (Z0a (Z0r (qM Z1a (pvF 1) Z0d) (Z0b (Z0M T.x_BadForm hr rfl (qI Z0d))) Z0m) (Z0a (Z4S (pvF 0) Z0c J1C) (Z0b (Z0l (pvF 1)))))),?_⟩;walk_at "r";refine⟨dx,_,h1,rfl,⟨g,ws,n,rfl,hg0,rfl,ite2 (λ e=>?_) λ e=>?_⟩⟩
 ·rw[if_pos (V.str.inj e)]at q;exact λ x hx=>q.new hx
 ·have ne:ahead ws n≠"":=λ z=>e (by rw[z]);rw[if_neg ne]at q;have hl:=RR.ahead_lt ne;exact⟨C_Guest,dx,_,h1,T.Guest.cl,T.n_Guest_gone,_,rfl,_,rfl,⟨dx,_,h1,qb3 rfl,q _ (SY.put _) (GuO.put h1 h2 h3 h5 hl tb)⟩⟩
theorem Z3u(T:Txt P w K mg C_Guest Ct Cw Ch Cp C_BadForm D_STRENGTHS D_TRUTHS U_TOLD_WORDS)(h_Guest_ahead:HasM P w K mg base 1 C_Guest "ahead" ["self"] (Z1F ⟨C_Guest,C_tb,LP,LQ⟩ K)):HasM P w K mg base 2 C_Guest "takes" ["self","word"] (Z1I ⟨C_Guest,C_tb,LP,LQ⟩ K):=by
 refine HasM.of T.m_Guest_takes Z4K (λ _ _ _ _ _ _ us hl=>el2 us hl λ _ _=>rfl) (λ vs H Q E h=>?_) (λ f cdv A outer s H vs Q E hr h=>?_)
 ·obtain⟨g,ws,n,x,rfl,_⟩:=h;rfl
 obtain⟨g,ws,n,x,rfl,hg,hx,q⟩:=h;have hg0:=hg;obtain⟨tb,⟨dx,ra,h1,h2⟩,h3,h4,h5⟩:=hg;refine⟨_,(Z0a (Z0r (qM J4H (Z0x (pvF 0) T.Guest.cl h_Guest_ahead hr qS) (pvF 1)) (Z0b (Z0l Z9p)) Z0m) (Z0a (Z4S (pvF 0) Z0c J1C) (Z0b (Z0l Z9p)))),?_⟩;walk_at "r";refine⟨dx,_,h1,rfl,⟨g,ws,n,rfl,hg0,rfl,ite2 (λ e=>?_) λ e=>?_⟩⟩
 ·rw[if_neg (λ z=>e (by rw[z]))]at q;exact q
 ·have e:ahead ws n=x:=qh3 λ z=>e λ y=>z (V.str.inj y);rw[if_pos e]at q;have hl:=RR.ahead_lt (ws:=ws) (n:=n) (by rw[e];exact hx);exact⟨C_Guest,dx,_,h1,T.Guest.cl,T.n_Guest_gone,_,rfl,_,rfl,⟨dx,_,h1,qb3 rfl,q _ (SY.put _) (GuO.put h1 h2 h3 h5 hl tb)⟩⟩
theorem Z5z(T:Txt P w K mg C_Guest Ct Cw Ch Cp C_BadForm D_STRENGTHS D_TRUTHS U_TOLD_WORDS)(h_Guest_takes:HasM P w K mg base 2 C_Guest "takes" ["self","word"] (Z1I ⟨C_Guest,C_tb,LP,LQ⟩ K)):HasMX P w K mg base 3 C_Guest "need" ["self","word"] (Z1R ⟨C_Guest,C_tb,LP,LQ⟩ C_BadForm K):=by
 refine HasMX.of T.m_Guest_need Z5R (λ _ _ _ _ _ _ us hl=>el2 us hl λ _ _=>rfl) (λ vs H Q E h=>?_) (λ f cdv A outer s H vs Q E hr h=>?_)
 ·obtain⟨g,ws,n,x,rfl,_⟩:=h;rfl
 obtain⟨g,ws,n,x,rfl,hg,hx,hl,q⟩:=h;have hg0:=hg;obtain⟨tb,⟨dx,ra,h1,h2⟩,h3,h4,h5⟩:=hg;refine⟨_,(Z0b (Z0r (Z4T (Z0T (Z0W (pvF 0) T.Guest.cl h_Guest_takes hr qS (qI (pvF 1))))) (Z0b (Z0M T.x_BadForm hr rfl (qI (Z7v (Z3f Z0d (Z3f (J0E (pvF 1)) J1j)))))) Z0m)),?_⟩;walk_at "r";unfold RR.need at q;refine⟨dx,_,h1,rfl,⟨g,ws,n,x,rfl,hg0,hx,ite2 (λ e=>?_) λ e=>?_⟩⟩
 ·rw[if_pos e]at q;exact λ H' s' g'=>⟨_,rfl,ite2 (λ z=>by cases z) λ _=>q H' s' g'⟩
 ·rw[if_neg e]at q;have l1:(Str.empty++("missing: ":Z0)).length<=16777216:=by decide+kernel
  have l2:(Str.empty++("missing: ":Z0)++x).length<=16777216:=by
   rw[<-K10.cds_len,K10.cds_app,qa2,K10.cds_len,K10.cds_len];have:(Str.empty++("missing: ":Z0)).length=9:=by decide+kernel
   omega
  exact⟨_,rfl,ite2 (λ _=>⟨l1,.inr ⟨by omega,l2,l2,λ x hx=>BF.new q hx⟩⟩) λ z=>absurd rfl z⟩
theorem Z7c(T:Txt P w K mg C_Guest Ct Cw Ch Cp C_BadForm D_STRENGTHS D_TRUTHS U_TOLD_WORDS)(h_Guest_ahead:HasM P w K mg base 1 C_Guest "ahead" ["self"] (Z1F ⟨C_Guest,C_tb,LP,LQ⟩ K))(h_Guest_take:HasMX P w K mg base 2 C_Guest "take" ["self"] (Z4d ⟨C_Guest,C_tb,LP,LQ⟩ C_BadForm K))(O0k:Has P w K mg base 2 "is_name" ["word"] Z3y):HasMX P w K mg base 3 C_Guest "need_name" ["self"] (Z1V ⟨C_Guest,C_tb,LP,LQ⟩ C_BadForm K):=by
 refine HasMX.of T.m_Guest_need_name Z3p (λ _ _ _ _ _ _ us hl=>el1 us hl λ _=>rfl) (λ vs H Q E h=>?_) (λ f cdv A outer s H vs Q E hr h=>?_)
 ·obtain⟨g,ws,n,rfl,_⟩:=h;rfl
 obtain⟨g,ws,n,rfl,hg,q⟩:=h;have hg0:=hg;obtain⟨tb,⟨dx,ra,h1,h2⟩,h3,h4,h5⟩:=hg;refine⟨_,(Z0a (Z0r (Z4T (Z0T (qF O0k hr (qI (Z0x (pvF 0) T.Guest.cl h_Guest_ahead hr qS))))) (Z0b (Z0M T.x_BadForm hr rfl (qI Z0d))) Z0m) (Z0b (Z0l (Z0L (pvF 0) T.Guest.cl h_Guest_take hr qS)))),?_⟩;walk_at "r";unfold RR.needName at q;refine⟨dx,_,h1,rfl,⟨g,ws,n,rfl,hg0,⟨_,rfl,hg0.wl,λ H' s'=>⟨_,rfl,ite2 (λ e=>?_) λ e=>?_⟩⟩⟩⟩
 ·rw[if_neg (by rw[e];exact qa3)]at q;exact λ x hx=>(BF.same q (SY.of s')).new hx
 ·have e:Z1e (ahead ws n)=true:=Bool.not_eq_false _▸e;rw[if_pos e]at q;refine⟨dx,_,s' _ _ h1,rfl,⟨g,ws,n,rfl,hg0.same s',?_⟩⟩;rw[if_neg (λ z=>by rw[z,RR.isName_ne]at e;cases e)];exact λ H2 s2 g2=>q H2 ((SY.of s').trans s2) g2
theorem J0K(T:Txt P w K mg C_Guest Ct Cw Ch Cp C_BadForm D_STRENGTHS D_TRUTHS U_TOLD_WORDS)(h_Guest_ahead:HasM P w K mg base 1 C_Guest "ahead" ["self"] (Z1F ⟨C_Guest,C_tb,LP,LQ⟩ K)):HasMX P w K mg base 2 C_Guest "need_end" ["self"] (Z6v ⟨C_Guest,C_tb,LP,LQ⟩ C_BadForm K):=by
 refine HasMX.of T.m_Guest_need_end Z3H (λ _ _ _ _ _ _ us hl=>el1 us hl λ _=>rfl) (λ vs H Q E h=>?_) (λ f cdv A outer s H vs Q E hr h=>?_)
 ·obtain⟨g,ws,n,rfl,_⟩:=h;rfl
 obtain⟨g,ws,n,rfl,hg,q⟩:=h;have hg0:=hg;obtain⟨tb,⟨dx,ra,h1,h2⟩,h3,h4,h5⟩:=hg;refine⟨_,(Z0b (Z0r (qM J4H (Z0x (pvF 0) T.Guest.cl h_Guest_ahead hr qS) Z0d) (Z0b (Z0M T.x_BadForm hr rfl (qI Z0d))) Z0m)),?_⟩;walk_at "r";refine⟨dx,_,h1,rfl,⟨g,ws,n,rfl,hg0,rfl,ite2 (λ e=>?_) λ e=>?_⟩⟩
 ·rw[if_neg (λ z=>e (by rw[z]))]at q;exact λ x hx=>q.new hx
 ·rw[if_pos (qh3 λ z=>e λ y=>z (V.str.inj y))]at q;exact q
open RR (Res ahead need needName Z1e rd rKind rPair rIf rLet rSet rPart rTail rPts rPointed rOne rTerms rList rMore)
theorem To.bind{α β:Type}{a:Res α}{f:α->Nat->Res β}{p:β->Nat->Prop}{q:Prop}(h:To (a.bind f) p q):To a (λ x m=>To (f x m) p q) q:=by
 cases a<;>exact h
theorem To.mono{α:Type}{a:Res α}{p p':α->Nat->Prop}{q q':Prop}(h:To a p q)(hp:∀x m,a=.ok x m->p x m->p' x m)(hq:q->q'):To a p' q':=by
 cases a with
 |ok x m=>exact hp x m rfl h
 |bad=>exact hq h
 |out=>exact h
def RdT(K:y0)(cg:GC)(cb ct g:t0)(ws:List Z0)(H:Hp)(Q:VK)(E:XK)(r:Res Tm):Prop:=To r (λ t m=>∀v H',SY g H H'->GuO K cg H' g ws m->TO K ct H' v t->Q v H') (BF cb g H E)
theorem GuO.meth{K:y0}{cg:GC}{g:t0}{H:Hp}{ws:List Z0}{n:Nat}(h:GuO K cg H g ws n):∃dx rv,H g=some (.ins cg.g dx [("row",rv),("gone",.int n)]):=let⟨_,⟨dx,ra,a,_⟩,_,_,_⟩:=h;⟨dx,_,a⟩
theorem GuO.kq{K:y0}{cg:GC}{g:t0}{H H':Hp}{ws:List Z0}{n:Nat}(h:GuO K cg H g ws n)(s:SY g H H'):Kq H H':=let⟨_,_,a⟩:=h.meth;Kq.sy s a
theorem sxt{g:t0}{H H' H'':Hp}(a:SY g H H')(b:SY g H' H''):SY g H H'':=a.trans b
theorem Z6o{m:Nat}(h:m<=1000):((m:Int)).natAbs.log2<1920:=by
 rw[Int.natAbs_natCast];by_cases hz:m=0
 ·rw[hz];decide
 ·rw[Nat.log2_lt hz];exact qi6 h (qa5 (by decide:1000<2^10) (Nat.pow_le_pow_right qS qS))
theorem Z8Z{m:Nat}(h:m<=1000):(Str.ofString (toString (m:Int))).length<=2000:=by
 have e:=int_text_length_le (a:=(m:Int)) (k:=1920) qS (Z6o h);rw[ofString_length];lia
def Z1N(cg:GC)(cb ct:t0)(K:y0)(k:Nat):Sp:=λ vs H Q E=>∃(g:t0)(ws:List Z0)(n least low deep:Nat),vs=[.ref g,.int least,.int low,.int deep]/\GuO K cg H g ws n/\1<=least/\1<=low/\RdT K cg cb ct g ws H Q E ((rd ws k).T least low deep n)
def J3z(cg:GC)(cb ct:t0)(K:y0)(k:Nat):Sp:=λ vs H Q E=>∃(g:t0)(ws:List Z0)(n deep:Nat),vs=[.ref g,.int deep]/\GuO K cg H g ws n/\RdT K cg cb ct g ws H Q E (rIf ws (rd ws k) deep n)
def Z9z(cg:GC)(cb ct:t0)(K:y0)(k:Nat):Sp:=λ vs H Q E=>∃(g:t0)(ws:List Z0)(n low deep:Nat),vs=[.ref g,.int low,.int deep]/\GuO K cg H g ws n/\1<=low/\RdT K cg cb ct g ws H Q E (rLet ws (rd ws k) low deep n)
def Z5P(cg:GC)(cb:t0)(K:y0):Sp:=λ vs H Q E=>∃(g:t0)(ws:List Z0)(n:Nat),vs=[.ref g]/\GuO K cg H g ws n/\To (rKind ws n) (λ x m=>∀H',SY g H H'->GuO K cg H' g ws m->Q (.str x) H') (BF cb g H E)
def Z5o(cg:GC)(cb:t0)(K:y0):Sp:=λ vs H Q E=>∃(g:t0)(ws:List Z0)(n:Nat),vs=[.ref g]/\GuO K cg H g ws n/\To (rPair ws n) (λ x m=>∀v H',SY g H H'->GuO K cg H' g ws m->RT K H' v (.tuple [.str x.1,.str x.2])->Q v H') (BF cb g H E)
def Z4m(cb:t0)(K:y0):Sp:=λ vs H Q E=>∃(l:t0)(xs:List V)(m:Nat),vs=[.ref l,.int m]/\H l=some (.lst xs)/\m<=1000/\if m<xs.length then(∀H',Same H H'->E (.ref cb) none H')else Q .non H
theorem Z2k{K:y0}{ct:t0}{c:Hp}{p:t0}{us:List V}{f:Fm}{l:Lb}{ps:List Tm}{Q:t0->Hp->Prop}(hp:SqL K c p us)(ht:TOs K ct c us ps)(ho:okF f l ps.length)(hl:ps.length<=20000)(q:∀x H',c x=none->Same c H'->TO K ct H' (.ref x) (.mk f l ps)->Q x H'):∀x b:t0,c x=none->c b=none->¬b=x->Z1o ct K [.ref x,.str f.s,lbV l,.ref p] (upd (upd c b (.own x)) x (.ins ct b [])) (λ v g=>v=.non/\Q x g) E0:=λ x b hx hb n=>by
 have s1:Same c (upd (upd c b (.own x)) x (.ins ct b [])):=λ a o e=>by
  rw[Z0k (Z0i e hx),Z0k (Z0i e hb)];exact e
 exact⟨x,b,p,f,l,us,ps,rfl,Z0g,SqL.same hp s1,ht.kp (Kp.of s1),ho,hl,λ H' s2 t=>⟨rfl,q x H' hx (λ a o e=>s2 _ _ (Z0i e hx) (s1 _ _ e)) t⟩⟩
theorem J2M(T:Txt P w K mg C_Guest Ct Cw Ch Cp C_BadForm D_STRENGTHS D_TRUTHS U_TOLD_WORDS)(h_Guest_takes:HasM P w K mg base 2 C_Guest "takes" ["self","word"] (Z1I ⟨C_Guest,C_tb,LP,LQ⟩ K))(h_Guest_need_name:HasMX P w K mg base 3 C_Guest "need_name" ["self"] (Z1V ⟨C_Guest,C_tb,LP,LQ⟩ C_BadForm K)):HasX P w K mg base 4 "read_kind" ["guest"] (Z5P ⟨C_Guest,C_tb,LP,LQ⟩ C_BadForm K):=by
 refine HasX.of T.O1i Z6t (λ _ _ _ _ _ _ us hl=>el1 us hl λ _=>rfl) (λ vs H Q E h=>?_) (λ f cdv A outer s H vs Q E hr h=>?_)
 ·obtain⟨g,ws,n,rfl,_⟩:=h;rfl
 obtain⟨g,ws,n,rfl,hg,q⟩:=h;obtain⟨dx,rv,h1⟩:=hg.meth;refine⟨_,(Z0a (Z0r (Z0T (Z0W (pvF 0) T.Guest.cl h_Guest_takes hr qS (qI Z0d))) (Z0b (Z0l Z0d)) Z0m) (Z0a (Z0r (Z0T (Z0W (pvF 0) T.Guest.cl h_Guest_takes hr qS (qI Z0d))) (Z0b (Z0l Z0d)) Z0m) (Z0b (Z0l (Z0L (pvF 0) T.Guest.cl h_Guest_need_name hr qS))))),?_⟩;walk_at "r";unfold RR.rKind at q;refine⟨dx,_,h1,rfl,⟨g,ws,n,_,rfl,hg,qP,ite2 (λ e=>?_) λ e=>?_⟩⟩
 ·rw[if_pos e]at q;exact λ H' s' g'=>⟨_,rfl,ite2 (λ _=>q H' s' g') λ z=>absurd rfl z⟩
 rw[if_neg e]at q;refine⟨_,rfl,ite2 (λ z=>by cases z) λ _=>⟨dx,_,h1,rfl,⟨g,ws,n,_,rfl,hg,qP,ite2 (λ e=>?_) λ e=>?_⟩⟩⟩
 ·rw[if_pos e]at q;exact λ H' s' g'=>⟨_,rfl,ite2 (λ _=>q H' s' g') λ z=>absurd rfl z⟩
 rw[if_neg e]at q;exact⟨_,rfl,ite2 (λ z=>by cases z) λ _=>⟨dx,_,h1,rfl,⟨g,ws,n,rfl,hg,q⟩⟩⟩
theorem J2s(T:Txt P w K mg C_Guest Ct Cw Ch Cp C_BadForm D_STRENGTHS D_TRUTHS U_TOLD_WORDS)(h_Guest_need_name:HasMX P w K mg base 3 C_Guest "need_name" ["self"] (Z1V ⟨C_Guest,C_tb,LP,LQ⟩ C_BadForm K))(O0B:HasX P w K mg base 4 "read_kind" ["guest"] (Z5P ⟨C_Guest,C_tb,LP,LQ⟩ C_BadForm K)):HasX P w K mg base 5 "read_pair" ["guest"] (Z5o ⟨C_Guest,C_tb,LP,LQ⟩ C_BadForm K):=by
 refine HasX.of T.O0A O0O (λ _ _ _ _ _ _ us hl=>el1 us hl λ _=>rfl) (λ vs H Q E h=>?_) (λ f cdv A outer s H vs Q E hr h=>?_)
 ·obtain⟨g,ws,n,rfl,_⟩:=h;rfl
 obtain⟨g,ws,n,rfl,hg,q⟩:=h;obtain⟨dx,rv,h1⟩:=hg.meth;refine⟨_,(Z0a (qG 1 O0O.nd (Z0L (pvF 0) T.Guest.cl h_Guest_need_name hr qS)) (Z0b (Z0l (Z0C (qJ (pvF 1) (Z0p O0B hr qS rfl (qI (pvF 0)))))))),?_⟩;walk_at "r";refine⟨dx,_,h1,rfl,⟨g,ws,n,rfl,hg,To.mono (To.bind q) (λ x m _ q H1 s1 g1=>⟨g,ws,m,rfl,g1,To.mono (To.bind q) (λ k j _ q H2 s2 g2=>New.of λ p3 H3 h3 s3 e3=>?_) λ b=>b.same s1⟩) λ b=>b⟩⟩;exact q _ H3 (sxt (sxt s1 s2) (SY.of s3)) (g2.same s3) (.tup (SqT.of e3) (.cons (.str _) (.cons (.str _) .nil)))
theorem J0U(T:Txt P w K mg C_Guest Ct Cw Ch Cp C_BadForm D_STRENGTHS D_TRUTHS U_TOLD_WORDS):HasX P w K mg base 1 "need_few" ["found","most"] (Z4m C_BadForm K):=by
 refine HasX.of T.O1q Z7k (λ _ _ _ _ _ _ us hl=>el2 us hl λ _ _=>rfl) (λ vs H Q E h=>?_) (λ f cdv A outer s H vs Q E hr h=>?_)
 ·obtain⟨g,ws,n,rfl,_⟩:=h;rfl
 obtain⟨l,xs,m,rfl,hl,hm,q⟩:=h;refine⟨_,(Z0b (Z0r (qM Z6K (qL T.z_len (qI (pvF 0))) (pvF 1)) (Z0b (Z0M T.x_BadForm hr rfl (qI (Z7v (Z3f Z0d (Z3f (J0E (pvF 1)) (Z3f Z0d J1j))))))) Z0m)),?_⟩;walk_at "r";refine⟨_,.inl (SqL.of hl),ite2 (λ e=>?_) λ e=>?_⟩
 ·rw[if_pos (qe1.mp e)]at q;have l0:(Str.empty++("more than ":Z0)).length=10:=by decide+kernel
  have l3:(" of a sort":Z0).length=10:=by decide+kernel
  have lm:=Z8Z hm;have l1:(Str.empty++("more than ":Z0)++Str.ofString (toString ((m:Nat):Int))).length<=16777216:=by
   rw[<-K10.cds_len,K10.cds_app,qa2,K10.cds_len,K10.cds_len,l0];lia
  have l2:(Str.empty++("more than ":Z0)++Str.ofString (toString ((m:Nat):Int))++(" of a sort":Z0)).length<=16777216:=by
   rw[<-K10.cds_len,K10.cds_app,qa2,K10.cds_app,qa2,K10.cds_len,K10.cds_len,K10.cds_len,l0,l3];lia
  exact⟨by rw[l0];decide,.inl ⟨Z6o hm,l1,l2,l2,λ x hx=>q _ (Z0K hx _)⟩⟩
 ·rw[if_neg (λ z=>e (qe1.mpr z))]at q;exact q
theorem J6n(T:Txt P w K mg C_Guest Ct Cw Ch Cp C_BadForm D_STRENGTHS D_TRUTHS U_TOLD_WORDS){k:Nat}(h_Guest_need:HasMX P w K mg base 3 C_Guest "need" ["self","word"] (Z1R ⟨C_Guest,C_tb,LP,LQ⟩ C_BadForm K))(O0a:HasX P w K mg base (8*k+8) "read_term" ["guest","least","lowest","deep"] (Z1N ⟨C_Guest,C_tb,LP,LQ⟩ C_BadForm Ct K k))(h_Term___init__:HasM P w K mg base 2 Ct "__init__" ["self","form","label","parts"] (Z1o Ct K)):HasX P w K mg base (8*k+9) "read_if" ["guest","deep"] (J3z ⟨C_Guest,C_tb,LP,LQ⟩ C_BadForm Ct K k):=by
 refine HasX.of T.O1D O0u (λ _ _ _ _ _ _ us hl=>el2 us hl λ _ _=>rfl) (λ vs H Q E h=>?_) (λ f cdv A outer s H vs Q E hr h=>?_)
 ·obtain⟨g,ws,n,deep,rfl,_⟩:=h;rfl
 obtain⟨g,ws,n,deep,rfl,hg,q⟩:=h;refine⟨_,(Z0a (qG 2 O0u.nd (Z0p O0a hr qS rfl (Z0t (pvF 0) (qK (Z0G T.c_WEAKEST rfl) (Z0G T.c_WEAKEST rfl) (Z0f Z0N (pvF 1) Z0c))))) (Z0a (Z0w (Z1c (pvF 0) T.Guest.cl h_Guest_need hr qS (qI Z0d))) (Z0a (qG 3 O0u.nd (Z0p O0a hr qS rfl (Z0t (pvF 0) (qK (Z0G T.c_WEAKEST rfl) (Z0G T.c_WEAKEST rfl) (Z0f Z0N (pvF 1) Z0c))))) (Z0a (Z0w (Z1c (pvF 0) T.Guest.cl h_Guest_need hr qS (qI Z0d))) (Z0a (qG 4 O0u.nd (Z0p O0a hr qS rfl (Z0t (pvF 0) (qK (Z0G T.c_ABOVE_WEAKEST rfl) (Z0G T.c_ABOVE_WEAKEST rfl) (Z0f Z0N (pvF 1) Z0c))))) (Z0b (Z0l (Z1K T.Term h_Term___init__ hr qS rfl (qK Z0d Z7W (Z0O (qK (pvF 2) (pvF 3) (pvF 4)))))))))))),?_⟩;walk_at "r";unfold RR.rIf at q;refine⟨g,ws,n,1,1,deep+1,rfl,hg,qa0 _,qa0 _,To.mono (To.bind q) (λ t1 m1 _ q v1 H1 s1 g1 o1=>?_) λ b=>b⟩;obtain⟨dx,rv,m1'⟩:=g1.meth;refine⟨dx,_,m1',rfl,⟨g,ws,m1,_,rfl,g1,qP,qP,To.mono (To.bind q) (λ _ m2 _ q H2 s2 g2=>?_) λ b=>b.same s1⟩⟩;have S2:=sxt s1 s2;refine⟨g,ws,m2,1,1,deep+1,rfl,g2,qa0 _,qa0 _,To.mono (To.bind q) (λ t2 m3 _ q v2 H3 s3 g3 o3=>?_) λ b=>b.same S2⟩;obtain⟨dx,rv,m3'⟩:=g3.meth;have S3:=sxt S2 s3;refine⟨dx,_,m3',rfl,⟨g,ws,m3,_,rfl,g3,qP,qP,To.mono (To.bind q) (λ _ m4 _ q H4 s4 g4=>?_) λ b=>b.same S3⟩⟩;have S4:=sxt S3 s4;refine⟨g,ws,m4,2,2,deep+1,rfl,g4,qQ,qQ,To.mono (To.bind q) (λ t3 m5 _ q v3 H5 s5 g5 o5=>?_) λ b=>b.same S4⟩;have S5:=sxt S4 s5;refine New.of λ p6 H6 h6 s6 e6=>?_;have k3:=((g3.kq s4).trans (g4.kq s5)).trans (Kq.of s6);have k1:=((g1.kq s2).trans (g2.kq s3)).trans k3;exact Z2k (f:=.iff) (l:=.non) (SqL.of e6) (.cons (o1.kq k1) (.cons (o3.kq k3) (.cons (o5.kp (Kp.of s6)) .nil))) rfl (show 3<=20000 by decide) λ x H7 _ s7 t7=>q _ H7 (sxt S5 (SY.of (s6.trans s7))) ((g5.same s6).same s7) t7
theorem J4v(T:Txt P w K mg C_Guest Ct Cw Ch Cp C_BadForm D_STRENGTHS D_TRUTHS U_TOLD_WORDS){k:Nat}(h_Guest_need_name:HasMX P w K mg base 3 C_Guest "need_name" ["self"] (Z1V ⟨C_Guest,C_tb,LP,LQ⟩ C_BadForm K))(h_Guest_need:HasMX P w K mg base 3 C_Guest "need" ["self","word"] (Z1R ⟨C_Guest,C_tb,LP,LQ⟩ C_BadForm K))(O0a:HasX P w K mg base (8*k+8) "read_term" ["guest","least","lowest","deep"] (Z1N ⟨C_Guest,C_tb,LP,LQ⟩ C_BadForm Ct K k))(h_Term___init__:HasM P w K mg base 2 Ct "__init__" ["self","form","label","parts"] (Z1o Ct K)):HasX P w K mg base (8*k+9) "read_let" ["guest","lowest","deep"] (Z9z ⟨C_Guest,C_tb,LP,LQ⟩ C_BadForm Ct K k):=by
 refine HasX.of T.O1r O0w (λ _ _ _ _ _ _ us hl=>el3 us hl λ _ _ _=>rfl) (λ vs H Q E h=>?_) (λ f cdv A outer s H vs Q E hr h=>?_)
 ·obtain⟨g,ws,n,low,deep,rfl,_⟩:=h;rfl
 obtain⟨g,ws,n,low,deep,rfl,hg,hlow,q⟩:=h;refine⟨_,(Z0a (qG 3 O0w.nd (Z0L (pvF 0) T.Guest.cl h_Guest_need_name hr qS)) (Z0a (Z0w (Z1c (pvF 0) T.Guest.cl h_Guest_need hr qS (qI Z0d))) (Z0a (qG 4 O0w.nd (Z0p O0a hr qS rfl (Z0t (pvF 0) (qK (Z0G T.c_WEAKEST rfl) (Z0G T.c_WEAKEST rfl) (Z0f Z0N (pvF 2) Z0c))))) (Z0a (Z0w (Z1c (pvF 0) T.Guest.cl h_Guest_need hr qS (qI Z0d))) (Z0b (Z0l (Z1K T.Term h_Term___init__ hr qS rfl (qK Z0d (pvF 3) (Z0O (qJ (pvF 4) (Z0p O0a hr qS rfl (Z0t (pvF 0) (qK (pvF 1) (pvF 1) (Z0f Z0N (pvF 2) Z0c)))))))))))))),?_⟩;walk_at "r";unfold RR.rLet at q;obtain⟨dx,rv,m0⟩:=hg.meth;refine⟨dx,_,m0,rfl,⟨g,ws,n,rfl,hg,To.mono (To.bind q) (λ x m1 _ q H1 s1 g1=>?_) λ b=>b⟩⟩;obtain⟨dx,rv,m1'⟩:=g1.meth;refine⟨dx,_,m1',rfl,⟨g,ws,m1,_,rfl,g1,qP,qP,To.mono (To.bind q) (λ _ m2 _ q H2 s2 g2=>?_) λ b=>b.same s1⟩⟩;have S2:=sxt s1 s2;refine⟨g,ws,m2,1,1,deep+1,rfl,g2,qa0 _,qa0 _,To.mono (To.bind q) (λ t2 m3 _ q v2 H3 s3 g3 o3=>?_) λ b=>b.same S2⟩;obtain⟨dx,rv,m3'⟩:=g3.meth;have S3:=sxt S2 s3;refine⟨dx,_,m3',rfl,⟨g,ws,m3,_,rfl,g3,qP,qP,To.mono (To.bind q) (λ _ m4 _ q H4 s4 g4=>?_) λ b=>b.same S3⟩⟩;have S4:=sxt S3 s4;refine⟨g,ws,m4,low,low,deep+1,rfl,g4,hlow,hlow,To.mono (To.bind q) (λ t3 m5 _ q v3 H5 s5 g5 o5=>?_) λ b=>b.same S4⟩;have S5:=sxt S4 s5;refine New.of λ p6 H6 h6 s6 e6=>?_;have k3:=((g3.kq s4).trans (g4.kq s5)).trans (Kq.of s6);exact Z2k (f:=.lt) (l:=.str x) (SqL.of e6) (.cons (o3.kq k3) (.cons (o5.kp (Kp.of s6)) .nil)) rfl (show 2<=20000 by decide) λ x H7 _ s7 t7=>q _ H7 (sxt S5 (SY.of (s6.trans s7))) ((g5.same s6).same s7) t7
open RR (Res ahead need needName Z1e rd rKind rPair rIf rLet rSet rPart rTail rPts rPointed rOne rTerms rList rMore stren Z3i eqs)
def Z3W(cg:GC)(cb ct:t0)(K:y0)(k:Nat):Sp:=λ vs H Q E=>∃(g:t0)(ws:List Z0)(n low deep:Nat),vs=[.ref g,.int low,.int deep]/\GuO K cg H g ws n/\1<=low/\RdT K cg cb ct g ws H Q E ((rd ws k).Pt low deep n)
def Z9J(cg:GC)(cb ct:t0)(K:y0)(k:Nat):Sp:=λ vs H Q E=>∃(g:t0)(ws:List Z0)(n deep:Nat),vs=[.ref g,.int deep]/\GuO K cg H g ws n/\RdT K cg cb ct g ws H Q E (rOne ws (rd ws k) deep n)
def Z3g(cg:GC)(cb ct:t0)(K:y0)(k:Nat):Sp:=λ vs H Q E=>∃(g:t0)(ws:List Z0)(n deep:Nat),vs=[.ref g,.int deep]/\GuO K cg H g ws n/\RdT K cg cb ct g ws H Q E (rPointed ws (rd ws k) deep n)
def J0v(cg:GC)(cb ct:t0)(K:y0)(k:Nat):Sp:=λ vs H Q E=>∃(g:t0)(ws:List Z0)(n deep:Nat),vs=[.ref g,.int deep]/\GuO K cg H g ws n/\RdT K cg cb ct g ws H Q E (rSet ws (rd ws k) deep n)
def Z3r(cg:GC)(cb ct:t0)(K:y0)(k:Nat):Sp:=λ vs H Q E=>∃(g:t0)(ws:List Z0)(n deep:Nat),vs=[.ref g,.int deep]/\GuO K cg H g ws n/\To (rTerms ws (rd ws k) deep n) (λ ts m=>∀l us H',SY g H H'->H l=none->GuO K cg H' g ws m->H' l=some (.lst us)->TOs K ct H' us ts->Q (.ref l) H') (BF cb g H E)
theorem J4c{f:Fm}(h:f≠.field):f.s≠("field":Z0):=by
 cases f<;>first|exact absurd rfl h|decide+kernel
theorem Z5F{K:y0}{cg:GC}{cb ct g:t0}{ws:List Z0}{H H1:Hp}{Q:VK}{E:XK}{r:Res Tm}(h:RdT K cg cb ct g ws H Q E r)(s:SY g H H1):RdT K cg cb ct g ws H1 Q E r:=To.mono h (λ _ _ _ q v H' s' g' t'=>q v H' (s.trans s') g' t') λ b=>b.same s
def PtI(K:y0)(cg:GC)(cb ct g:t0)(ws:List Z0)(H:Hp)(Q:VK)(E:XK)(k deep j:Nat)(σ:St)(H':Hp):Prop:=∃v t m nm,σ=[some (V.ref g),some (V.int deep),some v,nm]/\SY g H H'/\GuO K cg H' g ws m/\TO K ct H' v t/\RdT K cg cb ct g ws H Q E (rPts ws (rd ws k) deep j t m)
def TlI(K:y0)(cg:GC)(cb ct g:t0)(ws:List Z0)(H:Hp)(Q:VK)(E:XK)(k least low deep j:Nat)(σ:St)(H':Hp):Prop:=∃v t m sg rt,σ=[some (V.ref g),some (V.int least),some (V.int low),some (V.int deep),some v,sg,rt]/\SY g H H'/\GuO K cg H' g ws m/\TO K ct H' v t/\RdT K cg cb ct g ws H Q E (rTail ws (rd ws k) least low deep j t m)
theorem Z6r(x:Z0):(valV Z1J (Sum.inr x)).getD (.int 0)=.int (stren x):=by
 by_cases h1:x=";"
 ·subst h1;decide+kernel
 by_cases h2:x="<"
 ·subst h2;decide+kernel
 by_cases h3:x="="
 ·subst h3;decide+kernel
 by_cases h4:x="+"
 ·subst h4;decide+kernel
 by_cases h5:x="-"
 ·subst h5;decide+kernel
 by_cases h6:x="*"
 ·subst h6;decide+kernel
 by_cases h7:x="/"
 ·subst h7;decide+kernel
 unfold RR.stren;rw[if_neg h1,if_neg h2,if_neg h3,if_neg h4,if_neg h5,if_neg h6,if_neg h7];unfold Z1J;rw[Z1x (λ z=>h1 (Sum.inr.inj z).symm),Z1x (λ z=>h2 (Sum.inr.inj z).symm),Z1x (λ z=>h3 (Sum.inr.inj z).symm),Z1x (λ z=>h4 (Sum.inr.inj z).symm),Z1x (λ z=>h5 (Sum.inr.inj z).symm),Z1x (λ z=>h6 (Sum.inr.inj z).symm),Z1x (λ z=>h7 (Sum.inr.inj z).symm)];rfl
theorem Z9f{x:Z0}(h:1<=stren x):valV Z1J (Sum.inr x)=some (.int (stren x)):=by
 have e:=Z6r x;cases z:valV Z1J (Sum.inr x)with
 |some v=>rw[z]at e;exact congrArg some e
 |none=>
  rw[z]at e;have:(0:Int)=(stren x:Int):=V.int.inj e;lia
theorem J3n(a:Z0):inV (.str a) [.str "<",.str "="]=eqs a:=by
 unfold RR.eqs;by_cases h:a="<"
 ·subst h;decide+kernel
 by_cases h':a="="
 ·subst h';decide+kernel
 rw[beq_eq_false_iff_ne.mpr h,beq_eq_false_iff_ne.mpr h'];show((("<":Z0)==a)||((("=":Z0)==a)||false))=false;rw[beq_eq_false_iff_ne.mpr (Ne.symm h),beq_eq_false_iff_ne.mpr (Ne.symm h')];rfl
theorem J4q(T:Txt P w K mg C_Guest Ct Cw Ch Cp C_BadForm D_STRENGTHS D_TRUTHS U_TOLD_WORDS){k:Nat}(h_Guest_behind:HasM P w K mg base 1 C_Guest "behind" ["self"] (Z5m ⟨C_Guest,C_tb,LP,LQ⟩ K))(h_Guest_need:HasMX P w K mg base 3 C_Guest "need" ["self","word"] (Z1R ⟨C_Guest,C_tb,LP,LQ⟩ C_BadForm K))(O0p:HasX P w K mg base (8*k+13) "read_pointed" ["guest","deep"] (Z3g ⟨C_Guest,C_tb,LP,LQ⟩ C_BadForm Ct K k))(O0a:HasX P w K mg base (8*k+8) "read_term" ["guest","least","lowest","deep"] (Z1N ⟨C_Guest,C_tb,LP,LQ⟩ C_BadForm Ct K k))(h_Term_parts:HasM P w K mg base 1 Ct "parts" ["self"] (Z6i Ct K))(h_Term___init__:HasM P w K mg base 2 Ct "__init__" ["self","form","label","parts"] (Z1o Ct K)):HasX P w K mg base (8*k+14) "read_set" ["guest","deep"] (J0v ⟨C_Guest,C_tb,LP,LQ⟩ C_BadForm Ct K k):=by
 refine HasX.of T.O1s O0x (λ _ _ _ _ _ _ us hl=>el2 us hl λ _ _=>rfl) (λ vs H Q E h=>?_) (λ f cdv A outer s H vs Q E hr h=>?_)
 ·obtain⟨g,ws,n,deep,rfl,_⟩:=h;rfl
 obtain⟨g,ws,n,deep,rfl,hg,q⟩:=h;refine⟨_,(Z0a (qG 2 O0x.nd (Z0p O0p hr qS rfl (qJ (pvF 0) (pvF 1)))) (Z0a (Z0r (PW.pt (J2q (qM J4H (qO 2) Z0d) (Z7S (qM Z1a (Z0x (pvF 0) T.Guest.cl h_Guest_behind hr qS) Z0d)))) (Z0b (Z0M T.x_BadForm hr rfl (qI Z0d))) Z0m) (Z0a (Z0w (Z1c (pvF 0) T.Guest.cl h_Guest_need hr qS (qI Z0d))) (Z0a (qG 3 O0x.nd (Z0p O0a hr qS rfl (Z0t (pvF 0) (qK (Z0G T.c_ABOVE_WEAKEST rfl) (Z0G T.c_ABOVE_WEAKEST rfl) (Z0f Z0N (pvF 1) Z0c))))) (Z0b (Z0l (Z1K T.Term h_Term___init__ hr qS rfl (qK Z0d (qO 2) (Z0f J3x (Z0x (pvF 2) T.Term.cl h_Term_parts hr qS) (Z0O (qI (pvF 3)))))))))))),?_⟩;walk_at "r";unfold RR.rSet at q;refine⟨g,ws,n,deep,rfl,hg,To.mono (To.bind q) (λ t m et q v H1 s1 g1 o1=>?_) λ b=>b⟩;obtain⟨f,l,ps⟩:=t;have o1':=o1;cases o1 with
 |@mk a dx inn sh _ _ _ us zs t1 t2 t3 t4 t5=>
 obtain⟨q1,q2,q3⟩:=RR.rPointed_good (RR.rd_good ws k) deep n _ _ et;refine⟨a,rfl,⟨Ct,dx,_,t1,T.Term.cl,T.n_Term_form,_,rfl,rfl,ite2 (λ e=>?_) λ e=>?_⟩⟩
 ·have nf:f≠.field:=λ z=>e (by rw[z];rfl);have q:BF C_BadForm g H E:=by
   cases f<;>first|exact absurd rfl nf|exact q
  exact λ x hx=>(q.same s1).new hx
 have hf:f=.field:=qh3 λ z=>e λ y=>J4c z (V.str.inj y);subst hf;obtain⟨gx,rv,h1⟩:=g1.meth;refine⟨gx,_,h1,rfl,⟨g,ws,m,rfl,g1,by rw[RR.szL]at q3;lia,rfl,ite2 (λ e=>?_) λ e=>?_⟩⟩
 ·have q:BF C_BadForm g H E:=by
   have q:=show To (if ws.getD (m-1) ""=")" then(Res.bad:Res Tm)else _) _ _ from q
   rw[if_pos (V.str.inj e)]at q;exact q
  exact λ x hx=>(q.same s1).new hx
 have q:=show To (if ws.getD (m-1) ""=")" then Res.bad else _) _ _ from q
 rw[if_neg (λ z=>e (by rw[z]))]at q;refine⟨gx,_,h1,rfl,⟨g,ws,m,_,rfl,g1,qP,qP,To.mono (To.bind q) (λ _ m2 _ q H2 s2 g2=>?_) λ b=>b.same s1⟩⟩;have S2:=sxt s1 s2;refine⟨g,ws,m2,2,2,deep+1,rfl,g2,qQ,qQ,To.mono (To.bind q) (λ u m3 _ q v3 H3 s3 g3 o3=>?_) λ b=>b.same S2⟩;have S3:=sxt S2 s3;have k3:=(g1.kq s2).trans (g2.kq s3);have o1'':=o1'.kq k3;refine⟨a,rfl,⟨Ct,dx,_,k3.i _ _ _ _ _ _ Z5O t1,T.Term.cl,T.n_Term_label,_,rfl,a,rfl,⟨dx,_,k3.i _ _ _ _ _ _ Z5O t1,rfl,⟨_,_,rfl,o1'',λ l4 us4 h4 hus=>?_⟩⟩⟩⟩;have hus:TOs K Ct H3 us4 ps:=hus;have s4:=Z0K h4 (.lst us4);have e4:upd H3 l4 (.lst us4) l4=some (.lst us4):=Z0g;generalize upd H3 l4 (.lst us4)=H4 at*;have lu:=hus.length;have lp:ps.length=1:=by
  cases q2 with
  |mk o _=>cases l<;>first|exact o.elim|exact o
 refine New.of λ p5 H5 h5 s5 e5=>⟨l4,rfl,_,s5 _ _ e4,_,e5,(show us4.length+1<=16777216 by rw[lu,lp];decide),New.of λ p6 H6 h6 s6 e6=>?_⟩;have S6:=s4.trans (s5.trans s6);refine Z2k (f:=.set) (l:=l) (SqL.of e6) (TOs.app (hus.kp (Kp.of S6)) (.cons (o3.kp (Kp.of S6)) .nil)) ?_ (show(ps++[u]).length<=20000 by rw[qa2,lp];show 1+1<=_;decide) λ x H7 _ s7 t7=>q _ H7 (sxt S3 (SY.of (S6.trans s7))) ((g3.same S6).same s7) t7;rw[qa2,lp];cases q2 with
 |mk o _=>cases l<;>first|exact o.elim|rfl
theorem J1T(T:Txt P w K mg C_Guest Ct Cw Ch Cp C_BadForm D_STRENGTHS D_TRUTHS U_TOLD_WORDS){k:Nat}(h_Guest_takes:HasM P w K mg base 2 C_Guest "takes" ["self","word"] (Z1I ⟨C_Guest,C_tb,LP,LQ⟩ K))(O0C:HasX P w K mg base (8*k+7) "read_part" ["guest","lowest","deep"] (Z3W ⟨C_Guest,C_tb,LP,LQ⟩ C_BadForm Ct K k))(O1E:HasX P w K mg base (8*k+9) "read_if" ["guest","deep"] (J3z ⟨C_Guest,C_tb,LP,LQ⟩ C_BadForm Ct K k))(O1w:HasX P w K mg base (8*k+9) "read_let" ["guest","lowest","deep"] (Z9z ⟨C_Guest,C_tb,LP,LQ⟩ C_BadForm Ct K k))(O1x:HasX P w K mg base (8*k+14) "read_set" ["guest","deep"] (J0v ⟨C_Guest,C_tb,LP,LQ⟩ C_BadForm Ct K k))(O0p:HasX P w K mg base (8*k+13) "read_pointed" ["guest","deep"] (Z3g ⟨C_Guest,C_tb,LP,LQ⟩ C_BadForm Ct K k))(h_Term___init__:HasM P w K mg base 2 Ct "__init__" ["self","form","label","parts"] (Z1o Ct K)):HasX P w K mg base (8*k+15) "read_part" ["guest","lowest","deep"] (Z3W ⟨C_Guest,C_tb,LP,LQ⟩ C_BadForm Ct K (k+1)):=by
 refine HasX.of T.O0U Z3M (λ _ _ _ _ _ _ us hl=>el3 us hl λ _ _ _=>rfl) (λ vs H Q E h=>?_) (λ f cdv A outer s H vs Q E hr h=>?_)
 ·obtain⟨g,ws,n,low,deep,rfl,_⟩:=h;rfl
 obtain⟨g,ws,n,low,deep,rfl,hg,hlow,q⟩:=h;refine⟨_,(Z0a (Z0r (qM Z6K (pvF 2) (Z0G T.c_MOST_DEEP rfl)) (Z0b (Z0M T.x_BadForm hr rfl (qI Z0d))) Z0m) (Z0a (Z0r (Z0T (Z0W (pvF 0) T.Guest.cl h_Guest_takes hr qS (qI Z0d))) (Z0b (Z0l (Z1K T.Term h_Term___init__ hr qS rfl (qK Z0d Z7W (Z0O (qI (Z0p O0C hr qS rfl (qK (pvF 0) (pvF 1) (Z0f Z0N (pvF 2) Z0c))))))))) Z0m) (Z0a (Z0r (Z0T (Z0W (pvF 0) T.Guest.cl h_Guest_takes hr qS (qI Z0d))) (Z0b (Z0l (Z0p O1E hr qS rfl (qJ (pvF 0) (pvF 2))))) Z0m) (Z0a (Z0r (Z0T (Z0W (pvF 0) T.Guest.cl h_Guest_takes hr qS (qI Z0d))) (Z0b (Z0l (Z0p O1w hr qS rfl (qK (pvF 0) (pvF 1) (pvF 2))))) Z0m) (Z0a (Z0r (Z0T (Z0W (pvF 0) T.Guest.cl h_Guest_takes hr qS (qI Z0d))) (Z0b (Z0l (Z0p O1x hr qS rfl (qJ (pvF 0) (pvF 2))))) Z0m) (Z0b (Z0l (Z0p O0p hr qS rfl (qJ (pvF 0) (pvF 2)))))))))),?_⟩;walk_at "r";have q:RdT K ⟨C_Guest,C_tb,LP,LQ⟩ C_BadForm Ct g ws H Q E (rPart ws (rd ws k) low deep n):=q;unfold RR.rPart at q;obtain⟨dx,rv,h1⟩:=hg.meth;refine ite2 (λ e=>?_) λ e=>?_
 ·rw[if_pos (qe1.mp e)]at q;exact λ x hx=>BF.new q hx
 rw[if_neg (λ z=>e (qe1.mpr z))]at q;refine⟨dx,_,h1,rfl,⟨g,ws,n,_,rfl,hg,qP,ite2 (λ e=>?_) λ e=>?_⟩⟩
 ·rw[if_pos e]at q;refine λ H1 s1 g1=>⟨_,rfl,ite2 (λ _=>?_) λ z=>absurd rfl z⟩;refine⟨g,ws,n+1,low,deep+1,rfl,g1,hlow,To.mono (To.bind q) (λ t m _ q v H2 s2 g2 o2=>?_) λ b=>b.same s1⟩;refine New.of λ p3 H3 h3 s3 e3=>?_;exact Z2k (f:=.nt) (l:=.non) (SqL.of e3) (.cons (o2.kp (Kp.of s3)) .nil) rfl (show 1<=20000 by decide) λ x H4 _ s4 t4=>q _ H4 (sxt (sxt s1 s2) (SY.of (s3.trans s4))) ((g2.same s3).same s4) t4
 rw[if_neg e]at q;refine⟨_,rfl,ite2 (λ z=>by cases z) λ _=>⟨dx,_,h1,rfl,⟨g,ws,n,_,rfl,hg,qP,ite2 (λ e=>?_) λ e=>?_⟩⟩⟩
 ·rw[if_pos e]at q;exact λ H1 s1 g1=>⟨_,rfl,ite2 (λ _=>⟨g,ws,n+1,deep,rfl,g1,Z5F q s1⟩) λ z=>absurd rfl z⟩
 rw[if_neg e]at q;refine⟨_,rfl,ite2 (λ z=>by cases z) λ _=>⟨dx,_,h1,rfl,⟨g,ws,n,_,rfl,hg,qP,ite2 (λ e=>?_) λ e=>?_⟩⟩⟩
 ·rw[if_pos e]at q;exact λ H1 s1 g1=>⟨_,rfl,ite2 (λ _=>⟨g,ws,n+1,low,deep,rfl,g1,hlow,Z5F q s1⟩) λ z=>absurd rfl z⟩
 rw[if_neg e]at q;refine⟨_,rfl,ite2 (λ z=>by cases z) λ _=>⟨dx,_,h1,rfl,⟨g,ws,n,_,rfl,hg,qP,ite2 (λ e=>?_) λ e=>?_⟩⟩⟩
 ·rw[if_pos e]at q;exact λ H1 s1 g1=>⟨_,rfl,ite2 (λ _=>⟨g,ws,n+1,deep,rfl,g1,Z5F q s1⟩) λ z=>absurd rfl z⟩
 rw[if_neg e]at q;exact⟨_,rfl,ite2 (λ z=>by cases z) λ _=>⟨g,ws,n,deep,rfl,hg,q⟩⟩
theorem Z7p(T:Txt P w K mg C_Guest Ct Cw Ch Cp C_BadForm D_STRENGTHS D_TRUTHS U_TOLD_WORDS){k:Nat}(h_Guest_takes:HasM P w K mg base 2 C_Guest "takes" ["self","word"] (Z1I ⟨C_Guest,C_tb,LP,LQ⟩ K))(h_Guest_ahead:HasM P w K mg base 1 C_Guest "ahead" ["self"] (Z1F ⟨C_Guest,C_tb,LP,LQ⟩ K))(h_Guest_need_name:HasMX P w K mg base 3 C_Guest "need_name" ["self"] (Z1V ⟨C_Guest,C_tb,LP,LQ⟩ C_BadForm K))(O0o:HasX P w K mg base (8*k+11) "read_terms" ["guest","deep"] (Z3r ⟨C_Guest,C_tb,LP,LQ⟩ C_BadForm Ct K k))(O1y:HasX P w K mg base (8*k+12) "read_one" ["guest","deep"] (Z9J ⟨C_Guest,C_tb,LP,LQ⟩ C_BadForm Ct K k))(h_Term___init__:HasM P w K mg base 2 Ct "__init__" ["self","form","label","parts"] (Z1o Ct K)):HasX P w K mg base (8*k+13) "read_pointed" ["guest","deep"] (Z3g ⟨C_Guest,C_tb,LP,LQ⟩ C_BadForm Ct K k):=by
 refine HasX.of T.O0X O0e (λ _ _ _ _ _ _ us hl=>el2 us hl λ _ _=>rfl) (λ vs H Q E h=>?_) (λ f cdv A outer s H vs Q E hr h=>?_)
 ·obtain⟨g,ws,n,deep,rfl,_⟩:=h;rfl
 obtain⟨g,ws,n,deep,rfl,hg,q⟩:=h;refine⟨_,(Z0a (qG 2 O0e.nd (Z0p O1y hr qS rfl (qJ (pvF 0) (pvF 1)))) (Z0a (Z1Y (Z0H rfl rfl) (Z0T (Z0W (pvF 0) T.Guest.cl h_Guest_takes hr qS (qI Z0d))) (Z0a (qG 3 O0e.nd (Z0L (pvF 0) T.Guest.cl h_Guest_need_name hr qS)) (Z0b (Z0r (qM Z1a (Z0x (pvF 0) T.Guest.cl h_Guest_ahead hr qS) Z0d) (Z0b (qG 2 O0e.nd (Z1K T.Term h_Term___init__ hr qS rfl (qK Z0d (pvF 3) (Z0f J3x (Z0O (qI (pvF 2))) (Z0p O0o hr qS rfl (qJ (pvF 0) (Z0f Z0N (pvF 1) Z0c)))))))) (Z0b (qG 2 O0e.nd (Z1K T.Term h_Term___init__ hr qS rfl (qK Z0d (pvF 3) (Z0O (qI (pvF 2))))))))))) (Z0b (Z0l (pvF 2))))),?_⟩;walk_at "r";unfold RR.rPointed at q;refine⟨g,ws,n,deep,rfl,hg,To.mono (To.bind q) (λ t m et q v H1 s1 g1 o1=>?_) λ b=>b⟩;refine⟨PtI K ⟨C_Guest,C_tb,LP,LQ⟩ C_BadForm Ct g ws H Q E k deep,⟨_,v,t,m,none,rfl,s1,g1,o1,q⟩,?_⟩;rintro j σ H' ⟨v,t,m,nm,rfl,s1,g1,o1,q⟩;cases j with
 |zero=>exact q.elim
 |succ j=>
 obtain⟨gx,rv,h1⟩:=g1.meth;walk_at "r";unfold RR.rPts at q;refine⟨gx,_,h1,rfl,⟨g,ws,m,_,rfl,g1,qP,ite2 (λ e=>?_) λ e=>?_⟩⟩
 ·rw[if_pos e]at q;refine λ H2 s2 g2=>⟨_,rfl,ite2 (λ _=>?_) λ z=>absurd rfl z⟩;refine⟨PtI K ⟨C_Guest,C_tb,LP,LQ⟩ C_BadForm Ct g ws H Q E k deep j,λ _ _ z=>⟨j,qd2 _,z⟩,?_⟩;obtain⟨gx,rv,h2⟩:=g2.meth;have S2:=sxt s1 s2;refine⟨gx,_,h2,rfl,⟨g,ws,m+1,rfl,g2,To.mono (To.bind q) (λ x m3 _ q H3 s3 g3=>?_) λ b=>b.same S2⟩⟩;obtain⟨gx,rv,h3⟩:=g3.meth;have S3:=sxt S2 s3;have o3:=(o1.kq (g1.kq s2)).kq (g2.kq s3);refine⟨gx,_,h3,rfl,⟨g,ws,m3,rfl,g3,rfl,ite2 (λ e=>?_) λ e=>?_⟩⟩
  ·rw[if_pos (V.str.inj e)]at q;refine New.of λ p4 H4 h4 s4 e4=>⟨g,ws,m3,deep+1,rfl,g3.same s4,To.mono (To.bind q) (λ ts m5 et q l5 us H5 s5 h5 g5 e5 o5=>?_) λ b=>b.same (sxt S3 (SY.of s4))⟩;have n4:p4≠g:=nq h3 h4;obtain⟨_,_,_,r4⟩:=RR.rTerms_good (RR.rd_good ws k) _ _ _ _ et;have lu:=o5.length;refine⟨l5,rfl,_,s5.lst n4 e4,_,e5,(show 1+us.length<=16777216 by lia),New.of λ p6 H6 h6 s6 e6=>?_⟩;have k4:=(Kq.of s4).trans (((g3.same s4).kq s5).trans (Kq.of s6));refine Z2k (f:=.call) (l:=.str x) (SqL.of e6) (.cons (o3.kq k4) (o5.kp (Kp.of s6))) (show 1<=ts.length+1 by lia) (show ts.length+1<=20000 by lia) λ y H7 _ s7 t7=>⟨_,_,m5,_,rfl,sxt S3 (sxt (SY.of s4) (sxt s5 (SY.of (s6.trans s7)))),(g5.same s6).same s7,t7,q⟩
  ·rw[if_neg (λ z=>e (by rw[z]))]at q;refine New.of λ p4 H4 h4 s4 e4=>?_;exact Z2k (f:=.field) (l:=.str x) (SqL.of e4) (.cons (o3.kp (Kp.of s4)) .nil) rfl (show 1<=20000 by decide) λ y H7 _ s7 t7=>⟨_,_,m3,_,rfl,sxt S3 (SY.of (s4.trans s7)),(g3.same s4).same s7,t7,q⟩
 ·rw[if_neg e]at q;exact⟨_,rfl,ite2 (λ z=>by cases z) λ _=>q _ _ s1 g1 o1⟩
theorem J2d(T:Txt P w K mg C_Guest Ct Cw Ch Cp C_BadForm D_STRENGTHS D_TRUTHS U_TOLD_WORDS){k:Nat}(h_Guest_ahead:HasM P w K mg base 1 C_Guest "ahead" ["self"] (Z1F ⟨C_Guest,C_tb,LP,LQ⟩ K))(h_Guest_take:HasMX P w K mg base 2 C_Guest "take" ["self"] (Z4d ⟨C_Guest,C_tb,LP,LQ⟩ C_BadForm K))(O0C:HasX P w K mg base (8*k+15) "read_part" ["guest","lowest","deep"] (Z3W ⟨C_Guest,C_tb,LP,LQ⟩ C_BadForm Ct K (k+1)))(O0a:HasX P w K mg base (8*k+8) "read_term" ["guest","least","lowest","deep"] (Z1N ⟨C_Guest,C_tb,LP,LQ⟩ C_BadForm Ct K k))(h_Term___init__:HasM P w K mg base 2 Ct "__init__" ["self","form","label","parts"] (Z1o Ct K)):HasX P w K mg base (8*k+16) "read_term" ["guest","least","lowest","deep"] (Z1N ⟨C_Guest,C_tb,LP,LQ⟩ C_BadForm Ct K (k+1)):=by
 refine HasX.of T.O0T O0d (λ _ _ _ _ _ _ us hl=>el4 us hl λ _ _ _ _=>rfl) (λ vs H Q E h=>?_) (λ f cdv A outer s H vs Q E hr h=>?_)
 ·obtain⟨g,ws,n,least,low,deep,rfl,_⟩:=h;rfl
 obtain⟨g,ws,n,least,low,deep,rfl,hg,hle,hlow,q⟩:=h;refine⟨_,(Z0a (qG 4 O0d.nd (Z0p O0C hr qS rfl (qK (pvF 0) (pvF 2) (pvF 3)))) (Z0a (Z1Y (Z0H rfl rfl) (qM J7c (J2D T.d_STRENGTHS (J7i hr) (Z0G T.c_STRENGTHS rfl) (Z0x (pvF 0) T.Guest.cl h_Guest_ahead hr qS) Z0c ⟨rfl,rfl,rfl,rfl⟩) (pvF 1)) (Z0a (qG 5 O0d.nd (Z0L (pvF 0) T.Guest.cl h_Guest_take hr qS)) (Z0a (Z0r (qM Z1a (pvF 5) Z0d) (Z0b (qG 6 O0d.nd (Z0p O0a hr qS rfl (Z0t (pvF 0) (qK (Z0G T.c_WEAKEST rfl) (pvF 2) (Z0f Z0N (pvF 3) Z0c)))))) (Z0b (qG 6 O0d.nd (Z0p O0a hr qS rfl (Z0t (pvF 0) (qK (Z0f Z0N (J0y T.d_STRENGTHS (Z0G T.c_STRENGTHS rfl) (pvF 5) (λ _ _=>rfl)) Z0c) (pvF 2) (Z0f Z0N (pvF 3) Z0c))))))) (Z0a (qG 4 O0d.nd (Z1K T.Term h_Term___init__ hr qS rfl (qK Z0d (pvF 5) (Z0O (qJ (pvF 4) (pvF 6)))))) (Z0b (Z0r (PW.pt (J1d (Z2L (r:=rIn K false) Z2n (pvF 5) (Z0C (qJ Z0d Z0d)) (by with_unfolding_all rfl)) (Z7I (Z2L (r:=rIn K false) Z2n (Z0x (pvF 0) T.Guest.cl h_Guest_ahead hr qS) (Z0C (qJ Z0d Z0d)) (by with_unfolding_all rfl))))) (Z0b (Z0M T.x_BadForm hr rfl (qI Z0d))) Z0m)))))) (Z0b (Z0l (pvF 4))))),?_⟩;walk_at "r";have q:RdT K ⟨C_Guest,C_tb,LP,LQ⟩ C_BadForm Ct g ws H Q E ((rPart ws (rd ws k) low deep n).bind λ t m=>rTail ws (rd ws k) least low deep (ws.length+1) t m):=q;refine⟨g,ws,n,low,deep,rfl,hg,hlow,To.mono (To.bind q) (λ t m et q v H1 s1 g1 o1=>?_) λ b=>b⟩;refine⟨TlI K ⟨C_Guest,C_tb,LP,LQ⟩ C_BadForm Ct g ws H Q E k least low deep,⟨_,v,t,m,none,none,rfl,s1,g1,o1,q⟩,?_⟩;rintro j σ H' ⟨v,t,m,sg,rt,rfl,s1,g1,o1,q⟩;cases j with
 |zero=>exact q.elim
 |succ j=>
 obtain⟨gx,rv,h1⟩:=g1.meth;walk_at "r";unfold RR.rTail at q;refine⟨gx,_,h1,rfl,⟨g,ws,m,rfl,g1,.inr (ahead ws m),rfl,?_⟩⟩;rw[Z6r];refine⟨_,rfl,ite2 (λ e=>?_) λ e=>?_⟩
 ·rw[if_pos (Int.ofNat_le.mp e)]at q;have hs1:1<=stren (ahead ws m):=qa1 hle (Int.ofNat_le.mp e);have ne:ahead ws m≠"":=λ z=>by rw[z,RR.stren_ne]at hs1;cases hs1
  refine⟨TlI K ⟨C_Guest,C_tb,LP,LQ⟩ C_BadForm Ct g ws H Q E k least low deep j,λ _ _ z=>⟨j,qd2 _,z⟩,⟨gx,_,h1,rfl,⟨g,ws,m,rfl,g1,?_⟩⟩⟩;rw[if_neg ne];intro H2 s2 g2;have S2:=sxt s1 s2;have fin:∀{v3:V}{H3 H4 H5 H6:Hp}{u:Tm}{m3:Nat}{x:t0},RdT K ⟨C_Guest,C_tb,LP,LQ⟩ C_BadForm Ct g ws H Q E (if(eqs (ahead ws m)&&eqs (ahead ws m3))=true then .bad else rTail ws (rd ws k) least low deep j (.mk .two (.str (ahead ws m)) [t,u]) m3)->SY g H2 H3->GuO K ⟨C_Guest,C_tb,LP,LQ⟩ H3 g ws m3->Same H3 H4->Same H4 H5->Same H5 H6->TO K Ct H5 (.ref x) (.mk .two (.str (ahead ws m)) [t,u])->
    if inV (V.str (ahead ws m)) [V.str (Str.ofString "<"),V.str (Str.ofString "=")]=true then
     Z8a C_Guest (Str.ofString "ahead") g H6 (Z1F ⟨C_Guest,C_tb,LP,LQ⟩ K [V.ref g] H6 (λ x_3 e=>New e (HO.tup [V.str (Str.ofString "<"),V.str (Str.ofString "=")]) λ p c=>∃ x_4,(SqL K c p x_4\/SqT K c p x_4)/\Z3F x_3=true/\x_4.all Z3F=true /\ if inV x_3 x_4=true then ∀ (x:t0),c x=none->E (Value.ref C_BadForm) none (upd c x (excO x C_BadForm none))
      else TlI K ⟨C_Guest,C_tb,LP,LQ⟩ C_BadForm Ct g ws H Q E k least low deep j [some (V.ref g),some (V.int least),some (V.int low),some (V.int deep),some (V.ref x),some (V.str (ahead ws m)),some v3] c) E0)
    else TlI K ⟨C_Guest,C_tb,LP,LQ⟩ C_BadForm Ct g ws H Q E k least low deep j [some (V.ref g),some (V.int least),some (V.int low),some (V.int deep),some (V.ref x),some (V.str (ahead ws m)),some v3] H6:=λ{v3 H3 H4 H5 H6 u m3 x} q s3 g3 s4 s5 s6 t5=>by
   have S6:=s4.trans (s5.trans s6);have g6:=g3.same S6;have SS:=sxt (sxt S2 s3) (SY.of S6);rw[J3n];refine ite2 (λ e=>?_) λ e=>?_
   ·rw[e,Bool.true_and]at q;obtain⟨gx,rv,h6⟩:=g6.meth;refine⟨gx,_,h6,rfl,⟨g,ws,m3,rfl,g6,New.of λ p7 H7 h7 s7 e7=>⟨_,.inr (SqT.of e7),rfl,rfl,?_⟩⟩⟩;rw[J3n];refine ite2 (λ e=>?_) λ e=>?_
    ·rw[if_pos e]at q;exact λ x hx=>(BF.same q (sxt SS (SY.of s7))).new hx
    ·rw[if_neg e]at q;exact⟨_,_,m3,_,_,rfl,sxt SS (SY.of s7),g6.same s7,(t5.kp (Kp.of s6)).kp (Kp.of s7),q⟩
   ·rw[if_neg (λ z=>e (qj2.mp z).1)]at q;exact⟨_,_,m3,_,_,rfl,SS,g6,t5.kp (Kp.of s6),q⟩
  refine⟨rfl,ite2 (λ e=>?_) λ e=>?_⟩
  ·rw[if_pos (V.str.inj e)]at q;refine⟨g,ws,m+1,1,low,deep+1,rfl,g2,qa0 _,hlow,To.mono (To.bind q) (λ u m3 _ q v3 H3 s3 g3 o3=>New.of λ p4 H4 h4 s4 e4=>Z2k (f:=.two) (l:=.str (ahead ws m)) (SqL.of e4) (.cons (((o1.kq (g1.kq s2)).kq (g2.kq s3)).kp (Kp.of s4)) (.cons (o3.kp (Kp.of s4)) .nil)) rfl (show 2<=20000 by decide) λ x H5 h5 s5 t5=>New.of λ p6 H6 h6 s6 e6=>⟨_,.inr (SqT.of e6),rfl,rfl,?_⟩) λ b=>b.same S2⟩;exact fin q s3 g3 s4 s5 s6 t5
  ·rw[if_neg (λ z=>e (by rw[z]))]at q;refine⟨.inr (ahead ws m),rfl,_,Z9f hs1,_,rfl,g,ws,m+1,stren (ahead ws m)+1,low,deep+1,rfl,g2,Nat.succ_le_succ (qb2 _),hlow,To.mono (To.bind q) (λ u m3 _ q v3 H3 s3 g3 o3=>New.of λ p4 H4 h4 s4 e4=>Z2k (f:=.two) (l:=.str (ahead ws m)) (SqL.of e4) (.cons (((o1.kq (g1.kq s2)).kq (g2.kq s3)).kp (Kp.of s4)) (.cons (o3.kp (Kp.of s4)) .nil)) rfl (show 2<=20000 by decide) λ x H5 h5 s5 t5=>New.of λ p6 H6 h6 s6 e6=>⟨_,.inr (SqT.of e6),rfl,rfl,?_⟩) λ b=>b.same S2⟩;exact fin q s3 g3 s4 s5 s6 t5
 ·rw[if_neg (λ z=>e (Int.ofNat_le.mpr z))]at q;exact q _ _ s1 g1 o1
open K10 (isNum)
inductive Z8v(vs:List V)(H:Hp)(Q:VK):Prop
 |mk(x:Z0)(a1:vs=[.str x])(a2:x.length<=6000)(a3:∀H',Same H H'->Q (.bl (isNum x.cps.toList)) H'):Z8v vs H Q
def Z5H:Sp:=λ vs H Q _=>Z8v vs H Q
theorem J4r(T:Txt P w K mg C_Guest Ct Cw Ch Cp C_BadForm D_STRENGTHS D_TRUTHS U_TOLD_WORDS){k:Nat}(h_Guest_take:HasMX P w K mg base 2 C_Guest "take" ["self"] (Z4d ⟨C_Guest,C_tb,LP,LQ⟩ C_BadForm K))(h_Guest_need:HasMX P w K mg base 3 C_Guest "need" ["self","word"] (Z1R ⟨C_Guest,C_tb,LP,LQ⟩ C_BadForm K))(h_Guest_need_name:HasMX P w K mg base 3 C_Guest "need_name" ["self"] (Z1V ⟨C_Guest,C_tb,LP,LQ⟩ C_BadForm K))(O0r:Has P w K mg base 2 "is_number" ["word"] Z5H)(O0k:Has P w K mg base 2 "is_name" ["word"] Z3y)(O0o:HasX P w K mg base (8*k+11) "read_terms" ["guest","deep"] (Z3r ⟨C_Guest,C_tb,LP,LQ⟩ C_BadForm Ct K k))(O0a:HasX P w K mg base (8*k+8) "read_term" ["guest","least","lowest","deep"] (Z1N ⟨C_Guest,C_tb,LP,LQ⟩ C_BadForm Ct K k))(h_Term___init__:HasM P w K mg base 2 Ct "__init__" ["self","form","label","parts"] (Z1o Ct K)):HasX P w K mg base (8*k+12) "read_one" ["guest","deep"] (Z9J ⟨C_Guest,C_tb,LP,LQ⟩ C_BadForm Ct K k):=by
 refine HasX.of T.O1t O0j (λ _ _ _ _ _ _ us hl=>el2 us hl λ _ _=>rfl) (λ vs H Q E h=>?_) (λ f cdv A outer s H vs Q E hr h=>?_)
 ·obtain⟨g,ws,n,deep,rfl,_⟩:=h;rfl
 obtain⟨g,ws,n,deep,rfl,hg,q⟩:=h;refine⟨_,(Z0a (qG 2 O0j.nd (Z0L (pvF 0) T.Guest.cl h_Guest_take hr qS)) (Z0a (Z0r (Z0T (qF O0r hr (qI (pvF 2)))) (Z0b (Z0l (Z1K T.Term h_Term___init__ hr qS rfl (qK Z0d (Z1h (r:=J4Q) J0G rfl T.z_int Z8q (qI (pvF 2))) (Z0O Z2O))))) Z0m) (Z0a (Z0r (J5a (J5M T.d_TRUTHS (pvF 2) (Z0G T.c_TRUTHS rfl)) (by with_unfolding_all rfl)) (Z0b (Z0l (Z1K T.Term h_Term___init__ hr qS rfl (qK Z0d (J0y T.d_TRUTHS (Z0G T.c_TRUTHS rfl) (pvF 2) (λ _ _=>rfl)) (Z0O Z2O))))) Z0m) (Z0a (Z0r (Z0T (qF O0k hr (qI (pvF 2)))) (Z0b (Z0l (Z1K T.Term h_Term___init__ hr qS rfl (qK Z0d (pvF 2) (Z0O Z2O))))) Z0m) (Z0a (Z0r (qM Z1a (pvF 2) Z0d) (Z0b (Z0l (Z1K T.Term h_Term___init__ hr qS rfl (qK Z0d Z7W (Z0O Z2O))))) Z0m) (Z0a (Z0r (qM Z1a (pvF 2) Z0d) (Z0a (qG 3 O0j.nd (Z0L (pvF 0) T.Guest.cl h_Guest_need_name hr qS)) (Z0b (Z0l (Z1K T.Term h_Term___init__ hr qS rfl (qK Z0d (pvF 3) (Z0p O0o hr qS rfl (qJ (pvF 0) (Z0f Z0N (pvF 1) Z0c)))))))) Z0m) (Z0a (Z0r (qM Z1a (pvF 2) Z0d) (Z0a (Z0w (Z1c (pvF 0) T.Guest.cl h_Guest_need hr qS (qI Z0d))) (Z0a (qG 3 O0j.nd (Z0L (pvF 0) T.Guest.cl h_Guest_need_name hr qS)) (Z0b (Z0l (Z1K T.Term h_Term___init__ hr qS rfl (qK Z0d (pvF 3) (Z0p O0o hr qS rfl (qJ (pvF 0) (Z0f Z0N (pvF 1) Z0c))))))))) Z0m) (Z0a (Z0r (qM Z1a (pvF 2) Z0d) (Z0a (qG 4 O0j.nd (Z0p O0a hr qS rfl (Z0t (pvF 0) (qK (Z0G T.c_WEAKEST rfl) (Z0G T.c_WEAKEST rfl) (pvF 1))))) (Z0a (Z0w (Z1c (pvF 0) T.Guest.cl h_Guest_need hr qS (qI Z0d))) (Z0b (Z0l (pvF 4))))) Z0m) (Z0b (Z0M T.x_BadForm hr rfl (qI Z0d))))))))))),?_⟩;walk_at "r";unfold RR.rOne at q;obtain⟨gx,rv,h1⟩:=hg.meth;refine⟨gx,_,h1,rfl,⟨g,ws,n,rfl,hg,?_⟩⟩;by_cases e0:ahead ws n=""
 ·rw[if_pos e0]at q ⊢;exact q
 rw[if_neg e0]at q ⊢;intro H1 s1 g1;generalize hx:ahead ws n=x at*;have hxl:x.length<=6000:=by rw[<-hx];exact hg.wl
 have leaf:∀{f:Fm}{l:Lb}{H2:Hp},Same H1 H2->okF f l 0->RdT K ⟨C_Guest,C_tb,LP,LQ⟩ C_BadForm Ct g ws H Q E (.ok (.mk f l []) (n+1))->New H2 (.lst []) λ p c=>∀x b:t0,c x=none->c b=none->¬b=x->Z1o Ct K [.ref x,.str f.s,lbV l,.ref p] (upd (upd c b (.own x)) x (.ins Ct b [])) (λ v g=>v=.non/\Q (.ref x) g) E0:=λ{f l H2} s2 ho q=>New.of λ p3 H3 h3 s3 e3=>Z2k (f:=f) (l:=l) (SqL.of e3) .nil ho (qb2 _) λ y H4 _ s4 t4=>q _ H4 (sxt s1 (SY.of (s2.trans (s3.trans s4)))) (g1.same (s2.trans (s3.trans s4))) t4;refine⟨x,rfl,hxl,λ H2 s2=>⟨_,rfl,ite2 (λ e=>?_) λ e=>?_⟩⟩
 ·rw[if_pos e]at q;obtain⟨t1,t2⟩:=J1U e;exact⟨x,rfl,_,t1,t2,leaf (f:=.number) (l:=.int (Z3i x)) s2 rfl q⟩
 rw[if_neg e]at q;refine⟨.inr x,rfl,?_⟩;by_cases ey:x="yes"
 ·rw[if_pos ey]at q;subst ey;exact ite2 (λ _=>⟨.inr _,rfl,_,(rfl:valV Z2N (Sum.inr ("yes":Z0))=some (.bl true)),leaf (f:=.truth) (l:=.bl true) s2 rfl q⟩) λ z=>absurd qP z
 rw[if_neg ey]at q;by_cases en:x="no"
 ·rw[if_pos en]at q;subst en;exact ite2 (λ _=>⟨.inr _,rfl,_,(rfl:valV Z2N (Sum.inr ("no":Z0))=some (.bl false)),leaf (f:=.truth) (l:=.bl false) s2 rfl q⟩) λ z=>absurd qP z
 rw[if_neg en]at q;have vt:valV Z2N (Sum.inr x)=none:=by
  unfold Z2N;rw[Z1x (λ z=>ey (Sum.inr.inj z).symm),Z1x (λ z=>en (Sum.inr.inj z).symm)];rfl
 rw[vt];refine ite2 (λ z=>by cases z) λ _=>⟨x,rfl,hxl,λ H3 s3=>⟨_,rfl,ite2 (λ e=>?_) λ e=>?_⟩⟩
 ·rw[if_pos e]at q;exact leaf (f:=.name) (l:=.str x) (s2.trans s3) rfl q
 rw[if_neg e]at q;have s23:=s2.trans s3;refine⟨rfl,ite2 (λ e=>?_) λ e=>?_⟩
 ·rw[if_pos (V.str.inj e)]at q;exact leaf (f:=.self) (l:=.non) s23 rfl q
 rw[if_neg (λ z=>e (by rw[z]))]at q;have g3:=g1.same s23;have S3:=sxt s1 (SY.of s23);obtain⟨gx,rv,h3⟩:=g3.meth;have fill:∀{f:Fm}{y:Z0}{m:Nat}{H4:Hp},(∀n,okF f (.str y) n)->SY g H H4->GuO K ⟨C_Guest,C_tb,LP,LQ⟩ H4 g ws m->RdT K ⟨C_Guest,C_tb,LP,LQ⟩ C_BadForm Ct g ws H Q E ((rTerms ws (rd ws k) (deep+1) m).bind λ ps j=>.ok (.mk f (.str y) ps) j)->Z3r ⟨C_Guest,C_tb,LP,LQ⟩ C_BadForm Ct K k [V.ref g,V.int (deep+1)] H4 (λ x_2 e=>∀(x_3 b:t0),e x_3=none->e b=none->¬b=x_3->Z1o Ct K [V.ref x_3,V.str f.s,V.str y,x_2] (upd (upd e b (HO.own x_3)) x_3 (HO.ins Ct b [])) (λ v g=>v=V.non/\Q (V.ref x_3) g) E0) E:=λ{f y m H4} ho S4 g4 q=>by
  refine⟨g,ws,m,deep+1,rfl,g4,To.mono (To.bind q) (λ ts m5 et q l5 us H5 s5 h5 g5 e5 o5=>?_) λ b=>b.same S4⟩;obtain⟨_,_,_,r4⟩:=RR.rTerms_good (RR.rd_good ws k) _ _ _ _ et;exact Z2k (f:=f) (l:=.str y) (SqL.of e5) o5 (ho _) (qa1 r4 qS) λ y H7 _ s7 t7=>q _ H7 (sxt S4 (sxt s5 (SY.of s7))) (g5.same s7) t7
 refine⟨rfl,ite2 (λ e=>?_) λ e=>?_⟩
 ·rw[if_pos (V.str.inj e)]at q;exact⟨gx,_,h3,rfl,⟨g,ws,n+1,rfl,g3,To.mono (To.bind q) (λ y m _ q H4 s4 g4=>fill (f:=.new) (λ _=>trivial) (sxt S3 s4) g4 q) λ b=>b.same S3⟩⟩
 rw[if_neg (λ z=>e (by rw[z]))]at q;refine⟨rfl,ite2 (λ e=>?_) λ e=>?_⟩
 ·rw[if_pos (V.str.inj e)]at q;refine⟨gx,_,h3,rfl,⟨g,ws,n+1,_,rfl,g3,qP,qP,To.mono (To.bind q) (λ _ m _ q H4 s4 g4=>?_) λ b=>b.same S3⟩⟩;obtain⟨gx,rv,h4⟩:=g4.meth;have S4:=sxt S3 s4;exact⟨gx,_,h4,rfl,⟨g,ws,m,rfl,g4,To.mono (To.bind q) (λ y m _ q H5 s5 g5=>fill (f:=.elder) (λ _=>trivial) (sxt S4 s5) g5 q) λ b=>b.same S4⟩⟩
 rw[if_neg (λ z=>e (by rw[z]))]at q;refine⟨rfl,ite2 (λ e=>?_) λ e=>?_⟩
 ·rw[if_pos (V.str.inj e)]at q;refine⟨g,ws,n+1,1,1,deep,rfl,g3,qa0 _,qa0 _,To.mono (To.bind q) (λ t m _ q v H4 s4 g4 o4=>?_) λ b=>b.same S3⟩;obtain⟨gx,rv,h4⟩:=g4.meth;have S4:=sxt S3 s4;exact⟨gx,_,h4,rfl,⟨g,ws,m,_,rfl,g4,qP,qP,To.mono (To.bind q) (λ _ m _ q H5 s5 g5=>q _ H5 (sxt S4 s5) g5 (o4.kq (g4.kq s5))) λ b=>b.same S4⟩⟩
 rw[if_neg (λ z=>e (by rw[z]))]at q;exact λ x hx=>(BF.same q S3).new hx
def Cs(cs:List (t0×(V0->Prop)))(H:Hp):Prop:=∀p∈cs,H p.1=some (.ext p.2)
theorem Cs.sy{cs:List (t0×(V0->Prop))}{H H':Hp}{g C dx:t0}{fs:List (Z0×V)}(h:Cs cs H)(s:SY g H H')(e:H g=some (.ins C dx fs)):Cs cs H':=λ p hp=>s.k _ _ (λ z=>by have:=h p hp;rw[z,e]at this;cases this) (λ _ z=>by cases z) (h p hp)
theorem Cs.sxl{cs:List (t0×(V0->Prop))}{H H':Hp}{l:t0}{xs:List V}(h:Cs cs H)(s:SX l H H')(e:H l=some (.lst xs)):Cs cs H':=λ p hp=>s _ _ (λ z=>by have:=h p hp;rw[z,e]at this;cases this) (h p hp)
theorem Cs.same{cs:List (t0×(V0->Prop))}{H H':Hp}(h:Cs cs H)(s:Same H H'):Cs cs H':=λ p hp=>s _ _ (h p hp)
def J1u(K:y0)(cg:GC)(cb g:t0)(ws:List Z0)(cs:List (t0×(V0->Prop))){α:Type}(item:Nat->Res α)(R:Hp->V->α->Prop):Sp:=λ vs H Q E=>∃n,vs=[.ref g]/\GuO K cg H g ws n/\Cs cs H/\To (item n) (λ x m=>∀v H',SY g H H'->GuO K cg H' g ws m->R H' v x->Q v H') (BF cb g H E)
def Z6a(P:Program)(w:U0)(mg:Z0->Option q0)(base:V0)(cg:GC)(cb:t0)(K:y0)(j:Nat):Sp:=λ vs H Q E=>∃(α:Type)(g f:t0)(ws:List Z0)(n:Nat)(item:Nat->Res α)(R:Hp->V->α->Prop)(cs:List (t0×(V0->Prop))),vs=[.ref g,.ref f]/\GuO K cg H g ws n/\Cs cs H/\ItemAt P w K mg base j f (J1u K cg cb g ws cs item R)/\(∀H H' v x,Kq H H'->R H v x->R H' v x)/\(∀n x m,item n=.ok x m->n<m)/\To (rList ws item n) (λ xs m=>∀l us H',SY g H H'->H l=none->GuO K cg H' g ws m->H' l=some (.lst us)->A2 (R H') us xs->Q (.ref l) H') (BF cb g H E)
def LsI(K:y0)(cg:GC)(cb g f l:t0)(ws:List Z0)(cs:List (t0×(V0->Prop))){α:Type}(item:Nat->Res α)(R:Hp->V->α->Prop)(H:Hp)(Q:VK)(E:XK)(j:Nat)(σ:St)(H':Hp):Prop:=∃us xs m,σ=[some (V.ref g),some (V.ref f),some (V.ref l)]/\SY g H H'/\GuO K cg H' g ws m/\Cs cs H'/\H' l=some (.lst us)/\A2 (R H') us xs/\xs.length<=m/\To (rMore ws item j xs m) (λ xs m=>∀l us H',SY g H H'->H l=none->GuO K cg H' g ws m->H' l=some (.lst us)->A2 (R H') us xs->Q (.ref l) H') (BF cb g H E)
theorem GuO.lst{K:y0}{cg:GC}{g l:t0}{H H':Hp}{ws:List Z0}{n:Nat}{xs:List V}(h:GuO K cg H g ws n)(e:H l=some (.lst xs))(s:SX l H H'):GuO K cg H' g ws n:=by
 obtain⟨t,⟨dx,ra,a,b⟩,c,d,f⟩:=h;refine⟨?_,⟨dx,ra,s _ _ (λ z=>by rw[z,e]at a;cases a) a,SqT.kt b (Kq.sxl s e).kt⟩,c,d,f⟩;rcases t with t|⟨a,b,c,t,k,t2,q⟩
 ·exact .inl (s _ _ (λ z=>by rw[z,e]at t;cases t) t)
 ·exact .inr ⟨a,b,c,s _ _ (λ z=>by rw[z,e]at t;cases t) t,k,t2,s _ _ (λ z=>by rw[z,e]at q;cases q) q⟩
theorem Z8I(T:Txt P w K mg C_Guest Ct Cw Ch Cp C_BadForm D_STRENGTHS D_TRUTHS U_TOLD_WORDS){j:Nat}(hj:3<=j)(h_Guest_need:HasMX P w K mg base 3 C_Guest "need" ["self","word"] (Z1R ⟨C_Guest,C_tb,LP,LQ⟩ C_BadForm K))(h_Guest_takes:HasM P w K mg base 2 C_Guest "takes" ["self","word"] (Z1I ⟨C_Guest,C_tb,LP,LQ⟩ K)):HasX P w K mg base (j+1) "read_list" ["guest","read_item"] (Z6a P w mg base ⟨C_Guest,C_tb,LP,LQ⟩ C_BadForm K j):=by
 refine HasX.of T.O1j O0P (λ _ _ _ _ _ _ us hl=>el2 us hl λ _ _=>rfl) (λ vs H Q E h=>?_) (λ f cdv A outer s H vs Q E hr h=>?_)
 ·obtain⟨α,g,f,ws,n,item,R,cs,rfl,_⟩:=h;rfl
 obtain⟨α,g,f,ws,n,item,R,cs,rfl,hg,hcs,hi,hR,hpr,q⟩:=h;refine⟨_,(Z0a (Z0w (Z1c (pvF 0) T.Guest.cl h_Guest_need hr qS (qI Z0d))) (Z0a (qG 2 O0P.nd (Z0O Z2O)) (Z0a (Z0r (Z0T (Z0W (pvF 0) T.Guest.cl h_Guest_takes hr qS (qI Z0d))) (Z0b (Z0l (pvF 2))) Z0m) (Z0a (Z0w (Z4M qe2 qe6 qe7 Z1H (pvF 2) (qI (Z8b hr (pvF 1) (qI (pvF 0)))))) (Z0a (Z1Y (Z0H rfl rfl) (Z0T (Z0W (pvF 0) T.Guest.cl h_Guest_takes hr qS (qI Z0d))) (Z0b (Z0w (Z4M qe2 qe6 qe7 Z1H (pvF 2) (qI (Z8b hr (pvF 1) (qI (pvF 0)))))))) (Z0a (Z0w (Z1c (pvF 0) T.Guest.cl h_Guest_need hr qS (qI Z0d))) (Z0b (Z0l (pvF 2))))))))),?_⟩;walk_at "r";unfold RR.rList at q;obtain⟨gx,rv,h0⟩:=hg.meth;refine⟨gx,_,h0,rfl,⟨g,ws,n,_,rfl,hg,qP,qP,To.mono (To.bind q) (λ _ m e1 q H1 s1 g1=>New.of λ p2 H2 h2 s2 e2=>?_) λ b=>b⟩⟩;have g2:=g1.same s2;have cs2:=(hcs.sy s1 h0).same s2;obtain⟨gx,rv,h2'⟩:=g2.meth;have S2:=sxt s1 (SY.of s2);have n2:p2≠g:=λ z=>by rw[z,h2']at e2;cases e2
 have free:H p2=none:=s1.free n2 h2;refine⟨gx,_,h2',rfl,⟨g,ws,m,_,rfl,g2,qP,ite2 (λ e=>?_) λ e=>?_⟩⟩
 ·rw[if_pos e]at q;exact λ H3 s3 g3=>⟨_,rfl,ite2 (λ _=>q _ _ H3 (sxt S2 s3) free g3 (s3.lst n2 e2) .nil) λ z=>absurd rfl z⟩
 rw[if_neg e]at q;refine⟨_,rfl,ite2 (λ z=>by cases z) λ _=>?_⟩;refine⟨.inl ⟨rfl,_,SqL.of e2⟩,_,hi,m,rfl,g2,cs2,To.mono (To.bind q) (λ a m3 ea q v3 H3 s3 g3 r3=>?_) λ b=>b.same S2⟩;have S3:=sxt S2 s3;have e3:=s3.lst n2 e2;have sx4:SX p2 H3 (upd H3 p2 (.lst ([]++[v3]))):=SX.put _;have e4:upd H3 p2 (.lst ([]++[v3])) p2=some (.lst ([]++[v3])):=Z0g;refine⟨_,e3,qQ,?_⟩;generalize upd H3 p2 (.lst ([]++[v3]))=H4 at*;have l1:1<=m3:=qi6 (qb2 _) (hpr _ _ _ ea);refine⟨LsI K ⟨C_Guest,C_tb,LP,LQ⟩ C_BadForm g f p2 ws cs item R H Q E,⟨_,[v3],[a],m3,rfl,?_,g3.lst e3 sx4,(cs2.sy s3 h2').sxl sx4 e3,e4,.cons (hR _ _ _ _ (Kq.sxl sx4 e3) r3) .nil,l1,q⟩,?_⟩
 ·exact S3.side free sx4
 rintro i σ H5 ⟨us,xs,m5,rfl,s5,g5,cs5,e5,r5,l5,q⟩;cases i with
 |zero=>exact q.elim
 |succ i=>
 obtain⟨gx,rv,h5⟩:=g5.meth;walk_at "r";unfold RR.rMore at q;refine⟨gx,_,h5,rfl,⟨g,ws,m5,_,rfl,g5,qP,ite2 (λ e=>?_) λ e=>?_⟩⟩
 ·rw[if_pos e]at q;refine λ H6 s6 g6=>⟨_,rfl,ite2 (λ _=>⟨LsI K ⟨C_Guest,C_tb,LP,LQ⟩ C_BadForm g f p2 ws cs item R H Q E i,λ _ _ z=>⟨i,qd2 _,z⟩,.inl ⟨rfl,_,SqL.of (s6.lst n2 e5)⟩,_,hi,m5+1,rfl,g6,cs5.sy s6 h5,To.mono (To.bind q) (λ b m7 eb q v7 H7 s7 g7 r7=>?_) λ b=>b.same (sxt s5 s6)⟩) λ z=>absurd rfl z⟩;have S7:=sxt s6 s7;have e7:=S7.lst n2 e5;have sx8:SX p2 H7 (upd H7 p2 (.lst (us++[v7]))):=SX.put _;have e8:upd H7 p2 (.lst (us++[v7])) p2=some (.lst (us++[v7])):=Z0g;have lu:=r5.len;have l7:=hpr _ _ _ eb;have le7:=qa1 g7.le g7.len;refine⟨_,e7,qR,?_⟩;generalize upd H7 p2 (.lst (us++[v7]))=H8 at*;have k8:=Kq.sxl sx8 e7;exact⟨_,xs++[b],m7,rfl,(sxt s5 S7).side free sx8,g7.lst e7 sx8,(cs5.sy S7 h5).sxl sx8 e7,e8,A2.snoc (r5.mono λ _ _ r=>hR _ _ _ _ ((g5.kq S7).trans k8) r) (hR _ _ _ _ k8 r7),by rw[qa2];show xs.length+1<=m7;lia,q⟩
 ·rw[if_neg e]at q;exact⟨_,rfl,ite2 (λ z=>by cases z) λ _=>⟨gx,_,h5,rfl,⟨g,ws,m5,_,rfl,g5,qP,qP,To.mono (To.bind q) (λ _ m6 _ q H6 s6 g6=>q _ _ H6 (sxt s5 s6) free g6 (s6.lst n2 e5) (r5.mono λ _ _ r=>hR _ _ _ _ (g5.kq s6) r)) λ b=>b.same s5⟩⟩⟩
theorem J3o{K:y0}{C:t0}{H:Hp}:∀{us:List V}{ts:List Tm},A2 (λ v t=>TO K C H v t) us ts->TOs K C H us ts
 |_,_,.nil=>.nil
 |_,_,.cons a b=>.cons a (J3o b)
theorem GuO.sya{K:y0}{cg:GC}{g:t0}{H H':Hp}{ws:List Z0}{n:Nat}(h:GuO K cg H g ws n)(s:∀g,SY g H H')(t:TbS cg H'):GuO K cg H' g ws n:=by
 obtain⟨_,⟨dx,ra,a,b⟩,c,d,e⟩:=h;have k:∀{b:t0}{o:HO},(∀ps,o≠.tbl ps)->H b=some o->H' b=some o:=λ{b o} n e=>(s (b+1)).k _ _ (qa9 (qd2 _)) n e;exact⟨t,⟨dx,ra,k (λ _ z=>by cases z) a,SqT.kt b ⟨λ b xs e=>k (λ _ z=>by cases z) e,λ b o xs e=>k (λ _ z=>by cases z) e⟩⟩,c,d,e⟩
theorem Z9P(T:Txt P w K mg C_Guest Ct Cw Ch Cp C_BadForm D_STRENGTHS D_TRUTHS U_TOLD_WORDS){k:Nat}{c:t0}(hF:FnC K mg "read_terms" Z0E c)(hC:CodeHdK K c C_tb)(hLP:LP=⟨273,29,273,79⟩)(hLQ:LQ=(("read_terms":Z0)++".<locals>.")++"<lambda>")(hKb:K.In base)(hB:BAt mg base)(O0a:∀base',K.In base'->BAt mg base'->HasX P w K mg base' (8*k+8) "read_term" ["guest","least","lowest","deep"] (Z1N ⟨C_Guest,C_tb,LP,LQ⟩ C_BadForm Ct K k))(O0D:∀base',K.In base'->BAt mg base'->HasX P w K mg base' (8*k+10) "read_list" ["guest","read_item"] (Z6a P w mg base' ⟨C_Guest,C_tb,LP,LQ⟩ C_BadForm K (8*k+9)))(O0g:HasX P w K mg base 1 "need_few" ["found","most"] (Z4m C_BadForm K)):HasX P w K mg base (8*k+11) "read_terms" ["guest","deep"] (Z3r ⟨C_Guest,C_tb,LP,LQ⟩ C_BadForm Ct K k):=by
 refine HasX.ofC hF O0K (λ _ _ _ _ _ _ us hl=>el2 us hl λ _ _=>rfl) (λ vs H Q E h=>?_) (λ f A outer s H vs Q E hr h=>?_)
 ·obtain⟨g,ws,n,deep,rfl,_⟩:=h;rfl
 obtain⟨g,ws,n,deep,rfl,hg,q⟩:=h;refine⟨_,(Z0a (qG 2 O0K.nd (J4E (i:=1) (ca:=s.heap.objs.size+1) O0D hKb hr qS rfl (pvF 0) hB rfl (hC.hd hKb) rfl rfl rfl rfl rfl rfl rfl rfl)) (Z0a (Z0w (Z0p O0g hr qS rfl (qJ (pvF 2) (Z0G T.c_MOST_TERMS rfl)))) (Z0b (Z0l (pvF 2))))),?_⟩;walk_at "r";subst hLP hLQ;refine⟨hg.tb,λ f1 ca c' ctv pm u base' H2 sy hT2 hc2 md ba gf gcell ru=>?_⟩;have g2:=hg.sya sy hT2;have it:ItemAt P w K mg base' (8*k+9) f1 (J1u K ⟨C_Guest,C_tb,⟨273,29,273,79⟩,(("read_terms":Z0)++".<locals>.")++"<lambda>"⟩ C_BadForm g ws [(c',λ h=>∃oc vs t,h.get? c'=some oc/\oc.data=.fields vs/\vs[1]?=some (.str ((("read_terms":Z0)++".<locals>.")++"<lambda>") t))] (λ m=>(rd ws k).T 1 1 deep m) λ H v t=>TO K Ct H v t):=by
  refine⟨_,["one"],J5F (y:="one") (z:="deep") (v:=.int deep) (k:=8*k+8) ?_ gf gcell ru (λ vs H Q E h=>?_) (λ vs H Q E h=>?_) (λ A outer s H v0 Q E hr h=>?_),?_,⟨_,_,_,_,gf⟩⟩
  ·exact⟨rfl,qP,rfl,rfl,λ x hx=>(show ∀p∈_,p.2=NameKind.free->p.1=("deep":Z0)by decide+kernel) _ (Z0Z hx) rfl,rfl,rfl⟩
  ·obtain⟨n,_,_,hcs,_⟩:=h;exact⟨_,hcs _ (qc2.mpr rfl),λ h x=>x⟩
  ·obtain⟨n,rfl,_⟩:=h;rfl
  ·obtain⟨n,e,hg,_,q⟩:=h;refine⟨_,Z0p (O0a base' md.kin ba) hr qR rfl (Z0t (pvF 0) (qK (Z0G T.c_WEAKEST rfl) (Z0G T.c_WEAKEST rfl) (pvF 1))),?_⟩;walk_at "r";exact⟨g,ws,n,1,1,deep,by rw[List.head_eq_of_cons_eq e];rfl,hg,qa0 _,qa0 _,q⟩
  ·intro s us _ hl;match us,hl with
   |[a],_=>exact .of_eq rfl
 unfold RR.rTerms at q;refine⟨Tm,g,f1,ws,n,_,_,_,rfl,g2,λ p hp=>?_,it,λ H H' v x k h=>h.kq k,λ n x m e=>?_,To.mono (To.bind q) (λ ts m et q l us H3 s3 h3 g3 e3 o3=>?_) λ b=>b.same (sy g)⟩
 ·rw[qc2.mp hp];exact hc2
 ·have:=((RR.rd_good ws k).T 1 1 deep n (qa0 _) (qa0 _) x m e).2.2;obtain⟨f,l,ps⟩:=x;rw[RR.szL]at this;lia
 ·have lu:=o3.len;refine⟨l,us,8,rfl,e3,qQ,ite2 (λ e=>?_) λ e=>?_⟩
  ·rw[if_pos (by rw[<-lu];exact e)]at q;exact λ H4 s4=>q H4 (sxt (sxt (sy g) s3) (SY.of s4))
  ·rw[if_neg (by rw[<-lu];exact e)]at q;exact q _ _ H3 (sxt (sy g) s3) ((sy (l+1)).free (qa9 (qd2 _)) h3) g3 e3 (J3o o3)
theorem Z9I(T:Txt P w K mg C_Guest Ct Cw Ch Cp C_BadForm D_STRENGTHS D_TRUTHS U_TOLD_WORDS){c:t0}(hF:FnC K mg "read_terms" Z0E c)(hC:CodeHdK K c C_tb)(hLP:LP=⟨273,29,273,79⟩)(hLQ:LQ=(("read_terms":Z0)++".<locals>.")++"<lambda>")(O0r:∀base,Has P w K mg base 2 "is_number" ["word"] Z5H)(O0k:∀base,Has P w K mg base 2 "is_name" ["word"] Z3y):∀k base,K.In base->BAt mg base->HasX P w K mg base (8*k+8) "read_term" ["guest","least","lowest","deep"] (Z1N ⟨C_Guest,C_tb,LP,LQ⟩ C_BadForm Ct K k)/\HasX P w K mg base (8*k+7) "read_part" ["guest","lowest","deep"] (Z3W ⟨C_Guest,C_tb,LP,LQ⟩ C_BadForm Ct K k)
 |0,base,_,_=>by
  constructor
  ·refine HasX.of T.O0T O0d (λ _ _ _ _ _ _ us hl=>el4 us hl λ _ _ _ _=>rfl) (λ vs H Q E h=>?_) (λ f cdv A outer s H vs Q E hr h=>?_)
   ·obtain⟨g,ws,n,least,low,deep,rfl,_⟩:=h;rfl
   ·obtain⟨g,ws,n,least,low,deep,rfl,_,_,_,q⟩:=h;exact q.elim
  ·refine HasX.of T.O0U Z3M (λ _ _ _ _ _ _ us hl=>el3 us hl λ _ _ _=>rfl) (λ vs H Q E h=>?_) (λ f cdv A outer s H vs Q E hr h=>?_)
   ·obtain⟨g,ws,n,low,deep,rfl,_⟩:=h;rfl
   ·obtain⟨g,ws,n,low,deep,rfl,_,_,q⟩:=h;exact q.elim
 |k+1,base,hK,hB=>by
  have ih:=Z9I T hF hC hLP hLQ O0r O0k k;have ti:=J2J (base:=base) T (J2N T) (Z9Z T) (Z7d T) (Z8O T);have ga:=Z3m (base:=base) (C_tb:=C_tb) (LP:=LP) (LQ:=LQ) T;have gb:=Z9q (base:=base) (C_tb:=C_tb) (LP:=LP) (LQ:=LQ) T;have gt:=Z8R T ga;have gs:=Z3u T ga;have gn:=Z5z T gs;have gm:=Z7c T ga gt (O0k base);have rt:=(ih base hK hB).1;have hts:=Z9P (P:=P) (w:=w) T hF hC hLP hLQ hK hB (λ b h1 h2=>(ih b h1 h2).1) (λ b h1 h2=>Z8I (base:=b) T qR (Z5z T (Z3u T (Z3m T))) (Z3u T (Z3m T))) (J0U T);have ho:=J4r T gt gn gm (O0r base) (O0k base) hts rt ti;have hp:=Z7p T gs ga gm hts ho ti;have hs:=J4q T gb gn hp rt (J0r T) ti;have hpt:=J1T T gs (ih base hK hB).2 (J6n T gn rt ti) (J4v T gm gn rt ti) hs hp ti;exact⟨J2d T ga gt hpt rt ti,hpt⟩
def pD(p:Z0×Z0):PyData:=.tuple [.str p.1,.str p.2]
inductive Z7V(K:y0)(vs:List V)(H:Hp)(Q:VK):Prop
 |mk(pa:t0)(xs:List V)(ps:List (Z0×Z0))(a1:vs=[.ref pa])(a2:SqL K H pa xs)(a3:RTs K H xs (ps.map pD))(a4:ps.length<=20000)(a5:∀r H',Same H H'->RT K H' (.ref r) (Z4O ps)->Q (.ref r) H'):Z7V K vs H Q
def Z5S(K:y0):Sp:=λ vs H Q _=>Z7V K vs H Q
inductive Z8X(c:CS)(K:y0)(vs:List V)(H:Hp)(Q:VK):Prop
 |mk(x dx pa:t0)(xs:List V)(bv:V)(d:Wd)(a1:vs=[.ref x,.str d.name,.ref pa,.str d.kind,bv])(a2:H x=some (.ins c.word dx []))(a3:SqL K H pa xs)(a4:RTs K H xs (d.params.map pD))(a5:d.params.length<=20000)(a6:TO K c.term H bv d.body)(a7:∀H',SX x H H'->WdO K c H' (.ref x) d->Q .non H'):Z8X c K vs H Q
def Z6b(c:CS)(K:y0):Sp:=λ vs H Q _=>Z8X c K vs H Q
inductive Z8x(c:CS)(K:y0)(vs:List V)(H:Hp)(Q:VK):Prop
 |mk(x dx wl fa:t0)(fx:List V)(ws:List V)(d:Hs)(a1:vs=[.ref x,.str d.name,oS d.elder,.ref fa,.ref wl])(a2:H x=some (.ins c.house dx []))(a3:SqL K H fa fx)(a4:RTs K H fx (d.fields.map pD))(a5:d.fields.length<=20000)(a6:SqL K H wl ws)(a7:A2 (WdO K c H) ws d.words)(a8:∀H',SX x H H'->HsO K c H' (.ref x) d->Q .non H'):Z8x c K vs H Q
def Z5x(c:CS)(K:y0):Sp:=λ vs H Q _=>Z8x c K vs H Q
inductive Z7R(c:CS)(K:y0)(vs:List V)(H:Hp)(Q:VK):Prop
 |mk(x dx hl:t0)(mv:V)(hs:List V)(d:Pg)(a1:vs=[.ref x,.ref hl,mv])(a2:H x=some (.ins c.program dx []))(a3:SqL K H hl hs)(a4:A2 (HsO K c H) hs d.houses)(a5:WdO K c H mv d.main)(a6:∀H',SX x H H'->PgO K c H' (.ref x) d->Q .non H'):Z7R c K vs H Q
def Z5s(c:CS)(K:y0):Sp:=λ vs H Q _=>Z7R c K vs H Q
theorem SX.ktf{x C dx:t0}{fs:List (Z0×V)}{H H':Hp}(s:SX x H H')(hx:H x=some (.ins C dx fs)):Kt H H':=
 ⟨λ b xs h=>s b _ (λ z=>by rw[z,hx]at h;cases h) h,λ b o xs h=>s b _ (λ z=>by rw[z,hx]at h;cases h) h⟩
theorem WdO.kp{K:y0}{c:CS}{H H':Hp}{v:V}{d:Wd}(h:WdO K c H v d)(k:Kp H H'):WdO K c H' v d:=by
 cases h with
 |mk a b t=>exact .mk (k.i _ _ _ _ _ a) (b.kp k) (t.kp k)
theorem HsO.kp{K:y0}{c:CS}{H H':Hp}{v:V}{d:Hs}(h:HsO K c H v d)(k:Kp H H'):HsO K c H' v d:=by
 cases h with
 |mk a b q t=>exact .mk (k.i _ _ _ _ _ a) (b.kp k) (SqT.kp q k) (t.mono λ _ _ r=>WdO.kp r k)
theorem J1c{α:Type}{K:y0}{H:Hp}(f:α->PyData):∀{ts:List α}{vs:List V},vs.length=ts.length->(∀(j:Nat) v,vs[j]?=some v->∃t,ts[j]?=some t/\RT K H v (f t))->RTs K H vs (ts.map f)
 |[],[],_,_=>.nil
 |t::ts,v::vs,e,h=>by
  obtain⟨t',a,b⟩:=h 0 v rfl;cases a;exact .cons b (J1c f (qh5 e) λ j u hu=>h (j+1) u hu)
theorem J2h(T:Txt P w K mg C_Guest Ct Cw Ch Cp C_BadForm D_STRENGTHS D_TRUTHS U_TOLD_WORDS):Has P w K mg base 1 "pairs_of" ["pairs"] (Z5S K):=by
 refine Has.of T.O1p Z7G (λ _ _ _ _ _ _ us hl=>el1 us hl λ _=>rfl) (λ vs H Q E h=>?_) (λ f cdv A outer s H vs Q E hr h=>?_)
 ·obtain⟨pa,xs,ps,rfl,_⟩:=h;rfl
 obtain⟨pa,xs,ps,rfl,hq,hx,hl,q⟩:=h;have lx:xs.length=ps.length:=by rw[hx.length,qb0]
 refine⟨_,(Z0b (Z0l (Z1h Z0R rfl T.O0z Z2u (qI (Z1A rfl (BlockOk.plain (N:=["pair"]) rfl qP qP qP) (Z5E (pvF 0)) (λ C fp s H=>(qH 0 (show(["pair"]:List Z0).Nodup by decide+kernel))) (λ C fp s H=>(Z1h (r:=J3A K) Z0R rfl T.O0z Z2u (qI (pvF 0))))))))),?_⟩;walk_at "r";refine⟨⟨_,hq⟩,λ D hD=>?_⟩;refine Z3C (ys:=xs) none [] (λ j v H=>∃p,ps[j]?=some p/\RT K H v (.tuple [.str p.1,.str p.2])) (λ j v H1 H2 ⟨t,a,b⟩ s=>⟨t,a,b.kp (kpN s)⟩) rfl hD (by rw[sizeLine_eq];lia) (λ H1 s=>SqL.same hq s) (λ i y hy H1 K' s k=>?_) (λ vs Hc Sc hv lv hR=>?_)
 ·walk_at "r";obtain⟨d,hd,hr'⟩:=hx.at hy;rw[qc4]at hd;obtain⟨p,hp',rfl⟩:=qd3.mp hd;obtain⟨a,zs,rfl,hz,hzs⟩:=hr'.tup_inv;exact⟨a,rfl,zs,.inr ⟨SqT.same hz s,k _ _ (Same.refl _) ⟨p,hp',.tup (SqT.same hz s) (hzs.same s)⟩⟩⟩
 refine⟨D,rfl,vs,.inl ⟨SqL.of hv,λ t5 h5=>?_⟩⟩;have s5:=Z0K h5 (.tup vs);refine q _ _ (Sc.trans s5) (.tup (SqT.of Z0g) ?_);refine RTs.same ?_ s5;exact J1c pD (lv.trans lx) hR
theorem J2f(T:Txt P w K mg C_Guest Ct Cw Ch Cp C_BadForm D_STRENGTHS D_TRUTHS U_TOLD_WORDS)(O0N:Has P w K mg base 1 "pairs_of" ["pairs"] (Z5S K)):HasM P w K mg base 2 Cw "__init__" ["self","name","params","kind","body"] (Z6b (CS.mk Ct Cw Ch Cp C_Guest C_Guest C_Guest C_Guest B) K):=by
 refine HasM.of T.m_Word___init__ Z3R (λ _ _ _ _ _ _ us hl=>el5 us hl λ _ _ _ _ _=>rfl) (λ vs H Q E h=>?_) (λ f cdv A outer s H vs Q E hr h=>?_)
 ·obtain⟨x,dx,pa,xs,bv,d,rfl,_⟩:=h;rfl
 obtain⟨x,dx,pa,xs,bv,d,rfl,hx,hp,hpr,hl,hb,q⟩:=h;refine⟨_,(Z0a (Z0U (pvF 0) (pvF 1) rfl) (Z0a (Z0U (pvF 0) (qF O0N hr (qI (pvF 2))) rfl) (Z0a (Z0U (pvF 0) (pvF 3) rfl) (Z0b (Z0U (pvF 0) (pvF 4) rfl))))),?_⟩;refine seq4 λ uz3 huz3 uz2 huz2 uz1 huz1=>?_;walk_at "r";refine⟨Cw,dx,_,hx,T.Word.cl,T.n_Word_name,qb3 rfl,?_⟩;subst huz1;walk_at "r";have S1:SX x H (upd H x (.ins Cw dx (putF "name" (.str d.name) []))):=SX.put _;have X1:upd H x (.ins Cw dx (putF "name" (.str d.name) [])) x=some (.ins Cw dx (putF "name" (.str d.name) [])):=Z0g;generalize upd H x (.ins Cw dx (putF "name" (.str d.name) []))=H1 at*;refine⟨pa,xs,d.params,rfl,S1.sqL hx hp,hpr.kp (S1.kp hx),hl,λ r H2 s2 hr2=>?_⟩;have X2:=s2 _ _ X1;refine⟨Cw,dx,_,X2,T.Word.cl,T.n_Word_params,qb3 rfl,?_⟩;subst huz2;walk_at "r";refine⟨Cw,dx,_,Z0g,T.Word.cl,T.n_Word_kind,qb3 rfl,?_⟩;subst huz3;walk_at "r";refine⟨Cw,dx,_,Z0g,T.Word.cl,T.n_Word_body,qb3 rfl,?_⟩;have S3:SX x H2 _:=(SX.put (.ins Cw dx (putF "params" (.ref r) (putF "name" (.str d.name) [])))).trans ((SX.put (.ins Cw dx (putF "kind" (.str d.kind) (putF "params" (.ref r) (putF "name" (.str d.name) []))))).trans (SX.put (.ins Cw dx (putF "body" bv (putF "kind" (.str d.kind) (putF "params" (.ref r) (putF "name" (.str d.name) [])))))));have S4:=S1.trans ((SX.of s2).trans S3);exact q _ S4 (.mk (Z0g) (hr2.kt (SX.ktf S3 X2)) (hb.kp (S4.kp hx)))
theorem J2I(T:Txt P w K mg C_Guest Ct Cw Ch Cp C_BadForm D_STRENGTHS D_TRUTHS U_TOLD_WORDS)(O0N:Has P w K mg base 1 "pairs_of" ["pairs"] (Z5S K)):HasM P w K mg base 2 Ch "__init__" ["self","name","elder","own_fields","own_words"] (Z5x (CS.mk Ct Cw Ch Cp C_Guest C_Guest C_Guest C_Guest B) K):=by
 refine HasM.of T.m_House___init__ Z3D (λ _ _ _ _ _ _ us hl=>el5 us hl λ _ _ _ _ _=>rfl) (λ vs H Q E h=>?_) (λ f cdv A outer s H vs Q E hr h=>?_)
 ·obtain⟨x,dx,wl,fa,fx,ws,d,rfl,_⟩:=h;rfl
 obtain⟨x,dx,wl,fa,fx,ws,d,rfl,hx,hp,hpr,hl,hw,hb,q⟩:=h;refine⟨_,(Z0a (Z0U (pvF 0) (pvF 1) rfl) (Z0a (Z0U (pvF 0) (pvF 2) rfl) (Z0a (Z0U (pvF 0) (qF O0N hr (qI (pvF 3))) rfl) (Z0b (Z0U (pvF 0) (Z1h Z0R rfl T.O0z Z2u (qI (pvF 4))) rfl))))),?_⟩;refine seq4 λ uz3 huz3 uz2 huz2 uz1 huz1=>?_;walk_at "r";refine⟨Ch,dx,_,hx,T.House.cl,T.n_House_name,qb3 rfl,?_⟩;subst huz1;walk_at "r";refine⟨Ch,dx,_,Z0g,T.House.cl,T.n_House_elder,qb3 rfl,?_⟩;subst huz2;walk_at "r";have S1:SX x H (upd (upd H x (.ins Ch dx (putF "name" (.str d.name) []))) x (.ins Ch dx (putF "elder" (oS d.elder) (putF "name" (.str d.name) [])))):=(SX.put _).trans (SX.put _);have X1:upd (upd H x (.ins Ch dx (putF "name" (.str d.name) []))) x (.ins Ch dx (putF "elder" (oS d.elder) (putF "name" (.str d.name) []))) x=some (.ins Ch dx (putF "elder" (oS d.elder) (putF "name" (.str d.name) []))):=Z0g;generalize upd (upd H x (.ins Ch dx (putF "name" (.str d.name) []))) x (.ins Ch dx (putF "elder" (oS d.elder) (putF "name" (.str d.name) [])))=H1 at*;refine⟨fa,fx,d.fields,rfl,S1.sqL hx hp,hpr.kp (S1.kp hx),hl,λ r H2 s2 hr2=>?_⟩;have X2:=s2 _ _ X1;refine⟨Ch,dx,_,X2,T.House.cl,T.n_House_own_fields,qb3 rfl,?_⟩;subst huz3;walk_at "r";have S3:SX x H2 (upd H2 x (.ins Ch dx (putF "own_fields" (.ref r) (putF "elder" (oS d.elder) (putF "name" (.str d.name) []))))):=SX.put _;have X3:upd H2 x (.ins Ch dx (putF "own_fields" (.ref r) (putF "elder" (oS d.elder) (putF "name" (.str d.name) [])))) x=some (.ins Ch dx (putF "own_fields" (.ref r) (putF "elder" (oS d.elder) (putF "name" (.str d.name) [])))):=Z0g;generalize upd H2 x (.ins Ch dx (putF "own_fields" (.ref r) (putF "elder" (oS d.elder) (putF "name" (.str d.name) []))))=H3 at*;have S03:=S1.trans ((SX.of s2).trans S3);refine⟨ws,.inl ⟨S03.sqL hx hw,λ wt hwt=>?_⟩⟩;have s4:=Z0K hwt (.tup ws);have X4:=s4 _ _ X3;have nx:wt≠x:=λ z=>Z0i X3 hwt z.symm;refine⟨Ch,dx,_,X4,T.House.cl,T.n_House_own_words,qb3 rfl,?_⟩;have S4:=(SX.of (x:=x) s4).trans (SX.put (.ins Ch dx (putF "own_words" (.ref wt) (putF "own_fields" (.ref r) (putF "elder" (oS d.elder) (putF "name" (.str d.name) []))))));have S5:=S03.trans S4;refine q _ S5 (.mk Z0g (hr2.kt (SX.ktf (S3.trans S4) X2)) (SqT.of (by rw[Z0k nx];exact Z0g)) (hb.mono λ _ _ r=>WdO.kp r (S5.kp hx)))
theorem J3b(T:Txt P w K mg C_Guest Ct Cw Ch Cp C_BadForm D_STRENGTHS D_TRUTHS U_TOLD_WORDS):HasM P w K mg base 1 Cp "__init__" ["self","all_houses","main"] (Z5s (CS.mk Ct Cw Ch Cp C_Guest C_Guest C_Guest C_Guest B) K):=by
 refine HasM.of T.m_Program___init__ Z3h (λ _ _ _ _ _ _ us hl=>el3 us hl λ _ _ _=>rfl) (λ vs H Q E h=>?_) (λ f cdv A outer s H vs Q E hr h=>?_)
 ·obtain⟨x,dx,hl,mv,hs,d,rfl,_⟩:=h;rfl
 obtain⟨x,dx,hl,mv,hs,d,rfl,hx,hw,hb,hm,q⟩:=h;refine⟨_,(Z0a (Z0U (pvF 0) (Z1h Z0R rfl T.O0z Z2u (qI (pvF 1))) rfl) (Z0b (Z0U (pvF 0) (pvF 2) rfl))),?_⟩;refine seq2 λ uz1 huz1=>?_;walk_at "r";refine⟨hs,.inl ⟨hw,λ wt hwt=>?_⟩⟩;have s1:=Z0K hwt (.tup hs);have nx:wt≠x:=λ z=>Z0i hx hwt z.symm;refine⟨Cp,dx,_,s1 _ _ hx,T.Program.cl,T.n_Program_all_houses,qb3 rfl,?_⟩;subst huz1;walk_at "r";refine⟨Cp,dx,_,Z0g,T.Program.cl,T.n_Program_main,qb3 rfl,?_⟩;have S4:=(SX.of (x:=x) s1).trans ((SX.put (.ins Cp dx (putF "all_houses" (.ref wt) []))).trans (SX.put (.ins Cp dx (putF "main" mv (putF "all_houses" (.ref wt) [])))));exact q _ S4 (.mk Z0g (SqT.of (by rw[Z0k nx,Z0k nx];exact Z0g)) (hb.mono λ _ _ r=>HsO.kp r (S4.kp hx)) (WdO.kp hm (S4.kp hx)))
open RR (Res ahead need needName Z1e rd rKind rPair rIf rLet rSet rPart rTail rPts rPointed rOne rTerms rList rMore rWord rFields rWords rOf rHouse rHouses)
def RdW(K:y0)(c:CS)(cg:GC)(cb g:t0)(ws:List Z0)(H:Hp)(Q:VK)(E:XK)(r:Res Wd):Prop:=To r (λ d m=>∀v H',SY g H H'->GuO K cg H' g ws m->WdO K c H' v d->Q v H') (BF cb g H E)
def Z5A(c:CS)(cg:GC)(cb:t0)(K:y0)(k:Nat):Sp:=λ vs H Q E=>∃(g:t0)(ws:List Z0)(n:Nat)(name:Z0),vs=[.ref g,.str name]/\GuO K cg H g ws n/\RdW K c cg cb g ws H Q E (rWord ws k name n)
theorem Z9u{K:y0}{H:Hp}:∀{us:List V}{ts:List (Z0×Z0)},A2 (λ v t=>RT K H v (pD t)) us ts->RTs K H us (ts.map pD)
 |_,_,.nil=>.nil
 |_,_,.cons a b=>.cons a (Z9u b)
theorem J3W{K:y0}{cs:CS}{c:Hp}{pa:t0}{xs:List V}{bv:V}{d:Wd}{Q:t0->Hp->Prop}(hp:SqL K c pa xs)(hx:RTs K c xs (d.params.map pD))(hl:d.params.length<=20000)(ht:TO K cs.term c bv d.body)(q:∀x H',c x=none->Same c H'->WdO K cs H' (.ref x) d->Q x H'):∀x b:t0,c x=none->c b=none->¬b=x->Z6b cs K [.ref x,.str d.name,.ref pa,.str d.kind,bv] (upd (upd c b (.own x)) x (.ins cs.word b [])) (λ v g=>v=.non/\Q x g) E0:=λ x b hx' hb n=>by
 have s1:Same c (upd (upd c b (.own x)) x (.ins cs.word b [])):=λ a o e=>by
  rw[Z0k (Z0i e hx'),Z0k (Z0i e hb)];exact e
 exact⟨x,b,pa,xs,bv,d,rfl,Z0g,SqL.same hp s1,hx.same s1,hl,ht.kp (Kp.of s1),λ H' s2 t=>⟨rfl,q x H' hx' (λ a o e=>s2 _ _ (Z0i e hx') (s1 _ _ e)) t⟩⟩
theorem Z3x{ws:List Z0}{n m:Nat}{x:Z0×Z0}(h:rPair ws n=.ok x m):n<m:=by
 unfold RR.rPair at h;obtain⟨a,i,e1,h⟩:=RR.bind_ok h;obtain⟨q1,q2,q3,q4⟩:=RR.needName_ok e1;obtain⟨b,j,e2,h⟩:=RR.bind_ok h;cases h;unfold RR.rKind at e2;split at e2
 ·cases e2;lia
 split at e2
 ·cases e2;lia
 ·obtain⟨q1,q2,q3,q4⟩:=RR.needName_ok e2;lia
theorem J2P(T:Txt P w K mg C_Guest Ct Cw Ch Cp C_BadForm D_STRENGTHS D_TRUTHS U_TOLD_WORDS){k:Nat}(hK:K.In base)(O0E:HasX P w K mg base 5 "read_pair" ["guest"] (Z5o ⟨C_Guest,C_tb,LP,LQ⟩ C_BadForm K))(O0D:HasX P w K mg base 6 "read_list" ["guest","read_item"] (Z6a P w mg base ⟨C_Guest,C_tb,LP,LQ⟩ C_BadForm K 5))(O0g:HasX P w K mg base 1 "need_few" ["found","most"] (Z4m C_BadForm K))(O0B:HasX P w K mg base 4 "read_kind" ["guest"] (Z5P ⟨C_Guest,C_tb,LP,LQ⟩ C_BadForm K))(h_Guest_need:HasMX P w K mg base 3 C_Guest "need" ["self","word"] (Z1R ⟨C_Guest,C_tb,LP,LQ⟩ C_BadForm K))(O0a:HasX P w K mg base (8*k+8) "read_term" ["guest","least","lowest","deep"] (Z1N ⟨C_Guest,C_tb,LP,LQ⟩ C_BadForm Ct K k))(h_Word___init__:HasM P w K mg base 2 Cw "__init__" ["self","name","params","kind","body"] (Z6b (CS.mk Ct Cw Ch Cp C_Guest C_Guest C_Guest C_Guest B) K)):HasX P w K mg base (8*k+9) "read_word" ["guest","name"] (Z5A (CS.mk Ct Cw Ch Cp C_Guest C_Guest C_Guest C_Guest B) ⟨C_Guest,C_tb,LP,LQ⟩ C_BadForm K k):=by
 refine HasX.of T.O1h O0s (λ _ _ _ _ _ _ us hl=>el2 us hl λ _ _=>rfl) (λ vs H Q E h=>?_) (λ f cdv A outer s H vs Q E hr h=>?_)
 ·obtain⟨g,ws,n,name,rfl,_⟩:=h;rfl
 obtain⟨g,ws,n,name,rfl,hg,q⟩:=h;refine⟨_,(Z0a (qG 2 O0s.nd (Z0p O0D hr qS rfl (qJ (pvF 0) (J6p T.O0A rfl)))) (Z0a (Z0w (Z0p O0g hr qS rfl (qJ (pvF 2) (Z0G T.c_MOST_PARAMS rfl)))) (Z0a (qG 3 O0s.nd (Z0p O0B hr qS rfl (qI (pvF 0)))) (Z0a (Z0w (Z1c (pvF 0) T.Guest.cl h_Guest_need hr qS (qI Z0d))) (Z0b (Z0l (Z1K T.Word h_Word___init__ hr qS rfl (Z0t (pvF 1) (qK (pvF 2) (pvF 3) (Z0p O0a hr qS rfl (Z0t (pvF 0) (qK (Z0G T.c_WEAKEST rfl) (Z0G T.c_WEAKEST rfl) Z0c)))))))))))),?_⟩;walk_at "r";intro f2 m2;obtain⟨f',m',it⟩:=O0E.item T.O0A hK;cases m'.symm.trans m2;unfold RR.rWord at q;refine⟨Z0×Z0,g,_,ws,n,rPair ws,λ H v x=>RT K H v (pD x),[],rfl,hg,λ p hp=>(nomatch hp),it.imp (λ vs H Q E h=>?_),λ H H' v x k h=>h.kt k.kt,λ n x m e=>Z3x e,To.mono (To.bind q) (λ ps i _ q l us H1 s1 h1 g1 e1 o1=>?_) λ b=>b⟩
 ·obtain⟨n,rfl,hg,_,q⟩:=h;exact⟨g,ws,n,rfl,hg,q⟩
 have lu:=o1.len;refine⟨l,us,4,rfl,e1,qQ,ite2 (λ e=>?_) λ e=>?_⟩
 ·rw[if_pos (by rw[<-lu];exact e)]at q;exact λ H2 s2=>q H2 (sxt s1 (SY.of s2))
 rw[if_neg (by rw[<-lu];exact e)]at q;refine⟨g,ws,i,rfl,g1,To.mono (To.bind q) (λ kd j _ q H2 s2 g2=>?_) λ b=>b.same s1⟩;obtain⟨gx,rv,h2⟩:=g2.meth;have S2:=sxt s1 s2;refine⟨gx,_,h2,rfl,⟨g,ws,j,_,rfl,g2,qP,qP,To.mono (To.bind q) (λ _ j' _ q H3 s3 g3=>?_) λ b=>b.same S2⟩⟩;have S3:=sxt S2 s3;refine⟨g,ws,j',1,1,1,rfl,g3,qa0 _,qa0 _,To.mono (To.bind q) (λ t m _ q v H4 s4 g4 o4=>?_) λ b=>b.same S3⟩;have n1:l≠g:=λ z=>by obtain⟨_,_,y⟩:=g1.meth;rw[z,y]at e1;cases e1
 have S24:=sxt s2 (sxt s3 s4);have k4:=(g1.kq s2).trans ((g2.kq s3).trans (g3.kq s4));exact J3W (d:=⟨name,ps,kd,t⟩) (SqL.of (S24.lst n1 e1)) (RTs.kt k4.kt (Z9u o1)) (qa1 (qd4 (by rw[<-lu];exact e)) qS) o4 λ x H5 _ s5 w5=>q _ H5 (sxt S3 (sxt s4 (SY.of s5))) (g4.same s5) w5
def RdH(K:y0)(c:CS)(cg:GC)(cb g:t0)(ws:List Z0)(H:Hp)(Q:VK)(E:XK)(r:Res Hs):Prop:=To r (λ d m=>∀v H',SY g H H'->GuO K cg H' g ws m->HsO K c H' v d->Q v H') (BF cb g H E)
def Z6E(c:CS)(cg:GC)(cb:t0)(K:y0)(k:Nat):Sp:=λ vs H Q E=>∃(g:t0)(ws:List Z0)(n:Nat),vs=[.ref g]/\GuO K cg H g ws n/\RdH K c cg cb g ws H Q E (rHouse ws k n)
def GwI(K:y0)(cg:GC)(g l:t0)(ws:List Z0){α:Type}(R:Hp->V->α->Prop)(H:Hp)(σ0:St)(Ex:Hp->Prop)(F:Nat->List α->Nat->Prop)(j:Nat)(σ:St)(H':Hp):Prop:=∃us xs m,σ=σ0/\SY g H H'/\GuO K cg H' g ws m/\Ex H'/\H' l=some (.lst us)/\A2 (R H') us xs/\xs.length<=m/\F j xs m
theorem To.bnd{α β:Type}{a:Res α}{f:α->Nat->Res β}{p:β->Nat->Prop}{q:Prop}(h:To a (λ x m=>To (f x m) p q) q):To (a.bind f) p q:=by
 cases a<;>exact h
theorem Z7P{ws:List Z0}:∀{k:Nat}{xs ys:List (Z0×Z0)}{n m:Nat},rMore ws (rPair ws) k xs n=.ok ys m->n<m
 |0,_,_,_,_,h=>by cases h
 |k+1,xs,ys,n,m,h=>by
  unfold RR.rMore at h;split at h
  ·obtain⟨y,b,e2,h⟩:=RR.bind_ok h;have:=Z3x e2;have:=Z7P h;lia
  ·obtain⟨_,b,e2,h⟩:=RR.bind_ok h;obtain⟨q3,q4⟩:=RR.need_ok qP e2;cases h;lia
theorem J2a{ws:List Z0}{n m:Nat}{x:Z0}(h:rKind ws n=.ok x m):n<m:=by
 unfold RR.rKind at h;split at h
 ·cases h;lia
 split at h
 ·cases h;lia
 ·obtain⟨q1,q2,q3,q4⟩:=RR.needName_ok h;lia
theorem J2u{K:y0}{cs:CS}{c:Hp}{fa wl:t0}{fx ws:List V}{d:Hs}{Q:t0->Hp->Prop}(hp:SqL K c fa fx)(hx:RTs K c fx (d.fields.map pD))(hl:d.fields.length<=20000)(hw:SqL K c wl ws)(hws:A2 (WdO K cs c) ws d.words)(q:∀x H',c x=none->Same c H'->HsO K cs H' (.ref x) d->Q x H'):∀x b:t0,c x=none->c b=none->¬b=x->Z5x cs K [.ref x,.str d.name,oS d.elder,.ref fa,.ref wl] (upd (upd c b (.own x)) x (.ins cs.house b [])) (λ v g=>v=.non/\Q x g) E0:=λ x b hx' hb n=>by
 have s1:Same c (upd (upd c b (.own x)) x (.ins cs.house b [])):=λ a o e=>by
  rw[Z0k (Z0i e hx'),Z0k (Z0i e hb)];exact e
 exact⟨x,b,wl,fa,fx,ws,d,rfl,Z0g,SqL.same hp s1,hx.same s1,hl,SqL.same hw s1,hws.mono λ _ _ r=>WdO.kp r (Kp.of s1),λ H' s2 t=>⟨rfl,q x H' hx' (λ a o e=>s2 _ _ (Z0i e hx') (s1 _ _ e)) t⟩⟩
theorem Z8U{ws:List Z0}{k n m:Nat}{x:Z0}{d:Wd}(h:rWord ws k x n=.ok d m):n<m:=by
 unfold RR.rWord at h;obtain⟨ps,i,e1,h⟩:=RR.bind_ok h;unfold RR.rList at e1;obtain⟨_,a,e0,e1⟩:=RR.bind_ok e1;obtain⟨q1,q2⟩:=RR.need_ok qP e0;have hi:n<i:=by
  split at e1
  ·cases e1;lia
  ·obtain⟨y,b,e2,e1⟩:=RR.bind_ok e1;have:=Z3x e2;have:=Z7P e1;lia
 split at h
 ·cases h
 obtain⟨kd,j,e2,h⟩:=RR.bind_ok h;have:=J2a e2;obtain⟨_,j',e3,h⟩:=RR.bind_ok h;obtain⟨q3,q4⟩:=RR.need_ok qP e3;obtain⟨t,m',e4,h⟩:=RR.bind_ok h;have:=((RR.rd_good ws k).T 1 1 1 j' (qa0 _) (qa0 _) _ _ e4).2.2;cases h;lia
theorem J0Z(T:Txt P w K mg C_Guest Ct Cw Ch Cp C_BadForm D_STRENGTHS D_TRUTHS U_TOLD_WORDS){k:Nat}(h_Guest_need_name:HasMX P w K mg base 3 C_Guest "need_name" ["self"] (Z1V ⟨C_Guest,C_tb,LP,LQ⟩ C_BadForm K))(h_Guest_takes:HasM P w K mg base 2 C_Guest "takes" ["self","word"] (Z1I ⟨C_Guest,C_tb,LP,LQ⟩ K))(h_Guest_need:HasMX P w K mg base 3 C_Guest "need" ["self","word"] (Z1R ⟨C_Guest,C_tb,LP,LQ⟩ C_BadForm K))(O0E:HasX P w K mg base 5 "read_pair" ["guest"] (Z5o ⟨C_Guest,C_tb,LP,LQ⟩ C_BadForm K))(O0g:HasX P w K mg base 1 "need_few" ["found","most"] (Z4m C_BadForm K))(O0F:HasX P w K mg base (8*k+9) "read_word" ["guest","name"] (Z5A (CS.mk Ct Cw Ch Cp C_Guest C_Guest C_Guest C_Guest B) ⟨C_Guest,C_tb,LP,LQ⟩ C_BadForm K k))(h_House___init__:HasM P w K mg base 2 Ch "__init__" ["self","name","elder","own_fields","own_words"] (Z5x (CS.mk Ct Cw Ch Cp C_Guest C_Guest C_Guest C_Guest B) K)):HasX P w K mg base (8*k+10) "read_house" ["guest"] (Z6E (CS.mk Ct Cw Ch Cp C_Guest C_Guest C_Guest C_Guest B) ⟨C_Guest,C_tb,LP,LQ⟩ C_BadForm K k):=by
 refine HasX.of T.O1f O0f (λ _ _ _ _ _ _ us hl=>el1 us hl λ _=>rfl) (λ vs H Q E h=>?_) (λ f cdv A outer s H vs Q E hr h=>?_)
 ·obtain⟨g,ws,n,rfl,_⟩:=h;rfl
 obtain⟨g,ws,n,rfl,hg,q⟩:=h;refine⟨_,(Z0a (qG 1 O0f.nd (Z0L (pvF 0) T.Guest.cl h_Guest_need_name hr qS)) (Z0a (qG 2 O0f.nd Z7W) (Z0a (Z0r (Z0T (Z0W (pvF 0) T.Guest.cl h_Guest_takes hr qS (qI Z0d))) (Z0b (qG 2 O0f.nd (Z0L (pvF 0) T.Guest.cl h_Guest_need_name hr qS))) Z0m) (Z0a (Z0w (Z1c (pvF 0) T.Guest.cl h_Guest_need hr qS (qI Z0d))) (Z0a (qG 3 O0f.nd (Z0O Z2O)) (Z0a (Z1Y (Z0H rfl rfl) (Z0T (Z0W (pvF 0) T.Guest.cl h_Guest_takes hr qS (qI Z0d))) (Z0b (Z0w (Z4M qe2 qe6 qe7 Z1H (pvF 3) (qI (Z0p O0E hr qS rfl (qI (pvF 0)))))))) (Z0a (Z0w (Z0p O0g hr qS rfl (qJ (pvF 3) (Z0G T.c_MOST_FIELDS rfl)))) (Z0a (qG 4 O0f.nd (Z0O Z2O)) (Z0a (Z1Y (Z0H rfl rfl) (Z0T (Z0W (pvF 0) T.Guest.cl h_Guest_takes hr qS (qI Z0d))) (Z0b (Z0w (Z4M qe2 qe6 qe7 Z1H (pvF 4) (qI (Z0p O0F hr qS rfl (qJ (pvF 0) (Z0L (pvF 0) T.Guest.cl h_Guest_need_name hr qS)))))))) (Z0a (Z0w (Z0p O0g hr qS rfl (qJ (pvF 4) (Z0G T.c_MOST_WORDS rfl)))) (Z0a (Z0w (Z1c (pvF 0) T.Guest.cl h_Guest_need hr qS (qI Z0d))) (Z0b (Z0l (Z1K T.House h_House___init__ hr qS rfl (Z0t (pvF 1) (qK (pvF 2) (pvF 3) (pvF 4))))))))))))))))),?_⟩;refine J7l λ uz11 huz11 uz10 huz10 uz9 huz9 uz8 huz8 uz7 huz7 uz6 huz6 uz5 huz5 uz4 huz4 uz3 huz3 uz2 huz2 uz1 huz1=>?_;walk_at "r";unfold RR.rHouse at q;obtain⟨gx,rv,h0⟩:=hg.meth;refine⟨gx,_,h0,rfl,⟨g,ws,n,rfl,hg,To.mono (To.bind q) (λ x i _ q H1 s1 g1=>?_) λ b=>b⟩⟩;subst huz1;walk_at "r";subst huz2;walk_at "r";have go3:∀(el:Option Z0)(j:Nat)(H2:Hp),SY g H H2->GuO K ⟨C_Guest,C_tb,LP,LQ⟩ H2 g ws j->RdH K (CS.mk Ct Cw Ch Cp C_Guest C_Guest C_Guest C_Guest B) ⟨C_Guest,C_tb,LP,LQ⟩ C_BadForm g ws H Q E ((need ws "{" j).bind λ _ i=>(rFields ws (ws.length+1) [] i).bind λ fs j=>if 4<fs.length then .bad else(rWords ws k (ws.length+1) [] j).bind λ wds j=>if 8<wds.length then .bad else(need ws "}" j).bind λ _ m=>.ok ⟨x,el,fs,wds⟩ m)->uz3 {nx:=λ x H'=>Q V.non H',rt:=Q} [some (V.ref g),some (V.str x),some (oS el),none,none] H2:=by
  intro el j H2 S2 g2 q;subst huz3;walk_at "r";obtain⟨gx,rv,h2⟩:=g2.meth;refine⟨gx,_,h2,rfl,⟨g,ws,j,_,rfl,g2,qP,qP,To.mono (To.bind q) (λ _ m _ q H3 s3 g3=>?_) λ b=>b.same S2⟩⟩;have S3:=sxt S2 s3;subst huz4;walk_at "r";refine New.of λ p4 H4 h4 s4 e4=>?_;have g4:=g3.same s4;have S4:=sxt S3 (SY.of s4);obtain⟨gx,rv,h4'⟩:=g4.meth;have n4:p4≠g:=λ z=>by rw[z,h4']at e4;cases e4
  have fr4:H p4=none:=S3.free n4 h4;subst huz5;walk_at "r";refine⟨GwI K ⟨C_Guest,C_tb,LP,LQ⟩ g p4 ws (λ H v t=>RT K H v (pD t)) H [some (V.ref g),some (V.str x),some (oS el),some (V.ref p4),none] (λ _=>True) λ j xs m=>RdH K (CS.mk Ct Cw Ch Cp C_Guest C_Guest C_Guest C_Guest B) ⟨C_Guest,C_tb,LP,LQ⟩ C_BadForm g ws H Q E ((rFields ws j xs m).bind λ fs j=>if 4<fs.length then .bad else(rWords ws k (ws.length+1) [] j).bind λ wds j=>if 8<wds.length then .bad else(need ws "}" j).bind λ _ m=>.ok ⟨x,el,fs,wds⟩ m),⟨_,[],[],m,rfl,S4,g4,trivial,e4,.nil,qb2 _,q⟩,?_⟩;rintro jj σ H5 ⟨us,xs,m5,rfl,S5,g5,_,e5,r5,l5,q⟩;cases jj with
  |zero=>exact q.elim
  |succ jj=>
  obtain⟨gx,rv,h5⟩:=g5.meth;walk_at "r";unfold RR.rFields at q;refine⟨gx,_,h5,rfl,⟨g,ws,m5,_,rfl,g5,qP,ite2 (λ e=>?_) λ e=>?_⟩⟩
  ·rw[if_pos e]at q;refine λ H6 s6 g6=>⟨_,rfl,ite2 (λ _=>⟨_,λ _ _ z=>⟨jj,qd2 _,z⟩,.inl ⟨rfl,_,SqL.of (s6.lst n4 e5)⟩,g,ws,m5+1,rfl,g6,To.mono (To.bind (To.bind q)) (λ b m7 eb q v7 H7 s7 g7 r7=>?_) λ b=>b.same (sxt S5 s6)⟩) λ z=>absurd rfl z⟩;have S7:=sxt s6 s7;have e7:=S7.lst n4 e5;have sx8:SX p4 H7 (upd H7 p4 (.lst (us++[v7]))):=SX.put _;have e8:upd H7 p4 (.lst (us++[v7])) p4=some (.lst (us++[v7])):=Z0g;have lu:=r5.len;have l7:=Z3x eb;have le7:=qa1 g7.le g7.len;refine⟨_,e7,qR,?_⟩;generalize upd H7 p4 (.lst (us++[v7]))=H8 at*;have k8:=Kq.sxl sx8 e7;exact⟨_,xs++[b],m7,rfl,(sxt S5 S7).side fr4 sx8,g7.lst e7 sx8,trivial,e8,A2.snoc (r5.mono λ _ _ r=>r.kt ((g5.kq S7).trans k8).kt) (r7.kt k8.kt),by rw[qa2];show xs.length+1<=m7;lia,To.bnd q⟩
  rw[if_neg e]at q;refine⟨_,rfl,ite2 (λ z=>by cases z) λ _=>?_⟩;have q:=show RdH K (CS.mk Ct Cw Ch Cp C_Guest C_Guest C_Guest C_Guest B) ⟨C_Guest,C_tb,LP,LQ⟩ C_BadForm g ws H Q E (if 4<xs.length then .bad else(rWords ws k (ws.length+1) [] m5).bind λ wds j=>if 8<wds.length then .bad else(need ws "}" j).bind λ _ m=>.ok ⟨x,el,xs,wds⟩ m)from q
  have lu:=r5.len;subst huz6;walk_at "r";refine⟨p4,us,4,rfl,e5,qQ,ite2 (λ e=>?_) λ e=>?_⟩
  ·rw[if_pos (by rw[<-lu];exact e)]at q;exact λ H6 s6=>q H6 (sxt S5 (SY.of s6))
  rw[if_neg (by rw[<-lu];exact e)]at q;have lf:xs.length<=4:=qd4 (by rw[<-lu];exact e);subst huz7;walk_at "r";refine New.of λ p6 H6 h6 s6 e6=>?_;have g6:=g5.same s6;have S6:=sxt S5 (SY.of s6);obtain⟨gx,rv,h6'⟩:=g6.meth;have n6:p6≠g:=λ z=>by rw[z,h6']at e6;cases e6
  have n64:p6≠p4:=nq e5 h6;have fr6:H p6=none:=S5.free n6 h6;subst huz8;walk_at "r";refine⟨GwI K ⟨C_Guest,C_tb,LP,LQ⟩ g p6 ws (λ H v t=>WdO K (CS.mk Ct Cw Ch Cp C_Guest C_Guest C_Guest C_Guest B) H v t) H [some (V.ref g),some (V.str x),some (oS el),some (V.ref p4),some (V.ref p6)] (λ H'=>H' p4=some (.lst us)/\RTs K H' us (xs.map pD)) λ j ys m=>(RdH K (CS.mk Ct Cw Ch Cp C_Guest C_Guest C_Guest C_Guest B) ⟨C_Guest,C_tb,LP,LQ⟩ C_BadForm g ws H Q E ((rWords ws k j ys m).bind λ wds j=>if 8<wds.length then .bad else(need ws "}" j).bind λ _ m=>.ok ⟨x,el,xs,wds⟩ m)),⟨_,[],[],m5,rfl,S6,g6,⟨s6 _ _ e5,(Z9u r5).same s6⟩,e6,.nil,qb2 _,q⟩,?_⟩;rintro jj σ H7 ⟨vs,ys,m7,rfl,S7,g7,⟨x1,x2⟩,e7,r7,l7,q⟩;cases jj with
  |zero=>exact q.elim
  |succ jj=>
  obtain⟨gx,rv,h7⟩:=g7.meth;walk_at "r";unfold RR.rWords at q;refine⟨gx,_,h7,rfl,⟨g,ws,m7,_,rfl,g7,qP,ite2 (λ e=>?_) λ e=>?_⟩⟩
  ·rw[if_pos e]at q;refine λ H8 s8 g8=>⟨_,rfl,ite2 (λ _=>?_) λ z=>absurd rfl z⟩;obtain⟨gx,rv,h8⟩:=g8.meth;refine⟨_,λ _ _ z=>⟨jj,qd2 _,z⟩,.inl ⟨rfl,_,SqL.of (s8.lst n6 e7)⟩,⟨gx,_,h8,rfl,⟨g,ws,m7+1,rfl,g8,To.mono (To.bind (To.bind q)) (λ y m9 ey q H9 s9 g9=>?_) λ b=>b.same (sxt S7 s8)⟩⟩⟩;have S9:=sxt s8 s9;obtain⟨y1,y2,y3,y4⟩:=RR.needName_ok ey;refine⟨g,ws,m9,y,rfl,g9,To.mono (To.bind q) (λ d m10 ed q v10 H10 s10 g10 o10=>?_) λ b=>b.same (sxt S7 S9)⟩;have S10:=sxt S9 s10;have e10:=S10.lst n6 e7;have sx11:SX p6 H10 (upd H10 p6 (.lst (vs++[v10]))):=SX.put _;have e11:upd H10 p6 (.lst (vs++[v10])) p6=some (.lst (vs++[v10])):=Z0g;have lu':=r7.len;have l10:=Z8U ed;have le10:=qa1 g10.le g10.len;refine⟨_,e10,qR,?_⟩;generalize upd H10 p6 (.lst (vs++[v10]))=H11 at*;have k11:=Kq.sxl sx11 e10;have kk:=(g7.kq S10).trans k11;exact⟨_,ys++[d],m10,rfl,(sxt S7 S10).side fr6 sx11,g10.lst e10 sx11,⟨sx11 _ _ (Ne.symm n64) (S10.lst n4 x1),x2.kt kk.kt⟩,e11,A2.snoc (r7.mono λ _ _ r=>r.kq kk) (o10.kq k11),by rw[qa2];show ys.length+1<=m10;lia,To.bnd q⟩
  rw[if_neg e]at q;refine⟨_,rfl,ite2 (λ z=>by cases z) λ _=>?_⟩;have q:=show RdH K (CS.mk Ct Cw Ch Cp C_Guest C_Guest C_Guest C_Guest B) ⟨C_Guest,C_tb,LP,LQ⟩ C_BadForm g ws H Q E (if 8<ys.length then .bad else(need ws "}" m7).bind λ _ m=>.ok ⟨x,el,xs,ys⟩ m)from q
  have lu':=r7.len;subst huz9;walk_at "r";refine⟨p6,vs,8,rfl,e7,qQ,ite2 (λ e=>?_) λ e=>?_⟩
  ·rw[if_pos (by rw[<-lu'];exact e)]at q;exact λ H8 s8=>q H8 (sxt S7 (SY.of s8))
  rw[if_neg (by rw[<-lu'];exact e)]at q;subst huz10;walk_at "r";refine⟨gx,_,h7,rfl,⟨g,ws,m7,_,rfl,g7,qP,qP,To.mono (To.bind q) (λ _ m8 _ q H8 s8 g8=>?_) λ b=>b.same S7⟩⟩;subst huz11;walk_at "r";exact J2u (d:=⟨x,el,xs,ys⟩) (SqL.of (s8.lst n4 x1)) (x2.kt (g7.kq s8).kt) (qa1 lf qS) (SqL.of (s8.lst n6 e7)) (r7.mono λ _ _ r=>r.kq (g7.kq s8)) λ y H9 _ s9 t9=>q _ H9 (sxt S7 (sxt s8 (SY.of s9))) (g8.same s9) t9
 obtain⟨gx,rv,h1⟩:=g1.meth;refine⟨gx,_,h1,rfl,⟨g,ws,i,_,rfl,g1,qP,ite2 (λ e=>?_) λ e=>?_⟩⟩
 ·have q:RdH K (CS.mk Ct Cw Ch Cp C_Guest C_Guest C_Guest C_Guest B) ⟨C_Guest,C_tb,LP,LQ⟩ C_BadForm g ws H Q E ((rOf ws i).bind _):=q;unfold RR.rOf at q;rw[if_pos e]at q;refine λ H2 s2 g2=>⟨_,rfl,ite2 (λ _=>?_) λ z=>absurd rfl z⟩;obtain⟨gx,rv,h2⟩:=g2.meth;exact⟨gx,_,h2,rfl,⟨g,ws,i+1,rfl,g2,To.mono (To.bind (To.bind q)) (λ y m _ q H3 s3 g3=>go3 (some y) m H3 (sxt (sxt s1 s2) s3) g3 q) λ b=>b.same (sxt s1 s2)⟩⟩
 ·have q:RdH K (CS.mk Ct Cw Ch Cp C_Guest C_Guest C_Guest C_Guest B) ⟨C_Guest,C_tb,LP,LQ⟩ C_BadForm g ws H Q E ((rOf ws i).bind _):=q;unfold RR.rOf at q;rw[if_neg e]at q;exact⟨_,rfl,ite2 (λ z=>by cases z) λ _=>go3 none i H1 s1 g1 q⟩
open RR (Res ahead opens bodies)
def Z8y(cb:t0)(K:y0):Sp:=λ vs H Q E=>∃(l:t0)(ws:List Z0),vs=[.ref l]/\H l=some (.lst (ws.map V.str))/\ws.length<=6000/\if opens ws 0=false then(∀H',Same H H'->E (.ref cb) none H')else Q .non H
inductive Z7e(c:CS)(K:y0)(vs:List V)(H:Hp)(Q:VK):Prop
 |mk(v:V)(p:Pg)(a1:vs=[v])(a2:PgO K c H v p)(a3:(bodies p).length<=20000)(a4:∀l us H',Same H H'->H l=none->H' l=some (.lst us)->TOs K c.term H' us (bodies p)->Q (.ref l) H'):Z7e c K vs H Q
def Z4k(c:CS)(K:y0):Sp:=λ vs H Q _=>Z7e c K vs H Q
def Z4W(c:CS)(cb:t0)(K:y0):Sp:=λ vs H Q E=>∃(v:V)(p:Pg),vs=[v]/\PgO K c H v p/\(bodies p).length<=20000/\(if((bodies p).any λ b=>decide (14<b.depth))=true then(∀H',Same H H'->E (.ref cb) none H')else if 400<sumS (bodies p)then(∀H',Same H H'->E (.ref cb) none H')else ∀H',Same H H'->Q .non H')
def OpI(E:XK)(cb l:t0)(ws:List Z0)(H:Hp)(Q:VK)(i:Nat)(σ:St)(H':Hp):Prop:=H'=H/\∃(o:Int)(w:Option V),σ=[some (V.ref l),some (V.int o),w]/\if opens (ws.drop i) o=false then(∀H',Same H H'->E (.ref cb) none H')else Q .non H
theorem J4B{α:Type}{ws:List α}{i:Nat}{x:α}(h:ws[i]?=some x):ws.drop i=x::ws.drop (i+1):=by
 obtain⟨h1,h2⟩:=qc6.mp h;rw[List.drop_eq_getElem_cons h1,h2]
def BdI(K:y0)(ct a l:t0)(hs:List Hs)(H:Hp)(i:Nat)(σ:St)(H':Hp):Prop:=∃us w,σ=[some (V.ref a),some (V.ref l),w]/\Same H H'/\H' l=some (.lst us)/\TOs K ct H' us ((hs.take i).flatMap λ h=>h.words.map (·.body))
theorem SX.kpl'{x:t0}{xs:List V}{H H':Hp}(s:SX x H H')(hx:H x=some (.lst xs)):Kp H H':=
 ⟨λ b xs e=>s _ _ (λ z=>by rw[z,hx]at e;cases e) e,λ b o xs e=>s _ _ (λ z=>by rw[z,hx]at e;cases e) e,λ b C dx f fs e=>s _ _ (λ z=>by rw[z,hx]at e;cases e) e⟩
theorem J1i{K:y0}{C:t0}{H:Hp}:∀{ws:List Wd}{vs:List V},vs.length=ws.length->(∀(j:Nat) v,vs[j]?=some v->∃w,ws[j]?=some w/\TO K C H v w.body)->TOs K C H vs (ws.map (·.body))
 |[],[],_,_=>.nil
 |t::ts,v::vs,e,h=>by
  obtain⟨t',a,b⟩:=h 0 v rfl;cases a;exact .cons b (J1i (qh5 e) λ j u hu=>h (j+1) u hu)
theorem Z8h{α:Type}(f:α->V):∀{ts:List α}{vs:List V},vs.length=ts.length->(∀(j:Nat) v,vs[j]?=some v->∃t,ts[j]?=some t/\v=f t)->vs=ts.map f
 |[],[],_,_=>rfl
 |t::ts,v::vs,e,h=>by
  obtain⟨t',a,b⟩:=h 0 v rfl;cases a;rw[qc0,b,Z8h f (qh5 e) λ j u hu=>h (j+1) u hu]
theorem Z6m:∀(ts:List Tm),(ts.map λ t=>((t.size:Nat):Int)).sum=((sumS ts:Nat):Int)
 |[]=>rfl
 |t::ts=>by
  rw[qc0,List.sum_cons,Z6m ts];show _=(((t.size+sumS ts:Nat)):Int);lia
theorem J2F(T:Txt P w K mg C_Guest Ct Cw Ch Cp C_BadForm D_STRENGTHS D_TRUTHS U_TOLD_WORDS):HasX P w K mg base 1 "need_few_open" ["row"] (Z8y C_BadForm K):=by
 refine HasX.of T.O0S O0c (λ _ _ _ _ _ _ us hl=>el1 us hl λ _=>rfl) (λ vs H Q E h=>?_) (λ f cdv A outer s H vs Q E hr h=>?_)
 ·obtain⟨l,ws,rfl,_⟩:=h;rfl
 obtain⟨l,ws,rfl,hl,hn,q⟩:=h;refine⟨_,(Z0a (qG 1 O0c.nd Z0c) (Z0b (J3H (Z0H rfl rfl) rfl (Z5E (pvF 0)) (qH 2 O0c.nd) (Z0a (Z0r (qM Z1a (pvF 2) Z0d) (Z0b (Z6x (i:=1) O0c.nd rfl (Or.inl rfl) Z0c Z8l)) (Z0b (Z0r (qM Z1a (pvF 2) Z0d) (Z0b (Z6x (i:=1) O0c.nd rfl (Or.inl rfl) Z0c J5x)) Z0m))) (Z0b (Z0r (qM Z6K (pvF 1) (Z0G T.c_MOST_OPEN rfl)) (Z0b (Z0M T.x_BadForm hr rfl (qI Z0d))) Z0m)))))),?_⟩;walk_at "r";refine⟨⟨_,SqL.of hl⟩,J0l (ws.map V.str) (OpI E C_BadForm l ws H Q) ⟨rfl,0,none,rfl,q⟩ (λ i σ H' _ h=>by rw[h.1];exact SqL.of hl) (λ i y σ H' hy h=>?_) (λ σ H' h=>?_)⟩
 ·obtain⟨rfl,o,w,rfl,q⟩:=h;rw[qc4]at hy;obtain⟨x,hx,rfl⟩:=qd3.mp hy;rw[J4B hx]at q;unfold RR.opens at q;dsimp only at q;walk_at "r";have go:∀o':Int,(if(if 14<o' then false else opens (ws.drop (i+1)) o')=false then(∀H2,Same H' H2->E (.ref C_BadForm) none H2)else Q .non H')->if 14<o' then ∀(x:t0),H' x=none->E (Value.ref C_BadForm) none (upd H' x (excO x C_BadForm none))else OpI E C_BadForm l ws H' Q (i+1) [some (V.ref l),some (V.int o'),some (V.str x)] H':=λ o' q=>by
   refine ite2 (λ e=>?_) λ e=>?_
   ·rw[if_pos e,if_pos rfl]at q;exact λ x hx=>q _ (Z0K hx _)
   ·rw[if_neg e]at q;exact⟨rfl,o',_,rfl,q⟩
  refine ite2 (λ e=>?_) λ e=>ite2 (λ e'=>?_) λ e'=>?_
  ·rw[if_pos e]at q;exact go _ q
  ·rw[if_neg e,if_pos e']at q;exact go _ q
  ·rw[if_neg e,if_neg e']at q;exact go _ q
 ·obtain⟨rfl,o,w,rfl,q⟩:=h;rw[qb0,List.drop_length]at q;exact q
theorem J1A(T:Txt P w K mg C_Guest Ct Cw Ch Cp C_BadForm D_STRENGTHS D_TRUTHS U_TOLD_WORDS):HasM P w K mg base 1 Cp "bodies" ["self"] (Z4k (CS.mk Ct Cw Ch Cp C_Guest C_Guest C_Guest C_Guest B) K):=by
 refine HasM.of T.m_Program_bodies sc_Program_bodies (λ _ _ _ _ _ _ us hl=>el1 us hl λ _=>rfl) (λ vs H Q E h=>?_) (λ f cdv A outer s H vs Q E hr h=>?_)
 ·obtain⟨v,p,rfl,_⟩:=h;rfl
 obtain⟨v,p,rfl,hp,hl,q⟩:=h;cases hp with
 |@mk a dx ht hs mv p p1 p2 p3 p4=>
 refine⟨_,(Z0a (qG 1 sc_Program_bodies.nd (Z0O Z2O)) (Z0a (J3H PassesOwn.never rfl (Z4Y (qO 0)) (qH 2 sc_Program_bodies.nd) (Z0b (Z0w (Z4M qe2 PySem.F.slot_list_extend PySem.F.type_list_extend J0n (pvF 1) (qI (Z1A rfl (BlockOk.plain (N:=["word"]) rfl qP qP qP) (Z4Y (qO 2)) (λ C fp s H=>(qH 0 (show(["word"]:List Z0).Nodup by decide+kernel))) (λ C fp s H=>(show PE _ _ (J2Y K _ "body")from Z7i (pvF 0) rfl)))))))) (Z0a (Z0w (Z4M qe2 qe6 qe7 Z1H (pvF 1) (qI (Z7i (qO 0) rfl)))) (Z0b (Z0l (pvF 1)))))),?_⟩;refine seq4 λ uz3 huz3 uz2 huz2 uz1 huz1=>?_;walk_at "r";refine New.of λ l1 H1 h1 s1 e1=>?_;subst huz1;walk_at "r";refine⟨Cp,dx,_,s1 _ _ p1,T.Program.cl,T.n_Program_all_houses,_,rfl,ht,rfl,⟨_,SqT.same p2 s1⟩,J2E hs (BdI K Ct a l1 p.houses H) ⟨[],none,rfl,s1,e1,.nil⟩ (λ i σ H' _ h=>?_) (λ i y σ H' hy h=>?_) (λ σ H' h=>?_)⟩
 ·obtain⟨us,w,rfl,S,_⟩:=h;exact SqT.same p2 S
 ·obtain⟨us,w,rfl,S,e,t⟩:=h;obtain⟨d,hd,hO⟩:=p3.at hy;cases hO with
  |@mk ha hx ft wt zs _ o1 o2 o3 o4=>
  walk_at "r";have hi:=(qc6.mp hd).1;have ptk:(p.houses.take (i+1)).flatMap (λ h=>h.words.map (·.body))=((p.houses.take i).flatMap λ h=>h.words.map (·.body))++d.words.map (·.body):=by
   rw[List.take_succ,hd,qj3];show _++(d.words.map (·.body)++[])=_;rw[qc1]
  have lens:us.length+d.words.length<=20000:=by
   have h1:(bodies p).length=((p.houses.flatMap λ h=>h.words.map (·.body))++[p.main.body]).length:=rfl;have h2:p.houses.flatMap (λ h=>h.words.map (·.body))=(p.houses.take (i+1)).flatMap (λ h=>h.words.map (·.body))++(p.houses.drop (i+1)).flatMap (λ h=>h.words.map (·.body)):=by
    rw[<-qj3,List.take_append_drop]
   rw[qa2,h2,ptk,qa2,qa2,qb0]at h1;have:=t.length;lia
  refine⟨.inl ⟨rfl,_,SqL.of e⟩,⟨Ch,hx,_,S _ _ o1,T.House.cl,T.n_House_own_words,_,rfl,wt,rfl,⟨_,SqT.same o3 S⟩,λ D hD=>?_⟩⟩;have lz:=o4.len;refine Z2X (ys:=zs) none [] (λ j v H=>∃w,d.words[j]?=some w/\TO K Ct H v w.body) (λ j v H1 H2 ⟨t,a,b⟩ s=>⟨t,a,b.kp (kpN s)⟩) rfl hD (by rw[sizeLine_eq];lia) (λ H1 s=>SqT.same o3 (S.trans s)) (λ j y hy H1 K' s k=>?_) (λ vs Hc Sc hv lv hR=>?_)
  ·walk_at "r";obtain⟨wd,hwd,hW⟩:=o4.at hy;cases hW with
   |@mk wa wx pt bv _ w1 w2 w3=>
    exact⟨wa,rfl,⟨Cw,wx,_,s _ _ (S _ _ w1),T.Word.cl,T.n_Word_body,_,rfl,k _ _ (Same.refl _) ⟨wd,hwd,(w3.kp (Kp.of S)).kp (Kp.of s)⟩⟩⟩
  ·have e2:=Sc _ _ e;have nD:D≠l1:=λ z=>by rw[z,e]at hD;cases hD
   refine⟨D,rfl,us,e2,vs,hv,qR,?_⟩;have sx:SX l1 Hc (upd Hc l1 (.lst (us++vs))):=SX.put _;have kx:=SX.kpl' sx e2;refine⟨us++vs,_,rfl,λ b o q=>by rw[Z0k (λ z=>by rw[z,h1]at q;cases q)];exact Sc _ _ (S _ _ q),Z0g,?_⟩;rw[ptk];exact TOs.app ((t.kp (Kp.of Sc)).kp kx) ((J1i (lv.trans lz) hR).kp kx)
 ·obtain⟨us,w,rfl,S,e,t⟩:=h;show uz2 _ _ _;subst huz2;walk_at "r";have lh:=p3.len;rw[lh,qh0]at t;have l2:=t.length;have l3:(bodies p).length=((p.houses.flatMap λ h=>h.words.map (·.body))++[p.main.body]).length:=rfl;rw[qa2]at l3;cases p4 with
  |@mk wa wx pt bv _ w1 w2 w3=>
  refine⟨.inl ⟨rfl,_,SqL.of e⟩,⟨Cp,dx,_,S _ _ p1,T.Program.cl,T.n_Program_main,_,rfl,wa,rfl,⟨Cw,wx,_,S _ _ w1,T.Word.cl,T.n_Word_body,_,rfl,us,e,qR,?_⟩⟩⟩;subst huz3;walk_at "r";have sx:SX l1 H' (upd H' l1 (.lst (us++[bv]))):=SX.put _;have kx:=SX.kpl' sx e;exact q l1 _ _ (λ b o q=>by rw[Z0k (λ z=>by rw[z,h1]at q;cases q)];exact S _ _ q) h1 Z0g (TOs.app (t.kp kx) (.cons ((w3.kp (Kp.of S)).kp kx) .nil))
theorem Z9b(T:Txt P w K mg C_Guest Ct Cw Ch Cp C_BadForm D_STRENGTHS D_TRUTHS U_TOLD_WORDS)(h_Program_bodies:HasM P w K mg base 1 Cp "bodies" ["self"] (Z4k (CS.mk Ct Cw Ch Cp C_Guest C_Guest C_Guest C_Guest B) K))(h_Term_depth:HasM P w K mg base 1 Ct "depth" ["self"] (Z3n Ct K))(h_Term_size:HasM P w K mg base 1 Ct "size" ["self"] (Z4a Ct K)):HasX P w K mg base 2 "need_bounds" ["program"] (Z4W (CS.mk Ct Cw Ch Cp C_Guest C_Guest C_Guest C_Guest B) C_BadForm K):=by
 refine HasX.of T.O1d Z4L (λ _ _ _ _ _ _ us hl=>el1 us hl λ _=>rfl) (λ vs H Q E h=>?_) (λ f cdv A outer s H vs Q E hr h=>?_)
 ·obtain⟨v,p,rfl,_⟩:=h;rfl
 obtain⟨v,p,rfl,hp,hl,q⟩:=h;have hp0:=hp;cases hp with
 |@mk a dx ht hs mv p p1 p2 p3 p4=>
 refine⟨_,(Z0a (Z0r (Z0T (Z0s (r:=J4f K) (J2L rfl) rfl T.z_any J6h (qI (Z1A rfl (BlockOk.plain (N:=["body"]) rfl qP qP qP) (Z5E (Z0x (pvF 0) T.Program.cl h_Program_bodies hr qS)) (λ C fp s H=>(qH 0 (show(["body"]:List Z0).Nodup by decide+kernel))) (λ C fp s H=>(Z0I Z6K (Z0x (pvF 0) T.Term.cl h_Term_depth hr qS) (Z0G T.c_MOST_DEEP rfl) (Z1Z _))))))) (Z0b (Z0M T.x_BadForm hr rfl (qI Z0d))) Z0m) (Z0b (Z0r (qM Z6K (Z0s (Z7X rfl) rfl T.z_sum J3f (qI (Z1A rfl (BlockOk.plain (N:=["body"]) rfl qP qP qP) (Z5E (Z0x (pvF 0) T.Program.cl h_Program_bodies hr qS)) (λ C fp s H=>(qH 0 (show(["body"]:List Z0).Nodup by decide+kernel))) (λ C fp s H=>(Z0x (pvF 0) T.Term.cl h_Term_size hr qS))))) (Z0G T.c_MOST_SIZE rfl)) (Z0b (Z0M T.x_BadForm hr rfl (qI Z0d))) Z0m))),?_⟩;walk_at "r";refine⟨dx,_,p1,rfl,⟨_,p,rfl,hp0,hl,λ l us H1 s1 h1 e1 o1=>⟨l,rfl,⟨_,SqL.of e1⟩,λ D hD=>?_⟩⟩⟩;have lu:=o1.length;refine Z3C (ys:=us) none [] (λ j v H=>∃t,(bodies p)[j]?=some t/\v=V.bl (decide ((14:Int)<(t.depth:Nat)))) (λ j v H1 H2 h s=>h) rfl hD (by rw[sizeLine_eq];lia) (λ H1 s=>SqL.same (SqL.of e1) s) (λ j y hy H2 K' s k=>?_) (λ vs Hc Sc hv lv hR=>?_)
 ·obtain⟨t,ht,hO⟩:=o1.at hy;have hO':=(hO.kp (Kp.of s));have hO2:=hO';cases hO with
  |@mk ta tx inn sh _ _ _ z1 z2 t1 t2 t3 t4 t5=>
  walk_at "r";exact⟨tx,_,s _ _ t1,rfl,⟨_,_,rfl,hO2,_,rfl,k _ _ (Same.refl _) ⟨_,ht,rfl⟩⟩⟩
 have ev:vs=((bodies p).map λ t=>decide ((14:Int)<(t.depth:Nat))).map V.bl:=by
  rw[qd6];exact Z8h _ (lv.trans lu) hR
 have ea:((bodies p).map λ t=>decide ((14:Int)<(t.depth:Nat))).any id=(bodies p).any λ b=>decide (14<b.depth):=by
  rw[List.any_map];refine congrArg (λ g=>(bodies p).any g) (funext λ t=>?_);show decide ((14:Int)<(t.depth:Nat))=decide (14<t.depth);exact decide_eq_decide.mpr qR
 refine⟨D,rfl,_,SqL.of (ev▸hv),?_⟩;rw[ea];have S1:=s1.trans Sc;refine ite2 (λ e=>?_) λ e=>?_
 ·rw[if_pos e]at q;exact λ x hx=>q _ (S1.trans (Z0K hx _))
 rw[if_neg e]at q;refine⟨dx,_,S1 _ _ p1,rfl,⟨_,p,rfl,hp0.same S1,hl,λ l us H3 s3 h3 e3 o3=>⟨l,rfl,⟨_,SqL.of e3⟩,λ D hD=>?_⟩⟩⟩;have lu:=o3.length;refine Z3C (ys:=us) none [] (λ j v H=>∃t,(bodies p)[j]?=some t/\v=V.int (t.size:Nat)) (λ j v H1 H2 h s=>h) rfl hD (by rw[sizeLine_eq];lia) (λ H1 s=>SqL.same (SqL.of e3) s) (λ j y hy H2 K' s k=>?_) (λ vs Hd Sd hv lv hR=>?_)
 ·obtain⟨t,ht,hO⟩:=o3.at hy;have hO2:=(hO.kp (Kp.of s));cases hO with
  |@mk ta tx inn sh _ _ _ z1 z2 t1 t2 t3 t4 t5=>
  walk_at "r";exact⟨tx,_,s _ _ t1,rfl,⟨_,_,rfl,hO2,k _ _ (Same.refl _) ⟨_,ht,rfl⟩⟩⟩
 have ev:vs=((bodies p).map λ t=>((t.size:Nat):Int)).map V.int:=by
  rw[qd6];exact Z8h _ (lv.trans lu) hR
 refine⟨D,rfl,_,SqL.of (ev▸hv),?_⟩;rw[Z6m];have S3:=S1.trans (s3.trans Sd);refine ite2 (λ e=>?_) λ e=>?_
 ·rw[if_pos qR]at q;exact λ x hx=>q _ (S3.trans (Z0K hx _))
 ·rw[if_neg qR]at q;exact q _ S3
open RR (Res ahead need needName Z1e rd rKind rPair rWord rFields rWords rOf rHouse rHouses rProg rRest opens bodies)
structure Cut(x:Z0)(ws:List Z0):Prop where
 len:x.length<=6000
 cut:∃tx,K10.cutP (K10.cds x) 0=.ok tx/\ws=tx.map λ l=>(⟨l.toArray⟩:Z0)
 few:ws.length<=6000
 wd:∀w∈ws,w.length<=6000
inductive Z5f(vs:List V)(H:Hp)(Q:VK):Prop
 |mk(x:Z0)(ws:List Z0)(a1:vs=[.str x])(a2:Cut x ws)(a3:∀H' p,H p=none->Same H H'->H' p=some (.lst (ws.map V.str))->Q (.ref p) H'):Z5f vs H Q
def Z4Q:Sp:=λ vs H Q _=>Z5f vs H Q
def J1h(c:CS)(cg:GC)(cb:t0)(K:y0)(k:Nat):Sp:=λ vs H Q E=>∃(x:Z0)(ws:List Z0),vs=[.str x]/\Cut x ws/\TbS cg H/\To (rProg ws k) (λ p _=>∀v H',(∀g,SY g H H')->TbS cg H'->PgO K c H' v p->Q v H') (∀H',(∀g,SY g H H')->E (.ref cb) none H')
theorem Z6G{g:t0}{H H':Hp}(s:SY g H H')(h:H g=none):∀g',SY g' H H':=λ g'=>⟨λ b o _ t e=>s.k _ _ (Z0i e h) t e,λ b ps _ e=>s.t _ _ (Z0i e h) e⟩
theorem Z4X{ws:List Z0}:∀{k:Nat}{xs ys:List (Z0×Z0)}{n m:Nat},rFields ws k xs n=.ok ys m->n<=m
 |0,_,_,_,_,h=>by cases h
 |k+1,xs,ys,n,m,h=>by
  unfold RR.rFields at h;split at h
  ·obtain⟨y,b,e2,h⟩:=RR.bind_ok h;have:=Z3x e2;have:=Z4X h;lia
  ·cases h;lia
theorem Z6p{ws:List Z0}{kf:Nat}:∀{k:Nat}{xs ys:List Wd}{n m:Nat},rWords ws kf k xs n=.ok ys m->n+ys.length<=m+xs.length
 |0,_,_,_,_,h=>by cases h
 |k+1,xs,ys,n,m,h=>by
  unfold RR.rWords at h;split at h
  ·obtain⟨y,b,e2,h⟩:=RR.bind_ok h;obtain⟨q1,q2,q3,q4⟩:=RR.needName_ok e2;obtain⟨d,c,e3,h⟩:=RR.bind_ok h;have:=Z8U e3;have:=Z6p h;rw[qa2]at this;have:(1:Nat)=[d].length:=rfl;lia
  ·cases h;lia
theorem Z9Y{ws:List Z0}{k n m:Nat}{d:Hs}(h:rHouse ws k n=.ok d m):n+d.words.length<m:=by
 unfold RR.rHouse at h;obtain⟨x,i,e1,h⟩:=RR.bind_ok h;obtain⟨q1,q2,q3,q4⟩:=RR.needName_ok e1;obtain⟨el,i2,e2,h⟩:=RR.bind_ok h;have h2:i<=i2:=by
  unfold RR.rOf at e2;split at e2
  ·obtain⟨y,j,e3,e2⟩:=RR.bind_ok e2;obtain⟨q1,q2,q3,q4⟩:=RR.needName_ok e3;cases e2;lia
  ·cases e2;lia
 obtain⟨_,i3,e3,h⟩:=RR.bind_ok h;obtain⟨q5,q6⟩:=RR.need_ok qP e3;obtain⟨fs,i4,e4,h⟩:=RR.bind_ok h;have h4:=Z4X e4;split at h
 ·cases h
 obtain⟨wd,i5,e5,h⟩:=RR.bind_ok h;have h5:=Z6p e5;have h0:([]:List Wd).length=0:=rfl;split at h
 ·cases h
 obtain⟨_,i6,e6,h⟩:=RR.bind_ok h;obtain⟨q7,q8⟩:=RR.need_ok qP e6;cases h;show n+wd.length<_;lia
theorem Z9N{ws:List Z0}{k n m:Nat}{x:Z0}{d:Wd}(h:rWord ws k x n=.ok d m):d.params.length<=4:=by
 unfold RR.rWord at h;obtain⟨ps,i,e1,h⟩:=RR.bind_ok h;split at h
 ·cases h
 rename_i e;obtain⟨kd,j,e2,h⟩:=RR.bind_ok h;obtain⟨_,j',e3,h⟩:=RR.bind_ok h;obtain⟨t,m',e4,h⟩:=RR.bind_ok h;cases h;exact qd4 e
theorem J4p{K:y0}{cs:CS}{c:Hp}{hl:t0}{hs:List V}{mv:V}{d:Pg}{Q:t0->Hp->Prop}(hp:SqL K c hl hs)(hh:A2 (HsO K cs c) hs d.houses)(hm:WdO K cs c mv d.main)(q:∀x H',c x=none->Same c H'->PgO K cs H' (.ref x) d->Q x H'):∀x b:t0,c x=none->c b=none->¬b=x->Z5s cs K [.ref x,.ref hl,mv] (upd (upd c b (.own x)) x (.ins cs.program b [])) (λ v g=>v=.non/\Q x g) E0:=λ x b hx' hb n=>by
 have s1:Same c (upd (upd c b (.own x)) x (.ins cs.program b [])):=λ a o e=>by
  rw[Z0k (Z0i e hx'),Z0k (Z0i e hb)];exact e
 exact⟨x,b,hl,mv,hs,d,rfl,Z0g,SqL.same hp s1,hh.mono λ _ _ r=>HsO.kp r (Kp.of s1),WdO.kp hm (Kp.of s1),λ H' s2 t=>⟨rfl,q x H' hx' (λ a o e=>s2 _ _ (Z0i e hx') (s1 _ _ e)) t⟩⟩
theorem J1P(T:Txt P w K mg C_Guest Ct Cw Ch Cp C_BadForm D_STRENGTHS D_TRUTHS U_TOLD_WORDS){k:Nat}(O1I:HasX P w K mg base 5 "words" ["text"] Z4Q)(O0V:HasX P w K mg base 1 "need_few_open" ["row"] (Z8y C_BadForm K))(h_Guest___init__:HasM P w K mg base 1 C_Guest "__init__" ["self","all_words"] (Z8V ⟨C_Guest,C_tb,LP,LQ⟩ K))(h_Guest_takes:HasM P w K mg base 2 C_Guest "takes" ["self","word"] (Z1I ⟨C_Guest,C_tb,LP,LQ⟩ K))(O1g:HasX P w K mg base (8*k+10) "read_house" ["guest"] (Z6E (CS.mk Ct Cw Ch Cp C_Guest C_Guest C_Guest C_Guest B) ⟨C_Guest,C_tb,LP,LQ⟩ C_BadForm K k))(O0g:HasX P w K mg base 1 "need_few" ["found","most"] (Z4m C_BadForm K))(h_Guest_need:HasMX P w K mg base 3 C_Guest "need" ["self","word"] (Z1R ⟨C_Guest,C_tb,LP,LQ⟩ C_BadForm K))(O0F:HasX P w K mg base (8*k+9) "read_word" ["guest","name"] (Z5A (CS.mk Ct Cw Ch Cp C_Guest C_Guest C_Guest C_Guest B) ⟨C_Guest,C_tb,LP,LQ⟩ C_BadForm K k))(h_Guest_need_end:HasMX P w K mg base 2 C_Guest "need_end" ["self"] (Z6v ⟨C_Guest,C_tb,LP,LQ⟩ C_BadForm K))(h_Program___init__:HasM P w K mg base 1 Cp "__init__" ["self","all_houses","main"] (Z5s (CS.mk Ct Cw Ch Cp C_Guest C_Guest C_Guest C_Guest B) K))(O1e:HasX P w K mg base 2 "need_bounds" ["program"] (Z4W (CS.mk Ct Cw Ch Cp C_Guest C_Guest C_Guest C_Guest B) C_BadForm K)):HasX P w K mg base (8*k+11) "read" ["text"] (J1h (CS.mk Ct Cw Ch Cp C_Guest C_Guest C_Guest C_Guest B) ⟨C_Guest,C_tb,LP,LQ⟩ C_BadForm K k):=by
 refine HasX.of T.f_read O0M (λ _ _ _ _ _ _ us hl=>el1 us hl λ _=>rfl) (λ vs H Q E h=>?_) (λ f cdv A outer s H vs Q E hr h=>?_)
 ·obtain⟨x,ws,rfl,_⟩:=h;rfl
 obtain⟨x,ws,rfl,hc,tb,q⟩:=h;refine⟨_,(Z0a (qG 1 O0M.nd (Z0p O1I hr qS rfl (qI (pvF 0)))) (Z0a (Z0w (Z0p O0V hr qS rfl (qI (pvF 1)))) (Z0a (qG 2 O0M.nd (Z1K T.Guest h_Guest___init__ hr qS rfl (qI (pvF 1)))) (Z0a (qG 3 O0M.nd (Z0O Z2O)) (Z0a (Z1Y (Z0H rfl rfl) (Z0T (Z0W (pvF 2) T.Guest.cl h_Guest_takes hr qS (qI Z0d))) (Z0b (Z0w (Z4M qe2 qe6 qe7 Z1H (pvF 3) (qI (Z0p O1g hr qS rfl (qI (pvF 2)))))))) (Z0a (Z0w (Z0p O0g hr qS rfl (qJ (pvF 3) (Z0G T.c_MOST_HOUSES rfl)))) (Z0a (Z0w (Z1c (pvF 2) T.Guest.cl h_Guest_need hr qS (qI Z0d))) (Z0a (qG 4 O0M.nd (Z0p O0F hr qS rfl (qJ (pvF 2) Z0d))) (Z0a (Z0w (Z0L (pvF 2) T.Guest.cl h_Guest_need_end hr qS)) (Z0a (Z0r (Z4T (Z0T (Z0s (Z5y rfl) rfl T.z_all J5y (qI (Z1A rfl (BlockOk.plain (N:=["name","kind"]) rfl qP qP qP) (Z4Y (qO 4)) (λ C fp s H=>(show PG _ _ (J4C K 2 _)from Z7D (n:=2) rfl (Z1D (qH 0 (show(["name","kind"]:List Z0).Nodup by decide+kernel)) (Z1D (qH 1 (show(["name","kind"]:List Z0).Nodup by decide+kernel)) Z7m)))) (λ C fp s H=>(Z0I Z1a (pvF 1) Z0d (Z1Z _)))))))) (Z0b (Z0M T.x_BadForm hr rfl (qI Z0d))) Z0m) (Z0a (qG 5 O0M.nd (Z1K T.Program h_Program___init__ hr qS rfl (qJ (pvF 3) (pvF 4)))) (Z0a (Z0w (Z0p O1e hr qS rfl (qI (pvF 5)))) (Z0b (Z0l (pvF 5))))))))))))))),?_⟩;refine J7w λ uz12 huz12 uz11 huz11 uz10 huz10 uz9 huz9 uz8 huz8 uz7 huz7 uz6 huz6 uz5 huz5 uz4 huz4 uz3 huz3 uz2 huz2 uz1 huz1=>?_;walk_at "r";unfold RR.rProg at q;refine⟨x,ws,rfl,hc,λ H1 p1 h1 s1 e1=>?_⟩;subst huz1;walk_at "r";refine⟨p1,ws,rfl,e1,hc.few,ite2 (λ e=>?_) λ e=>?_⟩
 ·rw[if_pos e]at q;exact λ H2 s2=>q H2 λ g=>SY.of (s1.trans s2)
 rw[if_neg e]at q;subst huz2;walk_at "r";intro g dx hg0 hdx nd;have s2:Same H1 (upd (upd H1 dx (HO.own g)) g (HO.ins C_Guest dx [])):=λ a o e=>by
  rw[Z0k (Z0i e hg0),Z0k (Z0i e hdx)];exact e
 have hgH:H g=none:=by
  cases z:H g with
  |none=>rfl
  |some o=>rw[s1 _ _ z]at hg0;cases hg0
 refine⟨g,dx,p1,ws,rfl,Z0g,SqL.same (SqL.of e1) s2,hc.few,hc.wd,(tb.same s1).same s2,λ H3 sx3 g3=>⟨rfl,?_⟩⟩;have S3:SY g H H3:=(SY.of (s1.trans s2)).trans (SY.ofx sx3);have bf:(∀H',(∀g,SY g H H')->E (.ref C_BadForm) none H')->BF C_BadForm g H E:=λ b H' s=>b H' (Z6G s hgH);subst huz3;walk_at "r";refine New.of λ p4 H4 h4 s4 e4=>?_;have g4:=g3.same s4;have S4:=sxt S3 (SY.of s4);obtain⟨gx,rv,h4'⟩:=g4.meth;have n4:p4≠g:=λ z=>by rw[z,h4']at e4;cases e4
 have fr4:H p4=none:=S3.free n4 h4;subst huz4;walk_at "r";refine⟨GwI K ⟨C_Guest,C_tb,LP,LQ⟩ g p4 ws (λ H v t=>HsO K (CS.mk Ct Cw Ch Cp C_Guest C_Guest C_Guest C_Guest B) H v t) H [some (V.str x),some (V.ref p1),some (V.ref g),some (V.ref p4),none,none] (λ _=>True) λ j (xs:List Hs) m=>(xs.flatMap λ h=>h.words.map Wd.body).length<=m/\To ((rHouses ws k j xs m).bind (rRest ws k)) (λ p _=>∀v H',(∀g,SY g H H')->TbS ⟨C_Guest,C_tb,LP,LQ⟩ H'->PgO K (CS.mk Ct Cw Ch Cp C_Guest C_Guest C_Guest C_Guest B) H' v p->Q v H') (∀H',(∀g,SY g H H')->E (.ref C_BadForm) none H'),⟨_,[],[],0,rfl,S4,g4,trivial,e4,.nil,qb2 _,qb2 _,q⟩,?_⟩;rintro jj σ H5 ⟨us,xs,m5,rfl,S5,g5,_,e5,r5,l5,lw,q⟩;cases jj with
 |zero=>exact q.elim
 |succ jj=>
 obtain⟨gx,rv,h5⟩:=g5.meth;walk_at "r";unfold RR.rHouses at q;refine⟨gx,_,h5,rfl,⟨g,ws,m5,_,rfl,g5,qP,ite2 (λ e=>?_) λ e=>?_⟩⟩
 ·rw[if_pos e]at q;refine λ H6 s6 g6=>⟨_,rfl,ite2 (λ _=>⟨_,λ _ _ z=>⟨jj,qd2 _,z⟩,.inl ⟨rfl,_,SqL.of (s6.lst n4 e5)⟩,g,ws,m5+1,rfl,g6,To.mono (To.bind (To.bind q)) (λ b m7 eb q v7 H7 s7 g7 r7=>?_) λ b=>(bf b).same (sxt S5 s6)⟩) λ z=>absurd rfl z⟩;have S7:=sxt s6 s7;have e7:=S7.lst n4 e5;have sx8:SX p4 H7 (upd H7 p4 (.lst (us++[v7]))):=SX.put _;have e8:upd H7 p4 (.lst (us++[v7])) p4=some (.lst (us++[v7])):=Z0g;have lu:=r5.len;have l7:=Z9Y eb;have le7:=qa1 g7.le g7.len;refine⟨_,e7,qR,?_⟩;generalize upd H7 p4 (.lst (us++[v7]))=H8 at*;have k8:=Kq.sxl sx8 e7;exact⟨_,xs++[b],m7,rfl,(sxt S5 S7).side fr4 sx8,g7.lst e7 sx8,trivial,e8,A2.snoc (r5.mono λ _ _ r=>r.kq ((g5.kq S7).trans k8)) (r7.kq k8),by rw[qa2];show xs.length+1<=m7;lia,by rw[qj3,qa2];show _+(b.words.map Wd.body++[]).length<=m7;rw[qc1,qb0];lia,To.bnd q⟩
 rw[if_neg e]at q;refine⟨_,rfl,ite2 (λ z=>by cases z) λ _=>?_⟩;have q:=show To (rRest ws k xs m5) _ _ from q
 unfold RR.rRest at q;have lu:=r5.len;subst huz5;walk_at "r";refine⟨p4,us,12,rfl,e5,qQ,ite2 (λ e=>?_) λ e=>?_⟩
 ·rw[if_pos (by rw[<-lu];exact e)]at q;exact λ H6 s6=>q H6 (Z6G (sxt S5 (SY.of s6)) hgH)
 rw[if_neg (by rw[<-lu];exact e)]at q;have lf:xs.length<=12:=qd4 (by rw[<-lu];exact e);subst huz6;walk_at "r";refine⟨gx,_,h5,rfl,⟨g,ws,m5,_,rfl,g5,qP,qP,To.mono (To.bind q) (λ _ m6 _ q H6 s6 g6=>?_) λ b=>(bf b).same S5⟩⟩;have S6:=sxt S5 s6;subst huz7;walk_at "r";refine⟨g,ws,m6,_,rfl,g6,To.mono (To.bind q) (λ mn m7 em q v7 H7 s7 g7 o7=>?_) λ b=>(bf b).same S6⟩;have S7:=sxt S6 s7;obtain⟨gx,rv,h7⟩:=g7.meth;subst huz8;walk_at "r";refine⟨gx,_,h7,rfl,⟨g,ws,m7,rfl,g7,?_⟩⟩;by_cases ee:ahead ws m7=""
 ·rw[if_pos ee];rw[if_neg (λ z=>z ee)]at q;subst huz9;walk_at "r";have o7':=o7;cases o7 with
  |@mk wa wx pt bv _ w1 w2 w3=>
  obtain⟨pt',zs,ez,hz,hzs⟩:=w2.tup_inv;cases ez;have lz:zs.length=mn.params.length:=by rw[hzs.length,qb0]
  have lp:mn.params.length<=4:=Z9N em;refine⟨wa,rfl,⟨Cw,wx,_,w1,T.Word.cl,T.n_Word_params,_,rfl,pt,rfl,⟨_,hz⟩,λ D hD=>?_⟩⟩;refine Z7B (ys:=zs) (λ σ=>∃a b,σ=[a,b]) (λ j v H=>∃t,mn.params[j]?=some t/\v=V.bl (decide (t.2="number"))) (λ j v H1 H2 h s=>h) ⟨none,none,rfl⟩ hD (by rw[sizeLine_eq];lia) (λ H1 s=>SqT.same hz s) (λ j y σ hy hσ H8 K' s8 k8=>?_) (λ vs Hc Sc hv lv hR=>?_)
  ·obtain⟨a0,b0,rfl⟩:=hσ;obtain⟨d,hd,hr'⟩:=hzs.at hy;rw[qc4]at hd;obtain⟨p,hp',rfl⟩:=qd3.mp hd;obtain⟨pa,ys,rfl,hpa,hys⟩:=hr'.tup_inv;cases hys with
   |cons c1 c2=>
   cases c2 with
   |cons c2 c3=>
   cases c3;cases c1;cases c2;walk_at "r";refine⟨_,SqT.same hpa s8,rfl,⟨_,_,rfl,⟨_,_,rfl,rfl,rfl,k8 _ _ _ ⟨_,_,rfl⟩ (Same.refl _) ⟨p,hp',?_⟩⟩⟩⟩;exact congrArg V.bl (decide_eq_decide.mpr ⟨V.str.inj,congrArg V.str⟩)
  have ev:vs=(mn.params.map λ t:Z0×Z0=>decide (t.2=("number":Z0))).map V.bl:=by
   rw[qd6];exact Z8h _ (lv.trans lz) hR
  refine⟨D,rfl,_,SqL.of (ev▸hv),?_⟩;rw[show(mn.params.map λ t:Z0×Z0=>decide (t.2=("number":Z0))).all id=mn.params.all λ p=>decide (p.2=("number":Z0))by rw[List.all_map];rfl];have Sc7:=sxt S7 (SY.of Sc);have gc:=g7.same Sc;refine ite2 (λ e=>?_) λ e=>?_
  ·rw[if_pos e]at q;exact λ x hx=>((bf q).same Sc7).new hx
  rw[if_neg e]at q;subst huz10;walk_at "r";have S57:=sxt s6 s7;have k5:=((g5.kq S57).trans (Kq.of Sc));refine J4p (d:=⟨xs,mn⟩) (SqL.of (Sc _ _ (S57.lst n4 e5))) (r5.mono λ _ _ r=>r.kq k5) (WdO.kq (Kq.of Sc) o7') λ y H9 _ s9 t9=>?_;subst huz11;walk_at "r";have lb:(bodies ⟨xs,mn⟩).length<=20000:=by
   show((xs.flatMap λ h=>h.words.map Wd.body)++[mn.body]).length<=20000;rw[qa2];have:=qa1 g5.le g5.len;show _+1<=_;lia
  have S9:=sxt Sc7 (SY.of s9);refine⟨_,⟨xs,mn⟩,rfl,t9,lb,ite2 (λ e=>?_) λ e=>?_⟩
  ·rw[if_pos e]at q;exact λ H10 s10=>q H10 (Z6G (sxt S9 (SY.of s10)) hgH)
  rw[if_neg e]at q;refine ite2 (λ e=>?_) λ e=>?_
  ·rw[if_pos e]at q;exact λ H10 s10=>q H10 (Z6G (sxt S9 (SY.of s10)) hgH)
  rw[if_neg e]at q;intro H10 s10;subst huz12;walk_at "r";exact q _ H10 (Z6G (sxt S9 (SY.of s10)) hgH) ((gc.same s9).same s10).tb (t9.same s10)
 ·rw[if_neg ee];rw[if_pos ee]at q;exact(bf q).same S7
end K13
end
end
section
namespace K10
open PySem L2
seal L2.PE L2.PA L2.PT L2.PS L2.PSs L2.PG L2.PGs L2.PI L2.PW
abbrev J5W:Stmt:=K13.O0H
abbrev J5A:Stmt:=K13.O0I
abbrev J3i:Stmt:=K13.O1b
abbrev J0C:Stmt:=K13.O0J
abbrev J3w:Stmt:=K13.O0Q
abbrev Z8A:Stmt:=K13.O0h
abbrev J0V:Stmt:=K13.O0q
abbrev Z8L:Stmt:=K13.O0i
def told:List Z0:=["house","of","has","can","main","let","in","if","then","else","new","self","elder","set","not","yes","no","number","truth"]
structure Txt(K:y0)(mg:Z0->Option q0):Prop where
 figures:∃t,mg "FIGURES"=some (.str "0123456789" t)
 small:∃t,mg "SMALL_LETTERS"=some (.str "abcdefghijklmnopqrstuvwxyz" t)
 great:∃t,mg "GREAT_LETTERS"=some (.str "ABCDEFGHIJKLMNOPQRSTUVWXYZ" t)
 gaps:∃t,mg "GAPS"=some (.str " \t\n" t)
 signs:∃t,mg "SIGNS"=some (.str "(){},.;=+-*/<" t)
 longText:∃t,mg "LONGEST_TEXT"=some (.int 6000 t)
 longNumber:∃t,mg "LONGEST_NUMBER"=some (.int 9 t)
 longName:∃t,mg "LONGEST_NAME"=some (.int 8 t)
 toldW:∃a,mg "TOLD_WORDS"=some (.ref a)/\∀H,SqT K H a (told.map V.str)
 len:mg "len"=none
 all:mg "all"=none
theorem Z3j:cds "0123456789"=figs:=by decide+kernel
theorem Z4l:cds "abcdefghijklmnopqrstuvwxyz"=smalls:=by decide+kernel
theorem Z9B:cds "ABCDEFGHIJKLMNOPQRSTUVWXYZ"=greats:=by decide+kernel
theorem J2G:cds " \t\n"=gaps:=by decide+kernel
theorem J0S:cds "(){},.;=+-*/<"=sgns:=by decide+kernel
theorem Z2C{x:Z0}{l:Tx}(h:cds x=l)(c:Nat):(!(Builtin.Str.occurrences x ⟨#[c]⟩ 0 x.length 1).isEmpty)=l.contains c:=by
 rw[StrLaws.found_one,show x.cps.toList=l from h];simp
theorem Z5q{X:Cx}{x z:Z0}{t:Tok}{pos:Pos}(hg:Gl X x)(hm:X.mg x=some (.str z t))(hd:(x==("__debug__":Z0))=false:=by decide):PE X (.Name x pos) (tC (.str z)):=Z4f (v:=.str z) hg hm ⟨t,rfl⟩ hd
theorem J4I{X:Cx}{x:Z0}{i:Int}{t:Tok}{pos:Pos}(hg:Gl X x)(hm:X.mg x=some (.int i t))(hd:(x==("__debug__":Z0))=false:=by decide):PE X (.Name x pos) (tC (.int i)):=Z4f (v:=.int i) hg hm ⟨t,rfl⟩ hd
theorem pe_gR{X:Cx}{x:Z0}{a:t0}{pos:Pos}(hg:Gl X x)(hm:X.mg x=some (.ref a))(hd:(x==("__debug__":Z0))=false:=by decide):PE X (.Name x pos) (tC (.ref a)):=Z4f (v:=.ref a) hg hm rfl hd
section
variable{P:Program}{w:U0}{K:y0}{mg:Z0->Option q0}{base:V0}
def Z6D:Sp:=λ vs H Q _=>∃c:Nat,vs=[.str ⟨#[c]⟩]/\Q (.bl (Z0v c)) H
theorem J0j:Z0n ["sign"] ["sign"] (Z0e Z8A):=⟨rfl,rfl,rfl,qP,rfl,qP,qP⟩
theorem ok_row_sign{f:t0}{fd:FuncData}(F:Fun K "is_row_sign" "is_row_sign" Z8A f fd)(T:Txt K mg):FnOk P w K mg base CX0 1 f fd ["sign"] Z6D:=by
 refine F.ok J0j (λ vs H Q E h=>?_) (λ cdv A outer s H vs Q E hr h=>?_)
 ·obtain⟨c,rfl,_⟩:=h;rfl
 obtain⟨c,rfl,q⟩:=h;obtain⟨t1,g1⟩:=T.small;obtain⟨t2,g2⟩:=T.figures;obtain⟨t3,g3⟩:=T.great;refine⟨_,Z0b (Z0l (Z6O (Z0I Z1p (pv 0) (Z5q rfl g1) (by with_unfolding_all rfl)) (Z6O (Z0I Z1p (pv 0) (Z5q rfl g2) (by with_unfolding_all rfl)) (Z3O (Z0I Z1p (pv 0) (Z5q rfl g3) (by with_unfolding_all rfl)))))),?_⟩;refine⟨_,rfl,_,_,rfl,rfl,_,rfl,?_⟩;rw[Z2C Z4l];unfold Z0v at q;cases h1:smalls.contains c with
 |true=>rw[h1]at q;exact iteT q
 |false=>
  refine iteF ⟨_,rfl,_,_,rfl,rfl,_,rfl,?_⟩;rw[Z2C Z3j];cases h2:figs.contains c with
  |true=>rw[h1,h2]at q;exact iteT q
  |false=>
   refine iteF ⟨_,rfl,_,_,rfl,rfl,?_⟩;rw[Z2C Z9B];rw[h1,h2]at q;exact q
def J3p:Sp:=λ vs H Q _=>∃x:Z0,vs=[.str x]/\Q (.bl (told.contains x)) H
theorem J5e:Z0n ["word"] ["word"] (Z0e J5W):=⟨rfl,rfl,rfl,qP,rfl,qP,qP⟩
theorem Z7M(x:Z0):∀l:List Z0,inV (.str x) (l.map V.str)=l.contains x
 |[]=>rfl
 |y::r=>by
  have ih:=Z7M x r;unfold inV at ih ⊢;rw[qc0,List.any_cons,ih,qh2];show((y==x)||r.contains x)=((x==y)||r.contains x);rw[show(y==x)=(x==y)from BEq.comm]
theorem Z6f:∀l:List Z0,(l.map V.str).all Z3F=true
 |[]=>rfl
 |_::r=>by rw[qc0,qe3,Z6f r];rfl
theorem ok_told{f:t0}{fd:FuncData}(F:Fun K "is_told" "is_told" J5W f fd)(T:Txt K mg):FnOk P w K mg base CX0 1 f fd ["word"] J3p:=by
 refine F.ok J5e (λ vs H Q E h=>?_) (λ cdv A outer s H vs Q E hr h=>?_)
 ·obtain⟨c,rfl,_⟩:=h;rfl
 obtain⟨x,rfl,q⟩:=h;obtain⟨a,g,sq⟩:=T.toldW;refine⟨_,Z0b (Z0l (Z0I Z2n (pv 0) (pe_gR rfl g) (by with_unfolding_all rfl))),?_⟩;refine⟨_,rfl,a,_,rfl,.inr (sq H),rfl,Z6f told,?_⟩;show Q (.bl (inV (.str x) (told.map V.str))) H;rw[Z7M];exact q
def spB(f:Tx->Bool):Sp:=λ vs H Q _=>∃x:Z0,vs=[.str x]/\x.length<=sizeLine/\∀H',Same H H'->Q (.bl (f (cds x))) H'
theorem Z5Z{H:Hp}{p:t0}(h:H p=none)(o:HO):Same H (upd H p o):=λ b u q=>by rw[Z0k (Z0i q h)];exact q
theorem Z5r:cds "0"=[48]:=by decide+kernel
theorem J5B(c:Nat)(y:Z0)(d:Nat)(hy:cds y=[d]):decide (V.str ⟨#[c]⟩=V.str y)=decide (c=d):=by
 have e:y=⟨#[d]⟩:=Z7n hy;rw[e];by_cases h:c=d
 ·rw[h];simp
 ·have h2:¬(V.str ⟨#[c]⟩=V.str ⟨#[d]⟩):=λ z=>h (by injection z with z;injection z with z;simpa using z);rw[decide_eq_false h,decide_eq_false h2]
theorem Z5a(l:Tx)(p:Nat->Bool):(l.map p).all id=l.all p:=by
 induction l with
 |nil=>rfl
 |cons c r ih=>rw[qc0,qe3,qe3,ih];rfl
theorem J2R:Z0n ["word"] ["word"] (Z0e J0V):=⟨rfl,rfl,rfl,qP,rfl,qP,qP⟩
theorem ok_number{f:t0}{fd:FuncData}(F:Fun K "is_number" "is_number" J0V f fd)(T:Txt K mg):FnOk P w K mg base CX0 1 f fd ["word"] (spB isNum):=by
 refine F.ok J2R (λ vs H Q E h=>?_) (λ cdv A outer s H vs Q E hr h=>?_)
 ·obtain⟨x,rfl,_⟩:=h;rfl
 obtain⟨x,rfl,hz,q⟩:=h;obtain⟨t1,g1⟩:=T.longNumber;obtain⟨t2,g2⟩:=T.figures;refine⟨_,Z0a (Z0r (Z4T (Z8T Z4z Z4z Z0c (Z0s Z0P rfl T.len PySem.boot_len (qI (pv 0))) (J4I rfl g1))) (Z0b (Z0l Z9p)) Z0m) (Z0a (Z0r (qM Z1a (Z5I Z5n (pv 0) Z0c (λ _ _=>rfl)) Z0d) (Z0b (Z0l (Z0I Z1a (pv 0) Z0d (Z1Z _)))) Z0m) (Z0b (Z0l (Z0s (Z5y rfl) rfl T.all PyProof.Rows.boot_all (qI (Z1A rfl (BlockOk.plain (N:=["sign"]) rfl qP qP qP) (J3G (pv 0)) (λ C fp s H=>Z7o (i:=0) (show(["sign"]:List Z0).Nodup by decide+kernel) rfl (Or.inl rfl)) (λ C fp s H=>Z0I Z1p (pv 0) (Z5q rfl g2) (by with_unfolding_all rfl)))))))),?_⟩;refine⟨_,rfl,_,rfl,hz,_,_,rfl,rfl,_,rfl,?_⟩;have hlen:=cds_len x;by_cases h1:(1:Int)<=(x.length:Int)
 ·rw[decide_eq_true h1];refine iteT ⟨_,_,rfl,rfl,_,rfl,?_⟩;by_cases h2:(x.length:Int)<=9
  ·rw[decide_eq_true h2];refine iteF ?_;obtain⟨c,r,e⟩:∃c r,cds x=c::r:=by
    cases e:cds x with
    |nil=>rw[e]at hlen;simp at hlen;lia
    |cons c r=>exact⟨c,r,rfl⟩
   have hr:r.length<=8:=by rw[e]at hlen;simp at hlen;lia
   have eq:isNum (cds x)=(if c=48 then r.isEmpty else(c::r).all λ y=>figs.contains y):=by rw[e];simp[isNum,hr]
   refine⟨_,rfl,x,0,c,rfl,rfl,hz,by show atI (cds x) ((0:Nat):Int)=some c;exact Z2H (by rw[e];rfl),rfl,_,rfl,?_⟩;rw[J5B c "0" 48 Z5r];by_cases h0:c=48
   ·rw[decide_eq_true h0];refine iteT ⟨_,rfl,rfl,?_⟩;have e0:decide (V.str x=V.str "0")=isNum (cds x):=by
     rw[eq,if_pos h0];cases r with
     |nil=>
      have:x="0":=Z7n (by rw[e,Z5r,h0]);rw[this];simp
     |cons d r=>
      have:¬V.str x=V.str "0":=λ z=>by
       injection z with z
       rw[z,Z5r]at e;cases e
      rw[decide_eq_false this];rfl
    rw[e0];exact q H (Same.refl H)
   ·rw[decide_eq_false h0];refine iteF ⟨_,rfl,_,rfl,λ D hD=>Z4y none [] (λ c=>.bl (figs.contains c)) rfl (λ c _ l K k=>⟨_,rfl,_,_,rfl,rfl,by rw[Z2C Z3j];exact k⟩) hz ?_⟩;refine⟨D,(cds x).map λ c=>figs.contains c,rfl,SqL.of (by rw[Z0g,qd6];rfl),?_⟩;rw[Z5a];have:=q _ (Z5Z hD (.lst (x.cps.toList.map λ c=>V.bl (figs.contains c))));rw[eq,if_neg h0,<-e]at this;exact this
  ·rw[decide_eq_false h2];refine iteT ?_;have e0:isNum (cds x)=false:=by
    cases e:cds x with
    |nil=>rfl
    |cons c r=>
     have:¬r.length<=8:=by rw[e]at hlen;simp at hlen;lia
     simp[isNum,this]
   have:=q H (Same.refl H);rw[e0]at this;exact this
 ·rw[decide_eq_false h1];refine iteF ⟨_,rfl,iteT ?_⟩;have e0:cds x=[]:=qj0 qR;have:=q H (Same.refl H);rw[e0]at this;exact this
theorem J1w:Z0n ["word"] ["word"] (Z0e Z8L):=⟨rfl,rfl,rfl,qP,rfl,qP,qP⟩
theorem ok_name_row{f:t0}{fd:FuncData}(F:Fun K "is_name_row" "is_name_row" Z8L f fd)(T:Txt K mg):FnOk P w K mg base CX0 1 f fd ["word"] (spB isNm):=by
 refine F.ok J1w (λ vs H Q E h=>?_) (λ cdv A outer s H vs Q E hr h=>?_)
 ·obtain⟨x,rfl,_⟩:=h;rfl
 obtain⟨x,rfl,hz,q⟩:=h;obtain⟨t1,g1⟩:=T.longName;obtain⟨t2,g2⟩:=T.figures;obtain⟨t3,g3⟩:=T.small;refine⟨_,Z0a (Z0r (Z4T (Z8T Z4z Z4z Z0c (Z0s Z0P rfl T.len PySem.boot_len (qI (pv 0))) (J4I rfl g1))) (Z0b (Z0l Z9p)) Z0m) (Z0b (Z0l (Z7J (Z0I Z1p (Z5I Z5n (pv 0) Z0c (λ _ _=>rfl)) (Z5q rfl g3) (by with_unfolding_all rfl)) (Z3O (Z0s (Z5y rfl) rfl T.all PyProof.Rows.boot_all (qI (Z1A rfl (BlockOk.plain (N:=["sign"]) rfl qP qP qP) (J3G (pv 0)) (λ C fp s H=>Z7o (i:=0) (show(["sign"]:List Z0).Nodup by decide+kernel) rfl (Or.inl rfl)) (λ C fp s H=>Z6O (Z0I Z1p (pv 0) (Z5q rfl g3) (by with_unfolding_all rfl)) (Z3O (Z0I Z1p (pv 0) (Z5q rfl g2) (by with_unfolding_all rfl))))))))))),?_⟩;refine⟨_,rfl,_,rfl,hz,_,_,rfl,rfl,_,rfl,?_⟩;have hlen:=cds_len x;by_cases h1:(1:Int)<=(x.length:Int)
 ·rw[decide_eq_true h1];refine iteT ⟨_,_,rfl,rfl,_,rfl,?_⟩;by_cases h2:(x.length:Int)<=8
  ·rw[decide_eq_true h2];refine iteF ?_;obtain⟨c,r,e⟩:∃c r,cds x=c::r:=by
    cases e:cds x with
    |nil=>rw[e]at hlen;simp at hlen;lia
    |cons c r=>exact⟨c,r,rfl⟩
   have hr:r.length<=7:=by rw[e]at hlen;simp at hlen;lia
   have eq:isNm (cds x)=(smalls.contains c&&(c::r).all λ y=>smalls.contains y||figs.contains y):=by rw[e];simp[isNm,hr]
   refine⟨_,rfl,x,0,c,rfl,rfl,hz,by show atI (cds x) ((0:Nat):Int)=some c;exact Z2H (by rw[e];rfl),_,_,rfl,rfl,_,rfl,?_⟩;rw[Z2C Z4l];cases hs:smalls.contains c with
   |false=>
    refine iteF ?_;have:=q H (Same.refl H);rw[eq,hs]at this;exact this
   |true=>
    refine iteT ⟨_,rfl,_,rfl,λ D hD=>Z4y none [] (λ c=>.bl (smalls.contains c||figs.contains c)) rfl (λ c _ l K k=>⟨_,rfl,_,_,rfl,rfl,_,rfl,?_⟩) hz ?_⟩
    ·rw[Z2C Z4l];cases h3:smalls.contains c with
     |true=>rw[h3]at k;exact iteT k
     |false=>
      refine iteF ⟨_,rfl,_,_,rfl,rfl,?_⟩;rw[Z2C Z3j];rw[h3]at k;exact k
    ·refine⟨D,(cds x).map λ c=>smalls.contains c||figs.contains c,rfl,SqL.of (by rw[Z0g,qd6];rfl),?_⟩;rw[Z5a];have:=q _ (Z5Z hD (.lst (x.cps.toList.map λ c=>V.bl (smalls.contains c||figs.contains c))));rw[eq,hs,Bool.true_and,<-e]at this;exact this
  ·rw[decide_eq_false h2];refine iteT ?_;have e0:isNm (cds x)=false:=by
    cases e:cds x with
    |nil=>rfl
    |cons c r=>
     have:¬r.length<=7:=by rw[e]at hlen;simp at hlen;lia
     simp[isNm,this]
   have:=q H (Same.refl H);rw[e0]at this;exact this
 ·rw[decide_eq_false h1];refine iteF ⟨_,rfl,iteT ?_⟩;have e0:cds x=[]:=qj0 qR;have:=q H (Same.refl H);rw[e0]at this;exact this
def spName:Sp:=λ vs H Q _=>∃x:Z0,vs=[.str x]/\x.length<=sizeLine/\∀H',Same H H'->Q (.bl (isNm (cds x)&&!told.contains x)) H'
theorem J5R:Z0n ["word"] ["word"] (Z0e J5A):=⟨rfl,rfl,rfl,qP,rfl,qP,qP⟩
theorem ok_name{f g1 g2:t0}{fd d1 d2:FuncData}(F:Fun K "is_name" "is_name" J5A f fd)(G1:FnOk P w K mg base CX0 1 g1 d1 ["word"] (spB isNm))(b1:Binds K d1 ["word"] [])(k1:W.keepIn K (.ref g1)=true)(m1:mg "is_name_row"=some (.ref g1))(G2:FnOk P w K mg base CX0 1 g2 d2 ["word"] J3p)(b2:Binds K d2 ["word"] [])(k2:W.keepIn K (.ref g2)=true)(m2:mg "is_told"=some (.ref g2)):FnOk P w K mg base CX0 2 f fd ["word"] spName:=by
 refine F.ok J5R (λ vs H Q E h=>?_) (λ cdv A outer s H vs Q E hr h=>?_)
 ·obtain⟨x,rfl,_⟩:=h;rfl
 obtain⟨x,rfl,hz,q⟩:=h;refine⟨_,Z0b (Z0l (Z7J (Z2l G1 hr rfl m1 k1 b1 .nil Z4N (qI (pv 0))) (Z3O (Z8d (Z2l G2 hr rfl m2 k2 b2 .nil Z4N (qI (pv 0))))))),?_⟩;refine⟨_,rfl,x,rfl,hz,λ H1 s1=>⟨_,rfl,?_⟩⟩;cases hn:isNm (cds x)with
 |false=>
  refine iteF ?_;have:=q H1 s1;rw[hn]at this;exact this
 |true=>
  refine iteT ⟨_,rfl,x,rfl,_,rfl,?_⟩;have:=q H1 s1;rw[hn]at this;exact this
def J0O:Sp:=λ vs H Q _=>∃(x:Z0)(k:Nat),vs=[.str x,.int k]/\k<=x.length/\x.length<=100000/\∀y:Z0,cds y=((cds x).drop k).takeWhile Z0v->Q (.str y) H
theorem scRowAt:Z0n ["text","at","end"] ["text","at"] (Z0e J3w):=⟨rfl,rfl,rfl,qP,rfl,qP,qP⟩
theorem Z9y(l:Tx)(n:Nat)(h:n<=l.length)(ha:(l.take n).all Z0v=true)(hb:∀c,l[n]?=some c->Z0v c=false):l.takeWhile Z0v=l.take n:=by
 induction l generalizing n with
 |nil=>simp
 |cons c r ih=>
  cases n with
  |zero=>
   have:=hb c rfl;rw[qf6,if_neg (by rw[this];exact qa3)];rfl
  |succ n=>
   rw[List.take_succ_cons,qe3,qc5]at ha;rw[qf6,if_pos ha.1,List.take_succ_cons,ih n (by simpa using h) ha.2 (λ d hd=>hb d (by simpa using hd))]
theorem Z6U{c:TT}{tb:TS}{D:Ends}{σ:St}{H:Hp}(Pv:St->Hp->Prop)(μ:St->Hp->Nat)(h0:Pv σ H)(hs:∀σ H,Pv σ H->c σ H λ b H1=>if b=true then ∃N:St->Hp->Prop,(∀σ' H',N σ' H'->∃m',m'<μ σ H/\(m'=μ σ' H'/\Pv σ' H'))/\tb {D with nx:=N,ct:=N,bk:=D.nx} σ H1 else D.nx σ H1):J3F c tb D σ H:=
 ⟨λ m σ H=>m=μ σ H/\Pv σ H,⟨_,rfl,h0⟩,λ m σ H ⟨e,p⟩=>by subst e;exact hs σ H p⟩
theorem ok_row_at{f g1:t0}{fd d1:FuncData}(F:Fun K "row_at" "row_at" J3w f fd)(T:Txt K mg)(G1:FnOk P w K mg base CX0 1 g1 d1 ["sign"] Z6D)(b1:Binds K d1 ["sign"] [])(k1:W.keepIn K (.ref g1)=true)(m1:mg "is_row_sign"=some (.ref g1)):FnOk P w K mg base CX0 2 f fd ["text","at"] J0O:=by
 refine F.ok scRowAt (λ vs H Q E h=>?_) (λ cdv A outer s H vs Q E hr h=>?_)
 ·obtain⟨x,k,rfl,_⟩:=h;rfl
 obtain⟨x,k,rfl,hk,hz,q⟩:=h;have hz':x.length<=sizeLine:=qa1 hz qQ;have hlen:=cds_len x;refine⟨_,Z0a (qG 2 scRowAt.nd (pv 1)) (Z0a (Z1Y PassesOwn.never (PW.pt (J1d (qM Z9E (pv 2) (Z0s Z0P rfl T.len PySem.boot_len (qI (pv 0)))) (Z7I (Z0T (Z2l G1 hr rfl m1 k1 b1 .nil Z4N (qI (Z5I Z5n (pv 0) (pv 2) (λ _ _=>rfl)))))))) (Z0b (Z6x (i:=2) scRowAt.nd rfl (Or.inl rfl) Z0c Z8l))) (Z0b (Z0l (Z5v J5s (pv 0) (Z5p (pv 1)) (Z5p (pv 2)))))),?_⟩;refine⟨_,rfl,?_⟩;have fin:∀n:Nat,k<=n->n<=x.length->(((cds x).drop k).take (n-k)).all Z0v=true->(∀c,(cds x)[n]?=some c->Z0v c=false)->cds (Txt.slice x (some (k:Int)) (some (n:Int)))=((cds x).drop k).takeWhile Z0v:=λ n h1 h2 h3 h4=>by
  rw[Z9H x h1 h2];refine(Z9y _ (n-k) ?_ h3 λ c hc=>h4 c ?_).symm
  ·rw[qf5];lia
  ·rw[qj4,show k+(n-k)=n by lia]at hc;exact hc
 let Pv:St->Hp->Prop:=λ σ H'=>H'=H/\∃n:Nat,σ=[some (.str x),some (.int k),some (.int n)]/\k<=n/\n<=x.length/\(((cds x).drop k).take (n-k)).all Z0v=true;let μ:St->Hp->Nat:=λ σ _=>match σ with|[_,_,some (.int n)]=>(x.length-n.toNat)|_=>0
 refine Z6U Pv μ ⟨rfl,k,rfl,qa0 _,hk,by simp⟩ ?_;rintro σ H' ⟨rfl,n,rfl,h1,h2,h3⟩;refine⟨_,rfl,_,rfl,_,rfl,hz',_,_,rfl,rfl,_,rfl,?_⟩;by_cases hlt:(n:Int)<(x.length:Int)
 ·rw[decide_eq_true hlt];have hn:n<(cds x).length:=by lia
  refine iteT ⟨_,rfl,_,rfl,x,n,(cds x)[n],rfl,rfl,hz',Z2H (qa7 hn),(cds x)[n],rfl,_,rfl,?_⟩;cases hr:Z0v (cds x)[n]with
  |false=>
   refine iteF ⟨_,rfl,_,rfl,_,rfl,_,rfl,_,rfl,x,rfl,hz',q _ (fin n h1 h2 h3 λ c hc=>?_)⟩;rw[qa7 hn]at hc;cases hc;exact hr
  |true=>
   refine iteT ⟨λ σ' H2=>Pv σ' H2/\μ σ' H2<x.length-n,λ σ' H2 ⟨a,b⟩=>⟨_,b,rfl,a⟩,?_⟩;refine⟨_,rfl,_,_,rfl,rfl,⟨rfl,n+1,rfl,qR,qR,?_⟩,?_⟩
   ·have e:((cds x).drop k).take (n+1-k)=((cds x).drop k).take (n-k)++[(cds x)[n]]:=by
     rw[show n+1-k=(n-k)+1 by lia,List.take_add_one,qj4,show k+(n-k)=n by lia,qa7 hn];rfl
    rw[e,List.all_append,h3,qe3,hr];rfl
   ·show x.length-((n:Int)+1).toNat<x.length-n;lia
 ·rw[decide_eq_false hlt];refine iteF (iteF ⟨_,rfl,_,rfl,_,rfl,_,rfl,_,rfl,x,rfl,hz',q _ (fin n h1 h2 h3 λ c hc=>?_)⟩);have:=(qc6.mp hc).1;lia
end
abbrev sBad:Stmt:=K13.top 2
abbrev sInit:Stmt:=Z0D sBad 0
structure Bad(K:y0)(mg:Z0->Option q0)(Hc B f:t0):Prop where
 mH:mg "HouseError"=some (.ref Hc)
 mB:mg "BadWords"=some (.ref B)
 sup:XSup K Hc
 xH:xIn K Hc none=true
 xB:xIn K B (some f)=true
 cls:XCls K B
 no:NoAttr K B "at"
 kp:W.keepIn K (.ref B)=true
 fn:W.isFn K (.ref f)=true
 sub:W.mroIn K B (.ref Hc)=some true
 isi:mg "isinstance"=none
 str:mg "str"=none
section
variable{P:Program}{w:U0}{K:y0}{mg:Z0->Option q0}{base:V0}
def spInit(K:y0)(B:t0):Sp:=λ vs H Q _=>∃x i,vs=[.ref x,.int i]/\H x=some (excN x B none)/\0<=i/\i<2^64/\∀dx,H dx=none->Q .non (upd (upd H x (excN x B (some dx))) dx (.xd [("at",.int i)]))
theorem J6g:Z0n ["self","at"] ["self","at"] (Z0e sInit):=⟨rfl,rfl,rfl,qP,rfl,qP,qP⟩
theorem Z6g{i:Int}(h0:0<=i)(h:i<2^64):i.natAbs.log2<64:=by
 by_cases hz:i.natAbs=0
 ·rw[hz];decide
 ·rw[Nat.log2_lt hz];omega
theorem Z9e{i:Int}(h0:0<=i)(h:i<2^64):(Str.ofString (toString i)).length<=100:=by
 have e:=int_text_length_le (a:=i) (k:=64) qQ (Z6g h0 h);rw[ofString_length];omega
theorem ok_init{f Hc B:t0}{fd:FuncData}(F:Fun K "__init__" "BadWords.__init__" sInit f fd)(D:Bad K mg Hc B f):FnOk P w K mg base CX0 1 f fd ["self","at"] (spInit K B):=by
 refine F.ok J6g (λ vs H Q E h=>?_) (λ cdv A outer s H vs Q E hr h=>?_)
 ·obtain⟨x,i,rfl,_⟩:=h;rfl
 obtain⟨x,i,rfl,hx,h0,hi,q⟩:=h;refine⟨_,Z0a (Z0w (J2O D.sup rfl D.mH (qJ (pv 0) (Z7v (Z3f Z0d (Z3f (J0E (pv 1)) J1j)))))) (Z0b (J4T (pv 0) (pv 1) rfl)),?_⟩;have hl:=Z9e h0 hi;refine⟨.ref x,rfl,_,rfl,qQ,.int i,rfl,.inl ⟨i,rfl,qa5 (Z6g h0 hi) qQ,?_⟩⟩;have hb:∀z:Z0,(Str.empty++z).length=z.length:=λ z=>by rw[<-cds_len,<-cds_len,cds_app];rfl
 have hlen:(Str.empty++("no word of the language at ":Z0)++Str.ofString (toString i)).length<=sizeLine:=by
  rw[<-cds_len,cds_app,qa2,cds_len,cds_len,hb,sizeLine_eq];have:("no word of the language at ":Z0).length=27:=by decide
  omega
 refine⟨_,rfl,hlen,hlen,x,B,some f,none,_,rfl,hx,D.xB,(by show 1<=sizeLine;decide),?_⟩;exact⟨.int i,rfl,.ref x,rfl,x,B,rfl,hx,D.cls,D.no,λ dx hdx=>q dx hdx⟩
def AtK(H:Hp)(B:t0)(k:Nat)(E:XK):Prop:=∀H' dx,Same H H'->H' dx=some (.xd [("at",.int k)])->E (.ref B) (some dx) H'
theorem Z3T{H:Hp}{B x:t0}{k:Nat}{E:XK}(h:AtK H B k E)(hk:k<2^64)(hx:H x=none):spInit K B [.ref x,.int k] (upd H x (excN x B none)) (λ v H2=>v=.non/\∃ed,H2 x=some (excN x B ed)/\E (.ref B) ed (upd H2 x (excO x B ed))) E0:=by
 refine ⟨x,k,rfl,Z0g,by omega,by omega,λ dx hdx=>⟨rfl,some dx,?_,h _ dx (λ b o q=>?_) ?_⟩⟩;all_goals
  have nx:dx≠x:=λ z=>by rw[z,Z0g]at hdx;cases hdx
  have hdx':H dx=none:=by rw[Z0k nx]at hdx;exact hdx
 ·rw[Z0k (Ne.symm nx),Z0g]
 ·have n1:b≠x:=Z0i q hx;have n2:b≠dx:=Z0i q hdx';rw[Z0k n1,Z0k n2,Z0k n1,Z0k n1];exact q
 ·rw[Z0k nx,Z0g]
abbrev ofTx(l:Tx):Z0:=⟨l.toArray⟩
def Z8w(B:t0):Sp:=λ vs H Q E=>∃(x:Z0)(k:Nat),vs=[.str x,.int k]/\x.length<=100000/\∃c r,(cds x).drop k=c::r/\
  (if (isNum ((c::r).takeWhile Z0v) || isNm ((c::r).takeWhile Z0v))=true then ∀ H',Same H H'->Q (.str (ofTx ((c::r).takeWhile Z0v))) H'
   else if Z0v c=false/\sgns.contains c=true then ∀H',Same H H'->Q (.str (ofTx [c])) H' else AtK H B k E)
theorem scWordAt:Z0n ["text","at","row"] ["text","at"] (Z0e J0C):=⟨rfl,rfl,rfl,qP,rfl,qP,qP⟩
theorem AtK.mono{H H':Hp}{B:t0}{k:Nat}{E:XK}(h:AtK H B k E)(s:Same H H'):AtK H' B k E:=λ H2 dx s2 q=>h H2 dx (s.trans s2) q
theorem Z2G(c:Nat)(r:Tx):(c::r).takeWhile Z0v=[]↔Z0v c=false:=by
 rw[qf6];cases Z0v c<;>simp
theorem ok_word_at{f Hc B fi g1 g2 g3:t0}{fd di d1 d2 d3:FuncData}(F:Fun K "word_at" "word_at" J0C f fd)(T:Txt K mg)(D:Bad K mg Hc B fi)(GI:FnOk P w K mg base CX0 1 fi di ["self","at"] (spInit K B))(bi:Binds K di ["self","at"] [])(G1:FnOk P w K mg base CX0 2 g1 d1 ["text","at"] J0O)(b1:Binds K d1 ["text","at"] [])(k1:W.keepIn K (.ref g1)=true)(m1:mg "row_at"=some (.ref g1))(G2:FnOk P w K mg base CX0 1 g2 d2 ["word"] (spB isNum))(b2:Binds K d2 ["word"] [])(k2:W.keepIn K (.ref g2)=true)(m2:mg "is_number"=some (.ref g2))(G3:FnOk P w K mg base CX0 1 g3 d3 ["word"] (spB isNm))(b3:Binds K d3 ["word"] [])(k3:W.keepIn K (.ref g3)=true)(m3:mg "is_name_row"=some (.ref g3)):FnOk P w K mg base (CXe P w) 3 f fd ["text","at"] (Z8w B):=by
 refine F.okX scWordAt (λ vs H Q E h=>?_) (λ cdv A outer s H vs Q E hr h=>?_)
 ·obtain⟨x,k,rfl,_⟩:=h;rfl
 obtain⟨x,k,rfl,hz,c,r,ecr,h⟩:=h;obtain⟨t1,g1'⟩:=T.signs;have hr1:Room 1 _:=hr.mono qQ;have hk:k<x.length:=by
  have:=congrArg List.length ecr;rw[qf5,cds_len]at this;simp at this;omega
 have hz':x.length<=sizeLine:=qa1 hz qQ;have hat:atI (cds x) ((k:Nat):Int)=some c:=Z2H (by
  have:((cds x).drop k)[0]?=some c:=by rw[ecr];rfl
  rw[qj4]at this;simpa using this)
 refine⟨_,Z0a (qG 2 scWordAt.nd (Z2l G1 hr rfl m1 k1 b1 .nil Z4N (qJ (pv 0) (pv 1)))) (Z0a (Z0r (PW.pt (J2q (Z0T (Z2l G2 hr1 rfl m2 k2 b2 .nil Z4N (qI (pv 2)))) (Z7S (Z0T (Z2l G3 hr1 rfl m3 k3 b3 .nil Z4N (qI (pv 2))))))) (Z0b (Z0l (pv 2))) Z0m) (Z0a (Z0r (PW.pt (J1d (qM Z1a (pv 2) Z0d) (Z7I (Z2L Z1p (Z5I Z5n (pv 0) (pv 1) (λ _ _=>rfl)) (Z5q rfl g1') (by with_unfolding_all rfl))))) (Z0b (Z0l (Z5I Z5n (pv 0) (pv 1) (λ _ _=>rfl)))) Z0m) (Z0b (Z8Q D.xB D.kp D.fn GI hr bi rfl D.mB (qI (pv 1)))))),?_⟩;refine⟨_,rfl,_,rfl,x,k,rfl,by omega,hz,λ y hy=>?_⟩;rw[ecr]at hy;have hy':y=ofTx ((c::r).takeWhile Z0v):=Z7n hy;have ylen:y.length<=sizeLine:=by
  rw[<-cds_len,hy];refine qa1 (qj1 Z0v).length_le ?_;have:=congrArg List.length ecr;rw[qf5,cds_len]at this;omega
 refine⟨_,rfl,y,rfl,ylen,λ H1 s1=>⟨_,rfl,?_⟩⟩;rw[hy];cases hn:isNum ((c::r).takeWhile Z0v)with
 |true=>
  rw[hn,Bool.true_or,if_pos rfl]at h;refine iteT (iteT ⟨_,rfl,?_⟩);rw[hy'];exact h H1 s1
 |false=>
  refine iteF ⟨_,rfl,y,rfl,ylen,λ H2 s2=>⟨_,rfl,?_⟩⟩;rw[hy];cases hm:isNm ((c::r).takeWhile Z0v)with
  |true=>
   rw[hm,qe5,if_pos rfl]at h;refine iteT ⟨_,rfl,?_⟩;rw[hy'];exact h H2 (s1.trans s2)
  |false=>
   rw[hn,hm,Bool.or_false,if_neg qa3]at h;refine iteF ⟨_,rfl,rfl,_,rfl,?_⟩;have e0:decide (V.str y=V.str "")=!Z0v c:=by
    cases hc:Z0v c with
    |true=>
     refine decide_eq_false λ z=>?_;injection z with z
     rw[z]at hy;have:=(Z2G c r).mp (by rw[<-hy];decide+kernel);rw[hc]at this;cases this
    |false=>
     refine decide_eq_true ?_;rw[hy',(Z2G c r).mpr hc];rfl
   rw[e0];cases hc:Z0v c with
   |true=>
    rw[if_neg (by rw[hc];simp)]at h;refine iteF (iteF ⟨_,rfl,(show 1<=sizeLine by decide),λ x' hx'=>Z3T (h.mono (s1.trans s2)) (by omega) hx'⟩)
   |false=>
    refine iteT ⟨_,rfl,_,rfl,x,k,c,rfl,rfl,hz',hat,_,_,rfl,rfl,_,rfl,?_⟩;rw[Z2C J0S];cases hs:sgns.contains c with
    |true=>
     rw[if_pos ⟨hc,hs⟩]at h;exact iteT ⟨_,rfl,_,rfl,x,k,c,rfl,rfl,hz',hat,h H2 (s1.trans s2)⟩
    |false=>
     rw[if_neg (by rw[hs];simp)]at h;exact iteF ⟨_,rfl,(show 1<=sizeLine by decide),λ x' hx'=>Z3T (h.mono (s1.trans s2)) (by omega) hx'⟩
abbrev vT(l:Tx):V:=.str (ofTx l)
def J7x(B:t0)(H:Hp)(Q:VK)(E:XK):Res->Prop
 | .ok ws=>∀H' p,H p=none->Same H H'->H' p=some (.lst (ws.map vT))->Q (.ref p) H'
 | .error k=>AtK H B k E
def J4e(K:y0)(B:t0):Sp:=λ vs H Q E=>(∃x:Z0,vs=[.str x]/\x.length<=100000/\(if x.length<=6000 then J7x B H Q E (cutP (cds x) 0)else AtK H B 0 E))\/
 (∃v t,vs=[v]/\TyOf K H v t/\W.kitOne K t (.type "str")=some false/\AtK H B 0 E)
theorem scWords:Z0n ["text","cut","at","word"] ["text"] (Z0e J3i):=⟨rfl,rfl,rfl,qP,rfl,qP,qP⟩
theorem J2C(l:Tx):l.drop (l.takeWhile Z0v).length=l.dropWhile Z0v:=by
 have h:=Z5K l;have:l.drop (l.takeWhile Z0v).length=(l.takeWhile Z0v++l.dropWhile Z0v).drop (l.takeWhile Z0v).length:=by rw[h]
 rw[this,List.drop_left]
theorem ok_words{f Hc B fi g1:t0}{fd di d1:FuncData}(F:Fun K "words" "words" J3i f fd)(T:Txt K mg)(D:Bad K mg Hc B fi)(GI:FnOk P w K mg base CX0 1 fi di ["self","at"] (spInit K B))(bi:Binds K di ["self","at"] [])(G1:FnOk P w K mg base (CXe P w) 3 g1 d1 ["text","at"] (Z8w B))(b1:Binds K d1 ["text","at"] [])(k1:W.keepIn K (.ref g1)=true)(m1:mg "word_at"=some (.ref g1)):FnOk P w K mg base (CXe P w) 4 f fd ["text"] (J4e K B):=by
 refine F.okX scWords (λ vs H Q E h=>?_) (λ cdv A outer s H vs Q E hr h=>?_)
 ·rcases h with⟨x,rfl,_⟩|⟨v,t,rfl,_⟩<;>rfl
 obtain⟨t1,lt⟩:=T.longText;obtain⟨t2,gp⟩:=T.gaps;have hr2:Room 2 _:=hr.mono qQ;refine⟨_,Z0a (Z0r (PW.pt (J2q (Z4T (Z0T (Z0s Z3U rfl D.isi PyProof.Rows.boot_isinstance (qJ (pv 0) (Z4u (v:=.ty "str") rfl D.str PyProof.Rows.boot_str rfl))))) (Z7S (qM Z6K (Z0s Z0P rfl T.len PySem.boot_len (qI (pv 0))) (J4I rfl lt))))) (Z0b (Z8Q D.xB D.kp D.fn GI hr2 bi rfl D.mB (qI Z0c))) Z0m) (Z0a (qG 1 scWords.nd (Z0O Z2O)) (Z0a (qG 2 scWords.nd Z0c) (Z0a (Z1Y (Z0H rfl rfl) (qM Z9E (pv 2) (Z0s Z0P rfl T.len PySem.boot_len (qI (pv 0)))) (Z0b (Z0r (Z2L Z1p (Z5I Z5n (pv 0) (pv 2) (λ _ _=>rfl)) (Z5q rfl gp) (by with_unfolding_all rfl)) (Z0b (Z6x (i:=2) scWords.nd rfl (Or.inl rfl) Z0c Z8l)) (Z0a (qG 3 scWords.nd (Z2l G1 hr rfl m1 k1 b1 .nil (Raised.passes λ _ _ _ _ q=>q) (qJ (pv 0) (pv 2)))) (Z0a (Z0w (Z4M qe2 qe6 qe7 Z1H (pv 1) (qI (pv 3)))) (Z0b (Z6x (i:=2) scWords.nd rfl (Or.inl rfl) (Z0s Z0P rfl T.len PySem.boot_len (qI (pv 3))) Z8l))))))) (Z0b (Z0l (pv 1)))))),?_⟩;rcases h with⟨x,rfl,hz,h⟩|⟨v,t,rfl,ty,kt,h⟩
 ·have hz':x.length<=sizeLine:=qa1 hz qQ;have hlen:=cds_len x;refine⟨_,rfl,_,_,_,_,_,rfl,rfl,.str x,Z4c,_,rfl,?_⟩;refine iteF ⟨_,rfl,_,rfl,hz',_,_,rfl,rfl,_,rfl,?_⟩;by_cases hl:x.length<=6000
  ·rw[if_pos hl]at h;rw[decide_eq_false (show ¬(6000:Int)<(x.length:Int)by omega)];refine iteF ⟨qQ,λ p hp=>?_⟩;let Pv:St->Hp->Prop:=λ σ H'=>∃(n:Nat)(dn:List Tx)(wd:Option V),σ=[some (.str x),some (.ref p),some (.int n),wd]/\H' p=some (.lst (dn.map vT))/\Same H H'/\n<=x.length/\dn.length<=n/\cutP (cds x) 0=pre dn (cutP ((cds x).drop n) n);let μ:St->Hp->Nat:=λ σ _=>match σ with|[_,_,some (.int n),_]=>(x.length-n.toNat)|_=>0
   refine Z6U Pv μ ⟨0,[],none,rfl,Z0g,Z5Z hp _,qb2 _,qb2 _,by rw[J4P];rfl⟩ ?_;rintro σ H' ⟨n,dn,wd,rfl,hd,hs,hn,hdn,hc⟩;refine⟨_,rfl,_,rfl,x,rfl,hz',_,_,rfl,rfl,_,rfl,?_⟩;by_cases hlt:(n:Int)<(x.length:Int)
   ·rw[decide_eq_true hlt];have hn':n<(cds x).length:=by omega
    have ecr:(cds x).drop n=(cds x)[n]::(cds x).drop (n+1):=List.drop_eq_getElem_cons hn';generalize hcc:(cds x)[n]=c at ecr;have hat:atI (cds x) ((n:Nat):Int)=some c:=Z2H (by rw[qa7 hn',hcc]);refine iteT ⟨λ σ' H2=>Pv σ' H2/\μ σ' H2<x.length-n,λ σ' H2 ⟨a,b⟩=>⟨_,b,rfl,a⟩,?_⟩;refine⟨_,rfl,_,rfl,x,n,c,rfl,rfl,hz',hat,_,_,rfl,rfl,_,rfl,?_⟩;rw[Z2C J2G];rw[ecr,cutP]at hc;cases hg:gaps.contains c with
    |true=>
     rw[if_pos hg]at hc;refine iteT ⟨_,rfl,_,_,rfl,rfl,⟨n+1,dn,wd,rfl,hd,hs,by omega,by omega,hc⟩,?_⟩;show x.length-((n:Int)+1).toNat<x.length-n;omega
    |false=>
     rw[if_neg (by rw[hg];exact qa3)]at hc;refine iteF ⟨_,rfl,_,rfl,x,n,rfl,hz,c,(cds x).drop (n+1),ecr,?_⟩;have dlen:((cds x).drop (n+1)).length=x.length-(n+1):=by rw[qf5,cds_len]
     have go:∀(row:Tx)(H2:Hp),Same H' H2->row≠[]->row.length<=x.length-n->cutP (cds x) 0=pre (dn++[row]) (cutP ((cds x).drop (n+row.length)) (n+row.length))->
       tSeq (J4g (tBM K "list" Z7r (tVar 1) (Z4B (tVar 3) tNil))) (tAug 2 (tCB (λ xs H Q=>∃z:Z0,xs=[.str z]/\z.length<=sizeLine/\Q (.int z.length) H) (Z4B (tVar 3) tNil)) (ipI λ i j=>i+j)) {nx:=λ σ' H2=>Pv σ' H2/\μ σ' H2<x.length-n,rt:=Q,bk:=λ _ _=>False,ct:=λ _ _=>False} [some (.str x),some (.ref p),some (.int n),some (vT row)] H2:=λ row H2 s2 hne hrl hc2=>by
      have hd2:=s2 _ _ hd;have rl:(ofTx row).length=row.length:=by rw[<-cds_len]
      refine⟨_,rfl,.inl ⟨rfl,_,SqL.of hd2⟩,_,rfl,p,_,_,rfl,rfl,hd2,by rw[qb0,sizeLine_eq];omega,?_⟩;refine⟨_,rfl,_,rfl,_,rfl,by rw[rl,sizeLine_eq];omega,_,_,rfl,rfl,⟨n+row.length,dn++[row],some (vT row),?_,?_,?_,by omega,?_,hc2⟩,?_⟩
      ·rw[rl];rfl
      ·rw[Z0g,qe4];rfl
      ·intro b o q;rw[Z0k (Z0i q hp)];exact s2 _ _ (hs _ _ q)
      ·have:0<row.length:=qi8.mpr hne;rw[qa2];show dn.length+1<=_;omega
      ·have:0<row.length:=qi8.mpr hne;show x.length-((n:Int)+((ofTx row).length:Int)).toNat<x.length-n;rw[rl];omega
     generalize hdr:(cds x).drop (n+1)=r at ecr hc dlen;cases hw:(isNum ((c::r).takeWhile Z0v)||isNm ((c::r).takeWhile Z0v))with
     |true=>
      rw[if_pos rfl];have hne:(c::r).takeWhile Z0v≠[]:=λ z=>by rw[z]at hw;exact absurd hw qQ
      have hcr:Z0v c=true:=by
       cases q:Z0v c with
       |true=>rfl
       |false=>exact absurd ((Z2G c r).mpr q) hne
      rw[if_pos hcr,hw,if_pos rfl,J0o]at hc;refine λ H2 s2=>go _ H2 s2 hne ?_ ?_
      ·refine qa1 (qj1 Z0v).length_le ?_;show r.length+1<=_;omega
      ·rw[hc,<-qg4,ecr,J2C,qh4,if_pos hcr]
     |false=>
      rw[if_neg qa3];cases hcr:Z0v c with
      |true=>
       rw[if_neg (by simp)];rw[if_pos hcr,hw,if_neg qa3]at hc;rw[hc]at h;exact AtK.mono h hs
      |false=>
       rw[if_neg (by rw[hcr];exact qa3)]at hc;cases hsg:sgns.contains c with
       |true=>
        rw[if_pos ⟨rfl,rfl⟩];rw[if_pos hsg,J0o]at hc;refine λ H2 s2=>go [c] H2 s2 (by simp) (by show 1<=_;omega) ?_;rw[hc];show _=pre (dn++[[c]]) (cutP ((cds x).drop (n+1)) (n+1));rw[hdr]
       |false=>
        rw[if_neg (by simp)];rw[if_neg (by rw[hsg];exact qa3)]at hc;rw[hc]at h;exact AtK.mono h hs
   ·rw[decide_eq_false hlt];refine iteF ⟨_,rfl,?_⟩;have e0:(cds x).drop n=[]:=qg5 (by omega);rw[e0,cutP]at hc;rw[hc]at h;refine h H' p hp hs ?_;rw[qc1];exact hd
  ·rw[if_neg hl]at h;rw[decide_eq_true (show(6000:Int)<(x.length:Int)by omega)];exact iteT ⟨(show 1<=sizeLine by decide),λ x' hx'=>Z3T h qQ hx'⟩
 ·refine⟨v,rfl,_,_,_,_,_,rfl,rfl,ty,kt,_,rfl,?_⟩;exact iteT (iteT ⟨(show 1<=sizeLine by decide),λ x' hx'=>Z3T h qQ hx'⟩)
end
end K10
end
section
open PySem L2 TM WK
section
namespace K13
open PySem L2 TM WK
open P15 (Lb Fm Tm dats Z1m okF Ok maxD sumS flatR Bld)
open PW (Wd Hs Pg IxAt Look Z1w Z1G Flds Z1U)
seal L2.PE L2.PA L2.PT L2.PS L2.PSs L2.PG L2.PGs L2.PI L2.PW
open RR (Z1e)
theorem J3h{P:Program}{w:U0}{K:y0}{mg:Z0->Option q0}{base:V0}{x:Z0}{st:Stmt}{k:Nat}{ps:List Z0}{sp sp':Sp}(F:Fn K mg x st)(hb:∀(kV doc pm:q0)(an:Option t0)(cdv ct:q0)(us:List q0),us.length=ps.length->bindArgs (W.fnOf x x (Z0Q st) (Z0B st) (Z0e st) .none kV doc pm an cdv ct) ⟨us,[]⟩=pure (ps.zip us))(ok:∀f fd,Fun K x x st f fd->FnOk P w K mg base CX0 k f fd ps sp)(i:∀vs H Q E,sp' vs H Q E->sp vs H Q E):Has P w K mg base k x ps sp':=by
 obtain⟨f,fd,F,m⟩:=F.ex;exact⟨f,fd,(ok f fd F).imp i,F.binds hb,F.kp,m⟩
theorem ktxt(T:Txt P w K mg C_Guest Ct Cw Ch Cp C_BadForm D_STRENGTHS D_TRUTHS U_TOLD_WORDS):K10.Txt K mg:=by
 have s:∀{x y:Z0},Cst mg x (.str y)->∃t,mg x=some (.str y t):=λ c=>by
  obtain⟨u,m,t,rfl⟩:=c.ex;exact⟨t,m⟩
 have n:∀{x:Z0}{y:Int},Cst mg x (.int y)->∃t,mg x=some (.int y t):=λ c=>by
  obtain⟨u,m,t,rfl⟩:=c.ex;exact⟨t,m⟩
 refine⟨s T.c_FIGURES,s T.c_SMALL_LETTERS,s T.c_GREAT_LETTERS,s T.c_GAPS,s T.c_SIGNS,n T.c_LONGEST_TEXT,n T.c_LONGEST_NUMBER,n T.c_LONGEST_NAME,?_,T.z_len,T.z_all⟩;obtain⟨u,m,r⟩:=T.c_TOLD_WORDS.ex;cases r;refine⟨_,m,λ H=>?_⟩;exact T.t_TOLD_WORDS H
theorem Z5c{x:Z0}{st:Stmt}{k:Nat}{ps:List Z0}{sp:Sp}(F:Fn K mg x st)(hb:∀(kV doc pm:q0)(an:Option t0)(cdv ct:q0)(us:List q0),us.length=ps.length->bindArgs (W.fnOf x x (Z0Q st) (Z0B st) (Z0e st) .none kV doc pm an cdv ct) ⟨us,[]⟩=pure (ps.zip us))(ok:∀f fd,Fun K x x st f fd->FnOk P w K mg base CX0 k f fd ps sp):∃f fd,FnOk P w K mg base CX0 k f fd ps sp/\Binds K fd ps []/\W.keepIn K (.ref f)=true/\mg x=some (.ref f):=by
 obtain⟨f,fd,F,m⟩:=F.ex;exact⟨f,fd,ok f fd F,F.binds hb,F.kp,m⟩
theorem J2e(T:Txt P w K mg C_Guest Ct Cw Ch Cp C_BadForm D_STRENGTHS D_TRUTHS U_TOLD_WORDS):Has P w K mg base 2 "is_number" ["word"] Z5H:=by
 refine(J3h (sp:=K10.spB K10.isNum) (k:=1) (ps:=["word"]) T.O0R (λ _ _ _ _ _ _ us hl=>el1 us hl λ _=>rfl) (λ f fd F=>K10.ok_number F (ktxt T)) λ vs H Q E h=>?_).mono qS;obtain⟨x,rfl,hl,q⟩:=h;exact⟨x,rfl,qa1 hl qS,q⟩
theorem J0W(T:Txt P w K mg C_Guest Ct Cw Ch Cp C_BadForm D_STRENGTHS D_TRUTHS U_TOLD_WORDS):Has P w K mg base 2 "is_name" ["word"] Z3y:=by
 obtain⟨g1,d1,G1,b1,k1,m1⟩:=Z5c (P:=P) (w:=w) (base:=base) (ps:=["word"]) T.O0L (λ _ _ _ _ _ _ us hl=>el1 us hl λ _=>rfl) λ f fd F=>K10.ok_name_row F (ktxt T);obtain⟨g2,d2,G2,b2,k2,m2⟩:=Z5c (P:=P) (w:=w) (base:=base) (ps:=["word"]) T.O1A (λ _ _ _ _ _ _ us hl=>el1 us hl λ _=>rfl) λ f fd F=>K10.ok_told F (ktxt T);refine J3h (sp:=K10.spName) (k:=2) (ps:=["word"]) T.O1B (λ _ _ _ _ _ _ us hl=>el1 us hl λ _=>rfl) (λ f fd F=>K10.ok_name F G1 b1 k1 m1 G2 b2 k2 m2) λ vs H Q E h=>?_;obtain⟨x,rfl,hl,q⟩:=h;exact⟨x,rfl,qa1 hl qS,q⟩
theorem J0N(T:Txt P w K mg C_Guest Ct Cw Ch Cp C_BadForm D_STRENGTHS D_TRUTHS U_TOLD_WORDS){Hc B' fi:t0}{di:FuncData}(D:K10.Bad K mg Hc B' fi)(GI:FnOk P w K mg base CX0 1 fi di ["self","at"] (K10.spInit K B'))(bi:Binds K di ["self","at"] []):HasX P w K mg base 5 "words" ["text"] Z4Q:=by
 obtain⟨g1,d1,G1,b1,k1,m1⟩:=Z5c (P:=P) (w:=w) (base:=base) (ps:=["word"]) T.O0L (λ _ _ _ _ _ _ us hl=>el1 us hl λ _=>rfl) λ f fd F=>K10.ok_name_row F (ktxt T);obtain⟨g2,d2,G2,b2,k2,m2⟩:=Z5c (P:=P) (w:=w) (base:=base) (ps:=["word"]) T.O0R (λ _ _ _ _ _ _ us hl=>el1 us hl λ _=>rfl) λ f fd F=>K10.ok_number F (ktxt T);obtain⟨g3,d3,G3,b3,k3,m3⟩:=Z5c (P:=P) (w:=w) (base:=base) (ps:=["sign"]) T.O1c (λ _ _ _ _ _ _ us hl=>el1 us hl λ _=>rfl) λ f fd F=>K10.ok_row_sign F (ktxt T);obtain⟨g4,d4,G4,b4,k4,m4⟩:=Z5c (P:=P) (w:=w) (base:=base) (ps:=["text","at"]) T.O1F (λ _ _ _ _ _ _ us hl=>el2 us hl λ _ _=>rfl) λ f fd F=>K10.ok_row_at F (ktxt T) G3 b3 k3 m3;obtain⟨f5,d5,F5,m5⟩:=T.O1C.ex;have G5:=K10.ok_word_at (P:=P) (w:=w) (base:=base) F5 (ktxt T) D GI bi G4 b4 k4 m4 G2 b2 k2 m2 G1 b1 k1 m1;obtain⟨f6,d6,F6,m6⟩:=T.O1H.ex;have G6:=K10.ok_words (P:=P) (w:=w) (base:=base) F6 (ktxt T) D GI bi G5 (F5.binds (ps:=["text","at"]) (λ _ _ _ _ _ _ us hl=>el2 us hl λ _ _=>rfl)) F5.kp m5;refine⟨f6,d6,(G6.mono qS).imp λ vs H Q E h=>?_,F6.binds (ps:=["text"]) (λ _ _ _ _ _ _ us hl=>el1 us hl λ _=>rfl),F6.kp,m6⟩;obtain⟨x,ws,rfl,hc,q⟩:=h;obtain⟨tx,e1,e2⟩:=hc.cut;refine .inl ⟨x,rfl,qa1 hc.len qS,?_⟩;rw[if_pos hc.len,e1];intro H' p h1 s1 e;refine q H' p h1 s1 ?_;rw[e2,qd6];exact e
open RR (Res rProg bodies)
structure Exc(K:y0)(mg:Z0->Option q0)(Hc cb:t0):Prop where
 mH:mg "HouseError"=some (.ref Hc)
 xH:xIn K Hc none=true
 cls:XCls K cb
 xB:xIn K cb none=true
 sub:W.mroIn K cb (.ref Hc)=some true
 words:∃a,mg "BadWords"=some (.ref a)/\W.kitOne K (.ref cb) (.ref a)=some false
 name:∃a,mg "BadName"=some (.ref a)/\W.kitOne K (.ref cb) (.ref a)=some false
 kind:∃a,mg "BadKind"=some (.ref a)/\W.kitOne K (.ref cb) (.ref a)=some false
 inp:∃a,mg "BadInput"=some (.ref a)/\W.kitOne K (.ref cb) (.ref a)=some false
 val:mg "ValueError"=none/\W.kitOne K (.ref cb) (.type "ValueError")=some true
theorem Z3Q:bootBuiltins "ValueError"=some (.type "ValueError"):=by decide+kernel
theorem J1Q{K:y0}{C:t0}:W.kitOne K (.ref C) (.ref C)=some true:=by unfold W.kitOne;rw[if_pos (beq_self_eq_true _)]
inductive J1r(c:CS)(cg:GC)(K:y0)(k:Nat)(vs:List V)(H:Hp)(Q:VK):Prop
 |mk(x:Z0)(ws:List Z0)(a1:vs=[.str x])(a2:Cut x ws)(a3:TbS cg H)(a4:To (rProg ws k) (λ p _=>∀v H',(∀g,SY g H H')->TbS cg H'->PgO K c H' v p->Q v H') (∀H',(∀g,SY g H H')->Q (.int 0) H')):J1r c cg K k vs H Q
def J0A(c:CS)(cg:GC)(K:y0)(k:Nat):Sp:=λ vs H Q _=>J1r c cg K k vs H Q
theorem J1B(T:Txt P w K mg C_Guest Ct Cw Ch Cp C_BadForm D_STRENGTHS D_TRUTHS U_TOLD_WORDS){k:Nat}{Hc:t0}(X:Exc K mg Hc C_BadForm)(h_read:HasX P w K mg base (8*k+11) "read" ["text"] (J1h (CS.mk Ct Cw Ch Cp C_Guest C_Guest C_Guest C_Guest B) ⟨C_Guest,C_tb,LP,LQ⟩ C_BadForm K k)):Has P w K mg base (8*k+12) "_law_told" ["_law_text"] (J0A (CS.mk Ct Cw Ch Cp C_Guest C_Guest C_Guest C_Guest B) ⟨C_Guest,C_tb,LP,LQ⟩ K k):=by
 refine Has.of T.O1k O0t (λ _ _ _ _ _ _ us hl=>el1 us hl λ _=>rfl) (λ vs H Q E h=>?_) (λ f cdv A outer s H vs Q E hr h=>?_)
 ·obtain⟨x,ws,rfl,_⟩:=h;rfl
 obtain⟨x,ws,rfl,hc,tb,q⟩:=h;obtain⟨aW,mW,kW⟩:=X.words;obtain⟨aN,mN,kN⟩:=X.name;obtain⟨aK,mK,kK⟩:=X.kind;obtain⟨aI,mI,kI⟩:=X.inp;obtain⟨mV,kV⟩:=X.val;obtain⟨fr,fdr,Fr,br,kr,mr⟩:=h_read.ex;have isi:=T.O0n;refine⟨_,Z0b (J5C (i:=1) rfl rfl X.xH rfl X.mH O0t.nd rfl rfl (λ l E'=>Z0b (Z0l (Z2l Fr (hr.mono qR) rfl mr kr br .nil (Raised.passes (E:=E') (E':=λ cl ed H'=>∀σ,E' σ cl ed H') λ σ _ _ _ q=>q σ) (qI (pvF 0))))) (λ a=>Z0a (qG 2 O0t.nd (Z6O (Z0s Z1T rfl isi PyProof.Rows.boot_isinstance (qJ (pvF 1) (K10.pe_gR rfl mW))) (Z6O (Z0s Z1T rfl isi PyProof.Rows.boot_isinstance (qJ (pvF 1) (K10.pe_gR rfl mN))) (Z6O (Z0s Z1T rfl isi PyProof.Rows.boot_isinstance (qJ (pvF 1) (K10.pe_gR rfl mK))) (Z3O (Z0s Z1T rfl isi PyProof.Rows.boot_isinstance (qJ (pvF 1) (K10.pe_gR rfl mI)))))))) (Z0b (Z0l (Z1h J0Q rfl T.z_int PyProof.Rows.boot_int (qI (Z6O (pvF 2) (Z6O (Z8d (Z0s Z1T rfl isi PyProof.Rows.boot_isinstance (qJ (pvF 1) (K10.pe_gR rfl T.x_BadForm.mgC)))) (Z3O (Z8d (Z0s Z1T rfl isi PyProof.Rows.boot_isinstance (qJ (pvF 1) (Z4u (v:=.ty "ValueError") rfl mV Z3Q rfl))))))))))))),?_⟩;refine⟨λ _ cl ed H'=>cl=.ref C_BadForm/\ed=none/\(∀g,SY g H H')/\∀H',(∀g,SY g H H')->Q (.int 0) H',?_,?_⟩
 ·walk_at "r";refine⟨x,ws,rfl,hc,tb,To.mono q (λ p m _ q=>q) λ b H' s' _=>⟨rfl,rfl,s',b⟩⟩
 ·rintro σ' a C ed H' hl ⟨e,rfl,sy,tk⟩ hx;obtain rfl:C=C_BadForm:=by injection e
  refine⟨⟨_,X.xB⟩,X.sub,?_⟩;obtain⟨a0,a1,a2,rfl⟩:∃a0 a1 a2,σ'=[a0,a1,a2]:=by
   have hl:σ'.length=3:=hl;match σ',hl with
   |[a0,a1,a2],_=>exact⟨a0,a1,a2,rfl⟩
  walk_at "r";have no:∀{p q:Prop},q->if(false:Bool)=true then p else q:=λ h=>ite2 (λ z=>by cases z) λ _=>h;have ye:∀{p q:Prop},q->if(true:Bool)=false then p else q:=λ h=>ite2 (λ z=>by cases z) λ _=>h;refine⟨_,rfl,C,hx,X.cls,_,kW,no ⟨_,rfl,C,hx,X.cls,_,kN,no ⟨_,rfl,C,hx,X.cls,_,kK,no ⟨_,rfl,C,hx,X.cls,_,kI,no ⟨_,rfl,C,hx,X.cls,_,J1Q,ye ⟨_,rfl,C,hx,X.cls,_,kV,?_⟩⟩⟩⟩⟩⟩;exact .inr (tk H' sy)
noncomputable def dT(wy m:Int):Z0×Int×Int×Int:=
 if wy=0 then(("1":Z0)++(Txt.mul " + a" (m-1)),m,2*m-1,0)else
 if wy=1 then((Txt.mul "a ; " (m-1))++("yes":Z0),m,2*m-1,0)else
 if wy=2 then(("a":Z0)++(Txt.mul " . b" (m-1)),m,m,0)else
 if wy=3 then((Txt.mul "not " (m-1))++("yes":Z0),m,m,0)else
 if wy=4 then((Txt.mul "if yes then 1 else " (m-1))++("2":Z0),m,3*m-2,0)else
 if wy=5 then((Txt.mul "let b = 0 in " (m-1))++("b":Z0),m,2*m-1,0)else
 if wy=6 then((Txt.mul "set a . b = " (m-1))++("self":Z0),m,2*m-1,0)else
 if wy=7 then(((Txt.mul "new h ( " (m-1))++("3":Z0))++(Txt.mul " )" (m-1)),m,m,m-1)else
 if wy=8 then(((Txt.mul "elder . w ( " (m-1))++("a":Z0))++(Txt.mul " )" (m-1)),m,m,m-1)else
 if wy=9 then(((Txt.mul "a . w ( " (m-1))++("no":Z0))++(Txt.mul " )" (m-1)),m,2*m-1,m-1)else
 if wy=10 then(((Txt.mul "( " m)++("1":Z0))++(Txt.mul " )" m),1,1,m)else
 if wy=11 then(((Txt.mul "if " (m-1))++("yes":Z0))++(Txt.mul " then 1 else 2" (m-1)),m,3*m-2,0)else
 if wy=12 then(((Txt.mul "if yes then " (m-1))++("1":Z0))++(Txt.mul " else 2" (m-1)),m,3*m-2,0)else
 if wy=13 then(((Txt.mul "let a = " (m-1))++("1":Z0))++(Txt.mul " in 2" (m-1)),m,2*m-1,0)else
 if wy=14 then((("set a":Z0)++(Txt.mul " . b" m))++(" = 1":Z0),m+1,m+2,0)else
 (("a":Z0)++(Txt.mul " . w ( )" (m-1)),m,m,1)
inductive J0P(vs:List V)(H:Hp)(Q:VK):Prop
 |mk(wy m:Int)(a1:vs=[.int wy,.int m])(a2:0<=wy)(a3:wy<=15)(a4:1<=m)(a5:m<=1500)(a6:∀p H',H p=none->Same H H'->H' p=some (.tup [.str (dT wy m).1,.int (dT wy m).2.1,.int (dT wy m).2.2.1,.int (dT wy m).2.2.2])->Q (.ref p) H'):J0P vs H Q
def J0D:Sp:=λ vs H Q _=>J0P vs H Q
theorem Z0q(x:Z0)(k:Int):(Txt.mul x k).length=k.toNat*x.length:=by
 rw[<-K10.cds_len,K10.cds_mul,<-K10.cds_len x];generalize k.toNat=n;induction n with
 |zero=>rw[Nat.zero_mul];rfl
 |succ n ih=>rw[qb9,qc8,qa2,ih,Nat.succ_mul,Nat.add_comm]
theorem Z0j(x y:Z0):(x++y).length=x.length+y.length:=by rw[<-K10.cds_len,K10.cds_app,qa2,K10.cds_len,K10.cds_len]
theorem Z0Y{z:Z0}{k:Int}{H:Hp}{Q:VK}(hz:z.length<=100)(h0:0<=k)(hk:k<=2000)(q:(Txt.mul z k).length<=200000->Q (.str (Txt.mul z k)) H):J4d (.str z) (.int k) H Q:=by
 have h1:z.length*k.toNat<=200000:=qa1 (qg6 hz (show k.toNat<=2000 by lia)) qS;exact⟨z,k,rfl,rfl,qR,qR,qa1 h1 qS,q (by rw[Z0q,Nat.mul_comm];exact h1)⟩
theorem le3{x y z:Z0}(hx:x.length<=200000)(hy:y.length<=100)(hz:z.length<=200000):(x++y).length+z.length<=16777216:=by rw[Z0j];lia
theorem J4l(T:Txt P w K mg C_Guest Ct Cw Ch Cp C_BadForm D_STRENGTHS D_TRUTHS U_TOLD_WORDS):Has P w K mg base 1 "_law_deep" ["_law_way","_law_many_here"] J0D:=by
 refine Has.of T.O1l Z6X (λ _ _ _ _ _ _ us hl=>el2 us hl λ _ _=>rfl) (λ vs H Q E h=>?_) (λ f cdv A outer s H vs Q E hr h=>?_)
 ·obtain⟨wy,m,rfl,_⟩:=h;rfl
 obtain⟨wy,m,rfl,h0,h15,hm,hm',q⟩:=h;refine⟨_,(Z0a (Z0r (qM Z1a (pvF 0) Z0c) (Z0b (Z0l (Z0C (Z0t (Z0f Z0h Z0d (Z0f Z0o Z0d (Z0f Z0A (pvF 1) Z0c))) (qK (pvF 1) (Z0f Z0A (Z0f Z3d Z0c (pvF 1)) Z0c) Z0c))))) Z0m) (Z0a (Z0r (qM Z1a (pvF 0) Z0c) (Z0b (Z0l (Z0C (Z0t (Z0f Z0h (Z0f Z0o Z0d (Z0f Z0A (pvF 1) Z0c)) Z0d) (qK (pvF 1) (Z0f Z0A (Z0f Z3d Z0c (pvF 1)) Z0c) Z0c))))) Z0m) (Z0a (Z0r (qM Z1a (pvF 0) Z0c) (Z0b (Z0l (Z0C (Z0t (Z0f Z0h Z0d (Z0f Z0o Z0d (Z0f Z0A (pvF 1) Z0c))) (qK (pvF 1) (pvF 1) Z0c))))) Z0m) (Z0a (Z0r (qM Z1a (pvF 0) Z0c) (Z0b (Z0l (Z0C (Z0t (Z0f Z0h (Z0f Z0o Z0d (Z0f Z0A (pvF 1) Z0c)) Z0d) (qK (pvF 1) (pvF 1) Z0c))))) Z0m) (Z0a (Z0r (qM Z1a (pvF 0) Z0c) (Z0b (Z0l (Z0C (Z0t (Z0f Z0h (Z0f Z0o Z0d (Z0f Z0A (pvF 1) Z0c)) Z0d) (qK (pvF 1) (Z0f Z0A (Z0f Z3d Z0c (pvF 1)) Z0c) Z0c))))) Z0m) (Z0a (Z0r (qM Z1a (pvF 0) Z0c) (Z0b (Z0l (Z0C (Z0t (Z0f Z0h (Z0f Z0o Z0d (Z0f Z0A (pvF 1) Z0c)) Z0d) (qK (pvF 1) (Z0f Z0A (Z0f Z3d Z0c (pvF 1)) Z0c) Z0c))))) Z0m) (Z0a (Z0r (qM Z1a (pvF 0) Z0c) (Z0b (Z0l (Z0C (Z0t (Z0f Z0h (Z0f Z0o Z0d (Z0f Z0A (pvF 1) Z0c)) Z0d) (qK (pvF 1) (Z0f Z0A (Z0f Z3d Z0c (pvF 1)) Z0c) Z0c))))) Z0m) (Z0a (Z0r (qM Z1a (pvF 0) Z0c) (Z0b (Z0l (Z0C (Z0t (Z0f Z0h (Z0f Z0h (Z0f Z0o Z0d (Z0f Z0A (pvF 1) Z0c)) Z0d) (Z0f Z0o Z0d (Z0f Z0A (pvF 1) Z0c))) (qK (pvF 1) (pvF 1) (Z0f Z0A (pvF 1) Z0c)))))) Z0m) (Z0a (Z0r (qM Z1a (pvF 0) Z0c) (Z0b (Z0l (Z0C (Z0t (Z0f Z0h (Z0f Z0h (Z0f Z0o Z0d (Z0f Z0A (pvF 1) Z0c)) Z0d) (Z0f Z0o Z0d (Z0f Z0A (pvF 1) Z0c))) (qK (pvF 1) (pvF 1) (Z0f Z0A (pvF 1) Z0c)))))) Z0m) (Z0a (Z0r (qM Z1a (pvF 0) Z0c) (Z0b (Z0l (Z0C (Z0t (Z0f Z0h (Z0f Z0h (Z0f Z0o Z0d (Z0f Z0A (pvF 1) Z0c)) Z0d) (Z0f Z0o Z0d (Z0f Z0A (pvF 1) Z0c))) (qK (pvF 1) (Z0f Z0A (Z0f Z3d Z0c (pvF 1)) Z0c) (Z0f Z0A (pvF 1) Z0c)))))) Z0m) (Z0a (Z0r (qM Z1a (pvF 0) Z0c) (Z0b (Z0l (Z0C (Z0t (Z0f Z0h (Z0f Z0h (Z0f Z0o Z0d (pvF 1)) Z0d) (Z0f Z0o Z0d (pvF 1))) (qK Z0c Z0c (pvF 1)))))) Z0m) (Z0a (Z0r (qM Z1a (pvF 0) Z0c) (Z0b (Z0l (Z0C (Z0t (Z0f Z0h (Z0f Z0h (Z0f Z0o Z0d (Z0f Z0A (pvF 1) Z0c)) Z0d) (Z0f Z0o Z0d (Z0f Z0A (pvF 1) Z0c))) (qK (pvF 1) (Z0f Z0A (Z0f Z3d Z0c (pvF 1)) Z0c) Z0c))))) Z0m) (Z0a (Z0r (qM Z1a (pvF 0) Z0c) (Z0b (Z0l (Z0C (Z0t (Z0f Z0h (Z0f Z0h (Z0f Z0o Z0d (Z0f Z0A (pvF 1) Z0c)) Z0d) (Z0f Z0o Z0d (Z0f Z0A (pvF 1) Z0c))) (qK (pvF 1) (Z0f Z0A (Z0f Z3d Z0c (pvF 1)) Z0c) Z0c))))) Z0m) (Z0a (Z0r (qM Z1a (pvF 0) Z0c) (Z0b (Z0l (Z0C (Z0t (Z0f Z0h (Z0f Z0h (Z0f Z0o Z0d (Z0f Z0A (pvF 1) Z0c)) Z0d) (Z0f Z0o Z0d (Z0f Z0A (pvF 1) Z0c))) (qK (pvF 1) (Z0f Z0A (Z0f Z3d Z0c (pvF 1)) Z0c) Z0c))))) Z0m) (Z0a (Z0r (qM Z1a (pvF 0) Z0c) (Z0b (Z0l (Z0C (Z0t (Z0f Z0h (Z0f Z0h Z0d (Z0f Z0o Z0d (pvF 1))) Z0d) (qK (Z0f Z0N (pvF 1) Z0c) (Z0f Z0N (pvF 1) Z0c) Z0c))))) Z0m) (Z0b (Z0l (Z0C (Z0t (Z0f Z0h Z0d (Z0f Z0o Z0d (Z0f Z0A (pvF 1) Z0c))) (qK (pvF 1) (pvF 1) Z0c)))))))))))))))))))),?_⟩;walk_at "r";unfold dT at q;refine ite2 (λ e=>?_) λ e=>?_
 ·rw[if_pos e]at q;exact Z0Y qS qR qR λ hl=>⟨_,rfl,(show _+_<=_ from qa1 (qc3 (by decide:_<=100) hl) qS),New.of λ p H2 h2 s2 e2=>q p H2 h2 s2 e2⟩
 rw[if_neg e]at q;refine ite2 (λ e=>?_) λ e=>?_
 ·rw[if_pos e]at q;exact Z0Y qS qR qR λ hl=>⟨_,rfl,(show _+_<=_ from qa1 (qc3 hl (by decide:_<=100)) qS),New.of λ p H2 h2 s2 e2=>q p H2 h2 s2 e2⟩
 rw[if_neg e]at q;refine ite2 (λ e=>?_) λ e=>?_
 ·rw[if_pos e]at q;exact Z0Y qS qR qR λ hl=>⟨_,rfl,(show _+_<=_ from qa1 (qc3 (by decide:_<=100) hl) qS),New.of λ p H2 h2 s2 e2=>q p H2 h2 s2 e2⟩
 rw[if_neg e]at q;refine ite2 (λ e=>?_) λ e=>?_
 ·rw[if_pos e]at q;exact Z0Y qS qR qR λ hl=>⟨_,rfl,(show _+_<=_ from qa1 (qc3 hl (by decide:_<=100)) qS),New.of λ p H2 h2 s2 e2=>q p H2 h2 s2 e2⟩
 rw[if_neg e]at q;refine ite2 (λ e=>?_) λ e=>?_
 ·rw[if_pos e]at q;exact Z0Y qS qR qR λ hl=>⟨_,rfl,(show _+_<=_ from qa1 (qc3 hl (by decide:_<=100)) qS),New.of λ p H2 h2 s2 e2=>q p H2 h2 s2 e2⟩
 rw[if_neg e]at q;refine ite2 (λ e=>?_) λ e=>?_
 ·rw[if_pos e]at q;exact Z0Y qS qR qR λ hl=>⟨_,rfl,(show _+_<=_ from qa1 (qc3 hl (by decide:_<=100)) qS),New.of λ p H2 h2 s2 e2=>q p H2 h2 s2 e2⟩
 rw[if_neg e]at q;refine ite2 (λ e=>?_) λ e=>?_
 ·rw[if_pos e]at q;exact Z0Y qS qR qR λ hl=>⟨_,rfl,(show _+_<=_ from qa1 (qc3 hl (by decide:_<=100)) qS),New.of λ p H2 h2 s2 e2=>q p H2 h2 s2 e2⟩
 rw[if_neg e]at q;refine ite2 (λ e=>?_) λ e=>?_
 ·rw[if_pos e]at q;exact Z0Y qS qR qR λ hl=>⟨_,rfl,(show _+_<=_ from qa1 (qc3 hl (by decide:_<=100)) qS),Z0Y qS qR qR λ hl2=>⟨_,rfl,le3 hl qS hl2,New.of λ p H2 h2 s2 e2=>q p H2 h2 s2 e2⟩⟩
 rw[if_neg e]at q;refine ite2 (λ e=>?_) λ e=>?_
 ·rw[if_pos e]at q;exact Z0Y qS qR qR λ hl=>⟨_,rfl,(show _+_<=_ from qa1 (qc3 hl (by decide:_<=100)) qS),Z0Y qS qR qR λ hl2=>⟨_,rfl,le3 hl qS hl2,New.of λ p H2 h2 s2 e2=>q p H2 h2 s2 e2⟩⟩
 rw[if_neg e]at q;refine ite2 (λ e=>?_) λ e=>?_
 ·rw[if_pos e]at q;exact Z0Y qS qR qR λ hl=>⟨_,rfl,(show _+_<=_ from qa1 (qc3 hl (by decide:_<=100)) qS),Z0Y qS qR qR λ hl2=>⟨_,rfl,le3 hl qS hl2,New.of λ p H2 h2 s2 e2=>q p H2 h2 s2 e2⟩⟩
 rw[if_neg e]at q;refine ite2 (λ e=>?_) λ e=>?_
 ·rw[if_pos e]at q;exact Z0Y qS qR qR λ hl=>⟨_,rfl,(show _+_<=_ from qa1 (qc3 hl (by decide:_<=100)) qS),Z0Y qS qR qR λ hl2=>⟨_,rfl,le3 hl qS hl2,New.of λ p H2 h2 s2 e2=>q p H2 h2 s2 e2⟩⟩
 rw[if_neg e]at q;refine ite2 (λ e=>?_) λ e=>?_
 ·rw[if_pos e]at q;exact Z0Y qS qR qR λ hl=>⟨_,rfl,(show _+_<=_ from qa1 (qc3 hl (by decide:_<=100)) qS),Z0Y qS qR qR λ hl2=>⟨_,rfl,le3 hl qS hl2,New.of λ p H2 h2 s2 e2=>q p H2 h2 s2 e2⟩⟩
 rw[if_neg e]at q;refine ite2 (λ e=>?_) λ e=>?_
 ·rw[if_pos e]at q;exact Z0Y qS qR qR λ hl=>⟨_,rfl,(show _+_<=_ from qa1 (qc3 hl (by decide:_<=100)) qS),Z0Y qS qR qR λ hl2=>⟨_,rfl,le3 hl qS hl2,New.of λ p H2 h2 s2 e2=>q p H2 h2 s2 e2⟩⟩
 rw[if_neg e]at q;refine ite2 (λ e=>?_) λ e=>?_
 ·rw[if_pos e]at q;exact Z0Y qS qR qR λ hl=>⟨_,rfl,(show _+_<=_ from qa1 (qc3 hl (by decide:_<=100)) qS),Z0Y qS qR qR λ hl2=>⟨_,rfl,le3 hl qS hl2,New.of λ p H2 h2 s2 e2=>q p H2 h2 s2 e2⟩⟩
 rw[if_neg e]at q;refine ite2 (λ e=>?_) λ e=>?_
 ·rw[if_pos e]at q;refine Z0Y qS qR qR λ hl=>⟨_,rfl,(show _+_<=_ from qa1 (qc3 (by decide:_<=100) hl) qS),?_,New.of λ p H2 h2 s2 e2=>q p H2 h2 s2 e2⟩;rw[Z0j];have:(("set a":Z0)).length=5:=by decide
  have:((" = 1":Z0)).length=4:=by decide
  lia
 rw[if_neg e]at q;exact Z0Y qS qR qR λ hl=>⟨_,rfl,(show _+_<=_ from qa1 (qc3 (by decide:_<=100) hl) qS),New.of λ p H2 h2 s2 e2=>q p H2 h2 s2 e2⟩
def Z2m(i a b c:Int):Int:=if i%3=0 then a else if i%3=1 then b else c
theorem at3(i a b c:Int):atI [V.int a,V.int b,V.int c] (i%3)=some (V.int (Z2m i a b c)):=by
 have h1:=qb7 i (show(3:Int)≠0 by decide);have h2:=qb8 i (show(0:Int)<3 by decide);unfold Z2m;have:i%3=0\/i%3=1\/i%3=2:=by lia
 rcases this with h|h|h<;>rw[h]<;>rfl
noncomputable def longW:Z0:=(" can w ( ) number = 1":Z0)++Txt.mul " + 1" 13
noncomputable def Z3A(c:Int):Int:=11+Z2m (c/6) (c%6) 2 3
noncomputable def mT(c:Int):Z0:=((((("house g {":Z0)++Txt.mul longW 8)++" } house h {")++Txt.mul longW 6)++" can v ( ) number = 1 + 1 + 1 + 1 + 1 }")++" main ( ) number = 1"++Txt.mul " . f" (Z3A c-1)
noncomputable def rT(c:Int):Z0:=Txt.mul (("house h { can w ( a number ) number = ":Z0)++(("( self . w ( ( 1 ) ) )":Z0)++Txt.mul " ; ( self . w ( ( 1 ) ) )" (c%10))++" } ") (c/10%7)++"main ( ) number = ( 1 )"
def Two(x:Z0)(b:Bool)(H:Hp)(Q:VK):Prop:=∀p H',H p=none->Same H H'->H' p=some (.tup [.str x,.bl b])->Q (.ref p) H'
inductive J1q(vs:List V)(H:Hp)(Q:VK):Prop
 |mk(c:Int)(a1:vs=[.int c])(a2:Two (mT c) (decide (387+Z3A c<=400)) H Q):J1q vs H Q
def Z9A:Sp:=λ vs H Q _=>J1q vs H Q
inductive J3E(vs:List V)(H:Hp)(Q:VK):Prop
 |mk(c:Int)(a1:vs=[.int c])(a2:Two (rT c) true H Q):J3E vs H Q
def J3r:Sp:=λ vs H Q _=>J3E vs H Q
theorem Z4Z{z:Z0}{k:Int}{a b:Nat}(hz:z.length<=a)(hk:k.toNat<=b):(Txt.mul z k).length<=b*a:=by rw[Z0q];exact qg6 hk hz
theorem Z2D{z:Z0}{k:Int}{H:Hp}{Q:VK}(hz:z.length<=5000)(h0:0<=k)(hk:k<=100)(q:Q (.str (Txt.mul z k)) H):J4d (.str z) (.int k) H Q:=by
 have h1:z.length*k.toNat<=500000:=qa1 (qg6 hz (show k.toNat<=100 by lia)) qS;exact⟨z,k,rfl,rfl,qR,qR,qa1 h1 qS,q⟩
theorem Z3q:longW.length=73:=by unfold longW;rw[Z0j,Z0q];decide+kernel
theorem J3U(T:Txt P w K mg C_Guest Ct Cw Ch Cp C_BadForm D_STRENGTHS D_TRUTHS U_TOLD_WORDS):Has P w K mg base 1 "_law_many" ["_law_cell"] Z9A:=by
 refine Has.of T.O1m O0l (λ _ _ _ _ _ _ us hl=>el1 us hl λ _=>rfl) (λ vs H Q E h=>?_) (λ f cdv A outer s H vs Q E hr h=>?_)
 ·obtain⟨c,rfl,_⟩:=h;rfl
 obtain⟨c,rfl,q⟩:=h;refine⟨_,(Z0a (qG 1 O0l.nd (Z0f Z0h Z0d (Z0f Z0o Z0d Z0c))) (Z0a (qG 2 O0l.nd (Z0f Z0h (Z0f Z0h (Z0f Z0h (Z0f Z0h Z0d (Z0f Z0o (pvF 1) Z0c)) Z0d) (Z0f Z0o (pvF 1) Z0c)) Z0d)) (Z0a (qG 3 O0l.nd (Z0f Z0N Z0c (qD K (Z0O (qK (Z0f Z1u (pvF 0) Z0c) Z0c Z0c)) (Z0f Z1u (Z0f Z3J (pvF 0) Z0c) Z0c)))) (Z0b (Z0l (Z0C (qJ (Z0f Z0h (Z0f Z0h (pvF 2) Z0d) (Z0f Z0o Z0d (Z0f Z0A (pvF 3) Z0c))) (Z0I Z4z (Z0f Z0N (Z0f Z0N (Z0f Z3d Z0c Z0c) Z0c) (pvF 3)) Z0c (Z1Z _))))))))),?_⟩;walk_at "r";have h6:=qb7 c (show(6:Int)≠0 by decide);have h6':=qb8 c (show(0:Int)<6 by decide);have hm:11<=Z3A c/\Z3A c<=16:=by
  unfold Z3A Z2m;split
  ·lia
  ·split<;>lia
 have l13:(Txt.mul " + 1" 13).length=52:=by rw[Z0q];decide+kernel
 have l8:(Txt.mul longW 8).length=584:=by rw[Z0q,Z3q];decide
 have l6:(Txt.mul longW 6).length=438:=by rw[Z0q,Z3q];decide
 have lf:(Txt.mul " . f" (Z3A c-1)).length<=400:=qa1 (Z4Z (a:=4) (b:=15) qP qR) qS;have k1:(" can w ( ) number = 1":Z0).length=21:=by decide+kernel
 have k2:("house g {":Z0).length=9:=by decide+kernel
 have k3:(" } house h {":Z0).length=12:=by decide+kernel
 have k4:(" can v ( ) number = 1 + 1 + 1 + 1 + 1 }":Z0).length=39:=by decide+kernel
 have k5:(" main ( ) number = 1":Z0).length=20:=by decide+kernel
 have lw:=Z3q;have l8':(Txt.mul ((" can w ( ) number = 1":Z0)++Txt.mul " + 1" 13) 8).length=584:=l8;have l6':(Txt.mul ((" can w ( ) number = 1":Z0)++Txt.mul " + 1" 13) 6).length=438:=l6;refine Z2D qP qS qS ⟨_,rfl,qR,Z2D (by show longW.length<=_;lia) qS qS ⟨_,rfl,?_,?_,Z2D (by show longW.length<=_;lia) qS qS ⟨_,rfl,?_,?_,New.of λ p1 H1 h1 s1 e1=>⟨_,SqL.of e1,_,at3 (c/6) (c%6) 2 3,_,rfl,?_,Z2D qP ?_ ?_ ⟨_,rfl,?_,New.of λ p2 H2 h2 s2 e2=>?_⟩⟩⟩⟩⟩
 ·lia
 ·rw[Z0j];lia
 ·rw[Z0j,Z0j];lia
 ·rw[Z0j,Z0j,Z0j];lia
 ·rw[Z0j,Z0j,Z0j,Z0j];lia
 ·show 0<=Z3A c-1;lia
 ·show Z3A c-1<=100;lia
 ·rw[Z0j,Z0j,Z0j,Z0j,Z0j];have:(Txt.mul " . f" (11+Z2m (c/6) (c%6) 2 3-1)).length<=400:=lf;lia
 ·exact q p2 H2 (s1.free h2) (s1.trans s2) e2
theorem J5U(T:Txt P w K mg C_Guest Ct Cw Ch Cp C_BadForm D_STRENGTHS D_TRUTHS U_TOLD_WORDS):Has P w K mg base 1 "_law_row" ["_law_cell"] J3r:=by
 refine Has.of T.O1u O0y (λ _ _ _ _ _ _ us hl=>el1 us hl λ _=>rfl) (λ vs H Q E h=>?_) (λ f cdv A outer s H vs Q E hr h=>?_)
 ·obtain⟨c,rfl,_⟩:=h;rfl
 obtain⟨c,rfl,q⟩:=h;refine⟨_,(Z0a (qG 1 O0y.nd (Z0f Z0h Z0d (Z0f Z0o Z0d (Z0f Z1u (pvF 0) Z0c)))) (Z0a (qG 2 O0y.nd (Z0f Z0h (Z0f Z0h Z0d (pvF 1)) Z0d)) (Z0b (Z0l (Z0C (qJ (Z0f Z0h (Z0f Z0o (pvF 2) (Z0f Z1u (Z0f Z3J (pvF 0) Z0c) Z0c)) Z0d) Z9p)))))),?_⟩;walk_at "r";have h1:=qb7 c (show(10:Int)≠0 by decide);have h1':=qb8 c (show(0:Int)<10 by decide);have h2:=qb7 (c/10) (show(7:Int)≠0 by decide);have h2':=qb8 (c/10) (show(0:Int)<7 by decide);have la:(Txt.mul " ; ( self . w ( ( 1 ) ) )" (c%10)).length<=250:=qa1 (Z4Z (a:=25) (b:=10) qP qR) qS;have k1:("( self . w ( ( 1 ) ) )":Z0).length=22:=by decide+kernel
 have k2:("house h { can w ( a number ) number = ":Z0).length=38:=by decide+kernel
 have k3:(" } ":Z0).length=3:=by decide+kernel
 have k4:("main ( ) number = ( 1 )":Z0).length=23:=by decide+kernel
 have lh:(("house h { can w ( a number ) number = ":Z0)++(("( self . w ( ( 1 ) ) )":Z0)++Txt.mul " ; ( self . w ( ( 1 ) ) )" (c%10))++(" } ":Z0)).length<=400:=by rw[Z0j,Z0j,Z0j];lia
 have lr:=Z4Z (k:=c/10%7) (b:=7) lh qR;refine Z2D qP qR qR ⟨_,rfl,qR,?_,?_,Z2D (qa1 lh qS) qR qR ⟨_,rfl,qR,New.of λ p2 H2 h2 s2 e2=>q p2 H2 h2 s2 e2⟩⟩
 ·rw[Z0j];lia
 ·rw[Z0j,Z0j];lia
noncomputable def jn(x:Z0)(n:Int):Z0:=Txt.join " , " (qa4 n.toNat x)
def Z7j(i:Int):Z0:=if i%3=0 then "new h" else if i%3=1 then "a . w" else "elder . w"
theorem atS(i:Int):atI [V.str "new h",V.str "a . w",V.str "elder . w"] (i%3)=some (V.str (Z7j i)):=by
 have h1:=qb7 i (show(3:Int)≠0 by decide);have h2:=qb8 i (show(0:Int)<3 by decide);unfold Z7j;have:i%3=0\/i%3=1\/i%3=2:=by lia
 rcases this with h|h|h<;>rw[h]<;>rfl
noncomputable def cT(wy c:Int):Z0×Bool:=
 if wy=0 then(Txt.mul "house h { } " (Z2m (c/15) (c%15) 12 13)++"main ( ) truth = yes",decide (Z2m (c/15) (c%15) 12 13<=12))else
 if wy=1 then(("house h of g { ":Z0)++Txt.mul "has f h " (c%7)++"} main ( ) h = a",decide (c%7<=4))else
 if wy=2 then(("house h { ":Z0)++Txt.mul "can w ( ) number = 1 " (6+c%5)++"} main ( ) number = 1",decide (6+c%5<=8))else
 if wy=3 then(if c/5%2=0 then(("main ( ":Z0)++jn "a number" (2+c%5)++" ) number = 1",decide (2+c%5<=4))else(("house h { can w ( ":Z0)++jn "a number" (2+c%5)++" ) h = self } main ( ) h = a",decide (2+c%5<=4)))else
 (("main ( ) number = ":Z0)++Z7j (c/5)++" ( "++jn "1" (6+c%5)++" )",decide (6+c%5<=8))
inductive Z4P(vs:List V)(H:Hp)(Q:VK):Prop
 |mk(wy c:Int)(a1:vs=[.int wy,.int c])(a2:0<=wy)(a3:wy<=4)(a4:Two (cT wy c).1 (cT wy c).2 H Q):Z4P vs H Q
def Z5j:Sp:=λ vs H Q _=>Z4P vs H Q
theorem J4o:∀n<12,(Txt.join " , " (qa4 n "a number")).length<=200:=by decide+kernel
theorem J4A:∀n<12,(Txt.join " , " (qa4 n "1")).length<=200:=by decide+kernel
theorem Z8B(a:Z0):∀n,(qa4 n [V.str a]).flatten=(qa4 n a).map V.str
 |0=>rfl
 |n+1=>by rw[qb9,qc8,Z8B a n,qb9,qc0];rfl
theorem Z9G(a:Z0):∀n,((qa4 n a).map (·.length)).sum=n*a.length
 |0=>by rw[Nat.zero_mul];rfl
 |n+1=>by rw[qb9,qc0,List.sum_cons,Z9G a n,Nat.succ_mul,Nat.add_comm]
theorem J1G{K:y0}{x:Z0}{n:Int}{H:Hp}{Q:VK}(hx:x.length<=20)(h0:0<=n)(hn:n<=20)(q:∀H',Same H H'->Q (.str (jn x n)) H'):New H (HO.lst [V.str x]) λ p H2=>∃y,H2 p=some (HO.lst y)/\-9223372036854775808<=n/\n<9223372036854775808/\y.length*n.toNat<=16777216/\∀(p:t0),H2 p=none->J5m K (V.str (Str.ofString " , ")) [V.ref p] (upd H2 p (HO.lst (qa4 n.toNat y).flatten)) Q:=by
 refine New.of λ p1 H1 h1 s1 e1=>⟨_,e1,qR,qR,(show 1*n.toNat<=_ by lia),λ p2 h2=>⟨_,_,qa4 n.toNat x,rfl,rfl,SqL.of (by rw[Z0g,Z8B]),?_,q _ (s1.trans (Z0K h2 _))⟩⟩;rw[Z9G,List.length_replicate];have k:(Str.ofString " , ").length=3:=by decide+kernel
 rw[k];have:n.toNat<=20:=by lia
 have:=qg6 this hx;lia
theorem Z9j(T:Txt P w K mg C_Guest Ct Cw Ch Cp C_BadForm D_STRENGTHS D_TRUTHS U_TOLD_WORDS):Has P w K mg base 1 "_law_counted" ["_law_way","_law_cell"] Z5j:=by
 refine Has.of T.O0Z O0b (λ _ _ _ _ _ _ us hl=>el2 us hl λ _ _=>rfl) (λ vs H Q E h=>?_) (λ f cdv A outer s H vs Q E hr h=>?_)
 ·obtain⟨wy,c,rfl,_⟩:=h;rfl
 obtain⟨wy,c,rfl,h0,h4,q⟩:=h;refine⟨_,(Z0a (Z0r (qM Z1a (pvF 0) Z0c) (Z0a (qG 2 O0b.nd (qD K (Z0O (qK (Z0f Z1u (pvF 1) Z0c) Z0c Z0c)) (Z0f Z1u (Z0f Z3J (pvF 1) Z0c) Z0c))) (Z0b (Z0l (Z0C (qJ (Z0f Z0h (Z0f Z0o Z0d (pvF 2)) Z0d) (Z0I Z4z (pvF 2) Z0c (Z1Z _))))))) Z0m) (Z0a (Z0r (qM Z1a (pvF 0) Z0c) (Z0a (qG 2 O0b.nd (Z0f Z1u (pvF 1) Z0c)) (Z0b (Z0l (Z0C (qJ (Z0f Z0h (Z0f Z0h Z0d (Z0f Z0o Z0d (pvF 2))) Z0d) (Z0I Z4z (pvF 2) Z0c (Z1Z _))))))) Z0m) (Z0a (Z0r (qM Z1a (pvF 0) Z0c) (Z0a (qG 2 O0b.nd (Z0f Z0N Z0c (Z0f Z1u (pvF 1) Z0c))) (Z0b (Z0l (Z0C (qJ (Z0f Z0h (Z0f Z0h Z0d (Z0f Z0o Z0d (pvF 2))) Z0d) (Z0I Z4z (pvF 2) Z0c (Z1Z _))))))) Z0m) (Z0a (Z0r (qM Z1a (pvF 0) Z0c) (Z0a (qG 2 O0b.nd (Z0f Z0N Z0c (Z0f Z1u (pvF 1) Z0c))) (Z0a (qG 3 O0b.nd (Z4M PySem.F.plainAttrs_str PySem.F.slot_str_join PySem.F.type_str_join Z9M Z0d (qI (Z0f J3C (Z0O (qI Z0d)) (pvF 2))))) (Z0a (Z0r (qM Z1a (Z0f Z1u (Z0f Z3J (pvF 1) Z0c) Z0c) Z0c) (Z0b (Z0l (Z0C (qJ (Z0f Z0h (Z0f Z0h Z0d (pvF 3)) Z0d) (Z0I Z4z (pvF 2) Z0c (Z1Z _)))))) Z0m) (Z0b (Z0l (Z0C (qJ (Z0f Z0h (Z0f Z0h Z0d (pvF 3)) Z0d) (Z0I Z4z (pvF 2) Z0c (Z1Z _))))))))) Z0m) (Z0a (qG 2 O0b.nd (Z0f Z0N Z0c (Z0f Z1u (pvF 1) Z0c))) (Z0a (qG 3 O0b.nd (Z4M PySem.F.plainAttrs_str PySem.F.slot_str_join PySem.F.type_str_join Z9M Z0d (qI (Z0f J3C (Z0O (qI Z0d)) (pvF 2))))) (Z0b (Z0l (Z0C (qJ (Z0f Z0h (Z0f Z0h (Z0f Z0h (Z0f Z0h Z0d (qD K (Z0O (qK Z0d Z0d Z0d)) (Z0f Z1u (Z0f Z3J (pvF 1) Z0c) Z0c))) Z0d) (pvF 3)) Z0d) (Z0I Z4z (pvF 2) Z0c (Z1Z _)))))))))))),?_⟩;walk_at "r";unfold cT at q;have m5:=qb7 c (show(5:Int)≠0 by decide);have m5':=qb8 c (show(0:Int)<5 by decide);have m7:=qb7 c (show(7:Int)≠0 by decide);have m7':=qb8 c (show(0:Int)<7 by decide);have m15:=qb7 c (show(15:Int)≠0 by decide);have m15':=qb8 c (show(0:Int)<15 by decide);refine ite2 (λ e=>?_) λ e=>?_
 ·rw[if_pos e]at q;have hp:0<=Z2m (c/15) (c%15) 12 13/\Z2m (c/15) (c%15) 12 13<=14:=by
   unfold Z2m;split
   ·lia
   ·split<;>lia
  have lm:=Z4Z (z:="house h { } ") (k:=Z2m (c/15) (c%15) 12 13) (a:=12) (b:=14) qP qR;have k1:("main ( ) truth = yes":Z0).length=20:=by decide+kernel
  exact New.of λ p1 H1 h1 s1 e1=>⟨_,SqL.of e1,_,at3 (c/15) (c%15) 12 13,Z2D qP hp.1 qR ⟨_,rfl,qR,_,rfl,New.of λ p2 H2 h2 s2 e2=>q p2 H2 (s1.free h2) (s1.trans s2) e2⟩⟩
 rw[if_neg e]at q;refine ite2 (λ e=>?_) λ e=>?_
 ·rw[if_pos e]at q;have lm:=Z4Z (z:="has f h ") (k:=c%7) (a:=8) (b:=7) qP qR;have k1:("house h of g { ":Z0).length=15:=by decide+kernel
  have k2:("} main ( ) h = a":Z0).length=16:=by decide+kernel
  exact Z2D qP m7 qR ⟨_,rfl,qR,by rw[Z0j];lia,New.of λ p2 H2 h2 s2 e2=>q p2 H2 h2 s2 e2⟩
 rw[if_neg e]at q;refine ite2 (λ e=>?_) λ e=>?_
 ·rw[if_pos e]at q;have lm:=Z4Z (z:="can w ( ) number = 1 ") (k:=6+c%5) (a:=21) (b:=11) qP qR;have k1:("house h { ":Z0).length=10:=by decide+kernel
  have k2:("} main ( ) number = 1":Z0).length=21:=by decide+kernel
  exact Z2D qP qR qR ⟨_,rfl,qR,by rw[Z0j];lia,New.of λ p2 H2 h2 s2 e2=>q p2 H2 h2 s2 e2⟩
 rw[if_neg e]at q;refine ite2 (λ e=>?_) λ e=>?_
 ·rw[if_pos e]at q;have lj:(jn "a number" (2+c%5)).length<=200:=J4o _ qR;have k1:("main ( ":Z0).length=7:=by decide+kernel
  have k2:(" ) number = 1":Z0).length=13:=by decide+kernel
  have k3:("house h { can w ( ":Z0).length=18:=by decide+kernel
  have k4:(" ) h = self } main ( ) h = a":Z0).length=28:=by decide+kernel
  refine⟨rfl,J1G qP qR qR λ H3 s3=>ite2 (λ e=>?_) λ e=>?_⟩
  ·rw[if_pos e]at q;exact⟨_,rfl,qR,by rw[Z0j];lia,New.of λ p2 H2 h2 s2 e2=>q p2 H2 (s3.free h2) (s3.trans s2) e2⟩
  ·rw[if_neg e]at q;exact⟨_,rfl,qR,by rw[Z0j];lia,New.of λ p2 H2 h2 s2 e2=>q p2 H2 (s3.free h2) (s3.trans s2) e2⟩
 rw[if_neg e]at q;have lj:(jn "1" (6+c%5)).length<=200:=J4A _ qR;have k1:("main ( ) number = ":Z0).length=18:=by decide+kernel
 have k2:(" ( ":Z0).length=3:=by decide+kernel
 have k3:(" )":Z0).length=2:=by decide+kernel
 have lp:(Z7j (c/5)).length<=9:=by
  unfold Z7j;split
  ·decide+kernel
  ·split<;>decide+kernel
 refine⟨rfl,J1G qP qR qR λ H3 s3=>New.of λ p1 H1 h1 s1 e1=>⟨_,SqL.of e1,_,atS (c/5),_,rfl,qR,by rw[Z0j];lia,_,rfl,by rw[Z0j,Z0j];lia,by rw[Z0j,Z0j,Z0j];lia,New.of λ p2 H2 h2 s2 e2=>q p2 H2 ((s3.trans s1).free h2) (s3.trans (s1.trans s2)) e2⟩⟩
inductive J0M(K:y0)(vs:List V)(H:Hp)(Q:VK):Prop
 |mk(a:t0)(ns:List Int)(k:Nat)(a1:vs=[.ref a,.int k])(a2:SqL K H a (ns.map V.int))(a3:ns.length<=63)(a4:Q (.int (ns.getD k 0)) H):J0M K vs H Q
def Z9R(K:y0):Sp:=λ vs H Q _=>J0M K vs H Q
theorem J0B(T:Txt P w K mg C_Guest Ct Cw Ch Cp C_BadForm D_STRENGTHS D_TRUTHS U_TOLD_WORDS):Has P w K mg base 1 "_law_cell_at" ["_law_script","_law_k"] (Z9R K):=by
 refine Has.of T.O0Y Z4t (λ _ _ _ _ _ _ us hl=>el2 us hl λ _ _=>rfl) (λ vs H Q E h=>?_) (λ f cdv A outer s H vs Q E hr h=>?_)
 ·obtain⟨a,ns,k,rfl,_⟩:=h;rfl
 obtain⟨a,ns,k,rfl,ha,hn,q⟩:=h;refine⟨_,(Z0a (Z0r (qM Z9E (pvF 1) (qL T.z_len (qI (pvF 0)))) (Z0b (Z0l (qD K (pvF 0) (pvF 1)))) Z0m) (Z0b (Z0l Z0c))),?_⟩;walk_at "r";refine⟨_,.inl ha,ite2 (λ e=>?_) λ e=>?_⟩
 ·rw[qb0]at e;have hk:k<ns.length:=qe1.mp e;refine⟨_,ha,.int ns[k],Z2H (by rw[qc4,qa7 hk];rfl),?_⟩;rw[qb6,qa7 hk]at q;exact q
 ·rw[qb0]at e;rw[qb6,qg2 (qd4 λ z=>e (qe1.mpr z))]at q;exact q
def Says(x:Z0)(bad:Prop)(good:Tm->Prop):Prop:=∃ws,Cut x ws/\((bad/\rProg ws 17=.bad)\/(¬bad/\∃p n,rProg ws 17=.ok p n/\good p.main.body))
structure J6s:Prop where
 deep:∀wy m:Int,0<=wy->wy<=15->1<=m->(("main ( ) number = ":Z0)++(dT wy m).1).length<=6000->Says (("main ( ) number = ":Z0)++(dT wy m).1) (14<(dT wy m).2.1\/14<(dT wy m).2.2.2) λ t=>((t.depth:Nat):Int)=(dT wy m).2.1/\((t.size:Nat):Int)=(dT wy m).2.2.1
 row:∀c:Int,Says (rT c) False λ _=>True
 many:∀c:Int,Says (mT c) (¬387+Z3A c<=400) λ _=>True
 count:∀wy c:Int,0<=wy->wy<=4->Says (cT wy c).1 ((cT wy c).2=false) λ _=>True
inductive Z8s(cg:GC)(K:y0)(vs:List V)(H:Hp)(Q:VK):Prop
 |mk(a:t0)(ns:List Int)(a1:vs=[.ref a])(a2:SqL K H a (ns.map V.int))(a3:ns.length<=63)(a4:TbS cg H)(a5:∀H',Q (.bl true) H'):Z8s cg K vs H Q
def J2w(cg:GC)(K:y0):Sp:=λ vs H Q _=>Z8s cg K vs H Q
theorem dl0(m:Int)(hm:1<=m):(dT 0 m).1.length=1+4*(m-1).toNat:=by
 have f0:("1":Z0).length=1:=by decide+kernel
 have f1:(" + a":Z0).length=4:=by decide+kernel
 show(("1":Z0)++(Txt.mul " + a" (m-1))).length=_;rw[Z0j,Z0q,f0,f1];lia
theorem dl1(m:Int)(hm:1<=m):(dT 1 m).1.length=3+4*(m-1).toNat:=by
 have f0:("a ; ":Z0).length=4:=by decide+kernel
 have f1:("yes":Z0).length=3:=by decide+kernel
 show((Txt.mul "a ; " (m-1))++("yes":Z0)).length=_;rw[Z0j,Z0q,f0,f1];lia
theorem dl2(m:Int)(hm:1<=m):(dT 2 m).1.length=1+4*(m-1).toNat:=by
 have f0:("a":Z0).length=1:=by decide+kernel
 have f1:(" . b":Z0).length=4:=by decide+kernel
 show(("a":Z0)++(Txt.mul " . b" (m-1))).length=_;rw[Z0j,Z0q,f0,f1];lia
theorem dl3(m:Int)(hm:1<=m):(dT 3 m).1.length=3+4*(m-1).toNat:=by
 have f0:("not ":Z0).length=4:=by decide+kernel
 have f1:("yes":Z0).length=3:=by decide+kernel
 show((Txt.mul "not " (m-1))++("yes":Z0)).length=_;rw[Z0j,Z0q,f0,f1];lia
theorem dl4(m:Int)(hm:1<=m):(dT 4 m).1.length=1+19*(m-1).toNat:=by
 have f0:("if yes then 1 else ":Z0).length=19:=by decide+kernel
 have f1:("2":Z0).length=1:=by decide+kernel
 show((Txt.mul "if yes then 1 else " (m-1))++("2":Z0)).length=_;rw[Z0j,Z0q,f0,f1];lia
theorem dl5(m:Int)(hm:1<=m):(dT 5 m).1.length=1+13*(m-1).toNat:=by
 have f0:("let b = 0 in ":Z0).length=13:=by decide+kernel
 have f1:("b":Z0).length=1:=by decide+kernel
 show((Txt.mul "let b = 0 in " (m-1))++("b":Z0)).length=_;rw[Z0j,Z0q,f0,f1];lia
theorem dl6(m:Int)(hm:1<=m):(dT 6 m).1.length=4+12*(m-1).toNat:=by
 have f0:("set a . b = ":Z0).length=12:=by decide+kernel
 have f1:("self":Z0).length=4:=by decide+kernel
 show((Txt.mul "set a . b = " (m-1))++("self":Z0)).length=_;rw[Z0j,Z0q,f0,f1];lia
theorem dl7(m:Int)(hm:1<=m):(dT 7 m).1.length=1+10*(m-1).toNat:=by
 have f0:("new h ( ":Z0).length=8:=by decide+kernel
 have f1:("3":Z0).length=1:=by decide+kernel
 have f2:(" )":Z0).length=2:=by decide+kernel
 show(((Txt.mul "new h ( " (m-1))++("3":Z0))++(Txt.mul " )" (m-1))).length=_;rw[Z0j,Z0j,Z0q,Z0q,f0,f1,f2];lia
theorem dl8(m:Int)(hm:1<=m):(dT 8 m).1.length=1+14*(m-1).toNat:=by
 have f0:("elder . w ( ":Z0).length=12:=by decide+kernel
 have f1:("a":Z0).length=1:=by decide+kernel
 have f2:(" )":Z0).length=2:=by decide+kernel
 show(((Txt.mul "elder . w ( " (m-1))++("a":Z0))++(Txt.mul " )" (m-1))).length=_;rw[Z0j,Z0j,Z0q,Z0q,f0,f1,f2];lia
theorem dl9(m:Int)(hm:1<=m):(dT 9 m).1.length=2+10*(m-1).toNat:=by
 have f0:("a . w ( ":Z0).length=8:=by decide+kernel
 have f1:("no":Z0).length=2:=by decide+kernel
 have f2:(" )":Z0).length=2:=by decide+kernel
 show(((Txt.mul "a . w ( " (m-1))++("no":Z0))++(Txt.mul " )" (m-1))).length=_;rw[Z0j,Z0j,Z0q,Z0q,f0,f1,f2];lia
theorem dl10(m:Int)(hm:1<=m):(dT 10 m).1.length=5+4*(m-1).toNat:=by
 have f0:("( ":Z0).length=2:=by decide+kernel
 have f1:("1":Z0).length=1:=by decide+kernel
 have f2:(" )":Z0).length=2:=by decide+kernel
 show(((Txt.mul "( " m)++("1":Z0))++(Txt.mul " )" m)).length=_;rw[Z0j,Z0j,Z0q,Z0q,f0,f1,f2];lia
theorem dl11(m:Int)(hm:1<=m):(dT 11 m).1.length=3+17*(m-1).toNat:=by
 have f0:("if ":Z0).length=3:=by decide+kernel
 have f1:("yes":Z0).length=3:=by decide+kernel
 have f2:(" then 1 else 2":Z0).length=14:=by decide+kernel
 show(((Txt.mul "if " (m-1))++("yes":Z0))++(Txt.mul " then 1 else 2" (m-1))).length=_;rw[Z0j,Z0j,Z0q,Z0q,f0,f1,f2];lia
theorem dl12(m:Int)(hm:1<=m):(dT 12 m).1.length=1+19*(m-1).toNat:=by
 have f0:("if yes then ":Z0).length=12:=by decide+kernel
 have f1:("1":Z0).length=1:=by decide+kernel
 have f2:(" else 2":Z0).length=7:=by decide+kernel
 show(((Txt.mul "if yes then " (m-1))++("1":Z0))++(Txt.mul " else 2" (m-1))).length=_;rw[Z0j,Z0j,Z0q,Z0q,f0,f1,f2];lia
theorem dl13(m:Int)(hm:1<=m):(dT 13 m).1.length=1+13*(m-1).toNat:=by
 have f0:("let a = ":Z0).length=8:=by decide+kernel
 have f1:("1":Z0).length=1:=by decide+kernel
 have f2:(" in 2":Z0).length=5:=by decide+kernel
 show(((Txt.mul "let a = " (m-1))++("1":Z0))++(Txt.mul " in 2" (m-1))).length=_;rw[Z0j,Z0j,Z0q,Z0q,f0,f1,f2];lia
theorem dl14(m:Int)(hm:1<=m):(dT 14 m).1.length=13+4*(m-1).toNat:=by
 have f0:("set a":Z0).length=5:=by decide+kernel
 have f1:(" . b":Z0).length=4:=by decide+kernel
 have f2:(" = 1":Z0).length=4:=by decide+kernel
 show((("set a":Z0)++(Txt.mul " . b" m))++(" = 1":Z0)).length=_;rw[Z0j,Z0j,Z0q,f0,f1,f2];lia
theorem dl15(m:Int)(hm:1<=m):(dT 15 m).1.length=1+8*(m-1).toNat:=by
 have f0:("a":Z0).length=1:=by decide+kernel
 have f1:(" . w ( )":Z0).length=8:=by decide+kernel
 show(("a":Z0)++(Txt.mul " . w ( )" (m-1))).length=_;rw[Z0j,Z0q,f0,f1];lia
theorem J2m(wy:Int)(h0:0<=wy)(h1:wy<=15):∃m:Nat,4<=m/\m<=30/\(dT wy 1).1.length<=40/\∀k:Int,1<=k->(dT wy k).1.length=(dT wy 1).1.length+m*(k-1).toNat:=by
 have go:∀{wy:Int}(c m:Nat),(∀k:Int,1<=k->(dT wy k).1.length=c+m*(k-1).toNat)->4<=m->m<=30->c<=40->∃m:Nat,4<=m/\m<=30/\(dT wy 1).1.length<=40/\∀k:Int,1<=k->(dT wy k).1.length=(dT wy 1).1.length+m*(k-1).toNat:=λ c m h a b d=>by
  have e:(dT _ 1).1.length=c:=(h 1 qS).trans (by show c+m*0=c;rw[Nat.mul_zero,Nat.add_zero]);exact⟨m,a,b,by rw[e];exact d,λ k hk=>by rw[e,h k hk]⟩
 have:wy=0\/wy=1\/wy=2\/wy=3\/wy=4\/wy=5\/wy=6\/wy=7\/wy=8\/wy=9\/wy=10\/wy=11\/wy=12\/wy=13\/wy=14\/wy=15:=by lia
 rcases this with rfl|rfl|rfl|rfl|rfl|rfl|rfl|rfl|rfl|rfl|rfl|rfl|rfl|rfl|rfl|rfl
 ·exact go _ _ dl0 qS qS qS
 ·exact go _ _ dl1 qS qS qS
 ·exact go _ _ dl2 qS qS qS
 ·exact go _ _ dl3 qS qS qS
 ·exact go _ _ dl4 qS qS qS
 ·exact go _ _ dl5 qS qS qS
 ·exact go _ _ dl6 qS qS qS
 ·exact go _ _ dl7 qS qS qS
 ·exact go _ _ dl8 qS qS qS
 ·exact go _ _ dl9 qS qS qS
 ·exact go _ _ dl10 qS qS qS
 ·exact go _ _ dl11 qS qS qS
 ·exact go _ _ dl12 qS qS qS
 ·exact go _ _ dl13 qS qS qS
 ·exact go _ _ dl14 qS qS qS
 ·exact go _ _ dl15 qS qS qS
structure J5T(K:y0)(C:t0):Prop where
 ha:W.findIn K (.ref C) "__class__"=some (some (.builtin "object.__class__"))
 hn:W.specialIn K (.builtin "object.__class__") "__get__"=some (some (.builtin "getset_descriptor.__get__"))
 tk:W.takesIn K (.builtin "object.__class__")=some true
 hm:W.mroIn K C (.type "object")=some true
 kit:W.kitOne K (.ref C) (.type "int")=some false
theorem Z8n{K:y0}{C:t0}{H:Hp}{t:Tm}:∀{xs:List Tm}{us:List V},TOs K C H us (xs++[t])->∃vs v,us=vs++[v]/\TO K C H v t
 |[],_,.cons a .nil=>⟨[],_,rfl,a⟩
 |x::xs,_,.cons a b=>by
  obtain⟨vs,v,rfl,h⟩:=Z8n (xs:=xs) b;exact⟨_::vs,v,rfl,h⟩
theorem J1s:∀(ts:List Tm),ts.length<=sumS ts
 |[]=>qa0 _
 | .mk f l ps::ts=>by
  have:=J1s ts;show ts.length+1<=(Tm.mk f l ps).size+sumS ts;rw[RR.szL];lia
theorem J2Z{ws:List Z0}{k n:Nat}{p:Pg}(h:rProg ws k=.ok p n):(bodies p).length<=400:=by
 unfold RR.rProg at h;split at h
 ·cases h
 obtain⟨hs,i,_,h⟩:=RR.bind_ok h;unfold RR.rRest at h;split at h
 ·cases h
 obtain⟨_,j,_,h⟩:=RR.bind_ok h;obtain⟨mn,j',_,h⟩:=RR.bind_ok h;split at h
 ·cases h
 split at h
 ·cases h
 split at h
 ·cases h
 split at h
 ·cases h
 rename_i e;cases h;exact qa1 (J1s _) (qd4 e)
theorem Z4b{x:Z0}{b b':Prop}{g:Tm->Prop}(h:Says x b g)(e:b↔b'):Says x b' g:=by
 obtain⟨ws,cut,⟨hb,hr⟩|⟨hb,r⟩⟩:=h
 ·exact⟨ws,cut,.inl ⟨e.mp hb,hr⟩⟩
 ·exact⟨ws,cut,.inr ⟨λ z=>hb (e.mpr z),r⟩⟩
theorem J2b(T:Txt P w K mg C_Guest Ct Cw Ch Cp C_BadForm D_STRENGTHS D_TRUTHS U_TOLD_WORDS)(PL:J6s)(hI:J5T K Cp)(O0v:Has P w K mg base 1 "_law_cell_at" ["_law_script","_law_k"] (Z9R K))(O0G:Has P w K mg base 1 "_law_deep" ["_law_way","_law_many_here"] J0D)(O1n:Has P w K mg base 1 "_law_many" ["_law_cell"] Z9A)(O1z:Has P w K mg base 1 "_law_row" ["_law_cell"] J3r)(O1a:Has P w K mg base 1 "_law_counted" ["_law_way","_law_cell"] Z5j)(O0W:Has P w K mg base (8*17+12) "_law_told" ["_law_text"] (J0A (CS.mk Ct Cw Ch Cp C_Guest C_Guest C_Guest C_Guest B) ⟨C_Guest,C_tb,LP,LQ⟩ K 17))(h_Program_bodies:HasM P w K mg base 1 Cp "bodies" ["self"] (Z4k (CS.mk Ct Cw Ch Cp C_Guest C_Guest C_Guest C_Guest B) K))(h_Term_depth:HasM P w K mg base 1 Ct "depth" ["self"] (Z3n Ct K))(h_Term_size:HasM P w K mg base 1 Ct "size" ["self"] (Z4a Ct K)){f:t0}{fd:FuncData}(F:Fun K "law" "law" Z9t f fd):FnOk P w K mg base CX0 (8*17+13) f fd ["_law_script"] (J2w ⟨C_Guest,C_tb,LP,LQ⟩ K):=by
 refine F.ok O0m (λ vs H Q E h=>?_) (λ cdv A outer s H vs Q E hr h=>?_)
 ·obtain⟨a,ns,rfl,_⟩:=h;rfl
 obtain⟨a,ns,rfl,ha,hn,tb,q⟩:=h;refine⟨_,(Z0a (qG 1 O0m.nd (qF O0v hr (qJ (pvF 0) Z0c))) (Z0a (qG 2 O0m.nd (Z0f Z1u (qF O0v hr (qJ (pvF 0) Z0c)) Z0c)) (Z0a (Z0r (qM Z9E (pvF 2) Z0c) (Z0a (qG 3 O0m.nd (qD K (Z0O (qK (Z0f Z0N Z0c (Z0f Z1u (pvF 1) Z0c)) (Z0f Z0N Z0c (Z0f Z1u (pvF 1) Z0c)) (Z0f Z0N Z0c (Z0f Z1u (pvF 1) Z0c)))) (Z0f Z1u (Z0f Z3J (pvF 1) Z0c) Z0c))) (Z0a (qG 4 O0m.nd (Z0f Z0A (Z0s Z0P rfl T.z_len J1t (qI (qC K (qF O0G hr (qJ (pvF 2) Z0c)) Z0c))) (Z0s Z0P rfl T.z_len J1t (qI (qC K (qF O0G hr (qJ (pvF 2) Z0c)) Z0c))))) (Z0a (J3v (qF O0G hr (qJ (pvF 2) (Z0s (Z6l rfl) rfl T.z_min J3I (qJ (pvF 3) (Z0f J2i Z0c (pvF 4)))))) (Z7D (n:=4) rfl (Z1D (qH 5 O0m.nd) (Z1D (qH 6 O0m.nd) (Z1D (qH 7 O0m.nd) (Z1D (qH 8 O0m.nd) Z7m)))))) (Z0a (qG 9 O0m.nd (qF O0W hr (qI (Z0f Z0h Z0d (pvF 5))))) (Z0a (Z0r (PW.pt (J2q (qM Z6K (pvF 6) Z0c) (Z7S (qM Z6K (pvF 8) Z0c)))) (Z0b (Z0l (Z7J (Z0s (r:=rIsi K) Z3U rfl T.O0n Z2r (qJ (pvF 9) (Z4u (v:=.ty "int") rfl T.z_int Z8q rfl))) (Z3O (Z0I (r:=rEqD K) (J0T hr.units) (pvF 9) Z0c (Z1Z _)))))) Z0m) (Z0a (Z0r (Z0T (Z0s (r:=rIsi K) Z3U rfl T.O0n Z2r (qJ (pvF 9) (Z4u (v:=.ty "int") rfl T.z_int Z8q rfl)))) (Z0b (Z0l Z9p)) Z0m) (Z0a (qG 10 O0m.nd (qD K (Z0x (pvF 9) T.Program.cl h_Program_bodies hr qS) qN)) (Z0b (Z0l (Z0I (r:=rEqD K) (J0T hr.units) (Z0O (qJ (Z0x (pvF 10) T.Term.cl h_Term_depth hr qS) (Z0x (pvF 10) T.Term.cl h_Term_size hr qS))) (Z0O (qJ (pvF 6) (pvF 7))) (Z1Z _))))))))))) Z0m) (Z0a (J3v (qD K (Z0O (qK (qF O1z hr (qI (pvF 1))) (qF O1n hr (qI (pvF 1))) (qF O1a hr (qJ (Z0f Z1u (pvF 2) Z0c) (pvF 1))))) (Z0s (Z6l rfl) rfl T.z_min J3I (qJ (Z0f Z0A (pvF 2) Z0c) Z0c))) (Z7D (n:=2) rfl (Z1D (qH 11 O0m.nd) (Z1D (qH 12 O0m.nd) Z7m)))) (Z0a (qG 9 O0m.nd (qF O0W hr (qI (pvF 11)))) (Z0a (Z0r (Z0T (Z0s (r:=rIsi K) Z3U rfl T.O0n Z2r (qJ (pvF 9) (Z4u (v:=.ty "int") rfl T.z_int Z8q rfl)))) (Z0b (Z0l (Z7J (Z8d (pvF 12)) (Z3O (Z0I (r:=rEqD K) (J0T hr.units) (pvF 9) Z0c (Z1Z _)))))) Z0m) (Z0b (Z0l (pvF 12))))))))),?_⟩;refine seq6 λ uz5 huz5 uz4 huz4 uz3 huz3 uz2 huz2 uz1 huz1=>?_;walk_at "r";refine⟨a,ns,1,rfl,ha,hn,?_⟩;subst huz1;walk_at "r";refine⟨a,ns,0,rfl,ha,hn,?_⟩;subst huz2;walk_at "r";have w0:=qb7 (ns.getD 0 0) (show(23:Int)≠0 by decide);have w1:=qb8 (ns.getD 0 0) (show(0:Int)<23 by decide);generalize ns.getD 0 0%23=wy at*;generalize ns.getD 1 0=c at*;refine ite2 (λ e=>?_) λ e=>?_
 ·obtain⟨m,m1,m2,l1,lk⟩:=J2m wy w0 qR;have l2:=lk 2 qS;have h1:=qb7 c (show(5:Int)≠0 by decide);have h2:=qb7 c (show(12:Int)≠0 by decide);have h3:=qb7 c (show(1400:Int)≠0 by decide);have h4:=qb8 c (show(0:Int)<1400 by decide);have h5:=qb8 c (show(0:Int)<5 by decide);have h6:=qb8 c (show(0:Int)<12 by decide);have hp:1<=Z2m (c/1400) (12+c%5) (1+c%12) (100+c%1400)/\Z2m (c/1400) (12+c%5) (1+c%12) (100+c%1400)<=1500:=by
   unfold Z2m;split
   ·lia
   ·split<;>lia
  have em:(((dT wy 2).1.length:Nat):Int)-((dT wy 1).1.length:Nat)=(m:Nat):=by
   rw[l2];show(((dT wy 1).1.length+m*1:Nat):Int)-_=_;lia
  refine New.of λ p1 H1 h1 s1 e1=>⟨_,SqL.of e1,_,at3 (c/1400) _ _ _,⟨wy,2,rfl,w0,qR,qQ,qQ,λ p2 H2 h2 s2 e2=>⟨p2,rfl,⟨_,SqT.of e2,_,ix0,_,rfl,qR,⟨wy,1,rfl,w0,qR,qQ,qQ,λ p3 H3 h3 s3 e3=>⟨p3,rfl,⟨_,SqT.of e3,_,ix0,_,rfl,qR,?_⟩⟩⟩⟩⟩⟩⟩;rw[em];have hf:Int.fdiv 5900 (m:Nat)=((5900/m:Nat):Int):=by
   rw[Int.fdiv_eq_ediv_of_nonneg _ qR];rfl
  have hd1:196<=5900/m:=Nat.le_div_iff_mul_le qR|>.mpr qR
  have hd2:5900/m<=1475:=Nat.div_le_of_le_mul qR;have hd3:m*(5900/m)<=5900:=Nat.mul_div_le _ _;rw[hf];generalize Z2m (c/1400) (12+c%5) (1+c%12) (100+c%1400)=i at*;refine⟨qR,qR,qR,_,rfl,?_⟩;have hk:∃k:Int,(if((5900/m:Nat):Int)<i then((5900/m:Nat):Int)else i)=k/\1<=k/\k<=((5900/m:Nat):Int):=by
   split<;>exact⟨_,rfl,qR,qR⟩
  obtain⟨k,ek,k1,k2⟩:=hk;rw[ek];have lx:(("main ( ) number = ":Z0)++(dT wy k).1).length<=6000:=by
   rw[Z0j,lk k k1];have:("main ( ) number = ":Z0).length=18:=by decide+kernel
   have:m*(k-1).toNat<=m*(5900/m):=Nat.mul_le_mul_left _ qR;lia
  have pd:=PL.deep wy k w0 qR k1 lx;refine⟨wy,k,rfl,w0,qR,k1,qR,λ p4 H4 h4 s4 e4=>⟨p4,rfl,⟨_,SqT.of e4,rfl,⟨_,_,rfl,⟨_,_,rfl,⟨_,_,rfl,⟨_,_,rfl,rfl,_,rfl,by rw[Z0j]at lx;lia,?_⟩⟩⟩⟩⟩⟩⟩;have S4:=s1.trans (s2.trans (s3.trans s4));have tb4:=tb.same S4;have zero:∀H5,rIsi K [V.int 0,V.ty "int"] H5 λ x_1 H1=>∃c,x_1=V.bl c/\if c=true then ∃d,RdD K H1 (V.int 0) d/\∃x,RdD K H1 (V.int 0) x/\SeqAt.shaped d=true/\SeqAt.shaped x=true/\Q (V.bl (d.eqv x)) H1 else Q (V.bl false) H1:=λ H5=>by
   walk_at "r";exact⟨_,.int 0,_,.int 0,rfl,rfl,q H5⟩
  obtain⟨ws,cut,⟨hb,hr⟩|⟨hb,p,n,hr,g1,g2⟩⟩:=pd
  ·refine⟨_,ws,rfl,cut,tb4,?_⟩;rw[hr];intro H5 sy5;refine⟨_,rfl,ite2 (λ e=>zero H5) λ e=>⟨_,rfl,ite2 (λ e'=>zero H5) λ e'=>absurd hb λ z=>z.elim e e'⟩⟩
  ·refine⟨_,ws,rfl,cut,tb4,?_⟩;rw[hr];intro v H5 sy5 tb5 o5;refine⟨_,rfl,ite2 (λ e=>absurd (Or.inl e) hb) λ e=>⟨_,rfl,ite2 (λ e'=>absurd (Or.inr e') hb) λ e'=>?_⟩⟩;have o5':=o5;cases o5 with
   |@mk pa dx ht hs mv _ q1 q2 q3 q4=>
   have lb:=J2Z hr;refine⟨_,_,_,_,_,rfl,rfl,.ins q1 T.Program.cl hI.ha hI.hn hI.tk hI.hm,hI.kit,_,rfl,ite2 (λ z=>by cases z) λ _=>⟨pa,rfl,⟨dx,_,q1,rfl,⟨_,p,rfl,o5',qR,λ l us H6 s6 h6 e6 o6=>?_⟩⟩⟩⟩;obtain⟨vs,v,rfl,ov⟩:=Z8n o6;have ov':=ov;obtain⟨ta,tx,inn,sh,_,_,rfl,t1,_⟩:=ov.inv;refine⟨l,rfl,⟨_,SqL.of e6,_,J3d _ _,ta,rfl,⟨tx,_,t1,rfl,⟨_,_,rfl,ov',ta,rfl,⟨tx,_,t1,rfl,⟨_,_,rfl,ov',New.of λ p7 H7 h7 s7 e7=>New.of λ p8 H8 h8 s8 e8=>?_⟩⟩⟩⟩⟩⟩;refine⟨_,.lst (SqL.of (s8 _ _ e7)) (.cons (.int _) (.cons (.int _) .nil)),_,.lst (SqL.of e8) (.cons (.int _) (.cons (.int _) .nil)),rfl,rfl,?_⟩;rw[<-g1,<-g2,show ∀a b:Int,PyData.eqv (PyData.list [PyData.int a,PyData.int b]) (PyData.list [PyData.int a,PyData.int b])=true from λ a b=>by simp[PyData.eqv,PyData.eqvAll]];exact q H8
 have go4:∀(x:Z0)(b:Bool)(H4:Hp),TbS ⟨C_Guest,C_tb,LP,LQ⟩ H4->Says x (b=false) (λ _=>True)->uz4 {nx:=λ x H'=>Q V.non H',rt:=Q} [some (V.ref a),some (V.int c),some (V.int wy),none,none,none,none,none,none,none,none,some (.str x),some (.bl b)] H4:=by
  intro x b H4 tb4 hs;subst huz4;walk_at "r";obtain⟨ws,cut,⟨hb,hr⟩|⟨hb,p,n,hr,_⟩⟩:=hs
  ·refine⟨_,ws,rfl,cut,tb4,?_⟩;rw[hr];intro H5 sy5;subst huz5;walk_at "r";exact ite2 (λ _=>⟨_,.int 0,_,.int 0,rfl,rfl,q H5⟩) λ z=>absurd hb z
  ·refine⟨_,ws,rfl,cut,tb4,?_⟩;rw[hr];intro v H5 sy5 tb5 o5;cases o5 with
   |@mk pa dx ht hs mv _ q1 q2 q3 q4=>
   subst huz5;walk_at "r";have hb':b=true:=Bool.not_eq_false _▸hb;refine⟨_,_,_,_,_,rfl,rfl,.ins q1 T.Program.cl hI.ha hI.hn hI.tk hI.hm,hI.kit,_,rfl,ite2 (λ z=>by cases z) λ _=>?_⟩;rw[hb'];exact q H5
 subst huz3;walk_at "r";have w5:=qb7 wy (show(5:Int)≠0 by decide);have w5':=qb8 wy (show(0:Int)<5 by decide);refine⟨c,rfl,λ p1 H1 h1 s1 e1=>⟨c,rfl,λ p2 H2 h2 s2 e2=>⟨wy%5,c,rfl,w5,qR,λ p3 H3 h3 s3 e3=>New.of λ p4 H4 h4 s4 e4=>?_⟩⟩⟩;have S4:=s1.trans (s2.trans (s3.trans s4));have tb4:=tb.same S4;have x1:=s4 _ _ (s3 _ _ (s2 _ _ e1));have x2:=s4 _ _ (s3 _ _ e2);have x3:=s4 _ _ e3;have hx:(if 2<wy-16 then 2 else wy-16)=0\/(if 2<wy-16 then 2 else wy-16)=1\/(if 2<wy-16 then 2 else wy-16)=2:=by split<;>lia
 rcases hx with hx|hx|hx<;>rw[hx]
 ·refine⟨_,SqL.of e4,_,rfl,p1,rfl,⟨_,SqT.of x1,rfl,⟨_,_,rfl,⟨_,_,rfl,rfl,go4 _ _ H4 tb4 ?_⟩⟩⟩⟩;exact Z4b (PL.row c) ⟨λ z=>z.elim,λ z=>by cases z⟩
 ·refine⟨_,SqL.of e4,_,rfl,p2,rfl,⟨_,SqT.of x2,rfl,⟨_,_,rfl,⟨_,_,rfl,rfl,go4 _ _ H4 tb4 ?_⟩⟩⟩⟩;exact Z4b (PL.many c) decide_eq_false_iff_not.symm
 ·refine⟨_,SqL.of e4,_,rfl,p3,rfl,⟨_,SqT.of x3,rfl,⟨_,_,rfl,⟨_,_,rfl,rfl,go4 _ _ H4 tb4 ?_⟩⟩⟩⟩;exact PL.count _ c w5 qR
end K13
end
end
section
namespace K13
open PySem P15
open RR (WW Bl En rp hdW famW famN Z4E Res rProg Z0y Z0X)
open K10 (cds)
theorem back:∀ws:List Z0,ws=(ws.map cds).map λ l=>(⟨l.toArray⟩:Z0)
 |[]=>rfl
 |⟨x⟩::ws=>by
  rw[qc0,qc0,<-back ws]
theorem Z7T{x:Z0}{ws:List Z0}(h:WW x ws)(l:x.length<=6000):Cut x ws:=by
 obtain⟨a,b⟩:=K10.cut_few _ _ _ _ (qa0 _) (h 0);rw[K10.cds_len,qb0]at a;rw[K10.cds_len]at b;exact⟨l,⟨_,h 0,back ws⟩,qa1 a l,λ w hw=>by rw[<-K10.cds_len];exact qa1 (b _ (List.mem_map_of_mem hw)) l⟩
theorem Z3c{b:Z0}{v:List Z0}(B:WW b v):WW (("main ( ) number = ":Z0)++b) (hdW++v):=WW.appG (a':="main ( ) number =") (Z0y 20 qP) (RR.en_of qP) B
theorem ww0(m:Int):WW (("main ( ) number = ":Z0)++(dT 0 m).1) (hdW++famW 0 (m-1).toNat):=Z3c (WW.app (Z0y (x:="1") (ws:=(["1"]:List Z0)) 30 qP) ((Z0y (x:=" + a") (ws:=(["+","a"]:List Z0)) 30 qP).mul (Z0X (x:=" + a") (y:="+ a") qP) (m-1)) ((Z0X (x:=" + a") (y:="+ a") qP).mul _))
theorem ww1(m:Int):WW (("main ( ) number = ":Z0)++(dT 1 m).1) (hdW++famW 1 (m-1).toNat):=Z3c (WW.mulG (Z0y (x:="a ;") (ws:=(["a",";"]:List Z0)) 30 qP) (RR.en_of (x:="a ; ") (y:="a ;") qP) (Z0y (x:="yes") (ws:=(["yes"]:List Z0)) 30 qP) (m-1))
theorem ww2(m:Int):WW (("main ( ) number = ":Z0)++(dT 2 m).1) (hdW++famW 2 (m-1).toNat):=Z3c (WW.app (Z0y (x:="a") (ws:=(["a"]:List Z0)) 30 qP) ((Z0y (x:=" . b") (ws:=([".","b"]:List Z0)) 30 qP).mul (Z0X (x:=" . b") (y:=". b") qP) (m-1)) ((Z0X (x:=" . b") (y:=". b") qP).mul _))
theorem ww3(m:Int):WW (("main ( ) number = ":Z0)++(dT 3 m).1) (hdW++famW 3 (m-1).toNat):=Z3c (WW.mulG (Z0y (x:="not") (ws:=(["not"]:List Z0)) 30 qP) (RR.en_of (x:="not ") (y:="not") qP) (Z0y (x:="yes") (ws:=(["yes"]:List Z0)) 30 qP) (m-1))
theorem ww4(m:Int):WW (("main ( ) number = ":Z0)++(dT 4 m).1) (hdW++famW 4 (m-1).toNat):=Z3c (WW.mulG (Z0y (x:="if yes then 1 else") (ws:=(["if","yes","then","1","else"]:List Z0)) 30 qP) (RR.en_of (x:="if yes then 1 else ") (y:="if yes then 1 else") qP) (Z0y (x:="2") (ws:=(["2"]:List Z0)) 30 qP) (m-1))
theorem ww5(m:Int):WW (("main ( ) number = ":Z0)++(dT 5 m).1) (hdW++famW 5 (m-1).toNat):=Z3c (WW.mulG (Z0y (x:="let b = 0 in") (ws:=(["let","b","=","0","in"]:List Z0)) 30 qP) (RR.en_of (x:="let b = 0 in ") (y:="let b = 0 in") qP) (Z0y (x:="b") (ws:=(["b"]:List Z0)) 30 qP) (m-1))
theorem ww6(m:Int):WW (("main ( ) number = ":Z0)++(dT 6 m).1) (hdW++famW 6 (m-1).toNat):=Z3c (WW.mulG (Z0y (x:="set a . b =") (ws:=(["set","a",".","b","="]:List Z0)) 30 qP) (RR.en_of (x:="set a . b = ") (y:="set a . b =") qP) (Z0y (x:="self") (ws:=(["self"]:List Z0)) 30 qP) (m-1))
theorem ww7(m:Int):WW (("main ( ) number = ":Z0)++(dT 7 m).1) (hdW++famW 7 (m-1).toNat):=by
 have h:=Z3c ((WW.mulG (Z0y (x:="new h (") (ws:=(["new","h","("]:List Z0)) 30 qP) (RR.en_of (x:="new h ( ") (y:="new h (") qP) (Z0y (x:="3") (ws:=(["3"]:List Z0)) 30 qP) (m-1)).app ((Z0y (x:=" )") (ws:=([")"]:List Z0)) 30 qP).mul (Z0X (x:=" )") (y:=")") qP) (m-1)) ((Z0X (x:=" )") (y:=")") qP).mul _));rw[qa8 (rp (m-1).toNat _)]at h;exact h
theorem ww8(m:Int):WW (("main ( ) number = ":Z0)++(dT 8 m).1) (hdW++famW 8 (m-1).toNat):=by
 have h:=Z3c ((WW.mulG (Z0y (x:="elder . w (") (ws:=(["elder",".","w","("]:List Z0)) 30 qP) (RR.en_of (x:="elder . w ( ") (y:="elder . w (") qP) (Z0y (x:="a") (ws:=(["a"]:List Z0)) 30 qP) (m-1)).app ((Z0y (x:=" )") (ws:=([")"]:List Z0)) 30 qP).mul (Z0X (x:=" )") (y:=")") qP) (m-1)) ((Z0X (x:=" )") (y:=")") qP).mul _));rw[qa8 (rp (m-1).toNat _)]at h;exact h
theorem ww9(m:Int):WW (("main ( ) number = ":Z0)++(dT 9 m).1) (hdW++famW 9 (m-1).toNat):=by
 have h:=Z3c ((WW.mulG (Z0y (x:="a . w (") (ws:=(["a",".","w","("]:List Z0)) 30 qP) (RR.en_of (x:="a . w ( ") (y:="a . w (") qP) (Z0y (x:="no") (ws:=(["no"]:List Z0)) 30 qP) (m-1)).app ((Z0y (x:=" )") (ws:=([")"]:List Z0)) 30 qP).mul (Z0X (x:=" )") (y:=")") qP) (m-1)) ((Z0X (x:=" )") (y:=")") qP).mul _));rw[qa8 (rp (m-1).toNat _)]at h;exact h
theorem ww10(m:Int)(hm:1<=m):WW (("main ( ) number = ":Z0)++(dT 10 m).1) (hdW++famW 10 (m-1).toNat):=by
 have h:=Z3c ((WW.mulG (Z0y (x:="(") (ws:=(["("]:List Z0)) 30 qP) (RR.en_of (x:="( ") (y:="(") qP) (Z0y (x:="1") (ws:=(["1"]:List Z0)) 30 qP) m).app ((Z0y (x:=" )") (ws:=([")"]:List Z0)) 30 qP).mul (Z0X (x:=" )") (y:=")") qP) m) ((Z0X (x:=" )") (y:=")") qP).mul _));rw[qa8 (rp m.toNat _),show m.toNat=(m-1).toNat+1 by lia]at h;exact h
theorem ww11(m:Int):WW (("main ( ) number = ":Z0)++(dT 11 m).1) (hdW++famW 11 (m-1).toNat):=by
 have h:=Z3c ((WW.mulG (Z0y (x:="if") (ws:=(["if"]:List Z0)) 30 qP) (RR.en_of (x:="if ") (y:="if") qP) (Z0y (x:="yes") (ws:=(["yes"]:List Z0)) 30 qP) (m-1)).app ((Z0y (x:=" then 1 else 2") (ws:=(["then","1","else","2"]:List Z0)) 30 qP).mul (Z0X (x:=" then 1 else 2") (y:="then 1 else 2") qP) (m-1)) ((Z0X (x:=" then 1 else 2") (y:="then 1 else 2") qP).mul _));rw[qa8 (rp (m-1).toNat _)]at h;exact h
theorem ww12(m:Int):WW (("main ( ) number = ":Z0)++(dT 12 m).1) (hdW++famW 12 (m-1).toNat):=by
 have h:=Z3c ((WW.mulG (Z0y (x:="if yes then") (ws:=(["if","yes","then"]:List Z0)) 30 qP) (RR.en_of (x:="if yes then ") (y:="if yes then") qP) (Z0y (x:="1") (ws:=(["1"]:List Z0)) 30 qP) (m-1)).app ((Z0y (x:=" else 2") (ws:=(["else","2"]:List Z0)) 30 qP).mul (Z0X (x:=" else 2") (y:="else 2") qP) (m-1)) ((Z0X (x:=" else 2") (y:="else 2") qP).mul _));rw[qa8 (rp (m-1).toNat _)]at h;exact h
theorem ww13(m:Int):WW (("main ( ) number = ":Z0)++(dT 13 m).1) (hdW++famW 13 (m-1).toNat):=by
 have h:=Z3c ((WW.mulG (Z0y (x:="let a =") (ws:=(["let","a","="]:List Z0)) 30 qP) (RR.en_of (x:="let a = ") (y:="let a =") qP) (Z0y (x:="1") (ws:=(["1"]:List Z0)) 30 qP) (m-1)).app ((Z0y (x:=" in 2") (ws:=(["in","2"]:List Z0)) 30 qP).mul (Z0X (x:=" in 2") (y:="in 2") qP) (m-1)) ((Z0X (x:=" in 2") (y:="in 2") qP).mul _));rw[qa8 (rp (m-1).toNat _)]at h;exact h
theorem ww14(m:Int)(hm:1<=m):WW (("main ( ) number = ":Z0)++(dT 14 m).1) (hdW++famW 14 (m-1).toNat):=by
 have h:=Z3c ((WW.app (Z0y (x:="set a") (ws:=(["set","a"]:List Z0)) 30 qP) ((Z0y (x:=" . b") (ws:=([".","b"]:List Z0)) 30 qP).mul (Z0X (x:=" . b") (y:=". b") qP) m) ((Z0X (x:=" . b") (y:=". b") qP).mul _)).app (Z0y (x:=" = 1") (ws:=(["=","1"]:List Z0)) 30 qP) (Z0X (x:=" = 1") (y:="= 1") qP));rw[qa8,show m.toNat=(m-1).toNat+1 by lia]at h;exact h
theorem ww15(m:Int):WW (("main ( ) number = ":Z0)++(dT 15 m).1) (hdW++famW 15 (m-1).toNat):=Z3c (WW.app (Z0y (x:="a") (ws:=(["a"]:List Z0)) 30 qP) ((Z0y (x:=" . w ( )") (ws:=([".","w","(",")"]:List Z0)) 30 qP).mul (Z0X (x:=" . w ( )") (y:=". w ( )") qP) (m-1)) ((Z0X (x:=" . w ( )") (y:=". w ( )") qP).mul _))
def Num(wy:Int)(i:Nat)(m:Int):Prop:=(dT wy m).2.1=((famN i (m-1).toNat).1:Nat)/\(dT wy m).2.2.1=((famN i (m-1).toNat).2.1:Nat)/\(dT wy m).2.2.2=((famN i (m-1).toNat).2.2:Nat)
theorem Z1f{wy m:Int}{i:Nat}(hi:i<16)(W:WW (("main ( ) number = ":Z0)++(dT wy m).1) (hdW++famW i (m-1).toNat))(l:(("main ( ) number = ":Z0)++(dT wy m).1).length<=6000)(N:Num wy i m)(big:∀n,15<=n->rProg (hdW++famW i n) 17=.bad/\(14<(famN i n).1\/14<(famN i n).2.2)):Says (("main ( ) number = ":Z0)++(dT wy m).1) (14<(dT wy m).2.1\/14<(dT wy m).2.2.2) λ t=>((t.depth:Nat):Int)=(dT wy m).2.1/\((t.size:Nat):Int)=(dT wy m).2.2.1:=by
 refine⟨_,Z7T W l,?_⟩;obtain⟨n1,n2,n3⟩:=N;rw[n1,n2,n3];generalize(m-1).toNat=n at*;by_cases hn:n<16
 ·have c:=RR.chk_all i hi n hn;unfold RR.chk at c;revert c;cases rProg (hdW++famW i n) 17 with
  |ok p j=>
   intro c;simp only[qc5,decide_eq_true_eq]at c;obtain⟨⟨⟨a,b⟩,d⟩,e⟩:=c;exact .inr ⟨qR,p,j,rfl,by rw[d],by rw[e]⟩
  |bad=>
   intro c;simp only[Bool.or_eq_true,decide_eq_true_eq]at c;exact .inl ⟨qR,rfl⟩
  |out=>intro c;cases c
 ·obtain⟨a,b⟩:=big n qR;exact .inl ⟨qR,a⟩
theorem Z1L{α:Type}(x t:List α){n:Nat}(hn:15<=n):rp n x++t=rp 15 x++(rp (n-15) x++t):=by
 have e:n=15+(n-15):=by lia
 rw[e,RR.rp_add,qa8,Nat.add_sub_cancel_left]
theorem bg0(n:Nat)(hn:15<=n):rProg (hdW++famW 0 n) 17=.bad/\(14<(famN 0 n).1\/14<(famN 0 n).2.2):=⟨RR.prog_bad (RR.big0 n hn),.inl (by show 14<n+1;lia)⟩
theorem bg1(n:Nat)(hn:15<=n):rProg (hdW++famW 1 n) 17=.bad/\(14<(famN 1 n).1\/14<(famN 1 n).2.2):=by
 refine⟨?_,.inl (by show 14<n+1;lia)⟩;show rProg (hdW++(rp n (["a",";"]:List Z0)++(["yes"]:List Z0))) 17=.bad;rw[Z1L _ _ (show 15<=n by lia)];exact RR.prog_bad (RR.big1 _)
theorem bg2(n:Nat)(hn:15<=n):rProg (hdW++famW 2 n) 17=.bad/\(14<(famN 2 n).1\/14<(famN 2 n).2.2):=⟨RR.prog_bad (RR.big2 n hn),.inl (by show 14<n+1;lia)⟩
theorem bg3(n:Nat)(hn:15<=n):rProg (hdW++famW 3 n) 17=.bad/\(14<(famN 3 n).1\/14<(famN 3 n).2.2):=by
 refine⟨?_,.inl (by show 14<n+1;lia)⟩;show rProg (hdW++(rp n (["not"]:List Z0)++(["yes"]:List Z0))) 17=.bad;rw[Z1L _ _ (show 15<=n by lia)];exact RR.prog_bad (RR.big3 _)
theorem bg4(n:Nat)(hn:15<=n):rProg (hdW++famW 4 n) 17=.bad/\(14<(famN 4 n).1\/14<(famN 4 n).2.2):=by
 refine⟨?_,.inl (by show 14<n+1;lia)⟩;show rProg (hdW++(rp n (["if","yes","then","1","else"]:List Z0)++(["2"]:List Z0))) 17=.bad;rw[Z1L _ _ (show 15<=n by lia)];exact RR.prog_bad (RR.big4 _)
theorem bg5(n:Nat)(hn:15<=n):rProg (hdW++famW 5 n) 17=.bad/\(14<(famN 5 n).1\/14<(famN 5 n).2.2):=by
 refine⟨?_,.inl (by show 14<n+1;lia)⟩;show rProg (hdW++(rp n (["let","b","=","0","in"]:List Z0)++(["b"]:List Z0))) 17=.bad;rw[Z1L _ _ (show 15<=n by lia)];exact RR.prog_bad (RR.big5 _)
theorem bg6(n:Nat)(hn:15<=n):rProg (hdW++famW 6 n) 17=.bad/\(14<(famN 6 n).1\/14<(famN 6 n).2.2):=by
 refine⟨?_,.inl (by show 14<n+1;lia)⟩;show rProg (hdW++(rp n (["set","a",".","b","="]:List Z0)++(["self"]:List Z0))) 17=.bad;rw[Z1L _ _ (show 15<=n by lia)];exact RR.prog_bad (RR.big6 _)
theorem bg7(n:Nat)(hn:15<=n):rProg (hdW++famW 7 n) 17=.bad/\(14<(famN 7 n).1\/14<(famN 7 n).2.2):=by
 refine⟨?_,.inl (by show 14<n+1;lia)⟩;show rProg (hdW++(rp n (["new","h","("]:List Z0)++((["3"]:List Z0)++rp n ([")"]:List Z0)))) 17=.bad;rw[Z1L _ _ (show 15<=n by lia)];exact RR.prog_open (RR.big7 _)
theorem bg8(n:Nat)(hn:15<=n):rProg (hdW++famW 8 n) 17=.bad/\(14<(famN 8 n).1\/14<(famN 8 n).2.2):=by
 refine⟨?_,.inl (by show 14<n+1;lia)⟩;show rProg (hdW++(rp n (["elder",".","w","("]:List Z0)++((["a"]:List Z0)++rp n ([")"]:List Z0)))) 17=.bad;rw[Z1L _ _ (show 15<=n by lia)];exact RR.prog_open (RR.big8 _)
theorem bg9(n:Nat)(hn:15<=n):rProg (hdW++famW 9 n) 17=.bad/\(14<(famN 9 n).1\/14<(famN 9 n).2.2):=by
 refine⟨?_,.inl (by show 14<n+1;lia)⟩;show rProg (hdW++(rp n (["a",".","w","("]:List Z0)++((["no"]:List Z0)++rp n ([")"]:List Z0)))) 17=.bad;rw[Z1L _ _ (show 15<=n by lia)];exact RR.prog_open (RR.big9 _)
theorem bg10(n:Nat)(hn:15<=n):rProg (hdW++famW 10 n) 17=.bad/\(14<(famN 10 n).1\/14<(famN 10 n).2.2):=by
 refine⟨?_,.inr (by show 14<n+1;lia)⟩;show rProg (hdW++(rp (n+1) (["("]:List Z0)++((["1"]:List Z0)++rp (n+1) ([")"]:List Z0)))) 17=.bad;rw[Z1L _ _ (show 15<=(n+1)by lia)];exact RR.prog_open (RR.big10 _)
theorem bg11(n:Nat)(hn:15<=n):rProg (hdW++famW 11 n) 17=.bad/\(14<(famN 11 n).1\/14<(famN 11 n).2.2):=by
 refine⟨?_,.inl (by show 14<n+1;lia)⟩;show rProg (hdW++(rp n (["if"]:List Z0)++((["yes"]:List Z0)++rp n (["then","1","else","2"]:List Z0)))) 17=.bad;rw[Z1L _ _ (show 15<=n by lia)];exact RR.prog_bad (RR.big11 _)
theorem bg12(n:Nat)(hn:15<=n):rProg (hdW++famW 12 n) 17=.bad/\(14<(famN 12 n).1\/14<(famN 12 n).2.2):=by
 refine⟨?_,.inl (by show 14<n+1;lia)⟩;show rProg (hdW++(rp n (["if","yes","then"]:List Z0)++((["1"]:List Z0)++rp n (["else","2"]:List Z0)))) 17=.bad;rw[Z1L _ _ (show 15<=n by lia)];exact RR.prog_bad (RR.big12 _)
theorem bg13(n:Nat)(hn:15<=n):rProg (hdW++famW 13 n) 17=.bad/\(14<(famN 13 n).1\/14<(famN 13 n).2.2):=by
 refine⟨?_,.inl (by show 14<n+1;lia)⟩;show rProg (hdW++(rp n (["let","a","="]:List Z0)++((["1"]:List Z0)++rp n (["in","2"]:List Z0)))) 17=.bad;rw[Z1L _ _ (show 15<=n by lia)];exact RR.prog_bad (RR.big13 _)
theorem bg14(n:Nat)(hn:15<=n):rProg (hdW++famW 14 n) 17=.bad/\(14<(famN 14 n).1\/14<(famN 14 n).2.2):=⟨RR.prog_bad (RR.big14 n hn),.inl (by show 14<n+2;lia)⟩
theorem bg15(n:Nat)(hn:15<=n):rProg (hdW++famW 15 n) 17=.bad/\(14<(famN 15 n).1\/14<(famN 15 n).2.2):=⟨RR.prog_bad (RR.big15 n hn),.inl (by show 14<n+1;lia)⟩
theorem J2x(wy m:Int)(h0:0<=wy)(h1:wy<=15)(hm:1<=m)(l:(("main ( ) number = ":Z0)++(dT wy m).1).length<=6000):Says (("main ( ) number = ":Z0)++(dT wy m).1) (14<(dT wy m).2.1\/14<(dT wy m).2.2.2) λ t=>((t.depth:Nat):Int)=(dT wy m).2.1/\((t.size:Nat):Int)=(dT wy m).2.2.1:=by
 have:wy=0\/wy=1\/wy=2\/wy=3\/wy=4\/wy=5\/wy=6\/wy=7\/wy=8\/wy=9\/wy=10\/wy=11\/wy=12\/wy=13\/wy=14\/wy=15:=by lia
 obtain⟨n,rfl⟩:∃n:Nat,m=n+1:=⟨(m-1).toNat,qR⟩;have en:((n:Int)+1-1).toNat=n:=by lia
 rcases this with rfl|rfl|rfl|rfl|rfl|rfl|rfl|rfl|rfl|rfl|rfl|rfl|rfl|rfl|rfl|rfl
 ·exact Z1f (i:=0) qQ (ww0 _) l (by unfold Num;rw[en];exact⟨by show((n:Int)+1)=((n+1:Nat):Int);lia,by show 2*((n:Int)+1)-1=((2*n+1:Nat):Int);lia,by show 0=((0:Nat):Int);lia⟩) bg0
 ·exact Z1f (i:=1) qQ (ww1 _) l (by unfold Num;rw[en];exact⟨by show((n:Int)+1)=((n+1:Nat):Int);lia,by show 2*((n:Int)+1)-1=((2*n+1:Nat):Int);lia,by show 0=((0:Nat):Int);lia⟩) bg1
 ·exact Z1f (i:=2) qQ (ww2 _) l (by unfold Num;rw[en];exact⟨by show((n:Int)+1)=((n+1:Nat):Int);lia,by show((n:Int)+1)=((n+1:Nat):Int);lia,by show 0=((0:Nat):Int);lia⟩) bg2
 ·exact Z1f (i:=3) qQ (ww3 _) l (by unfold Num;rw[en];exact⟨by show((n:Int)+1)=((n+1:Nat):Int);lia,by show((n:Int)+1)=((n+1:Nat):Int);lia,by show 0=((0:Nat):Int);lia⟩) bg3
 ·exact Z1f (i:=4) qQ (ww4 _) l (by unfold Num;rw[en];exact⟨by show((n:Int)+1)=((n+1:Nat):Int);lia,by show 3*((n:Int)+1)-2=((3*n+1:Nat):Int);lia,by show 0=((0:Nat):Int);lia⟩) bg4
 ·exact Z1f (i:=5) qQ (ww5 _) l (by unfold Num;rw[en];exact⟨by show((n:Int)+1)=((n+1:Nat):Int);lia,by show 2*((n:Int)+1)-1=((2*n+1:Nat):Int);lia,by show 0=((0:Nat):Int);lia⟩) bg5
 ·exact Z1f (i:=6) qQ (ww6 _) l (by unfold Num;rw[en];exact⟨by show((n:Int)+1)=((n+1:Nat):Int);lia,by show 2*((n:Int)+1)-1=((2*n+1:Nat):Int);lia,by show 0=((0:Nat):Int);lia⟩) bg6
 ·exact Z1f (i:=7) qQ (ww7 _) l (by unfold Num;rw[en];exact⟨by show((n:Int)+1)=((n+1:Nat):Int);lia,by show((n:Int)+1)=((n+1:Nat):Int);lia,by show((n:Int)+1)-1=((n:Nat):Int);lia⟩) bg7
 ·exact Z1f (i:=8) qQ (ww8 _) l (by unfold Num;rw[en];exact⟨by show((n:Int)+1)=((n+1:Nat):Int);lia,by show((n:Int)+1)=((n+1:Nat):Int);lia,by show((n:Int)+1)-1=((n:Nat):Int);lia⟩) bg8
 ·exact Z1f (i:=9) qQ (ww9 _) l (by unfold Num;rw[en];exact⟨by show((n:Int)+1)=((n+1:Nat):Int);lia,by show 2*((n:Int)+1)-1=((2*n+1:Nat):Int);lia,by show((n:Int)+1)-1=((n:Nat):Int);lia⟩) bg9
 ·exact Z1f (i:=10) qQ (ww10 _ hm) l (by unfold Num;rw[en];exact⟨by show 1=((1:Nat):Int);lia,by show 1=((1:Nat):Int);lia,by show((n:Int)+1)=((n+1:Nat):Int);lia⟩) bg10
 ·exact Z1f (i:=11) qQ (ww11 _) l (by unfold Num;rw[en];exact⟨by show((n:Int)+1)=((n+1:Nat):Int);lia,by show 3*((n:Int)+1)-2=((3*n+1:Nat):Int);lia,by show 0=((0:Nat):Int);lia⟩) bg11
 ·exact Z1f (i:=12) qQ (ww12 _) l (by unfold Num;rw[en];exact⟨by show((n:Int)+1)=((n+1:Nat):Int);lia,by show 3*((n:Int)+1)-2=((3*n+1:Nat):Int);lia,by show 0=((0:Nat):Int);lia⟩) bg12
 ·exact Z1f (i:=13) qQ (ww13 _) l (by unfold Num;rw[en];exact⟨by show((n:Int)+1)=((n+1:Nat):Int);lia,by show 2*((n:Int)+1)-1=((2*n+1:Nat):Int);lia,by show 0=((0:Nat):Int);lia⟩) bg13
 ·exact Z1f (i:=14) qQ (ww14 _ hm) l (by unfold Num;rw[en];exact⟨by show((n:Int)+1)+1=((n+2:Nat):Int);lia,by show((n:Int)+1)+2=((n+3:Nat):Int);lia,by show 0=((0:Nat):Int);lia⟩) bg14
 ·exact Z1f (i:=15) qQ (ww15 _) l (by unfold Num;rw[en];exact⟨by show((n:Int)+1)=((n+1:Nat):Int);lia,by show((n:Int)+1)=((n+1:Nat):Int);lia,by show 1=((1:Nat):Int);lia⟩) bg15
open RR (WW Bl En rp Z4E Res rProg wsF Z0y Z0X en_of)
theorem Z5Y{x:Z0}{ws:List Z0}{b:Bool}(c:Cut x ws)(h:Z4E ws=if b=true then 1 else 0):Says x (b=false) λ _=>True:=by
 refine⟨_,c,?_⟩;cases b with
 |false=>exact .inl ⟨rfl,RR.tells_bad h⟩
 |true=>
  obtain⟨p,n,e⟩:=RR.tells_ok h;exact .inr ⟨(λ z=>by cases z),p,n,e,trivial⟩
noncomputable def chkT(x:Z0)(b:Bool):Bool:=match wsF 3000 (cds x)with
 |some tx=>decide (x.length<=6000)&&decide (Z4E (tx.map λ l=>(⟨l.toArray⟩:Z0))=if b=true then 1 else 0)
 |none=>false
theorem Z2y{x:Z0}{b:Bool}(h:chkT x b=true):Says x (b=false) λ _=>True:=by
 unfold chkT at h;split at h
 ·rename_i tx e;rw[qc5,decide_eq_true_eq,decide_eq_true_eq]at h;obtain⟨l,h⟩:=h;obtain⟨a,d⟩:=K10.cut_few _ _ _ _ (qa0 _) (RR.ws_of _ _ _ e 0);rw[K10.cds_len]at a d;refine Z5Y ⟨l,⟨_,RR.ws_of _ _ _ e 0,rfl⟩,by rw[qb0];exact qa1 a l,λ w hw=>?_⟩ h;obtain⟨z,hz,rfl⟩:=qf9.mp hw;exact qa1 (d z hz) l
 ·cases h
noncomputable def c0(k:Int):Z0:=Txt.mul "house h { } " k++"main ( ) truth = yes"
theorem k0:∀k:Fin 15,chkT (c0 k.val) (decide ((k.val:Int)<=12))=true:=by decide+kernel
noncomputable def c1(k:Int):Z0:=("house h of g { ":Z0)++Txt.mul "has f h " k++"} main ( ) h = a"
theorem k1:∀k:Fin 7,chkT (c1 k.val) (decide ((k.val:Int)<=4))=true:=by decide+kernel
noncomputable def c3(k:Int):Z0:=("main ( ":Z0)++jn "a number" (2+k)++" ) number = 1"
theorem k3:∀k:Fin 5,chkT (c3 k.val) (decide (2+(k.val:Int)<=4))=true:=by decide+kernel
noncomputable def c4(k:Int):Z0:=("house h { can w ( ":Z0)++jn "a number" (2+k)++" ) h = self } main ( ) h = a"
theorem k4:∀k:Fin 5,chkT (c4 k.val) (decide (2+(k.val:Int)<=4))=true:=by decide+kernel
noncomputable def c5(x:Z0)(k:Int):Z0:=("main ( ) number = ":Z0)++x++" ( "++jn "1" (6+k)++" )"
theorem k5:∀k:Fin 5,(chkT (c5 "new h" k.val) (decide (6+(k.val:Int)<=8))&&(chkT (c5 "a . w" k.val) (decide (6+(k.val:Int)<=8))&&chkT (c5 "elder . w" k.val) (decide (6+(k.val:Int)<=8))))=true:=by decide+kernel
theorem En.app{a b b':Z0}(h:En b b'):En (a++b) (a++b'):=by
 unfold RR.En;rw[K10.cds_app,K10.cds_app,h,qa8]
def wdW:List Z0:=["can","w","(",")","number","=","1"]
noncomputable def c2(k:Int):Z0:=("house h { ":Z0)++Txt.mul "can w ( ) number = 1 " k++"} main ( ) number = 1"
def w2(n:Nat):List Z0:=(["house","h","{"]:List Z0)++(rp n wdW++(["}","main","(",")","number","=","1"]:List Z0))
theorem wwC2(k:Int):WW (c2 k) (w2 k.toNat):=by
 have h:WW (("house h { ":Z0)++(Txt.mul "can w ( ) number = 1 " k++"} main ( ) number = 1")) (w2 k.toNat):=WW.appG (a':="house h {") (Z0y 30 qP) (en_of qP) (WW.mulG (p':="can w ( ) number = 1") (Z0y 40 qP) (en_of qP) (Z0y 40 qP) k);unfold WW at h ⊢;unfold c2;rw[K10.cds_app,K10.cds_app]at h;rw[K10.cds_app,K10.cds_app,qa8];exact h
theorem k2:∀k:Fin 5,Z4E (w2 (6+k.val))=if(decide (6+(k.val:Int)<=8))=true then 1 else 0:=by decide+kernel
def lwW:List Z0:=wdW++rp 13 (["+","1"]:List Z0)
theorem lw_ww:WW longW lwW:=WW.app (Z0y (x:=" can w ( ) number = 1") 40 qP) ((Z0y (x:=" + 1") (ws:=["+","1"]) 10 qP).mul (Z0X (x:=" + 1") (y:="+ 1") qP) 13) ((Z0X (x:=" + 1") (y:="+ 1") qP).mul _)
theorem lw_bl:Bl longW:=(Z0X (x:=" can w ( ) number = 1") (y:="can w ( ) number = 1") qP).app ((Z0X (x:=" + 1") (y:="+ 1") qP).mul _)
noncomputable def m0(k:Int):Z0:=((((("house g {":Z0)++Txt.mul longW 8)++" } house h {")++Txt.mul longW 6)++" can v ( ) number = 1 + 1 + 1 + 1 + 1 }")++" main ( ) number = 1"++Txt.mul " . f" (k-1)
def mW(n:Nat):List Z0:=(((((((["house","g","{"]:List Z0)++rp 8 lwW)++(["}","house","h","{"]:List Z0))++rp 6 lwW)++(["can","v","(",")","number","=","1","+","1","+","1","+","1","+","1","}"]:List Z0))++(["main","(",")","number","=","1"]:List Z0))++rp n ([".","f"]:List Z0))
theorem wwM(k:Int):WW (m0 k) (mW (k-1).toNat):=
 ((((((Z0y (x:="house g {") 20 qP).app (lw_ww.mul lw_bl 8) (lw_bl.mul 8)).app (Z0y (x:=" } house h {") 20 qP) (Z0X (y:="} house h {") qP)).app (lw_ww.mul lw_bl 6) (lw_bl.mul 6)).app (Z0y (x:=" can v ( ) number = 1 + 1 + 1 + 1 + 1 }") 60 qP) (Z0X (y:="can v ( ) number = 1 + 1 + 1 + 1 + 1 }") qP)).app (Z0y (x:=" main ( ) number = 1") 60 qP) (Z0X (y:="main ( ) number = 1") qP)).app ((Z0y (x:=" . f") (ws:=[".","f"]) 10 qP).mul (Z0X (x:=" . f") (y:=". f") qP) (k-1)) ((Z0X (x:=" . f") (y:=". f") qP).mul _)
theorem k6:∀k:Fin 6,Z4E (mW (10+k.val))=if(decide (387+(11+(k.val:Int))<=400))=true then 1 else 0:=by decide+kernel
def swW:List Z0:=["(","self",".","w","(","(","1",")",")",")"]
noncomputable def rH(a:Int):Z0:=(("house h { can w ( a number ) number = ":Z0)++(("( self . w ( ( 1 ) ) )":Z0)++Txt.mul " ; ( self . w ( ( 1 ) ) )" a))
noncomputable def r0(a b:Int):Z0:=Txt.mul (rH a++" } ") b++"main ( ) number = ( 1 )"
def rHW(a:Nat):List Z0:=((["house","h","{","can","w","(","a","number",")","number","="]:List Z0)++(swW++rp a ((";":Z0)::swW)))++(["}"]:List Z0)
def rowW(a b:Nat):List Z0:=rp b (rHW a)++(["main","(",")","number","=","(","1",")"]:List Z0)
theorem wwR(a b:Int):WW (r0 a b) (rowW a.toNat b.toNat):=by
 have s:WW " ; ( self . w ( ( 1 ) ) )" ((";":Z0)::swW):=Z0y 60 qP;have sb:Bl " ; ( self . w ( ( 1 ) ) )":=Z0X (y:="; ( self . w ( ( 1 ) ) )") qP;have h:WW (rH a) _:=WW.appG (a':="house h { can w ( a number ) number =") (Z0y (ws:=["house","h","{","can","w","(","a","number",")","number","="]) 60 qP) (en_of qP) ((Z0y (x:="( self . w ( ( 1 ) ) )") (ws:=swW) 60 qP).app (s.mul sb a) (sb.mul a));exact WW.mulG (p':=rH a++" }") (h.app (Z0y (x:=" }") (ws:=["}"]) 10 qP) (Z0X (y:="}") qP)) (En.app (en_of qP)) (Z0y (x:="main ( ) number = ( 1 )") 40 qP) b
theorem k7:∀(a:Fin 10)(b:Fin 7),Z4E (rowW a.val b.val)=if true=true then 1 else 0:=by decide+kernel
theorem J5d(a b:Int)(ha:a.toNat<10)(hb:b.toNat<7):(r0 a b).length<=6000:=by
 unfold r0 rH;rw[Z0j,Z0q,Z0j,Z0j,Z0j,Z0q];have e1:("house h { can w ( a number ) number = ":Z0).length=38:=by decide+kernel
 have e2:("( self . w ( ( 1 ) ) )":Z0).length=22:=by decide+kernel
 have e3:(" ; ( self . w ( ( 1 ) ) )":Z0).length=25:=by decide+kernel
 have e4:(" } ":Z0).length=3:=by decide+kernel
 have e5:("main ( ) number = ( 1 )":Z0).length=23:=by decide+kernel
 rw[e1,e2,e3,e4,e5];have h:=qg6 (show b.toNat<=6 by lia) (show 38+(22+a.toNat*25)+3<=288 by lia);lia
theorem J6q(k:Int)(hk:(k-1).toNat<17):(m0 k).length<=6000:=by
 unfold m0;rw[Z0j,Z0j,Z0j,Z0j,Z0j,Z0j,Z0q,Z0q,Z0q,Z3q];have e1:("house g {":Z0).length=9:=by decide+kernel
 have e2:(" } house h {":Z0).length=12:=by decide+kernel
 have e3:(" can v ( ) number = 1 + 1 + 1 + 1 + 1 }":Z0).length=39:=by decide+kernel
 have e4:(" main ( ) number = 1":Z0).length=20:=by decide+kernel
 have e5:(" . f":Z0).length=4:=by decide+kernel
 rw[e1,e2,e3,e4,e5];show 9+8*73+12+6*73+39+20+_<=_;lia
theorem J5h(k:Int)(hk:k.toNat<11):(c2 k).length<=6000:=by
 unfold c2;rw[Z0j,Z0j,Z0q];have e1:("house h { ":Z0).length=10:=by decide+kernel
 have e2:("can w ( ) number = 1 ":Z0).length=21:=by decide+kernel
 have e3:("} main ( ) number = 1":Z0).length=21:=by decide+kernel
 rw[e1,e2,e3];lia
theorem Z5h{n:Nat}{k:Int}(h0:0<=k)(h1:k<n):∃i:Fin n,k=i.val:=⟨⟨k.toNat,qR⟩,by show k=((k.toNat:Nat):Int);lia⟩
theorem J4t(c:Int):Says (rT c) False λ _=>True:=by
 have a0:=qb7 c (show(10:Int)≠0 by decide);have a1:=qb8 c (show(0:Int)<10 by decide);have b0:=qb7 (c/10) (show(7:Int)≠0 by decide);have b1:=qb8 (c/10) (show(0:Int)<7 by decide);obtain⟨a,ea⟩:=Z5h (n:=10) a0 a1;obtain⟨b,eb⟩:=Z5h (n:=7) b0 b1;have h:Says (r0 (c%10) (c/10%7)) (true=false) λ _=>True:=by
  rw[ea,eb];exact Z5Y (Z7T (wwR _ _) (J5d _ _ a.isLt b.isLt)) (k7 a b)
 exact Z4b h ⟨(λ z=>by cases z),(λ z=>z.elim)⟩
theorem J2K(c:Int):∃i:Fin 6,Z3A c=11+((i.val:Nat):Int):=by
 have a0:=qb7 c (show(6:Int)≠0 by decide);have a1:=qb8 c (show(0:Int)<6 by decide);unfold Z3A Z2m;split
 ·obtain⟨i,e⟩:=Z5h (n:=6) a0 a1;exact⟨i,by rw[e]⟩
 split
 ·exact⟨2,rfl⟩
 ·exact⟨3,rfl⟩
theorem J2l(c:Int):Says (mT c) (¬387+Z3A c<=400) λ _=>True:=by
 obtain⟨i,e⟩:=J2K c;show Says (m0 (Z3A c)) _ _;rw[e];have h:=i.isLt;have w:=wwM (11+((i.val:Nat):Int));rw[show(11+((i.val:Nat):Int)-1).toNat=10+i.val by omega]at w;exact Z4b (Z5Y (Z7T w (J6q _ (by omega))) (k6 i)) decide_eq_false_iff_not
theorem J1I(wy c:Int)(h0:0<=wy)(h1:wy<=4):Says (cT wy c).1 ((cT wy c).2=false) λ _=>True:=by
 have a0:=qb7 c (show(5:Int)≠0 by decide);have a1:=qb8 c (show(0:Int)<5 by decide);obtain⟨i,e⟩:=Z5h (n:=5) a0 a1;have:wy=0\/wy=1\/wy=2\/wy=3\/wy=4:=by lia
 rcases this with rfl|rfl|rfl|rfl|rfl
 ·show Says (c0 (Z2m (c/15) (c%15) 12 13)) (decide (Z2m (c/15) (c%15) 12 13<=12)=false) _;have b0:=qb7 c (show(15:Int)≠0 by decide);have b1:=qb8 c (show(0:Int)<15 by decide);have:∃j:Fin 15,Z2m (c/15) (c%15) 12 13=((j.val:Nat):Int):=by
   unfold Z2m;split
   ·exact Z5h b0 b1
   split
   ·exact⟨12,rfl⟩
   ·exact⟨13,rfl⟩
  obtain⟨j,ej⟩:=this;rw[ej];exact Z2y (k0 j)
 ·show Says (c1 (c%7)) (decide (c%7<=4)=false) _;have b0:=qb7 c (show(7:Int)≠0 by decide);have b1:=qb8 c (show(0:Int)<7 by decide);obtain⟨j,ej⟩:=Z5h (n:=7) b0 b1;rw[ej];exact Z2y (k1 j)
 ·show Says (c2 (6+c%5)) (decide (6+c%5<=8)=false) _;rw[e];have h:=i.isLt;have w:=wwC2 (6+((i.val:Nat):Int));rw[show(6+((i.val:Nat):Int)).toNat=6+i.val by omega]at w;exact Z5Y (Z7T w (J5h _ qR)) (k2 i)
 ·show Says (if c/5%2=0 then(c3 (c%5),decide (2+c%5<=4))else(c4 (c%5),decide (2+c%5<=4))).1 ((if c/5%2=0 then(c3 (c%5),decide (2+c%5<=4))else(c4 (c%5),decide (2+c%5<=4))).2=false) _;rw[e];split
  ·exact Z2y (k3 i)
  ·exact Z2y (k4 i)
 ·show Says (c5 (Z7j (c/5)) (c%5)) (decide (6+c%5<=8)=false) _;rw[e];have h:=k5 i;rw[qc5,qc5]at h;unfold Z7j;split
  ·exact Z2y h.1
  split
  ·exact Z2y h.2.1
  ·exact Z2y h.2.2
theorem plain:J6s:=⟨J2x,J4t,J2l,J1I⟩
end K13
end
section
open PySem L2 TM WK
section
namespace K13
open PySem L2 TM WK
open P15 (Lb Fm Tm dats Z1m okF Ok maxD sumS flatR Bld)
open PW (Wd Hs Pg IxAt Look Z1w Z1G Flds Z1U)
seal L2.PE L2.PA L2.PT L2.PS L2.PSs L2.PG L2.PGs L2.PI L2.PW
open RR (Res rProg bodies)
inductive J3m(tb:t0)(K:y0)(vs:List V)(H:Hp)(Q:VK):Prop
 |mk(a:t0)(ns:List Int)(a1:vs=[.ref a])(a2:SqL K H a (ns.map V.int))(a3:ns.length<=63)(a4:H tb=some (.tbl #[]))(a5:∀H',Q (.bl true) H'):J3m tb K vs H Q
def sp_law(tb:t0)(K:y0):Sp:=λ vs H Q _=>J3m tb K vs H Q
theorem sp_law_ok{tb:t0}{K:y0}{H:Hp}{a:t0}{ns:List Int}(hl:ns.length<=63)(ht:H tb=some (.tbl #[]))(hS:SqL K H a (ns.map V.int)):sp_law tb K [.ref a] H (λ v _=>v=.bl true) λ _ _ _=>False:=⟨a,ns,rfl,hS,hl,ht,λ _=>rfl⟩
structure Ex(K:y0)(mg:Z0->Option q0)(aF aP Hc B' fi c:t0):Prop where
 mF:mg "BadForm"=some (.ref aF)
 mP:mg "Program"=some (.ref aP)
 D:K10.Bad K mg Hc B' fi
 I:∃di,Fun K "__init__" "BadWords.__init__" K10.sInit fi di
 X:Exc K mg Hc aF
 F:FnC K mg "read_terms" Z0E c
 N:J5T K aP
theorem ex_mk{K:y0}{mg:Z0->Option q0}{h:V0}{aF aP Hc B' fi c aN aK aI rt:t0}{oc oc' kV dc pm ct cd' kV' dc' pm' ct':q0}{od od' an an':Option t0}{sl sl':Array (Option q0)}(X:K.In h)(G:h.Ns mainGlobals mg)(aF0:W.nsIn K mainGlobals "BadForm"=some (some (.ref aF)))(aP0:W.nsIn K mainGlobals "Program"=some (some (.ref aP)))(aH:W.nsIn K mainGlobals "HouseError"=some (some (.ref Hc)))(aB:W.nsIn K mainGlobals "BadWords"=some (some (.ref B')))(aNa:W.nsIn K mainGlobals "BadName"=some (some (.ref aN)))(aKi:W.nsIn K mainGlobals "BadKind"=some (some (.ref aK)))(aIn:W.nsIn K mainGlobals "BadInput"=some (some (.ref aI)))(aR:W.nsIn K mainGlobals "read_terms"=some (some (.ref rt)))(lR:K.lookup rt=some ⟨oc,od,.func (W.fnOf "read_terms" "read_terms" (Z0Q Z0E) (Z0B Z0E) (Z0e Z0E) .none kV dc pm an (.ref c) ct),sl⟩)(cR:W.codeIn K (.ref c) "read_terms"=true)(kR:W.keepIn K (.ref rt)=true)(fI:W.findIn K (.ref B') "__init__"=some (some (.ref fi)))(lI:K.lookup fi=some ⟨oc',od',.func (W.fnOf "__init__" "BadWords.__init__" (Z0Q K10.sInit) (Z0B K10.sInit) (Z0e K10.sInit) .none kV' dc' pm' an' cd' ct'),sl'⟩)(cI:W.codeIn K cd' "BadWords.__init__"=true)(kI:W.keepIn K (.ref fi)=true)(iI:W.isFn K (.ref fi)=true)(z1:W.nsIn K mainGlobals "isinstance"=some none)(z2:W.nsIn K mainGlobals "str"=some none)(z3:W.nsIn K mainGlobals "ValueError"=some none)(s1:W.specialIn K (.ref Hc) "__getattribute__"=some (some (.builtin "type.__getattribute__")))(s2:W.readsIn K Hc (.type "type")=true)(s3:W.findCls K (.ref Hc) (.type "type") "__init__"=some (.val (.builtin "ValueError.__init__")))(xH:xIn K Hc none=true)(xB:xIn K B' (some fi)=true)(xF:xIn K aF none=true)(q1:W.findIn K (.ref B') "__setattr__"=some (some (.builtin "object.__setattr__")))(q2:W.valueOver K B'=true)(q3:W.hasDictIn K B'=true)(q4:W.findIn K (.ref B') "__getattribute__"=some (some (.builtin "BaseException.__getattribute__")))(q5:W.findIn K (.ref B') "__getattr__"=some none)(q6:W.mroIn K B' (.type "BaseException")=some true)(q7:W.findIn K (.ref B') "__class__"=some (some (.builtin "object.__class__")))(q8:W.specialIn K (.builtin "object.__class__") "__get__"=some (some (.builtin "getset_descriptor.__get__")))(q9:W.takesIn K (.builtin "object.__class__")=some true)(q10:W.mroIn K B' (.type "object")=some true)(no:W.findIn K (.ref B') "at"=some none)(kB:W.keepIn K (.ref B')=true)(sub:W.mroIn K B' (.ref Hc)=some true)(p1:W.findIn K (.ref aF) "__setattr__"=some (some (.builtin "object.__setattr__")))(p2:W.valueOver K aF=true)(p3:W.hasDictIn K aF=true)(p4:W.findIn K (.ref aF) "__getattribute__"=some (some (.builtin "BaseException.__getattribute__")))(p5:W.findIn K (.ref aF) "__getattr__"=some none)(p6:W.mroIn K aF (.type "BaseException")=some true)(p7:W.findIn K (.ref aF) "__class__"=some (some (.builtin "object.__class__")))(p10:W.mroIn K aF (.type "object")=some true)(subF:W.mroIn K aF (.ref Hc)=some true)(kF:W.kitOne K (.ref aF) (.ref B')=some false)(kN:W.kitOne K (.ref aF) (.ref aN)=some false)(kK:W.kitOne K (.ref aF) (.ref aK)=some false)(kIn:W.kitOne K (.ref aF) (.ref aI)=some false)(kV0:W.kitOne K (.ref aF) (.type "ValueError")=some true)(n1:W.findIn K (.ref aP) "__class__"=some (some (.builtin "object.__class__")))(n2:W.mroIn K aP (.type "object")=some true)(n3:W.kitOne K (.ref aP) (.type "int")=some false):Ex K mg aF aP Hc B' fi c:=
  ⟨W.mg_of X G aF0,W.mg_of X G aP0,⟨W.mg_of X G aH,W.mg_of X G aB,⟨s1,s2,s3⟩,xH,xB,⟨q1,q2,q3,q4,q5,q6,q7,q8,q9,q10⟩,no,kB,iI,sub,W.mg_none_of X G z1,W.mg_none_of X G z2⟩,⟨_,Z8r lI cI kI⟩,⟨W.mg_of X G aH,xH,⟨p1,p2,p3,p4,p5,p6,p7,q8,q9,p10⟩,xF,subF,⟨_,W.mg_of X G aB,kF⟩,⟨_,W.mg_of X G aNa,kN⟩,⟨_,W.mg_of X G aKi,kK⟩,⟨_,W.mg_of X G aIn,kIn⟩,W.mg_none_of X G z3,kV0⟩,⟨rt,oc,od,kV,dc,pm,an,ct,sl,lR,cR,kR,W.mg_of X G aR⟩,⟨n1,q8,q9,n2,n3⟩⟩
theorem ok_law(T:Txt P w K mg C_Guest Ct Cw Ch Cp C_BadForm D_STRENGTHS D_TRUTHS U_TOLD_WORDS){aF aP Hc B' fi c:t0}(E:Ex K mg aF aP Hc B' fi c)(hC:CodeHdK K c C_tb)(hK:K.In base)(hB:BAt mg base){f:t0}{fd:FuncData}(F:Fun K "law" "law" Z9t f fd):FnOk P w K mg base CX0 149 f fd ["_law_script"] (sp_law C_tb K):=by
 obtain⟨mF,mP,D,⟨di,I⟩,X,FC,NI⟩:=E;cases T.x_BadForm.mgC.symm.trans mF;cases T.Program.mgC.symm.trans mP;have gi:=J2z (P:=P) (w:=w) (base:=base) (C_tb:=C_tb) (LP:=⟨273,29,273,79⟩) (LQ:=(("read_terms":Z0)++".<locals>.")++"<lambda>") T;have ga:=Z3m (P:=P) (w:=w) (base:=base) (C_tb:=C_tb) (LP:=⟨273,29,273,79⟩) (LQ:=(("read_terms":Z0)++".<locals>.")++"<lambda>") T;have gt:=Z8R T ga;have gs:=Z3u T ga;have gn:=Z5z T gs;have nm:=λ base=>J0W (P:=P) (w:=w) (base:=base) T;have gm:=Z7c T ga gt (nm base);have ge:=J0K T ga;have rk:=J2M T gs gm;have rp:=J2s T gm rk;have nf:=J0U (P:=P) (w:=w) (base:=base) T;have rt:=(Z9I T FC hC rfl rfl (λ base=>J2e T) nm 17 base hK hB).1;have rl:=Z8I (j:=5) T qS gn gs;have po:=J2h (P:=P) (w:=w) (base:=base) T;have rw':=J2P T hK rp rl nf rk gn rt (J2f (B:=λ _=>none) T po);have rh:=J0Z T gm gs gn rp nf rw' (J2I T po);have bo:=J1A (P:=P) (w:=w) (base:=base) (B:=λ _=>none) T;have td:=Z7d (P:=P) (w:=w) (base:=base) T;have ts:=Z8O (P:=P) (w:=w) (base:=base) T;have nb:=Z9b T bo td ts;have wd:=J0N T D (K10.ok_init (P:=P) (w:=w) (base:=base) I D) (I.binds λ _ _ _ _ _ _ us hl=>match us,hl with|[_,_],_=>rfl);have rr:=J1P T wd (J2F T) gi gs rh nf gn rw' ge (J3b T) nb;refine(J2b T plain NI (J0B T) (J4l T) (J3U T) (J5U T) (Z9j T) (J1B T X rr) bo td ts F).imp λ vs H Q E h=>?_;obtain⟨a,ns,rfl,h1,h2,h3,h4⟩:=h;exact⟨a,ns,rfl,h1,h2,.inl h3,h4⟩
end K13
end
end
section
namespace K13
open PySem L2
theorem kbT:∀P,(KB P).lookup 438=none:=λ _=>by kernel_rfl
theorem kbC:∀P,L2.CodeHdK (KB P) 442 438:=λ _=>⟨none,#[(.str "read_terms" 823),(.str "read_terms" 824),(.str "/claim/cut.py" 825),(.int (272) 0),(.int (2) 0),(.int (0) 0),(.int (0) 0),(.int (3) 0),(.ref 437),(.bool true),(.int (181) 0),(.ref 438),.none,(.ref 439),(.ref 440),(.ref 441),(.int (830) 0),(.int (272) 0),(.str "/claim/cut.py" 831)],#[],"/claim/cut.py",831,3,0,true,181,0,by kernel_rfl,rfl,rfl,rfl,rfl,rfl,rfl,qQ⟩
end K13
end
open PySem PySem.W PyProof.Rows
set_option maxRecDepth 100000 in
set_option maxHeartbeats 0 in
theorem PySem.Challenge.cw_elderhouse_k13_bounds_holds : PySem.Challenge.rw_elderhouse_k13_bounds.Holds := by
 w_on
 refine holds_law K13.ws0 λ said=>?_
 refine holds_open (q:=K13.qv) (loose:=["TRUTHS","STRENGTHS"]) (Xt:=λ s=>xlAt K13.qv [] s&&recOk (RowW.records K13.rv) s) (XP:=XL K13.qv []) (Yf:=Hook.obs (kHook K13.KK K13.KA K13.ka_eq)) (Ya:=Hook.val (kHook K13.KK K13.KA K13.ka_eq)) (YP:=Hook.says (kHook K13.KK K13.KA K13.ka_eq)) (N:=8878) K13.left (Hook.of (kHook K13.KK K13.KA K13.ka_eq)) (Hook.keeps (kHook K13.KK K13.KA K13.ka_eq)) (λ s e=>xl_of s (qj2.mp e).1) XL.keeps (by rfl) (by rfl) (by rfl) (λ s e=>recFacts_of (qj2.mp e).2) (by rfl) said qP ⟨rfl,rfl,rfl,rfl,rfl,qP⟩ ?hw ?hc
 case hw=>w_witness2
 refine L2.J1O (l:=rw0) (n:=63) (k:=149) (x:="_law_script") (c:=442) (T0:=438) (K:=K13.KB) (CX:=λ _=>L2.CX0) (sp:=λ w=>K13.sp_law 438 (K13.KB w.params)) rfl qQ rfl ⟨rfl,qQ,qQ,rfl⟩ (λ w h Y=>L2.J3V (W.kIn_of Y) (K13.kbT w.params)) (λ w=>K13.kbT w.params) (λ w=>K13.kbC w.params) ?F ?S (λ _ _ _ _ _ z=>z)
 case F=>
  intro w mg fa h KX G hmg
  k_fill
  have T:∃C_Guest Ct Cw Ch Cp C_BadForm D_STRENGTHS D_TRUTHS U_TOLD_WORDS,K13.Txt (rw0.prog) w (L2.KOf KX) mg C_Guest Ct Cw Ch Cp C_BadForm D_STRENGTHS D_TRUTHS U_TOLD_WORDS:=by
   dsimp only[L2.KOf]
   refine' ⟨_,_,_,_,_,_,_,_,_,K13.Txt.mk (W.mg_none_of KX G ?x0) (W.mg_none_of KX G ?x1) (W.mg_none_of KX G ?x2) (W.mg_none_of KX G ?x3) (W.mg_none_of KX G ?x4) (W.mg_none_of KX G ?x5) (W.mg_none_of KX G ?x6) (W.mg_none_of KX G ?x7) (W.mg_none_of KX G ?x8) (W.mg_none_of KX G ?x9) (W.mg_none_of KX G ?x10) (L2.Z1v KX G ?x11) (L2.Z4r KX G ?x12) (L2.Z4r KX G ?x13) (L2.Z4r KX G ?x14) (L2.Z1v KX G ?x15) (L2.Z1v KX G ?x16) (L2.Z1v KX G ?x17) (L2.Z1v KX G ?x18) (L2.Z1v KX G ?x19) (L2.Z1v KX G ?x20) (L2.Z1v KX G ?x21) (L2.Z1v KX G ?x22) (L2.Z1v KX G ?x23) (L2.Z1v KX G ?x24) (L2.Z1v KX G ?x25) (L2.Z4r KX G ?x26) (L2.Z4r KX G ?x27) (L2.Z1v KX G ?x28) (L2.Z7y KX G ?x29) (L2.Z8p ?x30 ?x31 ?x32 ?x33 qQ ?x34) (L2.Z7y KX G ?x35) (L2.Z8p ?x36 ?x37 ?x38 ?x39 qQ ?x40) (L2.Z7y KX G ?x41) (L2.J4s ?x42 ?x43 ?x44 ?sz_TOLD_WORDS ?x45) (L2.Z1b KX G ?x46 ?x47 ?x48 ?x49) (L2.Z1b KX G ?x50 ?x51 ?x52 ?x53) (L2.Z1b KX G ?x54 ?x55 ?x56 ?x57) (L2.Z1b KX G ?x58 ?x59 ?x60 ?x61) (L2.Z1b KX G ?x62 ?x63 ?x64 ?x65) (L2.Z1b KX G ?x66 ?x67 ?x68 ?x69) (L2.Z1b KX G ?x70 ?x71 ?x72 ?x73) (L2.Z1b KX G ?x74 ?x75 ?x76 ?x77) (L2.Z1b KX G ?x78 ?x79 ?x80 ?x81) (L2.Z1b KX G ?x82 ?x83 ?x84 ?x85) (L2.Z1b KX G ?x86 ?x87 ?x88 ?x89) (L2.Z1b KX G ?x90 ?x91 ?x92 ?x93) (L2.Z1b KX G ?x94 ?x95 ?x96 ?x97) (L2.Z1b KX G ?x98 ?x99 ?x100 ?x101) (L2.Z1b KX G ?x102 ?x103 ?x104 ?x105) (L2.Z1b KX G ?x106 ?x107 ?x108 ?x109) (L2.Z1b KX G ?x110 ?x111 ?x112 ?x113) (L2.Z1b KX G ?x114 ?x115 ?x116 ?x117) (L2.Z1b KX G ?x118 ?x119 ?x120 ?x121) (L2.Z1b KX G ?x122 ?x123 ?x124 ?x125) (L2.Z1b KX G ?x126 ?x127 ?x128 ?x129) (L2.Z1b KX G ?x130 ?x131 ?x132 ?x133) (L2.Z1b KX G ?x134 ?x135 ?x136 ?x137) (L2.Z1b KX G ?x138 ?x139 ?x140 ?x141) (L2.Z1b KX G ?x142 ?x143 ?x144 ?x145) (L2.Z1b KX G ?x146 ?x147 ?x148 ?x149) (L2.Z1b KX G ?x150 ?x151 ?x152 ?x153) (L2.Z1b KX G ?x154 ?x155 ?x156 ?x157) (L2.Z1b KX G ?x158 ?x159 ?x160 ?x161) (L2.Z1b KX G ?x162 ?x163 ?x164 ?x165) (L2.Z1b KX G ?x166 ?x167 ?x168 ?x169) (L2.Z1b KX G ?x170 ?x171 ?x172 ?x173) (L2.Z1b KX G ?x174 ?x175 ?x176 ?x177) (L2.Z1b KX G ?x178 ?x179 ?x180 ?x181) (L2.Z6z KX G ?x182 ?pg_Guest ?hd_Guest ?po_Guest ?sa_Guest ?mk_Guest ?kp_Guest) (L2.Z0z ?x183) (L2.Z0z ?x184) (L2.Z6z KX G ?x185 ?pg_Term ?hd_Term ?po_Term ?sa_Term ?mk_Term ?kp_Term) (L2.Z0z ?x186) (L2.Z0z ?x187) (L2.Z0z ?x188) (L2.Z0z ?x189) (L2.Z0z ?x190) (L2.Z0z ?x191) (L2.Z6z KX G ?x192 ?pg_Word ?hd_Word ?po_Word ?sa_Word ?mk_Word ?kp_Word) (L2.Z0z ?x193) (L2.Z0z ?x194) (L2.Z0z ?x195) (L2.Z0z ?x196) (L2.Z6z KX G ?x197 ?pg_House ?hd_House ?po_House ?sa_House ?mk_House ?kp_House) (L2.Z0z ?x198) (L2.Z0z ?x199) (L2.Z0z ?x200) (L2.Z0z ?x201) (L2.Z6z KX G ?x202 ?pg_Program ?hd_Program ?po_Program ?sa_Program ?mk_Program ?kp_Program) (L2.Z0z ?x203) (L2.Z0z ?x204) (L2.J5Q KX G ?x205 ?x206 ?kp_BadForm) (L2.Z1n ?x207 ?x208 ?x209 ?x210 ?x211) (L2.Z1n ?x212 ?x213 ?x214 ?x215 ?x216) (L2.Z1n ?x217 ?x218 ?x219 ?x220 ?x221) (L2.Z1n ?x222 ?x223 ?x224 ?x225 ?x226) (L2.Z1n ?x227 ?x228 ?x229 ?x230 ?x231) (L2.Z1n ?x232 ?x233 ?x234 ?x235 ?x236) (L2.Z1n ?x237 ?x238 ?x239 ?x240 ?x241) (L2.Z1n ?x242 ?x243 ?x244 ?x245 ?x246) (L2.Z1n ?x247 ?x248 ?x249 ?x250 ?x251) (L2.Z1n ?x252 ?x253 ?x254 ?x255 ?x256) (L2.Z1n ?x257 ?x258 ?x259 ?x260 ?x261) (L2.Z1n ?x262 ?x263 ?x264 ?x265 ?x266) (L2.Z1n ?x267 ?x268 ?x269 ?x270 ?x271) (L2.Z1n ?x272 ?x273 ?x274 ?x275 ?x276) (L2.Z1n ?x277 ?x278 ?x279 ?x280 ?x281) (L2.Z1n ?x282 ?x283 ?x284 ?x285 ?x286) (L2.Z1n ?x287 ?x288 ?x289 ?x290 ?x291) (L2.Z1n ?x292 ?x293 ?x294 ?x295 ?x296) (L2.Z1n ?x297 ?x298 ?x299 ?x300 ?x301) (L2.Z1n ?x302 ?x303 ?x304 ?x305 ?x306)⟩
   (case x0|x1|x2|x3|x4|x5|x6|x7|x8|x9|x10|x11|x12|x13|x14|x15|x16|x17|x18|x19|x20|x21|x22|x23|x24|x25|x26|x27|x28|x29|x30=>k_is);(case x31=>exact⟨rfl,rfl,rfl⟩);(case x32=>exact rfl);(case x33=>exact .cons rfl rfl ⟨_,rfl⟩ (.cons rfl rfl ⟨_,rfl⟩ (.cons rfl rfl ⟨_,rfl⟩ (.cons rfl rfl ⟨_,rfl⟩ (.cons rfl rfl ⟨_,rfl⟩ (.cons rfl rfl ⟨_,rfl⟩ (.cons rfl rfl ⟨_,rfl⟩ (.nil))))))));(case x34=>exact rfl);(case x35|x36=>k_is);(case x37=>exact⟨rfl,rfl,rfl⟩);(case x38=>exact rfl);(case x39=>exact .cons rfl rfl rfl (.cons rfl rfl rfl (.nil)));(case x40=>exact rfl);(case x41|x42=>k_is);(case x43=>first|exact rfl|exact⟨rfl,rfl⟩);(case x44=>exact rfl);(case sz_TOLD_WORDS=>decide);(case x45=>exact .cons ⟨_,rfl⟩ (.cons ⟨_,rfl⟩ (.cons ⟨_,rfl⟩ (.cons ⟨_,rfl⟩ (.cons ⟨_,rfl⟩ (.cons ⟨_,rfl⟩ (.cons ⟨_,rfl⟩ (.cons ⟨_,rfl⟩ (.cons ⟨_,rfl⟩ (.cons ⟨_,rfl⟩ (.cons ⟨_,rfl⟩ (.cons ⟨_,rfl⟩ (.cons ⟨_,rfl⟩ (.cons ⟨_,rfl⟩ (.cons ⟨_,rfl⟩ (.cons ⟨_,rfl⟩ (.cons ⟨_,rfl⟩ (.cons ⟨_,rfl⟩ (.cons ⟨_,rfl⟩ (.nil))))))))))))))))))));(case x46|x47|x48|x49|x50|x51|x52|x53|x54|x55|x56|x57|x58|x59|x60|x61|x62|x63|x64|x65|x66|x67|x68|x69|x70|x71|x72|x73|x74|x75|x76|x77|x78|x79|x80|x81|x82|x83|x84|x85|x86|x87|x88|x89|x90|x91|x92|x93|x94|x95|x96|x97|x98|x99|x100|x101|x102|x103|x104|x105|x106|x107|x108|x109|x110|x111|x112|x113|x114|x115|x116|x117|x118|x119|x120|x121|x122|x123|x124|x125|x126|x127|x128|x129|x130|x131|x132|x133|x134|x135|x136|x137|x138|x139|x140|x141|x142|x143|x144|x145|x146|x147|x148|x149|x150|x151|x152|x153|x154|x155|x156|x157|x158|x159|x160|x161|x162|x163|x164|x165|x166|x167|x168|x169|x170|x171|x172|x173|x174|x175|x176|x177|x178|x179|x180|x181|x182|pg_Guest|hd_Guest|po_Guest|sa_Guest|mk_Guest|kp_Guest|x183|x184|x185|pg_Term|hd_Term|po_Term|sa_Term|mk_Term|kp_Term|x186|x187|x188|x189|x190|x191|x192|pg_Word|hd_Word|po_Word|sa_Word|mk_Word|kp_Word|x193|x194|x195|x196|x197|pg_House|hd_House|po_House|sa_House|mk_House|kp_House|x198|x199|x200|x201|x202|pg_Program|hd_Program|po_Program|sa_Program|mk_Program|kp_Program|x203|x204|x205=>k_is);(case x206=>kernel_rfl);(case kp_BadForm|x207|x208|x209|x210|x211|x212|x213|x214|x215|x216|x217|x218|x219|x220|x221|x222|x223|x224|x225|x226|x227|x228|x229|x230|x231|x232|x233|x234|x235|x236|x237|x238|x239|x240|x241|x242|x243|x244|x245|x246|x247|x248|x249|x250|x251|x252|x253|x254|x255|x256|x257|x258|x259|x260|x261|x262|x263|x264|x265|x266|x267|x268|x269|x270|x271|x272|x273|x274|x275|x276|x277|x278|x279|x280|x281|x282|x283|x284|x285|x286|x287|x288|x289|x290|x291|x292|x293|x294|x295|x296|x297|x298|x299|x300|x301|x302|x303|x304|x305|x306=>k_is)
  obtain⟨C_Guest,Ct,Cw,Ch,Cp,C_BadForm,D_STRENGTHS,D_TRUTHS,U_TOLD_WORDS,T⟩:=T
  have E:∃aF aP Hc B' fi,K13.Ex (L2.KOf KX) mg aF aP Hc B' fi 442:=by
   dsimp only[L2.KOf]
   refine' ⟨_,_,_,_,_,K13.ex_mk KX G ?aF0 ?aP0 ?aH ?aB ?aNa ?aKi ?aIn ?aR ?lR ?cR ?kR ?fI ?lI ?cI ?kI ?iI ?z1 ?z2 ?z3 ?s1 ?s2 ?s3 ?xH ?xB ?xF ?q1 ?q2 ?q3 ?q4 ?q5 ?q6 ?q7 ?q8 ?q9 ?q10 ?no ?kB ?sub ?p1 ?p2 ?p3 ?p4 ?p5 ?p6 ?p7 ?p10 ?subF ?kF ?kN ?kK ?kIn ?kV0 ?n1 ?n2 ?n3⟩
   (case aF0|aP0|aH|aB|aNa|aKi|aIn|aR|lR|cR|kR|fI|lI|cI|kI|iI|z1|z2|z3|s1|s2|s3=>k_is);(case xH=>kernel_rfl);(case xB=>kernel_rfl);(case xF=>kernel_rfl);(case q1=>k_is);(case q2=>kernel_rfl);(case q3|q4|q5|q6|q7|q8|q9|q10|no|kB|sub|p1=>k_is);(case p2=>kernel_rfl);(case p3|p4|p5|p6|p7|p10|subF=>k_is);(case kF=>kernel_rfl);(case kN=>kernel_rfl);(case kK=>kernel_rfl);(case kIn=>kernel_rfl);(case kV0=>kernel_rfl);(case n1|n2=>k_is);(case n3=>kernel_rfl)
  obtain⟨aF,aP,Hc,B',fi,E⟩:=E
  exact L2.J1Z T.f_law hmg (λ _ _ _ _ _ _ _=>rfl) λ f fd base hK hB F=>K13.ok_law T E (K13.kbC _) hK hB F
 case S=>exact λ w H a ns hl ht hS=>K13.sp_law_ok hl ht hS
