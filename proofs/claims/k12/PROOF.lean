import PyProof.Rows.All
import Wide.All
import OpenK.AllK
import Wide.FinOn
import PySem.PyData
import OpenK.KMore
import OpenK.KMake
import OpenK.KDescr
import OpenK.KOwn
import KE.KIsAll
import KE.KItem
import KE.KxBytes
import PyProof.EqAt
import PyProof.EqKinds
import PyProof.TupleCall
import PyProof.ReprRoads
import PyProof.ReprLen
import PyProof.ListNew
import PyProof.WalksMore
import KE.KRevIter
import PyProof.ZipIter
import PyProof.SumWalkG
import PyProof.MinMaxWalk
import PyProof.WalkInts
import PyProof.SeqI3
import PyProof.Rows.CallKwBuiltin
import KE.KMinKey
import PyProof.AutoSeq1
import PyProof.ListMulRoad
import PyProof.FactsAll.tuple
import PyProof.Rows.SeqMore
import PyProof.CompUse
import KE.KDictOf
import PyProof.AttrMiss
import PyProof.FactsAll.zip_1
import PyProof.ListRange
import PyProof.Rows.ListRangeD
import KE.KLam
import KE.KSortTup
import PyProof.AttrMissHeap
import PyProof.DictIter
import PyProof.DictWalks
import PyProof.DictTruth
import KE.KDictSum
import PyProof.Rows.SortStr
import PyProof.Rows.SortWalk
import PyProof.DictUpdate
import KE.KUnpack
import PyProof.ExcClass3
import PyProof.StationsW
import PyProof.InstSpecial
import OpenK.KCls
import PyProof.ExcArgs
import KE.KIsNot
import PyProof.NsDelKeeps
import PyProof.StrLawsIdx
import PyProof.StrBlock2
import PyProof.StrBlockL
import PyProof.StrLawsJoin
import PyProof.StrLawsIn
import PyProof.Rows.StrCase
import PyProof.Rows.StrAscii
import KE.KIntText
import KE.IntTextLaws
import Lean
import PySem.Challenge.RW_elderhouse_k12_strengths
set_option Elab.async false
set_option linter.all false
set_option maxRecDepth 100000
set_option compiler.extract_closed false
set_option maxHeartbeats 4000000
open PySem.W renaming Frag→y0
open PySem renaming Addr→X0,Value→Z0,Shared→U0,Str→V0,World→M0,Heap→N0,Around→O0
open PySem.Challenge renaming pw_elderhouse_k12_strengths→pw0,rw_elderhouse_k12_strengths→rw0
open Nat renaming le_refl→qa0,le_trans→qa1,lt_of_lt_of_le→qb0,ne_of_lt→qb2,zero_le→qb4,lt_irrefl→qb8,lt_of_sub_eq_succ→qc1,lt_succ_self→qc9,ne_of_gt→qe4,le_of_not_lt→qe7,le_succ→qf1,le_of_eq→qg2,le_of_lt→qg6,lt_of_le_of_lt→qh6,lt_succ_of_lt→qh7,succ_le_succ→qi2
open List renaming mem_cons→qa2,length_map→qa3,length_cons→qa4,length_append→qa5,mem_cons_self→qa6,mem_singleton→qa7,mem_cons_of_mem→qa8,not_mem_nil→qa9,size_toArray→qb1,getElem?_eq_getElem→qb5,append_nil→qb6,getElem?_eq_some_iff→qb7,append_assoc→qb9,getElem?_map→qc0,lookup_cons→qc2,mem_append_right→qc3,map_cons→qc4,getD_eq_getElem?_getD→qc6,lookup→qc7,mem_map→qd0,map_map→qd1,length_nil→qd2,mem_append→qd4,cons_append→qd5,range→qd7,all_cons→qd8,takeWhile_cons→qd9,mem_of_getElem?→qe2,of_mem_zip→qe5,any_cons→qe6,map_append→qe8,length_pos_iff→qe9,length→qf2,length_drop→qf3,eq_nil_of_length_eq_zero→qf6,dropWhile_cons→qf7,mem_range→qf8,filterMap_cons→qf9,mem_append_left→qg0,drop_eq_getElem_cons→qg4,drop_eq_nil_of_le→qg5,getElem_mem→qg8,any_nil→qh1,nodup_cons→qh2,length_take→qh3,getElem?_append_right→qh4,getElem?_append_left→qh5,take_length→qh8,find?_cons→qh9,contains_cons→qi0,getElem?_eq_none→qi1,length_zip→qi4,nil_append→qi5,getElem_of_mem→qj2,takeWhile_sublist→qj4,dropLast_concat_getLast→qj5,flatMap_append→qj6,getElem?_drop→qj7
open Bool renaming false_ne_true→qb3,and_eq_true→qc5,or_eq_true_iff→qe3,or_false→qf4,or_true→qf5,eq_iff_iff→qg1,or_eq_true→qh0,and_eq_true_iff→qi3
open Option.some renaming inj→qc8
open Option renaming map_eq_some_iff→qd3,bind_some→qi7,isSome_iff_exists→qi8
open PySem.F renaming plainAttrs_list→qd6,slot_list_append→qe0,type_list_append→qe1,slot_tuple_add→qi9,entry_tuple_add→qj0,args_tuple_add_2→qj1,excBase_ValueError→qj3
open Classical renaming byContradiction→qf0
open Int renaming ofNat_lt→qg3,eq_ofNat_of_zero_le→qj8
open Array renaming length_toList→qg7,getElem?_eq_some_iff→qg9
open Nat.succ renaming inj→qi6
local macro_rules | `(tactic| walk_at "r") => do let f : String -> Lean.MacroM (Array (Lean.TSyntax ``Lean.Parser.Tactic.simpLemma)) := λ s => (do let v <-(s.splitOn " ").toArray.filterM λ n => do { let r <-Lean.Macro.resolveGlobalName n.toName; return !r.isEmpty }; v.mapM λ n => `(Lean.Parser.Tactic.simpLemma| $(Lean.mkIdent n.toName):term)); let a <-f "J7E J8H J7y J5J J7O J5H J7A J8o J5C J7t J6Y J8m J6P J7Q J7P J8n J8s J7T J8r J9G J9I J8Y J9e J8a J7B J8R J7w J9f J7x J8i J7K J8t J8l J7s J8X J7H J8D J8L J8O J8T J8P J9j J7G J7Z J7L J9n J9m J9z J9d J9D J9h J9s J7N J6q J8I J7I J7S J7W J7C J9g J5B J7X J9p J8z J7M J8c J8b J7Y J7D J9q J9r J5z J5D J8A J7V J6z J7u J7v J4R J7g J7z J7J J6r J7R J6x J8B J8j J8S J8Z List.getElem?_cons_zero List.getElem?_cons_succ List.set_cons_zero List.set_cons_succ Nat.reduceAdd Nat.reduceSub List.cons_append List.nil_append L2.Z3u List.map_cons List.map_nil List.length_cons List.length_nil List.replicate J9i J8v J5E J8G J5S"; let b <-f "J7U J7F exists_eq_left' exists_eq_left exists_and_left exists_eq_right exists_eq_right' V.int.injEq V.str.injEq V.bl.injEq V.ref.injEq Option.some.injEq List.cons.injEq and_true true_and decide_eq_true_eq Bool.not_eq_true' decide_eq_false_iff_not reduceCtorEq J9t J9K J9E J9A J9x J9w J9J J9C J9F J9v J9u J9y J9B J9H List.append_nil Nat.zero_add J4x J4e J5A J4y J4G ix0 ix1 exists_const if_true if_false ite_true ite_false Bool.false_eq_true decide_true decide_false Bool.not_true Bool.not_false Bool.true_eq_false CPow CDiv CMul J9a or_true true_or and_self and_assoc sizeLine_eq Nat.reduceLeDiff Nat.reduceLT Nat.reducePow Nat.reduceMul Int.reducePow Int.reduceLE Int.reduceLT Int.reduceToNat Int.reduceAbs Int.reduceNeg Int.reduceAdd Int.reduceSub Int.reduceMul ne_eq not_false_eq_true not_true_eq_false Int.zero_add"; `(tactic| ((try dsimp only [$a,*]); (try simp (config := { maxSteps := 10000000 }) only [$a,*,$b,*])))
theorem qP{p:Prop}(h:p:=by decide+kernel):p:=h
theorem qQ{p:Prop}(h:p:=by decide):p:=h
theorem qR{p:Prop}(h:p:=by lia):p:=h
theorem qS{p:Prop}(h:p:=by first|decide|lia):p:=h
section
namespace L2
open PySem
def Z0D(s:Stmt)(j:Nat):Stmt:=match s with
 | .ClassDef _ _ _ body _ _ _ _ _ _ _=>body.getD j (.Pass ⟨0,0,0,0⟩)
 |_=>.Pass ⟨0,0,0,0⟩
def Z0O(s:Stmt):Arguments:=match s with
 | .FunctionDef _ a _ _ _ _ _ _ _ _=>a
 |_=>{posonlyargs:=[],args:=[],vararg:=none,kwonlyargs:=[],kw_defaults:=[],kwarg:=none,defaults:=[]}
def Z0y(s:Stmt):List Stmt:=match s with
 | .FunctionDef _ _ b _ _ _ _ _ _ _=>b
 |_=>[]
def Z0d(s:Stmt):Scope:=match s with
 | .FunctionDef _ _ _ _ _ _ sc _ _ _=>sc
 |_=>{kind:=.function,names:=[],isGenerator:=false,isCoroutine:=false}
end L2
namespace K12
open PySem L2
section
local macro_rules | `(tactic| walk_at $k:str) => do let s := "__name__ elderhouse.errors HouseError ValueError BadWords __init__ BadForm elderhouse.words LONGEST_TEXT LONGEST_NUMBER LONGEST_NAME FIGURES 0123456789 SMALL_LETTERS abcdefghijklmnopqrstuvwxyz GREAT_LETTERS ABCDEFGHIJKLMNOPQRSTUVWXYZ GAPS SIGNS (){},.;=+-*/< TOLD_WORDS house of has can main let in if then else new self elder set not yes no number truth is_told is_name words word_at row_at is_row_sign is_number is_name_row elderhouse.guests TRUTHS Guest ahead behind take takes need need_name need_end elderhouse.terms Term plain parts depth size shape_of Word House Program bodies pairs_of elderhouse.reading MOST_HOUSES MOST_FIELDS MOST_WORDS MOST_PARAMS MOST_TERMS MOST_DEEP MOST_SIZE MOST_OPEN STRENGTHS ; < = + - * / WEAKEST ABOVE_WEAKEST read need_few_open need_few need_bounds read_house read_word read_pair read_kind read_list read_terms read_term read_part read_if read_let read_set read_pointed read_one law_elderhouse_k12_strengths _law_cell_at _law_mixed _law_thing _law_by _law_parted _law_folded _law_row _law_text _law_short _law_tail _law_last law"; let ns := (s.splitOn " ").toArray; let xs := (Array.range ns.size).map λ i => Lean.mkIdent (Lean.Name.mkSimple s!"x{i}"); let C <-ns.mapM λ n => do { let c : Array Lean.Term <-n.toList.toArray.mapM λ k => `(nat_lit $(Lean.Syntax.mkNumLit (toString k.toNat))); `(Str.mk (Array.mk [$c,*])) }; match k.getString with | "t1" => do { let r <-(ns.zip xs).mapM λ (n, x) => `(tactic| generalize Str.ofString $(Lean.Syntax.mkStrLit n) = $x); `(tactic| (($[$r]*); exact $(Lean.mkIdent `hR) $xs*)) } | "t2" => `(tactic| exact Subtype.val $(Lean.mkIdent `Fx) $C*) | "t3" => do { let E <-(ns.zip C).mapM λ (n, c) => do { let d : Array Lean.Term <-n.toList.toArray.mapM λ k => `(Char.ofNat (nat_lit $(Lean.Syntax.mkNumLit (toString k.toNat)))); `((W.Fast.ofString_ofList [$d,*] : Str.ofString $(Lean.Syntax.mkStrLit n) = $c)) }; let a <-E.toList.tail!.foldlM (λ a e => `(congr $a $e)) (<-`(congrArg (Subtype.val $(Lean.mkIdent `Fx)) $(E[0]!))); let L <-ns.mapM λ n => `(Str.ofString $(Lean.Syntax.mkStrLit n)); `(tactic| exact Eq.trans (b := Subtype.val $(Lean.mkIdent `Fx) $L*) rfl $a) } | _ => Lean.Macro.throwUnsupported
noncomputable def Fx:{F:V0->V0->V0->V0->V0->V0->V0->V0->V0->V0->V0->V0->V0->V0->V0->V0->V0->V0->V0->V0->V0->V0->V0->V0->V0->V0->V0->V0->V0->V0->V0->V0->V0->V0->V0->V0->V0->V0->V0->V0->V0->V0->V0->V0->V0->V0->V0->V0->V0->V0->V0->V0->V0->V0->V0->V0->V0->V0->V0->V0->V0->V0->V0->V0->V0->V0->V0->V0->V0->V0->V0->V0->V0->V0->V0->V0->V0->V0->V0->V0->V0->V0->V0->V0->V0->V0->V0->V0->V0->V0->V0->V0->V0->V0->V0->V0->V0->V0->V0->V0->V0->V0->V0->V0->V0->V0->V0->V0->V0->V0->V0->V0->V0->V0->V0->V0->V0->V0->V0->Program//∀R:Program->Prop,(∀x0 x1 x2 x3 x4 x5 x6 x7 x8 x9 x10 x11 x12 x13 x14 x15 x16 x17 x18 x19 x20 x21 x22 x23 x24 x25 x26 x27 x28 x29 x30 x31 x32 x33 x34 x35 x36 x37 x38 x39 x40 x41 x42 x43 x44 x45 x46 x47 x48 x49 x50 x51 x52 x53 x54 x55 x56 x57 x58 x59 x60 x61 x62 x63 x64 x65 x66 x67 x68 x69 x70 x71 x72 x73 x74 x75 x76 x77 x78 x79 x80 x81 x82 x83 x84 x85 x86 x87 x88 x89 x90 x91 x92 x93 x94 x95 x96 x97 x98 x99 x100 x101 x102 x103 x104 x105 x106 x107 x108 x109 x110 x111 x112 x113 x114 x115 x116 x117 x118:V0,R (F x0 x1 x2 x3 x4 x5 x6 x7 x8 x9 x10 x11 x12 x13 x14 x15 x16 x17 x18 x19 x20 x21 x22 x23 x24 x25 x26 x27 x28 x29 x30 x31 x32 x33 x34 x35 x36 x37 x38 x39 x40 x41 x42 x43 x44 x45 x46 x47 x48 x49 x50 x51 x52 x53 x54 x55 x56 x57 x58 x59 x60 x61 x62 x63 x64 x65 x66 x67 x68 x69 x70 x71 x72 x73 x74 x75 x76 x77 x78 x79 x80 x81 x82 x83 x84 x85 x86 x87 x88 x89 x90 x91 x92 x93 x94 x95 x96 x97 x98 x99 x100 x101 x102 x103 x104 x105 x106 x107 x108 x109 x110 x111 x112 x113 x114 x115 x116 x117 x118))->R pw0}:=by
 refine⟨?F,?h⟩
 case h=>
  intro R hR;delta pw0;walk_at "t1"
noncomputable def _root_.PySem.W.Fast.tw3245800599906686636:Program:=by
 walk_at "t2"
theorem _root_.PySem.W.Fast.te3245800599906686636:pw0=W.Fast.tw3245800599906686636:=by
 delta W.Fast.tw3245800599906686636;walk_at "t3"
end
def top(i:Nat):Stmt:=pw0.main.body.getD i (.Pass ⟨0,0,0,0⟩)
abbrev O0P:Stmt:=top 14
abbrev O0Q:Stmt:=top 15
abbrev O1h:Stmt:=top 16
abbrev O0R:Stmt:=top 17
abbrev O0Z:Stmt:=top 18
abbrev O0q:Stmt:=top 19
abbrev O0x:Stmt:=top 20
abbrev O0r:Stmt:=top 21
abbrev Z2P:Stmt:=top 27
abbrev Z2Q:Stmt:=top 31
abbrev Z8x:Stmt:=top 44
abbrev Z1p:Stmt:=top 45
abbrev Z2U:Stmt:=top 46
abbrev Z1L:Stmt:=top 47
abbrev Z2b:Stmt:=top 48
abbrev Z2p:Stmt:=top 49
abbrev Z2z:Stmt:=top 50
abbrev Z2r:Stmt:=top 51
abbrev Z2w:Stmt:=top 52
abbrev Z0B:Stmt:=top 53
abbrev Z2D:Stmt:=top 54
abbrev Z2C:Stmt:=top 55
abbrev Z3k:Stmt:=top 56
abbrev Z2R:Stmt:=top 57
abbrev Z2O:Stmt:=top 58
abbrev Z1A:Stmt:=top 59
abbrev Z2S:Stmt:=top 60
abbrev Z1z:Stmt:=top 62
abbrev Z1X:Stmt:=top 63
abbrev Z2d:Stmt:=top 64
abbrev Z3s:Stmt:=top 65
abbrev Z1J:Stmt:=top 66
abbrev Z1Q:Stmt:=top 67
abbrev Z2T:Stmt:=top 68
abbrev Z2s:Stmt:=top 69
abbrev Z2h:Stmt:=top 70
abbrev Z2t:Stmt:=top 71
abbrev Z2x:Stmt:=top 72
abbrev Z9n:Stmt:=top 73
abbrev Z1f:Stmt:=Z0D (top 24) 0
abbrev Z1N:Stmt:=Z0D (top 24) 1
abbrev Z1y:Stmt:=Z0D (top 24) 2
abbrev Z2j:Stmt:=Z0D (top 24) 3
abbrev Z1P:Stmt:=Z0D (top 24) 4
abbrev Z2f:Stmt:=Z0D (top 24) 5
abbrev Z0Z:Stmt:=Z0D (top 24) 6
abbrev Z1d:Stmt:=Z0D (top 24) 7
abbrev Z1k:Stmt:=Z0D (top 26) 0
abbrev Z2i:Stmt:=Z0D (top 26) 1
abbrev Z2g:Stmt:=Z0D (top 26) 2
abbrev Z2a:Stmt:=Z0D (top 26) 3
abbrev Z2y:Stmt:=Z0D (top 26) 4
abbrev Z1r:Stmt:=Z0D (top 28) 0
abbrev Z1Z:Stmt:=Z0D (top 28) 1
abbrev Z1e:Stmt:=Z0D (top 29) 0
abbrev Z1K:Stmt:=Z0D (top 29) 1
abbrev Z0U:Stmt:=Z0D (top 30) 0
abbrev Z1l:Stmt:=Z0D (top 30) 1
abbrev Z1g:Stmt:=Z0D (top 30) 2
noncomputable def rv:W.RowW:=W.OpenRow.toRowW (W.OpenLaw.row rw0)
noncomputable def qv:Program:={pw0 with main:={pw0.main with body:=[top 1,top 2,top 3,top 5,top 6,top 7,top 8,top 9,top 10,top 11,top 12,top 13,top 14,top 15,top 16,top 17,top 18,top 19,top 20,top 21,top 24,top 26,top 27,top 28,top 29,top 30,top 31,top 33,top 34,top 35,top 36,top 37,top 38,top 39,top 40,top 42,top 43,top 44,top 45,top 46,top 47,top 48,top 49,top 50,top 51,top 52,top 53,top 54,top 55,top 56,top 57,top 58,top 59,top 60,top 62,top 63,top 64,top 65,top 66,top 67,top 68,top 69,top 70,top 71,top 72,top 73]}}
abbrev Z1V:Stmt:=Z0D (top 2) 0
noncomputable def cO(x y:V0)(n:Nat)(l a b:Int)(r:Nat)(d:Nat):Obj:=⟨.type "code",none,.fields #[.str x n,.str y (n+1),.str "/claim/cut.py" (n+2),.int l 0,.int a 0,.int 0 0,.int 0 0,.int b 0,.ref r,.bool true,.int 181 0,.ref (r+1),.none,.ref (r+2),.ref (r+3),.ref (r+4),.int d 0,.int l 0,.str "/claim/cut.py" (d+1)],#[]⟩
noncomputable def fU(x y:V0)(s:Stmt)(m:V0)(t c:Nat):Obj:=⟨.type "function",none,.func (W.fnOf x y (L2.Z0O s) (L2.Z0y s) (L2.Z0d s) .none .none .none (.str m t) none (.ref c) .none),#[]⟩
noncomputable def eT:Obj:=⟨.type "tuple",none,.seq #[] 0,#[]⟩
noncomputable def kE(P:PySem.Params)(x:V0)(t:Nat)(v:Z0):DictEntry:=⟨PyData.keyHash P x,.str x t,v⟩
noncomputable def fV0(x:V0)(s:Stmt)(c:Nat):Obj:=fU x x s "elderhouse.reading" 639 c
noncomputable def fW1(x y:V0)(s:Stmt)(c:Nat):Obj:=fU x y s "elderhouse.terms" 436 c
noncomputable def fV1(x:V0)(s:Stmt)(c:Nat):Obj:=fU x x s "elderhouse.terms" 436 c
noncomputable def fV2(x:V0)(s:Stmt)(c:Nat):Obj:=fU x x s "law_elderhouse_k12_strengths" 842 c
noncomputable def fV3(x:V0)(s:Stmt)(c:Nat):Obj:=fU x x s "elderhouse.words" 248 c
noncomputable def fW4(x y:V0)(s:Stmt)(c:Nat):Obj:=fU x y s "elderhouse.guests" 347 c
noncomputable def tS:List V0->Nat->List Z0
 |[],_=>[]
 |x::xs,n=>.str x n::tS xs (n+1)
noncomputable def tT(l:List V0)(n:Nat):Obj:=⟨.type "tuple",none,.seq (tS l n).toArray 0,#[]⟩
noncomputable def cQ(x:V0)(n:Nat)(l a:Int)(r d:Nat):Obj:=cO x x n l a 3 r d
noncomputable def cP(x y:V0)(n:Nat)(l a:Int)(r:Nat):Obj:=⟨.type "code",none,.fields #[.str x n,.str y (n+1),.str "/claim/cut.py" (n+2),.int l 0,.int a 0,.int 0 0,.int 0 0,.int 3 0,.ref r,.bool true,.int 181 0,.ref (r+1),.none,.none,.none,.ref (r+2),.int ((n+3:Nat):Int) 0,.int l 0,.str "/claim/cut.py" (n+4)],#[]⟩
noncomputable def KB(P:PySem.Params):y0:=
(nat_lit 2,Function.const (("a":V0)≠"b") (⟨.none,none,(.dict #[] 0),#[]⟩:Obj) qQ)::
(nat_lit 3,⟨(.type "dict"),none,(.dict #[kE P "__name__" 165 (.str "law_elderhouse_k12_strengths" 842),kE P "__doc__" 166 .none,kE P "__package__" 167 .none,kE P "__loader__" 168 (.builtin "__main__.__loader__#opaque"),kE P "__spec__" 169 .none,kE P "__annotations__" 170 (.ref 6),kE P "__builtins__" 171 (.ref 4),kE P "__file__" 173 (.str "/claim/cut.py" 172),kE P "__cached__" 174 .none,kE P "HouseError" 206 (.ref 24),kE P "BadWords" 231 (.ref 44),kE P "BadForm" 247 (.ref 56),⟨PyData.keyHash P "LONGEST_TEXT",.str "LONGEST_TEXT" 251,.int 6000 250⟩,⟨PyData.keyHash P "LONGEST_NUMBER",.str "LONGEST_NUMBER" 253,.int 9 252⟩,⟨PyData.keyHash P "LONGEST_NAME",.str "LONGEST_NAME" 255,.int 8 254⟩,kE P "FIGURES" 257 (.str "0123456789" 256),kE P "SMALL_LETTERS" 259 (.str "abcdefghijklmnopqrstuvwxyz" 258),kE P "GREAT_LETTERS" 261 (.str "ABCDEFGHIJKLMNOPQRSTUVWXYZ" 260),kE P "GAPS" 263 (.str " \t\n" 262),kE P "SIGNS" 265 (.str "(){},.;=+-*/<" 264),kE P "TOLD_WORDS" 285 (.ref 59),kE P "is_told" 292 (.ref 66),kE P "is_name" 299 (.ref 73),kE P "words" 309 (.ref 80),kE P "word_at" 318 (.ref 87),kE P "row_at" 327 (.ref 94),kE P "is_row_sign" 334 (.ref 101),kE P "is_number" 340 (.ref 106),kE P "is_name_row" 346 (.ref 111),kE P "TRUTHS" 353 (.ref 112),kE P "Guest" 435 (.ref 178),kE P "Term" 497 (.ref 225),kE P "shape_of" 506 (.ref 236),kE P "Word" 548 (.ref 260),kE P "House" 589 (.ref 286),kE P "Program" 632 (.ref 317),kE P "pairs_of" 638 (.ref 326),⟨PyData.keyHash P "MOST_HOUSES",.str "MOST_HOUSES" 642,.int 12 641⟩,⟨PyData.keyHash P "MOST_FIELDS",.str "MOST_FIELDS" 644,.int 4 643⟩,⟨PyData.keyHash P "MOST_WORDS",.str "MOST_WORDS" 646,.int 8 645⟩,⟨PyData.keyHash P "MOST_PARAMS",.str "MOST_PARAMS" 648,.int 4 647⟩,⟨PyData.keyHash P "MOST_TERMS",.str "MOST_TERMS" 650,.int 8 649⟩,⟨PyData.keyHash P "MOST_DEEP",.str "MOST_DEEP" 652,.int 14 651⟩,⟨PyData.keyHash P "MOST_SIZE",.str "MOST_SIZE" 654,.int 400 653⟩,⟨PyData.keyHash P "MOST_OPEN",.str "MOST_OPEN" 656,.int 14 655⟩,kE P "STRENGTHS" 678 (.ref 327),⟨PyData.keyHash P "WEAKEST",.str "WEAKEST" 680,.int 1 679⟩,⟨PyData.keyHash P "ABOVE_WEAKEST",.str "ABOVE_WEAKEST" 682,.int 2 681⟩,kE P "read" 688 (.ref 332),kE P "need_few_open" 697 (.ref 339),kE P "need_few" 705 (.ref 346),kE P "need_bounds" 711 (.ref 351),kE P "read_house" 722 (.ref 358),kE P "read_word" 732 (.ref 365),kE P "read_pair" 740 (.ref 372),kE P "read_kind" 747 (.ref 379),kE P "read_list" 756 (.ref 386),kE P "read_terms" 766 (.ref 393),kE P "read_term" 779 (.ref 400),kE P "read_part" 788 (.ref 407),kE P "read_if" 799 (.ref 414),kE P "read_let" 810 (.ref 421),kE P "read_set" 820 (.ref 428),kE P "read_pointed" 830 (.ref 435),kE P "read_one" 841 (.ref 442),kE P "_law_cell_at" 851 (.ref 449),kE P "_law_mixed" 859 (.ref 456),kE P "_law_thing" 871 (.ref 463),kE P "_law_by" 884 (.ref 470),kE P "_law_parted" 896 (.ref 477),kE P "_law_folded" 905 (.ref 484),kE P "_law_row" 911 (.ref 489),kE P "_law_text" 922 (.ref 496),kE P "_law_short" 928 (.ref 501),kE P "_law_tail" 941 (.ref 508),kE P "_law_last" 960 (.ref 515),kE P "law" 966 (.ref 520)] 77),#[]⟩)::
(nat_lit 15,⟨.type "tuple",none,.seq #[(.type "ValueError")] 0,#[]⟩)::
(nat_lit 22,eT)::
(nat_lit 23,⟨(.type "dict"),none,(.dict #[kE P "__module__" 196 (.str "elderhouse.errors" 187),⟨PyData.keyHash P "__firstlineno__",.str "__firstlineno__" 200,.int 2 199⟩,kE P "__static_attributes__" 201 (.ref 22),kE P "__weakref__" 203 (.ref 25),kE P "__doc__" 204 .none] 3),#[]⟩)::
(nat_lit 24,⟨(.type "type"),none,(.cls ⟨"HouseError",[(.type "ValueError")],[.ref 24,(.type "ValueError"),(.type "Exception"),(.type "BaseException"),(.type "object")],23,"HouseError",true,[],[.ref 44,.ref 56],false,none,false⟩),#[(some (.ref 15)),none,(some (.str "HouseError" 189)),(some (.str "HouseError" 197)),(some (.builtin "ValueError.__new__")),(some (.bool true))]⟩)::
(nat_lit 25,⟨.type "getset_descriptor",none,.fields #[.str "__weakref__" 202,.ref 24,.builtin "ExceptionGroup.__weakref__",.none],#[]⟩)::
(nat_lit 28,⟨.type "tuple",none,.seq #[.ref 24] 0,#[]⟩)::
(nat_lit 35,eT)::
(nat_lit 37,tT ["self","at"] 222)::
(nat_lit 38,eT)::
(nat_lit 40,cO "__init__" "BadWords.__init__" 219 6 2 3 35 224)::
(nat_lit 41,fU "__init__" "BadWords.__init__" Z1V "elderhouse.errors" 187 40)::
(nat_lit 42,tT ["at"] 227)::
(nat_lit 43,⟨(.type "dict"),none,(.dict #[kE P "__module__" 214 (.str "elderhouse.errors" 187),⟨PyData.keyHash P "__firstlineno__",.str "__firstlineno__" 218,.int 4 217⟩,kE P "__init__" 226 (.ref 41),kE P "__static_attributes__" 228 (.ref 42),kE P "__doc__" 229 .none] 2),#[]⟩)::
(nat_lit 44,⟨(.type "type"),none,(.cls ⟨"BadWords",[.ref 24],[.ref 44,.ref 24,(.type "ValueError"),(.type "Exception"),(.type "BaseException"),(.type "object")],43,"BadWords",true,[],[],false,none,false⟩),#[(some (.ref 28)),none,(some (.str "BadWords" 207)),(some (.str "BadWords" 215)),(some (.builtin "ValueError.__new__")),(some (.bool true))]⟩)::
(nat_lit 47,⟨.type "tuple",none,.seq #[.ref 24] 0,#[]⟩)::
(nat_lit 54,eT)::
(nat_lit 55,⟨(.type "dict"),none,(.dict #[kE P "__module__" 239 (.str "elderhouse.errors" 187),⟨PyData.keyHash P "__firstlineno__",.str "__firstlineno__" 243,.int 9 242⟩,kE P "__static_attributes__" 244 (.ref 54),kE P "__doc__" 245 .none] 2),#[]⟩)::
(nat_lit 56,⟨(.type "type"),none,(.cls ⟨"BadForm",[.ref 24],[.ref 56,.ref 24,(.type "ValueError"),(.type "Exception"),(.type "BaseException"),(.type "object")],55,"BadForm",true,[],[],false,none,false⟩),#[(some (.ref 47)),none,(some (.str "BadForm" 232)),(some (.str "BadForm" 240)),(some (.builtin "ValueError.__new__")),(some (.bool true))]⟩)::
(nat_lit 59,tT ["house","of","has","can","main","let","in","if","then","else","new","self","elder","set","not","yes","no","number","truth"] 266)::
(nat_lit 60,eT)::
(nat_lit 62,tT ["word"] 289)::
(nat_lit 63,eT)::
(nat_lit 65,cQ "is_told" 286 21 1 60 290)::
(nat_lit 66,fV3 "is_told" O0P 65)::
(nat_lit 67,eT)::
(nat_lit 69,tT ["word"] 296)::
(nat_lit 70,eT)::
(nat_lit 72,cQ "is_name" 293 23 1 67 297)::
(nat_lit 73,fV3 "is_name" O0Q 72)::
(nat_lit 74,eT)::
(nat_lit 76,tT ["text","cut","at","word"] 303)::
(nat_lit 77,eT)::
(nat_lit 79,cQ "words" 300 25 1 74 307)::
(nat_lit 80,fV3 "words" O1h 79)::
(nat_lit 81,eT)::
(nat_lit 83,tT ["text","at","row"] 313)::
(nat_lit 84,eT)::
(nat_lit 86,cQ "word_at" 310 38 2 81 316)::
(nat_lit 87,fV3 "word_at" O0R 86)::
(nat_lit 88,eT)::
(nat_lit 90,tT ["text","at","end"] 322)::
(nat_lit 91,eT)::
(nat_lit 93,cQ "row_at" 319 45 2 88 325)::
(nat_lit 94,fV3 "row_at" O0Z 93)::
(nat_lit 95,eT)::
(nat_lit 97,tT ["sign"] 331)::
(nat_lit 98,eT)::
(nat_lit 100,cQ "is_row_sign" 328 50 1 95 332)::
(nat_lit 101,fV3 "is_row_sign" O0q 100)::
(nat_lit 102,eT)::
(nat_lit 105,cP "is_number" "is_number" 335 52 1 102)::
(nat_lit 106,fV3 "is_number" O0x 105)::
(nat_lit 107,eT)::
(nat_lit 110,cP "is_name_row" "is_name_row" 341 58 1 107)::
(nat_lit 111,fV3 "is_name_row" O0r 110)::
(nat_lit 112,⟨.type "dict",none,.dict #[kE P "yes" 349 (.bool true),kE P "no" 350 (.bool false)] 2,#[]⟩)::
(nat_lit 120,eT)::
(nat_lit 122,tT ["self","all_words"] 369)::
(nat_lit 123,eT)::
(nat_lit 125,cO "__init__" "Guest.__init__" 366 66 2 3 120 371)::
(nat_lit 126,fW4 "__init__" "Guest.__init__" Z1f 125)::
(nat_lit 127,eT)::
(nat_lit 129,tT ["self"] 377)::
(nat_lit 130,eT)::
(nat_lit 132,cO "ahead" "Guest.ahead" 374 70 1 3 127 378)::
(nat_lit 133,fW4 "ahead" "Guest.ahead" Z1N 132)::
(nat_lit 134,eT)::
(nat_lit 136,tT ["self"] 384)::
(nat_lit 137,eT)::
(nat_lit 139,cO "behind" "Guest.behind" 381 75 1 3 134 385)::
(nat_lit 140,fW4 "behind" "Guest.behind" Z1y 139)::
(nat_lit 141,eT)::
(nat_lit 143,tT ["self","word"] 391)::
(nat_lit 144,eT)::
(nat_lit 146,cO "take" "Guest.take" 388 78 1 3 141 393)::
(nat_lit 147,fW4 "take" "Guest.take" Z2j 146)::
(nat_lit 148,eT)::
(nat_lit 150,tT ["self","word"] 399)::
(nat_lit 151,eT)::
(nat_lit 153,cO "takes" "Guest.takes" 396 85 2 3 148 401)::
(nat_lit 154,fW4 "takes" "Guest.takes" Z1P 153)::
(nat_lit 155,eT)::
(nat_lit 157,tT ["self","word"] 407)::
(nat_lit 158,eT)::
(nat_lit 160,cO "need" "Guest.need" 404 91 2 3 155 409)::
(nat_lit 161,fW4 "need" "Guest.need" Z2f 160)::
(nat_lit 162,eT)::
(nat_lit 164,tT ["self"] 415)::
(nat_lit 165,eT)::
(nat_lit 167,cO "need_name" "Guest.need_name" 412 95 1 3 162 416)::
(nat_lit 168,fW4 "need_name" "Guest.need_name" Z0Z 167)::
(nat_lit 169,eT)::
(nat_lit 171,tT ["self"] 422)::
(nat_lit 172,eT)::
(nat_lit 174,cO "need_end" "Guest.need_end" 419 100 1 3 169 423)::
(nat_lit 175,fW4 "need_end" "Guest.need_end" Z1d 174)::
(nat_lit 176,tT ["gone","row"] 426)::
(nat_lit 177,⟨(.type "dict"),none,(.dict #[kE P "__module__" 361 (.str "elderhouse.guests" 347),⟨PyData.keyHash P "__firstlineno__",.str "__firstlineno__" 365,.int 64 364⟩,kE P "__init__" 373 (.ref 126),kE P "ahead" 380 (.ref 133),kE P "behind" 387 (.ref 140),kE P "take" 395 (.ref 147),kE P "takes" 403 (.ref 154),kE P "need" 411 (.ref 161),kE P "need_name" 418 (.ref 168),kE P "need_end" 425 (.ref 175),kE P "__static_attributes__" 428 (.ref 176),kE P "__dict__" 430 (.ref 179),kE P "__weakref__" 432 (.ref 180),kE P "__doc__" 433 .none] 4),#[]⟩)::
(nat_lit 178,⟨(.type "type"),none,(.cls ⟨"Guest",[(.type "object")],[.ref 178,(.type "object")],177,"Guest",true,[],[],false,none,false⟩),#[none,none,(some (.str "Guest" 354)),(some (.str "Guest" 362)),(some (.builtin "object.__new__")),(some (.bool true))]⟩)::
(nat_lit 179,⟨.type "getset_descriptor",none,.fields #[.str "__dict__" 429,.ref 178,.builtin "function.__dict__",.builtin "function.__dict__#set"],#[]⟩)::
(nat_lit 180,⟨.type "getset_descriptor",none,.fields #[.str "__weakref__" 431,.ref 178,.builtin "ExceptionGroup.__weakref__",.none],#[]⟩)::
(nat_lit 190,eT)::
(nat_lit 193,cP "__init__" "Term.__init__" 450 106 4 190)::
(nat_lit 194,fW1 "__init__" "Term.__init__" Z1k 193)::
(nat_lit 195,eT)::
(nat_lit 197,tT ["self"] 459)::
(nat_lit 198,eT)::
(nat_lit 200,cO "plain" "Term.plain" 456 114 1 3 195 460)::
(nat_lit 201,fW1 "plain" "Term.plain" Z2i 200)::
(nat_lit 202,eT)::
(nat_lit 204,tT ["self"] 466)::
(nat_lit 205,eT)::
(nat_lit 207,cO "parts" "Term.parts" 463 117 1 3 202 467)::
(nat_lit 208,fW1 "parts" "Term.parts" Z2g 207)::
(nat_lit 209,eT)::
(nat_lit 211,tT ["self"] 473)::
(nat_lit 212,eT)::
(nat_lit 214,cO "depth" "Term.depth" 470 120 1 3 209 474)::
(nat_lit 215,fW1 "depth" "Term.depth" Z2a 214)::
(nat_lit 216,eT)::
(nat_lit 218,tT ["self"] 480)::
(nat_lit 219,eT)::
(nat_lit 221,cO "size" "Term.size" 477 123 1 3 216 481)::
(nat_lit 222,fW1 "size" "Term.size" Z2y 221)::
(nat_lit 223,tT ["deep","form","inner","label","many","shape"] 484)::
(nat_lit 224,⟨(.type "dict"),none,(.dict #[kE P "__module__" 445 (.str "elderhouse.terms" 436),⟨PyData.keyHash P "__firstlineno__",.str "__firstlineno__" 449,.int 104 448⟩,kE P "__init__" 455 (.ref 194),kE P "plain" 462 (.ref 201),kE P "parts" 469 (.ref 208),kE P "depth" 476 (.ref 215),kE P "size" 483 (.ref 222),kE P "__static_attributes__" 490 (.ref 223),kE P "__dict__" 492 (.ref 226),kE P "__weakref__" 494 (.ref 227),kE P "__doc__" 495 .none] 4),#[]⟩)::
(nat_lit 225,⟨(.type "type"),none,(.cls ⟨"Term",[(.type "object")],[.ref 225,(.type "object")],224,"Term",true,[],[],false,none,false⟩),#[none,none,(some (.str "Term" 438)),(some (.str "Term" 446)),(some (.builtin "object.__new__")),(some (.bool true))]⟩)::
(nat_lit 226,⟨.type "getset_descriptor",none,.fields #[.str "__dict__" 491,.ref 225,.builtin "function.__dict__",.builtin "function.__dict__#set"],#[]⟩)::
(nat_lit 227,⟨.type "getset_descriptor",none,.fields #[.str "__weakref__" 493,.ref 225,.builtin "ExceptionGroup.__weakref__",.none],#[]⟩)::
(nat_lit 230,eT)::
(nat_lit 232,tT ["form","label","parts"] 501)::
(nat_lit 233,eT)::
(nat_lit 235,cQ "shape_of" 498 125 3 230 504)::
(nat_lit 236,fV1 "shape_of" Z2P 235)::
(nat_lit 244,eT)::
(nat_lit 246,tT ["self","name","params","kind","body"] 522)::
(nat_lit 247,eT)::
(nat_lit 249,cO "__init__" "Word.__init__" 519 137 5 3 244 527)::
(nat_lit 250,fW1 "__init__" "Word.__init__" Z1r 249)::
(nat_lit 251,eT)::
(nat_lit 253,tT ["self"] 533)::
(nat_lit 254,eT)::
(nat_lit 256,cO "plain" "Word.plain" 530 143 1 3 251 534)::
(nat_lit 257,fW1 "plain" "Word.plain" Z1Z 256)::
(nat_lit 258,tT ["body","kind","name","params"] 537)::
(nat_lit 259,⟨(.type "dict"),none,(.dict #[kE P "__module__" 514 (.str "elderhouse.terms" 436),⟨PyData.keyHash P "__firstlineno__",.str "__firstlineno__" 518,.int 135 517⟩,kE P "__init__" 529 (.ref 250),kE P "plain" 536 (.ref 257),kE P "__static_attributes__" 541 (.ref 258),kE P "__dict__" 543 (.ref 261),kE P "__weakref__" 545 (.ref 262),kE P "__doc__" 546 .none] 4),#[]⟩)::
(nat_lit 260,⟨(.type "type"),none,(.cls ⟨"Word",[(.type "object")],[.ref 260,(.type "object")],259,"Word",true,[],[],false,none,false⟩),#[none,none,(some (.str "Word" 507)),(some (.str "Word" 515)),(some (.builtin "object.__new__")),(some (.bool true))]⟩)::
(nat_lit 261,⟨.type "getset_descriptor",none,.fields #[.str "__dict__" 542,.ref 260,.builtin "function.__dict__",.builtin "function.__dict__#set"],#[]⟩)::
(nat_lit 262,⟨.type "getset_descriptor",none,.fields #[.str "__weakref__" 544,.ref 260,.builtin "ExceptionGroup.__weakref__",.none],#[]⟩)::
(nat_lit 272,eT)::
(nat_lit 274,tT ["self","name","elder","own_fields","own_words"] 564)::
(nat_lit 275,eT)::
(nat_lit 277,cO "__init__" "House.__init__" 561 147 5 3 272 569)::
(nat_lit 278,fW1 "__init__" "House.__init__" Z1e 277)::
(nat_lit 279,eT)::
(nat_lit 282,cP "plain" "House.plain" 572 153 1 279)::
(nat_lit 283,fW1 "plain" "House.plain" Z1K 282)::
(nat_lit 284,tT ["elder","name","own_fields","own_words"] 578)::
(nat_lit 285,⟨(.type "dict"),none,(.dict #[kE P "__module__" 556 (.str "elderhouse.terms" 436),⟨PyData.keyHash P "__firstlineno__",.str "__firstlineno__" 560,.int 145 559⟩,kE P "__init__" 571 (.ref 278),kE P "plain" 577 (.ref 283),kE P "__static_attributes__" 582 (.ref 284),kE P "__dict__" 584 (.ref 287),kE P "__weakref__" 586 (.ref 288),kE P "__doc__" 587 .none] 4),#[]⟩)::
(nat_lit 286,⟨(.type "type"),none,(.cls ⟨"House",[(.type "object")],[.ref 286,(.type "object")],285,"House",true,[],[],false,none,false⟩),#[none,none,(some (.str "House" 549)),(some (.str "House" 557)),(some (.builtin "object.__new__")),(some (.bool true))]⟩)::
(nat_lit 287,⟨.type "getset_descriptor",none,.fields #[.str "__dict__" 583,.ref 286,.builtin "function.__dict__",.builtin "function.__dict__#set"],#[]⟩)::
(nat_lit 288,⟨.type "getset_descriptor",none,.fields #[.str "__weakref__" 585,.ref 286,.builtin "ExceptionGroup.__weakref__",.none],#[]⟩)::
(nat_lit 298,eT)::
(nat_lit 300,tT ["self","all_houses","main"] 605)::
(nat_lit 301,eT)::
(nat_lit 303,cO "__init__" "Program.__init__" 602 158 3 3 298 608)::
(nat_lit 304,fW1 "__init__" "Program.__init__" Z0U 303)::
(nat_lit 305,eT)::
(nat_lit 308,cP "plain" "Program.plain" 611 162 1 305)::
(nat_lit 309,fW1 "plain" "Program.plain" Z1l 308)::
(nat_lit 310,eT)::
(nat_lit 313,cP "bodies" "Program.bodies" 617 166 1 310)::
(nat_lit 314,fW1 "bodies" "Program.bodies" Z1g 313)::
(nat_lit 315,tT ["all_houses","main"] 623)::
(nat_lit 316,⟨(.type "dict"),none,(.dict #[kE P "__module__" 597 (.str "elderhouse.terms" 436),⟨PyData.keyHash P "__firstlineno__",.str "__firstlineno__" 601,.int 156 600⟩,kE P "__init__" 610 (.ref 304),kE P "plain" 616 (.ref 309),kE P "bodies" 622 (.ref 314),kE P "__static_attributes__" 625 (.ref 315),kE P "__dict__" 627 (.ref 318),kE P "__weakref__" 629 (.ref 319),kE P "__doc__" 630 .none] 4),#[]⟩)::
(nat_lit 317,⟨(.type "type"),none,(.cls ⟨"Program",[(.type "object")],[.ref 317,(.type "object")],316,"Program",true,[],[],false,none,false⟩),#[none,none,(some (.str "Program" 590)),(some (.str "Program" 598)),(some (.builtin "object.__new__")),(some (.bool true))]⟩)::
(nat_lit 318,⟨.type "getset_descriptor",none,.fields #[.str "__dict__" 626,.ref 317,.builtin "function.__dict__",.builtin "function.__dict__#set"],#[]⟩)::
(nat_lit 319,⟨.type "getset_descriptor",none,.fields #[.str "__weakref__" 628,.ref 317,.builtin "ExceptionGroup.__weakref__",.none],#[]⟩)::
(nat_lit 322,eT)::
(nat_lit 325,cP "pairs_of" "pairs_of" 633 172 1 322)::
(nat_lit 326,fV1 "pairs_of" Z2Q 325)::
(nat_lit 327,⟨(.type "dict"),none,(.dict #[⟨PyData.keyHash P ";",.str ";" 657,.int 1 658⟩,⟨PyData.keyHash P "<",.str "<" 659,.int 2 660⟩,⟨PyData.keyHash P "=",.str "=" 661,.int 2 662⟩,⟨PyData.keyHash P "+",.str "+" 663,.int 3 664⟩,⟨PyData.keyHash P "-",.str "-" 665,.int 3 666⟩,⟨PyData.keyHash P "*",.str "*" 667,.int 4 668⟩,⟨PyData.keyHash P "/",.str "/" 669,.int 4 670⟩] 7),#[]⟩)::
(nat_lit 328,eT)::
(nat_lit 331,cP "read" "read" 683 186 1 328)::
(nat_lit 332,fV0 "read" Z8x 331)::
(nat_lit 333,eT)::
(nat_lit 335,tT ["row","still_open","word"] 692)::
(nat_lit 336,eT)::
(nat_lit 338,cQ "need_few_open" 689 202 1 333 695)::
(nat_lit 339,fV0 "need_few_open" Z1p 338)::
(nat_lit 340,eT)::
(nat_lit 342,tT ["found","most"] 701)::
(nat_lit 343,eT)::
(nat_lit 345,cQ "need_few" 698 211 2 340 703)::
(nat_lit 346,fV0 "need_few" Z2U 345)::
(nat_lit 347,eT)::
(nat_lit 350,cP "need_bounds" "need_bounds" 706 214 1 347)::
(nat_lit 351,fV0 "need_bounds" Z1L 350)::
(nat_lit 352,eT)::
(nat_lit 354,tT ["guest","name","elder","own_fields","own_words"] 715)::
(nat_lit 355,eT)::
(nat_lit 357,cQ "read_house" 712 219 1 352 720)::
(nat_lit 358,fV0 "read_house" Z2b 357)::
(nat_lit 359,eT)::
(nat_lit 361,tT ["guest","name","params","kind"] 726)::
(nat_lit 362,eT)::
(nat_lit 364,cQ "read_word" 723 235 2 359 730)::
(nat_lit 365,fV0 "read_word" Z2p 364)::
(nat_lit 366,eT)::
(nat_lit 368,tT ["guest","name"] 736)::
(nat_lit 369,eT)::
(nat_lit 371,cQ "read_pair" 733 241 1 366 738)::
(nat_lit 372,fV0 "read_pair" Z2z 371)::
(nat_lit 373,eT)::
(nat_lit 375,tT ["guest"] 744)::
(nat_lit 376,eT)::
(nat_lit 378,cQ "read_kind" 741 244 1 373 745)::
(nat_lit 379,fV0 "read_kind" Z2r 378)::
(nat_lit 380,eT)::
(nat_lit 382,tT ["guest","read_item","found"] 751)::
(nat_lit 383,eT)::
(nat_lit 385,cQ "read_list" 748 250 2 380 754)::
(nat_lit 386,fV0 "read_list" Z2w 385)::
(nat_lit 387,eT)::
(nat_lit 389,tT ["guest","deep","found"] 760)::
(nat_lit 390,tT ["deep"] 763)::
(nat_lit 392,cQ "read_terms" 757 260 2 387 764)::
(nat_lit 393,fV0 "read_terms" Z0B 392)::
(nat_lit 394,eT)::
(nat_lit 396,tT ["guest","least","lowest","deep","term","sign","right"] 770)::
(nat_lit 397,eT)::
(nat_lit 399,cQ "read_term" 767 264 4 394 777)::
(nat_lit 400,fV0 "read_term" Z2D 399)::
(nat_lit 401,eT)::
(nat_lit 403,tT ["guest","lowest","deep"] 783)::
(nat_lit 404,eT)::
(nat_lit 406,cQ "read_part" 780 276 3 401 786)::
(nat_lit 407,fV0 "read_part" Z2C 406)::
(nat_lit 408,eT)::
(nat_lit 410,tT ["guest","deep","asked","wanted","other"] 792)::
(nat_lit 411,eT)::
(nat_lit 413,cQ "read_if" 789 288 2 408 797)::
(nat_lit 414,fV0 "read_if" Z3k 413)::
(nat_lit 415,eT)::
(nat_lit 417,tT ["guest","lowest","deep","name","first"] 803)::
(nat_lit 418,eT)::
(nat_lit 420,cQ "read_let" 800 295 3 415 808)::
(nat_lit 421,fV0 "read_let" Z2R 420)::
(nat_lit 422,eT)::
(nat_lit 424,tT ["guest","deep","field","value"] 814)::
(nat_lit 425,eT)::
(nat_lit 427,cQ "read_set" 811 301 2 422 818)::
(nat_lit 428,fV0 "read_set" Z2O 427)::
(nat_lit 429,eT)::
(nat_lit 431,tT ["guest","deep","term","name"] 824)::
(nat_lit 432,eT)::
(nat_lit 434,cQ "read_pointed" 821 308 2 429 828)::
(nat_lit 435,fV0 "read_pointed" Z1A 434)::
(nat_lit 436,eT)::
(nat_lit 438,tT ["guest","deep","word","name","term"] 834)::
(nat_lit 439,eT)::
(nat_lit 441,cQ "read_one" 831 317 2 436 839)::
(nat_lit 442,fV0 "read_one" Z2S 441)::
(nat_lit 443,eT)::
(nat_lit 445,tT ["_law_script","_law_k"] 847)::
(nat_lit 446,eT)::
(nat_lit 448,cQ "_law_cell_at" 844 340 2 443 849)::
(nat_lit 449,fV2 "_law_cell_at" Z1z 448)::
(nat_lit 450,eT)::
(nat_lit 452,tT ["_law_cell","_law_k"] 855)::
(nat_lit 453,eT)::
(nat_lit 455,cQ "_law_mixed" 852 344 2 450 857)::
(nat_lit 456,fV2 "_law_mixed" Z1X 455)::
(nat_lit 457,eT)::
(nat_lit 459,tT ["_law_cell","_law_name","_law_text_here","_law_tree","_law_k","_law_more"] 863)::
(nat_lit 460,eT)::
(nat_lit 462,cQ "_law_thing" 860 346 1 457 869)::
(nat_lit 463,fV2 "_law_thing" Z2d 462)::
(nat_lit 464,eT)::
(nat_lit 466,tT ["_law_things","_law_signs","_law_which","_law_some","_law_left","_law_sign","_law_thing_here"] 875)::
(nat_lit 467,eT)::
(nat_lit 469,cQ "_law_by" 872 361 3 464 882)::
(nat_lit 470,fV2 "_law_by" Z3s 469)::
(nat_lit 471,eT)::
(nat_lit 473,tT ["_law_things","_law_signs","_law_found","_law_is_met","_law_sign","_law_thing_here"] 888)::
(nat_lit 474,eT)::
(nat_lit 476,cQ "_law_parted" 885 370 2 471 894)::
(nat_lit 477,fV2 "_law_parted" Z1J 476)::
(nat_lit 478,eT)::
(nat_lit 480,tT ["_law_trees","_law_found","_law_tree"] 900)::
(nat_lit 481,eT)::
(nat_lit 483,cQ "_law_folded" 897 385 1 478 903)::
(nat_lit 484,fV2 "_law_folded" Z1Q 483)::
(nat_lit 485,eT)::
(nat_lit 488,cP "_law_row" "_law_row" 906 392 2 485)::
(nat_lit 489,fV2 "_law_row" Z2T 488)::
(nat_lit 490,eT)::
(nat_lit 492,tT ["_law_things","_law_signs","_law_text_here","_law_sign","_law_thing_here"] 915)::
(nat_lit 493,eT)::
(nat_lit 495,cQ "_law_text" 912 396 2 490 920)::
(nat_lit 496,fV2 "_law_text" Z2s 495)::
(nat_lit 497,eT)::
(nat_lit 500,cP "_law_short" "_law_short" 923 401 3 497)::
(nat_lit 501,fV2 "_law_short" Z2h 500)::
(nat_lit 502,eT)::
(nat_lit 504,tT ["_law_script","_law_k","_law_way","_law_text_here","_law_tree","_law_other","_law_more"] 932)::
(nat_lit 505,eT)::
(nat_lit 507,cQ "_law_tail" 929 406 3 502 939)::
(nat_lit 508,fV2 "_law_tail" Z2t 507)::
(nat_lit 509,eT)::
(nat_lit 511,tT ["_law_script","_law_way","_law_one","_law_tree","_law_other","_law_more","_law_end","_law_third","_law_text_here","_law_trees","_law_things","_law_thing_here","_law_call"] 945)::
(nat_lit 512,eT)::
(nat_lit 514,cQ "_law_last" 942 421 2 509 958)::
(nat_lit 515,fV2 "_law_last" Z2x 514)::
(nat_lit 516,eT)::
(nat_lit 519,cP "law" "law" 961 442 1 516)::
(nat_lit 520,fV2 "law" Z9n 519)::[]
noncomputable def KK(P:PySem.Params):y0:=(nat_lit 388,⟨.none,none,.fields #[],#[]⟩)::KB P
noncomputable def KA:List X0:=[388,2,3,15,22,23,24,25,28,35,37,38,40,41,42,43,44,47,54,55,56,59,60,62,63,65,66,67,69,70,72,73,74,76,77,79,80,81,83,84,86,87,88,90,91,93,94,95,97,98,100,101,102,105,106,107,110,111,112,120,122,123,125,126,127,129,130,132,133,134,136,137,139,140,141,143,144,146,147,148,150,151,153,154,155,157,158,160,161,162,164,165,167,168,169,171,172,174,175,176,177,178,179,180,190,193,194,195,197,198,200,201,202,204,205,207,208,209,211,212,214,215,216,218,219,221,222,223,224,225,226,227,230,232,233,235,236,244,246,247,249,250,251,253,254,256,257,258,259,260,261,262,272,274,275,277,278,279,282,283,284,285,286,287,288,298,300,301,303,304,305,308,309,310,313,314,315,316,317,318,319,322,325,326,327,328,331,332,333,335,336,338,339,340,342,343,345,346,347,350,351,352,354,355,357,358,359,361,362,364,365,366,368,369,371,372,373,375,376,378,379,380,382,383,385,386,387,389,390,392,393,394,396,397,399,400,401,403,404,406,407,408,410,411,413,414,415,417,418,420,421,422,424,425,427,428,429,431,432,434,435,436,438,439,441,442,443,445,446,448,449,450,452,453,455,456,457,459,460,462,463,464,466,467,469,470,471,473,474,476,477,478,480,481,483,484,485,488,489,490,492,493,495,496,497,500,501,502,504,505,507,508,509,511,512,514,515,516,519,520]
theorem ka_eq:∀P,KA=(KK P).map (·.1):=λ _=>by kernel_rfl
theorem J4Q{p q:Program}{loose:List V0}{Xt:U0->Bool}{α:Type}{Yf:U0->α}{Ya:M0->α}{N:Nat}{H₀:Params->N0}{gs₀:Array GenState}{d₀:Drawn}{k₀ m₀ M:Nat}{ann:Option Z0}(op:∀w:M0,(W.fencedOpening treeTable p w N).map (λ s=>(s.heap,s.gens,s.drawn,s.toks))=some (H₀ w.params,gs₀,d₀,k₀))(sz:∀w:M0,((H₀ w.params).isNs mainGlobals&&gs₀.size==0)=true/\(H₀ w.params).objs.size=m₀/\(H₀ w.params).nsMap mainGlobals "__annotations__"=ann)(le:M<=N)(ex:∀(w:M0)(os:OsState),∃s,W.topRun treeTable p w m₀ ann M ⟨H₀ w.params,gs₀,d₀,k₀,os⟩ (W.topStub p)=some s/\(W.staticsOk (importedModules p.main.body) (H₀ w.params) s.heap&&W.namesBound p s.heap&&W.gensDone s&&W.laidKept (H₀ w.params) s.heap)=true/\W.openSeen q loose (importedModules p.main.body) Xt true s=W.openGood q loose/\Yf s=Ya w):W.LeftO p q loose Xt Yf Ya N:=by
 intro w;obtain⟨⟨hh,gg,dr,tk,os⟩,e1,e2⟩:=qd3.mp (op w);simp only[Prod.mk.injEq]at e2;obtain⟨a1,a2,a3,a4⟩:=e2;subst a1 a2 a3 a4;obtain⟨z1,z2,z3⟩:=sz w;obtain⟨s,hr,b1,b2,b3⟩:=ex w os;have hr:=W.topRun_mono (N-M) _ _ _ _ hr;rw[Nat.add_sub_of_le le]at hr;have ht:W.topFrom treeTable p w N ⟨H₀ w.params,gg,dr,tk,os⟩=some s:=by
  unfold W.topFrom;simp only[z1,z2,z3,hr,qi7,b1]
 unfold W.openEnds;rw[e1,qi7,ht,Option.map_some,b2,b3]
theorem zz:(pw0.main.body.isEmpty==false)=true:=by k_qdec
noncomputable def eN(p:Program):Env:={scope:=p.main.scope,locals:=mainNs,globals:=mainNs,cells:=[],code:=.ref 13,frame:=some 14}
noncomputable def cN(p:Program):Code:=.body (W.behindTheImports p) (eN p)
def po:Pos:=⟨0,0,0,0⟩
def pf:Pos:=⟨442,0,469,80⟩
def an:Option Z0:=some (.ref 6)
noncomputable def Y0(w:M0)(os:OsState):U0:=⟨W.boot_heap w.params,Array.mk [],W.boot_drawn,W.boot_toks,os⟩
noncomputable def Sa(p:Program)(w:M0)(os:OsState):U0:=match W.topGo treeTable p w 11 an 12 (Y0 w os) (W.topStub p)with
 |some (s,_)=>s
 |none=>Y0 w os
def ofL:List Obj->Nat->W.BT->W.BT
 |[],_,t=>t
 |o::l,n,t=>ofL l (n+1) (t.ins n o)
noncomputable def TB(p:Program)(w:M0)(os:OsState):W.SharedT:=⟨ofL (Sa p w os).heap.objs.toList 0 .nil,15,(Sa p w os).heap.life,(Sa p w os).gens,(Sa p w os).drawn,(Sa p w os).toks,os⟩
theorem r1(w:M0)(os:OsState):W.topGo treeTable pw0 w 11 an 12 (Y0 w os) (W.topStub pw0)=some (Sa pw0 w os,⟨denote treeTable (cN pw0),cN pw0,po,[W.topFrame po]⟩):=by
 kernel_rfl
theorem r2(w:M0)(os:OsState):W.segRun treeTable pw0 w 11 an 1 1 (Sa pw0 w os) (W.blockOf (W.behindTheImports pw0) (eN pw0) (cN pw0) po [W.topFrame po])=some (.next,Sa pw0 w os,cN pw0,po):=by
 kernel_rfl
theorem r3(w:M0)(os:OsState):(TB pw0 w os).abs=Sa pw0 w os:=by
 kernel_rfl
noncomputable def e0:Obj:=⟨.none,none,.fields #[],#[]⟩
noncomputable def et:Obj:=⟨.type "tuple",none,.seq #[] 0,#[]⟩
noncomputable def ky(P:Params)(x:V0)(t:Nat)(v:Z0):DictEntry:=⟨PyData.keyHash P x,.str x t,v⟩
noncomputable def fz(x y:V0)(s:Stmt):Obj:=⟨.none,none,.func {name:=x,qualname:=y,params:=L2.Z0O s,body:=.stmts (L2.Z0y s),scope:=L2.Z0d s,globals:=0,closure:=[],defaults:=.none,kwdefaults:=.none},#[]⟩
noncomputable def bi(x:String)(v:Z0):Obj:=⟨.type "builtin_function_or_method",none,.fields #[.builtin x,v],#[]⟩
noncomputable def fr(a b:Nat)(x:V0)(t:Nat):Obj:=⟨.type "frame",none,.plain,#[some (.ref a),some (.ref 3),some (.ref b),none,some (.str x t),none,some (.ref 0)]⟩
noncomputable def su(a:Nat):Obj:=⟨.type "super",none,.fields #[.ref a,.ref a,.ref a],#[]⟩
noncomputable def bo(P:Params)(i:Nat):Obj:=(W.boot_heap P).objs.toList.getD i e0
noncomputable def RZ(P:Params):List (X0×Obj):=[
(0,bo P 0),
(1,⟨(.type "dict"),none,(.dict #[ky P "builtins" 162 (.ref 4),ky P "__main__" 163 (.ref 5)] 2),#[]⟩),
(4,⟨(.type "module"),(some 0),.plain,#[]⟩),
(5,⟨(.type "module"),(some 3),.plain,#[]⟩),
(6,⟨(.type "dict"),none,(.dict #[] 0),#[]⟩),
(7,et),
(8,e0),
(9,⟨(.type "code"),none,(.fields #[.str "<module>" 176,.str "<module>" 177,.str "/claim/cut.py" 178,.int 1 0,.int 0 0,.int 0 0,.int 0 0,.int 0 0,.ref 7,.bool false,.int 175 0,.ref 8,.none,.none,.none,.none,.int 179 0,.int 1 0,.str "/claim/cut.py" 180]),#[]⟩),
(10,fr 9 3 "__main__" 164),
(11,et),
(12,⟨.none,none,(.fields #[.int 2 0,.int 0 0,.ref 20,.int 4 0,.int 0 0,.ref 33,.int 9 0,.int 0 0,.ref 52,.int 21 0,.int 0 0,.ref 65,.int 23 0,.int 0 0,.ref 72,.int 25 0,.int 0 0,.ref 79,.int 38 0,.int 0 0,.ref 86,.int 45 0,.int 0 0,.ref 93,.int 50 0,.int 0 0,.ref 100,.int 52 0,.int 0 0,.ref 105,.int 58 0,.int 0 0,.ref 110,.int 64 0,.int 0 0,.ref 118,.int 104 0,.int 0 0,.ref 188,.int 125 0,.int 0 0,.ref 235,.int 135 0,.int 0 0,.ref 242,.int 145 0,.int 0 0,.ref 270,.int 156 0,.int 0 0,.ref 296,.int 172 0,.int 0 0,.ref 325,.int 186 0,.int 0 0,.ref 331,.int 202 0,.int 0 0,.ref 338,.int 211 0,.int 0 0,.ref 345,.int 214 0,.int 0 0,.ref 350,.int 219 0,.int 0 0,.ref 357,.int 235 0,.int 0 0,.ref 364,.int 241 0,.int 0 0,.ref 371,.int 244 0,.int 0 0,.ref 378,.int 250 0,.int 0 0,.ref 385,.int 260 0,.int 0 0,.ref 392,.int 264 0,.int 0 0,.ref 399,.int 276 0,.int 0 0,.ref 406,.int 288 0,.int 0 0,.ref 413,.int 295 0,.int 0 0,.ref 420,.int 301 0,.int 0 0,.ref 427,.int 308 0,.int 0 0,.ref 434,.int 317 0,.int 0 0,.ref 441,.int 340 0,.int 0 0,.ref 448,.int 344 0,.int 0 0,.ref 455,.int 346 0,.int 0 0,.ref 462,.int 361 0,.int 0 0,.ref 469,.int 370 0,.int 0 0,.ref 476,.int 385 0,.int 0 0,.ref 483,.int 392 0,.int 0 0,.ref 488,.int 396 0,.int 0 0,.ref 495,.int 401 0,.int 0 0,.ref 500,.int 406 0,.int 0 0,.ref 507,.int 421 0,.int 0 0,.ref 514,.int 442 0,.int 0 0,.ref 519]),#[]⟩),
(13,⟨(.type "code"),none,(.fields #[.str "<module>" 182,.str "<module>" 183,.str "/claim/cut.py" 184,.int 1 0,.int 0 0,.int 0 0,.int 0 0,.int 0 0,.ref 11,.bool false,.int 181 0,.ref 12,.none,.none,.none,.none,.int 185 0,.int 1 0,.str "/claim/cut.py" 186]),#[]⟩),
(14,fr 13 3 "__main__" 164),
(16,bi "type.__prepare__" (.type "type")),
(17,⟨(.type "dict"),none,(.dict #[ky P "__module__" 196 (.str "elderhouse.errors" 187),ky P "__qualname__" 198 (.str "HouseError" 197),⟨PyData.keyHash P "__firstlineno__",.str "__firstlineno__" 200,.int 2 199⟩,ky P "__static_attributes__" 201 (.ref 22)] 4),#[]⟩),
(18,et),
(19,e0),
(20,⟨(.type "code"),none,(.fields #[.str "HouseError" 191,.str "HouseError" 192,.str "/claim/cut.py" 193,.int 2 0,.int 0 0,.int 0 0,.int 0 0,.int 0 0,.ref 18,.bool false,.int 181 0,.ref 19,.none,.none,.none,.none,.int 194 0,.int 2 0,.str "/claim/cut.py" 195]),#[]⟩),
(21,fr 20 17 "elderhouse.errors" 187),
(26,su 24),
(27,bi "object.__init_subclass__" (.ref 24)),
(29,bi "type.__prepare__" (.type "type")),
(30,⟨(.type "dict"),none,(.dict #[ky P "__module__" 214 (.str "elderhouse.errors" 187),ky P "__qualname__" 216 (.str "BadWords" 215),⟨PyData.keyHash P "__firstlineno__",.str "__firstlineno__" 218,.int 4 217⟩,ky P "__init__" 226 (.ref 41),ky P "__static_attributes__" 228 (.ref 42)] 5),#[]⟩),
(31,et),
(32,⟨.none,none,(.fields #[.int 6 0,.int 4 0,.ref 40]),#[]⟩),
(33,⟨(.type "code"),none,(.fields #[.str "BadWords" 209,.str "BadWords" 210,.str "/claim/cut.py" 211,.int 4 0,.int 0 0,.int 0 0,.int 0 0,.int 0 0,.ref 31,.bool false,.int 181 0,.ref 32,.none,.none,.none,.none,.int 212 0,.int 4 0,.str "/claim/cut.py" 213]),#[]⟩),
(34,fr 33 30 "elderhouse.errors" 187),
(36,e0),
(39,fz "__init__" "BadWords.__init__" Z1V),
(45,su 44),
(46,bi "object.__init_subclass__" (.ref 44)),
(48,bi "type.__prepare__" (.type "type")),
(49,⟨(.type "dict"),none,(.dict #[ky P "__module__" 239 (.str "elderhouse.errors" 187),ky P "__qualname__" 241 (.str "BadForm" 240),⟨PyData.keyHash P "__firstlineno__",.str "__firstlineno__" 243,.int 9 242⟩,ky P "__static_attributes__" 244 (.ref 54)] 4),#[]⟩),
(50,et),
(51,e0),
(52,⟨(.type "code"),none,(.fields #[.str "BadForm" 234,.str "BadForm" 235,.str "/claim/cut.py" 236,.int 9 0,.int 0 0,.int 0 0,.int 0 0,.int 0 0,.ref 50,.bool false,.int 181 0,.ref 51,.none,.none,.none,.none,.int 237 0,.int 9 0,.str "/claim/cut.py" 238]),#[]⟩),
(53,fr 52 49 "elderhouse.errors" 187),
(57,su 56),
(58,bi "object.__init_subclass__" (.ref 56)),
(61,e0),
(64,fz "is_told" "is_told" O0P),
(68,e0),
(71,fz "is_name" "is_name" O0Q),
(75,e0),
(78,fz "words" "words" O1h),
(82,e0),
(85,fz "word_at" "word_at" O0R),
(89,e0),
(92,fz "row_at" "row_at" O0Z),
(96,e0),
(99,fz "is_row_sign" "is_row_sign" O0q),
(103,e0),
(104,fz "is_number" "is_number" O0x),
(108,e0),
(109,fz "is_name_row" "is_name_row" O0r),
(113,et),
(114,bi "type.__prepare__" (.type "type")),
(115,⟨(.type "dict"),none,(.dict #[ky P "__module__" 361 (.str "elderhouse.guests" 347),ky P "__qualname__" 363 (.str "Guest" 362),⟨PyData.keyHash P "__firstlineno__",.str "__firstlineno__" 365,.int 64 364⟩,ky P "__init__" 373 (.ref 126),ky P "ahead" 380 (.ref 133),ky P "behind" 387 (.ref 140),ky P "take" 395 (.ref 147),ky P "takes" 403 (.ref 154),ky P "need" 411 (.ref 161),ky P "need_name" 418 (.ref 168),ky P "need_end" 425 (.ref 175),ky P "__static_attributes__" 428 (.ref 176)] 12),#[]⟩),
(116,et),
(117,⟨.none,none,(.fields #[.int 66 0,.int 4 0,.ref 125,.int 70 0,.int 4 0,.ref 132,.int 75 0,.int 4 0,.ref 139,.int 78 0,.int 4 0,.ref 146,.int 85 0,.int 4 0,.ref 153,.int 91 0,.int 4 0,.ref 160,.int 95 0,.int 4 0,.ref 167,.int 100 0,.int 4 0,.ref 174]),#[]⟩),
(118,⟨(.type "code"),none,(.fields #[.str "Guest" 356,.str "Guest" 357,.str "/claim/cut.py" 358,.int 64 0,.int 0 0,.int 0 0,.int 0 0,.int 0 0,.ref 116,.bool false,.int 181 0,.ref 117,.none,.none,.none,.none,.int 359 0,.int 64 0,.str "/claim/cut.py" 360]),#[]⟩),
(119,fr 118 115 "elderhouse.guests" 347),
(121,e0),
(124,fz "__init__" "Guest.__init__" Z1f),
(128,e0),
(131,fz "ahead" "Guest.ahead" Z1N),
(135,e0),
(138,fz "behind" "Guest.behind" Z1y),
(142,e0),
(145,fz "take" "Guest.take" Z2j),
(149,e0),
(152,fz "takes" "Guest.takes" Z1P),
(156,e0),
(159,fz "need" "Guest.need" Z2f),
(163,e0),
(166,fz "need_name" "Guest.need_name" Z0Z),
(170,e0),
(173,fz "need_end" "Guest.need_end" Z1d),
(181,su 178),
(182,bi "object.__init_subclass__" (.ref 178)),
(183,et),
(184,bi "type.__prepare__" (.type "type")),
(185,⟨(.type "dict"),none,(.dict #[ky P "__module__" 445 (.str "elderhouse.terms" 436),ky P "__qualname__" 447 (.str "Term" 446),⟨PyData.keyHash P "__firstlineno__",.str "__firstlineno__" 449,.int 104 448⟩,ky P "__init__" 455 (.ref 194),ky P "plain" 462 (.ref 201),ky P "parts" 469 (.ref 208),ky P "depth" 476 (.ref 215),ky P "size" 483 (.ref 222),ky P "__static_attributes__" 490 (.ref 223)] 9),#[]⟩),
(186,et),
(187,⟨.none,none,(.fields #[.int 106 0,.int 4 0,.ref 193,.int 114 0,.int 4 0,.ref 200,.int 117 0,.int 4 0,.ref 207,.int 120 0,.int 4 0,.ref 214,.int 123 0,.int 4 0,.ref 221]),#[]⟩),
(188,⟨(.type "code"),none,(.fields #[.str "Term" 440,.str "Term" 441,.str "/claim/cut.py" 442,.int 104 0,.int 0 0,.int 0 0,.int 0 0,.int 0 0,.ref 186,.bool false,.int 181 0,.ref 187,.none,.none,.none,.none,.int 443 0,.int 104 0,.str "/claim/cut.py" 444]),#[]⟩),
(189,fr 188 185 "elderhouse.terms" 436),
(191,e0),
(192,fz "__init__" "Term.__init__" Z1k),
(196,e0),
(199,fz "plain" "Term.plain" Z2i),
(203,e0),
(206,fz "parts" "Term.parts" Z2g),
(210,e0),
(213,fz "depth" "Term.depth" Z2a),
(217,e0),
(220,fz "size" "Term.size" Z2y),
(228,su 225),
(229,bi "object.__init_subclass__" (.ref 225)),
(231,e0),
(234,fz "shape_of" "shape_of" Z2P),
(237,et),
(238,bi "type.__prepare__" (.type "type")),
(239,⟨(.type "dict"),none,(.dict #[ky P "__module__" 514 (.str "elderhouse.terms" 436),ky P "__qualname__" 516 (.str "Word" 515),⟨PyData.keyHash P "__firstlineno__",.str "__firstlineno__" 518,.int 135 517⟩,ky P "__init__" 529 (.ref 250),ky P "plain" 536 (.ref 257),ky P "__static_attributes__" 541 (.ref 258)] 6),#[]⟩),
(240,et),
(241,⟨.none,none,(.fields #[.int 137 0,.int 4 0,.ref 249,.int 143 0,.int 4 0,.ref 256]),#[]⟩),
(242,⟨(.type "code"),none,(.fields #[.str "Word" 509,.str "Word" 510,.str "/claim/cut.py" 511,.int 135 0,.int 0 0,.int 0 0,.int 0 0,.int 0 0,.ref 240,.bool false,.int 181 0,.ref 241,.none,.none,.none,.none,.int 512 0,.int 135 0,.str "/claim/cut.py" 513]),#[]⟩),
(243,fr 242 239 "elderhouse.terms" 436),
(245,e0),
(248,fz "__init__" "Word.__init__" Z1r),
(252,e0),
(255,fz "plain" "Word.plain" Z1Z),
(263,su 260),
(264,bi "object.__init_subclass__" (.ref 260)),
(265,et),
(266,bi "type.__prepare__" (.type "type")),
(267,⟨(.type "dict"),none,(.dict #[ky P "__module__" 556 (.str "elderhouse.terms" 436),ky P "__qualname__" 558 (.str "House" 557),⟨PyData.keyHash P "__firstlineno__",.str "__firstlineno__" 560,.int 145 559⟩,ky P "__init__" 571 (.ref 278),ky P "plain" 577 (.ref 283),ky P "__static_attributes__" 582 (.ref 284)] 6),#[]⟩),
(268,et),
(269,⟨.none,none,(.fields #[.int 147 0,.int 4 0,.ref 277,.int 153 0,.int 4 0,.ref 282]),#[]⟩),
(270,⟨(.type "code"),none,(.fields #[.str "House" 551,.str "House" 552,.str "/claim/cut.py" 553,.int 145 0,.int 0 0,.int 0 0,.int 0 0,.int 0 0,.ref 268,.bool false,.int 181 0,.ref 269,.none,.none,.none,.none,.int 554 0,.int 145 0,.str "/claim/cut.py" 555]),#[]⟩),
(271,fr 270 267 "elderhouse.terms" 436),
(273,e0),
(276,fz "__init__" "House.__init__" Z1e),
(280,e0),
(281,fz "plain" "House.plain" Z1K),
(289,su 286),
(290,bi "object.__init_subclass__" (.ref 286)),
(291,et),
(292,bi "type.__prepare__" (.type "type")),
(293,⟨(.type "dict"),none,(.dict #[ky P "__module__" 597 (.str "elderhouse.terms" 436),ky P "__qualname__" 599 (.str "Program" 598),⟨PyData.keyHash P "__firstlineno__",.str "__firstlineno__" 601,.int 156 600⟩,ky P "__init__" 610 (.ref 304),ky P "plain" 616 (.ref 309),ky P "bodies" 622 (.ref 314),ky P "__static_attributes__" 625 (.ref 315)] 7),#[]⟩),
(294,et),
(295,⟨.none,none,(.fields #[.int 158 0,.int 4 0,.ref 303,.int 162 0,.int 4 0,.ref 308,.int 166 0,.int 4 0,.ref 313]),#[]⟩),
(296,⟨(.type "code"),none,(.fields #[.str "Program" 592,.str "Program" 593,.str "/claim/cut.py" 594,.int 156 0,.int 0 0,.int 0 0,.int 0 0,.int 0 0,.ref 294,.bool false,.int 181 0,.ref 295,.none,.none,.none,.none,.int 595 0,.int 156 0,.str "/claim/cut.py" 596]),#[]⟩),
(297,fr 296 293 "elderhouse.terms" 436),
(299,e0),
(302,fz "__init__" "Program.__init__" Z0U),
(306,e0),
(307,fz "plain" "Program.plain" Z1l),
(311,e0),
(312,fz "bodies" "Program.bodies" Z1g),
(320,su 317),
(321,bi "object.__init_subclass__" (.ref 317)),
(323,e0),
(324,fz "pairs_of" "pairs_of" Z2Q),
(329,e0),
(330,fz "read" "read" Z8x),
(334,e0),
(337,fz "need_few_open" "need_few_open" Z1p),
(341,e0),
(344,fz "need_few" "need_few" Z2U),
(348,e0),
(349,fz "need_bounds" "need_bounds" Z1L),
(353,e0),
(356,fz "read_house" "read_house" Z2b),
(360,e0),
(363,fz "read_word" "read_word" Z2p),
(367,e0),
(370,fz "read_pair" "read_pair" Z2z),
(374,e0),
(377,fz "read_kind" "read_kind" Z2r),
(381,e0),
(384,fz "read_list" "read_list" Z2w),
(388,e0),
(391,fz "read_terms" "read_terms" Z0B),
(395,e0),
(398,fz "read_term" "read_term" Z2D),
(402,e0),
(405,fz "read_part" "read_part" Z2C),
(409,e0),
(412,fz "read_if" "read_if" Z3k),
(416,e0),
(419,fz "read_let" "read_let" Z2R),
(423,e0),
(426,fz "read_set" "read_set" Z2O),
(430,e0),
(433,fz "read_pointed" "read_pointed" Z1A),
(437,e0),
(440,fz "read_one" "read_one" Z2S),
(444,e0),
(447,fz "_law_cell_at" "_law_cell_at" Z1z),
(451,e0),
(454,fz "_law_mixed" "_law_mixed" Z1X),
(458,e0),
(461,fz "_law_thing" "_law_thing" Z2d),
(465,e0),
(468,fz "_law_by" "_law_by" Z3s),
(472,e0),
(475,fz "_law_parted" "_law_parted" Z1J),
(479,e0),
(482,fz "_law_folded" "_law_folded" Z1Q),
(486,e0),
(487,fz "_law_row" "_law_row" Z2T),
(491,e0),
(494,fz "_law_text" "_law_text" Z2s),
(498,e0),
(499,fz "_law_short" "_law_short" Z2h),
(503,e0),
(506,fz "_law_tail" "_law_tail" Z2t),
(510,e0),
(513,fz "_law_last" "_law_last" Z2x),
(517,e0),
(518,fz "law" "law" Z9n)]
def mrg:Nat->List (X0×Obj)->List (X0×Obj)->List Obj
 |0,_,_=>[]
 |n+1,(a,x)::l,(b,y)::r=>match Nat.blt a b with
  |true=>x::mrg n l ((b,y)::r)
  |false=>y::mrg n ((a,x)::l) r
 |n+1,[],(_,y)::r=>y::mrg n [] r
 |n+1,(_,x)::l,[]=>x::mrg n l []
 |_+1,[],[]=>[]
noncomputable def TF(p:Program)(w:M0)(os:OsState):W.SharedT:=⟨ofL (mrg 521 (RZ w.params) (KB w.params)) 0 .nil,521,(Sa p w os).heap.life,Array.mk [],W.boot_drawn,967,os⟩
def sF(w:M0)(b:Bool):M0:={w with params:={w.params with followText:=λ x=>if x="special-get-raises" then b else w.params.followText x}}
theorem J8w(w:M0):sF w (w.params.followText "special-get-raises")=w:=by
 have h:(λ x=>if x="special-get-raises" then w.params.followText "special-get-raises" else w.params.followText x)=w.params.followText:=by
  funext x;split
  ·rename_i h;rw[h]
  ·rfl
 unfold sF;rw[h]
theorem b0t(w:M0)(os:OsState):W.segRunT treeTable pw0 (sF w true) 11 an 1 3828 (TB pw0 (sF w true) os) (W.piecesOf (W.behindTheImports pw0) (eN pw0) (cN pw0) po [W.topFrame po])=some (.next,(TF pw0 (sF w true) os),cN pw0,pf):=by
 unfold TF TB Sa;rw[W.Fast.te10110043849684766642,W.Fast.te15667345088766844465,W.Fast.te3245800599906686636];kernel_rfl
theorem b0f(w:M0)(os:OsState):W.segRunT treeTable pw0 (sF w false) 11 an 1 3828 (TB pw0 (sF w false) os) (W.piecesOf (W.behindTheImports pw0) (eN pw0) (cN pw0) po [W.topFrame po])=some (.next,(TF pw0 (sF w false) os),cN pw0,pf):=by
 unfold TF TB Sa;rw[W.Fast.te10110043849684766642,W.Fast.te15667345088766844465,W.Fast.te3245800599906686636];kernel_rfl
theorem b0(w:M0)(os:OsState):W.segRunT treeTable pw0 w 11 an 1 3828 (TB pw0 w os) (W.piecesOf (W.behindTheImports pw0) (eN pw0) (cN pw0) po [W.topFrame po])=some (.next,(TF pw0 w os),cN pw0,pf):=by
 have h:∀b,W.segRunT treeTable pw0 (sF w b) 11 an 1 3828 (TB pw0 (sF w b) os) (W.piecesOf (W.behindTheImports pw0) (eN pw0) (cN pw0) po [W.topFrame po])=some (.next,(TF pw0 (sF w b) os),cN pw0,pf):=λ b=>by
  cases b
  ·exact b0f w os
  ·exact b0t w os
 have h:=h (w.params.followText "special-get-raises");rw[J8w]at h;exact h
theorem b1(w:M0)(os:OsState):(W.topRun treeTable pw0 w 11 an 2 (TF pw0 w os).abs (W.restOf [] (eN pw0) (cN pw0) pf [W.topFrame po])).map (λ s=>(W.staticsOk (importedModules pw0.main.body) (W.boot_heap w.params) s.heap&&W.namesBound pw0 s.heap&&W.gensDone s&&W.laidKept (W.boot_heap w.params) s.heap))=some true:=by
 kernel_rfl
theorem b2(w:M0)(os:OsState):(W.topRun treeTable pw0 w 11 an 2 (TF pw0 w os).abs (W.restOf [] (eN pw0) (cN pw0) pf [W.topFrame po])).map (λ s=>W.openSeen qv ["TRUTHS","STRENGTHS"] (importedModules pw0.main.body) (λ s=>W.xlAt qv [] s&&W.recOk (W.RowW.records rv) s) true s)=some (W.openGood qv ["TRUTHS","STRENGTHS"]):=by
 kernel_rfl
theorem b3(w:M0)(os:OsState):(W.topRun treeTable pw0 w 11 an 2 (TF pw0 w os).abs (W.restOf [] (eN pw0) (cN pw0) pf [W.topFrame po])).map (λ s=>W.Hook.obs (W.kHook KK KA ka_eq) s)=some (W.Hook.val (W.kHook KK KA ka_eq) w):=by
 kernel_rfl
theorem b4(w:M0)(os:OsState):∃T s,W.segRunT treeTable pw0 w 11 an 1 3828 (TB pw0 w os) (W.piecesOf (W.behindTheImports pw0) (eN pw0) (cN pw0) po [W.topFrame po])=some (.next,T,cN pw0,pf)/\W.topRun treeTable pw0 w 11 an 2 T.abs (W.restOf [] (eN pw0) (cN pw0) pf [W.topFrame po])=some s/\(W.staticsOk (importedModules pw0.main.body) (W.boot_heap w.params) s.heap&&W.namesBound pw0 s.heap&&W.gensDone s&&W.laidKept (W.boot_heap w.params) s.heap)=true/\W.openSeen qv ["TRUTHS","STRENGTHS"] (importedModules pw0.main.body) (λ s=>W.xlAt qv [] s&&W.recOk (W.RowW.records rv) s) true s=W.openGood qv ["TRUTHS","STRENGTHS"]/\W.Hook.obs (W.kHook KK KA ka_eq) s=W.Hook.val (W.kHook KK KA ka_eq) w:=by
 obtain⟨s,hs,y1⟩:=qd3.mp (b1 w os);obtain⟨s2,hs2,y2⟩:=qd3.mp (b2 w os);obtain⟨s3,hs3,y3⟩:=qd3.mp (b3 w os);cases qc8 (hs.symm.trans hs2);cases qc8 (hs.symm.trans hs3);exact⟨TF pw0 w os,s,b0 w os,hs,y1,y2,y3⟩
theorem r7(w:M0)(os:OsState):∃s,W.topRun treeTable pw0 w 11 an (12+(1+(3828+2))) (Y0 w os) (W.topStub pw0)=some s/\(W.staticsOk (importedModules pw0.main.body) (W.boot_heap w.params) s.heap&&W.namesBound pw0 s.heap&&W.gensDone s&&W.laidKept (W.boot_heap w.params) s.heap)=true/\W.openSeen qv ["TRUTHS","STRENGTHS"] (importedModules pw0.main.body) (λ s=>W.xlAt qv [] s&&W.recOk (W.RowW.records rv) s) true s=W.openGood qv ["TRUTHS","STRENGTHS"]/\W.Hook.obs (W.kHook KK KA ka_eq) s=W.Hook.val (W.kHook KK KA ka_eq) w:=by
 obtain⟨T,s,h1,h2,h3,h4,h5⟩:=b4 w os;refine⟨s,W.go_top (r1 w os) (W.piece_block (r2 w os) ?_),h3,h4,h5⟩;have h6:=W.segRun_of h1;rw[r3]at h6;have h7:=W.piece_app (rest:=[]) h6 h2;rw[qb6]at h7;exact h7
theorem r8:∀w:M0,((W.boot_heap w.params).isNs mainGlobals&&(Array.mk ([]:List GenState)).size==0)=true/\(W.boot_heap w.params).objs.size=11/\(W.boot_heap w.params).nsMap mainGlobals "__annotations__"=an:=by
 intro w;exact⟨by kernel_rfl,by kernel_rfl,by kernel_rfl⟩
theorem r9:∀w:M0,(W.fencedOpening treeTable pw0 w 7780).map (λ s=>(s.heap,s.gens,s.drawn,s.toks))=some (W.boot_heap w.params,Array.mk [],W.boot_drawn,W.boot_toks):=W.boot_open rfl rfl λ s=>rfl
theorem left:W.LeftO pw0 qv ["TRUTHS","STRENGTHS"] (λ s=>W.xlAt qv [] s&&W.recOk (W.RowW.records rv) s) (W.Hook.obs (W.kHook KK KA ka_eq)) (W.Hook.val (W.kHook KK KA ka_eq)) 7780:=J4Q r9 r8 qQ r7
theorem ws0:rw0.wellSaid=true:=by
 kernel_rfl
end K12
end
section
namespace P15
open PySem
inductive Lb|non|int(i:Int)|bl(b:Bool)|str(x:V0)
noncomputable def Lb.d:Lb->PyData
 | .non=>.none| .int i=>.int i| .bl b=>.bool b| .str x=>.str x
inductive Fm|number|truth|name|self|nt|iff|two|lt|new|elder|call|field|set
noncomputable def Fm.s:Fm->V0
 | .number=>"number"| .truth=>"truth"| .name=>"name"| .self=>"self"| .nt=>"not"| .iff=>"if"| .two=>"two"| .lt=>"let"| .new=>"new"| .elder=>"elder"| .call=>"call"| .field=>"field"| .set=>"set"
inductive Tm|mk(f:Fm)(l:Lb)(ps:List Tm)
noncomputable def Tm.f:Tm->Fm| .mk f _ _=>f
noncomputable def Tm.l:Tm->Lb| .mk _ l _=>l
noncomputable def Tm.ps:Tm->List Tm| .mk _ _ ps=>ps
noncomputable def Z0L(f:Fm)(l:Lb)(ps:List PyData):List PyData:=match f with
 | .self| .nt| .iff=>.str f.s::ps
 | .new| .elder=>[.str f.s,l.d,.tuple ps]
 | .call=>match ps with
  |p::qs=>[.str f.s,p,l.d,.tuple qs]
  |[]=>[]
 | .field| .set=>match ps with
  |p::qs=>.str f.s::p::l.d::qs
  |[]=>[]
 |_=>.str f.s::l.d::ps
mutual
noncomputable def Tm.dat:Tm->PyData
 | .mk f l ps=>.tuple (Z0L f l (dats ps))
noncomputable def dats:List Tm->List PyData
 |[]=>[]
 |t::ts=>t.dat::dats ts
end
mutual
noncomputable def Tm.depth:Tm->Nat
 | .mk _ _ ps=>1+maxD ps
noncomputable def maxD:List Tm->Nat
 |[]=>0
 |t::ts=>max t.depth (maxD ts)
end
mutual
noncomputable def Tm.size:Tm->Nat
 | .mk _ _ ps=>1+sumS ps
noncomputable def sumS:List Tm->Nat
 |[]=>0
 |t::ts=>t.size+sumS ts
end
noncomputable def okF:Fm->Lb->Nat->Prop
 | .number,.int _,n=>n=0
 | .truth,.bl _,n=>n=0
 | .name,.str _,n=>n=0
 | .self,.non,n=>n=0
 | .nt,.non,n=>n=1
 | .iff,.non,n=>n=3
 | .two,.str _,n=>n=2
 | .lt,.str _,n=>n=2
 | .new,.str _,_=>True
 | .elder,.str _,_=>True
 | .call,.str _,n=>1<=n
 | .field,.str _,n=>n=1
 | .set,.str _,n=>n=2
 |_,_,_=>False
inductive Ok:Tm->Prop
 |mk{f:Fm}{l:Lb}{ps:List Tm}:okF f l ps.length->(∀p∈ps,Ok p)->Ok (.mk f l ps)
mutual
noncomputable def Tm.flat:Tm->List Tm
 | .mk f l ps=>.mk f l ps::flatR ps
noncomputable def flatR:List Tm->List Tm
 |[]=>[]
 |t::ts=>flatR ts++t.flat
end
inductive Bld:List Tm->List Tm->Prop
 |nil:Bld [] []
 |snoc{w C:List Tm}{t:Tm}:Bld w (C++t.ps)->Bld (w++[t]) (C++[t])
mutual
theorem Bld.flat:∀(t:Tm){w B:List Tm},Bld w B->Bld (w++t.flat.reverse) (B++[t])
 | .mk f l ps,w,B,h=>by
  have h':=Bld.flats ps h;have e:w++(Tm.mk f l ps).flat.reverse=w++(flatR ps).reverse++[Tm.mk f l ps]:=by
   show w++(Tm.mk f l ps::flatR ps).reverse=_;rw[List.reverse_cons,qb9]
  rw[e];exact .snoc h'
theorem Bld.flats:∀(ts:List Tm){w B:List Tm},Bld w B->Bld (w++(flatR ts).reverse) (B++ts)
 |[],w,B,h=>by
  show Bld (w++[]) (B++[]);rw[qb6,qb6];exact h
 |t::ts,w,B,h=>by
  have h':=Bld.flats ts (Bld.flat t h);show Bld (w++(flatR ts++t.flat).reverse) _;rw[List.reverse_append,<-qb9];rw[qb9 B]at h';exact h'
end
end P15
end
section
namespace L2
open PySem PySem.Spec PyProof.Rows
abbrev Key:=Sum Int V0
def Z7K:Key->Z0->Bool
 | .inl k,v=>Value.isInt k v
 | .inr x,v=>Value.isStrOf x v
def keyH(w:M0):Key->Int
 | .inl k=>hashInt k
 | .inr x=>hashStr w x
theorem Z0N:∀{k:Key}{v:Z0},Z7K k v=true->(∃i t,k=Sum.inl i/\v=Value.int i t)\/(∃x t,k=Sum.inr x/\v=Value.str x t)
 | .inl i,v,h=>by
  obtain⟨t,e⟩:=Value.isInt_shape (k:=i) (v:=v) h;exact .inl ⟨i,t,rfl,e⟩
 | .inr x,v,h=>by
  obtain⟨t,e⟩:=Value.isStrOf_shape (x:=x) (v:=v) h;exact .inr ⟨x,t,rfl,e⟩
theorem J0M(i:Int)(t:Tok):Z7K (.inl i) (.int i t)=true:=by simp[Z7K,Value.isInt]
theorem J1S(x:V0)(t:Tok):Z7K (.inr x) (.str x t)=true:=by simp[Z7K,Value.isStrOf]
theorem J5L(a b:Int):decide ((Sum.inl a:Key)=Sum.inl b)=(a==b):=by
 by_cases e:a=b
 ·subst e;simp
 ·have h:¬(Sum.inl a:Key)=Sum.inl b:=λ q=>e (Sum.inl.inj q);rw[decide_eq_false h];exact(beq_eq_false_iff_ne.mpr e).symm
theorem J6G(a b:V0):decide ((Sum.inr a:Key)=Sum.inr b)=decide (a=b):=by
 by_cases e:a=b
 ·subst e;simp
 ·have h:¬(Sum.inr a:Key)=Sum.inr b:=λ q=>e (Sum.inr.inj q);rw[decide_eq_false h,decide_eq_false e]
theorem J7i(a:Int)(b:V0):decide ((Sum.inl a:Key)=Sum.inr b)=false:=decide_eq_false (λ q=>nomatch q)
theorem J6e(a:V0)(b:Int):decide ((Sum.inr a:Key)=Sum.inl b)=false:=decide_eq_false (λ q=>nomatch q)
def Z2m(prog:Program)(w:M0):PySem.KeyKind prog w Key where
 is:=Z7K
 hash:=keyH w
 inj:=λ v a b ha hb=>by
  rcases Z0N ha with⟨i,t,rfl,rfl⟩|⟨x,t,rfl,rfl⟩
  ·rcases Z0N hb with⟨j,u,rfl,e⟩|⟨y,u,rfl,e⟩
   ·injection e with e1 _;rw[e1]
   ·exact nomatch e
  ·rcases Z0N hb with⟨j,u,rfl,e⟩|⟨y,u,rfl,e⟩
   ·exact nomatch e
   ·injection e with e1 _;rw[e1]
 byValue:=λ k v h=>by
  rcases Z0N h with⟨i,t,rfl,rfl⟩|⟨x,t,rfl,rfl⟩<;>rfl
 pyHash:=λ hv h=>by
  rcases Z0N hv with⟨i,t,rfl,rfl⟩|⟨x,t,rfl,rfl⟩
  ·exact wpAny_pyHash_int h
  ·exact wpAny_pyHash_str h
 eqBool:=λ hu hv h=>by
  rcases Z0N hu with⟨i,t,rfl,rfl⟩|⟨x,t,rfl,rfl⟩
  ·rcases Z0N hv with⟨j,u,rfl,rfl⟩|⟨y,u,rfl,rfl⟩
   ·rw[J5L]at h;exact wpAny_eqBool_int h
   ·rw[J7i]at h;exact SeqAt.EqAt.int_str i t y u _ _ _ _ h
  ·rcases Z0N hv with⟨j,u,rfl,rfl⟩|⟨y,u,rfl,rfl⟩
   ·rw[J6e]at h;exact SeqAt.EqAt.str_int x t j u _ _ _ _ h
   ·rw[J6G]at h;exact wpAny_eqBool_str h
 «strs»:=λ k x t v h=>by
  rcases Z0N h with⟨i,u,rfl,e⟩|⟨y,u,rfl,e⟩
  ·exact nomatch e
  ·injection e with e1 _
   subst e1;cases v<;>rfl
theorem Z7I(prog:Program)(w:M0)(i:Int)(t:Tok):(Z2m prog w).is (.inl i) (.int i t)=true:=J0M i t
theorem Z7x(prog:Program)(w:M0)(x:V0)(t:Tok):(Z2m prog w).is (.inr x) (.str x t)=true:=J1S x t
end L2
namespace L2
open PySem PySem.Spec PyProof.Rows
inductive V where
 |non|bl(b:Bool)|int(i:Int)|str(x:V0)|byt(b:Array UInt8)|flt(b:UInt64)|ref(a:X0)|ty(n:String)
 deriving DecidableEq
def RelV:V->Z0->Prop
 | .non,u=>u=Value.none
 | .bl b,u=>u=Value.bool b
 | .int i,u=>∃t,u=Value.int i t
 | .str x,u=>∃t,u=Value.str x t
 | .byt b,u=>∃t,u=Value.bytes b t
 | .flt b,u=>∃t,u=Value.float b t
 | .ref a,u=>u=Value.ref a
 | .ty n,u=>u=Value.type n
abbrev Vals:List V->List Z0->Prop:=Paired RelV
theorem Vals.length{xs:List V}{us:List Z0}(r:Vals xs us):xs.length=us.length:=Paired.length r
theorem Vals.get:∀{xs:List V}{us:List Z0}{i:Nat}{x:V},Vals xs us->xs[i]?=some x->∃u,us[i]?=some u/\RelV x u
 |_,_,_,_,.nil,e=>by simp at e
 |_,_,0,_,.cons r _,e=>by simp at e;subst e;exact⟨_,rfl,r⟩
 |_,_,i+1,x,.cons _ t,e=>by
  obtain⟨u,h1,h2⟩:=Vals.get (i:=i) (x:=x) t (by simpa using e);exact⟨u,by simpa using h1,h2⟩
theorem Vals.set{x:V}{u:Z0}(r:RelV x u):∀{xs:List V}{us:List Z0}(i:Nat),Vals xs us->Vals (xs.set i x) (us.set i u)
 |_,_,_,.nil=>.nil
 |_,_,0,.cons _ t=>.cons r t
 |_,_,i+1,.cons q t=>.cons q (Vals.set r i t)
theorem Vals.append:∀{xs ys:List V}{us ws:List Z0},Vals xs us->Vals ys ws->Vals (xs++ys) (us++ws)
 |_,_,_,_,.nil,s=>s
 |_,_,_,_,.cons r t,s=>.cons r (Vals.append t s)
theorem Vals.take:∀{xs:List V}{us:List Z0}(n:Nat),Vals xs us->Vals (xs.take n) (us.take n)
 |_,_,0,_=>.nil
 |_,_,_+1,.nil=>.nil
 |_,_,n+1,.cons r t=>.cons r (Vals.take n t)
theorem Vals.drop:∀{xs:List V}{us:List Z0}(n:Nat),Vals xs us->Vals (xs.drop n) (us.drop n)
 |_,_,0,r=>r
 |_,_,_+1,.nil=>.nil
 |_,_,n+1,.cons _ t=>Vals.drop n t
def RelO:Option V->Option Z0->Prop
 |some v,some u=>RelV v u
 |none,none=>True
 |_,_=>False
def KV{κ:Type}:List (κ×V)->List (κ×Z0)->Prop:=Paired λ(p:κ×V) (q:κ×Z0)=>p.1=q.1/\RelV p.2 q.2
def kV:Key->V
 | .inl i=>.int i
 | .inr x=>.str x
inductive HO where
 |lst(xs:List V)
 |tup(xs:List V)
 |dK(kvs:List (Key×V))|dT(kvs:List (List Key×V))
 |set(S:Int->Bool)(n:Nat)
 |ins(C dx:X0)(fs:List (V0×V))
 |own(x:X0)
 |xd(fs:List (V0×V))
 |met(f x:X0)
 |rng(lo hi:Int)
 |frz(o:Obj)(u:HO)
 |tbl(ps:Array Z0)
 |ext(φ:N0->Prop)
abbrev Hp:=X0->Option HO
def upd(H:Hp)(a:X0)(o:HO):Hp:=λ b=>if b=a then some o else H b
theorem Z0e{H:Hp}{a:X0}{o:HO}:upd H a o a=some o:=by unfold upd;rw[if_pos rfl]
theorem Z0h{H:Hp}{a b:X0}{o:HO}(h:b≠a):upd H a o b=H b:=by unfold upd;rw[if_neg h]
theorem Z7A{H:Hp}{a:X0}{o u:HO}:upd (upd H a o) a u=upd H a u:=by
 funext b;unfold upd;split<;>rfl
theorem J0i{H:Hp}{a b:X0}{o u:HO}(h:H a=some o)(h':H b=some u)(d:o≠u):a≠b:=by
 intro e;subst e;rw[h]at h';exact d (qc8 h')
theorem Z0g{H:Hp}{a b:X0}{o:HO}(h:H a=some o)(h':H b=none):a≠b:=by
 intro e;subst e;rw[h]at h';cases h'
theorem Z9e{h:N0}{xs:Array Z0}{n:Nat}:∀o,(h.push {cls:=.type "tuple",data:=.seq xs n}).get? h.objs.size=some o->o.dict=none:=λ o q=>by
 rw[Heap.get?_push_size _ rfl]at q;cases q;rfl
section
variable(P:Program)(w:M0)
def ObjOk(H:Hp)(h:N0)(a:X0):HO->Prop
 | .lst xs=>xs.length<=sizeLine/\∃(its:List Z0)(n:Nat),Vals xs its/\h.get? a=some {cls:=.type "list",data:=.seq its.toArray n}
 | .tup xs=>(xs.length<=sizeLine/\∀o,h.get? a=some o->o.dict=none)/\∃its:List Z0,Vals xs its/\IsTup h a its.toArray
 | .dK kvs=>kvs.length<=sizeLine/\(a==sysModules)=false/\∃vs,KV kvs vs/\h.DictOf (Z2m P w) a vs
 | .dT kvs=>kvs.length<=sizeLine/\(a==sysModules)=false/\∃xs:List (List Key×X0×Z0),
   Paired (λ(p:List Key×V) (q:List Key×X0×Z0)=>p.1=q.1/\H q.2.1=some (.tup (p.1.map kV))/\RelV p.2 q.2.2) kvs xs/\
   ∃o es ep,h.get? a=some o/\o.ExactDict/\o.data=.dict es ep/\es.toList=xs.map (entryOfKey (tupleKind (Z2m P w)))/\(xs.map (·.1)).Nodup
 | .set S n=>h.SetOf (intKind P w) a S n
 | .ins C dx fs=>H dx=some (.own a)/\fs.length<=1000/\dx≠a/\h.get? a=some (W.instObj C dx)/\
   ∃mA,h.Ns1 dx mA/\(∀f,RelO (fs.lookup f) (mA f))/\PySem.Within mA (fs.map (·.1))
 | .own _=>∃o,h.get? a=some o
 | .xd fs=>∃mA,h.Ns1 a mA/\∀f,RelO (fs.lookup f) (mA f)
 | .rng lo hi=>∃t u v,h.get? a=some {cls:=.type "range",data:=.fields #[.int lo t,.int hi u,.int 1 v]}
 | .frz o u=>h.get? a=some o/\ObjOk H h a u
 | .tbl ps=>h.get? a=some {cls:=.none,data:=.fields ps}
 | .met f x=>h.get? a=some (W.methodObj (.ref f) (.ref x))
 | .ext φ=>φ h/\(∃o,h.get? a=some o)/\∀h1 h2:N0,φ h1->(∀o,h1.get? a=some o->h2.get? a=some o)->φ h2
def HOk(H:Hp)(h:N0):Prop:=∀a o,H a=some o->ObjOk P w H h a o
end
section
variable{P:Program}{w:M0}{H H':Hp}{h h':N0}{a:X0}{o:HO}
theorem ObjOk.lt(x:ObjOk P w H h a o):a<h.objs.size:=by
 cases o with
 |lst xs=>obtain⟨_,_,_,_,e⟩:=x;exact Heap.lt_size e
 |tup xs=>obtain⟨_,_,_,p⟩:=x;exact p.lt
 |dK kvs=>obtain⟨_,_,_,_,o,_,_,e,_⟩:=x;exact Heap.lt_size e
 |dT kvs=>obtain⟨_,_,_,_,o,_,_,e,_⟩:=x;exact Heap.lt_size e
 |set S n=>obtain⟨o,_,_,_,e,_⟩:=x;exact Heap.lt_size e
 |ins C dx fs=>obtain⟨_,_,_,e,_⟩:=x;exact Heap.lt_size e
 |own y=>obtain⟨_,e⟩:=x;exact Heap.lt_size e
 |xd fs=>obtain⟨_,⟨_,_,_,e,_⟩,_⟩:=x;exact Heap.lt_size e
 |rng lo hi=>obtain⟨_,_,_,e⟩:=x;exact Heap.lt_size e
 |frz ob u=>obtain⟨e,_⟩:=x;exact Heap.lt_size e
 |tbl ps=>exact Heap.lt_size (show h.get? a=some _ from x)
 |met f y=>exact Heap.lt_size (show h.get? a=some _ from x)
 |ext φ=>obtain⟨_,⟨_,e⟩,_⟩:=x;exact Heap.lt_size e
theorem Paired.mapP{α β:Type}{F G:α->β->Prop}:∀{l₁:List α}{l₂:List β},Paired F l₁ l₂->(∀a b,F a b->G a b)->Paired G l₁ l₂
 |_,_,.nil,_=>.nil
 |_,_,.cons r t,f=>.cons (f _ _ r) (Paired.mapP t f)
theorem ObjOk.stay(x:ObjOk P w H h a o)(k:∀b u,(b=a\/H b=some (.own a))->h.get? b=some u->h'.get? b=some u)(ho:∀b,H b=some (.own a)->H' b=some (.own a))(ht:∀b xs,H b=some (.tup xs)->H' b=some (.tup xs)):ObjOk P w H' h' a o:=by
 induction o with
 |lst xs=>obtain⟨z,its,n,r,e⟩:=x;exact⟨z,its,n,r,k _ _ (.inl rfl) e⟩
 |tup xs=>obtain⟨z,its,r,ob,e,c⟩:=x;exact⟨⟨z.1,λ o q=>by rw[k _ _ (.inl rfl) e]at q;cases q;exact z.2 _ e⟩,its,r,ob,k _ _ (.inl rfl) e,c⟩
 |dK kvs=>obtain⟨z,y,vs,r,ob,es,ep,e,c⟩:=x;exact⟨z,y,vs,r,ob,es,ep,k _ _ (.inl rfl) e,c⟩
 |dT kvs=>
  obtain⟨z,y,xs,r,ob,es,ep,e,c⟩:=x;exact⟨z,y,xs,Paired.mapP r λ p q z=>⟨z.1,ht _ _ z.2.1,z.2.2⟩,ob,es,ep,k _ _ (.inl rfl) e,c⟩
 |set S n=>obtain⟨ob,es,ep,t,e,c⟩:=x;exact⟨ob,es,ep,t,k _ _ (.inl rfl) e,c⟩
 |ins C dx fs=>
  obtain⟨d,z,ne,e,mA,⟨od,es,ep,e2,c⟩,r⟩:=x;exact⟨ho _ d,z,ne,k _ _ (.inl rfl) e,mA,⟨od,es,ep,k _ _ (.inr d) e2,c⟩,r⟩
 |own y=>obtain⟨ob,e⟩:=x;exact⟨ob,k _ _ (.inl rfl) e⟩
 |xd fs=>obtain⟨mA,⟨od,es,ep,e,c⟩,r⟩:=x;exact⟨mA,⟨od,es,ep,k _ _ (.inl rfl) e,c⟩,r⟩
 |rng lo hi=>obtain⟨t,u,v,e⟩:=x;exact⟨t,u,v,k _ _ (.inl rfl) e⟩
 |frz ob u ih=>obtain⟨e,q⟩:=x;exact⟨k _ _ (.inl rfl) e,ih q⟩
 |tbl ps=>
  have e:h.get? a=some {cls:=.none,data:=.fields ps}:=x;show h'.get? a=some {cls:=.none,data:=.fields ps};exact k a _ (.inl rfl) e
 |met f y=>
  have e:h.get? a=some (W.methodObj (.ref f) (.ref y)):=x;show h'.get? a=some (W.methodObj (.ref f) (.ref y));exact k a _ (.inl rfl) e
 |ext φ=>obtain⟨p,⟨o,e⟩,st⟩:=x;exact⟨st _ _ p λ o q=>k _ _ (.inl rfl) q,⟨o,k _ _ (.inl rfl) e⟩,st⟩
theorem HOk.lt(x:HOk P w H h)(e:H a=some o):a<h.objs.size:=(x a o e).lt
theorem HOk.fresh(x:HOk P w H h)(e:h.objs.size<=a):H a=none:=by
 cases q:H a with
 |none=>rfl
 |some u=>exact absurd (qb0 (x.lt q) e) (qb8 _)
theorem HOk.kept(x:HOk P w H h)(k:∀b u,h.get? b=some u->h'.get? b=some u):HOk P w H h':=λ a o e=>
 (x a o e).stay (λ b u _ q=>k b u q) (λ _ q=>q) λ _ _ q=>q
theorem HOk.laid(x:HOk P w H h)(k:∀b u,h.get? b=some u->h'.get? b=some u)(hp:h.objs.size<=a)(new:ObjOk P w (upd H a o) h' a o):HOk P w (upd H a o) h':=λ b u e=>by
 have hn:=x.fresh hp;by_cases hb:b=a
 ·subst hb;rw[Z0e]at e;cases e;exact new
 ·rw[Z0h hb]at e;exact(x b u e).stay (λ c v _ q=>k c v q) (λ c q=>by rw[Z0h (Z0g q hn)];exact q) λ c xs q=>by rw[Z0h (Z0g q hn)];exact q
end
def Rd(H:Hp)(a:X0)(u:HO):Prop:=H a=some u\/∃o,H a=some (.frz o u)
theorem Rd.ok{P:Program}{w:M0}{H:Hp}{h:N0}{a:X0}{u:HO}(r:Rd H a u)(x:HOk P w H h):ObjOk P w H h a u:=by
 rcases r with r|⟨o,r⟩
 ·exact x a u r
 ·obtain⟨_,q⟩:=x a _ r;exact q
def Mut:Option HO->Prop
 |some (.lst _)=>True
 |some (.dK _)=>True
 |some (.dT _)=>True
 |some (.set _ _)=>True
 |some (.ins _ _ _)=>True
 |some (.ext _)=>True
 |_=>False
section
variable{P:Program}{w:M0}{H:Hp}{h h':N0}{x e:X0}{o':HO}
theorem HOk.write(ok:HOk P w H h)(mu:Mut (H x))(he:e=x\/H e=some (.own x))(k:∀b u,b≠e->h.get? b=some u->h'.get? b=some u)(heo:∃u,h'.get? e=some u)(new:ObjOk P w (upd H x o') h' x o'):HOk P w (upd H x o') h':=λ b u q=>by
 have nown:∀c y,H c=some (.own y)->c≠x:=λ c y r z=>by subst z;rw[r]at mu;exact mu
 have ntup:∀c xs,H c=some (.tup xs)->c≠x:=λ c xs r z=>by subst z;rw[r]at mu;exact mu
 by_cases hb:b=x
 ·subst hb;rw[Z0e]at q;cases q;exact new
 ·rw[Z0h hb]at q;by_cases hbe:b=e
  ·have q':H b=some (.own x):=by
    rcases he with z|z
    ·exact absurd (hbe.trans z) hb
    ·rw[hbe];exact z
   rw[q]at q';cases q';obtain⟨v,hv⟩:=heo;exact⟨v,by rw[hbe];exact hv⟩
  ·refine(ok b u q).stay (λ c v hc r=>k c v ?_ r) (λ c r=>by rw[Z0h (nown c b r)];exact r) λ c xs r=>by rw[Z0h (ntup c xs r)];exact r
   rcases hc with rfl|hc
   ·exact hbe
   ·rintro rfl;rcases he with z|z
    ·exact nown c b hc z
    ·rw[hc]at z;cases z;exact hb rfl
end
structure Un(fs ex:List X0)(H H':Hp)(h h':N0):Prop where
 keep:∀b o,h.get? b=some o->H b=none->b∉fs->b∉ex->h'.get? b=some o
 slot:∀b o,h.get? b=some o->H b=none->b∈fs->b∉ex->∃sl,h'.get? b=some {o with slots:=sl}
 free:∀b o,h.get? b=some o->H b=none->b∉ex->H' b=none
 there:∀b o,h.get? b=some o->b∉ex->∃o',h'.get? b=some o'
 tups:∀b xs,H b=some (.tup xs)->H' b=some (.tup xs)
 frzs:∀b o u,H b=some (.frz o u)->H' b=some (.frz o u)
 tbls:∀b ps,H b=some (.tbl ps)->∃more,H' b=some (.tbl (ps++more))
section
variable{fs fs' ex ex':List X0}{H H1 H2:Hp}{h h1 h2 h':N0}{a x e:X0}{o:HO}
theorem Un.any(u:Un fs ex H H1 h h1){b:X0}{ob:Obj}(q:h.get? b=some ob)(n:H b=none)(hx:b∉ex):∃sl,h1.get? b=some {ob with slots:=sl}:=by
 by_cases hb:b∈fs
 ·exact u.slot b ob q n hb hx
 ·exact⟨ob.slots,u.keep b ob q n hb hx⟩
theorem Un.kept(k:∀b u,h.get? b=some u->h'.get? b=some u):Un fs ex H H h h':=
 ⟨λ b ob q _ _ _=>k b ob q,λ b ob q _ _ _=>⟨ob.slots,k b ob q⟩,λ _ _ _ n _=>n,λ b ob q _=>⟨ob,k b ob q⟩,λ _ _ q=>q,λ _ _ _ q=>q,λ _ ps q=>⟨#[],by rw[q];simp⟩⟩
theorem Un.refl:Un fs ex H H h h:=Un.kept λ _ _ q=>q
theorem Un.laid(k:∀b u,h.get? b=some u->h'.get? b=some u)(hp:h.objs.size<=a)(hn:H a=none):Un fs ex H (upd H a o) h h' where
 keep:=λ b u q _ _ _=>k b u q
 slot:=λ b u q _ _ _=>⟨u.slots,k b u q⟩
 free:=λ b u q n _=>by rw[Z0h (qb2 (qb0 (Heap.lt_size q) hp))];exact n
 there:=λ b u q _=>⟨u,k b u q⟩
 tups:=λ b xs q=>by rw[Z0h (Z0g q hn)];exact q
 frzs:=λ b u xs q=>by rw[Z0h (Z0g q hn)];exact q
 tbls:=λ b ps q=>⟨#[],by rw[Z0h (Z0g q hn),q];simp⟩
theorem Un.write(mu:Mut (H x))(he:e=x\/H e=some (.own x))(k:∀b u,b≠e->h.get? b=some u->h'.get? b=some u)(heo:∃u,h'.get? e=some u):Un fs ex H (upd H x o) h h':=by
 have hx:∀b,H b=none->b≠x:=λ b n z=>by subst z;rw[n]at mu;exact mu
 have hb:∀b,H b=none->b≠e:=λ b n z=>by
  subst z;rcases he with r|r
  ·exact hx b n r
  ·rw[n]at r;cases r
 have hm:∀b u,H b=some u->¬Mut (some u)->b≠x:=λ b u q nm z=>by subst z;rw[q]at mu;exact nm mu
 refine⟨λ b u q n _ _=>k b u (hb b n) q,λ b u q n _ _=>⟨u.slots,k b u (hb b n) q⟩,λ b u q n _=>by rw[Z0h (hx b n)];exact n,λ b u q _=>?_,
  λ b xs q=>by rw[Z0h (hm b _ q λ z=>z)];exact q,λ b u xs q=>by rw[Z0h (hm b _ q λ z=>z)];exact q,λ b ps q=>⟨#[],by rw[Z0h (hm b _ q λ z=>z),q];simp⟩⟩
 by_cases hbe:b=e
 ·subst hbe;exact heo
 ·exact⟨u,k b u hbe q⟩
end
def trk(h:N0)(H:Hp):List X0:=(qd7 h.objs.size).filter λ a=>(H a).isSome
def hidT(h:N0)(H:Hp):N0:=W.hideAll h (trk h H)
theorem Z6M(h:N0)(H:Hp):(hidT h H).objs.size=h.objs.size:=W.hideAll_size _ _
theorem Z9g{h:N0}{H:Hp}{b:X0}{o:Obj}(e:h.get? b=some o)(n:H b=none):(hidT h H).get? b=some o:=
 W.hideAll_get _ e λ hm=>by
  have q:(H b).isSome=true:=(List.mem_filter.mp hm).2;rw[n]at q;simp at q
theorem J0P{h:N0}{H:Hp}{b:X0}{o:Obj}(e:(hidT h H).get? b=some o):h.get? b=some o/\H b=none:=by
 have e':h.get? b=some o:=W.of_hideAll (trk h H) e;refine⟨e',?_⟩;cases q:H b with
 |none=>rfl
 |some x=>
  have hm:b∈trk h H:=List.mem_filter.mpr ⟨qf8.mpr (Heap.lt_size e'),by simp[q]⟩;have z:(hidT h H).get? b=none:=W.hideAll_none (trk h H) hm;rw[z]at e;cases e
def J4E(g h:N0)(L:X0):List (X0×Obj):=(qd7 h.objs.size).filterMap λ a=>if a=L\/(g.get? a).isSome=true then none else(h.get? a).map λ o=>(a,o)
def rest(g h:N0)(L d:X0):List (X0×Obj):=(J4E g h L).filter λ p=>decide (p.1≠d)
end L2
namespace L2
open PySem PySem.Spec PyProof.Rows
structure Mod(K:y0)(mg:V0->Option Z0)(base:N0):Prop where
 kin:K.In base
 glob:base.Ns mainGlobals mg
 blt:∃mb,base.Ns builtinsNs mb/\∀x:V0,x≠"__name__"->mb x=bootBuiltins x
 nolimit:base.NoLimit
structure Cx where
 prog:Program
 w:M0
 K:y0
 mg:V0->Option Z0
 base:N0
 A:O0
 N:List V0
 s₀:U0
 H₀:Hp
 env:Env
 outer:List Env
 stack:List Env
 ex:List X0
 fn:V0->Bool
 calm:Bool
 pn:List (X0×Obj)
 xe:Z0->U0->Prop
def frs(l:List Env):List X0:=l.filterMap (·.frame)
abbrev Cx.fs(X:Cx):List X0:=frs X.outer
def Vis(sc:Scope)(x:V0):Prop:=sc.names.lookup x=some .local\/sc.names.lookup x=some .cell\/sc.names.lookup x=some .free
def Loc(sc:Scope)(x:V0):Prop:=sc.names.lookup x=some .local\/sc.names.lookup x=some .cell
def Look(env:Env)(h:N0)(m:V0->Option Z0)(x:V0)(u:Z0):Prop:=
 (env.kindOf x=some .local/\m x=some u)\/((env.kindOf x=some .cell\/env.kindOf x=some .free)/\∃c,env.cells.lookup x=some c/\h.IsCell c (some u))
structure Cx.Ok(X:Cx):Prop where
 mod:Mod X.K X.mg X.base
 kind:X.env.scope.kind=.function
 glob:X.env.globals=mainGlobals
 blt:X.env.builtins=builtinsNs
 above:X.s₀.heap.objs.size<=X.env.locals
 inj:∀x y c,X.env.cells.lookup x=some c->X.env.cells.lookup y=some c->x=y
 has:∀x,(X.env.kindOf x=some .cell\/X.env.kindOf x=some .free)->∃c,X.env.cells.lookup x=some c
 cab:∀x c,X.fn x=true->X.env.cells.lookup x=some c->X.s₀.heap.objs.size<=c
 hd:X.calm=true->X.A.handled=none
 frames:X.A.frames=some X.stack
 stk:X.stack=X.outer\/(X.stack=X.env::X.outer/\X.env.frame=some X.env.locals)
 exf:∀b∈X.ex,b≠X.env.locals/\∀x c,X.env.cells.lookup x=some c->c≠b
 bs:∀b o,X.base.get? b=some o->X.s₀.heap.get? b=some o/\X.H₀ b=none
 bsz:X.base.objs.size<=X.s₀.heap.objs.size
 noex:∀b o,X.base.get? b=some o->b∉X.ex
 exfs:∀b∈X.ex,b∉X.fs
 funs:X.s₀.heap.FunFrames X.base X.outer
 frf:∀b∈X.fs,X.H₀ b=none
structure Inv(X:Cx)(pins:List (X0×Obj))(σ:List (Option V))(H:Hp)(s:U0):Prop where
 ok:X.Ok
 os:s.os=X.s₀.os
 bare:AllBare s.gens
 base:Un X.fs X.ex X.H₀ H X.s₀.heap s.heap
 loc:∃m,s.heap.Ns X.env.locals m/\∀(i:Nat)(x:V0)(v:V),X.N[i]?=some x->σ[i]?=some (some v)->Vis X.env.scope x->∃u,RelV v u/\Look X.env s.heap m x u
 cell:∀x c,X.env.cells.lookup x=some c->∃v,s.heap.IsCell c v
 free:H X.env.locals=none
 freeC:∀x c,X.env.cells.lookup x=some c->H c=none
 pin:∀p∈X.pn++pins,s.heap.get? p.1=some p.2/\H p.1=none/\p.1≠X.env.locals/\p.1∉X.fs/\∀v,p.2.data≠.cell v
 hok:HOk X.prog X.w H s.heap
 len:σ.length=X.N.length
section
variable{X:Cx}{pins:List (X0×Obj)}{σ:List (Option V)}{H H':Hp}{s:U0}{h':N0}
theorem Cx.Ok.nofr(ok:X.Ok){b:X0}{o:Obj}(e:X.base.get? b=some o):b∉X.fs:=λ hb=>by
 have:=(ok.funs.mem hb).1;rw[e]at this;cases this
theorem Inv.bs(I:Inv X pins σ H s):∀b o,X.base.get? b=some o->s.heap.get? b=some o/\H b=none:=λ b o e=>
 ⟨I.base.keep b o (I.ok.bs b o e).1 (I.ok.bs b o e).2 (I.ok.nofr e) (I.ok.noex b o e),I.base.free b o (I.ok.bs b o e).1 (I.ok.bs b o e).2 (I.ok.noex b o e)⟩
theorem Inv.bk(I:Inv X pins σ H s):∀b o,X.base.get? b=some o->s.heap.get? b=some o:=λ b o e=>(I.bs b o e).1
theorem Inv.mod(I:Inv X pins σ H s):Mod X.K X.mg X.base:=I.ok.mod
theorem Inv.kIn(I:Inv X pins σ H s):X.K.In s.heap:=I.ok.mod.kin.keeps I.bk
theorem Inv.lt(I:Inv X pins σ H s):X.env.locals<s.heap.objs.size:=let⟨_,hn,_⟩:=I.loc;hn.lt
theorem Inv.sz(I:Inv X pins σ H s):X.s₀.heap.objs.size<=s.heap.objs.size:=qa1 I.ok.above (qg6 I.lt)
theorem Inv.nofs(I:Inv X pins σ H s){a:X0}(h:s.heap.objs.size<=a):a∉X.fs:=λ hb=>by
 obtain⟨_,o,ho,_⟩:=I.ok.funs.mem hb;exact absurd (qb0 (Heap.lt_size ho) (qa1 I.sz h)) (qb8 _)
theorem Inv.cne(I:Inv X pins σ H s):∀x c,X.env.cells.lookup x=some c->c≠X.env.locals:=λ x c e z=>by
 obtain⟨v,o,ho,hd⟩:=I.cell x c e;obtain⟨m,⟨o',es,ep,ho',hd',_⟩,_⟩:=I.loc;rw[z,ho']at ho;cases ho;rw[hd']at hd;cases hd
theorem Inv.funs(I:Inv X pins σ H s):s.heap.FunFrames X.base X.outer:=by
 have all:∀(l:List Env),(∀b∈frs l,b∈X.fs)->X.s₀.heap.FunFrames X.base l->s.heap.FunFrames X.base l:=by
  intro l;induction l with
  |nil=>intro _ _;trivial
  |cons env r ih=>
   intro hs hl;obtain⟨hk,⟨L,o,hf,hn,ho,hd⟩,hr⟩:=hl;have hL:L∈X.fs:=hs L (by unfold frs;rw[qf9,hf];exact qa6);obtain⟨sl,e⟩:=I.base.slot L o ho (I.ok.frf L hL) hL λ z=>I.ok.exfs L z hL;exact⟨hk,⟨L,_,hf,hn,e,hd⟩,ih (λ b hb=>hs b (by unfold frs;rw[qf9,hf];exact qa8 _ hb)) hr⟩
 exact all X.outer (λ _ hb=>hb) I.ok.funs
theorem Inv.stack(I:Inv X pins σ H s):s.heap.FunFrames X.base X.stack:=by
 rcases I.ok.stk with e|⟨e,hf⟩
 ·rw[e];exact I.funs
 ·rw[e];obtain⟨m,hn,_⟩:=I.loc;refine .cons (by rw[I.ok.kind];decide) hf hn ?_ I.funs;exact Heap.get?_none_of_le (qa1 I.ok.bsz I.ok.above)
theorem Inv.stkSub(I:Inv X pins σ H s):∀b∈frs X.stack,b∈X.env.locals::X.fs:=λ b hb=>by
 rcases I.ok.stk with e|⟨e,hf⟩
 ·rw[e]at hb;exact qa8 _ hb
 ·rw[e]at hb;unfold frs at hb;rw[qf9,hf]at hb;exact hb
theorem Inv.stkFree(I:Inv X pins σ H s):∀b∈frs X.stack,H b=none:=λ b hb=>by
 rcases qa2.mp (I.stkSub b hb)with e|hb
 ·rw[e];exact I.free
 ·obtain⟨_,o,ho,_⟩:=I.ok.funs.mem hb;exact I.base.free b o ho (I.ok.frf b hb) λ z=>I.ok.exfs b z hb
theorem Inv.step{g':Array GenState}{t':Nat}{d':Drawn}{ch:List X0}(I:Inv X pins σ H s)(hch:∀b∈ch,(b∈X.ex\/X.s₀.heap.objs.size<=b)/\b≠X.env.locals/\(∀x c,X.env.cells.lookup x=some c->c≠b)/\∀p∈X.pn++pins,p.1≠b)(keep:∀b o,b≠X.env.locals->b∉X.fs->b∉ch->s.heap.get? b=some o->H b=none->h'.get? b=some o)(slot:∀b o,b≠X.env.locals->b∈X.fs->b∉ch->s.heap.get? b=some o->H b=none->∃sl,h'.get? b=some {o with slots:=sl})(free:∀b o,b∉ch->s.heap.get? b=some o->H b=none->H' b=none)(there:∀b o,b∉ch->s.heap.get? b=some o->∃o',h'.get? b=some o')(tups:∀b xs,H b=some (.tup xs)->H' b=some (.tup xs))(frzs:∀b o u,H b=some (.frz o u)->H' b=some (.frz o u))(tbls:∀b ps,H b=some (.tbl ps)->∃more,H' b=some (.tbl (ps++more)))(ns:∀m,s.heap.Ns X.env.locals m->h'.Ns X.env.locals m)(hok:HOk X.prog X.w H' h')(hg:AllBare g'):Inv X pins σ H' {s with heap:=h',gens:=g',drawn:=d',toks:=t'}:=by
 have neL:∀b o,X.s₀.heap.get? b=some o->b≠X.env.locals:=λ b o e=>qb2 (qb0 (Heap.lt_size e) I.ok.above);have neC:∀b o,X.s₀.heap.get? b=some o->b∉X.ex->b∉ch:=λ b o e hx hb=>by
  rcases(hch b hb).1 with z|z
  ·exact hx z
  ·exact absurd (qb0 (Heap.lt_size e) z) (qb8 _)
 have cellK:∀x c,X.env.cells.lookup x=some c->∀v,s.heap.IsCell c v->h'.IsCell c v:=λ x c e v ⟨o,ho,hd⟩=>by
  have nch:c∉ch:=λ z=>(hch c z).2.2.1 x c e rfl;by_cases hc:c∈X.fs
  ·obtain⟨sl,q⟩:=slot c o (I.cne x c e) hc nch ho (I.freeC x c e);exact⟨_,q,hd⟩
  ·exact⟨o,keep c o (I.cne x c e) hc nch ho (I.freeC x c e),hd⟩
 refine⟨I.ok,I.os,hg,⟨λ b o e n hb hx=>?_,λ b o e n hb hx=>?_,λ b o e n hx=>?_,λ b o e hx=>?_,λ b xs e=>tups b xs (I.base.tups b xs e),λ b o xs e=>frzs b o xs (I.base.frzs b o xs e),λ b ps e=>?_⟩,?_,λ x c e=>?_,?_,λ x c e=>?_,λ p hp=>?_,hok,I.len⟩
 ·exact keep b o (neL b o e) hb (neC b o e hx) (I.base.keep b o e n hb hx) (I.base.free b o e n hx)
 ·obtain⟨sl,e1⟩:=I.base.slot b o e n hb hx;obtain⟨sl',e2⟩:=slot b _ (neL b o e) hb (neC b o e hx) e1 (I.base.free b o e n hx);exact⟨sl',e2⟩
 ·obtain⟨o',e1⟩:=I.base.there b o e hx;exact free b o' (neC b o e hx) e1 (I.base.free b o e n hx)
 ·obtain⟨o',e1⟩:=I.base.there b o e hx;exact there b o' (neC b o e hx) e1
 ·obtain⟨m1,e1⟩:=I.base.tbls b ps e;obtain⟨m2,e2⟩:=tbls b _ e1;exact⟨m1++m2,by rw[e2,Array.append_assoc]⟩
 ·obtain⟨m,hn,hl⟩:=I.loc;refine⟨m,ns m hn,λ i x v e1 e2 e3=>?_⟩;obtain⟨u,r,l⟩:=hl i x v e1 e2 e3;refine⟨u,r,?_⟩;rcases l with l|⟨k,c,e,z⟩
  ·exact .inl l
  ·exact .inr ⟨k,c,e,cellK x c e _ z⟩
 ·obtain⟨v,z⟩:=I.cell x c e;exact⟨v,cellK x c e v z⟩
 ·obtain⟨m,⟨o,_,_,ho,_⟩,_⟩:=I.loc;exact free _ o (λ z=>(hch _ z).2.1 rfl) ho I.free
 ·obtain⟨v,o,ho,hd⟩:=I.cell x c e;exact free c o (λ z=>(hch c z).2.2.1 x c e rfl) ho (I.freeC x c e)
 ·obtain⟨e,n,ne,nf,d⟩:=I.pin p hp;have nch:p.1∉ch:=λ z=>(hch p.1 z).2.2.2 p hp rfl;exact⟨keep p.1 p.2 ne nf nch e n,free p.1 p.2 nch e n,ne,nf,d⟩
theorem Inv.un{t':Nat}(I:Inv X pins σ H s)(u:Un X.fs [] H H' s.heap h')(hok:HOk X.prog X.w H' h'):Inv X pins σ H' {s with heap:=h',toks:=t'}:=by
 obtain⟨m,⟨o,es,ep,ho,r⟩,_⟩:=id I.loc;obtain⟨sl,hL⟩:=u.any ho I.free (by simp);exact I.step (g':=s.gens) (d':=s.drawn) (ch:=[]) (λ _ z=>nomatch z) (λ b o _ hb _ e n=>u.keep b o e n hb (by simp)) (λ b o _ hb _ e n=>u.slot b o e n hb (by simp)) (λ b o _ e n=>u.free b o e n (by simp)) (λ b o _ e=>u.there b o e (by simp)) u.tups u.frzs u.tbls (λ m' hm=>by
  obtain⟨o',es',ep',ho',r'⟩:=hm;rw[ho]at ho';cases ho';exact⟨_,es',ep',hL,r'⟩) hok I.bare
theorem Inv.call{g':Array GenState}{t':Nat}{d':Drawn}{ch:List X0}(I:Inv X pins σ H s)(u:Un (frs X.stack) ch H H' s.heap h')(hok:HOk X.prog X.w H' h')(hg:AllBare g')(hch:∀b∈ch,(b∈X.ex\/X.s₀.heap.objs.size<=b)/\b≠X.env.locals/\(∀x c,X.env.cells.lookup x=some c->c≠b)/\∀p∈X.pn++pins,p.1≠b):Inv X pins σ H' {s with heap:=h',gens:=g',drawn:=d',toks:=t'}:=by
 obtain⟨m,⟨o,es,ep,ho,r⟩,_⟩:=id I.loc;obtain⟨sl,hL⟩:=u.any ho I.free λ z=>(hch _ z).2.1 rfl;exact I.step (ch:=ch) hch (λ b o hL hb hc e n=>u.keep b o e n (λ z=>(qa2.mp (I.stkSub b z)).elim hL hb) hc) (λ b o _ _ hc e n=>u.any e n hc) (λ b o hc e n=>u.free b o e n hc) (λ b o hc e=>u.there b o e hc) u.tups u.frzs u.tbls (λ m' hm=>by
  obtain⟨o',es',ep',ho',r'⟩:=hm;rw[ho]at ho';cases ho';exact⟨_,es',ep',hL,r'⟩) hok hg
theorem Inv.turned{t':Nat}{it:X0}(I:Inv X pins σ H s)(k:∀b o,b≠it->s.heap.get? b=some o->h'.get? b=some o)(hn:H it=none)(hL:it≠X.env.locals)(h1:it∈X.ex\/X.s₀.heap.objs.size<=it)(h2:∀x c,X.env.cells.lookup x=some c->c≠it)(h3:∀p∈X.pn++pins,p.1≠it):Inv X pins σ H {s with heap:=h',toks:=t'}:=by
 have nit:∀b u,H b=some u->b≠it:=λ b u e z=>by rw[z,hn]at e;cases e
 refine I.step (g':=s.gens) (d':=s.drawn) (ch:=[it]) (λ b hb=>?_) (λ b o _ _ hc e _=>k b o (λ z=>hc (by simp [z])) e) (λ b o _ _ hc e _=>⟨o.slots,k b o (λ z=>hc (by simp [z])) e⟩) (λ _ _ _ _ n=>n)
  (λ b o hc e=>⟨o,k b o (λ z=>hc (by simp[z])) e⟩) (λ _ _ e=>e) (λ _ _ _ e=>e) (λ b ps e=>⟨#[],by rw[e];simp⟩) (λ m hm=>?_) (λ b u e=>?_) I.bare
 ·have e:b=it:=by simpa using hb
  subst e;exact⟨h1,hL,h2,h3⟩
 ·obtain⟨o,es,ep,ho,r⟩:=hm;exact⟨o,es,ep,k _ o (Ne.symm hL) ho,r⟩
 ·refine(I.hok b u e).stay (λ c v hc q=>k c v ?_ q) (λ _ q=>q) λ _ _ q=>q;rcases hc with z|z
  ·rw[z];exact nit b u e
  ·exact nit c _ z
theorem Inv.tok(I:Inv X pins σ H s)(t:Nat):Inv X pins σ H {s with toks:=t}:=I.un (h':=s.heap) (t':=t) Un.refl I.hok
theorem Inv.kept{t':Nat}(I:Inv X pins σ H s)(k:∀b u,s.heap.get? b=some u->h'.get? b=some u):Inv X pins σ H {s with heap:=h',toks:=t'}:=I.un (Un.kept k) (I.hok.kept k)
theorem Inv.laid{a:X0}{o:HO}{t':Nat}(I:Inv X pins σ H s)(k:∀b u,s.heap.get? b=some u->h'.get? b=some u)(hp:s.heap.objs.size<=a)(new:ObjOk X.prog X.w (upd H a o) h' a o):Inv X pins σ (upd H a o) {s with heap:=h',toks:=t'}:=I.un (Un.laid k hp (I.hok.fresh hp)) (I.hok.laid k hp new)
theorem Inv.write{x e:X0}{o:HO}{t':Nat}(I:Inv X pins σ H s)(mu:Mut (H x))(he:e=x\/H e=some (.own x))(k:∀b u,b≠e->s.heap.get? b=some u->h'.get? b=some u)(heo:∃u,h'.get? e=some u)(new:ObjOk X.prog X.w (upd H x o) h' x o):Inv X pins σ (upd H x o) {s with heap:=h',toks:=t'}:=I.un (Un.write mu he k heo) (I.hok.write mu he k heo new)
theorem Inv.pins_of{pins':List (X0×Obj)}(I:Inv X pins σ H s)(h:∀p∈pins',s.heap.get? p.1=some p.2/\H p.1=none/\p.1≠X.env.locals/\p.1∉X.fs/\∀v,p.2.data≠.cell v):Inv X pins' σ H s:=
 ⟨I.ok,I.os,I.bare,I.base,I.loc,I.cell,I.free,I.freeC,λ p hp=>(qd4.mp hp).elim (λ z=>I.pin p (qg0 _ z)) (h p),I.hok,I.len⟩
theorem Z7Y{N:List V0}(hN:N.Nodup){i j:Nat}{x:V0}(a:N[i]?=some x)(b:N[j]?=some x):i=j:=by
 obtain⟨h1,e1⟩:=qb7.mp a;obtain⟨h2,e2⟩:=qb7.mp b;exact(List.getElem_inj hN).mp (e1.trans e2.symm)
theorem Z7b{M:Model}{A:O0}{E:Z0->U0->Prop}{i:Nat}{x:V0}{v:V}{u:Z0}{Q:Unit->U0->Prop}(I:Inv X pins σ H s)(hN:X.N.Nodup)(hi:X.N[i]?=some x)(hx:Loc X.env.scope x)(r:RelV v u)(h:∀s',Inv X pins (σ.set i (some v)) H s'->(∃a,Heap.SameBut a s.heap s'.heap/\(a=X.env.locals\/X.env.cells.lookup x=some a))->Q () s')(hf:X.fn x=true\/X.env.scope.names.lookup x=some .local:=by first|exact .inl rfl|exact .inr rfl|assumption):wpAny M A (storeName X.env x u) Q E s:=by
 obtain⟨m,hn,hl⟩:=id I.loc;have hcls:(X.env.scope.kind==.class||(X.env.scope.kind==.module&&X.env.locals !=X.env.globals))=false:=by rw[I.ok.kind];rfl
 have hiσ:i<σ.length:=by rw[I.len];exact(qb7.mp hi).1
 have cne:=I.cne;have tracked:∀{a:X0}{h':N0},(∃o,s.heap.get? a=some o/\H a=none)->Heap.SameBut a s.heap h'->HOk X.prog X.w H h':=λ{a h'} ha hs b ob e=>by
  obtain⟨_,_,hfree⟩:=ha;refine(I.hok b ob e).stay (λ c w' hc q=>(hs.2 c ?_).trans q) (λ _ q=>q) λ _ _ q=>q;rintro rfl;rcases hc with rfl|hc
  ·rw[hfree]at e;cases e
  ·rw[hfree]at hc;cases hc
 rcases hx with hk|hk
 ·refine wpAny_storeName_local hk hn (λ h' hn' hs=>?_) hcls;obtain⟨oL,_,_,hoL,_⟩:=id hn;refine h _ ⟨I.ok,I.os,I.bare,⟨λ b o e n hb hx=>?_,λ b o e n hb hx=>?_,I.base.free,λ b o e hx=>?_,I.base.tups,I.base.frzs,I.base.tbls⟩,⟨_,hn',λ j y v' e1 e2 e3=>?_⟩,λ y c e=>?_,I.free,I.freeC,λ p hp=>?_,tracked ⟨oL,hoL,I.free⟩ hs,by simpa using I.len⟩ ⟨_,hs,.inl rfl⟩
  ·exact(hs.2 b (qb2 (qb0 (Heap.lt_size e) I.ok.above))).trans (I.base.keep b o e n hb hx)
  ·obtain⟨sl,e1⟩:=I.base.slot b o e n hb hx;exact⟨sl,(hs.2 b (qb2 (qb0 (Heap.lt_size e) I.ok.above))).trans e1⟩
  ·obtain⟨o',e1⟩:=I.base.there b o e hx;exact⟨o',(hs.2 b (qb2 (qb0 (Heap.lt_size e) I.ok.above))).trans e1⟩
  ·by_cases hj:j=i
   ·subst hj;rw[hi]at e1;cases e1;rw[List.getElem?_set_self hiσ]at e2;cases e2;exact⟨u,r,.inl ⟨hk,by simp⟩⟩
   ·rw[List.getElem?_set_ne (Ne.symm hj)]at e2;obtain⟨u',r',q⟩:=hl j y v' e1 e2 e3;refine⟨u',r',?_⟩;rcases q with⟨k,e⟩|⟨k,c,e,z⟩
    ·refine .inl ⟨k,?_⟩;have:y≠x:=λ e=>hj (Z7Y hN e1 (e▸hi));simp[this,e]
    ·exact .inr ⟨k,c,e,z.sameBut hs (cne y c e)⟩
  ·obtain⟨w',z⟩:=I.cell y c e;exact⟨w',z.sameBut hs (cne y c e)⟩
  ·obtain⟨e,n,ne,nf,d⟩:=I.pin p hp;exact⟨(hs.2 p.1 ne).trans e,n,ne,nf,d⟩
 ·have hfn:X.fn x=true:=by
   rcases hf with z|z
   ·exact z
   ·rw[z]at hk;cases hk
  obtain⟨c,hc⟩:=I.ok.has x (.inl hk);obtain⟨w',z⟩:=I.cell x c hc;refine wpAny_storeName_cell I.ok.kind hk hc z (λ h' hc' hs=>?_);obtain⟨oc,hoc,hocd⟩:=id z;refine h {s with heap:=h'} ⟨I.ok,I.os,I.bare,⟨λ b o e n hb hx=>?_,λ b o e n hb hx=>?_,I.base.free,λ b o e hx=>?_,I.base.tups,I.base.frzs,I.base.tbls⟩,⟨m,hn.sameBut hs (Ne.symm (cne x c hc)),λ j y v' e1 e2 e3=>?_⟩,λ y c' e=>?_,I.free,I.freeC,λ p hp=>?_,tracked ⟨oc,hoc,I.freeC x c hc⟩ hs,by simpa using I.len⟩ ⟨c,hs,.inr hc⟩
  ·exact(hs.2 b (qb2 (qb0 (Heap.lt_size e) (I.ok.cab x c hfn hc)))).trans (I.base.keep b o e n hb hx)
  ·obtain⟨sl,e1⟩:=I.base.slot b o e n hb hx;exact⟨sl,(hs.2 b (qb2 (qb0 (Heap.lt_size e) (I.ok.cab x c hfn hc)))).trans e1⟩
  ·obtain⟨o',e1⟩:=I.base.there b o e hx;exact⟨o',(hs.2 b (qb2 (qb0 (Heap.lt_size e) (I.ok.cab x c hfn hc)))).trans e1⟩
  ·by_cases hj:j=i
   ·subst hj;rw[hi]at e1;cases e1;rw[List.getElem?_set_self hiσ]at e2;cases e2;exact⟨u,r,.inr ⟨.inl hk,c,hc,hc'⟩⟩
   ·rw[List.getElem?_set_ne (Ne.symm hj)]at e2;obtain⟨u',r',q⟩:=hl j y v' e1 e2 e3;refine⟨u',r',?_⟩;rcases q with q|⟨k,c',e,z'⟩
    ·exact .inl q
    ·refine .inr ⟨k,c',e,z'.sameBut hs ?_⟩;rintro rfl;exact hj (Z7Y hN e1 (I.ok.inj _ _ _ e hc▸hi))
  ·by_cases hcc:c'=c
   ·subst hcc;exact⟨_,hc'⟩
   ·obtain⟨w2,z2⟩:=I.cell y c' e;exact⟨w2,z2.sameBut hs hcc⟩
  ·obtain⟨e,n,ne,nf,d⟩:=I.pin p hp;refine⟨(hs.2 p.1 ?_).trans e,n,ne,nf,d⟩;intro q;rw[q,hoc]at e;have q':oc=p.2:=qc8 e;exact d w' (by rw[<-q'];exact hocd)
theorem Z3q{M:Model}{A:O0}{E:Z0->U0->Prop}{i:Nat}{x:V0}{v:V}{u:Z0}{Q:Unit->U0->Prop}(I:Inv X pins σ H s)(hN:X.N.Nodup)(hi:X.N[i]?=some x)(hx:Loc X.env.scope x)(r:RelV v u)(h:∀s',Inv X pins (σ.set i (some v)) H s'->Q () s')(hf:X.fn x=true\/X.env.scope.names.lookup x=some .local:=by first|exact .inl rfl|exact .inr rfl|assumption):wpAny M A (storeName X.env x u) Q E s:=
 Z7b I hN hi hx r (λ s' I' _=>h s' I') hf
theorem Inv.call'{s':U0}{ch:List X0}(I:Inv X pins σ H s)(ho:s'.os=s.os)(u:Un (frs X.stack) ch H H' s.heap s'.heap)(hok:HOk X.prog X.w H' s'.heap)(hg:AllBare s'.gens)(hch:∀b∈ch,(b∈X.ex\/X.s₀.heap.objs.size<=b)/\b≠X.env.locals/\(∀x c,X.env.cells.lookup x=some c->c≠b)/\∀p∈X.pn++pins,p.1≠b):Inv X pins σ H' s':=by
 obtain⟨h',g',d',t',o'⟩:=s';have e:o'=s.os:=ho;subst e;exact I.call (g':=g') (t':=t') (d':=d') u hok hg hch
end
abbrev XK:=Z0->Option X0->Hp->Prop
abbrev St:=List (Option V)
abbrev VK:=V->Hp->Prop
abbrev TE:=St->Hp->VK->Prop
abbrev TT:=St->Hp->(Bool->Hp->Prop)->Prop
abbrev TA:=St->Hp->(List V->Hp->Prop)->Prop
structure Ends where
 nx:St->Hp->Prop
 rt:VK
 bk:St->Hp->Prop:=λ _ _=>False
 ct:St->Hp->Prop:=λ _ _=>False
abbrev TS:=Ends->St->Hp->Prop
def EP(X:Cx)(pins:List (X0×Obj))(σ:St)(Q:VK)(u:Z0)(s':U0):Prop:=∃v H',Inv X pins σ H' s'/\RelV v u/\Q v H'
def TP(X:Cx)(pins:List (X0×Obj))(σ:St)(Q:Bool->Hp->Prop)(b:Bool)(s':U0):Prop:=∃H',Inv X pins σ H' s'/\Q b H'
def AP(X:Cx)(pins:List (X0×Obj))(σ:St)(Q:List V->Hp->Prop)(us:List Z0)(s':U0):Prop:=∃vs H',Inv X pins σ H' s'/\Vals vs us/\Q vs H'
def SP(X:Cx)(pins:List (X0×Obj))(D:Ends)(f:Flow)(s':U0):Prop:=
 match f with
 | .next=>∃σ' H',Inv X pins σ' H' s'/\D.nx σ' H'
 | .brk=>∃σ' H',Inv X pins σ' H' s'/\D.bk σ' H'
 | .cont=>∃σ' H',Inv X pins σ' H' s'/\D.ct σ' H'
 | .ret u=>∃v σ' H',Inv X pins σ' H' s'/\RelV v u/\D.rt v H'
def PE(X:Cx)(e:Expr)(t:TE):Prop:=
 ∀(pins:List (X0×Obj))(s:U0)(σ:St)(H:Hp)(Q:VK),Inv X pins σ H s->t σ H Q->wpAny (model X.prog X.w) X.A (eval e X.env) (EP X pins σ Q) X.xe s
def PT(X:Cx)(e:Expr)(t:TT):Prop:=
 ∀(pins:List (X0×Obj))(s:U0)(σ:St)(H:Hp)(Q:Bool->Hp->Prop),Inv X pins σ H s->t σ H Q->wpAny (model X.prog X.w) X.A (isTrue e X.env (eval e X.env)) (TP X pins σ Q) X.xe s
def PW(X:Cx)(e:Expr)(t:TT):Prop:=
 ∀(whole:Sem Z0)(pins:List (X0×Obj))(s:U0)(σ:St)(H:Hp)(Q:Bool->Hp->Prop),Inv X pins σ H s->t σ H Q->wpAny (model X.prog X.w) X.A (isTrue e X.env whole) (TP X pins σ Q) X.xe s
theorem PW.pt{X:Cx}{e:Expr}{t:TT}(h:PW X e t):PT X e t:=h _
def PA(X:Cx)(es:List Expr)(t:TA):Prop:=
 ∀(pos:Pos)(pins:List (X0×Obj))(s:U0)(σ:St)(H:Hp)(Q:List V->Hp->Prop),Inv X pins σ H s->t σ H Q->wpAny (model X.prog X.w) X.A (spliced (backTo pos (starEach es X.env))) (AP X pins σ Q) X.xe s
def PS(X:Cx)(st:Stmt)(t:TS):Prop:=
 ∀(pins:List (X0×Obj))(s:U0)(σ:St)(H:Hp)(D:Ends),Inv X pins σ H s->t D σ H->wpAny (model X.prog X.w) X.A (exec st X.env) (SP X pins D) X.xe s
def PSs(X:Cx)(st:List Stmt)(t:TS):Prop:=
 ∀(pins:List (X0×Obj))(s:U0)(σ:St)(H:Hp)(D:Ends),Inv X pins σ H s->t D σ H->wpAny (model X.prog X.w) X.A (execs st X.env) (SP X pins D) X.xe s
theorem thn{α:Type}{t:Sem α}{Q Q':α->U0->Prop}{M:Model}{A:O0}{E:Z0->U0->Prop}{s:U0}(h:wpAny M A t Q E s)(hQ:∀a s,Q a s->Q' a s):wpAny M A t Q' E s:=wpAny_mono h hQ λ _ _ x=>x
end L2
namespace L2
open PySem PySem.Spec PyProof.Rows
section
variable{X:Cx}
theorem bin{a b:Expr}{ta tb:TE}(ha:PE X a ta)(hb:PE X b tb){pins:List (X0×Obj)}{s:U0}{σ:St}{H:Hp}{R:V->V->Hp->Prop}(I:Inv X pins σ H s)(h:ta σ H λ x H1=>tb σ H1 λ y H2=>R x y H2){α:Type}{Q:α->U0->Prop}{f:Z0->Z0->Sem α}(hf:∀v u s2 x y H2,Inv X pins σ H2 s2->RelV x v->RelV y u->R x y H2->wpAny (model X.prog X.w) X.A (f v u) Q X.xe s2):wpAny (model X.prog X.w) X.A (eval a X.env) (λ v s₁=>wpAny (model X.prog X.w) X.A (eval b X.env) (λ u s₂=>wpAny (model X.prog X.w) X.A (f v u) Q X.xe s₂) X.xe s₁) X.xe s:=by
 refine thn (ha pins s σ H _ I h) λ v s1 ⟨x,H1,I1,r1,q1⟩=>?_;refine thn (hb pins s1 σ H1 _ I1 q1) λ u s2 ⟨y,H2,I2,r2,q2⟩=>?_;exact hf v u s2 x y H2 I2 r1 r2 q2
def tVar(i:Nat):TE:=λ σ H Q=>∃v,σ[i]?=some (some v)/\Q v H
def tC(v:V):TE:=λ _ H Q=>Q v H
theorem J4h{i:Nat}{x:V0}{pos:Pos}(hN:X.N[i]?=some x)(hv:Vis X.env.scope x)(hd:(x==("__debug__":V0))=false:=by decide)(hcd:(x==("__classdict__":V0))=false:=by decide):PE X (.Name x pos) (tVar i):=by
 intro pins s σ H Q I h;obtain⟨v,e,h⟩:=h;obtain⟨m,hn,hl⟩:=I.loc;obtain⟨u,r,l⟩:=hl i x v hN e hv;have fin:EP X pins σ Q u s:=⟨v,H,I,r,h⟩;rcases l with⟨hk,hm⟩|⟨hk,c,hc,hcell⟩
 ·exact wpAny_Name (wpAny_loadName_local I.ok.kind hk hn hm fin) hd
 ·rcases hk with hk|hk
  ·exact wpAny_Name (wpAny_loadName_cell I.ok.kind hk hc hcell fin) hd
  ·exact wpAny_Name (wpAny_loadName_free I.ok.kind hk hc hcell fin hcd) hd
theorem Z0f{i j pos}:PE X (.Constant (.int i) j pos) (tC (.int i)):=λ _ _ _ H _ I h=>wpAny_Constant_int ⟨.int i,H,I.tok _,⟨_,rfl⟩,h⟩
theorem Z7J{b j pos}:PE X (.Constant (.bool b) j pos) (tC (.bl b)):=λ _ _ _ H _ I h=>Constant_bool ⟨.bl b,H,I,rfl,h⟩
theorem Z0v{j pos}:PE X (.Constant .none j pos) (tC .non):=λ _ _ _ H _ I h=>Constant_none ⟨.non,H,I,rfl,h⟩
theorem Z0c{x j pos}:PE X (.Constant (.str x) j pos) (tC (.str x)):=λ _ _ _ H _ I h=>Calls.Constant_str ⟨.str x,H,I.tok _,⟨_,rfl⟩,h⟩
def Gl(X:Cx)(x:V0):Prop:=X.env.kindOf x=some .globalImplicit
theorem Z2B{E:Z0->U0->Prop}{pins:List (X0×Obj)}{s:U0}{σ:St}{H:Hp}{x:V0}{u:Z0}{pos:Pos}{Q:Z0->U0->Prop}(I:Inv X pins σ H s)(hg:Gl X x)(hm:X.mg x=some u)(h:Q u s)(hd:(x==("__debug__":V0))=false:=by decide):wpAny (model X.prog X.w) X.A (eval (.Name x pos) X.env) Q E s:=
 Calls.Name_function_global I.ok.kind hg (Calls.loadGlobal_global (by rw[I.ok.glob];exact I.mod.glob.keeps I.bk) hm h) hd
theorem Z4v{E:Z0->U0->Prop}{pins:List (X0×Obj)}{s:U0}{σ:St}{H:Hp}{x:V0}{u:Z0}{pos:Pos}{Q:Z0->U0->Prop}(I:Inv X pins σ H s)(hg:Gl X x)(hm:X.mg x=none)(hv:bootBuiltins x=some u)(h:Q u s)(hn:x≠"__name__":=by decide)(hd:(x==("__debug__":V0))=false:=by decide):wpAny (model X.prog X.w) X.A (eval (.Name x pos) X.env) Q E s:=by
 obtain⟨mb,h1,h2⟩:=I.mod.blt;exact Calls.Name_function_global I.ok.kind hg (Calls.loadGlobal_builtin (by rw[I.ok.glob];exact I.mod.glob.keeps I.bk) hm (by rw[I.ok.blt];exact h1.keeps I.bk) ((h2 x hn).trans hv) h) hd
theorem Z4B{x:V0}{v:V}{u:Z0}{pos:Pos}(hg:Gl X x)(hm:X.mg x=some u)(r:RelV v u)(hd:(x==("__debug__":V0))=false:=by decide):PE X (.Name x pos) (tC v):=
 λ _ _ _ H _ I h=>Z2B I hg hm ⟨v,H,I,r,h⟩ hd
theorem J5m{x:V0}{v:V}{u:Z0}{pos:Pos}(hg:Gl X x)(hm:X.mg x=none)(hv:bootBuiltins x=some u)(r:RelV v u)(hn:x≠"__name__":=by decide)(hd:(x==("__debug__":V0))=false:=by decide):PE X (.Name x pos) (tC v):=
 λ _ _ _ H _ I h=>Z4v I hg hm hv ⟨v,H,I,r,h⟩ hn hd
variable{a b:Expr}{ta tb:TE}{pos:Pos}
def PC(X:Cx)(op:CmpOp)(a b:Expr)(t:TE):Prop:=
 ∀(pins:List (X0×Obj))(s:U0)(σ:St)(H:Hp)(Q:VK),Inv X pins σ H s->t σ H Q->
  wpAny (model X.prog X.w) X.A (eval a X.env) (λ v s₁=>wpAny (model X.prog X.w) X.A (eval b X.env) (λ u s₂=>wpAny (model X.prog X.w) X.A (compareOp op v u) (EP X pins σ Q) X.xe s₂) X.xe s₁) X.xe s
theorem J2q(b:Expr){op:CmpOp}(h:op≠.In)(h2:op≠.NotIn):behindInMarks op b=false:=by
 have e1:(op==CmpOp.In)=false:=by cases op<;>first|rfl|exact absurd rfl h
 have e2:(op==CmpOp.NotIn)=false:=by cases op<;>first|rfl|exact absurd rfl h2
 cases b<;>simp[behindInMarks,e1,e2]
def tB(t:TE):TT:=λ σ H Q=>t σ H λ x H1=>∃c,x=.bl c/\Q c H1
theorem J6U{op:CmpOp}{t:TE}(h:PC X op a b t)(h1:behindInMarks op b=false:=by first|exact J2q _ qQ qQ|rfl):PT X (.Compare a [op] [b] pos) (tB t):=by
 intro pins s σ H Q I hw;refine wpAny_isTrue_Compare1 (thn (h pins s σ H _ I hw) λ v s1 h1=>thn h1 λ u s2 h2=>thn h2 λ c s3 ⟨x,H1,I1,r1,q1⟩=>?_) h1;obtain⟨d,rfl,q⟩:=q1;cases r1;exact wpAny_truthy_bool ⟨H1,I1,q⟩
theorem Z0Q{e:Expr}{t:TE}(h:PE X e t)(he:∀whole,isTrue e X.env whole=(do let v<-whole;standAt e.pos;holding [v] (truthy v)):=by intro _;rfl):PT X e (tB t):=by
 intro pins s σ H Q I hw;refine isTrue_plain (thn (h pins s σ H _ I hw) λ v s1 ⟨x,H1,I1,r1,q1⟩=>?_) (he _);obtain⟨d,rfl,q⟩:=q1;cases r1;exact wpAny_truthy_bool ⟨H1,I1,q⟩
variable{tA tB':TT}{rest:List Expr}
def tAnd(t u:TT):TT:=λ σ H Q=>t σ H λ c H1=>if c=true then u σ H1 Q else Q false H1
def tOr(t u:TT):TT:=λ σ H Q=>t σ H λ c H1=>if c=true then Q true H1 else u σ H1 Q
def tNot(t:TT):TT:=λ σ H Q=>t σ H λ c H1=>Q (!c) H1
theorem Z4z(ha:PT X a tA):PW X (.BoolOp .And [a] pos) tA:=by
 intro wh pins s σ H Q I h;refine isTrue_and (thn (ha pins s σ H Q I h) λ c s1 e=>?_);cases c with
 |true=>exact isTrue_and_nil e
 |false=>exact e
theorem Z9O(ha:PT X a tA):PW X (.BoolOp .Or [a] pos) tA:=by
 intro wh pins s σ H Q I h;refine isTrue_or (thn (ha pins s σ H Q I h) λ c s1 e=>?_);cases c with
 |false=>exact isTrue_or_nil e
 |true=>exact e
theorem Z6C(ha:PT X a tA)(hb:PW X (.BoolOp .And (b::rest) pos) tB'):PW X (.BoolOp .And (a::b::rest) pos) (tAnd tA tB'):=by
 intro wh pins s σ H Q I h;refine isTrue_and (thn (ha pins s σ H _ I h) λ c s1 ⟨H1,I1,q1⟩=>?_);cases c with
 |true=>exact hb wh pins s1 σ H1 Q I1 q1
 |false=>exact⟨H1,I1,q1⟩
theorem J4J(ha:PT X a tA)(hb:PW X (.BoolOp .Or (b::rest) pos) tB'):PW X (.BoolOp .Or (a::b::rest) pos) (tOr tA tB'):=by
 intro wh pins s σ H Q I h;refine isTrue_or (thn (ha pins s σ H _ I h) λ c s1 ⟨H1,I1,q1⟩=>?_);cases c with
 |true=>exact⟨H1,I1,q1⟩
 |false=>exact hb wh pins s1 σ H1 Q I1 q1
theorem Z5b(ha:PT X a tA):PT X (.UnaryOp .Not a pos) (tNot tA):=by
 intro pins s σ H Q I h;exact isTrue_not (ha pins s σ H (λ c H1=>Q (!c) H1) I h)
def J6y(ta tb:TE):TE:=λ σ H Q=>ta σ H λ x H1=>∃c,x=.bl c/\if c=true then tb σ H1 Q else Q (.bl false) H1
def tOrV(ta tb:TE):TE:=λ σ H Q=>ta σ H λ x H1=>∃c,x=.bl c/\if c=true then Q (.bl true) H1 else tb σ H1 Q
def J7m(ta:TE):TE:=λ σ H Q=>ta σ H λ x H1=>∃c,x=.bl c/\Q (.bl (!c)) H1
theorem Z6u{op}{t:TE}(h:PE X a t):PE X (.BoolOp op [a] pos) t:=λ pins s σ H Q I hw=>BoolOp_one (h pins s σ H Q I hw)
theorem Z9I(ha:PE X a ta)(hb:PE X (.BoolOp .And (b::rest) pos) tb):PE X (.BoolOp .And (a::b::rest) pos) (J6y ta tb):=by
 intro pins s σ H Q I h;refine BoolOp_and (thn (ha pins s σ H _ I h) λ v s1 ⟨x,H1,I1,r1,q1⟩=>?_);obtain⟨c,rfl,q1⟩:=q1;cases r1;refine wpAny_truthy_bool ?_;cases c with
 |true=>exact hb pins s1 σ H1 Q I1 q1
 |false=>exact⟨.bl false,H1,I1,rfl,q1⟩
theorem J4V(ha:PE X a ta)(hb:PE X (.BoolOp .Or (b::rest) pos) tb):PE X (.BoolOp .Or (a::b::rest) pos) (tOrV ta tb):=by
 intro pins s σ H Q I h;refine BoolOp_or (thn (ha pins s σ H _ I h) λ v s1 ⟨x,H1,I1,r1,q1⟩=>?_);obtain⟨c,rfl,q1⟩:=q1;cases r1;refine wpAny_truthy_bool ?_;cases c with
 |false=>exact hb pins s1 σ H1 Q I1 q1
 |true=>exact⟨.bl true,H1,I1,rfl,q1⟩
theorem J7e(ha:PE X a ta):PE X (.UnaryOp .Not a pos) (J7m ta):=by
 intro pins s σ H Q I h;refine UnaryOp_ (thn (ha pins s σ H _ I h) λ v s1 ⟨x,H1,I1,r1,q1⟩=>?_);obtain⟨c,rfl,q1⟩:=q1;cases r1;exact not_of (wpAny_truthy_bool ⟨.bl (!c),H1,I1,rfl,q1⟩)
def tIf(t:TT)(ta tb:TE):TE:=λ σ H Q=>t σ H λ c H1=>if c=true then ta σ H1 Q else tb σ H1 Q
theorem Z1j{c:Expr}(hc:PT X c tA)(ha:PE X a ta)(hb:PE X b tb):PE X (.IfExp c a b pos) (tIf tA ta tb):=by
 intro pins s σ H Q I h;refine wpAny_IfExp (thn (hc pins s σ H _ I h) λ d s1 ⟨H1,I1,q1⟩=>?_);cases d with
 |true=>exact ha pins s1 σ H1 Q I1 q1
 |false=>exact hb pins s1 σ H1 Q I1 q1
end
end L2
namespace L2
open PySem PySem.Spec PyProof.Rows
def SqL(K:y0)(H:Hp)(a:X0)(xs:List V):Prop:=
 Rd H a (.lst xs)\/
  ∃(o:Obj)(its:Array Z0)(n:Nat),K.lookup a=some o/\o.cls=.type "list"/\o.dict=none/\o.data=.seq its n/\its.size<=sizeLine/\Vals xs its.toList
def SqT(K:y0)(H:Hp)(a:X0)(xs:List V):Prop:=
 Rd H a (.tup xs)\/
  ∃(o:Obj)(its:Array Z0)(n:Nat),K.lookup a=some o/\(o.cls=.type "tuple"/\o.dict=none)/\o.data=.seq its n/\its.size<=sizeLine/\Vals xs its.toList
def absV:Z0->Option V
 | .none=>some .non
 | .bool b=>some (.bl b)
 | .int i _=>some (.int i)
 | .str x _=>some (.str x)
 | .bytes b _=>some (.byt b)
 | .float b _=>some (.flt b)
 | .ref a=>some (.ref a)
 | .type n=>some (.ty n)
 |_=>none
theorem RelV.abs{x:V}{u:Z0}(r:RelV x u):absV u=some x:=by
 cases x with
 |non=>cases r;rfl
 |bl _=>cases r;rfl
 |int _=>obtain⟨t,rfl⟩:=r;rfl
 |str _=>obtain⟨t,rfl⟩:=r;rfl
 |byt _=>obtain⟨t,rfl⟩:=r;rfl
 |flt _=>obtain⟨t,rfl⟩:=r;rfl
 |ref _=>cases r;rfl
 |ty _=>cases r;rfl
theorem RelV.inj{x y:V}{u:Z0}(r:RelV x u)(q:RelV y u):x=y:=qc8 (r.abs.symm.trans q.abs)
theorem Vals.inj:∀{xs ys:List V}{us:List Z0},Vals xs us->Vals ys us->xs=ys
 |_,_,_,.nil,.nil=>rfl
 |_,_,_,.cons r t,.cons r' t'=>by rw[r.inj r',Vals.inj t t']
section
variable{X:Cx}{pins:List (X0×Obj)}{σ:St}{H:Hp}{s:U0}{a:X0}{xs ys:List V}
theorem SqL.of{K:y0}(h:H a=some (.lst xs)):SqL K H a xs:=.inl (.inl h)
theorem SqT.of{K:y0}(h:H a=some (.tup xs)):SqT K H a xs:=.inl (.inl h)
theorem Inv.list(I:Inv X pins σ H s)(h:SqL X.K H a xs):∃its:List Z0,Vals xs its/\PlainL s.heap a its.toArray/\xs.length<=sizeLine:=by
 rcases h with h|⟨o,its,n,hk,hc,hd,hs,hz,r⟩
 ·obtain⟨z,its,n,r,e⟩:=h.ok I.hok;exact⟨its,r,⟨_,n,e,rfl,rfl,rfl⟩,z⟩
 ·refine⟨its.toList,r,⟨o,n,I.kIn a o hk,hc,hd,by simpa using hs⟩,?_⟩;have e:=r.length;simp only[qg7]at e;lia
theorem Inv.tuple(I:Inv X pins σ H s)(h:SqT X.K H a xs):∃its:List Z0,Vals xs its/\IsTup s.heap a its.toArray/\xs.length<=sizeLine:=by
 rcases h with h|⟨o,its,n,hk,hc,hs,hz,r⟩
 ·obtain⟨z,its,r,p⟩:=h.ok I.hok;exact⟨its,r,p,z.1⟩
 ·refine⟨its.toList,r,⟨o,I.kIn a o hk,hc.1,n,by simpa using hs⟩,?_⟩;have e:=r.length;simp only[qg7]at e;lia
theorem Inv.list_inj(I:Inv X pins σ H s)(h:SqL X.K H a xs)(h':SqL X.K H a ys):xs=ys:=by
 obtain⟨its,r,⟨o,n,e,_,_,d⟩,_⟩:=I.list h;obtain⟨its',r',⟨o',n',e',_,_,d'⟩,_⟩:=I.list h';rw[e]at e';cases e';rw[d]at d';injection d' with d1 _
 have:its=its':=by simpa using congrArg Array.toList d1
 subst this;exact r.inj r'
theorem Inv.tuple_inj(I:Inv X pins σ H s)(h:SqT X.K H a xs)(h':SqT X.K H a ys):xs=ys:=by
 obtain⟨its,r,⟨o,e,_,n,d⟩,_⟩:=I.tuple h;obtain⟨its',r',⟨o',e',_,n',d'⟩,_⟩:=I.tuple h';rw[e]at e';cases e';rw[d]at d';injection d' with d1 _
 have:its=its':=by simpa using congrArg Array.toList d1
 subst this;exact r.inj r'
end
abbrev Cx.wish(X:Cx)(E:Z0->U0->Prop):Cx:={X with xe:=E}
abbrev Cx.nox(X:Cx):Cx:=X.wish λ _ _=>False
theorem Cx.Ok.wish{X:Cx}(ok:X.Ok)(E:Z0->U0->Prop):(X.wish E).Ok:=
 ⟨ok.mod,ok.kind,ok.glob,ok.blt,ok.above,ok.inj,ok.has,ok.cab,ok.hd,ok.frames,ok.stk,ok.exf,ok.bs,ok.bsz,ok.noex,ok.exfs,ok.funs,ok.frf⟩
theorem Cx.Ok.unwish{X:Cx}{E:Z0->U0->Prop}(ok:(X.wish E).Ok):X.Ok:=
 ⟨ok.mod,ok.kind,ok.glob,ok.blt,ok.above,ok.inj,ok.has,ok.cab,ok.hd,ok.frames,ok.stk,ok.exf,ok.bs,ok.bsz,ok.noex,ok.exfs,ok.funs,ok.frf⟩
section
variable{X:Cx}{pins:List (X0×Obj)}{σ:St}{H:Hp}{s:U0}{E:Z0->U0->Prop}
theorem Inv.wish(I:Inv X pins σ H s)(E:Z0->U0->Prop):Inv (X.wish E) pins σ H s:=⟨I.ok.wish E,I.os,I.bare,I.base,I.loc,I.cell,I.free,I.freeC,I.pin,I.hok,I.len⟩
theorem Inv.unwish(I:Inv (X.wish E) pins σ H s):Inv X pins σ H s:=⟨I.ok.unwish,I.os,I.bare,I.base,I.loc,I.cell,I.free,I.freeC,I.pin,I.hok,I.len⟩
theorem SP.unwish{D:Ends}{f:Flow}{s':U0}(h:SP (X.wish E) pins D f s'):SP X pins D f s':=by
 cases f with
 |next=>obtain⟨σ',H',I,q⟩:=h;exact⟨σ',H',I.unwish,q⟩
 |brk=>obtain⟨σ',H',I,q⟩:=h;exact⟨σ',H',I.unwish,q⟩
 |cont=>obtain⟨σ',H',I,q⟩:=h;exact⟨σ',H',I.unwish,q⟩
 |ret u=>obtain⟨v,σ',H',I,r,q⟩:=h;exact⟨v,σ',H',I.unwish,r,q⟩
theorem PSs.nox{st:List Stmt}{t:TS}(h:PSs X.nox st t):PSs X st t:=λ pins s σ H D I hw=>
 wpAny_mono (h pins s σ H D (I.wish _) hw) (λ _ _ q=>q.unwish) λ _ _ z=>False.elim z
end
section
variable{X:Cx}{st:Stmt}{rest:List Stmt}{t u:TS}{e:Expr}{te:TE}{pos:Pos}
def J6u:TS:=λ D σ H=>D.nx σ H
def tSeq(t u:TS):TS:=λ D σ H=>t {D with nx:=u D} σ H
theorem Z0m:PSs X [] J6u:=λ _ _ σ H _ I h=>wpAny_execs_nil ⟨σ,H,I,h⟩
theorem Z0a(h1:PS X st t)(h2:PSs X rest u):PSs X (st::rest) (tSeq t u):=by
 intro pins s σ H D I h;refine wpAny_execs_cons (thn (h1 pins s σ H {D with nx:=u D} I h) λ f s1 q=>?_);cases f with
 |next=>
  obtain⟨σ',H',I',q⟩:=q;exact h2 pins s1 σ' H' D I' q
 |ret v=>exact q
 |brk=>exact q
 |cont=>exact q
theorem Z0b(h1:PS X st t):PSs X [st] t:=by
 intro pins s σ H D I h;refine wpAny_execs_cons (thn (h1 pins s σ H D I h) λ f s1 q=>?_);cases f with
 |next=>exact wpAny_execs_nil q
 |ret v=>exact q
 |brk=>exact q
 |cont=>exact q
theorem Inv.quiet{pins:List (X0×Obj)}{σ:St}{H:Hp}{s:U0}(I:Inv X pins σ H s):interactive X.env=false:=by simp[interactive,I.ok.kind]
def J5i(te:TE):TS:=λ D σ H=>te σ H λ _ H1=>D.nx σ H1
theorem Z0t(he:PE X e te)(hs:swapsWith e none pos.line X.env=pure false:=by rfl):PS X (.Expr e pos) (J5i te):=by
 intro pins s σ H D I h;exact wpAny_Expr_any (thn (he pins s σ H _ I h) λ v s1 ⟨x,H1,I1,r1,q1⟩=>⟨σ,H1,I1,q1⟩) I.quiet hs
def tRet(te:TE):TS:=λ D σ H=>te σ H D.rt
theorem Z0k(he:PE X e te):PS X (.Return (some e) pos) (tRet te):=by
 intro pins s σ H D I h;exact wpAny_Return_some (thn (he pins s σ H _ I h) λ v s1 ⟨x,H1,I1,r1,q1⟩=>⟨x,σ,H1,I1,r1,q1⟩)
def tIfS(c:TT)(t u:TS):TS:=λ D σ H=>c σ H λ b H1=>if b=true then t D σ H1 else u D σ H1
theorem Z0s{c:Expr}{a b:List Stmt}{tc:TT}(hc:PT X c tc)(ha:PSs X a t)(hb:PSs X b u):PS X (.If c a b pos) (tIfS tc t u):=by
 intro pins s σ H D I h;refine wpAny_If (thn (hc pins s σ H _ I h) λ d s1 ⟨H1,I1,q1⟩=>?_);cases d with
 |true=>exact ha pins s1 σ H1 D I1 q1
 |false=>exact hb pins s1 σ H1 D I1 q1
end
abbrev TG:=V->St->Hp->(St->Hp->Prop)->Prop
abbrev TGs:=List V->St->Hp->(St->Hp->Prop)->Prop
def PG(X:Cx)(target:Expr)(t:TG):Prop:=
 ∀(pins:List (X0×Obj))(s:U0)(σ:St)(H:Hp)(v:V)(u:Z0)(Q:St->Hp->Prop),Inv X pins σ H s->RelV v u->t v σ H Q->
  wpAny (model X.prog X.w) X.A (assign target X.env u) (λ _ s'=>∃σ' H',Inv X pins σ' H' s'/\Q σ' H') X.xe s
def PGs(X:Cx)(ts:List Expr)(t:TGs):Prop:=
 ∀(pins:List (X0×Obj))(s:U0)(σ:St)(H:Hp)(vs:List V)(us:List Z0)(Q:St->Hp->Prop),Inv X pins σ H s->Vals vs us->t vs σ H Q->
  wpAny (model X.prog X.w) X.A (assignInOrder ((assignEach ts X.env).map (·.2)) us) (λ _ s'=>∃σ' H',Inv X pins σ' H' s'/\Q σ' H') X.xe s
abbrev TSet:=V->V->V->Hp->(Hp->Prop)->Prop
def PSet(X:Cx)(t:TSet):Prop:=
 ∀(pins:List (X0×Obj))(s:U0)(σ:St)(H:Hp)(o i v:V)(ov iv u:Z0)(Q:Hp->Prop),Inv X pins σ H s->RelV o ov->RelV i iv->RelV v u->t o i v H Q->
  wpAny (model X.prog X.w) X.A (setItem ov iv u) (λ _ s'=>∃H',Inv X pins σ H' s'/\Q H') X.xe s
abbrev TIp:=V->V->Hp->VK->Prop
def PIp(X:Cx)(op:Operator)(t:TIp):Prop:=
 ∀(pins:List (X0×Obj))(s:U0)(σ:St)(H:Hp)(x y:V)(v u:Z0)(Q:VK),Inv X pins σ H s->RelV x v->RelV y u->t x y H Q->
  wpAny (model X.prog X.w) X.A (inplaceOp op v u) (EP X pins σ Q) X.xe s
section
variable{X:Cx}{pos:Pos}
def Z3o(i:Nat):TG:=λ v σ H Q=>Q (σ.set i (some v)) H
theorem Z7u{i:Nat}{x:V0}(hN:X.N.Nodup)(hi:X.N[i]?=some x)(hx:Loc X.env.scope x)(hf:X.fn x=true\/X.env.scope.names.lookup x=some .local:=by first|exact .inl rfl|exact .inr rfl|assumption):PG X (.Name x pos) (Z3o i):=by
 intro pins s σ H v u Q I r h;exact wpAny_assign_Name (Z3q I hN hi hx r (λ s' I'=>⟨_,H,I',h⟩) hf)
def gNil:TGs:=λ vs σ H Q=>vs=[]/\Q σ H
def J5R(t:TG)(u:TGs):TGs:=λ vs σ H Q=>∃v r,vs=v::r/\t v σ H λ σ' H'=>u r σ' H' Q
theorem Z1m:PGs X [] gNil:=by
 intro pins s σ H vs us Q I r h;obtain⟨e,h⟩:=h;subst e;cases r;exact assignInOrder_nil ⟨σ,H,I,h⟩
theorem J3x{e:Expr}{es:List Expr}{t:TG}{u:TGs}(h1:PG X e t)(h2:PGs X es u)(hs:(assignEach (e::es) X.env).map (·.2)=assign e X.env::(assignEach es X.env).map (·.2):=by rfl):PGs X (e::es) (J5R t u):=by
 intro pins s σ H vs us Q I r h;obtain⟨v,vr,e1,h⟩:=h;subst e1;cases r with
 |cons r rr=>
  rw[hs];refine assignInOrder_cons (thn (h1 pins s σ H _ _ _ I r h) λ _ s1 ⟨σ1,H1,I1,q1⟩=>?_);exact h2 pins s1 σ1 H1 _ _ Q I1 rr q1
def gTup(K:y0)(n:Nat)(t:TGs):TG:=λ v σ H Q=>∃a xs,v=.ref a/\SqT K H a xs/\xs.length=n/\t xs σ H Q
theorem J6E{es:List Expr}{k:Nat}{t:TGs}{n:Nat}(hc:X.calm=true)(h:PGs X es t)(hn:(assignEach es X.env).length=n:=by rfl)(hst:(assignEach es X.env).findIdx? (·.1)=none:=by rfl):PG X (.Tuple es k pos) (gTup X.K n t):=by
 intro pins s σ H v u Q I r hw;obtain⟨a,xs,e1,hq,hl,hw⟩:=hw;subst e1;cases r;obtain⟨its,rv,ht,hz⟩:=I.tuple hq;refine assign_Tuple_tuple (I.ok.hd hc) ht (by simp[hn,<-hl,rv.length]) hst λ h' hx=>?_;have I1:Inv X pins σ H {s with heap:=h'}:=I.kept (t':=s.toks) λ b o e=>hx b o (qb2 (Heap.lt_size e)) e;exact h pins _ σ H xs _ Q I1 (by simpa using rv) hw
def gSub(to ti:TE)(t:TSet):TG:=λ v σ H Q=>to σ H λ o H1=>ti σ H1 λ i H2=>t o i v H2 λ H3=>Q σ H3
theorem Z8b{o i:Expr}{to ti:TE}{t:TSet}(ho:PE X o to)(hi:PE X i ti)(hs:PSet X t)(ha:∀v,assign (.Subscript o i pos) X.env v=(do
   let ov<-holding [v] (eval o X.env);let iv<-holding [v,ov] (eval i X.env)
   standAt pos
   holding [v,ov,iv] (setItem ov iv v)
   release [v,ov,iv] []):=by intro _;rfl):PG X (.Subscript o i pos) (gSub to ti t):=by
 intro pins s σ H v u Q I r h;rw[ha];refine wpAny_bind (wpAny_holding (thn (ho pins s σ H _ I h) λ ov s1 ⟨x,H1,I1,r1,q1⟩=>?_));refine wpAny_bind (wpAny_holding (thn (hi pins s1 σ H1 _ I1 q1) λ iv s2 ⟨y,H2,I2,r2,q2⟩=>?_));refine wpAny_bind (wpAny_standAt (wpAny_bind (wpAny_holding (thn (hs pins s2 σ H2 x y v ov iv u _ I2 r1 r2 r q2) λ _ s3 ⟨H3,I3,q3⟩=>?_))));exact wpAny_release ⟨σ,H3,I3,q3⟩
def tAsg(te:TE)(g:TG):TS:=λ D σ H=>te σ H λ x H1=>g x σ H1 D.nx
theorem Z2e{tg e:Expr}{te:TE}{g:TG}(he:PE X e te)(hg:PG X tg g)(hs:swapsWithSole [tg] e pos.line X.env=pure false:=by rfl)(hw:swappedStores [tg] e X.env=pure none:=by rfl)(h1:(assignEach [tg] X.env).map (·.2)=[assign tg X.env]:=by rfl):PS X (.Assign [tg] e pos) (tAsg te g):=by
 intro pins s σ H D I h;refine wpAny_Assign_stores (thn (he pins s σ H _ I h) λ v s1 ⟨x,H1,I1,r1,q1⟩=>?_) hs hw;rw[h1];exact thn (hg pins s1 σ H1 x v _ I1 r1 q1) λ _ s2 q=>q
theorem J7b{i:Nat}{x:V0}{e:Expr}{te:TE}{pos':Pos}(hN:X.N.Nodup)(hi:X.N[i]?=some x)(hx:Loc X.env.scope x)(he:PE X e te)(hs:swapsWith e (some (.Name x pos')) pos.line X.env=pure false:=by rfl)(hf:X.fn x=true\/X.env.scope.names.lookup x=some .local:=by first|exact .inl rfl|exact .inr rfl|assumption):PS X (.Assign [.Name x pos'] e pos) (tAsg te (Z3o i)):=by
 intro pins s σ H D I h;refine wpAny_Assign_Name (thn (he pins s σ H _ I h) λ v s1 ⟨y,H1,I1,r1,q1⟩=>?_) hs;exact Z3q I1 hN hi hx r1 (λ s2 I2=>⟨_,H1,I2,q1⟩) hf
def tPar(i j:Nat)(ta:TA):TS:=λ D σ H=>ta σ H λ vs H1=>∃v w,vs=[v,w]/\D.nx ((σ.set i (some v)).set j (some w)) H1
theorem Z7e{i j:Nat}{x y:V0}{a b:Expr}{ta:TA}{px py pt:Pos}{kt k2 pt2}(hc:X.calm=true)(hN:X.N.Nodup)(hi:X.N[i]?=some x)(hj:X.N[j]?=some y)(hij:i≠j)(hx:X.env.scope.names.lookup x=some .local)(hy:X.env.scope.names.lookup y=some .local)(ha:PA X [a,b] ta)(hw:swappedStores [.Tuple [.Name x px,.Name y py] kt pt] (.Tuple [a,b] k2 pt2) X.env=pure (some [x,y]))(hs:swapsWithSole [.Tuple [.Name x px,.Name y py] kt pt] (.Tuple [a,b] k2 pt2) pos.line X.env=pure false:=by rfl):PS X (.Assign [.Tuple [.Name x px,.Name y py] kt pt] (.Tuple [a,b] k2 pt2) pos) (tPar i j ta):=by
 intro pins s σ H D I h;rw[exec_Assign_arm];refine wpAny_bind (wpAny_standAt ?_);rw[hs];refine wpAny_bind (wpAny_pure ?_);rw[if_neg qQ];refine wpAny_bind (Tuple_ (thn (ha _ pins s σ H _ I h) λ us s1 ⟨vs,H1,I1,r1,q1⟩=>?_));obtain⟨v,w,e1,q1⟩:=q1;subst e1;obtain⟨u1,u2,rfl,rv,rw'⟩:∃u1 u2,us=[u1,u2]/\RelV v u1/\RelV w u2:=by
  cases r1 with
  |cons p q=>
   cases q with
   |cons p' q'=>
    cases q';exact⟨_,_,rfl,p,p'⟩
 refine wpAny_newObj_type ?_ (by show 2<=sizeLine;decide);have I2:Inv X pins σ H1 {s1 with heap:=s1.heap.push {cls:=.type "tuple",data:=.seq [u1,u2].toArray}}:=I1.kept (t':=s1.toks) λ b o e=>Heap.get?_push_of_some _ e;rw[hw];refine wpAny_bind (wpAny_pure ?_);show wpAny (model X.prog X.w) X.A (do rule "assign.swapped-stores";let items<-unpackItems (.ref s1.heap.objs.size) 2 none;assignInOrder [λ v=>bindName X.env y v,λ v=>bindName X.env x v] items.reverse;pure Flow.next) _ _ _;refine wpAny_bind (wpAny_rule (wpAny_bind (unpackItems_tuple (items:=#[u1,u2]) (I.ok.hd hc) (IsTup.new s1.heap _) λ h' hx'=>?_)));have I3:=I2.kept (h':=h') (t':=s1.toks) λ b o e=>hx' b o (qb2 (Heap.lt_size e)) e;show wpAny _ _ (assignInOrder [λ v=>bindName X.env y v,λ v=>bindName X.env x v] [u2,u1]>>=λ _=>pure Flow.next) _ _ _;refine wpAny_bind (assignInOrder_cons (wpAny_bindName (Z3q I3 hN hj (.inl hy) rw' (λ s2 I4=>?_) (.inr hy))));refine assignInOrder_cons (wpAny_bindName (Z3q I4 hN hi (.inl hx) rv (λ s3 I5=>assignInOrder_nil (wpAny_pure ?_)) (.inr hx)));rw[List.set_comm _ _ (Ne.symm hij)]at I5;exact⟨_,H1,I5,q1⟩
def tAug(i:Nat)(te:TE)(ti:TIp):TS:=λ D σ H=>∃x,σ[i]?=some (some x)/\te σ H λ y H1=>ti x y H1 λ z H2=>D.nx (σ.set i (some z)) H2
theorem Z6G{i:Nat}{x:V0}{e:Expr}{te:TE}{op:Operator}{ti:TIp}{pos':Pos}(hN:X.N.Nodup)(hi:X.N[i]?=some x)(hx:Loc X.env.scope x)(he:PE X e te)(ho:PIp X op ti)(hf:X.fn x=true\/X.env.scope.names.lookup x=some .local:=by first|exact .inl rfl|exact .inr rfl|assumption):PS X (.AugAssign (.Name x pos') op e pos) (tAug i te ti):=by
 intro pins s σ H D I h;obtain⟨v,e1,h⟩:=h;obtain⟨m,hn,hl⟩:=I.loc;have vis:Vis X.env.scope x:=by rcases hx with k|k;exact .inl k;exact .inr (.inl k)
 obtain⟨u,r,l⟩:=hl i x v hi e1 vis;refine wpAny_AugAssign_Name ?_;have go:wpAny (model X.prog X.w) X.A (eval e X.env) (λ w s₂=>wpAny (model X.prog X.w) X.A (inplaceOp op u w) (λ r s₃=>wpAny (model X.prog X.w) X.A (storeName X.env x r) (λ _=>SP X pins D .next) X.xe s₃) X.xe s₂) X.xe s:=by
  refine thn (he pins s σ H _ I h) λ w s1 ⟨y,H1,I1,r1,q1⟩=>?_;refine thn (ho pins s1 σ H1 v y u w _ I1 r r1 q1) λ z s2 ⟨zv,H2,I2,r2,q2⟩=>?_;exact Z3q I2 hN hi hx r2 (λ s3 I3=>⟨_,H2,I3,q2⟩) hf
 rcases l with⟨hk,hm⟩|⟨hk,c,hc,hcell⟩
 ·exact wpAny_loadName_local I.ok.kind hk hn hm go
 ·rcases hk with hk|hk
  ·exact wpAny_loadName_cell I.ok.kind hk hc hcell go
  ·rcases hx with k|k
   ·have:X.env.scope.names.lookup x=some .free:=hk;rw[k]at this;cases this
   ·have:X.env.scope.names.lookup x=some .free:=hk;rw[k]at this;cases this
def ipI(f:Int->Int->Int):TIp:=λ x y H Q=>∃i j,x=.int i/\y=.int j/\Q (.int (f i j)) H
theorem Z8V:PIp X .Add (ipI λ i j=>i+j):=by
 intro pins s σ H x y v u Q I r1 r2 h;obtain⟨i,j,e1,e2,q⟩:=h;subst e1;subst e2;obtain⟨t,rfl⟩:=r1;obtain⟨t',rfl⟩:=r2;exact iadd_int ⟨.int _,H,I.tok _,⟨_,rfl⟩,q⟩
theorem J6T:PIp X .Sub (ipI λ i j=>i-j):=by
 intro pins s σ H x y v u Q I r1 r2 h;obtain⟨i,j,e1,e2,q⟩:=h;subst e1;subst e2;obtain⟨t,rfl⟩:=r1;obtain⟨t',rfl⟩:=r2;exact isub_int ⟨.int _,H,I.tok _,⟨_,rfl⟩,q⟩
end
section
variable{X:Cx}{pos:Pos}
def J3S(c:TT)(tb:TS):TS:=λ D σ H=>∃W:Nat->St->Hp->Prop,(∃m,W m σ H)/\∀m σ H,W m σ H->
 c σ H λ b H1=>if b=true then ∃N:St->Hp->Prop,(∀σ' H',N σ' H'->∃m',m'<m/\W m' σ' H')/\tb {D with nx:=N,ct:=N,bk:=D.nx} σ H1 else D.nx σ H1
theorem Z2c{c:Expr}{body:List Stmt}{tc:TT}{tb:TS}(hp:PassesOwn (model X.prog X.w) X.A X.env X.xe)(hc:PT X c tc)(hb:PSs X body tb):PS X (.While c body [] pos) (J3S tc tb):=by
 intro pins s σ H D I h;obtain⟨W,⟨m0,w0⟩,turn⟩:=h;refine wpAny_While (codeAny_whileLoop (λ n s'=>∃σ' H',Inv X pins σ' H' s'/\W n σ' H') ?_ m0 ⟨σ,H,I,w0⟩);rintro n s1 ⟨σ1,H1,I1,w1⟩;refine wpAny_passesOwn hp (thn (hc pins s1 σ1 H1 _ I1 (turn n σ1 H1 w1)) λ b s2 ⟨H2,I2,q2⟩=>?_);cases b with
 |true=>
  obtain⟨N,hN,q2⟩:=q2;rw[if_pos rfl];refine wpAny_passesOwn hp (thn (hb pins s2 σ1 H2 _ I2 q2) λ f s3 q3=>?_);cases f with
  |next=>
   obtain⟨σ3,H3,I3,n3⟩:=q3;obtain⟨m',hm,w3⟩:=hN σ3 H3 n3;exact⟨m',hm,σ3,H3,I3,w3⟩
  |cont=>
   obtain⟨σ3,H3,I3,n3⟩:=q3;obtain⟨m',hm,w3⟩:=hN σ3 H3 n3;exact⟨m',hm,σ3,H3,I3,w3⟩
  |brk=>exact q3
  |ret v=>exact q3
 |false=>
  rw[if_neg qb3];exact wpAny_execs_nil ⟨σ1,H2,I2,q2⟩
end
structure It where
 go:Nat->Hp->Prop
 yld:Nat->Hp->V->Hp->Prop
 stop:Nat->Hp->Prop
def FpOk(X:Cx)(pins:List (X0×Obj))(H:Hp)(b:X0):Prop:=
 H b=none/\b≠X.env.locals/\b∉X.fs/\(b∈X.ex\/X.s₀.heap.objs.size<=b)/\(∀x c,X.env.cells.lookup x=some c->c≠b)/\∀p∈X.pn++pins,p.1≠b
theorem Inv.fpOk{X:Cx}{pins:List (X0×Obj)}{σ:St}{H H':Hp}{s:U0}{b:X0}(I:Inv X pins σ H s)(hb:s.heap.objs.size<=b)(hn:H' b=none):FpOk X pins H' b:=by
 refine⟨hn,qe4 (qb0 I.lt hb),I.nofs hb,.inr (qa1 I.sz hb),λ x c e z=>?_,λ p hp z=>?_⟩
 ·obtain⟨v,q⟩:=I.cell x c e;exact absurd (qb0 q.lt (by rw[z];exact hb)) (qb8 _)
 ·exact absurd (qb0 (Heap.lt_size (I.pin p hp).1) (by rw[z];exact hb)) (qb8 _)
structure Turn(P:Program)(w:M0)(K:y0)(tg:Expr)(J:It)(fp:List X0)(it:X0)(tn:Nat->N0->Prop):Prop where
 mem:it∈fp
 obj:∀i h,tn i h->∀b∈fp,∃o,h.get? b=some o/\∀v,o.data≠.cell v
 keep:∀i h h',tn i h->(∀b∈fp,∀o,h.get? b=some o->h'.get? b=some o)->tn i h'
 item:∀(X:Cx),X.prog=P->X.w=w->X.K=K->X.calm=true->∀(i:Nat)(pins:List (X0×Obj))(s:U0)(σ:St)(H:Hp)(E:Z0->U0->Prop),Inv X pins σ H s->(∀b∈fp,FpOk X pins H b)->tn i s.heap->J.go i H->
  wpAny (model P w) X.A (pyNext (.ref it)) (λ r s1=>∃u,r=some u/\wpAny (model P w) X.A (letOwnedTupleGo tg (.ref it) u) (λ _ s2=>∃x H',Inv X pins σ H' s2/\RelV x u/\J.yld i H x H'/\tn (i+1) s2.heap/\∀b∈fp,H' b=none) E s1) E s
 done:∀(X:Cx),X.prog=P->X.w=w->X.K=K->X.calm=true->∀(i:Nat)(pins:List (X0×Obj))(s:U0)(σ:St)(H:Hp)(E:Z0->U0->Prop),Inv X pins σ H s->(∀b∈fp,FpOk X pins H b)->tn i s.heap->J.stop i H->
  wpAny (model P w) X.A (pyNext (.ref it)) (λ r s1=>r=none/\Inv X pins σ H s1) E s
 self:∀(A:O0)(i:Nat)(s:U0)(Q:Z0->U0->Prop)(E:Z0->U0->Prop),tn i s.heap->Q (.ref it) s->wpAny (model P w) A (pyIter (.ref it)) Q E s
abbrev TI:=St->Hp->(It->Hp->Prop)->Prop
def PIE(X:Cx)(pins:List (X0×Obj))(σ:St)(tg:Expr)(R:It->Hp->Prop)(itv:Z0)(s2:U0):Prop:=
 ∃(it:X0)(fp:List X0)(tn:Nat->N0->Prop)(J:It)(H':Hp),itv=.ref it/\Inv X pins σ H' s2/\Turn X.prog X.w X.K tg J fp it tn/\tn 0 s2.heap/\(∀b∈fp,FpOk X pins H' b)/\R J H'
def PI(X:Cx)(tg iter:Expr)(wi:TI):Prop:=
 ∀(pins:List (X0×Obj))(s:U0)(σ:St)(H:Hp)(R:It->Hp->Prop),Inv X pins σ H s->wi σ H R->
  wpAny (model X.prog X.w) X.A (eval iter X.env) (λ v s1=>wpAny (model X.prog X.w) X.A (pyIter v) (PIE X pins σ tg R) X.xe s1) X.xe s
theorem J1K{M:Model}{A:O0}{E:Z0->U0->Prop}{s:U0}{tg:Expr}{it:X0}{u:Z0}{o:Obj}{n:String}{vs:Array Z0}{Q:Unit->U0->Prop}(ho:s.heap.get? it=some o)(hc:o.cls=.type n)(hd:o.data=.fields vs)(hn:["enumerate","zip","dict_itemiterator","dict_reverseitemiterator","odict_iterator","itertools.zip_longest","itertools.pairwise"].contains n=false)(hQ:Q () s):wpAny M A (letOwnedTupleGo tg (.ref it) u) Q E s:=by
  unfold letOwnedTupleGo;cases tg <;> first
    |exact wpAny_pure hQ
    | (cases u <;> first
        |exact wpAny_pure hQ
        | (refine wpAny_bind (wpAny_load ho ?_)
           rw[hc,hd];show wpAny M A (if(["enumerate","zip","dict_itemiterator","dict_reverseitemiterator","odict_iterator","itertools.zip_longest","itertools.pairwise"].contains n&&vs[0]?==some (rawInt _))=true then _ else _) Q E s;rw[if_neg (by intro h;rw[hn,Bool.false_and]at h;cases h)];exact wpAny_pure hQ))
def Itl(K:y0)(a:X0):It:=
 ⟨λ i H=>∃xs x,SqL K H a xs/\xs[i]?=some x,λ i H x H'=>H'=H/\∀xs,SqL K H a xs->xs[i]?=some x,λ i H=>∃xs,SqL K H a xs/\xs.length<=i⟩
def Itt(K:y0)(a:X0):It:=
 ⟨λ i H=>∃xs x,SqT K H a xs/\xs[i]?=some x,λ i H x H'=>H'=H/\∀xs,SqT K H a xs->xs[i]?=some x,λ i H=>∃xs,SqT K H a xs/\xs.length<=i⟩
def Itr(lo:Int)(n:Nat):It:=⟨λ i _=>i<n,λ i H x H'=>H'=H/\x=.int (lo+i),λ i _=>n<=i⟩
theorem J0D{P:Program}{w:M0}{K:y0}{tg:Expr}(a it:X0):Turn P w K tg (Itl K a) [it] it (λ i h=>h.IsListIter it a i)where
 mem:=by simp
 obj:=λ i h st b hb=>by
  have e:b=it:=by simpa using hb
  subst e;obtain⟨o,e,c,d⟩:=st;exact⟨o,e,λ v z=>by rw[d]at z;cases z⟩
 keep:=λ i h h' st k=>st.at λ o e=>k it (by simp) o e
 item:=by
  intro X hP hw hK hc i pins s σ H E I hf st hg;subst hP hw hK;obtain⟨xs,x,hq,hx⟩:=hg;obtain⟨its,rv,p,hz⟩:=I.list hq;obtain⟨u,hu,ru⟩:=rv.get hx;obtain⟨f0,f1,f2,f3,f4,f5⟩:=hf it (by simp);refine wpAny_pyNext_list_item st p.isList (x:=u) (by simpa using hu) λ h' st' sb=>?_;have I1:Inv X pins σ H {s with heap:=h'}:=I.turned (t':=s.toks) (λ b o hb e=>(sb.2 b hb).trans e) f0 f1 f3 f4 f5;obtain⟨o,e,c,d⟩:=id st';exact⟨u,rfl,J1K (s:={s with heap:=h'}) e c d qQ ⟨x,H,I1,ru,⟨rfl,λ ys hy=>by rw[I.list_inj hy hq];exact hx⟩,st',λ b hb=>(hf b hb).1⟩⟩
 done:=by
  intro X hP hw hK hc i pins s σ H E I hf st hg;subst hP hw hK;obtain⟨xs,hq,hx⟩:=hg;obtain⟨its,rv,p,hz⟩:=I.list hq;obtain⟨f0,f1,f2,f3,f4,f5⟩:=hf it (by simp);have hl:=rv.length;exact wpAny_pyNext_list_end (I.ok.hd hc) st p.isList (by simp;lia) λ h' eb=>⟨rfl,I.turned (t':=s.toks) (λ b o hb e=>eb b o hb e) f0 f1 f3 f4 f5⟩
 self:=λ _ _ _ _ _ st h=>wpAny_pyIter_listiter st h
theorem Z9z{P:Program}{w:M0}{K:y0}{tg:Expr}(a it:X0):Turn P w K tg (Itt K a) [it] it (λ i h=>h.IsTupleIter it a i)where
 mem:=by simp
 obj:=λ i h st b hb=>by
  have e:b=it:=by simpa using hb
  subst e;obtain⟨o,e,c,d⟩:=st;exact⟨o,e,λ v z=>by rw[d]at z;cases z⟩
 keep:=λ i h h' st k=>st.at λ o e=>k it (by simp) o e
 item:=by
  intro X hP hw hK hc i pins s σ H E I hf st hg;subst hP hw hK;obtain⟨xs,x,hq,hx⟩:=hg;obtain⟨its,rv,p,hz⟩:=I.tuple hq;obtain⟨u,hu,ru⟩:=rv.get hx;obtain⟨f0,f1,f2,f3,f4,f5⟩:=hf it (by simp);refine wpAny_pyNext_tuple_item st (show s.heap.IsTuple a its.toArray from p) (x:=u) (by simpa using hu) λ h' st' sb=>?_;have I1:Inv X pins σ H {s with heap:=h'}:=I.turned (t':=s.toks) (λ b o hb e=>(sb.2 b hb).trans e) f0 f1 f3 f4 f5;obtain⟨o,e,c,d⟩:=id st';exact⟨u,rfl,J1K (s:={s with heap:=h'}) e c d qQ ⟨x,H,I1,ru,⟨rfl,λ ys hy=>by rw[I.tuple_inj hy hq];exact hx⟩,st',λ b hb=>(hf b hb).1⟩⟩
 done:=by
  intro X hP hw hK hc i pins s σ H E I hf st hg;subst hP hw hK;obtain⟨xs,hq,hx⟩:=hg;obtain⟨its,rv,p,hz⟩:=I.tuple hq;obtain⟨f0,f1,f2,f3,f4,f5⟩:=hf it (by simp);have hl:=rv.length;exact wpAny_pyNext_tuple_end (I.ok.hd hc) st (show s.heap.IsTuple a its.toArray from p) (by simp;lia) λ h' eb=>⟨rfl,I.turned (t':=s.toks) (λ b o hb e=>eb b o hb e) f0 f1 f3 f4 f5⟩
 self:=λ _ _ _ _ _ st h=>wpAny_pyIter_tupleiter st h
theorem Z9A{P:Program}{w:M0}{K:y0}{tg:Expr}(it:X0)(lo:Int)(n:Nat):Turn P w K tg (Itr lo n) [it] it (λ i h=>IsRangeIter h it (lo+(i:Nat)*1) ((n:Int)-(i:Nat)) 1)where
 mem:=by simp
 obj:=λ i h st b hb=>by
  have e:b=it:=by simpa using hb
  subst e;exact⟨_,st,λ v z=>by
   have z':Data.fields _=Data.cell v:=z;cases z'⟩
 keep:=λ i h h' st k=>k it (by simp) _ st
 item:=by
  intro X hP hw hK hc i pins s σ H E I hf st hg;subst hP hw hK;obtain⟨f0,f1,f2,f3,f4,f5⟩:=hf it (by simp);have W:=Walks.range (prog:=X.prog) (w:=X.w) (I.ok.hd hc) it lo 1 n;refine W.item i s _ _ hg st λ v h' tk hv st' kk=>?_;obtain⟨t,rfl⟩:=hv;have I1:Inv X pins σ H {s with heap:=h',toks:=tk}:=I.turned (λ b o hb e=>kk b o (by simpa using hb) e) f0 f1 f3 f4 f5;refine⟨_,rfl,J1K (s:={s with heap:=h',toks:=tk}) (n:="range_iterator") st' rfl rfl qQ ⟨.int (lo+i),H,I1,⟨t,?_⟩,⟨rfl,rfl⟩,st',λ b hb=>(hf b hb).1⟩⟩;rw[Int.mul_one]
 done:=by
  intro X hP hw hK hc i pins s σ H E I hf st hg;subst hP hw hK;obtain⟨f0,f1,f2,f3,f4,f5⟩:=hf it (by simp);exact wpAny_pyNext_range_end (I.ok.hd hc) st (by have:n<=i:=hg;lia) λ h' eb=>⟨rfl,I.turned (t':=s.toks) (λ b o hb e=>eb b o hb e) f0 f1 f3 f4 f5⟩
 self:=λ _ _ _ _ _ st h=>wpAny_pyIter_rangeiter st h
end L2
namespace L2
open PySem PySem.Spec PyProof.Rows
section
variable{X:Cx}{tg:Expr}
def J6M(K:y0)(tl:TE):TI:=λ σ H R=>tl σ H λ x H1=>∃a,x=.ref a/\(∃xs,SqL K H1 a xs)/\R (Itl K a) H1
def iTup(K:y0)(tl:TE):TI:=λ σ H R=>tl σ H λ x H1=>∃a,x=.ref a/\(∃xs,SqT K H1 a xs)/\R (Itt K a) H1
theorem Z1H{l:Expr}{tl:TE}(hl:PE X l tl):PI X tg l (J6M X.K tl):=by
 intro pins s σ H R I h;refine thn (hl pins s σ H _ I h) λ v s1 ⟨x,H1,I1,r1,q1⟩=>?_;obtain⟨a,e,⟨xs,hq⟩,q⟩:=q1;subst e;cases r1;obtain⟨its,rv,p,hz⟩:=I1.list hq;refine wpAny_pyIter_list p.isList ?_;refine⟨s1.heap.objs.size,[s1.heap.objs.size],_,_,H1,rfl,I1.kept (t':=s1.toks) λ b o e=>Heap.get?_push_of_some _ e,J0D a _,⟨_,Heap.get?_push_size _ rfl,rfl,rfl⟩,λ b hb=>?_,q⟩;have e:b=s1.heap.objs.size:=by simpa using hb
 subst e;exact I1.fpOk (qa0 _) (I1.hok.fresh (qa0 _))
theorem Z3G{l:Expr}{tl:TE}(hl:PE X l tl):PI X tg l (iTup X.K tl):=by
 intro pins s σ H R I h;refine thn (hl pins s σ H _ I h) λ v s1 ⟨x,H1,I1,r1,q1⟩=>?_;obtain⟨a,e,⟨xs,hq⟩,q⟩:=q1;subst e;cases r1;obtain⟨its,rv,p,hz⟩:=I1.tuple hq;refine wpAny_pyIter_tuple (show s1.heap.IsTuple a its.toArray from p) ?_;refine⟨s1.heap.objs.size,[s1.heap.objs.size],_,_,H1,rfl,I1.kept (t':=s1.toks) λ b o e=>Heap.get?_push_of_some _ e,Z9z a _,⟨_,Heap.get?_push_size _ rfl,rfl,rfl⟩,λ b hb=>?_,q⟩;have e:b=s1.heap.objs.size:=by simpa using hb
 subst e;exact I1.fpOk (qa0 _) (I1.hok.fresh (qa0 _))
theorem J2t{pins:List (X0×Obj)}{σ:St}{H:Hp}{s:U0}{R:It->Hp->Prop}{E:Z0->U0->Prop}{lo hi:Int}{t u v:Tok}{tk:Nat}(I:Inv X pins σ H s)(h1:-(2^62)<=lo)(h2:lo<2^62)(h3:-(2^62)<=hi)(h4:hi<2^62)(q:R (Itr lo (hi-lo).toNat) H):wpAny (model X.prog X.w) X.A (pyIter (.ref s.heap.objs.size)) (PIE X pins σ tg R) E {s with heap:=s.heap.push {cls:=.type "range",data:=.fields #[.int lo t,.int hi u,.int 1 v]},toks:=tk}:=by
 refine wpAny_pyIter_range (IsRange.new ..) (small_one h1 h2 h3 h4) ?_;have I1:Inv X pins σ H {s with heap:=s.heap.push {cls:=.type "range",data:=.fields #[.int lo t,.int hi u,.int 1 v]},toks:=tk}:=I.kept λ b o e=>Heap.get?_push_of_some _ e;refine⟨(s.heap.push {cls:=.type "range",data:=.fields #[.int lo t,.int hi u,.int 1 v]}).objs.size,[(s.heap.push {cls:=.type "range",data:=.fields #[.int lo t,.int hi u,.int 1 v]}).objs.size],_,_,H,rfl,I1.kept (t':=tk) λ b o e=>Heap.get?_push_of_some _ e,Z9A _ lo (hi-lo).toNat,?_,λ b hb=>?_,q⟩
 ·have e1:lo+((0:Nat):Int)*1=lo:=by simp
  have e2:(((hi-lo).toNat:Nat):Int)-((0:Nat):Int)=Builtin.Range.rangeSize lo hi 1:=by rw[rangeSize_one];split<;>lia
  show IsRangeIter _ _ (lo+((0:Nat):Int)*1) ((((hi-lo).toNat:Nat):Int)-((0:Nat):Int)) 1;rw[e1,e2];exact Heap.get?_push_size _ rfl
 ·have e:b=(s.heap.push {cls:=.type "range",data:=.fields #[.int lo t,.int hi u,.int 1 v]}).objs.size:=by simpa using hb
  subst e;exact I1.fpOk (qa0 _) (I1.hok.fresh (qa0 _))
def J5Z(ta:TA):TI:=λ σ H R=>ta σ H λ vs H1=>∃j:Int,vs=[.int j]/\-(2^62)<=j/\j<2^62/\R (Itr 0 j.toNat) H1
theorem Z4l{a:Expr}{ta:TA}{p pos:Pos}(hg:Gl X "range")(hm:X.mg "range"=none)(ha:PA X [a] ta)(hs:starEach [a] X.env=[(false,eval a X.env)]:=by rfl):PI X tg (.Call (.Name "range" p) [a] [] pos) (J5Z ta):=by
 intro pins s σ H R I h;refine Call_ (Z4v I hg hm boot_range (PyProof.Rows.callWith_type1 (thn (ha pos pins s σ H _ I h) λ us s1 ⟨vs,H1,I1,r1,q1⟩=>?_) hs rfl));obtain⟨j,e,q1,q2,q⟩:=q1;subst e;cases r1 with
 |cons r rr=>
  cases rr;obtain⟨t,rfl⟩:=r;exact call_range_1 (J2t I1 qR qR q1 q2 (by simpa using q))
def tFor(wi:TI)(g:TG)(tb:TS):TS:=λ D σ H=>wi σ H λ J H1=>∃W:Nat->Nat->St->Hp->Prop,(∃m,W 0 m σ H1)/\∀i m σ H,W i m σ H->
 (J.stop i H/\D.nx σ H)\/(J.go i H/\∃N:St->Hp->Prop,(∀σ' H',N σ' H'->∃m',m'<m/\W (i+1) m' σ' H')/\∀x H',J.yld i H x H'->g x σ H' λ σ2 H2=>tb {D with nx:=N,ct:=N,bk:=D.nx} σ2 H2)
def Z6k(fp:List X0)(h:N0):List (X0×Obj):=fp.filterMap λ b=>(h.get? b).map λ o=>(b,o)
theorem Z2L{fp:List X0}{h:N0}{b:X0}{o:Obj}(hb:b∈fp)(e:h.get? b=some o):(b,o)∈Z6k fp h:=List.mem_filterMap.mpr ⟨b,hb,by rw[e];rfl⟩
theorem J0n{fp:List X0}{h:N0}{p:X0×Obj}(hp:p∈Z6k fp h):p.1∈fp/\h.get? p.1=some p.2:=by
 obtain⟨b,hb,e⟩:=List.mem_filterMap.mp hp;cases q:h.get? b with
 |none=>rw[q]at e;cases e
 |some o=>
  rw[q]at e;have e':(b,o)=p:=qc8 e;subst e';exact⟨hb,q⟩
theorem Inv.pinned{pins:List (X0×Obj)}{σ:St}{H:Hp}{s:U0}{fp:List X0}(I:Inv X pins σ H s)(hf:∀b∈fp,FpOk X pins H b)(ho:∀b∈fp,∃o,s.heap.get? b=some o/\∀v,o.data≠.cell v):Inv X (pins++Z6k fp s.heap) σ H s:=
 I.pins_of λ p hp=>(qd4.mp hp).elim (λ z=>I.pin p (qc3 _ z)) λ z=>by
  obtain⟨hb,e⟩:=J0n z;obtain⟨f0,f1,f2,_⟩:=hf p.1 hb;obtain⟨o,e',d⟩:=ho p.1 hb;rw[e]at e';cases e';exact⟨e,f0,f1,f2,d⟩
theorem Inv.unpinned{pins pl:List (X0×Obj)}{σ:St}{H:Hp}{s:U0}(I:Inv X (pins++pl) σ H s):Inv X pins σ H s:=I.pins_of λ p hp=>I.pin p (qc3 _ (qg0 _ hp))
theorem Z3I{iter:Expr}{body:List Stmt}{wi:TI}{g:TG}{tb:TS}{pos:Pos}(hp:PassesOwn (model X.prog X.w) X.A X.env X.xe)(hc:X.calm=true)(hi:PI X tg iter wi)(hg:PG X tg g)(hb:PSs X body tb)(hs:∀x,foldedSetIterable iter X.env x=pure x:=by intro _;rfl):PS X (.For tg iter body [] pos) (tFor wi g tb):=by
 intro pins s σ H D I h;refine wpAny_For (thn (hi pins s σ H _ I h) λ v s1 h1=>thn h1 λ itv s2 h2=>?_) hs;obtain⟨it,fp,tn,J,H2,e,I2,T,st2,f2,W,⟨m0,w0⟩,turn⟩:=h2;subst e
 --what stays true of the iterator's objects through the loop
 have stat:∀{H':Hp},(∀b∈fp,H' b=none)->∀b∈fp,FpOk X pins H' b:=λ hn b hb=>⟨hn b hb,(f2 b hb).2⟩;refine codeAny_forLoop_any (λ n s'=>∃i σ' H',Inv X pins σ' H' s'/\tn i s'.heap/\(∀b∈fp,H' b=none)/\W i n σ' H') ?_ m0 ⟨0,σ,H2,I2,st2,λ b hb=>(f2 b hb).1,w0⟩;rintro n s3 ⟨i,σ3,H3,I3,st3,fr3,w3⟩;rcases turn i n σ3 H3 w3 with⟨stop,qn⟩|⟨go,N,hN,step⟩
 ·refine wpAny_passesOwn hp (thn (T.done X rfl rfl rfl hc i pins s3 σ3 H3 X.xe I3 (stat fr3) st3 stop) λ r s4 ⟨hr,I4⟩=>?_);subst hr;exact wpAny_execs_nil ⟨σ3,H3,I4,qn⟩
 ·refine wpAny_passesOwn hp (thn (T.item X rfl rfl rfl hc i pins s3 σ3 H3 X.xe I3 (stat fr3) st3 go) λ r s4 ⟨u,hr,h4⟩=>?_);subst hr;refine wpAny_passesOwn hp (thn h4 λ _ s5 ⟨x,H5,I5,r5,y5,st5,fr5⟩=>?_);have I5':=I5.pinned (stat fr5) (T.obj _ _ st5);refine wpAny_passesOwn hp (thn (hg _ s5 σ3 H5 x u _ I5' r5 (step x H5 y5)) λ _ s6 ⟨σ6,H6,I6,q6⟩=>?_);refine wpAny_passesOwn hp (thn (hb _ s6 σ6 H6 _ I6 q6) λ f s7 q7=>?_);have again:∀{σ7:St}{H7:Hp},Inv X (pins++Z6k fp s5.heap) σ7 H7 s7->N σ7 H7->∃m,m<n/\∃i σ' H',Inv X pins σ' H' s7/\tn i s7.heap/\(∀b∈fp,H' b=none)/\W i m σ' H':=λ{σ7 H7} I7 n7=>by
   obtain⟨m',hm,w7⟩:=hN σ7 H7 n7;refine⟨m',hm,i+1,σ7,H7,I7.unpinned,T.keep _ _ _ st5 λ b hb o e=>(I7.pin (b,o) (qc3 _ (qc3 _ (Z2L hb e)))).1,λ b hb=>?_,w7⟩;obtain⟨o,e,d⟩:=T.obj _ _ st5 b hb;exact(I7.pin (b,o) (qc3 _ (qc3 _ (Z2L hb e)))).2.1
  cases f with
  |next=>obtain⟨σ7,H7,I7,n7⟩:=q7;exact again I7 n7
  |cont=>obtain⟨σ7,H7,I7,n7⟩:=q7;exact again I7 n7
  |brk=>obtain⟨σ7,H7,I7,q7⟩:=q7;exact⟨σ7,H7,I7.unpinned,q7⟩
  |ret v=>obtain⟨x7,σ7,H7,I7,r7,q7⟩:=q7;exact⟨x7,σ7,H7,I7.unpinned,r7,q7⟩
end
theorem J2n{K:y0}{a:X0}{xs:List V}{g:TG}{tb:TS}{D:Ends}{σ:St}{H:Hp}(Pv:Nat->St->Hp->Prop)(h0:Pv 0 σ H)(hl:∀i σ H,i<=xs.length->Pv i σ H->SqL K H a xs)(hs:∀i x σ H,xs[i]?=some x->Pv i σ H->g x σ H λ σ2 H2=>tb {D with nx:=Pv (i+1),ct:=Pv (i+1),bk:=D.nx} σ2 H2)(hd:∀σ H,Pv xs.length σ H->D.nx σ H):∃W:Nat->Nat->St->Hp->Prop,(∃m,W 0 m σ H)/\∀i m σ H,W i m σ H->((Itl K a).stop i H/\D.nx σ H)\/((Itl K a).go i H/\∃N:St->Hp->Prop,(∀σ' H',N σ' H'->∃m',m'<m/\W (i+1) m' σ' H')/\∀x H',(Itl K a).yld i H x H'->g x σ H' λ σ2 H2=>tb {D with nx:=N,ct:=N,bk:=D.nx} σ2 H2):=by
 refine⟨λ i m σ H=>m=xs.length-i/\i<=xs.length/\Pv i σ H,⟨xs.length,by simp,qb4 _,h0⟩,?_⟩;rintro i m σ H ⟨rfl,hi,p⟩;have q:=hl i σ H hi p;by_cases hlt:i<xs.length
 ·refine .inr ⟨⟨xs,xs[i],q,by simp[hlt]⟩,Pv (i+1),λ σ' H' p'=>⟨xs.length-(i+1),qR,rfl,hlt,p'⟩,λ x H' y=>?_⟩;obtain⟨e,y⟩:=y;subst e;exact hs i x σ _ (y xs q) p
 ·have e:i=xs.length:=by lia
  subst e;exact .inl ⟨⟨xs,q,qa0 _⟩,hd σ H p⟩
theorem J5k{K:y0}{a:X0}{xs:List V}{g:TG}{tb:TS}{D:Ends}{σ:St}{H:Hp}(Pv:Nat->St->Hp->Prop)(h0:Pv 0 σ H)(hl:∀i σ H,i<=xs.length->Pv i σ H->SqT K H a xs)(hs:∀i x σ H,xs[i]?=some x->Pv i σ H->g x σ H λ σ2 H2=>tb {D with nx:=Pv (i+1),ct:=Pv (i+1),bk:=D.nx} σ2 H2)(hd:∀σ H,Pv xs.length σ H->D.nx σ H):∃W:Nat->Nat->St->Hp->Prop,(∃m,W 0 m σ H)/\∀i m σ H,W i m σ H->((Itt K a).stop i H/\D.nx σ H)\/((Itt K a).go i H/\∃N:St->Hp->Prop,(∀σ' H',N σ' H'->∃m',m'<m/\W (i+1) m' σ' H')/\∀x H',(Itt K a).yld i H x H'->g x σ H' λ σ2 H2=>tb {D with nx:=N,ct:=N,bk:=D.nx} σ2 H2):=by
 refine⟨λ i m σ H=>m=xs.length-i/\i<=xs.length/\Pv i σ H,⟨xs.length,by simp,qb4 _,h0⟩,?_⟩;rintro i m σ H ⟨rfl,hi,p⟩;have q:=hl i σ H hi p;by_cases hlt:i<xs.length
 ·refine .inr ⟨⟨xs,xs[i],q,by simp[hlt]⟩,Pv (i+1),λ σ' H' p'=>⟨xs.length-(i+1),qR,rfl,hlt,p'⟩,λ x H' y=>?_⟩;obtain⟨e,y⟩:=y;subst e;exact hs i x σ _ (y xs q) p
 ·have e:i=xs.length:=by lia
  subst e;exact .inl ⟨⟨xs,q,qa0 _⟩,hd σ H p⟩
theorem J1V{lo:Int}{n:Nat}{g:TG}{tb:TS}{D:Ends}{σ:St}{H:Hp}(Pv:Nat->St->Hp->Prop)(h0:Pv 0 σ H)(hs:∀i σ H,i<n->Pv i σ H->g (.int (lo+i)) σ H λ σ2 H2=>tb {D with nx:=Pv (i+1),ct:=Pv (i+1),bk:=D.nx} σ2 H2)(hd:∀σ H,Pv n σ H->D.nx σ H):∃W:Nat->Nat->St->Hp->Prop,(∃m,W 0 m σ H)/\∀i m σ H,W i m σ H->((Itr lo n).stop i H/\D.nx σ H)\/((Itr lo n).go i H/\∃N:St->Hp->Prop,(∀σ' H',N σ' H'->∃m',m'<m/\W (i+1) m' σ' H')/\∀x H',(Itr lo n).yld i H x H'->g x σ H' λ σ2 H2=>tb {D with nx:=N,ct:=N,bk:=D.nx} σ2 H2):=by
 refine⟨λ i m σ H=>m=n-i/\i<=n/\Pv i σ H,⟨n,by simp,qb4 _,h0⟩,?_⟩;rintro i m σ H ⟨rfl,hi,p⟩;by_cases hlt:i<n
 ·refine .inr ⟨hlt,Pv (i+1),λ σ' H' p'=>⟨n-(i+1),qR,rfl,hlt,p'⟩,λ x H' y=>?_⟩;obtain⟨e,y⟩:=y;subst e y;exact hs i σ _ hlt p
 ·have e:i=n:=by lia
  subst e;exact .inl ⟨qa0 _,hd σ H p⟩
end L2
namespace L2
open PySem PySem.Spec PyProof.Rows
abbrev R2:=V->V->Hp->VK->Prop
def OpR(X:Cx)(f:Z0->Z0->Sem Z0)(r:R2):Prop:=
 ∀(pins:List (X0×Obj))(s:U0)(σ:St)(H:Hp)(x y:V)(v u:Z0)(Q:VK),Inv X pins σ H s->RelV x v->RelV y u->r x y H Q->
  wpAny (model X.prog X.w) X.A (f v u) (EP X pins σ Q) X.xe s
def UnR(X:Cx)(f:Z0->Sem Z0)(r:V->Hp->VK->Prop):Prop:=
 ∀(pins:List (X0×Obj))(s:U0)(σ:St)(H:Hp)(x:V)(v:Z0)(Q:VK),Inv X pins σ H s->RelV x v->r x H Q->
  wpAny (model X.prog X.w) X.A (f v) (EP X pins σ Q) X.xe s
def Z4m(X:Cx)(f:Z0)(r:List V->Hp->VK->Prop):Prop:=
 ∀(pins:List (X0×Obj))(s:U0)(σ:St)(H:Hp)(xs:List V)(us:List Z0)(Q:VK),Inv X pins σ H s->Vals xs us->r xs H Q->
  wpAny (model X.prog X.w) X.A (call f us) (EP X pins σ Q) X.xe s
def tOp(r:R2)(ta tb:TE):TE:=λ σ H Q=>ta σ H λ x H1=>tb σ H1 λ y H2=>r x y H2 Q
def tUn(r:V->Hp->VK->Prop)(ta:TE):TE:=λ σ H Q=>ta σ H λ x H1=>r x H1 Q
def rI(C:Int->Int->Prop)(g:Int->Int->V):R2:=λ x y H Q=>∃i j,x=.int i/\y=.int j/\C i j/\Q (g i j) H
def rI0(g:Int->Int->V):R2:=λ x y H Q=>∃i j,x=.int i/\y=.int j/\Q (g i j) H
def rU(g:Int->V):V->Hp->VK->Prop:=λ x H Q=>∃i,x=.int i/\Q (g i) H
section
variable{X:Cx}{a b c:Expr}{ta tb tc:TE}{pos:Pos}
theorem binT(ha:PE X a ta)(hb:PE X b tb){pins:List (X0×Obj)}{s:U0}{σ:St}{H:Hp}{R:V->V->Hp->Prop}(I:Inv X pins σ H s)(h:ta σ H λ x H1=>tb σ H1 λ y H2=>R x y H2){Q:Z0->U0->Prop}{f:Z0->Z0->Sem Z0}(hf:∀v u s2 x y H2,Inv X pins σ H2 s2->RelV x v->RelV y u->R x y H2->wpAny (model X.prog X.w) X.A (f v u) Q X.xe s2):wpAny (model X.prog X.w) X.A (eval a X.env) (λ v s₁=>wpAny (model X.prog X.w) X.A (eval b X.env) (λ u s₂=>wpAny (model X.prog X.w) X.A (f v u) Q X.xe s₂) X.xe s₁) X.xe s:=by
 refine thn (ha pins s σ H _ I h) λ v s1 ⟨x,H1,I1,r1,q1⟩=>?_;refine thn (hb pins s1 σ H1 _ I1 q1) λ u s2 ⟨y,H2,I2,r2,q2⟩=>?_;exact hf v u s2 x y H2 I2 r1 r2 q2
theorem Z0n{op:Operator}{r:R2}(ho:OpR X (binaryOp op) r)(ha:PE X a ta)(hb:PE X b tb):PE X (.BinOp a op b pos) (tOp r ta tb):=by
 intro pins s σ H Q I h;exact wpAny_BinOp (binT ha hb I h λ v u s2 x y H2 I2 rx ry q=>ho pins s2 σ H2 x y v u Q I2 rx ry q)
theorem J8u{op:UnaryOp}{r:V->Hp->VK->Prop}(ho:UnR X (unaryOp op) r)(ha:PE X a ta):PE X (.UnaryOp op a pos) (tUn r ta):=by
 intro pins s σ H Q I h;exact UnaryOp_ (thn (ha pins s σ H _ I h) λ v s1 ⟨x,H1,I1,r1,q1⟩=>ho pins s1 σ H1 x v Q I1 r1 q1)
theorem opI{f:Z0->Z0->Sem Z0}{C:Int->Int->Prop}{g:Int->Int->Int}(rule:∀(i j:Int)(t u:Tok)(s:U0)(Q:Z0->U0->Prop)(E:Z0->U0->Prop),C i j->Q (.int (g i j) s.toks) {s with toks:=s.toks+1}->wpAny (model X.prog X.w) X.A (f (.int i t) (.int j u)) Q E s):OpR X f (rI C λ i j=>.int (g i j)):=by
 intro pins s σ H x y v u Q I rx ry h;obtain⟨i,j,rfl,rfl,hc,q⟩:=h;obtain⟨t,rfl⟩:=rx;obtain⟨t',rfl⟩:=ry;exact rule i j t t' s _ _ hc ⟨.int (g i j),H,I.tok _,⟨_,rfl⟩,q⟩
theorem opI0{f:Z0->Z0->Sem Z0}{g:Int->Int->Int}(rule:∀(i j:Int)(t u:Tok)(s:U0)(Q:Z0->U0->Prop)(E:Z0->U0->Prop),Q (.int (g i j) s.toks) {s with toks:=s.toks+1}->wpAny (model X.prog X.w) X.A (f (.int i t) (.int j u)) Q E s):OpR X f (rI0 λ i j=>.int (g i j)):=by
 intro pins s σ H x y v u Q I rx ry h;obtain⟨i,j,rfl,rfl,q⟩:=h;obtain⟨t,rfl⟩:=rx;obtain⟨t',rfl⟩:=ry;exact rule i j t t' s _ _ ⟨.int (g i j),H,I.tok _,⟨_,rfl⟩,q⟩
theorem opB0{f:Z0->Z0->Sem Z0}{g:Int->Int->Bool}(rule:∀(i j:Int)(t u:Tok)(s:U0)(Q:Z0->U0->Prop)(E:Z0->U0->Prop),Q (.bool (g i j)) s->wpAny (model X.prog X.w) X.A (f (.int i t) (.int j u)) Q E s):OpR X f (rI0 λ i j=>.bl (g i j)):=by
 intro pins s σ H x y v u Q I rx ry h;obtain⟨i,j,rfl,rfl,q⟩:=h;obtain⟨t,rfl⟩:=rx;obtain⟨t',rfl⟩:=ry;exact rule i j t t' s _ _ ⟨.bl (g i j),H,I,rfl,q⟩
def CDiv(i j:Int):Prop:=0<j/\j<1073741824
def CPow(i j:Int):Prop:=0<=j/\j<=1000000/\i.natAbs<2^64
def CMul(i j:Int):Prop:=(-(2^64)<i/\i<2^64)\/(-(2^64)<j/\j<2^64)
theorem CMul.ok{i j:Int}(h:CMul i j):IntMulOk i j:=by
 rcases h with⟨h1,h2⟩|⟨h1,h2⟩
 ·exact .of_left (intBits_le_64 h1 h2)
 ·exact .of_right (intBits_le_64 h1 h2)
theorem Z0S:OpR X (binaryOp .Add) (rI0 λ i j=>.int (i+j)):=opI0 λ _ _ _ _ _ _ _ q=>add_int q
theorem J6F:OpR X (binaryOp .Sub) (rI0 λ i j=>.int (i-j)):=opI0 λ _ _ _ _ _ _ _ q=>sub_int q
theorem Z4d:OpR X (binaryOp .Mult) (rI CMul λ i j=>.int (i*j)):=opI λ _ _ _ _ _ _ _ hc q=>mul_int q hc.ok
theorem Z2u:OpR X (binaryOp .FloorDiv) (rI CDiv λ i j=>.int (i/j)):=opI λ i j _ _ _ _ _ hc q=>by
 have h1:(0:Int)<j:=hc.1;have h2:j<1073741824:=hc.2;exact floordiv_int qR (by rw[Int.fdiv_eq_ediv_of_nonneg i qR];exact q) (.inl (PyProof.noPylong_small qR))
theorem Z1u:OpR X (binaryOp .Mod) (rI (λ _ j=>0<j) λ i j=>.int (i%j)):=opI λ i j _ _ _ _ _ hc q=>by
 have h1:(0:Int)<j:=hc;exact mod_int' qR (by rw[Int.fmod_eq_emod_of_nonneg i qR];exact q)
theorem J1P:OpR X (inplaceOp .Add) (rI0 λ i j=>.int (i+j)):=opI0 λ _ _ _ _ _ _ _ q=>iadd_int q
theorem unI{f:Z0->Sem Z0}{g:Int->Int}(rule:∀(i:Int)(t:Tok)(s:U0)(Q:Z0->U0->Prop)(E:Z0->U0->Prop),Q (.int (g i) s.toks) {s with toks:=s.toks+1}->wpAny (model X.prog X.w) X.A (f (.int i t)) Q E s):UnR X f (rU λ i=>.int (g i)):=by
 intro pins s σ H x v Q I rx h;obtain⟨i,rfl,q⟩:=h;obtain⟨t,rfl⟩:=rx;exact rule i t s _ _ ⟨.int (g i),H,I.tok _,⟨_,rfl⟩,q⟩
theorem J7l:UnR X (unaryOp .USub) (rU λ i=>.int (-i)):=unI λ _ _ _ _ _ q=>neg_int q
end
def scal:V->V->Bool
 | .non,.non=>true| .non,.int _=>true| .int _,.non=>true| .non,.bl _=>true| .bl _,.non=>true| .non,.str _=>true| .str _,.non=>true
 | .int _,.int _=>true| .bl _,.bl _=>true| .str _,.str _=>true| .byt _,.byt _=>true
 | .int _,.str _=>true| .str _,.int _=>true| .bl _,.str _=>true| .str _,.bl _=>true
 |_,_=>false
def rEq:R2:=λ x y H Q=>scal x y=true/\Q (.bl (decide (x=y))) H
def rNe:R2:=λ x y H Q=>scal x y=true/\Q (.bl (!decide (x=y))) H
theorem J1H{i j:Int}:decide (V.int i=V.int j)=(i==j):=by
 rw[qg1];simp
theorem J3W{i j:Bool}:decide (V.bl i=V.bl j)=(i==j):=by
 rw[qg1];simp
theorem J1E{i j:V0}:decide (V.str i=V.str j)=(i==j):=by
 rw[qg1];simp
theorem J1I{i j:Array UInt8}:decide (V.byt i=V.byt j)=(i.toList==j.toList):=by
 rw[qg1];cases i;cases j;simp
section
variable{X:Cx}{a b c:Expr}{ta tb tc:TE}{pos:Pos}
theorem Z0z{pins:List (X0×Obj)}{σ:St}{H:Hp}{s:U0}{Q:VK}{k k':Bool}(I:Inv X pins σ H s)(q:Q (.bl k) H)(e:k=k'):EP X pins σ Q (.bool k') s:=by
 subst e;exact⟨.bl k,H,I,rfl,q⟩
theorem Z1t:OpR X (compareOp .Eq) rEq:=by
 intro pins s σ H x y v u Q I rx ry h;obtain⟨hs,q⟩:=h;cases x with
 |non=>
  cases rx;cases y with
  |non=>cases ry;exact PySem.EqNone.eq_none_none (Z0z I q (by simp))
  |bl j=>cases ry;exact PySem.EqNone.eq_none_bool (Z0z I q (by simp))
  |int j=>obtain⟨t',rfl⟩:=ry;exact PySem.EqNone.eq_none_int (Z0z I q (by simp))
  |str j=>obtain⟨t',rfl⟩:=ry;exact PySem.EqNone.eq_none_str (Z0z I q (by simp))
  |_=>exact absurd (show false=true from hs) qb3
 |bl i=>
  cases rx;cases y with
  |non=>cases ry;exact PySem.EqNone.eq_bool_none (Z0z I q (by simp))
  |bl j=>cases ry;exact eq_bool (Z0z I q J3W)
  |str j=>obtain⟨t',rfl⟩:=ry;exact PySem.EqMixed.eq_bool_str (Z0z I q (by simp))
  |_=>exact absurd (show false=true from hs) qb3
 |int i=>
  obtain⟨t,rfl⟩:=rx;cases y with
  |non=>cases ry;exact PySem.EqNone.eq_int_none (Z0z I q (by simp))
  |int j=>obtain⟨t',rfl⟩:=ry;exact eq_int (Z0z I q J1H)
  |str j=>obtain⟨t',rfl⟩:=ry;exact PySem.EqMixed.eq_int_str (Z0z I q (by simp))
  |_=>exact absurd (show false=true from hs) qb3
 |str i=>
  obtain⟨t,rfl⟩:=rx;cases y with
  |non=>cases ry;exact PySem.EqNone.eq_str_none (Z0z I q (by simp))
  |bl j=>cases ry;exact PySem.EqMixed.eq_str_bool (Z0z I q (by simp))
  |int j=>obtain⟨t',rfl⟩:=ry;exact PySem.EqMixed.eq_str_int (Z0z I q (by simp))
  |str j=>obtain⟨t',rfl⟩:=ry;exact eq_str (Z0z I q J1E)
  |_=>exact absurd (show false=true from hs) qb3
 |byt i=>
  obtain⟨t,rfl⟩:=rx;cases y with
  |byt j=>obtain⟨t',rfl⟩:=ry;exact W.eq_bytes (Z0z I q J1I)
  |_=>exact absurd (show false=true from hs) qb3
 |_=>cases y<;>exact absurd (show false=true from hs) qb3
theorem J4U:OpR X (compareOp .NotEq) rNe:=by
 intro pins s σ H x y v u Q I rx ry h;obtain⟨hs,q⟩:=h;cases x with
 |non=>
  cases rx;cases y with
  |non=>cases ry;exact PySem.EqNone.ne_none_none (Z0z I q (by simp))
  |bl j=>cases ry;exact PySem.EqNone.ne_none_bool (Z0z I q (by simp))
  |int j=>obtain⟨t',rfl⟩:=ry;exact PySem.EqNone.ne_none_int (Z0z I q (by simp))
  |str j=>obtain⟨t',rfl⟩:=ry;exact PySem.EqNone.ne_none_str (Z0z I q (by simp))
  |_=>exact absurd (show false=true from hs) qb3
 |bl i=>
  cases rx;cases y with
  |non=>cases ry;exact PySem.EqNone.ne_bool_none (Z0z I q (by simp))
  |bl j=>cases ry;exact ne_bool (Z0z I q (congrArg not J3W))
  |str j=>obtain⟨t',rfl⟩:=ry;exact PySem.EqMixed.ne_bool_str (Z0z I q (by simp))
  |_=>exact absurd (show false=true from hs) qb3
 |int i=>
  obtain⟨t,rfl⟩:=rx;cases y with
  |non=>cases ry;exact PySem.EqNone.ne_int_none (Z0z I q (by simp))
  |int j=>obtain⟨t',rfl⟩:=ry;exact ne_int (Z0z I q (congrArg not J1H))
  |str j=>obtain⟨t',rfl⟩:=ry;exact PySem.EqMixed.ne_int_str (Z0z I q (by simp))
  |_=>exact absurd (show false=true from hs) qb3
 |str i=>
  obtain⟨t,rfl⟩:=rx;cases y with
  |non=>cases ry;exact PySem.EqNone.ne_str_none (Z0z I q (by simp))
  |bl j=>cases ry;exact PySem.EqMixed.ne_str_bool (Z0z I q (by simp))
  |int j=>obtain⟨t',rfl⟩:=ry;exact PySem.EqMixed.ne_str_int (Z0z I q (by simp))
  |str j=>obtain⟨t',rfl⟩:=ry;exact ne_str (Z0z I q (congrArg not J1E))
  |_=>exact absurd (show false=true from hs) qb3
 |byt i=>
  obtain⟨t,rfl⟩:=rx;cases y with
  |byt j=>obtain⟨t',rfl⟩:=ry;exact W.ne_bytes (Z0z I q (congrArg not J1I))
  |_=>exact absurd (show false=true from hs) qb3
 |_=>cases y<;>exact absurd (show false=true from hs) qb3
theorem J2r:OpR X (compareOp .Lt) (rI0 λ i j=>.bl (decide (i<j))):=opB0 λ _ _ _ _ _ _ _ q=>lt_int q
theorem J2z:OpR X (compareOp .LtE) (rI0 λ i j=>.bl (decide (i<=j))):=opB0 λ _ _ _ _ _ _ _ q=>le_int q
theorem Z5A:OpR X (compareOp .Gt) (rI0 λ i j=>.bl (decide (j<i))):=opB0 λ _ _ _ _ _ _ _ q=>gt_int q
theorem J8p:OpR X (compareOp .GtE) (rI0 λ i j=>.bl (decide (j<=i))):=opB0 λ _ _ _ _ _ _ _ q=>ge_int q
theorem Z1q:OpR X (compareOp .In) (λ x y H Q=>∃i j,x=.str i/\y=.str j/\Q (.bl (!(Builtin.Str.occurrences j i 0 j.length 1).isEmpty)) H):=by
 intro pins s σ H x y v u Q I rx ry h;obtain⟨i,j,rfl,rfl,q⟩:=h;obtain⟨t,rfl⟩:=rx;obtain⟨t',rfl⟩:=ry;exact in_str (Z0z I q rfl)
theorem Z3j:OpR X (compareOp .Is) (λ x y H Q=>y=.non/\Q (.bl (decide (x=.non))) H):=by
 intro pins s σ H x y v u Q I rx ry h;obtain ⟨rfl,q⟩:=h;cases ry;refine is_none_gen (Z0z I q ?_);cases x <;> first
  |(cases rx;rfl)
  |(obtain⟨t,rfl⟩:=rx;rfl)
theorem Z7p:OpR X (compareOp .IsNot) (λ x y H Q=>y=.non/\Q (.bl (!decide (x=.non))) H):=by
 intro pins s σ H x y v u Q I rx ry h;obtain ⟨rfl,q⟩:=h;cases ry;refine isnot_none_gen (Z0z I q ?_);cases x <;> first
  |(cases rx;rfl)
  |(obtain⟨t,rfl⟩:=rx;rfl)
theorem Z6a:OpR X (compareOp .NotIn) (λ x y H Q=>∃i j,x=.str i/\y=.str j/\Q (.bl (!(!(Builtin.Str.occurrences j i 0 j.length 1).isEmpty))) H):=by
 intro pins s σ H x y v u Q I rx ry h;obtain⟨i,j,rfl,rfl,q⟩:=h;obtain⟨t,rfl⟩:=rx;obtain⟨t',rfl⟩:=ry;exact notIn_str (Z0z I q rfl)
theorem Z4i(b:Expr){op:CmpOp}(h:op≠.In:=by decide)(h2:op≠.NotIn:=by decide):behindInMarks op b=false:=by
 have e1:(op==CmpOp.In)=false:=by cases op<;>first|rfl|exact absurd rfl h
 have e2:(op==CmpOp.NotIn)=false:=by cases op<;>first|rfl|exact absurd rfl h2
 cases b<;>simp[behindInMarks,e1,e2]
theorem Z1i{op:CmpOp}{r:R2}(ho:OpR X (compareOp op) r)(ha:PE X a ta)(hb:PE X b tb)(hm:behindInMarks op b=false):PE X (.Compare a [op] [b] pos) (tOp r ta tb):=by
 intro pins s σ H Q I h;exact wpAny_Compare1 (binT ha hb I h λ v u s2 x y H2 I2 rx ry q=>ho pins s2 σ H2 x y v u Q I2 rx ry q) hm
def J2h(t:TE):TT:=λ σ H Q=>t σ H λ x H'=>∃k,x=.bl k/\Q k H'
theorem Z1a{op:CmpOp}{r:R2}(ho:OpR X (compareOp op) r)(ha:PE X a ta)(hb:PE X b tb)(hm:behindInMarks op b=false):PT X (.Compare a [op] [b] pos) (J2h (tOp r ta tb)):=by
 intro pins s σ H Q I h;refine wpAny_isTrue_Compare1 (thn (ha pins s σ H _ I h) λ v s1 ⟨x,H1,I1,r1,q1⟩=>thn (hb pins s1 σ H1 _ I1 q1) λ u s2 ⟨y,H2,I2,r2,q2⟩=>thn (ho pins s2 σ H2 x y v u _ I2 r1 r2 q2) λ c s3 ⟨z,H3,I3,r3,k,e,q3⟩=>?_) hm;subst e;cases r3;exact wpAny_truthy_bool ⟨H3,I3,q3⟩
def J4i(r r':R2)(ta tb tc:TE):TE:=λ σ H Q=>ta σ H λ x H1=>tb σ H1 λ y H2=>r x y H2 λ z H3=>∃k,z=.bl k/\
 (if k=true then tc σ H3 λ w' H4=>r' y w' H4 Q else Q (.bl false) H3)
theorem Z8F{op op':CmpOp}{r r':R2}(ho:OpR X (compareOp op) r)(ho':OpR X (compareOp op') r')(ha:PE X a ta)(hb:PE X b tb)(hc:PE X c tc)(hm:lastMarks [op,op'] [b,c]=false:=by with_unfolding_all rfl):PT X (.Compare a [op,op'] [b,c] pos) (J2h (J4i r r' ta tb tc)):=by
 intro pins s σ H Q I h;refine isTrue_chain (thn (ha pins s σ H _ I h) λ v s1 ⟨x,H1,I1,r1,q1⟩=>test_link (thn (hb pins s1 σ H1 _ I1 q1) λ u s2 ⟨y,H2,I2,r2,q2⟩=>thn (ho pins s2 σ H2 x y v u _ I2 r1 r2 q2) λ d s3 ⟨z,H3,I3,r3,k,e,q3⟩=>?_)) hm;subst e;cases r3;refine wpAny_truthy_bool ?_;cases k with
 |false=>
  obtain⟨k',e',q'⟩:=q3;cases e';exact ite_ff ⟨H3,I3,q'⟩
 |true=>
  refine ite_tt (test_last (thn (hc pins s3 σ H3 _ I3 q3) λ w' s4 ⟨z',H4,I4,r4,q4⟩=>thn (ho' pins s4 σ H4 y z' u w' _ I4 r2 r4 q4) λ d' s5 ⟨z2,H5,I5,r5,k2,e2,q5⟩=>?_));subst e2;cases r5;exact wpAny_truthy_bool ⟨H5,I5,q5⟩
theorem Z4R:(sizeLine:Nat)<2^63:=by rw[sizeLine_eq];decide
theorem Z0i:OpR X (binaryOp .Add) (λ x y H Q=>∃i j,x=.str i/\y=.str j/\i.length+j.length<=sizeLine/\Q (.str (i++j)) H):=by
 intro pins s σ H x y v u Q I rx ry h;obtain⟨i,j,rfl,rfl,hz,q⟩:=h;obtain⟨t,rfl⟩:=rx;obtain⟨t',rfl⟩:=ry;exact add_str (λ t' tk=>⟨.str (i++j),H,I.tok _,⟨_,rfl⟩,q⟩) hz
theorem Z9j{x:V}{us:List Z0}(r:Vals [x] us):∃u,us=[u]/\RelV x u:=by
 cases r with
 |cons r1 r2=>cases r2;exact⟨_,rfl,r1⟩
end
end L2
namespace L2
open PySem PySem.Spec PyProof.Rows
structure ObjM(h:N0)(x dx C:X0)(mA:V0->Option Z0):Prop where
 obj:h.get? x=some (W.instObj C dx)
 ns:h.Ns1 dx mA
 ne:dx≠x
theorem J0t{h:N0}{dx:X0}{mA:V0->Option Z0}(n:h.Ns1 dx mA):∃od,h.get? dx=some od/\∀name,W.lookIn name od=some (mA name):=by
 obtain⟨o,es,ep,ho,hd,hk,_,hm⟩:=n;refine⟨o,ho,λ name=>?_⟩;have e:=hm name;unfold nsFind findBy at e;rw[<-Array.find?_toList]at e;unfold W.lookIn;rw[hd];dsimp only;split
 ·rename_i y q;rw[q]at e;exact congrArg some e
 ·rename_i q;rw[q]at e;have a:es.toList.any (·.refKey)=false:=by
   rw[List.any_eq_false];intro y hy;obtain⟨z,t,hkey⟩:=hk y (Array.mem_toList_iff.mp hy);simp[DictEntry.refKey,hkey]
  have a':¬es.toList.any (·.refKey)=true:=by rw[a];exact qb3
  rw[if_neg a'];exact congrArg some e
theorem ObjM.look{h:N0}{x dx C:X0}{mA:V0->Option Z0}(I:ObjM h x dx C mA):∃od,W.InstAt h x (W.instObj C dx) C (some od)/\∀name,W.lookIn name od=some (mA name):=
 let⟨od,ho,hl⟩:=J0t I.ns
 ⟨od,⟨I.obj,rfl,rfl,ho⟩,hl⟩
section
variable{prog:Program}{w:M0}{A:O0}{E:Z0->U0->Prop}{s:U0}{K:y0}{x dx C f:X0}{mA:V0->Option Z0}{name:V0}{v:Z0}
theorem J5s{expr:Bool}{Q:Z0->U0->Prop}(X:K.In s.heap)(I:ObjM s.heap x dx C mA)(hg:W.plainGet K C name=true)(hh:W.hasDictIn K C=true)(ha:W.findIn K (.ref C) name=some none)(hv:mA name=some v)(hv':W.handedIn v=true)(h:Q v {s with toks:=s.toks+1}):wpAny (model prog w) A (getAttr (.ref x) name expr) Q E s:=by
 obtain⟨od,J,hl⟩:=I.look;exact W.get_value X J (W.plainGet_of hg).1 (W.findObj_own hh ha rfl (by rw[hl,hv])) hv' h
theorem J2Y{pl:Sem Bool}{Q:Z0×List Z0->U0->Prop}(X:K.In s.heap)(I:ObjM s.heap x dx C mA)(hg:W.plainGet K C name=true)(hf:W.findIn K (.ref C) name=some (some (.ref f)))(ht:W.isFn K (.ref f)=true)(hv:mA name=none)(h:Q (.ref f,[.ref x]) s):wpAny (model prog w) A (getMethod (.ref x) name pl) Q E s:=by
 obtain⟨od,J,hl⟩:=I.look;exact W.method_fn X J (W.plainGet_of hg).1 (W.plainGet_of hg).2 hf (beq_iff_eq.mp ht) (by show(W.lookIn name od).map (·.isSome)=some false;rw[hl,hv];rfl) h
theorem J4N{ns:List V0}{Q:Unit->U0->Prop}(X:K.In s.heap)(I:ObjM s.heap x dx C mA)(hs:W.findIn K (.ref C) "__setattr__"=some (some (.builtin "object.__setattr__")))(hp:W.plainOver K C=true)(ht:W.takerIn K C name=some none)(hh:W.hasDictIn K C=true)(hw:PySem.Within mA ns)(hsz:ns.length<=sizeLine)(h:∀h',ObjM h' x dx C (λ y=>if y=name then some v else mA y)->Heap.SameBut dx s.heap h'->Q () {s with heap:=h',toks:=s.toks+2}):wpAny (model prog w) A (setAttr (.ref x) name v) Q E s:=by
 obtain⟨od,J,hl⟩:=I.look;refine W.set_plain X J hs (W.osa_open (s:={s with toks:=s.toks+1}) (r:=none) X J hp ht λ b=>?_);obtain⟨cd,hc,hd'⟩:=W.any_some hh;have hx:s.heap.get? x=some ⟨.ref C,some dx,.plain,#[]⟩:=I.obj;refine wpAny_bind (wpAny_pure (wpAny_bind (wpAny_bind (wpAny_loadPart hx (wpAny_bind (W.Looks.here (s:={s with toks:=s.toks+1}) (W.looks_clsIn X hc) ?_))))));rw[hd'];refine wpAny_pure (a:=some dx) (wpAny_bind (wpAny_pure (wpAny_bind ?_)));refine wpAny_nsSet1 (s:={s with toks:=s.toks+1}) I.ns λ h' hn2 hs2=>?_;obtain⟨oD,esD,epD,hoD,hdD,hcD⟩:=hn2.count (PySem.Within.cons name v hw);refine wpAny_bind (wpAny_lookBehind hoD (by rw[hdD];exact pastItsLine_dict (qa1 hcD (by rw[qa4];lia))) ?_);exact wpAny_pure (h _ ⟨(hs2.2 _ (Ne.symm I.ne)).trans I.obj,hn2,I.ne⟩ hs2)
theorem J2W{R:Result->U0->Prop}{vs:List Z0}{kw:List (V0×Z0)}(X:K.In s.heap)(hm:W.makesIn K C=true)(hi:W.findIn K (.ref C) "__init__"=some (some (.ref f)))(hf:W.typeIn K (.ref f)=some (.type "function"))(h:codeAny (model prog w) (A.under (.builtin "type.__call__" ⟨.ref C::vs,kw⟩)) (.call (.ref f) ⟨.ref (s.heap.objs.size+1)::vs,kw⟩) (W.InitBack (s.heap.objs.size+1) R) {s with heap:=(s.heap.push W.emptyDict).push (W.instObj C s.heap.objs.size)}):codeAny (model prog w) A (.call (.ref C) ⟨vs,kw⟩) R s:=by
 obtain⟨hh,g,d,t,os⟩:=s;exact W.make_core (W.makes_of X hm) (W.looks_findIn X hi) (λ self=>W.bind_fn X self hf) (.inl rfl) h
end
def putF(f:V0)(v:V):List (V0×V)->List (V0×V)
 |[]=>[(f,v)]
 |(g,x)::r=>if g=f then(g,v)::r else(g,x)::putF f v r
theorem Z4t(f g:V0)(v:V):∀fs:List (V0×V),(putF f v fs).lookup g=if g=f then some v else fs.lookup g
 |[]=>by
  show qc7 g [(f,v)]=_;by_cases h:g=f
  ·have hb:(g==f)=true:=beq_iff_eq.mpr h;simp only[qc7,hb,if_pos h]
  ·have hb:(g==f)=false:=beq_eq_false_iff_ne.mpr h;simp only[qc7,hb,if_neg h]
 |(k,x)::r=>by
  have ih:=Z4t f g v r;rw[show putF f v ((k,x)::r)=(if k=f then(k,v)::r else(k,x)::putF f v r)from rfl];by_cases hk:k=f
  ·rw[if_pos hk];by_cases h:g=k
   ·have hb:(g==k)=true:=beq_iff_eq.mpr h;simp only[qc7,hb,if_pos (h.trans hk)]
   ·have hb:(g==k)=false:=beq_eq_false_iff_ne.mpr h;simp only[qc7,hb,if_neg (λ e:g=f=>h (e.trans hk.symm))]
  ·rw[if_neg hk];by_cases h:g=k
   ·have hb:(g==k)=true:=beq_iff_eq.mpr h;simp only[qc7,hb,if_neg (λ e:g=f=>hk (h.symm.trans e))]
   ·have hb:(g==k)=false:=beq_eq_false_iff_ne.mpr h;simp only[qc7,hb];exact ih
theorem Z4A(f:V0)(v:V):∀fs:List (V0×V),f∈(putF f v fs).map (·.1)/\∀g,g∈fs.map (·.1)->g∈(putF f v fs).map (·.1)
 |[]=>⟨by simp[putF],λ g h=>by simp at h⟩
 |(k,x)::r=>by
  obtain⟨i1,i2⟩:=Z4A f v r;rw[show putF f v ((k,x)::r)=(if k=f then(k,v)::r else(k,x)::putF f v r)from rfl];by_cases hk:k=f
  ·rw[if_pos hk];subst hk;exact⟨by simp,λ g h=>by simpa using h⟩
  ·rw[if_neg hk];refine⟨?_,λ g h=>?_⟩
   ·rw[qc4];exact qa8 _ i1
   ·rw[qc4]at h ⊢;rcases qa2.mp h with e|e
    ·exact qa2.mpr (.inl e)
    ·exact qa8 _ (i2 g e)
theorem Z4u(f:V0)(v:V):∀fs:List (V0×V),(putF f v fs).length<=fs.length+1
 |[]=>by simp[putF]
 |(k,x)::r=>by
  have ih:=Z4u f v r;rw[show putF f v ((k,x)::r)=(if k=f then(k,v)::r else(k,x)::putF f v r)from rfl];by_cases hk:k=f
  ·rw[if_pos hk,qa4,qa4];lia
  ·rw[if_neg hk,qa4,qa4];lia
theorem RelO.some_of{v:V}{o:Option Z0}(r:RelO (some v) o):∃u,o=some u/\RelV v u:=by
 cases o with
 |none=>exact(show False from r).elim
 |some u=>exact⟨u,rfl,r⟩
theorem RelO.none_of{o:Option Z0}(r:RelO none o):o=none:=by
 cases o with
 |none=>rfl
 |some u=>exact(show False from r).elim
theorem J0y{v:V}{u:Z0}(r:RelV v u):W.handedIn u=true:=by
 cases v with
 |non=>cases(show u=Value.none from r);rfl
 |bl b=>cases(show u=Value.bool b from r);rfl
 |int i=>obtain⟨t,e⟩:=(show ∃t,u=Value.int i t from r);cases e;rfl
 |str x=>obtain⟨t,e⟩:=(show ∃t,u=Value.str x t from r);cases e;rfl
 |byt b=>obtain⟨t,e⟩:=(show ∃t,u=Value.bytes b t from r);cases e;rfl
 |flt b=>obtain⟨t,e⟩:=(show ∃t,u=Value.float b t from r);cases e;rfl
 |ref a=>cases(show u=Value.ref a from r);rfl
 |ty n=>cases(show u=Value.type n from r);rfl
section
variable{P:Program}{w:M0}{H H':Hp}{h h':N0}{a C dx:X0}{fs fs':List (V0×V)}
theorem Z5C(hok:HOk P w H h)(e:H a=some (.ins C dx fs)):∃mA,ObjM h a dx C mA/\(∀f,RelO (fs.lookup f) (mA f))/\PySem.Within mA (fs.map (·.1))/\fs.length<=1000/\H dx=some (.own a):=by
 obtain⟨d,z,ne,ob,mA,n,r,q⟩:=(show ObjOk P w H h a (.ins C dx fs)from hok a _ e);exact⟨mA,⟨ob,n,ne⟩,r,q,z,d⟩
end
structure Cls(K:y0)(C:X0):Prop where
 pg:W.plainGet K C Str.empty=true
 hd:W.hasDictIn K C=true
 po:W.plainOver K C=true
 sa:W.findIn K (.ref C) "__setattr__"=some (some (.builtin "object.__setattr__"))
theorem Cls.get{K:y0}{C:X0}(c:Cls K C)(f:V0):W.plainGet K C f=true:=c.pg
def NoAttr(K:y0)(C:X0)(f:V0):Prop:=W.findIn K (.ref C) f=some none
theorem NoAttr.taker{K:y0}{C:X0}{f:V0}(n:NoAttr K C f):W.takerIn K C f=some none:=by
 unfold W.takerIn;rw[show W.findIn K (.ref C) f=some none from n];rfl
structure Con(K:y0)(C:X0)(f:V0)(v:V)(u:Z0):Prop where
 at_:W.findIn K (.ref C) f=some (some u)
 rel:RelV v u
 get:W.specialIn K u "__get__"=some none
 cp:W.copiedNames.contains f=false
structure Meth(K:y0)(C:X0)(m:V0)(f:X0):Prop where
 at_:W.findIn K (.ref C) m=some (some (.ref f))
 fn:W.isFn K (.ref f)=true
 kp:W.keepIn K (.ref f)=true
section
variable{X:Cx}{pins:List (X0×Obj)}{σ:St}{H:Hp}{s:U0}{a C dx:X0}{fs:List (V0×V)}{f:V0}{v:V}{A:O0}{E:Z0->U0->Prop}
theorem Z4V{b:Bool}{Q:Z0->U0->Prop}(I:Inv X pins σ H s)(e:H a=some (.ins C dx fs))(c:Cls X.K C)(n:NoAttr X.K C f)(l:fs.lookup f=some v)(h:∀u s',Inv X pins σ H s'->RelV v u->Q u s'):wpAny (model X.prog X.w) A (getAttr (.ref a) f b) Q E s:=by
 obtain⟨mA,O,r,_,_,_⟩:=Z5C I.hok e;obtain⟨u,hu,ru⟩:=RelO.some_of (v:=v) (o:=mA f) (by rw[<-l];exact r f);exact J5s I.kIn O (c.get f) c.hd n hu (J0y ru) (h u _ (I.tok _) ru)
theorem Z3D{m:V0}{g:X0}{pl:Sem Bool}{Q:Z0×List Z0->U0->Prop}(I:Inv X pins σ H s)(e:H a=some (.ins C dx fs))(c:Cls X.K C)(k:Meth X.K C m g)(l:fs.lookup m=none)(h:Q (.ref g,[.ref a]) s):wpAny (model X.prog X.w) A (getMethod (.ref a) m pl) Q E s:=by
 obtain⟨mA,O,r,_,_,_⟩:=Z5C I.hok e;have hn:mA m=none:=RelO.none_of (by rw[<-l];exact r m);exact J2Y I.kIn O (c.get m) k.at_ k.fn hn h
theorem Z4K{y:V}{u:Z0}{Q:Unit->U0->Prop}(I:Inv X pins σ H s)(e:H a=some (.ins C dx fs))(c:Cls X.K C)(n:NoAttr X.K C f)(hl:fs.length<1000)(ry:RelV y u)(h:∀s',Inv X pins σ (upd H a (.ins C dx (putF f y fs))) s'->Q () s'):wpAny (model X.prog X.w) A (setAttr (.ref a) f u) Q E s:=by
 obtain⟨mA,O,r,wi,_,ho⟩:=Z5C I.hok e;have hz:(fs.map (·.1)).length<=sizeLine:=by rw[qa3,sizeLine_eq];lia
 refine J4N I.kIn O c.sa c.po n.taker c.hd wi hz λ h' O' sb=>h _ ?_;have hd:∃o,h'.get? dx=some o:=let⟨o,_,_,e',_⟩:=O'.ns;⟨o,e'⟩;refine I.write (x:=a) (e:=dx) (by rw[e];exact True.intro) (.inr ho) (λ b q hb z=>(sb.2 b hb).trans z) hd ?_;refine⟨by rw[Z0h O.ne];exact ho,?_,O.ne,O'.obj,_,O'.ns,λ g=>?_,λ g hg=>?_⟩
 ·have:=Z4u f y fs;lia
 ·show RelO ((putF f y fs).lookup g) (if g=f then some u else mA g);rw[Z4t];by_cases q:g=f
  ·rw[if_pos q,if_pos q];exact ry
  ·rw[if_neg q,if_neg q];exact r g
 ·by_cases q:g=f
  ·rw[q];exact(Z4A f y fs).1
  ·refine(Z4A f y fs).2 g (wi g λ z=>hg ?_);show(if g=f then some u else mA g)=none;rw[if_neg q];exact z
theorem Inv.made(I:Inv X pins σ H s):Inv X pins σ (upd (upd H s.heap.objs.size (.own (s.heap.objs.size+1))) (s.heap.objs.size+1) (.ins C s.heap.objs.size [])) {s with heap:=(s.heap.push W.emptyDict).push (W.instObj C s.heap.objs.size)}:=by
 have e1:(s.heap.push W.emptyDict).get? s.heap.objs.size=some W.emptyDict:=Heap.get?_push_size s.heap rfl;have e2:((s.heap.push W.emptyDict).push (W.instObj C s.heap.objs.size)).get? (s.heap.objs.size+1)=some (W.instObj C s.heap.objs.size):=by
  have:=Heap.get?_push_size (s.heap.push W.emptyDict) (o:=W.instObj C s.heap.objs.size) rfl
  rwa [Heap.size_push]at this
 have e3:(s.heap.push W.emptyDict).Ns s.heap.objs.size (λ _=>none):=⟨W.emptyDict,#[],_,e1,rfl,(λ e he=>absurd he (by simp)),λ _=>rfl⟩;have I1:=I.laid (a:=s.heap.objs.size) (o:=.own (s.heap.objs.size+1)) (h':=s.heap.push W.emptyDict) (t':=s.toks) (λ b u q=>Heap.get?_push_of_some _ q) (qa0 _) ⟨_,e1⟩;refine I1.laid (a:=s.heap.objs.size+1) (o:=.ins C s.heap.objs.size []) (t':=s.toks) (λ b u q=>Heap.get?_push_of_some _ q) (qg2 (Heap.size_push _ _)) ?_;have ne:s.heap.objs.size≠s.heap.objs.size+1:=qb2 (qc9 _);refine⟨by rw[Z0h ne,Z0e],qb4 _,ne,e2,λ _=>none,(Heap.Ns1.of_empty e3).at λ o q=>Heap.get?_push_of_some _ q,λ _=>True.intro,λ y hy=>absurd rfl hy⟩
theorem J4p{prog:Program}{w:M0}{env:Env}{e:Expr}{f:V0}{pos:Pos}{s:U0}{Q:Z0->U0->Prop}(hb:attributeBase e f env (eval e env)=eval e env)(h:wpAny (model prog w) A (eval e env) (λ o s₁=>wpAny (model prog w) A (getAttr o f true) Q E s₁) E s):wpAny (model prog w) A (eval (.Attribute e f pos) env) Q E s:=
 Attribute_any_ h (by rw[arm_eval_Attribute,hb])
end
def InOp(X:Cx)(op:Operator)(rd:V->V->Hp->VK->Prop):Prop:=
 ∀(pins:List (X0×Obj))(s:U0)(σ:St)(H:Hp)(x y:V)(u v:Z0)(Q:VK),Inv X pins σ H s->RelV x u->RelV y v->rd x y H Q->wpAny (model X.prog X.w) X.A (inplaceOp op u v) (EP X pins σ Q) X.xe s
section
variable{X:Cx}{o e value:Expr}{f:V0}{pos pos' tpos:Pos}{ta tv:TE}
theorem J5a{pl:Sem Bool}{m:V0}{apos:Pos}{args:List Expr}{pins:List (X0×Obj)}{s:U0}{σ:St}{H:Hp}{Q:Z0->U0->Prop}{te:TE}(he:PE X e te)(I:Inv X pins σ H s)(h:te σ H λ x H1=>∃a C dx fs g,x=.ref a/\H1 a=some (.ins C dx fs)/\Cls X.K C/\Meth X.K C m g/\fs.lookup m=none/\∀s1,Inv X pins σ H1 s1->wpAny (model X.prog X.w) X.A (callWith pos (.ref g) [.ref a] (backTo pos (starEach args X.env)) (backToKw pos (keywordEach [] X.env))) Q X.xe s1)(ht:eval (.Call (.Attribute e m apos) args [] pos) X.env=(do
   let ov<-eval e X.env
   standAt apos.atName
   let(f,first)<-holding [ov] (getMethod ov m pl)
   callWith pos f first (backTo pos (starEach args X.env)) (backToKw pos (keywordEach [] X.env)))):wpAny (model X.prog X.w) X.A (eval (.Call (.Attribute e m apos) args [] pos) X.env) Q X.xe s:=by
 refine W.methodCall_KW (pl:=pl) (thn (he pins s σ H _ I h) λ u s1 hz_=>?_) ht;obtain⟨x,H1,I1,rx,a,C,dx,fs,g,ex,ea,c,k,l,q⟩:=hz_;subst ex;obtain rfl:u=Value.ref a:=rx;exact Z3D I1 ea c k l (q s1 I1)
end
section
variable{X:Cx}{pins:List (X0×Obj)}{σ:St}{H:Hp}{s:U0}{A:O0}{E:Z0->U0->Prop}{Q:Z0->U0->Prop}{c:Z0}{b:Bool}
inductive TyOf(K:y0)(H:Hp):V->Z0->Prop where
 |non:TyOf K H .non (.type "NoneType")
 |bl(x:Bool):TyOf K H (.bl x) (.type "bool")
 |int(i:Int):TyOf K H (.int i) (.type "int")
 |str(x:V0):TyOf K H (.str x) (.type "str")
 |flt(x:UInt64):TyOf K H (.flt x) (.type "float")
 |lst{a:X0}{xs:List V}(e:H a=some (.lst xs)):TyOf K H (.ref a) (.type "list")
 |frz{a:X0}{o:Obj}{xs:List V}(e:H a=some (.frz o (.lst xs))):TyOf K H (.ref a) (.type "list")
 |tup{a:X0}{xs:List V}(e:H a=some (.tup xs)):TyOf K H (.ref a) (.type "tuple")
 |dK{a:X0}{kvs:List (Key×V)}(e:H a=some (.dK kvs)):TyOf K H (.ref a) (.type "dict")
 |dT{a:X0}{kvs:List (List Key×V)}(e:H a=some (.dT kvs)):TyOf K H (.ref a) (.type "dict")
 |ins{a C dx:X0}{fs:List (V0×V)}(e:H a=some (.ins C dx fs))(cl:Cls K C)(ha:W.findIn K (.ref C) "__class__"=some (some (.builtin "object.__class__")))
   (hn:W.specialIn K (.builtin "object.__class__") "__get__"=some (some (.builtin "getset_descriptor.__get__"))) (htk:W.takesIn K (.builtin "object.__class__")=some true)
   (hm:W.mroIn K C (.type "object")=some true):TyOf K H (.ref a) (.ref C)
theorem J1L{x:V}{u t:Z0}(I:Inv X pins σ H s)(rx:RelV x u)(ty:TyOf X.K H x t)(e:W.kitOne X.K t c=some b)(h:∀tk,Q (.bool b) {s with toks:=tk}):wpAny (model X.prog X.w) A (call (.builtin "isinstance") [u,c]) Q E s:=by
 cases ty with
 |non=>cases(show u=Value.none from rx);exact W.kia_one W.kitx_none I.kIn True.intro e (λ z=>nomatch z) h
 |bl y=>cases(show u=Value.bool y from rx);exact W.kia_one W.kitx_bool I.kIn True.intro e (λ z=>nomatch z) h
 |int i=>obtain⟨t,q⟩:=(show ∃t,u=Value.int i t from rx);cases q;exact W.kia_one W.kitx_int I.kIn True.intro e (λ z=>nomatch z) h
 |str y=>obtain⟨t,q⟩:=(show ∃t,u=Value.str y t from rx);cases q;exact W.kia_one W.kitx_str I.kIn True.intro e (λ z=>nomatch z) h
 |flt y=>obtain⟨t,q⟩:=(show ∃t,u=Value.float y t from rx);cases q;exact W.kia_one W.kitx_float I.kIn True.intro e (λ z=>nomatch z) h
 |@lst a xs ea=>
  cases(show u=Value.ref a from rx);obtain⟨_,_,n,_,h1⟩:=(show ObjOk X.prog X.w H s.heap a (.lst xs)from I.hok a _ ea);exact W.kia_one W.kitx_list I.kIn ⟨_,h1,rfl⟩ e (λ z=>nomatch z) h
 |@frz a ob xs ea=>
  cases(show u=Value.ref a from rx);obtain⟨_,_,_,n,_,h1⟩:=(show ObjOk X.prog X.w H s.heap a (.frz ob (.lst xs))from I.hok a _ ea);exact W.kia_one W.kitx_list I.kIn ⟨_,h1,rfl⟩ e (λ z=>nomatch z) h
 |@tup a xs ea=>
  cases(show u=Value.ref a from rx);obtain⟨_,_,_,p⟩:=(show ObjOk X.prog X.w H s.heap a (.tup xs)from I.hok a _ ea);obtain⟨o,h1,h2,_⟩:=p;exact W.kia_one W.kitx_tuple I.kIn ⟨o,h1,h2⟩ e (λ z=>nomatch z) h
 |@dK a kvs ea=>
  cases(show u=Value.ref a from rx);obtain⟨_,_,vs,_,p⟩:=(show ObjOk X.prog X.w H s.heap a (.dK kvs)from I.hok a _ ea);obtain⟨o,es,ep,h1,h2,_⟩:=p;exact W.kia_one W.kitx_dict I.kIn ⟨o,h1,h2.1⟩ e (λ z=>nomatch z) h
 |@dT a kvs ea=>
  cases(show u=Value.ref a from rx);obtain⟨_,_,xs,_,o,es,ep,h1,h2,_⟩:=(show ObjOk X.prog X.w H s.heap a (.dT kvs)from I.hok a _ ea);exact W.kia_one W.kitx_dict I.kIn ⟨o,h1,h2.1⟩ e (λ z=>nomatch z) h
 |@ins a C dx fs ea cl ha hn htk hm=>
  cases(show u=Value.ref a from rx);obtain⟨mA,O,_⟩:=Z5C I.hok ea;obtain⟨od,J,_⟩:=O.look;exact W.kia_one (W.kitx_own (cl.get _) cl.hd ha hn htk hm) I.kIn J e (λ z=>nomatch z) h
end
end L2
namespace L2
open PySem PySem.Spec PyProof.Rows
structure Room(k:Nat)(A:O0):Prop where
 hd:A.handled=none
 dp:A.depth+3*k+5<recursionLimit
 un:A.units+16*k+200<cLine
 gd:A.guards=some []
theorem Room.mono{j k:Nat}{A:O0}(r:Room k A)(h:j<=k):Room j A:=⟨r.hd,by have:=r.dp;lia,by have:=r.un;lia,r.gd⟩
theorem Room.deeper{k:Nat}{A:O0}(r:Room (k+1) A)(env:Env):Room k (A.deeper env):=
 ⟨r.hd,by have:=r.dp;show A.depth+1+3*k+5<_;lia,by have:=r.un;show A.units+3+16*k+200<_;lia,r.gd⟩
theorem Z9h{A:O0}{C:X0}{us:List Z0}{kw:List (V0×Z0)}:(A.under (.builtin "type.__call__" ⟨.ref C::us,kw⟩)).depth=A.depth+1:=by
 first|rfl|simp[Around.under,Code.weight,Code.isCreation,Code.isGuard,Code.isCaller,Code.frames,Code.isFrame,guardIds]
theorem Z9p{A:O0}{C:X0}{us:List Z0}{kw:List (V0×Z0)}:(A.under (.builtin "type.__call__" ⟨.ref C::us,kw⟩)).units=A.units+1:=by
 first|rfl|simp[Around.under,Code.cUnits,Code.frames,Code.isFrame]
theorem Room.make{k:Nat}{A:O0}(r:Room (k+1) A)(C:X0)(us:List Z0)(kw:List (V0×Z0)):Room k (A.under (.builtin "type.__call__" ⟨.ref C::us,kw⟩)):=
 ⟨r.hd,by have:=r.dp;rw[Z9h];lia,by have:=r.un;rw[Z9p];lia,r.gd⟩
theorem Room.depth{k:Nat}{A:O0}(r:Room k A):A.depth<recursionLimit:=by have:=r.dp;lia
theorem Room.units{k:Nat}{A:O0}(r:Room k A):A.units+64<cLine:=by have:=r.un;lia
def tNil:TA:=λ _ H Q=>Q [] H
def Z4y(ta:TE)(tr:TA):TA:=λ σ H Q=>ta σ H λ x H1=>tr σ H1 λ xs H2=>Q (x::xs) H2
section
variable{X:Cx}{e:Expr}{es:List Expr}{te:TE}{t:TA}{pos:Pos}
theorem Z1F:PA X [] tNil:=λ _ _ _ _ H Q I h=>Calls.spliced_nil ⟨[],H,I,.nil,h⟩
theorem Z0o(ha:PE X e te)(hr:PA X es t)(hs:starEach (e::es) X.env=(false,eval e X.env)::starEach es X.env:=by rfl):PA X (e::es) (Z4y te t):=by
 intro pos pins s σ H Q I h;rw[hs];show wpAny _ _ (spliced ((false,eval e X.env)::backTo pos (starEach es X.env))) _ _ s;refine Calls.spliced_cons (thn (ha pins s σ H _ I h) λ u s1 ⟨x,H1,I1,r1,q1⟩=>?_);exact thn (hr pos pins s1 σ H1 _ I1 q1) λ us s2 ⟨xs,H2,I2,r2,q2⟩=>⟨x::xs,H2,I2,.cons r1 r2,q2⟩
def tTup(t:TA):TE:=λ σ H Q=>t σ H λ xs H1=>xs.length<=sizeLine/\∀p,H1 p=none->Q (.ref p) (upd H1 p (.tup xs))
def tLst(t:TA):TE:=λ σ H Q=>t σ H λ xs H1=>xs.length<=sizeLine/\∀p,H1 p=none->Q (.ref p) (upd H1 p (.lst xs))
theorem Z0l{x1}(h:PA X es t):PE X (.Tuple es x1 pos) (tTup t):=by
 intro pins s σ H Q I hq;refine wpAny_Tuple_spliced (thn (h pos pins s σ H _ I hq) λ us s1 ⟨xs,H1,I1,r,z,q⟩=>⟨by rw[<-r.length];exact z,?_⟩);have hf:H1 s1.heap.objs.size=none:=I1.hok.fresh (qa0 _);refine⟨.ref s1.heap.objs.size,upd H1 s1.heap.objs.size (.tup xs),I1.laid (t':=s1.toks) (λ b u e=>Heap.get?_push_of_some _ e) (qa0 _) ?_,rfl,q _ hf⟩;exact⟨⟨z,Z9e⟩,us,r,⟨_,Heap.get?_push_size _ rfl,rfl,_,rfl⟩⟩
theorem Z0E(h:PA X es t):PE X (.List es pos) (tLst t):=by
 intro pins s σ H Q I hq;refine wpAny_List_spliced (thn (h pos pins s σ H _ I hq) λ us s1 ⟨xs,H1,I1,r,z,q⟩=>⟨by rw[<-r.length];exact z,?_⟩);have hf:H1 s1.heap.objs.size=none:=I1.hok.fresh (qa0 _);refine⟨.ref s1.heap.objs.size,upd H1 s1.heap.objs.size (.lst xs),I1.laid (t':=s1.toks) (λ b u e=>Heap.get?_push_of_some _ e) (qa0 _) ?_,rfl,q _ hf⟩;exact⟨z,us,0,r,Heap.get?_push_size _ rfl⟩
end
abbrev Sp:=List V->Hp->VK->XK->Prop
abbrev CXT:=List Env->Hp->U0->XK->Z0->U0->Prop
structure Env0(P:Program)(w:M0)(K:y0)(mg:V0->Option Z0)(base:N0)(A:O0)(outer:List Env)(s:U0)(H:Hp):Prop where
 frames:A.frames=some outer
 mod:Mod K mg base
 bs:∀b o,base.get? b=some o->s.heap.get? b=some o/\H b=none
 bsz:base.objs.size<=s.heap.objs.size
 funs:s.heap.FunFrames base outer
 frf:∀b∈frs outer,H b=none
 hok:HOk P w H s.heap
 bare:AllBare s.gens
def CE(outer:List Env)(P:Program)(w:M0)(H:Hp)(s:U0)(Q:VK)(u:Z0)(s':U0):Prop:=
 ∃v H',s'.os=s.os/\AllBare s'.gens/\Un (frs outer) [] H H' s.heap s'.heap/\HOk P w H' s'.heap/\RelV v u/\Q v H'
def CR(CX:CXT)(outer:List Env)(P:Program)(w:M0)(H:Hp)(s:U0)(Q:VK)(E:XK)(r:Result)(s':U0):Prop:=
 match r with
 | .ok (.ret u)=>CE outer P w H s Q u s'
 | .ok _=>False
 | .error e=>CX outer H s E e s'
structure FnOk(P:Program)(w:M0)(K:y0)(mg:V0->Option Z0)(base:N0)(CX:CXT)(k:Nat)(f:X0)(fd:FuncData)(ps:List V0)(sp:Sp):Prop where
 len:∀vs H Q E,sp vs H Q E->vs.length=ps.length
 run:∀(A:O0)(outer:List Env)(s:U0)(H:Hp)(args:Args)(us:List Z0)(vs:List V)(Q:VK)(E:XK),Room k A->Env0 P w K mg base A outer s H->BindsTo s fd args (ps.zip us)->Vals vs us->sp vs H Q E->
  codeAny (model P w) A (.call (.ref f) args) (CR CX outer P w H s Q E) s
theorem FnOk.mono{P:Program}{w:M0}{K:y0}{mg:V0->Option Z0}{base:N0}{CX:CXT}{j k:Nat}{f:X0}{fd:FuncData}{ps:List V0}{sp:Sp}(F:FnOk P w K mg base CX j f fd ps sp)(h:j<=k):FnOk P w K mg base CX k f fd ps sp:=⟨F.len,λ A outer s H args us vs Q E hr=>F.run A outer s H args us vs Q E (hr.mono h)⟩
theorem FnOk.imp{P:Program}{w:M0}{K:y0}{mg:V0->Option Z0}{base:N0}{CX:CXT}{k:Nat}{f:X0}{fd:FuncData}{ps:List V0}{sp sp':Sp}(F:FnOk P w K mg base CX k f fd ps sp)(h:∀vs H Q E,sp' vs H Q E->sp vs H Q E):FnOk P w K mg base CX k f fd ps sp':=
 ⟨λ vs H Q E q=>F.len vs H Q E (h _ _ _ _ q),λ A outer s H args us vs Q E hr he hb hv hs=>F.run A outer s H args us vs Q E hr he hb hv (h _ _ _ _ hs)⟩
theorem Env0.make{P:Program}{w:M0}{K:y0}{mg:V0->Option Z0}{base:N0}{A:O0}{outer:List Env}{s:U0}{H:Hp}(e:Env0 P w K mg base A outer s H)(C:X0)(us:List Z0)(kw:List (V0×Z0)):Env0 P w K mg base (A.under (.builtin "type.__call__" ⟨.ref C::us,kw⟩)) outer s H:=⟨by first|exact e.frames|(simpa[Around.under,Code.envs,Code.isFrame,pushEnvs]using e.frames),e.mod,e.bs,e.bsz,e.funs,e.frf,e.hok,e.bare⟩
section
variable{X:Cx}{pins:List (X0×Obj)}{σ:St}{H:Hp}{s s':U0}
theorem Inv.env0(I:Inv X pins σ H s):Env0 X.prog X.w X.K X.mg X.base X.A X.stack s H:=
 ⟨I.ok.frames,I.ok.mod,I.bs,qa1 I.ok.bsz I.sz,I.stack,I.stkFree,I.hok,I.bare⟩
theorem Inv.after{Q:VK}{u:Z0}(I:Inv X pins σ H s)(h:CE X.stack X.prog X.w H s Q u s'):EP X pins σ Q u s':=by
 obtain⟨v,H',os,bare,un,hok,r,q⟩:=h;obtain⟨hh,g,d,t,os'⟩:=s';obtain rfl:os'=s.os:=os;exact⟨v,H',I.call (h':=hh) (g':=g) (d':=d) (t':=t) (ch:=[]) un hok bare (λ b z=>absurd z (by simp)),r,q⟩
end
def J0E(sp:Sp)(dvs:List V)(E:XK)(t:TA):TE:=λ σ H Q=>t σ H λ vs H1=>sp (vs++dvs) H1 Q E
def J0j(C:X0)(m:V0)(sp:Sp)(dvs:List V)(E:XK)(ta:TE)(t:TA):TE:=λ σ H Q=>ta σ H λ x H1=>∃a dx fs,x=.ref a/\H1 a=some (.ins C dx fs)/\fs.lookup m=none/\
 t σ H1 λ vs H2=>sp (x::(vs++dvs)) H2 Q E
def J5e(C:X0)(sp:Sp)(dvs:List V)(E:XK)(t:TA):TE:=λ σ H Q=>t σ H λ vs H1=>∀x dx,H1 x=none->H1 dx=none->dx≠x->
 sp (.ref x::(vs++dvs)) (upd (upd H1 dx (.own x)) x (.ins C dx [])) (λ v H2=>v=.non/\Q (.ref x) H2) E
def Binds(K:y0)(fd:FuncData)(ps:List V0)(ds:List Z0):Prop:=
 ∀(s:U0)(us:List Z0),K.In s.heap->(us++ds).length=ps.length->BindsTo s fd ⟨us,[]⟩ (ps.zip (us++ds))
theorem Binds.all{K:y0}{fd:FuncData}{ps:List V0}(h:∀us:List Z0,us.length=ps.length->bindArgs fd ⟨us,[]⟩=pure (ps.zip us)):Binds K fd ps []:=λ s us _ hl=>by
 rw[qb6]at hl ⊢;exact .of_eq (h us hl)
def Z3J(CX:CXT)(X:Cx)(E:XK):Prop:=∀(pins:List (X0×Obj))(σ:St)(H:Hp)(s:U0)(e:Z0)(s':U0),Inv X pins σ H s->CX X.stack H s E e s'->X.xe e s'
section
variable{X:Cx}{CX:CXT}{k:Nat}{f C:X0}{fd:FuncData}{ps:List V0}{sp:Sp}{dvs:List V}{ds:List Z0}{E:XK}{x m:V0}{p pos apos:Pos}{e o:Expr}{es:List Expr}{ta:TE}{t:TA}
theorem Z8N{pins:List (X0×Obj)}{σ:St}{H:Hp}{s:U0}{Q:VK}{us:List Z0}{vs:List V}(F:FnOk X.prog X.w X.K X.mg X.base CX k f fd ps sp)(hr:Room k X.A)(hb:Binds X.K fd ps ds)(hd:Vals dvs ds)(hx:Z3J CX X E)(I:Inv X pins σ H s)(r:Vals vs us)(h:sp (vs++dvs) H Q E):wpAny (model X.prog X.w) X.A (call (.ref f) us) (EP X pins σ Q) X.xe s:=by
 have r2:Vals (vs++dvs) (us++ds):=r.append hd;have hl:(us++ds).length=ps.length:=by rw[<-r2.length];exact F.len _ _ _ _ h
 refine wpAny_call (codeAny_mono (F.run X.A X.stack s H ⟨us,[]⟩ (us++ds) (vs++dvs) Q E hr I.env0 (hb s us I.kIn hl) r2 h) λ r s' hq=>?_);cases r with
 |error e=>exact hx pins σ H s e s' I hq
 |ok fl=>
  cases fl with
  |ret u=>exact I.after hq
  |next=>exact False.elim hq
  |brk=>exact False.elim hq
  |cont=>exact False.elim hq
theorem Z2o(F:FnOk X.prog X.w X.K X.mg X.base CX k f fd ps sp)(hr:Room k X.A)(hg:Gl X x)(hm:X.mg x=some (.ref f))(hk:W.keepIn X.K (.ref f)=true)(hb:Binds X.K fd ps ds)(hd:Vals dvs ds)(hx:Z3J CX X E)(ha:PA X (e::es) t)(hdb:(x==("__debug__":V0))=false:=by decide)(he:starEach (e::es) X.env=(false,eval e X.env)::starEach es X.env:=by rfl)(hpl:(backTo pos (starEach es X.env)).any (·.1)=false:=by rfl):PE X (.Call (.Name x p) (e::es) [] pos) (J0E sp dvs E t):=by
 intro pins s σ H Q I h;refine wpAny_Call_Name_kw (Z2B I hg hm ?_ hdb);refine W.callWith_K (h₀:=X.base) I.ok.mod.kin hk (thn (ha pos pins s σ H _ I h) λ us s1 ⟨vs,H1,I1,r,q⟩=>⟨I1.kIn,?_⟩) he hpl;exact Z8N F hr hb hd hx I1 r q
theorem J0V{pl:Sem Bool}(he:PE X o ta)(c:Cls X.K C)(hm:Meth X.K C m f)(F:FnOk X.prog X.w X.K X.mg X.base CX k f fd ps sp)(hr:Room k X.A)(hb:Binds X.K fd ps ds)(hd:Vals dvs ds)(hx:Z3J CX X E)(ha:PA X (e::es) t)(hst:starEach (e::es) X.env=(false,eval e X.env)::starEach es X.env:=by rfl)(hpl:(backTo pos (starEach es X.env)).any (·.1)=false:=by rfl)(ht:eval (.Call (.Attribute o m apos) (e::es) [] pos) X.env=(do
   let ov<-eval o X.env
   standAt apos.atName
   let(f,first)<-holding [ov] (getMethod ov m pl)
   callWith pos f first (backTo pos (starEach (e::es) X.env)) (backToKw pos (keywordEach [] X.env))):=by rfl):PE X (.Call (.Attribute o m apos) (e::es) [] pos) (J0j C m sp dvs E ta t):=by
 intro pins s σ H Q I h;refine W.methodCall_KW (pl:=pl) (thn (he pins s σ H _ I h) λ u s1 hz_=>?_) ht;obtain⟨x,H1,I1,rx,a,dx,fs,ex,ea,l,q⟩:=hz_;subst ex;obtain rfl:u=Value.ref a:=rx;refine Z3D I1 ea c hm l ?_;refine W.callWith_K (first:=[.ref a]) (h₀:=X.base) I.ok.mod.kin hm.kp (thn (ha pos pins s1 σ H1 _ I1 q) λ us s2 ⟨vs,H2,I2,r,q2⟩=>⟨I2.kIn,?_⟩) hst hpl;exact Z8N (us:=.ref a::us) (vs:=.ref a::vs) F hr hb hd hx I2 (.cons rfl r) q2
theorem Z8k{pl:Sem Bool}(he:PE X o ta)(c:Cls X.K C)(hm:Meth X.K C m f)(F:FnOk X.prog X.w X.K X.mg X.base CX k f fd ps sp)(hr:Room k X.A)(hb:Binds X.K fd ps ds)(hd:Vals dvs ds)(hx:Z3J CX X E)(ht:eval (.Call (.Attribute o m apos) [] [] pos) X.env=(do
   let ov<-eval o X.env
   standAt apos.atName
   let(f,first)<-holding [ov] (getMethod ov m pl)
   callWith pos f first (backTo pos (starEach [] X.env)) (backToKw pos (keywordEach [] X.env))):=by rfl):PE X (.Call (.Attribute o m apos) [] [] pos) (J0j C m sp dvs E ta tNil):=by
 intro pins s σ H Q I h;refine W.methodCall_KW (pl:=pl) (thn (he pins s σ H _ I h) λ u s1 hz_=>?_) ht;obtain⟨x,H1,I1,rx,a,dx,fs,ex,ea,l,q⟩:=hz_;subst ex;obtain rfl:u=Value.ref a:=rx;refine Z3D I1 ea c hm l ?_;exact W.callWith_K0 (first:=[.ref a]) I1.kIn hm.kp (Z8N (us:=[.ref a]) (vs:=[.ref a]) F hr hb hd hx I1 (.cons rfl .nil) q)
structure Mk(K:y0)(C f:X0):Prop where
 makes:W.makesIn K C=true
 init:W.findIn K (.ref C) "__init__"=some (some (.ref f))
 fn:W.isFn K (.ref f)=true
 kp:W.keepIn K (.ref C)=true
theorem J3m{pins:List (X0×Obj)}{σ:St}{H:Hp}{s:U0}{Q:VK}{us:List Z0}{vs:List V}(M:Mk X.K C f)(F:FnOk X.prog X.w X.K X.mg X.base CX k f fd ps sp)(hr:Room (k+1) X.A)(hb:Binds X.K fd ps ds)(hd:Vals dvs ds)(hx:Z3J CX X E)(I:Inv X pins σ H s)(r:Vals vs us)(h:∀x dx,H x=none->H dx=none->dx≠x->sp (.ref x::(vs++dvs)) (upd (upd H dx (.own x)) x (.ins C dx [])) (λ v H2=>v=.non/\Q (.ref x) H2) E):wpAny (model X.prog X.w) X.A (call (.ref C) us) (EP X pins σ Q) X.xe s:=by
 have hq:=h (s.heap.objs.size+1) s.heap.objs.size (I.hok.fresh (qf1 _)) (I.hok.fresh (qa0 _)) (qb2 (qc9 _));have I2:=Inv.made (C:=C) I;have r2:Vals (V.ref (s.heap.objs.size+1)::(vs++dvs)) (Value.ref (s.heap.objs.size+1)::(us++ds)):=.cons rfl (r.append hd);have hl:(Value.ref (s.heap.objs.size+1)::us++ds).length=ps.length:=by
  have e:=r2.length;rw[F.len _ _ _ _ hq]at e;exact e.symm
 refine wpAny_call (J2W (f:=f) I.kIn M.makes M.init (beq_iff_eq.mp M.fn) (codeAny_mono (F.run _ X.stack _ _ ⟨Value.ref (s.heap.objs.size+1)::us,[]⟩ (Value.ref (s.heap.objs.size+1)::(us++ds)) _ _ E (hr.make C us []) (I2.env0.make C us []) (hb _ (Value.ref (s.heap.objs.size+1)::us) I2.kIn hl) r2 hq) λ r s' hq'=>?_));cases r with
 |error e=>exact hx pins σ _ _ e s' I2 hq'
 |ok fl=>
  cases fl with
  |ret u=>
   obtain⟨v,H',I3,rv,ev,q3⟩:=I2.after hq';subst ev;exact⟨rv,⟨V.ref (s.heap.objs.size+1),H',I3,rfl,q3⟩⟩
  |next=>exact False.elim hq'
  |brk=>exact False.elim hq'
  |cont=>exact False.elim hq'
theorem J4v(M:Mk X.K C f)(F:FnOk X.prog X.w X.K X.mg X.base CX k f fd ps sp)(hr:Room (k+1) X.A)(hg:Gl X x)(hm:X.mg x=some (.ref C))(hb:Binds X.K fd ps ds)(hd:Vals dvs ds)(hx:Z3J CX X E)(ha:PA X (e::es) t)(hdb:(x==("__debug__":V0))=false:=by decide)(he:starEach (e::es) X.env=(false,eval e X.env)::starEach es X.env:=by rfl)(hpl:(backTo pos (starEach es X.env)).any (·.1)=false:=by rfl):PE X (.Call (.Name x p) (e::es) [] pos) (J5e C sp dvs E t):=by
 intro pins s σ H Q I h;refine wpAny_Call_Name_kw (Z2B I hg hm ?_ hdb);refine W.callWith_K (h₀:=X.base) I.ok.mod.kin M.kp (thn (ha pos pins s σ H _ I h) λ us s1 ⟨vs,H1,I1,r,q⟩=>⟨I1.kIn,?_⟩) he hpl;exact J3m M F hr hb hd hx I1 r q
end
def PK(X:Cx)(kws:List Keyword)(t:TA):Prop:=
 ∀(pos:Pos)(pins:List (X0×Obj))(s:U0)(σ:St)(H:Hp)(Q:List V->Hp->Prop),Inv X pins σ H s->t σ H Q->wpAny (model X.prog X.w) X.A (evalAll ((backToKw pos (keywordEach kws X.env)).map (·.2))) (AP X pins σ Q) X.xe s
section
variable{X:Cx}{CX:CXT}{k:Nat}{f C:X0}{fd:FuncData}{ps ks:List V0}{sp:Sp}{E:XK}{x m:V0}{p pos apos kpos:Pos}{e o:Expr}{es:List Expr}{kws:List Keyword}{te ta:TE}{t tk:TA}{nm:Option V0}
theorem J5V:PK X [] tNil:=λ _ _ _ _ H Q I h=>wpAny_evalAll_nil ⟨[],H,I,.nil,h⟩
theorem J4M(ha:PE X e te)(hr:PK X kws t):PK X (⟨nm,e,kpos⟩::kws) (Z4y te t):=by
 intro pos pins s σ H Q I h;show wpAny _ _ (evalAll ((do let v<-eval e X.env;standAt pos;pure v)::(backToKw pos (keywordEach kws X.env)).map (·.2))) _ _ s;refine wpAny_evalAll_cons (wpAny_bind (thn (ha pins s σ H _ I h) λ u s1 ⟨x,H1,I1,r1,q1⟩=>wpAny_bind (wpAny_standAt (wpAny_pure ?_))));exact thn (hr pos pins s1 σ H1 _ I1 q1) λ us s2 ⟨xs,H2,I2,r2,q2⟩=>⟨x::xs,H2,I2,.cons r1 r2,q2⟩
variable{g:List Z0->List Z0->List Z0}{gV:List V->List V->List V}
end
structure Z0j(N P:List V0)(sc:Scope):Prop where
 kind:sc.kind=.function
 co:sc.isCoroutine=false
 gen:sc.isGenerator=false
 nd:N.Nodup
 pre:N.take P.length=P
 par:∀x∈P,sc.names.lookup x=some .local\/sc.names.lookup x=some .cell
 nofree:∀y∈sc.names,y.2≠.free
theorem Z6w{kindOf:V0->Option NameKind}{x:V0}:∀{binds:List (V0×Z0)}{m:V0->Option Z0},(∀v,(x,v)∉binds)->bindL kindOf binds m x=m x
 |[],_,_=>rfl
 |(n,v)::r,m,h=>by
  unfold bindL;rw[Z6w λ w hw=>h w (qa8 _ hw)];split
  ·have:x≠n:=by rintro rfl;exact h v qa6
   simp[this]
  ·rfl
theorem Z6r{kindOf:V0->Option NameKind}{x:V0}:∀{binds:List (V0×Z0)}{m:V0->Option Z0},(∀v,(x,v)∉binds)->bindC kindOf binds m x=m x
 |[],_,_=>rfl
 |(n,v)::r,m,h=>by
  unfold bindC;rw[Z6r λ w hw=>h w (qa8 _ hw)];split
  ·rfl
  ·have:x≠n:=by rintro rfl;exact h v qa6
   simp[this]
theorem Z6F{kindOf:V0->Option NameKind}{x:V0}{v:Z0}:∀{P:List V0}{vs:List Z0}{i:Nat}{m:V0->Option Z0},P.Nodup->P[i]?=some x->vs[i]?=some v->kindOf x=some .local->bindL kindOf (P.zip vs) m x=some v
 |[],_,_,_,_,h,_,_=>by simp at h
 |_::_,[],_,_,_,_,h,_=>by simp at h
 |p::P,w::vs,0,m,nd,h1,h2,hk=>by
  simp at h1 h2;subst h1;subst h2;show bindL kindOf ((p,w)::P.zip vs) m p=_;unfold bindL;rw[Z6w λ v hv=>(qh2.mp nd).1 (qe5 hv).1,if_pos hk];simp
 |p::P,w::vs,i+1,m,nd,h1,h2,hk=>by
  show bindL kindOf ((p,w)::P.zip vs) m x=_;unfold bindL;exact Z6F (i:=i) (qh2.mp nd).2 (by simpa using h1) (by simpa using h2) hk
theorem Z6h{kindOf:V0->Option NameKind}{x:V0}{v:Z0}:∀{P:List V0}{vs:List Z0}{i:Nat}{m:V0->Option Z0},P.Nodup->P[i]?=some x->vs[i]?=some v->kindOf x≠some .local->bindC kindOf (P.zip vs) m x=some v
 |[],_,_,_,_,h,_,_=>by simp at h
 |_::_,[],_,_,_,_,h,_=>by simp at h
 |p::P,w::vs,0,m,nd,h1,h2,hk=>by
  simp at h1 h2;subst h1;subst h2;show bindC kindOf ((p,w)::P.zip vs) m p=_;unfold bindC;rw[Z6r λ v hv=>(qh2.mp nd).1 (qe5 hv).1,if_neg hk];simp
 |p::P,w::vs,i+1,m,nd,h1,h2,hk=>by
  show bindC kindOf ((p,w)::P.zip vs) m x=_;unfold bindC;exact Z6h (i:=i) (qh2.mp nd).2 (by simpa using h1) (by simpa using h2) hk
def Z3u(N:List V0)(vs:List V):St:=vs.map some++List.replicate (N.length-vs.length) none
def cxOf(CX:CXT)(P:Program)(w:M0)(K:y0)(mg:V0->Option Z0)(base:N0)(N:List V0)(qual:V0)(scope:Scope)(f:X0)(cd:Z0)(A:O0)(outer:List Env)(s:U0)(H:Hp)(E:XK):Cx where
 prog:=P
 w:=w
 K:=K
 mg:=mg
 base:=base
 A:=A.deeper (envOfC qual scope s.heap.objs.size f cd)
 N:=N
 s₀:=s
 H₀:=H
 env:=envOfC qual scope s.heap.objs.size f cd
 outer:=outer
 stack:=envOfC qual scope s.heap.objs.size f cd::outer
 ex:=[]
 calm:=true
 fn:=λ _=>true
 pn:=[]
 xe:=λ e s'=>wpAny (model P w) (A.deeper (envOfC qual scope s.heap.objs.size f cd)) (leaving (envOfC qual scope s.heap.objs.size f cd) e) (λ _ s''=>CX outer H s E e s'') (λ e' s''=>CX outer H s E e' s'') s'
theorem Z8Y{sc:Scope}{n:Nat}{x:V0}(h:sc.names.lookup x=some .cell):∃c,(cellsFrom n sc.names []).lookup x=some c:=by
 have q:=W.cellsFrom_some sc.names n [] (.inl h);exact qi8.mp q
theorem J0a{CX:CXT}{P:Program}{w:M0}{K:y0}{mg:V0->Option Z0}{base:N0}{N ps:List V0}{qual:V0}{scope:Scope}{f:X0}{cd:Z0}{A:O0}{outer:List Env}{s s1:U0}{H:Hp}{E:XK}{us:List Z0}{vs:List V}(S:Z0j N ps scope)(hd:A.handled=none)(e0:Env0 P w K mg base A outer s H)(hl:vs.length=ps.length)(r:Vals vs us)(x:InCallC s s.heap.objs.size (bindL (envOfC qual scope s.heap.objs.size f cd).kindOf (ps.zip us) λ _=>none) (cellsFrom (s.heap.objs.size+1) scope.names []) (bindC (envOfC qual scope s.heap.objs.size f cd).kindOf (ps.zip us) λ _=>none) s1):Inv (cxOf CX P w K mg base N qual scope f cd A outer s H E) [] (Z3u N vs) H s1:=by
 have hpl:ps.length<=N.length:=by have:=congrArg qf2 S.pre;rw[qh3]at this;lia
 obtain⟨h1,tk,rfl,hk⟩:=x.done;have noA:∀b:X0,b∉(cxOf CX P w K mg base N qual scope f cd A outer s H E).ex:=λ b z=>absurd (show b∈([]:List X0)from z) (by simp);refine⟨⟨e0.mod,S.kind,rfl,rfl,qa0 _,λ y z c h1 h2=>?_,λ y hy=>?_,λ y c _ h=>?_,λ _=>hd,Around.frames_deeper e0.frames,.inr ⟨rfl,rfl⟩,λ b z=>absurd z (noA b),e0.bs,e0.bsz,λ b _ _=>noA b,λ b z=>absurd z (noA b),e0.funs,e0.frf⟩,rfl,e0.bare,Un.kept hk,⟨_,x.toInCall.ns,λ i y v h1 h2 h3=>?_⟩,λ y c h=>⟨_,x.cell y c h⟩,e0.hok.fresh (qa0 _),λ y c h=>?_,λ p hp=>absurd (show p∈([]:List (X0×Obj))from hp) (by simp),e0.hok.kept hk,?_⟩
 ·exact name_of_addr x.apart (PySem.mem_of_lookup h1) (PySem.mem_of_lookup h2)
 ·have hy:scope.names.lookup y=some .cell\/scope.names.lookup y=some .free:=hy;rcases hy with hy|hy
  ·exact Z8Y hy
  ·exact absurd rfl (S.nofree _ (PySem.mem_of_lookup hy))
 ·exact qg6 (x.above y c (PySem.mem_of_lookup h))
 ·have hi:i<vs.length:=by
   unfold Z3u at h2;by_cases hi:i<vs.length
   ·exact hi
   ·rw[qh4 (by simpa using hi)]at h2;rw[List.getElem?_replicate]at h2;split at h2<;>cases h2
  have ha:vs[i]?=some v:=by
   unfold Z3u at h2;rw[qh5 (by simpa using hi),qc0]at h2;cases e:vs[i]? with
   |none=>rw[e]at h2;cases h2
   |some a=>rw[e]at h2;cases h2;rfl
  obtain⟨u,hu,rv⟩:=r.get ha;have hp:ps[i]?=some y:=by
   rw[<-S.pre,List.getElem?_take_of_lt qR];exact h1
  have ndP:ps.Nodup:=by rw[<-S.pre];exact S.nd.sublist (List.take_sublist _ _)
  refine⟨u,rv,?_⟩;rcases S.par y (qe2 hp)with k|k
  ·exact .inl ⟨k,Z6F ndP hp hu k⟩
  ·obtain⟨c,e⟩:=Z8Y (n:=s.heap.objs.size+1) k;refine .inr ⟨.inl k,c,e,?_⟩;have q:=x.cell y c e;rw[Z6h ndP hp hu (by show scope.names.lookup y≠_;rw[k];decide)]at q;exact q
 ·exact e0.hok.fresh (qg6 (x.above y c (PySem.mem_of_lookup h)))
 ·unfold Z3u;show _=N.length;rw[qa5,qa3,List.length_replicate];lia
theorem J4I{CX:CXT}{P:Program}{w:M0}{K:y0}{mg:V0->Option Z0}{base:N0}{k:Nat}{f:X0}{name qual:V0}{params:Arguments}{body:List Stmt}{scope:Scope}{dV kV doc pm cdv ct oc:Z0}{an od:Option X0}{osl:Array (Option Z0)}{N ps:List V0}{sp:Sp}(lk:K.lookup f=some ⟨oc,od,.func (W.fnOf name qual params body scope dV kV doc pm an cdv ct),osl⟩)(hcd:W.codeIn K cdv qual=true)(S:Z0j N ps scope)(len:∀vs H Q E,sp vs H Q E->vs.length=ps.length)(hbody:∀(A:O0)(outer:List Env)(s:U0)(H:Hp)(vs:List V)(Q:VK)(E:XK),Room k (A.deeper (envOfC qual scope s.heap.objs.size f cdv))->sp vs H Q E->∃t,PSs (cxOf CX P w K mg base N qual scope f cdv A outer s H E) body t/\t {nx:=λ _ H'=>Q .non H',rt:=Q} (Z3u N vs) H):FnOk P w K mg base CX (k+1) f (W.fnOf name qual params body scope dV kV doc pm an cdv ct) ps sp:=by
 refine⟨len,λ A outer s H args us vs Q E hr e0 hb r hsp=>?_⟩;have hl:=len _ _ _ _ hsp;have KX:K.In s.heap:=e0.mod.kin.keeps λ b o e=>(e0.bs b o e).1;have lim:s.heap.NoLimit:=e0.mod.nolimit.keeps λ b o e=>(e0.bs b o e).1;have hkind:∀y∈ps.zip us,scope.names.lookup y.1=some .local\/(scope.names.lookup y.1=some .cell/\((cellsFrom (s.heap.objs.size+1) scope.names []).lookup y.1).isSome=true):=λ⟨n,v⟩ hy=>by
  rcases S.par n (qe5 hy).1 with q|q
  ·exact .inl q
  ·exact .inr ⟨q,W.cellsFrom_some _ _ _ (.inl q)⟩
 refine codeAny_call_function hr.depth (KX _ _ lk) rfl S.co S.gen rfl (W.codeRec_of KX hcd) (hb _ _ _ _ ?_);refine wpAny_newFunctionEnv_cells S.kind hkind λ env he s1 x=>?_;subst he;refine⟨lim.keeps x.toInCall.keep,codeAny_func ?_⟩;obtain⟨t,ht,hq⟩:=hbody A outer s H vs Q E (hr.deeper _) hsp;have I:Inv (cxOf CX P w K mg base N qual scope f cdv A outer s H E) [] (Z3u N vs) H s1:=J0a S hr.hd e0 hl r x;refine wpAny_mono (ht [] s1 (Z3u N vs) H _ I hq) (λ fl s' hs=>?_) λ e s' hs=>hs;have fin:∀{σ':St}{H':Hp}{v:V}{u:Z0},Inv (cxOf CX P w K mg base N qual scope f cdv A outer s H E) [] σ' H' s'->RelV v u->Q v H'->CE outer P w H s Q u s':=
  λ{σ' H' v u} J rv q=>⟨v,H',J.os,J.bare,J.base,J.hok,rv,q⟩
 cases fl with
 |ret u=>
  obtain⟨v,σ',H',J,rv,q⟩:=hs;exact fin J rv q
 |next=>
  obtain⟨σ',H',J,q⟩:=hs;exact fin (v:=V.non) (u:=Value.none) J rfl q
 |brk=>
  obtain⟨_,_,_,q⟩:=hs;exact False.elim q
 |cont=>
  obtain⟨_,_,_,q⟩:=hs;exact False.elim q
end L2
namespace L2
open PySem PySem.Spec PyProof.Rows
section
variable{X:Cx}{x:V0}{p pos:Pos}{e:Expr}{es:List Expr}{t:TA}{id T:String}{r:List V->Hp->VK->Prop}
def tCB(r:List V->Hp->VK->Prop)(t:TA):TE:=λ σ H Q=>t σ H λ vs H1=>r vs H1 Q
theorem Z0P(hc:Z4m X (.builtin id) r)(hg:Gl X x)(hm:X.mg x=none)(hv:bootBuiltins x=some (.builtin id))(ha:PA X (e::es) t)(hn:x≠"__name__":=by decide)(hdb:(x==("__debug__":V0))=false:=by decide)(he:starEach (e::es) X.env=(false,eval e X.env)::starEach es X.env:=by rfl)(hpl:(backTo pos (starEach es X.env)).any (·.1)=false:=by rfl):PE X (.Call (.Name x p) (e::es) [] pos) (tCB r t):=by
 intro pins s σ H Q I h;refine wpAny_Call_Name_kw (Z4v I hg hm hv ?_ hn hdb);exact PyProof.Rows.callWith_builtin1 (thn (ha pos pins s σ H _ I h) λ us s1 ⟨vs,H1,I1,r1,q1⟩=>hc pins s1 σ H1 vs us Q I1 r1 q1) he hpl
theorem Z0V(hc:Z4m X (.type T) r)(hg:Gl X x)(hm:X.mg x=none)(hv:bootBuiltins x=some (.type T))(ha:PA X (e::es) t)(hn:x≠"__name__":=by decide)(hdb:(x==("__debug__":V0))=false:=by decide)(he:starEach (e::es) X.env=(false,eval e X.env)::starEach es X.env:=by rfl)(hpl:(backTo pos (starEach es X.env)).any (·.1)=false:=by rfl):PE X (.Call (.Name x p) (e::es) [] pos) (tCB r t):=by
 intro pins s σ H Q I h;refine wpAny_Call_Name_kw (Z4v I hg hm hv ?_ hn hdb);exact PyProof.Rows.callWith_type1 (thn (ha pos pins s σ H _ I h) λ us s1 ⟨vs,H1,I1,r1,q1⟩=>hc pins s1 σ H1 vs us Q I1 r1 q1) he hpl
end
end L2
namespace HT
open PySem PyProof.Rows
section
open PySem.SeqAt
open PySem.AutoSeq1 (wpAny_loadPart')
open PySem.MeetsSeq PySem.MeetsSeq2 PySem.MeetsSeq3
end
section
variable{prog:Program}{w:M0}{A:O0}{E:Z0->U0->Prop}{s:U0}
theorem cat_tup{t b:X0}{vs ws:List Z0}{Q:Z0->U0->Prop}(ht:IsTup s.heap t vs.toArray)(hb:IsTup s.heap b ws.toArray)(hv:vs≠[])(h1:ws=[]->Q (.ref t) s)(h2:ws≠[]->Q (.ref s.heap.objs.size) {s with heap:=s.heap.push {cls:=.type "tuple",data:=.seq (vs++ws).toArray}})(hsz:vs.length+ws.length<=sizeLine):wpAny (model prog w) A (binaryOp .Add (.ref t) (.ref b)) Q E s:=by
 obtain⟨⟨cls,dd,data,sl⟩,ho,hc,n,hd⟩:=id ht;obtain⟨⟨cls2,dd2,data2,sl2⟩,ho2,hc2,n2,hd2⟩:=id hb;simp only at hc hd hc2 hd2;subst hc hd hc2 hd2;have e:vs.toArray++ws.toArray=(vs++ws).toArray:=by simp
 by_cases hw:ws=[]
 ·exact concat_meets ⟨_,ho,rfl⟩ ⟨_,ho2,rfl⟩ noFill_tuple_add seq_tuple_add qi9 qj0 (qj1 _ _)
   (tuple_addW1 t b vs.toArray ws.toArray n n2 dd dd2 sl sl2 (by simpa using hv) (by simp[hw])) ⟨ho,ho2,h1 hw⟩
 ·refine concat_meets ⟨_,ho,rfl⟩ ⟨_,ho2,rfl⟩ noFill_tuple_add seq_tuple_add qi9 qj0 (qj1 _ _)
   (tuple_addW2 t b vs.toArray ws.toArray n n2 dd dd2 sl sl2 (by simpa using hv) (by simpa using hw) (by rw[qb1,qb1];exact hsz)) ⟨ho,ho2,?_⟩
  rw[e];exact h2 hw
def sIx(n d:Nat):Option Int->Nat
 |none=>d
 |some v=>if v<0 then(v+(n:Int)).toNat else min v.toNat n
theorem sIx_none(n d:Nat):sIx n d none=d:=rfl
theorem J5U(n d:Nat)(hd:d<=n)(o:Option Int):sIx n d o<=n:=by
 cases o with
 |none=>exact hd
 |some v=>
  show(if v<0 then(v+(n:Int)).toNat else min v.toNat n)<=n;by_cases hv:v<0
  ·rw[if_pos hv];lia
  ·rw[if_neg hv];exact Nat.min_le_right _ _
theorem J0B(v:Int)(n d:Nat):(if v<0 then max (v+(n:Int)) 0 else min v (n:Int))=((sIx n d (some v):Nat):Int):=by
 show(if v<0 then max (v+(n:Int)) 0 else min v (n:Int))=(((if v<0 then(v+(n:Int)).toNat else min v.toNat n):Nat):Int);by_cases hv:v<0
 ·simp only[if_pos hv];lia
 ·simp only[if_neg hv];lia
theorem Z9r(lo hi:Option Int)(n:Nat):Builtin.Slice.sliceAdjust lo hi 1 (n:Int)=(((sIx n 0 lo:Nat):Int),((sIx n n hi:Nat):Int)):=by
 have h1:¬((1:Int)<0):=by lia
 unfold Builtin.Slice.sliceAdjust;simp only[h1,if_false];refine Prod.ext ?_ ?_
 ·cases lo with
  |none=>rfl
  |some v=>exact J0B v n 0
 ·cases hi with
  |none=>rfl
  |some v=>exact J0B v n n
theorem Z9i(i j:Nat):Builtin.Slice.slicePlaces (i:Int) (j:Int) 1=j-i:=by
 unfold Builtin.Slice.slicePlaces;have h1:(1:Int)>0:=by lia
 simp only[h1,if_true,Int.ediv_one];split<;>lia
theorem Z4P{v:Z0}{o:Option Int}{Q:Option Int->U0->Prop}(p:IsPart v o)(h:Q o s):wpAny (model prog w) A (Builtin.Slice.slicePartIndex v) Q E s:=by
 cases p with
 |none=>exact slicePart_none h
 |int i t=>exact slicePart_int h
theorem Z2E{sl:X0}{vl vu:Z0}{lo hi:Option Int}{n:Nat}{Q:Int×Int×Nat->U0->Prop}(hs:s.heap.IsSliceOf sl vl vu .none)(pl:IsPart vl lo)(pu:IsPart vu hi)(h:Q (((sIx n 0 lo:Nat):Int),1,sIx n n hi-sIx n 0 lo) s):wpAny (model prog w) A (Builtin.Slice.sliceApplied (.ref sl) (pure (n:Int))) Q E s:=by
 obtain⟨os,hos,hcs,hds⟩:=id hs;unfold Builtin.Slice.sliceApplied Builtin.Slice.sliceFields;refine wpAny_bind (wpAny_bind (wpAny_field hos hds (x:=vl) rfl (wpAny_bind (wpAny_field hos hds (x:=vu) rfl (wpAny_bind (wpAny_field hos hds (x:=.none) rfl (wpAny_pure ?_)))))));refine wpAny_bind (slicePart_none ?_);show wpAny _ _ (if((1:Int)==0)=true then _ else _) _ _ s;rw[if_neg qQ];refine wpAny_bind (Z4P pl (wpAny_bind (Z4P pu (wpAny_bind (wpAny_pure ?_)))));show wpAny _ _ (match Builtin.Slice.sliceAdjust lo hi 1 (n:Int)with|(lo,hi)=>pure (lo,(1:Int),Builtin.Slice.slicePlaces lo hi 1)) _ _ s;rw[Z9r lo hi n];show wpAny _ _ (pure (((sIx n 0 lo:Nat):Int),(1:Int),Builtin.Slice.slicePlaces ((sIx n 0 lo:Nat):Int) ((sIx n n hi:Nat):Int) 1)) _ _ s;rw[Z9i];exact wpAny_pure h
theorem J2i(xs:Array Z0)(i k:Nat):((qd7 k).filterMap λ(m:Nat)=>xs[((i:Int)+(m:Int)*1).toNat]?).toArray=((xs.toList.drop i).take k).toArray:=by
 have e:(λ(m:Nat)=>xs[((i:Int)+(m:Int)*1).toNat]?)=λ m=>xs[i+m]?:=by
  funext m;have:((i:Int)+(m:Int)*1).toNat=i+m:=by lia
  rw[this]
 rw[e];have:=pick_run xs i k;rw[List.filterMap_map]at this;have e2:((λ x=>xs[x]?)∘λ x=>i+x)=λ m=>xs[i+m]?:=rfl;rw[e2]at this;rw[this]
theorem getItem_tuple_cut{t sl:X0}{items:Array Z0}{vl vu:Z0}{lo hi:Option Int}{Q:Z0->U0->Prop}(ht:IsTup s.heap t items)(hs:s.heap.IsSliceOf sl vl vu .none)(pl:IsPart vl lo)(pu:IsPart vu hi)(hw:¬(sIx items.size 0 lo=0/\sIx items.size items.size hi=items.size))(h:Q (.ref s.heap.objs.size) {s with heap:=s.heap.push {cls:=.type "tuple",data:=.seq ((items.toList.drop (sIx items.size 0 lo)).take (sIx items.size items.size hi-sIx items.size 0 lo)).toArray}})(hsz:items.size<=sizeLine):wpAny (model prog w) A (getItem (.ref t) (.ref sl)) Q E s:=by
 have htake:sizeOk (.seq ((items.toList.drop (sIx items.size 0 lo)).take (sIx items.size items.size hi-sIx items.size 0 lo)).toArray):=by
  show((items.toList.drop (sIx items.size 0 lo)).take (sIx items.size items.size hi-sIx items.size 0 lo)).toArray.size<=sizeLine;rw[qb1,qh3,qf3,qg7];lia
 have hj:sIx items.size items.size hi<=items.size:=J5U _ _ (qa0 _) hi;obtain⟨os,hos,hcs,hds⟩:=id hs;have hTs:s.TypeIs (.ref sl) "slice":=⟨os,hos,hcs⟩;unfold getItem;try with_reducible refine wpAny_holding ?_
 first|refine wpAny_bind (wpAny_pure ?_)|skip
 refine wpAny_bind (wpAny_sequenceKey ht.typeIs qQ ?_);refine wpAny_bind (wpAny_callSpecial?_slot (name:=Str.ofString "__getitem__") ht.typeIs PyProof.Rows.slot_tuple_getitem (wpAny_call_entry PyProof.Rows.slot_tuple_getitem ht.typeIs entry_tuple_getitem ?_ (args_tuple_getitem _ _)));show wpAny _ _ (Builtin.Tuple.tupleItemsOf (.ref t)>>=_) _ _ s;refine wpAny_bind (tupleItemsOf_ ht ?_);refine wpAny_bind (wpAny_typeOf hTs ?_);rw[if_pos qQ];refine wpAny_bind (Z2E hs pl pu ?_);have hno:¬((((sIx items.size 0 lo:Nat):Int)==0&&(1:Int)==1&&(sIx items.size items.size hi-sIx items.size 0 lo)==items.size)=true):=by
  intro q;rw[qc5,qc5]at q;have q1:((sIx items.size 0 lo:Nat):Int)=0:=eq_of_beq q.1.1;have q2:sIx items.size items.size hi-sIx items.size 0 lo=items.size:=eq_of_beq q.2;exact hw ⟨qR,qR⟩
 show wpAny _ _ (if (((sIx items.size 0 lo:Nat):Int) == 0&&(1:Int) == 1&&(sIx items.size items.size hi - sIx items.size 0 lo) == items.size)=true then _ else _) _ _ s;rw [if_neg hno,J2i];first
  |exact wpAny_bind (m:=Builtin.Tuple.tupleExact _) (wpAny_newObj_type (wpAny_pure ⟨_,rfl,wpAny_pure h⟩) htake)
  |exact wpAny_bind (m:=Builtin.Tuple.tupleExact _) (wpAny_newObj_type (wpAny_bind (wpAny_pure (wpAny_pure ⟨_,rfl,wpAny_pure h⟩))) htake)
  |exact wpAny_bind (wpAny_bind (m:=Builtin.Tuple.tupleExact _) (wpAny_newObj_type (wpAny_pure (wpAny_pure ⟨_,rfl,wpAny_pure h⟩)) htake))
  |exact wpAny_bind (wpAny_bind (m:=Builtin.Tuple.tupleExact _) (wpAny_newObj_type (wpAny_pure ⟨_,rfl,wpAny_pure h⟩) htake))
end
end HT
namespace L2
open PySem PySem.Spec PyProof.Rows
abbrev TO:=St->Hp->(Option Int->Hp->Prop)->Prop
def PO(X:Cx)(e:Option Expr)(t:TO):Prop:=
 ∀(pins:List (X0×Obj))(s:U0)(σ:St)(H:Hp)(Q:Option Int->Hp->Prop),Inv X pins σ H s->t σ H Q->
  wpAny (model X.prog X.w) X.A (evalPart e X.env) (λ u s'=>∃o H',Inv X pins σ H' s'/\IsPart u o/\Q o H') X.xe s
def J1G:TO:=λ _ H Q=>Q none H
def J5K(t:TE):TO:=λ σ H Q=>t σ H λ x H1=>∃i,x=.int i/\Q (some i) H1
section
variable{X:Cx}{e:Expr}{te:TE}{lo hi:Option Expr}{tl th:TO}{pos p2:Pos}
theorem Z2W:PO X none J1G:=by
 intro pins s σ H Q I h;rw[evalPart_none];exact wpAny_pure ⟨none,H,I,.none,h⟩
theorem Z2A(h:PE X e te):PO X (some e) (J5K te):=by
 intro pins s σ H Q I hw;rw[evalPart_some];refine thn (h pins s σ H _ I hw) λ u s1 ⟨x,H1,I1,r1,q1⟩=>?_;obtain⟨i,rfl,q⟩:=q1;obtain⟨t,rfl⟩:=r1;exact⟨some i,H1,I1,.int i t,q⟩
def SlR(X:Cx)(r:V->Option Int->Option Int->Hp->VK->Prop):Prop:=
 ∀(pins:List (X0×Obj))(s:U0)(σ:St)(H:Hp)(x:V)(v vl vu:Z0)(lo hi:Option Int)(sl:X0)(Q:VK),Inv X pins σ H s->RelV x v->s.heap.IsSliceOf sl vl vu .none->IsPart vl lo->IsPart vu hi->r x lo hi H Q->
  ∃T id,typeLookup (.type T) "__getitem__"=pure (some (.builtin id))/\s.TypeIs v T/\wpAny (model X.prog X.w) X.A (getItem v (.ref sl)) (EP X pins σ Q) X.xe s
def tSl(r:V->Option Int->Option Int->Hp->VK->Prop)(te:TE)(tl th:TO):TE:=λ σ H Q=>te σ H λ x H1=>tl σ H1 λ l H2=>th σ H2 λ u H3=>r x l u H3 Q
theorem Z1Y{r:V->Option Int->Option Int->Hp->VK->Prop}(hr:SlR X r)(he:PE X e te)(hl:PO X lo tl)(hu:PO X hi th):PE X (.Subscript e (.Slice lo hi none p2) pos) (tSl r te tl th):=by
 intro pins s σ H Q I h;refine Subscript_ (thn (he pins s σ H _ I h) λ v s1 ⟨x,H1,I1,r1,q1⟩=>?_);refine wpAny_Slice (thn (hl pins s1 σ H1 _ I1 q1) λ vl s2 ⟨l,H2,I2,pl,q2⟩=>thn (hu pins s2 σ H2 _ I2 q2) λ vu s3 ⟨u,H3,I3,pu,q3⟩=>?_);rw[evalPart_none];refine wpAny_pure ?_;have I4:Inv X pins σ H3 {s3 with heap:=s3.heap.push {cls:=.type "slice",data:=.fields #[vl,vu,.none]}}:=I3.kept (t':=s3.toks) λ b ob q=>Heap.get?_push_of_some _ q;obtain⟨T,id,hT,ht,hg⟩:=hr pins {s3 with heap:=s3.heap.push {cls:=.type "slice",data:=.fields #[vl,vu,.none]}} σ H3 x v vl vu l u s3.heap.objs.size Q I4 r1 (Heap.IsSliceOf.new ..) pl pu q3;show wpAny (model X.prog X.w) X.A (subscriptTail e (.Slice lo hi none p2) v (.ref s3.heap.objs.size)) (EP X pins σ Q) X.xe {s3 with heap:=s3.heap.push {cls:=.type "slice",data:=.fields #[vl,vu,.none]}};exact tail_any (ops:=[.ref s3.heap.objs.size,v]) ht hT hg (by with_unfolding_all rfl)
def cutV(xs:List V)(lo hi:Option Int):List V:=(xs.drop (HT.sIx xs.length 0 lo)).take (HT.sIx xs.length xs.length hi-HT.sIx xs.length 0 lo)
theorem Z3Z(xs:List V)(lo hi:Option Int):(cutV xs lo hi).length<=xs.length:=by
 unfold cutV;rw[qh3,qf3];lia
def rSlT(K:y0):V->Option Int->Option Int->Hp->VK->Prop:=λ x lo hi H Q=>∃a xs,x=.ref a/\SqT K H a xs/\
 ¬(HT.sIx xs.length 0 lo=0/\HT.sIx xs.length xs.length hi=xs.length)/\∀p,H p=none->Q (.ref p) (upd H p (.tup (cutV xs lo hi)))
theorem J6Z:SlR X (rSlT X.K):=by
 intro pins s σ H x v vl vu lo hi sl Q I rx hs pl pu h;obtain⟨a,xs,rfl,hx,hw,q⟩:=h;cases rx;obtain⟨its,r,ht,hz⟩:=I.tuple hx;have hlen:its.toArray.size=xs.length:=by rw[qb1];exact r.length.symm
 refine⟨"tuple",_,PyProof.Rows.slot_tuple_getitem.lookup,ht.typeIs,?_⟩;refine HT.getItem_tuple_cut ht hs pl pu (by rw[hlen];exact hw) ?_ (by rw[hlen];exact hz);rw[hlen];refine⟨.ref s.heap.objs.size,_,I.laid (t':=s.toks) (o:=.tup (cutV xs lo hi)) (λ b ob q=>Heap.get?_push_of_some _ q) (qa0 _) ?_,rfl,q _ (I.hok.fresh (qa0 _))⟩;exact⟨⟨qa1 (Z3Z xs lo hi) hz,Z9e⟩,_,(r.drop (HT.sIx xs.length 0 lo)).take (HT.sIx xs.length xs.length hi-HT.sIx xs.length 0 lo),IsTup.new _ _⟩
def J7j(K:y0):R2:=λ x y H Q=>∃a b xs ys,x=.ref a/\y=.ref b/\SqT K H a xs/\SqT K H b ys/\xs≠[]/\xs.length+ys.length<=sizeLine/\
 (ys=[]->Q (.ref a) H)/\(ys≠[]->∀p,H p=none->Q (.ref p) (upd H p (.tup (xs++ys))))
theorem Vals.nil_iff{xs:List V}{us:List Z0}(r:Vals xs us):us=[]↔xs=[]:=by
 cases r with
 |nil=>simp
 |cons _ _=>simp
theorem J5w:OpR X (binaryOp .Add) (J7j X.K):=by
 intro pins s σ H x y v u Q I rx ry h;obtain⟨a,b,xs,ys,rfl,rfl,ha,hb,hx,hz,q1,q2⟩:=h;cases rx;cases ry;obtain⟨its,r1,p1,_⟩:=I.tuple ha;obtain⟨its2,r2,p2,_⟩:=I.tuple hb;refine HT.cat_tup p1 p2 (λ z=>hx (r1.nil_iff.mp z)) (λ z=>⟨.ref a,H,I,rfl,q1 (r2.nil_iff.mp z)⟩) (λ z=>?_) (by rw[<-r1.length,<-r2.length];exact hz);refine⟨.ref s.heap.objs.size,_,I.laid (t':=s.toks) (o:=.tup (xs++ys)) (λ b ob q=>Heap.get?_push_of_some _ q) (qa0 _) ?_,rfl,q2 (λ w=>z (r2.nil_iff.mpr w)) _ (I.hok.fresh (qa0 _))⟩;exact⟨⟨by rw[qa5];exact hz,Z9e⟩,_,r1.append r2,IsTup.new _ _⟩
end
end L2
namespace L2
open PySem PySem.Spec PyProof.Rows
def ixN(n:Nat)(i:Int):Option Nat:=if 0<=i then(if i<n then some i.toNat else none)else if -(n:Int)<=i then some (i+n).toNat else none
def atI{α:Type}(xs:List α)(i:Int):Option α:=(ixN xs.length i).bind λ j=>xs[j]?
theorem J1Q{n:Nat}{i:Int}{j:Nat}(h:ixN n i=some j):seqIndex? i n=some j/\j<n/\-(n:Int)<=i/\i<n:=by
 unfold ixN at h;by_cases h0:0<=i
 ·rw[if_pos h0]at h;by_cases h1:i<n
  ·rw[if_pos h1]at h;have e:i.toNat=j:=qc8 h;exact⟨by rw[seqIndex_of h0 h1,e],qR,qR,h1⟩
  ·rw[if_neg h1]at h;cases h
 ·rw[if_neg h0]at h;by_cases h1:-(n:Int)<=i
  ·rw[if_pos h1]at h;have e:(i+n).toNat=j:=qc8 h;exact⟨by rw[seqIndex_neg qR h1,e],qR,h1,qR⟩
  ·rw[if_neg h1]at h;cases h
theorem Z7o{α:Type}{xs:List α}{i:Int}{v:α}(h:atI xs i=some v):∃j,seqIndex? i xs.length=some j/\xs[j]?=some v/\j<xs.length/\-(xs.length:Int)<=i/\i<xs.length:=by
 unfold atI at h;cases e:ixN xs.length i with
 |none=>rw[e]at h;cases h
 |some j=>
  rw[e]at h;obtain⟨h1,h2,h3,h4⟩:=J1Q e;exact⟨j,h1,h,h2,h3,h4⟩
theorem Z2l{α:Type}{xs:List α}{j:Nat}{v:α}(h:xs[j]?=some v):atI xs (j:Int)=some v:=by
 have hj:j<xs.length:=(qb7.mp h).1;have e:ixN xs.length (j:Int)=some j:=by
  unfold ixN;rw[if_pos qR,if_pos qR];simp
 unfold atI;rw[e];exact h
theorem Z3Q{α:Type}(xs:List α)(v:α):atI (xs++[v]) (-1)=some v:=by
 have hl:(xs++[v]).length=xs.length+1:=by simp
 have e:ixN (xs++[v]).length (-1)=some xs.length:=by
  unfold ixN;rw[hl,if_neg qQ,if_pos qR];congr 1;lia
 unfold atI;rw[e];show(xs++[v])[xs.length]?=some v;simp
def Z7t(b:Expr):Prop:=∀o i,subscripted b false o i=operate [o,i] (getItem o i)
def IxR(X:Cx)(r:R2):Prop:=
 ∀(value slice:Expr)(pins:List (X0×Obj))(s:U0)(σ:St)(H:Hp)(x y:V)(v u:Z0)(Q:VK),Inv X pins σ H s->RelV x v->RelV y u->r x y H Q->
  subscripted slice false v u=operate [v,u] (getItem v u)->wpAny (model X.prog X.w) X.A (subscriptTail value slice v u) (EP X pins σ Q) X.xe s
def MtR(X:Cx)(id:String)(r:V->List V->Hp->VK->Prop):Prop:=
 ∀(pins:List (X0×Obj))(s:U0)(σ:St)(H:Hp)(x:V)(xs:List V)(v:Z0)(us:List Z0)(Q:VK),Inv X pins σ H s->RelV x v->Vals xs us->r x xs H Q->
  wpAny (model X.prog X.w) X.A (call (.builtin id) (v::us)) (EP X pins σ Q) X.xe s
section
variable{X:Cx}{a b:Expr}{ta tb:TE}{pos:Pos}
theorem Z2Y{r:R2}(hr:IxR X r)(ha:PE X a ta)(hb:PE X b tb)(hs:Z7t b):PE X (.Subscript a b pos) (tOp r ta tb):=by
 intro pins s σ H Q I h;exact Subscript_ (binT ha hb I h λ v u s2 x y H2 I2 rx ry q=>hr a b pins s2 σ H2 x y v u Q I2 rx ry q (hs _ _))
def rIxL(K:y0):R2:=λ x y H Q=>∃p xs i v,x=.ref p/\y=.int i/\SqL K H p xs/\atI xs i=some v/\Q v H
def rIxT(K:y0):R2:=λ x y H Q=>∃p xs i v,x=.ref p/\y=.int i/\SqT K H p xs/\atI xs i=some v/\Q v H
def rIxS:R2:=λ x y H Q=>∃z i c,x=.str z/\y=.int i/\z.length<=sizeLine/\atI z.cps.toList i=some c/\Q (.str ⟨#[c]⟩) H
theorem J5n:IxR X (rIxL X.K):=by
 intro value slice pins s σ H x y v u Q I rx ry h hs;obtain⟨p,xs,i,z,rfl,rfl,hq,he,q⟩:=h;cases rx;obtain⟨t,rfl⟩:=ry;obtain⟨its,r,pl,hz⟩:=I.list hq;obtain⟨j,h1,h2,h3,h4,h5⟩:=Z7o he;obtain⟨w,ew,rw'⟩:=r.get h2;have hl:=r.length;have hn:=Z4R;have fin:EP X pins σ Q w s:=⟨z,H,I,rw',q⟩;by_cases h0:0<=i
 ·have hj:i.toNat=j:=by
   rw[seqIndex_of h0 h5]at h1;exact qc8 h1
  exact item_listR pl.isList h0 qR (by rw[hj];simpa using ew) fin hs
 ·have hj:(i+(its.toArray.size:Int)).toNat=j:=by
   rw[seqIndex_neg qR h4]at h1;rw[qb1,<-hl];exact qc8 h1
  exact subscriptTail_builtinR (x:=w) pl.isList.typeIs slot_list_getitem.lookup
   (wpAny_getItem_list_neg (Q:=λ r s'=>r=w/\EP X pins σ Q r s') pl.isList qR (by rw[qb1]<;>lia) qR (by rw[hj];simpa using ew) ⟨rfl,fin⟩) hs
theorem J7f:IxR X (rIxT X.K):=by
 intro value slice pins s σ H x y v u Q I rx ry h hs;obtain ⟨p,xs,i,z,rfl,rfl,hq,he,q⟩:=h;cases rx;obtain ⟨t,rfl⟩:=ry;obtain ⟨its,r,pl,hz⟩:=I.tuple hq;obtain ⟨j,h1,h2,h3,h4,h5⟩:=Z7o he;obtain ⟨w,ew,rw'⟩:=r.get h2;have hl:=r.length;have hn:=Z4R;have fin:EP X pins σ Q w s:=⟨z,H,I,rw',q⟩;exact subscriptTail_builtinR (x:=w) pl.typeIs slot_tuple_getitem.lookup
  (getItem_tuple (j:=j) (Q:=λ r s'=>r=w/\EP X pins σ Q r s') pl qR qR (by rw[qb1,<-hl];exact h1) (by simpa using ew) ⟨rfl,fin⟩) hs
theorem Z2F:IxR X rIxS:=by
 intro value slice pins s σ H x y v u Q I rx ry h hs;obtain⟨z,i,c,rfl,rfl,hz,he,q⟩:=h;obtain⟨t,rfl⟩:=rx;obtain⟨t',rfl⟩:=ry;obtain⟨j,h1,h2,h3,h4,h5⟩:=Z7o he;have hl:z.cps.toList.length=z.length:=by simp[Str.length]
 rw[hl]at h1 h4 h5;have hn:=Z4R;exact tail_any (typeIs_str s z t) slot_str_getitem.lookup (getItem_str (c:=c) (by
  have e1:decide (i< -(2^63:Int))=false:=decide_eq_false qR;have e2:decide (i>=2^63)=false:=decide_eq_false qR;rw[e1,e2,qf4]) (by rw[h1];simpa using h2) ⟨.str ⟨#[c]⟩,H,I.tok _,⟨_,rfl⟩,q⟩) hs
theorem Z9G(its:List Z0)(n j:Nat)(u:Z0):Obj.mapSeq (·.setIfInBounds j u) {cls:=.type "list",data:=.seq its.toArray n}={cls:=.type "list",data:=.seq (its.set j u).toArray n}:=by
 simp[Obj.mapSeq]
theorem Inv.lst{pins:List (X0×Obj)}{σ:St}{H:Hp}{s:U0}{p:X0}{xs:List V}(I:Inv X pins σ H s)(h:H p=some (.lst xs)):∃(its:List Z0)(n:Nat),Vals xs its/\s.heap.get? p=some {cls:=.type "list",data:=.seq its.toArray n}/\xs.length<=sizeLine:=by
 obtain⟨z,its,n,r,e⟩:=I.hok p _ h;exact⟨its,n,r,e,z⟩
theorem Inv.lstUpd{pins:List (X0×Obj)}{σ:St}{H:Hp}{s:U0}{p:X0}{xs ys:List V}{its its':List Z0}{n n':Nat}{f:Obj->Obj}(I:Inv X pins σ H s)(h:H p=some (.lst xs))(ho:s.heap.get? p=some {cls:=.type "list",data:=.seq its.toArray n})(hf:f {cls:=.type "list",data:=.seq its.toArray n}={cls:=.type "list",data:=.seq its'.toArray n'})(r:Vals ys its')(hz:ys.length<=sizeLine)(t:Nat):Inv X pins σ (upd H p (.lst ys)) {s with heap:=s.heap.update p f,toks:=t}:=by
 have e:(s.heap.update p f).get? p=some {cls:=.type "list",data:=.seq its'.toArray n'}:=by
  rw[Heap.get?_update_self f ho (by rw[hf]<;>rfl),hf]
 refine I.write (x:=p) (e:=p) (by rw[h];trivial) (.inl rfl) (λ b u hb q=>(Heap.get?_update_other _ _ (Ne.symm hb)).trans q) ⟨_,e⟩ ?_;exact⟨hz,its',n',r,e⟩
def J7n:V->V->V->Hp->(Hp->Prop)->Prop:=λ o i v H Q=>∃p xs k j,o=.ref p/\i=.int k/\H p=some (.lst xs)/\ixN xs.length k=some j/\Q (upd H p (.lst (xs.set j v)))
theorem J3p:PSet X J7n:=by
 intro pins s σ H o i v ov iv u Q I ro ri rv h;obtain⟨p,xs,k,j,rfl,rfl,hp,hj,q⟩:=h;cases ro;obtain⟨t,rfl⟩:=ri;obtain⟨its,n,r,ho,hz⟩:=I.lst hp;obtain⟨h1,h2,h3,h4⟩:=J1Q hj;have hl:=r.length;have hn:=Z4R;have I':Inv X pins σ (upd H p (.lst (xs.set j v))) {s with heap:=s.heap.update p (Obj.mapSeq (·.setIfInBounds j u))}:=
  I.lstUpd hp ho (Z9G its n j u) (r.set rv j) (by rw[List.length_set];exact hz) s.toks
 by_cases h0:0<=k
 ·have hk:k.toNat=j:=by
   rw[seqIndex_of h0 h4]at h1;exact qc8 h1
  exact W.ki_setAt ho h0 qR (by rw[qb1,<-hl];exact h4) (by rw[hk];exact⟨_,I',q⟩)
 ·have hk:(k+(its.toArray.size:Int)).toNat=j:=by
   rw[seqIndex_neg qR h3]at h1;rw[qb1,<-hl];exact qc8 h1
  exact W.ki_setBack ho qR (by rw[qb1,<-hl];exact h3) qR (by rw[hk];exact⟨_,I',q⟩)
theorem Z6H(lo hi:Option Int)(n:Nat):(sliceBounds lo hi none n).1=((HT.sIx n 0 lo:Nat):Int)/\(sliceBounds lo hi none n).2.1=((HT.sIx n n hi:Nat):Int)/\(sliceBounds lo hi none n).2.2=1:=by
 refine⟨?_,?_,rfl⟩
 ·cases lo with
  |none=>simp[sliceBounds,HT.sIx]
  |some i=>
   simp only[sliceBounds,HT.sIx,Option.getD_none,show(1:Int)>0 by decide,if_true];by_cases h:i<0
   ·simp only[h,if_true]<;>lia
   ·simp only[h,if_false]<;>lia
 ·cases hi with
  |none=>simp[sliceBounds,HT.sIx]
  |some i=>
   simp only[sliceBounds,HT.sIx,Option.getD_none,show(1:Int)>0 by decide,if_true];by_cases h:i<0
   ·simp only[h,if_true]<;>lia
   ·simp only[h,if_false]<;>lia
theorem Z5y(its:List Z0)(lo hi:Option Int):slicePick its.toArray lo hi none=((its.drop (HT.sIx its.length 0 lo)).take (HT.sIx its.length its.length hi-HT.sIx its.length 0 lo)).toArray:=by
 obtain⟨h1,h2,h3⟩:=Z6H lo hi its.toArray.size;unfold slicePick;rw[h1,h2,h3];simp only[sliceRange_one,pick_run,qb1]<;>rfl
def rSlL(K:y0):V->Option Int->Option Int->Hp->VK->Prop:=λ x lo hi H Q=>∃a xs,x=.ref a/\SqL K H a xs/\∀p,H p=none->Q (.ref p) (upd H p (.lst (cutV xs lo hi)))
theorem Z4c:SlR X (rSlL X.K):=by
 intro pins s σ H x v vl vu lo hi sl Q I rx hs pl pu h;obtain⟨a,xs,rfl,hx,q⟩:=h;cases rx;obtain⟨its,r,ht,hz⟩:=I.list hx;have hlen:=r.length;refine⟨"list",_,slot_list_getitem.lookup,ht.isList.typeIs,?_⟩;refine wpAny_getItem_list_slice ht.isList hs pl pu .none (by simp) ?_ (by rw[qb1]<;>lia);rw[Z5y,<-hlen];refine⟨.ref s.heap.objs.size,_,I.laid (t':=s.toks) (o:=.lst (cutV xs lo hi)) (λ b ob q=>Heap.get?_push_of_some _ q) (qa0 _) ?_,rfl,q _ (I.hok.fresh (qa0 _))⟩;exact⟨qa1 (Z3Z xs lo hi) hz,_,0,(r.drop (HT.sIx xs.length 0 lo)).take (HT.sIx xs.length xs.length hi-HT.sIx xs.length 0 lo),Heap.get?_push_size _ rfl⟩
def Z3c:V->Bool
 | .non=>true
 | .bl _=>true
 | .int _=>true
 | .str _=>true
 |_=>false
def eqV:V->V->Bool
 | .non,.non=>true
 | .bl a,.bl b=>a==b
 | .bl a,.int b=>(if a then 1 else 0)==b
 | .int a,.bl b=>a==(if b then 1 else 0)
 | .int a,.int b=>a==b
 | .str a,.str b=>a==b
 |_,_=>false
theorem J6J{A:O0}{s:U0}{y x:V}{u v:Z0}(ry:RelV y u)(rx:RelV x v)(fy:Z3c y=true)(fx:Z3c x=true):SeqAt.EqAt A s u v (eqV y x):=by
 cases y with
 |non=>
  cases ry;cases x with
  |non=>cases rx;exact SeqAt.EqAt.same _
  |bl b=>cases rx;exact SeqAt.EqAt.none_bool b
  |int b=>obtain⟨t,rfl⟩:=rx;exact SeqAt.EqAt.none_int b t
  |str b=>obtain⟨t,rfl⟩:=rx;exact SeqAt.EqAt.none_str b t
  |_=>exact absurd (show false=true from fx) qb3
 |bl a=>
  cases ry;cases x with
  |non=>cases rx;exact SeqAt.EqAt.bool_none a
  |bl b=>cases rx;exact SeqAt.EqAt.bool_bool a b
  |int b=>obtain⟨t,rfl⟩:=rx;exact SeqAt.EqAt.bool_int a b t
  |str b=>obtain⟨t,rfl⟩:=rx;exact SeqAt.EqAt.bool_str a b t
  |_=>exact absurd (show false=true from fx) qb3
 |int a=>
  obtain⟨t',rfl⟩:=ry;cases x with
  |non=>cases rx;exact SeqAt.EqAt.int_none a t'
  |bl b=>cases rx;exact SeqAt.EqAt.int_bool a t' b
  |int b=>obtain⟨t,rfl⟩:=rx;exact SeqAt.EqAt.int_int a t' b t
  |str b=>obtain⟨t,rfl⟩:=rx;exact SeqAt.EqAt.int_str a t' b t
  |_=>exact absurd (show false=true from fx) qb3
 |str a=>
  obtain⟨t',rfl⟩:=ry;cases x with
  |non=>cases rx;exact SeqAt.EqAt.str_none a t'
  |bl b=>cases rx;exact SeqAt.EqAt.str_bool a t' b
  |int b=>obtain⟨t,rfl⟩:=rx;exact SeqAt.EqAt.str_int a t' b t
  |str b=>obtain⟨t,rfl⟩:=rx;exact SeqAt.EqAt.str_str a t' b t
  |_=>exact absurd (show false=true from fx) qb3
 |_=>exact absurd (show false=true from fy) qb3
def eqU(x:V)(u:Z0):Bool:=match u with
 | .none=>eqV .non x
 | .bool b=>eqV (.bl b) x
 | .int i _=>eqV (.int i) x
 | .str z _=>eqV (.str z) x
 |_=>false
theorem J4f{x y:V}{u:Z0}(r:RelV y u)(f:Z3c y=true):eqU x u=eqV y x:=by
 cases y with
 |non=>cases r;rfl
 |bl b=>cases r;rfl
 |int i=>obtain⟨t,rfl⟩:=r;rfl
 |str z=>obtain⟨t,rfl⟩:=r;rfl
 |_=>exact absurd (show false=true from f) qb3
theorem Z7s{x:V}:∀{xs:List V}{us:List Z0},Vals xs us->xs.all Z3c=true->us.any (eqU x)=xs.any λ y=>eqV y x
 |_,_,.nil,_=>rfl
 |y::xs,u::us,.cons r t,f=>by
  rw[qd8,qc5]at f;rw[qe6,qe6,J4f r f.1,Z7s t f.2]
theorem Z5k{A:O0}{s:U0}{x:V}{v:Z0}(rx:RelV x v)(fx:Z3c x=true):∀{xs:List V}{us:List Z0},Vals xs us->xs.all Z3c=true->∀u∈us,SeqAt.EqAt A s u v (eqU x u)
 |_,_,.nil,_=>λ u hu=>by cases hu
 |y::xs,u::us,.cons r t,f=>λ u' hu=>by
  rw[qd8,qc5]at f;rcases qa2.mp hu with rfl|hu
  ·rw[J4f r f.1];exact J6J r rx f.1 fx
  ·exact Z5k rx fx t f.2 u' hu
def inV(x:V)(xs:List V):Bool:=xs.any λ y=>eqV y x
def rIn(K:y0)(neg:Bool):R2:=λ x y H Q=>∃p xs,y=.ref p/\(SqL K H p xs\/SqT K H p xs)/\Z3c x=true/\xs.all Z3c=true/\Q (.bl (if neg then !inV x xs else inV x xs)) H
theorem Z1W:OpR X (compareOp .In) (rIn X.K false):=by
 intro pins s σ H x y v u Q I rx ry h;obtain⟨p,xs,rfl,hq,fx,fs,q⟩:=h;cases ry;rcases hq with hq|hq
 ·obtain⟨its,r,pl,hz⟩:=I.list hq;refine SeqAt.in_listAt (eqU x) pl.isList (λ w hw=>Z5k rx fx r fs w (by simpa using hw)) ⟨.bl _,H,I,rfl,?_⟩;rw[show its.toArray.any (eqU x)=its.any (eqU x)by simp,Z7s r fs];exact q
 ·obtain⟨its,r,pl,hz⟩:=I.tuple hq;refine SeqAt.in_tupleAt (eqU x) pl (λ w hw=>Z5k rx fx r fs w (by simpa using hw)) ⟨.bl _,H,I,rfl,?_⟩;rw[show its.toArray.any (eqU x)=its.any (eqU x)by simp,Z7s r fs];exact q
theorem Z7j:Z4m X (.builtin "len") (λ xs H Q=>∃p ys,xs=[.ref p]/\(SqL X.K H p ys\/SqT X.K H p ys)/\Q (.int ys.length) H):=by
 intro pins s σ H xs us Q I r h;obtain⟨p,ys,rfl,hq,q⟩:=h;obtain⟨u,rfl,rx⟩:=Z9j r;cases rx;have hn:=Z4R;rcases hq with hq|hq
 ·obtain⟨its,r',pl,hz⟩:=I.list hq;have hlen:=r'.length;exact Calls.call_len_list pl.isList (by simp only[qb1]<;>lia) ⟨.int ys.length,H,I.tok _,⟨s.toks+1,by rw[qb1,hlen]⟩,q⟩
 ·obtain⟨its,r',pl,hz⟩:=I.tuple hq;have hlen:=r'.length;exact len_tuple pl (by simp only[qb1]<;>lia) ⟨.int ys.length,H,I.tok _,⟨s.toks+1,by rw[qb1,hlen]⟩,q⟩
theorem Z0W:Z4m X (.builtin "len") (λ xs H Q=>∃z,xs=[.str z]/\z.length<=sizeLine/\Q (.int z.length) H):=by
 intro pins s σ H xs us Q I r h;obtain⟨z,rfl,hz,q⟩:=h;obtain⟨u,rfl,t,rfl⟩:=Z9j r;have hn:=Z4R;exact len_str qR ⟨.int z.length,H,I.tok _,⟨_,rfl⟩,q⟩
theorem Z6t:Z4m X (.type "list") (λ xs H Q=>∃p ys,xs=[.ref p]/\(SqL X.K H p ys\/SqT X.K H p ys)/\∀l,H l=none->Q (.ref l) (upd H l (.lst ys))):=by
 intro pins s σ H xs us Q I r h;obtain⟨p,ys,rfl,hq,q⟩:=h;obtain⟨u,rfl,rx⟩:=Z9j r;cases rx;have fin:∀(its:List Z0),Vals ys its->ys.length<=sizeLine->∀(h':N0)(c':Nat),(∀b o',s.heap.get? b=some o'->h'.get? b=some o')->
   h'.get? s.heap.objs.size=some {cls:=.type "list",dict:=none,data:=.seq its.toArray c',slots:=#[]}->EP X pins σ Q (.ref s.heap.objs.size) {s with heap:=h'}:=λ its r' hz h' c' kp e=>
  ⟨.ref s.heap.objs.size,_,I.laid (t':=s.toks) kp (qa0 _) (show ObjOk X.prog X.w _ h' _ (.lst ys)from⟨hz,its,c',r',e⟩),rfl,q _ (I.hok.fresh (qa0 _))⟩
 rcases hq with hq|hq
 ·obtain⟨its,r',pl,hz⟩:=I.list hq;have hlen:=r'.length;obtain⟨o,ho,hc,n,hd⟩:=pl.isList;exact call_list_seq p (.inl rfl) ho hc hd (λ h' c' kp e=>fin its r' hz h' c' kp e) (by simp only[qb1]<;>lia)
 ·obtain⟨its,r',pl,hz⟩:=I.tuple hq;have hlen:=r'.length;obtain⟨o,ho,hc,n,hd⟩:=pl;exact call_list_seq p (.inr rfl) ho hc hd (λ h' c' kp e=>fin its r' hz h' c' kp e) (by simp only[qb1]<;>lia)
theorem Z0A:Z4m X (.type "tuple") (λ xs H Q=>∃p ys,xs=[.ref p]/\((SqL X.K H p ys/\∀l,H l=none->Q (.ref l) (upd H l (.tup ys)))\/(SqT X.K H p ys/\Q (.ref p) H))):=by
 intro pins s σ H xs us Q I r h;obtain⟨p,ys,rfl,h⟩:=h;obtain⟨u,rfl,rx⟩:=Z9j r;cases rx;rcases h with⟨hq,q⟩|⟨hq,q⟩
 ·obtain⟨its,r',pl,hz⟩:=I.list hq;have hlen:=r'.length;refine call_tuple_list pl.isList (λ h' kp=>?_) (by simp only[qb1]<;>lia);have I1:Inv X pins σ H {s with heap:=h'}:=I.kept (t':=s.toks) kp;have I2:Inv X pins σ (upd H h'.objs.size (.tup ys)) {s with heap:=h'.push {cls:=.type "tuple",data:=.seq its.toArray}}:=
   I1.laid (t':=s.toks) (λ b o e=>Heap.get?_push_of_some _ e) (qa0 _) (show ObjOk X.prog X.w _ _ _ (.tup ys)from⟨⟨hz,Z9e⟩,its,r',IsTup.new _ _⟩)
  exact⟨.ref h'.objs.size,_,I2,rfl,q _ (I1.hok.fresh (qa0 _))⟩
 ·obtain⟨its,r',pl,hz⟩:=I.tuple hq;exact call_tuple_same pl ⟨.ref p,H,I,rfl,q⟩
def tyV(K:y0)(T:String)(x:V)(H:Hp):Prop:=match x with
 | .str _=>T="str"
 | .int _=>T="int"
 | .ref p=>(T="list"/\∃xs,SqL K H p xs)\/(T="tuple"/\∃o,K.lookup p=some o/\o.cls=.type "tuple"/\o.dict=none)\/
   (T="dict"/\((∃kvs,H p=some (.dK kvs))\/∃kvs,H p=some (.dT kvs)))\/(T="set"/\∃S n,H p=some (.set S n))
 |_=>False
theorem J6R{pins:List (X0×Obj)}{σ:St}{H:Hp}{s:U0}{T:String}{x:V}{v:Z0}(I:Inv X pins σ H s)(r:RelV x v)(ty:tyV X.K T x H):s.TypeIs v T/\∀a,v=.ref a->∃ob,s.heap.get? a=some ob/\ob.dict=none:=by
 cases x with
 |str z=>
  obtain⟨t,rfl⟩:=r;cases(show T="str" from ty);exact⟨typeIs_str s z t,λ _ e=>nomatch e⟩
 |int i=>
  obtain⟨t,rfl⟩:=r;cases(show T="int" from ty);exact⟨typeIs_int s i t,λ _ e=>nomatch e⟩
 |ref p=>
  cases r;rcases ty with⟨rfl,xs,hq⟩|⟨rfl,o,hk,hc,hd⟩|⟨rfl,hk⟩|⟨rfl,S,n,hk⟩
  ·obtain⟨its,_,pl,_⟩:=I.list hq;refine⟨pl.isList.typeIs,λ a e=>?_⟩;cases e;obtain⟨o,n,e,c,hd,_⟩:=pl;exact⟨o,e,hd⟩
  ·refine⟨⟨o,I.kIn p o hk,hc⟩,λ a e=>?_⟩;cases e;exact⟨o,I.kIn _ o hk,hd⟩
  ·have z:∃o,s.heap.get? p=some o/\o.ExactDict:=by
    rcases hk with⟨kvs,hk⟩|⟨kvs,hk⟩
    ·obtain⟨_,_,_,_,o,_,_,e,ex,_⟩:=I.hok p _ hk;exact⟨o,e,ex⟩
    ·obtain⟨_,_,_,_,o,_,_,e,ex,_⟩:=I.hok p _ hk;exact⟨o,e,ex⟩
   obtain⟨o,e,ex⟩:=z;refine⟨⟨o,e,ex.1⟩,λ a e2=>?_⟩;cases e2;exact⟨o,e,ex.2.1⟩
  ·obtain⟨o,_,_,_,e,ex,_⟩:=I.hok p _ hk;refine⟨⟨o,e,ex.1⟩,λ a e2=>?_⟩;cases e2;exact⟨o,e,ex.2.1⟩
 |_=>exact False.elim ty
def tBM(K:y0)(T:String)(r:V->List V->Hp->VK->Prop)(to:TE)(t:TA):TE:=λ σ H Q=>to σ H λ x H1=>tyV K T x H1/\t σ H1 λ xs H2=>r x xs H2 Q
variable{o e:Expr}{es:List Expr}{to:TE}{t:TA}{name:V0}{apos cpos:Pos}{T id:String}{r:V->List V->Hp->VK->Prop}
theorem Z3M(pa:PlainAttrs T)(slot:Slot T name id)(hty:typeOf (.builtin id)=pure (.type "method_descriptor"))(hm:MtR X id r)(ho:PE X o to)(ha:PA X (e::es) t)(hbase:attributeBase o name X.env (eval o X.env)=eval o X.env:=by rfl)(hfew:((backTo cpos (starEach (e::es) X.env)).all (λ x=>!x.1)&&(backToKw cpos (keywordEach [] X.env)).all (λ x=>x.1.isSome)&&decide ((e::es).length+([]:List Keyword).length+(if([]:List Keyword).isEmpty then 0 else 1)<30))=true:=by rfl)(hline:(apos.endLine==cpos.line)=true:=by rfl)(hs:starEach (e::es) X.env=(false,eval e X.env)::starEach es X.env:=by rfl)(hplain:(backTo cpos (starEach es X.env)).any (·.1)=false:=by rfl):PE X (.Call (.Attribute o name apos) (e::es) [] cpos) (tBM X.K T r to t):=by
 intro pins s σ H Q I h;refine wpAny_Call_method_late hbase hfew hline rfl (thn (ho pins s σ H _ I h) λ v s1 ⟨x,H1,I1,r1,ty,q1⟩=>?_);obtain⟨h1,h2⟩:=J6R I1 r1 ty;refine⟨T,id,pa,slot,hty,h1,h2,?_⟩;have hA:=ha cpos pins s1 σ H1 _ I1 q1;rw[hs]at hA ⊢;refine Calls.callWith_builtin (by show(false||(backTo cpos (starEach es X.env)).any (·.1))=false;rw[hplain]<;>rfl) (Calls.evalArgs_plain ?_);exact thn hA λ us s2 ⟨vs,H2,I2,r2,q2⟩=>hm pins s2 σ H2 x vs v us Q I2 r1 r2 q2
end
end L2
namespace L2
open PySem PySem.Spec PyProof.Rows
def MtM(X:Cx)(id:String)(r:V->List V->Hp->VK->Prop):Prop:=
 ∀(pins:List (X0×Obj))(s:U0)(σ:St)(H:Hp)(x:V)(xs:List V)(v:Z0)(us:List Z0)(Q:VK),Inv X pins σ H s->RelV x v->Vals xs us->r x xs H Q->
  wpAny (model X.prog X.w) X.A (call (.builtin id) (v::us)) (EP X pins σ Q) X.xe s
theorem Vals.one:∀{x:V}{us:List Z0},Vals [x] us->∃u,us=[u]/\RelV x u
 |_,_,.cons r .nil=>⟨_,rfl,r⟩
theorem Vals.two:∀{x y:V}{us:List Z0},Vals [x,y] us->∃u v,us=[u,v]/\RelV x u/\RelV y v
 |_,_,_,.cons r (.cons q .nil)=>⟨_,_,rfl,r,q⟩
section
variable{X:Cx}{pins:List (X0×Obj)}{σ:St}{H:Hp}{s:U0}{l b:X0}{xs ys zs:List V}
theorem Inv.lset{its its':List Z0}{n:Nat}{f:Array Z0->Array Z0}{t':Nat}(I:Inv X pins σ H s)(hH:H l=some (.lst xs))(e:s.heap.get? l=some {cls:=.type "list",data:=.seq its.toArray n})(hf:f its.toArray=its'.toArray)(hv:Vals ys its')(hz:ys.length<=sizeLine):Inv X pins σ (upd H l (.lst ys)) {s with heap:=s.heap.update l (Obj.mapSeq f),toks:=t'}:=by
 have q:=PySem.IsL.update e f;rw[hf]at q;refine I.write (x:=l) (e:=l) (by rw[hH];exact trivial) (.inl rfl) (λ b' u hb hu=>(Heap.get?_update_other s.heap (Obj.mapSeq f) (Ne.symm hb)).trans hu) ⟨_,q⟩ ?_;exact⟨hz,its',_,hv,q⟩
theorem Inv.lnew{its:List Z0}{t':Nat}(I:Inv X pins σ H s)(hv:Vals ys its)(hz:ys.length<=sizeLine):Inv X pins σ (upd H s.heap.objs.size (.lst ys)) {s with heap:=s.heap.push {cls:=.type "list",data:=.seq its.toArray},toks:=t'}:=
 I.laid (λ _ _ q=>Heap.get?_push_of_some _ q) (qa0 _) ⟨hz,its,0,hv,Heap.get?_push_size _ rfl⟩
theorem Inv.fresh(I:Inv X pins σ H s):H s.heap.objs.size=none:=I.hok.fresh (qa0 _)
theorem Inv.lstM(I:Inv X pins σ H s)(hH:H l=some (.lst xs)):xs.length<=sizeLine/\∃(its:List Z0)(n:Nat),Vals xs its/\xs.length=its.length/\s.heap.get? l=some {cls:=.type "list",data:=.seq its.toArray n}:=by
 obtain⟨z,its,n,r,e⟩:=I.hok l _ hH;exact⟨z,its,n,r,r.length,e⟩
theorem J2x{n:Nat}(h:n<=sizeLine):Builtin.List.listTooLong n=false:=by
 unfold Builtin.List.listTooLong;exact decide_eq_false qR
end
section
variable{X:Cx}
def Z7w:V->List V->Hp->VK->Prop:=λ x vs H Q=>∃l xs y,x=.ref l/\vs=[y]/\H l=some (.lst xs)/\xs.length<sizeLine/\Q .non (upd H l (.lst (xs++[y])))
theorem Z0X:MtM X "list.append" Z7w:=by
 intro pins s σ H x vs v us Q I rx rv h;obtain⟨l,xs,y,rfl,rfl,hH,hz,q⟩:=h;cases rx;obtain⟨u,rfl,ru⟩:=rv.one;obtain⟨z,its,n,r,hl,e⟩:=I.lstM hH;refine call_meets F.slot_list_append ⟨_,e,rfl⟩ F.entry_list_append (F.args_list_append_2 _ _) (PySem.list_append l its.toArray n u (by rw[qb1];lia)) ⟨e,?_⟩;refine⟨.non,_,I.lset (its':=its++[u]) hH e (by simp) (r.append (.cons ru .nil)) ?_,rfl,q⟩;rw[qa5,List.length_singleton];lia
def J0r:V->List V->Hp->VK->Prop:=λ x vs H Q=>∃l b xs zs,x=.ref l/\vs=[.ref b]/\H l=some (.lst xs)/\H b=some (.lst zs)/\xs.length+zs.length<=sizeLine/\Q .non (upd H l (.lst (xs++zs)))
theorem J1q:MtM X "list.extend" J0r:=by
 intro pins s σ H x vs v us Q I rx rv h;obtain⟨l,b,xs,zs,rfl,rfl,hH,hB,hz,q⟩:=h;cases rx;obtain⟨u,rfl,ru⟩:=rv.one;cases ru;obtain⟨z,its,n,r,hl,e⟩:=I.lstM hH;obtain⟨z2,its2,n2,r2,hl2,e2⟩:=I.lstM hB;have hsz:its.toArray.size+its2.toArray.size<=sizeLine:=by rw[qb1,qb1];lia
 have hlong:¬(!its.toArray.isEmpty&&Builtin.List.listTooLong (its.toArray.size+its2.toArray.size))=true:=by
  rw[J2x hsz,Bool.and_false];exact qb3
 refine call_meets F.slot_list_extend ⟨_,e,rfl⟩ F.entry_list_extend (F.args_list_extend_2 _ _)
  (AutoSeq1.list_extend_list_list_0 l its.toArray n b its2.toArray n2 hlong (by rw[qb1];lia) qR) ⟨e,e2,?_⟩
 refine⟨.non,_,I.lset (its':=its++its2) hH e (by simp) (r.append r2) ?_,rfl,q⟩;rw[qa5];lia
def rCat:R2:=λ x y H Q=>∃l b xs zs,x=.ref l/\y=.ref b/\H l=some (.lst xs)/\H b=some (.lst zs)/\xs.length+zs.length<=sizeLine/\∀p,H p=none->Q (.ref p) (upd H p (.lst (xs++zs)))
theorem Z8D:OpR X (binaryOp .Add) rCat:=by
 intro pins s σ H x y v u Q I rx ry h;obtain⟨l,b,xs,zs,rfl,rfl,hH,hB,hz,q⟩:=h;cases rx;cases ry;obtain⟨z,its,n,r,hl,e⟩:=I.lstM hH;obtain⟨z2,its2,n2,r2,hl2,e2⟩:=I.lstM hB;refine PySem.P.add_list e e2 ?_ (by rw[qb1,qb1];lia);have ea:its.toArray++its2.toArray=(its++its2).toArray:=by simp
 rw[ea];exact⟨.ref _,_,I.lnew (t':=s.toks) (r.append r2) (by rw[qa5];lia),rfl,q _ I.fresh⟩
end
section
variable{prog:Program}{w:M0}{A:O0}{E:Z0->U0->Prop}{s:U0}
set_option maxRecDepth 100000 in
end
end L2
namespace Att
open PySem PySem.W PySem.Calls PyProof.Rows
theorem Z4e{P:Params}{h:N0}:∀(ns:List Int)(vs:List Z0),WellAll P h vs (ns.map WData.int)->IntsAre vs ns:=by
 intro ns;induction ns with
 |nil=>
  intro vs w;rw[List.map_nil]at w;cases w;exact .nil
 |cons n ns ih=>
  intro vs w;rw[qc4]at w;cases w with
  |cons a b=>
   cases a;exact .cons _ _ (ih _ b)
theorem J0F{l:OpenLaw}{n:Nat}(hn:l.most=some n){P:Params}{h:N0}{args:List WData}{vals:List Z0}(hpre:l.row.toRowW.claim.pre args=true)(hwl:WellAll P h vals args):∃a vs ns,vals=[Value.ref a]/\args=[WData.list (ns.map WData.int)]/\h.get? a=some {cls:=.type "list",data:=.seq vs.toArray}/\IntsAre vs ns/\ns.length<=n:=by
 have hsh:WShape.hasAll [] args [.list .int]=true:=(pre_splitW hpre).1;have hc:l.pre.holds [] {args:=args}=true:=(pre_splitW hpre).2;obtain⟨d,r,rfl,h1,h2⟩:=hasAllW_cons hsh;obtain rfl:=hasAllW_nil h2;obtain⟨xs,rfl,h3⟩:=hasW_list h1;obtain⟨ns,rfl⟩:=items_int h3;have hlen:ns.length<=n:=by
  unfold OpenLaw.pre at hc;have h4:(WTm.not (.lt (.lit (.int (n:Int))) (.len (.arg 0)))).holds [] {args:=[.list (ns.map .int)]}=true:=by
   have h4:=(holds_andW hc).1;rw[hn]at h4;exact h4
  have h5:=condW_of h4 (w_not (w_lt w_lit (w_len_list (w_arg rfl))));rw[qa3]at h5;refine qe7 λ q=>?_;have q':(n:Int)<((ns.length:Nat):Int):=by lia
  first
   |(rw[decide_eq_true q']at h5;exact absurd h5 qQ)
   |(simp at h5;lia)
 cases hwl with
 |cons w1 w2=>
  cases w2;cases w1 with
  |list ho hall=>exact⟨_,_,ns,rfl,rfl,ho,Z4e ns _ hall,hlen⟩
theorem J0s(l:OpenLaw)(args:List WData):l.row.toRowW.claim.post args (.bool true) args=true:=
 postW_of (r:=l.row.toRowW) (X:=(true == true))
  (show WShape.has [] (.bool true) .bool=true by first|rfl|decide|simp[WShape.has,WShape.arms,WShape.armsAll])
  (show(WTm.eq .res (.lit (.bool true))).value [] {args:=args,res:=some (.bool true),after:=args}=some (.bool (true==true))from w_eq_bool (w_res rfl) w_lit) rfl
theorem attach_call{l:OpenLaw}{n:Nat}{q:Program}{loose:List V0}{XP:(V0->Option Z0)->N0->Prop}{YP:M0->N0->Prop}{d:DefRec}(hn:l.most=some n)(hdf:d.params.defaults=[])(call:∀(w:M0)(s₀ s₁:U0)(mg mb:V0->Option Z0)(fa:X0)(o:Obj)(pm cd doc:Z0)(a:X0)(vs:List Z0)(ns:List Int),Ground q loose [] XP w s₀ mg mb s₁.heap->YP w s₁.heap->s₁.heap.get? fa=some o->o.data=.func (docDef d.name d.params d.body d.scope pm cd doc)->s₁.heap.CodeRec cd d.name->mg d.name=some (.ref fa)->s₁.heap.get? a=some {cls:=.type "list",data:=.seq vs.toArray}->IntsAre vs ns->ns.length<=n->s₁.gens=#[]->codeAny (model l.prog w) callerA (.call (.ref fa) ⟨[.ref a],[]⟩) (λ r s'=>r=.ok (.ret (.bool true))/\OldK s₁.heap s'.heap/\s'.os=s₁.os/\AllBare s'.gens) s₁):WalkO q loose XP YP l.row.toRowW d [] (λ f vs=>PySem.call f vs):=by
 intro w s₀ s₁ mg mb G Y fa o pm cd doc dV kV ho hd hcd hD hmg hg args vals as hpre hlay hrd hwl hlo;obtain rfl:dV=.none:=Dflts.none hD hdf;obtain rfl:kV=.none:=Dflts.noKw hD;obtain⟨a,vs,ns,rfl,rfl,hobj,hints,hlen⟩:=J0F hn hpre hwl;refine enter_call (codeAny_mono (call w s₀ s₁ mg mb fa o pm cd doc a vs ns G Y ho (fd_plain hd) hcd hmg hobj hints hlen hg) λ r s' hq=>?_);obtain⟨rfl,h2,h3,h4⟩:=hq;exact⟨.inl ⟨.bool true,.bool true,[],rfl,λ _=>rfl,.bool true,J0s l _,λ _=>⟨List.Pairwise.nil,λ _ hm=>(nomatch hm)⟩⟩,h2,h3,h4⟩
section
variable{prog:Program}{w:M0}{A:O0}{E:Z0->U0->Prop}{s:U0}{K:Frag}
def J9c(h:N0)(L d:X0):List (X0×Obj):=(qd7 h.objs.size).filterMap λ a=>if a=L\/a=d then none else(h.get? a).map λ o=>(a,o)
end
end Att
namespace L2
open PySem PySem.Spec PyProof.Rows
theorem Z3X:∀{vs:List Z0}{ns:List Int},IntsAre vs ns->Vals (ns.map V.int) vs
 |_,_,.nil=>.nil
 |_,_,.cons n t h=>.cons ⟨t,rfl⟩ (Z3X h)
def Only(H:Hp):Prop:=∀b,H b=none\/∃o xs,H b=some (.frz o (.lst xs))
theorem J2b{P:Program}{w:M0}{K:y0}{mg mb:V0->Option Z0}{CX:CXT}{k:Nat}{fa a:X0}{fd:FuncData}{x:V0}{sp:Sp}{s₁:U0}{vs:List Z0}{ns:List Int}(KX:K.In s₁.heap)(hns:s₁.heap.Ns mainGlobals mg)(hb:s₁.heap.Ns builtinsNs mb)(hbb:∀x:V0,x≠"__name__"->mb x=bootBuiltins x)(hlim:s₁.heap.NoLimit)(hg:s₁.gens=#[])(ha:s₁.heap.get? a=some {cls:=.type "list",data:=.seq vs.toArray})(hi:IntsAre vs ns)(hl:ns.length<=sizeLine)(hr:Room k callerA)(F:∀base:N0,K.In base->base.Ns mainGlobals mg->FnOk P w K mg base CX k fa fd [x] sp)(hbind:∀(s:U0)(u:Z0),BindsTo s fd ⟨[u],[]⟩ [(x,u)])(hsp:∀H:Hp,Only H->SqL K H a (ns.map V.int)->sp [.ref a] H (λ v _=>v=.bl true) λ _ _ _=>False)(hCX:∀H e s',CX [] H s₁ (λ _ _ _=>False) e s'->False):codeAny (model P w) callerA (.call (.ref fa) ⟨[.ref a],[]⟩) (λ r s'=>r=.ok (.ret (.bool true))/\OldK s₁.heap s'.heap/\s'.os=s₁.os/\AllBare s'.gens) s₁:=by
 have rv:=Z3X hi;have lenV:=hi.length
 --from an abstract heap in which nothing but the script may be tracked
 have core:∀H:Hp,Only H->SqL K H a (ns.map V.int)->HOk P w H s₁.heap->(∀b,H b≠none->b=a)->(H a≠none->K.lookup a=none)->
   codeAny (model P w) callerA (.call (.ref fa) ⟨[.ref a],[]⟩) (λ r s'=>r=.ok (.ret (.bool true))/\OldK s₁.heap s'.heap/\s'.os=s₁.os/\AllBare s'.gens) s₁:=by
  intro H hO hS hok hA hK;have base_of:∀{b:X0}{o:Obj},s₁.heap.get? b=some o->H b=none->(hidT s₁.heap H).get? b=some o:=λ e n=>Z9g e n;have noA:∀{b:X0}{o:Obj}{es:Array DictEntry}{ep:Nat},s₁.heap.get? b=some o->o.data=.dict es ep->H b=none:=λ{b o es ep} e d=>by
   cases q:H b with
   |none=>rfl
   |some u=>
    have e':b=a:=hA b (by rw[q];simp);subst e';rw[ha]at e;cases e;have d':Data.seq vs.toArray _=Data.dict es ep:=d;cases d'
  have nsK:∀{b:X0}{m:V0->Option Z0},s₁.heap.Ns b m->(hidT s₁.heap H).Ns b m:=λ{b m} ⟨o,es,ep,e,d,r⟩=>⟨o,es,ep,base_of e (noA e d),d,r⟩;have hKb:K.In (hidT s₁.heap H):=λ b o e=>base_of (KX b o e) (by
   cases q:H b with
   |none=>rfl
   |some u=>
    have e':b=a:=hA b (by rw[q];simp);subst e';rw[hK (by rw[q];simp)]at e;cases e)
  have hM:Mod K mg (hidT s₁.heap H):=⟨hKb,nsK hns,⟨mb,nsK hb,hbb⟩,let⟨mc,h1,h2⟩:=hlim;⟨mc,nsK h1,h2⟩⟩;have e0:Env0 P w K mg (hidT s₁.heap H) callerA [] s₁ H:=⟨rfl,hM,λ b o e=>J0P e,qg2 (Z6M _ _),trivial,λ b hb=>absurd (show b∈([]:List X0)from hb) (by simp),hok,.of_eq hg⟩;refine codeAny_mono ((F _ hKb (nsK hns)).run callerA [] s₁ H ⟨[.ref a],[]⟩ [.ref a] [.ref a] _ _ hr e0 (hbind s₁ (.ref a)) (.cons rfl .nil) (hsp H hO hS)) λ r s' h=>?_;cases r with
  |error e=>exact(hCX H e s' h).elim
  |ok fl=>
   cases fl with
   |next=>exact False.elim h
   |brk=>exact False.elim h
   |cont=>exact False.elim h
   |ret u=>
    obtain⟨v,H',os,bare,un,hok',r',q⟩:=h;have q':v=.bl true:=q;subst q';obtain rfl:u=Value.bool true:=r';refine⟨rfl,OldK.of_keep λ b o e=>?_,os,bare⟩;cases q:H b with
    |none=>exact un.keep b o e q (by intro z;exact absurd (show b∈([]:List X0)from z) (by simp)) (by simp)
    |some u=>
     rcases hO b with z|⟨ob,xs,z⟩
     ·rw[q]at z;cases z
     ·have z2:=un.frzs b ob _ z;obtain⟨e1,_⟩:=hok b _ z;obtain⟨e2,_⟩:=hok' b _ z2;rw[e]at e1;cases e1;exact e2
 cases hk:K.lookup a with
 |some o=>
  --the script is one of the module's own objects
  have e:=KX a o hk;rw[ha]at e;cases e;refine core (λ _=>none) (λ _=>.inl rfl) (.inr ⟨_,vs.toArray,_,hk,rfl,rfl,rfl,by rw[qb1,lenV];exact hl,by simpa using rv⟩) (λ b u z=>by have z':(none:Option HO)=some u:=z;cases z') (λ b z=>absurd rfl z) λ z=>absurd rfl z
 |none=>
  refine core (λ b=>if b=a then some (.frz {cls:=.type "list",data:=.seq vs.toArray} (.lst (ns.map V.int)))else none) (λ b=>?_) (.inl (.inr ⟨{cls:=.type "list",data:=.seq vs.toArray},if_pos rfl⟩)) (λ b u z=>?_) (λ b z=>?_) λ _=>hk
  ·by_cases hb:b=a
   ·exact .inr ⟨_,_,if_pos hb⟩
   ·exact .inl (if_neg hb)
  ·by_cases hb:b=a
   ·have z':=(if_pos hb).symm.trans z;cases z';subst hb;exact⟨ha,by rw[qa3];exact hl,vs,_,rv,ha⟩
   ·have z':=(if_neg hb).symm.trans z;cases z'
  ·by_cases hb:b=a
   ·exact hb
   ·exact absurd (if_neg hb) z
end L2
namespace L2
open PySem PySem.Spec PyProof.Rows
abbrev KOf{K:y0}{h:N0}(_:K.In h):y0:=K
theorem J8K{l:W.OpenLaw}{n k:Nat}{q:Program}{loose:List V0}{XP:(V0->Option Z0)->N0->Prop}{YP:M0->N0->Prop}{d:DefRec}{K:Params->y0}{CX:M0->CXT}{sp:M0->Sp}{x:V0}(hn:l.most=some n)(hn2:n<=sizeLine)(hdf:d.params.defaults=[])(hr:Room k callerA)(hY:∀(w:M0)(h:N0),YP w h->(K w.params).In h)(F:∀(w:M0)(mg:V0->Option Z0)(fa:X0)(h:N0),(K w.params).In h->h.Ns mainGlobals mg->mg d.name=some (.ref fa)->∃fd:FuncData,(∀(s:U0)(u:Z0),BindsTo s fd ⟨[u],[]⟩ [(x,u)])/\∀base:N0,(K w.params).In base->base.Ns mainGlobals mg->FnOk l.prog w (K w.params) mg base (CX w) k fa fd [x] (sp w))(hsp:∀(w:M0)(H:Hp)(a:X0)(ns:List Int),ns.length<=n->Only H->SqL (K w.params) H a (ns.map V.int)->sp w [.ref a] H (λ v _=>v=.bl true) λ _ _ _=>False)(hCX:∀(w:M0)(H:Hp)(s:U0)(e:Z0)(s':U0),CX w [] H s (λ _ _ _=>False) e s'->False):W.WalkO q loose XP YP l.row.toRowW d [] (λ f vs=>PySem.call f vs):=by
 refine Att.attach_call hn hdf λ w s₀ s₁ mg mb fa o pm cd doc a vs ns G Y ho hd hcd hmg hobj hints hlen hg=>?_;have KX:=hY w _ Y;obtain⟨fd,hb,hF⟩:=F w mg fa _ KX G.T.g hmg;exact J2b KX G.T.g G.T.b G.T.builtins G.T.nolimit hg hobj hints (qa1 hlen hn2) hr hF hb (λ H hO hS=>hsp w H a ns hlen hO hS) λ H e s'=>hCX w H s₁ e s'
end L2
namespace L2
open PySem PySem.Spec PyProof.Rows
abbrev CX0:CXT:=λ _ _ _ _ _ _=>False
abbrev E0:XK:=λ _ _ _=>False
theorem Z4H{X:Cx}:Z3J CX0 X E0:=λ _ _ _ _ _ _ _ h=>h.elim
structure Fun(K:y0)(x qual:V0)(st:Stmt)(f:X0)(fd:FuncData):Prop where
 ex:∃(oc:Z0)(od:Option X0)(kV doc pm:Z0)(an:Option X0)(cdv ct:Z0)(osl:Array (Option Z0)),
  fd=W.fnOf x qual (Z0O st) (Z0y st) (Z0d st) .none kV doc pm an cdv ct/\K.lookup f=some ⟨oc,od,.func fd,osl⟩/\W.codeIn K cdv qual=true
 kp:W.keepIn K (.ref f)=true
section
variable{P:Program}{w:M0}{K:y0}{mg:V0->Option Z0}{base:N0}
theorem Fun.ok{x qual:V0}{st:Stmt}{f:X0}{fd:FuncData}{N ps:List V0}{k:Nat}{sp:Sp}(F:Fun K x qual st f fd)(S:Z0j N ps (Z0d st))(len:∀vs H Q E,sp vs H Q E->vs.length=ps.length)(hbody:∀(cdv:Z0)(A:O0)(outer:List Env)(s:U0)(H:Hp)(vs:List V)(Q:VK)(E:XK),Room k (A.deeper (envOfC qual (Z0d st) s.heap.objs.size f cdv))->sp vs H Q E->∃t,PSs (cxOf CX0 P w K mg base N qual (Z0d st) f cdv A outer s H E).nox (Z0y st) t/\t {nx:=λ _ H'=>Q .non H',rt:=Q} (Z3u N vs) H):FnOk P w K mg base CX0 (k+1) f fd ps sp:=by
 obtain⟨oc,od,kV,doc,pm,an,cdv,ct,osl,rfl,lk,hcd⟩:=F.ex;refine J4I lk hcd S len λ A outer s H vs Q E hr hsp=>?_;obtain⟨t,h,q⟩:=hbody cdv A outer s H vs Q E hr hsp;exact⟨t,h.nox,q⟩
theorem Fun.binds{x qual:V0}{st:Stmt}{f:X0}{fd:FuncData}{ps:List V0}(F:Fun K x qual st f fd)(h:∀(kV doc pm:Z0)(an:Option X0)(cdv ct:Z0)(us:List Z0),us.length=ps.length->bindArgs (W.fnOf x qual (Z0O st) (Z0y st) (Z0d st) .none kV doc pm an cdv ct) ⟨us,[]⟩=pure (ps.zip us)):Binds K fd ps []:=by
 obtain⟨oc,od,kV,doc,pm,an,cdv,ct,osl,rfl,lk,hcd⟩:=F.ex;exact .all (h kV doc pm an cdv ct)
theorem Z9f{x qual:V0}{st:Stmt}{f:X0}{oc:Z0}{od an:Option X0}{osl:Array (Option Z0)}{kV doc pm cdv ct:Z0}(l:K.lookup f=some ⟨oc,od,.func (W.fnOf x qual (Z0O st) (Z0y st) (Z0d st) .none kV doc pm an cdv ct),osl⟩)(c:W.codeIn K cdv qual=true)(k:W.keepIn K (.ref f)=true):Fun K x qual st f (W.fnOf x qual (Z0O st) (Z0y st) (Z0d st) .none kV doc pm an cdv ct):=⟨⟨oc,od,kV,doc,pm,an,cdv,ct,osl,rfl,l,c⟩,k⟩
end
theorem J8M{A:O0}{k:Nat}(hr:Room k A):A.units+1<cLine:=qh6 (Nat.add_le_add_left (by decide:1<=64) _) hr.units
section
variable{X:Cx}
theorem pv(i:Nat){x:V0}{pos:Pos}(hN:X.N[i]?=some x:=by rfl)(hv:Vis X.env.scope x:=by first|exact Or.inl rfl|exact Or.inr (Or.inl rfl)|exact Or.inr (Or.inr rfl))(hd:(x==("__debug__":V0))=false:=by decide)(hcd:(x==("__classdict__":V0))=false:=by decide):PE X (.Name x pos) (tVar i):=J4h hN hv hd hcd
end
theorem iteF{A B:Prop}(h:B):if false=true then A else B:=by
 rw[if_neg qb3];exact h
theorem iteT{A B:Prop}(h:A):if true=true then A else B:=by
 rw[if_pos rfl];exact h
theorem ite2{c A B:Prop}[Decidable c](h1:c->A)(h2:¬c->B):if c then A else B:=by
 by_cases h:c
 ·rw[if_pos h];exact h1 h
 ·rw[if_neg h];exact h2 h
def Same(H H':Hp):Prop:=∀b o,H b=some o->H' b=some o
theorem Same.refl(H:Hp):Same H H:=λ _ _ h=>h
theorem Same.trans{H H1 H2:Hp}(a:Same H H1)(b:Same H1 H2):Same H H2:=λ c o h=>b c o (a c o h)
theorem Same.seq{K:y0}{H H':Hp}{a:X0}{xs:List V}(e:Same H H')(h:SqL K H a xs):SqL K H' a xs:=by
 rcases h with(h|⟨o,h⟩)|h
 ·exact .inl (.inl (e _ _ h))
 ·exact .inl (.inr ⟨o,e _ _ h⟩)
 ·exact .inr h
end L2
end
section
namespace L2
open PySem PySem.Spec PyProof.Rows PySem.SeqAt
mutual
inductive RdD(K:y0)(H:Hp):V->PyData->Prop
 |non:RdD K H .non .none
 |bl(b:Bool):RdD K H (.bl b) (.bool b)
 |int(i:Int):RdD K H (.int i) (.int i)
 |str(x:V0):RdD K H (.str x) (.str x)
 |lst{a:X0}{xs:List V}{ds:List PyData}:SqL K H a xs->RdDs K H xs ds->RdD K H (.ref a) (.list ds)
 |tup{a:X0}{xs:List V}{ds:List PyData}:SqT K H a xs->RdDs K H xs ds->RdD K H (.ref a) (.tuple ds)
inductive RdDs(K:y0)(H:Hp):List V->List PyData->Prop
 |nil:RdDs K H [] []
 |cons{x:V}{xs:List V}{d:PyData}{ds:List PyData}:RdD K H x d->RdDs K H xs ds->RdDs K H (x::xs) (d::ds)
end
section
variable{X:Cx}{pins:List (X0×Obj)}{σ:St}{H:Hp}{s:U0}
mutual
theorem RdD.reads(I:Inv X pins σ H s):∀{x:V}{d:PyData}{v:Z0},RdD X.K H x d->RelV x v->∃as,Reads s.heap v d as
 |_,_,_,.non,r=>by cases(show _=Value.none from r);exact⟨_,.none⟩
 |_,_,_,.bl b,r=>by cases(show _=Value.bool b from r);exact⟨_,.bool b⟩
 |_,_,_,.int i,r=>by obtain⟨t,e⟩:=(show ∃t,_=Value.int i t from r);subst e;exact⟨_,.int i t⟩
 |_,_,_,.str x,r=>by obtain⟨t,e⟩:=(show ∃t,_=Value.str x t from r);subst e;exact⟨_,.str x t⟩
 |_,_,_,.lst (a:=a) hq hs,r=>by
  cases(show _=Value.ref a from r);obtain⟨its,rv,pl,_⟩:=I.list hq;obtain⟨as,ra⟩:=RdDs.reads I hs rv;obtain⟨o,ho,hc,n,hd⟩:=pl.isList;exact⟨_,.list ho hc hd (by simpa using ra)⟩
 |_,_,_,.tup (a:=a) hq hs,r=>by
  cases(show _=Value.ref a from r);obtain⟨its,rv,pl,_⟩:=I.tuple hq;obtain⟨as,ra⟩:=RdDs.reads I hs rv;obtain⟨o,ho,hc,n,hd⟩:=pl;exact⟨_,.tuple ho hc hd (by simpa using ra)⟩
theorem RdDs.reads(I:Inv X pins σ H s):∀{xs:List V}{ds:List PyData}{vs:List Z0},RdDs X.K H xs ds->Vals xs vs->∃as,ReadsAll s.heap vs ds as
 |_,_,_,.nil,.nil=>⟨_,.nil⟩
 |_,_,_,.cons hd ht,.cons r rr=>by
  obtain⟨as,ra⟩:=RdD.reads I hd r;obtain⟨bs,rb⟩:=RdDs.reads I ht rr;exact⟨_,.cons ra rb⟩
end
end
theorem J2w{K:y0}{H H':Hp}{a:X0}{xs:List V}(h:SqT K H a xs)(e:Same H H'):SqT K H' a xs:=by
 rcases h with(h|⟨o,h⟩)|h
 ·exact .inl (.inl (e _ _ h))
 ·exact .inl (.inr ⟨o,e _ _ h⟩)
 ·exact .inr h
mutual
theorem RdD.same{K:y0}{H H':Hp}(e:Same H H'):∀{v:V}{d:PyData},RdD K H v d->RdD K H' v d
 |_,_,.non=>.non
 |_,_,.bl b=>.bl b
 |_,_,.int i=>.int i
 |_,_,.str x=>.str x
 |_,_,.lst hq hs=>.lst (e.seq hq) (RdDs.same e hs)
 |_,_,.tup hq hs=>.tup (J2w hq e) (RdDs.same e hs)
theorem RdDs.same{K:y0}{H H':Hp}(e:Same H H'):∀{v:List V}{d:List PyData},RdDs K H v d->RdDs K H' v d
 |_,_,.nil=>.nil
 |_,_,.cons h hs=>.cons (RdD.same e h) (RdDs.same e hs)
end
end L2
end
section
namespace L2
open PySem PySem.Spec PyProof.Rows
def Cx.block(X:Cx)(N:List V0)(scope:Scope)(cl:List (V0×X0))(C:X0)(fp:List X0)(s:U0)(H:Hp):Cx:=
 {X with N:=N,s₀:=s,H₀:=H,env:=compEnvC scope cl C X.env,outer:=X.stack,stack:=X.stack,ex:=fp,fn:=λ _=>false,pn:=[],xe:=λ _ _=>False}
structure BlockOk(X:Cx)(N:List V0)(nl:List (Option Nat))(scope:Scope)(cl:List (V0×X0)):Prop where
 kind:scope.kind=.function
 nocell:∀y∈scope.names,y.2≠.cell
 names:∀y∈scope.names,y.2=.local->scope.names.lookup y.1=some .local
 clos:closureFor scope X.env=pure cl
 sub:∀y c,cl.lookup y=some c->X.env.cells.lookup y=some c
 has:∀y,scope.names.lookup y=some .free->∃c,cl.lookup y=some c
 len:nl.length=N.length
 seen:∀(i j:Nat)(y:V0),N[i]?=some y->nl[i]?=some (some j)->X.N[j]?=some y/\scope.names.lookup y=some .free/\(X.env.scope.names.lookup y=some .cell\/X.env.scope.names.lookup y=some .free)
def stOf(nl:List (Option Nat))(σ:St):St:=nl.map λ o=>match o with
 |none=>none
 |some j=>(σ[j]?).join
theorem Z0J{x:V0}{k:NameKind}:∀{l:List (V0×NameKind)},l.lookup x=some k->(x,k)∈l
 |[],h=>by simp at h
 |(n,q)::r,h=>by
  rw[qc2]at h;cases e:x==n with
  |true=>
   rw[e]at h;have:q=k:=by simpa using h
   have e':x=n:=by simpa using e
   rw[this,e'];exact qa6
  |false=>
   rw[e]at h;exact qa8 _ (Z0J h)
theorem Z2H{env:Env}{x:V0}{k:NameKind}:∀{l:List (V0×NameKind)},(l.map λ(n,k)=>if(k==NameKind.free&&env.scope.kind==.function&&env.kindOf n==some .cell)then(n,NameKind.cell)else(n,k)).lookup x=some k->(l.lookup x=some k\/(k=.cell/\l.lookup x=some .free))
 |[],h=>by simp at h
 |(n,q)::r,h=>by
  rw[qc4]at h;cases e:x==n with
  |true=>
   by_cases hc:(q==NameKind.free&&env.scope.kind==.function&&env.kindOf n==some .cell)=true
   ·simp only[hc,if_true,qc2,e]at h;have hq:q=.free:=by
     rw[qc5,qc5]at hc;simpa using hc.1.1
    refine .inr ⟨(by simpa using h.symm),?_⟩;rw[qc2,e,hq]
   ·change qc7 x ((if(q==NameKind.free&&env.scope.kind==.function&&env.kindOf n==some .cell)=true then(n,NameKind.cell)else(n,q))::_)=some k at h;rw[if_neg hc,qc2,e]at h;refine .inl ?_;rw[qc2,e];exact h
  |false=>
   have h':(r.map λ(n,k)=>if(k==NameKind.free&&env.scope.kind==.function&&env.kindOf n==some .cell)then(n,NameKind.cell)else(n,k)).lookup x=some k:=by
    by_cases hc:(q==NameKind.free&&env.scope.kind==.function&&env.kindOf n==some .cell)=true
    ·simpa only[hc,if_true,qc2,e]using h
    ·simpa only[hc,qc2,e,if_false,Bool.false_eq_true]using h
   have ih:=Z2H (env:=env) h';rw[qc2,e];exact ih
theorem Z3E{env:Env}{x:V0}:∀{l:List (V0×NameKind)},l.lookup x=some .free->(l.map λ(n,k)=>if(k==NameKind.free&&env.scope.kind==.function&&env.kindOf n==some .cell)then(n,NameKind.cell)else(n,k)).lookup x=some .cell\/(l.map λ(n,k)=>if(k==NameKind.free&&env.scope.kind==.function&&env.kindOf n==some .cell)then(n,NameKind.cell)else(n,k)).lookup x=some .free
 |[],h=>by simp at h
 |(n,q)::r,h=>by
  rw[qc4];cases e:x==n with
  |true=>
   rw[qc2,e]at h;have hq:q=.free:=by simpa using h
   by_cases hc:(q==NameKind.free&&env.scope.kind==.function&&env.kindOf n==some .cell)=true
   ·left;simp only[hc,if_true,qc2,e]
   ·right;change qc7 x ((if(q==NameKind.free&&env.scope.kind==.function&&env.kindOf n==some .cell)=true then(n,NameKind.cell)else(n,q))::_)=some .free;rw[if_neg hc,qc2,e,hq]
  |false=>
   rw[qc2,e]at h;have ih:=Z3E (env:=env) (l:=r) h;by_cases hc:(q==NameKind.free&&env.scope.kind==.function&&env.kindOf n==some .cell)=true
   ·simpa only[hc,if_true,qc2,e]using ih
   ·simpa only[hc,qc2,e,if_false,Bool.false_eq_true]using ih
section
variable{X:Cx}{pins:List (X0×Obj)}{σ:St}{H:Hp}{s:U0}{N:List V0}{nl:List (Option Nat)}{scope:Scope}{cl:List (V0×X0)}{fp:List X0}
theorem J0q(I:Inv X pins σ H s)(B:BlockOk X N nl scope cl)(hf:∀b∈fp,FpOk X pins H b)(hob:∀b∈fp,b<s.heap.objs.size){C:X0}(hC:s.heap.objs.size<=C):(X.block N scope cl C fp s H).Ok:=by
 have stk:∀b∈frs X.stack,b=X.env.locals\/b∈X.fs:=λ b hb=>qa2.mp (I.stkSub b hb);refine⟨I.ok.mod,B.kind,I.ok.glob,I.ok.blt,hC,λ x y c h1 h2=>I.ok.inj x y c (B.sub x c h1) (B.sub y c h2),λ x hx=>?_,λ x c h=>(nomatch h),I.ok.hd,I.ok.frames,.inl rfl,λ b hb=>⟨?_,λ x c e=>?_⟩,I.bs,qa1 I.ok.bsz I.sz,λ b o e hb=>?_,λ b hb hm=>?_,I.stack,I.stkFree⟩
 ·have hx':(scope.names.map λ(n,k)=>if(k==NameKind.free&&X.env.scope.kind==.function&&X.env.kindOf n==some .cell)then(n,NameKind.cell)else(n,k)).lookup x=some .cell\/
    (scope.names.map λ(n,k)=>if(k==NameKind.free&&X.env.scope.kind==.function&&X.env.kindOf n==some .cell)then(n,NameKind.cell)else(n,k)).lookup x=some .free:=hx
  rcases hx' with q|q
  ·rcases Z2H q with z|⟨_,z⟩
   ·exact absurd rfl (B.nocell _ (Z0J z))
   ·exact B.has x z
  ·rcases Z2H q with z|⟨z,_⟩
   ·exact B.has x z
   ·cases z
 ·exact qb2 (qb0 (hob b hb) hC)
 ·exact(hf b hb).2.2.2.2.1 x c (B.sub x c e)
 ·rcases(hf b hb).2.2.2.1 with z|z
  ·exact I.ok.noex b o e z
  ·exact absurd (qb0 (Heap.lt_size (I.ok.bs b o e).1) z) (qb8 _)
 ·rcases stk b hm with z|z
  ·exact(hf b hb).2.1 z
  ·exact(hf b hb).2.2.1 z
theorem J2T{i:Nat}{v:V}(h:(stOf nl σ)[i]?=some (some v)):∃j,nl[i]?=some (some j)/\σ[j]?=some (some v):=by
 unfold stOf at h;rw[qc0]at h;cases e:nl[i]? with
 |none=>rw[e]at h;cases h
 |some o=>
  rw[e]at h;cases o with
  |none=>cases h
  |some j=>
   refine⟨j,rfl,?_⟩;have h':(σ[j]?).join=some v:=by simpa using h
   cases q:σ[j]? with
   |none=>rw[q]at h';cases h'
   |some o'=>
    rw[q]at h';have:o'=some v:=by simpa using h'
    rw[this]
theorem Z7O(I:Inv X pins σ H s)(B:BlockOk X N nl scope cl)(hf:∀b∈fp,FpOk X pins H b)(hob:∀b∈fp,b<s.heap.objs.size){C D:X0}(hD:D=s.heap.objs.size)(hC:C=s.heap.objs.size+1){h1:N0}{tk:Nat}{m:V0->Option Z0}{n:Nat}(hk:∀b o,s.heap.get? b=some o->h1.get? b=some o)(hl:h1.get? D=some {cls:=.type "list",data:=.seq ([]:List Z0).toArray n})(hn:h1.Ns C m):Inv (X.block N scope cl C fp s H) [] (stOf nl σ) (upd H D (.lst [])) {s with heap:=h1,toks:=tk}:=by
 have hDn:H D=none:=I.hok.fresh (by rw[hD];exact qa0 _);have hCD:C≠D:=by rw[hC,hD];exact Nat.succ_ne_self _
 have hCn:H C=none:=I.hok.fresh (by rw[hC];exact qf1 _);have cellD:∀y c,cl.lookup y=some c->c≠D:=λ y c e z=>by
  obtain⟨v,q⟩:=I.cell y c (B.sub y c e);exact absurd q.lt (by rw[z,hD];exact qb8 _)
 refine⟨J0q I B hf hob (by rw[hC];exact qf1 _),rfl,I.bare,Un.laid hk (by rw[hD];exact qa0 _) hDn,⟨m,hn,λ i y v e1 e2 _=>?_⟩,λ y c e=>?_,?_,λ y c e=>?_,λ p hp=>absurd hp (by simp[Cx.block]),?_,?_⟩
 ·obtain⟨j,hj,hv⟩:=J2T e2;obtain⟨x1,x2,x3⟩:=B.seen i j y e1 hj;obtain⟨m0,hm0,hl0⟩:=I.loc;obtain⟨u,r,l⟩:=hl0 j y v x1 hv (.inr x3);refine⟨u,r,?_⟩;rcases l with⟨hk1,_⟩|⟨_,c,hc,z⟩
  ·have hk1':X.env.scope.names.lookup y=some .local:=hk1;rcases x3 with q|q<;>(rw[hk1']at q;cases q)
  ·refine .inr ⟨Z3E x2,c,?_,z.keeps hk⟩;obtain⟨c',hc'⟩:=B.has y x2;have q:=B.sub y c' hc';rw[hc]at q;cases q;exact hc'
 ·obtain⟨v,q⟩:=I.cell y c (B.sub y c e);exact⟨v,q.keeps hk⟩
 ·show(upd H D (.lst [])) C=none;rw[Z0h hCD];exact hCn
 ·rw[Z0h (cellD y c e)];exact I.freeC y c (B.sub y c e)
 ·exact I.hok.laid hk (by rw[hD];exact qa0 _) ⟨qb4 _,[],n,.nil,hl⟩
 ·show(stOf nl σ).length=N.length;unfold stOf;rw[qa3,B.len]
theorem Z6s{C:X0}{σ':St}{H':Hp}{s':U0}{h2:N0}(I:Inv X pins σ H s)(hf:∀b∈fp,FpOk X pins H b)(hC:s.heap.objs.size<=C)(J:Inv (X.block N scope cl C fp s H) [] σ' H' s')(hk:∀b o,b≠C->s'.heap.get? b=some o->h2.get? b=some o):Inv X pins σ H' {s' with heap:=h2}:=by
 obtain⟨hp,g,d,t,os⟩:=s';have ho:os=s.os:=J.os;subst ho;have hCn:H' C=none:=J.free;have u:=J.base;have ne:∀b o,s.heap.get? b=some o->b≠C:=λ b o e=>qb2 (qb0 (Heap.lt_size e) hC);have u2:Un (frs X.stack) fp H H' s.heap h2:=
  ⟨λ b o e n hb hx=>hk b o (ne b o e) (u.keep b o e n hb hx),λ b o e n hb hx=>(let⟨sl,q⟩:=u.slot b o e n hb hx;⟨sl,hk b _ (ne b o e) q⟩),u.free,λ b o e hx=>(let⟨o',q⟩:=u.there b o e hx;⟨o',hk b o' (ne b o e) q⟩),u.tups,u.frzs,u.tbls⟩
 have hok2:HOk X.prog X.w H' h2:=λ b o e=>(J.hok b o e).stay (λ c v hc q=>hk c v (λ z=>by
  subst z;rcases hc with z|z
  ·rw[<-z,hCn]at e;cases e
  ·rw[hCn]at z;cases z) q) (λ _ q=>q) λ _ _ q=>q
 have z:=I.call (h':=h2) (g':=g) (d':=d) (t':=t) (ch:=fp) u2 hok2 J.bare λ b hb=>(let⟨_,f1,_,f3,f4,f5⟩:=hf b hb;⟨f3,f1,f4,f5⟩);exact z
end
def PQ(X:Cx)(tst:Env->Sem Bool)(t:TT):Prop:=
 ∀(pins:List (X0×Obj))(s:U0)(σ:St)(H:Hp)(Q:Bool->Hp->Prop),Inv X pins σ H s->t σ H Q->wpAny (model X.prog X.w) X.A (tst X.env) (TP X pins σ Q) X.xe s
def Z3i:TT:=λ _ H Q=>Q true H
theorem J1R{X:Cx}:PQ X (λ _=>pure true) Z3i:=λ _ _ _ H _ I h=>wpAny_pure ⟨H,I,h⟩
def Z3P(J:It)(g:TG)(tc:TT)(te:TE)(D:X0)(Q:VK)(σ0:St)(H0:Hp):Prop:=∃W:Nat->Nat->St->Hp->Prop,(∃m,W 0 m σ0 H0)/\∀i m σ' H',W i m σ' H'->
 (J.stop i H'/\Q (.ref D) H')\/(J.go i H'/\∃N:St->Hp->Prop,(∀σ2 H2,N σ2 H2->∃m',m'<m/\W (i+1) m' σ2 H2)/\∀x H2,J.yld i H' x H2->g x σ' H2 λ σ3 H3=>tc σ3 H3 λ b H4=>if b=true then te σ3 H4 λ v H5=>∃xs,H5 D=some (.lst xs)/\xs.length<sizeLine/\N σ3 (upd H5 D (.lst (xs++[v])))else N σ3 H4)
def J2J(wi:TI)(nl:List (Option Nat))(g:TG)(tc:TT)(te:TE):TE:=λ σ H Q=>wi σ H λ J H1=>∀D,H1 D=none->Z3P J g tc te D Q (stOf nl σ) (upd H1 D (.lst []))
theorem Z7f{X:Cx}{N:List V0}{nl:List (Option Nat)}{scope:Scope}{cl:List (V0×X0)}{elt tg iter:Expr}{ifs:List Expr}{pos:Pos}{wi:TI}{g:TG}{tst:Env->Sem Bool}{tc:TT}{te:TE}(hcalm:X.calm=true)(B:BlockOk X N nl scope cl)(hi:PI X tg iter wi)(hg:∀C fp s H,PG (X.block N scope cl C fp s H) tg g)(ht:∀C fp s H,PQ (X.block N scope cl C fp s H) tst tc)(he:∀C fp s H,PE (X.block N scope cl C fp s H) elt te)(hturn:∀(it acc:Z0)(env:Env),compTurn (.ListComp elt [⟨tg,iter,ifs,0⟩] scope pos) 0 it acc env=(do
   standAt iter.pos
   match<-pyNext it with
   |none=>pure (.done .next)
   |some v=>
    letOwnedTupleGo tg it v
    assign tg env v
    let ok<-tst env
    if ok then(do
     (do let x<-eval elt env;let _<-call (.builtin "list.append") [acc,x];pure ())
     again (.compLoop (.ListComp elt [⟨tg,iter,ifs,0⟩] scope pos) 0 it acc env))
    else again (.compLoop (.ListComp elt [⟨tg,iter,ifs,0⟩] scope pos) 0 it acc env))) (hs:∀x,foldedSetIterable iter X.env x=pure x) {pins:List (X0×Obj)} {s:U0} {σ:St} {H:Hp} {Q:VK} (I:Inv X pins σ H s) (h:J2J wi nl g tc te σ H Q) {use:Option (Z0->Sem Unit)} {Q':Z0->U0->Prop} (hpost:∀(D C:X0) (s' s2:U0) (fp:List X0) (σ':St) (H' H2:Hp),Inv X pins σ H2 s2->(∀b∈fp,FpOk X pins H2 b)->s2.heap.objs.size<=C->Inv (X.block N scope cl C fp s2 H2) [] σ' H' s'->Q (.ref D) H'->compPost (model X.prog X.w) X.A X.xe use Q' (.ref D) C (.ok .next) s') (hpos:Pos):wpAny (model X.prog X.w) X.A (comprehension (.ListComp elt [⟨tg,iter,ifs,0⟩] scope pos) scope X.env hpos (newList []) false (eval iter X.env) use) Q' X.xe s:=by
 refine wpAny_comprehension_free (use:=use) rfl hs B.clos B.kind B.names ?_;refine thn (hi pins s σ H _ I h) λ v s1 h1=>thn h1 λ itv s2 h2=>?_;obtain⟨it,fp,tn,J,H2,e,I2,T,st2,f2,q⟩:=h2;subst e;have hob:∀b∈fp,b<s2.heap.objs.size:=λ b hb=>(let⟨o,e,_⟩:=T.obj 0 _ st2 b hb;Heap.lt_size e);refine wpAny_newObj_type (wpAny_newFunctionEnv B.nocell (by intro y hy;simp at hy) (λ h1 hns hsb=>?_) B.kind);dsimp only at hns hsb ⊢;generalize hD:s2.heap.objs.size=D at hns hsb ⊢;have hC:(s2.heap.push {cls:=.type "list",dict:=none,data:=.seq ([]:List Z0).toArray}).objs.size=s2.heap.objs.size+1:=by rw[Heap.size_push]
 generalize hC':(s2.heap.push {cls:=.type "list",dict:=none,data:=.seq ([]:List Z0).toArray}).objs.size=C at hns hsb hC ⊢;have hDC:D≠C:=by rw[hC,<-hD];exact(Nat.succ_ne_self _).symm
 have lt_ne:∀b,b<s2.heap.objs.size->b≠C:=λ b hb=>by rw[hC];exact qb2 (qh7 hb)
 have old:∀b o,s2.heap.get? b=some o->h1.get? b=some o:=λ b o e=>
  hsb.extBut b o (lt_ne b (Heap.lt_size e)) (Heap.get?_push_of_some _ (Heap.get?_push_of_some _ e))
 have hl:h1.get? D=some {cls:=.type "list",data:=.seq ([]:List Z0).toArray 0}:=by
  refine hsb.extBut D _ hDC (Heap.get?_push_of_some _ ?_);rw[<-hD];exact Heap.get?_push_size _ rfl
 have fresh:H2 D=none:=I2.hok.fresh (by rw[hD];exact qa0 _);obtain⟨W,⟨m0,w0⟩,turn⟩:=q D fresh;have hCle:s2.heap.objs.size<=C:=by rw[hC];exact qf1 _
 have stat:∀{H':Hp},(∀b∈fp,H' b=none)->∀b∈fp,FpOk (X.block N scope cl C fp s2 H2) [] H' b:=λ hn b hb=>by
  obtain⟨_,f1,f2',f3,f4,f5⟩:=f2 b hb;refine⟨hn b hb,lt_ne b (hob b hb),λ z=>?_,.inl hb,λ x c e=>f4 x c (B.sub x c e),λ p hp=>absurd hp (by simp[Cx.block])⟩;rcases qa2.mp (I2.stkSub b z)with z|z
  ·exact f1 z
  ·exact f2' z
 have main:∀s4:U0,(∃tk,s4={s2 with heap:=h1,toks:=tk})->
   codeAny (model X.prog X.w) X.A (.compLoop (.ListComp elt [⟨tg,iter,ifs,0⟩] scope pos) 0 (.ref it) (.ref D) (X.block N scope cl C fp s2 H2).env) (compPost (model X.prog X.w) X.A X.xe use Q' (.ref D) C) s4:=by
  rintro s4 ⟨tk,rfl⟩;have I3:Inv (X.block N scope cl C fp s2 H2) [] (stOf nl σ) (upd H2 D (.lst [])) { s2 with heap:=h1,toks:=tk }:=Z7O I2 B f2 hob hD.symm hC old hl hns;refine codeAny_loop rfl (λ n s'=>∃ i σ' H',Inv (X.block N scope cl C fp s2 H2) [] σ' H' s'/\tn i s'.heap/\(∀ b∈fp,H' b=none)/\W i n σ' H') (λ n s5 hI=>?_) m0
   ⟨0,stOf nl σ,_,I3,T.keep 0 _ _ st2 λ b hb o e=>old b o e,λ b hb=>by rw[Z0h (λ z=>absurd (hob b hb) (by rw[z,<-hD];exact qb8 _))];exact(f2 b hb).1,w0⟩
  show wpAny _ X.A ((compTurn (.ListComp elt [⟨tg,iter,ifs,0⟩] scope pos) 0 (.ref it) (.ref D) (X.block N scope cl C fp s2 H2).env).onRaise (λ x=>do noteFrame x (X.block N scope cl C fp s2 H2).env;theTreesLotGoes x)) _ _ s5;refine wpAny_noted ?_;rw[hturn];obtain⟨i,σ5,H5,I5,st5,fr5,w5⟩:=hI;have quiet:∀{α:Type}{t:Sem α}{R:α->U0->Prop}{E':Z0->U0->Prop}{s':U0},wpAny (model X.prog X.w) X.A t R (λ _ _=>False) s'->wpAny (model X.prog X.w) X.A t R E' s':=λ hw=>wpAny_mono hw (λ _ _ z=>z) λ _ _ z=>z.elim;refine wpAny_bind (wpAny_standAt ?_);rcases turn i n σ5 H5 w5 with⟨stop,qn⟩|⟨go,Nx,hN,step⟩
  ·refine wpAny_bind (quiet (thn (T.done (X.block N scope cl C fp s2 H2) rfl rfl rfl hcalm i [] s5 σ5 H5 (λ _ _=>False) I5 (stat fr5) st5 stop) λ r s6 ⟨hr,I6⟩=>?_));subst hr;exact quiet (wpAny_pure (hpost D C s6 s2 fp σ5 H5 H2 I2 f2 hCle I6 qn))
  ·refine wpAny_bind (quiet (thn (T.item (X.block N scope cl C fp s2 H2) rfl rfl rfl hcalm i [] s5 σ5 H5 (λ _ _=>False) I5 (stat fr5) st5 go) λ r s6 ⟨u,hr,h6⟩=>?_));subst hr;refine wpAny_bind (quiet (thn h6 λ _ s7 ⟨x,H7,I7,r7,y7,st7,fr7⟩=>?_));have I7':=I7.pinned (stat fr7) (T.obj _ _ st7);have again':∀{σ8:St}{H8:Hp}{s8:U0},Inv (X.block N scope cl C fp s2 H2) ([]++Z6k fp s7.heap) σ8 H8 s8->Nx σ8 H8->∃m,m<n/\∃i σ' H',Inv (X.block N scope cl C fp s2 H2) [] σ' H' s8/\tn i s8.heap/\(∀b∈fp,H' b=none)/\W i m σ' H':=λ{σ8 H8 s8} I8 n8=>by
    obtain⟨m',hm,w8⟩:=hN σ8 H8 n8;refine⟨m',hm,i+1,σ8,H8,I8.unpinned,T.keep _ _ _ st7 λ b hb o e=>(I8.pin (b,o) (qc3 _ (qc3 _ (Z2L hb e)))).1,λ b hb=>?_,w8⟩;obtain⟨o,e,_⟩:=T.obj _ _ st7 b hb;exact(I8.pin (b,o) (qc3 _ (qc3 _ (Z2L hb e)))).2.1
   refine wpAny_bind (quiet (thn (hg C fp s2 H2 _ s7 σ5 H7 x u _ I7' r7 (step x H7 y7)) λ _ s8 ⟨σ8,H8,I8,q8⟩=>?_));refine wpAny_bind (quiet (thn (ht C fp s2 H2 _ s8 σ8 H8 _ I8 q8) λ b s9 ⟨H9,I9,q9⟩=>?_));cases b with
   |false=>exact quiet (wpAny_pure ⟨rfl,again' I9 q9⟩)
   |true=>
    refine wpAny_bind (wpAny_bind (quiet (thn (he C fp s2 H2 _ s9 σ8 H9 _ I9 q9) λ vy s10 hz_=>?_)));obtain⟨y,H10,I10,r10,xs,e10,z10,n10⟩:=hz_;refine wpAny_bind (quiet (thn (Z0X _ s10 σ8 H10 (.ref D) [y] (.ref D) [vy] (λ _ H'=>Nx σ8 H') I10 rfl (.cons r10 .nil) ⟨D,xs,y,rfl,rfl,e10,z10,n10⟩) λ _ s11 ⟨_,H11,I11,_,q11⟩=>?_));exact wpAny_pure (wpAny_pure ⟨rfl,again' I11 q11⟩)
 exact codeAny_compStart_list (main _ ⟨_,rfl⟩) (T.self _ 0 _ _ _ (T.keep 0 _ _ st2 λ b hb o e=>old b o e) (main _ ⟨_,rfl⟩))
section
variable{X:Cx}{N:List V0}{nl:List (Option Nat)}{scope:Scope}{cl:List (V0×X0)}{elt tg iter:Expr}{pos:Pos}{wi:TI}{g:TG}{tc:TT}{te:TE}
theorem Z8v(it acc:Z0)(env:Env):compTurn (.ListComp elt [⟨tg,iter,[],0⟩] scope pos) 0 it acc env=(do
   standAt iter.pos
   match<-pyNext it with
   |none=>pure (.done .next)
   |some v=>
    letOwnedTupleGo tg it v
    assign tg env v
    let ok<-(λ _=>pure true:Env->Sem Bool) env
    if ok then(do
     (do let x<-eval elt env;let _<-call (.builtin "list.append") [acc,x];pure ())
     again (.compLoop (.ListComp elt [⟨tg,iter,[],0⟩] scope pos) 0 it acc env))
    else again (.compLoop (.ListComp elt [⟨tg,iter,[],0⟩] scope pos) 0 it acc env)):=by rfl
theorem Z9K{pins:List (X0×Obj)}{σ:St}{Q:VK}(D C:X0)(s' s2:U0)(fp:List X0)(σ':St)(H' H2:Hp)(I2:Inv X pins σ H2 s2)(f2:∀b∈fp,FpOk X pins H2 b)(hC:s2.heap.objs.size<=C)(J:Inv (X.block N scope cl C fp s2 H2) [] σ' H' s')(q:Q (.ref D) H'):compPost (model X.prog X.w) X.A X.xe none (EP X pins σ Q) (.ref D) C (.ok .next) s':=by
 obtain⟨m,hn,_⟩:=J.loc;exact⟨m,hn,λ h' sb=>⟨.ref D,H',Z6s I2 f2 hC J λ b o hb e=>sb.extBut b o hb e,rfl,q⟩⟩
theorem Z0G(hcalm:X.calm=true)(B:BlockOk X N nl scope cl)(hi:PI X tg iter wi)(hg:∀C fp s H,PG (X.block N scope cl C fp s H) tg g)(he:∀C fp s H,PE (X.block N scope cl C fp s H) elt te)(hs:∀x,foldedSetIterable iter X.env x=pure x:=by intro _;rfl):PE X (.ListComp elt [⟨tg,iter,[],0⟩] scope pos) (J2J wi nl g Z3i te):=by
 intro pins s σ H Q I h;rw[eval_ListComp];exact Z7f (tst:=λ _=>pure true) hcalm B hi hg (λ _ _ _ _=>J1R) he Z8v hs I h Z9K _
end
end L2
end
section
namespace L2
open PySem PySem.Spec PyProof.Rows
def Its(x:V0):It:=⟨λ i _=>i<x.cps.size,λ i H v H'=>H'=H/\∃c,x.cps[i]?=some c/\v=.str ⟨#[c]⟩,λ i _=>i=x.cps.size⟩
theorem Z8U{P:Program}{w:M0}{K:y0}{tg:Expr}(it:X0)(x:V0)(t:Tok)(cls:String)(hn:["enumerate","zip","dict_itemiterator","dict_reverseitemiterator","odict_iterator","itertools.zip_longest","itertools.pairwise"].contains cls=false)(W:∀A:O0,A.handled=none->Walks P w A it [it] [it] x.cps.size (SignAt x) (λ i h=>h.IsStrIter it cls x t i))(hself:∀(A:O0)(i:Nat)(s:U0)(Q:Z0->U0->Prop)(E:Z0->U0->Prop),s.heap.IsStrIter it cls x t i->Q (.ref it) s->wpAny (model P w) A (pyIter (.ref it)) Q E s):Turn P w K tg (Its x) [it] it (λ i h=>h.IsStrIter it cls x t i)where
 mem:=by simp
 obj:=λ i h st b hb=>by
  have e:b=it:=by simpa using hb
  subst e;obtain⟨o,e,c,d⟩:=st;exact⟨o,e,λ v z=>by rw[d]at z;cases z⟩
 keep:=λ i h h' st k=>(let⟨o,ho,r⟩:=st;⟨o,k it (by simp) o ho,r⟩)
 item:=by
  intro X hP hw hK hc i pins s σ H E I hf st hg;subst hP hw hK;obtain⟨f0,f1,f2,f3,f4,f5⟩:=hf it (by simp);refine(W X.A (I.ok.hd hc)).item i s _ E hg st λ v h' tk hv st' kk=>?_;obtain⟨c,u,hx,rfl⟩:=hv;have I1:Inv X pins σ H {s with heap:=h',toks:=tk}:=I.turned (λ b o hb e=>kk b o (by simpa using hb) e) f0 f1 f3 f4 f5;obtain⟨o,e,oc,d⟩:=id st';exact⟨_,rfl,J1K (s:={s with heap:=h',toks:=tk}) e oc d hn ⟨.str ⟨#[c]⟩,H,I1,⟨u,rfl⟩,⟨rfl,c,hx,rfl⟩,st',λ b hb=>(hf b hb).1⟩⟩
 done:=by
  intro X hP hw hK hc i pins s σ H E I hf st hg;subst hP hw hK;obtain⟨f0,f1,f2,f3,f4,f5⟩:=hf it (by simp);have hg':i=x.cps.size:=hg;subst hg';exact(W X.A (I.ok.hd hc)).done s _ E st λ h' tk kk=>⟨rfl,I.turned (λ b o hb e=>kk b o (by simpa using hb) e) f0 f1 f3 f4 f5⟩
 self:=hself
section
variable{X:Cx}{tg:Expr}
def iStr(tl:TE):TI:=λ σ H R=>tl σ H λ x H1=>∃z,x=.str z/\R (Its z) H1
theorem J4d{l:Expr}{tl:TE}(hl:PE X l tl):PI X tg l (iStr tl):=by
 intro pins s σ H R I h;refine thn (hl pins s σ H _ I h) λ v s1 ⟨x,H1,I1,r1,q1⟩=>?_;obtain⟨z,e,q⟩:=q1;subst e;obtain⟨t,rfl⟩:=r1;have fp:∀b∈[s1.heap.objs.size],FpOk X pins H1 b:=λ b hb=>by
  have e:b=s1.heap.objs.size:=by simpa using hb
  subst e;exact I1.fpOk (qa0 _) (I1.hok.fresh (qa0 _))
 cases ha:z.cps.all (·<128)with
 |false=>
  refine wpAny_pyIter_wide ha ?_;exact⟨s1.heap.objs.size,[s1.heap.objs.size],_,_,H1,rfl,I1.kept (t':=s1.toks) λ b o e=>Heap.get?_push_of_some _ e,Z8U _ z t "str_iterator" qQ (λ A hA=>Walks.strWide hA _ z t) (λ A i s Q E st hq=>wpAny_pyIter_striter_wide st hq),⟨_,Heap.get?_push_size _ rfl,rfl,rfl⟩,fp,q⟩
 |true=>
  refine wpAny_pyIter_ascii ha ?_;exact⟨s1.heap.objs.size,[s1.heap.objs.size],_,_,H1,rfl,I1.kept (t':=s1.toks) λ b o e=>Heap.get?_push_of_some _ e,Z8U _ z t "str_ascii_iterator" qQ (λ A hA=>Walks.strAscii hA _ z t) (λ A i s Q E st hq=>wpAny_pyIter_striter_ascii st hq),⟨_,Heap.get?_push_size _ rfl,rfl,rfl⟩,fp,q⟩
end
def Ite(K:y0)(l:X0):It:=
 ⟨λ i H=>∃xs x,SqL K H l xs/\xs[i]?=some x,λ i H v H'=>∃t x,v=.ref t/\H t=none/\H'=upd H t (.tup [.int i,x])/\∀xs,SqL K H l xs->xs[i]?=some x,λ i H=>∃xs,SqL K H l xs/\xs.length<=i⟩
end L2
namespace L2
open PySem PySem.Spec PyProof.Rows
theorem Z5N(ys:List Bool):(qd7 ys.length).all (λ i=>ys.getD i false)=ys.all id:=by
 rw[qg1,List.all_eq_true,List.all_eq_true];constructor
 ·intro h y hy;obtain⟨i,hi,e⟩:=qj2 hy;have:=h i (qf8.mpr hi);rw[qc6,qb5 hi]at this;rw[<-e];exact this
 ·intro h i hi;have hi':=qf8.mp hi;rw[qc6,qb5 hi'];exact h _ (qg8 hi')
theorem Z5g{X:Cx}(hc:X.calm=true):Z4m X (.builtin "all") (λ xs H Q=>∃(p:X0)(ys:List Bool),xs=[.ref p]/\SqL X.K H p (ys.map V.bl)/\Q (.bl (ys.all id)) H):=by
 intro pins s σ H xs us Q I r h;obtain⟨p,ys,rfl,hq,q⟩:=h;obtain⟨u,rfl,ru⟩:=r.one;cases ru;obtain⟨its,rv,pl,hz⟩:=I.list hq;obtain⟨o,ho,_,_,_⟩:=id pl.isList;have hne:p≠s.heap.objs.size:=qb2 (Heap.lt_size ho);have hl:=rv.length;rw[qa3]at hl;refine call_all_walk (wpAny_pyIter_list pl.isList ?_);refine⟨s.heap.objs.size,_,_,_,_,_,λ i=>ys.getD i false,rfl,Walks.list (A:=X.A.in1) (show X.A.in1.handled=none from I.ok.hd hc) _ p hne its.toArray,⟨⟨_,Heap.get?_push_size _ rfl,rfl,rfl⟩,pl.isList.at λ o e=>Heap.get?_push_of_some _ e⟩,λ i v s1 Q1 E1 hv hq1=>?_,λ h' tk kk=>?_⟩
 ·have hv':its[i]?=some v:=by simpa using hv
  have hi:i<ys.length:=by
   have:=(qb7.mp hv').1;lia
  obtain⟨u',e',r'⟩:=rv.get (i:=i) (x:=V.bl ys[i]) (by rw[qc0,qb5 hi];rfl);rw[hv']at e';cases e';cases(show _=Value.bool ys[i]from r');refine wpAny_truthy_bool ?_;dsimp only at hq1;rw[qc6,qb5 hi]at hq1;exact hq1
 ·have e:(qd7 its.toArray.size).all (λ i=>ys.getD i false)=ys.all id:=by
   rw[qb1,<-hl];exact Z5N ys
  refine⟨.bl (ys.all id),H,I.kept λ b o e=>kk b o (λ z=>?_) (Heap.get?_push_of_some _ e),by rw[e];rfl,q⟩;have z':b=s.heap.objs.size:=by simpa using z
  exact absurd (Heap.lt_size e) (by rw[z'];exact qb8 _)
end L2
end
section
namespace L2
open PySem PySem.Spec PyProof.Rows
theorem BlockOk.plain{X:Cx}{N:List V0}{scope:Scope}(kind:scope.kind=.function)(nocell:∀y∈scope.names,y.2≠.cell)(names:∀y∈scope.names,y.2=.local->scope.names.lookup y.1=some .local)(nofree:∀y∈scope.names,y.2≠.free):BlockOk X N (N.map λ _=>none) scope []where
 kind:=kind
 nocell:=nocell
 names:=names
 clos:=closureFor_none nofree
 sub:=λ y c h=>by simp at h
 has:=λ y h=>absurd rfl (nofree _ (Z0J h))
 len:=by simp
 seen:=λ i j y _ h=>by
  rw[qc0]at h;cases q:N[i]? with
  |none=>rw[q]at h;cases h
  |some z=>rw[q]at h;cases h
theorem J0G{J:It}{g:TG}{tc:TT}{te:TE}{Q:VK}{H:Hp}{D:X0}{σ0:St}(ys:List V)(p:V->Bool)(f:V->V)(Pσ:St->Prop)(Rσ:V->St->Prop)(h0:Pσ σ0)(hgo:∀i l,i<ys.length->J.go i (upd H D (.lst l)))(hstop:∀l,J.stop ys.length (upd H D (.lst l)))(hy:∀i l x H',i<ys.length->J.yld i (upd H D (.lst l)) x H'->H'=upd H D (.lst l)/\ys[i]?=some x)(hg:∀x∈ys,∀σ' H' K,Pσ σ'->(∀σ3,Pσ σ3->Rσ x σ3->K σ3 H')->g x σ' H' K)(hc:∀x∈ys,∀σ' l K,Rσ x σ'->K (p x) (upd H D (.lst l))->tc σ' (upd H D (.lst l)) K)(he:∀x∈ys,p x=true->∀σ' l K,Rσ x σ'->K (f x) (upd H D (.lst l))->te σ' (upd H D (.lst l)) K)(hz:ys.length<=sizeLine)(hQ:Q (.ref D) (upd H D (.lst ((ys.filter p).map f)))):Z3P J g tc te D Q σ0 (upd H D (.lst [])):=by
 refine⟨λ i m σ' H'=>m=ys.length-i/\i<=ys.length/\Pσ σ'/\H'=upd H D (.lst (((ys.take i).filter p).map f)),⟨ys.length,by simp,qb4 _,h0,by simp⟩,?_⟩;rintro i m σ' H' ⟨rfl,hi,hP,rfl⟩;by_cases hlt:i<ys.length
 ·refine .inr ⟨hgo i _ hlt,λ σ2 H2=>Pσ σ2/\H2=upd H D (.lst (((ys.take (i+1)).filter p).map f)),λ σ2 H2 ⟨a,b⟩=>⟨ys.length-(i+1),qR,rfl,hlt,a,b⟩,λ x H2 hx=>?_⟩;obtain⟨eH,hgx⟩:=hy i _ x H2 hlt hx;subst eH;have hm:x∈ys:=qe2 hgx;have e1:ys.take (i+1)=ys.take i++[x]:=by rw[List.take_add_one,hgx];rfl
  refine hg x hm σ' _ _ hP λ σ3 hP3 hR=>hc x hm σ3 _ _ hR ?_;cases hp:p x with
  |true=>
   refine iteT (he x hm hp σ3 _ _ hR ⟨_,Z0e,?_,hP3,?_⟩)
   ·rw[qa3];have a1:=List.length_filter_le p (ys.take i);have a2:(ys.take i).length=i:=by rw[qh3];lia
    lia
   ·rw[Z7A,e1,List.filter_append,qe8];simp[hp]
  |false=>
   refine iteF ⟨hP3,?_⟩;rw[e1,List.filter_append,qe8];simp[hp]
 ·have e:i=ys.length:=by lia
  subst e;refine .inl ⟨hstop _,?_⟩;rw[qh8];exact hQ
theorem Z9C{tc:TT}{te:TE}{Q:VK}{H:Hp}{D:X0}{z:V0}{σ0:St}(v0:Option V)(rest:St)(p:Nat->Bool)(f:Nat->V)(e0:σ0=v0::rest)(hc:∀c∈z.cps.toList,∀l K,K (p c) (upd H D (.lst l))->tc (some (.str ⟨#[c]⟩)::rest) (upd H D (.lst l)) K)(he:∀c∈z.cps.toList,p c=true->∀l K,K (f c) (upd H D (.lst l))->te (some (.str ⟨#[c]⟩)::rest) (upd H D (.lst l)) K)(hz:z.length<=sizeLine)(hQ:Q (.ref D) (upd H D (.lst ((z.cps.toList.filter p).map f)))):Z3P (Its z) (Z3o 0) tc te D Q σ0 (upd H D (.lst [])):=by
 have cod:∀ c:Nat,(match (V.str ⟨#[c]⟩:V) with | .str x=>x.cps.getD 0 0 | _=>0)=c:=λ c=>rfl;refine J0G (z.cps.toList.map λ c=>V.str ⟨#[c]⟩) (λ v=>p (match v with | .str x=>x.cps.getD 0 0 | _=>0)) (λ v=>f (match v with | .str x=>x.cps.getD 0 0 | _=>0)) (λ σ'=>∃ v,σ'=v::rest) (λ x σ'=>σ'=some x::rest) ⟨v0,e0⟩
  (λ i l h=>?_) (λ l=>?_) (λ i l x H' _ h=>?_) (λ x _ σ' H' K h1 h2=>?_) (λ x hx σ' l K h1 h2=>?_) (λ x hx hp σ' l K h1 h2=>?_) ?_ ?_
 ·show i<z.cps.size;rw[qa3,qg7]at h;exact h
 ·show(z.cps.toList.map λ c=>V.str ⟨#[c]⟩).length=z.cps.size;rw[qa3,qg7]
 ·obtain⟨rfl,c,hc',rfl⟩:=h;refine⟨rfl,?_⟩;rw[qc0,show z.cps.toList[i]?=some c by simpa using hc'];rfl
 ·obtain⟨v,rfl⟩:=h1;exact h2 _ ⟨_,rfl⟩ rfl
 ·obtain⟨c,hc',rfl⟩:=qd0.mp hx;rw[h1];exact hc c hc' l K h2
 ·obtain⟨c,hc',rfl⟩:=qd0.mp hx;rw[h1];exact he c hc' hp l K h2
 ·rw[qa3];have:z.cps.toList.length=z.length:=by simp[Str.length]
  lia
 ·have e:((z.cps.toList.map λ c=>V.str ⟨#[c]⟩).filter λ v=>p (match v with| .str x=>x.cps.getD 0 0|_=>0)).map (λ v=>f (match v with| .str x=>x.cps.getD 0 0|_=>0))=(z.cps.toList.filter p).map f:=by
   rw[List.filter_map,qd1];rfl
  rw[e];exact hQ
theorem Z4h{te:TE}{Q:VK}{H:Hp}{D:X0}{z:V0}{σ0:St}(v0:Option V)(rest:St)(f:Nat->V)(e0:σ0=v0::rest)(he:∀c∈z.cps.toList,∀l K,K (f c) (upd H D (.lst l))->te (some (.str ⟨#[c]⟩)::rest) (upd H D (.lst l)) K)(hz:z.length<=sizeLine)(hQ:Q (.ref D) (upd H D (.lst (z.cps.toList.map f)))):Z3P (Its z) (Z3o 0) Z3i te D Q σ0 (upd H D (.lst [])):=
 Z9C v0 rest (λ _=>true) f e0 (λ _ _ _ _ k=>k) (λ c hc _=>he c hc) hz (by rw[List.filter_eq_self.mpr λ _ _=>rfl];exact hQ)
theorem BlockOk.of{X:Cx}{N:List V0}{nl:List (Option Nat)}{scope:Scope}{cl:List (V0×X0)}(kind:scope.kind=.function)(nocell:∀y∈scope.names,y.2≠.cell)(names:∀y∈scope.names,y.2=.local->scope.names.lookup y.1=some .local)(clos:closureFor scope X.env=pure cl)(sub:∀p∈cl,X.env.cells.lookup p.1=some p.2){nm:List V0}(hnm:cl.map (·.1)=nm)(has:∀y∈scope.names,y.2=.free->y.1∈nm)(len:nl.length=N.length)(seen:∀i<nl.length,∀j,nl[i]?=some (some j)->∃y,N[i]?=some y/\X.N[j]?=some y/\scope.names.lookup y=some .free/\(X.env.scope.names.lookup y=some .cell\/X.env.scope.names.lookup y=some .free)):BlockOk X N nl scope cl where
 kind:=kind
 nocell:=nocell
 names:=names
 clos:=clos
 sub:=λ y c h=>sub (y,c) (PySem.mem_of_lookup h)
 has:=λ y h=>by
  have hm:=has _ (Z0J h) rfl;rw[<-hnm]at hm;cases q:cl.lookup y with
  |some c=>exact⟨c,rfl⟩
  |none=>
   obtain⟨p,hp,e⟩:=qd0.mp hm;have:=List.lookup_eq_none_iff.mp q p hp;simp[e]at this
 len:=len
 seen:=λ i j y h1 h2=>by
  obtain⟨z,a,b,c,d⟩:=seen i (qb7.mp h2).1 j h2;rw[h1]at a;cases a;exact⟨b,c,d⟩
theorem sub1{env:Env}{x:V0}{a:X0}(h:env.cells.lookup x=some a):∀p∈[(x,a)],env.cells.lookup p.1=some p.2:=λ p hp=>by
 rcases qa2.mp hp with e|hp
 ·subst e;exact h
 ·cases hp
theorem sub2{env:Env}{x y:V0}{a b:X0}(h:env.cells.lookup x=some a)(h':env.cells.lookup y=some b):∀p∈[(x,a),(y,b)],env.cells.lookup p.1=some p.2:=λ p hp=>by
 rcases qa2.mp hp with e|hp
 ·subst e;exact h
 ·exact sub1 h' p hp
open PySem.SeqAt
structure Nice(k n:Nat)(d:PyData):Prop where
 lay:d.canLay0=true
 sho:d.showable=true
 leaf:d.leavesShort 30=true
 dep:d.depth<=k
 wt:d.weight<=n
theorem J8r{i:Nat}{σ:St}{H:Hp}{Q:VK}:tVar i σ H Q=(∃v,σ[i]?=some (some v)/\Q v H):=rfl
theorem J9G{v:V}{z0:St}{H:Hp}{Q:VK}:tC v z0 H Q=(Q v H):=rfl
theorem J9I{t:TE}{σ:St}{H:Hp}{Q:Bool->Hp->Prop}:tB t σ H Q=(t σ H λ x H1=>∃c,x=.bl c/\Q c H1):=rfl
theorem J8Y{t u:TT}{σ:St}{H:Hp}{Q:Bool->Hp->Prop}:tAnd t u σ H Q=(t σ H λ c H1=>if c=true then u σ H1 Q else Q false H1):=rfl
theorem J9e{t u:TT}{σ:St}{H:Hp}{Q:Bool->Hp->Prop}:tOr t u σ H Q=(t σ H λ c H1=>if c=true then Q true H1 else u σ H1 Q):=rfl
theorem J8a{t:TT}{σ:St}{H:Hp}{Q:Bool->Hp->Prop}:tNot t σ H Q=(t σ H λ c H1=>Q (!c) H1):=rfl
theorem J7B{ta tb:TE}{σ:St}{H:Hp}{Q:VK}:J6y ta tb σ H Q=(ta σ H λ x H1=>∃c,x=.bl c/\if c=true then tb σ H1 Q else Q (.bl false) H1):=rfl
theorem J8R{ta tb:TE}{σ:St}{H:Hp}{Q:VK}:tOrV ta tb σ H Q=(ta σ H λ x H1=>∃c,x=.bl c/\if c=true then Q (.bl true) H1 else tb σ H1 Q):=rfl
theorem J7w{ta:TE}{σ:St}{H:Hp}{Q:VK}:J7m ta σ H Q=(ta σ H λ x H1=>∃c,x=.bl c/\Q (.bl (!c)) H1):=rfl
theorem J9f{t:TT}{ta tb:TE}{σ:St}{H:Hp}{Q:VK}:tIf t ta tb σ H Q=(t σ H λ c H1=>if c=true then ta σ H1 Q else tb σ H1 Q):=rfl
theorem J7x{D:Ends}{σ:St}{H:Hp}:J6u D σ H=(D.nx σ H):=rfl
theorem J8i{t u:TS}{D:Ends}{σ:St}{H:Hp}:tSeq t u D σ H=(t {D with nx:=u D} σ H):=rfl
theorem J7K{te:TE}{D:Ends}{σ:St}{H:Hp}:J5i te D σ H=(te σ H λ _ H1=>D.nx σ H1):=rfl
theorem J8t{te:TE}{D:Ends}{σ:St}{H:Hp}:tRet te D σ H=(te σ H D.rt):=rfl
theorem J8l{c:TT}{t u:TS}{D:Ends}{σ:St}{H:Hp}:tIfS c t u D σ H=(c σ H λ b H1=>if b=true then t D σ H1 else u D σ H1):=rfl
theorem J7s{i:Nat}{v:V}{σ:St}{H:Hp}{Q:St->Hp->Prop}:Z3o i v σ H Q=(Q (σ.set i (some v)) H):=rfl
theorem J8X{vs:List V}{σ:St}{H:Hp}{Q:St->Hp->Prop}:gNil vs σ H Q=(vs=[]/\Q σ H):=rfl
theorem J7H{t:TG}{u:TGs}{vs:List V}{σ:St}{H:Hp}{Q:St->Hp->Prop}:J5R t u vs σ H Q=(∃v r,vs=v::r/\t v σ H λ σ' H'=>u r σ' H' Q):=rfl
theorem J8D{K:y0}{n:Nat}{t:TGs}{v:V}{σ:St}{H:Hp}{Q:St->Hp->Prop}:gTup K n t v σ H Q=(∃a xs,v=.ref a/\SqT K H a xs/\xs.length=n/\t xs σ H Q):=rfl
theorem J8L{to ti:TE}{t:TSet}{v:V}{σ:St}{H:Hp}{Q:St->Hp->Prop}:gSub to ti t v σ H Q=(to σ H λ o H1=>ti σ H1 λ i H2=>t o i v H2 λ H3=>Q σ H3):=rfl
theorem J8O{te:TE}{g:TG}{D:Ends}{σ:St}{H:Hp}:tAsg te g D σ H=(te σ H λ x H1=>g x σ H1 D.nx):=rfl
theorem J8T{i j:Nat}{ta:TA}{D:Ends}{σ:St}{H:Hp}:tPar i j ta D σ H=(ta σ H λ vs H1=>∃v w,vs=[v,w]/\D.nx ((σ.set i (some v)).set j (some w)) H1):=rfl
theorem J8P{i:Nat}{te:TE}{ti:TIp}{D:Ends}{σ:St}{H:Hp}:tAug i te ti D σ H=(∃x,σ[i]?=some (some x)/\te σ H λ y H1=>ti x y H1 λ z H2=>D.nx (σ.set i (some z)) H2):=rfl
theorem J9j{f:Int->Int->Int}{x:V}{y:V}{H:Hp}{Q:VK}:ipI f x y H Q=(∃i j,x=.int i/\y=.int j/\Q (.int (f i j)) H):=rfl
theorem J7G{K:y0}{tl:TE}{σ:St}{H:Hp}{R:It->Hp->Prop}:J6M K tl σ H R=(tl σ H λ x H1=>∃a,x=.ref a/\(∃xs,SqL K H1 a xs)/\R (Itl K a) H1):=rfl
theorem J7Z{K:y0}{tl:TE}{σ:St}{H:Hp}{R:It->Hp->Prop}:iTup K tl σ H R=(tl σ H λ x H1=>∃a,x=.ref a/\(∃xs,SqT K H1 a xs)/\R (Itt K a) H1):=rfl
theorem J7L{ta:TA}{σ:St}{H:Hp}{R:It->Hp->Prop}:J5Z ta σ H R=(ta σ H λ vs H1=>∃j:Int,vs=[.int j]/\-(2^62)<=j/\j<2^62/\R (Itr 0 j.toNat) H1):=rfl
theorem J9n{r:R2}{ta tb:TE}{σ:St}{H:Hp}{Q:VK}:tOp r ta tb σ H Q=(ta σ H λ x H1=>tb σ H1 λ y H2=>r x y H2 Q):=rfl
theorem J9m{r:V->Hp->VK->Prop}{ta:TE}{σ:St}{H:Hp}{Q:VK}:tUn r ta σ H Q=(ta σ H λ x H1=>r x H1 Q):=rfl
theorem J9z{C:Int->Int->Prop}{g:Int->Int->V}{x:V}{y:V}{H:Hp}{Q:VK}:rI C g x y H Q=(∃i j,x=.int i/\y=.int j/\C i j/\Q (g i j) H):=rfl
theorem J9d{g:Int->Int->V}{x:V}{y:V}{H:Hp}{Q:VK}:rI0 g x y H Q=(∃i j,x=.int i/\y=.int j/\Q (g i j) H):=rfl
theorem J9D{g:Int->V}{x:V}{H:Hp}{Q:VK}:rU g x H Q=(∃i,x=.int i/\Q (g i) H):=rfl
theorem J9h{x:V}{y:V}{H:Hp}{Q:VK}:rEq x y H Q=(scal x y=true/\Q (.bl (decide (x=y))) H):=rfl
theorem J9s{x:V}{y:V}{H:Hp}{Q:VK}:rNe x y H Q=(scal x y=true/\Q (.bl (!decide (x=y))) H):=rfl
theorem J7N{t:TE}{σ:St}{H:Hp}{Q:Bool->Hp->Prop}:J2h t σ H Q=(t σ H λ x H'=>∃k,x=.bl k/\Q k H'):=rfl
theorem J6q{r r':R2}{ta tb tc:TE}{σ:St}{H:Hp}{Q:VK}:J4i r r' ta tb tc σ H Q=(ta σ H λ x H1=>tb σ H1 λ y H2=>r x y H2 λ z H3=>∃k,z=.bl k/\(if k=true then tc σ H3 λ w' H4=>r' y w' H4 Q else Q (.bl false) H3)):=rfl
theorem J8I{z0:St}{H:Hp}{Q:List V->Hp->Prop}:tNil z0 H Q=(Q [] H):=rfl
theorem J7I{ta:TE}{tr:TA}{σ:St}{H:Hp}{Q:List V->Hp->Prop}:Z4y ta tr σ H Q=(ta σ H λ x H1=>tr σ H1 λ xs H2=>Q (x::xs) H2):=rfl
theorem J7S{sp:Sp}{dvs:List V}{E:XK}{t:TA}{σ:St}{H:Hp}{Q:VK}:J0E sp dvs E t σ H Q=(t σ H λ vs H1=>sp (vs++dvs) H1 Q E):=rfl
theorem J7W{C:X0}{m:V0}{sp:Sp}{dvs:List V}{E:XK}{ta:TE}{t:TA}{σ:St}{H:Hp}{Q:VK}:J0j C m sp dvs E ta t σ H Q=(ta σ H λ x H1=>∃a dx fs,x=.ref a/\H1 a=some (.ins C dx fs)/\fs.lookup m=none/\t σ H1 λ vs H2=>sp (x::(vs++dvs)) H2 Q E):=rfl
theorem J7C{C:X0}{sp:Sp}{dvs:List V}{E:XK}{t:TA}{σ:St}{H:Hp}{Q:VK}:J5e C sp dvs E t σ H Q=(t σ H λ vs H1=>∀x dx,H1 x=none->H1 dx=none->dx≠x->sp (.ref x::(vs++dvs)) (upd (upd H1 dx (.own x)) x (.ins C dx [])) (λ v H2=>v=.non/\Q (.ref x) H2) E):=rfl
theorem J9g{r:List V->Hp->VK->Prop}{t:TA}{σ:St}{H:Hp}{Q:VK}:tCB r t σ H Q=(t σ H λ vs H1=>r vs H1 Q):=rfl
theorem J5B{z0:St}{H:Hp}{Q:Option Int->Hp->Prop}:J1G z0 H Q=(Q none H):=rfl
theorem J7X{t:TE}{σ:St}{H:Hp}{Q:Option Int->Hp->Prop}:J5K t σ H Q=(t σ H λ x H1=>∃i,x=.int i/\Q (some i) H1):=rfl
theorem J9p{r:V->Option Int->Option Int->Hp->VK->Prop}{te:TE}{tl th:TO}{σ:St}{H:Hp}{Q:VK}:tSl r te tl th σ H Q=(te σ H λ x H1=>tl σ H1 λ l H2=>th σ H2 λ u H3=>r x l u H3 Q):=rfl
theorem J8z{K:y0}{x:V}{lo:Option Int}{hi:Option Int}{H:Hp}{Q:VK}:rSlT K x lo hi H Q=(∃a xs,x=.ref a/\SqT K H a xs/\¬(HT.sIx xs.length 0 lo=0/\HT.sIx xs.length xs.length hi=xs.length)/\∀p,H p=none->Q (.ref p) (upd H p (.tup (cutV xs lo hi)))):=rfl
theorem J7M{K:y0}{x:V}{y:V}{H:Hp}{Q:VK}:J7j K x y H Q=(∃a b xs ys,x=.ref a/\y=.ref b/\SqT K H a xs/\SqT K H b ys/\xs≠[]/\xs.length+ys.length<=sizeLine/\(ys=[]->Q (.ref a) H)/\(ys≠[]->∀p,H p=none->Q (.ref p) (upd H p (.tup (xs++ys))))):=rfl
theorem J8c{K:y0}{x:V}{y:V}{H:Hp}{Q:VK}:rIxL K x y H Q=(∃p xs i v,x=.ref p/\y=.int i/\SqL K H p xs/\atI xs i=some v/\Q v H):=rfl
theorem J8b{K:y0}{x:V}{y:V}{H:Hp}{Q:VK}:rIxT K x y H Q=(∃p xs i v,x=.ref p/\y=.int i/\SqT K H p xs/\atI xs i=some v/\Q v H):=rfl
theorem J7Y{x:V}{y:V}{H:Hp}{Q:VK}:rIxS x y H Q=(∃z i c,x=.str z/\y=.int i/\z.length<=sizeLine/\atI z.cps.toList i=some c/\Q (.str ⟨#[c]⟩) H):=rfl
theorem J7D{o:V}{i:V}{v:V}{H:Hp}{Q:(Hp->Prop)}:J7n o i v H Q=(∃p xs k j,o=.ref p/\i=.int k/\H p=some (.lst xs)/\ixN xs.length k=some j/\Q (upd H p (.lst (xs.set j v)))):=rfl
theorem J9q{K:y0}{neg:Bool}{x:V}{y:V}{H:Hp}{Q:VK}:rIn K neg x y H Q=(∃p xs,y=.ref p/\(SqL K H p xs\/SqT K H p xs)/\Z3c x=true/\xs.all Z3c=true/\Q (.bl (if neg then !inV x xs else inV x xs)) H):=rfl
theorem J9r{K:y0}{T:String}{r:V->List V->Hp->VK->Prop}{to:TE}{t:TA}{σ:St}{H:Hp}{Q:VK}:tBM K T r to t σ H Q=(to σ H λ x H1=>tyV K T x H1/\t σ H1 λ xs H2=>r x xs H2 Q):=rfl
theorem J5z{x:V}{vs:List V}{H:Hp}{Q:VK}:Z7w x vs H Q=(∃l xs y,x=.ref l/\vs=[y]/\H l=some (.lst xs)/\xs.length<sizeLine/\Q .non (upd H l (.lst (xs++[y])))):=rfl
theorem J5D{x:V}{vs:List V}{H:Hp}{Q:VK}:J0r x vs H Q=(∃l b xs zs,x=.ref l/\vs=[.ref b]/\H l=some (.lst xs)/\H b=some (.lst zs)/\xs.length+zs.length<=sizeLine/\Q .non (upd H l (.lst (xs++zs)))):=rfl
def Z9q(J:It)(g:TG)(tb:TS)(D:Ends)(σ:St)(H:Hp):Prop:=∃W:Nat->Nat->St->Hp->Prop,(∃m,W 0 m σ H)/\∀i m σ H,W i m σ H->
 (J.stop i H/\D.nx σ H)\/(J.go i H/\∃N:St->Hp->Prop,(∀σ' H',N σ' H'->∃m',m'<m/\W (i+1) m' σ' H')/\∀x H',J.yld i H x H'->g x σ H' λ σ2 H2=>tb {D with nx:=N,ct:=N,bk:=D.nx} σ2 H2)
theorem J8A{wi:TI}{g:TG}{tb:TS}{D:Ends}{σ:St}{H:Hp}:tFor wi g tb D σ H=wi σ H λ J H1=>Z9q J g tb D σ H1:=rfl
def clsV:V->Option Z0
 | .ty n=>some (.type n)
 | .ref a=>some (.ref a)
 |_=>none
theorem J3e{c:V}{cv u:Z0}(h:clsV c=some cv)(r:RelV c u):u=cv:=by
 cases c with
 |ty n=>cases h;exact r
 |ref a=>cases h;exact r
 |_=>cases h
def rIsi(K:y0):List V->Hp->VK->Prop:=λ xs H Q=>∃x c cv t b,xs=[x,c]/\clsV c=some cv/\TyOf K H x t/\W.kitOne K t cv=some b/\Q (.bl b) H
section
variable{X:Cx}
theorem J2D:Z4m X (.builtin "isinstance") (rIsi X.K):=by
 intro pins s σ H xs us Q I rs h;obtain⟨x,c,cv,t,b,rfl,hc,ty,e,q⟩:=h;obtain⟨u,v,rfl,ru,rv⟩:=rs.two;rw[J3e hc rv];exact J1L I ru ty e λ tk=>⟨.bl b,H,I.tok tk,rfl,q⟩
end
section
variable{K:y0}
theorem Z3U{t:Z0}:W.kitOne K t t=some true:=by
 unfold W.kitOne;rw[if_pos (by simp)]
theorem Z5X:W.kitOne K (.type "int") (.type "bool")=some false:=by with_unfolding_all rfl
end
structure Fn(K:y0)(mg:V0->Option Z0)(x:V0)(st:Stmt):Prop where
 ex:∃f fd,Fun K x x st f fd/\mg x=some (.ref f)
structure Has(P:Program)(w:M0)(K:y0)(mg:V0->Option Z0)(base:N0)(k:Nat)(x:V0)(ps:List V0)(sp:Sp):Prop where
 ex:∃f fd,FnOk P w K mg base CX0 k f fd ps sp/\Binds K fd ps []/\W.keepIn K (.ref f)=true/\mg x=some (.ref f)
structure Cst(mg:V0->Option Z0)(x:V0)(v:V):Prop where
 ex:∃u,mg x=some u/\RelV v u
section
variable{P:Program}{w:M0}{K:y0}{mg:V0->Option Z0}{base:N0}
theorem Z0M{h:N0}{x:V0}{st:Stmt}{f:X0}{oc:Z0}{od an:Option X0}{osl:Array (Option Z0)}{kV doc pm cdv ct:Z0}(X:K.In h)(G:h.Ns mainGlobals mg)(a:W.nsIn K mainGlobals x=some (some (.ref f)))(l:K.lookup f=some ⟨oc,od,.func (W.fnOf x x (Z0O st) (Z0y st) (Z0d st) .none kV doc pm an cdv ct),osl⟩)(c:W.codeIn K cdv x=true)(k:W.keepIn K (.ref f)=true):Fn K mg x st:=
 ⟨f,_,Z9f l c k,W.mg_of X G a⟩
theorem Z1w{h:N0}{x:V0}{i:Int}{t:Tok}(X:K.In h)(G:h.Ns mainGlobals mg)(a:W.nsIn K mainGlobals x=some (some (.int i t))):Cst mg x (.int i):=⟨_,W.mg_of X G a,_,rfl⟩
theorem Z7R{h:N0}{x:V0}{a:X0}(X:K.In h)(G:h.Ns mainGlobals mg)(e:W.nsIn K mainGlobals x=some (some (.ref a))):Cst mg x (.ref a):=⟨_,W.mg_of X G e,rfl⟩
theorem Z4E{h:N0}{x y:V0}{t:Tok}(X:K.In h)(G:h.Ns mainGlobals mg)(a:W.nsIn K mainGlobals x=some (some (.str y t))):Cst mg x (.str y):=⟨_,W.mg_of X G a,_,rfl⟩
theorem Has.of{x:V0}{st:Stmt}{N ps:List V0}{k:Nat}{sp:Sp}(F:Fn K mg x st)(S:Z0j N ps (Z0d st))(hb:∀(kV doc pm:Z0)(an:Option X0)(cdv ct:Z0)(us:List Z0),us.length=ps.length->bindArgs (W.fnOf x x (Z0O st) (Z0y st) (Z0d st) .none kV doc pm an cdv ct) ⟨us,[]⟩=pure (ps.zip us))(len:∀vs H Q E,sp vs H Q E->vs.length=ps.length)(hbody:∀(f:X0)(cdv:Z0)(A:O0)(outer:List Env)(s:U0)(H:Hp)(vs:List V)(Q:VK)(E:XK),Room k (A.deeper (envOfC x (Z0d st) s.heap.objs.size f cdv))->sp vs H Q E->∃t,PSs (cxOf CX0 P w K mg base N x (Z0d st) f cdv A outer s H E).nox (Z0y st) t/\t {nx:=λ _ H'=>Q .non H',rt:=Q} (Z3u N vs) H):Has P w K mg base (k+1) x ps sp:=by
 obtain⟨f,fd,F,m⟩:=F.ex;exact⟨f,fd,F.ok S len λ cdv=>hbody f cdv,F.binds hb,F.kp,m⟩
theorem Has.mono{j k:Nat}{x:V0}{ps:List V0}{sp:Sp}(h:Has P w K mg base j x ps sp)(hk:j<=k):Has P w K mg base k x ps sp:=
 let⟨f,fd,F,b,kp,m⟩:=h.ex;⟨f,fd,F.mono hk,b,kp,m⟩
end
section
variable{X:Cx}{x:V0}{ps:List V0}{sp:Sp}{k j:Nat}{e:Expr}{es:List Expr}{t:TA}{p pos:Pos}{v:V}
theorem J5P(h:Has X.prog X.w X.K X.mg X.base k x ps sp)(hr:Room j X.A)(hk:k<=j)(hg:Gl X x)(ha:PA X (e::es) t)(hdb:(x==("__debug__":V0))=false:=by decide)(he:starEach (e::es) X.env=(false,eval e X.env)::starEach es X.env:=by rfl)(hpl:(backTo pos (starEach es X.env)).any (·.1)=false:=by rfl):PE X (.Call (.Name x p) (e::es) [] pos) (J0E sp [] E0 t):=by
 obtain⟨f,fd,F,b,kp,m⟩:=h.ex;exact Z2o F (hr.mono hk) hg m kp b .nil Z4H ha hdb he hpl
theorem Z0C(h:Cst X.mg x v)(hg:Gl X x)(hd:(x==("__debug__":V0))=false:=by decide):PE X (.Name x pos) (tC v):=by
 obtain⟨u,m,r⟩:=h.ex;exact Z4B hg m r hd
def J9a(i j:Int):Prop:=j≠0/\-(2^64)<j/\j<2^64
theorem J3k:OpR X (binaryOp .FloorDiv) (rI J9a λ i j=>.int (i.fdiv j)):=opI λ i j _ _ _ _ _ hc q=>floordiv_int hc.1 q (.inl (PyProof.noPylong_of_log2 (by
 have h:j.natAbs<2^64:=by have:=hc.2;omega
 have:=(Nat.log2_lt (by have:=hc.1;omega)).mpr h;omega)))
end
theorem Z0x{H:Hp}{p:X0}(h:H p=none)(o:HO):Same H (upd H p o):=λ b u q=>by rw[Z0h (Z0g q h)];exact q
theorem Z7n{K:y0}{a:X0}{g:TG}{tb:TS}{D:Ends}{σ:St}{H:Hp}(xs:List V)(Pv:Nat->St->Hp->Prop)(h0:Pv 0 σ H)(hl:∀i σ H,i<=xs.length->Pv i σ H->SqL K H a xs)(hs:∀i x σ H,xs[i]?=some x->Pv i σ H->g x σ H λ σ2 H2=>tb {D with nx:=Pv (i+1),ct:=Pv (i+1),bk:=D.nx} σ2 H2)(hd:∀σ H,Pv xs.length σ H->D.nx σ H):Z9q (Itl K a) g tb D σ H:=
 J2n Pv h0 hl hs hd
theorem J2E{K:y0}{a:X0}{g:TG}{tb:TS}{D:Ends}{σ:St}{H:Hp}(xs:List V)(Pv:Nat->St->Hp->Prop)(h0:Pv 0 σ H)(hl:∀i σ H,i<=xs.length->Pv i σ H->SqT K H a xs)(hs:∀i x σ H,xs[i]?=some x->Pv i σ H->g x σ H λ σ2 H2=>tb {D with nx:=Pv (i+1),ct:=Pv (i+1),bk:=D.nx} σ2 H2)(hd:∀σ H,Pv xs.length σ H->D.nx σ H):Z9q (Itt K a) g tb D σ H:=
 J5k Pv h0 hl hs hd
theorem Z9s{lo:Int}{n:Nat}{g:TG}{tb:TS}{D:Ends}{σ:St}{H:Hp}(Pv:Nat->St->Hp->Prop)(h0:Pv 0 σ H)(hs:∀i σ H,i<n->Pv i σ H->g (.int (lo+i)) σ H λ σ2 H2=>tb {D with nx:=Pv (i+1),ct:=Pv (i+1),bk:=D.nx} σ2 H2)(hd:∀σ H,Pv n σ H->D.nx σ H):Z9q (Itr lo n) g tb D σ H:=
 J1V Pv h0 hs hd
theorem SqL.same{K:y0}{H H':Hp}{a:X0}{xs:List V}(h:SqL K H a xs)(s:Same H H'):SqL K H' a xs:=s.seq h
theorem SqT.same{K:y0}{H H':Hp}{a:X0}{xs:List V}(h:SqT K H a xs)(e:Same H H'):SqT K H' a xs:=by
 rcases h with(h|⟨o,h⟩)|h
 ·exact .inl (.inl (e _ _ h))
 ·exact .inl (.inr ⟨o,e _ _ h⟩)
 ·exact .inr h
section
variable{K:y0}{H:Hp}{Q:VK}{i:Int}{b:Bool}{x:V0}
theorem Z4n{v:V}{n:String}{t:Z0}{k:Bool}(ht:∀t',TyOf K H v t'->t'=t)(h0:TyOf K H v t)(hk:W.kitOne K t (.type n)=some k):rIsi K [v,.ty n] H Q=Q (.bl k) H:=by
 refine propext ⟨λ h=>?_,λ h=>⟨_,_,_,_,_,rfl,rfl,h0,hk,h⟩⟩;obtain⟨x,c,cv,t',b',e,hc,ty,k',q⟩:=h;cases e;cases hc;rw[ht _ ty,hk]at k';cases k';exact q
theorem J4x:rIsi K [.int i,.ty "int"] H Q=Q (.bl true) H:=Z4n (λ _ h=>by cases h;rfl) (.int i) Z3U
theorem J4e:rIsi K [.int i,.ty "bool"] H Q=Q (.bl false) H:=Z4n (λ _ h=>by cases h;rfl) (.int i) Z5X
theorem Z6o:W.kitOne K (.type "bool") (.type "int")=some true:=by with_unfolding_all rfl
theorem J5A:rIsi K [.bl b,.ty "int"] H Q=Q (.bl true) H:=Z4n (λ _ h=>by cases h;rfl) (.bl b) Z6o
theorem J4y:rIsi K [.bl b,.ty "bool"] H Q=Q (.bl true) H:=Z4n (λ _ h=>by cases h;rfl) (.bl b) Z3U
theorem J4G:rIsi K [.str x,.ty "str"] H Q=Q (.bl true) H:=Z4n (λ _ h=>by cases h;rfl) (.str x) Z3U
end
theorem ix0{α:Type}{x:α}{xs:List α}:atI (x::xs) 0=some x:=by simp[atI,ixN]
theorem ix1{α:Type}{x y:α}{xs:List α}:atI (x::y::xs) 1=some y:=by
 have:((1:Int)<(xs.length:Int)+1+1):=by lia
 simp[atI,ixN,this]
theorem J9i{CX:CXT}{P:Program}{w:M0}{K:y0}{mg:V0->Option Z0}{base:N0}{N:List V0}{qual:V0}{scope:Scope}{f:X0}{cd:Z0}{A:O0}{outer:List Env}{s:U0}{H:Hp}{E:XK}:(cxOf CX P w K mg base N qual scope f cd A outer s H E).K=K:=rfl
theorem J3I:bootBuiltins "len"=some (.builtin "len"):=by decide+kernel
theorem J6d:bootBuiltins "max"=some (.builtin "max"):=by decide+kernel
theorem J3R:bootBuiltins "sum"=some (.builtin "sum"):=by decide+kernel
theorem J5O:bootBuiltins "all"=some (.builtin "all"):=by decide+kernel
theorem J5T:bootBuiltins "any"=some (.builtin "any"):=by decide+kernel
theorem J6m:bootBuiltins "int"=some (.type "int"):=by decide+kernel
theorem J5g:bootBuiltins "list"=some (.type "list"):=by decide+kernel
theorem Z1I:bootBuiltins "tuple"=some (.type "tuple"):=by decide+kernel
theorem Z7y:bootBuiltins "reversed"=some (.type "reversed"):=by decide+kernel
section
variable{a c:Int}{b e:Bool}{x y:V0}
theorem J9t:scal (.non) (.non)=true:=rfl
theorem J9K:scal (.non) (.int a)=true:=rfl
theorem J9E:scal (.int a) (.non)=true:=rfl
theorem J9A:scal (.non) (.bl b)=true:=rfl
theorem J9x:scal (.bl b) (.non)=true:=rfl
theorem J9w:scal (.non) (.str x)=true:=rfl
theorem J9J:scal (.str x) (.non)=true:=rfl
theorem J9C:scal (.int a) (.int c)=true:=rfl
theorem J9F:scal (.bl b) (.bl e)=true:=rfl
theorem J9v:scal (.str x) (.str y)=true:=rfl
theorem J9u:scal (.int a) (.str x)=true:=rfl
theorem J9y:scal (.str x) (.int a)=true:=rfl
theorem J9B:scal (.bl b) (.str x)=true:=rfl
theorem J9H:scal (.str x) (.bl b)=true:=rfl
end
def Z4p(H H':Hp):Prop:=∀b o,(∀xs,o≠.lst xs)->H b=some o->H' b=some o
theorem Z6N{te:TE}{Q:VK}{H:Hp}{D:X0}{n:Nat}{σ0:St}(v0:Option V)(rest:St)(R:Nat->V->Hp->Prop)(mono:∀j v H1 H2,R j v H1->Z4p H1 H2->R j v H2)(e0:σ0=v0::rest)(hD:H D=none)(hz:n<=sizeLine)(he:∀i,i<n->∀H1 (K':VK),Same H H1->(∀v H2,Same H1 H2->R i v H2->K' v H2)->te (some (.int i)::rest) H1 K')(hQ:∀vs H',Same H H'->H' D=some (.lst vs)->vs.length=n->(∀j v,vs[j]?=some v->R j v H')->Q (.ref D) H'):Z3P (Itr 0 n) (Z3o 0) Z3i te D Q σ0 (upd H D (.lst [])):=by
 refine⟨λ i m σ' H'=>m=n-i/\i<=n/\(∃v,σ'=v::rest)/\Same H H'/\∃vs,H' D=some (.lst vs)/\vs.length=i/\∀j v,vs[j]?=some v->R j v H',⟨n,by simp,qb4 _,⟨v0,e0⟩,Z0x hD _,[],Z0e,rfl,λ j v h=>by simp at h⟩,?_⟩;rintro i m σ' H' ⟨rfl,hi,⟨v,rfl⟩,s1,vs,hv,hl,hr⟩;by_cases hlt:i<n
 ·refine .inr ⟨hlt,λ σ2 H2=>(∃v,σ2=v::rest)/\Same H H2/\∃vs,H2 D=some (.lst vs)/\vs.length=i+1/\∀j v,vs[j]?=some v->R j v H2,λ σ2 H2 ⟨a,b,c⟩=>⟨n-(i+1),qR,rfl,hlt,a,b,c⟩,λ x H2 hx=>?_⟩;obtain⟨e1,e2⟩:=hx;subst e1 e2;unfold Z3o Z3i;rw[List.set_cons_zero,Int.zero_add];refine iteT (he i hlt H2 _ s1 λ v H3 s3 hR=>?_);have h3:=s3 _ _ hv;have sn:Z4p H3 (upd H3 D (.lst (vs++[v]))):=λ b o ho hb=>by
   rw[Z0h (λ z=>by rw[z,h3]at hb;cases hb;exact ho _ rfl)];exact hb
  refine⟨vs,h3,qR,⟨_,rfl⟩,λ b o hb=>?_,_,Z0e,by rw[qa5,hl];rfl,λ j u hj=>?_⟩
  ·rw[Z0h (Z0g hb hD)];exact s3 _ _ (s1 _ _ hb)
  ·by_cases hj':j<vs.length
   ·rw[qh5 hj']at hj;exact mono j u _ _ (mono j u _ _ (hr j u hj) λ b o _ hb=>s3 b o hb) sn
   ·rw[qh4 qR]at hj;have ej:j-vs.length=0:=by
     have:=(qb7.mp hj).1;simp at this;lia
    rw[ej]at hj;cases hj;have:j=i:=by lia
    subst this;exact mono _ _ _ _ hR sn
 ·have e:i=n:=by lia
  subst e;exact .inl ⟨qa0 _,hQ vs H' s1 hv hl hr⟩
theorem Z4Y{J:It}{te:TE}{Q:VK}{H:Hp}{D:X0}{ys:List V}{σ0:St}(v0:Option V)(rest:St)(R:Nat->V->Hp->Prop)(mono:∀j v H1 H2,R j v H1->Z4p H1 H2->R j v H2)(e0:σ0=v0::rest)(hD:H D=none)(hz:ys.length<=sizeLine)(j1:∀i H1,Same H H1->i<ys.length->J.go i H1)(j2:∀i H1 x H2,Same H H1->J.yld i H1 x H2->H2=H1/\ys[i]?=some x)(j3:∀H1,Same H H1->J.stop ys.length H1)(he:∀i y,ys[i]?=some y->∀H1 (K':VK),Same H H1->(∀v H2,Same H1 H2->R i v H2->K' v H2)->te (some y::rest) H1 K')(hQ:∀vs H',Same H H'->H' D=some (.lst vs)->vs.length=ys.length->(∀j v,vs[j]?=some v->R j v H')->Q (.ref D) H'):Z3P J (Z3o 0) Z3i te D Q σ0 (upd H D (.lst [])):=by
 refine⟨λ i m σ' H'=>m=ys.length-i/\i<=ys.length/\(∃v,σ'=v::rest)/\Same H H'/\∃vs,H' D=some (.lst vs)/\vs.length=i/\∀j v,vs[j]?=some v->R j v H',⟨ys.length,by simp,qb4 _,⟨v0,e0⟩,Z0x hD _,[],Z0e,rfl,λ j v h=>by simp at h⟩,?_⟩;rintro i m σ' H' ⟨rfl,hi,⟨v,rfl⟩,s1,vs,hv,hl,hr⟩;by_cases hlt:i<ys.length
 ·refine .inr ⟨j1 i H' s1 hlt,λ σ2 H2=>(∃v,σ2=v::rest)/\Same H H2/\∃vs,H2 D=some (.lst vs)/\vs.length=i+1/\∀j v,vs[j]?=some v->R j v H2,λ σ2 H2 ⟨a,b,c⟩=>⟨ys.length-(i+1),qR,rfl,hlt,a,b,c⟩,λ x H2 hx=>?_⟩;obtain⟨e1,e2⟩:=j2 i H' x H2 s1 hx;subst e1;unfold Z3o Z3i;rw[List.set_cons_zero];refine iteT (he i x e2 H2 _ s1 λ v H3 s3 hR=>?_);have h3:=s3 _ _ hv;have sn:Z4p H3 (upd H3 D (.lst (vs++[v]))):=λ b o ho hb=>by
   rw[Z0h (λ z=>by rw[z,h3]at hb;cases hb;exact ho _ rfl)];exact hb
  refine⟨vs,h3,qR,⟨_,rfl⟩,λ b o hb=>?_,_,Z0e,by rw[qa5,hl];rfl,λ j u hj=>?_⟩
  ·rw[Z0h (Z0g hb hD)];exact s3 _ _ (s1 _ _ hb)
  ·by_cases hj':j<vs.length
   ·rw[qh5 hj']at hj;exact mono j u _ _ (mono j u _ _ (hr j u hj) λ b o _ hb=>s3 b o hb) sn
   ·rw[qh4 qR]at hj;have ej:j-vs.length=0:=by
     have:=(qb7.mp hj).1;simp at this;lia
    rw[ej]at hj;cases hj;have:j=i:=by lia
    subst this;exact mono _ _ _ _ hR sn
 ·have e:i=ys.length:=by lia
  subst e;exact .inl ⟨j3 _ s1,hQ vs H' s1 hv hl hr⟩
theorem Z1T{K:y0}{a:X0}{te:TE}{Q:VK}{H:Hp}{D:X0}{ys:List V}{σ0:St}(v0:Option V)(rest:St)(R:Nat->V->Hp->Prop)(mono:∀j v H1 H2,R j v H1->Z4p H1 H2->R j v H2)(e0:σ0=v0::rest)(hD:H D=none)(hz:ys.length<=sizeLine)(ha:∀H1,Same H H1->SqT K H1 a ys)(he:∀i y,ys[i]?=some y->∀H1 (K':VK),Same H H1->(∀v H2,Same H1 H2->R i v H2->K' v H2)->te (some y::rest) H1 K')(hQ:∀vs H',Same H H'->H' D=some (.lst vs)->vs.length=ys.length->(∀j v,vs[j]?=some v->R j v H')->Q (.ref D) H'):Z3P (Itt K a) (Z3o 0) Z3i te D Q σ0 (upd H D (.lst [])):=
 Z4Y v0 rest R mono e0 hD hz (λ i H1 s h=>⟨ys,ys[i],ha H1 s,qb5 h⟩) (λ i H1 x H2 s h=>⟨h.1,h.2 ys (ha H1 s)⟩) (λ H1 s=>⟨ys,ha H1 s,qa0 _⟩) he hQ
theorem Z1v{K:y0}{a:X0}{te:TE}{Q:VK}{H:Hp}{D:X0}{ys:List V}{σ0:St}(v0:Option V)(rest:St)(R:Nat->V->Hp->Prop)(mono:∀j v H1 H2,R j v H1->Z4p H1 H2->R j v H2)(e0:σ0=v0::rest)(hD:H D=none)(hz:ys.length<=sizeLine)(ha:∀H1,Same H H1->SqL K H1 a ys)(he:∀i y,ys[i]?=some y->∀H1 (K':VK),Same H H1->(∀v H2,Same H1 H2->R i v H2->K' v H2)->te (some y::rest) H1 K')(hQ:∀vs H',Same H H'->H' D=some (.lst vs)->vs.length=ys.length->(∀j v,vs[j]?=some v->R j v H')->Q (.ref D) H'):Z3P (Itl K a) (Z3o 0) Z3i te D Q σ0 (upd H D (.lst [])):=
 Z4Y v0 rest R mono e0 hD hz (λ i H1 s h=>⟨ys,ys[i],ha H1 s,qb5 h⟩) (λ i H1 x H2 s h=>⟨h.1,h.2 ys (ha H1 s)⟩) (λ H1 s=>⟨ys,ha H1 s,qa0 _⟩) he hQ
def IsK(K:y0):Prop:=True
def Ob(H:Hp)(a:X0)(o:HO):Prop:=H a=some o
section
variable{K:y0}{H H' H1 H2:Hp}{a b p:X0}{o u:HO}{xs ys:List V}
theorem J8J:Ob H a o=(H a=some o):=rfl
grind_pattern J8J=>Ob H a o
theorem Ob.new:Ob (upd H p o) p o:=Z0e
grind_pattern Ob.new=>upd H p o
theorem Ob.same(h:Ob H a o)(s:Same H H'):Ob H' a o:=s _ _ h
grind_pattern Ob.same=>Ob H a o,Same H H'
theorem g_su(h:H p=none):Same H (upd H p o):=Z0x h o
grind_pattern g_su=>upd H p o
theorem g_st(h:Same H H1)(h':Same H1 H2):Same H H2:=h.trans h'
grind_pattern g_st=>Same H H1,Same H1 H2
theorem g_sT(h:SqT K H a xs)(s:Same H H'):SqT K H' a xs:=h.same s
grind_pattern g_sT=>SqT K H a xs,Same H H'
theorem g_sL(h:SqL K H a xs)(s:Same H H'):SqL K H' a xs:=h.same s
grind_pattern g_sL=>SqL K H a xs,Same H H'
theorem g_nT(k:IsK K)(h:Ob H a (.tup xs)):SqT K H a xs:=SqT.of h
grind_pattern g_nT=>IsK K,Ob H a (.tup xs)
theorem g_nL(k:IsK K)(h:Ob H a (.lst xs)):SqL K H a xs:=SqL.of h
grind_pattern g_nL=>IsK K,Ob H a (.lst xs)
end
structure Z7v(K:y0)(mg:V0->Option Z0)(cn:V0)(C:X0):Prop where
 mgC:mg cn=some (.ref C)
 cl:Cls K C
 mks:W.makesIn K C=true
 kp:W.keepIn K (.ref C)=true
structure MFn(K:y0)(C:X0)(m qual:V0)(st:Stmt):Prop where
 ex:∃f fd,Fun K m qual st f fd/\Meth K C m f
structure HasM(P:Program)(w:M0)(K:y0)(mg:V0->Option Z0)(base:N0)(k:Nat)(C:X0)(m:V0)(ps:List V0)(sp:Sp):Prop where
 ex:∃f fd,FnOk P w K mg base CX0 k f fd ps sp/\Binds K fd ps []/\Meth K C m f
section
variable{P:Program}{w:M0}{K:y0}{mg:V0->Option Z0}{base:N0}
theorem Z7a{h:N0}{cn:V0}{C:X0}(X:K.In h)(G:h.Ns mainGlobals mg)(a:W.nsIn K mainGlobals cn=some (some (.ref C)))(pg:W.plainGet K C Str.empty=true)(hd:W.hasDictIn K C=true)(po:W.plainOver K C=true)(sa:W.findIn K (.ref C) "__setattr__"=some (some (.builtin "object.__setattr__")))(mk:W.makesIn K C=true)(kp:W.keepIn K (.ref C)=true):Z7v K mg cn C:=⟨W.mg_of X G a,⟨pg,hd,po,sa⟩,mk,kp⟩
theorem Z0w{C:X0}{f:V0}(h:W.findIn K (.ref C) f=some none):NoAttr K C f:=h
theorem Z1h{C:X0}{m qual:V0}{st:Stmt}{f:X0}{oc:Z0}{od an:Option X0}{osl:Array (Option Z0)}{kV doc pm cdv ct:Z0}(a:W.findIn K (.ref C) m=some (some (.ref f)))(i:W.isFn K (.ref f)=true)(l:K.lookup f=some ⟨oc,od,.func (W.fnOf m qual (Z0O st) (Z0y st) (Z0d st) .none kV doc pm an cdv ct),osl⟩)(c:W.codeIn K cdv qual=true)(k:W.keepIn K (.ref f)=true):MFn K C m qual st:=
 ⟨f,_,Z9f l c k,⟨a,i,k⟩⟩
theorem HasM.of{C:X0}{m qual:V0}{st:Stmt}{N ps:List V0}{k:Nat}{sp:Sp}(F:MFn K C m qual st)(S:Z0j N ps (Z0d st))(hb:∀(kV doc pm:Z0)(an:Option X0)(cdv ct:Z0)(us:List Z0),us.length=ps.length->bindArgs (W.fnOf m qual (Z0O st) (Z0y st) (Z0d st) .none kV doc pm an cdv ct) ⟨us,[]⟩=pure (ps.zip us))(len:∀vs H Q E,sp vs H Q E->vs.length=ps.length)(hbody:∀(f:X0)(cdv:Z0)(A:O0)(outer:List Env)(s:U0)(H:Hp)(vs:List V)(Q:VK)(E:XK),Room k (A.deeper (envOfC qual (Z0d st) s.heap.objs.size f cdv))->sp vs H Q E->∃t,PSs (cxOf CX0 P w K mg base N qual (Z0d st) f cdv A outer s H E).nox (Z0y st) t/\t {nx:=λ _ H'=>Q .non H',rt:=Q} (Z3u N vs) H):HasM P w K mg base (k+1) C m ps sp:=by
 obtain⟨f,fd,F,mm⟩:=F.ex;exact⟨f,fd,F.ok S len λ cdv=>hbody f cdv,F.binds hb,mm⟩
end
section
variable{X:Cx}{x m:V0}{ps:List V0}{sp:Sp}{k j:Nat}{C:X0}{o e:Expr}{es:List Expr}{ta:TE}{t:TA}{p pos apos:Pos}
theorem J4T{pl:Sem Bool}(he:PE X o ta)(c:Cls X.K C)(h:HasM X.prog X.w X.K X.mg X.base k C m ps sp)(hr:Room j X.A)(hk:k<=j)(ha:PA X (e::es) t)(hst:starEach (e::es) X.env=(false,eval e X.env)::starEach es X.env:=by rfl)(hpl:(backTo pos (starEach es X.env)).any (·.1)=false:=by rfl)(ht:eval (.Call (.Attribute o m apos) (e::es) [] pos) X.env=(do
   let ov<-eval o X.env
   standAt apos.atName
   let(f,first)<-holding [ov] (getMethod ov m pl)
   callWith pos f first (backTo pos (starEach (e::es) X.env)) (backToKw pos (keywordEach [] X.env))):=by rfl):PE X (.Call (.Attribute o m apos) (e::es) [] pos) (J0j C m sp [] E0 ta t):=by
 obtain⟨f,fd,F,b,mm⟩:=h.ex;exact J0V he c mm F (hr.mono hk) b .nil Z4H ha hst hpl ht
theorem J2f{pl:Sem Bool}(he:PE X o ta)(c:Cls X.K C)(h:HasM X.prog X.w X.K X.mg X.base k C m ps sp)(hr:Room j X.A)(hk:k<=j)(ht:eval (.Call (.Attribute o m apos) [] [] pos) X.env=(do
   let ov<-eval o X.env
   standAt apos.atName
   let(f,first)<-holding [ov] (getMethod ov m pl)
   callWith pos f first (backTo pos (starEach [] X.env)) (backToKw pos (keywordEach [] X.env))):=by rfl):PE X (.Call (.Attribute o m apos) [] [] pos) (J0j C m sp [] E0 ta tNil):=by
 obtain⟨f,fd,F,b,mm⟩:=h.ex;exact Z8k he c mm F (hr.mono hk) b .nil Z4H ht
theorem Z1G(c:Z7v X.K X.mg x C)(h:HasM X.prog X.w X.K X.mg X.base k C "__init__" ps sp)(hr:Room j X.A)(hk:k+1<=j)(hg:Gl X x)(ha:PA X (e::es) t)(hdb:(x==("__debug__":V0))=false:=by decide)(he:starEach (e::es) X.env=(false,eval e X.env)::starEach es X.env:=by rfl)(hpl:(backTo pos (starEach es X.env)).any (·.1)=false:=by rfl):PE X (.Call (.Name x p) (e::es) [] pos) (J5e C sp [] E0 t):=by
 obtain⟨f,fd,F,b,mm⟩:=h.ex;exact J4v ⟨c.mks,mm.at_,mm.fn,c.kp⟩ F (hr.mono hk) hg c.mgC b .nil Z4H ha hdb he hpl
end
def mono(t:TE):TE:=λ σ H Q=>∃Q0:VK,t σ H Q0/\∀v H',Q0 v H'->Q v H'
section
variable{X:Cx}{o e value:Expr}{f:V0}{pos pos' tpos:Pos}{ta tv:TE}
theorem PE.mono{t:TE}(h:PE X e t):PE X e (mono t):=λ pins s σ H Q I ⟨Q0,h0,i⟩=>thn (h pins s σ H Q0 I h0) λ u s1 ⟨x,H1,I1,r,q⟩=>⟨x,H1,I1,r,i _ _ q⟩
def opt2(o:Option (Option V))(R:V->Prop):Prop:=match o with
 |some (some v)=>R v
 |_=>False
theorem J6z{v:V}{R:V->Prop}:opt2 (some (some v)) R=R v:=rfl
def Z9u(i:Nat):TE:=λ σ H Q=>opt2 σ[i]? λ v=>Q v H
theorem J7V{i:Nat}{σ:St}{H:Hp}{Q:VK}:Z9u i σ H Q=opt2 σ[i]? λ v=>Q v H:=rfl
theorem J5l{o:Option (Option V)}{R:V->Prop}(h:opt2 o R):∃v,o=some (some v)/\R v:=by
 unfold opt2 at h;split at h
 ·exact⟨_,rfl,h⟩
 ·cases h
theorem J4o{i:Nat}{x:V0}(hN:X.N[i]?=some x)(hv:Vis X.env.scope x)(hd:(x==("__debug__":V0))=false:=by decide)(hcd:(x==("__classdict__":V0))=false:=by decide):PE X (.Name x pos) (Z9u i):=
 λ pins s σ H Q I h=>J4h hN hv hd hcd pins s σ H Q I (J5l h)
theorem pvF(i:Nat){x:V0}(hN:X.N[i]?=some x:=by rfl)(hv:Vis X.env.scope x:=by first|exact Or.inl rfl|exact Or.inr (Or.inl rfl)|exact Or.inr (Or.inr rfl))(hd:(x==("__debug__":V0))=false:=by decide)(hcd:(x==("__classdict__":V0))=false:=by decide):PE X (.Name x pos) (Z9u i):=J4o hN hv hd hcd
inductive Fld(K:y0)(f:V0)(a:X0)(H:Hp)(Q:VK):Prop
 |mk(C dx:X0)(fs:List (V0×V))(h:H a=some (.ins C dx fs))(cl:Cls K C)(n:NoAttr K C f)(v:V)(l:fs.lookup f=some v)(q:Q v H):Fld K f a H Q
def J2j(K:y0)(ta:TE)(f:V0):TE:=λ σ H Q=>ta σ H λ x H1=>∃a,x=.ref a/\Fld K f a H1 Q
theorem J7u{K:y0}{σ:St}{H:Hp}{Q:VK}:J2j K ta f σ H Q=ta σ H λ x H1=>∃a,x=.ref a/\Fld K f a H1 Q:=rfl
theorem Z3y(he:PE X e ta)(hb:attributeBase e f X.env (eval e X.env)=eval e X.env):PE X (.Attribute e f pos) (J2j X.K ta f):=by
 intro pins s σ H Q I h;refine J4p hb (thn (he pins s σ H _ I h) λ u s1 hz=>?_);obtain⟨x,H1,I1,rx,a,ex,hz⟩:=hz;obtain⟨C,dx,fs,ea,c,n,v,l,q⟩:=hz;subst ex;cases(show u=Value.ref a from rx);exact Z4V I1 ea c n l λ u' s2 I2 ru=>⟨v,H1,I2,ru,q⟩
inductive SFld(K:y0)(f:V0)(a:X0)(H:Hp)(R:X0->X0->List (V0×V)->Prop):Prop
 |mk(C dx:X0)(fs:List (V0×V))(h:H a=some (.ins C dx fs))(cl:Cls K C)(n:NoAttr K C f)(l:fs.length<1000)(r:R C dx fs):SFld K f a H R
def J6k(K:y0)(ta tv:TE)(f:V0):TS:=λ D σ H=>tv σ H λ y H1=>ta σ H1 λ x H2=>∃a,x=.ref a/\SFld K f a H2 λ C dx fs=>D.nx σ (upd H2 a (.ins C dx (putF f y fs)))
theorem J7v{K:y0}{D:Ends}{σ:St}{H:Hp}:J6k K ta tv f D σ H=tv σ H λ y H1=>ta σ H1 λ x H2=>∃a,x=.ref a/\SFld K f a H2 λ C dx fs=>D.nx σ (upd H2 a (.ins C dx (putF f y fs))):=rfl
theorem Z0R(ha:PE X o ta)(hv:PE X value tv)(hs:swapsWith value (some (.Attribute o f pos')) pos.line X.env=pure false):PS X (.Assign [.Attribute o f pos'] value pos) (J6k X.K ta tv f):=by
 intro pins s σ H D I h;refine plainObj_wpAny_Assign_Attribute (thn (hv pins s σ H _ I h) λ u s1 ⟨y,H1,I1,ry,q⟩=>thn (ha pins s1 σ H1 _ I1 q) λ ov s2 hz=>?_) hs;obtain⟨x,H2,I2,rx,a,ex,hz⟩:=hz;obtain⟨C,dx,fs,ea,c,n,l,q2⟩:=hz;subst ex;cases(show ov=Value.ref a from rx);exact Z4K I2 ea c n l ry λ s3 I3=>⟨σ,_,I3,q2⟩
inductive FldC(K:y0)(f:V0)(a:X0)(H:Hp)(R:X0->V->Prop):Prop
 |mk(C dx:X0)(fs:List (V0×V))(h:H a=some (.ins C dx fs))(cl:Cls K C)(n:NoAttr K C f)(v:V)(l:fs.lookup f=some v)(q:R C v):FldC K f a H R
inductive InsC(C a:X0)(H:Hp)(R:X0->List (V0×V)->Prop):Prop
 |mk(dx:X0)(fs:List (V0×V))(h:H a=some (.ins C dx fs))(l:fs.length<1000)(r:R dx fs):InsC C a H R
def Z8t(K:y0)(ta tv:TE)(rd:V->V->Hp->VK->Prop)(f:V0):TS:=λ D σ H=>ta σ H λ x H1=>∃a,x=.ref a/\FldC K f a H1 λ C v=>
 tv σ H1 λ y H2=>rd v y H2 λ z H3=>InsC C a H3 λ dx' fs'=>D.nx σ (upd H3 a (.ins C dx' (putF f z fs')))
theorem J4R{K:y0}{rd:V->V->Hp->VK->Prop}{D:Ends}{σ:St}{H:Hp}:Z8t K ta tv rd f D σ H=ta σ H λ x H1=>∃a,x=.ref a/\FldC K f a H1 λ C v=>tv σ H1 λ y H2=>rd v y H2 λ z H3=>InsC C a H3 λ dx' fs'=>D.nx σ (upd H3 a (.ins C dx' (putF f z fs'))):=rfl
theorem Z4S{op:Operator}{rd:V->V->Hp->VK->Prop}(ha:PE X o ta)(hv:PE X value tv)(hop:InOp X op rd):PS X (.AugAssign (.Attribute o f tpos) op value pos) (Z8t X.K ta tv rd f):=by
 intro pins s σ H D I h;refine wpAny_AugAssign_AttributeAny (thn (ha pins s σ H _ I h) λ ov s1 hz=>?_);obtain⟨x,H1,I1,rx,a,ex,hz⟩:=hz;obtain⟨C,dx,fs,ea,c,n,v,l,q⟩:=hz;subst ex;cases(show ov=Value.ref a from rx);refine Z4V I1 ea c n l λ u s2 I2 ru=>thn (hv pins s2 σ H1 _ I2 q) λ w3 s3 ⟨y,H2,I3,ry,q3⟩=>thn (hop pins s3 σ H2 v y u w3 _ I3 ru ry q3) λ w4 s4 ⟨z,H3,I4,rz,hz⟩=>?_;obtain⟨dx',fs',ea',l',q4⟩:=hz;exact Z4K I4 ea' c n l' rz λ s5 I5=>⟨σ,_,I5,q4⟩
inductive Z9b(C:X0)(m:V0)(a:X0)(H:Hp)(R:Prop):Prop
 |mk(dx:X0)(fs:List (V0×V))(h:H a=some (.ins C dx fs))(l:fs.lookup m=none)(r:R):Z9b C m a H R
def Z7g(C:X0)(m:V0)(sp:Sp)(dvs:List V)(E:XK)(ta:TE)(t:TA):TE:=λ σ H Q=>ta σ H λ x H1=>∃a,x=.ref a/\Z9b C m a H1 (t σ H1 λ vs H2=>sp (x::(vs++dvs)) H2 Q E)
theorem J7g{C:X0}{m:V0}{sp:Sp}{dvs:List V}{E:XK}{t:TA}{σ:St}{H:Hp}{Q:VK}:Z7g C m sp dvs E ta t σ H Q=ta σ H λ x H1=>∃a,x=.ref a/\Z9b C m a H1 (t σ H1 λ vs H2=>sp (x::(vs++dvs)) H2 Q E):=rfl
variable{C:X0}{m:V0}{ps:List V0}{sp:Sp}{k j:Nat}{es:List Expr}{t:TA}{apos:Pos}
theorem Z0T{pl:Sem Bool}(he:PE X o ta)(c:Cls X.K C)(h:HasM X.prog X.w X.K X.mg X.base k C m ps sp)(hr:Room j X.A)(hk:k<=j)(ha:PA X (e::es) t)(hst:starEach (e::es) X.env=(false,eval e X.env)::starEach es X.env:=by rfl)(hpl:(backTo pos (starEach es X.env)).any (·.1)=false:=by rfl)(ht:eval (.Call (.Attribute o m apos) (e::es) [] pos) X.env=(do
   let ov<-eval o X.env
   standAt apos.atName
   let(f,first)<-holding [ov] (getMethod ov m pl)
   callWith pos f first (backTo pos (starEach (e::es) X.env)) (backToKw pos (keywordEach [] X.env))):=by rfl):PE X (.Call (.Attribute o m apos) (e::es) [] pos) (Z7g C m sp [] E0 ta t):=
 λ pins s σ H Q I h'=>J4T he.mono c h hr hk ha hst hpl ht pins s σ H Q I ⟨_,h',λ _ _ ⟨a,e,dx,fs,h,l,r⟩=>⟨a,dx,fs,e,h,l,r⟩⟩
theorem Z0u{pl:Sem Bool}(he:PE X o ta)(c:Cls X.K C)(h:HasM X.prog X.w X.K X.mg X.base k C m ps sp)(hr:Room j X.A)(hk:k<=j)(ht:eval (.Call (.Attribute o m apos) [] [] pos) X.env=(do
   let ov<-eval o X.env
   standAt apos.atName
   let(f,first)<-holding [ov] (getMethod ov m pl)
   callWith pos f first (backTo pos (starEach [] X.env)) (backToKw pos (keywordEach [] X.env))):=by rfl):PE X (.Call (.Attribute o m apos) [] [] pos) (Z7g C m sp [] E0 ta tNil):=
 λ pins s σ H Q I h'=>J2f he.mono c h hr hk ht pins s σ H Q I ⟨_,h',λ _ _ ⟨a,e,dx,fs,h,l,r⟩=>⟨a,dx,fs,e,h,l,r⟩⟩
inductive IxT(K:y0)(p:X0)(i:Int)(H:Hp)(Q:VK):Prop
 |mk(xs:List V)(h:SqT K H p xs)(v:V)(l:atI xs i=some v)(q:Q v H):IxT K p i H Q
inductive IxL(K:y0)(p:X0)(i:Int)(H:Hp)(Q:VK):Prop
 |mk(xs:List V)(h:SqL K H p xs)(v:V)(l:atI xs i=some v)(q:Q v H):IxL K p i H Q
def Z7z(K:y0):R2:=λ x y H Q=>∃p,x=.ref p/\∃i,y=.int i/\IxT K p i H Q
def J2d(K:y0):R2:=λ x y H Q=>∃p,x=.ref p/\∃i,y=.int i/\IxL K p i H Q
theorem J7z{K:y0}{x y:V}{H:Hp}{Q:VK}:Z7z K x y H Q=∃p,x=.ref p/\∃i,y=.int i/\IxT K p i H Q:=rfl
theorem J7J{K:y0}{x y:V}{H:Hp}{Q:VK}:J2d K x y H Q=∃p,x=.ref p/\∃i,y=.int i/\IxL K p i H Q:=rfl
theorem Z9T:IxR X (Z7z X.K):=λ value slice pins s σ H x y v u Q I rx ry ⟨p,e1,i,e2,xs,h,z,l,q⟩ hs=>J7f value slice pins s σ H x y v u Q I rx ry ⟨p,xs,i,z,e1,e2,h,l,q⟩ hs
theorem J3d:IxR X (J2d X.K):=λ value slice pins s σ H x y v u Q I rx ry ⟨p,e1,i,e2,xs,h,z,l,q⟩ hs=>J5n value slice pins s σ H x y v u Q I rx ry ⟨p,xs,i,z,e1,e2,h,l,q⟩ hs
inductive SetL(p:X0)(k:Int)(H:Hp)(R:List V->Nat->Prop):Prop
 |mk(xs:List V)(h:H p=some (.lst xs))(j:Nat)(l:ixN xs.length k=some j)(r:R xs j):SetL p k H R
def J3M:TSet:=λ o i v H Q=>∃p,o=.ref p/\∃k,i=.int k/\SetL p k H λ xs j=>Q (upd H p (.lst (xs.set j v)))
theorem J6r{o i v:V}{H:Hp}{Q:Hp->Prop}:J3M o i v H Q=∃p,o=.ref p/\∃k,i=.int k/\SetL p k H λ xs j=>Q (upd H p (.lst (xs.set j v))):=rfl
theorem Z3m:PSet X J3M:=λ pins s σ H o i v ov iv u Q I ro ri rv ⟨p,e1,k,e2,xs,h,j,l,q⟩=>J3p pins s σ H o i v ov iv u Q I ro ri rv ⟨p,xs,k,j,e1,e2,h,l,q⟩
inductive HdOf(vs:List V)(R:V->List V->Prop):Prop
 |mk(v:V)(r:List V)(e:vs=v::r)(q:R v r):HdOf vs R
inductive J4H(K:y0)(a:X0)(n:Nat)(H:Hp)(R:List V->Prop):Prop
 |mk(xs:List V)(h:SqT K H a xs)(l:xs.length=n)(q:R xs):J4H K a n H R
def J4z(K:y0)(n:Nat)(t:TGs):TG:=λ v σ H Q=>∃a,v=.ref a/\J4H K a n H λ xs=>t xs σ H Q
theorem J7R{K:y0}{n:Nat}{t:TGs}{v:V}{σ:St}{H:Hp}{Q:St->Hp->Prop}:J4z K n t v σ H Q=∃a,v=.ref a/\J4H K a n H λ xs=>t xs σ H Q:=rfl
def J3K(t:TG)(u:TGs):TGs:=λ vs σ H Q=>HdOf vs λ v r=>t v σ H λ σ' H'=>u r σ' H' Q
theorem J6x{t:TG}{u:TGs}{vs:List V}{σ:St}{H:Hp}{Q:St->Hp->Prop}:J3K t u vs σ H Q=HdOf vs λ v r=>t v σ H λ σ' H'=>u r σ' H' Q:=rfl
theorem Z0q{e:Expr}{es:List Expr}{t:TG}{u:TGs}(h1:PG X e t)(h2:PGs X es u)(hs:(assignEach (e::es) X.env).map (·.2)=assign e X.env::(assignEach es X.env).map (·.2):=by rfl):PGs X (e::es) (J3K t u):=
 λ pins s σ H vs us Q I r ⟨v,w,e,q⟩=>J3x h1 h2 hs pins s σ H vs us Q I r ⟨v,w,e,q⟩
theorem Z1n{es:List Expr}{k:Nat}{t:TGs}{n:Nat}(hc:X.calm=true)(h:PGs X es t)(hn:(assignEach es X.env).length=n:=by rfl)(hst:(assignEach es X.env).findIdx? (·.1)=none:=by rfl):PG X (.Tuple es k pos) (J4z X.K n t):=
 λ pins s σ H v u Q I r ⟨a,e,xs,h',l,q⟩=>J6E hc h hn hst pins s σ H v u Q I r ⟨a,xs,e,h',l,q⟩
end
@[elab_as_elim] theorem el0 {α:Type} {motive:List α->Prop} (us:List α) (h:us.length=0) (k:motive []):motive us:=match us,h with|[],_=>k
@[elab_as_elim] theorem el1 {α:Type} {motive:List α->Prop} (us:List α) (h:us.length=1) (k:∀a:α,motive [a]):motive us:=match us,h with|[a],_=>k a
@[elab_as_elim] theorem el2 {α:Type} {motive:List α->Prop} (us:List α) (h:us.length=2) (k:∀a b:α,motive [a,b]):motive us:=match us,h with|[a,b],_=>k a b
@[elab_as_elim] theorem el3 {α:Type} {motive:List α->Prop} (us:List α) (h:us.length=3) (k:∀a b c:α,motive [a,b,c]):motive us:=match us,h with|[a,b,c],_=>k a b c
@[elab_as_elim] theorem el4 {α:Type} {motive:List α->Prop} (us:List α) (h:us.length=4) (k:∀a b c d:α,motive [a,b,c,d]):motive us:=match us,h with|[a,b,c,d],_=>k a b c d
@[elab_as_elim] theorem el5 {α:Type} {motive:List α->Prop} (us:List α) (h:us.length=5) (k:∀a b c d e:α,motive [a,b,c,d,e]):motive us:=match us,h with|[a,b,c,d,e],_=>k a b c d e
@[elab_as_elim] theorem el6 {α:Type} {motive:List α->Prop} (us:List α) (h:us.length=6) (k:∀a b c d e f:α,motive [a,b,c,d,e,f]):motive us:=match us,h with|[a,b,c,d,e,f],_=>k a b c d e f
@[elab_as_elim] theorem el7 {α:Type} {motive:List α->Prop} (us:List α) (h:us.length=7) (k:∀a b c d e f g:α,motive [a,b,c,d,e,f,g]):motive us:=match us,h with|[a,b,c,d,e,f,g],_=>k a b c d e f g
theorem seq2{t1 t2:TS}{D:Ends}{σ:St}{H:Hp}(h:∀u1,u1=t2->t1 {D with nx:=u1 D} σ H):(tSeq t1 t2) D σ H:=h _ rfl
theorem seq3{t1 t2 t3:TS}{D:Ends}{σ:St}{H:Hp}(h:∀u2,u2=t3->∀u1,u1=tSeq t2 u2->t1 {D with nx:=u1 D} σ H):(tSeq t1 (tSeq t2 t3)) D σ H:=h _ rfl _ rfl
theorem seq4{t1 t2 t3 t4:TS}{D:Ends}{σ:St}{H:Hp}(h:∀u3,u3=t4->∀u2,u2=tSeq t3 u3->∀u1,u1=tSeq t2 u2->t1 {D with nx:=u1 D} σ H):(tSeq t1 (tSeq t2 (tSeq t3 t4))) D σ H:=h _ rfl _ rfl _ rfl
theorem seq5{t1 t2 t3 t4 t5:TS}{D:Ends}{σ:St}{H:Hp}(h:∀u4,u4=t5->∀u3,u3=tSeq t4 u4->∀u2,u2=tSeq t3 u3->∀u1,u1=tSeq t2 u2->t1 {D with nx:=u1 D} σ H):(tSeq t1 (tSeq t2 (tSeq t3 (tSeq t4 t5)))) D σ H:=h _ rfl _ rfl _ rfl _ rfl
theorem seq6{t1 t2 t3 t4 t5 t6:TS}{D:Ends}{σ:St}{H:Hp}(h:∀u5,u5=t6->∀u4,u4=tSeq t5 u5->∀u3,u3=tSeq t4 u4->∀u2,u2=tSeq t3 u3->∀u1,u1=tSeq t2 u2->t1 {D with nx:=u1 D} σ H):(tSeq t1 (tSeq t2 (tSeq t3 (tSeq t4 (tSeq t5 t6))))) D σ H:=h _ rfl _ rfl _ rfl _ rfl _ rfl
theorem seq7{t1 t2 t3 t4 t5 t6 t7:TS}{D:Ends}{σ:St}{H:Hp}(h:∀u6,u6=t7->∀u5,u5=tSeq t6 u6->∀u4,u4=tSeq t5 u5->∀u3,u3=tSeq t4 u4->∀u2,u2=tSeq t3 u3->∀u1,u1=tSeq t2 u2->t1 {D with nx:=u1 D} σ H):(tSeq t1 (tSeq t2 (tSeq t3 (tSeq t4 (tSeq t5 (tSeq t6 t7)))))) D σ H:=h _ rfl _ rfl _ rfl _ rfl _ rfl _ rfl
theorem J8U{t1 t2 t3 t4 t5 t6 t7 t8 t9 t10:TS}{D:Ends}{σ:St}{H:Hp}(h:∀u9,u9=t10->∀u8,u8=tSeq t9 u9->∀u7,u7=tSeq t8 u8->∀u6,u6=tSeq t7 u7->∀u5,u5=tSeq t6 u6->∀u4,u4=tSeq t5 u5->∀u3,u3=tSeq t4 u4->∀u2,u2=tSeq t3 u3->∀u1,u1=tSeq t2 u2->t1 {D with nx:=u1 D} σ H):(tSeq t1 (tSeq t2 (tSeq t3 (tSeq t4 (tSeq t5 (tSeq t6 (tSeq t7 (tSeq t8 (tSeq t9 t10))))))))) D σ H:=h _ rfl _ rfl _ rfl _ rfl _ rfl _ rfl _ rfl _ rfl _ rfl
theorem J8W{t1 t2 t3 t4 t5 t6 t7 t8 t9 t10 t11 t12:TS}{D:Ends}{σ:St}{H:Hp}(h:∀u11,u11=t12->∀u10,u10=tSeq t11 u11->∀u9,u9=tSeq t10 u10->∀u8,u8=tSeq t9 u9->∀u7,u7=tSeq t8 u8->∀u6,u6=tSeq t7 u7->∀u5,u5=tSeq t6 u6->∀u4,u4=tSeq t5 u5->∀u3,u3=tSeq t4 u4->∀u2,u2=tSeq t3 u3->∀u1,u1=tSeq t2 u2->t1 {D with nx:=u1 D} σ H):(tSeq t1 (tSeq t2 (tSeq t3 (tSeq t4 (tSeq t5 (tSeq t6 (tSeq t7 (tSeq t8 (tSeq t9 (tSeq t10 (tSeq t11 t12))))))))))) D σ H:=h _ rfl _ rfl _ rfl _ rfl _ rfl _ rfl _ rfl _ rfl _ rfl _ rfl _ rfl
theorem J7c{t1 t2 t3 t4 t5 t6 t7 t8 t9 t10 t11 t12 t13:TS}{D:Ends}{σ:St}{H:Hp}(h:∀u12,u12=t13->∀u11,u11=tSeq t12 u12->∀u10,u10=tSeq t11 u11->∀u9,u9=tSeq t10 u10->∀u8,u8=tSeq t9 u9->∀u7,u7=tSeq t8 u8->∀u6,u6=tSeq t7 u7->∀u5,u5=tSeq t6 u6->∀u4,u4=tSeq t5 u5->∀u3,u3=tSeq t4 u4->∀u2,u2=tSeq t3 u3->∀u1,u1=tSeq t2 u2->t1 {D with nx:=u1 D} σ H):(tSeq t1 (tSeq t2 (tSeq t3 (tSeq t4 (tSeq t5 (tSeq t6 (tSeq t7 (tSeq t8 (tSeq t9 (tSeq t10 (tSeq t11 (tSeq t12 t13)))))))))))) D σ H:=h _ rfl _ rfl _ rfl _ rfl _ rfl _ rfl _ rfl _ rfl _ rfl _ rfl _ rfl _ rfl
def New(H:Hp)(o:HO)(R:X0->Hp->Prop):Prop:=∀p,H p=none->R p (upd H p o)
theorem New.of{H:Hp}{o:HO}{R:X0->Hp->Prop}(h:∀p H',H p=none->Same H H'->H' p=some o->R p H'):New H o R:=λ p hp=>h p _ hp (Z0x hp o) Z0e
theorem J8B{t:TA}{σ:St}{H:Hp}{Q:VK}:tTup t σ H Q=(t σ H λ xs H1=>xs.length<=sizeLine/\New H1 (.tup xs) λ p H2=>Q (.ref p) H2):=rfl
theorem J8j{t:TA}{σ:St}{H:Hp}{Q:VK}:tLst t σ H Q=(t σ H λ xs H1=>xs.length<=sizeLine/\New H1 (.lst xs) λ p H2=>Q (.ref p) H2):=rfl
theorem J8S{K:y0}{x:V}{lo:Option Int}{hi:Option Int}{H:Hp}{Q:VK}:rSlL K x lo hi H Q=(∃a xs,x=.ref a/\SqL K H a xs/\New H (.lst (cutV xs lo hi)) λ p H2=>Q (.ref p) H2):=rfl
theorem J8Z{x:V}{y:V}{H:Hp}{Q:VK}:rCat x y H Q=(∃l b xs zs,x=.ref l/\y=.ref b/\H l=some (.lst xs)/\H b=some (.lst zs)/\xs.length+zs.length<=sizeLine/\New H (.lst (xs++zs)) λ p H2=>Q (.ref p) H2):=rfl
theorem qA(K)(i:Nat){x:V0}(hN:X.N[i]?=some x:=by rfl)(hv:Vis X.env.scope x:=by first|exact Or.inl rfl|exact Or.inr (Or.inl rfl)|exact Or.inr (Or.inr rfl))(hd:(x==("__debug__":V0))=false:=by decide)(hc:(x==("__classdict__":V0))=false:=by decide)(h:IxR X (Z7z K):=by exact Z9T):PE X (.Subscript (.Name x p) (.Constant (.int j) l p2) p3) (tOp (Z7z K) (Z9u i) (tC (.int j))):=Z2Y h (pvF i hN hv hd hc) Z0f (λ _ _=>rfl)
theorem qC(K)(ha:PE X a ta)(hb:PE X b tb)(h:IxR X (Z7z K):=by exact Z9T)(hs:Z7t b:=by exact λ _ _=>rfl):PE X (.Subscript a b pos) (tOp (Z7z K) ta tb):=Z2Y h ha hb hs
theorem qD(K)(ha:PE X a ta)(hb:PE X b tb)(h:IxR X (J2d K):=by exact J3d)(hs:Z7t b:=by exact λ _ _=>rfl):PE X (.Subscript a b pos) (tOp (J2d K) ta tb):=Z2Y h ha hb hs
theorem qF{x:V0}(h:Has X.prog X.w X.K X.mg X.base k x ps sp)(hr:Room j X.A)(ha:PA X (e::es) t)(hk:k<=j:=by first|decide|lia)(hg:Gl X x:=by exact rfl)(hd:(x==("__debug__":V0))=false:=by decide)(he:starEach (e::es) X.env=(false,eval e X.env)::starEach es X.env:=by rfl)(hl:(backTo pos (starEach es X.env)).any (·.1)=false:=by rfl):PE X (.Call (.Name x p) (e::es) [] pos) (J0E sp [] E0 t):=J5P h hr hk hg ha hd he hl
theorem qG(i:Nat){x:V0}{e:Expr}{te:TE}{pos':Pos}(hN:X.N.Nodup)(he:PE X e te)(hi:X.N[i]?=some x:=by exact rfl)(hx:Loc X.env.scope x:=by exact Or.inl rfl)(hs:swapsWith e (some (.Name x pos')) pos.line X.env=pure false:=by rfl)(hf:X.fn x=true\/X.env.scope.names.lookup x=some .local:=by first|exact .inl rfl|exact .inr rfl|assumption):PS X (.Assign [.Name x pos'] e pos) (tAsg te (Z3o i)):=J7b hN hi hx he hs hf
theorem qH(i:Nat){x:V0}(hN:X.N.Nodup)(hi:X.N[i]?=some x:=by exact rfl)(hx:Loc X.env.scope x:=by exact Or.inl rfl)(hf:X.fn x=true\/X.env.scope.names.lookup x=some .local:=by first|exact .inl rfl|exact .inr rfl|assumption):PG X (.Name x pos) (Z3o i):=Z7u hN hi hx hf
theorem qI(a:PE X e te)(h:starEach [e] X.env=(false,eval e X.env)::starEach [] X.env:=by rfl):PA X [e] (Z4y te tNil):=Z0o a Z1F h
theorem qJ(a:PE X e te)(b:PE X f tf)(h:starEach [e,f] X.env=(false,eval e X.env)::starEach [f] X.env:=by rfl)(h2:starEach [f] X.env=(false,eval f X.env)::starEach [] X.env:=by rfl):PA X [e,f] (Z4y te (Z4y tf tNil)):=Z0o a (qI b h2) h
theorem qK(a:PE X e te)(b:PE X f tf)(c:PE X g tg)(h:starEach [e,f,g] X.env=(false,eval e X.env)::starEach [f,g] X.env:=by rfl)(h2:starEach [f,g] X.env=(false,eval f X.env)::starEach [g] X.env:=by rfl)(h3:starEach [g] X.env=(false,eval g X.env)::starEach [] X.env:=by rfl):PA X [e,f,g] (Z4y te (Z4y tf (Z4y tg tNil))):=Z0o a (qJ b c h2 h3) h
theorem qL(hm:X.mg "len"=none)(ha:PA X (e::es) t)(hg:Gl X "len":=by exact rfl)(he:starEach (e::es) X.env=(false,eval e X.env)::starEach es X.env:=by rfl)(hl:(backTo pos (starEach es X.env)).any (·.1)=false:=by rfl):PE X (.Call (.Name "len" p) (e::es) [] pos) (tCB (λ xs H Q=>∃p ys,xs=[.ref p]/\(SqL X.K H p ys\/SqT X.K H p ys)/\Q (.int ys.length) H) t):=Z0P Z7j hg hm J3I ha (he:=he) (hpl:=hl)
theorem qM{op:CmpOp}{r:R2}(ho:OpR X (compareOp op) r)(ha:PE X a ta)(hb:PE X b tb)(h:op≠.In:=by decide)(h2:op≠.NotIn:=by decide):PT X (.Compare a [op] [b] pos) (J2h (tOp r ta tb)):=Z1a ho ha hb (Z4i _ h h2)
theorem qN{i j p pos}:PE X (.UnaryOp .USub (.Constant (.int i) j p) pos) (tUn (rU λ i=>.int (-i)) (tC (.int i))):=J8u J7l Z0f
theorem qO(i:Nat){x f:V0}(hN:X.N[i]?=some x:=by rfl)(hv:Vis X.env.scope x:=by first|exact Or.inl rfl|exact Or.inr (Or.inl rfl)|exact Or.inr (Or.inr rfl))(hd:(x==("__debug__":V0))=false:=by decide)(hc:(x==("__classdict__":V0))=false:=by decide)(hb:attributeBase (.Name x p) f X.env (eval (.Name x p) X.env)=eval (.Name x p) X.env:=by exact rfl):PE X (.Attribute (.Name x p) f pos) (J2j X.K (Z9u i) f):=Z3y (pvF i hN hv hd hc) hb
end L2
end
section
namespace TM
open PySem L2 P15
structure Kp(H H':Hp):Prop where
 t:∀b xs,H b=some (.tup xs)->H' b=some (.tup xs)
 z:∀b o xs,H b=some (.frz o (.tup xs))->H' b=some (.frz o (.tup xs))
 i:∀b C dx f fs,H b=some (.ins C dx (f::fs))->H' b=some (.ins C dx (f::fs))
theorem Kp.of{H H':Hp}(s:Same H H'):Kp H H':=⟨λ _ _ h=>s _ _ h,λ _ _ _ h=>s _ _ h,λ _ _ _ _ _ h=>s _ _ h⟩
structure Kt(H H':Hp):Prop where
 t:∀b xs,H b=some (.tup xs)->H' b=some (.tup xs)
 z:∀b o xs,H b=some (.frz o (.tup xs))->H' b=some (.frz o (.tup xs))
theorem Kp.kt{H H':Hp}(k:Kp H H'):Kt H H':=⟨k.t,k.z⟩
theorem Kt.put{H:Hp}{a:X0}{u:HO}(o:HO)(h:H a=some u)(n1:∀xs,u≠.tup xs)(n2:∀o xs,u≠.frz o (.tup xs)):Kt H (upd H a o):=by
 refine⟨λ b xs e=>?_,λ b o xs e=>?_⟩
 ·rw[Z0h (λ z=>by rw[z,h]at e;cases e;exact n1 _ rfl)];exact e
 ·rw[Z0h (λ z=>by rw[z,h]at e;cases e;exact n2 _ _ rfl)];exact e
theorem SqT.kt{K:y0}{H H':Hp}{a:X0}{xs:List V}(h:SqT K H a xs)(k:Kt H H'):SqT K H' a xs:=by
 rcases h with(h|⟨o,h⟩)|h
 ·exact .inl (.inl (k.t _ _ h))
 ·exact .inl (.inr ⟨o,k.z _ _ _ h⟩)
 ·exact .inr h
theorem SqT.kp{K:y0}{H H':Hp}{a:X0}{xs:List V}(h:SqT K H a xs)(k:Kp H H'):SqT K H' a xs:=SqT.kt h k.kt
mutual
inductive RT(K:y0)(H:Hp):V->PyData->Prop
 |non:RT K H .non .none
 |bl(b:Bool):RT K H (.bl b) (.bool b)
 |int(i:Int):RT K H (.int i) (.int i)
 |str(x:V0):RT K H (.str x) (.str x)
 |tup{a:X0}{xs:List V}{ds:List PyData}:SqT K H a xs->RTs K H xs ds->RT K H (.ref a) (.tuple ds)
inductive RTs(K:y0)(H:Hp):List V->List PyData->Prop
 |nil:RTs K H [] []
 |cons{v:V}{vs:List V}{d:PyData}{ds:List PyData}:RT K H v d->RTs K H vs ds->RTs K H (v::vs) (d::ds)
end
section
variable{K:y0}{H H':Hp}
mutual
theorem RT.rd:∀{v:V}{d:PyData},RT K H v d->RdD K H v d
 |_,_,.non=>.non
 |_,_,.bl b=>.bl b
 |_,_,.int i=>.int i
 |_,_,.str x=>.str x
 |_,_,.tup hq hs=>.tup hq (RTs.rd hs)
theorem RTs.rd:∀{vs:List V}{ds:List PyData},RTs K H vs ds->RdDs K H vs ds
 |_,_,.nil=>.nil
 |_,_,.cons h hs=>.cons (RT.rd h) (RTs.rd hs)
end
mutual
theorem RT.kt(k:Kt H H'):∀{v:V}{d:PyData},RT K H v d->RT K H' v d
 |_,_,.non=>.non
 |_,_,.bl b=>.bl b
 |_,_,.int i=>.int i
 |_,_,.str x=>.str x
 |_,_,.tup hq hs=>.tup (SqT.kt hq k) (RTs.kt k hs)
theorem RTs.kt(k:Kt H H'):∀{vs:List V}{ds:List PyData},RTs K H vs ds->RTs K H' vs ds
 |_,_,.nil=>.nil
 |_,_,.cons h hs=>.cons (RT.kt k h) (RTs.kt k hs)
end
theorem RT.kp{v:V}{d:PyData}(k:Kp H H')(h:RT K H v d):RT K H' v d:=h.kt k.kt
theorem RTs.kp{vs:List V}{ds:List PyData}(k:Kp H H')(h:RTs K H vs ds):RTs K H' vs ds:=h.kt k.kt
theorem RT.same{v:V}{d:PyData}(h:RT K H v d)(s:Same H H'):RT K H' v d:=h.kp (Kp.of s)
theorem RTs.same{vs:List V}{ds:List PyData}(h:RTs K H vs ds)(s:Same H H'):RTs K H' vs ds:=h.kp (Kp.of s)
theorem RT.tup_inv{v:V}{ds:List PyData}(h:RT K H v (.tuple ds)):∃a xs,v=.ref a/\SqT K H a xs/\RTs K H xs ds:=by
 cases h with
 |tup a b=>exact⟨_,_,rfl,a,b⟩
theorem RTs.inv{vs:List V}{d:PyData}{ds:List PyData}(h:RTs K H vs (d::ds)):∃v r,vs=v::r/\RT K H v d/\RTs K H r ds:=by
 cases h with
 |cons a b=>exact⟨_,_,rfl,a,b⟩
theorem RTs.length:∀{vs:List V}{ds:List PyData},RTs K H vs ds->vs.length=ds.length
 |_,_,.nil=>rfl
 |_,_,.cons _ hs=>congrArg (·+1) (RTs.length hs)
theorem RTs.app:∀{xs ys:List V}{ds es:List PyData},RTs K H xs ds->RTs K H ys es->RTs K H (xs++ys) (ds++es)
 |_,_,_,_,.nil,h=>h
 |_,_,_,_,.cons a b,h=>.cons a (RTs.app b h)
theorem RTs.at:∀{vs:List V}{ds:List PyData}{i:Nat}{v:V},RTs K H vs ds->vs[i]?=some v->∃d,ds[i]?=some d/\RT K H v d
 |_,_,0,_,.cons a _,h=>by cases h;exact⟨_,rfl,a⟩
 |_,_,i+1,_,.cons _ b,h=>by have:=RTs.at (i:=i) b h;exact this
end
noncomputable def lbV:Lb->V
 | .non=>.non| .int i=>.int i| .bl b=>.bl b| .str x=>.str x
theorem J3f{K:y0}{H:Hp}:∀l:Lb,RT K H (lbV l) l.d
 | .non=>.non| .int i=>.int i| .bl b=>.bl b| .str x=>.str x
theorem Z5S:∀ts:List Tm,(dats ts).length=ts.length
 |[]=>rfl
 |_::ts=>congrArg (·+1) (Z5S ts)
noncomputable def fsT(f:Fm)(l:Lb)(inn sh:X0)(d m:Nat):List (V0×V):=[("form",.str f.s),("label",lbV l),("inner",.ref inn),("deep",.int d),("many",.int m),("shape",.ref sh)]
mutual
inductive TO(K:y0)(C:X0)(H:Hp):V->Tm->Prop
 |mk{a dx inn sh:X0}{f:Fm}{l:Lb}{ps:List Tm}{vs ws:List V}:H a=some (.ins C dx (fsT f l inn sh (1+maxD ps) (1+sumS ps)))->SqT K H inn vs->TOs K C H vs ps->SqT K H sh ws->RTs K H ws (Z0L f l (dats ps))->TO K C H (.ref a) (.mk f l ps)
inductive TOs(K:y0)(C:X0)(H:Hp):List V->List Tm->Prop
 |nil:TOs K C H [] []
 |cons{v:V}{vs:List V}{t:Tm}{ts:List Tm}:TO K C H v t->TOs K C H vs ts->TOs K C H (v::vs) (t::ts)
end
section
variable{K:y0}{C:X0}{H H':Hp}
mutual
theorem TO.kp(k:Kp H H'):∀{v:V}{t:Tm},TO K C H v t->TO K C H' v t
 |_,_,.mk a b c d e=>.mk (k.i _ _ _ _ _ a) (SqT.kp b k) (TOs.kp k c) (SqT.kp d k) (e.kp k)
theorem TOs.kp(k:Kp H H'):∀{vs:List V}{ts:List Tm},TOs K C H vs ts->TOs K C H' vs ts
 |_,_,.nil=>.nil
 |_,_,.cons h hs=>.cons (TO.kp k h) (TOs.kp k hs)
end
theorem TO.inv{v:V}{t:Tm}(h:TO K C H v t):∃a dx inn sh vs ws,v=.ref a/\H a=some (.ins C dx (fsT t.f t.l inn sh t.depth t.size))/\SqT K H inn vs/\TOs K C H vs t.ps/\SqT K H sh ws/\RTs K H ws (Z0L t.f t.l (dats t.ps)):=by
 cases h with
 |mk a b c d e=>exact⟨_,_,_,_,_,_,rfl,a,b,c,d,e⟩
theorem TOs.length:∀{vs:List V}{ts:List Tm},TOs K C H vs ts->vs.length=ts.length
 |_,_,.nil=>rfl
 |_,_,.cons _ hs=>congrArg (·+1) (TOs.length hs)
theorem TOs.app:∀{xs ys:List V}{ts us:List Tm},TOs K C H xs ts->TOs K C H ys us->TOs K C H (xs++ys) (ts++us)
 |_,_,_,_,.nil,h=>h
 |_,_,_,_,.cons a b,h=>.cons a (TOs.app b h)
theorem TOs.at:∀{vs:List V}{ts:List Tm}{i:Nat}{v:V},TOs K C H vs ts->vs[i]?=some v->∃t,ts[i]?=some t/\TO K C H v t
 |_,_,0,_,.cons a _,h=>by cases h;exact⟨_,rfl,a⟩
 |_,_,i+1,_,.cons _ b,h=>by have:=TOs.at (i:=i) b h;exact this
end
def SX(x:X0)(H H':Hp):Prop:=∀b o,b≠x->H b=some o->H' b=some o
theorem nq{H:Hp}{a b:X0}{x y:Option HO}(h:H a=x)(q:H b=y)(n:x≠y:=by(intro z;cases z)):b≠a:=λ z=>n (by rw[<-h,<-q,z])
theorem SX.of{x:X0}{H H':Hp}(s:Same H H'):SX x H H':=λ b o _ h=>s b o h
theorem SX.trans{x:X0}{H H' H'':Hp}(a:SX x H H')(b:SX x H' H''):SX x H H'':=λ c o n h=>b c o n (a c o n h)
theorem SX.put{x:X0}{H:Hp}(o:HO):SX x H (upd H x o):=λ b u n h=>by rw[Z0h n];exact h
theorem SX.kp{x C dx:X0}{H H':Hp}(s:SX x H H')(hx:H x=some (.ins C dx [])):Kp H H':=
 ⟨λ b xs h=>s b _ (λ z=>by rw[z,hx]at h;cases h) h,λ b o xs h=>s b _ (λ z=>by rw[z,hx]at h;cases h) h,λ b C dx f fs h=>s b _ (λ z=>by rw[z,hx]at h;cases h) h⟩
theorem SX.sqL{K:y0}{x C dx a:X0}{fs:List (V0×V)}{xs:List V}{H H':Hp}(s:SX x H H')(hx:H x=some (.ins C dx fs))(h:SqL K H a xs):SqL K H' a xs:=by
 rcases h with(h|⟨o,h⟩)|h
 ·exact .inl (.inl (s _ _ (λ z=>by rw[z,hx]at h;cases h) h))
 ·exact .inl (.inr ⟨o,s _ _ (λ z=>by rw[z,hx]at h;cases h) h⟩)
 ·exact .inr h
theorem SX.sqT{K:y0}{x C dx a:X0}{fs:List (V0×V)}{xs:List V}{H H':Hp}(s:SX x H H')(hx:H x=some (.ins C dx fs))(h:SqT K H a xs):SqT K H' a xs:=by
 rcases h with(h|⟨o,h⟩)|h
 ·exact .inl (.inl (s _ _ (λ z=>by rw[z,hx]at h;cases h) h))
 ·exact .inl (.inr ⟨o,s _ _ (λ z=>by rw[z,hx]at h;cases h) h⟩)
 ·exact .inr h
theorem Z7U:∀{ts:List Tm}{t:Tm},t∈ts->t.depth<=maxD ts
 |u::ts,t,h=>by
  show t.depth<=max u.depth (maxD ts);rcases(qa2.mp h)with rfl|h
  ·exact Nat.le_max_left _ _
  ·exact qa1 (Z7U h) (Nat.le_max_right _ _)
theorem J1F{n:Nat}:∀{ts:List Tm},(∀t∈ts,t.depth<=n)->maxD ts<=n
 |[],_=>qb4 _
 |t::ts,h=>Nat.max_le.mpr ⟨h t qa6,J1F λ u hu=>h u (qa8 _ hu)⟩
end TM
end
section
namespace L2
open PySem PySem.Spec PyProof.Rows
def Itv(K:y0)(l:X0)(n:Nat):It:=
 ⟨λ i H=>i<n/\∃xs,SqL K H l xs/\xs.length=n,λ i H v H'=>H'=H/\∀xs,SqL K H l xs->xs[n-1-i]?=some v,λ i _=>i=n⟩
theorem J2I{P:Program}{w:M0}{K:y0}{tg:Expr}(l it:X0)(n:Nat):Turn P w K tg (Itv K l n) [it] it (λ i h=>h.IsRevIter it l ((n:Int)-1-(i:Int)))where
 mem:=by simp
 obj:=λ i h st b hb=>by
  cases qa7.mp hb;obtain⟨o,e,c,d⟩:=st;exact⟨o,e,λ v z=>by rw[d]at z;cases z⟩
 keep:=λ i h h' st k=>st.at λ o e=>k it (qa7.mpr rfl) o e
 item:=by
  intro X hP hw hK hc i pins s σ H E I hf st hg;subst hP hw hK;obtain⟨hi,xs,hq,hn⟩:=hg;obtain⟨its,rv,p,hz⟩:=I.list hq;have hx:xs[n-1-i]?=some (xs[n-1-i]'(by lia)):=qb5 qR;obtain⟨u,hu,ru⟩:=rv.get hx;obtain⟨f0,f1,f2,f3,f4,f5⟩:=hf it (qa7.mpr rfl);have e0:(n:Int)-1-(i:Int)=((n-1-i:Nat):Int):=by lia
  have e2:((n-1-i:Nat):Int)-1=(n:Int)-1-((i+1:Nat):Int):=by lia
  have st0:=st;rw[e0]at st0;refine wpAny_pyNext_rev_item st0 p.isList (x:=u) (by simpa using hu) λ h' st' sb=>?_;have I1:Inv X pins σ H {s with heap:=h'}:=I.turned (t':=s.toks) (λ b o hb e=>(sb.2 b hb).trans e) f0 f1 f3 f4 f5;rw[e2]at st';obtain⟨o,e,c,d⟩:=id st';exact⟨u,rfl,J1K (s:={s with heap:=h'}) e c d qQ ⟨_,H,I1,ru,⟨rfl,λ ys hy=>by rw[I.list_inj hy hq];exact hx⟩,st',λ b hb=>(hf b hb).1⟩⟩
 done:=by
  intro X hP hw hK hc i pins s σ H E I hf st hg;subst hP hw hK;cases(show i=n from hg);obtain⟨f0,f1,f2,f3,f4,f5⟩:=hf it (qa7.mpr rfl);have st0:=st;rw[show(n:Int)-1-(n:Int)=-1 by lia]at st0;exact wpAny_pyNext_rev_end (I.ok.hd hc) st0 λ h' eb=>⟨rfl,I.turned (t':=s.toks) (λ b o hb e=>eb b o hb e) f0 f1 f3 f4 f5⟩
 self:=λ _ _ _ _ _ st h=>wpAny_pyIter_revIter st h
section
variable{X:Cx}{tg:Expr}
def iRev(K:y0)(ta:TA):TI:=λ σ H R=>ta σ H λ vs H1=>∃a xs,vs=[.ref a]/\SqL K H1 a xs/\R (Itv K a xs.length) H1
theorem J8s{K:y0}{ta:TA}{σ:St}{H:Hp}{R:It->Hp->Prop}:iRev K ta σ H R=ta σ H λ vs H1=>∃a xs,vs=[.ref a]/\SqL K H1 a xs/\R (Itv K a xs.length) H1:=rfl
theorem J6n{a:Expr}{ta:TA}{p pos:Pos}(hg:Gl X "reversed")(hm:X.mg "reversed"=none)(hb:bootBuiltins "reversed"=some (.type "reversed"))(ha:PA X [a] ta)(hs:starEach [a] X.env=[(false,eval a X.env)]:=by rfl):PI X tg (.Call (.Name "reversed" p) [a] [] pos) (iRev X.K ta):=by
 intro pins s σ H R I h;refine Call_ (Z4v I hg hm hb (PyProof.Rows.callWith_type1 (thn (ha pos pins s σ H _ I h) λ us s1 ⟨vs,H1,I1,r1,q1⟩=>?_) hs rfl));obtain⟨l,xs,e,hq,q⟩:=q1;subst e;obtain⟨u,rfl,ru⟩:=r1.one;cases ru;obtain⟨its,rv,pl,hz⟩:=I1.list hq;have hl:=rv.length;refine call_reversed_list pl.isList (wpAny_pyIter_revIter (it:=s1.heap.objs.size) (l:=l) (i:=(its.toArray.size:Int)-1) ⟨_,Heap.get?_push_size _ rfl,rfl,rfl⟩ ?_);refine⟨s1.heap.objs.size,[s1.heap.objs.size],_,_,H1,rfl,I1.kept (t':=s1.toks) λ b o e=>Heap.get?_push_of_some _ e,J2I l _ xs.length,?_,λ b hb=>?_,q⟩
 ·rw[show(xs.length:Int)-1-((0:Nat):Int)=(its.toArray.size:Int)-1 by rw[qb1];lia];exact⟨_,Heap.get?_push_size _ rfl,rfl,rfl⟩
 ·cases qa7.mp hb;exact I1.fpOk (qa0 _) (I1.hok.fresh (qa0 _))
end
theorem Inv.grow{X:Cx}{pins:List (X0×Obj)}{σ:St}{H H':Hp}{s:U0}{h':N0}{t':Nat}{ch:List X0}(I:Inv X pins σ H s)(hch:∀b∈ch,FpOk X pins H b)(k:∀b o,b∉ch->s.heap.get? b=some o->h'.get? b=some o)(old:∀b o,H b=some o->H' b=some o)(new:∀b o,H b=none->H' b=some o->(s.heap.objs.size<=b\/b∈ch)/\ObjOk X.prog X.w H' h' b o):Inv X pins σ H' {s with heap:=h',toks:=t'}:=by
 have off:∀ b o,H b=some o->b∉ch:=λ b o e z=>Z0g e (hch b z).1 rfl;refine I.step (g':=s.gens) (d':=s.drawn) (ch:=ch) (λ b hb=>?_) (λ b o _ _ hb e _=>k b o hb e) (λ b o _ _ hb e _=>⟨o.slots,k b o hb e⟩) (λ b o hb e n=>?_) (λ b o hb e=>⟨o,k b o hb e⟩) (λ b ys e=>old b _ e) (λ b o ys e=>old b _ e)
  (λ b ps e=>⟨#[],by rw[old b _ e];simp⟩) (λ m hm=>hm.at' λ o q=>k _ o (λ z=>(hch _ z).2.1 rfl) q) (λ b o q=>?_) I.bare
 ·obtain⟨f0,f1,f2,f3,f4,f5⟩:=hch b hb;exact⟨f3,f1,f4,f5⟩
 ·cases e':H' b with
  |none=>rfl
  |some o'=>
   rcases(new b o' n e').1 with z|z
   ·exact absurd (Heap.lt_size e) (Nat.not_lt.mpr z)
   ·exact absurd z hb
 ·cases e:H b with
  |none=>exact(new b o e q).2
  |some o'=>
   have:=old b o' e;rw[q]at this;cases this;refine(I.hok b o e).stay (λ c v hc r=>?_) (λ c r=>old c _ r) λ c ys r=>old c _ r;have hc':∃o',H c=some o':=by
    rcases hc with z|z
    ·exact⟨o,by rw[z];exact e⟩
    ·exact⟨_,z⟩
   obtain⟨o',hc'⟩:=hc';exact k c v (off c o' hc') r
theorem apart{n a b:Nat}(h:a≠b):n+a≠n+b:=λ e=>h (Nat.add_left_cancel e)
theorem Z8G{n a:Nat}(h:0<a):n≠n+a:=qb2 (Nat.lt_add_of_pos_right h)
theorem Z4O{l n a:Nat}(h:l<n):l≠n+a:=qb2 (qb0 h (Nat.le_add_right _ _))
theorem zap{n l1 l2:Nat}(h1:l1<n)(h2:l2<n):ZipApart (n+4) (n+2) (n+3) n (n+1) l1 l2:=
 ⟨apart qQ,apart qQ,Z8G qQ,apart qQ,apart qQ,(Z8G qQ).symm,apart qQ,(Z8G qQ).symm,apart qQ,Z8G qQ,Z4O h1,Z4O h1,qb2 h1,Z4O h1,Z4O h2,Z4O h2,qb2 h2,Z4O h2⟩
theorem Z4x(ys:List Int):∀n,n<=ys.length->preSum (λ i=>ys.getD i 0) n=(ys.take n).sum
 |0,_=>by simp[preSum]
 |n+1,h=>by
  rw[preSum,Z4x ys n qR,List.take_succ_eq_append_getElem qR,List.sum_append];simp[qc6,qb5 (show n<ys.length by lia)]
theorem Z8f{X:Cx}(hc:X.calm=true):Z4m X (.builtin "sum") (λ xs H Q=>∃(p:X0)(ys:List Int),xs=[.ref p]/\SqL X.K H p (ys.map V.int)/\Q (.int ys.sum) H):=by
 intro pins s σ H xs us Q I r h;obtain⟨p,ys,rfl,hq,q⟩:=h;obtain⟨u,rfl,ru⟩:=r.one;cases ru;obtain⟨its,rv,pl,hz⟩:=I.list hq;obtain⟨o,ho,_,_,_⟩:=id pl.isList;have hne:p≠s.heap.objs.size:=qb2 (Heap.lt_size ho);have hl:=rv.length;rw[qa3]at hl;refine call_sum_walkG (wpAny_pyIter_list pl.isList ?_);refine⟨s.heap.objs.size,_,_,_,_,_,λ i=>ys.getD i 0,rfl,Walks.list (A:=X.A.in1) (show X.A.in1.handled=none from I.ok.hd hc) _ p hne its.toArray,⟨⟨_,Heap.get?_push_size _ rfl,rfl,rfl⟩,pl.isList.at λ o e=>Heap.get?_push_of_some _ e⟩,λ b hb=>?_,λ i v hv=>?_,λ h' tk t' kk=>?_⟩
 ·have lt:p<s.heap.objs.size:=Heap.lt_size ho;have e:b=s.heap.objs.size\/b=p:=by simpa using hb
  show b<(s.heap.objs.push _).size;rw[Array.size_push];rcases e with e|e
  ·rw[e];exact qc9 _
  ·rw[e];exact qh7 lt
 ·have hv':its[i]?=some v:=by simpa using hv
  have hi:i<ys.length:=by
   have:=(qb7.mp hv').1;lia
  obtain⟨u',e',r'⟩:=rv.get (i:=i) (x:=V.int ys[i]) (by rw[qc0,qb5 hi];rfl);rw[hv']at e';cases e';obtain⟨t,rfl⟩:=(show ∃t,_=Value.int ys[i] t from r');exact⟨t,by simp[qc6,qb5 hi]⟩
 ·have e:preSum (λ i=>ys.getD i 0) its.toArray.size=ys.sum:=by
   rw[qb1,<-hl,Z4x ys _ (qa0 _),qh8]
  refine⟨.int ys.sum,H,I.kept λ b o e=>kk b o (λ z=>?_) (Heap.get?_push_of_some _ e),by rw[e];exact⟨_,rfl⟩,q⟩;have z':b=s.heap.objs.size:=by simpa using z
  exact absurd (Heap.lt_size e) (by rw[z'];exact qb8 _)
section
variable{P:Program}{w:M0}{B:O0}{R:Result->U0->Prop}{it:X0}{fp wr:List X0}{n:Nat}{Y:Nat->Z0->Prop}{St:Nat->N0->Prop}
theorem Z3V:(toString "max"++toString ".loop":String)="max.loop":=by decide
theorem J2N(kw:List (V0×Z0))(W:Walks P w B.in1 it fp wr n Y St)(bt:Nat->Nat->Bool)(hc:CmpOf P w B.in1 .Gt Y bt)(Z:X0)(hZ:Z∉fp):∀(k j:Nat)(s:U0)(u:Z0)(c:Nat),n-(j+1)=k->j+1<=n->St (j+1) s.heap->Y (argBest bt j) u->s.heap.get? Z=some {cls:=.type "list",dict:=none,data:=.seq #[u,u] c,slots:=#[]}->(∀v h' tk,Y (argBest bt (n-1)) v->(∀b o,b∉wr->b≠Z->s.heap.get? b=some o->h'.get? b=some o)->R (.ok (.ret v)) {s with heap:=h',toks:=tk})->codeAny (model P w) B (.builtin "max.loop" ⟨[.ref it,.none,.ref Z],kw⟩) R s:=by
 have hZw:Z∉wr:=λ z=>hZ (W.sub _ z);intro k;induction k with
 |zero=>
  intro j s u c hk hj st hu gZ q;have ej:j+1=n:=Nat.le_antisymm hj (Nat.sub_eq_zero_iff_le.mp hk);refine codeAny_builtin F.entry_max_loop ?_;rw[Around.under_plainId F.plain_max_loop ⟨[.ref it,.none,.ref Z],kw⟩];show wpAny (model P w) B.in1 (seqItems? (.ref Z)>>=_) _ _ s;refine wpAny_bind (wpAny_seqItems gZ rfl ?_);show wpAny (model P w) B.in1 (tryCatch (pyNext (.ref it)) _>>=_) _ _ s;refine wpAny_bind (wpAny_tryCatch (W.done s _ _ (ej▸st) λ h1 tk k1=>?_));have gZ1:=k1 Z _ hZw gZ;show wpAny (model P w) B.in1 (updateSeq Z (λ _=>#[])>>=_) _ _ _;refine wpAny_bind (wpAny_updateSeq gZ1 rfl (wpAny_bind (wpAny_letGo (wpAny_pure ?_))));exact q u _ tk (by rw[<-ej];exact hu) λ b o hb hbZ e=>(Heap.get?_update_other _ _ (Ne.symm hbZ)).trans (k1 b o hb e)
 |succ k ih=>
  intro j s u c hk hj st hu gZ q;have lt:j+1<n:=by omega
  refine codeAny_builtin F.entry_max_loop ?_;rw[Around.under_plainId F.plain_max_loop ⟨[.ref it,.none,.ref Z],kw⟩];show wpAny (model P w) B.in1 (seqItems? (.ref Z)>>=_) _ _ s;refine wpAny_bind (wpAny_seqItems gZ rfl ?_);show wpAny (model P w) B.in1 (tryCatch (pyNext (.ref it)) _>>=_) _ _ s;refine wpAny_bind (wpAny_tryCatch (W.item (j+1) s _ _ lt st λ v h1 tk hv st1 k1=>?_));have gZ1:=k1 Z _ hZw gZ;show wpAny (model P w) B.in1 (tryCatch (holding [v,v] (richCompare .Gt v u>>=_)) _>>=_) _ _ _;refine wpAny_bind (wpAny_tryCatch (wpAny_holding (wpAny_bind (hc (j+1) (argBest bt j) v u _ _ _ hv hu ?_))));refine wpAny_bind (wpAny_holding (wpAny_truthy_bool (wpAny_bind (wpAny_letGo (wpAny_pure ?_)))));cases hbt:bt (j+1) (argBest bt j)with
  |true=>
   rw[if_pos rfl];refine wpAny_bind (wpAny_updateSeq gZ1 rfl (wpAny_bind (wpAny_letGo ?_)));rw[Z3V];refine wpAny_pure ⟨plainId_quiet F.plain_max_loop ⟨[.ref it,.none,.ref Z],kw⟩,ih (j+1) _ v _ (by omega) lt (W.frame _ _ _ st1 λ b hbf o e=>?_) (by rw[argBest,hbt,if_pos rfl];exact hv) (Heap.get?_update_self _ gZ1 rfl) λ v' h2 tk2 hv' k2=>?_⟩
   ·exact(Heap.get?_update_other _ _ (λ z:Z=b=>hZ (z▸hbf))).trans e
   ·exact q v' h2 tk2 hv' λ b o hbw hbZ e=>k2 b o hbw hbZ ((Heap.get?_update_other _ _ (Ne.symm hbZ)).trans (k1 b o hbw e))
  |false=>
   rw[if_neg qb3];refine wpAny_bind (wpAny_letGo ?_);rw[Z3V];refine wpAny_pure ⟨plainId_quiet F.plain_max_loop ⟨[.ref it,.none,.ref Z],kw⟩,ih (j+1) _ u c (by omega) lt st1 (by rw[argBest,hbt,if_neg qb3];exact hu) gZ1 λ v' h2 tk2 hv' k2=>?_⟩;exact q v' h2 tk2 hv' λ b o hbw hbZ e=>k2 b o hbw hbZ (k1 b o hbw e)
end
theorem J1D(a d:Z0):argsOk "max" ⟨[a],[(Str.ofString "default",d)]⟩:=by unfold argsOk;kernel_rfl
section
variable{P:Program}{w:M0}{A:O0}{E:Z0->U0->Prop}{s:U0}
def Z9Z(ys:List Int)(m:Int):Prop:=m∈ys/\∀a∈ys,a<=m
theorem J3v{ys:List Int}(h:0<ys.length):Z9Z ys (ys.getD (argBest (λ i j=>decide (ys.getD i 0>ys.getD j 0)) (ys.length-1)) 0):=by
 obtain⟨a,b⟩:=argBest_gt (λ i=>ys.getD i 0) (ys.length-1);refine⟨?_,λ x hx=>?_⟩
 ·have lt:argBest (λ i j=>decide (ys.getD i 0>ys.getD j 0)) (ys.length-1)<ys.length:=by omega
  rw[qc6,qb5 lt];exact qg8 lt
 ·obtain⟨j,hj,e⟩:=qj2 hx;have:=b j (by omega);rw[qc6,qb5 hj]at this;rw[<-e];exact this
theorem J1n{l it:X0}{its:List Z0}{ys:List Int}(hh:A.handled=none)(hl:ys.length=its.length)(hv:∀(i:Nat)(v:Z0),its[i]?=some v->∃t,v=Value.int (ys.getD i 0) t)(hne:l≠it):Walks P w A it [it,l] [it] its.toArray.size (λ i v=>its.toArray[i]?=some v) (λ i h=>h.IsListIter it l i/\h.IsList l its.toArray)/\CmpOf P w A .Gt (λ i v=>its.toArray[i]?=some v) (λ i j=>decide (ys.getD i 0>ys.getD j 0)):=
 ⟨Walks.list hh it l hne its.toArray,CmpOf.ints_gt (λ i=>ys.getD i 0) λ i v h=>hv i v (by simpa using h)⟩
theorem J2C{l:X0}{its:List Z0}{ys:List Int}{d:Z0}{Q:Z0->U0->Prop}(hh:A.handled=none)(pl:s.heap.IsList l its.toArray)(hlen:ys.length=its.length)(hv:∀(i:Nat)(v:Z0),its[i]?=some v->∃t,v=Value.int (ys.getD i 0) t)(q:∀v h' tk,(ys=[]->v=d)->(ys≠[]->∃m t,v=.int m t/\Z9Z ys m)->(∀b o,s.heap.get? b=some o->h'.get? b=some o)->Q v {s with heap:=h',toks:=tk}):wpAny (model P w) A (call (.builtin "max") [.ref l] [(Str.ofString "default",d)]) Q E s:=by
 obtain⟨ol,gl,_⟩:=id pl;have ll:l<s.heap.objs.size:=Heap.lt_size gl;refine PyProof.Rows.kmk_tree PySem.F.kind_max PySem.F.plain_max PySem.F.entry_max (J1D _ _) ?_;show wpAny (model P w) A.in1 (Builtin.Builtins.bindParams "max" ["key","default"] 0 ⟨[],[(Str.ofString "default",d)]⟩>>=_) _ _ s;refine wpAny_bind (wpAny_of_eq (show Builtin.Builtins.bindParams "max" ["key","default"] 0 ⟨[],[(Str.ofString "default",d)]⟩=pure [none,some d]from rfl) (wpAny_bind (wpAny_pure ?_)));refine wpAny_bind (wpAny_pyIter_list pl (wpAny_bind (wpAny_newObj_type ?_)));rw[Z3V];have g1:((s.heap.push {cls:=.type "list_iterator",data:=.fields #[.ref l,.int 0 0]}).push {cls:=.type "list",data:=.seq #[]}).IsListIter s.heap.objs.size l 0:=⟨_,Heap.get?_push_of_some _ (Heap.get?_push_size _ rfl),rfl,rfl⟩;have g2:((s.heap.push {cls:=.type "list_iterator",data:=.fields #[.ref l,.int 0 0]}).push {cls:=.type "list",data:=.seq #[]}).IsList l its.toArray:=pl.at λ o e=>Heap.get?_push_of_some _ (Heap.get?_push_of_some _ e);have g3:((s.heap.push {cls:=.type "list_iterator",data:=.fields #[.ref l,.int 0 0]}).push {cls:=.type "list",data:=.seq #[]}).get? (s.heap.objs.size+1)=some {cls:=.type "list",dict:=none,data:=.seq #[] 0,slots:=#[]}:=by
  rw[show s.heap.objs.size+1=(s.heap.push {cls:=.type "list_iterator",data:=.fields #[.ref l,.int 0 0]}).objs.size from(Heap.size_push ..).symm];exact Heap.get?_push_size _ rfl
 have k3:∀b o,s.heap.get? b=some o->((s.heap.push {cls:=.type "list_iterator",data:=.fields #[.ref l,.int 0 0]}).push {cls:=.type "list",data:=.seq #[]}).get? b=some o:=λ b o e=>Heap.get?_push_of_some _ (Heap.get?_push_of_some _ e);rw[show(s.heap.push {cls:=.type "list_iterator",data:=.fields #[.ref l,.int 0 0]}).objs.size=s.heap.objs.size+1 from Heap.size_push ..];generalize(s.heap.push {cls:=.type "list_iterator",data:=.fields #[.ref l,.int 0 0]}).push {cls:=.type "list",data:=.seq #[]}=h3 at*;refine wpAny_pure ⟨plainId_quiet F.plain_max_loop _,?_⟩;obtain⟨W,hc⟩:=J1n (P:=P) (w:=w) (A:=A.in1) (it:=s.heap.objs.size) (l:=l) (its:=its) (ys:=ys) hh hlen hv (qb2 ll);have hZ:s.heap.objs.size+1∉[s.heap.objs.size,l]:=λ z=>by
  rcases qa2.mp z with z|z
  ·omega
  ·exact absurd ll (by rw[<-qa7.mp z];exact Nat.not_lt.mpr (qf1 _))
 refine codeAny_builtin F.entry_max_loop ?_;rw[Around.under_plainId F.plain_max_loop _];show wpAny (model P w) A.in1 (seqItems? (.ref (s.heap.objs.size+1))>>=_) _ _ _;refine wpAny_bind (wpAny_seqItems g3 rfl ?_);show wpAny (model P w) A.in1 (tryCatch (pyNext (.ref s.heap.objs.size)) _>>=_) _ _ _;by_cases hy:ys=[]
 ·have hn:its.toArray.size=0:=by rw[qb1,<-hlen,hy];rfl
  have st:(λ i (h:N0)=>h.IsListIter s.heap.objs.size l i/\h.IsList l its.toArray) its.toArray.size h3:=by rw[hn];exact⟨g1,g2⟩
  refine wpAny_bind (wpAny_tryCatch (W.done _ _ _ st λ h4 tk k4=>?_));refine wpAny_bind (wpAny_rule (wpAny_pure ?_));exact q d h4 tk (λ _=>rfl) (λ z=>absurd hy z) λ b o e=>k4 b o (λ z=>absurd (Heap.lt_size e) (by rw[qa7.mp z];exact qb8 _)) (k3 b o e)
 ·have hp:0<ys.length:=qe9.mpr hy;have hn:0<its.toArray.size:=by rw[qb1,<-hlen];exact hp
  refine wpAny_bind (wpAny_tryCatch (W.item 0 _ _ _ hn ⟨g1,g2⟩ λ v h4 tk hv4 st4 k4=>?_));have g4:=k4 _ _ (λ z=>hZ (qa2.mpr (.inl (qa7.mp z)))) g3;refine wpAny_bind (wpAny_pure (wpAny_bind (wpAny_updateSeq g4 rfl ?_)));rw[Z3V];refine wpAny_pure ⟨plainId_quiet F.plain_max_loop _,J2N _ W _ hc _ hZ (its.toArray.size-1) 0 _ v _ rfl hn (W.frame _ _ _ st4 λ b hb o e=>?_) hv4 (Heap.get?_update_self _ g4 rfl) λ u h5 tk5 hu k5=>?_⟩
  ·exact(Heap.get?_update_other _ _ (λ z:s.heap.objs.size+1=b=>hZ (z▸hb))).trans e
  ·obtain⟨t,rfl⟩:=hv (argBest (λ i j=>decide (ys.getD i 0>ys.getD j 0)) (its.toArray.size-1)) _ (by rw[<-List.getElem?_toArray];exact hu);refine q _ h5 tk5 (λ z=>absurd z hy) (λ _=>⟨_,t,rfl,?_⟩) λ b o e=>?_
   ·have:=J3v hp;rw[qb1,<-hlen];exact this
   ·have lt:=Heap.lt_size e;have n1:b∉[s.heap.objs.size]:=λ z=>absurd lt (by rw[qa7.mp z];exact qb8 _);exact k5 b o n1 (qb2 (qh7 lt)) ((Heap.get?_update_other _ _ (qe4 (qh7 lt))).trans (k4 b o n1 (k3 b o e)))
end
section
variable{X:Cx}
theorem J3t{its:List Z0}{ys:List Int}(rv:Vals (ys.map V.int) its):ys.length=its.length/\∀(i:Nat)(v:Z0),its[i]?=some v->∃t,v=Value.int (ys.getD i 0) t:=by
 have hl:=rv.length;rw[qa3]at hl;refine⟨hl,λ i v h=>?_⟩;have hi:i<ys.length:=by rw[hl];exact(qb7.mp h).1
 obtain⟨u,e,r⟩:=rv.get (i:=i) (x:=V.int ys[i]) (by rw[qc0,qb5 hi];rfl);rw[h]at e;cases e;obtain⟨t,rfl⟩:=(show ∃t,_=Value.int ys[i] t from r);exact⟨t,by rw[qc6,qb5 hi];rfl⟩
def J6Q(K:y0)(t tk:TA):TE:=λ σ H Q=>t σ H λ vs H1=>tk σ H1 λ zs H2=>∃(p:X0)(ys:List Int)(d:Int),vs=[.ref p]/\zs=[.int d]/\SqL K H2 p (ys.map V.int)/\∀m,(ys=[]->m=d)->(ys≠[]->Z9Z ys m)->Q (.int m) H2
theorem J7T{K:y0}{t tk:TA}{σ:St}{H:Hp}{Q:VK}:J6Q K t tk σ H Q=t σ H λ vs H1=>tk σ H1 λ zs H2=>∃(p:X0)(ys:List Int)(d:Int),vs=[.ref p]/\zs=[.int d]/\SqL K H2 p (ys.map V.int)/\∀m,(ys=[]->m=d)->(ys≠[]->Z9Z ys m)->Q (.int m) H2:=rfl
theorem J5c{e x1:Expr}{t tk:TA}{p pos kp:Pos}(hc:X.calm=true)(hg:Gl X "max")(hm:X.mg "max"=none)(hb:bootBuiltins "max"=some (.builtin "max"))(ha:PA X [e] t)(hk:PK X [⟨some "default",x1,kp⟩] tk)(he:backTo pos (starEach [e] X.env)=(false,eval e X.env)::backTo pos (starEach [] X.env):=by rfl)(hpl:(backTo pos (starEach [e] X.env)).any (·.1)=false:=by rfl)(hn:("max":V0)≠"__name__":=by decide)(hdb:(("max":V0)==("__debug__":V0))=false:=by decide):PE X (.Call (.Name "max" p) [e] [⟨some "default",x1,kp⟩] pos) (J6Q X.K t tk):=by
 intro pins s σ H Q I h;refine wpAny_Call_Name_kw (Z4v I hg hm hb ?_ hn hdb);refine PyProof.Rows.callWith_kw (thn (ha pos pins s σ H _ I h) λ us s1 ⟨vs,H1,I1,r1,q1⟩=>thn (hk pos pins s1 σ H1 _ I1 q1) λ ws s2 hz=>?_) he hpl rfl rfl;obtain⟨zs,H2,I2,r2,l,ys,d,rfl,rfl,hq,q⟩:=hz;obtain⟨u,rfl,ru⟩:=r1.one;cases ru;obtain⟨z,rfl,rz⟩:=r2.one;obtain⟨its,rv,pl,hz⟩:=I2.list hq;obtain⟨hl,hv⟩:=J3t rv;refine J2C (I2.ok.hd hc) pl.isList hl hv λ v h' tk hd hx k=>?_;obtain⟨tz,rfl⟩:=(show ∃t,z=Value.int d t from rz);by_cases hy:ys=[]
 ·cases hd hy;exact⟨.int d,H2,I2.kept k,⟨_,rfl⟩,q d (λ _=>rfl) λ z=>absurd hy z⟩
 ·obtain⟨m,t,rfl,im⟩:=hx hy;exact⟨.int m,H2,I2.kept k,⟨_,rfl⟩,q m (λ z=>absurd z hy) λ _=>im⟩
end
open PySem.SeqAt
open AutoSeq1 (wpAny_loadPart')
section
variable{X:Cx}
def J2v(K:y0):R2:=λ x y H Q=>∃a b xs ys,x=.ref a/\y=.ref b/\SqT K H a xs/\SqT K H b ys/\xs.length+ys.length<=sizeLine/\∀p H',Same H H'->SqT K H' p (xs++ys)->Q (.ref p) H'
theorem J2g{prog:Program}{w:M0}{A:O0}{E:Z0->U0->Prop}{s:U0}{t b:X0}{ws:List Z0}{Q:Z0->U0->Prop}(ht:IsTup s.heap t #[])(hb:IsTup s.heap b ws.toArray)(h:Q (.ref b) s):wpAny (model prog w) A (binaryOp .Add (.ref t) (.ref b)) Q E s:=by
 obtain ⟨⟨cls,dd,data,sl⟩,ho,hc,n,hd⟩:=id ht;obtain ⟨⟨cls2,dd2,data2,sl2⟩,ho2,hc2,n2,hd2⟩:=id hb;simp only at hc hd hc2 hd2;subst hc hd hc2 hd2;exact concat_meets ⟨_,ho,rfl⟩ ⟨_,ho2,rfl⟩ noFill_tuple_add seq_tuple_add qi9 qj0 (qj1 _ _)
  (tuple_addW0 t b #[] ws.toArray n n2 dd dd2 sl sl2 (by simp)) ⟨ho,ho2,h⟩
theorem Z7Q:OpR X (binaryOp .Add) (J2v X.K):=by
 intro pins s σ H x y v u Q I rx ry h;obtain⟨a,b,xs,ys,rfl,rfl,hx,hy,hz,q⟩:=h;by_cases he:xs=[]
 ·subst he;obtain rfl:v=Value.ref a:=rx;obtain rfl:u=Value.ref b:=ry;obtain⟨its,r,ht,_⟩:=I.tuple hx;obtain⟨its2,r2,ht2,_⟩:=I.tuple hy;cases r;exact J2g ht ht2 ⟨.ref b,H,I,rfl,q b H (Same.refl H) (by simpa using hy)⟩
 ·refine J5w pins s σ H _ _ v u Q I rx ry ⟨a,b,xs,ys,rfl,rfl,hx,hy,he,hz,λ e=>?_,λ e p hp=>?_⟩
  ·subst e;exact q a H (Same.refl H) (by simpa using hx)
  ·exact q p _ (λ c o hc=>by rw[Z0h (Z0g hc hp)];exact hc) (SqT.of Z0e)
end
open HT
section
variable{prog:Program}{w:M0}{A:O0}{E:Z0->U0->Prop}{s:U0}
theorem Z2V{t sl:X0}{items:Array Z0}{vl vu:Z0}{lo hi:Option Int}{Q:Z0->U0->Prop}(ht:IsTup s.heap t items)(hs:s.heap.IsSliceOf sl vl vu .none)(pl:IsPart vl lo)(pu:IsPart vu hi)(hw:sIx items.size 0 lo=0/\sIx items.size items.size hi=items.size)(h:Q (.ref t) s):wpAny (model prog w) A (getItem (.ref t) (.ref sl)) Q E s:=by
 obtain⟨os,hos,hcs,hds⟩:=id hs;have hTs:s.TypeIs (.ref sl) "slice":=⟨os,hos,hcs⟩;unfold getItem;try with_reducible refine wpAny_holding ?_
 first|refine wpAny_bind (wpAny_pure ?_)|skip
 refine wpAny_bind (wpAny_sequenceKey ht.typeIs qQ ?_);refine wpAny_bind (wpAny_callSpecial?_slot (name:=Str.ofString "__getitem__") ht.typeIs PyProof.Rows.slot_tuple_getitem (wpAny_call_entry PyProof.Rows.slot_tuple_getitem ht.typeIs entry_tuple_getitem ?_ (args_tuple_getitem _ _)));show wpAny _ _ (Builtin.Tuple.tupleItemsOf (.ref t)>>=_) _ _ s;refine wpAny_bind (tupleItemsOf_ ht ?_);refine wpAny_bind (wpAny_typeOf hTs ?_);rw[if_pos qQ];refine wpAny_bind (Z2E hs pl pu ?_);have hyes:(((sIx items.size 0 lo:Nat):Int)==0&&(1:Int)==1&&(sIx items.size items.size hi-sIx items.size 0 lo)==items.size)=true:=by
  rw[hw.1,hw.2];simp
 show wpAny _ _ (if (((sIx items.size 0 lo:Nat):Int) == 0&&(1:Int) == 1&&(sIx items.size items.size hi - sIx items.size 0 lo) == items.size)=true then _ else _) _ _ s;rw [if_pos hyes];refine wpAny_bind ?_;show wpAny _ _ ((typeOf (.ref t)) >>= _) _ _ s;refine wpAny_bind (wpAny_typeOf ht.typeIs (wpAny_pure ?_));rw [if_pos qQ];first
  |exact wpAny_bind (wpAny_rule (wpAny_pure ⟨_,rfl,wpAny_pure h⟩))
  |exact wpAny_bind (wpAny_pure (wpAny_pure ⟨_,rfl,wpAny_pure h⟩))
  |exact wpAny_pure ⟨_,rfl,wpAny_pure h⟩
end
section
variable{X:Cx}
def rSlA(K:y0):V->Option Int->Option Int->Hp->VK->Prop:=λ x lo hi H Q=>∃a xs,x=.ref a/\SqT K H a xs/\∀p H',Same H H'->SqT K H' p (cutV xs lo hi)->Q (.ref p) H'
theorem J0T:SlR X (rSlA X.K):=by
 intro pins s σ H x v vl vu lo hi sl Q I rx hs pl pu h;obtain⟨a,xs,rfl,hx,q⟩:=h;by_cases hw:HT.sIx xs.length 0 lo=0/\HT.sIx xs.length xs.length hi=xs.length
 ·obtain rfl:v=Value.ref a:=rx;obtain⟨its,r,ht,hz⟩:=I.tuple hx;have hlen:its.toArray.size=xs.length:=by rw[qb1];exact r.length.symm
  refine⟨"tuple",_,PyProof.Rows.slot_tuple_getitem.lookup,ht.typeIs,?_⟩;refine Z2V ht hs pl pu (by rw[hlen];exact hw) ⟨.ref a,H,I,rfl,q a H (Same.refl H) ?_⟩;have e:cutV xs lo hi=xs:=by
   unfold cutV;rw[hw.1,hw.2,List.drop_zero,Nat.sub_zero,qh8]
  rw[e];exact hx
 ·exact J6Z pins s σ H _ v vl vu lo hi sl Q I rx hs pl pu ⟨a,xs,rfl,hx,hw,λ p hp=>q p _ (λ c o hc=>by rw[Z0h (Z0g hc hp)];exact hc) (SqT.of Z0e)⟩
end
def J4b(K:y0):List V->Hp->VK->Prop:=λ xs H Q=>∃p ys,xs=[V.ref p]/\((SqL K H p ys/\∀(l:X0),H l=none->Q (V.ref l) (upd H l (HO.tup ys)))\/(SqT K H p ys/\Q (V.ref p) H))
theorem J6P{K:y0}{xs:List V}{H:Hp}{Q:VK}:J4b K xs H Q=(∃p ys,xs=[V.ref p]/\((SqL K H p ys/\∀(l:X0),H l=none->Q (V.ref l) (upd H l (HO.tup ys)))\/(SqT K H p ys/\Q (V.ref p) H))):=rfl
section
variable{X:Cx}
def rSlS:V->Option Int->Option Int->Hp->VK->Prop:=λ x lo hi H Q=>∃z,x=.str z/\z.length<=sizeLine/\Q (.str (Txt.slice z lo hi)) H
theorem J5F:SlR X rSlS:=by
 intro pins s σ H x v vl vu lo hi sl Q I rx hs pl pu h;obtain⟨z,rfl,hz,q⟩:=h;obtain⟨t,rfl⟩:=rx;have fin:∀t' k,EP X pins σ Q (.str (Txt.slice z lo hi) t') {s with toks:=k}:=λ t' k=>⟨.str _,H,I.tok k,⟨t',rfl⟩,q⟩;refine⟨"str",_,F.slot_str_getitem.lookup,typeIs_str _ _ _,?_⟩;cases pl with
 |none=>
  cases pu with
  |none=>exact wpAny_getItem_str_slice (l:=none) (u:=none) (st:=none) hs rfl (post_val_or_str ⟨qa1 (Txt.slice_le z _ _) hz,fin⟩)
  |int j tj=>exact wpAny_getItem_str_slice (l:=none) (u:=some (j,tj)) (st:=none) hs rfl (post_val_or_str ⟨qa1 (Txt.slice_le z _ _) hz,fin⟩)
 |int i ti=>
  cases pu with
  |none=>exact wpAny_getItem_str_slice (l:=some (i,ti)) (u:=none) (st:=none) hs rfl (post_val_or_str ⟨qa1 (Txt.slice_le z _ _) hz,fin⟩)
  |int j tj=>exact wpAny_getItem_str_slice (l:=some (i,ti)) (u:=some (j,tj)) (st:=none) hs rfl (post_val_or_str ⟨qa1 (Txt.slice_le z _ _) hz,fin⟩)
end
section
variable{X:Cx}{N:List V0}{nl:List (Option Nat)}{scope:Scope}{cl:List (V0×X0)}{elt tg iter:Expr}{pos pos' spos:Pos}{wi:TI}{g:TG}{tc:TT}{te:TE}{i:Nat}{x:V0}
theorem J1U{pins:List (X0×Obj)}{σ:St}{Dd:Ends}(hN:X.N.Nodup)(hi:X.N[i]?=some x)(hk:X.env.scope.names.lookup x=some .local)(D C:X0)(s' s2:U0)(fp:List X0)(σ':St)(H' H2:Hp)(I2:Inv X pins σ H2 s2)(f2:∀b∈fp,FpOk X pins H2 b)(hC:s2.heap.objs.size<=C)(J:Inv (X.block N scope cl C fp s2 H2) [] σ' H' s')(q:Dd.nx (σ.set i (some (.ref D))) H'):compPost (model X.prog X.w) X.A X.xe (some (assign (.Name x pos') X.env)) (λ _ s3=>SP X pins Dd .next s3) (.ref D) C (.ok .next) s':=by
 have I3:Inv X pins σ H' s':=Z6s (h2:=s'.heap) I2 f2 hC J λ b o _ e=>e;have ne:∀b o,s2.heap.get? b=some o->b≠C:=λ b o e=>qb2 (qb0 (Heap.lt_size e) hC);have neL:C≠X.env.locals:=λ z=>by
  obtain⟨m,⟨o,_,_,ho,_⟩,_⟩:=I2.loc;exact ne _ o ho z.symm
 obtain⟨m,hn,_⟩:=J.loc;show wpAny _ _ (assign (.Name x pos') X.env (.ref D)) _ _ _;have e:assign (.Name x pos') X.env (.ref D)=(do standAt pos';bindName X.env x (.ref D)):=by rfl
 rw[e];refine wpAny_bind (wpAny_standAt (wpAny_bindName ?_));refine Z7b (v:=.ref D) I3 hN hi (.inl hk) rfl (λ s4 I4 ⟨a,sb,ha⟩=>?_) (.inr hk);have hCa:C≠a:=by
  rcases ha with z|z
  ·rw[z];exact neL
  ·obtain⟨v,o,ho,_⟩:=I2.cell x a z;exact λ z2=>ne a o ho z2.symm
 refine⟨m,hn.sameBut sb hCa,λ h' sb'=>⟨_,H',?_,q⟩⟩;refine I4.turned (t':=s4.toks) (it:=C) (λ b o hb e=>sb'.extBut b o hb e) J.free neL (.inr (qa1 I2.sz hC)) (λ y c e z=>?_) λ p hp z=>?_
 ·obtain⟨v,o,ho,_⟩:=I2.cell y c e;exact ne c o ho z
 ·exact ne p.1 _ (I2.pin p hp).1 z
def J6f(i:Nat)(t:TE):TS:=λ D σ H=>t σ H λ v H'=>D.nx (σ.set i (some v)) H'
theorem Z2q(hcalm:X.calm=true)(hN:X.N.Nodup)(hi:X.N[i]?=some x)(hk:X.env.scope.names.lookup x=some .local)(B:BlockOk X N nl scope cl)(hit:PI X tg iter wi)(hg:∀C fp s H,PG (X.block N scope cl C fp s H) tg g)(he:∀C fp s H,PE (X.block N scope cl C fp s H) elt te)(hs:∀x,foldedSetIterable iter X.env x=pure x:=by intro _;rfl)(hsw:swapsWith (.ListComp elt [⟨tg,iter,[],0⟩] scope pos) (some (.Name x pos')) spos.line X.env=pure true:=by rfl):PS X (.Assign [.Name x pos'] (.ListComp elt [⟨tg,iter,[],0⟩] scope pos) spos) (J6f i (J2J wi nl g Z3i te)):=by
 intro pins s σ H D I h;rw[exec_Assign_Name_used _ _ _ _ hsw];refine wpAny_bind (wpAny_standAt (wpAny_bind ?_));show wpAny _ _ (evalThenUse (.ListComp elt [⟨tg,iter,[],0⟩] scope pos) X.env _) _ _ _;unfold evalThenUse;refine wpAny_bind ?_;exact thn (Z7f (Q:=λ v H'=>D.nx (σ.set i (some v)) H') (tst:=λ _=>pure true) (Q':=λ _ s3=>SP X pins D .next s3) hcalm B hit hg (λ _ _ _ _=>J1R) he Z8v hs I h (λ D' C s' s2 fp σ' H' H2 I2 f2 hC J q=>J1U hN hi hk D' C s' s2 fp σ' H' H2 I2 f2 hC J q) _) λ _ s3 z=>wpAny_pure (wpAny_pure z)
end
theorem J7Q{wi:TI}{nl:List (Option Nat)}{g:TG}{tc:TT}{te:TE}{σ:St}{H:Hp}{Q:VK}:J2J wi nl g tc te σ H Q=(wi σ H λ J H1=>∀D,H1 D=none->Z3P J g tc te D Q (stOf nl σ) (upd H1 D (.lst []))):=rfl
theorem J7P{i:Nat}{t:TE}{D:Ends}{σ:St}{H:Hp}:J6f i t D σ H=(t σ H λ v H'=>D.nx (σ.set i (some v)) H'):=rfl
section
variable{κ:Type}[DecidableEq κ]
def valV(kvs:List (κ×V))(k:κ):Option V:=(kvs.find? λ kv=>decide (kv.1=k)).map (·.2)
def putK(kvs:List (κ×V))(k:κ)(v:V):List (κ×V):=
 if(kvs.any λ kv=>decide (kv.1=k))=true then kvs.map (λ kv=>if kv.1=k then(kv.1,v)else kv)else kvs++[(k,v)]
theorem J1X{p:κ×V}{r:List (κ×V)}{k:κ}(e:p.1=k):valV (p::r) k=some p.2:=by simp[valV,qh9,e]
theorem Z1B{p:κ×V}{r:List (κ×V)}{k:κ}(e:¬p.1=k):valV (p::r) k=valV r k:=by simp[valV,qh9,e]
theorem RelO.isSome_eq{o:Option V}{u:Option Z0}(r:RelO o u):o.isSome=u.isSome:=by
 cases o with
 |none=>cases u with
  |none=>rfl
  |some _=>exact(show False from r).elim
 |some _=>cases u with
  |none=>exact(show False from r).elim
  |some _=>rfl
theorem RelO.getD{o:Option V}{u:Option Z0}{d:V}{d':Z0}(r:RelO o u)(rd:RelV d d'):RelV (o.getD d) (u.getD d'):=by
 cases o with
 |none=>cases u with
  |none=>exact rd
  |some _=>exact(show False from r).elim
 |some _=>cases u with
  |none=>exact(show False from r).elim
  |some _=>exact r
theorem KV.val{kvs:List (κ×V)}{vs:List (κ×Z0)}(r:KV kvs vs)(k:κ):RelO (valV kvs k) (valueAt vs k):=by
 unfold KV at r;induction r with
 |nil=>exact True.intro
 |@cons p q ps qs h t ih=>
  obtain⟨h1,h2⟩:=h;by_cases e:p.1=k
  ·have e':q.1=k:=h1.symm.trans e;have b:valueAt (q::qs) k=some q.2:=by simp[valueAt,qh9,e']
   rw[J1X e,b];exact h2
  ·have e':¬q.1=k:=λ z=>e (h1.trans z);have b:valueAt (q::qs) k=valueAt qs k:=by simp[valueAt,qh9,e']
   rw[Z1B e,b];exact ih
end
theorem J4q{P:Program}{w:M0}{k:Key}{u:Z0}(r:RelV (kV k) u):(Z2m P w).is k u=true:=by
 cases k with
 |inl i=>obtain⟨t,e⟩:=(show ∃t,u=Value.int i t from r);subst e;exact Z7I P w i t
 |inr x=>obtain⟨t,e⟩:=(show ∃t,u=Value.str x t from r);subst e;exact Z7x P w x t
def DGet(H:Hp)(a:X0)(y:V)(r:Option V):Prop:=
 (∃kvs k,Rd H a (.dK kvs)/\y=kV k/\r=valV kvs k)\/∃kvs k b,Rd H a (.dT kvs)/\y=.ref b/\H b=some (.tup (k.map kV))/\r=valV kvs k
def DPut(H:Hp)(a:X0)(y v:V)(H':Hp):Prop:=
 (∃kvs k,H a=some (.dK kvs)/\y=kV k/\kvs.length<sizeLine/\H'=upd H a (.dK (putK kvs k v)))\/
 ∃kvs k b,H a=some (.dT kvs)/\y=.ref b/\H b=some (.tup (k.map kV))/\kvs.length<sizeLine/\H'=upd H a (.dT (putK kvs k v))
def NoSl(i:Expr):Prop:=∀ov iv,subscripted i false ov iv=operate [ov,iv] (getItem ov iv)
theorem J5q{prog:Program}{w:M0}{A:O0}{E:Z0->U0->Prop}{s:U0}{env:Env}{value slice:Expr}{pos:Pos}{T id:String}{Q:Z0->U0->Prop}(hl:typeLookup (.type T) "__getitem__"=pure (some (.builtin id)))(hs:NoSl slice)(h:wpAny (model prog w) A (eval value env) (λ o s₁=>wpAny (model prog w) A (eval slice env) (λ i s₂=>s₂.TypeIs o T/\wpAny (model prog w) A (getItem o i) Q E s₂) E s₁) E s):wpAny (model prog w) A (eval (.Subscript value slice pos) env) Q E s:=by
 refine Subscript_ (wpAny_mono h (λ o s₁ h₁=>wpAny_mono h₁ (λ i s₂ h₂=>?_) λ _ _ x=>x) λ _ _ x=>x);obtain⟨hT,h₂⟩:=h₂;unfold subscriptTail;refine wpAny_bind ?_;rw[getitemInPython_of_ne hT.not_modules];refine wpAny_bind (wpAny_specialOf hT hl ?_);have fin:wpAny (model prog w) A (subscripted slice false o i) (λ r s₃=>wpAny (model prog w) A (letTemporaryGo value o r>>=λ _=>pure r) Q E s₃) E s₂:=by
  rw[hs o i];exact wpAny_operating (wpAny_mono h₂ (λ r s₃ h₃=>wpAny_bind (wpAny_letTemporaryGo (wpAny_pure h₃))) λ _ _ x=>x)
 first
  |exact wpAny_pure (wpAny_bind fin)
  |exact wpAny_bind (wpAny_pure (wpAny_bind fin))
  |exact wpAny_bind fin
def Z8C:List (TE×TE)->St->Hp->(List (V×V)->Hp->Prop)->Prop
 |[],_,H,Q=>Q [] H
 |(tk,tv)::r,σ,H,Q=>tk σ H λ x H1=>tv σ H1 λ y H2=>Z8C r σ H2 λ ps H3=>Q ((x,y)::ps) H3
def J9l(kvs more:List (Key×V)):List (Key×V):=more.foldl (λ acc kv=>putK acc kv.1 kv.2) kvs
structure M2(X:Cx)(o:Expr)(m:V0)(apos:Pos)(e f:Expr)(cpos:Pos):Prop where
 base:attributeBase o m X.env (eval o X.env)=eval o X.env
 few:((backTo cpos (starEach [e,f] X.env)).all (λ x=>!x.1)&&(backToKw cpos (keywordEach [] X.env)).all (λ x=>x.1.isSome)&&decide (([e,f]:List Expr).length+([]:List Keyword).length+(if([]:List Keyword).isEmpty then 0 else 1)<30))=true
 line:(apos.endLine==cpos.line)=true
 trees:backTo cpos (starEach [e,f] X.env)=[(false,eval e X.env),(false,eval f X.env)]
end L2
end
section
namespace PW
open PySem P15
inductive Vl|int(i:Int)|bl(b:Bool)|thing(n:Nat)
structure Wd where
 name:V0
 params:List (V0×V0)
 kind:V0
 body:Tm
structure Hs where
 name:V0
 elder:Option V0
 fields:List (V0×V0)
 words:List Wd
structure Pg where
 houses:List Hs
 main:Wd
structure Sc where
 house:Option V0
 own:Option Vl
 bound:List (V0×Vl)
inductive Wt|walk(t:Tm)(s:Sc)|choose(t:Tm)(s:Sc)|finish(t:Tm)(s:Sc)|leave
structure Ws where
 wait:List Wt
 known:List Vl
 made:List (V0×List Vl)
 counted:Nat
 within:Nat
 ended:Option (List V0)
def IxAt{α:Type}(xs:List α)(x:α)(i:Nat):Prop:=xs[i]?=some x/\∀j,j<i->xs[j]?≠some x
def Look(P:Pg)(h:V0)(H:Hs):Prop:=H∈P.houses/\H.name=h
inductive Z1b(P:Pg):V0->List V0->Prop
 |top{h:V0}{H:Hs}:Look P h H->H.elder=none->Z1b P h []
 |up{h e:V0}{H:Hs}{es:List V0}:Look P h H->H.elder=some e->Z1b P e es->Z1b P h (e::es)
inductive Z1c(P:Pg)(w:V0):List V0->V0->Nat->Wd->Prop
 |here{h:V0}{H:Hs}{es:List V0}{i:Nat}{d:Wd}:Look P h H->IxAt (H.words.map Wd.name) w i->H.words[i]?=some d->Z1c P w (h::es) h i d
 |there{h h':V0}{H:Hs}{es:List V0}{i:Nat}{d:Wd}:Look P h H->w∉H.words.map Wd.name->Z1c P w es h' i d->Z1c P w (h::es) h' i d
inductive Flds(P:Pg):List V0->List (V0×V0)->Prop
 |nil:Flds P [] []
 |cons{h:V0}{H:Hs}{l:List V0}{fs:List (V0×V0)}:Look P h H->Flds P l fs->Flds P (h::l) (H.fields++fs)
def Z1s(P:Pg)(h f:V0)(j:Nat):Prop:=∃es fs,Z1b P h es/\es.length<=100/\Flds P (h::es).reverse fs/\fs.length<=100/\IxAt (fs.map Prod.fst) f j
def leaf:Fm->Prop
 | .number| .truth| .name| .self=>True
 |_=>False
end PW
end
section
namespace WK
open PySem L2 P15 TM PW
inductive A2{α β:Type}(R:α->β->Prop):List α->List β->Prop
 |nil:A2 R [] []
 |cons{a:α}{b:β}{as:List α}{bs:List β}:R a b->A2 R as bs->A2 R (a::as) (b::bs)
section
variable{α β:Type}{R R':α->β->Prop}
theorem A2.len:∀{as:List α}{bs:List β},A2 R as bs->as.length=bs.length
 |_,_,.nil=>rfl
 |_,_,.cons _ h=>congrArg (·+1) h.len
theorem A2.monoM:∀{as:List α}{bs:List β},A2 R as bs->(∀a b,a∈as->R a b->R' a b)->A2 R' as bs
 |_,_,.nil,_=>.nil
 |_,_,.cons a h,f=>.cons (f _ _ qa6 a) (h.monoM λ a b m=>f a b (qa8 _ m))
theorem A2.mono{as:List α}{bs:List β}(h:A2 R as bs)(f:∀a b,R a b->R' a b):A2 R' as bs:=h.monoM λ a b _=>f a b
theorem A2.app:∀{as as':List α}{bs bs':List β},A2 R as bs->A2 R as' bs'->A2 R (as++as') (bs++bs')
 |_,_,_,_,.nil,h=>h
 |_,_,_,_,.cons a h,h'=>.cons a (h.app h')
theorem A2.snoc{as:List α}{bs:List β}{a:α}{b:β}(h:A2 R as bs)(r:R a b):A2 R (as++[a]) (bs++[b]):=h.app (.cons r .nil)
theorem A2.at:∀{as:List α}{bs:List β}{i:Nat}{a:α},A2 R as bs->as[i]?=some a->∃b,bs[i]?=some b/\R a b
 |_,_,0,_,.cons r _,h=>by cases h;exact⟨_,rfl,r⟩
 |_,_,i+1,_,.cons _ t,h=>t.at (i:=i) h
end
structure CS where
 term:X0
 word:X0
 house:X0
 program:X0
 hall:X0
 scope:X0
 waits:X0
 walk:X0
 bs:Hp
structure Kw(C:X0)(H H':Hp):Prop where
 t:∀b xs,H b=some (.tup xs)->H' b=some (.tup xs)
 z:∀b o xs,H b=some (.frz o (.tup xs))->H' b=some (.frz o (.tup xs))
 i:∀b D dx f fs,D≠C->H b=some (.ins D dx (f::fs))->H' b=some (.ins D dx (f::fs))
 d:∀b kvs,H b=some (.dK kvs)->H' b=some (.dK kvs)
section
variable{C:X0}{H H' H'':Hp}{K:y0}
theorem Kw.kt(k:Kw C H H'):Kt H H':=⟨k.t,k.z⟩
mutual
theorem TO.kw{D:X0}(n:D≠C)(k:Kw C H H'):∀{v:V}{t:Tm},TO K D H v t->TO K D H' v t
 |_,_,.mk a b c d e=>.mk (k.i _ _ _ _ _ n a) (SqT.kt b k.kt) (TOs.kw n k c) (SqT.kt d k.kt) (e.kt k.kt)
theorem TOs.kw{D:X0}(n:D≠C)(k:Kw C H H'):∀{vs:List V}{ts:List Tm},TOs K D H vs ts->TOs K D H' vs ts
 |_,_,.nil=>.nil
 |_,_,.cons h hs=>.cons (TO.kw n k h) (TOs.kw n k hs)
end
end
noncomputable def oS:Option V0->V
 |none=>.non
 |some s=>.str s
noncomputable def Z4Z(ps:List (V0×V0)):PyData:=.tuple (ps.map λ p=>.tuple [.str p.1,.str p.2])
noncomputable def Z6g(d:Wd):PyData:=.tuple [.str d.name,Z4Z d.params,.str d.kind,d.body.dat]
noncomputable def oD:Option V0->PyData
 |none=>.none
 |some s=>.str s
noncomputable def Z6x(h:Hs):PyData:=.tuple [.str h.name,oD h.elder,Z4Z h.fields,.tuple (h.words.map Z6g)]
noncomputable def J6A(P:Pg):PyData:=.tuple [.tuple (P.houses.map Z6x),.tuple [Z4Z P.main.params,.str P.main.kind,P.main.body.dat]]
inductive WdO(K:y0)(c:CS)(H:Hp):V->Wd->Prop
 |mk{a dx pt:X0}{bv:V}{d:Wd}:H a=some (.ins c.word dx [("name",.str d.name),("params",.ref pt),("kind",.str d.kind),("body",bv)])->RT K H (.ref pt) (Z4Z d.params)->TO K c.term H bv d.body->WdO K c H (.ref a) d
inductive HsO(K:y0)(c:CS)(H:Hp):V->Hs->Prop
 |mk{a dx ft wt:X0}{ws:List V}{h:Hs}:H a=some (.ins c.house dx [("name",.str h.name),("elder",oS h.elder),("own_fields",.ref ft),("own_words",.ref wt)])->RT K H (.ref ft) (Z4Z h.fields)->SqT K H wt ws->A2 (WdO K c H) ws h.words->HsO K c H (.ref a) h
inductive PgO(K:y0)(c:CS)(H:Hp):V->Pg->Prop
 |mk{a dx ht:X0}{hs:List V}{mv:V}{P:Pg}:H a=some (.ins c.program dx [("all_houses",.ref ht),("main",mv)])->SqT K H ht hs->A2 (HsO K c H) hs P.houses->WdO K c H mv P.main->PgO K c H (.ref a) P
section
variable{K:y0}{H H':Hp}{c:CS}
theorem WdO.same{v:V}{d:Wd}(h:WdO K c H v d)(s:Same H H'):WdO K c H' v d:=by
 cases h with
 |mk a b t=>exact .mk (s _ _ a) (b.same s) (t.kp (Kp.of s))
theorem HsO.same{v:V}{d:Hs}(h:HsO K c H v d)(s:Same H H'):HsO K c H' v d:=by
 cases h with
 |mk a b q t=>exact .mk (s _ _ a) (b.same s) (SqT.kp q (Kp.of s)) (t.mono λ _ _ r=>r.same s)
theorem PgO.same{v:V}{d:Pg}(h:PgO K c H v d)(s:Same H H'):PgO K c H' v d:=by
 cases h with
 |mk a q t m=>exact .mk (s _ _ a) (SqT.kp q (Kp.of s)) (t.mono λ _ _ r=>r.same s) (m.same s)
end
noncomputable def fsW(hl wA ml:X0)(most c w:Nat)(ev:V):List (V0×V):=[("hall",.ref hl),("most",.int most),("waits",.ref wA),("made",.ref ml),("counted",.int c),("within",.int w),("ended",ev)]
structure Ad where
 dx:X0
 hl:X0
 wA:X0
 dw:X0
 wl:X0
 kl:X0
 ml:X0
 ev:V
 ws:List V
 ks:List V
 mz:List (V×X0)
end WK
end
section
namespace L2
open PySem PySem.Spec PyProof.Rows
def absD(ks:Nat->Key)(ys:Nat->V):Nat->List (Key×V)
 |0=>[]
 |i+1=>putK (absD ks ys i) (ks i) (ys i)
noncomputable def zipD(ks:List V0)(ys:List V):List (Key×V):=absD (λ i=>.inr (ks.getD i "")) (λ i=>ys.getD i .non) (min ks.length ys.length)
variable{X:Cx}
theorem J7U{σ:St}{H:Hp}{Q:List (V×V)->Hp->Prop}:Z8C [] σ H Q=Q [] H:=rfl
theorem J7F{tk tv:TE}{r:List (TE×TE)}{σ:St}{H:Hp}{Q:List (V×V)->Hp->Prop}:Z8C ((tk,tv)::r) σ H Q=tk σ H λ x H1=>tv σ H1 λ y H2=>Z8C r σ H2 λ ps H3=>Q ((x,y)::ps) H3:=rfl
def BAt(mg:V0->Option Z0)(base:N0):Prop:=∃bm o,mg "__builtins__"=some (.ref bm)/\bm≠builtinsNs/\bm≠mainGlobals/\base.get? bm=some o/\o.cls=.type "module"/\o.dict=some builtinsNs/\o.data=.plain
section
variable{X:Cx}{pins:List (X0×Obj)}{σ:List (Option V)}{H:Hp}{s:U0}
theorem Inv.grown{P:X0}{ps more:Array Z0}{h':N0}{tk:Nat}(I:Inv X pins σ H s)(hP:H P=some (.tbl ps))(k:∀b o,b≠P->s.heap.get? b=some o->h'.get? b=some o)(hn:h'.get? P=some {cls:=.none,data:=.fields (ps++more)}):Inv X pins σ (upd H P (.tbl (ps++more))) {s with heap:=h',toks:=tk}:=by
 have np:∀b,H b=none->b≠P:=λ b n z=>by rw[z,hP]at n;cases n
 refine I.step (g':=s.gens) (d':=s.drawn) (ch:=[]) (λ _ z=>nomatch z) (λ b o _ _ _ e n=>k b o (np b n) e) (λ b o _ _ _ e n=>⟨o.slots,k b o (np b n) e⟩) (λ b o _ _ n=>by rw [Z0h (np b n)]; exact n) (λ b o _ e=>?_)
  (λ b xs e=>by rw[Z0h (J0i e hP (λ z=>by cases z))];exact e) (λ b o u e=>by rw[Z0h (J0i e hP (λ z=>by cases z))];exact e) (λ b qs e=>?_) (λ m hm=>?_) (λ b u e=>?_) I.bare
 ·by_cases hb:b=P
  ·exact⟨_,hb▸hn⟩
  ·exact⟨o,k b o hb e⟩
 ·by_cases hb:b=P
  ·subst hb;rw[hP]at e;cases e;exact⟨more,Z0e⟩
  ·exact⟨#[],by rw[Z0h hb,e];simp⟩
 ·obtain⟨o,es,ep,ho,r⟩:=hm;exact⟨o,es,ep,k _ o (np _ I.free) ho,r⟩
 ·by_cases hb:b=P
  ·subst hb;rw[Z0e]at e;cases e;exact hn
  ·rw[Z0h hb]at e;refine(I.hok b u e).stay (λ c v hc q=>k c v ?_ q) (λ c q=>?_) λ c xs q=>?_
   ·rcases hc with z|z
    ·rw[z];exact hb
    ·exact J0i z hP (λ z=>by cases z)
   ·rw[Z0h (J0i q hP (λ z=>by cases z))];exact q
   ·rw[Z0h (J0i q hP (λ z=>by cases z))];exact q
theorem Inv.pin1{p:X0×Obj}(I:Inv X pins σ H s)(h:s.heap.get? p.1=some p.2)(hn:H p.1=none)(hl:X.s₀.heap.objs.size<=p.1)(hL:p.1≠X.env.locals)(hd:∀v,p.2.data≠.cell v):Inv X (p::pins) σ H s:=by
 refine I.pins_of λ q hq=>?_;rcases(qa2.mp hq)with rfl|hq
 ·exact⟨h,hn,hL,λ z=>by
   obtain⟨_,o,ho,_⟩:=I.ok.funs.mem z;exact absurd (qb0 (Heap.lt_size ho) hl) (qb8 _),hd⟩
 ·exact I.pin q (qc3 _ hq)
end
end L2
end
section
namespace L2
open PySem PySem.Spec PySem.Calls PyProof.Rows
def Pm(n:Nat)(p:Array Nat):Prop:=p.toList.Perm (qd7 n)
section
variable{n:Nat}{p:Array Nat}
theorem Pm.lt(h:Pm n p)(h0:0<n)(i:Nat):p.getD i 0<n:=by
 rw[Array.getD_eq_getD_getElem?];cases e:p[i]? with
 |none=>exact h0
 |some x=>
  have hm:x∈p.toList:=by
   rw[Array.mem_toList_iff];exact Array.mem_of_getElem? e
  exact qf8.mp (h.mem_iff.mp hm)
end
def CodeHdK(K:y0)(c P:X0):Prop:=∃od vs sl file tf flags tg inF text tt,K.lookup c=some ⟨.type "code",od,.fields vs,sl⟩/\vs[11]?=some (.ref P)/\vs.getD 11 .none=.ref P/\vs.getD 18 .none=.str file tf/\vs.getD 7 .none=.int flags tg/\vs.getD 9 .none=.bool inF/\vs.getD 10 .none=.int text tt/\c≠P
theorem CodeHdK.hd{K:y0}{c P:X0}{h:N0}(x:CodeHdK K c P)(X:K.In h):W.CodeHd h c P:=by
 obtain⟨od,vs,sl,file,tf,flags,tg,inF,text,tt,e,r⟩:=x;obtain⟨r1,r2,r3,r4,r5,r6,r7⟩:=r;exact⟨_,vs,file,tf,flags,tg,inF,text,tt,X _ _ e,rfl,rfl,r1,r2,r3,r4,r5,r6,r7⟩
def J8e(T0:X0)(H:Hp):Prop:=∀b,H b=none\/(∃o xs,H b=some (.frz o (.lst xs)))\/(b=T0/\H b=some (.tbl #[]))
theorem J0d{P:Program}{c T0:X0}{w:M0}{K:y0}{mg mb:V0->Option Z0}{CX:CXT}{k:Nat}{fa a:X0}{fd:FuncData}{x:V0}{sp:Sp}{s₁:U0}{vs:List Z0}{ns:List Int}(Cd:W.CodeHd s₁.heap c T0)(hT:s₁.heap.get? T0=some (W.tabObj #[]))(hKT:K.lookup T0=none)(hbm:∃bm ob,mg "__builtins__"=some (.ref bm)/\bm≠builtinsNs/\s₁.heap.get? bm=some ob/\ob.cls=.type "module"/\ob.dict=some builtinsNs/\ob.data=.plain)(KX:K.In s₁.heap)(hns:s₁.heap.Ns mainGlobals mg)(hb:s₁.heap.Ns builtinsNs mb)(hbb:∀x:V0,x≠"__name__"->mb x=bootBuiltins x)(hlim:s₁.heap.NoLimit)(hg:s₁.gens=#[])(ha:s₁.heap.get? a=some {cls:=.type "list",data:=.seq vs.toArray})(hi:IntsAre vs ns)(hl:ns.length<=sizeLine)(hr:Room k callerA)(F:∀base:N0,K.In base->base.Ns mainGlobals mg->BAt mg base->FnOk P w K mg base CX k fa fd [x] sp)(hbind:∀(s:U0)(u:Z0),BindsTo s fd ⟨[u],[]⟩ [(x,u)])(hsp:∀H:Hp,H T0=some (.tbl #[])->SqL K H a (ns.map V.int)->sp [.ref a] H (λ v _=>v=.bl true) λ _ _ _=>False)(hCX:∀H e s',CX [] H s₁ (λ _ _ _=>False) e s'->False):codeAny (model P w) callerA (.call (.ref fa) ⟨[.ref a],[]⟩) (λ r s'=>r=.ok (.ret (.bool true))/\OldK s₁.heap s'.heap/\s'.os=s₁.os/\AllBare s'.gens) s₁:=by
 have rv:=Z3X hi;have lenV:=hi.length
 --from an abstract heap in which nothing but the script may be tracked
 have core:∀H:Hp,J8e T0 H->H T0=some (.tbl #[])->SqL K H a (ns.map V.int)->HOk P w H s₁.heap->(∀b,H b≠none->b=a\/b=T0)->(H a≠none->K.lookup a=none)->
   codeAny (model P w) callerA (.call (.ref fa) ⟨[.ref a],[]⟩) (λ r s'=>r=.ok (.ret (.bool true))/\OldK s₁.heap s'.heap/\s'.os=s₁.os/\AllBare s'.gens) s₁:=by
  intro H hO hHT hS hok hA hK;have base_of:∀{b:X0}{o:Obj},s₁.heap.get? b=some o->H b=none->(hidT s₁.heap H).get? b=some o:=λ e n=>Z9g e n;have noA:∀{b:X0}{o:Obj}{es:Array DictEntry}{ep:Nat},s₁.heap.get? b=some o->o.data=.dict es ep->H b=none:=λ{b o es ep} e d=>by
   cases q:H b with
   |none=>rfl
   |some u=>
    rcases hA b (by rw[q];simp)with e'|e'
    ·subst e';rw[ha]at e;cases e;have d':Data.seq vs.toArray _=Data.dict es ep:=d;cases d'
    ·subst e';rw[hT]at e;cases e;have d':Data.fields #[]=Data.dict es ep:=d;cases d'
  have nsK:∀{b:X0}{m:V0->Option Z0},s₁.heap.Ns b m->(hidT s₁.heap H).Ns b m:=λ{b m} ⟨o,es,ep,e,d,r⟩=>⟨o,es,ep,base_of e (noA e d),d,r⟩;have hKb:K.In (hidT s₁.heap H):=λ b o e=>base_of (KX b o e) (by
   cases q:H b with
   |none=>rfl
   |some u=>
    rcases hA b (by rw[q];simp)with e'|e'
    ·subst e';rw[hK (by rw[q];simp)]at e;cases e
    ·subst e';rw[hKT]at e;cases e)
  have hM:Mod K mg (hidT s₁.heap H):=⟨hKb,nsK hns,⟨mb,nsK hb,hbb⟩,let⟨mc,h1,h2⟩:=hlim;⟨mc,nsK h1,h2⟩⟩;have e0:Env0 P w K mg (hidT s₁.heap H) callerA [] s₁ H:=⟨rfl,hM,λ b o e=>J0P e,qg2 (Z6M _ _),trivial,λ b hb=>absurd (show b∈([]:List X0)from hb) (by simp),hok,.of_eq hg⟩;have hB:BAt mg (hidT s₁.heap H):=by
   obtain⟨bm,ob,b1,b2,b3,b4,b5,b6⟩:=hbm;have nb:H bm=none:=by
    cases q:H bm with
    |none=>rfl
    |some u=>
     rcases hA bm (by rw[q];simp)with e'|e'
     ·subst e';rw[ha]at b3;cases b3;injection b4 with z
      exact absurd z qQ
     ·subst e';rw[hT]at b3;cases b3;cases b4
   refine⟨bm,ob,b1,b2,λ z=>?_,base_of b3 nb,b4,b5,b6⟩;obtain⟨og,es,ep,eg,dg,_⟩:=hns;rw[<-z,b3]at eg;cases eg;rw[b6]at dg;cases dg
  refine codeAny_mono ((F _ hKb (nsK hns) hB).run callerA [] s₁ H ⟨[.ref a],[]⟩ [.ref a] [.ref a] _ _ hr e0 (hbind s₁ (.ref a)) (.cons rfl .nil) (hsp H hHT hS)) λ r s' h=>?_;cases r with
  |error e=>exact(hCX H e s' h).elim
  |ok fl=>
   cases fl with
   |next=>exact False.elim h
   |brk=>exact False.elim h
   |cont=>exact False.elim h
   |ret u=>
    obtain⟨v,H',os,bare,un,hok',r',q⟩:=h;have q':v=.bl true:=q;subst q';obtain rfl:u=Value.bool true:=r';have old:∀b o,s₁.heap.get? b=some o->asItWas s₁.heap s'.heap b o/\∃o',s'.heap.get? b=some o':=λ b o e=>by
     cases q:H b with
     |none=>
      have z:=un.keep b o e q (by intro z;exact absurd (show b∈([]:List X0)from z) (by simp)) (by simp);exact⟨.inl z,o,z⟩
     |some u=>
      rcases hO b with z|⟨ob,xs,z⟩|⟨rfl,z⟩
      ·rw[q]at z;cases z
      ·have z2:=un.frzs b ob _ z;obtain⟨e1,_⟩:=hok b _ z;obtain⟨e2,_⟩:=hok' b _ z2;rw[e]at e1;cases e1;exact⟨.inl e2,_,e2⟩
      ·obtain⟨more,z2⟩:=un.tbls b _ z;have e2:s'.heap.get? b=some {cls:=.none,data:=.fields (#[]++more)}:=hok' b _ z2;rw[hT]at e;cases e;exact⟨.inr (.inl ⟨(Cd.tab hT).isCodeTable,rfl,#[],more,rfl,e2⟩),_,e2⟩
    exact⟨rfl,⟨λ b o e=>(old b o e).1,λ b o e=>(old b o e).2⟩,os,bare⟩
 cases hk:K.lookup a with
 |some o=>
  --the script is one of the module's own objects
  have e:=KX a o hk;rw[ha]at e;cases e;refine core (λ b=>if b=T0 then some (.tbl #[])else none) (λ b=>?_) (if_pos rfl) (.inr ⟨_,vs.toArray,_,hk,rfl,rfl,rfl,by rw[qb1,lenV];exact hl,by simpa using rv⟩) (λ b u z=>?_) (λ b z=>?_) (λ z=>?_)
  ·by_cases hb:b=T0
   ·exact .inr (.inr ⟨hb,if_pos hb⟩)
   ·exact .inl (if_neg hb)
  ·by_cases hb:b=T0
   ·have z':=(if_pos hb).symm.trans z;cases z';subst hb;exact hT
   ·have z':=(if_neg hb).symm.trans z;cases z'
  ·by_cases hb:b=T0
   ·exact .inr hb
   ·exact absurd (if_neg hb) z
  ·have:a≠T0:=λ y=>by rw[y,hT]at ha;cases ha
   exact absurd (if_neg this) z
 |none=>
  have naT:a≠T0:=λ y=>by rw[y,hT]at ha;cases ha
  refine core (λ b=>if b=a then some (.frz {cls:=.type "list",data:=.seq vs.toArray} (.lst (ns.map V.int)))else if b=T0 then some (.tbl #[])else none) (λ b=>?_) ?_ (.inl (.inr ⟨{cls:=.type "list",data:=.seq vs.toArray},if_pos rfl⟩)) (λ b u z=>?_) (λ b z=>?_) λ _=>hk
  ·by_cases hb:b=a
   ·exact .inr (.inl ⟨_,_,if_pos hb⟩)
   ·by_cases hb2:b=T0
    ·exact .inr (.inr ⟨hb2,(if_neg hb).trans (if_pos hb2)⟩)
    ·exact .inl ((if_neg hb).trans (if_neg hb2))
  ·exact(if_neg (Ne.symm naT)).trans (if_pos rfl)
  ·by_cases hb:b=a
   ·have z':=(if_pos hb).symm.trans z;cases z';subst hb;exact⟨ha,by rw[qa3];exact hl,vs,_,rv,ha⟩
   ·by_cases hb2:b=T0
    ·have z':=((if_neg hb).trans (if_pos hb2)).symm.trans z;cases z';subst hb2;exact hT
    ·have z':=((if_neg hb).trans (if_neg hb2)).symm.trans z;cases z'
  ·by_cases hb:b=a
   ·exact .inl hb
   ·by_cases hb2:b=T0
    ·exact .inr hb2
    ·exact absurd ((if_neg hb).trans (if_neg hb2)) z
theorem J2l{c T0:X0}{l:W.OpenLaw}{n k:Nat}{q:Program}{loose:List V0}{XP:(V0->Option Z0)->N0->Prop}{YP:M0->N0->Prop}{d:DefRec}{K:Params->y0}{CX:M0->CXT}{sp:M0->Sp}{x:V0}(hn:l.most=some n)(hn2:n<=sizeLine)(hdf:d.params.defaults=[])(hr:Room k callerA)(hY:∀(w:M0)(h:N0),YP w h->(K w.params).In h/\h.get? T0=some (W.tabObj #[]))(hKT:∀w:M0,(K w.params).lookup T0=none)(hCd:∀w:M0,CodeHdK (K w.params) c T0)(F:∀(w:M0)(mg:V0->Option Z0)(fa:X0)(h:N0),(K w.params).In h->h.Ns mainGlobals mg->mg d.name=some (.ref fa)->∃fd:FuncData,(∀(s:U0)(u:Z0),BindsTo s fd ⟨[u],[]⟩ [(x,u)])/\∀base:N0,(K w.params).In base->base.Ns mainGlobals mg->BAt mg base->FnOk l.prog w (K w.params) mg base (CX w) k fa fd [x] (sp w))(hsp:∀(w:M0)(H:Hp)(a:X0)(ns:List Int),ns.length<=n->H T0=some (.tbl #[])->SqL (K w.params) H a (ns.map V.int)->sp w [.ref a] H (λ v _=>v=.bl true) λ _ _ _=>False)(hCX:∀(w:M0)(H:Hp)(s:U0)(e:Z0)(s':U0),CX w [] H s (λ _ _ _=>False) e s'->False):W.WalkO q loose XP YP l.row.toRowW d [] (λ f vs=>PySem.call f vs):=by
 refine Att.attach_call hn hdf λ w s₀ s₁ mg mb fa o pm cd doc a vs ns G Y ho hd hcd hmg hobj hints hlen hg=>?_;obtain⟨KX,hT⟩:=hY w _ Y;obtain⟨fd,hb,hF⟩:=F w mg fa _ KX G.T.g hmg;exact J0d ((hCd w).hd KX) hT (hKT w) G.T.bmain KX G.T.g G.T.b G.T.builtins G.T.nolimit hg hobj hints (qa1 hlen hn2) hr hF hb (λ H hO hS=>hsp w H a ns hlen hO hS) λ H e s'=>hCX w H s₁ e s'
noncomputable def J9o(ks:List V0)(ys:List V):List (Key×V):=absD (λ i=>.inr (ks.getD i "")) (λ i=>ys.getD i .non) ks.length
def Itd(d:X0)(o:Obj)(kvs:List (Key×V)):It:=
 ⟨λ i H=>H d=some (.frz o (.dK kvs))/\i<kvs.length,λ i H x H'=>H'=H/\∃k v,kvs[i]?=some (k,v)/\x=kV k,λ i H=>H d=some (.frz o (.dK kvs))/\kvs.length<=i⟩
def UTup(K:y0)(a:X0)(xs:List V):Prop:=∀H:Hp,SqT K H a xs
theorem J4L{K:y0}{a:X0}{o:Obj}{its:Array Z0}{n:Nat}{xs:List V}(hk:K.lookup a=some o)(hc:o.cls=.type "tuple"/\o.dict=none)(hs:o.data=.seq its n)(hz:its.size<=sizeLine)(r:Vals xs its.toList):UTup K a xs:=λ _=>.inr ⟨o,its,n,hk,hc,hs,hz,r⟩
def J9k:V->Bool
 | .non| .bl _| .int _| .str _=>true
 |_=>false
structure Z9D(P:Program)(w:M0)(K:y0)(a:X0)(kvs:List (Key×V)):Prop where
 of:∀h:N0,K.In h->∃vs,KV kvs vs/\h.DictOf (Z2m P w) a vs
 ns:(a==sysModules)=false
section
variable{X:Cx}{o i:Expr}{ty:TE}{pos:Pos}{a:X0}{kvs:List (Key×V)}
def tMIn(kvs:List (Key×V))(ty:TE):TE:=λ σ H Q=>ty σ H λ y H1=>∃k,y=kV k/\Q (.bl (valV kvs k).isSome) H1
def J4P(kvs:List (Key×V))(ty:TE):TE:=λ σ H Q=>ty σ H λ y H1=>∃k v,y=kV k/\valV kvs k=some v/\Q v H1
theorem J8o{kvs:List (Key×V)}{ty:TE}{σ:St}{H:Hp}{Q:VK}:tMIn kvs ty σ H Q=(ty σ H λ y H1=>∃k,y=kV k/\Q (.bl (valV kvs k).isSome) H1):=rfl
theorem J7A{kvs:List (Key×V)}{ty:TE}{σ:St}{H:Hp}{Q:VK}:J4P kvs ty σ H Q=(ty σ H λ y H1=>∃k v,y=kV k/\valV kvs k=some v/\Q v H1):=rfl
theorem J6S(M:Z9D X.prog X.w X.K a kvs)(hi:PE X i ty)(ho:PE X o (tC (.ref a))):PC X .In i o (tMIn kvs ty):=by
 intro pins s σ H Q I h;refine thn (hi pins s σ H _ I h) λ iv s1 ⟨y,H1,I1,ry,k,ey,q1⟩=>thn (ho pins s1 σ H1 (λ v H'=>v=.ref a/\Q (.bl (valV kvs k).isSome) H') I1 ⟨rfl,q1⟩) λ u s2 ⟨x,H2,I2,rx,ex,q2⟩=>?_;subst ex ey;obtain rfl:u=Value.ref a:=rx;obtain⟨vs,rel,dd⟩:=M.of _ I2.kIn;refine wpAny_in_of (J4q ry) M.ns dd.mapOf ?_;rw[<-(rel.val k).isSome_eq];exact⟨.bl _,H2,I2.tok _,rfl,q2⟩
theorem J1f(M:Z9D X.prog X.w X.K a kvs)(ho:PE X o (tC (.ref a)))(hi:PE X i ty)(hs:NoSl i):PE X (.Subscript o i pos) (J4P kvs ty):=by
 intro pins s σ H Q I h;refine J5q PySem.F.slot_dict_getitem.lookup hs (thn (ho pins s σ H (λ v H'=>v=.ref a/\J4P kvs ty σ H' Q) I ⟨rfl,h⟩) λ u s1 ⟨x,H1,I1,rx,ex,q1⟩=>thn (hi pins s1 σ H1 _ I1 q1) λ iv s2 hz_=>?_);obtain⟨y,H2,I2,ry,k,v,ey,l,q2⟩:=hz_;subst ex ey;obtain rfl:u=Value.ref a:=rx;obtain⟨vs,rel,dd⟩:=M.of _ I2.kIn;obtain⟨w',hw,rw'⟩:=RelO.some_of (v:=v) (o:=valueAt vs k) (by rw[<-l];exact rel.val k);exact⟨dd.typeIs,wpAny_getItem_of (J4q ry) dd.mapOf hw ⟨v,H2,I2.tok _,rw',q2⟩⟩
end
inductive Ent(w:M0):List DictEntry->List (Key×V)->Prop
 |nil:Ent w [] []
 |cons{e:DictEntry}{k:Key}{v:V}{es:List DictEntry}{kvs:List (Key×V)}:Z7K k e.key=true->e.hash=keyH w k->RelV v e.val->Ent w es kvs->Ent w (e::es) ((k,v)::kvs)
theorem Ent.of{P:Program}{w:M0}:∀{es:List DictEntry}{kvs:List (Key×V)},Ent w es kvs->∃vs,KV kvs vs/\Pairs (Z2m P w) es vs/\vs.map (·.1)=kvs.map (·.1)/\∀e∈es,∃k,(Z2m P w).is k e.key=true/\e.hash=(Z2m P w).hash k
 |_,_,.nil=>⟨[],.nil,.nil,rfl,λ _ h=>by cases h⟩
 |_,_,.cons (e:=e) (k:=k) (v:=v) h1 h2 h3 t=>by
  obtain⟨vs,a,b,c,d⟩:=Ent.of (P:=P) t;refine⟨(k,e.val)::vs,.cons ⟨rfl,h3⟩ a,.cons h1 rfl b,by rw[qc4,qc4,c],λ e' he'=>?_⟩;rcases qa2.mp he' with z|z
  ·subst z;exact⟨k,h1,h2⟩
  ·exact d e' z
theorem Z8h{P:Program}{w:M0}{K:y0}{a:X0}{o:Obj}{es:Array DictEntry}{ep:Nat}{kvs:List (Key×V)}(l:K.lookup a=some o)(e:o.ExactDict)(d:o.data=.dict es ep)(p:Ent w es.toList kvs)(nd:(kvs.map (·.1)).Nodup)(ns:(a==sysModules)=false):Z9D P w K a kvs:=by
 obtain⟨vs,h1,h2,h3,h4⟩:=Ent.of (P:=P) p;exact⟨λ h hk=>⟨vs,h1,o,es,ep,hk a o l,e,d,λ x hx=>h4 x (by simpa using hx),h2,by rw[h3];exact nd⟩,ns⟩
theorem Z9w{J:It}{g:TG}{te:TE}{Q:VK}{H:Hp}{D:X0}{ys:List V}{σ0:St}(Sv:St->Prop)(R:Nat->V->Hp->Prop)(mono:∀j v H1 H2,R j v H1->Z4p H1 H2->R j v H2)(e0:Sv σ0)(hD:H D=none)(hz:ys.length<=sizeLine)(j1:∀i H1,Same H H1->i<ys.length->J.go i H1)(j2:∀i H1 x H2,Same H H1->J.yld i H1 x H2->H2=H1/\ys[i]?=some x)(j3:∀H1,Same H H1->J.stop ys.length H1)(he:∀i y σ,ys[i]?=some y->Sv σ->∀H1 (K':St->VK),Same H H1->(∀σ3 v H2,Sv σ3->Same H1 H2->R i v H2->K' σ3 v H2)->g y σ H1 λ σ3 H3=>te σ3 H3 (K' σ3))(hQ:∀vs H',Same H H'->H' D=some (.lst vs)->vs.length=ys.length->(∀j v,vs[j]?=some v->R j v H')->Q (.ref D) H'):Z3P J g Z3i te D Q σ0 (upd H D (.lst [])):=by
 refine⟨λ i m σ' H'=>m=ys.length-i/\i<=ys.length/\Sv σ'/\Same H H'/\∃vs,H' D=some (.lst vs)/\vs.length=i/\∀j v,vs[j]?=some v->R j v H',⟨ys.length,by simp,qb4 _,e0,Z0x hD _,[],Z0e,rfl,λ j v h=>by simp at h⟩,?_⟩;rintro i m σ' H' ⟨rfl,hi,hS,s1,vs,hv,hl,hr⟩;by_cases hlt:i<ys.length
 ·refine .inr ⟨j1 i H' s1 hlt,λ σ2 H2=>Sv σ2/\Same H H2/\∃vs,H2 D=some (.lst vs)/\vs.length=i+1/\∀j v,vs[j]?=some v->R j v H2,λ σ2 H2 ⟨a,b,c⟩=>⟨ys.length-(i+1),qR,rfl,hlt,a,b,c⟩,λ x H2 hx=>?_⟩;obtain⟨e1,e2⟩:=j2 i H' x H2 s1 hx;subst e1;unfold Z3i;simp only[if_true];refine he i x σ' e2 hS H2 _ s1 λ σ3 v H3 hS3 s3 hR=>?_;have h3:=s3 _ _ hv;have sn:Z4p H3 (upd H3 D (.lst (vs++[v]))):=λ b o ho hb=>by
   rw[Z0h (λ z=>by rw[z,h3]at hb;cases hb;exact ho _ rfl)];exact hb
  refine⟨vs,h3,qR,hS3,λ b o hb=>?_,_,Z0e,by rw[qa5,hl];rfl,λ j u hj=>?_⟩
  ·rw[Z0h (Z0g hb hD)];exact s3 _ _ (s1 _ _ hb)
  ·by_cases hj':j<vs.length
   ·rw[qh5 hj']at hj;exact mono j u _ _ (mono j u _ _ (hr j u hj) λ b o _ hb=>s3 b o hb) sn
   ·rw[qh4 qR]at hj;have ej:j-vs.length=0:=by
     have:=(qb7.mp hj).1;simp at this;lia
    rw[ej]at hj;cases hj;have:j=i:=by lia
    subst this;exact mono _ _ _ _ hR sn
 ·have e:i=ys.length:=by lia
  subst e;exact .inl ⟨j3 _ s1,hQ vs H' s1 hv hl hr⟩
theorem Z7P{K:y0}{a:X0}{g:TG}{te:TE}{Q:VK}{H:Hp}{D:X0}{ys:List V}{σ0:St}(Sv:St->Prop)(R:Nat->V->Hp->Prop)(mono:∀j v H1 H2,R j v H1->Z4p H1 H2->R j v H2)(e0:Sv σ0)(hD:H D=none)(hz:ys.length<=sizeLine)(ha:∀H1,Same H H1->SqT K H1 a ys)(he:∀i y σ,ys[i]?=some y->Sv σ->∀H1 (K':St->VK),Same H H1->(∀σ3 v H2,Sv σ3->Same H1 H2->R i v H2->K' σ3 v H2)->g y σ H1 λ σ3 H3=>te σ3 H3 (K' σ3))(hQ:∀vs H',Same H H'->H' D=some (.lst vs)->vs.length=ys.length->(∀j v,vs[j]?=some v->R j v H')->Q (.ref D) H'):Z3P (Itt K a) g Z3i te D Q σ0 (upd H D (.lst [])):=
 Z9w Sv R mono e0 hD hz (λ i H1 s h=>⟨ys,ys[i],ha H1 s,qb5 h⟩) (λ i H1 x H2 s h=>⟨h.1,h.2 ys (ha H1 s)⟩) (λ H1 s=>⟨ys,ha H1 s,qa0 _⟩) he hQ
def Itz(K:y0)(l m:X0):It:=
 ⟨λ i H=>∃xs ys x y,SqL K H l xs/\SqL K H m ys/\xs[i]?=some x/\ys[i]?=some y,λ i H v H'=>∃t x y,v=.ref t/\H t=none/\H'=upd H t (.tup [x,y])/\(∀xs,SqL K H l xs->xs[i]?=some x)/\∀ys,SqL K H m ys->ys[i]?=some y,λ i H=>∃xs ys,SqL K H l xs/\SqL K H m ys/\(xs.length<=i\/ys.length<=i)⟩
def ZAt(z TI TO i1 i2 l m:X0)(i:Nat)(h:N0):Prop:=IsZip h z TI TO .none/\IsPair h TI (.ref i1) (.ref i2)/\(∃a b,IsPair h TO a b)/\h.IsListIter i1 l i/\h.IsListIter i2 m i
theorem J2c{P:Program}{w:M0}{K:y0}{elts:List Expr}{x1:Nat}{tpos:Pos}{z TI TO i1 i2 l m:X0}(D:ZipApart z TI TO i1 i2 l m):Turn P w K (.Tuple elts x1 tpos) (Itz K l m) [z,TI,TO,i1,i2] z (ZAt z TI TO i1 i2 l m)where
 mem:=by simp
 obj:=λ i h st b hb=>by
  obtain⟨s1,s2,⟨a,c,s3⟩,⟨o4,s4,_,d4⟩,o5,s5,_,d5⟩:=st;simp only[qa2,qa9,or_false]at hb;rcases hb with e|e|e|e|e<;>subst e
  ·exact⟨_,s1,λ v q=>by cases q⟩
  ·exact⟨_,s2,λ v q=>by cases q⟩
  ·exact⟨_,s3,λ v q=>by cases q⟩
  ·exact⟨o4,s4,λ v q=>by rw[d4]at q;cases q⟩
  ·exact⟨o5,s5,λ v q=>by rw[d5]at q;cases q⟩
 keep:=λ i h h' st k=>by
  obtain⟨s1,s2,⟨a,c,s3⟩,s4,s5⟩:=st;exact⟨k _ (by simp) _ s1,k _ (by simp) _ s2,⟨a,c,k _ (by simp) _ s3⟩,s4.at λ o q=>k _ (by simp) o q,s5.at λ o q=>k _ (by simp) o q⟩
 item:=by
  intro X hP hw hK hc i pins s σ H E I hf st hg;subst hP hw hK;obtain⟨xs,ys,x,y,hq1,hq2,hx,hy⟩:=hg;obtain⟨its,rv,p,_⟩:=I.list hq1;obtain⟨jts,rw',p2,_⟩:=I.list hq2;obtain⟨u,hu,ru⟩:=rv.get hx;obtain⟨v,hv,rv'⟩:=rw'.get hy;obtain⟨s1,s2,⟨a,c,s3⟩,s4,s5⟩:=st;refine wpAny_pyNext_zip_item D s1 s2 s3 s4 s5 p.isList p2.isList (x:=u) (y:=v) (by simpa using hu) (by simpa using hv) λ h' a1 a2 a3 a4 a5 a6 a7=>?_;refine⟨_,rfl,wpAny_letOwnedTupleGo_zip a1 λ h2 b1 sb=>?_⟩;have fresh:H s.heap.objs.size=none:=I.hok.fresh (qa0 _);have lt:∀{b o},s.heap.get? b=some o->b≠s.heap.objs.size:=λ q=>qb2 (Heap.lt_size q);have k2:∀b o,b∉[z,TI,TO,i1,i2]->s.heap.get? b=some o->h2.get? b=some o:=λ b o hb q=>by
   simp only[qa2,qa9,or_false,not_or]at hb;exact sb.extBut b o hb.1 (a7 b o hb.1 hb.2.2.1 hb.2.2.2.1 hb.2.2.2.2 q)
  have htup:h2.get? s.heap.objs.size=some {cls:=.type "tuple",data:=.seq #[u,v]}:=sb.extBut _ _ (lt s1).symm a5;have I2:Inv X pins σ (upd H s.heap.objs.size (.tup [x,y])) {s with heap:=h2,toks:=s.toks}:=
   I.grow hf k2 (λ b o e=>by rw[Z0h (Z0g e fresh)];exact e) λ b o n e=>by
    by_cases hb:b=s.heap.objs.size
    ·subst hb;rw[Z0e]at e;cases e;exact⟨.inl (qa0 _),⟨by show 2<=sizeLine;decide,λ o q=>by rw[htup]at q;cases q;rfl⟩,[u,v],.cons ru (.cons rv' .nil),⟨_,htup,rfl,_,rfl⟩⟩
    ·rw[Z0h hb,n]at e;cases e
  refine⟨.ref s.heap.objs.size,_,I2,rfl,⟨_,x,y,rfl,fresh,rfl,λ zs hz=>by rw[I.list_inj hz hq1];exact hx,λ zs hz=>by rw[I.list_inj hz hq2];exact hy⟩,⟨b1,?_,⟨u,v,?_⟩,?_,?_⟩,λ b hb=>?_⟩
  ·exact sb.extBut _ _ D.TIz (a7 _ _ D.TIz D.TITO D.TIi1 D.TIi2 s2)
  ·exact sb.extBut _ _ D.TOz a2
  ·exact a3.extBut sb.extBut D.i1z
  ·exact a4.extBut sb.extBut D.i2z
  ·have h0:=(hf b hb).1;have:b≠s.heap.objs.size:=by
    simp only[qa2,qa9,or_false]at hb;obtain⟨o4,t4,_⟩:=s4;obtain⟨o5,t5,_⟩:=s5;rcases hb with e|e|e|e|e<;>subst e
    ·exact lt s1
    ·exact lt s2
    ·exact lt s3
    ·exact lt t4
    ·exact lt t5
   rw[Z0h this];exact h0
 done:=by
  intro X hP hw hK hc i pins s σ H E I hf st hg;subst hP hw hK;obtain⟨xs,ys,hq1,hq2,hx⟩:=hg;obtain⟨its,rv,p,_⟩:=I.list hq1;obtain⟨jts,rw',p2,_⟩:=I.list hq2;obtain⟨s1,s2,⟨a,c,s3⟩,s4,s5⟩:=st;have l1:=rv.length;have l2:=rw'.length;refine wpAny_pyNext_zip_end (I.ok.hd hc) D s1 s2 s3 s4 s5 p.isList p2.isList (by simp;lia) λ h' a7=>⟨rfl,?_⟩;exact I.grow (t':=s.toks) hf (λ b o hb q=>by
   simp only[qa2,qa9,or_false,not_or]at hb;exact a7 b o hb.1 hb.2.2.1 hb.2.2.2.1 hb.2.2.2.2 q) (λ _ _ e=>e) λ b o n e=>by rw[n]at e;cases e
 self:=λ A i s Q E st h=>wpAny_pyIter_zip st.1 h
section
variable{X:Cx}
def iZip(K:y0)(ta:TA):TI:=λ σ H R=>ta σ H λ vs H1=>∃a b,vs=[.ref a,.ref b]/\(∃xs,SqL K H1 a xs)/\(∃ys,SqL K H1 b ys)/\R (Itz K a b) H1
theorem J8n{K:y0}{ta:TA}{σ:St}{H:Hp}{R:It->Hp->Prop}:iZip K ta σ H R=ta σ H λ vs H1=>∃a b,vs=[.ref a,.ref b]/\(∃xs,SqL K H1 a xs)/\(∃ys,SqL K H1 b ys)/\R (Itz K a b) H1:=rfl
theorem J0b{elts:List Expr}{x1:Nat}{tpos:Pos}{a b:Expr}{ta:TA}{p pos:Pos}(hg:Gl X "zip")(hm:X.mg "zip"=none)(ha:PA X [a,b] ta)(hb:bootBuiltins "zip"=some (.type "zip"):=by decide+kernel)(he:starEach [a,b] X.env=(false,eval a X.env)::starEach [b] X.env:=by rfl)(hpl:(backTo pos (starEach [b] X.env)).any (·.1)=false:=by rfl):PI X (.Tuple elts x1 tpos) (.Call (.Name "zip" p) [a,b] [] pos) (iZip X.K ta):=by
 intro pins s σ H R I h;refine Call_ (Z4v I hg hm hb (PyProof.Rows.callWith_type1 (thn (ha pos pins s σ H _ I h) λ us s1 hz=>?_) he hpl));obtain⟨vs,H1,I1,r1,l,m,rfl,⟨xs,hq⟩,⟨ys,hq2⟩,q⟩:=hz;obtain⟨u1,u2,rfl,ru1,ru2⟩:=r1.two;cases ru1;cases ru2;obtain⟨its,rv,pl,_⟩:=I1.list hq;obtain⟨jts,rw',pl2,_⟩:=I1.list hq2;obtain⟨o1,g1,_⟩:=id pl.isList;obtain⟨o2,g2,_⟩:=id pl2.isList;refine call_zip_2 pl.isList pl2.isList λ h' zz tti tto j1 j2 es kk=>wpAny_pyIter_zip zz ?_;refine⟨s1.heap.objs.size+4,[s1.heap.objs.size+4,s1.heap.objs.size+2,s1.heap.objs.size+3,s1.heap.objs.size,s1.heap.objs.size+1],_,_,H1,rfl,I1.kept (t':=s1.toks) kk,J2c (zap (Heap.lt_size g1) (Heap.lt_size g2)),⟨zz,tti,⟨_,_,tto⟩,j1,j2⟩,λ b hb=>?_,q⟩;have hb':s1.heap.objs.size<=b:=by
  simp only[qa2,qa9,or_false]at hb;rcases hb with e|e|e|e|e<;>rw[e];all_goals first|exact Nat.le_add_right _ _|exact qa0 _
 exact I1.fpOk hb' (I1.hok.fresh hb')
end
inductive J8F(K:y0)(a:X0)(n:Nat)(H:Hp)(R:List V->Prop):Prop
 |mk(xs:List V)(h:SqL K H a xs)(l:xs.length=n)(q:R xs):J8F K a n H R
end L2
end
section
namespace PySem.XO
open PySem
section
variable{prog:Program}{w:M0}{A:O0}{E:Z0->U0->Prop}{h:N0}{g:Array GenState}{d:Drawn}{t:Nat}{os:OsState}
variable{nm q:V0}{C N:X0}{bs bm bmB:List Z0}{hdct:Bool}{sn:List V0}{sub:List Z0}{ab:Bool}{col:Option Bool}{dd:Option X0}{k0 k1 k2 k3 k5:Option Z0}{B Bn newId nid initId inN:String}{bmN:List Z0}
def born(h:N0)(C:X0)(rest:List Z0):N0:=
 (h.push {cls:=.type "tuple",data:=.seq rest.toArray}).push {cls:=.ref C,data:=.fields #[.ref h.objs.size,.none,.none,.none,.bool false,.none]}
theorem Z2M{rest:List Z0}{b:X0}{o:Obj}(e:h.get? b=some o):(born h C rest).get? b=some o:=Heap.get?_push_of_some _ (Heap.get?_push_of_some _ e)
theorem Z7k{rest:List Z0}:(born h C rest).get? (h.objs.size+1)=some {cls:=.ref C,data:=.fields #[.ref h.objs.size,.none,.none,.none,.bool false,.none]}:=by
 unfold born
 heap_get
theorem Z5W(Fn:ExcBaseFacts Bn newId inN bmN)(hBn:bmB.contains (.type Bn)=true)(F:ExcBaseFacts B nid initId bmB)(T:OwnTail h bmB bm){mN:V0->Option Z0}{rest:List Z0}{f:X0}{ofn:Obj}{Q:Fin->U0->Prop}(hC:h.get? C=some (excClassObj nm q C N bs bm hdct sn sub ab col dd k0 k1 k2 k3 k5 newId))(hn:h.Ns N mN)(hi:mN "__init__"=some (.ref f))(hf:h.get? f=some ofn)(hfc:ofn.cls=.type "function")(hq:codeAny (model prog w) A (.call (.ref f) ⟨.ref (h.objs.size+1)::rest,[]⟩) (λ r s'=>match r with| .ok (.ret v)=>v=.none/\Q (.done (.ret (.ref (h.objs.size+1)))) s'| .ok _=>False| .error x=>E x s') ⟨born h C rest,g,d,t,os⟩)(hrest:rest.length<=sizeLine):wpAny (model prog w) A (Builtin.«type.__call__» ⟨.ref C::rest,[]⟩) Q E ⟨h,g,d,t,os⟩:=by
 repeat (first|with_reducible refine wpAny_madeBy_exc hC ?_|with_reducible refine wpAny_loadPart_at hC ?_|wp_step)
 refine codeAny_call_builtin_code (Code.quiet_builtin _ Fn.quiet) (wpAny_check_new_subU Fn hBn T hC (codeAny_exc_new_subU Fn hBn F T hC ?_ hrest));have hC1:=Z2M (C:=C) (rest:=rest) hC;have hn1:(born h C rest).Ns N mN:=hn.keeps λ b o e=>Z2M e;have self:=Z7k (h:=h) (C:=C) (rest:=rest);have hsub:(Value.ref C::bm).contains (.ref C)=true:=by simp
 have T1:OwnTail (born h C rest) bmB bm:=T.keeps λ b o e=>Z2M e;change wpAny _ _ _ _ _ ⟨born h C rest,g,d,t,os⟩;unfold isInstance;repeat (first|with_reducible refine wpAny_loadPart_at self ?_|(with_reducible refine wpAny_isSubtype_exc hC1 ?_;rw[hsub])|wp_step)
 show wpAny _ _ (typeLookup (.ref C) _) _ _ _;refine wpAny_typeLookup_tail hC1 hn1 T1 F.mroIs F.init.lookup ?_;rw[hi];refine wpAny_holding (wpAny_bind (wpAny_bindSpecial_def (Z2M hf) hfc ?_));refine wpAny_bind (wpAny_call (codeAny_mono hq λ r s' hr=>?_));cases r with
 |error x=>exact hr
 |ok fl=>
  cases fl with
  |ret v=>
   obtain⟨rfl,hr⟩:=hr
   wp_walk
   exact hr
  |next=>exact hr.elim
  |brk=>exact hr.elim
  |cont=>exact hr.elim
theorem J2R(Fn:ExcBaseFacts Bn newId inN bmN)(hBn:bmB.contains (.type Bn)=true)(F:ExcBaseFacts B nid initId bmB)(T:OwnTail h bmB bm){mN:V0->Option Z0}{rest:List Z0}{f:X0}{ofn:Obj}{Q:Z0->U0->Prop}(hC:h.get? C=some (excClassObj nm q C N bs bm hdct sn sub ab col dd k0 k1 k2 k3 k5 newId))(hn:h.Ns N mN)(hi:mN "__init__"=some (.ref f))(hf:h.get? f=some ofn)(hfc:ofn.cls=.type "function")(hq:codeAny (model prog w) (A.under (.builtin "type.__call__" ⟨.ref C::rest,[]⟩)) (.call (.ref f) ⟨.ref (h.objs.size+1)::rest,[]⟩) (λ r s'=>match r with| .ok (.ret v)=>v=.none/\Q (.ref (h.objs.size+1)) s'| .ok _=>False| .error x=>E x s') ⟨born h C rest,g,d,t,os⟩)(hrest:rest.length<=sizeLine):wpAny (model prog w) A (call (.ref C) rest) Q E ⟨h,g,d,t,os⟩:=by
 have look:=tc_lookup;have bnd:=tc_bind (.ref C);have isT:(⟨h,g,d,t,os⟩:U0).TypeIs (.ref C) "type":=⟨_,hC,rfl⟩;refine wpAny_call (codeAny_of_tree ?_);change wpAny _ _ (callAny (.ref C) _) _ _ _;repeat (any_goals (first|with_reducible refine wpAny_loadPart_at hC ?_|assumption|wp_step))
 refine⟨rfl,codeAny_call_builtin_at (Code.quiet_builtin _ qP) entry_typeCall (wpAny_check_type_call_sub hC ?_)⟩;exact Z5W Fn hBn F T hC hn hi hf hfc hq hrest
end
section
variable{M:Model}{A:O0}{E:Z0->U0->Prop}{env:Env}{s:U0}
variable{nm q:V0}{C N:X0}{bs bm:List Z0}{hdct:Bool}{sn:List V0}{sub:List Z0}{ab:Bool}{col:Option Bool}{dd:Option X0}{k0 k1 k2 k3 k5:Option Z0}{newId:String}
theorem Z6j{x:Sem Z0}{Q:Flow->U0->Prop}(hbase:bm.contains (.type "BaseException")=true)(hh:A.handled=none)(h:wpAny M A x (λ v s1=>∃e ed vs sl,v=.ref e/\s1.heap.get? C=some (excClassObj nm q C N bs bm hdct sn sub ab col dd k0 k1 k2 k3 k5 newId)/\s1.heap.get? e=some {cls:=.ref C,dict:=ed,data:=.fields vs,slots:=sl}/\vs[1]?=some .none/\E (.ref e) s1) E s):wpAny M A (raiseStmt env (some x) none) Q E s:=by
 have sup:(Value.ref C::bm).contains (.type "BaseException")=true:=by rw[qi0,hbase,qf5]
 unfold raiseStmt;refine wpAny_bind (wpAny_mono h (λ v s1 h1=>?_) λ _ _ z=>z);obtain⟨e,ed,vs,sl,rfl,hC,he,h1',hE⟩:=h1;obtain⟨hp,g,d,tk,os⟩:=s1;have hC':hp.get? C=some (excClassObj nm q C N bs bm hdct sn sub ab col dd k0 k1 k2 k3 k5 newId):=hC;have he':hp.get? e=some {cls:=.ref C,dict:=ed,data:=.fields vs,slots:=sl}:=he;repeat (first|with_reducible refine wpAny_loadPart_at he' ?_|with_reducible refine wpAny_loadPart_at hC' ?_|(with_reducible refine wpAny_isSubtype_exc hC' ?_;rw[sup])|wp_step)
 rw[h1'];refine wpAny_pure (wpAny_ite ?_);rw[if_neg qQ];exact wpAny_pure (wpAny_raiseNew_none hh hE)
end
end PySem.XO
end
section
namespace PySem.W
open PySem PySem.Calls PyProof.Rows Builtin Builtin.ObjectAttr
def Z1S:List Z0->Bool
 |[.type a,.type b,.type c,.type d]=>a=="ValueError"&&b=="Exception"&&c=="BaseException"&&d=="object"
 | .ref _::r=>Z1S r
 |_=>false
theorem Z3K(self:Z0):∀{l:List Z0},Z1S l=true->refuseLoop self "__setattr__" l=pure ()
 |[.type a,.type b,.type c,.type d],e=>by
  simp only[Z1S,qc5,beq_iff_eq]at e;obtain⟨⟨⟨rfl,rfl⟩,rfl⟩,rfl⟩:=e;exact PySem.F.store_ValueError.passes self
 | .ref c::r,e=>by rw[refuseLoop_ref];exact Z3K self (by cases r<;>first|exact e|cases e)
theorem Z7i:∀{l:List Z0},Z1S l=true->l.contains (.type "object")=true
 |[.type a,.type b,.type c,.type d],e=>by
  simp only[Z1S,qc5,beq_iff_eq]at e;obtain⟨⟨⟨rfl,rfl⟩,rfl⟩,rfl⟩:=e;simp
 | .ref c::r,e=>by rw[qi0,Z7i (l:=r) (by cases r<;>first|exact e|cases e),qf5]
def valueOver(K:Frag)(C:X0):Bool:=(clsIn K C).any λ cd=>Z1S cd.mro
section
variable{prog:Program}{w:M0}{A:O0}{E:Z0->U0->Prop}{R:Result->U0->Prop}{s:U0}{K:Frag}{x C:X0}{ox:Obj}{od:Option Obj}
theorem J1B{name:V0}{tk:Tok}{v:Z0}(X:K.In s.heap)(I:InstAt s.heap x ox C od)(hp:valueOver K C=true)(ht:takerIn K C name=some none)(h:∀b,wpAny (model prog w) A.in1 (storeInOwnDict (.ref x) (.ref C) (.str name tk) name v b) (λ fin s'=>match fin with| .done f=>R (.ok f) s'| .again c'=>c'.quiet=true/\codeAny (model prog w) A c' R s') (λ e s'=>R (.error e) s') s):codeAny (model prog w) A (.call (.builtin "object.__setattr__") ⟨[.ref x,.str name tk,v],[]⟩) R s:=by
 have SF:=PySem.F.store_object;obtain⟨cd,hc,ho⟩:=any_some hp;have ne:cd.mro.isEmpty=false:=by
  cases q:cd.mro with
  |nil=>rw[q]at ho;cases ho
  |cons _ _=>rfl
 have sub:Looks (model prog w) s.heap (isInstance (.ref x) (.type "object")) true:=I.type.andThen (looks_mroIn X (by unfold mroIn;rw[hc,qi7,if_neg (by rw[ne];decide),Z7i ho]));refine codeAny_call_builtin SF.slot.plain SF.entry (@check_slot (model prog w) _ _ s "object.__setattr__" "object" "__setattr__" (.ref x) [.str name tk,v] [] _ SF.kind SF.split sub (SF.args (.ref x) (.str name tk) v) ?_);obtain⟨attr,ha,hr⟩:=Option.bind_eq_some_iff.mp ht;have hm:Looks (model prog w) s.heap (mroOf (.ref C)) cd.mro:=(looks_clsIn X hc).andThen .now;have taker:Looks (model prog w) s.heap (storeTaker? attr) none:=by
  cases attr with
  |none=>exact .now
  |some a=>
   obtain⟨b,hb,q⟩:=qd3.mp hr;refine(looks_takesIn X hb).andThen ?_;cases b with
   |true=>cases q
   |false=>exact .now
 rw[osa_eq,refuse_eq];refine wpAny_bind (wpAny_bind (I.type.here (wpAny_bind (hm.here ?_))));rw[Z3K _ ho];exact wpAny_pure (wpAny_bind (I.type.here (wpAny_bind ((looks_findIn X ha).here (wpAny_bind (taker.here (h _)))))))
theorem xset_new{name:V0}{v:Z0}{Q:Unit->U0->Prop}{vs:Array Z0}{sl:Array (Option Z0)}(X:K.In s.heap)(hx:s.heap.get? x=some {cls:=.ref C,dict:=none,data:=.fields vs,slots:=sl})(hs:findIn K (.ref C) "__setattr__"=some (some (.builtin "object.__setattr__")))(hp:valueOver K C=true)(ht:takerIn K C name=some none)(hh:hasDictIn K C=true)(h:∀h',h'.Ns1 s.heap.objs.size (λ y=>if y=name then some v else none)->h'.get? x=some {cls:=.ref C,dict:=some s.heap.objs.size,data:=.fields vs,slots:=sl}->(∀b o,b≠x->s.heap.get? b=some o->h'.get? b=some o)->Q () {s with heap:=h',toks:=s.toks+2}):wpAny (model prog w) A (setAttr (.ref x) name v) Q E s:=by
 have I:InstAt s.heap x {cls:=.ref C,dict:=none,data:=.fields vs,slots:=sl} C none:=⟨hx,rfl,rfl,True.intro⟩;refine set_plain X I hs (J1B (s:={s with toks:=s.toks+1}) X I hp ht λ b=>?_);obtain⟨cd,hc,hd'⟩:=any_some hh;have hxs:x≠s.heap.objs.size:=qb2 (Heap.lt_size hx);have hx1:(s.heap.push {cls:=.type "dict",data:=.dict #[]}).get? x=some {cls:=.ref C,dict:=none,data:=.fields vs,slots:=sl}:=Heap.get?_push_of_some _ hx;refine wpAny_bind (wpAny_pure (wpAny_bind (wpAny_bind (wpAny_loadPart hx (wpAny_bind (Looks.here (s:={s with toks:=s.toks+1}) (looks_clsIn X hc) ?_))))));rw[hd'];change wpAny (model prog w) A.in1 (alloc {cls:=.type "dict",data:=.dict #[]}>>=λ d=>update x (λ o=>{o with dict:=some d})>>=λ _=>dictMade (.ref C) x d) _ _ _;refine wpAny_bind (wpAny_alloc (wpAny_bind (wpAny_update hx1 ?_)));have hgd:((s.heap.push {cls:=.type "dict",data:=.dict #[]}).update x λ o=>{o with dict:=some s.heap.objs.size}).get? s.heap.objs.size=some {cls:=.type "dict",data:=.dict #[]}:=
  (Heap.get?_update_ne _ _ _ _ hxs.symm).trans (Heap.get?_push_at rfl rfl)
 have hnd:((s.heap.push {cls:=.type "dict",data:=.dict #[]}).update x λ o=>{o with dict:=some s.heap.objs.size}).Ns s.heap.objs.size (λ _=>none):=
  ⟨_,#[],_,hgd,rfl,λ e he=>absurd he (by simp),λ _=>rfl⟩
 refine wpAny_pure (a:=some s.heap.objs.size) ?_;show wpAny _ _ (storeInDict s.heap.objs.size (.str name _) name v) _ _ _;unfold storeInDict newKeyGuard;refine wpAny_bind (wpAny_pure (wpAny_bind (wpAny_nsSet1 (Heap.Ns1.of_empty hnd) λ h' hn' sb=>?_)));obtain⟨oD,esD,epD,hoD,hdD,hcD⟩:=hn'.count (Within.cons name v Within.nil);refine wpAny_bind (wpAny_lookBehind hoD (by rw[hdD];exact pastItsLine_dict (qa1 hcD (by rw[qa4,qd2,sizeLine_eq];lia))) ?_);refine wpAny_pure (h h' hn' ?_ λ b o hb e=>?_)
 ·exact(sb.2 x hxs).trans (Heap.get?_update_self _ hx1 rfl)
 ·exact(sb.2 b (qb2 (Heap.lt_size e))).trans ((Heap.get?_update_ne _ _ _ _ hb).trans (Heap.get?_push_of_some _ e))
end
end PySem.W
end
section
namespace PySem.XF
open PySem
structure Wake(fs ex:List X0)(a:X0)(h h':N0):Prop where
 keep:∀b o,h.get? b=some o->b∉fs->b≠a->b∉ex->h'.get? b=some o
 slot:∀b o,h.get? b=some o->b∈fs->b≠a->b∉ex->∃sl,h'.get? b=some {o with slots:=sl}
def TbAt(h:N0)(vs:Array Z0)(T:X0)(fl:Z0):Prop:=vs[1]?=some (.ref T)/\∃oT ts,h.get? T=some oT/\oT.data=.fields ts/\ts[3]?=some fl
section
variable{M:Model}{A:O0}{E:Z0->U0->Prop}{s:U0}
theorem J0m{base:N0}{env:Env}{outer:List Env}{L e:X0}{cls head:Z0}{ed:Option X0}{vs:Array Z0}{sl:Array (Option Z0)}{had:Bool}{Q:Unit->U0->Prop}(hfr:A.frames=some (env::outer))(hl:s.heap.FunFrames base (env::outer))(hf:env.frame=some L)(he:s.heap.get? e=some {cls:=cls,dict:=ed,data:=.fields vs,slots:=sl})(hsz:1<vs.size)(hQ:∀h' vs' T,Wake ((env::outer).filterMap (·.frame)) [] e s.heap h'->s.heap.objs.size<=T->h'.get? e=some {cls:=cls,dict:=ed,data:=.fields vs',slots:=sl}->TbAt h' vs' T (rawInt L)->Q () {s with heap:=h'}):wpAny M A (do let a<-frameOf env;let pl<-entryPlaceOf L had;let b<-EntryCells.newEntry head a .none (rawInt L) .none pl;setField (.ref e) 1 b) Q E s:=by
 have hne:e∉(env::outer).filterMap (·.frame):=λ hm=>by
  obtain⟨_,o,ho,hnf⟩:=hl.mem hm;rw[he]at ho;cases ho;exact hnf vs rfl
 refine wpAny_bind (wpAny_frameOf_fun hfr hl hf λ h1 hs1=>wpAny_bind (wpAny_entryPlaceOf λ pl hpl=>?_));unfold EntryCells.newEntry newFields;refine wpAny_bind (wpAny_newObj_type ?_ (hpl.sizeOk5 _ _ _ _ _));have e1:h1.get? e=some {cls:=cls,dict:=ed,data:=.fields vs,slots:=sl}:=(hs1.2.1 e hne).trans he;generalize htr:({cls:=.type "traceback",dict:=none,data:=.fields ([head,.ref L,.none,rawInt L,.none]++(if pl.isEmpty then List.replicate 6 Value.none else pl)).toArray}:Obj)=otr;have e2:(h1.push otr).get? e=_:=Heap.get?_push_of_some otr e1;have hTe:h1.objs.size≠e:=qe4 (Heap.lt_size e1);refine wpAny_setField e2 rfl hsz (hQ _ (vs.setIfInBounds 1 (.ref h1.objs.size)) h1.objs.size ⟨λ b o e n1 n2 _=>?_,λ b o e n1 n2 _=>?_⟩ (qg2 hs1.1.symm) (Heap.get?_update_self _ e2 rfl) ⟨by simp[hsz],otr,([head,.ref L,.none,rawInt L,.none]++(if pl.isEmpty then List.replicate 6 Value.none else pl)).toArray,?_,by rw[<-htr],?_⟩)
 ·rw[Heap.get?_update_other _ _ (Ne.symm n2)];exact Heap.get?_push_of_some _ ((hs1.2.1 b n1).trans e)
 ·obtain⟨sl,q⟩:=hs1.2.2 b o e;refine⟨sl,?_⟩;rw[Heap.get?_update_other _ _ (Ne.symm n2)];exact Heap.get?_push_of_some _ q
 ·rw[Heap.get?_update_other _ _ (Ne.symm hTe)];refine Heap.get?_push_size _ ?_;rw[<-htr];rfl
 ·first|(simp;done)|(rcases hpl with rfl|⟨_,_,_,_,_,_,_,rfl⟩<;>simp)
theorem Z9x{base:N0}{env:Env}{outer:List Env}{L e:X0}{cls:Z0}{ed:Option X0}{vs:Array Z0}{sl:Array (Option Z0)}{Q:Unit->U0->Prop}(hfr:A.frames=some (env::outer))(hl:s.heap.FunFrames base (env::outer))(hf:env.frame=some L)(he:s.heap.get? e=some {cls:=cls,dict:=ed,data:=.fields vs,slots:=sl})(h1:vs[1]?=some .none)(hQ:∀h' vs' T,Wake ((env::outer).filterMap (·.frame)) [] e s.heap h'->s.heap.objs.size<=T->h'.get? e=some {cls:=cls,dict:=ed,data:=.fields vs',slots:=sl}->TbAt h' vs' T (rawInt L)->Q () {s with heap:=h'}):wpAny M A (noteFrame (.ref e) env) Q E s:=by
 unfold noteFrame;simp only[hf];refine wpAny_bind (wpAny_field he rfl h1 ?_);rw[if_neg qQ];exact J0m hfr hl hf he (qg9.mp h1).1 hQ
theorem J0v{base:N0}{env:Env}{outer:List Env}{L e T0:X0}{cls:Z0}{ed:Option X0}{vs:Array Z0}{sl:Array (Option Z0)}{Q:Unit->U0->Prop}(hfr:A.frames=some (env::outer))(hl:s.heap.FunFrames base (env::outer))(hf:env.frame=some L)(he:s.heap.get? e=some {cls:=cls,dict:=ed,data:=.fields vs,slots:=sl})(htb:TbAt s.heap vs T0 .none)(hTe:T0≠e)(hQ:∀h' vs' T,Wake ((env::outer).filterMap (·.frame)) [T0] e s.heap h'->s.heap.objs.size<=T->h'.get? e=some {cls:=cls,dict:=ed,data:=.fields vs',slots:=sl}->TbAt h' vs' T (rawInt L)->Q () {s with heap:=h'}):wpAny M A (noteFrame (.ref e) env) Q E s:=by
 obtain⟨h1,oT,ts,hT,hdT,h3⟩:=htb;unfold noteFrame;simp only[hf];refine wpAny_bind (wpAny_field he rfl h1 ?_);rw[if_pos (show(Value.ref T0 !=Value.none)=true from by simp)];refine wpAny_bind (wpAny_field hT hdT h3 ?_);rw[if_neg (show ¬((Value.none==rawInt L)=true)from by simp[rawInt])];refine wpAny_bind (wpAny_setField hT hdT (qg9.mp h3).1 ?_);have other:∀b,b≠T0->(s.heap.update T0 (Obj.mapFields (·.setIfInBounds 3 Value.none))).get? b=s.heap.get? b:=λ b hb=>Heap.get?_update_other _ _ (Ne.symm hb);have notT:∀b o,s.heap.get? b=some o->(∀ws,o.data≠.fields ws)->b≠T0:=λ b o hb hnf z=>by
  rw[z,hT]at hb;cases hb;exact hnf ts hdT
 refine J0m (s:={ s with heap:=s.heap.update T0 (Obj.mapFields (·.setIfInBounds 3 Value.none)) }) hfr (hl.of_keeps λ b o hb hnf=>⟨o,(other b (notT b o hb hnf)).trans hb,rfl⟩) hf
  ((other e (Ne.symm hTe)).trans he) (qg9.mp h1).1 λ h' vs' T wk ht q1 q2=>hQ h' vs' T ⟨λ b o e n1 n2 n3=>?_,λ b o e n1 n2 n3=>?_⟩ (qa1 (qg2 (by simp[Heap.update])) ht) q1 q2
 ·exact wk.keep b o ((other b (by simpa using n3)).trans e) n1 n2 (by simp)
 ·exact wk.slot b o ((other b (by simpa using n3)).trans e) n1 n2 (by simp)
theorem J0l{env:Env}{L e T:X0}{cls:Z0}{ed:Option X0}{vs:Array Z0}{sl:Array (Option Z0)}{Q:Unit->U0->Prop}(hf:env.frame=some L)(he:s.heap.get? e=some {cls:=cls,dict:=ed,data:=.fields vs,slots:=sl})(htb:TbAt s.heap vs T (rawInt L))(hQ:Q () s):wpAny M A (noteFrame (.ref e) env) Q E s:=by
 obtain⟨h1,oT,ts,hT,hdT,h3⟩:=htb;unfold noteFrame;simp only[hf];refine wpAny_bind (wpAny_field he rfl h1 ?_);rw[if_pos (show(Value.ref T !=Value.none)=true from by simp)];refine wpAny_bind (wpAny_field hT hdT h3 ?_);rw[if_pos (show(rawInt L==rawInt L)=true from by simp)];exact wpAny_pure hQ
theorem J3A{e T:X0}{cls fl:Z0}{ed:Option X0}{vs:Array Z0}{sl:Array (Option Z0)}{fr:Option X0}{Q:Unit->U0->Prop}(he:s.heap.get? e=some {cls:=cls,dict:=ed,data:=.fields vs,slots:=sl})(htb:TbAt s.heap vs T fl)(hTe:T≠e)(hQ:∀h',Wake [] [T] e s.heap h'->h'.get? e=some {cls:=cls,dict:=ed,data:=.fields vs,slots:=sl}->TbAt h' vs T (fr.elim .none λ f=>rawInt f)->Q () {s with heap:=h'}):wpAny M A (setFlight (.ref e) fr) Q E s:=by
 obtain⟨h1,oT,ts,hT,hdT,h3⟩:=htb;have hsz:=(qg9.mp h3).1;have other:∀b,b≠T->(s.heap.update T (Obj.mapFields (·.setIfInBounds 3 (fr.elim Value.none λ f=>rawInt f)))).get? b=s.heap.get? b:=λ b hb=>Heap.get?_update_other _ _ (Ne.symm hb);unfold setFlight;refine wpAny_bind (wpAny_field he rfl h1 ?_);rw[if_pos (show(Value.ref T !=Value.none)=true from by simp)];refine wpAny_setField hT hdT hsz (hQ _ ⟨λ b o e _ _ n3=>(other b (by simpa using n3)).trans e,λ b o _ n _ _=>absurd n (by simp)⟩ ((other e (Ne.symm hTe)).trans he) ⟨h1,_,_,Heap.get?_update_self _ hT (Obj.isFreed_of_fields (Obj.data_mapFields hdT _)),Obj.data_mapFields hdT _,by simp[hsz]⟩)
end
end PySem.XF
end
section
namespace L2
open PySem PySem.Spec PyProof.Rows PySem.XF
def excO(a C:X0)(ed:Option X0):HO:=.ext λ h=>∃vs sl,h.get? a=some {cls:=.ref C,dict:=ed,data:=.fields vs,slots:=sl}
theorem J1l{P:Program}{w:M0}{H:Hp}{h:N0}{a C:X0}{ed:Option X0}{vs:Array Z0}{sl:Array (Option Z0)}(e:h.get? a=some {cls:=.ref C,dict:=ed,data:=.fields vs,slots:=sl}):ObjOk P w H h a (excO a C ed):=
 ⟨⟨vs,sl,e⟩,⟨_,e⟩,λ h1 h2 ⟨vs,sl,q⟩ k=>⟨vs,sl,k _ q⟩⟩
structure Lone(X:Cx)(pins:List (X0×Obj))(H:Hp)(a T:X0):Prop where
 new:X.s₀.heap.objs.size<=T
 pin:∀p∈X.pn++pins,p.1≠T
 free:H T=none
 ne:T≠a
def Z7S(X:Cx)(pins:List (X0×Obj))(H:Hp)(h:N0)(a C:X0)(ed:Option X0)(fl:Option Z0):Prop:=
 H a=some (excO a C ed)/\∃vs sl,h.get? a=some {cls:=.ref C,dict:=ed,data:=.fields vs,slots:=sl}/\match fl with
  |none=>vs[1]?=some .none
  |some f=>∃T,TbAt h vs T f/\Lone X pins H a T
section
variable{X:Cx}{pins:List (X0×Obj)}{σ:St}{H:Hp}{s:U0}{a C:X0}{ed:Option X0}{E:Z0->U0->Prop}
theorem Inv.lone(I:Inv X pins σ H s){T:X0}{oT:Obj}{ts:Array Z0}(n:Lone X pins H a T)(hT:s.heap.get? T=some oT)(hd:oT.data=.fields ts):(T∈X.ex\/X.s₀.heap.objs.size<=T)/\T≠X.env.locals/\(∀x c,X.env.cells.lookup x=some c->c≠T)/\∀p∈X.pn++pins,p.1≠T:=by
 refine⟨.inr n.new,λ z=>?_,λ x c e z=>?_,n.pin⟩
 ·obtain⟨m,⟨o,es,ep,ho,hd',_⟩,_⟩:=I.loc;rw[<-z,hT]at ho;cases ho;rw[hd]at hd';cases hd'
 ·obtain⟨v,o,ho,hd'⟩:=I.cell x c e;rw[z,hT]at ho;cases ho;rw[hd]at hd';cases hd'
theorem Inv.wake{h':N0}{ex:List X0}{vs:Array Z0}{sl:Array (Option Z0)}(I:Inv X pins σ H s)(hx:H a=some (excO a C ed))(wk:Wake (frs X.stack) ex a s.heap h')(ea:h'.get? a=some {cls:=.ref C,dict:=ed,data:=.fields vs,slots:=sl})(hex:∀b∈ex,H b=none/\(b∈X.ex\/X.s₀.heap.objs.size<=b)/\b≠X.env.locals/\(∀x c,X.env.cells.lookup x=some c->c≠b)/\∀p∈X.pn++pins,p.1≠b):Inv X pins σ H {s with heap:=h'}:=by
 have na:∀b,H b=none->b≠a:=λ b n z=>by rw[z,hx]at n;cases n
 have nfs:∀b o,H b=some o->b∉frs X.stack:=λ b o q z=>by rw[I.stkFree b z]at q;cases q
 have nex:∀b o,H b=some o->b∉ex:=λ b o q z=>by rw[(hex b z).1]at q;cases q
 have there:∀b o,s.heap.get? b=some o->b∉ex->∃o',h'.get? b=some o':=λ b o q z=>by
  by_cases e1:b=a
  ·rw[e1];exact⟨_,ea⟩
  ·by_cases e2:b∈frs X.stack
   ·obtain⟨sl,r⟩:=wk.slot b o q e2 e1 z;exact⟨_,r⟩
   ·exact⟨_,wk.keep b o q e2 e1 z⟩
 refine I.call (g':=s.gens) (d':=s.drawn) (t':=s.toks) (ch:=ex) ⟨λ b o q n h1 h2=>wk.keep b o q h1 (na b n) h2,λ b o q n h1 h2=>wk.slot b o q h1 (na b n) h2,λ _ _ _ n _=>n,there,λ _ _ q=>q,λ _ _ _ q=>q,λ _ ps q=>⟨#[],by simpa using q⟩⟩ (λ b u q=>?_) I.bare λ b hb=>(hex b hb).2;by_cases e1:b=a
 ·subst e1;rw[hx]at q;cases q;exact J1l ea
 ·refine(I.hok b u q).stay (λ c v hc r=>?_) (λ _ r=>r) λ _ _ r=>r;have hca:c≠a:=by
   rcases hc with rfl|hc
   ·exact e1
   ·intro z;rw[z,hx]at hc;cases hc
  have hcH:∃o,H c=some o:=by
   rcases hc with rfl|hc
   ·exact⟨_,q⟩
   ·exact⟨_,hc⟩
  obtain⟨o,hcH⟩:=hcH;exact wk.keep c v r (nfs c o hcH) hca (nex c o hcH)
def Z8z(X:Cx)(pins:List (X0×Obj))(H:Hp)(h:N0)(a C:X0)(ed:Option X0):Prop:=
 Z7S X pins H h a C ed none\/Z7S X pins H h a C ed (some .none)\/Z7S X pins H h a C ed (some (rawInt X.env.locals))
theorem Z8w(I:Inv X pins σ H s)(hx:H a=some (excO a C ed)){T:X0}(hT:s.heap.objs.size<=T):Lone X pins H a T:=by
 refine⟨qa1 I.sz hT,λ p hp z=>?_,I.hok.fresh hT,λ z=>?_⟩
 ·have:=Heap.lt_size (I.pin p hp).1;rw[z]at this;exact absurd (qb0 this hT) (qb8 _)
 ·have:=I.hok.lt hx;rw[<-z]at this;exact absurd (qb0 this hT) (qb8 _)
theorem Z5x{A:O0}{Q:Unit->U0->Prop}(I:Inv X pins σ H s)(hA:A.frames=X.A.frames)(hs:X.stack=X.env::X.outer)(hf:X.env.frame=some X.env.locals)(F:Z8z X pins H s.heap a C ed)(h:∀s',Inv X pins σ H s'->Z7S X pins H s'.heap a C ed (some (rawInt X.env.locals))->Q () s'):wpAny (model X.prog X.w) A (noteFrame (.ref a) X.env) Q E s:=by
 have hfr:A.frames=some (X.env::X.outer):=by rw[hA,I.ok.frames,hs]
 have hl:s.heap.FunFrames X.base (X.env::X.outer):=by have:=I.stack;rw[hs]at this;exact this
 have hfs:(X.env::X.outer).filterMap (·.frame)=frs X.stack:=by rw[hs];rfl
 rcases F with⟨hx,vs,sl,ea,h1⟩|⟨hx,vs,sl,ea,T,tb,ln⟩|⟨hx,vs,sl,ea,T,tb,ln⟩
 ·refine Z9x hfr hl hf ea h1 λ h' vs' T wk hT ea' tb'=>h _ (I.wake hx (by rw[hfs]at wk;exact wk) ea' λ b z=>absurd z (by simp)) ⟨hx,vs',sl,ea',T,tb',Z8w I hx hT⟩
 ·refine J0v hfr hl hf ea tb ln.ne λ h' vs' T' wk hT ea' tb'=>h _ (I.wake hx (by rw[hfs]at wk;exact wk) ea' λ b z=>?_) ⟨hx,vs',sl,ea',T',tb',Z8w I hx hT⟩;obtain rfl:b=T:=by simpa using z
  obtain⟨_,oT,ts,q1,q2,_⟩:=tb;exact⟨ln.free,I.lone ln q1 q2⟩
 ·exact J0l hf ea tb (h s I ⟨hx,vs,sl,ea,T,tb,ln⟩)
theorem Z2J{A:O0}{fr:Option X0}{fl:Z0}{Q:Unit->U0->Prop}(I:Inv X pins σ H s)(F:Z7S X pins H s.heap a C ed (some fl))(h:∀s',Inv X pins σ H s'->Z7S X pins H s'.heap a C ed (some (fr.elim .none λ f=>rawInt f))->Q () s'):wpAny (model X.prog X.w) A (setFlight (.ref a) fr) Q E s:=by
 obtain⟨hx,vs,sl,ea,T,tb,ln⟩:=F;refine J3A ea tb ln.ne λ h' wk ea' tb'=>h _ (I.wake hx ⟨λ b o q _ n2 n3=>wk.keep b o q (by simp) n2 n3,λ b o q _ n2 n3=>⟨o.slots,wk.keep b o q (by simp) n2 n3⟩⟩ ea' λ b z=>?_) ⟨hx,vs,sl,ea',T,tb',ln⟩;obtain rfl:b=T:=by simpa using z
 obtain⟨_,oT,ts,q1,q2,_⟩:=tb;exact⟨ln.free,I.lone ln q1 q2⟩
end
def Raised(X:Cx)(E:St->XK)(e:Z0)(s:U0):Prop:=∃a C ed σ H,e=.ref a/\Inv X [] σ H s/\Z8z X [] H s.heap a C ed/\E σ (.ref C) ed H
def CXe(P:Program)(w:M0):CXT:=λ outer H s E e s'=>∃a C ed H',e=.ref a/\s'.os=s.os/\AllBare s'.gens/\Un (frs outer) [] H H' s.heap s'.heap/\HOk P w H' s'.heap/\H' a=some (excO a C ed)/\
 (∃vs sl,s'.heap.get? a=some {cls:=.ref C,dict:=ed,data:=.fields vs,slots:=sl}/\∃T,TbAt s'.heap vs T .none/\s.heap.objs.size<=T/\H' T=none/\T≠a)/\E (.ref C) ed H'
section
variable{X:Cx}{E:St->XK}
theorem Z0F(hs:X.stack=X.env::X.outer)(hf:X.env.frame=some X.env.locals):PassesOwn (model X.prog X.w) X.A X.env (Raised X E):=by
 rintro e s ⟨a,C,ed,σ,H,rfl,I,F,q⟩;refine Z5x I rfl hs hf F λ s1 I1 F1=>?_;obtain⟨hx,vs,sl,ea,T,tb,ln⟩:=F1;refine wpAny_bind (wpAny_field ea rfl tb.1 ?_);rw[if_neg (show ¬((Value.ref T==Value.none)=true)from by simp)];refine Z2J I1 ⟨hx,vs,sl,ea,T,tb,ln⟩ λ s2 I2 F2=>?_;rw[hf]at F2;exact⟨a,C,ed,σ,H,rfl,I2,.inr (.inr F2),q⟩
theorem Z6B{pins:List (X0×Obj)}{σ:St}{H:Hp}{s s':U0}{e:Z0}{E':XK}(I:Inv X pins σ H s)(c:CXe X.prog X.w X.stack H s E' e s')(h:∀cl ed H',E' cl ed H'->E σ cl ed H'):Raised X E e s':=by
 obtain⟨a,C,ed,H',rfl,ho,hg,un,hok,hx,⟨vs,sl,ea,T,tb,hT,hfT,hne⟩,q⟩:=c;have I1:Inv X pins σ H' s':=I.call' ho un hok hg λ b z=>absurd z (by simp);have I2:Inv X [] σ H' s':=I1.pins_of λ p hp=>absurd hp (by simp);refine⟨a,C,ed,σ,H',rfl,I2,.inr (.inl ⟨hx,vs,sl,ea,T,tb,qa1 I.sz hT,λ p hp z=>?_,hfT,hne⟩),h _ _ _ q⟩;have hp':p∈X.pn:=by simpa using hp
 have:=Heap.lt_size (I.pin p (qg0 _ hp')).1;rw[z]at this;exact absurd (qb0 this hT) (qb8 _)
theorem Raised.passes{E':XK}(h:∀σ cl ed H',E' cl ed H'->E σ cl ed H'):Z3J (CXe X.prog X.w) (X.wish (Raised X E)) E':=λ pins σ H s e s' I c=>Z6B I.unwish c λ _ _ _ q=>h _ _ _ _ q
end
section
variable{P:Program}{w:M0}{K:y0}{mg:V0->Option Z0}{base:N0}
theorem Z8A{N:List V0}{qual:V0}{scope:Scope}{f:X0}{cd:Z0}{A:O0}{outer:List Env}{s:U0}{H:Hp}{E:XK}{e:Z0}{s':U0}(r:Raised (cxOf (CXe P w) P w K mg base N qual scope f cd A outer s H E) (λ _=>E) e s'):(cxOf (CXe P w) P w K mg base N qual scope f cd A outer s H E).xe e s':=by
 obtain⟨a,C,ed,σ,H',rfl,I,F,q⟩:=r;show wpAny _ _ (leaving _ _) _ _ _;unfold leaving;refine wpAny_bind (Z5x I rfl rfl rfl F λ s1 I1 F1=>Z2J I1 F1 λ s2 I2 F2=>?_);obtain⟨hx,vs,sl,ea,T,tb,ln⟩:=F2;exact⟨a,C,ed,H',rfl,I2.os,I2.bare,I2.base,I2.hok,hx,⟨vs,sl,ea,T,tb,ln.new,ln.free,ln.ne⟩,q⟩
theorem Fun.okX{x qual:V0}{st:Stmt}{f:X0}{fd:FuncData}{N ps:List V0}{k:Nat}{sp:Sp}(F:Fun K x qual st f fd)(S:Z0j N ps (Z0d st))(len:∀vs H Q E,sp vs H Q E->vs.length=ps.length)(hbody:∀(cdv:Z0)(A:O0)(outer:List Env)(s:U0)(H:Hp)(vs:List V)(Q:VK)(E:XK),Room k (A.deeper (envOfC qual (Z0d st) s.heap.objs.size f cdv))->sp vs H Q E->∃t,PSs ((cxOf (CXe P w) P w K mg base N qual (Z0d st) f cdv A outer s H E).wish (Raised (cxOf (CXe P w) P w K mg base N qual (Z0d st) f cdv A outer s H E) λ _=>E)) (Z0y st) t/\t {nx:=λ _ H'=>Q .non H',rt:=Q} (Z3u N vs) H):FnOk P w K mg base (CXe P w) (k+1) f fd ps sp:=by
 obtain⟨oc,od,kV,doc,pm,an,cdv,ct,osl,rfl,lk,hcd⟩:=F.ex;refine J4I lk hcd S len λ A outer s H vs Q E hr hsp=>?_;obtain⟨t,h,q⟩:=hbody cdv A outer s H vs Q E hr hsp;refine⟨t,λ pins s1 σ H1 D I hw=>wpAny_mono (h pins s1 σ H1 D (I.wish _) hw) (λ _ _ z=>z.unwish) λ e s2 z=>Z8A z,q⟩
end
open PySem.XO
abbrev bmV:List Z0:=[.type "ValueError",.type "Exception",.type "BaseException",.type "object"]
def xIn(K:y0)(C:X0)(ini:Option X0):Bool:=match K.lookup C with
 |some ⟨.type "type",_,.cls cd,sl⟩=>(match cd.mro,sl.toList with
  | .ref C'::bm,[_,_,_,_,some (.builtin n),_]=>C'==C&&n=="ValueError.__new__"&&!cd.hasDel&&W.tailIn K bmV bm&&W.nsOkIn K cd.ns&&W.nsIn K cd.ns "__init__"==some (ini.map .ref)
  |_,_=>false)
 |_=>false
theorem Z9E{K:y0}{h:N0}{N:X0}{mg:V0->Option Z0}{n:V0}{v:Z0}(X:K.In h)(G:h.Ns N mg)(e:W.nsIn K N n=some (some v)):mg n=some v:=by
 obtain⟨o,es,ep,ho,hd,_,hf⟩:=G;unfold W.nsIn at e;split at e
 ·rename_i c d es' n' sl q;have:=X _ _ q;rw[ho]at this;cases this;cases hd;split at e
  ·rename_i en he;cases e;rw[<-hf];unfold nsFind findBy;rw[<-Array.find?_toList,he];rfl
  ·split at e<;>cases e
 ·cases e
theorem Z3d{K:y0}{h:N0}{C:X0}{ini:Option X0}(X:K.In h)(q:xIn K C ini=true):∃nm qn N bs bm hdct sn sub ab col dd k0 k1 k2 k3 k5 mN,K.lookup C=some (excClassObj nm qn C N bs bm hdct sn sub ab col dd k0 k1 k2 k3 k5 "ValueError.__new__")/\h.Ns N mN/\mN "__init__"=ini.map .ref/\OwnTail h bmV bm:=by
 unfold xIn at q;split at q
 ·rename_i dd cd sl ho;split at q
  ·rename_i C' bm k0 k1 k2 k3 n k5 hm hs;simp only[qc5,beq_iff_eq,Bool.not_eq_true']at q;obtain⟨⟨⟨⟨⟨rfl,rfl⟩,hdel⟩,ht⟩,hok⟩,hi⟩:=q;obtain⟨nm,bs,mro,ns,qn,hd,sn,sub,ab,col,del⟩:=cd;dsimp only at hm hdel hok hi;subst hm hdel;have hsl:sl=#[k0,k1,k2,k3,some (.builtin "ValueError.__new__"),k5]:=by
    obtain⟨l⟩:=sl;simp only at hs;rw[hs]
   subst hsl;have G:h.Ns ns (h.nsMap ns):=.of_isNs (W.isNs_of_in X hok);refine⟨nm,qn,ns,bs,bm,hd,sn,sub,ab,col,dd,k0,k1,k2,k3,k5,h.nsMap ns,ho,G,?_,W.tail_of_in X ht⟩;cases ini with
   |none=>exact W.ns_none_of X G hi
   |some f=>exact Z9E X G hi
  ·cases q
 ·cases q
theorem Z4a{h:N0}{bm:List Z0}(T:OwnTail h bmV bm):bm.contains (.type "BaseException")=true:=T.hasType qQ
theorem J2G{H:Hp}{a:X0}{o:HO}(h:H a=some o):upd H a o=H:=by
 funext b;unfold upd;split
 ·rename_i e;rw[e,h]
 ·rfl
def excN(a C:X0)(ed:Option X0):HO:=.ext λ h=>∃vs sl,h.get? a=some {cls:=.ref C,dict:=ed,data:=.fields vs,slots:=sl}/\vs[1]?=some .none
theorem Z5v{P:Program}{w:M0}{H:Hp}{h:N0}{a C:X0}{ed:Option X0}{vs:Array Z0}{sl:Array (Option Z0)}(e:h.get? a=some {cls:=.ref C,dict:=ed,data:=.fields vs,slots:=sl})(n:vs[1]?=some .none):ObjOk P w H h a (excN a C ed):=
 ⟨⟨vs,sl,e,n⟩,⟨_,e⟩,λ h1 h2 ⟨vs,sl,q,n⟩ k=>⟨vs,sl,k _ q,n⟩⟩
section
variable{X:Cx}{pins:List (X0×Obj)}{σ:St}{H:Hp}{s:U0}{a C:X0}{ed:Option X0}{E:Z0->U0->Prop}
theorem Inv.newExc(I:Inv X pins σ H s)(h:H a=some (excN a C ed)):∃vs sl,s.heap.get? a=some {cls:=.ref C,dict:=ed,data:=.fields vs,slots:=sl}/\vs[1]?=some .none:=(I.hok a _ h).1
theorem Inv.anExc(I:Inv X pins σ H s)(h:H a=some (excO a C ed)):∃vs sl,s.heap.get? a=some {cls:=.ref C,dict:=ed,data:=.fields vs,slots:=sl}:=(I.hok a _ h).1
theorem Inv.ready(I:Inv X pins σ H s)(h:H a=some (excN a C ed)):Inv X pins σ (upd H a (excO a C ed)) s/\Z7S X pins (upd H a (excO a C ed)) s.heap a C ed none:=by
 obtain⟨vs,sl,e,n⟩:=I.newExc h;refine⟨?_,Z0e,vs,sl,e,n⟩;exact I.write (t':=s.toks) (h':=s.heap) (x:=a) (e:=a) (by rw[h];exact True.intro) (.inl rfl) (λ b u _ q=>q) ⟨_,e⟩ (J1l e)
end
abbrev TJ:=V0->TE
def PJ(X:Cx)(es:List Expr)(t:TJ):Prop:=
 ∀(pins:List (X0×Obj))(s:U0)(σ:St)(H:Hp)(acc:V0)(Q:VK),Inv X pins σ H s->t acc σ H Q->wpAny (model X.prog X.w) X.A (joinParts acc (evalEach es X.env)) (EP X pins σ Q) X.xe s
def J6N:TJ:=λ acc _ H Q=>acc.length<=sizeLine/\Q (.str acc) H
def J3D(te:TE)(tr:TJ):TJ:=λ acc σ H Q=>te σ H λ x H1=>∃z,x=.str z/\(acc++z).length<=sizeLine/\tr (acc++z) σ H1 Q
def tFmt(te:TE):TE:=λ σ H Q=>te σ H λ x H1=>(∃i,x=.int i/\i.natAbs.log2<1920/\Q (.str (toString i)) H1)\/(∃z:V0,x=.str z/\z.length<=sizeLine/\Q (.str z) H1)
section
variable{X:Cx}{e v1 v2:Expr}{es:List Expr}{te:TE}{t:TJ}{pos:Pos}
theorem Z9N:PJ X [] J6N:=λ pins s σ H acc Q I h=>joinParts_nil ⟨.str acc,H,I.tok _,⟨_,rfl⟩,h.2⟩ h.1
theorem Z3e(he:PE X e te)(hr:PJ X es t)(hs:evalEach (e::es) X.env=eval e X.env::evalEach es X.env:=by rfl):PJ X (e::es) (J3D te t):=by
 intro pins s σ H acc Q I h;rw[hs];refine joinParts_cons (thn (he pins s σ H _ I h) λ u s1 ⟨x,H1,I1,r1,z,ex,hz,q1⟩=>?_);subst ex;obtain⟨tk,rfl⟩:=r1;exact⟨hz,hr pins s1 σ H1 _ Q I1 q1⟩
theorem Z7C(h:PJ X (v1::v2::es) t)(hs:evalEach (v1::v2::es) X.env=eval v1 X.env::eval v2 X.env::evalEach es X.env:=by rfl):PE X (.JoinedStr (v1::v2::es) pos) (t Str.empty):=by
 intro pins s σ H Q I q;refine JoinedStr_many ?_;have:=h pins s σ H Str.empty Q I q;rw[hs]at this;exact this
theorem J0S(he:PE X e te):PE X (.FormattedValue e (-1) none pos) (tFmt te):=by
 intro pins s σ H Q I h;refine PyProof.Rows.FormattedValue_plain (thn (he pins s σ H _ I h) λ u s1 ⟨x,H1,I1,r1,q1⟩=>?_);rcases q1 with⟨i,ex,hi,q⟩|⟨z,ex,hz,q⟩
 ·subst ex;obtain⟨tk,rfl⟩:=r1;exact formatField_int_small hi ⟨.str _,H1,I1.tok _,⟨_,rfl⟩,q⟩
 ·subst ex;obtain⟨tk,rfl⟩:=r1;exact formatField_str (λ t' tk'=>⟨.str _,H1,I1.tok _,⟨_,rfl⟩,q⟩) hz
end
structure XSup(K:y0)(B:X0):Prop where
 ga:W.specialIn K (.ref B) "__getattribute__"=some (some (.builtin "type.__getattribute__"))
 rd:W.readsIn K B (.type "type")=true
 ini:W.findCls K (.ref B) (.type "type") "__init__"=some (.val (.builtin "ValueError.__init__"))
def J7a(K:y0)(t:TA):TE:=λ σ H Q=>t σ H λ vs H1=>∃x C ini ed ws,vs=.ref x::ws/\H1 x=some (excN x C ed)/\xIn K C ini=true/\ws.length<=sizeLine/\Q .non H1
section
variable{X:Cx}{e:Expr}{es:List Expr}{te:TE}{t:TA}{pos apos p:Pos}{B:X0}{b:V0}
theorem Z9v{pins:List (X0×Obj)}{σ:St}{H:Hp}{s:U0}{x C:X0}{ini ed:Option X0}{us:List Z0}{Q:Z0->U0->Prop}(I:Inv X pins σ H s)(hx:H x=some (excN x C ed))(hC:xIn X.K C ini=true)(hz:us.length<=sizeLine)(h:∀s',Inv X pins σ H s'->Q .none s'):wpAny (model X.prog X.w) X.A (call (.builtin "ValueError.__init__") (.ref x::us)) Q X.xe s:=by
 obtain⟨nm,qn,N,bs,bm,hdct,sn,sub,ab,col,dd,k0,k1,k2,k3,k5,mN,lC,nN,hi,T⟩:=Z3d I.kIn hC;have oC:=I.kIn _ _ lC;obtain⟨vs,sl,ex,h1⟩:=I.newExc hx;have F:=qj3;obtain⟨hp,g,d,tk,os⟩:=s;have oC':hp.get? C=some (excClassObj nm qn C N bs bm hdct sn sub ab col dd k0 k1 k2 k3 k5 "ValueError.__new__"):=oC;have ex':hp.get? x=some {cls:=.ref C,dict:=ed,data:=.fields vs,slots:=sl}:=ex;refine wpAny_call (codeAny_call_builtin F.init.plain F.initEntry (wpAny_check_init_subU F T oC' ex' rfl ?_));have hsz:0<vs.size:=Nat.lt_trans (Nat.zero_lt_one) (qg9.mp h1).1;unfold Builtin.«BaseException.__init__»;have ex2:(hp.push {cls:=.type "tuple",data:=.seq us.toArray}).get? x=some {cls:=.ref C,dict:=ed,data:=.fields vs,slots:=sl}:=Heap.get?_push_of_some _ ex'
 wp_walk
 have J:Inv X pins σ H ⟨(hp.push {cls:=.type "tuple",data:=.seq us.toArray}).update x (Obj.mapFields (·.setIfInBounds 0 (.ref hp.objs.size))),g,d,tk,os⟩:=by
  have J1:=I.kept (t':=tk) (h':=hp.push {cls:=.type "tuple",data:=.seq us.toArray}) λ b u q=>Heap.get?_push_of_some _ q;have e3:=Heap.get?_update_self (Obj.mapFields (·.setIfInBounds 0 (.ref hp.objs.size))) ex2 rfl;have J2:=J1.write (t':=tk) (h':=(hp.push {cls:=.type "tuple",data:=.seq us.toArray}).update x (Obj.mapFields (·.setIfInBounds 0 (.ref hp.objs.size)))) (x:=x) (e:=x) (o:=excN x C ed) (by rw[hx];exact True.intro) (.inl rfl) (λ b u n q=>(Heap.get?_update_other _ _ (Ne.symm n)).trans q) ⟨_,e3⟩ (Z5v e3 (by show(vs.setIfInBounds 0 _)[1]?=_;rw[Array.getElem?_setIfInBounds_ne qQ];exact h1));rw[J2G hx]at J2;exact J2
 rw[show vs[0]?=some vs[0]from Array.getElem?_eq_getElem hsz];refine wpAny_pure (wpAny_bind (wpAny_setField ex2 rfl hsz ?_));have fin:∀s',Inv X pins σ H s'->wpAny (model X.prog X.w) X.A.in1 (ret Value.none) (λ fin s'=>match fin with
   | .done f=>(match(Except.ok f:Result)with| .ok (.ret v)=>Q v s'| .ok _=>False| .error e=>X.xe e s')
   | .again c'=>c'.quiet=true/\codeAny (model X.prog X.w) X.A c' (λ r s'=>match r with| .ok (.ret v)=>Q v s'| .ok _=>False| .error e=>X.xe e s') s') (λ e s'=>X.xe e s') s':=λ s' K=>wpAny_pure (h s' K)
 split
 ·exact wpAny_letGo (fin _ J)
 ·exact wpAny_pure (fin _ J)
theorem J2B(hB:XSup X.K B)(hg:Gl X b)(hm:X.mg b=some (.ref B))(ha:PA X (e::es) t)(hd:(b==("__debug__":V0))=false:=by decide)(hst:starEach (e::es) X.env=(false,eval e X.env)::starEach es X.env:=by rfl)(hpl:(backTo pos (starEach es X.env)).any (·.1)=false:=by rfl){pl:Sem Bool}(ht:eval (.Call (.Attribute (.Name b p) "__init__" apos) (e::es) [] pos) X.env=(do
   let ov<-eval (.Name b p) X.env
   standAt apos.atName
   let(f,first)<-holding [ov] (getMethod ov "__init__" pl)
   callWith pos f first (backTo pos (starEach (e::es) X.env)) (backToKw pos (keywordEach [] X.env))):=by rfl):PE X (.Call (.Attribute (.Name b p) "__init__" apos) (e::es) [] pos) (J7a X.K t):=by
 intro pins s σ H Q I h;refine W.methodCall_KW (pl:=pl) (Z2B I hg hm ?_ hd) ht;refine W.method_cls I.kIn hB.ga (W.cls_value I.kIn hB.rd hB.ini rfl ?_);have I1:=I.tok (s.toks+1);have hA:=ha pos pins _ σ H _ I1 h;rw[hst]at hA ⊢;refine Calls.callWith_builtin (by show(false||(backTo pos (starEach es X.env)).any (·.1))=false;rw[hpl]<;>rfl) (Calls.evalArgs_plain ?_);refine thn hA λ us s2 ⟨vs,H2,I2,r2,x,C,ini,ed,ws,ev,hx,hC,hz,q⟩=>?_;subst ev;cases r2 with
 |cons r r'=>
  obtain rfl:=(show _=Value.ref x from r);exact Z9v I2 hx hC (by rw[<-r'.length];exact hz) λ s3 I3=>⟨.non,H2,I3,rfl,q⟩
end
structure XCls(K:y0)(C:X0):Prop where
 sa:W.findIn K (.ref C) "__setattr__"=some (some (.builtin "object.__setattr__"))
 vo:W.valueOver K C=true
 hd:W.hasDictIn K C=true
 ga:W.findIn K (.ref C) "__getattribute__"=some (some (.builtin "BaseException.__getattribute__"))
 gk:W.findIn K (.ref C) "__getattr__"=some none
 hB:W.mroIn K C (.type "BaseException")=some true
 ha:W.findIn K (.ref C) "__class__"=some (some (.builtin "object.__class__"))
 hn:W.specialIn K (.builtin "object.__class__") "__get__"=some (some (.builtin "getset_descriptor.__get__"))
 tk:W.takesIn K (.builtin "object.__class__")=some true
 hm:W.mroIn K C (.type "object")=some true
def J8h(K:y0)(ta tv:TE)(f:V0):TS:=λ D σ H=>tv σ H λ y H1=>ta σ H1 λ x H2=>∃a C,x=.ref a/\H2 a=some (excN a C none)/\XCls K C/\NoAttr K C f/\
 ∀dx,H2 dx=none->D.nx σ (upd (upd H2 a (excN a C (some dx))) dx (.xd [(f,y)]))
section
variable{X:Cx}{o e value:Expr}{f:V0}{pos pos' tpos:Pos}{ta tv:TE}
theorem J5f(ha:PE X o ta)(hv:PE X value tv)(hs:swapsWith value (some (.Attribute o f pos')) pos.line X.env=pure false):PS X (.Assign [.Attribute o f pos'] value pos) (J8h X.K ta tv f):=by
 intro pins s σ H D I h;refine plainObj_wpAny_Assign_Attribute (thn (hv pins s σ H _ I h) λ u s1 ⟨y,H1,I1,ry,q⟩=>thn (ha pins s1 σ H1 _ I1 q) λ ov s2 ⟨x,H2,I2,rx,a,C,ex,ea,c,n,q2⟩=>?_) hs;subst ex;obtain rfl:ov=Value.ref a:=rx;obtain⟨vs,sl,ga,h1⟩:=I2.newExc ea;refine W.xset_new I2.kIn ga c.sa c.vo n.taker c.hd λ h' ns ga' kp=>?_;have fr:H2 s2.heap.objs.size=none:=I2.hok.fresh (qa0 _);refine⟨σ,_,?_,q2 _ fr⟩;have nea:s2.heap.objs.size≠a:=λ z=>by rw[z,ea]at fr;cases fr
 have na:∀b,H2 b=none->b≠a:=λ b n z=>by rw[z,ea]at n;cases n
 have hold:∀b o,H2 b=some o->(∀φ,o≠.ext φ)->upd (upd H2 a (excN a C (some s2.heap.objs.size))) s2.heap.objs.size (.xd [(f,y)]) b=some o:=λ b o q ne=>by
  rw[Z0h (Z0g q fr),Z0h]
  ·exact q
  ·rintro rfl;rw[ea]at q;cases q;exact ne _ rfl
 refine I2.un (t':=s2.toks+2) (h':=h') ⟨λ b o q n _ _=>kp b o (na b n) q,λ b o q n _ _=>⟨o.slots,kp b o (na b n) q⟩,λ b o q n _=>?_,λ b o q _=>?_,λ b xs q=>hold b _ q (λ φ z=>nomatch z),λ b o u q=>hold b _ q (λ φ z=>nomatch z),λ b ps q=>⟨#[],by simpa using hold b _ q (λ φ z=>nomatch z)⟩⟩ λ b u q=>?_
 ·rw[Z0h (λ z=>by rw[z]at q;exact absurd (Heap.lt_size q) (qb8 _)),Z0h (na b n)];exact n
 ·by_cases z:b=a
  ·rw[z];exact⟨_,ga'⟩
  ·exact⟨o,kp b o z q⟩
 ·by_cases z:b=s2.heap.objs.size
  ·subst z;rw[Z0e]at q;cases q;refine⟨_,ns,λ g=>?_⟩;by_cases q:g=f
   ·have hb:(g==f)=true:=beq_iff_eq.mpr q;simp only[qc7,hb,if_pos q];exact ry
   ·have hb:(g==f)=false:=beq_eq_false_iff_ne.mpr q;simp only[qc7,hb,if_neg q];exact True.intro
  ·rw[Z0h z]at q;by_cases z2:b=a
   ·subst z2;rw[Z0e]at q;cases q;exact Z5v ga' h1
   ·rw[Z0h z2]at q;refine(I2.hok b u q).stay (λ c v hc r=>kp c v ?_ r) (λ c r=>hold c _ r (λ φ z=>nomatch z)) λ c xs r=>hold c _ r (λ φ z=>nomatch z);rcases hc with rfl|hc
    ·exact z2
    ·intro z;rw[z,ea]at hc;cases hc
end
def J6C(C:X0)(sp:Sp)(E:St->XK)(t:TA):TS:=λ D σ H=>t σ H λ vs H1=>vs.length<=sizeLine/\∀x,H1 x=none->
 sp (.ref x::vs) (upd H1 x (excN x C none)) (λ v H2=>v=.non/\∃ed,H2 x=some (excN x C ed)/\E σ (.ref C) ed (upd H2 x (excO x C ed))) E0
section
variable{X:Cx}{E:St->XK}{k:Nat}{f C:X0}{fd:FuncData}{ps:List V0}{sp:Sp}{c:V0}{p cpos pos:Pos}{e:Expr}{es:List Expr}{t:TA}
theorem Z8m(hC:xIn X.K C (some f)=true)(kp:W.keepIn X.K (.ref C)=true)(hfn:W.isFn X.K (.ref f)=true)(F:FnOk X.prog X.w X.K X.mg X.base CX0 k f fd ps sp)(hr:Room (k+1) X.A)(hb:Binds X.K fd ps [])(hg:Gl X c)(hm:X.mg c=some (.ref C))(ha:PA (X.wish (Raised X E)) (e::es) t)(hd:(c==("__debug__":V0))=false:=by decide)(hst:starEach (e::es) X.env=(false,eval e X.env)::starEach es X.env:=by rfl)(hpl:(backTo cpos (starEach es X.env)).any (·.1)=false:=by rfl):PS (X.wish (Raised X E)) (.Raise (some (.Call (.Name c p) (e::es) [] cpos)) none pos) (J6C C sp E t):=by
 intro pins s σ H D I h;obtain ⟨nm,qn,N,bs,bm,hdct,sn,sub,ab,col,dd,k0,k1,k2,k3,k5,mN,lC,nN,hi,T⟩:=Z3d I.kIn hC;rw [arm_exec_Raise];refine wpAny_bind (wpAny_standAt ?_);show wpAny _ _ (raiseStmt X.env (some (do let v <-eval (.Call (.Name c p) (e::es) [] cpos) X.env; standAt pos; pure v)) none) _ _ _;refine Z6j (C:=C) (nm:=nm) (q:=qn) (N:=N) (bs:=bs) (bm:=bm) (hdct:=hdct) (sn:=sn) (sub:=sub) (ab:=ab) (col:=col) (dd:=dd) (k0:=k0) (k1:=k1) (k2:=k2) (k3:=k3) (k5:=k5) (newId:="ValueError.__new__") (Z4a T) hr.hd
  (wpAny_bind (thn ?_ λ v s1 z=>wpAny_bind (wpAny_standAt (wpAny_pure z))))
 refine wpAny_Call_Name_kw (Z2B I hg hm ?_ hd);refine W.callWith_K (h₀:=X.base) I.ok.mod.kin kp (thn (ha cpos pins s σ H _ I h) λ us s1 ⟨vs,H1,I1,r,hz,q⟩=>⟨I1.kIn,?_⟩) hst hpl;obtain⟨nm',qn',N',bs',bm',hdct',sn',sub',ab',col',dd',k0',k1',k2',k3',k5',mN',lC',nN',hi',T'⟩:=Z3d I1.kIn hC;have FV:=qj3;obtain⟨of,lf,hfc⟩:∃of,X.K.lookup f=some of/\of.cls=.type "function":=by
  have z:(X.K.lookup f).map (·.cls)=some (.type "function"):=beq_iff_eq.mp hfn;cases q:X.K.lookup f with
  |none=>rw[q]at z;cases z
  |some of=>rw[q]at z;exact⟨of,rfl,qc8 z⟩
 have hzu:us.length<=sizeLine:=by rw[<-r.length];exact hz
 obtain⟨hp,g,d,tk,os⟩:=s1;have fr:H1 (hp.objs.size+1)=none:=I1.hok.fresh (qf1 _);have e2:(born hp C us).get? (hp.objs.size+1)=some {cls:=.ref C,data:=.fields #[.ref hp.objs.size,.none,.none,.none,.bool false,.none]}:=Z7k;have J1:=I1.kept (t':=tk) (h':=hp.push {cls:=.type "tuple",data:=.seq us.toArray}) λ b u q=>Heap.get?_push_of_some _ q;have J:Inv (X.wish (Raised X E)) pins σ (upd H1 (hp.objs.size+1) (excN (hp.objs.size+1) C none)) ⟨born hp C us,g,d,tk,os⟩:=
  J1.laid (t':=tk) (h':=born hp C us) (λ b u q=>Heap.get?_push_of_some _ q) (qg2 (Heap.size_push _ _)) (Z5v e2 rfl)
 have hq:=q (hp.objs.size+1) fr;have r2:Vals (V.ref (hp.objs.size+1)::vs) (Value.ref (hp.objs.size+1)::us):=.cons rfl r;have hl:(Value.ref (hp.objs.size+1)::us++[]).length=ps.length:=by
  rw[qb6,<-r2.length];exact F.len _ _ _ _ hq
 refine J2R (h:=hp) FV qQ FV T' (I1.kIn _ _ lC') nN' hi' (I1.kIn _ _ lf) hfc ?_ hzu;have bt:=hb ⟨born hp C us,g,d,tk,os⟩ (Value.ref (hp.objs.size+1)::us) J.kIn hl;rw[qb6]at bt;refine codeAny_mono (F.run _ X.stack _ _ ⟨Value.ref (hp.objs.size+1)::us,[]⟩ (Value.ref (hp.objs.size+1)::us) _ _ E0 (hr.make C us []) (J.env0.make C us []) bt r2 hq) λ r s' z=>?_;cases r with
 |error e=>exact z.elim
 |ok fl=>
  cases fl with
  |ret u=>
   obtain⟨v,H',I3,rv,ev,ed,hx,hE⟩:=J.after z;subst ev;obtain⟨vs3,sl3,ex3,h3⟩:=I3.newExc hx;obtain⟨I4,F4⟩:=I3.ready hx;refine⟨rv,_,ed,vs3,sl3,rfl,I3.kIn _ _ lC,ex3,h3,?_⟩;exact⟨_,C,ed,σ,_,rfl,I4.unwish.pins_of λ p hp=>absurd hp (by simp),.inl F4,hE⟩
  |next=>exact z.elim
  |brk=>exact z.elim
  |cont=>exact z.elim
end
section
variable{P:Program}{w:M0}{H H':Hp}{h h':N0}{a:X0}{o:HO}{fs ex:List X0}
theorem ObjOk.get(x:ObjOk P w H h a o):∃u,h.get? a=some u:=by
 cases o with
 |lst xs=>obtain⟨_,_,_,_,e⟩:=x;exact⟨_,e⟩
 |tup xs=>obtain⟨_,_,_,_,e,_⟩:=x;exact⟨_,e⟩
 |dK kvs=>obtain⟨_,_,_,_,o,_,_,e,_⟩:=x;exact⟨_,e⟩
 |dT kvs=>obtain⟨_,_,_,_,o,_,_,e,_⟩:=x;exact⟨_,e⟩
 |set S n=>obtain⟨o,_,_,_,e,_⟩:=x;exact⟨_,e⟩
 |ins C dx fs=>obtain⟨_,_,_,e,_⟩:=x;exact⟨_,e⟩
 |own y=>obtain⟨_,e⟩:=x;exact⟨_,e⟩
 |xd fs=>obtain⟨_,⟨_,_,_,e,_⟩,_⟩:=x;exact⟨_,e⟩
 |rng lo hi=>obtain⟨_,_,_,e⟩:=x;exact⟨_,e⟩
 |frz ob u=>obtain⟨e,_⟩:=x;exact⟨_,e⟩
 |tbl ps=>exact⟨_,(show h.get? a=some _ from x)⟩
 |met f y=>exact⟨_,(show h.get? a=some _ from x)⟩
 |ext φ=>obtain⟨_,⟨_,e⟩,_⟩:=x;exact⟨_,e⟩
theorem HOk.freshN(x:HOk P w H h)(e:h.get? a=none):H a=none:=by
 cases q:H a with
 |none=>rfl
 |some u=>obtain⟨v,z⟩:=(x a u q).get;rw[e]at z;cases z
theorem Un.laidN(k:∀b u,h.get? b=some u->h'.get? b=some u)(hp:h.get? a=none)(hn:H a=none):Un fs ex H (upd H a o) h h' where
 keep:=λ b u q _ _ _=>k b u q
 slot:=λ b u q _ _ _=>⟨u.slots,k b u q⟩
 free:=λ b u q n _=>by rw[Z0h (λ z=>by rw[z,hp]at q;cases q)];exact n
 there:=λ b u q _=>⟨u,k b u q⟩
 tups:=λ b xs q=>by rw[Z0h (Z0g q hn)];exact q
 frzs:=λ b u xs q=>by rw[Z0h (Z0g q hn)];exact q
 tbls:=λ b ps q=>⟨#[],by rw[Z0h (Z0g q hn),q];simp⟩
theorem HOk.laidN(x:HOk P w H h)(k:∀b u,h.get? b=some u->h'.get? b=some u)(hn:H a=none)(new:ObjOk P w (upd H a o) h' a o):HOk P w (upd H a o) h':=λ b u e=>by
 by_cases hb:b=a
 ·subst hb;rw[Z0e]at e;cases e;exact new
 ·rw[Z0h hb]at e;exact(x b u e).stay (λ c v _ q=>k c v q) (λ c q=>by rw[Z0h (Z0g q hn)];exact q) λ c xs q=>by rw[Z0h (Z0g q hn)];exact q
end
def Z7B(C:X0)(E:St->XK)(t:TA):TS:=λ D σ H=>t σ H λ vs H1=>vs.length<=sizeLine/\∀x,H1 x=none->E σ (.ref C) none (upd H1 x (excO x C none))
section
variable{X:Cx}{E:St->XK}{C:X0}{c:V0}{p cpos pos:Pos}{e:Expr}{es:List Expr}{t:TA}
theorem Z9Y(hC:xIn X.K C none=true)(kp:W.keepIn X.K (.ref C)=true){k:Nat}(hr:Room k X.A)(hg:Gl X c)(hm:X.mg c=some (.ref C))(ha:PA (X.wish (Raised X E)) (e::es) t)(hd:(c==("__debug__":V0))=false:=by decide)(hst:starEach (e::es) X.env=(false,eval e X.env)::starEach es X.env:=by rfl)(hpl:(backTo cpos (starEach es X.env)).any (·.1)=false:=by rfl):PS (X.wish (Raised X E)) (.Raise (some (.Call (.Name c p) (e::es) [] cpos)) none pos) (Z7B C E t):=by
 intro pins s σ H D I h;obtain ⟨nm,qn,N,bs,bm,hdct,sn,sub,ab,col,dd,k0,k1,k2,k3,k5,mN,lC,nN,hi,T⟩:=Z3d I.kIn hC;rw [arm_exec_Raise];refine wpAny_bind (wpAny_standAt ?_);show wpAny _ _ (raiseStmt X.env (some (do let v <-eval (.Call (.Name c p) (e::es) [] cpos) X.env; standAt pos; pure v)) none) _ _ _;refine Z6j (C:=C) (nm:=nm) (q:=qn) (N:=N) (bs:=bs) (bm:=bm) (hdct:=hdct) (sn:=sn) (sub:=sub) (ab:=ab) (col:=col) (dd:=dd) (k0:=k0) (k1:=k1) (k2:=k2) (k3:=k3) (k5:=k5) (newId:="ValueError.__new__") (Z4a T) hr.hd
  (wpAny_bind (thn ?_ λ v s1 z=>wpAny_bind (wpAny_standAt (wpAny_pure z))))
 refine wpAny_Call_Name_kw (Z2B I hg hm ?_ hd);refine W.callWith_K (h₀:=X.base) I.ok.mod.kin kp (thn (ha cpos pins s σ H _ I h) λ us s1 ⟨vs,H1,I1,r,hz,q⟩=>⟨I1.kIn,?_⟩) hst hpl;obtain⟨nm',qn',N',bs',bm',hdct',sn',sub',ab',col',dd',k0',k1',k2',k3',k5',mN',lC',nN',hi',T'⟩:=Z3d I1.kIn hC;have FV:=qj3;have hzu:us.length<=sizeLine:=by rw[<-r.length];exact hz
 obtain⟨hp,g,d,tk,os⟩:=s1;refine wpAny_call_exc_subU FV qQ FV T' (I1.kIn _ _ lC') nN' hi' (λ h' x M=>?_) hzu;obtain⟨keeps,new,t',ex,_,_⟩:=M;have fr:H1 x=none:=I1.hok.freshN new;have J:Inv (X.wish (Raised X E)) pins σ (upd H1 x (excN x C none)) ⟨h',g,d,tk,os⟩:=
  I1.un (t':=tk) (Un.laidN keeps new fr) (I1.hok.laidN keeps fr (Z5v ex rfl))
 have hx:upd H1 x (excN x C none) x=some (excN x C none):=Z0e;obtain⟨I4,F4⟩:=J.ready hx;obtain⟨vs3,sl3,ex3,h3⟩:=J.newExc hx;refine⟨x,_,vs3,sl3,rfl,J.kIn _ _ lC,ex3,h3,?_⟩;rw[Z7A]at I4 F4;exact⟨_,C,none,σ,_,rfl,I4.unwish.pins_of λ p hp=>absurd hp (by simp),.inl F4,q x fr⟩
end
theorem Z7H{M:Model}{A:O0}{E:Z0->U0->Prop}{h:N0}{g:Array GenState}{d:Drawn}{t:Nat}{os:OsState}{Q:Bool->U0->Prop}{e:X0}{oe:Obj}{nm q:V0}{C N:X0}{bs bm:List Z0}{hdct:Bool}{sn:List V0}{sub:List Z0}{ab:Bool}{col:Option Bool}{dd:Option X0}{k0 k1 k2 k3 k5:Option Z0}{newId:String}{nm' q':V0}{C' N':X0}{bs' bm':List Z0}{hdct':Bool}{sn':List V0}{sub':List Z0}{ab':Bool}{col':Option Bool}{dd':Option X0}{k0' k1' k2' k3' k5':Option Z0}{newId':String}{b:Bool}(hC:h.get? C=some (excClassObj nm q C N bs bm hdct sn sub ab col dd k0 k1 k2 k3 k5 newId))(he:h.get? e=some oe)(hcls:oe.cls=.ref C)(hB:h.get? C'=some (excClassObj nm' q' C' N' bs' bm' hdct' sn' sub' ab' col' dd' k0' k1' k2' k3' k5' newId'))(hbase:bm'.contains (.type "BaseException")=true)(hsub:(Value.ref C::bm).contains (.ref C')=b)(hq:Q b ⟨h,g,d,t,os⟩):wpAny M A (excMatches (.ref e) (.ref C')) Q E ⟨h,g,d,t,os⟩:=by
 have hcB:(Value.ref C'::bm').contains (.type "BaseException")=true:=by rw[qi0,hbase,qf5]
 have f:=tc_notTuple;unfold excMatches;repeat (first|(with_reducible refine wpAny_loadPart_at he ?_;rw[hcls])|with_reducible refine wpAny_loadPart_at hB ?_|(with_reducible refine wpAny_isSubtype_exc hB ?_;rw[hcB])|(with_reducible refine wpAny_isSubtype_exc hC ?_;rw[hsub])|wp_step)
 cases b<;>(wp_walk;exact hq)
section
variable{X:Cx}{pins:List (X0×Obj)}{σ:St}{H:Hp}{s:U0}
abbrev Cx.pinned(X:Cx)(l:List (X0×Obj)):Cx:={X with pn:=l}
theorem Cx.Ok.pinned(ok:X.Ok)(l:List (X0×Obj)):(X.pinned l).Ok:=⟨ok.mod,ok.kind,ok.glob,ok.blt,ok.above,ok.inj,ok.has,ok.cab,ok.hd,ok.frames,ok.stk,ok.exf,ok.bs,ok.bsz,ok.noex,ok.exfs,ok.funs,ok.frf⟩
theorem Inv.borne(I:Inv X pins σ H s):Inv (X.pinned (X.pn++pins)) [] σ H s:=⟨I.ok.pinned _,I.os,I.bare,I.base,I.loc,I.cell,I.free,I.freeC,λ p hp=>I.pin p (by simpa using hp),I.hok,I.len⟩
theorem Inv.unborne(ok:X.Ok)(I:Inv (X.pinned (X.pn++pins)) [] σ H s):Inv X pins σ H s:=⟨ok,I.os,I.bare,I.base,I.loc,I.cell,I.free,I.freeC,λ p hp=>I.pin p (by simpa using hp),I.hok,I.len⟩
abbrev Cx.held(X:Cx)(e:Z0):Cx:={X with A:=X.A.mark (some e),calm:=false}
theorem Inv.held(I:Inv X pins σ H s)(e:Z0):Inv (X.held e) pins σ H s:=
 ⟨⟨I.ok.mod,I.ok.kind,I.ok.glob,I.ok.blt,I.ok.above,I.ok.inj,I.ok.has,I.ok.cab,(λ z=>nomatch z),I.ok.frames,I.ok.stk,I.ok.exf,I.ok.bs,I.ok.bsz,I.ok.noex,I.ok.exfs,I.ok.funs,I.ok.frf⟩,I.os,I.bare,I.base,I.loc,I.cell,I.free,I.freeC,I.pin,I.hok,I.len⟩
theorem Inv.unheld(ok:X.Ok){e:Z0}(I:Inv (X.held e) pins σ H s):Inv X pins σ H s:=⟨ok,I.os,I.bare,I.base,I.loc,I.cell,I.free,I.freeC,I.pin,I.hok,I.len⟩
end
structure HasX(P:Program)(w:M0)(K:y0)(mg:V0->Option Z0)(base:N0)(k:Nat)(x:V0)(ps:List V0)(sp:Sp):Prop where
 ex:∃f fd,FnOk P w K mg base (CXe P w) k f fd ps sp/\Binds K fd ps []/\W.keepIn K (.ref f)=true/\mg x=some (.ref f)
structure HasMX(P:Program)(w:M0)(K:y0)(mg:V0->Option Z0)(base:N0)(k:Nat)(C:X0)(m:V0)(ps:List V0)(sp:Sp):Prop where
 ex:∃f fd,FnOk P w K mg base (CXe P w) k f fd ps sp/\Binds K fd ps []/\Meth K C m f
abbrev Cx.xx(X:Cx)(E:XK):Cx:=X.wish (Raised X λ _=>E)
section
variable{P:Program}{w:M0}{K:y0}{mg:V0->Option Z0}{base:N0}
theorem HasX.of{x:V0}{st:Stmt}{N ps:List V0}{k:Nat}{sp:Sp}(F:Fn K mg x st)(S:Z0j N ps (Z0d st))(hb:∀(kV doc pm:Z0)(an:Option X0)(cdv ct:Z0)(us:List Z0),us.length=ps.length->bindArgs (W.fnOf x x (Z0O st) (Z0y st) (Z0d st) .none kV doc pm an cdv ct) ⟨us,[]⟩=pure (ps.zip us))(len:∀vs H Q E,sp vs H Q E->vs.length=ps.length)(hbody:∀(f:X0)(cdv:Z0)(A:O0)(outer:List Env)(s:U0)(H:Hp)(vs:List V)(Q:VK)(E:XK),Room k (A.deeper (envOfC x (Z0d st) s.heap.objs.size f cdv))->sp vs H Q E->∃t,PSs ((cxOf (CXe P w) P w K mg base N x (Z0d st) f cdv A outer s H E).xx E) (Z0y st) t/\t {nx:=λ _ H'=>Q .non H',rt:=Q} (Z3u N vs) H):HasX P w K mg base (k+1) x ps sp:=by
 obtain⟨f,fd,F,m⟩:=F.ex;exact⟨f,fd,F.okX S len λ cdv=>hbody f cdv,F.binds hb,F.kp,m⟩
theorem HasMX.of{C:X0}{m qual:V0}{st:Stmt}{N ps:List V0}{k:Nat}{sp:Sp}(F:MFn K C m qual st)(S:Z0j N ps (Z0d st))(hb:∀(kV doc pm:Z0)(an:Option X0)(cdv ct:Z0)(us:List Z0),us.length=ps.length->bindArgs (W.fnOf m qual (Z0O st) (Z0y st) (Z0d st) .none kV doc pm an cdv ct) ⟨us,[]⟩=pure (ps.zip us))(len:∀vs H Q E,sp vs H Q E->vs.length=ps.length)(hbody:∀(f:X0)(cdv:Z0)(A:O0)(outer:List Env)(s:U0)(H:Hp)(vs:List V)(Q:VK)(E:XK),Room k (A.deeper (envOfC qual (Z0d st) s.heap.objs.size f cdv))->sp vs H Q E->∃t,PSs ((cxOf (CXe P w) P w K mg base N qual (Z0d st) f cdv A outer s H E).xx E) (Z0y st) t/\t {nx:=λ _ H'=>Q .non H',rt:=Q} (Z3u N vs) H):HasMX P w K mg base (k+1) C m ps sp:=by
 obtain⟨f,fd,F,mm⟩:=F.ex;exact⟨f,fd,F.okX S len λ cdv=>hbody f cdv,F.binds hb,mm⟩
end
section
variable{X:Cx}{x m:V0}{ps:List V0}{sp:Sp}{k j:Nat}{C:X0}{o e:Expr}{es:List Expr}{ta:TE}{t:TA}{p pos apos cpos:Pos}{E:XK}
theorem Z0r(h:HasX X.prog X.w X.K X.mg X.base k x ps sp)(hr:Room j X.A)(hk:k<=j)(hg:Gl X x)(ha:PA (X.xx E) (e::es) t)(hdb:(x==("__debug__":V0))=false:=by decide)(he:starEach (e::es) X.env=(false,eval e X.env)::starEach es X.env:=by rfl)(hpl:(backTo pos (starEach es X.env)).any (·.1)=false:=by rfl):PE (X.xx E) (.Call (.Name x p) (e::es) [] pos) (J0E sp [] E t):=by
 obtain⟨f,fd,F,b,kp,m⟩:=h.ex;exact Z2o F (hr.mono hk) hg m kp b .nil (Raised.passes λ _ _ _ _ q=>q) ha hdb he hpl
theorem Z0Y{pl:Sem Bool}(he:PE (X.xx E) o ta)(c:Cls X.K C)(h:HasMX X.prog X.w X.K X.mg X.base k C m ps sp)(hr:Room j X.A)(hk:k<=j)(ha:PA (X.xx E) (e::es) t)(hst:starEach (e::es) X.env=(false,eval e X.env)::starEach es X.env:=by rfl)(hpl:(backTo pos (starEach es X.env)).any (·.1)=false:=by rfl)(ht:eval (.Call (.Attribute o m apos) (e::es) [] pos) X.env=(do
   let ov<-eval o X.env
   standAt apos.atName
   let(f,first)<-holding [ov] (getMethod ov m pl)
   callWith pos f first (backTo pos (starEach (e::es) X.env)) (backToKw pos (keywordEach [] X.env))):=by rfl):PE (X.xx E) (.Call (.Attribute o m apos) (e::es) [] pos) (Z7g C m sp [] E ta t):=
 let⟨_,_,F,b,mm⟩:=h.ex
 λ pins s σ H Q I h'=>J0V he.mono c mm F (hr.mono hk) b .nil (Raised.passes λ _ _ _ _ q=>q) ha hst hpl ht pins s σ H Q I ⟨_,h',λ _ _ ⟨a,e,dx,fs,h,l,r⟩=>⟨a,dx,fs,e,h,l,r⟩⟩
theorem Z0K{pl:Sem Bool}(he:PE (X.xx E) o ta)(c:Cls X.K C)(h:HasMX X.prog X.w X.K X.mg X.base k C m ps sp)(hr:Room j X.A)(hk:k<=j)(ht:eval (.Call (.Attribute o m apos) [] [] pos) X.env=(do
   let ov<-eval o X.env
   standAt apos.atName
   let(f,first)<-holding [ov] (getMethod ov m pl)
   callWith pos f first (backTo pos (starEach [] X.env)) (backToKw pos (keywordEach [] X.env))):=by rfl):PE (X.xx E) (.Call (.Attribute o m apos) [] [] pos) (Z7g C m sp [] E ta tNil):=
 let⟨_,_,F,b,mm⟩:=h.ex
 λ pins s σ H Q I h'=>Z8k he.mono c mm F (hr.mono hk) b .nil (Raised.passes λ _ _ _ _ q=>q) ht pins s σ H Q I ⟨_,h',λ _ _ ⟨a,e,dx,fs,h,l,r⟩=>⟨a,dx,fs,e,h,l,r⟩⟩
structure XOk(K:y0)(mg:V0->Option Z0)(x:V0)(C:X0):Prop where
 mgC:mg x=some (.ref C)
 xin:xIn K C none=true
 kp:W.keepIn K (.ref C)=true
theorem Z0H(c:XOk X.K X.mg x C)(hr:Room k X.A)(hg:Gl X x)(ha:PA (X.xx E) (e::es) t)(hd:(x==("__debug__":V0))=false:=by decide)(hst:starEach (e::es) X.env=(false,eval e X.env)::starEach es X.env:=by rfl)(hpl:(backTo cpos (starEach es X.env)).any (·.1)=false:=by rfl):PS (X.xx E) (.Raise (some (.Call (.Name x p) (e::es) [] cpos)) none pos) (Z7B C (λ _=>E) t):=Z9Y c.xin c.kp hr hg c.mgC ha hd hst hpl
end
theorem J5C{C:X0}{E:St->XK}{t:TA}{D:Ends}{σ:St}{H:Hp}:Z7B C E t D σ H=t σ H λ vs H1=>vs.length<=sizeLine/\∀x,H1 x=none->E σ (.ref C) none (upd H1 x (excO x C none)):=rfl
theorem J7t{acc:V0}{σ:St}{H:Hp}{Q:VK}:J6N acc σ H Q=(acc.length<=sizeLine/\Q (.str acc) H):=rfl
theorem J6Y{te:TE}{tr:TJ}{acc:V0}{σ:St}{H:Hp}{Q:VK}:J3D te tr acc σ H Q=te σ H λ x H1=>∃z,x=.str z/\(acc++z).length<=sizeLine/\tr (acc++z) σ H1 Q:=rfl
theorem J8m{te:TE}{σ:St}{H:Hp}{Q:VK}:tFmt te σ H Q=te σ H λ x H1=>(∃i,x=.int i/\i.natAbs.log2<1920/\Q (.str (toString i)) H1)\/(∃z:V0,x=.str z/\z.length<=sizeLine/\Q (.str z) H1):=rfl
theorem J6W{K:y0}{mg:V0->Option Z0}{h:N0}{x:V0}{C:X0}(X:K.In h)(G:h.Ns mainGlobals mg)(a:W.nsIn K mainGlobals x=some (some (.ref C)))(b:xIn K C none=true)(c:W.keepIn K (.ref C)=true):XOk K mg x C:=⟨W.mg_of X G a,b,c⟩
end L2
end
section
namespace K10
abbrev Tx:=List Nat
def figs:Tx:=[48,49,50,51,52,53,54,55,56,57]
def smalls:Tx:=[97,98,99,100,101,102,103,104,105,106,107,108,109,110,111,112,113,114,115,116,117,118,119,120,121,122]
def greats:Tx:=[65,66,67,68,69,70,71,72,73,74,75,76,77,78,79,80,81,82,83,84,85,86,87,88,89,90]
def gaps:Tx:=[32,9,10]
def sgns:Tx:=[40,41,123,125,44,46,59,61,43,45,42,47,60]
def Z0p(c:Nat):Bool:=smalls.contains c||figs.contains c||greats.contains c
def isNum:Tx->Bool
 |[]=>false
 |c::r=>decide (r.length<=8)&&(if c=48 then r.isEmpty else(c::r).all λ x=>figs.contains x)
def isNm:Tx->Bool
 |[]=>false
 |c::r=>decide (r.length<=7)&&(smalls.contains c&&(c::r).all λ x=>smalls.contains x||figs.contains x)
theorem Z3z(t:Tx):(t.dropWhile Z0p).length<=t.length:=(List.dropWhile_sublist Z0p).length_le
abbrev Res:=Except Nat (List Tx)
def pre(ws:List Tx):Res->Res
 | .ok r=>.ok (ws++r)
 | .error k=>.error k
theorem J4u(r:Res):pre [] r=r:=by cases r<;>rfl
theorem J1w(a b:List Tx)(r:Res):pre a (pre b r)=pre (a++b) r:=by cases r<;>simp[pre]
def cutP:Tx->Nat->Res
 |[],_=>.ok []
 |c::r,k=>
  if gaps.contains c then cutP r (k+1)
  else if Z0p c then
   if isNum ((c::r).takeWhile Z0p)||isNm ((c::r).takeWhile Z0p)then pre [(c::r).takeWhile Z0p] (cutP (r.dropWhile Z0p) (k+((c::r).takeWhile Z0p).length))else .error k
  else if sgns.contains c then pre [[c]] (cutP r (k+1))else .error k
termination_by t=>t.length
decreasing_by
 ·simp
 ·have:=Z3z r;simp;lia
 ·simp
theorem Z5i(t:Tx):t.takeWhile Z0p++t.dropWhile Z0p=t:=List.takeWhile_append_dropWhile
open PySem
abbrev cds(x:V0):Tx:=x.cps.toList
theorem cds_len(x:V0):(cds x).length=x.length:=by simp[cds,Str.length]
theorem cds_ext{x y:V0}(h:cds x=cds y):x=y:=by
 obtain⟨⟨a⟩⟩:=x;obtain⟨⟨b⟩⟩:=y;have h':a=b:=h;rw[h']
theorem cds_app(x y:V0):cds (x++y)=cds x++cds y:=by
 show(x.cps++y.cps).toList=_;rw[Array.toList_append]
theorem J0U(x:V0){a b:Nat}(hab:a<=b)(hb:b<=x.length):cds (Txt.slice x (some (a:Int)) (some (b:Int)))=((cds x).drop a).take (b-a):=by
 have h:=StrLaws.sliceText_nat x hab hb;have h2:Txt.slice x (some (a:Int)) (some (b:Int))=StrLaws.sliceText x (some (a:Int)) (some (b:Int)):=rfl;rw[h2,h]
end K10
end
section
namespace RR
open PySem P15
open PW (Wd Hs Pg)
open K10 (isNm isNum)
inductive Res(α:Type)where
 |ok(a:α)(n:Nat)
 |bad
 |out
def Res.bind{α β:Type}:Res α->(α->Nat->Res β)->Res β
 | .ok a n,f=>f a n
 | .bad,_=>.bad
 | .out,_=>.out
def told:List V0:=["house","of","has","can","main","let","in","if","then","else","new","self","elder","set","not","yes","no","number","truth"]
def Z0I(x:V0):Bool:=isNm x.cps.toList&&!told.contains x
def stren(x:V0):Nat:=if x=";" then 1 else if x="<" then 2 else if x="=" then 2 else if x="+" then 3 else if x="-" then 3 else if x="*" then 4 else if x="/" then 4 else 0
def Z7L(x:V0):Int:=((x.cps.toList.foldl (λ(acc c:Nat)=>acc*10+(c-48)) 0:Nat):Int)
def eqs(x:V0):Bool:=x=="<"||x=="="
section
variable(ws:List V0)
def ahead(n:Nat):V0:=ws.getD n ""
def need(x:V0)(n:Nat):Res Unit:=if ahead ws n=x then .ok () (n+1)else .bad
def needName(n:Nat):Res V0:=if Z0I (ahead ws n)=true then .ok (ahead ws n) (n+1)else .bad
def rMore{α:Type}(item:Nat->Res α):Nat->List α->Nat->Res (List α)
 |0,_,_=>.out
 |k+1,found,n=>if ahead ws n="," then(item (n+1)).bind λ a m=>rMore item k (found++[a]) m else(need ws ")" n).bind λ _ m=>.ok found m
def rList{α:Type}(item:Nat->Res α)(n:Nat):Res (List α):=(need ws "(" n).bind λ _ m=>if ahead ws m=")" then .ok [] (m+1)else(item m).bind λ a j=>rMore ws item (ws.length+1) [a] j
structure Rr where
 T:Nat->Nat->Nat->Nat->Res Tm
 Pt:Nat->Nat->Nat->Res Tm
variable(r:Rr)
def rTerms(deep n:Nat):Res (List Tm):=(rList ws (λ m=>r.T 1 1 deep m) n).bind λ ps m=>if 8<ps.length then .bad else .ok ps m
def rOne(deep n:Nat):Res Tm:=
 let x:=ahead ws n
 if x="" then .bad
 else if isNum x.cps.toList=true then .ok (.mk .number (.int (Z7L x)) []) (n+1)
 else if x="yes" then .ok (.mk .truth (.bl true) []) (n+1)
 else if x="no" then .ok (.mk .truth (.bl false) []) (n+1)
 else if Z0I x=true then .ok (.mk .name (.str x) []) (n+1)
 else if x="self" then .ok (.mk .self .non []) (n+1)
 else if x="new" then(needName ws (n+1)).bind λ y m=>(rTerms ws r (deep+1) m).bind λ ps j=>.ok (.mk .new (.str y) ps) j
 else if x="elder" then(need ws "." (n+1)).bind λ _ i=>(needName ws i).bind λ y m=>(rTerms ws r (deep+1) m).bind λ ps j=>.ok (.mk .elder (.str y) ps) j
 else if x="(" then(r.T 1 1 deep (n+1)).bind λ t m=>(need ws ")" m).bind λ _ j=>.ok t j
 else .bad
def rPts(deep:Nat):Nat->Tm->Nat->Res Tm
 |0,_,_=>.out
 |k+1,t,n=>if ahead ws n="." then(needName ws (n+1)).bind λ x m=>
   if ahead ws m="(" then(rTerms ws r (deep+1) m).bind λ ps j=>rPts deep k (.mk .call (.str x) (t::ps)) j
   else rPts deep k (.mk .field (.str x) [t]) m
  else .ok t n
def rPointed(deep n:Nat):Res Tm:=(rOne ws r deep n).bind λ t m=>rPts ws r deep (ws.length+1) t m
def rIf(deep n:Nat):Res Tm:=(r.T 1 1 (deep+1) n).bind λ a i=>(need ws "then" i).bind λ _ i=>(r.T 1 1 (deep+1) i).bind λ b j=>(need ws "else" j).bind λ _ j=>(r.T 2 2 (deep+1) j).bind λ c m=>.ok (.mk .iff .non [a,b,c]) m
def rLet(low deep n:Nat):Res Tm:=(needName ws n).bind λ x i=>(need ws "=" i).bind λ _ i=>(r.T 1 1 (deep+1) i).bind λ a j=>(need ws "in" j).bind λ _ j=>(r.T low low (deep+1) j).bind λ b m=>.ok (.mk .lt (.str x) [a,b]) m
def rSet(deep n:Nat):Res Tm:=(rPointed ws r deep n).bind λ t i=>match t with
 | .mk .field l ps=>if ws.getD (i-1) ""=")" then .bad else(need ws "=" i).bind λ _ j=>(r.T 2 2 (deep+1) j).bind λ v m=>.ok (.mk .set l (ps++[v])) m
 |_=>.bad
def rPart(low deep n:Nat):Res Tm:=
 if 14<deep then .bad
 else if ahead ws n="not" then(r.Pt low (deep+1) (n+1)).bind λ t m=>.ok (.mk .nt .non [t]) m
 else if ahead ws n="if" then rIf ws r deep (n+1)
 else if ahead ws n="let" then rLet ws r low deep (n+1)
 else if ahead ws n="set" then rSet ws r deep (n+1)
 else rPointed ws r deep n
def rTail(least low deep:Nat):Nat->Tm->Nat->Res Tm
 |0,_,_=>.out
 |k+1,t,n=>if least<=stren (ahead ws n)then(r.T (if ahead ws n=";" then 1 else stren (ahead ws n)+1) low (deep+1) (n+1)).bind λ u m=>
   if(eqs (ahead ws n)&&eqs (ahead ws m))=true then .bad else rTail least low deep k (.mk .two (.str (ahead ws n)) [t,u]) m
  else .ok t n
def rd:Nat->Rr
 |0=>⟨λ _ _ _ _=>.out,λ _ _ _=>.out⟩
 |k+1=>⟨λ least low deep n=>(rPart ws (rd k) low deep n).bind λ t m=>rTail ws (rd k) least low deep (ws.length+1) t m,rPart ws (rd k)⟩
def rKind(n:Nat):Res V0:=if ahead ws n="number" then .ok "number" (n+1)else if ahead ws n="truth" then .ok "truth" (n+1)else needName ws n
def rPair(n:Nat):Res (V0×V0):=(needName ws n).bind λ x m=>(rKind ws m).bind λ k j=>.ok (x,k) j
def rWord(k:Nat)(name:V0)(n:Nat):Res Wd:=(rList ws (rPair ws) n).bind λ ps i=>if 4<ps.length then .bad else(rKind ws i).bind λ kd j=>(need ws "=" j).bind λ _ j=>((rd ws k).T 1 1 1 j).bind λ t m=>.ok ⟨name,ps,kd,t⟩ m
def rFields:Nat->List (V0×V0)->Nat->Res (List (V0×V0))
 |0,_,_=>.out
 |k+1,xs,n=>if ahead ws n="has" then(rPair ws (n+1)).bind λ x m=>rFields k (xs++[x]) m else .ok xs n
def rWords(kf:Nat):Nat->List Wd->Nat->Res (List Wd)
 |0,_,_=>.out
 |k+1,xs,n=>if ahead ws n="can" then(needName ws (n+1)).bind λ x i=>(rWord ws kf x i).bind λ d m=>rWords kf k (xs++[d]) m else .ok xs n
def rOf(n:Nat):Res (Option V0):=if ahead ws n="of" then(needName ws (n+1)).bind λ y m=>.ok (some y) m else .ok none n
def rHouse(kf n:Nat):Res Hs:=(needName ws n).bind λ x i=>(rOf ws i).bind λ el i=>(need ws "{" i).bind λ _ i=>(rFields ws (ws.length+1) [] i).bind λ fs j=>if 4<fs.length then .bad else
 (rWords ws kf (ws.length+1) [] j).bind λ wds j=>if 8<wds.length then .bad else(need ws "}" j).bind λ _ m=>.ok ⟨x,el,fs,wds⟩ m
def rHouses(kf:Nat):Nat->List Hs->Nat->Res (List Hs)
 |0,_,_=>.out
 |k+1,xs,n=>if ahead ws n="house" then(rHouse ws kf (n+1)).bind λ d m=>rHouses kf k (xs++[d]) m else .ok xs n
def opens:List V0->Int->Bool
 |[],_=>true
 |x::r,o=>let o':=if x="(" then o+1 else if x=")" then o-1 else o;if 14<o' then false else opens r o'
def bodies(p:Pg):List Tm:=(p.houses.flatMap λ h=>h.words.map (·.body))++[p.main.body]
noncomputable def rRest(kf:Nat)(hs:List Hs)(n:Nat):Res Pg:=if 12<hs.length then .bad else(need ws "main" n).bind λ _ n=>(rWord ws kf "main" n).bind λ mn n=>
 if ahead ws n≠"" then .bad else if(mn.params.all λ p=>decide (p.2="number"))=false then .bad else
 if((bodies ⟨hs,mn⟩).any λ b=>decide (14<b.depth))=true then .bad else if 400<sumS (bodies ⟨hs,mn⟩)then .bad else .ok ⟨hs,mn⟩ n
noncomputable def rProg(kf:Nat):Res Pg:=if opens ws 0=false then .bad else(rHouses ws kf (ws.length+1) [] 0).bind (rRest ws kf)
end
variable{ws:List V0}
theorem bind_ok{α β:Type}{a:Res α}{f:α->Nat->Res β}{b:β}{m:Nat}(h:a.bind f=.ok b m):∃x i,a=.ok x i/\f x i=.ok b m:=by
 cases a with
 |ok x i=>exact⟨x,i,rfl,h⟩
 |bad=>cases h
 |out=>cases h
theorem ahead_lt{n:Nat}(h:ahead ws n≠""):n<ws.length:=by
 refine qf0 λ z=>h ?_;unfold ahead;rw[qc6,qi1 (qe7 z)];rfl
theorem need_ok{x:V0}{n m:Nat}{u:Unit}(hx:x≠"")(h:need ws x n=.ok u m):m=n+1/\n<ws.length:=by
 unfold need at h;split at h
 ·rename_i e;cases h;exact⟨rfl,ahead_lt (by rw[e];exact hx)⟩
 ·cases h
theorem isName_ne:Z0I ""=false:=by decide+kernel
theorem stren_ne:stren ""=0:=by decide+kernel
theorem needName_ok{x:V0}{n m:Nat}(h:needName ws n=.ok x m):m=n+1/\n<ws.length/\Z0I x=true/\x=ahead ws n:=by
 unfold needName at h;split at h
 ·rename_i e;cases h;exact⟨rfl,ahead_lt (λ z=>by rw[z,isName_ne]at e;cases e),e,rfl⟩
 ·cases h
def Gd(ws:List V0)(n:Nat)(r:Res Tm):Prop:=∀t m,r=.ok t m->m<=ws.length/\Ok t/\n+t.size<=m
def GdL(ws:List V0)(n:Nat)(r:Res (List Tm)):Prop:=∀ts m,r=.ok ts m->m<=ws.length/\(∀p∈ts,Ok p)/\n+sumS ts<m
theorem Z4w:∀(xs:List Tm)(t:Tm),sumS (xs++[t])=sumS xs+t.size
 |[],t=>by show t.size+0=0+t.size;lia
 |x::xs,t=>by show x.size+sumS (xs++[t])=x.size+sumS xs+t.size;rw[Z4w xs t];lia
theorem Z4M{item:Nat->Res Tm}(hi:∀n,Gd ws n (item n))(s:Nat):∀(k:Nat)(found:List Tm)(n:Nat),(∀p∈found,Ok p)->s+sumS found<=n->GdL ws s (rMore ws item k found n)
 |0,found,n,_,_=>λ ts m h=>by cases h
 |k+1,found,n,ho,hs=>λ ts m h=>by
  unfold rMore at h;split at h
  ·obtain⟨a,i,e1,h⟩:=bind_ok h;obtain⟨q1,q2,q3⟩:=hi _ _ _ e1;refine Z4M hi s k (found++[a]) i (λ p hp=>?_) (by rw[Z4w];lia) ts m h;rcases qd4.mp hp with z|z
   ·exact ho p z
   ·rw[qa7.mp z];exact q2
  ·obtain⟨a,i,e1,h⟩:=bind_ok h;obtain⟨q1,q2⟩:=need_ok qP e1;cases h;exact⟨qR,ho,qR⟩
theorem Z9B{item:Nat->Res Tm}(hi:∀n,Gd ws n (item n))(n:Nat):GdL ws n (rList ws item n):=λ ts m h=>by
 unfold rList at h;obtain⟨a,i,e1,h⟩:=bind_ok h;obtain⟨q1,q2⟩:=need_ok qP e1;split at h
 ·rename_i e;have:=ahead_lt (ws:=ws) (n:=i) (by rw[e];decide+kernel);cases h;exact⟨qR,λ p hp=>(qa9 hp).elim,by show n+0<_;lia⟩
 ·obtain⟨t,j,e2,h⟩:=bind_ok h;obtain⟨q3,q4,q5⟩:=hi _ _ _ e2;exact Z4M hi n _ [t] j (λ p hp=>by rw[qa7.mp hp];exact q4) (by show n+(t.size+0)<=j;lia) ts m h
structure RG(ws:List V0)(r:Rr):Prop where
 T:∀least low deep n,1<=least->1<=low->Gd ws n (r.T least low deep n)
 P:∀low deep n,1<=low->Gd ws n (r.Pt low deep n)
variable{r:Rr}
theorem rTerms_good(g:RG ws r)(deep n:Nat):∀ts m,rTerms ws r deep n=.ok ts m->m<=ws.length/\(∀p∈ts,Ok p)/\n+sumS ts<m/\ts.length<=8:=λ ts m h=>by
 unfold rTerms at h;obtain⟨ps,i,e1,h⟩:=bind_ok h;split at h
 ·cases h
 ·rename_i l;cases h;obtain⟨a,b,c⟩:=Z9B (λ n=>g.T 1 1 deep n (qa0 _) (qa0 _)) n _ _ e1;exact⟨a,b,c,qe7 l⟩
theorem ok0{f:Fm}{l:Lb}(h:okF f l 0):Ok (.mk f l []):=.mk h λ p hp=>(qa9 hp).elim
theorem ok1{f:Fm}{l:Lb}{t:Tm}(h:okF f l 1)(a:Ok t):Ok (.mk f l [t]):=.mk h λ p hp=>by rw[qa7.mp hp];exact a
theorem ok2{f:Fm}{l:Lb}{t u:Tm}(h:okF f l 2)(a:Ok t)(b:Ok u):Ok (.mk f l [t,u]):=.mk h λ p hp=>by
 rcases qa2.mp hp with z|z
 ·rw[z];exact a
 ·rw[qa7.mp z];exact b
theorem sz0{f:Fm}{l:Lb}:(Tm.mk f l []).size=1:=rfl
theorem sz1{f:Fm}{l:Lb}{t:Tm}:(Tm.mk f l [t]).size=1+(t.size+0):=rfl
theorem szL{f:Fm}{l:Lb}{ts:List Tm}:(Tm.mk f l ts).size=1+sumS ts:=rfl
theorem szC{f:Fm}{l:Lb}{t:Tm}{ts:List Tm}:(Tm.mk f l (t::ts)).size=1+(t.size+sumS ts):=rfl
theorem J0Y(g:RG ws r)(deep n:Nat):Gd ws n (rOne ws r deep n):=λ t m h=>by
 unfold rOne at h;dsimp only at h;split at h
 ·cases h
 rename_i ne;have hl:=ahead_lt (ws:=ws) (n:=n) ne;have fin:∀{f l},Res.ok (Tm.mk f l []) (n+1)=.ok t m->okF f l 0->m<=ws.length/\Ok t/\n+t.size<=m:=λ e ho=>by
  cases e;exact⟨qR,ok0 ho,by rw[sz0];lia⟩
 split at h
 ·exact fin h rfl
 split at h
 ·exact fin h rfl
 split at h
 ·exact fin h rfl
 split at h
 ·exact fin h rfl
 split at h
 ·exact fin h rfl
 split at h
 ·obtain⟨y,i,e1,h⟩:=bind_ok h;obtain⟨q1,q2,q3,q4⟩:=needName_ok e1;obtain⟨ps,j,e2,h⟩:=bind_ok h;obtain⟨a,b,c,d⟩:=rTerms_good g _ _ _ _ e2;cases h;exact⟨a,.mk trivial b,by rw[szL];lia⟩
 split at h
 ·obtain⟨u,i,e0,h⟩:=bind_ok h;obtain⟨q5,q6⟩:=need_ok qP e0;obtain⟨y,i',e1,h⟩:=bind_ok h;obtain⟨q1,q2,q3,q4⟩:=needName_ok e1;obtain⟨ps,j,e2,h⟩:=bind_ok h;obtain⟨a,b,c,d⟩:=rTerms_good g _ _ _ _ e2;cases h;exact⟨a,.mk trivial b,by rw[szL];lia⟩
 split at h
 ·obtain⟨u,i,e0,h⟩:=bind_ok h;obtain⟨a,b,c⟩:=g.T _ _ _ _ (qa0 _) (qa0 _) _ _ e0;obtain⟨u',i',e1,h⟩:=bind_ok h;obtain⟨q5,q6⟩:=need_ok qP e1;cases h;exact⟨qR,b,qR⟩
 ·cases h
theorem Z4o(g:RG ws r)(deep s:Nat):∀(k:Nat)(t:Tm)(n:Nat),n<=ws.length->Ok t->s+t.size<=n->Gd ws s (rPts ws r deep k t n)
 |0,_,_,_,_,_=>λ t m h=>by cases h
 |k+1,t,n,hn,ho,hs=>λ u m h=>by
  unfold rPts at h;split at h
  ·obtain⟨x,i,e1,h⟩:=bind_ok h;obtain⟨q1,q2,q3,q4⟩:=needName_ok e1;split at h
   ·obtain⟨ps,j,e2,h⟩:=bind_ok h;obtain⟨a,b,c,d⟩:=rTerms_good g _ _ _ _ e2;refine Z4o g deep s k (.mk .call (.str x) (t::ps)) j a (.mk (show 1<=ps.length+1 from qi2 (qb4 _)) λ p hp=>?_) (by rw[szC];lia) u m h;rcases qa2.mp hp with z|z
    ·rw[z];exact ho
    ·exact b p z
   ·exact Z4o g deep s k (.mk .field (.str x) [t]) i qR (ok1 rfl ho) (by rw[sz1];lia) u m h
  ·cases h;exact⟨hn,ho,hs⟩
theorem rPointed_good(g:RG ws r)(deep n:Nat):Gd ws n (rPointed ws r deep n):=λ t m h=>by
 unfold rPointed at h;obtain⟨u,i,e1,h⟩:=bind_ok h;obtain⟨a,b,c⟩:=J0Y g _ _ _ _ e1;exact Z4o g deep n _ u i a b c t m h
theorem Z5a(g:RG ws r)(low deep n:Nat)(hl:1<=low):Gd ws n (rPart ws r low deep n):=λ t m h=>by
 unfold rPart at h;split at h
 ·cases h
 split at h
 ·obtain⟨u,i,e1,h⟩:=bind_ok h;obtain⟨a,b,c⟩:=g.P _ _ _ hl _ _ e1;cases h;exact⟨a,ok1 rfl b,by rw[sz1];lia⟩
 split at h
 ·unfold rIf at h;obtain⟨u,i,e1,h⟩:=bind_ok h;obtain⟨a1,b1,c1⟩:=g.T _ _ _ _ (qa0 _) (qa0 _) _ _ e1;obtain⟨_,i',e1,h⟩:=bind_ok h;obtain⟨q5,q6⟩:=need_ok qP e1;obtain⟨v,j,e1,h⟩:=bind_ok h;obtain⟨a2,b2,c2⟩:=g.T _ _ _ _ (qa0 _) (qa0 _) _ _ e1;obtain⟨_,j',e1,h⟩:=bind_ok h;obtain⟨q7,q8⟩:=need_ok qP e1;obtain⟨x,k,e1,h⟩:=bind_ok h;obtain⟨a3,b3,c3⟩:=g.T _ _ _ _ qQ qQ _ _ e1;cases h;refine⟨a3,.mk rfl λ p hp=>?_,by show n+(1+(u.size+(v.size+(x.size+0))))<=m;lia⟩;rcases qa2.mp hp with z|z
  ·rw[z];exact b1
  rcases qa2.mp z with z|z
  ·rw[z];exact b2
  ·rw[qa7.mp z];exact b3
 split at h
 ·unfold rLet at h;obtain⟨x,i,e1,h⟩:=bind_ok h;obtain⟨q1,q2,q3,q4⟩:=needName_ok e1;obtain⟨_,i',e1,h⟩:=bind_ok h;obtain⟨q5,q6⟩:=need_ok qP e1;obtain⟨v,j,e1,h⟩:=bind_ok h;obtain⟨a2,b2,c2⟩:=g.T _ _ _ _ (qa0 _) (qa0 _) _ _ e1;obtain⟨_,j',e1,h⟩:=bind_ok h;obtain⟨q7,q8⟩:=need_ok qP e1;obtain⟨x',k,e1,h⟩:=bind_ok h;obtain⟨a3,b3,c3⟩:=g.T _ _ _ _ hl hl _ _ e1;cases h;exact⟨a3,ok2 rfl b2 b3,by show n+(1+(v.size+(x'.size+0)))<=m;lia⟩
 split at h
 ·unfold rSet at h;obtain⟨t',i,e1,h⟩:=bind_ok h;obtain⟨a1,b1,c1⟩:=rPointed_good g _ _ _ _ e1;split at h
  ·rename_i l ps;split at h
   ·cases h
   obtain⟨_,j',e1,h⟩:=bind_ok h;obtain⟨q7,q8⟩:=need_ok qP e1;obtain⟨v,k,e1,h⟩:=bind_ok h;obtain⟨a3,b3,c3⟩:=g.T _ _ _ _ qQ qQ _ _ e1;cases h;rw[szL]at c1;cases b1 with
   |mk o1 o2=>
   refine⟨a3,.mk ?_ λ p hp=>?_,by rw[szL,Z4w];lia⟩
   ·rw[qa5];cases l<;>first|exact o1.elim|(show _+1=2;rw[show ps.length=1 from o1])
   ·rcases qd4.mp hp with z|z
    ·exact o2 p z
    ·rw[qa7.mp z];exact b3
  ·cases h
 ·exact rPointed_good g _ _ _ _ h
theorem Z4W(g:RG ws r)(least low deep s:Nat)(h1:1<=least)(h2:1<=low):∀(k:Nat)(t:Tm)(n:Nat),n<=ws.length->Ok t->s+t.size<=n->Gd ws s (rTail ws r least low deep k t n)
 |0,_,_,_,_,_=>λ t m h=>by cases h
 |k+1,t,n,hn,ho,hs=>λ u m h=>by
  unfold rTail at h;split at h
  ·rename_i hst;obtain⟨x,i,e1,h⟩:=bind_ok h;obtain⟨a,b,c⟩:=g.T _ _ _ _ (by split<;>lia) h2 _ _ e1;split at h
   ·cases h
   ·exact Z4W g least low deep s h1 h2 k (.mk .two (.str (ahead ws n)) [t,x]) i a (ok2 rfl ho b) (by show s+(1+(t.size+(x.size+0)))<=i;lia) u m h
  ·cases h;exact⟨hn,ho,hs⟩
theorem rd_good(ws:List V0):∀k,RG ws (rd ws k)
 |0=>⟨λ _ _ _ _ _ _ t m h=>(nomatch (show Res.out=Res.ok t m from h)),λ _ _ _ _ t m h=>(nomatch (show Res.out=Res.ok t m from h))⟩
 |k+1=>by
  have g:=rd_good ws k;refine⟨λ least low deep n h1 h2 t m h=>?_,λ low deep n h2=>Z5a g low deep n h2⟩;obtain⟨u,i,e1,h⟩:=bind_ok (show(rPart ws (rd ws k) low deep n).bind _=_ from h);obtain⟨a,b,c⟩:=Z5a g low deep n h2 _ _ e1;exact Z4W g least low deep n h1 h2 _ u i a b c t m h
end RR
end
section
namespace L2
open PySem PySem.Spec PyProof.Rows
section
variable{X:Cx}{o e f:Expr}{ty tx:TE}{apos cpos:Pos}{a:X0}{kvs:List (Key×V)}
def J1d(kvs:List (Key×V))(ty tx:TE):TE:=λ σ H Q=>ty σ H λ y H1=>tx σ H1 λ z H2=>∃k,y=kV k/\Q ((valV kvs k).getD z) H2
theorem J5H{σ:St}{H:Hp}{Q:VK}:J1d kvs ty tx σ H Q=(ty σ H λ y H1=>tx σ H1 λ z H2=>∃k,y=kV k/\Q ((valV kvs k).getD z) H2):=rfl
theorem J3w(M:Z9D X.prog X.w X.K a kvs)(hu:X.A.units+1<cLine)(ho:PE X o (tC (.ref a)))(he:PE X e ty)(hf:PE X f tx)(m:M2 X o "get" apos e f cpos):PE X (.Call (.Attribute o "get" apos) [e,f] [] cpos) (J1d kvs ty tx):=by
 intro pins s σ H Q I h;refine wpAny_Call_method m.base m.few m.line PySem.F.plainAttrs_dict PySem.F.slot_dict_get PySem.F.type_dict_get (thn (ho pins s σ H (λ v H'=>v=.ref a/\J1d kvs ty tx σ H' Q) I ⟨rfl,h⟩) λ u s1 hz_=>?_);obtain⟨x,H1,I1,rx,ex,q1⟩:=hz_;subst ex;obtain rfl:u=Value.ref a:=rx;obtain⟨vs,rel,dd⟩:=M.of _ I1.kIn;obtain⟨od,es,ep,d1,d2,_⟩:=id dd;refine⟨dd.typeIs,?_,?_⟩
 ·intro b eb;cases eb;exact⟨od,d1,d2.2.1⟩
 rw[m.trees];refine Calls.callWith_builtin rfl (Calls.evalArgs_plain (Calls.spliced_cons (thn (he pins s1 σ H1 _ I1 q1) λ iv s2 ⟨y,H2,I2,ry,q2⟩=>Calls.spliced_cons (thn (hf pins s2 σ H2 _ I2 q2) λ fv s3 ⟨z,H3,I3,rz,k,ey,q3⟩=>Calls.spliced_nil ?_))));subst ey;obtain⟨vs,rel,dd⟩:=M.of _ I3.kIn;refine call_meetsIn PySem.F.slot_dict_get dd.typeIs PySem.F.entry_dict_get (PySem.F.args_dict_get_3 _ _ _) (meets_dict_get_default (Z2m X.prog X.w) a (J4q ry) M.ns fv) ⟨_,dd.mapOf,⟨_,H3,I3.tok _,?_,q3⟩⟩;exact(rel.val k).getD rz
end
variable{X:Cx}
def J5t:List V->Hp->VK->Prop:=λ xs H Q=>∃(x:V0)(n:Int),xs=[.str x]/\intText? x=some n/\x.length<=640/\Q (.int n) H
theorem J7O{xs:List V}{H:Hp}{Q:VK}:J5t xs H Q=∃(x:V0)(n:Int),xs=[.str x]/\intText? x=some n/\x.length<=640/\Q (.int n) H:=rfl
theorem J1C:Z4m X (.type "int") J5t:=by
 intro pins s σ H xs us Q I r h;obtain⟨x,n,rfl,hn,hl,q⟩:=h;obtain⟨u,rfl,t,rfl⟩:=Z9j r;exact W.KIN.call_text hn hl ⟨.int n,H,I.tok _,⟨_,rfl⟩,q⟩
theorem J3i{c:Nat}(h:K10.figs.contains c=true):48<=c/\c<=57:=by
 have h:=List.contains_iff_mem.mp h;unfold K10.figs at h;simp only[qa2,qa9,or_false]at h;omega
theorem J2Z{x:V0}(h:K10.isNum x.cps.toList=true):intText? x=some (NumText.digitsVal x.cps.toList:Int)/\x.length<=640:=by
 have hl:x.length=x.cps.toList.length:=by show x.cps.size=_;simp
 have hd:NumText.AllDigits x.cps.toList/\x.cps.toList≠[]/\x.cps.toList.length<=9:=by
  cases hx:x.cps.toList with
  |nil=>rw[hx]at h;cases h
  |cons c r=>
   rw[hx]at h;unfold K10.isNum at h;rw[qc5,decide_eq_true_eq]at h;refine⟨?_,List.cons_ne_nil _ _,by rw[qa4];lia⟩;by_cases hc:c=48
   ·rw[if_pos hc]at h;have hr:=List.isEmpty_iff.mp h.2;subst hr hc;intro d hd;rw[qa7.mp hd];decide
   ·rw[if_neg hc]at h;intro d hd;exact J3i (List.all_eq_true.mp h.2 d hd)
 exact⟨intText_digits hd.1 hd.2.1 (by rw[hl];lia),by rw[hl];lia⟩
structure ItemAt(P:Program)(w:M0)(K:y0)(mg:V0->Option Z0)(base:N0)(k:Nat)(f:X0)(sp:Sp):Prop where
 ex:∃fd ps,FnOk P w K mg base (CXe P w) k f fd ps sp/\Binds K fd ps []/\W.FnAt f base
theorem HasX.item{P:Program}{w:M0}{K:y0}{mg:V0->Option Z0}{base:N0}{k:Nat}{x:V0}{st:Stmt}{ps:List V0}{sp:Sp}(h:HasX P w K mg base k x ps sp)(N:Fn K mg x st)(hk:K.In base):∃f,mg x=some (.ref f)/\ItemAt P w K mg base k f sp:=by
 obtain⟨f,fd,F,b,kp,m⟩:=h.ex;obtain⟨f',fd',F',m'⟩:=N.ex;cases m.symm.trans m';obtain⟨oc,od,kV,doc,pm,an,cdv,ct,osl,rfl,lk,hcd⟩:=F'.ex;exact⟨f,m,fd,ps,F,b,_,_,_,_,hk _ _ lk⟩
theorem ItemAt.mono{P:Program}{w:M0}{K:y0}{mg:V0->Option Z0}{base:N0}{j k:Nat}{f:X0}{sp:Sp}(h:ItemAt P w K mg base j f sp)(hk:j<=k):ItemAt P w K mg base k f sp:=
 let⟨fd,ps,F,b,m⟩:=h.ex;⟨fd,ps,F.mono hk,b,m⟩
def J3C(P:Program)(w:M0)(K:y0)(mg:V0->Option Z0)(base:N0)(j:Nat)(E:XK)(tc:TE)(t:TA):TE:=λ σ H Q=>tc σ H λ v H0=>∃f sp,v=.ref f/\ItemAt P w K mg base j f sp/\t σ H0 λ vs H1=>sp vs H1 Q E
theorem J5J{P:Program}{w:M0}{K:y0}{mg:V0->Option Z0}{base:N0}{j:Nat}{E:XK}{tc:TE}{t:TA}{σ:St}{H:Hp}{Q:VK}:J3C P w K mg base j E tc t σ H Q=tc σ H λ v H0=>∃f sp,v=.ref f/\ItemAt P w K mg base j f sp/\t σ H0 λ vs H1=>sp vs H1 Q E:=rfl
section
variable{X:Cx}{x:V0}{k j:Nat}{e:Expr}{es:List Expr}{tc:TE}{t:TA}{p pos:Pos}{E:XK}
theorem Z7X(hr:Room j X.A)(hc:PE (X.xx E) (.Name x p) tc)(ha:PA (X.xx E) (e::es) t)(he:starEach (e::es) X.env=(false,eval e X.env)::starEach es X.env:=by rfl)(hpl:(backTo pos (starEach es X.env)).any (·.1)=false:=by rfl):PE (X.xx E) (.Call (.Name x p) (e::es) [] pos) (J3C X.prog X.w X.K X.mg X.base j E tc t):=by
 intro pins s σ H Q I h;refine wpAny_Call_Name_kw (thn (hc pins s σ H _ I h) λ u s0 hz=>?_);obtain⟨v,H0,I0,rv,f,sp,ev,ia,h⟩:=hz;subst ev;obtain rfl:u=Value.ref f:=rv;obtain⟨fd,ps,F,b,oc,od,fd',sl,g⟩:=ia.ex;have at_:∀{H':Hp}{s':U0},Inv (X.xx E) pins σ H' s'->W.FnAt f s'.heap:=λ I'=>⟨oc,od,fd',sl,I'.bk _ _ g⟩;refine W.callWith_F (at_ I0) (thn (ha pos pins s0 σ H0 _ I0 h) λ us s1 hz=>?_) he hpl;obtain⟨vs,H1,I1,r,q⟩:=hz;exact⟨at_ I1,Z8N (dvs:=[]) (ds:=[]) F hr b .nil (Raised.passes λ _ _ _ _ q=>q) I1 r (by rw[qb6];exact q)⟩
end
def tFnV(mg:V0->Option Z0)(x:V0):TE:=λ _ H Q=>∀f,mg x=some (.ref f)->Q (.ref f) H
theorem J8H{mg:V0->Option Z0}{x:V0}{σ:St}{H:Hp}{Q:VK}:tFnV mg x σ H Q=∀f,mg x=some (.ref f)->Q (.ref f) H:=rfl
theorem J7r{X:Cx}{x:V0}{st:Stmt}{pos:Pos}(F:Fn X.K X.mg x st)(hg:Gl X x)(hd:(x==("__debug__":V0))=false:=by decide):PE X (.Name x pos) (tFnV X.mg x):=by
 obtain⟨f,fd,_,m⟩:=F.ex;intro pins s σ H Q I h;exact Z4B (v:=.ref f) hg m rfl hd pins s σ H Q I (h f m)
theorem FnOk.impl{P:Program}{w:M0}{K:y0}{mg:V0->Option Z0}{base:N0}{CX:CXT}{k:Nat}{f:X0}{fd:FuncData}{ps:List V0}{sp sp':Sp}(F:FnOk P w K mg base CX k f fd ps sp)(h:∀vs H Q E,sp' vs H Q E->sp vs H Q E):FnOk P w K mg base CX k f fd ps sp':=
 ⟨λ vs H Q E x=>F.len vs H Q E (h _ _ _ _ x),λ A outer s H args us vs Q E a b c d e=>F.run A outer s H args us vs Q E a b c d (h _ _ _ _ e)⟩
theorem ItemAt.imp{P:Program}{w:M0}{K:y0}{mg:V0->Option Z0}{base:N0}{k:Nat}{f:X0}{sp sp':Sp}(h:ItemAt P w K mg base k f sp)(i:∀vs H Q E,sp' vs H Q E->sp vs H Q E):ItemAt P w K mg base k f sp':=
 let⟨fd,ps,F,b,m⟩:=h.ex;⟨fd,ps,F.impl i,b,m⟩
def cxL(P:Program)(w:M0)(K:y0)(mg:V0->Option Z0)(base:N0)(N:List V0)(qual:V0)(scope:Scope)(f:X0)(cd:Z0)(cl:List (V0×X0))(A:O0)(outer:List Env)(s:U0)(H:Hp)(E:XK):Cx where
 prog:=P
 w:=w
 K:=K
 mg:=mg
 base:=base
 A:=A.deeper (W.envX qual scope s.heap.objs.size f cd cl)
 N:=N
 s₀:=s
 H₀:=H
 env:=W.envX qual scope s.heap.objs.size f cd cl
 outer:=outer
 stack:=W.envX qual scope s.heap.objs.size f cd cl::outer
 ex:=[]
 calm:=true
 fn:=λ _=>false
 pn:=[]
 xe:=λ e s'=>wpAny (model P w) (A.deeper (W.envX qual scope s.heap.objs.size f cd cl)) (leaving (W.envX qual scope s.heap.objs.size f cd cl) e) (λ _ s''=>CXe P w outer H s E e s'') (λ e' s''=>CXe P w outer H s E e' s'') s'
section
variable{P:Program}{w:M0}{K:y0}{mg:V0->Option Z0}{base:N0}{N:List V0}{qual:V0}{scope:Scope}{f ca c':X0}{A:O0}{outer:List Env}{s:U0}{H:Hp}{E:XK}{y z:V0}
structure J6l(scope:Scope)(y z:V0):Prop where
 kind:scope.kind=.function
 nocell:∀x∈scope.names,x.2≠NameKind.cell
 hy:scope.names.lookup y=some .local
 hz:scope.names.lookup z=some .free
 only:∀x,scope.names.lookup x=some .free->x=z
 co:scope.isCoroutine=false
 gen:scope.isGenerator=false
theorem J2L{z x:V0}{c c':X0}(h:qc7 x [(z,c)]=some c'):x=z/\c'=c:=by
 rw[qc2]at h;by_cases e:x=z
 ·subst e;rw[beq_self_eq_true]at h;cases h;exact⟨rfl,rfl⟩
 ·rw[beq_eq_false_iff_ne.mpr e]at h;cases h
theorem J3P{z:V0}{c:X0}:qc7 z [(z,c)]=some c:=by rw[qc2,beq_self_eq_true]
theorem J4Z{h1:N0}{tk:Nat}{u0 u:Z0}{v0 v:V}(S:J6l scope y z)(e0:Env0 P w K mg base A outer s H)(hh:A.handled=none)(hc:base.IsCell ca (some u))(r0:RelV v0 u0)(rv:RelV v u)(hk:∀b o,s.heap.get? b=some o->h1.get? b=some o)(hn:h1.Ns s.heap.objs.size (λ x=>[(y,u0)].reverse.lookup x)):Inv (cxL P w K mg base [y,z] qual scope f (.ref c') [(z,ca)] A outer s H E) [] [some v0,some v] H {s with heap:=h1,toks:=tk}:=by
 have hcs:s.heap.IsCell ca (some u):=hc.keeps λ b o e=>(e0.bs b o e).1;have hcH:H ca=none:=by obtain⟨o,e,_⟩:=hc;exact(e0.bs _ _ e).2
 refine⟨⟨e0.mod,S.kind,rfl,rfl,qa0 _,λ x z' c h1 h2=>(J2L h1).1.trans (J2L h2).1.symm,λ x hx=>?_,λ x c h=>(nomatch h),λ _=>hh,Around.frames_deeper e0.frames,.inr ⟨rfl,rfl⟩,λ b q=>(nomatch q),e0.bs,e0.bsz,λ b o e q=>(nomatch q),λ b q=>(nomatch q),e0.funs,e0.frf⟩,rfl,e0.bare,Un.kept hk,⟨_,hn,λ i x v' e1 e2 e3=>?_⟩,λ x c e=>?_,e0.hok.fresh (qa0 _),λ x c e=>?_,λ p hp=>(nomatch hp),e0.hok.kept hk,rfl⟩
 ·have hx:scope.names.lookup x=some .cell\/scope.names.lookup x=some .free:=hx;rcases hx with q|q
  ·exact absurd rfl (S.nocell _ (Z0J q))
  ·rw[S.only x q];exact⟨ca,J3P⟩
 ·match i with
  |0=>
   cases(show some y=some x from e1);cases(show some (some v0)=some (some v')from e2);exact⟨u0,r0,.inl ⟨S.hy,(show qc7 y [(y,u0)]=some u0 by rw[qc2,beq_self_eq_true])⟩⟩
  |1=>
   cases(show some z=some x from e1);cases(show some (some v)=some (some v')from e2);exact⟨u,rv,.inr ⟨.inr S.hz,ca,J3P,hcs.keeps hk⟩⟩
  |i+2=>exact(nomatch (show none=some x from e1))
 ·rw[(J2L e).2];exact⟨_,hcs.keeps hk⟩
 ·rw[(J2L e).2];exact hcH
theorem J0x{cl:List (V0×X0)}{e:Z0}{s':U0}(r:Raised (cxL P w K mg base N qual scope f (.ref c') cl A outer s H E) (λ _=>E) e s'):(cxL P w K mg base N qual scope f (.ref c') cl A outer s H E).xe e s':=by
 obtain⟨a,C,ed,σ,H',rfl,I,F,q⟩:=r;show wpAny _ _ (leaving _ _) _ _ _;unfold leaving;refine wpAny_bind (Z5x I rfl rfl rfl F λ s1 I1 F1=>Z2J I1 F1 λ s2 I2 F2=>?_);obtain⟨hx,vs,sl,ea,T,tb,ln⟩:=F2;exact⟨a,C,ed,H',rfl,I2.os,I2.bare,I2.base,I2.hok,hx,⟨vs,sl,ea,T,tb,ln.new,ln.free,ln.ne⟩,q⟩
theorem J7h{params:Arguments}{nm:V0}{body:Expr}{pm ctv u:Z0}{v:V}{k:Nat}{sp:Sp}(S:J6l scope y z)(hf:base.get? f=some (W.kla_obj nm qual params body scope [(z,ca)] pm c' ctv))(hc:base.IsCell ca (some u))(rv:RelV v u)(hcode:∀vs (H:Hp) Q E,sp vs H Q E->∃oc:N0->Prop,H c'=some (.ext oc)/\∀h,oc h->∃o vs t,h.get? c'=some o/\o.data=.fields vs/\vs[1]?=some (.str qual t))(len:∀vs H Q E,sp vs H Q E->vs.length=1)(hbody:∀(A:O0)(outer:List Env)(s:U0)(H:Hp)(v0:V)(Q:VK)(E:XK),Room k (A.deeper (W.envX qual scope s.heap.objs.size f (.ref c') [(z,ca)]))->sp [v0] H Q E->∃te,PE ((cxL P w K mg base [y,z] qual scope f (.ref c') [(z,ca)] A outer s H E).xx E) body te/\te [some v0,some v] H Q):FnOk P w K mg base (CXe P w) (k+1) f (W.kla_fn nm qual params body scope [(z,ca)] pm (.ref c') ctv) [y] sp:=by
 refine⟨len,λ A outer s H args us vs Q E hr e0 hb r hsp=>?_⟩;have hl:=len _ _ _ _ hsp;obtain⟨v0,rfl⟩:∃v0,vs=[v0]:=by
  match vs,hl with
  |[a],_=>exact⟨a,rfl⟩
 obtain⟨u0,rfl,r0⟩:=Z9j r;have lim:s.heap.NoLimit:=e0.mod.nolimit.keeps λ b o e=>(e0.bs b o e).1;obtain⟨φ,hH,hφ⟩:=hcode _ _ _ _ hsp;obtain⟨o,ws,t,g1,g2,g3⟩:=hφ _ (e0.hok _ _ hH).1;refine W.kla_callFunE hr.depth (e0.bs _ _ hf).1 rfl S.co S.gen rfl ⟨c',o,ws,t,rfl,g1,g2,g3⟩ (hb _ _ _ _ ?_);refine wpAny_newFunctionEnv S.nocell (λ x hx=>?_) (λ h1 hns hsb=>?_) S.kind
 ·cases qa7.mp (show x∈[(y,u0)]from hx);exact S.hy
 have hk:∀b o,s.heap.get? b=some o->h1.get? b=some o:=λ b o e=>hsb.extBut b o (qb2 (Heap.lt_size e)) (Heap.get?_push_of_some _ e);refine⟨lim.keeps hk,W.kla_codeExpr ?_⟩;obtain⟨te,hte,hq⟩:=hbody A outer s H v0 Q E (hr.deeper _) hsp;have I:Inv (cxL P w K mg base [y,z] qual scope f (.ref c') [(z,ca)] A outer s H E) [] [some v0,some v] H {s with heap:=h1,toks:=s.toks+1}:=J4Z S e0 hr.hd hc r0 rv hk hns;refine wpAny_mono (hte [] _ _ H Q (I.wish _) hq) (λ u' s' hs=>?_) λ e s' hs=>J0x hs;obtain⟨v',H',J,rv',q⟩:=hs;exact⟨v',H',J.os,J.bare,J.base,J.hok,rv',q⟩
end
end L2
end
section
namespace TM
open PySem L2 P15 WK
structure Kq(H H':Hp):Prop where
 t:∀b xs,H b=some (.tup xs)->H' b=some (.tup xs)
 z:∀b o xs,H b=some (.frz o (.tup xs))->H' b=some (.frz o (.tup xs))
 i:∀b C dx f v fs,f≠("row":V0)->H b=some (.ins C dx ((f,v)::fs))->H' b=some (.ins C dx ((f,v)::fs))
theorem Kq.trans{H H' H'':Hp}(a:Kq H H')(b:Kq H' H''):Kq H H'':=⟨λ _ _ h=>b.t _ _ (a.t _ _ h),λ _ _ _ h=>b.z _ _ _ (a.z _ _ _ h),λ _ _ _ _ _ _ n h=>b.i _ _ _ _ _ _ n (a.i _ _ _ _ _ _ n h)⟩
theorem Kq.of{H H':Hp}(s:Same H H'):Kq H H':=⟨λ _ _ h=>s _ _ h,λ _ _ _ h=>s _ _ h,λ _ _ _ _ _ _ _ h=>s _ _ h⟩
theorem Kq.kt{H H':Hp}(k:Kq H H'):Kt H H':=⟨k.t,k.z⟩
theorem Kq.sxl{H H':Hp}{l:X0}{xs:List V}(s:SX l H H')(h:H l=some (.lst xs)):Kq H H':=
 ⟨λ b xs e=>s _ _ (λ z=>by rw[z,h]at e;cases e) e,λ b o xs e=>s _ _ (λ z=>by rw[z,h]at e;cases e) e,λ b C' dx' f v fs' n e=>s _ _ (λ z=>by rw[z,h]at e;cases e) e⟩
structure SY(g:X0)(H H':Hp):Prop where
 k:∀b o,b≠g->(∀ps,o≠.tbl ps)->H b=some o->H' b=some o
 t:∀b ps,b≠g->H b=some (.tbl ps)->∃ps',H' b=some (.tbl ps')
theorem SY.ofx{g:X0}{H H':Hp}(s:SX g H H'):SY g H H':=⟨λ b o n _ e=>s _ _ n e,λ b ps n e=>⟨ps,s _ _ n e⟩⟩
theorem SY.of{g:X0}{H H':Hp}(s:Same H H'):SY g H H':=.ofx (SX.of s)
theorem SY.put{g:X0}{H:Hp}(o:HO):SY g H (upd H g o):=.ofx (SX.put o)
theorem SY.trans{g:X0}{H H' H'':Hp}(a:SY g H H')(b:SY g H' H''):SY g H H'':=⟨λ c o n t h=>b.k c o n t (a.k c o n t h),λ c ps n e=>let⟨ps',e'⟩:=a.t c ps n e;b.t c ps' n e'⟩
theorem SY.lst{g b:X0}{H H':Hp}{xs:List V}(s:SY g H H')(n:b≠g)(e:H b=some (.lst xs)):H' b=some (.lst xs):=s.k _ _ n (λ _ z=>by cases z) e
theorem SY.free{g b:X0}{H H':Hp}(s:SY g H H')(n:b≠g)(e:H' b=none):H b=none:=by
 cases z:H b with
 |none=>rfl
 |some o=>
  by_cases t:∃ps,o=.tbl ps
  ·obtain⟨ps,rfl⟩:=t;obtain⟨ps',y⟩:=s.t _ _ n z;rw[e]at y;cases y
  ·rw[s.k _ _ n (λ ps y=>t ⟨ps,y⟩) z]at e;cases e
theorem SY.side{g p:X0}{H H' H'':Hp}(s:SY g H H')(hp:H p=none)(x:SX p H' H''):SY g H H'':=⟨λ b o n t e=>x _ _ (Z0g e hp) (s.k _ _ n t e),λ b ps n e=>let⟨ps',e'⟩:=s.t _ _ n e;⟨ps',x _ _ (Z0g e hp) e'⟩⟩
theorem Kq.sy{H H':Hp}{g C dx:X0}{rv:V}{fs:List (V0×V)}(s:SY g H H')(h:H g=some (.ins C dx (("row",rv)::fs))):Kq H H':=
 ⟨λ b xs e=>s.k _ _ (λ z=>by rw[z,h]at e;cases e) (λ _ z=>by cases z) e,λ b o xs e=>s.k _ _ (λ z=>by rw[z,h]at e;cases e) (λ _ z=>by cases z) e,λ b C' dx' f v fs' n e=>s.k _ _ (λ z=>by rw[z,h]at e;cases e;exact n rfl) (λ _ z=>by cases z) e⟩
section
variable{K:y0}{C:X0}{H H':Hp}
theorem Z5e:("form":V0)≠"row":=by decide+kernel
theorem Z8M:("name":V0)≠"row":=by decide+kernel
mutual
theorem TO.kq(k:Kq H H'):∀{v:V}{t:Tm},TO K C H v t->TO K C H' v t
 |_,_,.mk a b c d e=>.mk (k.i _ _ _ _ _ _ Z5e a) (SqT.kt b k.kt) (TOs.kq k c) (SqT.kt d k.kt) (e.kt k.kt)
theorem TOs.kq(k:Kq H H'):∀{vs:List V}{ts:List Tm},TOs K C H vs ts->TOs K C H' vs ts
 |_,_,.nil=>.nil
 |_,_,.cons h hs=>.cons (TO.kq k h) (TOs.kq k hs)
end
variable{c:CS}
theorem _root_.WK.WdO.kq(k:Kq H H'){v:V}{d:PW.Wd}(h:WdO K c H v d):WdO K c H' v d:=by
 cases h with
 |mk a b t=>exact .mk (k.i _ _ _ _ _ _ Z8M a) (b.kt k.kt) (t.kq k)
theorem _root_.WK.HsO.kq(k:Kq H H'){v:V}{d:PW.Hs}(h:HsO K c H v d):HsO K c H' v d:=by
 cases h with
 |mk a b q t=>exact .mk (k.i _ _ _ _ _ _ Z8M a) (b.kt k.kt) (SqT.kt q k.kt) (t.mono λ _ _ r=>WdO.kq k r)
end
end TM
end
section
namespace L2
open PySem PySem.Spec PyProof.Rows
open TM (SY)
def J8f:Obj:={cls:=.none,data:=.freed}
def cutH(h:N0)(p:X0->Bool):N0:={h with objs:=h.objs.mapIdx λ i o=>if p i then o else J8f}
theorem Z9Q{h:N0}{p:X0->Bool}:(cutH h p).objs.size=h.objs.size:=by simp[cutH]
theorem J2S{h:N0}{p:X0->Bool}{b:X0}:(cutH h p).get? b=if p b=true then h.get? b else none:=by
 unfold Heap.get? cutH;simp only[Array.getElem?_mapIdx];cases h.objs[b]? with
 |none=>
  by_cases e:p b=true
  ·rw[if_pos e];rfl
  ·rw[if_neg e];rfl
 |some o=>
  by_cases e:p b=true
  ·rw[if_pos e];simp only[Option.map_some,if_pos e]
  ·rw[if_neg e];simp only[Option.map_some,if_neg e];rfl
theorem Z3L{h base base':N0}:∀{l:List Env},h.FunFrames base l->(∀b∈frs l,base'.get? b=none)->h.FunFrames base' l
 |[],_,_=>trivial
 |env::rest,x,q=>by
  obtain⟨a,⟨L,o,b1,b2,b3,b4⟩,c⟩:=x;refine⟨a,⟨L,o,b1,q L ?_,b3,b4⟩,Z3L c λ b hb=>q b ?_⟩
  ·unfold frs;rw[qf9,b1];exact qa6
  ·unfold frs at hb ⊢;rw[qf9,b1];exact qa8 _ hb
section
variable{X:Cx}{pins:List (X0×Obj)}{σ:St}{H:Hp}{s:U0}{z:V0}{f ca a:X0}{fo:Obj}{o:HO}
theorem Inv.adopt(I:Inv X pins σ H s)(hs:X.s₀.heap.objs.size<=a)(hn:H a=none)(nl:a≠X.env.locals)(nc:∀x c,X.env.cells.lookup x=some c->c≠a)(np:∀p∈X.pn++pins,p.1≠a)(new:ObjOk X.prog X.w (upd H a o) s.heap a o):Inv X pins σ (upd H a o) s:=by
 have old:∀b u,X.s₀.heap.get? b=some u->b≠a:=λ b u e z=>absurd (qb0 (z▸Heap.lt_size e) hs) (qb8 _);refine⟨I.ok,I.os,I.bare,⟨I.base.keep,I.base.slot,λ b u e n x=>by rw[Z0h (old b u e)];exact I.base.free b u e n x,I.base.there,λ b xs e=>?_,λ b u xs e=>?_,λ b ps e=>?_⟩,I.loc,I.cell,by rw[Z0h (Ne.symm nl)];exact I.free,λ x c e=>by rw[Z0h (nc x c e)];exact I.freeC x c e,λ p hp=>?_,I.hok.laidN (λ _ _ e=>e) hn new,I.len⟩
 ·have:=I.base.tups b xs e;rw[Z0h (λ z=>by rw[z,hn]at this;cases this)];exact this
 ·have:=I.base.frzs b u xs e;rw[Z0h (λ z=>by rw[z,hn]at this;cases this)];exact this
 ·obtain⟨m,q⟩:=I.base.tbls b ps e;exact⟨m,by rw[Z0h (λ z=>by rw[z,hn]at q;cases q)];exact q⟩
 ·obtain⟨p1,p2,p3⟩:=I.pin p hp;exact⟨p1,by rw[Z0h (np p hp)];exact p2,p3⟩
theorem Inv.env2(I:Inv X pins σ H s)(hf:(f,fo)∈pins)(hca:X.env.cells.lookup z=some ca)(hfn:X.fn z=true)(hst:X.stack=X.env::X.outer)(hfr:X.env.frame=some X.env.locals):∃base',Env0 X.prog X.w X.K X.mg base' X.A X.stack s H/\base'.get? f=some fo/\(∀o,s.heap.get? ca=some o->base'.get? ca=some o)/\(∀b o,X.base.get? b=some o->base'.get? b=some o):=by
 have e0:=I.env0;obtain⟨f1,f2,f3,f4,f5⟩:=I.pin _ (qc3 _ hf);obtain⟨cv,oc,c1,c2⟩:=I.cell _ _ hca;have c3:=I.freeC _ _ hca;have c4:=I.ok.cab _ _ hfn hca;let p:X0->Bool:=λ b=>(X.base.get? b).isSome||(b==f||b==ca)
 have get:∀b,(cutH s.heap p).get? b=if p b=true then s.heap.get? b else none:=λ b=>J2S;have inB:∀b u,X.base.get? b=some u->(cutH s.heap p).get? b=some u:=λ b u e=>by
  rw[get,if_pos (by show((X.base.get? b).isSome||_)=true;rw[e];rfl)];exact(e0.bs _ _ e).1
 have gf:(cutH s.heap p).get? f=some fo:=by
  rw[get,if_pos (by show(_||(f==f||_))=true;rw[beq_self_eq_true,Bool.true_or,qf5])];exact f1
 have gc:∀u,s.heap.get? ca=some u->(cutH s.heap p).get? ca=some u:=λ u e=>by
  rw[get,if_pos (by show(_||(_||ca==ca))=true;rw[beq_self_eq_true,qf5,qf5])];exact e
 refine⟨cutH s.heap p,⟨e0.frames,⟨e0.mod.kin.keeps inB,e0.mod.glob.keeps inB,?_,e0.mod.nolimit.keeps inB⟩,λ b u e=>?_,by rw[Z9Q];exact qa0 _,Z3L e0.funs λ b hb=>?_,e0.frf,e0.hok,e0.bare⟩,gf,gc,inB⟩
 ·obtain⟨mb,m1,m2⟩:=e0.mod.blt;exact⟨mb,m1.keeps inB,m2⟩
 ·rw[get]at e;split at e
  ·rename_i hp;refine⟨e,?_⟩;rcases qe3.mp hp with q|q
   ·obtain⟨u',q'⟩:=qi8.mp q;exact(e0.bs _ _ q').2
   ·rcases qe3.mp q with q|q
    ·rw[beq_iff_eq.mp q];exact f2
    ·rw[beq_iff_eq.mp q];exact c3
  ·cases e
 ·rw[get,if_neg];intro hp;rw[hst]at hb;have hb':b=X.env.locals\/b∈X.fs:=by
   unfold frs at hb;rw[qf9,hfr]at hb;exact qa2.mp hb
  rcases qe3.mp hp with q|q
  ·obtain⟨u',q'⟩:=qi8.mp q;have:=(e0.funs.mem (b:=b) (by rw[hst];exact hb)).1;rw[q']at this;cases this
  ·rcases qe3.mp q with q|q
   ·rw[beq_iff_eq.mp q]at hb';rcases hb' with y|y
    ·exact f3 y
    ·exact f4 y
   ·rw[beq_iff_eq.mp q]at hb';rcases hb' with y|y
    ·obtain⟨m,⟨ol,es,ep,l1,l2,_⟩,_⟩:=I.loc;rw[<-y,c1]at l1;cases l1;rw[c2]at l2;cases l2
    ·obtain⟨_,u',y',_⟩:=I.ok.funs.mem y;exact absurd (qb0 (Heap.lt_size y') c4) (qb8 _)
def Z4q(c:X0)(q:V0):HO:=.ext λ h=>∃oc vs t,h.get? c=some oc/\oc.data=.fields vs/\vs[1]?=some (.str q t)
theorem J1N{P:Program}{w:M0}{H:Hp}{h:N0}{c:X0}{q:V0}{oc:Obj}{vs:Array Z0}{t:Tok}(a:h.get? c=some oc)(b:oc.data=.fields vs)(d:vs[1]?=some (.str q t)):ObjOk P w H h c (Z4q c q):=
 ⟨⟨oc,vs,t,a,b,d⟩,⟨_,a⟩,λ h1 h2 ⟨o',v',t',x1,x2,x3⟩ k=>⟨o',v',t',k _ x1,x2,x3⟩⟩
def TbL(P:X0)(pos:Pos)(q:V0)(H:Hp):Prop:=H P=some (.tbl #[])\/∃a b c,H P=some (.tbl #[a,b,.ref c])/\codeAmong pos [a,b,.ref c]=some (.ref c)/\TriplesOk [a,b,.ref c]/\H c=some (Z4q c q)
theorem J4m{params:Arguments}{body:Expr}{scope:Scope}{pos:Pos}{c P:X0}{clos:List (V0×X0)}{Q:Z0->U0->Prop}{E:Z0->U0->Prop}(I:Inv X pins σ H s)(hb:BAt X.mg X.base)(hcode:X.env.code=.ref c)(C:W.CodeHd X.base c P)(hT:TbL P pos (X.env.qual++"<lambda>") H)(hcl:closureFor scope X.env=pure clos)(hdef:defaultsOf params X.env=([],[]))(h:∀f c' ctv pm s' H2,(∀g,SY g H H2)->TbL P pos (X.env.qual++"<lambda>") H2->H2 c'=some (Z4q c' (X.env.qual++"<lambda>"))->Inv X ((f,W.kla_obj "<lambda>" (X.env.qual++"<lambda>") params body scope clos pm c' ctv)::pins) σ H2 s'->Q (.ref f) s'):wpAny (model X.prog X.w) X.A (eval (.Lambda params body scope pos) X.env) Q E s:=by
 obtain⟨bm,o,b1,b2,b3,b4,b5,b6,b7⟩:=hb;have hg:s.heap.Ns mainGlobals X.mg:=I.mod.glob.keeps I.bk;have nP:∀{ps},H P=some (.tbl ps)->∀b ob,X.base.get? b=some ob->b≠P:=λ hP b ob e z=>by
  have:=(I.bs b ob e).2;rw[z,hP]at this;cases this
 rcases hT with hP|⟨a,b,c',hP,hca,htr,hco⟩
 ·have hP':s.heap.get? P=some (W.tabObj #[]):=I.hok P _ hP;have hgP:mainGlobals≠P:=by
   obtain⟨og,es,ep,e,_⟩:=I.mod.glob;exact nP hP _ _ e
  refine W.kla_eval hdef (W.kla_makeFunction (mg:=X.mg) hcl I.ok.glob hg hcode (C.keeps I.bk) hP' trivial rfl hgP ⟨bm,o,b1,b2,b3,nP hP _ _ b4,I.bk _ _ b4,b5,b6,b7⟩ λ c' ctv h' tk hx hge hlt hrec htb=>?_);obtain⟨c₂,oc,vs,t,e2,hoc,hd,hv⟩:=(hrec);cases e2;have cP:c'≠P:=λ z=>by
   have:=Heap.lt_size hP';rw[z]at hge;exact absurd this (Nat.not_lt.mpr hge)
  have hPs:P<h'.objs.size:=Heap.lt_size htb;have I1:Inv X pins σ (upd H P (.tbl (#[]++#[rawInt pos.line,rawInt pos.col,.ref c']))) {s with heap:=h'.push (W.kla_obj "<lambda>" (X.env.qual++"<lambda>") params body scope clos ((X.mg "__name__").getD .none) c' ctv),toks:=tk}:=
   I.grown hP (λ b ob hb e=>Heap.get?_push_of_some _ (hx b ob hb e)) (Heap.get?_push_of_some _ htb)
  have hs0:X.s₀.heap.objs.size<=c':=qa1 I.sz hge;have hL:X.env.locals<c':=qb0 I.lt hge;have hc0:H c'=none:=I.hok.fresh hge;have hc1:upd H P (.tbl (#[]++#[rawInt pos.line,rawInt pos.col,.ref c'])) c'=none:=by rw[Z0h cP];exact hc0
  have np:∀p∈X.pn++pins,p.1≠c':=λ p hp z=>by
   have:=Heap.lt_size (I.pin p hp).1;rw[z]at this;exact absurd (qb0 this hge) (qb8 _)
  have nc:∀x c,X.env.cells.lookup x=some c->c≠c':=λ x c e z=>by
   obtain⟨v,o',q,_⟩:=I.cell x c e;have:=Heap.lt_size q;rw[z]at this;exact absurd (qb0 this hge) (qb8 _)
  have I2:=I1.adopt (o:=Z4q c' (X.env.qual++"<lambda>")) hs0 hc1 (qe4 hL) nc np (J1N (Heap.get?_push_of_some _ hoc) hd hv);have hf0:upd (upd H P (.tbl (#[]++#[rawInt pos.line,rawInt pos.col,.ref c']))) c' (Z4q c' (X.env.qual++"<lambda>")) h'.objs.size=none:=by
   rw[Z0h (qe4 hlt),Z0h (qe4 hPs)];exact I.hok.fresh (qa1 hge (qg6 hlt))
  have I3:=I2.pin1 (p:=(h'.objs.size,W.kla_obj "<lambda>" (X.env.qual++"<lambda>") params body scope clos ((X.mg "__name__").getD .none) c' ctv)) (Heap.get?_push_size _ rfl) hf0 (qa1 hs0 (qg6 hlt)) (qe4 (Nat.lt_trans hL hlt)) (λ v z=>by cases z);refine h _ _ _ _ _ _ (λ g=>⟨λ b o' n t e=>?_,λ b ps n e=>?_⟩) (.inr ⟨rawInt pos.line,rawInt pos.col,c',?_,?_,?_,Z0e⟩) Z0e I3
  ·rw[Z0h (Z0g e hc0),Z0h (λ z=>by rw[z,hP]at e;cases e;exact t _ rfl)];exact e
  ·rw[Z0h (Z0g e hc0)];by_cases hb:b=P
   ·subst hb;exact⟨_,Z0e⟩
   ·exact⟨ps,by rw[Z0h hb];exact e⟩
  ·rw[Z0h (Ne.symm cP),Z0e];rfl
  ·simp[codeAmong,rawInt]
  ·simp[TriplesOk,rawInt]
 ·have hP':s.heap.get? P=some (W.tabObj #[a,b,.ref c']):=I.hok P _ hP;refine W.kla_eval hdef (W.kla_makeFunctionHit (mg:=X.mg) hcl I.ok.glob hg hcode (C.keeps I.bk) hP' htr hca ⟨bm,o,b1,b2,b3,nP hP _ _ b4,I.bk _ _ b4,b5,b6,b7⟩ λ ctv h' tk hx hge=>?_);have I1:Inv X pins σ H {s with heap:=h'.push (W.kla_obj "<lambda>" (X.env.qual++"<lambda>") params body scope clos ((X.mg "__name__").getD .none) c' ctv),toks:=tk}:=
   I.kept λ b u q=>Heap.get?_push_of_some _ (hx b u q)
  have I3:=I1.pin1 (p:=(h'.objs.size,W.kla_obj "<lambda>" (X.env.qual++"<lambda>") params body scope clos ((X.mg "__name__").getD .none) c' ctv)) (Heap.get?_push_size _ rfl) (I.hok.fresh hge) (qa1 I.sz hge) (qe4 (qb0 I.lt hge)) (λ v z=>by cases z);exact h _ _ _ _ _ _ (λ g=>SY.of (Same.refl _)) (.inr ⟨a,b,c',hP,hca,htr,hco⟩) hco I3
end
def J6p(K:y0)(mg:V0->Option Z0)(Pt:X0)(lp:Pos)(qn:V0)(params:Arguments)(body:Expr)(scope:Scope)(z:V0)(i:Nat)(spB:N0->Sp)(E:XK)(te:TE):TE:=λ σ H Q=>te σ H λ v1 H1=>∃v,σ[i]?=some (some v)/\TbL Pt lp qn H1/\
 ∀(f ca c':X0)(ctv pm u:Z0)(base':N0)(H2:Hp),(∀g,SY g H1 H2)->TbL Pt lp qn H2->H2 c'=some (Z4q c' qn)->Mod K mg base'->BAt mg base'->base'.get? f=some (W.kla_obj "<lambda>" qn params body scope [(z,ca)] pm c' ctv)->base'.IsCell ca (some u)->RelV v u->spB base' [v1,.ref f] H2 Q E
theorem J7y{K:y0}{mg:V0->Option Z0}{Pt:X0}{lp:Pos}{qn:V0}{params:Arguments}{body:Expr}{scope:Scope}{z:V0}{i:Nat}{spB:N0->Sp}{E:XK}{te:TE}{σ:St}{H:Hp}{Q:VK}:J6p K mg Pt lp qn params body scope z i spB E te σ H Q=te σ H λ v1 H1=>∃v,σ[i]?=some (some v)/\TbL Pt lp qn H1/\∀(f ca c':X0)(ctv pm u:Z0)(base':N0)(H2:Hp),(∀g,SY g H1 H2)->TbL Pt lp qn H2->H2 c'=some (Z4q c' qn)->Mod K mg base'->BAt mg base'->base'.get? f=some (W.kla_obj "<lambda>" qn params body scope [(z,ca)] pm c' ctv)->base'.IsCell ca (some u)->RelV v u->spB base' [v1,.ref f] H2 Q E:=rfl
section
variable{X:Cx}{x z:V0}{ps:List V0}{spB:N0->Sp}{k j i:Nat}{e:Expr}{te:TE}{p pos lp:Pos}{E:XK}{params:Arguments}{body:Expr}{scope:Scope}{c Pt ca:X0}
theorem J4r(h:∀base',X.K.In base'->BAt X.mg base'->HasX X.prog X.w X.K X.mg base' k x ps (spB base'))(hKb:X.K.In X.base)(hr:Room j X.A)(hk:k<=j)(hg:Gl X x)(he:PE (X.xx E) e te)(hb:BAt X.mg X.base)(hcode:X.env.code=.ref c)(C:W.CodeHd X.base c Pt)(hN:X.N[i]?=some z)(hz:X.env.scope.names.lookup z=some .cell)(hca:X.env.cells.lookup z=some ca)(hcl:closureFor scope X.env=pure [(z,ca)])(hdef:defaultsOf params X.env=([],[]))(hfn:X.fn z=true)(hst:X.stack=X.env::X.outer)(hfr:X.env.frame=some X.env.locals)(hdb:(x==("__debug__":V0))=false:=by decide)(hs1:starEach [e,.Lambda params body scope lp] X.env=(false,eval e X.env)::starEach [.Lambda params body scope lp] X.env:=by rfl)(hs2:starEach [.Lambda params body scope lp] X.env=(false,eval (.Lambda params body scope lp) X.env)::starEach [] X.env:=by rfl)(hpl:(backTo pos (starEach [.Lambda params body scope lp] X.env)).any (·.1)=false:=by rfl):PE (X.xx E) (.Call (.Name x p) [e,.Lambda params body scope lp] [] pos) (J6p X.K X.mg Pt lp (X.env.qual++"<lambda>") params body scope z i spB E te):=by
 intro pins s σ H Q I h';obtain⟨fl,fd,F0,b,kp,m⟩:=(h X.base hKb hb).ex;refine wpAny_Call_Name_kw (Z2B I hg m ?_ hdb);refine W.callWith_K (h₀:=X.base) I.ok.mod.kin kp ?_ hs1 hpl;rw[hs1];show wpAny _ _ (spliced ((false,eval e X.env)::backTo pos (starEach [.Lambda params body scope lp] X.env))) _ _ s;refine Calls.spliced_cons (thn (he pins s σ H _ I h') λ u1 s1 hz1=>?_);obtain⟨v1,H1,I1,r1,v,ev,hT,q⟩:=hz1;rw[hs2];show wpAny _ _ (spliced ((false,eval (.Lambda params body scope lp) X.env)::backTo pos (starEach [] X.env))) _ _ s1;refine Calls.spliced_cons (J4m (X:=X.xx E) (pos:=lp) I1 hb hcode C hT hcl hdef λ f c' ctv pm s2 H2 sy hT2 hc2 I2=>?_);refine Calls.spliced_nil ⟨I2.kIn,?_⟩;obtain⟨base',e0,gf,gc,inB⟩:=I2.env2 (z:=z) (ca:=ca) (qa6) hca hfn hst hfr;obtain⟨mm,hn,hl⟩:=I2.loc;obtain⟨u,ru,lk⟩:=hl i z v hN ev (.inr (.inl hz));have cellAt:base'.IsCell ca (some u):=by
  rcases lk with⟨y,_⟩|⟨_,cc,y,⟨oo,y1,y2⟩⟩
  ·have y:X.env.scope.names.lookup z=some .local:=y;rw[hz]at y;cases y
  ·have y:X.env.cells.lookup z=some cc:=y;rw[hca]at y;cases y;exact⟨oo,gc _ y1,y2⟩
 have hsp:=q f ca c' ctv pm u base' H2 sy hT2 hc2 e0.mod (let⟨bm,o,b1,b2,b3,b4,b5⟩:=hb;⟨bm,o,b1,b2,b3,inB _ _ b4,b5⟩) gf cellAt ru;obtain⟨fl',fd',F,b',kp',m'⟩:=(h base' e0.mod.kin (let⟨bm,o,b1,b2,b3,b4,b5⟩:=hb;⟨bm,o,b1,b2,b3,inB _ _ b4,b5⟩)).ex;cases m.symm.trans m';have r2:Vals [v1,V.ref f] [u1,Value.ref f]:=.cons r1 (.cons rfl .nil);have hl2:([u1,Value.ref f]++[]).length=ps.length:=by rw[qb6,<-r2.length];exact F.len _ _ _ _ hsp
 have bt:=b' s2 [u1,Value.ref f] I2.kIn hl2;rw[qb6]at bt;refine wpAny_call (codeAny_mono (F.run X.A X.stack s2 H2 ⟨[u1,Value.ref f],[]⟩ [u1,Value.ref f] _ Q E (hr.mono hk) e0 bt r2 hsp) λ r s' hq=>?_);cases r with
 |error e=>exact(Raised.passes (X:=X) (E:=λ _=>E) (E':=E) λ _ _ _ _ q=>q) _ σ H2 s2 e s' I2 hq
 |ok fl=>
  cases fl with
  |ret u=>
   obtain⟨v,H',J,rv,q⟩:=I2.after hq;exact⟨v,H',J.pins_of λ p hp=>J.pin p (qc3 _ (qa8 _ hp)),rv,q⟩
  |next=>exact False.elim hq
  |brk=>exact False.elim hq
  |cont=>exact False.elim hq
end
structure FnC(K:y0)(mg:V0->Option Z0)(x:V0)(st:Stmt)(c:X0):Prop where
 ex:∃f oc od kV doc pm an ct osl,K.lookup f=some ⟨oc,od,.func (W.fnOf x x (Z0O st) (Z0y st) (Z0d st) .none kV doc pm an (.ref c) ct),osl⟩/\W.codeIn K (.ref c) x=true/\W.keepIn K (.ref f)=true/\mg x=some (.ref f)
theorem HasX.ofC{P:Program}{w:M0}{K:y0}{mg:V0->Option Z0}{base:N0}{x:V0}{st:Stmt}{N ps:List V0}{k:Nat}{sp:Sp}{c:X0}(F:FnC K mg x st c)(S:Z0j N ps (Z0d st))(hb:∀(kV doc pm:Z0)(an:Option X0)(cdv ct:Z0)(us:List Z0),us.length=ps.length->bindArgs (W.fnOf x x (Z0O st) (Z0y st) (Z0d st) .none kV doc pm an cdv ct) ⟨us,[]⟩=pure (ps.zip us))(len:∀vs H Q E,sp vs H Q E->vs.length=ps.length)(hbody:∀(f:X0)(A:O0)(outer:List Env)(s:U0)(H:Hp)(vs:List V)(Q:VK)(E:XK),Room k (A.deeper (envOfC x (Z0d st) s.heap.objs.size f (.ref c)))->sp vs H Q E->∃t,PSs ((cxOf (CXe P w) P w K mg base N x (Z0d st) f (.ref c) A outer s H E).xx E) (Z0y st) t/\t {nx:=λ _ H'=>Q .non H',rt:=Q} (Z3u N vs) H):HasX P w K mg base (k+1) x ps sp:=by
 obtain⟨f,oc,od,kV,doc,pm,an,ct,osl,lk,hcd,kp,m⟩:=F.ex;refine⟨f,_,J4I lk hcd S len λ A outer s H vs Q E hr hsp=>?_,(Z9f lk hcd kp).binds hb,kp,m⟩;obtain⟨t,h,q⟩:=hbody f A outer s H vs Q E hr hsp;exact⟨t,λ pins s1 σ H1 D I hw=>wpAny_mono (h pins s1 σ H1 D (I.wish _) hw) (λ _ _ z=>z.unwish) λ e s2 z=>Z8A z,q⟩
def J4s(K:y0):List V->Hp->VK->Prop:=λ xs H Q=>∃(p:X0)(ys:List Bool),xs=[.ref p]/\SqL K H p (ys.map V.bl)/\Q (.bl (ys.any id)) H
theorem J7E{K:y0}{xs:List V}{H:Hp}{Q:VK}:J4s K xs H Q=∃(p:X0)(ys:List Bool),xs=[.ref p]/\SqL K H p (ys.map V.bl)/\Q (.bl (ys.any id)) H:=rfl
theorem Z5O(ys:List Bool):(qd7 ys.length).any (λ i=>ys.getD i false)=ys.any id:=by
 rw[(qg1),List.any_eq_true,List.any_eq_true];constructor
 ·rintro⟨i,hi,h⟩;have hi':=qf8.mp hi;rw[qc6,qb5 hi']at h;exact⟨_,qg8 hi',h⟩
 ·rintro⟨y,hy,h⟩;obtain⟨i,hi,e⟩:=qj2 hy;refine⟨i,qf8.mpr hi,?_⟩;rw[(qc6),qb5 hi];show ys[i]=true;rw[e];exact h
theorem J3u{X:Cx}(hc:X.calm=true):Z4m X (.builtin "any") (J4s X.K):=by
 intro pins s σ H xs us Q I r h;obtain⟨p,ys,rfl,hq,q⟩:=h;obtain⟨u,rfl,ru⟩:=r.one;cases ru;obtain⟨its,rv,pl,hz⟩:=I.list hq;obtain⟨o,ho,_,_,_⟩:=id pl.isList;have hne:p≠s.heap.objs.size:=qb2 (Heap.lt_size ho);have hl:=rv.length;rw[qa3]at hl;refine call_any_walk (wpAny_pyIter_list pl.isList ?_);refine⟨s.heap.objs.size,_,_,_,_,_,λ i=>ys.getD i false,rfl,Walks.list (A:=X.A.in1) (show X.A.in1.handled=none from I.ok.hd hc) _ p hne its.toArray,⟨⟨_,Heap.get?_push_size _ rfl,rfl,rfl⟩,pl.isList.at λ o e=>Heap.get?_push_of_some _ e⟩,λ i v s1 Q1 E1 hv hq1=>?_,λ h' tk kk=>?_⟩
 ·have hv':its[i]?=some v:=by simpa using hv
  have hi:i<ys.length:=by
   have:=(qb7.mp hv').1;lia
  obtain⟨u',e',r'⟩:=rv.get (i:=i) (x:=V.bl ys[i]) (by rw[qc0,qb5 hi];rfl);rw[hv']at e';cases e';cases(show _=Value.bool ys[i]from r');refine wpAny_truthy_bool ?_;dsimp only at hq1;rw[qc6,qb5 hi]at hq1;exact hq1
 ·have e:(qd7 its.toArray.size).any (λ i=>ys.getD i false)=ys.any id:=by
   rw[qb1,<-hl];exact Z5O ys
  refine⟨.bl (ys.any id),H,I.kept λ b o e=>kk b o (λ z=>?_) (Heap.get?_push_of_some _ e),by rw[e];rfl,q⟩;have z':b=s.heap.objs.size:=by simpa using z
  exact absurd (Heap.lt_size e) (by rw[z'];exact qb8 _)
theorem J2o{K:y0}{a:X0}{g:TG}{tb:TS}{D:Ends}{σ:St}{H:Hp}(xs:List V)(Pv:Nat->St->Hp->Prop)(h0:Pv 0 σ H)(hl:∀i σ H,i<=xs.length->Pv i σ H->SqL K H a xs)(hs:∀i x σ H,xs.reverse[i]?=some x->Pv i σ H->g x σ H λ σ2 H2=>tb {D with nx:=Pv (i+1),ct:=Pv (i+1),bk:=D.nx} σ2 H2)(hd:∀σ H,Pv xs.length σ H->D.nx σ H):Z9q (Itv K a xs.length) g tb D σ H:=by
 refine⟨λ i m σ H=>m=xs.length-i/\i<=xs.length/\Pv i σ H,⟨xs.length,by simp,qb4 _,h0⟩,?_⟩;rintro i m σ H ⟨rfl,hi,p⟩;have q:=hl i σ H hi p;by_cases hlt:i<xs.length
 ·refine .inr ⟨⟨hlt,xs,q,rfl⟩,Pv (i+1),λ σ' H' p'=>⟨xs.length-(i+1),by omega,rfl,hlt,p'⟩,λ x H' y=>?_⟩;obtain⟨e,y⟩:=y;subst e;exact hs i x σ _ (by rw[List.getElem?_reverse hlt];exact y xs q) p
 ·have e:i=xs.length:=by omega
  subst e;exact .inl ⟨rfl,hd σ H p⟩
end L2
end
section
namespace RR
open PySem P15
open K10 (isNm isNum)
def hdw(s:List V0):V0:=s.headD ""
section
variable{ws u v rest:List V0}{n:Nat}
theorem ahd(ws:List V0)(n:Nat):ahead ws n=hdw (ws.drop n):=by
 unfold ahead hdw;rw[qc6,List.headD_eq_head?_getD,List.head?_drop]
theorem sg1{x:V0}(h:ws.drop n=x::rest):ahead ws n=x/\ws.drop (n+1)=rest:=by
 refine⟨by rw[ahd,h];rfl,?_⟩;rw[<-List.drop_drop,h];rfl
theorem sgA(h:ws.drop n=u++rest):ws.drop (n+u.length)=rest:=by
 rw[<-List.drop_drop,h,List.drop_left]
theorem sgL(h:ws.drop n=u++rest)(z:u≠[]):n+u.length<=ws.length:=by
 have a:(ws.drop n).length=u.length+rest.length:=by rw[h,qa5]
 rw[qf3]at a;have:=qe9.mpr z;omega
end
structure Nx(c:Nat)(rest:List V0):Prop where
 p:hdw rest≠"."
 b:hdw rest≠"("
 s:stren (hdw rest)<c
theorem Nx.mono{c d:Nat}{rest:List V0}(h:Nx c rest)(l:c<=d):Nx d rest:=⟨h.p,h.b,qb0 h.s l⟩
theorem J6V{c:Nat}(h:0<c):Nx c []:=⟨qP,qP,qh6 qP h⟩
theorem nx_0{c:Nat}{x:V0}{r:List V0}(h1:(decide (x≠"."/\x≠"("/\stren x=0))=true)(hc:0<c):Nx c (x::r):=by
 obtain⟨a,b,d⟩:=of_decide_eq_true h1;exact⟨a,b,by show stren x<c;omega⟩
def Fin{α:Type}(o:Option α)(n:Nat):Res α:=match o with|some t=>.ok t n|none=>.bad
abbrev W:=List V0
def Od(J deep:Nat)(u:W)(o:Option Tm):Prop:=u≠[]/\∀j,J<=j->∀(ws:W)(n:Nat)(rest:W),ws.drop n=u++rest->rOne ws (rd ws j) deep n=Fin o (n+u.length)
def Qd(J deep:Nat)(u:W)(o:Option Tm):Prop:=u≠[]/\∀j,J<=j->∀(ws:W)(n:Nat)(rest:W),ws.drop n=u++rest->hdw rest≠"("->
 match o with
 |none=>rPointed ws (rd ws j) deep n=.bad
 |some t=>∃f,ws.length<n+u.length+f/\rPointed ws (rd ws j) deep n=rPts ws (rd ws j) deep f t (n+u.length)
def Ad(J deep:Nat)(u:W)(o:Option (List Tm)):Prop:=u≠[]/\∀j,J<=j->∀(ws:W)(n:Nat)(rest:W),ws.drop n=u++rest->rTerms ws (rd ws j) deep n=Fin o (n+u.length)
def Pd(J low deep:Nat)(u:W)(o:Option Tm)(c:Nat):Prop:=u≠[]/\∀j,J<=j->∀(ws:W)(n:Nat)(rest:W),ws.drop n=u++rest->Nx c rest->rPart ws (rd ws j) low deep n=Fin o (n+u.length)
def Rd(J least low deep:Nat)(u:W)(o:Option Tm)(c:Nat):Prop:=u≠[]/\∀j,J<=j->∀(ws:W)(n:Nat)(rest:W),ws.drop n=u++rest->Nx c rest->
 match o with
 |none=>(rd ws (j+1)).T least low deep n=.bad
 |some t=>∃f,ws.length<n+u.length+f/\(rd ws (j+1)).T least low deep n=rTail ws (rd ws j) least low deep f t (n+u.length)
section
variable{J J' K deep least low c c':Nat}{u v:W}{o o':Option Tm}
theorem Qd.mono(h:Qd J deep u o)(l:J<=J'):Qd J' deep u o:=⟨h.1,λ j hj=>h.2 j (qa1 l hj)⟩
theorem Ad.mono{o:Option (List Tm)}(h:Ad J deep u o)(l:J<=J'):Ad J' deep u o:=⟨h.1,λ j hj=>h.2 j (qa1 l hj)⟩
theorem Pd.mono(h:Pd J low deep u o c)(l:J<=J')(d:c'<=c):Pd J' low deep u o c':=⟨h.1,λ j hj ws n rest e x=>h.2 j (qa1 l hj) ws n rest e (x.mono d)⟩
theorem Rd.mono(h:Rd J least low deep u o c)(l:J<=J')(d:c'<=c):Rd J' least low deep u o c':=⟨h.1,λ j hj ws n rest e x=>h.2 j (qa1 l hj) ws n rest e (x.mono d)⟩
theorem Rd.run(h:Rd J least low deep u o c){j:Nat}(hj:J<=j){ws:W}{n:Nat}{rest:W}(e:ws.drop n=u++rest)(x:Nx c rest)(y:stren (hdw rest)<least):(rd ws (j+1)).T least low deep n=Fin o (n+u.length):=by
 have a:=h.2 j hj ws n rest e x;cases o with
 |none=>exact a
 |some t=>
  obtain⟨f,l,a⟩:=a;rw[a];have l2:=sgL e h.1;cases f with
  |zero=>omega
  |succ f=>
   unfold rTail;rw[if_neg]
   ·rfl
   ·rw[ahd,sgA e];omega
theorem Od.q(h:Od J deep u o):Qd J deep u o:=⟨h.1,λ j hj ws n rest e _=>by
 have a:=h.2 j hj ws n rest e;cases o with
 |none=>show rPointed ws (rd ws j) deep n=.bad;unfold rPointed;rw[a];rfl
 |some t=>
  refine⟨ws.length+1,by omega,?_⟩;unfold rPointed;rw[a];rfl⟩
theorem Qd.run(h:Qd J deep u o){j:Nat}(hj:J<=j){ws:W}{n:Nat}{rest:W}(e:ws.drop n=u++rest)(x:hdw rest≠"(")(y:hdw rest≠"."):rPointed ws (rd ws j) deep n=Fin o (n+u.length):=by
 have a:=h.2 j hj ws n rest e x;cases o with
 |none=>exact a
 |some t=>
  obtain⟨f,l,a⟩:=a;rw[a];have l2:=sgL e h.1;cases f with
  |zero=>omega
  |succ f=>
   unfold rPts;rw[if_neg]
   ·rfl
   ·rw[ahd,sgA e];exact y
theorem Qd.p(h:Qd J deep u o)(d:deep<=14)(k:(decide (hdw u≠"not"/\hdw u≠"if"/\hdw u≠"let"/\hdw u≠"set"))=true):Pd J low deep u o c:=⟨h.1,λ j hj ws n rest e x=>by
 obtain⟨k1,k2,k3,k4⟩:=of_decide_eq_true k;have ea:ahead ws n=hdw u:=by
  rw[ahd,e];cases u with
  |nil=>exact(h.1 rfl).elim
  |cons y r=>rfl
 unfold rPart;rw[if_neg (by omega),ea,if_neg k1,if_neg k2,if_neg k3,if_neg k4];exact h.run hj e x.b x.p⟩
theorem Pd.r(h:Pd J low deep u o c):Rd J least low deep u o c:=⟨h.1,λ j hj ws n rest e x=>by
 have a:=h.2 j hj ws n rest e x;cases o with
 |none=>show(rPart ws (rd ws j) low deep n).bind _=.bad;rw[a];rfl
 |some t=>
  refine⟨ws.length+1,by omega,?_⟩;show(rPart ws (rd ws j) low deep n).bind _=_;rw[a];rfl⟩
theorem J4n{x:V0}(h:Z0I x=true)(k:isNum x.cps.toList=false)(g:(decide (x≠""/\x≠"yes"/\x≠"no"))=true):Od J deep [x] (some (.mk .name (.str x) [])):=⟨nofun,λ j _ ws n rest e=>by
 obtain⟨g1,g2,g3⟩:=of_decide_eq_true g;unfold rOne;rw[(sg1 e).1];dsimp only;rw[if_neg g1,if_neg (by rw[k];decide),if_neg g2,if_neg g3,if_pos h];rfl⟩
theorem Z1x{ws:W}{n:Nat}{x:V0}{rest:W}(e:ws.drop n=x::rest):need ws x n=.ok () (n+1):=by
 unfold need;rw[(sg1 e).1,if_pos rfl]
theorem Z4g{ws:W}{n:Nat}{x:V0}{rest:W}(e:ws.drop n=x::rest)(h:Z0I x=true):needName ws n=.ok x (n+1):=by
 unfold needName;rw[(sg1 e).1,if_pos h]
theorem Z9F(h:Rd J 1 1 deep u o c)(hc:0<c):Od (J+1) deep (("(":V0)::(u++[(")":V0)])) o:=⟨nofun,λ j hj ws n rest e=>by
 obtain⟨j,rfl⟩:∃i,j=i+1:=⟨j-1,by omega⟩;have e1:ws.drop n=("(":V0)::(u++((")":V0)::rest)):=by rw[e];simp
 obtain⟨a1,a2⟩:=sg1 e1;unfold rOne;rw[a1];dsimp only;rw[if_neg qP,if_neg qP,if_neg qP,if_neg qP,if_neg qP,if_neg qP,if_neg qP,if_neg qP,if_pos rfl];rw[h.run (j:=j) (by omega) a2 (nx_0 qP hc) (show stren ")"<1 by decide+kernel)];cases o with
 |none=>rfl
 |some t=>
  show(need ws ")" (n+1+u.length)).bind _=_;rw[Z1x (sgA a2)];show Res.ok t _=Res.ok t _;congr 1;simp only[qa4,qa5,qd2];omega⟩
def its:List (W×Option Tm)->W
 |[]=>[(")":V0)]
 |i::r=>(",":V0)::(i.1++its r)
def allS:List (W×Option Tm)->Option (List Tm)
 |[]=>some []
 |i::r=>i.2.bind λ t=>(allS r).bind λ ts=>some (t::ts)
theorem Z9c{j:Nat}(hj:J<=j)(hc:0<c){ws:W}:∀(l:List (W×Option Tm))(found:List Tm)(f n:Nat)(rest:W),(∀i∈l,Rd J 1 1 deep i.1 i.2 c)->ws.drop n=its l++rest->ws.length<n+f->rMore ws (λ m=>(rd ws (j+1)).T 1 1 deep m) f found n=Fin ((allS l).bind λ ts=>some (found++ts)) (n+(its l).length)
 |[],found,f,n,rest,_,e,l=>by
  have l2:=sgL e (show its []≠[]from nofun);have e:ws.drop n=(")":V0)::rest:=e;cases f with
  |zero=>simp only[its,qa4,qd2]at l2;omega
  |succ f=>
   unfold rMore;rw[if_neg (by rw[(sg1 e).1];decide+kernel),Z1x e];show Res.ok _ _=Res.ok (found++[]) _;rw[qb6];rfl
 |i::r,found,f,n,rest,h,e,l=>by
  have l2:=sgL e (show its (i::r)≠[]from nofun);have ln:(its (i::r)).length=1+i.1.length+(its r).length:=by simp only[its,qa4,qa5];omega
  have e1:ws.drop n=(",":V0)::(i.1++(its r++rest)):=by rw[e,its];simp
  obtain⟨a1,a2⟩:=sg1 e1;have hN:Nx c (its r++rest)/\stren (hdw (its r++rest))<1:=by
   cases r with
   |nil=>exact⟨nx_0 qP hc,show stren ")"<1 by decide+kernel⟩
   |cons y z=>exact⟨nx_0 qP hc,show stren ","<1 by decide+kernel⟩
  cases f with
  |zero=>omega
  |succ f=>
   unfold rMore;rw[if_pos a1,(h i qa6).run hj a2 hN.1 hN.2];cases e2:i.2 with
   |none=>rw[allS,e2];rfl
   |some t=>
    show rMore ws _ f (found++[t]) (n+1+i.1.length)=_;rw[Z9c hj hc r (found++[t]) f _ rest (λ x hx=>h x (qa8 _ hx)) (sgA a2) (by omega),ln,allS,e2];have p:n+1+i.1.length+(its r).length=n+(1+i.1.length+(its r).length):=by omega
    rw[p];cases allS r with
    |none=>rfl
    |some ts=>show Res.ok (found++[t]++ts) _=Res.ok (found++t::ts) _;rw[qb9];rfl
theorem J5I:Ad J deep ["(",")"] (some []):=⟨nofun,λ j _ ws n rest e=>by
 have e:ws.drop n=("(":V0)::")"::rest:=e;obtain⟨a1,a2⟩:=sg1 e;unfold rTerms rList;rw[Z1x e];show((if ahead ws (n+1)=")" then _ else _:Res (List Tm))).bind _=_;rw[if_pos (sg1 a2).1];rfl⟩
def rowW(i:W×Option Tm)(r:List (W×Option Tm)):W:=("(":V0)::(i.1++its r)
theorem Z9P{i:W×Option Tm}{r:List (W×Option Tm)}(hc:0<c)(h:∀x∈i::r,Rd J 1 1 deep x.1 x.2 c)(k:hdw i.1≠")")(l:r.length<8):Ad (J+1) deep (rowW i r) (allS (i::r)):=⟨nofun,λ j hj ws n rest e=>by
 obtain⟨j,rfl⟩:∃i,j=i+1:=⟨j-1,by omega⟩;have e1:ws.drop n=("(":V0)::(i.1++(its r++rest)):=by rw[e,rowW];simp
 obtain⟨a1,a2⟩:=sg1 e1;have hi:=h i qa6;have hN:Nx c (its r++rest)/\stren (hdw (its r++rest))<1:=by
  cases r with
  |nil=>exact⟨nx_0 qP hc,show stren ")"<1 by decide+kernel⟩
  |cons y z=>exact⟨nx_0 qP hc,show stren ","<1 by decide+kernel⟩
 have hd2:ahead ws (n+1)≠")":=by
  rw[ahd,a2];cases e3:i.1 with
  |nil=>exact(hi.1 e3).elim
  |cons y z=>rw[e3]at k;exact k
 have al:∀{l:List (W×Option Tm)}{ts:List Tm},allS l=some ts->ts.length=l.length:=by
  intro l;induction l with
  |nil=>intro ts e;cases e;rfl
  |cons y z ih=>
   intro ts e;rw[allS]at e;cases e4:y.2 with
   |none=>rw[e4]at e;cases e
   |some t=>
    rw[e4]at e;cases e5:allS z with
    |none=>rw[e5]at e;cases e
    |some us=>rw[e5]at e;cases e;show us.length+1=z.length+1;rw[ih e5]
 unfold rTerms rList;rw[Z1x e1];show((if ahead ws (n+1)=")" then _ else _):Res (List Tm)).bind _=_;rw[if_neg hd2];dsimp only;rw[hi.run (by omega) a2 hN.1 hN.2];have ln:(rowW i r).length=1+i.1.length+(its r).length:=by simp only[rowW,qa4,qa5];omega
 cases e2:i.2 with
 |none=>rw[allS,e2];rfl
 |some t=>
  show(rMore ws _ _ [t] (n+1+i.1.length)).bind _=_;rw[Z9c (by omega) hc r [t] _ _ rest (λ x hx=>h x (qa8 _ hx)) (sgA a2) (by omega),allS,e2];have p:n+1+i.1.length+(its r).length=n+(rowW i r).length:=by omega
  rw[p];cases e3:allS r with
  |none=>rfl
  |some ts=>
   show(if 8<([t]++ts).length then _ else _)=Res.ok (t::ts) _;rw[if_neg (by have:=al e3;simp only[qa5,qa4,qd2];omega)];rfl⟩
theorem J7d{x:V0}{os:Option (List Tm)}(hx:Z0I x=true)(h:Ad J (deep+1) v os):Od J deep (("new":V0)::x::v) (os.bind λ ps=>some (.mk .new (.str x) ps)):=⟨nofun,λ j hj ws n rest e=>by
 have e1:ws.drop n=("new":V0)::x::(v++rest):=e;obtain⟨a1,a2⟩:=sg1 e1;obtain⟨b1,b2⟩:=sg1 a2;unfold rOne;rw[a1];dsimp only;rw[if_neg qP,if_neg qP,if_neg qP,if_neg qP,if_neg qP,if_neg qP,if_pos rfl,Z4g a2 hx];show(rTerms ws (rd ws j) (deep+1) (n+1+1)).bind _=_;rw[h.2 j hj ws _ rest b2];cases os with
 |none=>rfl
 |some ps=>
  show Res.ok _ _=Res.ok _ _;congr 1;simp only[qa4];omega⟩
theorem J3c{x:V0}{os:Option (List Tm)}(hx:Z0I x=true)(h:Ad J (deep+1) v os):Od J deep (("elder":V0)::"."::x::v) (os.bind λ ps=>some (.mk .elder (.str x) ps)):=⟨nofun,λ j hj ws n rest e=>by
 have e1:ws.drop n=("elder":V0)::"."::x::(v++rest):=e;obtain⟨a1,a2⟩:=sg1 e1;obtain⟨b1,b2⟩:=sg1 a2;obtain⟨c1,c2⟩:=sg1 b2;unfold rOne;rw[a1];dsimp only;rw[if_neg qP,if_neg qP,if_neg qP,if_neg qP,if_neg qP,if_neg qP,if_neg qP,if_pos rfl,Z1x a2];show(needName ws (n+1+1)).bind _=_;rw[Z4g b2 hx];show(rTerms ws (rd ws j) (deep+1) (n+1+1+1)).bind _=_;rw[h.2 j hj ws _ rest c2];cases os with
 |none=>rfl
 |some ps=>
  show Res.ok _ _=Res.ok _ _;congr 1;simp only[qa4];omega⟩
theorem Z8y{x:V0}(hx:Z0I x=true)(h:Qd J deep u o):Qd J deep (u++[(".":V0),x]) (o.bind λ t=>some (.mk .field (.str x) [t])):=⟨by simp,λ j hj ws n rest e z=>by
 have e1:ws.drop n=u++((".":V0)::x::rest):=by rw[e];simp
 have a:=h.2 j hj ws n _ e1 (show(".":V0)≠"(" by decide+kernel);have b:=sgA e1;have l2:=sgL e1 h.1;obtain⟨b1,b2⟩:=sg1 b;obtain⟨c1,c2⟩:=sg1 b2;cases o with
 |none=>exact a
 |some t=>
  obtain⟨f,l,a⟩:=a;cases f with
  |zero=>omega
  |succ f=>
   have ln:(u++[(".":V0),x]).length=u.length+2:=by simp
   refine⟨f,by omega,?_⟩;rw[a];show rPts ws (rd ws j) deep (f+1) t (n+u.length)=_;rw[rPts,if_pos b1,Z4g b2 hx];show(if ahead ws (n+u.length+1+1)="(" then _ else _)=_;rw[if_neg (by rw[ahd,c2];exact z),ln];rfl⟩
theorem Z7D{x:V0}{os:Option (List Tm)}(hx:Z0I x=true)(h:Qd J deep u o)(g:Ad J (deep+1) v os)(k:hdw v="("):Qd J deep (u++(".":V0)::x::v) (o.bind λ t=>os.bind λ ps=>some (.mk .call (.str x) (t::ps))):=⟨by simp,λ j hj ws n rest e z=>by
 have e1:ws.drop n=u++((".":V0)::x::(v++rest)):=by rw[e];simp
 have a:=h.2 j hj ws n _ e1 (show(".":V0)≠"(" by decide+kernel);have b:=sgA e1;have l2:=sgL e1 h.1;obtain⟨b1,b2⟩:=sg1 b;obtain⟨c1,c2⟩:=sg1 b2;cases o with
 |none=>exact a
 |some t=>
  obtain⟨f,l,a⟩:=a;have hb:ahead ws (n+u.length+1+1)="(":=by
   rw[ahd,c2];cases v with
   |nil=>exact(g.1 rfl).elim
   |cons y r=>exact k
  cases f with
  |zero=>omega
  |succ f=>
   have ln:(u++(".":V0)::x::v).length=u.length+2+v.length:=by simp only[qa5,qa4];omega
   have st:rPointed ws (rd ws j) deep n=(rTerms ws (rd ws j) (deep+1) (n+u.length+1+1)).bind λ ps j'=>rPts ws (rd ws j) deep f (.mk .call (.str x) (t::ps)) j':=by
    rw[a];show rPts ws (rd ws j) deep (f+1) t (n+u.length)=_;rw[rPts,if_pos b1,Z4g b2 hx];show(if ahead ws (n+u.length+1+1)="(" then _ else _)=_;rw[if_pos hb]
   rw[g.2 j hj ws _ rest c2]at st;cases os with
   |none=>exact st
   |some ps=>
    have:=qe9.mpr g.1;refine⟨f,by omega,?_⟩;rw[st,ln];show rPts ws (rd ws j) deep f _ _=rPts ws (rd ws j) deep f _ _;congr 1;omega⟩
theorem J1i(d:deep<=14)(h:Pd J low (deep+1) u o c):Pd (J+1) low deep (("not":V0)::u) (o.bind λ t=>some (.mk .nt .non [t])) c:=⟨nofun,λ j hj ws n rest e x=>by
 obtain⟨j,rfl⟩:∃i,j=i+1:=⟨j-1,by omega⟩;have e1:ws.drop n=("not":V0)::(u++rest):=e;obtain⟨a1,a2⟩:=sg1 e1;unfold rPart;rw[if_neg (by omega),if_pos a1];show(rPart ws (rd ws j) low (deep+1) (n+1)).bind _=_;rw[h.2 j (by omega) ws _ rest a2 x];cases o with
 |none=>rfl
 |some t=>
  show Res.ok _ _=Res.ok _ _;congr 1;simp only[qa4];omega⟩
theorem J9b{a b d:W}{oa ob od:Option Tm}(dp:deep<=14)(h1:Rd J 1 1 (deep+1) a oa 1)(h2:Rd J 1 1 (deep+1) b ob 1)(h3:Rd J 2 2 (deep+1) d od c)(hc:c<=2):Pd (J+1) low deep (("if":V0)::(a++("then":V0)::(b++("else":V0)::d))) (oa.bind λ x=>ob.bind λ y=>od.bind λ z=>some (.mk .iff .non [x,y,z])) c:=⟨nofun,λ j hj ws n rest e x=>by
 obtain⟨j,rfl⟩:∃i,j=i+1:=⟨j-1,by omega⟩;have e1:ws.drop n=("if":V0)::(a++(("then":V0)::(b++(("else":V0)::(d++rest))))):=by rw[e];simp
 obtain⟨a1,a2⟩:=sg1 e1;obtain⟨b1,b2⟩:=sg1 (sgA a2);obtain⟨c1,c2⟩:=sg1 (sgA b2);unfold rPart;rw[if_neg (by omega),if_neg (by rw[a1];decide+kernel),if_pos a1];unfold rIf;rw[h1.run (by omega) a2 (nx_0 qP (by omega)) (show stren "then"<1 by decide+kernel)];cases oa with
 |none=>rfl
 |some x1=>
  show(need ws "then" (n+1+a.length)).bind _=_;rw[Z1x (sgA a2)];show((rd ws (j+1)).T 1 1 (deep+1) (n+1+a.length+1)).bind _=_;rw[h2.run (by omega) b2 (nx_0 qP (by omega)) (show stren "else"<1 by decide+kernel)];cases ob with
  |none=>rfl
  |some x2=>
   show(need ws "else" (n+1+a.length+1+b.length)).bind _=_;rw[Z1x (sgA b2)];show((rd ws (j+1)).T 2 2 (deep+1) (n+1+a.length+1+b.length+1)).bind _=_;rw[h3.run (by omega) c2 x (qb0 x.s hc)];cases od with
   |none=>rfl
   |some x3=>
    show Res.ok _ _=Res.ok _ _;congr 1;simp only[qa4,qa5];omega⟩
theorem J1c{a b:W}{oa ob:Option Tm}{x:V0}(hx:Z0I x=true)(dp:deep<=14)(h1:Rd J 1 1 (deep+1) a oa 1)(h2:Rd J low low (deep+1) b ob c)(hc:c<=low):Pd (J+1) low deep (("let":V0)::x::"="::(a++("in":V0)::b)) (oa.bind λ y=>ob.bind λ z=>some (.mk .lt (.str x) [y,z])) c:=⟨nofun,λ j hj ws n rest e nx=>by
 obtain⟨j,rfl⟩:∃i,j=i+1:=⟨j-1,by omega⟩;have e1:ws.drop n=("let":V0)::x::"="::(a++(("in":V0)::(b++rest))):=by rw[e];simp
 obtain⟨a1,a2⟩:=sg1 e1;obtain⟨b1,b2⟩:=sg1 a2;obtain⟨c1,c2⟩:=sg1 b2;obtain⟨d1,d2⟩:=sg1 (sgA c2);unfold rPart;rw[if_neg (by omega),if_neg (by rw[a1];decide+kernel),if_neg (by rw[a1];decide+kernel),if_pos a1];unfold rLet;rw[Z4g a2 hx];show(need ws "=" (n+1+1)).bind _=_;rw[Z1x b2];show((rd ws (j+1)).T 1 1 (deep+1) (n+1+1+1)).bind _=_;rw[h1.run (by omega) c2 (nx_0 qP (by omega)) (show stren "in"<1 by decide+kernel)];cases oa with
 |none=>rfl
 |some x1=>
  show(need ws "in" (n+1+1+1+a.length)).bind _=_;rw[Z1x (sgA c2)];show((rd ws (j+1)).T low low (deep+1) (n+1+1+1+a.length+1)).bind _=_;rw[h2.run (by omega) d2 nx (qb0 nx.s hc)];cases ob with
  |none=>rfl
  |some x3=>
   show Res.ok _ _=Res.ok _ _;congr 1;simp only[qa4,qa5];omega⟩
theorem J3Z{a b:W}{t:Tm}{ob:Option Tm}{x:V0}(hx:Z0I x=true)(hx2:x≠")")(dp:deep<=14)(h1:Qd (J+1) deep a (some t))(h2:Rd J 2 2 (deep+1) b ob c)(hc:c<=2):Pd (J+1) low deep (("set":V0)::(a++(".":V0)::x::"="::b)) (ob.bind λ z=>some (.mk .set (.str x) [t,z])) c:=⟨nofun,λ j hj ws n rest e nx=>by
 obtain⟨j,rfl⟩:∃i,j=i+1:=⟨j-1,by omega⟩;have e1:ws.drop n=("set":V0)::(a++((".":V0)::x::"="::(b++rest))):=by rw[e];simp
 obtain⟨a1,a2⟩:=sg1 e1;obtain⟨b1,b2⟩:=sg1 (sgA a2);obtain⟨c1,c2⟩:=sg1 b2;obtain⟨d1,d2⟩:=sg1 c2;have q:=Z8y hx h1;have e2:ws.drop (n+1)=(a++[(".":V0),x])++(("=":V0)::(b++rest)):=by rw[a2];simp
 have r:=q.run (j:=j+1) hj e2 (show("=":V0)≠"(" by decide+kernel) (show("=":V0)≠"." by decide+kernel);unfold rPart;rw[if_neg (by omega),if_neg (by rw[a1];decide+kernel),if_neg (by rw[a1];decide+kernel),if_neg (by rw[a1];decide+kernel),if_pos a1];unfold rSet;rw[r];have ln:n+1+(a++[(".":V0),x]).length=n+1+a.length+1+1:=by simp only[qa5,qa4,qd2];omega
 show(if ws.getD (n+1+(a++[(".":V0),x]).length-1) ""=")" then Res.bad else(need ws "=" (n+1+(a++[(".":V0),x]).length)).bind _)=_;rw[ln];have p:n+1+a.length+1+1-1=n+1+a.length+1:=rfl;rw[p,if_neg (by rw[show ws.getD (n+1+a.length+1) ""=x from c1];exact hx2),Z1x c2];show((rd ws (j+1)).T 2 2 (deep+1) (n+1+a.length+1+1+1)).bind _=_;rw[h2.run (by omega) d2 nx (qb0 nx.s hc)];cases ob with
 |none=>rfl
 |some x3=>
  show Res.ok _ _=Res.ok _ _;congr 1;simp only[qa4,qa5];omega⟩
def rhs(s:V0):Nat:=if s=";" then 1 else stren s+1
theorem Z6S{s:V0}{cr:Nat}(hs:least<=stren s)(h0:0<stren s)(h1:Rd (J+1) least low deep u o c)(h2:Rd J (rhs s) low (deep+1) v o' cr)(k:stren s<c)(ne:(decide (s≠"."/\s≠"("))=true)(c1:c'<=cr)(c2:c'<=rhs s)(c3:eqs s=true->c'<=2):Rd (J+1) least low deep (u++s::v) (o.bind λ t=>o'.bind λ r=>some (.mk .two (.str s) [t,r])) c':=⟨by simp,λ j hj ws n rest e nx=>by
 obtain⟨j,rfl⟩:∃i,j=i+1:=⟨j-1,by omega⟩;obtain⟨n1,n2⟩:=of_decide_eq_true ne;have e1:ws.drop n=u++(s::(v++rest)):=by rw[e];simp
 have a:=h1.2 (j+1) hj ws n _ e1 ⟨n1,n2,k⟩;obtain⟨b1,b2⟩:=sg1 (sgA e1);have l2:=sgL e1 h1.1;have r:=h2.run (j:=j) (by omega) b2 (nx.mono c1) (qb0 nx.s c2);have ln:(u++s::v).length=u.length+1+v.length:=by simp only[qa5,qa4];omega
 cases o with
 |none=>exact a
 |some t=>
  obtain⟨f,l,a⟩:=a;cases f with
  |zero=>omega
  |succ f=>
   have st:(rd ws (j+1+1)).T least low deep n=((rd ws (j+1)).T (rhs s) low (deep+1) (n+u.length+1)).bind λ w m=>if(eqs s&&eqs (ahead ws m))=true then .bad else rTail ws (rd ws (j+1)) least low deep f (.mk .two (.str s) [t,w]) m:=by
    rw[a,rTail,b1,if_pos hs];rfl
   rw[r]at st;cases o' with
   |none=>exact st
   |some w=>
    refine⟨f,by omega,?_⟩;rw[st,ln];have p:n+u.length+1+v.length=n+(u.length+1+v.length):=by omega
    show(if(eqs s&&eqs (ahead ws (n+u.length+1+v.length)))=true then Res.bad else _)=_;rw[if_neg,p];intro z;obtain⟨z1,z2⟩:=qi3.mp z;rw[ahd,sgA b2]at z2;have x3:=nx.s;have x4:=c3 z1;have x5:stren (hdw rest)=2:=by
     unfold eqs at z2;rcases qe3.mp z2 with y|y
     ·rw[eq_of_beq y];decide+kernel
     ·rw[eq_of_beq y];decide+kernel
    omega⟩
theorem J6B{s s2:V0}{cr:Nat}{v2:W}(hs:least<=2)(e1:eqs s=true)(e2:eqs s2=true)(h1:Rd (J+1) least low deep u o c)(h2:Rd J 3 low (deep+1) v o' cr)(k:2<c)(kr:2<cr):Rd (J+1) least low deep (u++s::(v++s2::v2)) none c':=⟨by simp,λ j hj ws n rest e nx=>by
 obtain⟨j,rfl⟩:∃i,j=i+1:=⟨j-1,by omega⟩;have two:∀{s:V0},eqs s=true->stren s=2/\s≠"."/\s≠"("/\rhs s=3:=by
  intro s z2;unfold eqs at z2;rcases qe3.mp z2 with y|y
  ·rw[eq_of_beq y];decide+kernel
  ·rw[eq_of_beq y];decide+kernel
 obtain⟨s1,n1,n2,r1⟩:=two e1;obtain⟨s2',n3,n4,r2⟩:=two e2;have e3:ws.drop n=u++(s::(v++(s2::(v2++rest)))):=by rw[e];simp
 have a:=h1.2 (j+1) hj ws n _ e3 ⟨n1,n2,show stren s<c by omega⟩;obtain⟨b1,b2⟩:=sg1 (sgA e3);have l2:=sgL e3 h1.1;have r:=h2.run (j:=j) (by omega) b2 ⟨n3,n4,show stren s2<cr by omega⟩ (show stren s2<3 by omega);cases o with
 |none=>exact a
 |some t=>
  obtain⟨f,l,a⟩:=a;cases f with
  |zero=>omega
  |succ f=>
   have st:(rd ws (j+1+1)).T least low deep n=((rd ws (j+1)).T (rhs s) low (deep+1) (n+u.length+1)).bind λ w m=>if(eqs s&&eqs (ahead ws m))=true then .bad else rTail ws (rd ws (j+1)) least low deep f (.mk .two (.str s) [t,w]) m:=by
    rw[a,rTail,b1,if_pos (by omega)];rfl
   rw[r1,r]at st;cases o' with
   |none=>exact st
   |some w=>
    rw[show Fin (some w) (n+u.length+1+v.length)=Res.ok w (n+u.length+1+v.length)from rfl]at st;show _=Res.bad;rw[st];show(if(eqs s&&eqs (ahead ws (n+u.length+1+v.length)))=true then Res.bad else _)=_;rw[if_pos];rw[(sg1 (sgA b2)).1,e1,e2];rfl⟩
end
section
variable{α:Type}(two:V0->α->α->α)
def byS(wh:V0->Bool):α->List (V0×α)->α×List (V0×α)
 |x,[]=>(x,[])
 |x,(s,y)::ps=>if wh s=true then byS wh (two s x y) ps else(x,(s,(byS wh y ps).1)::(byS wh y ps).2)
def cmS:Bool->α->List (V0×α)->Option (α×List α)
 |_,x,[]=>some (x,[])
 |met,x,(s,y)::ps=>if s=";" then(cmS false y ps).bind λ r=>some (x,r.1::r.2)else if met=true then none else cmS true (two s x y) ps
def foS:α->List α->α
 |x,[]=>x
 |x,y::r=>two ";" x (foS y r)
def isM(s:V0):Bool:=s=="*"||s=="/"
def isP(s:V0):Bool:=s=="+"||s=="-"
def paS(x:α)(ps:List (V0×α)):Option (α×List α):=cmS two false (byS two isP (byS two isM x ps).1 (byS two isM x ps).2).1 (byS two isP (byS two isM x ps).1 (byS two isM x ps).2).2
end
abbrev It:=W×Option Tm
def mg(s:V0)(a b:It):It:=(a.1++s::b.1,a.2.bind λ t=>b.2.bind λ r=>some (.mk .two (.str s) [t,r]))
def wd:It->List (V0×It)->W
 |x,[]=>x.1
 |x,(s,y)::ps=>x.1++s::wd y ps
theorem J5M(s:V0)(x y:It):∀ps,wd (mg s x y) ps=x.1++s::wd y ps
 |[]=>rfl
 |(r,z)::ps=>by show(x.1++s::y.1)++r::wd z ps=x.1++s::(y.1++r::wd z ps);simp
theorem J2K(wh:V0->Bool):∀(ps:List (V0×It))(x:It),wd (byS mg wh x ps).1 (byS mg wh x ps).2=wd x ps
 |[],x=>rfl
 |(s,y)::ps,x=>by
  rw[byS];split
  ·rw[J2K wh ps,J5M];rfl
  ·show x.1++s::wd (byS mg wh y ps).1 (byS mg wh y ps).2=_;rw[J2K wh ps];rfl
def Va(low L c J D k:Nat)(i:It):Prop:=∀least,least<=L->∀deep,deep+k<=D->Rd (J+k) least low deep i.1 i.2 c
section
variable{low L L' c c' cl J D k k':Nat}
theorem Va.mono{i:It}(h:Va low L c J D k i)(l:L'<=L)(d:c'<=c)(e:k<=k'):Va low L' c' J D k' i:=λ least hl deep hd=>(h least (qa1 hl l) deep (by omega)).mono (by omega) d
def Vs(low L c cl J D k:Nat):It->List (V0×It)->Prop
 |x,[]=>Va low L cl J D k x
 |x,(_,y)::ps=>Va low L c J D k x/\Vs low L c cl J D k y ps
theorem Vs.mono:∀{ps:List (V0×It)}{x:It},Vs low L c cl J D k x ps->L'<=L->c'<=c->∀{cl':Nat},cl'<=cl->k<=k'->Vs low L' c' cl' J D k' x ps
 |[],x,h,l,d,cl',e,f=>Va.mono h l e f
 |(_,y)::ps,x,h,l,d,cl',e,f=>⟨h.1.mono l d f,h.2.mono l d e f⟩
theorem J4B{s:V0}{x y:It}{cr:Nat}(hs:L'<=stren s)(h0:0<stren s)(hr:rhs s<=L)(hx:Va low L' c J D (k+1) x)(hy:Va low L cr J D k y)(kc:stren s<c)(ne:(decide (s≠"."/\s≠"("))=true)(c1:c'<=cr)(c2:c'<=rhs s)(c3:eqs s=true->c'<=2):Va low L' c' J D (k+1) (mg s x y):=λ least hl deep hd=>
 Z6S (J:=J+k) (qa1 hl hs) h0 (hx least hl deep hd) (hy (rhs s) hr (deep+1) (by omega)) kc ne c1 c2 c3
theorem J3h{wh:V0->Bool}{S:Nat}(h2:2<S)(hwh:∀s,wh s=true->stren s=S/\rhs s=S+1/\(decide (s≠"."/\s≠"("))=true/\eqs s=false):∀(ps:List (V0×It))(x:It)(k0 k:Nat),k0<=k->Va low S (if ps=[]then cl else S+1) J D k x->(∀s y q,ps=(s,y)::q->Vs low (S+1) (S+1) cl J D k0 y q)->cl<=S+1->Vs low S (S+1) cl J D (k+ps.length-(byS mg wh x ps).2.length) (byS mg wh x ps).1 (byS mg wh x ps).2/\(byS mg wh x ps).2.length<=ps.length
 |[],x,k0,k,hk,hx,_,hc=>⟨hx,qa0 _⟩
 |(s,y)::ps,x,k0,k,hk,hx,hy,hc=>by
  have hx:Va low S (S+1) J D k x:=hx;have hv:=hy s y ps rfl;have hv1:Va low (S+1) (if ps=[]then cl else S+1) J D k0 y/\∀s' y' q,ps=(s',y')::q->Vs low (S+1) (S+1) cl J D k0 y' q:=by
   cases ps with
   |nil=>exact⟨hv,λ _ _ _ z=>by cases z⟩
   |cons p q=>exact⟨hv.1,λ s' y' q' z=>by cases z;exact hv.2⟩
  rw[byS];split
  ·rename_i w;obtain⟨w1,w2,w3,w4⟩:=hwh s w;have cle:(if ps=[]then cl else S+1)<=S+1:=by split<;>omega
   have a:=J4B (c':=if ps=[]then cl else S+1) (L':=S) (L:=S+1) (by omega) (by omega) (by omega) (hx.mono (qa0 _) (qa0 _) (qf1 k)) (hv1.1.mono (qa0 _) (qa0 _) hk) (by omega) w3 (qa0 _) (by omega) (λ z=>by rw[w4]at z;cases z);obtain⟨b1,b2⟩:=J3h h2 hwh ps (mg s x y) k0 (k+1) (by omega) a hv1.2 hc;refine⟨?_,by simp only[qa4];omega⟩;have e:k+((s,y)::ps).length-(byS mg wh (mg s x y) ps).2.length=k+1+ps.length-(byS mg wh (mg s x y) ps).2.length:=by simp only[qa4];omega
   rw[e];exact b1
  ·obtain⟨b1,b2⟩:=J3h h2 hwh ps y k0 k hk ((hv1.1.mono (qa0 _) (qa0 _) hk).mono (by omega) (qa0 _) (qa0 _)) hv1.2 hc;have e:k+((s,y)::ps).length-((s,(byS mg wh y ps).1)::(byS mg wh y ps).2).length=k+ps.length-(byS mg wh y ps).2.length:=by simp only[qa4];omega
   refine⟨?_,by simp only[qa4];omega⟩;show Vs low S (S+1) cl J D (k+((s,y)::ps).length-((s,(byS mg wh y ps).1)::(byS mg wh y ps).2).length) x ((s,(byS mg wh y ps).1)::(byS mg wh y ps).2);rw[e];exact⟨hx.mono (qa0 _) (qa0 _) (by omega),b1⟩
theorem by_left{α:Type}{two:V0->α->α->α}{wh:V0->Bool}{p:V0->Prop}:∀(ps:List (V0×α))(x:α),(∀q∈ps,p q.1)->∀q∈(byS two wh x ps).2,p q.1/\wh q.1=false
 |[],x,_,q,hq=>(qa9 hq).elim
 |(s,y)::ps,x,h,q,hq=>by
  rw[byS]at hq;split at hq
  ·exact by_left ps _ (λ r hr=>h r (qa8 _ hr)) q hq
  ·rename_i w;rcases qa2.mp hq with rfl|z
   ·exact⟨h (s,y) qa6,by simpa using w⟩
   ·exact by_left ps y (λ r hr=>h r (qa8 _ hr)) q z
theorem J0h{s:V0}(h:eqs s=true):stren s=2/\(decide (s≠"."/\s≠"("))=true/\rhs s=3/\s≠";":=by
 unfold eqs at h;rcases qe3.mp h with y|y
 ·rw[eq_of_beq y];decide+kernel
 ·rw[eq_of_beq y];decide+kernel
def bw:List It->W
 |[]=>[]
 |y::r=>(";":V0)::(y.1++bw r)
structure Bs(low J D:Nat)(bs:List It):Prop where
 few:bs.length<=1
 va:∀S∈bs,Va low 1 1 J D 0 S
theorem J4a{bs:List It}{x:It}(hb:Bs low J D bs)(hx:Va low 2 c J D k x)(hc:bs≠[]->1<c):∀least cc,least<=2->cc<=c->cc<=2->(bs≠[]->cc<=1/\least<=1)->∀deep,deep+(k+bs.length)<=D->Rd (J+(k+bs.length)) least low deep (x.1++bw bs) (foS mg x bs).2 cc:=λ least cc l1 c1 c2 c3 deep hd=>by
 rcases bs with _|⟨S,q⟩
 ·show Rd (J+k) least low deep (x.1++[]) x.2 cc;rw[qb6];exact(hx least l1 deep hd).mono (qa0 _) c1
 ·obtain rfl:q=[]:=by
   have:=hb.few;simp only[qa4]at this;exact qf6 (by omega)
  obtain⟨d1,d2⟩:=c3 nofun;have h1:=hc nofun;have hd:deep+(k+1)<=D:=hd;have hS:=(hb.va S qa6).mono (qa0 _) (qa0 _) (qb4 k);have a:=Z6S (s:=";") (J:=J+k) (least:=least) (c':=cc) (cr:=1) (by show least<=1;exact d2) qP ((hx least (by omega) deep (by omega)).mono (by omega) (qa0 _)) (hS (rhs ";") qP (deep+1) (by omega)) (by show 1<c;omega) qP (by omega) (by show cc<=1;exact d1) (λ _=>by omega);show Rd (J+(k+1)) least low deep (x.1++(";":V0)::(S.1++[])) (mg ";" x S).2 cc;rw[qb6];exact a
theorem J4A{bs:List It}(hb:Bs low J D bs)(hcl:bs≠[]->1<cl):∀(N:Nat)(ps:List (V0×It))(x:It)(k:Nat),ps.length<=N->Vs low 3 4 cl J D k x ps->(∀q∈ps,q.1=";"\/eqs q.1=true)->∀least cc,least<=2->cc<=cl->cc<=2->(((∃q∈ps,q.1=";")\/bs≠[])->cc<=1/\least<=1)->∀deep,deep+(k+ps.length+bs.length)<=D->Rd (J+(k+ps.length+bs.length)) least low deep (wd x ps++bw bs) ((cmS mg false x ps).bind λ r=>(foS mg r.1 (r.2++bs)).2) cc
 |N,[],x,k,_,hv,hs,least,cc,l1,c1,c2,c3,deep,hd=>J4a hb (Va.mono hv (by omega) (qa0 _) (qa0 _)) hcl least cc l1 c1 c2 (λ z=>c3 (.inr z)) deep hd
 |0,_::_,_,_,hn,_,_,_,_,_,_,_,_,_,_=>by simp at hn
 |N+1,(s,y)::q,x,k,hn,hv,hs,least,cc,l1,c1,c2,c3,deep,hd=>by
  replace hn:q.length<=N:=by simp only[qa4]at hn;omega
  have hl:((s,y)::q).length=q.length+1:=rfl;have hq:∀r∈q,r.1=";"\/eqs r.1=true:=λ r hr=>hs r (qa8 _ hr);rcases hs (s,y) qa6 with e|e
  ·obtain rfl:s=";":=e;obtain⟨d1,d2⟩:=c3 (.inl ⟨_,qa6,rfl⟩);rw[hl]at hd ⊢;have a:=Z6S (s:=";") (J:=J+(k+q.length+bs.length)) (least:=least) (c':=cc) (cr:=min cl 1) (by show least<=1;exact d2) qP ((hv.1 least (by omega) deep (by omega)).mono (by omega) (qa0 _)) (J4A hb hcl N q y k hn hv.2 hq (rhs ";") (min cl 1) qP (Nat.min_le_left _ _) (by omega) (λ _=>⟨Nat.min_le_right _ _,qP⟩) (deep+1) (by omega)) qP qP (by omega) (by show cc<=1;exact d1) (λ _=>by omega);have e2:(cmS mg false x (((";":V0),y)::q)).bind (λ r=>(foS mg r.1 (r.2++bs)).2)=x.2.bind λ t=>((cmS mg false y q).bind λ r=>(foS mg r.1 (r.2++bs)).2).bind λ r=>some (Tm.mk .two (.str ";") [t,r]):=by
    rw[cmS,if_pos rfl];cases cmS mg false y q with
    |none=>cases x.2<;>rfl
    |some r=>rfl
   rw[e2];have w:wd x (((";":V0),y)::q)++bw bs=x.1++(";":V0)::(wd y q++bw bs):=by show(x.1++(";":V0)::wd y q)++bw bs=_;simp
   rw[w];exact a.mono (by omega) (qa0 _)
  ·have e:eqs s=true:=e;obtain⟨s1,s2,s3,s4⟩:=J0h e;have e1:cmS mg false x ((s,y)::q)=cmS mg true (mg s x y) q:=by rw[cmS,if_neg s4,if_neg qQ]
   rw[e1];clear e1;rcases q with _|⟨⟨s',z⟩,q⟩
   ·have m:=J4B (s:=s) (x:=x) (y:=y) (L':=2) (L:=3) (c':=min cl 2) (k:=k) (by omega) (by omega) (by omega) (hv.1.mono (by omega) (qa0 _) (by omega)) hv.2 (by omega) s2 (by omega) (by omega) (λ _=>by omega);have a:=J4a hb m (λ z=>by have:=hcl z;omega) least cc l1 (by omega) c2 (λ z=>c3 (.inr z)) deep hd;have w:wd x [(s,y)]++bw bs=(mg s x y).1++bw bs:=rfl;rw[w];exact a
   ·have hl':((s',z)::q).length=q.length+1:=rfl;rw[hl,hl']at hd ⊢;rw[hl']at hn;rcases hq (s',z) qa6 with g|g
    ·obtain rfl:s'=";":=g;obtain⟨d1,d2⟩:=c3 (.inl ⟨(";",z),qa8 _ qa6,rfl⟩);have m:=J4B (s:=s) (x:=x) (y:=y) (L':=2) (L:=3) (c':=2) (k:=k) (by omega) (by omega) (by omega) (hv.1.mono (by omega) (qa0 _) (by omega)) hv.2.1 (by omega) s2 (by omega) (by omega) (λ _=>by omega);have a:=Z6S (s:=";") (J:=J+(k+q.length+bs.length+1)) (least:=least) (c':=cc) (cr:=min cl 1) (by show least<=1;exact d2) qP ((m least l1 deep (by omega)).mono (by omega) (qa0 _)) ((J4A hb hcl N q z k (by omega) hv.2.2 (λ r hr=>hq r (qa8 _ hr)) (rhs ";") (min cl 1) qP (Nat.min_le_left _ _) (by omega) (λ _=>⟨Nat.min_le_right _ _,qP⟩) (deep+1) (by omega)).mono (by omega) (qa0 _)) qP qP (by omega) (by show cc<=1;exact d1) (λ _=>by omega);have e2:(cmS mg true (mg s x y) (((";":V0),z)::q)).bind (λ r=>(foS mg r.1 (r.2++bs)).2)=(mg s x y).2.bind λ t=>((cmS mg false z q).bind λ r=>(foS mg r.1 (r.2++bs)).2).bind λ r=>some (Tm.mk .two (.str ";") [t,r]):=by
      rw[cmS,if_pos rfl];cases cmS mg false z q with
      |none=>cases(mg s x y).2<;>rfl
      |some r=>rfl
     rw[e2];have w:wd x ((s,y)::((";":V0),z)::q)++bw bs=(mg s x y).1++(";":V0)::(wd z q++bw bs):=by show(x.1++s::(y.1++(";":V0)::wd z q))++bw bs=(x.1++s::y.1)++(";":V0)::(wd z q++bw bs);simp
     rw[w];exact a.mono (by omega) (qa0 _)
    ·have e2:(cmS mg true (mg s x y) ((s',z)::q))=none:=by rw[cmS,if_neg (J0h g).2.2.2,if_pos rfl]
     rw[e2];have a:=J6B (s:=s) (s2:=s') (v2:=wd z q++bw bs) (c':=cc) (J:=J+k) l1 e g ((hv.1 least (by omega) deep (by omega)).mono (by omega) (qa0 _)) (hv.2.1 3 (qa0 _) (deep+1) (by omega)) (by omega) (by omega);have w:wd x ((s,y)::(s',z)::q)++bw bs=x.1++s::(y.1++s'::(wd z q++bw bs)):=by show(x.1++s::(y.1++s'::wd z q))++bw bs=_;simp
     rw[w];exact a.mono (by omega) (qa0 _)
end
def isS(s:V0):Prop:=s=";"\/eqs s=true\/isP s=true\/isM s=true
theorem J8N:∀s,isM s=true->stren s=4/\rhs s=4+1/\(decide (s≠"."/\s≠"("))=true/\eqs s=false:=λ s h=>by
 unfold isM at h;rcases qe3.mp h with y|y
 ·rw[eq_of_beq y];decide+kernel
 ·rw[eq_of_beq y];decide+kernel
theorem J8k:∀s,isP s=true->stren s=3/\rhs s=3+1/\(decide (s≠"."/\s≠"("))=true/\eqs s=false:=λ s h=>by
 unfold isP at h;rcases qe3.mp h with y|y
 ·rw[eq_of_beq y];decide+kernel
 ·rw[eq_of_beq y];decide+kernel
def rowO(x:It)(ps:List (V0×It))(bs:List It):Option Tm:=(paS mg x ps).bind λ r=>(foS mg r.1 (r.2++bs)).2
theorem J5Q{low cl J D:Nat}{x:It}{ps:List (V0×It)}(hv:Vs low 5 5 cl J D 0 x ps){bs:List It}(hb:Bs low J D bs)(hcl:bs≠[]->1<cl)(hs:∀q∈ps,isS q.1)(hc:cl<=4){least cc deep:Nat}(l1:least<=2)(c1:cc<=cl)(c2:cc<=2)(c3:((∃q∈ps,q.1=";")\/bs≠[])->cc<=1/\least<=1)(hd:deep+(ps.length+bs.length)<=D):Rd (J+(ps.length+bs.length)) least low deep (wd x ps++bw bs) (rowO x ps bs) cc:=by
 have st:∀{S k:Nat}{x:It}{ps:List (V0×It)},Vs low (S+1) (S+1) cl J D k x ps->Va low S (if ps=[]then cl else S+1) J D k x/\∀s y q,ps=(s,y)::q->Vs low (S+1) (S+1) cl J D k y q:=by
  intro S k x ps h;cases ps with
  |nil=>exact⟨Va.mono h (by omega) (qa0 _) (qa0 _),λ _ _ _ z=>by cases z⟩
  |cons p q=>exact⟨h.1.mono (by omega) (qa0 _) (qa0 _),λ _ _ _ z=>by cases z;exact h.2⟩
 obtain⟨a1,a2⟩:=st (S:=4) hv;obtain⟨b1,b2⟩:=J3h (S:=4) (by omega) J8N ps x 0 0 (qa0 _) a1 a2 (by omega);have b3:=by_left (two:=mg) (wh:=isM) (p:=isS) ps x hs;have m3:(∀q∈ps,q.1≠";")->∀q∈(byS mg isP (byS mg isM x ps).1 (byS mg isM x ps).2).2,q.1≠";":=λ h q hq=>(by_left (two:=mg) (wh:=isP) (p:=λ s=>s≠";") _ _ (λ q hq=>(by_left (two:=mg) (wh:=isM) (p:=λ s=>s≠";") ps x h q hq).1) q hq).1;have b4:=J2K isM ps x;unfold rowO paS;generalize byS mg isM x ps=r1 at*;obtain⟨x1,p1⟩:=r1;obtain⟨a1,a2⟩:=st (S:=3) (b1.mono (qa0 _) (by omega) (qa0 _) (qa0 _));obtain⟨d1,d2⟩:=J3h (S:=3) (by omega) J8k p1 x1 _ _ (qa0 _) a1 a2 (by omega);have d3:=by_left (two:=mg) (wh:=isP) (p:=λ s=>isS s/\isM s=false) p1 x1 b3;have d4:=J2K isP p1 x1;dsimp only at*;generalize byS mg isP x1 p1=r2 at*;obtain⟨x2,p2⟩:=r2;dsimp only at*;rw[<-b4,<-d4];have hs2:∀q∈p2,q.1=";"\/eqs q.1=true:=λ q hq=>by
  obtain⟨⟨z1,z2⟩,z3⟩:=d3 q hq;rcases z1 with z|z|z|z
  ·exact .inl z
  ·exact .inr z
  ·rw[z]at z3;cases z3
  ·rw[z]at z2;cases z2
 have c4:((∃q∈p2,q.1=";")\/bs≠[])->cc<=1/\least<=1:=λ z=>by
  refine c3 (z.imp (λ z=>?_) id);obtain⟨q,hq,e⟩:=z;refine qf0 λ nz=>?_;have n1:∀q∈ps,q.1≠";":=λ q hq e=>nz ⟨q,hq,e⟩;exact(m3 n1 q hq) e
 have l2:p2.length<=ps.length:=qa1 d2 b2;have e1:0+ps.length-p1.length+p1.length-p2.length=ps.length-p2.length:=by omega
 rw[e1]at d1;exact(J4A hb hcl p2.length p2 x2 _ (qa0 _) d1 hs2 least cc l1 c1 c2 c4 deep (by omega)).mono (by omega) (qa0 _)
end RR
end
section
namespace K10
def Ws(t:Tx)(ws:List Tx):Prop:=∀k,cutP t k=.ok ws
def Sep(t:Tx):Prop:=t=[]\/∃g r,t=g::r/\Z0p g=false
theorem J4O{g:Nat}(h:gaps.contains g=true):Z0p g=false:=by
 have h:=List.contains_iff_mem.mp h;unfold gaps at h;simp only[qa2,qa9,or_false]at h;rcases h with rfl|rfl|rfl<;>decide+kernel
theorem Sep.row{t:Tx}(h:Sep t):t.takeWhile Z0p=[]/\t.dropWhile Z0p=t:=by
 rcases h with rfl|⟨g,r,rfl,hg⟩
 ·exact⟨rfl,rfl⟩
 ·rw[qd9,qf7,hg];exact⟨rfl,rfl⟩
theorem Z8e{b:Tx}(hb:Sep b):∀a:Tx,(a++b).takeWhile Z0p=a.takeWhile Z0p
 |[]=>hb.row.1
 |c::r=>by
  rw[qd5,qd9,qd9,Z8e hb r]
theorem Z8K{b:Tx}(hb:Sep b):∀a:Tx,(a++b).dropWhile Z0p=a.dropWhile Z0p++b
 |[]=>hb.row.2
 |c::r=>by
  rw[qd5,qf7,qf7,Z8K hb r];split<;>rfl
theorem Z8T{ws:List Tx}{r:Res}{us:List Tx}(h:pre ws r=.ok us):∃vs,r=.ok vs/\us=ws++vs:=by
 cases r with
 |ok vs=>cases h;exact⟨vs,rfl,rfl⟩
 |error k=>cases h
theorem Z5B{b:Tx}{wb:List Tx}(hb:Sep b)(wB:Ws b wb):∀(n:Nat)(a:Tx)(k:Nat)(wa:List Tx),a.length<=n->cutP a k=.ok wa->cutP (a++b) k=.ok (wa++wb)
 |n,[],k,wa,_,h=>by
  rw[cutP]at h;cases h;exact wB k
 |0,c::r,k,wa,hn,_=>by cases hn
 |n+1,c::r,k,wa,hn,h=>by
  have hr:r.length<=n:=Nat.le_of_succ_le_succ hn;rw[qd5,cutP];rw[cutP]at h;have e1:(c::(r++b)).takeWhile Z0p=(c::r).takeWhile Z0p:=Z8e hb (c::r);rw[e1,Z8K hb r];split at h
  ·rename_i hg;rw[if_pos hg];exact Z5B hb wB n r (k+1) wa hr h
  ·rename_i hg;rw[if_neg hg];split at h
   ·rename_i hc;rw[if_pos hc];split at h
    ·rename_i hw;rw[if_pos hw];obtain⟨vs,e,rfl⟩:=Z8T h;rw[Z5B hb wB n _ _ vs (qa1 (Z3z r) hr) e];show Except.ok _=_;rw[qb9]
    ·cases h
   ·rename_i hc;rw[if_neg hc];split at h
    ·rename_i hw;rw[if_pos hw];obtain⟨vs,e,rfl⟩:=Z8T h;rw[Z5B hb wB n r (k+1) vs hr e];rfl
    ·cases h
theorem Ws.app{a b:Tx}{wa wb:List Tx}(hb:Sep b)(hA:Ws a wa)(hB:Ws b wb):Ws (a++b) (wa++wb):=λ k=>Z5B hb hB _ a k wa (qa0 _) (hA k)
theorem ws_nil:Ws [] []:=λ k=>by rw[cutP]
theorem Sep.gap{b:Tx}{g:Nat}(hg:gaps.contains g=true):Sep (g::b):=.inr ⟨g,b,rfl,J4O hg⟩
theorem cut_few:∀(n:Nat)(a:Tx)(k:Nat)(wa:List Tx),a.length<=n->cutP a k=.ok wa->wa.length<=a.length/\∀w∈wa,w.length<=a.length
 |n,[],k,wa,_,h=>by
  rw[cutP]at h;cases h;exact⟨qa0 _,λ w hw=>(qa9 hw).elim⟩
 |0,c::r,k,wa,hn,_=>by cases hn
 |n+1,c::r,k,wa,hn,h=>by
  have hr:r.length<=n:=Nat.le_of_succ_le_succ hn;rw[cutP]at h;rw[qa4];split at h
  ·obtain⟨q1,q2⟩:=cut_few n r (k+1) wa hr h;exact⟨qR,λ w hw=>Nat.le_succ_of_le (q2 w hw)⟩
  split at h
  ·split at h
   ·obtain⟨vs,e,rfl⟩:=Z8T h;have hd:=Z3z r;obtain⟨q1,q2⟩:=cut_few n _ _ vs (qa1 hd hr) e;refine⟨by rw[qa5];show 1+_<=_;lia,λ w hw=>?_⟩;rcases qd4.mp hw with z|z
    ·rw[qa7.mp z];exact(qj4 Z0p).length_le
    ·exact qa1 (q2 w z) qR
   ·cases h
  split at h
  ·obtain⟨vs,e,rfl⟩:=Z8T h;obtain⟨q1,q2⟩:=cut_few n r (k+1) vs hr e;refine⟨by rw[qa5];show 1+_<=_;lia,λ w hw=>?_⟩;rcases qd4.mp hw with z|z
   ·rw[qa7.mp z];exact qi2 (qb4 _)
   ·exact Nat.le_succ_of_le (q2 w z)
  ·cases h
end K10
end
section
namespace RR
open PySem P15
open K10 (cds Ws Sep gaps Z0p isNum isNm sgns)
def wsF:Nat->List Nat->Option (List (List Nat))
 |_,[]=>some []
 |0,_::_=>none
 | n+1,c::r=>if gaps.contains c then wsF n r else if Z0p c then (if isNum ((c::r).takeWhile Z0p) || isNm ((c::r).takeWhile Z0p) then (wsF n (r.dropWhile Z0p)).map ((c::r).takeWhile Z0p::·) else none)
  else if sgns.contains c then(wsF n r).map ([c]::·)else none
theorem J3q:∀(n:Nat)(t:List Nat)(ws:List (List Nat)),wsF n t=some ws->Ws t ws
 |n,[],ws,h=>by
  have e:ws=[]:=by cases n<;>(cases h;rfl)
  rw[e];exact K10.ws_nil
 |n+1,c::r,ws,h=>by
  intro k;rw[K10.cutP];unfold wsF at h;split at h
  ·rename_i a;rw[if_pos a];exact J3q n r ws h _
  rename_i a;rw[if_neg a];split at h
  ·rename_i b;rw[if_pos b];split at h
   ·rename_i d;rw[if_pos d];obtain⟨us,e,rfl⟩:=qd3.mp h;rw[J3q n _ us e _];rfl
   ·cases h
  ·rename_i b;rw[if_neg b];split at h
   ·rename_i d;rw[if_pos d];obtain⟨us,e,rfl⟩:=qd3.mp h;rw[J3q n _ us e _];rfl
   ·cases h
def WW(x:V0)(ws:List V0):Prop:=Ws (cds x) (ws.map cds)
theorem J0J{x:V0}{ws:List V0}(n:Nat)(h:wsF n (cds x)=some (ws.map cds)):WW x ws:=J3q n _ _ h
def Bl(x:V0):Prop:=Sep (cds x)
theorem J1x{x y:V0}(h:cds x=32::cds y):Bl x:=by unfold Bl;rw[h];exact Sep.gap qQ
theorem WW.app{a b:V0}{u v:List V0}(A:WW a u)(B:WW b v)(s:Bl b):WW (a++b) (u++v):=by
 unfold WW;rw[K10.cds_app,qe8];exact Ws.app s A B
def Pw(x:V0)(u:List V0):Prop:=∀(b:V0)(v:List V0),WW b v->WW (x++b) (u++v)
def preF:Nat->List Nat->Option (List (List Nat))
 |_,[]=>some []
 |0,_::_=>none
 | n+1,c::r=>if gaps.contains c then preF n r else if Z0p c then (if (r.dropWhile Z0p).isEmpty then none else if isNum ((c::r).takeWhile Z0p) || isNm ((c::r).takeWhile Z0p) then (preF n (r.dropWhile Z0p)).map ((c::r).takeWhile Z0p::·) else none)
  else if sgns.contains c then(preF n r).map ([c]::·)else none
theorem J1g{b:List Nat}:∀a:List Nat,(a.dropWhile Z0p).isEmpty=false->(a++b).takeWhile Z0p=a.takeWhile Z0p/\(a++b).dropWhile Z0p=a.dropWhile Z0p++b
 |[],h=>by cases h
 |c::r,h=>by
  rw[qd5,qd9,qd9,qf7,qf7];rw[qf7]at h;by_cases e:Z0p c=true
  ·rw[if_pos e]at h ⊢;rw[if_pos e,if_pos e,if_pos e];obtain⟨a1,a2⟩:=J1g (b:=b) r h;exact⟨by rw[a1],a2⟩
  ·rw[if_neg e,if_neg e,if_neg e,if_neg e];exact⟨rfl,rfl⟩
theorem J2X:∀(n:Nat)(t:List Nat)(ws:List (List Nat)),preF n t=some ws->∀(b:List Nat)(wb:List (List Nat)),Ws b wb->Ws (t++b) (ws++wb)
 |n,[],ws,h,b,wb,hb=>by
  have e:ws=[]:=by cases n<;>(cases h;rfl)
  rw[e];exact hb
 |n+1,c::r,ws,h,b,wb,hb=>by
  intro k;rw[qd5,K10.cutP];unfold preF at h;split at h
  ·rename_i a;rw[if_pos a];exact J2X n r ws h b wb hb _
  rename_i a;rw[if_neg a];split at h
  ·rename_i d;rw[if_pos d];split at h
   ·cases h
   rename_i g;have g:(r.dropWhile Z0p).isEmpty=false:=by simpa using g
   obtain⟨t1,t2⟩:=J1g (b:=b) r g;have t3:(c::(r++b)).takeWhile Z0p=(c::r).takeWhile Z0p:=by rw[qd9,qd9,if_pos d,if_pos d,t1]
   rw[t3,t2];split at h
   ·rename_i q;rw[if_pos q];obtain⟨us,e,rfl⟩:=qd3.mp h;rw[J2X n _ us e b wb hb _];rfl
   ·cases h
  ·rename_i d;rw[if_neg d];split at h
   ·rename_i q;rw[if_pos q];obtain⟨us,e,rfl⟩:=qd3.mp h;rw[J2X n _ us e b wb hb _];rfl
   ·cases h
theorem Z1R{x:V0}{u:List V0}(n:Nat)(h:preF n (cds x)=some (u.map cds)):Pw x u:=λ b v hb=>by
 unfold WW;rw[K10.cds_app,qe8];exact J2X n _ _ h _ _ hb
theorem Z7T(a b c:V0):a++b++c=a++(b++c):=by
 show(⟨(a.cps++b.cps)++c.cps⟩:V0)=⟨a.cps++(b.cps++c.cps)⟩;rw[Array.append_assoc]
theorem Z5Y{x:V0}{c:Nat}{r:List Nat}(h:cds x=c::r)(d:Z0p c=false):Bl x:=.inr ⟨c,r,h,d⟩
theorem WW.mid{a m b:V0}{u v w:List V0}(A:WW a u)(s:Bl m)(M:Pw m v)(B:WW b w)(ne:(cds m).isEmpty=false):WW (a++m++b) (u++(v++w)):=by
 rw[Z7T];refine A.app (M b w B) ?_;rcases s with s|⟨g,r,s,d⟩
 ·rw[s]at ne;cases ne
 ·exact .inr ⟨g,r++cds b,by rw[K10.cds_app,s];rfl,d⟩
open PW (Wd Hs Pg)
def Br(b:Nat)(u:W):Prop:=∀(o:Int)(r:W),0<=o->o+b<=14->opens (u++r) o=opens r o
theorem Br.mono{b d:Nat}{u:W}(h:Br b u)(l:b<=d):Br d u:=λ o r z k=>h o r z (by omega)
theorem Br.app{b:Nat}{u v:W}(h:Br b u)(g:Br b v):Br b (u++v):=λ o r z k=>by rw[qb9,h o _ z k,g o r z k]
theorem Z8s{b:Nat}:Br b []:=λ o r z k=>rfl
theorem br_w{b:Nat}{x:V0}{u:W}(hx:(decide (x≠"("/\x≠")"))=true)(h:Br b u):Br b (x::u):=λ o r z k=>by
 obtain⟨h1,h2⟩:=of_decide_eq_true hx;rw[qd5,opens];rw[if_neg h1,if_neg h2,if_neg (by omega),h o r z k]
theorem Z9J{b:Nat}{u:W}(h:Br b u):Br (b+1) (("(":V0)::(u++[(")":V0)])):=λ o r z k=>by
 rw[qd5,opens];rw[if_pos rfl,if_neg (by omega),qb9,h (o+1) _ (by omega) (by omega)];show opens ((")":V0)::r) (o+1)=_;have e:opens ((")":V0)::r) (o+1)=if 14<o+1-1 then false else opens r (o+1-1):=rfl;rw[e,show o+1-1=o by omega,if_neg (by omega)]
def chkN(x:V0):Bool:=Z0I x&&!isNum x.cps.toList&&decide (x≠""/\x≠"yes"/\x≠"no")&&decide (wsF 2 (cds x)=some [cds x])&&decide (x≠"("/\x≠")")&&decide (x≠"not"/\x≠"if"/\x≠"let"/\x≠"set")&&decide (x.length=1)
structure Nm(x:V0):Prop where
 nm:Z0I x=true
 num:isNum x.cps.toList=false
 ne:(decide (x≠""/\x≠"yes"/\x≠"no"))=true
 ww:WW x [x]
 br:(decide (x≠"("/\x≠")"))=true
 kw:(decide (x≠"not"/\x≠"if"/\x≠"let"/\x≠"set"))=true
 len:x.length=1
theorem J8d{x:V0}(h:chkN x=true):Nm x:=by
 unfold chkN at h;simp only[qc5,Bool.not_eq_true']at h;obtain⟨⟨⟨⟨⟨⟨a,b⟩,c⟩,d⟩,e⟩,f⟩,g⟩:=h;exact⟨a,b,c,J0J 2 (of_decide_eq_true d),e,f,of_decide_eq_true g⟩
def nms:List V0:=["a","b","c","d","e","f","g","h","k","x","y","z","u","v","w"]
theorem J7k:∀x∈nms,chkN x=true:=by decide+kernel
theorem Z4f{x:V0}(h:x∈nms):Nm x:=J8d (J7k x h)
theorem nmA:Nm "a":=Z4f qP
theorem nmB:Nm "b":=Z4f qP
theorem nmC:Nm "c":=Z4f qP
theorem nmH:Nm "h":=Z4f qP
theorem nmK:Nm "k":=Z4f qP
theorem nmU:Nm "u":=Z4f qP
theorem nmV:Nm "v":=Z4f qP
theorem nmW:Nm "w":=Z4f qP
theorem len_app(a b:V0):(a++b).length=a.length+b.length:=by
 rw[<-K10.cds_len,<-K10.cds_len,<-K10.cds_len,K10.cds_app,qa5]
structure TO(x:V0)(u:W)(n b:Nat):Prop where
 ww:WW x u
 len:x.length<=n
 br:Br b u
theorem TO.mono{x:V0}{u:W}{n b n' b':Nat}(h:TO x u n b)(l:n<=n')(d:b<=b'):TO x u n' b':=⟨h.ww,qa1 h.len l,h.br.mono d⟩
theorem TO.pre{p x:V0}{v u:W}{n b m:Nat}(P:Pw p v)(h:TO x u n b)(hv:v.all (λ x=>decide (x≠"("/\x≠")"))=true)(hm:p.length=m):TO (p++x) (v++u) (m+n) b:=⟨P x u h.ww,by rw[len_app,hm];have:=h.len;omega,by
 have:∀v:W,v.all (λ x=>decide (x≠"("/\x≠")"))=true->Br b (v++u):=by
  intro v;induction v with
  |nil=>exact λ _=>h.br
  |cons y r ih=>
   intro z;simp only[qd8,qc5]at z;exact br_w z.1 (ih z.2)
 exact this v hv⟩
theorem J6K{b:Nat}{v:W}(hv:v.all (λ x=>decide (x≠"("/\x≠")"))=true):Br b v:=by
 induction v with
 |nil=>exact Z8s
 |cons y r ih=>
  simp only[qd8,qc5]at hv;exact br_w hv.1 (ih hv.2)
theorem TO.mid{a m b:V0}{u v w:W}{n n' k k':Nat}(A:TO a u n k)(s:Bl m)(M:Pw m v)(B:TO b w n' k)(hv:v.all (λ x=>decide (x≠"("/\x≠")"))=true)(hm:m.length=k')(ne:(cds m).isEmpty=false):TO (a++m++b) (u++(v++w)) (n+k'+n') k:=
 ⟨WW.mid A.ww s M B.ww ne,by rw[len_app,len_app,hm];have:=A.len;have:=B.len;omega,A.br.app ((J6K hv).app B.br)⟩
theorem TO.nm{x:V0}(h:Nm x):TO x [x] 1 0:=⟨h.ww,by rw[h.len];omega,br_w h.br Z8s⟩
theorem TO.brk{x:V0}{u:W}{n b:Nat}(h:TO x u n b):TO ("("++x++")") (("(":V0)::(u++[(")":V0)])) (n+2) (b+1):=⟨by
 have a:WW ("("++x) ((["("]:W)++u):=Z1R (x:="(") (u:=["("]) 2 qP _ _ h.ww;have c:=a.app (J0J (x:=")") (ws:=[")"]) 2 qP) (Z5Y (c:=41) (r:=[]) qP qP);exact c,by
 rw[len_app,len_app];have e1:("(":V0).length=1:=by decide+kernel
 have e2:(")":V0).length=1:=by decide+kernel
 have:=h.len;omega,Z9J h.br⟩
theorem kwB:(decide (("(":V0)≠"not"/\("(":V0)≠"if"/\("(":V0)≠"let"/\("(":V0)≠"set"))=true:=by decide+kernel
theorem neB:("(":V0)≠")":=by decide+kernel
structure Pt(k:Nat)(x:V0)(u:W)(t:Tm):Prop where
 tx:TO x u (5+5*k) 2
 qd:∀deep,deep<=13->Qd 3 deep u (some t)
 kw:(decide (hdw u≠"not"/\hdw u≠"if"/\hdw u≠"let"/\hdw u≠"set"))=true
 hd:hdw u≠")"
 sz:t.size<=1+2*k
 dp:t.depth<=1+k
 ok:Ok t
def nmT(x:V0):Tm:=.mk .name (.str x) []
theorem Z6b(x:V0):(nmT x).size=1:=by unfold nmT;rw[Tm.size,sumS]
theorem Z6e(x:V0):(nmT x).depth=1:=by unfold nmT;rw[Tm.depth,maxD]
theorem Z6Y(x:V0):Ok (nmT x):=.mk rfl (λ p hp=>(qa9 hp).elim)
theorem J3r{x:V0}(h:Nm x){J deep:Nat}:Qd J deep [x] (some (nmT x)):=(J4n h.nm h.num h.ne).q
theorem J1m{x:V0}(h:Nm x){J low deep c:Nat}(d:deep<=14):Pd J low deep [x] (some (nmT x)) c:=(J3r h).p d h.kw
theorem pt_nm{x:V0}(h:Nm x):Pt 0 x [x] (nmT x):=⟨(TO.nm h).mono (by omega) (by omega),λ deep _=>J3r h,h.kw,(of_decide_eq_true h.br).2,by rw[Z6b];omega,by rw[Z6e];omega,Z6Y x⟩
theorem pt_br1{x:V0}(h:Nm x):Pt 0 ("("++x++")") (("(":V0)::([x]++[(")":V0)])) (nmT x):=⟨(TO.nm h).brk.mono (by omega) (by omega),λ deep hd=>((Z9F (J1m (J:=0) h (by omega)).r (c:=1) (by omega)).q).mono (by omega),kwB,neB,by rw[Z6b];omega,by rw[Z6e];omega,Z6Y x⟩
theorem pt_br2{x:V0}(h:Nm x):Pt 0 ("(("++x++"))") (("(":V0)::((("(":V0)::([x]++[(")":V0)]))++[(")":V0)])) (nmT x):=by
 have e:("((":V0)++x++"))"="("++("("++x++")")++")":=by
  refine K10.cds_ext ?_;simp only[K10.cds_app];have e1:cds "(("=cds "("++cds "(":=by decide+kernel
  have e2:cds "))"=cds ")"++cds ")":=by decide+kernel
  rw[e1,e2];simp only[qb9]
 have a:=pt_br1 h;refine⟨?_,λ deep hd=>?_,kwB,neB,by rw[Z6b];omega,by rw[Z6e];omega,Z6Y x⟩
 ·rw[e];exact((TO.nm h).brk.brk).mono (by omega) (by omega)
 ·exact((Z9F (((Z9F (J1m (J:=0) h (by omega)).r (c:=1) (by omega)).q.p (low:=1) (c:=1) (by omega) kwB).r) (by omega)).q).mono (by omega)
theorem ad_k{deep:Nat}(hd:deep<=14):Ad 3 deep (["(","k",")"]:W) (some [nmT "k"]):=by
 have a:=Z9P (J:=0) (deep:=deep) (i:=(["k"],some (nmT "k"))) (r:=[]) (c:=1) (by omega) (λ x hx=>by rw[qa7.mp hx];exact(J1m nmK hd).r) (show("k":V0)≠")" by decide+kernel) qQ;exact a.mono (by omega)
theorem J0o{x y:V0}{k:Nat}{u:W}{t:Tm}(h:Pt k x u t)(n:Nm y):TO (x++"."++y) (u++[(".":V0),y]) (5+5*k+2) 2:=(TO.mid (k':=1) h.tx (Z5Y (c:=46) (r:=[]) qP qP) (Z1R (x:=".") (u:=["."]) 2 qP) ((TO.nm n).mono (qa0 _) (by omega)) qP qP qP).mono (by omega) (by omega)
theorem Z3F{u v:W}(h:u≠[]):hdw (u++v)=hdw u:=by
 cases u with
 |nil=>exact(h rfl).elim
 |cons y r=>rfl
theorem dp2{f:Fm}{l:Lb}{t u:Tm}:(Tm.mk f l [t,u]).depth=1+max t.depth u.depth:=by rw[Tm.depth,maxD,maxD,maxD];omega
theorem sz2{f:Fm}{l:Lb}{t u:Tm}:(Tm.mk f l [t,u]).size=1+t.size+u.size:=by rw[Tm.size,sumS,sumS,sumS];omega
theorem dpo{f:Fm}{l:Lb}{t:Tm}:(Tm.mk f l [t]).depth=1+t.depth:=by rw[Tm.depth,maxD,maxD];omega
theorem szo{f:Fm}{l:Lb}{t:Tm}:(Tm.mk f l [t]).size=1+t.size:=by rw[Tm.size,sumS,sumS];omega
theorem pt_field{x y:V0}{k:Nat}{u:W}{t:Tm}(h:Pt k x u t)(n:Nm y):Pt (k+1) (x++"."++y) (u++[(".":V0),y]) (.mk .field (.str y) [t]):=by
 have ne:=(h.qd 0 (by omega)).1;refine⟨(J0o h n).mono (by omega) (by omega),λ deep hd=>Z8y n.nm (h.qd deep hd),?_,?_,?_,?_,.mk rfl λ p hp=>by rw[qa7.mp hp];exact h.ok⟩
 ·rw[Z3F ne];exact h.kw
 ·rw[Z3F ne];exact h.hd
 ·rw[szo];have:=h.sz;omega
 ·rw[dpo];have:=h.dp;omega
theorem pt_call0{x y:V0}{k:Nat}{u:W}{t:Tm}(h:Pt k x u t)(n:Nm y):Pt (k+1) (x++"."++y++"()") (u++(".":V0)::y::(["(",")"]:W)) (.mk .call (.str y) [t]):=by
 have ne:=(h.qd 0 (by omega)).1;have a:=J0o h n;refine⟨⟨?_,?_,?_⟩,λ deep hd=>Z7D n.nm (h.qd deep hd) (J5I (J:=3) (deep:=deep+1)) rfl,?_,?_,?_,?_,.mk (by show 1<=1;omega) λ p hp=>by rw[qa7.mp hp];exact h.ok⟩
 ·have c:=a.ww.app (J0J (x:="()") (ws:=["(",")"]) 3 qP) (Z5Y (c:=40) (r:=[41]) qP qP);rw[qb9]at c;exact c
 ·rw[len_app];have:=a.len;have:("()":V0).length=2:=by decide+kernel
  omega
 ·have b:=a.br.app (Z9J (b:=1) Z8s);rw[qb9]at b;exact b
 ·rw[Z3F ne];exact h.kw
 ·rw[Z3F ne];exact h.hd
 ·rw[szo];have:=h.sz;omega
 ·rw[dpo];have:=h.dp;omega
theorem pt_call1{x y:V0}{k:Nat}{u:W}{t:Tm}(h:Pt k x u t)(n:Nm y):Pt (k+1) (x++"."++y++"(k)") (u++(".":V0)::y::(["(","k",")"]:W)) (.mk .call (.str y) [t,nmT "k"]):=by
 have ne:=(h.qd 0 (by omega)).1;have a:=J0o h n;refine⟨⟨?_,?_,?_⟩,λ deep hd=>Z7D n.nm (h.qd deep hd) (ad_k (by omega)) rfl,?_,?_,?_,?_,.mk (by show 1<=2;omega) λ p hp=>?_⟩
 ·have c:=a.ww.app (J0J (x:="(k)") (ws:=["(","k",")"]) 4 qP) (Z5Y (c:=40) (r:=[107,41]) qP qP);rw[qb9]at c;exact c
 ·rw[len_app];have:=a.len;have:("(k)":V0).length=3:=by decide+kernel
  omega
 ·have b:=a.br.app (Z9J (b:=1) (br_w (x:="k") qP Z8s));rw[qb9]at b;exact b
 ·rw[Z3F ne];exact h.kw
 ·rw[Z3F ne];exact h.hd
 ·rw[sz2,Z6b];have:=h.sz;omega
 ·rw[dp2,Z6e];have:=h.dp;omega
 ·rcases(qa2.mp hp)with rfl|hp
  ·exact h.ok
  ·rw[qa7.mp hp];exact Z6Y _
structure Th(x:V0)(u:W)(t:Tm):Prop where
 tx:TO x u 19 2
 pd:∀low deep,deep<=12->Pd 4 low deep u (some t) 5
 hd:hdw u≠")"
 sz:t.size<=6
 dp:t.depth<=4
 ok:Ok t
theorem th_pt{x:V0}{k:Nat}{u:W}{t:Tm}(h:Pt k x u t)(hk:k<=2):Th x u t:=⟨h.tx.mono (by omega) (qa0 _),λ low deep hd=>((h.qd deep (by omega)).p (by omega) h.kw).mono (by omega) (qa0 _),h.hd,by have:=h.sz;omega,by have:=h.dp;omega,h.ok⟩
theorem th_not{x:V0}{k:Nat}{u:W}{t:Tm}(h:Pt k x u t)(hk:k<=2):Th ("not "++x) (("not":V0)::u) (.mk .nt .non [t]):=⟨((TO.pre (p:="not ") (v:=["not"]) (Z1R 5 qP) h.tx qP (m:=4) qP)).mono (by omega) (qa0 _),λ low deep hd=>(J1i (J:=3) (by omega) ((h.qd (deep+1) (by omega)).p (by omega) h.kw)),show("not":V0)≠")" by decide+kernel,by rw[szo];have:=h.sz;omega,by rw[dpo];have:=h.dp;omega,.mk rfl λ p hp=>by rw[qa7.mp hp];exact h.ok⟩
section
variable{α β:Type}{two:V0->α->α->α}{two':V0->β->β->β}{f:α->β}
def mp(f:α->β)(ps:List (V0×α)):List (V0×β):=ps.map λ q=>(q.1,f q.2)
theorem Z8R(hf:∀s x y,f (two s x y)=two' s (f x) (f y))(wh:V0->Bool):∀(ps:List (V0×α))(x:α),byS two' wh (f x) (mp f ps)=(f (byS two wh x ps).1,mp f (byS two wh x ps).2)
 |[],x=>rfl
 |(s,y)::ps,x=>by
  show byS two' wh (f x) ((s,f y)::mp f ps)=_;rw[byS,byS,<-hf,Z8R hf wh ps (two s x y),Z8R hf wh ps y];split<;>rfl
theorem J0Z(hf:∀s x y,f (two s x y)=two' s (f x) (f y)):∀(ps:List (V0×α))(m:Bool)(x:α),cmS two' m (f x) (mp f ps)=(cmS two m x ps).map λ r=>(f r.1,r.2.map f)
 |[],m,x=>rfl
 |(s,y)::ps,m,x=>by
  show cmS two' m (f x) ((s,f y)::mp f ps)=_;rw[cmS,cmS,<-hf,J0Z hf ps true (two s x y),J0Z hf ps false y];split
  ·cases cmS two false y ps<;>rfl
  ·split
   ·rfl
   ·rfl
theorem J1T(hf:∀s x y,f (two s x y)=two' s (f x) (f y)):∀(r:List α)(x:α),foS two' (f x) (r.map f)=f (foS two x r)
 |[],x=>rfl
 |y::r,x=>by
  show two' ";" (f x) (foS two' (f y) (r.map f))=f (two ";" x (foS two y r));rw[J1T hf r y,hf]
theorem J3Y(hf:∀s x y,f (two s x y)=two' s (f x) (f y))(x:α)(ps:List (V0×α)):paS two' (f x) (mp f ps)=(paS two x ps).map λ r=>(f r.1,r.2.map f):=by
 unfold paS;rw[Z8R hf,Z8R hf,J0Z hf]
def Wt(P:Nat->α->Prop):α->List (V0×α)->Nat->Prop
 |x,[],T=>P T x
 |x,(_,y)::ps,T=>∃a b,T=a+b/\P a x/\Wt P y ps b
def WtL(P:Nat->α->Prop):α->List α->Nat->Prop
 |x,[],T=>P T x
 |x,y::r,T=>∃a b,T=a+b/\P a x/\WtL P y r b
variable{P:Nat->α->Prop}
theorem J3b(hm:∀s a b x y,P a x->P b y->P (a+b) (two s x y))(wh:V0->Bool):∀(ps:List (V0×α))(x:α)(T:Nat),Wt P x ps T->Wt P (byS two wh x ps).1 (byS two wh x ps).2 T
 |[],x,T,h=>h
 |(s,y)::ps,x,T,⟨a,b,e,h1,h2⟩=>by
  rw[byS];split
  ·refine J3b hm wh ps (two s x y) T ?_;match ps,h2 with
   |[],h2=>exact e▸hm s a b x y h1 h2
   |(_,z)::q,⟨c,d,e',h3,h4⟩=>exact⟨a+c,d,by omega,hm s a c x y h1 h3,h4⟩
  ·exact⟨a,b,e,h1,J3b hm wh ps y b h2⟩
theorem J4C(hm:∀s a b x y,P a x->P b y->P (a+b) (two s x y)):∀(ps:List (V0×α))(m:Bool)(x:α)(T:Nat)(r:α×List α),Wt P x ps T->cmS two m x ps=some r->WtL P r.1 r.2 T
 |[],m,x,T,r,h,e=>by cases e;exact h
 |(s,y)::ps,m,x,T,r,⟨a,b,e1,h1,h2⟩,e=>by
  rw[cmS]at e;split at e
  ·cases e2:cmS two false y ps with
   |none=>rw[e2]at e;cases e
   |some q=>
    rw[e2]at e;cases e;exact⟨a,b,e1,h1,J4C hm ps false y b q h2 e2⟩
  ·split at e
   ·cases e
   ·refine J4C hm ps true (two s x y) T r ?_ e;match ps,h2 with
    |[],h2=>exact e1▸hm s a b x y h1 h2
    |(_,z)::q,⟨c,d,e',h3,h4⟩=>exact⟨a+c,d,by omega,hm s a c x y h1 h3,h4⟩
theorem Z9l(hm:∀s a b x y,P a x->P b y->P (a+b) (two s x y)):∀(r:List α)(x:α)(T:Nat),WtL P x r T->P T (foS two x r)
 |[],x,T,h=>h
 |y::r,x,T,⟨a,b,e,h1,h2⟩=>e▸hm ";" a b x _ h1 (Z9l hm r y b h2)
theorem Z5m:∀(r:List α)(x:α)(T b:Nat)(S:α),WtL P x r T->P b S->WtL P x (r++[S]) (T+b)
 |[],x,T,b,S,h,g=>⟨T,b,rfl,h,g⟩
 |y::r,x,T,b,S,⟨c,d,e,h1,h2⟩,g=>⟨c,d+b,by omega,h1,Z5m r y d b S h2 g⟩
theorem J5o(hm:∀s a b x y,P a x->P b y->P (a+b) (two s x y)){ps:List (V0×α)}{x:α}{T:Nat}{r:α×List α}(h:Wt P x ps T)(e:paS two x ps=some r):WtL P r.1 r.2 T:=J4C hm _ _ _ _ _ (J3b hm isP _ _ _ (J3b hm isM _ _ _ h)) e
variable{N:α->Prop}
theorem Z8d(hn:∀s x y,N (two s x y)->N x/\N y)(wh:V0->Bool):∀(ps:List (V0×α))(x:α),N (byS two wh x ps).1->(∀q∈(byS two wh x ps).2,N q.2)->N x/\∀q∈ps,N q.2
 |[],x,h,_=>⟨h,λ q hq=>(qa9 hq).elim⟩
 |(s,y)::ps,x,h,g=>by
  rw[byS]at h g;split at h
  ·rename_i w;rw[if_pos w]at g;obtain⟨a,b⟩:=Z8d hn wh ps (two s x y) h g;obtain⟨c,d⟩:=hn _ _ _ a;exact⟨c,λ q hq=>(qa2.mp hq).elim (λ e=>e▸d) λ hq=>b q hq⟩
  ·rename_i w;rw[if_neg w]at g;obtain⟨a,b⟩:=Z8d hn wh ps y (g (s,_) qa6) λ q hq=>g q (qa8 _ hq);exact⟨h,λ q hq=>(qa2.mp hq).elim (λ e=>e▸a) λ hq=>b q hq⟩
theorem J0I(hn:∀s x y,N (two s x y)->N x/\N y):∀(ps:List (V0×α))(m:Bool)(x:α)(r:α×List α),cmS two m x ps=some r->N r.1->(∀q∈r.2,N q)->N x/\∀q∈ps,N q.2
 |[],m,x,r,e,h,_=>by cases e;exact⟨h,λ q hq=>(qa9 hq).elim⟩
 |(s,y)::ps,m,x,r,e,h,g=>by
  rw[cmS]at e;split at e
  ·cases e2:cmS two false y ps with
   |none=>rw[e2]at e;cases e
   |some k=>
    rw[e2]at e;cases e;obtain⟨a,b⟩:=J0I hn ps false y k e2 (g _ qa6) λ q hq=>g q (qa8 _ hq);exact⟨h,λ q hq=>(qa2.mp hq).elim (λ e=>e▸a) λ hq=>b q hq⟩
  ·split at e
   ·cases e
   ·obtain⟨a,b⟩:=J0I hn ps true (two s x y) r e h g;obtain⟨c,d⟩:=hn _ _ _ a;exact⟨c,λ q hq=>(qa2.mp hq).elim (λ e=>e▸d) λ hq=>b q hq⟩
theorem J3B(hn:∀s x y,N (two s x y)->N x/\N y):∀(r:List α)(x:α),N (foS two x r)->N x/\∀q∈r,N q
 |[],x,h=>⟨h,λ q hq=>(qa9 hq).elim⟩
 |y::r,x,h=>by
  obtain⟨a,b⟩:=hn _ _ _ h;obtain⟨c,d⟩:=J3B hn r y b;exact⟨a,λ q hq=>(qa2.mp hq).elim (λ e=>e▸c) λ hq=>d q hq⟩
end
abbrev I3:=It×PyData
def twoD(s:V0)(d e:PyData):PyData:=.tuple [.str "two",.str s,d,e]
def mg3(s:V0)(a b:I3):I3:=(mg s a.1 b.1,twoD s a.2 b.2)
noncomputable def OD(o:Option Tm):PyData:=match o with|none=>.none|some t=>t.dat
def Pdep(D T:Nat)(i:I3):Prop:=1<=T/\∀t,i.1.2=some t->t.depth+1<=D+T/\i.2=t.dat/\Ok t
def Psiz(T:Nat)(i:I3):Prop:=∀t,i.1.2=some t->t.size+1<=T
theorem J6H{o o':Option Tm}{s:V0}{t:Tm}(h:(o.bind λ t=>o'.bind λ r=>some (Tm.mk .two (.str s) [t,r]))=some t):∃a b,o=some a/\o'=some b/\t=.mk .two (.str s) [a,b]:=by
 cases o with
 |none=>cases h
 |some a=>
  cases o' with
  |none=>cases h
  |some b=>cases h;exact⟨a,b,rfl,rfl,rfl⟩
theorem Z7G{D:Nat}:∀s a b (x y:I3),Pdep D a x->Pdep D b y->Pdep D (a+b) (mg3 s x y):=λ s a b x y ⟨h1,h2⟩ ⟨g1,g2⟩=>⟨by omega,λ t e=>by
 obtain⟨p,q,e1,e2,rfl⟩:=J6H e;obtain⟨d1,d2,d3⟩:=h2 p e1;obtain⟨f1,f2,f3⟩:=g2 q e2;refine⟨by rw[dp2];omega,?_,.mk rfl λ r hr=>?_⟩
 ·show twoD s x.2 y.2=_;rw[d2,f2];rfl
 ·rcases qa2.mp hr with rfl|hr
  ·exact d3
  ·rw[qa7.mp hr];exact f3⟩
theorem Z7N:∀s a b (x y:I3),Psiz a x->Psiz b y->Psiz (a+b) (mg3 s x y):=λ s a b x y h g t e=>by
 obtain⟨p,q,e1,e2,rfl⟩:=J6H e;have:=h p e1;have:=g q e2;rw[sz2];omega
def Som(i:I3):Prop:=i.1.2≠none
theorem J3U:∀s (x y:I3),Som x->Som y->Som (mg3 s x y):=λ s x y h g e=>by
 obtain⟨⟨u,o⟩,d⟩:=x;obtain⟨⟨v,o'⟩,d'⟩:=y;cases o with
 |none=>exact h rfl
 |some a=>
  cases o' with
  |none=>exact g rfl
  |some b=>cases e
theorem Z5u:∀s (x y:I3),Som (mg3 s x y)->Som x/\Som y:=λ s x y h=>by
 obtain⟨⟨u,o⟩,d⟩:=x;obtain⟨⟨v,o'⟩,d'⟩:=y;cases o with
 |none=>exact(h rfl).elim
 |some a=>
  cases o' with
  |none=>exact(h rfl).elim
  |some b=>exact⟨nofun,nofun⟩
def dueD(x:PyData)(ps:List (V0×PyData))(bs:List PyData):Option PyData:=(paS twoD x ps).map λ r=>foS twoD r.1 (r.2++bs)
theorem J4D{D T Z:Nat}{x:I3}{ps:List (V0×I3)}{bs:List I3}(hb:bs.length<=1)(hT:Wt (Pdep D) x ps T)(hZ:Wt Psiz x ps Z)(bT:∀S∈bs,Pdep D 1 S)(bZ:∀S∈bs,Psiz 21 S):(∀t,rowO x.1 (mp Prod.fst ps) (bs.map Prod.fst)=some t->t.depth+1<=D+T+bs.length/\t.size+1<=Z+21*bs.length/\Ok t)/\(Som x->(∀q∈ps,Som q.2)->(∀S∈bs,Som S)->dueD x.2 (mp Prod.snd ps) (bs.map Prod.snd)=(rowO x.1 (mp Prod.fst ps) (bs.map Prod.fst)).map Tm.dat)/\((¬Som x\/(∃q∈ps,¬Som q.2)\/∃S∈bs,¬Som S)->rowO x.1 (mp Prod.fst ps) (bs.map Prod.fst)=none):=by
 have e1:rowO x.1 (mp Prod.fst ps) (bs.map Prod.fst)=(paS mg3 x ps).bind λ r=>(foS mg3 r.1 (r.2++bs)).1.2:=by
  unfold rowO;rw[J3Y (f:=Prod.fst) (two:=mg3) (two':=mg) (λ _ _ _=>rfl)];cases paS mg3 x ps with
  |none=>rfl
  |some r=>
   show(foS mg r.1.1 (r.2.map Prod.fst++bs.map Prod.fst)).2=_;rw[<-qe8,J1T (f:=Prod.fst) (two:=mg3) (two':=mg) (λ _ _ _=>rfl)];rfl
 have e2:dueD x.2 (mp Prod.snd ps) (bs.map Prod.snd)=(paS mg3 x ps).map λ r=>(foS mg3 r.1 (r.2++bs)).2:=by
  unfold dueD;rw[J3Y (f:=Prod.snd) (two:=mg3) (two':=twoD) (λ _ _ _=>rfl)];cases paS mg3 x ps with
  |none=>rfl
  |some r=>
   show some (foS twoD r.1.2 (r.2.map Prod.snd++bs.map Prod.snd))=_;rw[<-qe8,J1T (f:=Prod.snd) (two:=mg3) (two':=twoD) (λ _ _ _=>rfl)];rfl
 rw[e1,e2];cases e3:paS mg3 x ps with
 |none=>exact⟨λ t e=>(by cases e),λ _ _ _=>rfl,λ _=>rfl⟩
 |some r=>
  have hw:=J5o Z7G hT e3;have hz:=J5o Z7N hZ e3;have fw:Pdep D (T+bs.length) (foS mg3 r.1 (r.2++bs)):=by
   rcases bs with _|⟨S,q⟩
   ·rw[qb6];exact Z9l Z7G _ _ _ hw
   ·obtain rfl:q=[]:=by
     simp only[qa4]at hb;exact qf6 (by omega)
    exact Z9l Z7G _ _ _ (Z5m _ _ _ 1 S hw (bT S qa6))
  have fz:Psiz (Z+21*bs.length) (foS mg3 r.1 (r.2++bs)):=by
   rcases bs with _|⟨S,q⟩
   ·rw[qb6];exact Z9l Z7N _ _ _ hz
   ·obtain rfl:q=[]:=by
     simp only[qa4]at hb;exact qf6 (by omega)
    exact Z9l Z7N _ _ _ (Z5m _ _ _ 21 S hz (bZ S qa6))
  refine⟨λ t e=>⟨by have:=(fw.2 t e).1;omega,fz t e,(fw.2 t e).2.2⟩,λ s1 s2 s3=>?_,λ h=>?_⟩
  ·have hs:WtL (λ _ i=>Som i) r.1 r.2 0:=by
    refine J5o (P:=λ _ i=>Som i) (T:=0) (λ s a b x y=>J3U s x y) ?_ e3;have go:∀(ps:List (V0×I3))(x:I3),Som x->(∀q∈ps,Som q.2)->Wt (λ _ i=>Som i) x ps 0:=by
     intro ps;induction ps with
     |nil=>exact λ x s1 _=>s1
     |cons q ps ih=>exact λ x s1 s2=>⟨0,0,rfl,s1,ih q.2 (s2 q qa6) λ p hp=>s2 p (qa8 _ hp)⟩
    exact go ps x s1 s2
   have hs2:WtL (λ _ i=>Som i) r.1 (r.2++bs) 0:=by
    rcases bs with _|⟨S,q⟩
    ·rw[qb6];exact hs
    ·obtain rfl:q=[]:=by
      simp only[qa4]at hb;exact qf6 (by omega)
     exact Z5m (P:=λ _ i=>Som i) _ _ _ 0 S hs (s3 S qa6)
   have hs3:Som (foS mg3 r.1 (r.2++bs)):=Z9l (P:=λ _ i=>Som i) (λ s a b x y=>J3U s x y) _ _ _ hs2;show some (foS mg3 r.1 (r.2++bs)).2=Option.map Tm.dat (foS mg3 r.1 (r.2++bs)).1.2;cases e4:(foS mg3 r.1 (r.2++bs)).1.2 with
   |none=>exact(hs3 e4).elim
   |some t=>rw[(fw.2 t e4).2.1];rfl
  ·show(foS mg3 r.1 (r.2++bs)).1.2=none;refine qf0 λ z=>?_;obtain⟨a,b⟩:=J3B (N:=Som) Z5u _ _ z;obtain⟨c,d⟩:=J0I (N:=Som) Z5u _ _ _ _ e3 a λ q hq=>b q (qg0 _ hq);obtain⟨c,d⟩:=Z8d (N:=Som) Z5u _ _ _ c d;obtain⟨c,d⟩:=Z8d (N:=Som) Z5u _ _ _ c d;rcases h with h|⟨q,hq,h⟩|⟨S,hS,h⟩
   ·exact h c
   ·exact h (d q hq)
   ·exact h (b S (qc3 _ hS))
def sgs:List V0:=[";","<","=","+","-","*","/"]
def chkS(s:V0):Bool:=decide (preF 4 (cds (" "++s++" "))=some [cds s])&&decide ((" "++s++" ").length=3)&&decide (s≠"("/\s≠")")&&decide ((cds (" "++s++" ")).head?=some 32)&&(decide (s=";")||eqs s||isP s||isM s)
theorem J5G:∀s∈sgs,chkS s=true:=by decide+kernel
structure Sgn(s:V0):Prop where
 pw:Pw (" "++s++" ") [s]
 bl:Bl (" "++s++" ")
 len:(" "++s++" ").length=3
 br:(decide (s≠"("/\s≠")"))=true
 sg:isS s
 ne:(cds (" "++s++" ")).isEmpty=false
theorem J5W{s:V0}(h:s∈sgs):Sgn s:=by
 have h:=J5G s h;unfold chkS at h;simp only[qc5,qh0]at h;obtain⟨⟨⟨⟨a,b⟩,c⟩,d⟩,e⟩:=h;have d:=of_decide_eq_true d;obtain⟨r,hr⟩:∃r,cds (" "++s++" ")=32::r:=by
  cases hh:cds (" "++s++" ")with
  |nil=>rw[hh]at d;cases d
  |cons c r=>rw[hh]at d;cases d;exact⟨r,rfl⟩
 refine⟨Z1R 4 (of_decide_eq_true a),Z5Y hr qP,of_decide_eq_true b,c,?_,by rw[hr];rfl⟩;rcases e with((e|e)|e)|e
 ·exact .inl (of_decide_eq_true e)
 ·exact .inr (.inl e)
 ·exact .inr (.inr (.inl e))
 ·exact .inr (.inr (.inr e))
def txF:V0->List (V0×V0)->V0
 |a,[]=>a
 |a,(s,y)::r=>txF (a++" "++s++" "++y) r
theorem J8g{a y s:V0}{u v:W}{n m b:Nat}(A:TO a u n b)(hs:s∈sgs)(B:TO y v m b):TO (a++" "++s++" "++y) (u++s::v) (n+3+m) b:=by
 have S:=J5W hs;have c:=TO.mid A S.bl S.pw B (by show[s].all _=true;simp only[qd8,List.all_nil,Bool.and_true];exact S.br) S.len S.ne;have e:a++(" "++s++" ")++y=a++" "++s++" "++y:=by simp only[Z7T]
 rw[e]at c;exact c
abbrev El:=V0×I3
theorem J6g{M b:Nat}:∀(ps:List (V0×El))(a:V0)(x:It)(n:Nat),TO a x.1 n b->(∀q∈ps,q.1∈sgs/\TO q.2.1 q.2.2.1.1 M b)->TO (txF a (mp Prod.fst ps)) (wd x (mp Prod.fst (mp Prod.snd ps))) (n+ps.length*(3+M)) b
 |[],a,x,n,h,_=>h.mono (by simp) (qa0 _)
 |(s,y)::ps,a,x,n,h,g=>by
  obtain⟨g1,g2⟩:=g (s,y) qa6;have c:=J6g ps _ (mg s x y.2.1) _ (J8g h g1 g2) λ q hq=>g q (qa8 _ hq);rw[J5M]at c;exact c.mono (by simp only[qa4,Nat.add_mul];omega) (qa0 _)
def ThE(e:El):Prop:=∃t,e.2.1.2=some t/\e.2.2=t.dat/\Th e.1 e.2.1.1 t
theorem ThE.va{e:El}(h:ThE e)(low:Nat){D J:Nat}(hD:D<=12)(hJ:4<=J):Va low 5 5 J D 0 e.2.1:=λ least _ deep hd=>by
 obtain⟨t,e1,e2,h⟩:=h;rw[e1];exact((h.pd low deep (by omega)).mono (by omega) (qa0 _)).r
theorem ThE.som{e:El}(h:ThE e):Som e.2:=by
 obtain⟨t,e1,_⟩:=h;unfold Som;rw[e1];nofun
theorem ThE.pdep{e:El}(h:ThE e){D:Nat}(hD:4<=D):Pdep D 1 e.2:=⟨qa0 _,λ t z=>by
 obtain⟨t',e1,e2,h⟩:=h;cases e1.symm.trans z;exact⟨by have:=h.dp;omega,e2,h.ok⟩⟩
theorem ThE.psiz{e:El}(h:ThE e):Psiz 7 e.2:=λ t z=>by
 obtain⟨t',e1,e2,h⟩:=h;cases e1.symm.trans z;have:=h.sz;omega
theorem J7o{α:Type}{P:Nat->α->Prop}{a b:Nat}:∀(init:List α)(last x:α)(es:List α)(ss:List V0),init++[last]=x::es->ss.length=es.length->(∀e∈init,P a e)->P b last->Wt P x (ss.zip es) (init.length*a+b)
 |[],last,x,es,ss,e,hl,_,h=>by
  cases e;rw[List.zip_nil_right];show P _ _;simpa using h
 |i::init,last,x,es,ss,e,hl,hi,h=>by
  injection e with e1 e2
  subst e1;cases es with
  |nil=>exact absurd e2 (by simp)
  |cons y r=>
   cases ss with
   |nil=>simp at hl
   |cons s q=>
    refine⟨a,init.length*a+b,by simp only[qa4,Nat.add_mul];omega,hi _ qa6,J7o init last y r q e2 (by simpa using hl) (λ e he=>hi e (qa8 _ he)) h⟩
theorem J6X{low cl J D:Nat}:∀(init:List It)(last x:It)(es:List It)(ss:List V0),init++[last]=x::es->ss.length=es.length->(∀e∈init,Va low 5 5 J D 0 e)->Va low 5 cl J D 0 last->Vs low 5 5 cl J D 0 x (ss.zip es)
 |[],last,x,es,ss,e,hl,_,h=>by
  cases e;rw[List.zip_nil_right];exact h
 |i::init,last,x,es,ss,e,hl,hi,h=>by
  injection e with e1 e2
  subst e1;cases es with
  |nil=>exact absurd e2 (by simp)
  |cons y r=>
   cases ss with
   |nil=>simp at hl
   |cons s q=>exact⟨hi _ qa6,J6X init last y r q e2 (by simpa using hl) (λ e he=>hi e (qa8 _ he)) h⟩
theorem Z4C{α β:Type}(f:α->β):∀(ss:List V0)(es:List α),mp f (ss.zip es)=ss.zip (es.map f)
 |[],es=>rfl
 |s::ss,[]=>rfl
 |s::ss,y::es=>by
  have:=Z4C f ss es;simp only[mp,List.zip_cons_cons,qc4]at this ⊢;rw[this]
theorem J6s:∀(ps:List (V0×It))(x:It),x.1≠[]->hdw (wd x ps)=hdw x.1
 |[],x,_=>rfl
 |(s,y)::ps,x,h=>Z3F h
theorem J1r{α β:Type}{f:α->β}{ps:List (V0×α)}{q:V0×β}(h:q∈mp f ps):∃p∈ps,q=(p.1,f p.2):=by
 obtain⟨p,hp,e⟩:=qd0.mp h;exact⟨p,hp,e.symm⟩
theorem whole{L:Nat->Prop}(hL:L 1){cl J D M b Dd Zl:Nat}{e last:El}{es init bs:List El}{ss:List V0}(hil:init++[last]=e::es)(hl:ss.length=es.length)(hs:∀s∈ss,s∈sgs)(hin:∀q∈init,ThE q)(hJ:4<=J)(hD:D<=12)(hM:19<=M)(hb:2<=b)(hDd:4<=Dd)(lV:∀low,L low->Va low 5 cl J D 0 last.2.1)(hcl:cl<=4)(lT:TO last.1 last.2.1.1 M b)(lP:Pdep Dd 1 last.2)(lZ:Psiz Zl last.2)(hB0:bs.length<=1)(hB:∀low,L low->∀S∈bs,Va low 1 1 J D 0 S.2.1)(hB2:bs≠[]->1<cl)(bP:∀S∈bs,Pdep Dd 1 S.2)(bZ:∀S∈bs,Psiz 21 S.2):∃u o,TO (txF e.1 (ss.zip (es.map Prod.fst))) u (M+es.length*(3+M)) b/\u≠[]/\hdw u=hdw e.2.1.1/\(∀low least cc deep,L low->least<=2->cc<=cl->cc<=2->(((∃s∈ss,s=";")\/bs≠[])->cc<=1/\least<=1)->deep+(es.length+bs.length)<=D->Rd (J+(es.length+bs.length)) least low deep (u++bw (bs.map λ q=>q.2.1)) o cc)/\(∀t,o=some t->t.depth+1<=Dd+(es.length+1)+bs.length/\t.size+1<=es.length*7+Zl+21*bs.length/\Ok t)/\((Som last.2)->(∀S∈bs,Som S.2)->dueD e.2.2 (ss.zip (es.map λ q=>q.2.2)) (bs.map λ q=>q.2.2)=o.map Tm.dat)/\((¬Som last.2\/∃S∈bs,¬Som S.2)->o=none):=by
 have lni:init.length=es.length:=by have:=congrArg qf2 hil;simp only[qa5,qa4,qd2]at this;omega
 have lz:(ss.zip es).length=es.length:=by rw[qi4,hl,Nat.min_self]
 have inT:∀q∈init,TO q.1 q.2.1.1 M b:=λ q hq=>by obtain⟨t,_,_,h⟩:=hin q hq;exact h.tx.mono hM hb
 have allT:∀q∈e::es,TO q.1 q.2.1.1 M b:=λ q hq=>by
  rw[<-hil]at hq;rcases qd4.mp hq with z|z
  ·exact inT q z
  ·rw[qa7.mp z];exact lT
 have inV:∀low,∀q∈init,Va low 5 5 J D 0 q.2.1:=λ low q hq=>(hin q hq).va low hD hJ;have e1:mp Prod.fst (mp Prod.snd (ss.zip es))=ss.zip (es.map λ q=>q.2.1):=by
  rw[Z4C,Z4C,qd1];rfl
 have e2:mp Prod.snd (mp Prod.snd (ss.zip es))=ss.zip (es.map λ q=>q.2.2):=by
  rw[Z4C,Z4C,qd1];rfl
 have hv:∀low,L low->Vs low 5 5 cl J D 0 e.2.1 (mp Prod.fst (mp Prod.snd (ss.zip es))):=λ low hlo=>by
  rw[e1];refine J6X (init.map λ q=>q.2.1) last.2.1 e.2.1 _ ss ?_ (by simpa using hl) (λ i hi=>?_) (lV low hlo)
  ·have:=congrArg (List.map λ q:El=>q.2.1) hil;simpa using this
  ·obtain⟨q,hq,rfl⟩:=qd0.mp hi;exact inV low q hq
 have wp:∀{P:Nat->I3->Prop}{a c:Nat},(∀q∈init,P a q.2)->P c last.2->Wt P e.2 (mp Prod.snd (ss.zip es)) (init.length*a+c):=by
  intro P a c h1 h2;rw[Z4C];have:=J7o (P:=P) (init.map Prod.snd) last.2 e.2 (es.map Prod.snd) ss (by have:=congrArg (List.map λ q:El=>q.2) hil;simpa using this) (by simpa using hl) (λ i hi=>by obtain⟨q,hq,rfl⟩:=qd0.mp hi;exact h1 q hq) h2;rw[qa3]at this;exact this
 have w1:=wp (λ q hq=>(hin q hq).pdep hDd) lP;have w2:=wp (λ q hq=>(hin q hq).psiz) lZ;have bl:(bs.map Prod.snd).length<=1:=by simpa using hB0
 obtain⟨d1,d2,d3⟩:=J4D (bs:=bs.map Prod.snd) bl w1 w2 (λ S hS=>by obtain⟨q,hq,rfl⟩:=qd0.mp hS;exact bP q hq) (λ S hS=>by obtain⟨q,hq,rfl⟩:=qd0.mp hS;exact bZ q hq);have e3:(bs.map Prod.snd).map Prod.fst=bs.map λ q=>q.2.1:=by rw[qd1];rfl
 have e4:(bs.map Prod.snd).map Prod.snd=bs.map λ q=>q.2.2:=by rw[qd1];rfl
 rw[e3]at d1 d2 d3;rw[e2,e4]at d2;have sgz:∀q∈mp Prod.fst (mp Prod.snd (ss.zip es)),q.1∈ss:=λ q hq=>by
  obtain⟨p,hp,rfl⟩:=J1r hq;obtain⟨p',hp',rfl⟩:=J1r hp;exact(qe5 hp').1
 have lm:(mp Prod.fst (mp Prod.snd (ss.zip es))).length=es.length:=by rw[e1,qi4,qa3,hl,Nat.min_self]
 have ene:e.2.1.1≠[]:=by
  cases init with
  |nil=>cases hil;exact(lV 1 hL 0 (by omega) 0 (by omega)).1
  |cons i r=>cases hil;exact(inV 1 e qa6 0 (by omega) 0 (by omega)).1
 refine⟨wd e.2.1 (mp Prod.fst (mp Prod.snd (ss.zip es))),_,?_,?_,J6s _ _ ene,λ low least cc deep hlo l1 c1 c2 c3 hd=>?_,λ t ht=>?_,λ s1 s2=>d2 ?_ ?_ ?_,λ h=>d3 ?_⟩
 ·have a:=J6g (M:=M) (b:=b) (ss.zip es) e.1 e.2.1 M (allT e qa6) λ q hq=>⟨hs _ (qe5 hq).1,allT _ (qa8 _ (qe5 hq).2)⟩;rw[lz,Z4C]at a;exact a
 ·have:=J6s (mp Prod.fst (mp Prod.snd (ss.zip es))) _ ene;intro z;cases hz:mp Prod.fst (mp Prod.snd (ss.zip es))with
  |nil=>rw[hz]at z;exact ene z
  |cons q r=>rw[hz]at z;exact absurd z (by show e.2.1.1++q.1::wd q.2 r≠[];simp)
 ·have a:=J5Q (least:=least) (cc:=cc) (deep:=deep) (bs:=bs.map λ q=>q.2.1) (hv low hlo) ⟨by simpa using hB0,λ S hS=>by obtain⟨q,hq,rfl⟩:=qd0.mp hS;exact hB low hlo q hq⟩ (λ z=>hB2 (by simpa using z)) (λ q hq=>(J5W (hs _ (sgz q hq))).sg) hcl l1 c1 c2 (λ z=>c3 (z.imp (λ⟨q,hq,e⟩=>⟨_,sgz q hq,e⟩) (by simp))) (by rw[lm,qa3];exact hd);rw[lm,qa3]at a;exact a
 ·obtain⟨a1,a2,a3⟩:=d1 t ht;rw[qa3]at a1 a2;exact⟨by omega,by rw[lni]at a2;exact a2,a3⟩
 ·cases init with
  |nil=>cases hil;exact s1
  |cons i r=>cases hil;exact(hin e qa6).som
 ·intro q hq;obtain⟨p,hp,rfl⟩:=J1r hq;have hp:=qa8 e (qe5 hp).2;rw[<-hil]at hp;rcases qd4.mp hp with z|z
  ·exact(hin _ z).som
  ·rw[qa7.mp z];exact s1
 ·intro S hS;obtain⟨q,hq,rfl⟩:=qd0.mp hS;exact s2 q hq
 ·rcases h with h|⟨S,hS,h⟩
  ·have hm:last∈e::es:=by rw[<-hil];exact qc3 _ qa6
   rcases(qa2.mp hm)with rfl|hm
   ·exact .inl h
   ·refine .inr (.inl ?_);have:∀(es:List El)(ss:List V0),ss.length=es.length->last∈es->∃q∈mp Prod.snd (ss.zip es),¬Som q.2:=by
     intro es;induction es with
     |nil=>intro ss _ z;exact(qa9 z).elim
     |cons y r ih=>
      intro ss hl z;cases ss with
      |nil=>simp at hl
      |cons s q=>
       rcases qa2.mp z with rfl|z
       ·exact⟨(s,last.2),qa6,h⟩
       ·obtain⟨p,hp,g⟩:=ih q (by simpa using hl) z;exact⟨p,qa8 _ hp,g⟩
    exact this es ss hl hm
  ·exact .inr (.inr ⟨S.2,List.mem_map_of_mem hS,h⟩)
structure Sh(semi:Bool)(x:V0)(u:W)(o:Option Tm):Prop where
 tx:TO x u 63 2
 rd:∀low least cc deep,least<=2->cc<=2->(semi=true->cc<=1/\least<=1)->deep<=10->Rd 6 least low deep u o cc
 hd:hdw u≠")"
 sz:∀t,o=some t->t.size<=20/\t.depth<=6/\Ok t
theorem sh_of{semi:Bool}{e:El}{es:List El}{ss:List V0}(he:ThE e)(hp:∀q∈es,ThE q)(hl:ss.length=es.length)(h2:es.length<=2)(hs:∀s∈ss,s∈sgs)(hm:semi=false->∀s∈ss,s≠";"):∃u o,Sh semi (txF e.1 (ss.zip (es.map Prod.fst))) u o/\dueD e.2.2 (ss.zip (es.map λ q=>q.2.2)) []=o.map Tm.dat:=by
 obtain⟨init,last,hil⟩:∃init last,init++[last]=e::es:=⟨(e::es).dropLast,(e::es).getLast (List.cons_ne_nil _ _),qj5 (List.cons_ne_nil _ _)⟩;have hall:∀q∈e::es,ThE q:=λ q hq=>(qa2.mp hq).elim (λ z=>z▸he) λ z=>hp q z;have hin:∀q∈init,ThE q:=λ q hq=>hall q (hil▸qg0 _ hq);have hla:ThE last:=hall last (hil▸qc3 _ qa6);obtain⟨u,o,h1,h2',h3,h4,h5,h6,h7⟩:=whole (L:=λ _=>True) trivial (cl:=4) (J:=4) (D:=12) (M:=19) (b:=2) (Dd:=4) (Zl:=7) (bs:=[]) hil hl hs hin (by omega) (by omega) (by omega) (by omega) (by omega) (λ low _=>(hla.va low (by omega) (by omega)).mono (qa0 _) (by omega) (qa0 _)) (by omega) (by obtain⟨t,_,_,h⟩:=hla;exact h.tx) (hla.pdep (by omega)) hla.psiz (by simp) (λ _ _ S hS=>(qa9 hS).elim) (λ z=>(z rfl).elim) (λ S hS=>(qa9 hS).elim) (λ S hS=>(qa9 hS).elim);refine⟨u,o,⟨h1.mono (by have:=Nat.mul_le_mul_right (3+19) h2;omega) (qa0 _),λ low least cc deep l1 c1 c2 hd=>?_,?_,λ t ht=>?_⟩,h6 hla.som λ S hS=>(qa9 hS).elim⟩
 ·have a:=h4 low least cc deep trivial l1 (by omega) c1 (λ z=>?_) (by show deep+(es.length+0)<=12;omega)
  ·have a:Rd (4+(es.length+0)) least low deep (u++[]) o cc:=a;rw[qb6]at a;exact a.mono (by omega) (qa0 _)
  ·rcases z with⟨s,h,e⟩|z
   ·cases semi with
    |true=>exact c2 rfl
    |false=>exact(hm rfl s h e).elim
   ·exact(z rfl).elim
 ·rw[h3];obtain⟨t,_,_,h⟩:=he;exact h.hd
 ·obtain⟨a1,a2,a3⟩:=h5 t ht;have a1:t.depth+1<=4+(es.length+1)+0:=a1;have a2:t.size+1<=es.length*7+7+21*0:=a2;exact⟨by omega,by omega,a3⟩
def b1(o:Option Tm)(f:Tm->Tm):Option Tm:=o.bind λ t=>some (f t)
structure Tl(x:V0)(u:W)(o:Option Tm):Prop where
 tx:TO x u 160 2
 rd:∀deep,deep<=8->Rd 8 2 2 deep u o 2
 sz:∀t,o=some t->t.size<=43/\t.depth<=8/\Ok t
theorem tl0{x:V0}{u:W}{o:Option Tm}(h:Sh false x u o):Tl x u o:=⟨h.tx.mono (by omega) (qa0 _),λ deep hd=>(h.rd 2 2 2 deep (by omega) (by omega) (λ z=>by cases z) (by omega)).mono (by omega) (by omega),λ t ht=>by obtain⟨a,b,c⟩:=h.sz t ht;exact⟨by omega,by omega,c⟩⟩
theorem tl1{x:V0}{u:W}{o:Option Tm}(h:Sh false x u o):Tl ("set a.b = "++x) ((["set","a",".","b","="]:W)++u) (o.bind λ z=>some (.mk .set (.str "b") [nmT "a",z])):=⟨(TO.pre (p:="set a.b = ") (v:=["set","a",".","b","="]) (m:=10) (Z1R 12 qP) h.tx qP qP).mono (by omega) (qa0 _),λ deep hd=>(J3Z (J:=6) (a:=["a"]) (x:="b") nmB.nm qP (by omega) (J3r nmA) (h.rd 2 2 2 (deep+1) (by omega) (by omega) (λ z=>by cases z) (by omega)) (by omega)).r.mono (by omega) (by omega),λ t ht=>by
  cases o with
  |none=>cases ht
  |some z=>cases ht;obtain⟨a,b,c⟩:=h.sz z rfl;exact⟨by rw[sz2,Z6b];omega,by rw[dp2,Z6e];omega,ok2 rfl (Z6Y _) c⟩⟩
structure Le(x:V0)(u:W)(o:Option Tm):Prop where
 tx:TO x u 140 2
 pd:∀deep,deep<=9->Pd 7 2 deep u o 2
 sz:∀t,o=some t->t.size<=41/\t.depth<=7/\Ok t
def letO(x:V0)(o o':Option Tm):Option Tm:=o.bind λ y=>o'.bind λ z=>some (.mk .lt (.str x) [y,z])
theorem le_of{x y:V0}{u v:W}{o o':Option Tm}(h:Sh true y v o')(g:Sh false x u o):Le ("let w = "++y++" in "++x) (("let":V0)::("w":V0)::("=":V0)::(v++("in":V0)::u)) (letO "w" o' o):=⟨by
 have a:=TO.pre (p:="let w = ") (v:=["let","w","="]) (m:=8) (Z1R 9 qP) h.tx qP qP;have b:=TO.mid (m:=" in ") (v:=["in"]) (k':=4) a (J1x (y:="in ") qP) (Z1R 5 qP) g.tx qP qP qP;have c:=b.mono (n':=140) (by omega) (qa0 _);simp only[qd5,qi5,qb9]at c;exact c,
 λ deep hd=>J1c nmW.nm (by omega) (h.rd 1 1 1 (deep+1) (by omega) (by omega) (λ _=>⟨by omega,by omega⟩) (by omega)) (g.rd 2 2 2 (deep+1) (by omega) (by omega) (λ z=>by cases z) (by omega)) (by omega),
 λ t ht=>by
  cases o' with
  |none=>cases ht
  |some y=>
   cases o with
   |none=>cases ht
   |some z=>
    cases ht;obtain⟨a,b,c⟩:=h.sz y rfl;obtain⟨a',b',c'⟩:=g.sz z rfl;exact⟨by rw[sz2];omega,by rw[dp2];omega,ok2 rfl c c'⟩⟩
theorem tl2{x:V0}{u:W}{o:Option Tm}(h:Le x u o):Tl x u o:=⟨h.tx.mono (by omega) (qa0 _),λ deep hd=>(h.pd deep (by omega)).r.mono (by omega) (by omega),λ t ht=>by obtain⟨a,b,c⟩:=h.sz t ht;exact⟨by omega,by omega,c⟩⟩
theorem tl3{x:V0}{u:W}{o:Option Tm}(h:Le x u o):Tl ("c - "++x) ((["c","-"]:W)++u) (o.bind λ z=>some (.mk .two (.str "-") [nmT "c",z])):=⟨(TO.pre (p:="c - ") (v:=["c","-"]) (m:=4) (Z1R 5 qP) h.tx qP qP).mono (by omega) (qa0 _),λ deep hd=>Z6S (s:="-") (J:=7) (u:=["c"]) (o:=some (nmT "c")) (c:=5) (cr:=2) qP qP (J1m nmC (by omega)).r (h.pd (deep+1) (by omega)).r qP qP (by omega) qP (λ _=>by omega),λ t ht=>by
  cases o with
  |none=>cases ht
  |some z=>cases ht;obtain⟨a,b,c⟩:=h.sz z rfl;exact⟨by rw[sz2,Z6b];omega,by rw[dp2,Z6e];omega,ok2 rfl (Z6Y _) c⟩⟩
theorem tl4{x:V0}{u:W}{o:Option Tm}(h:Le x u o):Tl ("not "++x) ((["not"]:W)++u) (o.bind λ z=>some (.mk .nt .non [z])):=⟨(TO.pre (p:="not ") (v:=["not"]) (m:=4) (Z1R 5 qP) h.tx qP qP).mono (by omega) (qa0 _),λ deep hd=>(J1i (by omega) (h.pd (deep+1) (by omega))).r,λ t ht=>by
  cases o with
  |none=>cases ht
  |some z=>cases ht;obtain⟨a,b,c⟩:=h.sz z rfl;exact⟨by rw[szo];omega,by rw[dpo];omega,ok1 rfl c⟩⟩
theorem tl5{x:V0}{u:W}{o:Option Tm}(h:Le x u o):Tl ("let u = c in "++x) ((["let","u","=","c","in"]:W)++u) (o.bind λ z=>some (.mk .lt (.str "u") [nmT "c",z])):=⟨(TO.pre (p:="let u = c in ") (v:=["let","u","=","c","in"]) (m:=13) (Z1R 14 qP) h.tx qP qP).mono (by omega) (qa0 _),λ deep hd=>(J1c (a:=["c"]) (oa:=some (nmT "c")) nmU.nm (by omega) (J1m nmC (by omega)).r (h.pd (deep+1) (by omega)).r (by omega)).r,λ t ht=>by
  cases o with
  |none=>cases ht
  |some z=>cases ht;obtain⟨a,b,c⟩:=h.sz z rfl;exact⟨by rw[sz2,Z6b];omega,by rw[dp2,Z6e];omega,ok2 rfl (Z6Y _) c⟩⟩
structure La(cl:Nat)(x:V0)(u:W)(o:Option Tm):Prop where
 tx:TO x u 420 4
 pd:∀deep,deep<=7->Pd 10 1 deep u o cl
 sz:∀t,o=some t->t.size<=86/\t.depth<=9/\Ok t
theorem dp3{f:Fm}{l:Lb}{t u v:Tm}:(Tm.mk f l [t,u,v]).depth=1+max t.depth (max u.depth v.depth):=by rw[Tm.depth,maxD,maxD,maxD,maxD];omega
theorem sz3{f:Fm}{l:Lb}{t u v:Tm}:(Tm.mk f l [t,u,v]).size=1+t.size+u.size+v.size:=by rw[Tm.size,sumS,sumS,sumS,sumS];omega
theorem ok3'{f:Fm}{l:Lb}{t u v:Tm}(h:okF f l 3)(a:Ok t)(b:Ok u)(c:Ok v):Ok (.mk f l [t,u,v]):=.mk h λ p hp=>by
 rcases qa2.mp hp with rfl|hp
 ·exact a
 ·rcases(qa2.mp hp)with rfl|hp
  ·exact b
  ·rw[qa7.mp hp];exact c
section
variable{x y z:V0}{u v w:W}{o o' o2:Option Tm}
theorem Sh.r1(h:Sh true x u o){J low deep:Nat}(hJ:6<=J)(hd:deep<=10):Rd J 1 low deep u o 1:=(h.rd low 1 1 deep (by omega) (by omega) (λ _=>⟨by omega,by omega⟩) hd).mono hJ (qa0 _)
theorem la1(h:Sh true x u o)(g:Sh true y v o')(k:Tl z w o2):La 2 ("if "++x++" then "++y++" else "++z) (("if":V0)::(u++("then":V0)::(v++("else":V0)::w))) (o.bind λ a=>o'.bind λ b=>o2.bind λ c=>some (.mk .iff .non [a,b,c])):=⟨by
 have a:=TO.pre (p:="if ") (v:=["if"]) (m:=3) (Z1R 4 qP) h.tx qP qP;have b:=TO.mid (m:=" then ") (v:=["then"]) (k':=6) a (J1x (y:="then ") qP) (Z1R 7 qP) g.tx qP qP qP;have c:=TO.mid (m:=" else ") (v:=["else"]) (k':=6) b (J1x (y:="else ") qP) (Z1R 7 qP) k.tx qP qP qP;have d:=c.mono (n':=420) (b':=4) (by omega) (by omega);simp only[qd5,qi5,qb9]at d;exact d,
 λ deep hd=>(J9b (J:=8) (by omega) (h.r1 (by omega) (by omega)) (g.r1 (by omega) (by omega)) (k.rd (deep+1) (by omega)) (by omega)).mono (by omega) (by omega),
 λ t ht=>by
  cases o with
  |none=>cases ht
  |some a=>
   cases o' with
   |none=>cases ht
   |some b=>
    cases o2 with
    |none=>cases ht
    |some c=>
     cases ht;obtain⟨a1,a2,a3⟩:=h.sz a rfl;obtain⟨b1,b2,b3⟩:=g.sz b rfl;obtain⟨c1,c2,c3⟩:=k.sz c rfl;exact⟨by rw[sz3];omega,by rw[dp3];omega,ok3' rfl a3 b3 c3⟩⟩
theorem la2(h:Sh true x u o)(g:Sh true y v o'):La 1 ("let v = "++x++" in "++y) (("let":V0)::("v":V0)::("=":V0)::(u++("in":V0)::v)) (letO "v" o o'):=⟨by
 have a:=TO.pre (p:="let v = ") (v:=["let","v","="]) (m:=8) (Z1R 9 qP) h.tx qP qP;have b:=TO.mid (m:=" in ") (v:=["in"]) (k':=4) a (J1x (y:="in ") qP) (Z1R 5 qP) g.tx qP qP qP;have c:=b.mono (n':=420) (b':=4) (by omega) (by omega);simp only[qd5,qi5,qb9]at c;exact c,
 λ deep hd=>(J1c (J:=6) nmV.nm (by omega) (h.r1 (by omega) (by omega)) (g.r1 (by omega) (by omega)) (by omega)).mono (by omega) (by omega),
 λ t ht=>by
  cases o with
  |none=>cases ht
  |some a=>
   cases o' with
   |none=>cases ht
   |some b=>
    cases ht;obtain⟨a1,a2,a3⟩:=h.sz a rfl;obtain⟨b1,b2,b3⟩:=g.sz b rfl;exact⟨by rw[sz2];omega,by rw[dp2];omega,ok2 rfl a3 b3⟩⟩
structure St(x:V0)(u:W)(t:Tm):Prop where
 tx:TO x u 10 4
 qd:∀deep,deep<=7->Qd 9 deep u (some t)
 sz:t.size<=3
 dp:t.depth<=3
 ok:Ok t
theorem J4K{k:Nat}{t:Tm}(h:Pt k x u t)(hk:k<=1):St x u t:=⟨h.tx.mono (by omega) (by omega),λ deep hd=>(h.qd deep (by omega)).mono (by omega),by have:=h.sz;omega,by have:=h.dp;omega,h.ok⟩
def fldA:Tm:=.mk .field (.str "b") [nmT "a"]
theorem st0:∃u,St "a.b()" u (.mk .call (.str "b") [nmT "a"]):=⟨_,by
 have h:=J4K (pt_call0 (pt_nm nmA) nmB) (by omega);have e:("a":V0)++"."++"b"++"()"="a.b()":=by decide+kernel
 rw[e]at h;exact h⟩
theorem st1:∃u,St "(a.b)" u fldA:=⟨(["(","a",".","b",")"]:W),by
 have h:=pt_field (pt_nm nmA) nmB;have e:("(":V0)++("a"++"."++"b")++")"="(a.b)":=by decide+kernel
 have t:=h.tx.brk;rw[e]at t;refine⟨⟨t.ww,qP,t.br.mono (by omega)⟩,λ deep hd=>(Z9F (((h.qd deep (by omega)).p (low:=1) (c:=1) (by omega) h.kw).r) (by omega)).q.mono (by omega),by have:=h.sz;exact qa1 this (by omega),by have:=h.dp;exact qa1 this (by omega),h.ok⟩⟩
theorem st2:∃u,St "((a))" u (nmT "a"):=⟨_,by
 have h:=J4K (pt_br2 nmA) (by omega);have e:("((":V0)++"a"++"))"="((a))":=by decide+kernel
 rw[e]at h;exact h⟩
theorem st3:∃u,St "(a).b" u fldA:=⟨_,by
 have h:=J4K (pt_field (pt_br1 nmA) nmB) (by omega);have e:("(":V0)++"a"++")"++"."++"b"="(a).b":=by decide+kernel
 rw[e]at h;exact h⟩
theorem la3{t:Tm}(h:St x u t)(k:Tl z w o2):La 2 ("set "++x++".c = "++z) (("set":V0)::(u++(".":V0)::("c":V0)::("=":V0)::w)) (o2.bind λ c=>some (.mk .set (.str "c") [t,c])):=⟨by
 have a:=TO.pre (p:="set ") (v:=["set"]) (m:=4) (Z1R 5 qP) h.tx qP qP;have c:=TO.mid (m:=".c = ") (v:=[".","c","="]) (k':=5) a (Z5Y (c:=46) (r:=[99,32,61,32]) qP qP) (Z1R 6 qP) (k.tx.mono (qa0 _) (by omega)) qP qP qP;have d:=c.mono (n':=420) (b':=4) (by omega) (by omega);simp only[qd5,qi5,qb9]at d;exact d,
 λ deep hd=>(J3Z (J:=8) nmC.nm qP (by omega) (h.qd deep hd) (k.rd (deep+1) (by omega)) (by omega)).mono (by omega) (by omega),
 λ s hs=>by
  cases o2 with
  |none=>cases hs
  |some c=>
   cases hs;obtain⟨c1,c2,c3⟩:=k.sz c rfl;have:=h.sz;have:=h.dp;exact⟨by rw[sz2];omega,by rw[dp2];omega,ok2 rfl h.ok c3⟩⟩
theorem WW.brk{p:V0}{a:W}(P:Pw p a)(h:WW x u):WW (p++x++")") (a++(u++[(")":V0)])):=by
 have c:=(P _ _ h).app (J0J (x:=")") (ws:=[")"]) 2 qP) (Z5Y (c:=41) (r:=[]) qP qP);rw[qb9]at c;exact c
theorem la4(h:Sh true x u o)(g:Sh true y v o'):La 4 ("a.b("++x++", "++y++")") ((["a"]:W)++(".":V0)::("b":V0)::rowW (u,o) [(v,o')]) (o.bind λ a=>o'.bind λ b=>some (.mk .call (.str "b") [nmT "a",a,b])):=⟨⟨by
 have m:WW (x++", "++y) (u++(([","]:W)++v)):=WW.mid h.tx.ww (Z5Y (c:=44) (r:=[32]) qP qP) (Z1R (u:=[","]) 3 qP) g.tx.ww qP;have a:=WW.brk (p:="a.b(") (a:=["a",".","b","("]) (Z1R 5 qP) m;have e:"a.b("++x++", "++y++")"="a.b("++(x++", "++y)++")":=by simp only[Z7T]
 rw[e];have e2:((["a"]:W)++(".":V0)::("b":V0)::rowW (u,o) [(v,o')])=(["a",".","b","("]:W)++(u++(([","]:W)++v)++[(")":V0)]):=by simp[rowW,its]
 rw[e2];exact a,by
 simp only[len_app];have:=h.tx.len;have:=g.tx.len;have e1:("a.b(":V0).length=4:=by decide+kernel
 have e2:(", ":V0).length=2:=by decide+kernel
 have e3:(")":V0).length=1:=by decide+kernel
 omega,by
 have a:=(Z9J (h.tx.br.app (br_w (x:=",") qP g.tx.br))).mono (d:=4) (by omega);have e2:rowW (u,o) [(v,o')]=("(":V0)::(u++(",":V0)::v++[(")":V0)]):=by simp[rowW,its]
 rw[e2];exact br_w qP (br_w qP (br_w qP a))⟩,λ deep hd=>by
  have q:=Z7D nmB.nm (J3r nmA (J:=7) (deep:=deep)) (Z9P (J:=6) (deep:=deep+1) (i:=(u,o)) (r:=[(v,o')]) (c:=1) (by omega) (λ i hi=>by
   rcases qa2.mp hi with rfl|hi
   ·exact h.r1 (by omega) (by omega)
   ·rw[qa7.mp hi];exact g.r1 (by omega) (by omega)) h.hd (by show 1<8;omega)) rfl
  have p:=(q.p (low:=1) (c:=4) (by omega) (by rw[Z3F (by simp)];exact nmA.kw)).mono (J':=10) (by omega) (qa0 4);have e:((some (nmT "a")).bind λ t=>(allS [(u,o),(v,o')]).bind λ ps=>some (Tm.mk .call (.str "b") (t::ps)))=(o.bind λ a=>o'.bind λ b=>some (.mk .call (.str "b") [nmT "a",a,b])):=by
   cases o with
   |none=>rfl
   |some a=>cases o'<;>rfl
  rw[e]at p;exact p,
 λ t ht=>by
  cases o with
  |none=>cases ht
  |some a=>
   cases o' with
   |none=>cases ht
   |some b=>
    cases ht;obtain⟨a1,a2,a3⟩:=h.sz a rfl;obtain⟨b1,b2,b3⟩:=g.sz b rfl;exact⟨by rw[sz3,Z6b];omega,by rw[dp3,Z6e];omega,ok3' (by show 1<=3;omega) (Z6Y _) a3 b3⟩⟩
theorem J1a(h:Sh true x u o):Br 4 (rowW (u,o) []):=by
 have a:=(Z9J h.tx.br).mono (d:=4) (by omega);exact a
theorem J1b(h:Sh true x u o){deep:Nat}(hd:deep<=10):Ad 7 deep (rowW (u,o) []) (o.bind λ a=>some [a]):=by
 have a:=Z9P (J:=6) (deep:=deep) (i:=(u,o)) (r:=[]) (c:=1) (by omega) (λ i hi=>by rw[qa7.mp hi];exact h.r1 (by omega) hd) h.hd qQ;have e:allS [(u,o)]=(o.bind λ a=>some [a]):=by cases o<;>rfl
 rw[e]at a;exact a
theorem la5(h:Sh true x u o):La 4 ("new h("++x++")") (("new":V0)::("h":V0)::rowW (u,o) []) (o.bind λ a=>some (.mk .new (.str "h") [a])):=⟨⟨by
 have a:=WW.brk (p:="new h(") (a:=["new","h","("]) (Z1R 7 qP) h.tx.ww;exact a,by
 simp only[len_app];have:=h.tx.len;have e1:("new h(":V0).length=6:=by decide+kernel
 have e3:(")":V0).length=1:=by decide+kernel
 omega,br_w qP (br_w qP (J1a h))⟩,λ deep hd=>by
  have p:=((J7d nmH.nm (J1b h (deep:=deep+1) (by omega))).q.p (low:=1) (c:=4) (deep:=deep) (by omega) (show(decide (("new":V0)≠"not"/\("new":V0)≠"if"/\("new":V0)≠"let"/\("new":V0)≠"set"))=true by decide+kernel)).mono (J':=10) (by omega) (qa0 4);have e:((o.bind λ a=>some [a]).bind λ ps=>some (Tm.mk .new (.str "h") ps))=(o.bind λ a=>some (.mk .new (.str "h") [a])):=by cases o<;>rfl
  rw[e]at p;exact p,
 λ t ht=>by
  cases o with
  |none=>cases ht
  |some a=>
   cases ht;obtain⟨a1,a2,a3⟩:=h.sz a rfl;exact⟨by rw[szo];omega,by rw[dpo];omega,ok1 trivial a3⟩⟩
theorem la6(h:Sh true x u o):La 4 ("elder.w("++x++")") (("elder":V0)::(".":V0)::("w":V0)::rowW (u,o) []) (o.bind λ a=>some (.mk .elder (.str "w") [a])):=⟨⟨by
 have a:=WW.brk (p:="elder.w(") (a:=["elder",".","w","("]) (Z1R 9 qP) h.tx.ww;exact a,by
 simp only[len_app];have:=h.tx.len;have e1:("elder.w(":V0).length=8:=by decide+kernel
 have e3:(")":V0).length=1:=by decide+kernel
 omega,br_w qP (br_w qP (br_w qP (J1a h)))⟩,λ deep hd=>by
  have p:=((J3c nmW.nm (J1b h (deep:=deep+1) (by omega))).q.p (low:=1) (c:=4) (deep:=deep) (by omega) (show(decide (("elder":V0)≠"not"/\("elder":V0)≠"if"/\("elder":V0)≠"let"/\("elder":V0)≠"set"))=true by decide+kernel)).mono (J':=10) (by omega) (qa0 4);have e:((o.bind λ a=>some [a]).bind λ ps=>some (Tm.mk .elder (.str "w") ps))=(o.bind λ a=>some (.mk .elder (.str "w") [a])):=by cases o<;>rfl
  rw[e]at p;exact p,
 λ t ht=>by
  cases o with
  |none=>cases ht
  |some a=>
   cases ht;obtain⟨a1,a2,a3⟩:=h.sz a rfl;exact⟨by rw[szo];omega,by rw[dpo];omega,ok1 trivial a3⟩⟩
theorem la7(h:Sh true x u o):La 4 ("(("++x++"))") (("(":V0)::((("(":V0)::(u++[(")":V0)]))++[(")":V0)])) o:=by
 have e:("((":V0)++x++"))"="("++("("++x++")")++")":=by
  refine K10.cds_ext ?_;simp only[K10.cds_app];have e1:cds "(("=cds "("++cds "(":=by decide+kernel
  have e2:cds "))"=cds ")"++cds ")":=by decide+kernel
  rw[e1,e2];simp only[qb9]
 refine⟨?_,λ deep hd=>?_,λ t ht=>by obtain⟨a1,a2,a3⟩:=h.sz t ht;exact⟨by omega,by omega,a3⟩⟩
 ·rw[e];exact(h.tx.brk.brk).mono (by omega) (by omega)
 ·exact((Z9F (((Z9F (h.r1 (J:=6) (deep:=deep) (by omega) (by omega)) (by omega)).q.p (low:=1) (c:=1) (by omega) kwB).r) (by omega)).q.p (low:=1) (c:=4) (by omega) kwB).mono (by omega) (qa0 _)
end
structure LE(cl:Nat)(e:El):Prop where
 tx:TO e.1 e.2.1.1 424 4
 va:Va 1 5 cl 11 6 0 e.2.1
 dp:Pdep 10 1 e.2
 sz:Psiz 92 e.2
 od:e.2.2=OD e.2.1.2
theorem le_th{e:El}(h:ThE e):LE 4 e:=by
 have a:=h.va 1 (D:=6) (J:=11) (by omega) (by omega);refine⟨?_,a.mono (qa0 _) (by omega) (qa0 _),h.pdep (by omega),λ t ht=>qa1 (h.psiz t ht) (by omega),?_⟩
 ·obtain⟨t,_,_,g⟩:=h;exact g.tx.mono (by omega) (by omega)
 ·obtain⟨t,e1,e2,g⟩:=h;rw[e1,e2];rfl
theorem le_la{cl:Nat}{x:V0}{u:W}{o:Option Tm}(h:La cl x u o):LE cl (x,((u,o),OD o)):=⟨h.tx.mono (by omega) (by omega),λ least _ deep hd=>((h.pd deep (by omega)).mono (by omega) (qa0 _)).r,⟨by omega,λ t ht=>by obtain⟨a,b,c⟩:=h.sz t ht;exact⟨by omega,by rw[show o=some t from ht];rfl,c⟩⟩,λ t ht=>by obtain⟨a,b,c⟩:=h.sz t ht;omega,rfl⟩
theorem le_not{cl:Nat}{x:V0}{u:W}{t:Tm}(h:La cl x u (some t)):LE cl ("not "++x,(((["not"]:W)++u,some (.mk .nt .non [t])),(Tm.mk .nt .non [t]).dat)):=by
 obtain⟨a,b,c⟩:=h.sz t rfl;exact⟨(TO.pre (p:="not ") (v:=["not"]) (m:=4) (Z1R 5 qP) h.tx qP qP).mono (by omega) (qa0 _),λ least _ deep hd=>(J1i (J:=10) (by omega) (h.pd (deep+1) (by omega))).r,⟨by omega,λ s hs=>by cases hs;exact⟨by rw[dpo];omega,rfl,ok1 rfl c⟩⟩,λ s hs=>by cases hs;rw[szo];omega,rfl⟩
def hd12:W:=["main","(",")","number","="]
def pg12(t:Tm):Pg:=⟨[],⟨"main",[],"number",t⟩⟩
def rp12(o:Option Tm)(n:Nat):Res Pg:=match o with|none=>.bad|some t=>.ok (pg12 t) n
theorem J5Y{u:W}{o:Option Tm}{J:Nat}(h:Rd J 1 1 1 u o 1)(hJ:J<=16)(hb:Br 5 u)(hz:∀t,o=some t->t.depth<=14/\t.size<=400):rProg (hd12++u) 17=rp12 o (5+u.length):=by
 have e0:(hd12++u).drop 0=("main":V0)::("(":V0)::(")":V0)::("number":V0)::("=":V0)::(u++[]):=by rw[qb6];rfl
 generalize hw:hd12++u=ws at e0 ⊢;obtain⟨a0,e1⟩:=sg1 e0;obtain⟨a1,e2⟩:=sg1 e1;obtain⟨a2,e3⟩:=sg1 e2;obtain⟨a3,e4⟩:=sg1 e3;obtain⟨a4,e5⟩:=sg1 e4;have op:opens ws 0=true:=by
  rw[<-hw];have:opens (hd12++u) 0=opens (u++[]) 0:=by rw[qb6];rfl
  rw[this,hb 0 [] (by omega) (by omega)];rfl
 have hr:=h.run (j:=16) hJ e5 (J6V (by omega)) qP;have en:ws.drop (0+1+1+1+1+1+u.length)=[]:=sgA e5;have k1:rKind ws (0+1+1+1)=.ok "number" (0+1+1+1+1):=by unfold rKind;rw[a3,if_pos rfl]
 have l1:rList ws (rPair ws) (0+1)=.ok [] (0+1+1+1):=by
  unfold rList;rw[Z1x e1];show((if ahead ws (0+1+1)=")" then _ else _:Res (List (V0×V0))))=_;rw[if_pos a2]
 have w1:rWord ws 17 "main" (0+1)=(Fin o (0+1+1+1+1+1+u.length)).bind λ t m=>.ok ⟨"main",[],"number",t⟩ m:=by
  unfold rWord;rw[l1];show(if 4<([]:List (V0×V0)).length then(Res.bad:Res Wd)else _)=_;rw[if_neg qQ,k1];show(need ws "=" (0+1+1+1+1)).bind _=_;rw[Z1x e4];show((rd ws 17).T 1 1 1 (0+1+1+1+1+1)).bind _=_;rw[hr]
 unfold rProg;rw[op,if_neg qQ];have h1:rHouses ws 17 (ws.length+1) [] 0=.ok [] 0:=by
  rw[rHouses,if_neg (by rw[a0];decide+kernel)]
 rw[h1];show rRest ws 17 [] 0=_;unfold rRest;rw[if_neg qQ,Z1x e0];show(rWord ws 17 "main" (0+1)).bind _=_;rw[w1];cases o with
 |none=>rfl
 |some t=>
  obtain⟨z1,z2⟩:=hz t rfl;show(if ahead ws (0+1+1+1+1+1+u.length)≠"" then Res.bad else _)=_;rw[if_neg (by rw[ahd,en];exact λ z=>z rfl)];show(if true=false then _ else _)=_;rw[if_neg qQ];have b:bodies ⟨[],⟨"main",[],"number",t⟩⟩=[t]:=rfl;rw[b];rw[if_neg (by simp only[qe6,qh1,qf4,decide_eq_true_eq];omega),if_neg (by rw[sumS,sumS];omega)];rfl
theorem by_len{α:Type}{two:V0->α->α->α}(wh:V0->Bool):∀(ps:List (V0×α))(x:α),(byS two wh x ps).2.length<=ps.length
 |[],x=>qa0 _
 |(s,y)::ps,x=>by
  rw[byS];split
  ·have:=by_len (two:=two) wh ps (two s x y);simp only[qa4];omega
  ·have:=by_len (two:=two) wh ps y;simp only[qa4];omega
def txB(a:V0):List El->V0
 |[]=>a
 |y::r=>txB (a++" ; "++y.1) r
structure ShE(e:El):Prop where
 sh:Sh true e.1 e.2.1.1 e.2.1.2
 od:e.2.2=OD e.2.1.2
theorem main12{cl:Nat}{e last:El}{es init bs:List El}{ss:List V0}(hil:init++[last]=e::es)(hl:ss.length=es.length)(h3:es.length<=3)(hs:∀s∈ss,s∈sgs)(hin:∀q∈init,ThE q)(hla:LE cl last)(hcl:cl<=4)(h1:1<=cl)(hb:bs.length<=1)(hb2:bs≠[]->1<cl)(hbs:∀S∈bs,ShE S):∃u o,WW ("main() number = "++txB (txF e.1 (ss.zip (es.map Prod.fst))) bs) (hd12++u)/\("main() number = "++txB (txF e.1 (ss.zip (es.map Prod.fst))) bs).length<=6000/\rProg (hd12++u) 17=rp12 o (5+u.length)/\(∀t,o=some t->Ok t/\t.depth<=14/\t.size<=400)/\(Som last.2->(∀S∈bs,Som S.2)->dueD e.2.2 (ss.zip (es.map λ q=>q.2.2)) (bs.map λ q=>q.2.2)=o.map Tm.dat)/\((¬Som last.2\/∃S∈bs,¬Som S.2)->o=none):=by
 obtain ⟨u,o,g1,g2,g3,g4,g5,g6,g7⟩:=whole (L:=λ l=>l=1) rfl (cl:=cl) (J:=11) (D:=6) (M:=424) (b:=4) (Dd:=10) (Zl:=92) (bs:=bs) hil hl hs hin (by omega) (by omega) (by omega) (by omega) (by omega) (λ low z=>z▸hla.va) hcl hla.tx hla.dp hla.sz hb
  (λ low _ S hS least l1 deep hd=>((hbs S hS).sh.rd low least 1 deep (by omega) (by omega) (λ _=>⟨by omega,l1⟩) (by omega)).mono (by omega) (qa0 _)) hb2
  (λ S hS=>⟨by omega,λ t ht=>by obtain⟨a,b,c⟩:=(hbs S hS).sh.sz t ht;exact⟨by omega,by rw[(hbs S hS).od,ht];rfl,c⟩⟩)
  (λ S hS t ht=>by obtain⟨a,b,c⟩:=(hbs S hS).sh.sz t ht;omega)
 have hz:∀t,o=some t->Ok t/\t.depth<=14/\t.size<=400:=λ t ht=>by
  obtain⟨a,b,c⟩:=g5 t ht;exact⟨c,by omega,by omega⟩
 have tb:TO (txB (txF e.1 (ss.zip (es.map Prod.fst))) bs) (u++bw (bs.map λ q=>q.2.1)) 2500 4:=by
  have g1:=g1.mono (n':=1800) (b':=4) (by have:=Nat.mul_le_mul_right (3+424) h3;omega) (qa0 _);rcases bs with _|⟨S,q⟩
  ·show TO (txF e.1 (ss.zip (es.map Prod.fst))) (u++[]) 2500 4;rw[qb6];exact g1.mono (by omega) (qa0 _)
  ·obtain rfl:q=[]:=by
    simp only[qa4]at hb;exact qf6 (by omega)
   have c:=TO.mid (m:=" ; ") (v:=[";"]) (k':=3) g1 (J1x (y:="; ") qP) (Z1R 4 qP) ((hbs S qa6).sh.tx.mono (qa0 _) (by omega)) qP qP qP;have c:=c.mono (n':=2500) (b':=4) (by omega) (qa0 _);show TO _ (u++(";":V0)::(S.2.1.1++[])) 2500 4;rw[qb6];exact c
 refine⟨u++bw (bs.map λ q=>q.2.1),o,?_,?_,?_,hz,g6,g7⟩
 ·exact Z1R (x:="main() number = ") (u:=hd12) 17 qP _ _ tb.ww
 ·rw[len_app];have:=tb.len;have e:("main() number = ":V0).length=16:=by decide+kernel
  omega
 ·exact J5Y (g4 1 1 1 1 rfl (by omega) h1 (by omega) (λ _=>⟨by omega,by omega⟩) (by omega)) (by omega) (tb.br.mono (by omega)) λ t ht=>(hz t ht).2
end RR
end
section
namespace L2
open PySem PySem.Spec PyProof.Rows PySem.SeqAt
def TN(K:y0)(H:Hp)(x:V):Prop:=x=.non\/∃a ys,x=.ref a/\SqT K H a ys
def hasN(xs:List V):Bool:=xs.any λ x=>decide (x=.non)
inductive InN(K:y0)(neg:Bool)(x y:V)(H:Hp)(Q:VK):Prop
 |mk(p:X0)(xs:List V)(e:x=.non)(ey:y=.ref p)(hs:SqL K H p xs\/SqT K H p xs)(ht:∀z∈xs,TN K H z)(q:Q (.bl (if neg then !hasN xs else hasN xs)) H):InN K neg x y H Q
def rInN(K:y0)(neg:Bool):R2:=λ x y H Q=>InN K neg x y H Q
theorem J8v{K:y0}{neg:Bool}{x y:V}{H:Hp}{Q:VK}:rInN K neg x y H Q=InN K neg x y H Q:=rfl
section
variable{X:Cx}
theorem Z2n{pins:List (X0×Obj)}{s:U0}{σ:St}{H:Hp}(I:Inv X pins σ H s)(hu:X.A.units+64<cLine):∀{xs:List V}{its:List Z0},Vals xs its->(∀z∈xs,TN X.K H z)->∀w∈its,EqAt X.A.in1 s w .none (decide (w=.none))
 |_,_,.nil,_,w,hw=>(qa9 hw).elim
 |x::xs,v::its,.cons r rs,h,w,hw=>by
  rcases qa2.mp hw with rfl|hw
  ·rcases h x qa6 with rfl|⟨a,ys,rfl,hq⟩
   ·cases r;have:=EqAt.same (A:=X.A.in1) (s:=s) Value.none;simpa using this
   ·cases r;obtain⟨is,_,pl,_⟩:=I.tuple hq;have:=EqAt.tuple_none (A:=X.A.in1) pl (by show X.A.units+1<cLine;omega);simpa using this
  ·exact Z2n I hu rs (λ z hz=>h z (qa8 _ hz)) w hw
theorem Z3v{K:y0}{H:Hp}:∀{xs:List V}{its:List Z0},Vals xs its->(∀z∈xs,TN K H z)->its.any (λ w=>decide (w=.none))=hasN xs
 |_,_,.nil,_=>rfl
 |x::xs,v::its,.cons r rs,h=>by
  show(decide (v=.none)||its.any _)=(decide (x=.non)||hasN xs);rw[Z3v rs λ z hz=>h z (qa8 _ hz)];rcases h x qa6 with rfl|⟨a,ys,rfl,hq⟩
  ·cases r;simp
  ·cases r;simp
theorem Z6y(hu:X.A.units+64<cLine):OpR X (compareOp .In) (rInN X.K false):=by
 intro pins s σ H x y v u Q I rx ry h;obtain⟨p,xs,rfl,rfl,hq,ht,q⟩:=h;cases ry;cases rx;rcases hq with hq|hq
 ·obtain⟨its,r,pl,hz⟩:=I.list hq;refine SeqAt.in_listAt (λ w=>decide (w=.none)) pl.isList (λ w hw=>Z2n I hu r ht w (by simpa using hw)) ⟨.bl _,H,I,rfl,?_⟩;rw[show its.toArray.any (λ w=>decide (w=.none))=its.any (λ w=>decide (w=.none))by simp,Z3v r ht];exact q
 ·obtain⟨its,r,pl,hz⟩:=I.tuple hq;refine SeqAt.in_tupleAt (λ w=>decide (w=.none)) pl (λ w hw=>Z2n I hu r ht w (by simpa using hw)) ⟨.bl _,H,I,rfl,?_⟩;rw[show its.toArray.any (λ w=>decide (w=.none))=its.any (λ w=>decide (w=.none))by simp,Z3v r ht];exact q
theorem J0c(hu:X.A.units+64<cLine):OpR X (compareOp .NotIn) (rInN X.K true):=by
 intro pins s σ H x y v u Q I rx ry h;obtain⟨p,xs,rfl,rfl,hq,ht,q⟩:=h;cases ry;cases rx;rcases hq with hq|hq
 ·obtain⟨its,r,pl,hz⟩:=I.list hq;refine SeqAt.notIn_listAt (λ w=>decide (w=.none)) pl.isList (λ w hw=>Z2n I hu r ht w (by simpa using hw)) ⟨.bl _,H,I,rfl,?_⟩;rw[show its.toArray.any (λ w=>decide (w=.none))=its.any (λ w=>decide (w=.none))by simp,Z3v r ht];exact q
 ·obtain⟨its,r,pl,hz⟩:=I.tuple hq;refine SeqAt.notIn_tupleAt (λ w=>decide (w=.none)) pl (λ w hw=>Z2n I hu r ht w (by simpa using hw)) ⟨.bl _,H,I,rfl,?_⟩;rw[show its.toArray.any (λ w=>decide (w=.none))=its.any (λ w=>decide (w=.none))by simp,Z3v r ht];exact q
def J1j:V->List V->Hp->VK->Prop:=λ x vs H Q=>∃a b,x=.str a/\vs=[.str b]/\Q (.bl (Txt.startswith a b)) H
theorem J5E{x:V}{vs:List V}{H:Hp}{Q:VK}:J1j x vs H Q=∃a b,x=.str a/\vs=[.str b]/\Q (.bl (Txt.startswith a b)) H:=rfl
theorem Z5d:MtR X "str.startswith" J1j:=by
 intro pins s σ H x xs v us Q I rx rv h;obtain⟨a,b,rfl,rfl,q⟩:=h;obtain⟨t,rfl⟩:=rx;obtain⟨u,rfl,ru⟩:=rv.one;obtain⟨t',rfl⟩:=ru;exact SC.startswith ⟨.bl _,H,I,rfl,q⟩
end
theorem Z5P{K:y0}{a b:X0}{g:TG}{tb:TS}{D:Ends}{σ:St}{H:Hp}(xs ys:List V)(hxy:xs.length=ys.length)(Pv:Nat->St->Hp->Prop)(h0:Pv 0 σ H)(hl:∀i σ H,i<=xs.length->Pv i σ H->SqL K H a xs/\SqL K H b ys)(hs:∀i x y t σ H,xs[i]?=some x->ys[i]?=some y->H t=none->Pv i σ H->g (.ref t) σ (upd H t (.tup [x,y])) λ σ2 H2=>tb {D with nx:=Pv (i+1),ct:=Pv (i+1),bk:=D.nx} σ2 H2)(hd:∀σ H,Pv xs.length σ H->D.nx σ H):Z9q (Itz K a b) g tb D σ H:=by
 refine⟨λ i m σ H=>m=xs.length-i/\i<=xs.length/\Pv i σ H,⟨xs.length,by simp,qb4 _,h0⟩,?_⟩;rintro i m σ H ⟨rfl,hi,p⟩;obtain⟨q1,q2⟩:=hl i σ H hi p;by_cases hlt:i<xs.length
 ·refine .inr ⟨⟨xs,ys,xs[i],ys[i]'(by omega),q1,q2,qb5 hlt,qb5 (by omega)⟩,Pv (i+1),λ σ' H' p'=>⟨xs.length-(i+1),by omega,rfl,hlt,p'⟩,λ x H' y=>?_⟩;obtain⟨t,x',y',e,ht,e2,ex,ey⟩:=y;subst e e2;exact hs i x' y' t σ _ (ex xs q1) (ey ys q2) ht p
 ·have e:i=xs.length:=by omega
  subst e;exact .inl ⟨⟨xs,ys,q1,q2,.inl (qa0 _)⟩,hd σ H p⟩
open TM
inductive Pl:PyData->Prop
 |non:Pl .none
 |bl(b:Bool):Pl (.bool b)
 |int(i:Int):Pl (.int i)
 |str(x:V0):Pl (.str x)
 |tup{ds:List PyData}:(∀d∈ds,Pl d)->Pl (.tuple ds)
theorem Z2Z{h:N0}:∀{vs:List Z0}{ds:List PyData}{as:List X0},ReadsAll h vs ds as->∀(j:Nat)(hj:j<vs.length),∃d as',ds[j]?=some d/\Reads h vs[j] d as'
 |_,_,_,.nil,j,hj=>absurd hj (Nat.not_lt_zero _)
 |_,_,_,.cons r rs,0,_=>⟨_,_,rfl,r⟩
 |_,_,_,.cons r rs,j+1,hj=>Z2Z rs j (Nat.lt_of_succ_lt_succ hj)
theorem Z5T:∀{ds:List PyData}{d:PyData},d∈ds->d.depth<=PyData.depthAll ds
 |x::xs,d,h=>by
  show _<=max x.depth (PyData.depthAll xs);rcases qa2.mp h with z|z
  ·rw[z];omega
  ·have:=Z5T z;omega
theorem J4g{ds:List PyData}{A:O0}{s:U0}{l l':X0}{as bs:List X0}(ra:Reads s.heap (.ref l) (.tuple ds) as)(rb:Reads s.heap (.ref l') (.tuple ds) bs)(hu:A.units<cLine)(he:∀d∈ds,∀{a b:Z0}{as bs:List X0},Reads s.heap a d as->Reads s.heap b d bs->EqAt A.in1 s a b true):RcAt A s (.ref l) (.ref l') true:=by
 cases ra with
 |@tuple _ o vs n _ as₁ h1 h2 h3 h4=>
  cases rb with
  |@tuple _ o' vs' n' _ bs₁ k1 k2 k3 k4=>
   have n1:vs.size=ds.length:=by simpa using ReadsAll.length _ _ _ h4
   have n2:vs'.size=ds.length:=by simpa using ReadsAll.length _ _ _ k4
   have r:=RcAt.tuples (A:=A) (s:=s) (e:=λ _=>true) (l:=l) (b:=l') (items:=vs) (items2:=vs') ⟨_,h1,h2,_,h3⟩ ⟨_,k1,k2,_,k3⟩ hu λ j j1 j2=>by
    obtain⟨d,as',hd,r1⟩:=Z2Z h4 j (by simpa using j1);obtain⟨d',bs',hd',r2⟩:=Z2Z k4 j (by simpa using j2);rw[hd]at hd';cases hd';have:=he d (qe2 hd) r1 r2;simpa using this
   have e:((qd7 (min vs.size vs'.size)).all (λ _=>true)&&vs.size==vs'.size)=true:=by
    rw[n1,n2];simp
   rw[e]at r;exact r
theorem J1M{d:PyData}(h:Pl d):∀{A:O0}{s:U0}{a b:Z0}{as bs:List X0},Reads s.heap a d as->Reads s.heap b d bs->A.units+d.depth<cLine->EqAt A s a b true:=by
 induction h with
 |non=>intro A s a b as bs ra rb _;cases ra;cases rb;exact EqAt.same _
 |bl c=>
  intro A s a b as bs ra rb _;cases ra;cases rb;exact EqAt.same _
 |int i=>
  intro A s a b as bs ra rb _;cases ra;cases rb;rename_i t u;have:=EqAt.int_int (A:=A) (s:=s) i t i u;rw[beq_self_eq_true]at this;exact this
 |str x=>
  intro A s a b as bs ra rb _;cases ra;cases rb;rename_i t u;have:=EqAt.str_str (A:=A) (s:=s) x t x u;rw[beq_self_eq_true]at this;exact this
 |@tup ds hd ih=>
  intro A s a b as bs ra rb hu;have hu:A.units+(PyData.depthAll ds+1)<cLine:=hu;obtain⟨l,rfl⟩:∃l,a=.ref l:=by cases ra;exact⟨_,rfl⟩
  obtain⟨l',rfl⟩:∃l,b=.ref l:=by cases rb;exact⟨_,rfl⟩
  by_cases hll:l=l'
  ·subst hll;exact EqAt.same _
  ·refine EqAt.of_refs hll (J4g ra rb (by omega) λ d hd' {a b as bs} r1 r2=>ih d hd' r1 r2 ?_);have:=Z5T hd';show A.units+1+d.depth<cLine;omega
def rEqP(K:y0):R2:=λ x y H Q=>∃(ds:List PyData),RT K H x (.tuple ds)/\RT K H y (.tuple ds)/\Pl (.tuple ds)/\PyData.depth (.tuple ds)<=60/\Q (.bl true) H
theorem J8G{K:y0}{x y:V}{H:Hp}{Q:VK}:rEqP K x y H Q=∃(ds:List PyData),RT K H x (.tuple ds)/\RT K H y (.tuple ds)/\Pl (.tuple ds)/\PyData.depth (.tuple ds)<=60/\Q (.bl true) H:=rfl
theorem J5X{X:Cx}(hu:X.A.units+64<cLine):OpR X (compareOp .Eq) (rEqP X.K):=by
 intro pins s σ H x y v u Q I rx ry h;obtain⟨ds,hd,he,pl,dp,q⟩:=h;obtain⟨as,ra⟩:=RdD.reads I hd.rd rx;obtain⟨bs,rb⟩:=RdD.reads I he.rd ry;have dp:PyData.depthAll ds+1<=60:=dp;obtain⟨l,rfl⟩:∃l,v=.ref l:=by cases ra;exact⟨_,rfl⟩
 obtain⟨l',rfl⟩:∃l,u=.ref l:=by cases rb;exact⟨_,rfl⟩
 have plds:∀d∈ds,Pl d:=by cases pl with|tup h=>exact h
 refine J4g ra rb (by omega) (λ d hd' {a b as bs} r1 r2=>J1M (plds d hd') r1 r2 ?_) X.prog X.w _ _ ⟨.bl true,H,I,rfl,q⟩;have:=Z5T hd';show X.A.units+1+d.depth<cLine;omega
structure PD(n:Nat)(d:PyData):Prop where
 p:Pl d
 d:d.depth<=n
theorem PD.mono{n m:Nat}{d:PyData}(h:PD n d)(l:n<=m):PD m d:=⟨h.p,qa1 h.d l⟩
theorem PD.str{n:Nat}{x:V0}:PD n (.str x):=⟨.str x,qb4 _⟩
theorem Z3W{n:Nat}:∀{ds:List PyData},(∀d∈ds,d.depth<=n)->PyData.depthAll ds<=n
 |[],_=>qb4 _
 |d::ds,h=>Nat.max_le.mpr ⟨h d qa6,Z3W λ e he=>h e (qa8 _ he)⟩
theorem PD.tup{n:Nat}{ds:List PyData}(h:∀d∈ds,PD n d):PD (n+1) (.tuple ds):=
 ⟨.tup λ d hd=>(h d hd).p,qi2 (Z3W λ d hd=>(h d hd).d)⟩
open PySem.XF PySem.XO
def J8q(K:y0)(B:X0)(tb:(St->XK)->TS)(ts:X0->TS):TS:=λ D σ H=>∃E:St->XK,tb E D σ H/\
 ∀σ' a C ed H',σ'.length=σ.length->E σ' (.ref C) ed H'->H' a=some (excO a C ed)->(∃ini,xIn K C ini=true)/\W.mroIn K C (.ref B)=some true/\ts a D σ' H'
section
variable{X:Cx}{B:X0}{b:V0}{p hpos pos:Pos}{body suite:List Stmt}{b0:Stmt}{tb:(St->XK)->TS}{ts:X0->TS}
theorem J4t(hs:X.stack=X.env::X.outer)(hf:X.env.frame=some X.env.locals)(hB:xIn X.K B none=true)(hg:Gl X b)(hm:X.mg b=some (.ref B))(hb:∀(l:List (X0×Obj))(E:St->XK),PSs ((X.pinned l).wish (Raised (X.pinned l) E)) body (tb E))(hsu:∀a,PSs (X.held (.ref a)).nox (b0::suite) (ts a))(hd:(b==("__debug__":V0))=false:=by decide):PS X (.Try body [.ExceptHandler (some (.Name b p)) none (b0::suite) hpos] [] [] pos) (J8q X.K B tb ts):=by
 intro pins s σ H D I h;obtain⟨E,h1,h2⟩:=h;have ok:=I.ok;refine wpAny_Try_except (wpAny_mono (hb (X.pn++pins) E [] s σ H D ((I.borne).wish _) h1) (λ f s1 q=>?_) λ e s1 q=>?_)
 ·cases f with
  |next=>obtain⟨σ',H',I',q⟩:=q;exact wpAny_execs_nil ⟨σ',H',I'.unwish.unborne ok,q⟩
  |brk=>obtain⟨σ',H',I',q⟩:=q;exact⟨σ',H',I'.unwish.unborne ok,q⟩
  |cont=>obtain⟨σ',H',I',q⟩:=q;exact⟨σ',H',I'.unwish.unborne ok,q⟩
  |ret u=>obtain⟨v,σ',H',I',r,q⟩:=q;exact⟨v,σ',H',I'.unwish.unborne ok,r,q⟩
 obtain⟨a,C,ed,σ',H',rfl,I1,F1,q⟩:=q;have hx:H' a=some (excO a C ed):=by rcases F1 with F|F|F<;>exact F.1
 obtain⟨⟨ini,xC⟩,hsub,h3⟩:=h2 σ' a C ed H' (I1.len.trans I.len.symm) q hx;refine Z5x (X:=X.pinned (X.pn++pins)) I1 rfl hs hf F1 λ s2 I2 F2=>Z2J (X:=X.pinned (X.pn++pins)) I2 F2 λ s3 I3 F3=>?_;refine wpAny_handleBy_cons (codeAny_handlers_test (Z2B (X:=(X.pinned (X.pn++pins)).held (.ref a)) (I3.held (.ref a)) hg hm ?_ hd)) (λ z=>nomatch z);obtain⟨nm,qn,N,bs,bm,hdct,sn,sub,ab,col,dd,k0,k1,k2,k3,k5,mN,lC,nN,_,T⟩:=Z3d I3.kIn xC;obtain⟨nm',qn',N',bs',bm',hdct',sn',sub',ab',col',dd',k0',k1',k2',k3',k5',mN',lB,nN',_,T'⟩:=Z3d I3.kIn hB;obtain⟨vs,sl,ea⟩:=I3.anExc hx;have hs3:(Value.ref C::bm).contains (.ref B)=true:=by
  unfold W.mroIn W.clsIn at hsub;rw[show X.K.lookup C=_ from lC]at hsub;simpa using hsub
 obtain⟨hp,g,d,tk,os⟩:=s3;refine Z7H (h:=hp) (I3.kIn _ _ lC) ea rfl (I3.kIn _ _ lB) (Z4a T') hs3 ?_;refine codeAny_handlers_suite (Z2J (X:=X.pinned (X.pn++pins)) I3 F3 λ s4 I4 F4=>?_);have I6:Inv (X.held (.ref a)).nox pins σ' H' s4:=(((I4.unborne (X:=X) ok).held (.ref a))).wish _;refine wpAny_mono (hsu a pins s4 _ H' _ I6 h3) (λ f s6 z=>?_) λ _ _ z=>z.elim;cases f with
 |next=>
  obtain⟨σ2,H2,J,z⟩:=z;exact⟨_,H2,J.unwish.unheld (X:=X) ok,z⟩
 |brk=>
  obtain⟨σ2,H2,J,z⟩:=z;exact⟨_,H2,J.unwish.unheld (X:=X) ok,z⟩
 |cont=>
  obtain⟨σ2,H2,J,z⟩:=z;exact⟨_,H2,J.unwish.unheld (X:=X) ok,z⟩
 |ret u=>
  obtain⟨v,σ2,H2,J,r,z⟩:=z;exact⟨v,_,H2,J.unwish.unheld (X:=X) ok,r,z⟩
end
def J3G(sp:Sp)(E:St->XK)(t:TA):TE:=λ σ H Q=>t σ H λ vs H1=>sp (vs++[]) H1 Q (E σ)
theorem J5S{sp:Sp}{E:St->XK}{t:TA}{σ:St}{H:Hp}{Q:VK}:J3G sp E t σ H Q=t σ H λ vs H1=>sp (vs++[]) H1 Q (E σ):=rfl
section
variable{X:Cx}{CX:CXT}{k:Nat}{f:X0}{fd:FuncData}{ps:List V0}{sp:Sp}{x:V0}{p pos:Pos}{e:Expr}{es:List Expr}{t:TA}
theorem J5j{pins:List (X0×Obj)}{σ:St}{H:Hp}{s:U0}{Q:VK}{us:List Z0}{vs:List V}{E:XK}(F:FnOk X.prog X.w X.K X.mg X.base CX k f fd ps sp)(hr:Room k X.A)(hb:Binds X.K fd ps [])(hx:∀e s',CX X.stack H s E e s'->X.xe e s')(I:Inv X pins σ H s)(r:Vals vs us)(h:sp (vs++[]) H Q E):wpAny (model X.prog X.w) X.A (call (.ref f) us) (EP X pins σ Q) X.xe s:=by
 have q2:Vals (vs++[]) (us++[]):=r.append .nil;have ql:(us++[]).length=ps.length:=by rw[<-q2.length];exact F.len _ _ _ _ h
 refine wpAny_call (codeAny_mono (F.run X.A X.stack s H ⟨us,[]⟩ (us++[]) (vs++[]) Q E hr I.env0 (hb s us I.kIn ql) q2 h) λ z s' hq=>?_);match z,hq with
 | .error e,hq=>exact hx e s' hq
 | .ok (.ret u),hq=>exact I.after hq
 | .ok .next,hq=>exact hq.elim
 | .ok .brk,hq=>exact hq.elim
 | .ok .cont,hq=>exact hq.elim
theorem J1Z{E:St->XK}(F:FnOk X.prog X.w X.K X.mg X.base (CXe X.prog X.w) k f fd ps sp)(hr:Room k X.A)(hg:Gl X x)(hm:X.mg x=some (.ref f))(hk:W.keepIn X.K (.ref f)=true)(hb:Binds X.K fd ps [])(ha:PA (X.wish (Raised X E)) (e::es) t)(hdb:(x==("__debug__":V0))=false:=by decide)(he:starEach (e::es) X.env=(false,eval e X.env)::starEach es X.env:=by rfl)(hpl:(backTo pos (starEach es X.env)).any (·.1)=false:=by rfl):PE (X.wish (Raised X E)) (.Call (.Name x p) (e::es) [] pos) (J3G sp E t):=by
 intro pins s σ H Q I h;refine wpAny_Call_Name_kw (Z2B I hg hm ?_ hdb);refine W.callWith_K (h₀:=X.base) I.ok.mod.kin hk (thn (ha pos pins s σ H _ I h) λ us s1 ⟨vs,H1,I1,r,q⟩=>⟨I1.kIn,?_⟩) he hpl;exact J5j (X:=X.wish (Raised X E)) (CX:=CXe X.prog X.w) F hr hb (λ e s' c=>Z6B I1.unwish c λ _ _ _ q=>q) I1 r q
end
theorem J4F{K:y0}{a:X0}{o:Obj}{h:N0}(X:W.Frag.In ((a,o)::K) h)(n:K.lookup a=none):K.In h/\h.get? a=some o:=by
 refine⟨λ b u e=>X b u ?_,X a o ?_⟩
 ·rw[qc2];have:(b==a)=false:=beq_false_of_ne λ z=>by rw[z,n]at e;cases e
  rw[this];exact e
 ·rw[qc2,beq_self_eq_true]
theorem J2F{P:Program}{w:M0}{K:y0}{mg:V0->Option Z0}{fa:X0}{k:Nat}{x:V0}{st:Stmt}{sp:Sp}(F:Fn K mg "law" st)(hfa:mg "law"=some (.ref fa))(hb:∀(kV doc pm:Z0)(an:Option X0)(cdv ct u:Z0),bindArgs (W.fnOf "law" "law" (Z0O st) (Z0y st) (Z0d st) .none kV doc pm an cdv ct) ⟨[u],[]⟩=pure [(x,u)])(ok:∀(f:X0)(fd:FuncData)(base:N0),K.In base->BAt mg base->Fun K "law" "law" st f fd->FnOk P w K mg base CX0 k f fd [x] sp):∃fd:FuncData,(∀(s:U0)(u:Z0),BindsTo s fd ⟨[u],[]⟩ [(x,u)])/\∀base:N0,K.In base->base.Ns mainGlobals mg->BAt mg base->FnOk P w K mg base CX0 k fa fd [x] sp:=by
 obtain⟨f,fd,F,m⟩:=F.ex;cases hfa.symm.trans m;have F':=F;obtain⟨oc,od,kV,doc,pm,an,cdv,ct,osl,rfl,lk,hcd⟩:=F.ex;exact⟨_,λ s u=>.of_eq (hb kV doc pm an cdv ct u),λ base hK _ hB=>ok _ _ base hK hB F'⟩
end L2
end
section
open PySem L2 TM WK
section
namespace K12
open PySem L2 TM WK
open P15 (Lb Fm Tm dats Z0L okF Ok maxD sumS flatR Bld)
open PW (Wd Hs Pg IxAt Look Z1b Z1c Flds Z1s)
seal L2.PE L2.PA L2.PT L2.PS L2.PSs L2.PG L2.PGs L2.PI L2.PW
theorem Z7r:Z0j ["form","label","parts"] ["form","label","parts"] (Z0d Z2P):=⟨rfl,rfl,rfl,qP,rfl,qP,qP⟩
theorem Z7M:Z0j ["pairs"] ["pairs"] (Z0d Z2Q):=⟨rfl,rfl,rfl,qP,rfl,qP,qP⟩
theorem O0U:Z0j ["text","row","guest","all_houses","main","program"] ["text"] (Z0d Z8x):=⟨rfl,rfl,rfl,qP,rfl,qP,qP⟩
theorem O0f:Z0j ["row","still_open","word"] ["row"] (Z0d Z1p):=⟨rfl,rfl,rfl,qP,rfl,qP,qP⟩
theorem Z7E:Z0j ["found","most"] ["found","most"] (Z0d Z2U):=⟨rfl,rfl,rfl,qP,rfl,qP,qP⟩
theorem Z4G:Z0j ["program"] ["program"] (Z0d Z1L):=⟨rfl,rfl,rfl,qP,rfl,qP,qP⟩
theorem O0k:Z0j ["guest","name","elder","own_fields","own_words"] ["guest"] (Z0d Z2b):=⟨rfl,rfl,rfl,qP,rfl,qP,qP⟩
theorem O0C:Z0j ["guest","name","params","kind"] ["guest","name"] (Z0d Z2p):=⟨rfl,rfl,rfl,qP,rfl,qP,qP⟩
theorem O0X:Z0j ["guest","name"] ["guest"] (Z0d Z2z):=⟨rfl,rfl,rfl,qP,rfl,qP,qP⟩
theorem Z6P:Z0j ["guest"] ["guest"] (Z0d Z2r):=⟨rfl,rfl,rfl,qP,rfl,qP,qP⟩
theorem O0Y:Z0j ["guest","read_item","found"] ["guest","read_item"] (Z0d Z2w):=⟨rfl,rfl,rfl,qP,rfl,qP,qP⟩
theorem O0S:Z0j ["guest","deep","found"] ["guest","deep"] (Z0d Z0B):=⟨rfl,rfl,rfl,qP,rfl,qP,qP⟩
theorem O0g:Z0j ["guest","least","lowest","deep","term","sign","right"] ["guest","least","lowest","deep"] (Z0d Z2D):=⟨rfl,rfl,rfl,qP,rfl,qP,qP⟩
theorem Z3H:Z0j ["guest","lowest","deep"] ["guest","lowest","deep"] (Z0d Z2C):=⟨rfl,rfl,rfl,qP,rfl,qP,qP⟩
theorem O0D:Z0j ["guest","deep","asked","wanted","other"] ["guest","deep"] (Z0d Z3k):=⟨rfl,rfl,rfl,qP,rfl,qP,qP⟩
theorem O0F:Z0j ["guest","lowest","deep","name","first"] ["guest","lowest","deep"] (Z0d Z2R):=⟨rfl,rfl,rfl,qP,rfl,qP,qP⟩
theorem O0G:Z0j ["guest","deep","field","value"] ["guest","deep"] (Z0d Z2O):=⟨rfl,rfl,rfl,qP,rfl,qP,qP⟩
theorem O0h:Z0j ["guest","deep","term","name"] ["guest","deep"] (Z0d Z1A):=⟨rfl,rfl,rfl,qP,rfl,qP,qP⟩
theorem O0s:Z0j ["guest","deep","word","name","term"] ["guest","deep"] (Z0d Z2S):=⟨rfl,rfl,rfl,qP,rfl,qP,qP⟩
theorem Z4s:Z0j ["_law_script","_law_k"] ["_law_script","_law_k"] (Z0d Z1z):=⟨rfl,rfl,rfl,qP,rfl,qP,qP⟩
theorem Z5M:Z0j ["_law_cell","_law_k"] ["_law_cell","_law_k"] (Z0d Z1X):=⟨rfl,rfl,rfl,qP,rfl,qP,qP⟩
theorem O0e:Z0j ["_law_cell","_law_name","_law_text_here","_law_tree","_law_k","_law_more"] ["_law_cell"] (Z0d Z2d):=⟨rfl,rfl,rfl,qP,rfl,qP,qP⟩
theorem O0E:Z0j ["_law_things","_law_signs","_law_which","_law_some","_law_left","_law_sign","_law_thing_here"] ["_law_things","_law_signs","_law_which"] (Z0d Z3s):=⟨rfl,rfl,rfl,qP,rfl,qP,qP⟩
theorem O0b:Z0j ["_law_things","_law_signs","_law_found","_law_is_met","_law_sign","_law_thing_here"] ["_law_things","_law_signs"] (Z0d Z1J):=⟨rfl,rfl,rfl,qP,rfl,qP,qP⟩
theorem O0o:Z0j ["_law_trees","_law_found","_law_tree"] ["_law_trees"] (Z0d Z1Q):=⟨rfl,rfl,rfl,qP,rfl,qP,qP⟩
theorem O0H:Z0j ["_law_cells","_law_menu","_law_things","_law_signs"] ["_law_cells","_law_menu"] (Z0d Z2T):=⟨rfl,rfl,rfl,qP,rfl,qP,qP⟩
theorem O0p:Z0j ["_law_things","_law_signs","_law_text_here","_law_sign","_law_thing_here"] ["_law_things","_law_signs"] (Z0d Z2s):=⟨rfl,rfl,rfl,qP,rfl,qP,qP⟩
theorem O0m:Z0j ["_law_script","_law_k","_law_menu","_law_cell","_law_cells","_law_things","_law_signs"] ["_law_script","_law_k","_law_menu"] (Z0d Z2h):=⟨rfl,rfl,rfl,qP,rfl,qP,qP⟩
theorem O0i:Z0j ["_law_script","_law_k","_law_way","_law_text_here","_law_tree","_law_other","_law_more"] ["_law_script","_law_k","_law_way"] (Z0d Z2t):=⟨rfl,rfl,rfl,qP,rfl,qP,qP⟩
theorem O0d:Z0j ["_law_script","_law_way","_law_one","_law_tree","_law_other","_law_more","_law_end","_law_third","_law_text_here","_law_trees","_law_things","_law_thing_here","_law_call"] ["_law_script","_law_way"] (Z0d Z2x):=⟨rfl,rfl,rfl,qP,rfl,qP,qP⟩
theorem O0n:Z0j ["_law_script","_law_many","_law_cells","_law_things","_law_signs","_law_way","_law_behind","_law_last_here","_law_tree","_law_text_here","_law_trees","_law_due","_law_one","_law_found"] ["_law_script"] (Z0d Z9n):=⟨rfl,rfl,rfl,qP,rfl,qP,qP⟩
theorem Z3C:Z0j ["self","all_words"] ["self","all_words"] (Z0d Z1f):=⟨rfl,rfl,rfl,qP,rfl,qP,qP⟩
theorem Z4F:Z0j ["self"] ["self"] (Z0d Z1N):=⟨rfl,rfl,rfl,qP,rfl,qP,qP⟩
theorem Z4k:Z0j ["self"] ["self"] (Z0d Z1y):=⟨rfl,rfl,rfl,qP,rfl,qP,qP⟩
theorem sc_Guest_take:Z0j ["self","word"] ["self"] (Z0d Z2j):=⟨rfl,rfl,rfl,qP,rfl,qP,qP⟩
theorem Z4I:Z0j ["self","word"] ["self","word"] (Z0d Z1P):=⟨rfl,rfl,rfl,qP,rfl,qP,qP⟩
theorem Z5o:Z0j ["self","word"] ["self","word"] (Z0d Z2f):=⟨rfl,rfl,rfl,qP,rfl,qP,qP⟩
theorem Z3r:Z0j ["self"] ["self"] (Z0d Z0Z):=⟨rfl,rfl,rfl,qP,rfl,qP,qP⟩
theorem Z3A:Z0j ["self"] ["self"] (Z0d Z1d):=⟨rfl,rfl,rfl,qP,rfl,qP,qP⟩
theorem Z3O:Z0j ["self","form","label","parts"] ["self","form","label","parts"] (Z0d Z1k):=⟨rfl,rfl,rfl,qP,rfl,qP,qP⟩
theorem Z5f:Z0j ["self"] ["self"] (Z0d Z2i):=⟨rfl,rfl,rfl,qP,rfl,qP,qP⟩
theorem Z5z:Z0j ["self"] ["self"] (Z0d Z2g):=⟨rfl,rfl,rfl,qP,rfl,qP,qP⟩
theorem Z5n:Z0j ["self"] ["self"] (Z0d Z2a):=⟨rfl,rfl,rfl,qP,rfl,qP,qP⟩
theorem Z6q:Z0j ["self"] ["self"] (Z0d Z2y):=⟨rfl,rfl,rfl,qP,rfl,qP,qP⟩
theorem Z3N:Z0j ["self","name","params","kind","body"] ["self","name","params","kind","body"] (Z0d Z1r):=⟨rfl,rfl,rfl,qP,rfl,qP,qP⟩
theorem Z5l:Z0j ["self"] ["self"] (Z0d Z1Z):=⟨rfl,rfl,rfl,qP,rfl,qP,qP⟩
theorem Z3B:Z0j ["self","name","elder","own_fields","own_words"] ["self","name","elder","own_fields","own_words"] (Z0d Z1e):=⟨rfl,rfl,rfl,qP,rfl,qP,qP⟩
theorem sc_House_plain:Z0j ["self","told"] ["self"] (Z0d Z1K):=⟨rfl,rfl,rfl,qP,rfl,qP,qP⟩
theorem Z3b:Z0j ["self","all_houses","main"] ["self","all_houses","main"] (Z0d Z0U):=⟨rfl,rfl,rfl,qP,rfl,qP,qP⟩
theorem sc_Program_plain:Z0j ["self","told"] ["self"] (Z0d Z1l):=⟨rfl,rfl,rfl,qP,rfl,qP,qP⟩
theorem sc_Program_bodies:Z0j ["self","told","house"] ["self"] (Z0d Z1g):=⟨rfl,rfl,rfl,qP,rfl,qP,qP⟩
noncomputable def Z1C:List (Key×V):=[(.inr ";",.int 1),(.inr "<",.int 2),(.inr "=",.int 2),(.inr "+",.int 3),(.inr "-",.int 3),(.inr "*",.int 4),(.inr "/",.int 4)]
noncomputable def Z2I:List (Key×V):=[(.inr "yes",.bl true),(.inr "no",.bl false)]
structure Txt(P:Program)(w:M0)(K:y0)(mg:V0->Option Z0)(C_Guest:X0)(Ct:X0)(Cw:X0)(Ch:X0)(Cp:X0)(C_BadForm:X0)(D_STRENGTHS:X0)(D_TRUTHS:X0)(U_TOLD_WORDS:X0):Prop where
 z_all:mg "all"=none
 z_any:mg "any"=none
 z_int:mg "int"=none
 O1W:mg "isinstance"=none
 z_len:mg "len"=none
 z_list:mg "list"=none
 z_max:mg "max"=none
 O1u:mg "range"=none
 O1D:mg "reversed"=none
 z_str:mg "str"=none
 z_sum:mg "sum"=none
 O0y:mg "tuple"=none
 z_zip:mg "zip"=none
 c_ABOVE_WEAKEST:Cst mg "ABOVE_WEAKEST" (.int 2)
 c_FIGURES:Cst mg "FIGURES" (.str "0123456789")
 c_GAPS:Cst mg "GAPS" (.str " \t\n")
 c_GREAT_LETTERS:Cst mg "GREAT_LETTERS" (.str "ABCDEFGHIJKLMNOPQRSTUVWXYZ")
 c_LONGEST_NAME:Cst mg "LONGEST_NAME" (.int 8)
 c_LONGEST_NUMBER:Cst mg "LONGEST_NUMBER" (.int 9)
 c_LONGEST_TEXT:Cst mg "LONGEST_TEXT" (.int 6000)
 c_MOST_DEEP:Cst mg "MOST_DEEP" (.int 14)
 c_MOST_FIELDS:Cst mg "MOST_FIELDS" (.int 4)
 c_MOST_HOUSES:Cst mg "MOST_HOUSES" (.int 12)
 c_MOST_OPEN:Cst mg "MOST_OPEN" (.int 14)
 c_MOST_PARAMS:Cst mg "MOST_PARAMS" (.int 4)
 c_MOST_SIZE:Cst mg "MOST_SIZE" (.int 400)
 c_MOST_TERMS:Cst mg "MOST_TERMS" (.int 8)
 c_MOST_WORDS:Cst mg "MOST_WORDS" (.int 8)
 c_SIGNS:Cst mg "SIGNS" (.str "(){},.;=+-*/<")
 c_SMALL_LETTERS:Cst mg "SMALL_LETTERS" (.str "abcdefghijklmnopqrstuvwxyz")
 c_WEAKEST:Cst mg "WEAKEST" (.int 1)
 c_STRENGTHS:Cst mg "STRENGTHS" (.ref D_STRENGTHS)
 d_STRENGTHS:Z9D P w K D_STRENGTHS Z1C
 c_TRUTHS:Cst mg "TRUTHS" (.ref D_TRUTHS)
 d_TRUTHS:Z9D P w K D_TRUTHS Z2I
 c_TOLD_WORDS:Cst mg "TOLD_WORDS" (.ref U_TOLD_WORDS)
 t_TOLD_WORDS:UTup K U_TOLD_WORDS [.str "house",.str "of",.str "has",.str "can",.str "main",.str "let",.str "in",.str "if",.str "then",.str "else",.str "new",.str "self",.str "elder",.str "set",.str "not",.str "yes",.str "no",.str "number",.str "truth"]
 O1P:Fn K mg "is_told" O0P
 O1Q:Fn K mg "is_name" O0Q
 O1Y:Fn K mg "words" O1h
 O1R:Fn K mg "word_at" O0R
 O1V:Fn K mg "row_at" O0Z
 O1i:Fn K mg "is_row_sign" O0q
 O1a:Fn K mg "is_number" O0x
 O0T:Fn K mg "is_name_row" O0r
 O1E:Fn K mg "shape_of" Z2P
 O1F:Fn K mg "pairs_of" Z2Q
 f_read:Fn K mg "read" Z8x
 O1b:Fn K mg "need_few_open" Z1p
 O1G:Fn K mg "need_few" Z2U
 O1j:Fn K mg "need_bounds" Z1L
 O1n:Fn K mg "read_house" Z2b
 O1v:Fn K mg "read_word" Z2p
 O0I:Fn K mg "read_pair" Z2z
 O1w:Fn K mg "read_kind" Z2r
 O1x:Fn K mg "read_list" Z2w
 O1X:Fn K mg "read_terms" Z0B
 O1c:Fn K mg "read_term" Z2D
 O1d:Fn K mg "read_part" Z2C
 O1S:Fn K mg "read_if" Z3k
 O1H:Fn K mg "read_let" Z2R
 O1I:Fn K mg "read_set" Z2O
 O1f:Fn K mg "read_pointed" Z1A
 O1J:Fn K mg "read_one" Z2S
 O1g:Fn K mg "_law_cell_at" Z1z
 O1o:Fn K mg "_law_mixed" Z1X
 O1p:Fn K mg "_law_thing" Z2d
 O1T:Fn K mg "_law_by" Z3s
 O1k:Fn K mg "_law_parted" Z1J
 O1l:Fn K mg "_law_folded" Z1Q
 O1K:Fn K mg "_law_row" Z2T
 O1y:Fn K mg "_law_text" Z2s
 O1q:Fn K mg "_law_short" Z2h
 O1z:Fn K mg "_law_tail" Z2t
 O1A:Fn K mg "_law_last" Z2x
 f_law:Fn K mg "law" Z9n
 Guest:Z7v K mg "Guest" C_Guest
 n_Guest_gone:NoAttr K C_Guest "gone"
 n_Guest_row:NoAttr K C_Guest "row"
 Term:Z7v K mg "Term" Ct
 n_Term_deep:NoAttr K Ct "deep"
 n_Term_form:NoAttr K Ct "form"
 n_Term_inner:NoAttr K Ct "inner"
 n_Term_label:NoAttr K Ct "label"
 n_Term_many:NoAttr K Ct "many"
 n_Term_shape:NoAttr K Ct "shape"
 Word:Z7v K mg "Word" Cw
 n_Word_body:NoAttr K Cw "body"
 n_Word_kind:NoAttr K Cw "kind"
 n_Word_name:NoAttr K Cw "name"
 n_Word_params:NoAttr K Cw "params"
 House:Z7v K mg "House" Ch
 n_House_elder:NoAttr K Ch "elder"
 n_House_name:NoAttr K Ch "name"
 n_House_own_fields:NoAttr K Ch "own_fields"
 n_House_own_words:NoAttr K Ch "own_words"
 Program:Z7v K mg "Program" Cp
 n_Program_all_houses:NoAttr K Cp "all_houses"
 n_Program_main:NoAttr K Cp "main"
 x_BadForm:XOk K mg "BadForm" C_BadForm
 m_Guest___init__:MFn K C_Guest "__init__" "Guest.__init__" Z1f
 m_Guest_ahead:MFn K C_Guest "ahead" "Guest.ahead" Z1N
 m_Guest_behind:MFn K C_Guest "behind" "Guest.behind" Z1y
 m_Guest_take:MFn K C_Guest "take" "Guest.take" Z2j
 m_Guest_takes:MFn K C_Guest "takes" "Guest.takes" Z1P
 m_Guest_need:MFn K C_Guest "need" "Guest.need" Z2f
 m_Guest_need_name:MFn K C_Guest "need_name" "Guest.need_name" Z0Z
 m_Guest_need_end:MFn K C_Guest "need_end" "Guest.need_end" Z1d
 m_Term___init__:MFn K Ct "__init__" "Term.__init__" Z1k
 m_Term_plain:MFn K Ct "plain" "Term.plain" Z2i
 m_Term_parts:MFn K Ct "parts" "Term.parts" Z2g
 m_Term_depth:MFn K Ct "depth" "Term.depth" Z2a
 m_Term_size:MFn K Ct "size" "Term.size" Z2y
 m_Word___init__:MFn K Cw "__init__" "Word.__init__" Z1r
 m_Word_plain:MFn K Cw "plain" "Word.plain" Z1Z
 m_House___init__:MFn K Ch "__init__" "House.__init__" Z1e
 m_House_plain:MFn K Ch "plain" "House.plain" Z1K
 m_Program___init__:MFn K Cp "__init__" "Program.__init__" Z0U
 m_Program_plain:MFn K Cp "plain" "Program.plain" Z1l
 m_Program_bodies:MFn K Cp "bodies" "Program.bodies" Z1g
def isA:Fm->Bool| .self| .nt| .iff=>true|_=>false
def isN:Fm->Bool| .new| .elder=>true|_=>false
def isF:Fm->Bool| .field| .set=>true|_=>false
theorem inA(f:Fm):inV (V.str f.s) [V.str (Str.ofString "self"),V.str (Str.ofString "not"),V.str (Str.ofString "if")]=isA f:=by cases f<;>decide+kernel
theorem inN(f:Fm):inV (V.str f.s) [V.str (Str.ofString "new"),V.str (Str.ofString "elder")]=isN f:=by cases f<;>decide+kernel
theorem inF(f:Fm):inV (V.str f.s) [V.str (Str.ofString "field"),V.str (Str.ofString "set")]=isF f:=by cases f<;>decide+kernel
theorem isC(f:Fm):f.s=Str.ofString "call"->f=.call:=by cases f<;>first|exact λ _=>rfl|exact λ h=>absurd h qP
theorem shA{f:Fm}{l:Lb}{ds:List PyData}(h:isA f=true):Z0L f l ds=.str f.s::ds:=by cases f<;>first|rfl|cases h
theorem shN{f:Fm}{l:Lb}{ds:List PyData}(h:isN f=true):Z0L f l ds=[.str f.s,l.d,.tuple ds]:=by cases f<;>first|rfl|cases h
theorem shF{f:Fm}{l:Lb}{d:PyData}{ds:List PyData}(h:isF f=true):Z0L f l (d::ds)=.str f.s::d::l.d::ds:=by cases f<;>first|rfl|cases h
theorem shR{f:Fm}{l:Lb}{ds:List PyData}(h1:¬isA f=true)(h2:¬isN f=true)(h3:¬f=.call)(h4:¬isF f=true):Z0L f l ds=.str f.s::l.d::ds:=by cases f<;>first|rfl|exact absurd rfl h1|exact absurd rfl h2|exact absurd rfl h3|exact absurd rfl h4
theorem J0w{f:Fm}{l:Lb}{ds:List PyData}(h:okF f l ds.length)(c:f=.call\/isF f=true):∃d r,ds=d::r:=by
 cases ds with
 |cons d r=>exact⟨d,r,rfl⟩
 |nil=>
  cases f<;>cases l<;>first|(rcases c with c|c<;>cases c;done)|exact absurd h qQ|cases h
theorem cut1(x:V)(xs:List V):cutV (x::xs) (some 1) none=xs:=by
 rw[show(some (1:Int))=some ((1:Nat):Int)from rfl];unfold cutV;simp[HT.sIx]
inductive Z8S(K:y0)(vs:List V)(H:Hp)(Q:VK):Prop
 |mk(f:Fm)(l:Lb)(p:X0)(us:List V)(ds:List PyData)(a1:vs=[.str f.s,lbV l,.ref p])(a2:SqT K H p us)(a3:RTs K H us ds)(a4:okF f l ds.length)(a5:ds.length<=20000)(a6:∀r ws H',Same H H'->SqT K H' r ws->RTs K H' ws (Z0L f l ds)->Q (.ref r) H'):Z8S K vs H Q
def Z8q(K:y0):Sp:=λ vs H Q _=>Z8S K vs H Q
theorem J2k(T:Txt P w K mg C_Guest Ct Cw Ch Cp C_BadForm D_STRENGTHS D_TRUTHS U_TOLD_WORDS):Has P w K mg base 1 "shape_of" ["form","label","parts"] (Z8q K):=by
 refine Has.of T.O1E Z7r (λ _ _ _ _ _ _ us hl=>el3 us hl λ _ _ _=>rfl) (λ vs H Q E h=>?_) (λ f cdv A outer s H vs Q E hr h=>?_)
 ·obtain⟨f,l,p,us,ds,rfl,_⟩:=h;rfl
 obtain⟨f,l,p,us,ds,rfl,hp,hu,hok,hl,q⟩:=h;refine⟨_,(Z0a (Z0s (Z1a (r:=rIn K false) Z1W (pvF 0) (Z0l (qK Z0c Z0c Z0c)) (by with_unfolding_all rfl)) (Z0b (Z0k (Z0n (r:=J2v K) Z7Q (Z0l (qI (pvF 0))) (pvF 2)))) Z0m) (Z0a (Z0s (Z1a (r:=rIn K false) Z1W (pvF 0) (Z0l (qJ Z0c Z0c)) (by with_unfolding_all rfl)) (Z0b (Z0k (Z0l (qK (pvF 0) (pvF 1) (pvF 2))))) Z0m) (Z0a (Z0s (qM Z1t (pvF 0) Z0c) (Z0b (Z0k (Z0l (Z0o (pvF 0) (qK (qA K 2) (pvF 1) (Z1Y (r:=rSlA K) J0T (pvF 2) (Z2A Z0f) Z2W)))))) Z0m) (Z0a (Z0s (Z1a (r:=rIn K false) Z1W (pvF 0) (Z0l (qJ Z0c Z0c)) (by with_unfolding_all rfl)) (Z0b (Z0k (Z0n (r:=J2v K) Z7Q (Z0l (qK (pvF 0) (qA K 2) (pvF 1))) (Z1Y (r:=rSlA K) J0T (pvF 2) (Z2A Z0f) Z2W)))) Z0m) (Z0b (Z0k (Z0n (r:=J2v K) Z7Q (Z0l (qJ (pvF 0) (pvF 1))) (pvF 2)))))))),?_⟩;walk_at "r";have hus:us.length<=20000:=by rw[hu.length];exact hl
 refine New.of λ p1 H1 h1 s1 e1=>?_;refine⟨_,.inr (SqT.of e1),rfl,rfl,?_⟩;rw[inA];refine ite2 (λ c=>?_) (λ cA=>?_)
 ·skip
  refine New.of λ p2 H2 h2 s2 e2=>?_;have S:=s1.trans s2;refine⟨_,_,_,_,rfl,rfl,SqT.of e2,hp.same S,by rw[sizeLine_eq];show 1+us.length<=_;omega,λ r H' s' hr=>q r _ H' (S.trans s') hr ?_⟩;rw[shA c];exact .cons (.str _) (hu.same (S.trans s'))
 refine New.of λ p2 H2 h2 s2 e2=>?_;refine⟨_,.inr (SqT.of e2),rfl,rfl,?_⟩;rw[inN];have S2:=s1.trans s2;refine ite2 (λ c=>?_) (λ cN=>?_)
 ·skip
  refine New.of λ p3 H3 h3 s3 e3=>?_;have S:=S2.trans s3;refine q _ _ H3 S (SqT.of e3) ?_;rw[shN c];exact .cons (.str _) (.cons (J3f l) (.cons (.tup (hp.same S) (hu.same S)) .nil))
 refine ite2 (λ c=>?_) (λ cC=>?_)
 ·obtain⟨d,r,rfl⟩:=J0w hok (.inl (isC f c));obtain⟨v,vr,rfl,hv,hr'⟩:=hu.inv;refine⟨_,hp.same S2,v,ix0,?_⟩;refine⟨p,_,rfl,hp.same S2,λ p3 H3 s3 h3=>?_⟩;rw[cut1]at h3;refine New.of λ p4 H4 h4 s4 e4=>?_;have S:=S2.trans (s3.trans s4);refine q _ _ H4 S (SqT.of e4) ?_;cases isC f c;exact .cons (.str _) (.cons (hv.same S) (.cons (J3f l) (.cons (.tup (h3.same s4) (hr'.same S)) .nil)))
 have cC':¬f=.call:=λ z=>cC (by rw[z];rfl);refine New.of λ p3 H3 h3 s3 e3=>?_;refine⟨_,.inr (SqT.of e3),rfl,rfl,?_⟩;rw[inF];have S3:=S2.trans s3;refine ite2 (λ c=>?_) (λ cF=>?_)
 ·obtain⟨d,r,rfl⟩:=J0w hok (.inr c);obtain⟨v,vr,rfl,hv,hr'⟩:=hu.inv;refine⟨_,hp.same S3,v,ix0,?_⟩;refine New.of λ p4 H4 h4 s4 e4=>?_;have S4:=S3.trans s4;refine⟨p,_,rfl,hp.same S4,λ p5 H5 s5 h5=>?_⟩;rw[cut1]at h5;refine⟨_,_,_,_,rfl,rfl,SqT.of (s5 _ _ e4),h5,by rw[sizeLine_eq];show 3+vr.length<=_;simp at hus;omega,λ r' H' s' hr=>q r' _ H' (S4.trans (s5.trans s')) hr ?_⟩;rw[shF c];have S:=S4.trans (s5.trans s');exact .cons (.str _) (.cons (hv.same S) (.cons (J3f l) (hr'.same S)))
 refine New.of λ p4 H4 h4 s4 e4=>?_;have S4:=S3.trans s4;refine⟨_,_,_,_,rfl,rfl,SqT.of e4,hp.same S4,by rw[sizeLine_eq];show 2+us.length<=_;omega,λ r H' s' hr=>q r _ H' (S4.trans s') hr ?_⟩;rw[shR cA cN cC' cF];exact .cons (.str _) (.cons (J3f l) (hu.same (S4.trans s')))
inductive Z6c(C:X0)(K:y0)(vs:List V)(H:Hp)(Q:VK):Prop
 |mk(v:V)(t:Tm)(a1:vs=[v])(a2:TO K C H v t)(a3:∀u,RT K H u t.dat->Q u H):Z6c C K vs H Q
def Z3w(C:X0)(K:y0):Sp:=λ vs H Q _=>Z6c C K vs H Q
inductive Z7c(C:X0)(K:y0)(vs:List V)(H:Hp)(Q:VK):Prop
 |mk(v:V)(t:Tm)(a1:vs=[v])(a2:TO K C H v t)(a3:∀l us,H l=none->TOs K C H us t.ps->Q (.ref l) (upd H l (.lst us))):Z7c C K vs H Q
def Z6Z(C:X0)(K:y0):Sp:=λ vs H Q _=>Z7c C K vs H Q
inductive Z6J(C:X0)(K:y0)(vs:List V)(H:Hp)(Q:VK):Prop
 |mk(v:V)(t:Tm)(a1:vs=[v])(a2:TO K C H v t)(a3:Q (.int (t.depth:Nat)) H):Z6J C K vs H Q
def Z4r(C:X0)(K:y0):Sp:=λ vs H Q _=>Z6J C K vs H Q
inductive Z8g(C:X0)(K:y0)(vs:List V)(H:Hp)(Q:VK):Prop
 |mk(v:V)(t:Tm)(a1:vs=[v])(a2:TO K C H v t)(a3:Q (.int (t.size:Nat)) H):Z8g C K vs H Q
def Z5I(C:X0)(K:y0):Sp:=λ vs H Q _=>Z8g C K vs H Q
theorem Z6m(T:Txt P w K mg C_Guest Ct Cw Ch Cp C_BadForm D_STRENGTHS D_TRUTHS U_TOLD_WORDS):HasM P w K mg base 1 Ct "plain" ["self"] (Z3w Ct K):=by
 refine HasM.of T.m_Term_plain Z5f (λ _ _ _ _ _ _ us hl=>el1 us hl λ _=>rfl) (λ vs H Q E h=>?_) (λ f cdv A outer s H vs Q E hr h=>?_)
 ·obtain⟨v,t,rfl,_⟩:=h;rfl
 obtain⟨v,t,rfl,h,q⟩:=h;refine⟨_,(Z0b (Z0k (qO 0))),?_⟩;walk_at "r";obtain⟨a,dx,inn,sh,us,ws,rfl,ha,hi,hus,hs,hw⟩:=h.inv;refine⟨a,rfl,Ct,dx,_,ha,T.Term.cl,T.n_Term_shape,.ref sh,rfl,q _ ?_⟩;cases t;exact .tup hs hw
theorem J0K(T:Txt P w K mg C_Guest Ct Cw Ch Cp C_BadForm D_STRENGTHS D_TRUTHS U_TOLD_WORDS):HasM P w K mg base 1 Ct "parts" ["self"] (Z6Z Ct K):=by
 refine HasM.of T.m_Term_parts Z5z (λ _ _ _ _ _ _ us hl=>el1 us hl λ _=>rfl) (λ vs H Q E h=>?_) (λ f cdv A outer s H vs Q E hr h=>?_)
 ·obtain⟨v,t,rfl,_⟩:=h;rfl
 obtain⟨v,t,rfl,h,q⟩:=h;refine⟨_,(Z0b (Z0k (Z0V Z6t rfl T.z_list J5g (qI (qO 0))))),?_⟩;walk_at "r";obtain⟨a,dx,inn,sh,us,ws,rfl,ha,hi,hus,hs,hw⟩:=h.inv;exact⟨a,rfl,Ct,dx,_,ha,T.Term.cl,T.n_Term_inner,.ref inn,rfl,inn,rfl,us,.inr hi,λ l hl=>q l us hl hus⟩
theorem Z6z(T:Txt P w K mg C_Guest Ct Cw Ch Cp C_BadForm D_STRENGTHS D_TRUTHS U_TOLD_WORDS):HasM P w K mg base 1 Ct "depth" ["self"] (Z4r Ct K):=by
 refine HasM.of T.m_Term_depth Z5n (λ _ _ _ _ _ _ us hl=>el1 us hl λ _=>rfl) (λ vs H Q E h=>?_) (λ f cdv A outer s H vs Q E hr h=>?_)
 ·obtain⟨v,t,rfl,_⟩:=h;rfl
 obtain⟨v,t,rfl,h,q⟩:=h;refine⟨_,(Z0b (Z0k (qO 0))),?_⟩;walk_at "r";obtain⟨a,dx,inn,sh,us,ws,rfl,ha,hi,hus,hs,hw⟩:=h.inv;exact⟨a,rfl,Ct,dx,_,ha,T.Term.cl,T.n_Term_deep,.int (t.depth:Nat),rfl,q⟩
theorem Z8c(T:Txt P w K mg C_Guest Ct Cw Ch Cp C_BadForm D_STRENGTHS D_TRUTHS U_TOLD_WORDS):HasM P w K mg base 1 Ct "size" ["self"] (Z5I Ct K):=by
 refine HasM.of T.m_Term_size Z6q (λ _ _ _ _ _ _ us hl=>el1 us hl λ _=>rfl) (λ vs H Q E h=>?_) (λ f cdv A outer s H vs Q E hr h=>?_)
 ·obtain⟨v,t,rfl,_⟩:=h;rfl
 obtain⟨v,t,rfl,h,q⟩:=h;refine⟨_,(Z0b (Z0k (qO 0))),?_⟩;walk_at "r";obtain⟨a,dx,inn,sh,us,ws,rfl,ha,hi,hus,hs,hw⟩:=h.inv;exact⟨a,rfl,Ct,dx,_,ha,T.Term.cl,T.n_Term_many,.int (t.size:Nat),rfl,q⟩
inductive Z8Q(C:X0)(K:y0)(vs:List V)(H:Hp)(Q:VK):Prop
 |mk(x dx p:X0)(f:Fm)(l:Lb)(us:List V)(ps:List Tm)(a1:vs=[.ref x,.str f.s,lbV l,.ref p])(a2:H x=some (.ins C dx []))(a3:SqL K H p us)(a4:TOs K C H us ps)(a5:okF f l ps.length)(a6:ps.length<=20000)(a7:∀H',SX x H H'->TO K C H' (.ref x) (.mk f l ps)->Q .non H'):Z8Q C K vs H Q
def Z1o(C:X0)(K:y0):Sp:=λ vs H Q _=>Z8Q C K vs H Q
theorem J7q{ts:List Tm}{m:Int}(h0:ts.map (λ t=>((t.depth:Nat):Int))=[]->m=0)(h1:ts.map (λ t=>((t.depth:Nat):Int))≠[]->Z9Z (ts.map λ t=>((t.depth:Nat):Int)) m):m=((maxD ts:Nat):Int):=by
 cases ts with
 |nil=>exact h0 rfl
 |cons t ts=>
  obtain⟨hm,hle⟩:=h1 (by simp);obtain⟨u,hu,rfl⟩:=qd0.mp hm;have a:=Z7U hu;have b:maxD (t::ts)<=u.depth:=J1F λ v hv=>by
   have:=hle _ (qd0.mpr ⟨v,hv,rfl⟩);omega
  omega
theorem J3L:∀ts:List Tm,(ts.map λ t=>((t.size:Nat):Int)).sum=((sumS ts:Nat):Int)
 |[]=>rfl
 |t::ts=>by
  rw[qc4,List.sum_cons,J3L ts];show _=((t.size+sumS ts:Nat):Int);omega
theorem Z8O{α:Type}{g:α->V}{ts:List α}{vs:List V}(hl:vs.length=ts.length)(h:∀(j:Nat) v,vs[j]?=some v->∃t,ts[j]?=some t/\v=g t):vs=ts.map g:=by
 refine List.ext_getElem? λ j=>?_;rw[qc0];by_cases hj:j<vs.length
 ·obtain⟨t,a,b⟩:=h j _ (qb5 hj);rw[qb5 hj,a,b];rfl
 ·rw[qi1 (by omega),qi1 (by omega)];rfl
theorem kpN{H H':Hp}(s:Z4p H H'):Kp H H':=⟨λ b xs h=>s b _ (λ ys z=>by cases z) h,λ b o xs h=>s b _ (λ ys z=>by cases z) h,λ b C dx f fs h=>s b _ (λ ys z=>by cases z) h⟩
theorem J3J{K:y0}{H:Hp}:∀{ts:List Tm}{vs:List V},vs.length=ts.length->(∀(j:Nat) v,vs[j]?=some v->∃t,ts[j]?=some t/\RT K H v t.dat)->RTs K H vs (dats ts)
 |[],[],_,_=>.nil
 |t::ts,v::vs,e,h=>by
  obtain⟨t',a,b⟩:=h 0 v rfl;cases a;exact .cons b (J3J (qi6 e) λ j u hu=>h (j+1) u hu)
theorem J3y(T:Txt P w K mg C_Guest Ct Cw Ch Cp C_BadForm D_STRENGTHS D_TRUTHS U_TOLD_WORDS)(O1L:Has P w K mg base 1 "shape_of" ["form","label","parts"] (Z8q K))(h_Term_plain:HasM P w K mg base 1 Ct "plain" ["self"] (Z3w Ct K))(h_Term_depth:HasM P w K mg base 1 Ct "depth" ["self"] (Z4r Ct K))(h_Term_size:HasM P w K mg base 1 Ct "size" ["self"] (Z5I Ct K)):HasM P w K mg base 2 Ct "__init__" ["self","form","label","parts"] (Z1o Ct K):=by
 refine HasM.of T.m_Term___init__ Z3O (λ _ _ _ _ _ _ us hl=>el4 us hl λ _ _ _ _=>rfl) (λ vs H Q E h=>?_) (λ f cdv A outer s H vs Q E hr h=>?_)
 ·obtain⟨x,dx,p,f,l,us,ps,rfl,_⟩:=h;rfl
 obtain⟨x,dx,p,f,l,us,ps,rfl,hx,hp,hu,hok,hl,q⟩:=h;refine⟨_,(Z0a (Z0R (pvF 0) (pvF 1) rfl) (Z0a (Z0R (pvF 0) (pvF 2) rfl) (Z0a (Z0R (pvF 0) (Z0V Z0A rfl T.O0y Z1I (qI (pvF 3))) rfl) (Z0a (Z0R (pvF 0) (Z0n Z0S Z0f (J5c rfl rfl T.z_max J6d (qI (Z0G rfl (BlockOk.plain (N:=["part"]) rfl qP qP qP) (Z3G (qO 0)) (λ C fp s H=>(qH 0 (show(["part"]:List V0).Nodup by decide+kernel))) (λ C fp s H=>(Z0u (pvF 0) T.Term.cl h_Term_depth hr qQ)))) (J4M Z0f J5V))) rfl) (Z0a (Z0R (pvF 0) (Z0n Z0S Z0f (Z0P (Z8f rfl) rfl T.z_sum J3R (qI (Z0G rfl (BlockOk.plain (N:=["part"]) rfl qP qP qP) (Z3G (qO 0)) (λ C fp s H=>(qH 0 (show(["part"]:List V0).Nodup by decide+kernel))) (λ C fp s H=>(Z0u (pvF 0) T.Term.cl h_Term_size hr qQ)))))) rfl) (Z0b (Z0R (pvF 0) (qF O1L hr (qK (pvF 1) (pvF 2) (Z0V Z0A rfl T.O0y Z1I (qI (Z0G rfl (BlockOk.plain (N:=["part"]) rfl qP qP qP) (Z3G (qO 0)) (λ C fp s H=>(qH 0 (show(["part"]:List V0).Nodup by decide+kernel))) (λ C fp s H=>(Z0u (pvF 0) T.Term.cl h_Term_plain hr qQ))))))) rfl))))))),?_⟩;refine seq6 λ uz5 huz5 uz4 huz4 uz3 huz3 uz2 huz2 uz1 huz1=>?_;walk_at "r";refine⟨Ct,dx,_,hx,T.Term.cl,T.n_Term_form,qc1 rfl,?_⟩;subst huz1;walk_at "r";refine⟨Ct,dx,_,Z0e,T.Term.cl,T.n_Term_label,qc1 rfl,?_⟩;subst huz2;walk_at "r";have S1:SX x H (upd (upd H x (.ins Ct dx (putF "form" (.str f.s) []))) x (.ins Ct dx (putF "label" (lbV l) (putF "form" (.str f.s) [])))):=(SX.put _).trans (SX.put _);have X1:upd (upd H x (.ins Ct dx (putF "form" (.str f.s) []))) x (.ins Ct dx (putF "label" (lbV l) (putF "form" (.str f.s) []))) x=some (.ins Ct dx (putF "label" (lbV l) (putF "form" (.str f.s) []))):=Z0e;generalize upd (upd H x (.ins Ct dx (putF "form" (.str f.s) []))) x (.ins Ct dx (putF "label" (lbV l) (putF "form" (.str f.s) [])))=H1 at*;refine⟨us,.inl ⟨S1.sqL hx hp,λ inn hinn=>?_⟩⟩;have nx:inn≠x:=λ z=>Z0g X1 hinn z.symm;have s2:=Z0x hinn (.tup us);refine⟨Ct,dx,_,s2 _ _ X1,T.Term.cl,T.n_Term_inner,qc1 rfl,?_⟩;have S2:SX x H (upd (upd H1 inn (.tup us)) x (.ins Ct dx (putF "inner" (.ref inn) (putF "label" (lbV l) (putF "form" (.str f.s) []))))):=S1.trans ((SX.of s2).trans (SX.put _));have X2:upd (upd H1 inn (.tup us)) x (.ins Ct dx (putF "inner" (.ref inn) (putF "label" (lbV l) (putF "form" (.str f.s) [])))) x=some (.ins Ct dx (putF "inner" (.ref inn) (putF "label" (lbV l) (putF "form" (.str f.s) [])))):=Z0e;have I2:upd (upd H1 inn (.tup us)) x (.ins Ct dx (putF "inner" (.ref inn) (putF "label" (lbV l) (putF "form" (.str f.s) [])))) inn=some (.tup us):=by rw[Z0h nx];exact Z0e
 clear s2 hinn X1 S1;generalize upd (upd H1 inn (.tup us)) x (.ins Ct dx (putF "inner" (.ref inn) (putF "label" (lbV l) (putF "form" (.str f.s) []))))=H2 at*;have hus:us.length=ps.length:=hu.length;have U2:TOs K Ct H2 us ps:=hu.kp (S2.kp hx);subst huz3;walk_at "r";refine⟨Ct,dx,_,X2,T.Term.cl,T.n_Term_inner,.ref inn,rfl,inn,rfl,⟨_,SqT.of I2⟩,λ D hD=>?_⟩;refine Z1T (ys:=us) none [] (λ j v H=>∃t,ps[j]?=some t/\v=.int ((t.depth:Nat):Int)) (λ _ _ _ _ h _=>h) rfl hD (by rw[sizeLine_eq];omega) (λ H1 s=>SqT.of (s _ _ I2)) (λ i y hy H1 K' s k=>?_) (λ vs Ha Sa hv lv hR=>?_)
 ·walk_at "r";obtain⟨t,ht,hto⟩:=U2.at hy;have hto:=hto.kp (Kp.of s);obtain⟨a,dx',inn',sh',us',ws',rfl,ha,_⟩:=hto.inv;exact⟨a,rfl,dx',_,ha,rfl,_,t,rfl,hto,k _ _ (Same.refl _) ⟨t,ht,rfl⟩⟩
 cases Z8O (g:=λ t:Tm=>V.int ((t.depth:Nat):Int)) (lv.trans hus) hR;refine⟨D,rfl,ps.map λ t=>((t.depth:Nat):Int),by rw[qd1];exact SqL.of hv,λ m m0 m1=>?_⟩;cases J7q m0 m1;refine⟨Ct,dx,_,Sa _ _ X2,T.Term.cl,T.n_Term_deep,qc1 rfl,?_⟩;have S3:SX x H2 (upd Ha x (.ins Ct dx (putF "deep" (.int (1+((maxD ps:Nat):Int))) (putF "inner" (.ref inn) (putF "label" (lbV l) (putF "form" (.str f.s) [])))))):=(SX.of Sa).trans (SX.put _);have X3:upd Ha x (.ins Ct dx (putF "deep" (.int (1+((maxD ps:Nat):Int))) (putF "inner" (.ref inn) (putF "label" (lbV l) (putF "form" (.str f.s) []))))) x=some (.ins Ct dx (putF "deep" (.int (1+((maxD ps:Nat):Int))) (putF "inner" (.ref inn) (putF "label" (lbV l) (putF "form" (.str f.s) []))))):=Z0e;clear hv hR hD Sa;generalize upd Ha x (.ins Ct dx (putF "deep" (.int (1+((maxD ps:Nat):Int))) (putF "inner" (.ref inn) (putF "label" (lbV l) (putF "form" (.str f.s) [])))))=H3 at*;have I3:=S3 _ _ nx I2;have U3:TOs K Ct H3 us ps:=hu.kp ((S2.trans S3).kp hx);subst huz4;walk_at "r";refine⟨Ct,dx,_,X3,T.Term.cl,T.n_Term_inner,.ref inn,rfl,inn,rfl,⟨_,SqT.of I3⟩,λ D hD=>?_⟩;refine Z1T (ys:=us) none [] (λ j v H=>∃t,ps[j]?=some t/\v=.int ((t.size:Nat):Int)) (λ _ _ _ _ h _=>h) rfl hD (by rw[sizeLine_eq];omega) (λ H1 s=>SqT.of (s _ _ I3)) (λ i y hy H1 K' s k=>?_) (λ vs Hb Sb hv lv hR=>?_)
 ·walk_at "r";obtain⟨t,ht,hto⟩:=U3.at hy;have hto:=hto.kp (Kp.of s);obtain⟨a,dx',inn',sh',us',ws',rfl,ha,_⟩:=hto.inv;exact⟨a,rfl,dx',_,ha,rfl,_,t,rfl,hto,k _ _ (Same.refl _) ⟨t,ht,rfl⟩⟩
 cases Z8O (g:=λ t:Tm=>V.int ((t.size:Nat):Int)) (lv.trans hus) hR;refine⟨D,rfl,ps.map (λ t=>((t.size:Nat):Int)),by rw[qd1];exact SqL.of hv,?_⟩;rw[J3L];refine⟨Ct,dx,_,Sb _ _ X3,T.Term.cl,T.n_Term_many,qc1 rfl,?_⟩;have S4:SX x H3 (upd Hb x (.ins Ct dx (putF "many" (.int (1+((sumS ps:Nat):Int))) (putF "deep" (.int (1+((maxD ps:Nat):Int))) (putF "inner" (.ref inn) (putF "label" (lbV l) (putF "form" (.str f.s) []))))))):=(SX.of Sb).trans (SX.put _);have X4:upd Hb x (.ins Ct dx (putF "many" (.int (1+((sumS ps:Nat):Int))) (putF "deep" (.int (1+((maxD ps:Nat):Int))) (putF "inner" (.ref inn) (putF "label" (lbV l) (putF "form" (.str f.s) [])))))) x=some (.ins Ct dx (putF "many" (.int (1+((sumS ps:Nat):Int))) (putF "deep" (.int (1+((maxD ps:Nat):Int))) (putF "inner" (.ref inn) (putF "label" (lbV l) (putF "form" (.str f.s) [])))))):=Z0e;clear hv hR hD Sb;generalize upd Hb x (.ins Ct dx (putF "many" (.int (1+((sumS ps:Nat):Int))) (putF "deep" (.int (1+((maxD ps:Nat):Int))) (putF "inner" (.ref inn) (putF "label" (lbV l) (putF "form" (.str f.s) []))))))=H4 at*;have I4:=S4 _ _ nx I3;have S04:SX x H H4:=S2.trans (S3.trans S4);have U4:TOs K Ct H4 us ps:=hu.kp (S04.kp hx);subst huz5;walk_at "r";refine⟨Ct,dx,_,X4,T.Term.cl,T.n_Term_inner,.ref inn,rfl,inn,rfl,⟨_,SqT.of I4⟩,λ D hD=>?_⟩;refine Z1T (ys:=us) none [] (λ j v H=>∃t,ps[j]?=some t/\RT K H v t.dat) (λ j v H1 H2 ⟨t,a,b⟩ s=>⟨t,a,b.kp (kpN s)⟩) rfl hD (by rw[sizeLine_eq];omega) (λ H1 s=>SqT.of (s _ _ I4)) (λ i y hy H1 K' s k=>?_) (λ vs Hc Sc hv lv hR=>?_)
 ·walk_at "r";obtain⟨t,ht,hto⟩:=U4.at hy;have hto:=hto.kp (Kp.of s);obtain⟨a,dx',inn',sh',us',ws',rfl,ha,_⟩:=hto.inv;exact⟨a,rfl,dx',_,ha,rfl,_,t,rfl,hto,λ u hu'=>k _ _ (Same.refl _) ⟨t,ht,hu'⟩⟩
 have hd:=J3J (lv.trans hus) hR;refine⟨D,rfl,vs,.inl ⟨SqL.of hv,λ t5 h5=>?_⟩⟩;have s5:=Z0x h5 (.tup vs);refine⟨f,l,t5,vs,dats ps,rfl,SqT.of Z0e,hd.same s5,by rw[Z5S];exact hok,by rw[Z5S];exact hl,λ r ws H6 s6 hr hw=>?_⟩;refine⟨Ct,dx,_,s6 _ _ (s5 _ _ (Sc _ _ X4)),T.Term.cl,T.n_Term_shape,qc1 rfl,?_⟩;have S6:SX x H4 H6:=SX.of (Sc.trans (s5.trans s6));have X6:=S6;have S7:SX x H6 (upd H6 x (.ins Ct dx (putF "shape" (.ref r) (putF "many" (.int (1+((sumS ps:Nat):Int))) (putF "deep" (.int (1+((maxD ps:Nat):Int))) (putF "inner" (.ref inn) (putF "label" (lbV l) (putF "form" (.str f.s) [])))))))):=SX.put _;have x6:=s6 _ _ (s5 _ _ (Sc _ _ X4));have k6:Kp H (upd H6 x (.ins Ct dx (putF "shape" (.ref r) (putF "many" (.int (1+((sumS ps:Nat):Int))) (putF "deep" (.int (1+((maxD ps:Nat):Int))) (putF "inner" (.ref inn) (putF "label" (lbV l) (putF "form" (.str f.s) [])))))))):=(S04.trans (S6.trans S7)).kp hx;refine q _ (S04.trans (S6.trans S7)) ?_;have e:((putF "shape" (.ref r) (putF "many" (.int (1+((sumS ps:Nat):Int))) (putF "deep" (.int (1+((maxD ps:Nat):Int))) (putF "inner" (.ref inn) (putF "label" (lbV l) (putF "form" (.str f.s) [])))))):List (V0×V))=fsT f l inn r (1+maxD ps) (1+sumS ps):=by
  unfold fsT;rw[Int.natCast_add,Int.natCast_add];rfl
 have x7:upd H6 x (.ins Ct dx (putF "shape" (.ref r) (putF "many" (.int (1+((sumS ps:Nat):Int))) (putF "deep" (.int (1+((maxD ps:Nat):Int))) (putF "inner" (.ref inn) (putF "label" (lbV l) (putF "form" (.str f.s) []))))))) x=some (.ins Ct dx (fsT f l inn r (1+maxD ps) (1+sumS ps))):=by rw[Z0e,e]
 refine .mk x7 (SqT.of (S7 _ _ nx (S6 _ _ nx I4))) (hu.kp k6) (S7.sqT x6 hr) ?_;exact hw.kt (Kt.put _ x6 (λ _ z=>by cases z) (λ _ _ z=>by cases z))
open RR (Res ahead need needName Z0I)
structure GC where
 g:X0
 tb:X0
 lp:Pos
 qn:V0
def TbS(cg:GC)(H:Hp):Prop:=TbL cg.tb cg.lp cg.qn H
theorem TbS.sx{cg:GC}{H H':Hp}{g:X0}{C dx:X0}{fs:List (V0×V)}(h:TbS cg H)(e:H g=some (.ins C dx fs))(s:SX g H H'):TbS cg H':=by
 rcases h with h|⟨a,b,c,h,k,t,q⟩
 ·exact .inl (s _ _ (λ z=>by rw[z,e]at h;cases h) h)
 ·exact .inr ⟨a,b,c,s _ _ (λ z=>by rw[z,e]at h;cases h) h,k,t,s _ _ (λ z=>by rw[z,e]at q;cases q) q⟩
theorem TbS.same{cg:GC}{H H':Hp}(h:TbS cg H)(s:Same H H'):TbS cg H':=by
 rcases h with h|⟨a,b,c,h,k,t,q⟩
 ·exact .inl (s _ _ h)
 ·exact .inr ⟨a,b,c,s _ _ h,k,t,s _ _ q⟩
structure GuO(K:y0)(cg:GC)(H:Hp)(g:X0)(ws:List V0)(n:Nat):Prop where
 tb:TbS cg H
 ex:∃dx ra,H g=some (.ins cg.g dx [("row",.ref ra),("gone",.int n)])/\SqT K H ra (ws.map V.str)
 len:ws.length<=6000
 le:n<=ws.length
 wd:∀w∈ws,w.length<=6000
def BF(cb g:X0)(H:Hp)(E:XK):Prop:=∀H',SY g H H'->E (.ref cb) none H'
def To{α:Type}(r:Res α)(p:α->Nat->Prop)(q:Prop):Prop:=match r with
 | .ok a n=>p a n
 | .bad=>q
 | .out=>False
theorem GuO.same{K:y0}{cg:GC}{g:X0}{H H':Hp}{ws:List V0}{n:Nat}(h:GuO K cg H g ws n)(s:Same H H'):GuO K cg H' g ws n:=by
 obtain⟨t,⟨dx,ra,a,b⟩,c,d,e⟩:=h;exact⟨t.same s,⟨dx,ra,s _ _ a,SqT.same b s⟩,c,d,e⟩
theorem BF.same{cb g:X0}{H H':Hp}{E:XK}(h:BF cb g H E)(s:SY g H H'):BF cb g H' E:=λ H2 s2=>h H2 (s.trans s2)
theorem BF.new{cb g x:X0}{H:Hp}{E:XK}{o:HO}(h:BF cb g H E)(n:H x=none):E (.ref cb) none (upd H x o):=h _ (.of λ b u e=>by
 rw[Z0h (Z0g e n)];exact e)
theorem GuO.put{K:y0}{cg:GC}{g dx ra:X0}{H:Hp}{ws:List V0}{n:Nat}(h:H g=some (.ins cg.g dx [("row",.ref ra),("gone",.int n)]))(r:SqT K H ra (ws.map V.str))(l:ws.length<=6000)(wd:∀w∈ws,w.length<=6000){m:Nat}(hm:m<=ws.length)(tb:TbS cg H):GuO K cg (upd H g (.ins cg.g dx [("row",.ref ra),("gone",.int m)])) g ws m:=
 ⟨tb.sx h (SX.put _),⟨dx,ra,Z0e,SqT.kt r ⟨λ b xs e=>by rw[Z0h (λ z=>by rw[z,h]at e;cases e)];exact e,λ b o xs e=>by rw[Z0h (λ z=>by rw[z,h]at e;cases e)];exact e⟩⟩,l,hm,wd⟩
inductive Z8Z(cg:GC)(K:y0)(vs:List V)(H:Hp)(Q:VK):Prop
 |mk(x dx p:X0)(ws:List V0)(a1:vs=[.ref x,.ref p])(a2:H x=some (.ins cg.g dx []))(a3:SqL K H p (ws.map V.str))(a4:ws.length<=6000)(a5:(∀w∈ws,w.length<=6000))(a6:TbS cg H)(a7:∀H',SX x H H'->GuO K cg H' x ws 0->Q .non H'):Z8Z cg K vs H Q
def Z8j(cg:GC)(K:y0):Sp:=λ vs H Q _=>Z8Z cg K vs H Q
inductive Z6f(cg:GC)(K:y0)(vs:List V)(H:Hp)(Q:VK):Prop
 |mk(g:X0)(ws:List V0)(n:Nat)(a1:vs=[.ref g])(a2:GuO K cg H g ws n)(a3:Q (.str (ahead ws n)) H):Z6f cg K vs H Q
def Z1E(cg:GC)(K:y0):Sp:=λ vs H Q _=>Z6f cg K vs H Q
inductive Z4J(cg:GC)(K:y0)(vs:List V)(H:Hp)(Q:VK):Prop
 |mk(g:X0)(ws:List V0)(n:Nat)(a1:vs=[.ref g])(a2:GuO K cg H g ws n)(a3:1<=n)(a4:Q (.str (ws.getD (n-1) "")) H):Z4J cg K vs H Q
def Z4T(cg:GC)(K:y0):Sp:=λ vs H Q _=>Z4J cg K vs H Q
def Z3T(cg:GC)(cb:X0)(K:y0):Sp:=λ vs H Q E=>∃(g:X0)(ws:List V0)(n:Nat),vs=[.ref g]/\GuO K cg H g ws n/\if ahead ws n="" then BF cb g H E else ∀H',SY g H H'->GuO K cg H' g ws (n+1)->Q (.str (ahead ws n)) H'
inductive Z6l(cg:GC)(K:y0)(vs:List V)(H:Hp)(Q:VK):Prop
 |mk(g:X0)(ws:List V0)(n:Nat)(x:V0)(a1:vs=[.ref g,.str x])(a2:GuO K cg H g ws n)(a3:x≠"")(a4:if ahead ws n=x then ∀H',SY g H H'->GuO K cg H' g ws (n+1)->Q (.bl true) H' else Q (.bl false) H):Z6l cg K vs H Q
def Z1D(cg:GC)(K:y0):Sp:=λ vs H Q _=>Z6l cg K vs H Q
def Z1O(cg:GC)(cb:X0)(K:y0):Sp:=λ vs H Q E=>∃(g:X0)(ws:List V0)(n:Nat)(x:V0),vs=[.ref g,.str x]/\GuO K cg H g ws n/\x≠""/\x.length<=100/\To (need ws x n) (λ _ m=>∀H',SY g H H'->GuO K cg H' g ws m->Q .non H') (BF cb g H E)
def Z1U(cg:GC)(cb:X0)(K:y0):Sp:=λ vs H Q E=>∃(g:X0)(ws:List V0)(n:Nat),vs=[.ref g]/\GuO K cg H g ws n/\To (needName ws n) (λ x m=>∀H',SY g H H'->GuO K cg H' g ws m->Q (.str x) H') (BF cb g H E)
def Z6V(cg:GC)(cb:X0)(K:y0):Sp:=λ vs H Q E=>∃(g:X0)(ws:List V0)(n:Nat),vs=[.ref g]/\GuO K cg H g ws n/\if ahead ws n="" then Q .non H else BF cb g H E
inductive Z5Z(vs:List V)(H:Hp)(Q:VK):Prop
 |mk(x:V0)(a1:vs=[.str x])(a2:x.length<=6000)(a3:∀H',Same H H'->Q (.bl (Z0I x)) H'):Z5Z vs H Q
def Z3n:Sp:=λ vs H Q _=>Z5Z vs H Q
theorem Z5h{ws:List V0}{n:Nat}(h:n<ws.length):∃x,ws[n]?=some x/\ahead ws n=x:=⟨ws[n],qb5 h,by unfold RR.ahead;rw[qc6,qb5 h];rfl⟩
theorem Z6L{ws:List V0}{n:Nat}(h:¬n<ws.length):ahead ws n="":=by unfold RR.ahead;rw[qc6,qi1 (qe7 h)];rfl
theorem GuO.wl{K:y0}{cg:GC}{g:X0}{H:Hp}{ws:List V0}{n:Nat}(h:GuO K cg H g ws n):(ahead ws n).length<=6000:=by
 by_cases z:n<ws.length
 ·obtain⟨x,a,b⟩:=Z5h z;rw[b];exact h.wd _ (qe2 a)
 ·rw[Z6L z];exact qb4 _
theorem J2O(T:Txt P w K mg C_Guest Ct Cw Ch Cp C_BadForm D_STRENGTHS D_TRUTHS U_TOLD_WORDS):HasM P w K mg base 1 C_Guest "__init__" ["self","all_words"] (Z8j ⟨C_Guest,C_tb,LP,LQ⟩ K):=by
 refine HasM.of T.m_Guest___init__ Z3C (λ _ _ _ _ _ _ us hl=>el2 us hl λ _ _=>rfl) (λ vs H Q E h=>?_) (λ f cdv A outer s H vs Q E hr h=>?_)
 ·obtain⟨x,dx,p,ws,rfl,_⟩:=h;rfl
 obtain⟨x,dx,p,ws,rfl,hx,hp,hl,hw,htb,q⟩:=h;refine⟨_,(Z0a (Z0R (pvF 0) (Z0V Z0A rfl T.O0y Z1I (qI (pvF 1))) rfl) (Z0b (Z0R (pvF 0) Z0f rfl))),?_⟩;walk_at "r";refine⟨_,.inl ⟨hp,λ l hl'=>?_⟩⟩;have s1:=Z0x hl' (.tup (ws.map V.str));have e1:upd H l (.tup (ws.map V.str)) l=some (.tup (ws.map V.str)):=Z0e;generalize upd H l (.tup (ws.map V.str))=H1 at*;refine⟨C_Guest,dx,_,s1 _ _ hx,T.Guest.cl,T.n_Guest_row,qc1 rfl,⟨C_Guest,dx,_,Z0e,T.Guest.cl,T.n_Guest_gone,qc1 rfl,?_⟩⟩;have nl:l≠x:=λ z=>by rw[z,s1 _ _ hx]at e1;cases e1
 rw[Z7A];exact q _ (λ b o n e=>by rw[Z0h n];exact s1 _ _ e) ⟨(htb.same s1).sx (s1 _ _ hx) (SX.put _),⟨dx,l,Z0e,SqT.of (by rw[Z0h nl];exact e1)⟩,hl,qb4 _,hw⟩
theorem Z3p(T:Txt P w K mg C_Guest Ct Cw Ch Cp C_BadForm D_STRENGTHS D_TRUTHS U_TOLD_WORDS):HasM P w K mg base 1 C_Guest "ahead" ["self"] (Z1E ⟨C_Guest,C_tb,LP,LQ⟩ K):=by
 refine HasM.of T.m_Guest_ahead Z4F (λ _ _ _ _ _ _ us hl=>el1 us hl λ _=>rfl) (λ vs H Q E h=>?_) (λ f cdv A outer s H vs Q E hr h=>?_)
 ·obtain⟨g,ws,n,rfl,_⟩:=h;rfl
 obtain⟨g,ws,n,rfl,hg,q⟩:=h;obtain⟨tb,⟨dx,ra,h1,h2⟩,h3,h4,h5⟩:=hg;refine⟨_,(Z0a (Z0s (qM J2r (qO 0) (qL T.z_len (qI (qO 0)))) (Z0b (Z0k (qC K (qO 0) (qO 0)))) Z0m) (Z0b (Z0k Z0c))),?_⟩;walk_at "r";refine⟨C_Guest,dx,_,h1,T.Guest.cl,T.n_Guest_gone,_,rfl,⟨C_Guest,dx,_,h1,T.Guest.cl,T.n_Guest_row,_,rfl,ra,rfl,_,.inr h2,_,rfl,ite2 (λ e=>?_) λ e=>?_⟩⟩
 ·rw[qa3]at e;obtain⟨x,a,b⟩:=Z5h (qg3.mp e);refine⟨C_Guest,dx,_,h1,T.Guest.cl,T.n_Guest_row,_,rfl,⟨C_Guest,dx,_,h1,T.Guest.cl,T.n_Guest_gone,_,rfl,ra,rfl,_,rfl,⟨_,h2,_,Z2l (by rw[qc0,a];rfl),?_⟩⟩⟩;rw[<-b];exact q
 ·rw[qa3]at e;rw[Z6L (λ z=>e (qg3.mpr z))]at q;exact q
theorem Z9y(T:Txt P w K mg C_Guest Ct Cw Ch Cp C_BadForm D_STRENGTHS D_TRUTHS U_TOLD_WORDS):HasM P w K mg base 1 C_Guest "behind" ["self"] (Z4T ⟨C_Guest,C_tb,LP,LQ⟩ K):=by
 refine HasM.of T.m_Guest_behind Z4k (λ _ _ _ _ _ _ us hl=>el1 us hl λ _=>rfl) (λ vs H Q E h=>?_) (λ f cdv A outer s H vs Q E hr h=>?_)
 ·obtain⟨g,ws,n,rfl,_⟩:=h;rfl
 obtain⟨g,ws,n,rfl,hg,hn,q⟩:=h;obtain⟨tb,⟨dx,ra,h1,h2⟩,h3,h4,h5⟩:=hg;refine⟨_,(Z0b (Z0k (qC K (qO 0) (Z0n J6F (qO 0) Z0f)))),?_⟩;walk_at "r";obtain⟨x,a,b⟩:=Z5h (ws:=ws) (n:=n-1) (by omega);refine⟨C_Guest,dx,_,h1,T.Guest.cl,T.n_Guest_row,_,rfl,⟨C_Guest,dx,_,h1,T.Guest.cl,T.n_Guest_gone,_,rfl,_,rfl,ra,rfl,⟨_,h2,.str x,?_,?_⟩⟩⟩
 ·rw[show((n:Nat):Int)-1=((n-1:Nat):Int)by omega];exact Z2l (by rw[qc0,a];rfl)
 ·rw[<-b];exact q
theorem Z9a(T:Txt P w K mg C_Guest Ct Cw Ch Cp C_BadForm D_STRENGTHS D_TRUTHS U_TOLD_WORDS)(h_Guest_ahead:HasM P w K mg base 1 C_Guest "ahead" ["self"] (Z1E ⟨C_Guest,C_tb,LP,LQ⟩ K)):HasMX P w K mg base 2 C_Guest "take" ["self"] (Z3T ⟨C_Guest,C_tb,LP,LQ⟩ C_BadForm K):=by
 refine HasMX.of T.m_Guest_take sc_Guest_take (λ _ _ _ _ _ _ us hl=>el1 us hl λ _=>rfl) (λ vs H Q E h=>?_) (λ f cdv A outer s H vs Q E hr h=>?_)
 ·obtain⟨g,ws,n,rfl,_⟩:=h;rfl
 obtain⟨g,ws,n,rfl,hg,q⟩:=h;have hg0:=hg;obtain⟨tb,⟨dx,ra,h1,h2⟩,h3,h4,h5⟩:=hg;refine⟨_,(Z0a (qG 1 sc_Guest_take.nd (Z0u (pvF 0) T.Guest.cl h_Guest_ahead hr qS)) (Z0a (Z0s (qM Z1t (pvF 1) Z0c) (Z0b (Z0H T.x_BadForm hr rfl (qI Z0c))) Z0m) (Z0a (Z4S (pvF 0) Z0f J1P) (Z0b (Z0k (pvF 1)))))),?_⟩;walk_at "r";refine⟨dx,_,h1,rfl,⟨g,ws,n,rfl,hg0,rfl,ite2 (λ e=>?_) λ e=>?_⟩⟩
 ·rw[if_pos (V.str.inj e)]at q;exact λ x hx=>q.new hx
 ·have ne:ahead ws n≠"":=λ z=>e (by rw[z]);rw[if_neg ne]at q;have hl:=RR.ahead_lt ne;exact⟨C_Guest,dx,_,h1,T.Guest.cl,T.n_Guest_gone,_,rfl,_,rfl,⟨dx,_,h1,qc1 rfl,q _ (SY.put _) (GuO.put h1 h2 h3 h5 hl tb)⟩⟩
theorem Z3f(T:Txt P w K mg C_Guest Ct Cw Ch Cp C_BadForm D_STRENGTHS D_TRUTHS U_TOLD_WORDS)(h_Guest_ahead:HasM P w K mg base 1 C_Guest "ahead" ["self"] (Z1E ⟨C_Guest,C_tb,LP,LQ⟩ K)):HasM P w K mg base 2 C_Guest "takes" ["self","word"] (Z1D ⟨C_Guest,C_tb,LP,LQ⟩ K):=by
 refine HasM.of T.m_Guest_takes Z4I (λ _ _ _ _ _ _ us hl=>el2 us hl λ _ _=>rfl) (λ vs H Q E h=>?_) (λ f cdv A outer s H vs Q E hr h=>?_)
 ·obtain⟨g,ws,n,x,rfl,_⟩:=h;rfl
 obtain⟨g,ws,n,x,rfl,hg,hx,q⟩:=h;have hg0:=hg;obtain⟨tb,⟨dx,ra,h1,h2⟩,h3,h4,h5⟩:=hg;refine⟨_,(Z0a (Z0s (qM J4U (Z0u (pvF 0) T.Guest.cl h_Guest_ahead hr qS) (pvF 1)) (Z0b (Z0k Z7J)) Z0m) (Z0a (Z4S (pvF 0) Z0f J1P) (Z0b (Z0k Z7J)))),?_⟩;walk_at "r";refine⟨dx,_,h1,rfl,⟨g,ws,n,rfl,hg0,rfl,ite2 (λ e=>?_) λ e=>?_⟩⟩
 ·rw[if_neg (λ z=>e (by rw[z]))]at q;exact q
 ·have e:ahead ws n=x:=qf0 λ z=>e λ y=>z (V.str.inj y);rw[if_pos e]at q;have hl:=RR.ahead_lt (ws:=ws) (n:=n) (by rw[e];exact hx);exact⟨C_Guest,dx,_,h1,T.Guest.cl,T.n_Guest_gone,_,rfl,_,rfl,⟨dx,_,h1,qc1 rfl,q _ (SY.put _) (GuO.put h1 h2 h3 h5 hl tb)⟩⟩
theorem Z5E(T:Txt P w K mg C_Guest Ct Cw Ch Cp C_BadForm D_STRENGTHS D_TRUTHS U_TOLD_WORDS)(h_Guest_takes:HasM P w K mg base 2 C_Guest "takes" ["self","word"] (Z1D ⟨C_Guest,C_tb,LP,LQ⟩ K)):HasMX P w K mg base 3 C_Guest "need" ["self","word"] (Z1O ⟨C_Guest,C_tb,LP,LQ⟩ C_BadForm K):=by
 refine HasMX.of T.m_Guest_need Z5o (λ _ _ _ _ _ _ us hl=>el2 us hl λ _ _=>rfl) (λ vs H Q E h=>?_) (λ f cdv A outer s H vs Q E hr h=>?_)
 ·obtain⟨g,ws,n,x,rfl,_⟩:=h;rfl
 obtain⟨g,ws,n,x,rfl,hg,hx,hl,q⟩:=h;have hg0:=hg;obtain⟨tb,⟨dx,ra,h1,h2⟩,h3,h4,h5⟩:=hg;refine⟨_,(Z0b (Z0s (Z5b (Z0Q (Z0T (pvF 0) T.Guest.cl h_Guest_takes hr qS (qI (pvF 1))))) (Z0b (Z0H T.x_BadForm hr rfl (qI (Z7C (Z3e Z0c (Z3e (J0S (pvF 1)) Z9N)))))) Z0m)),?_⟩;walk_at "r";unfold RR.need at q;refine⟨dx,_,h1,rfl,⟨g,ws,n,x,rfl,hg0,hx,ite2 (λ e=>?_) λ e=>?_⟩⟩
 ·rw[if_pos e]at q;exact λ H' s' g'=>⟨_,rfl,ite2 (λ z=>by cases z) λ _=>q H' s' g'⟩
 ·rw[if_neg e]at q;have l1:(Str.empty++("missing: ":V0)).length<=16777216:=by decide+kernel
  have l2:(Str.empty++("missing: ":V0)++x).length<=16777216:=by
   rw[<-K10.cds_len,K10.cds_app,qa5,K10.cds_len,K10.cds_len];have:(Str.empty++("missing: ":V0)).length=9:=by decide+kernel
   omega
  exact⟨_,rfl,ite2 (λ _=>⟨l1,.inr ⟨by omega,l2,l2,λ x hx=>BF.new q hx⟩⟩) λ z=>absurd rfl z⟩
theorem Z6O(T:Txt P w K mg C_Guest Ct Cw Ch Cp C_BadForm D_STRENGTHS D_TRUTHS U_TOLD_WORDS)(h_Guest_ahead:HasM P w K mg base 1 C_Guest "ahead" ["self"] (Z1E ⟨C_Guest,C_tb,LP,LQ⟩ K))(h_Guest_take:HasMX P w K mg base 2 C_Guest "take" ["self"] (Z3T ⟨C_Guest,C_tb,LP,LQ⟩ C_BadForm K))(O0t:Has P w K mg base 2 "is_name" ["word"] Z3n):HasMX P w K mg base 3 C_Guest "need_name" ["self"] (Z1U ⟨C_Guest,C_tb,LP,LQ⟩ C_BadForm K):=by
 refine HasMX.of T.m_Guest_need_name Z3r (λ _ _ _ _ _ _ us hl=>el1 us hl λ _=>rfl) (λ vs H Q E h=>?_) (λ f cdv A outer s H vs Q E hr h=>?_)
 ·obtain⟨g,ws,n,rfl,_⟩:=h;rfl
 obtain⟨g,ws,n,rfl,hg,q⟩:=h;have hg0:=hg;obtain⟨tb,⟨dx,ra,h1,h2⟩,h3,h4,h5⟩:=hg;refine⟨_,(Z0a (Z0s (Z5b (Z0Q (qF O0t hr (qI (Z0u (pvF 0) T.Guest.cl h_Guest_ahead hr qS))))) (Z0b (Z0H T.x_BadForm hr rfl (qI Z0c))) Z0m) (Z0b (Z0k (Z0K (pvF 0) T.Guest.cl h_Guest_take hr qS)))),?_⟩;walk_at "r";unfold RR.needName at q;refine⟨dx,_,h1,rfl,⟨g,ws,n,rfl,hg0,⟨_,rfl,hg0.wl,λ H' s'=>⟨_,rfl,ite2 (λ e=>?_) λ e=>?_⟩⟩⟩⟩
 ·rw[if_neg (by rw[e];exact qb3)]at q;exact λ x hx=>(BF.same q (SY.of s')).new hx
 ·have e:Z0I (ahead ws n)=true:=Bool.not_eq_false _▸e;rw[if_pos e]at q;refine⟨dx,_,s' _ _ h1,rfl,⟨g,ws,n,rfl,hg0.same s',?_⟩⟩;rw[if_neg (λ z=>by rw[z,RR.isName_ne]at e;cases e)];exact λ H2 s2 g2=>q H2 ((SY.of s').trans s2) g2
theorem Z9W(T:Txt P w K mg C_Guest Ct Cw Ch Cp C_BadForm D_STRENGTHS D_TRUTHS U_TOLD_WORDS)(h_Guest_ahead:HasM P w K mg base 1 C_Guest "ahead" ["self"] (Z1E ⟨C_Guest,C_tb,LP,LQ⟩ K)):HasMX P w K mg base 2 C_Guest "need_end" ["self"] (Z6V ⟨C_Guest,C_tb,LP,LQ⟩ C_BadForm K):=by
 refine HasMX.of T.m_Guest_need_end Z3A (λ _ _ _ _ _ _ us hl=>el1 us hl λ _=>rfl) (λ vs H Q E h=>?_) (λ f cdv A outer s H vs Q E hr h=>?_)
 ·obtain⟨g,ws,n,rfl,_⟩:=h;rfl
 obtain⟨g,ws,n,rfl,hg,q⟩:=h;have hg0:=hg;obtain⟨tb,⟨dx,ra,h1,h2⟩,h3,h4,h5⟩:=hg;refine⟨_,(Z0b (Z0s (qM J4U (Z0u (pvF 0) T.Guest.cl h_Guest_ahead hr qS) Z0c) (Z0b (Z0H T.x_BadForm hr rfl (qI Z0c))) Z0m)),?_⟩;walk_at "r";refine⟨dx,_,h1,rfl,⟨g,ws,n,rfl,hg0,rfl,ite2 (λ e=>?_) λ e=>?_⟩⟩
 ·rw[if_neg (λ z=>e (by rw[z]))]at q;exact λ x hx=>q.new hx
 ·rw[if_pos (qf0 λ z=>e λ y=>z (V.str.inj y))]at q;exact q
open RR (Res ahead need needName Z0I rd rKind rPair rIf rLet rSet rPart rTail rPts rPointed rOne rTerms rList rMore)
theorem To.bind{α β:Type}{a:Res α}{f:α->Nat->Res β}{p:β->Nat->Prop}{q:Prop}(h:To (a.bind f) p q):To a (λ x m=>To (f x m) p q) q:=by
 cases a<;>exact h
theorem To.mono{α:Type}{a:Res α}{p p':α->Nat->Prop}{q q':Prop}(h:To a p q)(hp:∀x m,a=.ok x m->p x m->p' x m)(hq:q->q'):To a p' q':=by
 cases a with
 |ok x m=>exact hp x m rfl h
 |bad=>exact hq h
 |out=>exact h
def RdT(K:y0)(cg:GC)(cb ct g:X0)(ws:List V0)(H:Hp)(Q:VK)(E:XK)(r:Res Tm):Prop:=To r (λ t m=>∀v H',SY g H H'->GuO K cg H' g ws m->TO K ct H' v t->Q v H') (BF cb g H E)
theorem GuO.meth{K:y0}{cg:GC}{g:X0}{H:Hp}{ws:List V0}{n:Nat}(h:GuO K cg H g ws n):∃dx rv,H g=some (.ins cg.g dx [("row",rv),("gone",.int n)]):=let⟨_,⟨dx,ra,a,_⟩,_,_,_⟩:=h;⟨dx,_,a⟩
theorem GuO.kq{K:y0}{cg:GC}{g:X0}{H H':Hp}{ws:List V0}{n:Nat}(h:GuO K cg H g ws n)(s:SY g H H'):Kq H H':=let⟨_,_,a⟩:=h.meth;Kq.sy s a
theorem sxt{g:X0}{H H' H'':Hp}(a:SY g H H')(b:SY g H' H''):SY g H H'':=a.trans b
theorem Z6W{m:Nat}(h:m<=1000):((m:Int)).natAbs.log2<1920:=by
 rw[Int.natAbs_natCast];by_cases hz:m=0
 ·rw[hz];decide
 ·rw[Nat.log2_lt hz];exact qh6 h (qb0 (by decide:1000<2^10) (Nat.pow_le_pow_right qS qS))
theorem Z9o{m:Nat}(h:m<=1000):(Str.ofString (toString (m:Int))).length<=2000:=by
 have e:=int_text_length_le (a:=(m:Int)) (k:=1920) qS (Z6W h);rw[ofString_length];omega
def Z1M(cg:GC)(cb ct:X0)(K:y0)(k:Nat):Sp:=λ vs H Q E=>∃(g:X0)(ws:List V0)(n least low deep:Nat),vs=[.ref g,.int least,.int low,.int deep]/\GuO K cg H g ws n/\1<=least/\1<=low/\RdT K cg cb ct g ws H Q E ((rd ws k).T least low deep n)
def J4j(cg:GC)(cb ct:X0)(K:y0)(k:Nat):Sp:=λ vs H Q E=>∃(g:X0)(ws:List V0)(n deep:Nat),vs=[.ref g,.int deep]/\GuO K cg H g ws n/\RdT K cg cb ct g ws H Q E (rIf ws (rd ws k) deep n)
def J1A(cg:GC)(cb ct:X0)(K:y0)(k:Nat):Sp:=λ vs H Q E=>∃(g:X0)(ws:List V0)(n low deep:Nat),vs=[.ref g,.int low,.int deep]/\GuO K cg H g ws n/\1<=low/\RdT K cg cb ct g ws H Q E (rLet ws (rd ws k) low deep n)
def Z5G(cg:GC)(cb:X0)(K:y0):Sp:=λ vs H Q E=>∃(g:X0)(ws:List V0)(n:Nat),vs=[.ref g]/\GuO K cg H g ws n/\To (rKind ws n) (λ x m=>∀H',SY g H H'->GuO K cg H' g ws m->Q (.str x) H') (BF cb g H E)
def Z5p(cg:GC)(cb:X0)(K:y0):Sp:=λ vs H Q E=>∃(g:X0)(ws:List V0)(n:Nat),vs=[.ref g]/\GuO K cg H g ws n/\To (rPair ws n) (λ x m=>∀v H',SY g H H'->GuO K cg H' g ws m->RT K H' v (.tuple [.str x.1,.str x.2])->Q v H') (BF cb g H E)
def Z3Y(cb:X0)(K:y0):Sp:=λ vs H Q E=>∃(l:X0)(xs:List V)(m:Nat),vs=[.ref l,.int m]/\H l=some (.lst xs)/\m<=1000/\if m<xs.length then(∀H',Same H H'->E (.ref cb) none H')else Q .non H
theorem Z2k{K:y0}{ct:X0}{c:Hp}{p:X0}{us:List V}{f:Fm}{l:Lb}{ps:List Tm}{Q:X0->Hp->Prop}(hp:SqL K c p us)(ht:TOs K ct c us ps)(ho:okF f l ps.length)(hl:ps.length<=20000)(q:∀x H',c x=none->Same c H'->TO K ct H' (.ref x) (.mk f l ps)->Q x H'):∀x b:X0,c x=none->c b=none->¬b=x->Z1o ct K [.ref x,.str f.s,lbV l,.ref p] (upd (upd c b (.own x)) x (.ins ct b [])) (λ v g=>v=.non/\Q x g) E0:=λ x b hx hb n=>by
 have s1:Same c (upd (upd c b (.own x)) x (.ins ct b [])):=λ a o e=>by
  rw[Z0h (Z0g e hx),Z0h (Z0g e hb)];exact e
 exact⟨x,b,p,f,l,us,ps,rfl,Z0e,SqL.same hp s1,ht.kp (Kp.of s1),ho,hl,λ H' s2 t=>⟨rfl,q x H' hx (λ a o e=>s2 _ _ (Z0g e hx) (s1 _ _ e)) t⟩⟩
theorem J2a(T:Txt P w K mg C_Guest Ct Cw Ch Cp C_BadForm D_STRENGTHS D_TRUTHS U_TOLD_WORDS)(h_Guest_takes:HasM P w K mg base 2 C_Guest "takes" ["self","word"] (Z1D ⟨C_Guest,C_tb,LP,LQ⟩ K))(h_Guest_need_name:HasMX P w K mg base 3 C_Guest "need_name" ["self"] (Z1U ⟨C_Guest,C_tb,LP,LQ⟩ C_BadForm K)):HasX P w K mg base 4 "read_kind" ["guest"] (Z5G ⟨C_Guest,C_tb,LP,LQ⟩ C_BadForm K):=by
 refine HasX.of T.O1w Z6P (λ _ _ _ _ _ _ us hl=>el1 us hl λ _=>rfl) (λ vs H Q E h=>?_) (λ f cdv A outer s H vs Q E hr h=>?_)
 ·obtain⟨g,ws,n,rfl,_⟩:=h;rfl
 obtain⟨g,ws,n,rfl,hg,q⟩:=h;obtain⟨dx,rv,h1⟩:=hg.meth;refine⟨_,(Z0a (Z0s (Z0Q (Z0T (pvF 0) T.Guest.cl h_Guest_takes hr qS (qI Z0c))) (Z0b (Z0k Z0c)) Z0m) (Z0a (Z0s (Z0Q (Z0T (pvF 0) T.Guest.cl h_Guest_takes hr qS (qI Z0c))) (Z0b (Z0k Z0c)) Z0m) (Z0b (Z0k (Z0K (pvF 0) T.Guest.cl h_Guest_need_name hr qS))))),?_⟩;walk_at "r";unfold RR.rKind at q;refine⟨dx,_,h1,rfl,⟨g,ws,n,_,rfl,hg,qP,ite2 (λ e=>?_) λ e=>?_⟩⟩
 ·rw[if_pos e]at q;exact λ H' s' g'=>⟨_,rfl,ite2 (λ _=>q H' s' g') λ z=>absurd rfl z⟩
 rw[if_neg e]at q;refine⟨_,rfl,ite2 (λ z=>by cases z) λ _=>⟨dx,_,h1,rfl,⟨g,ws,n,_,rfl,hg,qP,ite2 (λ e=>?_) λ e=>?_⟩⟩⟩
 ·rw[if_pos e]at q;exact λ H' s' g'=>⟨_,rfl,ite2 (λ _=>q H' s' g') λ z=>absurd rfl z⟩
 rw[if_neg e]at q;exact⟨_,rfl,ite2 (λ z=>by cases z) λ _=>⟨dx,_,h1,rfl,⟨g,ws,n,rfl,hg,q⟩⟩⟩
theorem J2u(T:Txt P w K mg C_Guest Ct Cw Ch Cp C_BadForm D_STRENGTHS D_TRUTHS U_TOLD_WORDS)(h_Guest_need_name:HasMX P w K mg base 3 C_Guest "need_name" ["self"] (Z1U ⟨C_Guest,C_tb,LP,LQ⟩ C_BadForm K))(O0J:HasX P w K mg base 4 "read_kind" ["guest"] (Z5G ⟨C_Guest,C_tb,LP,LQ⟩ C_BadForm K)):HasX P w K mg base 5 "read_pair" ["guest"] (Z5p ⟨C_Guest,C_tb,LP,LQ⟩ C_BadForm K):=by
 refine HasX.of T.O0I O0X (λ _ _ _ _ _ _ us hl=>el1 us hl λ _=>rfl) (λ vs H Q E h=>?_) (λ f cdv A outer s H vs Q E hr h=>?_)
 ·obtain⟨g,ws,n,rfl,_⟩:=h;rfl
 obtain⟨g,ws,n,rfl,hg,q⟩:=h;obtain⟨dx,rv,h1⟩:=hg.meth;refine⟨_,(Z0a (qG 1 O0X.nd (Z0K (pvF 0) T.Guest.cl h_Guest_need_name hr qS)) (Z0b (Z0k (Z0l (qJ (pvF 1) (Z0r O0J hr qS rfl (qI (pvF 0)))))))),?_⟩;walk_at "r";refine⟨dx,_,h1,rfl,⟨g,ws,n,rfl,hg,To.mono (To.bind q) (λ x m _ q H1 s1 g1=>⟨g,ws,m,rfl,g1,To.mono (To.bind q) (λ k j _ q H2 s2 g2=>New.of λ p3 H3 h3 s3 e3=>?_) λ b=>b.same s1⟩) λ b=>b⟩⟩;exact q _ H3 (sxt (sxt s1 s2) (SY.of s3)) (g2.same s3) (.tup (SqT.of e3) (.cons (.str _) (.cons (.str _) .nil)))
theorem Z9U(T:Txt P w K mg C_Guest Ct Cw Ch Cp C_BadForm D_STRENGTHS D_TRUTHS U_TOLD_WORDS):HasX P w K mg base 1 "need_few" ["found","most"] (Z3Y C_BadForm K):=by
 refine HasX.of T.O1G Z7E (λ _ _ _ _ _ _ us hl=>el2 us hl λ _ _=>rfl) (λ vs H Q E h=>?_) (λ f cdv A outer s H vs Q E hr h=>?_)
 ·obtain⟨g,ws,n,rfl,_⟩:=h;rfl
 obtain⟨l,xs,m,rfl,hl,hm,q⟩:=h;refine⟨_,(Z0b (Z0s (qM Z5A (qL T.z_len (qI (pvF 0))) (pvF 1)) (Z0b (Z0H T.x_BadForm hr rfl (qI (Z7C (Z3e Z0c (Z3e (J0S (pvF 1)) (Z3e Z0c Z9N))))))) Z0m)),?_⟩;walk_at "r";refine⟨_,.inl (SqL.of hl),ite2 (λ e=>?_) λ e=>?_⟩
 ·rw[if_pos (qg3.mp e)]at q;have l0:(Str.empty++("more than ":V0)).length=10:=by decide+kernel
  have l3:(" of a sort":V0).length=10:=by decide+kernel
  have lm:=Z9o hm;have l1:(Str.empty++("more than ":V0)++Str.ofString (toString ((m:Nat):Int))).length<=16777216:=by
   rw[<-K10.cds_len,K10.cds_app,qa5,K10.cds_len,K10.cds_len,l0];omega
  have l2:(Str.empty++("more than ":V0)++Str.ofString (toString ((m:Nat):Int))++(" of a sort":V0)).length<=16777216:=by
   rw[<-K10.cds_len,K10.cds_app,qa5,K10.cds_app,qa5,K10.cds_len,K10.cds_len,K10.cds_len,l0,l3];omega
  exact⟨by rw[l0];decide,.inl ⟨Z6W hm,l1,l2,l2,λ x hx=>q _ (Z0x hx _)⟩⟩
 ·rw[if_neg (λ z=>e (qg3.mpr z))]at q;exact q
theorem J6t(T:Txt P w K mg C_Guest Ct Cw Ch Cp C_BadForm D_STRENGTHS D_TRUTHS U_TOLD_WORDS){k:Nat}(h_Guest_need:HasMX P w K mg base 3 C_Guest "need" ["self","word"] (Z1O ⟨C_Guest,C_tb,LP,LQ⟩ C_BadForm K))(O0a:HasX P w K mg base (8*k+8) "read_term" ["guest","least","lowest","deep"] (Z1M ⟨C_Guest,C_tb,LP,LQ⟩ C_BadForm Ct K k))(h_Term___init__:HasM P w K mg base 2 Ct "__init__" ["self","form","label","parts"] (Z1o Ct K)):HasX P w K mg base (8*k+9) "read_if" ["guest","deep"] (J4j ⟨C_Guest,C_tb,LP,LQ⟩ C_BadForm Ct K k):=by
 refine HasX.of T.O1S O0D (λ _ _ _ _ _ _ us hl=>el2 us hl λ _ _=>rfl) (λ vs H Q E h=>?_) (λ f cdv A outer s H vs Q E hr h=>?_)
 ·obtain⟨g,ws,n,deep,rfl,_⟩:=h;rfl
 obtain⟨g,ws,n,deep,rfl,hg,q⟩:=h;refine⟨_,(Z0a (qG 2 O0D.nd (Z0r O0a hr qS rfl (Z0o (pvF 0) (qK (Z0C T.c_WEAKEST rfl) (Z0C T.c_WEAKEST rfl) (Z0n Z0S (pvF 1) Z0f))))) (Z0a (Z0t (Z0Y (pvF 0) T.Guest.cl h_Guest_need hr qS (qI Z0c))) (Z0a (qG 3 O0D.nd (Z0r O0a hr qS rfl (Z0o (pvF 0) (qK (Z0C T.c_WEAKEST rfl) (Z0C T.c_WEAKEST rfl) (Z0n Z0S (pvF 1) Z0f))))) (Z0a (Z0t (Z0Y (pvF 0) T.Guest.cl h_Guest_need hr qS (qI Z0c))) (Z0a (qG 4 O0D.nd (Z0r O0a hr qS rfl (Z0o (pvF 0) (qK (Z0C T.c_ABOVE_WEAKEST rfl) (Z0C T.c_ABOVE_WEAKEST rfl) (Z0n Z0S (pvF 1) Z0f))))) (Z0b (Z0k (Z1G T.Term h_Term___init__ hr qS rfl (qK Z0c Z0v (Z0E (qK (pvF 2) (pvF 3) (pvF 4)))))))))))),?_⟩;walk_at "r";unfold RR.rIf at q;refine⟨g,ws,n,1,1,deep+1,rfl,hg,qa0 _,qa0 _,To.mono (To.bind q) (λ t1 m1 _ q v1 H1 s1 g1 o1=>?_) λ b=>b⟩;obtain⟨dx,rv,m1'⟩:=g1.meth;refine⟨dx,_,m1',rfl,⟨g,ws,m1,_,rfl,g1,qP,qP,To.mono (To.bind q) (λ _ m2 _ q H2 s2 g2=>?_) λ b=>b.same s1⟩⟩;have S2:=sxt s1 s2;refine⟨g,ws,m2,1,1,deep+1,rfl,g2,qa0 _,qa0 _,To.mono (To.bind q) (λ t2 m3 _ q v2 H3 s3 g3 o3=>?_) λ b=>b.same S2⟩;obtain⟨dx,rv,m3'⟩:=g3.meth;have S3:=sxt S2 s3;refine⟨dx,_,m3',rfl,⟨g,ws,m3,_,rfl,g3,qP,qP,To.mono (To.bind q) (λ _ m4 _ q H4 s4 g4=>?_) λ b=>b.same S3⟩⟩;have S4:=sxt S3 s4;refine⟨g,ws,m4,2,2,deep+1,rfl,g4,qQ,qQ,To.mono (To.bind q) (λ t3 m5 _ q v3 H5 s5 g5 o5=>?_) λ b=>b.same S4⟩;have S5:=sxt S4 s5;refine New.of λ p6 H6 h6 s6 e6=>?_;have k3:=((g3.kq s4).trans (g4.kq s5)).trans (Kq.of s6);have k1:=((g1.kq s2).trans (g2.kq s3)).trans k3;exact Z2k (f:=.iff) (l:=.non) (SqL.of e6) (.cons (o1.kq k1) (.cons (o3.kq k3) (.cons (o5.kp (Kp.of s6)) .nil))) rfl (show 3<=20000 by decide) λ x H7 _ s7 t7=>q _ H7 (sxt S5 (SY.of (s6.trans s7))) ((g5.same s6).same s7) t7
theorem J5u(T:Txt P w K mg C_Guest Ct Cw Ch Cp C_BadForm D_STRENGTHS D_TRUTHS U_TOLD_WORDS){k:Nat}(h_Guest_need_name:HasMX P w K mg base 3 C_Guest "need_name" ["self"] (Z1U ⟨C_Guest,C_tb,LP,LQ⟩ C_BadForm K))(h_Guest_need:HasMX P w K mg base 3 C_Guest "need" ["self","word"] (Z1O ⟨C_Guest,C_tb,LP,LQ⟩ C_BadForm K))(O0a:HasX P w K mg base (8*k+8) "read_term" ["guest","least","lowest","deep"] (Z1M ⟨C_Guest,C_tb,LP,LQ⟩ C_BadForm Ct K k))(h_Term___init__:HasM P w K mg base 2 Ct "__init__" ["self","form","label","parts"] (Z1o Ct K)):HasX P w K mg base (8*k+9) "read_let" ["guest","lowest","deep"] (J1A ⟨C_Guest,C_tb,LP,LQ⟩ C_BadForm Ct K k):=by
 refine HasX.of T.O1H O0F (λ _ _ _ _ _ _ us hl=>el3 us hl λ _ _ _=>rfl) (λ vs H Q E h=>?_) (λ f cdv A outer s H vs Q E hr h=>?_)
 ·obtain⟨g,ws,n,low,deep,rfl,_⟩:=h;rfl
 obtain⟨g,ws,n,low,deep,rfl,hg,hlow,q⟩:=h;refine⟨_,(Z0a (qG 3 O0F.nd (Z0K (pvF 0) T.Guest.cl h_Guest_need_name hr qS)) (Z0a (Z0t (Z0Y (pvF 0) T.Guest.cl h_Guest_need hr qS (qI Z0c))) (Z0a (qG 4 O0F.nd (Z0r O0a hr qS rfl (Z0o (pvF 0) (qK (Z0C T.c_WEAKEST rfl) (Z0C T.c_WEAKEST rfl) (Z0n Z0S (pvF 2) Z0f))))) (Z0a (Z0t (Z0Y (pvF 0) T.Guest.cl h_Guest_need hr qS (qI Z0c))) (Z0b (Z0k (Z1G T.Term h_Term___init__ hr qS rfl (qK Z0c (pvF 3) (Z0E (qJ (pvF 4) (Z0r O0a hr qS rfl (Z0o (pvF 0) (qK (pvF 1) (pvF 1) (Z0n Z0S (pvF 2) Z0f)))))))))))))),?_⟩;walk_at "r";unfold RR.rLet at q;obtain⟨dx,rv,m0⟩:=hg.meth;refine⟨dx,_,m0,rfl,⟨g,ws,n,rfl,hg,To.mono (To.bind q) (λ x m1 _ q H1 s1 g1=>?_) λ b=>b⟩⟩;obtain⟨dx,rv,m1'⟩:=g1.meth;refine⟨dx,_,m1',rfl,⟨g,ws,m1,_,rfl,g1,qP,qP,To.mono (To.bind q) (λ _ m2 _ q H2 s2 g2=>?_) λ b=>b.same s1⟩⟩;have S2:=sxt s1 s2;refine⟨g,ws,m2,1,1,deep+1,rfl,g2,qa0 _,qa0 _,To.mono (To.bind q) (λ t2 m3 _ q v2 H3 s3 g3 o3=>?_) λ b=>b.same S2⟩;obtain⟨dx,rv,m3'⟩:=g3.meth;have S3:=sxt S2 s3;refine⟨dx,_,m3',rfl,⟨g,ws,m3,_,rfl,g3,qP,qP,To.mono (To.bind q) (λ _ m4 _ q H4 s4 g4=>?_) λ b=>b.same S3⟩⟩;have S4:=sxt S3 s4;refine⟨g,ws,m4,low,low,deep+1,rfl,g4,hlow,hlow,To.mono (To.bind q) (λ t3 m5 _ q v3 H5 s5 g5 o5=>?_) λ b=>b.same S4⟩;have S5:=sxt S4 s5;refine New.of λ p6 H6 h6 s6 e6=>?_;have k3:=((g3.kq s4).trans (g4.kq s5)).trans (Kq.of s6);exact Z2k (f:=.lt) (l:=.str x) (SqL.of e6) (.cons (o3.kq k3) (.cons (o5.kp (Kp.of s6)) .nil)) rfl (show 2<=20000 by decide) λ x H7 _ s7 t7=>q _ H7 (sxt S5 (SY.of (s6.trans s7))) ((g5.same s6).same s7) t7
open RR (Res ahead need needName Z0I rd rKind rPair rIf rLet rSet rPart rTail rPts rPointed rOne rTerms rList rMore stren Z7L eqs)
def Z3R(cg:GC)(cb ct:X0)(K:y0)(k:Nat):Sp:=λ vs H Q E=>∃(g:X0)(ws:List V0)(n low deep:Nat),vs=[.ref g,.int low,.int deep]/\GuO K cg H g ws n/\1<=low/\RdT K cg cb ct g ws H Q E ((rd ws k).Pt low deep n)
def J0X(cg:GC)(cb ct:X0)(K:y0)(k:Nat):Sp:=λ vs H Q E=>∃(g:X0)(ws:List V0)(n deep:Nat),vs=[.ref g,.int deep]/\GuO K cg H g ws n/\RdT K cg cb ct g ws H Q E (rOne ws (rd ws k) deep n)
def Z3a(cg:GC)(cb ct:X0)(K:y0)(k:Nat):Sp:=λ vs H Q E=>∃(g:X0)(ws:List V0)(n deep:Nat),vs=[.ref g,.int deep]/\GuO K cg H g ws n/\RdT K cg cb ct g ws H Q E (rPointed ws (rd ws k) deep n)
def J1O(cg:GC)(cb ct:X0)(K:y0)(k:Nat):Sp:=λ vs H Q E=>∃(g:X0)(ws:List V0)(n deep:Nat),vs=[.ref g,.int deep]/\GuO K cg H g ws n/\RdT K cg cb ct g ws H Q E (rSet ws (rd ws k) deep n)
def Z3g(cg:GC)(cb ct:X0)(K:y0)(k:Nat):Sp:=λ vs H Q E=>∃(g:X0)(ws:List V0)(n deep:Nat),vs=[.ref g,.int deep]/\GuO K cg H g ws n/\To (rTerms ws (rd ws k) deep n) (λ ts m=>∀l us H',SY g H H'->H l=none->GuO K cg H' g ws m->H' l=some (.lst us)->TOs K ct H' us ts->Q (.ref l) H') (BF cb g H E)
theorem J5v{f:Fm}(h:f≠.field):f.s≠("field":V0):=by
 cases f<;>first|exact absurd rfl h|decide+kernel
theorem Z5U{K:y0}{cg:GC}{cb ct g:X0}{ws:List V0}{H H1:Hp}{Q:VK}{E:XK}{r:Res Tm}(h:RdT K cg cb ct g ws H Q E r)(s:SY g H H1):RdT K cg cb ct g ws H1 Q E r:=To.mono h (λ _ _ _ q v H' s' g' t'=>q v H' (s.trans s') g' t') λ b=>b.same s
def PtI(K:y0)(cg:GC)(cb ct g:X0)(ws:List V0)(H:Hp)(Q:VK)(E:XK)(k deep j:Nat)(σ:St)(H':Hp):Prop:=∃v t m nm,σ=[some (V.ref g),some (V.int deep),some v,nm]/\SY g H H'/\GuO K cg H' g ws m/\TO K ct H' v t/\RdT K cg cb ct g ws H Q E (rPts ws (rd ws k) deep j t m)
def TlI(K:y0)(cg:GC)(cb ct g:X0)(ws:List V0)(H:Hp)(Q:VK)(E:XK)(k least low deep j:Nat)(σ:St)(H':Hp):Prop:=∃v t m sg rt,σ=[some (V.ref g),some (V.int least),some (V.int low),some (V.int deep),some v,sg,rt]/\SY g H H'/\GuO K cg H' g ws m/\TO K ct H' v t/\RdT K cg cb ct g ws H Q E (rTail ws (rd ws k) least low deep j t m)
theorem Z6D(x:V0):(valV Z1C (Sum.inr x)).getD (.int 0)=.int (stren x):=by
 by_cases h1:x=";"
 ·subst h1;decide+kernel
 by_cases h2:x="<"
 ·subst h2;decide+kernel
 by_cases h3:x="="
 ·subst h3;decide+kernel
 by_cases h4:x="+"
 ·subst h4;decide+kernel
 by_cases h5:x="-"
 ·subst h5;decide+kernel
 by_cases h6:x="*"
 ·subst h6;decide+kernel
 by_cases h7:x="/"
 ·subst h7;decide+kernel
 unfold RR.stren;rw[if_neg h1,if_neg h2,if_neg h3,if_neg h4,if_neg h5,if_neg h6,if_neg h7];unfold Z1C;rw[Z1B (λ z=>h1 (Sum.inr.inj z).symm),Z1B (λ z=>h2 (Sum.inr.inj z).symm),Z1B (λ z=>h3 (Sum.inr.inj z).symm),Z1B (λ z=>h4 (Sum.inr.inj z).symm),Z1B (λ z=>h5 (Sum.inr.inj z).symm),Z1B (λ z=>h6 (Sum.inr.inj z).symm),Z1B (λ z=>h7 (Sum.inr.inj z).symm)];rfl
theorem Z9k{x:V0}(h:1<=stren x):valV Z1C (Sum.inr x)=some (.int (stren x)):=by
 have e:=Z6D x;cases z:valV Z1C (Sum.inr x)with
 |some v=>rw[z]at e;exact congrArg some e
 |none=>
  rw[z]at e;have:(0:Int)=(stren x:Int):=V.int.inj e;omega
theorem J3Q(a:V0):inV (.str a) [.str "<",.str "="]=eqs a:=by
 unfold RR.eqs;by_cases h:a="<"
 ·subst h;decide+kernel
 by_cases h':a="="
 ·subst h';decide+kernel
 rw[beq_eq_false_iff_ne.mpr h,beq_eq_false_iff_ne.mpr h'];show((("<":V0)==a)||((("=":V0)==a)||false))=false;rw[beq_eq_false_iff_ne.mpr (Ne.symm h),beq_eq_false_iff_ne.mpr (Ne.symm h')];rfl
theorem J4S(T:Txt P w K mg C_Guest Ct Cw Ch Cp C_BadForm D_STRENGTHS D_TRUTHS U_TOLD_WORDS){k:Nat}(h_Guest_behind:HasM P w K mg base 1 C_Guest "behind" ["self"] (Z4T ⟨C_Guest,C_tb,LP,LQ⟩ K))(h_Guest_need:HasMX P w K mg base 3 C_Guest "need" ["self","word"] (Z1O ⟨C_Guest,C_tb,LP,LQ⟩ C_BadForm K))(O0w:HasX P w K mg base (8*k+13) "read_pointed" ["guest","deep"] (Z3a ⟨C_Guest,C_tb,LP,LQ⟩ C_BadForm Ct K k))(O0a:HasX P w K mg base (8*k+8) "read_term" ["guest","least","lowest","deep"] (Z1M ⟨C_Guest,C_tb,LP,LQ⟩ C_BadForm Ct K k))(h_Term_parts:HasM P w K mg base 1 Ct "parts" ["self"] (Z6Z Ct K))(h_Term___init__:HasM P w K mg base 2 Ct "__init__" ["self","form","label","parts"] (Z1o Ct K)):HasX P w K mg base (8*k+14) "read_set" ["guest","deep"] (J1O ⟨C_Guest,C_tb,LP,LQ⟩ C_BadForm Ct K k):=by
 refine HasX.of T.O1I O0G (λ _ _ _ _ _ _ us hl=>el2 us hl λ _ _=>rfl) (λ vs H Q E h=>?_) (λ f cdv A outer s H vs Q E hr h=>?_)
 ·obtain⟨g,ws,n,deep,rfl,_⟩:=h;rfl
 obtain⟨g,ws,n,deep,rfl,hg,q⟩:=h;refine⟨_,(Z0a (qG 2 O0G.nd (Z0r O0w hr qS rfl (qJ (pvF 0) (pvF 1)))) (Z0a (Z0s (PW.pt (J4J (qM J4U (qO 2) Z0c) (Z9O (qM Z1t (Z0u (pvF 0) T.Guest.cl h_Guest_behind hr qS) Z0c)))) (Z0b (Z0H T.x_BadForm hr rfl (qI Z0c))) Z0m) (Z0a (Z0t (Z0Y (pvF 0) T.Guest.cl h_Guest_need hr qS (qI Z0c))) (Z0a (qG 3 O0G.nd (Z0r O0a hr qS rfl (Z0o (pvF 0) (qK (Z0C T.c_ABOVE_WEAKEST rfl) (Z0C T.c_ABOVE_WEAKEST rfl) (Z0n Z0S (pvF 1) Z0f))))) (Z0b (Z0k (Z1G T.Term h_Term___init__ hr qS rfl (qK Z0c (qO 2) (Z0n Z8D (Z0u (pvF 2) T.Term.cl h_Term_parts hr qS) (Z0E (qI (pvF 3)))))))))))),?_⟩;walk_at "r";unfold RR.rSet at q;refine⟨g,ws,n,deep,rfl,hg,To.mono (To.bind q) (λ t m et q v H1 s1 g1 o1=>?_) λ b=>b⟩;obtain⟨f,l,ps⟩:=t;have o1':=o1;cases o1 with
 |@mk a dx inn sh _ _ _ us zs t1 t2 t3 t4 t5=>
 obtain⟨q1,q2,q3⟩:=RR.rPointed_good (RR.rd_good ws k) deep n _ _ et;refine⟨a,rfl,⟨Ct,dx,_,t1,T.Term.cl,T.n_Term_form,_,rfl,rfl,ite2 (λ e=>?_) λ e=>?_⟩⟩
 ·have nf:f≠.field:=λ z=>e (by rw[z];rfl);have q:BF C_BadForm g H E:=by
   cases f<;>first|exact absurd rfl nf|exact q
  exact λ x hx=>(q.same s1).new hx
 have hf:f=.field:=qf0 λ z=>e λ y=>J5v z (V.str.inj y);subst hf;obtain⟨gx,rv,h1⟩:=g1.meth;refine⟨gx,_,h1,rfl,⟨g,ws,m,rfl,g1,by rw[RR.szL]at q3;omega,rfl,ite2 (λ e=>?_) λ e=>?_⟩⟩
 ·have q:BF C_BadForm g H E:=by
   have q:=show To (if ws.getD (m-1) ""=")" then(Res.bad:Res Tm)else _) _ _ from q
   rw[if_pos (V.str.inj e)]at q;exact q
  exact λ x hx=>(q.same s1).new hx
 have q:=show To (if ws.getD (m-1) ""=")" then Res.bad else _) _ _ from q
 rw[if_neg (λ z=>e (by rw[z]))]at q;refine⟨gx,_,h1,rfl,⟨g,ws,m,_,rfl,g1,qP,qP,To.mono (To.bind q) (λ _ m2 _ q H2 s2 g2=>?_) λ b=>b.same s1⟩⟩;have S2:=sxt s1 s2;refine⟨g,ws,m2,2,2,deep+1,rfl,g2,qQ,qQ,To.mono (To.bind q) (λ u m3 _ q v3 H3 s3 g3 o3=>?_) λ b=>b.same S2⟩;have S3:=sxt S2 s3;have k3:=(g1.kq s2).trans (g2.kq s3);have o1'':=o1'.kq k3;refine⟨a,rfl,⟨Ct,dx,_,k3.i _ _ _ _ _ _ Z5e t1,T.Term.cl,T.n_Term_label,_,rfl,a,rfl,⟨dx,_,k3.i _ _ _ _ _ _ Z5e t1,rfl,⟨_,_,rfl,o1'',λ l4 us4 h4 hus=>?_⟩⟩⟩⟩;have hus:TOs K Ct H3 us4 ps:=hus;have s4:=Z0x h4 (.lst us4);have e4:upd H3 l4 (.lst us4) l4=some (.lst us4):=Z0e;generalize upd H3 l4 (.lst us4)=H4 at*;have lu:=hus.length;have lp:ps.length=1:=by
  cases q2 with
  |mk o _=>cases l<;>first|exact o.elim|exact o
 refine New.of λ p5 H5 h5 s5 e5=>⟨l4,rfl,_,s5 _ _ e4,_,e5,(show us4.length+1<=16777216 by rw[lu,lp];decide),New.of λ p6 H6 h6 s6 e6=>?_⟩;have S6:=s4.trans (s5.trans s6);refine Z2k (f:=.set) (l:=l) (SqL.of e6) (TOs.app (hus.kp (Kp.of S6)) (.cons (o3.kp (Kp.of S6)) .nil)) ?_ (show(ps++[u]).length<=20000 by rw[qa5,lp];show 1+1<=_;decide) λ x H7 _ s7 t7=>q _ H7 (sxt S3 (SY.of (S6.trans s7))) ((g3.same S6).same s7) t7;rw[qa5,lp];cases q2 with
 |mk o _=>cases l<;>first|exact o.elim|rfl
theorem J2y(T:Txt P w K mg C_Guest Ct Cw Ch Cp C_BadForm D_STRENGTHS D_TRUTHS U_TOLD_WORDS){k:Nat}(h_Guest_takes:HasM P w K mg base 2 C_Guest "takes" ["self","word"] (Z1D ⟨C_Guest,C_tb,LP,LQ⟩ K))(O0K:HasX P w K mg base (8*k+7) "read_part" ["guest","lowest","deep"] (Z3R ⟨C_Guest,C_tb,LP,LQ⟩ C_BadForm Ct K k))(O1U:HasX P w K mg base (8*k+9) "read_if" ["guest","deep"] (J4j ⟨C_Guest,C_tb,LP,LQ⟩ C_BadForm Ct K k))(O1M:HasX P w K mg base (8*k+9) "read_let" ["guest","lowest","deep"] (J1A ⟨C_Guest,C_tb,LP,LQ⟩ C_BadForm Ct K k))(O1N:HasX P w K mg base (8*k+14) "read_set" ["guest","deep"] (J1O ⟨C_Guest,C_tb,LP,LQ⟩ C_BadForm Ct K k))(O0w:HasX P w K mg base (8*k+13) "read_pointed" ["guest","deep"] (Z3a ⟨C_Guest,C_tb,LP,LQ⟩ C_BadForm Ct K k))(h_Term___init__:HasM P w K mg base 2 Ct "__init__" ["self","form","label","parts"] (Z1o Ct K)):HasX P w K mg base (8*k+15) "read_part" ["guest","lowest","deep"] (Z3R ⟨C_Guest,C_tb,LP,LQ⟩ C_BadForm Ct K (k+1)):=by
 refine HasX.of T.O1d Z3H (λ _ _ _ _ _ _ us hl=>el3 us hl λ _ _ _=>rfl) (λ vs H Q E h=>?_) (λ f cdv A outer s H vs Q E hr h=>?_)
 ·obtain⟨g,ws,n,low,deep,rfl,_⟩:=h;rfl
 obtain⟨g,ws,n,low,deep,rfl,hg,hlow,q⟩:=h;refine⟨_,(Z0a (Z0s (qM Z5A (pvF 2) (Z0C T.c_MOST_DEEP rfl)) (Z0b (Z0H T.x_BadForm hr rfl (qI Z0c))) Z0m) (Z0a (Z0s (Z0Q (Z0T (pvF 0) T.Guest.cl h_Guest_takes hr qS (qI Z0c))) (Z0b (Z0k (Z1G T.Term h_Term___init__ hr qS rfl (qK Z0c Z0v (Z0E (qI (Z0r O0K hr qS rfl (qK (pvF 0) (pvF 1) (Z0n Z0S (pvF 2) Z0f))))))))) Z0m) (Z0a (Z0s (Z0Q (Z0T (pvF 0) T.Guest.cl h_Guest_takes hr qS (qI Z0c))) (Z0b (Z0k (Z0r O1U hr qS rfl (qJ (pvF 0) (pvF 2))))) Z0m) (Z0a (Z0s (Z0Q (Z0T (pvF 0) T.Guest.cl h_Guest_takes hr qS (qI Z0c))) (Z0b (Z0k (Z0r O1M hr qS rfl (qK (pvF 0) (pvF 1) (pvF 2))))) Z0m) (Z0a (Z0s (Z0Q (Z0T (pvF 0) T.Guest.cl h_Guest_takes hr qS (qI Z0c))) (Z0b (Z0k (Z0r O1N hr qS rfl (qJ (pvF 0) (pvF 2))))) Z0m) (Z0b (Z0k (Z0r O0w hr qS rfl (qJ (pvF 0) (pvF 2)))))))))),?_⟩;walk_at "r";have q:RdT K ⟨C_Guest,C_tb,LP,LQ⟩ C_BadForm Ct g ws H Q E (rPart ws (rd ws k) low deep n):=q;unfold RR.rPart at q;obtain⟨dx,rv,h1⟩:=hg.meth;refine ite2 (λ e=>?_) λ e=>?_
 ·rw[if_pos (qg3.mp e)]at q;exact λ x hx=>BF.new q hx
 rw[if_neg (λ z=>e (qg3.mpr z))]at q;refine⟨dx,_,h1,rfl,⟨g,ws,n,_,rfl,hg,qP,ite2 (λ e=>?_) λ e=>?_⟩⟩
 ·rw[if_pos e]at q;refine λ H1 s1 g1=>⟨_,rfl,ite2 (λ _=>?_) λ z=>absurd rfl z⟩;refine⟨g,ws,n+1,low,deep+1,rfl,g1,hlow,To.mono (To.bind q) (λ t m _ q v H2 s2 g2 o2=>?_) λ b=>b.same s1⟩;refine New.of λ p3 H3 h3 s3 e3=>?_;exact Z2k (f:=.nt) (l:=.non) (SqL.of e3) (.cons (o2.kp (Kp.of s3)) .nil) rfl (show 1<=20000 by decide) λ x H4 _ s4 t4=>q _ H4 (sxt (sxt s1 s2) (SY.of (s3.trans s4))) ((g2.same s3).same s4) t4
 rw[if_neg e]at q;refine⟨_,rfl,ite2 (λ z=>by cases z) λ _=>⟨dx,_,h1,rfl,⟨g,ws,n,_,rfl,hg,qP,ite2 (λ e=>?_) λ e=>?_⟩⟩⟩
 ·rw[if_pos e]at q;exact λ H1 s1 g1=>⟨_,rfl,ite2 (λ _=>⟨g,ws,n+1,deep,rfl,g1,Z5U q s1⟩) λ z=>absurd rfl z⟩
 rw[if_neg e]at q;refine⟨_,rfl,ite2 (λ z=>by cases z) λ _=>⟨dx,_,h1,rfl,⟨g,ws,n,_,rfl,hg,qP,ite2 (λ e=>?_) λ e=>?_⟩⟩⟩
 ·rw[if_pos e]at q;exact λ H1 s1 g1=>⟨_,rfl,ite2 (λ _=>⟨g,ws,n+1,low,deep,rfl,g1,hlow,Z5U q s1⟩) λ z=>absurd rfl z⟩
 rw[if_neg e]at q;refine⟨_,rfl,ite2 (λ z=>by cases z) λ _=>⟨dx,_,h1,rfl,⟨g,ws,n,_,rfl,hg,qP,ite2 (λ e=>?_) λ e=>?_⟩⟩⟩
 ·rw[if_pos e]at q;exact λ H1 s1 g1=>⟨_,rfl,ite2 (λ _=>⟨g,ws,n+1,deep,rfl,g1,Z5U q s1⟩) λ z=>absurd rfl z⟩
 rw[if_neg e]at q;exact⟨_,rfl,ite2 (λ z=>by cases z) λ _=>⟨g,ws,n,deep,rfl,hg,q⟩⟩
theorem Z7V(T:Txt P w K mg C_Guest Ct Cw Ch Cp C_BadForm D_STRENGTHS D_TRUTHS U_TOLD_WORDS){k:Nat}(h_Guest_takes:HasM P w K mg base 2 C_Guest "takes" ["self","word"] (Z1D ⟨C_Guest,C_tb,LP,LQ⟩ K))(h_Guest_ahead:HasM P w K mg base 1 C_Guest "ahead" ["self"] (Z1E ⟨C_Guest,C_tb,LP,LQ⟩ K))(h_Guest_need_name:HasMX P w K mg base 3 C_Guest "need_name" ["self"] (Z1U ⟨C_Guest,C_tb,LP,LQ⟩ C_BadForm K))(O0u:HasX P w K mg base (8*k+11) "read_terms" ["guest","deep"] (Z3g ⟨C_Guest,C_tb,LP,LQ⟩ C_BadForm Ct K k))(O1O:HasX P w K mg base (8*k+12) "read_one" ["guest","deep"] (J0X ⟨C_Guest,C_tb,LP,LQ⟩ C_BadForm Ct K k))(h_Term___init__:HasM P w K mg base 2 Ct "__init__" ["self","form","label","parts"] (Z1o Ct K)):HasX P w K mg base (8*k+13) "read_pointed" ["guest","deep"] (Z3a ⟨C_Guest,C_tb,LP,LQ⟩ C_BadForm Ct K k):=by
 refine HasX.of T.O1f O0h (λ _ _ _ _ _ _ us hl=>el2 us hl λ _ _=>rfl) (λ vs H Q E h=>?_) (λ f cdv A outer s H vs Q E hr h=>?_)
 ·obtain⟨g,ws,n,deep,rfl,_⟩:=h;rfl
 obtain⟨g,ws,n,deep,rfl,hg,q⟩:=h;refine⟨_,(Z0a (qG 2 O0h.nd (Z0r O1O hr qS rfl (qJ (pvF 0) (pvF 1)))) (Z0a (Z2c (Z0F rfl rfl) (Z0Q (Z0T (pvF 0) T.Guest.cl h_Guest_takes hr qS (qI Z0c))) (Z0a (qG 3 O0h.nd (Z0K (pvF 0) T.Guest.cl h_Guest_need_name hr qS)) (Z0b (Z0s (qM Z1t (Z0u (pvF 0) T.Guest.cl h_Guest_ahead hr qS) Z0c) (Z0b (qG 2 O0h.nd (Z1G T.Term h_Term___init__ hr qS rfl (qK Z0c (pvF 3) (Z0n Z8D (Z0E (qI (pvF 2))) (Z0r O0u hr qS rfl (qJ (pvF 0) (Z0n Z0S (pvF 1) Z0f)))))))) (Z0b (qG 2 O0h.nd (Z1G T.Term h_Term___init__ hr qS rfl (qK Z0c (pvF 3) (Z0E (qI (pvF 2))))))))))) (Z0b (Z0k (pvF 2))))),?_⟩;walk_at "r";unfold RR.rPointed at q;refine⟨g,ws,n,deep,rfl,hg,To.mono (To.bind q) (λ t m et q v H1 s1 g1 o1=>?_) λ b=>b⟩;refine⟨PtI K ⟨C_Guest,C_tb,LP,LQ⟩ C_BadForm Ct g ws H Q E k deep,⟨_,v,t,m,none,rfl,s1,g1,o1,q⟩,?_⟩;rintro j σ H' ⟨v,t,m,nm,rfl,s1,g1,o1,q⟩;cases j with
 |zero=>exact q.elim
 |succ j=>
 obtain⟨gx,rv,h1⟩:=g1.meth;walk_at "r";unfold RR.rPts at q;refine⟨gx,_,h1,rfl,⟨g,ws,m,_,rfl,g1,qP,ite2 (λ e=>?_) λ e=>?_⟩⟩
 ·rw[if_pos e]at q;refine λ H2 s2 g2=>⟨_,rfl,ite2 (λ _=>?_) λ z=>absurd rfl z⟩;refine⟨PtI K ⟨C_Guest,C_tb,LP,LQ⟩ C_BadForm Ct g ws H Q E k deep j,λ _ _ z=>⟨j,qc9 _,z⟩,?_⟩;obtain⟨gx,rv,h2⟩:=g2.meth;have S2:=sxt s1 s2;refine⟨gx,_,h2,rfl,⟨g,ws,m+1,rfl,g2,To.mono (To.bind q) (λ x m3 _ q H3 s3 g3=>?_) λ b=>b.same S2⟩⟩;obtain⟨gx,rv,h3⟩:=g3.meth;have S3:=sxt S2 s3;have o3:=(o1.kq (g1.kq s2)).kq (g2.kq s3);refine⟨gx,_,h3,rfl,⟨g,ws,m3,rfl,g3,rfl,ite2 (λ e=>?_) λ e=>?_⟩⟩
  ·rw[if_pos (V.str.inj e)]at q;refine New.of λ p4 H4 h4 s4 e4=>⟨g,ws,m3,deep+1,rfl,g3.same s4,To.mono (To.bind q) (λ ts m5 et q l5 us H5 s5 h5 g5 e5 o5=>?_) λ b=>b.same (sxt S3 (SY.of s4))⟩;have n4:p4≠g:=nq h3 h4;obtain⟨_,_,_,r4⟩:=RR.rTerms_good (RR.rd_good ws k) _ _ _ _ et;have lu:=o5.length;refine⟨l5,rfl,_,s5.lst n4 e4,_,e5,(show 1+us.length<=16777216 by omega),New.of λ p6 H6 h6 s6 e6=>?_⟩;have k4:=(Kq.of s4).trans (((g3.same s4).kq s5).trans (Kq.of s6));refine Z2k (f:=.call) (l:=.str x) (SqL.of e6) (.cons (o3.kq k4) (o5.kp (Kp.of s6))) (show 1<=ts.length+1 by omega) (show ts.length+1<=20000 by omega) λ y H7 _ s7 t7=>⟨_,_,m5,_,rfl,sxt S3 (sxt (SY.of s4) (sxt s5 (SY.of (s6.trans s7)))),(g5.same s6).same s7,t7,q⟩
  ·rw[if_neg (λ z=>e (by rw[z]))]at q;refine New.of λ p4 H4 h4 s4 e4=>?_;exact Z2k (f:=.field) (l:=.str x) (SqL.of e4) (.cons (o3.kp (Kp.of s4)) .nil) rfl (show 1<=20000 by decide) λ y H7 _ s7 t7=>⟨_,_,m3,_,rfl,sxt S3 (SY.of (s4.trans s7)),(g3.same s4).same s7,t7,q⟩
 ·rw[if_neg e]at q;exact⟨_,rfl,ite2 (λ z=>by cases z) λ _=>q _ _ s1 g1 o1⟩
theorem J3g(T:Txt P w K mg C_Guest Ct Cw Ch Cp C_BadForm D_STRENGTHS D_TRUTHS U_TOLD_WORDS){k:Nat}(h_Guest_ahead:HasM P w K mg base 1 C_Guest "ahead" ["self"] (Z1E ⟨C_Guest,C_tb,LP,LQ⟩ K))(h_Guest_take:HasMX P w K mg base 2 C_Guest "take" ["self"] (Z3T ⟨C_Guest,C_tb,LP,LQ⟩ C_BadForm K))(O0K:HasX P w K mg base (8*k+15) "read_part" ["guest","lowest","deep"] (Z3R ⟨C_Guest,C_tb,LP,LQ⟩ C_BadForm Ct K (k+1)))(O0a:HasX P w K mg base (8*k+8) "read_term" ["guest","least","lowest","deep"] (Z1M ⟨C_Guest,C_tb,LP,LQ⟩ C_BadForm Ct K k))(h_Term___init__:HasM P w K mg base 2 Ct "__init__" ["self","form","label","parts"] (Z1o Ct K)):HasX P w K mg base (8*k+16) "read_term" ["guest","least","lowest","deep"] (Z1M ⟨C_Guest,C_tb,LP,LQ⟩ C_BadForm Ct K (k+1)):=by
 refine HasX.of T.O1c O0g (λ _ _ _ _ _ _ us hl=>el4 us hl λ _ _ _ _=>rfl) (λ vs H Q E h=>?_) (λ f cdv A outer s H vs Q E hr h=>?_)
 ·obtain⟨g,ws,n,least,low,deep,rfl,_⟩:=h;rfl
 obtain⟨g,ws,n,least,low,deep,rfl,hg,hle,hlow,q⟩:=h;refine⟨_,(Z0a (qG 4 O0g.nd (Z0r O0K hr qS rfl (qK (pvF 0) (pvF 2) (pvF 3)))) (Z0a (Z2c (Z0F rfl rfl) (qM J8p (J3w T.d_STRENGTHS (J8M hr) (Z0C T.c_STRENGTHS rfl) (Z0u (pvF 0) T.Guest.cl h_Guest_ahead hr qS) Z0f ⟨rfl,rfl,rfl,rfl⟩) (pvF 1)) (Z0a (qG 5 O0g.nd (Z0K (pvF 0) T.Guest.cl h_Guest_take hr qS)) (Z0a (Z0s (qM Z1t (pvF 5) Z0c) (Z0b (qG 6 O0g.nd (Z0r O0a hr qS rfl (Z0o (pvF 0) (qK (Z0C T.c_WEAKEST rfl) (pvF 2) (Z0n Z0S (pvF 3) Z0f)))))) (Z0b (qG 6 O0g.nd (Z0r O0a hr qS rfl (Z0o (pvF 0) (qK (Z0n Z0S (J1f T.d_STRENGTHS (Z0C T.c_STRENGTHS rfl) (pvF 5) (λ _ _=>rfl)) Z0f) (pvF 2) (Z0n Z0S (pvF 3) Z0f))))))) (Z0a (qG 4 O0g.nd (Z1G T.Term h_Term___init__ hr qS rfl (qK Z0c (pvF 5) (Z0E (qJ (pvF 4) (pvF 6)))))) (Z0b (Z0s (PW.pt (Z6C (Z1a (r:=rIn K false) Z1W (pvF 5) (Z0l (qJ Z0c Z0c)) (by with_unfolding_all rfl)) (Z4z (Z1a (r:=rIn K false) Z1W (Z0u (pvF 0) T.Guest.cl h_Guest_ahead hr qS) (Z0l (qJ Z0c Z0c)) (by with_unfolding_all rfl))))) (Z0b (Z0H T.x_BadForm hr rfl (qI Z0c))) Z0m)))))) (Z0b (Z0k (pvF 4))))),?_⟩;walk_at "r";have q:RdT K ⟨C_Guest,C_tb,LP,LQ⟩ C_BadForm Ct g ws H Q E ((rPart ws (rd ws k) low deep n).bind λ t m=>rTail ws (rd ws k) least low deep (ws.length+1) t m):=q;refine⟨g,ws,n,low,deep,rfl,hg,hlow,To.mono (To.bind q) (λ t m et q v H1 s1 g1 o1=>?_) λ b=>b⟩;refine⟨TlI K ⟨C_Guest,C_tb,LP,LQ⟩ C_BadForm Ct g ws H Q E k least low deep,⟨_,v,t,m,none,none,rfl,s1,g1,o1,q⟩,?_⟩;rintro j σ H' ⟨v,t,m,sg,rt,rfl,s1,g1,o1,q⟩;cases j with
 |zero=>exact q.elim
 |succ j=>
 obtain⟨gx,rv,h1⟩:=g1.meth;walk_at "r";unfold RR.rTail at q;refine⟨gx,_,h1,rfl,⟨g,ws,m,rfl,g1,.inr (ahead ws m),rfl,?_⟩⟩;rw[Z6D];refine⟨_,rfl,ite2 (λ e=>?_) λ e=>?_⟩
 ·rw[if_pos (Int.ofNat_le.mp e)]at q;have hs1:1<=stren (ahead ws m):=qa1 hle (Int.ofNat_le.mp e);have ne:ahead ws m≠"":=λ z=>by rw[z,RR.stren_ne]at hs1;cases hs1
  refine⟨TlI K ⟨C_Guest,C_tb,LP,LQ⟩ C_BadForm Ct g ws H Q E k least low deep j,λ _ _ z=>⟨j,qc9 _,z⟩,⟨gx,_,h1,rfl,⟨g,ws,m,rfl,g1,?_⟩⟩⟩;rw[if_neg ne];intro H2 s2 g2;have S2:=sxt s1 s2;have fin:∀{v3:V}{H3 H4 H5 H6:Hp}{u:Tm}{m3:Nat}{x:X0},RdT K ⟨C_Guest,C_tb,LP,LQ⟩ C_BadForm Ct g ws H Q E (if(eqs (ahead ws m)&&eqs (ahead ws m3))=true then .bad else rTail ws (rd ws k) least low deep j (.mk .two (.str (ahead ws m)) [t,u]) m3)->SY g H2 H3->GuO K ⟨C_Guest,C_tb,LP,LQ⟩ H3 g ws m3->Same H3 H4->Same H4 H5->Same H5 H6->TO K Ct H5 (.ref x) (.mk .two (.str (ahead ws m)) [t,u])->
    if inV (V.str (ahead ws m)) [V.str (Str.ofString "<"),V.str (Str.ofString "=")]=true then
     Z9b C_Guest (Str.ofString "ahead") g H6 (Z1E ⟨C_Guest,C_tb,LP,LQ⟩ K [V.ref g] H6 (λ x_3 e=>New e (HO.tup [V.str (Str.ofString "<"),V.str (Str.ofString "=")]) λ p c=>∃ x_4,(SqL K c p x_4\/SqT K c p x_4)/\Z3c x_3=true/\x_4.all Z3c=true /\ if inV x_3 x_4=true then ∀ (x:X0),c x=none->E (Value.ref C_BadForm) none (upd c x (excO x C_BadForm none))
      else TlI K ⟨C_Guest,C_tb,LP,LQ⟩ C_BadForm Ct g ws H Q E k least low deep j [some (V.ref g),some (V.int least),some (V.int low),some (V.int deep),some (V.ref x),some (V.str (ahead ws m)),some v3] c) E0)
    else TlI K ⟨C_Guest,C_tb,LP,LQ⟩ C_BadForm Ct g ws H Q E k least low deep j [some (V.ref g),some (V.int least),some (V.int low),some (V.int deep),some (V.ref x),some (V.str (ahead ws m)),some v3] H6:=λ{v3 H3 H4 H5 H6 u m3 x} q s3 g3 s4 s5 s6 t5=>by
   have S6:=s4.trans (s5.trans s6);have g6:=g3.same S6;have SS:=sxt (sxt S2 s3) (SY.of S6);rw[J3Q];refine ite2 (λ e=>?_) λ e=>?_
   ·rw[e,Bool.true_and]at q;obtain⟨gx,rv,h6⟩:=g6.meth;refine⟨gx,_,h6,rfl,⟨g,ws,m3,rfl,g6,New.of λ p7 H7 h7 s7 e7=>⟨_,.inr (SqT.of e7),rfl,rfl,?_⟩⟩⟩;rw[J3Q];refine ite2 (λ e=>?_) λ e=>?_
    ·rw[if_pos e]at q;exact λ x hx=>(BF.same q (sxt SS (SY.of s7))).new hx
    ·rw[if_neg e]at q;exact⟨_,_,m3,_,_,rfl,sxt SS (SY.of s7),g6.same s7,(t5.kp (Kp.of s6)).kp (Kp.of s7),q⟩
   ·rw[if_neg (λ z=>e (qi3.mp z).1)]at q;exact⟨_,_,m3,_,_,rfl,SS,g6,t5.kp (Kp.of s6),q⟩
  refine⟨rfl,ite2 (λ e=>?_) λ e=>?_⟩
  ·rw[if_pos (V.str.inj e)]at q;refine⟨g,ws,m+1,1,low,deep+1,rfl,g2,qa0 _,hlow,To.mono (To.bind q) (λ u m3 _ q v3 H3 s3 g3 o3=>New.of λ p4 H4 h4 s4 e4=>Z2k (f:=.two) (l:=.str (ahead ws m)) (SqL.of e4) (.cons (((o1.kq (g1.kq s2)).kq (g2.kq s3)).kp (Kp.of s4)) (.cons (o3.kp (Kp.of s4)) .nil)) rfl (show 2<=20000 by decide) λ x H5 h5 s5 t5=>New.of λ p6 H6 h6 s6 e6=>⟨_,.inr (SqT.of e6),rfl,rfl,?_⟩) λ b=>b.same S2⟩;exact fin q s3 g3 s4 s5 s6 t5
  ·rw[if_neg (λ z=>e (by rw[z]))]at q;refine⟨.inr (ahead ws m),rfl,_,Z9k hs1,_,rfl,g,ws,m+1,stren (ahead ws m)+1,low,deep+1,rfl,g2,qi2 (qb4 _),hlow,To.mono (To.bind q) (λ u m3 _ q v3 H3 s3 g3 o3=>New.of λ p4 H4 h4 s4 e4=>Z2k (f:=.two) (l:=.str (ahead ws m)) (SqL.of e4) (.cons (((o1.kq (g1.kq s2)).kq (g2.kq s3)).kp (Kp.of s4)) (.cons (o3.kp (Kp.of s4)) .nil)) rfl (show 2<=20000 by decide) λ x H5 h5 s5 t5=>New.of λ p6 H6 h6 s6 e6=>⟨_,.inr (SqT.of e6),rfl,rfl,?_⟩) λ b=>b.same S2⟩;exact fin q s3 g3 s4 s5 s6 t5
 ·rw[if_neg (λ z=>e (Int.ofNat_le.mpr z))]at q;exact q _ _ s1 g1 o1
open K10 (isNum)
inductive Z8I(vs:List V)(H:Hp)(Q:VK):Prop
 |mk(x:V0)(a1:vs=[.str x])(a2:x.length<=6000)(a3:∀H',Same H H'->Q (.bl (isNum x.cps.toList)) H'):Z8I vs H Q
def Z5s:Sp:=λ vs H Q _=>Z8I vs H Q
theorem J4w(T:Txt P w K mg C_Guest Ct Cw Ch Cp C_BadForm D_STRENGTHS D_TRUTHS U_TOLD_WORDS){k:Nat}(h_Guest_take:HasMX P w K mg base 2 C_Guest "take" ["self"] (Z3T ⟨C_Guest,C_tb,LP,LQ⟩ C_BadForm K))(h_Guest_need:HasMX P w K mg base 3 C_Guest "need" ["self","word"] (Z1O ⟨C_Guest,C_tb,LP,LQ⟩ C_BadForm K))(h_Guest_need_name:HasMX P w K mg base 3 C_Guest "need_name" ["self"] (Z1U ⟨C_Guest,C_tb,LP,LQ⟩ C_BadForm K))(O0z:Has P w K mg base 2 "is_number" ["word"] Z5s)(O0t:Has P w K mg base 2 "is_name" ["word"] Z3n)(O0u:HasX P w K mg base (8*k+11) "read_terms" ["guest","deep"] (Z3g ⟨C_Guest,C_tb,LP,LQ⟩ C_BadForm Ct K k))(O0a:HasX P w K mg base (8*k+8) "read_term" ["guest","least","lowest","deep"] (Z1M ⟨C_Guest,C_tb,LP,LQ⟩ C_BadForm Ct K k))(h_Term___init__:HasM P w K mg base 2 Ct "__init__" ["self","form","label","parts"] (Z1o Ct K)):HasX P w K mg base (8*k+12) "read_one" ["guest","deep"] (J0X ⟨C_Guest,C_tb,LP,LQ⟩ C_BadForm Ct K k):=by
 refine HasX.of T.O1J O0s (λ _ _ _ _ _ _ us hl=>el2 us hl λ _ _=>rfl) (λ vs H Q E h=>?_) (λ f cdv A outer s H vs Q E hr h=>?_)
 ·obtain⟨g,ws,n,deep,rfl,_⟩:=h;rfl
 obtain⟨g,ws,n,deep,rfl,hg,q⟩:=h;refine⟨_,(Z0a (qG 2 O0s.nd (Z0K (pvF 0) T.Guest.cl h_Guest_take hr qS)) (Z0a (Z0s (Z0Q (qF O0z hr (qI (pvF 2)))) (Z0b (Z0k (Z1G T.Term h_Term___init__ hr qS rfl (qK Z0c (Z0V (r:=J5t) J1C rfl T.z_int J6m (qI (pvF 2))) (Z0E Z1F))))) Z0m) (Z0a (Z0s (J6U (J6S T.d_TRUTHS (pvF 2) (Z0C T.c_TRUTHS rfl)) (by with_unfolding_all rfl)) (Z0b (Z0k (Z1G T.Term h_Term___init__ hr qS rfl (qK Z0c (J1f T.d_TRUTHS (Z0C T.c_TRUTHS rfl) (pvF 2) (λ _ _=>rfl)) (Z0E Z1F))))) Z0m) (Z0a (Z0s (Z0Q (qF O0t hr (qI (pvF 2)))) (Z0b (Z0k (Z1G T.Term h_Term___init__ hr qS rfl (qK Z0c (pvF 2) (Z0E Z1F))))) Z0m) (Z0a (Z0s (qM Z1t (pvF 2) Z0c) (Z0b (Z0k (Z1G T.Term h_Term___init__ hr qS rfl (qK Z0c Z0v (Z0E Z1F))))) Z0m) (Z0a (Z0s (qM Z1t (pvF 2) Z0c) (Z0a (qG 3 O0s.nd (Z0K (pvF 0) T.Guest.cl h_Guest_need_name hr qS)) (Z0b (Z0k (Z1G T.Term h_Term___init__ hr qS rfl (qK Z0c (pvF 3) (Z0r O0u hr qS rfl (qJ (pvF 0) (Z0n Z0S (pvF 1) Z0f)))))))) Z0m) (Z0a (Z0s (qM Z1t (pvF 2) Z0c) (Z0a (Z0t (Z0Y (pvF 0) T.Guest.cl h_Guest_need hr qS (qI Z0c))) (Z0a (qG 3 O0s.nd (Z0K (pvF 0) T.Guest.cl h_Guest_need_name hr qS)) (Z0b (Z0k (Z1G T.Term h_Term___init__ hr qS rfl (qK Z0c (pvF 3) (Z0r O0u hr qS rfl (qJ (pvF 0) (Z0n Z0S (pvF 1) Z0f))))))))) Z0m) (Z0a (Z0s (qM Z1t (pvF 2) Z0c) (Z0a (qG 4 O0s.nd (Z0r O0a hr qS rfl (Z0o (pvF 0) (qK (Z0C T.c_WEAKEST rfl) (Z0C T.c_WEAKEST rfl) (pvF 1))))) (Z0a (Z0t (Z0Y (pvF 0) T.Guest.cl h_Guest_need hr qS (qI Z0c))) (Z0b (Z0k (pvF 4))))) Z0m) (Z0b (Z0H T.x_BadForm hr rfl (qI Z0c))))))))))),?_⟩;walk_at "r";unfold RR.rOne at q;obtain⟨gx,rv,h1⟩:=hg.meth;refine⟨gx,_,h1,rfl,⟨g,ws,n,rfl,hg,?_⟩⟩;by_cases e0:ahead ws n=""
 ·rw[if_pos e0]at q ⊢;exact q
 rw[if_neg e0]at q ⊢;intro H1 s1 g1;generalize hx:ahead ws n=x at*;have hxl:x.length<=6000:=by rw[<-hx];exact hg.wl
 have leaf:∀{f:Fm}{l:Lb}{H2:Hp},Same H1 H2->okF f l 0->RdT K ⟨C_Guest,C_tb,LP,LQ⟩ C_BadForm Ct g ws H Q E (.ok (.mk f l []) (n+1))->New H2 (.lst []) λ p c=>∀x b:X0,c x=none->c b=none->¬b=x->Z1o Ct K [.ref x,.str f.s,lbV l,.ref p] (upd (upd c b (.own x)) x (.ins Ct b [])) (λ v g=>v=.non/\Q (.ref x) g) E0:=λ{f l H2} s2 ho q=>New.of λ p3 H3 h3 s3 e3=>Z2k (f:=f) (l:=l) (SqL.of e3) .nil ho (qb4 _) λ y H4 _ s4 t4=>q _ H4 (sxt s1 (SY.of (s2.trans (s3.trans s4)))) (g1.same (s2.trans (s3.trans s4))) t4;refine⟨x,rfl,hxl,λ H2 s2=>⟨_,rfl,ite2 (λ e=>?_) λ e=>?_⟩⟩
 ·rw[if_pos e]at q;obtain⟨t1,t2⟩:=J2Z e;exact⟨x,rfl,_,t1,t2,leaf (f:=.number) (l:=.int (Z7L x)) s2 rfl q⟩
 rw[if_neg e]at q;refine⟨.inr x,rfl,?_⟩;by_cases ey:x="yes"
 ·rw[if_pos ey]at q;subst ey;exact ite2 (λ _=>⟨.inr _,rfl,_,(rfl:valV Z2I (Sum.inr ("yes":V0))=some (.bl true)),leaf (f:=.truth) (l:=.bl true) s2 rfl q⟩) λ z=>absurd qP z
 rw[if_neg ey]at q;by_cases en:x="no"
 ·rw[if_pos en]at q;subst en;exact ite2 (λ _=>⟨.inr _,rfl,_,(rfl:valV Z2I (Sum.inr ("no":V0))=some (.bl false)),leaf (f:=.truth) (l:=.bl false) s2 rfl q⟩) λ z=>absurd qP z
 rw[if_neg en]at q;have vt:valV Z2I (Sum.inr x)=none:=by
  unfold Z2I;rw[Z1B (λ z=>ey (Sum.inr.inj z).symm),Z1B (λ z=>en (Sum.inr.inj z).symm)];rfl
 rw[vt];refine ite2 (λ z=>by cases z) λ _=>⟨x,rfl,hxl,λ H3 s3=>⟨_,rfl,ite2 (λ e=>?_) λ e=>?_⟩⟩
 ·rw[if_pos e]at q;exact leaf (f:=.name) (l:=.str x) (s2.trans s3) rfl q
 rw[if_neg e]at q;have s23:=s2.trans s3;refine⟨rfl,ite2 (λ e=>?_) λ e=>?_⟩
 ·rw[if_pos (V.str.inj e)]at q;exact leaf (f:=.self) (l:=.non) s23 rfl q
 rw[if_neg (λ z=>e (by rw[z]))]at q;have g3:=g1.same s23;have S3:=sxt s1 (SY.of s23);obtain⟨gx,rv,h3⟩:=g3.meth;have fill:∀{f:Fm}{y:V0}{m:Nat}{H4:Hp},(∀n,okF f (.str y) n)->SY g H H4->GuO K ⟨C_Guest,C_tb,LP,LQ⟩ H4 g ws m->RdT K ⟨C_Guest,C_tb,LP,LQ⟩ C_BadForm Ct g ws H Q E ((rTerms ws (rd ws k) (deep+1) m).bind λ ps j=>.ok (.mk f (.str y) ps) j)->Z3g ⟨C_Guest,C_tb,LP,LQ⟩ C_BadForm Ct K k [V.ref g,V.int (deep+1)] H4 (λ x_2 e=>∀(x_3 b:X0),e x_3=none->e b=none->¬b=x_3->Z1o Ct K [V.ref x_3,V.str f.s,V.str y,x_2] (upd (upd e b (HO.own x_3)) x_3 (HO.ins Ct b [])) (λ v g=>v=V.non/\Q (V.ref x_3) g) E0) E:=λ{f y m H4} ho S4 g4 q=>by
  refine⟨g,ws,m,deep+1,rfl,g4,To.mono (To.bind q) (λ ts m5 et q l5 us H5 s5 h5 g5 e5 o5=>?_) λ b=>b.same S4⟩;obtain⟨_,_,_,r4⟩:=RR.rTerms_good (RR.rd_good ws k) _ _ _ _ et;exact Z2k (f:=f) (l:=.str y) (SqL.of e5) o5 (ho _) (qa1 r4 qS) λ y H7 _ s7 t7=>q _ H7 (sxt S4 (sxt s5 (SY.of s7))) (g5.same s7) t7
 refine⟨rfl,ite2 (λ e=>?_) λ e=>?_⟩
 ·rw[if_pos (V.str.inj e)]at q;exact⟨gx,_,h3,rfl,⟨g,ws,n+1,rfl,g3,To.mono (To.bind q) (λ y m _ q H4 s4 g4=>fill (f:=.new) (λ _=>trivial) (sxt S3 s4) g4 q) λ b=>b.same S3⟩⟩
 rw[if_neg (λ z=>e (by rw[z]))]at q;refine⟨rfl,ite2 (λ e=>?_) λ e=>?_⟩
 ·rw[if_pos (V.str.inj e)]at q;refine⟨gx,_,h3,rfl,⟨g,ws,n+1,_,rfl,g3,qP,qP,To.mono (To.bind q) (λ _ m _ q H4 s4 g4=>?_) λ b=>b.same S3⟩⟩;obtain⟨gx,rv,h4⟩:=g4.meth;have S4:=sxt S3 s4;exact⟨gx,_,h4,rfl,⟨g,ws,m,rfl,g4,To.mono (To.bind q) (λ y m _ q H5 s5 g5=>fill (f:=.elder) (λ _=>trivial) (sxt S4 s5) g5 q) λ b=>b.same S4⟩⟩
 rw[if_neg (λ z=>e (by rw[z]))]at q;refine⟨rfl,ite2 (λ e=>?_) λ e=>?_⟩
 ·rw[if_pos (V.str.inj e)]at q;refine⟨g,ws,n+1,1,1,deep,rfl,g3,qa0 _,qa0 _,To.mono (To.bind q) (λ t m _ q v H4 s4 g4 o4=>?_) λ b=>b.same S3⟩;obtain⟨gx,rv,h4⟩:=g4.meth;have S4:=sxt S3 s4;exact⟨gx,_,h4,rfl,⟨g,ws,m,_,rfl,g4,qP,qP,To.mono (To.bind q) (λ _ m _ q H5 s5 g5=>q _ H5 (sxt S4 s5) g5 (o4.kq (g4.kq s5))) λ b=>b.same S4⟩⟩
 rw[if_neg (λ z=>e (by rw[z]))]at q;exact λ x hx=>(BF.same q S3).new hx
def Cs(cs:List (X0×(N0->Prop)))(H:Hp):Prop:=∀p∈cs,H p.1=some (.ext p.2)
theorem Cs.sy{cs:List (X0×(N0->Prop))}{H H':Hp}{g C dx:X0}{fs:List (V0×V)}(h:Cs cs H)(s:SY g H H')(e:H g=some (.ins C dx fs)):Cs cs H':=λ p hp=>s.k _ _ (λ z=>by have:=h p hp;rw[z,e]at this;cases this) (λ _ z=>by cases z) (h p hp)
theorem Cs.sxl{cs:List (X0×(N0->Prop))}{H H':Hp}{l:X0}{xs:List V}(h:Cs cs H)(s:SX l H H')(e:H l=some (.lst xs)):Cs cs H':=λ p hp=>s _ _ (λ z=>by have:=h p hp;rw[z,e]at this;cases this) (h p hp)
theorem Cs.same{cs:List (X0×(N0->Prop))}{H H':Hp}(h:Cs cs H)(s:Same H H'):Cs cs H':=λ p hp=>s _ _ (h p hp)
def J0u(K:y0)(cg:GC)(cb g:X0)(ws:List V0)(cs:List (X0×(N0->Prop))){α:Type}(item:Nat->Res α)(R:Hp->V->α->Prop):Sp:=λ vs H Q E=>∃n,vs=[.ref g]/\GuO K cg H g ws n/\Cs cs H/\To (item n) (λ x m=>∀v H',SY g H H'->GuO K cg H' g ws m->R H' v x->Q v H') (BF cb g H E)
def Z5j(P:Program)(w:M0)(mg:V0->Option Z0)(base:N0)(cg:GC)(cb:X0)(K:y0)(j:Nat):Sp:=λ vs H Q E=>∃(α:Type)(g f:X0)(ws:List V0)(n:Nat)(item:Nat->Res α)(R:Hp->V->α->Prop)(cs:List (X0×(N0->Prop))),vs=[.ref g,.ref f]/\GuO K cg H g ws n/\Cs cs H/\ItemAt P w K mg base j f (J0u K cg cb g ws cs item R)/\(∀H H' v x,Kq H H'->R H v x->R H' v x)/\(∀n x m,item n=.ok x m->n<m)/\To (rList ws item n) (λ xs m=>∀l us H',SY g H H'->H l=none->GuO K cg H' g ws m->H' l=some (.lst us)->A2 (R H') us xs->Q (.ref l) H') (BF cb g H E)
def LsI(K:y0)(cg:GC)(cb g f l:X0)(ws:List V0)(cs:List (X0×(N0->Prop))){α:Type}(item:Nat->Res α)(R:Hp->V->α->Prop)(H:Hp)(Q:VK)(E:XK)(j:Nat)(σ:St)(H':Hp):Prop:=∃us xs m,σ=[some (V.ref g),some (V.ref f),some (V.ref l)]/\SY g H H'/\GuO K cg H' g ws m/\Cs cs H'/\H' l=some (.lst us)/\A2 (R H') us xs/\xs.length<=m/\To (rMore ws item j xs m) (λ xs m=>∀l us H',SY g H H'->H l=none->GuO K cg H' g ws m->H' l=some (.lst us)->A2 (R H') us xs->Q (.ref l) H') (BF cb g H E)
theorem GuO.lst{K:y0}{cg:GC}{g l:X0}{H H':Hp}{ws:List V0}{n:Nat}{xs:List V}(h:GuO K cg H g ws n)(e:H l=some (.lst xs))(s:SX l H H'):GuO K cg H' g ws n:=by
 obtain⟨t,⟨dx,ra,a,b⟩,c,d,f⟩:=h;refine⟨?_,⟨dx,ra,s _ _ (λ z=>by rw[z,e]at a;cases a) a,SqT.kt b (Kq.sxl s e).kt⟩,c,d,f⟩;rcases t with t|⟨a,b,c,t,k,t2,q⟩
 ·exact .inl (s _ _ (λ z=>by rw[z,e]at t;cases t) t)
 ·exact .inr ⟨a,b,c,s _ _ (λ z=>by rw[z,e]at t;cases t) t,k,t2,s _ _ (λ z=>by rw[z,e]at q;cases q) q⟩
theorem Z8n(T:Txt P w K mg C_Guest Ct Cw Ch Cp C_BadForm D_STRENGTHS D_TRUTHS U_TOLD_WORDS){j:Nat}(hj:3<=j)(h_Guest_need:HasMX P w K mg base 3 C_Guest "need" ["self","word"] (Z1O ⟨C_Guest,C_tb,LP,LQ⟩ C_BadForm K))(h_Guest_takes:HasM P w K mg base 2 C_Guest "takes" ["self","word"] (Z1D ⟨C_Guest,C_tb,LP,LQ⟩ K)):HasX P w K mg base (j+1) "read_list" ["guest","read_item"] (Z5j P w mg base ⟨C_Guest,C_tb,LP,LQ⟩ C_BadForm K j):=by
 refine HasX.of T.O1x O0Y (λ _ _ _ _ _ _ us hl=>el2 us hl λ _ _=>rfl) (λ vs H Q E h=>?_) (λ f cdv A outer s H vs Q E hr h=>?_)
 ·obtain⟨α,g,f,ws,n,item,R,cs,rfl,_⟩:=h;rfl
 obtain⟨α,g,f,ws,n,item,R,cs,rfl,hg,hcs,hi,hR,hpr,q⟩:=h;refine⟨_,(Z0a (Z0t (Z0Y (pvF 0) T.Guest.cl h_Guest_need hr qS (qI Z0c))) (Z0a (qG 2 O0Y.nd (Z0E Z1F)) (Z0a (Z0s (Z0Q (Z0T (pvF 0) T.Guest.cl h_Guest_takes hr qS (qI Z0c))) (Z0b (Z0k (pvF 2))) Z0m) (Z0a (Z0t (Z3M qd6 qe0 qe1 Z0X (pvF 2) (qI (Z7X hr (pvF 1) (qI (pvF 0)))))) (Z0a (Z2c (Z0F rfl rfl) (Z0Q (Z0T (pvF 0) T.Guest.cl h_Guest_takes hr qS (qI Z0c))) (Z0b (Z0t (Z3M qd6 qe0 qe1 Z0X (pvF 2) (qI (Z7X hr (pvF 1) (qI (pvF 0)))))))) (Z0a (Z0t (Z0Y (pvF 0) T.Guest.cl h_Guest_need hr qS (qI Z0c))) (Z0b (Z0k (pvF 2))))))))),?_⟩;walk_at "r";unfold RR.rList at q;obtain⟨gx,rv,h0⟩:=hg.meth;refine⟨gx,_,h0,rfl,⟨g,ws,n,_,rfl,hg,qP,qP,To.mono (To.bind q) (λ _ m e1 q H1 s1 g1=>New.of λ p2 H2 h2 s2 e2=>?_) λ b=>b⟩⟩;have g2:=g1.same s2;have cs2:=(hcs.sy s1 h0).same s2;obtain⟨gx,rv,h2'⟩:=g2.meth;have S2:=sxt s1 (SY.of s2);have n2:p2≠g:=λ z=>by rw[z,h2']at e2;cases e2
 have free:H p2=none:=s1.free n2 h2;refine⟨gx,_,h2',rfl,⟨g,ws,m,_,rfl,g2,qP,ite2 (λ e=>?_) λ e=>?_⟩⟩
 ·rw[if_pos e]at q;exact λ H3 s3 g3=>⟨_,rfl,ite2 (λ _=>q _ _ H3 (sxt S2 s3) free g3 (s3.lst n2 e2) .nil) λ z=>absurd rfl z⟩
 rw[if_neg e]at q;refine⟨_,rfl,ite2 (λ z=>by cases z) λ _=>?_⟩;refine⟨.inl ⟨rfl,_,SqL.of e2⟩,_,hi,m,rfl,g2,cs2,To.mono (To.bind q) (λ a m3 ea q v3 H3 s3 g3 r3=>?_) λ b=>b.same S2⟩;have S3:=sxt S2 s3;have e3:=s3.lst n2 e2;have sx4:SX p2 H3 (upd H3 p2 (.lst ([]++[v3]))):=SX.put _;have e4:upd H3 p2 (.lst ([]++[v3])) p2=some (.lst ([]++[v3])):=Z0e;refine⟨_,e3,qQ,?_⟩;generalize upd H3 p2 (.lst ([]++[v3]))=H4 at*;have l1:1<=m3:=qh6 (qb4 _) (hpr _ _ _ ea);refine⟨LsI K ⟨C_Guest,C_tb,LP,LQ⟩ C_BadForm g f p2 ws cs item R H Q E,⟨_,[v3],[a],m3,rfl,?_,g3.lst e3 sx4,(cs2.sy s3 h2').sxl sx4 e3,e4,.cons (hR _ _ _ _ (Kq.sxl sx4 e3) r3) .nil,l1,q⟩,?_⟩
 ·exact S3.side free sx4
 rintro i σ H5 ⟨us,xs,m5,rfl,s5,g5,cs5,e5,r5,l5,q⟩;cases i with
 |zero=>exact q.elim
 |succ i=>
 obtain⟨gx,rv,h5⟩:=g5.meth;walk_at "r";unfold RR.rMore at q;refine⟨gx,_,h5,rfl,⟨g,ws,m5,_,rfl,g5,qP,ite2 (λ e=>?_) λ e=>?_⟩⟩
 ·rw[if_pos e]at q;refine λ H6 s6 g6=>⟨_,rfl,ite2 (λ _=>⟨LsI K ⟨C_Guest,C_tb,LP,LQ⟩ C_BadForm g f p2 ws cs item R H Q E i,λ _ _ z=>⟨i,qc9 _,z⟩,.inl ⟨rfl,_,SqL.of (s6.lst n2 e5)⟩,_,hi,m5+1,rfl,g6,cs5.sy s6 h5,To.mono (To.bind q) (λ b m7 eb q v7 H7 s7 g7 r7=>?_) λ b=>b.same (sxt s5 s6)⟩) λ z=>absurd rfl z⟩;have S7:=sxt s6 s7;have e7:=S7.lst n2 e5;have sx8:SX p2 H7 (upd H7 p2 (.lst (us++[v7]))):=SX.put _;have e8:upd H7 p2 (.lst (us++[v7])) p2=some (.lst (us++[v7])):=Z0e;have lu:=r5.len;have l7:=hpr _ _ _ eb;have le7:=qa1 g7.le g7.len;refine⟨_,e7,by omega,?_⟩;generalize upd H7 p2 (.lst (us++[v7]))=H8 at*;have k8:=Kq.sxl sx8 e7;exact⟨_,xs++[b],m7,rfl,(sxt s5 S7).side free sx8,g7.lst e7 sx8,(cs5.sy S7 h5).sxl sx8 e7,e8,A2.snoc (r5.mono λ _ _ r=>hR _ _ _ _ ((g5.kq S7).trans k8) r) (hR _ _ _ _ k8 r7),by rw[qa5];show xs.length+1<=m7;omega,q⟩
 ·rw[if_neg e]at q;exact⟨_,rfl,ite2 (λ z=>by cases z) λ _=>⟨gx,_,h5,rfl,⟨g,ws,m5,_,rfl,g5,qP,qP,To.mono (To.bind q) (λ _ m6 _ q H6 s6 g6=>q _ _ H6 (sxt s5 s6) free g6 (s6.lst n2 e5) (r5.mono λ _ _ r=>hR _ _ _ _ (g5.kq s6) r)) λ b=>b.same s5⟩⟩⟩
theorem J3F{K:y0}{C:X0}{H:Hp}:∀{us:List V}{ts:List Tm},A2 (λ v t=>TO K C H v t) us ts->TOs K C H us ts
 |_,_,.nil=>.nil
 |_,_,.cons a b=>.cons a (J3F b)
theorem GuO.sya{K:y0}{cg:GC}{g:X0}{H H':Hp}{ws:List V0}{n:Nat}(h:GuO K cg H g ws n)(s:∀g,SY g H H')(t:TbS cg H'):GuO K cg H' g ws n:=by
 obtain⟨_,⟨dx,ra,a,b⟩,c,d,e⟩:=h;have k:∀{b:X0}{o:HO},(∀ps,o≠.tbl ps)->H b=some o->H' b=some o:=λ{b o} n e=>(s (b+1)).k _ _ (qb2 (qc9 _)) n e;exact⟨t,⟨dx,ra,k (λ _ z=>by cases z) a,SqT.kt b ⟨λ b xs e=>k (λ _ z=>by cases z) e,λ b o xs e=>k (λ _ z=>by cases z) e⟩⟩,c,d,e⟩
theorem J1o(T:Txt P w K mg C_Guest Ct Cw Ch Cp C_BadForm D_STRENGTHS D_TRUTHS U_TOLD_WORDS){k:Nat}{c:X0}(hF:FnC K mg "read_terms" Z0B c)(hC:CodeHdK K c C_tb)(hLP:LP=⟨261,29,261,79⟩)(hLQ:LQ=(("read_terms":V0)++".<locals>.")++"<lambda>")(hKb:K.In base)(hB:BAt mg base)(O0a:∀base',K.In base'->BAt mg base'->HasX P w K mg base' (8*k+8) "read_term" ["guest","least","lowest","deep"] (Z1M ⟨C_Guest,C_tb,LP,LQ⟩ C_BadForm Ct K k))(O0L:∀base',K.In base'->BAt mg base'->HasX P w K mg base' (8*k+10) "read_list" ["guest","read_item"] (Z5j P w mg base' ⟨C_Guest,C_tb,LP,LQ⟩ C_BadForm K (8*k+9)))(O0l:HasX P w K mg base 1 "need_few" ["found","most"] (Z3Y C_BadForm K)):HasX P w K mg base (8*k+11) "read_terms" ["guest","deep"] (Z3g ⟨C_Guest,C_tb,LP,LQ⟩ C_BadForm Ct K k):=by
 refine HasX.ofC hF O0S (λ _ _ _ _ _ _ us hl=>el2 us hl λ _ _=>rfl) (λ vs H Q E h=>?_) (λ f A outer s H vs Q E hr h=>?_)
 ·obtain⟨g,ws,n,deep,rfl,_⟩:=h;rfl
 obtain⟨g,ws,n,deep,rfl,hg,q⟩:=h;refine⟨_,(Z0a (qG 2 O0S.nd (J4r (i:=1) (ca:=s.heap.objs.size+1) O0L hKb hr qS rfl (pvF 0) hB rfl (hC.hd hKb) rfl rfl rfl rfl rfl rfl rfl rfl)) (Z0a (Z0t (Z0r O0l hr qS rfl (qJ (pvF 2) (Z0C T.c_MOST_TERMS rfl)))) (Z0b (Z0k (pvF 2))))),?_⟩;walk_at "r";subst hLP hLQ;refine⟨hg.tb,λ f1 ca c' ctv pm u base' H2 sy hT2 hc2 md ba gf gcell ru=>?_⟩;have g2:=hg.sya sy hT2;have it:ItemAt P w K mg base' (8*k+9) f1 (J0u K ⟨C_Guest,C_tb,⟨261,29,261,79⟩,(("read_terms":V0)++".<locals>.")++"<lambda>"⟩ C_BadForm g ws [(c',λ h=>∃oc vs t,h.get? c'=some oc/\oc.data=.fields vs/\vs[1]?=some (.str ((("read_terms":V0)++".<locals>.")++"<lambda>") t))] (λ m=>(rd ws k).T 1 1 deep m) λ H v t=>TO K Ct H v t):=by
  refine⟨_,["one"],J7h (y:="one") (z:="deep") (v:=.int deep) (k:=8*k+8) ?_ gf gcell ru (λ vs H Q E h=>?_) (λ vs H Q E h=>?_) (λ A outer s H v0 Q E hr h=>?_),?_,⟨_,_,_,_,gf⟩⟩
  ·exact⟨rfl,qP,rfl,rfl,λ x hx=>(show ∀p∈_,p.2=NameKind.free->p.1=("deep":V0)by decide+kernel) _ (Z0J hx) rfl,rfl,rfl⟩
  ·obtain⟨n,_,_,hcs,_⟩:=h;exact⟨_,hcs _ (qa7.mpr rfl),λ h x=>x⟩
  ·obtain⟨n,rfl,_⟩:=h;rfl
  ·obtain⟨n,e,hg,_,q⟩:=h;refine⟨_,Z0r (O0a base' md.kin ba) hr (by omega) rfl (Z0o (pvF 0) (qK (Z0C T.c_WEAKEST rfl) (Z0C T.c_WEAKEST rfl) (pvF 1))),?_⟩;walk_at "r";exact⟨g,ws,n,1,1,deep,by rw[List.head_eq_of_cons_eq e];rfl,hg,qa0 _,qa0 _,q⟩
  ·intro s us _ hl;match us,hl with
   |[a],_=>exact .of_eq rfl
 unfold RR.rTerms at q;refine⟨Tm,g,f1,ws,n,_,_,_,rfl,g2,λ p hp=>?_,it,λ H H' v x k h=>h.kq k,λ n x m e=>?_,To.mono (To.bind q) (λ ts m et q l us H3 s3 h3 g3 e3 o3=>?_) λ b=>b.same (sy g)⟩
 ·rw[qa7.mp hp];exact hc2
 ·have:=((RR.rd_good ws k).T 1 1 deep n (qa0 _) (qa0 _) x m e).2.2;obtain⟨f,l,ps⟩:=x;rw[RR.szL]at this;omega
 ·have lu:=o3.len;refine⟨l,us,8,rfl,e3,qQ,ite2 (λ e=>?_) λ e=>?_⟩
  ·rw[if_pos (by rw[<-lu];exact e)]at q;exact λ H4 s4=>q H4 (sxt (sxt (sy g) s3) (SY.of s4))
  ·rw[if_neg (by rw[<-lu];exact e)]at q;exact q _ _ H3 (sxt (sy g) s3) ((sy (l+1)).free (qb2 (qc9 _)) h3) g3 e3 (J3F o3)
theorem J1s(T:Txt P w K mg C_Guest Ct Cw Ch Cp C_BadForm D_STRENGTHS D_TRUTHS U_TOLD_WORDS){c:X0}(hF:FnC K mg "read_terms" Z0B c)(hC:CodeHdK K c C_tb)(hLP:LP=⟨261,29,261,79⟩)(hLQ:LQ=(("read_terms":V0)++".<locals>.")++"<lambda>")(O0z:∀base,Has P w K mg base 2 "is_number" ["word"] Z5s)(O0t:∀base,Has P w K mg base 2 "is_name" ["word"] Z3n):∀k base,K.In base->BAt mg base->HasX P w K mg base (8*k+8) "read_term" ["guest","least","lowest","deep"] (Z1M ⟨C_Guest,C_tb,LP,LQ⟩ C_BadForm Ct K k)/\HasX P w K mg base (8*k+7) "read_part" ["guest","lowest","deep"] (Z3R ⟨C_Guest,C_tb,LP,LQ⟩ C_BadForm Ct K k)
 |0,base,_,_=>by
  constructor
  ·refine HasX.of T.O1c O0g (λ _ _ _ _ _ _ us hl=>el4 us hl λ _ _ _ _=>rfl) (λ vs H Q E h=>?_) (λ f cdv A outer s H vs Q E hr h=>?_)
   ·obtain⟨g,ws,n,least,low,deep,rfl,_⟩:=h;rfl
   ·obtain⟨g,ws,n,least,low,deep,rfl,_,_,_,q⟩:=h;exact q.elim
  ·refine HasX.of T.O1d Z3H (λ _ _ _ _ _ _ us hl=>el3 us hl λ _ _ _=>rfl) (λ vs H Q E h=>?_) (λ f cdv A outer s H vs Q E hr h=>?_)
   ·obtain⟨g,ws,n,low,deep,rfl,_⟩:=h;rfl
   ·obtain⟨g,ws,n,low,deep,rfl,_,_,q⟩:=h;exact q.elim
 |k+1,base,hK,hB=>by
  have ih:=J1s T hF hC hLP hLQ O0z O0t k;have ti:=J3y (base:=base) T (J2k T) (Z6m T) (Z6z T) (Z8c T);have ga:=Z3p (base:=base) (C_tb:=C_tb) (LP:=LP) (LQ:=LQ) T;have gb:=Z9y (base:=base) (C_tb:=C_tb) (LP:=LP) (LQ:=LQ) T;have gt:=Z9a T ga;have gs:=Z3f T ga;have gn:=Z5E T gs;have gm:=Z6O T ga gt (O0t base);have rt:=(ih base hK hB).1;have hts:=J1o (P:=P) (w:=w) T hF hC hLP hLQ hK hB (λ b h1 h2=>(ih b h1 h2).1) (λ b h1 h2=>Z8n (base:=b) T (by omega) (Z5E T (Z3f T (Z3p T))) (Z3f T (Z3p T))) (Z9U T);have ho:=J4w T gt gn gm (O0z base) (O0t base) hts rt ti;have hp:=Z7V T gs ga gm hts ho ti;have hs:=J4S T gb gn hp rt (J0K T) ti;have hpt:=J2y T gs (ih base hK hB).2 (J6t T gn rt ti) (J5u T gm gn rt ti) hs hp ti;exact⟨J3g T ga gt hpt rt ti,hpt⟩
def pD(p:V0×V0):PyData:=.tuple [.str p.1,.str p.2]
inductive Z8H(K:y0)(vs:List V)(H:Hp)(Q:VK):Prop
 |mk(pa:X0)(xs:List V)(ps:List (V0×V0))(a1:vs=[.ref pa])(a2:SqL K H pa xs)(a3:RTs K H xs (ps.map pD))(a4:ps.length<=20000)(a5:∀r H',Same H H'->RT K H' (.ref r) (Z4Z ps)->Q (.ref r) H'):Z8H K vs H Q
def Z5w(K:y0):Sp:=λ vs H Q _=>Z8H K vs H Q
inductive Z8B(c:CS)(K:y0)(vs:List V)(H:Hp)(Q:VK):Prop
 |mk(x dx pa:X0)(xs:List V)(bv:V)(d:Wd)(a1:vs=[.ref x,.str d.name,.ref pa,.str d.kind,bv])(a2:H x=some (.ins c.word dx []))(a3:SqL K H pa xs)(a4:RTs K H xs (d.params.map pD))(a5:d.params.length<=20000)(a6:TO K c.term H bv d.body)(a7:∀H',SX x H H'->WdO K c H' (.ref x) d->Q .non H'):Z8B c K vs H Q
def Z5D(c:CS)(K:y0):Sp:=λ vs H Q _=>Z8B c K vs H Q
inductive Z9d(c:CS)(K:y0)(vs:List V)(H:Hp)(Q:VK):Prop
 |mk(x dx wl fa:X0)(fx:List V)(ws:List V)(d:Hs)(a1:vs=[.ref x,.str d.name,oS d.elder,.ref fa,.ref wl])(a2:H x=some (.ins c.house dx []))(a3:SqL K H fa fx)(a4:RTs K H fx (d.fields.map pD))(a5:d.fields.length<=20000)(a6:SqL K H wl ws)(a7:A2 (WdO K c H) ws d.words)(a8:∀H',SX x H H'->HsO K c H' (.ref x) d->Q .non H'):Z9d c K vs H Q
def Z5K(c:CS)(K:y0):Sp:=λ vs H Q _=>Z9d c K vs H Q
inductive Z8P(c:CS)(K:y0)(vs:List V)(H:Hp)(Q:VK):Prop
 |mk(x dx hl:X0)(mv:V)(hs:List V)(d:Pg)(a1:vs=[.ref x,.ref hl,mv])(a2:H x=some (.ins c.program dx []))(a3:SqL K H hl hs)(a4:A2 (HsO K c H) hs d.houses)(a5:WdO K c H mv d.main)(a6:∀H',SX x H H'->PgO K c H' (.ref x) d->Q .non H'):Z8P c K vs H Q
def Z5q(c:CS)(K:y0):Sp:=λ vs H Q _=>Z8P c K vs H Q
theorem SX.ktf{x C dx:X0}{fs:List (V0×V)}{H H':Hp}(s:SX x H H')(hx:H x=some (.ins C dx fs)):Kt H H':=
 ⟨λ b xs h=>s b _ (λ z=>by rw[z,hx]at h;cases h) h,λ b o xs h=>s b _ (λ z=>by rw[z,hx]at h;cases h) h⟩
theorem WdO.kp{K:y0}{c:CS}{H H':Hp}{v:V}{d:Wd}(h:WdO K c H v d)(k:Kp H H'):WdO K c H' v d:=by
 cases h with
 |mk a b t=>exact .mk (k.i _ _ _ _ _ a) (b.kp k) (t.kp k)
theorem HsO.kp{K:y0}{c:CS}{H H':Hp}{v:V}{d:Hs}(h:HsO K c H v d)(k:Kp H H'):HsO K c H' v d:=by
 cases h with
 |mk a b q t=>exact .mk (k.i _ _ _ _ _ a) (b.kp k) (SqT.kp q k) (t.mono λ _ _ r=>WdO.kp r k)
theorem Z5Q{α:Type}{K:y0}{H:Hp}(f:α->PyData):∀{ts:List α}{vs:List V},vs.length=ts.length->(∀(j:Nat) v,vs[j]?=some v->∃t,ts[j]?=some t/\RT K H v (f t))->RTs K H vs (ts.map f)
 |[],[],_,_=>.nil
 |t::ts,v::vs,e,h=>by
  obtain⟨t',a,b⟩:=h 0 v rfl;cases a;exact .cons b (Z5Q f (qi6 e) λ j u hu=>h (j+1) u hu)
theorem J2s(T:Txt P w K mg C_Guest Ct Cw Ch Cp C_BadForm D_STRENGTHS D_TRUTHS U_TOLD_WORDS):Has P w K mg base 1 "pairs_of" ["pairs"] (Z5w K):=by
 refine Has.of T.O1F Z7M (λ _ _ _ _ _ _ us hl=>el1 us hl λ _=>rfl) (λ vs H Q E h=>?_) (λ f cdv A outer s H vs Q E hr h=>?_)
 ·obtain⟨pa,xs,ps,rfl,_⟩:=h;rfl
 obtain⟨pa,xs,ps,rfl,hq,hx,hl,q⟩:=h;have lx:xs.length=ps.length:=by rw[hx.length,qa3]
 refine⟨_,(Z0b (Z0k (Z0V Z0A rfl T.O0y Z1I (qI (Z0G rfl (BlockOk.plain (N:=["pair"]) rfl qP qP qP) (Z1H (pvF 0)) (λ C fp s H=>(qH 0 (show(["pair"]:List V0).Nodup by decide+kernel))) (λ C fp s H=>(Z0V (r:=J4b K) Z0A rfl T.O0y Z1I (qI (pvF 0))))))))),?_⟩;walk_at "r";refine⟨⟨_,hq⟩,λ D hD=>?_⟩;refine Z1v (ys:=xs) none [] (λ j v H=>∃p,ps[j]?=some p/\RT K H v (.tuple [.str p.1,.str p.2])) (λ j v H1 H2 ⟨t,a,b⟩ s=>⟨t,a,b.kp (kpN s)⟩) rfl hD (by rw[sizeLine_eq];omega) (λ H1 s=>SqL.same hq s) (λ i y hy H1 K' s k=>?_) (λ vs Hc Sc hv lv hR=>?_)
 ·walk_at "r";obtain⟨d,hd,hr'⟩:=hx.at hy;rw[qc0]at hd;obtain⟨p,hp',rfl⟩:=qd3.mp hd;obtain⟨a,zs,rfl,hz,hzs⟩:=hr'.tup_inv;exact⟨a,rfl,zs,.inr ⟨SqT.same hz s,k _ _ (Same.refl _) ⟨p,hp',.tup (SqT.same hz s) (hzs.same s)⟩⟩⟩
 refine⟨D,rfl,vs,.inl ⟨SqL.of hv,λ t5 h5=>?_⟩⟩;have s5:=Z0x h5 (.tup vs);refine q _ _ (Sc.trans s5) (.tup (SqT.of Z0e) ?_);refine RTs.same ?_ s5;exact Z5Q pD (lv.trans lx) hR
theorem J2U(T:Txt P w K mg C_Guest Ct Cw Ch Cp C_BadForm D_STRENGTHS D_TRUTHS U_TOLD_WORDS)(O0V:Has P w K mg base 1 "pairs_of" ["pairs"] (Z5w K)):HasM P w K mg base 2 Cw "__init__" ["self","name","params","kind","body"] (Z5D (CS.mk Ct Cw Ch Cp C_Guest C_Guest C_Guest C_Guest B) K):=by
 refine HasM.of T.m_Word___init__ Z3N (λ _ _ _ _ _ _ us hl=>el5 us hl λ _ _ _ _ _=>rfl) (λ vs H Q E h=>?_) (λ f cdv A outer s H vs Q E hr h=>?_)
 ·obtain⟨x,dx,pa,xs,bv,d,rfl,_⟩:=h;rfl
 obtain⟨x,dx,pa,xs,bv,d,rfl,hx,hp,hpr,hl,hb,q⟩:=h;refine⟨_,(Z0a (Z0R (pvF 0) (pvF 1) rfl) (Z0a (Z0R (pvF 0) (qF O0V hr (qI (pvF 2))) rfl) (Z0a (Z0R (pvF 0) (pvF 3) rfl) (Z0b (Z0R (pvF 0) (pvF 4) rfl))))),?_⟩;refine seq4 λ uz3 huz3 uz2 huz2 uz1 huz1=>?_;walk_at "r";refine⟨Cw,dx,_,hx,T.Word.cl,T.n_Word_name,qc1 rfl,?_⟩;subst huz1;walk_at "r";have S1:SX x H (upd H x (.ins Cw dx (putF "name" (.str d.name) []))):=SX.put _;have X1:upd H x (.ins Cw dx (putF "name" (.str d.name) [])) x=some (.ins Cw dx (putF "name" (.str d.name) [])):=Z0e;generalize upd H x (.ins Cw dx (putF "name" (.str d.name) []))=H1 at*;refine⟨pa,xs,d.params,rfl,S1.sqL hx hp,hpr.kp (S1.kp hx),hl,λ r H2 s2 hr2=>?_⟩;have X2:=s2 _ _ X1;refine⟨Cw,dx,_,X2,T.Word.cl,T.n_Word_params,qc1 rfl,?_⟩;subst huz2;walk_at "r";refine⟨Cw,dx,_,Z0e,T.Word.cl,T.n_Word_kind,qc1 rfl,?_⟩;subst huz3;walk_at "r";refine⟨Cw,dx,_,Z0e,T.Word.cl,T.n_Word_body,qc1 rfl,?_⟩;have S3:SX x H2 _:=(SX.put (.ins Cw dx (putF "params" (.ref r) (putF "name" (.str d.name) [])))).trans ((SX.put (.ins Cw dx (putF "kind" (.str d.kind) (putF "params" (.ref r) (putF "name" (.str d.name) []))))).trans (SX.put (.ins Cw dx (putF "body" bv (putF "kind" (.str d.kind) (putF "params" (.ref r) (putF "name" (.str d.name) [])))))));have S4:=S1.trans ((SX.of s2).trans S3);exact q _ S4 (.mk (Z0e) (hr2.kt (SX.ktf S3 X2)) (hb.kp (S4.kp hx)))
theorem J1W(T:Txt P w K mg C_Guest Ct Cw Ch Cp C_BadForm D_STRENGTHS D_TRUTHS U_TOLD_WORDS)(O0V:Has P w K mg base 1 "pairs_of" ["pairs"] (Z5w K)):HasM P w K mg base 2 Ch "__init__" ["self","name","elder","own_fields","own_words"] (Z5K (CS.mk Ct Cw Ch Cp C_Guest C_Guest C_Guest C_Guest B) K):=by
 refine HasM.of T.m_House___init__ Z3B (λ _ _ _ _ _ _ us hl=>el5 us hl λ _ _ _ _ _=>rfl) (λ vs H Q E h=>?_) (λ f cdv A outer s H vs Q E hr h=>?_)
 ·obtain⟨x,dx,wl,fa,fx,ws,d,rfl,_⟩:=h;rfl
 obtain⟨x,dx,wl,fa,fx,ws,d,rfl,hx,hp,hpr,hl,hw,hb,q⟩:=h;refine⟨_,(Z0a (Z0R (pvF 0) (pvF 1) rfl) (Z0a (Z0R (pvF 0) (pvF 2) rfl) (Z0a (Z0R (pvF 0) (qF O0V hr (qI (pvF 3))) rfl) (Z0b (Z0R (pvF 0) (Z0V Z0A rfl T.O0y Z1I (qI (pvF 4))) rfl))))),?_⟩;refine seq4 λ uz3 huz3 uz2 huz2 uz1 huz1=>?_;walk_at "r";refine⟨Ch,dx,_,hx,T.House.cl,T.n_House_name,qc1 rfl,?_⟩;subst huz1;walk_at "r";refine⟨Ch,dx,_,Z0e,T.House.cl,T.n_House_elder,qc1 rfl,?_⟩;subst huz2;walk_at "r";have S1:SX x H (upd (upd H x (.ins Ch dx (putF "name" (.str d.name) []))) x (.ins Ch dx (putF "elder" (oS d.elder) (putF "name" (.str d.name) [])))):=(SX.put _).trans (SX.put _);have X1:upd (upd H x (.ins Ch dx (putF "name" (.str d.name) []))) x (.ins Ch dx (putF "elder" (oS d.elder) (putF "name" (.str d.name) []))) x=some (.ins Ch dx (putF "elder" (oS d.elder) (putF "name" (.str d.name) []))):=Z0e;generalize upd (upd H x (.ins Ch dx (putF "name" (.str d.name) []))) x (.ins Ch dx (putF "elder" (oS d.elder) (putF "name" (.str d.name) [])))=H1 at*;refine⟨fa,fx,d.fields,rfl,S1.sqL hx hp,hpr.kp (S1.kp hx),hl,λ r H2 s2 hr2=>?_⟩;have X2:=s2 _ _ X1;refine⟨Ch,dx,_,X2,T.House.cl,T.n_House_own_fields,qc1 rfl,?_⟩;subst huz3;walk_at "r";have S3:SX x H2 (upd H2 x (.ins Ch dx (putF "own_fields" (.ref r) (putF "elder" (oS d.elder) (putF "name" (.str d.name) []))))):=SX.put _;have X3:upd H2 x (.ins Ch dx (putF "own_fields" (.ref r) (putF "elder" (oS d.elder) (putF "name" (.str d.name) [])))) x=some (.ins Ch dx (putF "own_fields" (.ref r) (putF "elder" (oS d.elder) (putF "name" (.str d.name) [])))):=Z0e;generalize upd H2 x (.ins Ch dx (putF "own_fields" (.ref r) (putF "elder" (oS d.elder) (putF "name" (.str d.name) []))))=H3 at*;have S03:=S1.trans ((SX.of s2).trans S3);refine⟨ws,.inl ⟨S03.sqL hx hw,λ wt hwt=>?_⟩⟩;have s4:=Z0x hwt (.tup ws);have X4:=s4 _ _ X3;have nx:wt≠x:=λ z=>Z0g X3 hwt z.symm;refine⟨Ch,dx,_,X4,T.House.cl,T.n_House_own_words,qc1 rfl,?_⟩;have S4:=(SX.of (x:=x) s4).trans (SX.put (.ins Ch dx (putF "own_words" (.ref wt) (putF "own_fields" (.ref r) (putF "elder" (oS d.elder) (putF "name" (.str d.name) []))))));have S5:=S03.trans S4;refine q _ S5 (.mk Z0e (hr2.kt (SX.ktf (S3.trans S4) X2)) (SqT.of (by rw[Z0h nx];exact Z0e)) (hb.mono λ _ _ r=>WdO.kp r (S5.kp hx)))
theorem J3o(T:Txt P w K mg C_Guest Ct Cw Ch Cp C_BadForm D_STRENGTHS D_TRUTHS U_TOLD_WORDS):HasM P w K mg base 1 Cp "__init__" ["self","all_houses","main"] (Z5q (CS.mk Ct Cw Ch Cp C_Guest C_Guest C_Guest C_Guest B) K):=by
 refine HasM.of T.m_Program___init__ Z3b (λ _ _ _ _ _ _ us hl=>el3 us hl λ _ _ _=>rfl) (λ vs H Q E h=>?_) (λ f cdv A outer s H vs Q E hr h=>?_)
 ·obtain⟨x,dx,hl,mv,hs,d,rfl,_⟩:=h;rfl
 obtain⟨x,dx,hl,mv,hs,d,rfl,hx,hw,hb,hm,q⟩:=h;refine⟨_,(Z0a (Z0R (pvF 0) (Z0V Z0A rfl T.O0y Z1I (qI (pvF 1))) rfl) (Z0b (Z0R (pvF 0) (pvF 2) rfl))),?_⟩;refine seq2 λ uz1 huz1=>?_;walk_at "r";refine⟨hs,.inl ⟨hw,λ wt hwt=>?_⟩⟩;have s1:=Z0x hwt (.tup hs);have nx:wt≠x:=λ z=>Z0g hx hwt z.symm;refine⟨Cp,dx,_,s1 _ _ hx,T.Program.cl,T.n_Program_all_houses,qc1 rfl,?_⟩;subst huz1;walk_at "r";refine⟨Cp,dx,_,Z0e,T.Program.cl,T.n_Program_main,qc1 rfl,?_⟩;have S4:=(SX.of (x:=x) s1).trans ((SX.put (.ins Cp dx (putF "all_houses" (.ref wt) []))).trans (SX.put (.ins Cp dx (putF "main" mv (putF "all_houses" (.ref wt) [])))));exact q _ S4 (.mk Z0e (SqT.of (by rw[Z0h nx,Z0h nx];exact Z0e)) (hb.mono λ _ _ r=>HsO.kp r (S4.kp hx)) (WdO.kp hm (S4.kp hx)))
open RR (Res ahead need needName Z0I rd rKind rPair rIf rLet rSet rPart rTail rPts rPointed rOne rTerms rList rMore rWord rFields rWords rOf rHouse rHouses)
def RdW(K:y0)(c:CS)(cg:GC)(cb g:X0)(ws:List V0)(H:Hp)(Q:VK)(E:XK)(r:Res Wd):Prop:=To r (λ d m=>∀v H',SY g H H'->GuO K cg H' g ws m->WdO K c H' v d->Q v H') (BF cb g H E)
def Z5R(c:CS)(cg:GC)(cb:X0)(K:y0)(k:Nat):Sp:=λ vs H Q E=>∃(g:X0)(ws:List V0)(n:Nat)(name:V0),vs=[.ref g,.str name]/\GuO K cg H g ws n/\RdW K c cg cb g ws H Q E (rWord ws k name n)
theorem Z9X{K:y0}{H:Hp}:∀{us:List V}{ts:List (V0×V0)},A2 (λ v t=>RT K H v (pD t)) us ts->RTs K H us (ts.map pD)
 |_,_,.nil=>.nil
 |_,_,.cons a b=>.cons a (Z9X b)
theorem J5x{K:y0}{cs:CS}{c:Hp}{pa:X0}{xs:List V}{bv:V}{d:Wd}{Q:X0->Hp->Prop}(hp:SqL K c pa xs)(hx:RTs K c xs (d.params.map pD))(hl:d.params.length<=20000)(ht:TO K cs.term c bv d.body)(q:∀x H',c x=none->Same c H'->WdO K cs H' (.ref x) d->Q x H'):∀x b:X0,c x=none->c b=none->¬b=x->Z5D cs K [.ref x,.str d.name,.ref pa,.str d.kind,bv] (upd (upd c b (.own x)) x (.ins cs.word b [])) (λ v g=>v=.non/\Q x g) E0:=λ x b hx' hb n=>by
 have s1:Same c (upd (upd c b (.own x)) x (.ins cs.word b [])):=λ a o e=>by
  rw[Z0h (Z0g e hx'),Z0h (Z0g e hb)];exact e
 exact⟨x,b,pa,xs,bv,d,rfl,Z0e,SqL.same hp s1,hx.same s1,hl,ht.kp (Kp.of s1),λ H' s2 t=>⟨rfl,q x H' hx' (λ a o e=>s2 _ _ (Z0g e hx') (s1 _ _ e)) t⟩⟩
theorem Z3t{ws:List V0}{n m:Nat}{x:V0×V0}(h:rPair ws n=.ok x m):n<m:=by
 unfold RR.rPair at h;obtain⟨a,i,e1,h⟩:=RR.bind_ok h;obtain⟨q1,q2,q3,q4⟩:=RR.needName_ok e1;obtain⟨b,j,e2,h⟩:=RR.bind_ok h;cases h;unfold RR.rKind at e2;split at e2
 ·cases e2;omega
 split at e2
 ·cases e2;omega
 ·obtain⟨q1,q2,q3,q4⟩:=RR.needName_ok e2;omega
theorem J2H(T:Txt P w K mg C_Guest Ct Cw Ch Cp C_BadForm D_STRENGTHS D_TRUTHS U_TOLD_WORDS){k:Nat}(hK:K.In base)(O0M:HasX P w K mg base 5 "read_pair" ["guest"] (Z5p ⟨C_Guest,C_tb,LP,LQ⟩ C_BadForm K))(O0L:HasX P w K mg base 6 "read_list" ["guest","read_item"] (Z5j P w mg base ⟨C_Guest,C_tb,LP,LQ⟩ C_BadForm K 5))(O0l:HasX P w K mg base 1 "need_few" ["found","most"] (Z3Y C_BadForm K))(O0J:HasX P w K mg base 4 "read_kind" ["guest"] (Z5G ⟨C_Guest,C_tb,LP,LQ⟩ C_BadForm K))(h_Guest_need:HasMX P w K mg base 3 C_Guest "need" ["self","word"] (Z1O ⟨C_Guest,C_tb,LP,LQ⟩ C_BadForm K))(O0a:HasX P w K mg base (8*k+8) "read_term" ["guest","least","lowest","deep"] (Z1M ⟨C_Guest,C_tb,LP,LQ⟩ C_BadForm Ct K k))(h_Word___init__:HasM P w K mg base 2 Cw "__init__" ["self","name","params","kind","body"] (Z5D (CS.mk Ct Cw Ch Cp C_Guest C_Guest C_Guest C_Guest B) K)):HasX P w K mg base (8*k+9) "read_word" ["guest","name"] (Z5R (CS.mk Ct Cw Ch Cp C_Guest C_Guest C_Guest C_Guest B) ⟨C_Guest,C_tb,LP,LQ⟩ C_BadForm K k):=by
 refine HasX.of T.O1v O0C (λ _ _ _ _ _ _ us hl=>el2 us hl λ _ _=>rfl) (λ vs H Q E h=>?_) (λ f cdv A outer s H vs Q E hr h=>?_)
 ·obtain⟨g,ws,n,name,rfl,_⟩:=h;rfl
 obtain⟨g,ws,n,name,rfl,hg,q⟩:=h;refine⟨_,(Z0a (qG 2 O0C.nd (Z0r O0L hr qS rfl (qJ (pvF 0) (J7r T.O0I rfl)))) (Z0a (Z0t (Z0r O0l hr qS rfl (qJ (pvF 2) (Z0C T.c_MOST_PARAMS rfl)))) (Z0a (qG 3 O0C.nd (Z0r O0J hr qS rfl (qI (pvF 0)))) (Z0a (Z0t (Z0Y (pvF 0) T.Guest.cl h_Guest_need hr qS (qI Z0c))) (Z0b (Z0k (Z1G T.Word h_Word___init__ hr qS rfl (Z0o (pvF 1) (qK (pvF 2) (pvF 3) (Z0r O0a hr qS rfl (Z0o (pvF 0) (qK (Z0C T.c_WEAKEST rfl) (Z0C T.c_WEAKEST rfl) Z0f)))))))))))),?_⟩;walk_at "r";intro f2 m2;obtain⟨f',m',it⟩:=O0M.item T.O0I hK;cases m'.symm.trans m2;unfold RR.rWord at q;refine⟨V0×V0,g,_,ws,n,rPair ws,λ H v x=>RT K H v (pD x),[],rfl,hg,λ p hp=>(nomatch hp),it.imp (λ vs H Q E h=>?_),λ H H' v x k h=>h.kt k.kt,λ n x m e=>Z3t e,To.mono (To.bind q) (λ ps i _ q l us H1 s1 h1 g1 e1 o1=>?_) λ b=>b⟩
 ·obtain⟨n,rfl,hg,_,q⟩:=h;exact⟨g,ws,n,rfl,hg,q⟩
 have lu:=o1.len;refine⟨l,us,4,rfl,e1,qQ,ite2 (λ e=>?_) λ e=>?_⟩
 ·rw[if_pos (by rw[<-lu];exact e)]at q;exact λ H2 s2=>q H2 (sxt s1 (SY.of s2))
 rw[if_neg (by rw[<-lu];exact e)]at q;refine⟨g,ws,i,rfl,g1,To.mono (To.bind q) (λ kd j _ q H2 s2 g2=>?_) λ b=>b.same s1⟩;obtain⟨gx,rv,h2⟩:=g2.meth;have S2:=sxt s1 s2;refine⟨gx,_,h2,rfl,⟨g,ws,j,_,rfl,g2,qP,qP,To.mono (To.bind q) (λ _ j' _ q H3 s3 g3=>?_) λ b=>b.same S2⟩⟩;have S3:=sxt S2 s3;refine⟨g,ws,j',1,1,1,rfl,g3,qa0 _,qa0 _,To.mono (To.bind q) (λ t m _ q v H4 s4 g4 o4=>?_) λ b=>b.same S3⟩;have n1:l≠g:=λ z=>by obtain⟨_,_,y⟩:=g1.meth;rw[z,y]at e1;cases e1
 have S24:=sxt s2 (sxt s3 s4);have k4:=(g1.kq s2).trans ((g2.kq s3).trans (g3.kq s4));exact J5x (d:=⟨name,ps,kd,t⟩) (SqL.of (S24.lst n1 e1)) (RTs.kt k4.kt (Z9X o1)) (qa1 (qe7 (by rw[<-lu];exact e)) qS) o4 λ x H5 _ s5 w5=>q _ H5 (sxt S3 (sxt s4 (SY.of s5))) (g4.same s5) w5
def RdH(K:y0)(c:CS)(cg:GC)(cb g:X0)(ws:List V0)(H:Hp)(Q:VK)(E:XK)(r:Res Hs):Prop:=To r (λ d m=>∀v H',SY g H H'->GuO K cg H' g ws m->HsO K c H' v d->Q v H') (BF cb g H E)
def Z6d(c:CS)(cg:GC)(cb:X0)(K:y0)(k:Nat):Sp:=λ vs H Q E=>∃(g:X0)(ws:List V0)(n:Nat),vs=[.ref g]/\GuO K cg H g ws n/\RdH K c cg cb g ws H Q E (rHouse ws k n)
def GwI(K:y0)(cg:GC)(g l:X0)(ws:List V0){α:Type}(R:Hp->V->α->Prop)(H:Hp)(σ0:St)(Ex:Hp->Prop)(F:Nat->List α->Nat->Prop)(j:Nat)(σ:St)(H':Hp):Prop:=∃us xs m,σ=σ0/\SY g H H'/\GuO K cg H' g ws m/\Ex H'/\H' l=some (.lst us)/\A2 (R H') us xs/\xs.length<=m/\F j xs m
theorem To.bnd{α β:Type}{a:Res α}{f:α->Nat->Res β}{p:β->Nat->Prop}{q:Prop}(h:To a (λ x m=>To (f x m) p q) q):To (a.bind f) p q:=by
 cases a<;>exact h
theorem Z8u{ws:List V0}:∀{k:Nat}{xs ys:List (V0×V0)}{n m:Nat},rMore ws (rPair ws) k xs n=.ok ys m->n<m
 |0,_,_,_,_,h=>by cases h
 |k+1,xs,ys,n,m,h=>by
  unfold RR.rMore at h;split at h
  ·obtain⟨y,b,e2,h⟩:=RR.bind_ok h;have:=Z3t e2;have:=Z8u h;omega
  ·obtain⟨_,b,e2,h⟩:=RR.bind_ok h;obtain⟨q3,q4⟩:=RR.need_ok qP e2;cases h;omega
theorem J2Q{ws:List V0}{n m:Nat}{x:V0}(h:rKind ws n=.ok x m):n<m:=by
 unfold RR.rKind at h;split at h
 ·cases h;omega
 split at h
 ·cases h;omega
 ·obtain⟨q1,q2,q3,q4⟩:=RR.needName_ok h;omega
theorem J3z{K:y0}{cs:CS}{c:Hp}{fa wl:X0}{fx ws:List V}{d:Hs}{Q:X0->Hp->Prop}(hp:SqL K c fa fx)(hx:RTs K c fx (d.fields.map pD))(hl:d.fields.length<=20000)(hw:SqL K c wl ws)(hws:A2 (WdO K cs c) ws d.words)(q:∀x H',c x=none->Same c H'->HsO K cs H' (.ref x) d->Q x H'):∀x b:X0,c x=none->c b=none->¬b=x->Z5K cs K [.ref x,.str d.name,oS d.elder,.ref fa,.ref wl] (upd (upd c b (.own x)) x (.ins cs.house b [])) (λ v g=>v=.non/\Q x g) E0:=λ x b hx' hb n=>by
 have s1:Same c (upd (upd c b (.own x)) x (.ins cs.house b [])):=λ a o e=>by
  rw[Z0h (Z0g e hx'),Z0h (Z0g e hb)];exact e
 exact⟨x,b,wl,fa,fx,ws,d,rfl,Z0e,SqL.same hp s1,hx.same s1,hl,SqL.same hw s1,hws.mono λ _ _ r=>WdO.kp r (Kp.of s1),λ H' s2 t=>⟨rfl,q x H' hx' (λ a o e=>s2 _ _ (Z0g e hx') (s1 _ _ e)) t⟩⟩
theorem Z8l{ws:List V0}{k n m:Nat}{x:V0}{d:Wd}(h:rWord ws k x n=.ok d m):n<m:=by
 unfold RR.rWord at h;obtain⟨ps,i,e1,h⟩:=RR.bind_ok h;unfold RR.rList at e1;obtain⟨_,a,e0,e1⟩:=RR.bind_ok e1;obtain⟨q1,q2⟩:=RR.need_ok qP e0;have hi:n<i:=by
  split at e1
  ·cases e1;omega
  ·obtain⟨y,b,e2,e1⟩:=RR.bind_ok e1;have:=Z3t e2;have:=Z8u e1;omega
 split at h
 ·cases h
 obtain⟨kd,j,e2,h⟩:=RR.bind_ok h;have:=J2Q e2;obtain⟨_,j',e3,h⟩:=RR.bind_ok h;obtain⟨q3,q4⟩:=RR.need_ok qP e3;obtain⟨t,m',e4,h⟩:=RR.bind_ok h;have:=((RR.rd_good ws k).T 1 1 1 j' (qa0 _) (qa0 _) _ _ e4).2.2;cases h;omega
theorem J0g(T:Txt P w K mg C_Guest Ct Cw Ch Cp C_BadForm D_STRENGTHS D_TRUTHS U_TOLD_WORDS){k:Nat}(h_Guest_need_name:HasMX P w K mg base 3 C_Guest "need_name" ["self"] (Z1U ⟨C_Guest,C_tb,LP,LQ⟩ C_BadForm K))(h_Guest_takes:HasM P w K mg base 2 C_Guest "takes" ["self","word"] (Z1D ⟨C_Guest,C_tb,LP,LQ⟩ K))(h_Guest_need:HasMX P w K mg base 3 C_Guest "need" ["self","word"] (Z1O ⟨C_Guest,C_tb,LP,LQ⟩ C_BadForm K))(O0M:HasX P w K mg base 5 "read_pair" ["guest"] (Z5p ⟨C_Guest,C_tb,LP,LQ⟩ C_BadForm K))(O0l:HasX P w K mg base 1 "need_few" ["found","most"] (Z3Y C_BadForm K))(O0N:HasX P w K mg base (8*k+9) "read_word" ["guest","name"] (Z5R (CS.mk Ct Cw Ch Cp C_Guest C_Guest C_Guest C_Guest B) ⟨C_Guest,C_tb,LP,LQ⟩ C_BadForm K k))(h_House___init__:HasM P w K mg base 2 Ch "__init__" ["self","name","elder","own_fields","own_words"] (Z5K (CS.mk Ct Cw Ch Cp C_Guest C_Guest C_Guest C_Guest B) K)):HasX P w K mg base (8*k+10) "read_house" ["guest"] (Z6d (CS.mk Ct Cw Ch Cp C_Guest C_Guest C_Guest C_Guest B) ⟨C_Guest,C_tb,LP,LQ⟩ C_BadForm K k):=by
 refine HasX.of T.O1n O0k (λ _ _ _ _ _ _ us hl=>el1 us hl λ _=>rfl) (λ vs H Q E h=>?_) (λ f cdv A outer s H vs Q E hr h=>?_)
 ·obtain⟨g,ws,n,rfl,_⟩:=h;rfl
 obtain⟨g,ws,n,rfl,hg,q⟩:=h;refine⟨_,(Z0a (qG 1 O0k.nd (Z0K (pvF 0) T.Guest.cl h_Guest_need_name hr qS)) (Z0a (qG 2 O0k.nd Z0v) (Z0a (Z0s (Z0Q (Z0T (pvF 0) T.Guest.cl h_Guest_takes hr qS (qI Z0c))) (Z0b (qG 2 O0k.nd (Z0K (pvF 0) T.Guest.cl h_Guest_need_name hr qS))) Z0m) (Z0a (Z0t (Z0Y (pvF 0) T.Guest.cl h_Guest_need hr qS (qI Z0c))) (Z0a (qG 3 O0k.nd (Z0E Z1F)) (Z0a (Z2c (Z0F rfl rfl) (Z0Q (Z0T (pvF 0) T.Guest.cl h_Guest_takes hr qS (qI Z0c))) (Z0b (Z0t (Z3M qd6 qe0 qe1 Z0X (pvF 3) (qI (Z0r O0M hr qS rfl (qI (pvF 0)))))))) (Z0a (Z0t (Z0r O0l hr qS rfl (qJ (pvF 3) (Z0C T.c_MOST_FIELDS rfl)))) (Z0a (qG 4 O0k.nd (Z0E Z1F)) (Z0a (Z2c (Z0F rfl rfl) (Z0Q (Z0T (pvF 0) T.Guest.cl h_Guest_takes hr qS (qI Z0c))) (Z0b (Z0t (Z3M qd6 qe0 qe1 Z0X (pvF 4) (qI (Z0r O0N hr qS rfl (qJ (pvF 0) (Z0K (pvF 0) T.Guest.cl h_Guest_need_name hr qS)))))))) (Z0a (Z0t (Z0r O0l hr qS rfl (qJ (pvF 4) (Z0C T.c_MOST_WORDS rfl)))) (Z0a (Z0t (Z0Y (pvF 0) T.Guest.cl h_Guest_need hr qS (qI Z0c))) (Z0b (Z0k (Z1G T.House h_House___init__ hr qS rfl (Z0o (pvF 1) (qK (pvF 2) (pvF 3) (pvF 4))))))))))))))))),?_⟩;refine J8W λ uz11 huz11 uz10 huz10 uz9 huz9 uz8 huz8 uz7 huz7 uz6 huz6 uz5 huz5 uz4 huz4 uz3 huz3 uz2 huz2 uz1 huz1=>?_;walk_at "r";unfold RR.rHouse at q;obtain⟨gx,rv,h0⟩:=hg.meth;refine⟨gx,_,h0,rfl,⟨g,ws,n,rfl,hg,To.mono (To.bind q) (λ x i _ q H1 s1 g1=>?_) λ b=>b⟩⟩;subst huz1;walk_at "r";subst huz2;walk_at "r";have go3:∀(el:Option V0)(j:Nat)(H2:Hp),SY g H H2->GuO K ⟨C_Guest,C_tb,LP,LQ⟩ H2 g ws j->RdH K (CS.mk Ct Cw Ch Cp C_Guest C_Guest C_Guest C_Guest B) ⟨C_Guest,C_tb,LP,LQ⟩ C_BadForm g ws H Q E ((need ws "{" j).bind λ _ i=>(rFields ws (ws.length+1) [] i).bind λ fs j=>if 4<fs.length then .bad else(rWords ws k (ws.length+1) [] j).bind λ wds j=>if 8<wds.length then .bad else(need ws "}" j).bind λ _ m=>.ok ⟨x,el,fs,wds⟩ m)->uz3 {nx:=λ x H'=>Q V.non H',rt:=Q} [some (V.ref g),some (V.str x),some (oS el),none,none] H2:=by
  intro el j H2 S2 g2 q;subst huz3;walk_at "r";obtain⟨gx,rv,h2⟩:=g2.meth;refine⟨gx,_,h2,rfl,⟨g,ws,j,_,rfl,g2,qP,qP,To.mono (To.bind q) (λ _ m _ q H3 s3 g3=>?_) λ b=>b.same S2⟩⟩;have S3:=sxt S2 s3;subst huz4;walk_at "r";refine New.of λ p4 H4 h4 s4 e4=>?_;have g4:=g3.same s4;have S4:=sxt S3 (SY.of s4);obtain⟨gx,rv,h4'⟩:=g4.meth;have n4:p4≠g:=λ z=>by rw[z,h4']at e4;cases e4
  have fr4:H p4=none:=S3.free n4 h4;subst huz5;walk_at "r";refine⟨GwI K ⟨C_Guest,C_tb,LP,LQ⟩ g p4 ws (λ H v t=>RT K H v (pD t)) H [some (V.ref g),some (V.str x),some (oS el),some (V.ref p4),none] (λ _=>True) λ j xs m=>RdH K (CS.mk Ct Cw Ch Cp C_Guest C_Guest C_Guest C_Guest B) ⟨C_Guest,C_tb,LP,LQ⟩ C_BadForm g ws H Q E ((rFields ws j xs m).bind λ fs j=>if 4<fs.length then .bad else(rWords ws k (ws.length+1) [] j).bind λ wds j=>if 8<wds.length then .bad else(need ws "}" j).bind λ _ m=>.ok ⟨x,el,fs,wds⟩ m),⟨_,[],[],m,rfl,S4,g4,trivial,e4,.nil,qb4 _,q⟩,?_⟩;rintro jj σ H5 ⟨us,xs,m5,rfl,S5,g5,_,e5,r5,l5,q⟩;cases jj with
  |zero=>exact q.elim
  |succ jj=>
  obtain⟨gx,rv,h5⟩:=g5.meth;walk_at "r";unfold RR.rFields at q;refine⟨gx,_,h5,rfl,⟨g,ws,m5,_,rfl,g5,qP,ite2 (λ e=>?_) λ e=>?_⟩⟩
  ·rw[if_pos e]at q;refine λ H6 s6 g6=>⟨_,rfl,ite2 (λ _=>⟨_,λ _ _ z=>⟨jj,qc9 _,z⟩,.inl ⟨rfl,_,SqL.of (s6.lst n4 e5)⟩,g,ws,m5+1,rfl,g6,To.mono (To.bind (To.bind q)) (λ b m7 eb q v7 H7 s7 g7 r7=>?_) λ b=>b.same (sxt S5 s6)⟩) λ z=>absurd rfl z⟩;have S7:=sxt s6 s7;have e7:=S7.lst n4 e5;have sx8:SX p4 H7 (upd H7 p4 (.lst (us++[v7]))):=SX.put _;have e8:upd H7 p4 (.lst (us++[v7])) p4=some (.lst (us++[v7])):=Z0e;have lu:=r5.len;have l7:=Z3t eb;have le7:=qa1 g7.le g7.len;refine⟨_,e7,by omega,?_⟩;generalize upd H7 p4 (.lst (us++[v7]))=H8 at*;have k8:=Kq.sxl sx8 e7;exact⟨_,xs++[b],m7,rfl,(sxt S5 S7).side fr4 sx8,g7.lst e7 sx8,trivial,e8,A2.snoc (r5.mono λ _ _ r=>r.kt ((g5.kq S7).trans k8).kt) (r7.kt k8.kt),by rw[qa5];show xs.length+1<=m7;omega,To.bnd q⟩
  rw[if_neg e]at q;refine⟨_,rfl,ite2 (λ z=>by cases z) λ _=>?_⟩;have q:=show RdH K (CS.mk Ct Cw Ch Cp C_Guest C_Guest C_Guest C_Guest B) ⟨C_Guest,C_tb,LP,LQ⟩ C_BadForm g ws H Q E (if 4<xs.length then .bad else(rWords ws k (ws.length+1) [] m5).bind λ wds j=>if 8<wds.length then .bad else(need ws "}" j).bind λ _ m=>.ok ⟨x,el,xs,wds⟩ m)from q
  have lu:=r5.len;subst huz6;walk_at "r";refine⟨p4,us,4,rfl,e5,qQ,ite2 (λ e=>?_) λ e=>?_⟩
  ·rw[if_pos (by rw[<-lu];exact e)]at q;exact λ H6 s6=>q H6 (sxt S5 (SY.of s6))
  rw[if_neg (by rw[<-lu];exact e)]at q;have lf:xs.length<=4:=qe7 (by rw[<-lu];exact e);subst huz7;walk_at "r";refine New.of λ p6 H6 h6 s6 e6=>?_;have g6:=g5.same s6;have S6:=sxt S5 (SY.of s6);obtain⟨gx,rv,h6'⟩:=g6.meth;have n6:p6≠g:=λ z=>by rw[z,h6']at e6;cases e6
  have n64:p6≠p4:=nq e5 h6;have fr6:H p6=none:=S5.free n6 h6;subst huz8;walk_at "r";refine⟨GwI K ⟨C_Guest,C_tb,LP,LQ⟩ g p6 ws (λ H v t=>WdO K (CS.mk Ct Cw Ch Cp C_Guest C_Guest C_Guest C_Guest B) H v t) H [some (V.ref g),some (V.str x),some (oS el),some (V.ref p4),some (V.ref p6)] (λ H'=>H' p4=some (.lst us)/\RTs K H' us (xs.map pD)) λ j ys m=>(RdH K (CS.mk Ct Cw Ch Cp C_Guest C_Guest C_Guest C_Guest B) ⟨C_Guest,C_tb,LP,LQ⟩ C_BadForm g ws H Q E ((rWords ws k j ys m).bind λ wds j=>if 8<wds.length then .bad else(need ws "}" j).bind λ _ m=>.ok ⟨x,el,xs,wds⟩ m)),⟨_,[],[],m5,rfl,S6,g6,⟨s6 _ _ e5,(Z9X r5).same s6⟩,e6,.nil,qb4 _,q⟩,?_⟩;rintro jj σ H7 ⟨vs,ys,m7,rfl,S7,g7,⟨x1,x2⟩,e7,r7,l7,q⟩;cases jj with
  |zero=>exact q.elim
  |succ jj=>
  obtain⟨gx,rv,h7⟩:=g7.meth;walk_at "r";unfold RR.rWords at q;refine⟨gx,_,h7,rfl,⟨g,ws,m7,_,rfl,g7,qP,ite2 (λ e=>?_) λ e=>?_⟩⟩
  ·rw[if_pos e]at q;refine λ H8 s8 g8=>⟨_,rfl,ite2 (λ _=>?_) λ z=>absurd rfl z⟩;obtain⟨gx,rv,h8⟩:=g8.meth;refine⟨_,λ _ _ z=>⟨jj,qc9 _,z⟩,.inl ⟨rfl,_,SqL.of (s8.lst n6 e7)⟩,⟨gx,_,h8,rfl,⟨g,ws,m7+1,rfl,g8,To.mono (To.bind (To.bind q)) (λ y m9 ey q H9 s9 g9=>?_) λ b=>b.same (sxt S7 s8)⟩⟩⟩;have S9:=sxt s8 s9;obtain⟨y1,y2,y3,y4⟩:=RR.needName_ok ey;refine⟨g,ws,m9,y,rfl,g9,To.mono (To.bind q) (λ d m10 ed q v10 H10 s10 g10 o10=>?_) λ b=>b.same (sxt S7 S9)⟩;have S10:=sxt S9 s10;have e10:=S10.lst n6 e7;have sx11:SX p6 H10 (upd H10 p6 (.lst (vs++[v10]))):=SX.put _;have e11:upd H10 p6 (.lst (vs++[v10])) p6=some (.lst (vs++[v10])):=Z0e;have lu':=r7.len;have l10:=Z8l ed;have le10:=qa1 g10.le g10.len;refine⟨_,e10,by omega,?_⟩;generalize upd H10 p6 (.lst (vs++[v10]))=H11 at*;have k11:=Kq.sxl sx11 e10;have kk:=(g7.kq S10).trans k11;exact⟨_,ys++[d],m10,rfl,(sxt S7 S10).side fr6 sx11,g10.lst e10 sx11,⟨sx11 _ _ (Ne.symm n64) (S10.lst n4 x1),x2.kt kk.kt⟩,e11,A2.snoc (r7.mono λ _ _ r=>r.kq kk) (o10.kq k11),by rw[qa5];show ys.length+1<=m10;omega,To.bnd q⟩
  rw[if_neg e]at q;refine⟨_,rfl,ite2 (λ z=>by cases z) λ _=>?_⟩;have q:=show RdH K (CS.mk Ct Cw Ch Cp C_Guest C_Guest C_Guest C_Guest B) ⟨C_Guest,C_tb,LP,LQ⟩ C_BadForm g ws H Q E (if 8<ys.length then .bad else(need ws "}" m7).bind λ _ m=>.ok ⟨x,el,xs,ys⟩ m)from q
  have lu':=r7.len;subst huz9;walk_at "r";refine⟨p6,vs,8,rfl,e7,qQ,ite2 (λ e=>?_) λ e=>?_⟩
  ·rw[if_pos (by rw[<-lu'];exact e)]at q;exact λ H8 s8=>q H8 (sxt S7 (SY.of s8))
  rw[if_neg (by rw[<-lu'];exact e)]at q;subst huz10;walk_at "r";refine⟨gx,_,h7,rfl,⟨g,ws,m7,_,rfl,g7,qP,qP,To.mono (To.bind q) (λ _ m8 _ q H8 s8 g8=>?_) λ b=>b.same S7⟩⟩;subst huz11;walk_at "r";exact J3z (d:=⟨x,el,xs,ys⟩) (SqL.of (s8.lst n4 x1)) (x2.kt (g7.kq s8).kt) (qa1 lf qS) (SqL.of (s8.lst n6 e7)) (r7.mono λ _ _ r=>r.kq (g7.kq s8)) λ y H9 _ s9 t9=>q _ H9 (sxt S7 (sxt s8 (SY.of s9))) (g8.same s9) t9
 obtain⟨gx,rv,h1⟩:=g1.meth;refine⟨gx,_,h1,rfl,⟨g,ws,i,_,rfl,g1,qP,ite2 (λ e=>?_) λ e=>?_⟩⟩
 ·have q:RdH K (CS.mk Ct Cw Ch Cp C_Guest C_Guest C_Guest C_Guest B) ⟨C_Guest,C_tb,LP,LQ⟩ C_BadForm g ws H Q E ((rOf ws i).bind _):=q;unfold RR.rOf at q;rw[if_pos e]at q;refine λ H2 s2 g2=>⟨_,rfl,ite2 (λ _=>?_) λ z=>absurd rfl z⟩;obtain⟨gx,rv,h2⟩:=g2.meth;exact⟨gx,_,h2,rfl,⟨g,ws,i+1,rfl,g2,To.mono (To.bind (To.bind q)) (λ y m _ q H3 s3 g3=>go3 (some y) m H3 (sxt (sxt s1 s2) s3) g3 q) λ b=>b.same (sxt s1 s2)⟩⟩
 ·have q:RdH K (CS.mk Ct Cw Ch Cp C_Guest C_Guest C_Guest C_Guest B) ⟨C_Guest,C_tb,LP,LQ⟩ C_BadForm g ws H Q E ((rOf ws i).bind _):=q;unfold RR.rOf at q;rw[if_neg e]at q;exact⟨_,rfl,ite2 (λ z=>by cases z) λ _=>go3 none i H1 s1 g1 q⟩
open RR (Res ahead opens bodies)
def Z8a(cb:X0)(K:y0):Sp:=λ vs H Q E=>∃(l:X0)(ws:List V0),vs=[.ref l]/\H l=some (.lst (ws.map V.str))/\ws.length<=6000/\if opens ws 0=false then(∀H',Same H H'->E (.ref cb) none H')else Q .non H
inductive Z6U(c:CS)(K:y0)(vs:List V)(H:Hp)(Q:VK):Prop
 |mk(v:V)(p:Pg)(a1:vs=[v])(a2:PgO K c H v p)(a3:(bodies p).length<=20000)(a4:∀l us H',Same H H'->H l=none->H' l=some (.lst us)->TOs K c.term H' us (bodies p)->Q (.ref l) H'):Z6U c K vs H Q
def Z6p(c:CS)(K:y0):Sp:=λ vs H Q _=>Z6U c K vs H Q
def Z4N(c:CS)(cb:X0)(K:y0):Sp:=λ vs H Q E=>∃(v:V)(p:Pg),vs=[v]/\PgO K c H v p/\(bodies p).length<=20000/\(if((bodies p).any λ b=>decide (14<b.depth))=true then(∀H',Same H H'->E (.ref cb) none H')else if 400<sumS (bodies p)then(∀H',Same H H'->E (.ref cb) none H')else ∀H',Same H H'->Q .non H')
def OpI(E:XK)(cb l:X0)(ws:List V0)(H:Hp)(Q:VK)(i:Nat)(σ:St)(H':Hp):Prop:=H'=H/\∃(o:Int)(w:Option V),σ=[some (V.ref l),some (V.int o),w]/\if opens (ws.drop i) o=false then(∀H',Same H H'->E (.ref cb) none H')else Q .non H
theorem J4X{α:Type}{ws:List α}{i:Nat}{x:α}(h:ws[i]?=some x):ws.drop i=x::ws.drop (i+1):=by
 obtain⟨h1,h2⟩:=qb7.mp h;rw[qg4 h1,h2]
def BdI(K:y0)(ct a l:X0)(hs:List Hs)(H:Hp)(i:Nat)(σ:St)(H':Hp):Prop:=∃us w,σ=[some (V.ref a),some (V.ref l),w]/\Same H H'/\H' l=some (.lst us)/\TOs K ct H' us ((hs.take i).flatMap λ h=>h.words.map (·.body))
theorem SX.kpl'{x:X0}{xs:List V}{H H':Hp}(s:SX x H H')(hx:H x=some (.lst xs)):Kp H H':=
 ⟨λ b xs e=>s _ _ (λ z=>by rw[z,hx]at e;cases e) e,λ b o xs e=>s _ _ (λ z=>by rw[z,hx]at e;cases e) e,λ b C dx f fs e=>s _ _ (λ z=>by rw[z,hx]at e;cases e) e⟩
theorem Z9L{K:y0}{C:X0}{H:Hp}:∀{ws:List Wd}{vs:List V},vs.length=ws.length->(∀(j:Nat) v,vs[j]?=some v->∃w,ws[j]?=some w/\TO K C H v w.body)->TOs K C H vs (ws.map (·.body))
 |[],[],_,_=>.nil
 |t::ts,v::vs,e,h=>by
  obtain⟨t',a,b⟩:=h 0 v rfl;cases a;exact .cons b (Z9L (qi6 e) λ j u hu=>h (j+1) u hu)
theorem Z8E{α:Type}(f:α->V):∀{ts:List α}{vs:List V},vs.length=ts.length->(∀(j:Nat) v,vs[j]?=some v->∃t,ts[j]?=some t/\v=f t)->vs=ts.map f
 |[],[],_,_=>rfl
 |t::ts,v::vs,e,h=>by
  obtain⟨t',a,b⟩:=h 0 v rfl;cases a;rw[qc4,b,Z8E f (qi6 e) λ j u hu=>h (j+1) u hu]
theorem Z7h:∀(ts:List Tm),(ts.map λ t=>((t.size:Nat):Int)).sum=((sumS ts:Nat):Int)
 |[]=>rfl
 |t::ts=>by
  rw[qc4,List.sum_cons,Z7h ts];show _=(((t.size+sumS ts:Nat)):Int);omega
theorem J1Y(T:Txt P w K mg C_Guest Ct Cw Ch Cp C_BadForm D_STRENGTHS D_TRUTHS U_TOLD_WORDS):HasX P w K mg base 1 "need_few_open" ["row"] (Z8a C_BadForm K):=by
 refine HasX.of T.O1b O0f (λ _ _ _ _ _ _ us hl=>el1 us hl λ _=>rfl) (λ vs H Q E h=>?_) (λ f cdv A outer s H vs Q E hr h=>?_)
 ·obtain⟨l,ws,rfl,_⟩:=h;rfl
 obtain⟨l,ws,rfl,hl,hn,q⟩:=h;refine⟨_,(Z0a (qG 1 O0f.nd Z0f) (Z0b (Z3I (Z0F rfl rfl) rfl (Z1H (pvF 0)) (qH 2 O0f.nd) (Z0a (Z0s (qM Z1t (pvF 2) Z0c) (Z0b (Z6G (i:=1) O0f.nd rfl (Or.inl rfl) Z0f Z8V)) (Z0b (Z0s (qM Z1t (pvF 2) Z0c) (Z0b (Z6G (i:=1) O0f.nd rfl (Or.inl rfl) Z0f J6T)) Z0m))) (Z0b (Z0s (qM Z5A (pvF 1) (Z0C T.c_MOST_OPEN rfl)) (Z0b (Z0H T.x_BadForm hr rfl (qI Z0c))) Z0m)))))),?_⟩;walk_at "r";refine⟨⟨_,SqL.of hl⟩,Z7n (ws.map V.str) (OpI E C_BadForm l ws H Q) ⟨rfl,0,none,rfl,q⟩ (λ i σ H' _ h=>by rw[h.1];exact SqL.of hl) (λ i y σ H' hy h=>?_) (λ σ H' h=>?_)⟩
 ·obtain⟨rfl,o,w,rfl,q⟩:=h;rw[qc0]at hy;obtain⟨x,hx,rfl⟩:=qd3.mp hy;rw[J4X hx]at q;unfold RR.opens at q;dsimp only at q;walk_at "r";have go:∀o':Int,(if(if 14<o' then false else opens (ws.drop (i+1)) o')=false then(∀H2,Same H' H2->E (.ref C_BadForm) none H2)else Q .non H')->if 14<o' then ∀(x:X0),H' x=none->E (Value.ref C_BadForm) none (upd H' x (excO x C_BadForm none))else OpI E C_BadForm l ws H' Q (i+1) [some (V.ref l),some (V.int o'),some (V.str x)] H':=λ o' q=>by
   refine ite2 (λ e=>?_) λ e=>?_
   ·rw[if_pos e,if_pos rfl]at q;exact λ x hx=>q _ (Z0x hx _)
   ·rw[if_neg e]at q;exact⟨rfl,o',_,rfl,q⟩
  refine ite2 (λ e=>?_) λ e=>ite2 (λ e'=>?_) λ e'=>?_
  ·rw[if_pos e]at q;exact go _ q
  ·rw[if_neg e,if_pos e']at q;exact go _ q
  ·rw[if_neg e,if_neg e']at q;exact go _ q
 ·obtain⟨rfl,o,w,rfl,q⟩:=h;rw[qa3,List.drop_length]at q;exact q
theorem Z9R(T:Txt P w K mg C_Guest Ct Cw Ch Cp C_BadForm D_STRENGTHS D_TRUTHS U_TOLD_WORDS):HasM P w K mg base 1 Cp "bodies" ["self"] (Z6p (CS.mk Ct Cw Ch Cp C_Guest C_Guest C_Guest C_Guest B) K):=by
 refine HasM.of T.m_Program_bodies sc_Program_bodies (λ _ _ _ _ _ _ us hl=>el1 us hl λ _=>rfl) (λ vs H Q E h=>?_) (λ f cdv A outer s H vs Q E hr h=>?_)
 ·obtain⟨v,p,rfl,_⟩:=h;rfl
 obtain⟨v,p,rfl,hp,hl,q⟩:=h;cases hp with
 |@mk a dx ht hs mv p p1 p2 p3 p4=>
 refine⟨_,(Z0a (qG 1 sc_Program_bodies.nd (Z0E Z1F)) (Z0a (Z3I PassesOwn.never rfl (Z3G (qO 0)) (qH 2 sc_Program_bodies.nd) (Z0b (Z0t (Z3M qd6 PySem.F.slot_list_extend PySem.F.type_list_extend J1q (pvF 1) (qI (Z0G rfl (BlockOk.plain (N:=["word"]) rfl qP qP qP) (Z3G (qO 2)) (λ C fp s H=>(qH 0 (show(["word"]:List V0).Nodup by decide+kernel))) (λ C fp s H=>(show PE _ _ (J2j K _ "body")from Z3y (pvF 0) rfl)))))))) (Z0a (Z0t (Z3M qd6 qe0 qe1 Z0X (pvF 1) (qI (Z3y (qO 0) rfl)))) (Z0b (Z0k (pvF 1)))))),?_⟩;refine seq4 λ uz3 huz3 uz2 huz2 uz1 huz1=>?_;walk_at "r";refine New.of λ l1 H1 h1 s1 e1=>?_;subst huz1;walk_at "r";refine⟨Cp,dx,_,s1 _ _ p1,T.Program.cl,T.n_Program_all_houses,_,rfl,ht,rfl,⟨_,SqT.same p2 s1⟩,J2E hs (BdI K Ct a l1 p.houses H) ⟨[],none,rfl,s1,e1,.nil⟩ (λ i σ H' _ h=>?_) (λ i y σ H' hy h=>?_) (λ σ H' h=>?_)⟩
 ·obtain⟨us,w,rfl,S,_⟩:=h;exact SqT.same p2 S
 ·obtain⟨us,w,rfl,S,e,t⟩:=h;obtain⟨d,hd,hO⟩:=p3.at hy;cases hO with
  |@mk ha hx ft wt zs _ o1 o2 o3 o4=>
  walk_at "r";have hi:=(qb7.mp hd).1;have ptk:(p.houses.take (i+1)).flatMap (λ h=>h.words.map (·.body))=((p.houses.take i).flatMap λ h=>h.words.map (·.body))++d.words.map (·.body):=by
   rw[List.take_succ,hd,qj6];show _++(d.words.map (·.body)++[])=_;rw[qb6]
  have lens:us.length+d.words.length<=20000:=by
   have h1:(bodies p).length=((p.houses.flatMap λ h=>h.words.map (·.body))++[p.main.body]).length:=rfl;have h2:p.houses.flatMap (λ h=>h.words.map (·.body))=(p.houses.take (i+1)).flatMap (λ h=>h.words.map (·.body))++(p.houses.drop (i+1)).flatMap (λ h=>h.words.map (·.body)):=by
    rw[<-qj6,List.take_append_drop]
   rw[qa5,h2,ptk,qa5,qa5,qa3]at h1;have:=t.length;omega
  refine⟨.inl ⟨rfl,_,SqL.of e⟩,⟨Ch,hx,_,S _ _ o1,T.House.cl,T.n_House_own_words,_,rfl,wt,rfl,⟨_,SqT.same o3 S⟩,λ D hD=>?_⟩⟩;have lz:=o4.len;refine Z1T (ys:=zs) none [] (λ j v H=>∃w,d.words[j]?=some w/\TO K Ct H v w.body) (λ j v H1 H2 ⟨t,a,b⟩ s=>⟨t,a,b.kp (kpN s)⟩) rfl hD (by rw[sizeLine_eq];omega) (λ H1 s=>SqT.same o3 (S.trans s)) (λ j y hy H1 K' s k=>?_) (λ vs Hc Sc hv lv hR=>?_)
  ·walk_at "r";obtain⟨wd,hwd,hW⟩:=o4.at hy;cases hW with
   |@mk wa wx pt bv _ w1 w2 w3=>
    exact⟨wa,rfl,⟨Cw,wx,_,s _ _ (S _ _ w1),T.Word.cl,T.n_Word_body,_,rfl,k _ _ (Same.refl _) ⟨wd,hwd,(w3.kp (Kp.of S)).kp (Kp.of s)⟩⟩⟩
  ·have e2:=Sc _ _ e;have nD:D≠l1:=λ z=>by rw[z,e]at hD;cases hD
   refine⟨D,rfl,us,e2,vs,hv,by omega,?_⟩;have sx:SX l1 Hc (upd Hc l1 (.lst (us++vs))):=SX.put _;have kx:=SX.kpl' sx e2;refine⟨us++vs,_,rfl,λ b o q=>by rw[Z0h (λ z=>by rw[z,h1]at q;cases q)];exact Sc _ _ (S _ _ q),Z0e,?_⟩;rw[ptk];exact TOs.app ((t.kp (Kp.of Sc)).kp kx) ((Z9L (lv.trans lz) hR).kp kx)
 ·obtain⟨us,w,rfl,S,e,t⟩:=h;show uz2 _ _ _;subst huz2;walk_at "r";have lh:=p3.len;rw[lh,qh8]at t;have l2:=t.length;have l3:(bodies p).length=((p.houses.flatMap λ h=>h.words.map (·.body))++[p.main.body]).length:=rfl;rw[qa5]at l3;cases p4 with
  |@mk wa wx pt bv _ w1 w2 w3=>
  refine⟨.inl ⟨rfl,_,SqL.of e⟩,⟨Cp,dx,_,S _ _ p1,T.Program.cl,T.n_Program_main,_,rfl,wa,rfl,⟨Cw,wx,_,S _ _ w1,T.Word.cl,T.n_Word_body,_,rfl,us,e,by omega,?_⟩⟩⟩;subst huz3;walk_at "r";have sx:SX l1 H' (upd H' l1 (.lst (us++[bv]))):=SX.put _;have kx:=SX.kpl' sx e;exact q l1 _ _ (λ b o q=>by rw[Z0h (λ z=>by rw[z,h1]at q;cases q)];exact S _ _ q) h1 Z0e (TOs.app (t.kp kx) (.cons ((w3.kp (Kp.of S)).kp kx) .nil))
theorem Z9t(T:Txt P w K mg C_Guest Ct Cw Ch Cp C_BadForm D_STRENGTHS D_TRUTHS U_TOLD_WORDS)(h_Program_bodies:HasM P w K mg base 1 Cp "bodies" ["self"] (Z6p (CS.mk Ct Cw Ch Cp C_Guest C_Guest C_Guest C_Guest B) K))(h_Term_depth:HasM P w K mg base 1 Ct "depth" ["self"] (Z4r Ct K))(h_Term_size:HasM P w K mg base 1 Ct "size" ["self"] (Z5I Ct K)):HasX P w K mg base 2 "need_bounds" ["program"] (Z4N (CS.mk Ct Cw Ch Cp C_Guest C_Guest C_Guest C_Guest B) C_BadForm K):=by
 refine HasX.of T.O1j Z4G (λ _ _ _ _ _ _ us hl=>el1 us hl λ _=>rfl) (λ vs H Q E h=>?_) (λ f cdv A outer s H vs Q E hr h=>?_)
 ·obtain⟨v,p,rfl,_⟩:=h;rfl
 obtain⟨v,p,rfl,hp,hl,q⟩:=h;have hp0:=hp;cases hp with
 |@mk a dx ht hs mv p p1 p2 p3 p4=>
 refine⟨_,(Z0a (Z0s (Z0Q (Z0P (r:=J4s K) (J3u rfl) rfl T.z_any J5T (qI (Z0G rfl (BlockOk.plain (N:=["body"]) rfl qP qP qP) (Z1H (Z0u (pvF 0) T.Program.cl h_Program_bodies hr qS)) (λ C fp s H=>(qH 0 (show(["body"]:List V0).Nodup by decide+kernel))) (λ C fp s H=>(Z1i Z5A (Z0u (pvF 0) T.Term.cl h_Term_depth hr qS) (Z0C T.c_MOST_DEEP rfl) (Z4i _))))))) (Z0b (Z0H T.x_BadForm hr rfl (qI Z0c))) Z0m) (Z0b (Z0s (qM Z5A (Z0P (Z8f rfl) rfl T.z_sum J3R (qI (Z0G rfl (BlockOk.plain (N:=["body"]) rfl qP qP qP) (Z1H (Z0u (pvF 0) T.Program.cl h_Program_bodies hr qS)) (λ C fp s H=>(qH 0 (show(["body"]:List V0).Nodup by decide+kernel))) (λ C fp s H=>(Z0u (pvF 0) T.Term.cl h_Term_size hr qS))))) (Z0C T.c_MOST_SIZE rfl)) (Z0b (Z0H T.x_BadForm hr rfl (qI Z0c))) Z0m))),?_⟩;walk_at "r";refine⟨dx,_,p1,rfl,⟨_,p,rfl,hp0,hl,λ l us H1 s1 h1 e1 o1=>⟨l,rfl,⟨_,SqL.of e1⟩,λ D hD=>?_⟩⟩⟩;have lu:=o1.length;refine Z1v (ys:=us) none [] (λ j v H=>∃t,(bodies p)[j]?=some t/\v=V.bl (decide ((14:Int)<(t.depth:Nat)))) (λ j v H1 H2 h s=>h) rfl hD (by rw[sizeLine_eq];omega) (λ H1 s=>SqL.same (SqL.of e1) s) (λ j y hy H2 K' s k=>?_) (λ vs Hc Sc hv lv hR=>?_)
 ·obtain⟨t,ht,hO⟩:=o1.at hy;have hO':=(hO.kp (Kp.of s));have hO2:=hO';cases hO with
  |@mk ta tx inn sh _ _ _ z1 z2 t1 t2 t3 t4 t5=>
  walk_at "r";exact⟨tx,_,s _ _ t1,rfl,⟨_,_,rfl,hO2,_,rfl,k _ _ (Same.refl _) ⟨_,ht,rfl⟩⟩⟩
 have ev:vs=((bodies p).map λ t=>decide ((14:Int)<(t.depth:Nat))).map V.bl:=by
  rw[qd1];exact Z8E _ (lv.trans lu) hR
 have ea:((bodies p).map λ t=>decide ((14:Int)<(t.depth:Nat))).any id=(bodies p).any λ b=>decide (14<b.depth):=by
  rw[List.any_map];refine congrArg (λ g=>(bodies p).any g) (funext λ t=>?_);show decide ((14:Int)<(t.depth:Nat))=decide (14<t.depth);exact decide_eq_decide.mpr (by omega)
 refine⟨D,rfl,_,SqL.of (ev▸hv),?_⟩;rw[ea];have S1:=s1.trans Sc;refine ite2 (λ e=>?_) λ e=>?_
 ·rw[if_pos e]at q;exact λ x hx=>q _ (S1.trans (Z0x hx _))
 rw[if_neg e]at q;refine⟨dx,_,S1 _ _ p1,rfl,⟨_,p,rfl,hp0.same S1,hl,λ l us H3 s3 h3 e3 o3=>⟨l,rfl,⟨_,SqL.of e3⟩,λ D hD=>?_⟩⟩⟩;have lu:=o3.length;refine Z1v (ys:=us) none [] (λ j v H=>∃t,(bodies p)[j]?=some t/\v=V.int (t.size:Nat)) (λ j v H1 H2 h s=>h) rfl hD (by rw[sizeLine_eq];omega) (λ H1 s=>SqL.same (SqL.of e3) s) (λ j y hy H2 K' s k=>?_) (λ vs Hd Sd hv lv hR=>?_)
 ·obtain⟨t,ht,hO⟩:=o3.at hy;have hO2:=(hO.kp (Kp.of s));cases hO with
  |@mk ta tx inn sh _ _ _ z1 z2 t1 t2 t3 t4 t5=>
  walk_at "r";exact⟨tx,_,s _ _ t1,rfl,⟨_,_,rfl,hO2,k _ _ (Same.refl _) ⟨_,ht,rfl⟩⟩⟩
 have ev:vs=((bodies p).map λ t=>((t.size:Nat):Int)).map V.int:=by
  rw[qd1];exact Z8E _ (lv.trans lu) hR
 refine⟨D,rfl,_,SqL.of (ev▸hv),?_⟩;rw[Z7h];have S3:=S1.trans (s3.trans Sd);refine ite2 (λ e=>?_) λ e=>?_
 ·rw[if_pos (by omega)]at q;exact λ x hx=>q _ (S3.trans (Z0x hx _))
 ·rw[if_neg (by omega)]at q;exact q _ S3
open RR (Res ahead need needName Z0I rd rKind rPair rWord rFields rWords rOf rHouse rHouses rProg rRest opens bodies)
structure Cut(x:V0)(ws:List V0):Prop where
 len:x.length<=6000
 cut:∃tx,K10.cutP (K10.cds x) 0=.ok tx/\ws=tx.map λ l=>(⟨l.toArray⟩:V0)
 few:ws.length<=6000
 wd:∀w∈ws,w.length<=6000
inductive Z4X(vs:List V)(H:Hp)(Q:VK):Prop
 |mk(x:V0)(ws:List V0)(a1:vs=[.str x])(a2:Cut x ws)(a3:∀H' p,H p=none->Same H H'->H' p=some (.lst (ws.map V.str))->Q (.ref p) H'):Z4X vs H Q
def Z4U:Sp:=λ vs H Q _=>Z4X vs H Q
def J0e(c:CS)(cg:GC)(cb:X0)(K:y0)(k:Nat):Sp:=λ vs H Q E=>∃(x:V0)(ws:List V0),vs=[.str x]/\Cut x ws/\TbS cg H/\To (rProg ws k) (λ p _=>∀v H',(∀g,SY g H H')->TbS cg H'->PgO K c H' v p->Q v H') (∀H',(∀g,SY g H H')->E (.ref cb) none H')
theorem Z6K{g:X0}{H H':Hp}(s:SY g H H')(h:H g=none):∀g',SY g' H H':=λ g'=>⟨λ b o _ t e=>s.k _ _ (Z0g e h) t e,λ b ps _ e=>s.t _ _ (Z0g e h) e⟩
theorem Z5c{ws:List V0}:∀{k:Nat}{xs ys:List (V0×V0)}{n m:Nat},rFields ws k xs n=.ok ys m->n<=m
 |0,_,_,_,_,h=>by cases h
 |k+1,xs,ys,n,m,h=>by
  unfold RR.rFields at h;split at h
  ·obtain⟨y,b,e2,h⟩:=RR.bind_ok h;have:=Z3t e2;have:=Z5c h;omega
  ·cases h;omega
theorem Z6A{ws:List V0}{kf:Nat}:∀{k:Nat}{xs ys:List Wd}{n m:Nat},rWords ws kf k xs n=.ok ys m->n+ys.length<=m+xs.length
 |0,_,_,_,_,h=>by cases h
 |k+1,xs,ys,n,m,h=>by
  unfold RR.rWords at h;split at h
  ·obtain⟨y,b,e2,h⟩:=RR.bind_ok h;obtain⟨q1,q2,q3,q4⟩:=RR.needName_ok e2;obtain⟨d,c,e3,h⟩:=RR.bind_ok h;have:=Z8l e3;have:=Z6A h;rw[qa5]at this;have:(1:Nat)=[d].length:=rfl;omega
  ·cases h;omega
theorem J0L{ws:List V0}{k n m:Nat}{d:Hs}(h:rHouse ws k n=.ok d m):n+d.words.length<m:=by
 unfold RR.rHouse at h;obtain⟨x,i,e1,h⟩:=RR.bind_ok h;obtain⟨q1,q2,q3,q4⟩:=RR.needName_ok e1;obtain⟨el,i2,e2,h⟩:=RR.bind_ok h;have h2:i<=i2:=by
  unfold RR.rOf at e2;split at e2
  ·obtain⟨y,j,e3,e2⟩:=RR.bind_ok e2;obtain⟨q1,q2,q3,q4⟩:=RR.needName_ok e3;cases e2;omega
  ·cases e2;omega
 obtain⟨_,i3,e3,h⟩:=RR.bind_ok h;obtain⟨q5,q6⟩:=RR.need_ok qP e3;obtain⟨fs,i4,e4,h⟩:=RR.bind_ok h;have h4:=Z5c e4;split at h
 ·cases h
 obtain⟨wd,i5,e5,h⟩:=RR.bind_ok h;have h5:=Z6A e5;have h0:([]:List Wd).length=0:=rfl;split at h
 ·cases h
 obtain⟨_,i6,e6,h⟩:=RR.bind_ok h;obtain⟨q7,q8⟩:=RR.need_ok qP e6;cases h;show n+wd.length<_;omega
theorem J1v{ws:List V0}{k n m:Nat}{x:V0}{d:Wd}(h:rWord ws k x n=.ok d m):d.params.length<=4:=by
 unfold RR.rWord at h;obtain⟨ps,i,e1,h⟩:=RR.bind_ok h;split at h
 ·cases h
 rename_i e;obtain⟨kd,j,e2,h⟩:=RR.bind_ok h;obtain⟨_,j',e3,h⟩:=RR.bind_ok h;obtain⟨t,m',e4,h⟩:=RR.bind_ok h;cases h;exact qe7 e
theorem J5d{K:y0}{cs:CS}{c:Hp}{hl:X0}{hs:List V}{mv:V}{d:Pg}{Q:X0->Hp->Prop}(hp:SqL K c hl hs)(hh:A2 (HsO K cs c) hs d.houses)(hm:WdO K cs c mv d.main)(q:∀x H',c x=none->Same c H'->PgO K cs H' (.ref x) d->Q x H'):∀x b:X0,c x=none->c b=none->¬b=x->Z5q cs K [.ref x,.ref hl,mv] (upd (upd c b (.own x)) x (.ins cs.program b [])) (λ v g=>v=.non/\Q x g) E0:=λ x b hx' hb n=>by
 have s1:Same c (upd (upd c b (.own x)) x (.ins cs.program b [])):=λ a o e=>by
  rw[Z0h (Z0g e hx'),Z0h (Z0g e hb)];exact e
 exact⟨x,b,hl,mv,hs,d,rfl,Z0e,SqL.same hp s1,hh.mono λ _ _ r=>HsO.kp r (Kp.of s1),WdO.kp hm (Kp.of s1),λ H' s2 t=>⟨rfl,q x H' hx' (λ a o e=>s2 _ _ (Z0g e hx') (s1 _ _ e)) t⟩⟩
theorem J2p(T:Txt P w K mg C_Guest Ct Cw Ch Cp C_BadForm D_STRENGTHS D_TRUTHS U_TOLD_WORDS){k:Nat}(O1Z:HasX P w K mg base 5 "words" ["text"] Z4U)(O1e:HasX P w K mg base 1 "need_few_open" ["row"] (Z8a C_BadForm K))(h_Guest___init__:HasM P w K mg base 1 C_Guest "__init__" ["self","all_words"] (Z8j ⟨C_Guest,C_tb,LP,LQ⟩ K))(h_Guest_takes:HasM P w K mg base 2 C_Guest "takes" ["self","word"] (Z1D ⟨C_Guest,C_tb,LP,LQ⟩ K))(O1r:HasX P w K mg base (8*k+10) "read_house" ["guest"] (Z6d (CS.mk Ct Cw Ch Cp C_Guest C_Guest C_Guest C_Guest B) ⟨C_Guest,C_tb,LP,LQ⟩ C_BadForm K k))(O0l:HasX P w K mg base 1 "need_few" ["found","most"] (Z3Y C_BadForm K))(h_Guest_need:HasMX P w K mg base 3 C_Guest "need" ["self","word"] (Z1O ⟨C_Guest,C_tb,LP,LQ⟩ C_BadForm K))(O0N:HasX P w K mg base (8*k+9) "read_word" ["guest","name"] (Z5R (CS.mk Ct Cw Ch Cp C_Guest C_Guest C_Guest C_Guest B) ⟨C_Guest,C_tb,LP,LQ⟩ C_BadForm K k))(h_Guest_need_end:HasMX P w K mg base 2 C_Guest "need_end" ["self"] (Z6V ⟨C_Guest,C_tb,LP,LQ⟩ C_BadForm K))(h_Program___init__:HasM P w K mg base 1 Cp "__init__" ["self","all_houses","main"] (Z5q (CS.mk Ct Cw Ch Cp C_Guest C_Guest C_Guest C_Guest B) K))(O1m:HasX P w K mg base 2 "need_bounds" ["program"] (Z4N (CS.mk Ct Cw Ch Cp C_Guest C_Guest C_Guest C_Guest B) C_BadForm K)):HasX P w K mg base (8*k+11) "read" ["text"] (J0e (CS.mk Ct Cw Ch Cp C_Guest C_Guest C_Guest C_Guest B) ⟨C_Guest,C_tb,LP,LQ⟩ C_BadForm K k):=by
 refine HasX.of T.f_read O0U (λ _ _ _ _ _ _ us hl=>el1 us hl λ _=>rfl) (λ vs H Q E h=>?_) (λ f cdv A outer s H vs Q E hr h=>?_)
 ·obtain⟨x,ws,rfl,_⟩:=h;rfl
 obtain⟨x,ws,rfl,hc,tb,q⟩:=h;refine⟨_,(Z0a (qG 1 O0U.nd (Z0r O1Z hr qS rfl (qI (pvF 0)))) (Z0a (Z0t (Z0r O1e hr qS rfl (qI (pvF 1)))) (Z0a (qG 2 O0U.nd (Z1G T.Guest h_Guest___init__ hr qS rfl (qI (pvF 1)))) (Z0a (qG 3 O0U.nd (Z0E Z1F)) (Z0a (Z2c (Z0F rfl rfl) (Z0Q (Z0T (pvF 2) T.Guest.cl h_Guest_takes hr qS (qI Z0c))) (Z0b (Z0t (Z3M qd6 qe0 qe1 Z0X (pvF 3) (qI (Z0r O1r hr qS rfl (qI (pvF 2)))))))) (Z0a (Z0t (Z0r O0l hr qS rfl (qJ (pvF 3) (Z0C T.c_MOST_HOUSES rfl)))) (Z0a (Z0t (Z0Y (pvF 2) T.Guest.cl h_Guest_need hr qS (qI Z0c))) (Z0a (qG 4 O0U.nd (Z0r O0N hr qS rfl (qJ (pvF 2) Z0c))) (Z0a (Z0t (Z0K (pvF 2) T.Guest.cl h_Guest_need_end hr qS)) (Z0a (Z0s (Z5b (Z0Q (Z0P (Z5g rfl) rfl T.z_all J5O (qI (Z0G rfl (BlockOk.plain (N:=["name","kind"]) rfl qP qP qP) (Z3G (qO 4)) (λ C fp s H=>(show PG _ _ (J4z K 2 _)from Z1n (n:=2) rfl (Z0q (qH 0 (show(["name","kind"]:List V0).Nodup by decide+kernel)) (Z0q (qH 1 (show(["name","kind"]:List V0).Nodup by decide+kernel)) Z1m)))) (λ C fp s H=>(Z1i Z1t (pvF 1) Z0c (Z4i _)))))))) (Z0b (Z0H T.x_BadForm hr rfl (qI Z0c))) Z0m) (Z0a (qG 5 O0U.nd (Z1G T.Program h_Program___init__ hr qS rfl (qJ (pvF 3) (pvF 4)))) (Z0a (Z0t (Z0r O1m hr qS rfl (qI (pvF 5)))) (Z0b (Z0k (pvF 5))))))))))))))),?_⟩;refine J7c λ uz12 huz12 uz11 huz11 uz10 huz10 uz9 huz9 uz8 huz8 uz7 huz7 uz6 huz6 uz5 huz5 uz4 huz4 uz3 huz3 uz2 huz2 uz1 huz1=>?_;walk_at "r";unfold RR.rProg at q;refine⟨x,ws,rfl,hc,λ H1 p1 h1 s1 e1=>?_⟩;subst huz1;walk_at "r";refine⟨p1,ws,rfl,e1,hc.few,ite2 (λ e=>?_) λ e=>?_⟩
 ·rw[if_pos e]at q;exact λ H2 s2=>q H2 λ g=>SY.of (s1.trans s2)
 rw[if_neg e]at q;subst huz2;walk_at "r";intro g dx hg0 hdx nd;have s2:Same H1 (upd (upd H1 dx (HO.own g)) g (HO.ins C_Guest dx [])):=λ a o e=>by
  rw[Z0h (Z0g e hg0),Z0h (Z0g e hdx)];exact e
 have hgH:H g=none:=by
  cases z:H g with
  |none=>rfl
  |some o=>rw[s1 _ _ z]at hg0;cases hg0
 refine⟨g,dx,p1,ws,rfl,Z0e,SqL.same (SqL.of e1) s2,hc.few,hc.wd,(tb.same s1).same s2,λ H3 sx3 g3=>⟨rfl,?_⟩⟩;have S3:SY g H H3:=(SY.of (s1.trans s2)).trans (SY.ofx sx3);have bf:(∀H',(∀g,SY g H H')->E (.ref C_BadForm) none H')->BF C_BadForm g H E:=λ b H' s=>b H' (Z6K s hgH);subst huz3;walk_at "r";refine New.of λ p4 H4 h4 s4 e4=>?_;have g4:=g3.same s4;have S4:=sxt S3 (SY.of s4);obtain⟨gx,rv,h4'⟩:=g4.meth;have n4:p4≠g:=λ z=>by rw[z,h4']at e4;cases e4
 have fr4:H p4=none:=S3.free n4 h4;subst huz4;walk_at "r";refine⟨GwI K ⟨C_Guest,C_tb,LP,LQ⟩ g p4 ws (λ H v t=>HsO K (CS.mk Ct Cw Ch Cp C_Guest C_Guest C_Guest C_Guest B) H v t) H [some (V.str x),some (V.ref p1),some (V.ref g),some (V.ref p4),none,none] (λ _=>True) λ j (xs:List Hs) m=>(xs.flatMap λ h=>h.words.map Wd.body).length<=m/\To ((rHouses ws k j xs m).bind (rRest ws k)) (λ p _=>∀v H',(∀g,SY g H H')->TbS ⟨C_Guest,C_tb,LP,LQ⟩ H'->PgO K (CS.mk Ct Cw Ch Cp C_Guest C_Guest C_Guest C_Guest B) H' v p->Q v H') (∀H',(∀g,SY g H H')->E (.ref C_BadForm) none H'),⟨_,[],[],0,rfl,S4,g4,trivial,e4,.nil,qb4 _,qb4 _,q⟩,?_⟩;rintro jj σ H5 ⟨us,xs,m5,rfl,S5,g5,_,e5,r5,l5,lw,q⟩;cases jj with
 |zero=>exact q.elim
 |succ jj=>
 obtain⟨gx,rv,h5⟩:=g5.meth;walk_at "r";unfold RR.rHouses at q;refine⟨gx,_,h5,rfl,⟨g,ws,m5,_,rfl,g5,qP,ite2 (λ e=>?_) λ e=>?_⟩⟩
 ·rw[if_pos e]at q;refine λ H6 s6 g6=>⟨_,rfl,ite2 (λ _=>⟨_,λ _ _ z=>⟨jj,qc9 _,z⟩,.inl ⟨rfl,_,SqL.of (s6.lst n4 e5)⟩,g,ws,m5+1,rfl,g6,To.mono (To.bind (To.bind q)) (λ b m7 eb q v7 H7 s7 g7 r7=>?_) λ b=>(bf b).same (sxt S5 s6)⟩) λ z=>absurd rfl z⟩;have S7:=sxt s6 s7;have e7:=S7.lst n4 e5;have sx8:SX p4 H7 (upd H7 p4 (.lst (us++[v7]))):=SX.put _;have e8:upd H7 p4 (.lst (us++[v7])) p4=some (.lst (us++[v7])):=Z0e;have lu:=r5.len;have l7:=J0L eb;have le7:=qa1 g7.le g7.len;refine⟨_,e7,by omega,?_⟩;generalize upd H7 p4 (.lst (us++[v7]))=H8 at*;have k8:=Kq.sxl sx8 e7;exact⟨_,xs++[b],m7,rfl,(sxt S5 S7).side fr4 sx8,g7.lst e7 sx8,trivial,e8,A2.snoc (r5.mono λ _ _ r=>r.kq ((g5.kq S7).trans k8)) (r7.kq k8),by rw[qa5];show xs.length+1<=m7;omega,by rw[qj6,qa5];show _+(b.words.map Wd.body++[]).length<=m7;rw[qb6,qa3];omega,To.bnd q⟩
 rw[if_neg e]at q;refine⟨_,rfl,ite2 (λ z=>by cases z) λ _=>?_⟩;have q:=show To (rRest ws k xs m5) _ _ from q
 unfold RR.rRest at q;have lu:=r5.len;subst huz5;walk_at "r";refine⟨p4,us,12,rfl,e5,qQ,ite2 (λ e=>?_) λ e=>?_⟩
 ·rw[if_pos (by rw[<-lu];exact e)]at q;exact λ H6 s6=>q H6 (Z6K (sxt S5 (SY.of s6)) hgH)
 rw[if_neg (by rw[<-lu];exact e)]at q;have lf:xs.length<=12:=qe7 (by rw[<-lu];exact e);subst huz6;walk_at "r";refine⟨gx,_,h5,rfl,⟨g,ws,m5,_,rfl,g5,qP,qP,To.mono (To.bind q) (λ _ m6 _ q H6 s6 g6=>?_) λ b=>(bf b).same S5⟩⟩;have S6:=sxt S5 s6;subst huz7;walk_at "r";refine⟨g,ws,m6,_,rfl,g6,To.mono (To.bind q) (λ mn m7 em q v7 H7 s7 g7 o7=>?_) λ b=>(bf b).same S6⟩;have S7:=sxt S6 s7;obtain⟨gx,rv,h7⟩:=g7.meth;subst huz8;walk_at "r";refine⟨gx,_,h7,rfl,⟨g,ws,m7,rfl,g7,?_⟩⟩;by_cases ee:ahead ws m7=""
 ·rw[if_pos ee];rw[if_neg (λ z=>z ee)]at q;subst huz9;walk_at "r";have o7':=o7;cases o7 with
  |@mk wa wx pt bv _ w1 w2 w3=>
  obtain⟨pt',zs,ez,hz,hzs⟩:=w2.tup_inv;cases ez;have lz:zs.length=mn.params.length:=by rw[hzs.length,qa3]
  have lp:mn.params.length<=4:=J1v em;refine⟨wa,rfl,⟨Cw,wx,_,w1,T.Word.cl,T.n_Word_params,_,rfl,pt,rfl,⟨_,hz⟩,λ D hD=>?_⟩⟩;refine Z7P (ys:=zs) (λ σ=>∃a b,σ=[a,b]) (λ j v H=>∃t,mn.params[j]?=some t/\v=V.bl (decide (t.2="number"))) (λ j v H1 H2 h s=>h) ⟨none,none,rfl⟩ hD (by rw[sizeLine_eq];omega) (λ H1 s=>SqT.same hz s) (λ j y σ hy hσ H8 K' s8 k8=>?_) (λ vs Hc Sc hv lv hR=>?_)
  ·obtain⟨a0,b0,rfl⟩:=hσ;obtain⟨d,hd,hr'⟩:=hzs.at hy;rw[qc0]at hd;obtain⟨p,hp',rfl⟩:=qd3.mp hd;obtain⟨pa,ys,rfl,hpa,hys⟩:=hr'.tup_inv;cases hys with
   |cons c1 c2=>
   cases c2 with
   |cons c2 c3=>
   cases c3;cases c1;cases c2;walk_at "r";refine⟨_,SqT.same hpa s8,rfl,⟨_,_,rfl,⟨_,_,rfl,rfl,rfl,k8 _ _ _ ⟨_,_,rfl⟩ (Same.refl _) ⟨p,hp',?_⟩⟩⟩⟩;exact congrArg V.bl (decide_eq_decide.mpr ⟨V.str.inj,congrArg V.str⟩)
  have ev:vs=(mn.params.map λ t:V0×V0=>decide (t.2=("number":V0))).map V.bl:=by
   rw[qd1];exact Z8E _ (lv.trans lz) hR
  refine⟨D,rfl,_,SqL.of (ev▸hv),?_⟩;rw[show(mn.params.map λ t:V0×V0=>decide (t.2=("number":V0))).all id=mn.params.all λ p=>decide (p.2=("number":V0))by rw[List.all_map];rfl];have Sc7:=sxt S7 (SY.of Sc);have gc:=g7.same Sc;refine ite2 (λ e=>?_) λ e=>?_
  ·rw[if_pos e]at q;exact λ x hx=>((bf q).same Sc7).new hx
  rw[if_neg e]at q;subst huz10;walk_at "r";have S57:=sxt s6 s7;have k5:=((g5.kq S57).trans (Kq.of Sc));refine J5d (d:=⟨xs,mn⟩) (SqL.of (Sc _ _ (S57.lst n4 e5))) (r5.mono λ _ _ r=>r.kq k5) (WdO.kq (Kq.of Sc) o7') λ y H9 _ s9 t9=>?_;subst huz11;walk_at "r";have lb:(bodies ⟨xs,mn⟩).length<=20000:=by
   show((xs.flatMap λ h=>h.words.map Wd.body)++[mn.body]).length<=20000;rw[qa5];have:=qa1 g5.le g5.len;show _+1<=_;omega
  have S9:=sxt Sc7 (SY.of s9);refine⟨_,⟨xs,mn⟩,rfl,t9,lb,ite2 (λ e=>?_) λ e=>?_⟩
  ·rw[if_pos e]at q;exact λ H10 s10=>q H10 (Z6K (sxt S9 (SY.of s10)) hgH)
  rw[if_neg e]at q;refine ite2 (λ e=>?_) λ e=>?_
  ·rw[if_pos e]at q;exact λ H10 s10=>q H10 (Z6K (sxt S9 (SY.of s10)) hgH)
  rw[if_neg e]at q;intro H10 s10;subst huz12;walk_at "r";exact q _ H10 (Z6K (sxt S9 (SY.of s10)) hgH) ((gc.same s9).same s10).tb (t9.same s10)
 ·rw[if_neg ee];rw[if_pos ee]at q;exact(bf q).same S7
end K12
end
end
section
namespace K10
open PySem L2
seal L2.PE L2.PA L2.PT L2.PS L2.PSs L2.PG L2.PGs L2.PI L2.PW
abbrev J6j:Stmt:=K12.O0P
abbrev J6o:Stmt:=K12.O0Q
abbrev J3V:Stmt:=K12.O1h
abbrev Z9H:Stmt:=K12.O0R
abbrev J3N:Stmt:=K12.O0Z
abbrev Z8J:Stmt:=K12.O0q
abbrev J1p:Stmt:=K12.O0x
abbrev Z8W:Stmt:=K12.O0r
def told:List V0:=["house","of","has","can","main","let","in","if","then","else","new","self","elder","set","not","yes","no","number","truth"]
structure Txt(K:y0)(mg:V0->Option Z0):Prop where
 figures:∃t,mg "FIGURES"=some (.str "0123456789" t)
 small:∃t,mg "SMALL_LETTERS"=some (.str "abcdefghijklmnopqrstuvwxyz" t)
 great:∃t,mg "GREAT_LETTERS"=some (.str "ABCDEFGHIJKLMNOPQRSTUVWXYZ" t)
 gaps:∃t,mg "GAPS"=some (.str " \t\n" t)
 signs:∃t,mg "SIGNS"=some (.str "(){},.;=+-*/<" t)
 longText:∃t,mg "LONGEST_TEXT"=some (.int 6000 t)
 longNumber:∃t,mg "LONGEST_NUMBER"=some (.int 9 t)
 longName:∃t,mg "LONGEST_NAME"=some (.int 8 t)
 toldW:∃a,mg "TOLD_WORDS"=some (.ref a)/\∀H,SqT K H a (told.map V.str)
 len:mg "len"=none
 all:mg "all"=none
theorem Z2X:cds "0123456789"=figs:=by decide+kernel
theorem Z4D:cds "abcdefghijklmnopqrstuvwxyz"=smalls:=by decide+kernel
theorem J0p:cds "ABCDEFGHIJKLMNOPQRSTUVWXYZ"=greats:=by decide+kernel
theorem J2M:cds " \t\n"=gaps:=by decide+kernel
theorem J0C:cds "(){},.;=+-*/<"=sgns:=by decide+kernel
theorem Z2v{x:V0}{l:Tx}(h:cds x=l)(c:Nat):(!(Builtin.Str.occurrences x ⟨#[c]⟩ 0 x.length 1).isEmpty)=l.contains c:=by
 rw[StrLaws.found_one,show x.cps.toList=l from h];simp
theorem Z5V{X:Cx}{x z:V0}{t:Tok}{pos:Pos}(hg:Gl X x)(hm:X.mg x=some (.str z t))(hd:(x==("__debug__":V0))=false:=by decide):PE X (.Name x pos) (tC (.str z)):=Z4B (v:=.str z) hg hm ⟨t,rfl⟩ hd
theorem J5h{X:Cx}{x:V0}{i:Int}{t:Tok}{pos:Pos}(hg:Gl X x)(hm:X.mg x=some (.int i t))(hd:(x==("__debug__":V0))=false:=by decide):PE X (.Name x pos) (tC (.int i)):=Z4B (v:=.int i) hg hm ⟨t,rfl⟩ hd
theorem J8C{X:Cx}{x:V0}{a:X0}{pos:Pos}(hg:Gl X x)(hm:X.mg x=some (.ref a))(hd:(x==("__debug__":V0))=false:=by decide):PE X (.Name x pos) (tC (.ref a)):=Z4B (v:=.ref a) hg hm rfl hd
section
variable{P:Program}{w:M0}{K:y0}{mg:V0->Option Z0}{base:N0}
def Z7d:Sp:=λ vs H Q _=>∃c:Nat,vs=[.str ⟨#[c]⟩]/\Q (.bl (Z0p c)) H
theorem J1z:Z0j ["sign"] ["sign"] (Z0d Z8J):=⟨rfl,rfl,rfl,qP,rfl,qP,qP⟩
theorem ok_row_sign{f:X0}{fd:FuncData}(F:Fun K "is_row_sign" "is_row_sign" Z8J f fd)(T:Txt K mg):FnOk P w K mg base CX0 1 f fd ["sign"] Z7d:=by
 refine F.ok J1z (λ vs H Q E h=>?_) (λ cdv A outer s H vs Q E hr h=>?_)
 ·obtain⟨c,rfl,_⟩:=h;rfl
 obtain⟨c,rfl,q⟩:=h;obtain⟨t1,g1⟩:=T.small;obtain⟨t2,g2⟩:=T.figures;obtain⟨t3,g3⟩:=T.great;refine⟨_,Z0b (Z0k (J4V (Z1i Z1q (pv 0) (Z5V rfl g1) (by with_unfolding_all rfl)) (J4V (Z1i Z1q (pv 0) (Z5V rfl g2) (by with_unfolding_all rfl)) (Z6u (Z1i Z1q (pv 0) (Z5V rfl g3) (by with_unfolding_all rfl)))))),?_⟩;refine⟨_,rfl,_,_,rfl,rfl,_,rfl,?_⟩;rw[Z2v Z4D];unfold Z0p at q;cases h1:smalls.contains c with
 |true=>rw[h1]at q;exact iteT q
 |false=>
  refine iteF ⟨_,rfl,_,_,rfl,rfl,_,rfl,?_⟩;rw[Z2v Z2X];cases h2:figs.contains c with
  |true=>rw[h1,h2]at q;exact iteT q
  |false=>
   refine iteF ⟨_,rfl,_,_,rfl,rfl,?_⟩;rw[Z2v J0p];rw[h1,h2]at q;exact q
def J4l:Sp:=λ vs H Q _=>∃x:V0,vs=[.str x]/\Q (.bl (told.contains x)) H
theorem J6O:Z0j ["word"] ["word"] (Z0d J6j):=⟨rfl,rfl,rfl,qP,rfl,qP,qP⟩
theorem Z8L(x:V0):∀l:List V0,inV (.str x) (l.map V.str)=l.contains x
 |[]=>rfl
 |y::r=>by
  have ih:=Z8L x r;unfold inV at ih ⊢;rw[qc4,qe6,ih,qi0];show((y==x)||r.contains x)=((x==y)||r.contains x);rw[show(y==x)=(x==y)from BEq.comm]
theorem Z6v:∀l:List V0,(l.map V.str).all Z3c=true
 |[]=>rfl
 |_::r=>by rw[qc4,qd8,Z6v r];rfl
theorem ok_told{f:X0}{fd:FuncData}(F:Fun K "is_told" "is_told" J6j f fd)(T:Txt K mg):FnOk P w K mg base CX0 1 f fd ["word"] J4l:=by
 refine F.ok J6O (λ vs H Q E h=>?_) (λ cdv A outer s H vs Q E hr h=>?_)
 ·obtain⟨c,rfl,_⟩:=h;rfl
 obtain⟨x,rfl,q⟩:=h;obtain⟨a,g,sq⟩:=T.toldW;refine⟨_,Z0b (Z0k (Z1i Z1W (pv 0) (J8C rfl g) (by with_unfolding_all rfl))),?_⟩;refine⟨_,rfl,a,_,rfl,.inr (sq H),rfl,Z6v told,?_⟩;show Q (.bl (inV (.str x) (told.map V.str))) H;rw[Z8L];exact q
def spB(f:Tx->Bool):Sp:=λ vs H Q _=>∃x:V0,vs=[.str x]/\x.length<=sizeLine/\∀H',Same H H'->Q (.bl (f (cds x))) H'
theorem Z5J{H:Hp}{p:X0}(h:H p=none)(o:HO):Same H (upd H p o):=λ b u q=>by rw[Z0h (Z0g q h)];exact q
theorem Z5L:cds "0"=[48]:=by decide+kernel
theorem J6w(c:Nat)(y:V0)(d:Nat)(hy:cds y=[d]):decide (V.str ⟨#[c]⟩=V.str y)=decide (c=d):=by
 have e:y=⟨#[d]⟩:=cds_ext hy;rw[e];by_cases h:c=d
 ·rw[h];simp
 ·have h2:¬(V.str ⟨#[c]⟩=V.str ⟨#[d]⟩):=λ z=>h (by injection z with z;injection z with z;simpa using z);rw[decide_eq_false h,decide_eq_false h2]
theorem Z4Q(l:Tx)(p:Nat->Bool):(l.map p).all id=l.all p:=by
 induction l with
 |nil=>rfl
 |cons c r ih=>rw[qc4,qd8,qd8,ih];rfl
theorem J2A:Z0j ["word"] ["word"] (Z0d J1p):=⟨rfl,rfl,rfl,qP,rfl,qP,qP⟩
theorem ok_number{f:X0}{fd:FuncData}(F:Fun K "is_number" "is_number" J1p f fd)(T:Txt K mg):FnOk P w K mg base CX0 1 f fd ["word"] (spB isNum):=by
 refine F.ok J2A (λ vs H Q E h=>?_) (λ cdv A outer s H vs Q E hr h=>?_)
 ·obtain⟨x,rfl,_⟩:=h;rfl
 obtain⟨x,rfl,hz,q⟩:=h;obtain⟨t1,g1⟩:=T.longNumber;obtain⟨t2,g2⟩:=T.figures;refine⟨_,Z0a (Z0s (Z5b (Z8F J2z J2z Z0f (Z0P Z0W rfl T.len PySem.boot_len (qI (pv 0))) (J5h rfl g1))) (Z0b (Z0k Z7J)) Z0m) (Z0a (Z0s (qM Z1t (Z2Y Z2F (pv 0) Z0f (λ _ _=>rfl)) Z0c) (Z0b (Z0k (Z1i Z1t (pv 0) Z0c (Z4i _)))) Z0m) (Z0b (Z0k (Z0P (Z5g rfl) rfl T.all PyProof.Rows.boot_all (qI (Z0G rfl (BlockOk.plain (N:=["sign"]) rfl qP qP qP) (J4d (pv 0)) (λ C fp s H=>Z7u (i:=0) (show(["sign"]:List V0).Nodup by decide+kernel) rfl (Or.inl rfl)) (λ C fp s H=>Z1i Z1q (pv 0) (Z5V rfl g2) (by with_unfolding_all rfl)))))))),?_⟩;refine⟨_,rfl,_,rfl,hz,_,_,rfl,rfl,_,rfl,?_⟩;have hlen:=cds_len x;by_cases h1:(1:Int)<=(x.length:Int)
 ·rw[decide_eq_true h1];refine iteT ⟨_,_,rfl,rfl,_,rfl,?_⟩;by_cases h2:(x.length:Int)<=9
  ·rw[decide_eq_true h2];refine iteF ?_;obtain⟨c,r,e⟩:∃c r,cds x=c::r:=by
    cases e:cds x with
    |nil=>rw[e]at hlen;simp at hlen;lia
    |cons c r=>exact⟨c,r,rfl⟩
   have hr:r.length<=8:=by rw[e]at hlen;simp at hlen;lia
   have eq:isNum (cds x)=(if c=48 then r.isEmpty else(c::r).all λ y=>figs.contains y):=by rw[e];simp[isNum,hr]
   refine⟨_,rfl,x,0,c,rfl,rfl,hz,by show atI (cds x) ((0:Nat):Int)=some c;exact Z2l (by rw[e];rfl),rfl,_,rfl,?_⟩;rw[J6w c "0" 48 Z5L];by_cases h0:c=48
   ·rw[decide_eq_true h0];refine iteT ⟨_,rfl,rfl,?_⟩;have e0:decide (V.str x=V.str "0")=isNum (cds x):=by
     rw[eq,if_pos h0];cases r with
     |nil=>
      have:x="0":=cds_ext (by rw[e,Z5L,h0]);rw[this];simp
     |cons d r=>
      have:¬V.str x=V.str "0":=λ z=>by
       injection z with z
       rw[z,Z5L]at e;cases e
      rw[decide_eq_false this];rfl
    rw[e0];exact q H (Same.refl H)
   ·rw[decide_eq_false h0];refine iteF ⟨_,rfl,_,rfl,λ D hD=>Z4h none [] (λ c=>.bl (figs.contains c)) rfl (λ c _ l K k=>⟨_,rfl,_,_,rfl,rfl,by rw[Z2v Z2X];exact k⟩) hz ?_⟩;refine⟨D,(cds x).map λ c=>figs.contains c,rfl,SqL.of (by rw[Z0e,qd1];rfl),?_⟩;rw[Z4Q];have:=q _ (Z5J hD (.lst (x.cps.toList.map λ c=>V.bl (figs.contains c))));rw[eq,if_neg h0,<-e]at this;exact this
  ·rw[decide_eq_false h2];refine iteT ?_;have e0:isNum (cds x)=false:=by
    cases e:cds x with
    |nil=>rfl
    |cons c r=>
     have:¬r.length<=8:=by rw[e]at hlen;simp at hlen;lia
     simp[isNum,this]
   have:=q H (Same.refl H);rw[e0]at this;exact this
 ·rw[decide_eq_false h1];refine iteF ⟨_,rfl,iteT ?_⟩;have e0:cds x=[]:=qf6 qR;have:=q H (Same.refl H);rw[e0]at this;exact this
theorem J0k:Z0j ["word"] ["word"] (Z0d Z8W):=⟨rfl,rfl,rfl,qP,rfl,qP,qP⟩
theorem ok_name_row{f:X0}{fd:FuncData}(F:Fun K "is_name_row" "is_name_row" Z8W f fd)(T:Txt K mg):FnOk P w K mg base CX0 1 f fd ["word"] (spB isNm):=by
 refine F.ok J0k (λ vs H Q E h=>?_) (λ cdv A outer s H vs Q E hr h=>?_)
 ·obtain⟨x,rfl,_⟩:=h;rfl
 obtain⟨x,rfl,hz,q⟩:=h;obtain⟨t1,g1⟩:=T.longName;obtain⟨t2,g2⟩:=T.figures;obtain⟨t3,g3⟩:=T.small;refine⟨_,Z0a (Z0s (Z5b (Z8F J2z J2z Z0f (Z0P Z0W rfl T.len PySem.boot_len (qI (pv 0))) (J5h rfl g1))) (Z0b (Z0k Z7J)) Z0m) (Z0b (Z0k (Z9I (Z1i Z1q (Z2Y Z2F (pv 0) Z0f (λ _ _=>rfl)) (Z5V rfl g3) (by with_unfolding_all rfl)) (Z6u (Z0P (Z5g rfl) rfl T.all PyProof.Rows.boot_all (qI (Z0G rfl (BlockOk.plain (N:=["sign"]) rfl qP qP qP) (J4d (pv 0)) (λ C fp s H=>Z7u (i:=0) (show(["sign"]:List V0).Nodup by decide+kernel) rfl (Or.inl rfl)) (λ C fp s H=>J4V (Z1i Z1q (pv 0) (Z5V rfl g3) (by with_unfolding_all rfl)) (Z6u (Z1i Z1q (pv 0) (Z5V rfl g2) (by with_unfolding_all rfl))))))))))),?_⟩;refine⟨_,rfl,_,rfl,hz,_,_,rfl,rfl,_,rfl,?_⟩;have hlen:=cds_len x;by_cases h1:(1:Int)<=(x.length:Int)
 ·rw[decide_eq_true h1];refine iteT ⟨_,_,rfl,rfl,_,rfl,?_⟩;by_cases h2:(x.length:Int)<=8
  ·rw[decide_eq_true h2];refine iteF ?_;obtain⟨c,r,e⟩:∃c r,cds x=c::r:=by
    cases e:cds x with
    |nil=>rw[e]at hlen;simp at hlen;lia
    |cons c r=>exact⟨c,r,rfl⟩
   have hr:r.length<=7:=by rw[e]at hlen;simp at hlen;lia
   have eq:isNm (cds x)=(smalls.contains c&&(c::r).all λ y=>smalls.contains y||figs.contains y):=by rw[e];simp[isNm,hr]
   refine⟨_,rfl,x,0,c,rfl,rfl,hz,by show atI (cds x) ((0:Nat):Int)=some c;exact Z2l (by rw[e];rfl),_,_,rfl,rfl,_,rfl,?_⟩;rw[Z2v Z4D];cases hs:smalls.contains c with
   |false=>
    refine iteF ?_;have:=q H (Same.refl H);rw[eq,hs]at this;exact this
   |true=>
    refine iteT ⟨_,rfl,_,rfl,λ D hD=>Z4h none [] (λ c=>.bl (smalls.contains c||figs.contains c)) rfl (λ c _ l K k=>⟨_,rfl,_,_,rfl,rfl,_,rfl,?_⟩) hz ?_⟩
    ·rw[Z2v Z4D];cases h3:smalls.contains c with
     |true=>rw[h3]at k;exact iteT k
     |false=>
      refine iteF ⟨_,rfl,_,_,rfl,rfl,?_⟩;rw[Z2v Z2X];rw[h3]at k;exact k
    ·refine⟨D,(cds x).map λ c=>smalls.contains c||figs.contains c,rfl,SqL.of (by rw[Z0e,qd1];rfl),?_⟩;rw[Z4Q];have:=q _ (Z5J hD (.lst (x.cps.toList.map λ c=>V.bl (smalls.contains c||figs.contains c))));rw[eq,hs,Bool.true_and,<-e]at this;exact this
  ·rw[decide_eq_false h2];refine iteT ?_;have e0:isNm (cds x)=false:=by
    cases e:cds x with
    |nil=>rfl
    |cons c r=>
     have:¬r.length<=7:=by rw[e]at hlen;simp at hlen;lia
     simp[isNm,this]
   have:=q H (Same.refl H);rw[e0]at this;exact this
 ·rw[decide_eq_false h1];refine iteF ⟨_,rfl,iteT ?_⟩;have e0:cds x=[]:=qf6 qR;have:=q H (Same.refl H);rw[e0]at this;exact this
def spName:Sp:=λ vs H Q _=>∃x:V0,vs=[.str x]/\x.length<=sizeLine/\∀H',Same H H'->Q (.bl (isNm (cds x)&&!told.contains x)) H'
theorem J6D:Z0j ["word"] ["word"] (Z0d J6o):=⟨rfl,rfl,rfl,qP,rfl,qP,qP⟩
theorem ok_name{f g1 g2:X0}{fd d1 d2:FuncData}(F:Fun K "is_name" "is_name" J6o f fd)(G1:FnOk P w K mg base CX0 1 g1 d1 ["word"] (spB isNm))(b1:Binds K d1 ["word"] [])(k1:W.keepIn K (.ref g1)=true)(m1:mg "is_name_row"=some (.ref g1))(G2:FnOk P w K mg base CX0 1 g2 d2 ["word"] J4l)(b2:Binds K d2 ["word"] [])(k2:W.keepIn K (.ref g2)=true)(m2:mg "is_told"=some (.ref g2)):FnOk P w K mg base CX0 2 f fd ["word"] spName:=by
 refine F.ok J6D (λ vs H Q E h=>?_) (λ cdv A outer s H vs Q E hr h=>?_)
 ·obtain⟨x,rfl,_⟩:=h;rfl
 obtain⟨x,rfl,hz,q⟩:=h;refine⟨_,Z0b (Z0k (Z9I (Z2o G1 hr rfl m1 k1 b1 .nil Z4H (qI (pv 0))) (Z6u (J7e (Z2o G2 hr rfl m2 k2 b2 .nil Z4H (qI (pv 0))))))),?_⟩;refine⟨_,rfl,x,rfl,hz,λ H1 s1=>⟨_,rfl,?_⟩⟩;cases hn:isNm (cds x)with
 |false=>
  refine iteF ?_;have:=q H1 s1;rw[hn]at this;exact this
 |true=>
  refine iteT ⟨_,rfl,x,rfl,_,rfl,?_⟩;have:=q H1 s1;rw[hn]at this;exact this
def Z9M:Sp:=λ vs H Q _=>∃(x:V0)(k:Nat),vs=[.str x,.int k]/\k<=x.length/\x.length<=100000/\∀y:V0,cds y=((cds x).drop k).takeWhile Z0p->Q (.str y) H
theorem scRowAt:Z0j ["text","at","end"] ["text","at"] (Z0d J3N):=⟨rfl,rfl,rfl,qP,rfl,qP,qP⟩
theorem J0Q(l:Tx)(n:Nat)(h:n<=l.length)(ha:(l.take n).all Z0p=true)(hb:∀c,l[n]?=some c->Z0p c=false):l.takeWhile Z0p=l.take n:=by
 induction l generalizing n with
 |nil=>simp
 |cons c r ih=>
  cases n with
  |zero=>
   have:=hb c rfl;rw[qd9,if_neg (by rw[this];exact qb3)];rfl
  |succ n=>
   rw[List.take_succ_cons,qd8,qc5]at ha;rw[qd9,if_pos ha.1,List.take_succ_cons,ih n (by simpa using h) ha.2 (λ d hd=>hb d (by simpa using hd))]
theorem Z6T{c:TT}{tb:TS}{D:Ends}{σ:St}{H:Hp}(Pv:St->Hp->Prop)(μ:St->Hp->Nat)(h0:Pv σ H)(hs:∀σ H,Pv σ H->c σ H λ b H1=>if b=true then ∃N:St->Hp->Prop,(∀σ' H',N σ' H'->∃m',m'<μ σ H/\(m'=μ σ' H'/\Pv σ' H'))/\tb {D with nx:=N,ct:=N,bk:=D.nx} σ H1 else D.nx σ H1):J3S c tb D σ H:=
 ⟨λ m σ H=>m=μ σ H/\Pv σ H,⟨_,rfl,h0⟩,λ m σ H ⟨e,p⟩=>by subst e;exact hs σ H p⟩
theorem ok_row_at{f g1:X0}{fd d1:FuncData}(F:Fun K "row_at" "row_at" J3N f fd)(T:Txt K mg)(G1:FnOk P w K mg base CX0 1 g1 d1 ["sign"] Z7d)(b1:Binds K d1 ["sign"] [])(k1:W.keepIn K (.ref g1)=true)(m1:mg "is_row_sign"=some (.ref g1)):FnOk P w K mg base CX0 2 f fd ["text","at"] Z9M:=by
 refine F.ok scRowAt (λ vs H Q E h=>?_) (λ cdv A outer s H vs Q E hr h=>?_)
 ·obtain⟨x,k,rfl,_⟩:=h;rfl
 obtain⟨x,k,rfl,hk,hz,q⟩:=h;have hz':x.length<=sizeLine:=qa1 hz qQ;have hlen:=cds_len x;refine⟨_,Z0a (qG 2 scRowAt.nd (pv 1)) (Z0a (Z2c PassesOwn.never (PW.pt (Z6C (qM J2r (pv 2) (Z0P Z0W rfl T.len PySem.boot_len (qI (pv 0)))) (Z4z (Z0Q (Z2o G1 hr rfl m1 k1 b1 .nil Z4H (qI (Z2Y Z2F (pv 0) (pv 2) (λ _ _=>rfl)))))))) (Z0b (Z6G (i:=2) scRowAt.nd rfl (Or.inl rfl) Z0f Z8V))) (Z0b (Z0k (Z1Y J5F (pv 0) (Z2A (pv 1)) (Z2A (pv 2)))))),?_⟩;refine⟨_,rfl,?_⟩;have fin:∀n:Nat,k<=n->n<=x.length->(((cds x).drop k).take (n-k)).all Z0p=true->(∀c,(cds x)[n]?=some c->Z0p c=false)->cds (Txt.slice x (some (k:Int)) (some (n:Int)))=((cds x).drop k).takeWhile Z0p:=λ n h1 h2 h3 h4=>by
  rw[J0U x h1 h2];refine(J0Q _ (n-k) ?_ h3 λ c hc=>h4 c ?_).symm
  ·rw[qf3];lia
  ·rw[qj7,show k+(n-k)=n by lia]at hc;exact hc
 let Pv:St->Hp->Prop:=λ σ H'=>H'=H/\∃n:Nat,σ=[some (.str x),some (.int k),some (.int n)]/\k<=n/\n<=x.length/\(((cds x).drop k).take (n-k)).all Z0p=true;let μ:St->Hp->Nat:=λ σ _=>match σ with|[_,_,some (.int n)]=>(x.length-n.toNat)|_=>0
 refine Z6T Pv μ ⟨rfl,k,rfl,qa0 _,hk,by simp⟩ ?_;rintro σ H' ⟨rfl,n,rfl,h1,h2,h3⟩;refine⟨_,rfl,_,rfl,_,rfl,hz',_,_,rfl,rfl,_,rfl,?_⟩;by_cases hlt:(n:Int)<(x.length:Int)
 ·rw[decide_eq_true hlt];have hn:n<(cds x).length:=by lia
  refine iteT ⟨_,rfl,_,rfl,x,n,(cds x)[n],rfl,rfl,hz',Z2l (qb5 hn),(cds x)[n],rfl,_,rfl,?_⟩;cases hr:Z0p (cds x)[n]with
  |false=>
   refine iteF ⟨_,rfl,_,rfl,_,rfl,_,rfl,_,rfl,x,rfl,hz',q _ (fin n h1 h2 h3 λ c hc=>?_)⟩;rw[qb5 hn]at hc;cases hc;exact hr
  |true=>
   refine iteT ⟨λ σ' H2=>Pv σ' H2/\μ σ' H2<x.length-n,λ σ' H2 ⟨a,b⟩=>⟨_,b,rfl,a⟩,?_⟩;refine⟨_,rfl,_,_,rfl,rfl,⟨rfl,n+1,rfl,qR,qR,?_⟩,?_⟩
   ·have e:((cds x).drop k).take (n+1-k)=((cds x).drop k).take (n-k)++[(cds x)[n]]:=by
     rw[show n+1-k=(n-k)+1 by lia,List.take_add_one,qj7,show k+(n-k)=n by lia,qb5 hn];rfl
    rw[e,List.all_append,h3,qd8,hr];rfl
   ·show x.length-((n:Int)+1).toNat<x.length-n;lia
 ·rw[decide_eq_false hlt];refine iteF (iteF ⟨_,rfl,_,rfl,_,rfl,_,rfl,_,rfl,x,rfl,hz',q _ (fin n h1 h2 h3 λ c hc=>?_)⟩);have:=(qb7.mp hc).1;lia
end
abbrev sBad:Stmt:=K12.top 2
abbrev sInit:Stmt:=Z0D sBad 0
structure Bad(K:y0)(mg:V0->Option Z0)(Hc B f:X0):Prop where
 mH:mg "HouseError"=some (.ref Hc)
 mB:mg "BadWords"=some (.ref B)
 sup:XSup K Hc
 xH:xIn K Hc none=true
 xB:xIn K B (some f)=true
 cls:XCls K B
 no:NoAttr K B "at"
 kp:W.keepIn K (.ref B)=true
 fn:W.isFn K (.ref f)=true
 sub:W.mroIn K B (.ref Hc)=some true
 isi:mg "isinstance"=none
 str:mg "str"=none
section
variable{P:Program}{w:M0}{K:y0}{mg:V0->Option Z0}{base:N0}
def spInit(K:y0)(B:X0):Sp:=λ vs H Q _=>∃x i,vs=[.ref x,.int i]/\H x=some (excN x B none)/\0<=i/\i<2^64/\∀dx,H dx=none->Q .non (upd (upd H x (excN x B (some dx))) dx (.xd [("at",.int i)]))
theorem J6a:Z0j ["self","at"] ["self","at"] (Z0d sInit):=⟨rfl,rfl,rfl,qP,rfl,qP,qP⟩
theorem Z6I{i:Int}(h0:0<=i)(h:i<2^64):i.natAbs.log2<64:=by
 by_cases hz:i.natAbs=0
 ·rw[hz];decide
 ·rw[Nat.log2_lt hz];omega
theorem Z9m{i:Int}(h0:0<=i)(h:i<2^64):(Str.ofString (toString i)).length<=100:=by
 have e:=int_text_length_le (a:=i) (k:=64) qQ (Z6I h0 h);rw[ofString_length];omega
theorem ok_init{f Hc B:X0}{fd:FuncData}(F:Fun K "__init__" "BadWords.__init__" sInit f fd)(D:Bad K mg Hc B f):FnOk P w K mg base CX0 1 f fd ["self","at"] (spInit K B):=by
 refine F.ok J6a (λ vs H Q E h=>?_) (λ cdv A outer s H vs Q E hr h=>?_)
 ·obtain⟨x,i,rfl,_⟩:=h;rfl
 obtain⟨x,i,rfl,hx,h0,hi,q⟩:=h;refine⟨_,Z0a (Z0t (J2B D.sup rfl D.mH (qJ (pv 0) (Z7C (Z3e Z0c (Z3e (J0S (pv 1)) Z9N)))))) (Z0b (J5f (pv 0) (pv 1) rfl)),?_⟩;have hl:=Z9m h0 hi;refine⟨.ref x,rfl,_,rfl,qQ,.int i,rfl,.inl ⟨i,rfl,qb0 (Z6I h0 hi) qQ,?_⟩⟩;have hb:∀z:V0,(Str.empty++z).length=z.length:=λ z=>by rw[<-cds_len,<-cds_len,cds_app];rfl
 have hlen:(Str.empty++("no word of the language at ":V0)++Str.ofString (toString i)).length<=sizeLine:=by
  rw[<-cds_len,cds_app,qa5,cds_len,cds_len,hb,sizeLine_eq];have:("no word of the language at ":V0).length=27:=by decide
  omega
 refine⟨_,rfl,hlen,hlen,x,B,some f,none,_,rfl,hx,D.xB,(by show 1<=sizeLine;decide),?_⟩;exact⟨.int i,rfl,.ref x,rfl,x,B,rfl,hx,D.cls,D.no,λ dx hdx=>q dx hdx⟩
def AtK(H:Hp)(B:X0)(k:Nat)(E:XK):Prop:=∀H' dx,Same H H'->H' dx=some (.xd [("at",.int k)])->E (.ref B) (some dx) H'
theorem Z3S{H:Hp}{B x:X0}{k:Nat}{E:XK}(h:AtK H B k E)(hk:k<2^64)(hx:H x=none):spInit K B [.ref x,.int k] (upd H x (excN x B none)) (λ v H2=>v=.non/\∃ed,H2 x=some (excN x B ed)/\E (.ref B) ed (upd H2 x (excO x B ed))) E0:=by
 refine ⟨x,k,rfl,Z0e,by omega,by omega,λ dx hdx=>⟨rfl,some dx,?_,h _ dx (λ b o q=>?_) ?_⟩⟩;all_goals
  have nx:dx≠x:=λ z=>by rw[z,Z0e]at hdx;cases hdx
  have hdx':H dx=none:=by rw[Z0h nx]at hdx;exact hdx
 ·rw[Z0h (Ne.symm nx),Z0e]
 ·have n1:b≠x:=Z0g q hx;have n2:b≠dx:=Z0g q hdx';rw[Z0h n1,Z0h n2,Z0h n1,Z0h n1];exact q
 ·rw[Z0h nx,Z0e]
abbrev ofTx(l:Tx):V0:=⟨l.toArray⟩
def Z8p(B:X0):Sp:=λ vs H Q E=>∃(x:V0)(k:Nat),vs=[.str x,.int k]/\x.length<=100000/\∃c r,(cds x).drop k=c::r/\
  (if (isNum ((c::r).takeWhile Z0p) || isNm ((c::r).takeWhile Z0p))=true then ∀ H',Same H H'->Q (.str (ofTx ((c::r).takeWhile Z0p))) H'
   else if Z0p c=false/\sgns.contains c=true then ∀H',Same H H'->Q (.str (ofTx [c])) H' else AtK H B k E)
theorem scWordAt:Z0j ["text","at","row"] ["text","at"] (Z0d Z9H):=⟨rfl,rfl,rfl,qP,rfl,qP,qP⟩
theorem AtK.mono{H H':Hp}{B:X0}{k:Nat}{E:XK}(h:AtK H B k E)(s:Same H H'):AtK H' B k E:=λ H2 dx s2 q=>h H2 dx (s.trans s2) q
theorem Z2K(c:Nat)(r:Tx):(c::r).takeWhile Z0p=[]↔Z0p c=false:=by
 rw[qd9];cases Z0p c<;>simp
theorem ok_word_at{f Hc B fi g1 g2 g3:X0}{fd di d1 d2 d3:FuncData}(F:Fun K "word_at" "word_at" Z9H f fd)(T:Txt K mg)(D:Bad K mg Hc B fi)(GI:FnOk P w K mg base CX0 1 fi di ["self","at"] (spInit K B))(bi:Binds K di ["self","at"] [])(G1:FnOk P w K mg base CX0 2 g1 d1 ["text","at"] Z9M)(b1:Binds K d1 ["text","at"] [])(k1:W.keepIn K (.ref g1)=true)(m1:mg "row_at"=some (.ref g1))(G2:FnOk P w K mg base CX0 1 g2 d2 ["word"] (spB isNum))(b2:Binds K d2 ["word"] [])(k2:W.keepIn K (.ref g2)=true)(m2:mg "is_number"=some (.ref g2))(G3:FnOk P w K mg base CX0 1 g3 d3 ["word"] (spB isNm))(b3:Binds K d3 ["word"] [])(k3:W.keepIn K (.ref g3)=true)(m3:mg "is_name_row"=some (.ref g3)):FnOk P w K mg base (CXe P w) 3 f fd ["text","at"] (Z8p B):=by
 refine F.okX scWordAt (λ vs H Q E h=>?_) (λ cdv A outer s H vs Q E hr h=>?_)
 ·obtain⟨x,k,rfl,_⟩:=h;rfl
 obtain⟨x,k,rfl,hz,c,r,ecr,h⟩:=h;obtain⟨t1,g1'⟩:=T.signs;have hr1:Room 1 _:=hr.mono qQ;have hk:k<x.length:=by
  have:=congrArg qf2 ecr;rw[qf3,cds_len]at this;simp at this;omega
 have hz':x.length<=sizeLine:=qa1 hz qQ;have hat:atI (cds x) ((k:Nat):Int)=some c:=Z2l (by
  have:((cds x).drop k)[0]?=some c:=by rw[ecr];rfl
  rw[qj7]at this;simpa using this)
 refine⟨_,Z0a (qG 2 scWordAt.nd (Z2o G1 hr rfl m1 k1 b1 .nil Z4H (qJ (pv 0) (pv 1)))) (Z0a (Z0s (PW.pt (J4J (Z0Q (Z2o G2 hr1 rfl m2 k2 b2 .nil Z4H (qI (pv 2)))) (Z9O (Z0Q (Z2o G3 hr1 rfl m3 k3 b3 .nil Z4H (qI (pv 2))))))) (Z0b (Z0k (pv 2))) Z0m) (Z0a (Z0s (PW.pt (Z6C (qM Z1t (pv 2) Z0c) (Z4z (Z1a Z1q (Z2Y Z2F (pv 0) (pv 1) (λ _ _=>rfl)) (Z5V rfl g1') (by with_unfolding_all rfl))))) (Z0b (Z0k (Z2Y Z2F (pv 0) (pv 1) (λ _ _=>rfl)))) Z0m) (Z0b (Z8m D.xB D.kp D.fn GI hr bi rfl D.mB (qI (pv 1)))))),?_⟩;refine⟨_,rfl,_,rfl,x,k,rfl,by omega,hz,λ y hy=>?_⟩;rw[ecr]at hy;have hy':y=ofTx ((c::r).takeWhile Z0p):=cds_ext hy;have ylen:y.length<=sizeLine:=by
  rw[<-cds_len,hy];refine qa1 (qj4 Z0p).length_le ?_;have:=congrArg qf2 ecr;rw[qf3,cds_len]at this;omega
 refine⟨_,rfl,y,rfl,ylen,λ H1 s1=>⟨_,rfl,?_⟩⟩;rw[hy];cases hn:isNum ((c::r).takeWhile Z0p)with
 |true=>
  rw[hn,Bool.true_or,if_pos rfl]at h;refine iteT (iteT ⟨_,rfl,?_⟩);rw[hy'];exact h H1 s1
 |false=>
  refine iteF ⟨_,rfl,y,rfl,ylen,λ H2 s2=>⟨_,rfl,?_⟩⟩;rw[hy];cases hm:isNm ((c::r).takeWhile Z0p)with
  |true=>
   rw[hm,qf5,if_pos rfl]at h;refine iteT ⟨_,rfl,?_⟩;rw[hy'];exact h H2 (s1.trans s2)
  |false=>
   rw[hn,hm,qf4,if_neg qb3]at h;refine iteF ⟨_,rfl,rfl,_,rfl,?_⟩;have e0:decide (V.str y=V.str "")=!Z0p c:=by
    cases hc:Z0p c with
    |true=>
     refine decide_eq_false λ z=>?_;injection z with z
     rw[z]at hy;have:=(Z2K c r).mp (by rw[<-hy];decide+kernel);rw[hc]at this;cases this
    |false=>
     refine decide_eq_true ?_;rw[hy',(Z2K c r).mpr hc];rfl
   rw[e0];cases hc:Z0p c with
   |true=>
    rw[if_neg (by rw[hc];simp)]at h;refine iteF (iteF ⟨_,rfl,(show 1<=sizeLine by decide),λ x' hx'=>Z3S (h.mono (s1.trans s2)) (by omega) hx'⟩)
   |false=>
    refine iteT ⟨_,rfl,_,rfl,x,k,c,rfl,rfl,hz',hat,_,_,rfl,rfl,_,rfl,?_⟩;rw[Z2v J0C];cases hs:sgns.contains c with
    |true=>
     rw[if_pos ⟨hc,hs⟩]at h;exact iteT ⟨_,rfl,_,rfl,x,k,c,rfl,rfl,hz',hat,h H2 (s1.trans s2)⟩
    |false=>
     rw[if_neg (by rw[hs];simp)]at h;exact iteF ⟨_,rfl,(show 1<=sizeLine by decide),λ x' hx'=>Z3S (h.mono (s1.trans s2)) (by omega) hx'⟩
abbrev vT(l:Tx):V:=.str (ofTx l)
def J8Q(B:X0)(H:Hp)(Q:VK)(E:XK):Res->Prop
 | .ok ws=>∀H' p,H p=none->Same H H'->H' p=some (.lst (ws.map vT))->Q (.ref p) H'
 | .error k=>AtK H B k E
def J5b(K:y0)(B:X0):Sp:=λ vs H Q E=>(∃x:V0,vs=[.str x]/\x.length<=100000/\(if x.length<=6000 then J8Q B H Q E (cutP (cds x) 0)else AtK H B 0 E))\/
 (∃v t,vs=[v]/\TyOf K H v t/\W.kitOne K t (.type "str")=some false/\AtK H B 0 E)
theorem scWords:Z0j ["text","cut","at","word"] ["text"] (Z0d J3V):=⟨rfl,rfl,rfl,qP,rfl,qP,qP⟩
theorem J3n(l:Tx):l.drop (l.takeWhile Z0p).length=l.dropWhile Z0p:=by
 have h:=Z5i l;have:l.drop (l.takeWhile Z0p).length=(l.takeWhile Z0p++l.dropWhile Z0p).drop (l.takeWhile Z0p).length:=by rw[h]
 rw[this,List.drop_left]
theorem ok_words{f Hc B fi g1:X0}{fd di d1:FuncData}(F:Fun K "words" "words" J3V f fd)(T:Txt K mg)(D:Bad K mg Hc B fi)(GI:FnOk P w K mg base CX0 1 fi di ["self","at"] (spInit K B))(bi:Binds K di ["self","at"] [])(G1:FnOk P w K mg base (CXe P w) 3 g1 d1 ["text","at"] (Z8p B))(b1:Binds K d1 ["text","at"] [])(k1:W.keepIn K (.ref g1)=true)(m1:mg "word_at"=some (.ref g1)):FnOk P w K mg base (CXe P w) 4 f fd ["text"] (J5b K B):=by
 refine F.okX scWords (λ vs H Q E h=>?_) (λ cdv A outer s H vs Q E hr h=>?_)
 ·rcases h with⟨x,rfl,_⟩|⟨v,t,rfl,_⟩<;>rfl
 obtain⟨t1,lt⟩:=T.longText;obtain⟨t2,gp⟩:=T.gaps;have hr2:Room 2 _:=hr.mono qQ;refine⟨_,Z0a (Z0s (PW.pt (J4J (Z5b (Z0Q (Z0P J2D rfl D.isi PyProof.Rows.boot_isinstance (qJ (pv 0) (J5m (v:=.ty "str") rfl D.str PyProof.Rows.boot_str rfl))))) (Z9O (qM Z5A (Z0P Z0W rfl T.len PySem.boot_len (qI (pv 0))) (J5h rfl lt))))) (Z0b (Z8m D.xB D.kp D.fn GI hr2 bi rfl D.mB (qI Z0f))) Z0m) (Z0a (qG 1 scWords.nd (Z0E Z1F)) (Z0a (qG 2 scWords.nd Z0f) (Z0a (Z2c (Z0F rfl rfl) (qM J2r (pv 2) (Z0P Z0W rfl T.len PySem.boot_len (qI (pv 0)))) (Z0b (Z0s (Z1a Z1q (Z2Y Z2F (pv 0) (pv 2) (λ _ _=>rfl)) (Z5V rfl gp) (by with_unfolding_all rfl)) (Z0b (Z6G (i:=2) scWords.nd rfl (Or.inl rfl) Z0f Z8V)) (Z0a (qG 3 scWords.nd (Z2o G1 hr rfl m1 k1 b1 .nil (Raised.passes λ _ _ _ _ q=>q) (qJ (pv 0) (pv 2)))) (Z0a (Z0t (Z3M qd6 qe0 qe1 Z0X (pv 1) (qI (pv 3)))) (Z0b (Z6G (i:=2) scWords.nd rfl (Or.inl rfl) (Z0P Z0W rfl T.len PySem.boot_len (qI (pv 3))) Z8V))))))) (Z0b (Z0k (pv 1)))))),?_⟩;rcases h with⟨x,rfl,hz,h⟩|⟨v,t,rfl,ty,kt,h⟩
 ·have hz':x.length<=sizeLine:=qa1 hz qQ;have hlen:=cds_len x;refine⟨_,rfl,_,_,_,_,_,rfl,rfl,.str x,Z3U,_,rfl,?_⟩;refine iteF ⟨_,rfl,_,rfl,hz',_,_,rfl,rfl,_,rfl,?_⟩;by_cases hl:x.length<=6000
  ·rw[if_pos hl]at h;rw[decide_eq_false (show ¬(6000:Int)<(x.length:Int)by omega)];refine iteF ⟨qQ,λ p hp=>?_⟩;let Pv:St->Hp->Prop:=λ σ H'=>∃(n:Nat)(dn:List Tx)(wd:Option V),σ=[some (.str x),some (.ref p),some (.int n),wd]/\H' p=some (.lst (dn.map vT))/\Same H H'/\n<=x.length/\dn.length<=n/\cutP (cds x) 0=pre dn (cutP ((cds x).drop n) n);let μ:St->Hp->Nat:=λ σ _=>match σ with|[_,_,some (.int n),_]=>(x.length-n.toNat)|_=>0
   refine Z6T Pv μ ⟨0,[],none,rfl,Z0e,Z5J hp _,qb4 _,qb4 _,by rw[J4u];rfl⟩ ?_;rintro σ H' ⟨n,dn,wd,rfl,hd,hs,hn,hdn,hc⟩;refine⟨_,rfl,_,rfl,x,rfl,hz',_,_,rfl,rfl,_,rfl,?_⟩;by_cases hlt:(n:Int)<(x.length:Int)
   ·rw[decide_eq_true hlt];have hn':n<(cds x).length:=by omega
    have ecr:(cds x).drop n=(cds x)[n]::(cds x).drop (n+1):=qg4 hn';generalize hcc:(cds x)[n]=c at ecr;have hat:atI (cds x) ((n:Nat):Int)=some c:=Z2l (by rw[qb5 hn',hcc]);refine iteT ⟨λ σ' H2=>Pv σ' H2/\μ σ' H2<x.length-n,λ σ' H2 ⟨a,b⟩=>⟨_,b,rfl,a⟩,?_⟩;refine⟨_,rfl,_,rfl,x,n,c,rfl,rfl,hz',hat,_,_,rfl,rfl,_,rfl,?_⟩;rw[Z2v J2M];rw[ecr,cutP]at hc;cases hg:gaps.contains c with
    |true=>
     rw[if_pos hg]at hc;refine iteT ⟨_,rfl,_,_,rfl,rfl,⟨n+1,dn,wd,rfl,hd,hs,by omega,by omega,hc⟩,?_⟩;show x.length-((n:Int)+1).toNat<x.length-n;omega
    |false=>
     rw[if_neg (by rw[hg];exact qb3)]at hc;refine iteF ⟨_,rfl,_,rfl,x,n,rfl,hz,c,(cds x).drop (n+1),ecr,?_⟩;have dlen:((cds x).drop (n+1)).length=x.length-(n+1):=by rw[qf3,cds_len]
     have go:∀(row:Tx)(H2:Hp),Same H' H2->row≠[]->row.length<=x.length-n->cutP (cds x) 0=pre (dn++[row]) (cutP ((cds x).drop (n+row.length)) (n+row.length))->
       tSeq (J5i (tBM K "list" Z7w (tVar 1) (Z4y (tVar 3) tNil))) (tAug 2 (tCB (λ xs H Q=>∃z:V0,xs=[.str z]/\z.length<=sizeLine/\Q (.int z.length) H) (Z4y (tVar 3) tNil)) (ipI λ i j=>i+j)) {nx:=λ σ' H2=>Pv σ' H2/\μ σ' H2<x.length-n,rt:=Q,bk:=λ _ _=>False,ct:=λ _ _=>False} [some (.str x),some (.ref p),some (.int n),some (vT row)] H2:=λ row H2 s2 hne hrl hc2=>by
      have hd2:=s2 _ _ hd;have rl:(ofTx row).length=row.length:=by rw[<-cds_len]
      refine⟨_,rfl,.inl ⟨rfl,_,SqL.of hd2⟩,_,rfl,p,_,_,rfl,rfl,hd2,by rw[qa3,sizeLine_eq];omega,?_⟩;refine⟨_,rfl,_,rfl,_,rfl,by rw[rl,sizeLine_eq];omega,_,_,rfl,rfl,⟨n+row.length,dn++[row],some (vT row),?_,?_,?_,by omega,?_,hc2⟩,?_⟩
      ·rw[rl];rfl
      ·rw[Z0e,qe8];rfl
      ·intro b o q;rw[Z0h (Z0g q hp)];exact s2 _ _ (hs _ _ q)
      ·have:0<row.length:=qe9.mpr hne;rw[qa5];show dn.length+1<=_;omega
      ·have:0<row.length:=qe9.mpr hne;show x.length-((n:Int)+((ofTx row).length:Int)).toNat<x.length-n;rw[rl];omega
     generalize hdr:(cds x).drop (n+1)=r at ecr hc dlen;cases hw:(isNum ((c::r).takeWhile Z0p)||isNm ((c::r).takeWhile Z0p))with
     |true=>
      rw[if_pos rfl];have hne:(c::r).takeWhile Z0p≠[]:=λ z=>by rw[z]at hw;exact absurd hw qQ
      have hcr:Z0p c=true:=by
       cases q:Z0p c with
       |true=>rfl
       |false=>exact absurd ((Z2K c r).mpr q) hne
      rw[if_pos hcr,hw,if_pos rfl,J1w]at hc;refine λ H2 s2=>go _ H2 s2 hne ?_ ?_
      ·refine qa1 (qj4 Z0p).length_le ?_;show r.length+1<=_;omega
      ·rw[hc,<-List.drop_drop,ecr,J3n,qf7,if_pos hcr]
     |false=>
      rw[if_neg qb3];cases hcr:Z0p c with
      |true=>
       rw[if_neg (by simp)];rw[if_pos hcr,hw,if_neg qb3]at hc;rw[hc]at h;exact AtK.mono h hs
      |false=>
       rw[if_neg (by rw[hcr];exact qb3)]at hc;cases hsg:sgns.contains c with
       |true=>
        rw[if_pos ⟨rfl,rfl⟩];rw[if_pos hsg,J1w]at hc;refine λ H2 s2=>go [c] H2 s2 (by simp) (by show 1<=_;omega) ?_;rw[hc];show _=pre (dn++[[c]]) (cutP ((cds x).drop (n+1)) (n+1));rw[hdr]
       |false=>
        rw[if_neg (by simp)];rw[if_neg (by rw[hsg];exact qb3)]at hc;rw[hc]at h;exact AtK.mono h hs
   ·rw[decide_eq_false hlt];refine iteF ⟨_,rfl,?_⟩;have e0:(cds x).drop n=[]:=qg5 (by omega);rw[e0,cutP]at hc;rw[hc]at h;refine h H' p hp hs ?_;rw[qb6];exact hd
  ·rw[if_neg hl]at h;rw[decide_eq_true (show(6000:Int)<(x.length:Int)by omega)];exact iteT ⟨(show 1<=sizeLine by decide),λ x' hx'=>Z3S h qQ hx'⟩
 ·refine⟨v,rfl,_,_,_,_,_,rfl,rfl,ty,kt,_,rfl,?_⟩;exact iteT (iteT ⟨(show 1<=sizeLine by decide),λ x' hx'=>Z3S h qQ hx'⟩)
end
end K10
end
section
open PySem L2 TM WK
section
namespace K12
open PySem L2 TM WK
open P15 (Lb Fm Tm dats Z0L okF Ok maxD sumS flatR Bld)
open PW (Wd Hs Pg IxAt Look Z1b Z1c Flds Z1s)
seal L2.PE L2.PA L2.PT L2.PS L2.PSs L2.PG L2.PGs L2.PI L2.PW
open RR (Z0I)
theorem J3E{P:Program}{w:M0}{K:y0}{mg:V0->Option Z0}{base:N0}{x:V0}{st:Stmt}{k:Nat}{ps:List V0}{sp sp':Sp}(F:Fn K mg x st)(hb:∀(kV doc pm:Z0)(an:Option X0)(cdv ct:Z0)(us:List Z0),us.length=ps.length->bindArgs (W.fnOf x x (Z0O st) (Z0y st) (Z0d st) .none kV doc pm an cdv ct) ⟨us,[]⟩=pure (ps.zip us))(ok:∀f fd,Fun K x x st f fd->FnOk P w K mg base CX0 k f fd ps sp)(i:∀vs H Q E,sp' vs H Q E->sp vs H Q E):Has P w K mg base k x ps sp':=by
 obtain⟨f,fd,F,m⟩:=F.ex;exact⟨f,fd,(ok f fd F).imp i,F.binds hb,F.kp,m⟩
theorem ktxt(T:Txt P w K mg C_Guest Ct Cw Ch Cp C_BadForm D_STRENGTHS D_TRUTHS U_TOLD_WORDS):K10.Txt K mg:=by
 have s:∀{x y:V0},Cst mg x (.str y)->∃t,mg x=some (.str y t):=λ c=>by
  obtain⟨u,m,t,rfl⟩:=c.ex;exact⟨t,m⟩
 have n:∀{x:V0}{y:Int},Cst mg x (.int y)->∃t,mg x=some (.int y t):=λ c=>by
  obtain⟨u,m,t,rfl⟩:=c.ex;exact⟨t,m⟩
 refine⟨s T.c_FIGURES,s T.c_SMALL_LETTERS,s T.c_GREAT_LETTERS,s T.c_GAPS,s T.c_SIGNS,n T.c_LONGEST_TEXT,n T.c_LONGEST_NUMBER,n T.c_LONGEST_NAME,?_,T.z_len,T.z_all⟩;obtain⟨u,m,r⟩:=T.c_TOLD_WORDS.ex;cases r;refine⟨_,m,λ H=>?_⟩;exact T.t_TOLD_WORDS H
theorem Z4L{x:V0}{st:Stmt}{k:Nat}{ps:List V0}{sp:Sp}(F:Fn K mg x st)(hb:∀(kV doc pm:Z0)(an:Option X0)(cdv ct:Z0)(us:List Z0),us.length=ps.length->bindArgs (W.fnOf x x (Z0O st) (Z0y st) (Z0d st) .none kV doc pm an cdv ct) ⟨us,[]⟩=pure (ps.zip us))(ok:∀f fd,Fun K x x st f fd->FnOk P w K mg base CX0 k f fd ps sp):∃f fd,FnOk P w K mg base CX0 k f fd ps sp/\Binds K fd ps []/\W.keepIn K (.ref f)=true/\mg x=some (.ref f):=by
 obtain⟨f,fd,F,m⟩:=F.ex;exact⟨f,fd,ok f fd F,F.binds hb,F.kp,m⟩
theorem J2P(T:Txt P w K mg C_Guest Ct Cw Ch Cp C_BadForm D_STRENGTHS D_TRUTHS U_TOLD_WORDS):Has P w K mg base 2 "is_number" ["word"] Z5s:=by
 refine(J3E (sp:=K10.spB K10.isNum) (k:=1) (ps:=["word"]) T.O1a (λ _ _ _ _ _ _ us hl=>el1 us hl λ _=>rfl) (λ f fd F=>K10.ok_number F (ktxt T)) λ vs H Q E h=>?_).mono qS;obtain⟨x,rfl,hl,q⟩:=h;exact⟨x,rfl,qa1 hl qS,q⟩
theorem J1u(T:Txt P w K mg C_Guest Ct Cw Ch Cp C_BadForm D_STRENGTHS D_TRUTHS U_TOLD_WORDS):Has P w K mg base 2 "is_name" ["word"] Z3n:=by
 obtain⟨g1,d1,G1,b1,k1,m1⟩:=Z4L (P:=P) (w:=w) (base:=base) (ps:=["word"]) T.O0T (λ _ _ _ _ _ _ us hl=>el1 us hl λ _=>rfl) λ f fd F=>K10.ok_name_row F (ktxt T);obtain⟨g2,d2,G2,b2,k2,m2⟩:=Z4L (P:=P) (w:=w) (base:=base) (ps:=["word"]) T.O1P (λ _ _ _ _ _ _ us hl=>el1 us hl λ _=>rfl) λ f fd F=>K10.ok_told F (ktxt T);refine J3E (sp:=K10.spName) (k:=2) (ps:=["word"]) T.O1Q (λ _ _ _ _ _ _ us hl=>el1 us hl λ _=>rfl) (λ f fd F=>K10.ok_name F G1 b1 k1 m1 G2 b2 k2 m2) λ vs H Q E h=>?_;obtain⟨x,rfl,hl,q⟩:=h;exact⟨x,rfl,qa1 hl qS,q⟩
theorem J1e(T:Txt P w K mg C_Guest Ct Cw Ch Cp C_BadForm D_STRENGTHS D_TRUTHS U_TOLD_WORDS){Hc B' fi:X0}{di:FuncData}(D:K10.Bad K mg Hc B' fi)(GI:FnOk P w K mg base CX0 1 fi di ["self","at"] (K10.spInit K B'))(bi:Binds K di ["self","at"] []):HasX P w K mg base 5 "words" ["text"] Z4U:=by
 obtain⟨g1,d1,G1,b1,k1,m1⟩:=Z4L (P:=P) (w:=w) (base:=base) (ps:=["word"]) T.O0T (λ _ _ _ _ _ _ us hl=>el1 us hl λ _=>rfl) λ f fd F=>K10.ok_name_row F (ktxt T);obtain⟨g2,d2,G2,b2,k2,m2⟩:=Z4L (P:=P) (w:=w) (base:=base) (ps:=["word"]) T.O1a (λ _ _ _ _ _ _ us hl=>el1 us hl λ _=>rfl) λ f fd F=>K10.ok_number F (ktxt T);obtain⟨g3,d3,G3,b3,k3,m3⟩:=Z4L (P:=P) (w:=w) (base:=base) (ps:=["sign"]) T.O1i (λ _ _ _ _ _ _ us hl=>el1 us hl λ _=>rfl) λ f fd F=>K10.ok_row_sign F (ktxt T);obtain⟨g4,d4,G4,b4,k4,m4⟩:=Z4L (P:=P) (w:=w) (base:=base) (ps:=["text","at"]) T.O1V (λ _ _ _ _ _ _ us hl=>el2 us hl λ _ _=>rfl) λ f fd F=>K10.ok_row_at F (ktxt T) G3 b3 k3 m3;obtain⟨f5,d5,F5,m5⟩:=T.O1R.ex;have G5:=K10.ok_word_at (P:=P) (w:=w) (base:=base) F5 (ktxt T) D GI bi G4 b4 k4 m4 G2 b2 k2 m2 G1 b1 k1 m1;obtain⟨f6,d6,F6,m6⟩:=T.O1Y.ex;have G6:=K10.ok_words (P:=P) (w:=w) (base:=base) F6 (ktxt T) D GI bi G5 (F5.binds (ps:=["text","at"]) (λ _ _ _ _ _ _ us hl=>el2 us hl λ _ _=>rfl)) F5.kp m5;refine⟨f6,d6,(G6.mono qS).imp λ vs H Q E h=>?_,F6.binds (ps:=["text"]) (λ _ _ _ _ _ _ us hl=>el1 us hl λ _=>rfl),F6.kp,m6⟩;obtain⟨x,ws,rfl,hc,q⟩:=h;obtain⟨tx,e1,e2⟩:=hc.cut;refine .inl ⟨x,rfl,qa1 hc.len qS,?_⟩;rw[if_pos hc.len,e1];intro H' p h1 s1 e;refine q H' p h1 s1 ?_;rw[e2,qd1];exact e
inductive J1k(K:y0)(vs:List V)(H:Hp)(Q:VK):Prop
 |mk(a:X0)(ns:List Int)(k:Nat)(a1:vs=[.ref a,.int k])(a2:SqL K H a (ns.map V.int))(a3:∀c:Int,Q (.int c) H):J1k K vs H Q
def Z5r(K:y0):Sp:=λ vs H Q _=>J1k K vs H Q
inductive Z7Z(vs:List V)(H:Hp)(Q:VK):Prop
 |mk(c k:Int)(a1:vs=[.int c,.int k])(a2:0<=k)(a3:k<=100)(a4:∀n:Nat,Q (.int n) H):Z7Z vs H Q
def Z5H:Sp:=λ vs H Q _=>Z7Z vs H Q
theorem J5r(T:Txt P w K mg C_Guest Ct Cw Ch Cp C_BadForm D_STRENGTHS D_TRUTHS U_TOLD_WORDS):Has P w K mg base 1 "_law_cell_at" ["_law_script","_law_k"] (Z5r K):=by
 refine Has.of T.O1g Z4s (λ _ _ _ _ _ _ us hl=>el2 us hl λ _ _=>rfl) (λ vs H Q E h=>?_) (λ f cdv A outer s H vs Q E hr h=>?_)
 ·obtain⟨a,ns,k,rfl,_⟩:=h;rfl
 obtain⟨a,ns,k,rfl,sq,q⟩:=h;refine⟨_,(Z0a (Z0s (qM J2r (pvF 1) (qL T.z_len (qI (pvF 0)))) (Z0b (Z0k (qD K (pvF 0) (pvF 1)))) Z0m) (Z0b (Z0k Z0f))),?_⟩;walk_at "r";refine⟨_,.inl sq,ite2 (λ h=>?_) λ _=>q _⟩;rw[qa3]at h;have hk:k<ns.length:=by omega
 exact⟨_,sq,_,Z2l (show(ns.map V.int)[k]?=some (.int ns[k])by rw[qc0,qb5 hk];rfl),q _⟩
theorem J3l(T:Txt P w K mg C_Guest Ct Cw Ch Cp C_BadForm D_STRENGTHS D_TRUTHS U_TOLD_WORDS):Has P w K mg base 1 "_law_mixed" ["_law_cell","_law_k"] Z5H:=by
 refine Has.of T.O1o Z5M (λ _ _ _ _ _ _ us hl=>el2 us hl λ _ _=>rfl) (λ vs H Q E h=>?_) (λ f cdv A outer s H vs Q E hr h=>?_)
 ·obtain⟨c,k,rfl,_⟩:=h;rfl
 obtain⟨c,k,rfl,k0,k1,q⟩:=h;refine⟨_,(Z0b (Z0k (Z0n Z2u (Z0n Z1u (Z0n Z4d (Z0n Z0S (Z0n Z0S (Z0n Z1u (Z0n Z4d (pvF 0) Z0f) Z0f) (Z0n Z4d (Z0n Z4d Z0f (pvF 1)) (pvF 1))) (Z0n Z4d Z0f (pvF 1))) Z0f) Z0f) Z0f))),?_⟩;walk_at "r";have h0:=Int.emod_nonneg ((c*48271%2147483647+7919*k*k+104729*k)*69621) (show(2147483629:Int)≠0 by decide);refine⟨.inr ⟨by omega,by omega⟩,?_⟩;generalize(c*48271%2147483647+7919*k*k+104729*k)*69621%2147483629=r at*;obtain⟨n,rfl⟩:=qj8 h0;exact q (n/7)
open RR (El I3 ThE Th Pt Nm Z4f nms nmT)
def ThV(K:y0)(H:Hp)(r:V)(x:V0)(d:PyData):Prop:=∃(a:X0)(v:V),r=.ref a/\SqT K H a [.str x,v]/\RT K H v d
inductive Z8o(K:y0)(vs:List V)(H:Hp)(Q:VK):Prop
 |mk(n:Nat)(a1:vs=[.int n])(a2:∀(H':Hp)(r:V)(e:El),Same H H'->ThV K H' r e.1 e.2.2->ThE e->Q r H'):Z8o K vs H Q
def Z7W(K:y0):Sp:=λ vs H Q _=>Z8o K vs H Q
theorem Z6i{α:Type}{l:List α}(h:l≠[])(n:Nat){m:Int}(hm:m=(l.length:Int)):∃x∈l,atI l ((n:Int)%m)=some x:=by
 have hl:=qe9.mpr h;have hk:n%l.length<l.length:=Nat.mod_lt _ hl;refine⟨l[n%l.length],qg8 hk,?_⟩;have e:(n:Int)%m=((n%l.length:Nat):Int):=by rw[hm];rfl
 rw[e];exact Z2l (qb5 hk)
theorem nm8:∀c∈("abcdefgh":V0).cps.toList,(⟨#[c]⟩:V0)∈nms:=by decide+kernel
theorem nm3:∀c∈("xyz":V0).cps.toList,(⟨#[c]⟩:V0)∈nms:=by decide+kernel
theorem J6L(n:Nat):∃x,atI ("abcdefgh":V0).cps.toList ((n:Int)%8)=some x/\Nm ⟨#[x]⟩:=by
 obtain⟨x,hx,e⟩:=Z6i (l:=("abcdefgh":V0).cps.toList) qP n (m:=8) qP;exact⟨x,e,Z4f (nm8 x hx)⟩
theorem J6i(n:Nat):∃x,atI ("xyz":V0).cps.toList ((n:Int)%3)=some x/\Nm ⟨#[x]⟩:=by
 obtain⟨x,hx,e⟩:=Z6i (l:=("xyz":V0).cps.toList) qP n (m:=3) qP;exact⟨x,e,Z4f (nm3 x hx)⟩
def TI(K:y0)(H:Hp)(n:Nat)(x0:V0)(i:Nat)(σ:St)(H':Hp):Prop:=∃x u t v o4 o5,Pt i x u t/\Same H H'/\RT K H' v t.dat/\σ=[some (V.int n),some (V.str x0),some (V.str x),some v,o4,o5]
theorem TI.same{K:y0}{H:Hp}{n:Nat}{x0:V0}{i:Nat}{σ:St}{H' H2:Hp}(h:TI K H n x0 i σ H')(s:Same H' H2):TI K H n x0 i σ H2:=by
 obtain⟨x,u,t,v,o4,o5,a,b,c,d⟩:=h;exact⟨x,u,t,v,o4,o5,a,b.trans s,c.same s,d⟩
theorem J2V(T:Txt P w K mg C_Guest Ct Cw Ch Cp C_BadForm D_STRENGTHS D_TRUTHS U_TOLD_WORDS):Has P w K mg base 1 "_law_thing" ["_law_cell"] (Z7W K):=by
 refine Has.of T.O1p O0e (λ _ _ _ _ _ _ us hl=>el1 us hl λ _=>rfl) (λ vs H Q E h=>?_) (λ f cdv A outer s H vs Q E hr h=>?_)
 ·obtain⟨n,rfl,_⟩:=h;rfl
 obtain⟨n,rfl,q⟩:=h;refine⟨_,(Z0a (qG 1 O0e.nd (Z2Y Z2F Z0c (Z0n Z1u (pvF 0) Z0f) (λ _ _=>rfl))) (Z0a (Z7e (i:=2) (j:=3) rfl O0e.nd rfl rfl qS rfl rfl (qJ (qD K (Z0E (Z0o (pvF 1) (qK (pvF 1) (Z0n Z0i (Z0n Z0i Z0c (pvF 1)) Z0c) (Z0n Z0i (Z0n Z0i Z0c (pvF 1)) Z0c)))) (Z0n Z1u (Z0n Z2u (pvF 0) Z0f) Z0f)) (Z0l (qJ Z0c (pvF 1)))) rfl) (Z0a (Z3I PassesOwn.never rfl (Z4l rfl T.O1u (qI (qD K (Z0E (Z0o Z0f (Z0o Z0f (qK Z0f Z0f Z0f)))) (Z0n Z1u (Z0n Z2u (pvF 0) Z0f) Z0f)))) (qH 4 O0e.nd) (Z0a (qG 5 O0e.nd (Z0n J3k (pvF 0) (Z0n Z0S Z0f (Z0n Z4d Z0f (pvF 4))))) (Z0a (qG 2 O0e.nd (Z0n Z0i (Z0n Z0i (pvF 2) Z0c) (Z2Y Z2F Z0c (Z0n Z1u (pvF 5) Z0f) (λ _ _=>rfl)))) (Z0b (Z0s (qM Z1t (Z0n Z1u (Z0n Z2u (pvF 5) Z0f) Z0f) Z0f) (Z0b (Z7e (i:=2) (j:=3) rfl O0e.nd rfl rfl qS rfl rfl (qJ (Z0n Z0i (pvF 2) Z0c) (Z0l (Z0o Z0c (qK (pvF 3) (Z2Y Z2F Z0c (Z0n Z1u (pvF 5) Z0f) (λ _ _=>rfl)) (Z0l Z1F))))) rfl)) (Z0b (Z0s (qM Z1t (Z0n Z1u (Z0n Z2u (pvF 5) Z0f) Z0f) Z0f) (Z0b (Z7e (i:=2) (j:=3) rfl O0e.nd rfl rfl qS rfl rfl (qJ (Z0n Z0i (pvF 2) Z0c) (Z0l (Z0o Z0c (qK (pvF 3) (Z2Y Z2F Z0c (Z0n Z1u (pvF 5) Z0f) (λ _ _=>rfl)) (Z0l (qI (Z0l (qJ Z0c Z0c)))))))) rfl)) (Z0b (qG 3 O0e.nd (Z0l (qK Z0c (pvF 3) (Z2Y Z2F Z0c (Z0n Z1u (pvF 5) Z0f) (λ _ _=>rfl))))))))))))) (Z0a (Z0s (qM Z5A (Z0n Z1u (Z0n Z2u (pvF 0) Z0f) Z0f) Z0f) (Z0b (Z0k (Z0l (qJ (Z0n Z0i Z0c (pvF 2)) (Z0l (qJ Z0c (pvF 3))))))) Z0m) (Z0b (Z0k (Z0l (qJ (pvF 2) (pvF 3))))))))),?_⟩;refine seq5 λ uz4 huz4 uz3 huz3 uz2 huz2 uz1 huz1=>?_;walk_at "r";obtain⟨c,ec,nm⟩:=J6L n;refine⟨qP,c,ec,?_⟩;generalize(⟨#[c]⟩:V0)=x at nm ⊢;clear ec c;subst huz1;walk_at "r";refine⟨by rw[nm.len];decide+kernel,by rw[RR.len_app,nm.len];decide+kernel,by rw[nm.len];decide+kernel,by rw[RR.len_app,nm.len];decide+kernel,New.of λ p1 H1 h1 s1 e1=>?_⟩;obtain⟨v0,hv0,ev0⟩:=Z6i (l:=[V.str x,V.str x,V.str ("("++x++")"),V.str ("(("++x++"))")]) (nofun) (n/1500) (m:=4) rfl;refine⟨_,SqL.of e1,v0,ev0,New.of λ p2 H2 h2 s2 e2=>?_⟩;have h0:TI K H n x 0 [some (V.int n),some (V.str x),some v0,some (V.ref p2),none,none] H2:=by
  obtain⟨y,u,rfl,hy⟩:∃y u,v0=V.str y/\Pt 0 y u (nmT x):=by
   simp only[qa2,qa9,or_false]at hv0;rcases hv0 with rfl|rfl|rfl|rfl
   ·exact⟨_,_,rfl,RR.pt_nm nm⟩
   ·exact⟨_,_,rfl,RR.pt_nm nm⟩
   ·exact⟨_,_,rfl,RR.pt_br1 nm⟩
   ·exact⟨_,_,rfl,RR.pt_br2 nm⟩
  exact⟨y,u,_,_,_,_,hy,s1.trans s2,.tup (SqT.of e2) (.cons (.str _) (.cons (.str _) .nil)),rfl⟩
 subst huz2;walk_at "r";refine New.of λ p3 H3 h3 s3 e3=>?_;obtain⟨v1,hv1,ev1⟩:=Z6i (l:=[V.int 0,V.int 0,V.int 0,V.int 1,V.int 2]) (nofun) (n/8) (m:=5) rfl;obtain⟨m,rfl,hm⟩:∃m:Nat,v1=V.int m/\m<=2:=by
  simp only[qa2,qa9,or_false]at hv1;rcases hv1 with rfl|rfl|rfl|rfl|rfl
  ·exact⟨0,rfl,by omega⟩
  ·exact⟨0,rfl,by omega⟩
  ·exact⟨0,rfl,by omega⟩
  ·exact⟨1,rfl,by omega⟩
  ·exact⟨2,rfl,by omega⟩
 refine⟨_,SqL.of e3,_,ev1,_,rfl,by omega,by omega,?_⟩;rw[Int.toNat_natCast];refine Z9s (TI K H n x) (h0.same s3) (λ i σ H4 hi h=>?_) λ σ H4 h=>?_
 ·obtain⟨y,u,t,v,o4,o5,hp,s4,rt,rfl⟩:=h;walk_at "r";have e2:(40+7*(i:Int))=((40+7*i:Nat):Int):=by omega
  have ef:(n:Int).fdiv (40+7*i)=((n/(40+7*i):Nat):Int):=by rw[e2,Int.fdiv_eq_ediv_of_nonneg _ (Int.natCast_nonneg _)];rfl
  rw[ef];obtain⟨c,ec,nc⟩:=J6i (n/(40+7*i));have hy:=hp.tx.len;have k1:=nc.len;have k2:(".":V0).length=1:=by decide+kernel
  have k3:("()":V0).length=2:=by decide+kernel
  have k4:("(k)":V0).length=3:=by decide+kernel
  refine⟨by omega,by omega,by omega,by omega,qP,c,ec,by rw[RR.len_app];omega,ite2 (λ _=>?_) λ _=>ite2 (λ _=>?_) λ _=>?_⟩
  ·refine⟨by rw[RR.len_app,RR.len_app];omega,qP,c,ec,New.of λ q1 G1 g1 r1 f1=>New.of λ q2 G2 g2 r2 f2=>?_⟩;exact⟨_,_,_,_,_,_,RR.pt_call0 hp nc,s4.trans (r1.trans r2),.tup (SqT.of f2) (.cons (.str _) (.cons (rt.same (r1.trans r2)) (.cons (.str _) (.cons (.tup (SqT.of (r2 _ _ f1)) .nil) .nil)))),rfl⟩
  ·refine⟨by rw[RR.len_app,RR.len_app];omega,qP,c,ec,New.of λ q0 G0 g0 r0 f0=>New.of λ q1 G1 g1 r1 f1=>New.of λ q2 G2 g2 r2 f2=>?_⟩;exact⟨_,_,_,_,_,_,RR.pt_call1 hp nc,s4.trans (r0.trans (r1.trans r2)),.tup (SqT.of f2) (.cons (.str _) (.cons (rt.same (r0.trans (r1.trans r2))) (.cons (.str _) (.cons (.tup (SqT.of (r2 _ _ f1)) (.cons (.tup (SqT.of (r2 _ _ (r1 _ _ f0))) (.cons (.str _) (.cons (.str _) .nil))) .nil)) .nil)))),rfl⟩
  ·refine⟨qP,c,ec,New.of λ q2 G2 g2 r2 f2=>?_⟩;exact⟨_,_,_,_,_,_,RR.pt_field hp nc,s4.trans r2,.tup (SqT.of f2) (.cons (.str _) (.cons (rt.same r2) (.cons (.str _) .nil))),rfl⟩
 ·obtain⟨y,u,t,v,o4,o5,hp,s4,rt,rfl⟩:=h;have hy:=hp.tx.len;have k1:("not ":V0).length=4:=by decide+kernel
  subst huz3;walk_at "r";refine ite2 (λ _=>⟨by omega,New.of λ q1 G1 g1 r1 f1=>New.of λ q2 G2 g2 r2 f2=>?_⟩) λ _=>?_
  ·exact q _ _ (("not "++y:V0),((("not":V0)::u,some (.mk .nt .non [t])),(Tm.mk .nt .non [t]).dat)) (s4.trans (r1.trans r2)) ⟨_,_,rfl,SqT.of f2,.tup (SqT.of (r2 _ _ f1)) (.cons (.str _) (.cons (rt.same (r1.trans r2)) .nil))⟩ ⟨_,rfl,rfl,RR.th_not hp hm⟩
  ·skip
   subst huz4;walk_at "r";refine New.of λ q1 G1 g1 r1 f1=>?_;exact q _ _ (y,((u,some t),t.dat)) (s4.trans r1) ⟨_,_,rfl,SqT.of f1,rt.same r1⟩ ⟨_,rfl,rfl,RR.th_pt hp hm⟩
open RR (El I3 ThE sgs byS twoD isM isP cmS foS paS mp)
structure TrS(K:y0)(H:Hp)(th sg:X0)(vs:List V)(d:PyData)(ds:List PyData)(ss:List V0):Prop where
 th:SqL K H th vs
 sg:SqL K H sg (ss.map V.str)
 rt:RTs K H vs (d::ds)
 len:ss.length=ds.length
 few:ds.length<=4
 ss:∀s∈ss,s∈sgs
inductive J6h(K:y0)(vs:List V)(H:Hp)(Q:VK):Prop
 |mk(th sg:X0)(xs:List V)(d:PyData)(ds:List PyData)(ss:List V0)(y:V0)(wh:V0->Bool)(a1:vs=[.ref th,.ref sg,.str y])(a2:TrS K H th sg xs d ds ss)(a3:(y="*/"/\wh=isM\/y="+-"/\wh=isP))(a4:∀(H':Hp)(r th' sg':X0)(xs':List V),Same H H'->SqT K H' r [.ref th',.ref sg']->TrS K H' th' sg' xs' (byS twoD wh d (ss.zip ds)).1 ((byS twoD wh d (ss.zip ds)).2.map (·.2)) ((byS twoD wh d (ss.zip ds)).2.map (·.1))->Q (.ref r) H'):J6h K vs H Q
def J6c(K:y0):Sp:=λ vs H Q _=>J6h K vs H Q
theorem occM:∀s∈sgs,(Builtin.Str.occurrences "*/" s 0 ("*/":V0).length 1).isEmpty=!isM s:=by decide+kernel
theorem occP:∀s∈sgs,(Builtin.Str.occurrences "+-" s 0 ("+-":V0).length 1).isEmpty=!isP s:=by decide+kernel
theorem Z3x{α:Type}{xs:List α}{v:α}:ixN (xs++[v]).length (-1)=some xs.length:=by
 unfold ixN;rw[qa5];simp;omega
theorem Z3l{α:Type}(xs:List α)(v w:α):(xs++[v]).set xs.length w=xs++[w]:=by simp
theorem Z8r{ss:List V0}{ds:List PyData}{i:Nat}{s:V0}{d:PyData}(h1:ss[i]?=some s)(h2:ds[i]?=some d):(ss.zip ds).drop i=(s,d)::(ss.zip ds).drop (i+1):=by
 have hz:(ss.zip ds)[i]?=some (s,d):=List.getElem?_zip_eq_some.mpr ⟨h1,h2⟩;obtain⟨hl,e⟩:=qb7.mp hz;rw[qg4 hl,e]
def K2(p q:X0)(H H':Hp):Prop:=∀b o,b≠p->b≠q->H b=some o->H' b=some o
theorem K2.kt{p q:X0}{H H':Hp}{xs ys:List V}(k:K2 p q H H')(h1:H p=some (.lst xs))(h2:H q=some (.lst ys)):Kt H H':=⟨λ b zs e=>k _ _ (λ z=>by rw[z,h1]at e;cases e) (λ z=>by rw[z,h2]at e;cases e) e,λ b o zs e=>k _ _ (λ z=>by rw[z,h1]at e;cases e) (λ z=>by rw[z,h2]at e;cases e) e⟩
theorem K2.new{p q t:X0}{H H':Hp}{o:HO}(k:K2 p q H H')(n:H' t=none):K2 p q H (upd H' t o):=λ b u n1 n2 e=>by rw[Z0h (Z0g (k b u n1 n2 e) n)];exact k b u n1 n2 e
theorem K2.p{p q:X0}{H H':Hp}{o:HO}(k:K2 p q H H'):K2 p q H (upd H' p o):=λ b u n1 n2 e=>by rw[Z0h n1];exact k b u n1 n2 e
theorem K2.q{p q:X0}{H H':Hp}{o:HO}(k:K2 p q H H'):K2 p q H (upd H' q o):=λ b u n1 n2 e=>by rw[Z0h n2];exact k b u n1 n2 e
theorem K2.refl{p q:X0}{H:Hp}:K2 p q H H:=λ _ _ _ _ e=>e
inductive ByI(K:y0)(H0:Hp)(p p1:X0)(wh:V0->Bool)(R:PyData×List (V0×PyData))(all:List (V0×PyData))(s0:St)(i:Nat)(σ:St)(H':Hp):Prop
 |mk(k:K2 p p1 H0 H')(vs:List V)(v:V)(di:List PyData)(dl:PyData)(lf:List V0)(h1:H' p=some (.lst (vs++[v])))(h2:H' p1=some (.lst (lf.map V.str)))(r1:RTs K H' vs di)(r2:RT K H' v dl)(ll:vs.length<=i)(l2:lf.length<=i)
  (e1:di++(byS twoD wh dl (all.drop i)).1::(byS twoD wh dl (all.drop i)).2.map (·.2)=R.1::R.2.map (·.2)) (e2:lf++(byS twoD wh dl (all.drop i)).2.map (·.1)=R.2.map (·.1)) (o5 o6:Option V) (es:σ=s0++[o5,o6]):ByI K H0 p p1 wh R all s0 i σ H'
theorem J8V(T:Txt P w K mg C_Guest Ct Cw Ch Cp C_BadForm D_STRENGTHS D_TRUTHS U_TOLD_WORDS):Has P w K mg base 1 "_law_by" ["_law_things","_law_signs","_law_which"] (J6c K):=by
 refine Has.of T.O1T O0E (λ _ _ _ _ _ _ us hl=>el3 us hl λ _ _ _=>rfl) (λ vs H Q E h=>?_) (λ f cdv A outer s H vs Q E hr h=>?_)
 ·obtain⟨th,sg,xs,d,ds,ss,y,wh,rfl,_⟩:=h;rfl
 obtain⟨th,sg,xs,d,ds,ss,y,wh,rfl,tr,hw,q⟩:=h;refine⟨_,(Z0a (Z7e (i:=3) (j:=4) rfl O0E.nd rfl rfl qS rfl rfl (qJ (Z0E (qI (qD K (pvF 0) Z0f))) (Z0E Z1F)) rfl) (Z0a (Z3I PassesOwn.never rfl (J0b rfl T.z_zip (qJ (pvF 1) (Z1Y (r:=rSlL K) Z4c (pvF 0) (Z2A Z0f) Z2W))) (Z1n (n:=2) rfl (Z0q (qH 5 O0E.nd) (Z0q (qH 6 O0E.nd) Z1m))) (Z0b (Z0s (Z1a Z6a (pvF 5) (pvF 2) (by with_unfolding_all rfl)) (Z0a (Z0t (Z3M qd6 qe0 qe1 Z0X (pvF 4) (qI (pvF 5)))) (Z0b (Z0t (Z3M qd6 qe0 qe1 Z0X (pvF 3) (qI (pvF 6)))))) (Z0b (Z2e (Z0l (Z0o Z0c (qK (pvF 5) (qD K (pvF 3) qN) (pvF 6)))) (Z8b (pvF 3) qN Z3m)))))) (Z0b (Z0k (Z0l (qJ (pvF 3) (pvF 4))))))),?_⟩;refine seq3 λ uz2 huz2 uz1 huz1=>?_;walk_at "r";obtain⟨v0,vs0,rfl,hv0,hvs⟩:=tr.rt.inv;refine⟨_,tr.th,v0,ix0,New.of λ p H1 h1 s1 e1=>New.of λ p1 H2 h2 s2 e2=>?_⟩;have n12:p≠p1:=λ z=>by rw[<-z,e1]at h2;cases h2
 have ep:H2 p=some (.lst [v0]):=s2 _ _ e1;have s12:=s1.trans s2;subst huz1;walk_at "r";refine⟨_,SqL.same tr.th s12,New.of λ p2 H3 h3 s3 e3=>?_⟩;rw[cut1]at e3;have sgl:((ss.map V.str)).length=vs0.length:=by rw[qa3,tr.len,hvs.length]
 have zl:(ss.zip ds).length=ss.length:=by rw[qi4,tr.len,Nat.min_self]
 refine⟨⟨_,SqL.same tr.sg (s12.trans s3)⟩,⟨_,SqL.of e3⟩,?_⟩;have q0:H3 p=some (.lst [v0]):=s3 _ _ ep;have q1:H3 p1=some (.lst []):=s3 _ _ e2;have q2:p2≠p/\p2≠p1:=⟨λ z=>(by rw[z,ep]at h3;cases h3),λ z=>(by rw[z,e2]at h3;cases h3)⟩;have k0:Same H H3:=s12.trans s3;have hH:∀{H':Hp},K2 p p1 H3 H'->Same H H':=λ k b o e=>k b o (λ z=>by rw[z,h1]at e;cases e) (λ z=>by
  have:=s1 b o e;rw[z,h2]at this;cases this) (k0 b o e)
 refine Z5P (ss.map V.str) vs0 sgl (ByI K H3 p p1 wh (byS twoD wh d (ss.zip ds)) (ss.zip ds) [some (V.ref th),some (V.ref sg),some (V.str y),some (V.ref p),some (V.ref p1)]) ⟨K2.refl,[],v0,[],d,[],q0,q1,.nil,hv0.same k0,qa0 _,qa0 _,rfl,rfl,none,none,rfl⟩ (λ i σ H4 hi h=>?_) (λ i x y' t σ H4 hx hy ht h=>?_) λ σ H4 h=>?_
 ·obtain⟨k,vs,v,di,dl,lf,f1,f2,r1,r2,l1,l2,g1,g2,o5,o6,rfl⟩:=h;exact⟨SqL.same tr.sg (hH k),SqL.of (k _ _ q2.1 q2.2 e3)⟩
 ·obtain⟨k,vs,v,di,dl,lf,f1,f2,r1,r2,l1,l2,g1,g2,o5,o6,rfl⟩:=h;walk_at "r";obtain⟨s',hs',rfl⟩:∃s',ss[i]?=some s'/\x=.str s':=by
   rw[qc0]at hx;cases hz:ss[i]? with
   |none=>rw[hz]at hx;cases hx
   |some s'=>rw[hz]at hx;cases hx;exact⟨s',rfl,rfl⟩
  obtain⟨dy,hdy,ry⟩:=hvs.at hy;have hsg:=tr.ss s' (qe2 hs');have hoc:(Builtin.Str.occurrences y s' 0 y.length 1).isEmpty=!wh s':=by
   rcases hw with⟨rfl,rfl⟩|⟨rfl,rfl⟩
   ·exact occM s' hsg
   ·exact occP s' hsg
  have dz:=Z8r hs' hdy;rw[dz,byS]at g1 g2;have st:Same H4 (upd H4 t (.tup [.str s',y'])):=Z0x ht _;have et:upd H4 t (.tup [.str s',y']) t=some (.tup [.str s',y']):=Z0e;have k4:K2 p p1 H3 (upd H4 t (.tup [.str s',y'])):=k.new ht;generalize upd H4 t (.tup [.str s',y'])=H5 at*;have f1':=st _ _ f1;have f2':=st _ _ f2;have ry5:RT K H5 y' dy:=ry.same ((hH k).trans st);have il:i<ss.length:=(qb7.mp hs').1;have i4:i<4:=by have:=tr.len;have:=tr.few;omega
  refine⟨_,SqT.of et,rfl,⟨_,_,rfl,⟨_,_,rfl,rfl,s',rfl,?_⟩⟩⟩;rw[hoc,Bool.not_not];refine ite2 (λ e=>?_) λ e=>?_
  ·rw[if_neg (by rw[e];decide)]at g1 g2;have ne:p≠p1:=n12;refine⟨.inl ⟨rfl,_,SqL.of f2'⟩,_,f2',by rw[qa3];omega,.inl ⟨rfl,_,SqL.of (by rw[Z0h ne];exact f1')⟩,_,by rw[Z0h ne];exact f1',by rw[qa5];simp only[qa4,qd2];omega,?_⟩;have k5:K2 p p1 H3 (upd (upd H5 p1 (.lst (lf.map V.str++[.str s']))) p (.lst (vs++[v]++[y']))):=k4.q.p;have kt:Kt H5 (upd (upd H5 p1 (.lst (lf.map V.str++[.str s']))) p (.lst (vs++[v]++[y']))):=K2.kt (K2.refl.q.p) f1' f2';refine⟨k5,vs++[v],y',di++[dl],dy,lf++[s'],Z0e,by rw[Z0h ne.symm,Z0e,qe8];rfl,?_,ry5.kt kt,by simp only[qa5,qa4,qd2];omega,by simp only[qa5,qa4,qd2];omega,?_,?_,_,_,rfl⟩
   ·exact((r1.same st).app (.cons (r2.same st) .nil)).kt kt
   ·rw[qb9];exact g1
   ·rw[qb9];exact g2
  ·have e:wh s'=true:=by simpa using e
   rw[if_pos e]at g1 g2;refine⟨_,SqL.of f1',v,Z3Q _ _,New.of λ t2 H6 h6 s6 e6=>⟨_,s6 _ _ f1',_,Z3x,?_⟩⟩;rw[Z3l];have k5:K2 p p1 H3 (upd H6 p (.lst (vs++[.ref t2]))):=λ b o n1 n2 z=>by rw[Z0h n1];exact s6 _ _ (k4 b o n1 n2 z)
   have kt:Kt H6 (upd H6 p (.lst (vs++[.ref t2]))):=K2.kt (q:=p1) (K2.refl.p) (s6 _ _ f1') (s6 _ _ f2');refine⟨k5,vs,.ref t2,di,twoD s' dl dy,lf,Z0e,by rw[Z0h n12.symm];exact s6 _ _ f2',((r1.same st).same s6).kt kt,?_,by omega,by omega,g1,g2,_,_,rfl⟩;refine RT.kt kt (.tup (SqT.of e6) (.cons (.str _) (.cons (.str _) (.cons ((r2.same st).same s6) (.cons (ry5.same s6) .nil)))))
 ·obtain⟨k,vs,v,di,dl,lf,f1,f2,r1,r2,l1,l2,g1,g2,o5,o6,rfl⟩:=h;subst huz2;walk_at "r";refine New.of λ r H5 h5 s5 e5=>?_;have z0:(ss.zip ds).drop (ss.map V.str).length=[]:=by rw[qa3];exact qg5 (by omega)
  rw[z0]at g1 g2;have g1:di++[dl]=(byS twoD wh d (ss.zip ds)).1::(byS twoD wh d (ss.zip ds)).2.map (·.2):=g1;have g2:lf++[]=(byS twoD wh d (ss.zip ds)).2.map (·.1):=g2;rw[qb6]at g2;have lb:=RR.by_len (two:=twoD) wh (ss.zip ds) d;refine q H5 r p p1 (vs++[v]) ((hH k).trans s5) (SqT.of e5) ⟨SqL.of (s5 _ _ f1),?_,?_,?_,?_,?_⟩
  ·rw[<-g2];exact SqL.of (s5 _ _ f2)
  ·rw[<-g1];exact(r1.app (.cons r2 .nil)).same s5
  ·rw[qa3,qa3]
  ·rw[qa3];have:=tr.few;have:=tr.len;omega
  ·intro s' hs';obtain⟨p',hp',rfl⟩:=qd0.mp hs';exact(RR.by_left (two:=twoD) (wh:=wh) (p:=λ s=>s∈sgs) (ss.zip ds) d (λ q hq=>tr.ss _ (qe5 hq).1) p' hp').1
inductive Z6Q(K:y0)(vs:List V)(H:Hp)(Q:VK):Prop
 |mk(th sg:X0)(xs:List V)(d:PyData)(ds:List PyData)(ss:List V0)(a1:vs=[.ref th,.ref sg])(a2:TrS K H th sg xs d ds ss)(a3:(∀H',Same H H'->paS twoD d (ss.zip ds)=none->Q .non H'))(a4:∀(H':Hp)(a:X0)(xs':List V)(g:PyData)(r:List PyData),Same H H'->paS twoD d (ss.zip ds)=some (g,r)->H a=none->H' a=some (.lst xs')->RTs K H' xs' (g::r)->r.length<=4->Q (.ref a) H'):Z6Q K vs H Q
def Z4j(K:y0):Sp:=λ vs H Q _=>Z6Q K vs H Q
inductive PaI(K:y0)(H0:Hp)(p:X0)(R:Option (PyData×List PyData))(all:List (V0×PyData))(s0:St)(i:Nat)(σ:St)(H':Hp):Prop
 |mk(k:K2 p p H0 H')(vs:List V)(v:V)(di:List PyData)(dl:PyData)(met:Bool)(h1:H' p=some (.lst (vs++[v])))(r1:RTs K H' vs di)(r2:RT K H' v dl)(ll:vs.length<=i)
  (e1:((cmS twoD met dl (all.drop i)).bind λ r=>some (di++r.1::r.2))=R.bind λ r=>some (r.1::r.2)) (o5 o6:Option V) (es:σ=s0++[some (.bl met),o5,o6]):PaI K H0 p R all s0 i σ H'
theorem Z5F:∀(ps:List (V0×PyData)),(ps.map (·.1)).zip (ps.map (·.2))=ps
 |[]=>rfl
 |(a,b)::r=>by show(a,b)::(r.map (·.1)).zip (r.map (·.2))=_;rw[Z5F r]
theorem J1y(T:Txt P w K mg C_Guest Ct Cw Ch Cp C_BadForm D_STRENGTHS D_TRUTHS U_TOLD_WORDS)(O1s:Has P w K mg base 1 "_law_by" ["_law_things","_law_signs","_law_which"] (J6c K)):Has P w K mg base 2 "_law_parted" ["_law_things","_law_signs"] (Z4j K):=by
 refine Has.of T.O1k O0b (λ _ _ _ _ _ _ us hl=>el2 us hl λ _ _=>rfl) (λ vs H Q E h=>?_) (λ f cdv A outer s H vs Q E hr h=>?_)
 ·obtain⟨th,sg,xs,d,ds,ss,rfl,_⟩:=h;rfl
 obtain⟨th,sg,xs,d,ds,ss,rfl,tr,q0,q1⟩:=h;refine⟨_,(Z0a (Z2e (qF O1s hr (qK (pvF 0) (pvF 1) Z0c)) (Z1n (n:=2) rfl (Z0q (qH 0 O0b.nd) (Z0q (qH 1 O0b.nd) Z1m)))) (Z0a (Z2e (qF O1s hr (qK (pvF 0) (pvF 1) Z0c)) (Z1n (n:=2) rfl (Z0q (qH 0 O0b.nd) (Z0q (qH 1 O0b.nd) Z1m)))) (Z0a (qG 2 O0b.nd (Z0E (qI (qD K (pvF 0) Z0f)))) (Z0a (qG 3 O0b.nd Z7J) (Z0a (Z3I PassesOwn.never rfl (J0b rfl T.z_zip (qJ (pvF 1) (Z1Y (r:=rSlL K) Z4c (pvF 0) (Z2A Z0f) Z2W))) (Z1n (n:=2) rfl (Z0q (qH 4 O0b.nd) (Z0q (qH 5 O0b.nd) Z1m))) (Z0b (Z0s (qM Z1t (pvF 4) Z0c) (Z0a (Z0t (Z3M qd6 qe0 qe1 Z0X (pvF 2) (qI (pvF 5)))) (Z0b (qG 3 O0b.nd Z7J))) (Z0b (Z0s (Z0Q (pvF 3)) (Z0b (Z0k Z0v)) (Z0a (Z2e (Z0l (Z0o Z0c (qK (pvF 4) (qD K (pvF 2) qN) (pvF 5)))) (Z8b (pvF 2) qN Z3m)) (Z0b (qG 3 O0b.nd Z7J)))))))) (Z0b (Z0k (pvF 2)))))))),?_⟩;refine seq6 λ uz5 huz5 uz4 huz4 uz3 huz3 uz2 huz2 uz1 huz1=>?_;walk_at "r";refine⟨th,sg,xs,d,ds,ss,"*/",isM,rfl,tr,.inl ⟨rfl,rfl⟩,λ H1 r1 th1 sg1 xs1 s1 t1 tr1=>?_⟩;refine⟨_,rfl,⟨_,t1,rfl,⟨_,_,rfl,⟨_,_,rfl,rfl,?_⟩⟩⟩⟩;subst huz1;walk_at "r";refine⟨th1,sg1,xs1,_,_,_,"+-",isP,rfl,tr1,.inr ⟨rfl,rfl⟩,λ H2 r2 th2 sg2 xs2 s2 t2 tr2=>?_⟩;rw[Z5F]at tr2;refine⟨_,rfl,⟨_,t2,rfl,⟨_,_,rfl,⟨_,_,rfl,rfl,?_⟩⟩⟩⟩;have eR:paS twoD d (ss.zip ds)=cmS twoD false (byS twoD isP (byS twoD isM d (ss.zip ds)).1 (byS twoD isM d (ss.zip ds)).2).1 (byS twoD isP (byS twoD isM d (ss.zip ds)).1 (byS twoD isM d (ss.zip ds)).2).2:=rfl;generalize byS twoD isP (byS twoD isM d (ss.zip ds)).1 (byS twoD isM d (ss.zip ds)).2=B at*;obtain⟨d2,p2⟩:=B;subst huz2;walk_at "r";obtain⟨v0,vs0,rfl,hv0,hvs⟩:=tr2.rt.inv;refine⟨_,tr2.th,v0,ix0,New.of λ p H3 h3 s3 e3=>?_⟩;subst huz3;walk_at "r";subst huz4;walk_at "r";refine⟨_,SqL.same tr2.th s3,New.of λ pz H4 h4 s4 e4=>?_⟩;rw[cut1]at e4;have S4:Same H H4:=s1.trans (s2.trans (s3.trans s4));have sgl:((p2.map (·.1)).map V.str).length=vs0.length:=by rw[qa3,hvs.length,qa3,qa3]
 refine⟨⟨_,SqL.same tr2.sg (s3.trans s4)⟩,⟨_,SqL.of e4⟩,?_⟩;have q4:H4 p=some (.lst [v0]):=s4 _ _ e3;have np:pz≠p:=λ z=>by rw[z,e3]at h4;cases h4
 have hp0:H p=none:=by
  cases hz:H p with
  |none=>rfl
  |some o=>have:=s2 _ _ (s1 _ _ hz);rw[h3]at this;cases this
 have hH:∀{H':Hp},K2 p p H4 H'->Same H H':=λ k b o e=>k b o (λ z=>by rw[z,hp0]at e;cases e) (λ z=>by rw[z,hp0]at e;cases e) (S4 b o e);have hH2:∀{H':Hp},K2 p p H4 H'->Same H2 H':=λ k b o e=>k b o (λ z=>by rw[z,h3]at e;cases e) (λ z=>by rw[z,h3]at e;cases e) (s4 _ _ (s3 b o e));refine Z5P ((p2.map (·.1)).map V.str) vs0 sgl (PaI K H4 p (paS twoD d (ss.zip ds)) p2 [some (V.ref th2),some (V.ref sg2),some (V.ref p)]) ⟨K2.refl,[],v0,[],d2,false,q4,.nil,hv0.same (s3.trans s4),qa0 _,by rw[eR];rfl,none,none,rfl⟩ (λ i σ H5 hi h=>?_) (λ i x y' t σ H5 hx hy ht h=>?_) λ σ H5 h=>?_
 ·obtain⟨k,vs,v,di,dl,met,f1,r1,r2,l1,g1,o5,o6,rfl⟩:=h;exact⟨SqL.same tr2.sg (hH2 k),SqL.of (k _ _ np np e4)⟩
 ·obtain⟨k,vs,v,di,dl,met,f1,r1,r2,l1,g1,o5,o6,rfl⟩:=h;walk_at "r";obtain⟨s',hs',rfl⟩:∃s',(p2.map (·.1))[i]?=some s'/\x=.str s':=by
   rw[qc0]at hx;cases hz:(p2.map (·.1))[i]? with
   |none=>rw[hz]at hx;cases hx
   |some s'=>rw[hz]at hx;cases hx;exact⟨s',rfl,rfl⟩
  obtain⟨dy,hdy,ry⟩:=hvs.at hy;have dz:=Z8r hs' hdy;rw[Z5F]at dz;rw[dz,cmS]at g1;have st:Same H5 (upd H5 t (.tup [.str s',y'])):=Z0x ht _;have et:upd H5 t (.tup [.str s',y']) t=some (.tup [.str s',y']):=Z0e;have k4:K2 p p H4 (upd H5 t (.tup [.str s',y'])):=k.new ht;generalize upd H5 t (.tup [.str s',y'])=H6 at*;have f1':=st _ _ f1;have ry5:RT K H6 y' dy:=ry.same ((hH2 k).trans st);have il:i<p2.length:=by have:=(qb7.mp hs').1;simpa using this
  have i4:i<4:=by
   have z:p2.length<=4:=by have:=tr2.few;rw[qa3]at this;exact this
   omega
  refine⟨_,SqT.of et,rfl,⟨_,_,rfl,⟨_,_,rfl,rfl,rfl,ite2 (λ e=>?_) λ e=>?_⟩⟩⟩
  ·have e:s'=";":=by injection e
   rw[if_pos e]at g1;refine⟨.inl ⟨rfl,_,SqL.of f1'⟩,_,f1',by rw[qa5];simp only[qa4,qd2];omega,?_⟩;have kt:Kt H6 (upd H6 p (.lst (vs++[v]++[y']))):=K2.kt (K2.refl.p) f1' f1';refine⟨k4.p,vs++[v],y',di++[dl],dy,false,Z0e,((r1.same st).app (.cons (r2.same st) .nil)).kt kt,ry5.kt kt,by simp only[qa5,qa4,qd2];omega,?_,_,_,rfl⟩;rw[<-g1];cases cmS twoD false dy (p2.drop (i+1))with
   |none=>rfl
   |some r=>show some (di++[dl]++r.1::r.2)=some (di++dl::(r.1::r.2));rw[qb9];rfl
  ·have e:s'≠";":=λ z=>e (by rw[z]);rw[if_neg e]at g1;refine ite2 (λ em=>?_) λ em=>?_
   ·rw[if_pos em]at g1;refine q0 _ (hH k4) ?_;cases hz:paS twoD d (ss.zip ds)with
    |none=>rfl
    |some r=>rw[hz]at g1;cases g1
   ·rw[if_neg em]at g1;refine⟨_,SqL.of f1',v,Z3Q _ _,New.of λ t2 H7 h7 s7 e7=>⟨_,s7 _ _ f1',_,Z3x,?_⟩⟩;rw[Z3l];have k5:K2 p p H4 (upd H7 p (.lst (vs++[.ref t2]))):=λ b o n1 n2 z=>by rw[Z0h n1];exact s7 _ _ (k4 b o n1 n2 z)
    have kt:Kt H7 (upd H7 p (.lst (vs++[.ref t2]))):=K2.kt (q:=p) (K2.refl.p) (s7 _ _ f1') (s7 _ _ f1');refine⟨k5,vs,.ref t2,di,twoD s' dl dy,true,Z0e,((r1.same st).same s7).kt kt,?_,by omega,g1,_,_,rfl⟩;exact RT.kt kt (.tup (SqT.of e7) (.cons (.str _) (.cons (.str _) (.cons ((r2.same st).same s7) (.cons (ry5.same s7) .nil)))))
 ·obtain⟨k,vs,v,di,dl,met,f1,r1,r2,l1,g1,o5,o6,rfl⟩:=h;subst huz5;walk_at "r";have z0:p2.drop ((p2.map (·.1)).map V.str).length=[]:=by rw[qa3,qa3];exact qg5 (qa0 _)
  rw[z0]at g1;have g1:some (di++[dl])=(paS twoD d (ss.zip ds)).bind λ r=>some (r.1::r.2):=g1;cases hz:paS twoD d (ss.zip ds)with
  |none=>rw[hz]at g1;cases g1
  |some r=>
   rw[hz]at g1;injection g1 with g1
   have lr:r.2.length<=4:=by
    have e1:=congrArg qf2 g1;have e2:=(r1.app (.cons r2 .nil)).length;have e3:(p2.map (·.2)).length<=4:=tr2.few;have l1:vs.length<=((p2.map (·.1)).map V.str).length:=l1;simp only[qa5,qa4,qd2,qa3]at e1 e2 e3 l1;omega
   exact q1 _ p _ r.1 r.2 (hH k) hz hp0 f1 (g1▸(r1.app (.cons r2 .nil))) lr
def Z4b(K:y0):Sp:=λ vs H Q _=>(vs=[.non]/\Q .non H)\/∃(a:X0)(xs:List V)(g:PyData)(r:List PyData),vs=[.ref a]/\SqL K H a xs/\RTs K H xs (g::r)/\∀(H':Hp)(v:V),Same H H'->RT K H' v (foS twoD g r)->Q v H'
theorem J6b(st:List V)(x:V):cutV (st++[x]) none (some (-1))=st:=by
 unfold cutV;have e:HT.sIx (st++[x]).length (st++[x]).length (some (-1))=st.length:=by
  show(if(-1:Int)<0 then((-1:Int)+((st++[x]).length:Int)).toNat else min (-1:Int).toNat (st++[x]).length)=_;rw[if_pos qS,qa5];show((-1:Int)+((st.length+1:Nat):Int)).toNat=_;omega
 rw[HT.sIx_none,e,List.drop_zero,Nat.sub_zero,List.take_left'];rfl
def foL:List PyData->PyData->PyData
 |[],x=>x
 |y::r,x=>twoD ";" y (foL r x)
theorem J3O:∀(r:List PyData)(g x:PyData),foS twoD g (r++[x])=twoD ";" g (foL r x)
 |[],g,x=>rfl
 |y::r,g,x=>by show twoD ";" g (foS twoD y (r++[x]))=_;rw[J3O r y x];rfl
theorem J6I{l:List PyData}{x g:PyData}{r:List PyData}(h:l++[x]=g::r):foL l x=foS twoD g r:=by
 cases l with
 |nil=>cases h;rfl
 |cons y l=>
  injection h with h1 h2
  have h2:l++[x]=r:=h2;rw[<-h1,<-h2,J3O];rfl
def FoI(K:y0)(H:Hp)(di:List PyData)(dl:PyData)(s0:Option V)(i:Nat)(σ:St)(H':Hp):Prop:=Same H H'/\∃v o,RT K H' v (foL (di.drop (di.length-i)) dl)/\σ=[s0,some v,o]
theorem Z9S(T:Txt P w K mg C_Guest Ct Cw Ch Cp C_BadForm D_STRENGTHS D_TRUTHS U_TOLD_WORDS):Has P w K mg base 1 "_law_folded" ["_law_trees"] (Z4b K):=by
 refine Has.of T.O1l O0o (λ _ _ _ _ _ _ us hl=>el1 us hl λ _=>rfl) (λ vs H Q E h=>?_) (λ f cdv A outer s H vs Q E hr h=>?_)
 ·rcases h with⟨rfl,_⟩|⟨a,xs,g,r,rfl,_⟩<;>rfl
 refine⟨_,(Z0a (Z0s (qM Z3j (pvF 0) Z0v) (Z0b (Z0k Z0v)) Z0m) (Z0a (qG 1 O0o.nd (qD K (pvF 0) qN)) (Z0a (Z3I PassesOwn.never rfl (J6n rfl T.O1D Z7y (qI (Z1Y (r:=rSlL K) Z4c (pvF 0) Z2W (Z2A qN)))) (qH 2 O0o.nd) (Z0b (qG 1 O0o.nd (Z0l (Z0o Z0c (qK Z0c (pvF 2) (pvF 1))))))) (Z0b (Z0k (pvF 1)))))),?_⟩;rcases h with⟨rfl,q⟩|⟨a,xs,g,r,rfl,hq,rt,q⟩
 ·walk_at "r";exact q
 refine seq4 λ uz3 huz3 uz2 huz2 uz1 huz1=>?_;walk_at "r";obtain⟨vi,v,rfl⟩:∃vi v,xs=vi++[v]:=⟨xs.dropLast,xs.getLast (by intro z;rw[z]at rt;cases rt),(qj5 _).symm⟩;obtain⟨di,dl,hdl,r1,r2⟩:∃di dl,di++[dl]=g::r/\RTs K H vi di/\RT K H v dl:=by
  have go:∀(vi:List V)(es:List PyData),RTs K H (vi++[v]) es->∃di dl,di++[dl]=es/\RTs K H vi di/\RT K H v dl:=by
   intro vi;induction vi with
   |nil=>intro es h;cases h with|cons h1 h2=>cases h2;exact⟨[],_,rfl,.nil,h1⟩
   |cons y r ih=>
    intro es h;cases h with
    |cons h1 h2=>
     obtain⟨di,dl,rfl,a,b⟩:=ih _ h2;exact⟨_::di,dl,rfl,.cons h1 a,b⟩
  exact go vi _ rt
 subst huz1;walk_at "r";refine⟨_,hq,v,Z3Q _ _,?_⟩;subst huz2;walk_at "r";refine⟨_,hq,New.of λ p H1 h1 s1 e1=>?_⟩;rw[J6b]at e1;have lv:=r1.length;refine⟨_,SqL.of e1,J2o vi (FoI K H1 di dl (some (V.ref a))) ⟨Same.refl _,v,none,?_,rfl⟩ (λ i σ H2 hi h=>SqL.of (h.1 _ _ e1)) (λ i x σ H2 hx h=>?_) λ σ H2 h=>?_⟩
 ·have z:di.drop (di.length-0)=[]:=qg5 (by omega);rw[z];exact r2.same s1
 ·obtain⟨s2,u,o,ru,rfl⟩:=h;walk_at "r";have il:i<vi.length:=by
   have:=(qb7.mp hx).1;rw[List.length_reverse]at this;exact this
  rw[List.getElem?_reverse il]at hx;obtain⟨dx,hdx,rx⟩:=r1.at hx;refine New.of λ t H3 h3 s3 e3=>⟨s2.trans s3,_,_,?_,rfl⟩;have ix:di.length-(i+1)=vi.length-1-i:=by omega
  obtain⟨hl,e⟩:=qb7.mp hdx;have dr:di.drop (di.length-(i+1))=dx::di.drop (di.length-i):=by
   rw[ix,qg4 hl,e];congr 2;omega
  rw[dr];exact .tup (SqT.of e3) (.cons (.str _) (.cons (.str _) (.cons (rx.same (s1.trans (s2.trans s3))) (.cons (ru.same s3) .nil))))
 ·obtain⟨s2,u,o,ru,rfl⟩:=h;subst huz3;walk_at "r";refine q _ _ (s1.trans s2) ?_;have z:di.drop (di.length-vi.length)=di:=by rw[lv,Nat.sub_self];rfl
  rw[z,J6I hdl]at ru;exact ru
open RR (El I3 ThE sgs byS twoD txF mp)
inductive ThVs(K:y0)(H:Hp):List V->List El->Prop
 |nil:ThVs K H [] []
 |cons{v:V}{vs:List V}{e:El}{es:List El}:ThV K H v e.1 e.2.2->ThVs K H vs es->ThVs K H (v::vs) (e::es)
theorem ThV.kt{K:y0}{H H':Hp}{v:V}{x:V0}{d:PyData}(h:ThV K H v x d)(k:Kt H H'):ThV K H' v x d:=by
 obtain⟨a,u,rfl,b,c⟩:=h;exact⟨a,u,rfl,SqT.kt b k,c.kt k⟩
theorem ThVs.kt{K:y0}{H H':Hp}{vs:List V}{es:List El}(h:ThVs K H vs es)(k:Kt H H'):ThVs K H' vs es:=by
 induction h with
 |nil=>exact .nil
 |cons a _ ih=>exact .cons (a.kt k) ih
theorem ThVs.same{K:y0}{H H':Hp}{vs:List V}{es:List El}(h:ThVs K H vs es)(s:Same H H'):ThVs K H' vs es:=h.kt (Kp.of s).kt
theorem ThVs.length{K:y0}{H:Hp}{vs:List V}{es:List El}(h:ThVs K H vs es):vs.length=es.length:=by
 induction h with
 |nil=>rfl
 |cons _ _ ih=>rw[qa4,qa4,ih]
theorem ThVs.at{K:y0}{H:Hp}{vs:List V}{es:List El}(h:ThVs K H vs es):∀{i:Nat}{v:V},vs[i]?=some v->∃e,es[i]?=some e/\ThV K H v e.1 e.2.2:=by
 induction h with
 |nil=>intro i v e;cases e
 |cons a b ih=>
  intro i v e;cases i with
  |zero=>cases e;exact⟨_,rfl,a⟩
  |succ i=>exact ih e
theorem Z5t{H H':Hp}(s:Z4p H H'):Kt H H':=⟨λ b xs e=>s _ _ (λ _ z=>by cases z) e,λ b o xs e=>s _ _ (λ _ z=>by cases z) e⟩
def okM(menu:V0):Prop:=menu∈([";<=+-*/","<=+-*/;","<=+-*/",";<=+-*/+*"]:List V0)
def isMS(menu s:V0):Prop:=∃c∈menu.cps.toList,s=⟨#[c]⟩
theorem J5p:∀menu∈([";<=+-*/","<=+-*/;","<=+-*/",";<=+-*/+*"]:List V0),menu.cps.toList≠[]/\menu.length<=9/\∀c∈menu.cps.toList,(⟨#[c]⟩:V0)∈sgs:=by decide+kernel
theorem J0H:∀c∈("<=+-*/":V0).cps.toList,(⟨#[c]⟩:V0)≠";":=by decide+kernel
inductive J3H(K:y0)(vs:List V)(H:Hp)(Q:VK):Prop
 |mk(cl:X0)(ns:List Nat)(menu:V0)(a1:vs=[.ref cl,.str menu])(a2:SqL K H cl (ns.map λ n:Nat=>V.int (n:Int)))(a3:1<=ns.length)(a4:ns.length<=4)(a5:okM menu)(a6:∀(H':Hp)(r th sg:X0)(xs:List V)(es:List El)(ss:List V0),Same H H'->SqT K H' r [.ref th,.ref sg]->H th=none->H' th=some (.lst xs)->H' sg=some (.lst (ss.map V.str))->th≠sg->ThVs K H' xs es->(∀e∈es,ThE e)->es.length=ns.length->ss.length+1=es.length->(∀s∈ss,isMS menu s/\s∈sgs)->Q (.ref r) H'):J3H K vs H Q
def J0W(K:y0):Sp:=λ vs H Q _=>J3H K vs H Q
theorem J7p(T:Txt P w K mg C_Guest Ct Cw Ch Cp C_BadForm D_STRENGTHS D_TRUTHS U_TOLD_WORDS)(O1t:Has P w K mg base 1 "_law_thing" ["_law_cell"] (Z7W K)):Has P w K mg base 2 "_law_row" ["_law_cells","_law_menu"] (J0W K):=by
  refine Has.of T.O1K O0H (λ _ _ _ _ _ _ us hl=>el2 us hl λ _ _=>rfl) (λ vs H Q E h=>?_) (λ f cdv A outer s H vs Q E hr h=>?_)
  · obtain⟨cl,ns,menu,rfl,_⟩:=h;rfl
  obtain⟨cl,ns,menu,rfl,hcl,n1,n4,hm,q⟩:=h;refine⟨_,(Z0a (Z2q rfl O0H.nd (i:=2) rfl rfl (BlockOk.plain (N:=["_law_cell"]) rfl qP qP qP) (Z1H (pvF 0)) (λ C fp s H=>(qH 0 (show(["_law_cell"]:List V0).Nodup by decide+kernel))) (λ C fp s H=>(qF O1t hr (qI (Z0n Z2u (pvF 0) Z0f))))) (Z0a (Z2q rfl O0H.nd (i:=3) rfl rfl (BlockOk.of (N:=["_law_cell","_law_menu"]) (nl:=[none,some 1]) (cl:=[("_law_menu",s.heap.objs.size+1)]) rfl qP qP rfl (sub1 rfl) (nm:=["_law_menu"]) rfl qP rfl (λ i hi j hj=>by
            match i,hi with
            | 0,_=>cases hj
             |1,_=>cases hj;exact⟨_,rfl,rfl,rfl,.inl rfl⟩
            )) (Z1H (Z1Y (r:=rSlL K) Z4c (pvF 0) (Z2A Z0f) Z2W)) (λ C fp s H=>(qH 0 (show(["_law_cell","_law_menu"]:List V0).Nodup by decide+kernel))) (λ C fp s H=>(Z2Y Z2F (pvF 1) (Z0n Z1u (pvF 0) (Z0P Z0W rfl T.z_len J3I (qI (pvF 1)))) (λ _ _=>rfl)))) (Z0b (Z0k (Z0l (qJ (pvF 2) (pvF 3))))))),?_⟩
  refine seq3 λ uz2 huz2 uz1 huz1=>?_;walk_at "r";refine⟨⟨_,hcl⟩,λ th h1=>Z1v none _ (λ j v H'=>∃e:El,ThV K H' v e.1 e.2.2/\ThE e) (λ j v H1 H2 ⟨e,a,b⟩ s=>⟨e,a.kt (Z5t s),b⟩) rfl h1 (by rw[qa3,sizeLine_eq];omega) (λ H1 s1=>SqL.same hcl s1) (λ i y hy H1 K' s1 k=>?_) λ xs H1 s1 e1 lx hx=>?_⟩
  · walk_at "r";rw[qc0]at hy;cases hn:ns[i]? with
    |none=>rw[hn]at hy;cases hy
    |some n=>
      rw[hn]at hy;cases hy;exact⟨n,rfl,n/7,rfl,λ H' r e s2 t1 t2=>k _ _ s2 ⟨e,t1,t2⟩⟩
  · obtain⟨es,ht,he⟩:∃es,ThVs K H1 xs es/\∀e∈es,ThE e:=by
      clear e1 lx;induction xs with
      |nil=>exact⟨[],.nil,λ e he=>(qa9 he).elim⟩
      |cons v vs ih=>
        obtain⟨es,a,b⟩:=ih λ j v hv=>hx (j+1) v hv;obtain⟨e,c,d⟩:=hx 0 v rfl;exact⟨e::es,.cons c a,λ x hx=>(qa2.mp hx).elim (λ z=>z▸d) (b x)⟩
    obtain⟨m1,m2,m3⟩:=J5p menu hm;obtain⟨n0,nr,rfl⟩:∃n0 nr,ns=n0::nr:=by
      cases ns with
      |nil=>simp at n1
      |cons a b=>exact⟨a,b,rfl⟩
    subst huz1;walk_at "r";refine⟨_,SqL.same hcl s1,New.of λ p H2 h2 s2 e2=>⟨⟨_,SqL.of e2⟩,λ sg h3=>?_⟩⟩;rw[qc4,cut1]at e2;refine Z1v none _ (λ j v H'=>∃c∈menu.cps.toList,v=V.str ⟨#[c]⟩) (λ j v H1 H2 a _=>a) rfl h3 (by rw[qa3,sizeLine_eq];simp only[qa4]at n4;omega) (λ H3 s3=>SqL.of (s3 _ _ e2)) (λ i y hy H3 K' s3 k=>?_) λ ys H3 s3 e3 ly hy=>?_
    · rw[qc0]at hy;cases hn:nr[i]? with
      |none=>rw[hn]at hy;cases hy
      |some n=>
        rw[hn]at hy;cases hy;walk_at "r";have lp:menu.cps.toList.length=menu.length:=K10.cds_len menu;have l0:=qe9.mpr m1;obtain⟨c,hc,ec⟩:=Z6i m1 n (m:=(menu.length:Int)) (by rw[lp]);exact⟨menu,rfl,by omega,by omega,menu,rfl,by omega,c,ec,k _ _ (Same.refl _) ⟨c,hc,rfl⟩⟩
    · obtain⟨ss,rfl,hs⟩:∃ss:List V0,ys=ss.map V.str/\∀s∈ss,isMS menu s/\s∈sgs:=by
        clear e3 ly;induction ys with
        |nil=>exact⟨[],rfl,λ s hs=>(qa9 hs).elim⟩
        |cons v vs ih=>
          obtain⟨ss,a,b⟩:=ih λ j v hv=>hy (j+1) v hv;obtain⟨c,hc,rfl⟩:=hy 0 v rfl;exact⟨⟨#[c]⟩::ss,by rw[a];rfl,λ x hx=>(qa2.mp hx).elim (λ z=>z▸⟨⟨c,hc,rfl⟩,m3 c hc⟩) (b x)⟩
      subst huz2;walk_at "r";refine New.of λ r H4 h4 s4 e4=>?_;have S:Same H1 H4:=s2.trans (s3.trans s4);have le:=ht.length;refine q H4 r th sg xs es ss (s1.trans S) (SqT.of e4) h1 (S _ _ e1) (s4 _ _ e3) (λ z=>?_) (ht.same S) he ?_ ?_ hs
      · rw[<-z]at h3;have:=s2 _ _ e1;rw[h3]at this;cases this
      · rw[<-le,lx,qa3]
      · rw[<-le,lx,qa3];rw[qa3,qa3]at ly;simp only[qa4];omega
inductive J0O(K:y0)(vs:List V)(H:Hp)(Q:VK):Prop
 |mk(th sg:X0)(xs:List V)(e:El)(es:List El)(ss:List V0)(a1:vs=[.ref th,.ref sg])(a2:SqL K H th xs)(a3:SqL K H sg (ss.map V.str))(a4:ThVs K H xs (e::es))(a5:ss.length=es.length)(a6:es.length<=4)(a7:(∀x∈e::es,x.1.length<=1000))(a8:(∀s∈ss,s.length<=1000))(a9:∀(H':Hp),Same H H'->Q (.str (txF e.1 (ss.zip (es.map Prod.fst)))) H'):J0O K vs H Q
def Z7q(K:y0):Sp:=λ vs H Q _=>J0O K vs H Q
def TxI(H:Hp)(R:V0)(all:List (V0×V0))(s0:St)(i:Nat)(σ:St)(H':Hp):Prop:=Same H H'/\∃a o3 o4,txF a (all.drop i)=R/\a.length<=1000+3000*i/\σ=s0++[some (V.str a),o3,o4]
theorem J0f{ss ds:List V0}{i:Nat}{s d:V0}(h1:ss[i]?=some s)(h2:ds[i]?=some d):(ss.zip ds).drop i=(s,d)::(ss.zip ds).drop (i+1):=by
 have hz:(ss.zip ds)[i]?=some (s,d):=List.getElem?_zip_eq_some.mpr ⟨h1,h2⟩;obtain⟨hl,e⟩:=qb7.mp hz;rw[qg4 hl,e]
theorem J5y(T:Txt P w K mg C_Guest Ct Cw Ch Cp C_BadForm D_STRENGTHS D_TRUTHS U_TOLD_WORDS):Has P w K mg base 1 "_law_text" ["_law_things","_law_signs"] (Z7q K):=by
 refine Has.of T.O1y O0p (λ _ _ _ _ _ _ us hl=>el2 us hl λ _ _=>rfl) (λ vs H Q E h=>?_) (λ f cdv A outer s H vs Q E hr h=>?_)
 ·obtain⟨th,sg,xs,e,es,ss,rfl,_⟩:=h;rfl
 obtain⟨th,sg,xs,e,es,ss,rfl,hth,hsg,tv,hl,h4,hx,hs,q⟩:=h;refine⟨_,(Z0a (qG 2 O0p.nd (qC K (qD K (pvF 0) Z0f) Z0f)) (Z0a (Z3I PassesOwn.never rfl (J0b rfl T.z_zip (qJ (pvF 1) (Z1Y (r:=rSlL K) Z4c (pvF 0) (Z2A Z0f) Z2W))) (Z1n (n:=2) rfl (Z0q (qH 3 O0p.nd) (Z0q (qH 4 O0p.nd) Z1m))) (Z0b (qG 2 O0p.nd (Z0n Z0i (Z0n Z0i (Z0n Z0i (Z0n Z0i (pvF 2) Z0c) (pvF 3)) Z0c) (qA K 4))))) (Z0b (Z0k (pvF 2))))),?_⟩;refine seq3 λ uz2 huz2 uz1 huz1=>?_;walk_at "r";cases tv with
 |@cons v0 vs0 _ _ t0 ts=>
 obtain⟨a0,u0,rfl,b0,c0⟩:=t0;refine⟨_,hth,_,ix0,a0,rfl,⟨_,b0,_,ix0,?_⟩⟩;subst huz1;walk_at "r";refine⟨_,hth,New.of λ p H1 h1 s1 e1=>?_⟩;rw[cut1]at e1;have lv:=ts.length;refine⟨⟨_,SqL.same hsg s1⟩,⟨_,SqL.of e1⟩,?_⟩;refine Z5P (ss.map V.str) vs0 (by rw[qa3,hl,lv]) (TxI H1 (txF e.1 (ss.zip (es.map Prod.fst))) (ss.zip (es.map Prod.fst)) [some (V.ref th),some (V.ref sg)]) ⟨Same.refl _,e.1,none,none,rfl,by have:=hx e qa6;omega,rfl⟩ (λ i σ H2 hi h=>⟨SqL.same hsg (s1.trans h.1),SqL.of (h.1 _ _ e1)⟩) (λ i x y t σ H2 hxi hyi ht h=>?_) λ σ H2 h=>?_
 ·obtain⟨s2,a,o3,o4,ea,la,rfl⟩:=h;walk_at "r";obtain⟨s',hs',rfl⟩:∃s',ss[i]?=some s'/\x=.str s':=by
   rw[qc0]at hxi;cases hz:ss[i]? with
   |none=>rw[hz]at hxi;cases hxi
   |some s'=>rw[hz]at hxi;cases hxi;exact⟨s',rfl,rfl⟩
  obtain⟨e',he',a',u',rfl,b',c'⟩:=ts.at hyi;have il:i<es.length:=(qb7.mp he').1;have k1:=hx e' (qa8 _ (qe2 he'));have k2:=hs s' (qe2 hs');have k3:(" ":V0).length=1:=by decide+kernel
  rw[J0f hs' (show(es.map Prod.fst)[i]?=some e'.1 by rw[qc0,he'];rfl)]at ea;have st:Same H2 (upd H2 t (.tup [.str s',.ref a'])):=Z0x ht _;have et:upd H2 t (.tup [.str s',.ref a']) t=some (.tup [.str s',.ref a']):=Z0e;generalize upd H2 t (.tup [.str s',.ref a'])=H3 at*;refine⟨_,SqT.of et,rfl,⟨_,_,rfl,⟨_,_,rfl,rfl,by omega,s',rfl,by rw[RR.len_app];omega,by rw[RR.len_app,RR.len_app];omega,a',rfl,⟨_,SqT.same b' (s1.trans (s2.trans st)),_,ix0,e'.1,rfl,by rw[RR.len_app,RR.len_app,RR.len_app];omega,s2.trans st,_,_,_,ea,?_,rfl⟩⟩⟩⟩;rw[RR.len_app,RR.len_app,RR.len_app,RR.len_app];omega
 ·obtain⟨s2,a,o3,o4,ea,la,rfl⟩:=h;subst huz2;walk_at "r";have z0:(ss.zip (es.map Prod.fst)).drop (ss.map V.str).length=[]:=qg5 (by rw[qi4,qa3,qa3];omega);rw[z0]at ea;have ea:a=txF e.1 (ss.zip (es.map Prod.fst)):=ea;rw[ea];exact q _ (s1.trans s2)
open RR (El I3 ThE sgs byS twoD txF mp Sh OD foS paS dueD)
def semi(menu:V0):Bool:=decide (menu≠"<=+-*/")
inductive Z8X(K:y0)(vs:List V)(H:Hp)(Q:VK):Prop
 |mk(sc:X0)(ns:List Int)(k:Nat)(menu:V0)(a1:vs=[.ref sc,.int k,.str menu])(a2:SqL K H sc (ns.map V.int))(a3:k<=10)(a4:okM menu)(a5:∀(H':Hp)(r:X0)(v:V)(x:V0)(u:List V0)(o:Option Tm),Same H H'->SqT K H' r [.str x,v]->RT K H' v (OD o)->Sh (semi menu) x u o->Q (.ref r) H'):Z8X K vs H Q
def Z3h(K:y0):Sp:=λ vs H Q _=>Z8X K vs H Q
theorem J3X:∀s∈sgs,s.length<=1000:=by decide+kernel
theorem J3a(T:Txt P w K mg C_Guest Ct Cw Ch Cp C_BadForm D_STRENGTHS D_TRUTHS U_TOLD_WORDS)(O0c:Has P w K mg base 1 "_law_cell_at" ["_law_script","_law_k"] (Z5r K))(O0v:Has P w K mg base 1 "_law_mixed" ["_law_cell","_law_k"] Z5H)(O0W:Has P w K mg base 2 "_law_row" ["_law_cells","_law_menu"] (J0W K))(O0O:Has P w K mg base 1 "_law_text" ["_law_things","_law_signs"] (Z7q K))(O0A:Has P w K mg base 2 "_law_parted" ["_law_things","_law_signs"] (Z4j K))(O0B:Has P w K mg base 1 "_law_folded" ["_law_trees"] (Z4b K)):Has P w K mg base 3 "_law_short" ["_law_script","_law_k","_law_menu"] (Z3h K):=by
  refine Has.of T.O1q O0m (λ _ _ _ _ _ _ us hl=>el3 us hl λ _ _ _=>rfl) (λ vs H Q E h=>?_) (λ f cdv A outer s H vs Q E hr h=>?_)
  · obtain⟨sc,ns,k,menu,rfl,_⟩:=h;rfl
  obtain⟨sc,ns,k,menu,rfl,hsc,hk,hm,q⟩:=h;refine⟨_,(Z0a (qG 3 O0m.nd (qF O0v hr (qJ (qF O0c hr (qJ (pvF 0) Z0f)) (pvF 1)))) (Z0a (Z2q rfl O0m.nd (i:=4) rfl rfl (BlockOk.of (N:=["_law_j","_law_k","_law_script"]) (nl:=[none,some 1,some 0]) (cl:=[("_law_script",s.heap.objs.size+1),("_law_k",s.heap.objs.size+2)]) rfl qP qP rfl (sub2 rfl rfl) (nm:=["_law_script","_law_k"]) rfl qP rfl (λ i hi j hj=>by
            match i,hi with
            | 0,_=>cases hj
             |1,_=>cases hj;exact⟨_,rfl,rfl,rfl,.inl rfl⟩
             |2,_=>cases hj;exact⟨_,rfl,rfl,rfl,.inl rfl⟩
            )) (Z4l rfl T.O1u (qI (Z0n Z0S Z0f (Z0n Z1u (pvF 3) Z0f)))) (λ C fp s H=>(qH 0 (show(["_law_j","_law_k","_law_script"]:List V0).Nodup by decide+kernel))) (λ C fp s H=>(qF O0v hr (qJ (qF O0c hr (qJ (pvF 2) (Z0n Z0S (Z0n Z0S Z0f (Z0n Z4d Z0f (pvF 1))) (pvF 0)))) (pvF 0))))) (Z0a (Z2e (qF O0W hr (qJ (pvF 4) (pvF 2))) (Z1n (n:=2) rfl (Z0q (qH 5 O0m.nd) (Z0q (qH 6 O0m.nd) Z1m)))) (Z0b (Z0k (Z0l (qJ (qF O0O hr (qJ (pvF 5) (pvF 6))) (qF O0B hr (qI (qF O0A hr (qJ (Z0G rfl (BlockOk.plain (N:=["_law_thing_here"]) rfl qP qP qP) (Z1H (pvF 5)) (λ C fp s H=>(qH 0 (show(["_law_thing_here"]:List V0).Nodup by decide+kernel))) (λ C fp s H=>(qA K 0))) (pvF 6)))))))))))),?_⟩
  refine seq4 λ uz3 huz3 uz2 huz2 uz1 huz1=>?_;walk_at "r";refine⟨sc,ns,1,rfl,hsc,λ c=>⟨c,k,rfl,by omega,by omega,λ cell=>?_⟩⟩;subst huz1;walk_at "r";have e3:(1+(cell:Int)%3).toNat=1+cell%3:=by omega
  rw[e3];refine⟨by omega,by omega,λ cl h1=>Z6N none _ (λ j v H'=>∃n:Nat,v=V.int n) (λ j v H1 H2 a _=>a) rfl h1 (by rw[sizeLine_eq];omega) (λ i hi H1 K' s1 kk=>?_) λ cs H1 s1 e1 lc hc=>?_⟩
  · walk_at "r";refine⟨k,rfl,sc,ns,10+3*k+i,by simp only[List.cons.injEq,V.int.injEq,and_true,true_and];omega,SqL.same hsc s1,λ c=>⟨c,i,rfl,by omega,by omega,λ n=>kk _ _ (Same.refl _) ⟨n,rfl⟩⟩⟩
  · obtain⟨ms,rfl⟩:∃ms:List Nat,cs=ms.map λ n:Nat=>V.int (n:Int):=by
      clear e1 lc;induction cs with
      |nil=>exact⟨[],rfl⟩
      |cons v vs ih=>
        obtain⟨ms,a⟩:=ih λ j v hv=>hc (j+1) v hv;obtain⟨n,rfl⟩:=hc 0 v rfl;exact⟨n::ms,by rw[a];rfl⟩
    rw[qa3]at lc;subst huz2;walk_at "r";refine⟨cl,ms,menu,rfl,SqL.of e1,by omega,by omega,hm,λ H2 r th sg xs es ss s2 t2 f1 f2 f3 f4 tv te le ls hs=>?_⟩;refine⟨_,rfl,⟨_,t2,rfl,⟨_,_,rfl,⟨_,_,rfl,rfl,?_⟩⟩⟩⟩;subst huz3;walk_at "r";obtain⟨e,er,rfl⟩:∃e er,es=e::er:=by
      cases es with
      |nil=>simp at ls
      |cons a b=>exact⟨a,b,rfl⟩
    simp only[qa4]at le ls;have l2:ss.length=er.length:=by omega
    have hl1:∀x∈e::er,x.1.length<=1000:=λ x hx=>by
      obtain⟨t,_,_,h⟩:=te x hx;have:=h.tx.len;omega
    have hl2:∀s∈ss,s.length<=1000:=λ s h=>J3X s (hs s h).2;refine⟨th,sg,xs,e,er,ss,rfl,SqL.of f2,SqL.of f3,tv,l2,by omega,hl1,hl2,λ H3 s3=>⟨⟨_,SqL.of (s3 _ _ f2)⟩,λ tr h4=>?_⟩⟩;have tv3:=tv.same s3;refine Z1v none _ (λ j v H'=>∃x,(e::er)[j]?=some x/\RT K H' v x.2.2) (λ j v H1 H2 ⟨x,a,b⟩ s=>⟨x,a,b.kt (Z5t s)⟩) rfl h4 (by rw[tv.length,qa4,sizeLine_eq];omega) (λ H4 s4=>SqL.of (s4 _ _ (s3 _ _ f2))) (λ i y hy H4 K' s4 kk=>?_) λ ts H4 s4 e4 lt ht=>?_
    · obtain⟨x,hx,a,u,rfl,b,c⟩:=tv3.at hy;walk_at "r";exact⟨_,SqT.same b s4,u,ix1,kk _ _ (Same.refl _) ⟨x,hx,c.same s4⟩⟩
    · have rts:RTs K H4 ts (e.2.2::er.map λ q=>q.2.2):=by
        have go:∀(ts:List V)(es:List El),ts.length=es.length->(∀(j:Nat)(v:V),ts[j]?=some v->∃x:El,es[j]?=some x/\RT K H4 v x.2.2)->RTs K H4 ts (es.map λ q=>q.2.2):=by
          intro ts;induction ts with
          |nil=>
            intro es l _;cases es with
            |nil=>exact .nil
            |cons a b=>simp at l
          |cons v vs ih=>
            intro es l h;cases es with
            |nil=>simp at l
            |cons a b=>
              obtain⟨x,hx,r⟩:=h 0 v rfl;cases hx;exact .cons r (ih b (by simpa using l) λ j v hv=>h (j+1) v hv)
        exact go ts (e::er) (by rw[lt,tv.length]) ht
      have tr4:TrS K H4 tr sg ts e.2.2 (er.map λ q=>q.2.2) ss:=⟨SqL.of e4,SqL.of (s4 _ _ (s3 _ _ f3)),rts,by rw[qa3];exact l2,by rw[qa3];omega,λ s h=>(hs s h).2⟩;obtain⟨u,o,hsh,hdue⟩:=RR.sh_of (semi:=semi menu) (e:=e) (es:=er) (ss:=ss) (te e qa6) (λ q hq=>te q (qa8 _ hq)) l2 (by omega) (λ s h=>(hs s h).2) (λ hz s h=>by
        have em:menu="<=+-*/":=by unfold semi at hz;simpa using hz
        obtain⟨c,hc,rfl⟩:=(hs s h).1;rw[em]at hc;exact J0H c hc)
      refine⟨tr,sg,ts,_,_,ss,rfl,tr4,λ H5 s5 ep=>.inl ⟨rfl,New.of λ p H6 h6 s6 e6=>?_⟩,λ H5 a xs' g r s5 ep ha hxs rr lr=>.inr ⟨a,xs',g,r,rfl,SqL.of hxs,rr,λ H6 v s6 rv=>New.of λ p H7 h7 s7 e7=>?_⟩⟩
      · have eo:o=none:=by
          unfold RR.dueD at hdue;rw[ep]at hdue;cases o with
          |none=>rfl
          |some t=>cases hdue
        subst eo;exact q H6 p .non _ u none (s1.trans (s2.trans (s3.trans (s4.trans (s5.trans s6))))) (SqT.of e6) .non hsh
      · unfold RR.dueD at hdue;rw[ep]at hdue;cases o with
        |none=>cases hdue
        |some t=>
          injection hdue with hdue
          have hdue:foS twoD g (r++[])=t.dat:=hdue;rw[qb6]at hdue;rw[hdue]at rv;exact q H7 p v _ u (some t) (s1.trans (s2.trans (s3.trans (s4.trans (s5.trans (s6.trans s7)))))) (SqT.of e7) (rv.same s7) hsh
open RR (El I3 ThE sgs byS twoD txF mp Sh OD Tl Le La letO)
inductive Z9V(K:y0)(vs:List V)(H:Hp)(Q:VK):Prop
 |mk(sc:X0)(ns:List Int)(k:Nat)(wy:Int)(a1:vs=[.ref sc,.int k,.int wy])(a2:SqL K H sc (ns.map V.int))(a3:k<=9)(a4:∀(H':Hp)(r:X0)(v:V)(x:V0)(u:List V0)(o:Option Tm),Same H H'->SqT K H' r [.str x,v]->RT K H' v (OD o)->Tl x u o->Q (.ref r) H'):Z9V K vs H Q
def J0R(K:y0):Sp:=λ vs H Q _=>Z9V K vs H Q
theorem Z2G{K:y0}{H:Hp}{v:V}{o:Option Tm}(h:RT K H v (OD o)):(v=.non↔o=none)/\TN K H v:=by
 cases o with
 |none=>cases h;exact⟨⟨λ _=>rfl,λ _=>rfl⟩,.inl rfl⟩
 |some t=>
  obtain⟨f,l,ps⟩:=t;have h:RT K H v (.tuple (Z0L f l (dats ps))):=by
   have e:OD (some (Tm.mk f l ps))=.tuple (Z0L f l (dats ps)):=by show(Tm.mk f l ps).dat=_;rw[Tm.dat]
   rw[e]at h;exact h
  obtain⟨a,xs,rfl,b,c⟩:=h.tup_inv;exact⟨⟨λ z=>(by cases z),λ z=>(by cases z)⟩,.inr ⟨a,xs,rfl,b⟩⟩
theorem J4W(T:Txt P w K mg C_Guest Ct Cw Ch Cp C_BadForm D_STRENGTHS D_TRUTHS U_TOLD_WORDS)(O0j:Has P w K mg base 3 "_law_short" ["_law_script","_law_k","_law_menu"] (Z3h K)):Has P w K mg base 4 "_law_tail" ["_law_script","_law_k","_law_way"] (J0R K):=by
 refine Has.of T.O1z O0i (λ _ _ _ _ _ _ us hl=>el3 us hl λ _ _ _=>rfl) (λ vs H Q E h=>?_) (λ f cdv A outer s H vs Q E hr h=>?_)
 ·obtain⟨sc,ns,k,wy,rfl,_⟩:=h;rfl
 obtain⟨sc,ns,k,wy,rfl,hsc,hk,q⟩:=h;refine⟨_,(Z0a (Z2e (qF O0j hr (qK (pvF 0) (pvF 1) Z0c)) (Z1n (n:=2) rfl (Z0q (qH 3 O0i.nd) (Z0q (qH 4 O0i.nd) Z1m)))) (Z0a (Z0s (qM Z1t (pvF 2) Z0f) (Z0b (Z0k (Z0l (qJ (Z0n Z0i Z0c (pvF 3)) (Z1j (qM Z3j (pvF 4) Z0v) Z0v (Z0l (Z0o Z0c (qK (Z0l (qJ Z0c Z0c)) Z0c (pvF 4))))))))) Z0m) (Z0a (Z0s (qM Z5A (pvF 2) Z0f) (Z0a (Z2e (qF O0j hr (qK (pvF 0) (Z0n Z0S (pvF 1) Z0f) Z0c)) (Z1n (n:=2) rfl (Z0q (qH 5 O0i.nd) (Z0q (qH 6 O0i.nd) Z1m)))) (Z0a (qG 3 O0i.nd (Z0n Z0i (Z0n Z0i (Z0n Z0i Z0c (pvF 5)) Z0c) (pvF 3))) (Z0b (qG 4 O0i.nd (Z1j (Z1a (r:=rInN K false) (Z6y hr.units) Z0v (Z0l (qJ (pvF 4) (pvF 6))) (by with_unfolding_all rfl)) Z0v (Z0l (Z0o Z0c (qK Z0c (pvF 6) (pvF 4))))))))) Z0m) (Z0a (Z0s (qM Z1t (pvF 2) Z0f) (Z0b (Z0k (Z0l (qJ (Z0n Z0i Z0c (pvF 3)) (Z1j (qM Z3j (pvF 4) Z0v) Z0v (Z0l (Z0o Z0c (qK Z0c (Z0l (qJ Z0c Z0c)) (pvF 4))))))))) Z0m) (Z0a (Z0s (qM Z1t (pvF 2) Z0f) (Z0b (Z0k (Z0l (qJ (Z0n Z0i Z0c (pvF 3)) (Z1j (qM Z3j (pvF 4) Z0v) Z0v (Z0l (qJ Z0c (pvF 4)))))))) Z0m) (Z0a (Z0s (qM Z1t (pvF 2) Z0f) (Z0b (Z0k (Z0l (qJ (Z0n Z0i Z0c (pvF 3)) (Z1j (qM Z3j (pvF 4) Z0v) Z0v (Z0l (Z0o Z0c (qK Z0c (Z0l (qJ Z0c Z0c)) (pvF 4))))))))) Z0m) (Z0b (Z0k (Z0l (qJ (pvF 3) (pvF 4))))))))))),?_⟩;refine seq7 λ uz6 huz6 uz5 huz5 uz4 huz4 uz3 huz3 uz2 huz2 uz1 huz1=>?_;walk_at "r";refine⟨sc,ns,k,_,rfl,hsc,by omega,by unfold okM;decide+kernel,λ H1 r1 v1 x1 u1 o1 s1 t1 d1 h1=>⟨_,rfl,⟨_,t1,rfl,⟨_,_,rfl,⟨_,_,rfl,rfl,?_⟩⟩⟩⟩⟩;have h1:Sh false x1 u1 o1:=h1;have l1:=h1.tx.len;have i1:=Z2G d1;subst huz1;walk_at "r";refine ite2 (λ e=>?_) λ _=>?_
 ·have k1:("set a.b = ":V0).length=10:=by decide+kernel
  refine⟨by omega,ite2 (λ z=>?_) λ z=>?_⟩
  ·obtain rfl:=i1.1.mp z;exact New.of λ p H2 h2 s2 e2=>q _ _ _ _ _ none (s1.trans s2) (SqT.of e2) .non (RR.tl1 h1)
  ·cases o1 with
   |none=>exact(z (i1.1.mpr rfl)).elim
   |some t=>exact New.of λ p2 H2 h2 s2 e2=>New.of λ p3 H3 h3 s3 e3=>New.of λ p4 H4 h4 s4 e4=>q _ _ _ _ _ (some (.mk .set (.str "b") [RR.nmT "a",t])) (s1.trans (s2.trans (s3.trans s4))) (SqT.of e4) (.tup (SqT.of (s4 _ _ e3)) (.cons (.str _) (.cons (.tup (SqT.of (s4 _ _ (s3 _ _ e2))) (.cons (.str _) (.cons (.str _) .nil))) (.cons (.str _) (.cons (d1.same (s2.trans (s3.trans s4))) .nil))))) (RR.tl1 h1)
 subst huz2;walk_at "r";have key:∀H2 x u o v a5 a6,Same H H2->RT K H2 v (OD o)->(Tl x u o/\¬1<wy\/Le x u o)->uz3 {nx:=λ x H'=>Q V.non H',rt:=Q} [some (V.ref sc),some (V.int k),some (V.int wy),some (V.str x),some v,a5,a6] H2:=by
  intro H2 x u o v a5 a6 s2 d2 h2;have i2:=Z2G d2;have le:1<wy->Le x u o:=λ z=>h2.elim (λ a=>(a.2 z).elim) id;have lx:x.length<=160:=h2.elim (λ a=>a.1.tx.len) λ a=>(RR.tl2 a).tx.len;have k1:("c - ":V0).length=4:=by decide+kernel
  have k2:("not ":V0).length=4:=by decide+kernel
  have k3:("let u = c in ":V0).length=13:=by decide+kernel
  subst huz3;walk_at "r";refine ite2 (λ e=>⟨by omega,ite2 (λ z=>?_) λ z=>?_⟩) λ _=>?_
  ·obtain rfl:=i2.1.mp z;exact New.of λ p H3 h3 s3 e3=>q _ _ _ _ _ none (s2.trans s3) (SqT.of e3) .non (RR.tl3 (le (by omega)))
  ·cases o with
   |none=>exact(z (i2.1.mpr rfl)).elim
   |some t=>exact New.of λ p3 H3 h3 s3 e3=>New.of λ p4 H4 h4 s4 e4=>New.of λ p5 H5 h5 s5 e5=>q _ _ _ _ _ (some (.mk .two (.str "-") [RR.nmT "c",t])) (s2.trans (s3.trans (s4.trans s5))) (SqT.of e5) (.tup (SqT.of (s5 _ _ e4)) (.cons (.str _) (.cons (.str _) (.cons (.tup (SqT.of (s5 _ _ (s4 _ _ e3))) (.cons (.str _) (.cons (.str _) .nil))) (.cons (d2.same (s3.trans (s4.trans s5))) .nil))))) (RR.tl3 (le (by omega)))
  subst huz4;walk_at "r";refine ite2 (λ e=>⟨by omega,ite2 (λ z=>?_) λ z=>?_⟩) λ _=>?_
  ·obtain rfl:=i2.1.mp z;exact New.of λ p H3 h3 s3 e3=>q _ _ _ _ _ none (s2.trans s3) (SqT.of e3) .non (RR.tl4 (le (by omega)))
  ·cases o with
   |none=>exact(z (i2.1.mpr rfl)).elim
   |some t=>exact New.of λ p4 H4 h4 s4 e4=>New.of λ p5 H5 h5 s5 e5=>q _ _ _ _ _ (some (.mk .nt .non [t])) (s2.trans (s4.trans s5)) (SqT.of e5) (.tup (SqT.of (s5 _ _ e4)) (.cons (.str _) (.cons (d2.same (s4.trans s5)) .nil))) (RR.tl4 (le (by omega)))
  subst huz5;walk_at "r";refine ite2 (λ e=>⟨by omega,ite2 (λ z=>?_) λ z=>?_⟩) λ _=>?_
  ·obtain rfl:=i2.1.mp z;exact New.of λ p H3 h3 s3 e3=>q _ _ _ _ _ none (s2.trans s3) (SqT.of e3) .non (RR.tl5 (le (by omega)))
  ·cases o with
   |none=>exact(z (i2.1.mpr rfl)).elim
   |some t=>exact New.of λ p3 H3 h3 s3 e3=>New.of λ p4 H4 h4 s4 e4=>New.of λ p5 H5 h5 s5 e5=>q _ _ _ _ _ (some (.mk .lt (.str "u") [RR.nmT "c",t])) (s2.trans (s3.trans (s4.trans s5))) (SqT.of e5) (.tup (SqT.of (s5 _ _ e4)) (.cons (.str _) (.cons (.str _) (.cons (.tup (SqT.of (s5 _ _ (s4 _ _ e3))) (.cons (.str _) (.cons (.str _) .nil))) (.cons (d2.same (s3.trans (s4.trans s5))) .nil))))) (RR.tl5 (le (by omega)))
  subst huz6;walk_at "r";exact New.of λ p H3 h3 s3 e3=>q _ _ _ _ _ o (s2.trans s3) (SqT.of e3) (d2.same s3) (h2.elim (λ a=>a.1) RR.tl2)
 refine ite2 (λ e=>?_) λ e=>?_
 ·refine⟨sc,ns,k+1,_,rfl,SqL.same hsc s1,by omega,by unfold okM;decide+kernel,λ H2 r2 v2 x2 u2 o2 s2 t2 d2 h2=>⟨_,rfl,⟨_,t2,rfl,⟨_,_,rfl,⟨_,_,rfl,rfl,x2,rfl,?_⟩⟩⟩⟩⟩;have h2:Sh true x2 u2 o2:=h2;have l2:=h2.tx.len;have i2:=Z2G d2;have k1:("let w = ":V0).length=8:=by decide+kernel
  have k2:(" in ":V0).length=4:=by decide+kernel
  refine⟨by omega,by rw[RR.len_app];omega,by rw[RR.len_app,RR.len_app];omega,New.of λ p H3 h3 s3 e3=>?_⟩;have d1':=d1.same (s2.trans s3);have d2':=d2.same s3;refine⟨p,[v1,v2],rfl,rfl,.inr (SqT.of e3),λ z hz=>?_,_,rfl,ite2 (λ z=>?_) λ z=>?_⟩
  ·rcases qa2.mp hz with rfl|hz
   ·exact(Z2G d1').2
   ·rw[qa7.mp hz];exact(Z2G d2').2
  ·have en:letO "w" o2 o1=none:=by
    have z:hasN [v1,v2]=true:=z;unfold hasN at z;simp only[qe6,qh1,qf4,qh0,decide_eq_true_eq]at z;rcases z with z|z
    ·rw[i1.1.mp z];unfold letO;cases o2<;>rfl
    ·rw[i2.1.mp z];rfl
   exact key _ _ _ _ _ _ _ (s1.trans (s2.trans s3)) .non (.inr (en▸RR.le_of h2 h1))
  ·have z:hasN [v1,v2]=false:=by simpa using z
   unfold hasN at z;simp only[qe6,qh1,qf4,Bool.or_eq_false_iff,decide_eq_false_iff_not]at z;cases o1 with
   |none=>exact(z.1 (i1.1.mpr rfl)).elim
   |some t1'=>
    cases o2 with
    |none=>exact(z.2 (i2.1.mpr rfl)).elim
    |some t2'=>exact New.of λ p4 H4 h4 s4 e4=>key _ _ _ (some (.mk .lt (.str "w") [t2',t1'])) _ _ _ (s1.trans (s2.trans (s3.trans s4))) (.tup (SqT.of e4) (.cons (.str _) (.cons (.str _) (.cons (d2'.same s4) (.cons (d1'.same s4) .nil))))) (.inr (RR.le_of h2 h1))
 ·exact key _ _ _ _ _ _ _ s1 d1 (.inl ⟨RR.tl0 h1,e⟩)
def clOf(wy:Nat):Nat:=if wy=1\/wy=3 then 2 else if wy=2 then 1 else 4
inductive J0N(K:y0)(vs:List V)(H:Hp)(Q:VK):Prop
 |mk(sc:X0)(ns:List Int)(wy:Nat)(a1:vs=[.ref sc,.int wy])(a2:SqL K H sc (ns.map V.int))(a3:1<=wy)(a4:wy<=7)(a5:∀(H':Hp)(r:X0)(v:V)(x:V0)(u:List V0)(o:Option Tm),Same H H'->SqT K H' r [.str x,v]->RT K H' v (OD o)->La (clOf wy) x u o->Q (.ref r) H'):J0N K vs H Q
def J0z(K:y0):Sp:=λ vs H Q _=>J0N K vs H Q
theorem Z7F{α:Type}{l:List α}(h:l≠[])(z:Int){m:Int}(hm:m=(l.length:Int)):∃x∈l,atI l (z%m)=some x:=by
 have hl:=qe9.mpr h;have a:=Int.emod_nonneg z (show m≠0 by omega);have b:=Int.emod_lt_of_pos z (show 0<m by omega);obtain⟨k,hk⟩:=qj8 a;have hk':k<l.length:=by omega
 rw[hk];exact⟨l[k],qg8 hk',Z2l (qb5 hk')⟩
theorem J2m{v1 v2:V}{o1 o2:Option Tm}(i1:v1=.non↔o1=none)(i2:v2=.non↔o2=none):(hasN [v1,v2]=true->o1=none\/o2=none)/\(¬hasN [v1,v2]=true->∃t1 t2,o1=some t1/\o2=some t2):=by
 unfold hasN;simp only[qe6,qh1,qf4,qh0,decide_eq_true_eq];refine⟨λ z=>z.imp i1.mp i2.mp,λ z=>?_⟩;cases o1 with
 |none=>exact(z (.inl (i1.mpr rfl))).elim
 |some t1=>
  cases o2 with
  |none=>exact(z (.inr (i2.mpr rfl))).elim
  |some t2=>exact⟨t1,t2,rfl,rfl⟩
theorem J5N{v1 v2 v3:V}{o1 o2 o3:Option Tm}(i1:v1=.non↔o1=none)(i2:v2=.non↔o2=none)(i3:v3=.non↔o3=none):(hasN [v1,v2,v3]=true->o1=none\/o2=none\/o3=none)/\(¬hasN [v1,v2,v3]=true->∃t1 t2 t3,o1=some t1/\o2=some t2/\o3=some t3):=by
 unfold hasN;simp only[qe6,qh1,qf4,qh0,decide_eq_true_eq];refine⟨λ z=>z.imp i1.mp λ z=>z.imp i2.mp i3.mp,λ z=>?_⟩;cases o1 with
 |none=>exact(z (.inl (i1.mpr rfl))).elim
 |some t1=>
  cases o2 with
  |none=>exact(z (.inr (.inl (i2.mpr rfl)))).elim
  |some t2=>
   cases o3 with
   |none=>exact(z (.inr (.inr (i3.mpr rfl)))).elim
   |some t3=>exact⟨t1,t2,t3,rfl,rfl,rfl⟩
theorem tn2{K:y0}{H:Hp}{v1 v2:V}(a:TN K H v1)(b:TN K H v2):∀z∈[v1,v2],TN K H z:=λ z hz=>by
 rcases(qa2.mp hz)with rfl|hz
 ·exact a
 ·rw[qa7.mp hz];exact b
theorem tn3{K:y0}{H:Hp}{v1 v2 v3:V}(a:TN K H v1)(b:TN K H v2)(c:TN K H v3):∀z∈[v1,v2,v3],TN K H z:=λ z hz=>by
 rcases(qa2.mp hz)with rfl|hz
 ·exact a
 ·exact tn2 b c z hz
theorem cl1:clOf 1=2:=by decide
theorem cl2:clOf 2=1:=by decide
theorem cl3:clOf 3=2:=by decide
theorem cl4{n:Nat}(h:4<=n):clOf n=4:=by
 unfold clOf;rw[if_neg (by omega),if_neg (by omega)]
theorem J4Y(T:Txt P w K mg C_Guest Ct Cw Ch Cp C_BadForm D_STRENGTHS D_TRUTHS U_TOLD_WORDS)(O0c:Has P w K mg base 1 "_law_cell_at" ["_law_script","_law_k"] (Z5r K))(O0j:Has P w K mg base 3 "_law_short" ["_law_script","_law_k","_law_menu"] (Z3h K))(O1B:Has P w K mg base 4 "_law_tail" ["_law_script","_law_k","_law_way"] (J0R K)):Has P w K mg base 5 "_law_last" ["_law_script","_law_way"] (J0z K):=by
 refine Has.of T.O1A O0d (λ _ _ _ _ _ _ us hl=>el2 us hl λ _ _=>rfl) (λ vs H Q E h=>?_) (λ f cdv A outer s H vs Q E hr h=>?_)
 ·obtain⟨sc,ns,wy,rfl,_⟩:=h;rfl
 obtain⟨sc,ns,wy,rfl,hsc,w1,w7,q⟩:=h;refine⟨_,(Z0a (Z2e (qF O0j hr (qK (pvF 0) Z0f Z0c)) (Z1n (n:=2) rfl (Z0q (qH 2 O0d.nd) (Z0q (qH 3 O0d.nd) Z1m)))) (Z0a (Z2e (qF O0j hr (qK (pvF 0) Z0f Z0c)) (Z1n (n:=2) rfl (Z0q (qH 4 O0d.nd) (Z0q (qH 5 O0d.nd) Z1m)))) (Z0a (Z2e (qF O1B hr (qK (pvF 0) Z0f (qD K (Z0E (Z0o Z0f (Z0o Z0f (Z0o Z0f (Z0o Z0f (Z0o Z0f (qK Z0f Z0f Z0f))))))) (Z0n Z1u (Z0n Z2u (qF O0c hr (qJ (pvF 0) Z0f)) Z0f) Z0f)))) (Z1n (n:=2) rfl (Z0q (qH 6 O0d.nd) (Z0q (qH 7 O0d.nd) Z1m)))) (Z0a (Z0s (qM Z1t (pvF 1) Z0f) (Z0a (Z7e (i:=8) (j:=9) rfl O0d.nd rfl rfl qS rfl rfl (qJ (Z0n Z0i (Z0n Z0i (Z0n Z0i (Z0n Z0i (Z0n Z0i Z0c (pvF 2)) Z0c) (pvF 4)) Z0c) (pvF 6)) (Z0E (qK (pvF 3) (pvF 5) (pvF 7)))) rfl) (Z0b (Z0k (Z0l (qJ (pvF 8) (Z1j (Z1a (r:=rInN K false) (Z6y hr.units) Z0v (pvF 9) (by with_unfolding_all rfl)) Z0v (Z0l (Z0o Z0c (qK (pvF 3) (pvF 5) (pvF 7)))))))))) Z0m) (Z0a (Z0s (qM Z1t (pvF 1) Z0f) (Z0b (Z0k (Z0l (qJ (Z0n Z0i (Z0n Z0i (Z0n Z0i Z0c (pvF 2)) Z0c) (pvF 4)) (Z1j (Z1a (r:=rInN K false) (Z6y hr.units) Z0v (Z0l (qJ (pvF 3) (pvF 5))) (by with_unfolding_all rfl)) Z0v (Z0l (Z0o Z0c (qK Z0c (pvF 3) (pvF 5))))))))) Z0m) (Z0a (Z0s (qM Z1t (pvF 1) Z0f) (Z0a (qG 10 O0d.nd (Z0E (qJ (Z0l (qJ Z0c (Z0l (Z0o Z0c (qK (Z0l (qJ Z0c Z0c)) Z0c (Z0l Z1F)))))) (Z0l (qJ Z0c (Z0l (qK Z0c (Z0l (qJ Z0c Z0c)) Z0c))))))) (Z0a (qG 11 O0d.nd (qD K (Z0n Z8D (pvF 10) (Z0E (qJ (Z0l (qJ Z0c (Z0l (qJ Z0c Z0c)))) (Z0l (qJ Z0c (qC K (qD K (pvF 10) Z0f) Z0f)))))) (Z0n Z1u (Z0n Z2u (qF O0c hr (qJ (pvF 0) Z0f)) Z0f) Z0f))) (Z0b (Z0k (Z0l (qJ (Z0n Z0i (Z0n Z0i (Z0n Z0i Z0c (qA K 11)) Z0c) (pvF 6)) (Z1j (qM Z3j (pvF 7) Z0v) Z0v (Z0l (Z0o Z0c (qK (qA K 11) Z0c (pvF 7))))))))))) Z0m) (Z0a (Z0s (qM Z1t (pvF 1) Z0f) (Z0a (qG 12 O0d.nd (Z0l (Z0o Z0c (qK (Z0l (qJ Z0c Z0c)) Z0c (Z0l (qJ (pvF 3) (pvF 5))))))) (Z0b (Z0k (Z0l (qJ (Z0n Z0i (Z0n Z0i (Z0n Z0i (Z0n Z0i Z0c (pvF 2)) Z0c) (pvF 4)) Z0c) (Z1j (Z1a (r:=rInN K false) (Z6y hr.units) Z0v (Z0l (qJ (pvF 3) (pvF 5))) (by with_unfolding_all rfl)) Z0v (pvF 12))))))) Z0m) (Z0a (Z0s (qM Z1t (pvF 1) Z0f) (Z0b (Z0k (Z0l (qJ (Z0n Z0i (Z0n Z0i Z0c (pvF 2)) Z0c) (Z1j (qM Z3j (pvF 3) Z0v) Z0v (Z0l (qK Z0c Z0c (Z0l (qI (pvF 3)))))))))) Z0m) (Z0a (Z0s (qM Z1t (pvF 1) Z0f) (Z0b (Z0k (Z0l (qJ (Z0n Z0i (Z0n Z0i Z0c (pvF 4)) Z0c) (Z1j (qM Z3j (pvF 5) Z0v) Z0v (Z0l (qK Z0c Z0c (Z0l (qI (pvF 5)))))))))) Z0m) (Z0b (Z0k (Z0l (qJ (Z0n Z0i (Z0n Z0i Z0c (pvF 2)) Z0c) (pvF 3)))))))))))))),?_⟩;refine J8U λ uz9 huz9 uz8 huz8 uz7 huz7 uz6 huz6 uz5 huz5 uz4 huz4 uz3 huz3 uz2 huz2 uz1 huz1=>?_;walk_at "r";refine⟨sc,ns,1,_,rfl,hsc,by omega,by unfold okM;decide+kernel,λ H1 r1 v1 x1 u1 o1 s1 t1 d1 h1=>⟨_,rfl,⟨_,t1,rfl,⟨_,_,rfl,⟨_,_,rfl,rfl,?_⟩⟩⟩⟩⟩;have h1:Sh true x1 u1 o1:=h1;subst huz1;walk_at "r";refine⟨sc,ns,2,_,rfl,SqL.same hsc s1,by omega,by unfold okM;decide+kernel,λ H2 r2 v2 x2 u2 o2 s2 t2 d2 h2=>⟨_,rfl,⟨_,t2,rfl,⟨_,_,rfl,⟨_,_,rfl,rfl,?_⟩⟩⟩⟩⟩;have h2:Sh true x2 u2 o2:=h2;subst huz2;walk_at "r";refine New.of λ p3 H3 h3 s3 e3=>⟨sc,ns,2,rfl,SqL.same hsc (s1.trans (s2.trans s3)),λ c=>?_⟩;obtain⟨vw,hvw,evw⟩:=Z7F (l:=[V.int 0,V.int 0,V.int 0,V.int 1,V.int 2,V.int 3,V.int 4,V.int 5]) nofun (c/11) (m:=8) rfl;obtain⟨tw,rfl⟩:∃tw:Int,vw=V.int tw:=by
  simp only[qa2,qa9,or_false]at hvw;rcases hvw with rfl|rfl|rfl|rfl|rfl|rfl|rfl|rfl<;>exact⟨_,rfl⟩
 refine⟨c,rfl,⟨_,SqL.of e3,_,evw,sc,ns,3,tw,rfl,SqL.same hsc (s1.trans (s2.trans s3)),by omega,λ H4 r4 v4 x4 u4 o4 s4 t4 d4 h4=>⟨_,rfl,⟨_,t4,rfl,⟨_,_,rfl,⟨_,_,rfl,rfl,?_⟩⟩⟩⟩⟩⟩;clear hvw evw;have S4:Same H H4:=s1.trans (s2.trans (s3.trans s4));have d1:=d1.same (s2.trans (s3.trans s4));have d2:=d2.same (s3.trans s4);have i1:=Z2G d1;have i2:=Z2G d2;have i4:=Z2G d4;have l1:=h1.tx.len;have l2:=h2.tx.len;have l4:=h4.tx.len;clear s1 s2 s3 s4 t1 t2 e3 h3 t4;subst huz3;walk_at "r";refine ite2 (λ e=>?_) λ n1=>?_
 ·obtain rfl:wy=1:=by omega
  rw[cl1]at q;have k1:("if ":V0).length=3:=by decide+kernel
  have k2:(" then ":V0).length=6:=by decide+kernel
  have k3:(" else ":V0).length=6:=by decide+kernel
  have h:=RR.la1 h1 h2 h4;refine⟨by omega,by rw[RR.len_app];omega,by rw[RR.len_app,RR.len_app];omega,by rw[RR.len_app,RR.len_app,RR.len_app];omega,by rw[RR.len_app,RR.len_app,RR.len_app,RR.len_app];omega,New.of λ p5 H5 h5 s5 e5=>?_⟩;have b1:=d1.same s5;have b2:=d2.same s5;have b4:=d4.same s5;refine⟨p5,_,rfl,rfl,.inl (SqL.of e5),tn3 (Z2G b1).2 (Z2G b2).2 (Z2G b4).2,_,rfl,ite2 (λ z=>?_) λ z=>?_⟩
  ·have en:(o1.bind λ a=>o2.bind λ b=>o4.bind λ c=>some (Tm.mk .iff .non [a,b,c]))=none:=by
    rcases(J5N i1.1 i2.1 i4.1).1 z with rfl|rfl|rfl
    ·rfl
    ·cases o1<;>rfl
    ·cases o1<;>cases o2<;>rfl
   rw[en]at h;exact New.of λ p6 H6 h6 s6 e6=>q _ _ _ _ _ none (S4.trans (s5.trans s6)) (SqT.of e6) .non h
  ·obtain⟨a,b,c,rfl,rfl,rfl⟩:=(J5N i1.1 i2.1 i4.1).2 z;exact New.of λ p6 H6 h6 s6 e6=>New.of λ p7 H7 h7 s7 e7=>q _ _ _ _ _ (some (.mk .iff .non [a,b,c])) (S4.trans (s5.trans (s6.trans s7))) (SqT.of e7) (.tup (SqT.of (s7 _ _ e6)) (.cons (.str _) (.cons (b1.same (s6.trans s7)) (.cons (b2.same (s6.trans s7)) (.cons (b4.same (s6.trans s7)) .nil))))) h
 subst huz4;walk_at "r";refine ite2 (λ e=>?_) λ n2=>?_
 ·obtain rfl:wy=2:=by omega
  rw[cl2]at q;have k1:("let v = ":V0).length=8:=by decide+kernel
  have k2:(" in ":V0).length=4:=by decide+kernel
  have h:=RR.la2 h1 h2;refine⟨by omega,by rw[RR.len_app];omega,by rw[RR.len_app,RR.len_app];omega,New.of λ p5 H5 h5 s5 e5=>?_⟩;have b1:=d1.same s5;have b2:=d2.same s5;refine⟨p5,_,rfl,rfl,.inr (SqT.of e5),tn2 (Z2G b1).2 (Z2G b2).2,_,rfl,ite2 (λ z=>?_) λ z=>?_⟩
  ·have en:letO "v" o1 o2=none:=by
    rcases(J2m i1.1 i2.1).1 z with rfl|rfl
    ·rfl
    ·cases o1<;>rfl
   rw[en]at h;exact New.of λ p6 H6 h6 s6 e6=>q _ _ _ _ _ none (S4.trans (s5.trans s6)) (SqT.of e6) .non h
  ·obtain⟨a,b,rfl,rfl⟩:=(J2m i1.1 i2.1).2 z;exact New.of λ p6 H6 h6 s6 e6=>New.of λ p7 H7 h7 s7 e7=>q _ _ _ _ _ (some (.mk .lt (.str "v") [a,b])) (S4.trans (s5.trans (s6.trans s7))) (SqT.of e7) (.tup (SqT.of (s7 _ _ e6)) (.cons (.str _) (.cons (.str _) (.cons (b1.same (s6.trans s7)) (.cons (b2.same (s6.trans s7)) .nil))))) h
 subst huz5;walk_at "r";refine ite2 (λ e=>?_) λ n3=>?_
 ·obtain rfl:wy=3:=by omega
  rw[cl3]at q;refine New.of λ a1 G1 f1 g1 e1=>New.of λ a2 G2 f2 g2 e2=>New.of λ a3 G3 f3 g3 e3=>New.of λ a4 G4 f4 g4 e4=>New.of λ a5 G5 f5 g5 e5=>New.of λ a6 G6 f6 g6 e6=>New.of λ a7 G7 f7 g7 e7=>New.of λ a8 G8 f8 g8 e8=>New.of λ a9 G9 f9 g9 e9=>New.of λ b1 J1 m1 j1 r1=>?_;have k78:=g8.trans (g9.trans j1);refine⟨_,SqL.of (j1 _ _ (g9 _ _ e8)),_,ix1,_,rfl,⟨_,SqT.of (k78 _ _ e7),_,ix1,?_⟩⟩;refine New.of λ b2 J2 m2 j2 r2=>New.of λ b3 J3 m3 j3 r3=>⟨_,j3 _ _ (j2 _ _ (j1 _ _ (g9 _ _ e8))),_,r3,by show 2+2<=_;decide+kernel,New.of λ b4 J4 m4 j4 r4=>?_⟩;have T1:Same G1 J4:=g2.trans (g3.trans (g4.trans (g5.trans (g6.trans (g7.trans (k78.trans (j2.trans (j3.trans j4))))))));have T2:Same G2 J4:=g3.trans (g4.trans (g5.trans (g6.trans (g7.trans (k78.trans (j2.trans (j3.trans j4)))))));have T3:Same G3 J4:=g4.trans (g5.trans (g6.trans (g7.trans (k78.trans (j2.trans (j3.trans j4))))));have T4:Same G4 J4:=g5.trans (g6.trans (g7.trans (k78.trans (j2.trans (j3.trans j4)))));have T5:Same G5 J4:=g6.trans (g7.trans (k78.trans (j2.trans (j3.trans j4))));have T6:Same G6 J4:=g7.trans (k78.trans (j2.trans (j3.trans j4)));have T7:Same G7 J4:=k78.trans (j2.trans (j3.trans j4));have T9:Same G9 J4:=j1.trans (j2.trans (j3.trans j4));have T0:Same H4 J4:=g1.trans T1;have na:∀{a:X0},J4 a=some (.tup [.str "name",.str "a"])->RT K J4 (.ref a) (RR.nmT "a").dat:=λ e=>.tup (SqT.of e) (.cons (.str _) (.cons (.str _) .nil));have fb:RT K J4 (.ref a6) RR.fldA.dat:=.tup (SqT.of (T6 _ _ e6)) (.cons (.str _) (.cons (na (T5 _ _ e5)) (.cons (.str _) .nil)));refine⟨sc,ns,2,rfl,SqL.same hsc (S4.trans T0),λ c2=>⟨c2,rfl,?_⟩⟩;obtain⟨vt,hvt,evt⟩:=Z7F (l:=[V.ref a4,V.ref a7,V.ref b1,V.ref b2]) nofun (c2/88) (m:=4) rfl;obtain⟨pt,xt,ut,tt,tv,rfl,tq,rt,st⟩:∃pt xt ut tt tv,vt=V.ref pt/\SqT K J4 pt [.str xt,tv]/\RT K J4 tv (Tm.dat tt)/\RR.St xt ut tt:=by
   simp only[qa2,qa9,or_false]at hvt;rcases hvt with rfl|rfl|rfl|rfl
   ·obtain⟨u,h⟩:=RR.st0;exact⟨_,_,_,.mk .call (.str "b") [RR.nmT "a"],_,rfl,SqT.of (T4 _ _ e4),.tup (SqT.of (T3 _ _ e3)) (.cons (.str _) (.cons (na (T1 _ _ e1)) (.cons (.str _) (.cons (.tup (SqT.of (T2 _ _ e2)) .nil) .nil)))),h⟩
   ·obtain⟨u,h⟩:=RR.st1;exact⟨_,_,_,_,_,rfl,SqT.of (T7 _ _ e7),fb,h⟩
   ·obtain⟨u,h⟩:=RR.st2;exact⟨_,_,_,_,_,rfl,SqT.of ((j2.trans (j3.trans j4)) _ _ r1),na (T9 _ _ e9),h⟩
   ·obtain⟨u,h⟩:=RR.st3;exact⟨_,_,_,_,_,rfl,SqT.of ((j3.trans j4) _ _ r2),fb,h⟩
  have k1:("set ":V0).length=4:=by decide+kernel
  have k2:(".c = ":V0).length=5:=by decide+kernel
  have lt:=st.tx.len;have h:=RR.la3 st h4;have d4':=d4.same T0;refine⟨_,SqL.of r4,_,evt,pt,rfl,⟨_,tq,_,ix0,xt,rfl,by omega,by rw[RR.len_app];omega,by rw[RR.len_app,RR.len_app];omega,ite2 (λ z=>?_) λ z=>⟨pt,rfl,⟨_,tq,tv,ix1,?_⟩⟩⟩⟩
  ·obtain rfl:=i4.1.mp z;exact New.of λ p5 H5 h5 s5 e5=>q _ _ _ _ _ none (S4.trans (T0.trans s5)) (SqT.of e5) .non h
  ·cases o4 with
   |none=>exact(z (i4.1.mpr rfl)).elim
   |some t=>exact New.of λ p6 H6 h6 s6 e6=>New.of λ p7 H7 h7 s7 e7=>q _ _ _ _ _ (some (.mk .set (.str "c") [tt,t])) (S4.trans (T0.trans (s6.trans s7))) (SqT.of e7) (.tup (SqT.of (s7 _ _ e6)) (.cons (.str _) (.cons (rt.same (s6.trans s7)) (.cons (.str _) (.cons (d4'.same (s6.trans s7)) .nil))))) h
 subst huz6;walk_at "r";refine ite2 (λ e=>?_) λ n4=>?_
 ·obtain rfl:wy=4:=by omega
  rw[cl4 (by omega)]at q;have k1:("a.b(":V0).length=4:=by decide+kernel
  have k2:(", ":V0).length=2:=by decide+kernel
  have k3:(")":V0).length=1:=by decide+kernel
  have h:=RR.la4 h1 h2;refine New.of λ a1 G1 f1 g1 e1=>New.of λ a2 G2 f2 g2 e2=>New.of λ a3 G3 f3 g3 e3=>⟨by omega,by rw[RR.len_app];omega,by rw[RR.len_app,RR.len_app];omega,by rw[RR.len_app,RR.len_app,RR.len_app];omega,New.of λ p5 H5 h5 s5 e5=>?_⟩;have S5:=g1.trans (g2.trans (g3.trans s5));have b1:=d1.same S5;have b2:=d2.same S5;refine⟨p5,_,rfl,rfl,.inr (SqT.of e5),tn2 (Z2G b1).2 (Z2G b2).2,_,rfl,ite2 (λ z=>?_) λ z=>?_⟩
  ·have en:(o1.bind λ a=>o2.bind λ b=>some (Tm.mk .call (.str "b") [RR.nmT "a",a,b]))=none:=by
    rcases(J2m i1.1 i2.1).1 z with rfl|rfl
    ·rfl
    ·cases o1<;>rfl
   rw[en]at h;exact New.of λ p6 H6 h6 s6 e6=>q _ _ _ _ _ none (S4.trans (S5.trans s6)) (SqT.of e6) .non h
  ·obtain⟨a,b,rfl,rfl⟩:=(J2m i1.1 i2.1).2 z;exact New.of λ p7 H7 h7 s7 e7=>q _ _ _ _ _ (some (.mk .call (.str "b") [RR.nmT "a",a,b])) (S4.trans (S5.trans s7)) (SqT.of e7) (.tup (SqT.of (s7 _ _ (s5 _ _ e3))) (.cons (.str _) (.cons (.tup (SqT.of (s7 _ _ (s5 _ _ (g3 _ _ (g2 _ _ e1))))) (.cons (.str _) (.cons (.str _) .nil))) (.cons (.str _) (.cons (.tup (SqT.of (s7 _ _ (s5 _ _ (g3 _ _ e2)))) (.cons (b1.same s7) (.cons (b2.same s7) .nil))) .nil))))) h
 subst huz7;walk_at "r";refine ite2 (λ e=>?_) λ n5=>?_
 ·obtain rfl:wy=5:=by omega
  rw[cl4 (by omega)]at q;have k1:("new h(":V0).length=6:=by decide+kernel
  have k3:(")":V0).length=1:=by decide+kernel
  have h:=RR.la5 h1;refine⟨by omega,by rw[RR.len_app];omega,ite2 (λ z=>?_) λ z=>?_⟩
  ·obtain rfl:=i1.1.mp z;exact New.of λ p H5 h5 s5 e5=>q _ _ _ _ _ none (S4.trans s5) (SqT.of e5) .non h
  ·cases o1 with
   |none=>exact(z (i1.1.mpr rfl)).elim
   |some t=>exact New.of λ p5 H5 h5 s5 e5=>New.of λ p6 H6 h6 s6 e6=>New.of λ p7 H7 h7 s7 e7=>q _ _ _ _ _ (some (.mk .new (.str "h") [t])) (S4.trans (s5.trans (s6.trans s7))) (SqT.of e7) (.tup (SqT.of (s7 _ _ e6)) (.cons (.str _) (.cons (.str _) (.cons (.tup (SqT.of (s7 _ _ (s6 _ _ e5))) (.cons (d1.same (s5.trans (s6.trans s7))) .nil)) .nil)))) h
 subst huz8;walk_at "r";refine ite2 (λ e=>?_) λ n6=>?_
 ·obtain rfl:wy=6:=by omega
  rw[cl4 (by omega)]at q;have k1:("elder.w(":V0).length=8:=by decide+kernel
  have k3:(")":V0).length=1:=by decide+kernel
  have h:=RR.la6 h2;refine⟨by omega,by rw[RR.len_app];omega,ite2 (λ z=>?_) λ z=>?_⟩
  ·obtain rfl:=i2.1.mp z;exact New.of λ p H5 h5 s5 e5=>q _ _ _ _ _ none (S4.trans s5) (SqT.of e5) .non h
  ·cases o2 with
   |none=>exact(z (i2.1.mpr rfl)).elim
   |some t=>exact New.of λ p5 H5 h5 s5 e5=>New.of λ p6 H6 h6 s6 e6=>New.of λ p7 H7 h7 s7 e7=>q _ _ _ _ _ (some (.mk .elder (.str "w") [t])) (S4.trans (s5.trans (s6.trans s7))) (SqT.of e7) (.tup (SqT.of (s7 _ _ e6)) (.cons (.str _) (.cons (.str _) (.cons (.tup (SqT.of (s7 _ _ (s6 _ _ e5))) (.cons (d2.same (s5.trans (s6.trans s7))) .nil)) .nil)))) h
 subst huz9;walk_at "r";rw[cl4 (by omega)]at q;have k1:("((":V0).length=2:=by decide+kernel
 have k3:("))":V0).length=2:=by decide+kernel
 exact⟨by omega,by rw[RR.len_app];omega,New.of λ p H5 h5 s5 e5=>q _ _ _ _ _ o1 (S4.trans s5) (SqT.of e5) (d1.same s5) (RR.la7 h1)⟩
theorem J8y{K:y0}{H:Hp}:∀(o:Option V0),RT K H (oS o) (oD o)
 |none=>.non
 |some s=>.str s
inductive Z6R(c:CS)(K:y0)(vs:List V)(H:Hp)(Q:VK):Prop
 |mk(v:V)(d:Wd)(a1:vs=[v])(a2:WdO K c H v d)(a3:∀u H',Same H H'->RT K H' u (Z6g d)->Q u H'):Z6R c K vs H Q
def Z6X(c:CS)(K:y0):Sp:=λ vs H Q _=>Z6R c K vs H Q
inductive Z6E(c:CS)(K:y0)(vs:List V)(H:Hp)(Q:VK):Prop
 |mk(v:V)(d:Hs)(a1:vs=[v])(a2:HsO K c H v d)(a3:d.words.length<=100)(a4:∀u H',Same H H'->RT K H' u (Z6x d)->Q u H'):Z6E c K vs H Q
def Z6n(c:CS)(K:y0):Sp:=λ vs H Q _=>Z6E c K vs H Q
inductive Z7m(c:CS)(K:y0)(vs:List V)(H:Hp)(Q:VK):Prop
 |mk(v:V)(d:Pg)(a1:vs=[v])(a2:PgO K c H v d)(a3:d.houses.length<=100)(a4:(∀h∈d.houses,h.words.length<=100))(a5:∀u H',Same H H'->RT K H' u (J6A d)->Q u H'):Z7m c K vs H Q
def Z7l(c:CS)(K:y0):Sp:=λ vs H Q _=>Z7m c K vs H Q
theorem J1h(T:Txt P w K mg C_Guest Ct Cw Ch Cp C_BadForm D_STRENGTHS D_TRUTHS U_TOLD_WORDS)(h_Term_plain:HasM P w K mg base 1 Ct "plain" ["self"] (Z3w Ct K)):HasM P w K mg base 2 Cw "plain" ["self"] (Z6X (CS.mk Ct Cw Ch Cp C_Guest C_Guest C_Guest C_Guest B) K):=by
 refine HasM.of T.m_Word_plain Z5l (λ _ _ _ _ _ _ us hl=>el1 us hl λ _=>rfl) (λ vs H Q E h=>?_) (λ f cdv A outer s H vs Q E hr h=>?_)
 ·obtain⟨v,d,rfl,_⟩:=h;rfl
 obtain⟨v,d,rfl,hw,q⟩:=h;refine⟨_,(Z0b (Z0k (Z0l (Z0o (qO 0) (qK (qO 0) (qO 0) (Z0u (qO 0) T.Term.cl h_Term_plain hr qS)))))),?_⟩;cases hw with
 |mk f1 f2 f3=>
  obtain⟨ba,dxb,inn,sh,bvs,bws,rfl,hba,_⟩:=f3.inv;walk_at "r";exact⟨Cw,_,_,f1,T.Word.cl,T.n_Word_name,_,rfl,Cw,_,_,f1,T.Word.cl,T.n_Word_params,_,rfl,Cw,_,_,f1,T.Word.cl,T.n_Word_kind,_,rfl,Cw,_,_,f1,T.Word.cl,T.n_Word_body,_,rfl,ba,rfl,dxb,_,hba,rfl,.ref ba,d.body,rfl,f3,λ u ru=>New.of λ p2 H2 h2 s2 e2=>q _ _ s2 (.tup (SqT.of e2) (.cons (.str _) (.cons (f2.same s2) (.cons (.str _) (.cons (ru.same s2) .nil)))))⟩
theorem J1J(T:Txt P w K mg C_Guest Ct Cw Ch Cp C_BadForm D_STRENGTHS D_TRUTHS U_TOLD_WORDS)(h_Word_plain:HasM P w K mg base 2 Cw "plain" ["self"] (Z6X (CS.mk Ct Cw Ch Cp C_Guest C_Guest C_Guest C_Guest B) K)):HasM P w K mg base 3 Ch "plain" ["self"] (Z6n (CS.mk Ct Cw Ch Cp C_Guest C_Guest C_Guest C_Guest B) K):=by
 refine HasM.of T.m_House_plain sc_House_plain (λ _ _ _ _ _ _ us hl=>el1 us hl λ _=>rfl) (λ vs H Q E h=>?_) (λ f cdv A outer s H vs Q E hr h=>?_)
 ·obtain⟨v,d,rfl,_⟩:=h;rfl
 obtain⟨v,d,rfl,hw,hl,q⟩:=h;refine⟨_,(Z0a (qG 1 sc_House_plain.nd (Z0V Z0A rfl T.O0y Z1I (qI (Z0G rfl (BlockOk.plain (N:=["word"]) rfl qP qP qP) (Z3G (qO 0)) (λ C fp s H=>(qH 0 (show(["word"]:List V0).Nodup by decide+kernel))) (λ C fp s H=>(Z0u (pvF 0) T.Word.cl h_Word_plain hr qS)))))) (Z0b (Z0k (Z0l (Z0o (qO 0) (qK (qO 0) (qO 0) (pvF 1))))))),?_⟩;cases hw with
 |mk f1 f2 f3 f4=>
  have l4:=f4.len;refine seq2 λ uz1 huz1=>?_;walk_at "r";refine⟨Ch,_,_,f1,T.House.cl,T.n_House_own_words,_,rfl,_,rfl,⟨_,f3⟩,λ D hD=>?_⟩;refine Z1T (ys:=_) none [] (λ j v H=>∃t,d.words[j]?=some t/\RT K H v (Z6g t)) (λ j v H1 H2 ⟨t,a,b⟩ s=>⟨t,a,b.kp (kpN s)⟩) rfl hD (by rw[sizeLine_eq];omega) (λ H1 s=>SqT.same f3 s) (λ i y hy H1 K' s k=>?_) (λ vs Hc Sc hv lv hR=>?_)
  ·obtain⟨t,ht,hw⟩:=f4.at hy;have hw:=hw.same s;walk_at "r";have hw0:=hw;cases hw with
   |mk k1 k2 k3=>exact⟨_,rfl,_,_,k1,rfl,_,t,rfl,hw0,λ u H2 s2 ru=>k _ _ s2 ⟨t,ht,ru⟩⟩
  refine⟨D,rfl,vs,.inl ⟨SqL.of hv,λ t5 h5=>?_⟩⟩;have s5:=Z0x h5 (.tup vs);have e5:upd Hc t5 (.tup vs) t5=some (.tup vs):=Z0e;generalize upd Hc t5 (.tup vs)=H5 at*;have S5:=Sc.trans s5;have rws:RTs K Hc vs (d.words.map Z6g):=Z5Q Z6g (lv.trans l4) hR;have f1':=S5 _ _ f1;subst huz1;walk_at "r";exact⟨Ch,_,_,f1',T.House.cl,T.n_House_name,_,rfl,Ch,_,_,f1',T.House.cl,T.n_House_elder,_,rfl,Ch,_,_,f1',T.House.cl,T.n_House_own_fields,_,rfl,New.of λ p6 H6 h6 s6 e6=>q _ _ (S5.trans s6) (.tup (SqT.of e6) (.cons (.str _) (.cons (J8y _) (.cons (f2.same (S5.trans s6)) (.cons (.tup (SqT.of (s6 _ _ e5)) (rws.same (s5.trans s6))) .nil)))))⟩
theorem J0A(T:Txt P w K mg C_Guest Ct Cw Ch Cp C_BadForm D_STRENGTHS D_TRUTHS U_TOLD_WORDS)(h_Term_plain:HasM P w K mg base 1 Ct "plain" ["self"] (Z3w Ct K))(h_House_plain:HasM P w K mg base 3 Ch "plain" ["self"] (Z6n (CS.mk Ct Cw Ch Cp C_Guest C_Guest C_Guest C_Guest B) K)):HasM P w K mg base 4 Cp "plain" ["self"] (Z7l (CS.mk Ct Cw Ch Cp C_Guest C_Guest C_Guest C_Guest B) K):=by
 refine HasM.of T.m_Program_plain sc_Program_plain (λ _ _ _ _ _ _ us hl=>el1 us hl λ _=>rfl) (λ vs H Q E h=>?_) (λ f cdv A outer s H vs Q E hr h=>?_)
 ·obtain⟨v,d,rfl,_⟩:=h;rfl
 obtain⟨v,d,rfl,hw,hl,hl2,q⟩:=h;refine⟨_,(Z0a (qG 1 sc_Program_plain.nd (Z0V Z0A rfl T.O0y Z1I (qI (Z0G rfl (BlockOk.plain (N:=["house"]) rfl qP qP qP) (Z3G (qO 0)) (λ C fp s H=>(qH 0 (show(["house"]:List V0).Nodup by decide+kernel))) (λ C fp s H=>(Z0u (pvF 0) T.House.cl h_House_plain hr qS)))))) (Z0b (Z0k (Z0l (qJ (pvF 1) (Z0l (qK (Z3y (qO 0) rfl) (Z3y (qO 0) rfl) (Z0u (Z3y (qO 0) rfl) T.Term.cl h_Term_plain hr qS)))))))),?_⟩;cases hw with
 |mk f1 f2 f3 f4=>
  have l3:=f3.len;refine seq2 λ uz1 huz1=>?_;walk_at "r";refine⟨Cp,_,_,f1,T.Program.cl,T.n_Program_all_houses,_,rfl,_,rfl,⟨_,f2⟩,λ D hD=>?_⟩;refine Z1T (ys:=_) none [] (λ j v H=>∃t,d.houses[j]?=some t/\RT K H v (Z6x t)) (λ j v H1 H2 ⟨t,a,b⟩ s=>⟨t,a,b.kp (kpN s)⟩) rfl hD (by rw[sizeLine_eq];omega) (λ H1 s=>SqT.same f2 s) (λ i y hy H1 K' s k=>?_) (λ vs Hc Sc hv lv hR=>?_)
  ·obtain⟨t,ht,hw⟩:=f3.at hy;have hw:=hw.same s;have l100:=hl2 t (qe2 ht);walk_at "r";have hw0:=hw;cases hw with
   |mk k1 k2 k3 k4=>exact⟨_,rfl,_,_,k1,rfl,_,t,rfl,hw0,l100,λ u H2 s2 ru=>k _ _ s2 ⟨t,ht,ru⟩⟩
  refine⟨D,rfl,vs,.inl ⟨SqL.of hv,λ t5 h5=>?_⟩⟩;have s5:=Z0x h5 (.tup vs);have e5:upd Hc t5 (.tup vs) t5=some (.tup vs):=Z0e;generalize upd Hc t5 (.tup vs)=H5 at*;have S5:=Sc.trans s5;have rws:RTs K Hc vs (d.houses.map Z6x):=Z5Q Z6x (lv.trans l3) hR;have f1':=S5 _ _ f1;have f4':=f4.same S5;cases f4' with
  |mk m1 m2 m3=>
   obtain⟨ba,dxb,inn,sh,bvs,bws,rfl,hba,_⟩:=m3.inv;subst huz1;walk_at "r";exact⟨Cp,_,_,f1',T.Program.cl,T.n_Program_main,_,rfl,_,rfl,Cw,_,_,m1,T.Word.cl,T.n_Word_params,_,rfl,Cp,_,_,f1',T.Program.cl,T.n_Program_main,_,rfl,_,rfl,Cw,_,_,m1,T.Word.cl,T.n_Word_kind,_,rfl,Cp,_,_,f1',T.Program.cl,T.n_Program_main,_,rfl,_,rfl,Cw,_,_,m1,T.Word.cl,T.n_Word_body,_,rfl,ba,rfl,dxb,_,hba,rfl,.ref ba,d.main.body,rfl,m3,λ u ru=>New.of λ p6 H6 h6 s6 e6=>New.of λ p7 H7 h7 s7 e7=>q _ _ (S5.trans (s6.trans s7)) (.tup (SqT.of e7) (.cons (.tup (SqT.of ((s6.trans s7) _ _ e5)) (rws.same (s5.trans (s6.trans s7)))) (.cons (.tup (SqT.of (s7 _ _ e6)) (.cons (m2.same (s6.trans s7)) (.cons (.str _) (.cons (ru.same (s6.trans s7)) .nil)))) .nil)))⟩
open RR (El I3 ThE sgs byS twoD txF mp Sh OD Tl Le La letO LE ShE txB Res rProg)
structure XB(K:y0)(mg:V0->Option Z0)(cb:X0):Prop where
 xB:xIn K cb none=true
 sub:W.mroIn K cb (.ref cb)=some true
inductive Z8i(cg:GC)(K:y0)(vs:List V)(H:Hp)(Q:VK):Prop
 |mk(a:X0)(ns:List Int)(a1:vs=[.ref a])(a2:SqL K H a (ns.map V.int))(a3:ns.length<=63)(a4:TbS cg H)(a5:∀H',Q (.bl true) H'):Z8i cg K vs H Q
def J3j(cg:GC)(K:y0):Sp:=λ vs H Q _=>Z8i cg K vs H Q
theorem ThVs.snoc_inv{K:y0}{H:Hp}:∀{init:List El}{last:El}{xs:List V},ThVs K H xs (init++[last])->∃vi vl,xs=vi++[vl]/\ThVs K H vi init/\ThV K H vl last.1 last.2.2
 |[],last,xs,h=>by
  cases h with
  |cons a b=>cases b;exact⟨[],_,rfl,.nil,a⟩
 |e::init,last,xs,h=>by
  cases h with
  |cons a b=>
   obtain⟨vi,vl,rfl,c,d⟩:=ThVs.snoc_inv b;exact⟨_::vi,vl,rfl,.cons a c,d⟩
theorem ThVs.snoc{K:y0}{H:Hp}{init:List El}{last:El}{vi:List V}{vl:V}(h:ThVs K H vi init)(g:ThV K H vl last.1 last.2.2):ThVs K H (vi++[vl]) (init++[last]):=by
 induction h with
 |nil=>exact .cons g .nil
 |cons a _ ih=>exact .cons a ih
theorem in13:∀w<8,inV (V.int (w:Nat)) [V.int 1,V.int 3]=true->w=1\/w=3:=by decide
theorem J8E(l:Lb){n:Nat}:PD n l.d:=by
 cases l with
 |non=>exact⟨.non,qb4 _⟩
 |int i=>exact⟨.int i,qb4 _⟩
 |bl b=>exact⟨.bl b,qb4 _⟩
 |str x=>exact PD.str
theorem J4c{n:Nat}:∀{ps:List Tm},(∀p∈ps,PD n p.dat)->∀d∈dats ps,PD n d
 |[],_,d,hd=>(qa9 hd).elim
 |p::ps,h,d,hd=>by
  rcases(qa2.mp hd)with rfl|hd
  ·exact h p qa6
  ·exact J4c (λ q hq=>h q (qa8 _ hq)) d hd
theorem J3s{n:Nat}(f:Fm)(l:Lb){ds:List PyData}(h:∀d∈ds,PD n d):∀d∈Z0L f l ds,PD (n+1) d:=by
 have h1:∀d∈ds,PD (n+1) d:=λ d hd=>(h d hd).mono (by omega);have c:∀{x:PyData}{xs:List PyData},PD (n+1) x->(∀d∈xs,PD (n+1) d)->∀d∈x::xs,PD (n+1) d:=λ a b d hd=>(qa2.mp hd).elim (λ z=>z▸a) (b d);have z:∀d∈([]:List PyData),PD (n+1) d:=λ d hd=>(qa9 hd).elim;have s:∀x:V0,PD (n+1) (.str x):=λ x=>PD.str;have lb:PD (n+1) l.d:=J8E l;have tl:∀{p:PyData}{qs:List PyData},ds=p::qs->PD (n+1) p/\(∀d∈qs,PD (n+1) d)/\PD (n+1) (.tuple qs):=λ{p qs} e=>by
  subst e;exact⟨h1 p qa6,λ d hd=>h1 d (qa8 _ hd),PD.tup λ d hd=>h d (qa8 _ hd)⟩
 cases f
 case self=>exact c (s _) h1
 case nt=>exact c (s _) h1
 case iff=>exact c (s _) h1
 case new=>exact c (s _) (c lb (c (PD.tup h) z))
 case elder=>exact c (s _) (c lb (c (PD.tup h) z))
 case call=>
  cases ds with
  |nil=>exact z
  |cons p qs=>obtain⟨a,b,d⟩:=tl rfl;exact c (s _) (c a (c lb (c d z)))
 case field=>
  cases ds with
  |nil=>exact z
  |cons p qs=>obtain⟨a,b,d⟩:=tl rfl;exact c (s _) (c a (c lb b))
 case set=>
  cases ds with
  |nil=>exact z
  |cons p qs=>obtain⟨a,b,d⟩:=tl rfl;exact c (s _) (c a (c lb b))
 all_goals exact c (s _) (c lb h1)
theorem J3T:∀(n:Nat)(t:Tm),t.depth<=n->PD (2*n) t.dat
 |0,.mk f l ps,h=>by rw[Tm.depth]at h;omega
 |n+1,.mk f l ps,h=>by
  rw[Tm.depth]at h;have a:=J3s f l (J4c (n:=2*n) (ps:=ps) λ p hp=>J3T n p (qa1 (Z7U hp) (by omega)));have b:=PD.tup a;rw[Tm.dat];exact b
theorem back:∀ws:List V0,ws=(ws.map K10.cds).map λ l=>(⟨l.toArray⟩:V0)
 |[]=>rfl
 |⟨x⟩::ws=>by
  rw[qc4,qc4,<-back ws]
theorem J6v{x:V0}{ws:List V0}(h:RR.WW x ws)(l:x.length<=6000):Cut x ws:=by
 obtain⟨a,b⟩:=K10.cut_few _ _ _ _ (qa0 _) (h 0);rw[K10.cds_len,qa3]at a;rw[K10.cds_len]at b;exact⟨l,⟨_,h 0,back ws⟩,qa1 a l,λ w hw=>by rw[<-K10.cds_len];exact qa1 (b _ (List.mem_map_of_mem hw)) l⟩
theorem J8x{H H':Hp}(s:∀g,SY g H H'):Kt H H':=⟨λ b xs e=>(s (b+1)).k _ _ (qb2 (qc9 _)) (λ _ z=>by cases z) e,λ b o xs e=>(s (b+1)).k _ _ (qb2 (qc9 _)) (λ _ z=>by cases z) e⟩
theorem J1t:∀(bs:List El)(t:V0){n:Nat},(txB t bs).length<=n->t.length<=n
 |[],t,n,h=>h
 |b::r,t,n,h=>by
  have a:=J1t r _ (show(txB (t++" ; "++b.1) r).length<=n from h);rw[RR.len_app,RR.len_app]at a;omega
theorem Z2N{K:y0}{a:X0}{Q:VK}{H:Hp}{D:X0}{vs:List V}{es:List El}{rest:St}(hD:H D=none)(ha:H a=some (.lst vs))(tv:ThVs K H vs es)(hl:es.length<=100)(hQ:∀ts H',Same H H'->H' D=some (.lst ts)->RTs K H' ts (es.map λ q=>q.2.2)->Q (.ref D) H'):Z3P (Itl K a) (Z3o 0) Z3i (tOp (Z7z K) (Z9u 0) (tC (V.int 1))) D Q (none::rest) (upd H D (.lst [])):=by
 refine Z1v none _ (λ j v H'=>∃x:El,es[j]?=some x/\RT K H' v x.2.2) (λ j v H1 H2 ⟨x,a,b⟩ s=>⟨x,a,b.kt (Z5t s)⟩) rfl hD (by rw[tv.length,sizeLine_eq];omega) (λ H4 s4=>SqL.of (s4 _ _ ha)) (λ i y hy H4 K' s4 kk=>?_) λ ts H4 s4 e4 lt ht=>?_
 ·obtain⟨x,hx,a,u,rfl,b,c⟩:=tv.at hy;walk_at "r";exact⟨_,SqT.same b s4,u,ix1,kk _ _ (Same.refl _) ⟨x,hx,c.same s4⟩⟩
 ·refine hQ ts H4 s4 e4 ?_;have go:∀(ts:List V)(es:List El),ts.length=es.length->(∀(j:Nat)(v:V),ts[j]?=some v->∃x:El,es[j]?=some x/\RT K H4 v x.2.2)->RTs K H4 ts (es.map λ q=>q.2.2):=by
   intro ts;induction ts with
   |nil=>
    intro es l _;cases es with
    |nil=>exact .nil
    |cons a b=>simp at l
   |cons v vs ih=>
    intro es l h;cases es with
    |nil=>simp at l
    |cons a b=>
     obtain⟨x,hx,r⟩:=h 0 v rfl;cases hx;exact .cons r (ih b (by simpa using l) λ j v hv=>h (j+1) v hv)
  exact go ts es (by rw[lt,tv.length]) ht
theorem odL{K:y0}{H:Hp}:∀{ts:List V}{es:List El},RTs K H ts (es.map λ q=>q.2.2)->(∀e∈es,e.2.2=OD e.2.1.2)->(∀z∈ts,TN K H z)/\(hasN ts=true->∃e∈es,¬RR.Som e.2)/\(¬hasN ts=true->∀e∈es,RR.Som e.2)
 |_,[],h,_=>by
  cases h;exact⟨λ z hz=>(qa9 hz).elim,λ z=>(by cases z),λ _ e he=>(qa9 he).elim⟩
 |_,e::es,h,g=>by
  obtain⟨v,r,rfl,h1,h2⟩:=h.inv;have h1:RT K H v e.2.2:=h1;rw[g e qa6]at h1;obtain⟨i1,i2⟩:=Z2G h1;obtain⟨a,b,c⟩:=odL h2 λ x hx=>g x (qa8 _ hx);have hn:hasN (v::r)=true↔v=.non\/hasN r=true:=by
   show(decide (v=.non)||hasN r)=true↔_;rw[qh0,decide_eq_true_eq]
  refine⟨λ z hz=>(qa2.mp hz).elim (λ w=>w▸i2) (a z),λ z=>?_,λ z=>?_⟩
  ·rcases hn.mp z with z|z
   ·exact⟨e,qa6,λ w=>w (i1.mp z)⟩
   ·obtain⟨x,hx,y⟩:=b z;exact⟨x,qa8 _ hx,y⟩
  ·have z1:v≠.non:=λ w=>z (hn.mpr (.inl w));have z2:¬hasN r=true:=λ w=>z (hn.mpr (.inr w));exact λ x hx=>(qa2.mp hx).elim (λ w=>w▸λ y=>z1 (i1.mpr y)) (c z2 x)
theorem J2e(T:Txt P w K mg C_Guest Ct Cw Ch Cp C_BadForm D_STRENGTHS D_TRUTHS U_TOLD_WORDS)(X:XB K mg C_BadForm)(O0c:Has P w K mg base 1 "_law_cell_at" ["_law_script","_law_k"] (Z5r K))(O0v:Has P w K mg base 1 "_law_mixed" ["_law_cell","_law_k"] Z5H)(O0W:Has P w K mg base 2 "_law_row" ["_law_cells","_law_menu"] (J0W K))(O0O:Has P w K mg base 1 "_law_text" ["_law_things","_law_signs"] (Z7q K))(O0A:Has P w K mg base 2 "_law_parted" ["_law_things","_law_signs"] (Z4j K))(O0B:Has P w K mg base 1 "_law_folded" ["_law_trees"] (Z4b K))(O0j:Has P w K mg base 3 "_law_short" ["_law_script","_law_k","_law_menu"] (Z3h K))(O1C:Has P w K mg base 5 "_law_last" ["_law_script","_law_way"] (J0z K))(h_read:HasX P w K mg base (8*17+11) "read" ["text"] (J0e (CS.mk Ct Cw Ch Cp C_Guest C_Guest C_Guest C_Guest B) ⟨C_Guest,C_tb,LP,LQ⟩ C_BadForm K 17))(h_Program_plain:HasM P w K mg base 4 Cp "plain" ["self"] (Z7l (CS.mk Ct Cw Ch Cp C_Guest C_Guest C_Guest C_Guest B) K)){f:X0}{fd:FuncData}(F:Fun K "law" "law" Z9n f fd):FnOk P w K mg base CX0 149 f fd ["_law_script"] (J3j ⟨C_Guest,C_tb,LP,LQ⟩ K):=by
  refine F.ok O0n (λ vs H Q E h=>?_) (λ cdv A outer s H vs Q E hr h=>?_)
  · obtain⟨a,ns,rfl,_⟩:=h;rfl
  obtain⟨sc,ns,rfl,hsc,hn,tb,q⟩:=h;obtain⟨fr,fdr,Fr,br,kr,mr⟩:=h_read.ex;refine⟨_,(Z0a (qG 1 O0n.nd (Z0n Z0S Z0f (Z0n Z1u (qF O0c hr (qJ (pvF 0) Z0f)) Z0f))) (Z0a (Z2q rfl O0n.nd (i:=2) rfl rfl (BlockOk.of (N:=["_law_k","_law_script"]) (nl:=[none,some 0]) (cl:=[("_law_script",s.heap.objs.size+1)]) rfl qP qP rfl (sub1 rfl) (nm:=["_law_script"]) rfl qP rfl (λ i hi j hj=>by
            match i,hi with
            | 0,_=>cases hj
             |1,_=>cases hj;exact⟨_,rfl,rfl,rfl,.inl rfl⟩
            )) (Z4l rfl T.O1u (qI (pvF 1))) (λ C fp s H=>(qH 0 (show(["_law_k","_law_script"]:List V0).Nodup by decide+kernel))) (λ C fp s H=>(qF O0v hr (qJ (qF O0c hr (qJ (pvF 1) (Z0n Z0S Z0f (pvF 0)))) (pvF 0))))) (Z0a (Z2e (qF O0W hr (qJ (pvF 2) Z0c)) (Z1n (n:=2) rfl (Z0q (qH 3 O0n.nd) (Z0q (qH 4 O0n.nd) Z1m)))) (Z0a (qG 5 O0n.nd (qD K (Z0E (Z0o Z0f (Z0o Z0f (Z0o Z0f (Z0o Z0f (Z0o Z0f (Z0o Z0f (Z0o Z0f (Z0o Z0f (qK Z0f Z0f Z0f)))))))))) (Z0n Z1u (qF O0c hr (qJ (pvF 0) Z0f)) Z0f))) (Z0a (qG 6 O0n.nd (Z0E Z1F)) (Z0a (Z0s (qM Z5A (pvF 5) Z0f) (Z0a (Z2e (qF O1C hr (qJ (pvF 0) (pvF 5))) (Z1n (n:=2) rfl (Z0q (qH 7 O0n.nd) (Z0q (qH 8 O0n.nd) Z1m)))) (Z0a (Z0s (PW.pt (Z6C (Z0Q (Z3M PySem.F.plainAttrs_str PySem.F.slot_str_startswith PySem.F.type_str_startswith Z5d (qC K (qD K (pvF 3) qN) Z0f) (qI Z0c))) (Z4z (qM Z7p (pvF 8) Z0v)))) (Z0b (Z2e (Z0l (qJ (Z0n Z0i Z0c (pvF 7)) (Z0l (qJ Z0c (pvF 8))))) (Z8b (pvF 3) qN Z3m))) (Z0b (Z2e (Z0l (qJ (pvF 7) (pvF 8))) (Z8b (pvF 3) qN Z3m)))) (Z0b (Z0s (Z1a (r:=rIn K false) Z1W (pvF 5) (Z0l (qJ Z0f Z0f)) (by with_unfolding_all rfl)) (Z0b (qG 6 O0n.nd (Z0E (qI (qF O0j hr (qK (pvF 0) Z0f Z0c)))))) Z0m)))) Z0m) (Z0a (qG 9 O0n.nd (qF O0O hr (qJ (pvF 3) (pvF 4)))) (Z0a (qG 10 O0n.nd (qF O0A hr (qJ (Z0G rfl (BlockOk.plain (N:=["_law_thing_here"]) rfl qP qP qP) (Z1H (pvF 3)) (λ C fp s H=>(qH 0 (show(["_law_thing_here"]:List V0).Nodup by decide+kernel))) (λ C fp s H=>(qA K 0))) (pvF 4)))) (Z0a (qG 11 O0n.nd Z0v) (Z0a (Z0s (PW.pt (Z6C (qM Z7p (pvF 10) Z0v) (Z4z (Z1a (r:=rInN K true) (J0c hr.units) Z0v (Z0G rfl (BlockOk.plain (N:=["_law_thing_here"]) rfl qP qP qP) (Z1H (pvF 3)) (λ C fp s H=>(qH 0 (show(["_law_thing_here"]:List V0).Nodup by decide+kernel))) (λ C fp s H=>(qA K 0))) (by with_unfolding_all rfl))))) (Z0a (qG 11 O0n.nd (qF O0B hr (qI (Z0n Z8D (pvF 10) (Z0G rfl (BlockOk.plain (N:=["_law_one"]) rfl qP qP qP) (Z1H (pvF 6)) (λ C fp s H=>(qH 0 (show(["_law_one"]:List V0).Nodup by decide+kernel))) (λ C fp s H=>(qA K 0))))))) (Z0b (Z0s (Z1a (r:=rInN K false) (Z6y hr.units) Z0v (Z0G rfl (BlockOk.plain (N:=["_law_one"]) rfl qP qP qP) (Z1H (pvF 6)) (λ C fp s H=>(qH 0 (show(["_law_one"]:List V0).Nodup by decide+kernel))) (λ C fp s H=>(qA K 0))) (by with_unfolding_all rfl)) (Z0b (qG 11 O0n.nd Z0v)) Z0m))) Z0m) (Z0a (Z3I PassesOwn.never rfl (Z1H (pvF 6)) (qH 12 O0n.nd) (Z0b (qG 9 O0n.nd (Z0n Z0i (Z0n Z0i (pvF 9) Z0c) (qA K 12))))) (Z0a (J4t rfl rfl X.xB rfl T.x_BadForm.mgC (λ l E'=>Z0b (qG 13 O0n.nd (Z0u (J1Z (E:=E') Fr (hr.mono (by omega)) rfl mr kr br (qI (Z0n Z0i Z0c (pvF 9)))) T.Program.cl h_Program_plain hr (by omega)))) (λ a=>Z0b (Z0k (Z1i Z3j (pvF 11) Z0v (Z4i _))))) (Z0b (Z0k (Z9I (Z1i Z7p (pvF 11) Z0v (Z4i _)) (Z6u (Z1i (r:=rEqP K) (J5X hr.units) (pvF 13) (Z0l (qJ (Z0l Z1F) (Z0l (qK (Z0l Z1F) Z0c (pvF 11))))) (Z4i _)))))))))))))))))),?_⟩
  refine J7c λ uz12 huz12 uz11 huz11 uz10 huz10 uz9 huz9 uz8 huz8 uz7 huz7 uz6 huz6 uz5 huz5 uz4 huz4 uz3 huz3 uz2 huz2 uz1 huz1=>?_;walk_at "r";refine⟨sc,ns,0,rfl,hsc,λ c0=>?_⟩;subst huz1;walk_at "r";have m0:=Int.emod_nonneg c0 (show(4:Int)≠0 by decide);have m1:=Int.emod_lt_of_pos c0 (show(0:Int)<4 by decide);obtain⟨m,hm⟩:=qj8 m0;rw[hm]at m1 ⊢;clear m0 hm;have e3:(1+(m:Int)).toNat=1+m:=by omega
  refine⟨by omega,by omega,λ cl h1=>?_⟩;rw[e3];refine Z6N none _ (λ j v H'=>∃n:Nat,v=V.int n) (λ j v H1 H2 a _=>a) rfl h1 (by rw[sizeLine_eq];omega) (λ i hi H1 K' s1 kk=>?_) λ cs H1 s1 e1 lc hc=>?_
  · walk_at "r";exact⟨sc,ns,3+i,by simp only[List.cons.injEq,V.int.injEq,and_true,true_and];omega,SqL.same hsc s1,λ c=>⟨c,i,rfl,by omega,by omega,λ n=>kk _ _ (Same.refl _) ⟨n,rfl⟩⟩⟩
  obtain⟨ms,rfl⟩:∃ms:List Nat,cs=ms.map λ n:Nat=>V.int (n:Int):=by
    clear e1 lc;induction cs with
    |nil=>exact⟨[],rfl⟩
    |cons v vs ih=>
      obtain⟨ms,a⟩:=ih λ j v hv=>hc (j+1) v hv;obtain⟨n,rfl⟩:=hc 0 v rfl;exact⟨n::ms,by rw[a];rfl⟩
  rw[qa3]at lc;subst huz2;walk_at "r";refine⟨cl,ms,_,rfl,SqL.of e1,by omega,by omega,by unfold okM;decide+kernel,λ H2 r th sg xs es ss s2 t2 f1 f2 f3 f4 tv te le ls hs=>?_⟩;refine⟨_,rfl,⟨_,t2,rfl,⟨_,_,rfl,⟨_,_,rfl,rfl,?_⟩⟩⟩⟩;subst huz3;walk_at "r";refine New.of λ p3 H3 h3 s3 e3'=>⟨sc,ns,2,rfl,SqL.same hsc (s1.trans (s2.trans s3)),λ c2=>?_⟩;obtain⟨vw,hvw,evw⟩:=Z7F (l:=[V.int 0,V.int 1,V.int 1,V.int 1,V.int 2,V.int 3,V.int 3,V.int 4,V.int 5,V.int 6,V.int 7]) nofun c2 (m:=11) rfl;obtain⟨wy,rfl,hwy⟩:∃wy:Nat,vw=V.int wy/\wy<=7:=by
    simp only[qa2,qa9,or_false]at hvw;rcases hvw with rfl|rfl|rfl|rfl|rfl|rfl|rfl|rfl|rfl|rfl|rfl
    · exact⟨0,rfl,by omega⟩
    · exact⟨1,rfl,by omega⟩
    · exact⟨1,rfl,by omega⟩
    · exact⟨1,rfl,by omega⟩
    · exact⟨2,rfl,by omega⟩
    · exact⟨3,rfl,by omega⟩
    · exact⟨3,rfl,by omega⟩
    · exact⟨4,rfl,by omega⟩
    · exact⟨5,rfl,by omega⟩
    · exact⟨6,rfl,by omega⟩
    · exact⟨7,rfl,by omega⟩
  refine⟨c2,rfl,⟨_,SqL.of e3',_,evw,?_⟩⟩;clear hvw evw;subst huz4;walk_at "r";refine New.of λ bh H4 h4 s4 e4=>?_;obtain⟨init,last,hil⟩:∃init last,init++[last]=es:=⟨es.dropLast,es.getLast (by intro z;rw[z]at ls;simp at ls),qj5 _⟩;have S24:Same H2 H4:=s3.trans s4;have S4:Same H H4:=s1.trans (s2.trans S24);have hin:∀e∈init,ThE e:=λ e he=>te e (hil▸qg0 _ he);have hla:ThE last:=te last (hil▸qc3 _ qa6);have key:∀(H6:Hp)(xs6 bvs:List V)(lst:El)(bs:List El)(cl':Nat)(bh':X0)(a7 a8:Option V),Same H H6->H6 th=some (.lst xs6)->H6 sg=some (.lst (ss.map V.str))->H6 bh'=some (.lst bvs)->ThVs K H6 xs6 (init++[lst])->LE cl' lst->ThVs K H6 bvs bs->(∀b∈bs,ShE b)->bs.length<=1->(bs≠[]->1<cl')->1<=cl'->cl'<=4->
      uz6 {nx:=λ x H'=>Q V.non H',rt:=Q} [some (V.ref sc),some (V.int (1+m)),some (V.ref cl),some (V.ref th),some (V.ref sg),some (V.int wy),some (V.ref bh'),a7,a8,none,none,none,none,none] H6:=by
    intro H6 xs6 bvs lst bs cl' bh' a7 a8 S6 g1 g2 g3 tv6 hle tb6 hbs hb1 hb2 c1 c4;obtain⟨e,er,her⟩:∃e er,init++[lst]=e::er:=by
      cases init with
      |nil=>exact⟨_,_,rfl⟩
      |cons a b=>exact⟨_,_,rfl⟩
    rw[her]at tv6;have ll:ss.length=er.length:=by
      have a:=congrArg qf2 her;have b:=congrArg qf2 hil;simp only[qa5,qa4,qd2]at a b;omega
    have l4:er.length<=3:=by omega
    have hx1:∀x∈e::er,x.1.length<=1000:=λ x hx=>by
      rw[<-her]at hx;rcases qd4.mp hx with z|z
      · obtain⟨t,_,_,h⟩:=hin x z;have:=h.tx.len;omega
      · rw[qa7.mp z];have:=hle.tx.len;omega
    have hs2:∀s∈ss,s∈sgs:=λ s h=>(hs s h).2;obtain⟨u,o,w1,w2,w3,w4,w5,w6⟩:=RR.main12 (bs:=bs) her ll l4 hs2 hin hle c4 c1 hb1 hb2 hbs;have w0:(txF e.1 (ss.zip (er.map Prod.fst))).length<=6000:=J1t bs _ (qa1 (by rw[RR.len_app];omega) w2);subst huz6;walk_at "r";refine⟨th,sg,xs6,e,er,ss,rfl,SqL.of g1,SqL.of g2,tv6,ll,by omega,hx1,λ s h=>J3X s (hs2 s h),λ H7 s7=>?_⟩;have ode:∀x∈e::er,x.2.2=OD x.2.1.2:=λ x hx=>by
      rw[<-her]at hx;rcases qd4.mp hx with z|z
      · obtain⟨t,a,b,_⟩:=hin x z;rw[a,b];rfl
      · rw[qa7.mp z];exact hle.od
    have odb:∀x∈bs,x.2.2=OD x.2.1.2:=λ x hx=>(hbs x hx).od;have lstm:lst∈e::er:=by rw[<-her];exact qc3 _ qa6
    have somT:(∃x∈e::er,¬RR.Som x.2)->¬RR.Som lst.2:=λ⟨x,hx,h⟩=>by
      rw[<-her]at hx;rcases qd4.mp hx with z|z
      · exact(h (hin x z).som).elim
      · rw[qa7.mp z]at h;exact h
    have fin2:∀(H8:Hp)(v vt:V),Same H6 H8->RT K H8 v (OD o)->uz10 {nx:=λ x H'=>Q V.non H',rt:=Q} [some (V.ref sc),some (V.int (1+m)),some (V.ref cl),some (V.ref th),some (V.ref sg),some (V.int wy),some (V.ref bh'),a7,a8,some (V.str (txF e.1 (ss.zip (er.map Prod.fst)))),some vt,some v,none,none] H8:=by
      intro H8 v vt s8 rv;have lb:=tb6.length;subst huz10;walk_at "r";refine⟨⟨_,SqL.of (s8 _ _ g3)⟩,Z7n bvs (λ i σ H'=>Same H8 H'/\∃(t:V0)(o12:Option V),txB t (bs.drop i)=txB (txF e.1 (ss.zip (er.map Prod.fst))) bs/\t.length<=6000+100*i/\σ=[some (V.ref sc),some (V.int (1+m)),some (V.ref cl),some (V.ref th),some (V.ref sg),some (V.int wy),some (V.ref bh'),a7,a8,some (V.str t),some vt,some v,o12,none]) ⟨Same.refl _,_,_,rfl,w0,rfl⟩ (λ i σ H9 hi h=>SqL.of (h.1 _ _ (s8 _ _ g3))) (λ i y σ H9 hy h=>?_) λ σ H9 h=>?_⟩
      · obtain⟨s9,t,o12,et,lt,rfl⟩:=h;obtain⟨b,hb,a',u',rfl,b',c'⟩:=tb6.at hy;walk_at "r";have lb1:=(hbs b (qe2 hb)).sh.tx.len;have k1:(" ; ":V0).length=3:=by decide+kernel
        have il:i<bs.length:=(qb7.mp hb).1;obtain⟨hl',eb⟩:=qb7.mp hb;rw[qg4 hl',eb]at et;exact⟨by omega,⟨_,SqT.same b' (s8.trans s9),_,ix0,b.1,rfl,by rw[RR.len_app];omega,s9,_,et,by rw[RR.len_app,RR.len_app];omega,rfl,_,rfl⟩⟩
      · obtain⟨s9,t,o12,et,lt,rfl⟩:=h;have z0:bs.drop bvs.length=[]:=qg5 (by omega);rw[z0]at et;have et:t=txB (txF e.1 (ss.zip (er.map Prod.fst))) bs:=et;subst et;have S9:Same H H9:=S6.trans (s8.trans s9);have rv9:=rv.same s9;have iv:=Z2G rv9;subst huz11;walk_at "r";refine⟨λ σ cl' ed H'=>cl'=.ref C_BadForm/\o=none/\∃o12 o13,σ=[some (V.ref sc),some (V.int (1+m)),some (V.ref cl),some (V.ref th),some (V.ref sg),some (V.int wy),some (V.ref bh'),a7,a8,some (V.str (txB (txF e.1 (ss.zip (er.map Prod.fst))) bs)),some vt,some v,o12,o13],?_,?_⟩
        · walk_at "r";have k1:("main() number = ":V0).length=16:=by decide+kernel
          refine⟨by rw[RR.len_app]at w2;omega,_,_,rfl,J6v w1 w2,tb.same S9,?_⟩;rw[w3];cases o with
          |none=>exact λ H' sy=>⟨rfl,rfl,_,rfl⟩
          |some t=>
            show ∀v H',_->_->_->_;intro vp H10 sy tb10 pg;obtain⟨tk,td,ts⟩:=w4 t rfl;have pg0:=pg;cases pg with
            |mk p1 p2 p3 p4=>
              refine⟨_,rfl,⟨_,_,p1,rfl,_,RR.pg12 t,rfl,pg0,qb4 _,λ h hh=>(qa9 hh).elim,λ fu H11 s11 rf=>?_⟩⟩;have rv11:=(rv9.kt (J8x sy)).same s11;have vn:¬v=V.non:=λ z=>by have:=iv.1.mp z;cases this
              subst huz12;walk_at "r";refine ite2 (λ _=>?_) λ z=>(z vn).elim;refine New.of λ a1 G1 f1 g1' e1'=>New.of λ a2 G2 f2 g2' e2'=>New.of λ a3 G3 f3 g3' e3''=>New.of λ a4 G4 f4 g4' e4'=>?_;have pd:=J3T 14 t td;have pp:PD 60 (.tuple [.tuple [],.tuple [.tuple [],.str "number",t.dat]]):=(PD.tup (n:=59) λ d hd=>by
                rcases(qa2.mp hd)with rfl|hd
                · exact PD.tup (n:=58) λ d hd=>(qa9 hd).elim
                · rw[qa7.mp hd];refine PD.tup (n:=58) λ d hd=>?_;rcases(qa2.mp hd)with rfl|hd
                  · exact PD.tup (n:=57) λ d hd=>(qa9 hd).elim
                  · rcases(qa2.mp hd)with rfl|hd
                    · exact PD.str
                    · rw[qa7.mp hd];exact pd.mono (by omega))
              exact⟨_,rf.same (g1'.trans (g2'.trans (g3'.trans g4'))),.tup (SqT.of e4') (.cons (.tup (SqT.of (g4' _ _ (g3' _ _ (g2' _ _ e1')))) .nil) (.cons (.tup (SqT.of (g4' _ _ e3'')) (.cons (.tup (SqT.of (g4' _ _ (g3' _ _ e2'))) .nil) (.cons (.str _) (.cons (rv11.same (g1'.trans (g2'.trans (g3'.trans g4')))) .nil)))) .nil)),pp.p,pp.d,q _⟩
        · rintro σ' a C ed H' hl ⟨ec,eo,o12',o13',rfl⟩ hx;obtain rfl:C=C_BadForm:=by injection ec
          refine⟨⟨_,X.xB⟩,X.sub,?_⟩;walk_at "r";rw[iv.1.mpr eo];exact q H'
    subst huz7;walk_at "r";refine⟨⟨_,SqL.of (s7 _ _ g1)⟩,λ tr h8=>Z2N h8 (s7 _ _ g1) (tv6.same s7) (by simp only[qa4];omega) λ ts H8 s8 e8 rt8=>?_⟩;have S8:=s7.trans s8;refine⟨tr,sg,ts,e.2.2,er.map λ q:El=>q.2.2,ss,rfl,⟨SqL.of e8,SqL.of (S8 _ _ g2),rt8,by rw[qa3];exact ll,by rw[qa3];omega,hs2⟩,λ H9 s9 ep=>?_,λ H9 a xs' g r s9 ep ha hxs rr lr=>?_⟩
    · have eo:o=none:=by
        by_cases hz:RR.Som lst.2
        · by_cases hz2:∀S∈bs,RR.Som S.2
          · have:=w5 hz hz2;unfold RR.dueD at this;rw[ep]at this;cases o with
            |none=>rfl
            |some t=>cases this
          · exact w6 (.inr (qf0 λ w=>hz2 λ S hS=>qf0 λ y=>w ⟨S,hS,y⟩))
        · exact w6 (.inl hz)
      subst eo;subst huz8;walk_at "r";subst huz9;walk_at "r";exact fin2 _ _ _ (S8.trans s9) .non
    · skip
      subst huz8;walk_at "r";subst huz9;walk_at "r";have S9:=S8.trans s9;refine⟨⟨_,SqL.of (S9 _ _ g1)⟩,λ tr2 h10=>Z2N h10 (S9 _ _ g1) (tv6.same S9) (by simp only[qa4];omega) λ ts2 H10 s10 e10 rt10=>?_⟩;obtain⟨o1,o2,o3⟩:=odL rt10 ode;refine⟨tr2,ts2,rfl,rfl,.inl (SqL.of e10),o1,_,rfl,ite2 (λ z=>?_) λ z=>?_⟩
      · have sl:RR.Som lst.2:=o3 (by simpa using z) lst lstm;have S10:=S9.trans s10;refine⟨⟨_,SqL.of (S10 _ _ g3)⟩,λ bt h11=>Z2N h11 (S10 _ _ g3) (tb6.same S10) (by omega) λ bt1 H11 s11 e11 rt11=>?_⟩;have a11:H11 a=some (.lst xs'):=s11 _ _ (s10 _ _ hxs);have rr11:=rr.same (s10.trans s11);refine⟨bt,rfl,xs',a11,bt1,e11,?_,New.of λ p12 H12 h12 s12 e12=>?_⟩
        · have l1:=rr.length;have l2:=rt11.length;simp only[qa4,qa3]at l1 l2;omega
        have S12:=S10.trans (s11.trans s12);have rcat:RTs K H12 (xs'++bt1) (g::(r++bs.map λ q=>q.2.2)):=(rr11.app rt11).same s12;refine .inr ⟨p12,_,g,_,rfl,SqL.of e12,rcat,λ H13 v13 s13 r13=>?_⟩;have S13:=S12.trans s13;refine⟨⟨_,SqL.of (S13 _ _ g3)⟩,λ bt2 h14=>Z2N h14 (S13 _ _ g3) (tb6.same S13) (by omega) λ bts2 H14 s14 e14 rt14=>?_⟩;obtain⟨b1,b2,b3⟩:=odL rt14 odb;refine⟨bt2,bts2,rfl,rfl,.inl (SqL.of e14),b1,_,rfl,ite2 (λ z2=>?_) λ z2=>?_⟩
        · have eo:o=none:=w6 (.inr (b2 z2));subst eo;exact fin2 _ _ _ (S13.trans s14) .non
        · have du:=w5 sl (b3 z2);unfold RR.dueD at du;rw[ep]at du;cases o with
          |none=>cases du
          |some t=>
            injection du with du
            have du:RR.foS twoD g (r++bs.map λ q=>q.2.2)=t.dat:=du;rw[du]at r13;exact fin2 _ _ _ (S13.trans s14) (r13.same s14)
      · have eo:o=none:=w6 (.inl (somT (o2 (by simpa using z))));subst eo;exact fin2 _ _ _ (S9.trans s10) .non
  have f24:=S24 _ _ f2;have tv4:=tv.same S24;rw[<-hil]at tv4;subst huz5;walk_at "r";refine ite2 (λ e=>?_) λ e=>?_
  · obtain⟨vi,vl,rfl,tvi,tvl⟩:=tv4.snoc_inv;have w1:1<=wy:=by omega
    have fin:∀(H5:Hp)(vn:V)(lst:El)(u7 u8:V),Same H H5->H5 th=some (.lst (vi++[vn]))->H5 sg=some (.lst (ss.map V.str))->H5 bh=some (.lst [])->ThVs K H5 vi init->ThV K H5 vn lst.1 lst.2.2->LE (clOf wy) lst->
        New H5 (HO.tup [V.int 1,V.int 3]) λ p H2=>∃ x,(SqL K H2 p x\/SqT K H2 p x)/\Z3c (V.int wy)=true/\x.all Z3c=true/\if inV (V.int wy) x=true then Z3h K [V.ref sc,V.int 6,V.str "<=+-*/;"] H2 (λ x H1=>New H1 (HO.lst [x]) λ p H2=>uz6 { nx:=λ x H'=>Q V.non H',rt:=Q } [some (V.ref sc),some (V.int (1+m)),some (V.ref cl),some (V.ref th),some (V.ref sg),some (V.int wy),some (V.ref p),some u7,some u8,none,none,none,none,none] H2) E0
          else uz6 {nx:=λ x H'=>Q V.non H',rt:=Q} [some (V.ref sc),some (V.int (1+m)),some (V.ref cl),some (V.ref th),some (V.ref sg),some (V.int wy),some (V.ref bh),some u7,some u8,none,none,none,none,none] H2:=by
      intro H5 vn lst u7 u8 S5 g1 g2 g3 t5 tn hle;have cl4:1<=clOf wy/\clOf wy<=4:=by
        unfold clOf;split
        · omega
        · split<;>omega
      refine New.of λ p H6 h6 s6 e6=>⟨_,.inr (SqT.of e6),rfl,rfl,ite2 (λ z=>?_) λ z=>?_⟩
      · have c2:clOf wy=2:=by unfold clOf;rw[if_pos (in13 wy (by omega) z)]
        refine⟨sc,ns,6,_,rfl,SqL.same hsc (S5.trans s6),by omega,by unfold okM;decide+kernel,λ H7 r7 v7 x7 u7' o7 s7 t7 d7 h7=>New.of λ p8 H8 h8 s8 e8=>?_⟩;have h7:Sh true x7 u7' o7:=h7;have K8:=s6.trans (s7.trans s8);exact key _ _ _ lst [(x7,((u7',o7),OD o7))] (clOf wy) p8 _ _ (S5.trans K8) (K8 _ _ g1) (K8 _ _ g2) e8 ((t5.snoc tn).same K8) hle (.cons ⟨_,_,rfl,SqT.same t7 s8,d7.same s8⟩ .nil) (λ b hb=>by rw[qa7.mp hb];exact⟨h7,rfl⟩) (by simp) (λ _=>by omega) cl4.1 cl4.2
      · exact key _ _ _ lst [] (clOf wy) bh _ _ (S5.trans s6) (s6 _ _ g1) (s6 _ _ g2) (s6 _ _ g3) ((t5.snoc tn).same s6) hle .nil (λ b hb=>(qa9 hb).elim) (by simp) (λ z=>(z rfl).elim) cl4.1 cl4.2
    refine⟨sc,ns,wy,rfl,SqL.same hsc S4,w1,hwy,λ H5 r5 v5 x5 u5 o5 s5 t5 d5 h5=>⟨_,rfl,⟨_,t5,rfl,⟨_,_,rfl,⟨_,_,rfl,rfl,?_⟩⟩⟩⟩⟩;obtain⟨pl,ul,rfl,bl,cl5⟩:=tvl;have i5:=Z2G d5;have l5:=h5.tx.len;have k1:("not ":V0).length=4:=by decide+kernel
    have f25:H5 th=some (.lst (vi++[V.ref pl])):=s5 _ _ f24;have f35:H5 sg=some (.lst (ss.map V.str)):=s5 _ _ (S24 _ _ f3);have thn:∀{G:Hp}{o:HO},Same H5 G->Kt G (upd G th o):=λ sg'=>Kt.put _ (sg' _ _ f25) (λ _ z=>by cases z) (λ _ _ z=>by cases z);have hth:H th=none:=by
      cases hz:H th with
      |none=>rfl
      |some o=>have:=s1 _ _ hz;rw[f1]at this;cases this
    have sth:∀{G:Hp}{o:HO},Same H G->Same H (upd G th o):=λ sg' b o e=>by rw[Z0h (λ z=>by rw[z,hth]at e;cases e)];exact sg' b o e
    have nbh:bh≠th:=λ z=>by rw[z,(s3 _ _ f2)]at h4;cases h4
    have e45:=s5 _ _ e4;have finN:∀{G:Hp}(vn:V)(lst:El),Same H5 G->ThV K (upd G th (.lst (vi++[vn]))) vn lst.1 lst.2.2->LE (clOf wy) lst->_:=λ{G} vn lst sg' a b=>fin (upd G th (.lst (vi++[vn]))) vn lst (.str x5) v5 (sth (S4.trans (s5.trans sg'))) Z0e (by rw[Z0h f4.symm];exact sg' _ _ f35) (by rw[Z0h nbh];exact sg' _ _ e45) ((tvi.same (s5.trans sg')).kt (thn sg')) a b;refine⟨_,SqL.of f25,_,Z3Q _ _,pl,rfl,⟨_,SqT.same bl s5,_,ix0,rfl,_,rfl,ite2 (λ z=>ite2 (λ z2=>?_) λ z2=>?_) λ z=>?_⟩⟩
    · cases o5 with
      |none=>exact(z2 (i5.1.mpr rfl)).elim
      |some t=>
        refine⟨x5,rfl,by omega,New.of λ p6 H6 h6 s6 e6=>New.of λ p7 H7 h7 s7 e7=>⟨_,s7 _ _ (s6 _ _ f25),_,Z3x,?_⟩⟩;rw[Z3l];exact finN (.ref p7) _ (s6.trans s7) ⟨p7,.ref p6,rfl,SqT.kt (SqT.of e7) (thn (s6.trans s7)),.kt (thn (s6.trans s7)) (.tup (SqT.of (s7 _ _ e6)) (.cons (.str _) (.cons (d5.same (s6.trans s7)) .nil)))⟩ (RR.le_not h5)
    · refine New.of λ p7 H7 h7 s7 e7=>⟨_,s7 _ _ f25,_,Z3x,?_⟩;rw[Z3l];exact finN (.ref p7) _ s7 ⟨p7,v5,rfl,SqT.kt (SqT.of e7) (thn s7),(d5.same s7).kt (thn s7)⟩ (RR.le_la h5)
    · refine New.of λ p7 H7 h7 s7 e7=>⟨_,s7 _ _ f25,_,Z3x,?_⟩;rw[Z3l];exact finN (.ref p7) _ s7 ⟨p7,v5,rfl,SqT.kt (SqT.of e7) (thn s7),(d5.same s7).kt (thn s7)⟩ (RR.le_la h5)
  · exact key _ _ _ _ [] 4 bh _ _ S4 f24 (S24 _ _ f3) e4 tv4 (RR.le_th hla) .nil (λ b hb=>(qa9 hb).elim) (by simp) (λ z=>(z rfl).elim) (by omega) (by omega)
open RR (Res rProg bodies)
inductive J4k(tb:X0)(K:y0)(vs:List V)(H:Hp)(Q:VK):Prop
 |mk(a:X0)(ns:List Int)(a1:vs=[.ref a])(a2:SqL K H a (ns.map V.int))(a3:ns.length<=63)(a4:H tb=some (.tbl #[]))(a5:∀H',Q (.bl true) H'):J4k tb K vs H Q
def sp_law(tb:X0)(K:y0):Sp:=λ vs H Q _=>J4k tb K vs H Q
theorem sp_law_ok{tb:X0}{K:y0}{H:Hp}{a:X0}{ns:List Int}(hl:ns.length<=63)(ht:H tb=some (.tbl #[]))(hS:SqL K H a (ns.map V.int)):sp_law tb K [.ref a] H (λ v _=>v=.bl true) λ _ _ _=>False:=⟨a,ns,rfl,hS,hl,ht,λ _=>rfl⟩
structure Ex(K:y0)(mg:V0->Option Z0)(aF aP Hc B' fi c:X0):Prop where
 mF:mg "BadForm"=some (.ref aF)
 mP:mg "Program"=some (.ref aP)
 D:K10.Bad K mg Hc B' fi
 I:∃di,Fun K "__init__" "BadWords.__init__" K10.sInit fi di
 X:XB K mg aF
 F:FnC K mg "read_terms" Z0B c
theorem ex_mk{K:y0}{mg:V0->Option Z0}{h:N0}{aF aP Hc B' fi c rt:X0}{oc oc' kV dc pm ct cd' kV' dc' pm' ct':Z0}{od od' an an':Option X0}{sl sl':Array (Option Z0)}(X:K.In h)(G:h.Ns mainGlobals mg)(aF0:W.nsIn K mainGlobals "BadForm"=some (some (.ref aF)))(aP0:W.nsIn K mainGlobals "Program"=some (some (.ref aP)))(aH:W.nsIn K mainGlobals "HouseError"=some (some (.ref Hc)))(aB:W.nsIn K mainGlobals "BadWords"=some (some (.ref B')))(aR:W.nsIn K mainGlobals "read_terms"=some (some (.ref rt)))(lR:K.lookup rt=some ⟨oc,od,.func (W.fnOf "read_terms" "read_terms" (Z0O Z0B) (Z0y Z0B) (Z0d Z0B) .none kV dc pm an (.ref c) ct),sl⟩)(cR:W.codeIn K (.ref c) "read_terms"=true)(kR:W.keepIn K (.ref rt)=true)(fI:W.findIn K (.ref B') "__init__"=some (some (.ref fi)))(lI:K.lookup fi=some ⟨oc',od',.func (W.fnOf "__init__" "BadWords.__init__" (Z0O K10.sInit) (Z0y K10.sInit) (Z0d K10.sInit) .none kV' dc' pm' an' cd' ct'),sl'⟩)(cI:W.codeIn K cd' "BadWords.__init__"=true)(kI:W.keepIn K (.ref fi)=true)(iI:W.isFn K (.ref fi)=true)(z1:W.nsIn K mainGlobals "isinstance"=some none)(z2:W.nsIn K mainGlobals "str"=some none)(s1:W.specialIn K (.ref Hc) "__getattribute__"=some (some (.builtin "type.__getattribute__")))(s2:W.readsIn K Hc (.type "type")=true)(s3:W.findCls K (.ref Hc) (.type "type") "__init__"=some (.val (.builtin "ValueError.__init__")))(xH:xIn K Hc none=true)(xB:xIn K B' (some fi)=true)(xF:xIn K aF none=true)(q1:W.findIn K (.ref B') "__setattr__"=some (some (.builtin "object.__setattr__")))(q2:W.valueOver K B'=true)(q3:W.hasDictIn K B'=true)(q4:W.findIn K (.ref B') "__getattribute__"=some (some (.builtin "BaseException.__getattribute__")))(q5:W.findIn K (.ref B') "__getattr__"=some none)(q6:W.mroIn K B' (.type "BaseException")=some true)(q7:W.findIn K (.ref B') "__class__"=some (some (.builtin "object.__class__")))(q8:W.specialIn K (.builtin "object.__class__") "__get__"=some (some (.builtin "getset_descriptor.__get__")))(q9:W.takesIn K (.builtin "object.__class__")=some true)(q10:W.mroIn K B' (.type "object")=some true)(no:W.findIn K (.ref B') "at"=some none)(kB:W.keepIn K (.ref B')=true)(sub:W.mroIn K B' (.ref Hc)=some true)(subF:W.mroIn K aF (.ref aF)=some true):Ex K mg aF aP Hc B' fi c:=
  ⟨W.mg_of X G aF0,W.mg_of X G aP0,⟨W.mg_of X G aH,W.mg_of X G aB,⟨s1,s2,s3⟩,xH,xB,⟨q1,q2,q3,q4,q5,q6,q7,q8,q9,q10⟩,no,kB,iI,sub,W.mg_none_of X G z1,W.mg_none_of X G z2⟩,⟨_,Z9f lI cI kI⟩,⟨xF,subF⟩,⟨rt,oc,od,kV,dc,pm,an,ct,sl,lR,cR,kR,W.mg_of X G aR⟩⟩
theorem ok_law(T:Txt P w K mg C_Guest Ct Cw Ch Cp C_BadForm D_STRENGTHS D_TRUTHS U_TOLD_WORDS){aF aP Hc B' fi c:X0}(E:Ex K mg aF aP Hc B' fi c)(hC:CodeHdK K c C_tb)(hK:K.In base)(hB:BAt mg base){f:X0}{fd:FuncData}(F:Fun K "law" "law" Z9n f fd):FnOk P w K mg base CX0 149 f fd ["_law_script"] (sp_law C_tb K):=by
 obtain⟨mF,mP,D,⟨di,I⟩,X,FC⟩:=E;cases T.x_BadForm.mgC.symm.trans mF;cases T.Program.mgC.symm.trans mP;have gi:=J2O (P:=P) (w:=w) (base:=base) (C_tb:=C_tb) (LP:=⟨261,29,261,79⟩) (LQ:=(("read_terms":V0)++".<locals>.")++"<lambda>") T;have ga:=Z3p (P:=P) (w:=w) (base:=base) (C_tb:=C_tb) (LP:=⟨261,29,261,79⟩) (LQ:=(("read_terms":V0)++".<locals>.")++"<lambda>") T;have gt:=Z9a T ga;have gs:=Z3f T ga;have gn:=Z5E T gs;have nm:=λ base=>J1u (P:=P) (w:=w) (base:=base) T;have gm:=Z6O T ga gt (nm base);have ge:=Z9W T ga;have rk:=J2a T gs gm;have rp:=J2u T gm rk;have nf:=Z9U (P:=P) (w:=w) (base:=base) T;have rt:=(J1s T FC hC rfl rfl (λ base=>J2P T) nm 17 base hK hB).1;have rl:=Z8n (j:=5) T qS gn gs;have po:=J2s (P:=P) (w:=w) (base:=base) T;have rw':=J2H T hK rp rl nf rk gn rt (J2U (B:=λ _=>none) T po);have rh:=J0g T gm gs gn rp nf rw' (J1W T po);have bo:=Z9R (P:=P) (w:=w) (base:=base) (B:=λ _=>none) T;have td:=Z6z (P:=P) (w:=w) (base:=base) T;have ts:=Z8c (P:=P) (w:=w) (base:=base) T;have nb:=Z9t T bo td ts;have wd:=J1e T D (K10.ok_init (P:=P) (w:=w) (base:=base) I D) (I.binds λ _ _ _ _ _ _ us hl=>match us,hl with|[_,_],_=>rfl);have rr:=J2p T wd (J1Y T) gi gs rh nf gn rw' ge (J3o T) nb;have ce:=J5r (P:=P) (w:=w) (base:=base) T;have mx:=J3l (P:=P) (w:=w) (base:=base) T;have lr:=J7p (P:=P) (w:=w) (base:=base) T (J2V T);have lt:=J5y (P:=P) (w:=w) (base:=base) T;have lp:=J1y (P:=P) (w:=w) (base:=base) T (J8V T);have lf:=Z9S (P:=P) (w:=w) (base:=base) T;have ls:=J3a T ce mx lr lt lp lf;have ll:=J4Y T ce ls (J4W T ls);have tp:=Z6m (P:=P) (w:=w) (base:=base) T;have pp:=J0A (B:=λ _=>none) T tp (J1J T (J1h T tp));refine(J2e T X ce mx lr lt lp lf ls ll rr pp F).imp λ vs H Q E h=>?_;obtain⟨a,ns,rfl,h1,h2,h3,h4⟩:=h;exact⟨a,ns,rfl,h1,h2,.inl h3,h4⟩
end K12
end
end
section
namespace K12
open PySem L2
theorem kbT:∀P,(KB P).lookup 388=none:=λ _=>by kernel_rfl
theorem kbC:∀P,L2.CodeHdK (KB P) 392 388:=λ _=>⟨none,#[(.str "read_terms" 757),(.str "read_terms" 758),(.str "/claim/cut.py" 759),(.int (260) 0),(.int (2) 0),(.int (0) 0),(.int (0) 0),(.int (3) 0),(.ref 387),(.bool true),(.int (181) 0),(.ref 388),.none,(.ref 389),(.ref 390),(.ref 391),(.int (764) 0),(.int (260) 0),(.str "/claim/cut.py" 765)],#[],"/claim/cut.py",765,3,0,true,181,0,by kernel_rfl,rfl,rfl,rfl,rfl,rfl,rfl,qQ⟩
end K12
end
open PySem PySem.W PyProof.Rows
set_option maxRecDepth 100000 in
set_option maxHeartbeats 0 in
theorem PySem.Challenge.cw_elderhouse_k12_strengths_holds : PySem.Challenge.rw_elderhouse_k12_strengths.Holds := by
 w_on
 refine holds_law K12.ws0 λ said=>?_
 refine holds_open (q:=K12.qv) (loose:=["TRUTHS","STRENGTHS"]) (Xt:=λ s=>xlAt K12.qv [] s&&recOk (RowW.records K12.rv) s) (XP:=XL K12.qv []) (Yf:=Hook.obs (kHook K12.KK K12.KA K12.ka_eq)) (Ya:=Hook.val (kHook K12.KK K12.KA K12.ka_eq)) (YP:=Hook.says (kHook K12.KK K12.KA K12.ka_eq)) (N:=7780) K12.left (Hook.of (kHook K12.KK K12.KA K12.ka_eq)) (Hook.keeps (kHook K12.KK K12.KA K12.ka_eq)) (λ s e=>xl_of s (qi3.mp e).1) XL.keeps (by rfl) (by rfl) (by rfl) (λ s e=>recFacts_of (qi3.mp e).2) (by rfl) said qP ⟨rfl,rfl,rfl,rfl,rfl,qP⟩ ?hw ?hc
 case hw=>w_witness2
 refine L2.J2l (l:=rw0) (n:=63) (k:=149) (x:="_law_script") (c:=392) (T0:=388) (K:=K12.KB) (CX:=λ _=>L2.CX0) (sp:=λ w=>K12.sp_law 388 (K12.KB w.params)) rfl qQ rfl ⟨rfl,qQ,qQ,rfl⟩ (λ w h Y=>L2.J4F (W.kIn_of Y) (K12.kbT w.params)) (λ w=>K12.kbT w.params) (λ w=>K12.kbC w.params) ?F ?S (λ _ _ _ _ _ z=>z)
 case F=>
  intro w mg fa h KX G hmg
  k_fill
  have T:∃C_Guest Ct Cw Ch Cp C_BadForm D_STRENGTHS D_TRUTHS U_TOLD_WORDS,K12.Txt (rw0.prog) w (L2.KOf KX) mg C_Guest Ct Cw Ch Cp C_BadForm D_STRENGTHS D_TRUTHS U_TOLD_WORDS:=by
   dsimp only[L2.KOf]
   refine' ⟨_,_,_,_,_,_,_,_,_,K12.Txt.mk (W.mg_none_of KX G ?x0) (W.mg_none_of KX G ?x1) (W.mg_none_of KX G ?x2) (W.mg_none_of KX G ?x3) (W.mg_none_of KX G ?x4) (W.mg_none_of KX G ?x5) (W.mg_none_of KX G ?x6) (W.mg_none_of KX G ?x7) (W.mg_none_of KX G ?x8) (W.mg_none_of KX G ?x9) (W.mg_none_of KX G ?x10) (W.mg_none_of KX G ?x11) (W.mg_none_of KX G ?x12) (L2.Z1w KX G ?x13) (L2.Z4E KX G ?x14) (L2.Z4E KX G ?x15) (L2.Z4E KX G ?x16) (L2.Z1w KX G ?x17) (L2.Z1w KX G ?x18) (L2.Z1w KX G ?x19) (L2.Z1w KX G ?x20) (L2.Z1w KX G ?x21) (L2.Z1w KX G ?x22) (L2.Z1w KX G ?x23) (L2.Z1w KX G ?x24) (L2.Z1w KX G ?x25) (L2.Z1w KX G ?x26) (L2.Z1w KX G ?x27) (L2.Z4E KX G ?x28) (L2.Z4E KX G ?x29) (L2.Z1w KX G ?x30) (L2.Z7R KX G ?x31) (L2.Z8h ?x32 ?x33 ?x34 ?x35 qQ ?x36) (L2.Z7R KX G ?x37) (L2.Z8h ?x38 ?x39 ?x40 ?x41 qQ ?x42) (L2.Z7R KX G ?x43) (L2.J4L ?x44 ?x45 ?x46 ?sz_TOLD_WORDS ?x47) (L2.Z0M KX G ?x48 ?x49 ?x50 ?x51) (L2.Z0M KX G ?x52 ?x53 ?x54 ?x55) (L2.Z0M KX G ?x56 ?x57 ?x58 ?x59) (L2.Z0M KX G ?x60 ?x61 ?x62 ?x63) (L2.Z0M KX G ?x64 ?x65 ?x66 ?x67) (L2.Z0M KX G ?x68 ?x69 ?x70 ?x71) (L2.Z0M KX G ?x72 ?x73 ?x74 ?x75) (L2.Z0M KX G ?x76 ?x77 ?x78 ?x79) (L2.Z0M KX G ?x80 ?x81 ?x82 ?x83) (L2.Z0M KX G ?x84 ?x85 ?x86 ?x87) (L2.Z0M KX G ?x88 ?x89 ?x90 ?x91) (L2.Z0M KX G ?x92 ?x93 ?x94 ?x95) (L2.Z0M KX G ?x96 ?x97 ?x98 ?x99) (L2.Z0M KX G ?x100 ?x101 ?x102 ?x103) (L2.Z0M KX G ?x104 ?x105 ?x106 ?x107) (L2.Z0M KX G ?x108 ?x109 ?x110 ?x111) (L2.Z0M KX G ?x112 ?x113 ?x114 ?x115) (L2.Z0M KX G ?x116 ?x117 ?x118 ?x119) (L2.Z0M KX G ?x120 ?x121 ?x122 ?x123) (L2.Z0M KX G ?x124 ?x125 ?x126 ?x127) (L2.Z0M KX G ?x128 ?x129 ?x130 ?x131) (L2.Z0M KX G ?x132 ?x133 ?x134 ?x135) (L2.Z0M KX G ?x136 ?x137 ?x138 ?x139) (L2.Z0M KX G ?x140 ?x141 ?x142 ?x143) (L2.Z0M KX G ?x144 ?x145 ?x146 ?x147) (L2.Z0M KX G ?x148 ?x149 ?x150 ?x151) (L2.Z0M KX G ?x152 ?x153 ?x154 ?x155) (L2.Z0M KX G ?x156 ?x157 ?x158 ?x159) (L2.Z0M KX G ?x160 ?x161 ?x162 ?x163) (L2.Z0M KX G ?x164 ?x165 ?x166 ?x167) (L2.Z0M KX G ?x168 ?x169 ?x170 ?x171) (L2.Z0M KX G ?x172 ?x173 ?x174 ?x175) (L2.Z0M KX G ?x176 ?x177 ?x178 ?x179) (L2.Z0M KX G ?x180 ?x181 ?x182 ?x183) (L2.Z0M KX G ?x184 ?x185 ?x186 ?x187) (L2.Z0M KX G ?x188 ?x189 ?x190 ?x191) (L2.Z0M KX G ?x192 ?x193 ?x194 ?x195) (L2.Z0M KX G ?x196 ?x197 ?x198 ?x199) (L2.Z0M KX G ?x200 ?x201 ?x202 ?x203) (L2.Z7a KX G ?x204 ?pg_Guest ?hd_Guest ?po_Guest ?sa_Guest ?mk_Guest ?kp_Guest) (L2.Z0w ?x205) (L2.Z0w ?x206) (L2.Z7a KX G ?x207 ?pg_Term ?hd_Term ?po_Term ?sa_Term ?mk_Term ?kp_Term) (L2.Z0w ?x208) (L2.Z0w ?x209) (L2.Z0w ?x210) (L2.Z0w ?x211) (L2.Z0w ?x212) (L2.Z0w ?x213) (L2.Z7a KX G ?x214 ?pg_Word ?hd_Word ?po_Word ?sa_Word ?mk_Word ?kp_Word) (L2.Z0w ?x215) (L2.Z0w ?x216) (L2.Z0w ?x217) (L2.Z0w ?x218) (L2.Z7a KX G ?x219 ?pg_House ?hd_House ?po_House ?sa_House ?mk_House ?kp_House) (L2.Z0w ?x220) (L2.Z0w ?x221) (L2.Z0w ?x222) (L2.Z0w ?x223) (L2.Z7a KX G ?x224 ?pg_Program ?hd_Program ?po_Program ?sa_Program ?mk_Program ?kp_Program) (L2.Z0w ?x225) (L2.Z0w ?x226) (L2.J6W KX G ?x227 ?x228 ?kp_BadForm) (L2.Z1h ?x229 ?x230 ?x231 ?x232 ?x233) (L2.Z1h ?x234 ?x235 ?x236 ?x237 ?x238) (L2.Z1h ?x239 ?x240 ?x241 ?x242 ?x243) (L2.Z1h ?x244 ?x245 ?x246 ?x247 ?x248) (L2.Z1h ?x249 ?x250 ?x251 ?x252 ?x253) (L2.Z1h ?x254 ?x255 ?x256 ?x257 ?x258) (L2.Z1h ?x259 ?x260 ?x261 ?x262 ?x263) (L2.Z1h ?x264 ?x265 ?x266 ?x267 ?x268) (L2.Z1h ?x269 ?x270 ?x271 ?x272 ?x273) (L2.Z1h ?x274 ?x275 ?x276 ?x277 ?x278) (L2.Z1h ?x279 ?x280 ?x281 ?x282 ?x283) (L2.Z1h ?x284 ?x285 ?x286 ?x287 ?x288) (L2.Z1h ?x289 ?x290 ?x291 ?x292 ?x293) (L2.Z1h ?x294 ?x295 ?x296 ?x297 ?x298) (L2.Z1h ?x299 ?x300 ?x301 ?x302 ?x303) (L2.Z1h ?x304 ?x305 ?x306 ?x307 ?x308) (L2.Z1h ?x309 ?x310 ?x311 ?x312 ?x313) (L2.Z1h ?x314 ?x315 ?x316 ?x317 ?x318) (L2.Z1h ?x319 ?x320 ?x321 ?x322 ?x323) (L2.Z1h ?x324 ?x325 ?x326 ?x327 ?x328)⟩
   (case x0|x1|x2|x3|x4|x5|x6|x7|x8|x9|x10|x11|x12|x13|x14|x15|x16|x17|x18|x19|x20|x21|x22|x23|x24|x25|x26|x27|x28|x29|x30|x31|x32=>k_is);(case x33=>exact⟨rfl,rfl,rfl⟩);(case x34=>exact rfl);(case x35=>exact .cons rfl rfl ⟨_,rfl⟩ (.cons rfl rfl ⟨_,rfl⟩ (.cons rfl rfl ⟨_,rfl⟩ (.cons rfl rfl ⟨_,rfl⟩ (.cons rfl rfl ⟨_,rfl⟩ (.cons rfl rfl ⟨_,rfl⟩ (.cons rfl rfl ⟨_,rfl⟩ (.nil))))))));(case x36=>exact rfl);(case x37|x38=>k_is);(case x39=>exact⟨rfl,rfl,rfl⟩);(case x40=>exact rfl);(case x41=>exact .cons rfl rfl rfl (.cons rfl rfl rfl (.nil)));(case x42=>exact rfl);(case x43|x44=>k_is);(case x45=>first|exact rfl|exact⟨rfl,rfl⟩);(case x46=>exact rfl);(case sz_TOLD_WORDS=>decide);(case x47=>exact .cons ⟨_,rfl⟩ (.cons ⟨_,rfl⟩ (.cons ⟨_,rfl⟩ (.cons ⟨_,rfl⟩ (.cons ⟨_,rfl⟩ (.cons ⟨_,rfl⟩ (.cons ⟨_,rfl⟩ (.cons ⟨_,rfl⟩ (.cons ⟨_,rfl⟩ (.cons ⟨_,rfl⟩ (.cons ⟨_,rfl⟩ (.cons ⟨_,rfl⟩ (.cons ⟨_,rfl⟩ (.cons ⟨_,rfl⟩ (.cons ⟨_,rfl⟩ (.cons ⟨_,rfl⟩ (.cons ⟨_,rfl⟩ (.cons ⟨_,rfl⟩ (.cons ⟨_,rfl⟩ (.nil))))))))))))))))))));(case x48|x49|x50|x51|x52|x53|x54|x55|x56|x57|x58|x59|x60|x61|x62|x63|x64|x65|x66|x67|x68|x69|x70|x71|x72|x73|x74|x75|x76|x77|x78|x79|x80|x81|x82|x83|x84|x85|x86|x87|x88|x89|x90|x91|x92|x93|x94|x95|x96|x97|x98|x99|x100|x101|x102|x103|x104|x105|x106|x107|x108|x109|x110|x111|x112|x113|x114|x115|x116|x117|x118|x119|x120|x121|x122|x123|x124|x125|x126|x127|x128|x129|x130|x131|x132|x133|x134|x135|x136|x137|x138|x139|x140|x141|x142|x143|x144|x145|x146|x147|x148|x149|x150|x151|x152|x153|x154|x155|x156|x157|x158|x159|x160|x161|x162|x163|x164|x165|x166|x167|x168|x169|x170|x171|x172|x173|x174|x175|x176|x177|x178|x179|x180|x181|x182|x183|x184|x185|x186|x187|x188|x189|x190|x191|x192|x193|x194|x195|x196|x197|x198|x199|x200|x201|x202|x203|x204|pg_Guest|hd_Guest|po_Guest|sa_Guest|mk_Guest|kp_Guest|x205|x206|x207|pg_Term|hd_Term|po_Term|sa_Term|mk_Term|kp_Term|x208|x209|x210|x211|x212|x213|x214|pg_Word|hd_Word|po_Word|sa_Word|mk_Word|kp_Word|x215|x216|x217|x218|x219|pg_House|hd_House|po_House|sa_House|mk_House|kp_House|x220|x221|x222|x223|x224|pg_Program|hd_Program|po_Program|sa_Program|mk_Program|kp_Program|x225|x226|x227=>k_is);(case x228=>kernel_rfl);(case kp_BadForm|x229|x230|x231|x232|x233|x234|x235|x236|x237|x238|x239|x240|x241|x242|x243|x244|x245|x246|x247|x248|x249|x250|x251|x252|x253|x254|x255|x256|x257|x258|x259|x260|x261|x262|x263|x264|x265|x266|x267|x268|x269|x270|x271|x272|x273|x274|x275|x276|x277|x278|x279|x280|x281|x282|x283|x284|x285|x286|x287|x288|x289|x290|x291|x292|x293|x294|x295|x296|x297|x298|x299|x300|x301|x302|x303|x304|x305|x306|x307|x308|x309|x310|x311|x312|x313|x314|x315|x316|x317|x318|x319|x320|x321|x322|x323|x324|x325|x326|x327|x328=>k_is)
  obtain⟨C_Guest,Ct,Cw,Ch,Cp,C_BadForm,D_STRENGTHS,D_TRUTHS,U_TOLD_WORDS,T⟩:=T
  have E:∃aF aP Hc B' fi,K12.Ex (L2.KOf KX) mg aF aP Hc B' fi 392:=by
   dsimp only[L2.KOf]
   refine' ⟨_,_,_,_,_,K12.ex_mk KX G ?aF0 ?aP0 ?aH ?aB ?aR ?lR ?cR ?kR ?fI ?lI ?cI ?kI ?iI ?z1 ?z2 ?s1 ?s2 ?s3 ?xH ?xB ?xF ?q1 ?q2 ?q3 ?q4 ?q5 ?q6 ?q7 ?q8 ?q9 ?q10 ?no ?kB ?sub ?subF⟩
   (case aF0|aP0|aH|aB|aR|lR|cR|kR|fI|lI|cI|kI|iI|z1|z2|s1|s2|s3=>k_is);(case xH=>kernel_rfl);(case xB=>kernel_rfl);(case xF=>kernel_rfl);(case q1=>k_is);(case q2=>kernel_rfl);(case q3|q4|q5|q6|q7|q8|q9|q10|no|kB|sub|subF=>k_is)
  obtain⟨aF,aP,Hc,B',fi,E⟩:=E
  exact L2.J2F T.f_law hmg (λ _ _ _ _ _ _ _=>rfl) λ f fd base hK hB F=>K12.ok_law T E (K12.kbC _) hK hB F
 case S=>exact λ w H a ns hl ht hS=>K12.sp_law_ok hl ht hS
