import PyProof.Rows.All
import Wide.All
import OpenK.AllK
import Wide.FinOn
import PySem.PyData
import OpenK.KMore
import OpenK.KMake
import OpenK.KDescr
import OpenK.KOwn
import KE.KIsAll
import KE.KItem
import KE.KxBytes
import PyProof.EqAt
import PyProof.EqKinds
import PyProof.TupleCall
import PyProof.ReprRoads
import PyProof.ReprLen
import KE.KDictOf
import PyProof.ListNew
import PyProof.WalksMore
import KE.KRevIter
import PyProof.ZipIter
import PyProof.SumWalkG
import PyProof.MinMaxWalk
import PyProof.WalkInts
import PyProof.SeqI3
import PyProof.Rows.CallKwBuiltin
import KE.KMinKey
import PyProof.AutoSeq1
import PyProof.ListMulRoad
import PyProof.FactsAll.tuple
import PyProof.Rows.SeqMore
import PyProof.CompUse
import PyProof.AttrMiss
import PyProof.FactsAll.zip_1
import PyProof.ListRange
import PyProof.Rows.ListRangeD
import KE.KLam
import KE.KSortTup
import PyProof.AttrMissHeap
import PyProof.DictIter
import PyProof.DictWalks
import PyProof.DictTruth
import KE.KDictSum
import PyProof.Rows.SortStr
import PyProof.Rows.SortWalk
import PyProof.DictUpdate
import PyProof.StrLawsIdx
import PyProof.StrBlock2
import PyProof.StrBlockL
import PyProof.StrLawsJoin
import PyProof.StrLawsIn
import PyProof.Rows.StrCase
import PyProof.Rows.StrAscii
import Lean
import PySem.Challenge.RW_elderhouse_k70_meant
set_option Elab.async false
set_option linter.all false
set_option maxRecDepth 100000
set_option compiler.extract_closed false
set_option maxHeartbeats 4000000
open PySem.W renaming Frag→X0
open PySem renaming Addr→V0,Value→V1,Shared→M1,Str→V2,World→M2,Heap→V3,Around→V4
open PySem.Challenge renaming pw_elderhouse_k70_meant→pw0,rw_elderhouse_k70_meant→rw0
open List renaming length_map→qa0,mem_cons→qa2,mem_singleton→qa3,getElem?_map→qa4,length_append→qa5,getElem?_eq_some_iff→qa7,getElem?_eq_getElem→qa8,mem_cons_self→qa9,mem_of_getElem?→qb0,mem_cons_of_mem→qb1,size_toArray→qb2,length_take→qb3,mem_map→qb4,mem_append→qb5,mem_map_of_mem→qb6,map_cons→qb8,map_append→qc2,length_cons→qc3,nodup_cons→qc4,mem_append_right→qc6,mem_filter→qc7,replicate→qc8,append_nil→qd0,range→qd2,getD_eq_getElem?_getD→qd3,length→qd5,take_of_length_le→qd6,map_map→qd9,mem_append_left→qe0,lookup_cons→qe2,nodup_append→qe3,length_filter_le→qe4,getElem?_of_mem→qe5,filter_cons→qe6,append_assoc→qe8,take_succ_eq_append_getElem→qf1,take_succ→qf3,map_take→qf7,reverse_cons→qf8,mem_range→qf9,lookup→qg0,length_drop→qg5,flatten_cons→qg6,filter_append→qg7,length_range→qg8,nodup_nil→qg9,getElem_mem→qh0,getElem?_set_self→qh2,getElem?_append_right→qh4,any_cons→qh7,take_length→qh9,getElem?_append_left→qi2,find?_cons→qi4,length_nil→qi5,set_cons_zero→qi6,length_reverse→qi7,mem_of_mem_take→qi9,length_eq_zero_iff→qj0,take_append_drop→qj1,length_set→qj3,all_cons→qj4,replicate_succ→qj5,getElem?_eq_none→qk0,pairwise_singleton→qk1,getElem?_eq_none_iff→qk2,mem_filterMap→qk4,getElem?_take_of_lt→qk6,mem_or_eq_of_mem_set→ql1,ext_getElem?→ql2,length_take_le→ql4,any_eq_true→ql5,not_mem_nil→ql7,map_drop→ql8,filterMap_cons→ql9,getElem?_set_ne→qm0,any_eq_false→qm1,length_replicate→qm3,getElem?_range→qm8,drop_of_length_le→qn0,drop_eq_getElem_cons→qn1
open Nat renaming le_refl→qa1,zero_le→qa6,ne_of_lt→qb7,le_trans→qb9,lt_of_lt_of_le→qd1,lt_of_sub_eq_succ→qd4,le_succ→qe1,lt_irrefl→qe9,not_lt→qf0,succ_pos→qf2,succ_mul→qf5,succ_le_succ→qg1,le_add_right→qg2,mul_le_mul_right→qg3,le_of_lt→qg4,ne_of_gt→qh3,lt_succ_of_lt→qh8,min_eq_left→qi8,lt_succ_self→qj2,lt_of_le_of_lt→qj6,succ_ne_self→qj7,max_le→qj8,zero_add→qk3,not_lt_zero→qk8,sub_eq_zero_iff_le→qm9
open Bool renaming false_ne_true→qc0,and_eq_true→qh6,eq_iff_iff→qk5,false_eq_true→qk7,and_eq_true_iff→ql3
open Option renaming map_eq_some_iff→qc1,map_some→qi1,isSome_iff_exists→qm2
open Option.some renaming inj→qc5
open PySem.F renaming plainAttrs_list→qc9,slot_list_append→qd7,type_list_append→qd8,slot_tuple_add→qm4,entry_tuple_add→qm5,args_tuple_add_2→qm6,plainAttrs_str→qn3
open Int renaming emod_nonneg→qe7,emod_lt_of_pos→qf6,eq_ofNat_of_zero_le→qh1,toNat_natCast→qh5,natCast_add→qi0,zero_add→qi3
open Array renaming length_toList→qf4,toList_push→qj9,toArray_toList→ql0,getElem?_toList→qm7
open Nat.succ renaming inj→qk9
open List.Nodup renaming sublist→ql6
open List.Sublist renaming refl→qn2
local macro_rules | `(tactic| walk_at "r") => do let f : String -> Lean.MacroM (Array (Lean.TSyntax ``Lean.Parser.Tactic.simpLemma)) := λ s => (do let v <-(s.splitOn " ").toArray.filterM λ n => do { let r <-Lean.Macro.resolveGlobalName n.toName; return !r.isEmpty }; v.mapM λ n => `(Lean.Parser.Tactic.simpLemma| $(Lean.mkIdent n.toName):term)); let a <-f "J7a J8o J6t J6u J6w J6s J9e J7W J7D J8h J8g J8T J6H J9v J8S J5n J8i J7V J9b J8u J8A J7j J7Q J6F J8t J8j J7t J8V Y0g Y0k J9s J9O J8I J8f J8E J8d J8U J8a J9c J9C J7X J9f J8x J9u J8M J9d J9n J9J J8D J9B J7Y J9K Y0i J9S J9R J9L J8z J9F J8s J8l J8k J8b J9T J6v J8y J9N J9o J8p J8Y J8Q J9I J8C J9M J9p J9P J6y J6x J8K J9t J8H J8v J7c J8c J8e J7p J8m J8r J7s J8q J7I J9E J8J J9k J9A List.getElem?_cons_zero List.getElem?_cons_succ List.set_cons_zero List.set_cons_succ Nat.reduceAdd Nat.reduceSub List.cons_append List.nil_append L2.Z5m List.map_cons List.map_nil List.length_cons List.length_nil List.replicate J9V J8w J8X"; let b <-f "J8n J7Z J8B exists_eq_left' exists_eq_left exists_and_left exists_eq_right exists_eq_right' V.int.injEq V.str.injEq V.bl.injEq V.ref.injEq Option.some.injEq List.cons.injEq and_true true_and decide_eq_true_eq Bool.not_eq_true' decide_eq_false_iff_not reduceCtorEq Y0f Y0h Y0n J9Y J9X Y0b Y0d Y0c Y0l Y0j Y0e J9Z Y0m J9W List.append_nil Nat.zero_add J5v J4x J6z J5m J5i ix0 ix1 exists_const if_true if_false ite_true ite_false Bool.false_eq_true decide_true decide_false Bool.not_true Bool.not_false Bool.true_eq_false CPow CDiv CMul J9a or_true true_or and_self and_assoc sizeLine_eq Nat.reduceLeDiff Nat.reduceLT Nat.reducePow Nat.reduceMul Int.reducePow Int.reduceLE Int.reduceLT Int.reduceToNat Int.reduceAbs Int.reduceNeg Int.reduceAdd Int.reduceSub Int.reduceMul ne_eq not_false_eq_true not_true_eq_false Int.zero_add"; `(tactic| ((try dsimp only [$a,*]); (try simp (config := { maxSteps := 10000000 }) only [$a,*,$b,*])))
theorem qP{p:Prop}(h:p:=by decide+kernel):p:=h
theorem qQ{p:Prop}(h:p:=by decide):p:=h
theorem qR{p:Prop}(h:p:=by omega):p:=h
theorem qS{p:Prop}(h:p:=by first|decide|omega):p:=h
section
namespace L2
open PySem
def Z0Q(s:Stmt)(j:Nat):Stmt:=match s with
 | .ClassDef _ _ _ body _ _ _ _ _ _ _=>body.getD j (.Pass ⟨0,0,0,0⟩)
 |_=>.Pass ⟨0,0,0,0⟩
def Z2e(s:Stmt):Arguments:=match s with
 | .FunctionDef _ a _ _ _ _ _ _ _ _=>a
 |_=>{posonlyargs:=[],args:=[],vararg:=none,kwonlyargs:=[],kw_defaults:=[],kwarg:=none,defaults:=[]}
def Z1p(s:Stmt):List Stmt:=match s with
 | .FunctionDef _ _ b _ _ _ _ _ _ _=>b
 |_=>[]
def Z0h(s:Stmt):Scope:=match s with
 | .FunctionDef _ _ _ _ _ _ sc _ _ _=>sc
 |_=>{kind:=.function,names:=[],isGenerator:=false,isCoroutine:=false}
end L2
namespace K70
open PySem L2
section
local macro_rules | `(tactic| walk_at "tw") => do let s := "_wall __name__ elderhouse.houses Hall __init__ houses elders younger fields place found head found_word elderhouse.tables first_blocks found_block elderhouse.straight meant elderhouse.terms Term plain parts depth size shape_of Word House Program bodies pairs_of elderhouse.building program_of house_of word_of term_of all_within parts_of label_of law_elderhouse_k70_meant _law_cell_at _law_mixed _law_names _law_elders _law_fits _law_fields _law_is_plain _law_head _law_heads _law_halls _law_draw _law_given _law_make _law_leaf _law_called _law_touched _law_let _law_own _law_want _law_turner _law_body _law_main _law_program _law_line _law_numbers _law_meant law"; let r <-(s.splitOn " ").toArray.mapM λ n => do { let l := n.toList.toArray; let c : Array Lean.Term <-l.mapM λ k => `(nat_lit $(Lean.Syntax.mkNumLit (toString k.toNat))); let d : Array Lean.Term <-c.mapM λ k => `(Char.ofNat $k); `(tactic| rewrite [(W.Fast.ofString_ofList [$d,*] : Str.ofString $(Lean.Syntax.mkStrLit n) = Str.mk (Array.mk [$c,*]))]) }; `(tactic| ($[$r]*))
noncomputable def tw:{t:Program//pw0=t}:=by
 refine⟨?t,?h⟩
 case h=>
  delta pw0;walk_at "tw";exact rfl
end
noncomputable def _root_.PySem.W.Fast.tw2581176678065126679:Program:=tw.1
theorem _root_.PySem.W.Fast.te2581176678065126679:pw0=W.Fast.tw2581176678065126679:=tw.2
def top(i:Nat):Stmt:=pw0.main.body.getD i (.Pass ⟨0,0,0,0⟩)
abbrev Z1H:Stmt:=top 4
abbrev Z1S:Stmt:=top 5
abbrev Z5K:Stmt:=top 7
abbrev Z3z:Stmt:=top 10
abbrev Z3w:Stmt:=top 14
abbrev Z2m:Stmt:=top 16
abbrev Z3t:Stmt:=top 17
abbrev Z3L:Stmt:=top 18
abbrev Z3X:Stmt:=top 19
abbrev Z2t:Stmt:=top 20
abbrev Z3A:Stmt:=top 21
abbrev Z3v:Stmt:=top 22
abbrev Z1G:Stmt:=top 24
abbrev Z2p:Stmt:=top 25
abbrev Z2r:Stmt:=top 26
abbrev Z1T:Stmt:=top 27
abbrev Z2U:Stmt:=top 28
abbrev Z1O:Stmt:=top 29
abbrev Z1t:Stmt:=top 30
abbrev Z2V:Stmt:=top 31
abbrev Z2v:Stmt:=top 32
abbrev Z2i:Stmt:=top 33
abbrev Z2M:Stmt:=top 34
abbrev Z2q:Stmt:=top 35
abbrev Z2J:Stmt:=top 36
abbrev Z2E:Stmt:=top 37
abbrev Z1R:Stmt:=top 38
abbrev Z1E:Stmt:=top 39
abbrev Z3y:Stmt:=top 40
abbrev Z3B:Stmt:=top 41
abbrev Z2R:Stmt:=top 42
abbrev Z1U:Stmt:=top 43
abbrev Z2L:Stmt:=top 44
abbrev Z2Q:Stmt:=top 45
abbrev Z1I:Stmt:=top 46
abbrev Z2O:Stmt:=top 47
abbrev Z1F:Stmt:=top 48
abbrev Z2j:Stmt:=top 49
abbrev J1W:Stmt:=top 50
abbrev Z1o:Stmt:=Z0Q (top 2) 0
abbrev Z1P:Stmt:=Z0Q (top 2) 2
abbrev Z1J:Stmt:=Z0Q (top 2) 3
abbrev Z2o:Stmt:=Z0Q (top 2) 6
abbrev Z1n:Stmt:=Z0Q (top 9) 0
abbrev Z2k:Stmt:=Z0Q (top 9) 1
abbrev Z3k:Stmt:=Z0Q (top 9) 2
abbrev Z2s:Stmt:=Z0Q (top 9) 3
abbrev Z2G:Stmt:=Z0Q (top 9) 4
abbrev Z1m:Stmt:=Z0Q (top 11) 0
abbrev Z2u:Stmt:=Z0Q (top 11) 1
abbrev Z1j:Stmt:=Z0Q (top 12) 0
abbrev Z1Q:Stmt:=Z0Q (top 12) 1
abbrev Z1e:Stmt:=Z0Q (top 13) 0
abbrev Z1u:Stmt:=Z0Q (top 13) 1
noncomputable def rv:W.RowW:=W.OpenRow.toRowW (W.OpenLaw.row rw0)
noncomputable def qv:Program:={pw0 with main:={pw0.main with body:=[top 0,top 2,top 4,top 5,top 7,top 9,top 10,top 11,top 12,top 13,top 14,top 16,top 17,top 18,top 19,top 20,top 21,top 22,top 24,top 25,top 26,top 27,top 28,top 29,top 30,top 31,top 32,top 33,top 34,top 35,top 36,top 37,top 38,top 39,top 40,top 41,top 42,top 43,top 44,top 45,top 46,top 47,top 48,top 49,top 50]}}
abbrev J1k:Stmt:=top 0
abbrev Z3W:Stmt:=Z0Q (top 2) 1
abbrev Z3O:Stmt:=Z0Q (top 2) 4
abbrev Z4q:Stmt:=Z0Q (top 2) 5
abbrev Z4H:Stmt:=Z0Q (top 2) 7
abbrev Z2C:Stmt:=Z0Q (top 2) 8
abbrev Z3c:Stmt:=Z0Q (top 13) 2
noncomputable def cO(x y:V2)(n:Nat)(l a b:Int)(r:Nat)(d:Nat):Obj:=⟨.type "code",none,.fields #[.str x n,.str y (n+1),.str "/claim/cut.py" (n+2),.int l 0,.int a 0,.int 0 0,.int 0 0,.int b 0,.ref r,.bool true,.int 181 0,.ref (r+1),.none,.ref (r+2),.ref (r+3),.ref (r+4),.int d 0,.int l 0,.str "/claim/cut.py" (d+1)],#[]⟩
noncomputable def fU(x y:V2)(s:Stmt)(m:V2)(t c:Nat):Obj:=⟨.type "function",none,.func (W.fnOf x y (L2.Z2e s) (L2.Z1p s) (L2.Z0h s) .none .none .none (.str m t) none (.ref c) .none),#[]⟩
noncomputable def eT:Obj:=⟨.type "tuple",none,.seq #[] 0,#[]⟩
noncomputable def kE(P:PySem.Params)(x:V2)(t:Nat)(v:V1):DictEntry:=⟨PyData.keyHash P x,.str x t,v⟩
noncomputable def fV0(x:V2)(s:Stmt)(c:Nat):Obj:=fU x x s "law_elderhouse_k70_meant" 589 c
noncomputable def fW1(x y:V2)(s:Stmt)(c:Nat):Obj:=fU x y s "elderhouse.terms" 328 c
noncomputable def fV1(x:V2)(s:Stmt)(c:Nat):Obj:=fU x x s "elderhouse.terms" 328 c
noncomputable def fW2(x y:V2)(s:Stmt)(c:Nat):Obj:=fU x y s "elderhouse.houses" 194 c
noncomputable def fV3(x:V2)(s:Stmt)(c:Nat):Obj:=fU x x s "elderhouse.building" 532 c
noncomputable def tS:List V2->Nat->List V1
 |[],_=>[]
 |x::xs,n=>.str x n::tS xs (n+1)
noncomputable def tT(l:List V2)(n:Nat):Obj:=⟨.type "tuple",none,.seq (tS l n).toArray 0,#[]⟩
noncomputable def cQ(x:V2)(n:Nat)(l a:Int)(r d:Nat):Obj:=cO x x n l a 3 r d
noncomputable def cP(x y:V2)(n:Nat)(l a:Int)(r:Nat):Obj:=⟨.type "code",none,.fields #[.str x n,.str y (n+1),.str "/claim/cut.py" (n+2),.int l 0,.int a 0,.int 0 0,.int 0 0,.int 3 0,.ref r,.bool true,.int 181 0,.ref (r+1),.none,.none,.none,.ref (r+2),.int ((n+3:Nat):Int) 0,.int l 0,.str "/claim/cut.py" (n+4)],#[]⟩
noncomputable def KK(P:PySem.Params):X0:=
(nat_lit 2,Function.const (("a":V2)≠"b") (⟨.none,none,(.dict #[] 0),#[]⟩:Obj) qQ)::
(nat_lit 3,⟨.type "dict",none,.dict #[kE P "__name__" 165 (.str "law_elderhouse_k70_meant" 589),kE P "__doc__" 166 .none,kE P "__package__" 167 .none,kE P "__loader__" 168 (.builtin "__main__.__loader__#opaque"),kE P "__spec__" 169 .none,kE P "__annotations__" 170 (.ref 6),kE P "__builtins__" 171 (.ref 4),kE P "__file__" 173 (.str "/claim/cut.py" 172),kE P "__cached__" 174 .none,kE P "_wall" 193 (.ref 21),kE P "Hall" 289 (.ref 88),kE P "first_blocks" 301 (.ref 99),kE P "found_block" 312 (.ref 106),kE P "meant" 327 (.ref 113),kE P "Term" 389 (.ref 156),kE P "shape_of" 398 (.ref 167),kE P "Word" 440 (.ref 191),kE P "House" 481 (.ref 217),kE P "Program" 525 (.ref 250),kE P "pairs_of" 531 (.ref 259),kE P "program_of" 539 (.ref 264),kE P "house_of" 545 (.ref 269),kE P "word_of" 556 (.ref 276),kE P "term_of" 562 (.ref 281),kE P "all_within" 572 (.ref 288),kE P "parts_of" 580 (.ref 295),kE P "label_of" 588 (.ref 302),kE P "_law_cell_at" 598 (.ref 309),kE P "_law_mixed" 606 (.ref 316),kE P "_law_names" 612 (.ref 321),kE P "_law_elders" 621 (.ref 328),kE P "_law_fits" 630 (.ref 335),kE P "_law_fields" 640 (.ref 342),kE P "_law_is_plain" 646 (.ref 347),kE P "_law_head" 656 (.ref 354),kE P "_law_heads" 662 (.ref 359),kE P "_law_halls" 668 (.ref 364),kE P "_law_draw" 675 (.ref 371),kE P "_law_given" 681 (.ref 376),kE P "_law_make" 687 (.ref 381),kE P "_law_leaf" 698 (.ref 388),kE P "_law_called" 716 (.ref 395),kE P "_law_touched" 732 (.ref 402),kE P "_law_let" 747 (.ref 409),kE P "_law_own" 760 (.ref 416),kE P "_law_want" 772 (.ref 423),kE P "_law_turner" 778 (.ref 428),kE P "_law_body" 788 (.ref 435),kE P "_law_main" 794 (.ref 440),kE P "_law_program" 800 (.ref 445),kE P "_law_line" 806 (.ref 450),kE P "_law_numbers" 816 (.ref 457),kE P "_law_meant" 822 (.ref 462),kE P "law" 828 (.ref 467)] 54,#[]⟩)::
(nat_lit 15,eT)::
(nat_lit 17,tT ["k"] 190)::
(nat_lit 18,eT)::
(nat_lit 20,cQ "_wall" 187 1 1 15 191)::
(nat_lit 21,fU "_wall" "_wall" J1k "__main__" 164 20)::
(nat_lit 29,eT)::
(nat_lit 32,cP "__init__" "Hall.__init__" 208 7 2 29)::
(nat_lit 33,fW2 "__init__" "Hall.__init__" Z1o 32)::
(nat_lit 34,eT)::
(nat_lit 36,tT ["self"] 217)::
(nat_lit 37,eT)::
(nat_lit 39,cO "houses" "Hall.houses" 214 13 1 3 34 218)::
(nat_lit 40,fW2 "houses" "Hall.houses" Z3W 39)::
(nat_lit 41,eT)::
(nat_lit 43,tT ["self","house","nearest_first","one"] 224)::
(nat_lit 44,eT)::
(nat_lit 46,cO "elders" "Hall.elders" 221 16 2 3 41 228)::
(nat_lit 47,fW2 "elders" "Hall.elders" Z1P 46)::
(nat_lit 48,eT)::
(nat_lit 51,cP "younger" "Hall.younger" 231 24 2 48)::
(nat_lit 52,fW2 "younger" "Hall.younger" Z1J 51)::
(nat_lit 53,eT)::
(nat_lit 55,tT ["self","house","all_fields","one"] 240)::
(nat_lit 56,eT)::
(nat_lit 58,cO "fields" "Hall.fields" 237 27 2 3 53 244)::
(nat_lit 59,fW2 "fields" "Hall.fields" Z3O 58)::
(nat_lit 60,eT)::
(nat_lit 62,tT ["self","house","field"] 250)::
(nat_lit 63,eT)::
(nat_lit 65,cO "place" "Hall.place" 247 33 3 3 60 253)::
(nat_lit 66,fW2 "place" "Hall.place" Z4q 65)::
(nat_lit 67,eT)::
(nat_lit 70,cP "found" "Hall.found" 256 36 3 67)::
(nat_lit 71,fW2 "found" "Hall.found" Z2o 70)::
(nat_lit 72,eT)::
(nat_lit 74,tT ["self","house","word"] 265)::
(nat_lit 75,eT)::
(nat_lit 77,cO "head" "Hall.head" 262 43 3 3 72 268)::
(nat_lit 78,fW2 "head" "Hall.head" Z4H 77)::
(nat_lit 79,eT)::
(nat_lit 81,tT ["self","house","word"] 274)::
(nat_lit 82,eT)::
(nat_lit 84,cO "found_word" "Hall.found_word" 271 46 3 3 79 277)::
(nat_lit 85,fW2 "found_word" "Hall.found_word" Z2C 84)::
(nat_lit 86,tT ["by_name","in_order"] 280)::
(nat_lit 87,⟨(.type "dict"),none,(.dict #[kE P "__module__" 203 (.str "elderhouse.houses" 194),⟨PyData.keyHash P "__firstlineno__",.str "__firstlineno__" 207,.int 5 206⟩,kE P "__init__" 213 (.ref 33),kE P "houses" 220 (.ref 40),kE P "elders" 230 (.ref 47),kE P "younger" 236 (.ref 52),kE P "fields" 246 (.ref 59),kE P "place" 255 (.ref 66),kE P "found" 261 (.ref 71),kE P "head" 270 (.ref 78),kE P "found_word" 279 (.ref 85),kE P "__static_attributes__" 282 (.ref 86),kE P "__dict__" 284 (.ref 89),kE P "__weakref__" 286 (.ref 90),kE P "__doc__" 287 .none] 4),#[]⟩)::
(nat_lit 88,⟨(.type "type"),none,(.cls ⟨"Hall",[(.type "object")],[.ref 88,(.type "object")],87,"Hall",true,[],[],false,none,false⟩),#[none,none,(some (.str "Hall" 196)),(some (.str "Hall" 204)),(some (.builtin "object.__new__")),(some (.bool true))]⟩)::
(nat_lit 89,⟨.type "getset_descriptor",none,.fields #[.str "__dict__" 283,.ref 88,.builtin "function.__dict__",.builtin "function.__dict__#set"],#[]⟩)::
(nat_lit 90,⟨.type "getset_descriptor",none,.fields #[.str "__weakref__" 285,.ref 88,.builtin "ExceptionGroup.__weakref__",.none],#[]⟩)::
(nat_lit 93,eT)::
(nat_lit 95,tT ["program","firsts","number","house"] 295)::
(nat_lit 96,eT)::
(nat_lit 98,cQ "first_blocks" 292 49 1 93 299)::
(nat_lit 99,fU "first_blocks" "first_blocks" Z1H "elderhouse.tables" 290 98)::
(nat_lit 100,eT)::
(nat_lit 102,tT ["hall","firsts","house","word","where"] 305)::
(nat_lit 103,eT)::
(nat_lit 105,cQ "found_block" 302 56 4 100 310)::
(nat_lit 106,fU "found_block" "found_block" Z1S "elderhouse.tables" 290 105)::
(nat_lit 107,eT)::
(nat_lit 109,tT ["program","kind","word","hall","firsts","found","house"] 318)::
(nat_lit 110,eT)::
(nat_lit 112,cQ "meant" 315 62 3 107 325)::
(nat_lit 113,fU "meant" "meant" Z5K "elderhouse.straight" 313 112)::
(nat_lit 121,eT)::
(nat_lit 124,cP "__init__" "Term.__init__" 342 72 4 121)::
(nat_lit 125,fW1 "__init__" "Term.__init__" Z1n 124)::
(nat_lit 126,eT)::
(nat_lit 128,tT ["self"] 351)::
(nat_lit 129,eT)::
(nat_lit 131,cO "plain" "Term.plain" 348 80 1 3 126 352)::
(nat_lit 132,fW1 "plain" "Term.plain" Z2k 131)::
(nat_lit 133,eT)::
(nat_lit 135,tT ["self"] 358)::
(nat_lit 136,eT)::
(nat_lit 138,cO "parts" "Term.parts" 355 83 1 3 133 359)::
(nat_lit 139,fW1 "parts" "Term.parts" Z3k 138)::
(nat_lit 140,eT)::
(nat_lit 142,tT ["self"] 365)::
(nat_lit 143,eT)::
(nat_lit 145,cO "depth" "Term.depth" 362 86 1 3 140 366)::
(nat_lit 146,fW1 "depth" "Term.depth" Z2s 145)::
(nat_lit 147,eT)::
(nat_lit 149,tT ["self"] 372)::
(nat_lit 150,eT)::
(nat_lit 152,cO "size" "Term.size" 369 89 1 3 147 373)::
(nat_lit 153,fW1 "size" "Term.size" Z2G 152)::
(nat_lit 154,tT ["deep","form","inner","label","many","shape"] 376)::
(nat_lit 155,⟨(.type "dict"),none,(.dict #[kE P "__module__" 337 (.str "elderhouse.terms" 328),⟨PyData.keyHash P "__firstlineno__",.str "__firstlineno__" 341,.int 70 340⟩,kE P "__init__" 347 (.ref 125),kE P "plain" 354 (.ref 132),kE P "parts" 361 (.ref 139),kE P "depth" 368 (.ref 146),kE P "size" 375 (.ref 153),kE P "__static_attributes__" 382 (.ref 154),kE P "__dict__" 384 (.ref 157),kE P "__weakref__" 386 (.ref 158),kE P "__doc__" 387 .none] 4),#[]⟩)::
(nat_lit 156,⟨(.type "type"),none,(.cls ⟨"Term",[(.type "object")],[.ref 156,(.type "object")],155,"Term",true,[],[],false,none,false⟩),#[none,none,(some (.str "Term" 330)),(some (.str "Term" 338)),(some (.builtin "object.__new__")),(some (.bool true))]⟩)::
(nat_lit 157,⟨.type "getset_descriptor",none,.fields #[.str "__dict__" 383,.ref 156,.builtin "function.__dict__",.builtin "function.__dict__#set"],#[]⟩)::
(nat_lit 158,⟨.type "getset_descriptor",none,.fields #[.str "__weakref__" 385,.ref 156,.builtin "ExceptionGroup.__weakref__",.none],#[]⟩)::
(nat_lit 161,eT)::
(nat_lit 163,tT ["form","label","parts"] 393)::
(nat_lit 164,eT)::
(nat_lit 166,cQ "shape_of" 390 91 3 161 396)::
(nat_lit 167,fV1 "shape_of" Z3z 166)::
(nat_lit 175,eT)::
(nat_lit 177,tT ["self","name","params","kind","body"] 414)::
(nat_lit 178,eT)::
(nat_lit 180,cO "__init__" "Word.__init__" 411 103 5 3 175 419)::
(nat_lit 181,fW1 "__init__" "Word.__init__" Z1m 180)::
(nat_lit 182,eT)::
(nat_lit 184,tT ["self"] 425)::
(nat_lit 185,eT)::
(nat_lit 187,cO "plain" "Word.plain" 422 109 1 3 182 426)::
(nat_lit 188,fW1 "plain" "Word.plain" Z2u 187)::
(nat_lit 189,tT ["body","kind","name","params"] 429)::
(nat_lit 190,⟨(.type "dict"),none,(.dict #[kE P "__module__" 406 (.str "elderhouse.terms" 328),⟨PyData.keyHash P "__firstlineno__",.str "__firstlineno__" 410,.int 101 409⟩,kE P "__init__" 421 (.ref 181),kE P "plain" 428 (.ref 188),kE P "__static_attributes__" 433 (.ref 189),kE P "__dict__" 435 (.ref 192),kE P "__weakref__" 437 (.ref 193),kE P "__doc__" 438 .none] 4),#[]⟩)::
(nat_lit 191,⟨(.type "type"),none,(.cls ⟨"Word",[(.type "object")],[.ref 191,(.type "object")],190,"Word",true,[],[],false,none,false⟩),#[none,none,(some (.str "Word" 399)),(some (.str "Word" 407)),(some (.builtin "object.__new__")),(some (.bool true))]⟩)::
(nat_lit 192,⟨.type "getset_descriptor",none,.fields #[.str "__dict__" 434,.ref 191,.builtin "function.__dict__",.builtin "function.__dict__#set"],#[]⟩)::
(nat_lit 193,⟨.type "getset_descriptor",none,.fields #[.str "__weakref__" 436,.ref 191,.builtin "ExceptionGroup.__weakref__",.none],#[]⟩)::
(nat_lit 203,eT)::
(nat_lit 205,tT ["self","name","elder","own_fields","own_words"] 456)::
(nat_lit 206,eT)::
(nat_lit 208,cO "__init__" "House.__init__" 453 113 5 3 203 461)::
(nat_lit 209,fW1 "__init__" "House.__init__" Z1j 208)::
(nat_lit 210,eT)::
(nat_lit 213,cP "plain" "House.plain" 464 119 1 210)::
(nat_lit 214,fW1 "plain" "House.plain" Z1Q 213)::
(nat_lit 215,tT ["elder","name","own_fields","own_words"] 470)::
(nat_lit 216,⟨(.type "dict"),none,(.dict #[kE P "__module__" 448 (.str "elderhouse.terms" 328),⟨PyData.keyHash P "__firstlineno__",.str "__firstlineno__" 452,.int 111 451⟩,kE P "__init__" 463 (.ref 209),kE P "plain" 469 (.ref 214),kE P "__static_attributes__" 474 (.ref 215),kE P "__dict__" 476 (.ref 218),kE P "__weakref__" 478 (.ref 219),kE P "__doc__" 479 .none] 4),#[]⟩)::
(nat_lit 217,⟨(.type "type"),none,(.cls ⟨"House",[(.type "object")],[.ref 217,(.type "object")],216,"House",true,[],[],false,none,false⟩),#[none,none,(some (.str "House" 441)),(some (.str "House" 449)),(some (.builtin "object.__new__")),(some (.bool true))]⟩)::
(nat_lit 218,⟨.type "getset_descriptor",none,.fields #[.str "__dict__" 475,.ref 217,.builtin "function.__dict__",.builtin "function.__dict__#set"],#[]⟩)::
(nat_lit 219,⟨.type "getset_descriptor",none,.fields #[.str "__weakref__" 477,.ref 217,.builtin "ExceptionGroup.__weakref__",.none],#[]⟩)::
(nat_lit 229,eT)::
(nat_lit 231,tT ["self","all_houses","main"] 497)::
(nat_lit 232,eT)::
(nat_lit 234,cO "__init__" "Program.__init__" 494 124 3 3 229 500)::
(nat_lit 235,fW1 "__init__" "Program.__init__" Z1e 234)::
(nat_lit 236,eT)::
(nat_lit 239,cP "plain" "Program.plain" 503 128 1 236)::
(nat_lit 240,fW1 "plain" "Program.plain" Z1u 239)::
(nat_lit 241,eT)::
(nat_lit 243,tT ["self"] 512)::
(nat_lit 244,eT)::
(nat_lit 246,cO "bodies" "Program.bodies" 509 132 1 3 241 513)::
(nat_lit 247,fW1 "bodies" "Program.bodies" Z3c 246)::
(nat_lit 248,tT ["all_houses","main"] 516)::
(nat_lit 249,⟨(.type "dict"),none,(.dict #[kE P "__module__" 489 (.str "elderhouse.terms" 328),⟨PyData.keyHash P "__firstlineno__",.str "__firstlineno__" 493,.int 122 492⟩,kE P "__init__" 502 (.ref 235),kE P "plain" 508 (.ref 240),kE P "bodies" 515 (.ref 247),kE P "__static_attributes__" 518 (.ref 248),kE P "__dict__" 520 (.ref 251),kE P "__weakref__" 522 (.ref 252),kE P "__doc__" 523 .none] 4),#[]⟩)::
(nat_lit 250,⟨(.type "type"),none,(.cls ⟨"Program",[(.type "object")],[.ref 250,(.type "object")],249,"Program",true,[],[],false,none,false⟩),#[none,none,(some (.str "Program" 482)),(some (.str "Program" 490)),(some (.builtin "object.__new__")),(some (.bool true))]⟩)::
(nat_lit 251,⟨.type "getset_descriptor",none,.fields #[.str "__dict__" 519,.ref 250,.builtin "function.__dict__",.builtin "function.__dict__#set"],#[]⟩)::
(nat_lit 252,⟨.type "getset_descriptor",none,.fields #[.str "__weakref__" 521,.ref 250,.builtin "ExceptionGroup.__weakref__",.none],#[]⟩)::
(nat_lit 255,eT)::
(nat_lit 258,cP "pairs_of" "pairs_of" 526 134 1 255)::
(nat_lit 259,fV1 "pairs_of" Z3w 258)::
(nat_lit 260,eT)::
(nat_lit 263,cP "program_of" "program_of" 534 137 1 260)::
(nat_lit 264,fV3 "program_of" Z2m 263)::
(nat_lit 265,eT)::
(nat_lit 268,cP "house_of" "house_of" 540 141 1 265)::
(nat_lit 269,fV3 "house_of" Z3t 268)::
(nat_lit 270,eT)::
(nat_lit 272,tT ["plain","name","params","kind","body"] 549)::
(nat_lit 273,eT)::
(nat_lit 275,cQ "word_of" 546 144 1 270 554)::
(nat_lit 276,fV3 "word_of" Z3L 275)::
(nat_lit 277,eT)::
(nat_lit 280,cP "term_of" "term_of" 557 147 1 277)::
(nat_lit 281,fV3 "term_of" Z3X 280)::
(nat_lit 282,eT)::
(nat_lit 284,tT ["plain","found","waiting","one"] 566)::
(nat_lit 285,eT)::
(nat_lit 287,cQ "all_within" 563 153 1 282 570)::
(nat_lit 288,fV3 "all_within" Z2t 287)::
(nat_lit 289,eT)::
(nat_lit 291,tT ["plain","form"] 576)::
(nat_lit 292,eT)::
(nat_lit 294,cQ "parts_of" 573 161 1 289 578)::
(nat_lit 295,fV3 "parts_of" Z3A 294)::
(nat_lit 296,eT)::
(nat_lit 298,tT ["plain","form"] 584)::
(nat_lit 299,eT)::
(nat_lit 301,cQ "label_of" 581 174 1 296 586)::
(nat_lit 302,fV3 "label_of" Z3v 301)::
(nat_lit 303,eT)::
(nat_lit 305,tT ["_law_script","_law_k"] 594)::
(nat_lit 306,eT)::
(nat_lit 308,cQ "_law_cell_at" 591 182 2 303 596)::
(nat_lit 309,fV0 "_law_cell_at" Z1G 308)::
(nat_lit 310,eT)::
(nat_lit 312,tT ["_law_cell","_law_k"] 602)::
(nat_lit 313,eT)::
(nat_lit 315,cQ "_law_mixed" 599 186 2 310 604)::
(nat_lit 316,fV0 "_law_mixed" Z2p 315)::
(nat_lit 317,eT)::
(nat_lit 320,cP "_law_names" "_law_names" 607 188 1 317)::
(nat_lit 321,fV0 "_law_names" Z2r 320)::
(nat_lit 322,eT)::
(nat_lit 324,tT ["_law_halls_here","_law_house","_law_found"] 616)::
(nat_lit 325,eT)::
(nat_lit 327,cQ "_law_elders" 613 203 2 322 619)::
(nat_lit 328,fV0 "_law_elders" Z1T 327)::
(nat_lit 329,eT)::
(nat_lit 331,tT ["_law_halls_here","_law_kind","_law_wanted"] 625)::
(nat_lit 332,eT)::
(nat_lit 334,cQ "_law_fits" 622 209 3 329 628)::
(nat_lit 335,fV0 "_law_fits" Z2U 334)::
(nat_lit 336,eT)::
(nat_lit 338,tT ["_law_halls_here","_law_house","_law_found","_law_one"] 634)::
(nat_lit 339,eT)::
(nat_lit 341,cQ "_law_fields" 631 211 2 336 638)::
(nat_lit 342,fV0 "_law_fields" Z1O 341)::
(nat_lit 343,eT)::
(nat_lit 346,cP "_law_is_plain" "_law_is_plain" 641 216 2 343)::
(nat_lit 347,fV0 "_law_is_plain" Z1t 346)::
(nat_lit 348,eT)::
(nat_lit 350,tT ["_law_halls_here","_law_house","_law_word","_law_one"] 650)::
(nat_lit 351,eT)::
(nat_lit 353,cQ "_law_head" 647 218 3 348 654)::
(nat_lit 354,fV0 "_law_head" Z2V 353)::
(nat_lit 355,eT)::
(nat_lit 358,cP "_law_heads" "_law_heads" 657 223 3 355)::
(nat_lit 359,fV0 "_law_heads" Z2v 358)::
(nat_lit 360,eT)::
(nat_lit 363,cP "_law_halls" "_law_halls" 663 238 2 360)::
(nat_lit 364,fV0 "_law_halls" Z2i 363)::
(nat_lit 365,eT)::
(nat_lit 367,tT ["_law_env"] 672)::
(nat_lit 368,eT)::
(nat_lit 370,cQ "_law_draw" 669 256 1 365 673)::
(nat_lit 371,fV0 "_law_draw" Z2M 370)::
(nat_lit 372,eT)::
(nat_lit 375,cP "_law_given" "_law_given" 676 259 3 372)::
(nat_lit 376,fV0 "_law_given" Z2q 375)::
(nat_lit 377,eT)::
(nat_lit 380,cP "_law_make" "_law_make" 682 261 3 377)::
(nat_lit 381,fV0 "_law_make" Z2J 380)::
(nat_lit 382,eT)::
(nat_lit 384,tT ["_law_env","_law_kind","_law_cell","_law_known","_law_name"] 691)::
(nat_lit 385,eT)::
(nat_lit 387,cQ "_law_leaf" 688 269 3 382 696)::
(nat_lit 388,fV0 "_law_leaf" Z2E 387)::
(nat_lit 389,eT)::
(nat_lit 391,tT ["_law_env","_law_kind","_law_depth","_law_cell","_law_halls_here","_law_houses","_law_some","_law_house","_law_word","_law_head_here","_law_params","_law_thing"] 702)::
(nat_lit 392,eT)::
(nat_lit 394,cQ "_law_called" 699 283 4 389 714)::
(nat_lit 395,fV0 "_law_called" Z1R 394)::
(nat_lit 396,eT)::
(nat_lit 398,tT ["_law_env","_law_kind","_law_depth","_law_cell","_law_halls_here","_law_some","_law_house","_law_field","_law_thing","_law_other"] 720)::
(nat_lit 399,eT)::
(nat_lit 401,cQ "_law_touched" 717 301 4 396 730)::
(nat_lit 402,fV0 "_law_touched" Z1E 401)::
(nat_lit 403,eT)::
(nat_lit 405,tT ["_law_env","_law_kind","_law_depth","_law_cell","_law_kinds","_law_bound","_law_one","_law_known","_law_other"] 736)::
(nat_lit 406,eT)::
(nat_lit 408,cQ "_law_let" 733 318 4 403 745)::
(nat_lit 409,fV0 "_law_let" Z3y 408)::
(nat_lit 410,eT)::
(nat_lit 412,tT ["_law_env","_law_kind","_law_depth","_law_cell","_law_sign","_law_kinds","_law_other"] 751)::
(nat_lit 413,eT)::
(nat_lit 415,cQ "_law_own" 748 328 4 410 758)::
(nat_lit 416,fV0 "_law_own" Z3B 415)::
(nat_lit 417,eT)::
(nat_lit 419,tT ["_law_env","_law_kind","_law_depth","_law_cell","_law_way","_law_found"] 764)::
(nat_lit 420,eT)::
(nat_lit 422,cQ "_law_want" 761 341 3 417 770)::
(nat_lit 423,fV0 "_law_want" Z2R 422)::
(nat_lit 424,eT)::
(nat_lit 427,cP "_law_turner" "_law_turner" 773 359 3 424)::
(nat_lit 428,fV0 "_law_turner" Z1U 427)::
(nat_lit 429,eT)::
(nat_lit 431,tT ["_law_env","_law_params","_law_own_here","_law_kind"] 782)::
(nat_lit 432,eT)::
(nat_lit 434,cQ "_law_body" 779 382 4 429 786)::
(nat_lit 435,fV0 "_law_body" Z2L 434)::
(nat_lit 436,eT)::
(nat_lit 439,cP "_law_main" "_law_main" 789 387 4 436)::
(nat_lit 440,fV0 "_law_main" Z2Q 439)::
(nat_lit 441,eT)::
(nat_lit 444,cP "_law_program" "_law_program" 795 399 1 441)::
(nat_lit 445,fV0 "_law_program" Z1I 444)::
(nat_lit 446,eT)::
(nat_lit 449,cP "_law_line" "_law_line" 801 424 2 446)::
(nat_lit 450,fV0 "_law_line" Z2O 449)::
(nat_lit 451,eT)::
(nat_lit 453,tT ["_law_houses","_law_found","_law_house","_law_word"] 810)::
(nat_lit 454,eT)::
(nat_lit 456,cQ "_law_numbers" 807 430 1 451 814)::
(nat_lit 457,fV0 "_law_numbers" Z1F 456)::
(nat_lit 458,eT)::
(nat_lit 461,cP "_law_meant" "_law_meant" 817 436 3 458)::
(nat_lit 462,fV0 "_law_meant" Z2j 461)::
(nat_lit 463,eT)::
(nat_lit 466,cP "law" "law" 823 446 1 463)::
(nat_lit 467,fV0 "law" J1W 466)::[]
noncomputable def KA:List V0:=[2,3,15,17,18,20,21,29,32,33,34,36,37,39,40,41,43,44,46,47,48,51,52,53,55,56,58,59,60,62,63,65,66,67,70,71,72,74,75,77,78,79,81,82,84,85,86,87,88,89,90,93,95,96,98,99,100,102,103,105,106,107,109,110,112,113,121,124,125,126,128,129,131,132,133,135,136,138,139,140,142,143,145,146,147,149,150,152,153,154,155,156,157,158,161,163,164,166,167,175,177,178,180,181,182,184,185,187,188,189,190,191,192,193,203,205,206,208,209,210,213,214,215,216,217,218,219,229,231,232,234,235,236,239,240,241,243,244,246,247,248,249,250,251,252,255,258,259,260,263,264,265,268,269,270,272,273,275,276,277,280,281,282,284,285,287,288,289,291,292,294,295,296,298,299,301,302,303,305,306,308,309,310,312,313,315,316,317,320,321,322,324,325,327,328,329,331,332,334,335,336,338,339,341,342,343,346,347,348,350,351,353,354,355,358,359,360,363,364,365,367,368,370,371,372,375,376,377,380,381,382,384,385,387,388,389,391,392,394,395,396,398,399,401,402,403,405,406,408,409,410,412,413,415,416,417,419,420,422,423,424,427,428,429,431,432,434,435,436,439,440,441,444,445,446,449,450,451,453,454,456,457,458,461,462,463,466,467]
theorem ka_eq:∀P,KA=(KK P).map (·.1):=λ _=>by kernel_rfl
theorem J5N{p q:Program}{loose:List V2}{Xt:M1->Bool}{α:Type}{Yf:M1->α}{Ya:M2->α}{N:Nat}{H₀:Params->V3}{gs₀:Array GenState}{d₀:Drawn}{k₀ m₀ M:Nat}{ann:Option V1}(op:∀w:M2,(W.fencedOpening treeTable p w N).map (λ s=>(s.heap,s.gens,s.drawn,s.toks))=some (H₀ w.params,gs₀,d₀,k₀))(sz:∀w:M2,((H₀ w.params).isNs mainGlobals&&gs₀.size==0)=true/\(H₀ w.params).objs.size=m₀/\(H₀ w.params).nsMap mainGlobals "__annotations__"=ann)(le:M<=N)(ex:∀(w:M2)(os:OsState),∃s,W.topRun treeTable p w m₀ ann M ⟨H₀ w.params,gs₀,d₀,k₀,os⟩ (W.topStub p)=some s/\(W.staticsOk (importedModules p.main.body) (H₀ w.params) s.heap&&W.namesBound p s.heap&&W.gensDone s&&W.laidKept (H₀ w.params) s.heap)=true/\W.openSeen q loose (importedModules p.main.body) Xt true s=W.openGood q loose/\Yf s=Ya w):W.LeftO p q loose Xt Yf Ya N:=by
 intro w;obtain⟨⟨hh,gg,dr,tk,os⟩,e1,e2⟩:=qc1.mp (op w);simp only[Prod.mk.injEq]at e2;obtain⟨a1,a2,a3,a4⟩:=e2;subst a1 a2 a3 a4;obtain⟨z1,z2,z3⟩:=sz w;obtain⟨s,hr,b1,b2,b3⟩:=ex w os;have hr:=W.topRun_mono (N-M) _ _ _ _ hr;rw[Nat.add_sub_of_le le]at hr;have ht:W.topFrom treeTable p w N ⟨H₀ w.params,gg,dr,tk,os⟩=some s:=by
  unfold W.topFrom;simp only[z1,z2,z3,hr,Option.bind_some,b1]
 unfold W.openEnds;rw[e1,Option.bind_some,ht,qi1,b2,b3]
theorem zz:(pw0.main.body.isEmpty==false)=true:=by k_qdec
noncomputable def eN(p:Program):Env:={scope:=p.main.scope,locals:=mainNs,globals:=mainNs,cells:=[],code:=.ref 13,frame:=some 14}
noncomputable def cN(p:Program):Code:=.body (W.behindTheImports p) (eN p)
def po:Pos:=⟨0,0,0,0⟩
def pf:Pos:=⟨446,0,464,131⟩
def an:Option V1:=some (.ref 6)
noncomputable def Y0(w:M2)(os:OsState):M1:=⟨W.boot_heap w.params,Array.mk [],W.boot_drawn,W.boot_toks,os⟩
noncomputable def Sa(p:Program)(w:M2)(os:OsState):M1:=match W.topGo treeTable p w 11 an 12 (Y0 w os) (W.topStub p)with
 |some (s,_)=>s
 |none=>Y0 w os
def ofL:List Obj->Nat->W.BT->W.BT
 |[],_,t=>t
 |o::l,n,t=>ofL l (n+1) (t.ins n o)
noncomputable def TB(p:Program)(w:M2)(os:OsState):W.SharedT:=⟨ofL (Sa p w os).heap.objs.toList 0 .nil,15,(Sa p w os).heap.life,(Sa p w os).gens,(Sa p w os).drawn,(Sa p w os).toks,os⟩
theorem r1(w:M2)(os:OsState):W.topGo treeTable pw0 w 11 an 12 (Y0 w os) (W.topStub pw0)=some (Sa pw0 w os,⟨denote treeTable (cN pw0),cN pw0,po,[W.topFrame po]⟩):=by
 kernel_rfl
theorem r2(w:M2)(os:OsState):W.segRun treeTable pw0 w 11 an 1 1 (Sa pw0 w os) (W.blockOf (W.behindTheImports pw0) (eN pw0) (cN pw0) po [W.topFrame po])=some (.next,Sa pw0 w os,cN pw0,po):=by
 kernel_rfl
theorem r3(w:M2)(os:OsState):(TB pw0 w os).abs=Sa pw0 w os:=by
 kernel_rfl
noncomputable def e0:Obj:=⟨.none,none,.fields #[],#[]⟩
noncomputable def et:Obj:=⟨.type "tuple",none,.seq #[] 0,#[]⟩
noncomputable def ky(P:Params)(x:V2)(t:Nat)(v:V1):DictEntry:=⟨PyData.keyHash P x,.str x t,v⟩
noncomputable def fz(x y:V2)(s:Stmt):Obj:=⟨.none,none,.func {name:=x,qualname:=y,params:=L2.Z2e s,body:=.stmts (L2.Z1p s),scope:=L2.Z0h s,globals:=0,closure:=[],defaults:=.none,kwdefaults:=.none},#[]⟩
noncomputable def bi(x:String)(v:V1):Obj:=⟨.type "builtin_function_or_method",none,.fields #[.builtin x,v],#[]⟩
noncomputable def fr(a b:Nat)(x:V2)(t:Nat):Obj:=⟨.type "frame",none,.plain,#[some (.ref a),some (.ref 3),some (.ref b),none,some (.str x t),none,some (.ref 0)]⟩
noncomputable def su(a:Nat):Obj:=⟨.type "super",none,.fields #[.ref a,.ref a,.ref a],#[]⟩
noncomputable def bo(P:Params)(i:Nat):Obj:=(W.boot_heap P).objs.toList.getD i e0
noncomputable def RR(P:Params):List (V0×Obj):=[
(0,bo P 0),
(1,⟨(.type "dict"),none,(.dict #[ky P "builtins" 162 (.ref 4),ky P "__main__" 163 (.ref 5)] 2),#[]⟩),
(4,⟨(.type "module"),(some 0),.plain,#[]⟩),
(5,⟨(.type "module"),(some 3),.plain,#[]⟩),
(6,⟨(.type "dict"),none,(.dict #[] 0),#[]⟩),
(7,et),
(8,e0),
(9,⟨(.type "code"),none,(.fields #[.str "<module>" 176,.str "<module>" 177,.str "/claim/cut.py" 178,.int 1 0,.int 0 0,.int 0 0,.int 0 0,.int 0 0,.ref 7,.bool false,.int 175 0,.ref 8,.none,.none,.none,.none,.int 179 0,.int 1 0,.str "/claim/cut.py" 180]),#[]⟩),
(10,fr 9 3 "__main__" 164),
(11,et),
(12,⟨.none,none,(.fields #[.int 1 0,.int 0 0,.ref 20,.int 5 0,.int 0 0,.ref 27,.int 49 0,.int 0 0,.ref 98,.int 56 0,.int 0 0,.ref 105,.int 62 0,.int 0 0,.ref 112,.int 70 0,.int 0 0,.ref 119,.int 91 0,.int 0 0,.ref 166,.int 101 0,.int 0 0,.ref 173,.int 111 0,.int 0 0,.ref 201,.int 122 0,.int 0 0,.ref 227,.int 134 0,.int 0 0,.ref 258,.int 137 0,.int 0 0,.ref 263,.int 141 0,.int 0 0,.ref 268,.int 144 0,.int 0 0,.ref 275,.int 147 0,.int 0 0,.ref 280,.int 153 0,.int 0 0,.ref 287,.int 161 0,.int 0 0,.ref 294,.int 174 0,.int 0 0,.ref 301,.int 182 0,.int 0 0,.ref 308,.int 186 0,.int 0 0,.ref 315,.int 188 0,.int 0 0,.ref 320,.int 203 0,.int 0 0,.ref 327,.int 209 0,.int 0 0,.ref 334,.int 211 0,.int 0 0,.ref 341,.int 216 0,.int 0 0,.ref 346,.int 218 0,.int 0 0,.ref 353,.int 223 0,.int 0 0,.ref 358,.int 238 0,.int 0 0,.ref 363,.int 256 0,.int 0 0,.ref 370,.int 259 0,.int 0 0,.ref 375,.int 261 0,.int 0 0,.ref 380,.int 269 0,.int 0 0,.ref 387,.int 283 0,.int 0 0,.ref 394,.int 301 0,.int 0 0,.ref 401,.int 318 0,.int 0 0,.ref 408,.int 328 0,.int 0 0,.ref 415,.int 341 0,.int 0 0,.ref 422,.int 359 0,.int 0 0,.ref 427,.int 382 0,.int 0 0,.ref 434,.int 387 0,.int 0 0,.ref 439,.int 399 0,.int 0 0,.ref 444,.int 424 0,.int 0 0,.ref 449,.int 430 0,.int 0 0,.ref 456,.int 436 0,.int 0 0,.ref 461,.int 446 0,.int 0 0,.ref 466]),#[]⟩),
(13,⟨(.type "code"),none,(.fields #[.str "<module>" 182,.str "<module>" 183,.str "/claim/cut.py" 184,.int 1 0,.int 0 0,.int 0 0,.int 0 0,.int 0 0,.ref 11,.bool false,.int 181 0,.ref 12,.none,.none,.none,.none,.int 185 0,.int 1 0,.str "/claim/cut.py" 186]),#[]⟩),
(14,fr 13 3 "__main__" 164),
(16,e0),
(19,fz "_wall" "_wall" J1k),
(22,et),
(23,bi "type.__prepare__" (.type "type")),
(24,⟨(.type "dict"),none,(.dict #[ky P "__module__" 203 (.str "elderhouse.houses" 194),ky P "__qualname__" 205 (.str "Hall" 204),⟨PyData.keyHash P "__firstlineno__",.str "__firstlineno__" 207,.int 5 206⟩,ky P "__init__" 213 (.ref 33),ky P "houses" 220 (.ref 40),ky P "elders" 230 (.ref 47),ky P "younger" 236 (.ref 52),ky P "fields" 246 (.ref 59),ky P "place" 255 (.ref 66),ky P "found" 261 (.ref 71),ky P "head" 270 (.ref 78),ky P "found_word" 279 (.ref 85),ky P "__static_attributes__" 282 (.ref 86)] 13),#[]⟩),
(25,et),
(26,⟨.none,none,(.fields #[.int 7 0,.int 4 0,.ref 32,.int 13 0,.int 4 0,.ref 39,.int 16 0,.int 4 0,.ref 46,.int 24 0,.int 4 0,.ref 51,.int 27 0,.int 4 0,.ref 58,.int 33 0,.int 4 0,.ref 65,.int 36 0,.int 4 0,.ref 70,.int 43 0,.int 4 0,.ref 77,.int 46 0,.int 4 0,.ref 84]),#[]⟩),
(27,⟨(.type "code"),none,(.fields #[.str "Hall" 198,.str "Hall" 199,.str "/claim/cut.py" 200,.int 5 0,.int 0 0,.int 0 0,.int 0 0,.int 0 0,.ref 25,.bool false,.int 181 0,.ref 26,.none,.none,.none,.none,.int 201 0,.int 5 0,.str "/claim/cut.py" 202]),#[]⟩),
(28,fr 27 24 "elderhouse.houses" 194),
(30,e0),
(31,fz "__init__" "Hall.__init__" Z1o),
(35,e0),
(38,fz "houses" "Hall.houses" Z3W),
(42,e0),
(45,fz "elders" "Hall.elders" Z1P),
(49,e0),
(50,fz "younger" "Hall.younger" Z1J),
(54,e0),
(57,fz "fields" "Hall.fields" Z3O),
(61,e0),
(64,fz "place" "Hall.place" Z4q),
(68,e0),
(69,fz "found" "Hall.found" Z2o),
(73,e0),
(76,fz "head" "Hall.head" Z4H),
(80,e0),
(83,fz "found_word" "Hall.found_word" Z2C),
(91,su 88),
(92,bi "object.__init_subclass__" (.ref 88)),
(94,e0),
(97,fz "first_blocks" "first_blocks" Z1H),
(101,e0),
(104,fz "found_block" "found_block" Z1S),
(108,e0),
(111,fz "meant" "meant" Z5K),
(114,et),
(115,bi "type.__prepare__" (.type "type")),
(116,⟨(.type "dict"),none,(.dict #[ky P "__module__" 337 (.str "elderhouse.terms" 328),ky P "__qualname__" 339 (.str "Term" 338),⟨PyData.keyHash P "__firstlineno__",.str "__firstlineno__" 341,.int 70 340⟩,ky P "__init__" 347 (.ref 125),ky P "plain" 354 (.ref 132),ky P "parts" 361 (.ref 139),ky P "depth" 368 (.ref 146),ky P "size" 375 (.ref 153),ky P "__static_attributes__" 382 (.ref 154)] 9),#[]⟩),
(117,et),
(118,⟨.none,none,(.fields #[.int 72 0,.int 4 0,.ref 124,.int 80 0,.int 4 0,.ref 131,.int 83 0,.int 4 0,.ref 138,.int 86 0,.int 4 0,.ref 145,.int 89 0,.int 4 0,.ref 152]),#[]⟩),
(119,⟨(.type "code"),none,(.fields #[.str "Term" 332,.str "Term" 333,.str "/claim/cut.py" 334,.int 70 0,.int 0 0,.int 0 0,.int 0 0,.int 0 0,.ref 117,.bool false,.int 181 0,.ref 118,.none,.none,.none,.none,.int 335 0,.int 70 0,.str "/claim/cut.py" 336]),#[]⟩),
(120,fr 119 116 "elderhouse.terms" 328),
(122,e0),
(123,fz "__init__" "Term.__init__" Z1n),
(127,e0),
(130,fz "plain" "Term.plain" Z2k),
(134,e0),
(137,fz "parts" "Term.parts" Z3k),
(141,e0),
(144,fz "depth" "Term.depth" Z2s),
(148,e0),
(151,fz "size" "Term.size" Z2G),
(159,su 156),
(160,bi "object.__init_subclass__" (.ref 156)),
(162,e0),
(165,fz "shape_of" "shape_of" Z3z),
(168,et),
(169,bi "type.__prepare__" (.type "type")),
(170,⟨(.type "dict"),none,(.dict #[ky P "__module__" 406 (.str "elderhouse.terms" 328),ky P "__qualname__" 408 (.str "Word" 407),⟨PyData.keyHash P "__firstlineno__",.str "__firstlineno__" 410,.int 101 409⟩,ky P "__init__" 421 (.ref 181),ky P "plain" 428 (.ref 188),ky P "__static_attributes__" 433 (.ref 189)] 6),#[]⟩),
(171,et),
(172,⟨.none,none,(.fields #[.int 103 0,.int 4 0,.ref 180,.int 109 0,.int 4 0,.ref 187]),#[]⟩),
(173,⟨(.type "code"),none,(.fields #[.str "Word" 401,.str "Word" 402,.str "/claim/cut.py" 403,.int 101 0,.int 0 0,.int 0 0,.int 0 0,.int 0 0,.ref 171,.bool false,.int 181 0,.ref 172,.none,.none,.none,.none,.int 404 0,.int 101 0,.str "/claim/cut.py" 405]),#[]⟩),
(174,fr 173 170 "elderhouse.terms" 328),
(176,e0),
(179,fz "__init__" "Word.__init__" Z1m),
(183,e0),
(186,fz "plain" "Word.plain" Z2u),
(194,su 191),
(195,bi "object.__init_subclass__" (.ref 191)),
(196,et),
(197,bi "type.__prepare__" (.type "type")),
(198,⟨(.type "dict"),none,(.dict #[ky P "__module__" 448 (.str "elderhouse.terms" 328),ky P "__qualname__" 450 (.str "House" 449),⟨PyData.keyHash P "__firstlineno__",.str "__firstlineno__" 452,.int 111 451⟩,ky P "__init__" 463 (.ref 209),ky P "plain" 469 (.ref 214),ky P "__static_attributes__" 474 (.ref 215)] 6),#[]⟩),
(199,et),
(200,⟨.none,none,(.fields #[.int 113 0,.int 4 0,.ref 208,.int 119 0,.int 4 0,.ref 213]),#[]⟩),
(201,⟨(.type "code"),none,(.fields #[.str "House" 443,.str "House" 444,.str "/claim/cut.py" 445,.int 111 0,.int 0 0,.int 0 0,.int 0 0,.int 0 0,.ref 199,.bool false,.int 181 0,.ref 200,.none,.none,.none,.none,.int 446 0,.int 111 0,.str "/claim/cut.py" 447]),#[]⟩),
(202,fr 201 198 "elderhouse.terms" 328),
(204,e0),
(207,fz "__init__" "House.__init__" Z1j),
(211,e0),
(212,fz "plain" "House.plain" Z1Q),
(220,su 217),
(221,bi "object.__init_subclass__" (.ref 217)),
(222,et),
(223,bi "type.__prepare__" (.type "type")),
(224,⟨(.type "dict"),none,(.dict #[ky P "__module__" 489 (.str "elderhouse.terms" 328),ky P "__qualname__" 491 (.str "Program" 490),⟨PyData.keyHash P "__firstlineno__",.str "__firstlineno__" 493,.int 122 492⟩,ky P "__init__" 502 (.ref 235),ky P "plain" 508 (.ref 240),ky P "bodies" 515 (.ref 247),ky P "__static_attributes__" 518 (.ref 248)] 7),#[]⟩),
(225,et),
(226,⟨.none,none,(.fields #[.int 124 0,.int 4 0,.ref 234,.int 128 0,.int 4 0,.ref 239,.int 132 0,.int 4 0,.ref 246]),#[]⟩),
(227,⟨(.type "code"),none,(.fields #[.str "Program" 484,.str "Program" 485,.str "/claim/cut.py" 486,.int 122 0,.int 0 0,.int 0 0,.int 0 0,.int 0 0,.ref 225,.bool false,.int 181 0,.ref 226,.none,.none,.none,.none,.int 487 0,.int 122 0,.str "/claim/cut.py" 488]),#[]⟩),
(228,fr 227 224 "elderhouse.terms" 328),
(230,e0),
(233,fz "__init__" "Program.__init__" Z1e),
(237,e0),
(238,fz "plain" "Program.plain" Z1u),
(242,e0),
(245,fz "bodies" "Program.bodies" Z3c),
(253,su 250),
(254,bi "object.__init_subclass__" (.ref 250)),
(256,e0),
(257,fz "pairs_of" "pairs_of" Z3w),
(261,e0),
(262,fz "program_of" "program_of" Z2m),
(266,e0),
(267,fz "house_of" "house_of" Z3t),
(271,e0),
(274,fz "word_of" "word_of" Z3L),
(278,e0),
(279,fz "term_of" "term_of" Z3X),
(283,e0),
(286,fz "all_within" "all_within" Z2t),
(290,e0),
(293,fz "parts_of" "parts_of" Z3A),
(297,e0),
(300,fz "label_of" "label_of" Z3v),
(304,e0),
(307,fz "_law_cell_at" "_law_cell_at" Z1G),
(311,e0),
(314,fz "_law_mixed" "_law_mixed" Z2p),
(318,e0),
(319,fz "_law_names" "_law_names" Z2r),
(323,e0),
(326,fz "_law_elders" "_law_elders" Z1T),
(330,e0),
(333,fz "_law_fits" "_law_fits" Z2U),
(337,e0),
(340,fz "_law_fields" "_law_fields" Z1O),
(344,e0),
(345,fz "_law_is_plain" "_law_is_plain" Z1t),
(349,e0),
(352,fz "_law_head" "_law_head" Z2V),
(356,e0),
(357,fz "_law_heads" "_law_heads" Z2v),
(361,e0),
(362,fz "_law_halls" "_law_halls" Z2i),
(366,e0),
(369,fz "_law_draw" "_law_draw" Z2M),
(373,e0),
(374,fz "_law_given" "_law_given" Z2q),
(378,e0),
(379,fz "_law_make" "_law_make" Z2J),
(383,e0),
(386,fz "_law_leaf" "_law_leaf" Z2E),
(390,e0),
(393,fz "_law_called" "_law_called" Z1R),
(397,e0),
(400,fz "_law_touched" "_law_touched" Z1E),
(404,e0),
(407,fz "_law_let" "_law_let" Z3y),
(411,e0),
(414,fz "_law_own" "_law_own" Z3B),
(418,e0),
(421,fz "_law_want" "_law_want" Z2R),
(425,e0),
(426,fz "_law_turner" "_law_turner" Z1U),
(430,e0),
(433,fz "_law_body" "_law_body" Z2L),
(437,e0),
(438,fz "_law_main" "_law_main" Z2Q),
(442,e0),
(443,fz "_law_program" "_law_program" Z1I),
(447,e0),
(448,fz "_law_line" "_law_line" Z2O),
(452,e0),
(455,fz "_law_numbers" "_law_numbers" Z1F),
(459,e0),
(460,fz "_law_meant" "_law_meant" Z2j),
(464,e0),
(465,fz "law" "law" J1W)]
def mrg:Nat->List (V0×Obj)->List (V0×Obj)->List Obj
 |0,_,_=>[]
 |n+1,(a,x)::l,(b,y)::r=>match Nat.blt a b with
  |true=>x::mrg n l ((b,y)::r)
  |false=>y::mrg n ((a,x)::l) r
 |n+1,[],(_,y)::r=>y::mrg n [] r
 |n+1,(_,x)::l,[]=>x::mrg n l []
 |_+1,[],[]=>[]
noncomputable def TF(p:Program)(w:M2)(os:OsState):W.SharedT:=⟨ofL (mrg 468 (RR w.params) (KK w.params)) 0 .nil,468,(Sa p w os).heap.life,Array.mk [],W.boot_drawn,829,os⟩
def sF(w:M2)(b:Bool):M2:={w with params:={w.params with followText:=λ x=>if x="special-get-raises" then b else w.params.followText x}}
theorem J9D(w:M2):sF w (w.params.followText "special-get-raises")=w:=by
 have h:(λ x=>if x="special-get-raises" then w.params.followText "special-get-raises" else w.params.followText x)=w.params.followText:=by
  funext x;split
  ·rename_i h;rw[h]
  ·rfl
 unfold sF;rw[h]
theorem b0t(w:M2)(os:OsState):W.segRunT treeTable pw0 (sF w true) 11 an 1 2870 (TB pw0 (sF w true) os) (W.piecesOf (W.behindTheImports pw0) (eN pw0) (cN pw0) po [W.topFrame po])=some (.next,(TF pw0 (sF w true) os),cN pw0,pf):=by
 unfold TF TB Sa;rw[W.Fast.te10110043849684766642,W.Fast.te15667345088766844465,W.Fast.te2581176678065126679];kernel_rfl
theorem b0f(w:M2)(os:OsState):W.segRunT treeTable pw0 (sF w false) 11 an 1 2870 (TB pw0 (sF w false) os) (W.piecesOf (W.behindTheImports pw0) (eN pw0) (cN pw0) po [W.topFrame po])=some (.next,(TF pw0 (sF w false) os),cN pw0,pf):=by
 unfold TF TB Sa;rw[W.Fast.te10110043849684766642,W.Fast.te15667345088766844465,W.Fast.te2581176678065126679];kernel_rfl
theorem b0(w:M2)(os:OsState):W.segRunT treeTable pw0 w 11 an 1 2870 (TB pw0 w os) (W.piecesOf (W.behindTheImports pw0) (eN pw0) (cN pw0) po [W.topFrame po])=some (.next,(TF pw0 w os),cN pw0,pf):=by
 have h:∀b,W.segRunT treeTable pw0 (sF w b) 11 an 1 2870 (TB pw0 (sF w b) os) (W.piecesOf (W.behindTheImports pw0) (eN pw0) (cN pw0) po [W.topFrame po])=some (.next,(TF pw0 (sF w b) os),cN pw0,pf):=λ b=>by
  cases b
  ·exact b0f w os
  ·exact b0t w os
 have h:=h (w.params.followText "special-get-raises");rw[J9D]at h;exact h
theorem b1(w:M2)(os:OsState):(W.topRun treeTable pw0 w 11 an 2 (TF pw0 w os).abs (W.restOf [] (eN pw0) (cN pw0) pf [W.topFrame po])).map (λ s=>(W.staticsOk (importedModules pw0.main.body) (W.boot_heap w.params) s.heap&&W.namesBound pw0 s.heap&&W.gensDone s&&W.laidKept (W.boot_heap w.params) s.heap))=some true:=by
 kernel_rfl
theorem b2(w:M2)(os:OsState):(W.topRun treeTable pw0 w 11 an 2 (TF pw0 w os).abs (W.restOf [] (eN pw0) (cN pw0) pf [W.topFrame po])).map (λ s=>W.openSeen qv [] (importedModules pw0.main.body) (λ s=>W.xlAt qv [] s&&W.recOk (W.RowW.records rv) s) true s)=some (W.openGood qv []):=by
 kernel_rfl
theorem b3(w:M2)(os:OsState):(W.topRun treeTable pw0 w 11 an 2 (TF pw0 w os).abs (W.restOf [] (eN pw0) (cN pw0) pf [W.topFrame po])).map (λ s=>W.Hook.obs (W.kHook KK KA ka_eq) s)=some (W.Hook.val (W.kHook KK KA ka_eq) w):=by
 kernel_rfl
theorem b4(w:M2)(os:OsState):∃T s,W.segRunT treeTable pw0 w 11 an 1 2870 (TB pw0 w os) (W.piecesOf (W.behindTheImports pw0) (eN pw0) (cN pw0) po [W.topFrame po])=some (.next,T,cN pw0,pf)/\W.topRun treeTable pw0 w 11 an 2 T.abs (W.restOf [] (eN pw0) (cN pw0) pf [W.topFrame po])=some s/\(W.staticsOk (importedModules pw0.main.body) (W.boot_heap w.params) s.heap&&W.namesBound pw0 s.heap&&W.gensDone s&&W.laidKept (W.boot_heap w.params) s.heap)=true/\W.openSeen qv [] (importedModules pw0.main.body) (λ s=>W.xlAt qv [] s&&W.recOk (W.RowW.records rv) s) true s=W.openGood qv []/\W.Hook.obs (W.kHook KK KA ka_eq) s=W.Hook.val (W.kHook KK KA ka_eq) w:=by
 obtain⟨s,hs,y1⟩:=qc1.mp (b1 w os);obtain⟨s2,hs2,y2⟩:=qc1.mp (b2 w os);obtain⟨s3,hs3,y3⟩:=qc1.mp (b3 w os);cases qc5 (hs.symm.trans hs2);cases qc5 (hs.symm.trans hs3);exact⟨TF pw0 w os,s,b0 w os,hs,y1,y2,y3⟩
theorem r7(w:M2)(os:OsState):∃s,W.topRun treeTable pw0 w 11 an (12+(1+(2870+2))) (Y0 w os) (W.topStub pw0)=some s/\(W.staticsOk (importedModules pw0.main.body) (W.boot_heap w.params) s.heap&&W.namesBound pw0 s.heap&&W.gensDone s&&W.laidKept (W.boot_heap w.params) s.heap)=true/\W.openSeen qv [] (importedModules pw0.main.body) (λ s=>W.xlAt qv [] s&&W.recOk (W.RowW.records rv) s) true s=W.openGood qv []/\W.Hook.obs (W.kHook KK KA ka_eq) s=W.Hook.val (W.kHook KK KA ka_eq) w:=by
 obtain⟨T,s,h1,h2,h3,h4,h5⟩:=b4 w os;refine⟨s,W.go_top (r1 w os) (W.piece_block (r2 w os) ?_),h3,h4,h5⟩;have h6:=W.segRun_of h1;rw[r3]at h6;have h7:=W.piece_app (rest:=[]) h6 h2;rw[qd0]at h7;exact h7
theorem r8:∀w:M2,((W.boot_heap w.params).isNs mainGlobals&&(Array.mk ([]:List GenState)).size==0)=true/\(W.boot_heap w.params).objs.size=11/\(W.boot_heap w.params).nsMap mainGlobals "__annotations__"=an:=by
 intro w;exact⟨by kernel_rfl,by kernel_rfl,by kernel_rfl⟩
theorem r9:∀w:M2,(W.fencedOpening treeTable pw0 w 5864).map (λ s=>(s.heap,s.gens,s.drawn,s.toks))=some (W.boot_heap w.params,Array.mk [],W.boot_drawn,W.boot_toks):=W.boot_open rfl rfl λ s=>rfl
theorem left:W.LeftO pw0 qv [] (λ s=>W.xlAt qv [] s&&W.recOk (W.RowW.records rv) s) (W.Hook.obs (W.kHook KK KA ka_eq)) (W.Hook.val (W.kHook KK KA ka_eq)) 5864:=J5N r9 r8 qQ r7
theorem ws0:rw0.wellSaid=true:=by
 kernel_rfl
end K70
end
section
namespace P15
open PySem
inductive Lb|non|int(i:Int)|bl(b:Bool)|str(x:V2)
noncomputable def Lb.d:Lb->PyData
 | .non=>.none| .int i=>.int i| .bl b=>.bool b| .str x=>.str x
inductive Fm|number|truth|name|self|nt|iff|two|lt|new|elder|call|field|set
noncomputable def Fm.s:Fm->V2
 | .number=>"number"| .truth=>"truth"| .name=>"name"| .self=>"self"| .nt=>"not"| .iff=>"if"| .two=>"two"| .lt=>"let"| .new=>"new"| .elder=>"elder"| .call=>"call"| .field=>"field"| .set=>"set"
inductive Tm|mk(f:Fm)(l:Lb)(ps:List Tm)
noncomputable def Tm.f:Tm->Fm| .mk f _ _=>f
noncomputable def Tm.l:Tm->Lb| .mk _ l _=>l
noncomputable def Tm.ps:Tm->List Tm| .mk _ _ ps=>ps
noncomputable def Z0I(f:Fm)(l:Lb)(ps:List PyData):List PyData:=match f with
 | .self| .nt| .iff=>.str f.s::ps
 | .new| .elder=>[.str f.s,l.d,.tuple ps]
 | .call=>match ps with
  |p::a=>[.str f.s,p,l.d,.tuple a]
  |[]=>[]
 | .field| .set=>match ps with
  |p::a=>.str f.s::p::l.d::a
  |[]=>[]
 |_=>.str f.s::l.d::ps
mutual
noncomputable def Tm.dat:Tm->PyData
 | .mk f l ps=>.tuple (Z0I f l (dats ps))
noncomputable def dats:List Tm->List PyData
 |[]=>[]
 |t::a=>t.dat::dats a
end
mutual
noncomputable def Tm.depth:Tm->Nat
 | .mk _ _ ps=>1+maxD ps
noncomputable def maxD:List Tm->Nat
 |[]=>0
 |t::a=>max t.depth (maxD a)
end
mutual
noncomputable def Tm.size:Tm->Nat
 | .mk _ _ ps=>1+sumS ps
noncomputable def sumS:List Tm->Nat
 |[]=>0
 |t::a=>t.size+sumS a
end
noncomputable def okF:Fm->Lb->Nat->Prop
 | .number,.int _,n=>n=0
 | .truth,.bl _,n=>n=0
 | .name,.str _,n=>n=0
 | .self,.non,n=>n=0
 | .nt,.non,n=>n=1
 | .iff,.non,n=>n=3
 | .two,.str _,n=>n=2
 | .lt,.str _,n=>n=2
 | .new,.str _,_=>True
 | .elder,.str _,_=>True
 | .call,.str _,n=>1<=n
 | .field,.str _,n=>n=1
 | .set,.str _,n=>n=2
 |_,_,_=>False
inductive Ok:Tm->Prop
 |mk{f:Fm}{l:Lb}{ps:List Tm}:okF f l ps.length->(∀p∈ps,Ok p)->Ok (.mk f l ps)
mutual
noncomputable def Tm.flat:Tm->List Tm
 | .mk f l ps=>.mk f l ps::flatR ps
noncomputable def flatR:List Tm->List Tm
 |[]=>[]
 |t::a=>flatR a++t.flat
end
theorem Z4d:∀(b a:List Tm),flatR (b++a)=flatR a++flatR b
 |[],a=>by show flatR a=_++[];rw[qd0]
 |x::b,a=>by show flatR (b++a)++x.flat=_++(flatR b++x.flat);rw[Z4d b a,qe8]
inductive Bld:List Tm->List Tm->Prop
 |nil:Bld [] []
 |snoc{w C:List Tm}{t:Tm}:Bld w (C++t.ps)->Bld (w++[t]) (C++[t])
mutual
theorem Bld.flat:∀(t:Tm){w B:List Tm},Bld w B->Bld (w++t.flat.reverse) (B++[t])
 | .mk f l ps,w,B,h=>by
  have a:=Bld.flats ps h;have e:w++(Tm.mk f l ps).flat.reverse=w++(flatR ps).reverse++[Tm.mk f l ps]:=by
   show w++(Tm.mk f l ps::flatR ps).reverse=_;rw[qf8,qe8]
  rw[e];exact .snoc a
theorem Bld.flats:∀(a:List Tm){w B:List Tm},Bld w B->Bld (w++(flatR a).reverse) (B++a)
 |[],w,B,h=>by
  show Bld (w++[]) (B++[]);rw[qd0,qd0];exact h
 |t::a,w,B,h=>by
  have b:=Bld.flats a (Bld.flat t h);show Bld (w++(flatR a++t.flat).reverse) _;rw[List.reverse_append,<-qe8];rw[qe8 B]at b;exact b
end
theorem Bld.inv{w S:List Tm}{x:Tm}(h:Bld (w++[x]) S):∃C,S=C++[x]/\Bld w (C++x.ps):=by
 generalize e:w++[x]=u at h;cases h with
 |nil=>cases w<;>cases e
 |snoc a=>
  obtain⟨rfl,b⟩:=List.append_inj' e rfl;cases b;exact⟨_,rfl,a⟩
theorem Bld.nil_inv{S:List Tm}(h:Bld [] S):S=[]:=by
 generalize e:([]:List Tm)=u at h;cases h with
 |nil=>rfl
 |snoc _=>exact absurd e.symm (by simp)
theorem Z7Q{w:List Tm}{n:Nat}(e:w.length=n+1):∃a x,w=a++[x]/\a.length=n:=
 ⟨w.dropLast,w.getLast (by intro z;rw[z]at e;cases e),(List.dropLast_concat_getLast _).symm,by rw[List.length_dropLast,e];rfl⟩
theorem Bld.det:∀{n:Nat}{w S a:List Tm},w.length=n->Bld w S->Bld w a->S=a
 |0,w,S,a,e,h,b=>by
  cases qj0.mp e;rw[h.nil_inv,b.nil_inv]
 |n+1,w,S,a,e,h,b=>by
  obtain⟨w,x,rfl,c⟩:=Z7Q e;obtain⟨C,rfl,g⟩:=h.inv;obtain⟨j,rfl,i⟩:=b.inv;rw[List.append_cancel_right (Bld.det c g i)]
theorem Bld.pre{u:List Tm}:∀{n:Nat}{v S:List Tm},v.length=n->Bld (u++v) S->∃a,Bld u a
 |0,v,S,e,h=>by
  cases qj0.mp e;rw[qd0]at h;exact⟨S,h⟩
 |n+1,v,S,e,h=>by
  obtain⟨v,x,rfl,b⟩:=Z7Q e;rw[<-qe8]at h;obtain⟨C,_,c⟩:=h.inv;exact Bld.pre b c
theorem Bld.next{w S b:List Tm}{i:Nat}{x:Tm}(h:Bld w S)(c:w[i]?=some x)(h':Bld (w.take i) b):∃C,b=C++x.ps/\Bld (w.take (i+1)) (C++[x]):=by
 have e:w.take (i+1)=w.take i++[x]:=by
  rw[qf3,c];rfl
 obtain⟨j,a⟩:=Bld.pre (u:=w.take (i+1)) (v:=w.drop (i+1)) rfl (by rw[qj1];exact h);rw[e]at a ⊢;obtain⟨C,rfl,g⟩:=a.inv;exact⟨C,Bld.det rfl h' g,a⟩
end P15
end
section
namespace L2
open PySem PySem.Spec PyProof.Rows
abbrev Key:=Sum Int V2
def Z5L:Key->V1->Bool
 | .inl k,v=>Value.isInt k v
 | .inr x,v=>Value.isStrOf x v
def keyH(w:M2):Key->Int
 | .inl k=>hashInt k
 | .inr x=>hashStr w x
theorem Z0X:∀{k:Key}{v:V1},Z5L k v=true->(∃i t,k=Sum.inl i/\v=Value.int i t)\/(∃x t,k=Sum.inr x/\v=Value.str x t)
 | .inl i,v,h=>by
  obtain⟨t,e⟩:=Value.isInt_shape (k:=i) (v:=v) h;exact .inl ⟨i,t,rfl,e⟩
 | .inr x,v,h=>by
  obtain⟨t,e⟩:=Value.isStrOf_shape (x:=x) (v:=v) h;exact .inr ⟨x,t,rfl,e⟩
theorem J1n(i:Int)(t:Tok):Z5L (.inl i) (.int i t)=true:=by simp[Z5L,Value.isInt]
theorem J1H(x:V2)(t:Tok):Z5L (.inr x) (.str x t)=true:=by simp[Z5L,Value.isStrOf]
theorem J7A(a b:Int):decide ((Sum.inl a:Key)=Sum.inl b)=(a==b):=by
 by_cases e:a=b
 ·subst e;simp
 ·have h:¬(Sum.inl a:Key)=Sum.inl b:=λ q=>e (Sum.inl.inj q);rw[decide_eq_false h];exact(beq_eq_false_iff_ne.mpr e).symm
theorem J7u(a b:V2):decide ((Sum.inr a:Key)=Sum.inr b)=decide (a=b):=by
 by_cases e:a=b
 ·subst e;simp
 ·have h:¬(Sum.inr a:Key)=Sum.inr b:=λ q=>e (Sum.inr.inj q);rw[decide_eq_false h,decide_eq_false e]
theorem J7F(a:Int)(b:V2):decide ((Sum.inl a:Key)=Sum.inr b)=false:=decide_eq_false (λ q=>nomatch q)
theorem J6R(a:V2)(b:Int):decide ((Sum.inr a:Key)=Sum.inl b)=false:=decide_eq_false (λ q=>nomatch q)
def Z0F(prog:Program)(w:M2):PySem.KeyKind prog w Key where
 is:=Z5L
 hash:=keyH w
 inj:=λ v a b ha hb=>by
  rcases Z0X ha with⟨i,t,rfl,rfl⟩|⟨x,t,rfl,rfl⟩
  ·rcases Z0X hb with⟨j,u,rfl,e⟩|⟨y,u,rfl,e⟩
   ·injection e with e1 _;rw[e1]
   ·exact nomatch e
  ·rcases Z0X hb with⟨j,u,rfl,e⟩|⟨y,u,rfl,e⟩
   ·exact nomatch e
   ·injection e with e1 _;rw[e1]
 byValue:=λ k v h=>by
  rcases Z0X h with⟨i,t,rfl,rfl⟩|⟨x,t,rfl,rfl⟩<;>rfl
 pyHash:=λ hv h=>by
  rcases Z0X hv with⟨i,t,rfl,rfl⟩|⟨x,t,rfl,rfl⟩
  ·exact wpAny_pyHash_int h
  ·exact wpAny_pyHash_str h
 eqBool:=λ hu hv h=>by
  rcases Z0X hu with⟨i,t,rfl,rfl⟩|⟨x,t,rfl,rfl⟩
  ·rcases Z0X hv with⟨j,u,rfl,rfl⟩|⟨y,u,rfl,rfl⟩
   ·rw[J7A]at h;exact wpAny_eqBool_int h
   ·rw[J7F]at h;exact SeqAt.EqAt.int_str i t y u _ _ _ _ h
  ·rcases Z0X hv with⟨j,u,rfl,rfl⟩|⟨y,u,rfl,rfl⟩
   ·rw[J6R]at h;exact SeqAt.EqAt.str_int x t j u _ _ _ _ h
   ·rw[J7u]at h;exact wpAny_eqBool_str h
 «strs»:=λ k x t v h=>by
  rcases Z0X h with⟨i,u,rfl,e⟩|⟨y,u,rfl,e⟩
  ·exact nomatch e
  ·injection e with e1 _
   subst e1;cases v<;>rfl
theorem Z8o(prog:Program)(w:M2)(i:Int)(t:Tok):(Z0F prog w).is (.inl i) (.int i t)=true:=J1n i t
theorem Z8C(prog:Program)(w:M2)(x:V2)(t:Tok):(Z0F prog w).is (.inr x) (.str x t)=true:=J1H x t
end L2
namespace L2
open PySem PySem.Spec PyProof.Rows
inductive V where
 |non|bl(b:Bool)|int(i:Int)|str(x:V2)|byt(b:Array UInt8)|flt(b:UInt64)|ref(a:V0)|ty(n:String)
 deriving DecidableEq
def RelV:V->V1->Prop
 | .non,u=>u=Value.none
 | .bl b,u=>u=Value.bool b
 | .int i,u=>∃t,u=Value.int i t
 | .str x,u=>∃t,u=Value.str x t
 | .byt b,u=>∃t,u=Value.bytes b t
 | .flt b,u=>∃t,u=Value.float b t
 | .ref a,u=>u=Value.ref a
 | .ty n,u=>u=Value.type n
abbrev Vals:List V->List V1->Prop:=Paired RelV
theorem Vals.length{xs:List V}{us:List V1}(r:Vals xs us):xs.length=us.length:=Paired.length r
theorem Vals.get:∀{xs:List V}{j:List V1}{i:Nat}{x:V},Vals xs j->xs[i]?=some x->∃u,j[i]?=some u/\RelV x u
 |_,_,_,_,.nil,e=>by simp at e
 |_,_,0,_,.cons r _,e=>by simp at e;subst e;exact⟨_,rfl,r⟩
 |_,_,i+1,x,.cons _ t,e=>by
  obtain⟨u,h1,h2⟩:=Vals.get (i:=i) (x:=x) t (by simpa using e);exact⟨u,by simpa using h1,h2⟩
theorem Vals.set{x:V}{u:V1}(r:RelV x u):∀{xs:List V}{j:List V1}(i:Nat),Vals xs j->Vals (xs.set i x) (j.set i u)
 |_,_,_,.nil=>.nil
 |_,_,0,.cons _ t=>.cons r t
 |_,_,i+1,.cons q t=>.cons q (Vals.set r i t)
theorem Vals.append:∀{xs ys:List V}{i j:List V1},Vals xs i->Vals ys j->Vals (xs++ys) (i++j)
 |_,_,_,_,.nil,s=>s
 |_,_,_,_,.cons r t,s=>.cons r (Vals.append t s)
theorem Vals.take:∀{xs:List V}{i:List V1}(n:Nat),Vals xs i->Vals (xs.take n) (i.take n)
 |_,_,0,_=>.nil
 |_,_,_+1,.nil=>.nil
 |_,_,n+1,.cons r t=>.cons r (Vals.take n t)
theorem Vals.drop:∀{xs:List V}{i:List V1}(n:Nat),Vals xs i->Vals (xs.drop n) (i.drop n)
 |_,_,0,r=>r
 |_,_,_+1,.nil=>.nil
 |_,_,n+1,.cons _ t=>Vals.drop n t
def RelO:Option V->Option V1->Prop
 |some v,some u=>RelV v u
 |none,none=>True
 |_,_=>False
def KV{κ:Type}:List (κ×V)->List (κ×V1)->Prop:=Paired λ(p:κ×V) (q:κ×V1)=>p.1=q.1/\RelV p.2 q.2
def kV:Key->V
 | .inl i=>.int i
 | .inr x=>.str x
inductive HO where
 |lst(xs:List V)
 |tup(xs:List V)
 |dK(kvs:List (Key×V))|dT(kvs:List (List Key×V))
 |set(S:Int->Bool)(n:Nat)
 |ins(C dx:V0)(fs:List (V2×V))
 |own(x:V0)
 |xd(fs:List (V2×V))
 |met(f x:V0)
 |rng(lo hi:Int)
 |frz(o:Obj)(u:HO)
 |tbl(ps:Array V1)
 |ext(φ:V3->Prop)
abbrev Hp:=V0->Option HO
def upd(H:Hp)(a:V0)(o:HO):Hp:=λ b=>if b=a then some o else H b
theorem Z0b{H:Hp}{a:V0}{o:HO}:upd H a o a=some o:=by unfold upd;rw[if_pos rfl]
theorem Z0e{H:Hp}{a b:V0}{o:HO}(h:b≠a):upd H a o b=H b:=by unfold upd;rw[if_neg h]
theorem J5r{H:Hp}{a:V0}{o u:HO}:upd (upd H a o) a u=upd H a u:=by
 funext b;unfold upd;split<;>rfl
theorem Z4v{H:Hp}{a b:V0}{o u:HO}(h:H a=some o)(h':H b=some u)(d:o≠u):a≠b:=by
 intro e;subst e;rw[h]at h';exact d (qc5 h')
theorem Z0g{H:Hp}{a b:V0}{o:HO}(h:H a=some o)(h':H b=none):a≠b:=by
 intro e;subst e;rw[h]at h';cases h'
theorem Z9D{h:V3}{xs:Array V1}{n:Nat}:∀o,(h.push {cls:=.type "tuple",data:=.seq xs n}).get? h.objs.size=some o->o.dict=none:=λ o q=>by
 rw[Heap.get?_push_size _ rfl]at q;cases q;rfl
section
variable(P:Program)(w:M2)
def ObjOk(H:Hp)(h:V3)(a:V0):HO->Prop
 | .lst xs=>xs.length<=sizeLine/\∃(i:List V1)(n:Nat),Vals xs i/\h.get? a=some {cls:=.type "list",data:=.seq i.toArray n}
 | .tup xs=>(xs.length<=sizeLine/\∀o,h.get? a=some o->o.dict=none)/\∃i:List V1,Vals xs i/\IsTup h a i.toArray
 | .dK j=>j.length<=sizeLine/\(a==sysModules)=false/\∃z,KV j z/\h.DictOf (Z0F P w) a z
 | .dT j=>j.length<=sizeLine/\(a==sysModules)=false/\∃xs:List (List Key×V0×V1),
   Paired (λ(p:List Key×V) (q:List Key×V0×V1)=>p.1=q.1/\H q.2.1=some (.tup (p.1.map kV))/\RelV p.2 q.2.2) j xs/\
   ∃o es B,h.get? a=some o/\o.ExactDict/\o.data=.dict es B/\es.toList=xs.map (entryOfKey (tupleKind (Z0F P w)))/\(xs.map (·.1)).Nodup
 | .set S n=>h.SetOf (intKind P w) a S n
 | .ins C dx fs=>H dx=some (.own a)/\fs.length<=1000/\dx≠a/\h.get? a=some (W.instObj C dx)/\
   ∃mA,h.Ns1 dx mA/\(∀f,RelO (fs.lookup f) (mA f))/\PySem.Within mA (fs.map (·.1))
 | .own _=>∃o,h.get? a=some o
 | .xd fs=>∃mA,h.Ns1 a mA/\∀f,RelO (fs.lookup f) (mA f)
 | .rng lo hi=>∃t u v,h.get? a=some {cls:=.type "range",data:=.fields #[.int lo t,.int hi u,.int 1 v]}
 | .frz o u=>h.get? a=some o/\ObjOk H h a u
 | .tbl ps=>h.get? a=some {cls:=.none,data:=.fields ps}
 | .met f x=>h.get? a=some (W.methodObj (.ref f) (.ref x))
 | .ext y=>y h/\(∃o,h.get? a=some o)/\∀h1 h2:V3,y h1->(∀o,h1.get? a=some o->h2.get? a=some o)->y h2
def HOk(H:Hp)(h:V3):Prop:=∀a o,H a=some o->ObjOk P w H h a o
end
section
variable{P:Program}{w:M2}{H H':Hp}{h h':V3}{a:V0}{o:HO}
theorem ObjOk.lt(x:ObjOk P w H h a o):a<h.objs.size:=by
 cases o with
 |lst xs=>obtain⟨_,_,_,_,e⟩:=x;exact Heap.lt_size e
 |tup xs=>obtain⟨_,_,_,p⟩:=x;exact p.lt
 |dK i=>obtain⟨_,_,_,_,o,_,_,e,_⟩:=x;exact Heap.lt_size e
 |dT i=>obtain⟨_,_,_,_,o,_,_,e,_⟩:=x;exact Heap.lt_size e
 |set S n=>obtain⟨o,_,_,_,e,_⟩:=x;exact Heap.lt_size e
 |ins C dx fs=>obtain⟨_,_,_,e,_⟩:=x;exact Heap.lt_size e
 |own y=>obtain⟨_,e⟩:=x;exact Heap.lt_size e
 |xd fs=>obtain⟨_,⟨_,_,_,e,_⟩,_⟩:=x;exact Heap.lt_size e
 |rng lo hi=>obtain⟨_,_,_,e⟩:=x;exact Heap.lt_size e
 |frz j u=>obtain⟨e,_⟩:=x;exact Heap.lt_size e
 |tbl ps=>exact Heap.lt_size (show h.get? a=some _ from x)
 |met f y=>exact Heap.lt_size (show h.get? a=some _ from x)
 |ext q=>obtain⟨_,⟨_,e⟩,_⟩:=x;exact Heap.lt_size e
theorem Paired.mapP{n q:Type}{F G:n->q->Prop}:∀{i:List n}{j:List q},Paired F i j->(∀a b,F a b->G a b)->Paired G i j
 |_,_,.nil,_=>.nil
 |_,_,.cons r t,f=>.cons (f _ _ r) (Paired.mapP t f)
theorem ObjOk.stay(x:ObjOk P w H h a o)(k:∀b u,(b=a\/H b=some (.own a))->h.get? b=some u->h'.get? b=some u)(I:∀b,H b=some (.own a)->H' b=some (.own a))(J:∀b xs,H b=some (.tup xs)->H' b=some (.tup xs)):ObjOk P w H' h' a o:=by
 induction o with
 |lst xs=>obtain⟨z,B,n,r,e⟩:=x;exact⟨z,B,n,r,k _ _ (.inl rfl) e⟩
 |tup xs=>obtain⟨z,B,r,i,e,c⟩:=x;exact⟨⟨z.1,λ o q=>by rw[k _ _ (.inl rfl) e]at q;cases q;exact z.2 _ e⟩,B,r,i,k _ _ (.inl rfl) e,c⟩
 |dK D=>obtain⟨z,y,L,r,i,es,j,e,c⟩:=x;exact⟨z,y,L,r,i,es,j,k _ _ (.inl rfl) e,c⟩
 |dT D=>
  obtain⟨z,y,xs,r,i,es,j,e,c⟩:=x;exact⟨z,y,xs,Paired.mapP r λ p q z=>⟨z.1,J _ _ z.2.1,z.2.2⟩,i,es,j,k _ _ (.inl rfl) e,c⟩
 |set S n=>obtain⟨i,es,j,t,e,c⟩:=x;exact⟨i,es,j,t,k _ _ (.inl rfl) e,c⟩
 |ins C dx fs=>
  obtain⟨d,z,M,e,mA,⟨G,es,j,N,c⟩,r⟩:=x;exact⟨I _ d,z,M,k _ _ (.inl rfl) e,mA,⟨G,es,j,k _ _ (.inr d) N,c⟩,r⟩
 |own y=>obtain⟨i,e⟩:=x;exact⟨i,k _ _ (.inl rfl) e⟩
 |xd fs=>obtain⟨mA,⟨G,es,j,e,c⟩,r⟩:=x;exact⟨mA,⟨G,es,j,k _ _ (.inl rfl) e,c⟩,r⟩
 |rng lo hi=>obtain⟨t,u,v,e⟩:=x;exact⟨t,u,v,k _ _ (.inl rfl) e⟩
 |frz i u O=>obtain⟨e,q⟩:=x;exact⟨k _ _ (.inl rfl) e,O q⟩
 |tbl ps=>
  have e:h.get? a=some {cls:=.none,data:=.fields ps}:=x;show h'.get? a=some {cls:=.none,data:=.fields ps};exact k a _ (.inl rfl) e
 |met f y=>
  have e:h.get? a=some (W.methodObj (.ref f) (.ref y)):=x;show h'.get? a=some (W.methodObj (.ref f) (.ref y));exact k a _ (.inl rfl) e
 |ext R=>obtain⟨p,⟨o,e⟩,st⟩:=x;exact⟨st _ _ p λ o q=>k _ _ (.inl rfl) q,⟨o,k _ _ (.inl rfl) e⟩,st⟩
theorem HOk.lt(x:HOk P w H h)(e:H a=some o):a<h.objs.size:=(x a o e).lt
theorem HOk.fresh(x:HOk P w H h)(e:h.objs.size<=a):H a=none:=by
 cases q:H a with
 |none=>rfl
 |some u=>exact absurd (qd1 (x.lt q) e) (qe9 _)
theorem HOk.kept(x:HOk P w H h)(k:∀b u,h.get? b=some u->h'.get? b=some u):HOk P w H h':=λ a o e=>
 (x a o e).stay (λ b u _ q=>k b u q) (λ _ q=>q) λ _ _ q=>q
theorem HOk.laid(x:HOk P w H h)(k:∀b u,h.get? b=some u->h'.get? b=some u)(n:h.objs.size<=a)(new:ObjOk P w (upd H a o) h' a o):HOk P w (upd H a o) h':=λ b u e=>by
 have i:=x.fresh n;by_cases j:b=a
 ·subst j;rw[Z0b]at e;cases e;exact new
 ·rw[Z0e j]at e;exact(x b u e).stay (λ c v _ q=>k c v q) (λ c q=>by rw[Z0e (Z0g q i)];exact q) λ c xs q=>by rw[Z0e (Z0g q i)];exact q
end
def Rd(H:Hp)(a:V0)(u:HO):Prop:=H a=some u\/∃o,H a=some (.frz o u)
theorem Rd.ok{P:Program}{w:M2}{H:Hp}{h:V3}{a:V0}{u:HO}(r:Rd H a u)(x:HOk P w H h):ObjOk P w H h a u:=by
 rcases r with r|⟨o,r⟩
 ·exact x a u r
 ·obtain⟨_,q⟩:=x a _ r;exact q
def Mut:Option HO->Prop
 |some (.lst _)=>True
 |some (.dK _)=>True
 |some (.dT _)=>True
 |some (.set _ _)=>True
 |some (.ins _ _ _)=>True
 |some (.ext _)=>True
 |_=>False
section
variable{P:Program}{w:M2}{H:Hp}{h h':V3}{x e:V0}{o':HO}
theorem HOk.write(ok:HOk P w H h)(B:Mut (H x))(J:e=x\/H e=some (.own x))(k:∀b u,b≠e->h.get? b=some u->h'.get? b=some u)(I:∃u,h'.get? e=some u)(new:ObjOk P w (upd H x o') h' x o'):HOk P w (upd H x o') h':=λ b u q=>by
 have j:∀c y,H c=some (.own y)->c≠x:=λ c y r z=>by subst z;rw[r]at B;exact B
 have n:∀c xs,H c=some (.tup xs)->c≠x:=λ c xs r z=>by subst z;rw[r]at B;exact B
 by_cases D:b=x
 ·subst D;rw[Z0b]at q;cases q;exact new
 ·rw[Z0e D]at q;by_cases i:b=e
  ·have L:H b=some (.own x):=by
    rcases J with z|z
    ·exact absurd (i.trans z) D
    ·rw[i];exact z
   rw[q]at L;cases L;obtain⟨v,M⟩:=I;exact⟨v,by rw[i];exact M⟩
  ·refine(ok b u q).stay (λ c v G r=>k c v ?_ r) (λ c r=>by rw[Z0e (j c b r)];exact r) λ c xs r=>by rw[Z0e (n c xs r)];exact r
   rcases G with rfl|G
   ·exact i
   ·rintro rfl;rcases J with z|z
    ·exact j c b G z
    ·rw[G]at z;cases z;exact D rfl
end
structure Un(fs ex:List V0)(H H':Hp)(h h':V3):Prop where
 keep:∀b o,h.get? b=some o->H b=none->b∉fs->b∉ex->h'.get? b=some o
 slot:∀b o,h.get? b=some o->H b=none->b∈fs->b∉ex->∃sl,h'.get? b=some {o with slots:=sl}
 free:∀b o,h.get? b=some o->H b=none->b∉ex->H' b=none
 there:∀b o,h.get? b=some o->b∉ex->∃o',h'.get? b=some o'
 tups:∀b xs,H b=some (.tup xs)->H' b=some (.tup xs)
 frzs:∀b o u,H b=some (.frz o u)->H' b=some (.frz o u)
 tbls:∀b ps,H b=some (.tbl ps)->∃more,H' b=some (.tbl (ps++more))
section
variable{fs fs' ex ex':List V0}{H H1 H2:Hp}{h h1 h2 h':V3}{a x e:V0}{o:HO}
theorem Un.any(u:Un fs ex H H1 h h1){b:V0}{i:Obj}(q:h.get? b=some i)(n:H b=none)(j:b∉ex):∃z,h1.get? b=some {i with slots:=z}:=by
 by_cases y:b∈fs
 ·exact u.slot b i q n y j
 ·exact⟨i.slots,u.keep b i q n y j⟩
theorem Un.kept(k:∀b u,h.get? b=some u->h'.get? b=some u):Un fs ex H H h h':=
 ⟨λ b i q _ _ _=>k b i q,λ b i q _ _ _=>⟨i.slots,k b i q⟩,λ _ _ _ n _=>n,λ b i q _=>⟨i,k b i q⟩,λ _ _ q=>q,λ _ _ _ q=>q,λ _ ps q=>⟨#[],by rw[q];simp⟩⟩
theorem Un.refl:Un fs ex H H h h:=Un.kept λ _ _ q=>q
theorem Un.laid(k:∀b u,h.get? b=some u->h'.get? b=some u)(j:h.objs.size<=a)(i:H a=none):Un fs ex H (upd H a o) h h' where
 keep:=λ b u q _ _ _=>k b u q
 slot:=λ b u q _ _ _=>⟨u.slots,k b u q⟩
 free:=λ b u q n _=>by rw[Z0e (qb7 (qd1 (Heap.lt_size q) j))];exact n
 there:=λ b u q _=>⟨u,k b u q⟩
 tups:=λ b xs q=>by rw[Z0e (Z0g q i)];exact q
 frzs:=λ b u xs q=>by rw[Z0e (Z0g q i)];exact q
 tbls:=λ b ps q=>⟨#[],by rw[Z0e (Z0g q i),q];simp⟩
theorem Un.write(j:Mut (H x))(I:e=x\/H e=some (.own x))(k:∀b u,b≠e->h.get? b=some u->h'.get? b=some u)(y:∃u,h'.get? e=some u):Un fs ex H (upd H x o) h h':=by
 have D:∀b,H b=none->b≠x:=λ b n z=>by subst z;rw[n]at j;exact j
 have G:∀b,H b=none->b≠e:=λ b n z=>by
  subst z;rcases I with r|r
  ·exact D b n r
  ·rw[n]at r;cases r
 have B:∀b u,H b=some u->¬Mut (some u)->b≠x:=λ b u q nm z=>by subst z;rw[q]at j;exact nm j
 refine⟨λ b u q n _ _=>k b u (G b n) q,λ b u q n _ _=>⟨u.slots,k b u (G b n) q⟩,λ b u q n _=>by rw[Z0e (D b n)];exact n,λ b u q _=>?_,
  λ b xs q=>by rw[Z0e (B b _ q λ z=>z)];exact q,λ b u xs q=>by rw[Z0e (B b _ q λ z=>z)];exact q,λ b ps q=>⟨#[],by rw[Z0e (B b _ q λ z=>z),q];simp⟩⟩
 by_cases i:b=e
 ·subst i;exact y
 ·exact⟨u,k b u i q⟩
end
def trk(h:V3)(H:Hp):List V0:=(qd2 h.objs.size).filter λ a=>(H a).isSome
def hidT(h:V3)(H:Hp):V3:=W.hideAll h (trk h H)
theorem J1x(h:V3)(H:Hp):(hidT h H).objs.size=h.objs.size:=W.hideAll_size _ _
theorem J2W{h:V3}{H:Hp}{b:V0}{o:Obj}(e:h.get? b=some o)(n:H b=none):(hidT h H).get? b=some o:=
 W.hideAll_get _ e λ i=>by
  have q:(H b).isSome=true:=(qc7.mp i).2;rw[n]at q;simp at q
theorem J5s{h:V3}{H:Hp}{b:V0}{o:Obj}(e:(hidT h H).get? b=some o):h.get? b=some o/\H b=none:=by
 have i:h.get? b=some o:=W.of_hideAll (trk h H) e;refine⟨i,?_⟩;cases q:H b with
 |none=>rfl
 |some x=>
  have j:b∈trk h H:=qc7.mpr ⟨qf9.mpr (Heap.lt_size i),by simp[q]⟩;have z:(hidT h H).get? b=none:=W.hideAll_none (trk h H) j;rw[z]at e;cases e
def Z4K(g h:V3)(L:V0):List (V0×Obj):=(qd2 h.objs.size).filterMap λ a=>if a=L\/(g.get? a).isSome=true then none else(h.get? a).map λ o=>(a,o)
theorem Z8c{g h:V3}{L a:V0}{o:Obj}(h1:a≠L)(h2:g.get? a=none)(i:h.get? a=some o):(a,o)∈Z4K g h L:=
 qk4.mpr ⟨a,qf9.mpr (Heap.lt_size i),by simp[h1,h2,i]⟩
theorem Z5l{g h:V3}{L:V0}{p:V0×Obj}(j:p∈Z4K g h L):p.1≠L/\g.get? p.1=none/\h.get? p.1=some p.2:=by
 obtain⟨b,_,e⟩:=qk4.mp j;split at e
 ·cases e
 ·rename_i i;cases q:h.get? b with
  |none=>rw[q]at e;simp at e
  |some u=>
   rw[q]at e;simp only[qi1,Option.some.injEq]at e;subst e;refine⟨λ z=>i (.inl z),?_,q⟩;show g.get? b=none;cases r:g.get? b with
   |none=>rfl
   |some v=>exact(i (.inr (by simp[r]))).elim
def rest(g h:V3)(L d:V0):List (V0×Obj):=(Z4K g h L).filter λ p=>decide (p.1≠d)
theorem J3B{g h:V3}{L:V0}:News g L h (Z4K g h L):=λ p i=>let⟨a,b,c⟩:=Z5l i;⟨c,a,b⟩
end L2
namespace L2
open PySem PySem.Spec PyProof.Rows
structure Mod(K:X0)(mg:V2->Option V1)(base:V3):Prop where
 kin:K.In base
 glob:base.Ns mainGlobals mg
 blt:∃mb,base.Ns builtinsNs mb/\∀x:V2,x≠"__name__"->mb x=bootBuiltins x
 nolimit:base.NoLimit
structure Cx where
 prog:Program
 w:M2
 K:X0
 mg:V2->Option V1
 base:V3
 A:V4
 N:List V2
 s₀:M1
 H₀:Hp
 env:Env
 outer:List Env
 stack:List Env
 ex:List V0
 fn:V2->Bool
 calm:Bool
 pn:List (V0×Obj)
 xe:V1->M1->Prop
def frs(l:List Env):List V0:=l.filterMap (·.frame)
abbrev Cx.fs(X:Cx):List V0:=frs X.outer
def Vis(sc:Scope)(x:V2):Prop:=sc.names.lookup x=some .local\/sc.names.lookup x=some .cell\/sc.names.lookup x=some .free
def Loc(sc:Scope)(x:V2):Prop:=sc.names.lookup x=some .local\/sc.names.lookup x=some .cell
def Look(env:Env)(h:V3)(m:V2->Option V1)(x:V2)(u:V1):Prop:=
 (env.kindOf x=some .local/\m x=some u)\/((env.kindOf x=some .cell\/env.kindOf x=some .free)/\∃c,env.cells.lookup x=some c/\h.IsCell c (some u))
structure Cx.Ok(X:Cx):Prop where
 mod:Mod X.K X.mg X.base
 kind:X.env.scope.kind=.function
 glob:X.env.globals=mainGlobals
 blt:X.env.builtins=builtinsNs
 above:X.s₀.heap.objs.size<=X.env.locals
 inj:∀x y c,X.env.cells.lookup x=some c->X.env.cells.lookup y=some c->x=y
 has:∀x,(X.env.kindOf x=some .cell\/X.env.kindOf x=some .free)->∃c,X.env.cells.lookup x=some c
 cab:∀x c,X.fn x=true->X.env.cells.lookup x=some c->X.s₀.heap.objs.size<=c
 hd:X.calm=true->X.A.handled=none
 frames:X.A.frames=some X.stack
 stk:X.stack=X.outer\/(X.stack=X.env::X.outer/\X.env.frame=some X.env.locals)
 exf:∀b∈X.ex,b≠X.env.locals/\∀x c,X.env.cells.lookup x=some c->c≠b
 bs:∀b o,X.base.get? b=some o->X.s₀.heap.get? b=some o/\X.H₀ b=none
 bsz:X.base.objs.size<=X.s₀.heap.objs.size
 noex:∀b o,X.base.get? b=some o->b∉X.ex
 exfs:∀b∈X.ex,b∉X.fs
 funs:X.s₀.heap.FunFrames X.base X.outer
 frf:∀b∈X.fs,X.H₀ b=none
structure Inv(X:Cx)(pins:List (V0×Obj))(σ:List (Option V))(H:Hp)(s:M1):Prop where
 ok:X.Ok
 os:s.os=X.s₀.os
 bare:AllBare s.gens
 base:Un X.fs X.ex X.H₀ H X.s₀.heap s.heap
 loc:∃m,s.heap.Ns X.env.locals m/\∀(i:Nat)(x:V2)(v:V),X.N[i]?=some x->σ[i]?=some (some v)->Vis X.env.scope x->∃u,RelV v u/\Look X.env s.heap m x u
 cell:∀x c,X.env.cells.lookup x=some c->∃v,s.heap.IsCell c v
 free:H X.env.locals=none
 freeC:∀x c,X.env.cells.lookup x=some c->H c=none
 pin:∀p∈X.pn++pins,s.heap.get? p.1=some p.2/\H p.1=none/\p.1≠X.env.locals/\p.1∉X.fs/\∀v,p.2.data≠.cell v
 hok:HOk X.prog X.w H s.heap
 len:σ.length=X.N.length
section
variable{X:Cx}{pins:List (V0×Obj)}{σ:List (Option V)}{H H':Hp}{s:M1}{h':V3}
theorem Cx.Ok.nofr(ok:X.Ok){b:V0}{o:Obj}(e:X.base.get? b=some o):b∉X.fs:=λ i=>by
 have:=(ok.funs.mem i).1;rw[e]at this;cases this
theorem Inv.bs(I:Inv X pins σ H s):∀b o,X.base.get? b=some o->s.heap.get? b=some o/\H b=none:=λ b o e=>
 ⟨I.base.keep b o (I.ok.bs b o e).1 (I.ok.bs b o e).2 (I.ok.nofr e) (I.ok.noex b o e),I.base.free b o (I.ok.bs b o e).1 (I.ok.bs b o e).2 (I.ok.noex b o e)⟩
theorem Inv.bk(I:Inv X pins σ H s):∀b o,X.base.get? b=some o->s.heap.get? b=some o:=λ b o e=>(I.bs b o e).1
theorem Inv.mod(I:Inv X pins σ H s):Mod X.K X.mg X.base:=I.ok.mod
theorem Inv.kIn(I:Inv X pins σ H s):X.K.In s.heap:=I.ok.mod.kin.keeps I.bk
theorem Inv.fr(I:Inv X pins σ H s):∃m,Fr X.base X.env.locals s.heap m:=
 let⟨m,i,_⟩:=I.loc
 ⟨m,i,I.bk,qb9 I.ok.bsz I.ok.above⟩
theorem Inv.lt(I:Inv X pins σ H s):X.env.locals<s.heap.objs.size:=let⟨_,i,_⟩:=I.loc;i.lt
theorem Inv.sz(I:Inv X pins σ H s):X.s₀.heap.objs.size<=s.heap.objs.size:=qb9 I.ok.above (qg4 I.lt)
theorem Inv.nofs(I:Inv X pins σ H s){a:V0}(h:s.heap.objs.size<=a):a∉X.fs:=λ i=>by
 obtain⟨_,o,j,_⟩:=I.ok.funs.mem i;exact absurd (qd1 (Heap.lt_size j) (qb9 I.sz h)) (qe9 _)
theorem Inv.cne(I:Inv X pins σ H s):∀x c,X.env.cells.lookup x=some c->c≠X.env.locals:=λ x c e z=>by
 obtain⟨v,o,n,hd⟩:=I.cell x c e;obtain⟨m,⟨o',es,q,i,j,_⟩,_⟩:=I.loc;rw[z,i]at n;cases n;rw[j]at hd;cases hd
theorem Inv.funs(I:Inv X pins σ H s):s.heap.FunFrames X.base X.outer:=by
 have all:∀(l:List Env),(∀b∈frs l,b∈X.fs)->X.s₀.heap.FunFrames X.base l->s.heap.FunFrames X.base l:=by
  intro l;induction l with
  |nil=>intro _ _;trivial
  |cons y r B=>
   intro q D;obtain⟨G,⟨L,o,i,J,M,hd⟩,N⟩:=D;have j:L∈X.fs:=q L (by unfold frs;rw[ql9,i];exact qa9);obtain⟨O,e⟩:=I.base.slot L o M (I.ok.frf L j) j λ z=>I.ok.exfs L z j;exact⟨G,⟨L,_,i,J,e,hd⟩,B (λ b n=>q b (by unfold frs;rw[ql9,i];exact qb1 _ n)) N⟩
 exact all X.outer (λ _ n=>n) I.ok.funs
theorem Inv.stack(I:Inv X pins σ H s):s.heap.FunFrames X.base X.stack:=by
 rcases I.ok.stk with e|⟨e,i⟩
 ·rw[e];exact I.funs
 ·rw[e];obtain⟨m,j,_⟩:=I.loc;refine .cons (by rw[I.ok.kind];decide) i j ?_ I.funs;exact Heap.get?_none_of_le (qb9 I.ok.bsz I.ok.above)
theorem Inv.stkSub(I:Inv X pins σ H s):∀b∈frs X.stack,b∈X.env.locals::X.fs:=λ b i=>by
 rcases I.ok.stk with e|⟨e,j⟩
 ·rw[e]at i;exact qb1 _ i
 ·rw[e]at i;unfold frs at i;rw[ql9,j]at i;exact i
theorem Inv.stkFree(I:Inv X pins σ H s):∀b∈frs X.stack,H b=none:=λ b i=>by
 rcases qa2.mp (I.stkSub b i)with e|i
 ·rw[e];exact I.free
 ·obtain⟨_,o,j,_⟩:=I.ok.funs.mem i;exact I.base.free b o j (I.ok.frf b i) λ z=>I.ok.exfs b z i
theorem Inv.step{g':Array GenState}{t':Nat}{d':Drawn}{ch:List V0}(I:Inv X pins σ H s)(y:∀b∈ch,(b∈X.ex\/X.s₀.heap.objs.size<=b)/\b≠X.env.locals/\(∀x c,X.env.cells.lookup x=some c->c≠b)/\∀p∈X.pn++pins,p.1≠b)(B:∀b o,b≠X.env.locals->b∉X.fs->b∉ch->s.heap.get? b=some o->H b=none->h'.get? b=some o)(M:∀b o,b≠X.env.locals->b∈X.fs->b∉ch->s.heap.get? b=some o->H b=none->∃sl,h'.get? b=some {o with slots:=sl})(free:∀b o,b∉ch->s.heap.get? b=some o->H b=none->H' b=none)(there:∀b o,b∉ch->s.heap.get? b=some o->∃o',h'.get? b=some o')(R:∀b xs,H b=some (.tup xs)->H' b=some (.tup xs))(S:∀b o u,H b=some (.frz o u)->H' b=some (.frz o u))(U:∀b ps,H b=some (.tbl ps)->∃more,H' b=some (.tbl (ps++more)))(ns:∀m,s.heap.Ns X.env.locals m->h'.Ns X.env.locals m)(a0:HOk X.prog X.w H' h')(hg:AllBare g'):Inv X pins σ H' {s with heap:=h',gens:=g',drawn:=d',toks:=t'}:=by
 have Y:∀b o,X.s₀.heap.get? b=some o->b≠X.env.locals:=λ b o e=>qb7 (qd1 (Heap.lt_size e) I.ok.above);have J:∀b o,X.s₀.heap.get? b=some o->b∉X.ex->b∉ch:=λ b o e j N=>by
  rcases(y b N).1 with z|z
  ·exact j z
  ·exact absurd (qd1 (Heap.lt_size e) z) (qe9 _)
 have D:∀x c,X.env.cells.lookup x=some c->∀v,s.heap.IsCell c v->h'.IsCell c v:=λ x c e v ⟨o,O,hd⟩=>by
  have G:c∉ch:=λ z=>(y c z).2.2.1 x c e rfl;by_cases hc:c∈X.fs
  ·obtain⟨sl,q⟩:=M c o (I.cne x c e) hc G O (I.freeC x c e);exact⟨_,q,hd⟩
  ·exact⟨o,B c o (I.cne x c e) hc G O (I.freeC x c e),hd⟩
 refine⟨I.ok,I.os,hg,⟨λ b o e n N j=>?_,λ b o e n N j=>?_,λ b o e n j=>?_,λ b o e j=>?_,λ b xs e=>R b xs (I.base.tups b xs e),λ b o xs e=>S b o xs (I.base.frzs b o xs e),λ b ps e=>?_⟩,?_,λ x c e=>?_,?_,λ x c e=>?_,λ p hp=>?_,a0,I.len⟩
 ·exact B b o (Y b o e) N (J b o e j) (I.base.keep b o e n N j) (I.base.free b o e n j)
 ·obtain⟨sl,L⟩:=I.base.slot b o e n N j;obtain⟨b0,Z⟩:=M b _ (Y b o e) N (J b o e j) L (I.base.free b o e n j);exact⟨b0,Z⟩
 ·obtain⟨o',L⟩:=I.base.there b o e j;exact free b o' (J b o e j) L (I.base.free b o e n j)
 ·obtain⟨o',L⟩:=I.base.there b o e j;exact there b o' (J b o e j) L
 ·obtain⟨m1,L⟩:=I.base.tbls b ps e;obtain⟨m2,Z⟩:=U b _ L;exact⟨m1++m2,by rw[Z,Array.append_assoc]⟩
 ·obtain⟨m,hn,hl⟩:=I.loc;refine⟨m,ns m hn,λ i x v L Z e3=>?_⟩;obtain⟨u,r,l⟩:=hl i x v L Z e3;refine⟨u,r,?_⟩;rcases l with l|⟨k,c,e,z⟩
  ·exact .inl l
  ·exact .inr ⟨k,c,e,D x c e _ z⟩
 ·obtain⟨v,z⟩:=I.cell x c e;exact⟨v,D x c e v z⟩
 ·obtain⟨m,⟨o,_,_,O,_⟩,_⟩:=I.loc;exact free _ o (λ z=>(y _ z).2.1 rfl) O I.free
 ·obtain⟨v,o,O,hd⟩:=I.cell x c e;exact free c o (λ z=>(y c z).2.2.1 x c e rfl) O (I.freeC x c e)
 ·obtain⟨e,n,ne,nf,d⟩:=I.pin p hp;have G:p.1∉ch:=λ z=>(y p.1 z).2.2.2 p hp rfl;exact⟨B p.1 p.2 ne nf G e n,free p.1 p.2 G e n,ne,nf,d⟩
theorem Inv.un{t':Nat}(I:Inv X pins σ H s)(u:Un X.fs [] H H' s.heap h')(j:HOk X.prog X.w H' h'):Inv X pins σ H' {s with heap:=h',toks:=t'}:=by
 obtain⟨m,⟨o,es,M,D,r⟩,_⟩:=id I.loc;obtain⟨N,G⟩:=u.any D I.free (by simp);exact I.step (g':=s.gens) (d':=s.drawn) (ch:=[]) (λ _ z=>nomatch z) (λ b o _ q _ e n=>u.keep b o e n q (by simp)) (λ b o _ q _ e n=>u.slot b o e n q (by simp)) (λ b o _ e n=>u.free b o e n (by simp)) (λ b o _ e=>u.there b o e (by simp)) u.tups u.frzs u.tbls (λ O J=>by
  obtain⟨o',y,B,i,L⟩:=J;rw[D]at i;cases i;exact⟨_,y,B,G,L⟩) j I.bare
theorem Inv.call{g':Array GenState}{t':Nat}{d':Drawn}{ch:List V0}(I:Inv X pins σ H s)(u:Un (frs X.stack) ch H H' s.heap h')(y:HOk X.prog X.w H' h')(L:AllBare g')(j:∀b∈ch,(b∈X.ex\/X.s₀.heap.objs.size<=b)/\b≠X.env.locals/\(∀x c,X.env.cells.lookup x=some c->c≠b)/\∀p∈X.pn++pins,p.1≠b):Inv X pins σ H' {s with heap:=h',gens:=g',drawn:=d',toks:=t'}:=by
 obtain⟨m,⟨o,es,R,J,r⟩,_⟩:=id I.loc;obtain⟨S,B⟩:=u.any J I.free λ z=>(j _ z).2.1 rfl;exact I.step (ch:=ch) j (λ b o B M i e n=>u.keep b o e n (λ z=>(qa2.mp (I.stkSub b z)).elim B M) i) (λ b o _ _ i e n=>u.any e n i) (λ b o i e n=>u.free b o e n i) (λ b o i e=>u.there b o e i) u.tups u.frzs u.tbls (λ U N=>by
  obtain⟨o',D,G,q,O⟩:=N;rw[J]at q;cases q;exact⟨_,D,G,B,O⟩) y L
theorem Inv.turned{t':Nat}{it:V0}(I:Inv X pins σ H s)(k:∀b o,b≠it->s.heap.get? b=some o->h'.get? b=some o)(B:H it=none)(y:it≠X.env.locals)(h1:it∈X.ex\/X.s₀.heap.objs.size<=it)(h2:∀x c,X.env.cells.lookup x=some c->c≠it)(D:∀p∈X.pn++pins,p.1≠it):Inv X pins σ H {s with heap:=h',toks:=t'}:=by
 have j:∀b u,H b=some u->b≠it:=λ b u e z=>by rw[z,B]at e;cases e
 refine I.step (g':=s.gens) (d':=s.drawn) (ch:=[it]) (λ b G=>?_) (λ b o _ _ i e _=>k b o (λ z=>i (by simp [z])) e) (λ b o _ _ i e _=>⟨o.slots,k b o (λ z=>i (by simp [z])) e⟩) (λ _ _ _ _ n=>n)
  (λ b o i e=>⟨o,k b o (λ z=>i (by simp[z])) e⟩) (λ _ _ e=>e) (λ _ _ _ e=>e) (λ b ps e=>⟨#[],by rw[e];simp⟩) (λ m J=>?_) (λ b u e=>?_) I.bare
 ·have e:b=it:=by simpa using G
  subst e;exact⟨h1,y,h2,D⟩
 ·obtain⟨o,es,L,M,r⟩:=J;exact⟨o,es,L,k _ o (Ne.symm y) M,r⟩
 ·refine(I.hok b u e).stay (λ c v i q=>k c v ?_ q) (λ _ q=>q) λ _ _ q=>q;rcases i with z|z
  ·rw[z];exact j b u e
  ·exact j c _ z
theorem Inv.tok(I:Inv X pins σ H s)(t:Nat):Inv X pins σ H {s with toks:=t}:=I.un (h':=s.heap) (t':=t) Un.refl I.hok
theorem Inv.kept{t':Nat}(I:Inv X pins σ H s)(k:∀b u,s.heap.get? b=some u->h'.get? b=some u):Inv X pins σ H {s with heap:=h',toks:=t'}:=I.un (Un.kept k) (I.hok.kept k)
theorem Inv.laid{a:V0}{o:HO}{t':Nat}(I:Inv X pins σ H s)(k:∀b u,s.heap.get? b=some u->h'.get? b=some u)(i:s.heap.objs.size<=a)(new:ObjOk X.prog X.w (upd H a o) h' a o):Inv X pins σ (upd H a o) {s with heap:=h',toks:=t'}:=I.un (Un.laid k i (I.hok.fresh i)) (I.hok.laid k i new)
theorem Inv.write{x e:V0}{o:HO}{t':Nat}(I:Inv X pins σ H s)(j:Mut (H x))(n:e=x\/H e=some (.own x))(k:∀b u,b≠e->s.heap.get? b=some u->h'.get? b=some u)(i:∃u,h'.get? e=some u)(new:ObjOk X.prog X.w (upd H x o) h' x o):Inv X pins σ (upd H x o) {s with heap:=h',toks:=t'}:=I.un (Un.write j n k i) (I.hok.write j n k i new)
theorem Inv.pins_of{i:List (V0×Obj)}(I:Inv X pins σ H s)(h:∀p∈i,s.heap.get? p.1=some p.2/\H p.1=none/\p.1≠X.env.locals/\p.1∉X.fs/\∀v,p.2.data≠.cell v):Inv X i σ H s:=
 ⟨I.ok,I.os,I.bare,I.base,I.loc,I.cell,I.free,I.freeC,λ p j=>(qb5.mp j).elim (λ z=>I.pin p (qe0 _ z)) (h p),I.hok,I.len⟩
theorem Z9u{N:List V2}(n:N.Nodup){i j:Nat}{x:V2}(a:N[i]?=some x)(b:N[j]?=some x):i=j:=by
 obtain⟨h1,q⟩:=qa7.mp a;obtain⟨h2,y⟩:=qa7.mp b;exact(List.getElem_inj n).mp (q.trans y.symm)
theorem Z6N{M:Model}{A:V4}{E:V1->M1->Prop}{i:Nat}{x:V2}{v:V}{u:V1}{Q:Unit->M1->Prop}(I:Inv X pins σ H s)(hN:X.N.Nodup)(hi:X.N[i]?=some x)(L:Loc X.env.scope x)(r:RelV v u)(h:∀s',Inv X pins (σ.set i (some v)) H s'->(∃a,Heap.SameBut a s.heap s'.heap/\(a=X.env.locals\/X.env.cells.lookup x=some a))->Q () s')(hf:X.fn x=true\/X.env.scope.names.lookup x=some .local:=by first|exact .inl rfl|exact .inr rfl|assumption):wpAny M A (storeName X.env x u) Q E s:=by
 obtain⟨m,hn,hl⟩:=id I.loc;have a0:(X.env.scope.kind==.class||(X.env.scope.kind==.module&&X.env.locals !=X.env.globals))=false:=by rw[I.ok.kind];rfl
 have R:i<σ.length:=by rw[I.len];exact(qa7.mp hi).1
 have cne:=I.cne;have D:∀{a:V0}{h':V3},(∃o,s.heap.get? a=some o/\H a=none)->Heap.SameBut a s.heap h'->HOk X.prog X.w H h':=λ{a h'} ha B b ob e=>by
  obtain⟨_,_,N⟩:=ha;refine(I.hok b ob e).stay (λ c w' J q=>(B.2 c ?_).trans q) (λ _ q=>q) λ _ _ q=>q;rintro rfl;rcases J with rfl|J
  ·rw[N]at e;cases e
  ·rw[N]at J;cases J
 rcases L with S|S
 ·refine wpAny_storeName_local S hn (λ h' f0 B=>?_) a0;obtain⟨oL,_,_,g0,_⟩:=id hn;refine h _ ⟨I.ok,I.os,I.bare,⟨λ b o e n U L=>?_,λ b o e n U L=>?_,I.base.free,λ b o e L=>?_,I.base.tups,I.base.frzs,I.base.tbls⟩,⟨_,f0,λ j y v' G O e3=>?_⟩,λ y c e=>?_,I.free,I.freeC,λ p hp=>?_,D ⟨oL,g0,I.free⟩ B,by simpa using I.len⟩ ⟨_,B,.inl rfl⟩
  ·exact(B.2 b (qb7 (qd1 (Heap.lt_size e) I.ok.above))).trans (I.base.keep b o e n U L)
  ·obtain⟨sl,G⟩:=I.base.slot b o e n U L;exact⟨sl,(B.2 b (qb7 (qd1 (Heap.lt_size e) I.ok.above))).trans G⟩
  ·obtain⟨o',G⟩:=I.base.there b o e L;exact⟨o',(B.2 b (qb7 (qd1 (Heap.lt_size e) I.ok.above))).trans G⟩
  ·by_cases Y:j=i
   ·subst Y;rw[hi]at G;cases G;rw[qh2 R]at O;cases O;exact⟨u,r,.inl ⟨S,by simp⟩⟩
   ·rw[qm0 (Ne.symm Y)]at O;obtain⟨u',r',q⟩:=hl j y v' G O e3;refine⟨u',r',?_⟩;rcases q with⟨k,e⟩|⟨k,c,e,z⟩
    ·refine .inl ⟨k,?_⟩;have:y≠x:=λ e=>Y (Z9u hN G (e▸hi));simp[this,e]
    ·exact .inr ⟨k,c,e,z.sameBut B (cne y c e)⟩
  ·obtain⟨w',z⟩:=I.cell y c e;exact⟨w',z.sameBut B (cne y c e)⟩
  ·obtain⟨e,n,ne,nf,d⟩:=I.pin p hp;exact⟨(B.2 p.1 ne).trans e,n,ne,nf,d⟩
 ·have Z:X.fn x=true:=by
   rcases hf with z|z
   ·exact z
   ·rw[z]at S;cases S
  obtain⟨c,J⟩:=I.ok.has x (.inl S);obtain⟨w',z⟩:=I.cell x c J;refine wpAny_storeName_cell I.ok.kind S J z (λ h' b0 B=>?_);obtain⟨oc,c0,d0⟩:=id z;refine h {s with heap:=h'} ⟨I.ok,I.os,I.bare,⟨λ b o e n U L=>?_,λ b o e n U L=>?_,I.base.free,λ b o e L=>?_,I.base.tups,I.base.frzs,I.base.tbls⟩,⟨m,hn.sameBut B (Ne.symm (cne x c J)),λ j y v' G O e3=>?_⟩,λ y c' e=>?_,I.free,I.freeC,λ p hp=>?_,D ⟨oc,c0,I.freeC x c J⟩ B,by simpa using I.len⟩ ⟨c,B,.inr J⟩
  ·exact(B.2 b (qb7 (qd1 (Heap.lt_size e) (I.ok.cab x c Z J)))).trans (I.base.keep b o e n U L)
  ·obtain⟨sl,G⟩:=I.base.slot b o e n U L;exact⟨sl,(B.2 b (qb7 (qd1 (Heap.lt_size e) (I.ok.cab x c Z J)))).trans G⟩
  ·obtain⟨o',G⟩:=I.base.there b o e L;exact⟨o',(B.2 b (qb7 (qd1 (Heap.lt_size e) (I.ok.cab x c Z J)))).trans G⟩
  ·by_cases Y:j=i
   ·subst Y;rw[hi]at G;cases G;rw[qh2 R]at O;cases O;exact⟨u,r,.inr ⟨.inl S,c,J,b0⟩⟩
   ·rw[qm0 (Ne.symm Y)]at O;obtain⟨u',r',q⟩:=hl j y v' G O e3;refine⟨u',r',?_⟩;rcases q with q|⟨k,c',e,z'⟩
    ·exact .inl q
    ·refine .inr ⟨k,c',e,z'.sameBut B ?_⟩;rintro rfl;exact Y (Z9u hN G (I.ok.inj _ _ _ e J▸hi))
  ·by_cases e0:c'=c
   ·subst e0;exact⟨_,b0⟩
   ·obtain⟨w2,z2⟩:=I.cell y c' e;exact⟨w2,z2.sameBut B e0⟩
  ·obtain⟨e,n,ne,nf,d⟩:=I.pin p hp;refine⟨(B.2 p.1 ?_).trans e,n,ne,nf,d⟩;intro q;rw[q,c0]at e;have q':oc=p.2:=qc5 e;exact d w' (by rw[<-q'];exact d0)
theorem Z6a{M:Model}{A:V4}{E:V1->M1->Prop}{i:Nat}{x:V2}{v:V}{u:V1}{Q:Unit->M1->Prop}(I:Inv X pins σ H s)(j:X.N.Nodup)(hi:X.N[i]?=some x)(n:Loc X.env.scope x)(r:RelV v u)(h:∀s',Inv X pins (σ.set i (some v)) H s'->Q () s')(q:X.fn x=true\/X.env.scope.names.lookup x=some .local:=by first|exact .inl rfl|exact .inr rfl|assumption):wpAny M A (storeName X.env x u) Q E s:=
 Z6N I j hi n r (λ s' y _=>h s' y) q
end
abbrev XK:=V1->Option V0->Hp->Prop
abbrev St:=List (Option V)
abbrev VK:=V->Hp->Prop
abbrev TE:=St->Hp->VK->Prop
abbrev TT:=St->Hp->(Bool->Hp->Prop)->Prop
abbrev TA:=St->Hp->(List V->Hp->Prop)->Prop
structure Ends where
 nx:St->Hp->Prop
 rt:VK
 bk:St->Hp->Prop:=λ _ _=>False
 ct:St->Hp->Prop:=λ _ _=>False
abbrev TS:=Ends->St->Hp->Prop
def EP(X:Cx)(pins:List (V0×Obj))(σ:St)(Q:VK)(u:V1)(s':M1):Prop:=∃v H',Inv X pins σ H' s'/\RelV v u/\Q v H'
def TP(X:Cx)(pins:List (V0×Obj))(σ:St)(Q:Bool->Hp->Prop)(b:Bool)(s':M1):Prop:=∃H',Inv X pins σ H' s'/\Q b H'
def AP(X:Cx)(pins:List (V0×Obj))(σ:St)(Q:List V->Hp->Prop)(us:List V1)(s':M1):Prop:=∃i H',Inv X pins σ H' s'/\Vals i us/\Q i H'
def SP(X:Cx)(pins:List (V0×Obj))(D:Ends)(f:Flow)(s':M1):Prop:=
 match f with
 | .next=>∃i H',Inv X pins i H' s'/\D.nx i H'
 | .brk=>∃i H',Inv X pins i H' s'/\D.bk i H'
 | .cont=>∃i H',Inv X pins i H' s'/\D.ct i H'
 | .ret u=>∃v i H',Inv X pins i H' s'/\RelV v u/\D.rt v H'
def PE(X:Cx)(e:Expr)(t:TE):Prop:=
 ∀(pins:List (V0×Obj))(s:M1)(σ:St)(H:Hp)(Q:VK),Inv X pins σ H s->t σ H Q->wpAny (model X.prog X.w) X.A (eval e X.env) (EP X pins σ Q) X.xe s
def PT(X:Cx)(e:Expr)(t:TT):Prop:=
 ∀(pins:List (V0×Obj))(s:M1)(σ:St)(H:Hp)(Q:Bool->Hp->Prop),Inv X pins σ H s->t σ H Q->wpAny (model X.prog X.w) X.A (isTrue e X.env (eval e X.env)) (TP X pins σ Q) X.xe s
def PW(X:Cx)(e:Expr)(t:TT):Prop:=
 ∀(i:Sem V1)(pins:List (V0×Obj))(s:M1)(σ:St)(H:Hp)(Q:Bool->Hp->Prop),Inv X pins σ H s->t σ H Q->wpAny (model X.prog X.w) X.A (isTrue e X.env i) (TP X pins σ Q) X.xe s
theorem PW.pt{X:Cx}{e:Expr}{t:TT}(h:PW X e t):PT X e t:=h _
def PA(X:Cx)(es:List Expr)(t:TA):Prop:=
 ∀(pos:Pos)(pins:List (V0×Obj))(s:M1)(σ:St)(H:Hp)(Q:List V->Hp->Prop),Inv X pins σ H s->t σ H Q->wpAny (model X.prog X.w) X.A (spliced (backTo pos (starEach es X.env))) (AP X pins σ Q) X.xe s
def PS(X:Cx)(st:Stmt)(t:TS):Prop:=
 ∀(pins:List (V0×Obj))(s:M1)(σ:St)(H:Hp)(D:Ends),Inv X pins σ H s->t D σ H->wpAny (model X.prog X.w) X.A (exec st X.env) (SP X pins D) X.xe s
def PSs(X:Cx)(st:List Stmt)(t:TS):Prop:=
 ∀(pins:List (V0×Obj))(s:M1)(σ:St)(H:Hp)(D:Ends),Inv X pins σ H s->t D σ H->wpAny (model X.prog X.w) X.A (execs st X.env) (SP X pins D) X.xe s
theorem thn{i:Type}{t:Sem i}{Q Q':i->M1->Prop}{M:Model}{A:V4}{E:V1->M1->Prop}{s:M1}(h:wpAny M A t Q E s)(j:∀a s,Q a s->Q' a s):wpAny M A t Q' E s:=wpAny_mono h j λ _ _ x=>x
end L2
namespace L2
open PySem PySem.Spec PyProof.Rows
section
variable{X:Cx}
theorem bin{a b:Expr}{ta tb:TE}(ha:PE X a ta)(z:PE X b tb){pins:List (V0×Obj)}{s:M1}{σ:St}{H:Hp}{R:V->V->Hp->Prop}(I:Inv X pins σ H s)(h:ta σ H λ x H1=>tb σ H1 λ y H2=>R x y H2){q:Type}{Q:q->M1->Prop}{f:V1->V1->Sem q}(B:∀v u n x y H2,Inv X pins σ H2 n->RelV x v->RelV y u->R x y H2->wpAny (model X.prog X.w) X.A (f v u) Q X.xe n):wpAny (model X.prog X.w) X.A (eval a X.env) (λ v i=>wpAny (model X.prog X.w) X.A (eval b X.env) (λ u j=>wpAny (model X.prog X.w) X.A (f v u) Q X.xe j) X.xe i) X.xe s:=by
 refine thn (ha pins s σ H _ I h) λ v D ⟨x,H1,G,J,L⟩=>?_;refine thn (z pins D σ H1 _ G L) λ u n ⟨y,H2,M,N,O⟩=>?_;exact B v u n x y H2 M J N O
def tVar(i:Nat):TE:=λ σ H Q=>∃v,σ[i]?=some (some v)/\Q v H
def tC(v:V):TE:=λ _ H Q=>Q v H
theorem J6X{i:Nat}{x:V2}{pos:Pos}(z:X.N[i]?=some x)(B:Vis X.env.scope x)(hd:(x==("__debug__":V2))=false:=by decide)(q:(x==("__classdict__":V2))=false:=by decide):PE X (.Name x pos) (tVar i):=by
 intro pins s σ H Q I h;obtain⟨v,e,h⟩:=h;obtain⟨m,D,G⟩:=I.loc;obtain⟨u,r,l⟩:=G i x v z e B;have fin:EP X pins σ Q u s:=⟨v,H,I,r,h⟩;rcases l with⟨n,J⟩|⟨n,c,y,j⟩
 ·exact wpAny_Name (wpAny_loadName_local I.ok.kind n D J fin) hd
 ·rcases n with n|n
  ·exact wpAny_Name (wpAny_loadName_cell I.ok.kind n y j fin) hd
  ·exact wpAny_Name (wpAny_loadName_free I.ok.kind n y j fin q) hd
theorem Z0c{i j pos}:PE X (.Constant (.int i) j pos) (tC (.int i)):=λ _ _ _ H _ I h=>wpAny_Constant_int ⟨.int i,H,I.tok _,⟨_,rfl⟩,h⟩
theorem J7q{b j pos}:PE X (.Constant (.bool b) j pos) (tC (.bl b)):=λ _ _ _ H _ I h=>Constant_bool ⟨.bl b,H,I,rfl,h⟩
theorem Z0V{j pos}:PE X (.Constant .none j pos) (tC .non):=λ _ _ _ H _ I h=>Constant_none ⟨.non,H,I,rfl,h⟩
theorem Z0f{x j pos}:PE X (.Constant (.str x) j pos) (tC (.str x)):=λ _ _ _ H _ I h=>Calls.Constant_str ⟨.str x,H,I.tok _,⟨_,rfl⟩,h⟩
def Gl(X:Cx)(x:V2):Prop:=X.env.kindOf x=some .globalImplicit
theorem J1F{E:V1->M1->Prop}{pins:List (V0×Obj)}{s:M1}{σ:St}{H:Hp}{x:V2}{u:V1}{pos:Pos}{Q:V1->M1->Prop}(I:Inv X pins σ H s)(i:Gl X x)(j:X.mg x=some u)(h:Q u s)(hd:(x==("__debug__":V2))=false:=by decide):wpAny (model X.prog X.w) X.A (eval (.Name x pos) X.env) Q E s:=
 Calls.Name_function_global I.ok.kind i (Calls.loadGlobal_global (by rw[I.ok.glob];exact I.mod.glob.keeps I.bk) j h) hd
theorem Z4e{E:V1->M1->Prop}{pins:List (V0×Obj)}{s:M1}{σ:St}{H:Hp}{x:V2}{u:V1}{pos:Pos}{Q:V1->M1->Prop}(I:Inv X pins σ H s)(i:Gl X x)(j:X.mg x=none)(n:bootBuiltins x=some u)(h:Q u s)(q:x≠"__name__":=by decide)(hd:(x==("__debug__":V2))=false:=by decide):wpAny (model X.prog X.w) X.A (eval (.Name x pos) X.env) Q E s:=by
 obtain⟨y,h1,h2⟩:=I.mod.blt;exact Calls.Name_function_global I.ok.kind i (Calls.loadGlobal_builtin (by rw[I.ok.glob];exact I.mod.glob.keeps I.bk) j (by rw[I.ok.blt];exact h1.keeps I.bk) ((h2 x q).trans n) h) hd
theorem J5J{x:V2}{v:V}{u:V1}{pos:Pos}(i:Gl X x)(j:X.mg x=none)(n:bootBuiltins x=some u)(r:RelV v u)(q:x≠"__name__":=by decide)(hd:(x==("__debug__":V2))=false:=by decide):PE X (.Name x pos) (tC v):=
 λ _ _ _ H _ I h=>Z4e I i j n ⟨v,H,I,r,h⟩ q hd
variable{a b:Expr}{ta tb:TE}{pos:Pos}
def PC(X:Cx)(op:CmpOp)(a b:Expr)(t:TE):Prop:=
 ∀(pins:List (V0×Obj))(s:M1)(σ:St)(H:Hp)(Q:VK),Inv X pins σ H s->t σ H Q->
  wpAny (model X.prog X.w) X.A (eval a X.env) (λ v i=>wpAny (model X.prog X.w) X.A (eval b X.env) (λ u j=>wpAny (model X.prog X.w) X.A (compareOp op v u) (EP X pins σ Q) X.xe j) X.xe i) X.xe s
theorem Z8V(b:Expr){op:CmpOp}(h:op≠.In)(h2:op≠.NotIn):behindInMarks op b=false:=by
 have i:(op==CmpOp.In)=false:=by cases op<;>first|rfl|exact absurd rfl h
 have j:(op==CmpOp.NotIn)=false:=by cases op<;>first|rfl|exact absurd rfl h2
 cases b<;>simp[behindInMarks,i,j]
def tB(t:TE):TT:=λ σ H Q=>t σ H λ x H1=>∃c,x=.bl c/\Q c H1
theorem J4w{op:CmpOp}{t:TE}(h:PC X op a b t)(h1:behindInMarks op b=false:=by first|exact Z8V _ qQ qQ|rfl):PE X (.Compare a [op] [b] pos) t:=λ pins s σ H Q I i=>wpAny_Compare1 (h pins s σ H Q I i) h1
theorem Z5v{op:CmpOp}{t:TE}(h:PC X op a b t)(h1:behindInMarks op b=false:=by first|exact Z8V _ qQ qQ|rfl):PT X (.Compare a [op] [b] pos) (tB t):=by
 intro pins s σ H Q I i;refine wpAny_isTrue_Compare1 (thn (h pins s σ H _ I i) λ v z h1=>thn h1 λ u B h2=>thn h2 λ c D ⟨x,H1,j,n,y⟩=>?_) h1;obtain⟨d,rfl,q⟩:=y;cases n;exact wpAny_truthy_bool ⟨H1,j,q⟩
theorem Z3b{e:Expr}{t:TE}(h:PE X e t)(j:∀i,isTrue e X.env i=(do let v<-i;standAt e.pos;holding [v] (truthy v)):=by intro _;rfl):PT X e (tB t):=by
 intro pins s σ H Q I n;refine isTrue_plain (thn (h pins s σ H _ I n) λ v D ⟨x,H1,y,z,B⟩=>?_) (j _);obtain⟨d,rfl,q⟩:=B;cases z;exact wpAny_truthy_bool ⟨H1,y,q⟩
variable{tA tB':TT}{rest:List Expr}
def tAnd(t u:TT):TT:=λ σ H Q=>t σ H λ c H1=>if c=true then u σ H1 Q else Q false H1
def tOr(t u:TT):TT:=λ σ H Q=>t σ H λ c H1=>if c=true then Q true H1 else u σ H1 Q
def tNot(t:TT):TT:=λ σ H Q=>t σ H λ c H1=>Q (!c) H1
theorem Z1Z(ha:PT X a tA):PW X (.BoolOp .And [a] pos) tA:=by
 intro i pins s σ H Q I h;refine isTrue_and (thn (ha pins s σ H Q I h) λ c j e=>?_);cases c with
 |true=>exact isTrue_and_nil e
 |false=>exact e
theorem Z8D(ha:PT X a tA):PW X (.BoolOp .Or [a] pos) tA:=by
 intro i pins s σ H Q I h;refine isTrue_or (thn (ha pins s σ H Q I h) λ c j e=>?_);cases c with
 |false=>exact isTrue_or_nil e
 |true=>exact e
theorem Z3d(ha:PT X a tA)(n:PW X (.BoolOp .And (b::rest) pos) tB'):PW X (.BoolOp .And (a::b::rest) pos) (tAnd tA tB'):=by
 intro q pins s σ H Q I h;refine isTrue_and (thn (ha pins s σ H _ I h) λ c y ⟨H1,i,j⟩=>?_);cases c with
 |true=>exact n q pins y σ H1 Q i j
 |false=>exact⟨H1,i,j⟩
theorem J1Z(ha:PT X a tA)(n:PW X (.BoolOp .Or (b::rest) pos) tB'):PW X (.BoolOp .Or (a::b::rest) pos) (tOr tA tB'):=by
 intro q pins s σ H Q I h;refine isTrue_or (thn (ha pins s σ H _ I h) λ c y ⟨H1,i,j⟩=>?_);cases c with
 |true=>exact⟨H1,i,j⟩
 |false=>exact n q pins y σ H1 Q i j
theorem J7h(ha:PT X a tA):PT X (.UnaryOp .Not a pos) (tNot tA):=by
 intro pins s σ H Q I h;exact isTrue_not (ha pins s σ H (λ c H1=>Q (!c) H1) I h)
def J6J(ta tb:TE):TE:=λ σ H Q=>ta σ H λ x H1=>∃c,x=.bl c/\if c=true then tb σ H1 Q else Q (.bl false) H1
def tOrV(ta tb:TE):TE:=λ σ H Q=>ta σ H λ x H1=>∃c,x=.bl c/\if c=true then Q (.bl true) H1 else tb σ H1 Q
theorem Z8H{op}{t:TE}(h:PE X a t):PE X (.BoolOp op [a] pos) t:=λ pins s σ H Q I i=>BoolOp_one (h pins s σ H Q I i)
theorem J2E(ha:PE X a ta)(n:PE X (.BoolOp .And (b::rest) pos) tb):PE X (.BoolOp .And (a::b::rest) pos) (J6J ta tb):=by
 intro pins s σ H Q I h;refine BoolOp_and (thn (ha pins s σ H _ I h) λ v q ⟨x,H1,j,y,i⟩=>?_);obtain⟨c,rfl,i⟩:=i;cases y;refine wpAny_truthy_bool ?_;cases c with
 |true=>exact n pins q σ H1 Q j i
 |false=>exact⟨.bl false,H1,j,rfl,i⟩
theorem J8O(ha:PE X a ta)(n:PE X (.BoolOp .Or (b::rest) pos) tb):PE X (.BoolOp .Or (a::b::rest) pos) (tOrV ta tb):=by
 intro pins s σ H Q I h;refine BoolOp_or (thn (ha pins s σ H _ I h) λ v q ⟨x,H1,j,y,i⟩=>?_);obtain⟨c,rfl,i⟩:=i;cases y;refine wpAny_truthy_bool ?_;cases c with
 |false=>exact n pins q σ H1 Q j i
 |true=>exact⟨.bl true,H1,j,rfl,i⟩
end
end L2
namespace L2
open PySem PySem.Spec PyProof.Rows
def SqL(K:X0)(H:Hp)(a:V0)(xs:List V):Prop:=
 Rd H a (.lst xs)\/
  ∃(o:Obj)(i:Array V1)(n:Nat),K.lookup a=some o/\o.cls=.type "list"/\o.dict=none/\o.data=.seq i n/\i.size<=sizeLine/\Vals xs i.toList
def SqT(K:X0)(H:Hp)(a:V0)(xs:List V):Prop:=
 Rd H a (.tup xs)\/
  ∃(o:Obj)(i:Array V1)(n:Nat),K.lookup a=some o/\(o.cls=.type "tuple"/\o.dict=none)/\o.data=.seq i n/\i.size<=sizeLine/\Vals xs i.toList
def absV:V1->Option V
 | .none=>some .non
 | .bool b=>some (.bl b)
 | .int i _=>some (.int i)
 | .str x _=>some (.str x)
 | .bytes b _=>some (.byt b)
 | .float b _=>some (.flt b)
 | .ref a=>some (.ref a)
 | .type n=>some (.ty n)
 |_=>none
theorem RelV.abs{x:V}{u:V1}(r:RelV x u):absV u=some x:=by
 cases x with
 |non=>cases r;rfl
 |bl _=>cases r;rfl
 |int _=>obtain⟨t,rfl⟩:=r;rfl
 |str _=>obtain⟨t,rfl⟩:=r;rfl
 |byt _=>obtain⟨t,rfl⟩:=r;rfl
 |flt _=>obtain⟨t,rfl⟩:=r;rfl
 |ref _=>cases r;rfl
 |ty _=>cases r;rfl
theorem RelV.inj{x y:V}{u:V1}(r:RelV x u)(q:RelV y u):x=y:=qc5 (r.abs.symm.trans q.abs)
theorem Vals.inj:∀{xs ys:List V}{i:List V1},Vals xs i->Vals ys i->xs=ys
 |_,_,_,.nil,.nil=>rfl
 |_,_,_,.cons r t,.cons j n=>by rw[r.inj j,Vals.inj t n]
section
variable{X:Cx}{pins:List (V0×Obj)}{σ:St}{H:Hp}{s:M1}{a:V0}{xs ys:List V}
theorem SqL.of{K:X0}(h:H a=some (.lst xs)):SqL K H a xs:=.inl (.inl h)
theorem SqT.of{K:X0}(h:H a=some (.tup xs)):SqT K H a xs:=.inl (.inl h)
theorem Inv.list(I:Inv X pins σ H s)(h:SqL X.K H a xs):∃i:List V1,Vals xs i/\PlainL s.heap a i.toArray/\xs.length<=sizeLine:=by
 rcases h with h|⟨o,i,n,j,q,hd,y,B,r⟩
 ·obtain⟨z,i,n,r,e⟩:=h.ok I.hok;exact⟨i,r,⟨_,n,e,rfl,rfl,rfl⟩,z⟩
 ·refine⟨i.toList,r,⟨o,n,I.kIn a o j,q,hd,by simpa using y⟩,?_⟩;have e:=r.length;simp only[qf4]at e;omega
theorem Inv.tuple(I:Inv X pins σ H s)(h:SqT X.K H a xs):∃i:List V1,Vals xs i/\IsTup s.heap a i.toArray/\xs.length<=sizeLine:=by
 rcases h with h|⟨o,i,n,j,q,y,B,r⟩
 ·obtain⟨z,i,r,p⟩:=h.ok I.hok;exact⟨i,r,p,z.1⟩
 ·refine⟨i.toList,r,⟨o,I.kIn a o j,q.1,n,by simpa using y⟩,?_⟩;have e:=r.length;simp only[qf4]at e;omega
theorem Inv.list_inj(I:Inv X pins σ H s)(h:SqL X.K H a xs)(h':SqL X.K H a ys):xs=ys:=by
 obtain⟨i,r,⟨o,n,e,_,_,d⟩,_⟩:=I.list h;obtain⟨its',y,⟨o',z,j,_,_,q⟩,_⟩:=I.list h';rw[e]at j;cases j;rw[d]at q;injection q with d1 _
 have:i=its':=by simpa using congrArg Array.toList d1
 subst this;exact r.inj y
theorem Inv.tuple_inj(I:Inv X pins σ H s)(h:SqT X.K H a xs)(h':SqT X.K H a ys):xs=ys:=by
 obtain⟨i,r,⟨o,e,_,n,d⟩,_⟩:=I.tuple h;obtain⟨its',y,⟨o',j,_,z,q⟩,_⟩:=I.tuple h';rw[e]at j;cases j;rw[d]at q;injection q with d1 _
 have:i=its':=by simpa using congrArg Array.toList d1
 subst this;exact r.inj y
end
abbrev Cx.wish(X:Cx)(E:V1->M1->Prop):Cx:={X with xe:=E}
abbrev Cx.nox(X:Cx):Cx:=X.wish λ _ _=>False
theorem Cx.Ok.wish{X:Cx}(ok:X.Ok)(E:V1->M1->Prop):(X.wish E).Ok:=
 ⟨ok.mod,ok.kind,ok.glob,ok.blt,ok.above,ok.inj,ok.has,ok.cab,ok.hd,ok.frames,ok.stk,ok.exf,ok.bs,ok.bsz,ok.noex,ok.exfs,ok.funs,ok.frf⟩
theorem Cx.Ok.unwish{X:Cx}{E:V1->M1->Prop}(ok:(X.wish E).Ok):X.Ok:=
 ⟨ok.mod,ok.kind,ok.glob,ok.blt,ok.above,ok.inj,ok.has,ok.cab,ok.hd,ok.frames,ok.stk,ok.exf,ok.bs,ok.bsz,ok.noex,ok.exfs,ok.funs,ok.frf⟩
section
variable{X:Cx}{pins:List (V0×Obj)}{σ:St}{H:Hp}{s:M1}{E:V1->M1->Prop}
theorem Inv.wish(I:Inv X pins σ H s)(E:V1->M1->Prop):Inv (X.wish E) pins σ H s:=⟨I.ok.wish E,I.os,I.bare,I.base,I.loc,I.cell,I.free,I.freeC,I.pin,I.hok,I.len⟩
theorem Inv.unwish(I:Inv (X.wish E) pins σ H s):Inv X pins σ H s:=⟨I.ok.unwish,I.os,I.bare,I.base,I.loc,I.cell,I.free,I.freeC,I.pin,I.hok,I.len⟩
theorem SP.unwish{D:Ends}{f:Flow}{s':M1}(h:SP (X.wish E) pins D f s'):SP X pins D f s':=by
 cases f with
 |next=>obtain⟨σ',H',I,q⟩:=h;exact⟨σ',H',I.unwish,q⟩
 |brk=>obtain⟨σ',H',I,q⟩:=h;exact⟨σ',H',I.unwish,q⟩
 |cont=>obtain⟨σ',H',I,q⟩:=h;exact⟨σ',H',I.unwish,q⟩
 |ret u=>obtain⟨v,σ',H',I,r,q⟩:=h;exact⟨v,σ',H',I.unwish,r,q⟩
theorem PSs.nox{st:List Stmt}{t:TS}(h:PSs X.nox st t):PSs X st t:=λ pins s σ H D I i=>
 wpAny_mono (h pins s σ H D (I.wish _) i) (λ _ _ q=>q.unwish) λ _ _ z=>False.elim z
end
section
variable{X:Cx}{st:Stmt}{rest:List Stmt}{t u:TS}{e:Expr}{te:TE}{pos:Pos}
def J7L:TS:=λ D σ H=>D.nx σ H
def tSeq(t u:TS):TS:=λ D σ H=>t {D with nx:=u D} σ H
theorem Z0p:PSs X [] J7L:=λ _ _ σ H _ I h=>wpAny_execs_nil ⟨σ,H,I,h⟩
theorem Z0a(h1:PS X st t)(h2:PSs X rest u):PSs X (st::rest) (tSeq t u):=by
 intro pins s σ H D I h;refine wpAny_execs_cons (thn (h1 pins s σ H {D with nx:=u D} I h) λ f s1 q=>?_);cases f with
 |next=>
  obtain⟨σ',H',I',q⟩:=q;exact h2 pins s1 σ' H' D I' q
 |ret v=>exact q
 |brk=>exact q
 |cont=>exact q
theorem Z0d(h1:PS X st t):PSs X [st] t:=by
 intro pins s σ H D I h;refine wpAny_execs_cons (thn (h1 pins s σ H D I h) λ f s1 q=>?_);cases f with
 |next=>exact wpAny_execs_nil q
 |ret v=>exact q
 |brk=>exact q
 |cont=>exact q
theorem Inv.quiet{pins:List (V0×Obj)}{σ:St}{H:Hp}{s:M1}(I:Inv X pins σ H s):interactive X.env=false:=by simp[interactive,I.ok.kind]
def J6U(te:TE):TS:=λ D σ H=>te σ H λ _ H1=>D.nx σ H1
theorem Z1a(i:PE X e te)(hs:swapsWith e none pos.line X.env=pure false:=by rfl):PS X (.Expr e pos) (J6U te):=by
 intro pins s σ H D I h;exact wpAny_Expr_any (thn (i pins s σ H _ I h) λ v q ⟨x,H1,j,y,n⟩=>⟨σ,H1,j,n⟩) I.quiet hs
def tRet(te:TE):TS:=λ D σ H=>te σ H D.rt
theorem Z0j(i:PE X e te):PS X (.Return (some e) pos) (tRet te):=by
 intro pins s σ H D I h;exact wpAny_Return_some (thn (i pins s σ H _ I h) λ v y ⟨x,H1,j,n,q⟩=>⟨x,σ,H1,j,n,q⟩)
def tIfS(c:TT)(t u:TS):TS:=λ D σ H=>c σ H λ b H1=>if b=true then t D σ H1 else u D σ H1
theorem Z0E{c:Expr}{a b:List Stmt}{tc:TT}(q:PT X c tc)(ha:PSs X a t)(y:PSs X b u):PS X (.If c a b pos) (tIfS tc t u):=by
 intro pins s σ H D I h;refine wpAny_If (thn (q pins s σ H _ I h) λ d i ⟨H1,j,n⟩=>?_);cases d with
 |true=>exact ha pins i σ H1 D j n
 |false=>exact y pins i σ H1 D j n
end
abbrev TG:=V->St->Hp->(St->Hp->Prop)->Prop
abbrev TGs:=List V->St->Hp->(St->Hp->Prop)->Prop
def PG(X:Cx)(target:Expr)(t:TG):Prop:=
 ∀(pins:List (V0×Obj))(s:M1)(σ:St)(H:Hp)(v:V)(u:V1)(Q:St->Hp->Prop),Inv X pins σ H s->RelV v u->t v σ H Q->
  wpAny (model X.prog X.w) X.A (assign target X.env u) (λ _ s'=>∃i H',Inv X pins i H' s'/\Q i H') X.xe s
def PGs(X:Cx)(ts:List Expr)(t:TGs):Prop:=
 ∀(pins:List (V0×Obj))(s:M1)(σ:St)(H:Hp)(j:List V)(n:List V1)(Q:St->Hp->Prop),Inv X pins σ H s->Vals j n->t j σ H Q->
  wpAny (model X.prog X.w) X.A (assignInOrder ((assignEach ts X.env).map (·.2)) n) (λ _ s'=>∃i H',Inv X pins i H' s'/\Q i H') X.xe s
abbrev TSet:=V->V->V->Hp->(Hp->Prop)->Prop
def PSet(X:Cx)(t:TSet):Prop:=
 ∀(pins:List (V0×Obj))(s:M1)(σ:St)(H:Hp)(o i v:V)(j n u:V1)(Q:Hp->Prop),Inv X pins σ H s->RelV o j->RelV i n->RelV v u->t o i v H Q->
  wpAny (model X.prog X.w) X.A (setItem j n u) (λ _ s'=>∃H',Inv X pins σ H' s'/\Q H') X.xe s
abbrev TIp:=V->V->Hp->VK->Prop
def PIp(X:Cx)(op:Operator)(t:TIp):Prop:=
 ∀(pins:List (V0×Obj))(s:M1)(σ:St)(H:Hp)(x y:V)(v u:V1)(Q:VK),Inv X pins σ H s->RelV x v->RelV y u->t x y H Q->
  wpAny (model X.prog X.w) X.A (inplaceOp op v u) (EP X pins σ Q) X.xe s
section
variable{X:Cx}{pos:Pos}
def Z2D(i:Nat):TG:=λ v σ H Q=>Q (σ.set i (some v)) H
theorem Z4I{i:Nat}{x:V2}(j:X.N.Nodup)(hi:X.N[i]?=some x)(n:Loc X.env.scope x)(q:X.fn x=true\/X.env.scope.names.lookup x=some .local:=by first|exact .inl rfl|exact .inr rfl|assumption):PG X (.Name x pos) (Z2D i):=by
 intro pins s σ H v u Q I r h;exact wpAny_assign_Name (Z6a I j hi n r (λ s' y=>⟨_,H,y,h⟩) q)
def gNil:TGs:=λ i σ H Q=>i=[]/\Q σ H
def J7f(t:TG)(u:TGs):TGs:=λ j σ H Q=>∃v r,j=v::r/\t v σ H λ i H'=>u r i H' Q
theorem Z2P:PGs X [] gNil:=by
 intro pins s σ H i j Q I r h;obtain⟨e,h⟩:=h;subst e;cases r;exact assignInOrder_nil ⟨σ,H,I,h⟩
theorem J3S{e:Expr}{es:List Expr}{t:TG}{u:TGs}(h1:PG X e t)(h2:PGs X es u)(hs:(assignEach (e::es) X.env).map (·.2)=assign e X.env::(assignEach es X.env).map (·.2):=by rfl):PGs X (e::es) (J7f t u):=by
 intro pins s σ H B D Q I r h;obtain⟨v,G,j,h⟩:=h;subst j;cases r with
 |cons r n=>
  rw[hs];refine assignInOrder_cons (thn (h1 pins s σ H _ _ _ I r h) λ _ q ⟨i,H1,y,z⟩=>?_);exact h2 pins q i H1 _ _ Q y n z
def gTup(K:X0)(n:Nat)(t:TGs):TG:=λ v σ H Q=>∃a xs,v=.ref a/\SqT K H a xs/\xs.length=n/\t xs σ H Q
theorem J6K{es:List Expr}{k:Nat}{t:TGs}{n:Nat}(y:X.calm=true)(h:PGs X es t)(z:(assignEach es X.env).length=n:=by rfl)(i:(assignEach es X.env).findIdx? (·.1)=none:=by rfl):PG X (.Tuple es k pos) (gTup X.K n t):=by
 intro pins s σ H v u Q I r j;obtain⟨a,xs,B,D,G,j⟩:=j;subst B;cases r;obtain⟨J,q,L,O⟩:=I.tuple D;refine assign_Tuple_tuple (I.ok.hd y) L (by simp[z,<-G,q.length]) i λ h' M=>?_;have N:Inv X pins σ H {s with heap:=h'}:=I.kept (t':=s.toks) λ b o e=>M b o (qb7 (Heap.lt_size e)) e;exact h pins _ σ H xs _ Q N (by simpa using q) j
def gSub(to ti:TE)(t:TSet):TG:=λ v σ H Q=>to σ H λ o H1=>ti σ H1 λ i H2=>t o i v H2 λ j=>Q σ j
theorem J7m{o i:Expr}{to q:TE}{t:TSet}(z:PE X o to)(hi:PE X i q)(hs:PSet X t)(ha:∀v,assign (.Subscript o i pos) X.env v=(do
   let j<-holding [v] (eval o X.env);let n<-holding [v,j] (eval i X.env)
   standAt pos
   holding [v,j,n] (setItem j n v)
   release [v,j,n] []):=by intro _;rfl):PG X (.Subscript o i pos) (gSub to q t):=by
 intro pins s σ H v u Q I r h;rw[ha];refine wpAny_bind (wpAny_holding (thn (z pins s σ H _ I h) λ j B ⟨x,H1,D,G,J⟩=>?_));refine wpAny_bind (wpAny_holding (thn (hi pins B σ H1 _ D J) λ n L ⟨y,H2,M,N,O⟩=>?_));refine wpAny_bind (wpAny_standAt (wpAny_bind (wpAny_holding (thn (hs pins L σ H2 x y v j n u _ M G N r O) λ _ Y ⟨R,S,U⟩=>?_))));exact wpAny_release ⟨σ,R,S,U⟩
def tAsg(te:TE)(g:TG):TS:=λ D σ H=>te σ H λ x H1=>g x σ H1 D.nx
theorem Z3V{tg e:Expr}{te:TE}{g:TG}(i:PE X e te)(j:PG X tg g)(hs:swapsWithSole [tg] e pos.line X.env=pure false:=by rfl)(n:swappedStores [tg] e X.env=pure none:=by rfl)(h1:(assignEach [tg] X.env).map (·.2)=[assign tg X.env]:=by rfl):PS X (.Assign [tg] e pos) (tAsg te g):=by
 intro pins s σ H D I h;refine wpAny_Assign_stores (thn (i pins s σ H _ I h) λ v y ⟨x,H1,z,B,G⟩=>?_) hs n;rw[h1];exact thn (j pins y σ H1 x v _ z B G) λ _ J q=>q
theorem Z1W{i:Nat}{x:V2}{e:Expr}{te:TE}{pos':Pos}(j:X.N.Nodup)(hi:X.N[i]?=some x)(n:Loc X.env.scope x)(q:PE X e te)(hs:swapsWith e (some (.Name x pos')) pos.line X.env=pure false:=by rfl)(z:X.fn x=true\/X.env.scope.names.lookup x=some .local:=by first|exact .inl rfl|exact .inr rfl|assumption):PS X (.Assign [.Name x pos'] e pos) (tAsg te (Z2D i)):=by
 intro pins s σ H D I h;refine wpAny_Assign_Name (thn (q pins s σ H _ I h) λ v M ⟨y,H1,B,G,J⟩=>?_) hs;exact Z6a B j hi n G (λ N L=>⟨_,H1,L,J⟩) z
def tAug(i:Nat)(te:TE)(ti:TIp):TS:=λ D σ H=>∃x,σ[i]?=some (some x)/\te σ H λ y H1=>ti x y H1 λ z H2=>D.nx (σ.set i (some z)) H2
theorem J4I{i:Nat}{x:V2}{e:Expr}{te:TE}{op:Operator}{L:TIp}{pos':Pos}(M:X.N.Nodup)(hi:X.N[i]?=some x)(G:Loc X.env.scope x)(N:PE X e te)(O:PIp X op L)(R:X.fn x=true\/X.env.scope.names.lookup x=some .local:=by first|exact .inl rfl|exact .inr rfl|assumption):PS X (.AugAssign (.Name x pos') op e pos) (tAug i te L):=by
 intro pins s σ H D I h;obtain⟨v,S,h⟩:=h;obtain⟨m,U,Y⟩:=I.loc;have J:Vis X.env.scope x:=by rcases G with k|k;exact .inl k;exact .inr (.inl k)
 obtain⟨u,r,l⟩:=Y i x v hi S J;refine wpAny_AugAssign_Name ?_;have go:wpAny (model X.prog X.w) X.A (eval e X.env) (λ w q=>wpAny (model X.prog X.w) X.A (inplaceOp op u w) (λ r B=>wpAny (model X.prog X.w) X.A (storeName X.env x r) (λ _=>SP X pins D .next) X.xe B) X.xe q) X.xe s:=by
  refine thn (N pins s σ H _ I h) λ w Z ⟨y,H1,I1,r1,q1⟩=>?_;refine thn (O pins Z σ H1 v y u w _ I1 r r1 q1) λ z s2 ⟨zv,H2,I2,r2,q2⟩=>?_;exact Z6a I2 M hi G r2 (λ s3 I3=>⟨_,H2,I3,q2⟩) R
 rcases l with⟨j,hm⟩|⟨j,c,hc,n⟩
 ·exact wpAny_loadName_local I.ok.kind j U hm go
 ·rcases j with j|j
  ·exact wpAny_loadName_cell I.ok.kind j hc n go
  ·rcases G with k|k
   ·have:X.env.scope.names.lookup x=some .free:=j;rw[k]at this;cases this
   ·have:X.env.scope.names.lookup x=some .free:=j;rw[k]at this;cases this
def ipI(f:Int->Int->Int):TIp:=λ x y H Q=>∃i j,x=.int i/\y=.int j/\Q (.int (f i j)) H
theorem J6V:PIp X .Add (ipI λ i j=>i+j):=by
 intro pins s σ H x y v u Q I n z h;obtain⟨i,j,B,D,q⟩:=h;subst B;subst D;obtain⟨t,rfl⟩:=n;obtain⟨G,rfl⟩:=z;exact iadd_int ⟨.int _,H,I.tok _,⟨_,rfl⟩,q⟩
theorem J7U:PIp X .Sub (ipI λ i j=>i-j):=by
 intro pins s σ H x y v u Q I n z h;obtain⟨i,j,B,D,q⟩:=h;subst B;subst D;obtain⟨t,rfl⟩:=n;obtain⟨G,rfl⟩:=z;exact isub_int ⟨.int _,H,I.tok _,⟨_,rfl⟩,q⟩
end
section
variable{X:Cx}{pos:Pos}
def J4E(c:TT)(tb:TS):TS:=λ D σ H=>∃W:Nat->St->Hp->Prop,(∃m,W m σ H)/\∀m σ H,W m σ H->
 c σ H λ b H1=>if b=true then ∃N:St->Hp->Prop,(∀i H',N i H'->∃j,j<m/\W j i H')/\tb {D with nx:=N,ct:=N,bk:=D.nx} σ H1 else D.nx σ H1
theorem Z4C{c:Expr}{body:List Stmt}{tc:TT}{tb:TS}(hp:PassesOwn (model X.prog X.w) X.A X.env X.xe)(hc:PT X c tc)(hb:PSs X body tb):PS X (.While c body [] pos) (J4E tc tb):=by
 intro pins s σ H D I h;obtain⟨W,⟨m0,w0⟩,turn⟩:=h;refine wpAny_While (codeAny_whileLoop (λ n s'=>∃σ' H',Inv X pins σ' H' s'/\W n σ' H') ?_ m0 ⟨σ,H,I,w0⟩);rintro n s1 ⟨σ1,H1,I1,w1⟩;refine wpAny_passesOwn hp (thn (hc pins s1 σ1 H1 _ I1 (turn n σ1 H1 w1)) λ b s2 ⟨H2,I2,q2⟩=>?_);cases b with
 |true=>
  obtain⟨N,hN,q2⟩:=q2;rw[if_pos rfl];refine wpAny_passesOwn hp (thn (hb pins s2 σ1 H2 _ I2 q2) λ f s3 q3=>?_);cases f with
  |next=>
   obtain⟨σ3,H3,I3,n3⟩:=q3;obtain⟨m',hm,w3⟩:=hN σ3 H3 n3;exact⟨m',hm,σ3,H3,I3,w3⟩
  |cont=>
   obtain⟨σ3,H3,I3,n3⟩:=q3;obtain⟨m',hm,w3⟩:=hN σ3 H3 n3;exact⟨m',hm,σ3,H3,I3,w3⟩
  |brk=>exact q3
  |ret v=>exact q3
 |false=>
  rw[if_neg qc0];exact wpAny_execs_nil ⟨σ1,H2,I2,q2⟩
end
structure It where
 go:Nat->Hp->Prop
 yld:Nat->Hp->V->Hp->Prop
 stop:Nat->Hp->Prop
def FpOk(X:Cx)(pins:List (V0×Obj))(H:Hp)(b:V0):Prop:=
 H b=none/\b≠X.env.locals/\b∉X.fs/\(b∈X.ex\/X.s₀.heap.objs.size<=b)/\(∀x c,X.env.cells.lookup x=some c->c≠b)/\∀p∈X.pn++pins,p.1≠b
theorem Inv.fpOk{X:Cx}{pins:List (V0×Obj)}{σ:St}{H H':Hp}{s:M1}{b:V0}(I:Inv X pins σ H s)(i:s.heap.objs.size<=b)(j:H' b=none):FpOk X pins H' b:=by
 refine⟨j,qh3 (qd1 I.lt i),I.nofs i,.inr (qb9 I.sz i),λ x c e z=>?_,λ p n z=>?_⟩
 ·obtain⟨v,q⟩:=I.cell x c e;exact absurd (qd1 q.lt (by rw[z];exact i)) (qe9 _)
 ·exact absurd (qd1 (Heap.lt_size (I.pin p n).1) (by rw[z];exact i)) (qe9 _)
structure Turn(P:Program)(w:M2)(K:X0)(tg:Expr)(J:It)(fp:List V0)(it:V0)(tn:Nat->V3->Prop):Prop where
 mem:it∈fp
 obj:∀i h,tn i h->∀b∈fp,∃o,h.get? b=some o/\∀v,o.data≠.cell v
 keep:∀i h h',tn i h->(∀b∈fp,∀o,h.get? b=some o->h'.get? b=some o)->tn i h'
 item:∀(X:Cx),X.prog=P->X.w=w->X.K=K->X.calm=true->∀(i:Nat)(pins:List (V0×Obj))(s:M1)(σ:St)(H:Hp)(E:V1->M1->Prop),Inv X pins σ H s->(∀b∈fp,FpOk X pins H b)->tn i s.heap->J.go i H->
  wpAny (model P w) X.A (pyNext (.ref it)) (λ r s1=>∃u,r=some u/\wpAny (model P w) X.A (letOwnedTupleGo tg (.ref it) u) (λ _ s2=>∃x H',Inv X pins σ H' s2/\RelV x u/\J.yld i H x H'/\tn (i+1) s2.heap/\∀b∈fp,H' b=none) E s1) E s
 done:∀(X:Cx),X.prog=P->X.w=w->X.K=K->X.calm=true->∀(i:Nat)(pins:List (V0×Obj))(s:M1)(σ:St)(H:Hp)(E:V1->M1->Prop),Inv X pins σ H s->(∀b∈fp,FpOk X pins H b)->tn i s.heap->J.stop i H->
  wpAny (model P w) X.A (pyNext (.ref it)) (λ r s1=>r=none/\Inv X pins σ H s1) E s
 self:∀(A:V4)(i:Nat)(s:M1)(Q:V1->M1->Prop)(E:V1->M1->Prop),tn i s.heap->Q (.ref it) s->wpAny (model P w) A (pyIter (.ref it)) Q E s
abbrev TI:=St->Hp->(It->Hp->Prop)->Prop
def PIE(X:Cx)(pins:List (V0×Obj))(σ:St)(tg:Expr)(R:It->Hp->Prop)(itv:V1)(s2:M1):Prop:=
 ∃(i:V0)(j:List V0)(tn:Nat->V3->Prop)(J:It)(H':Hp),itv=.ref i/\Inv X pins σ H' s2/\Turn X.prog X.w X.K tg J j i tn/\tn 0 s2.heap/\(∀b∈j,FpOk X pins H' b)/\R J H'
def PI(X:Cx)(tg iter:Expr)(wi:TI):Prop:=
 ∀(pins:List (V0×Obj))(s:M1)(σ:St)(H:Hp)(R:It->Hp->Prop),Inv X pins σ H s->wi σ H R->
  wpAny (model X.prog X.w) X.A (eval iter X.env) (λ v i=>wpAny (model X.prog X.w) X.A (pyIter v) (PIE X pins σ tg R) X.xe i) X.xe s
theorem J1Q{M:Model}{A:V4}{E:V1->M1->Prop}{s:M1}{tg:Expr}{it:V0}{u:V1}{o:Obj}{n:String}{vs:Array V1}{Q:Unit->M1->Prop}(j:s.heap.get? it=some o)(q:o.cls=.type n)(hd:o.data=.fields vs)(y:["enumerate","zip","dict_itemiterator","dict_reverseitemiterator","odict_iterator","itertools.zip_longest","itertools.pairwise"].contains n=false)(i:Q () s):wpAny M A (letOwnedTupleGo tg (.ref it) u) Q E s:=by
  unfold letOwnedTupleGo;cases tg <;> first
    |exact wpAny_pure i
    | (cases u <;> first
        |exact wpAny_pure i
        | (refine wpAny_bind (wpAny_load j ?_)
           rw[q,hd];show wpAny M A (if(["enumerate","zip","dict_itemiterator","dict_reverseitemiterator","odict_iterator","itertools.zip_longest","itertools.pairwise"].contains n&&vs[0]?==some (rawInt _))=true then _ else _) Q E s;rw[if_neg (by intro h;rw[y,Bool.false_and]at h;cases h)];exact wpAny_pure i))
def Itl(K:X0)(a:V0):It:=
 ⟨λ i H=>∃xs x,SqL K H a xs/\xs[i]?=some x,λ i H x H'=>H'=H/\∀xs,SqL K H a xs->xs[i]?=some x,λ i H=>∃xs,SqL K H a xs/\xs.length<=i⟩
def Itt(K:X0)(a:V0):It:=
 ⟨λ i H=>∃xs x,SqT K H a xs/\xs[i]?=some x,λ i H x H'=>H'=H/\∀xs,SqT K H a xs->xs[i]?=some x,λ i H=>∃xs,SqT K H a xs/\xs.length<=i⟩
def Itr(lo:Int)(n:Nat):It:=⟨λ i _=>i<n,λ i H x H'=>H'=H/\x=.int (lo+i),λ i _=>n<=i⟩
theorem J2B{P:Program}{w:M2}{K:X0}{tg:Expr}(a it:V0):Turn P w K tg (Itl K a) [it] it (λ i h=>h.IsListIter it a i)where
 mem:=by simp
 obj:=λ i h st b j=>by
  have e:b=it:=by simpa using j
  subst e;obtain⟨o,e,c,d⟩:=st;exact⟨o,e,λ v z=>by rw[d]at z;cases z⟩
 keep:=λ i h h' st k=>st.at λ o e=>k it (by simp) o e
 item:=by
  intro X B D G Z i pins s σ H E I q st J;subst B D G;obtain⟨xs,x,y,L⟩:=J;obtain⟨M,N,p,hz⟩:=I.list y;obtain⟨u,hu,ru⟩:=N.get L;obtain⟨O,R,f2,S,U,Y⟩:=q it (by simp);refine wpAny_pyNext_list_item st p.isList (x:=u) (by simpa using hu) λ h' n sb=>?_;have I1:Inv X pins σ H {s with heap:=h'}:=I.turned (t':=s.toks) (λ b o j e=>(sb.2 b j).trans e) O R S U Y;obtain⟨o,e,c,d⟩:=id n;exact⟨u,rfl,J1Q (s:={s with heap:=h'}) e c d qQ ⟨x,H,I1,ru,⟨rfl,λ ys hy=>by rw[I.list_inj hy y];exact L⟩,n,λ b j=>(q b j).1⟩⟩
 done:=by
  intro X B D G Z i pins s σ H E I q st J;subst B D G;obtain⟨xs,y,L⟩:=J;obtain⟨M,N,p,hz⟩:=I.list y;obtain⟨O,R,f2,S,U,Y⟩:=q it (by simp);have hl:=N.length;exact wpAny_pyNext_list_end (I.ok.hd Z) st p.isList (by simp;omega) λ h' eb=>⟨rfl,I.turned (t':=s.toks) (λ b o j e=>eb b o j e) O R S U Y⟩
 self:=λ _ _ _ _ _ st h=>wpAny_pyIter_listiter st h
theorem J0p{P:Program}{w:M2}{K:X0}{tg:Expr}(a it:V0):Turn P w K tg (Itt K a) [it] it (λ i h=>h.IsTupleIter it a i)where
 mem:=by simp
 obj:=λ i h st b j=>by
  have e:b=it:=by simpa using j
  subst e;obtain⟨o,e,c,d⟩:=st;exact⟨o,e,λ v z=>by rw[d]at z;cases z⟩
 keep:=λ i h h' st k=>st.at λ o e=>k it (by simp) o e
 item:=by
  intro X D G J Z i pins s σ H E I y st L;subst D G J;obtain⟨xs,x,B,M⟩:=L;obtain⟨n,N,p,hz⟩:=I.tuple B;obtain⟨u,hu,ru⟩:=N.get M;obtain⟨O,R,f2,S,U,Y⟩:=y it (by simp);refine wpAny_pyNext_tuple_item st (show s.heap.IsTuple a n.toArray from p) (x:=u) (by simpa using hu) λ h' q sb=>?_;have I1:Inv X pins σ H {s with heap:=h'}:=I.turned (t':=s.toks) (λ b o j e=>(sb.2 b j).trans e) O R S U Y;obtain⟨o,e,c,d⟩:=id q;exact⟨u,rfl,J1Q (s:={s with heap:=h'}) e c d qQ ⟨x,H,I1,ru,⟨rfl,λ ys hy=>by rw[I.tuple_inj hy B];exact M⟩,q,λ b j=>(y b j).1⟩⟩
 done:=by
  intro X D G J Z i pins s σ H E I y st L;subst D G J;obtain⟨xs,B,M⟩:=L;obtain⟨n,N,p,hz⟩:=I.tuple B;obtain⟨O,R,f2,S,U,Y⟩:=y it (by simp);have hl:=N.length;exact wpAny_pyNext_tuple_end (I.ok.hd Z) st (show s.heap.IsTuple a n.toArray from p) (by simp;omega) λ h' eb=>⟨rfl,I.turned (t':=s.toks) (λ b o j e=>eb b o j e) O R S U Y⟩
 self:=λ _ _ _ _ _ st h=>wpAny_pyIter_tupleiter st h
theorem J0i{P:Program}{w:M2}{K:X0}{tg:Expr}(it:V0)(lo:Int)(n:Nat):Turn P w K tg (Itr lo n) [it] it (λ i h=>IsRangeIter h it (lo+(i:Nat)*1) ((n:Int)-(i:Nat)) 1)where
 mem:=by simp
 obj:=λ i h st b j=>by
  have e:b=it:=by simpa using j
  subst e;exact⟨_,st,λ v z=>by
   have U:Data.fields _=Data.cell v:=z;cases U⟩
 keep:=λ i h h' st k=>k it (by simp) _ st
 item:=by
  intro X B D G J i pins s σ H E I y st L;subst B D G;obtain⟨M,N,Y,O,R,S⟩:=y it (by simp);have W:=Walks.range (prog:=X.prog) (w:=X.w) (I.ok.hd J) it lo 1 n;refine W.item i s _ _ L st λ v h' tk Z q kk=>?_;obtain⟨t,rfl⟩:=Z;have I1:Inv X pins σ H {s with heap:=h',toks:=tk}:=I.turned (λ b o j e=>kk b o (by simpa using j) e) M N O R S;refine⟨_,rfl,J1Q (s:={s with heap:=h',toks:=tk}) (n:="range_iterator") q rfl rfl qQ ⟨.int (lo+i),H,I1,⟨t,?_⟩,⟨rfl,rfl⟩,q,λ b j=>(y b j).1⟩⟩;rw[Int.mul_one]
 done:=by
  intro X B D G J i pins s σ H E I y st L;subst B D G;obtain⟨M,N,Y,O,R,S⟩:=y it (by simp);exact wpAny_pyNext_range_end (I.ok.hd J) st (by have:n<=i:=L;omega) λ h' eb=>⟨rfl,I.turned (t':=s.toks) (λ b o j e=>eb b o j e) M N O R S⟩
 self:=λ _ _ _ _ _ st h=>wpAny_pyIter_rangeiter st h
end L2
namespace L2
open PySem PySem.Spec PyProof.Rows
section
variable{X:Cx}{tg:Expr}
def J6A(K:X0)(tl:TE):TI:=λ σ H R=>tl σ H λ x H1=>∃a,x=.ref a/\(∃xs,SqL K H1 a xs)/\R (Itl K a) H1
def iTup(K:X0)(tl:TE):TI:=λ σ H R=>tl σ H λ x H1=>∃a,x=.ref a/\(∃xs,SqT K H1 a xs)/\R (Itt K a) H1
theorem Z0P{l:Expr}{tl:TE}(n:PE X l tl):PI X tg l (J6A X.K tl):=by
 intro pins s σ H R I h;refine thn (n pins s σ H _ I h) λ v i ⟨x,H1,j,y,z⟩=>?_;obtain⟨a,e,⟨xs,B⟩,q⟩:=z;subst e;cases y;obtain⟨D,J,p,L⟩:=j.list B;refine wpAny_pyIter_list p.isList ?_;refine⟨i.heap.objs.size,[i.heap.objs.size],_,_,H1,rfl,j.kept (t':=i.toks) λ b o e=>Heap.get?_push_of_some _ e,J2B a _,⟨_,Heap.get?_push_size _ rfl,rfl,rfl⟩,λ b G=>?_,q⟩;have e:b=i.heap.objs.size:=by simpa using G
 subst e;exact j.fpOk (qa1 _) (j.hok.fresh (qa1 _))
theorem Z1s{l:Expr}{tl:TE}(y:PE X l tl):PI X tg l (iTup X.K tl):=by
 intro pins s σ H R I h;refine thn (y pins s σ H _ I h) λ v i ⟨x,H1,j,z,B⟩=>?_;obtain⟨a,e,⟨xs,D⟩,q⟩:=B;subst e;cases z;obtain⟨n,J,p,L⟩:=j.tuple D;refine wpAny_pyIter_tuple (show i.heap.IsTuple a n.toArray from p) ?_;refine⟨i.heap.objs.size,[i.heap.objs.size],_,_,H1,rfl,j.kept (t':=i.toks) λ b o e=>Heap.get?_push_of_some _ e,J0p a _,⟨_,Heap.get?_push_size _ rfl,rfl,rfl⟩,λ b G=>?_,q⟩;have e:b=i.heap.objs.size:=by simpa using G
 subst e;exact j.fpOk (qa1 _) (j.hok.fresh (qa1 _))
theorem J4j{pins:List (V0×Obj)}{σ:St}{H:Hp}{s:M1}{R:It->Hp->Prop}{E:V1->M1->Prop}{lo hi:Int}{t u v:Tok}{tk:Nat}(I:Inv X pins σ H s)(h1:-(2^62)<=lo)(h2:lo<2^62)(j:-(2^62)<=hi)(n:hi<2^62)(q:R (Itr lo (hi-lo).toNat) H):wpAny (model X.prog X.w) X.A (pyIter (.ref s.heap.objs.size)) (PIE X pins σ tg R) E {s with heap:=s.heap.push {cls:=.type "range",data:=.fields #[.int lo t,.int hi u,.int 1 v]},toks:=tk}:=by
 refine wpAny_pyIter_range (IsRange.new ..) (small_one h1 h2 j n) ?_;have i:Inv X pins σ H {s with heap:=s.heap.push {cls:=.type "range",data:=.fields #[.int lo t,.int hi u,.int 1 v]},toks:=tk}:=I.kept λ b o e=>Heap.get?_push_of_some _ e;refine⟨(s.heap.push {cls:=.type "range",data:=.fields #[.int lo t,.int hi u,.int 1 v]}).objs.size,[(s.heap.push {cls:=.type "range",data:=.fields #[.int lo t,.int hi u,.int 1 v]}).objs.size],_,_,H,rfl,i.kept (t':=tk) λ b o e=>Heap.get?_push_of_some _ e,J0i _ lo (hi-lo).toNat,?_,λ b y=>?_,q⟩
 ·have z:lo+((0:Nat):Int)*1=lo:=by simp
  have B:(((hi-lo).toNat:Nat):Int)-((0:Nat):Int)=Builtin.Range.rangeSize lo hi 1:=by rw[rangeSize_one];split<;>omega
  show IsRangeIter _ _ (lo+((0:Nat):Int)*1) ((((hi-lo).toNat:Nat):Int)-((0:Nat):Int)) 1;rw[z,B];exact Heap.get?_push_size _ rfl
 ·have e:b=(s.heap.push {cls:=.type "range",data:=.fields #[.int lo t,.int hi u,.int 1 v]}).objs.size:=by simpa using y
  subst e;exact i.fpOk (qa1 _) (i.hok.fresh (qa1 _))
def J6B(ta:TA):TI:=λ σ H R=>ta σ H λ i H1=>∃j:Int,i=[.int j]/\-(2^62)<=j/\j<2^62/\R (Itr 0 j.toNat) H1
theorem Z1K{a:Expr}{ta:TA}{p pos:Pos}(n:Gl X "range")(y:X.mg "range"=none)(ha:PA X [a] ta)(hs:starEach [a] X.env=[(false,eval a X.env)]:=by rfl):PI X tg (.Call (.Name "range" p) [a] [] pos) (J6B ta):=by
 intro pins s σ H R I h;refine Call_ (Z4e I n y boot_range (PyProof.Rows.callWith_type1 (thn (ha pos pins s σ H _ I h) λ J L ⟨M,H1,z,B,i⟩=>?_) hs rfl));obtain⟨j,e,i,D,q⟩:=i;subst e;cases B with
 |cons r G=>
  cases G;obtain⟨t,rfl⟩:=r;exact call_range_1 (J4j z qR qR i D (by simpa using q))
def tFor(wi:TI)(g:TG)(tb:TS):TS:=λ D σ H=>wi σ H λ J H1=>∃W:Nat->Nat->St->Hp->Prop,(∃m,W 0 m σ H1)/\∀i m σ H,W i m σ H->
 (J.stop i H/\D.nx σ H)\/(J.go i H/\∃N:St->Hp->Prop,(∀j H',N j H'->∃q,q<m/\W (i+1) q j H')/\∀x H',J.yld i H x H'->g x σ H' λ n H2=>tb {D with nx:=N,ct:=N,bk:=D.nx} n H2)
def Z7m(fp:List V0)(h:V3):List (V0×Obj):=fp.filterMap λ b=>(h.get? b).map λ o=>(b,o)
theorem Z3C{i:List V0}{h:V3}{b:V0}{o:Obj}(j:b∈i)(e:h.get? b=some o):(b,o)∈Z7m i h:=qk4.mpr ⟨b,j,by rw[e];rfl⟩
theorem J2u{i:List V0}{h:V3}{p:V0×Obj}(j:p∈Z7m i h):p.1∈i/\h.get? p.1=some p.2:=by
 obtain⟨b,n,e⟩:=qk4.mp j;cases q:h.get? b with
 |none=>rw[q]at e;cases e
 |some o=>
  rw[q]at e;have y:(b,o)=p:=qc5 e;subst y;exact⟨n,q⟩
theorem Inv.pinned{pins:List (V0×Obj)}{σ:St}{H:Hp}{s:M1}{i:List V0}(I:Inv X pins σ H s)(q:∀b∈i,FpOk X pins H b)(y:∀b∈i,∃o,s.heap.get? b=some o/\∀v,o.data≠.cell v):Inv X (pins++Z7m i s.heap) σ H s:=
 I.pins_of λ p B=>(qb5.mp B).elim (λ z=>I.pin p (qc6 _ z)) λ z=>by
  obtain⟨j,e⟩:=J2u z;obtain⟨D,G,J,_⟩:=q p.1 j;obtain⟨o,n,d⟩:=y p.1 j;rw[e]at n;cases n;exact⟨e,D,G,J,d⟩
theorem Inv.unpinned{pins pl:List (V0×Obj)}{σ:St}{H:Hp}{s:M1}(I:Inv X (pins++pl) σ H s):Inv X pins σ H s:=I.pins_of λ p i=>I.pin p (qc6 _ (qe0 _ i))
theorem Z0T{iter:Expr}{body:List Stmt}{wi:TI}{g:TG}{tb:TS}{pos:Pos}(hp:PassesOwn (model X.prog X.w) X.A X.env X.xe)(hc:X.calm=true)(hi:PI X tg iter wi)(hg:PG X tg g)(hb:PSs X body tb)(hs:∀x,foldedSetIterable iter X.env x=pure x:=by intro _;rfl):PS X (.For tg iter body [] pos) (tFor wi g tb):=by
 intro pins s σ H D I h;refine wpAny_For (thn (hi pins s σ H _ I h) λ v s1 h1=>thn h1 λ itv s2 h2=>?_) hs;obtain⟨it,fp,tn,J,H2,e,I2,T,st2,f2,W,⟨m0,w0⟩,turn⟩:=h2;subst e
 --what stays true of the iterator's objects through the loop
 have stat:∀{H':Hp},(∀b∈fp,H' b=none)->∀b∈fp,FpOk X pins H' b:=λ hn b hb=>⟨hn b hb,(f2 b hb).2⟩;refine codeAny_forLoop_any (λ n s'=>∃i σ' H',Inv X pins σ' H' s'/\tn i s'.heap/\(∀b∈fp,H' b=none)/\W i n σ' H') ?_ m0 ⟨0,σ,H2,I2,st2,λ b hb=>(f2 b hb).1,w0⟩;rintro n s3 ⟨i,σ3,H3,I3,st3,fr3,w3⟩;rcases turn i n σ3 H3 w3 with⟨stop,qn⟩|⟨go,N,hN,step⟩
 ·refine wpAny_passesOwn hp (thn (T.done X rfl rfl rfl hc i pins s3 σ3 H3 X.xe I3 (stat fr3) st3 stop) λ r s4 ⟨hr,I4⟩=>?_);subst hr;exact wpAny_execs_nil ⟨σ3,H3,I4,qn⟩
 ·refine wpAny_passesOwn hp (thn (T.item X rfl rfl rfl hc i pins s3 σ3 H3 X.xe I3 (stat fr3) st3 go) λ r s4 ⟨u,hr,h4⟩=>?_);subst hr;refine wpAny_passesOwn hp (thn h4 λ _ s5 ⟨x,H5,I5,r5,y5,st5,fr5⟩=>?_);have I5':=I5.pinned (stat fr5) (T.obj _ _ st5);refine wpAny_passesOwn hp (thn (hg _ s5 σ3 H5 x u _ I5' r5 (step x H5 y5)) λ _ s6 ⟨σ6,H6,I6,q6⟩=>?_);refine wpAny_passesOwn hp (thn (hb _ s6 σ6 H6 _ I6 q6) λ f s7 q7=>?_);have again:∀{σ7:St}{H7:Hp},Inv X (pins++Z7m fp s5.heap) σ7 H7 s7->N σ7 H7->∃m,m<n/\∃i σ' H',Inv X pins σ' H' s7/\tn i s7.heap/\(∀b∈fp,H' b=none)/\W i m σ' H':=λ{σ7 H7} I7 n7=>by
   obtain⟨m',hm,w7⟩:=hN σ7 H7 n7;refine⟨m',hm,i+1,σ7,H7,I7.unpinned,T.keep _ _ _ st5 λ b hb o e=>(I7.pin (b,o) (qc6 _ (qc6 _ (Z3C hb e)))).1,λ b hb=>?_,w7⟩;obtain⟨o,e,d⟩:=T.obj _ _ st5 b hb;exact(I7.pin (b,o) (qc6 _ (qc6 _ (Z3C hb e)))).2.1
  cases f with
  |next=>obtain⟨σ7,H7,I7,n7⟩:=q7;exact again I7 n7
  |cont=>obtain⟨σ7,H7,I7,n7⟩:=q7;exact again I7 n7
  |brk=>obtain⟨σ7,H7,I7,q7⟩:=q7;exact⟨σ7,H7,I7.unpinned,q7⟩
  |ret v=>obtain⟨x7,σ7,H7,I7,r7,q7⟩:=q7;exact⟨x7,σ7,H7,I7.unpinned,r7,q7⟩
end
theorem J3G{K:X0}{a:V0}{xs:List V}{g:TG}{tb:TS}{D:Ends}{σ:St}{H:Hp}(j:Nat->St->Hp->Prop)(I:j 0 σ H)(J:∀i σ H,i<=xs.length->j i σ H->SqL K H a xs)(hs:∀i x σ H,xs[i]?=some x->j i σ H->g x σ H λ n H2=>tb {D with nx:=j (i+1),ct:=j (i+1),bk:=D.nx} n H2)(hd:∀σ H,j xs.length σ H->D.nx σ H):∃W:Nat->Nat->St->Hp->Prop,(∃m,W 0 m σ H)/\∀i m σ H,W i m σ H->((Itl K a).stop i H/\D.nx σ H)\/((Itl K a).go i H/\∃N:St->Hp->Prop,(∀z H',N z H'->∃G,G<m/\W (i+1) G z H')/\∀x H',(Itl K a).yld i H x H'->g x σ H' λ n H2=>tb {D with nx:=N,ct:=N,bk:=D.nx} n H2):=by
 refine⟨λ i m σ H=>m=xs.length-i/\i<=xs.length/\j i σ H,⟨xs.length,by simp,qa6 _,I⟩,?_⟩;rintro i m σ H ⟨rfl,hi,p⟩;have q:=J i σ H hi p;by_cases B:i<xs.length
 ·refine .inr ⟨⟨xs,xs[i],q,by simp[B]⟩,j (i+1),λ z H' L=>⟨xs.length-(i+1),qR,rfl,B,L⟩,λ x H' y=>?_⟩;obtain⟨e,y⟩:=y;subst e;exact hs i x σ _ (y xs q) p
 ·have e:i=xs.length:=by omega
  subst e;exact .inl ⟨⟨xs,q,qa1 _⟩,hd σ H p⟩
theorem J5B{K:X0}{a:V0}{xs:List V}{g:TG}{tb:TS}{D:Ends}{σ:St}{H:Hp}(j:Nat->St->Hp->Prop)(I:j 0 σ H)(J:∀i σ H,i<=xs.length->j i σ H->SqT K H a xs)(hs:∀i x σ H,xs[i]?=some x->j i σ H->g x σ H λ n H2=>tb {D with nx:=j (i+1),ct:=j (i+1),bk:=D.nx} n H2)(hd:∀σ H,j xs.length σ H->D.nx σ H):∃W:Nat->Nat->St->Hp->Prop,(∃m,W 0 m σ H)/\∀i m σ H,W i m σ H->((Itt K a).stop i H/\D.nx σ H)\/((Itt K a).go i H/\∃N:St->Hp->Prop,(∀z H',N z H'->∃G,G<m/\W (i+1) G z H')/\∀x H',(Itt K a).yld i H x H'->g x σ H' λ n H2=>tb {D with nx:=N,ct:=N,bk:=D.nx} n H2):=by
 refine⟨λ i m σ H=>m=xs.length-i/\i<=xs.length/\j i σ H,⟨xs.length,by simp,qa6 _,I⟩,?_⟩;rintro i m σ H ⟨rfl,hi,p⟩;have q:=J i σ H hi p;by_cases B:i<xs.length
 ·refine .inr ⟨⟨xs,xs[i],q,by simp[B]⟩,j (i+1),λ z H' L=>⟨xs.length-(i+1),qR,rfl,B,L⟩,λ x H' y=>?_⟩;obtain⟨e,y⟩:=y;subst e;exact hs i x σ _ (y xs q) p
 ·have e:i=xs.length:=by omega
  subst e;exact .inl ⟨⟨xs,q,qa1 _⟩,hd σ H p⟩
theorem J2j{lo:Int}{n:Nat}{g:TG}{tb:TS}{D:Ends}{σ:St}{H:Hp}(j:Nat->St->Hp->Prop)(I:j 0 σ H)(hs:∀i σ H,i<n->j i σ H->g (.int (lo+i)) σ H λ q H2=>tb {D with nx:=j (i+1),ct:=j (i+1),bk:=D.nx} q H2)(hd:∀σ H,j n σ H->D.nx σ H):∃W:Nat->Nat->St->Hp->Prop,(∃m,W 0 m σ H)/\∀i m σ H,W i m σ H->((Itr lo n).stop i H/\D.nx σ H)\/((Itr lo n).go i H/\∃N:St->Hp->Prop,(∀z H',N z H'->∃G,G<m/\W (i+1) G z H')/\∀x H',(Itr lo n).yld i H x H'->g x σ H' λ q H2=>tb {D with nx:=N,ct:=N,bk:=D.nx} q H2):=by
 refine⟨λ i m σ H=>m=n-i/\i<=n/\j i σ H,⟨n,by simp,qa6 _,I⟩,?_⟩;rintro i m σ H ⟨rfl,hi,p⟩;by_cases B:i<n
 ·refine .inr ⟨B,j (i+1),λ z H' J=>⟨n-(i+1),qR,rfl,B,J⟩,λ x H' y=>?_⟩;obtain⟨e,y⟩:=y;subst e y;exact hs i σ _ B p
 ·have e:i=n:=by omega
  subst e;exact .inl ⟨qa1 _,hd σ H p⟩
end L2
namespace L2
open PySem PySem.Spec PyProof.Rows
abbrev R2:=V->V->Hp->VK->Prop
def OpR(X:Cx)(f:V1->V1->Sem V1)(r:R2):Prop:=
 ∀(pins:List (V0×Obj))(s:M1)(σ:St)(H:Hp)(x y:V)(v u:V1)(Q:VK),Inv X pins σ H s->RelV x v->RelV y u->r x y H Q->
  wpAny (model X.prog X.w) X.A (f v u) (EP X pins σ Q) X.xe s
def Z3p(X:Cx)(f:V1)(r:List V->Hp->VK->Prop):Prop:=
 ∀(pins:List (V0×Obj))(s:M1)(σ:St)(H:Hp)(xs:List V)(i:List V1)(Q:VK),Inv X pins σ H s->Vals xs i->r xs H Q->
  wpAny (model X.prog X.w) X.A (call f i) (EP X pins σ Q) X.xe s
def TruR(X:Cx)(r:V->Hp->(Bool->Hp->Prop)->Prop):Prop:=
 ∀(pins:List (V0×Obj))(s:M1)(σ:St)(H:Hp)(x:V)(v:V1)(Q:Bool->Hp->Prop),Inv X pins σ H s->RelV x v->r x H Q->
  wpAny (model X.prog X.w) X.A (truthy v) (TP X pins σ Q) X.xe s
def tOp(r:R2)(ta tb:TE):TE:=λ σ H Q=>ta σ H λ x H1=>tb σ H1 λ y H2=>r x y H2 Q
def rI(C:Int->Int->Prop)(g:Int->Int->V):R2:=λ x y H Q=>∃i j,x=.int i/\y=.int j/\C i j/\Q (g i j) H
def rI0(g:Int->Int->V):R2:=λ x y H Q=>∃i j,x=.int i/\y=.int j/\Q (g i j) H
section
variable{X:Cx}{a b c:Expr}{ta tb tc:TE}{pos:Pos}
theorem binT(ha:PE X a ta)(q:PE X b tb){pins:List (V0×Obj)}{s:M1}{σ:St}{H:Hp}{R:V->V->Hp->Prop}(I:Inv X pins σ H s)(h:ta σ H λ x H1=>tb σ H1 λ y H2=>R x y H2){Q:V1->M1->Prop}{f:V1->V1->Sem V1}(z:∀v u n x y H2,Inv X pins σ H2 n->RelV x v->RelV y u->R x y H2->wpAny (model X.prog X.w) X.A (f v u) Q X.xe n):wpAny (model X.prog X.w) X.A (eval a X.env) (λ v i=>wpAny (model X.prog X.w) X.A (eval b X.env) (λ u j=>wpAny (model X.prog X.w) X.A (f v u) Q X.xe j) X.xe i) X.xe s:=by
 refine thn (ha pins s σ H _ I h) λ v B ⟨x,H1,D,G,J⟩=>?_;refine thn (q pins B σ H1 _ D J) λ u n ⟨y,H2,L,M,N⟩=>?_;exact z v u n x y H2 L G M N
theorem Z0i{op:Operator}{r:R2}(i:OpR X (binaryOp op) r)(ha:PE X a ta)(j:PE X b tb):PE X (.BinOp a op b pos) (tOp r ta tb):=by
 intro pins s σ H Q I h;exact wpAny_BinOp (binT ha j I h λ v u n x y H2 z B D q=>i pins n σ H2 x y v u Q z B D q)
theorem opI{f:V1->V1->Sem V1}{C:Int->Int->Prop}{g:Int->Int->Int}(n:∀(i j:Int)(t u:Tok)(s:M1)(Q:V1->M1->Prop)(E:V1->M1->Prop),C i j->Q (.int (g i j) s.toks) {s with toks:=s.toks+1}->wpAny (model X.prog X.w) X.A (f (.int i t) (.int j u)) Q E s):OpR X f (rI C λ i j=>.int (g i j)):=by
 intro pins s σ H x y v u Q I z B h;obtain⟨i,j,rfl,rfl,D,q⟩:=h;obtain⟨t,rfl⟩:=z;obtain⟨G,rfl⟩:=B;exact n i j t G s _ _ D ⟨.int (g i j),H,I.tok _,⟨_,rfl⟩,q⟩
theorem opI0{f:V1->V1->Sem V1}{g:Int->Int->Int}(n:∀(i j:Int)(t u:Tok)(s:M1)(Q:V1->M1->Prop)(E:V1->M1->Prop),Q (.int (g i j) s.toks) {s with toks:=s.toks+1}->wpAny (model X.prog X.w) X.A (f (.int i t) (.int j u)) Q E s):OpR X f (rI0 λ i j=>.int (g i j)):=by
 intro pins s σ H x y v u Q I z B h;obtain⟨i,j,rfl,rfl,q⟩:=h;obtain⟨t,rfl⟩:=z;obtain⟨D,rfl⟩:=B;exact n i j t D s _ _ ⟨.int (g i j),H,I.tok _,⟨_,rfl⟩,q⟩
theorem opB0{f:V1->V1->Sem V1}{g:Int->Int->Bool}(n:∀(i j:Int)(t u:Tok)(s:M1)(Q:V1->M1->Prop)(E:V1->M1->Prop),Q (.bool (g i j)) s->wpAny (model X.prog X.w) X.A (f (.int i t) (.int j u)) Q E s):OpR X f (rI0 λ i j=>.bl (g i j)):=by
 intro pins s σ H x y v u Q I z B h;obtain⟨i,j,rfl,rfl,q⟩:=h;obtain⟨t,rfl⟩:=z;obtain⟨D,rfl⟩:=B;exact n i j t D s _ _ ⟨.bl (g i j),H,I,rfl,q⟩
def CDiv(i j:Int):Prop:=0<j/\j<1073741824
def CPow(i j:Int):Prop:=0<=j/\j<=1000000/\i.natAbs<2^64
def CMul(i j:Int):Prop:=(-(2^64)<i/\i<2^64)\/(-(2^64)<j/\j<2^64)
theorem CMul.ok{i j:Int}(h:CMul i j):IntMulOk i j:=by
 rcases h with⟨h1,h2⟩|⟨h1,h2⟩
 ·exact .of_left (intBits_le_64 h1 h2)
 ·exact .of_right (intBits_le_64 h1 h2)
theorem Z0R:OpR X (binaryOp .Add) (rI0 λ i j=>.int (i+j)):=opI0 λ _ _ _ _ _ _ _ q=>add_int q
theorem Z3E:OpR X (binaryOp .Sub) (rI0 λ i j=>.int (i-j)):=opI0 λ _ _ _ _ _ _ _ q=>sub_int q
theorem Z3m:OpR X (binaryOp .Mult) (rI CMul λ i j=>.int (i*j)):=opI λ _ _ _ _ _ _ _ n q=>mul_int q n.ok
theorem Z0x:OpR X (binaryOp .FloorDiv) (rI CDiv λ i j=>.int (i/j)):=opI λ i j _ _ _ _ _ n q=>by
 have h1:(0:Int)<j:=n.1;have h2:j<1073741824:=n.2;exact floordiv_int qR (by rw[Int.fdiv_eq_ediv_of_nonneg i qR];exact q) (.inl (PyProof.noPylong_small qR))
theorem Z0s:OpR X (binaryOp .Mod) (rI (λ _ j=>0<j) λ i j=>.int (i%j)):=opI λ i j _ _ _ _ _ n q=>by
 have h1:(0:Int)<j:=n;exact mod_int' qR (by rw[Int.fmod_eq_emod_of_nonneg i qR];exact q)
theorem J5D:OpR X (inplaceOp .Add) (rI0 λ i j=>.int (i+j)):=opI0 λ _ _ _ _ _ _ _ q=>iadd_int q
end
def scal:V->V->Bool
 | .non,.non=>true| .non,.int _=>true| .int _,.non=>true| .non,.bl _=>true| .bl _,.non=>true| .non,.str _=>true| .str _,.non=>true
 | .int _,.int _=>true| .bl _,.bl _=>true| .str _,.str _=>true| .byt _,.byt _=>true
 | .int _,.str _=>true| .str _,.int _=>true| .bl _,.str _=>true| .str _,.bl _=>true
 |_,_=>false
def rEq:R2:=λ x y H Q=>scal x y=true/\Q (.bl (decide (x=y))) H
def rNe:R2:=λ x y H Q=>scal x y=true/\Q (.bl (!decide (x=y))) H
theorem J0z{i j:Int}:decide (V.int i=V.int j)=(i==j):=by
 rw[qk5];simp
theorem J4S{i j:Bool}:decide (V.bl i=V.bl j)=(i==j):=by
 rw[qk5];simp
theorem J1Y{i j:V2}:decide (V.str i=V.str j)=(i==j):=by
 rw[qk5];simp
theorem J0w{i j:Array UInt8}:decide (V.byt i=V.byt j)=(i.toList==j.toList):=by
 rw[qk5];cases i;cases j;simp
section
variable{X:Cx}{a b c:Expr}{ta tb tc:TE}{pos:Pos}
theorem Z0J{pins:List (V0×Obj)}{σ:St}{H:Hp}{s:M1}{Q:VK}{k i:Bool}(I:Inv X pins σ H s)(q:Q (.bl k) H)(e:k=i):EP X pins σ Q (.bool i) s:=by
 subst e;exact⟨.bl k,H,I,rfl,q⟩
theorem Z2g:OpR X (compareOp .Eq) rEq:=by
 intro pins s σ H x y v u Q I D n h;obtain⟨B,q⟩:=h;cases x with
 |non=>
  cases D;cases y with
  |non=>cases n;exact PySem.EqNone.eq_none_none (Z0J I q (by simp))
  |bl j=>cases n;exact PySem.EqNone.eq_none_bool (Z0J I q (by simp))
  |int j=>obtain⟨z,rfl⟩:=n;exact PySem.EqNone.eq_none_int (Z0J I q (by simp))
  |str j=>obtain⟨z,rfl⟩:=n;exact PySem.EqNone.eq_none_str (Z0J I q (by simp))
  |_=>exact absurd (show false=true from B) qc0
 |bl i=>
  cases D;cases y with
  |non=>cases n;exact PySem.EqNone.eq_bool_none (Z0J I q (by simp))
  |bl j=>cases n;exact eq_bool (Z0J I q J4S)
  |str j=>obtain⟨z,rfl⟩:=n;exact PySem.EqMixed.eq_bool_str (Z0J I q (by simp))
  |_=>exact absurd (show false=true from B) qc0
 |int i=>
  obtain⟨t,rfl⟩:=D;cases y with
  |non=>cases n;exact PySem.EqNone.eq_int_none (Z0J I q (by simp))
  |int j=>obtain⟨z,rfl⟩:=n;exact eq_int (Z0J I q J0z)
  |str j=>obtain⟨z,rfl⟩:=n;exact PySem.EqMixed.eq_int_str (Z0J I q (by simp))
  |_=>exact absurd (show false=true from B) qc0
 |str i=>
  obtain⟨t,rfl⟩:=D;cases y with
  |non=>cases n;exact PySem.EqNone.eq_str_none (Z0J I q (by simp))
  |bl j=>cases n;exact PySem.EqMixed.eq_str_bool (Z0J I q (by simp))
  |int j=>obtain⟨z,rfl⟩:=n;exact PySem.EqMixed.eq_str_int (Z0J I q (by simp))
  |str j=>obtain⟨z,rfl⟩:=n;exact eq_str (Z0J I q J1Y)
  |_=>exact absurd (show false=true from B) qc0
 |byt i=>
  obtain⟨t,rfl⟩:=D;cases y with
  |byt j=>obtain⟨z,rfl⟩:=n;exact W.eq_bytes (Z0J I q J0w)
  |_=>exact absurd (show false=true from B) qc0
 |_=>cases y<;>exact absurd (show false=true from B) qc0
theorem J9G:OpR X (compareOp .NotEq) rNe:=by
 intro pins s σ H x y v u Q I D n h;obtain⟨B,q⟩:=h;cases x with
 |non=>
  cases D;cases y with
  |non=>cases n;exact PySem.EqNone.ne_none_none (Z0J I q (by simp))
  |bl j=>cases n;exact PySem.EqNone.ne_none_bool (Z0J I q (by simp))
  |int j=>obtain⟨z,rfl⟩:=n;exact PySem.EqNone.ne_none_int (Z0J I q (by simp))
  |str j=>obtain⟨z,rfl⟩:=n;exact PySem.EqNone.ne_none_str (Z0J I q (by simp))
  |_=>exact absurd (show false=true from B) qc0
 |bl i=>
  cases D;cases y with
  |non=>cases n;exact PySem.EqNone.ne_bool_none (Z0J I q (by simp))
  |bl j=>cases n;exact ne_bool (Z0J I q (congrArg not J4S))
  |str j=>obtain⟨z,rfl⟩:=n;exact PySem.EqMixed.ne_bool_str (Z0J I q (by simp))
  |_=>exact absurd (show false=true from B) qc0
 |int i=>
  obtain⟨t,rfl⟩:=D;cases y with
  |non=>cases n;exact PySem.EqNone.ne_int_none (Z0J I q (by simp))
  |int j=>obtain⟨z,rfl⟩:=n;exact ne_int (Z0J I q (congrArg not J0z))
  |str j=>obtain⟨z,rfl⟩:=n;exact PySem.EqMixed.ne_int_str (Z0J I q (by simp))
  |_=>exact absurd (show false=true from B) qc0
 |str i=>
  obtain⟨t,rfl⟩:=D;cases y with
  |non=>cases n;exact PySem.EqNone.ne_str_none (Z0J I q (by simp))
  |bl j=>cases n;exact PySem.EqMixed.ne_str_bool (Z0J I q (by simp))
  |int j=>obtain⟨z,rfl⟩:=n;exact PySem.EqMixed.ne_str_int (Z0J I q (by simp))
  |str j=>obtain⟨z,rfl⟩:=n;exact ne_str (Z0J I q (congrArg not J1Y))
  |_=>exact absurd (show false=true from B) qc0
 |byt i=>
  obtain⟨t,rfl⟩:=D;cases y with
  |byt j=>obtain⟨z,rfl⟩:=n;exact W.ne_bytes (Z0J I q (congrArg not J0w))
  |_=>exact absurd (show false=true from B) qc0
 |_=>cases y<;>exact absurd (show false=true from B) qc0
theorem Z9W:OpR X (compareOp .Lt) (rI0 λ i j=>.bl (decide (i<j))):=opB0 λ _ _ _ _ _ _ _ q=>lt_int q
theorem Z8a:OpR X (compareOp .Gt) (rI0 λ i j=>.bl (decide (j<i))):=opB0 λ _ _ _ _ _ _ _ q=>gt_int q
theorem J4T:OpR X (compareOp .Is) (λ x y H Q=>y=.non/\Q (.bl (decide (x=.non))) H):=by
 intro pins s σ H x y v u Q I i j h;obtain ⟨rfl,q⟩:=h;cases j;refine is_none_gen (Z0J I q ?_);cases x <;> first
  |(cases i;rfl)
  |(obtain⟨t,rfl⟩:=i;rfl)
theorem Z1A:OpR X (compareOp .IsNot) (λ x y H Q=>y=.non/\Q (.bl (!decide (x=.non))) H):=by
 intro pins s σ H x y v u Q I i j h;obtain ⟨rfl,q⟩:=h;cases j;refine isnot_none_gen (Z0J I q ?_);cases x <;> first
  |(cases i;rfl)
  |(obtain⟨t,rfl⟩:=i;rfl)
theorem Z3f(b:Expr){op:CmpOp}(h:op≠.In:=by decide)(h2:op≠.NotIn:=by decide):behindInMarks op b=false:=by
 have i:(op==CmpOp.In)=false:=by cases op<;>first|rfl|exact absurd rfl h
 have j:(op==CmpOp.NotIn)=false:=by cases op<;>first|rfl|exact absurd rfl h2
 cases b<;>simp[behindInMarks,i,j]
theorem Z1z{op:CmpOp}{r:R2}(i:OpR X (compareOp op) r)(ha:PE X a ta)(j:PE X b tb)(n:behindInMarks op b=false):PE X (.Compare a [op] [b] pos) (tOp r ta tb):=by
 intro pins s σ H Q I h;exact wpAny_Compare1 (binT ha j I h λ v u z x y H2 B D G q=>i pins z σ H2 x y v u Q B D G q) n
def J5M(t:TE):TT:=λ σ H Q=>t σ H λ x H'=>∃k,x=.bl k/\Q k H'
theorem Z0Y{op:CmpOp}{r:R2}(i:OpR X (compareOp op) r)(ha:PE X a ta)(j:PE X b tb)(n:behindInMarks op b=false):PT X (.Compare a [op] [b] pos) (J5M (tOp r ta tb)):=by
 intro pins s σ H Q I h;refine wpAny_isTrue_Compare1 (thn (ha pins s σ H _ I h) λ v q ⟨x,H1,B,D,G⟩=>thn (j pins q σ H1 _ B G) λ u J ⟨y,H2,L,M,N⟩=>thn (i pins J σ H2 x y v u _ L D M N) λ c Y ⟨z,O,R,S,k,e,U⟩=>?_) n;subst e;cases S;exact wpAny_truthy_bool ⟨O,R,U⟩
def TruV(K:X0)(x:V)(H:Hp)(k:Bool):Prop:=
 match x with
 | .non=>k=false
 | .bl b=>k=b
 | .int i=>k=(i !=0)
 | .str y=>y.length<=sizeLine/\k=((y.length:Int)!=0)
 | .byt y=>y.size<=sizeLine/\k=((y.size:Int)!=0)
 | .ref p=>(∃xs,SqL K H p xs/\k=!xs.isEmpty)\/(∃xs,SqT K H p xs/\k=!xs.isEmpty)\/∃j,H p=some (.dK j)/\k=!j.isEmpty
 |_=>False
theorem Z9S{i:Type}{kvs:List (i×V)}{vs:List (i×V1)}(r:KV kvs vs):(!vs.isEmpty)=!kvs.isEmpty:=by
 cases r<;>rfl
theorem Z5p{xs:List V}{its:List V1}(r:Vals xs its):(!its.toArray.isEmpty)=!xs.isEmpty:=by
 cases r<;>simp
theorem Z4P:(sizeLine:Nat)<2^63:=by rw[sizeLine_eq];decide
theorem J7d:TruR X (λ x H Q=>∃k,TruV X.K x H k/\Q k H):=by
 intro pins s σ H x v Q I B h;obtain⟨k,e,q⟩:=h;have O:=Z4P;have R:sizeLine=16777216:=sizeLine_eq;cases x with
 |non=>
  cases B;have j:k=false:=e;subst j;exact truthy_none ⟨H,I,q⟩
 |bl b=>
  cases B;have j:k=b:=e;subst j;exact wpAny_truthy_bool ⟨H,I,q⟩
 |int i=>
  obtain⟨t,rfl⟩:=B;have j:k=(i !=0):=e;subst j;exact PySem.P.truthy_int ⟨H,I,q⟩
 |str y=>
  obtain⟨t,rfl⟩:=B;obtain⟨M,j⟩:y.length<=sizeLine/\k=((y.length:Int)!=0):=e;subst j;exact PySem.P.truthy_str qR ⟨H,I.tok _,q⟩
 |byt y=>
  obtain⟨t,rfl⟩:=B;obtain⟨M,j⟩:y.size<=sizeLine/\k=((y.size:Int)!=0):=e;subst j;exact W.truthy_bytes qR ⟨H,I.tok _,q⟩
 |ref p=>
  cases B;have j:(∃xs,SqL X.K H p xs/\k=!xs.isEmpty)\/(∃xs,SqT X.K H p xs/\k=!xs.isEmpty)\/∃n,H p=some (.dK n)/\k=!n.isEmpty:=e;rcases j with⟨xs,D,j⟩|⟨xs,D,j⟩|⟨n,D,j⟩
  ·subst j;obtain⟨G,r,J,L⟩:=I.list D;have z:=r.length;exact wpAny_truthy_list J.isList (by simp only[qb2];omega) ⟨H,I.tok _,by rw[Z5p r];exact q⟩
  ·subst j;obtain⟨G,r,J,L⟩:=I.tuple D;have z:=r.length;exact truthy_tuple J (by simp only[qb2];omega) ⟨H,I.tok _,by rw[Z5p r];exact q⟩
  ·subst j;obtain⟨L,N,vs,r,m⟩:n.length<=sizeLine/\(p==sysModules)=false/\∃vs,KV n vs/\s.heap.DictOf (Z0F X.prog X.w) p vs:=I.hok p _ D;have z:n.length=vs.length:=Paired.length r;exact wpAny_truthy_dict N m qR ⟨H,I.tok _,by rw[Z9S r];exact q⟩
 |_=>exact(show False from e).elim
theorem Z5t:OpR X (binaryOp .Add) (λ x y H Q=>∃i j,x=.str i/\y=.str j/\i.length+j.length<=sizeLine/\Q (.str (i++j)) H):=by
 intro pins s σ H x y v u Q I n z h;obtain⟨i,j,rfl,rfl,B,q⟩:=h;obtain⟨t,rfl⟩:=n;obtain⟨D,rfl⟩:=z;exact add_str (λ D tk=>⟨.str (i++j),H,I.tok _,⟨_,rfl⟩,q⟩) B
theorem Z4x{x:V}{us:List V1}(r:Vals [x] us):∃u,us=[u]/\RelV x u:=by
 cases r with
 |cons i j=>cases j;exact⟨_,rfl,i⟩
theorem J8Z{x y:V}{us:List V1}(r:Vals [x,y] us):∃u w',us=[u,w']/\RelV x u/\RelV y w':=by
 cases r with
 |cons i j=>
  cases j with
  |cons n q=>cases q;exact⟨_,_,rfl,i,n⟩
theorem Z6z(y:X.calm=true):Z3p X (.builtin "min") (λ xs H Q=>∃i j,xs=[.int i,.int j]/\Q (.int (if j<i then j else i)) H):=by
 intro pins s σ H xs z Q I r h;obtain⟨i,j,rfl,q⟩:=h;obtain⟨u,B,rfl,⟨t,rfl⟩,⟨D,rfl⟩⟩:=J8Z r;refine min_two_ints (I.ok.hd y) λ h' tk k=>⟨_,H,I.kept k,?_,q⟩;by_cases n:j<i
 ·rw[if_pos n,if_pos n];exact⟨_,rfl⟩
 ·rw[if_neg n,if_neg n];exact⟨_,rfl⟩
theorem Z2z:Z3p X (.type "int") (λ xs H Q=>(∃i,xs=[.int i]/\Q (.int i) H)\/∃k,xs=[.bl k]/\Q (.int (if k then 1 else 0)) H):=by
 intro pins s σ H xs n Q I r h;rcases h with⟨i,rfl,q⟩|⟨k,rfl,q⟩
 ·obtain⟨u,rfl,t,rfl⟩:=Z4x r;exact call_int_int ⟨.int i,H,I,⟨_,rfl⟩,q⟩
 ·obtain⟨u,rfl,j⟩:=Z4x r;cases j;exact call_int_bool ⟨.int (if k then 1 else 0),H,I.tok _,⟨_,rfl⟩,q⟩
end
end L2
namespace L2
open PySem PySem.Spec PyProof.Rows
structure ObjM(h:V3)(x dx C:V0)(mA:V2->Option V1):Prop where
 obj:h.get? x=some (W.instObj C dx)
 ns:h.Ns1 dx mA
 ne:dx≠x
theorem J1V{h:V3}{dx:V0}{mA:V2->Option V1}(n:h.Ns1 dx mA):∃j,h.get? dx=some j/\∀name,W.lookIn name j=some (mA name):=by
 obtain⟨o,es,L,B,hd,D,_,G⟩:=n;refine⟨o,B,λ name=>?_⟩;have e:=G name;unfold nsFind findBy at e;rw[<-Array.find?_toList]at e;unfold W.lookIn;rw[hd];dsimp only;split
 ·rename_i y q;rw[q]at e;exact congrArg some e
 ·rename_i q;rw[q]at e;have a:es.toList.any (·.refKey)=false:=by
   rw[qm1];intro y I;obtain⟨z,t,i⟩:=D y (Array.mem_toList_iff.mp I);simp[DictEntry.refKey,i]
  have J:¬es.toList.any (·.refKey)=true:=by rw[a];exact qc0
  rw[if_neg J];exact congrArg some e
theorem ObjM.look{h:V3}{x dx C:V0}{mA:V2->Option V1}(I:ObjM h x dx C mA):∃i,W.InstAt h x (W.instObj C dx) C (some i)/\∀name,W.lookIn name i=some (mA name):=
 let⟨i,j,n⟩:=J1V I.ns
 ⟨i,⟨I.obj,rfl,rfl,j⟩,n⟩
section
variable{prog:Program}{w:M2}{A:V4}{E:V1->M1->Prop}{s:M1}{K:X0}{x dx C f:V0}{mA:V2->Option V1}{name:V2}{v:V1}
theorem J5S{i:Bool}{Q:V1->M1->Prop}(X:K.In s.heap)(I:ObjM s.heap x dx C mA)(n:W.plainGet K C name=true)(q:W.hasDictIn K C=true)(ha:W.findIn K (.ref C) name=some none)(y:mA name=some v)(j:W.handedIn v=true)(h:Q v {s with toks:=s.toks+1}):wpAny (model prog w) A (getAttr (.ref x) name i) Q E s:=by
 obtain⟨B,J,z⟩:=I.look;exact W.get_value X J (W.plainGet_of n).1 (W.findObj_own q ha rfl (by rw[z,y])) j h
theorem J3h{pl:Sem Bool}{Q:V1×List V1->M1->Prop}(X:K.In s.heap)(I:ObjM s.heap x dx C mA)(i:W.plainGet K C name=true)(j:W.findIn K (.ref C) name=some (some (.ref f)))(n:W.isFn K (.ref f)=true)(q:mA name=none)(h:Q (.ref f,[.ref x]) s):wpAny (model prog w) A (getMethod (.ref x) name pl) Q E s:=by
 obtain⟨y,J,z⟩:=I.look;exact W.method_fn X J (W.plainGet_of i).1 (W.plainGet_of i).2 j (beq_iff_eq.mp n) (by show(W.lookIn name y).map (·.isSome)=some false;rw[z,q];rfl) h
theorem J5u{ns:List V2}{Q:Unit->M1->Prop}(X:K.In s.heap)(I:ObjM s.heap x dx C mA)(hs:W.findIn K (.ref C) "__setattr__"=some (some (.builtin "object.__setattr__")))(D:W.plainOver K C=true)(G:W.takerIn K C name=some none)(L:W.hasDictIn K C=true)(M:PySem.Within mA ns)(hsz:ns.length<=sizeLine)(h:∀h',ObjM h' x dx C (λ y=>if y=name then some v else mA y)->Heap.SameBut dx s.heap h'->Q () {s with heap:=h',toks:=s.toks+2}):wpAny (model prog w) A (setAttr (.ref x) name v) Q E s:=by
 obtain⟨U,J,Y⟩:=I.look;refine W.set_plain X J hs (W.osa_open (s:={s with toks:=s.toks+1}) (r:=none) X J D G λ b=>?_);obtain⟨Z,N,n⟩:=W.any_some L;have O:s.heap.get? x=some ⟨.ref C,some dx,.plain,#[]⟩:=I.obj;refine wpAny_bind (wpAny_pure (wpAny_bind (wpAny_bind (wpAny_loadPart O (wpAny_bind (W.Looks.here (s:={s with toks:=s.toks+1}) (W.looks_clsIn X N) ?_))))));rw[n];refine wpAny_pure (a:=some dx) (wpAny_bind (wpAny_pure (wpAny_bind ?_)));refine wpAny_nsSet1 (s:={s with toks:=s.toks+1}) I.ns λ h' i j=>?_;obtain⟨oD,R,S,q,z,B⟩:=i.count (PySem.Within.cons name v M);refine wpAny_bind (wpAny_lookBehind q (by rw[z];exact pastItsLine_dict (qb9 B (by rw[qc3];omega))) ?_);exact wpAny_pure (h _ ⟨(j.2 _ (Ne.symm I.ne)).trans I.obj,i,I.ne⟩ j)
theorem J2X{R:Result->M1->Prop}{vs:List V1}{kw:List (V2×V1)}(X:K.In s.heap)(i:W.makesIn K C=true)(hi:W.findIn K (.ref C) "__init__"=some (some (.ref f)))(j:W.typeIn K (.ref f)=some (.type "function"))(h:codeAny (model prog w) (A.under (.builtin "type.__call__" ⟨.ref C::vs,kw⟩)) (.call (.ref f) ⟨.ref (s.heap.objs.size+1)::vs,kw⟩) (W.InitBack (s.heap.objs.size+1) R) {s with heap:=(s.heap.push W.emptyDict).push (W.instObj C s.heap.objs.size)}):codeAny (model prog w) A (.call (.ref C) ⟨vs,kw⟩) R s:=by
 obtain⟨n,g,d,t,q⟩:=s;exact W.make_core (W.makes_of X i) (W.looks_findIn X hi) (λ self=>W.bind_fn X self j) (.inl rfl) h
end
def putF(f:V2)(v:V):List (V2×V)->List (V2×V)
 |[]=>[(f,v)]
 |(g,x)::r=>if g=f then(g,v)::r else(g,x)::putF f v r
theorem Z5d(f g:V2)(v:V):∀fs:List (V2×V),(putF f v fs).lookup g=if g=f then some v else fs.lookup g
 |[]=>by
  show qg0 g [(f,v)]=_;by_cases h:g=f
  ·have i:(g==f)=true:=beq_iff_eq.mpr h;simp only[qg0,i,if_pos h]
  ·have i:(g==f)=false:=beq_eq_false_iff_ne.mpr h;simp only[qg0,i,if_neg h]
 |(k,x)::r=>by
  have n:=Z5d f g v r;rw[show putF f v ((k,x)::r)=(if k=f then(k,v)::r else(k,x)::putF f v r)from rfl];by_cases j:k=f
  ·rw[if_pos j];by_cases h:g=k
   ·have i:(g==k)=true:=beq_iff_eq.mpr h;simp only[qg0,i,if_pos (h.trans j)]
   ·have i:(g==k)=false:=beq_eq_false_iff_ne.mpr h;simp only[qg0,i,if_neg (λ e:g=f=>h (e.trans j.symm))]
  ·rw[if_neg j];by_cases h:g=k
   ·have i:(g==k)=true:=beq_iff_eq.mpr h;simp only[qg0,i,if_neg (λ e:g=f=>j (h.symm.trans e))]
   ·have i:(g==k)=false:=beq_eq_false_iff_ne.mpr h;simp only[qg0,i];exact n
theorem Z4Z(f:V2)(v:V):∀fs:List (V2×V),f∈(putF f v fs).map (·.1)/\∀g,g∈fs.map (·.1)->g∈(putF f v fs).map (·.1)
 |[]=>⟨by simp[putF],λ g h=>by simp at h⟩
 |(k,x)::r=>by
  obtain⟨j,n⟩:=Z4Z f v r;rw[show putF f v ((k,x)::r)=(if k=f then(k,v)::r else(k,x)::putF f v r)from rfl];by_cases i:k=f
  ·rw[if_pos i];subst i;exact⟨by simp,λ g h=>by simpa using h⟩
  ·rw[if_neg i];refine⟨?_,λ g h=>?_⟩
   ·rw[qb8];exact qb1 _ j
   ·rw[qb8]at h ⊢;rcases qa2.mp h with e|e
    ·exact qa2.mpr (.inl e)
    ·exact qb1 _ (n g e)
theorem Z4M(f:V2)(v:V):∀fs:List (V2×V),(putF f v fs).length<=fs.length+1
 |[]=>by simp[putF]
 |(k,x)::r=>by
  have j:=Z4M f v r;rw[show putF f v ((k,x)::r)=(if k=f then(k,v)::r else(k,x)::putF f v r)from rfl];by_cases i:k=f
  ·rw[if_pos i,qc3,qc3];omega
  ·rw[if_neg i,qc3,qc3];omega
theorem RelO.some_of{v:V}{o:Option V1}(r:RelO (some v) o):∃u,o=some u/\RelV v u:=by
 cases o with
 |none=>exact(show False from r).elim
 |some u=>exact⟨u,rfl,r⟩
theorem RelO.none_of{o:Option V1}(r:RelO none o):o=none:=by
 cases o with
 |none=>rfl
 |some u=>exact(show False from r).elim
theorem J2f{v:V}{u:V1}(r:RelV v u):W.handedIn u=true:=by
 cases v with
 |non=>cases(show u=Value.none from r);rfl
 |bl b=>cases(show u=Value.bool b from r);rfl
 |int i=>obtain⟨t,e⟩:=(show ∃t,u=Value.int i t from r);cases e;rfl
 |str x=>obtain⟨t,e⟩:=(show ∃t,u=Value.str x t from r);cases e;rfl
 |byt b=>obtain⟨t,e⟩:=(show ∃t,u=Value.bytes b t from r);cases e;rfl
 |flt b=>obtain⟨t,e⟩:=(show ∃t,u=Value.float b t from r);cases e;rfl
 |ref a=>cases(show u=Value.ref a from r);rfl
 |ty n=>cases(show u=Value.type n from r);rfl
section
variable{P:Program}{w:M2}{H H':Hp}{h h':V3}{a C dx:V0}{fs fs':List (V2×V)}
theorem Z5R(i:HOk P w H h)(e:H a=some (.ins C dx fs)):∃mA,ObjM h a dx C mA/\(∀f,RelO (fs.lookup f) (mA f))/\PySem.Within mA (fs.map (·.1))/\fs.length<=1000/\H dx=some (.own a):=by
 obtain⟨d,z,j,y,mA,n,r,q⟩:=(show ObjOk P w H h a (.ins C dx fs)from i a _ e);exact⟨mA,⟨y,n,j⟩,r,q,z,d⟩
end
structure Cls(K:X0)(C:V0):Prop where
 pg:W.plainGet K C Str.empty=true
 hd:W.hasDictIn K C=true
 po:W.plainOver K C=true
 sa:W.findIn K (.ref C) "__setattr__"=some (some (.builtin "object.__setattr__"))
theorem Cls.get{K:X0}{C:V0}(c:Cls K C)(f:V2):W.plainGet K C f=true:=c.pg
def NoAttr(K:X0)(C:V0)(f:V2):Prop:=W.findIn K (.ref C) f=some none
theorem NoAttr.taker{K:X0}{C:V0}{f:V2}(n:NoAttr K C f):W.takerIn K C f=some none:=by
 unfold W.takerIn;rw[show W.findIn K (.ref C) f=some none from n];rfl
structure Con(K:X0)(C:V0)(f:V2)(v:V)(u:V1):Prop where
 at_:W.findIn K (.ref C) f=some (some u)
 rel:RelV v u
 get:W.specialIn K u "__get__"=some none
 cp:W.copiedNames.contains f=false
structure Meth(K:X0)(C:V0)(m:V2)(f:V0):Prop where
 at_:W.findIn K (.ref C) m=some (some (.ref f))
 fn:W.isFn K (.ref f)=true
 kp:W.keepIn K (.ref f)=true
section
variable{X:Cx}{pins:List (V0×Obj)}{σ:St}{H:Hp}{s:M1}{a C dx:V0}{fs:List (V2×V)}{f:V2}{v:V}{A:V4}{E:V1->M1->Prop}
theorem J0l{b:Bool}{Q:V1->M1->Prop}(I:Inv X pins σ H s)(e:H a=some (.ins C dx fs))(c:Cls X.K C)(n:NoAttr X.K C f)(l:fs.lookup f=some v)(h:∀u s',Inv X pins σ H s'->RelV v u->Q u s'):wpAny (model X.prog X.w) A (getAttr (.ref a) f b) Q E s:=by
 obtain⟨mA,O,r,_,_,_⟩:=Z5R I.hok e;obtain⟨u,j,i⟩:=RelO.some_of (v:=v) (o:=mA f) (by rw[<-l];exact r f);exact J5S I.kIn O (c.get f) c.hd n j (J2f i) (h u _ (I.tok _) i)
theorem Z4i{m:V2}{g:V0}{pl:Sem Bool}{Q:V1×List V1->M1->Prop}(I:Inv X pins σ H s)(e:H a=some (.ins C dx fs))(c:Cls X.K C)(k:Meth X.K C m g)(l:fs.lookup m=none)(h:Q (.ref g,[.ref a]) s):wpAny (model X.prog X.w) A (getMethod (.ref a) m pl) Q E s:=by
 obtain⟨mA,O,r,_,_,_⟩:=Z5R I.hok e;have i:mA m=none:=RelO.none_of (by rw[<-l];exact r m);exact J3h I.kIn O (c.get m) k.at_ k.fn i h
theorem J0c{y:V}{u:V1}{Q:Unit->M1->Prop}(I:Inv X pins σ H s)(e:H a=some (.ins C dx fs))(c:Cls X.K C)(n:NoAttr X.K C f)(R:fs.length<1000)(D:RelV y u)(h:∀s',Inv X pins σ (upd H a (.ins C dx (putF f y fs))) s'->Q () s'):wpAny (model X.prog X.w) A (setAttr (.ref a) f u) Q E s:=by
 obtain⟨mA,O,r,j,_,B⟩:=Z5R I.hok e;have G:(fs.map (·.1)).length<=sizeLine:=by rw[qa0,sizeLine_eq];omega
 refine J5u I.kIn O c.sa c.po n.taker c.hd j G λ h' i J=>h _ ?_;have hd:∃o,h'.get? dx=some o:=let⟨o,_,_,L,_⟩:=i.ns;⟨o,L⟩;refine I.write (x:=a) (e:=dx) (by rw[e];exact True.intro) (.inr B) (λ b q M z=>(J.2 b M).trans z) hd ?_;refine⟨by rw[Z0e O.ne];exact B,?_,O.ne,i.obj,_,i.ns,λ g=>?_,λ g N=>?_⟩
 ·have:=Z4M f y fs;omega
 ·show RelO ((putF f y fs).lookup g) (if g=f then some u else mA g);rw[Z5d];by_cases q:g=f
  ·rw[if_pos q,if_pos q];exact D
  ·rw[if_neg q,if_neg q];exact r g
 ·by_cases q:g=f
  ·rw[q];exact(Z4Z f y fs).1
  ·refine(Z4Z f y fs).2 g (j g λ z=>N ?_);show(if g=f then some u else mA g)=none;rw[if_neg q];exact z
theorem Inv.made(I:Inv X pins σ H s):Inv X pins σ (upd (upd H s.heap.objs.size (.own (s.heap.objs.size+1))) (s.heap.objs.size+1) (.ins C s.heap.objs.size [])) {s with heap:=(s.heap.push W.emptyDict).push (W.instObj C s.heap.objs.size)}:=by
 have i:(s.heap.push W.emptyDict).get? s.heap.objs.size=some W.emptyDict:=Heap.get?_push_size s.heap rfl;have n:((s.heap.push W.emptyDict).push (W.instObj C s.heap.objs.size)).get? (s.heap.objs.size+1)=some (W.instObj C s.heap.objs.size):=by
  have:=Heap.get?_push_size (s.heap.push W.emptyDict) (o:=W.instObj C s.heap.objs.size) rfl
  rwa [Heap.size_push]at this
 have z:(s.heap.push W.emptyDict).Ns s.heap.objs.size (λ _=>none):=⟨W.emptyDict,#[],_,i,rfl,(λ e B=>absurd B (by simp)),λ _=>rfl⟩;have D:=I.laid (a:=s.heap.objs.size) (o:=.own (s.heap.objs.size+1)) (h':=s.heap.push W.emptyDict) (t':=s.toks) (λ b u q=>Heap.get?_push_of_some _ q) (qa1 _) ⟨_,i⟩;refine D.laid (a:=s.heap.objs.size+1) (o:=.ins C s.heap.objs.size []) (t':=s.toks) (λ b u q=>Heap.get?_push_of_some _ q) (Nat.le_of_eq (Heap.size_push _ _)) ?_;have j:s.heap.objs.size≠s.heap.objs.size+1:=qb7 (qj2 _);refine⟨by rw[Z0e j,Z0b],qa6 _,j,n,λ _=>none,(Heap.Ns1.of_empty z).at λ o q=>Heap.get?_push_of_some _ q,λ _=>True.intro,λ y G=>absurd rfl G⟩
theorem J5E{prog:Program}{w:M2}{env:Env}{e:Expr}{f:V2}{pos:Pos}{s:M1}{Q:V1->M1->Prop}(j:attributeBase e f env (eval e env)=eval e env)(h:wpAny (model prog w) A (eval e env) (λ o i=>wpAny (model prog w) A (getAttr o f true) Q E i) E s):wpAny (model prog w) A (eval (.Attribute e f pos) env) Q E s:=
 Attribute_any_ h (by rw[arm_eval_Attribute,j])
end
def InOp(X:Cx)(op:Operator)(rd:V->V->Hp->VK->Prop):Prop:=
 ∀(pins:List (V0×Obj))(s:M1)(σ:St)(H:Hp)(x y:V)(u v:V1)(Q:VK),Inv X pins σ H s->RelV x u->RelV y v->rd x y H Q->wpAny (model X.prog X.w) X.A (inplaceOp op u v) (EP X pins σ Q) X.xe s
section
variable{X:Cx}{o e value:Expr}{f:V2}{pos pos' tpos:Pos}{ta tv:TE}
theorem J5e{pl:Sem Bool}{m:V2}{apos:Pos}{args:List Expr}{pins:List (V0×Obj)}{s:M1}{σ:St}{H:Hp}{Q:V1->M1->Prop}{te:TE}(z:PE X e te)(I:Inv X pins σ H s)(h:te σ H λ x H1=>∃a C dx fs g,x=.ref a/\H1 a=some (.ins C dx fs)/\Cls X.K C/\Meth X.K C m g/\fs.lookup m=none/\∀i,Inv X pins σ H1 i->wpAny (model X.prog X.w) X.A (callWith pos (.ref g) [.ref a] (backTo pos (starEach args X.env)) (backToKw pos (keywordEach [] X.env))) Q X.xe i)(B:eval (.Call (.Attribute e m apos) args [] pos) X.env=(do
   let n<-eval e X.env
   standAt apos.atName
   let(f,first)<-holding [n] (getMethod n m pl)
   callWith pos f first (backTo pos (starEach args X.env)) (backToKw pos (keywordEach [] X.env)))):wpAny (model X.prog X.w) X.A (eval (.Call (.Attribute e m apos) args [] pos) X.env) Q X.xe s:=by
 refine W.methodCall_KW (pl:=pl) (thn (z pins s σ H _ I h) λ u i j=>?_) B;obtain⟨x,H1,y,D,a,C,dx,fs,g,ex,G,c,k,l,q⟩:=j;subst ex;obtain rfl:u=Value.ref a:=D;exact Z4i y G c k l (q i y)
end
section
variable{X:Cx}{pins:List (V0×Obj)}{σ:St}{H:Hp}{s:M1}{A:V4}{E:V1->M1->Prop}{Q:V1->M1->Prop}{c:V1}{b:Bool}
inductive TyOf(K:X0)(H:Hp):V->V1->Prop where
 |non:TyOf K H .non (.type "NoneType")
 |bl(x:Bool):TyOf K H (.bl x) (.type "bool")
 |int(i:Int):TyOf K H (.int i) (.type "int")
 |str(x:V2):TyOf K H (.str x) (.type "str")
 |flt(x:UInt64):TyOf K H (.flt x) (.type "float")
 |lst{a:V0}{xs:List V}(e:H a=some (.lst xs)):TyOf K H (.ref a) (.type "list")
 |frz{a:V0}{o:Obj}{xs:List V}(e:H a=some (.frz o (.lst xs))):TyOf K H (.ref a) (.type "list")
 |tup{a:V0}{xs:List V}(e:H a=some (.tup xs)):TyOf K H (.ref a) (.type "tuple")
 |dK{a:V0}{kvs:List (Key×V)}(e:H a=some (.dK kvs)):TyOf K H (.ref a) (.type "dict")
 |dT{a:V0}{kvs:List (List Key×V)}(e:H a=some (.dT kvs)):TyOf K H (.ref a) (.type "dict")
 |ins{a C dx:V0}{fs:List (V2×V)}(e:H a=some (.ins C dx fs))(cl:Cls K C)(ha:W.findIn K (.ref C) "__class__"=some (some (.builtin "object.__class__")))
   (hn:W.specialIn K (.builtin "object.__class__") "__get__"=some (some (.builtin "getset_descriptor.__get__"))) (htk:W.takesIn K (.builtin "object.__class__")=some true)
   (hm:W.mroIn K C (.type "object")=some true):TyOf K H (.ref a) (.ref C)
theorem J0T{x:V}{u t:V1}(I:Inv X pins σ H s)(j:RelV x u)(ty:TyOf X.K H x t)(e:W.kitOne X.K t c=some b)(h:∀tk,Q (.bool b) {s with toks:=tk}):wpAny (model X.prog X.w) A (call (.builtin "isinstance") [u,c]) Q E s:=by
 cases ty with
 |non=>cases(show u=Value.none from j);exact W.kia_one W.kitx_none I.kIn True.intro e (λ z=>nomatch z) h
 |bl y=>cases(show u=Value.bool y from j);exact W.kia_one W.kitx_bool I.kIn True.intro e (λ z=>nomatch z) h
 |int i=>obtain⟨t,q⟩:=(show ∃t,u=Value.int i t from j);cases q;exact W.kia_one W.kitx_int I.kIn True.intro e (λ z=>nomatch z) h
 |str y=>obtain⟨t,q⟩:=(show ∃t,u=Value.str y t from j);cases q;exact W.kia_one W.kitx_str I.kIn True.intro e (λ z=>nomatch z) h
 |flt y=>obtain⟨t,q⟩:=(show ∃t,u=Value.float y t from j);cases q;exact W.kia_one W.kitx_float I.kIn True.intro e (λ z=>nomatch z) h
 |@lst a xs B=>
  cases(show u=Value.ref a from j);obtain⟨_,_,n,_,h1⟩:=(show ObjOk X.prog X.w H s.heap a (.lst xs)from I.hok a _ B);exact W.kia_one W.kitx_list I.kIn ⟨_,h1,rfl⟩ e (λ z=>nomatch z) h
 |@frz a M xs B=>
  cases(show u=Value.ref a from j);obtain⟨_,_,_,n,_,h1⟩:=(show ObjOk X.prog X.w H s.heap a (.frz M (.lst xs))from I.hok a _ B);exact W.kia_one W.kitx_list I.kIn ⟨_,h1,rfl⟩ e (λ z=>nomatch z) h
 |@tup a xs B=>
  cases(show u=Value.ref a from j);obtain⟨_,_,_,p⟩:=(show ObjOk X.prog X.w H s.heap a (.tup xs)from I.hok a _ B);obtain⟨o,h1,h2,_⟩:=p;exact W.kia_one W.kitx_tuple I.kIn ⟨o,h1,h2⟩ e (λ z=>nomatch z) h
 |@dK a D B=>
  cases(show u=Value.ref a from j);obtain⟨_,_,U,_,p⟩:=(show ObjOk X.prog X.w H s.heap a (.dK D)from I.hok a _ B);obtain⟨o,es,N,h1,h2,_⟩:=p;exact W.kia_one W.kitx_dict I.kIn ⟨o,h1,h2.1⟩ e (λ z=>nomatch z) h
 |@dT a D B=>
  cases(show u=Value.ref a from j);obtain⟨_,_,xs,_,o,es,N,h1,h2,_⟩:=(show ObjOk X.prog X.w H s.heap a (.dT D)from I.hok a _ B);exact W.kia_one W.kitx_dict I.kIn ⟨o,h1,h2.1⟩ e (λ z=>nomatch z) h
 |@ins a C dx fs B L ha R G S=>
  cases(show u=Value.ref a from j);obtain⟨mA,O,_⟩:=Z5R I.hok B;obtain⟨Y,J,_⟩:=O.look;exact W.kia_one (W.kitx_own (L.get _) L.hd ha R G S) I.kIn J e (λ z=>nomatch z) h
end
end L2
namespace L2
open PySem PySem.Spec PyProof.Rows
structure Room(k:Nat)(A:V4):Prop where
 hd:A.handled=none
 dp:A.depth+3*k+5<recursionLimit
 un:A.units+16*k+200<cLine
 gd:A.guards=some []
theorem Room.mono{j k:Nat}{A:V4}(r:Room k A)(h:j<=k):Room j A:=⟨r.hd,by have:=r.dp;omega,by have:=r.un;omega,r.gd⟩
theorem Room.deeper{k:Nat}{A:V4}(r:Room (k+1) A)(env:Env):Room k (A.deeper env):=
 ⟨r.hd,by have:=r.dp;show A.depth+1+3*k+5<_;omega,by have:=r.un;show A.units+3+16*k+200<_;omega,r.gd⟩
theorem Z9Q{A:V4}{C:V0}{us:List V1}{kw:List (V2×V1)}:(A.under (.builtin "type.__call__" ⟨.ref C::us,kw⟩)).depth=A.depth+1:=by
 first|rfl|simp[Around.under,Code.weight,Code.isCreation,Code.isGuard,Code.isCaller,Code.frames,Code.isFrame,guardIds]
theorem Z9Z{A:V4}{C:V0}{us:List V1}{kw:List (V2×V1)}:(A.under (.builtin "type.__call__" ⟨.ref C::us,kw⟩)).units=A.units+1:=by
 first|rfl|simp[Around.under,Code.cUnits,Code.frames,Code.isFrame]
theorem Room.make{k:Nat}{A:V4}(r:Room (k+1) A)(C:V0)(us:List V1)(kw:List (V2×V1)):Room k (A.under (.builtin "type.__call__" ⟨.ref C::us,kw⟩)):=
 ⟨r.hd,by have:=r.dp;rw[Z9Q];omega,by have:=r.un;rw[Z9Z];omega,r.gd⟩
theorem Room.depth{k:Nat}{A:V4}(r:Room k A):A.depth<recursionLimit:=by have:=r.dp;omega
theorem Room.units{k:Nat}{A:V4}(r:Room k A):A.units+64<cLine:=by have:=r.un;omega
def tNil:TA:=λ _ H Q=>Q [] H
def Z6j(ta:TE)(tr:TA):TA:=λ σ H Q=>ta σ H λ x H1=>tr σ H1 λ xs H2=>Q (x::xs) H2
section
variable{X:Cx}{e:Expr}{es:List Expr}{te:TE}{t:TA}{pos:Pos}
theorem Z0W:PA X [] tNil:=λ _ _ _ _ H Q I h=>Calls.spliced_nil ⟨[],H,I,.nil,h⟩
theorem Z0v(ha:PE X e te)(i:PA X es t)(hs:starEach (e::es) X.env=(false,eval e X.env)::starEach es X.env:=by rfl):PA X (e::es) (Z6j te t):=by
 intro pos pins s σ H Q I h;rw[hs];show wpAny _ _ (spliced ((false,eval e X.env)::backTo pos (starEach es X.env))) _ _ s;refine Calls.spliced_cons (thn (ha pins s σ H _ I h) λ u j ⟨x,H1,n,q,y⟩=>?_);exact thn (i pos pins j σ H1 _ n y) λ G J ⟨xs,H2,z,B,D⟩=>⟨x::xs,H2,z,.cons q B,D⟩
def tTup(t:TA):TE:=λ σ H Q=>t σ H λ xs H1=>xs.length<=sizeLine/\∀p,H1 p=none->Q (.ref p) (upd H1 p (.tup xs))
def tLst(t:TA):TE:=λ σ H Q=>t σ H λ xs H1=>xs.length<=sizeLine/\∀p,H1 p=none->Q (.ref p) (upd H1 p (.lst xs))
theorem Z0m{n}(h:PA X es t):PE X (.Tuple es n pos) (tTup t):=by
 intro pins s σ H Q I y;refine wpAny_Tuple_spliced (thn (h pos pins s σ H _ I y) λ B i ⟨xs,H1,j,r,z,q⟩=>⟨by rw[<-r.length];exact z,?_⟩);have D:H1 i.heap.objs.size=none:=j.hok.fresh (qa1 _);refine⟨.ref i.heap.objs.size,upd H1 i.heap.objs.size (.tup xs),j.laid (t':=i.toks) (λ b u e=>Heap.get?_push_of_some _ e) (qa1 _) ?_,rfl,q _ D⟩;exact⟨⟨z,Z9D⟩,B,r,⟨_,Heap.get?_push_size _ rfl,rfl,_,rfl⟩⟩
theorem Z0t(h:PA X es t):PE X (.List es pos) (tLst t):=by
 intro pins s σ H Q I n;refine wpAny_List_spliced (thn (h pos pins s σ H _ I n) λ y i ⟨xs,H1,j,r,z,q⟩=>⟨by rw[<-r.length];exact z,?_⟩);have B:H1 i.heap.objs.size=none:=j.hok.fresh (qa1 _);refine⟨.ref i.heap.objs.size,upd H1 i.heap.objs.size (.lst xs),j.laid (t':=i.toks) (λ b u e=>Heap.get?_push_of_some _ e) (qa1 _) ?_,rfl,q _ B⟩;exact⟨z,y,0,r,Heap.get?_push_size _ rfl⟩
end
abbrev Sp:=List V->Hp->VK->XK->Prop
abbrev CXT:=List Env->Hp->M1->XK->V1->M1->Prop
structure Env0(P:Program)(w:M2)(K:X0)(mg:V2->Option V1)(base:V3)(A:V4)(outer:List Env)(s:M1)(H:Hp):Prop where
 frames:A.frames=some outer
 mod:Mod K mg base
 bs:∀b o,base.get? b=some o->s.heap.get? b=some o/\H b=none
 bsz:base.objs.size<=s.heap.objs.size
 funs:s.heap.FunFrames base outer
 frf:∀b∈frs outer,H b=none
 hok:HOk P w H s.heap
 bare:AllBare s.gens
def CE(outer:List Env)(P:Program)(w:M2)(H:Hp)(s:M1)(Q:VK)(u:V1)(s':M1):Prop:=
 ∃v H',s'.os=s.os/\AllBare s'.gens/\Un (frs outer) [] H H' s.heap s'.heap/\HOk P w H' s'.heap/\RelV v u/\Q v H'
def CR(CX:CXT)(outer:List Env)(P:Program)(w:M2)(H:Hp)(s:M1)(Q:VK)(E:XK)(r:Result)(s':M1):Prop:=
 match r with
 | .ok (.ret u)=>CE outer P w H s Q u s'
 | .ok _=>False
 | .error e=>CX outer H s E e s'
structure FnOk(P:Program)(w:M2)(K:X0)(mg:V2->Option V1)(base:V3)(CX:CXT)(k:Nat)(f:V0)(fd:FuncData)(ps:List V2)(sp:Sp):Prop where
 len:∀vs H Q E,sp vs H Q E->vs.length=ps.length
 run:∀(A:V4)(outer:List Env)(s:M1)(H:Hp)(args:Args)(us:List V1)(vs:List V)(Q:VK)(E:XK),Room k A->Env0 P w K mg base A outer s H->BindsTo s fd args (ps.zip us)->Vals vs us->sp vs H Q E->
  codeAny (model P w) A (.call (.ref f) args) (CR CX outer P w H s Q E) s
theorem Env0.make{P:Program}{w:M2}{K:X0}{mg:V2->Option V1}{base:V3}{A:V4}{outer:List Env}{s:M1}{H:Hp}(e:Env0 P w K mg base A outer s H)(C:V0)(us:List V1)(kw:List (V2×V1)):Env0 P w K mg base (A.under (.builtin "type.__call__" ⟨.ref C::us,kw⟩)) outer s H:=⟨by first|exact e.frames|(simpa[Around.under,Code.envs,Code.isFrame,pushEnvs]using e.frames),e.mod,e.bs,e.bsz,e.funs,e.frf,e.hok,e.bare⟩
section
variable{X:Cx}{pins:List (V0×Obj)}{σ:St}{H:Hp}{s s':M1}
theorem Inv.env0(I:Inv X pins σ H s):Env0 X.prog X.w X.K X.mg X.base X.A X.stack s H:=
 ⟨I.ok.frames,I.ok.mod,I.bs,qb9 I.ok.bsz I.sz,I.stack,I.stkFree,I.hok,I.bare⟩
theorem Inv.after{Q:VK}{u:V1}(I:Inv X pins σ H s)(h:CE X.stack X.prog X.w H s Q u s'):EP X pins σ Q u s':=by
 obtain⟨v,H',y,i,un,j,r,q⟩:=h;obtain⟨B,g,d,t,n⟩:=s';obtain rfl:n=s.os:=y;exact⟨v,H',I.call (h':=B) (g':=g) (d':=d) (t':=t) (ch:=[]) un j i (λ b z=>absurd z (by simp)),r,q⟩
end
def J4l(sp:Sp)(dvs:List V)(E:XK)(t:TA):TE:=λ σ H Q=>t σ H λ i H1=>sp (i++dvs) H1 Q E
def J2m(C:V0)(m:V2)(sp:Sp)(dvs:List V)(E:XK)(ta:TE)(t:TA):TE:=λ σ H Q=>ta σ H λ x H1=>∃a dx fs,x=.ref a/\H1 a=some (.ins C dx fs)/\fs.lookup m=none/\
 t σ H1 λ i H2=>sp (x::(i++dvs)) H2 Q E
def J6b(C:V0)(sp:Sp)(dvs:List V)(E:XK)(t:TA):TE:=λ σ H Q=>t σ H λ i H1=>∀x dx,H1 x=none->H1 dx=none->dx≠x->
 sp (.ref x::(i++dvs)) (upd (upd H1 dx (.own x)) x (.ins C dx [])) (λ v H2=>v=.non/\Q (.ref x) H2) E
def Binds(K:X0)(fd:FuncData)(ps:List V2)(ds:List V1):Prop:=
 ∀(s:M1)(i:List V1),K.In s.heap->(i++ds).length=ps.length->BindsTo s fd ⟨i,[]⟩ (ps.zip (i++ds))
theorem Binds.all{K:X0}{fd:FuncData}{ps:List V2}(h:∀i:List V1,i.length=ps.length->bindArgs fd ⟨i,[]⟩=pure (ps.zip i)):Binds K fd ps []:=λ s i _ j=>by
 rw[qd0]at j ⊢;exact .of_eq (h i j)
def Z4Y(CX:CXT)(X:Cx)(E:XK):Prop:=∀(pins:List (V0×Obj))(σ:St)(H:Hp)(s:M1)(e:V1)(s':M1),Inv X pins σ H s->CX X.stack H s E e s'->X.xe e s'
section
variable{X:Cx}{CX:CXT}{k:Nat}{f C:V0}{fd:FuncData}{ps:List V2}{sp:Sp}{dvs:List V}{ds:List V1}{E:XK}{x m:V2}{p pos apos:Pos}{e o:Expr}{es:List Expr}{ta:TE}{t:TA}
theorem J1u{pins:List (V0×Obj)}{σ:St}{H:Hp}{s:M1}{Q:VK}{us:List V1}{vs:List V}(F:FnOk X.prog X.w X.K X.mg X.base CX k f fd ps sp)(hr:Room k X.A)(hb:Binds X.K fd ps ds)(hd:Vals dvs ds)(hx:Z4Y CX X E)(I:Inv X pins σ H s)(r:Vals vs us)(h:sp (vs++dvs) H Q E):wpAny (model X.prog X.w) X.A (call (.ref f) us) (EP X pins σ Q) X.xe s:=by
 have r2:Vals (vs++dvs) (us++ds):=r.append hd;have hl:(us++ds).length=ps.length:=by rw[<-r2.length];exact F.len _ _ _ _ h
 refine wpAny_call (codeAny_mono (F.run X.A X.stack s H ⟨us,[]⟩ (us++ds) (vs++dvs) Q E hr I.env0 (hb s us I.kIn hl) r2 h) λ r s' hq=>?_);cases r with
 |error e=>exact hx pins σ H s e s' I hq
 |ok fl=>
  cases fl with
  |ret u=>exact I.after hq
  |next=>exact False.elim hq
  |brk=>exact False.elim hq
  |cont=>exact False.elim hq
theorem J5q(F:FnOk X.prog X.w X.K X.mg X.base CX k f fd ps sp)(y:Room k X.A)(z:Gl X x)(B:X.mg x=some (.ref f))(D:W.keepIn X.K (.ref f)=true)(G:Binds X.K fd ps ds)(hd:Vals dvs ds)(J:Z4Y CX X E)(ha:PA X (e::es) t)(i:(x==("__debug__":V2))=false:=by decide)(L:starEach (e::es) X.env=(false,eval e X.env)::starEach es X.env:=by rfl)(j:(backTo pos (starEach es X.env)).any (·.1)=false:=by rfl):PE X (.Call (.Name x p) (e::es) [] pos) (J4l sp dvs E t):=by
 intro pins s σ H Q I h;refine wpAny_Call_Name_kw (J1F I z B ?_ i);refine W.callWith_K (h₀:=X.base) I.ok.mod.kin D (thn (ha pos pins s σ H _ I h) λ M N ⟨O,H1,n,r,q⟩=>⟨n.kIn,?_⟩) L j;exact J1u F y G hd J n r q
theorem J6m{pl:Sem Bool}(G:PE X o ta)(c:Cls X.K C)(y:Meth X.K C m f)(F:FnOk X.prog X.w X.K X.mg X.base CX k f fd ps sp)(J:Room k X.A)(L:Binds X.K fd ps ds)(hd:Vals dvs ds)(M:Z4Y CX X E)(ha:PA X (e::es) t)(i:starEach (e::es) X.env=(false,eval e X.env)::starEach es X.env:=by rfl)(j:(backTo pos (starEach es X.env)).any (·.1)=false:=by rfl)(N:eval (.Call (.Attribute o m apos) (e::es) [] pos) X.env=(do
   let z<-eval o X.env
   standAt apos.atName
   let(f,first)<-holding [z] (getMethod z m pl)
   callWith pos f first (backTo pos (starEach (e::es) X.env)) (backToKw pos (keywordEach [] X.env))):=by rfl):PE X (.Call (.Attribute o m apos) (e::es) [] pos) (J2m C m sp dvs E ta t):=by
 intro pins s σ H Q I h;refine W.methodCall_KW (pl:=pl) (thn (G pins s σ H _ I h) λ u O n=>?_) N;obtain⟨x,H1,B,R,a,dx,fs,ex,S,l,q⟩:=n;subst ex;obtain rfl:u=Value.ref a:=R;refine Z4i B S c y l ?_;refine W.callWith_K (first:=[.ref a]) (h₀:=X.base) I.ok.mod.kin y.kp (thn (ha pos pins O σ H1 _ B q) λ us Y ⟨vs,H2,D,r,U⟩=>⟨D.kIn,?_⟩) i j;exact J1u (us:=.ref a::us) (vs:=.ref a::vs) F J L hd M D (.cons rfl r) U
theorem J3M{pl:Sem Bool}(z:PE X o ta)(c:Cls X.K C)(n:Meth X.K C m f)(F:FnOk X.prog X.w X.K X.mg X.base CX k f fd ps sp)(B:Room k X.A)(D:Binds X.K fd ps ds)(hd:Vals dvs ds)(G:Z4Y CX X E)(J:eval (.Call (.Attribute o m apos) [] [] pos) X.env=(do
   let y<-eval o X.env
   standAt apos.atName
   let(f,first)<-holding [y] (getMethod y m pl)
   callWith pos f first (backTo pos (starEach [] X.env)) (backToKw pos (keywordEach [] X.env))):=by rfl):PE X (.Call (.Attribute o m apos) [] [] pos) (J2m C m sp dvs E ta tNil):=by
 intro pins s σ H Q I h;refine W.methodCall_KW (pl:=pl) (thn (z pins s σ H _ I h) λ u N i=>?_) J;obtain⟨x,H1,j,L,a,dx,fs,ex,M,l,q⟩:=i;subst ex;obtain rfl:u=Value.ref a:=L;refine Z4i j M c n l ?_;exact W.callWith_K0 (first:=[.ref a]) j.kIn n.kp (J1u (us:=[.ref a]) (vs:=[.ref a]) F B D hd G j (.cons rfl .nil) q)
structure Mk(K:X0)(C f:V0):Prop where
 makes:W.makesIn K C=true
 init:W.findIn K (.ref C) "__init__"=some (some (.ref f))
 fn:W.isFn K (.ref f)=true
 kp:W.keepIn K (.ref C)=true
theorem J3P{pins:List (V0×Obj)}{σ:St}{H:Hp}{s:M1}{Q:VK}{us:List V1}{vs:List V}(M:Mk X.K C f)(F:FnOk X.prog X.w X.K X.mg X.base CX k f fd ps sp)(hr:Room (k+1) X.A)(hb:Binds X.K fd ps ds)(hd:Vals dvs ds)(hx:Z4Y CX X E)(I:Inv X pins σ H s)(r:Vals vs us)(h:∀x dx,H x=none->H dx=none->dx≠x->sp (.ref x::(vs++dvs)) (upd (upd H dx (.own x)) x (.ins C dx [])) (λ v H2=>v=.non/\Q (.ref x) H2) E):wpAny (model X.prog X.w) X.A (call (.ref C) us) (EP X pins σ Q) X.xe s:=by
 have hq:=h (s.heap.objs.size+1) s.heap.objs.size (I.hok.fresh (qe1 _)) (I.hok.fresh (qa1 _)) (qb7 (qj2 _));have I2:=Inv.made (C:=C) I;have r2:Vals (V.ref (s.heap.objs.size+1)::(vs++dvs)) (Value.ref (s.heap.objs.size+1)::(us++ds)):=.cons rfl (r.append hd);have hl:(Value.ref (s.heap.objs.size+1)::us++ds).length=ps.length:=by
  have e:=r2.length;rw[F.len _ _ _ _ hq]at e;exact e.symm
 refine wpAny_call (J2X (f:=f) I.kIn M.makes M.init (beq_iff_eq.mp M.fn) (codeAny_mono (F.run _ X.stack _ _ ⟨Value.ref (s.heap.objs.size+1)::us,[]⟩ (Value.ref (s.heap.objs.size+1)::(us++ds)) _ _ E (hr.make C us []) (I2.env0.make C us []) (hb _ (Value.ref (s.heap.objs.size+1)::us) I2.kIn hl) r2 hq) λ r s' hq'=>?_));cases r with
 |error e=>exact hx pins σ _ _ e s' I2 hq'
 |ok fl=>
  cases fl with
  |ret u=>
   obtain⟨v,H',I3,rv,ev,q3⟩:=I2.after hq';subst ev;exact⟨rv,⟨V.ref (s.heap.objs.size+1),H',I3,rfl,q3⟩⟩
  |next=>exact False.elim hq'
  |brk=>exact False.elim hq'
  |cont=>exact False.elim hq'
theorem J5G(M:Mk X.K C f)(F:FnOk X.prog X.w X.K X.mg X.base CX k f fd ps sp)(y:Room (k+1) X.A)(z:Gl X x)(B:X.mg x=some (.ref C))(D:Binds X.K fd ps ds)(hd:Vals dvs ds)(G:Z4Y CX X E)(ha:PA X (e::es) t)(i:(x==("__debug__":V2))=false:=by decide)(J:starEach (e::es) X.env=(false,eval e X.env)::starEach es X.env:=by rfl)(j:(backTo pos (starEach es X.env)).any (·.1)=false:=by rfl):PE X (.Call (.Name x p) (e::es) [] pos) (J6b C sp dvs E t):=by
 intro pins s σ H Q I h;refine wpAny_Call_Name_kw (J1F I z B ?_ i);refine W.callWith_K (h₀:=X.base) I.ok.mod.kin M.kp (thn (ha pos pins s σ H _ I h) λ L N ⟨O,H1,n,r,q⟩=>⟨n.kIn,?_⟩) J j;exact J3P M F y D hd G n r q
end
def PK(X:Cx)(kws:List Keyword)(t:TA):Prop:=
 ∀(pos:Pos)(pins:List (V0×Obj))(s:M1)(σ:St)(H:Hp)(Q:List V->Hp->Prop),Inv X pins σ H s->t σ H Q->wpAny (model X.prog X.w) X.A (evalAll ((backToKw pos (keywordEach kws X.env)).map (·.2))) (AP X pins σ Q) X.xe s
section
variable{X:Cx}{CX:CXT}{k:Nat}{f C:V0}{fd:FuncData}{ps ks:List V2}{sp:Sp}{E:XK}{x m:V2}{p pos apos kpos:Pos}{e o:Expr}{es:List Expr}{kws:List Keyword}{te ta:TE}{t tk:TA}{nm:Option V2}
theorem J6W:PK X [] tNil:=λ _ _ _ _ H Q I h=>wpAny_evalAll_nil ⟨[],H,I,.nil,h⟩
theorem J6g(ha:PE X e te)(i:PK X kws t):PK X (⟨nm,e,kpos⟩::kws) (Z6j te t):=by
 intro pos pins s σ H Q I h;show wpAny _ _ (evalAll ((do let v<-eval e X.env;standAt pos;pure v)::(backToKw pos (keywordEach kws X.env)).map (·.2))) _ _ s;refine wpAny_evalAll_cons (wpAny_bind (thn (ha pins s σ H _ I h) λ u j ⟨x,H1,n,q,y⟩=>wpAny_bind (wpAny_standAt (wpAny_pure ?_))));exact thn (i pos pins j σ H1 _ n y) λ G J ⟨xs,H2,z,B,D⟩=>⟨x::xs,H2,z,.cons q B,D⟩
variable{g:List V1->List V1->List V1}{gV:List V->List V->List V}
end
structure Z0k(N P:List V2)(sc:Scope):Prop where
 kind:sc.kind=.function
 co:sc.isCoroutine=false
 gen:sc.isGenerator=false
 nd:N.Nodup
 pre:N.take P.length=P
 par:∀x∈P,sc.names.lookup x=some .local\/sc.names.lookup x=some .cell
 nofree:∀y∈sc.names,y.2≠.free
theorem Z7z{i:V2->Option NameKind}{x:V2}:∀{binds:List (V2×V1)}{m:V2->Option V1},(∀v,(x,v)∉binds)->bindL i binds m x=m x
 |[],_,_=>rfl
 |(n,v)::r,m,h=>by
  unfold bindL;rw[Z7z λ w j=>h w (qb1 _ j)];split
  ·have:x≠n:=by rintro rfl;exact h v qa9
   simp[this]
  ·rfl
theorem Z6I{i:V2->Option NameKind}{x:V2}:∀{binds:List (V2×V1)}{m:V2->Option V1},(∀v,(x,v)∉binds)->bindC i binds m x=m x
 |[],_,_=>rfl
 |(n,v)::r,m,h=>by
  unfold bindC;rw[Z6I λ w j=>h w (qb1 _ j)];split
  ·rfl
  ·have:x≠n:=by rintro rfl;exact h v qa9
   simp[this]
theorem Z7H{j:V2->Option NameKind}{x:V2}{v:V1}:∀{P:List V2}{n:List V1}{i:Nat}{m:V2->Option V1},P.Nodup->P[i]?=some x->n[i]?=some v->j x=some .local->bindL j (P.zip n) m x=some v
 |[],_,_,_,_,h,_,_=>by simp at h
 |_::_,[],_,_,_,_,h,_=>by simp at h
 |p::P,w::n,0,m,q,h1,h2,y=>by
  simp at h1 h2;subst h1;subst h2;show bindL j ((p,w)::P.zip n) m p=_;unfold bindL;rw[Z7z λ v z=>(qc4.mp q).1 (List.of_mem_zip z).1,if_pos y];simp
 |p::P,w::n,i+1,m,q,h1,h2,y=>by
  show bindL j ((p,w)::P.zip n) m x=_;unfold bindL;exact Z7H (i:=i) (qc4.mp q).2 (by simpa using h1) (by simpa using h2) y
theorem Z6X{j:V2->Option NameKind}{x:V2}{v:V1}:∀{P:List V2}{n:List V1}{i:Nat}{m:V2->Option V1},P.Nodup->P[i]?=some x->n[i]?=some v->j x≠some .local->bindC j (P.zip n) m x=some v
 |[],_,_,_,_,h,_,_=>by simp at h
 |_::_,[],_,_,_,_,h,_=>by simp at h
 |p::P,w::n,0,m,q,h1,h2,y=>by
  simp at h1 h2;subst h1;subst h2;show bindC j ((p,w)::P.zip n) m p=_;unfold bindC;rw[Z6I λ v z=>(qc4.mp q).1 (List.of_mem_zip z).1,if_neg y];simp
 |p::P,w::n,i+1,m,q,h1,h2,y=>by
  show bindC j ((p,w)::P.zip n) m x=_;unfold bindC;exact Z6X (i:=i) (qc4.mp q).2 (by simpa using h1) (by simpa using h2) y
def Z5m(N:List V2)(vs:List V):St:=vs.map some++qc8 (N.length-vs.length) none
def cxOf(CX:CXT)(P:Program)(w:M2)(K:X0)(mg:V2->Option V1)(base:V3)(N:List V2)(qual:V2)(scope:Scope)(f:V0)(cd:V1)(A:V4)(outer:List Env)(s:M1)(H:Hp)(E:XK):Cx where
 prog:=P
 w:=w
 K:=K
 mg:=mg
 base:=base
 A:=A.deeper (envOfC qual scope s.heap.objs.size f cd)
 N:=N
 s₀:=s
 H₀:=H
 env:=envOfC qual scope s.heap.objs.size f cd
 outer:=outer
 stack:=envOfC qual scope s.heap.objs.size f cd::outer
 ex:=[]
 calm:=true
 fn:=λ _=>true
 pn:=[]
 xe:=λ e s'=>wpAny (model P w) (A.deeper (envOfC qual scope s.heap.objs.size f cd)) (leaving (envOfC qual scope s.heap.objs.size f cd) e) (λ _ i=>CX outer H s E e i) (λ j i=>CX outer H s E j i) s'
theorem Z8G{sc:Scope}{n:Nat}{x:V2}(h:sc.names.lookup x=some .cell):∃c,(cellsFrom n sc.names []).lookup x=some c:=by
 have q:=W.cellsFrom_some sc.names n [] (.inl h);exact qm2.mp q
theorem J1D{CX:CXT}{P:Program}{w:M2}{K:X0}{mg:V2->Option V1}{base:V3}{N ps:List V2}{qual:V2}{scope:Scope}{f:V0}{J:V1}{A:V4}{outer:List Env}{s s1:M1}{H:Hp}{E:XK}{us:List V1}{vs:List V}(S:Z0k N ps scope)(hd:A.handled=none)(j:Env0 P w K mg base A outer s H)(U:vs.length=ps.length)(r:Vals vs us)(x:InCallC s s.heap.objs.size (bindL (envOfC qual scope s.heap.objs.size f J).kindOf (ps.zip us) λ _=>none) (cellsFrom (s.heap.objs.size+1) scope.names []) (bindC (envOfC qual scope s.heap.objs.size f J).kindOf (ps.zip us) λ _=>none) s1):Inv (cxOf CX P w K mg base N qual scope f J A outer s H E) [] (Z5m N vs) H s1:=by
 have O:ps.length<=N.length:=by have:=congrArg qd5 S.pre;rw[qb3]at this;omega
 obtain⟨h1,tk,rfl,L⟩:=x.done;have B:∀b:V0,b∉(cxOf CX P w K mg base N qual scope f J A outer s H E).ex:=λ b z=>absurd (show b∈([]:List V0)from z) (by simp);refine⟨⟨j.mod,S.kind,rfl,rfl,qa1 _,λ y z c h1 h2=>?_,λ y D=>?_,λ y c _ h=>?_,λ _=>hd,Around.frames_deeper j.frames,.inr ⟨rfl,rfl⟩,λ b z=>absurd z (B b),j.bs,j.bsz,λ b _ _=>B b,λ b z=>absurd z (B b),j.funs,j.frf⟩,rfl,j.bare,Un.kept L,⟨_,x.toInCall.ns,λ i y v h1 h2 Y=>?_⟩,λ y c h=>⟨_,x.cell y c h⟩,j.hok.fresh (qa1 _),λ y c h=>?_,λ p G=>absurd (show p∈([]:List (V0×Obj))from G) (by simp),j.hok.kept L,?_⟩
 ·exact name_of_addr x.apart (PySem.mem_of_lookup h1) (PySem.mem_of_lookup h2)
 ·have D:scope.names.lookup y=some .cell\/scope.names.lookup y=some .free:=D;rcases D with D|D
  ·exact Z8G D
  ·exact absurd rfl (S.nofree _ (PySem.mem_of_lookup D))
 ·exact qg4 (x.above y c (PySem.mem_of_lookup h))
 ·have hi:i<vs.length:=by
   unfold Z5m at h2;by_cases hi:i<vs.length
   ·exact hi
   ·rw[qh4 (by simpa using hi)]at h2;rw[List.getElem?_replicate]at h2;split at h2<;>cases h2
  have ha:vs[i]?=some v:=by
   unfold Z5m at h2;rw[qi2 (by simpa using hi),qa4]at h2;cases e:vs[i]? with
   |none=>rw[e]at h2;cases h2
   |some a=>rw[e]at h2;cases h2;rfl
  obtain⟨u,M,R⟩:=r.get ha;have G:ps[i]?=some y:=by
   rw[<-S.pre,qk6 qR];exact h1
  have I:ps.Nodup:=by rw[<-S.pre];exact S.nd.sublist (List.take_sublist _ _)
  refine⟨u,R,?_⟩;rcases S.par y (qb0 G)with k|k
  ·exact .inl ⟨k,Z7H I G M k⟩
  ·obtain⟨c,e⟩:=Z8G (n:=s.heap.objs.size+1) k;refine .inr ⟨.inl k,c,e,?_⟩;have q:=x.cell y c e;rw[Z6X I G M (by show scope.names.lookup y≠_;rw[k];decide)]at q;exact q
 ·exact j.hok.fresh (qg4 (x.above y c (PySem.mem_of_lookup h)))
 ·unfold Z5m;show _=N.length;rw[qa5,qa0,qm3];omega
theorem J8F{CX:CXT}{P:Program}{w:M2}{K:X0}{mg:V2->Option V1}{base:V3}{k:Nat}{f:V0}{name qual:V2}{params:Arguments}{body:List Stmt}{scope:Scope}{dV kV doc pm cdv ct oc:V1}{an od:Option V0}{osl:Array (Option V1)}{N ps:List V2}{sp:Sp}(lk:K.lookup f=some ⟨oc,od,.func (W.fnOf name qual params body scope dV kV doc pm an cdv ct),osl⟩)(hcd:W.codeIn K cdv qual=true)(S:Z0k N ps scope)(len:∀vs H Q E,sp vs H Q E->vs.length=ps.length)(hbody:∀(A:V4)(outer:List Env)(s:M1)(H:Hp)(vs:List V)(Q:VK)(E:XK),Room k (A.deeper (envOfC qual scope s.heap.objs.size f cdv))->sp vs H Q E->∃t,PSs (cxOf CX P w K mg base N qual scope f cdv A outer s H E) body t/\t {nx:=λ _ H'=>Q .non H',rt:=Q} (Z5m N vs) H):FnOk P w K mg base CX (k+1) f (W.fnOf name qual params body scope dV kV doc pm an cdv ct) ps sp:=by
 refine⟨len,λ A outer s H args us vs Q E hr e0 hb r hsp=>?_⟩;have hl:=len _ _ _ _ hsp;have KX:K.In s.heap:=e0.mod.kin.keeps λ b o e=>(e0.bs b o e).1;have lim:s.heap.NoLimit:=e0.mod.nolimit.keeps λ b o e=>(e0.bs b o e).1;have hkind:∀y∈ps.zip us,scope.names.lookup y.1=some .local\/(scope.names.lookup y.1=some .cell/\((cellsFrom (s.heap.objs.size+1) scope.names []).lookup y.1).isSome=true):=λ⟨n,v⟩ hy=>by
  rcases S.par n (List.of_mem_zip hy).1 with q|q
  ·exact .inl q
  ·exact .inr ⟨q,W.cellsFrom_some _ _ _ (.inl q)⟩
 refine codeAny_call_function hr.depth (KX _ _ lk) rfl S.co S.gen rfl (W.codeRec_of KX hcd) (hb _ _ _ _ ?_);refine wpAny_newFunctionEnv_cells S.kind hkind λ env he s1 x=>?_;subst he;refine⟨lim.keeps x.toInCall.keep,codeAny_func ?_⟩;obtain⟨t,ht,hq⟩:=hbody A outer s H vs Q E (hr.deeper _) hsp;have I:Inv (cxOf CX P w K mg base N qual scope f cdv A outer s H E) [] (Z5m N vs) H s1:=J1D S hr.hd e0 hl r x;refine wpAny_mono (ht [] s1 (Z5m N vs) H _ I hq) (λ fl s' hs=>?_) λ e s' hs=>hs;have fin:∀{σ':St}{H':Hp}{v:V}{u:V1},Inv (cxOf CX P w K mg base N qual scope f cdv A outer s H E) [] σ' H' s'->RelV v u->Q v H'->CE outer P w H s Q u s':=
  λ{σ' H' v u} J rv q=>⟨v,H',J.os,J.bare,J.base,J.hok,rv,q⟩
 cases fl with
 |ret u=>
  obtain⟨v,σ',H',J,rv,q⟩:=hs;exact fin J rv q
 |next=>
  obtain⟨σ',H',J,q⟩:=hs;exact fin (v:=V.non) (u:=Value.none) J rfl q
 |brk=>
  obtain⟨_,_,_,q⟩:=hs;exact False.elim q
 |cont=>
  obtain⟨_,_,_,q⟩:=hs;exact False.elim q
end L2
namespace L2
open PySem PySem.Spec PyProof.Rows
section
variable{X:Cx}{x:V2}{p pos:Pos}{e:Expr}{es:List Expr}{t:TA}{id T:String}{r:List V->Hp->VK->Prop}
def tCB(r:List V->Hp->VK->Prop)(t:TA):TE:=λ σ H Q=>t σ H λ i H1=>r i H1 Q
theorem Z1q(n:Z3p X (.builtin id) r)(q:Gl X x)(y:X.mg x=none)(z:bootBuiltins x=some (.builtin id))(ha:PA X (e::es) t)(B:x≠"__name__":=by decide)(i:(x==("__debug__":V2))=false:=by decide)(D:starEach (e::es) X.env=(false,eval e X.env)::starEach es X.env:=by rfl)(j:(backTo pos (starEach es X.env)).any (·.1)=false:=by rfl):PE X (.Call (.Name x p) (e::es) [] pos) (tCB r t):=by
 intro pins s σ H Q I h;refine wpAny_Call_Name_kw (Z4e I q y z ?_ B i);exact PyProof.Rows.callWith_builtin1 (thn (ha pos pins s σ H _ I h) λ G J ⟨L,H1,M,N,O⟩=>n pins J σ H1 L G Q M N O) D j
theorem Z0o(n:Z3p X (.type T) r)(q:Gl X x)(y:X.mg x=none)(z:bootBuiltins x=some (.type T))(ha:PA X (e::es) t)(B:x≠"__name__":=by decide)(i:(x==("__debug__":V2))=false:=by decide)(D:starEach (e::es) X.env=(false,eval e X.env)::starEach es X.env:=by rfl)(j:(backTo pos (starEach es X.env)).any (·.1)=false:=by rfl):PE X (.Call (.Name x p) (e::es) [] pos) (tCB r t):=by
 intro pins s σ H Q I h;refine wpAny_Call_Name_kw (Z4e I q y z ?_ B i);exact PyProof.Rows.callWith_type1 (thn (ha pos pins s σ H _ I h) λ G J ⟨L,H1,M,N,O⟩=>n pins J σ H1 L G Q M N O) D j
end
end L2
namespace HT
open PySem PyProof.Rows
section
open PySem.SeqAt
open PySem.AutoSeq1 (wpAny_loadPart')
open PySem.MeetsSeq PySem.MeetsSeq2 PySem.MeetsSeq3
end
section
variable{prog:Program}{w:M2}{A:V4}{E:V1->M1->Prop}{s:M1}
theorem cat_tup{t b:V0}{vs i:List V1}{Q:V1->M1->Prop}(S:IsTup s.heap t vs.toArray)(U:IsTup s.heap b i.toArray)(J:vs≠[])(h1:i=[]->Q (.ref t) s)(h2:i≠[]->Q (.ref s.heap.objs.size) {s with heap:=s.heap.push {cls:=.type "tuple",data:=.seq (vs++i).toArray}})(hsz:vs.length+i.length<=sizeLine):wpAny (model prog w) A (binaryOp .Add (.ref t) (.ref b)) Q E s:=by
 obtain⟨⟨cls,L,data,M⟩,D,N,n,hd⟩:=id S;obtain⟨⟨O,q,I,y⟩,j,z,R,B⟩:=id U;simp only at N hd z B;subst N hd z B;have e:vs.toArray++i.toArray=(vs++i).toArray:=by simp
 by_cases G:i=[]
 ·exact concat_meets ⟨_,D,rfl⟩ ⟨_,j,rfl⟩ noFill_tuple_add seq_tuple_add qm4 qm5 (qm6 _ _)
   (tuple_addW1 t b vs.toArray i.toArray n R L q M y (by simpa using J) (by simp[G])) ⟨D,j,h1 G⟩
 ·refine concat_meets ⟨_,D,rfl⟩ ⟨_,j,rfl⟩ noFill_tuple_add seq_tuple_add qm4 qm5 (qm6 _ _)
   (tuple_addW2 t b vs.toArray i.toArray n R L q M y (by simpa using J) (by simpa using G) (by rw[qb2,qb2];exact hsz)) ⟨D,j,?_⟩
  rw[e];exact h2 G
def sIx(n d:Nat):Option Int->Nat
 |none=>d
 |some v=>if v<0 then(v+(n:Int)).toNat else min v.toNat n
theorem sIx_none(n d:Nat):sIx n d none=d:=rfl
theorem sIx_nat(n d k:Nat):sIx n d (some (k:Int))=min k n:=by
 show(if(k:Int)<0 then((k:Int)+(n:Int)).toNat else min (k:Int).toNat n)=min k n;rw[if_neg qR,qh5]
theorem J7o(n d:Nat)(hd:d<=n)(o:Option Int):sIx n d o<=n:=by
 cases o with
 |none=>exact hd
 |some v=>
  show(if v<0 then(v+(n:Int)).toNat else min v.toNat n)<=n;by_cases i:v<0
  ·rw[if_pos i];omega
  ·rw[if_neg i];exact Nat.min_le_right _ _
theorem J1r(v:Int)(n d:Nat):(if v<0 then max (v+(n:Int)) 0 else min v (n:Int))=((sIx n d (some v):Nat):Int):=by
 show(if v<0 then max (v+(n:Int)) 0 else min v (n:Int))=(((if v<0 then(v+(n:Int)).toNat else min v.toNat n):Nat):Int);by_cases i:v<0
 ·simp only[if_pos i];omega
 ·simp only[if_neg i];omega
theorem J0f(lo hi:Option Int)(n:Nat):Builtin.Slice.sliceAdjust lo hi 1 (n:Int)=(((sIx n 0 lo:Nat):Int),((sIx n n hi:Nat):Int)):=by
 have h1:¬((1:Int)<0):=by omega
 unfold Builtin.Slice.sliceAdjust;simp only[h1,if_false];refine Prod.ext ?_ ?_
 ·cases lo with
  |none=>rfl
  |some v=>exact J1r v n 0
 ·cases hi with
  |none=>rfl
  |some v=>exact J1r v n n
theorem Z9U(i j:Nat):Builtin.Slice.slicePlaces (i:Int) (j:Int) 1=j-i:=by
 unfold Builtin.Slice.slicePlaces;have h1:(1:Int)>0:=by omega
 simp only[h1,if_true,Int.ediv_one];split<;>omega
theorem Z5C{v:V1}{o:Option Int}{Q:Option Int->M1->Prop}(p:IsPart v o)(h:Q o s):wpAny (model prog w) A (Builtin.Slice.slicePartIndex v) Q E s:=by
 cases p with
 |none=>exact slicePart_none h
 |int i t=>exact slicePart_int h
theorem Z3e{z:V0}{q y:V1}{lo hi:Option Int}{n:Nat}{Q:Int×Int×Nat->M1->Prop}(hs:s.heap.IsSliceOf z q y .none)(pl:IsPart q lo)(B:IsPart y hi)(h:Q (((sIx n 0 lo:Nat):Int),1,sIx n n hi-sIx n 0 lo) s):wpAny (model prog w) A (Builtin.Slice.sliceApplied (.ref z) (pure (n:Int))) Q E s:=by
 obtain⟨G,i,D,j⟩:=id hs;unfold Builtin.Slice.sliceApplied Builtin.Slice.sliceFields;refine wpAny_bind (wpAny_bind (wpAny_field i j (x:=q) rfl (wpAny_bind (wpAny_field i j (x:=y) rfl (wpAny_bind (wpAny_field i j (x:=.none) rfl (wpAny_pure ?_)))))));refine wpAny_bind (slicePart_none ?_);show wpAny _ _ (if((1:Int)==0)=true then _ else _) _ _ s;rw[if_neg qQ];refine wpAny_bind (Z5C pl (wpAny_bind (Z5C B (wpAny_bind (wpAny_pure ?_)))));show wpAny _ _ (match Builtin.Slice.sliceAdjust lo hi 1 (n:Int)with|(lo,hi)=>pure (lo,(1:Int),Builtin.Slice.slicePlaces lo hi 1)) _ _ s;rw[J0f lo hi n];show wpAny _ _ (pure (((sIx n 0 lo:Nat):Int),(1:Int),Builtin.Slice.slicePlaces ((sIx n 0 lo:Nat):Int) ((sIx n n hi:Nat):Int) 1)) _ _ s;rw[Z9U];exact wpAny_pure h
theorem J3J(xs:Array V1)(i k:Nat):((qd2 k).filterMap λ(m:Nat)=>xs[((i:Int)+(m:Int)*1).toNat]?).toArray=((xs.toList.drop i).take k).toArray:=by
 have e:(λ(m:Nat)=>xs[((i:Int)+(m:Int)*1).toNat]?)=λ m=>xs[i+m]?:=by
  funext m;have:((i:Int)+(m:Int)*1).toNat=i+m:=by omega
  rw[this]
 rw[e];have:=pick_run xs i k;rw[List.filterMap_map]at this;have j:((λ x=>xs[x]?)∘λ x=>i+x)=λ m=>xs[i+m]?:=rfl;rw[j]at this;rw[this]
theorem getItem_tuple_cut{t n:V0}{items:Array V1}{G I:V1}{lo hi:Option Int}{Q:V1->M1->Prop}(j:IsTup s.heap t items)(hs:s.heap.IsSliceOf n G I .none)(pl:IsPart G lo)(J:IsPart I hi)(L:¬(sIx items.size 0 lo=0/\sIx items.size items.size hi=items.size))(h:Q (.ref s.heap.objs.size) {s with heap:=s.heap.push {cls:=.type "tuple",data:=.seq ((items.toList.drop (sIx items.size 0 lo)).take (sIx items.size items.size hi-sIx items.size 0 lo)).toArray}})(hsz:items.size<=sizeLine):wpAny (model prog w) A (getItem (.ref t) (.ref n)) Q E s:=by
 have i:sizeOk (.seq ((items.toList.drop (sIx items.size 0 lo)).take (sIx items.size items.size hi-sIx items.size 0 lo)).toArray):=by
  show((items.toList.drop (sIx items.size 0 lo)).take (sIx items.size items.size hi-sIx items.size 0 lo)).toArray.size<=sizeLine;rw[qb2,qb3,qg5,qf4];omega
 have O:sIx items.size items.size hi<=items.size:=J7o _ _ (qa1 _) hi;obtain⟨M,y,z,N⟩:=id hs;have B:s.TypeIs (.ref n) "slice":=⟨M,y,z⟩;unfold getItem;try with_reducible refine wpAny_holding ?_
 first|refine wpAny_bind (wpAny_pure ?_)|skip
 refine wpAny_bind (wpAny_sequenceKey j.typeIs qQ ?_);refine wpAny_bind (wpAny_callSpecial?_slot (name:=Str.ofString "__getitem__") j.typeIs PyProof.Rows.slot_tuple_getitem (wpAny_call_entry PyProof.Rows.slot_tuple_getitem j.typeIs entry_tuple_getitem ?_ (args_tuple_getitem _ _)));show wpAny _ _ (Builtin.Tuple.tupleItemsOf (.ref t)>>=_) _ _ s;refine wpAny_bind (tupleItemsOf_ j ?_);refine wpAny_bind (wpAny_typeOf B ?_);rw[if_pos qQ];refine wpAny_bind (Z3e hs pl J ?_);have D:¬((((sIx items.size 0 lo:Nat):Int)==0&&(1:Int)==1&&(sIx items.size items.size hi-sIx items.size 0 lo)==items.size)=true):=by
  intro q;rw[qh6,qh6]at q;have R:((sIx items.size 0 lo:Nat):Int)=0:=eq_of_beq q.1.1;have S:sIx items.size items.size hi-sIx items.size 0 lo=items.size:=eq_of_beq q.2;exact L ⟨qR,qR⟩
 show wpAny _ _ (if (((sIx items.size 0 lo:Nat):Int) == 0&&(1:Int) == 1&&(sIx items.size items.size hi - sIx items.size 0 lo) == items.size)=true then _ else _) _ _ s;rw [if_neg D,J3J];first
  |exact wpAny_bind (m:=Builtin.Tuple.tupleExact _) (wpAny_newObj_type (wpAny_pure ⟨_,rfl,wpAny_pure h⟩) i)
  |exact wpAny_bind (m:=Builtin.Tuple.tupleExact _) (wpAny_newObj_type (wpAny_bind (wpAny_pure (wpAny_pure ⟨_,rfl,wpAny_pure h⟩))) i)
  |exact wpAny_bind (wpAny_bind (m:=Builtin.Tuple.tupleExact _) (wpAny_newObj_type (wpAny_pure (wpAny_pure ⟨_,rfl,wpAny_pure h⟩)) i))
  |exact wpAny_bind (wpAny_bind (m:=Builtin.Tuple.tupleExact _) (wpAny_newObj_type (wpAny_pure ⟨_,rfl,wpAny_pure h⟩) i))
end
end HT
namespace L2
open PySem PySem.Spec PyProof.Rows
abbrev TO:=St->Hp->(Option Int->Hp->Prop)->Prop
def PO(X:Cx)(e:Option Expr)(t:TO):Prop:=
 ∀(pins:List (V0×Obj))(s:M1)(σ:St)(H:Hp)(Q:Option Int->Hp->Prop),Inv X pins σ H s->t σ H Q->
  wpAny (model X.prog X.w) X.A (evalPart e X.env) (λ u s'=>∃o H',Inv X pins σ H' s'/\IsPart u o/\Q o H') X.xe s
def J2c:TO:=λ _ H Q=>Q none H
def J7P(t:TE):TO:=λ σ H Q=>t σ H λ x H1=>∃i,x=.int i/\Q (some i) H1
section
variable{X:Cx}{e:Expr}{te:TE}{lo hi:Option Expr}{tl th:TO}{pos p2:Pos}
theorem Z2c:PO X none J2c:=by
 intro pins s σ H Q I h;rw[evalPart_none];exact wpAny_pure ⟨none,H,I,.none,h⟩
theorem Z0G(h:PE X e te):PO X (some e) (J7P te):=by
 intro pins s σ H Q I j;rw[evalPart_some];refine thn (h pins s σ H _ I j) λ u B ⟨x,H1,n,y,z⟩=>?_;obtain⟨i,rfl,q⟩:=z;obtain⟨t,rfl⟩:=y;exact⟨some i,H1,n,.int i t,q⟩
def SlR(X:Cx)(r:V->Option Int->Option Int->Hp->VK->Prop):Prop:=
 ∀(pins:List (V0×Obj))(s:M1)(σ:St)(H:Hp)(x:V)(v i j:V1)(lo hi:Option Int)(n:V0)(Q:VK),Inv X pins σ H s->RelV x v->s.heap.IsSliceOf n i j .none->IsPart i lo->IsPart j hi->r x lo hi H Q->
  ∃T id,typeLookup (.type T) "__getitem__"=pure (some (.builtin id))/\s.TypeIs v T/\wpAny (model X.prog X.w) X.A (getItem v (.ref n)) (EP X pins σ Q) X.xe s
def tSl(r:V->Option Int->Option Int->Hp->VK->Prop)(te:TE)(tl th:TO):TE:=λ σ H Q=>te σ H λ x H1=>tl σ H1 λ l H2=>th σ H2 λ u i=>r x l u i Q
theorem Z0L{r:V->Option Int->Option Int->Hp->VK->Prop}(z:SlR X r)(B:PE X e te)(D:PO X lo tl)(G:PO X hi th):PE X (.Subscript e (.Slice lo hi none p2) pos) (tSl r te tl th):=by
 intro pins s σ H Q I h;refine Subscript_ (thn (B pins s σ H _ I h) λ v J ⟨x,H1,L,M,N⟩=>?_);refine wpAny_Slice (thn (D pins J σ H1 _ L N) λ j O ⟨l,H2,R,S,U⟩=>thn (G pins O σ H2 _ R U) λ n i ⟨u,y,Y,Z,q3⟩=>?_);rw[evalPart_none];refine wpAny_pure ?_;have I4:Inv X pins σ y {i with heap:=i.heap.push {cls:=.type "slice",data:=.fields #[j,n,.none]}}:=Y.kept (t':=i.toks) λ b ob q=>Heap.get?_push_of_some _ q;obtain⟨T,id,hT,ht,hg⟩:=z pins {i with heap:=i.heap.push {cls:=.type "slice",data:=.fields #[j,n,.none]}} σ y x v j n l u i.heap.objs.size Q I4 M (Heap.IsSliceOf.new ..) S Z q3;show wpAny (model X.prog X.w) X.A (subscriptTail e (.Slice lo hi none p2) v (.ref i.heap.objs.size)) (EP X pins σ Q) X.xe {i with heap:=i.heap.push {cls:=.type "slice",data:=.fields #[j,n,.none]}};exact tail_any (ops:=[.ref i.heap.objs.size,v]) ht hT hg (by with_unfolding_all rfl)
def cutV(xs:List V)(lo hi:Option Int):List V:=(xs.drop (HT.sIx xs.length 0 lo)).take (HT.sIx xs.length xs.length hi-HT.sIx xs.length 0 lo)
theorem Z2X(xs:List V)(lo hi:Option Int):(cutV xs lo hi).length<=xs.length:=by
 unfold cutV;rw[qb3,qg5];omega
def rSlT(K:X0):V->Option Int->Option Int->Hp->VK->Prop:=λ x lo hi H Q=>∃a xs,x=.ref a/\SqT K H a xs/\
 ¬(HT.sIx xs.length 0 lo=0/\HT.sIx xs.length xs.length hi=xs.length)/\∀p,H p=none->Q (.ref p) (upd H p (.tup (cutV xs lo hi)))
theorem J6M:SlR X (rSlT X.K):=by
 intro pins s σ H x v M N lo hi O Q I z B D G h;obtain⟨a,xs,rfl,J,L,q⟩:=h;cases z;obtain⟨j,r,n,y⟩:=I.tuple J;have i:j.toArray.size=xs.length:=by rw[qb2];exact r.length.symm
 refine⟨"tuple",_,PyProof.Rows.slot_tuple_getitem.lookup,n.typeIs,?_⟩;refine HT.getItem_tuple_cut n B D G (by rw[i];exact L) ?_ (by rw[i];exact y);rw[i];refine⟨.ref s.heap.objs.size,_,I.laid (t':=s.toks) (o:=.tup (cutV xs lo hi)) (λ b R q=>Heap.get?_push_of_some _ q) (qa1 _) ?_,rfl,q _ (I.hok.fresh (qa1 _))⟩;exact⟨⟨qb9 (Z2X xs lo hi) y,Z9D⟩,_,(r.drop (HT.sIx xs.length 0 lo)).take (HT.sIx xs.length xs.length hi-HT.sIx xs.length 0 lo),IsTup.new _ _⟩
def J6Z(K:X0):R2:=λ x y H Q=>∃a b xs ys,x=.ref a/\y=.ref b/\SqT K H a xs/\SqT K H b ys/\xs≠[]/\xs.length+ys.length<=sizeLine/\
 (ys=[]->Q (.ref a) H)/\(ys≠[]->∀p,H p=none->Q (.ref p) (upd H p (.tup (xs++ys))))
theorem Vals.nil_iff{xs:List V}{us:List V1}(r:Vals xs us):us=[]↔xs=[]:=by
 cases r with
 |nil=>simp
 |cons _ _=>simp
theorem J5X:OpR X (binaryOp .Add) (J6Z X.K):=by
 intro pins s σ H x y v u Q I D G h;obtain⟨a,b,xs,ys,rfl,rfl,ha,J,L,n,M,N⟩:=h;cases D;cases G;obtain⟨O,j,R,_⟩:=I.tuple ha;obtain⟨B,i,p2,_⟩:=I.tuple J;refine HT.cat_tup R p2 (λ z=>L (j.nil_iff.mp z)) (λ z=>⟨.ref a,H,I,rfl,M (i.nil_iff.mp z)⟩) (λ z=>?_) (by rw[<-j.length,<-i.length];exact n);refine⟨.ref s.heap.objs.size,_,I.laid (t':=s.toks) (o:=.tup (xs++ys)) (λ b S q=>Heap.get?_push_of_some _ q) (qa1 _) ?_,rfl,N (λ w=>z (i.nil_iff.mpr w)) _ (I.hok.fresh (qa1 _))⟩;exact⟨⟨by rw[qa5];exact n,Z9D⟩,_,j.append i,IsTup.new _ _⟩
end
end L2
namespace L2
open PySem PySem.Spec PyProof.Rows
def ixN(n:Nat)(i:Int):Option Nat:=if 0<=i then(if i<n then some i.toNat else none)else if -(n:Int)<=i then some (i+n).toNat else none
def atI{α:Type}(xs:List α)(i:Int):Option α:=(ixN xs.length i).bind λ j=>xs[j]?
theorem J2b{n:Nat}{i:Int}{j:Nat}(h:ixN n i=some j):seqIndex? i n=some j/\j<n/\-(n:Int)<=i/\i<n:=by
 unfold ixN at h;by_cases q:0<=i
 ·rw[if_pos q]at h;by_cases h1:i<n
  ·rw[if_pos h1]at h;have e:i.toNat=j:=qc5 h;exact⟨by rw[seqIndex_of q h1,e],qR,qR,h1⟩
  ·rw[if_neg h1]at h;cases h
 ·rw[if_neg q]at h;by_cases h1:-(n:Int)<=i
  ·rw[if_pos h1]at h;have e:(i+n).toNat=j:=qc5 h;exact⟨by rw[seqIndex_neg qR h1,e],qR,h1,qR⟩
  ·rw[if_neg h1]at h;cases h
theorem Z8g{n:Type}{xs:List n}{i:Int}{v:n}(h:atI xs i=some v):∃j,seqIndex? i xs.length=some j/\xs[j]?=some v/\j<xs.length/\-(xs.length:Int)<=i/\i<xs.length:=by
 unfold atI at h;cases e:ixN xs.length i with
 |none=>rw[e]at h;cases h
 |some j=>
  rw[e]at h;obtain⟨h1,h2,q,y⟩:=J2b e;exact⟨j,h1,h,h2,q,y⟩
theorem Z1w{i:Type}{xs:List i}{j:Nat}{v:i}(h:xs[j]?=some v):atI xs (j:Int)=some v:=by
 have n:j<xs.length:=(qa7.mp h).1;have e:ixN xs.length (j:Int)=some j:=by
  unfold ixN;rw[if_pos qR,if_pos qR];simp
 unfold atI;rw[e];exact h
def Z8x(b:Expr):Prop:=∀o i,subscripted b false o i=operate [o,i] (getItem o i)
def IxR(X:Cx)(r:R2):Prop:=
 ∀(value i:Expr)(pins:List (V0×Obj))(s:M1)(σ:St)(H:Hp)(x y:V)(v u:V1)(Q:VK),Inv X pins σ H s->RelV x v->RelV y u->r x y H Q->
  subscripted i false v u=operate [v,u] (getItem v u)->wpAny (model X.prog X.w) X.A (subscriptTail value i v u) (EP X pins σ Q) X.xe s
def MtR(X:Cx)(id:String)(r:V->List V->Hp->VK->Prop):Prop:=
 ∀(pins:List (V0×Obj))(s:M1)(σ:St)(H:Hp)(x:V)(xs:List V)(v:V1)(i:List V1)(Q:VK),Inv X pins σ H s->RelV x v->Vals xs i->r x xs H Q->
  wpAny (model X.prog X.w) X.A (call (.builtin id) (v::i)) (EP X pins σ Q) X.xe s
section
variable{X:Cx}{a b:Expr}{ta tb:TE}{pos:Pos}
theorem Z8A{r:R2}(i:IxR X r)(ha:PE X a ta)(j:PE X b tb)(hs:Z8x b):PE X (.Subscript a b pos) (tOp r ta tb):=by
 intro pins s σ H Q I h;exact Subscript_ (binT ha j I h λ v u n x y H2 z B D q=>i a b pins n σ H2 x y v u Q z B D q (hs _ _))
def rIxL(K:X0):R2:=λ x y H Q=>∃p xs i v,x=.ref p/\y=.int i/\SqL K H p xs/\atI xs i=some v/\Q v H
def rIxT(K:X0):R2:=λ x y H Q=>∃p xs i v,x=.ref p/\y=.int i/\SqT K H p xs/\atI xs i=some v/\Q v H
def rIxS:R2:=λ x y H Q=>∃z i c,x=.str z/\y=.int i/\z.length<=sizeLine/\atI z.cps.toList i=some c/\Q (.str ⟨#[c]⟩) H
theorem J5V:IxR X (rIxL X.K):=by
 intro value n pins s σ H x y v u Q I O R h L;obtain⟨p,xs,i,z,rfl,rfl,S,U,q⟩:=h;cases O;obtain⟨t,rfl⟩:=R;obtain⟨B,r,D,hz⟩:=I.list S;obtain⟨j,h1,h2,h3,Y,Z⟩:=Z8g U;obtain⟨w,M,G⟩:=r.get h2;have hl:=r.length;have hn:=Z4P;have fin:EP X pins σ Q w s:=⟨z,H,I,G,q⟩;by_cases N:0<=i
 ·have J:i.toNat=j:=by
   rw[seqIndex_of N Z]at h1;exact qc5 h1
  exact item_listR D.isList N qR (by rw[J];simpa using M) fin L
 ·have J:(i+(B.toArray.size:Int)).toNat=j:=by
   rw[seqIndex_neg qR Y]at h1;rw[qb2,<-hl];exact qc5 h1
  exact subscriptTail_builtinR (x:=w) D.isList.typeIs slot_list_getitem.lookup
   (wpAny_getItem_list_neg (Q:=λ r s'=>r=w/\EP X pins σ Q r s') D.isList qR (by rw[qb2]<;>omega) qR (by rw[J];simpa using M) ⟨rfl,fin⟩) L
theorem J7G:IxR X (rIxT X.K):=by
 intro value n pins s σ H x y v u Q I G J h L;obtain ⟨p,xs,i,z,rfl,rfl,M,N,q⟩:=h;cases G;obtain ⟨t,rfl⟩:=J;obtain ⟨O,r,D,U⟩:=I.tuple M;obtain ⟨j,h1,h2,Y,Z,h5⟩:=Z8g N;obtain ⟨w,R,B⟩:=r.get h2;have S:=r.length;have hn:=Z4P;have fin:EP X pins σ Q w s:=⟨z,H,I,B,q⟩;exact subscriptTail_builtinR (x:=w) D.typeIs slot_tuple_getitem.lookup
  (getItem_tuple (j:=j) (Q:=λ r s'=>r=w/\EP X pins σ Q r s') D qR qR (by rw[qb2,<-S];exact h1) (by simpa using R) ⟨rfl,fin⟩) L
theorem Z8Q:IxR X rIxS:=by
 intro value n pins s σ H x y v u Q I B D h G;obtain⟨z,i,c,rfl,rfl,S,J,q⟩:=h;obtain⟨t,rfl⟩:=B;obtain⟨U,rfl⟩:=D;obtain⟨j,h1,h2,Y,L,M⟩:=Z8g J;have N:z.cps.toList.length=z.length:=by simp[Str.length]
 rw[N]at h1 L M;have Z:=Z4P;exact tail_any (typeIs_str s z t) slot_str_getitem.lookup (getItem_str (c:=c) (by
  have O:decide (i< -(2^63:Int))=false:=decide_eq_false qR;have R:decide (i>=2^63)=false:=decide_eq_false qR;rw[O,R,Bool.or_false]) (by rw[h1];simpa using h2) ⟨.str ⟨#[c]⟩,H,I.tok _,⟨_,rfl⟩,q⟩) G
theorem J0d(its:List V1)(n j:Nat)(u:V1):Obj.mapSeq (·.setIfInBounds j u) {cls:=.type "list",data:=.seq its.toArray n}={cls:=.type "list",data:=.seq (its.set j u).toArray n}:=by
 simp[Obj.mapSeq]
theorem Inv.lst{pins:List (V0×Obj)}{σ:St}{H:Hp}{s:M1}{p:V0}{xs:List V}(I:Inv X pins σ H s)(h:H p=some (.lst xs)):∃(i:List V1)(n:Nat),Vals xs i/\s.heap.get? p=some {cls:=.type "list",data:=.seq i.toArray n}/\xs.length<=sizeLine:=by
 obtain⟨z,i,n,r,e⟩:=I.hok p _ h;exact⟨i,n,r,e,z⟩
theorem Inv.lstUpd{pins:List (V0×Obj)}{σ:St}{H:Hp}{s:M1}{p:V0}{xs ys:List V}{its its':List V1}{n i:Nat}{f:Obj->Obj}(I:Inv X pins σ H s)(h:H p=some (.lst xs))(y:s.heap.get? p=some {cls:=.type "list",data:=.seq its.toArray n})(j:f {cls:=.type "list",data:=.seq its.toArray n}={cls:=.type "list",data:=.seq its'.toArray i})(r:Vals ys its')(hz:ys.length<=sizeLine)(t:Nat):Inv X pins σ (upd H p (.lst ys)) {s with heap:=s.heap.update p f,toks:=t}:=by
 have e:(s.heap.update p f).get? p=some {cls:=.type "list",data:=.seq its'.toArray i}:=by
  rw[Heap.get?_update_self f y (by rw[j]<;>rfl),j]
 refine I.write (x:=p) (e:=p) (by rw[h];trivial) (.inl rfl) (λ b u z q=>(Heap.get?_update_other _ _ (Ne.symm z)).trans q) ⟨_,e⟩ ?_;exact⟨hz,its',i,r,e⟩
def J6E:V->V->V->Hp->(Hp->Prop)->Prop:=λ o i v H Q=>∃p xs k j,o=.ref p/\i=.int k/\H p=some (.lst xs)/\ixN xs.length k=some j/\Q (upd H p (.lst (xs.set j v)))
theorem J4q:PSet X J6E:=by
 intro pins s σ H o i v Z iv u Q I O R S h;obtain⟨p,xs,k,j,rfl,rfl,G,U,q⟩:=h;cases O;obtain⟨t,rfl⟩:=R;obtain⟨y,n,r,z,Y⟩:=I.lst G;obtain⟨h1,h2,J,L⟩:=J2b U;have B:=r.length;have hn:=Z4P;have M:Inv X pins σ (upd H p (.lst (xs.set j v))) {s with heap:=s.heap.update p (Obj.mapSeq (·.setIfInBounds j u))}:=
  I.lstUpd G z (J0d y n j u) (r.set S j) (by rw[qj3];exact Y) s.toks
 by_cases N:0<=k
 ·have D:k.toNat=j:=by
   rw[seqIndex_of N L]at h1;exact qc5 h1
  exact W.ki_setAt z N qR (by rw[qb2,<-B];exact L) (by rw[D];exact⟨_,M,q⟩)
 ·have D:(k+(y.toArray.size:Int)).toNat=j:=by
   rw[seqIndex_neg qR J]at h1;rw[qb2,<-B];exact qc5 h1
  exact W.ki_setBack z qR (by rw[qb2,<-B];exact J) qR (by rw[D];exact⟨_,M,q⟩)
theorem Z6T(lo hi:Option Int)(n:Nat):(sliceBounds lo hi none n).1=((HT.sIx n 0 lo:Nat):Int)/\(sliceBounds lo hi none n).2.1=((HT.sIx n n hi:Nat):Int)/\(sliceBounds lo hi none n).2.2=1:=by
 refine⟨?_,?_,rfl⟩
 ·cases lo with
  |none=>simp[sliceBounds,HT.sIx]
  |some i=>
   simp only[sliceBounds,HT.sIx,Option.getD_none,show(1:Int)>0 by decide,if_true];by_cases h:i<0
   ·simp only[h,if_true]<;>omega
   ·simp only[h,if_false]<;>omega
 ·cases hi with
  |none=>simp[sliceBounds,HT.sIx]
  |some i=>
   simp only[sliceBounds,HT.sIx,Option.getD_none,show(1:Int)>0 by decide,if_true];by_cases h:i<0
   ·simp only[h,if_true]<;>omega
   ·simp only[h,if_false]<;>omega
theorem Z5X(its:List V1)(lo hi:Option Int):slicePick its.toArray lo hi none=((its.drop (HT.sIx its.length 0 lo)).take (HT.sIx its.length its.length hi-HT.sIx its.length 0 lo)).toArray:=by
 obtain⟨h1,h2,i⟩:=Z6T lo hi its.toArray.size;unfold slicePick;rw[h1,h2,i];simp only[sliceRange_one,pick_run,qb2]<;>rfl
def rSlL(K:X0):V->Option Int->Option Int->Hp->VK->Prop:=λ x lo hi H Q=>∃a xs,x=.ref a/\SqL K H a xs/\∀p,H p=none->Q (.ref p) (upd H p (.lst (cutV xs lo hi)))
theorem Z1B:SlR X (rSlL X.K):=by
 intro pins s σ H x v L M lo hi N Q I n y z B h;obtain⟨a,xs,rfl,D,q⟩:=h;cases n;obtain⟨G,r,j,J⟩:=I.list D;have i:=r.length;refine⟨"list",_,slot_list_getitem.lookup,j.isList.typeIs,?_⟩;refine wpAny_getItem_list_slice j.isList y z B .none (by simp) ?_ (by rw[qb2]<;>omega);rw[Z5X,<-i];refine⟨.ref s.heap.objs.size,_,I.laid (t':=s.toks) (o:=.lst (cutV xs lo hi)) (λ b O q=>Heap.get?_push_of_some _ q) (qa1 _) ?_,rfl,q _ (I.hok.fresh (qa1 _))⟩;exact⟨qb9 (Z2X xs lo hi) J,_,0,(r.drop (HT.sIx xs.length 0 lo)).take (HT.sIx xs.length xs.length hi-HT.sIx xs.length 0 lo),Heap.get?_push_size _ rfl⟩
def Z4p:V->Bool
 | .non=>true
 | .bl _=>true
 | .int _=>true
 | .str _=>true
 |_=>false
def eqV:V->V->Bool
 | .non,.non=>true
 | .bl a,.bl b=>a==b
 | .bl a,.int b=>(if a then 1 else 0)==b
 | .int a,.bl b=>a==(if b then 1 else 0)
 | .int a,.int b=>a==b
 | .str a,.str b=>a==b
 |_,_=>false
theorem J7w{A:V4}{s:M1}{y x:V}{u v:V1}(n:RelV y u)(i:RelV x v)(z:Z4p y=true)(q:Z4p x=true):SeqAt.EqAt A s u v (eqV y x):=by
 cases y with
 |non=>
  cases n;cases x with
  |non=>cases i;exact SeqAt.EqAt.same _
  |bl b=>cases i;exact SeqAt.EqAt.none_bool b
  |int b=>obtain⟨t,rfl⟩:=i;exact SeqAt.EqAt.none_int b t
  |str b=>obtain⟨t,rfl⟩:=i;exact SeqAt.EqAt.none_str b t
  |_=>exact absurd (show false=true from q) qc0
 |bl a=>
  cases n;cases x with
  |non=>cases i;exact SeqAt.EqAt.bool_none a
  |bl b=>cases i;exact SeqAt.EqAt.bool_bool a b
  |int b=>obtain⟨t,rfl⟩:=i;exact SeqAt.EqAt.bool_int a b t
  |str b=>obtain⟨t,rfl⟩:=i;exact SeqAt.EqAt.bool_str a b t
  |_=>exact absurd (show false=true from q) qc0
 |int a=>
  obtain⟨j,rfl⟩:=n;cases x with
  |non=>cases i;exact SeqAt.EqAt.int_none a j
  |bl b=>cases i;exact SeqAt.EqAt.int_bool a j b
  |int b=>obtain⟨t,rfl⟩:=i;exact SeqAt.EqAt.int_int a j b t
  |str b=>obtain⟨t,rfl⟩:=i;exact SeqAt.EqAt.int_str a j b t
  |_=>exact absurd (show false=true from q) qc0
 |str a=>
  obtain⟨j,rfl⟩:=n;cases x with
  |non=>cases i;exact SeqAt.EqAt.str_none a j
  |bl b=>cases i;exact SeqAt.EqAt.str_bool a j b
  |int b=>obtain⟨t,rfl⟩:=i;exact SeqAt.EqAt.str_int a j b t
  |str b=>obtain⟨t,rfl⟩:=i;exact SeqAt.EqAt.str_str a j b t
  |_=>exact absurd (show false=true from q) qc0
 |_=>exact absurd (show false=true from z) qc0
def eqU(x:V)(u:V1):Bool:=match u with
 | .none=>eqV .non x
 | .bool b=>eqV (.bl b) x
 | .int i _=>eqV (.int i) x
 | .str z _=>eqV (.str z) x
 |_=>false
theorem J1o{x y:V}{u:V1}(r:RelV y u)(f:Z4p y=true):eqU x u=eqV y x:=by
 cases y with
 |non=>cases r;rfl
 |bl b=>cases r;rfl
 |int i=>obtain⟨t,rfl⟩:=r;rfl
 |str z=>obtain⟨t,rfl⟩:=r;rfl
 |_=>exact absurd (show false=true from f) qc0
theorem Z5h{x:V}:∀{xs:List V}{i:List V1},Vals xs i->xs.all Z4p=true->i.any (eqU x)=xs.any λ y=>eqV y x
 |_,_,.nil,_=>rfl
 |y::xs,u::i,.cons r t,f=>by
  rw[qj4,qh6]at f;rw[qh7,qh7,J1o r f.1,Z5h t f.2]
theorem Z3D{A:V4}{s:M1}{x:V}{v:V1}(n:RelV x v)(q:Z4p x=true):∀{xs:List V}{j:List V1},Vals xs j->xs.all Z4p=true->∀u∈j,SeqAt.EqAt A s u v (eqU x u)
 |_,_,.nil,_=>λ u i=>by cases i
 |y::xs,u::j,.cons r t,f=>λ z i=>by
  rw[qj4,qh6]at f;rcases qa2.mp i with rfl|i
  ·rw[J1o r f.1];exact J7w r n f.1 q
  ·exact Z3D n q t f.2 z i
def inV(x:V)(xs:List V):Bool:=xs.any λ y=>eqV y x
def rIn(K:X0)(neg:Bool):R2:=λ x y H Q=>∃p xs,y=.ref p/\(SqL K H p xs\/SqT K H p xs)/\Z4p x=true/\xs.all Z4p=true/\Q (.bl (if neg then !inV x xs else inV x xs)) H
theorem Z0C:OpR X (compareOp .In) (rIn X.K false):=by
 intro pins s σ H x y v u Q I B G h;obtain⟨p,xs,rfl,j,D,fs,q⟩:=h;cases G;rcases j with j|j
 ·obtain⟨i,r,n,J⟩:=I.list j;refine SeqAt.in_listAt (eqU x) n.isList (λ w z=>Z3D B D r fs w (by simpa using z)) ⟨.bl _,H,I,rfl,?_⟩;rw[show i.toArray.any (eqU x)=i.any (eqU x)by simp,Z5h r fs];exact q
 ·obtain⟨i,r,n,J⟩:=I.tuple j;refine SeqAt.in_tupleAt (eqU x) n (λ w z=>Z3D B D r fs w (by simpa using z)) ⟨.bl _,H,I,rfl,?_⟩;rw[show i.toArray.any (eqU x)=i.any (eqU x)by simp,Z5h r fs];exact q
theorem Z3h:OpR X (compareOp .NotIn) (rIn X.K true):=by
 intro pins s σ H x y v u Q I B G h;obtain⟨p,xs,rfl,j,D,fs,q⟩:=h;cases G;rcases j with j|j
 ·obtain⟨i,r,n,J⟩:=I.list j;refine SeqAt.notIn_listAt (eqU x) n.isList (λ w z=>Z3D B D r fs w (by simpa using z)) ⟨.bl _,H,I,rfl,?_⟩;rw[show i.toArray.any (eqU x)=i.any (eqU x)by simp,Z5h r fs];exact q
 ·obtain⟨i,r,n,J⟩:=I.tuple j;refine SeqAt.notIn_tupleAt (eqU x) n (λ w z=>Z3D B D r fs w (by simpa using z)) ⟨.bl _,H,I,rfl,?_⟩;rw[show i.toArray.any (eqU x)=i.any (eqU x)by simp,Z5h r fs];exact q
theorem Z7O:Z3p X (.builtin "len") (λ xs H Q=>∃p ys,xs=[.ref p]/\(SqL X.K H p ys\/SqT X.K H p ys)/\Q (.int ys.length) H):=by
 intro pins s σ H xs G Q I r h;obtain⟨p,ys,rfl,j,q⟩:=h;obtain⟨u,rfl,B⟩:=Z4x r;cases B;have J:=Z4P;rcases j with j|j
 ·obtain⟨n,y,z,D⟩:=I.list j;have i:=y.length;exact Calls.call_len_list z.isList (by simp only[qb2]<;>omega) ⟨.int ys.length,H,I.tok _,⟨s.toks+1,by rw[qb2,i]⟩,q⟩
 ·obtain⟨n,y,z,D⟩:=I.tuple j;have i:=y.length;exact len_tuple z (by simp only[qb2]<;>omega) ⟨.int ys.length,H,I.tok _,⟨s.toks+1,by rw[qb2,i]⟩,q⟩
theorem Z0q:Z3p X (.type "tuple") (λ xs H Q=>∃p ys,xs=[.ref p]/\((SqL X.K H p ys/\∀l,H l=none->Q (.ref l) (upd H l (.tup ys)))\/(SqT X.K H p ys/\Q (.ref p) H))):=by
 intro pins s σ H xs L Q I r h;obtain⟨p,ys,rfl,h⟩:=h;obtain⟨u,rfl,G⟩:=Z4x r;cases G;rcases h with⟨j,q⟩|⟨j,q⟩
 ·obtain⟨i,n,y,z⟩:=I.list j;have B:=n.length;refine call_tuple_list y.isList (λ h' kp=>?_) (by simp only[qb2]<;>omega);have D:Inv X pins σ H {s with heap:=h'}:=I.kept (t':=s.toks) kp;have J:Inv X pins σ (upd H h'.objs.size (.tup ys)) {s with heap:=h'.push {cls:=.type "tuple",data:=.seq i.toArray}}:=
   D.laid (t':=s.toks) (λ b o e=>Heap.get?_push_of_some _ e) (qa1 _) (show ObjOk X.prog X.w _ _ _ (.tup ys)from⟨⟨z,Z9D⟩,i,n,IsTup.new _ _⟩)
  exact⟨.ref h'.objs.size,_,J,rfl,q _ (D.hok.fresh (qa1 _))⟩
 ·obtain⟨i,n,y,z⟩:=I.tuple j;exact call_tuple_same y ⟨.ref p,H,I,rfl,q⟩
def tyV(K:X0)(T:String)(x:V)(H:Hp):Prop:=match x with
 | .str _=>T="str"
 | .int _=>T="int"
 | .ref p=>(T="list"/\∃xs,SqL K H p xs)\/(T="tuple"/\∃o,K.lookup p=some o/\o.cls=.type "tuple"/\o.dict=none)\/
   (T="dict"/\((∃i,H p=some (.dK i))\/∃i,H p=some (.dT i)))\/(T="set"/\∃S n,H p=some (.set S n))
 |_=>False
theorem J4O{pins:List (V0×Obj)}{σ:St}{H:Hp}{s:M1}{T:String}{x:V}{v:V1}(I:Inv X pins σ H s)(r:RelV x v)(ty:tyV X.K T x H):s.TypeIs v T/\∀a,v=.ref a->∃B,s.heap.get? a=some B/\B.dict=none:=by
 cases x with
 |str z=>
  obtain⟨t,rfl⟩:=r;cases(show T="str" from ty);exact⟨typeIs_str s z t,λ _ e=>nomatch e⟩
 |int i=>
  obtain⟨t,rfl⟩:=r;cases(show T="int" from ty);exact⟨typeIs_int s i t,λ _ e=>nomatch e⟩
 |ref p=>
  cases r;rcases ty with⟨rfl,xs,G⟩|⟨rfl,o,j,J,hd⟩|⟨rfl,j⟩|⟨rfl,S,n,j⟩
  ·obtain⟨L,_,D,_⟩:=I.list G;refine⟨D.isList.typeIs,λ a e=>?_⟩;cases e;obtain⟨o,n,e,c,hd,_⟩:=D;exact⟨o,e,hd⟩
  ·refine⟨⟨o,I.kIn p o j,J⟩,λ a e=>?_⟩;cases e;exact⟨o,I.kIn _ o j,hd⟩
  ·have z:∃o,s.heap.get? p=some o/\o.ExactDict:=by
    rcases j with⟨q,j⟩|⟨q,j⟩
    ·obtain⟨_,_,_,_,o,_,_,e,ex,_⟩:=I.hok p _ j;exact⟨o,e,ex⟩
    ·obtain⟨_,_,_,_,o,_,_,e,ex,_⟩:=I.hok p _ j;exact⟨o,e,ex⟩
   obtain⟨o,e,ex⟩:=z;refine⟨⟨o,e,ex.1⟩,λ a y=>?_⟩;cases y;exact⟨o,e,ex.2.1⟩
  ·obtain⟨o,_,_,_,e,ex,_⟩:=I.hok p _ j;refine⟨⟨o,e,ex.1⟩,λ a y=>?_⟩;cases y;exact⟨o,e,ex.2.1⟩
 |_=>exact False.elim ty
def tBM0(K:X0)(T:String)(r:V->List V->Hp->VK->Prop)(to:TE):TE:=λ σ H Q=>to σ H λ x H1=>tyV K T x H1/\r x [] H1 Q
def tBM(K:X0)(T:String)(r:V->List V->Hp->VK->Prop)(to:TE)(t:TA):TE:=λ σ H Q=>to σ H λ x H1=>tyV K T x H1/\t σ H1 λ xs H2=>r x xs H2 Q
variable{o e:Expr}{es:List Expr}{to:TE}{t:TA}{name:V2}{apos cpos:Pos}{T id:String}{r:V->List V->Hp->VK->Prop}
theorem J4K(B:PlainAttrs T)(n:Slot T name id)(q:typeOf (.builtin id)=pure (.type "method_descriptor"))(D:MtR X id r)(G:PE X o to)(i:attributeBase o name X.env (eval o X.env)=eval o X.env:=by rfl)(j:(apos.endLine==cpos.line)=true:=by rfl):PE X (.Call (.Attribute o name apos) [] [] cpos) (tBM0 X.K T r to):=by
 intro pins s σ H Q I h;refine wpAny_Call_method0_late i j (thn (G pins s σ H _ I h) λ v J ⟨x,H1,y,z,ty,L⟩=>?_);obtain⟨h1,h2⟩:=J4O y z ty;exact⟨T,id,B,n,q,h1,h2,Calls.callWith_builtin rfl (PySem.evalArgs_none (D pins J σ H1 x [] v [] Q y z .nil L))⟩
theorem Z2f(J:PlainAttrs T)(q:Slot T name id)(z:typeOf (.builtin id)=pure (.type "method_descriptor"))(L:MtR X id r)(M:PE X o to)(ha:PA X (e::es) t)(j:attributeBase o name X.env (eval o X.env)=eval o X.env:=by rfl)(y:((backTo cpos (starEach (e::es) X.env)).all (λ x=>!x.1)&&(backToKw cpos (keywordEach [] X.env)).all (λ x=>x.1.isSome)&&decide ((e::es).length+([]:List Keyword).length+(if([]:List Keyword).isEmpty then 0 else 1)<30))=true:=by rfl)(n:(apos.endLine==cpos.line)=true:=by rfl)(hs:starEach (e::es) X.env=(false,eval e X.env)::starEach es X.env:=by rfl)(i:(backTo cpos (starEach es X.env)).any (·.1)=false:=by rfl):PE X (.Call (.Attribute o name apos) (e::es) [] cpos) (tBM X.K T r to t):=by
 intro pins s σ H Q I h;refine wpAny_Call_method_late j y n rfl (thn (M pins s σ H _ I h) λ v N ⟨x,H1,B,D,ty,O⟩=>?_);obtain⟨h1,h2⟩:=J4O B D ty;refine⟨T,id,J,q,z,h1,h2,?_⟩;have G:=ha cpos pins N σ H1 _ B O;rw[hs]at G ⊢;refine Calls.callWith_builtin (by show(false||(backTo cpos (starEach es X.env)).any (·.1))=false;rw[i]<;>rfl) (Calls.evalArgs_plain ?_);exact thn G λ R S ⟨U,H2,Y,Z,q2⟩=>L pins S σ H2 x U v R Q Y D Z q2
end
end L2
namespace L2
open PySem PySem.Spec PyProof.Rows
def MtM(X:Cx)(id:String)(r:V->List V->Hp->VK->Prop):Prop:=
 ∀(pins:List (V0×Obj))(s:M1)(σ:St)(H:Hp)(x:V)(xs:List V)(v:V1)(i:List V1)(Q:VK),Inv X pins σ H s->RelV x v->Vals xs i->r x xs H Q->
  wpAny (model X.prog X.w) X.A (call (.builtin id) (v::i)) (EP X pins σ Q) X.xe s
theorem Vals.one:∀{x:V}{i:List V1},Vals [x] i->∃u,i=[u]/\RelV x u
 |_,_,.cons r .nil=>⟨_,rfl,r⟩
theorem Vals.two:∀{x y:V}{i:List V1},Vals [x,y] i->∃u v,i=[u,v]/\RelV x u/\RelV y v
 |_,_,_,.cons r (.cons q .nil)=>⟨_,_,rfl,r,q⟩
theorem Vals.zero:∀{i:List V1},Vals [] i->i=[]
 |_,.nil=>rfl
theorem Vals.dropLast{xs:List V}{us:List V1}(h:Vals xs us):Vals xs.dropLast us.dropLast:=by
 induction h with
 |nil=>exact .nil
 |cons r t i=>
  cases t with
  |nil=>exact .nil
  |cons q j=>exact .cons r i
theorem Vals.reverse{xs:List V}{us:List V1}(h:Vals xs us):Vals xs.reverse us.reverse:=by
 induction h with
 |nil=>exact .nil
 |cons r t i=>rw[qf8,qf8];exact Vals.append i (.cons r .nil)
theorem Vals.rep{xs:List V}{us:List V1}(h:Vals xs us):∀k:Nat,Vals (qc8 k xs).flatten (qc8 k us).flatten
 |0=>.nil
 |k+1=>by
  rw[qj5,qj5,qg6,qg6];exact Vals.append h (Vals.rep h k)
theorem J0b{i:Type}(l:List i):l.eraseIdx (l.length-1)=l.dropLast:=by
 induction l with
 |nil=>rfl
 |cons a r j=>
  cases r with
  |nil=>rfl
  |cons b r=>
   have e:(a::b::r).length-1=((b::r).length-1)+1:=by
    have h1:(a::b::r).length=r.length+2:=rfl;have h2:(b::r).length=r.length+1:=rfl;omega
   rw[e,List.eraseIdx_cons_succ,j];all_goals rfl
theorem Z7a(its:List V1):∀(k:Nat)(i:List V1),List.foldl (λ j n=>j++n) i.toArray (qc8 k its.toArray)=(i++(qc8 k its).flatten).toArray
 |0,i=>by simp
 |k+1,i=>by
  have e:i.toArray++its.toArray=(i++its).toArray:=by simp
  have q:(i++its)++(qc8 k its).flatten=i++(qc8 (k+1) its).flatten:=by
   rw[qj5,qg6,qe8]
  rw[<-q,<-Z7a its k (i++its),<-e,qj5,List.foldl_cons]
section
variable{X:Cx}{pins:List (V0×Obj)}{σ:St}{H:Hp}{s:M1}{l b:V0}{xs ys zs:List V}
theorem Inv.lset{its its':List V1}{n:Nat}{f:Array V1->Array V1}{t':Nat}(I:Inv X pins σ H s)(i:H l=some (.lst xs))(e:s.heap.get? l=some {cls:=.type "list",data:=.seq its.toArray n})(j:f its.toArray=its'.toArray)(y:Vals ys its')(hz:ys.length<=sizeLine):Inv X pins σ (upd H l (.lst ys)) {s with heap:=s.heap.update l (Obj.mapSeq f),toks:=t'}:=by
 have q:=PySem.IsL.update e f;rw[j]at q;refine I.write (x:=l) (e:=l) (by rw[i];exact trivial) (.inl rfl) (λ D u z B=>(Heap.get?_update_other s.heap (Obj.mapSeq f) (Ne.symm z)).trans B) ⟨_,q⟩ ?_;exact⟨hz,its',_,y,q⟩
theorem Inv.lnew{its:List V1}{t':Nat}(I:Inv X pins σ H s)(i:Vals ys its)(hz:ys.length<=sizeLine):Inv X pins σ (upd H s.heap.objs.size (.lst ys)) {s with heap:=s.heap.push {cls:=.type "list",data:=.seq its.toArray},toks:=t'}:=
 I.laid (λ _ _ q=>Heap.get?_push_of_some _ q) (qa1 _) ⟨hz,its,0,i,Heap.get?_push_size _ rfl⟩
theorem Inv.fresh(I:Inv X pins σ H s):H s.heap.objs.size=none:=I.hok.fresh (qa1 _)
theorem Inv.lstM(I:Inv X pins σ H s)(j:H l=some (.lst xs)):xs.length<=sizeLine/\∃(i:List V1)(n:Nat),Vals xs i/\xs.length=i.length/\s.heap.get? l=some {cls:=.type "list",data:=.seq i.toArray n}:=by
 obtain⟨z,i,n,r,e⟩:=I.hok l _ j;exact⟨z,i,n,r,r.length,e⟩
theorem Z5S{n:Nat}(h:n<=sizeLine):Builtin.List.listTooLong n=false:=by
 unfold Builtin.List.listTooLong;exact decide_eq_false qR
end
section
variable{X:Cx}
def J2i:V->List V->Hp->VK->Prop:=λ x i H Q=>∃l xs y,x=.ref l/\i=[y]/\H l=some (.lst xs)/\xs.length<sizeLine/\Q .non (upd H l (.lst (xs++[y])))
theorem Z0B:MtM X "list.append" J2i:=by
 intro pins s σ H x J v L Q I B D h;obtain⟨l,xs,y,rfl,rfl,j,M,q⟩:=h;cases B;obtain⟨u,rfl,G⟩:=D.one;obtain⟨z,i,n,r,N,e⟩:=I.lstM j;refine call_meets F.slot_list_append ⟨_,e,rfl⟩ F.entry_list_append (F.args_list_append_2 _ _) (PySem.list_append l i.toArray n u (by rw[qb2];omega)) ⟨e,?_⟩;refine⟨.non,_,I.lset (its':=i++[u]) j e (by simp) (r.append (.cons G .nil)) ?_,rfl,q⟩;rw[qa5,List.length_singleton];omega
def J2r:V->List V->Hp->VK->Prop:=λ x i H Q=>∃l b xs zs,x=.ref l/\i=[.ref b]/\H l=some (.lst xs)/\H b=some (.lst zs)/\xs.length+zs.length<=sizeLine/\Q .non (upd H l (.lst (xs++zs)))
theorem J7x:MtM X "list.extend" J2r:=by
 intro pins s σ H x U v Y Q I G J h;obtain⟨l,b,xs,zs,rfl,rfl,D,L,Z,q⟩:=h;cases G;obtain⟨u,rfl,M⟩:=J.one;cases M;obtain⟨z,j,n,r,hl,e⟩:=I.lstM D;obtain⟨z2,i,N,O,R,S⟩:=I.lstM L;have B:j.toArray.size+i.toArray.size<=sizeLine:=by rw[qb2,qb2];omega
 have y:¬(!j.toArray.isEmpty&&Builtin.List.listTooLong (j.toArray.size+i.toArray.size))=true:=by
  rw[Z5S B,Bool.and_false];exact qc0
 refine call_meets F.slot_list_extend ⟨_,e,rfl⟩ F.entry_list_extend (F.args_list_extend_2 _ _)
  (AutoSeq1.list_extend_list_list_0 l j.toArray n b i.toArray N y (by rw[qb2];omega) qR) ⟨e,S,?_⟩
 refine⟨.non,_,I.lset (its':=j++i) D e (by simp) (r.append O) ?_,rfl,q⟩;rw[qa5];omega
def rPop:V->List V->Hp->VK->Prop:=λ x i H Q=>∃l xs y,x=.ref l/\i=[]/\H l=some (.lst xs)/\xs[xs.length-1]?=some y/\Q y (upd H l (.lst xs.dropLast))
theorem J4R:MtM X "list.pop" rPop:=by
 intro pins s σ H x R v S Q I G J h;obtain⟨l,xs,y,rfl,rfl,D,L,q⟩:=h;cases G;have j:=J.zero;subst j;obtain⟨z,i,n,r,M,e⟩:=I.lstM D;obtain⟨u,N,O⟩:=r.get L;have B:i.toArray[i.toArray.size-1]?=some u:=by
  show i.toArray[i.length-1]?=some u;rw[<-qm7,<-M];exact N
 refine call_meets F.slot_list_pop ⟨_,e,rfl⟩ F.entry_list_pop (F.args_list_pop_1 _) (MeetsSeq.list_pop_last l i.toArray n u B (by rw[qb2];omega)) ⟨e,?_⟩;refine⟨y,_,I.lset (its':=i.dropLast) D e ?_ r.dropLast ?_,O,q⟩
 ·show i.toArray.eraseIdxIfInBounds (i.toArray.size-1)=i.dropLast.toArray;rw[qb2,List.eraseIdxIfInBounds_toArray,J0b]
 ·rw[List.length_dropLast];omega
def rCat:R2:=λ x y H Q=>∃l b xs zs,x=.ref l/\y=.ref b/\H l=some (.lst xs)/\H b=some (.lst zs)/\xs.length+zs.length<=sizeLine/\∀p,H p=none->Q (.ref p) (upd H p (.lst (xs++zs)))
theorem Z1l:OpR X (binaryOp .Add) rCat:=by
 intro pins s σ H x y v u Q I B D h;obtain⟨l,b,xs,zs,rfl,rfl,G,J,R,q⟩:=h;cases B;cases D;obtain⟨z,j,n,r,S,e⟩:=I.lstM G;obtain⟨U,i,Y,L,M,N⟩:=I.lstM J;refine PySem.P.add_list e N ?_ (by rw[qb2,qb2];omega);have O:j.toArray++i.toArray=(j++i).toArray:=by simp
 rw[O];exact⟨.ref _,_,I.lnew (t':=s.toks) (r.append L) (by rw[qa5];omega),rfl,q _ I.fresh⟩
def rRep:R2:=λ x y H Q=>∃l k xs,x=.ref l/\y=.int k/\H l=some (.lst xs)/\-(2^63)<=k/\k<2^63/\xs.length*k.toNat<=sizeLine/\
 ∀p,H p=none->Q (.ref p) (upd H p (.lst (qc8 k.toNat xs).flatten))
theorem J6j{i:Type}(xs:List i)(k:Nat):(qc8 k xs).flatten.length=k*xs.length:=by
 induction k with
 |zero=>simp
 |succ k j=>rw[qj5,qg6,qa5,j,qf5,Nat.add_comm]
theorem J0W:OpR X (binaryOp .Mult) rRep:=by
 intro pins s σ H x y v u Q I O R h;obtain⟨l,k,xs,rfl,rfl,S,h1,h2,N,q⟩:=h;cases O;obtain⟨t,rfl⟩:=R;obtain⟨z,i,n,r,Y,e⟩:=I.lstM S;have B:i.toArray.size*k.toNat<=sizeLine:=by rw[qb2,<-Y];exact N
 have D:¬i.toArray.size*k.toNat>(2^63-1)/8:=by
  have:(sizeLine:Nat)<=(2^63-1)/8:=by decide
  omega
 have G:¬(!Builtin.List.listFitsIndex k)=true:=by
  rw[fitsIndex_both h1 h2];exact qc0
 have j:¬Builtin.List.listTooLong (i.toArray.size*k.toNat)=true:=by
  rw[Z5S B];exact qc0
 have J:List.foldl (λ L M=>L++M) #[] (qc8 (if i.toArray.isEmpty=true then 0 else k.toNat) i.toArray)=(qc8 k.toNat i).flatten.toArray:=by
  have Z:∀m:Nat,List.foldl (λ L M=>L++M) #[] (qc8 m i.toArray)=(qc8 m i).flatten.toArray:=λ m=>by
   have:=Z7a i m [];rw[List.nil_append]at this;exact this
  rw[Z];cases i with
  |nil=>simp
  |cons a r'=>rw[if_neg (by simp)]
 refine wpAny_binaryOp_repeat_ref (T:="list") (U:="int") qQ ⟨_,e,rfl⟩ (λ s'=>typeIs_int s' k t) noFill_list_mul F.fills_int_mul F.slot_int_rmul repeat_list F.slot_int_index.lookup
  (call_meets F.slot_int_rmul (typeIs_int s k t) F.entry_int_rmul (F.args_int_rmul_2 _ _) (int___rmul___int_list k t l i.toArray n) ⟨e,rfl,⟨_,e,rfl⟩,call_meets F.slot_list_mul ⟨_,e,rfl⟩ F.entry_list_mul (F.args_list_mul_2 _ _) (AutoListH.list___mul___list_int_3 l i.toArray n k t G D j) ⟨e,?_⟩⟩)
 rw[J];exact⟨.ref _,_,I.lnew (t':=s.toks) (r.rep k.toNat) (by rw[J6j,Nat.mul_comm];exact N),rfl,q _ I.fresh⟩
end
section
variable{prog:Program}{w:M2}{A:V4}{E:V1->M1->Prop}{s:M1}
set_option maxRecDepth 100000 in
end
end L2
namespace Att
open PySem PySem.W PySem.Calls PyProof.Rows
theorem Z4U{P:Params}{h:V3}:∀(ns:List Int)(i:List V1),WellAll P h i (ns.map WData.int)->IntsAre i ns:=by
 intro ns;induction ns with
 |nil=>
  intro i w;rw[List.map_nil]at w;cases w;exact .nil
 |cons n ns j=>
  intro i w;rw[qb8]at w;cases w with
  |cons a b=>
   cases a;exact .cons _ _ (j _ b)
theorem J2y{l:OpenLaw}{n:Nat}(N:l.most=some n){P:Params}{h:V3}{args:List WData}{j:List V1}(y:l.row.toRowW.claim.pre args=true)(I:WellAll P h j args):∃a L i,j=[Value.ref a]/\args=[WData.list (i.map WData.int)]/\h.get? a=some {cls:=.type "list",data:=.seq L.toArray}/\IntsAre L i/\i.length<=n:=by
 have J:WShape.hasAll [] args [.list .int]=true:=(pre_splitW y).1;have M:l.pre.holds [] {args:=args}=true:=(pre_splitW y).2;obtain⟨d,r,rfl,h1,h2⟩:=hasAllW_cons J;obtain rfl:=hasAllW_nil h2;obtain⟨xs,rfl,O⟩:=hasW_list h1;obtain⟨i,rfl⟩:=items_int O;have z:i.length<=n:=by
  unfold OpenLaw.pre at M;have D:(WTm.not (.lt (.lit (.int (n:Int))) (.len (.arg 0)))).holds [] {args:=[.list (i.map .int)]}=true:=by
   have D:=(holds_andW M).1;rw[N]at D;exact D
  have G:=condW_of D (w_not (w_lt w_lit (w_len_list (w_arg rfl))));rw[qa0]at G;refine Nat.le_of_not_lt λ q=>?_;have R:(n:Int)<((i.length:Nat):Int):=by omega
  first
   |(rw[decide_eq_true R]at G;exact absurd G qQ)
   |(simp at G;omega)
 cases I with
 |cons S U=>
  cases U;cases S with
  |list Y B=>exact⟨_,_,i,rfl,rfl,Y,Z4U i _ B,z⟩
theorem J1p(l:OpenLaw)(args:List WData):l.row.toRowW.claim.post args (.bool true) args=true:=
 postW_of (r:=l.row.toRowW) (X:=(true == true))
  (show WShape.has [] (.bool true) .bool=true by first|rfl|decide|simp[WShape.has,WShape.arms,WShape.armsAll])
  (show(WTm.eq .res (.lit (.bool true))).value [] {args:=args,res:=some (.bool true),after:=args}=some (.bool (true==true))from w_eq_bool (w_res rfl) w_lit) rfl
theorem attach_call{l:OpenLaw}{n:Nat}{q:Program}{j:List V2}{XP:(V2->Option V1)->V3->Prop}{YP:M2->V3->Prop}{d:DefRec}(hn:l.most=some n)(R:d.params.defaults=[])(call:∀(w:M2)(y i:M1)(mg S:V2->Option V1)(I:V0)(o:Obj)(U N z:V1)(a:V0)(D:List V1)(O:List Int),Ground q j [] XP w y mg S i.heap->YP w i.heap->i.heap.get? I=some o->o.data=.func (docDef d.name d.params d.body d.scope U N z)->i.heap.CodeRec N d.name->mg d.name=some (.ref I)->i.heap.get? a=some {cls:=.type "list",data:=.seq D.toArray}->IntsAre D O->O.length<=n->i.gens=#[]->codeAny (model l.prog w) callerA (.call (.ref I) ⟨[.ref a],[]⟩) (λ r s'=>r=.ok (.ret (.bool true))/\OldK i.heap s'.heap/\s'.os=i.os/\AllBare s'.gens) i):WalkO q j XP YP l.row.toRowW d [] (λ f D=>PySem.call f D):=by
 intro w y i mg S G Y I o U N z dV kV ho hd Z hD a0 hg c0 d0 as J e0 f0 b0 g0;obtain rfl:dV=.none:=Dflts.none hD R;obtain rfl:kV=.none:=Dflts.noKw hD;obtain⟨a,D,O,rfl,rfl,L,B,M⟩:=J2y hn J b0;refine enter_call (codeAny_mono (call w y i mg S I o U N z a D O G Y ho (fd_plain hd) Z a0 L B M hg) λ r s' hq=>?_);obtain⟨rfl,h2,h3,h4⟩:=hq;exact⟨.inl ⟨.bool true,.bool true,[],rfl,λ _=>rfl,.bool true,J1p l _,λ _=>⟨List.Pairwise.nil,λ _ hm=>(nomatch hm)⟩⟩,h2,h3,h4⟩
section
variable{prog:Program}{w:M2}{A:V4}{E:V1->M1->Prop}{s:M1}{K:Frag}
def J9U(h:V3)(L d:V0):List (V0×Obj):=(qd2 h.objs.size).filterMap λ a=>if a=L\/a=d then none else(h.get? a).map λ o=>(a,o)
end
end Att
namespace L2
open PySem PySem.Spec PyProof.Rows
theorem Z6y:∀{i:List V1}{j:List Int},IntsAre i j->Vals (j.map V.int) i
 |_,_,.nil=>.nil
 |_,_,.cons n t h=>.cons ⟨t,rfl⟩ (Z6y h)
def Only(H:Hp):Prop:=∀b,H b=none\/∃o xs,H b=some (.frz o (.lst xs))
theorem J3z{P:Program}{w:M2}{K:X0}{mg mb:V2->Option V1}{CX:CXT}{k:Nat}{fa a:V0}{fd:FuncData}{x:V2}{sp:Sp}{s₁:M1}{vs:List V1}{ns:List Int}(KX:K.In s₁.heap)(hns:s₁.heap.Ns mainGlobals mg)(hb:s₁.heap.Ns builtinsNs mb)(hbb:∀x:V2,x≠"__name__"->mb x=bootBuiltins x)(hlim:s₁.heap.NoLimit)(hg:s₁.gens=#[])(ha:s₁.heap.get? a=some {cls:=.type "list",data:=.seq vs.toArray})(hi:IntsAre vs ns)(hl:ns.length<=sizeLine)(hr:Room k callerA)(F:∀base:V3,K.In base->base.Ns mainGlobals mg->FnOk P w K mg base CX k fa fd [x] sp)(hbind:∀(s:M1)(u:V1),BindsTo s fd ⟨[u],[]⟩ [(x,u)])(hsp:∀H:Hp,Only H->SqL K H a (ns.map V.int)->sp [.ref a] H (λ v _=>v=.bl true) λ _ _ _=>False)(hCX:∀H e s',CX [] H s₁ (λ _ _ _=>False) e s'->False):codeAny (model P w) callerA (.call (.ref fa) ⟨[.ref a],[]⟩) (λ r s'=>r=.ok (.ret (.bool true))/\OldK s₁.heap s'.heap/\s'.os=s₁.os/\AllBare s'.gens) s₁:=by
 have rv:=Z6y hi;have lenV:=hi.length
 --from an abstract heap in which nothing but the script may be tracked
 have core:∀H:Hp,Only H->SqL K H a (ns.map V.int)->HOk P w H s₁.heap->(∀b,H b≠none->b=a)->(H a≠none->K.lookup a=none)->
   codeAny (model P w) callerA (.call (.ref fa) ⟨[.ref a],[]⟩) (λ r s'=>r=.ok (.ret (.bool true))/\OldK s₁.heap s'.heap/\s'.os=s₁.os/\AllBare s'.gens) s₁:=by
  intro H hO hS hok hA hK;have base_of:∀{b:V0}{o:Obj},s₁.heap.get? b=some o->H b=none->(hidT s₁.heap H).get? b=some o:=λ e n=>J2W e n;have noA:∀{b:V0}{o:Obj}{es:Array DictEntry}{ep:Nat},s₁.heap.get? b=some o->o.data=.dict es ep->H b=none:=λ{b o es ep} e d=>by
   cases q:H b with
   |none=>rfl
   |some u=>
    have e':b=a:=hA b (by rw[q];simp);subst e';rw[ha]at e;cases e;have d':Data.seq vs.toArray _=Data.dict es ep:=d;cases d'
  have nsK:∀{b:V0}{m:V2->Option V1},s₁.heap.Ns b m->(hidT s₁.heap H).Ns b m:=λ{b m} ⟨o,es,ep,e,d,r⟩=>⟨o,es,ep,base_of e (noA e d),d,r⟩;have hKb:K.In (hidT s₁.heap H):=λ b o e=>base_of (KX b o e) (by
   cases q:H b with
   |none=>rfl
   |some u=>
    have e':b=a:=hA b (by rw[q];simp);subst e';rw[hK (by rw[q];simp)]at e;cases e)
  have hM:Mod K mg (hidT s₁.heap H):=⟨hKb,nsK hns,⟨mb,nsK hb,hbb⟩,let⟨mc,h1,h2⟩:=hlim;⟨mc,nsK h1,h2⟩⟩;have e0:Env0 P w K mg (hidT s₁.heap H) callerA [] s₁ H:=⟨rfl,hM,λ b o e=>J5s e,Nat.le_of_eq (J1x _ _),trivial,λ b hb=>absurd (show b∈([]:List V0)from hb) (by simp),hok,.of_eq hg⟩;refine codeAny_mono ((F _ hKb (nsK hns)).run callerA [] s₁ H ⟨[.ref a],[]⟩ [.ref a] [.ref a] _ _ hr e0 (hbind s₁ (.ref a)) (.cons rfl .nil) (hsp H hO hS)) λ r s' h=>?_;cases r with
  |error e=>exact(hCX H e s' h).elim
  |ok fl=>
   cases fl with
   |next=>exact False.elim h
   |brk=>exact False.elim h
   |cont=>exact False.elim h
   |ret u=>
    obtain⟨v,H',os,bare,un,hok',r',q⟩:=h;have q':v=.bl true:=q;subst q';obtain rfl:u=Value.bool true:=r';refine⟨rfl,OldK.of_keep λ b o e=>?_,os,bare⟩;cases q:H b with
    |none=>exact un.keep b o e q (by intro z;exact absurd (show b∈([]:List V0)from z) (by simp)) (by simp)
    |some u=>
     rcases hO b with z|⟨ob,xs,z⟩
     ·rw[q]at z;cases z
     ·have z2:=un.frzs b ob _ z;obtain⟨e1,_⟩:=hok b _ z;obtain⟨e2,_⟩:=hok' b _ z2;rw[e]at e1;cases e1;exact e2
 cases hk:K.lookup a with
 |some o=>
  --the script is one of the module's own objects
  have e:=KX a o hk;rw[ha]at e;cases e;refine core (λ _=>none) (λ _=>.inl rfl) (.inr ⟨_,vs.toArray,_,hk,rfl,rfl,rfl,by rw[qb2,lenV];exact hl,by simpa using rv⟩) (λ b u z=>by have z':(none:Option HO)=some u:=z;cases z') (λ b z=>absurd rfl z) λ z=>absurd rfl z
 |none=>
  refine core (λ b=>if b=a then some (.frz {cls:=.type "list",data:=.seq vs.toArray} (.lst (ns.map V.int)))else none) (λ b=>?_) (.inl (.inr ⟨{cls:=.type "list",data:=.seq vs.toArray},if_pos rfl⟩)) (λ b u z=>?_) (λ b z=>?_) λ _=>hk
  ·by_cases hb:b=a
   ·exact .inr ⟨_,_,if_pos hb⟩
   ·exact .inl (if_neg hb)
  ·by_cases hb:b=a
   ·have z':=(if_pos hb).symm.trans z;cases z';subst hb;exact⟨ha,by rw[qa0];exact hl,vs,_,rv,ha⟩
   ·have z':=(if_neg hb).symm.trans z;cases z'
  ·by_cases hb:b=a
   ·exact hb
   ·exact absurd (if_neg hb) z
end L2
namespace L2
open PySem PySem.Spec PyProof.Rows
abbrev KOf{K:X0}{h:V3}(_:K.In h):X0:=K
theorem J5t{l:W.OpenLaw}{n k:Nat}{q:Program}{j:List V2}{XP:(V2->Option V1)->V3->Prop}{R:M2->V3->Prop}{d:DefRec}{K:Params->X0}{CX:M2->CXT}{sp:M2->Sp}{x:V2}(hn:l.most=some n)(J:n<=sizeLine)(L:d.params.defaults=[])(hr:Room k callerA)(hY:∀(w:M2)(h:V3),R w h->(K w.params).In h)(F:∀(w:M2)(mg:V2->Option V1)(D:V0)(h:V3),(K w.params).In h->h.Ns mainGlobals mg->mg d.name=some (.ref D)->∃fd:FuncData,(∀(s:M1)(u:V1),BindsTo s fd ⟨[u],[]⟩ [(x,u)])/\∀base:V3,(K w.params).In base->base.Ns mainGlobals mg->FnOk l.prog w (K w.params) mg base (CX w) k D fd [x] (sp w))(M:∀(w:M2)(H:Hp)(a:V0)(I:List Int),I.length<=n->Only H->SqL (K w.params) H a (I.map V.int)->sp w [.ref a] H (λ v _=>v=.bl true) λ _ _ _=>False)(N:∀(w:M2)(H:Hp)(s:M1)(e:V1)(s':M1),CX w [] H s (λ _ _ _=>False) e s'->False):W.WalkO q j XP R l.row.toRowW d [] (λ f S=>PySem.call f S):=by
 refine Att.attach_call hn L λ w U z mg mb D o pm cd a0 a S I G Y ho hd b0 O B y i hg=>?_;have Z:=hY w _ Y;obtain⟨fd,hb,hF⟩:=F w mg D _ Z G.T.g O;exact J3z Z G.T.g G.T.b G.T.builtins G.T.nolimit hg B y (qb9 i J) hr hF hb (λ H hO hS=>M w H a I i hO hS) λ H e s'=>N w H z e s'
theorem J3n{l:W.OpenLaw}{n k:Nat}{q:Program}{i:List V2}{J:(V2->Option V1)->V3->Prop}{G:M2->V3->Prop}{d:DefRec}{K:Params->X0}{CX:CXT}{sp:X0->Sp}{x:V2}(L:l.most=some n)(y:n<=sizeLine)(z:d.params.defaults=[])(M:Room k callerA)(N:∀(w:M2)(h:V3),G w h->(K w.params).In h)(F:∀(w:M2)(mg:V2->Option V1)(I:V0)(h:V3),(K w.params).In h->h.Ns mainGlobals mg->mg d.name=some (.ref I)->∃fd:FuncData,(∀(s:M1)(u:V1),BindsTo s fd ⟨[u],[]⟩ [(x,u)])/\∀base:V3,(K w.params).In base->base.Ns mainGlobals mg->FnOk l.prog w (K w.params) mg base CX k I fd [x] (sp (K w.params)))(B:∀(K:X0)(H:Hp)(a:V0)(j:List Int),j.length<=n->Only H->SqL K H a (j.map V.int)->sp K [.ref a] H (λ v _=>v=.bl true) λ _ _ _=>False)(D:∀(H:Hp)(s:M1)(e:V1)(s':M1),CX [] H s (λ _ _ _=>False) e s'->False):W.WalkO q i J G l.row.toRowW d [] (λ f O=>PySem.call f O):=
 J5t (K:=K) (CX:=λ _=>CX) (sp:=λ w=>sp (K w.params)) L y z M N F (λ w H a j h1 h2 R=>B (K w.params) H a j h1 h2 R) λ _ H s e s'=>D H s e s'
end L2
namespace L2
open PySem PySem.Spec PyProof.Rows
abbrev CX0:CXT:=λ _ _ _ _ _ _=>False
abbrev E0:XK:=λ _ _ _=>False
theorem J3y{X:Cx}:Z4Y CX0 X E0:=λ _ _ _ _ _ _ _ h=>h.elim
structure Fun(K:X0)(x qual:V2)(st:Stmt)(f:V0)(fd:FuncData):Prop where
 ex:∃(oc:V1)(od:Option V0)(kV doc pm:V1)(an:Option V0)(cdv ct:V1)(osl:Array (Option V1)),
  fd=W.fnOf x qual (Z2e st) (Z1p st) (Z0h st) .none kV doc pm an cdv ct/\K.lookup f=some ⟨oc,od,.func fd,osl⟩/\W.codeIn K cdv qual=true
 kp:W.keepIn K (.ref f)=true
section
variable{P:Program}{w:M2}{K:X0}{mg:V2->Option V1}{base:V3}
theorem Fun.ok{x qual:V2}{st:Stmt}{f:V0}{fd:FuncData}{N ps:List V2}{k:Nat}{sp:Sp}(F:Fun K x qual st f fd)(S:Z0k N ps (Z0h st))(len:∀n H Q E,sp n H Q E->n.length=ps.length)(y:∀(j:V1)(A:V4)(i:List Env)(s:M1)(H:Hp)(n:List V)(Q:VK)(E:XK),Room k (A.deeper (envOfC qual (Z0h st) s.heap.objs.size f j))->sp n H Q E->∃t,PSs (cxOf CX0 P w K mg base N qual (Z0h st) f j A i s H E).nox (Z1p st) t/\t {nx:=λ _ H'=>Q .non H',rt:=Q} (Z5m N n) H):FnOk P w K mg base CX0 (k+1) f fd ps sp:=by
 obtain⟨L,M,kV,D,O,R,j,U,G,rfl,I,z⟩:=F.ex;refine J8F I z S len λ A i s H n Q E J B=>?_;obtain⟨t,h,q⟩:=y j A i s H n Q E J B;exact⟨t,h.nox,q⟩
theorem Fun.binds{x qual:V2}{st:Stmt}{f:V0}{fd:FuncData}{ps:List V2}(F:Fun K x qual st f fd)(h:∀(kV i n:V1)(q:Option V0)(j y:V1)(z:List V1),z.length=ps.length->bindArgs (W.fnOf x qual (Z2e st) (Z1p st) (Z0h st) .none kV i n q j y) ⟨z,[]⟩=pure (ps.zip z)):Binds K fd ps []:=by
 obtain⟨G,I,kV,i,n,q,j,y,B,rfl,J,D⟩:=F.ex;exact .all (h kV i n q j y)
theorem J4W{x qual:V2}{st:Stmt}{f:V0}{z:V1}{od q:Option V0}{n:Array (Option V1)}{kV j y i ct:V1}(l:K.lookup f=some ⟨z,od,.func (W.fnOf x qual (Z2e st) (Z1p st) (Z0h st) .none kV j y q i ct),n⟩)(c:W.codeIn K i qual=true)(k:W.keepIn K (.ref f)=true):Fun K x qual st f (W.fnOf x qual (Z2e st) (Z1p st) (Z0h st) .none kV j y q i ct):=⟨⟨z,od,kV,j,y,q,i,ct,n,rfl,l,c⟩,k⟩
end
theorem Z0r{A:V4}{k:Nat}(i:Room k A):A.units+1<cLine:=qj6 (Nat.add_le_add_left (by decide:1<=64) _) i.units
theorem iteF{A B:Prop}(h:B):if false=true then A else B:=by
 rw[if_neg qc0];exact h
theorem iteT{A B:Prop}(h:A):if true=true then A else B:=by
 rw[if_pos rfl];exact h
theorem ite2{c A B:Prop}[Decidable c](h1:c->A)(h2:¬c->B):if c then A else B:=by
 by_cases h:c
 ·rw[if_pos h];exact h1 h
 ·rw[if_neg h];exact h2 h
def Same(H H':Hp):Prop:=∀b o,H b=some o->H' b=some o
theorem Same.refl(H:Hp):Same H H:=λ _ _ h=>h
theorem Same.trans{H H1 H2:Hp}(a:Same H H1)(b:Same H1 H2):Same H H2:=λ c o h=>b c o (a c o h)
theorem Same.free{H H':Hp}(e:Same H H'){l:V0}(h:H' l=Option.none):H l=Option.none:=by
 cases q:H l with
 |none=>rfl
 |some o=>
  rw[e l o q]at h;cases h
theorem Same.seq{K:X0}{H H':Hp}{a:V0}{xs:List V}(e:Same H H')(h:SqL K H a xs):SqL K H' a xs:=by
 rcases h with(h|⟨o,h⟩)|h
 ·exact .inl (.inl (e _ _ h))
 ·exact .inl (.inr ⟨o,e _ _ h⟩)
 ·exact .inr h
end L2
end
section
namespace L2
open PySem PySem.Spec PyProof.Rows PySem.SeqAt
mutual
inductive RdD(K:X0)(H:Hp):V->PyData->Prop
 |non:RdD K H .non .none
 |bl(b:Bool):RdD K H (.bl b) (.bool b)
 |int(i:Int):RdD K H (.int i) (.int i)
 |str(x:V2):RdD K H (.str x) (.str x)
 |lst{a:V0}{xs:List V}{ds:List PyData}:SqL K H a xs->RdDs K H xs ds->RdD K H (.ref a) (.list ds)
 |tup{a:V0}{xs:List V}{ds:List PyData}:SqT K H a xs->RdDs K H xs ds->RdD K H (.ref a) (.tuple ds)
inductive RdDs(K:X0)(H:Hp):List V->List PyData->Prop
 |nil:RdDs K H [] []
 |cons{x:V}{xs:List V}{d:PyData}{ds:List PyData}:RdD K H x d->RdDs K H xs ds->RdDs K H (x::xs) (d::ds)
end
section
variable{X:Cx}{pins:List (V0×Obj)}{σ:St}{H:Hp}{s:M1}
mutual
theorem RdD.reads(I:Inv X pins σ H s):∀{x:V}{d:PyData}{v:V1},RdD X.K H x d->RelV x v->∃c,Reads s.heap v d c
 |_,_,_,.non,r=>by cases(show _=Value.none from r);exact⟨_,.none⟩
 |_,_,_,.bl b,r=>by cases(show _=Value.bool b from r);exact⟨_,.bool b⟩
 |_,_,_,.int i,r=>by obtain⟨t,e⟩:=(show ∃t,_=Value.int i t from r);subst e;exact⟨_,.int i t⟩
 |_,_,_,.str x,r=>by obtain⟨t,e⟩:=(show ∃t,_=Value.str x t from r);subst e;exact⟨_,.str x t⟩
 |_,_,_,.lst (a:=a) g h,r=>by
  cases(show _=Value.ref a from r);obtain⟨j,m,p,_⟩:=I.list g;obtain⟨c,q⟩:=RdDs.reads I h m;obtain⟨o,u,y,n,hd⟩:=p.isList;exact⟨_,.list u y hd (by simpa using q)⟩
 |_,_,_,.tup (a:=a) g h,r=>by
  cases(show _=Value.ref a from r);obtain⟨j,m,p,_⟩:=I.tuple g;obtain⟨c,q⟩:=RdDs.reads I h m;obtain⟨o,u,y,n,hd⟩:=p;exact⟨_,.tuple u y hd (by simpa using q)⟩
theorem RdDs.reads(I:Inv X pins σ H s):∀{a:List V}{b:List PyData}{c:List V1},RdDs X.K H a b->Vals a c->∃e,ReadsAll s.heap c b e
 |_,_,_,.nil,.nil=>⟨_,.nil⟩
 |_,_,_,.cons hd g,.cons r h=>by
  obtain⟨e,i⟩:=RdD.reads I hd r;obtain⟨bs,j⟩:=RdDs.reads I g h;exact⟨_,.cons i j⟩
end
def rNeD(K:X0):R2:=λ x y H Q=>∃d e,RdD K H x d/\RdD K H y e/\shaped d=true/\shaped e=true/\Q (.bl (!PyData.eqv d e)) H
theorem J7E(a:X.A.units+64<cLine):OpR X (compareOp .NotEq) (rNeD X.K):=by
 intro pins s σ H x y v u Q I b c h;obtain⟨d,e,hd,g,i,j,q⟩:=h;obtain⟨o,m⟩:=RdD.reads I hd b;obtain⟨bs,n⟩:=RdD.reads I g c;exact ne_dataH m n i j a ⟨.bl _,H,I,rfl,q⟩
theorem RdDs.ints{K:X0}{H:Hp}:∀(a:List Int),RdDs K H (a.map V.int) (a.map PyData.int)
 |[]=>.nil
 |y::r=>.cons (.int y) (RdDs.ints r)
end
def Z9I(K:X0):List V->Hp->VK->Prop:=λ b H Q=>∃a d,b=[.ref a]/\RdD K H (.ref a) d/\d.showable=true/\d.hasDict=false/\d.depth<=60/\d.shown.length<=sizeLine/\Q (.str d.shown) H
theorem Z5s{X:Cx}(c:X.A.guards=some [])(p:X.A.units+64<cLine):Z3p X (.builtin "repr") (Z9I X.K):=by
 intro b s r H v x Q I g h;obtain⟨a,d,rfl,i,j,hd,y,m,q⟩:=h;obtain⟨u,rfl,n⟩:=g.one;obtain rfl:u=Value.ref a:=n;obtain⟨A,o⟩:=RdD.reads I i rfl;exact repr_of_reads' o j (λ z=>by rw[hd]at z;cases z) c qR (λ _ _ e=>e) (λ B u C k=>⟨.str d.shown,H,I.kept k,⟨_,rfl⟩,q⟩) m
theorem J3d{K:X0}{H H':Hp}{a:V0}{xs:List V}(h:SqT K H a xs)(e:Same H H'):SqT K H' a xs:=by
 rcases h with(h|⟨o,h⟩)|h
 ·exact .inl (.inl (e _ _ h))
 ·exact .inl (.inr ⟨o,e _ _ h⟩)
 ·exact .inr h
mutual
theorem RdD.same{K:X0}{H H':Hp}(e:Same H H'):∀{v:V}{d:PyData},RdD K H v d->RdD K H' v d
 |_,_,.non=>.non
 |_,_,.bl b=>.bl b
 |_,_,.int i=>.int i
 |_,_,.str x=>.str x
 |_,_,.lst a c=>.lst (e.seq a) (RdDs.same e c)
 |_,_,.tup a c=>.tup (J3d a e) (RdDs.same e c)
theorem RdDs.same{K:X0}{H H':Hp}(e:Same H H'):∀{v:List V}{d:List PyData},RdDs K H v d->RdDs K H' v d
 |_,_,.nil=>.nil
 |_,_,.cons h a=>.cons (RdD.same e h) (RdDs.same e a)
end
end L2
end
section
namespace L2
open PySem PySem.Spec PyProof.Rows
def Cx.block(X:Cx)(N:List V2)(scope:Scope)(cl:List (V2×V0))(C:V0)(fp:List V0)(s:M1)(H:Hp):Cx:=
 {X with N:=N,s₀:=s,H₀:=H,env:=compEnvC scope cl C X.env,outer:=X.stack,stack:=X.stack,ex:=fp,fn:=λ _=>false,pn:=[],xe:=λ _ _=>False}
structure BlockOk(X:Cx)(N:List V2)(nl:List (Option Nat))(scope:Scope)(cl:List (V2×V0)):Prop where
 kind:scope.kind=.function
 nocell:∀y∈scope.names,y.2≠.cell
 names:∀y∈scope.names,y.2=.local->scope.names.lookup y.1=some .local
 clos:closureFor scope X.env=pure cl
 sub:∀y c,cl.lookup y=some c->X.env.cells.lookup y=some c
 has:∀y,scope.names.lookup y=some .free->∃c,cl.lookup y=some c
 len:nl.length=N.length
 seen:∀(i j:Nat)(y:V2),N[i]?=some y->nl[i]?=some (some j)->X.N[j]?=some y/\scope.names.lookup y=some .free/\(X.env.scope.names.lookup y=some .cell\/X.env.scope.names.lookup y=some .free)
def stOf(nl:List (Option Nat))(σ:St):St:=nl.map λ o=>match o with
 |none=>none
 |some j=>(σ[j]?).join
theorem Z1r{x:V2}{k:NameKind}:∀{l:List (V2×NameKind)},l.lookup x=some k->(x,k)∈l
 |[],h=>by simp at h
 |(n,q)::r,h=>by
  rw[qe2]at h;cases e:x==n with
  |true=>
   rw[e]at h;have:q=k:=by simpa using h
   have a:x=n:=by simpa using e
   rw[this,a];exact qa9
  |false=>
   rw[e]at h;exact qb1 _ (Z1r h)
theorem Z3o{env:Env}{x:V2}{k:NameKind}:∀{l:List (V2×NameKind)},(l.map λ(n,k)=>if(k==NameKind.free&&env.scope.kind==.function&&env.kindOf n==some .cell)then(n,NameKind.cell)else(n,k)).lookup x=some k->(l.lookup x=some k\/(k=.cell/\l.lookup x=some .free))
 |[],h=>by simp at h
 |(n,q)::r,h=>by
  rw[qb8]at h;cases e:x==n with
  |true=>
   by_cases a:(q==NameKind.free&&env.scope.kind==.function&&env.kindOf n==some .cell)=true
   ·simp only[a,if_true,qe2,e]at h;have b:q=.free:=by
     rw[qh6,qh6]at a;simpa using a.1.1
    refine .inr ⟨(by simpa using h.symm),?_⟩;rw[qe2,e,b]
   ·change qg0 x ((if(q==NameKind.free&&env.scope.kind==.function&&env.kindOf n==some .cell)=true then(n,NameKind.cell)else(n,q))::_)=some k at h;rw[if_neg a,qe2,e]at h;refine .inl ?_;rw[qe2,e];exact h
  |false=>
   have c:(r.map λ(n,k)=>if(k==NameKind.free&&env.scope.kind==.function&&env.kindOf n==some .cell)then(n,NameKind.cell)else(n,k)).lookup x=some k:=by
    by_cases a:(q==NameKind.free&&env.scope.kind==.function&&env.kindOf n==some .cell)=true
    ·simpa only[a,if_true,qe2,e]using h
    ·simpa only[a,qe2,e,if_false,qk7]using h
   have i:=Z3o (env:=env) c;rw[qe2,e];exact i
theorem Z4r{env:Env}{x:V2}:∀{l:List (V2×NameKind)},l.lookup x=some .free->(l.map λ(n,k)=>if(k==NameKind.free&&env.scope.kind==.function&&env.kindOf n==some .cell)then(n,NameKind.cell)else(n,k)).lookup x=some .cell\/(l.map λ(n,k)=>if(k==NameKind.free&&env.scope.kind==.function&&env.kindOf n==some .cell)then(n,NameKind.cell)else(n,k)).lookup x=some .free
 |[],h=>by simp at h
 |(n,q)::r,h=>by
  rw[qb8];cases e:x==n with
  |true=>
   rw[qe2,e]at h;have c:q=.free:=by simpa using h
   by_cases a:(q==NameKind.free&&env.scope.kind==.function&&env.kindOf n==some .cell)=true
   ·left;simp only[a,if_true,qe2,e]
   ·right;change qg0 x ((if(q==NameKind.free&&env.scope.kind==.function&&env.kindOf n==some .cell)=true then(n,NameKind.cell)else(n,q))::_)=some .free;rw[if_neg a,qe2,e,c]
  |false=>
   rw[qe2,e]at h;have b:=Z4r (env:=env) (l:=r) h;by_cases a:(q==NameKind.free&&env.scope.kind==.function&&env.kindOf n==some .cell)=true
   ·simpa only[a,if_true,qe2,e]using b
   ·simpa only[a,qe2,e,if_false,qk7]using b
section
variable{X:Cx}{pins:List (V0×Obj)}{σ:St}{H:Hp}{s:M1}{N:List V2}{nl:List (Option Nat)}{scope:Scope}{cl:List (V2×V0)}{fp:List V0}
theorem J1O(I:Inv X pins σ H s)(B:BlockOk X N nl scope cl)(i:∀b∈fp,FpOk X pins H b)(j:∀b∈fp,b<s.heap.objs.size){C:V0}(r:s.heap.objs.size<=C):(X.block N scope cl C fp s H).Ok:=by
 have m:∀b∈frs X.stack,b=X.env.locals\/b∈X.fs:=λ b a=>qa2.mp (I.stkSub b a);refine⟨I.ok.mod,B.kind,I.ok.glob,I.ok.blt,r,λ x y c u v=>I.ok.inj x y c (B.sub x c u) (B.sub y c v),λ x A=>?_,λ x c h=>(nomatch h),I.ok.hd,I.ok.frames,.inl rfl,λ b a=>⟨?_,λ x c e=>?_⟩,I.bs,qb9 I.ok.bsz I.sz,λ b o e a=>?_,λ b a D=>?_,I.stack,I.stkFree⟩
 ·have p:(scope.names.map λ(n,k)=>if(k==NameKind.free&&X.env.scope.kind==.function&&X.env.kindOf n==some .cell)then(n,NameKind.cell)else(n,k)).lookup x=some .cell\/
    (scope.names.map λ(n,k)=>if(k==NameKind.free&&X.env.scope.kind==.function&&X.env.kindOf n==some .cell)then(n,NameKind.cell)else(n,k)).lookup x=some .free:=A
  rcases p with q|q
  ·rcases Z3o q with z|⟨_,z⟩
   ·exact absurd rfl (B.nocell _ (Z1r z))
   ·exact B.has x z
  ·rcases Z3o q with z|⟨z,_⟩
   ·exact B.has x z
   ·cases z
 ·exact qb7 (qd1 (j b a) r)
 ·exact(i b a).2.2.2.2.1 x c (B.sub x c e)
 ·rcases(i b a).2.2.2.1 with z|z
  ·exact I.ok.noex b o e z
  ·exact absurd (qd1 (Heap.lt_size (I.ok.bs b o e).1) z) (qe9 _)
 ·rcases m b D with z|z
  ·exact(i b a).2.1 z
  ·exact(i b a).2.2.1 z
theorem J4m{i:Nat}{v:V}(h:(stOf nl σ)[i]?=some (some v)):∃j,nl[i]?=some (some j)/\σ[j]?=some (some v):=by
 unfold stOf at h;rw[qa4]at h;cases e:nl[i]? with
 |none=>rw[e]at h;cases h
 |some o=>
  rw[e]at h;cases o with
  |none=>cases h
  |some j=>
   refine⟨j,rfl,?_⟩;have a:(σ[j]?).join=some v:=by simpa using h
   cases q:σ[j]? with
   |none=>rw[q]at a;cases a
   |some b=>
    rw[q]at a;have:b=some v:=by simpa using a
    rw[this]
theorem Z8h(I:Inv X pins σ H s)(B:BlockOk X N nl scope cl)(T:∀b∈fp,FpOk X pins H b)(J:∀b∈fp,b<s.heap.objs.size){C D:V0}(h:D=s.heap.objs.size)(K:C=s.heap.objs.size+1){E:V3}{tk:Nat}{m:V2->Option V1}{n:Nat}(G:∀b o,s.heap.get? b=some o->E.get? b=some o)(U:E.get? D=some {cls:=.type "list",data:=.seq ([]:List V1).toArray n})(Y:E.Ns C m):Inv (X.block N scope cl C fp s H) [] (stOf nl σ) (upd H D (.lst [])) {s with heap:=E,toks:=tk}:=by
 have L:H D=none:=I.hok.fresh (by rw[h];exact qa1 _);have M:C≠D:=by rw[K,h];exact qj7 _
 have O:H C=none:=I.hok.fresh (by rw[K];exact qe1 _);have a:∀y c,cl.lookup y=some c->c≠D:=λ y c e z=>by
  obtain⟨v,q⟩:=I.cell y c (B.sub y c e);exact absurd q.lt (by rw[z,h];exact qe9 _)
 refine⟨J1O I B T J (by rw[K];exact qe1 _),rfl,I.bare,Un.laid G (by rw[h];exact qa1 _) L,⟨m,Y,λ i y v Z e2 _=>?_⟩,λ y c e=>?_,?_,λ y c e=>?_,λ p hp=>absurd hp (by simp[Cx.block]),?_,?_⟩
 ·obtain⟨j,hj,hv⟩:=J4m e2;obtain⟨x1,R,S⟩:=B.seen i j y Z hj;obtain⟨m0,a0,P⟩:=I.loc;obtain⟨u,r,l⟩:=P j y v x1 hv (.inr S);refine⟨u,r,?_⟩;rcases l with⟨Q,_⟩|⟨_,c,hc,z⟩
  ·have x:X.env.scope.names.lookup y=some .local:=Q;rcases S with q|q<;>(rw[x]at q;cases q)
  ·refine .inr ⟨Z4r R,c,?_,z.keeps G⟩;obtain⟨c',A⟩:=B.has y R;have q:=B.sub y c' A;rw[hc]at q;cases q;exact A
 ·obtain⟨v,q⟩:=I.cell y c (B.sub y c e);exact⟨v,q.keeps G⟩
 ·show(upd H D (.lst [])) C=none;rw[Z0e M];exact O
 ·rw[Z0e (a y c e)];exact I.freeC y c (B.sub y c e)
 ·exact I.hok.laid G (by rw[h];exact qa1 _) ⟨qa6 _,[],n,.nil,U⟩
 ·show(stOf nl σ).length=N.length;unfold stOf;rw[qa0,B.len]
theorem Z6C{C:V0}{r:St}{H':Hp}{m:M1}{h2:V3}(I:Inv X pins σ H s)(A:∀b∈fp,FpOk X pins H b)(B:s.heap.objs.size<=C)(J:Inv (X.block N scope cl C fp s H) [] r H' m)(p:∀b o,b≠C->m.heap.get? b=some o->h2.get? b=some o):Inv X pins σ H' {m with heap:=h2}:=by
 obtain⟨R,g,d,t,D⟩:=m;have E:D=s.os:=J.os;subst E;have a:H' C=none:=J.free;have u:=J.base;have x:∀b o,s.heap.get? b=some o->b≠C:=λ b o e=>qb7 (qd1 (Heap.lt_size e) B);have G:Un (frs X.stack) fp H H' s.heap h2:=
  ⟨λ b o e n h i=>p b o (x b o e) (u.keep b o e n h i),λ b o e n h i=>(let⟨K,q⟩:=u.slot b o e n h i;⟨K,p b _ (x b o e) q⟩),u.free,λ b o e i=>(let⟨y,q⟩:=u.there b o e i;⟨y,p b y (x b o e) q⟩),u.tups,u.frzs,u.tbls⟩
 have j:HOk X.prog X.w H' h2:=λ b o e=>(J.hok b o e).stay (λ c v L q=>p c v (λ z=>by
  subst z;rcases L with z|z
  ·rw[<-z,a]at e;cases e
  ·rw[a]at z;cases z) q) (λ _ q=>q) λ _ _ q=>q
 have z:=I.call (h':=h2) (g':=g) (d':=d) (t':=t) (ch:=fp) G j J.bare λ b h=>(let⟨_,M,_,O,P,Q⟩:=A b h;⟨O,M,P,Q⟩);exact z
end
def PQ(X:Cx)(tst:Env->Sem Bool)(t:TT):Prop:=
 ∀(pins:List (V0×Obj))(s:M1)(σ:St)(H:Hp)(Q:Bool->Hp->Prop),Inv X pins σ H s->t σ H Q->wpAny (model X.prog X.w) X.A (tst X.env) (TP X pins σ Q) X.xe s
def Z4w:TT:=λ _ H Q=>Q true H
theorem J0Y{X:Cx}:PQ X (λ _=>pure true) Z4w:=λ _ _ _ H _ I h=>wpAny_pure ⟨H,I,h⟩
theorem J4V{X:Cx}{c:Expr}{t:TT}(h:PT X c t):PQ X (λ a=>isTrue c a (eval c a)) t:=h
def Z4k(J:It)(g:TG)(tc:TT)(te:TE)(D:V0)(Q:VK)(σ0:St)(H0:Hp):Prop:=∃W:Nat->Nat->St->Hp->Prop,(∃m,W 0 m σ0 H0)/\∀i m c e,W i m c e->
 (J.stop i e/\Q (.ref D) e)\/(J.go i e/\∃N:St->Hp->Prop,(∀h j,N h j->∃o,o<m/\W (i+1) o h j)/\∀x j,J.yld i e x j->g x c j λ a r=>tc a r λ b p=>if b=true then te a p λ v q=>∃n,q D=some (.lst n)/\n.length<sizeLine/\N a (upd q D (.lst (n++[v])))else N a p)
def Z7j(wi:TI)(nl:List (Option Nat))(g:TG)(tc:TT)(te:TE):TE:=λ σ H Q=>wi σ H λ J a=>∀D,a D=none->Z4k J g tc te D Q (stOf nl σ) (upd a D (.lst []))
theorem Z4a{X:Cx}{N:List V2}{nl:List (Option Nat)}{scope:Scope}{cl:List (V2×V0)}{elt tg iter:Expr}{ifs:List Expr}{pos:Pos}{wi:TI}{g:TG}{tst:Env->Sem Bool}{tc:TT}{te:TE}(hcalm:X.calm=true)(B:BlockOk X N nl scope cl)(hi:PI X tg iter wi)(hg:∀C fp s H,PG (X.block N scope cl C fp s H) tg g)(ht:∀C fp s H,PQ (X.block N scope cl C fp s H) tst tc)(he:∀C fp s H,PE (X.block N scope cl C fp s H) elt te)(hturn:∀(it acc:V1)(env:Env),compTurn (.ListComp elt [⟨tg,iter,ifs,0⟩] scope pos) 0 it acc env=(do
   standAt iter.pos
   match<-pyNext it with
   |none=>pure (.done .next)
   |some v=>
    letOwnedTupleGo tg it v
    assign tg env v
    let ok<-tst env
    if ok then(do
     (do let x<-eval elt env;let _<-call (.builtin "list.append") [acc,x];pure ())
     again (.compLoop (.ListComp elt [⟨tg,iter,ifs,0⟩] scope pos) 0 it acc env))
    else again (.compLoop (.ListComp elt [⟨tg,iter,ifs,0⟩] scope pos) 0 it acc env))) (hs:∀x,foldedSetIterable iter X.env x=pure x) {pins:List (V0×Obj)} {s:M1} {σ:St} {H:Hp} {Q:VK} (I:Inv X pins σ H s) (h:Z7j wi nl g tc te σ H Q) {use:Option (V1->Sem Unit)} {Q':V1->M1->Prop} (hpost:∀(D C:V0) (s' s2:M1) (fp:List V0) (σ':St) (H' H2:Hp),Inv X pins σ H2 s2->(∀b∈fp,FpOk X pins H2 b)->s2.heap.objs.size<=C->Inv (X.block N scope cl C fp s2 H2) [] σ' H' s'->Q (.ref D) H'->compPost (model X.prog X.w) X.A X.xe use Q' (.ref D) C (.ok .next) s') (hpos:Pos):wpAny (model X.prog X.w) X.A (comprehension (.ListComp elt [⟨tg,iter,ifs,0⟩] scope pos) scope X.env hpos (newList []) false (eval iter X.env) use) Q' X.xe s:=by
 refine wpAny_comprehension_free (use:=use) rfl hs B.clos B.kind B.names ?_;refine thn (hi pins s σ H _ I h) λ v s1 h1=>thn h1 λ itv s2 h2=>?_;obtain⟨it,fp,tn,J,H2,e,I2,T,st2,f2,q⟩:=h2;subst e;have hob:∀b∈fp,b<s2.heap.objs.size:=λ b hb=>(let⟨o,e,_⟩:=T.obj 0 _ st2 b hb;Heap.lt_size e);refine wpAny_newObj_type (wpAny_newFunctionEnv B.nocell (by intro y hy;simp at hy) (λ h1 hns hsb=>?_) B.kind);dsimp only at hns hsb ⊢;generalize hD:s2.heap.objs.size=D at hns hsb ⊢;have hC:(s2.heap.push {cls:=.type "list",dict:=none,data:=.seq ([]:List V1).toArray}).objs.size=s2.heap.objs.size+1:=by rw[Heap.size_push]
 generalize hC':(s2.heap.push {cls:=.type "list",dict:=none,data:=.seq ([]:List V1).toArray}).objs.size=C at hns hsb hC ⊢;have hDC:D≠C:=by rw[hC,<-hD];exact(qj7 _).symm
 have lt_ne:∀b,b<s2.heap.objs.size->b≠C:=λ b hb=>by rw[hC];exact qb7 (qh8 hb)
 have old:∀b o,s2.heap.get? b=some o->h1.get? b=some o:=λ b o e=>
  hsb.extBut b o (lt_ne b (Heap.lt_size e)) (Heap.get?_push_of_some _ (Heap.get?_push_of_some _ e))
 have hl:h1.get? D=some {cls:=.type "list",data:=.seq ([]:List V1).toArray 0}:=by
  refine hsb.extBut D _ hDC (Heap.get?_push_of_some _ ?_);rw[<-hD];exact Heap.get?_push_size _ rfl
 have fresh:H2 D=none:=I2.hok.fresh (by rw[hD];exact qa1 _);obtain⟨W,⟨m0,w0⟩,turn⟩:=q D fresh;have hCle:s2.heap.objs.size<=C:=by rw[hC];exact qe1 _
 have stat:∀{H':Hp},(∀b∈fp,H' b=none)->∀b∈fp,FpOk (X.block N scope cl C fp s2 H2) [] H' b:=λ hn b hb=>by
  obtain⟨_,f1,f2',f3,f4,f5⟩:=f2 b hb;refine⟨hn b hb,lt_ne b (hob b hb),λ z=>?_,.inl hb,λ x c e=>f4 x c (B.sub x c e),λ p hp=>absurd hp (by simp[Cx.block])⟩;rcases qa2.mp (I2.stkSub b z)with z|z
  ·exact f1 z
  ·exact f2' z
 have main:∀s4:M1,(∃tk,s4={s2 with heap:=h1,toks:=tk})->
   codeAny (model X.prog X.w) X.A (.compLoop (.ListComp elt [⟨tg,iter,ifs,0⟩] scope pos) 0 (.ref it) (.ref D) (X.block N scope cl C fp s2 H2).env) (compPost (model X.prog X.w) X.A X.xe use Q' (.ref D) C) s4:=by
  rintro s4 ⟨tk,rfl⟩;have I3:Inv (X.block N scope cl C fp s2 H2) [] (stOf nl σ) (upd H2 D (.lst [])) { s2 with heap:=h1,toks:=tk }:=Z8h I2 B f2 hob hD.symm hC old hl hns;refine codeAny_loop rfl (λ n s'=>∃ i σ' H',Inv (X.block N scope cl C fp s2 H2) [] σ' H' s'/\tn i s'.heap/\(∀ b∈fp,H' b=none)/\W i n σ' H') (λ n s5 hI=>?_) m0
   ⟨0,stOf nl σ,_,I3,T.keep 0 _ _ st2 λ b hb o e=>old b o e,λ b hb=>by rw[Z0e (λ z=>absurd (hob b hb) (by rw[z,<-hD];exact qe9 _))];exact(f2 b hb).1,w0⟩
  show wpAny _ X.A ((compTurn (.ListComp elt [⟨tg,iter,ifs,0⟩] scope pos) 0 (.ref it) (.ref D) (X.block N scope cl C fp s2 H2).env).onRaise (λ x=>do noteFrame x (X.block N scope cl C fp s2 H2).env;theTreesLotGoes x)) _ _ s5;refine wpAny_noted ?_;rw[hturn];obtain⟨i,σ5,H5,I5,st5,fr5,w5⟩:=hI;have quiet:∀{α:Type}{t:Sem α}{R:α->M1->Prop}{E':V1->M1->Prop}{s':M1},wpAny (model X.prog X.w) X.A t R (λ _ _=>False) s'->wpAny (model X.prog X.w) X.A t R E' s':=λ hw=>wpAny_mono hw (λ _ _ z=>z) λ _ _ z=>z.elim;refine wpAny_bind (wpAny_standAt ?_);rcases turn i n σ5 H5 w5 with⟨stop,qn⟩|⟨go,Nx,hN,step⟩
  ·refine wpAny_bind (quiet (thn (T.done (X.block N scope cl C fp s2 H2) rfl rfl rfl hcalm i [] s5 σ5 H5 (λ _ _=>False) I5 (stat fr5) st5 stop) λ r s6 ⟨hr,I6⟩=>?_));subst hr;exact quiet (wpAny_pure (hpost D C s6 s2 fp σ5 H5 H2 I2 f2 hCle I6 qn))
  ·refine wpAny_bind (quiet (thn (T.item (X.block N scope cl C fp s2 H2) rfl rfl rfl hcalm i [] s5 σ5 H5 (λ _ _=>False) I5 (stat fr5) st5 go) λ r s6 ⟨u,hr,h6⟩=>?_));subst hr;refine wpAny_bind (quiet (thn h6 λ _ s7 ⟨x,H7,I7,r7,y7,st7,fr7⟩=>?_));have I7':=I7.pinned (stat fr7) (T.obj _ _ st7);have again':∀{σ8:St}{H8:Hp}{s8:M1},Inv (X.block N scope cl C fp s2 H2) ([]++Z7m fp s7.heap) σ8 H8 s8->Nx σ8 H8->∃m,m<n/\∃i σ' H',Inv (X.block N scope cl C fp s2 H2) [] σ' H' s8/\tn i s8.heap/\(∀b∈fp,H' b=none)/\W i m σ' H':=λ{σ8 H8 s8} I8 n8=>by
    obtain⟨m',hm,w8⟩:=hN σ8 H8 n8;refine⟨m',hm,i+1,σ8,H8,I8.unpinned,T.keep _ _ _ st7 λ b hb o e=>(I8.pin (b,o) (qc6 _ (qc6 _ (Z3C hb e)))).1,λ b hb=>?_,w8⟩;obtain⟨o,e,_⟩:=T.obj _ _ st7 b hb;exact(I8.pin (b,o) (qc6 _ (qc6 _ (Z3C hb e)))).2.1
   refine wpAny_bind (quiet (thn (hg C fp s2 H2 _ s7 σ5 H7 x u _ I7' r7 (step x H7 y7)) λ _ s8 ⟨σ8,H8,I8,q8⟩=>?_));refine wpAny_bind (quiet (thn (ht C fp s2 H2 _ s8 σ8 H8 _ I8 q8) λ b s9 ⟨H9,I9,q9⟩=>?_));cases b with
   |false=>exact quiet (wpAny_pure ⟨rfl,again' I9 q9⟩)
   |true=>
    refine wpAny_bind (wpAny_bind (quiet (thn (he C fp s2 H2 _ s9 σ8 H9 _ I9 q9) λ vy s10 hz_=>?_)));obtain⟨y,H10,I10,r10,xs,e10,z10,n10⟩:=hz_;refine wpAny_bind (quiet (thn (Z0B _ s10 σ8 H10 (.ref D) [y] (.ref D) [vy] (λ _ H'=>Nx σ8 H') I10 rfl (.cons r10 .nil) ⟨D,xs,y,rfl,rfl,e10,z10,n10⟩) λ _ s11 ⟨_,H11,I11,_,q11⟩=>?_));exact wpAny_pure (wpAny_pure ⟨rfl,again' I11 q11⟩)
 exact codeAny_compStart_list (main _ ⟨_,rfl⟩) (T.self _ 0 _ _ _ (T.keep 0 _ _ st2 λ b hb o e=>old b o e) (main _ ⟨_,rfl⟩))
section
variable{X:Cx}{N:List V2}{nl:List (Option Nat)}{scope:Scope}{cl:List (V2×V0)}{elt tg iter:Expr}{pos:Pos}{wi:TI}{g:TG}{tc:TT}{te:TE}
theorem Z9v(it a:V1)(env:Env):compTurn (.ListComp elt [⟨tg,iter,[],0⟩] scope pos) 0 it a env=(do
   standAt iter.pos
   match<-pyNext it with
   |none=>pure (.done .next)
   |some v=>
    letOwnedTupleGo tg it v
    assign tg env v
    let ok<-(λ _=>pure true:Env->Sem Bool) env
    if ok then(do
     (do let x<-eval elt env;let _<-call (.builtin "list.append") [a,x];pure ())
     again (.compLoop (.ListComp elt [⟨tg,iter,[],0⟩] scope pos) 0 it a env))
    else again (.compLoop (.ListComp elt [⟨tg,iter,[],0⟩] scope pos) 0 it a env)):=by rfl
theorem Z9y{c:Expr}(it a:V1)(env:Env):compTurn (.ListComp elt [⟨tg,iter,[c],0⟩] scope pos) 0 it a env=(do
   standAt iter.pos
   match<-pyNext it with
   |none=>pure (.done .next)
   |some v=>
    letOwnedTupleGo tg it v
    assign tg env v
    let ok<-(λ env=>isTrue c env (eval c env):Env->Sem Bool) env
    if ok then(do
     (do let x<-eval elt env;let _<-call (.builtin "list.append") [a,x];pure ())
     again (.compLoop (.ListComp elt [⟨tg,iter,[c],0⟩] scope pos) 0 it a env))
    else again (.compLoop (.ListComp elt [⟨tg,iter,[c],0⟩] scope pos) 0 it a env)):=by
 unfold compTurn;simp;rfl
theorem Z7F{pins:List (V0×Obj)}{σ:St}{Q:VK}(D C:V0)(s' a:M1)(fp:List V0)(c:St)(H' H2:Hp)(h:Inv X pins σ H2 a)(i:∀b∈fp,FpOk X pins H2 b)(j:a.heap.objs.size<=C)(J:Inv (X.block N scope cl C fp a H2) [] c H' s')(q:Q (.ref D) H'):compPost (model X.prog X.w) X.A X.xe none (EP X pins σ Q) (.ref D) C (.ok .next) s':=by
 obtain⟨m,n,_⟩:=J.loc;exact⟨m,n,λ u p=>⟨.ref D,H',Z6C h i j J λ b o r e=>p.extBut b o r e,rfl,q⟩⟩
theorem Z0S(a:X.calm=true)(B:BlockOk X N nl scope cl)(b:PI X tg iter wi)(c:∀C fp s H,PG (X.block N scope cl C fp s H) tg g)(e:∀C fp s H,PE (X.block N scope cl C fp s H) elt te)(hs:∀x,foldedSetIterable iter X.env x=pure x:=by intro _;rfl):PE X (.ListComp elt [⟨tg,iter,[],0⟩] scope pos) (Z7j wi nl g Z4w te):=by
 intro pins s σ H Q I h;rw[eval_ListComp];exact Z4a (tst:=λ _=>pure true) a B b c (λ _ _ _ _=>J0Y) e Z9v hs I h Z7F _
theorem Z2I{c:Expr}(a:X.calm=true)(B:BlockOk X N nl scope cl)(e:PI X tg iter wi)(i:∀C fp s H,PG (X.block N scope cl C fp s H) tg g)(j:∀C fp s H,PT (X.block N scope cl C fp s H) c tc)(m:∀C fp s H,PE (X.block N scope cl C fp s H) elt te)(hs:∀x,foldedSetIterable iter X.env x=pure x:=by intro _;rfl):PE X (.ListComp elt [⟨tg,iter,[c],0⟩] scope pos) (Z7j wi nl g tc te):=by
 intro pins s σ H Q I h;rw[eval_ListComp];exact Z4a (tst:=λ b=>isTrue c b (eval c b)) a B e i (λ C fp s H=>J4V (j C fp s H)) m Z9y hs I h Z7F _
end
def Its(x:V2):It:=⟨λ i _=>i<x.cps.size,λ i H v a=>a=H/\∃c,x.cps[i]?=some c/\v=.str ⟨#[c]⟩,λ i _=>i=x.cps.size⟩
def Ite(K:X0)(l:V0):It:=
 ⟨λ i H=>∃a x,SqL K H l a/\a[i]?=some x,λ i H v b=>∃t x,v=.ref t/\H t=none/\b=upd H t (.tup [.int i,x])/\∀a,SqL K H l a->a[i]?=some x,λ i H=>∃a,SqL K H l a/\a.length<=i⟩
theorem J1U{P:Program}{w:M2}{K:X0}{O:List Expr}{x1:Nat}{R:Pos}(l e it:V0)(S:e≠it):Turn P w K (.Tuple O x1 R) (Ite K l) [e,it] e (λ i h=>(∃j,IsEnum h e it i j)/\h.IsListIter it l i)where
 mem:=by simp
 obj:=λ i h B b a=>by
  obtain⟨⟨j,J⟩,o,N,c,d⟩:=B;rcases qa2.mp a with z|z
  ·subst z;exact⟨_,J,λ v q=>by cases q⟩
  ·have T:b=it:=by simpa using z
   subst T;exact⟨o,N,λ v q=>by rw[d]at q;cases q⟩
 keep:=λ i h h' B k=>⟨let⟨j,q⟩:=B.1;⟨j,k e (by simp) _ q⟩,B.2.at λ o q=>k it (by simp) o q⟩
 item:=by
  intro X hP hw hK Z i D s σ H E I hf B hg;subst hP hw hK;obtain⟨xs,x,hq,hx⟩:=hg;obtain⟨a0,rv,p,hz⟩:=I.list hq;obtain⟨u,hu,ru⟩:=rv.get hx;obtain⟨⟨j,J⟩,N⟩:=B;have L:=hf e (by simp);have M:=hf it (by simp);refine wpAny_pyNext_enum_item J N p.isList (x:=u) (by simpa using hu) S λ h' eo b0 ht d0 kk=>?_;refine⟨_,rfl,wpAny_letOwnedTupleGo_enum eo λ h2 en sb=>?_⟩;have c0:s.heap.objs.size≠e:=qh3 (Heap.lt_size J);have U:∀b o,b≠e->b≠it->s.heap.get? b=some o->h2.get? b=some o:=λ b o h1 h3 q=>sb.extBut b o h1 (kk b o h1 h3 q);have fresh:H s.heap.objs.size=none:=I.hok.fresh (qa1 _);have y:∀b o,s.heap.get? b=some o->b≠s.heap.objs.size:=λ b o q=>qb7 (Heap.lt_size q);have Y:∀b o,H b=some o->b≠e/\b≠it:=λ b o q=>⟨Z0g q L.1,Z0g q M.1⟩;have G:h2.get? s.heap.objs.size=some {cls:=.type "tuple",data:=.seq #[.int i s.toks,u]}:=sb.extBut _ _ c0 ht;have g:∀b,b∉[e,it]->b≠e/\b≠it:=λ b a=>⟨λ z=>a (by simp[z]),λ z=>a (by simp[z])⟩;have I2:Inv X D σ (upd H s.heap.objs.size (.tup [.int i,x])) {s with heap:=h2,toks:=s.toks+1}:=by
   refine I.step (g':=s.gens) (d':=s.drawn) (ch:=[e,it]) (λ b a=>?_) (λ b o _ _ a q _=>U b o (g b a).1 (g b a).2 q) (λ b o _ _ a q _=>⟨o.slots,U b o (g b a).1 (g b a).2 q⟩)
    (λ b o _ q n=>by rw[Z0e (y b o q)];exact n) (λ b o a q=>⟨o,U b o (g b a).1 (g b a).2 q⟩) (λ b ys q=>by rw[Z0e (Z0g q fresh)];exact q) (λ b o ys q=>by rw[Z0e (Z0g q fresh)];exact q)
    (λ b ps q=>⟨#[],by rw[Z0e (Z0g q fresh),q];simp⟩) (λ m hm=>hm.at' λ o q=>U _ o L.2.1.symm M.2.1.symm q) (λ b o q=>?_) I.bare
   ·rcases qa2.mp a with z|z
    ·subst z;exact⟨L.2.2.2.1,L.2.1,L.2.2.2.2.1,L.2.2.2.2.2⟩
    ·have T:b=it:=by simpa using z
     subst T;exact⟨M.2.2.2.1,M.2.1,M.2.2.2.2.1,M.2.2.2.2.2⟩
   ·by_cases a:b=s.heap.objs.size
    ·subst a;rw[Z0b]at q;cases q;exact⟨⟨by show 2<=sizeLine;decide,λ o q=>by rw[G]at q;cases q;rfl⟩,[.int i s.toks,u],.cons ⟨_,rfl⟩ (.cons ru .nil),⟨_,G,rfl,_,rfl⟩⟩
    ·rw[Z0e a]at q;refine(I.hok b o q).stay (λ c v Z r=>?_) (λ c r=>by rw[Z0e (Z0g r fresh)];exact r) λ c ys r=>by rw[Z0e (Z0g r fresh)];exact r
     have C:∃o',H c=some o':=by
      rcases Z with z|z
      ·exact⟨o,by rw[z];exact q⟩
      ·exact⟨_,z⟩
     obtain⟨o',C⟩:=C;exact U c v (Y c o' C).1 (Y c o' C).2 r
  refine⟨.ref s.heap.objs.size,_,I2,rfl,⟨_,x,rfl,fresh,rfl,λ ys hy=>by rw[I.list_inj hy hq];exact hx⟩,⟨⟨u,?_⟩,b0.extBut sb.extBut S.symm⟩,λ b a=>?_⟩
  ·have e1:((i+1:Nat):Int)=(i:Int)+1:=by omega
   rw[e1];exact en
  ·rcases qa2.mp a with z|z
   ·subst z;rw[Z0e (y _ _ J)];exact L.1
   ·have T:b=it:=by simpa using z
    subst T;obtain⟨o,s3,_⟩:=N;rw[Z0e (y _ _ s3)];exact M.1
 done:=by
  intro X hP hw hK Z i D s σ H E I hf B hg;subst hP hw hK;obtain⟨xs,hq,hx⟩:=hg;obtain⟨a0,rv,p,hz⟩:=I.list hq;obtain⟨⟨j,J⟩,N⟩:=B;obtain⟨f0,f1,f2,f3,f4,f5⟩:=hf it (by simp);have hl:=rv.length;exact wpAny_pyNext_enum_end (I.ok.hd Z) J N p.isList (by simp;omega) λ h' eb=>⟨rfl,I.turned (t':=s.toks) (λ b o a q=>eb b o a q) f0 f1 f3 f4 f5⟩
 self:=λ A i s Q E B h=>(let⟨j,q⟩:=B.1;wpAny_pyIter_enum q h)
section
variable{X:Cx}
def J6N(K:X0)(ta:TA):TI:=λ c H R=>ta c H λ e b=>∃a,e=[.ref a]/\(∃g,SqL K b a g)/\R (Ite K a) b
theorem J5L{g:List Expr}{y:Nat}{i:Pos}{a:Expr}{v:TA}{p j:Pos}(A:Gl X "enumerate")(B:X.mg "enumerate"=none)(r:bootBuiltins "enumerate"=some (.type "enumerate"))(ha:PA X [a] v)(hs:starEach [a] X.env=[(false,eval a X.env)]:=by rfl):PI X (.Tuple g y i) (.Call (.Name "enumerate" p) [a] [] j) (J6N X.K v):=by
 intro m s C H R I h;refine Call_ (Z4e I A B r (PyProof.Rows.callWith_type1 (thn (ha j m s C H _ I h) λ S c ⟨T,D,o,E,G⟩=>?_) hs rfl));obtain⟨l,e,⟨U,J⟩,q⟩:=G;subst e;obtain⟨u,rfl,K⟩:=E.one;cases K;obtain⟨L,Y,M,Z⟩:=o.list J;refine call_enumerate_list M.isList λ h' x N O P=>wpAny_pyIter_enum x ?_;refine⟨c.heap.objs.size+1,[c.heap.objs.size+1,c.heap.objs.size],_,_,D,rfl,o.kept (t':=c.toks) P,J1U l _ _ (qj7 _),⟨⟨_,x⟩,N⟩,λ b r=>?_,q⟩;have n:c.heap.objs.size<=b:=by
  rcases qa2.mp r with z|z
  ·rw[z];exact qe1 _
  ·have Q:b=c.heap.objs.size:=by simpa using z
   rw[Q];exact qa1 _
 exact o.fpOk n (o.hok.fresh n)
end
theorem BlockOk.plain{X:Cx}{N:List V2}{scope:Scope}(kind:scope.kind=.function)(nocell:∀y∈scope.names,y.2≠.cell)(names:∀y∈scope.names,y.2=.local->scope.names.lookup y.1=some .local)(a:∀y∈scope.names,y.2≠.free):BlockOk X N (N.map λ _=>none) scope []where
 kind:=kind
 nocell:=nocell
 names:=names
 clos:=closureFor_none a
 sub:=λ y c h=>by simp at h
 has:=λ y h=>absurd rfl (a _ (Z1r h))
 len:=by simp
 seen:=λ i j y _ h=>by
  rw[qa4]at h;cases q:N[i]? with
  |none=>rw[q]at h;cases h
  |some z=>rw[q]at h;cases h
theorem J1C{J:It}{g:TG}{G:TT}{I:TE}{Q:VK}{H:Hp}{D:V0}{u:St}(ys:List V)(p:V->Bool)(f:V->V)(j:St->Prop)(o:V->St->Prop)(N:j u)(B:∀i l,i<ys.length->J.go i (upd H D (.lst l)))(q:∀l,J.stop ys.length (upd H D (.lst l)))(O:∀i l x n,i<ys.length->J.yld i (upd H D (.lst l)) x n->n=upd H D (.lst l)/\ys[i]?=some x)(P:∀x∈ys,∀c n K,j c->(∀h,j h->o x h->K h n)->g x c n K)(R:∀x∈ys,∀c l K,o x c->K (p x) (upd H D (.lst l))->G c (upd H D (.lst l)) K)(S:∀x∈ys,p x=true->∀c l K,o x c->K (f x) (upd H D (.lst l))->I c (upd H D (.lst l)) K)(hz:ys.length<=sizeLine)(T:Q (.ref D) (upd H D (.lst ((ys.filter p).map f)))):Z4k J g G I D Q u (upd H D (.lst [])):=by
 refine⟨λ i m c n=>m=ys.length-i/\i<=ys.length/\j c/\n=upd H D (.lst (((ys.take i).filter p).map f)),⟨ys.length,by simp,qa6 _,N,by simp⟩,?_⟩;rintro i m c n ⟨rfl,Z,U,rfl⟩;by_cases r:i<ys.length
 ·refine .inr ⟨B i _ r,λ v A=>j v/\A=upd H D (.lst (((ys.take (i+1)).filter p).map f)),λ v A ⟨a,b⟩=>⟨ys.length-(i+1),qR,rfl,r,a,b⟩,λ x A X=>?_⟩;obtain⟨Y,y⟩:=O i _ x A r X;subst Y;have C:x∈ys:=qb0 y;have L:ys.take (i+1)=ys.take i++[x]:=by rw[List.take_add_one,y];rfl
  refine P x C c _ _ U λ h z M=>R x C h _ _ M ?_;cases E:p x with
  |true=>
   refine iteT (S x C E h _ _ M ⟨_,Z0b,?_,z,?_⟩)
   ·rw[qa0];have a1:=qe4 p (ys.take i);have a2:(ys.take i).length=i:=by rw[qb3];omega
    omega
   ·rw[J5r,L,qg7,qc2];simp[E]
  |false=>
   refine iteF ⟨z,?_⟩;rw[L,qg7,qc2];simp[E]
 ·have e:i=ys.length:=by omega
  subst e;refine .inl ⟨q _,?_⟩;rw[qh9];exact T
theorem BlockOk.of{X:Cx}{N:List V2}{nl:List (Option Nat)}{scope:Scope}{cl:List (V2×V0)}(kind:scope.kind=.function)(nocell:∀y∈scope.names,y.2≠.cell)(names:∀y∈scope.names,y.2=.local->scope.names.lookup y.1=some .local)(clos:closureFor scope X.env=pure cl)(sub:∀p∈cl,X.env.cells.lookup p.1=some p.2){nm:List V2}(g:cl.map (·.1)=nm)(has:∀y∈scope.names,y.2=.free->y.1∈nm)(len:nl.length=N.length)(seen:∀i<nl.length,∀j,nl[i]?=some (some j)->∃y,N[i]?=some y/\X.N[j]?=some y/\scope.names.lookup y=some .free/\(X.env.scope.names.lookup y=some .cell\/X.env.scope.names.lookup y=some .free)):BlockOk X N nl scope cl where
 kind:=kind
 nocell:=nocell
 names:=names
 clos:=clos
 sub:=λ y c h=>sub (y,c) (PySem.mem_of_lookup h)
 has:=λ y h=>by
  have m:=has _ (Z1r h) rfl;rw[<-g]at m;cases q:cl.lookup y with
  |some c=>exact⟨c,rfl⟩
  |none=>
   obtain⟨p,o,e⟩:=qb4.mp m;have:=List.lookup_eq_none_iff.mp q p o;simp[e]at this
 len:=len
 seen:=λ i j y r n=>by
  obtain⟨z,a,b,c,d⟩:=seen i (qa7.mp n).1 j n;rw[r]at a;cases a;exact⟨b,c,d⟩
theorem sub1{env:Env}{x:V2}{a:V0}(h:env.cells.lookup x=some a):∀p∈[(x,a)],env.cells.lookup p.1=some p.2:=λ p b=>by
 rcases qa2.mp b with e|b
 ·subst e;exact h
 ·cases b
theorem sub2{env:Env}{x y:V2}{a b:V0}(h:env.cells.lookup x=some a)(h':env.cells.lookup y=some b):∀p∈[(x,a),(y,b)],env.cells.lookup p.1=some p.2:=λ p c=>by
 rcases qa2.mp c with e|c
 ·subst e;exact h
 ·exact sub1 h' p c
theorem J0n{o:TE}{Q:VK}{H:Hp}{D:V0}{n:Nat}{b:St}(p:Option V)(rest:St)(f:Nat->V)(q:b=p::rest)(r:∀i,i<n->∀l K,K (f i) (upd H D (.lst l))->o (some (.int i)::rest) (upd H D (.lst l)) K)(hz:n<=sizeLine)(u:Q (.ref D) (upd H D (.lst ((qd2 n).map f)))):Z4k (Itr 0 n) (Z2D 0) Z4w o D Q b (upd H D (.lst [])):=by
 have y:∀i:Nat,(match(V.int (i:Int):V)with| .int x=>x.toNat|_=>0)=i:=λ i=>by simp
 refine J1C ((qd2 n).map λ i:Nat=>V.int i) (λ _=>true) (λ v=>f (match v with | .int x=>x.toNat | _=>0)) (λ a=>∃ v,a=v::rest) (λ x a=>a=some x::rest) ⟨p,q⟩
  (λ i l h=>?_) (λ l=>?_) (λ i l x z g h=>?_) (λ x _ a z K j c=>?_) (λ x m a l K j c=>c) (λ x m A a l K j c=>?_) ?_ ?_
 ·rw[qa0,qg8]at h;exact h
 ·show n<=_;rw[qa0,qg8];exact qa1 _
 ·obtain⟨rfl,m⟩:=h;refine⟨rfl,?_⟩;rw[qa0,qg8]at g;rw[qa4,qm8 g,m,qi3];rfl
 ·obtain⟨v,rfl⟩:=j;exact c _ ⟨_,rfl⟩ rfl
 ·obtain⟨i,g,rfl⟩:=qb4.mp m;rw[j];have:=r i (qf9.mp g) l K;refine this ?_;have e:=c;simp only[qh5]at e;exact e
 ·rw[qa0,qg8];exact hz
 ·rw[List.filter_eq_self.mpr λ _ _=>rfl,qd9];have:((λ v=>f (match v with| .int x=>x.toNat|_=>0))∘λ i:Nat=>V.int i)=f:=by
   funext i;simp
  rw[this];exact u
open PySem.SeqAt
structure Nice(k n:Nat)(d:PyData):Prop where
 lay:d.canLay0=true
 sho:d.showable=true
 leaf:d.leavesShort 30=true
 dep:d.depth<=k
 wt:d.weight<=n
structure NiceL(k n:Nat)(ds:List PyData):Prop where
 lay:PyData.canLayAll0 ds=true
 sho:PyData.showableAll ds=true
 leaf:PyData.leavesShortAll 30 ds=true
 dep:PyData.depthAll ds<=k
 wt:PyData.weightAll ds<=n
theorem NiceL.nil{k n:Nat}:NiceL k n []:=⟨rfl,rfl,rfl,qa6 _,qa6 _⟩
theorem NiceL.cons{k a b n:Nat}{d:PyData}{c:List PyData}(h:Nice k a d)(hs:NiceL k b c)(e:a+1+b<=n):NiceL k n (d::c)where
 lay:=by rw[PyData.canLayAll0,h.lay,hs.lay];rfl
 sho:=by rw[PyData.showableAll,h.sho,hs.sho];rfl
 leaf:=by rw[PyData.leavesShortAll,h.leaf,hs.leaf];rfl
 dep:=by rw[PyData.depthAll];exact qj8.mpr ⟨h.dep,hs.dep⟩
 wt:=by rw[PyData.weightAll];have:=h.wt;have:=hs.wt;omega
theorem NiceL.of{k n:Nat}:∀{a:List PyData},(∀d∈a,Nice k n d)->NiceL k ((n+1)*a.length) a
 |[],_=>.nil
 |d::a,h=>.cons (h d qa9) (NiceL.of λ e b=>h e (qb1 _ b)) (by rw[qc3,Nat.mul_succ];omega)
theorem Nice.lst{k n:Nat}{a:List PyData}(h:NiceL k n a):Nice (k+1) n (.list a)where
 lay:=by rw[PyData.canLay0];exact h.lay
 sho:=by rw[PyData.showable];exact h.sho
 leaf:=by rw[PyData.leavesShort];exact h.leaf
 dep:=by rw[PyData.depth];exact qg1 h.dep
 wt:=by rw[PyData.weight];exact h.wt
theorem Nice.int{k:Nat}{i:Int}(h:i.natAbs<10^18):Nice k 60 (.int i):=by
 have a:i.natAbs.log2<60:=by
  by_cases z:i.natAbs=0
  ·rw[z];decide
  ·exact(Nat.log2_lt z).mpr qR
 refine⟨rfl,?_,?_,qa6 _,?_⟩
 ·rw[PyData.showable];exact decide_eq_true qR
 ·have e:=int_text_length_le10 (k:=18) qQ h;have:(PyData.shown (.int i)).length<=30:=by
   show(Str.ofString (toString i)).length<=30;rw[PySem.ofString_length];omega
  rw[PyData.leavesShort];exact decide_eq_true this
 ·rw[PyData.weight];split<;>omega
theorem Nice.fits{k n:Nat}{d:PyData}(h:Nice k n d)(a:n<=100000):d.shown.length<=sizeLine:=by
 have:=PyData.shown_le 30 qQ d h.leaf;have:=h.wt;rw[sizeLine_eq];omega
theorem J8V{i:Nat}{a:St}{H:Hp}{Q:VK}:tVar i a H Q=(∃v,a[i]?=some (some v)/\Q v H):=rfl
theorem Y0g{v:V}{a:St}{H:Hp}{Q:VK}:tC v a H Q=(Q v H):=rfl
theorem Y0k{t:TE}{a:St}{H:Hp}{Q:Bool->Hp->Prop}:tB t a H Q=(t a H λ x b=>∃c,x=.bl c/\Q c b):=rfl
theorem J9s{t u:TT}{a:St}{H:Hp}{Q:Bool->Hp->Prop}:tAnd t u a H Q=(t a H λ c b=>if c=true then u a b Q else Q false b):=rfl
theorem J9O{t u:TT}{a:St}{H:Hp}{Q:Bool->Hp->Prop}:tOr t u a H Q=(t a H λ c b=>if c=true then Q true b else u a b Q):=rfl
theorem J8I{t:TT}{a:St}{H:Hp}{Q:Bool->Hp->Prop}:tNot t a H Q=(t a H λ c b=>Q (!c) b):=rfl
theorem J8f{b e:TE}{a:St}{H:Hp}{Q:VK}:J6J b e a H Q=(b a H λ x g=>∃c,x=.bl c/\if c=true then e a g Q else Q (.bl false) g):=rfl
theorem J8E{b e:TE}{a:St}{H:Hp}{Q:VK}:tOrV b e a H Q=(b a H λ x g=>∃c,x=.bl c/\if c=true then Q (.bl true) g else e a g Q):=rfl
theorem J8d{D:Ends}{a:St}{H:Hp}:J7L D a H=(D.nx a H):=rfl
theorem J8U{t u:TS}{D:Ends}{a:St}{H:Hp}:tSeq t u D a H=(t {D with nx:=u D} a H):=rfl
theorem J8a{b:TE}{D:Ends}{a:St}{H:Hp}:J6U b D a H=(b a H λ _ c=>D.nx a c):=rfl
theorem J9c{a:TE}{D:Ends}{b:St}{H:Hp}:tRet a D b H=(a b H D.rt):=rfl
theorem J9C{c:TT}{t u:TS}{D:Ends}{a:St}{H:Hp}:tIfS c t u D a H=(c a H λ b e=>if b=true then t D a e else u D a e):=rfl
theorem J7X{i:Nat}{v:V}{a:St}{H:Hp}{Q:St->Hp->Prop}:Z2D i v a H Q=(Q (a.set i (some v)) H):=rfl
theorem J9f{vs:List V}{a:St}{H:Hp}{Q:St->Hp->Prop}:gNil vs a H Q=(vs=[]/\Q a H):=rfl
theorem J8x{t:TG}{u:TGs}{vs:List V}{b:St}{H:Hp}{Q:St->Hp->Prop}:J7f t u vs b H Q=(∃v r,vs=v::r/\t v b H λ a c=>u r a c Q):=rfl
theorem J9u{K:X0}{n:Nat}{t:TGs}{v:V}{c:St}{H:Hp}{Q:St->Hp->Prop}:gTup K n t v c H Q=(∃a b,v=.ref a/\SqT K H a b/\b.length=n/\t b c H Q):=rfl
theorem J8M{to b:TE}{t:TSet}{v:V}{a:St}{H:Hp}{Q:St->Hp->Prop}:gSub to b t v a H Q=(to a H λ o c=>b a c λ i e=>t o i v e λ g=>Q a g):=rfl
theorem J9d{b:TE}{g:TG}{D:Ends}{a:St}{H:Hp}:tAsg b g D a H=(b a H λ x c=>g x a c D.nx):=rfl
theorem J9n{i:Nat}{b:TE}{c:TIp}{D:Ends}{a:St}{H:Hp}:tAug i b c D a H=(∃x,a[i]?=some (some x)/\b a H λ y e=>c x y e λ z g=>D.nx (a.set i (some z)) g):=rfl
theorem J9J{f:Int->Int->Int}{x:V}{y:V}{H:Hp}{Q:VK}:ipI f x y H Q=(∃i j,x=.int i/\y=.int j/\Q (.int (f i j)) H):=rfl
theorem J8D{K:X0}{b:TE}{c:St}{H:Hp}{R:It->Hp->Prop}:J6A K b c H R=(b c H λ x e=>∃a,x=.ref a/\(∃g,SqL K e a g)/\R (Itl K a) e):=rfl
theorem J9B{K:X0}{b:TE}{c:St}{H:Hp}{R:It->Hp->Prop}:iTup K b c H R=(b c H λ x e=>∃a,x=.ref a/\(∃g,SqT K e a g)/\R (Itt K a) e):=rfl
theorem J7Y{a:TA}{b:St}{H:Hp}{R:It->Hp->Prop}:J6B a b H R=(a b H λ c e=>∃j:Int,c=[.int j]/\-(2^62)<=j/\j<2^62/\R (Itr 0 j.toNat) e):=rfl
theorem J9K{r:R2}{b c:TE}{a:St}{H:Hp}{Q:VK}:tOp r b c a H Q=(b a H λ x e=>c a e λ y g=>r x y g Q):=rfl
theorem Y0i{C:Int->Int->Prop}{g:Int->Int->V}{x:V}{y:V}{H:Hp}{Q:VK}:rI C g x y H Q=(∃i j,x=.int i/\y=.int j/\C i j/\Q (g i j) H):=rfl
theorem J9S{g:Int->Int->V}{x:V}{y:V}{H:Hp}{Q:VK}:rI0 g x y H Q=(∃i j,x=.int i/\y=.int j/\Q (g i j) H):=rfl
theorem J9R{x:V}{y:V}{H:Hp}{Q:VK}:rEq x y H Q=(scal x y=true/\Q (.bl (decide (x=y))) H):=rfl
theorem J9L{x:V}{y:V}{H:Hp}{Q:VK}:rNe x y H Q=(scal x y=true/\Q (.bl (!decide (x=y))) H):=rfl
theorem J8z{t:TE}{a:St}{H:Hp}{Q:Bool->Hp->Prop}:J5M t a H Q=(t a H λ x b=>∃k,x=.bl k/\Q k b):=rfl
theorem J9F{a:St}{H:Hp}{Q:List V->Hp->Prop}:tNil a H Q=(Q [] H):=rfl
theorem J8s{b:TE}{c:TA}{a:St}{H:Hp}{Q:List V->Hp->Prop}:Z6j b c a H Q=(b a H λ x e=>c a e λ g h=>Q (x::g) h):=rfl
theorem J8l{sp:Sp}{a:List V}{E:XK}{t:TA}{b:St}{H:Hp}{Q:VK}:J4l sp a E t b H Q=(t b H λ c e=>sp (c++a) e Q E):=rfl
theorem J8k{C:V0}{m:V2}{sp:Sp}{b:List V}{E:XK}{e:TE}{t:TA}{c:St}{H:Hp}{Q:VK}:J2m C m sp b E e t c H Q=(e c H λ x g=>∃a h fs,x=.ref a/\g a=some (.ins C h fs)/\fs.lookup m=none/\t c g λ i j=>sp (x::(i++b)) j Q E):=rfl
theorem J8b{C:V0}{sp:Sp}{a:List V}{E:XK}{t:TA}{e:St}{H:Hp}{Q:VK}:J6b C sp a E t e H Q=(t e H λ g c=>∀x b,c x=none->c b=none->b≠x->sp (.ref x::(g++a)) (upd (upd c b (.own x)) x (.ins C b [])) (λ v h=>v=.non/\Q (.ref x) h) E):=rfl
theorem J9T{r:List V->Hp->VK->Prop}{t:TA}{a:St}{H:Hp}{Q:VK}:tCB r t a H Q=(t a H λ b c=>r b c Q):=rfl
theorem J6v{a:St}{H:Hp}{Q:Option Int->Hp->Prop}:J2c a H Q=(Q none H):=rfl
theorem J8y{t:TE}{a:St}{H:Hp}{Q:Option Int->Hp->Prop}:J7P t a H Q=(t a H λ x b=>∃i,x=.int i/\Q (some i) b):=rfl
theorem J9N{r:V->Option Int->Option Int->Hp->VK->Prop}{b:TE}{c e:TO}{a:St}{H:Hp}{Q:VK}:tSl r b c e a H Q=(b a H λ x g=>c a g λ l h=>e a h λ u i=>r x l u i Q):=rfl
theorem J9o{K:X0}{x:V}{c:Option Int}{e:Option Int}{H:Hp}{Q:VK}:rSlT K x c e H Q=(∃a b,x=.ref a/\SqT K H a b/\¬(HT.sIx b.length 0 c=0/\HT.sIx b.length b.length e=b.length)/\∀p,H p=none->Q (.ref p) (upd H p (.tup (cutV b c e)))):=rfl
theorem J8p{K:X0}{x:V}{y:V}{H:Hp}{Q:VK}:J6Z K x y H Q=(∃a b e c,x=.ref a/\y=.ref b/\SqT K H a e/\SqT K H b c/\e≠[]/\e.length+c.length<=sizeLine/\(c=[]->Q (.ref a) H)/\(c≠[]->∀p,H p=none->Q (.ref p) (upd H p (.tup (e++c))))):=rfl
theorem J8Y{K:X0}{x:V}{y:V}{H:Hp}{Q:VK}:rIxL K x y H Q=(∃p a i v,x=.ref p/\y=.int i/\SqL K H p a/\atI a i=some v/\Q v H):=rfl
theorem J8Q{K:X0}{x:V}{y:V}{H:Hp}{Q:VK}:rIxT K x y H Q=(∃p a i v,x=.ref p/\y=.int i/\SqT K H p a/\atI a i=some v/\Q v H):=rfl
theorem J9I{x:V}{y:V}{H:Hp}{Q:VK}:rIxS x y H Q=(∃z i c,x=.str z/\y=.int i/\z.length<=sizeLine/\atI z.cps.toList i=some c/\Q (.str ⟨#[c]⟩) H):=rfl
theorem J8C{o:V}{i:V}{v:V}{H:Hp}{Q:(Hp->Prop)}:J6E o i v H Q=(∃p a k j,o=.ref p/\i=.int k/\H p=some (.lst a)/\ixN a.length k=some j/\Q (upd H p (.lst (a.set j v)))):=rfl
theorem J9M{K:X0}{a:Bool}{x:V}{y:V}{H:Hp}{Q:VK}:rIn K a x y H Q=(∃p b,y=.ref p/\(SqL K H p b\/SqT K H p b)/\Z4p x=true/\b.all Z4p=true/\Q (.bl (if a then !inV x b else inV x b)) H):=rfl
theorem J9p{K:X0}{T:String}{r:V->List V->Hp->VK->Prop}{to:TE}{a:St}{H:Hp}{Q:VK}:tBM0 K T r to a H Q=(to a H λ x b=>tyV K T x b/\r x [] b Q):=rfl
theorem J9P{K:X0}{T:String}{r:V->List V->Hp->VK->Prop}{to:TE}{t:TA}{a:St}{H:Hp}{Q:VK}:tBM K T r to t a H Q=(to a H λ x b=>tyV K T x b/\t a b λ c e=>r x c e Q):=rfl
theorem J6y{x:V}{vs:List V}{H:Hp}{Q:VK}:J2i x vs H Q=(∃l a y,x=.ref l/\vs=[y]/\H l=some (.lst a)/\a.length<sizeLine/\Q .non (upd H l (.lst (a++[y])))):=rfl
theorem J6x{x:V}{vs:List V}{H:Hp}{Q:VK}:J2r x vs H Q=(∃l b a c,x=.ref l/\vs=[.ref b]/\H l=some (.lst a)/\H b=some (.lst c)/\a.length+c.length<=sizeLine/\Q .non (upd H l (.lst (a++c)))):=rfl
theorem J8K{x:V}{vs:List V}{H:Hp}{Q:VK}:rPop x vs H Q=(∃l a y,x=.ref l/\vs=[]/\H l=some (.lst a)/\a[a.length-1]?=some y/\Q y (upd H l (.lst a.dropLast))):=rfl
theorem J9t{x:V}{y:V}{H:Hp}{Q:VK}:rRep x y H Q=(∃l k a,x=.ref l/\y=.int k/\H l=some (.lst a)/\-(2^63)<=k/\k<2^63/\a.length*k.toNat<=sizeLine/\∀p,H p=none->Q (.ref p) (upd H p (.lst (qc8 k.toNat a).flatten))):=rfl
def Z7E(J:It)(g:TG)(tb:TS)(D:Ends)(σ:St)(H:Hp):Prop:=∃W:Nat->Nat->St->Hp->Prop,(∃m,W 0 m σ H)/\∀i m σ H,W i m σ H->
 (J.stop i H/\D.nx σ H)\/(J.go i H/\∃N:St->Hp->Prop,(∀a b,N a b->∃e,e<m/\W (i+1) e a b)/\∀x b,J.yld i H x b->g x σ b λ c h=>tb {D with nx:=N,ct:=N,bk:=D.nx} c h)
theorem J8H{b:TI}{g:TG}{c:TS}{D:Ends}{a:St}{H:Hp}:tFor b g c D a H=b a H λ J H1=>Z7E J g c D a H1:=rfl
section
variable{κ:Type}[DecidableEq κ]
def valV(kvs:List (κ×V))(k:κ):Option V:=(kvs.find? λ b=>decide (b.1=k)).map (·.2)
def putK(kvs:List (κ×V))(k:κ)(v:V):List (κ×V):=
 if(kvs.any λ b=>decide (b.1=k))=true then kvs.map (λ b=>if b.1=k then(b.1,v)else b)else kvs++[(k,v)]
theorem Z0H{p:κ×V}{r:List (κ×V)}{k:κ}(e:p.1=k):valV (p::r) k=some p.2:=by simp[valV,qi4,e]
theorem Z0z{p:κ×V}{r:List (κ×V)}{k:κ}(e:¬p.1=k):valV (p::r) k=valV r k:=by simp[valV,qi4,e]
theorem Z2W(k:κ):∀kvs:List (κ×V),(kvs.any λ b=>decide (b.1=k))=(valV kvs k).isSome
 |[]=>rfl
 |p::r=>by
  rw[qh7];by_cases e:p.1=k
  ·simp only[Z0H e,decide_eq_true e,Bool.true_or,Option.isSome_some]
  ·rw[Z0z e,decide_eq_false e,Bool.false_or];exact Z2W k r
theorem Z9b(k j:κ)(y:V):∀kvs:List (κ×V),valV (kvs.map λ b=>if b.1=k then(b.1,y)else b) j=(valV kvs j).map λ x=>if j=k then y else x
 |[]=>rfl
 |p::r=>by
  have c:=Z9b k j y r;rw[qb8];by_cases h:p.1=k
  ·rw[if_pos h];by_cases e:p.1=j
   ·rw[Z0H (p:=(p.1,y)) e,Z0H e,qi1,if_pos (e.symm.trans h)]
   ·rw[Z0z (p:=(p.1,y)) e,Z0z e,c]
  ·rw[if_neg h];by_cases e:p.1=j
   ·rw[Z0H (p:=p) e,Z0H e,qi1,if_neg (λ z=>h (e.trans z))]
   ·rw[Z0z (p:=p) e,Z0z e,c]
theorem Z7D(k j:κ)(y:V):∀kvs:List (κ×V),valV kvs k=none->valV (kvs++[(k,y)]) j=if j=k then some y else valV kvs j
 |[],_=>by
  by_cases e:k=j
  ·rw[if_pos e.symm];exact Z0H (p:=(k,y)) e
  ·rw[if_neg (λ z=>e z.symm)];exact Z0z (p:=(k,y)) e
 |p::r,b=>by
  rw[List.cons_append];have c:¬p.1=k:=λ z=>by rw[Z0H z]at b;cases b
  rw[Z0z c]at b;have g:=Z7D k j y r b;by_cases e:p.1=j
  ·rw[Z0H e,Z0H e,if_neg (λ z=>c (e.trans z))]
  ·rw[Z0z e,Z0z e,g]
theorem Z0N(kvs:List (κ×V))(k j:κ)(y:V):valV (putK kvs k y) j=if j=k then some y else valV kvs j:=by
 unfold putK;by_cases a:(kvs.any λ b=>decide (b.1=k))=true
 ·rw[if_pos a,Z9b];rw[Z2W]at a;by_cases e:j=k
  ·obtain⟨x,c⟩:=qm2.mp a;rw[if_pos e,e,c,qi1,if_pos rfl]
  ·rw[if_neg e];cases valV kvs j with
   |none=>rfl
   |some x=>rw[qi1,if_neg e]
 ·rw[if_neg a];refine Z7D k j y kvs ?_;rw[Z2W]at a;cases q:valV kvs k with
  |none=>rfl
  |some x=>rw[q]at a;exact(a rfl).elim
theorem Z1k(kvs:List (κ×V))(k:κ)(v:V):(putK kvs k v).length<=kvs.length+1:=by
 unfold putK;split
 ·rw[qa0];omega
 ·rw[qa5,qc3,qi5];omega
theorem Z5O{kvs:List (κ×V)}{k:κ}(v:V)(h:valV kvs k=none):putK kvs k v=kvs++[(k,v)]:=by
 unfold putK;rw[Z2W,h];exact if_neg qQ
theorem RelO.isSome_eq{o:Option V}{u:Option V1}(r:RelO o u):o.isSome=u.isSome:=by
 cases o with
 |none=>cases u with
  |none=>rfl
  |some _=>exact(show False from r).elim
 |some _=>cases u with
  |none=>exact(show False from r).elim
  |some _=>rfl
theorem KV.val{kvs:List (κ×V)}{vs:List (κ×V1)}(r:KV kvs vs)(k:κ):RelO (valV kvs k) (valueAt vs k):=by
 unfold KV at r;induction r with
 |nil=>exact True.intro
 |@cons p q ps c h t m=>
  obtain⟨j,n⟩:=h;by_cases e:p.1=k
  ·have g:q.1=k:=j.symm.trans e;have b:valueAt (q::c) k=some q.2:=by simp[valueAt,qi4,g]
   rw[Z0H e,b];exact n
  ·have g:¬q.1=k:=λ z=>e (j.trans z);have b:valueAt (q::c) k=valueAt c k:=by simp[valueAt,qi4,g]
   rw[Z0z e,b];exact m
theorem KV.any{kvs:List (κ×V)}{vs:List (κ×V1)}(r:KV kvs vs)(k:κ):(kvs.any λ b=>decide (b.1=k))=vs.any λ b=>decide (b.1=k):=by
 unfold KV at r;induction r with
 |nil=>rfl
 |cons h t c=>rw[qh7,qh7,c,h.1]
theorem KV.repl{kvs:List (κ×V)}{vs:List (κ×V1)}(r:KV kvs vs)(k:κ){y:V}{u:V1}(g:RelV y u):KV (kvs.map λ b=>if b.1=k then(b.1,y)else b) (vs.map λ b=>if b.1=k then(b.1,u)else b):=by
 unfold KV at r ⊢;induction r with
 |nil=>exact .nil
 |@cons p q ps n h t j=>
  rw[qb8,qb8];refine .cons ?_ j;obtain⟨c,m⟩:=h;by_cases e:p.1=k
  ·rw[if_pos e,if_pos (c.symm.trans e)];exact⟨c,g⟩
  ·rw[if_neg e,if_neg (λ z=>e (c.trans z))];exact⟨c,m⟩
theorem KV.put{kvs:List (κ×V)}{vs:List (κ×V1)}(r:KV kvs vs)(k:κ){y:V}{u:V1}(b:RelV y u):KV (putK kvs k y) (stored vs k u):=by
 unfold putK stored;rw[r.any k];by_cases e:(vs.any λ c=>decide (c.1=k))=true
 ·rw[if_pos e,if_pos e];exact r.repl k b
 ·rw[if_neg e,if_neg e];exact Paired.snoc r ⟨rfl,b⟩
theorem KV.length{kvs:List (κ×V)}{vs:List (κ×V1)}(r:KV kvs vs):kvs.length=vs.length:=Paired.length r
end
theorem Z8z{P:Program}{w:M2}{k:Key}{u:V1}(r:RelV (kV k) u):(Z0F P w).is k u=true:=by
 cases k with
 |inl i=>obtain⟨t,e⟩:=(show ∃t,u=Value.int i t from r);subst e;exact Z8o P w i t
 |inr x=>obtain⟨t,e⟩:=(show ∃t,u=Value.str x t from r);subst e;exact Z8C P w x t
theorem Z7e{P:Program}{w:M2}:∀{b:List Key}{c:List V1},Vals (b.map kV) c->ItemsAre (Z0F P w) b c
 |[],_,r=>by rw[List.map_nil]at r;cases r;exact .nil
 |k::b,_,r=>by
  rw[qb8]at r;cases r with
  |cons h t=>exact .cons (Z8z h) (Z7e t)
abbrev KT(H:Hp):List (List Key×V)->List (List Key×V0×V1)->Prop:=Paired λ p q=>p.1=q.1/\H q.2.1=some (.tup (p.1.map kV))/\RelV p.2 q.2.2
theorem KT.val{H:Hp}{kvs:List (List Key×V)}{xs:List (List Key×V0×V1)}(r:KT H kvs xs)(k:List Key):RelO (valV kvs k) ((atKey xs k).map (·.2)):=by
 induction r with
 |nil=>exact True.intro
 |@cons p q ps c h t m=>
  obtain⟨j,_,n⟩:=h;by_cases e:p.1=k
  ·have g:q.1=k:=j.symm.trans e;have b:atKey (q::c) k=some q.2:=by simp[atKey,qi4,g]
   rw[Z0H e,b];exact n
  ·have g:¬q.1=k:=λ z=>e (j.trans z);have b:atKey (q::c) k=atKey c k:=by simp[atKey,qi4,g]
   rw[Z0z e,b];exact m
theorem KT.repl{H:Hp}{kvs:List (List Key×V)}{xs:List (List Key×V0×V1)}(r:KT H kvs xs)(k:List Key){y:V}{u:V1}(j:RelV y u):KT H (kvs.map λ c=>if c.1=k then(c.1,y)else c) (xs.map (putAt k u)):=by
 induction r with
 |nil=>exact .nil
 |@cons p q ps x h t m=>
  rw[qb8,qb8];refine .cons ?_ m;obtain⟨b,g,n⟩:=h;unfold putAt;by_cases e:p.1=k
  ·rw[if_pos e,if_pos (b.symm.trans e)];exact⟨b,g,j⟩
  ·rw[if_neg e,if_neg (λ z=>e (b.trans z))];exact⟨b,g,n⟩
theorem KT.put{H:Hp}{kvs:List (List Key×V)}{xs:List (List Key×V0×V1)}(r:KT H kvs xs)(k:List Key){b:V0}{y:V}{u:V1}(g:H b=some (.tup (k.map kV)))(c:RelV y u):KT H (putK kvs k y) (storedH xs k b u):=by
 have e:(kvs.any λ j=>decide (j.1=k))=(atKey xs k).isSome:=by
  rw[Z2W,(r.val k).isSome_eq,Option.isSome_map]
 unfold putK storedH;rw[e];by_cases q:(atKey xs k).isSome=true
 ·rw[if_pos q,if_pos q];exact r.repl k c
 ·rw[if_neg q,if_neg q];exact Paired.snoc r ⟨rfl,g,c⟩
theorem KT.keeps{H H':Hp}{kvs:List (List Key×V)}{xs:List (List Key×V0×V1)}(r:KT H kvs xs)(g:∀b c,H b=some (.tup c)->H' b=some (.tup c)):KT H' kvs xs:=
 Paired.mapP r λ _ _ z=>⟨z.1,g _ _ z.2.1,z.2.2⟩
section
variable{P:Program}{w:M2}{H:Hp}{h:V3}{a:V0}
theorem J6D{u:HO}(ok:HOk P w H h)(e:Rd H a u):ObjOk P w H h a u:=e.ok ok
theorem Z8j{kvs:List (Key×V)}(ok:HOk P w H h)(e:Rd H a (.dK kvs)):kvs.length<=sizeLine/\(a==sysModules)=false/\∃vs,KV kvs vs/\h.DictOf (Z0F P w) a vs:=
 show ObjOk P w H h a (.dK kvs)from J6D ok e
theorem J5P{kvs:List (Key×V)}(ok:HOk P w H h)(e:H a=some (.dK kvs)):kvs.length<=sizeLine/\(a==sysModules)=false/\∃vs,KV kvs vs/\h.DictOf (Z0F P w) a vs:=Z8j ok (.inl e)
theorem Z9l{ks:List Key}(ok:HOk P w H h)(e:H a=some (.tup (ks.map kV))):(tupleKind (Z0F P w)).is h ks a:=by
 obtain⟨_,b,r,o,c,g,n,j⟩:=(show ObjOk P w H h a (.tup (ks.map kV))from ok a _ e);exact⟨o,b.toArray,n,c,g,j,by simpa using Z7e r⟩
theorem J2d{kvs:List (List Key×V)}(ok:HOk P w H h)(e:Rd H a (.dT kvs)):kvs.length<=sizeLine/\(a==sysModules)=false/\∃xs,KT H kvs xs/\h.DictOfH (tupleKind (Z0F P w)) a xs:=by
 obtain⟨z,y,xs,r,o,g,j,n,B,C,D,G⟩:=(show ObjOk P w H h a (.dT kvs)from J6D ok e);refine⟨z,y,xs,r,o,g,j,n,B,C,D,λ x b=>?_,G⟩;have all:∀{l:List (List Key×V)}{m:List (List Key×V0×V1)},KT H l m->∀x∈m,(tupleKind (Z0F P w)).is h x.1 x.2.1:=by
  intro l m q;induction q with
  |nil=>intro x b;exact nomatch b
  |@cons p q ps J c t I=>
   intro x b;rcases qa2.mp b with e|b
   ·subst e;exact Z9l ok (by rw[<-c.1];exact c.2.1)
   ·exact I x b
 exact all r x b
theorem J9g{kvs:List (List Key×V)}(ok:HOk P w H h)(e:H a=some (.dT kvs)):kvs.length<=sizeLine/\(a==sysModules)=false/\∃xs,KT H kvs xs/\h.DictOfH (tupleKind (Z0F P w)) a xs:=J2d ok (.inl e)
end
def DGet(H:Hp)(a:V0)(y:V)(r:Option V):Prop:=
 (∃kvs k,Rd H a (.dK kvs)/\y=kV k/\r=valV kvs k)\/∃kvs k b,Rd H a (.dT kvs)/\y=.ref b/\H b=some (.tup (k.map kV))/\r=valV kvs k
def DPut(H:Hp)(a:V0)(y v:V)(H':Hp):Prop:=
 (∃kvs k,H a=some (.dK kvs)/\y=kV k/\kvs.length<sizeLine/\H'=upd H a (.dK (putK kvs k v)))\/
 ∃kvs k b,H a=some (.dT kvs)/\y=.ref b/\H b=some (.tup (k.map kV))/\kvs.length<sizeLine/\H'=upd H a (.dT (putK kvs k v))
theorem DGet.k{H:Hp}{a:V0}{kvs:List (Key×V)}{k:Key}(e:H a=some (.dK kvs)):DGet H a (kV k) (valV kvs k):=.inl ⟨kvs,k,.inl e,rfl,rfl⟩
theorem DGet.t{H:Hp}{a b:V0}{kvs:List (List Key×V)}{k:List Key}(e:H a=some (.dT kvs))(c:H b=some (.tup (k.map kV))):DGet H a (.ref b) (valV kvs k):=.inr ⟨kvs,k,b,.inl e,rfl,c,rfl⟩
theorem DPut.k{H:Hp}{a:V0}{kvs:List (Key×V)}{k:Key}{v:V}(e:H a=some (.dK kvs))(b:kvs.length<sizeLine):DPut H a (kV k) v (upd H a (.dK (putK kvs k v))):=.inl ⟨kvs,k,e,rfl,b,rfl⟩
theorem DPut.t{H:Hp}{a b:V0}{kvs:List (List Key×V)}{k:List Key}{v:V}(e:H a=some (.dT kvs))(c:H b=some (.tup (k.map kV)))(g:kvs.length<sizeLine):DPut H a (.ref b) v (upd H a (.dT (putK kvs k v))):=.inr ⟨kvs,k,b,e,rfl,c,g,rfl⟩
section
variable{X:Cx}{pins:List (V0×Obj)}{σ:St}{H:Hp}{s:M1}{a:V0}{y v:V}{u r:V1}{o:Option V}{A:V4}{E:V1->M1->Prop}
theorem Inv.big(I:Inv X pins σ H s):sysModules<s.heap.objs.size:=by
 have h:mainGlobals<s.heap.objs.size:=(I.mod.glob.keeps I.bk).lt;exact Nat.lt_trans qQ h
theorem Z7t{Q:V1->M1->Prop}(G:A.units+1<cLine)(I:Inv X pins σ H s)(g:DGet H a y (some v))(C:RelV y u)(h:∀m D,Inv X pins σ H D->RelV v m->Q m D):wpAny (model X.prog X.w) A (getItem (.ref a) u) Q E s:=by
 rcases g with⟨kvs,k,e,n,l⟩|⟨kvs,k,b,e,n,J,l⟩
 ·subst n;obtain⟨z,hd,K,c,q⟩:=Z8j I.hok e;obtain⟨m,x,j⟩:=RelO.some_of (v:=v) (o:=valueAt K k) (by rw[l];exact c.val k);exact wpAny_getItem_of (Z8z C) q.mapOf x (h m _ (I.tok _) j)
 ·subst n;cases(show u=Value.ref b from C);obtain⟨z,hd,L,c,q⟩:=J2d I.hok e;obtain⟨m,x,j⟩:=RelO.some_of (v:=v) (o:=(atKey L k).map (·.2)) (by rw[l];exact c.val k);obtain⟨p,M,B⟩:=qc1.mp x;refine wpAny_getItem_heap (tupleKind_room_in1 G) (Z9l I.hok J) q M ?_;rw[B];exact h m _ (I.tok _) j
theorem d_in{Q:V1->M1->Prop}(x:A.units+1<cLine)(I:Inv X pins σ H s)(g:DGet H a y o)(n:RelV y u)(h:∀p,Inv X pins σ H p->Q (.bool o.isSome) p):wpAny (model X.prog X.w) A (compareOp .In u (.ref a)) Q E s:=by
 rcases g with⟨kvs,k,e,j,l⟩|⟨kvs,k,b,e,j,B,l⟩
 ·subst j;obtain⟨z,hd,C,c,m⟩:=Z8j I.hok e;refine wpAny_in_of (Z8z n) hd m.mapOf ?_;rw[<-(c.val k).isSome_eq,<-l];exact h _ (I.tok _)
 ·subst j;cases(show u=Value.ref b from n);obtain⟨z,hd,D,c,m⟩:=J2d I.hok e;refine wpAny_in_heap (tupleKind_room_in1 x) (Z9l I.hok B) hd m ?_;have q:=(c.val k).isSome_eq;rw[Option.isSome_map]at q;rw[<-q,<-l];exact h _ (I.tok _)
theorem Z8n{h':V3}{t':Nat}{c:HO}(I:Inv X pins σ H s)(g:Mut (H a))(hs:Heap.SameBut a s.heap h')(j:∃q,h'.get? a=some q)(new:ObjOk X.prog X.w (upd H a c) h' a c):Inv X pins σ (upd H a c) {s with heap:=h',toks:=t'}:=
 I.write (x:=a) (e:=a) g (.inl rfl) (λ b q m z=>(hs.2 b m).trans z) j new
theorem Z6P{P:Program}{w:M2}{H':Hp}{h':V3}{kvs:List (Key×V)}{vs:List (Key×V1)}(z:kvs.length<=sizeLine)(hd:(a==sysModules)=false)(b:KV kvs vs)(c:h'.DictOf (Z0F P w) a vs):ObjOk P w H' h' a (.dK kvs):=⟨z,hd,vs,b,c⟩
theorem Z6G{H':Hp}{Q:Unit->M1->Prop}(R:A.units+1<cLine)(I:Inv X pins σ H s)(g:DPut H a y v H')(J:RelV y u)(K:RelV v r)(h:∀L,Inv X pins σ H' L->Q () L):wpAny (model X.prog X.w) A (setItem (.ref a) u r) Q E s:=by
 rcases g with⟨kvs,k,e,p,l,x⟩|⟨kvs,k,b,e,p,M,l,x⟩
 ·subst p x;obtain⟨z,hd,S,j,B⟩:=J5P I.hok e;have C:S.length<=sizeLine:=by rw[<-j.length];exact z
  have D:(putK kvs k v).length<=sizeLine:=by have:=Z1k kvs k v;omega
  refine wpAny_setItem_pairs (hsz:=C) (Z8z J) B λ N m G=>h _ ?_;have T:∃q,N.get? a=some q:=let⟨q,_,_,n,_⟩:=m;⟨q,n⟩;exact Z8n I (by rw[e];exact True.intro) G T (Z6P D hd (j.put k K) m)
 ·subst p x;cases(show u=Value.ref b from J);obtain⟨z,hd,U,j,B⟩:=J9g I.hok e;have C:U.length<=sizeLine:=by rw[<-Paired.length j];exact z
  have D:(putK kvs k v).length<=sizeLine:=by have:=Z1k kvs k v;omega
  refine wpAny_setItem_heap (hsz:=C) (tupleKind_room_in1 R) (Z9l I.hok M) B λ N m G=>h _ ?_;obtain⟨q,Y,Z,n,h2,h3,h4,_,h5⟩:=m;refine Z8n I (by rw[e];exact True.intro) G ⟨q,n⟩ ⟨D,hd,_,(j.put k M K).keeps λ c ys O=>?_,q,Y,Z,n,h2,h3,h4,h5⟩;rw[Z0e (Z4v O e (λ z=>nomatch z))];exact O
end
def NoSl(i:Expr):Prop:=∀b c,subscripted i false b c=operate [b,c] (getItem b c)
theorem J6f{prog:Program}{w:M2}{A:V4}{E:V1->M1->Prop}{s:M1}{env:Env}{value b:Expr}{pos:Pos}{T id:String}{Q:V1->M1->Prop}(q:typeLookup (.type T) "__getitem__"=pure (some (.builtin id)))(hs:NoSl b)(h:wpAny (model prog w) A (eval value env) (λ o g=>wpAny (model prog w) A (eval b env) (λ i s₂=>s₂.TypeIs o T/\wpAny (model prog w) A (getItem o i) Q E s₂) E g) E s):wpAny (model prog w) A (eval (.Subscript value b pos) env) Q E s:=by
 refine Subscript_ (wpAny_mono h (λ o g m=>wpAny_mono m (λ i s₂ c=>?_) λ _ _ x=>x) λ _ _ x=>x);obtain⟨p,c⟩:=c;unfold subscriptTail;refine wpAny_bind ?_;rw[getitemInPython_of_ne p.not_modules];refine wpAny_bind (wpAny_specialOf p q ?_);have fin:wpAny (model prog w) A (subscripted b false o i) (λ r j=>wpAny (model prog w) A (letTemporaryGo value o r>>=λ _=>pure r) Q E j) E s₂:=by
  rw[hs o i];exact wpAny_operating (wpAny_mono c (λ r j n=>wpAny_bind (wpAny_letTemporaryGo (wpAny_pure n))) λ _ _ x=>x)
 first
  |exact wpAny_pure (wpAny_bind fin)
  |exact wpAny_bind (wpAny_pure (wpAny_bind fin))
  |exact wpAny_bind fin
theorem Z8p{X:Cx}{pins:List (V0×Obj)}{σ:St}{H:Hp}{s:M1}{a:V0}{y:V}{o:Option V}(I:Inv X pins σ H s)(g:DGet H a y o):s.TypeIs (.ref a) "dict":=by
 rcases g with⟨kvs,k,e,_,_⟩|⟨kvs,k,b,e,_,_,_⟩
 ·obtain⟨_,_,j,_,c⟩:=Z8j I.hok e;exact c.typeIs
 ·obtain⟨_,_,m,_,c⟩:=J2d I.hok e;exact c.typeIs
def J3t(td ty:TE):TE:=λ σ H Q=>td σ H λ x c=>ty σ c λ y b=>∃a v,x=.ref a/\DGet b a y (some v)/\Q v b
def tDIn(ty td:TE):TE:=λ σ H Q=>ty σ H λ y c=>td σ c λ x b=>∃a o,x=.ref a/\DGet b a y o/\Q (.bl o.isSome) b
def J7i(td ty tv:TE):TS:=λ D σ H=>tv σ H λ v c=>td σ c λ x g=>ty σ g λ y j=>∃a b,x=.ref a/\DPut j a y v b/\D.nx σ b
def J7y(td ty tv:TE)(rd:V->V->Hp->VK->Prop):TS:=λ D σ H=>td σ H λ x g=>ty σ g λ y b=>∃a v,x=.ref a/\DGet b a y (some v)/\
 tv σ b λ j m=>rd v j m λ z n=>∃c,DPut n a y z c/\D.nx σ c
section
variable{X:Cx}{o i e value:Expr}{pos pos' tpos:Pos}{td ty tv:TE}
theorem Z0l(m:X.A.units+1<cLine)(n:PE X o td)(p:PE X i ty)(hs:NoSl i):PE X (.Subscript o i pos) (J3t td ty):=by
 intro pins s σ H Q I h;refine J6f PySem.F.slot_dict_getitem.lookup hs (thn (n pins s σ H _ I h) λ u q ⟨x,z,B,C,D⟩=>thn (p pins q σ z _ B D) λ M N b=>?_);obtain⟨y,G,j,J,a,v,ex,g,K⟩:=b;subst ex;obtain rfl:u=Value.ref a:=C;exact⟨Z8p j g,Z7t m j g J λ O R L c=>⟨v,G,L,c,K⟩⟩
theorem Z4s(c:X.A.units+1<cLine)(j:PE X i ty)(m:PE X o td):PC X .In i o (tDIn ty td):=by
 intro pins s σ H Q I h;refine thn (j pins s σ H _ I h) λ M n ⟨y,p,q,z,B⟩=>thn (m pins n σ p _ q B) λ u N b=>?_;obtain⟨x,C,D,G,a,J,ex,g,K⟩:=b;subst ex;obtain rfl:u=Value.ref a:=G;exact d_in c D g z λ O L=>⟨.bl J.isSome,C,L,rfl,K⟩
theorem Z1g(c:X.A.units+1<cLine)(j:PE X o td)(m:PE X i ty)(n:PE X value tv)(hs:swapsWith value (some (.Subscript o i pos')) pos.line X.env=pure false):PS X (.Assign [.Subscript o i pos'] value pos) (J7i td ty tv):=by
 intro pins s σ H D I h;refine wpAny_Assign_Subscript (thn (n pins s σ H _ I h) λ r p ⟨v,q,z,B,C⟩=>thn (j pins p σ q _ z C) λ u G ⟨x,J,K,L,M⟩=>thn (m pins G σ J _ K M) λ T U b=>?_) hs;obtain⟨y,Y,N,O,a,Q,ex,g,R⟩:=b;subst ex;obtain rfl:u=Value.ref a:=L;exact Z6G c N g O B λ Z S=>⟨σ,Q,S,R⟩
theorem J5z{op:Operator}{rd:V->V->Hp->VK->Prop}(q:X.A.units+1<cLine)(C:PE X o td)(G:PE X i ty)(J:PE X value tv)(j:InOp X op rd)(ha:∀c b new,augStore i c b new=(do holding [new,c,b] (setItem c b new);release [new,c,b] [];pure .next)):PS X (.AugAssign (.Subscript o i tpos) op value pos) (J7y td ty tv rd):=by
 intro pins s σ H D I h;refine wpAny_AugAssign_SubscriptAny (thn (C pins s σ H _ I h) λ u K ⟨x,L,M,N,O⟩=>thn (G pins K σ L _ M O) λ b s2 m=>?_) ha;obtain⟨y,Q,R,B,a,v,ex,g,S⟩:=m;subst ex;obtain rfl:u=Value.ref a:=N;refine Z7t q R g B λ T U Y n=>thn (J pins U σ Q _ Y S) λ Z s4 ⟨y2,H3,I4,p,q3⟩=>thn (j pins s4 σ H3 v y2 T Z _ I4 n p q3) λ w3 s5 ⟨z,H4,I5,rz,H5,g5,q4⟩=>?_;exact Z6G q I5 g5 B rz λ s6 I6=>⟨σ,H5,I6,q4⟩
end
theorem Z9L{P:Program}{w:M2}{H:Hp}(h:V3)(b:sysModules<h.objs.size):ObjOk P w H (h.push {cls:=.type "dict",data:=.dict #[]}) h.objs.size (.dK []):=
 ⟨qa6 _,beq_eq_false_iff_ne.mpr (Ne.symm (qb7 b)),[],.nil,Heap.DictOf.new h⟩
theorem J2V{P:Program}{w:M2}{H:Hp}(h:V3)(b:sysModules<h.objs.size):ObjOk P w H (h.push {cls:=.type "dict",data:=.dict #[]}) h.objs.size (.dT []):=
 ⟨qa6 _,beq_eq_false_iff_ne.mpr (Ne.symm (qb7 b)),[],.nil,_,#[],0,Heap.get?_push_size _ rfl,⟨rfl,rfl,rfl⟩,rfl,rfl,qg9⟩
def J4z:TE:=λ _ H Q=>∀p,H p=none->Q (.ref p) (upd H p (.dK []))
def J7z:TE:=λ _ H Q=>∀p,H p=none->Q (.ref p) (upd H p (.dT []))
section
variable{X:Cx}{pos:Pos}
theorem Z4g:PE X (.Dict [] [] pos) J4z:=λ pins s σ H Q I h=>
 wpAny_Dict_empty ⟨.ref s.heap.objs.size,_,I.laid (a:=s.heap.objs.size) (o:=.dK []) (t':=s.toks) (λ _ _ q=>Heap.get?_push_of_some _ q) (qa1 _) (Z9L s.heap I.big),rfl,h _ (I.hok.fresh (qa1 _))⟩
theorem J2Y:PE X (.Dict [] [] pos) J7z:=λ pins s σ H Q I h=>
 wpAny_Dict_empty ⟨.ref s.heap.objs.size,_,I.laid (a:=s.heap.objs.size) (o:=.dT []) (t':=s.toks) (λ _ _ q=>Heap.get?_push_of_some _ q) (qa1 _) (J2V s.heap I.big),rfl,h _ (I.hok.fresh (qa1 _))⟩
end
def Z4G:List (TE×TE)->St->Hp->(List (V×V)->Hp->Prop)->Prop
 |[],_,H,Q=>Q [] H
 |(b,tv)::r,σ,H,Q=>b σ H λ x c=>tv σ c λ y g=>Z4G r σ g λ ps j=>Q ((x,y)::ps) j
abbrev VV:List (V×V)->List (V1×V1)->Prop:=Paired λ p q=>RelV p.1 q.1/\RelV p.2 q.2
def PPs(X:Cx)(pos:Pos)(keys:List (Option Expr))(values:List Expr)(trs:List (TE×TE)):Prop:=
 ∀(pins:List (V0×Obj))(s:M1)(σ:St)(H:Hp)(Q:List (V×V)->Hp->Prop),Inv X pins σ H s->Z4G trs σ H Q->
  wpAny (model X.prog X.w) X.A (evalPairs (pairTrees keys values X.env pos)) (λ c g=>∃ps b,Inv X pins σ b g/\VV ps c/\Q ps b) X.xe s
theorem J1q{X:Cx}{pos:Pos}:PPs X pos [] [] []:=λ pins s σ H Q I h=>pairTrees_nil_walk ⟨[],H,I,.nil,h⟩
theorem Z2S{X:Cx}{pos:Pos}{k v:Expr}{ks:List (Option Expr)}{vs:List Expr}{tk tv:TE}{b:List (TE×TE)}(g:PE X k tk)(j:PE X v tv)(m:PPs X pos ks vs b):PPs X pos (some k::ks) (v::vs) ((tk,tv)::b):=λ pins s σ H Q I h=>
 pairTrees_cons_walk (thn (g pins s σ H _ I h) λ u n ⟨x,p,q,z,B⟩=>thn (j pins n σ p _ q B) λ O C ⟨y,D,G,J,K⟩=>thn (m pins C σ D _ G K) λ R S ⟨ps,L,M,c,N⟩=>⟨(x,y)::ps,L,M,.cons ⟨z,J⟩ c,N⟩)
def Z3a(kvs more:List (Key×V)):List (Key×V):=more.foldl (λ b c=>putK b c.1 c.2) kvs
theorem KV.merge:∀{more:List (Key×V)}{c:List (Key×V1)}{kvs:List (Key×V)}{b:List (Key×V1)},KV more c->KV kvs b->KV (Z3a kvs more) (merged b c):=by
 intro more c kvs b r;unfold KV at r;induction r generalizing kvs b with
 |nil=>intro q;exact q
 |@cons p q ps m h t g=>
  intro j;have e:KV (putK kvs p.1 p.2) (stored b q.1 q.2):=by
   have:=j.put p.1 h.2;rw[<-h.1];exact this
  exact g e
theorem Z3R:∀(more kvs:List (Key×V)),(Z3a kvs more).length<=kvs.length+more.length
 |[],kvs=>by show kvs.length<=kvs.length+0;omega
 |p::r,kvs=>by
  have b:=Z3R r (putK kvs p.1 p.2);have c:=Z1k kvs p.1 p.2;show(Z3a (putK kvs p.1 p.2) r).length<=_;rw[qc3];omega
theorem Z5A{P:Program}{w:M2}:∀{kvs:List (Key×V)}{j:List (V1×V1)},VV (kvs.map λ m=>(kV m.1,m.2)) j->∃g,Carries (Z0F P w) j g/\KV kvs g
 |[],_,r=>by rw[List.map_nil]at r;cases r;exact⟨[],True.intro,.nil⟩
 |p::kvs,_,r=>by
  rw[qb8]at r;cases r with
  |@cons a b x bs h t=>
   obtain⟨g,c,q⟩:=Z5A (P:=P) (w:=w) t;obtain⟨z,n⟩:=b;exact⟨(p.1,n)::g,⟨Z8z h.1,rfl,c⟩,.cons ⟨rfl,h.2⟩ q⟩
def J6P(trs:List (TE×TE)):TE:=λ σ H Q=>∀p,H p=none->Z4G trs σ (upd H p (.dK [])) λ ps b=>b p=some (.dK [])/\∃kvs:List (Key×V),ps=kvs.map (λ c=>(kV c.1,c.2))/\kvs.length<=15/\Q (.ref p) (upd b p (.dK (Z3a [] kvs)))
theorem J2v{X:Cx}{pos:Pos}{keys:List (Option Expr)}{b:List Expr}{g:List (TE×TE)}(h:PPs X pos keys b g)(j:keys.all (·.isSome)=true)(C:keys.length=b.length)(D:keys≠[])(n:keys.length<=15):PE X (.Dict keys b pos) (J6P g):=by
 intro pins s σ H Q I q;have G:=I.hok.fresh (qa1 s.heap.objs.size);have J:=I.laid (a:=s.heap.objs.size) (o:=.dK []) (h':=s.heap.push {cls:=.type "dict",data:=.dict #[]}) (t':=s.toks) (λ _ _ q=>Heap.get?_push_of_some _ q) (qa1 _) (Z9L s.heap I.big);refine wpAny_Dict_walk (knd:=Z0F X.prog X.w) j C D n (thn (h pins _ σ _ _ J (q _ G)) λ ws s2 p=>?_);obtain⟨ps,H2,B,x,e,kvs,K,lk,L⟩:=p;subst K;obtain⟨M,c,N⟩:=Z5A (P:=X.prog) (w:=X.w) x;obtain⟨z,hd,O,R,S⟩:=J5P B.hok e;cases R;refine⟨M,c,S,λ h' m T=>⟨.ref s.heap.objs.size,_,?_,rfl,L⟩⟩;have U:(Z3a [] kvs).length<=sizeLine:=by
  have Y:=Z3R kvs [];rw[qi5]at Y;rw[sizeLine_eq];omega
 have Z:∃q,h'.get? s.heap.objs.size=some q:=let⟨q,_,_,hq,_⟩:=m;⟨q,hq⟩;exact Z8n B (by rw[e];exact True.intro) T Z (Z6P U hd (N.merge .nil) m)
section
variable{X:Cx}{pins:List (V0×Obj)}{σ:St}{H:Hp}{s:M1}{a:V0}{kvs:List (Key×V)}{A:V4}{E:V1->M1->Prop}
theorem J3x{Q:V1->M1->Prop}(I:Inv X pins σ H s)(e:Rd H a (.dK kvs))(h:∀p j,H p=none->Inv X pins σ (upd H p (.dK kvs)) j->Q (.ref p) j):wpAny (model X.prog X.w) A (call (.type "dict") [.ref a]) Q E s:=by
 obtain⟨z,hd,B,c,n⟩:=Z8j I.hok e;refine kt_call_dict hd n (by rw[<-c.length];exact z) λ C g x=>?_;refine h _ _ (I.hok.fresh (qa1 _)) (I.laid (a:=s.heap.objs.size) (o:=.dK kvs) (t':=s.toks) (λ b q m=>?_) (qa1 _) (Z6P z (beq_eq_false_iff_ne.mpr (Ne.symm (qb7 I.big))) c g));exact(x.2 b (qb7 (Heap.lt_size m))).trans (Heap.get?_push_of_some _ m)
end
theorem J8t{c ty:TE}{b:St}{H:Hp}{Q:VK}:J3t c ty b H Q=(c b H λ x g=>ty b g λ y e=>∃a v,x=.ref a/\DGet e a y (some v)/\Q v e):=rfl
theorem J9e{ty c:TE}{b:St}{H:Hp}{Q:VK}:tDIn ty c b H Q=(ty b H λ y g=>c b g λ x e=>∃a o,x=.ref a/\DGet e a y o/\Q (.bl o.isSome) e):=rfl
theorem J8j{c ty e:TE}{D:Ends}{b:St}{H:Hp}:J7i c ty e D b H=(e b H λ v h=>c b h λ x i=>ty b i λ y j=>∃a g,x=.ref a/\DPut j a y v g/\D.nx b g):=rfl
theorem J7W{c ty e:TE}{rd:V->V->Hp->VK->Prop}{D:Ends}{b:St}{H:Hp}:J7y c ty e rd D b H=(c b H λ x i=>ty b i λ y g=>∃a v,x=.ref a/\DGet g a y (some v)/\e b g λ j m=>rd v j m λ z n=>∃h,DPut n a y z h/\D.nx b h):=rfl
theorem J7t{a:St}{H:Hp}{Q:VK}:J4z a H Q=(∀p,H p=none->Q (.ref p) (upd H p (.dK []))):=rfl
def clsV:V->Option V1
 | .ty n=>some (.type n)
 | .ref a=>some (.ref a)
 |_=>none
theorem J3N{c:V}{cv u:V1}(h:clsV c=some cv)(r:RelV c u):u=cv:=by
 cases c with
 |ty n=>cases h;exact r
 |ref a=>cases h;exact r
 |_=>cases h
def rIsi(K:X0):List V->Hp->VK->Prop:=λ e H Q=>∃x c a t b,e=[x,c]/\clsV c=some a/\TyOf K H x t/\W.kitOne K t a=some b/\Q (.bl b) H
section
variable{X:Cx}
theorem J3X:Z3p X (.builtin "isinstance") (rIsi X.K):=by
 intro a s o H p r Q I g h;obtain⟨x,c,y,t,b,rfl,i,ty,e,q⟩:=h;obtain⟨u,v,rfl,j,m⟩:=g.two;rw[J3N i m];exact J0T I j ty e λ n=>⟨.bl b,H,I.tok n,rfl,q⟩
end
section
variable{K:X0}
theorem Z5Q{t:V1}:W.kitOne K t t=some true:=by
 unfold W.kitOne;rw[if_pos (by simp)]
theorem Z6s:W.kitOne K (.type "int") (.type "bool")=some false:=by with_unfolding_all rfl
end
structure Fn(K:X0)(mg:V2->Option V1)(x:V2)(st:Stmt):Prop where
 ex:∃f fd,Fun K x x st f fd/\mg x=some (.ref f)
structure Has(P:Program)(w:M2)(K:X0)(mg:V2->Option V1)(base:V3)(k:Nat)(x:V2)(ps:List V2)(sp:Sp):Prop where
 ex:∃f fd,FnOk P w K mg base CX0 k f fd ps sp/\Binds K fd ps []/\W.keepIn K (.ref f)=true/\mg x=some (.ref f)
structure Cst(mg:V2->Option V1)(x:V2)(v:V):Prop where
 ex:∃u,mg x=some u/\RelV v u
section
variable{P:Program}{w:M2}{K:X0}{mg:V2->Option V1}{base:V3}
theorem Z0Z{h:V3}{x:V2}{st:Stmt}{f:V0}{m:V1}{od n:Option V0}{g:Array (Option V1)}{kV i o b ct:V1}(X:K.In h)(G:h.Ns mainGlobals mg)(a:W.nsIn K mainGlobals x=some (some (.ref f)))(l:K.lookup f=some ⟨m,od,.func (W.fnOf x x (Z2e st) (Z1p st) (Z0h st) .none kV i o n b ct),g⟩)(c:W.codeIn K b x=true)(k:W.keepIn K (.ref f)=true):Fn K mg x st:=
 ⟨f,_,J4W l c k,W.mg_of X G a⟩
theorem Has.of{x:V2}{st:Stmt}{N ps:List V2}{k:Nat}{sp:Sp}(F:Fn K mg x st)(S:Z0k N ps (Z0h st))(n:∀(kV h o:V1)(q:Option V0)(a r:V1)(i:List V1),i.length=ps.length->bindArgs (W.fnOf x x (Z2e st) (Z1p st) (Z0h st) .none kV h o q a r) ⟨i,[]⟩=pure (ps.zip i))(len:∀g H Q E,sp g H Q E->g.length=ps.length)(b:∀(f:V0)(a:V1)(A:V4)(c:List Env)(s:M1)(H:Hp)(g:List V)(Q:VK)(E:XK),Room k (A.deeper (envOfC x (Z0h st) s.heap.objs.size f a))->sp g H Q E->∃t,PSs (cxOf CX0 P w K mg base N x (Z0h st) f a A c s H E).nox (Z1p st) t/\t {nx:=λ _ u=>Q .non u,rt:=Q} (Z5m N g) H):Has P w K mg base (k+1) x ps sp:=by
 obtain⟨f,y,F,m⟩:=F.ex;exact⟨f,y,F.ok S len λ a=>b f a,F.binds n,F.kp,m⟩
theorem J6l{fa:V0}{k:Nat}{x:V2}{st:Stmt}{sp:Sp}(F:Fn K mg "law" st)(g:mg "law"=some (.ref fa))(o:∀(kV a h:V1)(i:Option V0)(b n u:V1),bindArgs (W.fnOf "law" "law" (Z2e st) (Z1p st) (Z0h st) .none kV a h i b n) ⟨[u],[]⟩=pure [(x,u)])(ok:∀(f:V0)(c:FuncData)(base:V3),Fun K "law" "law" st f c->FnOk P w K mg base CX0 k f c [x] sp):∃c:FuncData,(∀(s:M1)(u:V1),BindsTo s c ⟨[u],[]⟩ [(x,u)])/\∀base:V3,K.In base->base.Ns mainGlobals mg->FnOk P w K mg base CX0 k fa c [x] sp:=by
 obtain⟨f,c,F,m⟩:=F.ex;cases g.symm.trans m;have q:=F;obtain⟨z,A,kV,a,h,i,b,n,r,rfl,B,y⟩:=F.ex;exact⟨_,λ s u=>.of_eq (o kV a h i b n u),λ base _ _=>ok _ _ base q⟩
end
section
variable{X:Cx}{x:V2}{ps:List V2}{sp:Sp}{k j:Nat}{e:Expr}{es:List Expr}{t:TA}{p pos:Pos}{v:V}
theorem J7r(h:Has X.prog X.w X.K X.mg X.base k x ps sp)(g:Room j X.A)(i:k<=j)(n:Gl X x)(ha:PA X (e::es) t)(a:(x==("__debug__":V2))=false:=by decide)(o:starEach (e::es) X.env=(false,eval e X.env)::starEach es X.env:=by rfl)(c:(backTo pos (starEach es X.env)).any (·.1)=false:=by rfl):PE X (.Call (.Name x p) (e::es) [] pos) (J4l sp [] E0 t):=by
 obtain⟨f,q,F,b,kp,m⟩:=h.ex;exact J5q F (g.mono i) n m kp b .nil J3y ha a o c
def J9a(i j:Int):Prop:=j≠0/\-(2^64)<j/\j<2^64
theorem Z8M:OpR X (binaryOp .FloorDiv) (rI J9a λ i j=>.int (i.fdiv j)):=opI λ i j _ _ _ _ _ a q=>floordiv_int a.1 q (.inl (PyProof.noPylong_of_log2 (by
 have h:j.natAbs<2^64:=by have:=a.2;omega
 have:=(Nat.log2_lt (by have:=a.1;omega)).mpr h;omega)))
end
theorem Z0n{H:Hp}{p:V0}(h:H p=none)(o:HO):Same H (upd H p o):=λ b u q=>by rw[Z0e (Z0g q h)];exact q
theorem Z1i{K:X0}{a:V0}{g:TG}{n:TS}{D:Ends}{h:St}{H:Hp}(xs:List V)(j:Nat->St->Hp->Prop)(o:j 0 h H)(p:∀i h H,i<=xs.length->j i h H->SqL K H a xs)(hs:∀i x h H,xs[i]?=some x->j i h H->g x h H λ m q=>n {D with nx:=j (i+1),ct:=j (i+1),bk:=D.nx} m q)(hd:∀h H,j xs.length h H->D.nx h H):Z7E (Itl K a) g n D h H:=
 J3G j o p hs hd
theorem Z2Z{K:X0}{a:V0}{g:TG}{n:TS}{D:Ends}{h:St}{H:Hp}(xs:List V)(j:Nat->St->Hp->Prop)(o:j 0 h H)(p:∀i h H,i<=xs.length->j i h H->SqT K H a xs)(hs:∀i x h H,xs[i]?=some x->j i h H->g x h H λ m q=>n {D with nx:=j (i+1),ct:=j (i+1),bk:=D.nx} m q)(hd:∀h H,j xs.length h H->D.nx h H):Z7E (Itt K a) g n D h H:=
 J5B j o p hs hd
theorem Z3r{o:Int}{n:Nat}{g:TG}{p:TS}{D:Ends}{h:St}{H:Hp}(j:Nat->St->Hp->Prop)(q:j 0 h H)(hs:∀i h H,i<n->j i h H->g (.int (o+i)) h H λ m r=>p {D with nx:=j (i+1),ct:=j (i+1),bk:=D.nx} m r)(hd:∀h H,j n h H->D.nx h H):Z7E (Itr o n) g p D h H:=
 J2j j q hs hd
theorem SqL.same{K:X0}{H H':Hp}{a:V0}{xs:List V}(h:SqL K H a xs)(s:Same H H'):SqL K H' a xs:=s.seq h
theorem SqT.same{K:X0}{H H':Hp}{a:V0}{xs:List V}(h:SqT K H a xs)(e:Same H H'):SqT K H' a xs:=by
 rcases h with(h|⟨o,h⟩)|h
 ·exact .inl (.inl (e _ _ h))
 ·exact .inl (.inr ⟨o,e _ _ h⟩)
 ·exact .inr h
section
variable{K:X0}{H:Hp}{Q:VK}{i:Int}{b:Bool}{x:V2}
theorem Z5c{v:V}{n:String}{t:V1}{k:Bool}(o:∀g,TyOf K H v g->g=t)(p:TyOf K H v t)(j:W.kitOne K t (.type n)=some k):rIsi K [v,.ty n] H Q=Q (.bl k) H:=by
 refine propext ⟨λ h=>?_,λ h=>⟨_,_,_,_,_,rfl,rfl,p,j,h⟩⟩;obtain⟨x,c,u,g,z,e,r,ty,m,q⟩:=h;cases e;cases r;rw[o _ ty,j]at m;cases m;exact q
theorem J5v:rIsi K [.int i,.ty "int"] H Q=Q (.bl true) H:=Z5c (λ _ h=>by cases h;rfl) (.int i) Z5Q
theorem J4x:rIsi K [.int i,.ty "bool"] H Q=Q (.bl false) H:=Z5c (λ _ h=>by cases h;rfl) (.int i) Z6s
theorem Z7d:W.kitOne K (.type "bool") (.type "int")=some true:=by with_unfolding_all rfl
theorem J6z:rIsi K [.bl b,.ty "int"] H Q=Q (.bl true) H:=Z5c (λ _ h=>by cases h;rfl) (.bl b) Z7d
theorem J5m:rIsi K [.bl b,.ty "bool"] H Q=Q (.bl true) H:=Z5c (λ _ h=>by cases h;rfl) (.bl b) Z5Q
theorem J5i:rIsi K [.str x,.ty "str"] H Q=Q (.bl true) H:=Z5c (λ _ h=>by cases h;rfl) (.str x) Z5Q
end
theorem ix0{g:Type}{x:g}{xs:List g}:atI (x::xs) 0=some x:=by simp[atI,ixN]
theorem ix1{g:Type}{x y:g}{xs:List g}:atI (x::y::xs) 1=some y:=by
 have:((1:Int)<(xs.length:Int)+1+1):=by omega
 simp[atI,ixN,this]
theorem J9V{CX:CXT}{P:Program}{w:M2}{K:X0}{mg:V2->Option V1}{base:V3}{N:List V2}{qual:V2}{scope:Scope}{f:V0}{g:V1}{A:V4}{outer:List Env}{s:M1}{H:Hp}{E:XK}:(cxOf CX P w K mg base N qual scope f g A outer s H E).K=K:=rfl
theorem J4B:bootBuiltins "len"=some (.builtin "len"):=by decide+kernel
theorem J6Y:bootBuiltins "max"=some (.builtin "max"):=by decide+kernel
theorem J4X:bootBuiltins "min"=some (.builtin "min"):=by decide+kernel
theorem J7S:bootBuiltins "sum"=some (.builtin "sum"):=by decide+kernel
theorem J1s:bootBuiltins "repr"=some (.builtin "repr"):=by decide+kernel
theorem Z4J:bootBuiltins "sorted"=some (.builtin "sorted"):=by decide+kernel
theorem Z5H:bootBuiltins "isinstance"=some (.builtin "isinstance"):=by decide+kernel
theorem Z5r:bootBuiltins "int"=some (.type "int"):=by decide+kernel
theorem Z3n:bootBuiltins "list"=some (.type "list"):=by decide+kernel
theorem Z0O:bootBuiltins "tuple"=some (.type "tuple"):=by decide+kernel
theorem Z7T:bootBuiltins "dict"=some (.type "dict"):=by decide+kernel
theorem Z4Q:bootBuiltins "reversed"=some (.type "reversed"):=by decide+kernel
theorem Z6S:bootBuiltins "enumerate"=some (.type "enumerate"):=by decide+kernel
section
variable{a c:Int}{b e:Bool}{x y:V2}
theorem Y0f:scal (.non) (.non)=true:=rfl
theorem Y0h:scal (.non) (.int a)=true:=rfl
theorem Y0n:scal (.int a) (.non)=true:=rfl
theorem J9Y:scal (.non) (.bl b)=true:=rfl
theorem J9X:scal (.bl b) (.non)=true:=rfl
theorem Y0b:scal (.non) (.str x)=true:=rfl
theorem Y0d:scal (.str x) (.non)=true:=rfl
theorem Y0c:scal (.int a) (.int c)=true:=rfl
theorem Y0l:scal (.bl b) (.bl e)=true:=rfl
theorem Y0j:scal (.str x) (.str y)=true:=rfl
theorem Y0e:scal (.int a) (.str x)=true:=rfl
theorem J9Z:scal (.str x) (.int a)=true:=rfl
theorem Y0m:scal (.bl b) (.str x)=true:=rfl
theorem J9W:scal (.str x) (.bl b)=true:=rfl
end
def Z5Y(H H':Hp):Prop:=∀b o,(∀a,o≠.lst a)->H b=some o->H' b=some o
theorem Z6Y{L:TE}{Q:VK}{H:Hp}{D:V0}{n:Nat}{C:St}(M:Option V)(rest:St)(R:Nat->V->Hp->Prop)(mono:∀j v A p,R j v A->Z5Y A p->R j v p)(Z:C=M::rest)(N:H D=none)(hz:n<=sizeLine)(he:∀i,i<n->∀A (O:VK),Same H A->(∀v p,Same A p->R i v p->O v p)->L (some (.int i)::rest) A O)(hQ:∀g q,Same H q->q D=some (.lst g)->g.length=n->(∀j v,g[j]?=some v->R j v q)->Q (.ref D) q):Z4k (Itr 0 n) (Z2D 0) Z4w L D Q C (upd H D (.lst [])):=by
 refine⟨λ i m E q=>m=n-i/\i<=n/\(∃v,E=v::rest)/\Same H q/\∃g,q D=some (.lst g)/\g.length=i/\∀j v,g[j]?=some v->R j v q,⟨n,by simp,qa6 _,⟨M,Z⟩,Z0n N _,[],Z0b,rfl,λ j v h=>by simp at h⟩,?_⟩;rintro i m E q ⟨rfl,hi,⟨v,rfl⟩,I,g,P,S,T⟩;by_cases y:i<n
 ·refine .inr ⟨y,λ G p=>(∃v,G=v::rest)/\Same H p/\∃g,p D=some (.lst g)/\g.length=i+1/\∀j v,g[j]?=some v->R j v p,λ G p ⟨a,b,c⟩=>⟨n-(i+1),qR,rfl,y,a,b,c⟩,λ x p hx=>?_⟩;obtain⟨e1,e2⟩:=hx;subst e1 e2;unfold Z2D Z4w;rw[qi6,qi3];refine iteT (he i y p _ I λ v U J hR=>?_);have X:=J _ _ P;have Y:Z5Y U (upd U D (.lst (g++[v]))):=λ b o ho r=>by
   rw[Z0e (λ z=>by rw[z,X]at r;cases r;exact ho _ rfl)];exact r
  refine⟨g,X,qR,⟨_,rfl⟩,λ b o r=>?_,_,Z0b,by rw[qa5,S];rfl,λ j u B=>?_⟩
  ·rw[Z0e (Z0g r N)];exact J _ _ (I _ _ r)
  ·by_cases K:j<g.length
   ·rw[qi2 K]at B;exact mono j u _ _ (mono j u _ _ (T j u B) λ b o _ r=>J b o r) Y
   ·rw[qh4 qR]at B;have ej:j-g.length=0:=by
     have:=(qa7.mp B).1;simp at this;omega
    rw[ej]at B;cases B;have:j=i:=by omega
    subst this;exact mono _ _ _ _ hR Y
 ·have e:i=n:=by omega
  subst e;exact .inl ⟨qa1 _,hQ g q I P S T⟩
theorem Z5B{J:It}{M:TE}{Q:VK}{H:Hp}{D:V0}{ys:List V}{C:St}(N:Option V)(rest:St)(R:Nat->V->Hp->Prop)(mono:∀j v p g,R j v p->Z5Y p g->R j v g)(e0:C=N::rest)(O:H D=none)(hz:ys.length<=sizeLine)(j1:∀i p,Same H p->i<ys.length->J.go i p)(j2:∀i p x g,Same H p->J.yld i p x g->g=p/\ys[i]?=some x)(j3:∀p,Same H p->J.stop ys.length p)(he:∀i y,ys[i]?=some y->∀p (P:VK),Same H p->(∀v g,Same p g->R i v g->P v g)->M (some y::rest) p P)(hQ:∀n q,Same H q->q D=some (.lst n)->n.length=ys.length->(∀j v,n[j]?=some v->R j v q)->Q (.ref D) q):Z4k J (Z2D 0) Z4w M D Q C (upd H D (.lst [])):=by
 refine⟨λ i m E q=>m=ys.length-i/\i<=ys.length/\(∃v,E=v::rest)/\Same H q/\∃n,q D=some (.lst n)/\n.length=i/\∀j v,n[j]?=some v->R j v q,⟨ys.length,by simp,qa6 _,⟨N,e0⟩,Z0n O _,[],Z0b,rfl,λ j v h=>by simp at h⟩,?_⟩;rintro i m E q ⟨rfl,hi,⟨v,rfl⟩,A,n,S,T,U⟩;by_cases G:i<ys.length
 ·refine .inr ⟨j1 i q A G,λ I g=>(∃v,I=v::rest)/\Same H g/\∃n,g D=some (.lst n)/\n.length=i+1/\∀j v,n[j]?=some v->R j v g,λ I g ⟨a,b,c⟩=>⟨ys.length-(i+1),qR,rfl,G,a,b,c⟩,λ x g hx=>?_⟩;obtain⟨e1,e2⟩:=j2 i q x g A hx;subst e1;unfold Z2D Z4w;rw[qi6];refine iteT (he i x e2 g _ A λ v X K hR=>?_);have Y:=K _ _ S;have Z:Z5Y X (upd X D (.lst (n++[v]))):=λ b o ho r=>by
   rw[Z0e (λ z=>by rw[z,Y]at r;cases r;exact ho _ rfl)];exact r
  refine⟨n,Y,qR,⟨_,rfl⟩,λ b o r=>?_,_,Z0b,by rw[qa5,T];rfl,λ j u B=>?_⟩
  ·rw[Z0e (Z0g r O)];exact K _ _ (A _ _ r)
  ·by_cases L:j<n.length
   ·rw[qi2 L]at B;exact mono j u _ _ (mono j u _ _ (U j u B) λ b o _ r=>K b o r) Z
   ·rw[qh4 qR]at B;have ej:j-n.length=0:=by
     have:=(qa7.mp B).1;simp at this;omega
    rw[ej]at B;cases B;have:j=i:=by omega
    subst this;exact mono _ _ _ _ hR Z
 ·have e:i=ys.length:=by omega
  subst e;exact .inl ⟨j3 _ A,hQ n q A S T U⟩
theorem Z0U{K:X0}{a:V0}{n:TE}{Q:VK}{H:Hp}{D:V0}{ys:List V}{e:St}(o:Option V)(rest:St)(R:Nat->V->Hp->Prop)(mono:∀j v b c,R j v b->Z5Y b c->R j v c)(q:e=o::rest)(r:H D=none)(hz:ys.length<=sizeLine)(ha:∀b,Same H b->SqT K b a ys)(u:∀i y,ys[i]?=some y->∀b (p:VK),Same H b->(∀v c,Same b c->R i v c->p v c)->n (some y::rest) b p)(z:∀m g,Same H g->g D=some (.lst m)->m.length=ys.length->(∀j v,m[j]?=some v->R j v g)->Q (.ref D) g):Z4k (Itt K a) (Z2D 0) Z4w n D Q e (upd H D (.lst [])):=
 Z5B o rest R mono q r hz (λ i b s h=>⟨ys,ys[i],ha b s,qa8 h⟩) (λ i b x c s h=>⟨h.1,h.2 ys (ha b s)⟩) (λ b s=>⟨ys,ha b s,qa1 _⟩) u z
theorem Z2A{K:X0}{a:V0}{n:TE}{Q:VK}{H:Hp}{D:V0}{ys:List V}{e:St}(o:Option V)(rest:St)(R:Nat->V->Hp->Prop)(mono:∀j v b c,R j v b->Z5Y b c->R j v c)(q:e=o::rest)(r:H D=none)(hz:ys.length<=sizeLine)(ha:∀b,Same H b->SqL K b a ys)(u:∀i y,ys[i]?=some y->∀b (p:VK),Same H b->(∀v c,Same b c->R i v c->p v c)->n (some y::rest) b p)(z:∀m g,Same H g->g D=some (.lst m)->m.length=ys.length->(∀j v,m[j]?=some v->R j v g)->Q (.ref D) g):Z4k (Itl K a) (Z2D 0) Z4w n D Q e (upd H D (.lst [])):=
 Z5B o rest R mono q r hz (λ i b s h=>⟨ys,ys[i],ha b s,qa8 h⟩) (λ i b x c s h=>⟨h.1,h.2 ys (ha b s)⟩) (λ b s=>⟨ys,ha b s,qa1 _⟩) u z
def IsK(K:X0):Prop:=True
def Ob(H:Hp)(a:V0)(o:HO):Prop:=H a=some o
section
variable{K:X0}{H H' H1 H2:Hp}{a b p:V0}{o u:HO}{xs ys:List V}
theorem J9x:Ob H a o=(H a=some o):=rfl
grind_pattern J9x=>Ob H a o
theorem Ob.new:Ob (upd H p o) p o:=Z0b
grind_pattern Ob.new=>upd H p o
theorem Ob.same(h:Ob H a o)(s:Same H H'):Ob H' a o:=s _ _ h
grind_pattern Ob.same=>Ob H a o,Same H H'
theorem g_su(h:H p=none):Same H (upd H p o):=Z0n h o
grind_pattern g_su=>upd H p o
theorem g_st(h:Same H H1)(h':Same H1 H2):Same H H2:=h.trans h'
grind_pattern g_st=>Same H H1,Same H1 H2
theorem g_sT(h:SqT K H a xs)(s:Same H H'):SqT K H' a xs:=h.same s
grind_pattern g_sT=>SqT K H a xs,Same H H'
theorem g_sL(h:SqL K H a xs)(s:Same H H'):SqL K H' a xs:=h.same s
grind_pattern g_sL=>SqL K H a xs,Same H H'
theorem g_nT(k:IsK K)(h:Ob H a (.tup xs)):SqT K H a xs:=SqT.of h
grind_pattern g_nT=>IsK K,Ob H a (.tup xs)
theorem g_nL(k:IsK K)(h:Ob H a (.lst xs)):SqL K H a xs:=SqL.of h
grind_pattern g_nL=>IsK K,Ob H a (.lst xs)
end
section
variable{α:Type}{x y z u v:α}{xs:List α}
theorem ix2:atI (x::y::z::xs) 2=some z:=by
 have:((2:Int)<(xs.length:Int)+1+1+1):=by omega
 simp[atI,ixN,this]
theorem ix3:atI (x::y::z::u::xs) 3=some u:=by
 have:((3:Int)<(xs.length:Int)+1+1+1+1):=by omega
 simp[atI,ixN,this]
end
structure Z7S(K:X0)(mg:V2->Option V1)(cn:V2)(C:V0):Prop where
 mgC:mg cn=some (.ref C)
 cl:Cls K C
 mks:W.makesIn K C=true
 kp:W.keepIn K (.ref C)=true
structure MFn(K:X0)(C:V0)(m qual:V2)(st:Stmt):Prop where
 ex:∃f fd,Fun K m qual st f fd/\Meth K C m f
structure HasM(P:Program)(w:M2)(K:X0)(mg:V2->Option V1)(base:V3)(k:Nat)(C:V0)(m:V2)(ps:List V2)(sp:Sp):Prop where
 ex:∃f fd,FnOk P w K mg base CX0 k f fd ps sp/\Binds K fd ps []/\Meth K C m f
section
variable{P:Program}{w:M2}{K:X0}{mg:V2->Option V1}{base:V3}
theorem Z7C{h:V3}{cn:V2}{C:V0}(X:K.In h)(G:h.Ns mainGlobals mg)(a:W.nsIn K mainGlobals cn=some (some (.ref C)))(b:W.plainGet K C Str.empty=true)(hd:W.hasDictIn K C=true)(c:W.plainOver K C=true)(g:W.findIn K (.ref C) "__setattr__"=some (some (.builtin "object.__setattr__")))(mk:W.makesIn K C=true)(kp:W.keepIn K (.ref C)=true):Z7S K mg cn C:=⟨W.mg_of X G a,⟨b,hd,c,g⟩,mk,kp⟩
theorem Z0A{C:V0}{f:V2}(h:W.findIn K (.ref C) f=some none):NoAttr K C f:=h
theorem Z1Y{C:V0}{m qual:V2}{st:Stmt}{f:V0}{n:V1}{od q:Option V0}{g:Array (Option V1)}{kV h r b ct:V1}(a:W.findIn K (.ref C) m=some (some (.ref f)))(i:W.isFn K (.ref f)=true)(l:K.lookup f=some ⟨n,od,.func (W.fnOf m qual (Z2e st) (Z1p st) (Z0h st) .none kV h r q b ct),g⟩)(c:W.codeIn K b qual=true)(k:W.keepIn K (.ref f)=true):MFn K C m qual st:=
 ⟨f,_,J4W l c k,⟨a,i,k⟩⟩
theorem HasM.of{C:V0}{m qual:V2}{st:Stmt}{N ps:List V2}{k:Nat}{sp:Sp}(F:MFn K C m qual st)(S:Z0k N ps (Z0h st))(n:∀(kV h q:V1)(r:Option V0)(a u:V1)(i:List V1),i.length=ps.length->bindArgs (W.fnOf m qual (Z2e st) (Z1p st) (Z0h st) .none kV h q r a u) ⟨i,[]⟩=pure (ps.zip i))(len:∀g H Q E,sp g H Q E->g.length=ps.length)(b:∀(f:V0)(a:V1)(A:V4)(c:List Env)(s:M1)(H:Hp)(g:List V)(Q:VK)(E:XK),Room k (A.deeper (envOfC qual (Z0h st) s.heap.objs.size f a))->sp g H Q E->∃t,PSs (cxOf CX0 P w K mg base N qual (Z0h st) f a A c s H E).nox (Z1p st) t/\t {nx:=λ _ v=>Q .non v,rt:=Q} (Z5m N g) H):HasM P w K mg base (k+1) C m ps sp:=by
 obtain⟨f,y,F,z⟩:=F.ex;exact⟨f,y,F.ok S len λ a=>b f a,F.binds n,z⟩
end
section
variable{X:Cx}{x m:V2}{ps:List V2}{sp:Sp}{k j:Nat}{C:V0}{o e:Expr}{es:List Expr}{ta:TE}{t:TA}{p pos apos:Pos}
theorem J6n{pl:Sem Bool}(n:PE X o ta)(c:Cls X.K C)(h:HasM X.prog X.w X.K X.mg X.base k C m ps sp)(q:Room j X.A)(r:k<=j)(ha:PA X (e::es) t)(a:starEach (e::es) X.env=(false,eval e X.env)::starEach es X.env:=by rfl)(g:(backTo pos (starEach es X.env)).any (·.1)=false:=by rfl)(u:eval (.Call (.Attribute o m apos) (e::es) [] pos) X.env=(do
   let i<-eval o X.env
   standAt apos.atName
   let(f,first)<-holding [i] (getMethod i m pl)
   callWith pos f first (backTo pos (starEach (e::es) X.env)) (backToKw pos (keywordEach [] X.env))):=by rfl):PE X (.Call (.Attribute o m apos) (e::es) [] pos) (J2m C m sp [] E0 ta t):=by
 obtain⟨f,y,F,b,v⟩:=h.ex;exact J6m n c v F (q.mono r) b .nil J3y ha a g u
theorem J3A{pl:Sem Bool}(g:PE X o ta)(c:Cls X.K C)(h:HasM X.prog X.w X.K X.mg X.base k C m ps sp)(i:Room j X.A)(n:k<=j)(q:eval (.Call (.Attribute o m apos) [] [] pos) X.env=(do
   let a<-eval o X.env
   standAt apos.atName
   let(f,first)<-holding [a] (getMethod a m pl)
   callWith pos f first (backTo pos (starEach [] X.env)) (backToKw pos (keywordEach [] X.env))):=by rfl):PE X (.Call (.Attribute o m apos) [] [] pos) (J2m C m sp [] E0 ta tNil):=by
 obtain⟨f,u,F,b,r⟩:=h.ex;exact J3M g c r F (i.mono n) b .nil J3y q
theorem Z7M(c:Z7S X.K X.mg x C)(h:HasM X.prog X.w X.K X.mg X.base k C "__init__" ps sp)(n:Room j X.A)(q:k+1<=j)(r:Gl X x)(ha:PA X (e::es) t)(a:(x==("__debug__":V2))=false:=by decide)(u:starEach (e::es) X.env=(false,eval e X.env)::starEach es X.env:=by rfl)(g:(backTo pos (starEach es X.env)).any (·.1)=false:=by rfl):PE X (.Call (.Name x p) (e::es) [] pos) (J6b C sp [] E0 t):=by
 obtain⟨f,v,F,b,i⟩:=h.ex;exact J5G ⟨c.mks,i.at_,i.fn,c.kp⟩ F (n.mono q) r c.mgC b .nil J3y ha a u g
end
def mono(t:TE):TE:=λ c H Q=>∃a:VK,t c H a/\∀v b,a v b->Q v b
section
variable{X:Cx}{o e value:Expr}{f:V2}{pos pos' tpos:Pos}{ta tv:TE}
theorem PE.mono{t:TE}(h:PE X e t):PE X e (mono t):=λ a s b H Q I ⟨c,g,i⟩=>thn (h a s b H c I g) λ u v ⟨x,n,p,r,q⟩=>⟨x,n,p,r,i _ _ q⟩
def opt2(o:Option (Option V))(R:V->Prop):Prop:=match o with
 |some (some v)=>R v
 |_=>False
theorem J7c{v:V}{R:V->Prop}:opt2 (some (some v)) R=R v:=rfl
def Z4f(i:Nat):TE:=λ a H Q=>opt2 a[i]? λ v=>Q v H
theorem J8v{i:Nat}{a:St}{H:Hp}{Q:VK}:Z4f i a H Q=opt2 a[i]? λ v=>Q v H:=rfl
theorem J6p{o:Option (Option V)}{R:V->Prop}(h:opt2 o R):∃v,o=some (some v)/\R v:=by
 unfold opt2 at h;split at h
 ·exact⟨_,rfl,h⟩
 ·cases h
theorem J6r{i:Nat}{x:V2}(c:X.N[i]?=some x)(g:Vis X.env.scope x)(hd:(x==("__debug__":V2))=false:=by decide)(b:(x==("__classdict__":V2))=false:=by decide):PE X (.Name x pos) (Z4f i):=
 λ a s n H Q I h=>J6X c g hd b a s n H Q I (J6p h)
theorem pvF(i:Nat){x:V2}(b:X.N[i]?=some x:=by rfl)(c:Vis X.env.scope x:=by first|exact Or.inl rfl|exact Or.inr (Or.inl rfl)|exact Or.inr (Or.inr rfl))(hd:(x==("__debug__":V2))=false:=by decide)(a:(x==("__classdict__":V2))=false:=by decide):PE X (.Name x pos) (Z4f i):=J6r b c hd a
inductive Fld(K:X0)(f:V2)(a:V0)(H:Hp)(Q:VK):Prop
 |mk(C dx:V0)(fs:List (V2×V))(h:H a=some (.ins C dx fs))(cl:Cls K C)(n:NoAttr K C f)(v:V)(l:fs.lookup f=some v)(q:Q v H):Fld K f a H Q
def J1d(K:X0)(ta:TE)(f:V2):TE:=λ b H Q=>ta b H λ x c=>∃a,x=.ref a/\Fld K f a c Q
theorem J8c{K:X0}{b:St}{H:Hp}{Q:VK}:J1d K ta f b H Q=ta b H λ x c=>∃a,x=.ref a/\Fld K f a c Q:=rfl
theorem Z2H(i:PE X e ta)(p:attributeBase e f X.env (eval e X.env)=eval e X.env):PE X (.Attribute e f pos) (J1d X.K ta f):=by
 intro b s r H Q I h;refine J5E p (thn (i b s r H _ I h) λ u G g=>?_);obtain⟨x,y,z,A,a,ex,g⟩:=g;obtain⟨C,J,fs,B,c,n,v,l,q⟩:=g;subst ex;cases(show u=Value.ref a from A);exact J0l z B c n l λ K L D E=>⟨v,y,D,E,q⟩
inductive SFld(K:X0)(f:V2)(a:V0)(H:Hp)(R:V0->V0->List (V2×V)->Prop):Prop
 |mk(C dx:V0)(fs:List (V2×V))(h:H a=some (.ins C dx fs))(cl:Cls K C)(n:NoAttr K C f)(l:fs.length<1000)(r:R C dx fs):SFld K f a H R
def J7b(K:X0)(ta tv:TE)(f:V2):TS:=λ D b H=>tv b H λ y g=>ta b g λ x c=>∃a,x=.ref a/\SFld K f a c λ C h fs=>D.nx b (upd c a (.ins C h (putF f y fs)))
theorem J8e{K:X0}{D:Ends}{b:St}{H:Hp}:J7b K ta tv f D b H=tv b H λ y g=>ta b g λ x c=>∃a,x=.ref a/\SFld K f a c λ C h fs=>D.nx b (upd c a (.ins C h (putF f y fs))):=rfl
theorem Z1c(ha:PE X o ta)(p:PE X value tv)(hs:swapsWith value (some (.Attribute o f pos')) pos.line X.env=pure false):PS X (.Assign [.Attribute o f pos'] value pos) (J7b X.K ta tv f):=by
 intro b s g H D I h;refine plainObj_wpAny_Assign_Attribute (thn (p b s g H _ I h) λ u r ⟨y,v,z,A,q⟩=>thn (ha b r g v _ z q) λ B M i=>?_) hs;obtain⟨x,N,E,G,a,ex,i⟩:=i;obtain⟨C,O,fs,J,c,n,l,K⟩:=i;subst ex;cases(show B=Value.ref a from G);exact J0c E J c n l A λ P L=>⟨g,_,L,K⟩
inductive FldC(K:X0)(f:V2)(a:V0)(H:Hp)(R:V0->V->Prop):Prop
 |mk(C dx:V0)(fs:List (V2×V))(h:H a=some (.ins C dx fs))(cl:Cls K C)(n:NoAttr K C f)(v:V)(l:fs.lookup f=some v)(q:R C v):FldC K f a H R
inductive InsC(C a:V0)(H:Hp)(R:V0->List (V2×V)->Prop):Prop
 |mk(dx:V0)(fs:List (V2×V))(h:H a=some (.ins C dx fs))(l:fs.length<1000)(r:R dx fs):InsC C a H R
inductive J1w(C:V0)(m:V2)(a:V0)(H:Hp)(R:Prop):Prop
 |mk(dx:V0)(fs:List (V2×V))(h:H a=some (.ins C dx fs))(l:fs.lookup m=none)(r:R):J1w C m a H R
def J1e(C:V0)(m:V2)(sp:Sp)(dvs:List V)(E:XK)(ta:TE)(t:TA):TE:=λ b H Q=>ta b H λ x c=>∃a,x=.ref a/\J1w C m a c (t b c λ g h=>sp (x::(g++dvs)) h Q E)
theorem J7p{C:V0}{m:V2}{sp:Sp}{b:List V}{E:XK}{t:TA}{c:St}{H:Hp}{Q:VK}:J1e C m sp b E ta t c H Q=ta c H λ x g=>∃a,x=.ref a/\J1w C m a g (t c g λ h i=>sp (x::(h++b)) i Q E):=rfl
variable{C:V0}{m:V2}{ps:List V2}{sp:Sp}{k j:Nat}{es:List Expr}{t:TA}{apos:Pos}
theorem Z4D{pl:Sem Bool}(p:PE X o ta)(c:Cls X.K C)(h:HasM X.prog X.w X.K X.mg X.base k C m ps sp)(q:Room j X.A)(u:k<=j)(ha:PA X (e::es) t)(g:starEach (e::es) X.env=(false,eval e X.env)::starEach es X.env:=by rfl)(i:(backTo pos (starEach es X.env)).any (·.1)=false:=by rfl)(v:eval (.Call (.Attribute o m apos) (e::es) [] pos) X.env=(do
   let n<-eval o X.env
   standAt apos.atName
   let(f,first)<-holding [n] (getMethod n m pl)
   callWith pos f first (backTo pos (starEach (e::es) X.env)) (backToKw pos (keywordEach [] X.env))):=by rfl):PE X (.Call (.Attribute o m apos) (e::es) [] pos) (J1e C m sp [] E0 ta t):=
 λ b s x H Q I y=>J6n p.mono c h q u ha g i v b s x H Q I ⟨_,y,λ _ _ ⟨a,e,z,fs,h,l,r⟩=>⟨a,z,fs,e,h,l,r⟩⟩
theorem Z1M{pl:Sem Bool}(i:PE X o ta)(c:Cls X.K C)(h:HasM X.prog X.w X.K X.mg X.base k C m ps sp)(n:Room j X.A)(p:k<=j)(q:eval (.Call (.Attribute o m apos) [] [] pos) X.env=(do
   let g<-eval o X.env
   standAt apos.atName
   let(f,first)<-holding [g] (getMethod g m pl)
   callWith pos f first (backTo pos (starEach [] X.env)) (backToKw pos (keywordEach [] X.env))):=by rfl):PE X (.Call (.Attribute o m apos) [] [] pos) (J1e C m sp [] E0 ta tNil):=
 λ b s u H Q I v=>J3A i.mono c h n p q b s u H Q I ⟨_,v,λ _ _ ⟨a,e,x,fs,h,l,r⟩=>⟨a,x,fs,e,h,l,r⟩⟩
inductive IxT(K:X0)(p:V0)(i:Int)(H:Hp)(Q:VK):Prop
 |mk(xs:List V)(h:SqT K H p xs)(v:V)(l:atI xs i=some v)(q:Q v H):IxT K p i H Q
inductive IxL(K:X0)(p:V0)(i:Int)(H:Hp)(Q:VK):Prop
 |mk(xs:List V)(h:SqL K H p xs)(v:V)(l:atI xs i=some v)(q:Q v H):IxL K p i H Q
def J0s(K:X0):R2:=λ x y H Q=>∃p,x=.ref p/\∃i,y=.int i/\IxT K p i H Q
def J3a(K:X0):R2:=λ x y H Q=>∃p,x=.ref p/\∃i,y=.int i/\IxL K p i H Q
theorem J8m{K:X0}{x y:V}{H:Hp}{Q:VK}:J0s K x y H Q=∃p,x=.ref p/\∃i,y=.int i/\IxT K p i H Q:=rfl
theorem J8r{K:X0}{x y:V}{H:Hp}{Q:VK}:J3a K x y H Q=∃p,x=.ref p/\∃i,y=.int i/\IxL K p i H Q:=rfl
theorem J1E:IxR X (J0s X.K):=λ value a b s c H x y v u Q I g n ⟨p,r,i,A,B,h,z,l,q⟩ D=>J7G value a b s c H x y v u Q I g n ⟨p,B,i,z,r,A,h,l,q⟩ D
theorem J3C:IxR X (J3a X.K):=λ value a b s c H x y v u Q I g n ⟨p,r,i,A,B,h,z,l,q⟩ D=>J5V value a b s c H x y v u Q I g n ⟨p,B,i,z,r,A,h,l,q⟩ D
inductive SetL(p:V0)(k:Int)(H:Hp)(R:List V->Nat->Prop):Prop
 |mk(xs:List V)(h:H p=some (.lst xs))(j:Nat)(l:ixN xs.length k=some j)(r:R xs j):SetL p k H R
def J4v:TSet:=λ o i v H Q=>∃p,o=.ref p/\∃k,i=.int k/\SetL p k H λ a j=>Q (upd H p (.lst (a.set j v)))
theorem J7s{o i v:V}{H:Hp}{Q:Hp->Prop}:J4v o i v H Q=∃p,o=.ref p/\∃k,i=.int k/\SetL p k H λ a j=>Q (upd H p (.lst (a.set j v))):=rfl
theorem J0Z:PSet X J4v:=λ a s b H o i v c g u Q I n r x ⟨p,y,k,z,A,h,j,l,q⟩=>J4q a s b H o i v c g u Q I n r x ⟨p,A,k,j,y,z,h,l,q⟩
inductive HdOf(vs:List V)(R:V->List V->Prop):Prop
 |mk(v:V)(r:List V)(e:vs=v::r)(q:R v r):HdOf vs R
inductive J5g(K:X0)(a:V0)(n:Nat)(H:Hp)(R:List V->Prop):Prop
 |mk(xs:List V)(h:SqT K H a xs)(l:xs.length=n)(q:R xs):J5g K a n H R
def J7B(K:X0)(n:Nat)(t:TGs):TG:=λ v b H Q=>∃a,v=.ref a/\J5g K a n H λ c=>t c b H Q
theorem J8q{K:X0}{n:Nat}{t:TGs}{v:V}{b:St}{H:Hp}{Q:St->Hp->Prop}:J7B K n t v b H Q=∃a,v=.ref a/\J5g K a n H λ c=>t c b H Q:=rfl
def J4J(t:TG)(u:TGs):TGs:=λ b c H Q=>HdOf b λ v r=>t v c H λ a g=>u r a g Q
theorem J7I{t:TG}{u:TGs}{vs:List V}{b:St}{H:Hp}{Q:St->Hp->Prop}:J4J t u vs b H Q=HdOf vs λ v r=>t v b H λ a c=>u r a c Q:=rfl
theorem Z0u{e:Expr}{es:List Expr}{t:TG}{u:TGs}(b:PG X e t)(h2:PGs X es u)(hs:(assignEach (e::es) X.env).map (·.2)=assign e X.env::(assignEach es X.env).map (·.2):=by rfl):PGs X (e::es) (J4J t u):=
 λ a s c H g h Q I r ⟨v,w,e,q⟩=>J3S b h2 hs a s c H g h Q I r ⟨v,w,e,q⟩
theorem Z2Y{es:List Expr}{k:Nat}{t:TGs}{n:Nat}(g:X.calm=true)(h:PGs X es t)(i:(assignEach es X.env).length=n:=by rfl)(c:(assignEach es X.env).findIdx? (·.1)=none:=by rfl):PG X (.Tuple es k pos) (J7B X.K n t):=
 λ b s p H v u Q I r ⟨a,e,x,y,l,q⟩=>J6K g h i c b s p H v u Q I r ⟨a,x,e,y,l,q⟩
end
@[elab_as_elim] theorem el0 {α:Type} {motive:List α->Prop} (us:List α) (h:us.length=0) (k:motive []):motive us:=match us,h with|[],_=>k
@[elab_as_elim] theorem el1 {α:Type} {motive:List α->Prop} (us:List α) (h:us.length=1) (k:∀a:α,motive [a]):motive us:=match us,h with|[a],_=>k a
@[elab_as_elim] theorem el2 {α:Type} {motive:List α->Prop} (us:List α) (h:us.length=2) (k:∀a b:α,motive [a,b]):motive us:=match us,h with|[a,b],_=>k a b
@[elab_as_elim] theorem el3 {α:Type} {motive:List α->Prop} (us:List α) (h:us.length=3) (k:∀a b c:α,motive [a,b,c]):motive us:=match us,h with|[a,b,c],_=>k a b c
@[elab_as_elim] theorem el4 {α:Type} {motive:List α->Prop} (us:List α) (h:us.length=4) (k:∀a b c d:α,motive [a,b,c,d]):motive us:=match us,h with|[a,b,c,d],_=>k a b c d
@[elab_as_elim] theorem el5 {α:Type} {motive:List α->Prop} (us:List α) (h:us.length=5) (k:∀a b c d e:α,motive [a,b,c,d,e]):motive us:=match us,h with|[a,b,c,d,e],_=>k a b c d e
@[elab_as_elim] theorem el6 {α:Type} {motive:List α->Prop} (us:List α) (h:us.length=6) (k:∀a b c d e f:α,motive [a,b,c,d,e,f]):motive us:=match us,h with|[a,b,c,d,e,f],_=>k a b c d e f
@[elab_as_elim] theorem el7 {α:Type} {motive:List α->Prop} (us:List α) (h:us.length=7) (k:∀a b c d e f g:α,motive [a,b,c,d,e,f,g]):motive us:=match us,h with|[a,b,c,d,e,f,g],_=>k a b c d e f g
theorem seq2{a b:TS}{D:Ends}{c:St}{H:Hp}(h:∀g,g=b->a {D with nx:=g D} c H):(tSeq a b) D c H:=h _ rfl
theorem seq3{a b c:TS}{D:Ends}{g:St}{H:Hp}(h:∀i,i=c->∀n,n=tSeq b i->a {D with nx:=n D} g H):(tSeq a (tSeq b c)) D g H:=h _ rfl _ rfl
theorem seq4{a b c g:TS}{D:Ends}{i:St}{H:Hp}(h:∀n,n=g->∀p,p=tSeq c n->∀q,q=tSeq b p->a {D with nx:=q D} i H):(tSeq a (tSeq b (tSeq c g))) D i H:=h _ rfl _ rfl _ rfl
theorem seq5{a b c g i:TS}{D:Ends}{n:St}{H:Hp}(h:∀p,p=i->∀q,q=tSeq g p->∀r,r=tSeq c q->∀u,u=tSeq b r->a {D with nx:=u D} n H):(tSeq a (tSeq b (tSeq c (tSeq g i)))) D n H:=h _ rfl _ rfl _ rfl _ rfl
theorem seq6{a b c g i n:TS}{D:Ends}{p:St}{H:Hp}(h:∀q,q=n->∀r,r=tSeq i q->∀u,u=tSeq g r->∀v,v=tSeq c u->∀x,x=tSeq b v->a {D with nx:=x D} p H):(tSeq a (tSeq b (tSeq c (tSeq g (tSeq i n))))) D p H:=h _ rfl _ rfl _ rfl _ rfl _ rfl
theorem seq7{a b c g i n p:TS}{D:Ends}{q:St}{H:Hp}(h:∀r,r=p->∀u,u=tSeq n r->∀v,v=tSeq i u->∀x,x=tSeq g v->∀y,y=tSeq c x->∀z,z=tSeq b y->a {D with nx:=z D} q H):(tSeq a (tSeq b (tSeq c (tSeq g (tSeq i (tSeq n p)))))) D q H:=h _ rfl _ rfl _ rfl _ rfl _ rfl _ rfl
theorem seq8{a b c g i n p q:TS}{D:Ends}{r:St}{H:Hp}(h:∀u,u=q->∀v,v=tSeq p u->∀x,x=tSeq n v->∀y,y=tSeq i x->∀z,z=tSeq g y->∀A,A=tSeq c z->∀B,B=tSeq b A->a {D with nx:=B D} r H):(tSeq a (tSeq b (tSeq c (tSeq g (tSeq i (tSeq n (tSeq p q))))))) D r H:=h _ rfl _ rfl _ rfl _ rfl _ rfl _ rfl _ rfl
theorem seq9{a b c g i n p q r:TS}{D:Ends}{u:St}{H:Hp}(h:∀v,v=r->∀x,x=tSeq q v->∀y,y=tSeq p x->∀z,z=tSeq n y->∀A,A=tSeq i z->∀B,B=tSeq g A->∀E,E=tSeq c B->∀G,G=tSeq b E->a {D with nx:=G D} u H):(tSeq a (tSeq b (tSeq c (tSeq g (tSeq i (tSeq n (tSeq p (tSeq q r)))))))) D u H:=h _ rfl _ rfl _ rfl _ rfl _ rfl _ rfl _ rfl _ rfl
theorem J7v{b c g i n p q r u a:TS}{D:Ends}{v:St}{H:Hp}(h:∀x,x=a->∀y,y=tSeq u x->∀z,z=tSeq r y->∀A,A=tSeq q z->∀B,B=tSeq p A->∀E,E=tSeq n B->∀G,G=tSeq i E->∀I,I=tSeq g G->∀J,J=tSeq c I->b {D with nx:=J D} v H):(tSeq b (tSeq c (tSeq g (tSeq i (tSeq n (tSeq p (tSeq q (tSeq r (tSeq u a))))))))) D v H:=h _ rfl _ rfl _ rfl _ rfl _ rfl _ rfl _ rfl _ rfl _ rfl
theorem J8L{g i n p q r u v x a b:TS}{D:Ends}{y:St}{H:Hp}(h:∀c,c=b->∀z,z=tSeq a c->∀A,A=tSeq x z->∀B,B=tSeq v A->∀E,E=tSeq u B->∀G,G=tSeq r E->∀I,I=tSeq q G->∀J,J=tSeq p I->∀K,K=tSeq n J->∀L,L=tSeq i K->g {D with nx:=L D} y H):(tSeq g (tSeq i (tSeq n (tSeq p (tSeq q (tSeq r (tSeq u (tSeq v (tSeq x (tSeq a b)))))))))) D y H:=h _ rfl _ rfl _ rfl _ rfl _ rfl _ rfl _ rfl _ rfl _ rfl _ rfl
theorem J9w{z A B E G I J K L a b c g i n p:TS}{D:Ends}{M:St}{H:Hp}(h:∀q,q=p->∀r,r=tSeq n q->∀u,u=tSeq i r->∀v,v=tSeq g u->∀x,x=tSeq c v->∀y,y=tSeq b x->∀N,N=tSeq a y->∀O,O=tSeq L N->∀P,P=tSeq K O->∀Q,Q=tSeq J P->∀R,R=tSeq I Q->∀S,S=tSeq G R->∀T,T=tSeq E S->∀U,U=tSeq B T->∀Y,Y=tSeq A U->z {D with nx:=Y D} M H):(tSeq z (tSeq A (tSeq B (tSeq E (tSeq G (tSeq I (tSeq J (tSeq K (tSeq L (tSeq a (tSeq b (tSeq c (tSeq g (tSeq i (tSeq n p))))))))))))))) D M H:=h _ rfl _ rfl _ rfl _ rfl _ rfl _ rfl _ rfl _ rfl _ rfl _ rfl _ rfl _ rfl _ rfl _ rfl _ rfl
def New(H:Hp)(o:HO)(R:V0->Hp->Prop):Prop:=∀p,H p=none->R p (upd H p o)
theorem New.of{H:Hp}{o:HO}{R:V0->Hp->Prop}(h:∀p a,H p=none->Same H a->a p=some o->R p a):New H o R:=λ p b=>h p _ b (Z0n b o) Z0b
theorem J9E{t:TA}{a:St}{H:Hp}{Q:VK}:tTup t a H Q=(t a H λ b c=>b.length<=sizeLine/\New c (.tup b) λ p g=>Q (.ref p) g):=rfl
theorem J8J{t:TA}{a:St}{H:Hp}{Q:VK}:tLst t a H Q=(t a H λ b c=>b.length<=sizeLine/\New c (.lst b) λ p g=>Q (.ref p) g):=rfl
theorem J9k{K:X0}{x:V}{b:Option Int}{c:Option Int}{H:Hp}{Q:VK}:rSlL K x b c H Q=(∃a g,x=.ref a/\SqL K H a g/\New H (.lst (cutV g b c)) λ p h=>Q (.ref p) h):=rfl
theorem J9A{x:V}{y:V}{H:Hp}{Q:VK}:rCat x y H Q=(∃l b a c,x=.ref l/\y=.ref b/\H l=some (.lst a)/\H b=some (.lst c)/\a.length+c.length<=sizeLine/\New H (.lst (a++c)) λ p g=>Q (.ref p) g):=rfl
theorem qA(K)(i:Nat){x:V2}(hN:X.N[i]?=some x:=by rfl)(hv:Vis X.env.scope x:=by first|exact Or.inl rfl|exact Or.inr (Or.inl rfl)|exact Or.inr (Or.inr rfl))(hd:(x==("__debug__":V2))=false:=by decide)(hc:(x==("__classdict__":V2))=false:=by decide)(h:IxR X (J0s K):=by exact J1E):PE X (.Subscript (.Name x p) (.Constant (.int j) l p2) p3) (tOp (J0s K) (Z4f i) (tC (.int j))):=Z8A h (pvF i hN hv hd hc) Z0c (λ _ _=>rfl)
theorem qB{k:Nat}(hr:Room k X.A)(i:Nat){x:V2}(hN:X.N[i]?=some x:=by rfl)(hv:Vis X.env.scope x:=by first|exact Or.inl rfl|exact Or.inr (Or.inl rfl)|exact Or.inr (Or.inr rfl))(hd:(x==("__debug__":V2))=false:=by decide)(hc:(x==("__classdict__":V2))=false:=by decide):PE X (.Subscript (.Name x p) (.Constant (.str y) l p2) p3) (J3t (Z4f i) (tC (.str y))):=Z0l (Z0r hr) (pvF i hN hv hd hc) Z0f (λ _ _=>rfl)
theorem qC(K)(ha:PE X a ta)(hb:PE X b tb)(h:IxR X (J0s K):=by exact J1E)(hs:Z8x b:=by exact λ _ _=>rfl):PE X (.Subscript a b pos) (tOp (J0s K) ta tb):=Z8A h ha hb hs
theorem qD(K)(ha:PE X a ta)(hb:PE X b tb)(h:IxR X (J3a K):=by exact J3C)(hs:Z8x b:=by exact λ _ _=>rfl):PE X (.Subscript a b pos) (tOp (J3a K) ta tb):=Z8A h ha hb hs
theorem qE{k:Nat}(hr:Room k X.A)(ho:PE X o td)(hi:PE X i ty)(hs:NoSl i:=by exact λ _ _=>rfl):PE X (.Subscript o i pos) (J3t td ty):=Z0l (Z0r hr) ho hi hs
theorem qF{x:V2}(h:Has X.prog X.w X.K X.mg X.base k x ps sp)(hr:Room j X.A)(ha:PA X (e::es) t)(hk:k<=j:=by first|decide|omega)(hg:Gl X x:=by exact rfl)(hd:(x==("__debug__":V2))=false:=by decide)(he:starEach (e::es) X.env=(false,eval e X.env)::starEach es X.env:=by rfl)(hl:(backTo pos (starEach es X.env)).any (·.1)=false:=by rfl):PE X (.Call (.Name x p) (e::es) [] pos) (J4l sp [] E0 t):=J7r h hr hk hg ha hd he hl
theorem qG(i:Nat){x:V2}{e:Expr}{te:TE}{pos':Pos}(hN:X.N.Nodup)(he:PE X e te)(hi:X.N[i]?=some x:=by exact rfl)(hx:Loc X.env.scope x:=by exact Or.inl rfl)(hs:swapsWith e (some (.Name x pos')) pos.line X.env=pure false:=by rfl)(hf:X.fn x=true\/X.env.scope.names.lookup x=some .local:=by first|exact .inl rfl|exact .inr rfl|assumption):PS X (.Assign [.Name x pos'] e pos) (tAsg te (Z2D i)):=Z1W hN hi hx he hs hf
theorem qH(i:Nat){x:V2}(hN:X.N.Nodup)(hi:X.N[i]?=some x:=by exact rfl)(hx:Loc X.env.scope x:=by exact Or.inl rfl)(hf:X.fn x=true\/X.env.scope.names.lookup x=some .local:=by first|exact .inl rfl|exact .inr rfl|assumption):PG X (.Name x pos) (Z2D i):=Z4I hN hi hx hf
theorem qI(a:PE X e te)(h:starEach [e] X.env=(false,eval e X.env)::starEach [] X.env:=by rfl):PA X [e] (Z6j te tNil):=Z0v a Z0W h
theorem qJ(a:PE X e te)(b:PE X f tf)(h:starEach [e,f] X.env=(false,eval e X.env)::starEach [f] X.env:=by rfl)(h2:starEach [f] X.env=(false,eval f X.env)::starEach [] X.env:=by rfl):PA X [e,f] (Z6j te (Z6j tf tNil)):=Z0v a (qI b h2) h
theorem qK(a:PE X e te)(b:PE X f tf)(c:PE X g tg)(h:starEach [e,f,g] X.env=(false,eval e X.env)::starEach [f,g] X.env:=by rfl)(h2:starEach [f,g] X.env=(false,eval f X.env)::starEach [g] X.env:=by rfl)(h3:starEach [g] X.env=(false,eval g X.env)::starEach [] X.env:=by rfl):PA X [e,f,g] (Z6j te (Z6j tf (Z6j tg tNil))):=Z0v a (qJ b c h2 h3) h
theorem qL(hm:X.mg "len"=none)(ha:PA X (e::es) t)(hg:Gl X "len":=by exact rfl)(he:starEach (e::es) X.env=(false,eval e X.env)::starEach es X.env:=by rfl)(hl:(backTo pos (starEach es X.env)).any (·.1)=false:=by rfl):PE X (.Call (.Name "len" p) (e::es) [] pos) (tCB (λ xs H Q=>∃p ys,xs=[.ref p]/\(SqL X.K H p ys\/SqT X.K H p ys)/\Q (.int ys.length) H) t):=Z1q Z7O hg hm J4B ha (D:=he) (j:=hl)
theorem qM{op:CmpOp}{r:R2}(ho:OpR X (compareOp op) r)(ha:PE X a ta)(hb:PE X b tb)(h:op≠.In:=by decide)(h2:op≠.NotIn:=by decide):PT X (.Compare a [op] [b] pos) (J5M (tOp r ta tb)):=Z0Y ho ha hb (Z3f _ h h2)
theorem qO(i:Nat){x f:V2}(hN:X.N[i]?=some x:=by rfl)(hv:Vis X.env.scope x:=by first|exact Or.inl rfl|exact Or.inr (Or.inl rfl)|exact Or.inr (Or.inr rfl))(hd:(x==("__debug__":V2))=false:=by decide)(hc:(x==("__classdict__":V2))=false:=by decide)(hb:attributeBase (.Name x p) f X.env (eval (.Name x p) X.env)=eval (.Name x p) X.env:=by exact rfl):PE X (.Attribute (.Name x p) f pos) (J1d X.K (Z4f i) f):=Z2H (pvF i hN hv hd hc) hb
end L2
end
section
namespace TM
open PySem L2 P15
structure Kp(H H':Hp):Prop where
 t:∀b xs,H b=some (.tup xs)->H' b=some (.tup xs)
 z:∀b o xs,H b=some (.frz o (.tup xs))->H' b=some (.frz o (.tup xs))
 i:∀b C dx f fs,H b=some (.ins C dx (f::fs))->H' b=some (.ins C dx (f::fs))
theorem Kp.trans{H H' H'':Hp}(a:Kp H H')(b:Kp H' H''):Kp H H'':=⟨λ _ _ h=>b.t _ _ (a.t _ _ h),λ _ _ _ h=>b.z _ _ _ (a.z _ _ _ h),λ _ _ _ _ _ h=>b.i _ _ _ _ _ (a.i _ _ _ _ _ h)⟩
theorem Kp.of{H H':Hp}(s:Same H H'):Kp H H':=⟨λ _ _ h=>s _ _ h,λ _ _ _ h=>s _ _ h,λ _ _ _ _ _ h=>s _ _ h⟩
theorem Kp.put{H:Hp}{a:V0}{u:HO}(o:HO)(h:H a=some u)(i:∀c,u≠.tup c)(j:∀o c,u≠.frz o (.tup c))(m:∀C g f fs,u≠.ins C g (f::fs)):Kp H (upd H a o):=by
 refine⟨λ b c e=>?_,λ b o c e=>?_,λ b C g f fs e=>?_⟩
 ·rw[Z0e (λ z=>by rw[z,h]at e;cases e;exact i _ rfl)];exact e
 ·rw[Z0e (λ z=>by rw[z,h]at e;cases e;exact j _ _ rfl)];exact e
 ·rw[Z0e (λ z=>by rw[z,h]at e;cases e;exact m _ _ _ _ rfl)];exact e
theorem Kp.lst{H:Hp}{a:V0}{xs:List V}(o:HO)(h:H a=some (.lst xs)):Kp H (upd H a o):=Kp.put o h (λ _ z=>by cases z) (λ _ _ z=>by cases z) (λ _ _ _ _ z=>by cases z)
structure Kt(H H':Hp):Prop where
 t:∀b xs,H b=some (.tup xs)->H' b=some (.tup xs)
 z:∀b o xs,H b=some (.frz o (.tup xs))->H' b=some (.frz o (.tup xs))
theorem Kp.kt{H H':Hp}(k:Kp H H'):Kt H H':=⟨k.t,k.z⟩
theorem Kt.put{H:Hp}{a:V0}{u:HO}(o:HO)(h:H a=some u)(g:∀c,u≠.tup c)(i:∀o c,u≠.frz o (.tup c)):Kt H (upd H a o):=by
 refine⟨λ b c e=>?_,λ b o c e=>?_⟩
 ·rw[Z0e (λ z=>by rw[z,h]at e;cases e;exact g _ rfl)];exact e
 ·rw[Z0e (λ z=>by rw[z,h]at e;cases e;exact i _ _ rfl)];exact e
theorem SqT.kt{K:X0}{H H':Hp}{a:V0}{xs:List V}(h:SqT K H a xs)(k:Kt H H'):SqT K H' a xs:=by
 rcases h with(h|⟨o,h⟩)|h
 ·exact .inl (.inl (k.t _ _ h))
 ·exact .inl (.inr ⟨o,k.z _ _ _ h⟩)
 ·exact .inr h
theorem SqT.kp{K:X0}{H H':Hp}{a:V0}{xs:List V}(h:SqT K H a xs)(k:Kp H H'):SqT K H' a xs:=SqT.kt h k.kt
mutual
inductive RT(K:X0)(H:Hp):V->PyData->Prop
 |non:RT K H .non .none
 |bl(b:Bool):RT K H (.bl b) (.bool b)
 |int(i:Int):RT K H (.int i) (.int i)
 |str(x:V2):RT K H (.str x) (.str x)
 |tup{a:V0}{xs:List V}{ds:List PyData}:SqT K H a xs->RTs K H xs ds->RT K H (.ref a) (.tuple ds)
inductive RTs(K:X0)(H:Hp):List V->List PyData->Prop
 |nil:RTs K H [] []
 |cons{v:V}{vs:List V}{d:PyData}{ds:List PyData}:RT K H v d->RTs K H vs ds->RTs K H (v::vs) (d::ds)
end
section
variable{K:X0}{H H':Hp}
mutual
theorem RT.rd:∀{v:V}{d:PyData},RT K H v d->RdD K H v d
 |_,_,.non=>.non
 |_,_,.bl b=>.bl b
 |_,_,.int i=>.int i
 |_,_,.str x=>.str x
 |_,_,.tup a c=>.tup a (RTs.rd c)
theorem RTs.rd:∀{a:List V}{b:List PyData},RTs K H a b->RdDs K H a b
 |_,_,.nil=>.nil
 |_,_,.cons h c=>.cons (RT.rd h) (RTs.rd c)
end
mutual
theorem RT.kt(k:Kt H H'):∀{v:V}{d:PyData},RT K H v d->RT K H' v d
 |_,_,.non=>.non
 |_,_,.bl b=>.bl b
 |_,_,.int i=>.int i
 |_,_,.str x=>.str x
 |_,_,.tup a c=>.tup (SqT.kt a k) (RTs.kt k c)
theorem RTs.kt(k:Kt H H'):∀{a:List V}{b:List PyData},RTs K H a b->RTs K H' a b
 |_,_,.nil=>.nil
 |_,_,.cons h c=>.cons (RT.kt k h) (RTs.kt k c)
end
theorem RT.kp{v:V}{d:PyData}(k:Kp H H')(h:RT K H v d):RT K H' v d:=h.kt k.kt
theorem RTs.kp{vs:List V}{ds:List PyData}(k:Kp H H')(h:RTs K H vs ds):RTs K H' vs ds:=h.kt k.kt
theorem RT.same{v:V}{d:PyData}(h:RT K H v d)(s:Same H H'):RT K H' v d:=h.kp (Kp.of s)
theorem RTs.same{vs:List V}{ds:List PyData}(h:RTs K H vs ds)(s:Same H H'):RTs K H' vs ds:=h.kp (Kp.of s)
theorem RT.str_inv{v:V}{x:V2}(h:RT K H v (.str x)):v=.str x:=by cases h;rfl
theorem RT.tup_inv{v:V}{ds:List PyData}(h:RT K H v (.tuple ds)):∃a c,v=.ref a/\SqT K H a c/\RTs K H c ds:=by
 cases h with
 |tup a b=>exact⟨_,_,rfl,a,b⟩
theorem RTs.inv{vs:List V}{d:PyData}{ds:List PyData}(h:RTs K H vs (d::ds)):∃v r,vs=v::r/\RT K H v d/\RTs K H r ds:=by
 cases h with
 |cons a b=>exact⟨_,_,rfl,a,b⟩
theorem RTs.nil_inv{vs:List V}(h:RTs K H vs []):vs=[]:=by cases h;rfl
theorem RTs.length:∀{a:List V}{b:List PyData},RTs K H a b->a.length=b.length
 |_,_,.nil=>rfl
 |_,_,.cons _ c=>congrArg (·+1) (RTs.length c)
theorem RTs.app:∀{c e:List V}{g i:List PyData},RTs K H c g->RTs K H e i->RTs K H (c++e) (g++i)
 |_,_,_,_,.nil,h=>h
 |_,_,_,_,.cons a b,h=>.cons a (RTs.app b h)
theorem RTs.at:∀{c:List V}{e:List PyData}{i:Nat}{v:V},RTs K H c e->c[i]?=some v->∃d,e[i]?=some d/\RT K H v d
 |_,_,0,_,.cons a _,h=>by cases h;exact⟨_,rfl,a⟩
 |_,_,i+1,_,.cons _ b,h=>by have:=RTs.at (i:=i) b h;exact this
end
noncomputable def lbV:Lb->V
 | .non=>.non| .int i=>.int i| .bl b=>.bl b| .str x=>.str x
theorem J3r{K:X0}{H:Hp}:∀l:Lb,RT K H (lbV l) l.d
 | .non=>.non| .int i=>.int i| .bl b=>.bl b| .str x=>.str x
theorem J4M{K:X0}{H:Hp}{v:V}:∀{l:Lb},RT K H v l.d->v=lbV l
 | .non,h=>by cases h;rfl
 | .int i,h=>by cases h;rfl
 | .bl b,h=>by cases h;rfl
 | .str x,h=>by cases h;rfl
theorem Z1b:∀a:List Tm,(dats a).length=a.length
 |[]=>rfl
 |_::a=>congrArg (·+1) (Z1b a)
theorem Z3U:∀a b:List Tm,dats (a++b)=dats a++dats b
 |[],_=>rfl
 |x::a,b=>congrArg (x.dat::·) (Z3U a b)
theorem J1M:∀{ts:List Tm}{i:Nat}{d:PyData},(dats ts)[i]?=some d->∃t,ts[i]?=some t/\d=t.dat
 |t::ts,0,d,h=>by cases h;exact⟨t,rfl,rfl⟩
 |t::ts,i+1,d,h=>by have:=J1M (ts:=ts) (i:=i) h;exact this
noncomputable def fsT(f:Fm)(l:Lb)(inn sh:V0)(d m:Nat):List (V2×V):=[("form",.str f.s),("label",lbV l),("inner",.ref inn),("deep",.int d),("many",.int m),("shape",.ref sh)]
mutual
inductive TO(K:X0)(C:V0)(H:Hp):V->Tm->Prop
 |mk{a dx inn sh:V0}{f:Fm}{l:Lb}{ps:List Tm}{vs ws:List V}:H a=some (.ins C dx (fsT f l inn sh (1+maxD ps) (1+sumS ps)))->SqT K H inn vs->TOs K C H vs ps->SqT K H sh ws->RTs K H ws (Z0I f l (dats ps))->TO K C H (.ref a) (.mk f l ps)
inductive TOs(K:X0)(C:V0)(H:Hp):List V->List Tm->Prop
 |nil:TOs K C H [] []
 |cons{v:V}{vs:List V}{t:Tm}{ts:List Tm}:TO K C H v t->TOs K C H vs ts->TOs K C H (v::vs) (t::ts)
end
section
variable{K:X0}{C:V0}{H H':Hp}
mutual
theorem TO.kp(k:Kp H H'):∀{v:V}{t:Tm},TO K C H v t->TO K C H' v t
 |_,_,.mk a b c d e=>.mk (k.i _ _ _ _ _ a) (SqT.kp b k) (TOs.kp k c) (SqT.kp d k) (e.kp k)
theorem TOs.kp(k:Kp H H'):∀{a:List V}{b:List Tm},TOs K C H a b->TOs K C H' a b
 |_,_,.nil=>.nil
 |_,_,.cons h c=>.cons (TO.kp k h) (TOs.kp k c)
end
theorem TO.inv{v:V}{t:Tm}(h:TO K C H v t):∃a n g i j m,v=.ref a/\H a=some (.ins C n (fsT t.f t.l g i t.depth t.size))/\SqT K H g j/\TOs K C H j t.ps/\SqT K H i m/\RTs K H m (Z0I t.f t.l (dats t.ps)):=by
 cases h with
 |mk a b c d e=>exact⟨_,_,_,_,_,_,rfl,a,b,c,d,e⟩
theorem TOs.length:∀{a:List V}{b:List Tm},TOs K C H a b->a.length=b.length
 |_,_,.nil=>rfl
 |_,_,.cons _ c=>congrArg (·+1) (TOs.length c)
theorem TOs.app:∀{c e:List V}{g i:List Tm},TOs K C H c g->TOs K C H e i->TOs K C H (c++e) (g++i)
 |_,_,_,_,.nil,h=>h
 |_,_,_,_,.cons a b,h=>.cons a (TOs.app b h)
theorem TOs.split:∀{j c:List Tm}{e:List V},TOs K C H e (j++c)->∃g i,e=g++i/\TOs K C H g j/\TOs K C H i c
 |[],c,e,h=>⟨[],e,rfl,.nil,h⟩
 |t::j,c,_,.cons a b=>by
  obtain⟨g,i,rfl,m,n⟩:=TOs.split b;exact⟨_::g,i,rfl,.cons a m,n⟩
theorem TOs.at:∀{c:List V}{e:List Tm}{i:Nat}{v:V},TOs K C H c e->c[i]?=some v->∃t,e[i]?=some t/\TO K C H v t
 |_,_,0,_,.cons a _,h=>by cases h;exact⟨_,rfl,a⟩
 |_,_,i+1,_,.cons _ b,h=>by have:=TOs.at (i:=i) b h;exact this
end
def SX(x:V0)(H H':Hp):Prop:=∀b o,b≠x->H b=some o->H' b=some o
theorem SX.of{x:V0}{H H':Hp}(s:Same H H'):SX x H H':=λ b o _ h=>s b o h
theorem SX.trans{x:V0}{H H' H'':Hp}(a:SX x H H')(b:SX x H' H''):SX x H H'':=λ c o n h=>b c o n (a c o n h)
theorem SX.put{x:V0}{H:Hp}(o:HO):SX x H (upd H x o):=λ b u n h=>by rw[Z0e n];exact h
theorem SX.kp{x C c:V0}{H H':Hp}(s:SX x H H')(a:H x=some (.ins C c [])):Kp H H':=
 ⟨λ b e h=>s b _ (λ z=>by rw[z,a]at h;cases h) h,λ b o e h=>s b _ (λ z=>by rw[z,a]at h;cases h) h,λ b C c f fs h=>s b _ (λ z=>by rw[z,a]at h;cases h) h⟩
theorem SX.sqL{K:X0}{x C c a:V0}{fs:List (V2×V)}{xs:List V}{H H':Hp}(s:SX x H H')(b:H x=some (.ins C c fs))(h:SqL K H a xs):SqL K H' a xs:=by
 rcases h with(h|⟨o,h⟩)|h
 ·exact .inl (.inl (s _ _ (λ z=>by rw[z,b]at h;cases h) h))
 ·exact .inl (.inr ⟨o,s _ _ (λ z=>by rw[z,b]at h;cases h) h⟩)
 ·exact .inr h
theorem SX.sqT{K:X0}{x C c a:V0}{fs:List (V2×V)}{xs:List V}{H H':Hp}(s:SX x H H')(b:H x=some (.ins C c fs))(h:SqT K H a xs):SqT K H' a xs:=by
 rcases h with(h|⟨o,h⟩)|h
 ·exact .inl (.inl (s _ _ (λ z=>by rw[z,b]at h;cases h) h))
 ·exact .inl (.inr ⟨o,s _ _ (λ z=>by rw[z,b]at h;cases h) h⟩)
 ·exact .inr h
theorem J2I:∀{a:List Tm}{t:Tm},t∈a->t.depth<=maxD a
 |u::a,t,h=>by
  show t.depth<=max u.depth (maxD a);rcases(qa2.mp h)with rfl|h
  ·exact Nat.le_max_left _ _
  ·exact qb9 (J2I h) (Nat.le_max_right _ _)
theorem Z5j{n:Nat}:∀{a:List Tm},(∀t∈a,t.depth<=n)->maxD a<=n
 |[],_=>qa6 _
 |t::a,h=>qj8.mpr ⟨h t qa9,Z5j λ u b=>h u (qb1 _ b)⟩
end TM
end
section
namespace L2
open PySem
structure J0q(P:Program)(w:M2)(A:V4)(it Z:V0)(n:Nat)(St:Nat->Array V1->M1->Prop)(Fin:Array V1->M1->Prop):Prop where
 item:∀(i:Nat)(acc:Array V1)(s:M1)(Q:Option V1->M1->Prop)(E:V1->M1->Prop),i<n->St i acc s->(∀v s',St (i+1) (acc.push v) s'->(∀o,s.heap.get? Z=some o->s'.heap.get? Z=some o)->Q (some v) s')->wpAny (model P w) A (pyNext (.ref it)) Q E s
 done:∀(acc:Array V1)(s:M1)(Q:Option V1->M1->Prop)(E:V1->M1->Prop),St n acc s->(∀s',Fin acc s'->(∀o,s.heap.get? Z=some o->s'.heap.get? Z=some o)->Q none s')->wpAny (model P w) A (pyNext (.ref it)) Q E s
 size:∀i acc s,St i acc s->acc.size=i
 frame:∀i acc s h',St i acc s->(∀b o,b≠Z->s.heap.get? b=some o->h'.get? b=some o)->h'.objs.size=s.heap.objs.size->St i acc {s with heap:=h'}
section
variable{P:Program}{w:M2}{B:V4}{E:V1->M1->Prop}{s:M1}{it Z:V0}{n:Nat}{St:Nat->Array V1->M1->Prop}{Fin:Array V1->M1->Prop}{R:Result->M1->Prop}
theorem J0X(W:J0q P w B.in1 it Z n St Fin)(H:n<=sizeLine)(res:V1):∀(k i:Nat)(s:M1)(a:Array V1)(c:Nat),n-i=k->i<=n->St i a s->s.heap.get? Z=some {cls:=.type "list",dict:=none,data:=.seq a c,slots:=#[]}->(∀j h A,Fin h j->j.heap.get? Z=some {cls:=.type "list",dict:=none,data:=.seq h A,slots:=#[]}->h.size=n->R (.ok (.ret res)) j)->codeAny (model P w) B (.builtin "list.extend.loop" ⟨[.ref Z,.ref it,res],[]⟩) R s:=by
 intro k;induction k with
 |zero=>
  intro i s a c u x m g q;have C:i=n:=Nat.le_antisymm x (qm9.mp u);subst C;refine codeAny_builtin F.entry_extend_loop ?_;rw[Around.under_plainId F.plain_extend_loop ⟨[.ref Z,.ref it,res],[]⟩];show wpAny (model P w) B.in1 (pyNext (.ref it)>>=_) _ _ s;refine wpAny_bind (W.done a s _ _ m λ j f p=>wpAny_pure ?_);exact q j a c f (p _ g) (W.size _ _ _ m)
 |succ k D=>
  intro i s a c u x m g q;have lt:i<n:=by omega
  refine codeAny_builtin F.entry_extend_loop ?_;rw[Around.under_plainId F.plain_extend_loop ⟨[.ref Z,.ref it,res],[]⟩];show wpAny (model P w) B.in1 (pyNext (.ref it)>>=_) _ _ s;refine wpAny_bind (W.item i a s _ _ lt m λ v I r p=>?_);have y:=p _ g;have z:=W.size _ _ _ m;show wpAny (model P w) B.in1 (updateSeq Z (·.push v)>>=_) _ _ _;refine wpAny_bind ?_;refine wpAny_updateSeq y rfl (wpAny_pure ⟨plainId_quiet F.plain_extend_loop ⟨[.ref Z,.ref it,res],[]⟩,D (i+1) _ (a.push v) _ qR lt (W.frame _ _ _ _ r (λ b o G e=>?_) (by simp[Heap.update])) (Heap.get?_update_self _ y rfl) q⟩) (by rw[z];omega) (by show(a.push v).size<=sizeLine+1;rw[Array.size_push,z];omega);exact(Heap.get?_update_other _ _ (Ne.symm G)).trans e
def J6C(P:Program)(w:M2)(it:V0)(St:M1->Prop):Prop:=∀(A:V4)(s:M1)(Q:Bool->M1->Prop)(E:V1->M1->Prop),St s->(∀b,Q b s)->wpAny (model P w) A (Builtin.List.listLengthHint (.ref it)) Q E s
theorem J1m{T:String}{Q:V1->M1->Prop}(H:∀s,St 0 #[] s->s.TypeIs (.ref it) T)(I:(Value.type T==Value.type "list")=false)(h2:(Value.type T==Value.type "tuple")=false)(u:s.heap.objs.size≠it)(W:J0q P w B.in1.in1 it s.heap.objs.size n St Fin)(hs:∀(A:V4)(s:M1)(Q:V1->M1->Prop)(E:V1->M1->Prop),St 0 #[] s->Q (.ref it) s->wpAny (model P w) A (pyIter (.ref it)) Q E s)(J:J6C P w it (St 0 #[]))(st:St 0 #[] {s with heap:=s.heap.push {cls:=.type "list",data:=.seq #[]}})(K:∀v i c,Fin i v->v.heap.get? s.heap.objs.size=some {cls:=.type "list",dict:=none,data:=.seq i c,slots:=#[]}->i.size=n->Q (.ref s.heap.objs.size) v)(L:n<=sizeLine):wpAny (model P w) B (call (.type "list") [.ref it]) Q E s:=by
 refine callType_codes (Q₁:=λ o a=>o=.ref s.heap.objs.size/\a={s with heap:=s.heap.push {cls:=.type "list",data:=.seq #[]}}) F.called_list (F.typeCall_list_1 _) F.entry_list_init (code_list_new _ ⟨rfl,rfl⟩) λ o a e=>?_;obtain⟨rfl,rfl⟩:=e;have q:({s with heap:=s.heap.push {cls:=.type "list",data:=.seq #[]}}:M1).heap.get? s.heap.objs.size=some {cls:=.type "list",data:=.seq #[]}:=Heap.get?_push_size _ rfl;generalize({s with heap:=s.heap.push {cls:=.type "list",data:=.seq #[]}}:M1)=a at*;generalize s.heap.objs.size=Z at*;refine⟨⟨_,q,rfl⟩,F.args_list_init_2 _ _,?_⟩;have j:∀(h:V3)(c:Nat),(∀b o,b≠Z->a.heap.get? b=some o->h.get? b=some o)->h.objs.size=a.heap.objs.size->h.get? Z=some {cls:=.type "list",data:=.seq #[] c}->codeAny (model P w) B.in1 (.builtin "list.extend.loop" ⟨[.ref Z,.ref it,.none],[]⟩) (wants (λ r x=>r=.none/\Q (.ref Z) x) E) {a with heap:=h}:=by
  intro h c k M g;exact J0X W L .none n 0 _ #[] c rfl (qa6 _) (W.frame _ _ _ _ st k M) g λ x i N f m ha=>⟨rfl,K x i N f m ha⟩
 show wpAny (model P w) B.in1.in1 (do let y<-Builtin.List.listItems (.ref Z);Builtin.List.listUpdate (.ref Z) (λ _=>#[]);letGo y.toList.reverse;Builtin.List.listExtendWith (.ref Z) (.ref it) .none) _ _ a;refine wpAny_bind ?_;unfold Builtin.List.listItems;refine wpAny_bind (wpAny_seqItems q rfl (wpAny_pure ?_));show wpAny (model P w) B.in1.in1 (updateSeq Z (λ _=>#[])>>=λ _=>letGo (#[]:Array V1).toList.reverse>>=λ _=>Builtin.List.listExtendWith (.ref Z) (.ref it) .none) _ _ a;refine wpAny_bind (wpAny_updateSeq q rfl (wpAny_bind (wpAny_letGo ?_)));have m:=Heap.get?_update_self (Obj.mapSeq (λ _=>(#[]:Array V1))) q rfl;have z:∀b o,b≠Z->a.heap.get? b=some o->(a.heap.update Z (Obj.mapSeq (λ _=>(#[]:Array V1)))).get? b=some o:=λ b o p e=>(Heap.get?_update_other _ _ (Ne.symm p)).trans e;have C:(a.heap.update Z (Obj.mapSeq (λ _=>(#[]:Array V1)))).objs.size=a.heap.objs.size:=by simp[Heap.update]
 generalize a.heap.update Z (Obj.mapSeq (λ _=>(#[]:Array V1)))=h2 at*;have D:St 0 #[] {a with heap:=h2}:=W.frame _ _ _ _ st z C;unfold Builtin.List.listExtendWith;refine wpAny_bind (wpAny_typeOf (H _ D) ?_);rw[show Builtin.List.listSameRef (.ref Z) (.ref it)=false by simp[Builtin.List.listSameRef,u],I,‹(Value.type T==Value.type "tuple")=false›];refine wpAny_bind (hs _ _ _ _ D ?_);refine wpAny_bind (wpAny_holding (J _ _ _ _ D λ b=>?_));refine wpAny_ite_split (λ _=>?_) (λ _=>wpAny_pure ⟨plainId_quiet F.plain_extend_loop ⟨[.ref Z,.ref it,.none],[]⟩,j h2 _ z C m⟩);refine wpAny_bind (wpAny_rule (wpAny_bind ?_));show wpAny (model P w) B.in1.in1 (updateSeq Z (·.push .none)>>=λ _=>updateSeq Z (·.pop)) _ _ _;refine wpAny_bind (wpAny_updateSeq m rfl ?_);have G:=Heap.get?_update_self (Obj.mapSeq (·.push Value.none)) m rfl;refine wpAny_updateSeq (hz:=by seq_fits) G rfl ?_;have O:=Heap.get?_update_self (Obj.mapSeq (·.pop)) G rfl;refine wpAny_pure ⟨plainId_quiet F.plain_extend_loop ⟨[.ref Z,.ref it,.none],[]⟩,j _ _ (λ b o p e=>?_) (by simpa[Heap.update]using C) O⟩;exact(Heap.get?_update_other _ _ (Ne.symm p)).trans ((Heap.get?_update_other _ _ (Ne.symm p)).trans (z b o p e))
end
open PySem.Spec PyProof.Rows
theorem Z9T:typeLookup (.type "list_reverseiterator") "__len__"=pure none:=by rw[typeLookup_type,builtinLookup_eq_fast];kernel_rfl
theorem J3b:typeLookup (.type "list_reverseiterator") "__length_hint__"=pure (some (.builtin "list_reverseiterator.__length_hint__")):=by rw[typeLookup_type,builtinLookup_eq_fast];kernel_rfl
theorem J3o{P:Program}{w:M2}{it:V0}{St:M1->Prop}(a:∀s,St s->s.TypeIs (.ref it) "list_reverseiterator"):J6C P w it St:=by
 intro A s Q E c q;unfold Builtin.List.listLengthHint;refine wpAny_bind (wpAny_specialOf (a s c) Z9T ?_);show wpAny (model P w) A (specialOf (Value.ref it) (Str.ofString "__length_hint__")>>=_) _ _ _;refine wpAny_bind (wpAny_specialOf (a s c) J3b ?_);generalize hi0:("list_reverseiterator.__length_hint__":String)=e
 wp_delta
 rw[show splitId e=some ("list_reverseiterator","__length_hint__")from by subst hi0;decide+kernel];subst hi0;refine wpAny_bind (wpAny_isInstance (T:="list_reverseiterator") (b:=true) (a s c) (by rw[isSubtype_type];kernel_rfl) ?_);refine wpAny_ite_split (λ z=>absurd z qQ) (λ _=>?_);refine wpAny_ite_split (λ _=>?_) (λ z=>absurd rfl z);exact wpAny_ite_split (λ z=>absurd z qP) (λ _=>wpAny_pure (q _))
def Itv(K:X0)(l:V0)(n:Nat):It:=
 ⟨λ i H=>i<n/\∃a,SqL K H l a/\a.length=n,λ i H v b=>b=H/\∀a,SqL K H l a->a[n-1-i]?=some v,λ i _=>i=n⟩
theorem J3E{P:Program}{w:M2}{K:X0}{tg:Expr}(l it:V0)(n:Nat):Turn P w K tg (Itv K l n) [it] it (λ i h=>h.IsRevIter it l ((n:Int)-1-(i:Int)))where
 mem:=by simp
 obj:=λ i h g b m=>by
  cases qa3.mp m;obtain⟨o,e,c,d⟩:=g;exact⟨o,e,λ v z=>by rw[d]at z;cases z⟩
 keep:=λ i h r g k=>g.at λ o e=>k it (qa3.mpr rfl) o e
 item:=by
  intro X A B C O i j s Q H E I y g D;subst A B C;obtain⟨hi,R,S,hn⟩:=D;obtain⟨U,Y,p,hz⟩:=I.list S;have T:R[n-1-i]?=some (R[n-1-i]'(by omega)):=qa8 qR;obtain⟨u,Z,ru⟩:=Y.get T;obtain⟨G,J,f2,L,M,N⟩:=y it (qa3.mpr rfl);have e0:(n:Int)-1-(i:Int)=((n-1-i:Nat):Int):=by omega
  have e2:((n-1-i:Nat):Int)-1=(n:Int)-1-((i+1:Nat):Int):=by omega
  have a:=g;rw[e0]at a;refine wpAny_pyNext_rev_item a p.isList (x:=u) (by simpa using Z) λ r q sb=>?_;have I1:Inv X j Q H {s with heap:=r}:=I.turned (t':=s.toks) (λ b o m e=>(sb.2 b m).trans e) G J L M N;rw[e2]at q;obtain⟨o,e,c,d⟩:=id q;exact⟨u,rfl,J1Q (s:={s with heap:=r}) e c d qQ ⟨_,H,I1,ru,⟨rfl,λ ys hy=>by rw[I.list_inj hy S];exact T⟩,q,λ b m=>(y b m).1⟩⟩
 done:=by
  intro X A B C O i j s Q H E I y g D;subst A B C;cases(show i=n from D);obtain⟨G,J,f2,L,M,N⟩:=y it (qa3.mpr rfl);have a:=g;rw[show(n:Int)-1-(n:Int)=-1 by omega]at a;exact wpAny_pyNext_rev_end (I.ok.hd O) a λ r eb=>⟨rfl,I.turned (t':=s.toks) (λ b o m e=>eb b o m e) G J L M N⟩
 self:=λ _ _ _ _ _ g h=>wpAny_pyIter_revIter g h
section
variable{X:Cx}{tg:Expr}
def iRev(K:X0)(ta:TA):TI:=λ e H R=>ta e H λ g b=>∃a c,g=[.ref a]/\SqL K b a c/\R (Itv K a c.length) b
theorem J9b{K:X0}{b:TA}{c:St}{H:Hp}{R:It->Hp->Prop}:iRev K b c H R=b c H λ g H1=>∃a e,g=[.ref a]/\SqL K H1 a e/\R (Itv K a e.length) H1:=rfl
theorem J4G{a:Expr}{v:TA}{p c:Pos}(y:Gl X "reversed")(z:X.mg "reversed"=none)(r:bootBuiltins "reversed"=some (.type "reversed"))(ha:PA X [a] v)(hs:starEach [a] X.env=[(false,eval a X.env)]:=by rfl):PI X tg (.Call (.Name "reversed" p) [a] [] c) (iRev X.K v):=by
 intro g s A H R I h;refine Call_ (Z4e I y z r (PyProof.Rows.callWith_type1 (thn (ha c g s A H _ I h) λ L m ⟨M,B,n,C,D⟩=>?_) hs rfl));obtain⟨l,x,e,E,q⟩:=D;subst e;obtain⟨u,rfl,G⟩:=C.one;cases G;obtain⟨j,J,K,N⟩:=n.list E;have O:=J.length;refine call_reversed_list K.isList (wpAny_pyIter_revIter (it:=m.heap.objs.size) (l:=l) (i:=(j.toArray.size:Int)-1) ⟨_,Heap.get?_push_size _ rfl,rfl,rfl⟩ ?_);refine⟨m.heap.objs.size,[m.heap.objs.size],_,_,B,rfl,n.kept (t':=m.toks) λ b o e=>Heap.get?_push_of_some _ e,J3E l _ x.length,?_,λ b r=>?_,q⟩
 ·rw[show(x.length:Int)-1-((0:Nat):Int)=(j.toArray.size:Int)-1 by rw[qb2];omega];exact⟨_,Heap.get?_push_size _ rfl,rfl,rfl⟩
 ·cases qa3.mp r;exact n.fpOk (qa1 _) (n.hok.fresh (qa1 _))
def J7l(K:X0)(ta:TA):TE:=λ e H Q=>ta e H λ g b=>∃a c,g=[.ref a]/\SqL K b a c/\∀l,b l=none->Q (.ref l) (upd b l (.lst c.reverse))
theorem J7V{K:X0}{c:TA}{e:St}{H:Hp}{Q:VK}:J7l K c e H Q=c e H λ h b=>∃a g,h=[.ref a]/\SqL K b a g/\∀l,b l=none->Q (.ref l) (upd b l (.lst g.reverse)):=rfl
theorem J0A{P:Program}{w:M2}{A:V4}(D:A.handled=none){it Z l:V0}{its:List V1}(m:M1)(G:m.heap.IsList l its.toArray)(x:m.heap.objs.size<=it)(H:m.heap.objs.size<=Z)(n:Z≠it):J0q P w A it Z its.length (λ i a u=>∃g h,u={m with heap:=g,toks:=h}/\g.IsRevIter it l ((its.length:Int)-1-(i:Int))/\(∀b o,m.heap.get? b=some o->g.get? b=some o)/\a.toList=its.reverse.take i/\i<=its.length) (λ a u=>∃g h,u={m with heap:=g,toks:=h}/\(∀b o,m.heap.get? b=some o->g.get? b=some o)/\a.toList=its.reverse)where
 item:=by
  rintro i a s Q E c ⟨g,h,rfl,j,k,p,_⟩ q;have I:(its.length:Int)-1-(i:Int)=((its.length-1-i:Nat):Int):=by omega
  have J:((its.length-1-i:Nat):Int)-1=(its.length:Int)-1-((i+1:Nat):Int):=by omega
  rw[I]at j;have K:its.toArray[its.length-1-i]?=some (its[its.length-1-i]'(by omega)):=by simp
  refine wpAny_pyNext_rev_item j (G.at λ o e=>k _ o e) K λ r v y=>q _ _ ⟨r,h,rfl,by rw[<-J];exact v,λ b o e=>(y.2 b λ z=>?_).trans (k b o e),?_,c⟩ λ o e=>(y.2 Z n).trans e
  ·exact absurd (Heap.lt_size e) (by rw[z];exact qf0.mpr x)
  ·rw[qj9,p,qf3,List.getElem?_reverse c,qa8 qR];rfl
 done:=by
  rintro a s Q E ⟨g,h,rfl,j,k,p,_⟩ q;rw[show(its.length:Int)-1-(its.length:Int)=-1 by omega]at j;refine wpAny_pyNext_rev_end D j λ r B=>q _ ⟨r,h,rfl,λ b o e=>B b o (λ z=>?_) (k b o e),?_⟩ λ o e=>B Z o n e
  ·exact absurd (Heap.lt_size e) (by rw[z];exact qf0.mpr x)
  ·rw[p,qd6 (by rw[qi7];exact qa1 _)]
 size:=by
  rintro i a s ⟨g,h,rfl,j,k,p,c⟩;rw[<-qf4,p,qb3,qi7];exact qi8 c
 frame:=by
  rintro i a s r ⟨g,h,rfl,j,k,p,c⟩ C _;exact⟨r,h,rfl,j.at λ o e=>C it o (Ne.symm n) e,λ b o e=>C b o (λ z=>absurd (Heap.lt_size e) (by rw[z];exact qf0.mpr H)) (k b o e),p,c⟩
theorem J5f{j:Expr}{S:TA}{p D r a:Pos}(Z:X.calm=true)(hg:Gl X "list")(L:Gl X "reversed")(hm:X.mg "list"=none)(M:X.mg "reversed"=none)(ha:PA X [j] S)(hs:starEach [j] X.env=[(false,eval j X.env)]:=by rfl)(v:starEach [.Call (.Name "reversed" D) [j] [] a] X.env=[(false,eval (.Call (.Name "reversed" D) [j] [] a) X.env)]:=by rfl):PE X (.Call (.Name "list" p) [.Call (.Name "reversed" D) [j] [] a] [] r) (J7l X.K S):=by
 intro x s σ H Q I h;refine Call_ (Z4e I hg hm rfl (PyProof.Rows.callWith_type1 ?_ v rfl));rw[v];show wpAny (model X.prog X.w) X.A (spliced ((false,eval (.Call (.Name "reversed" D) [j] [] a) X.env)::backTo r [])) _ _ s;refine Calls.spliced_cons ?_;refine Call_ (Z4e I L M rfl (PyProof.Rows.callWith_type1 (thn (ha a x s σ H _ I h) λ us m E=>?_) hs rfl));obtain⟨vs,H1,G,r1,l,U,rfl,hq,q⟩:=E;obtain⟨u,rfl,ru⟩:=r1.one;cases ru;obtain⟨i,Y,N,E⟩:=G.list hq;have hl:=Y.length;obtain⟨ol,gl,_⟩:=id N.isList;refine call_reversed_list N.isList (Calls.spliced_nil ?_);have y:(m.heap.push (revObj l ((i.toArray.size:Int)-1))).objs.size=m.heap.objs.size+1:=Heap.size_push ..;have g0:∀o,((m.heap.push (revObj l ((i.toArray.size:Int)-1))).push o).IsRevIter m.heap.objs.size l ((i.length:Int)-1-((0:Nat):Int)):=λ o=>by
  rw[show(i.length:Int)-1-((0:Nat):Int)=(i.toArray.size:Int)-1 by rw[qb2];omega];exact⟨_,Heap.get?_push_of_some _ (Heap.get?_push_size _ rfl),rfl,rfl⟩
 refine J1m (n:=i.length) (T:="list_reverseiterator") (λ O z=>?_) qQ qQ (by rw [y]; exact qj7 _)
  (J0A (show X.A.in1.in1.handled=none from G.ok.hd Z) (it:=m.heap.objs.size) (l:=l) m N.isList (qa1 _) (by rw[y];exact qe1 _) (by rw[y];exact qj7 _)) (λ A O Q' E' z P=>?_) (J3o λ O z=>?_)
  ⟨_,_,rfl,g0 _,λ b o e=>Heap.get?_push_of_some _ (Heap.get?_push_of_some _ e),rfl,qa6 _⟩ (λ O R c fin g sz=>?_) (by rw[<-hl];exact E)
 ·obtain⟨J,K,rfl,B,_⟩:=z;exact B.typeIs
 ·obtain⟨J,K,rfl,B,_⟩:=z;exact wpAny_pyIter_revIter B P
 ·obtain⟨J,K,rfl,B,_⟩:=z;exact B.typeIs
 ·obtain⟨J,K,rfl,k,ea⟩:=fin;have C:R=i.reverse.toArray:=by rw[<-ea]
  subst C;refine⟨.ref _,upd H1 _ (.lst U.reverse),G.laid (t':=K) k (by rw[y];exact qe1 _) (show ObjOk X.prog X.w _ J _ (.lst U.reverse)from⟨by rw[qi7];exact E,i.reverse,c,Y.reverse,g⟩),rfl,q _ (G.hok.fresh (by rw[y];exact qe1 _))⟩
end
theorem apart{n a b:Nat}(h:a≠b):n+a≠n+b:=λ e=>h (Nat.add_left_cancel e)
theorem Z5e(ys:List Int):∀n,n<=ys.length->preSum (λ i=>ys.getD i 0) n=(ys.take n).sum
 |0,_=>by simp[preSum]
 |n+1,h=>by
  rw[preSum,Z5e ys n qR,qf1 qR,List.sum_append];simp[qd3,qa8 (show n<ys.length by omega)]
theorem J4f{X:Cx}(J:X.calm=true):Z3p X (.builtin "sum") (λ n H Q=>∃(p:V0)(a:List Int),n=[.ref p]/\SqL X.K H p (a.map V.int)/\Q (.int a.sum) H):=by
 intro y s S H n T Q I r h;obtain⟨p,a,rfl,K,q⟩:=h;obtain⟨u,rfl,L⟩:=r.one;cases L;obtain⟨c,B,j,U⟩:=I.list K;obtain⟨o,C,_,_,_⟩:=id j.isList;have m:p≠s.heap.objs.size:=qb7 (Heap.lt_size C);have D:=B.length;rw[qa0]at D;refine call_sum_walkG (wpAny_pyIter_list j.isList ?_);refine⟨s.heap.objs.size,_,_,_,_,_,λ i=>a.getD i 0,rfl,Walks.list (A:=X.A.in1) (show X.A.in1.handled=none from I.ok.hd J) _ p m c.toArray,⟨⟨_,Heap.get?_push_size _ rfl,rfl,rfl⟩,j.isList.at λ o e=>Heap.get?_push_of_some _ e⟩,λ b M=>?_,λ i v N=>?_,λ Y Z t' O=>?_⟩
 ·have lt:p<s.heap.objs.size:=Heap.lt_size C;have e:b=s.heap.objs.size\/b=p:=by simpa using M
  show b<(s.heap.objs.push _).size;rw[Array.size_push];rcases e with e|e
  ·rw[e];exact qj2 _
  ·rw[e];exact qh8 lt
 ·have g:c[i]?=some v:=by simpa using N
  have E:i<a.length:=by
   have:=(qa7.mp g).1;omega
  obtain⟨u',G,P⟩:=B.get (i:=i) (x:=V.int a[i]) (by rw[qa4,qa8 E];rfl);rw[g]at G;cases G;obtain⟨t,rfl⟩:=(show ∃t,_=Value.int a[i] t from P);exact⟨t,by simp[qd3,qa8 E]⟩
 ·have e:preSum (λ i=>a.getD i 0) c.toArray.size=a.sum:=by
   rw[qb2,<-D,Z5e a _ (qa1 _),qh9]
  refine⟨.int a.sum,H,I.kept λ b o e=>O b o (λ z=>?_) (Heap.get?_push_of_some _ e),by rw[e];exact⟨_,rfl⟩,q⟩;have R:b=s.heap.objs.size:=by simpa using z
  exact absurd (Heap.lt_size e) (by rw[R];exact qe9 _)
section
variable{P:Program}{w:M2}{B:V4}{R:Result->M1->Prop}{it:V0}{fp wr:List V0}{n:Nat}{Y:Nat->V1->Prop}{St:Nat->V3->Prop}
theorem Z4z:(toString "max"++toString ".loop":String)="max.loop":=by decide
theorem J4k(kw:List (V2×V1))(W:Walks P w B.in1 it fp wr n Y St)(p:Nat->Nat->Bool)(hc:CmpOf P w B.in1 .Gt Y p)(Z:V0)(N:Z∉fp):∀(k j:Nat)(s:M1)(u:V1)(c:Nat),n-(j+1)=k->j+1<=n->St (j+1) s.heap->Y (argBest p j) u->s.heap.get? Z=some {cls:=.type "list",dict:=none,data:=.seq #[u,u] c,slots:=#[]}->(∀v O G,Y (argBest p (n-1)) v->(∀b o,b∉wr->b≠Z->s.heap.get? b=some o->O.get? b=some o)->R (.ok (.ret v)) {s with heap:=O,toks:=G})->codeAny (model P w) B (.builtin "max.loop" ⟨[.ref it,.none,.ref Z],kw⟩) R s:=by
 have x:Z∉wr:=λ z=>N (W.sub _ z);intro k;induction k with
 |zero=>
  intro j s u c Q S I H y q;have T:j+1=n:=Nat.le_antisymm S (qm9.mp Q);refine codeAny_builtin F.entry_max_loop ?_;rw[Around.under_plainId F.plain_max_loop ⟨[.ref it,.none,.ref Z],kw⟩];show wpAny (model P w) B.in1 (seqItems? (.ref Z)>>=_) _ _ s;refine wpAny_bind (wpAny_seqItems y rfl ?_);show wpAny (model P w) B.in1 (tryCatch (pyNext (.ref it)) _>>=_) _ _ s;refine wpAny_bind (wpAny_tryCatch (W.done s _ _ (T▸I) λ h1 G r=>?_));have g:=r Z _ x y;show wpAny (model P w) B.in1 (updateSeq Z (λ _=>#[])>>=_) _ _ _;refine wpAny_bind (wpAny_updateSeq g rfl (wpAny_bind (wpAny_letGo (wpAny_pure ?_))));exact q u _ G (by rw[<-T];exact H) λ b o hb a e=>(Heap.get?_update_other _ _ (Ne.symm a)).trans (r b o hb e)
 |succ k U=>
  intro j s u c Q S I H y q;have lt:j+1<n:=by omega
  refine codeAny_builtin F.entry_max_loop ?_;rw[Around.under_plainId F.plain_max_loop ⟨[.ref it,.none,.ref Z],kw⟩];show wpAny (model P w) B.in1 (seqItems? (.ref Z)>>=_) _ _ s;refine wpAny_bind (wpAny_seqItems y rfl ?_);show wpAny (model P w) B.in1 (tryCatch (pyNext (.ref it)) _>>=_) _ _ s;refine wpAny_bind (wpAny_tryCatch (W.item (j+1) s _ _ lt I λ v h1 G hv C r=>?_));have g:=r Z _ x y;show wpAny (model P w) B.in1 (tryCatch (holding [v,v] (richCompare .Gt v u>>=_)) _>>=_) _ _ _;refine wpAny_bind (wpAny_tryCatch (wpAny_holding (wpAny_bind (hc (j+1) (argBest p j) v u _ _ _ hv H ?_))));refine wpAny_bind (wpAny_holding (wpAny_truthy_bool (wpAny_bind (wpAny_letGo (wpAny_pure ?_)))));cases D:p (j+1) (argBest p j)with
  |true=>
   rw[if_pos rfl];refine wpAny_bind (wpAny_updateSeq g rfl (wpAny_bind (wpAny_letGo ?_)));rw[Z4z];refine wpAny_pure ⟨plainId_quiet F.plain_max_loop ⟨[.ref it,.none,.ref Z],kw⟩,U (j+1) _ v _ qR lt (W.frame _ _ _ C λ b J o e=>?_) (by rw[argBest,D,if_pos rfl];exact hv) (Heap.get?_update_self _ g rfl) λ K L i m M=>?_⟩
   ·exact(Heap.get?_update_other _ _ (λ z:Z=b=>N (z▸J))).trans e
   ·exact q K L i m λ b o h a e=>M b o h a ((Heap.get?_update_other _ _ (Ne.symm a)).trans (r b o h e))
  |false=>
   rw[if_neg qc0];refine wpAny_bind (wpAny_letGo ?_);rw[Z4z];refine wpAny_pure ⟨plainId_quiet F.plain_max_loop ⟨[.ref it,.none,.ref Z],kw⟩,U (j+1) _ u c qR lt C (by rw[argBest,D,if_neg qc0];exact H) g λ K L i m M=>?_⟩;exact q K L i m λ b o h a e=>M b o h a (r b o h e)
end
theorem J0D(a d:V1):argsOk "max" ⟨[a],[(Str.ofString "default",d)]⟩:=by unfold argsOk;kernel_rfl
section
variable{P:Program}{w:M2}{A:V4}{E:V1->M1->Prop}{s:M1}
def J1f(ys:List Int)(m:Int):Prop:=m∈ys/\∀a∈ys,a<=m
theorem J4h{ys:List Int}(h:0<ys.length):J1f ys (ys.getD (argBest (λ i j=>decide (ys.getD i 0>ys.getD j 0)) (ys.length-1)) 0):=by
 obtain⟨a,b⟩:=argBest_gt (λ i=>ys.getD i 0) (ys.length-1);refine⟨?_,λ x c=>?_⟩
 ·have lt:argBest (λ i j=>decide (ys.getD i 0>ys.getD j 0)) (ys.length-1)<ys.length:=by omega
  rw[qd3,qa8 lt];exact qh0 lt
 ·obtain⟨j,g,e⟩:=List.getElem_of_mem c;have:=b j qR;rw[qd3,qa8 g]at this;rw[<-e];exact this
theorem J0U{l it:V0}{its:List V1}{ys:List Int}(b:A.handled=none)(e:ys.length=its.length)(c:∀(i:Nat)(v:V1),its[i]?=some v->∃t,v=Value.int (ys.getD i 0) t)(a:l≠it):Walks P w A it [it,l] [it] its.toArray.size (λ i v=>its.toArray[i]?=some v) (λ i h=>h.IsListIter it l i/\h.IsList l its.toArray)/\CmpOf P w A .Gt (λ i v=>its.toArray[i]?=some v) (λ i j=>decide (ys.getD i 0>ys.getD j 0)):=
 ⟨Walks.list b it l a its.toArray,CmpOf.ints_gt (λ i=>ys.getD i 0) λ i v h=>c i v (by simpa using h)⟩
theorem J3e{l:V0}{its:List V1}{ys:List Int}{d:V1}{Q:V1->M1->Prop}(U:A.handled=none)(pl:s.heap.IsList l its.toArray)(a:ys.length=its.length)(G:∀(i:Nat)(v:V1),its[i]?=some v->∃t,v=Value.int (ys.getD i 0) t)(q:∀v H c,(ys=[]->v=d)->(ys≠[]->∃m t,v=.int m t/\J1f ys m)->(∀b o,s.heap.get? b=some o->H.get? b=some o)->Q v {s with heap:=H,toks:=c}):wpAny (model P w) A (call (.builtin "max") [.ref l] [(Str.ofString "default",d)]) Q E s:=by
 obtain⟨ol,Z,_⟩:=id pl;have I:l<s.heap.objs.size:=Heap.lt_size Z;refine PyProof.Rows.kmk_tree PySem.F.kind_max PySem.F.plain_max PySem.F.entry_max (J0D _ _) ?_;show wpAny (model P w) A.in1 (Builtin.Builtins.bindParams "max" ["key","default"] 0 ⟨[],[(Str.ofString "default",d)]⟩>>=_) _ _ s;refine wpAny_bind (wpAny_of_eq (show Builtin.Builtins.bindParams "max" ["key","default"] 0 ⟨[],[(Str.ofString "default",d)]⟩=pure [none,some d]from rfl) (wpAny_bind (wpAny_pure ?_)));refine wpAny_bind (wpAny_pyIter_list pl (wpAny_bind (wpAny_newObj_type ?_)));rw[Z4z];have J:((s.heap.push {cls:=.type "list_iterator",data:=.fields #[.ref l,.int 0 0]}).push {cls:=.type "list",data:=.seq #[]}).IsListIter s.heap.objs.size l 0:=⟨_,Heap.get?_push_of_some _ (Heap.get?_push_size _ rfl),rfl,rfl⟩;have K:((s.heap.push {cls:=.type "list_iterator",data:=.fields #[.ref l,.int 0 0]}).push {cls:=.type "list",data:=.seq #[]}).IsList l its.toArray:=pl.at λ o e=>Heap.get?_push_of_some _ (Heap.get?_push_of_some _ e);have L:((s.heap.push {cls:=.type "list_iterator",data:=.fields #[.ref l,.int 0 0]}).push {cls:=.type "list",data:=.seq #[]}).get? (s.heap.objs.size+1)=some {cls:=.type "list",dict:=none,data:=.seq #[] 0,slots:=#[]}:=by
  rw[show s.heap.objs.size+1=(s.heap.push {cls:=.type "list_iterator",data:=.fields #[.ref l,.int 0 0]}).objs.size from(Heap.size_push ..).symm];exact Heap.get?_push_size _ rfl
 have M:∀b o,s.heap.get? b=some o->((s.heap.push {cls:=.type "list_iterator",data:=.fields #[.ref l,.int 0 0]}).push {cls:=.type "list",data:=.seq #[]}).get? b=some o:=λ b o e=>Heap.get?_push_of_some _ (Heap.get?_push_of_some _ e);rw[show(s.heap.push {cls:=.type "list_iterator",data:=.fields #[.ref l,.int 0 0]}).objs.size=s.heap.objs.size+1 from Heap.size_push ..];generalize(s.heap.push {cls:=.type "list_iterator",data:=.fields #[.ref l,.int 0 0]}).push {cls:=.type "list",data:=.seq #[]}=h3 at*;refine wpAny_pure ⟨plainId_quiet F.plain_max_loop _,?_⟩;obtain⟨W,hc⟩:=J0U (P:=P) (w:=w) (A:=A.in1) (it:=s.heap.objs.size) (l:=l) (its:=its) (ys:=ys) U a G (qb7 I);have x:s.heap.objs.size+1∉[s.heap.objs.size,l]:=λ z=>by
  rcases qa2.mp z with z|z
  ·omega
  ·exact absurd I (by rw[<-qa3.mp z];exact qf0.mpr (qe1 _))
 refine codeAny_builtin F.entry_max_loop ?_;rw[Around.under_plainId F.plain_max_loop _];show wpAny (model P w) A.in1 (seqItems? (.ref (s.heap.objs.size+1))>>=_) _ _ _;refine wpAny_bind (wpAny_seqItems L rfl ?_);show wpAny (model P w) A.in1 (tryCatch (pyNext (.ref s.heap.objs.size)) _>>=_) _ _ _;by_cases g:ys=[]
 ·have p:its.toArray.size=0:=by rw[qb2,<-a,g];rfl
  have st:(λ i (h:V3)=>h.IsListIter s.heap.objs.size l i/\h.IsList l its.toArray) its.toArray.size h3:=by rw[p];exact⟨J,K⟩
  refine wpAny_bind (wpAny_tryCatch (W.done _ _ _ st λ N c r=>?_));refine wpAny_bind (wpAny_rule (wpAny_pure ?_));exact q d N c (λ _=>rfl) (λ z=>absurd g z) λ b o e=>r b o (λ z=>absurd (Heap.lt_size e) (by rw[qa3.mp z];exact qe9 _)) (M b o e)
 ·have O:0<ys.length:=List.length_pos_iff.mpr g;have p:0<its.toArray.size:=by rw[qb2,<-a];exact O
  refine wpAny_bind (wpAny_tryCatch (W.item 0 _ _ _ p ⟨J,K⟩ λ v N c y C r=>?_));have S:=r _ _ (λ z=>x (qa2.mpr (.inl (qa3.mp z)))) L;refine wpAny_bind (wpAny_pure (wpAny_bind (wpAny_updateSeq S rfl ?_)));rw[Z4z];refine wpAny_pure ⟨plainId_quiet F.plain_max_loop _,J4k _ W _ hc _ x (its.toArray.size-1) 0 _ v _ rfl p (W.frame _ _ _ C λ b hb o e=>?_) y (Heap.get?_update_self _ S rfl) λ u h5 D hu k5=>?_⟩
  ·exact(Heap.get?_update_other _ _ (λ z:s.heap.objs.size+1=b=>x (z▸hb))).trans e
  ·obtain⟨t,rfl⟩:=G (argBest (λ i j=>decide (ys.getD i 0>ys.getD j 0)) (its.toArray.size-1)) _ (by rw[<-List.getElem?_toArray];exact hu);refine q _ h5 D (λ z=>absurd z g) (λ _=>⟨_,t,rfl,?_⟩) λ b o e=>?_
   ·have:=J4h O;rw[qb2,<-a];exact this
   ·have lt:=Heap.lt_size e;have T:b∉[s.heap.objs.size]:=λ z=>absurd lt (by rw[qa3.mp z];exact qe9 _);exact k5 b o T (qb7 (qh8 lt)) ((Heap.get?_update_other _ _ (qh3 (qh8 lt))).trans (r b o T (M b o e)))
end
section
variable{X:Cx}
theorem J3U{its:List V1}{ys:List Int}(b:Vals (ys.map V.int) its):ys.length=its.length/\∀(i:Nat)(v:V1),its[i]?=some v->∃t,v=Value.int (ys.getD i 0) t:=by
 have a:=b.length;rw[qa0]at a;refine⟨a,λ i v h=>?_⟩;have c:i<ys.length:=by rw[a];exact(qa7.mp h).1
 obtain⟨u,e,r⟩:=b.get (i:=i) (x:=V.int ys[i]) (by rw[qa4,qa8 c];rfl);rw[h]at e;cases e;obtain⟨t,rfl⟩:=(show ∃t,_=Value.int ys[i] t from r);exact⟨t,by rw[qd3,qa8 c];rfl⟩
def J6L(K:X0)(t tk:TA):TE:=λ b H Q=>t b H λ e g=>tk b g λ h c=>∃(p:V0)(a:List Int)(d:Int),e=[.ref p]/\h=[.int d]/\SqL K c p (a.map V.int)/\∀m,(a=[]->m=d)->(a≠[]->J1f a m)->Q (.int m) c
theorem J8A{K:X0}{t tk:TA}{b:St}{H:Hp}{Q:VK}:J6L K t tk b H Q=t b H λ c e=>tk b e λ g H2=>∃(p:V0)(a:List Int)(d:Int),c=[.ref p]/\g=[.int d]/\SqL K H2 p (a.map V.int)/\∀m,(a=[]->m=d)->(a≠[]->J1f a m)->Q (.int m) H2:=rfl
theorem J5x{e o:Expr}{t tk:TA}{p a kp:Pos}(C:X.calm=true)(D:Gl X "max")(G:X.mg "max"=none)(J:bootBuiltins "max"=some (.builtin "max"))(ha:PA X [e] t)(K:PK X [⟨some "default",o,kp⟩] tk)(L:backTo a (starEach [e] X.env)=(false,eval e X.env)::backTo a (starEach [] X.env):=by rfl)(i:(backTo a (starEach [e] X.env)).any (·.1)=false:=by rfl)(M:("max":V2)≠"__name__":=by decide)(j:(("max":V2)==("__debug__":V2))=false:=by decide):PE X (.Call (.Name "max" p) [e] [⟨some "default",o,kp⟩] a) (J6L X.K t tk):=by
 intro b s r H Q I h;refine wpAny_Call_Name_kw (Z4e I D G J ?_ M j);refine PyProof.Rows.callWith_kw (thn (ha a b s r H _ I h) λ us N ⟨vs,O,S,T,U⟩=>thn (K a b N r O _ S U) λ ws s2 x=>?_) L i rfl rfl;obtain⟨zs,y,c,Z,l,ys,d,rfl,rfl,hq,q⟩:=x;obtain⟨u,rfl,ru⟩:=T.one;cases ru;obtain⟨z,rfl,rz⟩:=Z.one;obtain⟨a0,rv,pl,x⟩:=c.list hq;obtain⟨hl,hv⟩:=J3U rv;refine J3e (c.ok.hd C) pl.isList hl hv λ v h' tk hd hx k=>?_;obtain⟨tz,rfl⟩:=(show ∃t,z=Value.int d t from rz);by_cases g:ys=[]
 ·cases hd g;exact⟨.int d,y,c.kept k,⟨_,rfl⟩,q d (λ _=>rfl) λ z=>absurd g z⟩
 ·obtain⟨m,t,rfl,im⟩:=hx g;exact⟨.int m,y,c.kept k,⟨_,rfl⟩,q m (λ z=>absurd z g) λ _=>im⟩
end
open PySem.SeqAt
def rNeN(K:X0):R2:=λ x y H Q=>∃a c b,x=.ref a/\y=.ref b/\SqL K H a c/\SqL K H b []/\Q (.bl (!c.isEmpty)) H
def rEqN(K:X0):R2:=λ x y H Q=>∃a c b,x=.ref a/\y=.ref b/\SqL K H a c/\SqL K H b []/\Q (.bl c.isEmpty) H
theorem J9v{K:X0}{x y:V}{H:Hp}{Q:VK}:rNeN K x y H Q=∃a c b,x=.ref a/\y=.ref b/\SqL K H a c/\SqL K H b []/\Q (.bl (!c.isEmpty)) H:=rfl
theorem J8S{K:X0}{x y:V}{H:Hp}{Q:VK}:rEqN K x y H Q=∃a c b,x=.ref a/\y=.ref b/\SqL K H a c/\SqL K H b []/\Q (.bl c.isEmpty) H:=rfl
section
variable{X:Cx}
theorem J4P(i:X.A.units+64<cLine):OpR X (compareOp .NotEq) (rNeN X.K):=by
 intro m s E H x y v u Q I z A h;obtain⟨a,n,b,rfl,rfl,ha,B,q⟩:=h;cases z;cases A;obtain⟨C,o,p,_⟩:=I.list ha;obtain⟨r,g,c,_⟩:=I.list B;cases g.zero;cases n with
 |nil=>
  cases o.zero;exact RcNeAt.lists (e:=λ _=>true) p.isList c.isList rfl (qj6 (qg2 _ _) i) (λ j h=>absurd h (qk8 _)) X.prog X.w X.xe _ ⟨.bl false,H,I,rfl,q⟩
 |cons x n=>
  have D:=o.length;refine RcNeAt.lists_lengths p.isList c.isList ?_ (qj6 (qg2 _ _) i) X.prog X.w X.xe _ ⟨.bl true,H,I,rfl,q⟩;rw[qb2,<-D];rfl
theorem Z6x(i:X.A.units+64<cLine):OpR X (compareOp .Eq) (rEqN X.K):=by
 intro m s E H x y v u Q I z A h;obtain⟨a,n,b,rfl,rfl,ha,B,q⟩:=h;cases z;cases A;obtain⟨C,o,p,_⟩:=I.list ha;obtain⟨r,g,c,_⟩:=I.list B;cases g.zero;cases n with
 |nil=>
  cases o.zero;exact RcAt.lists (e:=λ _=>true) p.isList c.isList rfl (qj6 (qg2 _ _) i) (λ j h=>absurd h (qk8 _)) X.prog X.w X.xe _ ⟨.bl true,H,I,rfl,q⟩
 |cons x n=>
  have D:=o.length;refine RcAt.lists_lengths p.isList c.isList ?_ (qj6 (qg2 _ _) i) X.prog X.w X.xe _ ⟨.bl false,H,I,rfl,q⟩;rw[qb2,<-D];rfl
end
theorem Z6k{J:It}{A:TE}{Q:VK}{B:Hp}{D:V0}{n:Nat}{p:St}(C:Option V)(rest:St)(E:Nat->V->Prop)(W:Nat->List V->Hp->Prop)(L:p=C::rest)(hz:n<=sizeLine)(M:W 0 [] (upd B D (.lst [])))(y:∀i c H,i<n->W i c H->J.go i H/\∀x g,J.yld i H x g->g=H/\E i x)(h:∀c H,W n c H->J.stop n H)(N:∀i x c H (G:VK),i<n->E i x->W i c H->H D=some (.lst c)->(∀v g,g D=some (.lst c)->W (i+1) (c++[v]) (upd g D (.lst (c++[v])))->G v g)->A (some x::rest) H G)(O:∀c H,W n c H->H D=some (.lst c)->c.length=n->Q (.ref D) H):Z4k J (Z2D 0) Z4w A D Q p (upd B D (.lst [])):=by
 refine⟨λ i m q o=>m=n-i/\i<=n/\(∃v,q=v::rest)/\∃c,o D=some (.lst c)/\c.length=i/\W i c o,⟨n,by simp,qa6 _,⟨C,L⟩,[],Z0b,rfl,M⟩,?_⟩;rintro i m q o ⟨rfl,Y,⟨v,rfl⟩,c,I,K,u⟩;by_cases j:i<n
 ·obtain⟨go,P⟩:=y i c o j u;refine .inr ⟨go,λ r g=>(∃v,r=v::rest)/\∃c,g D=some (.lst c)/\c.length=i+1/\W (i+1) c g,λ r g ⟨a,b⟩=>⟨n-(i+1),qR,rfl,j,a,b⟩,λ x g R=>?_⟩;obtain⟨S,T⟩:=P x g R;subst S;unfold Z2D Z4w;rw[qi6];refine iteT (N i x c _ _ j T u I λ v Z U z=>?_);exact⟨c,U,qR,⟨_,rfl⟩,_,Z0b,by rw[qa5,K];rfl,z⟩
 ·have e:i=n:=by omega
  subst e;exact .inl ⟨h c o u,O c o u I K⟩
def J3W(K:X0)(ta:TE):TT:=λ e H Q=>ta e H λ x b=>∃a c,x=.ref a/\SqL K b a c/\Q (!c.isEmpty) b
theorem J8i{K:X0}{b:TE}{c:St}{H:Hp}{Q:Bool->Hp->Prop}:J3W K b c H Q=b c H λ x H1=>∃a e,x=.ref a/\SqL K H1 a e/\Q (!e.isEmpty) H1:=rfl
theorem J6k{X:Cx}{a:Expr}{e:TE}(ha:PE X a e)(i:∀b,isTrue a X.env b=(do let v<-b;standAt a.pos;holding [v] (truthy v))):PT X a (J3W X.K e):=by
 intro c s g H Q I h;refine isTrue_plain (thn (ha c s g H _ I h) λ v j m=>?_) (i _);obtain⟨x,n,o,p,a,r,rfl,u,q⟩:=m;exact J7d c j g n _ v Q o p ⟨_,.inl ⟨r,u,rfl⟩,q⟩
theorem J5A{c:TT}{o:TS}{D:Ends}{a:St}{H:Hp}(i:Nat->St->Hp->Prop){r:Nat}(v:i r a H)(hs:∀m a H,i m a H->c a H λ b g=>if b=true then o {D with nx:=λ e n=>∃j,j<m/\i j e n,ct:=λ e n=>∃j,j<m/\i j e n,bk:=D.nx} a g else D.nx a g)(mono:∀a H Q u,(∀b g,Q b g->u b g)->c a H Q->c a H u):J4E c o D a H:=by
 refine⟨i,⟨r,v⟩,λ m a H p=>mono a H _ _ (λ b g q=>?_) (hs m a H p)⟩;cases b with
 |true=>exact⟨_,λ e n h=>h,q⟩
 |false=>exact q
theorem J1R{o:Option (Option V)}{R R':V->Prop}(i:∀v,R v->R' v)(h:opt2 o R):opt2 o R':=by
 unfold opt2 at h ⊢;split at h
 ·exact i _ h
 ·cases h
theorem J2C{K:X0}{i:Nat}(c:St)(H:Hp)(Q Q':Bool->Hp->Prop)(j:∀b g,Q b g->Q' b g)(h:J3W K (Z4f i) c H Q):J3W K (Z4f i) c H Q':=J1R (λ v ⟨a,m,e,n,q⟩=>⟨a,m,e,n,j _ _ q⟩) h
theorem J5Y(l:V0)(xs:Array V1)(n:Nat)(b:V0)(ys:Array V1)(m:Nat)(i:Option V0)(j:Array (Option V1))(q:¬(!xs.isEmpty&&Builtin.List.listTooLong (xs.size+ys.size))=true)(o:xs.size<=sizeLine)(h2:xs.size+ys.size<=sizeLine+1):Meets (Builtin.«list.extend» ⟨[.ref l,.ref b],[]⟩) (λ _ R s=>s.heap.get? l=some {cls:=.type "list",dict:=none,data:=.seq xs n,slots:=#[]}/\s.heap.get? b=some {cls:=.type "tuple",dict:=i,data:=.seq ys m,slots:=j}/\R (.ok (.ret Value.none)) {s with heap:=s.heap.update l (Obj.mapSeq λ x=>x++ys),toks:=s.toks}):=by
 refine .of_wp λ c w A R s h=>?_;obtain⟨r,g,d,u,v⟩:=s;obtain⟨e,p,h⟩:=h;have y:=AutoSeq1.sub_tuple_tuple;have z:=AutoSeq1.sub_list_list;have B:=AutoSeq1.sub_tuple_list;have C:=AutoSeq1.sub_list_tuple;have a:(xs++ys).size<=sizeLine+1:=by rw[Array.size_append];exact h2
 wp_walk using(wpAny_updateSeq e rfl (hz:=o) (_hz':=a)),wpAny_loadPart' e,wpAny_loadPart' p
 exact⟨_,rfl,h⟩
def Z6l(K:X0):V->List V->Hp->VK->Prop:=λ x e H Q=>∃l b a c,x=.ref l/\e=[.ref b]/\H l=some (.lst a)/\SqT K H b c/\a.length+c.length<=sizeLine/\Q .non (upd H l (.lst (a++c)))
theorem J5n{K:X0}{x:V}{vs:List V}{H:Hp}{Q:VK}:Z6l K x vs H Q=∃l b a c,x=.ref l/\vs=[.ref b]/\H l=some (.lst a)/\SqT K H b c/\a.length+c.length<=sizeLine/\Q .non (upd H l (.lst (a++c))):=rfl
theorem J0m{X:Cx}:MtM X "list.extend" (Z6l X.K):=by
 intro m s O H x P v R Q I y A h;obtain⟨l,b,S,T,rfl,rfl,o,B,U,q⟩:=h;cases y;obtain⟨u,rfl,C⟩:=A.one;cases C;obtain⟨z,c,n,r,Y,e⟩:=I.lstM o;obtain⟨a,p,i,Z⟩:=I.tuple B;obtain⟨⟨cl,D,da,E⟩,G,J,K,L⟩:=id i;cases J;cases L;have M:=p.length;have N:=r.length;have j:c.toArray.size+a.toArray.size<=sizeLine:=by rw[qb2,qb2];omega
 have g:¬(!c.toArray.isEmpty&&Builtin.List.listTooLong (c.toArray.size+a.toArray.size))=true:=by
  rw[Z5S j,Bool.and_false];exact qc0
 refine call_meets F.slot_list_extend ⟨_,e,rfl⟩ F.entry_list_extend (F.args_list_extend_2 _ _) (J5Y l c.toArray n b a.toArray K D E g (by rw[qb2];omega) qR) ⟨e,G,?_⟩;refine⟨.non,_,I.lset (its':=c++a) o e (by simp) (r.append p) ?_,rfl,q⟩;rw[qa5];omega
open AutoSeq1 (wpAny_loadPart')
section
variable{X:Cx}
def Z5I(K:X0):R2:=λ x y H Q=>∃a b c e,x=.ref a/\y=.ref b/\SqT K H a c/\SqT K H b e/\c.length+e.length<=sizeLine/\∀p g,Same H g->SqT K g p (c++e)->Q (.ref p) g
theorem J4e{prog:Program}{w:M2}{A:V4}{E:V1->M1->Prop}{s:M1}{t b:V0}{m:List V1}{Q:V1->M1->Prop}(u:IsTup s.heap t #[])(v:IsTup s.heap b m.toArray)(h:Q (.ref b) s):wpAny (model prog w) A (binaryOp .Add (.ref t) (.ref b)) Q E s:=by
 obtain ⟨⟨x,y,o,z⟩,p,q,n,hd⟩:=id u;obtain ⟨⟨r,g,i,j⟩,a,c,B,e⟩:=id v;simp only at q hd c e;subst q hd c e;exact concat_meets ⟨_,p,rfl⟩ ⟨_,a,rfl⟩ noFill_tuple_add seq_tuple_add qm4 qm5 (qm6 _ _)
  (tuple_addW0 t b #[] m.toArray n B y g z j (by simp)) ⟨p,a,h⟩
theorem Z3i:OpR X (binaryOp .Add) (Z5I X.K):=by
 intro g s J H x y v u Q I n z h;obtain⟨a,b,B,K,rfl,rfl,i,j,L,q⟩:=h;by_cases C:B=[]
 ·subst C;obtain rfl:v=Value.ref a:=n;obtain rfl:u=Value.ref b:=z;obtain⟨M,r,N,_⟩:=I.tuple i;obtain⟨D,P,m,_⟩:=I.tuple j;cases r;exact J4e N m ⟨.ref b,H,I,rfl,q b H (Same.refl H) (by simpa using j)⟩
 ·refine J5X g s J H _ _ v u Q I n z ⟨a,b,B,K,rfl,rfl,i,j,C,L,λ e=>?_,λ e p O=>?_⟩
  ·subst e;exact q a H (Same.refl H) (by simpa using i)
  ·exact q p _ (λ c o G=>by rw[Z0e (Z0g G O)];exact G) (SqT.of Z0b)
end
open HT
section
variable{prog:Program}{w:M2}{A:V4}{E:V1->M1->Prop}{s:M1}
theorem Z3H{t g:V0}{items:Array V1}{n o:V1}{a e:Option Int}{Q:V1->M1->Prop}(b:IsTup s.heap t items)(hs:s.heap.IsSliceOf g n o .none)(pl:IsPart n a)(q:IsPart o e)(p:sIx items.size 0 a=0/\sIx items.size items.size e=items.size)(h:Q (.ref t) s):wpAny (model prog w) A (getItem (.ref t) (.ref g)) Q E s:=by
 obtain⟨r,i,j,u⟩:=id hs;have m:s.TypeIs (.ref g) "slice":=⟨r,i,j⟩;unfold getItem;try with_reducible refine wpAny_holding ?_
 first|refine wpAny_bind (wpAny_pure ?_)|skip
 refine wpAny_bind (wpAny_sequenceKey b.typeIs qQ ?_);refine wpAny_bind (wpAny_callSpecial?_slot (name:=Str.ofString "__getitem__") b.typeIs PyProof.Rows.slot_tuple_getitem (wpAny_call_entry PyProof.Rows.slot_tuple_getitem b.typeIs entry_tuple_getitem ?_ (args_tuple_getitem _ _)));show wpAny _ _ (Builtin.Tuple.tupleItemsOf (.ref t)>>=_) _ _ s;refine wpAny_bind (tupleItemsOf_ b ?_);refine wpAny_bind (wpAny_typeOf m ?_);rw[if_pos qQ];refine wpAny_bind (Z3e hs pl q ?_);have c:(((sIx items.size 0 a:Nat):Int)==0&&(1:Int)==1&&(sIx items.size items.size e-sIx items.size 0 a)==items.size)=true:=by
  rw[p.1,p.2];simp
 show wpAny _ _ (if (((sIx items.size 0 a:Nat):Int) == 0&&(1:Int) == 1&&(sIx items.size items.size e - sIx items.size 0 a) == items.size)=true then _ else _) _ _ s;rw [if_pos c];refine wpAny_bind ?_;show wpAny _ _ ((typeOf (.ref t)) >>= _) _ _ s;refine wpAny_bind (wpAny_typeOf b.typeIs (wpAny_pure ?_));rw [if_pos qQ];first
  |exact wpAny_bind (wpAny_rule (wpAny_pure ⟨_,rfl,wpAny_pure h⟩))
  |exact wpAny_bind (wpAny_pure (wpAny_pure ⟨_,rfl,wpAny_pure h⟩))
  |exact wpAny_pure ⟨_,rfl,wpAny_pure h⟩
end
section
variable{X:Cx}
def rSlA(K:X0):V->Option Int->Option Int->Hp->VK->Prop:=λ x e g H Q=>∃a c,x=.ref a/\SqT K H a c/\∀p b,Same H b->SqT K b p (cutV c e g)->Q (.ref p) b
theorem Z4F:SlR X (rSlA X.K):=by
 intro b s J H x v K L j m M Q I y z B C h;obtain⟨a,xs,rfl,n,q⟩:=h;by_cases i:HT.sIx xs.length 0 j=0/\HT.sIx xs.length xs.length m=xs.length
 ·obtain rfl:v=Value.ref a:=y;obtain⟨u,r,D,O⟩:=I.tuple n;have g:u.toArray.size=xs.length:=by rw[qb2];exact r.length.symm
  refine⟨"tuple",_,PyProof.Rows.slot_tuple_getitem.lookup,D.typeIs,?_⟩;refine Z3H D z B C (by rw[g];exact i) ⟨.ref a,H,I,rfl,q a H (Same.refl H) ?_⟩;have e:cutV xs j m=xs:=by
   unfold cutV;rw[i.1,i.2,List.drop_zero,Nat.sub_zero,qh9]
  rw[e];exact n
 ·exact J6M b s J H _ v K L j m M Q I y z B C ⟨a,xs,rfl,n,i,λ p N=>q p _ (λ c o G=>by rw[Z0e (Z0g G N)];exact G) (SqT.of Z0b)⟩
end
def J5a(K:X0):List V->Hp->VK->Prop:=λ b H Q=>∃p a,b=[V.ref p]/\((SqL K H p a/\∀(l:V0),H l=none->Q (V.ref l) (upd H l (HO.tup a)))\/(SqT K H p a/\Q (V.ref p) H))
theorem J7D{K:X0}{xs:List V}{H:Hp}{Q:VK}:J5a K xs H Q=(∃p a,xs=[V.ref p]/\((SqL K H p a/\∀(l:V0),H l=none->Q (V.ref l) (upd H l (HO.tup a)))\/(SqT K H p a/\Q (V.ref p) H))):=rfl
section
variable{X:Cx}
theorem Z5y:∀{a:List V2}{b:List V1},Vals (a.map V.str) b->StrsAre b a
 |[],_,.nil=>.nil
 |y::r,_,.cons h t=>by
  obtain⟨c,rfl⟩:=h;exact .cons y c (Z5y t)
def J7M(K:X0):V->List V->Hp->VK->Prop:=λ x b H Q=>∃z p a,x=.str z/\b=[.ref p]/\SqL K H p (a.map V.str)/\(a.map (·.length)).sum+a.length*z.length<=16777216/\Q (.str (Txt.join z a)) H
theorem J2n:MtR X "str.join" (J7M X.K):=by
 intro a s o H x y v A Q I b c h;obtain⟨z,p,B,rfl,rfl,e,g,q⟩:=h;obtain⟨t,rfl⟩:=b;obtain⟨u,rfl,i⟩:=c.one;cases i;obtain⟨j,r,m,_⟩:=I.list e;exact join_list m.isList (by simpa using Z5y r) g λ n k=>⟨.str _,H,I.tok k,⟨n,rfl⟩,q⟩
theorem J7J{h:V3}{a:V0}{m m':V2->Option V1}(x:h.Ns a m)(y:h.Ns a m'):m=m':=by
 obtain⟨o,q,r,g,hd,_,i⟩:=x;obtain⟨u,j,p,b,c,_,e⟩:=y;rw[g]at b;cases b;rw[hd]at c;cases c;funext n;rw[<-i n,<-e n]
theorem Inv.laidL{e:List (V0×Obj)}{s:M1}{p:St}{H:Hp}{h':V3}{t':Nat}{o:HO}{m:V2->Option V1}(I:Inv X e p H s)(y:s.heap.Ns X.env.locals m)(g:h'.Ns X.env.locals m)(k:∀b u,b≠X.env.locals->s.heap.get? b=some u->h'.get? b=some u)(new:ObjOk X.prog X.w (upd H s.heap.objs.size o) h' s.heap.objs.size o):Inv X e p (upd H s.heap.objs.size o) {s with heap:=h',toks:=t'}:=by
 have fresh:H s.heap.objs.size=none:=I.hok.fresh (qa1 _);have h:∀ b u,s.heap.get? b=some u->b≠s.heap.objs.size:=λ b u q=>qb7 (Heap.lt_size q);have i:∀ b u,H b=some u->b≠X.env.locals:=λ b u q=>Z0g q I.free;refine I.step (g':=s.gens) (d':=s.drawn) (ch:=[]) (λ _ z=>nomatch z) (λ b u a _ _ q _=>k b u a q) (λ b u a _ _ q _=>⟨u.slots,k b u a q⟩) (λ b u _ q n=>by rw [Z0e (h b u q)]; exact n)
  (λ b u _ q=>?_) (λ b x q=>by rw[Z0e (Z0g q fresh)];exact q) (λ b u x q=>by rw[Z0e (Z0g q fresh)];exact q) (λ b ps q=>⟨#[],by rw[Z0e (Z0g q fresh),q];simp⟩)
  (λ D j=>by rw[J7J j y];exact g) (λ b u q=>?_) I.bare
 ·by_cases a:b=X.env.locals
  ·subst a;obtain⟨A,_,_,B,_⟩:=g;exact⟨A,B⟩
  ·exact⟨u,k b u a q⟩
 ·by_cases a:b=s.heap.objs.size
  ·subst a;rw[Z0b]at q;cases q;exact new
  ·rw[Z0e a]at q;refine(I.hok b u q).stay (λ c v C r=>?_) (λ c r=>by rw[Z0e (Z0g r fresh)];exact r) λ c x r=>by rw[Z0e (Z0g r fresh)];exact r
   rcases C with z|z
   ·exact k c v (by rw[z];exact i b u q) r
   ·exact k c v (i c _ z) r
theorem Z6E:∀(l:List (V2×Tok)),Vals ((l.map (·.1)).map V.str) (strValues l)
 |[]=>.nil
 |p::r=>.cons ⟨p.2,rfl⟩ (Z6E r)
def J6T:V->List V->Hp->VK->Prop:=λ x a H Q=>∃z y,x=.str z/\a=[.str y]/\(y.length==0)=false/\z.length+2<=sizeLine/\(Txt.split z y).length<=sizeLine/\∀p,H p=none->Q (.ref p) (upd H p (.lst ((Txt.split z y).map V.str)))
theorem J4p:MtR X "str.split" J6T:=by
 intro g s L H x M v N Q I n p h;obtain⟨z,y,rfl,rfl,r,A,B,q⟩:=h;obtain⟨t,rfl⟩:=n;obtain⟨u,rfl,C⟩:=p.one;obtain⟨O,rfl⟩:=C;obtain⟨m,F⟩:=I.fr;refine splitN1 (news:=Z4K X.base s.heap X.env.locals) F J3B r (λ l D k e i j=>?_) A;have E:=(j (s.heap.objs.size,_) qa9).1;obtain⟨P,G,_⟩:=I.loc;have J:∀b u,b≠X.env.locals->s.heap.get? b=some u->D.get? b=some u:=λ b u K q=>by
  cases a:X.base.get? b with
  |some o=>
   have:=I.bk b o a;rw[q]at this;cases this;exact i.keep b _ a
  |none=>exact(j (b,u) (qb1 _ (Z8c K a q))).1
 have c:((l.map (·.1)).map V.str).length<=sizeLine:=by rw[e,qa0];exact B
 refine⟨.ref s.heap.objs.size,_,I.laidL (t':=k) (o:=.lst ((l.map (·.1)).map V.str)) F.ns i.ns J ⟨c,strValues l,0,Z6E l,E⟩,rfl,?_⟩;rw[e];exact q _ (I.hok.fresh (qa1 _))
def J9l:R2:=λ x y H Q=>∃z k,x=.str z/\y=.int k/\-(2^63)<=k/\k<2^63/\z.length*k.toNat<=sizeLine/\Q (.str (Txt.mul z k)) H
theorem J0r:OpR X (binaryOp .Mult) J9l:=by
 intro e s r H x y v u Q I i j h;obtain⟨z,k,rfl,rfl,A,B,m,q⟩:=h;obtain⟨t,rfl⟩:=i;obtain⟨g,rfl⟩:=j;refine SB.mul ⟨?_,λ C _=>?_,λ _ _=>?_⟩ λ g n=>⟨.str _,H,I.tok n,⟨g,rfl⟩,q⟩
 ·rw[decide_eq_false qR,decide_eq_false qR];rfl
 ·intro o;have p:1<=k:=by omega
  have D:(z.length:Int)*k<=(sizeLine:Nat):=by
   have:((z.length*k.toNat:Nat):Int)<=(sizeLine:Nat):=by exact_mod_cast m
   rw[Int.natCast_mul,Int.toNat_of_nonneg qR]at this;exact this
  have E:((2^63-1)/k+1)*k<=(z.length:Int)*k:=Int.mul_le_mul_of_nonneg_right qR qR;have G:(2^63-1:Int)<((2^63-1)/k+1)*k:=by
   have:=Int.lt_mul_of_ediv_lt (a:=2^63-1) (b:=(2^63-1)/k+1) (c:=k) qR qR;exact this
  have J:((sizeLine:Nat):Int)<2^63-1:=by decide
  omega
 ·unfold Builtin.Str.tooLong;exact decide_eq_false qR
end
section
variable{X:Cx}{N:List V2}{nl:List (Option Nat)}{scope:Scope}{cl:List (V2×V0)}{elt tg iter:Expr}{pos pos' spos:Pos}{wi:TI}{g:TG}{tc:TT}{te:TE}{i:Nat}{x:V2}
theorem Z7n{h:List (V0×Obj)}{B:St}{K:Ends}(O:X.N.Nodup)(P:X.N[i]?=some x)(L:X.env.scope.names.lookup x=some .local)(D C:V0)(s' u:M1)(M:List V0)(E:St)(H' H2:Hp)(j:Inv X h B H2 u)(Q:∀b∈M,FpOk X h H2 b)(G:u.heap.objs.size<=C)(J:Inv (X.block N scope cl C M u H2) [] E H' s')(q:K.nx (B.set i (some (.ref D))) H'):compPost (model X.prog X.w) X.A X.xe (some (assign (.Name x pos') X.env)) (λ _ R=>SP X h K .next R) (.ref D) C (.ok .next) s':=by
 have S:Inv X h B H' s':=Z6C (h2:=s'.heap) j Q G J λ b o _ e=>e;have A:∀b o,u.heap.get? b=some o->b≠C:=λ b o e=>qb7 (qd1 (Heap.lt_size e) G);have n:C≠X.env.locals:=λ z=>by
  obtain⟨m,⟨o,_,_,r,_⟩,_⟩:=j.loc;exact A _ o r z.symm
 obtain⟨m,T,_⟩:=J.loc;show wpAny _ _ (assign (.Name x pos') X.env (.ref D)) _ _ _;have e:assign (.Name x pos') X.env (.ref D)=(do standAt pos';bindName X.env x (.ref D)):=by rfl
 rw[e];refine wpAny_bind (wpAny_standAt (wpAny_bindName ?_));refine Z6N (v:=.ref D) S O P (.inl L) rfl (λ U Y ⟨a,Z,ha⟩=>?_) (.inr L);have H:C≠a:=by
  rcases ha with z|z
  ·rw[z];exact n
  ·obtain⟨v,o,r,_⟩:=j.cell x a z;exact λ z2=>A a o r z2.symm
 refine⟨m,T.sameBut Z H,λ h' I=>⟨_,H',?_,q⟩⟩;refine Y.turned (t':=U.toks) (it:=C) (λ b o hb e=>I.extBut b o hb e) J.free n (.inr (qb9 j.sz G)) (λ y c e z=>?_) λ p hp z=>?_
 ·obtain⟨v,o,r,_⟩:=j.cell y c e;exact A c o r z
 ·exact A p.1 _ (j.pin p hp).1 z
def J2L(i:Nat)(t:TE):TS:=λ D a H=>t a H λ v b=>D.nx (a.set i (some v)) b
theorem Z1D(a:X.calm=true)(p:X.N.Nodup)(r:X.N[i]?=some x)(u:X.env.scope.names.lookup x=some .local)(B:BlockOk X N nl scope cl)(e:PI X tg iter wi)(y:∀C b s H,PG (X.block N scope cl C b s H) tg g)(A:∀C b s H,PE (X.block N scope cl C b s H) elt te)(hs:∀x,foldedSetIterable iter X.env x=pure x:=by intro _;rfl)(j:swapsWith (.ListComp elt [⟨tg,iter,[],0⟩] scope pos) (some (.Name x pos')) spos.line X.env=pure true:=by rfl):PS X (.Assign [.Name x pos'] (.ListComp elt [⟨tg,iter,[],0⟩] scope pos) spos) (J2L i (Z7j wi nl g Z4w te)):=by
 intro c s E H D I h;rw[exec_Assign_Name_used _ _ _ _ j];refine wpAny_bind (wpAny_standAt (wpAny_bind ?_));show wpAny _ _ (evalThenUse (.ListComp elt [⟨tg,iter,[],0⟩] scope pos) X.env _) _ _ _;unfold evalThenUse;refine wpAny_bind ?_;exact thn (Z4a (Q:=λ v m=>D.nx (E.set i (some v)) m) (tst:=λ _=>pure true) (Q':=λ _ o=>SP X c D .next o) a B e y (λ _ _ _ _=>J0Y) A Z9v hs I h (λ G C K L b n m M O P R J q=>Z7n p r u G C K L b n m M O P R J q) _) λ _ o z=>wpAny_pure (wpAny_pure z)
theorem Z1y{c:Expr}(b:X.calm=true)(u:X.N.Nodup)(y:X.N[i]?=some x)(A:X.env.scope.names.lookup x=some .local)(B:BlockOk X N nl scope cl)(m:PI X tg iter wi)(E:∀C a s H,PG (X.block N scope cl C a s H) tg g)(G:∀C a s H,PT (X.block N scope cl C a s H) c tc)(K:∀C a s H,PE (X.block N scope cl C a s H) elt te)(hs:∀x,foldedSetIterable iter X.env x=pure x:=by intro _;rfl)(n:swapsWith (.ListComp elt [⟨tg,iter,[c],0⟩] scope pos) (some (.Name x pos')) spos.line X.env=pure true:=by rfl):PS X (.Assign [.Name x pos'] (.ListComp elt [⟨tg,iter,[c],0⟩] scope pos) spos) (J2L i (Z7j wi nl g tc te)):=by
 intro e s L H D I h;rw[exec_Assign_Name_used _ _ _ _ n];refine wpAny_bind (wpAny_standAt (wpAny_bind ?_));show wpAny _ _ (evalThenUse (.ListComp elt [⟨tg,iter,[c],0⟩] scope pos) X.env _) _ _ _;unfold evalThenUse;refine wpAny_bind ?_;exact thn (Z4a (Q:=λ v o=>D.nx (L.set i (some v)) o) (tst:=λ j=>isTrue c j (eval c j)) (Q':=λ _ r=>SP X e D .next r) b B m E (λ C a s H=>J4V (G C a s H)) K Z9y hs I h (λ M C O P a p o R S T U J q=>Z7n u y A M C O P a p o R S T U J q) _) λ _ r z=>wpAny_pure (wpAny_pure z)
end
theorem J8h{b:TI}{nl:List (Option Nat)}{g:TG}{c:TT}{e:TE}{a:St}{H:Hp}{Q:VK}:Z7j b nl g c e a H Q=(b a H λ J h=>∀D,h D=none->Z4k J g c e D Q (stOf nl a) (upd h D (.lst []))):=rfl
theorem J8g{i:Nat}{t:TE}{D:Ends}{a:St}{H:Hp}:J2L i t D a H=(t a H λ v b=>D.nx (a.set i (some v)) b):=rfl
theorem J8T{K:X0}{x:V}{y:V}{H:Hp}{Q:VK}:rNeD K x y H Q=(∃d e,RdD K H x d/\RdD K H y e/\shaped d=true/\shaped e=true/\Q (.bl (!PyData.eqv d e)) H):=rfl
theorem J8u{K:X0}{b:TA}{c:St}{H:Hp}{R:It->Hp->Prop}:J6N K b c H R=(b c H λ g e=>∃a,g=[.ref a]/\(∃h,SqL K e a h)/\R (Ite K a) e):=rfl
theorem J6H{K:X0}{xs:List V}{H:Hp}{Q:VK}:Z9I K xs H Q=(∃a d,xs=[.ref a]/\RdD K H (.ref a) d/\d.showable=true/\d.hasDict=false/\d.depth<=60/\d.shown.length<=sizeLine/\Q (.str d.shown) H):=rfl
end L2
end
section
namespace PW
open PySem P15
inductive Vl|int(i:Int)|bl(b:Bool)|thing(n:Nat)
structure Wd where
 name:V2
 params:List (V2×V2)
 kind:V2
 body:Tm
structure Hs where
 name:V2
 elder:Option V2
 fields:List (V2×V2)
 words:List Wd
structure Pg where
 houses:List Hs
 main:Wd
structure Sc where
 house:Option V2
 own:Option Vl
 bound:List (V2×Vl)
inductive Wt|walk(t:Tm)(s:Sc)|choose(t:Tm)(s:Sc)|finish(t:Tm)(s:Sc)|leave
structure Ws where
 wait:List Wt
 known:List Vl
 made:List (V2×List Vl)
 counted:Nat
 within:Nat
 ended:Option (List V2)
def IxAt{α:Type}(xs:List α)(x:α)(i:Nat):Prop:=xs[i]?=some x/\∀j,j<i->xs[j]?≠some x
def Look(P:Pg)(h:V2)(H:Hs):Prop:=H∈P.houses/\H.name=h
inductive Chain(P:Pg):V2->List V2->Prop
 |top{h:V2}{H:Hs}:Look P h H->H.elder=none->Chain P h []
 |up{h e:V2}{H:Hs}{es:List V2}:Look P h H->H.elder=some e->Chain P e es->Chain P h (e::es)
inductive Z1d(P:Pg)(w:V2):List V2->V2->Nat->Wd->Prop
 |here{h:V2}{H:Hs}{es:List V2}{i:Nat}{d:Wd}:Look P h H->IxAt (H.words.map Wd.name) w i->H.words[i]?=some d->Z1d P w (h::es) h i d
 |there{h h':V2}{H:Hs}{es:List V2}{i:Nat}{d:Wd}:Look P h H->w∉H.words.map Wd.name->Z1d P w es h' i d->Z1d P w (h::es) h' i d
inductive Flds(P:Pg):List V2->List (V2×V2)->Prop
 |nil:Flds P [] []
 |cons{h:V2}{H:Hs}{l:List V2}{fs:List (V2×V2)}:Look P h H->Flds P l fs->Flds P (h::l) (H.fields++fs)
def Z1h(P:Pg)(h f:V2)(j:Nat):Prop:=∃a fs,Chain P h a/\a.length<=100/\Flds P (h::a).reverse fs/\fs.length<=100/\IxAt (fs.map Prod.fst) f j
def putS(k:V2)(v:Vl)(b:List (V2×Vl)):List (V2×Vl):=if(b.any λ p=>decide (p.1=k))=true then b.map (λ p=>if p.1=k then(p.1,v)else p)else b++[(k,v)]
def Z0D:List (V2×Vl)->List (V2×Vl)->List (V2×Vl)
 |b,[]=>b
 |b,(k,v)::r=>Z0D (putS k v b) r
def getS(k:V2)(b:List (V2×Vl)):Option Vl:=(b.find? λ p=>decide (p.1=k)).map (·.2)
inductive Z0y(P:Pg)(most:Nat)(h wd:V2)(x:Vl)(vs:List Vl):Ws->Ws->Prop
 |dry{W k m c w}:most<=c->Z0y P most h wd x vs ⟨W,k,m,c,w,none⟩ ⟨W,k,m,c,w,some ["dry"]⟩
 |deep{W k m c w}:c<most->40<=w->Z0y P most h wd x vs ⟨W,k,m,c,w,none⟩ ⟨W,k,m,c+1,w,some ["deep"]⟩
 |go{W k m c w es h' i d}:c<most->w<40->Chain P h es->es.length<=100->Z1d P wd (h::es) h' i d->d.params.length<=100->Z0y P most h wd x vs ⟨W,k,m,c,w,none⟩ ⟨.walk d.body ⟨some h',some x,Z0D [] ((d.params.map Prod.fst).zip vs)⟩::.leave::W,k,m,c+1,w+1,none⟩
def Bd(n:Int):Prop:=-1000000000000000<=n/\n<=1000000000000000
inductive Two:V2->Vl->Vl->Option Vl->List V2->Prop
 |add{a b:Int}:Bd a->Bd b->Bd (a+b)->Two "+" (.int a) (.int b) (some (.int (a+b))) []
 |sub{a b:Int}:Bd a->Bd b->Bd (a-b)->Two "-" (.int a) (.int b) (some (.int (a-b))) []
 |mul{a b:Int}:Bd a->Bd b->Bd (a*b)->Two "*" (.int a) (.int b) (some (.int (a*b))) []
 |great{a b:Int}:Bd a->Bd b->¬Bd (a*b)->Two "*" (.int a) (.int b) none ["refused","great"]
 |nought{a:Int}:Bd a->Two "/" (.int a) (.int 0) none ["refused","nought"]
 |less{a b:Int}:Bd a->Bd b->Two "<" (.int a) (.int b) (some (.bl (decide (a<b)))) []
def Z0w:Fm->Lb->Prop
 | .iff,_=>True
 | .lt,_=>True
 | .two,.str s=>s=";"
 |_,_=>False
def leaf:Fm->Prop
 | .number| .truth| .name| .self=>True
 |_=>False
inductive Step(P:Pg)(most:Nat):Ws->Ws->Prop
 |num{W k m c w s i}:Step P most ⟨.walk (.mk .number (.int i) []) s::W,k,m,c,w,none⟩ ⟨W,.int i::k,m,c,w,none⟩
 |tru{W k m c w s b}:Step P most ⟨.walk (.mk .truth (.bl b) []) s::W,k,m,c,w,none⟩ ⟨W,.bl b::k,m,c,w,none⟩
 |name{W k m c w s x v}:getS x s.bound=some v->Step P most ⟨.walk (.mk .name (.str x) []) s::W,k,m,c,w,none⟩ ⟨W,v::k,m,c,w,none⟩
 |self{W k m c w s v}:s.own=some v->Step P most ⟨.walk (.mk .self .non []) s::W,k,m,c,w,none⟩ ⟨W,v::k,m,c,w,none⟩
 |cho{W k m c w s f l p ps}:Z0w f l->ps.length<=10->Step P most ⟨.walk (.mk f l (p::ps)) s::W,k,m,c,w,none⟩ ⟨.walk p s::.choose (.mk f l (p::ps)) s::W,k,m,c,w,none⟩
 |fin{W k m c w s f l ps}:¬Z0w f l->¬leaf f->ps.length<=10->Step P most ⟨.walk (.mk f l ps) s::W,k,m,c,w,none⟩ ⟨ps.map (Wt.walk · s)++.finish (.mk f l ps) s::W,k,m,c,w,none⟩
 |lt{W k m c w s x p q v}:s.bound.length<=100->Step P most ⟨.choose (.mk .lt (.str x) [p,q]) s::W,v::k,m,c,w,none⟩ ⟨.walk q ⟨s.house,s.own,putS x v s.bound⟩::W,k,m,c,w,none⟩
 |iff{W k m c w s p q r b}:Step P most ⟨.choose (.mk .iff .non [p,q,r]) s::W,.bl b::k,m,c,w,none⟩ ⟨.walk (if b then q else r) s::W,k,m,c,w,none⟩
 |seq{W k m c w s p q v}:Step P most ⟨.choose (.mk .two (.str ";") [p,q]) s::W,v::k,m,c,w,none⟩ ⟨.walk q s::W,k,m,c,w,none⟩
 |two{W k m c w s g p q a b v e}:Two g a b (some v) e->Step P most ⟨.finish (.mk .two (.str g) [p,q]) s::W,b::a::k,m,c,w,none⟩ ⟨W,v::k,m,c,w,none⟩
 |refuse{W k m c w s g p q a b e}:Two g a b none e->Step P most ⟨.finish (.mk .two (.str g) [p,q]) s::W,b::a::k,m,c,w,none⟩ ⟨W,k,m,c,w,some e⟩
 |new{W k m c w s h ps vs}:vs.length=ps.length->ps.length<=10->Step P most ⟨.finish (.mk .new (.str h) ps) s::W,vs.reverse++k,m,c,w,none⟩ ⟨W,.thing m.length::k,m++[(h,vs)],c,w,none⟩
 |field{W k m c w s f p n h inn j v}:m[n]?=some (h,inn)->Z1h P h f j->inn[j]?=some v->Step P most ⟨.finish (.mk .field (.str f) [p]) s::W,.thing n::k,m,c,w,none⟩ ⟨W,v::k,m,c,w,none⟩
 |set{W k m c w s f p q n h inn j v}:m[n]?=some (h,inn)->Z1h P h f j->j<inn.length->Step P most ⟨.finish (.mk .set (.str f) [p,q]) s::W,v::.thing n::k,m,c,w,none⟩ ⟨W,v::k,m.set n (h,inn.set j v),c,w,none⟩
 |call{W k m c w s f ps vs n h inn S}:vs.length+1=ps.length->ps.length<=10->m[n]?=some (h,inn)->Z0y P most h f (.thing n) vs ⟨W,k,m,c,w,none⟩ S->Step P most ⟨.finish (.mk .call (.str f) ps) s::W,vs.reverse++.thing n::k,m,c,w,none⟩ S
 |elder{W k m c w s f ps vs h e es v S}:vs.length=ps.length->ps.length<=10->s.house=some h->s.own=some v->Chain P h (e::es)->es.length<100->Z0y P most e f v vs ⟨W,k,m,c,w,none⟩ S->Step P most ⟨.finish (.mk .elder (.str f) ps) s::W,vs.reverse++k,m,c,w,none⟩ S
 |leave{W k m c w}:Step P most ⟨.leave::W,k,m,c,w+1,none⟩ ⟨W,k,m,c,w,none⟩
inductive Z1f(P:Pg)(most:Nat):Nat->Ws->Ws->Prop
 |refl{S}:Z1f P most 0 S S
 |step{n S S' S''}:Step P most S S'->Z1f P most n S' S''->Z1f P most (n+1) S S''
end PW
end
section
namespace WK
open PySem L2 P15 TM PW
inductive A2{α β:Type}(R:α->β->Prop):List α->List β->Prop
 |nil:A2 R [] []
 |cons{a:α}{b:β}{as:List α}{bs:List β}:R a b->A2 R as bs->A2 R (a::as) (b::bs)
section
variable{α β:Type}{R R':α->β->Prop}
theorem A2.len:∀{b:List α}{bs:List β},A2 R b bs->b.length=bs.length
 |_,_,.nil=>rfl
 |_,_,.cons _ h=>congrArg (·+1) h.len
theorem A2.monoM:∀{e:List α}{bs:List β},A2 R e bs->(∀a b,a∈e->R a b->R' a b)->A2 R' e bs
 |_,_,.nil,_=>.nil
 |_,_,.cons a h,f=>.cons (f _ _ qa9 a) (h.monoM λ a b m=>f a b (qb1 _ m))
theorem A2.mono{e:List α}{bs:List β}(h:A2 R e bs)(f:∀a b,R a b->R' a b):A2 R' e bs:=h.monoM λ a b _=>f a b
theorem A2.app:∀{g b:List α}{bs e:List β},A2 R g bs->A2 R b e->A2 R (g++b) (bs++e)
 |_,_,_,_,.nil,h=>h
 |_,_,_,_,.cons a h,i=>.cons a (h.app i)
theorem A2.snoc{e:List α}{bs:List β}{a:α}{b:β}(h:A2 R e bs)(r:R a b):A2 R (e++[a]) (bs++[b]):=h.app (.cons r .nil)
theorem A2.split:∀{bs b:List β}{e:List α},A2 R e (bs++b)->∃g i,e=g++i/\A2 R g bs/\A2 R i b
 |[],_,e,h=>⟨[],e,rfl,.nil,h⟩
 |_::bs,_,_,.cons a h=>by
  obtain⟨g,i,rfl,p,q⟩:=A2.split h;exact⟨_::g,i,rfl,.cons a p,q⟩
theorem A2.one{a:List α}{b:β}(h:A2 R a [b]):∃x,a=[x]/\R x b:=by
 cases h with
 |cons r t=>cases t;exact⟨_,rfl,r⟩
theorem A2.at:∀{e:List α}{bs:List β}{i:Nat}{a:α},A2 R e bs->e[i]?=some a->∃b,bs[i]?=some b/\R a b
 |_,_,0,_,.cons r _,h=>by cases h;exact⟨_,rfl,r⟩
 |_,_,i+1,_,.cons _ t,h=>t.at (i:=i) h
theorem A2.to:∀{e:List α}{bs:List β}{i:Nat}{b:β},A2 R e bs->bs[i]?=some b->∃a,e[i]?=some a/\R a b
 |_,_,0,_,.cons r _,h=>by cases h;exact⟨_,rfl,r⟩
 |_,_,i+1,_,.cons _ t,h=>t.to (i:=i) h
theorem A2.nil_inv{b:List α}(h:A2 R b []):b=[]:=by cases h;rfl
theorem A2.of:∀{g:List α}{bs:List β},g.length=bs.length->(∀(j:Nat) a,g[j]?=some a->∃b,bs[j]?=some b/\R a b)->A2 R g bs
 |[],[],_,_=>.nil
 |a::g,b::bs,e,h=>by
  obtain⟨n,i,r⟩:=h 0 a rfl;cases i;exact .cons r (A2.of (qk9 e) λ j m ha=>h (j+1) m ha)
end
structure CS where
 term:V0
 word:V0
 house:V0
 program:V0
 hall:V0
 scope:V0
 waits:V0
 walk:V0
 bs:Hp
structure Kw(C:V0)(H H':Hp):Prop where
 t:∀b xs,H b=some (.tup xs)->H' b=some (.tup xs)
 z:∀b o xs,H b=some (.frz o (.tup xs))->H' b=some (.frz o (.tup xs))
 i:∀b D dx f fs,D≠C->H b=some (.ins D dx (f::fs))->H' b=some (.ins D dx (f::fs))
 d:∀b kvs,H b=some (.dK kvs)->H' b=some (.dK kvs)
section
variable{C:V0}{H H' H'':Hp}{K:X0}
theorem Kw.kt(k:Kw C H H'):Kt H H':=⟨k.t,k.z⟩
theorem Z4B{g:Hp}{x:V0}(s:Same H g)(h:SX x g H')(n:H x=none):Same H H':=λ b o e=>h b o (Z0g e n) (s b o e)
mutual
theorem TO.kw{D:V0}(n:D≠C)(k:Kw C H H'):∀{v:V}{t:Tm},TO K D H v t->TO K D H' v t
 |_,_,.mk a b c d e=>.mk (k.i _ _ _ _ _ n a) (SqT.kt b k.kt) (TOs.kw n k c) (SqT.kt d k.kt) (e.kt k.kt)
theorem TOs.kw{D:V0}(n:D≠C)(k:Kw C H H'):∀{b:List V}{e:List Tm},TOs K D H b e->TOs K D H' b e
 |_,_,.nil=>.nil
 |_,_,.cons h g=>.cons (TO.kw n k h) (TOs.kw n k g)
end
end
noncomputable def oS:Option V2->V
 |none=>.non
 |some s=>.str s
noncomputable def Z2a(ps:List (V2×V2)):PyData:=.tuple (ps.map λ p=>.tuple [.str p.1,.str p.2])
noncomputable def Z2y(d:Wd):PyData:=.tuple [.str d.name,Z2a d.params,.str d.kind,d.body.dat]
noncomputable def oD:Option V2->PyData
 |none=>.none
 |some s=>.str s
noncomputable def Z2l(h:Hs):PyData:=.tuple [.str h.name,oD h.elder,Z2a h.fields,.tuple (h.words.map Z2y)]
noncomputable def Z6F(P:Pg):PyData:=.tuple [.tuple (P.houses.map Z2l),.tuple [Z2a P.main.params,.str P.main.kind,P.main.body.dat]]
inductive WdO(K:X0)(c:CS)(H:Hp):V->Wd->Prop
 |mk{a dx pt:V0}{bv:V}{d:Wd}:H a=some (.ins c.word dx [("name",.str d.name),("params",.ref pt),("kind",.str d.kind),("body",bv)])->RT K H (.ref pt) (Z2a d.params)->TO K c.term H bv d.body->WdO K c H (.ref a) d
inductive HsO(K:X0)(c:CS)(H:Hp):V->Hs->Prop
 |mk{a dx ft wt:V0}{ws:List V}{h:Hs}:H a=some (.ins c.house dx [("name",.str h.name),("elder",oS h.elder),("own_fields",.ref ft),("own_words",.ref wt)])->RT K H (.ref ft) (Z2a h.fields)->SqT K H wt ws->A2 (WdO K c H) ws h.words->HsO K c H (.ref a) h
inductive PgO(K:X0)(c:CS)(H:Hp):V->Pg->Prop
 |mk{a dx ht:V0}{hs:List V}{mv:V}{P:Pg}:H a=some (.ins c.program dx [("all_houses",.ref ht),("main",mv)])->SqT K H ht hs->A2 (HsO K c H) hs P.houses->WdO K c H mv P.main->PgO K c H (.ref a) P
structure WdOk(d:Wd):Prop where
 ok:P15.Ok d.body
 fl:d.body.flat.length<=20000
 pl:d.params.length<=100
structure HsOk(h:Hs):Prop where
 wd:∀d∈h.words,WdOk d
 fl:h.fields.length<=100
 wl:h.words.length<=100
structure GOk(P:Pg):Prop where
 nd:(P.houses.map Hs.name).Nodup
 hs:∀h∈P.houses,HsOk h
inductive HlO(K:X0)(c:CS)(H:Hp):V->Pg->Prop
 |mk{a dx io d:V0}{kvs:List (Key×V)}{P:Pg}:H a=some (.ins c.hall dx [("in_order",.ref io),("by_name",.ref d)])->H d=some (.dK kvs)->A2 (λ kv h=>kv.1=.inr h.name/\HsO K c H kv.2 h) kvs P.houses->GOk P->HlO K c H (.ref a) P
section
variable{K:X0}{H H':Hp}{c:CS}
theorem WdO.same{v:V}{d:Wd}(h:WdO K c H v d)(s:Same H H'):WdO K c H' v d:=by
 cases h with
 |mk a b t=>exact .mk (s _ _ a) (b.same s) (t.kp (Kp.of s))
theorem HsO.same{v:V}{d:Hs}(h:HsO K c H v d)(s:Same H H'):HsO K c H' v d:=by
 cases h with
 |mk a b q t=>exact .mk (s _ _ a) (b.same s) (SqT.kp q (Kp.of s)) (t.mono λ _ _ r=>r.same s)
theorem PgO.same{v:V}{d:Pg}(h:PgO K c H v d)(s:Same H H'):PgO K c H' v d:=by
 cases h with
 |mk a q t m=>exact .mk (s _ _ a) (SqT.kp q (Kp.of s)) (t.mono λ _ _ r=>r.same s) (m.same s)
theorem HlO.same{v:V}{P:Pg}(h:HlO K c H v P)(s:Same H H'):HlO K c H' v P:=by
 cases h with
 |mk a d r n=>exact .mk (s _ _ a) (s _ _ d) (r.mono λ _ _ r=>⟨r.1,r.2.same s⟩) n
theorem uniq{hs:List Hs}:(hs.map Hs.name).Nodup->∀a b,a∈hs->b∈hs->a.name=b.name->a=b:=by
 induction hs with
 |nil=>intro _ a b h;cases h
 |cons x q o=>
  intro n a b ha p e;rw[qb8,qc4]at n;rcases qa2.mp ha with j|g<;>rcases qa2.mp p with m|i
  ·rw[j,m]
  ·exact absurd (by rw[<-j,e];exact qb6 i) n.1
  ·exact absurd (by rw[<-m,<-e];exact qb6 g) n.1
  ·exact o n.2 a b g i e
theorem J3q{hs:List Hs}{kvs:List (Key×V)}(r:A2 (λ i h=>i.1=.inr h.name/\HsO K c H i.2 h) kvs hs)(n:(hs.map Hs.name).Nodup){x:Hs}(b:x∈hs):∃v,valV kvs (.inr x.name)=some v/\HsO K c H v x:=by
 induction r with
 |nil=>cases b
 |@cons p q m bs e _ j=>
  rw[qb8,qc4]at n;by_cases g:q.name=x.name
  ·rcases qa2.mp b with rfl|b
   ·exact⟨p.2,Z0H e.1,e.2⟩
   ·exact absurd (g▸qb6 b) n.1
  ·rcases qa2.mp b with rfl|b
   ·exact absurd rfl g
   ·rw[Z0z (by rw[e.1];exact λ z=>g (Sum.inr.inj z))];exact j n.2 b
end
noncomputable def fsW(hl wA ml:V0)(most c w:Nat)(ev:V):List (V2×V):=[("hall",.ref hl),("most",.int most),("waits",.ref wA),("made",.ref ml),("counted",.int c),("within",.int w),("ended",ev)]
structure Ad where
 dx:V0
 hl:V0
 wA:V0
 dw:V0
 wl:V0
 kl:V0
 ml:V0
 ev:V
 ws:List V
 ks:List V
 mz:List (V×V0)
end WK
end
section
namespace L2
open PySem PySem.Spec PyProof.Rows
theorem Z4T:entryFor table "dict.update.loop"=some Builtin.«dict.update.loop»:=entryFor_of_tree (by kernel_rfl)
theorem Z1X:plainId "dict.update.loop"=true:=by decide+kernel
def absD(ks:Nat->Key)(ys:Nat->V):Nat->List (Key×V)
 |0=>[]
 |i+1=>putK (absD ks ys i) (ks i) (ys i)
theorem Z4m(ks:Nat->Key)(ys:Nat->V):∀i,(absD ks ys i).length<=i
 |0=>qa1 _
 |i+1=>by
  have:=Z1k (absD ks ys i) (ks i) (ys i);have:=Z4m ks ys i;show(putK _ _ _).length<=_;omega
section
variable{P:Program}{w:M2}{B:V4}{E:V1->M1->Prop}{it Z:V0}{n:Nat}{St:Nat->Array V1->M1->Prop}{Fin:Array V1->M1->Prop}{R:Result->M1->Prop}
theorem Z6r(W:J0q P w B.in1 it Z n St Fin)(fr:∀(i:Nat)(a:Array V1)(s:M1)(j:V3)(t:Nat),St i a s->(∀b o,b≠Z->s.heap.get? b=some o->j.get? b=some o)->s.heap.objs.size<=j.objs.size->St i a {s with heap:=j,toks:=t})(ks:Nat->Key)(ys:Nat->V)(O:∀(i:Nat)(a:Array V1)(v:V1)(s:M1),i<n->St (i+1) (a.push v) s->∃T p h o m,v=.ref T/\s.heap.get? T=some o/\o.cls=.type "tuple"/\o.data=.seq #[p,h] m/\(Z0F P w).is (ks i) p=true/\RelV (ys i) h)(Q:n<=sizeLine)(res:V1):∀(k i:Nat)(s:M1)(a:Array V1)(c:List (Key×V1)),n-i=k->i<=n->St i a s->KV (absD ks ys i) c->s.heap.DictOf (Z0F P w) Z c->(∀r u x,Fin u r->KV (absD ks ys n) x->r.heap.DictOf (Z0F P w) Z x->R (.ok (.ret res)) r)->codeAny (model P w) B (.builtin "dict.update.loop" ⟨[.ref Z,.ref it,rawInt i,res],[]⟩) R s:=by
 intro k;induction k with
 |zero=>
  intro i s a c K D G C g q;have S:i=n:=Nat.le_antisymm D (qm9.mp K);subst S;refine codeAny_builtin Z4T ?_;rw[Around.under_plainId Z1X ⟨[.ref Z,.ref it,rawInt i,res],[]⟩];show wpAny (model P w) B.in1 (pyNext (.ref it)>>=_) _ _ s;refine wpAny_bind (W.done a s _ _ G λ r f H=>?_);show wpAny _ _ (Builtin.Dict.addKeywords Z []>>=_) _ _ _;exact wpAny_bind (wpAny_pure (wpAny_pure (q r a c f C (g.at H))))
 |succ k U=>
  intro i s a c K D G C g q;have lt:i<n:=by omega
  refine codeAny_builtin Z4T ?_;rw[Around.under_plainId Z1X ⟨[.ref Z,.ref it,rawInt i,res],[]⟩];show wpAny (model P w) B.in1 (pyNext (.ref it)>>=_) _ _ s;refine wpAny_bind (W.item i a s _ _ lt G λ v L y H=>?_);obtain⟨T,p,h,⟨oc,X,Y,a0⟩,m,rfl,M,z,A,I,J⟩:=O i a v L lt y;dsimp only at z A;subst z A;have g1:=g.at H;dsimp only;refine wpAny_bind (wpAny_holding (wpAny_bind (wpAny_tryCatch ?_)));unfold Builtin.Dict.pairItems;refine wpAny_bind (wpAny_typeOf (T:="tuple") ⟨_,M,rfl⟩ ?_);have e0:(Value.type "tuple"==Value.type "list"||Value.type "tuple"==Value.type "tuple")=true:=by decide
  rw[if_pos e0];unfold seqItems?;refine wpAny_bind (wpAny_bind (wpAny_load M (wpAny_pure ?_)));refine wpAny_pure ?_;show wpAny (model P w) B.in1 (holding [p,h] (dictSet Z p h)) _ _ _;have hl:c.length<=sizeLine:=by
   rw[<-C.length];exact qb9 (Z4m ks ys i) (qb9 D Q)
  refine wpAny_holding (wpAny_dictSet_pairs (hsz:=hl) I g1 λ j dd N=>?_);refine wpAny_pure ⟨plainId_quiet Z1X ⟨[.ref Z,.ref it,rawInt ((i:Int)+1),res],[]⟩,?_⟩;exact U (i+1) _ (a.push (.ref T)) (stored c (ks i) h) qR lt (fr (i+1) _ L j _ y (λ b o hb e=>(N.2 b hb).trans e) (Nat.le_of_eq N.1.symm)) (KV.put C (ks i) J) dd q
end
noncomputable def zipD(ks:List V2)(ys:List V):List (Key×V):=absD (λ i=>.inr (ks.getD i "")) (λ i=>ys.getD i .non) (min ks.length ys.length)
section
variable{X:Cx}{pins:List (V0×Obj)}{σ:St}{H1:Hp}{s1:M1}{l1 l2:V0}{xs ys:List V}
def J4y(xs:List V)(H:Hp)(Q:VK):Prop:=∃a b,xs=[V.ref a]/\H a=some (.dK b)/\∀p,H p=none->Q (.ref p) (upd H p (.dK b))
theorem J7j{xs:List V}{H:Hp}{Q:VK}:J4y xs H Q=∃a b,xs=[V.ref a]/\H a=some (.dK b)/\∀p,H p=none->Q (.ref p) (upd H p (.dK b)):=rfl
theorem Z9M:Z3p X (.type "dict") J4y:=by
 intro pins s σ H xs i Q I r h;obtain⟨a,b,rfl,ha,q⟩:=h;obtain⟨u,rfl,c⟩:=Z4x r;cases c;exact J3x I (.inl ha) λ p j e g=>⟨.ref p,_,g,rfl,q p e⟩
def J4Y:V->List V->Hp->VK->Prop:=λ x b H Q=>∃(l:V0)(a:List V2)(k:V2)(j:Nat),x=.ref l/\b=[.str k]/\H l=some (.lst (a.map V.str))/\a[j]?=some k/\(∀i,i<j->a[i]?≠some k)/\Q (.int j) H
theorem J6F{x:V}{vs:List V}{H:Hp}{Q:VK}:J4Y x vs H Q=∃(l:V0)(a:List V2)(k:V2)(j:Nat),x=.ref l/\vs=[.str k]/\H l=some (.lst (a.map V.str))/\a[j]?=some k/\(∀i,i<j->a[i]?≠some k)/\Q (.int j) H:=rfl
theorem Z1L:∀a:List V2,(a.map V.str).all Z4p=true
 |[]=>rfl
 |_::a=>by rw[qb8,qj4,Z1L a];rfl
theorem J4u:MtM X "list.index" J4Y:=by
 intro pins s σ H x Y v Z Q I P R h;obtain⟨l,p,k,j,rfl,rfl,S,L,E,q⟩:=h;cases P;obtain⟨u,rfl,T⟩:=R.one;obtain⟨z,a,n,r,M,e⟩:=I.lstM S;have hn:=Z4P;have A:j<a.length:=by
  rw[<-M,qa0];exact(qa7.mp L).1
 have B:∀(m:Nat)(D:m<a.toArray.size),∃C,p[m]?=some C/\eqU (.str k) a.toArray[m]=eqV (.str C) (.str k):=λ m D=>by
  have g:m<a.length:=by simpa using D
  have N:m<p.length:=by rw[<-M,qa0]at g;exact g
  obtain⟨w,O,G⟩:=r.get (i:=m) (x:=.str p[m]) (by rw[qa4,qa8 N];rfl);refine⟨p[m],qa8 N,?_⟩;have:a.toArray[m]=w:=by
   rw[qa8 g]at O;simpa using O
  rw[this,J1o G rfl]
 refine call_meets F.slot_list_index ⟨_,e,rfl⟩ F.entry_list_index (F.args_list_index_2 _ _) (SeqAt.list_indexAt l a.toArray n none #[] u (eqU (.str k)) j (by simpa using A) qR ?_ ?_) ⟨e,λ y U=>Z3D T rfl r (Z1L p) y (by simpa using U),?_⟩
 ·obtain⟨C,c,J⟩:=B j (by simpa using A);rw[J];rw[L]at c;cases c;simp[eqV]
 ·intro m D K;obtain⟨C,c,J⟩:=B m D;rw[J];have:=E m K;rw[c]at this;have:C≠k:=λ z=>this (by rw[z]);simp[eqV,this]
 ·exact⟨.int j,H,I.kept (t':=s.toks+1) (λ b o e=>e),⟨_,rfl⟩,q⟩
end
variable{X:Cx}
theorem J7Z{a:St}{H:Hp}{Q:List (V×V)->Hp->Prop}:Z4G [] a H Q=Q [] H:=rfl
theorem J8B{tk b:TE}{r:List (TE×TE)}{a:St}{H:Hp}{Q:List (V×V)->Hp->Prop}:Z4G ((tk,b)::r) a H Q=tk a H λ x c=>b a c λ y e=>Z4G r a e λ ps H3=>Q ((x,y)::ps) H3:=rfl
theorem J8n{b:List (TE×TE)}{c:St}{H:Hp}{Q:VK}:J6P b c H Q=New H (.dK []) λ p h=>Z4G b c h λ ps e=>e p=some (.dK [])/\∃a:List (Key×V),ps=a.map (λ g=>(kV g.1,g.2))/\a.length<=15/\Q (.ref p) (upd e p (.dK (Z3a [] a))):=rfl
end L2
end
section
namespace L2
open PySem PySem.Spec PySem.Calls PyProof.Rows
def J6q{α:Type}(n:Nat)(Q:α->Prop):W.KasT α->Prop
 | .ret a=>Q a
 | .ask i j k=>i<n/\j<n/\∀b,J6q n Q (k b)
def Pm(n:Nat)(p:Array Nat):Prop:=p.toList.Perm (qd2 n)
section
variable{n:Nat}{p:Array Nat}
theorem Pm.lt(h:Pm n p)(b:0<n)(i:Nat):p.getD i 0<n:=by
 rw[Array.getD_eq_getD_getElem?];cases e:p[i]? with
 |none=>exact b
 |some x=>
  have c:x∈p.toList:=by
   rw[Array.mem_toList_iff];exact Array.mem_of_getElem? e
  exact qf9.mp (h.mem_iff.mp c)
theorem Z9c(h:Pm n p)(c:0<n)(k:Nat):∀f l r,J6q n (λ _=>True) (W.kas_place p k f l r)
 |0,_,_=>trivial
 |f+1,l,r=>by
  show J6q n _ (if l>=r then _ else _);split
  ·exact trivial
  ·exact⟨h.lt c _,h.lt c _,λ b=>by
    cases b
    ·exact Z9c h c k f _ _
    ·exact Z9c h c k f _ _⟩
end
end L2
end
section
namespace PySem
theorem Z6h:typeLookup (.type "list") "keys"=pure none:=am_miss_of_fast qP
theorem J0h{prog:Program}{w:M2}{A:V4}{E:V1->M1->Prop}{s:M1}{a:V0}{o:Obj}{xs:Array V1}{k:Nat}{Q:Option V1->M1->Prop}(y:A.handled=none)(n:s.heap.get? a=some o)(p:o.cls=.type "list")(c:o.data=.seq xs k)(e:o.dict=none)(h:∀q r,(∀b u,s.heap.get? b=some u->q.get? b=some u)->Q none {s with heap:=q,toks:=r}):wpAny (model prog w) A (getAttr? (.ref a) "keys") Q E s:=by
 obtain⟨z,B,v,m⟩:=o;dsimp only at p c e;subst p c e;obtain⟨C,g,d,r,D⟩:=s;have x:∀i,(⟨C,g,d,i,D⟩:M1).TypeIs (.ref a) "list":=λ _=>⟨_,n,rfl⟩;have G:=sub_AttributeError;have H:=F.slot_list_getattribute.lookup;have I:=F.slot_list_getattribute.bind (.ref a);have J:=am_list_getattr_none;unfold getAttr? getAttrBy? getAttrBy;repeat (any_goals (first|assumption|exact x _|((with_reducible show wpAny _ _ (call (Value.builtin "list.__getattribute__") _ _) _ _ _);refine call_meets F.slot_list_getattribute (x _) am_entry_list_getattribute (F.args_list_getattribute_2 _ _) (meets_getattribute_miss_list a xs k m "keys" _ Z6h qP (by size_fits)) ⟨n,y,λ K i L j=>?_⟩)|wp_step))
 obtain⟨ty,M,N⟩:=j.there;show wpAny _ _ (getattributeRaised _ _ _ _ _ _ _) _ _ _;unfold getattributeRaised;repeat (any_goals (first|assumption|wp_step))
 exact h _ _ j.keeps
end PySem
namespace L2
open PySem PySem.Spec PyProof.Rows
def LSt(s:M1)(it l:V0)(its:List V1)(i:Nat)(acc:Array V1)(s2:M1):Prop:=∃a c,s2={s with heap:=a,toks:=c}/\a.IsListIter it l i/\(∀b o,s.heap.get? b=some o->a.get? b=some o)/\acc.toList=its.take i/\i<=its.length
def LFin(s:M1)(its:List V1)(acc:Array V1)(s2:M1):Prop:=∃c a,s2={s with heap:=c,toks:=a}/\(∀b o,s.heap.get? b=some o->c.get? b=some o)/\acc.toList=its
theorem J2K{P:Program}{w:M2}{A:V4}(D:A.handled=none){it Z l:V0}{its:List V1}{s:M1}(v:s.heap.IsList l its.toArray)(x:s.heap.objs.size<=it)(G:s.heap.objs.size<=Z)(g:Z≠it):J0q P w A it Z its.length (LSt s it l its) (LFin s its)where
 item:=by
  rintro i h p Q E a ⟨r,c,rfl,m,k,j,_⟩ q;have H:its.toArray[i]?=some its[i]:=by simp
  refine wpAny_pyNext_list_item m (v.at λ o e=>k _ o e) H λ n u y=>q _ _ ⟨n,c,rfl,u,λ b o e=>(y.2 b λ z=>?_).trans (k b o e),?_,a⟩ λ o e=>(y.2 Z g).trans e
  ·exact absurd (Heap.lt_size e) (by rw[z];exact qf0.mpr x)
  ·rw[qj9,j,qf1 a]
 done:=by
  rintro h p Q E ⟨r,c,rfl,m,k,j,_⟩ q;refine wpAny_pyNext_list_end D m (v.at λ o e=>k _ o e) (by simp) λ n B=>q _ ⟨n,c,rfl,λ b o e=>B b o (λ z=>?_) (k b o e),?_⟩ λ o e=>B Z o g e
  ·exact absurd (Heap.lt_size e) (by rw[z];exact qf0.mpr x)
  ·rw[j,qd6 (qa1 _)]
 size:=by
  rintro i h p ⟨r,c,rfl,m,k,j,a⟩;rw[<-qf4,j,qb3];exact qi8 a
 frame:=by
  rintro i h p n ⟨r,c,rfl,m,k,j,a⟩ C _;exact⟨n,c,rfl,m.at λ o e=>C it o (Ne.symm g) e,λ b o e=>C b o (λ z=>absurd (Heap.lt_size e) (by rw[z];exact qf0.mpr G)) (k b o e),j,a⟩
noncomputable def Z2n(ks:List V2)(ys:List V):List (Key×V):=absD (λ i=>.inr (ks.getD i "")) (λ i=>ys.getD i .non) ks.length
def J1N(K:X0):List V->Hp->VK->Prop:=λ g H Q=>∃(a:V0)(b:List V)(c:List V2)(e:List V),g=[.ref a]/\SqL K H a b/\b.length=c.length/\(∀i t,b[i]?=some t->∃T,t=.ref T/\SqT K H T [.str (c.getD i ""),e.getD i .non])/\∀d,H d=none->Q (.ref d) (upd H d (.dK (Z2n c e)))
theorem J7Q{K:X0}{xs:List V}{H:Hp}{Q:VK}:J1N K xs H Q=∃(a:V0)(b:List V)(c:List V2)(e:List V),xs=[.ref a]/\SqL K H a b/\b.length=c.length/\(∀i t,b[i]?=some t->∃T,t=.ref T/\SqT K H T [.str (c.getD i ""),e.getD i .non])/\∀d,H d=none->Q (.ref d) (upd H d (.dK (Z2n c e))):=rfl
theorem J0o{X:Cx}(S:X.calm=true):Z3p X (.type "dict") (J1N X.K):=by
 intro U s σ H xs us Q I r h;obtain⟨a,ts,E,Y,rfl,hq,lt,hp,q⟩:=h;obtain⟨u,rfl,ru⟩:=Z4x r;cases ru;obtain⟨j,K,Z,hz⟩:=I.list hq;have y:j.length=E.length:=by rw[<-K.length,lt]
 have z:=Z.isList;obtain⟨o,n0,g0,oc,L,M⟩:=Z;have a0:=Heap.lt_size g0;refine callType_codes (Q₁:=λ ob sn=>ob=.ref s.heap.objs.size/\sn={s with heap:=s.heap.push {cls:=.type "dict",data:=.dict #[]}}) F.kt_called_dict (F.kt_typeCall_dict_1 _) F.entry_dict_init (kt_code_dict_new _ ⟨rfl,rfl⟩) ?_;rintro ob sn ⟨rfl,rfl⟩;have c:({s with heap:=s.heap.push {cls:=.type "dict",data:=.dict #[]}}:M1).heap.DictOf (Z0F X.prog X.w) s.heap.objs.size []:=Heap.DictOf.new s.heap;have es:({s with heap:=s.heap.push {cls:=.type "dict",data:=.dict #[]}}:M1).heap.objs.size=s.heap.objs.size+1:=Heap.size_push ..;have g1:({s with heap:=s.heap.push {cls:=.type "dict",data:=.dict #[]}}:M1).heap.get? a=some o:=Heap.get?_push_of_some _ g0;have k1:∀b u,s.heap.get? b=some u->({s with heap:=s.heap.push {cls:=.type "dict",data:=.dict #[]}}:M1).heap.get? b=some u:=λ b u e=>Heap.get?_push_of_some _ e;refine⟨c.typeIs,F.args_dict_init_2 _ _,?_⟩;unfold Builtin.«dict.__init__»;refine wpAny_bind ?_;unfold Builtin.Dict.selfAndRest;refine wpAny_bind (wpAny_notOrdered_dict c.typeIs ?_);show wpAny _ _ (pure (s.heap.objs.size,[Value.ref a])) _ _ _;refine wpAny_pure ?_;show wpAny _ _ (Builtin.Dict.updateFrom "dict.__init__" s.heap.objs.size (.ref a) [] .none) _ _ _;unfold Builtin.Dict.updateFrom;refine wpAny_bind (wpAny_typeOf (T:="list") ⟨_,g1,oc⟩ ?_);rw[if_pos qQ];refine wpAny_bind (J0h (show X.A.in1.in1.handled=none from I.ok.hd S) g1 oc M L λ G N kp=>?_);have ls:s.heap.objs.size<G.objs.size:=by
  obtain⟨o2,_,_,O,_⟩:=c;exact Heap.lt_size (kp _ _ O)
 have k2:∀b u,s.heap.get? b=some u->G.get? b=some u:=λ b u e=>kp b u (k1 b u e);show wpAny _ _ (rule _>>=_) _ _ _;refine wpAny_bind (wpAny_rule (wpAny_bind (wpAny_pyIter_list (z.at λ o e=>k2 _ o e) ?_)));refine wpAny_pure ⟨plainId_quiet Z1X ⟨[.ref s.heap.objs.size,.ref G.objs.size,rawInt 0,.none],[]⟩,?_⟩;have A:s.heap.objs.size≠G.objs.size:=qb7 ls;refine Z6r (n:=j.length) (J2K (show X.A.in1.in1.handled=none from I.ok.hd S) z (qg4 ls) (qa1 _) A) (λ i B s2 h3 t3 x kz _=>?_) (λ i=>.inr (E.getD i "")) (λ i=>Y.getD i .non) (λ i B v s2 hi x=>?_) (by rw[<-K.length];exact hz) .none j.length 0 _ #[] [] rfl (qa6 _) ⟨_,N,rfl,⟨_,Heap.get?_push_size _ rfl,rfl,rfl⟩,λ b u e=>Heap.get?_push_of_some _ (k2 b u e),rfl,qa6 _⟩ .nil (c.at λ o e=>Heap.get?_push_of_some _ (kp _ o e)) λ s2 B b0 fin kv g=>?_
 ·obtain⟨h4,p,rfl,x,k,J,C⟩:=x;exact⟨h3,t3,rfl,x.at λ o e=>kz _ o (Ne.symm A) e,λ b u e=>kz b u (qb7 (Heap.lt_size e)) (k b u e),J,C⟩
 ·obtain⟨h4,p,rfl,x,k,J,C⟩:=x;have ev:v=j[i]:=by
   rw[qj9,qf1 hi]at J;have:=congrArg List.getLast? J;simp only[List.getLast?_concat]at this;exact qc5 this
  obtain⟨t,ht⟩:∃t,ts[i]?=some t:=⟨_,qa8 qR⟩;obtain⟨T,rfl,hT⟩:=hp i t ht;obtain⟨u2,D,P⟩:=K.get ht;rw[qa8 hi]at D;cases D;obtain⟨us,R,⟨ot,e1,e2,m,e3⟩,_⟩:=I.tuple hT;obtain⟨w1,w2,rfl,r1,r2⟩:=R.two;refine⟨T,w1,w2,ot,m,ev.trans P,k _ _ e1,e2,e3,Z8z (k:=.inr (E.getD i "")) r1,r2⟩
 ·obtain⟨h4,p,rfl,k,_⟩:=fin;refine⟨rfl,.ref _,upd H s.heap.objs.size (.dK (Z2n E Y)),I.laid (t':=p) k (qa1 _) (Z6P ?_ (beq_false_of_ne (qh3 I.big)) ?_ g),rfl,q _ (I.hok.fresh (qa1 _))⟩
  ·exact qb9 (Z4m _ _ _) (by rw[<-lt];exact hz)
  ·rw[y]at kv;exact kv
end L2
end
section
namespace PySem
theorem Z6f:typeLookup (.type "tuple") "keys"=pure none:=am_miss_of_fast qP
theorem Z9O{prog:Program}{w:M2}{A:V4}{E:V1->M1->Prop}{s:M1}{a:V0}{o:Obj}{xs:Array V1}{k:Nat}{Q:Option V1->M1->Prop}(y:A.handled=none)(n:s.heap.get? a=some o)(p:o.cls=.type "tuple")(c:o.data=.seq xs k)(e:o.dict=none)(h:∀q r,(∀b u,s.heap.get? b=some u->q.get? b=some u)->Q none {s with heap:=q,toks:=r}):wpAny (model prog w) A (getAttr? (.ref a) "keys") Q E s:=by
 obtain⟨z,B,v,m⟩:=o;dsimp only at p c e;subst p c e;obtain⟨C,g,d,r,D⟩:=s;have x:∀i,(⟨C,g,d,i,D⟩:M1).TypeIs (.ref a) "tuple":=λ _=>⟨_,n,rfl⟩;have G:=sub_AttributeError;have H:=F.slot_tuple_getattribute.lookup;have I:=F.slot_tuple_getattribute.bind (.ref a);have J:=am_tuple_getattr_none;unfold getAttr? getAttrBy? getAttrBy;repeat (any_goals (first|assumption|exact x _|((with_reducible show wpAny _ _ (call (Value.builtin "tuple.__getattribute__") _ _) _ _ _);refine call_meets F.slot_tuple_getattribute (x _) am_entry_tuple_getattribute (F.args_tuple_getattribute_2 _ _) (meets_getattribute_miss_tuple a xs k m "keys" _ Z6f qP (by size_fits)) ⟨n,y,λ K i L j=>?_⟩)|wp_step))
 obtain⟨ty,M,N⟩:=j.there;show wpAny _ _ (getattributeRaised _ _ _ _ _ _ _) _ _ _;unfold getattributeRaised;repeat (any_goals (first|assumption|wp_step))
 exact h _ _ j.keeps
end PySem
namespace L2
open PySem PySem.Spec PyProof.Rows
def TSt(s:M1)(it l:V0)(its:List V1)(i:Nat)(acc:Array V1)(s2:M1):Prop:=∃a c,s2={s with heap:=a,toks:=c}/\a.IsTupleIter it l i/\(∀b o,s.heap.get? b=some o->a.get? b=some o)/\acc.toList=its.take i/\i<=its.length
theorem IsTup.up{h h2:V3}{a:V0}{xs:Array V1}(x:IsTup h a xs)(k:∀b o,h.get? b=some o->h2.get? b=some o):h2.IsTuple a xs:=x.keeps k
theorem J0N{P:Program}{w:M2}{A:V4}(D:A.handled=none){it Z l:V0}{its:List V1}{s:M1}(v:IsTup s.heap l its.toArray)(x:s.heap.objs.size<=it)(G:s.heap.objs.size<=Z)(g:Z≠it):J0q P w A it Z its.length (TSt s it l its) (LFin s its)where
 item:=by
  rintro i h p Q E a ⟨r,c,rfl,m,k,j,_⟩ q;have H:its.toArray[i]?=some its[i]:=by simp
  refine wpAny_pyNext_tuple_item m (IsTup.up v k) H λ n u y=>q _ _ ⟨n,c,rfl,u,λ b o e=>(y.2 b λ z=>?_).trans (k b o e),?_,a⟩ λ o e=>(y.2 Z g).trans e
  ·exact absurd (Heap.lt_size e) (by rw[z];exact qf0.mpr x)
  ·rw[qj9,j,qf1 a]
 done:=by
  rintro h p Q E ⟨r,c,rfl,m,k,j,_⟩ q;refine wpAny_pyNext_tuple_end D m (IsTup.up v k) (by simp) λ n B=>q _ ⟨n,c,rfl,λ b o e=>B b o (λ z=>?_) (k b o e),?_⟩ λ o e=>B Z o g e
  ·exact absurd (Heap.lt_size e) (by rw[z];exact qf0.mpr x)
  ·rw[j,qd6 (qa1 _)]
 size:=by
  rintro i h p ⟨r,c,rfl,m,k,j,a⟩;rw[<-qf4,j,qb3];exact qi8 a
 frame:=by
  rintro i h p n ⟨r,c,rfl,m,k,j,a⟩ C _;exact⟨n,c,rfl,m.at λ o e=>C it o (Ne.symm g) e,λ b o e=>C b o (λ z=>absurd (Heap.lt_size e) (by rw[z];exact qf0.mpr G)) (k b o e),j,a⟩
end L2
end
section
namespace L2
open PySem PySem.Spec PyProof.Rows
section
variable{X:Cx}{pins:List (V0×Obj)}{σ:St}{H:Hp}{s:M1}
theorem Inv.freeze{d:V0}{o:Obj}{kvs:List (Key×V)}(I:Inv X pins σ H s)(hd:H d=some (.dK kvs))(h:s.heap.get? d=some o):Inv X pins σ (upd H d (.frz o (.dK kvs))) s:=by
 have i:∀b,H b=none->b≠d:=λ b n z=>by rw[z,hd]at n;cases n
 have:=I.step (h':=s.heap) (g':=s.gens) (d':=s.drawn) (t':=s.toks) (H':=upd H d (.frz o (.dK kvs))) (ch:=[]) (λ _ z=>nomatch z) (λ b u _ _ _ e n=>e) (λ b u _ _ _ e n=>⟨u.slots,e⟩) (λ b u _ _ n=>by rw [Z0e (i b n)]; exact n) (λ b u _ e=>⟨u,e⟩)
  (λ b j e=>by rw[Z0e (Z4v e hd (λ z=>by cases z))];exact e) (λ b u v e=>by rw[Z0e (Z4v e hd (λ z=>by cases z))];exact e) (λ b r e=>⟨#[],by rw[Z0e (Z4v e hd (λ z=>by cases z)),e];simp⟩) (λ m p=>p) (λ b u e=>?_) I.bare
 ·exact this
 ·have a:∀{b u},H b=some u->ObjOk X.prog X.w (upd H d (.frz o (.dK kvs))) s.heap b u:=λ{b u} e=>(I.hok b u e).stay (λ c v x q=>q) (λ c q=>by rw[Z0e (Z4v q hd (λ z=>by cases z))];exact q) λ c j q=>by rw[Z0e (Z4v q hd (λ z=>by cases z))];exact q
  by_cases g:b=d
  ·subst g;rw[Z0b]at e;cases e;exact⟨h,a hd⟩
  ·rw[Z0e g]at e;exact a e
end
def Itd(d:V0)(o:Obj)(kvs:List (Key×V)):It:=
 ⟨λ i H=>H d=some (.frz o (.dK kvs))/\i<kvs.length,λ i H x a=>a=H/\∃k v,kvs[i]?=some (k,v)/\x=kV k,λ i H=>H d=some (.frz o (.dK kvs))/\kvs.length<=i⟩
theorem J7n{P:Program}{w:M2}{k:Key}{u:V1}(h:(Z0F P w).is k u=true):RelV (kV k) u:=by
 have h:Z5L k u=true:=h;cases k with
 |inl i=>cases u<;>simp[Z5L,Value.isInt]at h;exact⟨_,by rw[h]⟩
 |inr x=>cases u<;>simp[Z5L,Value.isStrOf]at h;exact⟨_,by rw[h]⟩
theorem Z8l{a b:Type}{R:a->b->Prop}:∀{c:List a}{e:List b}{i:Nat}{x:a},Paired R c e->c[i]?=some x->∃y,e[i]?=some y/\R x y
 |_,_,0,_,.cons r _,h=>by cases h;exact⟨_,rfl,r⟩
 |_,_,i+1,_,.cons _ t,h=>Z8l (i:=i) t h
theorem J4C{X:Cx}{pins:List (V0×Obj)}{σ:St}{H:Hp}{s:M1}{d:V0}{o:Obj}{kvs:List (Key×V)}{es:Array DictEntry}{ep:Nat}(I:Inv X pins σ H s)(hd:H d=some (.frz o (.dK kvs)))(b:o.data=.dict es ep):(d==sysModules)=false/\∃a,KV kvs a/\s.heap.DictAt (Z0F X.prog X.w) d a ep:=by
 obtain⟨e,z,h,a,i,p,j,m,c,n,g,r⟩:=I.hok d _ hd;rw[e]at c;cases c;rw[b]at g;injection g with r3 r4
 subst r3 r4;exact⟨h,a,i,o,es,e,n,b,r⟩
theorem J2l{P:Program}{w:M2}{K:X0}{tg:Expr}(d it:V0){o:Obj}{kvs:List (Key×V)}{es:Array DictEntry}{ep:Nat}(Q:o.data=.dict es ep):Turn P w K tg (Itd d o kvs) [it] it (λ i h=>h.IsKeyIter it d i kvs.length ep)where
 mem:=by simp
 obj:=λ i h a b g=>by
  cases qa3.mp g;obtain⟨o,e,c,d⟩:=a;exact⟨o,e,λ v z=>by rw[d]at z;cases z⟩
 keep:=λ i h n a k=>a.at λ o e=>k it (qa3.mpr rfl) o e
 item:=by
  intro X x A B R i pins s σ H E I q a C;subst x A B;obtain⟨hd,S⟩:=C;obtain⟨hs,T,r,D⟩:=J4C I hd Q;have u:=r.length;obtain⟨⟨k,v⟩,U⟩:∃p,kvs[i]?=some p:=⟨_,qa8 S⟩;obtain⟨⟨Y,v'⟩,hy,Z⟩:∃p,T[i]?=some p/\p.1=k:=by
   obtain⟨y,h1,h2⟩:=Z8l r U;exact⟨y,h1,h2.1.symm⟩
  obtain⟨G,J,f2,L,M,N⟩:=q it (qa3.mpr rfl);rw[u]at a;refine wpAny_pyNext_dict_item a D hy λ O n j m sb=>?_;have I1:Inv X pins σ H {s with heap:=n}:=I.turned (t':=s.toks) (λ b o g e=>(sb.2 b g).trans e) G J L M N;obtain⟨o2,e2,c2,d2⟩:=id m;dsimp only at Z;subst Z;exact⟨O,rfl,J1Q (s:={s with heap:=n}) e2 c2 d2 qQ ⟨kV Y,H,I1,J7n j,⟨rfl,Y,v,U,rfl⟩,by rw[u];exact m,λ b g=>(q b g).1⟩⟩
 done:=by
  intro X x A B R i pins s σ H E I q a C;subst x A B;obtain⟨hd,S⟩:=C;obtain⟨hs,T,r,D⟩:=J4C I hd Q;have u:=r.length;obtain⟨G,J,f2,L,M,N⟩:=q it (qa3.mpr rfl);rw[u]at a;exact wpAny_pyNext_dict_end (I.ok.hd R) a D (qk0 qR) λ n eb=>⟨rfl,I.turned (t':=s.toks) (λ b o g e=>eb b o g e) G J L M N⟩
 self:=λ _ _ _ _ _ a h=>wpAny_pyIter_keyiter a h
theorem Z5i{d:V0}{o:Obj}{kvs:List (Key×V)}{g:TG}{h:TS}{D:Ends}{σ:St}{H:Hp}(a:Nat->St->Hp->Prop)(j:a 0 σ H)(n:∀i σ H,i<=kvs.length->a i σ H->H d=some (.frz o (.dK kvs)))(hs:∀i k v σ H,kvs[i]?=some (k,v)->a i σ H->g (kV k) σ H λ c r=>h {D with nx:=a (i+1),ct:=a (i+1),bk:=D.nx} c r)(hd:∀σ H,a kvs.length σ H->D.nx σ H):Z7E (Itd d o kvs) g h D σ H:=by
 refine⟨λ i m σ H=>m=kvs.length-i/\i<=kvs.length/\a i σ H,⟨kvs.length,by simp,qa6 _,j⟩,?_⟩;rintro i m σ H ⟨rfl,u,p⟩;have q:=n i σ H u p;by_cases b:i<kvs.length
 ·refine .inr ⟨⟨q,b⟩,a (i+1),λ z A B=>⟨kvs.length-(i+1),qR,rfl,b,B⟩,λ x A y=>?_⟩;obtain⟨e,k,v,C,E⟩:=y;subst e E;exact hs i k v σ _ C p
 ·have e:i=kvs.length:=by omega
  subst e;exact .inl ⟨⟨q,qa1 _⟩,hd σ H p⟩
def J9Q:V->Bool
 | .non| .bl _| .int _| .str _=>true
 |_=>false
def RawD(h:V3)(d:V0)(es:Array DictEntry)(ep:Nat):Prop:=∃o,h.get? d=some o/\o.ExactDict/\o.data=.dict es ep
theorem RawD.at{h h':V3}{d:V0}{es:Array DictEntry}{ep:Nat}(x:RawD h d es ep)(e:∀o,h.get? d=some o->h'.get? d=some o):RawD h' d es ep:=let⟨o,a,r⟩:=x;⟨o,e _ a,r⟩
theorem RawD.typeIs{s:M1}{d:V0}{es:Array DictEntry}{ep:Nat}(x:RawD s.heap d es ep):s.TypeIs (.ref d) "dict":=let⟨o,a,c,_⟩:=x;⟨o,a,c.1⟩
section
variable{prog:Program}{w:M2}{A:V4}{E:V1->M1->Prop}{s:M1}{it d:V0}{es:Array DictEntry}{ep i:Nat}
theorem J2U{Q:V1->M1->Prop}(hd:(d==sysModules)=false)(c:RawD s.heap d es ep)(g:Q (.ref s.heap.objs.size) {s with heap:=s.heap.push {cls:=.type "dict_keyiterator",data:=.fields #[.ref d,.int 0 0,.int es.size 0,.int ep 0]}}):wpAny (model prog w) A (pyIter (.ref d)) Q E s:=by
 have b:=c.typeIs;obtain⟨o,e,h,a⟩:=c;refine wpAny_pyIter_slot b F.slot_dict_iter (wpAny_call_entry F.slot_dict_iter b F.entry_dict_iter ?_ (F.args_dict_iter_1 _));unfold Builtin.«dict.__iter__»;refine wpAny_bind ?_;unfold Builtin.Dict.dictSlotNone;refine wpAny_bind (wpAny_notOrdered_dict b ?_);show wpAny _ _ (pure (Value.ref d)) _ _ s;refine wpAny_pure ?_;show wpAny _ _ (Builtin.Dict.showsAll d>>=_) _ _ s;unfold Builtin.Dict.showsAll;rw[if_neg (by rw[hd];decide)];refine wpAny_bind (wpAny_pure (wpAny_bind (wpAny_dictEntries e a (wpAny_bind (wpAny_dictEpoch e a ?_)))));exact wpAny_bind (wpAny_newObj_type (wpAny_pure ⟨_,rfl,"dict_keyiterator",_,⟨_,Heap.get?_push_size _ rfl,rfl⟩,F.slot_dict_keyiterator_next.lookup,g⟩))
theorem J3V{Q:Option V1->M1->Prop}(a:s.heap.IsKeyIter it d i es.size ep)(j:RawD s.heap d es ep)(m:i<es.size)(n:∀g,g.IsKeyIter it d (i+1) es.size ep->Heap.SameBut it s.heap g->Q (some es[i].key) {s with heap:=g}):wpAny (model prog w) A (pyNext (.ref it)) Q E s:=by
 obtain⟨o,h,p,hd⟩:=id a;obtain⟨r,c,q,e⟩:=j;unfold pyNext;refine wpAny_bind (wpAny_attempt (wpAny_callSpecial?_slot (name:=Str.ofString "__next__") a.typeIs F.slot_dict_keyiterator_next (wpAny_call_entry F.slot_dict_keyiterator_next a.typeIs F.entry_dict_keyiterator_next ?_ (F.args_dict_keyiterator_next_1 _))));refine wpAny_bind (wpAny_pure (wpAny_bind (wpAny_bind ?_)));first|refine wpAny_bind (wpAny_typeNameOfWhole_keyiter a.typeIs (wpAny_pure ?_))|refine wpAny_bind (wpAny_typeNameOf_keyiter a.typeIs (wpAny_pure ?_))
 refine wpAny_bind (wpAny_fieldsOf h hd ?_);simp only[show Builtin.Dict_items.ownsTuple "dict_keyiterator"=false by decide,qk7,if_false];show wpAny _ _ (if(Value.ref d==Value.none)=true then _ else _) _ _ s;rw[if_neg (show ¬((Value.ref d==Value.none)=true)from qc0)];refine wpAny_bind (wpAny_pure (wpAny_bind (wpAny_dictEntries c e ?_)));rw[if_neg (by simp)];refine wpAny_bind (wpAny_pure (wpAny_bind (wpAny_dictEpoch c e ?_)));rw[if_neg (by simp)];refine wpAny_pure ?_;simp only[show ¬((i:Int)<0)from by omega,if_false,qh5,Array.getElem?_eq_getElem m];refine wpAny_bind ?_;first|refine wpAny_bind (wpAny_typeNameOfWhole_keyiter a.typeIs (wpAny_pure ?_))|refine wpAny_bind (wpAny_typeNameOf_keyiter a.typeIs (wpAny_pure ?_))
 refine wpAny_bind (wpAny_isOneOf_keyiter a.typeIs ?_);show wpAny _ _ (setField (.ref it) 1 (rawInt ((i:Int)+1))>>=_) _ _ s;refine wpAny_bind (wpAny_setField h hd (by simp) ?_);have b:(s.heap.update it (Obj.mapFields (·.setIfInBounds 1 (rawInt ((i:Int)+1))))).IsKeyIter it d (i+1) es.size ep:=
  ⟨_,Heap.get?_update_self _ h (Obj.isFreed_of_fields (Obj.data_mapFields hd _)),(Obj.cls_mapFields ..).trans p,by rw[Obj.data_mapFields hd];simp[rawInt]⟩
 refine wpAny_bind (wpAny_holding ?_);refine wpAny_bind (wpAny_isOneOf_keyiter (s:={s with heap:=s.heap.update it (Obj.mapFields (·.setIfInBounds 1 (rawInt ((i:Int)+1))))}) b.typeIs ?_);show wpAny _ _ (pure es[i].key) _ _ _;exact wpAny_pure (wpAny_pure ⟨_,rfl,wpAny_pure (n _ b (Heap.SameBut.update ..))⟩)
theorem J6c{Q:Option V1->M1->Prop}(n:A.handled=none)(c:s.heap.IsKeyIter it d i es.size ep)(p:RawD s.heap d es ep)(q:es.size<=i)(r:∀h,Heap.ExtBut it s.heap h->Q none {s with heap:=h}):wpAny (model prog w) A (pyNext (.ref it)) Q E s:=by
 obtain⟨o,j,v,hd⟩:=id c;obtain⟨x,e,u,g⟩:=p;unfold pyNext;refine wpAny_bind (wpAny_attempt (wpAny_callSpecial?_slot (name:=Str.ofString "__next__") c.typeIs F.slot_dict_keyiterator_next (wpAny_call_entry F.slot_dict_keyiterator_next c.typeIs F.entry_dict_keyiterator_next ?_ (F.args_dict_keyiterator_next_1 _))));refine wpAny_bind (wpAny_pure (wpAny_bind (wpAny_bind ?_)));first|refine wpAny_bind (wpAny_typeNameOfWhole_keyiter c.typeIs (wpAny_pure ?_))|refine wpAny_bind (wpAny_typeNameOf_keyiter c.typeIs (wpAny_pure ?_))
 refine wpAny_bind (wpAny_fieldsOf j hd ?_);simp only[show Builtin.Dict_items.ownsTuple "dict_keyiterator"=false by decide,qk7,if_false];show wpAny _ _ (if(Value.ref d==Value.none)=true then _ else _) _ _ s;rw[if_neg (show ¬((Value.ref d==Value.none)=true)from qc0)];refine wpAny_bind (wpAny_pure (wpAny_bind (wpAny_dictEntries e g ?_)));rw[if_neg (by simp)];refine wpAny_bind (wpAny_pure (wpAny_bind (wpAny_dictEpoch e g ?_)));rw[if_neg (by simp)];refine wpAny_pure ?_;simp only[show ¬((i:Int)<0)from by omega,if_false,qh5,Array.getElem?_eq_none q];refine wpAny_bind ?_;first|refine wpAny_bind (wpAny_typeNameOfWhole_keyiter c.typeIs (wpAny_pure ?_))|refine wpAny_bind (wpAny_typeNameOf_keyiter c.typeIs (wpAny_pure ?_))
 show wpAny _ _ (setField (.ref it) 0 .none>>=_) _ _ s;refine wpAny_bind (wpAny_setField j hd (by simp) ?_);show wpAny _ _ (newExc (.type "StopIteration") []>>=_) _ _ _;refine wpAny_bind ?_;simp only[newExc,newTuple];refine wpAny_bind (wpAny_newObj_type ?_ (by size_fits));refine wpAny_bind (m:=firstArgMember _ _) (wpAny_of_eq (a:=Value.none) (by first|rfl|(simp only[firstArgMember];rfl)) ?_);refine wpAny_newObj_type ?_ (by size_fits);simp only[raiseNew];refine wpAny_bind (wpAny_handled ?_);rw[show A.in1.handled=none from n];refine wpAny_bind (wpAny_pure (wpAny_throw ?_));refine wpAny_bind (wpAny_isInstance (T:="StopIteration") (b:=true) ⟨_,Heap.get?_push_size _ rfl,rfl⟩ isSubtype_stop ?_);exact wpAny_pure (r _ (((Heap.SameBut.update ..).extBut.push _).push _))
theorem J0E(x:A.handled=none)(n:d≠it):Walks prog w A it [it,d] [it] es.size (λ i v=>∃e,es[i]?=some e/\v=e.key) (λ i h=>h.IsKeyIter it d i es.size ep/\RawD h d es ep)where
 sub:=λ b c=>by simp at c;simp[c]
 frame:=λ _ _ _ a r=>⟨a.1.at λ o e=>r it (by simp) o e,a.2.at λ o e=>r d (by simp) o e⟩
 item:=λ i s Q E u a g=>J3V a.1 a.2 u λ p j m=>g _ p s.toks ⟨_,Array.getElem?_eq_getElem u,rfl⟩ ⟨j,a.2.at λ o e=>m.extBut d o n e⟩ λ b o c e=>m.extBut b o (λ h=>c (by simp[h])) e
 done:=λ s Q E a g=>J6c x a.1 a.2 (qa1 _) λ p q=>g p s.toks λ b o c e=>q b o (λ h=>c (by simp[h])) e
 self:=λ _ _ _ _ a g=>wpAny_pyIter_keyiter a.1 g
theorem J3f:isSubtype (.type "dict") (.type "dict")=pure true:=by rw[isSubtype_type];kernel_rfl
theorem J3s{Q:Bool->M1->Prop}(a:RawD s.heap d es ep)(h:Q false s):wpAny (model prog w) A (Builtin.List.listLengthHint (.ref d)) Q E s:=by
 unfold Builtin.List.listLengthHint;refine wpAny_bind (wpAny_specialOf (name:=Str.ofString "__len__") a.typeIs F.slot_dict_len.lookup ?_);generalize hid:("dict.__len__":String)=c;dsimp only;rw[show splitId c=some ("dict","__len__")by subst hid;decide+kernel];dsimp only;refine wpAny_bind (wpAny_isInstance (b:=true) a.typeIs J3f ?_);subst hid;rw[if_neg qQ];refine wpAny_ite_split (λ _=>?_) (λ z=>absurd qP z);exact wpAny_bind (wpAny_typeOf a.typeIs (wpAny_pure h))
theorem Z8r{Q:List V1->M1->Prop}(R:A.handled=none)(hd:(d==sysModules)=false)(P:RawD s.heap d es ep)(hz:es.size<=sizeLine)(h:∀H S q,s.heap.objs.size<H.objs.size->(∀b o,s.heap.get? b=some o->H.get? b=some o)->ItemsOf (λ i v=>∃e,es[i]?=some e/\v=e.key) q es.size->Q q.toList {s with heap:=H,toks:=S}):wpAny (model prog w) A (collect (.ref d)) Q E s:=by
 have g:d<s.heap.objs.size:=Heap.lt_size P.choose_spec.1;unfold collect;refine wpAny_bind (wpAny_runValue (codeAny_builtin F.entry_proto_collect ?_));rw[Around.under_plainId F.plain_proto_collect _];show wpAny _ A.in1 (newList []>>=λ l=>again (.builtin "list.__iadd__" ⟨[l,.ref d],[]⟩)) _ _ s;refine wpAny_bind (wpAny_newObj_type ?_);refine wpAny_pure ⟨plainId_quiet F.plain_list_iadd _,codeAny_builtin F.entry_list_iadd ?_⟩;rw[Around.under_plainId F.plain_list_iadd _];have j:(s.heap.push {cls:=.type "list",data:=.seq ([]:List V1).toArray}).get? s.heap.objs.size=some {cls:=.type "list",data:=.seq ([]:List V1).toArray}:=Heap.get?_push_size _ rfl;have m:RawD (s.heap.push {cls:=.type "list",data:=.seq ([]:List V1).toArray}) d es ep:=P.at λ o e=>Heap.get?_push_of_some _ e;have a:s.heap.objs.size≠d:=qh3 g;have T:Builtin.List.listSameRef (.ref s.heap.objs.size) (.ref d)=false:=by simp[Builtin.List.listSameRef,a]
 have n:(s.heap.push {cls:=.type "list",data:=.seq ([]:List V1).toArray}).objs.size=s.heap.objs.size+1:=Heap.size_push ..;have kp:∀b o,s.heap.get? b=some o->(s.heap.push {cls:=.type "list",data:=.seq ([]:List V1).toArray}).get? b=some o:=λ b o e=>Heap.get?_push_of_some _ e;show wpAny _ A.in1 (Builtin.List.listExtendWith (.ref s.heap.objs.size) (.ref d) (.ref s.heap.objs.size)) _ _ {s with heap:=s.heap.push {cls:=.type "list",data:=.seq ([]:List V1).toArray}};generalize s.heap.push {cls:=.type "list",data:=.seq ([]:List V1).toArray}=c at*;unfold Builtin.List.listExtendWith;refine wpAny_bind (wpAny_typeOf (RawD.typeIs (s:={s with heap:=c}) m) ?_);rw[if_neg (by rw[T];decide)];refine wpAny_bind (J2U (s:={s with heap:=c}) hd m ?_);have I:(c.push {cls:=.type "dict_keyiterator",data:=.fields #[.ref d,.int 0 0,.int es.size 0,.int ep 0]}).IsKeyIter c.objs.size d 0 es.size ep:=⟨_,Heap.get?_push_size _ rfl,rfl,rfl⟩;have r:RawD (c.push {cls:=.type "dict_keyiterator",data:=.fields #[.ref d,.int 0 0,.int es.size 0,.int ep 0]}) d es ep:=m.at λ o e=>Heap.get?_push_of_some _ e;have J:∀b o,s.heap.get? b=some o->(c.push {cls:=.type "dict_keyiterator",data:=.fields #[.ref d,.int 0 0,.int es.size 0,.int ep 0]}).get? b=some o:=λ b o e=>Heap.get?_push_of_some _ (kp b o e);have u:=Heap.get?_push_of_some {cls:=.type "dict_keyiterator",data:=.fields #[.ref d,.int 0 0,.int es.size 0,.int ep 0]} j;generalize c.push {cls:=.type "dict_keyiterator",data:=.fields #[.ref d,.int 0 0,.int es.size 0,.int ep 0]}=U at*;refine wpAny_bind (wpAny_holding (J3s (s:={s with heap:=U}) r ?_));rw[if_pos qQ];refine wpAny_bind (wpAny_rule (wpAny_bind ?_));have p:s.heap.objs.size≠c.objs.size:=by rw[n];exact qb7 (qj2 _)
 have K:d≠c.objs.size:=by rw[n];exact qb7 (qh8 g)
 show wpAny _ _ (updateSeq s.heap.objs.size (·.push .none)>>=λ _=>updateSeq s.heap.objs.size (·.pop)) _ _ _;refine wpAny_bind (wpAny_updateSeq u rfl ?_);have x:=Heap.get?_update_self (Obj.mapSeq (·.push Value.none)) u rfl;refine wpAny_updateSeq (hz:=by seq_fits) x rfl ?_;have L:=Heap.get?_update_self (Obj.mapSeq (·.pop)) x rfl;have W:=(J0E (prog:=prog) (w:=w) (A:=A.in1) (es:=es) (ep:=ep) R K).toS;refine wpAny_pure ⟨plainId_quiet F.plain_extend_loop _,codeAny_extend_loopS W hz s.heap.objs.size (by simp[p,a]) _ es.size 0 _ _ _ rfl (qa6 _) ⟨?_,?_⟩ L (ItemsOf.nil _) λ M y X B C D=>?_⟩
 ·exact I.at λ o e=>(Heap.get?_update_other _ _ p).trans ((Heap.get?_update_other _ _ p).trans e)
 ·exact r.at λ o e=>(Heap.get?_update_other _ _ a).trans ((Heap.get?_update_other _ _ a).trans e)
 show wpAny _ A (load s.heap.objs.size>>=_) _ _ M;refine wpAny_bind (wpAny_load C ?_);rw[Moved.eq_with B];refine wpAny_pure (h M.heap M.toks y (Heap.lt_size C) (λ b o e=>?_) D);have N:=Heap.lt_size e;have O:s.heap.objs.size≠b:=qh3 N;refine B.heap b o (λ G=>?_) ((Heap.get?_update_other _ _ O).trans ((Heap.get?_update_other _ _ O).trans (J b o e)));rcases qa2.mp G with z|z
 ·exact O z.symm
 ·rw[qa3.mp z,n]at N;exact absurd N (qf0.mpr (qe1 _))
end
open PySem.W
section
variable{X:Cx}
def Z5W(xs:List V)(H:Hp)(Q:VK):Prop:=∃d a,xs=[V.ref d]/\Rd H d (.dK a)/\New H (.lst (a.map λ b=>kV b.1)) λ p c=>Q (.ref p) c
theorem J8o{xs:List V}{H:Hp}{Q:VK}:Z5W xs H Q=∃d a,xs=[V.ref d]/\Rd H d (.dK a)/\New H (.lst (a.map λ b=>kV b.1)) λ p H2=>Q (.ref p) H2:=rfl
theorem Z8J{P:Program}{w:M2}{kvs:List (Key×V)}{vs:List (Key×V1)}{b:Array V1}(c:KV kvs vs)(h:ItemsOf (λ i v=>∃k x,vs[i]?=some (k,x)/\(Z0F P w).is k v=true) b vs.length):Vals (kvs.map λ c=>kV c.1) b.toList:=by
 have o:=c.length;have go:∀(a:List V)(us:List V1),a.length=us.length->(∀(i:Nat) x u,a[i]?=some x->us[i]?=some u->RelV x u)->Vals a us:=by
  intro a;induction a with
  |nil=>intro us e _;cases us with|nil=>exact .nil|cons=>simp at e
  |cons x a q=>
   intro us e m;cases us with
   |nil=>simp at e
   |cons u us=>exact .cons (m 0 x u rfl rfl) (q us (by simpa using e) λ i x u g j=>m (i+1) x u g j)
 refine go _ _ (by rw[qa0,qf4];exact o.trans h.1.symm) λ i x u g j=>?_;rw[qm7]at j;obtain⟨k,y,r,A⟩:=h.2 i u j;rw[qa4]at g;obtain⟨p,B,rfl⟩:=qc1.mp g;obtain⟨z,n,C⟩:=Z8l c B;rw[r]at n;cases n;rw[C.1];exact J7n A
theorem Z1C(j:X.calm=true):Z3p X (.type "list") Z5W:=by
 intro i s C H D E Q I r h;obtain⟨d,kvs,rfl,hd,q⟩:=h;obtain⟨u,rfl,m⟩:=Z4x r;cases m;obtain⟨n,p,v,b,x⟩:=Z8j I.hok hd;have G:=b.length;obtain⟨ep,e⟩:=x.dictAt;refine kdl_call (kdl_dict (kvs:=v) (ep:=ep) p) (I.ok.hd j) e qR λ J y g c k z A=>?_;have B:=Z8J b A;refine⟨.ref s.heap.objs.size,_,I.laid (a:=s.heap.objs.size) (o:=.lst (kvs.map λ b=>kV b.1)) (t':=y) k (qa1 _) ⟨by rw[qa0];exact n,g.toList,c,B,?_⟩,rfl,q _ (I.hok.fresh (qa1 _))⟩;rw[ql0];exact z
def Z8k(xs:List V)(H:Hp)(Q:VK):Prop:=∃d a b,xs=[V.ref d]/\Rd H d (.dK a)/\(a.map λ e=>kV e.1)=b.map V.int/\b.length<64/\∀c:List Int,c.Perm b->c.Pairwise (·<=·)->New H (.lst (c.map V.int)) λ p g=>Q (.ref p) g
theorem J6t{xs:List V}{H:Hp}{Q:VK}:Z8k xs H Q=∃d a b,xs=[V.ref d]/\Rd H d (.dK a)/\(a.map λ e=>kV e.1)=b.map V.int/\b.length<64/\∀c:List Int,c.Perm b->c.Pairwise (·<=·)->New H (.lst (c.map V.int)) λ p H2=>Q (.ref p) H2:=rfl
def Z8s(xs:List V)(H:Hp)(Q:VK):Prop:=∃d a b,xs=[V.ref d]/\Rd H d (.dK a)/\(a.map λ e=>kV e.1)=b.map V.str/\b.length<64/\∀c:List V2,c.Perm b->New H (.lst (c.map V.str)) λ p g=>Q (.ref p) g
theorem J6u{xs:List V}{H:Hp}{Q:VK}:Z8s xs H Q=∃d a b,xs=[V.ref d]/\Rd H d (.dK a)/\(a.map λ e=>kV e.1)=b.map V.str/\b.length<64/\∀c:List V2,c.Perm b->New H (.lst (c.map V.str)) λ p H2=>Q (.ref p) H2:=rfl
def Z7U(K:X0)(xs:List V)(H:Hp)(Q:VK):Prop:=∃a b,xs=[V.ref a]/\SqL K H a (b.map V.int)/\b.length<64/\∀c:List Int,c.Perm b->c.Pairwise (·<=·)->New H (.lst (c.map V.int)) λ p e=>Q (.ref p) e
theorem J6w{K:X0}{xs:List V}{H:Hp}{Q:VK}:Z7U K xs H Q=∃a b,xs=[V.ref a]/\SqL K H a (b.map V.int)/\b.length<64/\∀c:List Int,c.Perm b->c.Pairwise (·<=·)->New H (.lst (c.map V.int)) λ p H2=>Q (.ref p) H2:=rfl
theorem Z6o:∀{a:List Int}{b:List V1},Vals (a.map V.int) b->IntsAre b a
 |[],_,h=>by cases h;exact .nil
 |n::a,_,h=>by
  cases h with
  |cons r h=>
   obtain⟨t,rfl⟩:=r;exact .cons n t (Z6o h)
theorem Z4R:∀{a:List Int}{b:List V1},IntsAre b a->Vals (a.map V.int) b
 |_,_,.nil=>.nil
 |_,_,.cons n t h=>.cons ⟨t,rfl⟩ (Z4R h)
theorem Z8K:∀{a:List V2}{b:List V1},Vals (a.map V.str) b->StrsAre b a
 |[],_,h=>by cases h;exact .nil
 |n::a,_,h=>by
  cases h with
  |cons r h=>
   obtain⟨t,rfl⟩:=r;exact .cons n t (Z8K h)
theorem Z7c:∀{a:List V2}{b:List V1},StrsAre b a->Vals (a.map V.str) b
 |_,_,.nil=>.nil
 |_,_,.cons n t h=>.cons ⟨t,rfl⟩ (Z7c h)
theorem Z7l(hc:X.calm=true){j:List (V0×Obj)}{s:M1}{M:St}{H:Hp}{d:V0}{kvs:List (Key×V)}{Q:V1->M1->Prop}{E:V1->M1->Prop}(I:Inv X j M H s)(hd:Rd H d (.dK kvs))(D:List V->Prop)(G:∀(A:V4)(B:M1)(a:V0)(h:List V1)(n:Nat)(E:V1->M1->Prop)(N:PySem.Fin->M1->Prop),Vals (kvs.map λ C=>kV C.1) h->B.heap.get? a=some (seqObj "list" h.toArray n)->(∀(out:Array V1) g,D g->Vals g out.toList->N (.done (.ret .none)) {B with heap:=sortedHeap B.heap a h out})->wpAny (model X.prog X.w) A (Builtin.«list.sort» ⟨[.ref a],[]⟩) N E B)(hl:∀g,D g->g.length<=sizeLine)(q:∀a O g,D g->H a=none->Inv X j M (upd H a (.lst g)) O->Q (.ref a) O):wpAny (model X.prog X.w) X.A (call (.builtin "sorted") [.ref d]) Q E s:=by
 obtain⟨hz,hs,p,C,da⟩:=Z8j I.hok hd;have lv:=C.length;obtain⟨o,es,ep,g1,g2,g3,g4,P,g6⟩:=da;have y:es.size=p.length:=by rw[<-qf4];exact P.length
 refine Calls.call_function_entry kind_sorted plain_sorted entry_sorted (args_sorted1 _) ?_;unfold Builtin.«sorted»;refine wpAny_bind (m:=checkCount "sorted" 1 1 _) (wpAny_pure ?_);refine wpAny_bind (Z8r (A:=X.A.in1) (I.ok.hd hc) hs ⟨o,g1,g2,g3⟩ qR λ r J u k0 R c=>?_);have c:ItemsOf (λ i v=>∃k x,p[i]?=some (k,x)/\(Z0F X.prog X.w).is k v=true) u p.length:=⟨by rw[<-y];exact c.1,λ i v K=>by
  obtain⟨e,z,rfl⟩:=c.2 i v K;have hi:i<p.length:=by rw[<-y];exact(Array.getElem?_eq_some_iff.mp z).1
  obtain⟨k,x,S⟩:∃k x,p[i]?=some (k,x):=⟨p[i].1,p[i].2,qa8 hi⟩;rw[<-qm7]at z;exact⟨k,x,S,(P.get? z S).1⟩⟩
 have rv:=Z8J C c;have T:u.toList.length=kvs.length:=by rw[qf4];exact c.1.trans lv.symm
 generalize u.toList=h at*;refine wpAny_bind (wpAny_newList ?_ qR);show wpAny _ _ _ _ _ {s with heap:=r.push (seqObj "list" h.toArray 0),toks:=J};have L:(r.push (seqObj "list" h.toArray 0)).get? r.objs.size=some (seqObj "list" h.toArray 0):=Heap.get?_push_size _ rfl;have le:s.heap.objs.size<=r.objs.size:=qg4 k0;refine wpAny_bind (wpAny_holding (wpAny_call_entry slot_list_sort ⟨_,L,rfl⟩ entry_list_sort (G _ {s with heap:=r.push (seqObj "list" h.toArray 0),toks:=J} _ h 0 _ _ rv L λ out g U K=>⟨_,rfl,?_⟩) (args_list_sort _)));obtain⟨e,z⟩:=sortedHeap_at (out:=out) L;refine wpAny_pure ⟨_,rfl,q r.objs.size _ g U (I.hok.fresh le) ?_⟩;refine I.laid (a:=r.objs.size) (o:=.lst g) (t':=J) (λ b o Y=>?_) le ⟨hl g U,out.toList,e,K,by rw[ql0];exact z⟩;have Z:=Heap.lt_size (R b o Y);rw[sortedHeap_old (qb7 Z) (by rw[Heap.size_push];exact qh8 Z)];exact Heap.get?_push_of_some _ (R b o Y)
theorem Z7P(v:X.calm=true):Z3p X (.builtin "sorted") Z8k:=by
 intro p s L H M x Q I r h;obtain⟨d,y,z,rfl,hd,B,e,q⟩:=h;obtain⟨u,rfl,C⟩:=Z4x r;cases C;refine Z7l v I hd (λ g=>∃b:List Int,g=b.map V.int/\b.Perm z/\b.Pairwise (·<=·)) (λ A N a x n E O i D k=>?_) (λ g j=>?_) (λ a P g j ha G=>?_)
 ·rw[B]at i;have J:=Z6o i;exact list_sort_tree D J (by rw[<-i.length,qa0];exact e) λ m b K c o=>k m _ ⟨b,rfl,c,o⟩ (Z4R K)
 ·obtain⟨b,rfl,c,_⟩:=j;rw[qa0,c.length_eq,sizeLine_eq];omega
 ·obtain⟨b,rfl,c,o⟩:=j;exact⟨.ref a,_,G,rfl,q b c o a ha⟩
theorem Z8y(z:X.calm=true):Z3p X (.builtin "sorted") Z8s:=by
 intro v s S H T B Q I r h;obtain⟨d,C,D,rfl,hd,G,c,q⟩:=h;obtain⟨u,rfl,J⟩:=Z4x r;cases J;refine Z7l z I hd (λ g=>∃b:List V2,g=b.map V.str/\b.Perm D) (λ A U a B n E Y i K k=>?_) (λ g j=>?_) (λ a Z g j ha L=>?_)
 ·rw[G]at i;have m:=Z8K i;refine list_sort_treeK strKind_oneLt K m.keysOf (λ x y rest e=>keyKind_strs (by rw[<-e];exact m)) (by rw[<-i.length,qa0];exact c) λ M N O=>?_;obtain⟨o,P,R,h3⟩:=sorted_out_str m N O;exact k _ _ ⟨o,rfl,R⟩ (Z7c P)
 ·obtain⟨b,rfl,p⟩:=j;rw[qa0,p.length_eq,sizeLine_eq];omega
 ·obtain⟨b,rfl,p⟩:=j;exact⟨.ref a,_,L,rfl,q b p a ha⟩
theorem Z8B:Z3p X (.builtin "sorted") (Z7U X.K):=by
 intro j s E H G J Q I r h;obtain⟨a,K,rfl,v,g,q⟩:=h;obtain⟨u,rfl,x⟩:=Z4x r;cases x;obtain⟨i,m,y,L⟩:=I.list v;have z:=Z6o m;refine sorted_ints y.isList z (by rw[<-m.length,qa0];exact g) λ c n A p B=>?_;obtain⟨e,C⟩:=sortedAll_at s.heap i c;exact⟨.ref (s.heap.objs.size+1),_,I.laid (a:=s.heap.objs.size+1) (o:=.lst (n.map V.int)) (t':=s.toks) (λ b o D=>sortedAll_old D) (qe1 _) ⟨by rw[qa0,p.length_eq,sizeLine_eq];omega,c.toList,e,Z4R A,by rw[ql0];exact C⟩,rfl,q n p B _ (I.hok.fresh (qe1 _))⟩
def J0J(x:V)(vs:List V)(H:Hp)(Q:VK):Prop:=∃(l:V0)(a:List V)(k:Nat)(y:V),x=.ref l/\vs=[.int k,y]/\H l=some (.lst a)/\k<=a.length/\a.length<1000/\Q .non (upd H l (.lst (a.take k++y::a.drop k)))
theorem J6s{x:V}{vs:List V}{H:Hp}{Q:VK}:J0J x vs H Q=∃(l:V0)(a:List V)(k:Nat)(y:V),x=.ref l/\vs=[.int k,y]/\H l=some (.lst a)/\k<=a.length/\a.length<1000/\Q .non (upd H l (.lst (a.take k++y::a.drop k))):=rfl
theorem Vals.ins:∀{b:List V}{c:List V1}{y:V}{u:V1}(k:Nat),Vals b c->RelV y u->Vals (b.take k++y::b.drop k) (c.take k++u::c.drop k)
 |_,_,_,_,0,h,r=>.cons r h
 |_,_,_,_,k+1,.nil,r=>.cons r .nil
 |_,_,_,_,k+1,.cons a h,r=>.cons a (Vals.ins k h r)
theorem J1G:MtM X "list.insert" J0J:=by
 intro g s D H x E v G Q I o p h;obtain⟨l,J,k,y,rfl,rfl,i,K,L,q⟩:=h;cases o;obtain⟨M,j,rfl,u,A⟩:=p.two;obtain⟨t,rfl⟩:=u;obtain⟨z,a,n,r,N,e⟩:=I.lstM i;have b:k<=a.length:=by omega
 generalize hx:(k:Int)=x;have B:¬(!Builtin.List.listFitsIndex x)=true:=by
  have:Builtin.List.listFitsIndex x=true:=by
   unfold Builtin.List.listFitsIndex;have m:x<=1000:=by omega
   rw[qh6];exact⟨decide_eq_true qR,decide_eq_true qR⟩
  rw[this];exact Bool.noConfusion
 have c:a.toArray.size<=sizeLine:=by rw[qb2,sizeLine_eq];omega
 refine call_meets F.slot_list_insert ⟨_,e,rfl⟩ F.entry_list_insert (F.args_list_insert_3 _ _ _) (PySem.AutoSeq1.list_insert_list_int_val_1 l a.toArray n x t j B c) ⟨e,?_⟩;refine⟨.non,_,I.lset (its':=a.take k++j::a.drop k) i e ?_ (Vals.ins k r A) ?_,rfl,q⟩
 ·have C:¬x<0:=by omega
  have m:x.toNat=k:=by omega
  dsimp only;rw[if_neg C,m,qb2,qi8 b];simp;exact qd6 (by rw[qg5];omega)
 ·rw[qa5,qc3,qb3,qg5,sizeLine_eq];omega
end
def J1j(K:X0):List V->Hp->VK->Prop:=λ g H Q=>∃(a:V0)(b:List V)(c:List V2)(e:List V),g=[.ref a]/\SqT K H a b/\b.length=c.length/\(∀i t,b[i]?=some t->∃T,t=.ref T/\SqT K H T [.str (c.getD i ""),e.getD i .non])/\∀d,H d=none->Q (.ref d) (upd H d (.dK (Z2n c e)))
theorem J7a{K:X0}{xs:List V}{H:Hp}{Q:VK}:J1j K xs H Q=∃(a:V0)(b:List V)(c:List V2)(e:List V),xs=[.ref a]/\SqT K H a b/\b.length=c.length/\(∀i t,b[i]?=some t->∃T,t=.ref T/\SqT K H T [.str (c.getD i ""),e.getD i .non])/\∀d,H d=none->Q (.ref d) (upd H d (.dK (Z2n c e))):=rfl
theorem Z9R{X:Cx}(B:X.calm=true):Z3p X (.type "dict") (J1j X.K):=by
 intro d0 s σ H xs us Q I r h;obtain⟨a,S,O,ys,rfl,hq,lt,hp,q⟩:=h;obtain⟨u,rfl,ru⟩:=Z4x r;cases ru;obtain⟨c,C,y,o,D,z,E,p,U⟩:∃c,Vals S c/\S.length<=sizeLine/\∃o D,s.heap.get? a=some o/\o.cls=.type "tuple"/\o.data=.seq c.toArray D/\o.dict=none:=by
  rcases hq with h|⟨o,c,n,hk,B,hs,y,r⟩
  ·obtain⟨⟨y,Y⟩,c,C,o,z,E,D,p⟩:=h.ok I.hok;exact⟨c,C,y,o,D,z,E,p,Y o z⟩
  ·exact⟨c.toList,r,by rw[r.length,qf4];exact y,o,n,I.kIn a o hk,B.1,by rw[ql0];exact hs,B.2⟩
 have G:c.length=O.length:=by rw[<-C.length,lt]
 have J:IsTup s.heap a c.toArray:=⟨o,z,E,D,p⟩;have e0:=Heap.lt_size z;refine callType_codes (Q₁:=λ ob sn=>ob=.ref s.heap.objs.size/\sn={s with heap:=s.heap.push {cls:=.type "dict",data:=.dict #[]}}) F.kt_called_dict (F.kt_typeCall_dict_1 _) F.entry_dict_init (kt_code_dict_new _ ⟨rfl,rfl⟩) ?_;rintro ob sn ⟨rfl,rfl⟩;have j:({s with heap:=s.heap.push {cls:=.type "dict",data:=.dict #[]}}:M1).heap.DictOf (Z0F X.prog X.w) s.heap.objs.size []:=Heap.DictOf.new s.heap;have es:({s with heap:=s.heap.push {cls:=.type "dict",data:=.dict #[]}}:M1).heap.objs.size=s.heap.objs.size+1:=Heap.size_push ..;have g1:({s with heap:=s.heap.push {cls:=.type "dict",data:=.dict #[]}}:M1).heap.get? a=some o:=Heap.get?_push_of_some _ z;have k1:∀b u,s.heap.get? b=some u->({s with heap:=s.heap.push {cls:=.type "dict",data:=.dict #[]}}:M1).heap.get? b=some u:=λ b u e=>Heap.get?_push_of_some _ e;refine⟨j.typeIs,F.args_dict_init_2 _ _,?_⟩;unfold Builtin.«dict.__init__»;refine wpAny_bind ?_;unfold Builtin.Dict.selfAndRest;refine wpAny_bind (wpAny_notOrdered_dict j.typeIs ?_);show wpAny _ _ (pure (s.heap.objs.size,[Value.ref a])) _ _ _;refine wpAny_pure ?_;show wpAny _ _ (Builtin.Dict.updateFrom "dict.__init__" s.heap.objs.size (.ref a) [] .none) _ _ _;unfold Builtin.Dict.updateFrom;refine wpAny_bind (wpAny_typeOf (T:="tuple") ⟨_,g1,E⟩ ?_);rw[if_pos qQ];refine wpAny_bind (Z9O (show X.A.in1.in1.handled=none from I.ok.hd B) g1 E p U λ P Z kp=>?_);have ls:s.heap.objs.size<P.objs.size:=by
  obtain⟨o2,_,_,a0,_⟩:=j;exact Heap.lt_size (kp _ _ a0)
 have k2:∀b u,s.heap.get? b=some u->P.get? b=some u:=λ b u e=>kp b u (k1 b u e);show wpAny _ _ (rule _>>=_) _ _ _;refine wpAny_bind (wpAny_rule (wpAny_bind (wpAny_pyIter_tuple (IsTup.up J k2) ?_)));refine wpAny_pure ⟨plainId_quiet Z1X ⟨[.ref s.heap.objs.size,.ref P.objs.size,rawInt 0,.none],[]⟩,?_⟩;have K:s.heap.objs.size≠P.objs.size:=qb7 ls;refine Z6r (n:=c.length) (J0N (show X.A.in1.in1.handled=none from I.ok.hd B) J (qg4 ls) (qa1 _) K) (λ i L s2 h3 t3 A kz _=>?_) (λ i=>.inr (O.getD i "")) (λ i=>ys.getD i .non) (λ i L v s2 hi A=>?_) (by rw[<-C.length];exact y) .none c.length 0 _ #[] [] rfl (qa6 _) ⟨_,Z,rfl,⟨_,Heap.get?_push_size _ rfl,rfl,rfl⟩,λ b u e=>Heap.get?_push_of_some _ (k2 b u e),rfl,qa6 _⟩ .nil (j.at λ o e=>Heap.get?_push_of_some _ (kp _ o e)) λ s2 L f0 fin kv g=>?_
 ·obtain⟨h4,x,rfl,A,k,R,M⟩:=A;exact⟨h3,t3,rfl,A.at λ o e=>kz _ o (Ne.symm K) e,λ b u e=>kz b u (qb7 (Heap.lt_size e)) (k b u e),R,M⟩
 ·obtain⟨h4,x,rfl,A,k,R,M⟩:=A;have ev:v=c[i]:=by
   rw[qj9,qf1 hi]at R;have:=congrArg List.getLast? R;simp only[List.getLast?_concat]at this;exact qc5 this
  obtain⟨t,ht⟩:∃t,S[i]?=some t:=⟨_,qa8 qR⟩;obtain⟨T,rfl,hT⟩:=hp i t ht;obtain⟨u2,N,b0⟩:=C.get ht;rw[qa8 hi]at N;cases N;obtain⟨us,c0,⟨ot,e1,e2,m,e3⟩,_⟩:=I.tuple hT;obtain⟨w1,w2,rfl,r1,r2⟩:=c0.two;refine⟨T,w1,w2,ot,m,ev.trans b0,k _ _ e1,e2,e3,Z8z (k:=.inr (O.getD i "")) r1,r2⟩
 ·obtain⟨h4,x,rfl,k,_⟩:=fin;refine⟨rfl,.ref _,upd H s.heap.objs.size (.dK (Z2n O ys)),I.laid (t':=x) k (qa1 _) (Z6P ?_ (beq_false_of_ne (qh3 I.big)) ?_ g),rfl,q _ (I.hok.fresh (qa1 _))⟩
  ·exact qb9 (Z4m _ _ _) (by rw[<-lt];exact y)
  ·rw[G]at kv;exact kv
theorem Z8E{K:X0}{a:V0}{g:TG}{n:TS}{D:Ends}{b:St}{H:Hp}(xs:List V)(c:Nat->St->Hp->Prop)(o:c 0 b H)(r:∀i b H,i<=xs.length->c i b H->SqL K H a xs)(hs:∀i x b H,xs.reverse[i]?=some x->c i b H->g x b H λ j u=>n {D with nx:=c (i+1),ct:=c (i+1),bk:=D.nx} j u)(hd:∀b H,c xs.length b H->D.nx b H):Z7E (Itv K a xs.length) g n D b H:=by
 refine⟨λ i m b H=>m=xs.length-i/\i<=xs.length/\c i b H,⟨xs.length,by simp,qa6 _,o⟩,?_⟩;rintro i m b H ⟨rfl,v,p⟩;have q:=r i b H v p;by_cases h:i<xs.length
 ·refine .inr ⟨⟨h,xs,q,rfl⟩,c (i+1),λ z A B=>⟨xs.length-(i+1),qR,rfl,h,B⟩,λ x A y=>?_⟩;obtain⟨e,y⟩:=y;subst e;exact hs i x b _ (by rw[List.getElem?_reverse h];exact y xs q) p
 ·have e:i=xs.length:=by omega
  subst e;exact .inl ⟨rfl,hd b H p⟩
theorem J2J{K:X0}{a:V0}{g:TG}{n:TS}{D:Ends}{b:St}{H:Hp}(xs:List V)(c:Nat->St->Hp->Prop)(o:c 0 b H)(r:∀i b H,i<=xs.length->c i b H->SqL K H a xs)(hs:∀i x t b H,xs[i]?=some x->H t=none->c i b H->g (.ref t) b (upd H t (.tup [.int i,x])) λ j u=>n {D with nx:=c (i+1),ct:=c (i+1),bk:=D.nx} j u)(hd:∀b H,c xs.length b H->D.nx b H):Z7E (Ite K a) g n D b H:=by
 refine⟨λ i m b H=>m=xs.length-i/\i<=xs.length/\c i b H,⟨xs.length,by simp,qa6 _,o⟩,?_⟩;rintro i m b H ⟨rfl,v,p⟩;have q:=r i b H v p;by_cases h:i<xs.length
 ·refine .inr ⟨⟨xs,xs[i],q,qa8 h⟩,c (i+1),λ z A B=>⟨xs.length-(i+1),qR,rfl,h,B⟩,λ x A y=>?_⟩;obtain⟨t,C,e,E,G,y⟩:=y;subst e G;exact hs i C t b _ (y xs q) E p
 ·have e:i=xs.length:=by omega
  subst e;exact .inl ⟨⟨xs,q,qa1 _⟩,hd b H p⟩
theorem Z3u{K:X0}{a:V0}{E:TT}{Q:VK}{H:Hp}{D:V0}{ys:List V}{q:St}(G:Option V)(rest:St)(p:V->Bool)(N:q=G::rest)(I:H D=none)(hz:ys.length<=sizeLine)(ha:∀n,Same H n->SqL K n a ys)(O:∀y∈ys,∀n (J:Bool->Hp->Prop),Same H n->(∀j,Same n j->J (p y) j)->E (some y::rest) n J)(P:∀h,Same H h->h D=some (.lst (ys.filter p))->Q (.ref D) h):Z4k (Itl K a) (Z2D 0) E (Z4f 0) D Q q (upd H D (.lst [])):=by
 refine⟨λ i m r h=>m=ys.length-i/\i<=ys.length/\(∃v,r=v::rest)/\Same H h/\h D=some (.lst ((ys.take i).filter p)),⟨ys.length,by simp,qa6 _,⟨G,N⟩,Z0n I _,Z0b⟩,?_⟩;rintro i m r h ⟨rfl,U,⟨v,rfl⟩,u,A⟩;have B:=ha h u;by_cases g:i<ys.length
 ·refine .inr ⟨⟨ys,ys[i],B,qa8 g⟩,λ z j=>(∃v,z=v::rest)/\Same H j/\j D=some (.lst ((ys.take (i+1)).filter p)),λ z j ⟨a,b,c⟩=>⟨ys.length-(i+1),qR,rfl,g,a,b,c⟩,λ x j R=>?_⟩;obtain⟨S,T⟩:=R;subst S;have ex:=T ys B;rw[qa8 g]at ex;cases ex;unfold Z2D;rw[qi6];refine O _ (qh0 g) j _ u λ X C=>?_;have L:=C _ _ A;rw[qf1 g,qg7];cases e:p ys[i]with
  |true=>
   rw[if_pos rfl];refine⟨_,L,?_,⟨_,rfl⟩,λ b o M=>?_,?_⟩
   ·have:=qe4 p (ys.take i);rw[qb3]at this;omega
   ·rw[Z0e (Z0g M I)];exact C _ _ (u _ _ M)
   ·rw[Z0b,qe6,e];rfl
  |false=>
   rw[if_neg qQ];refine⟨⟨_,rfl⟩,u.trans C,?_⟩;rw[L,qe6,e];simp
 ·have e:i=ys.length:=by omega
  subst e;rw[qh9]at A;exact .inl ⟨⟨ys,B,qa1 _⟩,P h u A⟩
open WK
def Z2d(p:Nat->Bool)(i:Nat):List Nat:=(qd2 i).filter p
theorem Z3I(p:Nat->Bool)(i:Nat):Z2d p (i+1)=Z2d p i++(if p i=true then[i]else[]):=by
 unfold Z2d;rw[List.range_succ,qg7];congr 1;rw[qe6];rfl
theorem Z7u(p:Nat->Bool)(i:Nat):(Z2d p i).length<=i:=by
 have:=qe4 p (qd2 i);rw[qg8]at this;exact this
theorem Z3x{J:It}{g:TG}{Z:TT}{te:TE}{Q:VK}{H:Hp}{D:V0}{n:Nat}{N:St}(O:St->Prop)(S:Nat->St->Prop)(p:Nat->Bool)(R:Nat->V->Hp->Prop)(mono:∀j v h q,R j v h->Z5Y h q->R j v q)(e0:O N)(hD:H D=none)(hz:n<=sizeLine)(j1:∀i h,Same H h->i<n->J.go i h)(j3:∀h,Same H h->J.stop n h)(hg:∀i x C h q (I:St->Hp->Prop),i<n->Same H h->J.yld i h x q->O C->(∀u T,S i u->Same h T->I u T)->g x C q I)(y:∀i C,S i C->O C)(hc:∀i C,i<n->S i C->∀h (I:Bool->Hp->Prop),Same H h->(∀q,Same h q->I (p i) q)->Z C h I)(he:∀i C,i<n->p i=true->S i C->∀h (I:VK),Same H h->(∀v q,Same h q->R i v q->I v q)->te C h I)(hQ:∀A B,Same H B->B D=some (.lst A)->A2 (λ v i=>R i v B) A (Z2d p n)->Q (.ref D) B):Z4k J g Z te D Q N (upd H D (.lst [])):=by
 refine⟨λ i m L B=>m=n-i/\i<=n/\O L/\Same H B/\∃A,B D=some (.lst A)/\A2 (λ v i=>R i v B) A (Z2d p i),⟨n,by simp,qa6 _,e0,Z0n hD _,[],Z0b,.nil⟩,?_⟩;rintro i m L B ⟨rfl,hi,hS,K,A,Y,U⟩;by_cases E:i<n
 ·refine .inr ⟨j1 i B K E,λ P q=>O P/\Same H q/\∃A,q D=some (.lst A)/\A2 (λ v i=>R i v q) A (Z2d p (i+1)),λ P q ⟨a,b,c⟩=>⟨n-(i+1),qR,rfl,E,a,b,c⟩,λ x q hx=>?_⟩;refine hg i x L B q _ E K hx hS λ u T X s3=>?_;refine hc i u E X T _ (K.trans s3) λ H4 s4=>?_;have G:=s3.trans s4;cases e:p i with
  |true=>
   rw[if_pos rfl];refine he i u E e X H4 _ (K.trans G) λ v H5 s5 hR=>?_;have M:=G.trans s5;have h5:=M _ _ Y;have sn:Z5Y H5 (upd H5 D (.lst (A++[v]))):=λ b o ho y=>by
    rw[Z0e (λ z=>by rw[z,h5]at y;cases y;exact ho _ rfl)];exact y
   refine⟨A,h5,?_,y i u X,λ b o y=>?_,_,Z0b,?_⟩
   ·have:=Z7u p i;rw[U.len];omega
   ·rw[Z0e (Z0g y hD)];exact M _ _ (K _ _ y)
   ·rw[Z3I,e,if_pos rfl];refine A2.snoc (U.mono λ v j r=>mono j v _ _ (mono j v _ _ r λ b o _ y=>M b o y) sn) (mono _ _ _ _ hR sn)
  |false=>
   rw[if_neg qQ];refine⟨y i u X,K.trans G,A,G _ _ Y,?_⟩;rw[Z3I,e,if_neg qQ,qd0];exact U.mono λ v j r=>mono j v _ _ r λ b o _ y=>G b o y
 ·have e:i=n:=by omega
  subst e;exact .inl ⟨j3 _ K,hQ A B K Y U⟩
theorem J0g{K:X0}{a:V0}{E:TT}{Q:VK}{H:Hp}{D:V0}{ys:List V}{q:St}(G:Option V)(rest:St)(p:V->Bool)(N:q=G::rest)(I:H D=none)(hz:ys.length<=sizeLine)(ha:∀n,Same H n->SqT K n a ys)(O:∀y∈ys,∀n (J:Bool->Hp->Prop),Same H n->(∀j,Same n j->J (p y) j)->E (some y::rest) n J)(P:∀h,Same H h->h D=some (.lst (ys.filter p))->Q (.ref D) h):Z4k (Itt K a) (Z2D 0) E (Z4f 0) D Q q (upd H D (.lst [])):=by
 refine⟨λ i m r h=>m=ys.length-i/\i<=ys.length/\(∃v,r=v::rest)/\Same H h/\h D=some (.lst ((ys.take i).filter p)),⟨ys.length,by simp,qa6 _,⟨G,N⟩,Z0n I _,Z0b⟩,?_⟩;rintro i m r h ⟨rfl,U,⟨v,rfl⟩,u,A⟩;have B:=ha h u;by_cases g:i<ys.length
 ·refine .inr ⟨⟨ys,ys[i],B,qa8 g⟩,λ z j=>(∃v,z=v::rest)/\Same H j/\j D=some (.lst ((ys.take (i+1)).filter p)),λ z j ⟨a,b,c⟩=>⟨ys.length-(i+1),qR,rfl,g,a,b,c⟩,λ x j R=>?_⟩;obtain⟨S,T⟩:=R;subst S;have ex:=T ys B;rw[qa8 g]at ex;cases ex;unfold Z2D;rw[qi6];refine O _ (qh0 g) j _ u λ X C=>?_;have L:=C _ _ A;rw[qf1 g,qg7];cases e:p ys[i]with
  |true=>
   rw[if_pos rfl];refine⟨_,L,?_,⟨_,rfl⟩,λ b o M=>?_,?_⟩
   ·have:=qe4 p (ys.take i);rw[qb3]at this;omega
   ·rw[Z0e (Z0g M I)];exact C _ _ (u _ _ M)
   ·rw[Z0b,qe6,e];rfl
  |false=>
   rw[if_neg qQ];refine⟨⟨_,rfl⟩,u.trans C,?_⟩;rw[L,qe6,e];simp
 ·have e:i=ys.length:=by omega
  subst e;rw[qh9]at A;exact .inl ⟨⟨ys,B,qa1 _⟩,P h u A⟩
end L2
end
section
namespace P23
open PySem
def mkS(l:List Nat):V2:=⟨l.toArray⟩
theorem J5W{a b:List Nat}(h:mkS a=mkS b):a=b:=by
 unfold mkS at h;injection h with h
 simpa using congrArg Array.toList h
def toldS:List V2:=["house","of","has","can","main","let","in","if","then","else","new","self","elder","set","not","yes","no","number","truth"]
def J9m:List (List Nat):=toldS.map λ x=>x.cps.toList
def J2O(r:Nat):List Nat:=(qd2 8).map λ j=>97+(r/64+5*j)%26
def Z4V(r:Nat):List Nat:=(qd2 8).map λ j=>97+(r+3*j)%26
def rawL(w r k:Nat):List Nat:=match w with
 |0=>((J2O r).set (r/8%(1+r%8)) (97+(r+k)%26)).take (1+r%8)
 |1=>(97+(r+k/8)%26)::(J2O r).take (k%8)
 |_=>(Z4V (r+k/8)).drop (k%8)++(Z4V (r+k/8)).take (k%8)
theorem Z5V{r:Nat}:(J2O r).length=8:=by unfold J2O;simp
theorem J3u{r:Nat}:(Z4V r).length=8:=by unfold Z4V;simp
theorem Z8e{w r k k':Nat}(g:k<12)(c:k'<12)(h:rawL w r k=rawL w r k'):k=k':=by
 unfold rawL at h;split at h
 ·have a:r/8%(1+r%8)<1+r%8:=Nat.mod_lt _ qR;have b:r/8%(1+r%8)<8:=by omega
  have e:=congrArg (λ l=>l[r/8%(1+r%8)]?) h;simp only[qk6 a]at e;rw[qh2 (by rw[Z5V];exact b),qh2 (by rw[Z5V];exact b)]at e;have e:=qc5 e;omega
 ·injection h with h1 h2
  have e:=congrArg qd5 h2;rw[qb3,qb3,Z5V]at e;omega
 ·have hd:∀(q s:Nat),s<8->((Z4V (r+q)).drop s++(Z4V (r+q)).take s)[0]?=some (97+(r+q+3*s)%26):=λ q s i=>by
   rw[qi2 (by rw[qg5,J3u];omega),List.getElem?_drop];unfold Z4V;rw[qa4,qm8 qR];rfl
  have e:((Z4V (r+k/8)).drop (k%8)++(Z4V (r+k/8)).take (k%8))[0]?=((Z4V (r+k'/8)).drop (k'%8)++(Z4V (r+k'/8)).take (k'%8))[0]?:=by rw[h]
  rw[hd _ _ (Nat.mod_lt _ qQ),hd _ _ (Nat.mod_lt _ qQ)]at e;have e:=qc5 e;omega
open P15 PW
def ixO:List V2->V2->Option Nat
 |[],_=>none
 |y::a,x=>if y=x then some 0 else(ixO a x).map (·+1)
theorem Z4A:∀{a:List V2}{x:V2},x∉a->ixO a x=none
 |[],_,_=>rfl
 |y::b,x,h=>by
  simp only[qa2,not_or]at h;unfold ixO;rw[if_neg (λ z=>h.1 z.symm),Z4A h.2];rfl
theorem Z2K:∀{a:List V2}{x:V2},x∈a->∃i,ixO a x=some i/\IxAt a x i
 |y::ys,x,h=>by
  by_cases e:y=x
  ·exact⟨0,by unfold ixO;rw[if_pos e],by rw[<-e];rfl,λ j b=>absurd b (qk8 _)⟩
  ·have h:x∈ys:=by
    rcases qa2.mp h with z|z
    ·exact absurd z.symm e
    ·exact z
   obtain⟨i,c,g,m⟩:=Z2K h;refine⟨i+1,by unfold ixO;rw[if_neg e,c];rfl,g,λ j b=>?_⟩;cases j with
   |zero=>exact λ z=>e (qc5 z)
   |succ j=>exact m j qR
theorem Z7N{xs:List V2}{x:V2}{i:Nat}(h:ixO xs x=some i):x∈xs/\i<xs.length/\IxAt xs x i:=by
 by_cases m:x∈xs
 ·obtain⟨j,a,b⟩:=Z2K m;rw[h]at a;cases a;exact⟨m,(qa7.mp b.1).1,b⟩
 ·rw[Z4A m]at h;cases h
inductive FO(G:Pg)(w:V2):List V2->Option (V2×Nat×Wd)->Prop
 |nil:FO G w [] none
 |here{h:V2}{X:Hs}{es:List V2}{i:Nat}{d:Wd}:Look G h X->ixO (X.words.map Wd.name) w=some i->X.words[i]?=some d->FO G w (h::es) (some (h,i,d))
 |there{h:V2}{X:Hs}{es:List V2}{r:Option (V2×Nat×Wd)}:Look G h X->ixO (X.words.map Wd.name) w=none->FO G w es r->FO G w (h::es) r
theorem FO.ex{G:Pg}{w:V2}:∀{ls:List V2},(∀x∈ls,∃X,Look G x X)->∃r,FO G w ls r
 |[],_=>⟨none,.nil⟩
 |x::ls,h=>by
  obtain⟨X,a⟩:=h x qa9;obtain⟨r,c⟩:=FO.ex (ls:=ls) λ y g=>h y (qb1 _ g);cases e:ixO (X.words.map Wd.name) w with
  |none=>exact⟨r,.there a e c⟩
  |some i=>
   have b:=(Z7N e).2.1;rw[qa0]at b;exact⟨_,.here a e (qa8 b)⟩
theorem FO.at{G:Pg}{wd h:V2}{ls:List V2}{i:Nat}{d:Wd}(f:FO G wd ls (some (h,i,d))):∃X,Look G h X/\X.words[i]?=some d:=by
 generalize e:some (h,i,d)=r at f;induction f with
 |nil=>cases e
 |here a b c=>cases e;exact⟨_,a,c⟩
 |there _ _ _ g=>exact g e
structure Rw where
 name:V2
 elder:Option V2
 fields:List (V2×V2)
 heads:List (V2×List (V2×V2)×V2)
def Y0a(r:Rw):Rw:={r with elder:=none}
end P23
end
section
namespace P52
open PySem P15 PW P23
structure Hr where
 name:V2
 elder:Option V2
 words:List V2
def wd7(w:V2):Wd:=⟨w,[],"number",.mk .number (.int 7) []⟩
def hs7(r:Hr):Hs:=⟨r.name,r.elder,[],r.words.map wd7⟩
def mn7:Wd:=⟨"main",[],"number",.mk .number (.int 1) []⟩
def pg7(rs:List Hr):Pg:=⟨rs.map hs7,mn7⟩
def WOk(x:V2):Prop:=PyData.strOk x=true/\x.cps.size<=10
structure HrOk(rs:List Hr):Prop where
 nd:(rs.map Hr.name).Nodup
 le:rs.length<=12
 up:∃rk:V2->Nat,∀r∈rs,∀e,r.elder=some e->rk r.name<12/\∃r'∈rs,r'.name=e/\rk e<rk r.name
 wl:∀r∈rs,r.words.length<=5
 so:∀r∈rs,∀w∈r.words,WOk w
def Z7G(m ws:List V2):List V2:=m++ws.filter λ w=>decide (w∉m)
def Z3M(m:List V2):List (List V2)->List V2
 |[]=>m
 |a::r=>Z3M (Z7G m a) r
theorem Z7h(m a:List V2):(Z7G m a).length<=m.length+a.length:=by
 unfold Z7G;rw[qa5];have:=qe4 (λ w=>decide (w∉m)) a;omega
theorem Z5G(k:Nat):∀(l:List (List V2))(m:List V2),(∀a∈l,a.length<=k)->(Z3M m l).length<=m.length+k*l.length
 |[],m,_=>by simp[Z3M]
 |a::r,m,h=>by
  have c:=Z5G k r (Z7G m a) λ x b=>h x (qb1 _ b);have e:=Z7h m a;have g:=h a qa9;show(Z3M (Z7G m a) r).length<=_;rw[qc3,Nat.mul_add,Nat.mul_one];omega
theorem Z4X:∀(l:List (List V2))(m a:List V2),Z3M m (l++[a])=Z7G (Z3M m l) a
 |[],m,a=>rfl
 |x::r,m,a=>Z4X r (Z7G m x) a
def wn(G:Pg):List V2:=Z3M [] (G.houses.map λ X=>X.words.map Wd.name)
def met(rs:List Hr):List V2:=Z3M [] (rs.map Hr.words)
def Z0M:List Hs->V2->Nat
 |[],_=>0
 |X::r,h=>if X.name=h then 0 else X.words.length+Z0M r h
def bk(G:Pg):Option (V2×Nat×Wd)->Option Nat
 |none=>none
 |some (h,i,_)=>some (Z0M G.houses h+i)
end P52
namespace P52
open PySem P15 PW P23
theorem Z4n(k:Nat):∀(b:List Hs)(h:V2),(∀X∈b,X.words.length<=k)->Z0M b h<=k*b.length
 |[],_,_=>qa6 _
 |X::b,h,a=>by
  have e:=Z4n k b h λ Y c=>a Y (qb1 _ c);have g:=a X qa9;unfold Z0M;rw[qc3,Nat.mul_add,Nat.mul_one];split<;>omega
theorem J7H{a:List Hr}(ok:HrOk a){w:V2}{ls:List V2}{R:Option (V2×Nat×Wd)}(f:FO (pg7 a) w ls R){m:Nat}(e:bk (pg7 a) R=some m):m<=100:=by
 cases R with
 |none=>cases e
 |some t=>
  obtain⟨h,i,d⟩:=t;obtain⟨X,c,hd⟩:=f.at;have b:∀X∈(pg7 a).houses,X.words.length<=5:=λ X g=>by
   obtain⟨r,j,rfl⟩:=qb4.mp g;show(r.words.map wd7).length<=5;rw[qa0];exact ok.wl r j
  have n:=Z4n 5 (pg7 a).houses h b;have o:=(qa7.mp hd).1;have p:=b X c.1;have q:(pg7 a).houses.length<=12:=by
   show(a.map hs7).length<=12;rw[qa0];exact ok.le
  have e:Z0M (pg7 a).houses h+i=m:=qc5 e;omega
end P52
end
section
namespace L2
open PySem
theorem Z9Y{prog:Program}{w:M2}{c:Type}[DecidableEq c]{knd:HeapKind prog w c}{d:V0}(hd:(d==sysModules)=false):MeetsIn prog w (Builtin.«dict.__len__» ⟨[.ref d],[]⟩) (λ _ R s=>∃b,s.heap.DictOfH knd d b/\R (.ok (.ret (.int b.length s.toks))) {s with toks:=s.toks+1}):=
 .of_wp λ A R s ⟨b,e,h⟩=>by
  obtain⟨o,j,m,g,n,a,i,_⟩:=e;show wpAny _ _ (dictSize d>>=_) _ _ s;unfold dictSize;refine wpAny_bind (wpAny_bind (wpAny_dictEntries g a (wpAny_pure ?_)));show wpAny _ _ (Builtin.Dict.pendingCount d>>=_) _ _ s;refine wpAny_bind (wpAny_pendingCount_other hd ?_);refine wpAny_ret_mkInt ?_;rw[Nat.add_zero,size_of_entries i];exact h
theorem J1B{prog:Program}{w:M2}{a:Type}[DecidableEq a]{knd:HeapKind prog w a}{A:V4}{E:V1->M1->Prop}{s:M1}{d:V0}{xs:List (a×V0×V1)}{Q:V1->M1->Prop}(hd:(d==sysModules)=false)(b:s.heap.DictOfH knd d xs)(c:(xs.length:Int)<2^63)(h:Q (.int xs.length (s.toks+1)) {s with toks:=s.toks+1+1}):wpAny (model prog w) A (call (.builtin "len") [.ref d]) Q E s:=by
 refine Calls.call_function_entry kind_len plain_len entry_len (args_len1 _) ?_;unfold Builtin.«len»;refine wpAny_bind (m:=oneArg "len" _) (wpAny_pure ?_);refine wpAny_bind (m:=callSpecial? (.ref d) (Str.ofString "__len__")) (wpAny_callSpecial?_slot (name:=Str.ofString "__len__") b.typeIs PySem.F.slot_dict_len (call_meetsIn PySem.F.slot_dict_len b.typeIs PySem.F.entry_dict_len (PySem.F.args_dict_len_1 _) (Z9Y (knd:=knd) hd) ⟨xs,b,?_⟩));show wpAny _ _ _ _ _ {s with toks:=s.toks+1};refine wpAny_bind (wpAny_holding (wpAny_pure ?_));refine wpAny_bind (wpAny_letGo ?_);show wpAny _ _ (if((xs.length:Nat):Int)<0 then _ else _) _ _ _;rw[if_neg qR];show wpAny _ _ (if((xs.length:Nat):Int)>=2^63 then _ else _) _ _ _;rw[if_neg qR];exact(wpAny_bind (wpAny_mkInt (wpAny_pure ⟨_,rfl,h⟩)))
def J5Q:List V->Hp->VK->Prop:=λ b H Q=>∃d a,b=[V.ref d]/\Rd H d (.dT a)/\Q (.int (a.length:Int)) H
theorem J8w{xs:List V}{H:Hp}{Q:VK}:J5Q xs H Q=∃d a,xs=[V.ref d]/\Rd H d (.dT a)/\Q (.int (a.length:Int)) H:=rfl
theorem J0V{X:Cx}:Z3p X (.builtin "len") J5Q:=by
 intro c s j H m n Q I r h;obtain⟨d,b,rfl,hd,q⟩:=h;obtain⟨u,rfl,e⟩:=Z4x r;cases e;obtain⟨z,g,o,a,i⟩:=J2d I.hok hd;refine J1B g i (by rw[<-a.length];rw[sizeLine_eq]at z;omega) ?_;rw[<-a.length];exact⟨.int b.length,H,I.tok _,⟨_,rfl⟩,q⟩
end L2
end
section
namespace P70
open PySem L2
theorem rising_one:∀{a b:List Int},a.Pairwise (·<=·)->b.Pairwise (·<=·)->a.Nodup->b.Nodup->(∀n,n∈a↔n∈b)->a=b
 |[],[],_,_,_,_,_=>rfl
 |[],y::b,_,_,_,_,h=>by have:=(h y).mpr qa9;cases this
 |x::a,[],_,_,_,_,h=>by have:=(h x).mp qa9;cases this
 |x::a,y::b,c,g,i,j,h=>by
  rw[List.pairwise_cons]at c g;rw[qc4]at i j;have e:x=y:=by
   rcases qa2.mp ((h x).mp qa9)with z|z
   ·exact z
   rcases qa2.mp ((h y).mpr qa9)with m|m
   ·exact m.symm
   ·exact Int.le_antisymm (c.1 y m) (g.1 x z)
  subst e;rw[rising_one c.2 g.2 i.2 j.2 λ n=>⟨λ z=>?_,λ z=>?_⟩]
  ·rcases qa2.mp ((h n).mp (qb1 _ z))with e|e
   ·rw[e]at z;exact absurd z i.1
   ·exact e
  ·rcases qa2.mp ((h n).mpr (qb1 _ z))with e|e
   ·rw[e]at z;exact absurd z j.1
   ·exact e
def addI(ns:List Int)(n:Int):List Int:=if n∈ns then ns else ns++[n]
theorem Z8t{ns:List Int}{n:Int}(h:ns.Nodup):(addI ns n).Nodup:=by
 unfold addI;split
 ·exact h
 ·rename_i z;rw[qe3];exact⟨h,qk1 _ _,λ a ha b c e=>by rw[qa3.mp c]at e;rw[e]at ha;exact z ha⟩
theorem Z6n{ns:List Int}{n m:Int}:m∈addI ns n↔m∈ns\/m=n:=by
 unfold addI;split
 ·exact⟨.inl,λ h=>h.elim id λ e=>by rw[e];assumption⟩
 ·rw[qb5,qa3]
theorem Z6q{ns:List Int}{n:Int}:(addI ns n).length<=ns.length+1:=by
 unfold addI;split
 ·omega
 ·rw[qa5];exact qa1 _
theorem putI{kvs:List (Key×V)}{ns:List Int}{n:Int}{v:V}(h:kvs.map Prod.fst=ns.map Sum.inl):(putK kvs (.inl n) v).map Prod.fst=(addI ns n).map Sum.inl:=by
 have e:(kvs.any λ a=>decide (a.1=.inl n))=decide (n∈ns):=by
  have:(kvs.any λ a=>decide (a.1=.inl n))=(kvs.map Prod.fst).any λ k=>decide (k=.inl n):=by rw[List.any_map];rfl
  rw[this,h];clear this h;induction ns with
  |nil=>rfl
  |cons m ns b=>
   rw[qb8,qh7,b];by_cases z:m=n
   ·subst z;simp
   ·have c:¬(Sum.inl m:Key)=.inl n:=λ e=>z (Sum.inl.inj e);rw[decide_eq_false c,Bool.false_or];exact decide_eq_decide.mpr ⟨λ q=>qb1 _ q,λ q=>(qa2.mp q).elim (λ e=>absurd e.symm z) id⟩
 unfold putK addI;rw[e];by_cases z:n∈ns
 ·rw[if_pos (decide_eq_true z),if_pos z,<-h,qd9];refine List.map_congr_left λ a _=>?_;show(if a.1=.inl n then(a.1,v)else a).1=a.1;split<;>rfl
 ·rw[if_neg (by rw[decide_eq_false z];exact Bool.noConfusion),if_neg z,qc2,qc2,h];rfl
end P70
end
section
namespace K10
abbrev Tx:=List Nat
abbrev Res:=Except Nat (List Tx)
def pre(ws:List Tx):Res->Res
 | .ok r=>.ok (ws++r)
 | .error k=>.error k
open PySem
abbrev cds(x:V2):Tx:=x.cps.toList
theorem J5C(x:V2):(cds x).length=x.length:=by simp[cds,Str.length]
theorem Z7p(x:V2){b:Nat}(c:b<=x.length):cds (Txt.slice x none (some (b:Int)))=(cds x).take b:=by
 have h:=StrLaws.sliceText_to (x:=x) (j:=(b:Int)) ⟨qR,by rw[show x.cps.toList.length=x.length from J5C x];omega⟩;have a:Txt.slice x none (some (b:Int))=StrLaws.sliceText x none (some (b:Int)):=rfl;rw[a,h];simp[cds]
theorem Z5o:∀(ps:List V2)(a:Array Nat),(ps.foldl (λ a p=>a++Str.empty.cps++p.cps) a).toList=a.toList++(ps.map cds).flatten
 |[],a=>by simp
 |p::r,a=>by
  rw[List.foldl_cons,Z5o r,qb8,qg6];simp[cds,Str.empty]
theorem Z9B(ys:List V2):cds (Txt.join "" ys)=(ys.map cds).flatten:=by
 show((ys.drop 1).foldl (λ a p=>a++Str.empty.cps++p.cps) (ys.headD Str.empty).cps).toList=_;rw[Z5o];cases ys with
 |nil=>rfl
 |cons y r=>simp[cds]
end K10
end
section
namespace P70
open PySem P23
def rowL(s:Int):List Nat:=(qd2 8).map λ(j:Nat)=>97+((s/7+5*(j:Int))%26).toNat
def sizeN(s:Int):Nat:=1+(s/4%8).toNat
def atN(s:Int):Nat:=if s%4=0 then(s/32%(sizeN s:Int)).toNat else if s%4=2 then sizeN s-1 else 0
def rawN(s:Int)(k:Nat):List Nat:=if s%4=3 then(rowL s).take (1+k%6)++(if k/6=0 then[]else[49])else((rowL s).set (atN s) (97+((s/11+(k:Int))%26).toNat)).take (sizeN s)
def nmN(s:Int)(k:Nat):List Nat:=if mkS (rawN s k)∈toldS then rawN s k++[48]else rawN s k
def nmS(s:Int)(k:Nat):V2:=mkS (nmN s k)
theorem Z1x{s:Int}:(rowL s).length=8:=by unfold rowL;simp
theorem Z5T{s:Int}:1<=sizeN s/\sizeN s<=8:=by unfold sizeN;omega
theorem J5k{s:Int}:atN s<sizeN s:=by
 have h:=Z5T (s:=s);unfold atN;split
 ·have a:=qe7 (s/32) (show(sizeN s:Int)≠0 by omega);have b:=qf6 (s/32) (show(0:Int)<(sizeN s:Int)by omega);omega
 ·split<;>omega
theorem J1z{s:Int}:∀c∈rowL s,97<=c:=λ c a=>by
 obtain⟨j,_,rfl⟩:=qb4.mp a;omega
theorem J7R{s:Int}{k:Nat}:∀c∈rawN s k,49<=c:=by
 intro c a;unfold rawN at a;split at a
 ·rcases qb5.mp a with h|h
  ·have:=J1z c (qi9 h);omega
  ·split at h
   ·cases h
   ·cases qa3.mp h;omega
 ·rcases ql1 (qi9 a)with h|h
  ·have:=J1z c h;omega
  ·omega
theorem Z7Y{s:Int}{k:Nat}:(rawN s k).length<=8:=by
 unfold rawN;split
 ·rw[qa5,qb3,Z1x];split
  ·show _+0<=_;omega
  ·show _+1<=_;omega
 ·rw[qb3,qj3,Z1x];omega
theorem J7O{s:Int}{k:Nat}:(nmN s k).length<=9:=by
 have:=Z7Y (s:=s) (k:=k);unfold nmN;split
 ·rw[qa5];show _+1<=_;omega
 ·omega
theorem Z8e{s:Int}{k k':Nat}(m:k<12)(j:k'<12)(h:rawN s k=rawN s k'):k=k':=by
 unfold rawN at h;split at h
 ·have one:∀{a b:Nat},(rowL s).take (1+a%6)++[]=(rowL s).take (1+b%6)++[49]->False:=λ{a b} e=>by
   have i:49∈(rowL s).take (1+a%6)++[]:=by rw[e];simp
   rw[qd0]at i;have:=J1z _ (qi9 i);omega
  have c:=congrArg qd5 h;rw[qa5,qa5,qb3,qb3,Z1x]at c;by_cases z:k/6=0
  ·rw[if_pos z]at h c;by_cases g:k'/6=0
   ·rw[if_pos g]at c;have c:min (1+k%6) 8+0=min (1+k'%6) 8+0:=c;omega
   ·rw[if_neg g]at h;exact(one h).elim
  ·rw[if_neg z]at h c;by_cases g:k'/6=0
   ·rw[if_pos g]at h;exact(one h.symm).elim
   ·rw[if_neg g]at c;have c:min (1+k%6) 8+1=min (1+k'%6) 8+1:=c;omega
 ·have n:=Z5T (s:=s);have ha:=J5k (s:=s);have e:=congrArg (λ l=>l[atN s]?) h;simp only[qk6 ha]at e;rw[qh2 (by rw[Z1x];omega),qh2 (by rw[Z1x];omega)]at e;have e:=qc5 e;omega
theorem J7N{s:Int}{k k':Nat}(i:k<12)(c:k'<12)(h:nmS s k=nmS s k'):k=k':=by
 have h:=J5W h;unfold nmN at h;have g:∀{a b:Nat},rawN s a++[48]=rawN s b->False:=λ{a b} e=>by
  have j:48∈rawN s b:=by rw[<-e];simp
  have:=J7R _ j;omega
 split at h
 ·split at h
  ·exact Z8e i c (List.append_cancel_right h)
  ·exact(g h).elim
 ·split at h
  ·exact(g h.symm).elim
  ·exact Z8e i c h
def nms(s:Int):List V2:=(qd2 12).map (nmS s)
theorem nms_nd{s:Int}:(nms s).Nodup:=by
 unfold nms;rw[List.nodup_iff_pairwise_ne,List.pairwise_map];refine List.Pairwise.imp_of_mem (R:=λ a b=>a≠b) (λ{a b} ha c h e=>h (J7N (qf9.mp ha) (qf9.mp c) e)) ?_;exact List.nodup_range
theorem nms_len{s:Int}:(nms s).length=12:=by unfold nms;rw[qa0,qg8]
structure Ha where
 name:V2
 elder:Option V2
 fields:List (V2×V2)
 heads:List (V2×List V2×V2)
def hns(hs:List Ha):List V2:=hs.map Ha.name
inductive Cn(hs:List Ha):V2->List V2->Prop
 |top{h:Ha}:h∈hs->h.elder=none->Cn hs h.name []
 |up{h:Ha}{e:V2}{es:List V2}:h∈hs->h.elder=some e->Cn hs e es->Cn hs h.name (e::es)
inductive Fl(hs:List Ha):List V2->List (V2×V2)->Prop
 |nil:Fl hs [] []
 |cons{h:Ha}{l:List V2}{fs:List (V2×V2)}:h∈hs->Fl hs l fs->Fl hs (h.name::l) (h.fields++fs)
theorem Fl.app{hs:List Ha}{a b:List V2}{f g:List (V2×V2)}(x:Fl hs a f)(y:Fl hs b g):Fl hs (a++b) (f++g):=by
 induction x with
 |nil=>exact y
 |cons h _ c=>rw[List.cons_append,qe8];exact .cons h c
theorem Fl.inv{hs:List Ha}{y:V2}{l:List V2}{fs:List (V2×V2)}(h:Fl hs (y::l) fs):∃X f2,X∈hs/\X.name=y/\fs=X.fields++f2/\Fl hs l f2:=by
 cases h with
 |cons a b=>exact⟨_,_,a,rfl,rfl,b⟩
theorem Fl.nil_inv{hs:List Ha}{fs:List (V2×V2)}(h:Fl hs [] fs):fs=[]:=by cases h;rfl
def Sc(k:V2):Prop:=k="number"\/k="truth"
instance(k:V2):Decidable (Sc k):=inferInstanceAs (Decidable (_\/_))
def KOk(hs:List Ha)(k:V2):Prop:=Sc k\/k∈hns hs
structure HOk(hs:List Ha)(ch:V2->List V2)(ff:V2->List (V2×V2)):Prop where
 nd:(hns hs).Nodup
 le:hs.length<=12
 ns:∀x∈hns hs,¬Sc x
 cn:∀x∈hns hs,Cn hs x (ch x)/\(ch x).length<=12/\Fl hs (x::ch x).reverse (ff x)/\(ff x).length<=4
 fk:∀x∈hns hs,∀f∈ff x,Sc f.2\/f.2∈hns hs/\∀g∈ff f.2,Sc g.2
 fl:∀h∈hs,h.fields.length<=4
 hd:∀h∈hs,h.heads.length<=12/\∀w∈h.heads,w.2.1.length<=4/\(∀k∈w.2.1,KOk hs k)/\KOk hs w.2.2
theorem Cn.mem{hs:List Ha}{x:V2}{es:List V2}(h:Cn hs x es):x∈hns hs/\∀y∈es,y∈hns hs:=by
 induction h with
 |top m _=>exact⟨qb6 m,λ y a=>by cases a⟩
 |up m _ _ b=>exact⟨qb6 m,λ y a=>(qa2.mp a).elim (λ e=>by rw[e];exact b.1) (b.2 y)⟩
theorem Cn.at{hs:List Ha}{x:V2}{es:List V2}(c:Cn hs x es):∀(i:Nat)(y:V2),(x::es)[i]?=some y->∃h∈hs,h.name=y/\h.elder=es[i]?:=by
 induction c with
 |top m e=>intro i y a;cases i with
  |zero=>cases a;exact⟨_,m,rfl,e⟩
  |succ i=>cases a
 |up m e _ b=>intro i y a;cases i with
  |zero=>cases a;exact⟨_,m,rfl,e⟩
  |succ i=>obtain⟨h,g,j,n⟩:=b i y a;exact⟨h,g,j,n⟩
theorem one_of{hs:List Ha}(c:(hns hs).Nodup){a b:Ha}(ha:a∈hs)(g:b∈hs)(e:a.name=b.name):a=b:=by
 induction hs with
 |nil=>cases ha
 |cons h hs i=>
  have c:=qc4.mp c;rcases qa2.mp ha with z|z<;>rcases qa2.mp g with y|y
  ·rw[z,y]
  ·rw[z]at e;exact absurd (show h.name∈hns hs by rw[e];exact qb6 y) c.1
  ·rw[y]at e;exact absurd (show h.name∈hns hs by rw[<-e];exact qb6 z) c.1
  ·exact i c.2 z y
end P70
end
section
namespace L2
open PySem PySem.Spec PyProof.Rows
section
variable{X:Cx}{pins:List (V0×Obj)}{σ σ0:St}{H H0:Hp}{s s0:M1}
theorem Inv.melt{d:V0}{o:Obj}{kvs g:List (Key×V)}(A:Inv X pins σ0 H0 s0)(B:H0 d=some (.dK g))(I:Inv X pins σ H s)(hd:H d=some (.frz o (.dK kvs))):Inv X pins σ (upd H d (.dK kvs)) s:=by
 have h:∀{b},H b=none->upd H d (.dK kvs) b=none:=λ{b} n=>by rw[Z0e (λ z=>by rw[z,hd]at n;cases n)];exact n
 have i:∀{b u},H b=some u->ObjOk X.prog X.w (upd H d (.dK kvs)) s.heap b u:=λ{b u} e=>(I.hok b u e).stay (λ c v E q=>q) (λ c q=>by rw[Z0e (Z4v q hd (λ z=>by cases z))];exact q) λ c j q=>by rw[Z0e (Z4v q hd (λ z=>by cases z))];exact q
 refine⟨I.ok,I.os,I.bare,⟨I.base.keep,I.base.slot,λ b o e n C=>h (I.base.free b o e n C),I.base.there,λ b j e=>?_,λ b o u e=>?_,λ b ps e=>?_⟩,I.loc,I.cell,h I.free,λ x c e=>h (I.freeC x c e),λ p D=>?_,λ b u e=>?_,I.len⟩
 ·have:=I.base.tups b j e;rw[Z0e (Z4v this hd (λ z=>by cases z))];exact this
 ·have r:=A.base.frzs b o u e;rw[Z0e (λ z=>by rw[z,B]at r;cases r)];exact I.base.frzs b o u e
 ·obtain⟨m,this⟩:=I.base.tbls b ps e;exact⟨m,by rw[Z0e (Z4v this hd (λ z=>by cases z))];exact this⟩
 ·obtain⟨a,b,c⟩:=I.pin p D;exact⟨a,h b,c⟩
 ·by_cases y:b=d
  ·subst y;rw[Z0b]at e;cases e;have:=i hd;exact this.2
  ·rw[Z0e y]at e;exact i e
def J6o(t:TE):TE:=λ σ H Q=>t σ H Q\/∃d a,H d=some (.dK a)/\t σ H λ v b=>∃o,b d=some (.frz o (.dK a))/\Q v (upd b d (.dK a))
def J3F(t:TS):TS:=λ D σ H=>t D σ H\/∃d a,H d=some (.dK a)/\t {D with nx:=λ b c=>∃o,c d=some (.frz o (.dK a))/\D.nx b (upd c d (.dK a))} σ H
theorem PS.melt{st:Stmt}{t:TS}(h:PS X st t):PS X st (J3F t):=by
 intro pins s σ H D I q;rcases q with q|⟨d,c,hd,q⟩
 ·exact h pins s σ H D I q
 ·refine thn (h pins s σ H _ I q) λ f j b=>?_;cases f with
  |next=>
   obtain⟨a,m,e,o,g,i⟩:=b;exact⟨a,_,I.melt hd e g,i⟩
  |_=>exact b
def Z9g(tl:TE):TI:=λ σ H R=>tl σ H λ v b=>∃d a,v=.ref d/\((b d=some (.dK a)/\∀o,R (Itd d o a) (upd b d (.frz o (.dK a))))\/∃o,b d=some (.frz o (.dK a))/\R (Itd d o a) b)
theorem Z2F{C l:Expr}{n:TE}(D:PE X l n):PI X C l (Z9g n):=by
 intro pins s σ H R I h;refine thn (D pins s σ H _ I h) λ v a i=>?_;obtain⟨x,K,j,E,d,kvs,e,i⟩:=i;subst e;cases E;obtain⟨o,H2,c,G,q⟩:∃o H2,Inv X pins σ H2 a/\H2 d=some (.frz o (.dK kvs))/\R (Itd d o kvs) H2:=by
  rcases i with⟨hd,q⟩|⟨o,hd,q⟩
  ·obtain⟨z,p,u,y,o,A,ep,g,r⟩:=J5P j.hok hd;exact⟨o,_,j.freeze hd g,Z0b,q o⟩
  ·exact⟨o,_,j,hd,q⟩
 obtain⟨B,z,p,u,y,L,A,ep,g,r⟩:=(show ObjOk X.prog X.w H2 a.heap d (.frz o (.dK kvs))from c.hok d _ G);rw[B]at g;cases g;refine wpAny_pyIter_dict (kvs:=u) (ep:=ep) p ⟨o,A,B,r⟩ ?_;have m:H2 a.heap.objs.size=none:=c.hok.fresh (qa1 _);refine⟨a.heap.objs.size,[a.heap.objs.size],_,Itd d o kvs,H2,rfl,c.kept (t':=a.toks) (λ b o e=>Heap.get?_push_of_some _ e),J2l d _ r.2.1,⟨_,Heap.get?_push_size _ rfl,rfl,by rw[y.length];rfl⟩,λ b J=>?_,q⟩;cases qa3.mp J;exact c.fpOk (qa1 _) m
structure Fz(d:V0)(o:Obj)(kvs:List (Key×V))(H H2:Hp):Prop where
 f:H2 d=some (.frz o (.dK kvs))
 r:∀b,b≠d->H2 b=H b
structure Mz(d:V0)(H H3 H4:Hp):Prop where
 e:H4 d=H d
 r:∀b,b≠d->H4 b=H3 b
theorem Mz.same{d:V0}{o:Obj}{kvs:List (Key×V)}{H H2 c H4:Hp}(f:Fz d o kvs H H2)(s:Same H2 c)(m:Mz d H c H4):Same H H4:=λ b u e=>by
 by_cases a:b=d
 ·subst a;rw[m.e];exact e
 ·rw[m.r b a];exact s _ _ ((f.r b a).trans e)
theorem J3c{i:Nat}{t:TE}{D:Ends}{σ:St}{H:Hp}(h:J6o t σ H λ v a=>D.nx (σ.set i (some v)) a):J3F (J2L i t) D σ H:=h
theorem forD{i:Nat}{g:TG}{m:TS}{D:Ends}{σ:St}{H:Hp}{d:V0}{kvs:List (Key×V)}(e:σ[i]?=some (some (.ref d)))(hd:Rd H d (.dK kvs))(h:∀o p (N:St->Hp->Prop),Fz d o kvs H p->(∀a c,c d=some (.frz o (.dK kvs))->(∀r,Mz d H c r->D.nx a r)->N a c)->Z7E (Itd d o kvs) g m {D with nx:=N} σ p):J3F (tFor (Z9g (Z4f i)) g m) D σ H:=by
 rcases hd with hd|⟨o,hd⟩
 ·refine .inr ⟨d,kvs,hd,?_⟩;show opt2 σ[i]? _;rw[e];exact⟨d,kvs,rfl,.inl ⟨hd,λ o=>h o _ _ ⟨Z0b,λ b n=>Z0e n⟩ λ a c j q=>⟨o,j,q _ ⟨by rw[Z0b,hd],λ b n=>Z0e n⟩⟩⟩⟩
 ·refine .inl ?_;show opt2 σ[i]? _;rw[e];exact⟨d,kvs,rfl,.inr ⟨o,hd,h o _ D.nx ⟨hd,λ b _=>rfl⟩ λ a c j q=>q c ⟨j.trans hd.symm,λ b _=>rfl⟩⟩⟩
theorem J8W{i:Nat}{g:TG}{m:TT}{r:TE}{nl:List (Option Nat)}{Q:VK}{σ:St}{H:Hp}{d:V0}{kvs:List (Key×V)}(e:σ[i]?=some (some (.ref d)))(hd:Rd H d (.dK kvs))(h:∀o c (u:VK),Fz d o kvs H c->(∀v a,a d=some (.frz o (.dK kvs))->(∀x,Mz d H a x->Q v x)->u v a)->∀p,c p=none->Z4k (Itd d o kvs) g m r p u (stOf nl σ) (upd c p (.lst []))):J6o (Z7j (Z9g (Z4f i)) nl g m r) σ H Q:=by
 rcases hd with hd|⟨o,hd⟩
 ·refine .inr ⟨d,kvs,hd,?_⟩;show opt2 σ[i]? _;rw[e];exact⟨d,kvs,rfl,.inl ⟨hd,λ o=>h o _ _ ⟨Z0b,λ b n=>Z0e n⟩ λ v a j q=>⟨o,j,q _ ⟨by rw[Z0b,hd],λ b n=>Z0e n⟩⟩⟩⟩
 ·refine .inl ?_;show opt2 σ[i]? _;rw[e];exact⟨d,kvs,rfl,.inr ⟨o,hd,h o _ Q ⟨hd,λ b _=>rfl⟩ λ v a j q=>q a ⟨j.trans hd.symm,λ b _=>rfl⟩⟩⟩
theorem Z3s{i:Nat}{O:TT}{nl:List (Option Nat)}{Q:VK}{σ:St}{H:Hp}{d:V0}{kvs:List (Key×V)}(P:Option V)(rest:St)(p:V->Bool)(e:σ[i]?=some (some (.ref d)))(hd:Rd H d (.dK kvs))(e0:stOf nl σ=P::rest)(hz:kvs.length<=sizeLine)(R:∀y∈kvs.map (λ r=>kV r.1),∀o q I (S:Bool->Hp->Prop),Fz d o kvs H q->Same q I->(∀J,Same I J->S (p y) J)->O (some y::rest) I S)(T:∀D h,H D=none->Same H h->h D=some (.lst ((kvs.map λ r=>kV r.1).filter p))->Q (.ref D) h):J6o (Z7j (Z9g (Z4f i)) nl (Z2D 0) O (Z4f 0)) σ H Q:=by
 refine J8W e hd λ o q Q2 u K D A=>?_;rw[e0];generalize hys:(kvs.map λ r=>kV r.1)=g at R T;have ly:g.length=kvs.length:=by rw[<-hys,qa0]
 have B:D≠d:=λ z=>by rw[z,u.f]at A;cases A
 refine⟨λ i m C h=>m=g.length-i/\i<=g.length/\(∃v,C=v::rest)/\Same q h/\h D=some (.lst ((g.take i).filter p)),⟨g.length,by simp,qa6 _,⟨P,rfl⟩,Z0n A _,Z0b⟩,?_⟩;rintro i m C h ⟨rfl,hi,⟨v,rfl⟩,E,L⟩;have M:=E _ _ u.f;by_cases j:i<g.length
 ·refine .inr ⟨⟨M,qR⟩,λ G n=>(∃v,G=v::rest)/\Same q n/\n D=some (.lst ((g.take (i+1)).filter p)),λ G n ⟨a,b,c⟩=>⟨g.length-(i+1),qR,rfl,j,a,b,c⟩,λ x J hx=>?_⟩;obtain⟨e1,k,v',ek,ex⟩:=hx;subst e1;have ey:g[i]=x:=by
   have:g[i]?=some x:=by rw[<-hys,qa4,ek,ex];rfl
   exact(qa7.mp this).2
  unfold Z2D;rw[qi6,<-ey];refine R _ (qh0 j) o q _ _ u E λ U N=>?_;have Y:=N _ _ L;rw[qf1 j,qg7];cases Z:p g[i]with
  |true=>
   rw[if_pos rfl];refine⟨_,Y,?_,⟨_,rfl⟩,λ b o hb=>?_,?_⟩
   ·have:=qe4 p (g.take i);rw[qb3]at this;omega
   ·rw[Z0e (Z0g hb A)];exact N _ _ (E _ _ hb)
   ·rw[Z0b,qe6,Z];rfl
  |false=>
   rw[if_neg qQ];refine⟨⟨_,rfl⟩,E.trans N,?_⟩;rw[Y,qe6,Z];simp
 ·have ei:i=g.length:=by omega
  subst ei;rw[qh9]at L;refine .inl ⟨⟨M,qR⟩,K _ _ M λ U mz=>T D U ?_ (mz.same u E) ((mz.r D B).trans L)⟩;rw[<-u.r D B];exact A
end
end L2
end
section
namespace P70
open PySem P23
def Ev(hs hs':List Ha):Prop:=hs.map (λ h=>(h.name,h.elder,h.fields))=hs'.map λ h=>(h.name,h.elder,h.fields)
theorem Ev.mem{hs a:List Ha}(e:Ev hs a){h:Ha}(c:h∈hs):∃b∈a,b.name=h.name/\b.elder=h.elder/\b.fields=h.fields:=by
 have:(h.name,h.elder,h.fields)∈a.map λ h=>(h.name,h.elder,h.fields):=by rw[<-e];exact qb6 c
 obtain⟨b,m,q⟩:=qb4.mp this;injection q with q1 q2
 injection q2 with q2 q3
 exact⟨b,m,q1,q2,q3⟩
theorem Ev.symm{hs a:List Ha}(e:Ev hs a):Ev a hs:=Eq.symm e
theorem Ev.trans{a b c:List Ha}(e:Ev a b)(f:Ev b c):Ev a c:=Eq.trans e f
theorem Ev.names{hs a:List Ha}(e:Ev hs a):hns a=hns hs:=by
 have:=congrArg (List.map Prod.fst) e;rw[qd9,qd9]at this;exact this.symm
theorem Ev.len{hs a:List Ha}(e:Ev hs a):a.length=hs.length:=by
 have:=congrArg qd5 e;rw[qa0,qa0]at this;exact this.symm
theorem Cn.ev{hs a:List Ha}{x:V2}{es:List V2}(h:Cn hs x es)(e:Ev hs a):Cn a x es:=by
 induction h with
 |top m q=>obtain⟨i,b,c,g,_⟩:=e.mem m;rw[<-c];exact .top b (g.trans q)
 |up m q _ j=>obtain⟨i,b,c,g,_⟩:=e.mem m;rw[<-c];exact .up b (g.trans q) j
theorem Fl.ev{hs a:List Ha}{l:List V2}{fs:List (V2×V2)}(h:Fl hs l fs)(e:Ev hs a):Fl a l fs:=by
 induction h with
 |nil=>exact .nil
 |cons m _ b=>obtain⟨j,c,g,_,i⟩:=e.mem m;rw[<-g,<-i];exact .cons c b
def HdOk(hs:List Ha)(w:V2×List V2×V2):Prop:=w.2.1.length<=4/\(∀k∈w.2.1,KOk hs k)/\KOk hs w.2.2
theorem KOk.ev{hs a:List Ha}{k:V2}(h:KOk hs k)(e:Ev hs a):KOk a k:=by
 unfold KOk;rw[e.names];exact h
theorem HOk.ev{hs g:List Ha}{ch:V2->List V2}{j:V2->List (V2×V2)}(x:HOk hs ch j)(e:Ev hs g)(hd:∀h∈g,h.heads.length<=12/\∀w∈h.heads,HdOk hs w):HOk g ch j where
 nd:=by rw[e.names];exact x.nd
 le:=by rw[e.len];exact x.le
 ns:=by rw[e.names];exact x.ns
 cn:=by
  rw[e.names];exact λ y n=>let⟨a,b,c,d⟩:=x.cn y n;⟨a.ev e,b,c.ev e,d⟩
 fk:=by rw[e.names];exact x.fk
 fl:=λ h i=>by obtain⟨o,m,_,_,q⟩:=e.symm.mem i;rw[<-q];exact x.fl o m
 hd:=λ h i=>⟨(hd h i).1,λ w p=>let⟨a,b,c⟩:=(hd h i).2 w p;⟨a,λ k r=>(b k r).ev e,c.ev e⟩⟩
theorem Ev.set{hs:List Ha}{i:Nat}{h:Ha}(a:hs[i]?=some h)(hd:List (V2×List V2×V2)):Ev hs (hs.set i {h with heads:=hd}):=by
 unfold Ev;rw[List.map_set];refine ql2 λ j=>?_;rw[List.getElem?_set];split
 ·rename_i z;subst z;rw[qa4,a,qa0,if_pos (qa7.mp a).1];rfl
 ·rfl
theorem Cn.more{hs:List Ha}{x:V2}{es:List V2}(h:Cn hs x es)(n:List Ha):Cn (hs++n) x es:=by
 induction h with
 |top m q=>exact .top (qe0 _ m) q
 |up m q _ a=>exact .up (qe0 _ m) q a
theorem Fl.more{hs:List Ha}{l:List V2}{fs:List (V2×V2)}(h:Fl hs l fs)(n:List Ha):Fl (hs++n) l fs:=by
 induction h with
 |nil=>exact .nil
 |cons m _ a=>exact .cons (qe0 _ m) a
theorem hns_app(a b:List Ha):hns (a++b)=hns a++hns b:=qc2
def chN(ch:V2->List V2)(n:V2)(e:Option V2)(x:V2):List V2:=if x=n then(match e with|none=>[]|some y=>y::ch y)else ch x
def ffN(ff:V2->List (V2×V2))(n:V2)(e:Option V2)(own:List (V2×V2))(x:V2):List (V2×V2):=if x=n then(match e with|none=>[]|some y=>ff y)++own else ff x
def FkOk(hs:List Ha)(ff:V2->List (V2×V2))(f:V2×V2):Prop:=Sc f.2\/f.2∈hns hs/\∀g∈ff f.2,Sc g.2
theorem HOk.more{hs:List Ha}{ch:V2->List V2}{j:V2->List (V2×V2)}(x:HOk hs ch j){n:V2}{e:Option V2}{own:List (V2×V2)}(E:n∉hns hs)(G:¬Sc n)(C:∀y,e=some y->y∈hns hs)(H:∀y,e=some y->(ch y).length+1<=12)(I:hs.length+1<=12)(D:(match e with|none=>[]|some y=>j y).length+own.length<=4)(ok:∀f∈own,FkOk hs j f):HOk (hs++[⟨n,e,own,[]⟩]) (chN ch n e) (ffN j n e own):=by
 have m:∀y∈hns hs,y≠n:=λ y i z=>E (by rw[<-z];exact i);have mem:∀y∈hns (hs++[⟨n,e,own,[]⟩]),y∈hns hs\/y=n:=λ y i=>by
  rw[hns_app]at i;exact(qb5.mp i).elim .inl λ z=>.inr (qa3.mp z)
 have o:∀y∈hns hs,y∈hns (hs++[⟨n,e,own,[]⟩]):=λ y i=>by rw[hns_app];exact qe0 _ i
 have r:(⟨n,e,own,[]⟩:Ha)∈hs++[⟨n,e,own,[]⟩]:=qc6 _ qa9;have p:∀y∈hns hs,ffN j n e own y=j y:=λ y i=>if_neg (m y i);refine⟨?_,by rw[qa5];exact I,?_,?_,?_,?_,?_⟩
 ·rw[hns_app,qe3];exact⟨x.nd,qk1 _ _,λ a ha b J z=>by rw[qa3.mp J]at z;exact m a ha z⟩
 ·intro y i;rcases mem y i with z|z
  ·exact x.ns y z
  ·rw[z];exact G
 ·intro y i;rcases mem y i with z|z
  ·obtain⟨a,b,c,d⟩:=x.cn y z;rw[show chN ch n e y=ch y from if_neg (m y z),p y z];exact⟨a.more _,b,c.more _,d⟩
  ·subst z;rw[show chN ch y e y=_ from if_pos rfl,show ffN j y e own y=_ from if_pos rfl];cases e with
   |none=>exact⟨.top r rfl,qa6 _,by have:=Fl.cons r (.nil);rw[qd0]at this;exact this,by rw[List.nil_append];omega⟩
   |some v=>
    have K:=C v rfl;obtain⟨a,b,c,d⟩:=x.cn v K;refine⟨.up r rfl (a.more _),H v rfl,?_,by rw[qa5];exact D⟩;rw[qf8];have:=Fl.app (c.more [⟨y,some v,own,[]⟩]) (Fl.cons r .nil);rw[qd0]at this;exact this
 ·intro y i f u;have up:∀{f:V2×V2},FkOk hs j f->Sc f.2\/f.2∈hns (hs++[⟨n,e,own,[]⟩])/\∀g∈ffN j n e own f.2,Sc g.2:=λ{f} h=>h.imp_right λ⟨a,b⟩=>⟨o _ a,by rw[p _ a];exact b⟩;rcases mem y i with z|z
  ·rw[p y z]at u;exact up (x.fk y z f u)
  ·subst z;rw[show ffN j y e own y=_ from if_pos rfl]at u;rcases qb5.mp u with q|q
   ·cases e with
    |none=>cases q
    |some v=>exact up (x.fk v (C v rfl) f q)
   ·exact up (ok f q)
 ·intro h A;rcases qb5.mp A with z|z
  ·exact x.fl h z
  ·rw[qa3.mp z];exact qb9 (Nat.le_add_left _ _) D
 ·intro h A;rcases qb5.mp A with z|z
  ·refine⟨(x.hd h z).1,λ w B=>?_⟩;obtain⟨a,b,c⟩:=(x.hd h z).2 w B;exact⟨a,λ k L=>(b k L).imp_right (o k),c.imp_right (o _)⟩
  ·rw[qa3.mp z];exact⟨qa6 _,λ w B=>by cases B⟩
open P15
def zS:Nat->Nat
 |0=>1
 |L+1=>2+5*zS L
def dr:Nat->Nat
 |0=>1
 |L+1=>3+6*dr L
theorem J6G(L:Nat):1<=zS L:=by cases L<;>simp[zS]<;>omega
theorem J8P(L:Nat):zS L<=zS (L+1):=by show zS L<=2+5*zS L;omega
theorem dr_pos(L:Nat):1<=dr L:=by cases L<;>simp[dr]<;>omega
theorem flat_mk(f:Fm)(l:Lb)(ps:List Tm):(Tm.mk f l ps).flat.length=1+(flatR ps).length:=by
 show(Tm.mk f l ps::flatR ps).length=_;rw[qc3];omega
theorem flatR_cons(t:Tm)(ts:List Tm):(flatR (t::ts)).length=t.flat.length+(flatR ts).length:=by
 show(flatR ts++t.flat).length=_;rw[qa5];omega
theorem Z9x{n:Nat}:∀{ts:List Tm},(∀t∈ts,t.flat.length<=n)->(flatR ts).length<=n*ts.length
 |[],_=>qa6 _
 |t::ts,h=>by
  rw[flatR_cons,qc3,Nat.mul_succ];have:=h t qa9;have:=Z9x (ts:=ts) λ x a=>h x (qb1 _ a);omega
theorem Z5j{n:Nat}:∀{a:List Tm},(∀t∈a,t.depth<=n)->maxD a<=n
 |[],_=>qa6 _
 |t::a,h=>qj8.mpr ⟨h t qa9,Z5j λ x b=>h x (qb1 _ b)⟩
structure TOk(L:Nat)(t:Tm):Prop where
 ok:Ok t
 fl:t.flat.length<=zS L
 dp:t.depth<=2*L+1
theorem TOk.up{L:Nat}{t:Tm}(h:TOk L t):TOk (L+1) t:=⟨h.ok,qb9 h.fl (J8P L),by have:=h.dp;omega⟩
theorem TOk.le{L M:Nat}{t:Tm}(h:TOk L t)(l:L<=M):TOk M t:=by
 induction l with
 |refl=>exact h
 |step _ a=>exact a.up
theorem TOk.leaf{L:Nat}{f:Fm}{l:Lb}(h:okF f l 0):TOk L (.mk f l []):=
 ⟨.mk h (λ p a=>by cases a),by rw[flat_mk];exact J6G L,by show 1+0<=_;omega⟩
theorem TOk.mk'{L:Nat}{f:Fm}{l:Lb}{ps:List Tm}(h:okF f l ps.length)(a:∀p∈ps,TOk L p)(c:ps.length<=5):TOk (L+1) (.mk f l ps):=by
 refine⟨.mk h λ p q=>(a p q).ok,?_,?_⟩
 ·rw[flat_mk];have:=Z9x (n:=zS L) λ t b=>(a t b).fl;have:zS L*ps.length<=zS L*5:=Nat.mul_le_mul_left _ c;show _<=2+5*zS L;omega
 ·show 1+maxD ps<=_;have:=Z5j (n:=2*L+1) λ t b=>(a t b).dp;omega
theorem TOk.set2{L:Nat}{f:V2}{a b c:Tm}(ha:TOk L a)(e:TOk L b)(g:TOk L c):TOk (L+1) (.mk .two (.str ";") [.mk .set (.str f) [a,b],c]):=by
 have h:Ok (.mk .set (.str f) [a,b]):=.mk rfl λ p i=>by
  rcases qa2.mp i with z|z
  ·rw[z];exact ha.ok
  ·rw[qa3.mp z];exact e.ok
 refine⟨.mk rfl λ p i=>?_,?_,?_⟩
 ·rcases qa2.mp i with z|z
  ·rw[z];exact h
  ·rw[qa3.mp z];exact g.ok
 ·rw[flat_mk,flatR_cons,flat_mk,flatR_cons,flatR_cons,flatR_cons];have:=ha.fl;have:=e.fl;have:=g.fl;show 1+(1+(_+(_+0))+(_+0))<=2+5*zS L;omega
 ·show 1+max (1+max a.depth (max b.depth 0)) (max c.depth 0)<=_;have:=ha.dp;have:=e.dp;have:=g.dp;omega
def Rk(hs:List Ha)(ff:V2->List (V2×V2))(k:V2)(L:Nat):Prop:=Sc k\/k∈hns hs/\(1<=L/\(∀g∈ff k,Sc g.2)\/2<=L)
def Lv(hs:List Ha)(ff:V2->List (V2×V2))(k:V2)(d:Int)(L:Nat):Prop:=KOk hs k/\((1<=d/\d+2<=L)\/(d<1/\Rk hs ff k L))
theorem Lv.pred{hs:List Ha}{c:V2->List (V2×V2)}{k e:V2}{d:Int}{L:Nat}(h:Lv hs c k d (L+1))(hd:1<=d)(g:KOk hs e):Lv hs c e (d-1) L:=by
 rcases h.2 with⟨a,b⟩|⟨a,_⟩
 ·refine⟨g,?_⟩;by_cases z:1<=d-1
  ·exact .inl ⟨z,qR⟩
  ·refine .inr ⟨qR,g.imp_right λ m=>⟨m,.inr qR⟩⟩
 ·omega
theorem fields_lv{hs:List Ha}{ch:V2->List V2}{b:V2->List (V2×V2)}(ok:HOk hs ch b){wd h:V2}{d:Int}{L:Nat}(m:Lv hs b wd d (L+1))(o:wd∈hns hs)(j:h∈hns hs)(c:1<=d\/(∀g∈b h,Sc g.2)\/h=wd):∀f∈b h,Lv hs b f.2 (d-1) L:=by
 intro f e;have i:KOk hs f.2:=(ok.fk h j f e).imp_right λ z=>z.1;by_cases hd:1<=d
 ·exact m.pred hd i
 have a:d-1<1:=by omega
 rcases c with c|c|c
 ·exact absurd c hd
 ·exact⟨i,.inr ⟨a,.inl (c f e)⟩⟩
 ·subst c;have n:Rk hs b h (L+1):=by
   rcases m.2 with z|z
   ·exact absurd z.1 hd
   ·exact z.2
  rcases n with z|⟨_,z|z⟩
  ·exact absurd z (ok.ns h j)
  ·exact⟨i,.inr ⟨a,.inl (z.2 f e)⟩⟩
  ·refine⟨i,.inr ⟨a,(ok.fk h j f e).imp_right λ q=>⟨q.1,.inl ⟨qR,q.2⟩⟩⟩⟩
theorem J4g:("number":V2)∈toldS:=by decide+kernel
theorem J4b:("truth":V2)∈toldS:=by decide+kernel
theorem J0G{s:Int}{k:Nat}{x:V2}(a:x∈toldS)(b:∀c∈x.cps.toList,c≠48):nmS s k≠x:=by
 intro h;unfold nmS nmN at h;split at h
 ·have:(48:Nat)∈(mkS (rawN s k++[48])).cps.toList:=by
   unfold mkS;simp
  rw[h]at this;exact b _ this rfl
 ·rename_i z;rw[h]at z;exact z a
theorem nms_sc{s:Int}:∀n∈nms s,¬Sc n:=λ n a h=>by
 obtain⟨k,_,rfl⟩:=qb4.mp a;rcases h with h|h
 ·exact J0G J4g qP h
 ·exact J0G J4b qP h
end P70
end
section
namespace L2
open PySem
theorem Z4W{X:Cx}{K:X0}{a e:Expr}{t:TE}(b:X.K=K)(h:PE X e t):PI X a e (iTup K t):=by
 subst b;exact Z1s h
open PySem.SeqAt TM
inductive Pl:PyData->Prop
 |non:Pl .none
 |bl(b:Bool):Pl (.bool b)
 |int(i:Int):Pl (.int i)
 |str(x:V2):Pl (.str x)
 |tup{ds:List PyData}:(∀d∈ds,Pl d)->Pl (.tuple ds)
theorem Z3F{h:V3}:∀{b:List V1}{e:List PyData}{i:List V0},ReadsAll h b e i->∀(j:Nat)(a:j<b.length),∃d c,e[j]?=some d/\Reads h b[j] d c
 |_,_,_,.nil,j,a=>absurd a (qk8 _)
 |_,_,_,.cons r g,0,_=>⟨_,_,rfl,r⟩
 |_,_,_,.cons r g,j+1,a=>Z3F g j (Nat.lt_of_succ_lt_succ a)
theorem Z6p:∀{a:List PyData}{d:PyData},d∈a->d.depth<=PyData.depthAll a
 |x::b,d,h=>by
  show _<=max x.depth (PyData.depthAll b);rcases qa2.mp h with z|z
  ·rw[z];omega
  ·have:=Z6p z;omega
theorem J4Q{g:List PyData}{A:V4}{s:M1}{l m:V0}{p bs:List V0}(y:Reads s.heap (.ref l) (.tuple g) p)(z:Reads s.heap (.ref m) (.tuple g) bs)(B:A.units<cLine)(C:∀d∈g,∀{a b:V1}{p bs:List V0},Reads s.heap a d p->Reads s.heap b d bs->EqAt A.in1 s a b true):RcAt A s (.ref l) (.ref m) true:=by
 cases y with
 |@tuple _ o i n _ q D E G v=>
  cases z with
  |@tuple _ S c T _ u H I J x=>
   have K:i.size=g.length:=by simpa using ReadsAll.length _ _ _ v
   have L:c.size=g.length:=by simpa using ReadsAll.length _ _ _ x
   have r:=RcAt.tuples (A:=A) (s:=s) (e:=λ _=>true) (l:=l) (b:=m) (items:=i) (items2:=c) ⟨_,D,E,_,G⟩ ⟨_,H,I,_,J⟩ B λ j M N=>by
    obtain⟨d,O,hd,P⟩:=Z3F v j (by simpa using M);obtain⟨U,Q,h,R⟩:=Z3F x j (by simpa using N);rw[hd]at h;cases h;have:=C d (qb0 hd) P R;simpa using this
   have e:((qd2 (min i.size c.size)).all (λ _=>true)&&i.size==c.size)=true:=by
    rw[K,L];simp
   rw[e]at r;exact r
theorem J1b{d:PyData}(h:Pl d):∀{A:V4}{s:M1}{a b:V1}{j bs:List V0},Reads s.heap a d j->Reads s.heap b d bs->A.units+d.depth<cLine->EqAt A s a b true:=by
 induction h with
 |non=>intro A s a b j bs e g _;cases e;cases g;exact EqAt.same _
 |bl c=>
  intro A s a b j bs e g _;cases e;cases g;exact EqAt.same _
 |int i=>
  intro A s a b j bs e g _;cases e;cases g;rename_i t u;have:=EqAt.int_int (A:=A) (s:=s) i t i u;rw[beq_self_eq_true]at this;exact this
 |str x=>
  intro A s a b j bs e g _;cases e;cases g;rename_i t u;have:=EqAt.str_str (A:=A) (s:=s) x t x u;rw[beq_self_eq_true]at this;exact this
 |@tup p hd q=>
  intro A s a b j bs e g o;have o:A.units+(PyData.depthAll p+1)<cLine:=o;obtain⟨l,rfl⟩:∃l,a=.ref l:=by cases e;exact⟨_,rfl⟩
  obtain⟨r,rfl⟩:∃l,b=.ref l:=by cases g;exact⟨_,rfl⟩
  by_cases m:l=r
  ·subst m;exact EqAt.same _
  ·refine EqAt.of_refs m (J4Q e g qR λ d n {a b j bs} v y=>q d n v y ?_);have:=Z6p n;show A.units+1+d.depth<cLine;omega
def rEqP(K:X0):R2:=λ x y H Q=>∃(a:List PyData),RT K H x (.tuple a)/\RT K H y (.tuple a)/\Pl (.tuple a)/\PyData.depth (.tuple a)<=60/\Q (.bl true) H
theorem J8X{K:X0}{x y:V}{H:Hp}{Q:VK}:rEqP K x y H Q=∃(a:List PyData),RT K H x (.tuple a)/\RT K H y (.tuple a)/\Pl (.tuple a)/\PyData.depth (.tuple a)<=60/\Q (.bl true) H:=rfl
theorem J7g{X:Cx}(D:X.A.units+64<cLine):OpR X (compareOp .Eq) (rEqP X.K):=by
 intro g s E H x y v u Q I o p h;obtain⟨i,hd,r,z,j,q⟩:=h;obtain⟨A,m⟩:=RdD.reads I hd.rd o;obtain⟨bs,n⟩:=RdD.reads I r.rd p;have j:PyData.depthAll i+1<=60:=j;obtain⟨l,rfl⟩:∃l,v=.ref l:=by cases m;exact⟨_,rfl⟩
 obtain⟨G,rfl⟩:∃l,u=.ref l:=by cases n;exact⟨_,rfl⟩
 have c:∀d∈i,Pl d:=by cases z with|tup h=>exact h
 refine J4Q m n qR (λ d e {a b A bs} B C=>J1b (c d e) B C ?_) X.prog X.w _ _ ⟨.bl true,H,I,rfl,q⟩;have:=Z6p e;show X.A.units+1+d.depth<cLine;omega
structure PD(n:Nat)(d:PyData):Prop where
 p:Pl d
 d:d.depth<=n
theorem PD.mono{n m:Nat}{d:PyData}(h:PD n d)(l:n<=m):PD m d:=⟨h.p,qb9 h.d l⟩
theorem PD.str{n:Nat}{x:V2}:PD n (.str x):=⟨.str x,qa6 _⟩
theorem Z5a{n:Nat}:∀{a:List PyData},(∀d∈a,d.depth<=n)->PyData.depthAll a<=n
 |[],_=>qa6 _
 |d::a,h=>qj8.mpr ⟨h d qa9,Z5a λ e b=>h e (qb1 _ b)⟩
theorem PD.tup{n:Nat}{a:List PyData}(h:∀d∈a,PD n d):PD (n+1) (.tuple a):=
 ⟨.tup λ d hd=>(h d hd).p,qg1 (Z5a λ d hd=>(h d hd).d)⟩
open PySem.Spec PyProof.Rows
structure Lay(k:Nat)(d:PyData):Prop where
 lay:d.canLay0=true
 dep:d.depth<=k
structure LayL(k:Nat)(ds:List PyData):Prop where
 lay:PyData.canLayAll0 ds=true
 dep:PyData.depthAll ds<=k
theorem Lay.int{k:Nat}{i:Int}:Lay k (.int i):=⟨rfl,qa6 _⟩
theorem LayL.nil{k:Nat}:LayL k []:=⟨rfl,qa6 _⟩
theorem LayL.cons{k:Nat}{d:PyData}{a:List PyData}(h:Lay k d)(hs:LayL k a):LayL k (d::a):=⟨by rw[PyData.canLayAll0,h.lay,hs.lay];rfl,by rw[PyData.depthAll];exact qj8.mpr ⟨h.dep,hs.dep⟩⟩
theorem Lay.lst{k:Nat}{a:List PyData}(h:LayL k a):Lay (k+1) (.list a):=⟨by rw[PyData.canLay0];exact h.lay,by rw[PyData.depth];exact qg1 h.dep⟩
theorem Lay.shaped{k:Nat}{d:PyData}(h:Lay k d)(a:k<=64):PySem.SeqAt.shaped d=true:=ql3.mpr ⟨h.lay,decide_eq_true (qb9 h.dep a)⟩
theorem Lay.eqv{k:Nat}{d:PyData}(h:Lay k d):PyData.eqv d d=true:=eqv_refl d h.lay
theorem LayL.of{k:Nat}:∀{a:List PyData},(∀d∈a,Lay k d)->LayL k a
 |[],_=>.nil
 |d::a,h=>.cons (h d qa9) (LayL.of λ e b=>h e (qb1 _ b))
end L2
end
section
open PySem L2 TM WK
section
namespace K70
open PySem L2 TM WK
open P15 (Lb Fm Tm dats Z0I okF Ok maxD sumS flatR Bld)
open PW (Vl Wd Hs Pg Sc Wt Ws IxAt Look Chain Z1d Flds Z1h putS Z0D getS Z0y Two Step Z1f Z0w leaf)
seal L2.PE L2.PA L2.PT L2.PS L2.PSs L2.PG L2.PGs L2.PI L2.PW
theorem O0i:Z0k ["program","firsts","number","house"] ["program"] (Z0h Z1H):=⟨rfl,rfl,rfl,qP,rfl,qP,qP⟩
theorem O0B:Z0k ["hall","firsts","house","word","where"] ["hall","firsts","house","word"] (Z0h Z1S):=⟨rfl,rfl,rfl,qP,rfl,qP,qP⟩
theorem O0D:Z0k ["program","kind","word","hall","firsts","found","house"] ["program","kind","word"] (Z0h Z5K):=⟨rfl,rfl,rfl,qP,rfl,qP,qP⟩
theorem Z7R:Z0k ["form","label","parts"] ["form","label","parts"] (Z0h Z3z):=⟨rfl,rfl,rfl,qP,rfl,qP,qP⟩
theorem Z8m:Z0k ["pairs"] ["pairs"] (Z0h Z3w):=⟨rfl,rfl,rfl,qP,rfl,qP,qP⟩
theorem O0n:Z0k ["plain","told_houses","told_main","params","kind","body"] ["plain"] (Z0h Z2m):=⟨rfl,rfl,rfl,qP,rfl,qP,qP⟩
theorem O0t:Z0k ["plain","name","elder","own_fields","own_words"] ["plain"] (Z0h Z3t):=⟨rfl,rfl,rfl,qP,rfl,qP,qP⟩
theorem O0v:Z0k ["plain","name","params","kind","body"] ["plain"] (Z0h Z3L):=⟨rfl,rfl,rfl,qP,rfl,qP,qP⟩
theorem O0A:Z0k ["plain","built","one","inner"] ["plain"] (Z0h Z3X):=⟨rfl,rfl,rfl,qP,rfl,qP,qP⟩
theorem O0s:Z0k ["plain","found","waiting","one"] ["plain"] (Z0h Z2t):=⟨rfl,rfl,rfl,qP,rfl,qP,qP⟩
theorem O0J:Z0k ["plain","form"] ["plain"] (Z0h Z3A):=⟨rfl,rfl,rfl,qP,rfl,qP,qP⟩
theorem O0K:Z0k ["plain","form"] ["plain"] (Z0h Z3v):=⟨rfl,rfl,rfl,qP,rfl,qP,qP⟩
theorem Z4N:Z0k ["_law_script","_law_k"] ["_law_script","_law_k"] (Z0h Z1G):=⟨rfl,rfl,rfl,qP,rfl,qP,qP⟩
theorem Z5P:Z0k ["_law_cell","_law_k"] ["_law_cell","_law_k"] (Z0h Z2p):=⟨rfl,rfl,rfl,qP,rfl,qP,qP⟩
theorem O0g:Z0k ["_law_shift","_law_told","_law_letters","_law_size","_law_at","_law_found","_law_k","_law_row","_law_name"] ["_law_shift"] (Z0h Z2r):=⟨rfl,rfl,rfl,qP,rfl,qP,qP⟩
theorem O0u:Z0k ["_law_halls_here","_law_house","_law_found"] ["_law_halls_here","_law_house"] (Z0h Z1T):=⟨rfl,rfl,rfl,qP,rfl,qP,qP⟩
theorem Z6J:Z0k ["_law_halls_here","_law_kind","_law_wanted"] ["_law_halls_here","_law_kind","_law_wanted"] (Z0h Z2U):=⟨rfl,rfl,rfl,qP,rfl,qP,qP⟩
theorem O0r:Z0k ["_law_halls_here","_law_house","_law_found","_law_one"] ["_law_halls_here","_law_house"] (Z0h Z1O):=⟨rfl,rfl,rfl,qP,rfl,qP,qP⟩
theorem Z4u:Z0k ["_law_halls_here","_law_house"] ["_law_halls_here","_law_house"] (Z0h Z1t):=⟨rfl,rfl,rfl,qP,rfl,qP,qP⟩
theorem O0H:Z0k ["_law_halls_here","_law_house","_law_word","_law_one"] ["_law_halls_here","_law_house","_law_word"] (Z0h Z2V):=⟨rfl,rfl,rfl,qP,rfl,qP,qP⟩
theorem O0d:Z0k ["_law_halls_here","_law_names_here","_law_cells","_law_kinds","_law_left","_law_k","_law_house","_law_w","_law_cell","_law_old","_law_params","_law_head_here","_law_some"] ["_law_halls_here","_law_names_here","_law_cells"] (Z0h Z2v):=⟨rfl,rfl,rfl,qP,rfl,qP,qP⟩
theorem O0e:Z0k ["_law_script","_law_names_here","_law_halls_here","_law_cells","_law_k","_law_cell","_law_plain","_law_above","_law_j","_law_kinds","_law_taken","_law_free","_law_one"] ["_law_script","_law_names_here"] (Z0h Z2i):=⟨rfl,rfl,rfl,qP,rfl,qP,qP⟩
theorem Z7r:Z0k ["_law_env"] ["_law_env"] (Z0h Z2M):=⟨rfl,rfl,rfl,qP,rfl,qP,qP⟩
theorem Z4h:Z0k ["_law_env","_law_kinds","_law_depth"] ["_law_env","_law_kinds","_law_depth"] (Z0h Z2q):=⟨rfl,rfl,rfl,qP,rfl,qP,qP⟩
theorem O0j:Z0k ["_law_env","_law_wanted","_law_depth","_law_halls_here","_law_some","_law_house","_law_kinds"] ["_law_env","_law_wanted","_law_depth"] (Z0h Z2J):=⟨rfl,rfl,rfl,qP,rfl,qP,qP⟩
theorem O0x:Z0k ["_law_env","_law_kind","_law_cell","_law_known","_law_name"] ["_law_env","_law_kind","_law_cell"] (Z0h Z2E):=⟨rfl,rfl,rfl,qP,rfl,qP,qP⟩
theorem O0c:Z0k ["_law_env","_law_kind","_law_depth","_law_cell","_law_halls_here","_law_houses","_law_some","_law_house","_law_word","_law_head_here","_law_params","_law_thing"] ["_law_env","_law_kind","_law_depth","_law_cell"] (Z0h Z1R):=⟨rfl,rfl,rfl,qP,rfl,qP,qP⟩
theorem O0f:Z0k ["_law_env","_law_kind","_law_depth","_law_cell","_law_halls_here","_law_some","_law_house","_law_field","_law_thing","_law_other"] ["_law_env","_law_kind","_law_depth","_law_cell"] (Z0h Z1E):=⟨rfl,rfl,rfl,qP,rfl,qP,qP⟩
theorem O0p:Z0k ["_law_env","_law_kind","_law_depth","_law_cell","_law_kinds","_law_bound","_law_one","_law_known","_law_other"] ["_law_env","_law_kind","_law_depth","_law_cell"] (Z0h Z3y):=⟨rfl,rfl,rfl,qP,rfl,qP,qP⟩
theorem O0k:Z0k ["_law_env","_law_kind","_law_depth","_law_cell","_law_sign","_law_kinds","_law_other"] ["_law_env","_law_kind","_law_depth","_law_cell"] (Z0h Z3B):=⟨rfl,rfl,rfl,qP,rfl,qP,qP⟩
theorem O0l:Z0k ["_law_env","_law_kind","_law_depth","_law_cell","_law_way","_law_found"] ["_law_env","_law_kind","_law_depth"] (Z0h Z2R):=⟨rfl,rfl,rfl,qP,rfl,qP,qP⟩
theorem O0b:Z0k ["_law_env","_law_names_here","_law_cell","_law_halls_here","_law_some","_law_house","_law_younger","_law_word","_law_head_here","_law_kind","_law_params","_law_things","_law_call","_law_less","_law_again","_law_truth","_law_body_here"] ["_law_env","_law_names_here","_law_cell"] (Z0h Z1U):=⟨rfl,rfl,rfl,qP,rfl,qP,qP⟩
theorem Z6R:Z0k ["_law_env","_law_params","_law_own_here","_law_kind"] ["_law_env","_law_params","_law_own_here","_law_kind"] (Z0h Z2L):=⟨rfl,rfl,rfl,qP,rfl,qP,qP⟩
theorem O0h:Z0k ["_law_env","_law_names_here","_law_cell","_law_is_turned","_law_kinds","_law_kind","_law_params","_law_body_here","_law_number","_law_wanted","_law_things","_law_turned"] ["_law_env","_law_names_here","_law_cell","_law_is_turned"] (Z0h Z2Q):=⟨rfl,rfl,rfl,qP,rfl,qP,qP⟩
theorem O0a:Z0k ["_law_script","_law_names_here","_law_halls_here","_law_env","_law_turner_here","_law_houses","_law_house","_law_told","_law_word","_law_kinds","_law_kind","_law_params","_law_body_here","_law_fields_here","_law_main_here","_law_at"] ["_law_script"] (Z0h Z1I):=⟨rfl,rfl,rfl,qP,rfl,qP,qP⟩
theorem O0y:Z0k ["_law_houses","_law_name","_law_found"] ["_law_houses","_law_name"] (Z0h Z2O):=⟨rfl,rfl,rfl,qP,rfl,qP,qP⟩
theorem O0q:Z0k ["_law_houses","_law_found","_law_house","_law_word"] ["_law_houses"] (Z0h Z1F):=⟨rfl,rfl,rfl,qP,rfl,qP,qP⟩
theorem O0o:Z0k ["_law_houses","_law_kind","_law_word","_law_numbers_here","_law_found","_law_house","_law_line_here","_law_block"] ["_law_houses","_law_kind","_law_word"] (Z0h Z2j):=⟨rfl,rfl,rfl,qP,rfl,qP,qP⟩
theorem O0w:Z0k ["_law_script","_law_plain","_law_houses","_law_program_here","_law_called_here","_law_house","_law_held","_law_line_here","_law_word","_law_due","_law_found"] ["_law_script"] (Z0h J1W):=⟨rfl,rfl,rfl,qP,rfl,qP,qP⟩
theorem sc_Hall___init__:Z0k ["self","program","house"] ["self","program"] (Z0h Z1o):=⟨rfl,rfl,rfl,qP,rfl,qP,qP⟩
theorem sc_Hall_elders:Z0k ["self","house","nearest_first","one"] ["self","house"] (Z0h Z1P):=⟨rfl,rfl,rfl,qP,rfl,qP,qP⟩
theorem Z5f:Z0k ["self","house"] ["self","house"] (Z0h Z1J):=⟨rfl,rfl,rfl,qP,rfl,qP,qP⟩
theorem sc_Hall_found:Z0k ["self","house","word","one","names"] ["self","house","word"] (Z0h Z2o):=⟨rfl,rfl,rfl,qP,rfl,qP,qP⟩
theorem Z4t:Z0k ["self","form","label","parts"] ["self","form","label","parts"] (Z0h Z1n):=⟨rfl,rfl,rfl,qP,rfl,qP,qP⟩
theorem Z5J:Z0k ["self"] ["self"] (Z0h Z2k):=⟨rfl,rfl,rfl,qP,rfl,qP,qP⟩
theorem Z6m:Z0k ["self"] ["self"] (Z0h Z2s):=⟨rfl,rfl,rfl,qP,rfl,qP,qP⟩
theorem Z6V:Z0k ["self"] ["self"] (Z0h Z2G):=⟨rfl,rfl,rfl,qP,rfl,qP,qP⟩
theorem Z4y:Z0k ["self","name","params","kind","body"] ["self","name","params","kind","body"] (Z0h Z1m):=⟨rfl,rfl,rfl,qP,rfl,qP,qP⟩
theorem Z6i:Z0k ["self"] ["self"] (Z0h Z2u):=⟨rfl,rfl,rfl,qP,rfl,qP,qP⟩
theorem Z4l:Z0k ["self","name","elder","own_fields","own_words"] ["self","name","elder","own_fields","own_words"] (Z0h Z1j):=⟨rfl,rfl,rfl,qP,rfl,qP,qP⟩
theorem sc_House_plain:Z0k ["self","told"] ["self"] (Z0h Z1Q):=⟨rfl,rfl,rfl,qP,rfl,qP,qP⟩
theorem Z3J:Z0k ["self","all_houses","main"] ["self","all_houses","main"] (Z0h Z1e):=⟨rfl,rfl,rfl,qP,rfl,qP,qP⟩
theorem sc_Program_plain:Z0k ["self","told"] ["self"] (Z0h Z1u):=⟨rfl,rfl,rfl,qP,rfl,qP,qP⟩
structure Txt(K:X0)(mg:V2->Option V1)(Cl:V0)(Ct:V0)(Cw:V0)(Ch:V0)(Cp:V0):Prop where
 O1u:mg "dict"=none
 O1g:mg "enumerate"=none
 z_int:mg "int"=none
 O0Y:mg "isinstance"=none
 z_len:mg "len"=none
 O0E:mg "list"=none
 z_max:mg "max"=none
 z_min:mg "min"=none
 O0z:mg "range"=none
 O1x:mg "repr"=none
 O0G:mg "reversed"=none
 O0T:mg "sorted"=none
 z_sum:mg "sum"=none
 O0m:mg "tuple"=none
 O0N:Fn K mg "first_blocks" Z1H
 O0U:Fn K mg "found_block" Z1S
 O1y:Fn K mg "meant" Z5K
 O1p:Fn K mg "shape_of" Z3z
 O1q:Fn K mg "pairs_of" Z3w
 O0Z:Fn K mg "program_of" Z2m
 O1r:Fn K mg "house_of" Z3t
 O1v:Fn K mg "word_of" Z3L
 O1w:Fn K mg "term_of" Z3X
 O1a:Fn K mg "all_within" Z2t
 O1s:Fn K mg "parts_of" Z3A
 O1t:Fn K mg "label_of" Z3v
 O0O:Fn K mg "_law_cell_at" Z1G
 O1b:Fn K mg "_law_mixed" Z2p
 O1c:Fn K mg "_law_names" Z2r
 O0V:Fn K mg "_law_elders" Z1T
 O1h:Fn K mg "_law_fits" Z2U
 O0W:Fn K mg "_law_fields" Z1O
 O0L:Fn K mg "_law_is_plain" Z1t
 O1i:Fn K mg "_law_head" Z2V
 O1d:Fn K mg "_law_heads" Z2v
 O1e:Fn K mg "_law_halls" Z2i
 O1j:Fn K mg "_law_draw" Z2M
 O0I:Fn K mg "_law_given" Z2q
 O0M:Fn K mg "_law_make" Z2J
 O1k:Fn K mg "_law_leaf" Z2E
 O0F:Fn K mg "_law_called" Z1R
 O0C:Fn K mg "_law_touched" Z1E
 O0R:Fn K mg "_law_let" Z3y
 O0S:Fn K mg "_law_own" Z3B
 O1l:Fn K mg "_law_want" Z2R
 O0X:Fn K mg "_law_turner" Z1U
 O1m:Fn K mg "_law_body" Z2L
 O1n:Fn K mg "_law_main" Z2Q
 O0P:Fn K mg "_law_program" Z1I
 O1o:Fn K mg "_law_line" Z2O
 O0Q:Fn K mg "_law_numbers" Z1F
 O1f:Fn K mg "_law_meant" Z2j
 f_law:Fn K mg "law" J1W
 Hall:Z7S K mg "Hall" Cl
 n_Hall_by_name:NoAttr K Cl "by_name"
 n_Hall_in_order:NoAttr K Cl "in_order"
 Term:Z7S K mg "Term" Ct
 n_Term_deep:NoAttr K Ct "deep"
 n_Term_form:NoAttr K Ct "form"
 n_Term_inner:NoAttr K Ct "inner"
 n_Term_label:NoAttr K Ct "label"
 n_Term_many:NoAttr K Ct "many"
 n_Term_shape:NoAttr K Ct "shape"
 Word:Z7S K mg "Word" Cw
 n_Word_body:NoAttr K Cw "body"
 n_Word_kind:NoAttr K Cw "kind"
 n_Word_name:NoAttr K Cw "name"
 n_Word_params:NoAttr K Cw "params"
 House:Z7S K mg "House" Ch
 n_House_elder:NoAttr K Ch "elder"
 n_House_name:NoAttr K Ch "name"
 n_House_own_fields:NoAttr K Ch "own_fields"
 n_House_own_words:NoAttr K Ch "own_words"
 Program:Z7S K mg "Program" Cp
 n_Program_all_houses:NoAttr K Cp "all_houses"
 n_Program_main:NoAttr K Cp "main"
 m_Hall___init__:MFn K Cl "__init__" "Hall.__init__" Z1o
 m_Hall_elders:MFn K Cl "elders" "Hall.elders" Z1P
 m_Hall_younger:MFn K Cl "younger" "Hall.younger" Z1J
 m_Hall_found:MFn K Cl "found" "Hall.found" Z2o
 m_Term___init__:MFn K Ct "__init__" "Term.__init__" Z1n
 m_Term_plain:MFn K Ct "plain" "Term.plain" Z2k
 m_Term_parts:MFn K Ct "parts" "Term.parts" Z3k
 m_Term_depth:MFn K Ct "depth" "Term.depth" Z2s
 m_Term_size:MFn K Ct "size" "Term.size" Z2G
 m_Word___init__:MFn K Cw "__init__" "Word.__init__" Z1m
 m_Word_plain:MFn K Cw "plain" "Word.plain" Z2u
 m_House___init__:MFn K Ch "__init__" "House.__init__" Z1j
 m_House_plain:MFn K Ch "plain" "House.plain" Z1Q
 m_Program___init__:MFn K Cp "__init__" "Program.__init__" Z1e
 m_Program_plain:MFn K Cp "plain" "Program.plain" Z1u
def isA:Fm->Bool| .self| .nt| .iff=>true|_=>false
def isN:Fm->Bool| .new| .elder=>true|_=>false
def isF:Fm->Bool| .field| .set=>true|_=>false
theorem inA(f:Fm):inV (V.str f.s) [V.str (Str.ofString "self"),V.str (Str.ofString "not"),V.str (Str.ofString "if")]=isA f:=by cases f<;>decide+kernel
theorem inN(f:Fm):inV (V.str f.s) [V.str (Str.ofString "new"),V.str (Str.ofString "elder")]=isN f:=by cases f<;>decide+kernel
theorem inF(f:Fm):inV (V.str f.s) [V.str (Str.ofString "field"),V.str (Str.ofString "set")]=isF f:=by cases f<;>decide+kernel
theorem isC(f:Fm):f.s=Str.ofString "call"->f=.call:=by cases f<;>first|exact λ _=>rfl|exact λ h=>absurd h qP
theorem shA{f:Fm}{l:Lb}{ds:List PyData}(h:isA f=true):Z0I f l ds=.str f.s::ds:=by cases f<;>first|rfl|cases h
theorem shN{f:Fm}{l:Lb}{a:List PyData}(h:isN f=true):Z0I f l a=[.str f.s,l.d,.tuple a]:=by cases f<;>first|rfl|cases h
theorem shF{f:Fm}{l:Lb}{d:PyData}{ds:List PyData}(h:isF f=true):Z0I f l (d::ds)=.str f.s::d::l.d::ds:=by cases f<;>first|rfl|cases h
theorem shR{f:Fm}{l:Lb}{ds:List PyData}(a:¬isA f=true)(h2:¬isN f=true)(b:¬f=.call)(c:¬isF f=true):Z0I f l ds=.str f.s::l.d::ds:=by cases f<;>first|rfl|exact absurd rfl a|exact absurd rfl h2|exact absurd rfl b|exact absurd rfl c
theorem Z4o{f:Fm}{l:Lb}{a:List PyData}(h:okF f l a.length)(c:f=.call\/isF f=true):∃d r,a=d::r:=by
 cases a with
 |cons d r=>exact⟨d,r,rfl⟩
 |nil=>
  cases f<;>cases l<;>first|(rcases c with c|c<;>cases c;done)|exact absurd h qQ|cases h
theorem cut1(x:V)(xs:List V):cutV (x::xs) (some 1) none=xs:=by
 rw[show(some (1:Int))=some ((1:Nat):Int)from rfl];unfold cutV;simp[HT.sIx]
inductive Z9m(K:X0)(vs:List V)(H:Hp)(Q:VK):Prop
 |mk(f:Fm)(l:Lb)(p:V0)(us:List V)(ds:List PyData)(a1:vs=[.str f.s,lbV l,.ref p])(a2:SqT K H p us)(a3:RTs K H us ds)(a4:okF f l ds.length)(a5:ds.length<=20000)(a6:∀r ws H',Same H H'->SqT K H' r ws->RTs K H' ws (Z0I f l ds)->Q (.ref r) H'):Z9m K vs H Q
def Z9n(K:X0):Sp:=λ a H Q _=>Z9m K a H Q
theorem J3l(T:Txt K mg Cl Ct Cw Ch Cp):Has P w K mg base 1 "shape_of" ["form","label","parts"] (Z9n K):=by
 refine Has.of T.O1p Z7R (λ _ _ _ _ _ _ i D=>el3 i D λ _ _ _=>rfl) (λ vs H Q E h=>?_) (λ f a0 A G s H vs Q E j h=>?_)
 ·obtain⟨f,l,p,i,ds,rfl,_⟩:=h;rfl
 obtain⟨f,l,p,i,ds,rfl,b,m,o,D,q⟩:=h;refine⟨_,(Z0a (Z0E (Z0Y (r:=rIn K false) Z0C (pvF 0) (Z0m (qK Z0f Z0f Z0f)) (by with_unfolding_all rfl)) (Z0d (Z0j (Z0i (r:=Z5I K) Z3i (Z0m (qI (pvF 0))) (pvF 2)))) Z0p) (Z0a (Z0E (Z0Y (r:=rIn K false) Z0C (pvF 0) (Z0m (qJ Z0f Z0f)) (by with_unfolding_all rfl)) (Z0d (Z0j (Z0m (qK (pvF 0) (pvF 1) (pvF 2))))) Z0p) (Z0a (Z0E (qM Z2g (pvF 0) Z0f) (Z0d (Z0j (Z0m (Z0v (pvF 0) (qK (qA K 2) (pvF 1) (Z0L (r:=rSlA K) Z4F (pvF 2) (Z0G Z0c) Z2c)))))) Z0p) (Z0a (Z0E (Z0Y (r:=rIn K false) Z0C (pvF 0) (Z0m (qJ Z0f Z0f)) (by with_unfolding_all rfl)) (Z0d (Z0j (Z0i (r:=Z5I K) Z3i (Z0m (qK (pvF 0) (qA K 2) (pvF 1))) (Z0L (r:=rSlA K) Z4F (pvF 2) (Z0G Z0c) Z2c)))) Z0p) (Z0d (Z0j (Z0i (r:=Z5I K) Z3i (Z0m (qJ (pvF 0) (pvF 1))) (pvF 2)))))))),?_⟩;walk_at "r";have I:i.length<=20000:=by rw[m.length];exact D
 refine New.of λ p1 H1 h1 Z e1=>?_;refine⟨_,.inr (SqT.of e1),rfl,rfl,?_⟩;rw[inA];refine ite2 (λ c=>?_) (λ cA=>?_)
 ·skip
  refine New.of λ p2 H2 h2 J L=>?_;have S:=Z.trans J;refine⟨_,_,_,_,rfl,rfl,SqT.of L,b.same S,by rw[sizeLine_eq];show 1+i.length<=_;omega,λ r u a j=>q r _ u (S.trans a) j ?_⟩;rw[shA c];exact .cons (.str _) (m.same (S.trans a))
 refine New.of λ p2 H2 h2 J L=>?_;refine⟨_,.inr (SqT.of L),rfl,rfl,?_⟩;rw[inN];have x:=Z.trans J;refine ite2 (λ c=>?_) (λ cN=>?_)
 ·skip
  refine New.of λ p3 M C y N=>?_;have S:=x.trans y;refine q _ _ M S (SqT.of N) ?_;rw[shN c];exact .cons (.str _) (.cons (J3r l) (.cons (.tup (b.same S) (m.same S)) .nil))
 refine ite2 (λ c=>?_) (λ cC=>?_)
 ·obtain⟨d,r,rfl⟩:=Z4o o (.inl (isC f c));obtain⟨v,vr,rfl,O,e⟩:=m.inv;refine⟨_,b.same x,v,ix0,?_⟩;refine⟨p,_,rfl,b.same x,λ p3 M y C=>?_⟩;rw[cut1]at C;refine New.of λ p4 R h4 n B=>?_;have S:=x.trans (y.trans n);refine q _ _ R S (SqT.of B) ?_;cases isC f c;exact .cons (.str _) (.cons (O.same S) (.cons (J3r l) (.cons (.tup (C.same n) (e.same S)) .nil)))
 have U:¬f=.call:=λ z=>cC (by rw[z];rfl);refine New.of λ p3 M C y N=>?_;refine⟨_,.inr (SqT.of N),rfl,rfl,?_⟩;rw[inF];have X:=x.trans y;refine ite2 (λ c=>?_) (λ cF=>?_)
 ·obtain⟨d,r,rfl⟩:=Z4o o (.inr c);obtain⟨v,vr,rfl,O,e⟩:=m.inv;refine⟨_,b.same X,v,ix0,?_⟩;refine New.of λ p4 R h4 n B=>?_;have g:=X.trans n;refine⟨p,_,rfl,b.same g,λ p5 H5 Y h5=>?_⟩;rw[cut1]at h5;refine⟨_,_,_,_,rfl,rfl,SqT.of (Y _ _ B),h5,by rw[sizeLine_eq];show 3+vr.length<=_;simp at I;omega,λ r' u a j=>q r' _ u (g.trans (Y.trans a)) j ?_⟩;rw[shF c];have S:=g.trans (Y.trans a);exact .cons (.str _) (.cons (O.same S) (.cons (J3r l) (e.same S)))
 refine New.of λ p4 R h4 n B=>?_;have g:=X.trans n;refine⟨_,_,_,_,rfl,rfl,SqT.of B,b.same g,by rw[sizeLine_eq];show 2+i.length<=_;omega,λ r u a j=>q r _ u (g.trans a) j ?_⟩;rw[shR cA cN U cF];exact .cons (.str _) (.cons (J3r l) (m.same (g.trans a)))
inductive Z9p(K:X0)(vs:List V)(H:Hp)(Q:VK):Prop
 |mk(f:Fm)(l:Lb)(p:V0)(ws:List V)(ds:List PyData)(a1:vs=[.ref p])(a2:SqT K H p ws)(a3:RTs K H ws (Z0I f l ds))(a4:okF f l ds.length)(a5:ds.length<=20000)(a6:∀r us H',Same H H'->SqT K H' r us->RTs K H' us ds->Q (.ref r) H'):Z9p K vs H Q
def Z6e(K:X0):Sp:=λ a H Q _=>Z9p K a H Q
inductive Z9k(K:X0)(vs:List V)(H:Hp)(Q:VK):Prop
 |mk(f:Fm)(l:Lb)(p:V0)(ws:List V)(ds:List PyData)(a1:vs=[.ref p])(a2:SqT K H p ws)(a3:RTs K H ws (Z0I f l ds))(a4:okF f l ds.length)(a5:∀H',Same H H'->Q (lbV l) H'):Z9k K vs H Q
def Z9s(K:X0):Sp:=λ a H Q _=>Z9k K a H Q
theorem x_hd{f:Fm}{l:Lb}{a:List PyData}(h:okF f l a.length):∃r,Z0I f l a=.str f.s::r:=by
 by_cases c:f=.call\/isF f=true
 ·obtain⟨d,r,rfl⟩:=Z4o h c;rcases c with rfl|c
  ·exact⟨_,rfl⟩
  ·exact⟨_,shF c⟩
 ·by_cases b:isA f=true
  ·exact⟨_,shA b⟩
  by_cases e:isN f=true
  ·exact⟨_,shN e⟩
  exact⟨_,shR b e (λ z=>c (.inl z)) (λ z=>c (.inr z))⟩
def isB:Fm->Bool| .nt| .iff=>true|_=>false
def isD:Fm->Bool| .two| .lt=>true|_=>false
def isE:Fm->Bool| .field| .call| .set=>true|_=>false
theorem inB(f:Fm):inV (V.str f.s) [V.str (Str.ofString "not"),V.str (Str.ofString "if")]=isB f:=by cases f<;>decide+kernel
theorem inD(f:Fm):inV (V.str f.s) [V.str (Str.ofString "two"),V.str (Str.ofString "let")]=isD f:=by cases f<;>decide+kernel
theorem inE(f:Fm):inV (V.str f.s) [V.str (Str.ofString "field"),V.str (Str.ofString "call"),V.str (Str.ofString "set")]=isE f:=by cases f<;>decide+kernel
theorem shB{f:Fm}{l:Lb}{ds:List PyData}(h:isB f=true):Z0I f l ds=.str f.s::ds:=by cases f<;>first|rfl|cases h
theorem shD{f:Fm}{l:Lb}{ds:List PyData}(h:isD f=true):Z0I f l ds=.str f.s::l.d::ds:=by cases f<;>first|rfl|cases h
theorem ok0{f:Fm}{l:Lb}{a:List PyData}(h:okF f l a.length)(b:¬isB f=true)(c:¬isD f=true)(e:¬isN f=true)(g:¬f=.call)(i:¬isF f=true):a=[]:=by
 cases f<;>cases l<;>first|exact qj0.mp h|exact absurd rfl b|exact absurd rfl c|exact absurd rfl e|exact absurd rfl g|exact absurd rfl i|cases h
theorem okA{f:Fm}{l:Lb}{n:Nat}(h:okF f l n)(c:isA f=true):l=.non:=by
 cases f<;>cases l<;>first|rfl|(cases c;done)|cases h
theorem cut2(x y:V)(xs:List V):cutV (x::y::xs) (some 2) none=xs:=by
 rw[show(some (2:Int))=some ((2:Nat):Int)from rfl];unfold cutV;simp[HT.sIx]
theorem cut3(x y z:V)(xs:List V):cutV (x::y::z::xs) (some 3) none=xs:=by
 rw[show(some (3:Int))=some ((3:Nat):Int)from rfl];unfold cutV;simp[HT.sIx]
theorem J3m(T:Txt K mg Cl Ct Cw Ch Cp):Has P w K mg base 1 "parts_of" ["plain"] (Z6e K):=by
 refine Has.of T.O1s O0J (λ _ _ _ _ _ _ B G=>el1 B G λ _=>rfl) (λ vs H Q E h=>?_) (λ f b0 A O s H vs Q E g h=>?_)
 ·obtain⟨f,l,p,B,ds,rfl,_⟩:=h;rfl
 obtain⟨f,l,p,ws,ds,rfl,o,hw,m,G,q⟩:=h;refine⟨_,(Z0a (qG 1 O0J.nd (qA K 0)) (Z0a (Z0E (Z0Y (r:=rIn K false) Z0C (pvF 1) (Z0m (qJ Z0f Z0f)) (by with_unfolding_all rfl)) (Z0d (Z0j (Z0L (r:=rSlA K) Z4F (pvF 0) (Z0G Z0c) Z2c))) Z0p) (Z0a (Z0E (Z0Y (r:=rIn K false) Z0C (pvF 1) (Z0m (qJ Z0f Z0f)) (by with_unfolding_all rfl)) (Z0d (Z0j (Z0L (r:=rSlA K) Z4F (pvF 0) (Z0G Z0c) Z2c))) Z0p) (Z0a (Z0E (Z0Y (r:=rIn K false) Z0C (pvF 1) (Z0m (qJ Z0f Z0f)) (by with_unfolding_all rfl)) (Z0d (Z0j (qA K 0))) Z0p) (Z0a (Z0E (qM Z2g (pvF 1) Z0f) (Z0d (Z0j (Z0i (r:=Z5I K) Z3i (Z0m (qI (qA K 0))) (qA K 0)))) Z0p) (Z0a (Z0E (Z0Y (r:=rIn K false) Z0C (pvF 1) (Z0m (qJ Z0f Z0f)) (by with_unfolding_all rfl)) (Z0d (Z0j (Z0i (r:=Z5I K) Z3i (Z0m (qI (qA K 0))) (Z0L (r:=rSlA K) Z4F (pvF 0) (Z0G Z0c) Z2c)))) Z0p) (Z0d (Z0j (Z0m Z0W))))))))),?_⟩;refine seq2 λ c0 C=>?_;walk_at "r";obtain⟨r0,j⟩:=x_hd m;have D:=hw;rw[j]at D;obtain⟨v0,u,rfl,R,b⟩:=D.inv;cases R.str_inv;refine⟨_,o,_,ix0,?_⟩;subst C;walk_at "r";refine New.of λ p1 H1 h1 I e1=>?_;refine⟨_,.inr (SqT.of e1),rfl,rfl,?_⟩;rw[inB];refine ite2 (λ c=>?_) (λ cB=>?_)
 ·refine⟨p,_,rfl,o.same I,λ r v e g=>?_⟩;rw[cut1]at g;rw[shB c]at j;cases j;exact q r _ v (I.trans e) g (b.same (I.trans e))
 refine New.of λ p2 H2 h2 s2 e2=>?_;refine⟨_,.inr (SqT.of e2),rfl,rfl,?_⟩;rw[inD];have J:=I.trans s2;refine ite2 (λ c=>?_) (λ cD=>?_)
 ·rw[shD c]at j;cases j;obtain⟨S,u,rfl,_,b⟩:=b.inv;refine⟨p,_,rfl,o.same J,λ r v e g=>?_⟩;rw[cut2]at g;exact q r _ v (J.trans e) g (b.same (J.trans e))
 refine New.of λ p3 H3 h3 s3 e3=>?_;refine⟨_,.inr (SqT.of e3),rfl,rfl,?_⟩;rw[inN];have x:=J.trans s3;refine ite2 (λ c=>?_) (λ cN=>?_)
 ·rw[shN c]at j;cases j;obtain⟨S,u,rfl,_,b⟩:=b.inv;obtain⟨v2,u,rfl,h2,_⟩:=b.inv;obtain⟨a,B,rfl,ha,L⟩:=h2.tup_inv;exact⟨_,o.same x,_,ix2,q a B H3 x (ha.same x) (L.same x)⟩
 refine ite2 (λ c=>?_) (λ cC=>?_)
 ·obtain⟨d,r,rfl⟩:=Z4o m (.inl (isC f c));cases isC f c;cases j;obtain⟨S,u,rfl,y,b⟩:=b.inv;obtain⟨v2,u,rfl,_,b⟩:=b.inv;obtain⟨v3,u,rfl,U,_⟩:=b.inv;obtain⟨a,B,rfl,ha,L⟩:=U.tup_inv;refine⟨_,o.same x,_,ix1,?_⟩;refine New.of λ p4 H4 h4 X Y=>?_;have n:=x.trans X;refine⟨_,o.same n,_,ix3,_,_,_,_,rfl,rfl,SqT.of Y,ha.same n,?_,λ Z v e g=>q Z _ v (n.trans e) g (.cons (y.same (n.trans e)) (L.same (n.trans e)))⟩;rw[sizeLine_eq,L.length];simp only[qc3,qi5]at G ⊢;omega
 have a0:¬f=.call:=λ z=>cC (by rw[z];rfl);refine New.of λ p4 H4 h4 X Y=>?_;refine⟨_,.inr (SqT.of Y),rfl,rfl,?_⟩;rw[inF];have n:=x.trans X;refine ite2 (λ c=>?_) (λ cF=>?_)
 ·obtain⟨d,r,rfl⟩:=Z4o m (.inr c);rw[shF c]at j;cases j;obtain⟨S,u,rfl,y,b⟩:=b.inv;obtain⟨v2,u,rfl,_,b⟩:=b.inv;refine⟨_,o.same n,_,ix1,?_⟩;refine New.of λ p5 H5 h5 s5 e5=>?_;have M:=n.trans s5;refine⟨p,_,rfl,o.same M,λ p6 H6 N h6=>?_⟩;rw[cut3]at h6;refine⟨_,_,_,_,rfl,rfl,SqT.of (N _ _ e5),h6,?_,λ Z v e g=>q Z _ v (M.trans (N.trans e)) g (.cons (y.same (M.trans (N.trans e))) (b.same (M.trans (N.trans e))))⟩;rw[sizeLine_eq,b.length];simp only[qc3,qi5]at G ⊢;omega
 refine New.of λ p5 H5 h5 s5 e5=>?_;cases ok0 m cB cD cN a0 cF;exact q _ _ H5 (n.trans s5) (SqT.of e5) .nil
theorem J3H(T:Txt K mg Cl Ct Cw Ch Cp):Has P w K mg base 1 "label_of" ["plain"] (Z9s K):=by
 refine Has.of T.O1t O0K (λ _ _ _ _ _ _ C N=>el1 C N λ _=>rfl) (λ O H Q E h=>?_) (λ f R A u s H O Q E hr h=>?_)
 ·obtain⟨f,l,p,C,D,rfl,_⟩:=h;rfl
 obtain⟨f,l,p,ws,D,rfl,v,S,e,q⟩:=h;refine⟨_,(Z0a (qG 1 O0K.nd (qA K 0)) (Z0a (Z0E (Z0Y (r:=rIn K false) Z0C (pvF 1) (Z0m (qK Z0f Z0f Z0f)) (by with_unfolding_all rfl)) (Z0d (Z0j Z0V)) Z0p) (Z0a (Z0E (Z0Y (r:=rIn K false) Z0C (pvF 1) (Z0m (qK Z0f Z0f Z0f)) (by with_unfolding_all rfl)) (Z0d (Z0j (qA K 0))) Z0p) (Z0d (Z0j (qA K 0)))))),?_⟩;refine seq2 λ U g=>?_;walk_at "r";obtain⟨r0,j⟩:=x_hd e;have m:=S;rw[j]at m;obtain⟨v0,x,rfl,y,b⟩:=m.inv;cases y.str_inv;refine⟨_,v,_,ix0,?_⟩;subst g;walk_at "r";refine New.of λ p1 X h1 G Y=>?_;refine⟨_,.inr (SqT.of Y),rfl,rfl,?_⟩;rw[inA];refine ite2 (λ c=>?_) (λ Z=>?_)
 ·cases okA e c;exact q X G
 refine New.of λ p2 I J s2 e2=>?_;refine⟨_,.inr (SqT.of e2),rfl,rfl,?_⟩;rw[inE];have n:=G.trans s2;refine ite2 (λ c=>?_) (λ L=>?_)
 ·have o:f=.call\/isF f=true:=by cases f<;>first|exact .inl rfl|exact .inr rfl|cases c
  obtain⟨d,r,rfl⟩:=Z4o e o;have a:∃r2,Z0I f l (d::r)=.str f.s::d::l.d::r2:=by
   rcases o with rfl|o
   ·exact⟨_,rfl⟩
   ·exact⟨_,shF o⟩
  obtain⟨r2,a⟩:=a;rw[a]at j;cases j;obtain⟨v1,x,rfl,_,b⟩:=b.inv;obtain⟨v2,x,rfl,J,_⟩:=b.inv;cases J4M J;exact⟨_,v.same n,_,ix2,q I n⟩
 have a:∃r2,Z0I f l D=.str f.s::l.d::r2:=by
  by_cases M:isN f=true
  ·exact⟨_,shN M⟩
  ·refine⟨_,shR Z M (λ z=>L (by rw[z];rfl)) (λ z=>L ?_)⟩;cases f<;>first|rfl|cases z
 obtain⟨r2,a⟩:=a;rw[a]at j;cases j;obtain⟨v1,x,rfl,B,_⟩:=b.inv;cases J4M B;exact⟨_,v.same n,_,ix1,q I n⟩
inductive Z6v(C:V0)(K:X0)(vs:List V)(H:Hp)(Q:VK):Prop
 |mk(v:V)(t:Tm)(a1:vs=[v])(a2:TO K C H v t)(a3:∀u,RT K H u t.dat->Q u H):Z6v C K vs H Q
def Z3N(C:V0)(K:X0):Sp:=λ a H Q _=>Z6v C K a H Q
inductive Z6W(C:V0)(K:X0)(vs:List V)(H:Hp)(Q:VK):Prop
 |mk(v:V)(t:Tm)(a1:vs=[v])(a2:TO K C H v t)(a3:Q (.int (t.depth:Nat)) H):Z6W C K vs H Q
def Z7I(C:V0)(K:X0):Sp:=λ a H Q _=>Z6W C K a H Q
inductive Z9a(C:V0)(K:X0)(vs:List V)(H:Hp)(Q:VK):Prop
 |mk(v:V)(t:Tm)(a1:vs=[v])(a2:TO K C H v t)(a3:Q (.int (t.size:Nat)) H):Z9a C K vs H Q
def Z8N(C:V0)(K:X0):Sp:=λ a H Q _=>Z9a C K a H Q
theorem J2D(T:Txt K mg Cl Ct Cw Ch Cp):HasM P w K mg base 1 Ct "plain" ["self"] (Z3N Ct K):=by
 refine HasM.of T.m_Term_plain Z5J (λ _ _ _ _ _ _ c e=>el1 c e λ _=>rfl) (λ g H Q E h=>?_) (λ f i A b s H g Q E u h=>?_)
 ·obtain⟨v,t,rfl,_⟩:=h;rfl
 obtain⟨v,t,rfl,h,q⟩:=h;refine⟨_,(Z0d (Z0j (qO 0))),?_⟩;walk_at "r";obtain⟨a,j,m,n,c,x,rfl,ha,y,o,p,r⟩:=h.inv;refine⟨a,rfl,Ct,j,_,ha,T.Term.cl,T.n_Term_shape,.ref n,rfl,q _ ?_⟩;cases t;exact .tup p r
theorem J2p(T:Txt K mg Cl Ct Cw Ch Cp):HasM P w K mg base 1 Ct "depth" ["self"] (Z7I Ct K):=by
 refine HasM.of T.m_Term_depth Z6m (λ _ _ _ _ _ _ c e=>el1 c e λ _=>rfl) (λ g H Q E h=>?_) (λ f i A b s H g Q E o h=>?_)
 ·obtain⟨v,t,rfl,_⟩:=h;rfl
 obtain⟨v,t,rfl,h,q⟩:=h;refine⟨_,(Z0d (Z0j (qO 0))),?_⟩;walk_at "r";obtain⟨a,j,m,p,c,r,rfl,ha,u,n,x,y⟩:=h.inv;exact⟨a,rfl,Ct,j,_,ha,T.Term.cl,T.n_Term_deep,.int (t.depth:Nat),rfl,q⟩
theorem J3w(T:Txt K mg Cl Ct Cw Ch Cp):HasM P w K mg base 1 Ct "size" ["self"] (Z8N Ct K):=by
 refine HasM.of T.m_Term_size Z6V (λ _ _ _ _ _ _ c e=>el1 c e λ _=>rfl) (λ g H Q E h=>?_) (λ f i A b s H g Q E o h=>?_)
 ·obtain⟨v,t,rfl,_⟩:=h;rfl
 obtain⟨v,t,rfl,h,q⟩:=h;refine⟨_,(Z0d (Z0j (qO 0))),?_⟩;walk_at "r";obtain⟨a,j,m,p,c,r,rfl,ha,u,n,x,y⟩:=h.inv;exact⟨a,rfl,Ct,j,_,ha,T.Term.cl,T.n_Term_many,.int (t.size:Nat),rfl,q⟩
inductive Z8P(C:V0)(K:X0)(vs:List V)(H:Hp)(Q:VK):Prop
 |mk(x dx p:V0)(f:Fm)(l:Lb)(us:List V)(ps:List Tm)(a1:vs=[.ref x,.str f.s,lbV l,.ref p])(a2:H x=some (.ins C dx []))(a3:SqL K H p us)(a4:TOs K C H us ps)(a5:okF f l ps.length)(a6:ps.length<=20000)(a7:∀H',SX x H H'->TO K C H' (.ref x) (.mk f l ps)->Q .non H'):Z8P C K vs H Q
def Z9r(C:V0)(K:X0):Sp:=λ a H Q _=>Z8P C K a H Q
theorem J7k{ts:List Tm}{m:Int}(e:ts.map (λ t=>((t.depth:Nat):Int))=[]->m=0)(g:ts.map (λ t=>((t.depth:Nat):Int))≠[]->J1f (ts.map λ t=>((t.depth:Nat):Int)) m):m=((maxD ts:Nat):Int):=by
 cases ts with
 |nil=>exact e rfl
 |cons t ts=>
  obtain⟨h,c⟩:=g (by simp);obtain⟨u,i,rfl⟩:=qb4.mp h;have a:=J2I i;have b:maxD (t::ts)<=u.depth:=Z5j λ v j=>by
   have:=c _ (qb4.mpr ⟨v,j,rfl⟩);omega
  omega
theorem J4F:∀a:List Tm,(a.map λ t=>((t.size:Nat):Int)).sum=((sumS a:Nat):Int)
 |[]=>rfl
 |t::a=>by
  rw[qb8,List.sum_cons,J4F a];show _=((t.size+sumS a:Nat):Int);omega
theorem Z3P{c:Type}{g:c->V}{ts:List c}{vs:List V}(i:vs.length=ts.length)(h:∀(j:Nat) v,vs[j]?=some v->∃t,ts[j]?=some t/\v=g t):vs=ts.map g:=by
 refine ql2 λ j=>?_;rw[qa4];by_cases e:j<vs.length
 ·obtain⟨t,a,b⟩:=h j _ (qa8 e);rw[qa8 e,a,b];rfl
 ·rw[qk0 qR,qk0 qR];rfl
theorem kpN{H H':Hp}(s:Z5Y H H'):Kp H H':=⟨λ b c h=>s b _ (λ a z=>by cases z) h,λ b o c h=>s b _ (λ a z=>by cases z) h,λ b C e f fs h=>s b _ (λ a z=>by cases z) h⟩
theorem J5b{K:X0}{H:Hp}:∀{c:List Tm}{g:List V},g.length=c.length->(∀(j:Nat) v,g[j]?=some v->∃t,c[j]?=some t/\RT K H v t.dat)->RTs K H g (dats c)
 |[],[],_,_=>.nil
 |t::c,v::g,e,h=>by
  obtain⟨m,a,b⟩:=h 0 v rfl;cases a;exact .cons b (J5b (qk9 e) λ j u i=>h (j+1) u i)
theorem J3Y(T:Txt K mg Cl Ct Cw Ch Cp)(J:Has P w K mg base 1 "shape_of" ["form","label","parts"] (Z9n K))(B:HasM P w K mg base 1 Ct "plain" ["self"] (Z3N Ct K))(G:HasM P w K mg base 1 Ct "depth" ["self"] (Z7I Ct K))(I:HasM P w K mg base 1 Ct "size" ["self"] (Z8N Ct K)):HasM P w K mg base 2 Ct "__init__" ["self","form","label","parts"] (Z9r Ct K):=by
 refine HasM.of T.m_Term___init__ Z4t (λ _ _ _ _ _ _ L hl=>el4 L hl λ _ _ _ _=>rfl) (λ U H Q E h=>?_) (λ f n0 A j0 s H U Q E hr h=>?_)
 ·obtain⟨x,n,p,f,l,L,ps,rfl,_⟩:=h;rfl
 obtain⟨x,n,p,f,l,L,ps,rfl,hx,hp,hu,k0,hl,q⟩:=h;refine⟨_,(Z0a (Z1c (pvF 0) (pvF 1) rfl) (Z0a (Z1c (pvF 0) (pvF 2) rfl) (Z0a (Z1c (pvF 0) (Z0o Z0q rfl T.O0m Z0O (qI (pvF 3))) rfl) (Z0a (Z1c (pvF 0) (Z0i Z0R Z0c (J5x rfl rfl T.z_max J6Y (qI (Z0S rfl (BlockOk.plain (N:=["part"]) rfl qP qP qP) (Z1s (qO 0)) (λ C fp s H=>(qH 0 (show(["part"]:List V2).Nodup by decide+kernel))) (λ C fp s H=>(Z1M (pvF 0) T.Term.cl G hr qQ)))) (J6g Z0c J6W))) rfl) (Z0a (Z1c (pvF 0) (Z0i Z0R Z0c (Z1q (J4f rfl) rfl T.z_sum J7S (qI (Z0S rfl (BlockOk.plain (N:=["part"]) rfl qP qP qP) (Z1s (qO 0)) (λ C fp s H=>(qH 0 (show(["part"]:List V2).Nodup by decide+kernel))) (λ C fp s H=>(Z1M (pvF 0) T.Term.cl I hr qQ)))))) rfl) (Z0d (Z1c (pvF 0) (qF J hr (qK (pvF 1) (pvF 2) (Z0o Z0q rfl T.O0m Z0O (qI (Z0S rfl (BlockOk.plain (N:=["part"]) rfl qP qP qP) (Z1s (qO 0)) (λ C fp s H=>(qH 0 (show(["part"]:List V2).Nodup by decide+kernel))) (λ C fp s H=>(Z1M (pvF 0) T.Term.cl B hr qQ))))))) rfl))))))),?_⟩;refine seq6 λ o0 b0 p0 c0 q0 d0 r0 e0 s0 f0=>?_;walk_at "r";refine⟨Ct,n,_,hx,T.Term.cl,T.n_Term_form,qd4 rfl,?_⟩;subst f0;walk_at "r";refine⟨Ct,n,_,Z0b,T.Term.cl,T.n_Term_label,qd4 rfl,?_⟩;subst e0;walk_at "r";have S1:SX x H (upd (upd H x (.ins Ct n (putF "form" (.str f.s) []))) x (.ins Ct n (putF "label" (lbV l) (putF "form" (.str f.s) [])))):=(SX.put _).trans (SX.put _);have X1:upd (upd H x (.ins Ct n (putF "form" (.str f.s) []))) x (.ins Ct n (putF "label" (lbV l) (putF "form" (.str f.s) []))) x=some (.ins Ct n (putF "label" (lbV l) (putF "form" (.str f.s) []))):=Z0b;generalize upd (upd H x (.ins Ct n (putF "form" (.str f.s) []))) x (.ins Ct n (putF "label" (lbV l) (putF "form" (.str f.s) [])))=M at*;refine⟨L,.inl ⟨S1.sqL hx hp,λ c O=>?_⟩⟩;have nx:c≠x:=λ z=>Z0g X1 O z.symm;have s2:=Z0n O (.tup L);refine⟨Ct,n,_,s2 _ _ X1,T.Term.cl,T.n_Term_inner,qd4 rfl,?_⟩;have S2:SX x H (upd (upd M c (.tup L)) x (.ins Ct n (putF "inner" (.ref c) (putF "label" (lbV l) (putF "form" (.str f.s) []))))):=S1.trans ((SX.of s2).trans (SX.put _));have X2:upd (upd M c (.tup L)) x (.ins Ct n (putF "inner" (.ref c) (putF "label" (lbV l) (putF "form" (.str f.s) [])))) x=some (.ins Ct n (putF "inner" (.ref c) (putF "label" (lbV l) (putF "form" (.str f.s) [])))):=Z0b;have I2:upd (upd M c (.tup L)) x (.ins Ct n (putF "inner" (.ref c) (putF "label" (lbV l) (putF "form" (.str f.s) [])))) c=some (.tup L):=by rw[Z0e nx];exact Z0b
 clear s2 O X1 S1;generalize upd (upd M c (.tup L)) x (.ins Ct n (putF "inner" (.ref c) (putF "label" (lbV l) (putF "form" (.str f.s) []))))=H2 at*;have X:L.length=ps.length:=hu.length;have U2:TOs K Ct H2 L ps:=hu.kp (S2.kp hx);subst d0;walk_at "r";refine⟨Ct,n,_,X2,T.Term.cl,T.n_Term_inner,.ref c,rfl,c,rfl,⟨_,SqT.of I2⟩,λ D Y=>?_⟩;refine Z0U (ys:=L) none [] (λ j v H=>∃t,ps[j]?=some t/\v=.int ((t.depth:Nat):Int)) (λ _ _ _ _ h _=>h) rfl Y (by rw[sizeLine_eq];omega) (λ M s=>SqT.of (s _ _ I2)) (λ i y hy M K' s k=>?_) (λ U Ha Sa Z lv hR=>?_)
 ·walk_at "r";obtain⟨t,ht,o⟩:=U2.at hy;have o:=o.kp (Kp.of s);obtain⟨a,R,S,g0,h0,i0,rfl,ha,_⟩:=o.inv;exact⟨a,rfl,R,_,ha,rfl,_,t,rfl,o,k _ _ (Same.refl _) ⟨t,ht,rfl⟩⟩
 cases Z3P (g:=λ t:Tm=>V.int ((t.depth:Nat):Int)) (lv.trans X) hR;refine⟨D,rfl,ps.map λ t=>((t.depth:Nat):Int),by rw[qd9];exact SqL.of Z,λ m m0 m1=>?_⟩;cases J7k m0 m1;refine⟨Ct,n,_,Sa _ _ X2,T.Term.cl,T.n_Term_deep,qd4 rfl,?_⟩;have S3:SX x H2 (upd Ha x (.ins Ct n (putF "deep" (.int (1+((maxD ps:Nat):Int))) (putF "inner" (.ref c) (putF "label" (lbV l) (putF "form" (.str f.s) [])))))):=(SX.of Sa).trans (SX.put _);have X3:upd Ha x (.ins Ct n (putF "deep" (.int (1+((maxD ps:Nat):Int))) (putF "inner" (.ref c) (putF "label" (lbV l) (putF "form" (.str f.s) []))))) x=some (.ins Ct n (putF "deep" (.int (1+((maxD ps:Nat):Int))) (putF "inner" (.ref c) (putF "label" (lbV l) (putF "form" (.str f.s) []))))):=Z0b;clear Z hR Y Sa;generalize upd Ha x (.ins Ct n (putF "deep" (.int (1+((maxD ps:Nat):Int))) (putF "inner" (.ref c) (putF "label" (lbV l) (putF "form" (.str f.s) [])))))=H3 at*;have I3:=S3 _ _ nx I2;have U3:TOs K Ct H3 L ps:=hu.kp ((S2.trans S3).kp hx);subst c0;walk_at "r";refine⟨Ct,n,_,X3,T.Term.cl,T.n_Term_inner,.ref c,rfl,c,rfl,⟨_,SqT.of I3⟩,λ D Y=>?_⟩;refine Z0U (ys:=L) none [] (λ j v H=>∃t,ps[j]?=some t/\v=.int ((t.size:Nat):Int)) (λ _ _ _ _ h _=>h) rfl Y (by rw[sizeLine_eq];omega) (λ M s=>SqT.of (s _ _ I3)) (λ i y hy M K' s k=>?_) (λ U Hb Sb Z lv hR=>?_)
 ·walk_at "r";obtain⟨t,ht,o⟩:=U3.at hy;have o:=o.kp (Kp.of s);obtain⟨a,R,S,g0,h0,i0,rfl,ha,_⟩:=o.inv;exact⟨a,rfl,R,_,ha,rfl,_,t,rfl,o,k _ _ (Same.refl _) ⟨t,ht,rfl⟩⟩
 cases Z3P (g:=λ t:Tm=>V.int ((t.size:Nat):Int)) (lv.trans X) hR;refine⟨D,rfl,ps.map (λ t=>((t.size:Nat):Int)),by rw[qd9];exact SqL.of Z,?_⟩;rw[J4F];refine⟨Ct,n,_,Sb _ _ X3,T.Term.cl,T.n_Term_many,qd4 rfl,?_⟩;have S4:SX x H3 (upd Hb x (.ins Ct n (putF "many" (.int (1+((sumS ps:Nat):Int))) (putF "deep" (.int (1+((maxD ps:Nat):Int))) (putF "inner" (.ref c) (putF "label" (lbV l) (putF "form" (.str f.s) []))))))):=(SX.of Sb).trans (SX.put _);have X4:upd Hb x (.ins Ct n (putF "many" (.int (1+((sumS ps:Nat):Int))) (putF "deep" (.int (1+((maxD ps:Nat):Int))) (putF "inner" (.ref c) (putF "label" (lbV l) (putF "form" (.str f.s) [])))))) x=some (.ins Ct n (putF "many" (.int (1+((sumS ps:Nat):Int))) (putF "deep" (.int (1+((maxD ps:Nat):Int))) (putF "inner" (.ref c) (putF "label" (lbV l) (putF "form" (.str f.s) [])))))):=Z0b;clear Z hR Y Sb;generalize upd Hb x (.ins Ct n (putF "many" (.int (1+((sumS ps:Nat):Int))) (putF "deep" (.int (1+((maxD ps:Nat):Int))) (putF "inner" (.ref c) (putF "label" (lbV l) (putF "form" (.str f.s) []))))))=H4 at*;have I4:=S4 _ _ nx I3;have a0:SX x H H4:=S2.trans (S3.trans S4);have U4:TOs K Ct H4 L ps:=hu.kp (a0.kp hx);subst b0;walk_at "r";refine⟨Ct,n,_,X4,T.Term.cl,T.n_Term_inner,.ref c,rfl,c,rfl,⟨_,SqT.of I4⟩,λ D Y=>?_⟩;refine Z0U (ys:=L) none [] (λ j v H=>∃t,ps[j]?=some t/\RT K H v t.dat) (λ j v M H2 ⟨t,a,b⟩ s=>⟨t,a,b.kp (kpN s)⟩) rfl Y (by rw[sizeLine_eq];omega) (λ M s=>SqT.of (s _ _ I4)) (λ i y hy M K' s k=>?_) (λ U Hc Sc Z lv hR=>?_)
 ·walk_at "r";obtain⟨t,ht,o⟩:=U4.at hy;have o:=o.kp (Kp.of s);obtain⟨a,R,S,g0,h0,i0,rfl,ha,_⟩:=o.inv;exact⟨a,rfl,R,_,ha,rfl,_,t,rfl,o,λ u l0=>k _ _ (Same.refl _) ⟨t,ht,l0⟩⟩
 have hd:=J5b (lv.trans X) hR;refine⟨D,rfl,U,.inl ⟨SqL.of Z,λ t5 h5=>?_⟩⟩;have s5:=Z0n h5 (.tup U);refine⟨f,l,t5,U,dats ps,rfl,SqT.of Z0b,hd.same s5,by rw[Z1b];exact k0,by rw[Z1b];exact hl,λ r ws H6 s6 hr hw=>?_⟩;refine⟨Ct,n,_,s6 _ _ (s5 _ _ (Sc _ _ X4)),T.Term.cl,T.n_Term_shape,qd4 rfl,?_⟩;have S6:SX x H4 H6:=SX.of (Sc.trans (s5.trans s6));have X6:=S6;have S7:SX x H6 (upd H6 x (.ins Ct n (putF "shape" (.ref r) (putF "many" (.int (1+((sumS ps:Nat):Int))) (putF "deep" (.int (1+((maxD ps:Nat):Int))) (putF "inner" (.ref c) (putF "label" (lbV l) (putF "form" (.str f.s) [])))))))):=SX.put _;have x6:=s6 _ _ (s5 _ _ (Sc _ _ X4));have k6:Kp H (upd H6 x (.ins Ct n (putF "shape" (.ref r) (putF "many" (.int (1+((sumS ps:Nat):Int))) (putF "deep" (.int (1+((maxD ps:Nat):Int))) (putF "inner" (.ref c) (putF "label" (lbV l) (putF "form" (.str f.s) [])))))))):=(a0.trans (S6.trans S7)).kp hx;refine q _ (a0.trans (S6.trans S7)) ?_;have e:((putF "shape" (.ref r) (putF "many" (.int (1+((sumS ps:Nat):Int))) (putF "deep" (.int (1+((maxD ps:Nat):Int))) (putF "inner" (.ref c) (putF "label" (lbV l) (putF "form" (.str f.s) [])))))):List (V2×V))=fsT f l c r (1+maxD ps) (1+sumS ps):=by
  unfold fsT;rw[qi0,qi0];rfl
 have x7:upd H6 x (.ins Ct n (putF "shape" (.ref r) (putF "many" (.int (1+((sumS ps:Nat):Int))) (putF "deep" (.int (1+((maxD ps:Nat):Int))) (putF "inner" (.ref c) (putF "label" (lbV l) (putF "form" (.str f.s) []))))))) x=some (.ins Ct n (fsT f l c r (1+maxD ps) (1+sumS ps))):=by rw[Z0b,e]
 refine .mk x7 (SqT.of (S7 _ _ nx (S6 _ _ nx I4))) (hu.kp k6) (S7.sqT x6 hr) ?_;exact hw.kt (Kt.put _ x6 (λ _ z=>by cases z) (λ _ _ z=>by cases z))
inductive Z6U(K:X0)(vs:List V)(H:Hp)(Q:VK):Prop
 |mk(v:V)(t:Tm)(a1:vs=[v])(a2:RT K H v t.dat)(a3:Ok t)(a4:t.flat.length<=20000)(a5:∀l us H',Same H H'->H l=none->H' l=some (.lst us)->RTs K H' us (dats t.flat)->Q (.ref l) H'):Z6U K vs H Q
def Z7f(K:X0):Sp:=λ a H Q _=>Z6U K a H Q
theorem Z7q{K:X0}{H:Hp}:∀{j c:List PyData}{e:List V},RTs K H e (j++c)->∃g i,e=g++i/\RTs K H g j/\RTs K H i c
 |[],c,e,h=>⟨[],e,rfl,.nil,h⟩
 |d::j,c,_,.cons a b=>by
  obtain⟨g,i,rfl,m,n⟩:=Z7q b;exact⟨_::g,i,rfl,.cons a m,n⟩
theorem Z5g:∀a:List Tm,a.length<=(flatR a).length
 |[]=>qa1 _
 | .mk f l ps::a=>by
  show a.length+1<=(flatR a++(Tm.mk f l ps::flatR ps)).length;rw[qa5,qc3];have:=Z5g a;omega
theorem J0x(t:Tm):flatR [t]=t::flatR t.ps:=by
 cases t;rfl
noncomputable def WI(K:X0)(H0:Hp)(t:Tm)(v:V)(p1 p2:V0)(m:Nat)(σ:St)(H':Hp):Prop:=∃a b w B c,Same H0 H'/\H' p1=some (.lst a)/\RTs K H' a (dats w)/\H' p2=some (.lst b)/\RTs K H' b (dats B)/\t.flat=w++flatR B/\m=(flatR B).length/\(∀x∈B,Ok x)/\σ=[some v,some (.ref p1),some (.ref p2),c]
theorem J0S(T:Txt K mg Cl Ct Cw Ch Cp)(c:Has P w K mg base 1 "parts_of" ["plain"] (Z6e K)):Has P w K mg base 2 "all_within" ["plain"] (Z7f K):=by
 refine Has.of T.O1a O0s (λ _ _ _ _ _ _ g hl=>el1 g hl λ _=>rfl) (λ e H Q E h=>?_) (λ f g0 A a0 s H e Q E hr h=>?_)
 ·obtain⟨v,t,rfl,_⟩:=h;rfl
 obtain⟨v,t,rfl,hv,ok,hz,q⟩:=h;refine⟨_,(Z0a (qG 1 O0s.nd (Z0t Z0W)) (Z0a (qG 2 O0s.nd (Z0t (qI (pvF 0)))) (Z0a (Z4C PassesOwn.never (J6k (pvF 2) (λ _=>rfl)) (Z0a (qG 3 O0s.nd (J4K qc9 PySem.F.slot_list_pop PySem.F.type_list_pop J4R (pvF 2))) (Z0a (Z1a (Z2f qc9 qd7 qd8 Z0B (pvF 1) (qI (pvF 3)))) (Z0d (Z1a (Z2f (r:=Z6l K) qc9 PySem.F.slot_list_extend PySem.F.type_list_extend J0m (pvF 2) (qI (qF c hr (qI (pvF 3)))))))))) (Z0d (Z0j (pvF 1)))))),?_⟩;refine seq4 λ h0 M i0 N j0 O=>?_;walk_at "r";refine New.of λ C H1 h1 s1 e1=>?_;subst O;walk_at "r";refine New.of λ p2 H2 h2 s2 e2=>?_;subst N;walk_at "r";refine J5A (WI K H t v C p2) ⟨[],[v],[],[t],none,s1.trans s2,s2 _ _ e1,.nil,e2,.cons (hv.same (s1.trans s2)) .nil,?_,rfl,λ x D=>by rw[qa3.mp D];exact ok,rfl⟩ (λ m σ J h=>?_) J2C
 ·show t.flat=[]++([]++t.flat);rfl
 obtain⟨g,e,w,B,o3,S,R,hu,j,hB,L,hm,U,rfl⟩:=h;walk_at "r";have G:C≠p2:=Z0g e1 h2;have n1:H C=none:=h1;have n2:H p2=none:=s1.free h2;have k0:g.length<=20000:=by
  rw[hu.length,Z1b];have:=congrArg qd5 L;rw[qa5]at this;omega
 refine⟨e,SqL.of j,?_⟩;cases X:B.length with
 |zero=>
  cases qj0.mp X;cases hB.nil_inv;refine ite2 (λ z=>by cases z) (λ _=>?_);subst M;walk_at "r";refine q C g J S n1 R ?_;rw[L,show flatR ([]:List Tm)=[]from rfl,qd0];exact hu
 |succ n=>
  obtain⟨B,b,rfl,_⟩:=P15.Z7Q X;rw[Z3U]at hB;obtain⟨e,ys,rfl,Y,hy⟩:=Z7q hB;obtain⟨u,r0,rfl,b0,c0⟩:=hy.inv;cases c0.nil_inv;have d0:=U b (by simp);obtain⟨f,l,ps⟩:=b;obtain⟨of,op⟩:okF f l ps.length/\∀p∈ps,Ok p:=by cases d0 with|mk a b=>exact⟨a,b⟩
  obtain⟨a,ws,rfl,hq,hw⟩:=b0.tup_inv;rw[P15.Z4d,J0x]at L hm;have e0:ps.length<=20000:=by
   have f0:t.flat=w++(Tm.mk f l ps::flatR ps++flatR B):=L;have:=congrArg qd5 f0;simp only[qa5,qc3]at this;have:=Z5g ps;omega
  refine ite2 (λ _=>?_) (λ z=>absurd (by cases e<;>rfl) z);refine⟨.inl ⟨rfl,_,SqL.of j⟩,_,j,.ref a,by simp,?_⟩;rw[List.dropLast_concat];have g1:upd J p2 (.lst e) C=some (.lst g):=by rw[Z0e G];exact R
  have g2:upd (upd J p2 (.lst e)) C (.lst (g++[.ref a])) p2=some (.lst e):=by rw[Z0e G.symm];exact Z0b
  have k2:Kp J (upd (upd J p2 (.lst e)) C (.lst (g++[.ref a]))):=(Kp.lst _ j).trans (Kp.lst _ g1);refine⟨.inl ⟨rfl,_,SqL.of g1⟩,g,g1,qR,.inl ⟨rfl,_,SqL.of g2⟩,f,l,a,ws,dats ps,rfl,SqT.kp hq k2,hw.kp k2,by rw[Z1b];exact of,by rw[Z1b];exact e0,λ r I H5 Z hr y=>?_⟩;have l0:e.length<=20000:=by
   rw[Y.length,Z1b];have:=congrArg qd5 L;simp only[qa5,qc3]at this;have:=Z5g B;omega
  have g5:=Z _ _ g2;have k5:Kp J (upd H5 p2 (.lst (e++I))):=k2.trans ((Kp.of Z).trans (Kp.lst _ g5));refine⟨r,rfl,e,g5,I,hr,by rw[y.length,Z1b];omega,(flatR (B++ps)).length,?_,g++[.ref a],e++I,w++[.mk f l ps],B++ps,_,λ b o hb=>?_,?_,?_,Z0b,?_,?_,rfl,λ x D=>?_,rfl⟩
  ·rw[hm,P15.Z4d];exact qj2 _
  ·rw[Z0e (Z0g hb n2)];refine Z _ _ ?_;rw[Z0e (Z0g hb n1),Z0e (Z0g hb n2)];exact S _ _ hb
  ·rw[Z0e G];exact Z _ _ Z0b
  ·rw[Z3U];exact(hu.kp k5).app (.cons (.tup (SqT.kp hq k5) (hw.kp k5)) .nil)
  ·rw[Z3U];exact(Y.kp k5).app (y.kp (Kp.lst _ g5))
  ·rw[P15.Z4d,qe8];exact L
  ·rcases qb5.mp D with D|D
   ·exact U x (qe0 _ D)
   ·exact op x D
inductive Z7w(C:V0)(K:X0)(vs:List V)(H:Hp)(Q:VK):Prop
 |mk(v:V)(t:Tm)(a1:vs=[v])(a2:RT K H v t.dat)(a3:Ok t)(a4:t.flat.length<=20000)(a5:∀u H',Same H H'->TO K C H' u t->Q u H'):Z7w C K vs H Q
def Z7A(C:V0)(K:X0):Sp:=λ a H Q _=>Z7w C K a H Q
theorem SX.kpl{x:V0}{xs:List V}{H H':Hp}(s:SX x H H')(a:H x=some (.lst xs)):Kp H H':=
 ⟨λ b xs h=>s b _ (λ z=>by rw[z,a]at h;cases h) h,λ b o xs h=>s b _ (λ z=>by rw[z,a]at h;cases h) h,λ b C c f fs h=>s b _ (λ z=>by rw[z,a]at h;cases h) h⟩
theorem Z9f:∀a:List Tm,dats a.reverse=(dats a).reverse
 |[]=>rfl
 |t::a=>by rw[qf8,Z3U,Z9f];show _=(t.dat::dats a).reverse;rw[qf8];rfl
theorem J2G{K:X0}{H:Hp}:∀{c:List V}{e:List PyData},RTs K H c e->RTs K H c.reverse e.reverse
 |_,_,.nil=>.nil
 |_,_,.cons a b=>by rw[qf8,qf8];exact(J2G b).app (.cons a .nil)
mutual
theorem J2t:∀(t:Tm),Ok t->∀x∈t.flat,Ok x
 | .mk f l ps,h,x,c=>by
  rcases qa2.mp c with rfl|c
  ·exact h
  ·cases h with
   |mk a b=>exact flats_ok ps b x c
theorem flats_ok:∀(b:List Tm),(∀p∈b,Ok p)->∀x∈flatR b,Ok x
 |t::b,h,x,a=>by
  rcases qb5.mp a with a|a
  ·exact flats_ok b (λ p c=>h p (qb1 _ c)) x a
  ·exact J2t t (h t qa9) x a
end
theorem J5R{a:Type}{xs:List a}{y:a}:(xs++[y])[(xs++[y]).length-1]?=some y:=by simp
theorem J6i{w S:List Tm}(h:Bld w S):S.length<=w.length:=by
 induction h with
 |nil=>exact qa1 _
 |snoc _ a=>
  rw[qa5]at a ⊢;rw[qa5];show _+1<=_+1;omega
noncomputable def FI(K:X0)(C:V0)(H2:Hp)(t:Tm)(v:V)(p1:V0)(i:Nat)(σ:St)(H':Hp):Prop:=∃a S b c,SX p1 H2 H'/\H' p1=some (.lst a)/\Bld (t.flat.reverse.take i) S/\TM.TOs K C H' a S/\σ=[some v,some (.ref p1),b,c]
theorem J2g(T:Txt K mg Cl Ct Cw Ch Cp)(G:Has P w K mg base 1 "parts_of" ["plain"] (Z6e K))(I:Has P w K mg base 1 "label_of" ["plain"] (Z9s K))(g:Has P w K mg base 2 "all_within" ["plain"] (Z7f K))(c:HasM P w K mg base 2 Ct "__init__" ["self","form","label","parts"] (Z9r Ct K)):Has P w K mg base 4 "term_of" ["plain"] (Z7A Ct K):=by
  refine Has.of T.O1w O0A (λ _ _ _ _ _ _ us hl=>el1 us hl λ _=>rfl) (λ vs H Q E h=>?_) (λ f C0 A q0 s H vs Q E hr h=>?_)
  · obtain⟨v,t,rfl,_⟩:=h;rfl
  obtain⟨v,t,rfl,hv,ok,hz,q⟩:=h;refine⟨_,(Z0a (Z1W (i:=1) O0A.nd rfl (Or.inr rfl) (Z0t Z0W)) (Z0a (Z0T PassesOwn.never rfl (J4G rfl T.O0G Z4Q (qI (qF g hr (qI (pvF 0))))) (qH 2 O0A.nd) (Z0a (Z1D rfl O0A.nd (i:=3) rfl rfl (BlockOk.of (N:=["part","built"]) (nl:=[none,some 1]) (cl:=[("built",s.heap.objs.size+1)]) rfl qP qP rfl (sub1 rfl) (nm:=["built"]) rfl qP rfl (λ i hi j hj=>by
            match i,hi with
            | 0,_=>cases hj
             |1,_=>cases hj;exact⟨_,rfl,rfl,rfl,.inl rfl⟩
            )) (Z1s (qF G hr (qI (pvF 2)))) (λ C fp s H=>(qH 0 (show(["part","built"]:List V2).Nodup by decide+kernel))) (λ C fp s H=>(show PE _ _ (tBM0 K "list" rPop _)from J4K qc9 PySem.F.slot_list_pop PySem.F.type_list_pop J4R (pvF 1)))) (Z0d (Z1a (Z2f qc9 qd7 qd8 Z0B (pvF 1) (qI (Z7M T.Term c hr qQ rfl (qK (qA K 2) (qF I hr (qI (pvF 2))) (J5f rfl rfl rfl T.O0E T.O0G (qI (pvF 3))))))))))) (Z0d (Z0j (qD K (pvF 1) Z0c))))),?_⟩
  refine seq3 λ D0 c0 G0 d0=>?_;walk_at "r";refine New.of λ p1 H1 h1 s1 e1=>?_;subst d0;walk_at "r";refine⟨v,t,rfl,hv.same s1,ok,hz,λ a us H2 s2 s0 ha e0=>⟨a,rfl,us,SqL.of ha,?_⟩⟩;have e2:=s2 _ _ e1;have t0:a≠p1:=λ z=>Z0g e1 s0 z.symm;have a0:Bld t.flat.reverse [t]:=P15.Bld.flat t (w:=[]) (B:=[]) .nil;have f0:us.length=t.flat.length:=by rw[e0.length,Z1b]
  refine Z8E us (FI K Ct H2 t v p1) ⟨[],[],none,none,λ _ _ _ h=>h,e2,.nil,.nil,rfl⟩ (λ i σ H' _ h=>?_) (λ i x σ H' hx h=>?_) (λ σ H' h=>?_)
  · obtain⟨os,S,o2,o3,sx,_⟩:=h;exact SqL.of (sx _ _ t0 ha)
  · obtain⟨os,S,o2,o3,sx,hp,hb,ho,rfl⟩:=h;have kp:=SX.kpl sx e2;have hi:i<us.length:=by
      have:=(qa7.mp hx).1
      rwa [qi7]at this
    have R:=(J2G e0).kp kp;rw[<-Z9f]at R;obtain⟨d,hd,R⟩:=R.at hx;obtain⟨y,hy,rfl⟩:=J1M hd;obtain⟨C,rfl,u0⟩:=a0.next hy hb;have w0:=J2t t ok y (List.mem_reverse.mp (qb0 hy));obtain⟨f,l,ps⟩:=y;obtain⟨of,op⟩:okF f l ps.length/\∀p∈ps,Ok p:=by cases w0 with|mk a b=>exact⟨a,b⟩
    obtain⟨xa,ws,rfl,hq,hw⟩:=R.tup_inv;have x0:=J6i hb;have g0:ps.length<=20000/\C.length<=20000:=by
      rw[qa5,qb3]at x0;have:(Tm.mk f l ps).ps.length=ps.length:=rfl;omega
    obtain⟨U,u,rfl,h0,i0⟩:=TM.TOs.split ho;have lP:u.length=ps.length:=i0.length;have lC:U.length=C.length:=h0.length;walk_at "r";refine⟨f,l,xa,ws,dats ps,rfl,hq,hw,by rw[Z1b];exact of,by rw[Z1b];exact g0.1,λ r X H3 s3 hr j0=>⟨r,rfl,⟨_,hr⟩,λ D hD=>?_⟩⟩;have I0:X.length=ps.length:=by rw[j0.length,Z1b]
    have J:=s3 _ _ hp;have b0:D≠p1:=λ z=>Z0g J hD z.symm;have sq:∀{H4:Hp},(∀b o,b≠p1->b≠D->H3 b=some o->H4 b=some o)->Kp H3 H4:=λ h=>⟨λ b xs e=>h b _ (λ z=>by rw[z,J]at e;cases e) (λ z=>by rw[z,hD]at e;cases e) e,λ b o xs e=>h b _ (λ z=>by rw[z,J]at e;cases e) (λ z=>by rw[z,hD]at e;cases e) e,λ b C dx f fs e=>h b _ (λ z=>by rw[z,J]at e;cases e) (λ z=>by rw[z,hD]at e;cases e) e⟩;refine Z6k (n:=ps.length) none [some (.ref p1)] (λ _ _=>True) (λ j vs H4=>H4 p1=some (.lst (U++u.take (ps.length-j)))/\vs=(u.drop (ps.length-j)).reverse/\∀b o,b≠p1->b≠D->H3 b=some o->H4 b=some o) rfl (by rw[sizeLine_eq];omega) ⟨?_,?_,λ b o _ Y h=>?_⟩ (λ j vs H4 hj hW=>?_) (λ vs H4 hW=>?_) (λ j x vs H4 K' hj _ hW L k=>?_) (λ vs H4 hW L hl=>?_)
    · rw[Z0e b0.symm,Nat.sub_zero,qd6 qR];exact J
    · rw[Nat.sub_zero,qn0 qR];rfl
    · rw[Z0e Y];exact h
    · exact⟨⟨X,X[j],SqT.kp hr (sq hW.2.2),qa8 qR⟩,λ x H2 hy=>⟨hy.1,trivial⟩⟩
    · exact⟨X,SqT.kp hr (sq hW.2.2),qR⟩
    · obtain⟨O,rfl,g3⟩:=hW;obtain⟨m,em⟩:∃m,ps.length-j=m+1:=⟨ps.length-j-1,qR⟩;have k0:ps.length-(j+1)=m:=by omega
      have hm:m<u.length:=by omega
      rw[em]at O L k;rw[qf1 hm,<-qe8]at O;walk_at "r";refine⟨.inl ⟨rfl,_,SqL.of O⟩,_,O,u[m],J5R,?_⟩;rw[List.dropLast_concat];refine k _ _ (by rw[Z0e b0];exact L) ⟨?_,?_,λ b o Y l0 h=>?_⟩
      · rw[Z0e b0.symm,k0];exact Z0b
      · rw[k0,qn1 hm,qf8]
      · rw[Z0e l0,Z0e Y];exact g3 b o Y l0 h
    · obtain⟨O,rfl,g3⟩:=hW;rw[Nat.sub_self,List.take_zero,qd0]at O;rw[Nat.sub_self,List.drop_zero]at L;have k4:Kp H' H4:=(Kp.of s3).trans (sq g3);have m0:okF f l (dats ps).length:=by rw[Z1b];exact of
      obtain⟨r0,er⟩:=x_hd m0;have n0:=hw;rw[er]at n0;obtain⟨v0,wr,rfl,y0,_⟩:=n0.inv;cases y0.str_inv;refine⟨.inl ⟨rfl,_,SqL.of O⟩,_,SqT.kp hq k4,_,ix0,f,l,xa,_,dats ps,rfl,SqT.kp hq k4,hw.kp k4,m0,λ H5 s5=>?_⟩;refine⟨D,rfl,_,SqL.of (s5 _ _ L),λ li z0 x5 dx M o0 A0=>?_⟩;rw[List.reverse_reverse]at M o0 ⊢;have sa:=Z0n z0 (.lst u);have sb:=Z0n o0 (.own x5);have sc:=Z0n (show upd (upd H5 li (.lst u)) dx (.own x5) x5=none by rw[Z0e (λ z=>A0 z.symm)];exact M) (.ins Ct dx []);have S5:Same H4 (upd (upd (upd H5 li (.lst u)) dx (.own x5)) x5 (.ins Ct dx [])):=s5.trans (sa.trans (sb.trans sc));have p0:=sa _ _ (s5 _ _ O);refine⟨x5,dx,li,f,l,u,ps,rfl,Z0b,SqL.of (sc _ _ (sb _ _ Z0b)),i0.kp (k4.trans (Kp.of S5)),of,g0.1,λ H6 Z B0=>⟨rfl,U,Z _ _ (Z0g p0 M) (S5 _ _ O),by rw[lC];omega,?_⟩⟩;have g6:=Z _ _ (Z0g p0 M) (S5 _ _ O);have k6:Kp H' (upd H6 p1 (.lst (U++[.ref x5]))):=k4.trans ((Kp.of S5).trans ((SX.kp Z Z0b).trans (Kp.lst _ g6)));refine⟨_,_,_,_,λ b o Y h=>?_,Z0b,u0,(h0.kp k6).app (.cons (B0.kp (Kp.lst _ g6)) .nil),rfl⟩;rw[Z0e Y];have h4:=g3 b o Y (λ z=>Z0g (s3 _ _ (sx _ _ Y h)) hD z) (s3 _ _ (sx _ _ Y h));exact Z _ _ (Z0g (sa _ _ (s5 _ _ h4)) M) (S5 _ _ h4)
  · obtain⟨os,S,o2,o3,sx,hp,hb,ho,rfl⟩:=h;subst c0;walk_at "r";rw[f0,qd6 (by rw[qi7];exact qa1 _)]at hb;cases P15.Bld.det rfl hb a0;cases ho with
    |cons a b=>
      refine⟨_,SqL.of hp,_,ix0,q _ H' (λ b o hb=>?_) a⟩;exact sx _ _ (Z0g hb h1) ((s1.trans s2) _ _ hb)
inductive Z9H(K:X0)(vs:List V)(H:Hp)(Q:VK):Prop
 |mk(v:V)(ps:List (V2×V2))(a1:vs=[v])(a2:RT K H v (Z2a ps))(a3:ps.length<=100)(a4:∀r H',Same H H'->RT K H' (.ref r) (Z2a ps)->Q (.ref r) H'):Z9H K vs H Q
def Z6c(K:X0):Sp:=λ a H Q _=>Z9H K a H Q
inductive Z8T(c:CS)(K:X0)(vs:List V)(H:Hp)(Q:VK):Prop
 |mk(x dx:V0)(pp bv:V)(d:Wd)(a1:vs=[.ref x,.str d.name,pp,.str d.kind,bv])(a2:H x=some (.ins c.word dx []))(a3:RT K H pp (Z2a d.params))(a4:d.params.length<=100)(a5:TO K c.term H bv d.body)(a6:∀H',SX x H H'->WdO K c H' (.ref x) d->Q .non H'):Z8T c K vs H Q
def Z9i(c:CS)(K:X0):Sp:=λ a H Q _=>Z8T c K a H Q
inductive Z9q(c:CS)(K:X0)(vs:List V)(H:Hp)(Q:VK):Prop
 |mk(x dx wl:V0)(fv:V)(ws:List V)(d:Hs)(a1:vs=[.ref x,.str d.name,oS d.elder,fv,.ref wl])(a2:H x=some (.ins c.house dx []))(a3:RT K H fv (Z2a d.fields))(a4:d.fields.length<=100)(a5:SqL K H wl ws)(a6:A2 (WdO K c H) ws d.words)(a7:∀H',SX x H H'->HsO K c H' (.ref x) d->Q .non H'):Z9q c K vs H Q
def Z9A(c:CS)(K:X0):Sp:=λ a H Q _=>Z9q c K a H Q
inductive Z9e(c:CS)(K:X0)(vs:List V)(H:Hp)(Q:VK):Prop
 |mk(x dx hl:V0)(mv:V)(hs:List V)(d:Pg)(a1:vs=[.ref x,.ref hl,mv])(a2:H x=some (.ins c.program dx []))(a3:SqL K H hl hs)(a4:A2 (HsO K c H) hs d.houses)(a5:WdO K c H mv d.main)(a6:∀H',SX x H H'->PgO K c H' (.ref x) d->Q .non H'):Z9e c K vs H Q
def Z8F(c:CS)(K:X0):Sp:=λ a H Q _=>Z9e c K a H Q
theorem SX.ktf{x C c:V0}{fs:List (V2×V)}{H H':Hp}(s:SX x H H')(a:H x=some (.ins C c fs)):Kt H H':=
 ⟨λ b e h=>s b _ (λ z=>by rw[z,a]at h;cases h) h,λ b o e h=>s b _ (λ z=>by rw[z,a]at h;cases h) h⟩
theorem WdO.kp{K:X0}{c:CS}{H H':Hp}{v:V}{d:Wd}(h:WdO K c H v d)(k:Kp H H'):WdO K c H' v d:=by
 cases h with
 |mk a b t=>exact .mk (k.i _ _ _ _ _ a) (b.kp k) (t.kp k)
theorem HsO.kp{K:X0}{c:CS}{H H':Hp}{v:V}{d:Hs}(h:HsO K c H v d)(k:Kp H H'):HsO K c H' v d:=by
 cases h with
 |mk a b q t=>exact .mk (k.i _ _ _ _ _ a) (b.kp k) (SqT.kp q k) (t.mono λ _ _ r=>WdO.kp r k)
theorem Z3G{i:Type}{K:X0}{H:Hp}(f:i->PyData):∀{c:List i}{g:List V},g.length=c.length->(∀(j:Nat) v,g[j]?=some v->∃t,c[j]?=some t/\RT K H v (f t))->RTs K H g (c.map f)
 |[],[],_,_=>.nil
 |t::c,v::g,e,h=>by
  obtain⟨n,a,b⟩:=h 0 v rfl;cases a;exact .cons b (Z3G f (qk9 e) λ j u m=>h (j+1) u m)
theorem J2N(T:Txt K mg Cl Ct Cw Ch Cp):Has P w K mg base 1 "pairs_of" ["pairs"] (Z6c K):=by
 refine Has.of T.O1q Z8m (λ _ _ _ _ _ _ L o=>el1 L o λ _=>rfl) (λ c H Q E h=>?_) (λ f M A e s H c Q E hr h=>?_)
 ·obtain⟨v,ps,rfl,_⟩:=h;rfl
 obtain⟨v,ps,rfl,O,o,q⟩:=h;obtain⟨pa,u,rfl,x,z⟩:=O.tup_inv;have R:u.length=ps.length:=by rw[z.length,qa0]
 refine⟨_,(Z0d (Z0j (Z0o Z0q rfl T.O0m Z0O (qI (Z0S rfl (BlockOk.plain (N:=["pair"]) rfl qP qP qP) (Z1s (pvF 0)) (λ C S s H=>(qH 0 (show(["pair"]:List V2).Nodup by decide+kernel))) (λ C S s H=>(Z0o (r:=J5a K) Z0q rfl T.O0m Z0O (qI (pvF 0))))))))),?_⟩;walk_at "r";refine⟨⟨_,x⟩,λ D U=>?_⟩;refine Z0U (ys:=u) none [] (λ j v H=>∃p,ps[j]?=some p/\RT K H v (.tuple [.str p.1,.str p.2])) (λ j v G H2 ⟨t,a,b⟩ s=>⟨t,a,b.kp (kpN s)⟩) rfl U (by rw[sizeLine_eq];omega) (λ G s=>SqT.same x s) (λ i y X G K' s k=>?_) (λ c Hc Sc Y Z hR=>?_)
 ·walk_at "r";obtain⟨d,hd,g⟩:=z.at X;rw[qa4]at hd;obtain⟨p,m,rfl⟩:=qc1.mp hd;obtain⟨a,zs,rfl,I,n⟩:=g.tup_inv;exact⟨a,rfl,zs,.inr ⟨SqT.same I s,k _ _ (Same.refl _) ⟨p,m,.tup (SqT.same I s) (n.same s)⟩⟩⟩
 refine⟨D,rfl,c,.inl ⟨SqL.of Y,λ t5 h5=>?_⟩⟩;have J:=Z0n h5 (.tup c);refine q _ _ (Sc.trans J) (.tup (SqT.of Z0b) ?_);refine RTs.same ?_ J;exact Z3G (λ p=>.tuple [.str p.1,.str p.2]) (Z.trans R) hR
theorem J3T(T:Txt K mg Cl Ct Cw Ch Cp)(a:Has P w K mg base 1 "pairs_of" ["pairs"] (Z6c K)):HasM P w K mg base 2 Cw "__init__" ["self","name","params","kind","body"] (Z9i (CS.mk Ct Cw Ch Cp Cl Cs Cq Ck B) K):=by
 refine HasM.of T.m_Word___init__ Z4y (λ _ _ _ _ _ _ D i=>el5 D i λ _ _ _ _ _=>rfl) (λ G H Q E h=>?_) (λ f I A j s H G Q E J h=>?_)
 ·obtain⟨x,b,o,p,d,rfl,_⟩:=h;rfl
 obtain⟨x,b,o,p,d,rfl,m,L,i,M,q⟩:=h;refine⟨_,(Z0a (Z1c (pvF 0) (pvF 1) rfl) (Z0a (Z1c (pvF 0) (qF a J (qI (pvF 2))) rfl) (Z0a (Z1c (pvF 0) (pvF 3) rfl) (Z0d (Z1c (pvF 0) (pvF 4) rfl))))),?_⟩;refine seq4 λ N c O e R g=>?_;walk_at "r";refine⟨Cw,b,_,m,T.Word.cl,T.n_Word_name,qd4 rfl,?_⟩;subst g;walk_at "r";have u:SX x H (upd H x (.ins Cw b (putF "name" (.str d.name) []))):=SX.put _;have S:upd H x (.ins Cw b (putF "name" (.str d.name) [])) x=some (.ins Cw b (putF "name" (.str d.name) [])):=Z0b;generalize upd H x (.ins Cw b (putF "name" (.str d.name) []))=X at*;refine⟨o,d.params,rfl,L.kp (u.kp m),i,λ r U v n=>?_⟩;have y:=v _ _ S;refine⟨Cw,b,_,y,T.Word.cl,T.n_Word_params,qd4 rfl,?_⟩;subst e;walk_at "r";refine⟨Cw,b,_,Z0b,T.Word.cl,T.n_Word_kind,qd4 rfl,?_⟩;subst c;walk_at "r";refine⟨Cw,b,_,Z0b,T.Word.cl,T.n_Word_body,qd4 rfl,?_⟩;have z:SX x U _:=(SX.put (.ins Cw b (putF "params" (.ref r) (putF "name" (.str d.name) [])))).trans ((SX.put (.ins Cw b (putF "kind" (.str d.kind) (putF "params" (.ref r) (putF "name" (.str d.name) []))))).trans (SX.put (.ins Cw b (putF "body" p (putF "kind" (.str d.kind) (putF "params" (.ref r) (putF "name" (.str d.name) [])))))));have C:=u.trans ((SX.of v).trans z);exact q _ C (.mk (Z0b) (n.kt (SX.ktf z y)) (M.kp (C.kp m)))
theorem J3Q(T:Txt K mg Cl Ct Cw Ch Cp)(a:Has P w K mg base 1 "pairs_of" ["pairs"] (Z6c K)):HasM P w K mg base 2 Ch "__init__" ["self","name","elder","own_fields","own_words"] (Z9A (CS.mk Ct Cw Ch Cp Cl Cs Cq Ck B) K):=by
 refine HasM.of T.m_House___init__ Z4l (λ _ _ _ _ _ _ R o=>el5 R o λ _ _ _ _ _=>rfl) (λ S H Q E h=>?_) (λ f U A p s H S Q E X h=>?_)
 ·obtain⟨x,b,Y,y,u,d,rfl,_⟩:=h;rfl
 obtain⟨x,b,Y,y,u,d,rfl,m,Z,o,hw,hb,q⟩:=h;refine⟨_,(Z0a (Z1c (pvF 0) (pvF 1) rfl) (Z0a (Z1c (pvF 0) (pvF 2) rfl) (Z0a (Z1c (pvF 0) (qF a X (qI (pvF 3))) rfl) (Z0d (Z1c (pvF 0) (Z0o Z0q rfl T.O0m Z0O (qI (pvF 4))) rfl))))),?_⟩;refine seq4 λ a0 c b0 e c0 g=>?_;walk_at "r";refine⟨Ch,b,_,m,T.House.cl,T.n_House_name,qd4 rfl,?_⟩;subst g;walk_at "r";refine⟨Ch,b,_,Z0b,T.House.cl,T.n_House_elder,qd4 rfl,?_⟩;subst e;walk_at "r";have C:SX x H (upd (upd H x (.ins Ch b (putF "name" (.str d.name) []))) x (.ins Ch b (putF "elder" (oS d.elder) (putF "name" (.str d.name) [])))):=(SX.put _).trans (SX.put _);have X1:upd (upd H x (.ins Ch b (putF "name" (.str d.name) []))) x (.ins Ch b (putF "elder" (oS d.elder) (putF "name" (.str d.name) []))) x=some (.ins Ch b (putF "elder" (oS d.elder) (putF "name" (.str d.name) []))):=Z0b;generalize upd (upd H x (.ins Ch b (putF "name" (.str d.name) []))) x (.ins Ch b (putF "elder" (oS d.elder) (putF "name" (.str d.name) [])))=H1 at*;refine⟨y,d.fields,rfl,Z.kp (C.kp m),o,λ r n D v=>?_⟩;have G:=D _ _ X1;refine⟨Ch,b,_,G,T.House.cl,T.n_House_own_fields,qd4 rfl,?_⟩;subst c;walk_at "r";have I:SX x n (upd n x (.ins Ch b (putF "own_fields" (.ref r) (putF "elder" (oS d.elder) (putF "name" (.str d.name) []))))):=SX.put _;have J:upd n x (.ins Ch b (putF "own_fields" (.ref r) (putF "elder" (oS d.elder) (putF "name" (.str d.name) [])))) x=some (.ins Ch b (putF "own_fields" (.ref r) (putF "elder" (oS d.elder) (putF "name" (.str d.name) [])))):=Z0b;generalize upd n x (.ins Ch b (putF "own_fields" (.ref r) (putF "elder" (oS d.elder) (putF "name" (.str d.name) []))))=H3 at*;have i:=C.trans ((SX.of D).trans I);refine⟨u,.inl ⟨i.sqL m hw,λ L j=>?_⟩⟩;have M:=Z0n j (.tup u);have X4:=M _ _ J;have nx:L≠x:=λ z=>Z0g J j z.symm;refine⟨Ch,b,_,X4,T.House.cl,T.n_House_own_words,qd4 rfl,?_⟩;have N:=(SX.of (x:=x) M).trans (SX.put (.ins Ch b (putF "own_words" (.ref L) (putF "own_fields" (.ref r) (putF "elder" (oS d.elder) (putF "name" (.str d.name) []))))));have O:=i.trans N;refine q _ O (.mk Z0b (v.kt (SX.ktf (I.trans N) G)) (SqT.of (by rw[Z0e nx];exact Z0b)) (hb.mono λ _ _ r=>WdO.kp r (O.kp m)))
theorem J4r(T:Txt K mg Cl Ct Cw Ch Cp):HasM P w K mg base 1 Cp "__init__" ["self","all_houses","main"] (Z8F (CS.mk Ct Cw Ch Cp Cl Cs Cq Ck B) K):=by
 refine HasM.of T.m_Program___init__ Z3J (λ _ _ _ _ _ _ v g=>el3 v g λ _ _ _=>rfl) (λ y H Q E h=>?_) (λ f C A i s H y Q E L h=>?_)
 ·obtain⟨x,a,g,o,j,d,rfl,_⟩:=h;rfl
 obtain⟨x,a,g,o,j,d,rfl,e,D,G,I,q⟩:=h;refine⟨_,(Z0a (Z1c (pvF 0) (Z0o Z0q rfl T.O0m Z0O (qI (pvF 1))) rfl) (Z0d (Z1c (pvF 0) (pvF 2) rfl))),?_⟩;refine seq2 λ J b=>?_;walk_at "r";refine⟨j,.inl ⟨D,λ m c=>?_⟩⟩;have p:=Z0n c (.tup j);have u:m≠x:=λ z=>Z0g e c z.symm;refine⟨Cp,a,_,p _ _ e,T.Program.cl,T.n_Program_all_houses,qd4 rfl,?_⟩;subst b;walk_at "r";refine⟨Cp,a,_,Z0b,T.Program.cl,T.n_Program_main,qd4 rfl,?_⟩;have n:=(SX.of (x:=x) p).trans ((SX.put (.ins Cp a (putF "all_houses" (.ref m) []))).trans (SX.put (.ins Cp a (putF "main" o (putF "all_houses" (.ref m) [])))));exact q _ n (.mk Z0b (SqT.of (by rw[Z0e u,Z0e u];exact Z0b)) (G.mono λ _ _ r=>HsO.kp r (n.kp e)) (WdO.kp I (n.kp e)))
inductive J2h(c:CS)(K:X0)(vs:List V)(H:Hp)(Q:VK):Prop
 |mk(v:V)(d:Wd)(a1:vs=[v])(a2:RT K H v (Z2y d))(a3:WdOk d)(a4:∀u H',Same H H'->WdO K c H' u d->Q u H'):J2h c K vs H Q
def Z8v(c:CS)(K:X0):Sp:=λ a H Q _=>J2h c K a H Q
inductive Z9d(c:CS)(K:X0)(vs:List V)(H:Hp)(Q:VK):Prop
 |mk(v:V)(d:Hs)(a1:vs=[v])(a2:RT K H v (Z2l d))(a3:HsOk d)(a4:∀u H',Same H H'->HsO K c H' u d->Q u H'):Z9d c K vs H Q
def Z8I(c:CS)(K:X0):Sp:=λ a H Q _=>Z9d c K a H Q
inductive Z5z(c:CS)(K:X0)(vs:List V)(H:Hp)(Q:VK):Prop
 |mk(v:V)(d:Pg)(a1:vs=[v])(a2:RT K H v (Z6F d))(a3:(∀h∈d.houses,HsOk h))(a4:d.houses.length<=100)(a5:WdOk d.main)(a6:d.main.name="main")(a7:∀u H',Same H H'->PgO K c H' u d->Q u H'):Z5z c K vs H Q
def Z9N(c:CS)(K:X0):Sp:=λ a H Q _=>Z5z c K a H Q
theorem Z3Z{H:Hp}{x a C:V0}(c:H x=none)(b:H a=none)(e:a≠x):Same H (upd (upd H a (.own x)) x (.ins C a [])):=
 (Z0n b _).trans (Z0n (by rw[Z0e (λ z=>e z.symm)];exact c) _)
theorem J8N{K:X0}{H:Hp}{v:V}{o:Option V2}(h:RT K H v (oD o)):v=oS o:=by
 cases o with
 |none=>cases h;rfl
 |some s=>cases h;rfl
theorem J4A{a:Type}{b:V->a->Prop}{vs:List V}{ts:List a}(l:vs.length=ts.length)(h:∀(j:Nat) v,vs[j]?=some v->∃t,ts[j]?=some t/\b v t):A2 b vs ts:=A2.of l h
theorem J5c(T:Txt K mg Cl Ct Cw Ch Cp)(c:Has P w K mg base 4 "term_of" ["plain"] (Z7A Ct K))(b:HasM P w K mg base 2 Cw "__init__" ["self","name","params","kind","body"] (Z9i (CS.mk Ct Cw Ch Cp Cl Cs Cq Ck B) K)):Has P w K mg base 5 "word_of" ["plain"] (Z8v (CS.mk Ct Cw Ch Cp Cl Cs Cq Ck B) K):=by
 refine Has.of T.O1v O0v (λ _ _ _ _ _ _ D G=>el1 D G λ _=>rfl) (λ I H Q E h=>?_) (λ f J A j s H I Q E z h=>?_)
 ·obtain⟨v,d,rfl,_⟩:=h;rfl
 obtain⟨v,d,rfl,L,hd,q⟩:=h;obtain⟨a,xs,rfl,M,g⟩:=L.tup_inv;obtain⟨v1,r1,rfl,N,g⟩:=g.inv;obtain⟨O,r2,rfl,R,g⟩:=g.inv;obtain⟨v3,r3,rfl,S,g⟩:=g.inv;obtain⟨U,r4,rfl,X,g⟩:=g.inv;cases g.nil_inv;cases N.str_inv;cases S.str_inv;refine⟨_,(Z0a (Z3V (pvF 0) (Z2Y (n:=4) rfl (Z0u (qH 1 O0v.nd) (Z0u (qH 2 O0v.nd) (Z0u (qH 3 O0v.nd) (Z0u (qH 4 O0v.nd) Z2P)))))) (Z0d (Z0j (Z7M T.Word b z qQ rfl (Z0v (pvF 1) (qK (pvF 2) (pvF 3) (qF c z (qI (pvF 4))))))))),?_⟩;walk_at "r";refine⟨_,M,rfl,⟨_,_,rfl,⟨_,_,rfl,⟨_,_,rfl,⟨_,_,rfl,?_⟩⟩⟩⟩⟩;walk_at "r";refine⟨U,d.body,rfl,X,hd.ok,hd.fl,λ u H1 m p x Y g r Z=>?_⟩;have y:=Z3Z (C:=Cw) g r Z;refine⟨x,Y,O,u,d,rfl,Z0b,R.same (m.trans y),hd.pl,p.kp (Kp.of y),λ H3 sx hw=>⟨rfl,q _ _ (Z4B (m.trans y) sx ?_) hw⟩⟩;cases e:H x with
 |none=>rfl
 |some o=>rw[m _ _ e]at g;cases g
theorem J3p(T:Txt K mg Cl Ct Cw Ch Cp)(g:Has P w K mg base 5 "word_of" ["plain"] (Z8v (CS.mk Ct Cw Ch Cp Cl Cs Cq Ck B) K))(c:HasM P w K mg base 2 Ch "__init__" ["self","name","elder","own_fields","own_words"] (Z9A (CS.mk Ct Cw Ch Cp Cl Cs Cq Ck B) K)):Has P w K mg base 6 "house_of" ["plain"] (Z8I (CS.mk Ct Cw Ch Cp Cl Cs Cq Ck B) K):=by
 refine Has.of T.O1r O0t (λ _ _ _ _ _ _ G hl=>el1 G hl λ _=>rfl) (λ J H Q E h=>?_) (λ f a0 A L s H J Q E X h=>?_)
 ·obtain⟨v,d,rfl,_⟩:=h;rfl
 obtain⟨v,d,rfl,M,hd,q⟩:=h;obtain⟨a,xs,rfl,hq,m⟩:=M.tup_inv;obtain⟨v1,r1,rfl,h1,m⟩:=m.inv;obtain⟨v2,r2,rfl,h2,m⟩:=m.inv;obtain⟨v3,r3,rfl,h3,m⟩:=m.inv;obtain⟨v4,r4,rfl,h4,m⟩:=m.inv;cases m.nil_inv;cases h1.str_inv;cases J8N h2;obtain⟨wa,G,rfl,I,Y⟩:=h4.tup_inv;have lu:G.length=d.words.length:=by rw[Y.length,qa0]
 have lw:=hd.wl;refine⟨_,(Z0a (Z3V (pvF 0) (Z2Y (n:=4) rfl (Z0u (qH 1 O0t.nd) (Z0u (qH 2 O0t.nd) (Z0u (qH 3 O0t.nd) (Z0u (qH 4 O0t.nd) Z2P)))))) (Z0d (Z0j (Z7M T.House c X qQ rfl (Z0v (pvF 1) (qK (pvF 2) (pvF 3) (Z0S rfl (BlockOk.plain (N:=["word"]) rfl qP qP qP) (Z1s (pvF 4)) (λ C fp s H=>(qH 0 (show(["word"]:List V2).Nodup by decide+kernel))) (λ C fp s H=>(qF g X (qI (pvF 0))))))))))),?_⟩;walk_at "r";refine⟨_,hq,rfl,⟨_,_,rfl,⟨_,_,rfl,⟨_,_,rfl,⟨_,_,rfl,?_⟩⟩⟩⟩⟩;walk_at "r";refine⟨⟨_,I⟩,λ D hD=>?_⟩;refine Z0U (ys:=G) none [] (λ j v H=>∃t,d.words[j]?=some t/\WdO K (CS.mk Ct Cw Ch Cp Cl Cs Cq Ck B) H v t) (λ j v Z H2 ⟨t,a,b⟩ s=>⟨t,a,WdO.kp b (kpN s)⟩) rfl hD (by rw[sizeLine_eq];omega) (λ Z s=>SqT.same I s) (λ i y hy Z K' s k=>?_) (λ J Hc Sc M lv hR=>?_)
 ·walk_at "r";obtain⟨t,ht,O⟩:=Y.at hy;rw[qa4]at ht;obtain⟨t,z,rfl⟩:=qc1.mp ht;exact⟨y,t,rfl,O.same s,hd.wd t (qb0 z),λ u H2 p R=>k _ _ p ⟨t,z,R⟩⟩
 have S:=J4A (lv.trans lu) hR;intro x dx m U ne;have p:=Z3Z (C:=Ch) m U ne;refine⟨x,dx,D,v3,J,d,rfl,Z0b,h3.same (Sc.trans p),hd.fl,SqL.of (p _ _ M),S.mono λ _ _ r=>r.same p,λ H3 sx I=>⟨rfl,q _ _ (Z4B (Sc.trans p) sx ?_) I⟩⟩;cases e:H x with
 |none=>rfl
 |some o=>rw[Sc _ _ e]at m;cases m
theorem J0t(T:Txt K mg Cl Ct Cw Ch Cp)(m:Has P w K mg base 5 "word_of" ["plain"] (Z8v (CS.mk Ct Cw Ch Cp Cl Cs Cq Ck B) K))(g:Has P w K mg base 6 "house_of" ["plain"] (Z8I (CS.mk Ct Cw Ch Cp Cl Cs Cq Ck B) K))(c:HasM P w K mg base 1 Cp "__init__" ["self","all_houses","main"] (Z8F (CS.mk Ct Cw Ch Cp Cl Cs Cq Ck B) K)):Has P w K mg base 7 "program_of" ["plain"] (Z9N (CS.mk Ct Cw Ch Cp Cl Cs Cq Ck B) K):=by
 refine Has.of T.O0Z O0n (λ _ _ _ _ _ _ I hl=>el1 I hl λ _=>rfl) (λ R H Q E h=>?_) (λ f h0 A S s H R Q E U h=>?_)
 ·obtain⟨v,d,rfl,_⟩:=h;rfl
 obtain⟨v,d,rfl,X,Y,g0,Z,a0,q⟩:=h;obtain⟨a,xs,rfl,hq,p⟩:=X.tup_inv;obtain⟨v1,r1,rfl,h1,p⟩:=p.inv;obtain⟨v2,r2,rfl,h2,p⟩:=p.inv;cases p.nil_inv;obtain⟨b,ys,rfl,b0,z⟩:=h2.tup_inv;obtain⟨u1,r1,rfl,g1,z⟩:=z.inv;obtain⟨u2,r2,rfl,g2,z⟩:=z.inv;obtain⟨u3,r3,rfl,g3,z⟩:=z.inv;cases z.nil_inv;cases g2.str_inv;obtain⟨ha,I,rfl,J,hu⟩:=h1.tup_inv;have lu:I.length=d.houses.length:=by rw[hu.length,qa0]
 refine⟨_,(Z0a (Z3V (pvF 0) (Z2Y (n:=2) rfl (Z0u (qH 1 O0n.nd) (Z0u (qH 2 O0n.nd) Z2P)))) (Z0a (Z3V (pvF 2) (Z2Y (n:=3) rfl (Z0u (qH 3 O0n.nd) (Z0u (qH 4 O0n.nd) (Z0u (qH 5 O0n.nd) Z2P))))) (Z0d (Z0j (Z7M T.Program c U qQ rfl (qJ (Z0S rfl (BlockOk.plain (N:=["house"]) rfl qP qP qP) (Z1s (pvF 1)) (λ C fp s H=>(qH 0 (show(["house"]:List V2).Nodup by decide+kernel))) (λ C fp s H=>(qF g U (qI (pvF 0))))) (qF m U (qI (Z0m (Z0v Z0f (qK (pvF 3) (pvF 4) (pvF 5)))))))))))),?_⟩;walk_at "r";refine⟨_,hq,rfl,⟨_,_,rfl,⟨_,_,rfl,?_⟩⟩⟩;walk_at "r";refine⟨_,b0,rfl,⟨_,_,rfl,⟨_,_,rfl,⟨_,_,rfl,?_⟩⟩⟩⟩;walk_at "r";refine⟨⟨_,J⟩,λ D hD=>?_⟩;refine Z0U (ys:=I) none [] (λ j v H=>∃t,d.houses[j]?=some t/\HsO K (CS.mk Ct Cw Ch Cp Cl Cs Cq Ck B) H v t) (λ j v L H2 ⟨t,a,b⟩ s=>⟨t,a,HsO.kp b (kpN s)⟩) rfl hD (by rw[sizeLine_eq];omega) (λ L s=>SqT.same J s) (λ i y z L K' s k=>?_) (λ R Hc Sc X lv hR=>?_)
 ·walk_at "r";obtain⟨t,ht,c0⟩:=hu.at z;rw[qa4]at ht;obtain⟨t,G,rfl⟩:=qc1.mp ht;exact⟨y,t,rfl,c0.same s,Y t (qb0 G),λ u H2 M d0=>k _ _ M ⟨t,G,d0⟩⟩
 have e0:=J4A (lv.trans lu) hR;refine New.of λ p1 L h1 O e1=>?_;have wd:RT K L (.ref p1) (Z2y d.main):=by
  refine .tup (SqT.of e1) (.cons ?_ (.cons (g1.same (Sc.trans O)) (.cons (.str _) (.cons (g3.same (Sc.trans O)) .nil))));rw[a0];exact .str _
 refine⟨.ref p1,d.main,rfl,wd,Z,λ u H2 M hm x dx p f0 ne=>?_⟩;have s3:=Z3Z (C:=Cp) p f0 ne;have s4:=O.trans (M.trans s3);refine⟨x,dx,D,u,R,d,rfl,Z0b,SqL.of (s4 _ _ X),e0.mono λ _ _ r=>r.same s4,hm.same s3,λ H3 sx J=>⟨rfl,q _ _ (Z4B (Sc.trans s4) sx ?_) J⟩⟩;cases e:H x with
 |none=>rfl
 |some o=>rw[M _ _ (O _ _ (Sc _ _ e))]at p;cases p
def InO(c:CS)(H:Hp)(x:V0)(G:Pg):Prop:=∃b a d,H x=some (.ins c.hall b [("in_order",.ref a),("by_name",.ref d)])/\H a=some (.tup (G.houses.map λ h=>V.str h.name))
inductive Z8U(c:CS)(K:X0)(vs:List V)(H:Hp)(Q:VK):Prop
 |mk(x dx:V0)(pp:V)(G:Pg)(a1:vs=[.ref x,pp])(a2:H x=some (.ins c.hall dx []))(a3:PgO K c H pp G)(a4:GOk G)(a5:G.houses.length<=100)(a6:∀H',SX x H H'->HlO K c H' (.ref x) G->InO c H' x G->Q .non H'):Z8U c K vs H Q
def Z9F(c:CS)(K:X0):Sp:=λ a H Q _=>Z8U c K a H Q
inductive Z7B(c:CS)(K:X0)(vs:List V)(H:Hp)(Q:VK):Prop
 |mk(a:V0)(h:V2)(G:Pg)(es:List V2)(a1:vs=[.ref a,.str h])(a2:HlO K c H (.ref a) G)(a3:Chain G h es)(a4:es.length<=100)(a5:∀l H',H l=none->Same H H'->H' l=some (.lst (es.map V.str))->Q (.ref l) H'):Z7B c K vs H Q
def Z5k(c:CS)(K:X0):Sp:=λ a H Q _=>Z7B c K a H Q
theorem J5Z{kvs:List (Key×V)}{k:Key}(h:k∉kvs.map (·.1)):valV kvs k=none:=by
 induction kvs with
 |nil=>rfl
 |cons p r a=>
  rw[qb8,qa2,not_or]at h;rw[Z0z (λ z=>h.1 z.symm)];exact a h.2
noncomputable def kvOf:List V->List Hs->List (Key×V)
 |v::a,h::b=>(.inr h.name,v)::kvOf a b
 |_,_=>[]
theorem Z8w:∀{vs:List V}{hs:List Hs}{i:Nat}{v:V}{h:Hs},vs[i]?=some v->hs[i]?=some h->(kvOf vs hs).take (i+1)=(kvOf vs hs).take i++[(.inr h.name,v)]
 |_::vs,_::hs,0,v,h,a,b=>by cases a;cases b;rfl
 |_::vs,_::hs,i+1,v,h,a,b=>by
  have:=Z8w (vs:=vs) (hs:=hs) (i:=i) a b;show _::List.take (i+1) (kvOf vs hs)=_::(List.take i (kvOf vs hs)++_);rw[this]
theorem Z4b:∀{b:List V}{a:List Hs},b.length=a.length->(kvOf b a).map (·.1)=a.map λ h=>.inr h.name
 |[],[],_=>rfl
 |_::b,_::a,e=>by
  show _::List.map _ (kvOf b a)=_;rw[Z4b (qk9 e)];rfl
theorem J0v{R:V->Hs->Prop}:∀{b:List V}{a:List Hs},A2 R b a->A2 (λ c h=>c.1=.inr h.name/\R c.2 h) (kvOf b a) a
 |_,_,.nil=>.nil
 |_,_,.cons r t=>.cons ⟨rfl,r⟩ (J0v t)
theorem Z9J{vs:List V}{hs:List Hs}{i:Nat}{h:Hs}(l:vs.length=hs.length)(n:(hs.map Hs.name).Nodup)(e:hs[i]?=some h):valV ((kvOf vs hs).take i) (.inr h.name)=none:=by
 refine J5Z λ z=>?_;rw[qf7,Z4b l]at z;have b:(hs.map Hs.name)[i]?=some h.name:=by rw[qa4,e];rfl
 have c:h.name∈(hs.map Hs.name).take i:=by
  rw[<-qf7]at z ⊢;obtain⟨g,m,o⟩:=qb4.mp z;exact qb4.mpr ⟨g,m,Sum.inr.inj o⟩
 generalize hs.map Hs.name=q at*;obtain⟨j,a⟩:=List.mem_iff_getElem?.mp c;rw[List.getElem?_take]at a;split at a
 ·rename_i lt;have p:=(qa7.mp a).1;have r:=(qa7.mp b).1;have:=(List.getElem?_inj p n).mp (a.trans b.symm);omega
 ·cases a
theorem Z2B{K:X0}{c:CS}{H:Hp}{a:V0}{G:Pg}(h:HlO K c H (.ref a) G):∃o p d e,H a=some (.ins c.hall o [("in_order",.ref p),("by_name",.ref d)])/\H d=some (.dK e)/\GOk G/\∀x X,Look G x X->∃b q i j m,DGet H d (.str x) (some (.ref b))/\H b=some (.ins c.house q [("name",.str X.name),("elder",oS X.elder),("own_fields",.ref i),("own_words",.ref j)])/\RT K H (.ref i) (Z2a X.fields)/\SqT K H j m/\A2 (WdO K c H) m X.words/\HsOk X:=by
 cases h with
 |mk u n r ok=>
  refine⟨_,_,_,_,u,n,ok,λ x X g=>?_⟩;obtain⟨v,y,z⟩:=J3q r ok.nd g.1;cases z with
  |mk A C D E=>
   refine⟨_,_,_,_,_,?_,A,C,D,E,ok.hs _ g.1⟩;rw[<-y,g.2];exact DGet.k (k:=.inr x) n
theorem Chain.at{G:Pg}{h:V2}{es:List V2}(c:Chain G h es):∀(i:Nat)(x:V2),(h::es)[i]?=some x->∃X,Look G x X/\X.elder=es[i]?:=by
 induction c with
 |top l e=>
  intro i x a;cases i with
  |zero=>cases a;exact⟨_,l,e⟩
  |succ i=>cases a
 |up l e _ b=>
  intro i x a;cases i with
  |zero=>cases a;exact⟨_,l,e⟩
  |succ i=>exact b i x a
theorem J8G{H:Hp}{x d:V0}{o:HO}(h:H x=some o)(n:H d=none):d≠x:=λ z=>Z0g h n z.symm
noncomputable def LI(K:X0)(H2:Hp)(x d:V0)(pp:V)(hs:List V)(houses:List Hs)(i:Nat)(σ:St)(H':Hp):Prop:=∃a,SX d H2 H'/\H' d=some (.dK ((kvOf hs houses).take i))/\σ=[some (.ref x),some pp,a]
theorem J3v(T:Txt K mg Cl Ct Cw Ch Cp):HasM P w K mg base 1 Cl "__init__" ["self","program"] (Z9F (CS.mk Ct Cw Ch Cp Cl Cs Cq Ck B) K):=by
 refine HasM.of T.m_Hall___init__ sc_Hall___init__ (λ _ _ _ _ _ _ us hl=>el2 us hl λ _ _=>rfl) (λ p H Q E h=>?_) (λ f f0 A b0 s H p Q E hr h=>?_)
 ·obtain⟨x,m,pp,G,rfl,_⟩:=h;rfl
 obtain⟨x,m,pp,G,rfl,hx,hp,ok,e0,q⟩:=h;obtain⟨g0,pa,I,M,u,mv,rfl,ha,hq,hh⟩:PgO K (CS.mk Ct Cw Ch Cp Cl Cs Cq Ck B) H pp G/\∃pa I M u mv,pp=.ref pa/\H pa=some (.ins Cp I [("all_houses",.ref M),("main",mv)])/\SqT K H M u/\A2 (HsO K (CS.mk Ct Cw Ch Cp Cl Cs Cq Ck B) H) u G.houses:=by
  refine⟨hp,?_⟩;cases hp with
  |mk a b c d=>exact⟨_,_,_,_,_,rfl,a,b,c⟩
 have lh:u.length=G.houses.length:=hh.len;refine⟨_,(Z0a (Z1c (pvF 0) (Z0o Z0q rfl T.O0m Z0O (qI (Z0S rfl (BlockOk.plain (N:=["house"]) rfl qP qP qP) (Z1s (qO 1)) (λ C fp s H=>(qH 0 (show(["house"]:List V2).Nodup by decide+kernel))) (λ C fp s H=>(show PE _ _ (J1d K _ "name")from Z2H (pvF 0) rfl))))) rfl) (Z0a (Z1c (pvF 0) Z4g rfl) (Z0d (Z0T PassesOwn.never rfl (Z1s (qO 1)) (qH 2 sc_Hall___init__.nd) (Z0d (Z1g (Z0r hr) (qO 0) (qO 2) (pvF 2) rfl)))))),?_⟩;refine seq3 λ h0 S i0 U=>?_;walk_at "r";refine⟨Cp,I,_,ha,T.Program.cl,T.n_Program_all_houses,.ref M,rfl,M,rfl,⟨_,hq⟩,λ D hD=>?_⟩;refine Z0U (ys:=u) none [] (λ j v H=>∃t,G.houses[j]?=some t/\v=.str t.name) (λ _ _ _ _ h _=>h) rfl hD (by rw[sizeLine_eq];omega) (λ R s=>SqT.same hq s) (λ i y X R K' s k=>?_) (λ p Hc Sc hv lv hR=>?_)
 ·walk_at "r";obtain⟨t,J,O⟩:=hh.at X;have O:=O.same s;cases O with
  |mk f1 f2 f3 f4=>exact⟨_,rfl,Ch,_,_,f1,T.House.cl,T.n_House_name,_,rfl,k _ _ (Same.refl _) ⟨t,J,rfl⟩⟩
 walk_at "r";refine⟨p,.inl ⟨SqL.of hv,λ g c0=>?_⟩⟩;have s1:=Sc.trans (Z0n c0 (.tup p));have Y:upd Hc g (.tup p) g=some (.tup p):=Z0b;generalize upd Hc g (.tup p)=R at*;refine⟨Cl,m,_,s1 _ _ hx,T.Hall.cl,T.n_Hall_in_order,qd4 rfl,?_⟩;subst U;walk_at "r";have S1:SX x H (upd R x (.ins Cl m (putF "in_order" (.ref g) []))):=(SX.of s1).trans (SX.put _);have X1:upd R x (.ins Cl m (putF "in_order" (.ref g) [])) x=some (.ins Cl m (putF "in_order" (.ref g) [])):=Z0b;have Z:g≠x:=Z4v Y (s1 _ _ hx) (λ z=>by cases z);have I2:upd R x (.ins Cl m (putF "in_order" (.ref g) [])) g=some (.tup p):=by rw[Z0e Z];exact Y
 generalize upd R x (.ins Cl m (putF "in_order" (.ref g) []))=H2 at*;intro d hd;have s2:=Z0n hd (.dK []);have nd:d≠x:=J8G X1 hd;refine⟨Cl,m,_,s2 _ _ X1,T.Hall.cl,T.n_Hall_by_name,qd4 rfl,?_⟩;have S2:SX x H (upd (upd H2 d (.dK [])) x (.ins Cl m (putF "by_name" (.ref d) (putF "in_order" (.ref g) [])))):=S1.trans ((SX.of s2).trans (SX.put _));have X2:upd (upd H2 d (.dK [])) x (.ins Cl m (putF "by_name" (.ref d) (putF "in_order" (.ref g) []))) x=some (.ins Cl m (putF "by_name" (.ref d) (putF "in_order" (.ref g) []))):=Z0b;have D2:upd (upd H2 d (.dK [])) x (.ins Cl m (putF "by_name" (.ref d) (putF "in_order" (.ref g) []))) d=some (.dK []):=by rw[Z0e nd];exact Z0b
 have I3:upd (upd H2 d (.dK [])) x (.ins Cl m (putF "by_name" (.ref d) (putF "in_order" (.ref g) []))) g=some (.tup p):=by rw[Z0e Z];exact s2 _ _ I2
 have ev:p=G.houses.map λ h=>V.str h.name:=Z3P (lv.trans lh) hR;have nH:H d=none:=by
  cases e:H d with
  |none=>rfl
  |some o=>rw[S1 _ _ nd e]at hd;cases hd
 generalize upd (upd H2 d (.dK [])) x (.ins Cl m (putF "by_name" (.ref d) (putF "in_order" (.ref g) [])))=H3 at*;have k3:=S2.kp hx;have a0:=hh.mono λ _ _ r=>HsO.kp r k3;have d0:=k3.i _ _ _ _ _ ha;subst S;walk_at "r";refine⟨Cp,I,_,d0,T.Program.cl,T.n_Program_all_houses,.ref M,rfl,M,rfl,⟨_,SqT.kp hq k3⟩,?_⟩;have kd:∀{H':Hp},SX d H3 H'->Kp H3 H':=λ h=>⟨λ b xs e=>h b _ (λ z=>by rw[z,D2]at e;cases e) e,λ b o xs e=>h b _ (λ z=>by rw[z,D2]at e;cases e) e,λ b C m f fs e=>h b _ (λ z=>by rw[z,D2]at e;cases e) e⟩;refine Z2Z u (LI K H3 x d (.ref pa) u G.houses) ⟨none,λ _ _ _ h=>h,D2,rfl⟩ (λ i σ H' _ h=>?_) (λ i y σ H' X h=>?_) (λ σ H' h=>?_)
 ·obtain⟨o2,n,_⟩:=h;exact SqT.kp hq (k3.trans (kd n))
 ·obtain⟨o2,n,L,rfl⟩:=h;obtain⟨t,J,O⟩:=a0.at X;have O:=HsO.kp O (kd n);have hi:i<100:=by have:=(qa7.mp X).1;omega
  cases O with
  |mk f1 f2 f3 f4=>
   walk_at "r";refine⟨Cl,m,_,n _ _ nd.symm X2,T.Hall.cl,T.n_Hall_by_name,_,rfl,Ch,_,_,f1,T.House.cl,T.n_House_name,_,rfl,d,rfl,_,DPut.k (k:=.inr t.name) L ?_,_,(n.trans (SX.put _)),?_,rfl⟩
   ·have:=ql4 i (kvOf u G.houses);rw[sizeLine_eq];omega
   ·rw[Z0b,Z8w X J,Z5O _ (Z9J lh ok.nd J)]
 ·obtain⟨o2,n,L,rfl⟩:=h;have lk:(kvOf u G.houses).length=u.length:=by
   have:=congrArg qd5 (Z4b lh);rw[qa0,qa0]at this;omega
  rw[qd6 qR]at L;refine q _ (λ b o nb e=>?_) (.mk (n _ _ nd.symm X2) L (J0v (a0.mono λ _ _ r=>HsO.kp r (kd n))) ok) ⟨_,_,_,n _ _ nd.symm X2,by rw[<-ev];exact n _ _ (Z4v I3 D2 (λ z=>by cases z)) I3⟩;exact n _ _ (Z0g e nH) (S2 _ _ nb e)
noncomputable def EI(H:Hp)(a l:V0)(h:V2)(es:List V2)(m:Nat)(σ:St)(H':Hp):Prop:=∃i,m=es.length-i/\i<=es.length/\Same H H'/\H' l=some (.lst ((es.take i).map V.str))/\σ=[some (.ref a),some (.str h),some (.ref l),some (oS es[i]?)]
theorem J2e(T:Txt K mg Cl Ct Cw Ch Cp):HasM P w K mg base 1 Cl "elders" ["self","house"] (Z5k (CS.mk Ct Cw Ch Cp Cl Cs Cq Ck B) K):=by
 refine HasM.of T.m_Hall_elders sc_Hall_elders (λ _ _ _ _ _ _ us v=>el2 us v λ _ _=>rfl) (λ vs H Q E h=>?_) (λ f a0 A y s H vs Q E S h=>?_)
 ·obtain⟨a,h,G,c,rfl,_⟩:=h;rfl
 obtain⟨a,h,G,c,rfl,v,U,Y,q⟩:=h;refine⟨_,(Z0a (qG 2 sc_Hall_elders.nd (Z0t Z0W)) (Z0a (qG 3 sc_Hall_elders.nd (Z2H (Z0l (Z0r S) (qO 0) (pvF 1) (λ _ _=>rfl)) rfl)) (Z0a (Z4C PassesOwn.never (qM Z1A (pvF 3) Z0V) (Z0a (Z1a (Z2f qc9 qd7 qd8 Z0B (pvF 2) (qI (pvF 3)))) (Z0d (qG 3 sc_Hall_elders.nd (Z2H (Z0l (Z0r S) (qO 0) (pvF 3) (λ _ _=>rfl)) rfl))))) (Z0d (Z0j (pvF 2)))))),?_⟩;refine seq4 λ b0 p c0 r d0 u=>?_;walk_at "r";refine New.of λ l H1 Z s1 e1=>?_;subst u;walk_at "r";obtain⟨X,C,ex⟩:=Chain.at U 0 h rfl;obtain⟨D,io,d,I,J,ed,ok,n⟩:=Z2B (v.same s1);obtain⟨b,L,ft,wt,ws,M,N,_⟩:=n h X C;refine⟨Cl,D,_,J,T.Hall.cl,T.n_Hall_by_name,_,rfl,d,rfl,_,M,_,rfl,Ch,L,_,N,T.House.cl,T.n_House_elder,_,rfl,?_⟩;subst r;walk_at "r";refine⟨EI H a l h c,⟨c.length,0,rfl,qa6 _,s1,e1,by rw[ex]⟩,λ m σ x hI=>?_⟩;obtain⟨i,rfl,hi,sI,g,rfl⟩:=hI;walk_at "r";cases j:c[i]? with
 |none=>
  have:i=c.length:=by have:=qk2.mp j;omega
  subst this;refine ite2 (λ z=>absurd rfl z) (λ _=>?_);subst p;walk_at "r";rw[qd6 (qa1 _)]at g;exact q l x Z sI g
 |some e=>
  refine ite2 (λ _=>?_) (λ z=>by simp[oS]at z);have O:i<c.length:=(qa7.mp j).1;refine⟨λ R x=>∃m',m'<c.length-i/\EI H a l h c m' R x,λ _ _ h=>h,?_⟩;obtain⟨X,C,ex⟩:=Chain.at U (i+1) e j;have s2:Same H (upd x l (.lst ((c.take i).map V.str++[.str e]))):=λ b o hb=>by rw[Z0e (Z0g hb Z)];exact sI _ _ hb
  obtain⟨D,io,d,I,J,ed,ok,n⟩:=Z2B (v.same s2);obtain⟨b,L,ft,wt,ws,M,N,_⟩:=n e X C;refine⟨.inl ⟨rfl,_,SqL.of g⟩,_,g,by rw[qa0,qb3];omega,Cl,D,_,J,T.Hall.cl,T.n_Hall_by_name,_,rfl,d,rfl,_,M,_,rfl,Ch,L,_,N,T.House.cl,T.n_House_elder,_,rfl,c.length-(i+1),qR,i+1,rfl,O,s2,?_,?_⟩
  ·rw[Z0b,qf3,j,qc2];rfl
  ·rw[ex]
open P23 (ixO Z4A Z2K Z7N FO)
noncomputable def foD:Option (V2×Nat×Wd)->PyData
 |none=>.none
 |some (h,i,_)=>.tuple [.str h,.int (i:Int)]
inductive Z6t(c:CS)(K:X0)(vs:List V)(H:Hp)(Q:VK):Prop
 |mk(a:V0)(h wd:V2)(G:Pg)(es:List V2)(r:Option (V2×Nat×Wd))(a1:vs=[.ref a,.str h,.str wd])(a2:HlO K c H (.ref a) G)(a3:Chain G h es)(a4:es.length<=100)(a5:FO G wd (h::es) r)(a6:∀v H',Same H H'->RT K H' v (foD r)->Q v H'):Z6t c K vs H Q
def Z6w(c:CS)(K:X0):Sp:=λ a H Q _=>Z6t c K a H Q
inductive Z5E(c:CS)(K:X0)(vs:List V)(H:Hp)(Q:VK):Prop
 |mk(a:V0)(h:V2)(G:Pg)(ch:V2->List V2)(a1:vs=[.ref a,.str h])(a2:HlO K c H (.ref a) G)(a3:InO c H a G)(a4:G.houses.length<=100)(a5:(∀x∈G.houses.map Hs.name,Chain G x (ch x)/\(ch x).length<=100))(a6:∀l H',H l=none->Same H H'->H' l=some (.lst (((G.houses.map Hs.name).filter λ x=>decide (h∈ch x)).map V.str))->Q (.ref l) H'):Z5E c K vs H Q
def Z5D(c:CS)(K:X0):Sp:=λ a H Q _=>Z5E c K a H Q
theorem Z3K{x:V2}{ns:List V2}:inV (.str x) (ns.map V.str)=decide (x∈ns):=by
 unfold inV;rw[List.any_map];by_cases a:x∈ns
 ·rw[decide_eq_true a,ql5];exact⟨x,a,by simp[eqV]⟩
 ·rw[decide_eq_false a,qm1];intro z b;have:z≠x:=λ e=>a (e▸b);simp[eqV,this]
theorem J2w(hs:List Hs):(hs.map λ h=>V.str h.name)=(hs.map Hs.name).map V.str:=by rw[qd9];rfl
theorem J4a(es:List V2)(h:V2):V.str h::es.map V.str=(h::es).map V.str:=rfl
noncomputable def FOI2(G:Pg)(H:Hp)(a:V0)(h wd:V2)(ls:List V2)(r:Option (V2×Nat×Wd))(i:Nat)(σ:St)(H':Hp):Prop:=∃b c,Same H H'/\FO G wd (ls.drop i) r/\σ=[some (.ref a),some (.str h),some (.str wd),b,c]
theorem J1J(T:Txt K mg Cl Ct Cw Ch Cp)(c:HasM P w K mg base 1 Cl "elders" ["self","house"] (Z5k (CS.mk Ct Cw Ch Cp Cl Cs Cq Ck B) K)):HasM P w K mg base 2 Cl "found" ["self","house","word"] (Z6w (CS.mk Ct Cw Ch Cp Cl Cs Cq Ck B) K):=by
 refine HasM.of T.m_Hall_found sc_Hall_found (λ _ _ _ _ _ _ us x=>el3 us x λ _ _ _=>rfl) (λ vs H Q E h=>?_) (λ f d0 A a0 s H vs Q E hr h=>?_)
 ·obtain⟨a,h,wd,G,Y,r,rfl,_⟩:=h;rfl
 obtain⟨a,h,wd,G,Y,r,rfl,x,hc,I,hf,q⟩:=h;refine⟨_,(Z0a (Z0T PassesOwn.never rfl (Z0P (Z0i Z1l (Z0t (qI (pvF 1))) (Z4D (pvF 0) T.Hall.cl c hr qS (qI (pvF 1))))) (qH 3 sc_Hall_found.nd) (Z0a (Z1D rfl sc_Hall_found.nd (i:=4) rfl rfl (BlockOk.plain (N:=["own"]) rfl qP qP qP) (Z1s (Z2H (qE hr (qO 0) (pvF 3)) rfl)) (λ C fp s H=>(qH 0 (show(["own"]:List V2).Nodup by decide+kernel))) (λ C fp s H=>(show PE _ _ (J1d K _ "name")from Z2H (pvF 0) rfl))) (Z0d (Z0E (Z0Y (r:=rIn K false) Z0C (pvF 2) (pvF 4) (by with_unfolding_all rfl)) (Z0d (Z0j (Z0m (qJ (pvF 3) (Z2f qc9 PySem.F.slot_list_index PySem.F.type_list_index J4u (pvF 4) (qI (pvF 2))))))) Z0p)))) (Z0d (Z0j Z0V))),?_⟩;refine seq2 λ e0 J=>?_;walk_at "r";refine New.of λ l2 H2 h2 s2 e2=>?_;obtain⟨dx,io,dd,b0,ea,ed,ok,L⟩:=Z2B (x.same s2);refine⟨dx,_,ea,rfl,a,h,G,Y,rfl,x.same s2,hc,I,λ l3 H3 h3 s3 e3=>?_⟩;refine⟨_,rfl,_,s3 _ _ e2,_,e3,by rw[qa0];simp;omega,?_⟩;refine New.of λ l4 H4 h4 s4 e4=>?_;have n:=s2.trans (s3.trans s4);refine⟨⟨_,SqL.of e4⟩,?_⟩;refine Z1i (.str h::Y.map V.str) (FOI2 G H4 a h wd (h::Y) r) ⟨none,none,Same.refl _,hf,rfl⟩ (λ i σ H' _ M=>?_) (λ i y σ H' Z M=>?_) (λ σ H' M=>?_)
 ·obtain⟨o3,o4,o,_⟩:=M;exact SqL.of (o _ _ e4)
 ·obtain⟨o3,o4,o,m,rfl⟩:=M;rw[J4a,qa4]at Z;obtain⟨y,O,rfl⟩:=qc1.mp Z;rw[qn1 (qa7.mp O).1,(qa7.mp O).2]at m;obtain⟨X,R⟩:∃X,Look G y X:=by cases m with|here a _ _=>exact⟨_,a⟩|there a _ _=>exact⟨_,a⟩
  obtain⟨dx,io,dd,b0,ea,ed,ok,L⟩:=Z2B (x.same (n.trans o));obtain⟨b,bx,ft,wt,ws,g1,g2,g3,g4,g5,g6⟩:=L y X R;have lw:ws.length=X.words.length:=g5.len;have f0:=g6.wl;refine seq2 λ g0 S=>?_;walk_at "r";refine⟨Cl,dx,_,ea,T.Hall.cl,T.n_Hall_by_name,_,rfl,dd,rfl,_,g1,_,rfl,Ch,bx,_,g2,T.House.cl,T.n_House_own_words,_,rfl,wt,rfl,⟨_,g4⟩,λ D hD=>?_⟩;refine Z0U (ys:=ws) none [] (λ j v H=>∃t,X.words[j]?=some t/\v=.str t.name) (λ _ _ _ _ h _=>h) rfl hD (by rw[sizeLine_eq];omega) (λ H1 s=>SqT.same g4 s) (λ i y Z H1 K' s k=>?_) (λ vs Hc Sc hv lv hR=>?_)
  ·walk_at "r";obtain⟨t,c0,ho⟩:=g5.at Z;have ho:=ho.same s;cases ho with
   |mk f1 f2 f3=>exact⟨_,rfl,Cw,_,_,f1,T.Word.cl,T.n_Word_name,_,rfl,k _ _ (Same.refl _) ⟨t,c0,rfl⟩⟩
  have ev:=Z3P (g:=λ t:Wd=>V.str t.name) (lv.trans lw) hR;have u:Hc D=some (.lst ((X.words.map Wd.name).map V.str)):=by rw[hv,ev,qd9];rfl
  subst S;walk_at "r";refine⟨_,.inl (SqL.of u),rfl,Z1L _,?_⟩;rw[Z3K];have un:=uniq ok.nd;cases m with
  |here U a2 a3=>
   have:=un _ _ U.1 R.1 (U.2.trans R.2.symm);subst this;obtain⟨m1,m2,m3⟩:=Z7N a2;refine ite2 (λ _=>?_) (λ z=>absurd (decide_eq_true m1) z);refine⟨.inl ⟨rfl,_,SqL.of u⟩,_,u,_,m3.1,m3.2,?_⟩;refine New.of λ p H6 h6 s6 e6=>?_;exact q _ H6 (n.trans (o.trans (Sc.trans s6))) (.tup (SqT.of e6) (.cons (.str _) (.cons (.int _) .nil)))
  |there U a2 a3=>
   have:=un _ _ U.1 R.1 (U.2.trans R.2.symm);subst this;refine ite2 (λ z=>?_) (λ _=>?_)
   ·obtain⟨j,e,_⟩:=Z2K (of_decide_eq_true z);rw[a2]at e;cases e
   exact⟨_,_,o.trans Sc,a3,rfl⟩
 ·obtain⟨o3,o4,o,m,rfl⟩:=M;rw[qn0 (by simp)]at m;cases m;subst J;walk_at "r";exact q _ _ (n.trans o) .non
noncomputable def pyo(ch:V2->List V2)(h:V2):V->Bool
 | .str x=>decide (h∈ch x)
 |_=>false
theorem Z2h{p:V->Bool}{q:V2->Bool}(e:∀x,p (.str x)=q x):∀a:List V2,(a.map V.str).filter p=(a.filter q).map V.str
 |[]=>rfl
 |x::a=>by
  rw[qb8,qe6,qe6,e,Z2h e a];split<;>rfl
theorem J0j(T:Txt K mg Cl Ct Cw Ch Cp)(b:HasM P w K mg base 1 Cl "elders" ["self","house"] (Z5k (CS.mk Ct Cw Ch Cp Cl Cs Cq Ck B) K)):HasM P w K mg base 2 Cl "younger" ["self","house"] (Z5D (CS.mk Ct Cw Ch Cp Cl Cs Cq Ck B) K):=by
  refine HasM.of T.m_Hall_younger Z5f (λ _ _ _ _ _ _ O g=>el2 O g λ _ _=>rfl) (λ R H Q E h=>?_) (λ f S A m s H R Q E U h=>?_)
  · obtain⟨a,h,G,e,rfl,_⟩:=h;rfl
  obtain⟨a,h,G,e,rfl,g,⟨u,v,d,z,c⟩,I,n,q⟩:=h;refine⟨_,(Z0d (Z0j (Z2I rfl (BlockOk.of (N:=["one","house","self"]) (nl:=[none,some 1,some 0]) (cl:=[("self",s.heap.objs.size+1),("house",s.heap.objs.size+2)]) rfl qP qP rfl (sub2 rfl rfl) (nm:=["self","house"]) rfl qP rfl (λ i X j o=>by
            match i,X with
            | 0,_=>cases o
             |1,_=>cases o;exact⟨_,rfl,rfl,rfl,.inl rfl⟩
             |2,_=>cases o;exact⟨_,rfl,rfl,rfl,.inl rfl⟩
            )) (Z1s (qO 0)) (λ C J s H=>(qH 0 (show(["one","house","self"]:List V2).Nodup by decide+kernel))) (λ C J s H=>(Z0Y (r:=rIn K false) Z0C (pvF 1) (Z4D (pvF 2) T.Hall.cl b U qS (qI (pvF 0))) (by with_unfolding_all rfl))) (λ C J s H=>(pvF 0))))),?_⟩
  walk_at "r";rw[J2w]at c;refine⟨Cl,u,_,z,T.Hall.cl,T.n_Hall_in_order,.ref v,rfl,v,rfl,⟨_,SqT.of c⟩,λ D L=>?_⟩;refine J0g (ys:=(G.houses.map Hs.name).map V.str) none [some (.str h),some (.ref a)] (pyo e h) rfl L (by rw[qa0,qa0,sizeLine_eq];omega) (λ Y s=>SqT.of (s _ _ c)) (λ y Z Y K' s k=>?_) (λ H' S' M=>?_)
  · obtain⟨x,hx,rfl⟩:=qb4.mp Z;obtain⟨hc,p⟩:=n x hx;walk_at "r";refine⟨u,_,s _ _ z,rfl,a,x,G,e x,rfl,g.same s,hc,p,λ l H2 h2 s2 e2=>?_⟩;refine⟨l,rfl,_,.inl (SqL.of e2),rfl,Z1L _,?_⟩;rw[Z3K];exact k _ s2
  · rw[Z2h (q:=λ x=>decide (h∈e x)) (λ x=>rfl)]at M;exact q _ _ L S' M
open P23 (mkS)
inductive Z8R(K:X0)(vs:List V)(H:Hp)(Q:VK):Prop
 |mk(a:V0)(G:Pg)(x:V2)(es:List V2)(a1:vs=[.ref a,.str x])(a2:RT K H (.ref a) (.tuple (G.houses.map Z2l)))(a3:(G.houses.map Hs.name).Nodup)(a4:G.houses.length<=12)(a5:PW.Chain G x es)(a6:es.length<=12)(a7:∀l H',H l=none->Same H H'->H' l=some (.lst ((x::es).map V.str))->Q (.ref l) H'):Z8R K vs H Q
def Z9z(K:X0):Sp:=λ a H Q _=>Z8R K a H Q
theorem J2P{K:X0}{H:Hp}{a:V0}{hs:List Hs}(h:RT K H (.ref a) (.tuple (hs.map Z2l))):∃j,SqT K H a j/\j.length=hs.length/\∀(k:Nat) t,j[k]?=some t->∃X b f g,hs[k]?=some X/\t=.ref b/\SqT K H b [.str X.name,oS X.elder,f,g]/\RT K H f (Z2a X.fields)/\RT K H g (.tuple (X.words.map Z2y)):=by
 obtain⟨N,p,e,q,n⟩:=RT.tup_inv h;cases e;refine⟨p,q,by rw[n.length,qa0],λ k t r=>?_⟩;obtain⟨d,hd,u⟩:=n.at r;rw[qa4]at hd;obtain⟨X,v,rfl⟩:=qc1.mp hd;obtain⟨b,O,rfl,c,m⟩:=u.tup_inv;obtain⟨Q,R,rfl,x,y⟩:=m.inv;obtain⟨A,S,rfl,i,C⟩:=y.inv;obtain⟨D,T,rfl,E,G⟩:=C.inv;obtain⟨I,U,rfl,J,L⟩:=G.inv;cases L.nil_inv;cases x.str_inv;have M:A=oS X.elder:=by
  cases o:X.elder with
  |none=>rw[o]at i;cases i;rfl
  |some z=>rw[o]at i;exact i.str_inv
 rw[M]at c;exact⟨X,b,D,I,v,rfl,c,E,J⟩
theorem Z5x{hs:List Hs}(c:(hs.map Hs.name).Nodup){a b:Hs}(ha:a∈hs)(g:b∈hs)(e:a.name=b.name):a=b:=by
 induction hs with
 |nil=>cases ha
 |cons h hs i=>
  have c:=qc4.mp c;rcases qa2.mp ha with z|z<;>rcases qa2.mp g with y|y
  ·rw[z,y]
  ·rw[z]at e;exact absurd (show h.name∈hs.map Hs.name by rw[e];exact qb6 y) c.1
  ·rw[y]at e;exact absurd (show h.name∈hs.map Hs.name by rw[<-e];exact qb6 z) c.1
  ·exact i c.2 z y
theorem Z9E{G:Pg}{x:V2}{es:List V2}(c:PW.Chain G x es):∀(i:Nat)(y:V2),(x::es)[i]?=some y->∃h∈G.houses,h.name=y/\h.elder=es[i]?:=by
 induction c with
 |top l e=>intro i y a;cases i with
  |zero=>cases a;exact⟨_,l.1,l.2,e⟩
  |succ i=>cases a
 |up l e _ b=>intro i y a;cases i with
  |zero=>cases a;exact⟨_,l.1,l.2,e⟩
  |succ i=>obtain⟨h,g,j,m⟩:=b i y a;exact⟨h,g,j,m⟩
noncomputable def LNI(H:Hp)(a l:V0)(xs:List V2)(m:Nat)(σ:St)(H':Hp):Prop:=∃i,m=xs.length-i/\i<=xs.length/\Same H H'/\H' l=some (.lst ((xs.take i).map V.str))/\σ=[some (.ref a),some (oS xs[i]?),some (.ref l)]
theorem J3O(T:Txt K mg Cl Ct Cw Ch Cp):Has P w K mg base 1 "_law_line" ["_law_houses","_law_name"] (Z9z K):=by
  refine Has.of T.O1o O0y (λ _ _ _ _ _ _ us hl=>el2 us hl λ _ _=>rfl) (λ vs H Q E h=>?_) (λ f m0 A g0 s H vs Q E hr h=>?_)
  · obtain⟨a,G,x,p,rfl,_⟩:=h;rfl
  obtain⟨a,G,x,p,rfl,rt,nd,o0,c,le,q⟩:=h;refine⟨_,(Z0a (qG 2 O0y.nd (Z0t Z0W)) (Z0a (Z4C PassesOwn.never (qM Z1A (pvF 1) Z0V) (Z0a (Z1a (Z2f qc9 qd7 qd8 Z0B (pvF 2) (qI (pvF 1)))) (Z0d (Z1W (i:=1) O0y.nd rfl (Or.inr rfl) (qD K (Z2I rfl (BlockOk.of (N:=["_law_house","_law_name"]) (nl:=[none,some 1]) (cl:=[("_law_name",s.heap.objs.size+1)]) rfl qP qP rfl (sub1 rfl) (nm:=["_law_name"]) rfl qP rfl (λ i hi j hj=>by
            match i,hi with
            | 0,_=>cases hj
             |1,_=>cases hj;exact⟨_,rfl,rfl,rfl,.inl rfl⟩
            )) (Z1s (pvF 0)) (λ C fp s H=>(qH 0 (show(["_law_house","_law_name"]:List V2).Nodup by decide+kernel))) (λ C fp s H=>(qM Z2g (qA K 0) (pvF 1))) (λ C fp s H=>(qA K 0))) Z0c))))) (Z0d (Z0j (pvF 2))))),?_⟩
  refine seq3 λ p0 Y q0 Z=>?_;walk_at "r";refine New.of λ l H1 h1 s1 e1=>?_;subst Z;walk_at "r";refine⟨LNI H a l (x::p),⟨p.length+1,0,rfl,qa6 _,s1,e1,rfl⟩,λ m M H' hI=>?_⟩;obtain⟨i,rfl,hi,sI,J,rfl⟩:=hI;walk_at "r";have r0:(x::p).length=p.length+1:=rfl;cases L:(x::p)[i]? with
  |none=>
    refine ite2 (λ z=>absurd rfl z) (λ _=>?_);have i0:=qk2.mp L;subst Y;walk_at "r";rw[qd6 i0]at J;exact q l H' h1 sI J
  |some y=>
    refine ite2 (λ _=>?_) (λ z=>by simp[oS]at z);have j0:i<(x::p).length:=(qa7.mp L).1;refine⟨λ a0 b0=>LNI H a l (x::p) (p.length+1-(i+1)) a0 b0,λ a0 b0 h=>⟨_,qR,h⟩,.inl ⟨rfl,_,SqL.of J⟩,_,J,by rw[qa0,qb3];omega,?_⟩;have sU:Same H (upd H' l (.lst (((x::p).take i).map V.str++[oS (some y)]))):=λ b o hb=>by rw[Z0e (λ z=>by rw[z,h1]at hb;cases hb)];exact sI _ _ hb
    have eU:upd H' l (.lst (((x::p).take i).map V.str++[oS (some y)])) l=some (.lst (((x::p).take (i+1)).map V.str)):=by
      rw[Z0b,qf3,L,qc2];rfl
    generalize upd H' l (.lst (((x::p).take i).map V.str++[oS (some y)]))=Hu at*;obtain⟨I,t1,t2,t3⟩:=J2P (rt.same sU);obtain⟨h0,c0,n0,e0⟩:=Z9E c i y L;refine⟨⟨I,t1⟩,λ D hD=>?_⟩;refine Z3x (n:=I.length) (λ M=>∃o,M=[o,some (.str y)]) (λ k M=>∃t,I[k]?=some t/\M=[some t,some (.str y)]) (λ k=>decide ((G.houses.map Hs.name).getD k ""=y)) (λ k v H=>∃X,G.houses[k]?=some X/\v=oS X.elder) (λ _ _ _ _ h _=>h) ⟨_,rfl⟩ hD (by rw[sizeLine_eq];omega) (λ k H2 s hk=>⟨I,I[k],t1.same s,qa8 _⟩) (λ H2 s=>⟨I,t1.same s,qa1 _⟩) (λ k x M H2 H3 K' hk s2 yl O R=>?_) (λ k M O=>?_) (λ k M hk O H2 K' s2 R=>?_) (λ k M hk hp O H2 K' s2 R=>?_) (λ vs H4 S4 hv hA=>?_)
    · obtain⟨o,rfl⟩:=O;obtain⟨rfl,yl⟩:=yl;walk_at "r";exact R _ _ ⟨x,yl I (t1.same s2),rfl⟩ (Same.refl _)
    · obtain⟨t,_,rfl⟩:=O;exact⟨_,rfl⟩
    · obtain⟨t,ht,rfl⟩:=O;obtain⟨X,b,f,g,S,rfl,sq,_⟩:=t3 k t ht;have U:(G.houses.map Hs.name).getD k ""=X.name:=by rw[qd3,qa4,S];rfl
      rw[U]at R;walk_at "r";refine⟨_,sq.same s2,_,ix0,rfl,?_⟩;have e:decide (V.str X.name=V.str y)=decide (X.name=y):=by
        by_cases z:X.name=y
        · rw[decide_eq_true z,decide_eq_true (congrArg V.str z)]
        · rw[decide_eq_false z,decide_eq_false (λ u=>z (V.str.inj u))]
      rw[e];exact R H2 (Same.refl _)
    · obtain⟨t,ht,rfl⟩:=O;obtain⟨X,b,f,g,S,rfl,sq,_⟩:=t3 k t ht;walk_at "r";exact⟨_,sq.same s2,_,ix1,R _ _ (Same.refl _) ⟨X,S,rfl⟩⟩
    · obtain⟨k0,d0⟩:=qe5 c0;have l0:k0<I.length:=by have:=(qa7.mp d0).1;omega
      have km:k0∈Z2d (λ k=>decide ((G.houses.map Hs.name).getD k ""=y)) I.length:=by
        unfold Z2d;refine qc7.mpr ⟨qf9.mpr l0,decide_eq_true ?_⟩;rw[qd3,qa4,d0];exact n0
      have f0:∀k∈Z2d (λ k=>decide ((G.houses.map Hs.name).getD k ""=y)) I.length,(G.houses.map Hs.name).getD k ""=y:=λ k hk=>of_decide_eq_true (qc7.mp hk).2;generalize Z2d (λ k=>decide ((G.houses.map Hs.name).getD k ""=y)) I.length=ks at*;cases hA with
      |nil=>cases km
      |@cons v k1 s0 t0 r t=>
        obtain⟨X,S,rfl⟩:=r;have U:=f0 k1 qa9;rw[qd3,qa4,S]at U;have U:X.name=y:=U;have eX:X=h0:=Z5x nd (qb0 S) c0 (U.trans n0.symm);refine⟨D,rfl,_,SqL.of hv,_,ix0,i+1,rfl,j0,sU.trans S4,S4 _ _ eU,?_⟩;rw[eX,e0];rfl
open P52 (Z0M)
def prs2(hs:List Hs):List (V2×V2):=hs.flatMap λ h=>h.words.map λ d=>(h.name,d.name)
noncomputable def kp(p:V2×V2):List Key:=[.inr p.1,.inr p.2]
noncomputable def nkv:Nat->List (V2×V2)->List (List Key×V)
 |_,[]=>[]
 |n,p::r=>(kp p,.int n)::nkv (n+1) r
theorem J4H{p q:V2×V2}(h:kp p=kp q):p=q:=by
 injection h with a b
 injection b with b _
 exact Prod.ext (Sum.inr.inj a) (Sum.inr.inj b)
theorem Z7V:∀{n:Nat}{ps:List (V2×V2)},(nkv n ps).length=ps.length
 |_,[]=>rfl
 |n,_::r=>congrArg (·+1) (Z7V (n:=n+1) (ps:=r))
theorem Z9K:∀{n:Nat}{ps:List (V2×V2)}{p:V2×V2},nkv n (ps++[p])=nkv n ps++[(kp p,.int ((n+ps.length:Nat):Int))]
 |n,[],p=>rfl
 |n,q::r,p=>by
  show _::nkv (n+1) (r++[p])=_::(nkv (n+1) r++_);rw[Z9K,qc3,show n+1+r.length=n+(r.length+1)by omega]
theorem Z5M:∀{n:Nat}{ps:List (V2×V2)}{p:V2×V2},p∉ps->valV (nkv n ps) (kp p)=none
 |n,[],p,_=>rfl
 |n,q::r,p,h=>by
  show valV ((kp q,_)::nkv (n+1) r) _=_;rw[Z0z (λ z=>h (by rw[J4H z];exact qa9))];exact Z5M λ z=>h (qb1 _ z)
theorem J5F{ps:List (V2×V2)}{p:V2×V2}(h:p∉ps):putK (nkv 0 ps) (kp p) (.int ((nkv 0 ps).length:Int))=nkv 0 (ps++[p]):=by
 unfold putK;rw[Z2W,Z5M h,Z9K,Z7V,qk3];rfl
theorem J4D:∀{n i:Nat}{ps:List (V2×V2)}{p:V2×V2},ps.Nodup->ps[i]?=some p->valV (nkv n ps) (kp p)=some (.int ((n+i:Nat):Int))
 |n,i,[],p,_,h=>by cases h
 |n,0,q::r,p,a,h=>by cases h;exact Z0H rfl
 |n,i+1,q::r,p,a,h=>by
  show valV ((kp q,_)::nkv (n+1) r) _=_;have h:r[i]?=some p:=h;rw[Z0z (λ z=>(qc4.mp a).1 (by rw[J4H z];exact qb0 h)),J4D (qc4.mp a).2 h,show n+1+i=n+(i+1)by omega]
theorem J1L{hs:List Hs}{p:V2×V2}(h:p∈prs2 hs):∃X∈hs,X.name=p.1/\p.2∈X.words.map Wd.name:=by
 obtain⟨X,a,m⟩:=List.mem_flatMap.mp h;obtain⟨d,hd,rfl⟩:=qb4.mp m;exact⟨X,a,rfl,qb6 hd⟩
theorem Z7W:∀{g:List Hs},(g.map Hs.name).Nodup->(∀h∈g,(h.words.map Wd.name).Nodup)->(prs2 g).Nodup
 |[],_,_=>qg9
 |X::r,c,w=>by
  have c:=qc4.mp c;show((X.words.map λ d=>(X.name,d.name))++prs2 r).Nodup;refine qe3.mpr ⟨?_,Z7W c.2 λ h j=>w h (qb1 _ j),λ a ha b m e=>?_⟩
  ·have:=w X qa9;rw[List.nodup_iff_pairwise_ne,List.pairwise_map]at this ⊢;exact this.imp λ h e=>h (Prod.mk.inj e).2
  ·obtain⟨d,_,rfl⟩:=qb4.mp ha;obtain⟨Y,n,i,_⟩:=J1L m;rw[<-e]at i;exact c.1 (by rw[show X.name=Y.name from i.symm];exact qb6 n)
theorem J0y:∀{a:List Hs}{X:Hs}{i:Nat}{w:V2},(a.map Hs.name).Nodup->X∈a->(X.words.map Wd.name)[i]?=some w->(prs2 a)[Z0M a X.name+i]?=some (X.name,w)
 |Y::r,X,i,w,b,c,h=>by
  have b:=qc4.mp b;have g:i<X.words.length:=by have:=(qa7.mp h).1;rw[qa0]at this;exact this
  show((Y.words.map λ d=>(Y.name,d.name))++prs2 r)[(if Y.name=X.name then 0 else Y.words.length+Z0M r X.name)+i]?=_;by_cases z:Y.name=X.name
  ·have e:X=Y:=by
    rcases qa2.mp c with q|q
    ·exact q
    ·exact absurd (by rw[z];exact qb6 q) b.1
   subst e;rw[if_pos rfl,qk3,qi2 (by rw[qa0];exact g),qa4];rw[qa4]at h;obtain⟨d,hd,rfl⟩:=qc1.mp h;rw[hd];rfl
  ·have c:X∈r:=(qa2.mp c).resolve_left λ q=>z (by rw[q]);rw[if_neg z,qh4 (by rw[qa0];omega),qa0,show Y.words.length+Z0M r X.name+i-Y.words.length=Z0M r X.name+i by omega];exact J0y b.2 c h
structure J5p(G:Pg)(kvs:List (List Key×V)):Prop where
 y:∀X∈G.houses,∀(i:Nat) w,(X.words.map Wd.name)[i]?=some w->valV kvs (kp (X.name,w))=some (.int ((Z0M G.houses X.name+i:Nat):Int))
 n:∀X∈G.houses,∀w,w∉X.words.map Wd.name->valV kvs (kp (X.name,w))=none
theorem J9y{G:Pg}(a:(G.houses.map Hs.name).Nodup)(e:∀h∈G.houses,(h.words.map Wd.name).Nodup):J5p G (nkv 0 (prs2 G.houses)):=by
 refine⟨λ X b i w h=>?_,λ X b w h=>Z5M λ z=>?_⟩
 ·have:=J4D (n:=0) (Z7W a e) (J0y a b h);rw[qk3]at this;exact this
 ·obtain⟨Y,g,j,c⟩:=J1L z;have:Y=X:=Z5x a g b j;rw[this]at c;exact h c
theorem J6d{K:X0}{H:Hp}{v:V}{c:List Wd}(h:RT K H v (.tuple (c.map Z2y))):∃a i,v=.ref a/\SqT K H a i/\i.length=c.length/\∀(k:Nat) t,i[k]?=some t->∃d b f g,c[k]?=some d/\t=.ref b/\SqT K H b [.str d.name,f,.str d.kind,g]:=by
 obtain⟨a,o,e,p,n⟩:=RT.tup_inv h;refine⟨a,o,e,p,by rw[n.length,qa0],λ k t q=>?_⟩;obtain⟨d,hd,r⟩:=n.at q;rw[qa4]at hd;obtain⟨X,u,rfl⟩:=qc1.mp hd;obtain⟨b,I,rfl,j,m⟩:=r.tup_inv;obtain⟨J,L,rfl,x,y⟩:=m.inv;obtain⟨z,M,rfl,N,A⟩:=y.inv;obtain⟨O,Q,rfl,C,D⟩:=A.inv;obtain⟨E,R,rfl,S,G⟩:=D.inv;cases G.nil_inv;cases x.str_inv;cases C.str_inv;exact⟨X,b,z,E,u,rfl,j⟩
noncomputable def NMI(H:Hp)(d:V0)(ps:Nat->List (V2×V2))(σ0:List (Option V)->St)(m:Nat)(i:Nat)(σ:St)(H':Hp):Prop:=∃a:List (Option V),Same H H'/\H' d=some (.dT (nkv 0 (ps i)))/\a.length=m/\σ=σ0 a
inductive J0F(K:X0)(vs:List V)(H:Hp)(Q:VK):Prop
 |mk(a:V0)(G:Pg)(a1:vs=[.ref a])(a2:RT K H (.ref a) (.tuple (G.houses.map Z2l)))(a3:(G.houses.map Hs.name).Nodup)(a4:G.houses.length<=12)(a5:(∀h∈G.houses,(h.words.map Wd.name).Nodup/\h.words.length<=5))(a6:∀d H' kvs,H d=none->Same H H'->H' d=some (.dT kvs)->J5p G kvs->Q (.ref d) H'):J0F K vs H Q
def J0K(K:X0):Sp:=λ a H Q _=>J0F K a H Q
theorem J5j(T:Txt K mg Cl Ct Cw Ch Cp):Has P w K mg base 1 "_law_numbers" ["_law_houses"] (J0K K):=by
 refine Has.of T.O0Q O0q (λ _ _ _ _ _ _ C hl=>el1 C hl λ _=>rfl) (λ vs H Q E h=>?_) (λ f d0 A R s H vs Q E hr h=>?_)
 ·obtain⟨a,G,rfl,_⟩:=h;rfl
 obtain⟨a,G,rfl,rt,nd,e0,S,q⟩:=h;refine⟨_,(Z0a (qG 1 O0q.nd J2Y) (Z0a (Z0T PassesOwn.never rfl (Z1s (pvF 0)) (qH 2 O0q.nd) (Z0d (Z0T PassesOwn.never rfl (Z1s (qA K 2)) (qH 3 O0q.nd) (Z0d (Z1g (Z0r hr) (pvF 1) (Z0m (qJ (qA K 2) (qA K 3))) (Z1q (r:=J5Q) J0V rfl T.z_len J4B (qI (pvF 1))) rfl))))) (Z0d (Z0j (pvF 1))))),?_⟩;refine seq3 λ U D f0 I=>?_;walk_at "r";intro d hd;subst I;walk_at "r";have s1:=Z0n hd (.dT []);have e1:upd H d (.dT []) d=some (.dT []):=Z0b;generalize upd H d (.dT [])=H1 at*;obtain⟨Y,t1,t2,t3⟩:=J2P rt;refine⟨⟨Y,t1.same s1⟩,?_⟩;have J:∀h∈G.houses,(h.words.map Wd.name).Nodup:=λ h L=>(S h L).1;have M:=Z7W nd J;have tk:∀{i:Nat}{X:Hs},G.houses[i]?=some X->prs2 (G.houses.take (i+1))=prs2 (G.houses.take i)++X.words.map λ w=>(X.name,w.name):=λ{i X} h=>by
  unfold prs2;rw[qf3,h,List.flatMap_append];show _++(_++[])=_;rw[qd0]
 have pre:∀i,∃r,prs2 G.houses=prs2 (G.houses.take i)++r:=λ i=>⟨prs2 (G.houses.drop i),by unfold prs2;rw[<-List.flatMap_append,qj1]⟩;have lp:∀i,(prs2 (G.houses.take i)).length<=5*12:=λ i=>by
  have:∀{hs:List Hs},(∀h∈hs,h.words.length<=5)->(prs2 hs).length<=5*hs.length:=λ{hs}=>by
   induction hs with
   |nil=>exact λ _=>qa1 _
   |cons X r ih=>
    intro w;have h1:=w X qa9;have Z:=ih λ h L=>w h (qb1 _ L);show((X.words.map λ d=>(X.name,d.name))++prs2 r).length<=5*(r.length+1);rw[qa5,qa0];omega
  have h1:=this (hs:=G.houses.take i) λ h L=>(S h (qi9 L)).2;have Z:=ql4 i G.houses;rw[qb3]at*;omega
 refine Z2Z Y (NMI H d (λ i=>prs2 (G.houses.take i)) (λ e=>some (V.ref a)::some (V.ref d)::e) 2) ⟨_,s1,e1,rfl,rfl⟩ (λ i N p _ n=>?_) (λ i y N p hy n=>?_) (λ N p n=>?_)
 ·obtain⟨e,u,_⟩:=n;exact t1.same u
 ·obtain⟨e,u,x,m,rfl⟩:=n;obtain⟨o2,o3,rfl⟩:∃a b,e=[a,b]:=by
   match e,m with
   |[a,b],_=>exact⟨a,b,rfl⟩
  obtain⟨X,b,f,g,hX,rfl,sq,rf,rg⟩:=t3 i y hy;obtain⟨aw,C,rfl,u1,u2,u3⟩:=J6d rg;walk_at "r";refine⟨_,sq.same u,_,(rfl:atI _ 3=some (.ref aw)),_,rfl,⟨C,u1.same u⟩,?_⟩;refine Z2Z C (NMI H d (λ j=>prs2 (G.houses.take i)++(X.words.map λ w=>(X.name,w.name)).take j) (λ e=>some (V.ref a)::some (V.ref d)::some (V.ref b)::e) 1) ⟨_,u,by show p d=some (.dT (nkv 0 (_++List.take 0 _)));rw[List.take_zero,qd0];exact x,rfl,rfl⟩ (λ j N p _ n=>?_) (λ j y N p hy n=>?_) (λ N p n=>?_)
  ·obtain⟨e,v,_⟩:=n;exact u1.same v
  ·obtain⟨e,v,c,m,rfl⟩:=n;obtain⟨o3,rfl⟩:∃a,e=[a]:=by
    match e,m with
    |[a],_=>exact⟨a,rfl⟩
   obtain⟨O,bw,fw,gw,hw,rfl,a0⟩:=u3 j y hy;have c:p d=some (.dT (nkv 0 (prs2 (G.houses.take i)++(X.words.map λ w=>(X.name,w.name)).take j))):=c;walk_at "r";have b0:(X.words.map λ w=>(X.name,w.name))[j]?=some (X.name,O.name):=by rw[qa4,hw];rfl
   have eL:prs2 (G.houses.take i)++(X.words.map λ w=>(X.name,w.name)).take (j+1)=(prs2 (G.houses.take i)++(X.words.map λ w=>(X.name,w.name)).take j)++[(X.name,O.name)]:=by
    rw[qf3 (l:=X.words.map λ w=>(X.name,w.name)),b0,qe8];rfl
   have c0:((prs2 (G.houses.take i)++(X.words.map λ w=>(X.name,w.name)).take j)++[(X.name,O.name)]).Nodup:=by
    rw[<-eL];obtain⟨r,er⟩:=pre (i+1);rw[er,tk hX]at M;exact ql6 ((qn2 _).append (List.take_sublist _ _)) (qe3.mp M).1
   have nin:(X.name,O.name)∉prs2 (G.houses.take i)++(X.words.map λ w=>(X.name,w.name)).take j:=λ z=>(qe3.mp c0).2.2 _ z _ qa9 rfl;refine⟨_,.inl c,_,sq.same v,_,ix0,_,a0.same v,_,ix0,New.of λ kt H2 Z s2 e2=>⟨_,DPut.t (k:=kp (X.name,O.name)) (s2 _ _ c) e2 ?_,_,λ b' o hb=>?_,?_,rfl,rfl⟩⟩
   ·rw[Z7V,sizeLine_eq,qa5];have h1:=lp i;have Z:=ql4 j (X.words.map λ w=>(X.name,w.name));rw[qb3,qa0]at*;have:=(S X (qb0 hX)).2;omega
   ·rw[Z0e (λ z=>by rw[z,hd]at hb;cases hb)];exact s2 _ _ (v _ _ hb)
   ·rw[Z0b,J5F nin,<-eL]
  ·obtain⟨e,v,c,m,rfl⟩:=n;obtain⟨o3,rfl⟩:∃a,e=[a]:=by
    match e,m with
    |[a],_=>exact⟨a,rfl⟩
   refine⟨_,v,?_,rfl,rfl⟩;have c:p d=some (.dT (nkv 0 (prs2 (G.houses.take i)++(X.words.map λ w=>(X.name,w.name)).take C.length))):=c;rw[qd6 (l:=X.words.map λ w=>(X.name,w.name)) (by rw[qa0];omega),<-tk hX]at c;exact c
 ·obtain⟨e,u,x,m,rfl⟩:=n;obtain⟨o2,o3,rfl⟩:∃a b,e=[a,b]:=by
   match e,m with
   |[a,b],_=>exact⟨a,b,rfl⟩
  show U _ _ _;subst D;walk_at "r";have x:p d=some (.dT (nkv 0 (prs2 (G.houses.take Y.length)))):=x;rw[qd6 qR]at x;exact q d p _ hd u x (J9y nd J)
open P52 (Z7G Z3M Z7h Z5G Z4X wn Z0M bk)
noncomputable def fvs:Nat->List Hs->List V
 |_,[]=>[]
 |n,X::r=>.int (n:Int)::fvs (n+X.words.length) r
theorem J0R:∀(n:Nat)(a:List Hs),(fvs n a).length=a.length
 |_,[]=>rfl
 |n,X::r=>congrArg (·+1) (J0R (n+X.words.length) r)
def sumW(hs:List Hs):Nat:=(hs.map λ X=>X.words.length).sum
theorem J4Z:∀{hs:List Hs}{n i:Nat}{X:Hs},hs[i]?=some X->(fvs n hs)[i]?=some (.int ((n+sumW (hs.take i):Nat):Int))
 |Y::hs,n,0,X,h=>rfl
 |Y::hs,n,i+1,X,h=>by
  have:=J4Z (hs:=hs) (n:=n+Y.words.length) (i:=i) (X:=X) h;show(fvs (n+Y.words.length) hs)[i]?=_;rw[this];show some (V.int ((n+Y.words.length+sumW (hs.take i):Nat):Int))=some (V.int ((n+sumW (Y::hs.take i):Nat):Int));refine congrArg (λ k:Nat=>some (V.int (k:Int))) ?_;show _=n+((Y::hs.take i).map λ X=>X.words.length).sum;rw[qb8,List.sum_cons,Nat.add_assoc];rfl
theorem J1a{hs:List Hs}{i:Nat}{X:Hs}(h:hs[i]?=some X):sumW (hs.take (i+1))=sumW (hs.take i)+X.words.length:=by
 have a:=(qa7.mp h).1;unfold sumW;rw[qf1 a,(qa7.mp h).2,qc2,List.sum_append];simp
theorem J2H:∀{a:List Hs}{n:Nat}{h:V2},h∈a.map Hs.name->valV (kvOf (fvs n a) a) (.inr h)=some (.int ((n+Z0M a h:Nat):Int))
 |Y::a,n,h,b=>by
  show valV ((.inr Y.name,.int (n:Int))::kvOf (fvs (n+Y.words.length) a) a) _=_;by_cases e:Y.name=h
  ·rw[Z0H (by rw[e])];show _=some (V.int ((n+(if Y.name=h then 0 else _):Nat):Int));rw[if_pos e];rfl
  ·have b:h∈a.map Hs.name:=by
    rcases qa2.mp b with z|z
    ·exact absurd z.symm e
    ·exact z
   rw[Z0z (λ z=>e (Sum.inr.inj z)),J2H b];show _=some (V.int ((n+(if Y.name=h then 0 else Y.words.length+Z0M a h):Nat):Int));rw[if_neg e,Nat.add_assoc]
noncomputable def bkV:Option Nat->V
 |none=>.non
 |some n=>.int (n:Int)
inductive Z7s(c:CS)(K:X0)(vs:List V)(H:Hp)(Q:VK):Prop
 |mk(pp:V)(G:Pg)(a1:vs=[pp])(a2:PgO K c H pp G)(a3:GOk G)(a4:G.houses.length<=100)(a5:∀d H',Same H H'->H' d=some (.dK (kvOf (fvs 0 G.houses) G.houses))->Q (.ref d) H'):Z7s c K vs H Q
def Z6Z(c:CS)(K:X0):Sp:=λ a H Q _=>Z7s c K a H Q
inductive Z6O(c:CS)(K:X0)(vs:List V)(H:Hp)(Q:VK):Prop
 |mk(a d:V0)(h wd:V2)(G:Pg)(es:List V2)(r:Option (V2×Nat×Wd))(a1:vs=[.ref a,.ref d,.str h,.str wd])(a2:HlO K c H (.ref a) G)(a3:H d=some (.dK (kvOf (fvs 0 G.houses) G.houses)))(a4:Chain G h es)(a5:es.length<=100)(a6:FO G wd (h::es) r)(a7:∀H',Same H H'->Q (bkV (bk G r)) H'):Z6O c K vs H Q
def Z6A(c:CS)(K:X0):Sp:=λ a H Q _=>Z6O c K a H Q
theorem J9j{H:Hp}{a:V0}{kvs:List (Key×V)}(o:HO)(h:H a=some (.dK kvs)):Kp H (upd H a o):=
 ⟨λ b c e=>(Z0e (λ z=>by rw[z,h]at e;cases e)).trans e,λ b o c e=>(Z0e (λ z=>by rw[z,h]at e;cases e)).trans e,λ b C g f fs e=>(Z0e (λ z=>by rw[z,h]at e;cases e)).trans e⟩
theorem J3k{K:X0}{c:CS}{H:Hp}{g:V}{G:Pg}(n:PgO K c H g G):∃h e i j m,g=.ref h/\H h=some (.ins c.program e [("all_houses",.ref i),("main",m)])/\SqT K H i j/\A2 (HsO K c H) j G.houses/\WdO K c H m G.main:=by
 cases n with
 |mk a b c d=>exact⟨_,_,_,_,_,rfl,a,b,c,d⟩
noncomputable def FBI(H1:Hp)(d:V0)(pp:V)(houses:List Hs)(i:Nat)(σ:St)(H':Hp):Prop:=∃a,SX d H1 H'/\H' d=some (.dK ((kvOf (fvs 0 houses) houses).take i))/\σ=[some pp,some (.ref d),some (.int ((sumW (houses.take i):Nat):Int)),a]
theorem J2o(T:Txt K mg Cl Ct Cw Ch Cp):Has P w K mg base 1 "first_blocks" ["program"] (Z6Z (CS.mk Ct Cw Ch Cp Cl Cs Cq Ck B) K):=by
 refine Has.of T.O0N O0i (λ _ _ _ _ _ _ us hl=>el1 us hl λ _=>rfl) (λ vs H Q E h=>?_) (λ f a0 A D s H vs Q E hr h=>?_)
 ·obtain⟨pp,G,rfl,_⟩:=h;rfl
 obtain⟨pp,G,rfl,hp,ok,U,q⟩:=h;obtain⟨pa,I,Y,J,mv,rfl,ha,Z,hh,hm⟩:=J3k hp;have lh:J.length=G.houses.length:=hh.len;have lf:=J0R 0 G.houses;refine⟨_,(Z0a (qG 1 O0i.nd Z4g) (Z0a (qG 2 O0i.nd Z0c) (Z0a (Z0T PassesOwn.never rfl (Z1s (qO 0)) (qH 3 O0i.nd) (Z0a (Z1g (Z0r hr) (pvF 1) (qO 3) (pvF 2) rfl) (Z0d (J4I (i:=2) O0i.nd rfl (Or.inl rfl) (qL T.z_len (qI (qO 3))) J6V)))) (Z0d (Z0j (pvF 1)))))),?_⟩;refine seq4 λ b0 g c0 j d0 m=>?_;walk_at "r";intro d hd;have p:=Z0n hd (.dK []);have v:upd H d (.dK []) d=some (.dK []):=Z0b;generalize upd H d (.dK [])=L at*;subst m;walk_at "r";subst j;walk_at "r";refine⟨Cp,I,_,p _ _ ha,T.Program.cl,T.n_Program_all_houses,.ref Y,rfl,Y,rfl,⟨_,SqT.same Z p⟩,?_⟩;have kd:∀{H':Hp},SX d L H'->Kp L H':=λ h=>⟨λ b xs e=>h b _ (λ z=>by rw[z,v]at e;cases e) e,λ b o xs e=>h b _ (λ z=>by rw[z,v]at e;cases e) e,λ b C dx f fs e=>h b _ (λ z=>by rw[z,v]at e;cases e) e⟩;refine Z2Z J (FBI L d (.ref pa) G.houses) ⟨none,λ _ _ _ h=>h,v,rfl⟩ (λ i σ H' _ h=>?_) (λ i y σ H' hy h=>?_) (λ σ H' h=>?_)
 ·obtain⟨o2,a,_⟩:=h;exact SqT.kp (SqT.same Z p) (kd a)
 ·obtain⟨o2,a,c,rfl⟩:=h;obtain⟨X,r,M⟩:=hh.at hy;have M:=HsO.kp (M.same p) (kd a);have hi:i<100:=by have:=(qa7.mp hy).1;omega
  cases M with
  |@mk b bx ft wt ws _ x f2 f3 f4=>
  have lw:ws.length=X.words.length:=f4.len;have e0:=(ok.hs X (qb0 r)).wl;refine seq2 λ f0 u=>?_;walk_at "r";refine⟨Ch,bx,_,x,T.House.cl,T.n_House_name,_,rfl,_,DPut.k (k:=.inr X.name) c ?_,?_⟩
  ·have:=ql4 i (kvOf (fvs 0 G.houses) G.houses);rw[sizeLine_eq];omega
  have N:=a.trans (SX.put (H:=H') (.dK (putK ((kvOf (fvs 0 G.houses) G.houses).take i) (.inr X.name) (.int ((sumW (G.houses.take i):Nat):Int)))));have e2:upd H' d (.dK (putK ((kvOf (fvs 0 G.houses) G.houses).take i) (.inr X.name) (.int ((sumW (G.houses.take i):Nat):Int)))) d=some (.dK ((kvOf (fvs 0 G.houses) G.houses).take (i+1))):=by
   have:=J4Z (n:=0) r;rw[qk3]at this;rw[Z0b,Z8w this r,Z5O _ (Z9J lf ok.nd r)]
  have O:b≠d:=λ z=>by rw[z,c]at x;cases x
  have R:upd H' d (.dK (putK ((kvOf (fvs 0 G.houses) G.houses).take i) (.inr X.name) (.int ((sumW (G.houses.take i):Nat):Int)))) b=_:=(Z0e O).trans x;have S:=SqT.kp f3 (J9j (.dK (putK ((kvOf (fvs 0 G.houses) G.houses).take i) (.inr X.name) (.int ((sumW (G.houses.take i):Nat):Int)))) c);generalize upd H' d (.dK (putK ((kvOf (fvs 0 G.houses) G.houses).take i) (.inr X.name) (.int ((sumW (G.houses.take i):Nat):Int))))=H2 at*;subst u;walk_at "r";refine⟨Ch,bx,_,R,T.House.cl,T.n_House_own_words,_,rfl,?_⟩;refine⟨wt,rfl,ws,.inr S,some (.ref b),N,e2,?_⟩;rw[J1a r,lw,qi0]
 ·obtain⟨o2,a,c,rfl⟩:=h;subst g;walk_at "r";have lk:(kvOf (fvs 0 G.houses) G.houses).length=J.length:=by
   have:=congrArg qd5 (Z4b lf);rw[qa0,qa0]at this;omega
  rw[qd6 qR]at c;exact q d H' (λ b o e=>a _ _ (Z0g e hd) (p _ _ e)) c
theorem J1I(T:Txt K mg Cl Ct Cw Ch Cp)(b:HasM P w K mg base 2 Cl "found" ["self","house","word"] (Z6w (CS.mk Ct Cw Ch Cp Cl Cs Cq Ck B) K)):Has P w K mg base 3 "found_block" ["hall","firsts","house","word"] (Z6A (CS.mk Ct Cw Ch Cp Cl Cs Cq Ck B) K):=by
 refine Has.of T.O0U O0B (λ _ _ _ _ _ _ N m=>el4 N m λ _ _ _ _=>rfl) (λ O H Q E h=>?_) (λ f R A o s H O Q E x h=>?_)
 ·obtain⟨a,d,h,y,G,C,r,rfl,_⟩:=h;rfl
 obtain⟨a,d,h,y,G,C,r,rfl,m,hd,S,u,D,q⟩:=h;refine⟨_,(Z0a (qG 4 O0B.nd (Z4D (pvF 0) T.Hall.cl b x qS (qJ (pvF 2) (pvF 3)))) (Z0a (Z0E (qM J4T (pvF 4) Z0V) (Z0d (Z0j Z0V)) Z0p) (Z0d (Z0j (Z0i Z0R (Z0l (Z0r x) (pvF 1) (qA K 4) (λ _ _=>rfl)) (qA K 4)))))),?_⟩;refine seq3 λ U e Y g=>?_;walk_at "r";obtain⟨Z,io,dd,a0,ea,ed,ok,b0⟩:=Z2B m;refine⟨Z,_,ea,rfl,a,h,y,G,C,r,rfl,m,S,u,D,λ p H1 v I=>?_⟩;subst g;walk_at "r";cases r with
 |none=>
  cases I;exact ite2 (λ _=>q _ v) (λ z=>absurd rfl z)
 |some t=>
  obtain⟨c,ix,d'⟩:=t;obtain⟨pa,xs,rfl,J,j⟩:=RT.tup_inv I;obtain⟨v1,r1,rfl,g1,j⟩:=j.inv;obtain⟨v2,r2,rfl,g2,j⟩:=j.inv;cases j.nil_inv;cases g1;cases g2;refine ite2 (λ z=>by simp at z) (λ _=>?_);subst e;walk_at "r";obtain⟨X,L,c0⟩:=D.at;have hm:c∈G.houses.map Hs.name:=by rw[<-L.2];exact qb6 L.1
  have M:=J2H (n:=0) hm;rw[qk3]at M;refine⟨_,J,_,ix0,.int ((Z0M G.houses c:Nat):Int),?_,⟨_,J,_,ix1,_,rfl,_,rfl,?_⟩⟩
  ·rw[<-M];exact DGet.k (k:=.inr c) (v _ _ hd)
  ·have:=q H1 v;rw[show bkV (bk G (some (c,ix,d')))=V.int ((Z0M G.houses c:Nat)+(ix:Nat):Int)from by
    show V.int ((Z0M G.houses c+ix:Nat):Int)=_;rw[qi0]]at this
   exact this
open P23 (FO)
open P52 (Z0M bk)
open P70 (addI Z8t Z6n Z6q putI)
inductive Z9G(c:CS)(K:X0)(vs:List V)(H:Hp)(Q:VK):Prop
 |mk(pp:V)(k wd:V2)(G:Pg)(ch:V2->List V2)(fo:V2->Option (V2×Nat×Wd))(B:V2->Nat)(a1:vs=[pp,.str k,.str wd])(a2:PgO K c H pp G)(a3:GOk G)(a4:G.houses.length<=12)(a5:(∀x∈G.houses.map Hs.name,Chain G x (ch x)/\(ch x).length<=100/\FO G wd (x::ch x) (fo x)))(a6:k∈G.houses.map Hs.name)(a7:(∀x∈k::(G.houses.map Hs.name).filter (λ x=>decide (k∈ch x)),bk G (fo x)=some (B x)))(a8:∀l (ms:List Int) H',H l=none->Same H H'->H' l=some (.lst (ms.map V.int))->ms.Pairwise (·<=·)->ms.Nodup->(∀n,n∈ms↔∃x∈k::(G.houses.map Hs.name).filter (λ x=>decide (k∈ch x)),n=(B x:Int))->Q (.ref l) H'):Z9G c K vs H Q
def J3K(c:CS)(K:X0):Sp:=λ a H Q _=>Z9G c K a H Q
noncomputable def MEI(H3:Hp)(p l3:V0)(xs:List V2)(B:V2->Nat)(σ0:Option V->St)(i:Nat)(σ:St)(H':Hp):Prop:=∃(a:List (Key×V))(b:List Int)(o:Option V),Same H3 H'/\H' l3=some (.lst (xs.map V.str))/\H' p=some (.dK a)/\a.map Prod.fst=b.map Sum.inl/\b.Nodup/\b.length<=i/\(∀n,n∈b↔∃x∈xs.take i,n=(B x:Int))/\σ=σ0 o
theorem J3I(T:Txt K mg Cl Ct Cw Ch Cp)(g:HasM P w K mg base 1 Cl "__init__" ["self","program"] (Z9F (CS.mk Ct Cw Ch Cp Cl Cs Cq Ck B) K))(j:Has P w K mg base 1 "first_blocks" ["program"] (Z6Z (CS.mk Ct Cw Ch Cp Cl Cs Cq Ck B) K))(m:HasM P w K mg base 2 Cl "younger" ["self","house"] (Z5D (CS.mk Ct Cw Ch Cp Cl Cs Cq Ck B) K))(u:Has P w K mg base 3 "found_block" ["hall","firsts","house","word"] (Z6A (CS.mk Ct Cw Ch Cp Cl Cs Cq Ck B) K)):Has P w K mg base 4 "meant" ["program","kind","word"] (J3K (CS.mk Ct Cw Ch Cp Cl Cs Cq Ck B) K):=by
 refine Has.of T.O1y O0D (λ _ _ _ _ _ _ us X=>el3 us X λ _ _ _=>rfl) (λ vs H Q E h=>?_) (λ f s0 A i0 s H vs Q E Y h=>?_)
 ·obtain⟨pp,k,wd,G,I,fo,B,rfl,_⟩:=h;rfl
 obtain⟨pp,k,wd,G,I,fo,B',rfl,hp,ok,r0,L,hk,hB,q⟩:=h;refine⟨_,(Z0a (qG 3 O0D.nd (Z7M T.Hall g Y qS rfl (qI (pvF 0)))) (Z0a (qG 4 O0D.nd (qF j Y (qI (pvF 0)))) (Z0a (qG 5 O0D.nd Z4g) (Z0a (Z0T PassesOwn.never rfl (Z0P (Z0i Z1l (Z0t (qI (pvF 1))) (Z4D (pvF 3) T.Hall.cl m Y qS (qI (pvF 1))))) (qH 6 O0D.nd) (Z0d (Z1g (Z0r Y) (pvF 5) (qF u Y (Z0v (pvF 3) (qK (pvF 4) (pvF 6) (pvF 2)))) J7q rfl))) (Z0d (Z0j (Z1q (r:=Z8k) (Z7P rfl) rfl T.O0T Z4J (qI (pvF 5))))))))),?_⟩;refine seq5 λ t0 Z u0 a0 v0 b0 w0 c0=>?_;walk_at "r";intro x dx n1 n2 ne;have s1:=Z3Z (C:=Cl) n1 n2 ne;refine⟨x,dx,pp,G,rfl,Z0b,hp.same s1,ok,qR,λ H1 j0 d0 k0=>⟨rfl,?_⟩⟩;have M:Same H H1:=Z4B s1 j0 n1;subst c0;walk_at "r";refine⟨pp,G,rfl,hp.same M,ok,qR,λ d H2 R e2=>?_⟩;subst b0;walk_at "r";intro p e0;have s3:=Z0n e0 (.dK []);have e3:upd H2 p (.dK []) p=some (.dK []):=Z0b;generalize upd H2 p (.dK [])=H3 at*;subst a0;walk_at "r";refine New.of λ l1 H4 h4 s4 e4=>?_;have x0:=M.trans (R.trans (s3.trans s4));have f0:=d0.same (R.trans (s3.trans s4));have l0:InO (CS.mk Ct Cw Ch Cp Cl Cs Cq Ck B) H4 x G:=by
  obtain⟨a,b,c,e,f⟩:=k0;exact⟨a,b,c,(R.trans (s3.trans s4)) _ _ e,(R.trans (s3.trans s4)) _ _ f⟩
 obtain⟨m0,io,dd,y0,ea,ed,_,z0⟩:=Z2B f0;refine⟨m0,_,ea,rfl,x,k,G,I,rfl,f0,l0,qR,λ y D=>⟨(L y D).1,(L y D).2.1⟩,λ l2 H5 h5 s5 e5=>⟨l2,rfl,_,s5 _ _ e4,_,e5,?_,New.of λ l3 H6 h6 s6 e6=>⟨⟨_,SqL.of e6⟩,?_⟩⟩⟩
 ·rw[qa0];have:=qe4 (λ x=>decide (k∈I x)) (G.houses.map Hs.name);rw[qa0]at this;show 1+_<=_;omega
 rw[show[V.str k]++((G.houses.map Hs.name).filter λ x=>decide (k∈I x)).map V.str=(k::(G.houses.map Hs.name).filter λ x=>decide (k∈I x)).map V.str from rfl]at*;have n0:∀y∈k::(G.houses.map Hs.name).filter (λ x=>decide (k∈I x)),y∈G.houses.map Hs.name:=λ y D=>(qa2.mp D).elim (λ e=>by rw[e];exact hk) λ e=>(qc7.mp e).1;have A0:(k::(G.houses.map Hs.name).filter λ x=>decide (k∈I x)).length<=13:=by
  have:=qe4 (λ x=>decide (k∈I x)) (G.houses.map Hs.name);rw[qa0]at this;show _+1<=_;omega
 generalize(k::(G.houses.map Hs.name).filter λ x=>decide (k∈I x))=xs at*;have S6:=s4.trans (s5.trans s6);have N:=S6 _ _ e3;have o0:l3≠p:=λ z=>by rw[z]at e6;rw[e6]at N;cases N
 have p0:=s3.trans S6;refine Z1i (xs.map V.str) (MEI H2 p l3 xs B' λ o=>[some pp,some (V.str k),some (V.str wd),some (V.ref x),some (V.ref d),some (V.ref p),o]) ⟨[],[],none,p0,e6,N,rfl,qg9,qa1 _,λ n=>⟨(λ z=>by cases z),λ⟨_,z,_⟩=>by cases z⟩,rfl⟩ (λ i σ H' _ h=>?_) (λ i y σ H' D h=>?_) (λ σ H' h=>?_)
 ·obtain⟨v,ns,o,S,el,_⟩:=h;exact SqL.of el
 ·obtain⟨v,ns,o,S,el,e',ek,nd,X,U,rfl⟩:=h;rw[qa4]at D;obtain⟨J,O,rfl⟩:=qc1.mp D;have g0:=qb0 O;obtain⟨c1,c2,c3⟩:=L J (n0 J g0);walk_at "r";have q0:=d0.same (R.trans S);refine⟨x,d,J,wd,G,I J,fo J,rfl,q0,S _ _ e2,c1,c2,c3,λ H7 s7=>?_⟩;rw[hB J g0];have lk:v.length=ns.length:=by
   have:=congrArg qd5 ek;rw[qa0,qa0]at this;exact this
  have hi:i<xs.length:=(qa7.mp O).1;refine⟨_,DPut.k (k:=.inl ((B' J:Nat):Int)) (s7 _ _ e') (by rw[sizeLine_eq];omega),_,addI ns ((B' J:Nat):Int),_,?_,?_,Z0b,putI ek,Z8t nd,qb9 Z6q (qg1 X),λ n=>?_,rfl⟩
  ·intro b o eb;rw[Z0e (Z0g eb e0)];exact s7 _ _ (S _ _ eb)
  ·rw[Z0e o0];exact s7 _ _ el
  ·rw[Z6n,U n,qf1 hi,(qa7.mp O).2];constructor
   ·rintro(⟨y,D,e⟩|e)
    ·exact⟨y,qe0 _ D,e⟩
    ·exact⟨J,qc6 _ qa9,e⟩
   ·rintro⟨y,D,e⟩;rcases qb5.mp D with z|z
    ·exact .inl ⟨y,z,e⟩
    ·rw[qa3.mp z]at e;exact .inr e
 ·obtain⟨v,ns,o,S,el,e',ek,nd,X,U,rfl⟩:=h;subst Z;walk_at "r";rw[qa0]at X U;rw[qd6 (qa1 _)]at U;refine⟨v,.inl e',ns,?_,qR,λ ms m1 m2=>New.of λ l8 H8 h8 s8 e8=>?_⟩
  ·have:=congrArg (List.map kV) ek;rw[qd9,qd9]at this;exact this
  have h0:Same H H':=(M.trans R).trans S;refine q l8 ms H8 ?_ (h0.trans s8) e8 m2 (m1.nodup_iff.mpr nd) λ n=>⟨λ z=>(U n).mp (m1.mem_iff.mp z),λ z=>m1.mem_iff.mpr ((U n).mpr z)⟩;cases e:H l8 with
  |none=>rfl
  |some o=>rw[h0 _ _ e]at h8;cases h8
open P70 (addI Z8t Z6n Z6q)
inductive Z7K(K:X0)(vs:List V)(H:Hp)(Q:VK):Prop
 |mk(a:V0)(k wd:V2)(G:Pg)(ch:V2->List V2)(fo:V2->Option (V2×Nat×Wd))(B:V2->Nat)(a1:vs=[.ref a,.str k,.str wd])(a2:RT K H (.ref a) (.tuple (G.houses.map Z2l)))(a3:(G.houses.map Hs.name).Nodup)(a4:G.houses.length<=12)(a5:(∀h∈G.houses,(h.words.map Wd.name).Nodup/\h.words.length<=5))(a6:(∀x∈G.houses.map Hs.name,Chain G x (ch x)/\(ch x).length<=12/\FO G wd (x::ch x) (fo x)))(a7:k∈G.houses.map Hs.name)(a8:(∀x∈k::(G.houses.map Hs.name).filter (λ x=>decide (k∈ch x)),bk G (fo x)=some (B x)))(a9:∀l (ms:List Int) H',H l=none->Same H H'->H' l=some (.lst (ms.map V.int))->ms.Pairwise (·<=·)->ms.Nodup->(∀n,n∈ms↔∃x∈k::(G.houses.map Hs.name).filter (λ x=>decide (k∈ch x)),n=(B x:Int))->ms.length<=12->Q (.ref l) H'):Z7K K vs H Q
def J0u(K:X0):Sp:=λ a H Q _=>Z7K K a H Q
theorem Z6D:∀{ns:List Int},(ns.map V.int).all Z4p=true
 |[]=>rfl
 |_::r=>by rw[qb8,qj4,Z6D (ns:=r)];rfl
theorem J5I{x:Int}{ns:List Int}:inV (.int x) (ns.map V.int)=decide (x∈ns):=by
 unfold inV;rw[List.any_map];by_cases a:x∈ns
 ·rw[decide_eq_true a,ql5];exact⟨x,a,by simp[eqV]⟩
 ·rw[decide_eq_false a,qm1];intro z b;have:z≠x:=λ e=>a (e▸b);simp[eqV,this]
theorem Z6L{p:Nat->Bool}{t:Nat}:∀{n:Nat},t<n->p t=true->(∀j,j<t->p j=false)->∃r,Z2d p n=t::r
 |n+1,h,pt,a=>by
  rw[Z3I];by_cases z:t=n
  ·subst z;have:Z2d p t=[]:=by
    unfold Z2d;exact List.filter_eq_nil_iff.mpr λ j b=>by rw[a j (qf9.mp b)];decide
   rw[this,pt,if_pos rfl];exact⟨[],rfl⟩
  ·obtain⟨r,c⟩:=Z6L (n:=n) qR pt a;rw[c];exact⟨_,rfl⟩
theorem J4o{G:Pg}{w:V2}{kvs:List (List Key×V)}(num:J5p G kvs){ls:List V2}{r:Option (V2×Nat×Wd)}{b:Nat}(f:FO G w ls r)(c:bk G r=some b):∃(t:Nat)(y:V2),ls[t]?=some y/\valV kvs (kp (y,w))=some (.int (b:Int))/\∀j,j<t->valV kvs (kp (ls.getD j "",w))=none:=by
 induction f with
 |nil=>cases c
 |@here h X g i d a ix u=>
  refine⟨0,h,rfl,?_,λ j m=>by omega⟩;have e:Z0M G.houses h+i=b:=qc5 c;have:=num.y X a.1 i w (P23.Z7N ix).2.2.1;rw[a.2]at this;rw[this,<-e]
 |@there h X g r a ix _ n=>
  obtain⟨t,y,o,p,q⟩:=n c;refine⟨t+1,y,o,p,λ j m=>?_⟩;cases j with
  |zero=>
   have:=num.n X a.1 w (λ z=>by obtain⟨i,h,_⟩:=P23.Z2K z;rw[ix]at h;cases h);rw[a.2]at this;exact this
  |succ j=>exact q j qR
noncomputable def LMI(H0:Hp)(l:V0)(xs:List V2)(B:V2->Nat)(σ0:List (Option V)->St)(m:Nat)(p:V2->Bool)(i:Nat)(σ:St)(H':Hp):Prop:=∃(a:List Int)(b:List (Option V)),Same H0 H'/\H' l=some (.lst (a.map V.int))/\a.Nodup/\a.length<=i/\(∀n,n∈a↔∃x∈(xs.take i).filter p,n=(B x:Int))/\b.length=m/\σ=σ0 b
theorem J0C(T:Txt K mg Cl Ct Cw Ch Cp)(m:Has P w K mg base 1 "_law_numbers" ["_law_houses"] (J0K K))(I:Has P w K mg base 1 "_law_line" ["_law_houses","_law_name"] (Z9z K)):Has P w K mg base 2 "_law_meant" ["_law_houses","_law_kind","_law_word"] (J0u K):=by
  refine Has.of T.O1f O0o (λ _ _ _ _ _ _ us hl=>el3 us hl λ _ _ _=>rfl) (λ vs H Q E h=>?_) (λ f u0 A m0 s H vs Q E hr h=>?_)
  · obtain⟨a,k,M,G,u,fo,B',rfl,_⟩:=h;rfl
  obtain⟨a,k,M,G,u,fo,B',rfl,rt,nd,a0,wk,n0,hk,hB,q⟩:=h;refine⟨_,(Z0a (Z1W (i:=3) O0o.nd rfl (Or.inr rfl) (qF m hr (qI (pvF 0)))) (Z0a (qG 4 O0o.nd (Z0t Z0W)) (Z0a (Z0T PassesOwn.never rfl (Z1s (pvF 0)) (qH 5 O0o.nd) (Z0a (qG 6 O0o.nd (qF I hr (qJ (pvF 0) (qA K 5)))) (Z0d (Z0E (Z0Y (r:=rIn K false) Z0C (pvF 1) (pvF 6) (by with_unfolding_all rfl)) (Z0a (qG 7 O0o.nd (qD K (Z2I rfl (BlockOk.of (N:=["_law_one","_law_numbers_here","_law_word"]) (nl:=[none,some 3,some 2]) (cl:=[("_law_word",s.heap.objs.size+1),("_law_numbers_here",s.heap.objs.size+2)]) rfl qP qP rfl (sub2 rfl rfl) (nm:=["_law_word","_law_numbers_here"]) rfl qP rfl (λ i hi j hj=>by
            match i,hi with
            | 0,_=>cases hj
             |1,_=>cases hj;exact⟨_,rfl,rfl,rfl,.inl rfl⟩
             |2,_=>cases hj;exact⟨_,rfl,rfl,rfl,.inl rfl⟩
            )) (Z0P (pvF 6)) (λ C fp s H=>(qH 0 (show(["_law_one","_law_numbers_here","_law_word"]:List V2).Nodup by decide+kernel))) (λ C fp s H=>(Z5v (Z4s (Z0r hr) (Z0m (qJ (pvF 0) (pvF 2))) (pvF 1)) (by with_unfolding_all rfl))) (λ C fp s H=>(qE hr (pvF 1) (Z0m (qJ (pvF 0) (pvF 2)))))) Z0c)) (Z0d (Z0E (Z0Y (r:=rIn K true) Z3h (pvF 7) (pvF 4) (by with_unfolding_all rfl)) (Z0d (Z1a (Z2f qc9 qd7 qd8 Z0B (pvF 4) (qI (pvF 7))))) Z0p))) Z0p)))) (Z0d (Z0j (Z1q (r:=Z7U K) Z8B rfl T.O0T Z4J (qI (pvF 4)))))))),?_⟩
  refine seq4 λ o0 d0 v0 e0 w0 f0=>?_;walk_at "r";refine⟨a,G,rfl,rt,nd,a0,wk,λ d H1 J h1 s1 e1 num=>?_⟩;subst f0;walk_at "r";refine New.of λ l H2 h2 s2 e2=>?_;subst e0;walk_at "r";obtain⟨ts,t1,t2,t3⟩:=J2P rt;have S2:=s1.trans s2;refine⟨⟨ts,t1.same S2⟩,?_⟩;refine Z2Z ts (LMI H1 l (G.houses.map Hs.name) B' (λ os=>some (V.ref a)::some (V.str k)::some (V.str M)::some (V.ref d)::some (V.ref l)::os) 3 (λ x=>decide (k∈x::u x))) ⟨[],_,s2,e2,qg9,qa1 _,λ n=>⟨(λ z=>by cases z),λ⟨_,z,_⟩=>by cases z⟩,rfl,rfl⟩ (λ i U H' _ hI=>?_) (λ i y U H' hy hI=>?_) (λ U H' hI=>?_)
  · obtain⟨Y,os,sI,_⟩:=hI;exact t1.same (s1.trans sI)
  · obtain⟨Y,os,sI,el,O,p0,hm,b0,rfl⟩:=hI;obtain⟨o5,o6,o7,rfl⟩:∃a b c,os=[a,b,c]:=by
      match os,b0 with
      |[a,b,c],_=>exact⟨a,b,c,rfl⟩
    obtain⟨X,b,f,g,hX,rfl,sq,rf,rg⟩:=t3 i y hy;have q0:=qb0 hX;have g0:X.name∈G.houses.map Hs.name:=qb6 q0;obtain⟨c1,c2,c3⟩:=n0 X.name g0;have SI:=s1.trans sI;walk_at "r";refine⟨_,sq.same SI,_,ix0,a,G,X.name,u X.name,rfl,rt.same SI,nd,a0,c1,c2,λ ll H3 h3 s3 e3=>?_⟩;refine⟨ll,rfl,_,.inl (SqL.of e3),rfl,Z1L _,?_⟩;rw[Z3K];have r0:(G.houses.map Hs.name)[i]?=some X.name:=by rw[qa4,hX];rfl
    have h0:(G.houses.map Hs.name).take (i+1)=(G.houses.map Hs.name).take i++[X.name]:=by rw[qf3,r0];rfl
    have S3:=sI.trans s3;have el3:=s3 _ _ el;by_cases R:k∈X.name::u X.name
    rotate_left
    · rw[decide_eq_false R];refine ite2 (λ z=>by cases z) λ _=>⟨Y,_,S3,el3,O,qR,λ n=>?_,rfl,rfl⟩;rw[h0,qg7,qe6,decide_eq_false R];show _↔∃x∈_++[],_;rw[qd0];exact hm n
    rw[decide_eq_true R];refine ite2 (λ _=>?_) λ z=>absurd rfl z;have i0:X.name∈k::(G.houses.map Hs.name).filter (λ x=>decide (k∈u x)):=by
      rcases qa2.mp R with z|z
      · rw[z];exact qa9
      · exact qb1 _ (qc7.mpr ⟨g0,decide_eq_true z⟩)
    have s0:=hB X.name i0;obtain⟨t0,y0,c0,j0,k0⟩:=J4o num c3 s0;refine⟨ll,rfl,⟨_,SqL.of e3⟩,λ D hD=>?_⟩;have l0:=S3 _ _ e1;refine Z3x (n:=(X.name::u X.name).length) (λ U=>∃o,U=[o,some (.ref d),some (.str M)]) (λ t U=>∃y,(X.name::u X.name)[t]?=some y/\U=[some (.str y),some (.ref d),some (.str M)]) (λ t=>(valV J (kp ((X.name::u X.name).getD t "",M))).isSome) (λ t v H=>valV J (kp ((X.name::u X.name).getD t "",M))=some v) (λ _ _ _ _ h _=>h) ⟨_,rfl⟩ hD (by rw[sizeLine_eq];show(u X.name).length+1<=_;omega) (λ t H2 s ht=>⟨_,.str (X.name::u X.name)[t],SqL.of (s _ _ e3),by rw[qa4,qa8 ht];rfl⟩) (λ H2 s=>⟨_,SqL.of (s _ _ e3),by rw[qa0];exact qa1 _⟩) (λ t x U H2 H3 K' ht s2 yl hS kk=>?_) (λ t U hS=>?_) (λ t U ht hS H2 K' s2 kk=>?_) (λ t U ht hp hS H2 K' s2 kk=>?_) (λ vs H4 S4 hv hA=>?_)
    · obtain⟨o,rfl⟩:=hS;obtain⟨rfl,yl⟩:=yl;have:=yl _ (SqL.of (s2 _ _ e3));rw[qa4]at this;obtain⟨y,S,rfl⟩:=qc1.mp this;walk_at "r";exact kk _ _ ⟨y,S,rfl⟩ (Same.refl _)
    · obtain⟨y,_,rfl⟩:=hS;exact⟨_,rfl⟩
    · obtain⟨y,S,rfl⟩:=hS;have hn:(X.name::u X.name).getD t ""=y:=by rw[qd3,S];rfl
      rw[hn]at kk;walk_at "r";exact New.of λ p H5 h5 s5 e5=>⟨_,DGet.t (k:=kp (y,M)) ((s2.trans s5) _ _ l0) e5,kk _ s5⟩
    · obtain⟨y,S,rfl⟩:=hS;have hn:(X.name::u X.name).getD t ""=y:=by rw[qd3,S];rfl
      rw[hn]at kk hp;walk_at "r";obtain⟨v,hv⟩:=qm2.mp hp;refine New.of λ p H5 h5 s5 e5=>⟨v,?_,kk _ _ s5 hv⟩;rw[<-hv];exact DGet.t (k:=kp (y,M)) ((s2.trans s5) _ _ l0) e5
    obtain⟨r,hr⟩:=Z6L (p:=λ t=>(valV J (kp ((X.name::u X.name).getD t "",M))).isSome) (n:=(X.name::u X.name).length) (qa7.mp c0).1 (by
      show(valV J (kp ((X.name::u X.name).getD t0 "",M))).isSome=true;rw[qd3,c0];show(valV J (kp (y0,M))).isSome=true;rw[j0];rfl) (λ j hj=>by
      show(valV J (kp ((X.name::u X.name).getD j "",M))).isSome=false;rw[k0 j hj];rfl)
    rw[hr]at hA;cases hA with
    |@cons v t x0 z0 L A0=>
      have L:valV J (kp ((X.name::u X.name).getD t0 "",M))=some v:=L;rw[qd3,c0]at L;have L:valV J (kp (y0,M))=some v:=L;rw[j0]at L;cases L;have el4:=S4 _ _ el3;refine⟨D,rfl,_,SqL.of hv,_,ix0,_,.inl (SqL.of el4),rfl,Z6D,?_⟩;rw[J5I];have fl:∀n,(∃x∈((G.houses.map Hs.name).take (i+1)).filter λ x=>decide (k∈x::u x),n=(B' x:Int))↔n∈Y\/n=(B' X.name:Int):=λ n=>by
        rw[h0,qg7,qe6,decide_eq_true R,hm n];constructor
        · rintro⟨x,hx,e⟩;rcases qb5.mp hx with z|z
          · exact .inl ⟨x,z,e⟩
          · rw[qa3.mp z]at e;exact .inr e
        · rintro(⟨x,hx,e⟩|e)
          · exact⟨x,qe0 _ hx,e⟩
          · exact⟨_,qc6 _ qa9,e⟩
      by_cases Z:(B' X.name:Int)∈Y
      · rw[decide_eq_true Z];refine ite2 (λ z=>by cases z) λ _=>⟨Y,_,S3.trans S4,el4,O,qR,λ n=>?_,rfl,rfl⟩;rw[fl n];exact⟨.inl,λ z=>z.elim id λ e=>by rw[e];exact Z⟩
      · rw[decide_eq_false Z];refine ite2 (λ _=>⟨.inl ⟨rfl,_,SqL.of el4⟩,_,el4,by rw[qa0];have:=a0;have:=(qa7.mp hX).1;omega,Y++[(B' X.name:Int)],_,λ b' o hb=>?_,by rw[Z0b,qc2];rfl,?_,by rw[qa5];show _+1<=_;omega,λ n=>?_,rfl,rfl⟩) λ z=>absurd rfl z
        · rw[Z0e (λ z=>by rw[z,h2]at hb;cases hb)];exact(S3.trans S4) _ _ hb
        · refine qe3.mpr ⟨O,qc4.mpr ⟨(λ z=>by cases z),qg9⟩,λ a ha b hb e=>?_⟩;rw[qa3.mp hb]at e;rw[e]at ha;exact Z ha
        · rw[fl n,qb5,qa3]
  · obtain⟨Y,os,sI,el,O,p0,hm,b0,rfl⟩:=hI;obtain⟨o5,o6,o7,rfl⟩:∃a b c,os=[a,b,c]:=by
      match os,b0 with
      |[a,b,c],_=>exact⟨a,b,c,rfl⟩
    show o0 _ _ _;subst d0;walk_at "r";have hm:∀n,n∈Y↔∃x∈((G.houses.map Hs.name).take ts.length).filter λ x=>decide (k∈x::u x),n=(B' x:Int):=hm;rw[qd6 (by rw[qa0];omega)]at hm;refine⟨Y,SqL.of el,qR,λ ms pm pw=>New.of λ lr H3 h3 s3 e3=>q lr ms H3 (by cases e:H lr with|none=>rfl|some o=>rw[(s1.trans sI) _ _ e]at h3;cases h3) (s1.trans (sI.trans s3)) e3 pw (pm.nodup_iff.mpr O) (λ n=>(pm.mem_iff.trans (hm n)).trans ?_) (by rw[pm.length_eq];omega)⟩;refine⟨λ⟨x,hx,e⟩=>⟨x,?_,e⟩,λ⟨x,hx,e⟩=>⟨x,?_,e⟩⟩
    · obtain⟨x1,x2⟩:=qc7.mp hx;rcases qa2.mp (of_decide_eq_true x2)with z|z
      · rw[z];exact qa9
      · exact qb1 _ (qc7.mpr ⟨x1,decide_eq_true z⟩)
    · rcases qa2.mp hx with z|z
      · rw[z];exact qc7.mpr ⟨hk,decide_eq_true qa9⟩
      · obtain⟨x1,x2⟩:=qc7.mp z;exact qc7.mpr ⟨x1,decide_eq_true (qb1 _ (of_decide_eq_true x2))⟩
open P23 (mkS toldS J9m)
open P70 (rowL sizeN atN rawN nmN nmS nms Z1x Z5T J5k Z7Y J7O nms_nd nms_len)
inductive J1h(K:X0)(vs:List V)(H:Hp)(Q:VK):Prop
 |mk(a:V0)(ns:List Int)(k:Nat)(a1:vs=[.ref a,.int k])(a2:SqL K H a (ns.map V.int))(a3:∀c,Q (.int c) H):J1h K vs H Q
def Z6g(K:X0):Sp:=λ a H Q _=>J1h K a H Q
inductive Z8Z(vs:List V)(H:Hp)(Q:VK):Prop
 |mk(c k:Int)(a1:vs=[.int c,.int k])(a2:0<=k)(a3:k<=1000000000)(a4:∀r:Nat,Q (.int r) H):Z8Z vs H Q
def Z3S:Sp:=λ a H Q _=>Z8Z a H Q
inductive Z8O(K:X0)(vs:List V)(H:Hp)(Q:VK):Prop
 |mk(s:Int)(a1:vs=[.int s])(a2:∀l H',H l=none->Same H H'->H' l=some (.lst ((nms s).map V.str))->Q (.ref l) H'):Z8O K vs H Q
def Z8L(K:X0):Sp:=λ a H Q _=>Z8O K a H Q
theorem lets:∀j:Fin 26,(Str.ofString "abcdefghijklmnopqrstuvwxyz").cps.toList[j.1]?=some (97+j.1):=by decide+kernel
theorem J4L{j:Nat}(h:j<26):atI (Str.ofString "abcdefghijklmnopqrstuvwxyz").cps.toList (j:Int)=some (97+j):=Z1w (lets ⟨j,h⟩)
theorem Z7Z(a b:List Nat):mkS a++mkS b=mkS (a++b):=by
 show(⟨a.toArray++b.toArray⟩:V2)=⟨(a++b).toArray⟩;simp
open K10 (cds Z9B Z7p)
theorem J6S{x:V2}{l:List Nat}(h:cds x=l):x=mkS l:=by
 obtain⟨a⟩:=x;show(⟨a⟩:V2)=⟨l.toArray⟩;rw[<-h]
theorem J3R(cs:List Nat):Txt.join "" (cs.map λ c=>mkS [c])=mkS cs:=by
 refine J6S ?_;rw[Z9B,qd9];induction cs with
 |nil=>rfl
 |cons c cs a=>rw[qb8,qg6,a];rfl
theorem Z5N{l:List Nat}:(mkS l).length=l.length:=by show l.toArray.size=_;exact qb2
theorem Z3T(xs:List V)(n:Nat)(h:n<=xs.length):cutV xs none (some (n:Int))=xs.take n:=by
 unfold cutV;have a:HT.sIx xs.length xs.length (some (n:Int))=n:=by rw[HT.sIx_nat];omega
 have b:HT.sIx xs.length 0 none=0:=rfl;rw[a,b,List.drop_zero,Nat.sub_zero]
theorem J2a{K:X0}{H:Hp}{p:V0}{a:List Nat}{Q:VK}(h:H p=some (.lst (a.map λ c=>V.str (mkS [c]))))(b:a.length<=1000)(q:Q (.str (mkS a)) H):J7M K (V.str (Str.ofString "")) [V.ref p] H Q:=by
 refine⟨_,p,a.map λ c=>mkS [c],rfl,rfl,?_,?_,?_⟩
 ·rw[qd9];exact SqL.of h
 ·have:((a.map λ c=>mkS [c]).map (·.length)).sum=a.length:=by
   clear h b q;induction a with
   |nil=>rfl
   |cons c a e=>rw[qb8,qb8,List.sum_cons,e,qc3];show 1+_=_;omega
  rw[this];show _+_*0<=_;omega
 ·rw[J3R];exact q
theorem Z3q:∀{ns:List V2},(ns.map V.str).all Z4p=true
 |[]=>rfl
 |_::ns=>Z3q (ns:=ns)
theorem in_strs{x:V2}{ns:List V2}:inV (.str x) (ns.map V.str)=true↔x∈ns:=by
 unfold inV;rw[ql5];constructor
 ·rintro⟨y,a,e⟩;obtain⟨z,b,rfl⟩:=qb4.mp a;have:z=x:=by simpa[eqV]using e
  exact this▸b
 ·exact λ h=>⟨_,qb6 h,by simp[eqV]⟩
theorem mul0:Txt.mul "0" 0=mkS []:=by decide+kernel
theorem mul1:Txt.mul "0" 1=mkS [48]:=by decide+kernel
theorem J5d(l:List Nat):mkS l++mkS []=mkS l:=by rw[Z7Z,qd0]
theorem J9r:Str.ofString ""=mkS []:=by decide+kernel
theorem J9q:Str.ofString "1"=mkS [49]:=by decide+kernel
theorem J5H{n j:Nat}(h:j<n):ixN n (j:Int)=some j:=by
 unfold ixN;rw[if_pos qR,if_pos qR,qh5]
theorem Z5q:Txt.split "house of has can main let in if then else new self elder set not yes no number truth" " "=toldS:=by decide+kernel
noncomputable def NI(H:Hp)(S:Int)(tl fl:V0)(σ0:Option V->Option V->Option V->St)(i:Nat)(σ:St)(H':Hp):Prop:=∃a b c,SX fl H H'/\H' fl=some (.lst (((qd2 i).map (nmS S)).map V.str))/\σ=σ0 a b c
theorem J6h(T:Txt K mg Cl Ct Cw Ch Cp):Has P w K mg base 1 "_law_cell_at" ["_law_script","_law_k"] (Z6g K):=by
 refine Has.of T.O0O Z4N (λ _ _ _ _ _ _ g i=>el2 g i λ _ _=>rfl) (λ j H Q E h=>?_) (λ f m A c s H j Q E o h=>?_)
 ·obtain⟨a,b,k,rfl,_⟩:=h;rfl
 obtain⟨a,b,k,rfl,e,q⟩:=h;refine⟨_,(Z0a (Z0E (qM Z9W (pvF 1) (qL T.z_len (qI (pvF 0)))) (Z0d (Z0j (qD K (pvF 0) (pvF 1)))) Z0p) (Z0d (Z0j Z0c))),?_⟩;walk_at "r";refine⟨_,.inl e,ite2 (λ h=>?_) λ _=>q _⟩;rw[qa0]at h;have n:k<b.length:=by omega
 exact⟨_,e,_,Z1w (show(b.map V.int)[k]?=some (.int b[k])by rw[qa4,qa8 n];rfl),q _⟩
theorem J2T(T:Txt K mg Cl Ct Cw Ch Cp):Has P w K mg base 1 "_law_mixed" ["_law_cell","_law_k"] Z3S:=by
 refine Has.of T.O1b Z5P (λ _ _ _ _ _ _ b e=>el2 b e λ _ _=>rfl) (λ g H Q E h=>?_) (λ f i A a s H g Q E m h=>?_)
 ·obtain⟨c,k,rfl,_⟩:=h;rfl
 obtain⟨c,k,rfl,o,p,q⟩:=h;refine⟨_,(Z0d (Z0j (Z0i Z0x (Z0i Z0s (Z0i Z3m (Z0i Z0R (Z0i Z0R (Z0i Z0s (Z0i Z3m (pvF 0) Z0c) Z0c) (Z0i Z3m (Z0i Z3m Z0c (pvF 1)) (pvF 1))) (Z0i Z3m Z0c (pvF 1))) Z0c) Z0c) Z0c))),?_⟩;walk_at "r";have j:=qe7 ((c*48271%2147483647+7919*k*k+104729*k)*69621) (show(2147483629:Int)≠0 by decide);refine⟨.inr ⟨qR,qR⟩,?_⟩;generalize(c*48271%2147483647+7919*k*k+104729*k)*69621%2147483629=r at*;obtain⟨n,rfl⟩:=qh1 j;exact q (n/7)
theorem J4n(T:Txt K mg Cl Ct Cw Ch Cp):Has P w K mg base 1 "_law_names" ["_law_shift"] (Z8L K):=by
  refine Has.of T.O1c O0g (λ _ _ _ _ _ _ us M=>el1 us M λ _=>rfl) (λ vs H Q E h=>?_) (λ f j0 A e0 s H vs Q E hr h=>?_)
  · obtain⟨S,rfl,_⟩:=h;rfl
  obtain⟨S,rfl,q⟩:=h;refine⟨_,(Z0a (qG 1 O0g.nd (Z2f qn3 PySem.F.slot_str_split PySem.F.type_str_split J4p Z0f (qI Z0f))) (Z0a (Z1W (i:=2) O0g.nd rfl (Or.inr rfl) Z0f) (Z0a (qG 3 O0g.nd (Z0i Z0R Z0c (Z0i Z0s (Z0i Z0x (pvF 0) Z0c) Z0c))) (Z0a (qG 4 O0g.nd (qD K (Z0t (Z0v (Z0i Z0s (Z0i Z0x (pvF 0) Z0c) (pvF 3)) (qK Z0c (Z0i Z3E (pvF 3) Z0c) Z0c))) (Z0i Z0s (pvF 0) Z0c))) (Z0a (qG 5 O0g.nd (Z0t Z0W)) (Z0a (Z0T PassesOwn.never rfl (Z1K rfl T.O0z (qI Z0c)) (qH 6 O0g.nd) (Z0a (Z1D rfl O0g.nd (i:=7) rfl rfl (BlockOk.of (N:=["_law_j","_law_letters","_law_shift"]) (nl:=[none,some 2,some 0]) (cl:=[("_law_shift",s.heap.objs.size+1),("_law_letters",s.heap.objs.size+2)]) rfl qP qP rfl (sub2 rfl rfl) (nm:=["_law_shift","_law_letters"]) rfl qP rfl (λ i hi j hj=>by
            match i,hi with
            | 0,_=>cases hj
             |1,_=>cases hj;exact⟨_,rfl,rfl,rfl,.inl rfl⟩
             |2,_=>cases hj;exact⟨_,rfl,rfl,rfl,.inl rfl⟩
            )) (Z1K rfl T.O0z (qI Z0c)) (λ C fp s H=>(qH 0 (show(["_law_j","_law_letters","_law_shift"]:List V2).Nodup by decide+kernel))) (λ C fp s H=>(Z8A Z8Q (pvF 1) (Z0i Z0s (Z0i Z0R (Z0i Z0x (pvF 2) Z0c) (Z0i Z3m Z0c (pvF 0))) Z0c) (λ _ _=>rfl)))) (Z0a (Z0E (qM Z2g (Z0i Z0s (pvF 0) Z0c) Z0c) (Z0d (qG 8 O0g.nd (Z0i Z5t (Z2f qn3 PySem.F.slot_str_join PySem.F.type_str_join J2n Z0f (qI (Z0L (r:=rSlL K) Z1B (pvF 7) Z2c (Z0G (Z0i Z0R Z0c (Z0i Z0s (pvF 6) Z0c)))))) (qD K (Z0t (qJ Z0f Z0f)) (Z0i Z0x (pvF 6) Z0c))))) (Z0a (Z3V (Z8A Z8Q (pvF 2) (Z0i Z0s (Z0i Z0R (Z0i Z0x (pvF 0) Z0c) (pvF 6)) Z0c) (λ _ _=>rfl)) (J7m (pvF 7) (pvF 4) J0Z)) (Z0d (qG 8 O0g.nd (Z2f qn3 PySem.F.slot_str_join PySem.F.type_str_join J2n Z0f (qI (Z0L (r:=rSlL K) Z1B (pvF 7) Z2c (Z0G (pvF 3))))))))) (Z0d (Z1a (Z2f qc9 qd7 qd8 Z0B (pvF 5) (qI (Z0i Z5t (pvF 8) (Z0i J0r Z0f (Z0o Z2z rfl T.z_int Z5r (qI (Z1z (r:=rIn K false) Z0C (pvF 8) (pvF 1) (by with_unfolding_all rfl))))))))))))) (Z0d (Z0j (pvF 5))))))))),?_⟩
  refine seq7 λ f0 O k0 R l0 U m0 X n0 Y o0 Z=>?_;walk_at "r";refine⟨rfl,_,_,rfl,rfl,qP,qP,by rw[Z5q];decide+kernel,?_⟩;rw[Z5q];intro a h1;have s1:=Z0n h1 (.lst (toldS.map V.str));have e1:upd H a (.lst (toldS.map V.str)) a=some (.lst (toldS.map V.str)):=Z0b;generalize upd H a (.lst (toldS.map V.str))=H1 at*;subst Z;walk_at "r";subst Y;walk_at "r";subst X;walk_at "r";obtain⟨sz,p⟩:∃z:Nat,z=sizeN S:=⟨_,rfl⟩;have p0:=Z5T (s:=S);have es:1+S/4%8=(sz:Int):=by rw[p];unfold P70.sizeN;omega
  rw[es];have q0:=J5k (s:=S);refine⟨qR,New.of λ p2 H2 h2 s2 e2=>⟨_,SqL.of e2,.int (atN S),?_,?_⟩⟩
  · have I:S%4=0\/S%4=1\/S%4=2\/S%4=3:=by omega
    have h0:=qe7 (S/32) (show(sz:Int)≠0 by omega);rcases I with e|e|e|e
    · rw[e];show some _=some _;unfold P70.atN;rw[if_pos e,<-p,Int.toNat_of_nonneg h0]
    · rw[e];show some _=some _;unfold P70.atN;rw[if_neg qR,if_neg qR];rfl
    · rw[e];show some _=some _;unfold P70.atN;rw[if_neg qR,if_pos e,<-p];refine congrArg (λ x=>some (V.int x)) ?_;omega
    · rw[e];show some _=some _;unfold P70.atN;rw[if_neg qR,if_neg qR];rfl
  subst U;walk_at "r";refine New.of λ fl H3 h3 s3 e3=>?_;subst R;walk_at "r";have S3:=s1.trans (s2.trans s3);have t3:H3 a=some (.lst (toldS.map V.str)):=(s2.trans s3) _ _ e1;have a0:a≠fl:=λ z=>by rw[z]at t3;rw[e3]at t3;cases t3
  refine Z3r (NI H3 S a fl λ u g v=>[some (V.int S),some (V.ref a),some (V.str (Str.ofString "abcdefghijklmnopqrstuvwxyz")),some (V.int ↑sz),some (V.int ↑(atN S)),some (V.ref fl),u,g,v]) ⟨none,none,none,λ _ _ _ h=>h,e3,rfl⟩ (λ i σ y hi h=>?_) (λ σ y h=>?_)
  · obtain⟨u,g,v,sx,ef,rfl⟩:=h;rw[qi3];refine seq3 λ g0 b0 r0 c0=>?_;walk_at "r";intro D hD;refine J0n none [some (.str (Str.ofString "abcdefghijklmnopqrstuvwxyz")),some (.int S)] (λ(j:Nat)=>V.str (mkS [97+((S/7+5*(j:Int))%26).toNat])) rfl (λ j hj l kk d0=>?_) (by rw[sizeLine_eq];omega) ?_
    · walk_at "r";obtain⟨m,G,J⟩:∃m:Nat,(S/7+5*(j:Int))%26=m/\m<26:=⟨((S/7+5*(j:Int))%26).toNat,qR,qR⟩;rw[G]at d0 ⊢;exact⟨qP,_,J4L J,d0⟩
    have s4:=Z0n hD (.lst ((qd2 8).map λ(j:Nat)=>V.str (mkS [97+((S/7+5*(j:Int))%26).toNat])));have e4:upd y D (.lst ((qd2 8).map λ(j:Nat)=>V.str (mkS [97+((S/7+5*(j:Int))%26).toNat]))) D=some (.lst ((rowL S).map λ c=>V.str (mkS [c]))):=by
      rw[Z0b];unfold P70.rowL;rw[qd9];rfl
    generalize upd y D (.lst ((qd2 8).map λ(j:Nat)=>V.str (mkS [97+((S/7+5*(j:Int))%26).toNat])))=H4 at*;have i0:D≠fl:=λ z=>by rw[z,ef]at hD;cases hD
    have fin:∀{H5:Hp}{g:Option V}(l:List Nat),SX fl y H5->H5 fl=some (.lst (((qd2 i).map (nmS S)).map V.str))->l=rawN S i->g0 {nx:=NI H3 S a fl (λ u g v=>[some (V.int S),some (V.ref a),some (V.str (Str.ofString "abcdefghijklmnopqrstuvwxyz")),some (V.int ↑sz),some (V.int ↑(atN S)),some (V.ref fl),u,g,v]) (i+1),rt:=Q,bk:=f0 {nx:=λ x y=>Q V.non y,rt:=Q},ct:=NI H3 S a fl (λ u g v=>[some (V.int S),some (V.ref a),some (V.str (Str.ofString "abcdefghijklmnopqrstuvwxyz")),some (V.int ↑sz),some (V.int ↑(atN S)),some (V.ref fl),u,g,v]) (i+1)} [some (V.int S),some (V.ref a),some (V.str (Str.ofString "abcdefghijklmnopqrstuvwxyz")),some (V.int ↑sz),some (V.int ↑(atN S)),some (V.ref fl),some (V.int ↑i),g,some (V.str (mkS l))] H5:=by
      intro H5 g l x5 f5 M;subst b0;walk_at "r";have t5:H5 a=some (.lst (toldS.map V.str)):=x5 _ _ a0 (sx _ _ a0 t3);have ll:l.length<=8:=by rw[M];exact Z7Y
      have add:∀n:List Nat,n.length<=1->mkS (l++n)=nmS S i->∃x,V.str (mkS n)=V.str x/\(mkS l).length+x.length<=16777216/\∃L,H5 fl=some (HO.lst L)/\L.length<16777216/\NI H3 S a fl (λ u g v=>[some (V.int S),some (V.ref a),some (V.str (Str.ofString "abcdefghijklmnopqrstuvwxyz")),some (V.int ↑sz),some (V.int ↑(atN S)),some (V.ref fl),u,g,v]) (i+1) [some (V.int S),some (V.ref a),some (V.str (Str.ofString "abcdefghijklmnopqrstuvwxyz")),some (V.int ↑sz),some (V.int ↑(atN S)),some (V.ref fl),some (V.int ↑i),g,some (V.str (mkS l))] (upd H5 fl (HO.lst (L++[V.str (mkS l++x)]))):=λ n hn en=>⟨_,rfl,by rw[Z5N,Z5N];omega,_,f5,by rw[qa0,qa0,qg8];omega,_,_,_,(SX.trans sx x5).trans (SX.put _),by rw[Z0b,Z7Z,en,List.range_succ,qc2,qc2];rfl,rfl⟩;refine⟨.inl ⟨rfl,_,SqL.of f5⟩,_,.inl (SqL.of t5),rfl,Z3q,.inr ?_⟩;by_cases G:mkS l∈toldS
      · rw[if_pos (in_strs.mpr G)];refine⟨_,_,rfl,rfl,qQ,qQ,qQ,?_⟩;rw[mul1];exact add [48] (qa1 _) (by unfold P70.nmS P70.nmN;rw[<-M,if_pos G])
      · rw[if_neg (λ z=>G (in_strs.mp z))];refine⟨_,_,rfl,rfl,qQ,qQ,qQ,?_⟩;rw[mul0];exact add [] (qa6 _) (by unfold P70.nmS P70.nmN;rw[<-M,if_neg G,qd0])
    subst c0;walk_at "r";refine ite2 (λ z=>?_) (λ z=>?_)
    · have z3:S%4=3:=by omega
      refine⟨rfl,_,SqL.of e4,New.of λ p5 H5 h5 s5 e5=>?_⟩;rw[show 1+(i:Int)%6=((1+i%6:Nat):Int)by omega,Z3T _ _ (by rw[qa0,Z1x];omega),<-qf7]at e5;refine J2a e5 (by rw[qb3,Z1x];omega) (New.of λ p6 H6 h6 s6 e6=>?_);have x6:SX fl y H6:=λ b o hb e=>(s5.trans s6) _ _ (s4 _ _ e);have f6:=(s4.trans (s5.trans s6)) _ _ ef;by_cases z6:i/6=0
      · refine⟨_,SqL.of e6,.str (Str.ofString ""),by rw[show(i:Int)/6=0 by omega];rfl,_,rfl,_,rfl,?_,?_⟩
        · rw[Z5N,qb3,Z1x];show _+0<=_;omega
        rw[J9r,J5d];exact fin _ x6 f6 (by unfold P70.rawN;rw[if_pos z3,if_pos z6,qd0])
      · refine⟨_,SqL.of e6,.str (Str.ofString "1"),by rw[show(i:Int)/6=1 by omega];rfl,_,rfl,_,rfl,?_,?_⟩
        · rw[Z5N,qb3,Z1x];show _+1<=_;omega
        rw[J9q,Z7Z];exact fin _ x6 f6 (by unfold P70.rawN;rw[if_pos z3,if_neg z6])
    · have z3:S%4≠3:=by omega
      obtain⟨m,G,J⟩:∃m:Nat,(S/11+(i:Int))%26=m/\m<26:=⟨((S/11+(i:Int))%26).toNat,qR,qR⟩;rw[G];refine⟨qP,_,J4L J,_,e4,_,J5H (by rw[qa0,Z1x];omega),rfl,?_⟩;have e5:upd H4 D (HO.lst (((rowL S).map λ c=>V.str (mkS [c])).set (atN S) (V.str {cps:=#[97+m]}))) D=some (.lst (((rowL S).set (atN S) (97+m)).map λ c=>V.str (mkS [c]))):=by rw[Z0b,List.map_set];rfl
      have x5:SX fl y (upd H4 D (HO.lst (((rowL S).map λ c=>V.str (mkS [c])).set (atN S) (V.str {cps:=#[97+m]})))):=λ b o hb e=>by rw[Z0e (Z0g e hD)];exact s4 _ _ e
      have f5:upd H4 D (HO.lst (((rowL S).map λ c=>V.str (mkS [c])).set (atN S) (V.str {cps:=#[97+m]}))) fl=_:=(Z0e i0.symm).trans (s4 _ _ ef);generalize upd H4 D (HO.lst (((rowL S).map λ c=>V.str (mkS [c])).set (atN S) (V.str {cps:=#[97+m]})))=H5 at*;refine⟨_,SqL.of e5,New.of λ p6 H6 h6 s6 e6=>?_⟩;rw[Z3T _ _ (by rw[qa0,qj3,Z1x];omega),<-qf7]at e6;refine J2a e6 (by rw[qb3,qj3,Z1x];omega) (fin _ (λ b o hb e=>s6 _ _ (x5 _ _ hb e)) (s6 _ _ f5) ?_);unfold P70.rawN;rw[if_neg z3,G,p];rfl
  · obtain⟨u,g,v,sx,ef,rfl⟩:=h;subst O;walk_at "r";refine q fl y ?_ (λ b o e=>sx _ _ ?_ (S3 _ _ e)) ef
    · cases e:H fl with
      |none=>rfl
      |some o=>rw[(s1.trans s2) _ _ e]at h3;cases h3
    · intro z;rw[z]at e;rw[(s1.trans s2) _ _ e]at h3;cases h3
open P70 (Ha hns Cn Fl Sc KOk HOk)
structure Ad where
 a:V0
 fa:V0
 ha:V0
def FdA(H:Hp)(v:V)(f:V2×V2):Prop:=∃t,v=.ref t/\H t=some (.tup [.str f.1,.str f.2])
def HdA(H:Hp)(v:V)(h:List V2×V2):Prop:=∃t a,v=.ref t/\H t=some (.tup [.ref a,.str h.2])/\H a=some (.lst (h.1.map V.str))
noncomputable def hkv(p:Ad)(h:Ha):List (Key×V):=[(.inr "elder",oS h.elder),(.inr "fields",.ref p.fa),(.inr "heads",.ref p.ha)]
structure HaA(H:Hp)(p:Ad)(h:Ha):Prop where
 d:H p.a=some (.dK (hkv p h))
 f:∃fs,H p.fa=some (.lst fs)/\A2 (FdA H) fs h.fields
 h:∃hk,H p.ha=some (.dK hk)/\A2 (λ kv (w:V2×List V2×V2)=>kv.1=Sum.inr w.1/\HdA H kv.2 w.2) hk h.heads
noncomputable def kvs7:List Ad->List Ha->List (Key×V)
 |p::ps,h::a=>(.inr h.name,.ref p.a)::kvs7 ps a
 |_,_=>[]
structure HA(H:Hp)(hd:V0)(ps:List Ad)(hs:List Ha):Prop where
 d:Rd H hd (.dK (kvs7 ps hs))
 a:A2 (HaA H) ps hs
theorem HaA.same{H H':Hp}{p:Ad}{h:Ha}(x:HaA H p h)(s:Same H H'):HaA H' p h:=
 ⟨s _ _ x.d,let⟨fs,a,b⟩:=x.f;⟨fs,s _ _ a,b.mono λ _ _ ⟨t,e,r⟩=>⟨t,e,s _ _ r⟩⟩,let⟨c,a,b⟩:=x.h;⟨c,s _ _ a,b.mono λ _ _ ⟨e,t,g,i,j,m⟩=>⟨e,t,g,i,s _ _ j,s _ _ m⟩⟩⟩
theorem HA.same{H H':Hp}{hd:V0}{ps:List Ad}{hs:List Ha}(x:HA H hd ps hs)(s:Same H H'):HA H' hd ps hs:=
 ⟨x.d.elim (λ e=>.inl (s _ _ e)) λ⟨o,e⟩=>.inr ⟨o,s _ _ e⟩,x.a.mono λ _ _ y=>y.same s⟩
theorem Z1v:∀{ps:List Ad}{a:List Ha}{R:Ad->Ha->Prop},A2 R ps a->(kvs7 ps a).length=a.length
 |_,_,_,.nil=>rfl
 |_,_,_,.cons _ h=>congrArg (·+1) (Z1v h)
theorem J1g:∀{ps:List Ad}{g:List Ha}{R:Ad->Ha->Prop}{x:V2},A2 R ps g->x∈hns g->∃p h,h∈g/\h.name=x/\R p h/\p∈ps/\valV (kvs7 ps g) (.inr x)=some (.ref p.a)
 |_,_,_,x,.nil,i=>by cases i
 |p::ps,h::g,R,x,.cons r t,i=>by
  by_cases e:h.name=x
  ·exact⟨p,h,qa9,e,r,qa9,Z0H (by rw[e])⟩
  ·rcases qa2.mp i with z|z
   ·exact absurd z.symm e
   obtain⟨j,m,a,b,c,d,f⟩:=J1g t z;exact⟨j,m,qb1 _ a,b,c,qb1 _ d,(Z0z (λ z=>e (Sum.inr.inj z))).trans f⟩
theorem Z8i:∀{ps:List Ad}{hs:List Ha}{R:Ad->Ha->Prop}{x:V2},A2 R ps hs->x∉hns hs->valV (kvs7 ps hs) (.inr x)=none
 |_,_,_,x,.nil,a=>rfl
 |p::ps,h::hs,R,x,.cons r t,a=>by
  have a:x∉h.name::hns hs:=a;rw[qa2,not_or]at a;exact(Z0z (λ z=>a.1 (Sum.inr.inj z).symm)).trans (Z8i t a.2)
theorem HA.get{H:Hp}{hd:V0}{ps:List Ad}{hs:List Ha}(x:HA H hd ps hs){n:V2}(g:n∈hns hs):∃p h,h∈hs/\h.name=n/\HaA H p h/\p∈ps/\DGet H hd (.str n) (some (.ref p.a)):=by
 obtain⟨p,h,a,b,c,d,e⟩:=J1g x.a g;exact⟨p,h,a,b,c,d,.inl ⟨_,.inr n,x.d,rfl,e.symm⟩⟩
theorem HA.isIn{H:Hp}{hd:V0}{ps:List Ad}{hs:List Ha}(x:HA H hd ps hs)(n:V2):∃o,DGet H hd (.str n) o/\o.isSome=decide (n∈hns hs):=by
 by_cases a:n∈hns hs
 ·obtain⟨p,h,_,_,_,_,e⟩:=x.get a;exact⟨_,e,(decide_eq_true a).symm⟩
 ·exact⟨none,.inl ⟨_,.inr n,x.d,rfl,(Z8i x.a a).symm⟩,(decide_eq_false a).symm⟩
theorem HaA.elder{H:Hp}{p:Ad}{h:Ha}(x:HaA H p h):DGet H p.a (.str "elder") (some (oS h.elder)):=.inl ⟨_,.inr "elder",.inl x.d,rfl,rfl⟩
theorem HaA.fields{H:Hp}{p:Ad}{h:Ha}(x:HaA H p h):DGet H p.a (.str "fields") (some (.ref p.fa)):=.inl ⟨_,.inr "fields",.inl x.d,rfl,rfl⟩
theorem HaA.heads{H:Hp}{p:Ad}{h:Ha}(x:HaA H p h):DGet H p.a (.str "heads") (some (.ref p.ha)):=.inl ⟨_,.inr "heads",.inl x.d,rfl,rfl⟩
inductive Z5F(K:X0)(vs:List V)(H:Hp)(Q:VK):Prop
 |mk(hd:V0)(x:V2)(ps:List Ad)(hs:List Ha)(es:List V2)(a1:vs=[.ref hd,.str x])(a2:HA H hd ps hs)(a3:(hns hs).Nodup)(a4:Cn hs x es)(a5:es.length<=100)(a6:∀l H',H l=none->Same H H'->H' l=some (.lst (es.map V.str))->Q (.ref l) H'):Z5F K vs H Q
def Z2x(K:X0):Sp:=λ a H Q _=>Z5F K a H Q
noncomputable def EL(H:Hp)(hd l:V0)(x:V2)(es:List V2)(m:Nat)(σ:St)(H':Hp):Prop:=∃i y,m=es.length-i/\i<=es.length/\Same H H'/\H' l=some (.lst ((es.take i).map V.str))/\(x::es)[i]?=some y/\σ=[some (.ref hd),some (.str y),some (.ref l)]
noncomputable def LFI(H H4:Hp)(hs:List Ha)(hd:V0)(x:V2)(ls:List V2)(fs:List (V2×V2))(i:Nat)(σ:St)(H':Hp):Prop:=∃g a b c e,Same H4 H'/\H' a=some (.lst b)/\H a=none/\A2 (FdA H') b c/\fs=c++e/\Fl hs (ls.drop i) e/\σ=[some (.ref hd),some (.str x),some (.ref a),g]
theorem Z3l{H H':Hp}{a:V0}(s:Same H H')(h:H' a=none):H a=none:=by
 cases e:H a with
 |none=>rfl
 |some o=>rw[s _ _ e]at h;cases h
theorem FdA.one{H:Hp}{v:V}{f g:V2×V2}(a:FdA H v f)(b:FdA H v g):f=g:=by
 obtain⟨t,rfl,e⟩:=a;obtain⟨m,i,c⟩:=b;cases i;rw[e]at c;have:=HO.tup.inj (qc5 c);have h:=List.cons.inj this;have j:=List.cons.inj h.2;exact Prod.ext (V.str.inj h.1) (V.str.inj j.1)
open Classical in
noncomputable def pHs(H:Hp)(ns:List V2)(v:V):Bool:=decide (∃f,FdA H v f/\f.2∈ns)
open Classical in
theorem J4U{H:Hp}{ns:List V2}{v:V}{f:V2×V2}(h:FdA H v f):pHs H ns v=decide (f.2∈ns):=by
 unfold pHs;by_cases z:f.2∈ns
 ·rw[decide_eq_true z];exact decide_eq_true ⟨f,h,z⟩
 ·rw[decide_eq_false z];exact decide_eq_false λ⟨g,a,b⟩=>z (by rw[h.one a];exact b)
theorem Z9w{H:Hp}{ns:List V2}:∀{b:List V}{fs:List (V2×V2)},A2 (FdA H) b fs->(b.filter (pHs H ns)).isEmpty=fs.all λ f=>decide (f.2∉ns)
 |_,_,.nil=>rfl
 |u::b,f::fs,.cons a r=>by
  rw[qe6,J4U a,qj4,<-Z9w r];by_cases z:f.2∈ns
  ·rw[decide_eq_true z,decide_eq_false (λ q=>q z)];rfl
  ·rw[decide_eq_false z,decide_eq_true z];simp
theorem Z4S{H:Hp}{w:V2}:∀{b:List (Key×V)}{hd:List (V2×List V2×V2)},A2 (λ c (w:V2×List V2×V2)=>c.1=Sum.inr w.1/\HdA H c.2 w.2) b hd->valV b (.inr w)=none\/∃v q,valV b (.inr w)=some v/\q∈hd/\q.1=w/\HdA H v q.2
 |_,_,.nil=>.inl rfl
 |c::b,q::hd,.cons a r=>by
  by_cases z:q.1=w
  ·exact .inr ⟨c.2,q,Z0H (by rw[a.1,z]),qa9,z,a.2⟩
  ·have e:valV (c::b) (.inr w)=valV b (.inr w):=Z0z (by rw[a.1];exact λ y=>z (Sum.inr.inj y));rw[e];rcases Z4S (w:=w) r with h|⟨v,g,i,j,m⟩
   ·exact .inl h
   ·exact .inr ⟨v,g,i,qb1 _ j,m⟩
inductive Z9o(vs:List V)(H:Hp)(Q:VK):Prop
 |mk(hd:V0)(k x:V2)(ps:List Ad)(hs:List Ha)(ch:V2->List V2)(a1:vs=[.ref hd,.str k,.str x])(a2:HA H hd ps hs)(a3:(hns hs).Nodup)(a4:(∀y∈hns hs,Cn hs y (ch y)/\(ch y).length<=100))(a5:∀H',Same H H'->Q (.bl (decide (k=x\/k∈hns hs/\x∈ch k))) H'):Z9o vs H Q
def Z2T:Sp:=λ a H Q _=>Z9o a H Q
inductive Z5w(vs:List V)(H:Hp)(Q:VK):Prop
 |mk(hd:V0)(x:V2)(ps:List Ad)(hs:List Ha)(es:List V2)(fs:List (V2×V2))(a1:vs=[.ref hd,.str x])(a2:HA H hd ps hs)(a3:(hns hs).Nodup)(a4:Cn hs x es)(a5:es.length<=100)(a6:Fl hs (x::es).reverse fs)(a7:fs.length<=100)(a8:∀l us H',H l=none->Same H H'->H' l=some (.lst us)->A2 (FdA H') us fs->Q (.ref l) H'):Z5w vs H Q
def Z1V:Sp:=λ a H Q _=>Z5w a H Q
inductive Z6M(vs:List V)(H:Hp)(Q:VK):Prop
 |mk(hd:V0)(x:V2)(ps:List Ad)(hs:List Ha)(es:List V2)(fs:List (V2×V2))(a1:vs=[.ref hd,.str x])(a2:HA H hd ps hs)(a3:(hns hs).Nodup)(a4:Cn hs x es)(a5:es.length<=100)(a6:Fl hs (x::es).reverse fs)(a7:fs.length<=100)(a8:∀H',Same H H'->Q (.bl (fs.all λ f=>decide (f.2∉hns hs))) H'):Z6M vs H Q
def Z3Y:Sp:=λ a H Q _=>Z6M a H Q
def J7K(H:Hp)(hs:List Ha)(w:V2)(v:V):Prop:=v=.non\/∃h∈hs,∃q∈h.heads,q.1=w/\HdA H v q.2
inductive Z8X(vs:List V)(H:Hp)(Q:VK):Prop
 |mk(hd:V0)(x w:V2)(ps:List Ad)(hs:List Ha)(es:List V2)(B:Hp)(a1:vs=[.ref hd,.str x,.str w])(a2:HA B hd ps hs)(a3:Same B H)(a4:(hns hs).Nodup)(a5:Cn hs x es)(a6:es.length<=100)(a7:∀v H',Same H H'->J7K B hs w v->Q v H'):Z8X vs H Q
def Z4c:Sp:=λ a H Q _=>Z8X a H Q
theorem Z7o{H H':Hp}{a:V0}{y:V}{o:Option V}(g:DGet H a y o)(s:Same H H'):DGet H' a y o:=by
 have rd:∀{u:HO},Rd H a u->Rd H' a u:=λ r=>r.elim (λ e=>.inl (s _ _ e)) λ⟨o,e⟩=>.inr ⟨o,s _ _ e⟩;rcases g with⟨c,k,r,h,i⟩|⟨c,k,b,r,h,i,j⟩
 ·exact .inl ⟨c,k,rd r,h,i⟩
 ·exact .inr ⟨c,k,b,rd r,h,s _ _ i,j⟩
theorem HA.elder{H:Hp}{hd:V0}{ps:List Ad}{hs:List Ha}(x:HA H hd ps hs)(i:(hns hs).Nodup){h:Ha}(g:h∈hs):∃p,p∈ps/\HaA H p h/\DGet H hd (.str h.name) (some (.ref p.a)):=by
 obtain⟨p,j,a,b,c,d,e⟩:=x.get (qb6 (f:=Ha.name) g);cases P70.one_of i a g b;exact⟨p,d,c,e⟩
theorem Z9X(T:Txt K mg Cl Ct Cw Ch Cp):Has P w K mg base 1 "_law_elders" ["_law_halls_here","_law_house"] (Z2x K):=by
 refine Has.of T.O0V O0u (λ _ _ _ _ _ _ M N=>el2 M N λ _ _=>rfl) (λ O H Q E h=>?_) (λ f R A v s H O Q E u h=>?_)
 ·obtain⟨hd,x,ps,S,j,rfl,_⟩:=h;rfl
 obtain⟨hd,x,ps,S,j,rfl,ha,U,Y,G,q⟩:=h;refine⟨_,(Z0a (qG 2 O0u.nd (Z0t Z0W)) (Z0a (Z4C PassesOwn.never (qM Z1A (Z0l (Z0r u) (Z0l (Z0r u) (pvF 0) (pvF 1) (λ _ _=>rfl)) Z0f (λ _ _=>rfl)) Z0V) (Z0a (qG 1 O0u.nd (Z0l (Z0r u) (Z0l (Z0r u) (pvF 0) (pvF 1) (λ _ _=>rfl)) Z0f (λ _ _=>rfl))) (Z0d (Z1a (Z2f qc9 qd7 qd8 Z0B (pvF 2) (qI (pvF 1))))))) (Z0d (Z0j (pvF 2))))),?_⟩;refine seq3 λ Z n a0 r=>?_;walk_at "r";refine New.of λ l H1 I s1 e1=>?_;subst r;walk_at "r";refine⟨EL H hd l x j,⟨j.length,0,x,rfl,qa6 _,s1,e1,rfl,rfl⟩,λ m σ H' hI=>?_⟩;obtain⟨i,y,rfl,hi,C,c,hy,rfl⟩:=hI;obtain⟨X,hX,eX,ex⟩:=Cn.at Y i y hy;walk_at "r";subst eX;obtain⟨p,_,J,g⟩:=(ha.same C).elder U hX;refine⟨_,g,_,rfl,_,J.elder,?_⟩;rw[ex];cases a:j[i]? with
 |none=>
  have:i=j.length:=by have:=qk2.mp a;omega
  subst this;refine ite2 (λ z=>absurd rfl z) (λ _=>?_);subst n;walk_at "r";rw[qd6 (qa1 _)]at c;exact q l H' I C c
 |some e=>
  refine ite2 (λ _=>?_) (λ z=>by simp[oS]at z);have D:i<j.length:=(qa7.mp a).1;refine⟨_,λ _ _ h=>h,_,g,_,rfl,_,J.elder,.inl ⟨rfl,_,SqL.of c⟩,_,c,by rw[qa0,qb3];omega,j.length-(i+1),qR,i+1,e,rfl,D,λ b o L=>?_,?_,a,?_⟩
  ·rw[Z0e (Z0g L I)];exact C _ _ L
  ·rw[Z0b,ex,qf3,a,qc2];rfl
  ·rw[ex,a];rfl
theorem J3D(T:Txt K mg Cl Ct Cw Ch Cp)(a:Has P w K mg base 1 "_law_elders" ["_law_halls_here","_law_house"] (Z2x K)):Has P w K mg base 2 "_law_fits" ["_law_halls_here","_law_kind","_law_wanted"] Z2T:=by
 refine Has.of T.O1h Z6J (λ _ _ _ _ _ _ p u=>el3 p u λ _ _ _=>rfl) (λ v H Q E h=>?_) (λ f y A j s H v Q E m h=>?_)
 ·obtain⟨hd,k,x,ps,c,i,rfl,_⟩:=h;rfl
 obtain⟨hd,k,x,ps,c,i,rfl,ha,C,n,q⟩:=h;refine⟨_,(Z0d (Z0j (J8O (Z1z Z2g (pvF 1) (pvF 2) (Z3f _)) (Z8H (J2E (J4w (Z4s (Z0r m) (pvF 1) (pvF 0)) (by with_unfolding_all rfl)) (Z8H (Z1z (r:=rIn K false) Z0C (pvF 2) (qF a m (qJ (pvF 0) (pvF 1))) (by with_unfolding_all rfl)))))))),?_⟩;walk_at "r";refine ite2 (λ e=>?_) (λ e=>?_)
 ·have:=q H (Same.refl _);rw[decide_eq_true (.inl e)]at this;exact this
 ·obtain⟨o,g,D⟩:=ha.isIn k;refine⟨o,g,?_⟩;rw[D];by_cases b:k∈hns c
  ·rw[if_pos (decide_eq_true b)];refine⟨hd,k,ps,c,i k,rfl,ha,C,(n k b).1,(n k b).2,λ l G L I J=>⟨l,rfl,_,.inl (SqL.of J),rfl,Z3q,?_⟩⟩;have:=q G I;rw[decide_eq_decide.mpr (show(k=x\/k∈hns c/\x∈i k)↔x∈i k from⟨λ z=>z.elim (λ z=>absurd z e) λ z=>z.2,λ z=>.inr ⟨b,z⟩⟩)]at this;rw[Z3K];exact this
  ·rw[if_neg (λ z=>b (of_decide_eq_true z))];have:=q H (Same.refl _);rw[decide_eq_false (λ z=>z.elim e λ z=>b z.1)]at this;exact this
theorem J0k(T:Txt K mg Cl Ct Cw Ch Cp)(a:Has P w K mg base 1 "_law_elders" ["_law_halls_here","_law_house"] (Z2x K)):Has P w K mg base 2 "_law_fields" ["_law_halls_here","_law_house"] Z1V:=by
 refine Has.of T.O0W O0r (λ _ _ _ _ _ _ us hl=>el2 us hl λ _ _=>rfl) (λ vs H Q E h=>?_) (λ f b0 A N s H vs Q E O h=>?_)
 ·obtain⟨hd,x,ps,R,j,fs,rfl,_⟩:=h;rfl
 obtain⟨hd,x,ps,R,j,fs,rfl,ha,nd,hc,n,hf,o,q⟩:=h;refine⟨_,(Z0a (qG 2 O0r.nd (Z0t Z0W)) (Z0a (Z0T PassesOwn.never rfl (J4G rfl T.O0G Z4Q (qI (Z0i Z1l (Z0t (qI (pvF 1))) (qF a O (qJ (pvF 0) (pvF 1)))))) (qH 3 O0r.nd) (Z0d (qG 2 O0r.nd (Z0i Z1l (pvF 2) (Z0l (Z0r O) (Z0l (Z0r O) (pvF 0) (pvF 3) (λ _ _=>rfl)) Z0f (λ _ _=>rfl)))))) (Z0d (Z0j (pvF 2))))),?_⟩;refine seq3 λ c0 u d0 v=>?_;walk_at "r";refine New.of λ l H1 h1 s1 e1=>?_;subst v;walk_at "r";refine New.of λ l2 H2 h2 S e2=>⟨hd,x,ps,R,j,rfl,ha.same (s1.trans S),nd,hc,n,λ l3 H3 h3 U e3=>⟨l3,rfl,_,U _ _ e2,_,e3,by rw[qa0];show 1+_<=_;omega,New.of λ l4 H4 h4 s4 e4=>⟨_,SqL.of e4,?_⟩⟩⟩;have z:=s1.trans (S.trans (U.trans s4));rw[show[V.str x]++j.map V.str=(x::j).map V.str from rfl]at*;refine Z8E ((x::j).map V.str) (LFI H H4 R hd x (x::j).reverse fs) ⟨none,l,[],[],fs,Same.refl _,(S.trans (U.trans s4)) _ _ e1,h1,.nil,rfl,hf,rfl⟩ (λ i σ Y _ C=>?_) (λ i y σ Y hy C=>?_) (λ σ Y C=>?_)
 ·obtain⟨o3,Z,M,D,f2,m,_⟩:=C;exact SqL.of (m _ _ e4)
 ·obtain⟨o3,Z,M,D,f2,m,hx,G,c,rfl,b,rfl⟩:=C;rw[<-List.map_reverse,qa4]at hy;obtain⟨y,I,rfl⟩:=qc1.mp hy;rw[qn1 (qa7.mp I).1,(qa7.mp I).2]at b;obtain⟨X,f3,hX,rfl,rfl,J⟩:=b.inv;have L:=z.trans m;obtain⟨p,_,hA,g⟩:=(ha.same L).elder nd hX;obtain⟨zs,z1,z2⟩:=hA.f;have lx:M.length=D.length:=c.len;have lz:zs.length=X.fields.length:=z2.len;have a0:D.length+(X.fields.length+f3.length)<=100:=by
   rw[qa5,qa5]at o;exact o
  walk_at "r";refine⟨_,g,_,rfl,_,hA.fields,_,rfl,_,hx,_,z1,qR,New.of λ l5 H5 h5 s5 e5=>⟨_,l5,_,D++X.fields,f3,m.trans s5,e5,Z3l L h5,(c.app z2).mono (λ _ _ ⟨t,e,r⟩=>⟨t,e,s5 _ _ r⟩),by rw[qe8],J,rfl⟩⟩
 ·obtain⟨o3,Z,M,D,f2,m,hx,G,c,rfl,b,rfl⟩:=C;subst u;walk_at "r";rw[qn0 (by rw[qi7,qa0];exact qa1 _)]at b;cases b.nil_inv;rw[qd0]at q;exact q Z M Y G (z.trans m) hx c
theorem J2q(T:Txt K mg Cl Ct Cw Ch Cp)(a:Has P w K mg base 2 "_law_fields" ["_law_halls_here","_law_house"] Z1V):Has P w K mg base 3 "_law_is_plain" ["_law_halls_here","_law_house"] Z3Y:=by
  refine Has.of T.O0L Z4u (λ _ _ _ _ _ _ e U=>el2 e U λ _ _=>rfl) (λ X H Q E h=>?_) (λ f Y A m s H X Q E n h=>?_)
  · obtain⟨hd,x,ps,p,I,fs,rfl,_⟩:=h;rfl
  obtain⟨hd,x,ps,p,I,fs,rfl,ha,Z,hc,c,hf,u,q⟩:=h;refine⟨_,(Z0d (Z0j (Z1z (r:=rEqN K) (Z6x n.units) (Z2I rfl (BlockOk.of (N:=["_law_field","_law_halls_here"]) (nl:=[none,some 0]) (cl:=[("_law_halls_here",s.heap.objs.size+1)]) rfl qP qP rfl (sub1 rfl) (nm:=["_law_halls_here"]) rfl qP rfl (λ i v j J=>by
            match i,v with
            | 0,_=>cases J
             |1,_=>cases J;exact⟨_,rfl,rfl,rfl,.inl rfl⟩
            )) (Z0P (qF a n (qJ (pvF 0) (pvF 1)))) (λ C L s H=>(qH 0 (show(["_law_field","_law_halls_here"]:List V2).Nodup by decide+kernel))) (λ C L s H=>(Z5v (Z4s (Z0r n) (qA K 0) (pvF 1)) (by with_unfolding_all rfl))) (λ C L s H=>(pvF 0))) (Z0t Z0W) (Z3f _)))),?_⟩
  walk_at "r";refine⟨hd,x,ps,p,I,fs,rfl,ha,Z,hc,c,hf,u,λ l e H1 h1 M O z=>⟨l,rfl,⟨_,SqL.of O⟩,λ D hD=>?_⟩⟩;refine Z3u (ys:=e) none [some (.ref hd)] (pHs H1 (hns p)) rfl hD (by rw[z.len,sizeLine_eq];omega) (λ G b=>SqL.of (b _ _ O)) (λ y hy G K' b kk=>?_) (λ G b e2=>?_)
  · obtain⟨i,v⟩:=qe5 hy;obtain⟨f,_,t,rfl,R⟩:=z.at v;walk_at "r";obtain⟨o,g,ho⟩:=(ha.same (M.trans b)).isIn f.2;refine⟨_,SqT.of (b _ _ R),_,ix1,_,g,?_⟩;have:=kk G (Same.refl _);rw[J4U ⟨t,rfl,R⟩,<-ho]at this;exact this
  · refine New.of λ l3 H3 h3 S e3=>⟨_,rfl,_,SqL.of (S _ _ e2),SqL.of e3,?_⟩;rw[Z9w z];exact q H3 (M.trans (b.trans S))
theorem J3i(T:Txt K mg Cl Ct Cw Ch Cp)(a:Has P w K mg base 1 "_law_elders" ["_law_halls_here","_law_house"] (Z2x K)):Has P w K mg base 2 "_law_head" ["_law_halls_here","_law_house","_law_word"] Z4c:=by
 refine Has.of T.O1i O0H (λ _ _ _ _ _ _ us hl=>el3 us hl λ _ _ _=>rfl) (λ vs H Q E h=>?_) (λ f a0 A L s H vs Q E b h=>?_)
 ·obtain⟨hd,x,w,ps,O,n,B',rfl,_⟩:=h;rfl
 obtain⟨hd,x,r,ps,O,n,B',rfl,u,R,S,U,C,q⟩:=h;have ha:=u.same R;refine⟨_,(Z0a (Z0T PassesOwn.never rfl (Z0P (Z0i Z1l (Z0t (qI (pvF 1))) (qF a b (qJ (pvF 0) (pvF 1))))) (qH 3 O0H.nd) (Z0d (Z0E (Z5v (Z4s (Z0r b) (pvF 2) (Z0l (Z0r b) (Z0l (Z0r b) (pvF 0) (pvF 3) (λ _ _=>rfl)) Z0f (λ _ _=>rfl))) (by with_unfolding_all rfl)) (Z0d (Z0j (Z0l (Z0r b) (Z0l (Z0r b) (Z0l (Z0r b) (pvF 0) (pvF 3) (λ _ _=>rfl)) Z0f (λ _ _=>rfl)) (pvF 2) (λ _ _=>rfl)))) Z0p))) (Z0d (Z0j Z0V))),?_⟩;refine seq2 λ b0 D=>?_;walk_at "r";refine New.of λ l2 H2 h2 Y e2=>⟨hd,x,ps,O,n,rfl,ha.same Y,S,U,C,λ l3 H3 h3 Z e3=>⟨l3,rfl,_,Z _ _ e2,_,e3,by rw[qa0];show 1+_<=_;omega,New.of λ l4 H4 h4 s4 e4=>⟨⟨_,SqL.of e4⟩,?_⟩⟩⟩;have c:=Y.trans (Z.trans s4);rw[show[V.str x]++n.map V.str=(x::n).map V.str from rfl]at*;refine Z1i ((x::n).map V.str) (λ _ J j=>j=H4/\∃o,J=[some (.ref hd),some (.str x),some (.str r),o]) ⟨rfl,none,rfl⟩ (λ i J j _ G=>?_) (λ i y J j hy G=>?_) (λ J j G=>?_)
 ·rw[G.1];exact SqL.of e4
 ·obtain⟨rfl,o,rfl⟩:=G;rw[qa4]at hy;obtain⟨y,M,rfl⟩:=qc1.mp hy;obtain⟨X,hX,rfl,_⟩:=U.at i y M;have m:=R.trans c;obtain⟨p,_,I,g0⟩:=u.elder S hX;have hA:=I.same m;have g:=Z7o g0 m;obtain⟨hk,k1,k2⟩:=I.h;have N:DGet j p.ha (.str r) (valV hk (.inr r)):=.inl ⟨hk,.inr r,.inl (m _ _ k1),rfl,rfl⟩;walk_at "r";refine⟨_,g,_,rfl,_,hA.heads,_,rfl,_,N,?_⟩;rcases Z4S (w:=r) k2 with e|⟨v,q',e,m1,m2,m3⟩
  ·rw[e];exact ite2 (λ z=>by cases z) λ _=>⟨_,rfl⟩
  ·rw[e]at N ⊢;refine ite2 (λ _=>?_) λ z=>absurd rfl z;exact⟨_,g,_,rfl,_,hA.heads,_,rfl,_,N,q v j c (.inr ⟨X,hX,q',m1,m2,m3⟩)⟩
 ·obtain⟨rfl,o,rfl⟩:=G;subst D;walk_at "r";exact q .non j c (.inl rfl)
open P70 (Ha hns Cn Fl Sc KOk HOk Ev HdOk)
def Dj(hd:V0)(ps:List Ad):Prop:=(hd::(ps.map Ad.a++ps.map Ad.ha)).Nodup
theorem J5T{m n:Type}{f:m->n}:∀{l:List m}{i j:Nat}{x y:m},(l.map f).Nodup->l[i]?=some x->l[j]?=some y->f x=f y->i=j
 |[],i,_,_,_,_,h,_,_=>by cases h
 |a::l,0,0,x,y,_,_,_,_=>rfl
 |a::l,0,j+1,x,y,b,c,g,e=>by
  cases c;exact absurd (by rw[e];exact qb6 (qb0 (i:=j) g)) (qc4.mp b).1
 |a::l,i+1,0,x,y,b,c,g,e=>by
  cases g;exact absurd (by rw[<-e];exact qb6 (qb0 (i:=i) c)) (qc4.mp b).1
 |a::l,i+1,j+1,x,y,b,c,g,e=>congrArg (·+1) (J5T (l:=l) (qc4.mp b).2 c g e)
theorem Z8Y:∀{ps:List Ad}{hs:List Ha}{i:Nat}{h:Ha}{hd:List (V2×List V2×V2)},hs[i]?=some h->kvs7 ps (hs.set i {h with heads:=hd})=kvs7 ps hs
 |[],hs,i,h,_,_=>by cases hs<;>cases i<;>rfl
 |p::ps,[],i,h,_,e=>by cases e
 |p::ps,a::hs,0,h,_,e=>by cases e;rfl
 |p::ps,a::hs,i+1,h,_,e=>by
  show(_,_)::kvs7 ps (hs.set i _)=(_,_)::kvs7 ps hs;rw[Z8Y (ps:=ps) (hs:=hs) (i:=i) e]
theorem J3g{R:Key×V->V2×List V2×V2->Prop}{w:V2}{v:V}{q:List V2×V2}(x:∀g y,R g y->g.1=Sum.inr y.1)(C:R (.inr w,v) (w,q)):∀{n:List (Key×V)}{hd:List (V2×List V2×V2)},A2 R n hd->∃hd',A2 R (putK n (.inr w) v) hd'/\hd'.length<=hd.length+1/\(w,q)∈hd'/\(∀y∈hd',y∈hd/\y.1≠w\/y=(w,q))/\∀y∈hd,y.1≠w->y∈hd':=by
 intro n hd h;unfold putK;split
 ·rename_i z;have go:∀{n:List (Key×V)}{hd:List (V2×List V2×V2)},A2 R n hd->(n.any λ g=>decide (g.1=.inr w))=true->∃hd',A2 R (n.map λ g=>if g.1=.inr w then(g.1,v)else g) hd'/\hd'.length=hd.length/\(w,q)∈hd'/\(∀y∈hd',y∈hd/\y.1≠w\/y=(w,q))/\∀y∈hd,y.1≠w->y∈hd':=by
   have A:∀{n:List (Key×V)}{hd:List (V2×List V2×V2)},A2 R n hd->∃hd',A2 R (n.map λ g=>if g.1=.inr w then(g.1,v)else g) hd'/\hd'.length=hd.length/\((n.any λ g=>decide (g.1=.inr w))=true->(w,q)∈hd')/\(∀y∈hd',y∈hd/\y.1≠w\/y=(w,q))/\∀y∈hd,y.1≠w->y∈hd':=by
    intro n hd h;induction h with
    |nil=>exact⟨[],.nil,rfl,(λ z=>by cases z),(λ y i=>by cases i),λ y i=>by cases i⟩
    |@cons g y n hd r t E=>
     obtain⟨hd',a,b,c,d,e⟩:=E;by_cases z:g.1=.inr w
     ·refine⟨(w,q)::hd',?_,congrArg (·+1) b,λ _=>qa9,λ o i=>?_,λ o i p=>?_⟩
      ·rw[qb8,if_pos z,z];exact .cons C a
      ·rcases qa2.mp i with m|m
       ·exact .inr m
       ·exact(d o m).imp_left λ u=>⟨qb1 _ u.1,u.2⟩
      ·rcases qa2.mp i with m|m
       ·have:=x g y r;rw[z]at this;rw[m]at p;exact absurd (Sum.inr.inj this).symm p
       ·exact qb1 _ (e o m p)
     ·refine⟨y::hd',?_,congrArg (·+1) b,λ D=>?_,λ o i=>?_,λ o i p=>?_⟩
      ·rw[qb8,if_neg z];exact .cons r a
      ·rw[qh7,decide_eq_false z,Bool.false_or]at D;exact qb1 _ (c D)
      ·rcases qa2.mp i with m|m
       ·rw[m];exact .inl ⟨qa9,λ u=>z (by rw[x g y r,u])⟩
       ·exact(d o m).imp_left λ u=>⟨qb1 _ u.1,u.2⟩
      ·rcases qa2.mp i with m|m
       ·rw[m];exact qa9
       ·exact qb1 _ (e o m p)
   intro n hd h z;obtain⟨hd',a,b,c,d,e⟩:=A h;exact⟨hd',a,b,c z,d,e⟩
  obtain⟨hd',a,b,c,d,e⟩:=go h z;exact⟨hd',a,qR,c,d,e⟩
 ·rename_i z;exact⟨hd++[(w,q)],h.app (.cons C .nil),by rw[qa5];exact qa1 _,qc6 _ qa9,λ y i=>(qb5.mp i).elim (λ u=>.inl ⟨u,λ G=>z (by obtain⟨j,H⟩:=qe5 u;obtain⟨g,hkv,r⟩:=h.to H;exact ql5.mpr ⟨g,qb0 hkv,decide_eq_true (by rw[x g y r,G])⟩)⟩) λ z=>.inr (qa3.mp z),λ y i _=>qe0 _ i⟩
theorem HA.index{H:Hp}{hd:V0}{ps:List Ad}{hs:List Ha}(x:HA H hd ps hs){i:Nat}{h:Ha}(a:hs[i]?=some h):∃p,ps[i]?=some p/\HaA H p h:=x.a.to a
theorem HA.putHead{H:Hp}{hd:V0}{ps:List Ad}{hs:List Ha}(x:HA H hd ps hs)(dj:Dj hd ps){i:Nat}{h:Ha}{p:Ad}{g:List (Key×V)}{w:V2}{v:V}{q:List V2×V2}(M:hs[i]?=some h)(N:ps[i]?=some p)(O:H p.ha=some (.dK g))(hv:HdA H v q):∃hd',HA (upd H p.ha (.dK (putK g (.inr w) v))) hd ps (hs.set i {h with heads:=hd'})/\hd'.length<=h.heads.length+1/\(w,q)∈hd'/\(∀y∈hd',y∈h.heads/\y.1≠w\/y=(w,q))/\∀y∈h.heads,y.1≠w->y∈hd':=by
 obtain⟨S,m,hA⟩:=x.index M;rw[N]at m;cases m;have nl:∀{b:V0}{A:List V},H b=some (.lst A)->upd H p.ha (.dK (putK g (.inr w) v)) b=some (.lst A):=λ{b A} e=>(Z0e (λ z=>by rw[z,O]at e;cases e)).trans e;have nt:∀{b:V0}{A:List V},H b=some (.tup A)->upd H p.ha (.dK (putK g (.inr w) v)) b=some (.tup A):=λ{b A} e=>(Z0e (λ z=>by rw[z,O]at e;cases e)).trans e;have fd:∀{v:V}{f:V2×V2},FdA H v f->FdA (upd H p.ha (.dK (putK g (.inr w) v))) v f:=λ⟨t,e,r⟩=>⟨t,e,(Z0e (λ z=>by rw[z,O]at r;cases r)).trans r⟩;have G:∀{u:V}{f:List V2×V2},HdA H u f->HdA (upd H p.ha (.dK (putK g (.inr w) v))) u f:=λ⟨t,pl,e,r1,r2⟩=>⟨t,pl,e,nt r1,nl r2⟩;obtain⟨T,U⟩:=qc4.mp dj;obtain⟨b0,X,Y⟩:=qe3.mp U;have pm:p∈ps:=qb0 N;have na:∀S∈ps,S.a≠p.ha:=λ S m=>Y _ (qb6 m) _ (qb6 pm);have nh:hd≠p.ha:=λ z=>T (qc6 _ (by rw[z];exact qb6 pm));obtain⟨c0,k1,k2⟩:=hA.h;rw[O]at k1;cases k1;obtain⟨hd',a,b,c,d,e⟩:=J3g (R:=λ I (y:V2×List V2×V2)=>I.1=Sum.inr y.1/\HdA H I.2 y.2) (w:=w) (v:=v) (q:=q) (λ _ _ r=>r.1) ⟨rfl,hv⟩ k2;have Z:∀{v':V}{f:V2×V2},FdA H v' f->FdA (upd H p.ha (.dK (putK g (.inr w) v))) v' f:=λ⟨t,e,r⟩=>⟨t,e,nt r⟩;refine⟨hd',⟨?_,?_⟩,b,c,d,e⟩
 ·rw[Z8Y M];exact x.d.elim (λ e=>.inl ((Z0e nh).trans e)) λ⟨o,e⟩=>.inr ⟨o,(Z0e nh).trans e⟩
 ·refine A2.of (by rw[qj3];exact x.a.len) λ j Q J=>?_;obtain⟨C,D,E⟩:=x.a.at J;have L:∀(hn:List (V2×List V2×V2))(n:List (Key×V)),upd H p.ha (.dK (putK g (.inr w) v)) Q.ha=some (.dK n)->A2 (λ I (y:V2×List V2×V2)=>I.1=Sum.inr y.1/\HdA (upd H p.ha (.dK (putK g (.inr w) v))) I.2 y.2) n hn->HaA (upd H p.ha (.dK (putK g (.inr w) v))) Q {C with heads:=hn}:=λ hn n e1 e2=>
   ⟨(Z0e (na Q (qb0 J))).trans E.d,let⟨fs,f1,f2⟩:=E.f;⟨fs,nl f1,f2.mono λ _ _ z=>Z z⟩,⟨n,e1,e2⟩⟩
  by_cases ij:i=j
  ·subst ij;rw[N]at J;cases J;rw[M]at D;cases D;exact⟨_,by rw[qh2 (qa7.mp M).1],L hd' _ Z0b (a.mono λ _ _ r=>⟨r.1,G r.2⟩)⟩
  ·refine⟨C,by rw[qm0 ij];exact D,?_⟩;obtain⟨a0,k3,k4⟩:=E.h;have nj:Q.ha≠p.ha:=λ z=>ij (J5T X N J z.symm);exact L C.heads a0 ((Z0e nj).trans k3) (k4.mono λ _ _ r=>⟨r.1,G r.2⟩)
theorem J0e{us:List V}(h:0<us.length)(z:Int):∃(j:Nat)(v:V),us[j]?=some v/\atI us (z%(us.length:Int))=some v:=by
 have b:=qe7 z (show(us.length:Int)≠0 by omega);have c:=qf6 z (show(0:Int)<(us.length:Int)by omega);obtain⟨m,e⟩:=qh1 b;rw[e]at c ⊢;have a:m<us.length:=by omega
 exact⟨m,us[m],qa8 a,Z1w (qa8 a)⟩
theorem pick{ks:List V2}(h:0<ks.length)(z:Int):∃k∈ks,atI (ks.map V.str) (z%((ks.map V.str).length:Int))=some (.str k):=by
 obtain⟨j,v,a,e⟩:=J0e (us:=ks.map V.str) (by rw[qa0];exact h) z;rw[qa4]at a;obtain⟨k,b,rfl⟩:=qc1.mp a;exact⟨k,qb0 b,e⟩
theorem J0B:∀{ps:List Ad}{e:List Ha}{R:Ad->Ha->Prop}{i:Nat}{h:Ha},A2 R ps e->(hns e).Nodup->e[i]?=some h->∃p,ps[i]?=some p/\R p h/\valV (kvs7 ps e) (.inr h.name)=some (.ref p.a)
 |_,_,_,i,h,.nil,_,g=>by cases g
 |p::ps,m::e,R,0,h,.cons r t,_,g=>by cases g;exact⟨p,rfl,r,Z0H rfl⟩
 |p::ps,m::e,R,i+1,h,.cons r t,j,g=>by
  have j:=qc4.mp j;obtain⟨q,a,b,c⟩:=J0B (i:=i) t j.2 g;exact⟨q,a,b,(Z0z (λ z=>j.1 (by rw[Sum.inr.inj z];exact qb6 (qb0 (i:=i) g)))).trans c⟩
theorem HA.ix{H:Hp}{hd:V0}{ps:List Ad}{hs:List Ha}(x:HA H hd ps hs)(e:(hns hs).Nodup){i:Nat}{h:Ha}(g:hs[i]?=some h):∃p,ps[i]?=some p/\HaA H p h/\DGet H hd (.str h.name) (some (.ref p.a)):=by
 obtain⟨p,a,b,c⟩:=J0B x.a e g;exact⟨p,a,b,.inl ⟨_,.inr h.name,x.d,rfl,c.symm⟩⟩
theorem Z8f{hs:List Ha}{x:V2}(h:x∈hns hs):∃(i:Nat)(X:Ha),hs[i]?=some X/\X.name=x:=by
 obtain⟨X,a,e⟩:=qb4.mp h;obtain⟨i,b⟩:=qe5 a;exact⟨i,X,b,e⟩
theorem HA.frz{H H2:Hp}{hd:V0}{ps:List Ad}{hs:List Ha}{o:Obj}(x:HA H hd ps hs)(C:Dj hd ps)(m:Fz hd o (kvs7 ps hs) H H2):HA H2 hd ps hs:=by
 obtain⟨g,_⟩:=qc4.mp C;have go:∀{b:V0}{u:HO},b≠hd->H b=some u->H2 b=some u:=λ n e=>(m.r _ n).trans e;have v:∀{b:V0}{u:HO},H b=some u->(∀c,u≠.dK c)->(∀o c,u≠.frz o (.dK c))->b≠hd:=λ{b u} e D E z=>by
  subst z;rcases x.d with q|⟨o,q⟩
  ·rw[q]at e;cases e;exact D _ rfl
  ·rw[q]at e;cases e;exact E _ _ rfl
 have y:∀{b:V0}{i:List V},H b=some (.lst i)->H2 b=some (.lst i):=λ e=>go (v e (λ _ z=>by cases z) λ _ _ z=>by cases z) e;have nt:∀{b:V0}{i:List V},H b=some (.tup i)->H2 b=some (.tup i):=λ e=>go (v e (λ _ z=>by cases z) λ _ _ z=>by cases z) e;refine⟨.inr ⟨o,m.f⟩,x.a.monoM λ p h A j=>⟨go (λ z=>g (qe0 _ (by rw[<-z];exact qb6 A))) j.d,?_,?_⟩⟩
 ·obtain⟨fs,a,b⟩:=j.f;exact⟨fs,y a,b.mono λ _ _ ⟨t,e,r⟩=>⟨t,e,nt r⟩⟩
 ·obtain⟨G,a,b⟩:=j.h;exact⟨G,go (λ z=>g (qc6 _ (by rw[<-z];exact qb6 A))) a,b.mono λ _ _ ⟨e,t,I,J,L,M⟩=>⟨e,t,I,J,nt L,y M⟩⟩
def SXs(ps:List Ad)(H H':Hp):Prop:=∀b o,b∉ps.map Ad.ha->H b=some o->H' b=some o
theorem SXs.refl{ps:List Ad}{H:Hp}:SXs ps H H:=λ _ _ _ h=>h
theorem SXs.of{ps:List Ad}{H H':Hp}(s:Same H H'):SXs ps H H':=λ _ _ _ h=>s _ _ h
theorem SXs.trans{ps:List Ad}{H c H2:Hp}(a:SXs ps H c)(b:SXs ps c H2):SXs ps H H2:=λ x o n h=>b x o n (a x o n h)
theorem SXs.put{ps:List Ad}{H:Hp}{p:Ad}(a:p∈ps)(o:HO):SXs ps H (upd H p.ha o):=λ b u n h=>by rw[Z0e (λ z=>n (by rw[z];exact qb6 a))];exact h
theorem HA.nin{H:Hp}{hd:V0}{ps:List Ad}{hs:List Ha}(x:HA H hd ps hs){b:V0}{o:HO}(e:H b=some o)(n:∀a,o≠.dK a):b∉ps.map Ad.ha:=λ z=>by
 obtain⟨p,c,rfl⟩:=qb4.mp z;obtain⟨i,g⟩:=qe5 c;obtain⟨h,_,j⟩:=x.a.at g;obtain⟨q,m,_⟩:=j.h;rw[m]at e;cases e;exact n _ rfl
theorem SXs.sql{K:X0}{hd:V0}{ps:List Ad}{hs:List Ha}{H H':Hp}{a:V0}{xs:List V}(s:SXs ps H H')(x:HA H hd ps hs)(h:SqL K H a xs):SqL K H' a xs:=by
 rcases h with h|h
 ·rcases h with e|⟨o,e⟩
  ·exact .inl (.inl (s _ _ (x.nin e λ _ z=>by cases z) e))
  ·exact .inl (.inr ⟨o,s _ _ (x.nin e λ _ z=>by cases z) e⟩)
 ·exact .inr h
inductive Z6Q(K:X0)(vs:List V)(H:Hp)(Q:VK):Prop
 |mk(hd nl cl:V0)(ps:List Ad)(hs:List Ha)(ch:V2->List V2)(ff:V2->List (V2×V2))(ns:List V2)(cs:List Int)(a1:vs=[.ref hd,.ref nl,.ref cl])(a2:HA H hd ps hs)(a3:Dj hd ps)(a4:HOk hs ch ff)(a5:(∀h∈hs,h.heads=[]))(a6:SqL K H nl (ns.map V.str))(a7:ns.length=12)(a8:SqL K H cl (cs.map V.int))(a9:cs.length=hs.length)(a10:∀hs' H',SXs ps H H'->HA H' hd ps hs'->HOk hs' ch ff->Ev hs hs'->(∀h∈hs',h.heads.length<=8)->Q .non H'):Z6Q K vs H Q
def Z7i(K:X0):Sp:=λ a H Q _=>Z6Q K a H Q
structure HI(H:Hp)(hd:V0)(ps:List Ad)(hs hs':List Ha)(left:Int)(H':Hp):Prop where
 s:SXs ps H H'
 a:HA H' hd ps hs'
 e:Ev hs hs'
 l:0<=left/\∀h∈hs',(h.heads.length:Int)+left<=8
 k:∀h∈hs',∀w∈h.heads,HdOk hs w
theorem Z0K:∀{ps:List Ad}{a:List Ha}{R:Ad->Ha->Prop},A2 R ps a->((kvs7 ps a).map λ b=>kV b.1)=(hns a).map V.str
 |_,_,_,.nil=>rfl
 |p::ps,h::a,_,.cons _ t=>by
  show V.str h.name::((kvs7 ps a).map λ b=>kV b.1)=V.str h.name::(hns a).map V.str;rw[Z0K t]
def kl7(hs:List Ha):List V2:=("number":V2)::("truth":V2)::("number":V2)::hns hs
theorem J2s{hs:List Ha}:∀k∈kl7 hs,KOk hs k:=λ k a=>by
 rcases qa2.mp a with z|z
 ·exact .inl (.inl z)
 rcases qa2.mp z with z|z
 ·exact .inl (.inr z)
 rcases qa2.mp z with z|z
 ·exact .inl (.inl z)
 ·exact .inr z
noncomputable def LHI(H:Hp)(hd:V0)(ps:List Ad)(hs:List Ha)(σ0:Int->List (Option V)->St)(n:Nat)(σ:St)(H':Hp):Prop:=∃a left b,HI H hd ps hs a left H'/\b.length=n/\σ=σ0 left b
theorem J2k(T:Txt K mg Cl Ct Cw Ch Cp)(G:Has P w K mg base 1 "_law_mixed" ["_law_cell","_law_k"] Z3S)(J:Has P w K mg base 2 "_law_head" ["_law_halls_here","_law_house","_law_word"] Z4c)(L:Has P w K mg base 2 "_law_fits" ["_law_halls_here","_law_kind","_law_wanted"] Z2T):Has P w K mg base 3 "_law_heads" ["_law_halls_here","_law_names_here","_law_cells"] (Z7i K):=by
  refine Has.of T.O1d O0d (λ _ _ _ _ _ _ us hl=>el3 us hl λ _ _ _=>rfl) (λ vs H Q E h=>?_) (λ f o1 A I0 s H vs Q E hr h=>?_)
  · obtain⟨hd,nl,cl,ps,hs,ch,ff,Z,cs,rfl,_⟩:=h;rfl
  obtain⟨hd,nl,cl,ps,hs,ch,ff,Z,cs,rfl,ha,dj,ok,he,hn,ln,hc,lc,q⟩:=h;refine⟨_,(Z0a (qG 3 O0d.nd (Z0i Z1l (Z0t (qK Z0f Z0f Z0f)) (Z0o (r:=Z5W) (Z1C rfl) rfl T.O0E Z3n (qI (pvF 0))))) (Z0a (qG 4 O0d.nd Z0c) (Z0d (Z0T PassesOwn.never rfl (J5L rfl T.O1g Z6S (qI (Z0o (r:=Z5W) (Z1C rfl) rfl T.O0E Z3n (qI (pvF 0))))) (Z2Y (n:=2) rfl (Z0u (qH 5 O0d.nd) (Z0u (qH 6 O0d.nd) Z2P))) (Z0d (Z0T PassesOwn.never rfl (Z1K rfl T.O0z (qI Z0c)) (qH 7 O0d.nd) (Z0a (qG 8 O0d.nd (qF G hr (qJ (qD K (pvF 2) (pvF 5)) (Z0i Z0R (Z0i Z0R Z0c (Z0i Z3m Z0c (pvF 5))) (pvF 7))))) (Z0a (Z1W (i:=9) O0d.nd rfl (Or.inr rfl) (qF J hr (qK (pvF 0) (pvF 6) (qD K (pvF 1) (Z0i Z0R Z0c (pvF 7)))))) (Z0a (qG 10 O0d.nd (Z0t (qJ (qD K (pvF 3) (Z0i Z0s (Z0i Z0x (pvF 8) Z0c) (qL T.z_len (qI (pvF 3))))) (qD K (pvF 3) (Z0i Z0s (Z0i Z0x (pvF 8) Z0c) (qL T.z_len (qI (pvF 3)))))))) (Z0a (qG 11 O0d.nd (Z0m (qJ (Z0L (r:=rSlL K) Z1B (pvF 10) Z2c (Z0G (Z0i Z0s (Z0i Z0x (pvF 8) Z0c) Z0c))) (qD K (pvF 3) (Z0i Z0s (Z0i Z0x (pvF 8) Z0c) (qL T.z_len (qI (pvF 3)))))))) (Z0a (Z0E (qM Z1A (pvF 9) Z0V) (Z0a (PS.melt (Z1y rfl O0d.nd (i:=12) rfl rfl (BlockOk.of (N:=["_law_one","_law_halls_here","_law_old"]) (nl:=[none,some 0,some 9]) (cl:=[("_law_old",s.heap.objs.size+2),("_law_halls_here",s.heap.objs.size+1)]) rfl qP qP rfl (sub2 rfl rfl) (nm:=["_law_old","_law_halls_here"]) rfl qP rfl (λ i hi j hj=>by
            match i,hi with
            | 0,_=>cases hj
             |1,_=>cases hj;exact⟨_,rfl,rfl,rfl,.inl rfl⟩
             |2,_=>cases hj;exact⟨_,rfl,rfl,rfl,.inl rfl⟩
            )) (Z2F (pvF 0)) (λ C fp s H=>(qH 0 (show(["_law_one","_law_halls_here","_law_old"]:List V2).Nodup by decide+kernel))) (λ C fp s H=>(Z3b (qF L hr (qK (pvF 1) (pvF 0) (qA K 2))))) (λ C fp s H=>(pvF 0)))) (Z0d (qG 11 O0d.nd (Z0m (qJ (qA K 9) (qD K (Z0i Z1l (Z0t (qI (qA K 9))) (pvF 12)) (Z0i Z0s (Z0i Z0x (pvF 8) Z0c) (Z0i Z0R Z0c (qL T.z_len (qI (pvF 12))))))))))) Z0p) (Z0d (Z0E (PW.pt (Z3d (qM Z8a (pvF 4) Z0c) (Z1Z (qM Z9W (Z0i Z0s (pvF 8) Z0c) (Z0i Z0R Z0c (Z0o Z2z rfl T.z_int Z5r (qI (Z1z Z1A (pvF 9) Z0V (Z3f _))))))))) (Z0a (Z1g (Z0r hr) (qE hr (qE hr (pvF 0) (pvF 6)) Z0f) (qD K (pvF 1) (Z0i Z0R Z0c (pvF 7))) (pvF 11) rfl) (Z0d (J4I (i:=4) O0d.nd rfl (Or.inl rfl) Z0c J7U))) Z0p))))))))))))),?_⟩
  refine seq3 λ r1 l0 u1 m0=>?_;walk_at "r";have f0:=Z0K ha.a;refine New.of λ p1 H1 h1 s1 e1=>⟨_,(ha.same s1).d,New.of λ p2 H2 h2 s2 e2=>⟨_,s2 _ _ e1,_,e2,?_,New.of λ kl H3 h3 s3 e3=>?_⟩⟩
  · rw[f0,qa0];have:=ok.le;show 3+(hs.map Ha.name).length<=_;rw[qa0];omega
  have S3:=s1.trans (s2.trans s3);have e3:H3 kl=some (.lst ((kl7 hs).map V.str)):=by rw[e3,f0];rfl
  subst m0;walk_at "r";subst l0;walk_at "r";refine⟨_,(ha.same S3).d,New.of λ el H4 h4 s4 e4=>⟨⟨_,SqL.of e4⟩,?_⟩⟩;have S4:=S3.trans s4;have a0:=ha.same S4;rw[f0]at e4;have n0:=s4 _ _ e3;refine J2J ((hns hs).map V.str) (λ _=>LHI H4 hd ps hs (λ left I=>some (V.ref hd)::some (V.ref nl)::some (V.ref cl)::some (V.ref kl)::some (V.int left)::I) 8) ⟨hs,8,[none,none,none,none,none,none,none,none],⟨SXs.refl,a0,rfl,⟨qQ,λ h S=>by rw[he h S];decide⟩,λ h S w hw=>by rw[he h S]at hw;cases hw⟩,rfl,rfl⟩ (λ i σ H' _ u=>?_) (λ i y t σ H' hy ht u=>?_) (λ σ H' u=>?_)
  · obtain⟨hs',left,I,u,_,rfl⟩:=u;exact SqL.of (u.s _ _ (a0.nin e4 λ _ z=>by cases z) e4)
  · obtain⟨hs',left,I,u,U,rfl⟩:=u;obtain⟨o5,o6,o7,o8,o9,J0,L0,b0,rfl⟩:∃a b c d e f g h,I=[a,b,c,d,e,f,g,h]:=by
      match I,U with
      |[a,b,c,d,e,f,g,h],_=>exact⟨a,b,c,d,e,f,g,h,rfl⟩
    rw[qa4]at hy;obtain⟨x,hx,rfl⟩:=qc1.mp hy;have s5:=Z0n ht (.tup [.int i,.str x]);have e5:upd H' t (.tup [.int i,.str x]) t=some (.tup [.int i,.str x]):=Z0b;generalize upd H' t (.tup [.int i,.str x])=H5 at*;walk_at "r";refine⟨_,SqT.of e5,rfl,_,_,rfl,_,_,rfl,rfl,?_⟩;have M0:x∈hns hs:=qb0 hx;have v1:i<hs.length:=by have:=(qa7.mp hx).1;rw[show(hns hs).length=hs.length from qa0 _]at this;exact this
    have N0:∀{hs' left H'},HI H4 hd ps hs hs' left H'->HOk hs' ch ff:=λ u=>ok.ev u.e λ h S=>⟨by have:=u.l.2 h S;have:=u.l.1;omega,u.k h S⟩;refine Z3r (λ _=>LHI H4 hd ps hs (λ left I=>some (V.ref hd)::some (V.ref nl)::some (V.ref cl)::some (V.ref kl)::some (V.int left)::some (V.int i)::some (V.str x)::I) 6) ⟨hs',left,_,⟨u.s.trans (SXs.of s5),u.a.same s5,u.e,u.l,u.k⟩,rfl,rfl⟩ (λ j σ H6 hj hJ=>?_) (λ σ H6 hJ=>?_)
    · clear u e5 s5;obtain⟨hs',left,I,u,U,rfl⟩:=hJ;obtain⟨o7,o8,o9,J0,L0,b0,rfl⟩:∃a b c d e f,I=[a,b,c,d,e,f]:=by
        match I,U with
        |[a,b,c,d,e,f],_=>exact⟨a,b,c,d,e,f,rfl⟩
      rw[qi3];have O0:H6 kl=_:=u.s _ _ (a0.nin n0 λ _ z=>by cases z) n0;have o0:=u.s.sql a0 (hn.same S4);have Q0:=u.s.sql a0 (hc.same S4);have M:=N0 u;have w1:=ok.le;have R0:cs[i]?=some cs[i]:=qa8 qR;have p0:Z[3+j]?=some Z[3+j]:=qa8 qR;refine seq6 λ S0 r0 x1 s0 y1 u0 z1 v0 A1 w0=>?_;walk_at "r";refine⟨_,Q0,_,Z1w (show(cs.map V.int)[i]?=some (.int cs[i])by rw[qa4,R0];rfl),_,_,rfl,qR,qR,λ r=>?_⟩;subst w0;walk_at "r";rw[show(3:Int)+(j:Int)=((3+j:Nat):Int)by omega];have e0:x∈hns hs':=by rw[u.e.names];exact M0
      obtain⟨c1,c2,c3,c4⟩:=M.cn x e0;refine⟨_,o0,_,Z1w (show(Z.map V.str)[3+j]?=some (.str Z[3+j])by rw[qa4,p0];rfl),hd,x,Z[3+j],ps,hs',ch x,H6,rfl,u.a,Same.refl _,M.nd,c1,qR,λ x0 H7 s7 ho=>?_⟩;subst v0;walk_at "r";have O:=s7 _ _ O0;have pk:=pick (ks:=kl7 hs) (by show 0<_+1;omega);have g0:(0:Int)<(((kl7 hs).map V.str).length:Int):=by rw[qa0];show(0:Int)<((_+1:Nat):Int);omega
      obtain⟨k1,m1,a1⟩:=pk ((r:Int)/15);obtain⟨k2,m2,a2⟩:=pk ((r:Int)/46);obtain⟨k3,m3,a3⟩:=pk ((r:Int)/21);refine⟨_,.inl (SqL.of O),g0,_,SqL.of O,_,a1,_,.inl (SqL.of O),g0,_,SqL.of O,_,a2,New.of λ pp H8 h8 s8 e8=>?_⟩;subst u0;walk_at "r";have y0:=s8 _ _ O;refine⟨_,SqL.of e8,New.of λ p9 H9 h9 s9 e9=>⟨_,.inl (SqL.of (s9 _ _ y0)),g0,_,SqL.of (s9 _ _ y0),_,a3,New.of λ t9 Ha B1 h0 T0=>?_⟩⟩;have fin:∀{Hb:Hp}{v:V}{hq:List V2×V2}{b0:Option V},Same Ha Hb->HdA Hb v hq->HdOk hs (Z[3+j],hq)->S0 {nx:=LHI H4 hd ps hs (λ left I=>some (V.ref hd)::some (V.ref nl)::some (V.ref cl)::some (V.ref kl)::some (V.int left)::some (V.int ↑i)::some (V.str x)::I) 6,rt:=Q,bk:=LHI H4 hd ps hs (λ left I=>some (V.ref hd)::some (V.ref nl)::some (V.ref cl)::some (V.ref kl)::some (V.int left)::I) 8,ct:=LHI H4 hd ps hs (λ left I=>some (V.ref hd)::some (V.ref nl)::some (V.ref cl)::some (V.ref kl)::some (V.int left)::some (V.int ↑i)::some (V.str x)::I) 6} [some (V.ref hd),some (V.ref nl),some (V.ref cl),some (V.ref kl),some (V.int left),some (V.int ↑i),some (V.str x),some (V.int ↑j),some (V.int ↑r),some x0,some (V.ref pp),some v,b0] Hb:=by
        intro Hb v hq b0 sb hv hk;subst r0;walk_at "r";have SS:=s7.trans (s8.trans (s9.trans (h0.trans sb)));have i0:=u.a.same SS;have no:LHI H4 hd ps hs (λ left I=>some (V.ref hd)::some (V.ref nl)::some (V.ref cl)::some (V.ref kl)::some (V.int left)::some (V.int ↑i)::some (V.str x)::I) 6 [some (V.ref hd),some (V.ref nl),some (V.ref cl),some (V.ref kl),some (V.int left),some (V.int ↑i),some (V.str x),some (V.int ↑j),some (V.int ↑r),some x0,some (V.ref pp),some v,b0] Hb:=⟨hs',left,_,⟨u.s.trans (SXs.of SS),i0,u.e,u.l,u.k⟩,rfl,rfl⟩;refine ite2 (λ z0=>.inr (ite2 (λ _=>?_) λ _=>no)) λ _=>no;obtain⟨ix,X,hX,rfl⟩:=Z8f e0;obtain⟨p,hp,hA,g⟩:=i0.ix M.nd hX;obtain⟨U0,k1,k2⟩:=hA.h;have c0:=qb0 hX;have lk:U0.length=X.heads.length:=k2.len;have lX:=u.l.2 X c0;rw[show(3:Int)+(j:Int)=((3+j:Nat):Int)by omega];obtain⟨A0,a,b,c,d,e⟩:=i0.putHead dj (w:=Z[3+j]) hX hp k1 hv;refine⟨_,g,_,rfl,_,hA.heads,_,o0.same SS,_,Z1w (show(Z.map V.str)[3+j]?=some (.str Z[3+j])by rw[qa4,p0];rfl),_,rfl,_,DPut.k (k:=.inr Z[3+j]) k1 (by rw[sizeLine_eq];omega),_,_,_,⟨u.s.trans ((SXs.of SS).trans (SXs.put (qb0 hp) _)),a,u.e.trans (Ev.set hX A0),⟨qR,λ h S=>?_⟩,λ h S w hw=>?_⟩,rfl,rfl⟩
        · rcases ql1 S with z|z
          · have:=u.l.2 h z;omega
          · rw[z];show(A0.length:Int)+_<=_;omega
        · rcases ql1 S with z|z
          · exact u.k h z w hw
          · rw[z]at hw;rcases d w hw with y|y
            · exact u.k X c0 w y.1
            · rw[y];exact hk
      subst s0;walk_at "r";refine ite2 (λ zo=>?_) (λ _=>?_)
      · obtain⟨Y0,c0,R,q1,q2,t0,B0,rfl,t1,t2⟩:=ho.resolve_left zo;have t1:=s7 _ _ t1;have t2:=s7 _ _ t2;have Sa:=s8.trans (s9.trans h0);have Y:=u.a.same (s7.trans Sa);refine J3c (Z3s none [some (.ref hd),some (.ref t0)] (λ v=>match v with| .str y=>decide (y=R.2.2\/y∈hns hs'/\R.2.2∈ch y)|_=>false) rfl Y.d rfl (by rw[Z1v Y.a,sizeLine_eq];have:=M.le;omega) (λ y hy o H2 Z0 K' fz C0 kk=>?_) λ D Hc hD sc ec=>?_)
        · rw[Z0K Y.a]at hy;obtain⟨y,C1,rfl⟩:=qb4.mp hy;have b1:=(Y.frz dj fz).same C0;have d1:t0≠hd:=λ z=>by
            have:=Sa _ _ t1;rw[z]at this;rcases Y.d with q|⟨o,q⟩
            · rw[q]at this;cases this
            · rw[q]at this;cases this
          have f1:Z0 t0=_:=C0 _ _ ((fz.r _ d1).trans (Sa _ _ t1));walk_at "r";exact⟨_,SqT.of f1,_,ix1,hd,y,R.2.2,ps,hs',ch,rfl,b1,M.nd,λ y hy=>⟨(M.cn y hy).1,by have:=(M.cn y hy).2.1;omega⟩,λ H3 s3=>⟨_,rfl,kk _ s3⟩⟩
        · walk_at "r";rw[Z0K Y.a,Z2h (q:=λ y=>decide (y=R.2.2\/y∈hns hs'/\R.2.2∈ch y)) (λ _=>rfl)]at ec;have D0:=sc _ _ (Sa _ _ t1);have g1:=sc _ _ (Sa _ _ t2);have j0:=u.k Y0 c0 R q1;have lf:=qe4 (λ y=>decide (y=R.2.2\/y∈hns hs'/\R.2.2∈ch y)) (hns hs');rw[show(hns hs').length=hs'.length from qa0 _]at lf;have:=M.le;refine⟨_,SqT.of D0,_,ix0,_,SqT.of D0,_,ix1,New.of λ D1 Hd E1 d0 i1=>⟨_,i1,_,d0 _ _ ec,by rw[qa0];show 1+_<=_;omega,New.of λ G1 He I1 k0 j1=>⟨_,.inl (SqL.of (k0 _ _ (d0 _ _ ec))),qR,?_⟩⟩⟩;obtain⟨k4,m4,a4⟩:=pick (ks:=R.2.2::(hns hs').filter λ y=>decide (y=R.2.2\/y∈hns hs'/\R.2.2∈ch y)) (by show 0<_+1;omega) ((r:Int)/3);rw[show((R.2.2::(hns hs').filter λ y=>decide (y=R.2.2\/y∈hns hs'/\R.2.2∈ch y)).map V.str).length=1+(((hns hs').filter λ y=>decide (y=R.2.2\/y∈hns hs'/\R.2.2∈ch y)).map V.str).length by rw[qb8,qc3,Nat.add_comm],qi0]at a4;refine⟨_,SqL.of j1,_,a4,New.of λ l1 Hf J1 G0 n1=>fin (hq:=(R.2.1,k4)) (sc.trans (d0.trans (k0.trans G0))) ⟨l1,B0,rfl,n1,(d0.trans (k0.trans G0)) _ _ g1⟩ ⟨j0.1,j0.2.1,?_⟩⟩;rcases qa2.mp m4 with z|z
          · rw[z];exact j0.2.2
          · exact .inr (by rw[<-u.e.names];exact(qc7.mp z).1)
      · obtain⟨m,hm,L1⟩:∃m:Nat,(r:Int)/3%3=m/\m<=2:=⟨((r:Int)/3%3).toNat,qR,qR⟩;rw[hm,show[V.str k1,V.str k2]=[k1,k2].map V.str from rfl,Z3T _ _ (by simp;omega),<-qf7]at e9;refine fin (Same.refl _) (hq:=([k1,k2].take m,k3)) ⟨t9,p9,rfl,T0,(h0 _ _ e9)⟩ ⟨?_,λ k hk=>?_,J2s _ m3⟩
        · show([k1,k2].take m).length<=4;rw[qb3];show min _ 2<=4;omega
        · have:=qi9 hk;rcases qa2.mp this with z|z
          · rw[z];exact J2s _ m1
          · rw[qa3.mp z];exact J2s _ m2
    · obtain⟨hs',left,I,u,U,rfl⟩:=hJ;exact⟨hs',left,_,u,congrArg (·+2) U,rfl⟩
  · obtain⟨hs',left,I,u,U,rfl⟩:=u;refine q hs' H' ((SXs.of S4).trans u.s) u.a (ok.ev u.e λ h S=>⟨?_,u.k h S⟩) u.e (λ h S=>by have:=u.l.2 h S;have:=u.l.1;omega);have:=u.l.2 h S;have:=u.l.1;omega
open P70 (Ha hns Cn Fl Sc KOk HOk Ev HdOk chN ffN FkOk)
theorem Z4E:∀{ps:List Ad}{a:List Ha}{R:Ad->Ha->Prop}{p:Ad}{h:Ha},A2 R ps a->kvs7 (ps++[p]) (a++[h])=kvs7 ps a++[(.inr h.name,.ref p.a)]
 |_,_,_,_,_,.nil=>rfl
 |_::_,_::_,_,_,_,.cons _ t=>congrArg (_::·) (Z4E t)
structure LV(B:Hp)(hd:V0)(ps:List Ad)(hs:List Ha)(ch:V2->List V2)(ff:V2->List (V2×V2))(H:Hp):Prop where
 s:SX hd B H
 d:H hd=some (.dK (kvs7 ps hs))
 a:A2 (HaA H) ps hs
 dj:Dj hd ps
 fd:(ps.map Ad.fa).Nodup
 fr:∀p∈ps,B p.a=none/\B p.fa=none/\B p.ha=none
 ok:HOk hs ch ff
 he:∀h∈hs,h.heads=[]
 cl:∀y∈hns hs,(ch y).length<hs.length
theorem LV.ha{B:Hp}{hd:V0}{ps:List Ad}{hs:List Ha}{ch:V2->List V2}{a:V2->List (V2×V2)}{H:Hp}(x:LV B hd ps hs ch a H):HA H hd ps hs:=⟨.inl x.d,x.a⟩
theorem LV.same{B:Hp}{hd:V0}{ps:List Ad}{hs:List Ha}{ch:V2->List V2}{a:V2->List (V2×V2)}{H H':Hp}(x:LV B hd ps hs ch a H)(s:Same H H'):LV B hd ps hs ch a H':=
 ⟨λ b o n e=>s _ _ (x.s b o n e),s _ _ x.d,x.a.mono λ _ _ y=>y.same s,x.dj,x.fd,x.fr,x.ok,x.he,x.cl⟩
theorem LV.some_at{B:Hp}{hd:V0}{ps:List Ad}{hs:List Ha}{ch:V2->List V2}{e:V2->List (V2×V2)}{H:Hp}(x:LV B hd ps hs ch e H){p:Ad}(g:p∈ps):(∃o,H p.a=some o)/\(∃j,H p.fa=some (.lst j))/\∃b,H p.ha=some (.dK b):=by
 obtain⟨i,m⟩:=qe5 g;obtain⟨h,_,c⟩:=x.a.at m;exact⟨⟨_,c.d⟩,let⟨fs,a,_⟩:=c.f;⟨fs,a⟩,let⟨n,a,_⟩:=c.h;⟨n,a⟩⟩
theorem LV.add{B:Hp}{hd:V0}{ps:List Ad}{hs:List Ha}{ch:V2->List V2}{T:V2->List (V2×V2)}{H H2:Hp}(x:LV B hd ps hs ch T H){p:Ad}{n:V2}{e:Option V2}(s:∀b o,b≠hd->H b=some o->H2 b=some o)(D:H p.a=none)(h2:H p.fa=none)(E:H p.ha=none)(J:p.a≠p.ha)(d:H2 hd=some (.dK (kvs7 ps hs++[(.inr n,.ref p.a)])))(L:H2 p.a=some (.dK (hkv p ⟨n,e,[],[]⟩)))(e2:H2 p.fa=some (.lst []))(e3:H2 p.ha=some (.dK []))(U:n∉hns hs)(hS:¬Sc n)(G:∀y,e=some y->y∈hns hs)(ll:hs.length+1<=12):LV B hd (ps++[p]) (hs++[⟨n,e,[],[]⟩]) (chN ch n e) (ffN T n e []) H2:=by
 have m:∀{b:V0},H b=none->b≠hd:=λ e z=>by rw[z,x.d]at e;cases e
 have C:∀{b c:V0}{o:HO},H b=some o->H c=none->b≠c:=λ a b z=>by rw[z,b]at a;cases a
 have stay:∀q h,q∈ps->HaA H q h->HaA H2 q h:=λ q h j M=>by
  obtain⟨i,_⟩:=qc4.mp x.dj;have na:q.a≠hd:=λ z=>i (qe0 _ (by rw[<-z];exact qb6 j));have nh:q.ha≠hd:=λ z=>i (qc6 _ (by rw[<-z];exact qb6 j));have X:∀{b:V0}{A:List V},H b=some (.lst A)->H2 b=some (.lst A):=λ e=>s _ _ (λ z=>by rw[z,x.d]at e;cases e) e;have nt:∀{b:V0}{A:List V},H b=some (.tup A)->H2 b=some (.tup A):=λ e=>s _ _ (λ z=>by rw[z,x.d]at e;cases e) e;exact⟨s _ _ na M.d,let⟨fs,a,b⟩:=M.f;⟨fs,X a,b.mono λ _ _ ⟨t,e,r⟩=>⟨t,e,nt r⟩⟩,let⟨hk,a,b⟩:=M.h;⟨hk,s _ _ nh a,b.mono λ _ _ ⟨e,t,pl,L,r1,r2⟩=>⟨e,t,pl,L,nt r1,X r2⟩⟩⟩
 refine⟨λ b o Y N=>s _ _ Y (x.s b o Y N),by rw[Z4E x.a];exact d,(x.a.monoM stay).app (.cons ⟨L,⟨[],e2,.nil⟩,⟨[],e3,.nil⟩⟩ .nil),?_,?_,?_,x.ok.more U hS G ?_ ll ?_ (λ f hf=>by cases hf),?_,?_⟩
 ·obtain⟨i,O⟩:=qc4.mp x.dj;obtain⟨Q,R,S⟩:=qe3.mp O;show(hd::((ps++[p]).map Ad.a++(ps++[p]).map Ad.ha)).Nodup;rw[qc2,qc2];have Z:∀b∈ps.map Ad.a,∃o,H b=some o:=λ b g=>by obtain⟨q,j,rfl⟩:=qb4.mp g;exact(x.some_at j).1
  have oh:∀b∈ps.map Ad.ha,∃o,H b=some o:=λ b g=>by obtain⟨q,j,rfl⟩:=qb4.mp g;obtain⟨a0,e⟩:=(x.some_at j).2.2;exact⟨_,e⟩
  refine qc4.mpr ⟨λ z=>?_,qe3.mpr ⟨qe3.mpr ⟨Q,qk1 _ _,λ a ha b g z=>?_⟩,qe3.mpr ⟨R,qk1 _ _,λ a ha b g z=>?_⟩,λ a ha b g z=>?_⟩⟩
  ·rcases qb5.mp z with z|z<;>rcases qb5.mp z with z|z
   ·exact i (qe0 _ z)
   ·exact m D (qa3.mp z).symm
   ·exact i (qc6 _ z)
   ·exact m E (qa3.mp z).symm
  ·obtain⟨o,u⟩:=Z a ha;rw[qa3.mp g]at z;exact C u D z
  ·obtain⟨o,u⟩:=oh a ha;rw[qa3.mp g]at z;exact C u E z
  ·rcases qb5.mp ha with ha|ha<;>rcases qb5.mp g with g|g
   ·exact S a ha b g z
   ·obtain⟨o,u⟩:=Z a ha;rw[qa3.mp g]at z;exact C u E z
   ·obtain⟨o,u⟩:=oh b g;rw[qa3.mp ha]at z;exact C u D z.symm
   ·rw[qa3.mp ha,qa3.mp g]at z;exact J z
 ·rw[qc2];refine qe3.mpr ⟨x.fd,qk1 _ _,λ a ha b g z=>?_⟩;obtain⟨q,j,rfl⟩:=qb4.mp ha;obtain⟨A,e⟩:=(x.some_at j).2.1;rw[qa3.mp g]at z;exact C e h2 z
 ·intro q j;rcases qb5.mp j with z|z
  ·exact x.fr q z
  ·rw[qa3.mp z];have go:∀{b:V0},H b=none->B b=none:=λ{b} e=>by
    cases N:B b with
    |none=>rfl
    |some o=>rw[x.s b o (m e) N]at e;cases e
   exact⟨go D,go h2,go E⟩
 ·intro y I;have:=x.cl y (G y I);omega
 ·cases e with
  |none=>exact qa6 _
  |some y=>exact(x.ok.cn y (G y rfl)).2.2.2
 ·intro h hh;rcases qb5.mp hh with z|z
  ·exact x.he h z
  ·rw[qa3.mp z]
 ·intro y I;rw[qa5];rw[P70.hns_app]at I;rcases qb5.mp I with z|z
  ·rw[show chN ch n e y=ch y from if_neg (λ q=>U (by rw[<-q];exact z))];exact qh8 (x.cl y z)
  ·rw[show y=n from qa3.mp z,show chN ch n e n=_ from if_pos rfl];cases e with
   |none=>exact qf2 _
   |some v=>exact Nat.succ_lt_succ (x.cl v (G v rfl))
theorem LV.addF{B:Hp}{hd:V0}{ps:List Ad}{hs:List Ha}{ch:V2->List V2}{A:V2->List (V2×V2)}{H:Hp}{p:Ad}{n:V2}{e:Option V2}{own:List (V2×V2)}(x:LV B hd (ps++[p]) (hs++[⟨n,e,own,[]⟩]) (chN ch n e) (ffN A n e own) H)(ok:HOk hs ch A){fs:List V}{v:V}{f:V2×V2}(I:H p.fa=some (.lst fs))(T:FdA H v f)(U:FkOk hs A f)(X:∀f∈own,FkOk hs A f)(Y:n∉hns hs)(Z:¬Sc n)(he:∀y,e=some y->y∈hns hs)(lc:∀y,e=some y->(ch y).length+1<=12)(ll:hs.length+1<=12)(lf:(match e with|none=>[]|some y=>A y).length+(own.length+1)<=4):LV B hd (ps++[p]) (hs++[⟨n,e,own++[f],[]⟩]) (chN ch n e) (ffN A n e (own++[f])) (upd H p.fa (.lst (fs++[v]))):=by
 have pm:p∈ps++[p]:=qc6 _ qa9;have C:∀{b:V0}{J:List (Key×V)},H b=some (.dK J)->b≠p.fa:=λ e z=>by rw[z,I]at e;cases e
 have nt:∀{b:V0}{N:List V},H b=some (.tup N)->upd H p.fa (.lst (fs++[v])) b=some (.tup N):=λ e=>(Z0e (λ z=>by rw[z,I]at e;cases e)).trans e;have i:∀{O:V}{f':V2×V2},FdA H O f'->FdA (upd H p.fa (.lst (fs++[v]))) O f':=λ⟨t,e,r⟩=>⟨t,e,nt r⟩;obtain⟨D,E⟩:A2 (HaA H) ps hs/\HaA H p ⟨n,e,own,[]⟩:=by
  obtain⟨as,bs,e,a,b⟩:=x.a.split;obtain⟨y,rfl,r⟩:=b.one;have:=List.append_inj' e rfl;rw[this.1];cases this.2;exact⟨a,r⟩
 have m:∀h∈hs,h.heads=[]:=λ h L=>x.he h (qe0 _ L);refine⟨λ b o nb M=>?_,?_,?_,x.dj,x.fd,x.fr,ok.more Y Z he lc ll (by rw[qa5];exact lf) (λ g hg=>?_),?_,?_⟩
 ·rw[Z0e (λ z=>by rw[z,(x.fr p pm).2.1]at M;cases M)];exact x.s b o nb M
 ·rw[Z0e (C x.d),Z4E D,<-Z4E D (h:=⟨n,e,own,[]⟩)];exact x.d
 ·refine A2.app (A2.of D.len λ j q Q=>?_) (.cons ⟨(Z0e (C E.d)).trans E.d,?_,?_⟩ .nil)
  ·obtain⟨h,u,G⟩:=D.at Q;obtain⟨R,a,b⟩:=G.f;have nq:q.fa≠p.fa:=λ z=>by
    have:=x.fd;rw[qc2]at this;exact(qe3.mp this).2.2 _ (qb6 (qb0 Q)) _ qa9 z
   obtain⟨hk,c,d⟩:=G.h;rw[m h (qb0 u)]at d;cases d.nil_inv;exact⟨h,u,(Z0e (C G.d)).trans G.d,⟨R,(Z0e nq).trans a,b.mono λ _ _=>i⟩,⟨[],(Z0e (C c)).trans c,by rw[m h (qb0 u)];exact .nil⟩⟩
  ·obtain⟨R,a,b⟩:=E.f;rw[I]at a;cases a;exact⟨_,Z0b,(b.mono λ _ _=>i).app (.cons (i T) .nil)⟩
  ·obtain⟨hk,a,b⟩:=E.h;cases b.nil_inv;exact⟨[],(Z0e (C a)).trans a,.nil⟩
 ·rcases qb5.mp hg with z|z
  ·exact X g z
  ·rw[qa3.mp z];exact U
 ·intro h L;rcases qb5.mp L with z|z
  ·exact m h z
  ·rw[qa3.mp z]
 ·intro y S;have e2:hns (hs++[⟨n,e,own++[f],[]⟩])=hns (hs++[⟨n,e,own,[]⟩]):=by rw[P70.hns_app,P70.hns_app];rfl
  rw[e2]at S;have:=x.cl y S;rw[qa5]at this ⊢;exact this
theorem J5y{vs:List V}{p:Int->Prop}:(∀(j:Nat) v,vs[j]?=some v->∃m:Int,v=.int m/\p m)->∃fs:List Int,vs=fs.map V.int/\∀m∈fs,p m:=by
 induction vs with
 |nil=>exact λ _=>⟨[],rfl,λ m h=>by cases h⟩
 |cons v vs a=>
  intro h;obtain⟨m,rfl,b⟩:=h 0 v rfl;obtain⟨fs,rfl,c⟩:=a λ j u g=>h (j+1) u g;exact⟨m::fs,rfl,λ k i=>(qa2.mp i).elim (λ e=>e▸b) (c k)⟩
inductive Z6H(K:X0)(vs:List V)(H:Hp)(Q:VK):Prop
 |mk(sc nl:V0)(is:List Int)(ns:List V2)(a1:vs=[.ref sc,.ref nl])(a2:SqL K H sc (is.map V.int))(a3:SqL K H nl (ns.map V.str))(a4:ns.length=12)(a5:ns.Nodup)(a6:(∀n∈ns,¬Sc n))(a7:∀hd ps hs ch ff m H',H hd=none->Same H H'->H' hd=some (.dK (kvs7 ps hs))->HA H' hd ps hs->Dj hd ps->(∀p∈ps,H p.ha=none)->HOk hs ch ff->hns hs=ns.take m->2<=m->m<=6->(∀h∈hs,h.heads.length<=8)->Q (.ref hd) H'):Z6H K vs H Q
def Z7x(K:X0):Sp:=λ a H Q _=>Z6H K a H Q
noncomputable def HVI(B:Hp)(hd:V0)(ns:List V2)(σ0:List (Option V)->St)(n:Nat)(i:Nat)(σ:St)(H':Hp):Prop:=∃ps a c e b,LV B hd ps a c e H'/\hns a=ns.take i/\b.length=n/\σ=σ0 b
noncomputable def plP(hs:List Ha)(ff:V2->List (V2×V2))(y:V2):Bool:=(ff y).all λ f=>decide (f.2∉hns hs)
noncomputable def plV(hs:List Ha)(ff:V2->List (V2×V2)):V->Bool
 | .str y=>plP hs ff y
 |_=>false
theorem J5h{vs:List V}:(∀(j:Nat) v,vs[j]?=some v->∃m:V2,v=.str m)->∃fs:List V2,vs=fs.map V.str:=by
 induction vs with
 |nil=>exact λ _=>⟨[],rfl⟩
 |cons v vs a=>
  intro h;obtain⟨m,rfl⟩:=h 0 v rfl;obtain⟨fs,rfl⟩:=a λ j u b=>h (j+1) u b;exact⟨m::fs,rfl⟩
theorem Z9C{ns:List V2}(c:ns.Nodup):∀b:List V2,ns.length<=(ns.filter λ x=>decide (x∉b)).length+b.length
 |[]=>by rw[List.filter_eq_self.mpr (λ a _=>decide_eq_true (ql7))];exact qa1 _
 |t::b=>by
  have h:=Z9C c b;have e:(ns.filter λ x=>decide (x∉t::b))=(ns.filter λ x=>decide (x∉b)).erase t:=by
   rw[List.Nodup.erase_eq_filter (List.Pairwise.filter _ c),List.filter_filter];refine List.filter_congr λ x _=>?_;by_cases z:x=t
   ·subst z;simp
   ·simp[z]
  have l:=List.length_erase (a:=t) (l:=ns.filter λ x=>decide (x∉b));rw[e,l,qc3];split<;>omega
noncomputable def IVI(B:Hp)(hd:V0)(ps:List Ad)(hs:List Ha)(ch:V2->List V2)(ff:V2->List (V2×V2))(p:Ad)(n:V2)(e:Option V2)(D3:V0)(pls:List V2)(σ0:List (Option V)->St)(j:Nat)(σ:St)(H':Hp):Prop:=∃own a,LV B hd (ps++[p]) (hs++[⟨n,e,own,[]⟩]) (chN ch n e) (ffN ff n e own) H'/\own.length=j/\(∀f∈own,FkOk hs ff f)/\H' D3=some (.lst (pls.map V.str))/\a.length=5/\σ=σ0 a
theorem J9z{ks:List V2}(h:3<=ks.length)(z:Int):∃k∈ks,atI (ks.map V.str) (z%3)=some (.str k):=by
 obtain⟨m,b⟩:=qh1 (qe7 z (show(3:Int)≠0 by decide));have c:=qf6 z (show(0:Int)<3 by decide);rw[b]at c ⊢;have a:m<ks.length:=by omega
 exact⟨ks[m],qh0 a,Z1w (by rw[qa4,qa8 a];rfl)⟩
theorem J1A(T:Txt K mg Cl Ct Cw Ch Cp)(G:Has P w K mg base 1 "_law_cell_at" ["_law_script","_law_k"] (Z6g K))(O:Has P w K mg base 1 "_law_mixed" ["_law_cell","_law_k"] Z3S)(I:Has P w K mg base 2 "_law_fields" ["_law_halls_here","_law_house"] Z1V)(u:Has P w K mg base 3 "_law_is_plain" ["_law_halls_here","_law_house"] Z3Y)(R:Has P w K mg base 3 "_law_heads" ["_law_halls_here","_law_names_here","_law_cells"] (Z7i K)):Has P w K mg base 4 "_law_halls" ["_law_script","_law_names_here"] (Z7x K):=by
  refine Has.of T.O1e O0e (λ _ _ _ _ _ _ us hl=>el2 us hl λ _ _=>rfl) (λ vs H Q E h=>?_) (λ f j2 A x1 s H vs Q E hr h=>?_)
  · obtain⟨sc,nl,is,J,rfl,_⟩:=h;rfl
  obtain⟨sc,nl,is,J,rfl,D0,S,ln,nd,hS,q⟩:=h;refine⟨_,(Z0a (Z1W (i:=2) O0e.nd rfl (Or.inr rfl) Z4g) (Z0a (Z1D rfl O0e.nd (i:=3) rfl rfl (BlockOk.of (N:=["_law_k","_law_script"]) (nl:=[none,some 0]) (cl:=[("_law_script",s.heap.objs.size+1)]) rfl qP qP rfl (sub1 rfl) (nm:=["_law_script"]) rfl qP rfl (λ i hi j hj=>by
            match i,hi with
            | 0,_=>cases hj
             |1,_=>cases hj;exact⟨_,rfl,rfl,rfl,.inl rfl⟩
            )) (Z1K rfl T.O0z (qI (Z0i Z0R Z0c (Z0i Z0s (qF G hr (qJ (pvF 0) Z0c)) Z0c)))) (λ C fp s H=>(qH 0 (show(["_law_k","_law_script"]:List V2).Nodup by decide+kernel))) (λ C fp s H=>(qF G hr (qJ (pvF 1) (Z0i Z0R Z0c (pvF 0)))))) (Z0a (Z0T PassesOwn.never rfl (Z1K rfl T.O0z (qI (qL T.z_len (qI (pvF 3))))) (qH 4 O0e.nd) (Z0a (qG 5 O0e.nd (qF O hr (qJ (qD K (pvF 3) (pvF 4)) (pvF 4)))) (Z0a (PS.melt (Z1y rfl O0e.nd (i:=6) rfl rfl (BlockOk.of (N:=["_law_house","_law_halls_here"]) (nl:=[none,some 2]) (cl:=[("_law_halls_here",s.heap.objs.size+2)]) rfl qP qP rfl (sub1 rfl) (nm:=["_law_halls_here"]) rfl qP rfl (λ i hi j hj=>by
            match i,hi with
            | 0,_=>cases hj
             |1,_=>cases hj;exact⟨_,rfl,rfl,rfl,.inl rfl⟩
            )) (Z2F (pvF 2)) (λ C fp s H=>(qH 0 (show(["_law_house","_law_halls_here"]:List V2).Nodup by decide+kernel))) (λ C fp s H=>(Z3b (qF u hr (qJ (pvF 1) (pvF 0))))) (λ C fp s H=>(pvF 0)))) (Z0a (qG 7 O0e.nd (qD K (Z0i Z1l (Z0t (qI Z0V)) (Z0i J0W (Z0L (r:=rSlL K) Z1B (pvF 1) Z2c (Z0G (pvF 4))) Z0c)) (Z0i Z0s (pvF 5) (Z0i Z0R (Z0i Z3m Z0c (pvF 4)) Z0c)))) (Z0a (Z1g (Z0r hr) (pvF 2) (qD K (pvF 1) (pvF 4)) (J2v (Z2S Z0f (pvF 7) (Z2S Z0f (Z0t Z0W) (Z2S Z0f Z4g J1q))) rfl rfl (by exact List.cons_ne_nil _ _) qS) rfl) (Z0d (Z0T PassesOwn.never rfl (Z1K rfl T.O0z (qI (Z1q (Z6z rfl) rfl T.z_min J4X (qJ (Z0i Z0s (Z0i Z0x (pvF 5) Z0c) Z0c) (Z0i Z3E Z0c (qL T.z_len (qI (qF I hr (qJ (pvF 2) (qD K (pvF 1) (pvF 4))))))))))) (qH 8 O0e.nd) (Z0a (qG 9 O0e.nd (Z0t (qK Z0f Z0f Z0f))) (Z0a (Z0E (Z3b (qF u hr (qJ (pvF 2) (qD K (pvF 1) (pvF 4))))) (Z0d (qG 9 O0e.nd (Z0i Z1l (pvF 9) (pvF 6)))) Z0p) (Z0a (Z1W (i:=10) O0e.nd rfl (Or.inr rfl) (Z0S rfl (BlockOk.plain (N:=["_law_field"]) rfl qP qP qP) (Z0P (qF I hr (qJ (pvF 2) (qD K (pvF 1) (pvF 4))))) (λ C fp s H=>(qH 0 (show(["_law_field"]:List V2).Nodup by decide+kernel))) (λ C fp s H=>(qA K 0)))) (Z0a (Z1y rfl O0e.nd (i:=11) rfl rfl (BlockOk.of (N:=["_law_name","_law_taken"]) (nl:=[none,some 10]) (cl:=[("_law_taken",s.heap.objs.size+3)]) rfl qP qP rfl (sub1 rfl) (nm:=["_law_taken"]) rfl qP rfl (λ i hi j hj=>by
            match i,hi with
            | 0,_=>cases hj
             |1,_=>cases hj;exact⟨_,rfl,rfl,rfl,.inl rfl⟩
            )) (Z0P (pvF 1)) (λ C fp s H=>(qH 0 (show(["_law_name","_law_taken"]:List V2).Nodup by decide+kernel))) (λ C fp s H=>(Z0Y (r:=rIn K true) Z3h (pvF 0) (pvF 1) (by with_unfolding_all rfl))) (λ C fp s H=>(pvF 0))) (Z0a (qG 12 O0e.nd (qD K (pvF 9) (Z0i Z0s (Z0i Z8M (pvF 5) (Z0i Z0R Z0c (Z0i Z3m Z0c (pvF 8)))) (qL T.z_len (qI (pvF 9)))))) (Z0d (Z1a (Z2f qc9 qd7 qd8 Z0B (qE hr (qE hr (pvF 2) (qD K (pvF 1) (pvF 4))) Z0f) (qI (Z0m (qJ (qD K (pvF 11) (Z0i Z0s (Z0i Z8M (pvF 5) (Z0i Z0R Z0c (pvF 8))) Z0c)) (pvF 12))))))))))))))))))) (Z0a (Z1a (qF R hr (qK (pvF 2) (pvF 1) (pvF 3)))) (Z0d (Z0j (pvF 2))))))),?_⟩
  refine seq5 λ k2 G0 l2 I0 m2 J0 n2 M0=>?_;walk_at "r";intro hd h1;have s1:=Z0n h1 (.dK []);have e1:upd H hd (.dK []) hd=some (.dK []):=Z0b;generalize upd H hd (.dK [])=H1 at*;subst M0;walk_at "r";refine⟨sc,is,1,rfl,D0.same s1,λ c1=>⟨c1,rfl,qR,qR,λ D hD=>?_⟩⟩;obtain⟨nh,y1,A1,B1⟩:∃n:Nat,(2+c1%5).toNat=n/\2<=n/\n<=6:=⟨_,rfl,qR,qR⟩;rw[y1];refine Z6Y none [some (.ref sc)] (λ i v _=>∃m:Int,v=.int m/\True) (λ _ _ _ _ h _=>h) rfl hD (by rw[sizeLine_eq];omega) (λ i hi H5 K' s5 kk=>?_) (λ vs H2 s2 e2 N0 hR=>?_)
  · walk_at "r";exact⟨sc,is,4+i,by rw[qi0];rfl,D0.same (s1.trans s5),λ c=>kk _ _ (Same.refl _) ⟨c,rfl,trivial⟩⟩
  obtain⟨cs,rfl,_⟩:=J5y hR;rw[qa0]at N0;have C1:=s2 _ _ e1;have D1:LV H2 hd [] [] (λ _=>[]) (λ _=>[]) H2:=⟨λ _ _ _ e=>e,C1,.nil,qc4.mpr ⟨(λ z=>by cases z),qg9⟩,qg9,(λ p hp=>by cases hp),⟨qg9,qa6 _,(λ x hx=>by cases hx),(λ x hx=>by cases hx),(λ x hx=>by cases hx),(λ x hx=>by cases hx),λ x hx=>by cases hx⟩,(λ x hx=>by cases hx),λ x hx=>by cases hx⟩;subst J0;walk_at "r";refine⟨_,.inl (SqL.of e2),qR,by rw[qa0];omega,?_⟩;rw[qh5,qa0,N0];have S2:=s1.trans s2;have m0:∀{b:V0}{o:HO},H b=some o->b≠hd:=λ e z=>by rw[z,h1]at e;cases e
  have U:∀{H':Hp}{a:V0}{xs:List V},SqL K H a xs->SX hd H2 H'->SqL K H' a xs:=λ{H' a xs} h sx=>by
    rcases h with h|h
    · rcases h with e|⟨o,e⟩
      · exact .inl (.inl (sx _ _ (m0 e) (S2 _ _ e)))
      · exact .inl (.inr ⟨o,sx _ _ (m0 e) (S2 _ _ e)⟩)
    · exact .inr h
  have O0:D≠hd:=λ z=>by rw[z,e1]at hD;cases hD
  refine Z3r (HVI H2 hd J (λ Y=>some (V.ref sc)::some (V.ref nl)::some (V.ref hd)::some (V.ref D)::Y) 9) ⟨_,_,_,_,[none,none,none,none,none,none,none,none,none],D1,by simp[P70.hns],rfl,rfl⟩ (λ i σ H' hi hI=>?_) (λ σ H' hI=>?_)
  · obtain⟨ps,hs,ch,X,Y,L,a0,b0,rfl⟩:=hI;obtain⟨o4,o5,o6,o7,o8,o9,n0,o0,p0,rfl⟩:∃a b c d e f g h i,Y=[a,b,c,d,e,f,g,h,i]:=by
      match Y,b0 with
      |[a,b,c,d,e,f,g,h,i],_=>exact⟨a,b,c,d,e,f,g,h,i,rfl⟩
    rw[qi3];have lh:hs.length=i:=by
      have:=congrArg qd5 a0;rw[show(hns hs).length=hs.length from qa0 _,qb3]at this;omega
    have E1:H' D=_:=L.s _ _ O0 e2;have G1:cs[i]?=some cs[i]:=qa8 qR;have c0:J[i]?=some J[i]:=qa8 qR;refine seq5 λ o2 Q0 p2 R0 q2 S0 r2 T0=>?_;walk_at "r";refine⟨_,SqL.of E1,_,Z1w (show(cs.map V.int)[i]?=some (.int cs[i])by rw[qa4,G1];rfl),_,_,rfl,qR,qR,λ r=>?_⟩;subst T0;walk_at "r";refine J3c (Z3s none [some (.ref hd)] (plV hs X) rfl L.ha.d rfl (by rw[Z1v L.a,sizeLine_eq];have:=L.ok.le;omega) (λ y hy o H3 H4 K' fz s4 kk=>?_) λ D3 H3 h3 s3 e3=>?_)
    · rw[Z0K L.a]at hy;obtain⟨y,I1,rfl⟩:=qb4.mp hy;obtain⟨c1,c2,c3,c4⟩:=L.ok.cn y I1;walk_at "r";exact⟨hd,y,ps,hs,ch y,X y,rfl,(L.ha.frz L.dj fz).same s4,L.ok.nd,c1,qR,c3,qR,λ H5 s5=>⟨_,rfl,kk _ s5⟩⟩
    rw[Z0K L.a,Z2h (q:=plP hs X) (λ _=>rfl)]at e3;subst S0;walk_at "r";have U0:=L.same s3;refine New.of λ p4 H4 h4 s4 e4=>⟨_,U S (U0.same s4).s,New.of λ p5 H5 h5 s5 e5=>?_⟩;rw[Z3T _ _ (by rw[qa0];omega),<-qf7]at e5;refine⟨_,e5,by rw[qa0,qb3];omega,λ p6 h6=>?_⟩;have s6:=Z0n h6 (.lst [(J.take i).map V.str,(J.take i).map V.str,(J.take i).map V.str,(J.take i).map V.str].flatten);have e6:upd H5 p6 (.lst [(J.take i).map V.str,(J.take i).map V.str,(J.take i).map V.str,(J.take i).map V.str].flatten) p6=_:=Z0b;generalize upd H5 p6 (.lst [(J.take i).map V.str,(J.take i).map V.str,(J.take i).map V.str,(J.take i).map V.str].flatten)=H6 at*;refine⟨_,(s5.trans s6) _ _ e4,_,e6,?_,New.of λ p7 H7 h7 s7 e7=>⟨qR,?_⟩⟩
    · simp only[qg6,List.flatten_nil,qa5,qa0,qb3,qc3,qi5];omega
    have S7:=s4.trans (s5.trans (s6.trans s7));obtain⟨j,v,hv,av⟩:=J0e (us:=[V.non]++[(J.take i).map V.str,(J.take i).map V.str,(J.take i).map V.str,(J.take i).map V.str].flatten) (by rw[qa5];exact qd1 Nat.zero_lt_one (qg2 _ _)) (r:Int);rw[show(([V.non]++[(J.take i).map V.str,(J.take i).map V.str,(J.take i).map V.str,(J.take i).map V.str].flatten).length:Int)=4*(i:Int)+1 by
      simp only[qg6,List.flatten_nil,qa5,qa0,qb3,qc3,qi5];omega]at av
    refine⟨_,SqL.of e7,_,av,?_⟩;obtain⟨e,rfl,he⟩:∃e:Option V2,v=oS e/\∀y,e=some y->y∈hns hs:=by
      have hm:=qb0 hv;rcases qb5.mp hm with z|z
      · exact⟨none,qa3.mp z,λ y hy=>by cases hy⟩
      · obtain⟨l,hl,Y0⟩:=List.mem_flatten.mp z;have:l=(J.take i).map V.str:=by simpa using hl
        rw[this]at Y0;obtain⟨y,hy,rfl⟩:=qb4.mp Y0;exact⟨some y,rfl,λ y' J1=>by cases J1;rw[a0];exact hy⟩
    have q0:=U0.same S7;have r0:=S7 _ _ e3;generalize J[i]=n at c0;have hn:n∉hns hs:=by
      rw[a0];intro z;obtain⟨j',s0⟩:=qe5 z;have L1:j'<i:=by have:=(qa7.mp s0).1;rw[qb3]at this;omega
      rw[qk6 L1]at s0;have:=J5T (f:=id) (by rw[List.map_id];exact nd) s0 c0 rfl;omega
    have Z0:¬Sc n:=hS n (qb0 c0);subst R0;walk_at "r";refine New.of λ pa Ha t0 sa ea=>New.of λ pf Hb hb sb eb=>λ Z l0=>?_;have u0:=Z0n l0 (.dK []);have ec:upd Hb Z (.dK []) Z=some (.dK []):=Z0b;generalize upd Hb Z (.dK [])=Hc at*;refine⟨u0 _ _ (sb _ _ ea),[(.inr "elder",oS e),(.inr "fields",.ref pf),(.inr "heads",.ref Z)],rfl,by show 3<=15;omega,?_⟩;have ed:upd Hc pa (.dK (Z3a [] [(.inr "elder",oS e),(.inr "fields",.ref pf),(.inr "heads",.ref Z)])) pa=some (.dK [(.inr "elder",oS e),(.inr "fields",.ref pf),(.inr "heads",.ref Z)]):=Z0b;have v0:H7 pf=none:=Z3l sa hb;have a1:H7 Z=none:=Z3l (sa.trans sb) l0;have N1:pf≠pa:=λ z=>by rw[z,ea]at hb;cases hb
    have b1:Z≠pa:=λ z=>by rw[z,sb _ _ ea]at l0;cases l0
    have sd:Same H7 (upd Hc pa (.dK (Z3a [] [(.inr "elder",oS e),(.inr "fields",.ref pf),(.inr "heads",.ref Z)]))):=λ b o e=>by rw[Z0e (Z0g e t0)];exact(sa.trans (sb.trans u0)) _ _ e
    have ef:upd Hc pa (.dK (Z3a [] [(.inr "elder",oS e),(.inr "fields",.ref pf),(.inr "heads",.ref Z)])) pf=some (.lst []):=by rw[Z0e N1];exact u0 _ _ eb
    have eh:upd Hc pa (.dK (Z3a [] [(.inr "elder",oS e),(.inr "fields",.ref pf),(.inr "heads",.ref Z)])) Z=some (.dK []):=by rw[Z0e b1];exact ec
    generalize upd Hc pa (.dK (Z3a [] [(.inr "elder",oS e),(.inr "fields",.ref pf),(.inr "heads",.ref Z)]))=Hd at*;have d0:=q0.same sd;have w0:=sd _ _ r0;have e0:atI (J.map V.str) (i:Int)=some (.str n):=Z1w (by rw[qa4,c0];rfl);refine⟨_,U S d0.s,_,e0,_,DPut.k (k:=.inr n) d0.d (by rw[Z1v d0.a,sizeLine_eq];omega),?_⟩;rw[Z5O _ (Z8i d0.a hn)];have x0:∀{b:V0},H7 b=none->b≠hd:=λ e z=>by rw[z,q0.d]at e;cases e
    have f0:=LV.add (H2:=upd Hd hd (.dK (kvs7 ps hs++[(.inr n,.ref pa)]))) q0 (p:=⟨pa,pf,Z⟩) (n:=n) (e:=e) (λ b o nb eb=>by rw[Z0e nb];exact sd _ _ eb) t0 v0 a1 b1.symm Z0b ((Z0e (x0 t0)).trans ed) ((Z0e (x0 v0)).trans ef) ((Z0e (x0 a1)).trans eh) hn Z0 he qR;have O1:upd Hd hd (.dK (kvs7 ps hs++[(.inr n,.ref pa)])) D3=_:=(Z0e (λ z=>by rw[z,d0.d]at w0;cases w0)).trans w0;generalize upd Hd hd (.dK (kvs7 ps hs++[(.inr n,.ref pa)]))=He at*;subst Q0;walk_at "r";have nin:n∈hns (hs++[⟨n,e,[],[]⟩]):=by rw[P70.hns_app];exact qc6 _ qa9
    obtain⟨c1,c2,c3,c4⟩:=f0.ok.cn n nin;refine⟨_,U S f0.s,_,e0,hd,n,_,_,_,_,rfl,f0.ha,f0.ok.nd,c1,qR,c3,qR,λ l8 us Hf h8 s8 e8 hu=>⟨l8,rfl,us,.inl (SqL.of e8),?_⟩⟩;rw[hu.len];refine⟨by split<;>omega,by split<;>omega,?_⟩;obtain⟨L0,d1⟩:∃L0,L0=(match e with|none=>[]|some y=>X y:List (V2×V2)).length:=⟨_,rfl⟩;have eL:(ffN X n e [] n).length=L0:=by rw[d1,show ffN X n e [] n=_ from if_pos rfl,qd0]<;>rfl
    rw[eL]at c4 ⊢;obtain⟨M,hM,t2⟩:∃M:Nat,(if 4-(L0:Int)<(r:Int)/30%3 then 4-(L0:Int)else(r:Int)/30%3).toNat=M/\L0+M<=4:=⟨_,rfl,by split<;>omega⟩;rw[hM];have Q1:D3≠pf:=λ z=>by rw[z,v0]at r0;cases r0
    refine Z3r (IVI H2 hd ps hs ch X ⟨pa,pf,Z⟩ n e D3 ((hns hs).filter (plP hs X)) λ Y=>some (V.ref sc)::some (V.ref nl)::some (V.ref hd)::some (V.ref D)::some (V.int i)::some (V.int r)::some (V.ref D3)::some (oS e)::Y) ⟨[],[o8,o9,n0,o0,p0],f0.same s8,rfl,(λ f hf=>by cases hf),s8 _ _ O1,rfl,rfl⟩ (λ j σ H' hj hJ=>?_) (λ σ H' hJ=>?_)
    · obtain⟨own,Y,y0,lo,g0,d3,b0,rfl⟩:=hJ;obtain⟨o8,o9,n0,o0,p0,rfl⟩:∃a b c d e,Y=[a,b,c,d,e]:=by
        match Y,b0 with
        |[a,b,c,d,e],_=>exact⟨a,b,c,d,e,rfl⟩
      rw[qi3];refine seq6 λ u2 g1 v2 i1 w2 j1 R1 l1 x2 m1=>?_;walk_at "r";refine New.of λ k1 Hg hg sg eg=>?_;have h0:=y0.same sg;have n1:=sg _ _ d3;have i0:n∈hns (hs++[⟨n,e,own,[]⟩]):=by rw[P70.hns_app];exact qc6 _ qa9
      have fin:∀{Hh:Hp}{kl:V0}(ks:List V2),Same Hg Hh->Hh kl=some (.lst (ks.map V.str))->(∀k∈ks,∀nm,FkOk hs X (nm,k))->0<ks.length->R1 {nx:=IVI H2 hd ps hs ch X {a:=pa,fa:=pf,ha:=Z} n e D3 (List.filter (plP hs X) (hns hs)) (λ Y=>some (V.ref sc)::some (V.ref nl)::some (V.ref hd)::some (V.ref D)::some (V.int ↑i)::some (V.int ↑r)::some (V.ref D3)::some (oS e)::Y) (j+1),rt:=Q,bk:=HVI H2 hd J (λ Y=>some (V.ref sc)::some (V.ref nl)::some (V.ref hd)::some (V.ref D)::Y) 9 (i+1),ct:=IVI H2 hd ps hs ch X {a:=pa,fa:=pf,ha:=Z} n e D3 (List.filter (plP hs X) (hns hs)) (λ Y=>some (V.ref sc)::some (V.ref nl)::some (V.ref hd)::some (V.ref D)::some (V.int ↑i)::some (V.int ↑r)::some (V.ref D3)::some (oS e)::Y) (j+1)} [some (V.ref sc),some (V.ref nl),some (V.ref hd),some (V.ref D),some (V.int ↑i),some (V.int ↑r),some (V.ref D3),some (oS e),some (V.int ↑j),some (V.ref kl),n0,o0,p0] Hh:=by
        intro Hh kl ks sh S1 o1 T1;subst l1;walk_at "r";have j0:=h0.same sh;obtain⟨z0,U1,A0,Y1⟩:=j0.ok.cn n i0;refine⟨_,U S j0.s,_,e0,hd,n,_,_,_,_,rfl,j0.ha,j0.ok.nd,z0,qR,A0,qR,λ l9 Z1 Hi h9 s9 e9 p1=>⟨l9,rfl,⟨_,SqL.of e9⟩,λ D9 a2=>?_⟩⟩;have y2:=p1.len;refine Z2A (ys:=Z1) none [] (λ _ v _=>∃m:V2,v=.str m) (λ _ _ _ _ h _=>h) rfl a2 (by rw[sizeLine_eq];omega) (λ Hj sj=>SqL.of (sj _ _ e9)) (λ k y hy Hj K' sj kk=>?_) (λ tv Hj sj ej b2 hR=>?_)
        · obtain⟨f,_,tt,rfl,et⟩:=p1.at hy;walk_at "r";exact⟨_,SqT.of (sj _ _ et),_,ix0,kk _ _ (Same.refl _) ⟨_,rfl⟩⟩
        obtain⟨tk,rfl⟩:=J5h hR;rw[qa0]at b2;have d2:=sh.trans (s9.trans sj);have B0:=j0.same (s9.trans sj);subst j1;walk_at "r";refine⟨⟨_,U S B0.s⟩,λ B2 q1=>?_⟩;refine Z3u (ys:=J.map V.str) none [some (.ref D9)] (λ v=>match v with| .str x=>decide (x∉tk)|_=>false) rfl q1 (by rw[qa0,sizeLine_eq];omega) (λ Hk sk=>U S (B0.same sk).s) (λ y hy Hk K' sk kk=>?_) (λ Hk sk ek=>?_)
        · obtain⟨x,hx,rfl⟩:=qb4.mp hy;walk_at "r";refine⟨_,.inl (SqL.of (sk _ _ ej)),rfl,Z3q,?_⟩;have:=kk Hk (Same.refl _);rw[Z3K];have e:(!decide (x∈tk))=decide (x∉tk):=by by_cases z:x∈tk<;>simp[z]
          rw[e];exact this
        rw[Z2h (q:=λ x=>decide (x∉tk)) (λ _=>rfl)]at ek;have k0:=B0.same sk;have r1:=(s9.trans (sj.trans sk)) _ _ S1;subst i1;walk_at "r";obtain⟨k9,m9,a9⟩:=pick T1 ((r:Int).fdiv (90+17*(j:Int)));refine⟨qR,qR,qR,_,.inl (SqL.of r1),by rw[qa0];omega,_,SqL.of r1,_,a9,?_⟩;subst g1;walk_at "r";have g2:ps.length=hs.length:=L.a.len;obtain⟨p',t1,hA,g⟩:=k0.ha.ix k0.ok.nd (i:=hs.length) (h:=⟨n,e,own,[]⟩) (by rw[qh4 (qa1 _),Nat.sub_self];rfl);rw[<-g2,qh4 (qa1 _),Nat.sub_self]at t1;cases t1;obtain⟨fs,f1,f2⟩:=hA.f;have f1:Hk pf=some (.lst fs):=f1;have C2:fs.length=own.length:=f2.len;have D2:=Z9C nd tk;have E2:=(k0.ok.cn n i0).2.2.2;obtain⟨C0,G2,h2⟩:=J9z (ks:=J.filter λ x=>decide (x∉tk)) qR ((r:Int).fdiv (7+(j:Int)));refine⟨_,U S k0.s,_,e0,_,g,_,rfl,_,hA.fields,.inl ⟨rfl,_,SqL.of f1⟩,qR,qR,qR,_,SqL.of ek,_,h2,New.of λ tp Hl hl sl el=>⟨_,rfl,_,sl _ _ f1,qR,own++[(C0,k9)],_,(k0.same sl).addF L.ok (sl _ _ f1) ⟨tp,rfl,el⟩ (o1 k9 m9 C0) g0 hn Z0 he (λ y hy=>by have:=L.cl y (he y hy);omega) qR (by rw[<-d1];omega),by rw[qa5,lo];rfl,λ f hf=>?_,?_,rfl,rfl⟩⟩
        · rcases qb5.mp hf with z|z
          · exact g0 f z
          · rw[qa3.mp z];exact o1 k9 m9 C0
        · rw[Z0e Q1];exact(d2.trans (sk.trans sl)) _ _ n1
      obtain⟨z0,U1,A0,Y1⟩:=h0.ok.cn n i0;subst m1;walk_at "r";refine⟨_,U S h0.s,_,e0,hd,n,_,_,_,_,rfl,h0.ha,h0.ok.nd,z0,qR,A0,qR,λ Hh sh=>⟨_,rfl,ite2 (λ zp=>?_) λ _=>?_⟩⟩
      · refine⟨_,sh _ _ eg,_,sh _ _ n1,?_,New.of λ kl Hi h9 s9 e9=>fin (("number":V2)::("truth":V2)::("number":V2)::(hns hs).filter (plP hs X)) (sh.trans s9) e9 (λ k hk nm=>?_) (qf2 _)⟩
        · rw[qa0];have:=qe4 (plP hs X) (hns hs);rw[show(hns hs).length=hs.length from qa0 _]at this;show 3+_<=_;omega
        · rcases qa2.mp hk with z|z
          · exact .inl (.inl z)
          rcases qa2.mp z with z|z
          · exact .inl (.inr z)
          rcases qa2.mp z with z|z
          · exact .inl (.inl z)
          · obtain⟨z1,z2⟩:=qc7.mp z;refine .inr ⟨z1,λ g u1=>?_⟩;have:=List.all_eq_true.mp z2 g u1;exact(L.ok.fk k z1 g u1).resolve_right λ q=>of_decide_eq_true this q.1
      · exact fin [("number":V2),("truth":V2),("number":V2)] sh (sh _ _ eg) (λ k hk nm=>by
          rcases qa2.mp hk with z|z
          · exact .inl (.inl z)
          rcases qa2.mp z with z|z
          · exact .inl (.inr z)
          · exact .inl (.inl (qa3.mp z))) (qf2 _)
    · obtain⟨own,Y,y0,lo,g0,d3,b0,rfl⟩:=hJ;refine⟨_,_,_,_,_,y0,?_,congrArg (·+4) b0,rfl⟩;rw[P70.hns_app,a0,qf3,c0];rfl
  · obtain⟨ps,hs,ch,X,Y,L,a0,b0,rfl⟩:=hI;subst I0;walk_at "r";have lh:hs.length=nh:=by
      have:=congrArg qd5 a0;rw[show(hns hs).length=hs.length from qa0 _,qb3]at this;omega
    refine⟨hd,nl,D,ps,hs,ch,X,J,cs,rfl,L.ha,L.dj,L.ok,L.he,U S L.s,ln,SqL.of (L.s _ _ O0 e2),qR,λ v1 H3 sx w1 i2 ev l8=>?_⟩;subst G0;walk_at "r";have fr:∀p∈ps,H p.ha=none:=λ p hp=>Z3l S2 (L.fr p hp).2.2;have d3:H3 hd=some (.dK (kvs7 ps v1)):=by
      have h1:=sx _ _ (λ z=>(qc4.mp L.dj).1 (qc6 _ z)) L.d;rcases w1.d with q|⟨o,q⟩
      · exact q
      · rw[h1]at q;cases q
    refine q hd ps v1 ch X nh H3 h1 (λ b o e=>sx _ _ (λ z=>?_) (L.s _ _ (m0 e) (S2 _ _ e))) d3 w1 L.dj fr i2 (by rw[ev.names];exact a0) A1 B1 l8;obtain⟨p,hp,rfl⟩:=qb4.mp z;rw[fr p hp]at e;cases e
open P70 (Ha hns Cn Fl Sc KOk HOk zS dr TOk Rk Lv)
structure ES where
 hd:V0
 sc:V0
 la:V0
 pl:V0
 ps:List Ad
 hs:List Ha
 ch:V2->List V2
 ff:V2->List (V2×V2)
 is:List Int
 lts:List V2
 pls:List V2
 cp:Fin 100
structure StA(K:X0)(B:Hp)(e:V0)(S:ES)(pf:Prop):Prop where
 e0:B e=none
 ha:HA B S.hd S.ps S.hs
 dj:Dj S.hd S.ps
 ok:HOk S.hs S.ch S.ff
 ne:S.hs≠[]
 sc:SqL K B S.sc (S.is.map V.int)
 la:SqL K B S.la (S.lts.map V.str)
 l4:S.lts.length=4
 pl:pf->SqL K B S.pl (S.pls.map V.str)/\S.pls.length<=12
structure EvK(kvs:List (Key×V))(S:ES)(na:V0)(own:Option V2)(n:Nat)(pf:Prop):Prop where
 le:kvs.length<=18+S.cp.val
 h:valV kvs (.inr "halls")=some (.ref S.hd)
 s:valV kvs (.inr "script")=some (.ref S.sc)
 n:valV kvs (.inr "spot")=some (.int n)
 m:∃m,valV kvs (.inr "most")=some (.int m)
 l:valV kvs (.inr "lets")=some (.ref S.la)
 x:valV kvs (.inr "names")=some (.ref na)
 o:valV kvs (.inr "own")=some (oS own)
 p:pf->valV kvs (.inr "pool")=some (.ref S.pl)
def EnvAt(H:Hp)(e:V0)(S:ES)(na:V0)(own:Option V2)(n:Nat)(pf:Prop):Prop:=∃a,H e=some (.dK a)/\EvK a S na own n pf
def NmA(hs:List Ha)(H:Hp)(na:V0)(L:Nat):Prop:=∃a:List (Key×V),H na=some (.dK a)/\a.length+L<=30/\∀b∈a,∃x k,b=(Sum.inr x,V.str k)/\KOk hs k
structure CA(K:X0)(H:Hp)(e:V0)(B:Hp)(S:ES)(na:V0)(own:Option V2)(n:Nat)(pf:Prop)(L:Nat):Prop where
 st:StA K B e S pf
 sm:Same B H
 ev:EnvAt H e S na own n pf
 nm:NmA S.hs H na L
 ne:na≠e
 lp:3<=L->pf
 ow:∀x,own=some x->x∈hns S.hs
section
variable{K:X0}{H H' B:Hp}{e na:V0}{S:ES}{own:Option V2}{n n' L:Nat}{pf:Prop}
theorem Z6b{kvs:List (Key×V)}{k:Key}{v u:V}(h:valV kvs k=some u):(putK kvs k v).length=kvs.length:=by
 unfold putK;rw[Z2W,h];show(List.map _ kvs).length=_;rw[qa0]
theorem CA.go(c:CA K H e B S na own n pf L)(s:SX e H H')(v:EnvAt H' e S na own n' pf):CA K H' e B S na own n' pf L:=
 ⟨c.st,λ b o h=>s _ _ (λ z=>by rw[z,c.st.e0]at h;cases h) (c.sm _ _ h),v,let⟨g,a,b⟩:=c.nm;⟨g,s _ _ c.ne a,b⟩,c.ne,c.lp,c.ow⟩
theorem CA.same(c:CA K H e B S na own n pf L)(s:Same H H'):CA K H' e B S na own n pf L:=
 ⟨c.st,c.sm.trans s,let⟨g,a,b⟩:=c.ev;⟨g,s _ _ a,b⟩,let⟨h,a,b⟩:=c.nm;⟨h,s _ _ a,b⟩,c.ne,c.lp,c.ow⟩
theorem CA.down(c:CA K H e B S na own n pf (L+1)):CA K H e B S na own n pf L:=
 ⟨c.st,c.sm,c.ev,let⟨g,a,b,d⟩:=c.nm;⟨g,a,qR,d⟩,c.ne,λ h=>c.lp qR,c.ow⟩
theorem CA.ha(c:CA K H e B S na own n pf L):HA H S.hd S.ps S.hs:=c.st.ha.same c.sm
theorem CA.sc(c:CA K H e B S na own n pf L):SqL K H S.sc (S.is.map V.int):=c.st.sc.same c.sm
theorem CA.la(c:CA K H e B S na own n pf L):SqL K H S.la (S.lts.map V.str):=c.st.la.same c.sm
theorem CA.get(c:CA K H e B S na own n pf L):DGet H e (.str "halls") (some (.ref S.hd))/\DGet H e (.str "script") (some (.ref S.sc))/\DGet H e (.str "spot") (some (.int n))/\(∃m,DGet H e (.str "most") (some (.int m)))/\DGet H e (.str "lets") (some (.ref S.la))/\DGet H e (.str "names") (some (.ref na))/\DGet H e (.str "own") (some (oS own))/\(pf->DGet H e (.str "pool") (some (.ref S.pl))):=by
 obtain⟨a,h,v⟩:=c.ev;have go:∀{x:V2}{u:V},valV a (.inr x)=some u->DGet H e (.str x) (some u):=λ{x u} q=>.inl ⟨a,.inr x,.inl h,rfl,q.symm⟩;exact⟨go v.h,go v.s,go v.n,let⟨m,q⟩:=v.m;⟨m,go q⟩,go v.l,go v.x,go v.o,λ q=>go (v.p q)⟩
theorem CA.kt(c:CA K H e B S na own n pf L)(s:SX e H H'):Kt H H':=by
 obtain⟨a,h,_⟩:=c.ev;exact⟨λ b g q=>s _ _ (λ z=>by rw[z,h]at q;cases q) q,λ b o g q=>s _ _ (λ z=>by rw[z,h]at q;cases q) q⟩
theorem CA.nel(c:CA K H e B S na own n pf L){b:V0}{xs:List V}(q:H b=some (.lst xs)):b≠e:=λ z=>by
 obtain⟨a,h,_⟩:=c.ev;rw[z,h]at q;cases q
theorem CA.beside(c:CA K H e B S na own n pf L){D:V0}(o:HO)(i:B D=none)(j:D≠e)(m:D≠na):CA K (upd H D o) e B S na own n pf L:=
 ⟨c.st,λ b u h=>by rw[Z0e (Z0g h i)];exact c.sm _ _ h,let⟨g,a,b⟩:=c.ev;⟨g,(Z0e j.symm).trans a,b⟩,let⟨p,a,b⟩:=c.nm;⟨p,(Z0e m.symm).trans a,b⟩,c.ne,c.lp,c.ow⟩
theorem Z7k(ts:List Tm)(t:Tm):P15.dats (ts++[t])=P15.dats ts++[t.dat]:=by
 induction ts with
 |nil=>rfl
 |cons x ts a=>show x.dat::P15.dats (ts++[t])=_;rw[a];rfl
theorem CA.spot(c:CA K H e B S na own n pf L):∃a,H e=some (.dK a)/\a.length<sizeLine/\EnvAt (upd H e (.dK (putK a (.inr "spot") (.int ((n:Int)+1))))) e S na own (n+1) pf:=by
 obtain⟨a,h,v⟩:=c.ev;have b:∀{x:V2}{u:V},¬(Sum.inr x:Key)=.inr "spot"->valV a (.inr x)=some u->valV (putK a (.inr "spot") (.int ((n:Int)+1))) (.inr x)=some u:=λ{x u} z q=>by rw[Z0N,if_neg z];exact q
 exact⟨a,h,by rw[sizeLine_eq];have:=v.le;have:=S.cp.2;omega,_,Z0b,by rw[Z6b v.n];exact v.le,b qS v.h,b qS v.s,by rw[Z0N,if_pos rfl];rfl,let⟨m,q⟩:=v.m;⟨m,b qS q⟩,b qS v.l,b qS v.x,b qS v.o,λ q=>b qS (v.p q)⟩
end
inductive J1K(K:X0)(vs:List V)(H:Hp)(Q:VK):Prop
 |mk(e:V0)(B:Hp)(S:ES)(na:V0)(own:Option V2)(n:Nat)(pf:Prop)(L:Nat)(a1:vs=[.ref e])(a2:CA K H e B S na own n pf L)(a3:n+1<=1000000)(a4:∀(r:Nat) H',SX e H H'->EnvAt H' e S na own (n+1) pf->Q (.int r) H'):J1K K vs H Q
def Z5Z(K:X0):Sp:=λ a H Q _=>J1K K a H Q
theorem J6a(T:Txt K mg Cl Ct Cw Ch Cp)(a:Has P w K mg base 1 "_law_cell_at" ["_law_script","_law_k"] (Z6g K))(b:Has P w K mg base 1 "_law_mixed" ["_law_cell","_law_k"] Z3S):Has P w K mg base 2 "_law_draw" ["_law_env"] (Z5Z K):=by
 refine Has.of T.O1j Z7r (λ _ _ _ _ _ _ u v=>el1 u v λ _=>rfl) (λ x H Q E h=>?_) (λ f y A o s H x Q E g h=>?_)
 ·obtain⟨e,z,S,na,own,n,pf,L,rfl,_⟩:=h;rfl
 obtain⟨e,z,S,na,own,n,pf,L,rfl,c,M,q⟩:=h;refine⟨_,(Z0a (J5z (Z0r g) (pvF 0) Z0f Z0c J5D (λ _ _ _=>rfl)) (Z0d (Z0j (qF b g (qJ (qF a g (qJ (Z0l (Z0r g) (pvF 0) Z0f (λ _ _=>rfl)) (Z0i Z0R Z0c (Z0i Z0s (Z0l (Z0r g) (pvF 0) Z0f (λ _ _=>rfl)) Z0c)))) (Z0l (Z0r g) (pvF 0) Z0f (λ _ _=>rfl))))))),?_⟩;refine seq2 λ C i=>?_;walk_at "r";obtain⟨j,D,G,ev⟩:=c.spot;have p:SX e H (upd H e (.dK (putK j (.inr "spot") (.int ((n:Int)+1))))):=SX.put _;have m:=c.go p ev;refine⟨_,c.get.2.2.1,_,rfl,_,DPut.k (k:=.inr "spot") D G,?_⟩;generalize upd H e (.dK (putK j (.inr "spot") (.int ((n:Int)+1))))=I at*;subst i;walk_at "r";exact⟨_,m.get.2.1,_,m.get.2.2.1,_,rfl,S.sc,S.is,10+(n+1)%50,by rw[show((10+(n+1)%50:Nat):Int)=10+((n:Int)+1)%50 by omega];rfl,m.sc,λ J=>⟨_,m.get.2.2.1,J,_,rfl,qR,qR,λ r=>q r I p ev⟩⟩
inductive J0I(K:X0)(L:Nat)(vs:List V)(H:Hp)(Q:VK):Prop
 |mk(e:V0)(B:Hp)(S:ES)(na:V0)(own:Option V2)(n:Nat)(pf:Prop)(k:V2)(d:Int)(a1:vs=[.ref e,.str k,.int d])(a2:CA K H e B S na own n pf L)(a3:n+dr L<=1000000)(a4:Lv S.hs S.ff k d L)(a5:∀v t n' H',SX e H H'->EnvAt H' e S na own n' pf->n'<=n+dr L->RT K H' v t.dat->TOk L t->Q v H'):J0I K L vs H Q
def Z2w(K:X0)(L:Nat):Sp:=λ a H Q _=>J0I K L a H Q
inductive Z8W(K:X0)(L:Nat)(vs:List V)(H:Hp)(Q:VK):Prop
 |mk(e:V0)(B:Hp)(S:ES)(na:V0)(own:Option V2)(n:Nat)(pf:Prop)(kl:V0)(ks:List V2)(d:Int)(a1:vs=[.ref e,.ref kl,.int d])(a2:CA K H e B S na own n pf L)(a3:H kl=some (.lst (ks.map V.str)))(a4:ks.length<=5)(a5:n+ks.length*dr L<=1000000)(a6:(∀k∈ks,Lv S.hs S.ff k (d-1) L))(a7:∀a us ts n' H',SX e H H'->EnvAt H' e S na own n' pf->n'<=n+ks.length*dr L->SqT K H' a us->RTs K H' us (P15.dats ts)->ts.length=ks.length->(∀t∈ts,TOk L t)->Q (.ref a) H'):Z8W K L vs H Q
def Z2N(K:X0)(L:Nat):Sp:=λ a H Q _=>Z8W K L a H Q
theorem J2S(T:Txt K mg Cl Ct Cw Ch Cp){L:Nat}(a:Has P w K mg base (6*L+10) "_law_want" ["_law_env","_law_kind","_law_depth"] (Z2w K L)):Has P w K mg base (6*L+11) "_law_given" ["_law_env","_law_kinds","_law_depth"] (Z2N K L):=by
  refine Has.of T.O0I Z4h (λ _ _ _ _ _ _ us hl=>el3 us hl λ _ _ _=>rfl) (λ g H Q E h=>?_) (λ f h0 A e0 s H g Q E hr h=>?_)
  · obtain⟨e,B',S,na,own,n,pf,kl,y,d,rfl,_⟩:=h;rfl
  obtain⟨e,B',S,na,own,n,pf,kl,y,d,rfl,c,G,lk,hn,hl,q⟩:=h;refine⟨_,(Z0d (Z0j (Z0o Z0q rfl T.O0m Z0O (qI (Z0S rfl (BlockOk.of (N:=["_law_kind","_law_depth","_law_env"]) (nl:=[none,some 2,some 0]) (cl:=[("_law_env",s.heap.objs.size+1),("_law_depth",s.heap.objs.size+2)]) rfl qP qP rfl (sub2 rfl rfl) (nm:=["_law_env","_law_depth"]) rfl qP rfl (λ i m j hj=>by
            match i,m with
            | 0,_=>cases hj
             |1,_=>cases hj;exact⟨_,rfl,rfl,rfl,.inl rfl⟩
             |2,_=>cases hj;exact⟨_,rfl,rfl,rfl,.inl rfl⟩
            )) (Z0P (pvF 1)) (λ C fp s H=>(qH 0 (show(["_law_kind","_law_depth","_law_env"]:List V2).Nodup by decide+kernel))) (λ C fp s H=>(qF a hr (qK (pvF 2) (pvF 0) (Z0i Z3E (pvF 1) Z0c))))))))),?_⟩
  walk_at "r";refine⟨⟨_,SqL.of G⟩,λ D I=>?_⟩;have p:D≠e:=λ z=>by obtain⟨i0,h,_⟩:=c.ev;rw[z,h]at I;cases I
  have Y:D≠na:=λ z=>by obtain⟨nk,h,_⟩:=c.nm;rw[z,h]at I;cases I
  have Z:B' D=none:=Z3l c.sm I;have a0:kl≠D:=λ z=>by rw[z,I]at G;cases G
  have b0:∀i,i<y.length->(i+1)*dr L<=y.length*dr L:=λ i m=>qg3 _ m;refine Z6k (n:=y.length) none [some (.int d),some (.ref e)] (λ i x=>∃k,y[i]?=some k/\x=.str k) (λ i g u=>(∀b o,b≠e->b≠D->H b=some o->u b=some o)/\u D=some (.lst g)/\∃n',CA K u e B' S na own n' pf L/\n'<=n+i*dr L/\∃J,RTs K u g (P15.dats J)/\J.length=i/\∀t∈J,TOk L t) rfl (by rw[sizeLine_eq];omega) ⟨λ b o _ U h=>by rw[Z0e U];exact h,Z0b,n,c.beside _ Z p Y,qR,[],.nil,rfl,λ t ht=>by cases ht⟩ (λ i g u m M=>?_) (λ g u M=>?_) (λ i x g u K' m hx M c0 kk=>?_) (λ g u M hv lv=>?_)
  · have k1:=M.1 _ _ (c.nel G) a0 G;refine⟨⟨_,.str y[i],SqL.of k1,by rw[qa4,qa8 m];rfl⟩,λ x X hx=>⟨hx.1,y[i],qa8 m,?_⟩⟩;have:=hx.2 _ (SqL.of k1);rw[qa4,qa8 m]at this;exact(qc5 this).symm
  · have k1:=M.1 _ _ (c.nel G) a0 G;exact⟨_,SqL.of k1,by rw[qa0];exact qa1 _⟩
  · obtain⟨k,f0,rfl⟩:=hx;obtain⟨sx,_,n1,c1,d0,J,O,R,tok⟩:=M;have hm:=b0 i m;rw[qf5]at hm;walk_at "r";refine⟨e,B',S,na,own,n1,pf,k,d-1,rfl,c1,qR,hl k (qb0 f0),λ v t n2 X r g0 j0 rt tk=>kk v X (r _ _ p c0) ⟨λ b o U nd h=>?_,Z0b,n2,(c1.go r g0).beside _ Z p Y,by rw[qf5];omega,J++[t],?_,by rw[qa5,R];rfl,λ t' ht=>?_⟩⟩
    · rw[Z0e nd];exact r _ _ U (sx _ _ U nd h)
    · rw[Z7k];have kt:Kt X (upd X D (.lst (g++[v]))):=Kt.put _ (r _ _ p c0) (λ _ z=>by cases z) λ _ _ z=>by cases z
      exact(((O.kt (c1.kt r)).app (.cons rt .nil))).kt kt
    · rcases qb5.mp ht with z|z
      · exact tok t' z
      · rw[qa3.mp z];exact tk
  · obtain⟨sx,_,n1,c1,d0,J,O,R,tok⟩:=M;refine⟨D,rfl,g,.inl ⟨SqL.of hv,New.of λ l X h2 r e2=>?_⟩⟩;have c2:=c1.same r;exact q l g J n1 X (λ b o U h=>r _ _ (sx _ _ U (λ z=>by rw[z,I]at h;cases h) h)) c2.ev d0 (SqT.of e2) (O.same r) R tok
inductive J1i(K:X0)(L:Nat)(vs:List V)(H:Hp)(Q:VK):Prop
 |mk(e:V0)(B:Hp)(S:ES)(na:V0)(own:Option V2)(n:Nat)(pf:Prop)(k:V2)(d:Int)(a1:vs=[.ref e,.str k,.int d])(a2:CA K H e B S na own n pf L)(a3:n+(1+4*dr L)<=1000000)(a4:k∈hns S.hs)(a5:Lv S.hs S.ff k d (L+1))(a6:∀v t n' H',SX e H H'->EnvAt H' e S na own n' pf->n'<=n+(1+4*dr L)->RT K H' v t.dat->TOk (L+1) t->Q v H'):J1i K L vs H Q
def Z4j(K:X0)(L:Nat):Sp:=λ a H Q _=>J1i K L a H Q
noncomputable def fiV(hs:List Ha)(ch:V2->List V2)(x:V2):V->Bool
 | .str y=>decide (y=x\/y∈hns hs/\x∈ch y)
 |_=>false
theorem CA.cn{K:X0}{H B:Hp}{e b:V0}{S:ES}{own:Option V2}{n L:Nat}{g:Prop}(c:CA K H e B S b own n g L):∀y∈hns S.hs,Cn S.hs y (S.ch y)/\(S.ch y).length<=100:=λ y a=>⟨(c.st.ok.cn y a).1,by have:=(c.st.ok.cn y a).2.1;omega⟩
theorem J5l(T:Txt K mg Cl Ct Cw Ch Cp){L:Nat}(G:Has P w K mg base 2 "_law_draw" ["_law_env"] (Z5Z K))(I:Has P w K mg base 2 "_law_fits" ["_law_halls_here","_law_kind","_law_wanted"] Z2T)(p:Has P w K mg base 2 "_law_fields" ["_law_halls_here","_law_house"] Z1V)(m:Has P w K mg base 3 "_law_is_plain" ["_law_halls_here","_law_house"] Z3Y)(u:Has P w K mg base (6*L+11) "_law_given" ["_law_env","_law_kinds","_law_depth"] (Z2N K L)):Has P w K mg base (6*L+12) "_law_make" ["_law_env","_law_wanted","_law_depth"] (Z4j K L):=by
  refine Has.of T.O0M O0j (λ _ _ _ _ _ _ us hl=>el3 us hl λ _ _ _=>rfl) (λ vs H Q E h=>?_) (λ f v0 A h0 s H vs Q E R h=>?_)
  · obtain⟨e,B',S,na,own,n,pf,k,d,rfl,_⟩:=h;rfl
  obtain⟨e,B',S,na,own,n,pf,k,d,rfl,c,hn,hk,lv,q⟩:=h;refine⟨_,(Z0a (Z1W (i:=3) O0j.nd rfl (Or.inr rfl) (Z0l (Z0r R) (pvF 0) Z0f (λ _ _=>rfl))) (Z0a (PS.melt (Z1y rfl O0j.nd (i:=4) rfl rfl (BlockOk.of (N:=["_law_house","_law_halls_here","_law_wanted"]) (nl:=[none,some 3,some 1]) (cl:=[("_law_wanted",s.heap.objs.size+1),("_law_halls_here",s.heap.objs.size+2)]) rfl qP qP rfl (sub2 rfl rfl) (nm:=["_law_wanted","_law_halls_here"]) rfl qP rfl (λ i hi j U=>by
            match i,hi with
            | 0,_=>cases U
             |1,_=>cases U;exact⟨_,rfl,rfl,rfl,.inl rfl⟩
             |2,_=>cases U;exact⟨_,rfl,rfl,rfl,.inl rfl⟩
            )) (Z2F (pvF 3)) (λ C O s H=>(qH 0 (show(["_law_house","_law_halls_here","_law_wanted"]:List V2).Nodup by decide+kernel))) (λ C O s H=>(Z3b (qF I R (qK (pvF 1) (pvF 0) (pvF 2))))) (λ C O s H=>(pvF 0)))) (Z0a (Z0E (qM Z9W (pvF 2) Z0c) (Z0d (Z1y rfl O0j.nd (i:=4) rfl rfl (BlockOk.of (N:=["_law_house","_law_halls_here"]) (nl:=[none,some 3]) (cl:=[("_law_halls_here",s.heap.objs.size+2)]) rfl qP qP rfl (sub1 rfl) (nm:=["_law_halls_here"]) rfl qP rfl (λ i hi j U=>by
            match i,hi with
            | 0,_=>cases U
             |1,_=>cases U;exact⟨_,rfl,rfl,rfl,.inl rfl⟩
            )) (Z0P (pvF 4)) (λ C O s H=>(qH 0 (show(["_law_house","_law_halls_here"]:List V2).Nodup by decide+kernel))) (λ C O s H=>(Z3b (qF m R (qJ (pvF 1) (pvF 0))))) (λ C O s H=>(pvF 0)))) Z0p) (Z0a (qG 5 O0j.nd (qD K (Z0i Z1l (pvF 4) (Z0t (qI (pvF 1)))) (Z0i Z0s (qF G R (qI (pvF 0))) (Z0i Z0R (qL T.z_len (qI (pvF 4))) Z0c)))) (Z0a (Z1D rfl O0j.nd (i:=6) rfl rfl (BlockOk.plain (N:=["_law_field"]) rfl qP qP qP) (Z0P (qF p R (qJ (pvF 3) (pvF 5)))) (λ C O s H=>(qH 0 (show(["_law_field"]:List V2).Nodup by decide+kernel))) (λ C O s H=>(qA K 0))) (Z0d (Z0j (Z0m (qK Z0f (pvF 5) (qF u R (qK (pvF 0) (pvF 6) (pvF 2)))))))))))),?_⟩
  have ok:=c.st.ok;refine seq6 λ w0 Y x0 Z i0 a0 y0 b0 z0 c0=>?_;walk_at "r";refine⟨_,c.get.1,?_⟩;subst c0;walk_at "r";refine J3c (Z3s none [some (.ref S.hd),some (.str k)] (fiV S.hs S.ch k) rfl c.ha.d rfl (by rw[Z1v c.ha.a,sizeLine_eq];have:=ok.le;omega) (λ y X o H2 H1 K' fz s1 kk=>?_) λ D H1 h1 s1 e1=>?_)
  · rw[Z0K c.ha.a]at X;obtain⟨y,d0,rfl⟩:=qb4.mp X;walk_at "r";exact⟨S.hd,y,k,S.ps,S.hs,S.ch,rfl,(c.ha.frz c.st.dj fz).same s1,ok.nd,c.cn,λ H3 J=>⟨_,rfl,kk _ J⟩⟩
  rw[Z0K c.ha.a,Z2h (q:=λ y=>decide (y=k\/y∈hns S.hs/\k∈S.ch y)) (λ _=>rfl)]at e1;have lf:=qe4 (λ y=>decide (y=k\/y∈hns S.hs/\k∈S.ch y)) (hns S.hs);rw[show(hns S.hs).length=S.hs.length from qa0 _]at lf;have A0:=ok.le;have fin:∀{H2:Hp}{sl:V0}(ss:List V2),Same H H2->H2 sl=some (.lst (ss.map V.str))->(∀x∈ss,x∈hns S.hs/\(1<=d\/∀g∈S.ff x,Sc g.2))->ss.length<=12->i0 {nx:=λ x H'=>Q V.non H',rt:=Q} [some (V.ref e),some (V.str k),some (V.int d),some (V.ref S.hd),some (V.ref sl),none,none] H2:=by
    intro H2 sl ss M e2 e0 B0;have c2:=c.same M;subst a0;walk_at "r";refine New.of λ p3 H3 h3 J e3=>⟨_,J _ _ e2,_,e3,by rw[qa0];show _+1<=_;omega,New.of λ p4 H4 h4 s4 e4=>?_⟩;have c4:=c2.same (J.trans s4);refine⟨e,B',S,na,own,n,pf,L,rfl,c4,qR,λ r H5 s5 j0=>?_⟩;have c5:=c4.go s5 j0;have f0:=(J.trans s4) _ _ e2;have k0:=s5 _ _ (c4.nel f0) f0;have l0:=s5 _ _ (c4.nel e4) e4;obtain⟨h,hm,ah⟩:=pick (ks:=ss++[k]) (by rw[qa5];exact qd1 Nat.zero_lt_one (Nat.le_add_left _ _)) (r:Int);rw[qc2,qa5,qa0,qi0]at ah;refine⟨_,.inl (SqL.of k0),_,rfl,qR,_,SqL.of l0,.str h,by rw[qa0];exact ah,?_⟩;have hh:h∈hns S.hs/\(1<=d\/(∀g∈S.ff h,Sc g.2)\/h=k):=by
      rcases qb5.mp hm with z|z
      · exact⟨(e0 h z).1,(e0 h z).2.imp_right .inl⟩
      · rw[qa3.mp z];exact⟨hk,.inr (.inr rfl)⟩
    have m0:=P70.fields_lv ok lv hk hh.1 hh.2;obtain⟨d1,d2,d3,d4⟩:=ok.cn h hh.1;have g0:SX e H H5:=λ b o nb q=>s5 _ _ nb ((M.trans (J.trans s4)) _ _ q);subst Z;walk_at "r";refine⟨S.hd,h,S.ps,S.hs,S.ch h,S.ff h,rfl,c5.ha,ok.nd,d1,qR,d3,qR,λ l6 us H6 h6 s6 e6 hu=>⟨l6,rfl,⟨_,SqL.of e6⟩,λ D7 n0=>?_⟩⟩;have lu:=hu.len;refine Z2A (ys:=us) none [] (λ j v _=>∃f,(S.ff h)[j]?=some f/\v=(λ g:V2×V2=>V.str g.2) f) (λ _ _ _ _ h _=>h) rfl n0 (by rw[sizeLine_eq];omega) (λ Hj sj=>SqL.of (sj _ _ e6)) (λ j y X Hj K' sj kk=>?_) (λ tv H7 s7 e7 o0 hR=>?_)
    · obtain⟨f,hf,tt,rfl,et⟩:=hu.at X;walk_at "r";exact⟨_,SqT.of (sj _ _ et),_,ix1,kk _ _ (Same.refl _) ⟨f,hf,rfl⟩⟩
    have ev:=Z3P (g:=λ g:V2×V2=>V.str g.2) (o0.trans lu) hR;rw[ev]at e7;have e7:H7 D7=some (.lst (((S.ff h).map Prod.snd).map V.str)):=by rw[e7,qd9];rfl
    have c7:=c5.same (s6.trans s7);subst Y;walk_at "r";have lk:((S.ff h).map Prod.snd).length<=4:=by rw[qa0];exact d4
    have lm:((S.ff h).map Prod.snd).length*dr L<=4*dr L:=qg3 _ lk;refine⟨e,B',S,na,own,n+1,pf,D7,(S.ff h).map Prod.snd,d,rfl,c7,e7,qR,qR,λ k' p0=>?_,λ a C0 ts n' H8 s8 q0 D0 r0 s0 G0 tok=>New.of λ t9 H9 h9 s9 e9=>q (.ref t9) (.mk .new (.str h) ts) n' H9 ?_ ?_ qR ?_ (TOk.mk' trivial tok qR)⟩
    · obtain⟨f,hf,rfl⟩:=qb4.mp p0;exact m0 f hf
    · exact λ b o nb h=>s9 _ _ (s8 _ _ nb ((s6.trans s7) _ _ (g0 _ _ nb h)))
    · obtain⟨t0,x1,x2⟩:=q0;exact⟨t0,s9 _ _ x1,x2⟩
    · exact .tup (SqT.of e9) (.cons (.str _) (.cons (.str _) (.cons (.tup (r0.same s9) (s0.same s9)) .nil)))
  subst b0;walk_at "r";refine ite2 (λ zd=>?_) (λ zd=>?_)
  · refine⟨⟨_,SqL.of e1⟩,λ D2 u0=>?_⟩;have c1:=c.same s1;refine Z3u (ys:=((hns S.hs).filter λ y=>decide (y=k\/y∈hns S.hs/\k∈S.ch y)).map V.str) none [some (.ref S.hd)] (plV S.hs S.ff) rfl u0 (by rw[qa0,sizeLine_eq];omega) (λ H2 M=>SqL.of (M _ _ e1)) (λ y X H2 K' M kk=>?_) (λ H2 M e2=>?_)
    · obtain⟨y,d0,rfl⟩:=qb4.mp X;obtain⟨d1,d2,d3,d4⟩:=ok.cn y (qc7.mp d0).1;walk_at "r";exact⟨S.hd,y,S.ps,S.hs,S.ch y,S.ff y,rfl,(c1.same M).ha,ok.nd,d1,qR,d3,qR,λ H3 J=>⟨_,rfl,kk _ J⟩⟩
    · rw[Z2h (q:=plP S.hs S.ff) (λ _=>rfl)]at e2;refine fin _ (s1.trans M) e2 (λ x hx=>?_) (qb9 (qe4 _ _) qR);obtain⟨x1,x2⟩:=qc7.mp hx;have xm:=(qc7.mp x1).1;refine⟨xm,.inr λ g hg=>(ok.fk x xm g hg).resolve_right λ z=>?_⟩;exact of_decide_eq_true (List.all_eq_true.mp x2 g hg) z.1
  · exact fin _ s1 e1 (λ x hx=>⟨(qc7.mp hx).1,.inl qR⟩) qR
inductive J1t(K:X0)(L:Nat)(vs:List V)(H:Hp)(Q:VK):Prop
 |mk(e:V0)(B:Hp)(S:ES)(na:V0)(own:Option V2)(n:Nat)(pf:Prop)(k:V2)(r:Nat)(a1:vs=[.ref e,.str k,.int r])(a2:CA K H e B S na own n pf L)(a3:n+(dr L-1)<=1000000)(a4:Rk S.hs S.ff k L)(a5:∀v t n' H',SX e H H'->EnvAt H' e S na own n' pf->n'<=n+(dr L-1)->RT K H' v t.dat->TOk L t->Q v H'):J1t K L vs H Q
def Z8b(K:X0)(L:Nat):Sp:=λ a H Q _=>J1t K L a H Q
def Lfs(K:X0)(H:Hp)(vs:List V):Prop:=∀v∈vs,∃t:Tm,RT K H v t.dat/\TOk 0 t
theorem Lfs.same{K:X0}{H H':Hp}{vs:List V}(h:Lfs K H vs)(s:Same H H'):Lfs K H' vs:=λ v c=>let⟨t,a,b⟩:=h v c;⟨t,a.same s,b⟩
theorem Lfs.put{K:X0}{H:Hp}{vs c:List V}{a:V0}{xs:List V}(h:Lfs K H vs)(e:H a=some (.lst xs)):Lfs K (upd H a (.lst c)) vs:=λ v g=>let⟨t,x,b⟩:=h v g;⟨t,x.kt (Kt.put _ e (λ _ z=>by cases z) λ _ _ z=>by cases z),b⟩
noncomputable def LKI(K:X0)(H:Hp)(kl sl:V0)(ms:List V2)(σ0:Option V->St)(i:Nat)(σ:St)(H':Hp):Prop:=∃a o,Same H H'/\H' kl=some (.lst a)/\a.length<=i/\Lfs K H' a/\H' sl=some (.lst (ms.map V.str))/\σ=σ0 o
theorem J2z{hs:List Ha}:∀{nk:List (Key×V)},(∀c∈nk,∃x k,c=(Sum.inr x,V.str k)/\KOk hs k)->∃g:List V2,(nk.map λ c=>kV c.1)=g.map V.str/\∀x∈g,∃k,valV nk (.inr x)=some (.str k)/\KOk hs k
 |[],_=>⟨[],rfl,λ x i=>by cases i⟩
 |c::nk,h=>by
  obtain⟨g,e,i⟩:=J2z (nk:=nk) λ q j=>h q (qb1 _ j);obtain⟨x,k,rfl,m⟩:=h c qa9;refine⟨x::g,by rw[qb8,e];rfl,λ y n=>?_⟩;by_cases z:x=y
  ·subst z;exact⟨k,Z0H rfl,m⟩
  ·rcases qa2.mp n with q|q
   ·exact absurd q.symm z
   ·obtain⟨o,a,b⟩:=i y q;exact⟨o,(Z0z (λ y=>z (Sum.inr.inj y))).trans a,b⟩
theorem J1S(T:Txt K mg Cl Ct Cw Ch Cp){L:Nat}{spM:Sp}(hM:∀L',L=L'+1->spM=Z4j K L')(p:Has P w K mg base 2 "_law_fits" ["_law_halls_here","_law_kind","_law_wanted"] Z2T)(C:Has P w K mg base (6*L+6) "_law_make" ["_law_env","_law_wanted","_law_depth"] spM):Has P w K mg base (6*L+7) "_law_leaf" ["_law_env","_law_kind","_law_cell"] (Z8b K L):=by
 refine Has.of T.O1k O0x (λ _ _ _ _ _ _ us hl=>el3 us hl λ _ _ _=>rfl) (λ D H Q E h=>?_) (λ f r0 A i0 s H D Q E G h=>?_)
 ·obtain⟨e,B',S,na,own,n,pf,k,r,rfl,_⟩:=h;rfl
 obtain⟨e,B',S,na,own,n,pf,k,r,rfl,c,hn,rk,q⟩:=h;refine⟨_,(Z0a (qG 3 O0x.nd (Z0t Z0W)) (Z0a (Z0T PassesOwn.never rfl (Z0P (Z1q (r:=Z8s) (Z8y rfl) rfl T.O0T Z4J (qI (Z0l (Z0r G) (pvF 0) Z0f (λ _ _=>rfl))))) (qH 4 O0x.nd) (Z0d (Z0E (Z3b (qF p G (qK (Z0l (Z0r G) (pvF 0) Z0f (λ _ _=>rfl)) (Z0l (Z0r G) (Z0l (Z0r G) (pvF 0) Z0f (λ _ _=>rfl)) (pvF 4) (λ _ _=>rfl)) (pvF 1)))) (Z0d (Z1a (Z2f qc9 qd7 qd8 Z0B (pvF 3) (qI (Z0m (qJ Z0f (pvF 4))))))) Z0p))) (Z0a (Z0E (PW.pt (Z3d (qM Z1A (Z0l (Z0r G) (pvF 0) Z0f (λ _ _=>rfl)) Z0V) (Z1Z (Z3b (qF p G (qK (Z0l (Z0r G) (pvF 0) Z0f (λ _ _=>rfl)) (Z0l (Z0r G) (pvF 0) Z0f (λ _ _=>rfl)) (pvF 1))))))) (Z0d (Z1a (Z2f qc9 qd7 qd8 Z0B (pvF 3) (qI (Z0m (qI Z0f)))))) Z0p) (Z0a (Z0E (PW.pt (Z3d (qM (r:=rNeN K) (J4P G.units) (pvF 3) (Z0t Z0W)) (Z1Z (PW.pt (J1Z (qM Z8a (Z0i Z0s (pvF 2) Z0c) Z0c) (Z8D (Z5v (Z4s (Z0r G) (pvF 1) (Z0l (Z0r G) (pvF 0) Z0f (λ _ _=>rfl))) (by with_unfolding_all rfl)))))))) (Z0d (Z0j (qD K (pvF 3) (Z0i Z0s (Z0i Z0x (pvF 2) Z0c) (qL T.z_len (qI (pvF 3))))))) Z0p) (Z0a (Z0E (qM Z2g (pvF 1) Z0f) (Z0d (Z0j (Z0m (qJ Z0f (Z0i Z0s (Z0i Z0x (pvF 2) Z0c) (qD K (Z0t (qK Z0c Z0c Z0c)) (Z0i Z0s (Z0i Z0x (pvF 2) Z0c) Z0c))))))) Z0p) (Z0a (Z0E (qM Z2g (pvF 1) Z0f) (Z0d (Z0j (Z0m (qJ Z0f (Z1z Z2g (Z0i Z0s (Z0i Z0x (pvF 2) Z0c) Z0c) Z0c (Z3f _)))))) Z0p) (Z0d (Z0j (qF C G (qK (pvF 0) (pvF 1) Z0c)))))))))),?_⟩;have ok:=c.st.ok;refine seq7 λ s0 a0 t0 b0 j0 c0 k0 d0 u0 e0 v0 f0=>?_;walk_at "r";refine New.of λ N H1 h1 s1 e1=>?_;have c1:=c.same s1;obtain⟨nk,n1,n2,n3⟩:=c1.nm;obtain⟨xs,k1,k2⟩:=J2z n3;have lx:xs.length=nk.length:=by
  have:=congrArg qd5 k1;rw[qa0,qa0]at this;exact this.symm
 subst f0;walk_at "r";refine⟨_,c1.get.2.2.2.2.2.1,_,rfl,_,.inl n1,xs,k1,qR,λ ms pm=>New.of λ sl H2 h2 s2 e2=>⟨⟨_,SqL.of e2⟩,?_⟩⟩;have w0:=pm.length_eq;have g0:H N=none:=h1;have m0:=s2 _ _ e1;have n0:N≠sl:=λ z=>by rw[<-z,e1]at h2;cases h2
 have S2:=s1.trans s2;refine Z1i (ms.map V.str) (LKI K H N sl ms λ o=>[some (V.ref e),some (V.str k),some (V.int r),some (V.ref N),o]) ⟨[],none,S2,m0,qa1 _,(λ v X=>by cases X),e2,rfl⟩ (λ i σ Y _ hI=>?_) (λ i y σ Y hy hI=>?_) (λ σ Y hI=>?_)
 ·obtain⟨D,o,_,_,_,_,a,_⟩:=hI;exact SqL.of a
 ·obtain⟨D,o,O,I,lv,Z,es,rfl⟩:=hI;rw[qa4]at hy;obtain⟨x,hx,rfl⟩:=qc1.mp hy;have y0:i<ms.length:=(qa7.mp hx).1;obtain⟨kx,v1,v2⟩:=k2 x (pm.mem_iff.mp (qb0 hx));have J:=c.same O;obtain⟨z0,A0,_⟩:=J.nm;have nn:Y na=some (.dK nk):=by
   obtain⟨B0,h0,_⟩:=c.nm;have:=s1 _ _ h0;rw[n1]at this;cases this;exact O _ _ h0
  walk_at "r";refine⟨_,J.get.1,_,J.get.2.2.2.2.2.1,_,rfl,_,.inl ⟨nk,.inr x,.inl nn,rfl,v1.symm⟩,S.hd,kx,k,S.ps,S.hs,S.ch,rfl,J.ha,ok.nd,J.cn,λ H3 u=>⟨_,rfl,ite2 (λ _=>?_) λ _=>?_⟩⟩
  ·refine⟨.inl ⟨rfl,_,SqL.of (u _ _ I)⟩,New.of λ tp H4 h4 m R=>⟨_,(u.trans m) _ _ I,qR,_,_,?_,Z0b,by rw[qa5];exact qg1 lv,?_,?_,rfl⟩⟩
   ·intro b o hb;rw[Z0e (Z0g hb g0)];exact(O.trans (u.trans m)) _ _ hb
   ·intro v X;rcases qb5.mp X with z|z
    ·exact((Z.same (u.trans m)).put ((u.trans m) _ _ I)) v z
    ·rw[qa3.mp z];refine⟨.mk .name (.str x) [],?_,TOk.leaf rfl⟩;exact .tup (SqT.of ((Z0e (λ y=>by rw[y,(u.trans m) _ _ I]at R;cases R)).trans R)) (.cons (.str _) (.cons (.str _) .nil))
   ·rw[Z0e n0.symm];exact(u.trans m) _ _ es
  ·exact⟨D,_,O.trans u,u _ _ I,Nat.le_succ_of_le lv,Z.same u,u _ _ es,rfl⟩
 ·obtain⟨D,o,O,I,lv,Z,es,rfl⟩:=hI;rw[qa0]at lv;have J:=c.same O;have fin:∀{H3:Hp}{D:List V},Same H H3->H3 N=some (.lst D)->D.length<=31->Lfs K H3 D->k0 {nx:=λ x Y=>Q V.non Y,rt:=Q} [some (V.ref e),some (V.str k),some (V.int r),some (V.ref N),o] H3:=by
   intro H3 D u e3 C0 o0;have c3:=c.same u;have M:∀{H4:Hp}{v:V}{t:Tm},Same H3 H4->RT K H4 v t.dat->TOk L t->Q v H4:=λ{H4 v t} m rt tk=>q v t n H4 (SX.of (u.trans m)) (c3.same m).ev (qg2 _ _) rt tk;have rest:∀{H4:Hp},Same H3 H4->j0 {nx:=λ x Y=>Q V.non Y,rt:=Q} [some (V.ref e),some (V.str k),some (V.int r),some (V.ref N),o] H4:=by
    intro H4 m;have c4:=c3.same m;subst c0;walk_at "r";refine ite2 (λ _=>New.of λ p5 H5 h5 s5 e5=>?_) λ z1=>?_
    ·obtain⟨x,x0,ax⟩:∃x:Int,0<x/\atI [V.int 7,V.int 1000000000,V.int 7] ((r:Int)/60%3)=some (.int x):=by
      rcases(show(r:Int)/60%3=0\/(r:Int)/60%3=1\/(r:Int)/60%3=2 by omega)with z|z|z
      ·rw[z];exact⟨7,qQ,rfl⟩
      ·rw[z];exact⟨1000000000,qQ,rfl⟩
      ·rw[z];exact⟨7,qQ,rfl⟩
     refine⟨_,SqL.of e5,_,ax,x,rfl,x0,New.of λ p6 H6 h6 s6 e6=>M (t:=.mk .number (.int ((r:Int)/4%x)) []) (m.trans (s5.trans s6)) ?_ (TOk.leaf rfl)⟩;exact .tup (SqT.of e6) (.cons (.str _) (.cons (.int _) .nil))
    subst b0;walk_at "r";refine ite2 (λ _=>?_) λ z2=>?_
    ·refine New.of λ p6 H6 h6 s6 e6=>M (t:=.mk .truth (.bl (decide ((r:Int)/4%2=1))) []) (m.trans s6) ?_ (TOk.leaf rfl);exact .tup (SqT.of e6) (.cons (.str _) (.cons (.bl _) .nil))
    subst a0;walk_at "r";have p0:¬Sc k:=λ z=>z.elim z1 z2;rcases rk with z|⟨km,z⟩
    ·exact absurd z p0
    obtain⟨L',rfl⟩:∃L',L=L'+1:=⟨L-1,qR⟩;rw[hM L' rfl];have D0:dr (L'+1)=3+6*dr L':=rfl;refine⟨e,B',S,na,own,n,pf,k,0,rfl,c4.down,qR,km,⟨.inr km,.inr ⟨qQ,.inr ⟨km,z⟩⟩⟩,λ v t n' H5 s5 q0 ln rt tk=>q v t n' H5 (λ b o nb h=>s5 _ _ nb ((u.trans m) _ _ h)) q0 qR rt tk⟩
   subst d0;walk_at "r";refine New.of λ p4 H4 h4 m R=>⟨_,SqL.of (m _ _ e3),SqL.of R,ite2 (λ z=>?_) λ _=>rest m⟩;have get:∃x,(SqL K H4 N x\/SqT K H4 N x)/\0<(x.length:Int)/\IxL K N ((r:Int)/4%(x.length:Int)) H4 Q:=by
    have l0:0<D.length:=by
     cases D with
     |nil=>cases z
     |cons=>exact qf2 _
    obtain⟨j,v,X,av⟩:=J0e l0 ((r:Int)/4);obtain⟨t,t1,t2⟩:=o0 v (qb0 X);exact⟨D,.inl (SqL.of (m _ _ e3)),qR,D,SqL.of (m _ _ e3),v,av,M m (t1.same m) (t2.le (qa6 _))⟩
   refine ite2 (λ _=>get) λ _=>⟨_,(c3.same m).get.1,_,rfl,?_⟩;obtain⟨oo,g,_⟩:=(c3.same m).ha.isIn k;exact⟨oo,g,ite2 (λ _=>get) λ _=>rest m⟩
  subst e0;walk_at "r";refine⟨_,J.get.2.2.2.2.2.2.1,ite2 (λ zo=>?_) λ _=>fin O I qR Z⟩;cases U:own with
  |none=>rw[U]at zo;exact absurd rfl zo
  |some ow=>
   refine⟨_,J.get.1,_,J.get.2.2.2.2.2.2.1,S.hd,ow,k,S.ps,S.hs,S.ch,by rw[U];rfl,J.ha,ok.nd,J.cn,λ H3 u=>⟨_,rfl,ite2 (λ _=>?_) λ _=>fin (O.trans u) (u _ _ I) qR (Z.same u)⟩⟩;refine⟨.inl ⟨rfl,_,SqL.of (u _ _ I)⟩,New.of λ tp H4 h4 m R=>⟨_,(u.trans m) _ _ I,qR,fin ?_ Z0b (by rw[qa5];show _+1<=_;omega) ?_⟩⟩
   ·intro b o hb;rw[Z0e (Z0g hb g0)];exact(O.trans (u.trans m)) _ _ hb
   ·intro v X;rcases qb5.mp X with z|z
    ·exact((Z.same (u.trans m)).put ((u.trans m) _ _ I)) v z
    ·rw[qa3.mp z];refine⟨.mk .self .non [],?_,TOk.leaf rfl⟩;exact .tup (SqT.of ((Z0e (λ y=>by rw[y,(u.trans m) _ _ I]at R;cases R)).trans R)) (.cons (.str _) .nil)
end K70
end
section
namespace K70
open PySem L2 TM WK
open P15 (Lb Fm Tm dats Z0I okF Ok maxD sumS flatR Bld)
open PW (Vl Wd Hs Pg Sc Wt Ws IxAt Look Chain Z1d Flds Z1h putS Z0D getS Z0y Two Step Z1f Z0w leaf)
seal L2.PE L2.PA L2.PT L2.PS L2.PSs L2.PG L2.PGs L2.PI L2.PW
open P23 (mkS)
open P70 (Ha hns Cn Fl Sc KOk HOk zS dr TOk Rk Lv HdOk)
structure SmE(S:ES)(B H:Hp)(v:V):Prop where
 p:∃tp pl x w kk,v=.ref tp/\H tp=some (.tup [.str x,.str w,.ref pl])/\B pl=some (.lst ((kk:List V2).map V.str))/\x∈hns S.hs/\kk.length<=4/\∀k∈kk,KOk S.hs k
def SmL(S:ES)(B H:Hp)(vs:List V):Prop:=∀v∈vs,SmE S B H v
theorem SmL.same{S:ES}{B H H':Hp}{vs:List V}(h:SmL S B H vs)(s:Same H H'):SmL S B H' vs:=λ v e=>let⟨g,i,x,w,j,a,b,c⟩:=(h v e).p;⟨g,i,x,w,j,a,s _ _ b,c⟩
theorem J1T{hs:List Ha}{ch:V2->List V2}{g:V2->List (V2×V2)}(ok:HOk hs ch g){h:Ha}(b:h∈hs){y:V2}(e:h.elder=some y):y∈hns hs:=by
 obtain⟨a,_,_,_⟩:=ok.cn h.name (qb6 b);obtain⟨j,m,i,c⟩:=a.at 0 h.name rfl;cases P70.one_of ok.nd m b i;rw[e]at c;exact a.mem.2 y (qb0 c.symm)
def ResO(K:X0)(H:Hp)(v:V)(L n n':Nat):Prop:=(v=.non/\n'=n)\/∃t:Tm,RT K H v t.dat/\TOk L t
inductive Z7b(K:X0)(L:Nat)(vs:List V)(H:Hp)(Q:VK):Prop
 |mk(e:V0)(B:Hp)(S:ES)(na:V0)(own:Option V2)(n:Nat)(pf:Prop)(k:V2)(d:Int)(r:Nat)(a1:vs=[.ref e,.str k,.int d,.int r])(a2:CA K H e B S na own n pf L)(a3:pf)(a4:n+5*dr L<=1000000)(a5:1<=d)(a6:Lv S.hs S.ff k d (L+1))(a7:∀v n' H',SX e H H'->EnvAt H' e S na own n' pf->n'<=n+5*dr L->ResO K H' v (L+1) n n'->Q v H'):Z7b K L vs H Q
def Z3j(K:X0)(L:Nat):Sp:=λ a H Q _=>Z7b K L a H Q
noncomputable def CKI(S:ES)(B H H1:Hp)(sl:V0)(b:Nat->Nat)(σ0:List (Option V)->St)(m:Nat)(i:Nat)(σ:St)(H':Hp):Prop:=∃c e,Same H H'/\(∀a o,a≠sl->H1 a=some o->H' a=some o)/\H' sl=some (.lst c)/\c.length<=b i/\SmL S B H' c/\e.length=m/\σ=σ0 e
theorem J0M(T:Txt K mg Cl Ct Cw Ch Cp){L:Nat}(C:Has P w K mg base 2 "_law_head" ["_law_halls_here","_law_house","_law_word"] Z4c)(D:Has P w K mg base 2 "_law_fits" ["_law_halls_here","_law_kind","_law_wanted"] Z2T)(G:Has P w K mg base (6*L+10) "_law_want" ["_law_env","_law_kind","_law_depth"] (Z2w K L))(m:Has P w K mg base (6*L+11) "_law_given" ["_law_env","_law_kinds","_law_depth"] (Z2N K L)):Has P w K mg base (6*L+12) "_law_called" ["_law_env","_law_kind","_law_depth","_law_cell"] (Z3j K L):=by
 refine Has.of T.O0F O0c (λ _ _ _ _ _ _ us U=>el4 us U λ _ _ _ _=>rfl) (λ J H Q E h=>?_) (λ f j1 A J0 s H J Q E M h=>?_)
 ·obtain⟨e,B',S,na,own,n,pf,k,d,r,rfl,_⟩:=h;rfl
 obtain⟨e,B',S,na,own,n,pf,k,d,r,rfl,c,i0,hn,j0,lv,q⟩:=h;refine⟨_,(Z0a (qG 4 O0c.nd (Z0l (Z0r M) (pvF 0) Z0f (λ _ _=>rfl))) (Z0a (qG 5 O0c.nd (Z0o (r:=Z5W) (Z1C rfl) rfl T.O0E Z3n (qI (pvF 4)))) (Z0a (Z0E (PW.pt (Z3d (qM Z1A (Z0l (Z0r M) (pvF 0) Z0f (λ _ _=>rfl)) Z0V) (Z3d (qM Z2g (Z0i Z0s (pvF 3) Z0c) Z0c) (Z1Z (qM Z1A (Z0l (Z0r M) (Z0l (Z0r M) (pvF 4) (Z0l (Z0r M) (pvF 0) Z0f (λ _ _=>rfl)) (λ _ _=>rfl)) Z0f (λ _ _=>rfl)) Z0V))))) (Z0d (qG 5 O0c.nd (Z0t (qI (Z0l (Z0r M) (Z0l (Z0r M) (pvF 4) (Z0l (Z0r M) (pvF 0) Z0f (λ _ _=>rfl)) (λ _ _=>rfl)) Z0f (λ _ _=>rfl)))))) Z0p) (Z0a (qG 6 O0c.nd (Z0t Z0W)) (Z0a (Z0T PassesOwn.never rfl (Z0P (pvF 5)) (qH 7 O0c.nd) (Z0d (Z0T PassesOwn.never rfl (Z0P (Z0l (Z0r M) (pvF 0) Z0f (λ _ _=>rfl))) (qH 8 O0c.nd) (Z0a (qG 9 O0c.nd (qF C M (qK (pvF 4) (pvF 7) (pvF 8)))) (Z0d (Z0E (PW.pt (Z3d (qM Z1A (pvF 9) Z0V) (Z1Z (Z3b (qF D M (qK (pvF 4) (qA K 9) (pvF 1))))))) (Z0d (Z1a (Z2f qc9 qd7 qd8 Z0B (pvF 6) (qI (Z0m (qK (pvF 7) (pvF 8) (qA K 9))))))) Z0p)))))) (Z0a (Z0E (qM (r:=rEqN K) (Z6x M.units) (pvF 6) (Z0t Z0W)) (Z0d (Z0j Z0V)) Z0p) (Z0a (Z3V (qD K (pvF 6) (Z0i Z0s (Z0i Z0x (pvF 3) Z0c) (qL T.z_len (qI (pvF 6))))) (Z2Y (n:=3) rfl (Z0u (qH 7 O0c.nd) (Z0u (qH 8 O0c.nd) (Z0u (qH 10 O0c.nd) Z2P))))) (Z0a (Z0E (qM Z2g (qL T.z_len (qI (pvF 5))) Z0c) (Z0d (Z0j (Z0m (qK Z0f (pvF 8) (qF m M (qK (pvF 0) (pvF 10) (pvF 2))))))) Z0p) (Z0a (qG 11 O0c.nd (qF G M (qK (pvF 0) (pvF 7) (Z0i Z3E (pvF 2) Z0c)))) (Z0d (Z0j (Z0m (Z0v Z0f (qK (pvF 11) (pvF 8) (qF m M (qK (pvF 0) (pvF 10) (pvF 2))))))))))))))))),?_⟩;have ok:=c.st.ok;have L0:=ok.le;refine J7v λ k1 k0 l1 m0 m1 n0 n1 o0 o1 p0 p1 r0 s0 u0 r1 v0 v1 w0=>?_;walk_at "r";refine⟨_,c.get.1,?_⟩;subst w0;walk_at "r";refine⟨_,c.ha.d,New.of λ U H1 h1 s1 e1=>?_⟩;rw[Z0K c.ha.a]at e1;have c1:=c.same s1;have fin:∀{H2:Hp}{U:V0}(xs:List V2),Same H H2->H2 U=some (.lst (xs.map V.str))->(∀x∈xs,x∈hns S.hs)->xs.length<=12->s0 {nx:=λ x H'=>Q V.non H',rt:=Q} [some (V.ref e),some (V.str k),some (V.int d),some (V.int r),some (V.ref S.hd),some (V.ref U),none,none,none,none,none,none] H2:=by
  intro H2 U xs s2 e2 M0 w1;subst u0;walk_at "r";refine New.of λ sl H3 h3 s3 e3=>?_;have S3:=s2.trans s3;have N0:H sl=none:=Z3l s2 h3;have c3:=c.same S3;have b0:=s3 _ _ e2;have x0:U≠sl:=λ z=>by rw[z,h3]at e2;cases e2
  subst r0;walk_at "r";refine⟨⟨_,SqL.of b0⟩,Z1i (xs.map V.str) (CKI S B' H H3 sl (λ i=>12*i) (λ u=>some (V.ref e)::some (V.str k)::some (V.int d)::some (V.int r)::some (V.ref S.hd)::some (V.ref U)::some (V.ref sl)::u) 5) ⟨[],[none,none,none,none,none],S3,λ a o _ h=>h,e3,qa1 _,(λ v hv=>by cases hv),rfl,rfl⟩ (λ i σ H' _ hI=>?_) (λ i y σ H' hy hI=>?_) (λ σ H' hI=>?_)⟩
  ·obtain⟨J,u,_,a,_⟩:=hI;exact SqL.of (a _ _ x0 b0)
  ·obtain⟨J,u,O,aI,ek,I,sm,N,rfl⟩:=hI;obtain⟨o7,o8,o9,y0,z0,rfl⟩:∃a b c d e,u=[a,b,c,d,e]:=by
    match u,N with
    |[a,b,c,d,e],_=>exact⟨a,b,c,d,e,rfl⟩
   rw[qa4]at hy;obtain⟨x,hx,rfl⟩:=qc1.mp hy;have xm:=M0 x (qb0 hx);have y1:i<xs.length:=(qa7.mp hx).1;have cI:=c.same O;obtain⟨A0,z1⟩:=c.st.pl i0;walk_at "r";refine⟨_,cI.get.2.2.2.2.2.2.2 i0,_,rfl,⟨_,A0.same cI.sm⟩,Z1i (S.pls.map V.str) (CKI S B' H H3 sl (λ j=>12*i+j) (λ u=>some (V.ref e)::some (V.str k)::some (V.int d)::some (V.int r)::some (V.ref S.hd)::some (V.ref U)::some (V.ref sl)::some (V.str x)::u) 4) ⟨J,_,O,aI,ek,I,sm,rfl,rfl⟩ (λ j σ H5 _ hJ=>?_) (λ j y σ H5 hy hJ=>?_) (λ σ H5 hJ=>?_)⟩
   ·obtain⟨J,u,O,_⟩:=hJ;exact A0.same (c.same O).sm
   ·obtain⟨J,u,O,aI,ek,I,sm,N,rfl⟩:=hJ;obtain⟨o8,o9,y0,z0,rfl⟩:∃a b c d,u=[a,b,c,d]:=by
     match u,N with
     |[a,b,c,d],_=>exact⟨a,b,c,d,rfl⟩
    rw[qa4]at hy;obtain⟨wd,hw,rfl⟩:=qc1.mp hy;have A1:j<S.pls.length:=(qa7.mp hw).1;have cJ:=c.same O;obtain⟨d1,d2,d3,d4⟩:=ok.cn x xm;refine seq2 λ B1 B0=>?_;walk_at "r";refine⟨S.hd,x,wd,S.ps,S.hs,S.ch x,B',rfl,c.st.ha,cJ.sm,ok.nd,d1,qR,λ v H6 R ho=>?_⟩;subst B0;walk_at "r";have c6:=cJ.same R;have no:∀{H7:Hp}{u:List (Option V)},u.length=4->Same H6 H7->CKI S B' H H3 sl (λ j=>12*i+j) (λ u=>some (V.ref e)::some (V.str k)::some (V.int d)::some (V.int r)::some (V.ref S.hd)::some (V.ref U)::some (V.ref sl)::some (V.str x)::u) 4 (j+1) (some (V.ref e)::some (V.str k)::some (V.int d)::some (V.int r)::some (V.ref S.hd)::some (V.ref U)::some (V.ref sl)::some (V.str x)::u) H7:=λ{H7 u} l4 Y=>⟨J,u,O.trans (R.trans Y),λ a o na h=>(R.trans Y) _ _ (aI _ _ na h),(R.trans Y) _ _ ek,by show _<=12*i+(j+1);have:J.length<=12*i+j:=I;omega,sm.same (R.trans Y),l4,rfl⟩;refine ite2 (λ zv=>?_) λ _=>no rfl (Same.refl _);obtain⟨O0,Q0,q0,q1,q2,t0,R0,rfl,u1,u2⟩:=ho.resolve_left zv;have t1:=c6.sm _ _ u1;have t2:=c6.sm _ _ u2;have C0:=(ok.hd O0 Q0).2 q0 q1;refine⟨_,rfl,_,SqT.of t1,_,ix1,S.hd,q0.2.2,k,S.ps,S.hs,S.ch,rfl,c6.ha,ok.nd,c6.cn,λ H7 Y=>⟨_,rfl,ite2 (λ _=>?_) λ _=>no rfl Y⟩⟩;have e7:=(R.trans Y) _ _ ek;refine⟨.inl ⟨rfl,_,SqL.of e7⟩,_,rfl,_,SqT.of (Y _ _ t1),_,ix0,New.of λ tp H8 h8 s8 e8=>⟨_,s8 _ _ e7,?_,J++[V.ref tp],_,?_,?_,Z0b,?_,?_,rfl,rfl⟩⟩
    ·have:J.length<=12*i+j:=I;omega
    ·intro b o hb;rw[Z0e (Z0g hb N0)];exact(O.trans (R.trans (Y.trans s8))) _ _ hb
    ·intro a o na h;rw[Z0e na];exact(R.trans (Y.trans s8)) _ _ (aI _ _ na h)
    ·rw[qa5];have:J.length<=12*i+j:=I;show _+1<=12*i+(j+1);omega
    ·have nt:∀{b:V0}{xs:List V},H8 b=some (.tup xs)->upd H8 sl (.lst (J++[V.ref tp])) b=some (.tup xs):=λ h=>(Z0e (λ z=>by rw[z,s8 _ _ e7]at h;cases h)).trans h;intro v hv;rcases qb5.mp hv with z|z
     ·obtain⟨S0,T0,x',w',kk,b1,b2,b3,b4⟩:=(sm v z).p;exact⟨S0,T0,x',w',kk,b1,nt ((R.trans (Y.trans s8)) _ _ b2),b3,b4⟩
     ·rw[qa3.mp z];exact⟨tp,R0,x,wd,q0.2.1,rfl,nt e8,u2,xm,C0.1,C0.2.1⟩
   ·obtain⟨J,u,O,aI,ek,I,sm,N,rfl⟩:=hJ;rw[qa0]at I;refine⟨J,_,O,aI,ek,?_,sm,congrArg (·+1) N,rfl⟩;have:J.length<=12*i+S.pls.length:=I;show _<=12*(i+1);omega
  ·obtain⟨J,u,O,aI,ek,I,sm,N,rfl⟩:=hI;obtain⟨o7,o8,o9,y0,z0,rfl⟩:∃a b c d e,u=[a,b,c,d,e]:=by
    match u,N with
    |[a,b,c,d,e],_=>exact⟨a,b,c,d,e,rfl⟩
   have cI:=c.same O;subst p0;walk_at "r";refine New.of λ p5 H5 h5 s5 e5=>⟨_,SqL.of (s5 _ _ ek),SqL.of e5,ite2 (λ _=>?_) λ z=>?_⟩
   ·exact q .non n H5 (SX.of (O.trans s5)) (cI.same s5).ev (qg2 _ _) (.inl ⟨rfl,rfl⟩)
   have l0:0<J.length:=by
    cases J with
    |nil=>exact absurd rfl z
    |cons=>exact qf2 _
   have c5:=cI.same s5;obtain⟨j,v,hv,av⟩:=J0e l0 ((r:Int)/3);obtain⟨tp,pl,x,wd,kk,rfl,b2,b3,b4,b5,b6⟩:=(sm v (qb0 hv)).p;have D0:=s5 _ _ ek;subst o0;walk_at "r";refine⟨_,.inl (SqL.of D0),qR,_,SqL.of D0,_,av,_,rfl,?_⟩;refine⟨_,SqT.of (s5 _ _ b2),rfl,_,_,rfl,_,_,rfl,_,_,rfl,rfl,?_⟩;have G0:∀k'∈kk,Lv S.hs S.ff k' (d-1) L:=λ k' U0=>lv.pred j0 (b6 k' U0);have lm:kk.length*dr L<=4*dr L:=qg3 _ b5;have Y0:=s5 _ _ (aI _ _ x0 b0);have c0:=c5.sm _ _ b3;have I0:=O.trans s5;subst n0;walk_at "r";refine⟨_,.inl (SqL.of Y0),ite2 (λ _=>?_) λ _=>?_⟩
   ·refine⟨e,B',S,na,own,n,pf,pl,kk,d,rfl,c5,c0,qR,qR,G0,λ a us ts n' H8 s8 d0 Z0 e0 f0 a1 tok=>New.of λ t9 H9 h9 s9 e9=>q (.ref t9) n' H9 ?_ ?_ qR (.inr ⟨.mk .elder (.str wd) ts,?_,TOk.mk' trivial tok qR⟩)⟩
    ·exact λ b o nb h=>s9 _ _ (s8 _ _ nb (I0 _ _ h))
    ·obtain⟨g0,x1,x2⟩:=d0;exact⟨g0,s9 _ _ x1,x2⟩
    ·exact .tup (SqT.of e9) (.cons (.str _) (.cons (.str _) (.cons (.tup (e0.same s9) (f0.same s9)) .nil)))
   subst m0;walk_at "r";refine⟨e,B',S,na,own,n,pf,x,d-1,rfl,c5,qR,lv.pred j0 (.inr b4),λ v t n' H6 R f1 C1 rt tk=>?_⟩;have c6:=c5.go R f1;have g1:=R _ _ (c5.nel c0) c0;subst k0;walk_at "r";refine⟨e,B',S,na,own,n',pf,pl,kk,d,rfl,c6,g1,qR,qR,G0,λ a us ts n2 H8 s8 d0 Z0 e0 f0 a1 tok=>New.of λ t9 H9 h9 s9 e9=>q (.ref t9) n2 H9 ?_ ?_ qR (.inr ⟨.mk .call (.str wd) (t::ts),?_,TOk.mk' (qg1 (qa6 _)) (λ p hp=>(qa2.mp hp).elim (λ z=>by rw[z];exact tk) (tok p)) (by show _+1<=5;omega)⟩)⟩
   ·exact λ b o nb h=>s9 _ _ (s8 _ _ nb (R _ _ nb (I0 _ _ h)))
   ·obtain⟨g0,x1,x2⟩:=d0;exact⟨g0,s9 _ _ x1,x2⟩
   ·exact .tup (SqT.of e9) (.cons (.str _) (.cons ((rt.kt (c6.kt s8)).same s9) (.cons (.str _) (.cons (.tup (e0.same s9) (f0.same s9)) .nil))))
 have all:s0 {nx:=λ x H'=>Q V.non H',rt:=Q} [some (V.ref e),some (V.str k),some (V.int d),some (V.int r),some (V.ref S.hd),some (V.ref U),none,none,none,none,none,none] H1:=fin (hns S.hs) s1 e1 (λ x hx=>hx) (by rw[show(hns S.hs).length=S.hs.length from qa0 _];exact L0);subst v0;walk_at "r";refine⟨_,c1.get.2.2.2.2.2.2.1,ite2 (λ zo=>ite2 (λ _=>?_) λ _=>all) λ _=>all⟩;cases Z:own with
 |none=>rw[Z]at zo;exact absurd rfl zo
 |some ow=>
  have a0:DGet H1 e (.str "own") (some (.str ow)):=by have:=c1.get.2.2.2.2.2.2.1;rw[Z]at this;exact this
  obtain⟨ix,X,hX,rfl⟩:=Z8f (c1.ow ow Z);obtain⟨p,hp,hA,g⟩:=c1.ha.ix ok.nd hX;refine⟨_,a0,_,g,_,rfl,_,hA.elder,ite2 (λ ze=>?_) λ _=>all⟩;cases h0:X.elder with
  |none=>rw[h0]at ze;exact absurd rfl ze
  |some y=>
   have i1:DGet H1 p.a (.str "elder") (some (.str y)):=by have:=hA.elder;rw[h0]at this;exact this
   exact⟨_,a0,_,g,_,rfl,_,i1,New.of λ D1 H2 h2 s2 e2=>fin [y] (s1.trans s2) e2 (λ x hx=>by rw[qa3.mp hx];exact J1T ok (qb0 hX) h0) (by show 1<=12;omega)⟩
structure FmE(S:ES)(H:Hp)(v:V):Prop where
 p:∃tp ft x f,v=.ref tp/\H tp=some (.tup [.str x,.ref ft])/\H ft=some (.tup [.str (f:V2×V2).1,.str f.2])/\x∈hns S.hs/\KOk S.hs f.2
def FmL(S:ES)(H:Hp)(vs:List V):Prop:=∀v∈vs,FmE S H v
theorem FmL.kt{S:ES}{H H':Hp}{vs:List V}(h:FmL S H vs)(s:∀b e,H b=some (.tup e)->H' b=some (.tup e)):FmL S H' vs:=λ v g=>let⟨i,j,x,f,a,b,c,d⟩:=(h v g).p;⟨i,j,x,f,a,s _ _ b,s _ _ c,d⟩
theorem Z7X:∀{ps:List Ad}{a:List Ha}{R:Ad->Ha->Prop}{i:Nat}{k:Key}{v:V},A2 R ps a->(kvs7 ps a)[i]?=some (k,v)->∃h∈a,k=.inr h.name
 |_,_,_,_,_,_,.nil,h=>by cases h
 |p::ps,h::a,_,0,_,_,.cons _ _,e=>by cases e;exact⟨h,qa9,rfl⟩
 |p::ps,h::a,_,i+1,_,_,.cons _ t,e=>by
  obtain⟨b,m,z⟩:=Z7X (i:=i) t e;exact⟨b,qb1 _ m,z⟩
noncomputable def TKI(S:ES)(H2:Hp)(sl:V0)(b:Nat->Nat)(σ0:List (Option V)->St)(m:Nat)(i:Nat)(σ:St)(H':Hp):Prop:=∃c e,(∀a o,a≠sl->H2 a=some o->H' a=some o)/\H' sl=some (.lst c)/\c.length<=b i/\FmL S H' c/\e.length=m/\σ=σ0 e
theorem Z9P(T:Txt K mg Cl Ct Cw Ch Cp){L:Nat}(C:Has P w K mg base 2 "_law_fields" ["_law_halls_here","_law_house"] Z1V)(m:Has P w K mg base 2 "_law_fits" ["_law_halls_here","_law_kind","_law_wanted"] Z2T)(g:Has P w K mg base (6*L+10) "_law_want" ["_law_env","_law_kind","_law_depth"] (Z2w K L)):Has P w K mg base (6*L+11) "_law_touched" ["_law_env","_law_kind","_law_depth","_law_cell"] (Z3j K L):=by
 refine Has.of T.O0C O0f (λ _ _ _ _ _ _ us hl=>el4 us hl λ _ _ _ _=>rfl) (λ vs H Q E h=>?_) (λ f U0 A y0 s H vs Q E hr h=>?_)
 ·obtain⟨e,B',S,G,own,n,pf,k,d,r,rfl,_⟩:=h;rfl
 obtain⟨e,B',S,G,own,n,pf,k,d,r,rfl,c,Y0,hn,d0,lv,q⟩:=h;refine⟨_,(Z0a (qG 4 O0f.nd (qB hr 0)) (Z0a (qG 5 O0f.nd (Z0t Z0W)) (Z0a (PS.melt (Z0T PassesOwn.never rfl (Z2F (pvF 4)) (qH 6 O0f.nd) (Z0d (Z0T PassesOwn.never rfl (Z0P (qF C hr (qJ (pvF 4) (pvF 6)))) (qH 7 O0f.nd) (Z0d (Z0E (PW.pt (J1Z (qM Z8a (Z0i Z0s (pvF 3) Z0c) Z0c) (Z8D (Z3b (qF m hr (qK (pvF 4) (qA K 7) (pvF 1))))))) (Z0d (Z1a (Z2f qc9 qd7 qd8 Z0B (pvF 5) (qI (Z0m (qJ (pvF 6) (pvF 7))))))) Z0p)))))) (Z0a (Z0E (qM (r:=rEqN K) (Z6x hr.units) (pvF 5) (Z0t Z0W)) (Z0d (Z0j Z0V)) Z0p) (Z0a (Z3V (qD K (pvF 5) (Z0i Z0s (Z0i Z0x (pvF 3) Z0c) (qL T.z_len (qI (pvF 5))))) (Z2Y (n:=2) rfl (Z0u (qH 6 O0f.nd) (Z0u (qH 7 O0f.nd) Z2P)))) (Z0a (qG 8 O0f.nd (qF g hr (qK (pvF 0) (pvF 6) (Z0i Z3E (pvF 2) Z0c)))) (Z0a (Z0E (qM Z2g (Z0i Z0s (pvF 3) Z0c) Z0c) (Z0d (Z0j (Z0m (qK Z0f (pvF 8) (qA K 7))))) Z0p) (Z0a (qG 9 O0f.nd (Z0m (Z0v Z0f (qK (pvF 8) (qA K 7) (qF g hr (qK (pvF 0) (qA K 7) (Z0i Z3E (pvF 2) Z0c))))))) (Z0a (Z0E (PW.pt (Z3d (qM Z2g (Z0i Z0s (Z0i Z0x (pvF 3) Z0c) Z0c) Z0c) (Z1Z (Z3b (qF m hr (qK (pvF 4) (qA K 7) (pvF 1))))))) (Z0d (Z0j (pvF 9))) Z0p) (Z0d (Z0j (Z0m (Z0v Z0f (qK Z0f (pvF 9) (qF g hr (qK (pvF 0) (pvF 1) (Z0i Z3E (pvF 2) Z0c))))))))))))))))),?_⟩;have ok:=c.st.ok;have Z0:=ok.le;refine seq9 λ a1 f0 b1 g0 f1 h0 g1 i0 i1 j0 j1 k0 k1 m0 l1 n0=>?_;walk_at "r";refine⟨_,c.get.1,?_⟩;subst n0;walk_at "r";refine New.of λ sl H1 h1 s1 e1=>?_;have c1:=c.same s1;subst m0;walk_at "r";refine forD rfl c1.ha.d λ o H2 N fz hN=>?_;have o0:=c.ha.frz c.st.dj (o:=o) (H2:=upd H S.hd (.frz o (.dK (kvs7 S.ps S.hs)))) ⟨Z0b,λ b n=>Z0e n⟩;have R:sl≠S.hd:=λ z=>by
  rcases c.ha.d with q|⟨o,q⟩
  ·rw[z,q]at h1;cases h1
  ·rw[z,q]at h1;cases h1
 have z0:H2 sl=some (.lst []):=(fz.r _ R).trans e1;have sF:∀{H':Hp},(∀a o,a≠sl->H2 a=some o->H' a=some o)->Same (upd H S.hd (.frz o (.dK (kvs7 S.ps S.hs)))) H':=λ{H'} J b u U=>by
  by_cases hb:b=S.hd
  ·subst hb;rw[Z0b]at U;cases U;exact J _ _ R.symm fz.f
  ·rw[Z0e hb]at U;exact J _ _ (λ z=>by rw[z,h1]at U;cases U) ((fz.r _ hb).trans (s1 _ _ U))
 refine Z5i (TKI S H2 sl (λ i=>4*i) (λ I=>some (V.ref e)::some (V.str k)::some (V.int d)::some (V.int r)::some (V.ref S.hd)::some (V.ref sl)::I) 4) ⟨[],[none,none,none,none],λ a o _ h=>h,z0,qa1 _,(λ v hv=>by cases hv),rfl,rfl⟩ (λ i σ H' _ hI=>?_) (λ i k' v σ H' hy hI=>?_) (λ σ H' hI=>?_)
 ·obtain⟨vs,I,a,_⟩:=hI;exact a _ _ R.symm fz.f
 ·obtain⟨vs,I,J,Z,M,sm,O,rfl⟩:=hI;obtain⟨o6,o7,o8,o9,rfl⟩:∃a b c d,I=[a,b,c,d]:=by
   match I,O with
   |[a,b,c,d],_=>exact⟨a,b,c,d,rfl⟩
  have m1:i<S.hs.length:=by have:=(qa7.mp hy).1;rw[Z1v c1.ha.a]at this;exact this
  obtain⟨X,hX,rfl⟩:=Z7X c1.ha.a hy;have xm:X.name∈hns S.hs:=qb6 hX;obtain⟨d1,d2,d3,d4⟩:=ok.cn X.name xm;walk_at "r";refine⟨S.hd,X.name,S.ps,S.hs,S.ch X.name,S.ff X.name,rfl,o0.same (sF J),ok.nd,d1,qR,d3,qR,λ l3 us H3 h3 s3 e3 hu=>⟨l3,rfl,⟨_,SqL.of e3⟩,?_⟩⟩;have lu:=hu.len;have A0:l3≠sl:=λ z=>by rw[z,Z]at h3;cases h3
  refine Z1i us (λ j σ H4=>(∀a o,a≠sl->H3 a=some o->H4 a=some o)/\TKI S H2 sl (λ j=>4*i+j) (λ I=>some (V.ref e)::some (V.str k)::some (V.int d)::some (V.int r)::some (V.ref S.hd)::some (V.ref sl)::some (V.str X.name)::I) 3 j σ H4) ⟨λ a o _ h=>h,vs,_,λ a o G h=>s3 _ _ (J _ _ G h),s3 _ _ Z,M,sm.kt (λ b xs h=>s3 _ _ h),rfl,rfl⟩ (λ j σ H4 _ hJ=>?_) (λ j y σ H4 hy hJ=>?_) (λ σ H4 hJ=>?_)
  ·exact SqL.of (hJ.1 _ _ A0 e3)
  ·obtain⟨a3,vs,I,J,Z,M,sm,O,rfl⟩:=hJ;obtain⟨o7,o8,o9,rfl⟩:∃a b c,I=[a,b,c]:=by
    match I,O with
    |[a,b,c],_=>exact⟨a,b,c,rfl⟩
   obtain⟨f,hf,ft,rfl,et⟩:=hu.at hy;have n1:j<us.length:=(qa7.mp hy).1;have M:vs.length<=4*i+j:=M;have p0:=a3 _ _ (λ z=>by rw[z,s3 _ _ ‹_›]at et;cases et) et;have kf:KOk S.hs f.2:=(ok.fk X.name xm f (qb0 hf)).imp_right λ z=>z.1;have put:∀{H5:Hp},Same H4 H5->tyV K "list" (V.ref sl) H5/\New H5 (HO.tup [V.str X.name,V.ref ft]) λ p H6=>∃x,H6 sl=some (HO.lst x)/\x.length<16777216/\(∀(a:V0)(o:HO),¬a=sl->H3 a=some o->upd H6 sl (HO.lst (x++[V.ref p])) a=some o)/\TKI S H2 sl (λ j=>4*i+j) (λ I=>some (V.ref e)::some (V.str k)::some (V.int d)::some (V.int r)::some (V.ref S.hd)::some (V.ref sl)::some (V.str X.name)::I) 3 (j+1) [some (V.ref e),some (V.str k),some (V.int d),some (V.int r),some (V.ref S.hd),some (V.ref sl),some (V.str X.name),some (V.ref ft),o8,o9] (upd H6 sl (HO.lst (x++[V.ref p]))):=λ{H5} D=>⟨.inl ⟨rfl,_,SqL.of (D _ _ Z)⟩,New.of λ tp H6 h6 s6 e6=>by
    have S6:=D.trans s6;have q0:=S6 _ _ Z;have nt:∀b xs,H6 b=some (.tup xs)->upd H6 sl (.lst (vs++[V.ref tp])) b=some (.tup xs):=λ b xs h=>(Z0e (λ z=>by rw[z,q0]at h;cases h)).trans h;refine⟨vs,q0,qR,λ a o G h=>?_,vs++[V.ref tp],_,λ a o G h=>?_,Z0b,?_,?_,rfl,rfl⟩
    ·rw[Z0e G];exact S6 _ _ (a3 _ _ G h)
    ·rw[Z0e G];exact S6 _ _ (J _ _ G h)
    ·rw[qa5];show _+1<=4*i+(j+1);omega
    ·intro v hv;rcases qb5.mp hv with z|z
     ·exact(sm.kt λ b xs h=>nt _ _ (S6 _ _ h)) v z
     ·rw[qa3.mp z];exact⟨tp,ft,X.name,f,rfl,nt _ _ e6,nt _ _ (S6 _ _ p0),xm,kf⟩⟩
   walk_at "r";refine ite2 (λ _=>put (Same.refl _)) λ _=>⟨_,SqT.of p0,_,ix1,S.hd,f.2,k,S.ps,S.hs,S.ch,rfl,o0.same (sF J),ok.nd,c.cn,λ H5 D=>⟨_,rfl,ite2 (λ _=>put D) λ _=>⟨λ a o G h=>D _ _ (a3 _ _ G h),vs,_,λ a o G h=>D _ _ (J _ _ G h),D _ _ Z,by show _<=4*i+(j+1);omega,sm.kt (λ b xs h=>D _ _ h),rfl,rfl⟩⟩⟩
  ·obtain⟨a3,vs,I,J,Z,M,sm,O,rfl⟩:=hJ;refine⟨vs,_,J,Z,?_,sm,congrArg (·+1) O,rfl⟩;have:vs.length<=4*i+us.length:=M;show _<=4*(i+1);omega
 ·obtain⟨vs,I,J,Z,M,sm,O,rfl⟩:=hI;obtain⟨o6,o7,o8,o9,rfl⟩:∃a b c d,I=[a,b,c,d]:=by
   match I,O with
   |[a,b,c,d],_=>exact⟨a,b,c,d,rfl⟩
  refine hN _ _ (J _ _ R.symm fz.f) λ H4 mz=>?_;have s4:Same H H4:=λ b u U=>by
   by_cases hb:b=S.hd
   ·subst hb;rw[mz.e];exact s1 _ _ U
   ·rw[mz.r b hb];exact J _ _ (λ z=>by rw[z,h1]at U;cases U) ((fz.r _ hb).trans (s1 _ _ U))
  have r0:H4 sl=some (.lst vs):=(mz.r _ R).trans Z;have B0:FmL S H4 vs:=sm.kt λ b xs h=>(mz.r _ (λ z=>by rw[z,J _ _ R.symm fz.f]at h;cases h)).trans h;have c4:=c.same s4;subst k0;walk_at "r";refine New.of λ p5 H5 h5 D e5=>⟨_,SqL.of (D _ _ r0),SqL.of e5,ite2 (λ _=>?_) λ z=>?_⟩
  ·exact q .non n H5 (SX.of (s4.trans D)) (c4.same D).ev (qg2 _ _) (.inl ⟨rfl,rfl⟩)
  have l0:0<vs.length:=by
   cases vs with
   |nil=>exact absurd rfl z
   |cons=>exact qf2 _
  have c5:=c4.same D;obtain⟨j,v,hv,av⟩:=J0e l0 ((r:Int)/3);obtain⟨tp,ft,x,f,rfl,b2,b3,b4,b5⟩:=(B0 v (qb0 hv)).p;have s0:=D _ _ r0;subst j0;walk_at "r";refine⟨_,.inl (SqL.of s0),qR,_,SqL.of s0,_,av,_,rfl,_,SqT.of (D _ _ b2),rfl,_,_,rfl,_,_,rfl,rfl,?_⟩;have C0:=D _ _ b3;subst i0;walk_at "r";refine⟨e,B',S,G,own,n,pf,x,d-1,rfl,c5,qR,lv.pred d0 (.inr b4),λ v t n6 H6 s6 D0 o1 rt tk=>?_⟩;have c6:=c5.go s6 D0;have a0:=(c5.kt s6).t _ _ C0;have t0:SX e H H6:=λ b o Y h=>s6 _ _ Y ((s4.trans D) _ _ h);subst h0;walk_at "r";refine ite2 (λ _=>⟨_,SqT.of a0,_,ix0,New.of λ t7 H7 h7 s7 e7=>q (.ref t7) n6 H7 (λ b o Y h=>s7 _ _ (t0 _ _ Y h)) (c6.same s7).ev qR (.inr ⟨.mk .field (.str f.1) [t],.tup (SqT.of e7) (.cons (.str _) (.cons (rt.same s7) (.cons (.str _) .nil))),TOk.mk' rfl (λ p hp=>by rw[qa3.mp hp];exact tk) (by show 1<=5;omega)⟩)⟩) λ _=>?_;subst g0;walk_at "r";refine⟨_,SqT.of a0,_,ix0,_,SqT.of a0,_,ix1,e,B',S,G,own,n6,pf,f.2,d-1,rfl,c6,qR,lv.pred d0 b5,λ v2 t2 n7 H7 s7 G0 p1 I0 u0=>New.of λ t8 H8 h8 s8 e8=>?_⟩;have c8:=(c6.go s7 G0).same s8;have v0:SX e H H8:=λ b o Y h=>s8 _ _ (s7 _ _ Y (t0 _ _ Y h));have J0:=(rt.kt (c6.kt s7)).same s8;have w0:=I0.same s8;have c0:RT K H8 (.ref t8) (P15.Tm.mk .set (.str f.1) [t,t2]).dat:=.tup (SqT.of e8) (.cons (.str _) (.cons J0 (.cons (.str _) (.cons w0 .nil))));have L0:=s8 _ _ ((c6.kt s7).t _ _ a0);have last:∀{H9:Hp},Same H8 H9->Z2w K L [V.ref e,V.str k,V.int (d-1)] H9 (λ x H1=>New H1 (HO.tup [V.str (Str.ofString "two"),V.str (Str.ofString ";"),V.ref t8,x]) λ p H2=>Q (V.ref p) H2) E0:=λ{H9} s9=>⟨e,B',S,G,own,n7,pf,k,d-1,rfl,c8.same s9,qR,lv.pred d0 lv.1,λ v3 t3 M0 q1 e0 x0 T0 N0 O0=>New.of λ Q0 R0 r1 b0 S0=>q (.ref Q0) M0 R0 (λ b o Y h=>b0 _ _ (e0 _ _ Y (s9 _ _ (v0 _ _ Y h)))) (((c8.same s9).go e0 x0).same b0).ev qR (.inr ⟨.mk .two (.str ";") [.mk .set (.str f.1) [t,t2],t3],.tup (SqT.of S0) (.cons (.str _) (.cons (.str _) (.cons (((c0.same s9).kt ((c8.same s9).kt e0)).same b0) (.cons (N0.same b0) .nil)))),TOk.set2 tk u0 O0⟩)⟩;subst f0;walk_at "r";refine ite2 (λ _=>⟨_,SqT.of L0,_,ix1,S.hd,f.2,k,S.ps,S.hs,S.ch,rfl,c8.ha,ok.nd,c.cn,λ H9 s9=>⟨_,rfl,ite2 (λ _=>?_) λ _=>last s9⟩⟩) λ _=>last (Same.refl _);refine q (.ref t8) n7 H9 (λ b o Y h=>s9 _ _ (v0 _ _ Y h)) (c8.same s9).ev qR (.inr ⟨_,c0.same s9,TOk.mk' rfl (λ p hp=>?_) (by show 2<=5;omega)⟩);rcases qa2.mp hp with z|z
  ·rw[z];exact tk
  ·rw[qa3.mp z];exact u0
inductive J0L(K:X0)(L:Nat)(vs:List V)(H:Hp)(Q:VK):Prop
 |mk(e:V0)(B:Hp)(S:ES)(na:V0)(own:Option V2)(n:Nat)(pf:Prop)(k:V2)(d:Int)(r:Nat)(a1:vs=[.ref e,.str k,.int d,.int r])(a2:CA K H e B S na own n pf (L+1))(a3:n+(1+5*dr L)<=1000000)(a4:1<=d)(a5:Lv S.hs S.ff k d (L+1))(a6:∀v t n' H',SX e H H'->EnvAt H' e S na own n' pf->n'<=n+(1+5*dr L)->RT K H' v t.dat->TOk (L+1) t->Q v H'):J0L K L vs H Q
def Z4O(K:X0)(L:Nat):Sp:=λ a H Q _=>J0L K L a H Q
section
variable{K:X0}{H H' B:Hp}{e na:V0}{S:ES}{own:Option V2}{n n' L:Nat}{pf:Prop}
theorem J6O(c:CA K H e B S na own n pf L)(z:Int):∃x,atI (S.lts.map V.str) (z%4)=some (.str x):=by
 obtain⟨m,a⟩:=qh1 (qe7 z (show(4:Int)≠0 by decide));have b:=qf6 z (show(0:Int)<4 by decide);rw[a]at b ⊢;have g:m<S.lts.length:=by rw[c.st.l4];omega
 exact⟨S.lts[m],Z1w (by rw[qa4,qa8 g];rfl)⟩
theorem J1l{kvs:List (Key×V)}{k:Key}{v:V}{a:Key×V}(h:a∈putK kvs k v):a∈kvs\/a=(k,v):=by
 unfold putK at h;split at h
 ·obtain⟨q,b,rfl⟩:=qb4.mp h;by_cases z:q.1=k
  ·right;rw[if_pos z,z]
  ·left;rw[if_neg z];exact b
 ·exact(qb5.mp h).imp_right λ z=>qa3.mp z
theorem CA.names(c:CA K H e B S na own n pf L)(b:V0){kvs:List (Key×V)}(h:H e=some (.dK kvs)):EnvAt (upd H e (.dK (putK kvs (.inr "names") (.ref b)))) e S b own n pf/\kvs.length<sizeLine:=by
 obtain⟨g,i,v⟩:=c.ev;rw[h]at i;cases i;have a:∀{x:V2}{u:V},¬(Sum.inr x:Key)=.inr "names"->valV kvs (.inr x)=some u->valV (putK kvs (.inr "names") (.ref b)) (.inr x)=some u:=λ{x u} z q=>by rw[Z0N,if_neg z];exact q
 exact⟨⟨_,Z0b,by rw[Z6b v.x];exact v.le,a qS v.h,a qS v.s,a qS v.n,let⟨m,q⟩:=v.m;⟨m,a qS q⟩,a qS v.l,by rw[Z0N,if_pos rfl],a qS v.o,λ q=>a qS (v.p q)⟩,by rw[sizeLine_eq];have:=v.le;have:=S.cp.2;omega⟩
end
theorem J6e(T:Txt K mg Cl Ct Cw Ch Cp){L:Nat}(g:Has P w K mg base (6*L+10) "_law_want" ["_law_env","_law_kind","_law_depth"] (Z2w K L)):Has P w K mg base (6*L+11) "_law_let" ["_law_env","_law_kind","_law_depth","_law_cell"] (Z4O K L):=by
 refine Has.of T.O0R O0p (λ _ _ _ _ _ _ us hl=>el4 us hl λ _ _ _ _=>rfl) (λ vs H Q E h=>?_) (λ f B0 A o0 s H vs Q E C h=>?_)
 ·obtain⟨e,I,S,na,own,n,pf,k,d,r,rfl,_⟩:=h;rfl
 obtain⟨e,I,S,na,own,n,pf,k,d,r,rfl,c,hn,O,lv,q⟩:=h;refine⟨_,(Z0a (qG 4 O0p.nd (Z0i Z1l (Z0t (qJ Z0f Z0f)) (Z0o (r:=Z5W) (Z1C rfl) rfl T.O0E Z3n (qI (Z0l (Z0r C) (pvF 0) Z0f (λ _ _=>rfl)))))) (Z0a (qG 5 O0p.nd (qD K (pvF 4) (Z0i Z0s (Z0i Z0x (pvF 3) Z0c) (qL T.z_len (qI (pvF 4)))))) (Z0a (qG 6 O0p.nd (qF g C (qK (pvF 0) (pvF 5) (Z0i Z3E (pvF 2) Z0c)))) (Z0a (qG 7 O0p.nd (Z0l (Z0r C) (pvF 0) Z0f (λ _ _=>rfl))) (Z0a (Z1g (Z0r C) (pvF 0) Z0f (Z0o Z9M rfl T.O1u Z7T (qI (pvF 7))) rfl) (Z0a (Z1g (Z0r C) (Z0l (Z0r C) (pvF 0) Z0f (λ _ _=>rfl)) (qD K (Z0l (Z0r C) (pvF 0) Z0f (λ _ _=>rfl)) (Z0i Z0s (pvF 3) Z0c)) (pvF 5) rfl) (Z0a (qG 8 O0p.nd (qF g C (qK (pvF 0) (pvF 1) (Z0i Z3E (pvF 2) Z0c)))) (Z0a (Z1g (Z0r C) (pvF 0) Z0f (pvF 7) rfl) (Z0d (Z0j (Z0m (Z0v Z0f (qK (qD K (Z0l (Z0r C) (pvF 0) Z0f (λ _ _=>rfl)) (Z0i Z0s (pvF 3) Z0c)) (pvF 6) (pvF 8)))))))))))))),?_⟩;have ok:=c.st.ok;have C0:=ok.le;refine seq9 λ D0 R G0 U I0 X J0 Y L0 Z M0 a0 N0 b0 O0 c0=>?_;walk_at "r";refine New.of λ p1 H1 h1 s1 e1=>⟨_,(c.same s1).get.1,_,rfl,_,(c.same s1).ha.d,New.of λ p2 H2 h2 s2 e2=>?_⟩;rw[Z0K c.ha.a]at e2;refine⟨_,s2 _ _ e1,_,e2,by rw[qa0];show 2+(S.hs.map Ha.name).length<=_;rw[qa0];omega,New.of λ kl H3 h3 s3 e3=>?_⟩;have S3:=s1.trans (s2.trans s3);have c3:=c.same S3;obtain⟨kb,mb,ab⟩:=pick (ks:=("number":V2)::("truth":V2)::hns S.hs) (qf2 _) ((r:Int)/4);have d0:KOk S.hs kb:=by
  rcases qa2.mp mb with z|z
  ·exact .inl (.inl z)
  rcases qa2.mp z with z|z
  ·exact .inl (.inr z)
  ·exact .inr z
 have e3:H3 kl=some (.lst ((("number":V2)::("truth":V2)::hns S.hs).map V.str)):=e3;subst c0;walk_at "r";refine⟨_,.inl (SqL.of e3),by rw[qa0];show(0:Int)<((_+1:Nat):Int);omega,_,SqL.of e3,_,ab,?_⟩;subst b0;walk_at "r";refine⟨e,I,S,na,own,n,pf,kb,d-1,rfl,c3.down,qR,lv.pred O d0,λ v1 t1 n4 H4 s4 p0 Q0 q0 r0=>?_⟩;have J:=c3.go s4 p0;have e0:SX e H H4:=λ b o j h=>s4 _ _ j (S3 _ _ h);subst a0;walk_at "r";refine⟨_,J.get.2.2.2.2.2.1,?_⟩;subst Z;walk_at "r";obtain⟨x,n1,n2,n3⟩:=J.nm;refine⟨x,n1,λ j m=>?_⟩;have s5:=Z0n m (.dK x);have e5:upd H4 j (.dK x) j=some (.dK x):=Z0b;generalize upd H4 j (.dK x)=H5 at*;have c5:=J.same s5;obtain⟨f0,g0,_⟩:=c5.ev;obtain⟨s0,t0⟩:=c5.names j g0;have D:j≠e:=λ z=>by obtain⟨kv,h,_⟩:=J.ev;rw[z,h]at m;cases m
 have R0:j≠na:=λ z=>by rw[z,n1]at m;cases m
 have u0:I j=none:=Z3l J.sm m;refine⟨_,DPut.k (k:=.inr "names") g0 t0,?_⟩;have v:SX e H5 (upd H5 e (.dK (putK f0 (.inr "names") (.ref j)))):=SX.put _;have e6:=v _ _ D e5;generalize upd H5 e (.dK (putK f0 (.inr "names") (.ref j)))=M at*;have N:CA K M e I S j own n4 pf (L+1):=⟨c.st,λ b o h=>v _ _ (λ z=>by rw[z,c.st.e0]at h;cases h) (c5.sm _ _ h),s0,⟨x,e6,n2,n3⟩,D,c.lp,c.ow⟩;subst Y;walk_at "r";obtain⟨G,ax⟩:=J6O N (r:Int);refine⟨_,N.get.2.2.2.2.2.1,_,N.get.2.2.2.2.1,_,rfl,_,N.la,_,ax,_,rfl,_,DPut.k (k:=.inr G) e6 (by rw[sizeLine_eq];omega),?_⟩;have y:∀b o,b≠j->M b=some o->upd M j (.dK (putK x (.inr G) (.str kb))) b=some o:=λ b o n h=>by rw[Z0e n];exact h
 have e7:upd M j (.dK (putK x (.inr G) (.str kb))) j=some (.dK (putK x (.inr G) (.str kb))):=Z0b;generalize upd M j (.dK (putK x (.inr G) (.str kb)))=H7 at*;have S0:=Z1k x (.inr G) (.str kb);have c7:CA K H7 e I S j own n4 pf L:=⟨c.st,λ b o h=>y _ _ (Z0g h u0) (N.sm _ _ h),let⟨kv,a,b⟩:=N.ev;⟨kv,y _ _ D.symm a,b⟩,⟨_,e7,qR,λ kv hkv=>(J1l hkv).elim (n3 kv) λ z=>⟨G,kb,z,d0⟩⟩,D,λ h=>c.lp qR,c.ow⟩;have T0:M na=some (.dK x):=v _ _ J.ne (s5 _ _ n1);have h0:∀b o,b≠e->H b=some o->H7 b=some o:=λ b o u h=>y _ _ (λ z=>by have:=e0 _ _ u h;rw[z,m]at this;cases this) (v _ _ u (s5 _ _ (e0 _ _ u h)));have v0:Kt H4 H7:=⟨λ b xs h=>y _ _ (λ z=>by rw[z,m]at h;cases h) ((c5.kt v).t _ _ (s5 _ _ h)),λ b o xs h=>y _ _ (λ z=>by rw[z,m]at h;cases h) ((c5.kt v).z _ _ _ (s5 _ _ h))⟩;subst X;walk_at "r";refine⟨e,I,S,j,own,n4,pf,k,d-1,rfl,c7,qR,lv.pred O lv.1,λ v2 t2 n8 H8 s8 w0 U0 x0 y0=>?_⟩;have c8:=c7.go s8 w0;have i0:=(q0.kt v0).kt (c7.kt s8);subst U;walk_at "r";obtain⟨j0,k0,_⟩:=c8.ev;obtain⟨z0,A0⟩:=c8.names na k0;refine⟨_,DPut.k (k:=.inr "names") k0 A0,?_⟩;have l0:SX e H8 (upd H8 e (.dK (putK j0 (.inr "names") (.ref na)))):=SX.put _;have m0:=c8.kt l0;generalize upd H8 e (.dK (putK j0 (.inr "names") (.ref na)))=H9 at*;have n0:SX e H H9:=λ b o u h=>l0 _ _ u (s8 _ _ u (h0 _ _ u h));have c9:CA K H9 e I S na own n8 pf (L+1):=c.go n0 z0;subst R;walk_at "r";refine⟨_,c9.get.2.2.2.2.1,_,rfl,_,c9.la,_,ax,New.of λ tr HA hA sA eA=>?_⟩;refine q (.ref tr) (.mk .lt (.str G) [t1,t2]) n8 HA (λ b o u h=>sA _ _ (n0 _ _ u h)) (c9.same sA).ev qR (.tup (SqT.of eA) (.cons (.str _) (.cons (.str _) (.cons ((i0.kt m0).same sA) (.cons ((x0.kt m0).same sA) .nil))))) (TOk.mk' rfl (λ p hp=>?_) (by show 2<=5;omega));rcases qa2.mp hp with z|z
 ·rw[z];exact r0
 ·rw[qa3.mp z];exact y0
theorem J2R:(Str.ofString "+-*/").cps.toList.length=4:=by decide+kernel
theorem J5K(z:Int):∃x,atI (Str.ofString "+-*/").cps.toList (z%4)=some x:=by
 obtain⟨m,a⟩:=qh1 (qe7 z (show(4:Int)≠0 by decide));have b:=qf6 z (show(0:Int)<4 by decide);rw[a]at b ⊢;have c:m<(Str.ofString "+-*/").cps.toList.length:=by rw[J2R];omega
 exact⟨_,Z1w (qa8 c)⟩
theorem J5O(T:Txt K mg Cl Ct Cw Ch Cp){L:Nat}(m:Has P w K mg base (6*L+10) "_law_want" ["_law_env","_law_kind","_law_depth"] (Z2w K L))(j:Has P w K mg base (6*L+11) "_law_given" ["_law_env","_law_kinds","_law_depth"] (Z2N K L))(u:Has P w K mg base (6*L+12) "_law_make" ["_law_env","_law_wanted","_law_depth"] (Z4j K L)):Has P w K mg base (6*L+13) "_law_own" ["_law_env","_law_kind","_law_depth","_law_cell"] (Z4O K L):=by
 refine Has.of T.O0S O0k (λ _ _ _ _ _ _ us hl=>el4 us hl λ _ _ _ _=>rfl) (λ vs H Q E h=>?_) (λ f v0 A i0 s H vs Q E C h=>?_)
 ·obtain⟨e,B',S,na,own,n,pf,k,d,r,rfl,_⟩:=h;rfl
 obtain⟨e,B',S,na,own,n,pf,k,d,r,rfl,c,hn,U,X,q⟩:=h;refine⟨_,(Z0a (Z0E (Z5v (Z4s (Z0r C) (pvF 1) (Z0l (Z0r C) (pvF 0) Z0f (λ _ _=>rfl))) (by with_unfolding_all rfl)) (Z0d (Z0j (qF u C (qK (pvF 0) (pvF 1) (pvF 2))))) Z0p) (Z0a (Z0E (PW.pt (Z3d (qM Z2g (pvF 1) Z0f) (Z1Z (qM Z2g (Z0i Z0s (pvF 3) Z0c) Z0c)))) (Z0d (Z0j (Z0m (qJ Z0f (qF m C (qK (pvF 0) (pvF 1) (Z0i Z3E (pvF 2) Z0c))))))) Z0p) (Z0a (qG 4 O0k.nd (Z8A Z8Q Z0f (Z0i Z0s (pvF 3) Z0c) (λ _ _=>rfl))) (Z0a (Z0E (qM Z2g (pvF 1) Z0f) (Z0a (qG 5 O0k.nd (Z0i Z1l (Z0t (qK Z0f Z0f Z0f)) (Z0o (r:=Z5W) (Z1C rfl) rfl T.O0E Z3n (qI (Z0l (Z0r C) (pvF 0) Z0f (λ _ _=>rfl)))))) (Z0a (qG 1 O0k.nd (qD K (pvF 5) (Z0i Z0s (Z0i Z0x (pvF 3) Z0c) (qL T.z_len (qI (pvF 5)))))) (Z0d (qG 4 O0k.nd (qD K (Z0t (qJ Z0f Z0f)) (Z0o Z2z rfl T.z_int Z5r (qI (J2E (Z1z Z2g (pvF 1) Z0f (Z3f _)) (Z8H (Z1z Z8a (Z0i Z0s (pvF 3) Z0c) Z0c (Z3f _))))))))))) Z0p) (Z0a (qG 5 O0k.nd (Z0i Z1l (Z0t (qI (pvF 1))) (Z0i J0W (Z0o (r:=Z5W) (Z1C rfl) rfl T.O0E Z3n (qI (Z0l (Z0r C) (pvF 0) Z0f (λ _ _=>rfl)))) (Z0o Z2z rfl T.z_int Z5r (qI (J4w (Z4s (Z0r C) (pvF 1) (Z0l (Z0r C) (pvF 0) Z0f (λ _ _=>rfl))) (by with_unfolding_all rfl))))))) (Z0a (qG 6 O0k.nd (qD K (pvF 5) (Z0i Z0s (Z0i Z0x (pvF 3) Z0c) (qL T.z_len (qI (pvF 5)))))) (Z0d (Z0j (Z0i (r:=Z5I K) Z3i (Z0m (qJ Z0f (pvF 4))) (qF j C (qK (pvF 0) (Z0t (qJ (pvF 1) (pvF 6))) (pvF 2)))))))))))),?_⟩;have ok:=c.st.ok;have Y:=ok.le;have j0:=Z0K c.ha.a;refine seq7 λ w0 Z x0 a0 k0 b0 y0 c0 m0 d0 z0 e0=>?_;walk_at "r";refine⟨_,c.get.1,_,rfl,?_⟩;obtain⟨o,g,ho⟩:=c.ha.isIn k;refine⟨o,g,?_⟩;rw[ho];by_cases hk:k∈hns S.hs
 ·rw[if_pos (decide_eq_true hk)];exact⟨e,B',S,na,own,n,pf,k,d,rfl,c.down,qR,hk,X,λ v t n' H' s ev ln rt tk=>q v t n' H' s ev qR rt tk⟩
 rw[if_neg (λ z=>hk (of_decide_eq_true z))];have rest:m0 {nx:=λ x H'=>Q V.non H',rt:=Q} [some (V.ref e),some (V.str k),some (V.int d),some (V.int r),none,none,none] H:=by
  obtain⟨sx,as⟩:=J5K (r:Int);subst d0;walk_at "r";refine⟨qP,sx,as,?_⟩;have fin:∀{H2:Hp}{o5:Option V}(G sg:V2),Same H H2->KOk S.hs G->k0 {nx:=λ x H'=>Q V.non H',rt:=Q} [some (V.ref e),some (V.str G),some (V.int d),some (V.int r),some (V.str sg),o5,none] H2:=by
   intro H2 o5 G sg D f0;have c2:=c.same D;subst b0;walk_at "r";refine New.of λ p1 H3 h3 M N=>⟨_,(c2.same M).get.1,_,rfl,_,(c2.same M).ha.d,New.of λ p4 H4 h4 s4 O=>?_⟩;rw[Z0K c2.ha.a]at O;have c4:=c2.same (M.trans s4);obtain⟨o2,g2,A0⟩:=c4.ha.isIn G;refine⟨_,c4.get.1,_,rfl,o2,g2,.inr ⟨_,O,by split<;>decide,by split<;>decide,?_,λ p5 h5=>?_⟩⟩
   ·have l0:((hns S.hs).map V.str).length<=12:=by rw[qa0,show(hns S.hs).length=S.hs.length from qa0 _];exact Y
    have:(if o2.isSome=true then(1:Int)else 0).toNat<=1:=by split<;>decide
    have:=Nat.mul_le_mul l0 this;omega
   obtain⟨y,n0,o0,B0⟩:∃y:List V2,(qc8 (if o2.isSome=true then(1:Int)else 0).toNat ((hns S.hs).map V.str)).flatten=y.map V.str/\(∀x∈y,x∈hns S.hs)/\y.length<=12:=by
    split
    ·exact⟨hns S.hs,by simp[qc8],λ x hx=>hx,by rw[show(hns S.hs).length=S.hs.length from qa0 _];exact Y⟩
    ·exact⟨[],rfl,(λ x hx=>by cases hx),qa6 _⟩
   rw[n0];have s5:=Z0n h5 (.lst (y.map V.str));have e5:upd H4 p5 (.lst (y.map V.str)) p5=some (.lst (y.map V.str)):=Z0b;generalize upd H4 p5 (.lst (y.map V.str))=H5 at*;refine⟨_,(s4.trans s5) _ _ N,_,e5,by rw[qa0];show 1+_<=_;omega,New.of λ p6 H6 h6 s6 e6=>?_⟩;have S6:=M.trans (s4.trans (s5.trans s6));have c6:=c2.same S6;obtain⟨k3,m3,a3⟩:=pick (ks:=G::y) (qf2 _) ((r:Int)/28);have e6:H6 p6=some (.lst ((G::y).map V.str)):=e6;have p0:KOk S.hs k3:=(qa2.mp m3).elim (λ z=>by rw[z];exact f0) λ z=>.inr (o0 k3 z);subst a0;walk_at "r";refine⟨_,.inl (SqL.of e6),by rw[qa0];show(0:Int)<((_+1:Nat):Int);omega,_,SqL.of e6,_,a3,?_⟩;subst Z;walk_at "r";refine New.of λ p7 H7 h7 s7 e7=>New.of λ p8 H8 h8 s8 e8=>?_;have c8:=c6.same (s7.trans s8);have e8:H8 p8=some (.lst ([G,k3].map V.str)):=e8;refine⟨e,B',S,na,own,n,pf,p8,[G,k3],d,rfl,c8.down,e8,by show 2<=5;omega,by show n+2*dr L<=_;omega,λ k' q0=>X.pred U ?_,λ a us ts n9 H9 s9 r0 g0 s0 h0 I tok=>?_⟩
   ·rcases qa2.mp q0 with z|z
    ·rw[z];exact f0
    ·rw[qa3.mp z];exact p0
   have g0:n9<=n+2*dr L:=g0;have t7:=(c8.kt s9).t _ _ (s8 _ _ e7);have C0:us.length=2:=by rw[h0.length,Z1b,I];rfl
   refine⟨p7,a,_,_,rfl,rfl,SqT.of t7,s0,by rw[sizeLine_eq];show 2+us.length<=_;omega,λ pr HA sA eA=>q (.ref pr) (.mk .two (.str sg) ts) n9 HA ?_ ?_ qR (.tup eA ?_) (TOk.mk' I tok (by rw[I];show 2<=5;omega))⟩
   ·exact λ b o nb h=>sA _ _ (s9 _ _ nb ((S6.trans (s7.trans s8)) _ _ (D _ _ h)))
   ·obtain⟨t0,x1,x2⟩:=r0;exact⟨t0,sA _ _ x1,x2⟩
   ·exact .cons (.str _) (.cons (.str _) (h0.same sA))
  subst c0;walk_at "r";refine ite2 (λ zt=>?_) λ _=>fin k _ (Same.refl _) X.1;refine New.of λ p1 H1 h1 R e1=>⟨_,(c.same R).get.1,_,rfl,_,(c.same R).ha.d,New.of λ p2 H2 h2 D e2=>?_⟩;rw[j0]at e2;refine⟨_,D _ _ e1,_,e2,by rw[qa0];show 3+(S.hs.map Ha.name).length<=_;rw[qa0];omega,New.of λ p3 H3 h3 M N=>?_⟩;obtain⟨kb,mb,ab⟩:=pick (ks:=("number":V2)::("number":V2)::("truth":V2)::hns S.hs) (qf2 _) ((r:Int)/4);have J:KOk S.hs kb:=by
   rcases qa2.mp mb with z|z
   ·exact .inl (.inl z)
   rcases qa2.mp z with z|z
   ·exact .inl (.inl z)
   rcases qa2.mp z with z|z
   ·exact .inl (.inr z)
   ·exact .inr z
  have N:H3 p3=some (.lst ((("number":V2)::("number":V2)::("truth":V2)::hns S.hs).map V.str)):=N;refine⟨_,.inl (SqL.of N),by rw[qa0];show(0:Int)<((_+1:Nat):Int);omega,_,SqL.of N,_,ab,New.of λ p4 H4 h4 s4 O=>⟨rfl,?_⟩⟩;have S4:=R.trans (D.trans (M.trans s4));refine ite2 (λ _=>.inr ?_) λ _=>.inr ⟨_,SqL.of O,_,ix0,fin kb _ S4 J⟩;by_cases z:1<(r:Int)%4
  ·rw[if_pos z];exact⟨_,SqL.of O,_,ix1,fin kb _ S4 J⟩
  ·rw[if_neg z];exact⟨_,SqL.of O,_,ix0,fin kb _ S4 J⟩
 subst e0;walk_at "r";refine ite2 (λ zt=>ite2 (λ _=>?_) λ _=>rest) λ _=>rest;exact⟨e,B',S,na,own,n,pf,k,d-1,rfl,c.down,qR,X.pred U X.1,λ v t n1 H1 R u0 D0 rt tk=>New.of λ tr H2 h2 D e2=>q (.ref tr) (.mk .nt .non [t]) n1 H2 (λ b o nb h=>D _ _ (R _ _ nb h)) ((c.go R u0).same D).ev qR (.tup (SqT.of e2) (.cons (.str _) (.cons (rt.same D) .nil))) (TOk.mk' rfl (λ p hp=>by rw[qa3.mp hp];exact tk) (by show 1<=5;omega))⟩
theorem J1y(T:Txt K mg Cl Ct Cw Ch Cp){L:Nat}{a0 b0 c0 d0 e0:Sp}(hS:∀L',L=L'+1->a0=Z2N K L'/\b0=Z4O K L'/\c0=Z3j K L'/\d0=Z3j K L'/\e0=Z4O K L')(u:Has P w K mg base 2 "_law_draw" ["_law_env"] (Z5Z K))(y:Has P w K mg base (6*L+7) "_law_leaf" ["_law_env","_law_kind","_law_cell"] (Z8b K L))(p:Has P w K mg base (6*L+5) "_law_given" ["_law_env","_law_kinds","_law_depth"] a0)(C:Has P w K mg base (6*L+5) "_law_let" ["_law_env","_law_kind","_law_depth","_law_cell"] b0)(g:Has P w K mg base (6*L+5) "_law_touched" ["_law_env","_law_kind","_law_depth","_law_cell"] c0)(j:Has P w K mg base (6*L+6) "_law_called" ["_law_env","_law_kind","_law_depth","_law_cell"] d0)(D:Has P w K mg base (6*L+7) "_law_own" ["_law_env","_law_kind","_law_depth","_law_cell"] e0):Has P w K mg base (6*L+10) "_law_want" ["_law_env","_law_kind","_law_depth"] (Z2w K L):=by
 refine Has.of T.O1l O0l (λ _ _ _ _ _ _ us hl=>el3 us hl λ _ _ _=>rfl) (λ vs H Q E h=>?_) (λ f A0 A s0 s H vs Q E J h=>?_)
 ·obtain⟨e,B',S,O,own,n,pf,k,d,rfl,_⟩:=h;rfl
 obtain⟨e,B',S,O,own,n,pf,k,d,rfl,c,hn,M,q⟩:=h;refine⟨_,(Z0a (qG 3 O0l.nd (qF u J (qI (pvF 0)))) (Z0a (qG 4 O0l.nd (Z0i Z0s (pvF 3) Z0c)) (Z0a (qG 3 O0l.nd (Z0i Z0x (pvF 3) Z0c)) (Z0a (Z0E (PW.pt (J1Z (qM Z9W (pvF 2) Z0c) (J1Z (qM Z8a (Z0l (Z0r J) (pvF 0) Z0f (λ _ _=>rfl)) (Z1q (Z6z rfl) rfl T.z_min J4X (qJ (Z0l (Z0r J) (pvF 0) Z0f (λ _ _=>rfl)) Z0c))) (Z8D (qM Z2g (pvF 4) Z0c))))) (Z0d (Z0j (qF y J (qK (pvF 0) (pvF 1) (pvF 3))))) Z0p) (Z0a (qG 5 O0l.nd Z0V) (Z0a (Z0E (qM Z2g (pvF 4) Z0c) (Z0d (Z0j (Z0i (r:=Z5I K) Z3i (Z0m (qI Z0f)) (qF p J (qK (pvF 0) (Z0t (qK Z0f (pvF 1) (pvF 1))) (pvF 2)))))) Z0p) (Z0a (Z0E (qM Z2g (pvF 4) Z0c) (Z0d (Z0j (qF C J (Z0v (pvF 0) (qK (pvF 1) (pvF 2) (pvF 3)))))) Z0p) (Z0a (Z0E (qM Z9W (pvF 4) Z0c) (Z0d (qG 5 O0l.nd (qF g J (Z0v (pvF 0) (qK (pvF 1) (pvF 2) (pvF 3)))))) (Z0d (Z0E (qM Z9W (pvF 4) Z0c) (Z0d (qG 5 O0l.nd (qF j J (Z0v (pvF 0) (qK (pvF 1) (pvF 2) (pvF 3)))))) Z0p))) (Z0a (Z0E (qM J4T (pvF 5) Z0V) (Z0d (Z0j (qF D J (Z0v (pvF 0) (qK (pvF 1) (pvF 2) (pvF 3)))))) Z0p) (Z0d (Z0j (pvF 5)))))))))))),?_⟩;have ok:=c.st.ok;have dp:=P70.dr_pos L;refine J7v λ B0 f0 g0 h0 C0 i0 D0 j0 G0 k0 I0 l0 J0 m0 L0 n0 M0 o0=>?_;walk_at "r";refine⟨e,B',S,O,own,n,pf,L,rfl,c,qR,λ r0 H1 s1 X=>?_⟩;have c1:=c.go s1 X;subst o0;walk_at "r";subst n0;walk_at "r";obtain⟨r,t0⟩:∃r:Nat,(r0:Int)/9=r:=⟨r0/9,rfl⟩;rw[t0];have rk:Rk S.hs S.ff k L:=by
  rcases M.2 with⟨a,b⟩|⟨_,b⟩
  ·exact M.1.imp_right λ m=>⟨m,.inr qR⟩
  ·exact b
 have leaf:Z8b K L [V.ref e,V.str k,V.int (r:Int)] H1 Q E0:=⟨e,B',S,O,own,n+1,pf,k,r,rfl,c1,qR,rk,λ v t n' R s' G ln rt tk=>q v t n' R (s1.trans s') G qR rt tk⟩;subst m0;walk_at "r";refine ite2 (λ _=>leaf) λ zd=>?_;obtain⟨mm,gm⟩:=c1.get.2.2.2.1;refine⟨_,c1.get.2.2.1,_,gm,_,rfl,_,rfl,ite2 (λ _=>leaf) λ _=>ite2 (λ _=>leaf) λ _=>?_⟩;have Y:1<=d:=by omega
 obtain⟨L',rfl⟩:∃L',L=L'+1:=by
  rcases M.2 with⟨a,b⟩|⟨a,_⟩
  ·exact⟨L-1,qR⟩
  ·omega
 obtain⟨rfl,rfl,rfl,rfl,rfl⟩:=hS L' rfl;have u0:pf:=c.lp (by rcases M.2 with⟨a,b⟩|⟨a,_⟩<;>omega);have N0:dr (L'+1)=3+6*dr L':=rfl;have U:∀{H2:Hp}{I:Nat},SX e H H2->EnvAt H2 e S O own I pf->I<=n+1->Z4O K L' [V.ref e,V.str k,V.int d,V.int (r:Int)] H2 Q E0:=λ{H2 I} s2 N v0=>⟨e,B',S,O,own,I,pf,k,d,r,rfl,c.go s2 N,qR,Y,M,λ v t n' R s' G ln rt tk=>q v t n' R (s2.trans s') G qR rt tk⟩;subst l0;walk_at "r";subst k0;walk_at "r";refine ite2 (λ _=>?_) λ z1=>?_
 ·refine New.of λ p7 H7 h7 s7 e7=>New.of λ p8 H8 h8 s8 e8=>?_;have c8:=c1.same (s7.trans s8);have e8:H8 p8=some (.lst ([("truth":V2),k,k].map V.str)):=e8;refine⟨e,B',S,O,own,n+1,pf,p8,[("truth":V2),k,k],d,rfl,c8.down,e8,by show 3<=5;omega,by show n+1+3*dr L'<=_;omega,λ k' w0=>M.pred Y ?_,λ a us ts n9 H9 s9 x0 p0 y0 q0 Z tok=>?_⟩
  ·rcases qa2.mp w0 with z|z
   ·rw[z];exact .inl (.inr rfl)
   rcases qa2.mp z with z|z
   ·rw[z];exact M.1
   ·rw[qa3.mp z];exact M.1
  have p0:n9<=n+1+3*dr L':=p0;have t7:=(c8.kt s9).t _ _ (s8 _ _ e7);have O0:us.length=3:=by rw[q0.length,Z1b,Z];rfl
  refine⟨p7,a,_,_,rfl,rfl,SqT.of t7,y0,by rw[sizeLine_eq];show 1+us.length<=_;omega,λ pr HA sA eA=>q (.ref pr) (.mk .iff .non ts) n9 HA ?_ ?_ qR (.tup eA ?_) (TOk.mk' Z tok (by rw[Z];show 3<=5;omega))⟩
  ·exact λ b o nb h=>sA _ _ (s9 _ _ nb ((s7.trans s8) _ _ (s1 _ _ nb h)))
  ·obtain⟨z0,x1,x2⟩:=x0;exact⟨z0,sA _ _ x1,x2⟩
  ·exact .cons (.str _) (q0.same sA)
 subst j0;walk_at "r";refine ite2 (λ _=>U s1 X (qa1 _)) λ z2=>?_;have fin:∀{H2:Hp}{v:V}{I:Nat},SX e H1 H2->EnvAt H2 e S O own I pf->I<=n+1+5*dr L'->ResO K H2 v (L'+1) (n+1) I->g0 {nx:=λ x R=>Q V.non R,rt:=Q} [some (V.ref e),some (V.str k),some (V.int d),some (V.int r),some (V.int ((r0:Int)%9)),some v] H2:=by
  intro H2 v I s2 N v0 ro;subst h0;walk_at "r";rcases ro with⟨rfl,rfl⟩|⟨t,rt,tk⟩
  ·exact ite2 (λ _=>U (s1.trans s2) N (qa1 _)) λ z=>absurd rfl z
  ·obtain⟨a,rfl⟩:∃a,v=.ref a:=by
    cases t with
    |mk f l ps=>obtain⟨a,xs,e,_⟩:=RT.tup_inv rt;exact⟨a,e⟩
   refine ite2 (λ z=>by cases z) λ _=>?_;subst f0;walk_at "r";exact q _ t I H2 (s1.trans s2) N qR rt tk
 have two:Z3j K L' [V.ref e,V.str k,V.int d,V.int (r:Int)] H1 (λ x H1=>g0 {nx:=λ x R=>Q V.non R,rt:=Q} [some (V.ref e),some (V.str k),some (V.int d),some (V.int r),some (V.int ((r0:Int)%9)),some x] H1) E0:=⟨e,B',S,O,own,n+1,pf,k,d,r,rfl,c1.down,u0,qR,Y,M,λ v n' R s' G ln ro=>fin s' G ln ro⟩;subst i0;walk_at "r";exact ite2 (λ _=>two) λ _=>ite2 (λ _=>two) λ _=>fin (λ _ _ _ h=>h) X qR (.inl ⟨rfl,rfl⟩)
def spF:Sp:=λ _ _ _ _=>False
structure Ws(P:Program)(w:M2)(K:X0)(mg:V2->Option V1)(base:V3)(L:Nat):Prop where
 want:Has P w K mg base (6*L+10) "_law_want" ["_law_env","_law_kind","_law_depth"] (Z2w K L)
 given:Has P w K mg base (6*L+11) "_law_given" ["_law_env","_law_kinds","_law_depth"] (Z2N K L)
 make:Has P w K mg base (6*L+12) "_law_make" ["_law_env","_law_wanted","_law_depth"] (Z4j K L)
theorem J6Q(T:Txt K mg Cl Ct Cw Ch Cp)(b:Has P w K mg base 2 "_law_draw" ["_law_env"] (Z5Z K))(i:Has P w K mg base 2 "_law_head" ["_law_halls_here","_law_house","_law_word"] Z4c)(a:Has P w K mg base 2 "_law_fits" ["_law_halls_here","_law_kind","_law_wanted"] Z2T)(c:Has P w K mg base 2 "_law_fields" ["_law_halls_here","_law_house"] Z1V)(e:Has P w K mg base 3 "_law_is_plain" ["_law_halls_here","_law_house"] Z3Y):∀L,Ws P w K mg base L:=by
 have go:∀L,Has P w K mg base (6*L+10) "_law_want" ["_law_env","_law_kind","_law_depth"] (Z2w K L)->Ws P w K mg base L:=λ L u=>by
  have v:=J2S T u;exact⟨u,v,J5l T b a c e v⟩
 intro L;induction L with
 |zero=>
  refine go 0 ?_;have x:Has P w K mg base 5 "_law_given" ["_law_env","_law_kinds","_law_depth"] spF:=Has.of T.O0I Z4h (λ _ _ _ _ _ _ j m=>el3 j m λ _ _ _=>rfl) (λ n H Q E h=>h.elim) (λ f o A g s H n Q E q h=>h.elim);have y:Has P w K mg base 5 "_law_let" ["_law_env","_law_kind","_law_depth","_law_cell"] spF:=Has.of T.O0R O0p (λ _ _ _ _ _ _ j m=>el4 j m λ _ _ _ _=>rfl) (λ n H Q E h=>h.elim) (λ f o A g s H n Q E q h=>h.elim);have z:Has P w K mg base 5 "_law_touched" ["_law_env","_law_kind","_law_depth","_law_cell"] spF:=Has.of T.O0C O0f (λ _ _ _ _ _ _ j m=>el4 j m λ _ _ _ _=>rfl) (λ n H Q E h=>h.elim) (λ f o A g s H n Q E q h=>h.elim);have C:Has P w K mg base 6 "_law_called" ["_law_env","_law_kind","_law_depth","_law_cell"] spF:=Has.of T.O0F O0c (λ _ _ _ _ _ _ j m=>el4 j m λ _ _ _ _=>rfl) (λ n H Q E h=>h.elim) (λ f o A g s H n Q E q h=>h.elim);have D:Has P w K mg base 7 "_law_own" ["_law_env","_law_kind","_law_depth","_law_cell"] spF:=Has.of T.O0S O0k (λ _ _ _ _ _ _ j m=>el4 j m λ _ _ _ _=>rfl) (λ n H Q E h=>h.elim) (λ f o A g s H n Q E q h=>h.elim);have G:Has P w K mg base 6 "_law_make" ["_law_env","_law_wanted","_law_depth"] spF:=Has.of T.O0M O0j (λ _ _ _ _ _ _ j m=>el3 j m λ _ _ _=>rfl) (λ n H Q E h=>h.elim) (λ f o A g s H n Q E q h=>h.elim);exact J1y T (L:=0) (λ r h=>absurd h (Nat.succ_ne_zero _).symm) b (J1S T (L:=0) (spM:=spF) (λ r h=>absurd h (Nat.succ_ne_zero _).symm) a G) x y z C D
 |succ L p=>
  refine go (L+1) ?_;have I:Has P w K mg base (6*(L+1)+6) "_law_make" ["_law_env","_law_wanted","_law_depth"] (Z4j K L):=p.make;exact J1y T (L:=L+1) (λ r h=>by cases h;exact⟨rfl,rfl,rfl,rfl,rfl⟩) b (J1S T (L:=L+1) (λ r h=>by cases h;rfl) a I) p.given (J6e T p.want) (Z9P T c a p.want) (J0M T i a p.want p.given) (J5O T p.want p.given p.make)
noncomputable def has1(kvs:List (Key×V))(x:V2):Nat:=if(valV kvs (.inr x)).isSome=true then 1 else 0
structure EvW(kvs:List (Key×V))(S:ES)(n:Nat)(pf:Prop):Prop where
 le:kvs.length<=16+S.cp.val+(has1 kvs "names"+has1 kvs "own")
 h:valV kvs (.inr "halls")=some (.ref S.hd)
 s:valV kvs (.inr "script")=some (.ref S.sc)
 n:valV kvs (.inr "spot")=some (.int n)
 m:∃m,valV kvs (.inr "most")=some (.int m)
 l:valV kvs (.inr "lets")=some (.ref S.la)
 p:pf->valV kvs (.inr "pool")=some (.ref S.pl)
def EwA(H:Hp)(e:V0)(S:ES)(n:Nat)(pf:Prop):Prop:=∃a,H e=some (.dK a)/\EvW a S n pf
theorem EvK.w{kvs:List (Key×V)}{S:ES}{a:V0}{own:Option V2}{n:Nat}{pf:Prop}(v:EvK kvs S a own n pf):EvW kvs S n pf:=
 ⟨by unfold has1;rw[v.x,v.o];show _<=16+S.cp.val+(1+1);have:=v.le;omega,v.h,v.s,v.n,v.m,v.l,v.p⟩
theorem EnvAt.w{H:Hp}{e:V0}{S:ES}{g:V0}{own:Option V2}{n:Nat}{pf:Prop}(v:EnvAt H e S g own n pf):EwA H e S n pf:=let⟨c,a,b⟩:=v;⟨c,a,b.w⟩
theorem Z3Q(kvs:List (Key×V))(x:V2):has1 kvs x<=1:=by unfold has1;split<;>omega
theorem EvW.put{kvs:List (Key×V)}{S:ES}{n:Nat}{g:Prop}(v:EvW kvs S n g){x:V2}(u:V)(b:x="names"\/x="own"):EvW (putK kvs (.inr x) u) S n g/\kvs.length<sizeLine:=by
 have a:∀{y:V2}{u':V},¬(Sum.inr y:Key)=.inr "names"->¬(Sum.inr y:Key)=.inr "own"->valV kvs (.inr y)=some u'->valV (putK kvs (.inr x) u) (.inr y)=some u':=λ{y u'} j o q=>by
  rw[Z0N,if_neg (λ z=>by rcases b with e|e<;>rw[e]at z<;>first|exact j z|exact o z)];exact q
 have C:=Z3Q kvs "names";have p:=Z3Q kvs "own";refine⟨⟨?_,a qS qS v.h,a qS qS v.s,a qS qS v.n,let⟨m,q⟩:=v.m;⟨m,a qS qS q⟩,a qS qS v.l,λ q=>a qS qS (v.p q)⟩,by rw[sizeLine_eq];have:=v.le;have:=S.cp.2;omega⟩;have i:∀y:V2,has1 (putK kvs (.inr x) u) y=if y=x then 1 else has1 kvs y:=λ y=>by
  unfold has1;rw[Z0N];by_cases z:y=x
  ·subst z;rw[if_pos (rfl:(Sum.inr y:Key)=.inr y),if_pos (rfl:y=y)];rfl
  ·rw[if_neg (λ q=>z (Sum.inr.inj q):¬(Sum.inr y:Key)=.inr x),if_neg z]
 have le:=v.le;have D:=Z1k kvs (.inr x) u;have c:has1 kvs x=1->(putK kvs (.inr x) u).length=kvs.length:=λ h=>by
  unfold has1 at h;cases e:valV kvs (.inr x)with
  |none=>rw[e]at h;cases h
  |some w=>exact Z6b e
 rw[i,i];have r:=Z3Q kvs x;by_cases A:has1 kvs x=1
 ·rw[c A];rcases b with e|e<;>subst e
  ·rw[if_pos rfl,if_neg qS];omega
  ·rw[if_neg qS,if_pos rfl];omega
 ·rcases b with e|e<;>subst e
  ·rw[if_pos rfl,if_neg qS];omega
  ·rw[if_neg qS,if_pos rfl];omega
theorem Z5b{ks:List V2}{ys:List V}:∀{i:Nat}{c:Key×V},c∈absD (λ i=>.inr (ks.getD i "")) (λ i=>ys.getD i .non) i->∃j,j<i/\c=(.inr (ks.getD j ""),ys.getD j .non)
 |0,_,h=>by cases h
 |i+1,c,h=>by
  rcases J1l h with z|z
  ·obtain⟨j,a,b⟩:=Z5b z;exact⟨j,qR,b⟩
  ·exact⟨i,qR,z⟩
def PrT(K:X0)(H:Hp)(v:V)(ps:List (V2×V2)):Prop:=RT K H v (Z2a ps)
theorem PrT.dict{K:X0}{H:Hp}{a:V0}{ps:List (V2×V2)}(h:PrT K H (.ref a) ps):∃b,SqT K H a b/\b.length=(ps.map Prod.fst).length/\∀(i:Nat) t,b[i]?=some t->∃T,t=.ref T/\SqT K H T [.str ((ps.map Prod.fst).getD i ""),((ps.map λ p=>V.str p.2)).getD i .non]:=by
 obtain⟨z,m,e,n,j⟩:=RT.tup_inv h;cases e;refine⟨m,n,by rw[j.length,qa0,qa0],λ i t o=>?_⟩;obtain⟨d,hd,q⟩:=j.at o;rw[qa4]at hd;obtain⟨p,r,rfl⟩:=qc1.mp hd;obtain⟨T,A,rfl,c,g⟩:=q.tup_inv;obtain⟨C,D,rfl,u,v⟩:=g.inv;obtain⟨E,G,rfl,x,y⟩:=v.inv;cases y.nil_inv;cases u.str_inv;cases x.str_inv;refine⟨T,rfl,?_⟩;rw[qd3,qd3,qa4,qa4,r];exact c
inductive Z8S(K:X0)(vs:List V)(H:Hp)(Q:VK):Prop
 |mk(e:V0)(B:Hp)(S:ES)(n:Nat)(pf:Prop)(a:V0)(ps:List (V2×V2))(own:Option V2)(k:V2)(a1:vs=[.ref e,.ref a,oS own,.str k])(a2:StA K B e S pf)(a3:pf)(a4:Same B H)(a5:EwA H e S n pf)(a6:PrT K H (.ref a) ps)(a7:ps.length<=5)(a8:(∀p∈ps,KOk S.hs p.2))(a9:(∀x,own=some x->x∈hns S.hs))(a10:KOk S.hs k)(a11:n+dr 5<=1000000)(a12:∀v t n' nb H',SX e H H'->CA K H' e B S nb own n' pf 5->n'<=n+dr 5->RT K H' v t.dat->TOk 5 t->Q v H'):Z8S K vs H Q
def Z6d(K:X0):Sp:=λ a H Q _=>Z8S K a H Q
theorem J4c(T:Txt K mg Cl Ct Cw Ch Cp)(c:Has P w K mg base 40 "_law_want" ["_law_env","_law_kind","_law_depth"] (Z2w K 5)):Has P w K mg base 41 "_law_body" ["_law_env","_law_params","_law_own_here","_law_kind"] (Z6d K):=by
 refine Has.of T.O1m Z6R (λ _ _ _ _ _ _ us hl=>el4 us hl λ _ _ _ _=>rfl) (λ vs H Q E h=>?_) (λ f p0 A b0 s H vs Q E M h=>?_)
 ·obtain⟨e,B',S,n,pf,a,ps,own,k,rfl,_⟩:=h;rfl
 obtain⟨e,B',S,n,pf,a,ps,own,k,rfl,st,c0,sB,ev,d0,q0,e0,f0,kk,hn,q⟩:=h;refine⟨_,(Z0a (Z1g (Z0r M) (pvF 0) Z0f (Z0o (r:=J1j K) (Z9R rfl) rfl T.O1u Z7T (qI (pvF 1))) rfl) (Z0a (Z1g (Z0r M) (pvF 0) Z0f (pvF 2) rfl) (Z0a (Z1g (Z0r M) (pvF 0) Z0f (Z0i Z0R (Z0l (Z0r M) (pvF 0) Z0f (λ _ _=>rfl)) Z0c) rfl) (Z0d (Z0j (qF c M (qK (pvF 0) (pvF 3) Z0c))))))),?_⟩;obtain⟨C,hk,v⟩:=ev;obtain⟨ts,d1,d2,d3⟩:=d0.dict;refine seq4 λ r0 N s0 O t0 R=>?_;walk_at "r";refine⟨_,d1,_,d2,_,d3,λ m J=>?_⟩;have s1:=Z0n J (.dK (Z2n (ps.map Prod.fst) (ps.map λ p=>V.str p.2)));have e1:upd H m (.dK (Z2n (ps.map Prod.fst) (ps.map λ p=>V.str p.2))) m=some (.dK (Z2n (ps.map Prod.fst) (ps.map λ p=>V.str p.2))):=Z0b;generalize upd H m (.dK (Z2n (ps.map Prod.fst) (ps.map λ p=>V.str p.2)))=H1 at*;have G:m≠e:=λ z=>by rw[z,hk]at J;cases J
 have g0:=s1 _ _ hk;obtain⟨v2,l2⟩:=v.put (x:="names") (.ref m) (.inl rfl);refine⟨_,DPut.k (k:=.inr "names") g0 l2,?_⟩;have U:SX e H1 (upd H1 e (.dK (putK C (.inr "names") (.ref m)))):=SX.put _;have h0:upd H1 e (.dK (putK C (.inr "names") (.ref m))) e=some (.dK (putK C (.inr "names") (.ref m))):=Z0b;generalize upd H1 e (.dK (putK C (.inr "names") (.ref m)))=H2 at*;have vn:valV (putK C (.inr "names") (.ref m)) (.inr "names")=some (.ref m):=by rw[Z0N,if_pos rfl]
 generalize putK C (.inr "names") (.ref m)=u at*;subst R;walk_at "r";obtain⟨I,l3⟩:=v2.put (x:="own") (oS own) (.inr rfl);refine⟨_,DPut.k (k:=.inr "own") h0 l3,?_⟩;have X:SX e H2 (upd H2 e (.dK (putK u (.inr "own") (oS own)))):=SX.put _;have Y:upd H2 e (.dK (putK u (.inr "own") (oS own))) e=some (.dK (putK u (.inr "own") (oS own))):=Z0b;generalize upd H2 e (.dK (putK u (.inr "own") (oS own)))=H3 at*;have i0:valV (putK u (.inr "own") (oS own)) (.inr "names")=some (.ref m):=by rw[Z0N,if_neg qS];exact vn
 have j0:valV (putK u (.inr "own") (oS own)) (.inr "own")=some (oS own):=by rw[Z0N,if_pos rfl]
 generalize putK u (.inr "own") (oS own)=g at*;subst O;walk_at "r";obtain⟨m0,vm⟩:=I.m;have k0:g.length<=18+S.cp.val:=by have:=I.le;have:=Z3Q g "names";have:=Z3Q g "own";omega
 refine⟨_,.inl ⟨g,.inr "spot",.inl Y,rfl,I.n.symm⟩,_,rfl,_,DPut.k (k:=.inr "most") Y (by rw[sizeLine_eq];have:=S.cp.2;omega),?_⟩;have Z:SX e H3 (upd H3 e (.dK (putK g (.inr "most") (.int ((n:Int)+9))))):=SX.put _;have L:∀{y:V2}{u':V},¬(Sum.inr y:Key)=.inr "most"->valV g (.inr y)=some u'->valV (putK g (.inr "most") (.int ((n:Int)+9))) (.inr y)=some u':=λ z q=>by rw[Z0N,if_neg z];exact q
 have l0:EnvAt (upd H3 e (.dK (putK g (.inr "most") (.int ((n:Int)+9))))) e S m own n pf:=⟨_,Z0b,by rw[Z6b vm];exact k0,L qS I.h,L qS I.s,L qS I.n,⟨_,by rw[Z0N,if_pos rfl]⟩,L qS I.l,L qS i0,L qS j0,λ q=>L qS (I.p q)⟩;have n0:=Z _ _ G (X _ _ G (U _ _ G e1));generalize upd H3 e (.dK (putK g (.inr "most") (.int ((n:Int)+9))))=H4 at*;have a0:SX e H H4:=λ b o D h=>Z _ _ D (X _ _ D (U _ _ D (s1 _ _ h)));have c4:CA K H4 e B' S m own n pf 5:=⟨st,λ b o h=>a0 _ _ (λ z=>by rw[z,st.e0]at h;cases h) (sB _ _ h),l0,⟨_,n0,?_,?_⟩,G,λ _=>c0,f0⟩
 rotate_left
 ·have:=Z4m (λ i=>.inr ((ps.map Prod.fst).getD i "")) (λ i=>(ps.map λ p=>V.str p.2).getD i .non) (ps.map Prod.fst).length;rw[qa0]at this;show(absD _ _ _).length+5<=30;rw[qa0];omega
 ·intro kv hkv;obtain⟨j,hj,rfl⟩:=Z5b hkv;rw[qa0]at hj;have hp:ps[j]?=some ps[j]:=qa8 hj;refine⟨ps[j].1,ps[j].2,?_,e0 _ (qh0 hj)⟩;rw[qd3,qd3,qa4,qa4,hp];rfl
 subst N;walk_at "r";exact⟨e,B',S,m,own,n,pf,k,3,rfl,c4,qR,⟨kk,.inl ⟨qQ,qQ⟩⟩,λ v t n' H' s' o0 ln rt tk=>q v t n' m H' (λ b o D h=>s' _ _ D (a0 _ _ D h)) (c4.go s' o0) qR rt tk⟩
open P70 (Ha hns Cn Fl Sc KOk HOk Ev zS dr TOk Rk Lv HdOk)
structure TuE(S:ES)(B H:Hp)(v:V):Prop where
 p:∃tp ht pl x w kk,v=.ref tp/\H tp=some (.tup [.str x,.str w,.ref ht])/\B ht=some (.tup [.ref pl,.str "number"])/\B pl=some (.lst ((kk:List V2).map V.str))/\x∈hns S.hs/\kk.length<=4/\∀k∈kk,KOk S.hs k
def TuL(S:ES)(B H:Hp)(vs:List V):Prop:=∀v∈vs,TuE S B H v
theorem TuL.same{S:ES}{B H H':Hp}{vs:List V}(h:TuL S B H vs)(s:Same H H'):TuL S B H' vs:=λ v e=>let⟨g,i,j,x,w,m,a,b,c⟩:=(h v e).p;⟨g,i,j,x,w,m,a,s _ _ b,c⟩
noncomputable def TUI(S:ES)(B Hf:Hp)(b:Nat->Nat)(σ0:V->List (Option V)->St)(m:Nat)(i:Nat)(σ:St)(H':Hp):Prop:=∃c a e,Same Hf H'/\H' c=some (.lst a)/\a.length<=b i/\TuL S B H' a/\e.length=m/\σ=σ0 (.ref c) e
theorem Z9t(ns:List V2)(b c:Option Int):∃a:List V2,cutV (ns.map V.str) b c=a.map V.str/\a.length<=ns.length:=by
 unfold cutV;rw[<-ql8,<-qf7];refine⟨_,rfl,?_⟩;rw[qb3,qg5];omega
theorem J1c:(Str.ofString "+-").cps.toList.length=2:=by decide+kernel
theorem J4s(z:Int):∃x,atI (Str.ofString "+-").cps.toList (z%2)=some x:=by
 obtain⟨m,a⟩:=qh1 (qe7 z (show(2:Int)≠0 by decide));have b:=qf6 z (show(0:Int)<2 by decide);rw[a]at b ⊢;have c:m<(Str.ofString "+-").cps.toList.length:=by rw[J1c];omega
 exact⟨_,Z1w (qa8 c)⟩
def tn(S:ES)(ns:List V2)(d:Wd)(k:V2):Prop:=k∈hns S.hs/\d.name=ns.getD 11 ""/\d.params=[(ns.getD 7 "",("number":V2)),(ns.getD 8 "",k),(ns.getD 9 "",k),(ns.getD 10 "",k)]/\d.kind="number"/\TOk 5 d.body
def hd11(ns:List V2)(k:V2):V2×List V2×V2:=(ns.getD 11 "",[("number":V2),k,k,k],("number":V2))
inductive Z6K(K:X0)(vs:List V)(H:Hp)(Q:VK):Prop
 |mk(e:V0)(B:Hp)(S:ES)(n:Nat)(nl:V0)(ns:List V2)(r:Nat)(a1:vs=[.ref e,.ref nl,.int r])(a2:StA K B e S False)(a3:Same B H)(a4:EwA H e S n False)(a5:SqL K B nl (ns.map V.str))(a6:ns.length=12)(a7:ns.getD 0 ""∈hns S.hs)(a8:(∀h∈S.hs,h.heads.length<=8))(a9:n+4*dr 2<=1000000)(a10:(∀n' H',SX e H H'->EwA H' e S n' False->n'<=n+4*dr 2->Q .non H'))(a11:∀v d k ix X p hd' n' H',S.hs[ix]?=some X->X.name=ns.getD 0 ""->S.ps[ix]?=some p->(∀b o,b≠e->b≠p.ha->H b=some o->H' b=some o)->HA H' S.hd S.ps (S.hs.set ix {X with heads:=hd'})->hd'.length<=12->hd11 ns k∈hd'->(∀y∈hd',y∈X.heads/\y.1≠ns.getD 11 ""\/y=hd11 ns k)->EwA H' e S n' False->n'<=n+4*dr 2->RT K H' v (Z2y d)->tn S ns d k->Q v H'):Z6K K vs H Q
def Z7y(K:X0):Sp:=λ a H Q _=>Z6K K a H Q
theorem J0Q(T:Txt K mg Cl Ct Cw Ch Cp)(R:Has P w K mg base 1 "_law_elders" ["_law_halls_here","_law_house"] (Z2x K))(Y:Has P w K mg base 2 "_law_head" ["_law_halls_here","_law_house","_law_word"] Z4c)(U:Has P w K mg base 23 "_law_given" ["_law_env","_law_kinds","_law_depth"] (Z2N K 2)):Has P w K mg base 24 "_law_turner" ["_law_env","_law_names_here","_law_cell"] (Z7y K):=by
  refine Has.of T.O0X O0b (λ _ _ _ _ _ _ us hl=>el3 us hl λ _ _ _=>rfl) (λ vs H Q E h=>?_) (λ f J4 A n3 s H vs Q E hr h=>?_)
  · obtain⟨e,B',S,n,nl,ns,r,rfl,_⟩:=h;rfl
  obtain⟨e,B',S,n,nl,ns,r,rfl,st,sB,ev,f0,ln,n0,L0,hn,q0,q⟩:=h;refine⟨_,(Z0a (Z1W (i:=3) O0b.nd rfl (Or.inr rfl) (qB hr 0)) (Z0a (qG 4 O0b.nd (Z0t Z0W)) (Z0a (PS.melt (Z0T PassesOwn.never rfl (Z2F (pvF 3)) (Z4I (i:=5) O0b.nd rfl (Or.inr rfl)) (Z0a (PS.melt (Z1y rfl O0b.nd (i:=6) rfl rfl (BlockOk.of (N:=["_law_one","_law_halls_here","_law_house"]) (nl:=[none,some 3,some 5]) (cl:=[("_law_house",s.heap.objs.size+2),("_law_halls_here",s.heap.objs.size+1)]) rfl qP qP rfl (sub2 rfl rfl) (nm:=["_law_house","_law_halls_here"]) rfl qP rfl (λ i hi j hj=>by
            match i,hi with
            | 0,_=>cases hj
             |1,_=>cases hj;exact⟨_,rfl,rfl,rfl,.inl rfl⟩
             |2,_=>cases hj;exact⟨_,rfl,rfl,rfl,.inl rfl⟩
            )) (Z2F (pvF 3)) (λ C fp s H=>(qH 0 (show(["_law_one","_law_halls_here","_law_house"]:List V2).Nodup by decide+kernel))) (λ C fp s H=>(Z0Y (r:=rIn K false) Z0C (pvF 2) (qF R hr (qJ (pvF 1) (pvF 0))) (by with_unfolding_all rfl))) (λ C fp s H=>(pvF 0)))) (Z0d (Z0T PassesOwn.never rfl (Z0P (Z0L (r:=rSlL K) Z1B (pvF 1) (Z0G Z0c) (Z0G Z0c))) (qH 7 O0b.nd) (Z0a (qG 8 O0b.nd (qF Y hr (qK (pvF 3) (pvF 5) (pvF 7)))) (Z0d (Z0E (PW.pt (Z3d (qM Z1A (pvF 8) Z0V) (Z1Z (qM Z2g (qA K 8) Z0f)))) (Z0d (qG 4 O0b.nd (Z0i Z1l (pvF 4) (Z0i J0W (Z0t (qI (Z0m (qK (pvF 5) (pvF 7) (pvF 8))))) (Z0i Z0R Z0c (Z0i Z3m Z0c (qL T.z_len (qI (pvF 6))))))))) Z0p)))))))) (Z0a (Z0E (qM (r:=rEqN K) (Z6x hr.units) (pvF 4) (Z0t Z0W)) (Z0d (Z0j Z0V)) Z0p) (Z0a (Z3V (qD K (pvF 4) (Z0i Z0s (pvF 2) (qL T.z_len (qI (pvF 4))))) (Z2Y (n:=3) rfl (Z0u (Z4I (i:=9) O0b.nd rfl (Or.inr rfl)) (Z0u (qH 7 O0b.nd) (Z0u (qH 8 O0b.nd) Z2P))))) (Z0a (qG 10 O0b.nd (Z0i Z1l (Z0t (qI (Z0m (qJ (qD K (pvF 1) Z0c) Z0f)))) (Z0S rfl (BlockOk.of (N:=["_law_name","_law_kind"]) (nl:=[none,some 9]) (cl:=[("_law_kind",s.heap.objs.size+3)]) rfl qP qP rfl (sub1 rfl) (nm:=["_law_kind"]) rfl qP rfl (λ i hi j hj=>by
            match i,hi with
            | 0,_=>cases hj
             |1,_=>cases hj;exact⟨_,rfl,rfl,rfl,.inl rfl⟩
            )) (Z0P (Z0L (r:=rSlL K) Z1B (pvF 1) (Z0G Z0c) (Z0G Z0c))) (λ C fp s H=>(qH 0 (show(["_law_name","_law_kind"]:List V2).Nodup by decide+kernel))) (λ C fp s H=>(Z0m (qJ (pvF 0) (pvF 1))))))) (Z0a (Z1D rfl O0b.nd (i:=11) rfl rfl (BlockOk.plain (N:=["_law_name"]) rfl qP qP qP) (Z0P (Z0L (r:=rSlL K) Z1B (pvF 1) (Z0G Z0c) (Z0G Z0c))) (λ C fp s H=>(qH 0 (show(["_law_name"]:List V2).Nodup by decide+kernel))) (λ C fp s H=>(Z0m (qJ Z0f (pvF 0))))) (Z0a (Z1g (Z0r hr) (pvF 0) Z0f (Z0o (r:=J1N K) (J0o rfl) rfl T.O1u Z7T (qI (pvF 10))) rfl) (Z0a (Z1g (Z0r hr) (pvF 0) Z0f (qD K (pvF 1) Z0c) rfl) (Z0a (qG 12 O0b.nd (Z0m (Z0v Z0f (qK (qD K (pvF 11) Z0c) (pvF 7) (qF U hr (qK (pvF 0) (qA K 8) Z0c)))))) (Z0a (qG 13 O0b.nd (Z0m (Z0v Z0f (qK Z0f (Z0m (qJ Z0f (qD K (pvF 1) Z0c))) (Z0m (qJ Z0f Z0c)))))) (Z0a (qG 14 O0b.nd (Z0m (Z0v Z0f (qK (Z0m (qI Z0f)) (qD K (pvF 1) Z0c) (Z0m (Z0v (pvF 13) (qK (qD K (pvF 11) Z0c) (qD K (pvF 11) Z0c) (qD K (pvF 11) Z0c)))))))) (Z0a (Z1g (Z0r hr) (qE hr (qE hr (pvF 3) (qD K (pvF 1) Z0c)) Z0f) (qD K (pvF 1) Z0c) (Z0m (qJ (Z0t (Z0v Z0f (qK (pvF 9) (pvF 9) (pvF 9)))) Z0f)) rfl) (Z0a (qG 15 O0b.nd (Z0m (Z0v Z0f (qK Z0f (Z0m (qJ Z0f (qD K (pvF 1) Z0c))) (Z0m (qJ Z0f Z0c)))))) (Z0a (qG 16 O0b.nd (Z0m (Z0v Z0f (qK (pvF 15) (Z0m (qJ Z0f Z0c)) (Z0m (Z0v Z0f (qK (Z8A Z8Q Z0f (Z0i Z0s (Z0i Z0x (pvF 2) Z0c) Z0c) (λ _ _=>rfl)) (pvF 12) (pvF 14)))))))) (Z0d (Z0j (Z0m (Z0v (qD K (pvF 1) Z0c) (qK (Z0o Z0q rfl T.O0m Z0O (qI (pvF 10))) Z0f (pvF 16))))))))))))))))))))),?_⟩
  have ok:=st.ok;have L4:=ok.le;have U1:=st.ha.same sB;obtain⟨e0,hk,v⟩:=ev;refine J9w λ v4 M0 A4 N0 B4 O0 C4 Q0 D4 R0 E4 S0 M4 Y1 N4 Z1 O4 c2 Q4 e2 R4 f2 T4 h2 o3 i2 U4 j2 Y4 m2=>?_;walk_at "r";refine⟨_,.inl ⟨e0,.inr "halls",.inl hk,rfl,v.h.symm⟩,?_⟩;subst m2;walk_at "r";refine New.of λ o2 H1 h1 s1 e1=>?_;subst j2;walk_at "r";have T0:=U1.same s1;refine forD rfl T0.d λ o H2 N fz hN=>?_;have U0:=st.ha.frz st.dj (o:=o) (H2:=upd B' S.hd (.frz o (.dK (kvs7 S.ps S.hs)))) ⟨Z0b,λ b n=>Z0e n⟩;have sF:∀{H':Hp},Same H2 H'->Same (upd B' S.hd (.frz o (.dK (kvs7 S.ps S.hs)))) H':=λ{H'} s b u eb=>by
    by_cases hb:b=S.hd
    · subst hb;rw[Z0b]at eb;cases eb;exact s _ _ fz.f
    · rw[Z0e hb]at eb;exact s _ _ ((fz.r _ hb).trans (s1 _ _ (sB _ _ eb)))
  have sql:∀{H':Hp},Same H2 H'->SqL K H' nl (ns.map V.str):=λ{H'} s=>by
    have p3:∀{xs:List V},B' nl=some (.lst xs)->nl≠S.hd:=λ e z=>by
      rcases st.ha.d with q|⟨o,q⟩<;>rw[z,q]at e<;>cases e
    rcases f0 with(e|⟨o',e⟩)|e
    · exact .inl (.inl (s _ _ ((fz.r _ (p3 e)).trans (s1 _ _ (sB _ _ e)))))
    · have:nl≠S.hd:=λ z=>by
        rcases st.ha.d with q|⟨o,q⟩<;>rw[z,q]at e<;>cases e
      exact .inl (.inr ⟨o',s _ _ ((fz.r _ this).trans (s1 _ _ (sB _ _ e)))⟩)
    · exact .inr e
  have q3:o2≠S.hd:=λ z=>by
    rcases U1.d with q|⟨o,q⟩
    · rw[z,q]at h1;cases h1
    · rw[z,q]at h1;cases h1
  refine Z5i (TUI S B' H2 (λ i=>444*i) (λ sl Z=>some (V.ref e)::some (V.ref nl)::some (V.int r)::some (V.ref S.hd)::some sl::Z) 12) ⟨o2,[],[none,none,none,none,none,none,none,none,none,none,none,none],Same.refl _,(fz.r _ q3).trans e1,qa1 _,(λ v hv=>by cases hv),rfl,rfl⟩ (λ i σ H' _ hI=>?_) (λ i k' v' σ H' hy hI=>?_) (λ σ H' hI=>?_)
  · obtain⟨sl,vs,Z,a,_⟩:=hI;exact a _ _ fz.f
  · obtain⟨sl,vs,Z,aI,ek,b0,sm,g0,rfl⟩:=hI;obtain⟨o5,o6,o7,o8,o9,Y0,Z0,b1,c1,f1,g1,i1,rfl⟩:∃a b c d e f g h i j k l,Z=[a,b,c,d,e,f,g,h,i,j,k,l]:=by
      match Z,g0 with
      |[a,b,c,d,e,f,g,h,i,j,k,l],_=>exact⟨a,b,c,d,e,f,g,h,i,j,k,l,rfl⟩
    have Z4:i<S.hs.length:=by have:=(qa7.mp hy).1;rw[Z1v T0.a]at this;exact this
    obtain⟨X,hX,rfl⟩:=Z7X T0.a hy;have xm:X.name∈hns S.hs:=qb6 hX;obtain⟨d1,d2,d3,d4⟩:=ok.cn X.name xm;have m0:=U0.same (sF aI);refine seq2 λ c5 p2=>?_;walk_at "r";show J3F (J2L 6 _) _ _ _;refine J3c (Z3s (d:=S.hd) none [some (.ref S.hd),some (.str X.name)] (λ v=>match v with| .str y=>decide (X.name∈S.ch y)|_=>false) rfl m0.d rfl (by rw[Z1v m0.a,sizeLine_eq];omega) (λ y hy o' H3 H4 K' r3 s4 kk=>?_) λ D H3 h3 s3 e3=>?_)
    · rw[Z0K m0.a]at hy;obtain⟨y,r2,rfl⟩:=qb4.mp hy;walk_at "r";refine⟨S.hd,y,S.ps,S.hs,S.ch y,rfl,(m0.frz st.dj r3).same s4,ok.nd,(ok.cn y r2).1,by have:=(ok.cn y r2).2.1;omega,λ l5 H5 h5 s5 e5=>⟨l5,rfl,_,.inl (SqL.of e5),rfl,Z3q,?_⟩⟩;rw[Z3K];exact kk _ s5
    rw[Z0K m0.a,Z2h (q:=λ y=>decide (X.name∈S.ch y)) (λ _=>rfl)]at e3;have lD:=qe4 (λ y=>decide (X.name∈S.ch y)) (hns S.hs);rw[show(hns S.hs).length=S.hs.length from qa0 _]at lD;have s2:=aI.trans s3;subst p2;walk_at "r";obtain⟨ws,ew,lw⟩:=Z9t ns (some 3) (some 7);refine⟨_,sql s2,New.of λ p4 H4 h4 s4 e4=>⟨⟨_,SqL.of e4⟩,?_⟩⟩;rw[ew]at e4;refine Z1i (ws.map V.str) (λ j σ H5=>Same H4 H5/\TUI S B' H2 (λ j=>444*i+37*j) (λ sl Z=>some (V.ref e)::some (V.ref nl)::some (V.int r)::some (V.ref S.hd)::some sl::some (V.str X.name)::some (V.ref D)::Z) 10 j σ H5) ⟨Same.refl _,sl,vs,_,s2.trans s4,(s3.trans s4) _ _ ek,b0,sm.same (s3.trans s4),rfl,rfl⟩ (λ j σ H5 _ hJ=>SqL.of (hJ.1 _ _ e4)) (λ j y σ H5 hy hJ=>?_) (λ σ H5 hJ=>?_)
    · obtain⟨a4,sl,vs,Z,aI,ek,b0,sm,g0,rfl⟩:=hJ;obtain⟨o7,o8,o9,Y0,Z0,b1,c1,f1,g1,i1,rfl⟩:∃a b c d e f g h i j,Z=[a,b,c,d,e,f,g,h,i,j]:=by
        match Z,g0 with
        |[a,b,c,d,e,f,g,h,i,j],_=>exact⟨a,b,c,d,e,f,g,h,i,j,rfl⟩
      rw[qa4]at hy;obtain⟨wd,hw,rfl⟩:=qc1.mp hy;have d5:j<ws.length:=(qa7.mp hw).1;have b0:vs.length<=444*i+37*j:=b0;refine seq2 λ f5 t2=>?_;walk_at "r";refine⟨S.hd,X.name,wd,S.ps,S.hs,S.ch X.name,_,rfl,U0,sF aI,ok.nd,d1,qR,λ v H6 s6 ho=>?_⟩;have no:∀{Z:List (Option V)},Z.length=10->Same H4 H6/\TUI S B' H2 (λ j=>444*i+37*j) (λ sl Z=>some (V.ref e)::some (V.ref nl)::some (V.int r)::some (V.ref S.hd)::some sl::some (V.str X.name)::some (V.ref D)::Z) 10 (j+1) (some (V.ref e)::some (V.ref nl)::some (V.int r)::some (V.ref S.hd)::some (V.ref sl)::some (V.str X.name)::some (V.ref D)::Z) H6:=λ lo=>⟨a4.trans s6,sl,vs,_,aI.trans s6,s6 _ _ ek,by show _<=444*i+37*(j+1);omega,sm.same s6,lo,rfl⟩;subst t2;walk_at "r";refine ite2 (λ zv=>?_) λ _=>no rfl;obtain⟨t3,u3,qq,q1,q2,t0,x3,rfl,u1,u2⟩:=ho.resolve_left zv;have B2:=(ok.hd t3 u3).2 qq q1;have nB:∀{b:V0}{u:HO},(∀o' kv,u≠.frz o' (.dK kv))->upd B' S.hd (.frz o (.dK (kvs7 S.ps S.hs))) b=some u->B' b=some u:=λ{b u} n e=>by
        by_cases z:b=S.hd
        · subst z;rw[Z0b]at e;cases e;exact absurd rfl (n _ _)
        · rw[Z0e z]at e;exact e
      have t1:=(sF (aI.trans s6)) _ _ u1;have D6:=(a4.trans s6) _ _ (s4 _ _ e3);refine⟨_,rfl,_,SqT.of t1,_,ix1,rfl,ite2 (λ zn=>?_) λ _=>no rfl⟩;have zn:qq.2.2="number":=V.str.inj zn;rw[zn]at u1;refine New.of λ tp H7 h7 s7 e7=>New.of λ p8 H8 h8 s8 e8=>⟨_,.inl (SqL.of ((s7.trans s8) _ _ D6)),_,e8,qR,by rw[qa0];omega,?_,λ p9 h9=>?_⟩
      · rw[qa0];show 1*_<=_;omega
      obtain⟨m,hm,I4⟩:∃m:Nat,(1+3*((((hns S.hs).filter λ y=>decide (X.name∈S.ch y)).map V.str).length:Int)).toNat=m/\m<=37:=⟨_,rfl,by rw[qa0];omega⟩;rw[hm,List.flatten_replicate_singleton];have s9:=Z0n h9 (.lst (qc8 m (V.ref tp)));have e9:upd H8 p9 (.lst (qc8 m (V.ref tp))) p9=some (.lst (qc8 m (V.ref tp))):=Z0b;generalize upd H8 p9 (.lst (qc8 m (V.ref tp)))=H9 at*;have S9:=s6.trans (s7.trans (s8.trans s9));refine⟨_,S9 _ _ ek,_,e9,by rw[qm3];omega,New.of λ A3 g5 i5 y0 B3=>⟨a4.trans (S9.trans y0),A3,vs++qc8 m (V.ref tp),_,aI.trans (S9.trans y0),B3,?_,?_,rfl,rfl⟩⟩
      · rw[qa5,qm3];show _<=444*i+37*(j+1);omega
      · intro v hv;rcases qb5.mp hv with z|z
        · exact(sm.same (S9.trans y0)) v z
        · rw[List.eq_of_mem_replicate z];exact⟨tp,t0,x3,X.name,wd,qq.2.1,rfl,(s8.trans (s9.trans y0)) _ _ e7,nB (λ _ _ z=>by cases z) u1,nB (λ _ _ z=>by cases z) u2,xm,B2.1,B2.2.1⟩
    · obtain⟨a4,sl,vs,Z,aI,ek,b0,sm,g0,rfl⟩:=hJ;rw[qa0]at b0;refine⟨sl,vs,_,aI,ek,?_,sm,congrArg (·+2) g0,rfl⟩;have:vs.length<=444*i+37*ws.length:=b0;show _<=444*(i+1);omega
  · obtain⟨sl,vs,Z,aI,ek,b0,sm,g0,rfl⟩:=hI;obtain⟨o5,o6,o7,o8,o9,Y0,Z0,b1,c1,f1,g1,i1,rfl⟩:∃a b c d e f g h i j k l,Z=[a,b,c,d,e,f,g,h,i,j,k,l]:=by
      match Z,g0 with
      |[a,b,c,d,e,f,g,h,i,j,k,l],_=>exact⟨a,b,c,d,e,f,g,h,i,j,k,l,rfl⟩
    refine hN _ _ (aI _ _ fz.f) λ H4 mz=>?_;have s4:Same H1 H4:=mz.same fz aI;have S4:=s1.trans s4;have C2:sl≠S.hd:=λ z=>by rw[z,aI _ _ fz.f]at ek;cases ek
    have j1:H4 sl=some (.lst vs):=(mz.r _ C2).trans ek;have D2:TuL S B' H4 vs:=λ v hv=>by
      obtain⟨tp,ht,pl,x,w,kk,a,b,c⟩:=(sm v hv).p;exact⟨tp,ht,pl,x,w,kk,a,(mz.r _ (λ z=>by rw[z,aI _ _ fz.f]at b;cases b)).trans b,c⟩
    show o3 {nx:=λ x H'=>Q V.non H',rt:=Q} [some (V.ref e),some (V.ref nl),some (V.int r),some (V.ref S.hd),some (V.ref sl),o5,o6,o7,o8,o9,Y0,Z0,b1,c1,f1,g1,i1] H4;clear hN fz U0 sF sql e1 aI ek mz b0 sm;subst i2;walk_at "r";refine New.of λ p5 H5 h5 s5 e5=>⟨_,SqL.of (s5 _ _ j1),SqL.of e5,ite2 (λ _=>?_) λ z=>?_⟩
    · exact q0 n H5 (SX.of (S4.trans s5)) ⟨e0,(S4.trans s5) _ _ hk,v⟩ (qg2 _ _)
    have l0:0<vs.length:=by
      cases vs with
      |nil=>exact absurd rfl z
      |cons=>exact qf2 _
    obtain⟨j,v1,hv,av⟩:=J0e l0 (r:Int);obtain⟨tp,ht,pl,x,wd,kk,rfl,b2,b3,b4,b5,b6,b7⟩:=(D2 v1 (qb0 hv)).p;have l1:=s5 _ _ j1;have S5:=S4.trans s5;subst h2;walk_at "r";refine⟨_,.inl (SqL.of l1),qR,_,SqL.of l1,_,av,_,rfl,_,SqT.of (s5 _ _ b2),rfl,_,_,rfl,_,_,rfl,_,_,rfl,rfl,?_⟩;clear D2 av hv j1 l1;obtain⟨a0,a1,a2,a3,a4,a5,a6,M,J,O,G,I,rfl⟩:∃a0 a1 a2 a3 a4 a5 a6 M J O G I,ns=[a0,a1,a2,a3,a4,a5,a6,M,J,O,G,I]:=by
      match ns,ln with
      |[a,b,c,d,e,f,g,h,i,j,k,l],_=>exact⟨a,b,c,d,e,f,g,h,i,j,k,l,rfl⟩
    have o0:=(f0.same sB).same S5;subst f2;walk_at "r";refine⟨_,o0,_,(rfl:atI _ 7=some (.str M)),New.of λ t6 H6 h6 s6 e6=>New.of λ p7 H7 h7 s7 e7=>⟨_,o0.same (s6.trans s7),New.of λ p8 H8 h8 s8 e8=>⟨⟨_,SqL.of e8⟩,λ D9 m1=>?_⟩⟩⟩;have e8:H8 p8=some (.lst [.str J,.str O,.str G]):=e8;refine Z2A (ys:=[.str J,.str O,.str G]) none [some (.str x)] (λ j v H'=>∃T y,[J,O,G][j]?=some y/\v=.ref T/\H' T=some (.tup [.str y,.str x])) (λ j v H1 H2 ⟨T,y,y1,y2,y3⟩ sn=>⟨T,y,y1,y2,sn _ _ (λ _ z=>by cases z) y3⟩) rfl m1 (by show 3<=sizeLine;rw[sizeLine_eq];omega) (λ Hj sj=>SqL.of (sj _ _ e8)) (λ j y hy Hj K' sj o1=>?_) (λ tv H9 s9 e9 p1 hR=>?_)
    · have:∃y',[J,O,G][j]?=some y'/\y=.str y':=by
        match j,hy with
        |0,h=>cases h;exact⟨_,rfl,rfl⟩
        |1,h=>cases h;exact⟨_,rfl,rfl⟩
        |2,h=>cases h;exact⟨_,rfl,rfl⟩
        |j+3,h=>cases h
      obtain⟨y',r1,rfl⟩:=this;walk_at "r";exact New.of λ tt Hk c0 sk A1=>o1 _ _ sk ⟨tt,y',r1,rfl,A1⟩
    obtain⟨v8,v9,C3,rfl⟩:∃a b c,tv=[a,b,c]:=by
      match tv,p1 with
      |[a,b,c],_=>exact⟨a,b,c,rfl⟩
    obtain⟨T8,y,y1,rfl,f8⟩:=hR 0 _ rfl;cases y1;obtain⟨T9,y,y1,rfl,f9⟩:=hR 1 _ rfl;cases y1;obtain⟨i0,y,y1,rfl,p0⟩:=hR 2 _ rfl;cases y1;refine⟨D9,rfl,_,(s8.trans s9) _ _ e7,_,e9,by show 1+3<=_;omega,New.of λ pp HA hA sA eA=>?_⟩;have eA:HA pp=some (.lst [.ref t6,.ref T8,.ref T9,.ref i0]):=eA;have SA:=s6.trans (s7.trans (s8.trans (s9.trans sA)));have q6:=(s7.trans (s8.trans (s9.trans sA))) _ _ e6;have q8:=sA _ _ f8;have q9:=sA _ _ f9;have E2:=sA _ _ p0;have D3:=S5.trans SA;clear f8 f9 p0 hR e9 e7 e8 e6;subst e2;walk_at "r";refine⟨_,o0.same SA,New.of λ p8 H8 h8 s8 e8=>⟨⟨_,SqL.of e8⟩,λ D9 m1=>?_⟩⟩;have e8:H8 p8=some (.lst [.str J,.str O,.str G]):=e8;refine Z2A (ys:=[.str J,.str O,.str G]) none [] (λ j v H'=>∃T y,[J,O,G][j]?=some y/\v=.ref T/\H' T=some (.tup [.str "name",.str y])) (λ j v H1 H2 ⟨T,y,y1,y2,y3⟩ sn=>⟨T,y,y1,y2,sn _ _ (λ _ z=>by cases z) y3⟩) rfl m1 (by show 3<=sizeLine;rw[sizeLine_eq];omega) (λ Hj sj=>SqL.of (sj _ _ e8)) (λ j y hy Hj K' sj o1=>?_) (λ tv H9 s9 e9 p1 hR=>?_)
    · have:∃y',[J,O,G][j]?=some y'/\y=.str y':=by
        match j,hy with
        |0,h=>cases h;exact⟨_,rfl,rfl⟩
        |1,h=>cases h;exact⟨_,rfl,rfl⟩
        |2,h=>cases h;exact⟨_,rfl,rfl⟩
        |j+3,h=>cases h
      obtain⟨y',r1,rfl⟩:=this;walk_at "r";exact New.of λ tt Hk c0 sk A1=>o1 _ _ sk ⟨tt,y',r1,rfl,A1⟩
    obtain⟨v8,v9,C3,rfl⟩:∃a b c,tv=[a,b,c]:=by
      match tv,p1 with
      |[a,b,c],_=>exact⟨a,b,c,rfl⟩
    obtain⟨N8,y,y1,rfl,f8⟩:=hR 0 _ rfl;cases y1;obtain⟨N9,y,y1,rfl,f9⟩:=hR 1 _ rfl;cases y1;obtain⟨B1,y,y1,rfl,p0⟩:=hR 2 _ rfl;cases y1;have SB:=D3.trans (s8.trans s9);have r0:=s8.trans s9;have C1:=r0 _ _ eA;have r6:=r0 _ _ q6;have r8:=r0 _ _ q8;have r9:=r0 _ _ q9;have D1:=r0 _ _ E2;clear q6 q8 q9 E2 hR e8 eA;subst c2;walk_at "r";refine⟨_,SqL.of C1,[M,J,O,G],rfl,[.str "number",.str x,.str x,.str x],λ i t hi=>?_,λ nb E1=>?_⟩
    · match i,hi with
      |0,h=>cases h;exact⟨_,rfl,SqT.of r6⟩
      |1,h=>cases h;exact⟨_,rfl,SqT.of r8⟩
      |2,h=>cases h;exact⟨_,rfl,SqT.of r9⟩
      |3,h=>cases h;exact⟨_,rfl,SqT.of D1⟩
      |i+4,h=>cases h
    have sC:=Z0n E1 (.dK (Z2n [M,J,O,G] [.str "number",.str x,.str x,.str x]));have eC:upd H9 nb (.dK (Z2n [M,J,O,G] [.str "number",.str x,.str x,.str x])) nb=some (.dK (Z2n [M,J,O,G] [.str "number",.str x,.str x,.str x])):=Z0b;generalize upd H9 nb (.dK (Z2n [M,J,O,G] [.str "number",.str x,.str x,.str x]))=HC at*;have I2:nb≠e:=λ z=>by rw[z,SB _ _ hk]at E1;cases E1
    have J2:=(SB.trans sC) _ _ hk;obtain⟨v2,l2⟩:=v.put (x:="names") (.ref nb) (.inl rfl);refine⟨_,DPut.k (k:=.inr "names") J2 l2,?_⟩;have N2:SX e HC (upd HC e (.dK (putK e0 (.inr "names") (.ref nb)))):=SX.put _;have E3:upd HC e (.dK (putK e0 (.inr "names") (.ref nb))) e=some (.dK (putK e0 (.inr "names") (.ref nb))):=Z0b;generalize upd HC e (.dK (putK e0 (.inr "names") (.ref nb)))=HD at*;have vn:valV (putK e0 (.inr "names") (.ref nb)) (.inr "names")=some (.ref nb):=by rw[Z0N,if_pos rfl]
    generalize putK e0 (.inr "names") (.ref nb)=h0 at*;have Bs:∀{H':Hp},SX e HC H'->Same B' H':=λ{H'} sx b o h=>sx _ _ (λ z=>by rw[z,st.e0]at h;cases h) ((sB.trans (SB.trans sC)) _ _ h);subst Z1;walk_at "r";refine⟨_,f0.same (Bs N2),_,(rfl:atI _ 0=some (.str a0)),?_⟩;obtain⟨v3,l3⟩:=v2.put (x:="own") (.str a0) (.inr rfl);refine⟨_,DPut.k (k:=.inr "own") E3 l3,?_⟩;have I3:SX e HD (upd HD e (.dK (putK h0 (.inr "own") (.str a0)))):=SX.put _;have J3:upd HD e (.dK (putK h0 (.inr "own") (.str a0))) e=some (.dK (putK h0 (.inr "own") (.str a0))):=Z0b;generalize upd HD e (.dK (putK h0 (.inr "own") (.str a0)))=HE at*;have L3:valV (putK h0 (.inr "own") (.str a0)) (.inr "names")=some (.ref nb):=by rw[Z0N,if_neg qS];exact vn
    have M3:valV (putK h0 (.inr "own") (.str a0)) (.inr "own")=some (oS (some a0)):=by rw[Z0N,if_pos rfl];rfl
    generalize putK h0 (.inr "own") (.str a0)=z0 at*;have N3:z0.length<=18+S.cp.val:=by have:=v3.le;have:=Z3Q z0 "names";have:=Z3Q z0 "own";omega
    have j0:SX e HC HE:=N2.trans I3;have cE:CA K HE e B' S nb (some a0) n False 2:=⟨st,Bs j0,⟨z0,J3,N3,v3.h,v3.s,v3.n,v3.m,v3.l,L3,M3,v3.p⟩,⟨_,j0 _ _ I2 eC,?_,?_⟩,I2,λ h=>by omega,λ y hy=>by cases hy;exact n0⟩
    rotate_left
    · have:=Z4m (λ i=>.inr ([M,J,O,G].getD i "")) (λ i=>[V.str "number",.str x,.str x,.str x].getD i .non) 4;show(absD _ _ 4).length+2<=30;omega
    · intro kv hkv;obtain⟨j,hj,rfl⟩:=Z5b hkv;have hj:j<4:=hj;match j,hj with
      |0,_=>exact⟨_,_,rfl,.inl (.inl rfl)⟩
      |1,_=>exact⟨_,_,rfl,.inr b5⟩
      |2,_=>exact⟨_,_,rfl,.inr b5⟩
      |3,_=>exact⟨_,_,rfl,.inr b5⟩
    have d0:∀{b:V0}{o:HO},(∀kv,o≠.dK kv)->HC b=some o->HE b=some o:=λ{b o} nk h=>j0 _ _ (λ z=>by rw[z,J2]at h;cases h;exact nk _ rfl) h;have A0:HE D9=some (.lst [.ref N8,.ref N9,.ref B1]):=d0 (λ _ z=>by cases z) (sC _ _ e9);have g8:=d0 (λ _ z=>by cases z) (sC _ _ f8);have g9:=d0 (λ _ z=>by cases z) (sC _ _ f9);have O2:=d0 (λ _ z=>by cases z) (sC _ _ p0);subst Y1;walk_at "r";refine⟨_,SqL.of A0,_,ix0,_,SqT.of (Bs j0 _ _ b3),_,ix0,e,B',S,nb,some a0,n,False,pl,kk,0,rfl,cE,Bs j0 _ _ b4,qR,by have:kk.length*dr 2<=4*dr 2:=qg3 _ b6;omega,λ k' c0=>⟨b7 k' c0,.inr ⟨qQ,(b7 k' c0).imp_right λ m=>⟨m,.inr (qa1 _)⟩⟩⟩,λ ga us ts nF HF sF O3 I1 Q2 S2 j5 tok=>New.of λ J1 HG hG sG eG=>?_⟩;have I1:nF<=n+4*dr 2:=qb9 I1 (Nat.add_le_add_left (qg3 _ b6) _);have cG:=(cE.go sF O3).same sG;have s0:=cE.kt sF;have N1:∀{T:V0}{y:V2},HE T=some (.tup [.str "name",.str y])->RT K HG (.ref T) (P15.Tm.mk .name (.str y) []).dat:=λ{T y} h=>.tup (SqT.of (sG _ _ (s0.t _ _ h))) (.cons (.str _) (.cons (.str _) .nil));have m8:=N1 g8;have m9:=N1 g9;have T2:=N1 O2;have O1:RT K HG (.ref J1) (P15.Tm.mk .call (.str wd) (.mk .name (.str J) []::ts)).dat:=.tup (SqT.of eG) (.cons (.str _) (.cons m8 (.cons (.str _) (.cons (.tup (Q2.same sG) (S2.same sG)) .nil))));have Q3:HG D9=some (.lst [.ref N8,.ref N9,.ref B1]):=sG _ _ (sF _ _ (cE.nel A0) A0);have R3:HG pp=some (.lst [.ref t6,.ref T8,.ref T9,.ref i0]):=by
      have h:=d0 (λ _ z=>by cases z) (sC _ _ C1);exact sG _ _ (sF _ _ (cE.nel h) h)
    have w6:=sG _ _ (s0.t _ _ (d0 (λ _ z=>by cases z) (sC _ _ r6)));have w8:=sG _ _ (s0.t _ _ (d0 (λ _ z=>by cases z) (sC _ _ r8)));have w9:=sG _ _ (s0.t _ _ (d0 (λ _ z=>by cases z) (sC _ _ r9)));have S3:=sG _ _ (s0.t _ _ (d0 (λ _ z=>by cases z) (sC _ _ D1)));have T3:SX e H HG:=λ b o U2 h=>sG _ _ (sF _ _ U2 (j0 _ _ U2 ((SB.trans sC) _ _ h)));clear g8 g9 O2 r6 r8 r9 D1 S2 Q2 f8 f9 p0 A0 C1 e9 eC;have Y2:=f0.same cG.sm;subst S0;walk_at "r";refine⟨_,Y2,_,(rfl:atI _ 7=some (.str M)),New.of λ x1 G1 y1 z1 w1=>New.of λ x2 G2 y2 z2 w2=>New.of λ Q1 G3 y3 z3 w3=>?_⟩;have Z3:=z1.trans (z2.trans z3);have u0:RT K G3 (.ref Q1) (P15.Tm.mk .two (.str "-") [.mk .name (.str M) [],.mk .number (.int 1) []]).dat:=.tup (SqT.of w3) (.cons (.str _) (.cons (.str _) (.cons (.tup (SqT.of ((z2.trans z3) _ _ w1)) (.cons (.str _) (.cons (.str _) .nil))) (.cons (.tup (SqT.of (z3 _ _ w2)) (.cons (.str _) (.cons (.int _) .nil))) .nil))));clear w1 w2 w3;subst R0;walk_at "r";have B0:=Z3 _ _ Q3;refine New.of λ x4 G4 y4 z4 w4=>⟨_,Y2.same (Z3.trans z4),_,(rfl:atI _ 11=some (.str I)),_,SqL.of (z4 _ _ B0),_,ix1,_,SqL.of (z4 _ _ B0),_,(rfl:atI _ 2=some (.ref B1)),_,SqL.of (z4 _ _ B0),_,ix0,New.of λ x5 G5 y5 z5 w5=>New.of λ C0 G6 y6 z6 D0=>?_⟩;have Z6:=z4.trans (z5.trans z6);have G0:RT K G6 (.ref C0) (P15.Tm.mk .call (.str I) [.mk .self .non [],.mk .two (.str "-") [.mk .name (.str M) [],.mk .number (.int 1) []],.mk .name (.str O) [],.mk .name (.str G) [],.mk .name (.str J) []]).dat:=.tup (SqT.of D0) (.cons (.str _) (.cons (.tup (SqT.of ((z5.trans z6) _ _ w4)) (.cons (.str _) .nil)) (.cons (.str _) (.cons (.tup (SqT.of (z6 _ _ w5)) (.cons (u0.same Z6) (.cons (m9.same (Z3.trans Z6)) (.cons (T2.same (Z3.trans Z6)) (.cons (m8.same (Z3.trans Z6)) .nil))))) .nil))));have k0:=Z3.trans Z6;clear w4 w5 D0 u0 m8 m9 T2 B0;subst Q0;walk_at "r";refine New.of λ x7 G7 y7 z7 w7=>New.of λ x8 G8 y8 z8 U3=>?_;have c8:=cG.same (k0.trans (z7.trans z8));obtain⟨ix,X,hX,eX⟩:=Z8f n0;have eX:X.name=a0:=eX;obtain⟨p,hp,Z2,g⟩:=c8.ha.ix ok.nd hX;obtain⟨c0,k1,k2⟩:=Z2.h;have k5:c0.length=X.heads.length:=k2.len;have m5:=L0 X (qb0 hX);rw[eX]at g;obtain⟨c4,f4,n5,g4,i4,q5⟩:=c8.ha.putHead st.dj (w:=I) (v:=.ref x8) (q:=([("number":V2),x,x,x],("number":V2))) hX hp k1 ⟨x8,x7,rfl,U3,z8 _ _ w7⟩;refine⟨_,f0.same c8.sm,_,(rfl:atI _ 0=some (.str a0)),_,g,_,rfl,_,Z2.heads,_,f0.same c8.sm,_,(rfl:atI _ 11=some (.str I)),_,rfl,_,DPut.k (k:=.inr I) k1 (by rw[sizeLine_eq];omega),?_⟩;have v0:SX p.ha G8 (upd G8 p.ha (.dK (putK c0 (.inr I) (.ref x8)))):=SX.put _;have c3:Kt G8 (upd G8 p.ha (.dK (putK c0 (.inr I) (.ref x8)))):=Kt.put _ k1 (λ _ z=>by cases z) λ _ _ z=>by cases z
    generalize upd G8 p.ha (.dK (putK c0 (.inr I) (.ref x8)))=G9 at*;have j4:p.ha≠e:=λ z=>by
      obtain⟨pB,f3,k4⟩:=st.ha.index hX;rw[hp]at f3;cases f3;obtain⟨r5,kB,_⟩:=k4.h;rw[z,st.e0]at kB;cases kB
    have g3:SqL K G9 nl ([a0,a1,a2,a3,a4,a5,a6,M,J,O,G,I].map V.str):=by
      rcases f0.same c8.sm with(h|⟨o',h⟩)|h
      · exact .inl (.inl (v0 _ _ (λ z=>by rw[z,k1]at h;cases h) h))
      · exact .inl (.inr ⟨o',v0 _ _ (λ z=>by rw[z,k1]at h;cases h) h⟩)
      · exact .inr h
    subst O0;walk_at "r";refine⟨_,g3,_,(rfl:atI _ 7=some (.str M)),New.of λ x1 K1 y1 z1 w1=>New.of λ x2 K2 y2 z2 w2=>New.of λ l4 K3 y3 z3 w3=>?_⟩;have Y3:=z1.trans (z2.trans z3);have m4:RT K K3 (.ref l4) (P15.Tm.mk .two (.str "<") [.mk .name (.str M) [],.mk .number (.int 1) []]).dat:=.tup (SqT.of w3) (.cons (.str _) (.cons (.str _) (.cons (.tup (SqT.of ((z2.trans z3) _ _ w1)) (.cons (.str _) (.cons (.str _) .nil))) (.cons (.tup (SqT.of (z3 _ _ w2)) (.cons (.str _) (.cons (.int _) .nil))) .nil))));have J0:∀{v:V}{dd:PyData},RT K G6 v dd->RT K K3 v dd:=λ h=>((h.same (z7.trans z8)).kt c3).same Y3;have I0:=J0 (O1.same k0);have w0:=J0 G0;obtain⟨sg,n4⟩:=J4s ((r:Int)/7);clear w1 w2 w3;subst N0;walk_at "r";refine New.of λ x4 K4 y4 z4 w4=>⟨qP,sg,n4,New.of λ x5 K5 y5 z5 w5=>New.of λ tb K6 y6 z6 D0=>?_⟩;have Y6:=z4.trans (z5.trans z6);have x0:RT K K6 (.ref tb) (P15.Tm.mk .iff .non [.mk .two (.str "<") [.mk .name (.str M) [],.mk .number (.int 1) []],.mk .number (.int 0) [],.mk .two (.str {cps:=#[sg]}) [.mk .call (.str wd) (.mk .name (.str J) []::ts),.mk .call (.str I) [.mk .self .non [],.mk .two (.str "-") [.mk .name (.str M) [],.mk .number (.int 1) []],.mk .name (.str O) [],.mk .name (.str G) [],.mk .name (.str J) []]]]).dat:=.tup (SqT.of D0) (.cons (.str _) (.cons (m4.same Y6) (.cons (.tup (SqT.of ((z5.trans z6) _ _ w4)) (.cons (.str _) (.cons (.int _) .nil))) (.cons (.tup (SqT.of (z6 _ _ w5)) (.cons (.str _) (.cons (.str _) (.cons (I0.same Y6) (.cons (w0.same Y6) .nil))))) .nil))));have lf:∀{L:Nat}{f:P15.Fm}{l:P15.Lb},okF f l 0->TOk L (.mk f l []):=λ h=>TOk.leaf h;have t1:∀s:V2,TOk 1 (P15.Tm.mk .two (.str s) [.mk .name (.str M) [],.mk .number (.int 1) []]):=λ s=>TOk.mk' rfl (λ p hp=>by
      rcases qa2.mp hp with z|z
      · rw[z];exact lf rfl
      · rw[qa3.mp z];exact lf rfl) (by show 2<=5;omega)
    have tc:TOk 3 (P15.Tm.mk .call (.str wd) (.mk .name (.str J) []::ts)):=TOk.mk' (qg1 (qa6 _)) (λ p hp=>(qa2.mp hp).elim (λ z=>by rw[z];exact lf rfl) (tok p)) (by show ts.length+1<=5;omega);have ta:TOk 2 (P15.Tm.mk .call (.str I) [.mk .self .non [],.mk .two (.str "-") [.mk .name (.str M) [],.mk .number (.int 1) []],.mk .name (.str O) [],.mk .name (.str G) [],.mk .name (.str J) []]):=TOk.mk' (qg1 (qa6 _)) (λ p hp=>by
      simp only[qa2,ql7,or_false]at hp;rcases hp with rfl|rfl|rfl|rfl|rfl
      · exact lf rfl
      · exact t1 _
      · exact lf rfl
      · exact lf rfl
      · exact lf rfl) (by show 5<=5;omega)
    have tt:TOk 4 (P15.Tm.mk .two (.str {cps:=#[sg]}) [.mk .call (.str wd) (.mk .name (.str J) []::ts),.mk .call (.str I) [.mk .self .non [],.mk .two (.str "-") [.mk .name (.str M) [],.mk .number (.int 1) []],.mk .name (.str O) [],.mk .name (.str G) [],.mk .name (.str J) []]]):=TOk.mk' rfl (λ p hp=>by
      rcases qa2.mp hp with z|z
      · rw[z];exact tc
      · rw[qa3.mp z];exact ta.up) (by show 2<=5;omega)
    have i3:TOk 5 (P15.Tm.mk .iff .non [.mk .two (.str "<") [.mk .name (.str M) [],.mk .number (.int 1) []],.mk .number (.int 0) [],.mk .two (.str {cps:=#[sg]}) [.mk .call (.str wd) (.mk .name (.str J) []::ts),.mk .call (.str I) [.mk .self .non [],.mk .two (.str "-") [.mk .name (.str M) [],.mk .number (.int 1) []],.mk .name (.str O) [],.mk .name (.str G) [],.mk .name (.str J) []]]]):=TOk.mk' rfl (λ p hp=>by
      simp only[qa2,ql7,or_false]at hp;rcases hp with rfl|rfl|rfl
      · exact(t1 _).le qR
      · exact lf rfl
      · exact tt) (by show 3<=5;omega)
    generalize P15.Tm.mk .iff .non [.mk .two (.str "<") [.mk .name (.str M) [],.mk .number (.int 1) []],.mk .number (.int 0) [],.mk .two (.str {cps:=#[sg]}) [.mk .call (.str wd) (.mk .name (.str J) []::ts),.mk .call (.str I) [.mk .self .non [],.mk .two (.str "-") [.mk .name (.str M) [],.mk .number (.int 1) []],.mk .name (.str O) [],.mk .name (.str G) [],.mk .name (.str J) []]]]=R1 at x0 i3;have j3:=g3.same (Y3.trans Y6);have o4:∀{b:V0}{xs:List V},HG b=some (.tup xs)->K6 b=some (.tup xs):=λ h=>(Y3.trans Y6) _ _ (c3.t _ _ ((k0.trans (z7.trans z8)) _ _ h));have S1:=(k0.trans (z7.trans z8)) _ _ R3;have q4:=(Y3.trans Y6) _ _ (v0 _ _ (λ z=>by rw[z,k1]at S1;cases S1) S1);subst M0;walk_at "r";refine⟨_,j3,_,(rfl:atI _ 11=some (.str I)),_,.inl ⟨SqL.of q4,λ la r4=>New.of λ tr L2 y8 k3 m3=>?_⟩⟩;have t4:=Z0n r4 (.tup [.ref t6,.ref T8,.ref T9,.ref i0]);have u4:upd K6 la (.tup [.ref t6,.ref T8,.ref T9,.ref i0]) la=some (.tup [.ref t6,.ref T8,.ref T9,.ref i0]):=Z0b;generalize upd K6 la (.tup [.ref t6,.ref T8,.ref T9,.ref i0])=L1 at*;have YL:=t4.trans k3;have T1:=(Y3.trans Y6).trans YL;have g2:∀{T:V0}{y k:V2},HG T=some (.tup [.str y,.str k])->RT K L2 (.ref T) (.tuple [.str y,.str k]):=λ h=>.tup (SqT.of (YL _ _ (o4 h))) (.cons (.str _) (.cons (.str _) .nil));refine q (.ref tr) ⟨I,[(M,("number":V2)),(J,x),(O,x),(G,x)],("number":V2),R1⟩ x ix X p c4 nF _ hX eX hp (λ b o n1 n2 hb=>T1 _ _ (v0 _ _ n2 ((k0.trans (z7.trans z8)) _ _ (T3 _ _ n1 hb)))) (f4.same T1) qR g4 i4 ?_ I1 ?_ ⟨b5,rfl,rfl,rfl,i3⟩
    · obtain⟨kG,uG,vG⟩:=cG.ev.w;exact⟨kG,T1 _ _ (v0 _ _ (Ne.symm j4) ((k0.trans (z7.trans z8)) _ _ uG)),vG⟩
    · exact .tup (SqT.of m3) (.cons (.str _) (.cons (.tup (SqT.of (k3 _ _ u4)) (.cons (g2 w6) (.cons (g2 w8) (.cons (g2 w9) (.cons (g2 S3) .nil))))) (.cons (.str _) (.cons (x0.same YL) .nil))))
structure MOk(t:P15.Tm):Prop where
 ok:P15.Ok t
 fl:t.flat.length<=6000
 dp:t.depth<=13
noncomputable def J7C(d:Wd):PyData:=.tuple [Z2a d.params,.str d.kind,d.body.dat]
def tnd(S:ES)(ns:List V2):Prop:=∃X∈S.hs,X.name=ns.getD 0 ""/\(∃q,(ns.getD 11 "",q)∈X.heads)/\∀q,(ns.getD 11 "",q)∈X.heads->∃k∈hns S.hs,q.1=[("number":V2),k,k,k]
inductive Z9j(K:X0)(vs:List V)(H:Hp)(Q:VK):Prop
 |mk(e:V0)(B:Hp)(S:ES)(n:Nat)(pf:Prop)(nl:V0)(ns:List V2)(r:Nat)(b:Bool)(a1:vs=[.ref e,.ref nl,.int r,.bl b])(a2:StA K B e S pf)(a3:pf)(a4:Same B H)(a5:EwA H e S n pf)(a6:SqL K B nl (ns.map V.str))(a7:ns.length=12)(a8:ns.getD 0 ""∈hns S.hs)(a9:(b=true->tnd S ns))(a10:n+dr 5+4*(1+4*dr 2)<=1000000)(a11:∀(v:V)(d:Wd) H',SX e H H'->d.name=("main":V2)->d.params.length<=4->MOk d.body->RT K H' v (J7C d)->Q v H'):Z9j K vs H Q
def Z9h(K:X0):Sp:=λ a H Q _=>Z9j K a H Q
theorem J4i{H:Hp}{g:List (Key×V)}{hs:List (V2×List V2×V2)}(h:A2 (λ i (w:V2×List V2×V2)=>i.1=Sum.inr w.1/\HdA H i.2 w.2) g hs){w:V2}{j:List V2×V2}(m:(w,j)∈hs):∃v q,valV g (.inr w)=some v/\(w,q)∈hs/\HdA H v q:=by
 induction h with
 |nil=>cases m
 |@cons p x o bs e _ n=>
  by_cases z:x.1=w
  ·exact⟨p.2,x.2,Z0H (by rw[e.1,z]),by rw[<-z];exact qa9,e.2⟩
  ·rcases qa2.mp m with y|y
   ·rw[<-y]at z;exact absurd rfl z
   ·obtain⟨v,q,a,b,c⟩:=n y;exact⟨v,q,by rw[Z0z (by rw[e.1];exact λ q=>z (Sum.inr.inj q))];exact a,qb1 _ b,c⟩
theorem J6I(a b z:Int):∃x,atI [V.int a,.int b] (z%2)=some (.int x)/\(x=a\/x=b):=by
 have c:=qe7 z (show(2:Int)≠0 by decide);have g:=qf6 z (show(0:Int)<2 by decide);rcases(show z%2=0\/z%2=1 by omega)with e|e<;>rw[e]
 ·exact⟨a,rfl,.inl rfl⟩
 ·exact⟨b,rfl,.inr rfl⟩
theorem J8R(ns:List V2)(z:Int):∃a:List V2,cutV (ns.map V.str) (some 7) (some (7+z%5))=a.map V.str/\a.length<=4:=by
 unfold cutV;rw[<-ql8,<-qf7];refine⟨_,rfl,?_⟩;have b:=qe7 z (show(5:Int)≠0 by decide);have e:=qf6 z (show(0:Int)<5 by decide);obtain⟨m,c⟩:=qh1 b;rw[qb3,qg5,qa0,c,show(7:Int)+(m:Int)=((7+m:Nat):Int)by omega,HT.sIx_nat,show(7:Int)=((7:Nat):Int)from rfl,HT.sIx_nat];omega
theorem J4d(T:Txt K mg Cl Ct Cw Ch Cp)(G:Has P w K mg base 41 "_law_body" ["_law_env","_law_params","_law_own_here","_law_kind"] (Z6d K))(m:Has P w K mg base 24 "_law_make" ["_law_env","_law_wanted","_law_depth"] (Z4j K 2)):Has P w K mg base 42 "_law_main" ["_law_env","_law_names_here","_law_cell","_law_is_turned"] (Z9h K):=by
  refine Has.of T.O1n O0h (λ _ _ _ _ _ _ us hl=>el4 us hl λ _ _ _ _=>rfl) (λ vs H Q E h=>?_) (λ f E1 A N0 s H vs Q E hr h=>?_)
  · obtain⟨e,B',S,n,pf,nl,ns,r,b,rfl,_⟩:=h;rfl
  obtain⟨e,B',S,n,pf,nl,ns,r,b,rfl,st,O0,sB,ev,M,ln,n0,hb,hn,q⟩:=h;refine⟨_,(Z0a (qG 4 O0h.nd (Z0i Z1l (Z0t (Z0v Z0f (qK Z0f Z0f Z0f))) (Z0o (r:=Z5W) (Z1C rfl) rfl T.O0E Z3n (qI (qB hr 0))))) (Z0a (qG 5 O0h.nd (qD K (pvF 4) (Z0i Z0s (pvF 2) (qL T.z_len (qI (pvF 4)))))) (Z0a (qG 6 O0h.nd (Z0o Z0q rfl T.O0m Z0O (qI (Z0S rfl (BlockOk.plain (N:=["_law_name"]) rfl qP qP qP) (Z0P (Z0L (r:=rSlL K) Z1B (pvF 1) (Z0G Z0c) (Z0G (Z0i Z0R Z0c (Z0i Z0s (Z0i Z0x (pvF 2) Z0c) Z0c))))) (λ C fp s H=>(qH 0 (show(["_law_name"]:List V2).Nodup by decide+kernel))) (λ C fp s H=>(Z0m (qJ (pvF 0) Z0f))))))) (Z0a (qG 7 O0h.nd (qF G hr (Z0v (pvF 0) (qK (pvF 6) Z0V (pvF 5))))) (Z0a (Z0E (PW.pt (Z3d (Z3b (pvF 3)) (Z1Z (qM Z8a (Z0i Z0s (Z0i Z0x (pvF 2) Z0c) Z0c) Z0c)))) (Z0a (qG 8 O0h.nd (Z0m (qJ Z0f (Z0i Z0s (Z0i Z0x (pvF 2) Z0c) (qD K (Z0t (qJ Z0c Z0c)) (Z0i Z0s (Z0i Z0x (pvF 2) Z0c) Z0c)))))) (Z0a (Z1W (i:=9) O0h.nd rfl (Or.inr rfl) (qD K (qC K (qE hr (qE hr (qE hr (qB hr 0) (qD K (pvF 1) Z0c)) Z0f) (qD K (pvF 1) Z0c)) Z0c) Z0c)) (Z0a (qG 10 O0h.nd (Z0o Z0q rfl T.O0m Z0O (qI (Z0S rfl (BlockOk.of (N:=["_law_k","_law_env","_law_wanted"]) (nl:=[none,some 0,some 9]) (cl:=[("_law_wanted",s.heap.objs.size+2),("_law_env",s.heap.objs.size+1)]) rfl qP qP rfl (sub2 rfl rfl) (nm:=["_law_wanted","_law_env"]) rfl qP rfl (λ i hi j hj=>by
            match i,hi with
            | 0,_=>cases hj
             |1,_=>cases hj;exact⟨_,rfl,rfl,rfl,.inl rfl⟩
             |2,_=>cases hj;exact⟨_,rfl,rfl,rfl,.inl rfl⟩
            )) (Z1K rfl T.O0z (qI Z0c)) (λ C fp s H=>(qH 0 (show(["_law_k","_law_env","_law_wanted"]:List V2).Nodup by decide+kernel))) (λ C fp s H=>(qF m hr (qK (pvF 1) (pvF 2) Z0c))))))) (Z0a (qG 11 O0h.nd (Z0m (Z0v Z0f (qK (qF m hr (qK (pvF 0) (qD K (pvF 1) Z0c) Z0c)) (qD K (pvF 1) Z0c) (Z0i (r:=Z5I K) Z3i (Z0m (qI (pvF 8))) (pvF 10)))))) (Z0d (qG 7 O0h.nd (Z0m (Z0v Z0f (qK (qD K (Z0t (qJ Z0f Z0f)) (Z0o Z2z rfl T.z_int Z5r (qI (Z1z Z2g (pvF 5) Z0f (Z3f _))))) (pvF 11) (pvF 7)))))))))) Z0p) (Z0d (Z0j (Z0m (qK (pvF 6) (pvF 5) (pvF 7)))))))))),?_⟩
  have ok:=st.ok;have e0:=st.ha.same sB;obtain⟨f0,hk,v⟩:=ev;refine seq6 λ G1 O I1 s0 J1 t0 L1 u0 N1 v0=>?_;walk_at "r";refine New.of λ l1 H1 h1 s1 e1=>⟨_,.inl ⟨f0,.inr "halls",.inl (s1 _ _ hk),rfl,v.h.symm⟩,_,rfl,_,(e0.same s1).d,New.of λ l2 H2 h2 J e2=>⟨_,J _ _ e1,_,e2,?_,New.of λ l3 H3 h3 s3 e3=>?_⟩⟩
  · show 4+_<=_;rw[qa0,Z1v e0.a];have:=ok.le;omega
  rw[Z0K e0.a]at e3;have e3:H3 l3=some (.lst ((("number":V2)::("number":V2)::("truth":V2)::("number":V2)::hns S.hs).map V.str)):=e3;have w0:∀k∈("number":V2)::("number":V2)::("truth":V2)::("number":V2)::hns S.hs,KOk S.hs k:=λ k hk=>by
    simp only[qa2]at hk;rcases hk with z|z|z|z|z
    · exact .inl (.inl z)
    · exact .inl (.inl z)
    · exact .inl (.inr z)
    · exact .inl (.inl z)
    · exact .inr z
  have Q0:(("number":V2)::("number":V2)::("truth":V2)::("number":V2)::hns S.hs).length<=16:=by
    show(hns S.hs).length+4<=16;rw[show(hns S.hs).length=S.hs.length from qa0 _];have:=ok.le;omega
  have x0:0<(("number":V2)::("number":V2)::("truth":V2)::("number":V2)::hns S.hs).length:=qf2 _;generalize(("number":V2)::("number":V2)::("truth":V2)::("number":V2)::hns S.hs)=O1 at*;have S3:=s1.trans (J.trans s3);subst v0;walk_at "r";obtain⟨k,g0,ak⟩:=pick x0 (r:Int);refine⟨_,.inl (SqL.of e3),by rw[qa0];omega,_,SqL.of e3,_,ak,?_⟩;have g0:=w0 _ g0;clear w0 Q0 x0 ak;subst u0;walk_at "r";obtain⟨ws,ew,lw⟩:=J8R ns ((r:Int)/11);refine⟨_,(M.same sB).same S3,New.of λ l4 H4 h4 s4 e4=>⟨⟨_,SqL.of e4⟩,λ D hD=>?_⟩⟩;rw[ew]at e4;refine Z2A (ys:=ws.map V.str) none [] (λ j v H'=>∃y,(ws.map λ y=>(y,("number":V2)))[j]?=some y/\RT K H' v (.tuple [.str y.1,.str y.2])) (λ j v H1 H2 ⟨y,y1,y2⟩ sn=>⟨y,y1,y2.kp (kpN sn)⟩) rfl hD (by rw[qa0,sizeLine_eq];omega) (λ Hj sj=>SqL.of (sj _ _ e4)) (λ j y hy Hj K' sj R0=>?_) (λ tv H5 s5 e5 y0 hR=>?_)
  · rw[qa4]at hy;obtain⟨wd,hw,rfl⟩:=qc1.mp hy;walk_at "r";exact New.of λ tt Hk h0 sk S0=>R0 _ _ sk ⟨(wd,("number":V2)),by rw[qa4,hw];rfl,.tup (SqT.of S0) (.cons (.str _) (.cons (.str _) .nil))⟩
  refine⟨D,rfl,tv,.inl ⟨SqL.of e5,λ pa h6=>?_⟩⟩;have s6:=Z0n h6 (.tup tv);have e6:upd H5 pa (.tup tv) pa=some (.tup tv):=Z0b;generalize upd H5 pa (.tup tv)=H6 at*;have i0:PrT K H6 (.ref pa) (ws.map λ y=>(y,("number":V2))):=.tup (SqT.of e6) ((Z3G (λ p:V2×V2=>PyData.tuple [.str p.1,.str p.2]) (by rw[y0,qa0,qa0]) hR).same s6);have S6:=S3.trans (s4.trans (s5.trans s6));have T0:(ws.map λ y=>(y,("number":V2))).length<=4:=by rw[qa0];exact lw
  have U0:∀p∈ws.map λ y=>(y,("number":V2)),KOk S.hs p.2:=λ p hp=>by
    obtain⟨y,_,rfl⟩:=qb4.mp hp;exact .inl (.inl rfl)
  generalize(ws.map λ y=>(y,("number":V2)))=prs at*;clear hR e5 e4 e3 e1 e2 ew lw y0 e6;subst t0;walk_at "r";refine⟨e,B',S,n,pf,pa,prs,none,k,rfl,st,O0,sB.trans S6,⟨f0,S6 _ _ hk,v⟩,i0,qR,U0,(λ x z=>by cases z),g0,qR,λ bv bt n7 nb H7 j0 c7 l7 k0 I=>?_⟩;have z0:=S6 _ _ hk;have R:PrT K H7 (.ref pa) prs:=i0.kt ⟨λ b xs q=>j0 _ _ (λ z=>by rw[z,z0]at q;cases q) q,λ b o xs q=>j0 _ _ (λ z=>by rw[z,z0]at q;cases q) q⟩;have l0:SX e H H7:=λ b o m0 h=>j0 _ _ m0 (S6 _ _ h);clear i0 h6 s6 S6 s5 s4 S3 s3 J s1 h1 h2 h3 h4 hD;have fin:∀{v:V}{t:P15.Tm}{H':Hp},SX e H H'->RT K H' (.ref pa) (Z2a prs)->RT K H' v t.dat->MOk t->New H' (.tup [.ref pa,.str k,v]) λ p H2=>Q (.ref p) H2:=λ{v t H'} sx pr rt tk=>New.of λ p H2 h2 J e2=>q (.ref p) ⟨("main":V2),prs,k,t⟩ H2 (λ b o m0 h=>J _ _ (sx _ _ m0 h)) rfl T0 tk (.tup (SqT.of e2) (.cons (pr.same J) (.cons (.str _) (.cons (rt.same J) .nil))));subst s0;walk_at "r";refine ite2 (λ Y0=>ite2 (λ _=>?_) λ _=>?_) λ _=>?_
  rotate_left
  · skip
    subst O;walk_at "r";exact fin l0 R k0 ⟨I.ok,qb9 I.fl qS,by have:=I.dp;omega⟩
  · skip
    subst O;walk_at "r";exact fin l0 R k0 ⟨I.ok,qb9 I.fl qS,by have:=I.dp;omega⟩
  obtain⟨X,hX,eX,⟨q0,Z0⟩,b1⟩:=hb Y0;obtain⟨a0,a1,a2,a3,a4,a5,a6,a7,a8,a9,A0,L,rfl⟩:∃a0 a1 a2 a3 a4 a5 a6 a7 a8 a9 A0 L,ns=[a0,a1,a2,a3,a4,a5,a6,a7,a8,a9,A0,L]:=by
    match ns,ln with
    |[a,b,c,d,e,f,g,h,i,j,k,l],_=>exact⟨a,b,c,d,e,f,g,h,i,j,k,l,rfl⟩
  have eX:X.name=a0:=eX;have n0:a0∈hns S.hs:=n0;have c7:=c7.down.down.down;obtain⟨sg,d1,f1⟩:=J6I (7:Int) 46 ((r:Int)/1700);refine New.of λ l8 H8 h8 s8 e8=>⟨_,SqL.of e8,_,d1,_,rfl,by rcases f1 with z|z<;>rw[z]<;>decide,New.of λ tn H9 h9 s9 e9=>?_⟩;have S9:=s8.trans s9;have c9:=c7.same S9;obtain⟨ix,i1⟩:=qe5 hX;obtain⟨p,hp,B0,g⟩:=c9.ha.ix ok.nd i1;obtain⟨h0,k1,k2⟩:=B0.h;rw[eX]at g;obtain⟨v9,q9,g1,g2,g3⟩:=J4i k2 Z0;obtain⟨kx,C0,j1⟩:=b1 q9 g2;obtain⟨t9,p9,rfl,u1,u2⟩:=g3;rw[j1]at u2;have dg:∀{x:V2}{u:V},valV h0 (.inr x)=some u->DGet H9 p.ha (.str x) (some u):=λ{x u} q=>.inl ⟨h0,.inr x,.inl k1,rfl,q.symm⟩;refine⟨_,c9.get.1,_,M.same c9.sm,_,(rfl:atI _ 0=some (.str a0)),_,rfl,_,g,_,rfl,_,B0.heads,_,M.same c9.sm,_,(rfl:atI _ 11=some (.str L)),_,rfl,_,dg g1,_,rfl,_,SqT.of u1,_,ix0,_,rfl,_,SqL.of u2,_,ix1,λ D hD=>?_⟩;have b0:D≠e:=λ z=>by obtain⟨f0,h,_⟩:=c9.ev;rw[z,h]at hD;cases hD
  have D0:D≠nb:=λ z=>by obtain⟨nk,h,_⟩:=c9.nm;rw[z,h]at hD;cases hD
  have G0:B' D=none:=Z3l c9.sm hD;refine Z6k (n:=3) none [some (.ref e),some (.str kx)] (λ _ _=>True) (λ i vs H1=>(∀b o,b≠e->b≠D->H9 b=some o->H1 b=some o)/\H1 D=some (.lst vs)/\∃n',CA K H1 e B' S nb none n' pf 2/\n'<=n7+i*(1+4*dr 2)/\∃U,RTs K H1 vs (P15.dats U)/\U.length=i/\∀t∈U,TOk 3 t) rfl (by rw[sizeLine_eq];omega) ⟨λ b o _ nb h=>by rw[Z0e nb];exact h,Z0b,n7,c9.beside _ G0 b0 D0,qR,[],.nil,rfl,λ t ht=>by cases ht⟩ (λ i vs H1 hi hW=>⟨hi,λ x H2 hx=>⟨hx.1,trivial⟩⟩) (λ vs H1 hW=>qa1 _) (λ i x vs H1 K' hi hx hW I0 kk=>?_) (λ vs H1 hW hv lv=>?_)
  · obtain⟨sx,_,n1,c1,m1,U,o0,J0,tok⟩:=hW;have hm:(i+1)*(1+4*dr 2)<=3*(1+4*dr 2):=qg3 _ hi;rw[qf5]at hm;walk_at "r";refine⟨e,B',S,nb,none,n1,pf,kx,1,rfl,c1,qR,C0,⟨.inr C0,.inl ⟨qQ,qQ⟩⟩,λ v t n2 H2 J o1 Q1 rt tk=>kk v H2 (J _ _ b0 I0) ⟨λ b o nb nd h=>?_,Z0b,n2,(c1.go J o1).beside _ G0 b0 D0,by rw[qf5];omega,U++[t],?_,by rw[qa5,J0];rfl,λ t' ht=>?_⟩⟩
    · rw[Z0e nd];exact J _ _ nb (sx _ _ nb nd h)
    · rw[Z7k];have kt:Kt H2 (upd H2 D (.lst (vs++[v]))):=Kt.put _ (J _ _ b0 I0) (λ _ z=>by cases z) λ _ _ z=>by cases z
      exact(((o0.kt (c1.kt J)).app (.cons rt .nil))).kt kt
    · rcases qb5.mp ht with z|z
      · exact tok t' z
      · rw[qa3.mp z];exact tk
  obtain⟨sx,_,n1,c1,m1,U,o0,J0,tok⟩:=hW;have p1:SX e H9 H1:=λ b o nb h=>sx _ _ nb (λ z=>by rw[z,hD]at h;cases h) h;refine⟨D,rfl,vs,.inl ⟨SqL.of hv,λ l hl=>?_⟩⟩;have J:=Z0n hl (.tup vs);have e2:upd H1 l (.tup vs) l=some (.tup vs):=Z0b;generalize upd H1 l (.tup vs)=H2 at*;have c2:=c1.same J;refine⟨_,M.same c2.sm,_,(rfl:atI _ 0=some (.str a0)),e,B',S,nb,none,n1,pf,a0,0,rfl,c2,qR,n0,⟨.inr n0,.inr ⟨qQ,.inr ⟨n0,.inr qS⟩⟩⟩,λ v3 t3 n3 H3 c0 q1 R1 r1 t1=>?_⟩;have c3:=c2.go c0 q1;have v1:RTs K H3 vs (P15.dats U):=(o0.same J).kt (c2.kt c0);have w1:SqT K H3 l vs:=SqT.of ((c2.kt c0).t _ _ e2);have d0:SX e H9 H3:=λ b o nb h=>c0 _ _ nb (J _ _ (p1 _ _ nb h));have Y:SX e H7 H3:=λ b o nb h=>d0 _ _ nb (S9 _ _ h);have x1:RT K H3 (.ref tn) (P15.Tm.mk .number (.int ((r:Int)/240%sg)) []).dat:=.tup (SqT.of ((c9.kt d0).t _ _ e9)) (.cons (.str _) (.cons (.int _) .nil));have z1:=k0.kt (c7.kt Y);have A1:=R.kt (c7.kt Y);have L0:SX e H H3:=λ b o nb h=>Y _ _ nb (l0 _ _ nb h);refine⟨_,M.same c3.sm,_,(rfl:atI _ 11=some (.str L)),New.of λ p4 H4 h4 s4 e4=>⟨_,_,_,_,rfl,rfl,SqT.of e4,w1.same s4,by rw[lv,sizeLine_eq];show 1+3<=_;omega,λ p5 H5 s5 e5=>New.of λ tc H6 h6 s6 e6=>New.of λ l6 S1 T1 s7 e7=>.inr ?_⟩⟩;obtain⟨op,B1⟩:∃op:V2,atI [V.str ";",.str "+"] (if k=Str.ofString "number" then 1 else 0)=some (.str op):=by
    by_cases z:k=Str.ofString "number"
    · rw[if_pos z];exact⟨_,rfl⟩
    · rw[if_neg z];exact⟨_,rfl⟩
  refine⟨_,SqL.of e7,_,B1,New.of λ t8 C1 U1 M0 D1=>?_⟩;subst O;walk_at "r";have Z5:=s4.trans s5;have Z6:=s6.trans (s7.trans M0);have Z:=Z5.trans Z6;have p0:RT K C1 (.ref tc) (P15.Tm.mk .call (.str L) (t3::.mk .number (.int ((r:Int)/240%sg)) []::U)).dat:=.tup (SqT.of ((s7.trans M0) _ _ e6)) (.cons (.str _) (.cons (r1.same Z) (.cons (.str _) (.cons (.tup (e5.same Z6) (.cons (x1.same Z) (v1.same Z))) .nil))));refine fin (t:=.mk .two (.str op) [.mk .call (.str L) (t3::.mk .number (.int ((r:Int)/240%sg)) []::U),bt]) (λ b o nb h=>Z _ _ (L0 _ _ nb h)) (A1.same Z) (.tup (SqT.of D1) (.cons (.str _) (.cons (.str _) (.cons p0 (.cons (z1.same Z) .nil))))) ?_;have r0:TOk 4 (P15.Tm.mk .call (.str L) (t3::.mk .number (.int ((r:Int)/240%sg)) []::U)):=TOk.mk' (qg1 (qa6 _)) (λ p hp=>by
    rcases qa2.mp hp with z|z
    · rw[z];exact t1
    · rcases qa2.mp z with z|z
      · rw[z];exact TOk.leaf rfl
      · exact tok p z) (by show U.length+1+1<=5;omega)
  refine⟨.mk rfl λ p hp=>?_,?_,?_⟩
  · rcases qa2.mp hp with z|z
    · rw[z];exact r0.ok
    · rw[qa3.mp z];exact I.ok
  · rw[P70.flat_mk,P70.flatR_cons,P70.flatR_cons];have h1:=r0.fl;have h2:=I.fl;have e1:zS 4=937:=by decide
    have e2:zS 5=4687:=by decide
    rw[e1]at h1;rw[e2]at h2;show 1+(_+(_+0))<=6000;omega
  · have h1:=r0.dp;have h2:=I.dp;show 1+max _ (max _ 0)<=13;omega
open P70 (Ha hns Cn Fl Sc KOk HOk Ev zS dr TOk Rk Lv HdOk nms)
def cutH(e:V0)(H:Hp):Hp:=λ b=>if b=e then none else H b
theorem Z5u{e:V0}{H:Hp}:cutH e H e=none:=if_pos rfl
theorem Z2b{e b:V0}{H:Hp}(h:b≠e):cutH e H b=H b:=if_neg h
theorem Z3g{e:V0}{H H':Hp}(s:SX e H H'):Same (cutH e H) H':=λ b o h=>by
 by_cases z:b=e
 ·rw[z,Z5u]at h;cases h
 ·rw[Z2b z]at h;exact s _ _ z h
theorem SqL.cut{K:X0}{e a:V0}{H:Hp}{xs:List V}{kvs:List (Key×V)}(h:SqL K H a xs)(b:H e=some (.dK kvs)):SqL K (cutH e H) a xs:=by
 rcases h with(q|⟨o,q⟩)|q
 ·exact .inl (.inl ((Z2b (λ z=>by rw[z,b]at q;cases q)).trans q))
 ·exact .inl (.inr ⟨o,(Z2b (λ z=>by rw[z,b]at q;cases q)).trans q⟩)
 ·exact .inr q
def Off(e hd:V0)(ps:List Ad):Prop:=hd≠e/\∀p∈ps,p.a≠e/\p.ha≠e
theorem HA.off{H:Hp}{e hd:V0}{ps:List Ad}{hs:List Ha}(x:HA H hd ps hs)(h:H e=none):Off e hd ps:=by
 refine⟨λ z=>?_,λ p a=>?_⟩
 ·rcases x.d with q|⟨o,q⟩<;>rw[z,h]at q<;>cases q
 ·obtain⟨j,b⟩:=qe5 a;obtain⟨X,_,r⟩:=x.a.at b;refine⟨λ z=>?_,λ z=>?_⟩
  ·have:=r.d;rw[z,h]at this;cases this
  ·obtain⟨c,q,_⟩:=r.h;rw[z,h]at q;cases q
theorem HA.cut{H:Hp}{e hd:V0}{ps:List Ad}{hs:List Ha}{kvs:List (Key×V)}(x:HA H hd ps hs)(o:Off e hd ps)(g:H e=some (.dK kvs)):HA (cutH e H) hd ps hs:=by
 refine⟨x.d.imp (λ q=>(Z2b o.1).trans q) λ⟨m,q⟩=>⟨m,(Z2b o.1).trans q⟩,?_⟩;have nt:∀{b:V0}{c:List V},H b=some (.tup c)->cutH e H b=some (.tup c):=λ{b c} q=>(Z2b (λ z=>by rw[z,g]at q;cases q)).trans q;have i:∀{b:V0}{c:List V},H b=some (.lst c)->cutH e H b=some (.lst c):=λ{b c} q=>(Z2b (λ z=>by rw[z,g]at q;cases q)).trans q;refine x.a.monoM λ p h j y=>⟨(Z2b (o.2 p j).1).trans y.d,?_,?_⟩
 ·obtain⟨fs,a,b⟩:=y.f;exact⟨fs,i a,b.mono λ _ _ ⟨t,e,r⟩=>⟨t,e,nt r⟩⟩
 ·obtain⟨n,a,b⟩:=y.h;exact⟨n,(Z2b (o.2 p j).2).trans a,b.mono λ _ _ ⟨e,t,u,v,A,C⟩=>⟨e,t,u,v,nt A,i C⟩⟩
theorem J3j{ns:List V2}(h:ns.length=12):∃m:List V2,cutV (ns.map V.str) (some 7) (some 11)=m.map V.str/\m.length=4:=by
 match ns,h with
 |[a,b,c,d,e,f,g,h,i,j,k,l],_=>exact⟨[h,i,j,k],rfl,rfl⟩
def TvOk(K:X0)(H:Hp)(tv:V)(ns:List V2)(hs:List Ha):Prop:=tv=.non\/∃(a:V0)(d:Wd),tv=.ref a/\RT K H tv (Z2y d)/\d.name=ns.getD 11 ""/\TOk 5 d.body/\d.params.length<=4/\∃X∈hs,X.name=ns.getD 0 ""/\(∃q,(ns.getD 11 "",q)∈X.heads)/\∀q,(ns.getD 11 "",q)∈X.heads->∃k∈hns hs,q.1=[("number":V2),k,k,k]
theorem J1X:∀{ps:List Ad}{b:List Ha}{R:Ad->Ha->Prop}{i:Nat}{a:Key×V},A2 R ps b->(kvs7 ps b)[i]?=some a->∃X,b[i]?=some X/\a.1=.inr X.name
 |_,_,_,i,a,.nil,h=>by cases h
 |_,_,_,0,a,.cons r t,h=>by cases h;exact⟨_,rfl,rfl⟩
 |_,_,_,i+1,a,.cons r t,h=>J1X (i:=i) t h
theorem J1v{ns:List V2}(h:ns.length=12)(n:ns.Nodup):∃m:List V2,cutV (ns.map V.str) (some 3) (some 7)=m.map V.str/\m.length=4/\(m++[ns.getD 11 ""]).Nodup:=by
 match ns,h with
 |[a,b,c,d,e,f,g,h,i,j,k,l],_=>exact⟨[d,e,f,g],rfl,rfl,ql6 (l₂:=[a,b,c,d,e,f,g,h,i,j,k,l]) (.cons _ (.cons _ (.cons _ (.cons₂ _ (.cons₂ _ (.cons₂ _ (.cons₂ _ (.cons _ (.cons _ (.cons _ (.cons _ (.cons₂ _ .slnil)))))))))))) n⟩
theorem Z8q{xs:List V2}{j:Nat}(h:j<xs.length):atI (xs.map V.str) (j:Int)=some (.str (xs.getD j "")):=Z1w (by rw[qa4,qa8 h,qd3,qa8 h];rfl)
def Z5n(ns kk:List V2):List (V2×V2):=(qd2 kk.length).map λ j=>(ns.getD (7+j) "",kk.getD j "")
theorem J3L{ns a:List V2}{j:Nat}(h:j<a.length):(Z5n ns a)[j]?=some (ns.getD (7+j) "",a.getD j ""):=by
 unfold Z5n;rw[qa4,qm8 h];rfl
theorem J2A{ns kk:List V2}{p:V2×V2}(h:p∈Z5n ns kk):p.2∈kk:=by
 obtain⟨j,a,rfl⟩:=qb4.mp h;have a:=qf9.mp a;show kk.getD j ""∈kk;rw[qd3,qa8 a];exact qh0 a
noncomputable def PGJ(K:X0)(n4:List V2)(e tl:V0)(S2:ES)(H0:Hp)(n7:Nat)(σ0:List (Option V)->St)(m:Nat)(i:Nat)(σ:St)(H':Hp):Prop:=∃(c:List V)(a:List Wd)(g:Nat)(h:List (Option V)),(∀b j,b≠e->b≠tl->H0 b=some j->H' b=some j)/\H' tl=some (.lst c)/\RTs K H' c (a.map Z2y)/\(a.map Wd.name).Sublist (n4.take i)/\(∀d∈a,TOk 5 d.body/\d.params.length<=4)/\EwA H' e S2 g True/\g<=n7+i*dr 5/\h.length=m/\σ=σ0 h
theorem RTs.take{K:X0}{H:Hp}:∀{a:List V}{b:List PyData}(i:Nat),RTs K H a b->RTs K H (a.take i) (b.take i)
 |_,_,0,_=>.nil
 |_,_,i+1,.nil=>.nil
 |_,_,i+1,.cons r t=>.cons r (RTs.take i t)
theorem RTs.drop{K:X0}{H:Hp}:∀{a:List V}{b:List PyData}(i:Nat),RTs K H a b->RTs K H (a.drop i) (b.drop i)
 |_,_,0,h=>h
 |_,_,i+1,.nil=>.nil
 |_,_,i+1,.cons r t=>RTs.drop i t
theorem J9H{K:X0}{H:Hp}:∀(o:Option V2),RT K H (oS o) (oD o)
 |none=>.non
 |some s=>.str s
structure HsR(X:Ha)(G:Hs):Prop where
 n:G.name=X.name
 e:G.elder=X.elder
 f:G.fields=X.fields
 nd:(G.words.map Wd.name).Nodup
 l:G.words.length<=5
 w:∀d∈G.words,TOk 5 d.body/\d.params.length<=4
noncomputable def PGI(K:X0)(ns:List V2)(hs2:List Ha)(e hl:V0)(S2:ES)(H0:Hp)(n7:Nat)(σ0:List (Option V)->St)(m:Nat)(i:Nat)(σ:St)(H':Hp):Prop:=∃(c:List V)(a:List Hs)(g:Nat)(h:List (Option V)),(∀b n,b≠e->b≠hl->H0 b=some n->H' b=some n)/\H' hl=some (.lst c)/\RTs K H' c (a.map Z2l)/\a.length=i/\(∀(j:Nat) G,a[j]?=some G->∃X,hs2[j]?=some X/\HsR X G)/\EwA H' e S2 g True/\g<=n7+i*(4*dr 5)/\h.length=m/\σ=σ0 h
theorem J2Z{vs:List V}{k:Nat}(h:k<=vs.length):cutV vs (some (k:Int)) none=vs.drop k:=by
 unfold cutV;rw[HT.sIx_nat,HT.sIx_none,qi8 h];exact qd6 (by rw[qg5];exact qa1 _)
theorem J4t{vs:List V}{k:Nat}(h:k<=vs.length):cutV vs none (some (k:Int))=vs.take k:=by
 unfold cutV;rw[HT.sIx_nat,HT.sIx_none,qi8 h];rfl
structure GnOk(G:Pg):Prop where
 nd:(G.houses.map Hs.name).Nodup
 hs:∀h∈G.houses,(h.words.map Wd.name).Nodup/\h.words.length<=5/\h.fields.length<=4/\∀d∈h.words,TOk 5 d.body/\d.params.length<=4
 le:G.houses.length<=12
 cn:∀h∈G.houses,∃es,PW.Chain G h.name es/\es.length<=12
 mn:G.main.name="main"
 mp:G.main.params.length<=4
 mb:MOk G.main.body
theorem J3Z{hs:List Ha}{G:Pg}(h:∀X∈hs,∃H∈G.houses,HsR X H){x:V2}{es:List V2}(c:Cn hs x es):PW.Chain G x es:=by
 induction c with
 |top m e=>
  obtain⟨H,a,r⟩:=h _ m;exact .top ⟨a,r.n⟩ (r.e.trans e)
 |up m e _ b=>
  obtain⟨H,a,r⟩:=h _ m;exact .up ⟨a,r.n⟩ (r.e.trans e) b
theorem gnok{hs:List Ha}{ch:V2->List V2}{v:V2->List (V2×V2)}{Gs:List Hs}{m:Wd}(ok:HOk hs ch v)(x:Gs.length=hs.length)(n:∀(j:Nat) G,Gs[j]?=some G->∃X,hs[j]?=some X/\HsR X G)(k:Nat)(y:m.name=("main":V2))(z:m.params.length<=4)(A:MOk m.body):GnOk ⟨Gs.drop k++Gs.take k,m⟩:=by
 have o:(Gs.drop k++Gs.take k).Perm Gs:=by
  refine List.perm_append_comm.trans ?_;rw[qj1]
 have p:∀h,h∈Gs.drop k++Gs.take k↔h∈Gs:=λ h=>o.mem_iff;have nms:Gs.map Hs.name=hns hs:=by
  refine ql2 λ j=>?_;unfold P70.hns;rw[qa4,qa4];cases e:Gs[j]? with
  |none=>rw[qk2]at e;rw[qk0 qR];rfl
  |some G=>obtain⟨X,c,r⟩:=n j G e;rw[c];exact congrArg some r.n
 have bk:∀X∈hs,∃H∈Gs,HsR X H:=λ X c=>by
  obtain⟨j,g⟩:=qe5 c;have u:j<Gs.length:=by have:=(qa7.mp g).1;omega
  obtain⟨E,i,r⟩:=n j _ (qa8 u);rw[g]at i;cases i;exact⟨_,qh0 u,r⟩
 refine⟨?_,λ h q=>?_,?_,λ h q=>?_,y,z,A⟩
 ·refine(List.Perm.map Hs.name o).nodup_iff.mpr ?_;rw[nms];exact ok.nd
 ·obtain⟨j,g⟩:=qe5 ((p h).mp q);obtain⟨X,c,r⟩:=n j h g;exact⟨r.nd,r.l,by rw[r.f];exact ok.fl X (qb0 c),r.w⟩
 ·show(Gs.drop k++Gs.take k).length<=12;rw[o.length_eq,x];exact ok.le
 ·obtain⟨j,g⟩:=qe5 ((p h).mp q);obtain⟨X,c,r⟩:=n j h g;obtain⟨C,D,_⟩:=ok.cn X.name (qb6 (qb0 c));exact⟨ch X.name,by rw[r.n];exact J3Z (λ X c=>let⟨H,a,b⟩:=bk X c;⟨H,(p H).mpr a,b⟩) C,D⟩
inductive Z4L(K:X0)(vs:List V)(H:Hp)(Q:VK):Prop
 |mk(sc:V0)(is:List Int)(a1:vs=[.ref sc])(a2:SqL K H sc (is.map V.int))(a3:∀(v:V)(G:Pg) H',RT K H' v (Z6F G)->GnOk G->Q v H'):Z4L K vs H Q
def Z8d(K:X0):Sp:=λ a H Q _=>Z4L K a H Q
theorem Z8u(T:Txt K mg Cl Ct Cw Ch Cp)(I:Has P w K mg base 1 "_law_cell_at" ["_law_script","_law_k"] (Z6g K))(L:Has P w K mg base 1 "_law_mixed" ["_law_cell","_law_k"] Z3S)(d0:Has P w K mg base 1 "_law_names" ["_law_shift"] (Z8L K))(e0:Has P w K mg base 4 "_law_halls" ["_law_script","_law_names_here"] (Z7x K))(a0:Has P w K mg base 24 "_law_turner" ["_law_env","_law_names_here","_law_cell"] (Z7y K))(g0:Has P w K mg base 41 "_law_body" ["_law_env","_law_params","_law_own_here","_law_kind"] (Z6d K))(i0:Has P w K mg base 42 "_law_main" ["_law_env","_law_names_here","_law_cell","_law_is_turned"] (Z9h K)):Has P w K mg base 43 "_law_program" ["_law_script"] (Z8d K):=by
  refine Has.of T.O0P O0a (λ _ _ _ _ _ _ us hl=>el1 us hl λ _=>rfl) (λ M H Q E h=>?_) (λ f Y5 A A4 s H M Q E Y h=>?_)
  · obtain⟨sc,is,rfl,_⟩:=h;rfl
  obtain⟨sc,is,rfl,a2,q⟩:=h;refine⟨_,(Z0a (Z1W (i:=1) O0a.nd rfl (Or.inr rfl) (qF d0 Y (qI (qF I Y (qJ (pvF 0) Z0c))))) (Z0a (qG 2 O0a.nd (qF e0 Y (qJ (pvF 0) (pvF 1)))) (Z0a (qG 3 O0a.nd (J2v (Z2S Z0f (pvF 2) (Z2S Z0f (pvF 0) (Z2S Z0f Z0c (Z2S Z0f Z0c J1q)))) rfl rfl (by exact List.cons_ne_nil _ _) qS)) (Z0a (Z1g (Z0r Y) (pvF 3) Z0f (Z0L (r:=rSlL K) Z1B (pvF 1) (Z0G Z0c) (Z0G Z0c)) rfl) (Z0a (qG 4 O0a.nd Z0V) (Z0a (Z0E (qM Z8a (Z0i Z0s (qF I Y (qJ (pvF 0) Z0c)) Z0c) Z0c) (Z0d (qG 4 O0a.nd (qF a0 Y (qK (pvF 3) (pvF 1) (qF L Y (qJ (qF I Y (qJ (pvF 0) Z0c)) Z0c)))))) Z0p) (Z0a (Z1g (Z0r Y) (pvF 3) Z0f (Z0L (r:=rSlL K) Z1B (pvF 1) (Z0G Z0c) (Z0G (Z0i Z0R Z0c (Z0i Z3m Z0c (Z0o Z2z rfl T.z_int Z5r (qI (Z1z Z1A (pvF 4) Z0V (Z3f _)))))))) rfl) (Z0a (qG 5 O0a.nd (Z0t Z0W)) (Z0a (PS.melt (Z0T PassesOwn.never rfl (Z2F (pvF 2)) (qH 6 O0a.nd) (Z0a (qG 7 O0a.nd (Z0t Z0W)) (Z0a (Z0T PassesOwn.never rfl (Z0P (Z0L (r:=rSlL K) Z1B (pvF 1) (Z0G Z0c) (Z0G Z0c))) (qH 8 O0a.nd) (Z0d (Z0E (Z5v (Z4s (Z0r Y) (pvF 8) (Z0l (Z0r Y) (Z0l (Z0r Y) (pvF 2) (pvF 6) (λ _ _=>rfl)) Z0f (λ _ _=>rfl))) (by with_unfolding_all rfl)) (Z0a (Z3V (Z0l (Z0r Y) (Z0l (Z0r Y) (Z0l (Z0r Y) (pvF 2) (pvF 6) (λ _ _=>rfl)) Z0f (λ _ _=>rfl)) (pvF 8) (λ _ _=>rfl)) (Z2Y (n:=2) rfl (Z0u (Z4I (i:=9) O0a.nd rfl (Or.inr rfl)) (Z0u (qH 10 O0a.nd) Z2P)))) (Z0a (qG 11 O0a.nd (Z0o Z0q rfl T.O0m Z0O (qI (Z0S rfl (BlockOk.of (N:=["_law_j","_law_kinds","_law_names_here"]) (nl:=[none,some 9,some 1]) (cl:=[("_law_names_here",s.heap.objs.size+1),("_law_kinds",s.heap.objs.size+2)]) rfl qP qP rfl (sub2 rfl rfl) (nm:=["_law_names_here","_law_kinds"]) rfl qP rfl (λ i hi j hj=>by
            match i,hi with
            | 0,_=>cases hj
             |1,_=>cases hj;exact⟨_,rfl,rfl,rfl,.inl rfl⟩
             |2,_=>cases hj;exact⟨_,rfl,rfl,rfl,.inl rfl⟩
            )) (Z1K rfl T.O0z (qI (qL T.z_len (qI (pvF 9))))) (λ C fp s H=>(qH 0 (show(["_law_j","_law_kinds","_law_names_here"]:List V2).Nodup by decide+kernel))) (λ C fp s H=>(Z0m (qJ (qD K (pvF 2) (Z0i Z0R Z0c (pvF 0))) (qD K (pvF 1) (pvF 0))))))))) (Z0a (qG 12 O0a.nd (qF g0 Y (Z0v (pvF 3) (qK (pvF 11) (pvF 6) (pvF 10))))) (Z0d (Z1a (Z2f qc9 qd7 qd8 Z0B (pvF 7) (qI (Z0m (Z0v (pvF 8) (qK (pvF 11) (pvF 10) (pvF 12))))))))))) Z0p))) (Z0a (Z0E (PW.pt (Z3d (qM Z2g (pvF 6) (qD K (pvF 1) Z0c)) (Z1Z (qM Z1A (pvF 4) Z0V)))) (Z0d (Z1a (Z2f qc9 PySem.F.slot_list_insert PySem.F.type_list_insert J1G (pvF 7) (qJ (Z0i Z0s (Z0i Z0x (qF I Y (qJ (pvF 0) Z0c)) Z0c) (Z0i Z0R (qL T.z_len (qI (pvF 7))) Z0c)) (pvF 4))))) Z0p) (Z0a (qG 13 O0a.nd (Z0o Z0q rfl T.O0m Z0O (qI (Z0l (Z0r Y) (Z0l (Z0r Y) (pvF 2) (pvF 6) (λ _ _=>rfl)) Z0f (λ _ _=>rfl))))) (Z0d (Z1a (Z2f qc9 qd7 qd8 Z0B (pvF 5) (qI (Z0m (Z0v (pvF 6) (qK (Z0l (Z0r Y) (Z0l (Z0r Y) (pvF 2) (pvF 6) (λ _ _=>rfl)) Z0f (λ _ _=>rfl)) (pvF 13) (Z0o Z0q rfl T.O0m Z0O (qI (pvF 7)))))))))))))))) (Z0a (qG 14 O0a.nd (qF i0 Y (Z0v (pvF 3) (qK (pvF 1) (qF L Y (qJ (qF I Y (qJ (pvF 0) Z0c)) Z0c)) (Z1z Z1A (pvF 4) Z0V (Z3f _)))))) (Z0a (qG 15 O0a.nd (Z0i Z0s (Z0i Z0x (qF I Y (qJ (pvF 0) Z0c)) Z0c) (qL T.z_len (qI (pvF 5))))) (Z0d (Z0j (Z0m (qJ (Z0o Z0q rfl T.O0m Z0O (qI (Z0i Z1l (Z0L (r:=rSlL K) Z1B (pvF 5) (Z0G (pvF 15)) Z2c) (Z0L (r:=rSlL K) Z1B (pvF 5) Z2c (Z0G (pvF 15)))))) (pvF 14)))))))))))))))),?_⟩
  refine J8L λ T5 d2 B4 Y2 Z5 Z2 a6 a3 b3 d3 b6 f3 c6 i3 d6 j3 f6 k3 g6 l3=>?_;walk_at "r";refine⟨sc,is,0,rfl,a2,λ c0=>⟨c0,rfl,λ nl H1 h1 s1 e1=>?_⟩⟩;obtain⟨ns,m0⟩:∃ns,nms c0=ns:=⟨_,rfl⟩;have nd:ns.Nodup:=by rw[<-m0];exact P70.nms_nd
  have C4:∀n∈ns,¬Sc n:=by rw[<-m0];exact P70.nms_sc
  have ln:ns.length=12:=by rw[<-m0];exact P70.nms_len
  rw[m0]at e1;clear m0;subst l3;walk_at "r";refine⟨sc,nl,is,ns,rfl,a2.same s1,SqL.of e1,ln,nd,C4,λ hd ps hs ch ff m H2 h2 s2 e2 n3 dj h6 ok o3 m2 m6 D4=>?_⟩;have S2:=s1.trans s2;subst k3;walk_at "r";refine New.of λ e H3 h3 s3 e3=>⟨e3,[(.inr "halls",.ref hd),(.inr "script",.ref sc),(.inr "spot",.int 0),(.inr "most",.int 9)],rfl,by show 4<=15;omega,?_⟩;have em:Z3a [] [(.inr "halls",V.ref hd),(.inr "script",.ref sc),(.inr "spot",.int 0),(.inr "most",.int 9)]=[(.inr "halls",V.ref hd),(.inr "script",.ref sc),(.inr "spot",.int 0),(.inr "most",.int 9)]:=rfl;rw[em];clear em;subst j3;walk_at "r";have s4:Same H2 (upd H3 e (.dK [(.inr "halls",V.ref hd),(.inr "script",.ref sc),(.inr "spot",.int 0),(.inr "most",.int 9)])):=λ b o hb=>by rw[Z0e (λ z=>by rw[z,h3]at hb;cases hb)];exact s3 _ _ hb
  have e4:upd H3 e (.dK [(.inr "halls",V.ref hd),(.inr "script",.ref sc),(.inr "spot",.int 0),(.inr "most",.int 9)]) e=some (.dK [(.inr "halls",V.ref hd),(.inr "script",.ref sc),(.inr "spot",.int 0),(.inr "most",.int 9)]):=Z0b;generalize upd H3 e (.dK [(.inr "halls",V.ref hd),(.inr "script",.ref sc),(.inr "spot",.int 0),(.inr "most",.int 9)])=H4 at*;obtain⟨i2,el,ll⟩:=J3j ln;refine⟨_,SqL.of ((s2.trans s4) _ _ e1),New.of λ l5 H5 h5 s5 e5=>⟨_,DPut.k (k:=.inr "lets") (s5 _ _ e4) (by rw[sizeLine_eq];show 4<_;omega),?_⟩⟩;have j2:SX e H5 (upd H5 e (.dK (putK [(.inr "halls",V.ref hd),(.inr "script",.ref sc),(.inr "spot",.int 0),(.inr "most",.int 9)] (.inr "lets") (.ref l5)))):=SX.put _;have e6:upd H5 e (.dK (putK [(.inr "halls",V.ref hd),(.inr "script",.ref sc),(.inr "spot",.int 0),(.inr "most",.int 9)] (.inr "lets") (.ref l5))) e=some (.dK [(.inr "halls",V.ref hd),(.inr "script",.ref sc),(.inr "spot",.int 0),(.inr "most",.int 9),(.inr "lets",.ref l5)]):=Z0b;generalize upd H5 e (.dK (putK [(.inr "halls",V.ref hd),(.inr "script",.ref sc),(.inr "spot",.int 0),(.inr "most",.int 9)] (.inr "lets") (.ref l5)))=H6 at*;rw[el]at e5;have S6:Same H2 H6:=λ b o hb=>j2 _ _ (λ z=>by rw[z,h3]at hb;cases hb) ((s4.trans s5) _ _ hb);have r3:l5≠e:=λ z=>by rw[z,e4]at h5;cases h5
  have e5:=j2 _ _ r3 e5;have off:Off e hd ps:=n3.off h3;have l2:=n3.same S6;have n2:SqL K H6 nl (ns.map V.str):=SqL.of ((s2.trans S6) _ _ e1);have R0:SqL K H6 sc (is.map V.int):=a2.same (S2.trans S6);have v3:hs≠[]:=λ z=>by
    have:=congrArg qd5 o3;rw[z,qb3,ln]at this;have:0=min m 12:=this;omega
  obtain⟨S,hS⟩:∃S:ES,S=⟨hd,sc,l5,l5,ps,hs,ch,ff,is,i2,[],0⟩:=⟨_,rfl⟩;have x3:EwA H6 e S 0 False:=by
    subst hS;exact⟨_,e6,by show 5<=16+0+_;omega,rfl,rfl,rfl,⟨_,rfl⟩,rfl,λ z=>z.elim⟩
  have E4:StA K (cutH e H6) e S False:=by
    subst hS;exact⟨Z5u,l2.cut off e6,dj,ok,v3,SqL.cut R0 e6,SqL.cut (SqL.of e5) e6,ll,λ z=>z.elim⟩
  have n0:ns.getD 0 ""∈hns hs:=by
    rw[o3];match ns,ln,m,m2 with
    |a::r,_,m+1,_=>exact qa9
  clear e4 s4 s5 e3 s3 j2 e2 h5;subst i3;walk_at "r";subst f3;walk_at "r";have rest:∀(tv:V)(hs2:List Ha)(n7:Nat)(H7:Hp),EwA H7 e S n7 False->n7<=4*dr 2->HA H7 hd ps hs2->HOk hs2 ch ff->hns hs2=hns hs->SqL K H7 nl (ns.map V.str)->SqL K H7 sc (is.map V.int)->SqL K H7 l5 (i2.map V.str)->TvOk K H7 tv ns hs2->b3 {nx:=λ x H'=>Q V.non H',rt:=Q} [some (V.ref sc),some (V.ref nl),some (V.ref hd),some (V.ref e),some tv,none,none,none,none,none,none,none,none,none,none,none] H7:=?_
  · have no:∀n7 H7,SX e H6 H7->EwA H7 e S n7 False->n7<=4*dr 2->b3 {nx:=λ x H'=>Q V.non H',rt:=Q} [some (V.ref sc),some (V.ref nl),some (V.ref hd),some (V.ref e),some .non,none,none,none,none,none,none,none,none,none,none,none] H7:=λ n7 H7 sx ev l=>rest _ hs n7 H7 ev l ((l2.cut off e6).same (Z3g sx)) ok rfl ((SqL.cut n2 e6).same (Z3g sx)) ((SqL.cut R0 e6).same (Z3g sx)) (SqL.of (sx _ _ r3 e5)) (.inl rfl);refine⟨sc,is,2,rfl,R0,λ c2=>⟨_,rfl,ite2 (λ _=>⟨sc,is,2,rfl,R0,λ c2=>⟨c2,1,rfl,qQ,qQ,λ r=>?_⟩⟩) λ _=>no 0 H6 (λ b o _ h=>h) x3 (qa6 _)⟩⟩;have I1:S.hs=hs:=by rw[hS]
    have i6:S.ch=ch:=by rw[hS]
    have j6:S.ff=ff:=by rw[hS]
    have G4:S.ps=ps:=by rw[hS]
    have I4:S.hd=hd:=by rw[hS]
    refine⟨e,cutH e H6,S,0,nl,ns,r,rfl,E4,Z3g (λ b o _ h=>h),x3,SqL.cut n2 e6,ln,by rw[I1];exact n0,by rw[I1];exact D4,qQ,λ n' H' sx ev l=>no n' H' sx ev qR,?_⟩;rw[I1,G4,I4];intro v d k ix X p y3 n' H' hX eX hp fr L4 lh M4 z3 G0 o2 rt N4;obtain⟨p0,A3,O4⟩:=l2.index hX;rw[hp]at A3;cases A3;obtain⟨k6,k0,_⟩:=O4.h;have sql:∀{a:V0}{xs:List V},SqL K H6 a xs->SqL K H' a xs:=λ{a xs} h=>by
      rcases h with(q|⟨o,q⟩)|q
      · exact .inl (.inl (fr _ _ (λ z=>by rw[z,e6]at q;cases q) (λ z=>by rw[z,k0]at q;cases q) q))
      · exact .inl (.inr ⟨o,fr _ _ (λ z=>by rw[z,e6]at q;cases q) (λ z=>by rw[z,k0]at q;cases q) q⟩)
      · exact .inr q
    obtain⟨t1,t2,t3,t4,t5⟩:=N4;rw[I1]at t1;have r2:=Ev.set hX y3;have Q4:=qb0 hX;refine rest v _ n' H' G0 qR L4 (ok.ev r2 λ h hh=>?_) r2.names (sql n2) (sql R0) (sql (SqL.of e5)) (.inr ?_)
    · rcases ql1 hh with z|z
      · exact ok.hd h z
      · rw[z];refine⟨lh,λ w hw=>?_⟩;rcases z3 w hw with y|y
        · exact(ok.hd X Q4).2 w y.1
        · rw[y];refine⟨qa1 4,λ k' S0=>?_,.inl (.inl rfl)⟩;have S0:k'∈[("number":V2),k,k,k]:=S0;simp only[qa2,ql7,or_false]at S0;rcases S0 with z|z|z|z
          · exact .inl (.inl z)
          · rw[z];exact .inr t1
          · rw[z];exact .inr t1
          · rw[z];exact .inr t1
    · obtain⟨a,_,rfl,_⟩:=RT.tup_inv rt;refine⟨a,d,rfl,rt,t2,t5,by rw[t3];exact qa1 4,{X with heads:=y3},List.mem_set (qa7.mp hX).1 _,eX,⟨_,M4⟩,λ q hq=>?_⟩;rcases z3 _ hq with y|y
      · exact absurd rfl y.2
      · cases y;exact⟨k,by rw[r2.names];exact t1,rfl⟩
  intro tv hs2 n7 H7 R4 l7 B3 f0 C3 v2 D3 E3 L1;subst d3;walk_at "r";obtain⟨Z,k7,v7⟩:=R4;obtain⟨x2,ep,lp⟩:=Z9t ns (some 3) (some (7+5*(if ¬tv=V.non then 1 else 0)));have S4:S.cp.val=0:=by rw[hS];rfl
  have U4:Z.length<=18:=by have:=v7.le;have:=Z3Q Z "names";have:=Z3Q Z "own";omega
  refine .inr ⟨_,v2,New.of λ pl H8 h8 s8 e8=>⟨_,DPut.k (k:=.inr "pool") (s8 _ _ k7) (by rw[sizeLine_eq];omega),?_⟩⟩;rw[ep]at e8;have k8:=s8 _ _ k7;have T0:SX e H8 (upd H8 e (.dK (putK Z (.inr "pool") (.ref pl)))):=SX.put _;have e9:upd H8 e (.dK (putK Z (.inr "pool") (.ref pl))) e=some (.dK (putK Z (.inr "pool") (.ref pl))):=Z0b;generalize upd H8 e (.dK (putK Z (.inr "pool") (.ref pl)))=H9 at*;obtain⟨S2,N1⟩:∃S2:ES,S2=⟨hd,sc,l5,pl,ps,hs2,ch,ff,is,i2,x2,1⟩:=⟨_,rfl⟩;have Y4:EwA H9 e S2 n7 True:=by
    have ne:∀{y:V2}{u':V},¬(Sum.inr y:Key)=.inr "pool"->valV Z (.inr y)=some u'->valV (putK Z (.inr "pool") (.ref pl)) (.inr y)=some u':=λ z q=>by rw[Z0N,if_neg z];exact q
    have hs:∀{y:V2},¬(Sum.inr y:Key)=.inr "pool"->has1 (putK Z (.inr "pool") (.ref pl)) y=has1 Z y:=λ{y} z=>by unfold has1;rw[Z0N,if_neg z]
    have:=Z1k Z (.inr "pool") (.ref pl);have:=v7.le;subst N1;subst hS;refine⟨_,e9,?_,ne qS v7.h,ne qS v7.s,ne qS v7.n,let⟨m,q⟩:=v7.m;⟨m,ne qS q⟩,ne qS v7.l,λ _=>by rw[Z0N,if_pos rfl]⟩;show _<=16+1+_;rw[hs qS,hs qS];omega
  have U0:Same (cutH e H7) H9:=Z3g λ b o nb h=>T0 _ _ nb (s8 _ _ h);have j0:=(B3.cut off k7).same U0;have G3:=(SqL.cut v2 k7).same U0;have O1:=(SqL.cut D3 k7).same U0;have I3:=(SqL.cut E3 k7).same U0;have L3:=T0 _ _ (λ z=>by rw[z,k7]at h8;cases h8) e8;have I0:Kt H7 H9:=⟨λ b xs q=>T0 _ _ (λ z=>by rw[z]at q;have:=s8 _ _ q;rw[k8]at this;cases this) (s8 _ _ q),λ b o xs q=>T0 _ _ (λ z=>by rw[z]at q;have:=s8 _ _ q;rw[k8]at this;cases this) (s8 _ _ q)⟩;have L1:TvOk K H9 tv ns hs2:=L1.imp_right λ⟨a,d,u1,u2,u3⟩=>⟨a,d,u1,u2.kt I0,u3⟩;clear T0 s8 h8 e8 k8 I0 U0 E3 D3 v2 B3 ep v7 U4 S4 k7;subst a3;walk_at "r";refine New.of λ hl n6 s0 J0 Z4=>?_;subst Z2;walk_at "r";have C0:=j0.same J0;refine forD rfl C0.d λ o L0 N fz hN=>?_;obtain⟨y2,k9,v9⟩:=Y4;have Y0:e≠hd:=Ne.symm off.1;have a5:=j0.frz dj (o:=o) (H2:=upd H9 hd (.frz o (.dK (kvs7 ps hs2)))) ⟨Z0b,λ b n=>Z0e n⟩;have eF:upd H9 hd (.frz o (.dK (kvs7 ps hs2))) e=some (.dK y2):=(Z0e Y0).trans k9;have b5:∀{b:V0}{xs:List V},H9 b=some (.lst xs)->b≠hd:=λ q z=>by
    rcases j0.d with y|⟨o',y⟩<;>rw[z,y]at q<;>cases q
  have Z0:∀{b:V0}{xs:List V},SqL K H9 b xs->SqL K (upd H9 hd (.frz o (.dK (kvs7 ps hs2)))) b xs:=λ{b xs} q=>by
    rcases q with(q|⟨o',q⟩)|q
    · exact .inl (.inl ((Z0e (b5 q)).trans q))
    · refine .inl (.inr ⟨o',(Z0e (λ z=>?_)).trans q⟩);rcases j0.d with y|⟨o',y⟩<;>rw[z,y]at q<;>cases q
    · exact .inr q
  obtain⟨B,hB⟩:∃B,B=cutH e (upd H9 hd (.frz o (.dK (kvs7 ps hs2)))):=⟨_,rfl⟩;have a1:hs2≠[]:=λ z=>v3 (by
    have:=congrArg qd5 C3;rw[z]at this;have h0:hs.length=0:=by rw[show hs.length=(hns hs).length from(qa0 _).symm,<-this];rfl
    exact qj0.mp h0)
  have z2:StA K B e S2 True:=by
    subst N1;rw[hB];exact⟨Z5u,a5.cut off eF,dj,f0,a1,SqL.cut (Z0 O1) eF,SqL.cut (Z0 I3) eF,ll,λ _=>⟨SqL.cut (Z0 (SqL.of L3)) eF,by show x2.length<=12;omega⟩⟩
  have B2:SqL K B nl (ns.map V.str):=by rw[hB];exact SqL.cut (Z0 G3) eF
  have c5:SqL K B sc (is.map V.int):=by rw[hB];exact SqL.cut (Z0 O1) eF
  have sB:∀{H':Hp},(∀b o',b≠e->b≠hl->L0 b=some o'->H' b=some o')->Same B H':=λ{H'} fr b u h=>by
    rw[hB]at h;have nb:b≠e:=λ z=>by rw[z,Z5u]at h;cases h
    rw[Z2b nb]at h;have o0:hl≠hd:=λ z=>by
      rcases j0.d with y|⟨o',y⟩<;>rw[z,y]at s0<;>cases s0
    by_cases hb:b=hd
    · subst hb;rw[Z0b]at h;cases h;exact fr _ _ nb (Ne.symm o0) fz.f
    · rw[Z0e hb]at h;exact fr _ _ nb (λ z=>by rw[z,s0]at h;cases h) ((fz.r _ hb).trans (J0 _ _ h))
  have M3:=z2.ha;have J:S2.hd=hd/\S2.ps=ps/\S2.hs=hs2/\S2.ch=ch/\S2.ff=ff:=by rw[N1];exact⟨rfl,rfl,rfl,rfl,rfl⟩
  have C2:L0 e=some (.dK y2):=(fz.r _ Y0).trans (J0 _ _ k9);have o0:hl≠hd:=λ z=>by
    rcases j0.d with y|⟨o',y⟩<;>rw[z,y]at s0<;>cases s0
  have d1:L0 hl=some (.lst []):=(fz.r _ o0).trans Z4;refine Z5i (PGI K ns hs2 e hl S2 L0 n7 (λ os=>some (V.ref sc)::some (V.ref nl)::some (V.ref hd)::some (V.ref e)::some tv::some (V.ref hl)::os) 10) ⟨[],[],n7,_,λ b o' _ _ h=>h,d1,.nil,rfl,(λ j G hj=>by cases hj),⟨y2,C2,v9⟩,qR,rfl,rfl⟩ (λ i σ H' _ hI=>?_) (λ i k' v' σ H' hy hI=>?_) (λ σ H' hI=>?_)
  · obtain⟨M,Gs,n',os,fr,_⟩:=hI;exact fr _ _ off.1 (Ne.symm o0) fz.f
  · obtain⟨M,Gs,n',os,fr,i1,Q1,lG,gs,G0,o2,u0,rfl⟩:=hI;obtain⟨o6,o7,o8,o9,j1,l1,n1,o1,r1,v1,rfl⟩:∃a b c d e f g h i j,os=[a,b,c,d,e,f,g,h,i,j]:=by
      match os,u0 with
      |[a,b,c,d,e,f,g,h,i,j],_=>exact⟨a,b,c,d,e,f,g,h,i,j,rfl⟩
    have p6:i<hs2.length:=by have:=(qa7.mp hy).1;rw[Z1v C0.a]at this;exact this
    obtain⟨X,R1,D2⟩:=J1X C0.a hy;have D2:k'=.inr X.name:=D2;subst D2;have hX:=qb0 R1;refine seq4 λ d5 N3 f5 O3 q6 Q3=>?_;walk_at "r";refine New.of λ tl H12 v0 w0 R3=>?_;subst Q3;walk_at "r";obtain⟨n4,ew,l4,S3⟩:=J1v ln nd;have S1:=sB fr;refine⟨_,(B2.same S1).same w0,New.of λ T3 H13 U3 x0 x1=>⟨⟨_,SqL.of x1⟩,?_⟩⟩;rw[ew]at x1;have z1:=x0 _ _ R3;have E2:tl≠e:=λ z=>by obtain⟨kk,k1,_⟩:=G0;rw[z,k1]at v0;cases v0
    have b0:=(w0.trans x0) _ _ i1;have Y1:EwA H13 e S2 n' True:=let⟨kk,k1,k2⟩:=G0;⟨kk,(w0.trans x0) _ _ k1,k2⟩;obtain⟨U5,G2,_⟩:=id Y1;have i5:T3≠e:=λ z=>by rw[z,G2]at x1;cases x1
    have j5:T3≠tl:=λ z=>by rw[z,R3]at U3;cases U3
    have I2:∀{H':Hp},(∀b o',b≠e->b≠tl->H13 b=some o'->H' b=some o')->Same B H':=λ{H2} L2 b u h=>L2 _ _ (λ z=>by rw[z,z2.e0]at h;cases h) (λ z=>by rw[z]at h;rw[S1 _ _ h]at v0;cases v0) ((w0.trans x0) _ _ (S1 _ _ h));refine Z1i (n4.map V.str) (PGJ K n4 e tl S2 H13 n' (λ os=>some (V.ref sc)::some (V.ref nl)::some (V.ref hd)::some (V.ref e)::some tv::some (V.ref hl)::some (V.str X.name)::some (V.ref tl)::os) 8) ⟨[],[],n',_,λ b o' _ _ h=>h,z1,.nil,List.nil_sublist _,(λ d hd=>by cases hd),Y1,qR,rfl,rfl⟩ (λ j σ H5 _ hJ=>?_) (λ j y σ H5 hy hJ=>?_) (λ σ H5 hJ=>?_)
    · obtain⟨M,ws,r6,os,L2,_⟩:=hJ;exact SqL.of (L2 _ _ i5 j5 x1)
    · obtain⟨us,ws,n5,os,l0,O,R,U,z0,M0,Y3,u0,rfl⟩:=hJ;obtain⟨o8,o9,j1,l1,n1,o1,r1,v1,rfl⟩:∃a b c d e f g h,os=[a,b,c,d,e,f,g,h]:=by
        match os,u0 with
        |[a,b,c,d,e,f,g,h],_=>exact⟨a,b,c,d,e,f,g,h,rfl⟩
      rw[qa4]at hy;obtain⟨wd,hw,rfl⟩:=qc1.mp hy;have N0:=I2 l0;have Z3:HA H5 hd ps hs2:=by have:=M3.same N0;rw[J.1,J.2.1,J.2.2.1]at this;exact this
      obtain⟨p,hp,hA,g⟩:=Z3.ix f0.nd R1;obtain⟨hk,k1,k2⟩:=hA.h;have gw:DGet H5 p.ha (.str wd) (valV hk (.inr wd)):=.inl ⟨hk,.inr wd,.inl k1,rfl,rfl⟩;have t6:ws.length<=j:=by
        have:=U.length_le;rw[qa0,qb3]at this;omega
      have k5:j<4:=by have:=(qa7.mp hw).1;omega
      walk_at "r";refine⟨_,g,_,rfl,_,hA.heads,_,rfl,_,gw,?_⟩;rcases Z4S (w:=wd) k2 with ez|⟨v,q',ez,m1,m2,m3⟩
      · rw[ez];refine ite2 (λ z=>by cases z) λ _=>?_;exact⟨us,ws,n5,_,l0,O,R,U.trans (List.take_sublist_take_left (qe1 j)),z0,M0,by rw[qf5];omega,rfl,rfl⟩
      rw[ez]at gw ⊢;refine ite2 (λ _=>?_) λ z=>absurd rfl z;obtain⟨t0,a4,rfl,u1,u2⟩:=m3;obtain⟨q1,q2,q3⟩:=(f0.hd X hX).2 q' m1;refine⟨_,g,_,rfl,_,hA.heads,_,rfl,_,gw,_,rfl,_,SqT.of u1,rfl,_,_,rfl,_,_,rfl,rfl,a4,rfl,_,.inl (SqL.of u2),qR,by rw[qa0];omega,λ D hD=>?_⟩;rw[qh5,qa0];refine Z6Y none [some (.ref a4),some (.ref nl)] (λ j v H'=>∃y,(Z5n ns q'.2.1)[j]?=some y/\RT K H' v (.tuple [.str y.1,.str y.2])) (λ j v H1 H2 ⟨y,y0,y1⟩ sn=>⟨y,y0,y1.kp (kpN sn)⟩) rfl hD (by rw[sizeLine_eq];omega) (λ i hi Hj K' sj kk=>?_) (λ A1 H6 s6 e6 m5 hR=>?_)
      · walk_at "r";refine⟨_,(B2.same N0).same sj,_,?_,_,SqL.of (sj _ _ u2),_,Z8q hi,New.of λ tt Hk S0 sk o5=>kk _ _ sk ⟨_,J3L hi,.tup (SqT.of o5) (.cons (.str _) (.cons (.str _) .nil))⟩⟩;rw[show(7:Int)+(i:Int)=((7+i:Nat):Int)by omega];exact Z8q qR
      have p5:(Z5n ns q'.2.1).length=q'.2.1.length:=by unfold Z5n;rw[qa0,qg8]
      refine⟨D,rfl,A1,.inl ⟨SqL.of e6,λ pa h7=>?_⟩⟩;have s7:=Z0n h7 (.tup A1);have e7:upd H6 pa (.tup A1) pa=some (.tup A1):=Z0b;generalize upd H6 pa (.tup A1)=O0 at*;have b4:PrT K O0 (.ref pa) (Z5n ns q'.2.1):=.tup (SqT.of e7) ((Z3G (λ p:V2×V2=>PyData.tuple [.str p.1,.str p.2]) (by rw[m5,p5]) hR).same s7);have S7:=s6.trans s7;have Z1:EwA O0 e S2 n5 True:=let⟨kk,k1,k2⟩:=M0;⟨kk,S7 _ _ k1,k2⟩;have c4:=S7 _ _ O;have q5:X.name∈hns hs2:=qb6 hX;have d4:(i+1)*(4*dr 5)<=12*(4*dr 5):=qg3 _ (by have:=f0.le;omega);have u6:j*dr 5+dr 5<=4*dr 5:=by rw[<-qf5];exact qg3 _ k5
      have r5:dr 5=12441:=by decide
      have u5:dr 2=57:=by decide
      rw[qf5]at d4;have f4:n5+dr 5<=1000000:=by omega
      refine⟨e,B,S2,n5,True,pa,Z5n ns q'.2.1,some X.name,q'.2.2,rfl,z2,trivial,N0.trans S7,Z1,b4,qR,λ p hp=>by rw[J.2.2.1];exact q2 _ (J2A hp),(λ x z=>by cases z;rw[J.2.2.1];exact q5),by rw[J.2.2.1];exact q3,f4,λ bv bt n8 nb H8 T1 c8 l8 v5 x5=>?_⟩;have g4:Kt O0 H8:=let⟨kk,k1,_⟩:=Z1;⟨λ b xs q=>T1 _ _ (λ z=>by rw[z,k1]at q;cases q) q,λ b o xs q=>T1 _ _ (λ z=>by rw[z,k1]at q;cases q) q⟩;have B1:=T1 _ _ E2 c4;refine⟨.inl ⟨rfl,_,SqL.of B1⟩,New.of λ tw C1 h9 s9 N2=>⟨us,s9 _ _ B1,?_,?_⟩⟩
      · have:=R.length;rw[qa0]at this;omega
      have i4:=s9 _ _ B1;have I0:Kt C1 (upd C1 tl (.lst (us++[.ref tw]))):=Kt.put _ i4 (λ _ z=>by cases z) λ _ _ z=>by cases z
      refine⟨us++[.ref tw],ws++[⟨wd,Z5n ns q'.2.1,q'.2.2,bt⟩],n8,_,λ b o' b1 b2 hb=>?_,Z0b,?_,?_,?_,?_,by rw[qf5];omega,rfl,rfl⟩
      · rw[Z0e b2];exact s9 _ _ (T1 _ _ b1 (S7 _ _ (l0 _ _ b1 b2 hb)))
      · rw[qc2];refine RTs.kt I0 (((R.same S7).kt g4).same s9|>.app (.cons (.tup (SqT.of N2) (.cons (.str _) (.cons ((b4.kt g4).same s9) (.cons (.str _) (.cons (v5.same s9) .nil))))) .nil))
      · rw[qc2,qf3,hw];exact U.append (qn2 _)
      · intro d hd;rcases qb5.mp hd with z|z
        · exact z0 d z
        · rw[qa3.mp z];exact⟨x5,by show(Z5n ns q'.2.1).length<=4;omega⟩
      · obtain⟨kk,k1,k2⟩:=c8.ev.w;exact⟨kk,(Z0e (Ne.symm E2)).trans (s9 _ _ k1),k2⟩
    · obtain⟨us,ws,n5,os,l0,O,R,U,z0,M0,Y3,u0,rfl⟩:=hJ;obtain⟨o8,o9,j1,l1,n1,o1,r1,v1,rfl⟩:∃a b c d e f g h,os=[a,b,c,d,e,f,g,h]:=by
        match os,u0 with
        |[a,b,c,d,e,f,g,h],_=>exact⟨a,b,c,d,e,f,g,h,rfl⟩
      rw[qa0,l4]at Y3 U;rw[<-l4,qh9]at U;have N0:=I2 l0;show f5 _ _ _;subst O3;walk_at "r";have j4:∀{b:V0}{o':HO},H9 b=some o'->b≠hd->b≠e->H5 b=some o':=λ{b o'} q1 q2 q3=>by
        have q4:=fr _ _ q3 (λ z=>by rw[z,s0]at q1;cases q1) ((fz.r _ q2).trans (J0 _ _ q1));exact l0 _ _ q3 (λ z=>by rw[z,v0]at q4;cases q4) ((w0.trans x0) _ _ q4)
      have y5:Kt H9 H5:=⟨λ b xs q=>j4 q (λ z=>by rcases j0.d with y|⟨o',y⟩<;>rw[z,y]at q<;>cases q) (λ z=>by rw[z,k9]at q;cases q),λ b o xs q=>j4 q (λ z=>by rcases j0.d with y|⟨o',y⟩<;>rw[z,y]at q<;>cases q) (λ z=>by rw[z,k9]at q;cases q)⟩;have nw:(ws.map Wd.name).Nodup:=ql6 U (qe3.mp S3).1;have v6:ws.length<=4:=by have:=U.length_le;rw[qa0,l4]at this;exact this
      have A0:∀(q0:List V)(Q0:List Wd)(H6:Hp),(∀b o',b≠e->b≠tl->H13 b=some o'->H6 b=some o')->H6 tl=some (.lst q0)->RTs K H6 q0 (Q0.map Z2y)->(Q0.map Wd.name).Nodup->Q0.length<=5->(∀d∈Q0,TOk 5 d.body/\d.params.length<=4)->EwA H6 e S2 n5 True->d5 {nx:=PGI K ns hs2 e hl S2 L0 n7 (λ os=>some (V.ref sc)::some (V.ref nl)::some (V.ref hd)::some (V.ref e)::some tv::some (V.ref hl)::os) 10 (i+1),rt:=Q,bk:=N,ct:=PGI K ns hs2 e hl S2 L0 n7 (λ os=>some (V.ref sc)::some (V.ref nl)::some (V.ref hd)::some (V.ref e)::some tv::some (V.ref hl)::os) 10 (i+1)} [some (V.ref sc),some (V.ref nl),some (V.ref hd),some (V.ref e),some tv,some (V.ref hl),some (V.str X.name),some (V.ref tl),o8,o9,j1,l1,n1,o1,r1,v1] H6:=?_
      · refine⟨_,B2.same N0,_,(Z8q (j:=0) qR:atI _ 0=_),rfl,ite2 (λ _=>ite2 (λ z5=>?_) λ _=>?_) λ _=>?_⟩
        rotate_left
        · exact A0 us ws H5 l0 O R nw qR z0 M0
        · exact A0 us ws H5 l0 O R nw qR z0 M0
        obtain⟨ta,td,_,A5,O2,k4,m4,_⟩:=L1.resolve_left z5;have o4:=A5.kt y5;refine⟨.inl ⟨rfl,_,SqL.of O⟩,sc,is,2,rfl,c5.same N0,λ c2=>⟨_,rfl,_,.inl (SqL.of O),qR,us,((c2/4)%((us.length:Int)+1)).toNat,?_,O,?_,?_,?_⟩⟩
        · have:=qe7 (c2/4) (show((us.length:Int)+1)≠0 by omega);omega
        · have:=qf6 (c2/4) (show(0:Int)<((us.length:Int)+1)by omega);omega
        · have:=R.length;rw[qa0]at this;omega
        generalize((c2/4)%((us.length:Int)+1)).toNat=ix;have B5:Kt H5 (upd H5 tl (.lst (us.take ix++tv::us.drop ix))):=Kt.put _ O (λ _ z=>by cases z) λ _ _ z=>by cases z
        refine A0 _ (ws.take ix++td::ws.drop ix) _ (λ b o' b1 b2 hb=>by rw[Z0e b2];exact l0 _ _ b1 b2 hb) Z0b ?_ ?_ ?_ ?_ ?_
        · refine RTs.kt B5 ?_;rw[qc2,qb8,qf7,ql8];exact(RTs.take ix R).app (.cons o4 (RTs.drop ix R))
        · have pm:((ws.take ix++td::ws.drop ix).map Wd.name).Perm (ws.map Wd.name++[td.name]):=by
            rw[show ws.map Wd.name++[td.name]=(ws++[td]).map Wd.name by rw[qc2];rfl];refine List.Perm.map _ ?_;refine List.Perm.trans List.perm_middle ?_;rw[qj1];exact(List.perm_append_singleton td ws).symm
          refine pm.nodup_iff.mpr ?_;rw[O2];exact ql6 (U.append (qn2 _)) S3
        · have h:=congrArg qd5 (qj1 ix ws);rw[qa5]at h;rw[qa5,qc3];omega
        · intro d hd;rcases qb5.mp hd with z|z
          · exact z0 d (qi9 z)
          · rcases qa2.mp z with z|z
            · rw[z];exact⟨k4,m4⟩
            · exact z0 d (List.mem_of_mem_drop z)
        · obtain⟨kk,k1,k2⟩:=M0;exact⟨kk,(Z0e (Ne.symm E2)).trans k1,k2⟩
      intro q0 Q0 H6 D1 C5 p4 D5 l6 E5 r4;subst N3;walk_at "r";have G5:=I2 D1;have u4:HA H6 hd ps hs2:=by have:=M3.same G5;rw[J.1,J.2.1,J.2.2.1]at this;exact this
      obtain⟨p,hp,hA,g⟩:=u4.ix f0.nd R1;obtain⟨fs,f1,f2⟩:=hA.f;have D0:hl≠e:=λ z=>by rw[z,C2]at d1;cases d1
      have v4:hl≠tl:=λ z=>by rw[z,v0]at i1;cases i1
      have E1:=D1 _ _ D0 v4 b0;have I5:Kt H' H13:=(Kp.of (w0.trans x0)).kt;have x4:Kt H13 H6:=⟨λ b xs q=>D1 _ _ (λ z=>by rw[z,G2]at q;cases q) (λ z=>by rw[z,z1]at q;cases q) q,λ b o xs q=>D1 _ _ (λ z=>by rw[z,G2]at q;cases q) (λ z=>by rw[z,z1]at q;cases q) q⟩;refine⟨_,g,_,rfl,_,hA.fields,_,rfl,fs,.inl ⟨SqL.of f1,λ fa h7=>?_⟩⟩;have s7:=Z0n h7 (.tup fs);have e7:upd H6 fa (.tup fs) fa=some (.tup fs):=Z0b;generalize upd H6 fa (.tup fs)=O0 at*;refine⟨.inl ⟨rfl,_,SqL.of (s7 _ _ E1)⟩,_,Z7o g s7,_,rfl,_,(hA.same s7).elder,q0,.inl ⟨SqL.of (s7 _ _ C5),λ ta h8=>?_⟩⟩;have s8:=Z0n h8 (.tup q0);have e8:upd O0 ta (.tup q0) ta=some (.tup q0):=Z0b;generalize upd O0 ta (.tup q0)=w6 at*;refine New.of λ th C1 h9 s9 N2=>⟨M,(s7.trans (s8.trans s9)) _ _ E1,?_,?_⟩
      · have:=Q1.length;rw[qa0]at this;have:=f0.le;omega
      have S9:=s7.trans (s8.trans s9);have I0:Kt C1 (upd C1 hl (.lst (M++[.ref th]))):=Kt.put _ (S9 _ _ E1) (λ _ z=>by cases z) λ _ _ z=>by cases z
      have L5:RTs K H6 fs (X.fields.map λ p:V2×V2=>PyData.tuple [.str p.1,.str p.2]):=Z3G (λ p:V2×V2=>PyData.tuple [.str p.1,.str p.2]) f2.len λ j v hv=>by
        obtain⟨f,hf,t,rfl,ht⟩:=f2.at hv;exact⟨f,hf,.tup (SqT.of ht) (.cons (.str _) (.cons (.str _) .nil))⟩
      refine⟨M++[.ref th],Gs++[⟨X.name,X.elder,X.fields,Q0⟩],n5,_,λ b o' b1 b2 hb=>?_,Z0b,?_,by rw[qa5,lG];rfl,λ j G hj=>?_,?_,?_,rfl,rfl⟩
      · rw[Z0e b2];have q4:=fr _ _ b1 b2 hb;exact S9 _ _ (D1 _ _ b1 (λ z=>by rw[z,v0]at q4;cases q4) ((w0.trans x0) _ _ q4))
      · rw[qc2];refine RTs.kt I0 ((((Q1.kt I5).kt x4).same S9).app (.cons (.tup (SqT.of N2) (.cons (.str _) (.cons (J9H _) (.cons (.tup (SqT.of ((s8.trans s9) _ _ e7)) (L5.same S9)) (.cons (.tup (SqT.of (s9 _ _ e8)) (p4.same S9)) .nil))))) .nil))
      · by_cases z:j<Gs.length
        · rw[qi2 z]at hj;exact gs j G hj
        · rw[qh4 qR]at hj;have M5:j-Gs.length=0:=by
            have:=(qa7.mp hj).1;have:j-Gs.length<1:=this;omega
          rw[M5]at hj;cases hj;have:j=i:=by omega
          rw[this];exact⟨X,R1,rfl,rfl,rfl,D5,l6,E5⟩
      · obtain⟨kk,k1,k2⟩:=r4;exact⟨kk,(Z0e (Ne.symm D0)).trans (S9 _ _ k1),k2⟩
      · rw[qf5];omega
  · obtain⟨M,Gs,n',os,fr,i1,Q1,lG,gs,G0,o2,u0,rfl⟩:=hI;obtain⟨o6,o7,o8,o9,j1,l1,n1,o1,r1,v1,rfl⟩:∃a b c d e f g h i j,os=[a,b,c,d,e,f,g,h,i,j]:=by
      match os,u0 with
      |[a,b,c,d,e,f,g,h,i,j],_=>exact⟨a,b,c,d,e,f,g,h,i,j,rfl⟩
    rw[Z1v C0.a]at lG o2;have S1:=sB fr;refine hN _ _ (fr _ _ off.1 (Ne.symm o0) fz.f) λ H12 mz=>?_;show B4 {nx:=λ x H'=>Q V.non H',rt:=Q} [some (V.ref sc),some (V.ref nl),some (V.ref hd),some (V.ref e),some tv,some (V.ref hl),o6,o7,o8,o9,j1,l1,n1,o1,r1,v1] H12;subst Y2;walk_at "r";have sM:Same (cutH e H9) H12:=λ b u h=>by
      have nb:b≠e:=λ z=>by rw[z,Z5u]at h;cases h
      rw[Z2b nb]at h;by_cases hb:b=hd
      · rw[hb]at h ⊢;rw[mz.e];exact J0 _ _ h
      · rw[mz.r b hb];exact fr _ _ nb (λ z=>by rw[z,s0]at h;cases h) ((fz.r _ hb).trans (J0 _ _ h))
    have N5:StA K (cutH e H9) e S2 True:=by
      subst N1;exact⟨Z5u,j0.cut off k9,dj,f0,a1,SqL.cut O1 k9,SqL.cut I3 k9,ll,λ _=>⟨SqL.cut (SqL.of L3) k9,by show x2.length<=12;omega⟩⟩
    have G1:EwA H12 e S2 n' True:=let⟨kk,k1,k2⟩:=G0;⟨kk,(mz.r _ Y0).trans k1,k2⟩;have O5:Kt H' H12:=⟨λ b xs q=>(mz.r _ (λ z=>by rw[z,fr _ _ off.1 (Ne.symm o0) fz.f]at q;cases q)).trans q,λ b o xs q=>(mz.r _ (λ z=>by rw[z,fr _ _ off.1 (Ne.symm o0) fz.f]at q;cases q)).trans q⟩;have D0:hl≠e:=λ z=>by rw[z,C2]at d1;cases d1
    have Q2:H12 hl=some (.lst M):=(mz.r _ o0).trans i1;have T2:=Q1.kt O5;have d4:hs2.length*(4*dr 5)<=12*(4*dr 5):=qg3 _ f0.le;have r5:dr 5=12441:=by decide
    have u5:dr 2=57:=by decide
    have y4:=SqL.cut O1 k9;refine⟨sc,is,3,rfl,y4.same sM,λ c3=>⟨c3,2,rfl,qQ,qQ,λ r=>⟨e,cutH e H9,S2,n',True,nl,ns,r,_,rfl,N5,trivial,sM,G1,SqL.cut G3 k9,ln,by rw[J.2.2.1,C3];exact n0,λ z=>?_,qR,λ mv md H13 r0 U2 z4 Q5 R5=>?_⟩⟩⟩
    · rcases L1 with y|⟨a,d,_,_,_,_,_,y⟩
      · rw[y]at z;cases z
      · unfold tnd;rw[J.2.2.1];exact y
    have b0:=r0 _ _ D0 Q2;have B0:RTs K H13 M (Gs.map Z2l):=T2.kt (let⟨kk,k1,_⟩:=G1;⟨λ b xs q=>r0 _ _ (λ z=>by rw[z,k1]at q;cases q) q,λ b o xs q=>r0 _ _ (λ z=>by rw[z,k1]at q;cases q) q⟩);have lv:M.length=Gs.length:=by rw[B0.length,qa0]
    have x6:0<hs2.length:=List.length_pos_iff.mpr a1;have S5:SqL K H13 sc (is.map V.int):=by
      obtain⟨kk,k1,_⟩:=G1;rcases y4.same sM with(q|⟨o',q⟩)|q
      · exact .inl (.inl (r0 _ _ (λ z=>by rw[z,k1]at q;cases q) q))
      · exact .inl (.inr ⟨o',r0 _ _ (λ z=>by rw[z,k1]at q;cases q) q⟩)
      · exact .inr q
    subst d2;walk_at "r";refine⟨sc,is,1,rfl,S5,λ c1=>⟨_,rfl,M,.inl (SqL.of b0),qR,?_⟩⟩;obtain⟨k,hk⟩:=qh1 (qe7 (c1/5) (show((M.length:Int))≠0 by omega));have U1:=qf6 (c1/5) (show(0:Int)<(M.length:Int)by omega);rw[hk]at U1 ⊢;have U1:k<M.length:=by omega
    refine⟨M,SqL.of b0,New.of λ p1 J1 g1 t1 w1=>⟨M,SqL.of (t1 _ _ b0),New.of λ p2 J2 g2 t2 w2=>⟨_,t2 _ _ w1,_,w2,?_,New.of λ p3 J3 g3 t3 w3=>⟨_,.inl ⟨SqL.of w3,λ tp h4=>?_⟩⟩⟩⟩⟩
    · have:=Z2X M (some (k:Int)) none;have:=Z2X M none (some (k:Int));have:=f0.le;omega
    rw[J2Z (qg4 U1),J4t (qg4 U1)]at w3 ⊢;have t4:=Z0n h4 (.tup (M.drop k++M.take k));have w4:upd J3 tp (.tup (M.drop k++M.take k)) tp=some (.tup (M.drop k++M.take k)):=Z0b;generalize upd J3 tp (.tup (M.drop k++M.take k))=J4 at*;have T4:=t1.trans (t2.trans (t3.trans t4));have rr:RTs K H13 (M.drop k++M.take k) ((Gs.drop k++Gs.take k).map Z2l):=by
      rw[qc2,ql8,qf7];exact(RTs.drop k B0).app (RTs.take k B0)
    refine New.of λ tq J5 g5 t5 w5=>q (.ref tq) ⟨Gs.drop k++Gs.take k,md⟩ J5 (.tup (SqT.of w5) (.cons (.tup (SqT.of (t5 _ _ w4)) (rr.same (T4.trans t5))) (.cons (R5.same (T4.trans t5)) .nil))) (gnok f0 lG gs k U2 z4 Q5)
theorem J9h{K:X0}{H:Hp}:∀(o:Option V2),RT K H (oS o) (oD o)
 |none=>.non
 |some s=>.str s
inductive Z7J(c:CS)(K:X0)(vs:List V)(H:Hp)(Q:VK):Prop
 |mk(v:V)(d:Wd)(a1:vs=[v])(a2:WdO K c H v d)(a3:∀u H',Same H H'->RT K H' u (Z2y d)->Q u H'):Z7J c K vs H Q
def Z6u(c:CS)(K:X0):Sp:=λ a H Q _=>Z7J c K a H Q
inductive Z6B(c:CS)(K:X0)(vs:List V)(H:Hp)(Q:VK):Prop
 |mk(v:V)(d:Hs)(a1:vs=[v])(a2:HsO K c H v d)(a3:d.words.length<=100)(a4:∀u H',Same H H'->RT K H' u (Z2l d)->Q u H'):Z6B c K vs H Q
def Z7v(c:CS)(K:X0):Sp:=λ a H Q _=>Z6B c K a H Q
inductive Z7L(c:CS)(K:X0)(vs:List V)(H:Hp)(Q:VK):Prop
 |mk(v:V)(d:Pg)(a1:vs=[v])(a2:PgO K c H v d)(a3:d.houses.length<=100)(a4:(∀h∈d.houses,h.words.length<=100))(a5:∀u H',Same H H'->RT K H' u (Z6F d)->Q u H'):Z7L c K vs H Q
def J2M(c:CS)(K:X0):Sp:=λ a H Q _=>Z7L c K a H Q
theorem J0P(T:Txt K mg Cl Ct Cw Ch Cp)(a:HasM P w K mg base 1 Ct "plain" ["self"] (Z3N Ct K)):HasM P w K mg base 2 Cw "plain" ["self"] (Z6u (CS.mk Ct Cw Ch Cp Cl Cs Cq Ck B) K):=by
 refine HasM.of T.m_Word_plain Z6i (λ _ _ _ _ _ _ n o=>el1 n o λ _=>rfl) (λ p H Q E h=>?_) (λ f r A c s H p Q E x h=>?_)
 ·obtain⟨v,d,rfl,_⟩:=h;rfl
 obtain⟨v,d,rfl,y,q⟩:=h;refine⟨_,(Z0d (Z0j (Z0m (Z0v (qO 0) (qK (qO 0) (qO 0) (Z1M (qO 0) T.Term.cl a x qS)))))),?_⟩;cases y with
 |mk b z j=>
  obtain⟨m,e,C,L,D,G,rfl,g,_⟩:=j.inv;walk_at "r";exact⟨Cw,_,_,b,T.Word.cl,T.n_Word_name,_,rfl,Cw,_,_,b,T.Word.cl,T.n_Word_params,_,rfl,Cw,_,_,b,T.Word.cl,T.n_Word_kind,_,rfl,Cw,_,_,b,T.Word.cl,T.n_Word_body,_,rfl,m,rfl,e,_,g,rfl,.ref m,d.body,rfl,j,λ u I=>New.of λ M N O i J=>q _ _ i (.tup (SqT.of J) (.cons (.str _) (.cons (z.same i) (.cons (.str _) (.cons (I.same i) .nil)))))⟩
theorem J1P(T:Txt K mg Cl Ct Cw Ch Cp)(c:HasM P w K mg base 2 Cw "plain" ["self"] (Z6u (CS.mk Ct Cw Ch Cp Cl Cs Cq Ck B) K)):HasM P w K mg base 3 Ch "plain" ["self"] (Z7v (CS.mk Ct Cw Ch Cp Cl Cs Cq Ck B) K):=by
 refine HasM.of T.m_House_plain sc_House_plain (λ _ _ _ _ _ _ U J=>el1 U J λ _=>rfl) (λ e H Q E h=>?_) (λ f X A p s H e Q E Y h=>?_)
 ·obtain⟨v,d,rfl,_⟩:=h;rfl
 obtain⟨v,d,rfl,m,J,q⟩:=h;refine⟨_,(Z0a (qG 1 sc_House_plain.nd (Z0o Z0q rfl T.O0m Z0O (qI (Z0S rfl (BlockOk.plain (N:=["word"]) rfl qP qP qP) (Z1s (qO 0)) (λ C Z s H=>(qH 0 (show(["word"]:List V2).Nodup by decide+kernel))) (λ C Z s H=>(Z1M (pvF 0) T.Word.cl c Y qS)))))) (Z0d (Z0j (Z0m (Z0v (qO 0) (qK (qO 0) (qO 0) (pvF 1))))))),?_⟩;cases m with
 |mk L f2 M O=>
  have l4:=O.len;refine seq2 λ a0 n=>?_;walk_at "r";refine⟨Ch,_,_,L,T.House.cl,T.n_House_own_words,_,rfl,_,rfl,⟨_,M⟩,λ D hD=>?_⟩;refine Z0U (ys:=_) none [] (λ j v H=>∃t,d.words[j]?=some t/\RT K H v (Z2y t)) (λ j v R H2 ⟨t,a,b⟩ s=>⟨t,a,b.kp (kpN s)⟩) rfl hD (by rw[sizeLine_eq];omega) (λ R s=>SqT.same M s) (λ i y hy R K' s k=>?_) (λ e r Sc hv lv hR=>?_)
  ·obtain⟨t,ht,m⟩:=O.at hy;have m:=m.same s;walk_at "r";have x:=m;cases m with
   |mk k1 k2 k3=>exact⟨_,rfl,_,_,k1,rfl,_,t,rfl,x,λ u H2 s2 ru=>k _ _ s2 ⟨t,ht,ru⟩⟩
  refine⟨D,rfl,e,.inl ⟨SqL.of hv,λ z h5=>?_⟩⟩;have S:=Z0n h5 (.tup e);have e5:upd r z (.tup e) z=some (.tup e):=Z0b;generalize upd r z (.tup e)=H5 at*;have G:=Sc.trans S;have I:RTs K r e (d.words.map Z2y):=Z3G Z2y (lv.trans l4) hR;have g:=G _ _ L;subst n;walk_at "r";exact⟨Ch,_,_,g,T.House.cl,T.n_House_name,_,rfl,Ch,_,_,g,T.House.cl,T.n_House_elder,_,rfl,Ch,_,_,g,T.House.cl,T.n_House_own_fields,_,rfl,New.of λ p6 H6 h6 o e6=>q _ _ (G.trans o) (.tup (SqT.of e6) (.cons (.str _) (.cons (J9h _) (.cons (f2.same (G.trans o)) (.cons (.tup (SqT.of (o _ _ e5)) (I.same (S.trans o))) .nil)))))⟩
theorem J2x(T:Txt K mg Cl Ct Cw Ch Cp)(e:HasM P w K mg base 1 Ct "plain" ["self"] (Z3N Ct K))(c:HasM P w K mg base 3 Ch "plain" ["self"] (Z7v (CS.mk Ct Cw Ch Cp Cl Cs Cq Ck B) K)):HasM P w K mg base 4 Cp "plain" ["self"] (J2M (CS.mk Ct Cw Ch Cp Cl Cs Cq Ck B) K):=by
 refine HasM.of T.m_Program_plain sc_Program_plain (λ _ _ _ _ _ _ us Z=>el1 us Z λ _=>rfl) (λ g H Q E h=>?_) (λ f a0 A z s H g Q E hr h=>?_)
 ·obtain⟨v,d,rfl,_⟩:=h;rfl
 obtain⟨v,d,rfl,n,Z,G,q⟩:=h;refine⟨_,(Z0a (qG 1 sc_Program_plain.nd (Z0o Z0q rfl T.O0m Z0O (qI (Z0S rfl (BlockOk.plain (N:=["house"]) rfl qP qP qP) (Z1s (qO 0)) (λ C fp s H=>(qH 0 (show(["house"]:List V2).Nodup by decide+kernel))) (λ C fp s H=>(Z1M (pvF 0) T.House.cl c hr qS)))))) (Z0d (Z0j (Z0m (qJ (pvF 1) (Z0m (qK (Z2H (qO 0) rfl) (Z2H (qO 0) rfl) (Z1M (Z2H (qO 0) rfl) T.Term.cl e hr qS)))))))),?_⟩;cases n with
 |mk f1 f2 f3 f4=>
  have l3:=f3.len;refine seq2 λ b0 p=>?_;walk_at "r";refine⟨Cp,_,_,f1,T.Program.cl,T.n_Program_all_houses,_,rfl,_,rfl,⟨_,f2⟩,λ D hD=>?_⟩;refine Z0U (ys:=_) none [] (λ j v H=>∃t,d.houses[j]?=some t/\RT K H v (Z2l t)) (λ j v H1 H2 ⟨t,a,b⟩ s=>⟨t,a,b.kp (kpN s)⟩) rfl hD (by rw[sizeLine_eq];omega) (λ H1 s=>SqT.same f2 s) (λ i y hy H1 K' s k=>?_) (λ g I Sc hv lv hR=>?_)
  ·obtain⟨t,ht,n⟩:=f3.at hy;have n:=n.same s;have r:=G t (qb0 ht);walk_at "r";have J:=n;cases n with
   |mk k1 k2 k3 k4=>exact⟨_,rfl,_,_,k1,rfl,_,t,rfl,J,r,λ u H2 s2 L=>k _ _ s2 ⟨t,ht,L⟩⟩
  refine⟨D,rfl,g,.inl ⟨SqL.of hv,λ M h5=>?_⟩⟩;have s5:=Z0n h5 (.tup g);have e5:upd I M (.tup g) M=some (.tup g):=Z0b;generalize upd I M (.tup g)=H5 at*;have O:=Sc.trans s5;have R:RTs K I g (d.houses.map Z2l):=Z3G Z2l (lv.trans l3) hR;have m:=O _ _ f1;have S:=f4.same O;cases S with
  |mk U m2 m3=>
   obtain⟨ba,X,c0,sh,d0,e0,rfl,Y,_⟩:=m3.inv;subst p;walk_at "r";exact⟨Cp,_,_,m,T.Program.cl,T.n_Program_main,_,rfl,_,rfl,Cw,_,_,U,T.Word.cl,T.n_Word_params,_,rfl,Cp,_,_,m,T.Program.cl,T.n_Program_main,_,rfl,_,rfl,Cw,_,_,U,T.Word.cl,T.n_Word_kind,_,rfl,Cp,_,_,m,T.Program.cl,T.n_Program_main,_,rfl,_,rfl,Cw,_,_,U,T.Word.cl,T.n_Word_body,_,rfl,ba,rfl,X,_,Y,rfl,.ref ba,d.main.body,rfl,m3,λ u L=>New.of λ p6 H6 h6 x e6=>New.of λ p7 H7 h7 o e7=>q _ _ (O.trans (x.trans o)) (.tup (SqT.of e7) (.cons (.tup (SqT.of ((x.trans o) _ _ e5)) (R.same (s5.trans (x.trans o)))) (.cons (.tup (SqT.of (o _ _ e6)) (.cons (m2.same (x.trans o)) (.cons (.str _) (.cons (L.same (x.trans o)) .nil)))) .nil)))⟩
open P23 (FO)
open P52 (Z0M bk)
inductive J4N(K:X0)(vs:List V)(H:Hp)(Q:VK):Prop
 |mk(a:V0)(is:List Int)(a1:vs=[.ref a])(a2:SqL K H a (is.map V.int))(a3:∀H',Q (.bl true) H'):J4N K vs H Q
def sp_law(K:X0):Sp:=λ a H Q _=>J4N K a H Q
theorem sp_law_ok{K:X0}{H:Hp}{a:V0}{ns:List Int}(c:ns.length<=63)(b:SqL K H a (ns.map V.int)):sp_law K [.ref a] H (λ v _=>v=.bl true) λ _ _ _=>False:=⟨a,ns,rfl,b,λ _=>rfl⟩
theorem J0a{n:Nat}:∀{l:P15.Lb},PD n l.d
 | .non=>⟨.non,qa6 _⟩
 | .bl b=>⟨.bl b,qa6 _⟩
 | .int i=>⟨.int i,qa6 _⟩
 | .str x=>.str
theorem all_cons{n:Nat}{d:PyData}{a:List PyData}(h:PD n d)(hs:∀e∈a,PD n e):∀e∈d::a,PD n e:=λ e b=>(qa2.mp b).elim (λ z=>by rw[z];exact h) (hs e)
theorem Z1N{n:Nat}:∀e∈([]:List PyData),PD n e:=λ e a=>by cases a
theorem J2Q{n:Nat}{f:P15.Fm}{l:P15.Lb}{ps:List PyData}(h:∀d∈ps,PD n d):∀d∈P15.Z0I f l ps,PD (n+1) d:=by
 have a:∀d∈ps,PD (n+1) d:=λ d hd=>(h d hd).mono (qe1 _);cases f
 case call=>cases ps with
  |nil=>exact Z1N
  |cons p b=>exact all_cons .str (all_cons (a p qa9) (all_cons J0a (all_cons (PD.tup λ d hd=>h d (qb1 _ hd)) Z1N)))
 case field=>cases ps with
  |nil=>exact Z1N
  |cons p b=>exact all_cons .str (all_cons (a p qa9) (all_cons J0a λ d hd=>a d (qb1 _ hd)))
 case set=>cases ps with
  |nil=>exact Z1N
  |cons p b=>exact all_cons .str (all_cons (a p qa9) (all_cons J0a λ d hd=>a d (qb1 _ hd)))
 case new=>exact all_cons .str (all_cons J0a (all_cons (PD.tup h) Z1N))
 case elder=>exact all_cons .str (all_cons J0a (all_cons (PD.tup h) Z1N))
 case self=>exact all_cons .str a
 case nt=>exact all_cons .str a
 case iff=>exact all_cons .str a
 all_goals exact all_cons .str (all_cons J0a a)
mutual
theorem J0H:∀t:P15.Tm,PD (2*t.depth) t.dat
 | .mk f l ps=>by
  have h:=J2Q (f:=f) (l:=l) (dats_pd ps);exact(PD.tup h).mono (by show 2*P15.maxD ps+1+1<=2*(1+P15.maxD ps);omega)
theorem dats_pd:∀ps:List P15.Tm,∀d∈P15.dats ps,PD (2*P15.maxD ps) d
 |[]=>Z1N
 |t::a=>all_cons ((J0H t).mono (by show _<=2*max t.depth (P15.maxD a);omega)) λ d hd=>(dats_pd a d hd).mono (by show _<=2*max t.depth (P15.maxD a);omega)
end
theorem Z5U{n:Nat}{ps:List (V2×V2)}:PD (n+2) (Z2a ps):=PD.tup λ d hd=>by
 obtain⟨p,_,rfl⟩:=qb4.mp hd;exact PD.tup (all_cons .str (all_cons .str Z1N))
theorem J7T{G:Pg}(a:GnOk G):PD 40 (Z6F G):=by
 refine PD.tup (n:=39) (all_cons (PD.tup λ d hd=>?_) (all_cons (PD.tup (n:=38) (all_cons Z5U (all_cons .str (all_cons ((J0H _).mono (by have:=a.mb.dp;omega)) Z1N)))) Z1N));obtain⟨h,b,rfl⟩:=qb4.mp hd;refine PD.tup (n:=37) (all_cons .str (all_cons ?_ (all_cons Z5U (all_cons (PD.tup λ d hd=>?_) Z1N))))
 ·cases h.elder with
  |none=>exact⟨.non,qa6 _⟩
  |some x=>exact .str
 ·obtain⟨w,c,rfl⟩:=qb4.mp hd;exact PD.tup (n:=35) (all_cons .str (all_cons Z5U (all_cons .str (all_cons ((J0H _).mono (by have:=((a.hs h b).2.2.2 w c).1.dp;omega)) Z1N))))
theorem J7H{G:Pg}(c:∀X∈G.houses,X.words.length<=5)(m:G.houses.length<=12){w:V2}{ls:List V2}{r:Option (V2×Nat×Wd)}{b:Nat}(f:FO G w ls r)(a:bk G r=some b):b<=100:=by
 induction f with
 |nil=>cases a
 |@here h X n i d g ix hd=>
  have e:Z0M G.houses h+i=b:=qc5 a;have o:=P52.Z4n 5 G.houses h c;have p:=(qa7.mp hd).1;have q:=c X g.1;omega
 |there _ _ _ j=>exact j a
theorem J2F{a:List Int}(h:∀m∈a,m.natAbs<10^18)(l:a.length<=100):PyData.showable (.list (a.map PyData.int))=true/\PyData.hasDict (.list (a.map PyData.int))=false/\PyData.depth (.list (a.map PyData.int))<=60/\(PyData.shown (.list (a.map PyData.int))).length<=16777216:=by
 have n:Nice 1 ((60+1)*(a.map PyData.int).length) (.list (a.map PyData.int)):=Nice.lst (k:=0) (NiceL.of λ d hd=>by
  obtain⟨m,b,rfl⟩:=qb4.mp hd;exact Nice.int (h m b))
 refine⟨n.sho,PyData.hasDict_of_canLay _ n.lay,qb9 n.dep qS,?_⟩;have:=n.fits (by rw[qa0];omega);rw[sizeLine_eq]at this;exact this
theorem J7e{G:Pg}(g:GnOk G):∃i:V2->List V2,∀x∈G.houses.map Hs.name,PW.Chain G x (i x)/\(i x).length<=12:=by
 have h:∀x:V2,∃c,x∈G.houses.map Hs.name->PW.Chain G x c/\c.length<=12:=λ x=>by
  by_cases e:x∈G.houses.map Hs.name
  ·obtain⟨X,j,rfl⟩:=qb4.mp e;obtain⟨c,a,b⟩:=g.cn X j;exact⟨c,λ _=>⟨a,b⟩⟩
  ·exact⟨[],λ z=>absurd z e⟩
 exact⟨λ x=>(h x).choose,λ x e=>(h x).choose_spec e⟩
theorem Z7g{G:Pg}(g:(G.houses.map Hs.name).Nodup){x:V2}{es:List V2}(c:PW.Chain G x es):∀{es':List V2},PW.Chain G x es'->es=es':=by
 induction c with
 |top l e=>
  intro es' h;cases h with
  |top=>rfl
  |up a b _=>have:=Z5x g l.1 a.1 (l.2.trans a.2.symm);rw[this,b]at e;cases e
 |up l e _ i=>
  intro es' h;cases h with
  |top a b=>have:=Z5x g l.1 a.1 (l.2.trans a.2.symm);rw[this,b]at e;cases e
  |up a b j=>
   have:=Z5x g l.1 a.1 (l.2.trans a.2.symm);rw[this,b]at e;cases e;rw[i j]
theorem J0O{G:Pg}(i:(G.houses.map Hs.name).Nodup){x:V2}{es:List V2}(c:PW.Chain G x es){k:V2}{j:List V2}(b:PW.Chain G k j):k∈x::es->∀y∈k::j,y∈x::es:=by
 induction c with
 |top l e=>
  intro g y a;rw[qa3.mp g]at b a;rw[Z7g i (.top l e) b];exact a
 |@up h n H es l e c m=>
  intro g y a;rcases qa2.mp g with z|z
  ·rw[z]at b a;rw[Z7g i (.up l e c) b];exact a
  ·exact qb1 _ (m z y a)
theorem Z9V{G:Pg}{x:V2}{es:List V2}(c:PW.Chain G x es):∀y∈x::es,∃X,PW.Look G y X:=by
 intro y e;obtain⟨i,g⟩:=qe5 e;obtain⟨h,a,b,_⟩:=Z9E c i y g;exact⟨h,a,b⟩
theorem J5U{G:Pg}(j:(G.houses.map Hs.name).Nodup){w:V2}{ls:List V2}{r:Option (V2×Nat×Wd)}(f:FO G w ls r){Y:Hs}(m:Y∈G.houses)(a:Y.name∈ls)(c:w∈Y.words.map Wd.name):∃b,bk G r=some b:=by
 induction f with
 |nil=>cases a
 |here=>exact⟨_,rfl⟩
 |@there h X o r e ix _ n=>
  rcases qa2.mp a with z|z
  ·have:=Z5x j m e.1 (z.trans e.2.symm);rw[this]at c;obtain⟨i,g,_⟩:=P23.Z2K c;rw[ix]at g;cases g
  ·exact n z
theorem J9i{G:Pg}(g:(G.houses.map Hs.name).Nodup){ch:V2->List V2}(a:∀x∈G.houses.map Hs.name,PW.Chain G x (ch x)/\(ch x).length<=12){wd:V2}:∃(i:V2->Option (V2×Nat×Wd))(B:V2->Nat),(∀x∈G.houses.map Hs.name,FO G wd (x::ch x) (i x))/\∀k∈G.houses.map Hs.name,∀Y∈G.houses,Y.name∈k::ch k->wd∈Y.words.map Wd.name->∀x∈k::(G.houses.map Hs.name).filter (λ x=>decide (k∈ch x)),bk G (i x)=some (B x):=by
 have h:∀x:V2,∃r,x∈G.houses.map Hs.name->FO G wd (x::ch x) r:=λ x=>by
  by_cases e:x∈G.houses.map Hs.name
  ·obtain⟨r,m⟩:=P23.FO.ex (w:=wd) (Z9V (a x e).1);exact⟨r,λ _=>m⟩
  ·exact⟨none,λ z=>absurd z e⟩
 refine⟨λ x=>(h x).choose,λ x=>(bk G (h x).choose).getD 0,λ x e=>(h x).choose_spec e,λ k j Y n o p x e=>?_⟩;have c:x∈G.houses.map Hs.name/\k∈x::ch x:=by
  rcases qa2.mp e with z|z
  ·rw[z];exact⟨j,qa9⟩
  ·exact⟨(qc7.mp z).1,qb1 _ (of_decide_eq_true (qc7.mp z).2)⟩
 obtain⟨b,q⟩:=J5U g ((h x).choose_spec c.1) n (J0O g (a x c.1).1 (a k j).1 c.2 _ o) p;show bk G (h x).choose=some ((bk G (h x).choose).getD 0);rw[q];rfl
theorem J5w{vs:List V}{ks:List Nat}(h:A2 (λ v (i:Nat)=>∃x:V2,v=.str x) vs ks):∃a:List V2,vs=a.map V.str:=by
 induction h with
 |nil=>exact⟨[],rfl⟩
 |cons r _ b=>obtain⟨x,rfl⟩:=r;obtain⟨a,rfl⟩:=b;exact⟨x::a,rfl⟩
def J5o(H:Hp)(v:V):Prop:=∃(t a b:V0)(c:List Int),v=.ref t/\H t=some (.tup [.ref a,.ref b])/\H a=some (.lst (c.map V.int))/\H b=some (.lst (c.map V.int))/\c.length<=100
noncomputable def LWI(H0:Hp)(hl:V0)(b:Nat->Nat)(σ0:List (Option V)->St)(m:Nat)(i:Nat)(σ:St)(H':Hp):Prop:=∃(a:List V)(c:List (Option V)),Same H0 H'/\H' hl=some (.lst a)/\(∀v∈a,J5o H' v)/\a.length<=b i/\c.length=m/\σ=σ0 c
noncomputable def LWJ(H0:Hp)(hl:V0)(b:Nat->Nat)(σ0:List (Option V)->St)(m:Nat)(i:Nat)(σ:St)(H':Hp):Prop:=∃(a:List V)(c:List (Option V)),SX hl H0 H'/\H' hl=some (.lst a)/\(∀v∈a,J5o H' v)/\a.length<=b i/\c.length=m/\σ=σ0 c
noncomputable def LCI(H0:Hp)(b:Nat->Nat)(σ0:V->List (Option V)->St)(m:Nat)(i:Nat)(σ:St)(H':Hp):Prop:=∃(a:V0)(c:List V2)(e:List (Option V)),Same H0 H'/\H' a=some (.lst (c.map V.str))/\c.length<=b i/\e.length=m/\σ=σ0 (.ref a) e
theorem ok_law(T:Txt K mg Cl Ct Cw Ch Cp){f:V0}{fd:FuncData}(F:Fun K "law" "law" J1W f fd):FnOk P w K mg base CX0 44 f fd ["_law_script"] (sp_law K):=by
  have f0:=J6h (P:=P) (w:=w) (base:=base) T;have J:=J2T (P:=P) (w:=w) (base:=base) T;have x0:=J4n (P:=P) (w:=w) (base:=base) T;have M0:=J6a T f0 J;have n0:=Z9X (P:=P) (w:=w) (base:=base) T;have o0:=J3D T n0;have O:=J0k T n0;have i0:=J2q T O;have g0:=J3i T n0;have y0:=J2k T J g0 o0;have z0:=J1A T f0 J O i0 y0;have l0:=J6Q T M0 g0 o0 O i0;have p0:=J4c T (l0 5).want;have Z:=Z8u T f0 J x0 z0 (J0Q T n0 g0 (l0 2).given) p0 (J4d T p0 (l0 2).make);have S:=J3m (P:=P) (w:=w) (base:=base) T;have j0:=J3H (P:=P) (w:=w) (base:=base) T;have u:=J2D (P:=P) (w:=w) (base:=base) T;have m0:=J2g T S j0 (J0S T S) (J3Y T (J3l T) u (J2p T) (J3w T));have U:=J2N (P:=P) (w:=w) (base:=base) T;have a0:=J5c (B:=λ _=>none) (Cs:=Cl) (Cq:=Cl) (Ck:=Cl) T m0 (J3T T U);have k0:=J3p T a0 (J3Q T U);have d0:=J0t T a0 k0 (J4r T);have L:=J3O (P:=P) (w:=w) (base:=base) T;have e0:=J0C T (J5j T) L;have A0:=J2e (P:=P) (w:=w) (base:=base) (B:=λ _=>none) (Cs:=Cl) (Cq:=Cl) (Ck:=Cl) T;have B0:=J3I T (J3v (B:=λ _=>none) (Cs:=Cl) (Cq:=Cl) (Ck:=Cl) T) (J2o T) (J0j T A0) (J1I T (J1J T A0));have R:=J2x T u (J1P T (J0P (B:=λ _=>none) (Cs:=Cl) (Cq:=Cl) (Ck:=Cl) T u));refine F.ok O0w (λ vs H Q E h=>?_) (λ v3 A j2 s H vs Q E hr h=>?_)
  · obtain⟨sc,is,rfl,_⟩:=h;rfl
  obtain⟨sc,is,rfl,l2,q⟩:=h;refine⟨_,(Z0a (qG 1 O0w.nd (qF Z hr (qI (pvF 0)))) (Z0a (qG 2 O0w.nd (qA K 1)) (Z0a (qG 3 O0w.nd (qF d0 hr (qI (pvF 1)))) (Z0a (Z1W (i:=4) O0w.nd rfl (Or.inr rfl) (Z0t Z0W)) (Z0a (Z0T PassesOwn.never rfl (Z4W (K:=K) rfl (pvF 2)) (qH 5 O0w.nd) (Z0d (Z1W (i:=4) O0w.nd rfl (Or.inr rfl) (Z0i Z1l (pvF 4) (Z2I rfl (BlockOk.of (N:=["_law_word","_law_called_here"]) (nl:=[none,some 4]) (cl:=[("_law_called_here",s.heap.objs.size+1)]) rfl qP qP rfl (sub1 rfl) (nm:=["_law_called_here"]) rfl qP rfl (λ i hi j hj=>by
            match i,hi with
            | 0,_=>cases hj
             |1,_=>cases hj;exact⟨_,rfl,rfl,rfl,.inl rfl⟩
            )) (Z4W (K:=K) rfl (qA K 5)) (λ C fp s H=>(qH 0 (show(["_law_word","_law_called_here"]:List V2).Nodup by decide+kernel))) (λ C fp s H=>(Z0Y (r:=rIn K true) Z3h (qA K 0) (pvF 1) (by with_unfolding_all rfl))) (λ C fp s H=>(qA K 0))))))) (Z0a (qG 6 O0w.nd (Z0t Z0W)) (Z0a (Z0T PassesOwn.never rfl (Z4W (K:=K) rfl (pvF 2)) (qH 5 O0w.nd) (Z0a (Z1W (i:=7) O0w.nd rfl (Or.inr rfl) (qF L hr (qJ (pvF 2) (qA K 5)))) (Z0d (Z0T PassesOwn.never rfl (Z0P (pvF 4)) (Z4I (i:=8) O0w.nd rfl (Or.inr rfl)) (Z0d (Z0E (qM (r:=rNeN K) (J4P hr.units) (Z2I rfl (BlockOk.of (N:=["_law_one","_law_line_here","_law_word"]) (nl:=[none,some 7,some 8]) (cl:=[("_law_word",s.heap.objs.size+2),("_law_line_here",s.heap.objs.size+3)]) rfl qP qP rfl (sub2 rfl rfl) (nm:=["_law_word","_law_line_here"]) rfl qP rfl (λ i hi j hj=>by
            match i,hi with
            | 0,_=>cases hj
             |1,_=>cases hj;exact⟨_,rfl,rfl,rfl,.inl rfl⟩
             |2,_=>cases hj;exact⟨_,rfl,rfl,rfl,.inl rfl⟩
            )) (Z4W (K:=K) rfl (pvF 2)) (λ C fp s H=>(qH 0 (show(["_law_one","_law_line_here","_law_word"]:List V2).Nodup by decide+kernel))) (λ C fp s H=>(PW.pt (Z3d (Z0Y (r:=rIn K false) Z0C (qA K 0) (pvF 1) (by with_unfolding_all rfl)) (Z1Z (Z0Y (r:=rIn K false) Z0C (pvF 2) (Z0S rfl (BlockOk.plain (N:=["_law_row"]) rfl qP qP qP) (Z4W (K:=K) rfl (qA K 0)) (λ C fp s H=>(qH 0 (show(["_law_row"]:List V2).Nodup by decide+kernel))) (λ C fp s H=>(qA K 0))) (by with_unfolding_all rfl)))))) (λ C fp s H=>(pvF 0))) (Z0t Z0W)) (Z0a (qG 9 O0w.nd (qF e0 hr (qK (pvF 2) (qA K 5) (pvF 8)))) (Z0a (qG 10 O0w.nd (qF B0 hr (qK (pvF 3) (qA K 5) (pvF 8)))) (Z0a (Z0E (PW.pt (J1Z (J7h (Z3b (Z1q (r:=rIsi K) J3X rfl T.O0Y Z5H (qJ (pvF 10) (J5J (v:=.ty "list") rfl T.O0E Z3n rfl))))) (Z8D (qM J9G (Z1q (r:=Z9I K) (Z5s hr.gd hr.units) rfl T.O1x J1s (qI (pvF 10))) (Z1q (r:=Z9I K) (Z5s hr.gd hr.units) rfl T.O1x J1s (qI (pvF 9))))))) (Z0d (Z0j J7q)) Z0p) (Z0a (Z1a (Z2f qc9 qd7 qd8 Z0B (pvF 10) (qI Z0c))) (Z0d (Z1a (Z2f qc9 qd7 qd8 Z0B (pvF 6) (qI (Z0m (qJ (pvF 10) (Z0i Z1l (pvF 9) (Z0t (qI Z0c))))))))))))) Z0p)))))) (Z0d (Z0j (J2E (Z1z (r:=rEqN K) (Z6x hr.units) (Z2I rfl (BlockOk.plain (N:=["_law_pair"]) rfl qP qP qP) (Z0P (pvF 6)) (λ C fp s H=>(qH 0 (show(["_law_pair"]:List V2).Nodup by decide+kernel))) (λ C fp s H=>(qM (r:=rNeD K) (J7E hr.units) (qA K 0) (qA K 0))) (λ C fp s H=>(pvF 0))) (Z0t Z0W) (Z3f _)) (Z8H (Z1z (r:=rEqP K) (J7g hr.units) (Z1M (pvF 3) T.Program.cl R hr qS) (pvF 1) (Z3f _))))))))))))),?_⟩
  refine seq8 λ m2 o1 x3 s1 o2 v1 y3 x1 z3 z1 A3 A1 B3 B1=>?_;walk_at "r";refine⟨sc,is,rfl,l2,λ pvF G H1 rt I=>?_⟩;obtain⟨pa,xs,rfl,sq,rs⟩:=RT.tup_inv rt;obtain⟨y1,r1,rfl,q1,q2⟩:=rs.inv;obtain⟨y2,r2,rfl,q3,q4⟩:=q2.inv;cases q4.nil_inv;obtain⟨ha,C3,rfl,D3,E3⟩:=q1.tup_inv;subst B1;walk_at "r";refine⟨_,sq,_,ix0,?_⟩;subst A1;walk_at "r";have C1:∀h∈G.houses,HsOk h:=λ h hh=>by
    obtain⟨_,w1,w2,w3⟩:=I.hs h hh;exact⟨λ d hd=>⟨(w3 d hd).1.ok,qb9 (w3 d hd).1.fl qS,by have:=(w3 d hd).2;omega⟩,qR,qR⟩
  have N0:=I.le;refine⟨.ref pa,G,rfl,rt,C1,qR,⟨I.mb.ok,by have:=I.mb.fl;omega,by have:=I.mp;omega⟩,I.mn,λ po H2 s2 D1=>?_⟩;subst z1;walk_at "r";refine New.of λ cl H3 h3 s3 e3=>?_;subst x1;walk_at "r";have S3:=s2.trans s3;have e1:RT K H1 (.ref ha) (.tuple (G.houses.map Z2l)):=q1;obtain⟨ts,t1,t2,t3⟩:=J2P e1;obtain⟨ch,r0⟩:=J7e I;refine⟨⟨ts,t1.same S3⟩,?_⟩;refine Z2Z ts (LCI H2 (λ i=>5*i) (λ cl M=>some (V.ref sc)::some (V.ref pa)::some (V.ref ha)::some po::some cl::M) 6) ⟨cl,[],_,s3,e3,qa1 _,rfl,rfl⟩ (λ i σ H' _ hI=>?_) (λ i y σ H' hy hI=>?_) (λ σ H' hI=>?_)
  · obtain⟨cl,cs,M,sI,_⟩:=hI;exact t1.same (s2.trans sI)
  · obtain⟨cl,cs,M,sI,s0,u0,b0,rfl⟩:=hI;obtain⟨o5,o6,o7,o8,o9,h0,rfl⟩:∃a b c d e f,M=[a,b,c,d,e,f]:=by
      match M,b0 with
      |[a,b,c,d,e,f],_=>exact⟨a,b,c,d,e,f,rfl⟩
    obtain⟨X,b,f,g,hX,rfl,C0,rf,rg⟩:=t3 i y hy;obtain⟨aw,us,rfl,u1,u2,u3⟩:=J6d rg;have SI:=s2.trans sI;have u0:cs.length<=5*i:=u0;have v2:i<12:=by have:=(qa7.mp hy).1;omega
    have lw:=(I.hs X (qb0 hX)).2.1;walk_at "r";refine⟨_,C0.same SI,_,(rfl:atI _ 3=some (.ref aw)),_,rfl,⟨us,u1.same SI⟩,λ D hD=>?_⟩;refine Z3x (n:=us.length) (λ σ=>∃o,σ=[o,some (.ref cl)]) (λ t σ=>∃y,us[t]?=some y/\σ=[some y,some (.ref cl)]) (λ t=>decide ((X.words.map Wd.name).getD t ""∉cs)) (λ t v H=>∃x:V2,v=.str x) (λ _ _ _ _ h _=>h) ⟨_,rfl⟩ hD (by rw[sizeLine_eq];omega) (λ t H2 s ht=>⟨us,us[t],(u1.same SI).same s,qa8 _⟩) (λ H2 s=>⟨us,(u1.same SI).same s,qa1 _⟩) (λ t x σ H2 H3 K' ht s2 yl hS kk=>?_) (λ t σ hS=>?_) (λ t σ ht hS H2 K' s2 kk=>?_) (λ t σ ht hp hS H2 K' s2 kk=>?_) (λ vs H4 S4 hv hA=>?_)
    · obtain⟨o,rfl⟩:=hS;obtain⟨rfl,yl⟩:=yl;walk_at "r";exact kk _ _ ⟨x,yl us ((u1.same SI).same s2),rfl⟩ (Same.refl _)
    · obtain⟨y,_,rfl⟩:=hS;exact⟨_,rfl⟩
    · obtain⟨y,w0,rfl⟩:=hS;obtain⟨dw,bw,fw,gw,hw,rfl,D0⟩:=u3 t y w0;have hn:(X.words.map Wd.name).getD t ""=dw.name:=by rw[qd3,qa4,hw];rfl
      rw[hn]at kk;walk_at "r";refine⟨_,(D0.same SI).same s2,_,ix0,_,.inl (SqL.of (s2 _ _ s0)),rfl,Z1L _,?_⟩;rw[Z3K];have kk:=kk H2 (Same.refl _);rw[decide_not]at kk;exact kk
    · obtain⟨y,w0,rfl⟩:=hS;obtain⟨dw,bw,fw,gw,hw,rfl,D0⟩:=u3 t y w0;walk_at "r";exact⟨_,(D0.same SI).same s2,_,ix0,kk _ _ (Same.refl _) ⟨_,rfl⟩⟩
    obtain⟨xs,rfl⟩:=J5w hA;have lx:xs.length<=us.length:=by
      have h1:=hA.len;have h2:=Z7u (λ t=>decide ((X.words.map Wd.name).getD t ""∉cs)) us.length;rw[qa0]at h1;omega
    refine⟨D,rfl,_,S4 _ _ s0,_,hv,by rw[qa0,qa0];omega,New.of λ c5 H5 h5 s5 e5=>⟨c5,cs++xs,_,sI.trans (S4.trans s5),by rw[e5,qc2],?_,rfl,rfl⟩⟩;rw[qa5];show _<=5*(i+1);have:cs.length<=5*i:=u0;omega
  · obtain⟨cl,cs,M,sI,s0,u0,b0,rfl⟩:=hI;obtain⟨o5,o6,o7,o8,o9,h0,rfl⟩:∃a b c d e f,M=[a,b,c,d,e,f]:=by
      match M,b0 with
      |[a,b,c,d,e,f],_=>exact⟨a,b,c,d,e,f,rfl⟩
    show o2 _ _ _;subst v1;walk_at "r";refine New.of λ hl H4 h4 s4 e4=>?_;subst s1;walk_at "r";have u0:cs.length<=5*ts.length:=u0;have SI:=s2.trans sI;refine⟨⟨ts,(t1.same SI).same s4⟩,?_⟩;refine Z2Z ts (LWI H' hl (λ i=>60*i) (λ M=>some (V.ref sc)::some (V.ref pa)::some (V.ref ha)::some po::some (V.ref cl)::M.headD none::some (V.ref hl)::M.tail) 5) ⟨[],[o5,o7,o8,o9,h0],s4,e4,(λ v hv=>by cases hv),qa1 _,rfl,rfl⟩ (λ i σ H' _ hI=>?_) (λ i y σ H5 hy hI=>?_) (λ σ H5 hI=>?_)
    · obtain⟨vs,M,sJ,_⟩:=hI;exact(t1.same SI).same sJ
    · obtain⟨vs,M,sJ,G0,f1,O0,b0,rfl⟩:=hI;obtain⟨o5,o7,o8,o9,h0,rfl⟩:∃a b c d e,M=[a,b,c,d,e]:=by
        match M,b0 with
        |[a,b,c,d,e],_=>exact⟨a,b,c,d,e,rfl⟩
      obtain⟨X,b,f,g,hX,rfl,C0,rf,rg⟩:=t3 i y hy;have E1:=qb0 hX;have SJ:=SI.trans sJ;obtain⟨es,G1⟩:∃es,es=ch X.name:=⟨_,rfl⟩;obtain⟨c1,c2⟩:PW.Chain G X.name es/\es.length<=12:=by rw[G1];exact r0 X.name (qb6 E1)
      show tSeq _ _ _ _ _;refine seq2 λ x2 I1=>?_;walk_at "r";refine⟨_,C0.same SJ,_,ix0,ha,G,X.name,es,rfl,e1.same SJ,I.nd,N0,c1,c2,λ ll H6 h6 s6 e6=>?_⟩;show x2 _ [some (V.ref sc),some (V.ref pa),some (V.ref ha),some po,some (V.ref cl),some (V.ref b),some (V.ref hl),some (V.ref ll),o8,o9,h0] H6;subst I1;walk_at "r";have S6:=SJ.trans s6;have L1:=s6 _ _ G0;have Z0:=(sJ.trans s6) _ _ s0;have N1:∀v∈vs,J5o H6 v:=λ v hv=>let⟨t,a,b,ms,q1,q2,q3,q4,q5⟩:=f1 v hv;⟨t,a,b,ms,q1,s6 _ _ q2,s6 _ _ q3,s6 _ _ q4,q5⟩;refine⟨⟨_,SqL.of Z0⟩,?_⟩;have O1:cl≠hl:=λ z=>by rw[z,h4]at s0;cases s0
      have Q1:ll≠hl:=λ z=>by rw[z,G0]at h6;cases h6
      have s7:∀{H7:Hp},SX hl H6 H7->Same H' H7:=λ{H7} sK b o hb=>sK _ _ (λ z=>by rw[z,h4]at hb;cases hb) ((sJ.trans s6) _ _ hb);refine Z1i (cs.map V.str) (LWJ H6 hl (λ j=>60*i+j) (λ M=>some (V.ref sc)::some (V.ref pa)::some (V.ref ha)::some po::some (V.ref cl)::some (V.ref b)::some (V.ref hl)::some (V.ref ll)::M) 3) ⟨vs,_,λ b o _ h=>h,L1,N1,O0,rfl,rfl⟩ (λ j σ H7 _ hJ=>?_) (λ j y σ H7 hy hJ=>?_) (λ σ H7 hJ=>?_)
      · obtain⟨us,M,sK,_⟩:=hJ;exact SqL.of (sK _ _ O1 Z0)
      · obtain⟨us,M,sK,I0,Q0,R0,b0,rfl⟩:=hJ;obtain⟨o8,o9,h0,rfl⟩:∃a b c,M=[a,b,c]:=by
          match M,b0 with
          |[a,b,c],_=>exact⟨a,b,c,rfl⟩
        rw[qa4]at hy;obtain⟨wd,hw,rfl⟩:=qc1.mp hy;have SK:=SI.trans (s7 sK);have R1:=sK _ _ Q1 e6;walk_at "r";refine⟨⟨ts,t1.same SK⟩,λ D hD=>?_⟩;refine Z3x (n:=ts.length) (λ σ=>∃o,σ=[o,some (.ref ll),some (.str wd)]) (λ t σ=>∃y,ts[t]?=some y/\σ=[some y,some (.ref ll),some (.str wd)]) (λ t=>match G.houses[t]? with|some X'=>decide (X'.name∈X.name::es)&&decide (wd∈X'.words.map Wd.name)|none=>false) (λ t v H=>True) (λ _ _ _ _ h _=>h) ⟨_,rfl⟩ hD (by rw[sizeLine_eq];omega) (λ t H2 s ht=>⟨ts,ts[t],(t1.same SK).same s,qa8 _⟩) (λ H2 s=>⟨ts,(t1.same SK).same s,qa1 _⟩) (λ t x σ H2 H3 K' ht s2 yl hS kk=>?_) (λ t σ hS=>?_) (λ t σ ht hS H2 K' s2 kk=>?_) (λ t σ ht hp hS H2 K' s2 kk=>?_) (λ vs H8 S8 hv hA=>?_)
        · obtain⟨o,rfl⟩:=hS;obtain⟨rfl,yl⟩:=yl;walk_at "r";exact kk _ _ ⟨x,yl ts ((t1.same SK).same s2),rfl⟩ (Same.refl _)
        · obtain⟨y,_,rfl⟩:=hS;exact⟨_,rfl⟩
        · obtain⟨y,w0,rfl⟩:=hS;obtain⟨X',b',f',g',S1,rfl,a1,G3,z2⟩:=t3 t y w0;obtain⟨aw,T1,rfl,u1,u2,u3⟩:=J6d z2;rw[S1]at kk;walk_at "r";refine⟨_,(a1.same SK).same s2,_,ix0,_,.inl (SqL.of (s2 _ _ R1)),rfl,Z1L _,?_⟩;rw[Z3K];have kk:∀H3,Same H2 H3->K' (decide (X'.name∈X.name::es)&&decide (wd∈X'.words.map Wd.name)) H3:=kk;by_cases U1:X'.name∈X.name::es
          rotate_left
          · rw[decide_eq_false U1]at kk ⊢;exact ite2 (λ z=>by cases z) λ _=>kk _ (Same.refl _)
          rw[decide_eq_true U1]at kk ⊢;refine ite2 (λ _=>?_) λ z=>absurd rfl z;have Y1:=(u1.same SK).same s2;refine⟨_,(a1.same SK).same s2,_,(rfl:atI _ 3=some (.ref aw)),_,rfl,⟨T1,Y1⟩,λ D2 B2=>?_⟩;have I3:=(I.hs X' (qb0 S1)).2.1;refine Z0U (ys:=T1) none [] (λ j v H=>∃t,X'.words[j]?=some t/\v=(λ w:Wd=>V.str w.name) t) (λ _ _ _ _ h _=>h) rfl B2 (by rw[sizeLine_eq];omega) (λ H1 s=>Y1.same s) (λ j y hy H3 K2 s3 k2=>?_) (λ tv H3 s3 Z1 L3 hR=>?_)
          · obtain⟨dw,bw,fw,gw,C2,rfl,D0⟩:=u3 j y hy;walk_at "r";exact⟨_,((D0.same SK).same s2).same s3,_,ix0,k2 _ _ (Same.refl _) ⟨dw,C2,rfl⟩⟩
          have E2:tv=(X'.words.map Wd.name).map V.str:=by
            rw[qd9];refine ql2 λ j=>?_;rw[qa4];cases e:tv[j]? with
            |none=>rw[qk0 (by have:=qk2.mp e;omega)];rfl
            |some v=>obtain⟨t,G2,rfl⟩:=hR j v e;rw[G2];rfl
          rw[E2]at Z1;refine⟨D2,rfl,_,.inl (SqL.of Z1),rfl,Z1L _,?_⟩;rw[Z3K];exact kk _ s3
        · obtain⟨y,w0,rfl⟩:=hS;walk_at "r";exact kk _ _ (Same.refl _) trivial
        have a2:=SK.trans S8;have nx:∀{H9:Hp},Same H8 H9->LWJ H6 hl (λ j=>60*i+j) (λ M=>some (V.ref sc)::some (V.ref pa)::some (V.ref ha)::some po::some (V.ref cl)::some (V.ref b)::some (V.ref hl)::some (V.ref ll)::M) 3 (j+1) [some (V.ref sc),some (V.ref pa),some (V.ref ha),some po,some (V.ref cl),some (V.ref b),some (V.ref hl),some (V.ref ll),some (V.str wd),o9,h0] H9:=λ{H9} s9=>⟨us,_,λ b o nb h=>(S8.trans s9) _ _ (sK _ _ nb h),(S8.trans s9) _ _ I0,λ v hv=>let⟨t,a,b,ms,q1,q2,q3,q4,q5⟩:=Q0 v hv;⟨t,a,b,ms,q1,(S8.trans s9) _ _ q2,(S8.trans s9) _ _ q3,(S8.trans s9) _ _ q4,q5⟩,by have:us.length<=60*i+j:=R0;show _<=60*i+(j+1);omega,rfl,rfl⟩;refine New.of λ p9 H9 h9 s9 e9=>⟨D,rfl,_,SqL.of (s9 _ _ hv),SqL.of e9,ite2 (λ I2=>?_) λ _=>nx s9⟩;obtain⟨Y,L2,N2,O2⟩:∃Y∈G.houses,Y.name∈X.name::es/\wd∈Y.words.map Wd.name:=by
          obtain⟨v0,Q2⟩:∃v,vs[0]?=some v:=by
            cases vs with
            |nil=>cases I2
            |cons v r=>exact⟨v,rfl⟩
          obtain⟨t0,S2,_⟩:=hA.at Q2;have hm:=qb0 S2;unfold Z2d at hm;have h2:=(qc7.mp hm).2;cases e:G.houses[t0]? with
          |none=>rw[e]at h2;cases h2
          |some Y=>
            rw[e]at h2;have h2:=ql3.mp h2;exact⟨Y,qb0 e,of_decide_eq_true h2.1,of_decide_eq_true h2.2⟩
        have S0:X.name∈G.houses.map Hs.name:=qb6 E1;obtain⟨fo,Bx,T0⟩:=J9i I.nd r0 (wd:=wd);have j1:=T0.2 X.name S0 Y L2 (by rw[<-G1];exact N2) O2;refine⟨_,((C0.same SK).same S8).same s9,_,ix0,ha,X.name,wd,G,ch,fo,Bx,rfl,(e1.same a2).same s9,I.nd,N0,(λ h hh=>⟨(I.hs h hh).1,(I.hs h hh).2.1⟩),(λ x hx=>⟨(r0 x hx).1,(r0 x hx).2,T0.1 x hx⟩),S0,j1,λ T2 c0 b2 M3 J0 l1 U2 Y2 d2 N3=>?_⟩;have Z2:=a2.trans (s9.trans J0);refine⟨_,C0.same Z2,_,ix0,po,X.name,wd,G,ch,fo,Bx,rfl,D1.same (((sI.trans (s7 sK)).trans S8).trans (s9.trans J0)),⟨I.nd,C1⟩,N0,(λ x hx=>⟨(r0 x hx).1,by have:=(r0 x hx).2;omega,T0.1 x hx⟩),S0,j1,λ fnd ms2 H11 m1 U0 Y0 a3 b3 c3=>?_⟩;have d3:c0=ms2:=P70.rising_one U2 a3 Y2 b3 λ n=>(d2 n).trans (c3 n).symm;subst d3;have e2:∀m∈c0,m.natAbs<10^18:=λ m hm=>by
          obtain⟨x,hx,rfl⟩:=(d2 m).mp hm;have f3:x∈G.houses.map Hs.name:=(qa2.mp hx).elim (λ z=>by rw[z];exact S0) λ z=>(qc7.mp z).1;have:=J7H (λ X hX=>(I.hs X hX).2.1) N0 (T0.1 x f3) (j1 x hx);omega
        have O3:c0.length<=99:=by omega
        obtain⟨n1,n2,n3,n4⟩:=J2F e2 qR;have L0:∀{x:V0},H11 x=some (.lst (c0.map V.int))->RdD K H11 (.ref x) (.list (c0.map PyData.int)):=λ h=>.lst (SqL.of h) (RdDs.ints c0);have j3:rIsi K [V.ref fnd,V.ty "list"] H11 λ x H1=>x=.bl true/\H1=H11:=⟨_,_,_,_,true,rfl,rfl,.lst Y0,by first|rfl|decide+kernel|(simp[W.kitOne]),rfl,rfl⟩;obtain⟨x',c',l3,t',b',i1,i2,i3,i4,i5,i6⟩:=j3;refine⟨x',c',l3,t',b',i1,i2,i3,i4,_,i5,ite2 (λ z=>by cases z) λ _=>⟨_,rfl,_,L0 Y0,n1,n2,n3,n4,_,rfl,_,L0 (U0 _ _ l1),n1,n2,n3,n4,ite2 (λ z=>absurd rfl z) λ _=>?_⟩⟩;have Q3:=S8.trans (s9.trans (J0.trans U0));have nf:∀{x:V0}{o:HO},b2 x=some o->x≠fnd:=λ e z=>by rw[z,m1]at e;cases e
        have T3:=U0 _ _ l1;have sU:Same b2 (upd H11 fnd (.lst (c0.map V.int++[V.int 99]))):=λ x o hx=>by rw[Z0e (nf hx)];exact U0 _ _ hx
        have eU:upd H11 fnd (.lst (c0.map V.int++[V.int 99])) fnd=some (.lst ((c0++[99]).map V.int)):=by rw[Z0b,qc2];rfl
        have q0:=(S8.trans (s9.trans J0)) _ _ I0;refine⟨.inl ⟨rfl,_,SqL.of Y0⟩,fnd,rfl,_,Y0,by rw[qa0];omega,.inl ⟨rfl,_,SqL.of (sU _ _ q0)⟩,?_⟩;generalize upd H11 fnd (.lst (c0.map V.int++[V.int 99]))=U3 at*;refine New.of λ p1 J1 g1 r1 w1=>⟨T2,rfl,_,r1 _ _ (sU _ _ l1),_,w1,by rw[qa0];show _+1<=_;omega,New.of λ p2 J2 g2 r2 w2=>New.of λ p3 J3 g3 r3 w3=>?_⟩;have R3:=r1.trans (r2.trans r3);have big:=(S8.trans (s9.trans J0)).trans (sU.trans R3);have Y3:us.length<=60*i+j:=R0;have Z3:j<cs.length:=(qa7.mp hw).1;have v2:i<ts.length:=by have:=(qa7.mp hX).1;omega
        have b1:=R3 _ _ (sU _ _ q0);have nt:∀{x:V0}{xs:List V},J3 x=some (.tup xs)->x≠hl:=λ e z=>by rw[z,b1]at e;cases e
        have m3:fnd≠hl:=λ z=>by rw[z,q0]at m1;cases m1
        have o3:p2≠hl:=λ z=>by rw[z,r1 _ _ (sU _ _ q0)]at g2;cases g2
        refine⟨us,b1,qR,us++[.ref p3],_,λ x o nx hx=>?_,Z0b,λ v hv=>?_,?_,rfl,rfl⟩
        · rw[Z0e nx];exact big _ _ (sK _ _ nx hx)
        · rcases qb5.mp hv with z|z
          · obtain⟨t,a,b,ms,q1,q2,q3,q4,q5⟩:=Q0 v z;have na:∀{x:V0},H7 x=some (.lst (ms.map V.int))->x≠hl:=λ{x} e y=>by
              rw[y,I0]at e;injection e with e
              injection e with e
              rw[e]at z;obtain⟨m,_,hm⟩:=qb4.mp z;rw[q1]at hm;cases hm
            exact⟨t,a,b,ms,q1,(Z0e (nt (big _ _ q2))).trans (big _ _ q2),(Z0e (na q3)).trans (big _ _ q3),(Z0e (na q4)).trans (big _ _ q4),q5⟩
          · rw[qa3.mp z];exact⟨p3,fnd,p2,c0++[99],rfl,(Z0e (nt w3)).trans w3,(Z0e m3).trans (R3 _ _ eU),(Z0e o3).trans ((r3 _ _ w2).trans (by rw[qc2];rfl)),by rw[qa5];show _+1<=100;omega⟩
        · rw[qa5];show _+1<=60*i+(j+1);omega
      · obtain⟨us,M,sK,I0,Q0,R0,b0,rfl⟩:=hJ;obtain⟨o8,o9,h0,rfl⟩:∃a b c,M=[a,b,c]:=by
          match M,b0 with
          |[a,b,c],_=>exact⟨a,b,c,rfl⟩
        refine⟨us,[some (V.ref b),some (V.ref ll),o8,o9,h0],s7 sK,I0,Q0,?_,rfl,rfl⟩;have:us.length<=60*i+(cs.map V.str).length:=R0;rw[qa0]at this;show _<=60*(i+1);omega
    · obtain⟨vs,M,sJ,G0,f1,O0,b0,rfl⟩:=hI;obtain⟨o5,o7,o8,o9,h0,rfl⟩:∃a b c d e,M=[a,b,c,d,e]:=by
        match M,b0 with
        |[a,b,c,d,e],_=>exact⟨a,b,c,d,e,rfl⟩
      show m2 _ _ _;subst o1;walk_at "r";refine⟨⟨_,SqL.of G0⟩,λ D hD=>?_⟩;have O0:vs.length<=60*ts.length:=O0;refine Z3u (ys:=vs) none [] (λ _=>false) rfl hD (by rw[sizeLine_eq];omega) (λ Hj sj=>SqL.of (sj _ _ G0)) (λ y hy H6 K' s6 kk=>?_) (λ H6 s6 e6=>?_)
      · obtain⟨t,a,b,ms,rfl,p1,p2,p3,p4⟩:=f1 y hy;walk_at "r";have ly:Lay 1 (.list (ms.map PyData.int)):=Lay.lst (LayL.of λ d hd=>by
          obtain⟨m,_,rfl⟩:=qb4.mp hd;exact Lay.int)
        have L0:∀{x:V0},H5 x=some (.lst (ms.map V.int))->RdD K H6 (.ref x) (.list (ms.map PyData.int)):=λ h=>.lst (SqL.of (s6 _ _ h)) (RdDs.ints ms);refine⟨_,SqT.of (s6 _ _ p1),_,ix0,_,SqT.of (s6 _ _ p1),_,ix1,_,L0 p2,_,L0 p3,ly.shaped qS,ly.shaped qS,?_⟩;rw[ly.eqv];exact kk _ (Same.refl _)
      rw[List.filter_eq_nil_iff.mpr (λ _ _ z=>by cases z)]at e6;refine New.of λ p H7 h7 s7 e7=>⟨D,rfl,_,SqL.of (s7 _ _ e6),SqL.of e7,ite2 (λ _=>?_) λ z=>absurd rfl z⟩;have S7:=SI.trans (sJ.trans (s6.trans s7));have d1:=D1.same ((sI.trans sJ).trans (s6.trans s7));have f2:=d1;cases d1 with
      |mk k1 k2 k3 k4=>
        refine⟨_,rfl,_,_,k1,rfl,_,G,rfl,f2,qR,(λ X hX=>by have:=(I.hs X hX).2.1;omega),λ v H8 s8 rv=>?_⟩;exact⟨_,rv,(rt.same (S7.trans s8):RT K H8 (.ref pa) (Z6F G)),(J7T I).p,qb9 (J7T I).d qS,q H8⟩
end K70
end
end
open PySem PySem.W PyProof.Rows
set_option maxRecDepth 100000 in
set_option maxHeartbeats 0 in
theorem PySem.Challenge.cw_elderhouse_k70_meant_holds : PySem.Challenge.rw_elderhouse_k70_meant.Holds := by
 w_on
 refine holds_law K70.ws0 λ said=>?_
 refine holds_open (q:=K70.qv) (loose:=[]) (Xt:=λ s=>xlAt K70.qv [] s&&recOk (RowW.records K70.rv) s) (XP:=XL K70.qv []) (Yf:=Hook.obs (kHook K70.KK K70.KA K70.ka_eq)) (Ya:=Hook.val (kHook K70.KK K70.KA K70.ka_eq)) (YP:=Hook.says (kHook K70.KK K70.KA K70.ka_eq)) (N:=5864) K70.left (Hook.of (kHook K70.KK K70.KA K70.ka_eq)) (Hook.keeps (kHook K70.KK K70.KA K70.ka_eq)) (λ s e=>xl_of s (ql3.mp e).1) XL.keeps (by rfl) (by rfl) (by rfl) (λ s e=>recFacts_of (ql3.mp e).2) (by rfl) said qP ⟨rfl,rfl,rfl,rfl,rfl,qP⟩ ?hw ?hc
 case hw=>w_witness2
 k_fill
 refine L2.J3n (l:=rw0) (n:=63) (k:=44) (x:="_law_script") (CX:=L2.CX0) (sp:=K70.sp_law) rfl qQ rfl ⟨rfl,qQ,qQ,rfl⟩ (λ w h Y=>W.kIn_of Y) ?F ?S (λ _ _ _ _ z=>z)
 case F=>
  intro w mg fa h KX G hmg
  have T:∃Cl Ct Cw Ch Cp,K70.Txt (L2.KOf KX) mg Cl Ct Cw Ch Cp:=by
   dsimp only[L2.KOf]
   refine' ⟨_,_,_,_,_,K70.Txt.mk (W.mg_none_of KX G ?x0) (W.mg_none_of KX G ?x1) (W.mg_none_of KX G ?x2) (W.mg_none_of KX G ?x3) (W.mg_none_of KX G ?x4) (W.mg_none_of KX G ?x5) (W.mg_none_of KX G ?x6) (W.mg_none_of KX G ?x7) (W.mg_none_of KX G ?x8) (W.mg_none_of KX G ?x9) (W.mg_none_of KX G ?x10) (W.mg_none_of KX G ?x11) (W.mg_none_of KX G ?x12) (W.mg_none_of KX G ?x13) (L2.Z0Z KX G ?x14 ?x15 ?x16 ?x17) (L2.Z0Z KX G ?x18 ?x19 ?x20 ?x21) (L2.Z0Z KX G ?x22 ?x23 ?x24 ?x25) (L2.Z0Z KX G ?x26 ?x27 ?x28 ?x29) (L2.Z0Z KX G ?x30 ?x31 ?x32 ?x33) (L2.Z0Z KX G ?x34 ?x35 ?x36 ?x37) (L2.Z0Z KX G ?x38 ?x39 ?x40 ?x41) (L2.Z0Z KX G ?x42 ?x43 ?x44 ?x45) (L2.Z0Z KX G ?x46 ?x47 ?x48 ?x49) (L2.Z0Z KX G ?x50 ?x51 ?x52 ?x53) (L2.Z0Z KX G ?x54 ?x55 ?x56 ?x57) (L2.Z0Z KX G ?x58 ?x59 ?x60 ?x61) (L2.Z0Z KX G ?x62 ?x63 ?x64 ?x65) (L2.Z0Z KX G ?x66 ?x67 ?x68 ?x69) (L2.Z0Z KX G ?x70 ?x71 ?x72 ?x73) (L2.Z0Z KX G ?x74 ?x75 ?x76 ?x77) (L2.Z0Z KX G ?x78 ?x79 ?x80 ?x81) (L2.Z0Z KX G ?x82 ?x83 ?x84 ?x85) (L2.Z0Z KX G ?x86 ?x87 ?x88 ?x89) (L2.Z0Z KX G ?x90 ?x91 ?x92 ?x93) (L2.Z0Z KX G ?x94 ?x95 ?x96 ?x97) (L2.Z0Z KX G ?x98 ?x99 ?x100 ?x101) (L2.Z0Z KX G ?x102 ?x103 ?x104 ?x105) (L2.Z0Z KX G ?x106 ?x107 ?x108 ?x109) (L2.Z0Z KX G ?x110 ?x111 ?x112 ?x113) (L2.Z0Z KX G ?x114 ?x115 ?x116 ?x117) (L2.Z0Z KX G ?x118 ?x119 ?x120 ?x121) (L2.Z0Z KX G ?x122 ?x123 ?x124 ?x125) (L2.Z0Z KX G ?x126 ?x127 ?x128 ?x129) (L2.Z0Z KX G ?x130 ?x131 ?x132 ?x133) (L2.Z0Z KX G ?x134 ?x135 ?x136 ?x137) (L2.Z0Z KX G ?x138 ?x139 ?x140 ?x141) (L2.Z0Z KX G ?x142 ?x143 ?x144 ?x145) (L2.Z0Z KX G ?x146 ?x147 ?x148 ?x149) (L2.Z0Z KX G ?x150 ?x151 ?x152 ?x153) (L2.Z0Z KX G ?x154 ?x155 ?x156 ?x157) (L2.Z0Z KX G ?x158 ?x159 ?x160 ?x161) (L2.Z0Z KX G ?x162 ?x163 ?x164 ?x165) (L2.Z0Z KX G ?x166 ?x167 ?x168 ?x169) (L2.Z7C KX G ?x170 ?pg_Hall ?hd_Hall ?po_Hall ?sa_Hall ?mk_Hall ?kp_Hall) (L2.Z0A ?x171) (L2.Z0A ?x172) (L2.Z7C KX G ?x173 ?pg_Term ?hd_Term ?po_Term ?sa_Term ?mk_Term ?kp_Term) (L2.Z0A ?x174) (L2.Z0A ?x175) (L2.Z0A ?x176) (L2.Z0A ?x177) (L2.Z0A ?x178) (L2.Z0A ?x179) (L2.Z7C KX G ?x180 ?pg_Word ?hd_Word ?po_Word ?sa_Word ?mk_Word ?kp_Word) (L2.Z0A ?x181) (L2.Z0A ?x182) (L2.Z0A ?x183) (L2.Z0A ?x184) (L2.Z7C KX G ?x185 ?pg_House ?hd_House ?po_House ?sa_House ?mk_House ?kp_House) (L2.Z0A ?x186) (L2.Z0A ?x187) (L2.Z0A ?x188) (L2.Z0A ?x189) (L2.Z7C KX G ?x190 ?pg_Program ?hd_Program ?po_Program ?sa_Program ?mk_Program ?kp_Program) (L2.Z0A ?x191) (L2.Z0A ?x192) (L2.Z1Y ?x193 ?x194 ?x195 ?x196 ?x197) (L2.Z1Y ?x198 ?x199 ?x200 ?x201 ?x202) (L2.Z1Y ?x203 ?x204 ?x205 ?x206 ?x207) (L2.Z1Y ?x208 ?x209 ?x210 ?x211 ?x212) (L2.Z1Y ?x213 ?x214 ?x215 ?x216 ?x217) (L2.Z1Y ?x218 ?x219 ?x220 ?x221 ?x222) (L2.Z1Y ?x223 ?x224 ?x225 ?x226 ?x227) (L2.Z1Y ?x228 ?x229 ?x230 ?x231 ?x232) (L2.Z1Y ?x233 ?x234 ?x235 ?x236 ?x237) (L2.Z1Y ?x238 ?x239 ?x240 ?x241 ?x242) (L2.Z1Y ?x243 ?x244 ?x245 ?x246 ?x247) (L2.Z1Y ?x248 ?x249 ?x250 ?x251 ?x252) (L2.Z1Y ?x253 ?x254 ?x255 ?x256 ?x257) (L2.Z1Y ?x258 ?x259 ?x260 ?x261 ?x262) (L2.Z1Y ?x263 ?x264 ?x265 ?x266 ?x267)⟩
   (case x0|x1|x2|x3|x4|x5|x6|x7|x8|x9|x10|x11|x12|x13|x14|x15|x16|x17|x18|x19|x20|x21|x22|x23|x24|x25|x26|x27|x28|x29|x30|x31|x32|x33|x34|x35|x36|x37|x38|x39|x40|x41|x42|x43|x44|x45|x46|x47|x48|x49|x50|x51|x52|x53|x54|x55|x56|x57|x58|x59|x60|x61|x62|x63|x64|x65|x66|x67|x68|x69|x70|x71|x72|x73|x74|x75|x76|x77|x78|x79|x80|x81|x82|x83|x84|x85|x86|x87|x88|x89|x90|x91|x92|x93|x94|x95|x96|x97|x98|x99|x100|x101|x102|x103|x104|x105|x106|x107|x108|x109|x110|x111|x112|x113|x114|x115|x116|x117|x118|x119|x120|x121|x122|x123|x124|x125|x126|x127|x128|x129|x130|x131|x132|x133|x134|x135|x136|x137|x138|x139|x140|x141|x142|x143|x144|x145|x146|x147|x148|x149|x150|x151|x152|x153|x154|x155|x156|x157|x158|x159|x160|x161|x162|x163|x164|x165|x166|x167|x168|x169|x170|pg_Hall|hd_Hall|po_Hall|sa_Hall|mk_Hall|kp_Hall|x171|x172|x173|pg_Term|hd_Term|po_Term|sa_Term|mk_Term|kp_Term|x174|x175|x176|x177|x178|x179|x180|pg_Word|hd_Word|po_Word|sa_Word|mk_Word|kp_Word|x181|x182|x183|x184|x185|pg_House|hd_House|po_House|sa_House|mk_House|kp_House|x186|x187|x188|x189|x190|pg_Program|hd_Program|po_Program|sa_Program|mk_Program|kp_Program|x191|x192|x193|x194|x195|x196|x197|x198|x199|x200|x201|x202|x203|x204|x205|x206|x207|x208|x209|x210|x211|x212|x213|x214|x215|x216|x217|x218|x219|x220|x221|x222|x223|x224|x225|x226|x227|x228|x229|x230|x231|x232|x233|x234|x235|x236|x237|x238|x239|x240|x241|x242|x243|x244|x245|x246|x247|x248|x249|x250|x251|x252|x253|x254|x255|x256|x257|x258|x259|x260|x261|x262|x263|x264|x265|x266|x267=>k_is)
  obtain⟨Cl,Ct,Cw,Ch,Cp,T⟩:=T
  exact L2.J6l T.f_law hmg (λ _ _ _ _ _ _ _=>rfl) λ f fd base F=>K70.ok_law T F
 case S=>exact λ K H a ns hl _ hS=>K70.sp_law_ok hl hS
