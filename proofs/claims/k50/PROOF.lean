import PyProof.Rows.All
import Wide.All
import OpenK.AllK
import Wide.FinOn
import PySem.PyData
import OpenK.KMore
import OpenK.KMake
import OpenK.KDescr
import OpenK.KOwn
import KE.KIsAll
import KE.KItem
import KE.KxBytes
import PyProof.EqAt
import PyProof.EqKinds
import PyProof.TupleCall
import PyProof.ReprRoads
import PyProof.ReprLen
import KE.KDictOf
import PyProof.ListNew
import PyProof.WalksMore
import KE.KRevIter
import PyProof.ZipIter
import PyProof.SumWalkG
import PyProof.MinMaxWalk
import PyProof.WalkInts
import PyProof.SeqI3
import PyProof.Rows.CallKwBuiltin
import KE.KMinKey
import PyProof.AutoSeq1
import PyProof.ListMulRoad
import PyProof.FactsAll.tuple
import PyProof.Rows.SeqMore
import PyProof.CompUse
import PyProof.AttrMiss
import PyProof.FactsAll.zip_1
import PyProof.ListRange
import PyProof.Rows.ListRangeD
import KE.KLam
import KE.KSortTup
import PyProof.AttrMissHeap
import PyProof.DictIter
import PyProof.DictWalks
import PyProof.DictTruth
import KE.KDictSum
import PyProof.Rows.SortStr
import PyProof.Rows.SortWalk
import PyProof.DictUpdate
import KE.KUnpack
import PyProof.ReprBulk
import Lean
import PySem.Challenge.RW_elderhouse_k50_rows_of_terms
set_option Elab.async false
set_option linter.all false
set_option maxRecDepth 100000
set_option compiler.extract_closed false
set_option maxHeartbeats 4000000
open PySem.W renaming Frag→X0
open PySem renaming Addr→V0,Value→V1,Shared→M1,Str→M2,World→Y3,Heap→Z3,Around→M3
open PySem.Challenge renaming pw_elderhouse_k50_rows_of_terms→pw0,rw_elderhouse_k50_rows_of_terms→rw0
open Nat renaming le_refl→qa0,le_trans→qa9,zero_le→qb0,ne_of_lt→qb3,lt_of_sub_eq_succ→qc3,lt_of_lt_of_le→qc9,le_succ→qd6,lt_irrefl→qd8,add_assoc→qe3,min_eq_left→qf2,le_of_lt→qf3,not_lt→qf4,le_add_right→qf5,succ_le_succ→qg1,max_assoc→qg4,le_of_eq→qg7,lt_of_le_of_lt→qh2,lt_succ_self→qi2,min_le_right→qi4,succ_ne_self→qi8,lt_succ_of_lt→qi9,zero_add→qj0,not_lt_zero→qj2,sub_zero→qj3,min_eq_right→qk0,sub_eq_zero_iff_le→qm3
open List renaming length_map→qa1,length_append→qa2,getElem?_eq_getElem→qa3,mem_cons→qa4,mem_singleton→qa5,getElem?_eq_some_iff→qa6,mem_append→qa7,getElem?_map→qa8,size_toArray→qb1,length_cons→qb2,mem_of_getElem?→qb4,map_append→qb6,map_cons→qb7,replicate→qb8,append_assoc→qb9,mem_cons_self→qc2,mem_cons_of_mem→qc4,getD_eq_getElem?_getD→qc5,map_map→qc7,append_nil→qc8,length_take→qd0,take_length→qd1,take_succ→qd4,flatten_cons→qd5,lookup_cons→qd7,length→qd9,mem_map→qe0,take_of_length_le→qe1,range→qe2,mem_map_of_mem→qe4,mem_filter→qe5,mem_append_right→qe6,reverse_cons→qe8,mem_range→qe9,lookup→qf0,find?_cons→qf1,drop_eq_getElem_cons→qf6,nodup_cons→qf7,length_drop→qf8,getElem_of_mem→qf9,length_nil→qg0,of_mem_zip→qg8,getElem?_append_left→qg9,nil_append→qh1,take_succ_eq_append_getElem→qh3,not_mem_nil→qh4,length_filter_le→qh5,sum_cons→qh6,getElem?_eq_none→qh7,flatten_append→qh8,length_eq_zero_iff→qh9,filterMap_cons→qi0,getElem?_append_right→qi3,any_cons→qi5,replicate_succ→qi6,map_nil→qi7,length_reverse→qj1,map_take→qj7,length_take_le→qj8,take_nil→qj9,getElem?_drop→qk1,set_comm→qk3,mem_filterMap→qk4,all_eq_true→qk6,getElem_mem→qk7,cons_append→qk8,sum_append→qk9,drop_zero→ql0,drop_length→ql3,getElem?_of_mem→ql4,reverse_append→ql5,mem_append_left→ql6,length_replicate→ql8,set_cons_zero→qm2,length_range→qm5,find?_eq_none→qm6,ext_getElem?→qm7,drop_of_length_le→qn0,getElem?_take→qn1,mem_of_mem_take→qn2
open PySem.F renaming plainAttrs_list→qb5,slot_list_append→qd2,type_list_append→qd3,slot_list_index→qg2,type_list_index→qg3,slot_list_extend→qj5,type_list_extend→qj6,slot_tuple_add→ql9,entry_tuple_add→qm0,args_tuple_add_2→qm1,slot_list_pop→qm8,type_list_pop→qm9
open Bool renaming false_ne_true→qc0,and_eq_true→qh0,eq_iff_iff→qi1,and_eq_true_iff→qj4
open Option renaming map_eq_some_iff→qc1,map_some→qg5
open Option.some renaming inj→qc6
open Classical renaming byContradiction→qe7
open Array renaming length_toList→qg6,mem_toList_iff→ql7,toList_push→qm4
open Int renaming emod_nonneg→qk2,toNat_natCast→qk5,natCast_add→ql2,emod_lt_of_pos→qn3
open Nat.succ renaming inj→ql1
local macro_rules | `(tactic| walk_at "r") => do let f : String -> Lean.MacroM (Array (Lean.TSyntax ``Lean.Parser.Tactic.simpLemma)) := λ s => (do let v <-(s.splitOn " ").toArray.filterM λ n => do { let r <-Lean.Macro.resolveGlobalName n.toName; return !r.isEmpty }; v.mapM λ n => `(Lean.Parser.Tactic.simpLemma| $(Lean.mkIdent n.toName):term)); let a <-f "J7M J8B J7L J8x J8q J9q J8V J6R J9x J8X J6l J8g J8u J8S J8l J8i J9w J8h J9E J8o J8E J7e J6G J8k J8t J7Z J9r Y0e Y0d J9z J9W J9I J8p J9c J8H J9g J8v J8T J8s J9f J8c J8z J9u J8F J8P J9n J8R J8U J9L J9T J8I J9a J8r J9S Y0k J9V Y0a J9Z J8L J9J J8J J8N J8w J8A J9P J6B J8y Y0b J9e J8d J9v J8Q J9F J9R J9h J9U J6E J6C J9A J9p J8Z J8M J7A J8n J8D J7U J8f J8C J8G J7l J9d J9B J8O J8Y List.getElem?_cons_zero List.getElem?_cons_succ List.set_cons_zero List.set_cons_succ Nat.reduceAdd Nat.reduceSub List.cons_append List.nil_append L2.Z5L List.map_cons List.map_nil List.length_cons List.length_nil List.replicate J9O J8K J6F"; let b <-f "J8m J8e J8j exists_eq_left' exists_eq_left exists_and_left exists_eq_right exists_eq_right' V.int.injEq V.str.injEq V.bl.injEq V.ref.injEq Option.some.injEq List.cons.injEq and_true true_and decide_eq_true_eq Bool.not_eq_true' decide_eq_false_iff_not reduceCtorEq Y0m Y0h Y0u Y0q Y0j Y0o Y0s Y0i Y0p Y0r Y0t Y0c Y0f Y0l List.append_nil Nat.zero_add J5Y J4Q J6D J5f J6b ix0 ix1 exists_const if_true if_false ite_true ite_false Bool.false_eq_true decide_true decide_false Bool.not_true Bool.not_false Bool.true_eq_false CPow CDiv CMul Y0n or_true true_or and_self and_assoc sizeLine_eq Nat.reduceLeDiff Nat.reduceLT Nat.reducePow Nat.reduceMul Int.reducePow Int.reduceLE Int.reduceLT Int.reduceToNat Int.reduceAbs Int.reduceNeg Int.reduceAdd Int.reduceSub Int.reduceMul ne_eq not_false_eq_true not_true_eq_false Int.zero_add"; `(tactic| ((try dsimp only [$a,*]); (try simp (config := { maxSteps := 10000000 }) only [$a,*,$b,*])))
set_option hygiene false in
local macro_rules|`(tactic|walk_at $s:str)=>do let i:=fun(x:String)=>Lean.mkIdent x.toName;match s.getString.splitOn " " with|["h",f,c,n]=>`(tactic|refine Has.of $(i ("T."++f)) $(i c) (fun _ _ _ _ _ _ us hl=>$(i ("el"++n)) us hl (by intros;rfl)) (fun vs H Q E h=>by repeat(first|(cases h;subst_vars;rfl)|obtain⟨_,h⟩:=h)) fun f cdv A outer s H vs Q E hr h=>?_)|["m",f,c,n]=>`(tactic|refine HasM.of $(i ("T."++f)) $(i c) (fun _ _ _ _ _ _ us hl=>$(i ("el"++n)) us hl (by intros;rfl)) (fun vs H Q E h=>by repeat(first|(cases h;subst_vars;rfl)|obtain⟨_,h⟩:=h)) fun f cdv A outer s H vs Q E hr h=>?_)|["s",n,x]=>let k:=n.toNat!;let a:=((List.range (k-1)).flatMap fun j=>[i (s!"u{x}{k-1-j}"),i (s!"hu{x}{k-1-j}")]).toArray;`(tactic|(refine $(i ("seq"++n)) fun $a* =>?_;walk_at "r"))|["c"]=>`(tactic|exact⟨rfl,rfl,rfl,qP,rfl,qP,qP⟩)|["n",x]=>`(tactic|(subst $(i ("hu"++x));walk_at "r"))|_=>Lean.Macro.throwUnsupported
set_option hygiene false in
local macro_rules|`(∅)=>`(CS.mk Ct Cw Ch Cp Cl Cs Cq Ck B)
set_option hygiene false in
local macro_rules|`(nofun)=>`(Txt P w K mg Cl C9 Ct Cw Ch Cp D9 Uh9)
theorem qP{p:Prop}(h:p:=by decide+kernel):p:=h
theorem qQ{p:Prop}(h:p:=by decide):p:=h
theorem qR{p:Prop}(h:p:=by lia):p:=h
theorem qS{p:Prop}(h:p:=by first|decide|lia):p:=h
section
namespace L2
open PySem
def Z0H(s:Stmt)(j:Nat):Stmt:=match s with
 | .ClassDef _ _ _ body _ _ _ _ _ _ _=>body.getD j (.Pass ⟨0,0,0,0⟩)
 |_=>.Pass ⟨0,0,0,0⟩
def Z2i(s:Stmt):Arguments:=match s with
 | .FunctionDef _ a _ _ _ _ _ _ _ _=>a
 |_=>{posonlyargs:=[],args:=[],vararg:=none,kwonlyargs:=[],kw_defaults:=[],kwarg:=none,defaults:=[]}
def Z1I(s:Stmt):List Stmt:=match s with
 | .FunctionDef _ _ b _ _ _ _ _ _ _=>b
 |_=>[]
def Z0g(s:Stmt):Scope:=match s with
 | .FunctionDef _ _ _ _ _ _ sc _ _ _=>sc
 |_=>{kind:=.function,names:=[],isGenerator:=false,isCoroutine:=false}
end L2
namespace K50
open PySem L2
section
local macro_rules | `(tactic| walk_at $k:str) => do let s := "_wall __name__ elderhouse.errors HouseError ValueError BadKind __init__ elderhouse.houses Hall houses elders younger fields place found head found_word elderhouse.kinds NO_HOUSES number truth is_house fits nearest elderhouse.checking kinds_of need_like_elders kinds_in body_kinds term_kinds bound_ahead own_kind need two_kind if_kind field_kind call_kind all_fit elderhouse.tables word_names first_blocks found_block elderhouse.making SIGN_ROWS + - * / < = add sub mul div less same compiled Maker all_blocks block rows own_row part_kinds if_rows joined last_slot most_bound elderhouse.terms Term plain parts depth size shape_of Word House Program bodies pairs_of elderhouse.building program_of house_of word_of term_of all_within parts_of label_of law_elderhouse_k50_rows_of_terms _law_cell_at _law_draw _law_some _law_new _law_leaf _law_called _law_touched _law_let _law_two _law_grown _law_body _law_env law"; let ns := (s.splitOn " ").toArray; let xs := (Array.range ns.size).map λ i => Lean.mkIdent (Lean.Name.mkSimple s!"x{i}"); let C <-ns.mapM λ n => do { let c : Array Lean.Term <-n.toList.toArray.mapM λ k => `(nat_lit $(Lean.Syntax.mkNumLit (toString k.toNat))); `(Str.mk (Array.mk [$c,*])) }; match k.getString with | "t1" => do { let r <-(ns.zip xs).mapM λ (n, x) => `(tactic| generalize Str.ofString $(Lean.Syntax.mkStrLit n) = $x); `(tactic| (($[$r]*); exact $(Lean.mkIdent `hR) $xs*)) } | "t2" => `(tactic| exact Subtype.val $(Lean.mkIdent `Fx) $C*) | "t3" => do { let E <-(ns.zip C).mapM λ (n, c) => do { let d : Array Lean.Term <-n.toList.toArray.mapM λ k => `(Char.ofNat (nat_lit $(Lean.Syntax.mkNumLit (toString k.toNat)))); `((W.Fast.ofString_ofList [$d,*] : Str.ofString $(Lean.Syntax.mkStrLit n) = $c)) }; let a <-E.toList.tail!.foldlM (λ a e => `(congr $a $e)) (<-`(congrArg (Subtype.val $(Lean.mkIdent `Fx)) $(E[0]!))); let L <-ns.mapM λ n => `(Str.ofString $(Lean.Syntax.mkStrLit n)); `(tactic| exact Eq.trans (b := Subtype.val $(Lean.mkIdent `Fx) $L*) rfl $a) } | _ => Lean.Macro.throwUnsupported
noncomputable def Fx:{F:M2->M2->M2->M2->M2->M2->M2->M2->M2->M2->M2->M2->M2->M2->M2->M2->M2->M2->M2->M2->M2->M2->M2->M2->M2->M2->M2->M2->M2->M2->M2->M2->M2->M2->M2->M2->M2->M2->M2->M2->M2->M2->M2->M2->M2->M2->M2->M2->M2->M2->M2->M2->M2->M2->M2->M2->M2->M2->M2->M2->M2->M2->M2->M2->M2->M2->M2->M2->M2->M2->M2->M2->M2->M2->M2->M2->M2->M2->M2->M2->M2->M2->M2->M2->M2->M2->M2->M2->M2->M2->M2->M2->M2->M2->M2->M2->M2->M2->M2->M2->M2->Program//∀R:Program->Prop,(∀x0 x1 x2 x3 x4 x5 x6 x7 x8 x9 x10 x11 x12 x13 x14 x15 x16 x17 x18 x19 x20 x21 x22 x23 x24 x25 x26 x27 x28 x29 x30 x31 x32 x33 x34 x35 x36 x37 x38 x39 x40 x41 x42 x43 x44 x45 x46 x47 x48 x49 x50 x51 x52 x53 x54 x55 x56 x57 x58 x59 x60 x61 x62 x63 x64 x65 x66 x67 x68 x69 x70 x71 x72 x73 x74 x75 x76 x77 x78 x79 x80 x81 x82 x83 x84 x85 x86 x87 x88 x89 x90 x91 x92 x93 x94 x95 x96 x97 x98 x99 x100:M2,R (F x0 x1 x2 x3 x4 x5 x6 x7 x8 x9 x10 x11 x12 x13 x14 x15 x16 x17 x18 x19 x20 x21 x22 x23 x24 x25 x26 x27 x28 x29 x30 x31 x32 x33 x34 x35 x36 x37 x38 x39 x40 x41 x42 x43 x44 x45 x46 x47 x48 x49 x50 x51 x52 x53 x54 x55 x56 x57 x58 x59 x60 x61 x62 x63 x64 x65 x66 x67 x68 x69 x70 x71 x72 x73 x74 x75 x76 x77 x78 x79 x80 x81 x82 x83 x84 x85 x86 x87 x88 x89 x90 x91 x92 x93 x94 x95 x96 x97 x98 x99 x100))->R pw0}:=by
 refine⟨?F,?h⟩
 case h=>
  intro R hR;delta pw0;walk_at "t1"
noncomputable def _root_.PySem.W.Fast.tw11829926853211570390:Program:=by
 walk_at "t2"
theorem _root_.PySem.W.Fast.te11829926853211570390:pw0=W.Fast.tw11829926853211570390:=by
 delta W.Fast.tw11829926853211570390;walk_at "t3"
end
def top(i:Nat):Stmt:=pw0.main.body.getD i (.Pass ⟨0,0,0,0⟩)
abbrev Z3p:Stmt:=top 8
abbrev Z9j:Stmt:=top 9
abbrev Z4e:Stmt:=top 10
abbrev Z3k:Stmt:=top 12
abbrev Z1c:Stmt:=top 13
abbrev Z3o:Stmt:=top 14
abbrev Z2t:Stmt:=top 15
abbrev Z2z:Stmt:=top 16
abbrev Z1X:Stmt:=top 17
abbrev Z3B:Stmt:=top 18
abbrev J0m:Stmt:=top 19
abbrev Z3l:Stmt:=top 20
abbrev Z4d:Stmt:=top 21
abbrev Z2B:Stmt:=top 22
abbrev Z2O:Stmt:=top 23
abbrev Z3X:Stmt:=top 24
abbrev Z2n:Stmt:=top 26
abbrev Z1O:Stmt:=top 27
abbrev Z2c:Stmt:=top 28
abbrev Z3s:Stmt:=top 31
abbrev Z2v:Stmt:=top 33
abbrev Z3Z:Stmt:=top 34
abbrev Z4R:Stmt:=top 35
abbrev Z2T:Stmt:=top 36
abbrev Z2A:Stmt:=top 37
abbrev Z3v:Stmt:=top 40
abbrev Z3r:Stmt:=top 44
abbrev Z2u:Stmt:=top 46
abbrev Z3F:Stmt:=top 47
abbrev Z4g:Stmt:=top 48
abbrev Z4a:Stmt:=top 49
abbrev Z2y:Stmt:=top 50
abbrev Z3E:Stmt:=top 51
abbrev Z3i:Stmt:=top 52
abbrev Z1M:Stmt:=top 54
abbrev Z2K:Stmt:=top 55
abbrev Z2N:Stmt:=top 56
abbrev Z3y:Stmt:=top 57
abbrev Z2R:Stmt:=top 58
abbrev Z2e:Stmt:=top 59
abbrev Z1N:Stmt:=top 60
abbrev Z3m:Stmt:=top 61
abbrev Z3t:Stmt:=top 62
abbrev Z2m:Stmt:=top 63
abbrev Z2Q:Stmt:=top 64
abbrev Z3q:Stmt:=top 65
abbrev J0A:Stmt:=top 66
abbrev Z1F:Stmt:=Z0H (top 5) 0
abbrev Z1Z:Stmt:=Z0H (top 5) 1
abbrev Z2d:Stmt:=Z0H (top 5) 2
abbrev Z1Y:Stmt:=Z0H (top 5) 4
abbrev Z2s:Stmt:=Z0H (top 5) 5
abbrev Z2r:Stmt:=Z0H (top 5) 6
abbrev Z2P:Stmt:=Z0H (top 5) 7
abbrev Z1m:Stmt:=Z0H (top 5) 8
abbrev Z1v:Stmt:=Z0H (top 32) 0
abbrev Z1f:Stmt:=Z0H (top 32) 1
abbrev Z2a:Stmt:=Z0H (top 32) 2
abbrev Z2k:Stmt:=Z0H (top 32) 3
abbrev Z1G:Stmt:=Z0H (top 32) 4
abbrev Z1C:Stmt:=Z0H (top 39) 0
abbrev Z2x:Stmt:=Z0H (top 39) 1
abbrev Z2C:Stmt:=Z0H (top 39) 2
abbrev Z2q:Stmt:=Z0H (top 39) 3
abbrev Z2U:Stmt:=Z0H (top 39) 4
abbrev Z1H:Stmt:=Z0H (top 41) 0
abbrev Z1u:Stmt:=Z0H (top 42) 0
abbrev Z1g:Stmt:=Z0H (top 43) 0
noncomputable def rv:W.RowW:=W.OpenRow.toRowW (W.OpenLaw.row rw0)
noncomputable def qv:Program:={pw0 with main:={pw0.main with body:=[top 0,top 2,top 3,top 5,top 7,top 8,top 9,top 10,top 12,top 13,top 14,top 15,top 16,top 17,top 18,top 19,top 20,top 21,top 22,top 23,top 24,top 26,top 27,top 28,top 31,top 32,top 33,top 34,top 35,top 36,top 37,top 39,top 40,top 41,top 42,top 43,top 44,top 46,top 47,top 48,top 49,top 50,top 51,top 52,top 54,top 55,top 56,top 57,top 58,top 59,top 60,top 61,top 62,top 63,top 64,top 65,top 66]}}
abbrev J1X:Stmt:=top 0
abbrev Z2o:Stmt:=Z0H (top 3) 0
abbrev Z3H:Stmt:=Z0H (top 5) 3
abbrev Z4H:Stmt:=Z0H (top 41) 1
abbrev Z4h:Stmt:=Z0H (top 42) 1
abbrev Z3d:Stmt:=Z0H (top 43) 1
abbrev Z2V:Stmt:=Z0H (top 43) 2
noncomputable def cO(x y:M2)(n:Nat)(l a b:Int)(r:Nat)(d:Nat):Obj:=⟨.type "code",none,.fields #[.str x n,.str y (n+1),.str "/claim/cut.py" (n+2),.int l 0,.int a 0,.int 0 0,.int 0 0,.int b 0,.ref r,.bool true,.int 181 0,.ref (r+1),.none,.ref (r+2),.ref (r+3),.ref (r+4),.int d 0,.int l 0,.str "/claim/cut.py" (d+1)],#[]⟩
noncomputable def fU(x y:M2)(s:Stmt)(m:M2)(t c:Nat):Obj:=⟨.type "function",none,.func (W.fnOf x y (L2.Z2i s) (L2.Z1I s) (L2.Z0g s) .none .none .none (.str m t) none (.ref c) .none),#[]⟩
noncomputable def eT:Obj:=⟨.type "tuple",none,.seq #[] 0,#[]⟩
noncomputable def kE(P:PySem.Params)(x:M2)(t:Nat)(v:V1):DictEntry:=⟨PyData.keyHash P x,.str x t,v⟩
noncomputable def fW0(x y:M2)(s:Stmt)(c:Nat):Obj:=fU x y s "elderhouse.terms" 668 c
noncomputable def fV0(x:M2)(s:Stmt)(c:Nat):Obj:=fU x x s "elderhouse.terms" 668 c
noncomputable def fV1(x:M2)(s:Stmt)(c:Nat):Obj:=fU x x s "elderhouse.checking" 369 c
noncomputable def fV2(x:M2)(s:Stmt)(c:Nat):Obj:=fU x x s "law_elderhouse_k50_rows_of_terms" 929 c
noncomputable def fW3(x y:M2)(s:Stmt)(c:Nat):Obj:=fU x y s "elderhouse.making" 527 c
noncomputable def fV3(x:M2)(s:Stmt)(c:Nat):Obj:=fU x x s "elderhouse.making" 527 c
noncomputable def fW4(x y:M2)(s:Stmt)(c:Nat):Obj:=fU x y s "elderhouse.houses" 239 c
noncomputable def fV5(x:M2)(s:Stmt)(c:Nat):Obj:=fU x x s "elderhouse.building" 872 c
noncomputable def fV6(x:M2)(s:Stmt)(c:Nat):Obj:=fU x x s "elderhouse.kinds" 338 c
noncomputable def fV7(x:M2)(s:Stmt)(c:Nat):Obj:=fU x x s "elderhouse.tables" 498 c
noncomputable def tS:List M2->Nat->List V1
 |[],_=>[]
 |x::xs,n=>.str x n::tS xs (n+1)
noncomputable def tT(l:List M2)(n:Nat):Obj:=⟨.type "tuple",none,.seq (tS l n).toArray 0,#[]⟩
noncomputable def cQ(x:M2)(n:Nat)(l a:Int)(r d:Nat):Obj:=cO x x n l a 3 r d
noncomputable def cP(x y:M2)(n:Nat)(l a:Int)(r:Nat):Obj:=⟨.type "code",none,.fields #[.str x n,.str y (n+1),.str "/claim/cut.py" (n+2),.int l 0,.int a 0,.int 0 0,.int 0 0,.int 3 0,.ref r,.bool true,.int 181 0,.ref (r+1),.none,.none,.none,.ref (r+2),.int ((n+3:Nat):Int) 0,.int l 0,.str "/claim/cut.py" (n+4)],#[]⟩
noncomputable def KK(P:PySem.Params):X0:=
(nat_lit 2,Function.const (("a":M2)≠"b") (⟨.none,none,(.dict #[] 0),#[]⟩:Obj) qQ)::
(nat_lit 3,⟨.type "dict",none,.dict #[kE P "__name__" 165 (.str "law_elderhouse_k50_rows_of_terms" 929),kE P "__doc__" 166 .none,kE P "__package__" 167 .none,kE P "__loader__" 168 (.builtin "__main__.__loader__#opaque"),kE P "__spec__" 169 .none,kE P "__annotations__" 170 (.ref 6),kE P "__builtins__" 171 (.ref 4),kE P "__file__" 173 (.str "/claim/cut.py" 172),kE P "__cached__" 174 .none,kE P "_wall" 193 (.ref 21),kE P "HouseError" 213 (.ref 31),kE P "BadKind" 238 (.ref 51),kE P "Hall" 337 (.ref 120),kE P "NO_HOUSES" 342 (.ref 125),kE P "is_house" 349 (.ref 132),kE P "fits" 358 (.ref 139),kE P "nearest" 368 (.ref 146),kE P "kinds_of" 381 (.ref 153),kE P "need_like_elders" 393 (.ref 160),kE P "kinds_in" 399 (.ref 165),kE P "body_kinds" 409 (.ref 172),kE P "term_kinds" 423 (.ref 179),kE P "bound_ahead" 433 (.ref 186),kE P "own_kind" 444 (.ref 193),kE P "need" 452 (.ref 200),kE P "two_kind" 461 (.ref 207),kE P "if_kind" 470 (.ref 214),kE P "field_kind" 479 (.ref 221),kE P "call_kind" 491 (.ref 228),kE P "all_fit" 497 (.ref 233),kE P "word_names" 505 (.ref 238),kE P "first_blocks" 515 (.ref 245),kE P "found_block" 526 (.ref 252),kE P "SIGN_ROWS" 547 (.ref 253),kE P "compiled" 554 (.ref 260),kE P "Maker" 630 (.ref 303),kE P "part_kinds" 636 (.ref 312),kE P "if_rows" 646 (.ref 319),kE P "joined" 655 (.ref 326),kE P "last_slot" 661 (.ref 331),kE P "most_bound" 667 (.ref 336),kE P "Term" 729 (.ref 379),kE P "shape_of" 738 (.ref 390),kE P "Word" 780 (.ref 414),kE P "House" 821 (.ref 440),kE P "Program" 865 (.ref 473),kE P "pairs_of" 871 (.ref 482),kE P "program_of" 879 (.ref 487),kE P "house_of" 885 (.ref 492),kE P "word_of" 896 (.ref 499),kE P "term_of" 902 (.ref 504),kE P "all_within" 912 (.ref 511),kE P "parts_of" 920 (.ref 518),kE P "label_of" 928 (.ref 525),kE P "_law_cell_at" 938 (.ref 532),kE P "_law_draw" 947 (.ref 539),kE P "_law_some" 961 (.ref 546),kE P "_law_new" 967 (.ref 551),kE P "_law_leaf" 973 (.ref 556),kE P "_law_called" 979 (.ref 561),kE P "_law_touched" 985 (.ref 566),kE P "_law_let" 1001 (.ref 573),kE P "_law_two" 1021 (.ref 580),kE P "_law_grown" 1038 (.ref 587),kE P "_law_body" 1051 (.ref 594),kE P "_law_env" 1057 (.ref 599),kE P "law" 1063 (.ref 604)] 67,#[]⟩)::
(nat_lit 15,eT)::
(nat_lit 17,tT ["k"] 190)::
(nat_lit 18,eT)::
(nat_lit 20,cQ "_wall" 187 1 1 15 191)::
(nat_lit 21,fU "_wall" "_wall" J1X "__main__" 164 20)::
(nat_lit 22,⟨.type "tuple",none,.seq #[(.type "ValueError")] 0,#[]⟩)::
(nat_lit 29,eT)::
(nat_lit 30,⟨(.type "dict"),none,(.dict #[kE P "__module__" 203 (.str "elderhouse.errors" 194),⟨PyData.keyHash P "__firstlineno__",.str "__firstlineno__" 207,.int 5 206⟩,kE P "__static_attributes__" 208 (.ref 29),kE P "__weakref__" 210 (.ref 32),kE P "__doc__" 211 .none] 3),#[]⟩)::
(nat_lit 31,⟨(.type "type"),none,(.cls ⟨"HouseError",[(.type "ValueError")],[.ref 31,(.type "ValueError"),(.type "Exception"),(.type "BaseException"),(.type "object")],30,"HouseError",true,[],[.ref 51],false,none,false⟩),#[(some (.ref 22)),none,(some (.str "HouseError" 196)),(some (.str "HouseError" 204)),(some (.builtin "ValueError.__new__")),(some (.bool true))]⟩)::
(nat_lit 32,⟨.type "getset_descriptor",none,.fields #[.str "__weakref__" 209,.ref 31,.builtin "ExceptionGroup.__weakref__",.none],#[]⟩)::
(nat_lit 35,⟨.type "tuple",none,.seq #[.ref 31] 0,#[]⟩)::
(nat_lit 42,eT)::
(nat_lit 44,tT ["self","word"] 229)::
(nat_lit 45,eT)::
(nat_lit 47,cO "__init__" "BadKind.__init__" 226 9 2 3 42 231)::
(nat_lit 48,fU "__init__" "BadKind.__init__" Z2o "elderhouse.errors" 194 47)::
(nat_lit 49,tT ["word"] 234)::
(nat_lit 50,⟨(.type "dict"),none,(.dict #[kE P "__module__" 221 (.str "elderhouse.errors" 194),⟨PyData.keyHash P "__firstlineno__",.str "__firstlineno__" 225,.int 7 224⟩,kE P "__init__" 233 (.ref 48),kE P "__static_attributes__" 235 (.ref 49),kE P "__doc__" 236 .none] 2),#[]⟩)::
(nat_lit 51,⟨(.type "type"),none,(.cls ⟨"BadKind",[.ref 31],[.ref 51,.ref 31,(.type "ValueError"),(.type "Exception"),(.type "BaseException"),(.type "object")],50,"BadKind",true,[],[],false,none,false⟩),#[(some (.ref 35)),none,(some (.str "BadKind" 214)),(some (.str "BadKind" 222)),(some (.builtin "ValueError.__new__")),(some (.bool true))]⟩)::
(nat_lit 61,eT)::
(nat_lit 64,cP "__init__" "Hall.__init__" 253 15 2 61)::
(nat_lit 65,fW4 "__init__" "Hall.__init__" Z1F 64)::
(nat_lit 66,eT)::
(nat_lit 68,tT ["self"] 262)::
(nat_lit 69,eT)::
(nat_lit 71,cO "houses" "Hall.houses" 259 21 1 3 66 263)::
(nat_lit 72,fW4 "houses" "Hall.houses" Z1Z 71)::
(nat_lit 73,eT)::
(nat_lit 75,tT ["self","house","nearest_first","one"] 269)::
(nat_lit 76,eT)::
(nat_lit 78,cO "elders" "Hall.elders" 266 24 2 3 73 273)::
(nat_lit 79,fW4 "elders" "Hall.elders" Z2d 78)::
(nat_lit 80,eT)::
(nat_lit 82,tT ["self","house"] 279)::
(nat_lit 83,eT)::
(nat_lit 85,cO "younger" "Hall.younger" 276 32 2 3 80 281)::
(nat_lit 86,fW4 "younger" "Hall.younger" Z3H 85)::
(nat_lit 87,eT)::
(nat_lit 89,tT ["self","house","all_fields","one"] 287)::
(nat_lit 90,eT)::
(nat_lit 92,cO "fields" "Hall.fields" 284 35 2 3 87 291)::
(nat_lit 93,fW4 "fields" "Hall.fields" Z1Y 92)::
(nat_lit 94,eT)::
(nat_lit 97,cP "place" "Hall.place" 294 41 3 94)::
(nat_lit 98,fW4 "place" "Hall.place" Z2s 97)::
(nat_lit 99,eT)::
(nat_lit 102,cP "found" "Hall.found" 300 47 3 99)::
(nat_lit 103,fW4 "found" "Hall.found" Z2r 102)::
(nat_lit 104,eT)::
(nat_lit 106,tT ["self","house","word","own"] 309)::
(nat_lit 107,eT)::
(nat_lit 109,cO "head" "Hall.head" 306 54 3 3 104 313)::
(nat_lit 110,fW4 "head" "Hall.head" Z2P 109)::
(nat_lit 111,eT)::
(nat_lit 113,tT ["self","house","word","where","name","number"] 319)::
(nat_lit 114,eT)::
(nat_lit 116,cO "found_word" "Hall.found_word" 316 60 3 3 111 325)::
(nat_lit 117,fW4 "found_word" "Hall.found_word" Z1m 116)::
(nat_lit 118,tT ["by_name","in_order"] 328)::
(nat_lit 119,⟨(.type "dict"),none,(.dict #[kE P "__module__" 248 (.str "elderhouse.houses" 239),⟨PyData.keyHash P "__firstlineno__",.str "__firstlineno__" 252,.int 13 251⟩,kE P "__init__" 258 (.ref 65),kE P "houses" 265 (.ref 72),kE P "elders" 275 (.ref 79),kE P "younger" 283 (.ref 86),kE P "fields" 293 (.ref 93),kE P "place" 299 (.ref 98),kE P "found" 305 (.ref 103),kE P "head" 315 (.ref 110),kE P "found_word" 327 (.ref 117),kE P "__static_attributes__" 330 (.ref 118),kE P "__dict__" 332 (.ref 121),kE P "__weakref__" 334 (.ref 122),kE P "__doc__" 335 .none] 4),#[]⟩)::
(nat_lit 120,⟨(.type "type"),none,(.cls ⟨"Hall",[(.type "object")],[.ref 120,(.type "object")],119,"Hall",true,[],[],false,none,false⟩),#[none,none,(some (.str "Hall" 241)),(some (.str "Hall" 249)),(some (.builtin "object.__new__")),(some (.bool true))]⟩)::
(nat_lit 121,⟨.type "getset_descriptor",none,.fields #[.str "__dict__" 331,.ref 120,.builtin "function.__dict__",.builtin "function.__dict__#set"],#[]⟩)::
(nat_lit 122,⟨.type "getset_descriptor",none,.fields #[.str "__weakref__" 333,.ref 120,.builtin "ExceptionGroup.__weakref__",.none],#[]⟩)::
(nat_lit 125,tT ["number","truth"] 340)::
(nat_lit 126,eT)::
(nat_lit 128,tT ["kind"] 346)::
(nat_lit 129,eT)::
(nat_lit 131,cQ "is_house" 343 68 1 126 347)::
(nat_lit 132,fV6 "is_house" Z3p 131)::
(nat_lit 133,eT)::
(nat_lit 135,tT ["hall","one","other"] 353)::
(nat_lit 136,eT)::
(nat_lit 138,cQ "fits" 350 70 3 133 356)::
(nat_lit 139,fV6 "fits" Z9j 138)::
(nat_lit 140,eT)::
(nat_lit 142,tT ["hall","one","other","common"] 362)::
(nat_lit 143,eT)::
(nat_lit 145,cQ "nearest" 359 74 3 140 366)::
(nat_lit 146,fV6 "nearest" Z4e 145)::
(nat_lit 147,eT)::
(nat_lit 149,tT ["program","hall","told","house","word"] 374)::
(nat_lit 150,eT)::
(nat_lit 152,cQ "kinds_of" 371 84 1 147 379)::
(nat_lit 153,fV1 "kinds_of" Z3k 152)::
(nat_lit 154,eT)::
(nat_lit 156,tT ["hall","house","word","head","params","kind"] 385)::
(nat_lit 157,eT)::
(nat_lit 159,cQ "need_like_elders" 382 93 3 154 391)::
(nat_lit 160,fV1 "need_like_elders" Z1c 159)::
(nat_lit 161,eT)::
(nat_lit 164,cP "kinds_in" "kinds_in" 394 102 1 161)::
(nat_lit 165,fV1 "kinds_in" Z3o 164)::
(nat_lit 166,eT)::
(nat_lit 168,tT ["hall","house","word","told"] 403)::
(nat_lit 169,eT)::
(nat_lit 171,cQ "body_kinds" 400 104 3 166 407)::
(nat_lit 172,fV1 "body_kinds" Z2t 171)::
(nat_lit 173,eT)::
(nat_lit 175,tT ["hall","house","term","bound","firsts","told","part","inner"] 413)::
(nat_lit 176,eT)::
(nat_lit 178,cQ "term_kinds" 410 109 4 173 421)::
(nat_lit 179,fV1 "term_kinds" Z2z 178)::
(nat_lit 180,eT)::
(nat_lit 182,tT ["term","firsts","bound","more"] 427)::
(nat_lit 183,eT)::
(nat_lit 185,cQ "bound_ahead" 424 117 3 180 431)::
(nat_lit 186,fV1 "bound_ahead" Z1X 185)::
(nat_lit 187,eT)::
(nat_lit 189,tT ["hall","house","term","bound","parts"] 437)::
(nat_lit 190,eT)::
(nat_lit 192,cQ "own_kind" 434 123 5 187 442)::
(nat_lit 193,fV1 "own_kind" Z3B 192)::
(nat_lit 194,eT)::
(nat_lit 196,tT ["word","holds"] 448)::
(nat_lit 197,eT)::
(nat_lit 199,cQ "need" 445 150 2 194 450)::
(nat_lit 200,fV1 "need" J0m 199)::
(nat_lit 201,eT)::
(nat_lit 203,tT ["sign","one","other"] 456)::
(nat_lit 204,eT)::
(nat_lit 206,cQ "two_kind" 453 153 3 201 459)::
(nat_lit 207,fV1 "two_kind" Z3l 206)::
(nat_lit 208,eT)::
(nat_lit 210,tT ["hall","parts","common"] 465)::
(nat_lit 211,eT)::
(nat_lit 213,cQ "if_kind" 462 163 2 208 468)::
(nat_lit 214,fV1 "if_kind" Z4d 213)::
(nat_lit 215,eT)::
(nat_lit 217,tT ["hall","kind","field"] 474)::
(nat_lit 218,eT)::
(nat_lit 220,cQ "field_kind" 471 167 3 215 477)::
(nat_lit 221,fV1 "field_kind" Z2B 220)::
(nat_lit 222,eT)::
(nat_lit 224,tT ["hall","kind","word","terms","params","told"] 483)::
(nat_lit 225,eT)::
(nat_lit 227,cQ "call_kind" 480 170 4 222 489)::
(nat_lit 228,fV1 "call_kind" Z2O 227)::
(nat_lit 229,eT)::
(nat_lit 232,cP "all_fit" "all_fit" 492 175 3 229)::
(nat_lit 233,fV1 "all_fit" Z3X 232)::
(nat_lit 234,eT)::
(nat_lit 237,cP "word_names" "word_names" 500 181 1 234)::
(nat_lit 238,fV7 "word_names" Z2n 237)::
(nat_lit 239,eT)::
(nat_lit 241,tT ["program","firsts","number","house"] 509)::
(nat_lit 242,eT)::
(nat_lit 244,cQ "first_blocks" 506 186 1 239 513)::
(nat_lit 245,fV7 "first_blocks" Z1O 244)::
(nat_lit 246,eT)::
(nat_lit 248,tT ["hall","firsts","house","word","where"] 519)::
(nat_lit 249,eT)::
(nat_lit 251,cQ "found_block" 516 193 4 246 524)::
(nat_lit 252,fV7 "found_block" Z2c 251)::
(nat_lit 253,⟨.type "dict",none,.dict #[kE P "+" 529 (.str "add" 530),kE P "-" 531 (.str "sub" 532),kE P "*" 533 (.str "mul" 534),kE P "/" 535 (.str "div" 536),kE P "<" 537 (.str "less" 538),kE P "=" 539 (.str "same" 540)] 6,#[]⟩)::
(nat_lit 254,eT)::
(nat_lit 256,tT ["program"] 551)::
(nat_lit 257,eT)::
(nat_lit 259,cQ "compiled" 548 200 1 254 552)::
(nat_lit 260,fV3 "compiled" Z3s 259)::
(nat_lit 268,eT)::
(nat_lit 270,tT ["self","program"] 570)::
(nat_lit 271,eT)::
(nat_lit 273,cO "__init__" "Maker.__init__" 567 204 2 3 268 572)::
(nat_lit 274,fW3 "__init__" "Maker.__init__" Z1v 273)::
(nat_lit 275,eT)::
(nat_lit 277,tT ["self","kinds","blocks","house","word"] 578)::
(nat_lit 278,eT)::
(nat_lit 280,cO "all_blocks" "Maker.all_blocks" 575 211 1 3 275 583)::
(nat_lit 281,fW3 "all_blocks" "Maker.all_blocks" Z1f 280)::
(nat_lit 282,eT)::
(nat_lit 285,cP "block" "Maker.block" 586 220 4 282)::
(nat_lit 286,fW3 "block" "Maker.block" Z2a 285)::
(nat_lit 287,eT)::
(nat_lit 289,tT ["self","term","kinds","bound","house","inner","number","part"] 595)::
(nat_lit 290,eT)::
(nat_lit 292,cO "rows" "Maker.rows" 592 227 5 3 287 603)::
(nat_lit 293,fW3 "rows" "Maker.rows" Z2k 292)::
(nat_lit 294,eT)::
(nat_lit 296,tT ["self","term","kinds","bound","house","many"] 609)::
(nat_lit 297,eT)::
(nat_lit 299,cO "own_row" "Maker.own_row" 606 244 5 3 294 615)::
(nat_lit 300,fW3 "own_row" "Maker.own_row" Z1G 299)::
(nat_lit 301,tT ["firsts","hall","program","sites","word_order"] 618)::
(nat_lit 302,⟨(.type "dict"),none,(.dict #[kE P "__module__" 562 (.str "elderhouse.making" 527),⟨PyData.keyHash P "__firstlineno__",.str "__firstlineno__" 566,.int 202 565⟩,kE P "__init__" 574 (.ref 274),kE P "all_blocks" 585 (.ref 281),kE P "block" 591 (.ref 286),kE P "rows" 605 (.ref 293),kE P "own_row" 617 (.ref 300),kE P "__static_attributes__" 623 (.ref 301),kE P "__dict__" 625 (.ref 304),kE P "__weakref__" 627 (.ref 305),kE P "__doc__" 628 .none] 4),#[]⟩)::
(nat_lit 303,⟨(.type "type"),none,(.cls ⟨"Maker",[(.type "object")],[.ref 303,(.type "object")],302,"Maker",true,[],[],false,none,false⟩),#[none,none,(some (.str "Maker" 555)),(some (.str "Maker" 563)),(some (.builtin "object.__new__")),(some (.bool true))]⟩)::
(nat_lit 304,⟨.type "getset_descriptor",none,.fields #[.str "__dict__" 624,.ref 303,.builtin "function.__dict__",.builtin "function.__dict__#set"],#[]⟩)::
(nat_lit 305,⟨.type "getset_descriptor",none,.fields #[.str "__weakref__" 626,.ref 303,.builtin "ExceptionGroup.__weakref__",.none],#[]⟩)::
(nat_lit 308,eT)::
(nat_lit 311,cP "part_kinds" "part_kinds" 631 266 3 308)::
(nat_lit 312,fV3 "part_kinds" Z2v 311)::
(nat_lit 313,eT)::
(nat_lit 315,tT ["inner","asked","wanted","other"] 640)::
(nat_lit 316,eT)::
(nat_lit 318,cQ "if_rows" 637 269 1 313 644)::
(nat_lit 319,fV3 "if_rows" Z3Z 318)::
(nat_lit 320,eT)::
(nat_lit 322,tT ["rows","told","some"] 650)::
(nat_lit 323,eT)::
(nat_lit 325,cQ "joined" 647 272 1 320 653)::
(nat_lit 326,fV3 "joined" Z4R 325)::
(nat_lit 327,eT)::
(nat_lit 330,cP "last_slot" "last_slot" 656 277 2 327)::
(nat_lit 331,fV3 "last_slot" Z2T 330)::
(nat_lit 332,eT)::
(nat_lit 335,cP "most_bound" "most_bound" 662 279 2 332)::
(nat_lit 336,fV3 "most_bound" Z2A 335)::
(nat_lit 344,eT)::
(nat_lit 347,cP "__init__" "Term.__init__" 682 284 4 344)::
(nat_lit 348,fW0 "__init__" "Term.__init__" Z1C 347)::
(nat_lit 349,eT)::
(nat_lit 351,tT ["self"] 691)::
(nat_lit 352,eT)::
(nat_lit 354,cO "plain" "Term.plain" 688 292 1 3 349 692)::
(nat_lit 355,fW0 "plain" "Term.plain" Z2x 354)::
(nat_lit 356,eT)::
(nat_lit 358,tT ["self"] 698)::
(nat_lit 359,eT)::
(nat_lit 361,cO "parts" "Term.parts" 695 295 1 3 356 699)::
(nat_lit 362,fW0 "parts" "Term.parts" Z2C 361)::
(nat_lit 363,eT)::
(nat_lit 365,tT ["self"] 705)::
(nat_lit 366,eT)::
(nat_lit 368,cO "depth" "Term.depth" 702 298 1 3 363 706)::
(nat_lit 369,fW0 "depth" "Term.depth" Z2q 368)::
(nat_lit 370,eT)::
(nat_lit 372,tT ["self"] 712)::
(nat_lit 373,eT)::
(nat_lit 375,cO "size" "Term.size" 709 301 1 3 370 713)::
(nat_lit 376,fW0 "size" "Term.size" Z2U 375)::
(nat_lit 377,tT ["deep","form","inner","label","many","shape"] 716)::
(nat_lit 378,⟨(.type "dict"),none,(.dict #[kE P "__module__" 677 (.str "elderhouse.terms" 668),⟨PyData.keyHash P "__firstlineno__",.str "__firstlineno__" 681,.int 282 680⟩,kE P "__init__" 687 (.ref 348),kE P "plain" 694 (.ref 355),kE P "parts" 701 (.ref 362),kE P "depth" 708 (.ref 369),kE P "size" 715 (.ref 376),kE P "__static_attributes__" 722 (.ref 377),kE P "__dict__" 724 (.ref 380),kE P "__weakref__" 726 (.ref 381),kE P "__doc__" 727 .none] 4),#[]⟩)::
(nat_lit 379,⟨(.type "type"),none,(.cls ⟨"Term",[(.type "object")],[.ref 379,(.type "object")],378,"Term",true,[],[],false,none,false⟩),#[none,none,(some (.str "Term" 670)),(some (.str "Term" 678)),(some (.builtin "object.__new__")),(some (.bool true))]⟩)::
(nat_lit 380,⟨.type "getset_descriptor",none,.fields #[.str "__dict__" 723,.ref 379,.builtin "function.__dict__",.builtin "function.__dict__#set"],#[]⟩)::
(nat_lit 381,⟨.type "getset_descriptor",none,.fields #[.str "__weakref__" 725,.ref 379,.builtin "ExceptionGroup.__weakref__",.none],#[]⟩)::
(nat_lit 384,eT)::
(nat_lit 386,tT ["form","label","parts"] 733)::
(nat_lit 387,eT)::
(nat_lit 389,cQ "shape_of" 730 303 3 384 736)::
(nat_lit 390,fV0 "shape_of" Z3v 389)::
(nat_lit 398,eT)::
(nat_lit 400,tT ["self","name","params","kind","body"] 754)::
(nat_lit 401,eT)::
(nat_lit 403,cO "__init__" "Word.__init__" 751 315 5 3 398 759)::
(nat_lit 404,fW0 "__init__" "Word.__init__" Z1H 403)::
(nat_lit 405,eT)::
(nat_lit 407,tT ["self"] 765)::
(nat_lit 408,eT)::
(nat_lit 410,cO "plain" "Word.plain" 762 321 1 3 405 766)::
(nat_lit 411,fW0 "plain" "Word.plain" Z4H 410)::
(nat_lit 412,tT ["body","kind","name","params"] 769)::
(nat_lit 413,⟨(.type "dict"),none,(.dict #[kE P "__module__" 746 (.str "elderhouse.terms" 668),⟨PyData.keyHash P "__firstlineno__",.str "__firstlineno__" 750,.int 313 749⟩,kE P "__init__" 761 (.ref 404),kE P "plain" 768 (.ref 411),kE P "__static_attributes__" 773 (.ref 412),kE P "__dict__" 775 (.ref 415),kE P "__weakref__" 777 (.ref 416),kE P "__doc__" 778 .none] 4),#[]⟩)::
(nat_lit 414,⟨(.type "type"),none,(.cls ⟨"Word",[(.type "object")],[.ref 414,(.type "object")],413,"Word",true,[],[],false,none,false⟩),#[none,none,(some (.str "Word" 739)),(some (.str "Word" 747)),(some (.builtin "object.__new__")),(some (.bool true))]⟩)::
(nat_lit 415,⟨.type "getset_descriptor",none,.fields #[.str "__dict__" 774,.ref 414,.builtin "function.__dict__",.builtin "function.__dict__#set"],#[]⟩)::
(nat_lit 416,⟨.type "getset_descriptor",none,.fields #[.str "__weakref__" 776,.ref 414,.builtin "ExceptionGroup.__weakref__",.none],#[]⟩)::
(nat_lit 426,eT)::
(nat_lit 428,tT ["self","name","elder","own_fields","own_words"] 796)::
(nat_lit 429,eT)::
(nat_lit 431,cO "__init__" "House.__init__" 793 325 5 3 426 801)::
(nat_lit 432,fW0 "__init__" "House.__init__" Z1u 431)::
(nat_lit 433,eT)::
(nat_lit 436,cP "plain" "House.plain" 804 331 1 433)::
(nat_lit 437,fW0 "plain" "House.plain" Z4h 436)::
(nat_lit 438,tT ["elder","name","own_fields","own_words"] 810)::
(nat_lit 439,⟨(.type "dict"),none,(.dict #[kE P "__module__" 788 (.str "elderhouse.terms" 668),⟨PyData.keyHash P "__firstlineno__",.str "__firstlineno__" 792,.int 323 791⟩,kE P "__init__" 803 (.ref 432),kE P "plain" 809 (.ref 437),kE P "__static_attributes__" 814 (.ref 438),kE P "__dict__" 816 (.ref 441),kE P "__weakref__" 818 (.ref 442),kE P "__doc__" 819 .none] 4),#[]⟩)::
(nat_lit 440,⟨(.type "type"),none,(.cls ⟨"House",[(.type "object")],[.ref 440,(.type "object")],439,"House",true,[],[],false,none,false⟩),#[none,none,(some (.str "House" 781)),(some (.str "House" 789)),(some (.builtin "object.__new__")),(some (.bool true))]⟩)::
(nat_lit 441,⟨.type "getset_descriptor",none,.fields #[.str "__dict__" 815,.ref 440,.builtin "function.__dict__",.builtin "function.__dict__#set"],#[]⟩)::
(nat_lit 442,⟨.type "getset_descriptor",none,.fields #[.str "__weakref__" 817,.ref 440,.builtin "ExceptionGroup.__weakref__",.none],#[]⟩)::
(nat_lit 452,eT)::
(nat_lit 454,tT ["self","all_houses","main"] 837)::
(nat_lit 455,eT)::
(nat_lit 457,cO "__init__" "Program.__init__" 834 336 3 3 452 840)::
(nat_lit 458,fW0 "__init__" "Program.__init__" Z1g 457)::
(nat_lit 459,eT)::
(nat_lit 462,cP "plain" "Program.plain" 843 340 1 459)::
(nat_lit 463,fW0 "plain" "Program.plain" Z3d 462)::
(nat_lit 464,eT)::
(nat_lit 466,tT ["self"] 852)::
(nat_lit 467,eT)::
(nat_lit 469,cO "bodies" "Program.bodies" 849 344 1 3 464 853)::
(nat_lit 470,fW0 "bodies" "Program.bodies" Z2V 469)::
(nat_lit 471,tT ["all_houses","main"] 856)::
(nat_lit 472,⟨(.type "dict"),none,(.dict #[kE P "__module__" 829 (.str "elderhouse.terms" 668),⟨PyData.keyHash P "__firstlineno__",.str "__firstlineno__" 833,.int 334 832⟩,kE P "__init__" 842 (.ref 458),kE P "plain" 848 (.ref 463),kE P "bodies" 855 (.ref 470),kE P "__static_attributes__" 858 (.ref 471),kE P "__dict__" 860 (.ref 474),kE P "__weakref__" 862 (.ref 475),kE P "__doc__" 863 .none] 4),#[]⟩)::
(nat_lit 473,⟨(.type "type"),none,(.cls ⟨"Program",[(.type "object")],[.ref 473,(.type "object")],472,"Program",true,[],[],false,none,false⟩),#[none,none,(some (.str "Program" 822)),(some (.str "Program" 830)),(some (.builtin "object.__new__")),(some (.bool true))]⟩)::
(nat_lit 474,⟨.type "getset_descriptor",none,.fields #[.str "__dict__" 859,.ref 473,.builtin "function.__dict__",.builtin "function.__dict__#set"],#[]⟩)::
(nat_lit 475,⟨.type "getset_descriptor",none,.fields #[.str "__weakref__" 861,.ref 473,.builtin "ExceptionGroup.__weakref__",.none],#[]⟩)::
(nat_lit 478,eT)::
(nat_lit 481,cP "pairs_of" "pairs_of" 866 346 1 478)::
(nat_lit 482,fV0 "pairs_of" Z3r 481)::
(nat_lit 483,eT)::
(nat_lit 486,cP "program_of" "program_of" 874 349 1 483)::
(nat_lit 487,fV5 "program_of" Z2u 486)::
(nat_lit 488,eT)::
(nat_lit 491,cP "house_of" "house_of" 880 353 1 488)::
(nat_lit 492,fV5 "house_of" Z3F 491)::
(nat_lit 493,eT)::
(nat_lit 495,tT ["plain","name","params","kind","body"] 889)::
(nat_lit 496,eT)::
(nat_lit 498,cQ "word_of" 886 356 1 493 894)::
(nat_lit 499,fV5 "word_of" Z4g 498)::
(nat_lit 500,eT)::
(nat_lit 503,cP "term_of" "term_of" 897 359 1 500)::
(nat_lit 504,fV5 "term_of" Z4a 503)::
(nat_lit 505,eT)::
(nat_lit 507,tT ["plain","found","waiting","one"] 906)::
(nat_lit 508,eT)::
(nat_lit 510,cQ "all_within" 903 365 1 505 910)::
(nat_lit 511,fV5 "all_within" Z2y 510)::
(nat_lit 512,eT)::
(nat_lit 514,tT ["plain","form"] 916)::
(nat_lit 515,eT)::
(nat_lit 517,cQ "parts_of" 913 373 1 512 918)::
(nat_lit 518,fV5 "parts_of" Z3E 517)::
(nat_lit 519,eT)::
(nat_lit 521,tT ["plain","form"] 924)::
(nat_lit 522,eT)::
(nat_lit 524,cQ "label_of" 921 386 1 519 926)::
(nat_lit 525,fV5 "label_of" Z3i 524)::
(nat_lit 526,eT)::
(nat_lit 528,tT ["_law_script","_law_k"] 934)::
(nat_lit 529,eT)::
(nat_lit 531,cQ "_law_cell_at" 931 394 2 526 936)::
(nat_lit 532,fV2 "_law_cell_at" Z1M 531)::
(nat_lit 533,eT)::
(nat_lit 535,tT ["_law_env_here","_law_k","_law_cell"] 942)::
(nat_lit 536,eT)::
(nat_lit 538,cQ "_law_draw" 939 398 1 533 945)::
(nat_lit 539,fV2 "_law_draw" Z2K 538)::
(nat_lit 540,eT)::
(nat_lit 542,tT ["_law_env_here","_law_kinds","_law_depth","_law_terms","_law_rows","_law_kind","_law_term","_law_more"] 951)::
(nat_lit 543,eT)::
(nat_lit 545,cQ "_law_some" 948 403 3 540 959)::
(nat_lit 546,fV2 "_law_some" Z2N 545)::
(nat_lit 547,eT)::
(nat_lit 550,cP "_law_new" "_law_new" 962 410 4 547)::
(nat_lit 551,fV2 "_law_new" Z3y 550)::
(nat_lit 552,eT)::
(nat_lit 555,cP "_law_leaf" "_law_leaf" 968 416 3 552)::
(nat_lit 556,fV2 "_law_leaf" Z2R 555)::
(nat_lit 557,eT)::
(nat_lit 560,cP "_law_called" "_law_called" 974 429 4 557)::
(nat_lit 561,fV2 "_law_called" Z2e 560)::
(nat_lit 562,eT)::
(nat_lit 565,cP "_law_touched" "_law_touched" 980 442 4 562)::
(nat_lit 566,fV2 "_law_touched" Z1N 565)::
(nat_lit 567,eT)::
(nat_lit 569,tT ["_law_env_here","_law_kind","_law_cell","_law_depth","_law_name","_law_one","_law_rows","_law_known","_law_other","_law_more"] 989)::
(nat_lit 570,eT)::
(nat_lit 572,cQ "_law_let" 986 455 4 567 999)::
(nat_lit 573,fV2 "_law_let" Z3m 572)::
(nat_lit 574,eT)::
(nat_lit 576,tT ["_law_env_here","_law_kind","_law_cell","_law_depth","_law_term","_law_rows","_law_one","_law_other","_law_more","_law_sign","_law_row","_law_some_here","_law_last","_law_terms"] 1005)::
(nat_lit 577,eT)::
(nat_lit 579,cQ "_law_two" 1002 464 4 574 1019)::
(nat_lit 580,fV2 "_law_two" Z3t 579)::
(nat_lit 581,eT)::
(nat_lit 583,tT ["_law_env_here","_law_kind","_law_depth","_law_cell","_law_found","_law_truth","_law_rows","_law_one","_law_more","_law_other","_law_rest"] 1025)::
(nat_lit 584,eT)::
(nat_lit 586,cQ "_law_grown" 1022 481 3 581 1036)::
(nat_lit 587,fV2 "_law_grown" Z2m 586)::
(nat_lit 588,eT)::
(nat_lit 590,tT ["_law_env_here","_law_own","_law_params","_law_kind","_law_many","_law_term","_law_rows"] 1042)::
(nat_lit 591,eT)::
(nat_lit 593,cQ "_law_body" 1039 503 4 588 1049)::
(nat_lit 594,fV2 "_law_body" Z2Q 593)::
(nat_lit 595,eT)::
(nat_lit 598,cP "_law_env" "_law_env" 1052 511 1 595)::
(nat_lit 599,fV2 "_law_env" Z3q 598)::
(nat_lit 600,eT)::
(nat_lit 603,cP "law" "law" 1058 533 1 600)::
(nat_lit 604,fV2 "law" J0A 603)::[]
noncomputable def KA:List V0:=[2,3,15,17,18,20,21,22,29,30,31,32,35,42,44,45,47,48,49,50,51,61,64,65,66,68,69,71,72,73,75,76,78,79,80,82,83,85,86,87,89,90,92,93,94,97,98,99,102,103,104,106,107,109,110,111,113,114,116,117,118,119,120,121,122,125,126,128,129,131,132,133,135,136,138,139,140,142,143,145,146,147,149,150,152,153,154,156,157,159,160,161,164,165,166,168,169,171,172,173,175,176,178,179,180,182,183,185,186,187,189,190,192,193,194,196,197,199,200,201,203,204,206,207,208,210,211,213,214,215,217,218,220,221,222,224,225,227,228,229,232,233,234,237,238,239,241,242,244,245,246,248,249,251,252,253,254,256,257,259,260,268,270,271,273,274,275,277,278,280,281,282,285,286,287,289,290,292,293,294,296,297,299,300,301,302,303,304,305,308,311,312,313,315,316,318,319,320,322,323,325,326,327,330,331,332,335,336,344,347,348,349,351,352,354,355,356,358,359,361,362,363,365,366,368,369,370,372,373,375,376,377,378,379,380,381,384,386,387,389,390,398,400,401,403,404,405,407,408,410,411,412,413,414,415,416,426,428,429,431,432,433,436,437,438,439,440,441,442,452,454,455,457,458,459,462,463,464,466,467,469,470,471,472,473,474,475,478,481,482,483,486,487,488,491,492,493,495,496,498,499,500,503,504,505,507,508,510,511,512,514,515,517,518,519,521,522,524,525,526,528,529,531,532,533,535,536,538,539,540,542,543,545,546,547,550,551,552,555,556,557,560,561,562,565,566,567,569,570,572,573,574,576,577,579,580,581,583,584,586,587,588,590,591,593,594,595,598,599,600,603,604]
theorem ka_eq:∀P,KA=(KK P).map (·.1):=λ _=>by kernel_rfl
theorem J5u{p q:Program}{loose:List M2}{Xt:M1->Bool}{α:Type}{Yf:M1->α}{Ya:Y3->α}{N:Nat}{H₀:Params->Z3}{gs₀:Array GenState}{d₀:Drawn}{k₀ m₀ M:Nat}{ann:Option V1}(op:∀w:Y3,(W.fencedOpening treeTable p w N).map (λ s=>(s.heap,s.gens,s.drawn,s.toks))=some (H₀ w.params,gs₀,d₀,k₀))(sz:∀w:Y3,((H₀ w.params).isNs mainGlobals&&gs₀.size==0)=true/\(H₀ w.params).objs.size=m₀/\(H₀ w.params).nsMap mainGlobals "__annotations__"=ann)(le:M<=N)(ex:∀(w:Y3)(os:OsState),∃s,W.topRun treeTable p w m₀ ann M ⟨H₀ w.params,gs₀,d₀,k₀,os⟩ (W.topStub p)=some s/\(W.staticsOk (importedModules p.main.body) (H₀ w.params) s.heap&&W.namesBound p s.heap&&W.gensDone s&&W.laidKept (H₀ w.params) s.heap)=true/\W.openSeen q loose (importedModules p.main.body) Xt true s=W.openGood q loose/\Yf s=Ya w):W.LeftO p q loose Xt Yf Ya N:=by
 intro w;obtain⟨⟨hh,gg,dr,tk,os⟩,e1,e2⟩:=qc1.mp (op w);simp only[Prod.mk.injEq]at e2;obtain⟨a1,a2,a3,a4⟩:=e2;subst a1 a2 a3 a4;obtain⟨z1,z2,z3⟩:=sz w;obtain⟨s,hr,b1,b2,b3⟩:=ex w os;have hr:=W.topRun_mono (N-M) _ _ _ _ hr;rw[Nat.add_sub_of_le le]at hr;have ht:W.topFrom treeTable p w N ⟨H₀ w.params,gg,dr,tk,os⟩=some s:=by
  unfold W.topFrom;simp only[z1,z2,z3,hr,Option.bind_some,b1]
 unfold W.openEnds;rw[e1,Option.bind_some,ht,qg5,b2,b3]
theorem zz:(pw0.main.body.isEmpty==false)=true:=by k_qdec
noncomputable def eN(p:Program):Env:={scope:=p.main.scope,locals:=mainNs,globals:=mainNs,cells:=[],code:=.ref 13,frame:=some 14}
noncomputable def cN(p:Program):Code:=.body (W.behindTheImports p) (eN p)
def po:Pos:=⟨0,0,0,0⟩
def pf:Pos:=⟨533,0,553,72⟩
def an:Option V1:=some (.ref 6)
noncomputable def Y0(w:Y3)(os:OsState):M1:=⟨W.boot_heap w.params,Array.mk [],W.boot_drawn,W.boot_toks,os⟩
noncomputable def Sa(p:Program)(w:Y3)(os:OsState):M1:=match W.topGo treeTable p w 11 an 12 (Y0 w os) (W.topStub p)with
 |some (s,_)=>s
 |none=>Y0 w os
def ofL:List Obj->Nat->W.BT->W.BT
 |[],_,t=>t
 |o::l,n,t=>ofL l (n+1) (t.ins n o)
noncomputable def TB(p:Program)(w:Y3)(os:OsState):W.SharedT:=⟨ofL (Sa p w os).heap.objs.toList 0 .nil,15,(Sa p w os).heap.life,(Sa p w os).gens,(Sa p w os).drawn,(Sa p w os).toks,os⟩
theorem rQ1(w:Y3)(os:OsState):W.topGo treeTable pw0 w 11 an 12 (Y0 w os) (W.topStub pw0)=some (Sa pw0 w os,⟨denote treeTable (cN pw0),cN pw0,po,[W.topFrame po]⟩):=by
 kernel_rfl
theorem rQ2(w:Y3)(os:OsState):W.segRun treeTable pw0 w 11 an 1 1 (Sa pw0 w os) (W.blockOf (W.behindTheImports pw0) (eN pw0) (cN pw0) po [W.topFrame po])=some (.next,Sa pw0 w os,cN pw0,po):=by
 kernel_rfl
theorem rQ3(w:Y3)(os:OsState):(TB pw0 w os).abs=Sa pw0 w os:=by
 kernel_rfl
noncomputable def e0:Obj:=⟨.none,none,.fields #[],#[]⟩
noncomputable def et:Obj:=⟨.type "tuple",none,.seq #[] 0,#[]⟩
noncomputable def ky(P:Params)(x:M2)(t:Nat)(v:V1):DictEntry:=⟨PyData.keyHash P x,.str x t,v⟩
noncomputable def fz(x y:M2)(s:Stmt):Obj:=⟨.none,none,.func {name:=x,qualname:=y,params:=L2.Z2i s,body:=.stmts (L2.Z1I s),scope:=L2.Z0g s,globals:=0,closure:=[],defaults:=.none,kwdefaults:=.none},#[]⟩
noncomputable def bi(x:String)(v:V1):Obj:=⟨.type "builtin_function_or_method",none,.fields #[.builtin x,v],#[]⟩
noncomputable def fr(a b:Nat)(x:M2)(t:Nat):Obj:=⟨.type "frame",none,.plain,#[some (.ref a),some (.ref 3),some (.ref b),none,some (.str x t),none,some (.ref 0)]⟩
noncomputable def su(a:Nat):Obj:=⟨.type "super",none,.fields #[.ref a,.ref a,.ref a],#[]⟩
noncomputable def bo(P:Params)(i:Nat):Obj:=(W.boot_heap P).objs.toList.getD i e0
noncomputable def RR(P:Params):List (V0×Obj):=[
(0,bo P 0),
(1,⟨(.type "dict"),none,(.dict #[ky P "builtins" 162 (.ref 4),ky P "__main__" 163 (.ref 5)] 2),#[]⟩),
(4,⟨(.type "module"),(some 0),.plain,#[]⟩),
(5,⟨(.type "module"),(some 3),.plain,#[]⟩),
(6,⟨(.type "dict"),none,(.dict #[] 0),#[]⟩),
(7,et),
(8,e0),
(9,⟨(.type "code"),none,(.fields #[.str "<module>" 176,.str "<module>" 177,.str "/claim/cut.py" 178,.int 1 0,.int 0 0,.int 0 0,.int 0 0,.int 0 0,.ref 7,.bool false,.int 175 0,.ref 8,.none,.none,.none,.none,.int 179 0,.int 1 0,.str "/claim/cut.py" 180]),#[]⟩),
(10,fr 9 3 "__main__" 164),
(11,et),
(12,⟨.none,none,(.fields #[.int 1 0,.int 0 0,.ref 20,.int 5 0,.int 0 0,.ref 27,.int 7 0,.int 0 0,.ref 40,.int 13 0,.int 0 0,.ref 59,.int 68 0,.int 0 0,.ref 131,.int 70 0,.int 0 0,.ref 138,.int 74 0,.int 0 0,.ref 145,.int 84 0,.int 0 0,.ref 152,.int 93 0,.int 0 0,.ref 159,.int 102 0,.int 0 0,.ref 164,.int 104 0,.int 0 0,.ref 171,.int 109 0,.int 0 0,.ref 178,.int 117 0,.int 0 0,.ref 185,.int 123 0,.int 0 0,.ref 192,.int 150 0,.int 0 0,.ref 199,.int 153 0,.int 0 0,.ref 206,.int 163 0,.int 0 0,.ref 213,.int 167 0,.int 0 0,.ref 220,.int 170 0,.int 0 0,.ref 227,.int 175 0,.int 0 0,.ref 232,.int 181 0,.int 0 0,.ref 237,.int 186 0,.int 0 0,.ref 244,.int 193 0,.int 0 0,.ref 251,.int 200 0,.int 0 0,.ref 259,.int 202 0,.int 0 0,.ref 266,.int 266 0,.int 0 0,.ref 311,.int 269 0,.int 0 0,.ref 318,.int 272 0,.int 0 0,.ref 325,.int 277 0,.int 0 0,.ref 330,.int 279 0,.int 0 0,.ref 335,.int 282 0,.int 0 0,.ref 342,.int 303 0,.int 0 0,.ref 389,.int 313 0,.int 0 0,.ref 396,.int 323 0,.int 0 0,.ref 424,.int 334 0,.int 0 0,.ref 450,.int 346 0,.int 0 0,.ref 481,.int 349 0,.int 0 0,.ref 486,.int 353 0,.int 0 0,.ref 491,.int 356 0,.int 0 0,.ref 498,.int 359 0,.int 0 0,.ref 503,.int 365 0,.int 0 0,.ref 510,.int 373 0,.int 0 0,.ref 517,.int 386 0,.int 0 0,.ref 524,.int 394 0,.int 0 0,.ref 531,.int 398 0,.int 0 0,.ref 538,.int 403 0,.int 0 0,.ref 545,.int 410 0,.int 0 0,.ref 550,.int 416 0,.int 0 0,.ref 555,.int 429 0,.int 0 0,.ref 560,.int 442 0,.int 0 0,.ref 565,.int 455 0,.int 0 0,.ref 572,.int 464 0,.int 0 0,.ref 579,.int 481 0,.int 0 0,.ref 586,.int 503 0,.int 0 0,.ref 593,.int 511 0,.int 0 0,.ref 598,.int 533 0,.int 0 0,.ref 603]),#[]⟩),
(13,⟨(.type "code"),none,(.fields #[.str "<module>" 182,.str "<module>" 183,.str "/claim/cut.py" 184,.int 1 0,.int 0 0,.int 0 0,.int 0 0,.int 0 0,.ref 11,.bool false,.int 181 0,.ref 12,.none,.none,.none,.none,.int 185 0,.int 1 0,.str "/claim/cut.py" 186]),#[]⟩),
(14,fr 13 3 "__main__" 164),
(16,e0),
(19,fz "_wall" "_wall" J1X),
(23,bi "type.__prepare__" (.type "type")),
(24,⟨(.type "dict"),none,(.dict #[ky P "__module__" 203 (.str "elderhouse.errors" 194),ky P "__qualname__" 205 (.str "HouseError" 204),⟨PyData.keyHash P "__firstlineno__",.str "__firstlineno__" 207,.int 5 206⟩,ky P "__static_attributes__" 208 (.ref 29)] 4),#[]⟩),
(25,et),
(26,e0),
(27,⟨(.type "code"),none,(.fields #[.str "HouseError" 198,.str "HouseError" 199,.str "/claim/cut.py" 200,.int 5 0,.int 0 0,.int 0 0,.int 0 0,.int 0 0,.ref 25,.bool false,.int 181 0,.ref 26,.none,.none,.none,.none,.int 201 0,.int 5 0,.str "/claim/cut.py" 202]),#[]⟩),
(28,fr 27 24 "elderhouse.errors" 194),
(33,su 31),
(34,bi "object.__init_subclass__" (.ref 31)),
(36,bi "type.__prepare__" (.type "type")),
(37,⟨(.type "dict"),none,(.dict #[ky P "__module__" 221 (.str "elderhouse.errors" 194),ky P "__qualname__" 223 (.str "BadKind" 222),⟨PyData.keyHash P "__firstlineno__",.str "__firstlineno__" 225,.int 7 224⟩,ky P "__init__" 233 (.ref 48),ky P "__static_attributes__" 235 (.ref 49)] 5),#[]⟩),
(38,et),
(39,⟨.none,none,(.fields #[.int 9 0,.int 4 0,.ref 47]),#[]⟩),
(40,⟨(.type "code"),none,(.fields #[.str "BadKind" 216,.str "BadKind" 217,.str "/claim/cut.py" 218,.int 7 0,.int 0 0,.int 0 0,.int 0 0,.int 0 0,.ref 38,.bool false,.int 181 0,.ref 39,.none,.none,.none,.none,.int 219 0,.int 7 0,.str "/claim/cut.py" 220]),#[]⟩),
(41,fr 40 37 "elderhouse.errors" 194),
(43,e0),
(46,fz "__init__" "BadKind.__init__" Z2o),
(52,su 51),
(53,bi "object.__init_subclass__" (.ref 51)),
(54,et),
(55,bi "type.__prepare__" (.type "type")),
(56,⟨(.type "dict"),none,(.dict #[ky P "__module__" 248 (.str "elderhouse.houses" 239),ky P "__qualname__" 250 (.str "Hall" 249),⟨PyData.keyHash P "__firstlineno__",.str "__firstlineno__" 252,.int 13 251⟩,ky P "__init__" 258 (.ref 65),ky P "houses" 265 (.ref 72),ky P "elders" 275 (.ref 79),ky P "younger" 283 (.ref 86),ky P "fields" 293 (.ref 93),ky P "place" 299 (.ref 98),ky P "found" 305 (.ref 103),ky P "head" 315 (.ref 110),ky P "found_word" 327 (.ref 117),ky P "__static_attributes__" 330 (.ref 118)] 13),#[]⟩),
(57,et),
(58,⟨.none,none,(.fields #[.int 15 0,.int 4 0,.ref 64,.int 21 0,.int 4 0,.ref 71,.int 24 0,.int 4 0,.ref 78,.int 32 0,.int 4 0,.ref 85,.int 35 0,.int 4 0,.ref 92,.int 41 0,.int 4 0,.ref 97,.int 47 0,.int 4 0,.ref 102,.int 54 0,.int 4 0,.ref 109,.int 60 0,.int 4 0,.ref 116]),#[]⟩),
(59,⟨(.type "code"),none,(.fields #[.str "Hall" 243,.str "Hall" 244,.str "/claim/cut.py" 245,.int 13 0,.int 0 0,.int 0 0,.int 0 0,.int 0 0,.ref 57,.bool false,.int 181 0,.ref 58,.none,.none,.none,.none,.int 246 0,.int 13 0,.str "/claim/cut.py" 247]),#[]⟩),
(60,fr 59 56 "elderhouse.houses" 239),
(62,e0),
(63,fz "__init__" "Hall.__init__" Z1F),
(67,e0),
(70,fz "houses" "Hall.houses" Z1Z),
(74,e0),
(77,fz "elders" "Hall.elders" Z2d),
(81,e0),
(84,fz "younger" "Hall.younger" Z3H),
(88,e0),
(91,fz "fields" "Hall.fields" Z1Y),
(95,e0),
(96,fz "place" "Hall.place" Z2s),
(100,e0),
(101,fz "found" "Hall.found" Z2r),
(105,e0),
(108,fz "head" "Hall.head" Z2P),
(112,e0),
(115,fz "found_word" "Hall.found_word" Z1m),
(123,su 120),
(124,bi "object.__init_subclass__" (.ref 120)),
(127,e0),
(130,fz "is_house" "is_house" Z3p),
(134,e0),
(137,fz "fits" "fits" Z9j),
(141,e0),
(144,fz "nearest" "nearest" Z4e),
(148,e0),
(151,fz "kinds_of" "kinds_of" Z3k),
(155,e0),
(158,fz "need_like_elders" "need_like_elders" Z1c),
(162,e0),
(163,fz "kinds_in" "kinds_in" Z3o),
(167,e0),
(170,fz "body_kinds" "body_kinds" Z2t),
(174,e0),
(177,fz "term_kinds" "term_kinds" Z2z),
(181,e0),
(184,fz "bound_ahead" "bound_ahead" Z1X),
(188,e0),
(191,fz "own_kind" "own_kind" Z3B),
(195,e0),
(198,fz "need" "need" J0m),
(202,e0),
(205,fz "two_kind" "two_kind" Z3l),
(209,e0),
(212,fz "if_kind" "if_kind" Z4d),
(216,e0),
(219,fz "field_kind" "field_kind" Z2B),
(223,e0),
(226,fz "call_kind" "call_kind" Z2O),
(230,e0),
(231,fz "all_fit" "all_fit" Z3X),
(235,e0),
(236,fz "word_names" "word_names" Z2n),
(240,e0),
(243,fz "first_blocks" "first_blocks" Z1O),
(247,e0),
(250,fz "found_block" "found_block" Z2c),
(255,e0),
(258,fz "compiled" "compiled" Z3s),
(261,et),
(262,bi "type.__prepare__" (.type "type")),
(263,⟨(.type "dict"),none,(.dict #[ky P "__module__" 562 (.str "elderhouse.making" 527),ky P "__qualname__" 564 (.str "Maker" 563),⟨PyData.keyHash P "__firstlineno__",.str "__firstlineno__" 566,.int 202 565⟩,ky P "__init__" 574 (.ref 274),ky P "all_blocks" 585 (.ref 281),ky P "block" 591 (.ref 286),ky P "rows" 605 (.ref 293),ky P "own_row" 617 (.ref 300),ky P "__static_attributes__" 623 (.ref 301)] 9),#[]⟩),
(264,et),
(265,⟨.none,none,(.fields #[.int 204 0,.int 4 0,.ref 273,.int 211 0,.int 4 0,.ref 280,.int 220 0,.int 4 0,.ref 285,.int 227 0,.int 4 0,.ref 292,.int 244 0,.int 4 0,.ref 299]),#[]⟩),
(266,⟨(.type "code"),none,(.fields #[.str "Maker" 557,.str "Maker" 558,.str "/claim/cut.py" 559,.int 202 0,.int 0 0,.int 0 0,.int 0 0,.int 0 0,.ref 264,.bool false,.int 181 0,.ref 265,.none,.none,.none,.none,.int 560 0,.int 202 0,.str "/claim/cut.py" 561]),#[]⟩),
(267,fr 266 263 "elderhouse.making" 527),
(269,e0),
(272,fz "__init__" "Maker.__init__" Z1v),
(276,e0),
(279,fz "all_blocks" "Maker.all_blocks" Z1f),
(283,e0),
(284,fz "block" "Maker.block" Z2a),
(288,e0),
(291,fz "rows" "Maker.rows" Z2k),
(295,e0),
(298,fz "own_row" "Maker.own_row" Z1G),
(306,su 303),
(307,bi "object.__init_subclass__" (.ref 303)),
(309,e0),
(310,fz "part_kinds" "part_kinds" Z2v),
(314,e0),
(317,fz "if_rows" "if_rows" Z3Z),
(321,e0),
(324,fz "joined" "joined" Z4R),
(328,e0),
(329,fz "last_slot" "last_slot" Z2T),
(333,e0),
(334,fz "most_bound" "most_bound" Z2A),
(337,et),
(338,bi "type.__prepare__" (.type "type")),
(339,⟨(.type "dict"),none,(.dict #[ky P "__module__" 677 (.str "elderhouse.terms" 668),ky P "__qualname__" 679 (.str "Term" 678),⟨PyData.keyHash P "__firstlineno__",.str "__firstlineno__" 681,.int 282 680⟩,ky P "__init__" 687 (.ref 348),ky P "plain" 694 (.ref 355),ky P "parts" 701 (.ref 362),ky P "depth" 708 (.ref 369),ky P "size" 715 (.ref 376),ky P "__static_attributes__" 722 (.ref 377)] 9),#[]⟩),
(340,et),
(341,⟨.none,none,(.fields #[.int 284 0,.int 4 0,.ref 347,.int 292 0,.int 4 0,.ref 354,.int 295 0,.int 4 0,.ref 361,.int 298 0,.int 4 0,.ref 368,.int 301 0,.int 4 0,.ref 375]),#[]⟩),
(342,⟨(.type "code"),none,(.fields #[.str "Term" 672,.str "Term" 673,.str "/claim/cut.py" 674,.int 282 0,.int 0 0,.int 0 0,.int 0 0,.int 0 0,.ref 340,.bool false,.int 181 0,.ref 341,.none,.none,.none,.none,.int 675 0,.int 282 0,.str "/claim/cut.py" 676]),#[]⟩),
(343,fr 342 339 "elderhouse.terms" 668),
(345,e0),
(346,fz "__init__" "Term.__init__" Z1C),
(350,e0),
(353,fz "plain" "Term.plain" Z2x),
(357,e0),
(360,fz "parts" "Term.parts" Z2C),
(364,e0),
(367,fz "depth" "Term.depth" Z2q),
(371,e0),
(374,fz "size" "Term.size" Z2U),
(382,su 379),
(383,bi "object.__init_subclass__" (.ref 379)),
(385,e0),
(388,fz "shape_of" "shape_of" Z3v),
(391,et),
(392,bi "type.__prepare__" (.type "type")),
(393,⟨(.type "dict"),none,(.dict #[ky P "__module__" 746 (.str "elderhouse.terms" 668),ky P "__qualname__" 748 (.str "Word" 747),⟨PyData.keyHash P "__firstlineno__",.str "__firstlineno__" 750,.int 313 749⟩,ky P "__init__" 761 (.ref 404),ky P "plain" 768 (.ref 411),ky P "__static_attributes__" 773 (.ref 412)] 6),#[]⟩),
(394,et),
(395,⟨.none,none,(.fields #[.int 315 0,.int 4 0,.ref 403,.int 321 0,.int 4 0,.ref 410]),#[]⟩),
(396,⟨(.type "code"),none,(.fields #[.str "Word" 741,.str "Word" 742,.str "/claim/cut.py" 743,.int 313 0,.int 0 0,.int 0 0,.int 0 0,.int 0 0,.ref 394,.bool false,.int 181 0,.ref 395,.none,.none,.none,.none,.int 744 0,.int 313 0,.str "/claim/cut.py" 745]),#[]⟩),
(397,fr 396 393 "elderhouse.terms" 668),
(399,e0),
(402,fz "__init__" "Word.__init__" Z1H),
(406,e0),
(409,fz "plain" "Word.plain" Z4H),
(417,su 414),
(418,bi "object.__init_subclass__" (.ref 414)),
(419,et),
(420,bi "type.__prepare__" (.type "type")),
(421,⟨(.type "dict"),none,(.dict #[ky P "__module__" 788 (.str "elderhouse.terms" 668),ky P "__qualname__" 790 (.str "House" 789),⟨PyData.keyHash P "__firstlineno__",.str "__firstlineno__" 792,.int 323 791⟩,ky P "__init__" 803 (.ref 432),ky P "plain" 809 (.ref 437),ky P "__static_attributes__" 814 (.ref 438)] 6),#[]⟩),
(422,et),
(423,⟨.none,none,(.fields #[.int 325 0,.int 4 0,.ref 431,.int 331 0,.int 4 0,.ref 436]),#[]⟩),
(424,⟨(.type "code"),none,(.fields #[.str "House" 783,.str "House" 784,.str "/claim/cut.py" 785,.int 323 0,.int 0 0,.int 0 0,.int 0 0,.int 0 0,.ref 422,.bool false,.int 181 0,.ref 423,.none,.none,.none,.none,.int 786 0,.int 323 0,.str "/claim/cut.py" 787]),#[]⟩),
(425,fr 424 421 "elderhouse.terms" 668),
(427,e0),
(430,fz "__init__" "House.__init__" Z1u),
(434,e0),
(435,fz "plain" "House.plain" Z4h),
(443,su 440),
(444,bi "object.__init_subclass__" (.ref 440)),
(445,et),
(446,bi "type.__prepare__" (.type "type")),
(447,⟨(.type "dict"),none,(.dict #[ky P "__module__" 829 (.str "elderhouse.terms" 668),ky P "__qualname__" 831 (.str "Program" 830),⟨PyData.keyHash P "__firstlineno__",.str "__firstlineno__" 833,.int 334 832⟩,ky P "__init__" 842 (.ref 458),ky P "plain" 848 (.ref 463),ky P "bodies" 855 (.ref 470),ky P "__static_attributes__" 858 (.ref 471)] 7),#[]⟩),
(448,et),
(449,⟨.none,none,(.fields #[.int 336 0,.int 4 0,.ref 457,.int 340 0,.int 4 0,.ref 462,.int 344 0,.int 4 0,.ref 469]),#[]⟩),
(450,⟨(.type "code"),none,(.fields #[.str "Program" 824,.str "Program" 825,.str "/claim/cut.py" 826,.int 334 0,.int 0 0,.int 0 0,.int 0 0,.int 0 0,.ref 448,.bool false,.int 181 0,.ref 449,.none,.none,.none,.none,.int 827 0,.int 334 0,.str "/claim/cut.py" 828]),#[]⟩),
(451,fr 450 447 "elderhouse.terms" 668),
(453,e0),
(456,fz "__init__" "Program.__init__" Z1g),
(460,e0),
(461,fz "plain" "Program.plain" Z3d),
(465,e0),
(468,fz "bodies" "Program.bodies" Z2V),
(476,su 473),
(477,bi "object.__init_subclass__" (.ref 473)),
(479,e0),
(480,fz "pairs_of" "pairs_of" Z3r),
(484,e0),
(485,fz "program_of" "program_of" Z2u),
(489,e0),
(490,fz "house_of" "house_of" Z3F),
(494,e0),
(497,fz "word_of" "word_of" Z4g),
(501,e0),
(502,fz "term_of" "term_of" Z4a),
(506,e0),
(509,fz "all_within" "all_within" Z2y),
(513,e0),
(516,fz "parts_of" "parts_of" Z3E),
(520,e0),
(523,fz "label_of" "label_of" Z3i),
(527,e0),
(530,fz "_law_cell_at" "_law_cell_at" Z1M),
(534,e0),
(537,fz "_law_draw" "_law_draw" Z2K),
(541,e0),
(544,fz "_law_some" "_law_some" Z2N),
(548,e0),
(549,fz "_law_new" "_law_new" Z3y),
(553,e0),
(554,fz "_law_leaf" "_law_leaf" Z2R),
(558,e0),
(559,fz "_law_called" "_law_called" Z2e),
(563,e0),
(564,fz "_law_touched" "_law_touched" Z1N),
(568,e0),
(571,fz "_law_let" "_law_let" Z3m),
(575,e0),
(578,fz "_law_two" "_law_two" Z3t),
(582,e0),
(585,fz "_law_grown" "_law_grown" Z2m),
(589,e0),
(592,fz "_law_body" "_law_body" Z2Q),
(596,e0),
(597,fz "_law_env" "_law_env" Z3q),
(601,e0),
(602,fz "law" "law" J0A)]
def mrg:Nat->List (V0×Obj)->List (V0×Obj)->List Obj
 |0,_,_=>[]
 |n+1,(a,x)::l,(b,y)::r=>match Nat.blt a b with
  |true=>x::mrg n l ((b,y)::r)
  |false=>y::mrg n ((a,x)::l) r
 |n+1,[],(_,y)::r=>y::mrg n [] r
 |n+1,(_,x)::l,[]=>x::mrg n l []
 |_+1,[],[]=>[]
noncomputable def TF(p:Program)(w:Y3)(os:OsState):W.SharedT:=⟨ofL (mrg 605 (RR w.params) (KK w.params)) 0 .nil,605,(Sa p w os).heap.life,Array.mk [],W.boot_drawn,1064,os⟩
def sF(w:Y3)(b:Bool):Y3:={w with params:={w.params with followText:=λ x=>if x="special-get-raises" then b else w.params.followText x}}
theorem J9m(w:Y3):sF w (w.params.followText "special-get-raises")=w:=by
 have h:(λ x=>if x="special-get-raises" then w.params.followText "special-get-raises" else w.params.followText x)=w.params.followText:=by
  funext x;split
  ·rename_i h;rw[h]
  ·rfl
 unfold sF;rw[h]
theorem b0t(w:Y3)(os:OsState):W.segRunT treeTable pw0 (sF w true) 11 an 1 4067 (TB pw0 (sF w true) os) (W.piecesOf (W.behindTheImports pw0) (eN pw0) (cN pw0) po [W.topFrame po])=some (.next,(TF pw0 (sF w true) os),cN pw0,pf):=by
 unfold TF TB Sa;rw[W.Fast.te10110043849684766642,W.Fast.te15667345088766844465,W.Fast.te11829926853211570390];kernel_rfl
theorem b0f(w:Y3)(os:OsState):W.segRunT treeTable pw0 (sF w false) 11 an 1 4067 (TB pw0 (sF w false) os) (W.piecesOf (W.behindTheImports pw0) (eN pw0) (cN pw0) po [W.topFrame po])=some (.next,(TF pw0 (sF w false) os),cN pw0,pf):=by
 unfold TF TB Sa;rw[W.Fast.te10110043849684766642,W.Fast.te15667345088766844465,W.Fast.te11829926853211570390];kernel_rfl
theorem b0(w:Y3)(os:OsState):W.segRunT treeTable pw0 w 11 an 1 4067 (TB pw0 w os) (W.piecesOf (W.behindTheImports pw0) (eN pw0) (cN pw0) po [W.topFrame po])=some (.next,(TF pw0 w os),cN pw0,pf):=by
 have h:∀b,W.segRunT treeTable pw0 (sF w b) 11 an 1 4067 (TB pw0 (sF w b) os) (W.piecesOf (W.behindTheImports pw0) (eN pw0) (cN pw0) po [W.topFrame po])=some (.next,(TF pw0 (sF w b) os),cN pw0,pf):=λ b=>by
  cases b
  ·exact b0f w os
  ·exact b0t w os
 have h:=h (w.params.followText "special-get-raises");rw[J9m]at h;exact h
theorem b1(w:Y3)(os:OsState):(W.topRun treeTable pw0 w 11 an 2 (TF pw0 w os).abs (W.restOf [] (eN pw0) (cN pw0) pf [W.topFrame po])).map (λ s=>(W.staticsOk (importedModules pw0.main.body) (W.boot_heap w.params) s.heap&&W.namesBound pw0 s.heap&&W.gensDone s&&W.laidKept (W.boot_heap w.params) s.heap))=some true:=by
 kernel_rfl
theorem b2(w:Y3)(os:OsState):(W.topRun treeTable pw0 w 11 an 2 (TF pw0 w os).abs (W.restOf [] (eN pw0) (cN pw0) pf [W.topFrame po])).map (λ s=>W.openSeen qv ["SIGN_ROWS"] (importedModules pw0.main.body) (λ s=>W.xlAt qv [] s&&W.recOk (W.RowW.records rv) s) true s)=some (W.openGood qv ["SIGN_ROWS"]):=by
 kernel_rfl
theorem b3(w:Y3)(os:OsState):(W.topRun treeTable pw0 w 11 an 2 (TF pw0 w os).abs (W.restOf [] (eN pw0) (cN pw0) pf [W.topFrame po])).map (λ s=>W.Hook.obs (W.kHook KK KA ka_eq) s)=some (W.Hook.val (W.kHook KK KA ka_eq) w):=by
 kernel_rfl
theorem b4(w:Y3)(os:OsState):∃T s,W.segRunT treeTable pw0 w 11 an 1 4067 (TB pw0 w os) (W.piecesOf (W.behindTheImports pw0) (eN pw0) (cN pw0) po [W.topFrame po])=some (.next,T,cN pw0,pf)/\W.topRun treeTable pw0 w 11 an 2 T.abs (W.restOf [] (eN pw0) (cN pw0) pf [W.topFrame po])=some s/\(W.staticsOk (importedModules pw0.main.body) (W.boot_heap w.params) s.heap&&W.namesBound pw0 s.heap&&W.gensDone s&&W.laidKept (W.boot_heap w.params) s.heap)=true/\W.openSeen qv ["SIGN_ROWS"] (importedModules pw0.main.body) (λ s=>W.xlAt qv [] s&&W.recOk (W.RowW.records rv) s) true s=W.openGood qv ["SIGN_ROWS"]/\W.Hook.obs (W.kHook KK KA ka_eq) s=W.Hook.val (W.kHook KK KA ka_eq) w:=by
 obtain⟨s,hs,y1⟩:=qc1.mp (b1 w os);obtain⟨s2,hs2,y2⟩:=qc1.mp (b2 w os);obtain⟨s3,hs3,y3⟩:=qc1.mp (b3 w os);cases qc6 (hs.symm.trans hs2);cases qc6 (hs.symm.trans hs3);exact⟨TF pw0 w os,s,b0 w os,hs,y1,y2,y3⟩
theorem rQ7(w:Y3)(os:OsState):∃s,W.topRun treeTable pw0 w 11 an (12+(1+(4067+2))) (Y0 w os) (W.topStub pw0)=some s/\(W.staticsOk (importedModules pw0.main.body) (W.boot_heap w.params) s.heap&&W.namesBound pw0 s.heap&&W.gensDone s&&W.laidKept (W.boot_heap w.params) s.heap)=true/\W.openSeen qv ["SIGN_ROWS"] (importedModules pw0.main.body) (λ s=>W.xlAt qv [] s&&W.recOk (W.RowW.records rv) s) true s=W.openGood qv ["SIGN_ROWS"]/\W.Hook.obs (W.kHook KK KA ka_eq) s=W.Hook.val (W.kHook KK KA ka_eq) w:=by
 obtain⟨T,s,h1,h2,h3,h4,h5⟩:=b4 w os;refine⟨s,W.go_top (rQ1 w os) (W.piece_block (rQ2 w os) ?_),h3,h4,h5⟩;have h6:=W.segRun_of h1;rw[rQ3]at h6;have h7:=W.piece_app (rest:=[]) h6 h2;rw[qc8]at h7;exact h7
theorem rQ8:∀w:Y3,((W.boot_heap w.params).isNs mainGlobals&&(Array.mk ([]:List GenState)).size==0)=true/\(W.boot_heap w.params).objs.size=11/\(W.boot_heap w.params).nsMap mainGlobals "__annotations__"=an:=by
 intro w;exact⟨by kernel_rfl,by kernel_rfl,by kernel_rfl⟩
theorem rQ9:∀w:Y3,(W.fencedOpening treeTable pw0 w 8258).map (λ s=>(s.heap,s.gens,s.drawn,s.toks))=some (W.boot_heap w.params,Array.mk [],W.boot_drawn,W.boot_toks):=W.boot_open rfl rfl λ s=>rfl
theorem left:W.LeftO pw0 qv ["SIGN_ROWS"] (λ s=>W.xlAt qv [] s&&W.recOk (W.RowW.records rv) s) (W.Hook.obs (W.kHook KK KA ka_eq)) (W.Hook.val (W.kHook KK KA ka_eq)) 8258:=J5u rQ9 rQ8 qQ rQ7
theorem ws0:rw0.wellSaid=true:=by
 kernel_rfl
end K50
end
section
namespace P15
open PySem
inductive Lb|non|int(i:Int)|bl(b:Bool)|str(x:M2)
noncomputable def Lb.d:Lb->PyData
 | .non=>.none| .int i=>.int i| .bl b=>.bool b| .str x=>.str x
inductive Fm|number|truth|name|self|nt|iff|two|lt|new|elder|call|field|set
noncomputable def Fm.s:Fm->M2
 | .number=>"number"| .truth=>"truth"| .name=>"name"| .self=>"self"| .nt=>"not"| .iff=>"if"| .two=>"two"| .lt=>"let"| .new=>"new"| .elder=>"elder"| .call=>"call"| .field=>"field"| .set=>"set"
inductive Tm|mk(f:Fm)(l:Lb)(ps:List Tm)
noncomputable def Tm.f:Tm->Fm| .mk f _ _=>f
noncomputable def Tm.l:Tm->Lb| .mk _ l _=>l
noncomputable def Tm.ps:Tm->List Tm| .mk _ _ ps=>ps
noncomputable def Z0K(f:Fm)(l:Lb)(ps:List PyData):List PyData:=match f with
 | .self| .nt| .iff=>.str f.s::ps
 | .new| .elder=>[.str f.s,l.d,.tuple ps]
 | .call=>match ps with
  |p::a=>[.str f.s,p,l.d,.tuple a]
  |[]=>[]
 | .field| .set=>match ps with
  |p::a=>.str f.s::p::l.d::a
  |[]=>[]
 |_=>.str f.s::l.d::ps
mutual
noncomputable def Tm.dat:Tm->PyData
 | .mk f l ps=>.tuple (Z0K f l (dats ps))
noncomputable def dats:List Tm->List PyData
 |[]=>[]
 |t::a=>t.dat::dats a
end
mutual
noncomputable def Tm.depth:Tm->Nat
 | .mk _ _ ps=>1+maxD ps
noncomputable def maxD:List Tm->Nat
 |[]=>0
 |t::a=>max t.depth (maxD a)
end
mutual
noncomputable def Tm.size:Tm->Nat
 | .mk _ _ ps=>1+sumS ps
noncomputable def sumS:List Tm->Nat
 |[]=>0
 |t::a=>t.size+sumS a
end
noncomputable def okF:Fm->Lb->Nat->Prop
 | .number,.int _,n=>n=0
 | .truth,.bl _,n=>n=0
 | .name,.str _,n=>n=0
 | .self,.non,n=>n=0
 | .nt,.non,n=>n=1
 | .iff,.non,n=>n=3
 | .two,.str _,n=>n=2
 | .lt,.str _,n=>n=2
 | .new,.str _,_=>True
 | .elder,.str _,_=>True
 | .call,.str _,n=>1<=n
 | .field,.str _,n=>n=1
 | .set,.str _,n=>n=2
 |_,_,_=>False
inductive Ok:Tm->Prop
 |mk{f:Fm}{l:Lb}{ps:List Tm}:okF f l ps.length->(∀p∈ps,Ok p)->Ok (.mk f l ps)
mutual
noncomputable def Tm.flat:Tm->List Tm
 | .mk f l ps=>.mk f l ps::flatR ps
noncomputable def flatR:List Tm->List Tm
 |[]=>[]
 |t::a=>flatR a++t.flat
end
theorem Z4c:∀(xs ys:List Tm),flatR (xs++ys)=flatR ys++flatR xs
 |[],ys=>by show flatR ys=_++[];rw[qc8]
 |x::xs,ys=>by show flatR (xs++ys)++x.flat=_++(flatR xs++x.flat);rw[Z4c xs ys,qb9]
inductive Bld:List Tm->List Tm->Prop
 |nil:Bld [] []
 |snoc{w C:List Tm}{t:Tm}:Bld w (C++t.ps)->Bld (w++[t]) (C++[t])
mutual
theorem Bld.flat:∀(t:Tm){w B:List Tm},Bld w B->Bld (w++t.flat.reverse) (B++[t])
 | .mk f l ps,w,B,h=>by
  have a:=Bld.flats ps h;have e:w++(Tm.mk f l ps).flat.reverse=w++(flatR ps).reverse++[Tm.mk f l ps]:=by
   show w++(Tm.mk f l ps::flatR ps).reverse=_;rw[qe8,qb9]
  rw[e];exact .snoc a
theorem Bld.flats:∀(ts:List Tm){w B:List Tm},Bld w B->Bld (w++(flatR ts).reverse) (B++ts)
 |[],w,B,h=>by
  show Bld (w++[]) (B++[]);rw[qc8,qc8];exact h
 |t::ts,w,B,h=>by
  have a:=Bld.flats ts (Bld.flat t h);show Bld (w++(flatR ts++t.flat).reverse) _;rw[ql5,<-qb9];rw[qb9 B]at a;exact a
end
theorem Bld.inv{w S:List Tm}{x:Tm}(h:Bld (w++[x]) S):∃C,S=C++[x]/\Bld w (C++x.ps):=by
 generalize e:w++[x]=u at h;cases h with
 |nil=>cases w<;>cases e
 |snoc a=>
  obtain⟨rfl,b⟩:=List.append_inj' e rfl;cases b;exact⟨_,rfl,a⟩
theorem Bld.nil_inv{S:List Tm}(h:Bld [] S):S=[]:=by
 generalize e:([]:List Tm)=u at h;cases h with
 |nil=>rfl
 |snoc _=>exact absurd e.symm (by simp)
theorem Z8G{w:List Tm}{n:Nat}(e:w.length=n+1):∃a x,w=a++[x]/\a.length=n:=
 ⟨w.dropLast,w.getLast (by intro z;rw[z]at e;cases e),(List.dropLast_concat_getLast _).symm,by rw[List.length_dropLast,e];rfl⟩
theorem Bld.det:∀{n:Nat}{w S a:List Tm},w.length=n->Bld w S->Bld w a->S=a
 |0,w,S,a,e,h,b=>by
  cases qh9.mp e;rw[h.nil_inv,b.nil_inv]
 |n+1,w,S,a,e,h,b=>by
  obtain⟨w,x,rfl,c⟩:=Z8G e;obtain⟨C,rfl,g⟩:=h.inv;obtain⟨j,rfl,i⟩:=b.inv;rw[List.append_cancel_right (Bld.det c g i)]
theorem Bld.pre{u:List Tm}:∀{n:Nat}{v S:List Tm},v.length=n->Bld (u++v) S->∃a,Bld u a
 |0,v,S,e,h=>by
  cases qh9.mp e;rw[qc8]at h;exact⟨S,h⟩
 |n+1,v,S,e,h=>by
  obtain⟨v,x,rfl,b⟩:=Z8G e;rw[<-qb9]at h;obtain⟨C,_,c⟩:=h.inv;exact Bld.pre b c
theorem Bld.next{w S b:List Tm}{i:Nat}{x:Tm}(h:Bld w S)(c:w[i]?=some x)(h':Bld (w.take i) b):∃C,b=C++x.ps/\Bld (w.take (i+1)) (C++[x]):=by
 have e:w.take (i+1)=w.take i++[x]:=by
  rw[qd4,c];rfl
 obtain⟨j,a⟩:=Bld.pre (u:=w.take (i+1)) (v:=w.drop (i+1)) rfl (by rw[List.take_append_drop];exact h);rw[e]at a ⊢;obtain⟨C,rfl,g⟩:=a.inv;exact⟨C,Bld.det rfl h' g,a⟩
end P15
end
section
namespace L2
open PySem PySem.Spec PyProof.Rows
abbrev Key:=Sum Int M2
def Z8Z:Key->V1->Bool
 | .inl k,v=>Value.isInt k v
 | .inr x,v=>Value.isStrOf x v
def keyH(w:Y3):Key->Int
 | .inl k=>hashInt k
 | .inr x=>hashStr w x
theorem Z0U:∀{k:Key}{v:V1},Z8Z k v=true->(∃i t,k=Sum.inl i/\v=Value.int i t)\/(∃x t,k=Sum.inr x/\v=Value.str x t)
 | .inl i,v,h=>by
  obtain⟨t,e⟩:=Value.isInt_shape (k:=i) (v:=v) h;exact .inl ⟨i,t,rfl,e⟩
 | .inr x,v,h=>by
  obtain⟨t,e⟩:=Value.isStrOf_shape (x:=x) (v:=v) h;exact .inr ⟨x,t,rfl,e⟩
theorem J2i(i:Int)(t:Tok):Z8Z (.inl i) (.int i t)=true:=by simp[Z8Z,Value.isInt]
theorem J1S(x:M2)(t:Tok):Z8Z (.inr x) (.str x t)=true:=by simp[Z8Z,Value.isStrOf]
theorem J6U(a b:Int):decide ((Sum.inl a:Key)=Sum.inl b)=(a==b):=by
 by_cases e:a=b
 ·subst e;simp
 ·have h:¬(Sum.inl a:Key)=Sum.inl b:=λ q=>e (Sum.inl.inj q);rw[decide_eq_false h];exact(beq_eq_false_iff_ne.mpr e).symm
theorem J7r(a b:M2):decide ((Sum.inr a:Key)=Sum.inr b)=decide (a=b):=by
 by_cases e:a=b
 ·subst e;simp
 ·have h:¬(Sum.inr a:Key)=Sum.inr b:=λ q=>e (Sum.inr.inj q);rw[decide_eq_false h,decide_eq_false e]
theorem J6Q(a:Int)(b:M2):decide ((Sum.inl a:Key)=Sum.inr b)=false:=decide_eq_false (λ q=>nomatch q)
theorem J7E(a:M2)(b:Int):decide ((Sum.inr a:Key)=Sum.inl b)=false:=decide_eq_false (λ q=>nomatch q)
def Z0M(prog:Program)(w:Y3):PySem.KeyKind prog w Key where
 is:=Z8Z
 hash:=keyH w
 inj:=λ v a b ha hb=>by
  rcases Z0U ha with⟨i,t,rfl,rfl⟩|⟨x,t,rfl,rfl⟩
  ·rcases Z0U hb with⟨j,u,rfl,e⟩|⟨y,u,rfl,e⟩
   ·injection e with e1 _;rw[e1]
   ·exact nomatch e
  ·rcases Z0U hb with⟨j,u,rfl,e⟩|⟨y,u,rfl,e⟩
   ·exact nomatch e
   ·injection e with e1 _;rw[e1]
 byValue:=λ k v h=>by
  rcases Z0U h with⟨i,t,rfl,rfl⟩|⟨x,t,rfl,rfl⟩<;>rfl
 pyHash:=λ hv h=>by
  rcases Z0U hv with⟨i,t,rfl,rfl⟩|⟨x,t,rfl,rfl⟩
  ·exact wpAny_pyHash_int h
  ·exact wpAny_pyHash_str h
 eqBool:=λ hu hv h=>by
  rcases Z0U hu with⟨i,t,rfl,rfl⟩|⟨x,t,rfl,rfl⟩
  ·rcases Z0U hv with⟨j,u,rfl,rfl⟩|⟨y,u,rfl,rfl⟩
   ·rw[J6U]at h;exact wpAny_eqBool_int h
   ·rw[J6Q]at h;exact SeqAt.EqAt.int_str i t y u _ _ _ _ h
  ·rcases Z0U hv with⟨j,u,rfl,rfl⟩|⟨y,u,rfl,rfl⟩
   ·rw[J7E]at h;exact SeqAt.EqAt.str_int x t j u _ _ _ _ h
   ·rw[J7r]at h;exact wpAny_eqBool_str h
 «strs»:=λ k x t v h=>by
  rcases Z0U h with⟨i,u,rfl,e⟩|⟨y,u,rfl,e⟩
  ·exact nomatch e
  ·injection e with e1 _
   subst e1;cases v<;>rfl
theorem Z8F(prog:Program)(w:Y3)(i:Int)(t:Tok):(Z0M prog w).is (.inl i) (.int i t)=true:=J2i i t
theorem Z8D(prog:Program)(w:Y3)(x:M2)(t:Tok):(Z0M prog w).is (.inr x) (.str x t)=true:=J1S x t
end L2
namespace L2
open PySem PySem.Spec PyProof.Rows
inductive V where
 |non|bl(b:Bool)|int(i:Int)|str(x:M2)|byt(b:Array UInt8)|flt(b:UInt64)|ref(a:V0)|ty(n:String)
 deriving DecidableEq
def RelV:V->V1->Prop
 | .non,u=>u=Value.none
 | .bl b,u=>u=Value.bool b
 | .int i,u=>∃t,u=Value.int i t
 | .str x,u=>∃t,u=Value.str x t
 | .byt b,u=>∃t,u=Value.bytes b t
 | .flt b,u=>∃t,u=Value.float b t
 | .ref a,u=>u=Value.ref a
 | .ty n,u=>u=Value.type n
abbrev Vals:List V->List V1->Prop:=Paired RelV
theorem Vals.length{xs:List V}{us:List V1}(r:Vals xs us):xs.length=us.length:=Paired.length r
theorem Vals.get:∀{xs:List V}{us:List V1}{i:Nat}{x:V},Vals xs us->xs[i]?=some x->∃u,us[i]?=some u/\RelV x u
 |_,_,_,_,.nil,e=>by simp at e
 |_,_,0,_,.cons r _,e=>by simp at e;subst e;exact⟨_,rfl,r⟩
 |_,_,i+1,x,.cons _ t,e=>by
  obtain⟨u,h1,h2⟩:=Vals.get (i:=i) (x:=x) t (by simpa using e);exact⟨u,by simpa using h1,h2⟩
theorem Vals.append:∀{xs ys:List V}{us i:List V1},Vals xs us->Vals ys i->Vals (xs++ys) (us++i)
 |_,_,_,_,.nil,s=>s
 |_,_,_,_,.cons r t,s=>.cons r (Vals.append t s)
theorem Vals.take:∀{xs:List V}{us:List V1}(n:Nat),Vals xs us->Vals (xs.take n) (us.take n)
 |_,_,0,_=>.nil
 |_,_,_+1,.nil=>.nil
 |_,_,n+1,.cons r t=>.cons r (Vals.take n t)
theorem Vals.drop:∀{xs:List V}{us:List V1}(n:Nat),Vals xs us->Vals (xs.drop n) (us.drop n)
 |_,_,0,r=>r
 |_,_,_+1,.nil=>.nil
 |_,_,n+1,.cons _ t=>Vals.drop n t
def RelO:Option V->Option V1->Prop
 |some v,some u=>RelV v u
 |none,none=>True
 |_,_=>False
def KV{κ:Type}:List (κ×V)->List (κ×V1)->Prop:=Paired λ(p:κ×V) (q:κ×V1)=>p.1=q.1/\RelV p.2 q.2
def kV:Key->V
 | .inl i=>.int i
 | .inr x=>.str x
inductive HO where
 |lst(xs:List V)
 |tup(xs:List V)
 |dK(kvs:List (Key×V))|dT(kvs:List (List Key×V))
 |set(S:Int->Bool)(n:Nat)
 |ins(C dx:V0)(fs:List (M2×V))
 |own(x:V0)
 |xd(fs:List (M2×V))
 |met(f x:V0)
 |rng(lo hi:Int)
 |frz(o:Obj)(u:HO)
 |tbl(ps:Array V1)
 |ext(φ:Z3->Prop)
abbrev Hp:=V0->Option HO
def upd(H:Hp)(a:V0)(o:HO):Hp:=λ b=>if b=a then some o else H b
variable{o:HO}{a:V0}{H:Hp}
theorem Z0d:upd H a o a=some o:=by unfold upd;rw[if_pos rfl]
variable{b:V0}
theorem Z0k(h:b≠a):upd H a o b=H b:=by unfold upd;rw[if_neg h]
theorem J6d{u:HO}(h:H a=some o)(h':H b=some u)(d:o≠u):a≠b:=by
 intro e;subst e;rw[h]at h';exact d (qc6 h')
theorem Z0m(h:H a=some o)(h':H b=none):a≠b:=by
 intro e;subst e;rw[h]at h';cases h'
theorem Z9A{h:Z3}{xs:Array V1}{n:Nat}:∀o,(h.push {cls:=.type "tuple",data:=.seq xs n}).get? h.objs.size=some o->o.dict=none:=λ o q=>by
 rw[Heap.get?_push_size _ rfl]at q;cases q;rfl
section
variable(P:Program)(w:Y3)
def ObjOk(H:Hp)(h:Z3)(a:V0):HO->Prop
 | .lst xs=>xs.length<=sizeLine/\∃(i:List V1)(n:Nat),Vals xs i/\h.get? a=some {cls:=.type "list",data:=.seq i.toArray n}
 | .tup xs=>(xs.length<=sizeLine/\∀o,h.get? a=some o->o.dict=none)/\∃i:List V1,Vals xs i/\IsTup h a i.toArray
 | .dK j=>j.length<=sizeLine/\(a==sysModules)=false/\∃vs,KV j vs/\h.DictOf (Z0M P w) a vs
 | .dT j=>j.length<=sizeLine/\(a==sysModules)=false/\∃xs:List (List Key×V0×V1),
   Paired (λ(p:List Key×V) (q:List Key×V0×V1)=>p.1=q.1/\H q.2.1=some (.tup (p.1.map kV))/\RelV p.2 q.2.2) j xs/\
   ∃o es z,h.get? a=some o/\o.ExactDict/\o.data=.dict es z/\es.toList=xs.map (entryOfKey (tupleKind (Z0M P w)))/\(xs.map (·.1)).Nodup
 | .set S n=>h.SetOf (intKind P w) a S n
 | .ins C dx fs=>H dx=some (.own a)/\fs.length<=1000/\dx≠a/\h.get? a=some (W.instObj C dx)/\
   ∃mA,h.Ns1 dx mA/\(∀f,RelO (fs.lookup f) (mA f))/\PySem.Within mA (fs.map (·.1))
 | .own _=>∃o,h.get? a=some o
 | .xd fs=>∃mA,h.Ns1 a mA/\∀f,RelO (fs.lookup f) (mA f)
 | .rng lo hi=>∃t u v,h.get? a=some {cls:=.type "range",data:=.fields #[.int lo t,.int hi u,.int 1 v]}
 | .frz o u=>h.get? a=some o/\ObjOk H h a u
 | .tbl ps=>h.get? a=some {cls:=.none,data:=.fields ps}
 | .met f x=>h.get? a=some (W.methodObj (.ref f) (.ref x))
 | .ext y=>y h/\(∃o,h.get? a=some o)/\∀h1 h2:Z3,y h1->(∀o,h1.get? a=some o->h2.get? a=some o)->y h2
def HOk(H:Hp)(h:Z3):Prop:=∀a o,H a=some o->ObjOk P w H h a o
end
section
variable{P:Program}{w:Y3}{H H':Hp}{h h':Z3}{a:V0}{o:HO}
theorem ObjOk.lt(x:ObjOk P w H h a o):a<h.objs.size:=by
 cases o with
 |lst xs=>obtain⟨_,_,_,_,e⟩:=x;exact Heap.lt_size e
 |tup xs=>obtain⟨_,_,_,p⟩:=x;exact p.lt
 |dK i=>obtain⟨_,_,_,_,o,_,_,e,_⟩:=x;exact Heap.lt_size e
 |dT i=>obtain⟨_,_,_,_,o,_,_,e,_⟩:=x;exact Heap.lt_size e
 |set S n=>obtain⟨o,_,_,_,e,_⟩:=x;exact Heap.lt_size e
 |ins C dx fs=>obtain⟨_,_,_,e,_⟩:=x;exact Heap.lt_size e
 |own y=>obtain⟨_,e⟩:=x;exact Heap.lt_size e
 |xd fs=>obtain⟨_,⟨_,_,_,e,_⟩,_⟩:=x;exact Heap.lt_size e
 |rng lo hi=>obtain⟨_,_,_,e⟩:=x;exact Heap.lt_size e
 |frz j u=>obtain⟨e,_⟩:=x;exact Heap.lt_size e
 |tbl ps=>exact Heap.lt_size (show h.get? a=some _ from x)
 |met f y=>exact Heap.lt_size (show h.get? a=some _ from x)
 |ext q=>obtain⟨_,⟨_,e⟩,_⟩:=x;exact Heap.lt_size e
theorem Paired.mapP{i j:Type}{F G:i->j->Prop}:∀{l₁:List i}{l₂:List j},Paired F l₁ l₂->(∀a b,F a b->G a b)->Paired G l₁ l₂
 |_,_,.nil,_=>.nil
 |_,_,.cons r t,f=>.cons (f _ _ r) (Paired.mapP t f)
theorem ObjOk.stay(x:ObjOk P w H h a o)(k:∀b u,(b=a\/H b=some (.own a))->h.get? b=some u->h'.get? b=some u)(I:∀b,H b=some (.own a)->H' b=some (.own a))(J:∀b xs,H b=some (.tup xs)->H' b=some (.tup xs)):ObjOk P w H' h' a o:=by
 induction o with
 |lst xs=>obtain⟨z,B,n,r,e⟩:=x;exact⟨z,B,n,r,k _ _ (.inl rfl) e⟩
 |tup xs=>obtain⟨z,B,r,i,e,c⟩:=x;exact⟨⟨z.1,λ o q=>by rw[k _ _ (.inl rfl) e]at q;cases q;exact z.2 _ e⟩,B,r,i,k _ _ (.inl rfl) e,c⟩
 |dK D=>obtain⟨z,y,vs,r,i,es,j,e,c⟩:=x;exact⟨z,y,vs,r,i,es,j,k _ _ (.inl rfl) e,c⟩
 |dT D=>
  obtain⟨z,y,xs,r,i,es,j,e,c⟩:=x;exact⟨z,y,xs,Paired.mapP r λ p q z=>⟨z.1,J _ _ z.2.1,z.2.2⟩,i,es,j,k _ _ (.inl rfl) e,c⟩
 |set S n=>obtain⟨i,es,j,t,e,c⟩:=x;exact⟨i,es,j,t,k _ _ (.inl rfl) e,c⟩
 |ins C dx fs=>
  obtain⟨d,z,L,e,mA,⟨G,es,j,M,c⟩,r⟩:=x;exact⟨I _ d,z,L,k _ _ (.inl rfl) e,mA,⟨G,es,j,k _ _ (.inr d) M,c⟩,r⟩
 |own y=>obtain⟨i,e⟩:=x;exact⟨i,k _ _ (.inl rfl) e⟩
 |xd fs=>obtain⟨mA,⟨G,es,j,e,c⟩,r⟩:=x;exact⟨mA,⟨G,es,j,k _ _ (.inl rfl) e,c⟩,r⟩
 |rng lo hi=>obtain⟨t,u,v,e⟩:=x;exact⟨t,u,v,k _ _ (.inl rfl) e⟩
 |frz i u N=>obtain⟨e,q⟩:=x;exact⟨k _ _ (.inl rfl) e,N q⟩
 |tbl ps=>
  have e:h.get? a=some {cls:=.none,data:=.fields ps}:=x;show h'.get? a=some {cls:=.none,data:=.fields ps};exact k a _ (.inl rfl) e
 |met f y=>
  have e:h.get? a=some (W.methodObj (.ref f) (.ref y)):=x;show h'.get? a=some (W.methodObj (.ref f) (.ref y));exact k a _ (.inl rfl) e
 |ext O=>obtain⟨p,⟨o,e⟩,st⟩:=x;exact⟨st _ _ p λ o q=>k _ _ (.inl rfl) q,⟨o,k _ _ (.inl rfl) e⟩,st⟩
theorem HOk.lt(x:HOk P w H h)(e:H a=some o):a<h.objs.size:=(x a o e).lt
theorem HOk.fresh(x:HOk P w H h)(e:h.objs.size<=a):H a=none:=by
 cases q:H a with
 |none=>rfl
 |some u=>exact absurd (qc9 (x.lt q) e) (qd8 _)
theorem HOk.kept(x:HOk P w H h)(k:∀b u,h.get? b=some u->h'.get? b=some u):HOk P w H h':=λ a o e=>
 (x a o e).stay (λ b u _ q=>k b u q) (λ _ q=>q) λ _ _ q=>q
theorem HOk.laid(x:HOk P w H h)(k:∀b u,h.get? b=some u->h'.get? b=some u)(n:h.objs.size<=a)(new:ObjOk P w (upd H a o) h' a o):HOk P w (upd H a o) h':=λ b u e=>by
 have i:=x.fresh n;by_cases j:b=a
 ·subst j;rw[Z0d]at e;cases e;exact new
 ·rw[Z0k j]at e;exact(x b u e).stay (λ c v _ q=>k c v q) (λ c q=>by rw[Z0k (Z0m q i)];exact q) λ c xs q=>by rw[Z0k (Z0m q i)];exact q
end
def Rd(H:Hp)(a:V0)(u:HO):Prop:=H a=some u\/∃o,H a=some (.frz o u)
theorem Rd.ok{P:Program}{w:Y3}{h:Z3}{u:HO}(r:Rd H a u)(x:HOk P w H h):ObjOk P w H h a u:=by
 rcases r with r|⟨o,r⟩
 ·exact x a u r
 ·obtain⟨_,q⟩:=x a _ r;exact q
def Mut:Option HO->Prop
 |some (.lst _)=>True
 |some (.dK _)=>True
 |some (.dT _)=>True
 |some (.set _ _)=>True
 |some (.ins _ _ _)=>True
 |some (.ext _)=>True
 |_=>False
section
variable{P:Program}{w:Y3}{H:Hp}{h h':Z3}{x e:V0}{o':HO}
theorem HOk.write(ok:HOk P w H h)(B:Mut (H x))(J:e=x\/H e=some (.own x))(k:∀b u,b≠e->h.get? b=some u->h'.get? b=some u)(I:∃u,h'.get? e=some u)(new:ObjOk P w (upd H x o') h' x o'):HOk P w (upd H x o') h':=λ b u q=>by
 have j:∀c y,H c=some (.own y)->c≠x:=λ c y r z=>by subst z;rw[r]at B;exact B
 have n:∀c xs,H c=some (.tup xs)->c≠x:=λ c xs r z=>by subst z;rw[r]at B;exact B
 by_cases D:b=x
 ·subst D;rw[Z0d]at q;cases q;exact new
 ·rw[Z0k D]at q;by_cases i:b=e
  ·have L:H b=some (.own x):=by
    rcases J with z|z
    ·exact absurd (i.trans z) D
    ·rw[i];exact z
   rw[q]at L;cases L;obtain⟨v,M⟩:=I;exact⟨v,by rw[i];exact M⟩
  ·refine(ok b u q).stay (λ c v G r=>k c v ?_ r) (λ c r=>by rw[Z0k (j c b r)];exact r) λ c xs r=>by rw[Z0k (n c xs r)];exact r
   rcases G with rfl|G
   ·exact i
   ·rintro rfl;rcases J with z|z
    ·exact j c b G z
    ·rw[G]at z;cases z;exact D rfl
end
structure Un(fs ex:List V0)(H H':Hp)(h h':Z3):Prop where
 keep:∀b o,h.get? b=some o->H b=none->b∉fs->b∉ex->h'.get? b=some o
 slot:∀b o,h.get? b=some o->H b=none->b∈fs->b∉ex->∃sl,h'.get? b=some {o with slots:=sl}
 free:∀b o,h.get? b=some o->H b=none->b∉ex->H' b=none
 there:∀b o,h.get? b=some o->b∉ex->∃o',h'.get? b=some o'
 tups:∀b xs,H b=some (.tup xs)->H' b=some (.tup xs)
 frzs:∀b o u,H b=some (.frz o u)->H' b=some (.frz o u)
 tbls:∀b ps,H b=some (.tbl ps)->∃more,H' b=some (.tbl (ps++more))
section
variable{fs fs' ex ex':List V0}{H H1 H2:Hp}{h h1 h2 h':Z3}{a x e:V0}{o:HO}
theorem Un.any(u:Un fs ex H H1 h h1){i:Obj}(q:h.get? b=some i)(n:H b=none)(j:b∉ex):∃z,h1.get? b=some {i with slots:=z}:=by
 by_cases y:b∈fs
 ·exact u.slot b i q n y j
 ·exact⟨i.slots,u.keep b i q n y j⟩
theorem Un.kept(k:∀b u,h.get? b=some u->h'.get? b=some u):Un fs ex H H h h':=
 ⟨λ b i q _ _ _=>k b i q,λ b i q _ _ _=>⟨i.slots,k b i q⟩,λ _ _ _ n _=>n,λ b i q _=>⟨i,k b i q⟩,λ _ _ q=>q,λ _ _ _ q=>q,λ _ ps q=>⟨#[],by rw[q];simp⟩⟩
theorem Un.refl:Un fs ex H H h h:=Un.kept λ _ _ q=>q
theorem Un.laid(k:∀b u,h.get? b=some u->h'.get? b=some u)(j:h.objs.size<=a)(i:H a=none):Un fs ex H (upd H a o) h h' where
 keep:=λ b u q _ _ _=>k b u q
 slot:=λ b u q _ _ _=>⟨u.slots,k b u q⟩
 free:=λ b u q n _=>by rw[Z0k (qb3 (qc9 (Heap.lt_size q) j))];exact n
 there:=λ b u q _=>⟨u,k b u q⟩
 tups:=λ b xs q=>by rw[Z0k (Z0m q i)];exact q
 frzs:=λ b u xs q=>by rw[Z0k (Z0m q i)];exact q
 tbls:=λ b ps q=>⟨#[],by rw[Z0k (Z0m q i),q];simp⟩
theorem Un.write(j:Mut (H x))(I:e=x\/H e=some (.own x))(k:∀b u,b≠e->h.get? b=some u->h'.get? b=some u)(y:∃u,h'.get? e=some u):Un fs ex H (upd H x o) h h':=by
 have D:∀b,H b=none->b≠x:=λ b n z=>by subst z;rw[n]at j;exact j
 have G:∀b,H b=none->b≠e:=λ b n z=>by
  subst z;rcases I with r|r
  ·exact D b n r
  ·rw[n]at r;cases r
 have B:∀b u,H b=some u->¬Mut (some u)->b≠x:=λ b u q nm z=>by subst z;rw[q]at j;exact nm j
 refine⟨λ b u q n _ _=>k b u (G b n) q,λ b u q n _ _=>⟨u.slots,k b u (G b n) q⟩,λ b u q n _=>by rw[Z0k (D b n)];exact n,λ b u q _=>?_,
  λ b xs q=>by rw[Z0k (B b _ q λ z=>z)];exact q,λ b u xs q=>by rw[Z0k (B b _ q λ z=>z)];exact q,λ b ps q=>⟨#[],by rw[Z0k (B b _ q λ z=>z),q];simp⟩⟩
 by_cases i:b=e
 ·subst i;exact y
 ·exact⟨u,k b u i q⟩
end
def trk(h:Z3)(H:Hp):List V0:=(qe2 h.objs.size).filter λ a=>(H a).isSome
def hidT(h:Z3)(H:Hp):Z3:=W.hideAll h (trk h H)
theorem J1W(h:Z3)(H:Hp):(hidT h H).objs.size=h.objs.size:=W.hideAll_size _ _
theorem J3B{h:Z3}{o:Obj}(e:h.get? b=some o)(n:H b=none):(hidT h H).get? b=some o:=
 W.hideAll_get _ e λ i=>by
  have q:(H b).isSome=true:=(qe5.mp i).2;rw[n]at q;simp at q
theorem J5O{h:Z3}{o:Obj}(e:(hidT h H).get? b=some o):h.get? b=some o/\H b=none:=by
 have i:h.get? b=some o:=W.of_hideAll (trk h H) e;refine⟨i,?_⟩;cases q:H b with
 |none=>rfl
 |some x=>
  have j:b∈trk h H:=qe5.mpr ⟨qe9.mpr (Heap.lt_size i),by simp[q]⟩;have z:(hidT h H).get? b=none:=W.hideAll_none (trk h H) j;rw[z]at e;cases e
def J6w(g h:Z3)(L:V0):List (V0×Obj):=(qe2 h.objs.size).filterMap λ a=>if a=L\/(g.get? a).isSome=true then none else(h.get? a).map λ o=>(a,o)
def rest(g h:Z3)(L d:V0):List (V0×Obj):=(J6w g h L).filter λ p=>decide (p.1≠d)
end L2
namespace L2
open PySem PySem.Spec PyProof.Rows
structure Mod(K:X0)(mg:M2->Option V1)(base:Z3):Prop where
 kin:K.In base
 glob:base.Ns mainGlobals mg
 blt:∃mb,base.Ns builtinsNs mb/\∀x:M2,x≠"__name__"->mb x=bootBuiltins x
 nolimit:base.NoLimit
structure Cx where
 prog:Program
 w:Y3
 K:X0
 mg:M2->Option V1
 base:Z3
 A:M3
 N:List M2
 s₀:M1
 H₀:Hp
 env:Env
 outer:List Env
 stack:List Env
 ex:List V0
 fn:M2->Bool
 calm:Bool
 pn:List (V0×Obj)
 xe:V1->M1->Prop
def frs(l:List Env):List V0:=l.filterMap (·.frame)
abbrev Cx.fs(X:Cx):List V0:=frs X.outer
def Vis(sc:Scope)(x:M2):Prop:=sc.names.lookup x=some .local\/sc.names.lookup x=some .cell\/sc.names.lookup x=some .free
def Loc(sc:Scope)(x:M2):Prop:=sc.names.lookup x=some .local\/sc.names.lookup x=some .cell
def Look(env:Env)(h:Z3)(m:M2->Option V1)(x:M2)(u:V1):Prop:=
 (env.kindOf x=some .local/\m x=some u)\/((env.kindOf x=some .cell\/env.kindOf x=some .free)/\∃c,env.cells.lookup x=some c/\h.IsCell c (some u))
structure Cx.Ok(X:Cx):Prop where
 mod:Mod X.K X.mg X.base
 kind:X.env.scope.kind=.function
 glob:X.env.globals=mainGlobals
 blt:X.env.builtins=builtinsNs
 above:X.s₀.heap.objs.size<=X.env.locals
 inj:∀x y c,X.env.cells.lookup x=some c->X.env.cells.lookup y=some c->x=y
 has:∀x,(X.env.kindOf x=some .cell\/X.env.kindOf x=some .free)->∃c,X.env.cells.lookup x=some c
 cab:∀x c,X.fn x=true->X.env.cells.lookup x=some c->X.s₀.heap.objs.size<=c
 hd:X.calm=true->X.A.handled=none
 frames:X.A.frames=some X.stack
 stk:X.stack=X.outer\/(X.stack=X.env::X.outer/\X.env.frame=some X.env.locals)
 exf:∀b∈X.ex,b≠X.env.locals/\∀x c,X.env.cells.lookup x=some c->c≠b
 bs:∀b o,X.base.get? b=some o->X.s₀.heap.get? b=some o/\X.H₀ b=none
 bsz:X.base.objs.size<=X.s₀.heap.objs.size
 noex:∀b o,X.base.get? b=some o->b∉X.ex
 exfs:∀b∈X.ex,b∉X.fs
 funs:X.s₀.heap.FunFrames X.base X.outer
 frf:∀b∈X.fs,X.H₀ b=none
structure Inv(X:Cx)(pins:List (V0×Obj))(σ:List (Option V))(H:Hp)(s:M1):Prop where
 ok:X.Ok
 os:s.os=X.s₀.os
 bare:AllBare s.gens
 base:Un X.fs X.ex X.H₀ H X.s₀.heap s.heap
 loc:∃m,s.heap.Ns X.env.locals m/\∀(i:Nat)(x:M2)(v:V),X.N[i]?=some x->σ[i]?=some (some v)->Vis X.env.scope x->∃u,RelV v u/\Look X.env s.heap m x u
 cell:∀x c,X.env.cells.lookup x=some c->∃v,s.heap.IsCell c v
 free:H X.env.locals=none
 freeC:∀x c,X.env.cells.lookup x=some c->H c=none
 pin:∀p∈X.pn++pins,s.heap.get? p.1=some p.2/\H p.1=none/\p.1≠X.env.locals/\p.1∉X.fs/\∀v,p.2.data≠.cell v
 hok:HOk X.prog X.w H s.heap
 len:σ.length=X.N.length
section
variable{X:Cx}{pins:List (V0×Obj)}{σ:List (Option V)}{H H':Hp}{s:M1}{h':Z3}
theorem Cx.Ok.nofr(ok:X.Ok){b:V0}{o:Obj}(e:X.base.get? b=some o):b∉X.fs:=λ i=>by
 have:=(ok.funs.mem i).1;rw[e]at this;cases this
theorem Inv.bs(I:Inv X pins σ H s):∀b o,X.base.get? b=some o->s.heap.get? b=some o/\H b=none:=λ b o e=>
 ⟨I.base.keep b o (I.ok.bs b o e).1 (I.ok.bs b o e).2 (I.ok.nofr e) (I.ok.noex b o e),I.base.free b o (I.ok.bs b o e).1 (I.ok.bs b o e).2 (I.ok.noex b o e)⟩
theorem Inv.bk(I:Inv X pins σ H s):∀b o,X.base.get? b=some o->s.heap.get? b=some o:=λ b o e=>(I.bs b o e).1
theorem Inv.mod(I:Inv X pins σ H s):Mod X.K X.mg X.base:=I.ok.mod
theorem Inv.kIn(I:Inv X pins σ H s):X.K.In s.heap:=I.ok.mod.kin.keeps I.bk
theorem Inv.lt(I:Inv X pins σ H s):X.env.locals<s.heap.objs.size:=let⟨_,i,_⟩:=I.loc;i.lt
theorem Inv.sz(I:Inv X pins σ H s):X.s₀.heap.objs.size<=s.heap.objs.size:=qa9 I.ok.above (qf3 I.lt)
theorem Inv.nofs(I:Inv X pins σ H s){a:V0}(h:s.heap.objs.size<=a):a∉X.fs:=λ i=>by
 obtain⟨_,o,j,_⟩:=I.ok.funs.mem i;exact absurd (qc9 (Heap.lt_size j) (qa9 I.sz h)) (qd8 _)
theorem Inv.cne(I:Inv X pins σ H s):∀x c,X.env.cells.lookup x=some c->c≠X.env.locals:=λ x c e z=>by
 obtain⟨v,o,n,hd⟩:=I.cell x c e;obtain⟨m,⟨o',es,q,i,j,_⟩,_⟩:=I.loc;rw[z,i]at n;cases n;rw[j]at hd;cases hd
theorem Inv.funs(I:Inv X pins σ H s):s.heap.FunFrames X.base X.outer:=by
 have all:∀(l:List Env),(∀b∈frs l,b∈X.fs)->X.s₀.heap.FunFrames X.base l->s.heap.FunFrames X.base l:=by
  intro l;induction l with
  |nil=>intro _ _;trivial
  |cons q r y=>
   intro hs hl;obtain⟨B,⟨L,o,i,D,G,hd⟩,hr⟩:=hl;have j:L∈X.fs:=hs L (by unfold frs;rw[qi0,i];exact qc2);obtain⟨J,e⟩:=I.base.slot L o G (I.ok.frf L j) j λ z=>I.ok.exfs L z j;exact⟨B,⟨L,_,i,D,e,hd⟩,y (λ b n=>hs b (by unfold frs;rw[qi0,i];exact qc4 _ n)) hr⟩
 exact all X.outer (λ _ n=>n) I.ok.funs
theorem Inv.stack(I:Inv X pins σ H s):s.heap.FunFrames X.base X.stack:=by
 rcases I.ok.stk with e|⟨e,i⟩
 ·rw[e];exact I.funs
 ·rw[e];obtain⟨m,j,_⟩:=I.loc;refine .cons (by rw[I.ok.kind];decide) i j ?_ I.funs;exact Heap.get?_none_of_le (qa9 I.ok.bsz I.ok.above)
theorem Inv.stkSub(I:Inv X pins σ H s):∀b∈frs X.stack,b∈X.env.locals::X.fs:=λ b i=>by
 rcases I.ok.stk with e|⟨e,j⟩
 ·rw[e]at i;exact qc4 _ i
 ·rw[e]at i;unfold frs at i;rw[qi0,j]at i;exact i
theorem Inv.stkFree(I:Inv X pins σ H s):∀b∈frs X.stack,H b=none:=λ b i=>by
 rcases qa4.mp (I.stkSub b i)with e|i
 ·rw[e];exact I.free
 ·obtain⟨_,o,j,_⟩:=I.ok.funs.mem i;exact I.base.free b o j (I.ok.frf b i) λ z=>I.ok.exfs b z i
theorem Inv.step{g':Array GenState}{t':Nat}{d':Drawn}{ch:List V0}(I:Inv X pins σ H s)(y:∀b∈ch,(b∈X.ex\/X.s₀.heap.objs.size<=b)/\b≠X.env.locals/\(∀x c,X.env.cells.lookup x=some c->c≠b)/\∀p∈X.pn++pins,p.1≠b)(B:∀b o,b≠X.env.locals->b∉X.fs->b∉ch->s.heap.get? b=some o->H b=none->h'.get? b=some o)(M:∀b o,b≠X.env.locals->b∈X.fs->b∉ch->s.heap.get? b=some o->H b=none->∃sl,h'.get? b=some {o with slots:=sl})(free:∀b o,b∉ch->s.heap.get? b=some o->H b=none->H' b=none)(there:∀b o,b∉ch->s.heap.get? b=some o->∃o',h'.get? b=some o')(R:∀b xs,H b=some (.tup xs)->H' b=some (.tup xs))(S:∀b o u,H b=some (.frz o u)->H' b=some (.frz o u))(U:∀b ps,H b=some (.tbl ps)->∃more,H' b=some (.tbl (ps++more)))(ns:∀m,s.heap.Ns X.env.locals m->h'.Ns X.env.locals m)(a0:HOk X.prog X.w H' h')(hg:AllBare g'):Inv X pins σ H' {s with heap:=h',gens:=g',drawn:=d',toks:=t'}:=by
 have Y:∀b o,X.s₀.heap.get? b=some o->b≠X.env.locals:=λ b o e=>qb3 (qc9 (Heap.lt_size e) I.ok.above);have J:∀b o,X.s₀.heap.get? b=some o->b∉X.ex->b∉ch:=λ b o e j N=>by
  rcases(y b N).1 with z|z
  ·exact j z
  ·exact absurd (qc9 (Heap.lt_size e) z) (qd8 _)
 have D:∀x c,X.env.cells.lookup x=some c->∀v,s.heap.IsCell c v->h'.IsCell c v:=λ x c e v ⟨o,O,hd⟩=>by
  have G:c∉ch:=λ z=>(y c z).2.2.1 x c e rfl;by_cases hc:c∈X.fs
  ·obtain⟨sl,q⟩:=M c o (I.cne x c e) hc G O (I.freeC x c e);exact⟨_,q,hd⟩
  ·exact⟨o,B c o (I.cne x c e) hc G O (I.freeC x c e),hd⟩
 refine⟨I.ok,I.os,hg,⟨λ b o e n N j=>?_,λ b o e n N j=>?_,λ b o e n j=>?_,λ b o e j=>?_,λ b xs e=>R b xs (I.base.tups b xs e),λ b o xs e=>S b o xs (I.base.frzs b o xs e),λ b ps e=>?_⟩,?_,λ x c e=>?_,?_,λ x c e=>?_,λ p hp=>?_,a0,I.len⟩
 ·exact B b o (Y b o e) N (J b o e j) (I.base.keep b o e n N j) (I.base.free b o e n j)
 ·obtain⟨sl,L⟩:=I.base.slot b o e n N j;obtain⟨b0,Z⟩:=M b _ (Y b o e) N (J b o e j) L (I.base.free b o e n j);exact⟨b0,Z⟩
 ·obtain⟨o',L⟩:=I.base.there b o e j;exact free b o' (J b o e j) L (I.base.free b o e n j)
 ·obtain⟨o',L⟩:=I.base.there b o e j;exact there b o' (J b o e j) L
 ·obtain⟨m1,L⟩:=I.base.tbls b ps e;obtain⟨m2,Z⟩:=U b _ L;exact⟨m1++m2,by rw[Z,Array.append_assoc]⟩
 ·obtain⟨m,hn,hl⟩:=I.loc;refine⟨m,ns m hn,λ i x v L Z e3=>?_⟩;obtain⟨u,r,l⟩:=hl i x v L Z e3;refine⟨u,r,?_⟩;rcases l with l|⟨k,c,e,z⟩
  ·exact .inl l
  ·exact .inr ⟨k,c,e,D x c e _ z⟩
 ·obtain⟨v,z⟩:=I.cell x c e;exact⟨v,D x c e v z⟩
 ·obtain⟨m,⟨o,_,_,O,_⟩,_⟩:=I.loc;exact free _ o (λ z=>(y _ z).2.1 rfl) O I.free
 ·obtain⟨v,o,O,hd⟩:=I.cell x c e;exact free c o (λ z=>(y c z).2.2.1 x c e rfl) O (I.freeC x c e)
 ·obtain⟨e,n,ne,nf,d⟩:=I.pin p hp;have G:p.1∉ch:=λ z=>(y p.1 z).2.2.2 p hp rfl;exact⟨B p.1 p.2 ne nf G e n,free p.1 p.2 G e n,ne,nf,d⟩
theorem Inv.un{t':Nat}(I:Inv X pins σ H s)(u:Un X.fs [] H H' s.heap h')(j:HOk X.prog X.w H' h'):Inv X pins σ H' {s with heap:=h',toks:=t'}:=by
 obtain⟨m,⟨o,es,M,D,r⟩,_⟩:=id I.loc;obtain⟨N,G⟩:=u.any D I.free (by simp);exact I.step (g':=s.gens) (d':=s.drawn) (ch:=[]) (λ _ z=>nomatch z) (λ b o _ q _ e n=>u.keep b o e n q (by simp)) (λ b o _ q _ e n=>u.slot b o e n q (by simp)) (λ b o _ e n=>u.free b o e n (by simp)) (λ b o _ e=>u.there b o e (by simp)) u.tups u.frzs u.tbls (λ O J=>by
  obtain⟨o',y,B,i,L⟩:=J;rw[D]at i;cases i;exact⟨_,y,B,G,L⟩) j I.bare
theorem Inv.call{g':Array GenState}{t':Nat}{d':Drawn}{ch:List V0}(I:Inv X pins σ H s)(u:Un (frs X.stack) ch H H' s.heap h')(y:HOk X.prog X.w H' h')(L:AllBare g')(j:∀b∈ch,(b∈X.ex\/X.s₀.heap.objs.size<=b)/\b≠X.env.locals/\(∀x c,X.env.cells.lookup x=some c->c≠b)/\∀p∈X.pn++pins,p.1≠b):Inv X pins σ H' {s with heap:=h',gens:=g',drawn:=d',toks:=t'}:=by
 obtain⟨m,⟨o,es,R,J,r⟩,_⟩:=id I.loc;obtain⟨S,B⟩:=u.any J I.free λ z=>(j _ z).2.1 rfl;exact I.step (ch:=ch) j (λ b o B M i e n=>u.keep b o e n (λ z=>(qa4.mp (I.stkSub b z)).elim B M) i) (λ b o _ _ i e n=>u.any e n i) (λ b o i e n=>u.free b o e n i) (λ b o i e=>u.there b o e i) u.tups u.frzs u.tbls (λ U N=>by
  obtain⟨o',D,G,q,O⟩:=N;rw[J]at q;cases q;exact⟨_,D,G,B,O⟩) y L
theorem Inv.turned{t':Nat}{it:V0}(I:Inv X pins σ H s)(k:∀b o,b≠it->s.heap.get? b=some o->h'.get? b=some o)(B:H it=none)(y:it≠X.env.locals)(h1:it∈X.ex\/X.s₀.heap.objs.size<=it)(h2:∀x c,X.env.cells.lookup x=some c->c≠it)(D:∀p∈X.pn++pins,p.1≠it):Inv X pins σ H {s with heap:=h',toks:=t'}:=by
 have j:∀b u,H b=some u->b≠it:=λ b u e z=>by rw[z,B]at e;cases e
 refine I.step (g':=s.gens) (d':=s.drawn) (ch:=[it]) (λ b G=>?_) (λ b o _ _ i e _=>k b o (λ z=>i (by simp [z])) e) (λ b o _ _ i e _=>⟨o.slots,k b o (λ z=>i (by simp [z])) e⟩) (λ _ _ _ _ n=>n)
  (λ b o i e=>⟨o,k b o (λ z=>i (by simp[z])) e⟩) (λ _ _ e=>e) (λ _ _ _ e=>e) (λ b ps e=>⟨#[],by rw[e];simp⟩) (λ m J=>?_) (λ b u e=>?_) I.bare
 ·have e:b=it:=by simpa using G
  subst e;exact⟨h1,y,h2,D⟩
 ·obtain⟨o,es,L,M,r⟩:=J;exact⟨o,es,L,k _ o (Ne.symm y) M,r⟩
 ·refine(I.hok b u e).stay (λ c v i q=>k c v ?_ q) (λ _ q=>q) λ _ _ q=>q;rcases i with z|z
  ·rw[z];exact j b u e
  ·exact j c _ z
theorem Inv.tok(I:Inv X pins σ H s)(t:Nat):Inv X pins σ H {s with toks:=t}:=I.un (h':=s.heap) (t':=t) Un.refl I.hok
theorem Inv.kept{t':Nat}(I:Inv X pins σ H s)(k:∀b u,s.heap.get? b=some u->h'.get? b=some u):Inv X pins σ H {s with heap:=h',toks:=t'}:=I.un (Un.kept k) (I.hok.kept k)
theorem Inv.laid{a:V0}{o:HO}{t':Nat}(I:Inv X pins σ H s)(k:∀b u,s.heap.get? b=some u->h'.get? b=some u)(i:s.heap.objs.size<=a)(new:ObjOk X.prog X.w (upd H a o) h' a o):Inv X pins σ (upd H a o) {s with heap:=h',toks:=t'}:=I.un (Un.laid k i (I.hok.fresh i)) (I.hok.laid k i new)
theorem Inv.write{x e:V0}{o:HO}{t':Nat}(I:Inv X pins σ H s)(j:Mut (H x))(n:e=x\/H e=some (.own x))(k:∀b u,b≠e->s.heap.get? b=some u->h'.get? b=some u)(i:∃u,h'.get? e=some u)(new:ObjOk X.prog X.w (upd H x o) h' x o):Inv X pins σ (upd H x o) {s with heap:=h',toks:=t'}:=I.un (Un.write j n k i) (I.hok.write j n k i new)
theorem Inv.pins_of{i:List (V0×Obj)}(I:Inv X pins σ H s)(h:∀p∈i,s.heap.get? p.1=some p.2/\H p.1=none/\p.1≠X.env.locals/\p.1∉X.fs/\∀v,p.2.data≠.cell v):Inv X i σ H s:=
 ⟨I.ok,I.os,I.bare,I.base,I.loc,I.cell,I.free,I.freeC,λ p j=>(qa7.mp j).elim (λ z=>I.pin p (ql6 _ z)) (h p),I.hok,I.len⟩
theorem Z9i{N:List M2}(n:N.Nodup){i j:Nat}{x:M2}(a:N[i]?=some x)(b:N[j]?=some x):i=j:=by
 obtain⟨h1,q⟩:=qa6.mp a;obtain⟨h2,y⟩:=qa6.mp b;exact(List.getElem_inj n).mp (q.trans y.symm)
theorem Z7j{M:Model}{A:M3}{E:V1->M1->Prop}{i:Nat}{x:M2}{v:V}{u:V1}{Q:Unit->M1->Prop}(I:Inv X pins σ H s)(hN:X.N.Nodup)(hi:X.N[i]?=some x)(J:Loc X.env.scope x)(r:RelV v u)(h:∀s',Inv X pins (σ.set i (some v)) H s'->(∃a,Heap.SameBut a s.heap s'.heap/\(a=X.env.locals\/X.env.cells.lookup x=some a))->Q () s')(hf:X.fn x=true\/X.env.scope.names.lookup x=some .local:=by first|exact .inl rfl|exact .inr rfl|assumption):wpAny M A (storeName X.env x u) Q E s:=by
 obtain⟨m,hn,hl⟩:=id I.loc;have Z:(X.env.scope.kind==.class||(X.env.scope.kind==.module&&X.env.locals !=X.env.globals))=false:=by rw[I.ok.kind];rfl
 have O:i<σ.length:=by rw[I.len];exact(qa6.mp hi).1
 have cne:=I.cne;have B:∀{a:V0}{h':Z3},(∃o,s.heap.get? a=some o/\H a=none)->Heap.SameBut a s.heap h'->HOk X.prog X.w H h':=λ{a h'} ha hs b ob e=>by
  obtain⟨_,_,L⟩:=ha;refine(I.hok b ob e).stay (λ c w' G q=>(hs.2 c ?_).trans q) (λ _ q=>q) λ _ _ q=>q;rintro rfl;rcases G with rfl|G
  ·rw[L]at e;cases e
  ·rw[L]at G;cases G
 rcases J with R|R
 ·refine wpAny_storeName_local R hn (λ h' f0 hs=>?_) Z;obtain⟨oL,_,_,g0,_⟩:=id hn;refine h _ ⟨I.ok,I.os,I.bare,⟨λ b o e n S J=>?_,λ b o e n S J=>?_,I.base.free,λ b o e J=>?_,I.base.tups,I.base.frzs,I.base.tbls⟩,⟨_,f0,λ j y v' D N e3=>?_⟩,λ y c e=>?_,I.free,I.freeC,λ p hp=>?_,B ⟨oL,g0,I.free⟩ hs,by simpa using I.len⟩ ⟨_,hs,.inl rfl⟩
  ·exact(hs.2 b (qb3 (qc9 (Heap.lt_size e) I.ok.above))).trans (I.base.keep b o e n S J)
  ·obtain⟨sl,D⟩:=I.base.slot b o e n S J;exact⟨sl,(hs.2 b (qb3 (qc9 (Heap.lt_size e) I.ok.above))).trans D⟩
  ·obtain⟨o',D⟩:=I.base.there b o e J;exact⟨o',(hs.2 b (qb3 (qc9 (Heap.lt_size e) I.ok.above))).trans D⟩
  ·by_cases U:j=i
   ·subst U;rw[hi]at D;cases D;rw[List.getElem?_set_self O]at N;cases N;exact⟨u,r,.inl ⟨R,by simp⟩⟩
   ·rw[List.getElem?_set_ne (Ne.symm U)]at N;obtain⟨u',r',q⟩:=hl j y v' D N e3;refine⟨u',r',?_⟩;rcases q with⟨k,e⟩|⟨k,c,e,z⟩
    ·refine .inl ⟨k,?_⟩;have:y≠x:=λ e=>U (Z9i hN D (e▸hi));simp[this,e]
    ·exact .inr ⟨k,c,e,z.sameBut hs (cne y c e)⟩
  ·obtain⟨w',z⟩:=I.cell y c e;exact⟨w',z.sameBut hs (cne y c e)⟩
  ·obtain⟨e,n,ne,nf,d⟩:=I.pin p hp;exact⟨(hs.2 p.1 ne).trans e,n,ne,nf,d⟩
 ·have Y:X.fn x=true:=by
   rcases hf with z|z
   ·exact z
   ·rw[z]at R;cases R
  obtain⟨c,G⟩:=I.ok.has x (.inl R);obtain⟨w',z⟩:=I.cell x c G;refine wpAny_storeName_cell I.ok.kind R G z (λ h' a0 hs=>?_);obtain⟨oc,b0,d0⟩:=id z;refine h {s with heap:=h'} ⟨I.ok,I.os,I.bare,⟨λ b o e n S J=>?_,λ b o e n S J=>?_,I.base.free,λ b o e J=>?_,I.base.tups,I.base.frzs,I.base.tbls⟩,⟨m,hn.sameBut hs (Ne.symm (cne x c G)),λ j y v' D N e3=>?_⟩,λ y c' e=>?_,I.free,I.freeC,λ p hp=>?_,B ⟨oc,b0,I.freeC x c G⟩ hs,by simpa using I.len⟩ ⟨c,hs,.inr G⟩
  ·exact(hs.2 b (qb3 (qc9 (Heap.lt_size e) (I.ok.cab x c Y G)))).trans (I.base.keep b o e n S J)
  ·obtain⟨sl,D⟩:=I.base.slot b o e n S J;exact⟨sl,(hs.2 b (qb3 (qc9 (Heap.lt_size e) (I.ok.cab x c Y G)))).trans D⟩
  ·obtain⟨o',D⟩:=I.base.there b o e J;exact⟨o',(hs.2 b (qb3 (qc9 (Heap.lt_size e) (I.ok.cab x c Y G)))).trans D⟩
  ·by_cases U:j=i
   ·subst U;rw[hi]at D;cases D;rw[List.getElem?_set_self O]at N;cases N;exact⟨u,r,.inr ⟨.inl R,c,G,a0⟩⟩
   ·rw[List.getElem?_set_ne (Ne.symm U)]at N;obtain⟨u',r',q⟩:=hl j y v' D N e3;refine⟨u',r',?_⟩;rcases q with q|⟨k,c',e,z'⟩
    ·exact .inl q
    ·refine .inr ⟨k,c',e,z'.sameBut hs ?_⟩;rintro rfl;exact U (Z9i hN D (I.ok.inj _ _ _ e G▸hi))
  ·by_cases e0:c'=c
   ·subst e0;exact⟨_,a0⟩
   ·obtain⟨w2,z2⟩:=I.cell y c' e;exact⟨w2,z2.sameBut hs e0⟩
  ·obtain⟨e,n,ne,nf,d⟩:=I.pin p hp;refine⟨(hs.2 p.1 ?_).trans e,n,ne,nf,d⟩;intro q;rw[q,b0]at e;have q':oc=p.2:=qc6 e;exact d w' (by rw[<-q'];exact d0)
theorem Z2p{M:Model}{A:M3}{E:V1->M1->Prop}{i:Nat}{x:M2}{v:V}{u:V1}{Q:Unit->M1->Prop}(I:Inv X pins σ H s)(j:X.N.Nodup)(hi:X.N[i]?=some x)(n:Loc X.env.scope x)(r:RelV v u)(h:∀s',Inv X pins (σ.set i (some v)) H s'->Q () s')(q:X.fn x=true\/X.env.scope.names.lookup x=some .local:=by first|exact .inl rfl|exact .inr rfl|assumption):wpAny M A (storeName X.env x u) Q E s:=
 Z7j I j hi n r (λ s' y _=>h s' y) q
end
abbrev XK:=V1->Option V0->Hp->Prop
abbrev St:=List (Option V)
abbrev VK:=V->Hp->Prop
abbrev TE:=St->Hp->VK->Prop
abbrev TT:=St->Hp->(Bool->Hp->Prop)->Prop
abbrev TA:=St->Hp->(List V->Hp->Prop)->Prop
structure Ends where
 nx:St->Hp->Prop
 rt:VK
 bk:St->Hp->Prop:=λ _ _=>False
 ct:St->Hp->Prop:=λ _ _=>False
abbrev TS:=Ends->St->Hp->Prop
def EP(X:Cx)(pins:List (V0×Obj))(σ:St)(Q:VK)(u:V1)(s':M1):Prop:=∃v H',Inv X pins σ H' s'/\RelV v u/\Q v H'
def TP(X:Cx)(pins:List (V0×Obj))(σ:St)(Q:Bool->Hp->Prop)(b:Bool)(s':M1):Prop:=∃H',Inv X pins σ H' s'/\Q b H'
def AP(X:Cx)(pins:List (V0×Obj))(σ:St)(Q:List V->Hp->Prop)(us:List V1)(s':M1):Prop:=∃vs H',Inv X pins σ H' s'/\Vals vs us/\Q vs H'
def SP(X:Cx)(pins:List (V0×Obj))(D:Ends)(f:Flow)(s':M1):Prop:=
 match f with
 | .next=>∃i H',Inv X pins i H' s'/\D.nx i H'
 | .brk=>∃i H',Inv X pins i H' s'/\D.bk i H'
 | .cont=>∃i H',Inv X pins i H' s'/\D.ct i H'
 | .ret u=>∃v i H',Inv X pins i H' s'/\RelV v u/\D.rt v H'
def PE(X:Cx)(e:Expr)(t:TE):Prop:=
 ∀(pins:List (V0×Obj))(s:M1)(σ:St)(H:Hp)(Q:VK),Inv X pins σ H s->t σ H Q->wpAny (model X.prog X.w) X.A (eval e X.env) (EP X pins σ Q) X.xe s
def PT(X:Cx)(e:Expr)(t:TT):Prop:=
 ∀(pins:List (V0×Obj))(s:M1)(σ:St)(H:Hp)(Q:Bool->Hp->Prop),Inv X pins σ H s->t σ H Q->wpAny (model X.prog X.w) X.A (isTrue e X.env (eval e X.env)) (TP X pins σ Q) X.xe s
def PW(X:Cx)(e:Expr)(t:TT):Prop:=
 ∀(i:Sem V1)(pins:List (V0×Obj))(s:M1)(σ:St)(H:Hp)(Q:Bool->Hp->Prop),Inv X pins σ H s->t σ H Q->wpAny (model X.prog X.w) X.A (isTrue e X.env i) (TP X pins σ Q) X.xe s
theorem PW.pt{X:Cx}{e:Expr}{t:TT}(h:PW X e t):PT X e t:=h _
def PA(X:Cx)(es:List Expr)(t:TA):Prop:=
 ∀(pos:Pos)(pins:List (V0×Obj))(s:M1)(σ:St)(H:Hp)(Q:List V->Hp->Prop),Inv X pins σ H s->t σ H Q->wpAny (model X.prog X.w) X.A (spliced (backTo pos (starEach es X.env))) (AP X pins σ Q) X.xe s
def PS(X:Cx)(st:Stmt)(t:TS):Prop:=
 ∀(pins:List (V0×Obj))(s:M1)(σ:St)(H:Hp)(D:Ends),Inv X pins σ H s->t D σ H->wpAny (model X.prog X.w) X.A (exec st X.env) (SP X pins D) X.xe s
def PSs(X:Cx)(st:List Stmt)(t:TS):Prop:=
 ∀(pins:List (V0×Obj))(s:M1)(σ:St)(H:Hp)(D:Ends),Inv X pins σ H s->t D σ H->wpAny (model X.prog X.w) X.A (execs st X.env) (SP X pins D) X.xe s
theorem thn{i:Type}{t:Sem i}{Q Q':i->M1->Prop}{M:Model}{A:M3}{E:V1->M1->Prop}{s:M1}(h:wpAny M A t Q E s)(j:∀a s,Q a s->Q' a s):wpAny M A t Q' E s:=wpAny_mono h j λ _ _ x=>x
end L2
namespace L2
open PySem PySem.Spec PyProof.Rows
section
variable{X:Cx}
theorem bin{a b:Expr}{ta tb:TE}(z:PE X a ta)(B:PE X b tb){pins:List (V0×Obj)}{s:M1}{σ:St}{H:Hp}{R:V->V->Hp->Prop}(I:Inv X pins σ H s)(h:ta σ H λ x H1=>tb σ H1 λ y H2=>R x y H2){q:Type}{Q:q->M1->Prop}{f:V1->V1->Sem q}(D:∀v u n x y H2,Inv X pins σ H2 n->RelV x v->RelV y u->R x y H2->wpAny (model X.prog X.w) X.A (f v u) Q X.xe n):wpAny (model X.prog X.w) X.A (eval a X.env) (λ v i=>wpAny (model X.prog X.w) X.A (eval b X.env) (λ u j=>wpAny (model X.prog X.w) X.A (f v u) Q X.xe j) X.xe i) X.xe s:=by
 refine thn (z pins s σ H _ I h) λ v G ⟨x,H1,J,r1,L⟩=>?_;refine thn (B pins G σ H1 _ J L) λ u n ⟨y,H2,M,r2,N⟩=>?_;exact D v u n x y H2 M r1 r2 N
def tVar(i:Nat):TE:=λ σ H Q=>∃v,σ[i]?=some (some v)/\Q v H
def tC(v:V):TE:=λ _ H Q=>Q v H
theorem J7X{i:Nat}{x:M2}{pos:Pos}(z:X.N[i]?=some x)(B:Vis X.env.scope x)(hd:(x==("__debug__":M2))=false:=by decide)(q:(x==("__classdict__":M2))=false:=by decide):PE X (.Name x pos) (tVar i):=by
 intro pins s σ H Q I h;obtain⟨v,e,h⟩:=h;obtain⟨m,D,hl⟩:=I.loc;obtain⟨u,r,l⟩:=hl i x v z e B;have fin:EP X pins σ Q u s:=⟨v,H,I,r,h⟩;rcases l with⟨n,G⟩|⟨n,c,y,j⟩
 ·exact wpAny_Name (wpAny_loadName_local I.ok.kind n D G fin) hd
 ·rcases n with n|n
  ·exact wpAny_Name (wpAny_loadName_cell I.ok.kind n y j fin) hd
  ·exact wpAny_Name (wpAny_loadName_free I.ok.kind n y j fin q) hd
theorem Z0f{i j pos}:PE X (.Constant (.int i) j pos) (tC (.int i)):=λ _ _ _ H _ I h=>wpAny_Constant_int ⟨.int i,H,I.tok _,⟨_,rfl⟩,h⟩
theorem J6q{b j pos}:PE X (.Constant (.bool b) j pos) (tC (.bl b)):=λ _ _ _ H _ I h=>Constant_bool ⟨.bl b,H,I,rfl,h⟩
theorem Z0T{j pos}:PE X (.Constant .none j pos) (tC .non):=λ _ _ _ H _ I h=>Constant_none ⟨.non,H,I,rfl,h⟩
theorem Z0b{x j pos}:PE X (.Constant (.str x) j pos) (tC (.str x)):=λ _ _ _ H _ I h=>Calls.Constant_str ⟨.str x,H,I.tok _,⟨_,rfl⟩,h⟩
def Gl(X:Cx)(x:M2):Prop:=X.env.kindOf x=some .globalImplicit
theorem Z8q{E:V1->M1->Prop}{pins:List (V0×Obj)}{s:M1}{σ:St}{H:Hp}{x:M2}{u:V1}{pos:Pos}{Q:V1->M1->Prop}(I:Inv X pins σ H s)(i:Gl X x)(j:X.mg x=some u)(h:Q u s)(hd:(x==("__debug__":M2))=false:=by decide):wpAny (model X.prog X.w) X.A (eval (.Name x pos) X.env) Q E s:=
 Calls.Name_function_global I.ok.kind i (Calls.loadGlobal_global (by rw[I.ok.glob];exact I.mod.glob.keeps I.bk) j h) hd
theorem Z3I{E:V1->M1->Prop}{pins:List (V0×Obj)}{s:M1}{σ:St}{H:Hp}{x:M2}{u:V1}{pos:Pos}{Q:V1->M1->Prop}(I:Inv X pins σ H s)(i:Gl X x)(j:X.mg x=none)(n:bootBuiltins x=some u)(h:Q u s)(q:x≠"__name__":=by decide)(hd:(x==("__debug__":M2))=false:=by decide):wpAny (model X.prog X.w) X.A (eval (.Name x pos) X.env) Q E s:=by
 obtain⟨y,h1,h2⟩:=I.mod.blt;exact Calls.Name_function_global I.ok.kind i (Calls.loadGlobal_builtin (by rw[I.ok.glob];exact I.mod.glob.keeps I.bk) j (by rw[I.ok.blt];exact h1.keeps I.bk) ((h2 x q).trans n) h) hd
theorem J5p{x:M2}{v:V}{u:V1}{pos:Pos}(i:Gl X x)(j:X.mg x=some u)(r:RelV v u)(hd:(x==("__debug__":M2))=false:=by decide):PE X (.Name x pos) (tC v):=
 λ _ _ _ H _ I h=>Z8q I i j ⟨v,H,I,r,h⟩ hd
theorem J5X{x:M2}{v:V}{u:V1}{pos:Pos}(i:Gl X x)(j:X.mg x=none)(n:bootBuiltins x=some u)(r:RelV v u)(q:x≠"__name__":=by decide)(hd:(x==("__debug__":M2))=false:=by decide):PE X (.Name x pos) (tC v):=
 λ _ _ _ H _ I h=>Z3I I i j n ⟨v,H,I,r,h⟩ q hd
variable{a b:Expr}{ta tb:TE}{pos:Pos}
def PC(X:Cx)(op:CmpOp)(a b:Expr)(t:TE):Prop:=
 ∀(pins:List (V0×Obj))(s:M1)(σ:St)(H:Hp)(Q:VK),Inv X pins σ H s->t σ H Q->
  wpAny (model X.prog X.w) X.A (eval a X.env) (λ v i=>wpAny (model X.prog X.w) X.A (eval b X.env) (λ u j=>wpAny (model X.prog X.w) X.A (compareOp op v u) (EP X pins σ Q) X.xe j) X.xe i) X.xe s
theorem J3D(b:Expr){op:CmpOp}(h:op≠.In)(h2:op≠.NotIn):behindInMarks op b=false:=by
 have i:(op==CmpOp.In)=false:=by cases op<;>first|rfl|exact absurd rfl h
 have j:(op==CmpOp.NotIn)=false:=by cases op<;>first|rfl|exact absurd rfl h2
 cases b<;>simp[behindInMarks,i,j]
def tB(t:TE):TT:=λ σ H Q=>t σ H λ x H1=>∃c,x=.bl c/\Q c H1
theorem J9Q{op:CmpOp}{t:TE}(h:PC X op a b t)(h1:behindInMarks op b=false:=by first|exact J3D _ qQ qQ|rfl):PT X (.Compare a [op] [b] pos) (tB t):=by
 intro pins s σ H Q I i;refine wpAny_isTrue_Compare1 (thn (h pins s σ H _ I i) λ v y h1=>thn h1 λ u z h2=>thn h2 λ c B ⟨x,H1,j,r1,n⟩=>?_) h1;obtain⟨d,rfl,q⟩:=n;cases r1;exact wpAny_truthy_bool ⟨H1,j,q⟩
theorem Z4G{e:Expr}{t:TE}(h:PE X e t)(j:∀i,isTrue e X.env i=(do let v<-i;standAt e.pos;holding [v] (truthy v)):=by intro _;rfl):PT X e (tB t):=by
 intro pins s σ H Q I n;refine isTrue_plain (thn (h pins s σ H _ I n) λ v B ⟨x,H1,y,r1,z⟩=>?_) (j _);obtain⟨d,rfl,q⟩:=z;cases r1;exact wpAny_truthy_bool ⟨H1,y,q⟩
variable{tA tB':TT}{rest:List Expr}
def tAnd(t u:TT):TT:=λ σ H Q=>t σ H λ c H1=>if c=true then u σ H1 Q else Q false H1
def tOr(t u:TT):TT:=λ σ H Q=>t σ H λ c H1=>if c=true then Q true H1 else u σ H1 Q
def tNot(t:TT):TT:=λ σ H Q=>t σ H λ c H1=>Q (!c) H1
theorem Z3a(i:PT X a tA):PW X (.BoolOp .And [a] pos) tA:=by
 intro j pins s σ H Q I h;refine isTrue_and (thn (i pins s σ H Q I h) λ c n e=>?_);cases c with
 |true=>exact isTrue_and_nil e
 |false=>exact e
theorem Z5A(i:PT X a tA):PW X (.BoolOp .Or [a] pos) tA:=by
 intro j pins s σ H Q I h;refine isTrue_or (thn (i pins s σ H Q I h) λ c n e=>?_);cases c with
 |false=>exact isTrue_or_nil e
 |true=>exact e
theorem Z4b(n:PT X a tA)(q:PW X (.BoolOp .And (b::rest) pos) tB'):PW X (.BoolOp .And (a::b::rest) pos) (tAnd tA tB'):=by
 intro y pins s σ H Q I h;refine isTrue_and (thn (n pins s σ H _ I h) λ c z ⟨H1,i,j⟩=>?_);cases c with
 |true=>exact q y pins z σ H1 Q i j
 |false=>exact⟨H1,i,j⟩
theorem Z8L(n:PT X a tA)(q:PW X (.BoolOp .Or (b::rest) pos) tB'):PW X (.BoolOp .Or (a::b::rest) pos) (tOr tA tB'):=by
 intro y pins s σ H Q I h;refine isTrue_or (thn (n pins s σ H _ I h) λ c z ⟨H1,i,j⟩=>?_);cases c with
 |true=>exact⟨H1,i,j⟩
 |false=>exact q y pins z σ H1 Q i j
theorem Z4T(i:PT X a tA):PT X (.UnaryOp .Not a pos) (tNot tA):=by
 intro pins s σ H Q I h;exact isTrue_not (i pins s σ H (λ c H1=>Q (!c) H1) I h)
def J7R(ta tb:TE):TE:=λ σ H Q=>ta σ H λ x H1=>∃c,x=.bl c/\if c=true then tb σ H1 Q else Q (.bl false) H1
def tOrV(ta tb:TE):TE:=λ σ H Q=>ta σ H λ x H1=>∃c,x=.bl c/\if c=true then Q (.bl true) H1 else tb σ H1 Q
theorem Z4B{op}{t:TE}(h:PE X a t):PE X (.BoolOp op [a] pos) t:=λ pins s σ H Q I i=>BoolOp_one (h pins s σ H Q I i)
theorem Z4A(n:PE X a ta)(q:PE X (.BoolOp .And (b::rest) pos) tb):PE X (.BoolOp .And (a::b::rest) pos) (J7R ta tb):=by
 intro pins s σ H Q I h;refine BoolOp_and (thn (n pins s σ H _ I h) λ v y ⟨x,H1,j,r1,i⟩=>?_);obtain⟨c,rfl,i⟩:=i;cases r1;refine wpAny_truthy_bool ?_;cases c with
 |true=>exact q pins y σ H1 Q j i
 |false=>exact⟨.bl false,H1,j,rfl,i⟩
theorem J9G(n:PE X a ta)(q:PE X (.BoolOp .Or (b::rest) pos) tb):PE X (.BoolOp .Or (a::b::rest) pos) (tOrV ta tb):=by
 intro pins s σ H Q I h;refine BoolOp_or (thn (n pins s σ H _ I h) λ v y ⟨x,H1,j,r1,i⟩=>?_);obtain⟨c,rfl,i⟩:=i;cases r1;refine wpAny_truthy_bool ?_;cases c with
 |false=>exact q pins y σ H1 Q j i
 |true=>exact⟨.bl true,H1,j,rfl,i⟩
end
end L2
namespace L2
open PySem PySem.Spec PyProof.Rows
def SqL(K:X0)(H:Hp)(a:V0)(xs:List V):Prop:=
 Rd H a (.lst xs)\/
  ∃(o:Obj)(i:Array V1)(n:Nat),K.lookup a=some o/\o.cls=.type "list"/\o.dict=none/\o.data=.seq i n/\i.size<=sizeLine/\Vals xs i.toList
def SqT(K:X0)(H:Hp)(a:V0)(xs:List V):Prop:=
 Rd H a (.tup xs)\/
  ∃(o:Obj)(i:Array V1)(n:Nat),K.lookup a=some o/\(o.cls=.type "tuple"/\o.dict=none)/\o.data=.seq i n/\i.size<=sizeLine/\Vals xs i.toList
def absV:V1->Option V
 | .none=>some .non
 | .bool b=>some (.bl b)
 | .int i _=>some (.int i)
 | .str x _=>some (.str x)
 | .bytes b _=>some (.byt b)
 | .float b _=>some (.flt b)
 | .ref a=>some (.ref a)
 | .type n=>some (.ty n)
 |_=>none
theorem RelV.abs{x:V}{u:V1}(r:RelV x u):absV u=some x:=by
 cases x with
 |non=>cases r;rfl
 |bl _=>cases r;rfl
 |int _=>obtain⟨t,rfl⟩:=r;rfl
 |str _=>obtain⟨t,rfl⟩:=r;rfl
 |byt _=>obtain⟨t,rfl⟩:=r;rfl
 |flt _=>obtain⟨t,rfl⟩:=r;rfl
 |ref _=>cases r;rfl
 |ty _=>cases r;rfl
theorem RelV.inj{x y:V}{u:V1}(r:RelV x u)(q:RelV y u):x=y:=qc6 (r.abs.symm.trans q.abs)
theorem Vals.inj:∀{xs ys:List V}{us:List V1},Vals xs us->Vals ys us->xs=ys
 |_,_,_,.nil,.nil=>rfl
 |_,_,_,.cons r t,.cons i j=>by rw[r.inj i,Vals.inj t j]
section
variable{X:Cx}{pins:List (V0×Obj)}{σ:St}{H:Hp}{s:M1}{a:V0}{xs ys:List V}
theorem SqL.of{K:X0}(h:H a=some (.lst xs)):SqL K H a xs:=.inl (.inl h)
theorem SqT.of{K:X0}(h:H a=some (.tup xs)):SqT K H a xs:=.inl (.inl h)
theorem Inv.list(I:Inv X pins σ H s)(h:SqL X.K H a xs):∃its:List V1,Vals xs its/\PlainL s.heap a its.toArray/\xs.length<=sizeLine:=by
 rcases h with h|⟨o,its,n,i,j,hd,hs,q,r⟩
 ·obtain⟨z,its,n,r,e⟩:=h.ok I.hok;exact⟨its,r,⟨_,n,e,rfl,rfl,rfl⟩,z⟩
 ·refine⟨its.toList,r,⟨o,n,I.kIn a o i,j,hd,by simpa using hs⟩,?_⟩;have e:=r.length;simp only[qg6]at e;lia
theorem Inv.tuple(I:Inv X pins σ H s)(h:SqT X.K H a xs):∃its:List V1,Vals xs its/\IsTup s.heap a its.toArray/\xs.length<=sizeLine:=by
 rcases h with h|⟨o,its,n,i,j,hs,q,r⟩
 ·obtain⟨z,its,r,p⟩:=h.ok I.hok;exact⟨its,r,p,z.1⟩
 ·refine⟨its.toList,r,⟨o,I.kIn a o i,j.1,n,by simpa using hs⟩,?_⟩;have e:=r.length;simp only[qg6]at e;lia
theorem Inv.list_inj(I:Inv X pins σ H s)(h:SqL X.K H a xs)(h':SqL X.K H a ys):xs=ys:=by
 obtain⟨i,r,⟨o,n,e,_,_,d⟩,_⟩:=I.list h;obtain⟨its',y,⟨o',z,j,_,_,q⟩,_⟩:=I.list h';rw[e]at j;cases j;rw[d]at q;injection q with d1 _
 have:i=its':=by simpa using congrArg Array.toList d1
 subst this;exact r.inj y
theorem Inv.tuple_inj(I:Inv X pins σ H s)(h:SqT X.K H a xs)(h':SqT X.K H a ys):xs=ys:=by
 obtain⟨i,r,⟨o,e,_,n,d⟩,_⟩:=I.tuple h;obtain⟨its',y,⟨o',j,_,z,q⟩,_⟩:=I.tuple h';rw[e]at j;cases j;rw[d]at q;injection q with d1 _
 have:i=its':=by simpa using congrArg Array.toList d1
 subst this;exact r.inj y
end
abbrev Cx.wish(X:Cx)(E:V1->M1->Prop):Cx:={X with xe:=E}
abbrev Cx.nox(X:Cx):Cx:=X.wish λ _ _=>False
variable{X:Cx}
theorem Cx.Ok.wish(ok:X.Ok)(E:V1->M1->Prop):(X.wish E).Ok:=
 ⟨ok.mod,ok.kind,ok.glob,ok.blt,ok.above,ok.inj,ok.has,ok.cab,ok.hd,ok.frames,ok.stk,ok.exf,ok.bs,ok.bsz,ok.noex,ok.exfs,ok.funs,ok.frf⟩
theorem Cx.Ok.unwish{E:V1->M1->Prop}(ok:(X.wish E).Ok):X.Ok:=
 ⟨ok.mod,ok.kind,ok.glob,ok.blt,ok.above,ok.inj,ok.has,ok.cab,ok.hd,ok.frames,ok.stk,ok.exf,ok.bs,ok.bsz,ok.noex,ok.exfs,ok.funs,ok.frf⟩
section
variable{X:Cx}{pins:List (V0×Obj)}{σ:St}{H:Hp}{s:M1}{E:V1->M1->Prop}
theorem Inv.wish(I:Inv X pins σ H s)(E:V1->M1->Prop):Inv (X.wish E) pins σ H s:=⟨I.ok.wish E,I.os,I.bare,I.base,I.loc,I.cell,I.free,I.freeC,I.pin,I.hok,I.len⟩
theorem Inv.unwish(I:Inv (X.wish E) pins σ H s):Inv X pins σ H s:=⟨I.ok.unwish,I.os,I.bare,I.base,I.loc,I.cell,I.free,I.freeC,I.pin,I.hok,I.len⟩
theorem SP.unwish{D:Ends}{f:Flow}{s':M1}(h:SP (X.wish E) pins D f s'):SP X pins D f s':=by
 cases f with
 |next=>obtain⟨σ',H',I,q⟩:=h;exact⟨σ',H',I.unwish,q⟩
 |brk=>obtain⟨σ',H',I,q⟩:=h;exact⟨σ',H',I.unwish,q⟩
 |cont=>obtain⟨σ',H',I,q⟩:=h;exact⟨σ',H',I.unwish,q⟩
 |ret u=>obtain⟨v,σ',H',I,r,q⟩:=h;exact⟨v,σ',H',I.unwish,r,q⟩
theorem PSs.nox{st:List Stmt}{t:TS}(h:PSs X.nox st t):PSs X st t:=λ pins s σ H D I i=>
 wpAny_mono (h pins s σ H D (I.wish _) i) (λ _ _ q=>q.unwish) λ _ _ z=>False.elim z
end
section
variable{X:Cx}{st:Stmt}{rest:List Stmt}{t u:TS}{e:Expr}{te:TE}{pos:Pos}
def J3d:TS:=λ D σ H=>D.nx σ H
def tSeq(t u:TS):TS:=λ D σ H=>t {D with nx:=u D} σ H
theorem Z0n:PSs X [] J3d:=λ _ _ σ H _ I h=>wpAny_execs_nil ⟨σ,H,I,h⟩
theorem Z0a(h1:PS X st t)(h2:PSs X rest u):PSs X (st::rest) (tSeq t u):=by
 intro pins s σ H D I h;refine wpAny_execs_cons (thn (h1 pins s σ H {D with nx:=u D} I h) λ f s1 q=>?_);cases f with
 |next=>
  obtain⟨σ',H',I',q⟩:=q;exact h2 pins s1 σ' H' D I' q
 |ret v=>exact q
 |brk=>exact q
 |cont=>exact q
theorem Z0c(h1:PS X st t):PSs X [st] t:=by
 intro pins s σ H D I h;refine wpAny_execs_cons (thn (h1 pins s σ H D I h) λ f s1 q=>?_);cases f with
 |next=>exact wpAny_execs_nil q
 |ret v=>exact q
 |brk=>exact q
 |cont=>exact q
theorem Inv.quiet{pins:List (V0×Obj)}{σ:St}{H:Hp}{s:M1}(I:Inv X pins σ H s):interactive X.env=false:=by simp[interactive,I.ok.kind]
def J7B(te:TE):TS:=λ D σ H=>te σ H λ _ H1=>D.nx σ H1
theorem Z0A(i:PE X e te)(hs:swapsWith e none pos.line X.env=pure false:=by rfl):PS X (.Expr e pos) (J7B te):=by
 intro pins s σ H D I h;exact wpAny_Expr_any (thn (i pins s σ H _ I h) λ v q ⟨x,H1,j,r1,n⟩=>⟨σ,H1,j,n⟩) I.quiet hs
def tRet(te:TE):TS:=λ D σ H=>te σ H D.rt
theorem Z0h(i:PE X e te):PS X (.Return (some e) pos) (tRet te):=by
 intro pins s σ H D I h;exact wpAny_Return_some (thn (i pins s σ H _ I h) λ v q ⟨x,H1,j,r1,n⟩=>⟨x,σ,H1,j,r1,n⟩)
def J7t:TS:=λ D _ H=>D.rt .non H
theorem J2l:PS X (.Return none pos) J7t:=λ _ _ σ H _ I h=>wpAny_Return_none ⟨.non,σ,H,I,rfl,h⟩
def tIfS(c:TT)(t u:TS):TS:=λ D σ H=>c σ H λ b H1=>if b=true then t D σ H1 else u D σ H1
theorem Z0t{c:Expr}{a b:List Stmt}{tc:TT}(q:PT X c tc)(y:PSs X a t)(z:PSs X b u):PS X (.If c a b pos) (tIfS tc t u):=by
 intro pins s σ H D I h;refine wpAny_If (thn (q pins s σ H _ I h) λ d i ⟨H1,j,n⟩=>?_);cases d with
 |true=>exact y pins i σ H1 D j n
 |false=>exact z pins i σ H1 D j n
def J4v:TS:=λ _ _ _=>False
theorem Z6O:PS X st J4v:=λ _ _ _ _ _ _ h=>h.elim
end
abbrev TG:=V->St->Hp->(St->Hp->Prop)->Prop
abbrev TGs:=List V->St->Hp->(St->Hp->Prop)->Prop
def PG(X:Cx)(target:Expr)(t:TG):Prop:=
 ∀(pins:List (V0×Obj))(s:M1)(σ:St)(H:Hp)(v:V)(u:V1)(Q:St->Hp->Prop),Inv X pins σ H s->RelV v u->t v σ H Q->
  wpAny (model X.prog X.w) X.A (assign target X.env u) (λ _ s'=>∃i H',Inv X pins i H' s'/\Q i H') X.xe s
def PGs(X:Cx)(ts:List Expr)(t:TGs):Prop:=
 ∀(pins:List (V0×Obj))(s:M1)(σ:St)(H:Hp)(vs:List V)(us:List V1)(Q:St->Hp->Prop),Inv X pins σ H s->Vals vs us->t vs σ H Q->
  wpAny (model X.prog X.w) X.A (assignInOrder ((assignEach ts X.env).map (·.2)) us) (λ _ s'=>∃i H',Inv X pins i H' s'/\Q i H') X.xe s
abbrev TSet:=V->V->V->Hp->(Hp->Prop)->Prop
def PSet(X:Cx)(t:TSet):Prop:=
 ∀(pins:List (V0×Obj))(s:M1)(σ:St)(H:Hp)(o i v:V)(j n u:V1)(Q:Hp->Prop),Inv X pins σ H s->RelV o j->RelV i n->RelV v u->t o i v H Q->
  wpAny (model X.prog X.w) X.A (setItem j n u) (λ _ s'=>∃H',Inv X pins σ H' s'/\Q H') X.xe s
abbrev TIp:=V->V->Hp->VK->Prop
def PIp(X:Cx)(op:Operator)(t:TIp):Prop:=
 ∀(pins:List (V0×Obj))(s:M1)(σ:St)(H:Hp)(x y:V)(v u:V1)(Q:VK),Inv X pins σ H s->RelV x v->RelV y u->t x y H Q->
  wpAny (model X.prog X.w) X.A (inplaceOp op v u) (EP X pins σ Q) X.xe s
section
variable{X:Cx}{pos:Pos}
def Z2G(i:Nat):TG:=λ v σ H Q=>Q (σ.set i (some v)) H
theorem Z4u{i:Nat}{x:M2}(j:X.N.Nodup)(hi:X.N[i]?=some x)(n:Loc X.env.scope x)(q:X.fn x=true\/X.env.scope.names.lookup x=some .local:=by first|exact .inl rfl|exact .inr rfl|assumption):PG X (.Name x pos) (Z2G i):=by
 intro pins s σ H v u Q I r h;exact wpAny_assign_Name (Z2p I j hi n r (λ s' y=>⟨_,H,y,h⟩) q)
def gNil:TGs:=λ vs σ H Q=>vs=[]/\Q σ H
def J6Z(t:TG)(u:TGs):TGs:=λ vs σ H Q=>∃v r,vs=v::r/\t v σ H λ i H'=>u r i H' Q
theorem Z0s:PGs X [] gNil:=by
 intro pins s σ H vs us Q I r h;obtain⟨e,h⟩:=h;subst e;cases r;exact assignInOrder_nil ⟨σ,H,I,h⟩
theorem J4f{e:Expr}{es:List Expr}{t:TG}{u:TGs}(h1:PG X e t)(h2:PGs X es u)(hs:(assignEach (e::es) X.env).map (·.2)=assign e X.env::(assignEach es X.env).map (·.2):=by rfl):PGs X (e::es) (J6Z t u):=by
 intro pins s σ H vs us Q I r h;obtain⟨v,B,j,h⟩:=h;subst j;cases r with
 |cons r n=>
  rw[hs];refine assignInOrder_cons (thn (h1 pins s σ H _ _ _ I r h) λ _ q ⟨i,H1,y,z⟩=>?_);exact h2 pins q i H1 _ _ Q y n z
def gTup(K:X0)(n:Nat)(t:TGs):TG:=λ v σ H Q=>∃a xs,v=.ref a/\SqT K H a xs/\xs.length=n/\t xs σ H Q
theorem J7m{es:List Expr}{k:Nat}{t:TGs}{n:Nat}(y:X.calm=true)(h:PGs X es t)(z:(assignEach es X.env).length=n:=by rfl)(i:(assignEach es X.env).findIdx? (·.1)=none:=by rfl):PG X (.Tuple es k pos) (gTup X.K n t):=by
 intro pins s σ H v u Q I r j;obtain⟨a,xs,B,D,hl,j⟩:=j;subst B;cases r;obtain⟨G,q,J,N⟩:=I.tuple D;refine assign_Tuple_tuple (I.ok.hd y) J (by simp[z,<-hl,q.length]) i λ h' L=>?_;have M:Inv X pins σ H {s with heap:=h'}:=I.kept (t':=s.toks) λ b o e=>L b o (qb3 (Heap.lt_size e)) e;exact h pins _ σ H xs _ Q M (by simpa using q) j
def gSub(to ti:TE)(t:TSet):TG:=λ v σ H Q=>to σ H λ o H1=>ti σ H1 λ i H2=>t o i v H2 λ H3=>Q σ H3
theorem J4E{o i:Expr}{to q:TE}{t:TSet}(z:PE X o to)(hi:PE X i q)(hs:PSet X t)(B:∀v,assign (.Subscript o i pos) X.env v=(do
   let j<-holding [v] (eval o X.env);let n<-holding [v,j] (eval i X.env)
   standAt pos
   holding [v,j,n] (setItem j n v)
   release [v,j,n] []):=by intro _;rfl):PG X (.Subscript o i pos) (gSub to q t):=by
 intro pins s σ H v u Q I r h;rw[B];refine wpAny_bind (wpAny_holding (thn (z pins s σ H _ I h) λ j D ⟨x,H1,G,r1,J⟩=>?_));refine wpAny_bind (wpAny_holding (thn (hi pins D σ H1 _ G J) λ n L ⟨y,H2,M,r2,N⟩=>?_));refine wpAny_bind (wpAny_standAt (wpAny_bind (wpAny_holding (thn (hs pins L σ H2 x y v j n u _ M r1 r2 r N) λ _ S ⟨H3,O,R⟩=>?_))));exact wpAny_release ⟨σ,H3,O,R⟩
def tAsg(te:TE)(g:TG):TS:=λ D σ H=>te σ H λ x H1=>g x σ H1 D.nx
theorem Z0Q{tg e:Expr}{te:TE}{g:TG}(i:PE X e te)(j:PG X tg g)(hs:swapsWithSole [tg] e pos.line X.env=pure false:=by rfl)(n:swappedStores [tg] e X.env=pure none:=by rfl)(h1:(assignEach [tg] X.env).map (·.2)=[assign tg X.env]:=by rfl):PS X (.Assign [tg] e pos) (tAsg te g):=by
 intro pins s σ H D I h;refine wpAny_Assign_stores (thn (i pins s σ H _ I h) λ v y ⟨x,H1,z,r1,B⟩=>?_) hs n;rw[h1];exact thn (j pins y σ H1 x v _ z r1 B) λ _ G q=>q
theorem J1N{i:Nat}{x:M2}{e:Expr}{te:TE}{pos':Pos}(j:X.N.Nodup)(hi:X.N[i]?=some x)(n:Loc X.env.scope x)(q:PE X e te)(hs:swapsWith e (some (.Name x pos')) pos.line X.env=pure false:=by rfl)(z:X.fn x=true\/X.env.scope.names.lookup x=some .local:=by first|exact .inl rfl|exact .inr rfl|assumption):PS X (.Assign [.Name x pos'] e pos) (tAsg te (Z2G i)):=by
 intro pins s σ H D I h;refine wpAny_Assign_Name (thn (q pins s σ H _ I h) λ v L ⟨y,H1,B,r1,G⟩=>?_) hs;exact Z2p B j hi n r1 (λ M J=>⟨_,H1,J,G⟩) z
def tPar(i j:Nat)(ta:TA):TS:=λ D σ H=>ta σ H λ vs H1=>∃v w,vs=[v,w]/\D.nx ((σ.set i (some v)).set j (some w)) H1
theorem J4t{i j:Nat}{x y:M2}{a b:Expr}{ta:TA}{G J pt:Pos}{kt L n}(hc:X.calm=true)(S:X.N.Nodup)(hi:X.N[i]?=some x)(hj:X.N[j]?=some y)(M:i≠j)(U:X.env.scope.names.lookup x=some .local)(Y:X.env.scope.names.lookup y=some .local)(ha:PA X [a,b] ta)(hw:swappedStores [.Tuple [.Name x G,.Name y J] kt pt] (.Tuple [a,b] L n) X.env=pure (some [x,y]))(hs:swapsWithSole [.Tuple [.Name x G,.Name y J] kt pt] (.Tuple [a,b] L n) pos.line X.env=pure false:=by rfl):PS X (.Assign [.Tuple [.Name x G,.Name y J] kt pt] (.Tuple [a,b] L n) pos) (tPar i j ta):=by
 intro pins s σ H D I h;rw[exec_Assign_arm];refine wpAny_bind (wpAny_standAt ?_);rw[hs];refine wpAny_bind (wpAny_pure ?_);rw[if_neg qQ];refine wpAny_bind (Tuple_ (thn (ha _ pins s σ H _ I h) λ us z ⟨vs,H1,I1,r1,N⟩=>?_));obtain⟨v,w,e1,N⟩:=N;subst e1;obtain⟨B,u2,rfl,rv,O⟩:∃B u2,us=[B,u2]/\RelV v B/\RelV w u2:=by
  cases r1 with
  |cons p q=>
   cases q with
   |cons p' q'=>
    cases q';exact⟨_,_,rfl,p,p'⟩
 refine wpAny_newObj_type ?_ (by show 2<=sizeLine;decide);have I2:Inv X pins σ H1 {z with heap:=z.heap.push {cls:=.type "tuple",data:=.seq [B,u2].toArray}}:=I1.kept (t':=z.toks) λ b o e=>Heap.get?_push_of_some _ e;rw[hw];refine wpAny_bind (wpAny_pure ?_);show wpAny (model X.prog X.w) X.A (do rule "assign.swapped-stores";let items<-unpackItems (.ref z.heap.objs.size) 2 none;assignInOrder [λ v=>bindName X.env y v,λ v=>bindName X.env x v] items.reverse;pure Flow.next) _ _ _;refine wpAny_bind (wpAny_rule (wpAny_bind (unpackItems_tuple (items:=#[B,u2]) (I.ok.hd hc) (IsTup.new z.heap _) λ h' R=>?_)));have I3:=I2.kept (h':=h') (t':=z.toks) λ b o e=>R b o (qb3 (Heap.lt_size e)) e;show wpAny _ _ (assignInOrder [λ v=>bindName X.env y v,λ v=>bindName X.env x v] [u2,B]>>=λ _=>pure Flow.next) _ _ _;refine wpAny_bind (assignInOrder_cons (wpAny_bindName (Z2p I3 S hj (.inl Y) O (λ s2 I4=>?_) (.inr Y))));refine assignInOrder_cons (wpAny_bindName (Z2p I4 S hi (.inl U) rv (λ s3 Z=>assignInOrder_nil (wpAny_pure ?_)) (.inr U)));rw[qk3 _ _ (Ne.symm M)]at Z;exact⟨_,H1,Z,N⟩
def tAug(i:Nat)(te:TE)(ti:TIp):TS:=λ D σ H=>∃x,σ[i]?=some (some x)/\te σ H λ y H1=>ti x y H1 λ z H2=>D.nx (σ.set i (some z)) H2
theorem J6P{i:Nat}{x:M2}{e:Expr}{te:TE}{op:Operator}{L:TIp}{pos':Pos}(M:X.N.Nodup)(hi:X.N[i]?=some x)(G:Loc X.env.scope x)(N:PE X e te)(O:PIp X op L)(R:X.fn x=true\/X.env.scope.names.lookup x=some .local:=by first|exact .inl rfl|exact .inr rfl|assumption):PS X (.AugAssign (.Name x pos') op e pos) (tAug i te L):=by
 intro pins s σ H D I h;obtain⟨v,S,h⟩:=h;obtain⟨m,U,hl⟩:=I.loc;have J:Vis X.env.scope x:=by rcases G with k|k;exact .inl k;exact .inr (.inl k)
 obtain⟨u,r,l⟩:=hl i x v hi S J;refine wpAny_AugAssign_Name ?_;have go:wpAny (model X.prog X.w) X.A (eval e X.env) (λ w q=>wpAny (model X.prog X.w) X.A (inplaceOp op u w) (λ r B=>wpAny (model X.prog X.w) X.A (storeName X.env x r) (λ _=>SP X pins D .next) X.xe B) X.xe q) X.xe s:=by
  refine thn (N pins s σ H _ I h) λ w Y ⟨y,H1,Z,r1,q1⟩=>?_;refine thn (O pins Y σ H1 v y u w _ Z r r1 q1) λ z s2 ⟨zv,H2,I2,r2,q2⟩=>?_;exact Z2p I2 M hi G r2 (λ s3 I3=>⟨_,H2,I3,q2⟩) R
 rcases l with⟨j,hm⟩|⟨j,c,hc,n⟩
 ·exact wpAny_loadName_local I.ok.kind j U hm go
 ·rcases j with j|j
  ·exact wpAny_loadName_cell I.ok.kind j hc n go
  ·rcases G with k|k
   ·have:X.env.scope.names.lookup x=some .free:=j;rw[k]at this;cases this
   ·have:X.env.scope.names.lookup x=some .free:=j;rw[k]at this;cases this
def ipI(f:Int->Int->Int):TIp:=λ x y H Q=>∃i j,x=.int i/\y=.int j/\Q (.int (f i j)) H
theorem J7W:PIp X .Add (ipI λ i j=>i+j):=by
 intro pins s σ H x y v u Q I r1 r2 h;obtain⟨i,j,n,z,q⟩:=h;subst n;subst z;obtain⟨t,rfl⟩:=r1;obtain⟨B,rfl⟩:=r2;exact iadd_int ⟨.int _,H,I.tok _,⟨_,rfl⟩,q⟩
end
section
variable{X:Cx}{pos:Pos}
def J4U(c:TT)(tb:TS):TS:=λ D σ H=>∃W:Nat->St->Hp->Prop,(∃m,W m σ H)/\∀m σ H,W m σ H->
 c σ H λ b H1=>if b=true then ∃N:St->Hp->Prop,(∀i H',N i H'->∃j,j<m/\W j i H')/\tb {D with nx:=N,ct:=N,bk:=D.nx} σ H1 else D.nx σ H1
theorem Z9p{c:Expr}{body:List Stmt}{tc:TT}{tb:TS}(hp:PassesOwn (model X.prog X.w) X.A X.env X.xe)(hc:PT X c tc)(hb:PSs X body tb):PS X (.While c body [] pos) (J4U tc tb):=by
 intro pins s σ H D I h;obtain⟨W,⟨m0,w0⟩,turn⟩:=h;refine wpAny_While (codeAny_whileLoop (λ n s'=>∃σ' H',Inv X pins σ' H' s'/\W n σ' H') ?_ m0 ⟨σ,H,I,w0⟩);rintro n s1 ⟨σ1,H1,I1,w1⟩;refine wpAny_passesOwn hp (thn (hc pins s1 σ1 H1 _ I1 (turn n σ1 H1 w1)) λ b s2 ⟨H2,I2,q2⟩=>?_);cases b with
 |true=>
  obtain⟨N,hN,q2⟩:=q2;rw[if_pos rfl];refine wpAny_passesOwn hp (thn (hb pins s2 σ1 H2 _ I2 q2) λ f s3 q3=>?_);cases f with
  |next=>
   obtain⟨σ3,H3,I3,n3⟩:=q3;obtain⟨m',hm,w3⟩:=hN σ3 H3 n3;exact⟨m',hm,σ3,H3,I3,w3⟩
  |cont=>
   obtain⟨σ3,H3,I3,n3⟩:=q3;obtain⟨m',hm,w3⟩:=hN σ3 H3 n3;exact⟨m',hm,σ3,H3,I3,w3⟩
  |brk=>exact q3
  |ret v=>exact q3
 |false=>
  rw[if_neg qc0];exact wpAny_execs_nil ⟨σ1,H2,I2,q2⟩
end
structure It where
 go:Nat->Hp->Prop
 yld:Nat->Hp->V->Hp->Prop
 stop:Nat->Hp->Prop
def FpOk(X:Cx)(pins:List (V0×Obj))(H:Hp)(b:V0):Prop:=
 H b=none/\b≠X.env.locals/\b∉X.fs/\(b∈X.ex\/X.s₀.heap.objs.size<=b)/\(∀x c,X.env.cells.lookup x=some c->c≠b)/\∀p∈X.pn++pins,p.1≠b
theorem Inv.fpOk{pins:List (V0×Obj)}{σ:St}{H H':Hp}{s:M1}{b:V0}(I:Inv X pins σ H s)(i:s.heap.objs.size<=b)(j:H' b=none):FpOk X pins H' b:=by
 refine⟨j,Nat.ne_of_gt (qc9 I.lt i),I.nofs i,.inr (qa9 I.sz i),λ x c e z=>?_,λ p n z=>?_⟩
 ·obtain⟨v,q⟩:=I.cell x c e;exact absurd (qc9 q.lt (by rw[z];exact i)) (qd8 _)
 ·exact absurd (qc9 (Heap.lt_size (I.pin p n).1) (by rw[z];exact i)) (qd8 _)
structure Turn(P:Program)(w:Y3)(K:X0)(tg:Expr)(J:It)(fp:List V0)(it:V0)(tn:Nat->Z3->Prop):Prop where
 mem:it∈fp
 obj:∀i h,tn i h->∀b∈fp,∃o,h.get? b=some o/\∀v,o.data≠.cell v
 keep:∀i h h',tn i h->(∀b∈fp,∀o,h.get? b=some o->h'.get? b=some o)->tn i h'
 item:∀(X:Cx),X.prog=P->X.w=w->X.K=K->X.calm=true->∀(i:Nat)(pins:List (V0×Obj))(s:M1)(σ:St)(H:Hp)(E:V1->M1->Prop),Inv X pins σ H s->(∀b∈fp,FpOk X pins H b)->tn i s.heap->J.go i H->
  wpAny (model P w) X.A (pyNext (.ref it)) (λ r s1=>∃u,r=some u/\wpAny (model P w) X.A (letOwnedTupleGo tg (.ref it) u) (λ _ s2=>∃x H',Inv X pins σ H' s2/\RelV x u/\J.yld i H x H'/\tn (i+1) s2.heap/\∀b∈fp,H' b=none) E s1) E s
 done:∀(X:Cx),X.prog=P->X.w=w->X.K=K->X.calm=true->∀(i:Nat)(pins:List (V0×Obj))(s:M1)(σ:St)(H:Hp)(E:V1->M1->Prop),Inv X pins σ H s->(∀b∈fp,FpOk X pins H b)->tn i s.heap->J.stop i H->
  wpAny (model P w) X.A (pyNext (.ref it)) (λ r s1=>r=none/\Inv X pins σ H s1) E s
 self:∀(A:M3)(i:Nat)(s:M1)(Q:V1->M1->Prop)(E:V1->M1->Prop),tn i s.heap->Q (.ref it) s->wpAny (model P w) A (pyIter (.ref it)) Q E s
abbrev TI:=St->Hp->(It->Hp->Prop)->Prop
def PIE(X:Cx)(pins:List (V0×Obj))(σ:St)(tg:Expr)(R:It->Hp->Prop)(itv:V1)(s2:M1):Prop:=
 ∃(i:V0)(j:List V0)(n:Nat->Z3->Prop)(J:It)(H':Hp),itv=.ref i/\Inv X pins σ H' s2/\Turn X.prog X.w X.K tg J j i n/\n 0 s2.heap/\(∀b∈j,FpOk X pins H' b)/\R J H'
def PI(X:Cx)(tg iter:Expr)(wi:TI):Prop:=
 ∀(pins:List (V0×Obj))(s:M1)(σ:St)(H:Hp)(R:It->Hp->Prop),Inv X pins σ H s->wi σ H R->
  wpAny (model X.prog X.w) X.A (eval iter X.env) (λ v i=>wpAny (model X.prog X.w) X.A (pyIter v) (PIE X pins σ tg R) X.xe i) X.xe s
variable{tg:Expr}
theorem J3J{M:Model}{A:M3}{E:V1->M1->Prop}{s:M1}{it:V0}{u:V1}{o:Obj}{n:String}{vs:Array V1}{Q:Unit->M1->Prop}(j:s.heap.get? it=some o)(q:o.cls=.type n)(hd:o.data=.fields vs)(y:["enumerate","zip","dict_itemiterator","dict_reverseitemiterator","odict_iterator","itertools.zip_longest","itertools.pairwise"].contains n=false)(i:Q () s):wpAny M A (letOwnedTupleGo tg (.ref it) u) Q E s:=by
  unfold letOwnedTupleGo;cases tg <;> first
    |exact wpAny_pure i
    | (cases u <;> first
        |exact wpAny_pure i
        | (refine wpAny_bind (wpAny_load j ?_)
           rw[q,hd];show wpAny M A (if(["enumerate","zip","dict_itemiterator","dict_reverseitemiterator","odict_iterator","itertools.zip_longest","itertools.pairwise"].contains n&&vs[0]?==some (rawInt _))=true then _ else _) Q E s;rw[if_neg (by intro h;rw[y,Bool.false_and]at h;cases h)];exact wpAny_pure i))
def Itl(K:X0)(a:V0):It:=
 ⟨λ i H=>∃xs x,SqL K H a xs/\xs[i]?=some x,λ i H x H'=>H'=H/\∀xs,SqL K H a xs->xs[i]?=some x,λ i H=>∃xs,SqL K H a xs/\xs.length<=i⟩
def Itt(K:X0)(a:V0):It:=
 ⟨λ i H=>∃xs x,SqT K H a xs/\xs[i]?=some x,λ i H x H'=>H'=H/\∀xs,SqT K H a xs->xs[i]?=some x,λ i H=>∃xs,SqT K H a xs/\xs.length<=i⟩
def Itr(lo:Int)(n:Nat):It:=⟨λ i _=>i<n,λ i H x H'=>H'=H/\x=.int (lo+i),λ i _=>n<=i⟩
variable{P:Program}{K:X0}
theorem Z6Z{w:Y3}(a it:V0):Turn P w K tg (Itl K a) [it] it (λ i h=>h.IsListIter it a i)where
 mem:=by simp
 obj:=λ i h st b j=>by
  have e:b=it:=by simpa using j
  subst e;obtain⟨o,e,c,d⟩:=st;exact⟨o,e,λ v z=>by rw[d]at z;cases z⟩
 keep:=λ i h h' st k=>st.at λ o e=>k it (by simp) o e
 item:=by
  intro X B D G Z i pins s σ H E I q st J;subst B D G;obtain⟨xs,x,y,L⟩:=J;obtain⟨M,N,p,hz⟩:=I.list y;obtain⟨u,hu,ru⟩:=N.get L;obtain⟨O,R,f2,S,U,Y⟩:=q it (by simp);refine wpAny_pyNext_list_item st p.isList (x:=u) (by simpa using hu) λ h' n sb=>?_;have I1:Inv X pins σ H {s with heap:=h'}:=I.turned (t':=s.toks) (λ b o j e=>(sb.2 b j).trans e) O R S U Y;obtain⟨o,e,c,d⟩:=id n;exact⟨u,rfl,J3J (s:={s with heap:=h'}) e c d qQ ⟨x,H,I1,ru,⟨rfl,λ ys hy=>by rw[I.list_inj hy y];exact L⟩,n,λ b j=>(q b j).1⟩⟩
 done:=by
  intro X B D G Z i pins s σ H E I q st J;subst B D G;obtain⟨xs,y,L⟩:=J;obtain⟨M,N,p,hz⟩:=I.list y;obtain⟨O,R,f2,S,U,Y⟩:=q it (by simp);have hl:=N.length;exact wpAny_pyNext_list_end (I.ok.hd Z) st p.isList (by simp;lia) λ h' eb=>⟨rfl,I.turned (t':=s.toks) (λ b o j e=>eb b o j e) O R S U Y⟩
 self:=λ _ _ _ _ _ st h=>wpAny_pyIter_listiter st h
theorem Z6h{w:Y3}(a it:V0):Turn P w K tg (Itt K a) [it] it (λ i h=>h.IsTupleIter it a i)where
 mem:=by simp
 obj:=λ i h st b j=>by
  have e:b=it:=by simpa using j
  subst e;obtain⟨o,e,c,d⟩:=st;exact⟨o,e,λ v z=>by rw[d]at z;cases z⟩
 keep:=λ i h h' st k=>st.at λ o e=>k it (by simp) o e
 item:=by
  intro X D G J Z i pins s σ H E I y st L;subst D G J;obtain⟨xs,x,B,M⟩:=L;obtain⟨n,N,p,hz⟩:=I.tuple B;obtain⟨u,hu,ru⟩:=N.get M;obtain⟨O,R,f2,S,U,Y⟩:=y it (by simp);refine wpAny_pyNext_tuple_item st (show s.heap.IsTuple a n.toArray from p) (x:=u) (by simpa using hu) λ h' q sb=>?_;have I1:Inv X pins σ H {s with heap:=h'}:=I.turned (t':=s.toks) (λ b o j e=>(sb.2 b j).trans e) O R S U Y;obtain⟨o,e,c,d⟩:=id q;exact⟨u,rfl,J3J (s:={s with heap:=h'}) e c d qQ ⟨x,H,I1,ru,⟨rfl,λ ys hy=>by rw[I.tuple_inj hy B];exact M⟩,q,λ b j=>(y b j).1⟩⟩
 done:=by
  intro X D G J Z i pins s σ H E I y st L;subst D G J;obtain⟨xs,B,M⟩:=L;obtain⟨n,N,p,hz⟩:=I.tuple B;obtain⟨O,R,f2,S,U,Y⟩:=y it (by simp);have hl:=N.length;exact wpAny_pyNext_tuple_end (I.ok.hd Z) st (show s.heap.IsTuple a n.toArray from p) (by simp;lia) λ h' eb=>⟨rfl,I.turned (t':=s.toks) (λ b o j e=>eb b o j e) O R S U Y⟩
 self:=λ _ _ _ _ _ st h=>wpAny_pyIter_tupleiter st h
theorem J0v{w:Y3}(it:V0)(lo:Int)(n:Nat):Turn P w K tg (Itr lo n) [it] it (λ i h=>IsRangeIter h it (lo+(i:Nat)*1) ((n:Int)-(i:Nat)) 1)where
 mem:=by simp
 obj:=λ i h st b j=>by
  have e:b=it:=by simpa using j
  subst e;exact⟨_,st,λ v z=>by
   have U:Data.fields _=Data.cell v:=z;cases U⟩
 keep:=λ i h h' st k=>k it (by simp) _ st
 item:=by
  intro X B D G J i pins s σ H E I y st L;subst B D G;obtain⟨M,N,Y,O,R,S⟩:=y it (by simp);have W:=Walks.range (prog:=X.prog) (w:=X.w) (I.ok.hd J) it lo 1 n;refine W.item i s _ _ L st λ v h' tk Z q kk=>?_;obtain⟨t,rfl⟩:=Z;have I1:Inv X pins σ H {s with heap:=h',toks:=tk}:=I.turned (λ b o j e=>kk b o (by simpa using j) e) M N O R S;refine⟨_,rfl,J3J (s:={s with heap:=h',toks:=tk}) (n:="range_iterator") q rfl rfl qQ ⟨.int (lo+i),H,I1,⟨t,?_⟩,⟨rfl,rfl⟩,q,λ b j=>(y b j).1⟩⟩;rw[Int.mul_one]
 done:=by
  intro X B D G J i pins s σ H E I y st L;subst B D G;obtain⟨M,N,Y,O,R,S⟩:=y it (by simp);exact wpAny_pyNext_range_end (I.ok.hd J) st (by have:n<=i:=L;lia) λ h' eb=>⟨rfl,I.turned (t':=s.toks) (λ b o j e=>eb b o j e) M N O R S⟩
 self:=λ _ _ _ _ _ st h=>wpAny_pyIter_rangeiter st h
end L2
namespace L2
open PySem PySem.Spec PyProof.Rows
section
variable{X:Cx}{tg:Expr}
def J7J(K:X0)(tl:TE):TI:=λ σ H R=>tl σ H λ x H1=>∃a,x=.ref a/\(∃xs,SqL K H1 a xs)/\R (Itl K a) H1
def iTup(K:X0)(tl:TE):TI:=λ σ H R=>tl σ H λ x H1=>∃a,x=.ref a/\(∃xs,SqT K H1 a xs)/\R (Itt K a) H1
theorem Z1b{l:Expr}{tl:TE}(hl:PE X l tl):PI X tg l (J7J X.K tl):=by
 intro pins s σ H R I h;refine thn (hl pins s σ H _ I h) λ v i ⟨x,H1,j,r1,n⟩=>?_;obtain⟨a,e,⟨xs,y⟩,q⟩:=n;subst e;cases r1;obtain⟨z,D,p,G⟩:=j.list y;refine wpAny_pyIter_list p.isList ?_;refine⟨i.heap.objs.size,[i.heap.objs.size],_,_,H1,rfl,j.kept (t':=i.toks) λ b o e=>Heap.get?_push_of_some _ e,Z6Z a _,⟨_,Heap.get?_push_size _ rfl,rfl,rfl⟩,λ b B=>?_,q⟩;have e:b=i.heap.objs.size:=by simpa using B
 subst e;exact j.fpOk (qa0 _) (j.hok.fresh (qa0 _))
theorem Z1J{l:Expr}{tl:TE}(hl:PE X l tl):PI X tg l (iTup X.K tl):=by
 intro pins s σ H R I h;refine thn (hl pins s σ H _ I h) λ v i ⟨x,H1,j,r1,y⟩=>?_;obtain⟨a,e,⟨xs,z⟩,q⟩:=y;subst e;cases r1;obtain⟨n,D,p,G⟩:=j.tuple z;refine wpAny_pyIter_tuple (show i.heap.IsTuple a n.toArray from p) ?_;refine⟨i.heap.objs.size,[i.heap.objs.size],_,_,H1,rfl,j.kept (t':=i.toks) λ b o e=>Heap.get?_push_of_some _ e,Z6h a _,⟨_,Heap.get?_push_size _ rfl,rfl,rfl⟩,λ b B=>?_,q⟩;have e:b=i.heap.objs.size:=by simpa using B
 subst e;exact j.fpOk (qa0 _) (j.hok.fresh (qa0 _))
theorem J3P{pins:List (V0×Obj)}{σ:St}{H:Hp}{s:M1}{R:It->Hp->Prop}{E:V1->M1->Prop}{lo hi:Int}{t u v:Tok}{tk:Nat}(I:Inv X pins σ H s)(h1:-(2^62)<=lo)(h2:lo<2^62)(j:-(2^62)<=hi)(n:hi<2^62)(q:R (Itr lo (hi-lo).toNat) H):wpAny (model X.prog X.w) X.A (pyIter (.ref s.heap.objs.size)) (PIE X pins σ tg R) E {s with heap:=s.heap.push {cls:=.type "range",data:=.fields #[.int lo t,.int hi u,.int 1 v]},toks:=tk}:=by
 refine wpAny_pyIter_range (IsRange.new ..) (small_one h1 h2 j n) ?_;have i:Inv X pins σ H {s with heap:=s.heap.push {cls:=.type "range",data:=.fields #[.int lo t,.int hi u,.int 1 v]},toks:=tk}:=I.kept λ b o e=>Heap.get?_push_of_some _ e;refine⟨(s.heap.push {cls:=.type "range",data:=.fields #[.int lo t,.int hi u,.int 1 v]}).objs.size,[(s.heap.push {cls:=.type "range",data:=.fields #[.int lo t,.int hi u,.int 1 v]}).objs.size],_,_,H,rfl,i.kept (t':=tk) λ b o e=>Heap.get?_push_of_some _ e,J0v _ lo (hi-lo).toNat,?_,λ b y=>?_,q⟩
 ·have z:lo+((0:Nat):Int)*1=lo:=by simp
  have B:(((hi-lo).toNat:Nat):Int)-((0:Nat):Int)=Builtin.Range.rangeSize lo hi 1:=by rw[rangeSize_one];split<;>lia
  show IsRangeIter _ _ (lo+((0:Nat):Int)*1) ((((hi-lo).toNat:Nat):Int)-((0:Nat):Int)) 1;rw[z,B];exact Heap.get?_push_size _ rfl
 ·have e:b=(s.heap.push {cls:=.type "range",data:=.fields #[.int lo t,.int hi u,.int 1 v]}).objs.size:=by simpa using y
  subst e;exact i.fpOk (qa0 _) (i.hok.fresh (qa0 _))
def J7o(ta:TA):TI:=λ σ H R=>ta σ H λ vs H1=>∃j:Int,vs=[.int j]/\-(2^62)<=j/\j<2^62/\R (Itr 0 j.toNat) H1
theorem J1k{a:Expr}{ta:TA}{p pos:Pos}(n:Gl X "range")(y:X.mg "range"=none)(z:PA X [a] ta)(hs:starEach [a] X.env=[(false,eval a X.env)]:=by rfl):PI X tg (.Call (.Name "range" p) [a] [] pos) (J7o ta):=by
 intro pins s σ H R I h;refine Call_ (Z3I I n y boot_range (PyProof.Rows.callWith_type1 (thn (z pos pins s σ H _ I h) λ us J ⟨vs,H1,B,r1,i⟩=>?_) hs rfl));obtain⟨j,e,i,D,q⟩:=i;subst e;cases r1 with
 |cons r G=>
  cases G;obtain⟨t,rfl⟩:=r;exact call_range_1 (J3P B qR qR i D (by simpa using q))
def tFor(wi:TI)(g:TG)(tb:TS):TS:=λ D σ H=>wi σ H λ J H1=>∃W:Nat->Nat->St->Hp->Prop,(∃m,W 0 m σ H1)/\∀i m σ H,W i m σ H->
 (J.stop i H/\D.nx σ H)\/(J.go i H/\∃N:St->Hp->Prop,(∀j H',N j H'->∃q,q<m/\W (i+1) q j H')/\∀x H',J.yld i H x H'->g x σ H' λ n H2=>tb {D with nx:=N,ct:=N,bk:=D.nx} n H2)
def Z8e(fp:List V0)(h:Z3):List (V0×Obj):=fp.filterMap λ b=>(h.get? b).map λ o=>(b,o)
theorem Z3u{i:List V0}{h:Z3}{b:V0}{o:Obj}(j:b∈i)(e:h.get? b=some o):(b,o)∈Z8e i h:=qk4.mpr ⟨b,j,by rw[e];rfl⟩
theorem J2W{i:List V0}{h:Z3}{p:V0×Obj}(j:p∈Z8e i h):p.1∈i/\h.get? p.1=some p.2:=by
 obtain⟨b,n,e⟩:=qk4.mp j;cases q:h.get? b with
 |none=>rw[q]at e;cases e
 |some o=>
  rw[q]at e;have y:(b,o)=p:=qc6 e;subst y;exact⟨n,q⟩
theorem Inv.pinned{pins:List (V0×Obj)}{σ:St}{H:Hp}{s:M1}{i:List V0}(I:Inv X pins σ H s)(q:∀b∈i,FpOk X pins H b)(y:∀b∈i,∃o,s.heap.get? b=some o/\∀v,o.data≠.cell v):Inv X (pins++Z8e i s.heap) σ H s:=
 I.pins_of λ p B=>(qa7.mp B).elim (λ z=>I.pin p (qe6 _ z)) λ z=>by
  obtain⟨j,e⟩:=J2W z;obtain⟨D,G,J,_⟩:=q p.1 j;obtain⟨o,n,d⟩:=y p.1 j;rw[e]at n;cases n;exact⟨e,D,G,J,d⟩
theorem Inv.unpinned{pins pl:List (V0×Obj)}{σ:St}{H:Hp}{s:M1}(I:Inv X (pins++pl) σ H s):Inv X pins σ H s:=I.pins_of λ p i=>I.pin p (qe6 _ (ql6 _ i))
theorem Z1o{iter:Expr}{body:List Stmt}{wi:TI}{g:TG}{tb:TS}{pos:Pos}(hp:PassesOwn (model X.prog X.w) X.A X.env X.xe)(hc:X.calm=true)(hi:PI X tg iter wi)(hg:PG X tg g)(hb:PSs X body tb)(hs:∀x,foldedSetIterable iter X.env x=pure x:=by intro _;rfl):PS X (.For tg iter body [] pos) (tFor wi g tb):=by
 intro pins s σ H D I h;refine wpAny_For (thn (hi pins s σ H _ I h) λ v s1 h1=>thn h1 λ itv s2 h2=>?_) hs;obtain⟨it,fp,tn,J,H2,e,I2,T,st2,f2,W,⟨m0,w0⟩,turn⟩:=h2;subst e
 --what stays true of the iterator's objects through the loop
 have stat:∀{H':Hp},(∀b∈fp,H' b=none)->∀b∈fp,FpOk X pins H' b:=λ hn b hb=>⟨hn b hb,(f2 b hb).2⟩;refine codeAny_forLoop_any (λ n s'=>∃i σ' H',Inv X pins σ' H' s'/\tn i s'.heap/\(∀b∈fp,H' b=none)/\W i n σ' H') ?_ m0 ⟨0,σ,H2,I2,st2,λ b hb=>(f2 b hb).1,w0⟩;rintro n s3 ⟨i,σ3,H3,I3,st3,fr3,w3⟩;rcases turn i n σ3 H3 w3 with⟨stop,qn⟩|⟨go,N,hN,step⟩
 ·refine wpAny_passesOwn hp (thn (T.done X rfl rfl rfl hc i pins s3 σ3 H3 X.xe I3 (stat fr3) st3 stop) λ r s4 ⟨hr,I4⟩=>?_);subst hr;exact wpAny_execs_nil ⟨σ3,H3,I4,qn⟩
 ·refine wpAny_passesOwn hp (thn (T.item X rfl rfl rfl hc i pins s3 σ3 H3 X.xe I3 (stat fr3) st3 go) λ r s4 ⟨u,hr,h4⟩=>?_);subst hr;refine wpAny_passesOwn hp (thn h4 λ _ s5 ⟨x,H5,I5,r5,y5,st5,fr5⟩=>?_);have I5':=I5.pinned (stat fr5) (T.obj _ _ st5);refine wpAny_passesOwn hp (thn (hg _ s5 σ3 H5 x u _ I5' r5 (step x H5 y5)) λ _ s6 ⟨σ6,H6,I6,q6⟩=>?_);refine wpAny_passesOwn hp (thn (hb _ s6 σ6 H6 _ I6 q6) λ f s7 q7=>?_);have again:∀{σ7:St}{H7:Hp},Inv X (pins++Z8e fp s5.heap) σ7 H7 s7->N σ7 H7->∃m,m<n/\∃i σ' H',Inv X pins σ' H' s7/\tn i s7.heap/\(∀b∈fp,H' b=none)/\W i m σ' H':=λ{σ7 H7} I7 n7=>by
   obtain⟨m',hm,w7⟩:=hN σ7 H7 n7;refine⟨m',hm,i+1,σ7,H7,I7.unpinned,T.keep _ _ _ st5 λ b hb o e=>(I7.pin (b,o) (qe6 _ (qe6 _ (Z3u hb e)))).1,λ b hb=>?_,w7⟩;obtain⟨o,e,d⟩:=T.obj _ _ st5 b hb;exact(I7.pin (b,o) (qe6 _ (qe6 _ (Z3u hb e)))).2.1
  cases f with
  |next=>obtain⟨σ7,H7,I7,n7⟩:=q7;exact again I7 n7
  |cont=>obtain⟨σ7,H7,I7,n7⟩:=q7;exact again I7 n7
  |brk=>obtain⟨σ7,H7,I7,q7⟩:=q7;exact⟨σ7,H7,I7.unpinned,q7⟩
  |ret v=>obtain⟨x7,σ7,H7,I7,r7,q7⟩:=q7;exact⟨x7,σ7,H7,I7.unpinned,r7,q7⟩
end
theorem J4e{K:X0}{a:V0}{xs:List V}{g:TG}{tb:TS}{D:Ends}{σ:St}{H:Hp}(j:Nat->St->Hp->Prop)(G:j 0 σ H)(hl:∀i σ H,i<=xs.length->j i σ H->SqL K H a xs)(hs:∀i x σ H,xs[i]?=some x->j i σ H->g x σ H λ n H2=>tb {D with nx:=j (i+1),ct:=j (i+1),bk:=D.nx} n H2)(hd:∀σ H,j xs.length σ H->D.nx σ H):∃W:Nat->Nat->St->Hp->Prop,(∃m,W 0 m σ H)/\∀i m σ H,W i m σ H->((Itl K a).stop i H/\D.nx σ H)\/((Itl K a).go i H/\∃N:St->Hp->Prop,(∀z H',N z H'->∃m',m'<m/\W (i+1) m' z H')/\∀x H',(Itl K a).yld i H x H'->g x σ H' λ n H2=>tb {D with nx:=N,ct:=N,bk:=D.nx} n H2):=by
 refine⟨λ i m σ H=>m=xs.length-i/\i<=xs.length/\j i σ H,⟨xs.length,by simp,qb0 _,G⟩,?_⟩;rintro i m σ H ⟨rfl,hi,p⟩;have q:=hl i σ H hi p;by_cases B:i<xs.length
 ·refine .inr ⟨⟨xs,xs[i],q,by simp[B]⟩,j (i+1),λ z H' I=>⟨xs.length-(i+1),qR,rfl,B,I⟩,λ x H' y=>?_⟩;obtain⟨e,y⟩:=y;subst e;exact hs i x σ _ (y xs q) p
 ·have e:i=xs.length:=by lia
  subst e;exact .inl ⟨⟨xs,q,qa0 _⟩,hd σ H p⟩
theorem J5S{K:X0}{a:V0}{xs:List V}{g:TG}{tb:TS}{D:Ends}{σ:St}{H:Hp}(j:Nat->St->Hp->Prop)(G:j 0 σ H)(hl:∀i σ H,i<=xs.length->j i σ H->SqT K H a xs)(hs:∀i x σ H,xs[i]?=some x->j i σ H->g x σ H λ n H2=>tb {D with nx:=j (i+1),ct:=j (i+1),bk:=D.nx} n H2)(hd:∀σ H,j xs.length σ H->D.nx σ H):∃W:Nat->Nat->St->Hp->Prop,(∃m,W 0 m σ H)/\∀i m σ H,W i m σ H->((Itt K a).stop i H/\D.nx σ H)\/((Itt K a).go i H/\∃N:St->Hp->Prop,(∀z H',N z H'->∃m',m'<m/\W (i+1) m' z H')/\∀x H',(Itt K a).yld i H x H'->g x σ H' λ n H2=>tb {D with nx:=N,ct:=N,bk:=D.nx} n H2):=by
 refine⟨λ i m σ H=>m=xs.length-i/\i<=xs.length/\j i σ H,⟨xs.length,by simp,qb0 _,G⟩,?_⟩;rintro i m σ H ⟨rfl,hi,p⟩;have q:=hl i σ H hi p;by_cases B:i<xs.length
 ·refine .inr ⟨⟨xs,xs[i],q,by simp[B]⟩,j (i+1),λ z H' I=>⟨xs.length-(i+1),qR,rfl,B,I⟩,λ x H' y=>?_⟩;obtain⟨e,y⟩:=y;subst e;exact hs i x σ _ (y xs q) p
 ·have e:i=xs.length:=by lia
  subst e;exact .inl ⟨⟨xs,q,qa0 _⟩,hd σ H p⟩
end L2
namespace L2
open PySem PySem.Spec PyProof.Rows
abbrev R2:=V->V->Hp->VK->Prop
def OpR(X:Cx)(f:V1->V1->Sem V1)(r:R2):Prop:=
 ∀(pins:List (V0×Obj))(s:M1)(σ:St)(H:Hp)(x y:V)(v u:V1)(Q:VK),Inv X pins σ H s->RelV x v->RelV y u->r x y H Q->
  wpAny (model X.prog X.w) X.A (f v u) (EP X pins σ Q) X.xe s
def Z3V(X:Cx)(f:V1)(r:List V->Hp->VK->Prop):Prop:=
 ∀(pins:List (V0×Obj))(s:M1)(σ:St)(H:Hp)(xs:List V)(us:List V1)(Q:VK),Inv X pins σ H s->Vals xs us->r xs H Q->
  wpAny (model X.prog X.w) X.A (call f us) (EP X pins σ Q) X.xe s
def TruR(X:Cx)(r:V->Hp->(Bool->Hp->Prop)->Prop):Prop:=
 ∀(pins:List (V0×Obj))(s:M1)(σ:St)(H:Hp)(x:V)(v:V1)(Q:Bool->Hp->Prop),Inv X pins σ H s->RelV x v->r x H Q->
  wpAny (model X.prog X.w) X.A (truthy v) (TP X pins σ Q) X.xe s
def tOp(r:R2)(ta tb:TE):TE:=λ σ H Q=>ta σ H λ x H1=>tb σ H1 λ y H2=>r x y H2 Q
def rI(C:Int->Int->Prop)(g:Int->Int->V):R2:=λ x y H Q=>∃i j,x=.int i/\y=.int j/\C i j/\Q (g i j) H
def rI0(g:Int->Int->V):R2:=λ x y H Q=>∃i j,x=.int i/\y=.int j/\Q (g i j) H
section
variable{X:Cx}{a b c:Expr}{ta tb tc:TE}{pos:Pos}
theorem binT(q:PE X a ta)(z:PE X b tb){pins:List (V0×Obj)}{s:M1}{σ:St}{H:Hp}{R:V->V->Hp->Prop}(I:Inv X pins σ H s)(h:ta σ H λ x H1=>tb σ H1 λ y H2=>R x y H2){Q:V1->M1->Prop}{f:V1->V1->Sem V1}(B:∀v u n x y H2,Inv X pins σ H2 n->RelV x v->RelV y u->R x y H2->wpAny (model X.prog X.w) X.A (f v u) Q X.xe n):wpAny (model X.prog X.w) X.A (eval a X.env) (λ v i=>wpAny (model X.prog X.w) X.A (eval b X.env) (λ u j=>wpAny (model X.prog X.w) X.A (f v u) Q X.xe j) X.xe i) X.xe s:=by
 refine thn (q pins s σ H _ I h) λ v D ⟨x,H1,G,r1,J⟩=>?_;refine thn (z pins D σ H1 _ G J) λ u n ⟨y,H2,L,r2,M⟩=>?_;exact B v u n x y H2 L r1 r2 M
theorem Z0j{op:Operator}{r:R2}(i:OpR X (binaryOp op) r)(j:PE X a ta)(n:PE X b tb):PE X (.BinOp a op b pos) (tOp r ta tb):=by
 intro pins s σ H Q I h;exact wpAny_BinOp (binT j n I h λ v u z x y H2 B D G q=>i pins z σ H2 x y v u Q B D G q)
theorem opI{f:V1->V1->Sem V1}{C:Int->Int->Prop}{g:Int->Int->Int}(n:∀(i j:Int)(t u:Tok)(s:M1)(Q:V1->M1->Prop)(E:V1->M1->Prop),C i j->Q (.int (g i j) s.toks) {s with toks:=s.toks+1}->wpAny (model X.prog X.w) X.A (f (.int i t) (.int j u)) Q E s):OpR X f (rI C λ i j=>.int (g i j)):=by
 intro pins s σ H x y v u Q I z B h;obtain⟨i,j,rfl,rfl,D,q⟩:=h;obtain⟨t,rfl⟩:=z;obtain⟨G,rfl⟩:=B;exact n i j t G s _ _ D ⟨.int (g i j),H,I.tok _,⟨_,rfl⟩,q⟩
theorem opI0{f:V1->V1->Sem V1}{g:Int->Int->Int}(n:∀(i j:Int)(t u:Tok)(s:M1)(Q:V1->M1->Prop)(E:V1->M1->Prop),Q (.int (g i j) s.toks) {s with toks:=s.toks+1}->wpAny (model X.prog X.w) X.A (f (.int i t) (.int j u)) Q E s):OpR X f (rI0 λ i j=>.int (g i j)):=by
 intro pins s σ H x y v u Q I z B h;obtain⟨i,j,rfl,rfl,q⟩:=h;obtain⟨t,rfl⟩:=z;obtain⟨D,rfl⟩:=B;exact n i j t D s _ _ ⟨.int (g i j),H,I.tok _,⟨_,rfl⟩,q⟩
theorem opB0{f:V1->V1->Sem V1}{g:Int->Int->Bool}(n:∀(i j:Int)(t u:Tok)(s:M1)(Q:V1->M1->Prop)(E:V1->M1->Prop),Q (.bool (g i j)) s->wpAny (model X.prog X.w) X.A (f (.int i t) (.int j u)) Q E s):OpR X f (rI0 λ i j=>.bl (g i j)):=by
 intro pins s σ H x y v u Q I z B h;obtain⟨i,j,rfl,rfl,q⟩:=h;obtain⟨t,rfl⟩:=z;obtain⟨D,rfl⟩:=B;exact n i j t D s _ _ ⟨.bl (g i j),H,I,rfl,q⟩
def CDiv(i j:Int):Prop:=0<j/\j<1073741824
def CPow(i j:Int):Prop:=0<=j/\j<=1000000/\i.natAbs<2^64
def CMul(i j:Int):Prop:=(-(2^64)<i/\i<2^64)\/(-(2^64)<j/\j<2^64)
theorem CMul.ok{i j:Int}(h:CMul i j):IntMulOk i j:=by
 rcases h with⟨h1,h2⟩|⟨h1,h2⟩
 ·exact .of_left (intBits_le_64 h1 h2)
 ·exact .of_right (intBits_le_64 h1 h2)
theorem Z1q:OpR X (binaryOp .Add) (rI0 λ i j=>.int (i+j)):=opI0 λ _ _ _ _ _ _ _ q=>add_int q
theorem Z1V:OpR X (binaryOp .Sub) (rI0 λ i j=>.int (i-j)):=opI0 λ _ _ _ _ _ _ _ q=>sub_int q
theorem Z3U:OpR X (binaryOp .Mult) (rI CMul λ i j=>.int (i*j)):=opI λ _ _ _ _ _ _ _ n q=>mul_int q n.ok
theorem Z0E:OpR X (binaryOp .FloorDiv) (rI CDiv λ i j=>.int (i/j)):=opI λ i j _ _ _ _ _ n q=>by
 have h1:(0:Int)<j:=n.1;have h2:j<1073741824:=n.2;exact floordiv_int qR (by rw[Int.fdiv_eq_ediv_of_nonneg i qR];exact q) (.inl (PyProof.noPylong_small qR))
theorem Z0C:OpR X (binaryOp .Mod) (rI (λ _ j=>0<j) λ i j=>.int (i%j)):=opI λ i j _ _ _ _ _ n q=>by
 have h1:(0:Int)<j:=n;exact mod_int' qR (by rw[Int.fmod_eq_emod_of_nonneg i qR];exact q)
theorem Z8P:OpR X (inplaceOp .Add) (rI0 λ i j=>.int (i+j)):=opI0 λ _ _ _ _ _ _ _ q=>iadd_int q
end
def scal:V->V->Bool
 | .non,.non=>true| .non,.int _=>true| .int _,.non=>true| .non,.bl _=>true| .bl _,.non=>true| .non,.str _=>true| .str _,.non=>true
 | .int _,.int _=>true| .bl _,.bl _=>true| .str _,.str _=>true| .byt _,.byt _=>true
 | .int _,.str _=>true| .str _,.int _=>true| .bl _,.str _=>true| .str _,.bl _=>true
 |_,_=>false
def rEq:R2:=λ x y H Q=>scal x y=true/\Q (.bl (decide (x=y))) H
def rNe:R2:=λ x y H Q=>scal x y=true/\Q (.bl (!decide (x=y))) H
theorem J0X{i j:Int}:decide (V.int i=V.int j)=(i==j):=by
 rw[qi1];simp
theorem J4M{i j:Bool}:decide (V.bl i=V.bl j)=(i==j):=by
 rw[qi1];simp
theorem J2K{i j:M2}:decide (V.str i=V.str j)=(i==j):=by
 rw[qi1];simp
theorem J2j{i j:Array UInt8}:decide (V.byt i=V.byt j)=(i.toList==j.toList):=by
 rw[qi1];cases i;cases j;simp
section
variable{X:Cx}{a b c:Expr}{ta tb tc:TE}{pos:Pos}
theorem Z0N{pins:List (V0×Obj)}{σ:St}{H:Hp}{s:M1}{Q:VK}{k i:Bool}(I:Inv X pins σ H s)(q:Q (.bl k) H)(e:k=i):EP X pins σ Q (.bool i) s:=by
 subst e;exact⟨.bl k,H,I,rfl,q⟩
theorem Z0B:OpR X (compareOp .Eq) rEq:=by
 intro pins s σ H x y v u Q I B n h;obtain⟨hs,q⟩:=h;cases x with
 |non=>
  cases B;cases y with
  |non=>cases n;exact PySem.EqNone.eq_none_none (Z0N I q (by simp))
  |bl j=>cases n;exact PySem.EqNone.eq_none_bool (Z0N I q (by simp))
  |int j=>obtain⟨z,rfl⟩:=n;exact PySem.EqNone.eq_none_int (Z0N I q (by simp))
  |str j=>obtain⟨z,rfl⟩:=n;exact PySem.EqNone.eq_none_str (Z0N I q (by simp))
  |_=>exact absurd (show false=true from hs) qc0
 |bl i=>
  cases B;cases y with
  |non=>cases n;exact PySem.EqNone.eq_bool_none (Z0N I q (by simp))
  |bl j=>cases n;exact eq_bool (Z0N I q J4M)
  |str j=>obtain⟨z,rfl⟩:=n;exact PySem.EqMixed.eq_bool_str (Z0N I q (by simp))
  |_=>exact absurd (show false=true from hs) qc0
 |int i=>
  obtain⟨t,rfl⟩:=B;cases y with
  |non=>cases n;exact PySem.EqNone.eq_int_none (Z0N I q (by simp))
  |int j=>obtain⟨z,rfl⟩:=n;exact eq_int (Z0N I q J0X)
  |str j=>obtain⟨z,rfl⟩:=n;exact PySem.EqMixed.eq_int_str (Z0N I q (by simp))
  |_=>exact absurd (show false=true from hs) qc0
 |str i=>
  obtain⟨t,rfl⟩:=B;cases y with
  |non=>cases n;exact PySem.EqNone.eq_str_none (Z0N I q (by simp))
  |bl j=>cases n;exact PySem.EqMixed.eq_str_bool (Z0N I q (by simp))
  |int j=>obtain⟨z,rfl⟩:=n;exact PySem.EqMixed.eq_str_int (Z0N I q (by simp))
  |str j=>obtain⟨z,rfl⟩:=n;exact eq_str (Z0N I q J2K)
  |_=>exact absurd (show false=true from hs) qc0
 |byt i=>
  obtain⟨t,rfl⟩:=B;cases y with
  |byt j=>obtain⟨z,rfl⟩:=n;exact W.eq_bytes (Z0N I q J2j)
  |_=>exact absurd (show false=true from hs) qc0
 |_=>cases y<;>exact absurd (show false=true from hs) qc0
theorem J6r:OpR X (compareOp .NotEq) rNe:=by
 intro pins s σ H x y v u Q I B n h;obtain⟨hs,q⟩:=h;cases x with
 |non=>
  cases B;cases y with
  |non=>cases n;exact PySem.EqNone.ne_none_none (Z0N I q (by simp))
  |bl j=>cases n;exact PySem.EqNone.ne_none_bool (Z0N I q (by simp))
  |int j=>obtain⟨z,rfl⟩:=n;exact PySem.EqNone.ne_none_int (Z0N I q (by simp))
  |str j=>obtain⟨z,rfl⟩:=n;exact PySem.EqNone.ne_none_str (Z0N I q (by simp))
  |_=>exact absurd (show false=true from hs) qc0
 |bl i=>
  cases B;cases y with
  |non=>cases n;exact PySem.EqNone.ne_bool_none (Z0N I q (by simp))
  |bl j=>cases n;exact ne_bool (Z0N I q (congrArg not J4M))
  |str j=>obtain⟨z,rfl⟩:=n;exact PySem.EqMixed.ne_bool_str (Z0N I q (by simp))
  |_=>exact absurd (show false=true from hs) qc0
 |int i=>
  obtain⟨t,rfl⟩:=B;cases y with
  |non=>cases n;exact PySem.EqNone.ne_int_none (Z0N I q (by simp))
  |int j=>obtain⟨z,rfl⟩:=n;exact ne_int (Z0N I q (congrArg not J0X))
  |str j=>obtain⟨z,rfl⟩:=n;exact PySem.EqMixed.ne_int_str (Z0N I q (by simp))
  |_=>exact absurd (show false=true from hs) qc0
 |str i=>
  obtain⟨t,rfl⟩:=B;cases y with
  |non=>cases n;exact PySem.EqNone.ne_str_none (Z0N I q (by simp))
  |bl j=>cases n;exact PySem.EqMixed.ne_str_bool (Z0N I q (by simp))
  |int j=>obtain⟨z,rfl⟩:=n;exact PySem.EqMixed.ne_str_int (Z0N I q (by simp))
  |str j=>obtain⟨z,rfl⟩:=n;exact ne_str (Z0N I q (congrArg not J2K))
  |_=>exact absurd (show false=true from hs) qc0
 |byt i=>
  obtain⟨t,rfl⟩:=B;cases y with
  |byt j=>obtain⟨z,rfl⟩:=n;exact W.ne_bytes (Z0N I q (congrArg not J2j))
  |_=>exact absurd (show false=true from hs) qc0
 |_=>cases y<;>exact absurd (show false=true from hs) qc0
theorem J6p:OpR X (compareOp .Lt) (rI0 λ i j=>.bl (decide (i<j))):=opB0 λ _ _ _ _ _ _ _ q=>lt_int q
theorem J7x:OpR X (compareOp .Gt) (rI0 λ i j=>.bl (decide (j<i))):=opB0 λ _ _ _ _ _ _ _ q=>gt_int q
theorem Z6l:OpR X (compareOp .Is) (λ x y H Q=>y=.non/\Q (.bl (decide (x=.non))) H):=by
 intro pins s σ H x y v u Q I i j h;obtain ⟨rfl,q⟩:=h;cases j;refine is_none_gen (Z0N I q ?_);cases x <;> first
  |(cases i;rfl)
  |(obtain⟨t,rfl⟩:=i;rfl)
theorem Z4r:OpR X (compareOp .IsNot) (λ x y H Q=>y=.non/\Q (.bl (!decide (x=.non))) H):=by
 intro pins s σ H x y v u Q I i j h;obtain ⟨rfl,q⟩:=h;cases j;refine isnot_none_gen (Z0N I q ?_);cases x <;> first
  |(cases i;rfl)
  |(obtain⟨t,rfl⟩:=i;rfl)
theorem Z1R(b:Expr){op:CmpOp}(h:op≠.In:=by decide)(h2:op≠.NotIn:=by decide):behindInMarks op b=false:=by
 have i:(op==CmpOp.In)=false:=by cases op<;>first|rfl|exact absurd rfl h
 have j:(op==CmpOp.NotIn)=false:=by cases op<;>first|rfl|exact absurd rfl h2
 cases b<;>simp[behindInMarks,i,j]
theorem Z0W{op:CmpOp}{r:R2}(i:OpR X (compareOp op) r)(j:PE X a ta)(n:PE X b tb)(z:behindInMarks op b=false):PE X (.Compare a [op] [b] pos) (tOp r ta tb):=by
 intro pins s σ H Q I h;exact wpAny_Compare1 (binT j n I h λ v u B x y H2 D G J q=>i pins B σ H2 x y v u Q D G J q) z
def Z6R(t:TE):TT:=λ σ H Q=>t σ H λ x H'=>∃k,x=.bl k/\Q k H'
theorem Z0Y{op:CmpOp}{r:R2}(i:OpR X (compareOp op) r)(j:PE X a ta)(n:PE X b tb)(q:behindInMarks op b=false):PT X (.Compare a [op] [b] pos) (Z6R (tOp r ta tb)):=by
 intro pins s σ H Q I h;refine wpAny_isTrue_Compare1 (thn (j pins s σ H _ I h) λ v B ⟨x,H1,D,r1,G⟩=>thn (n pins B σ H1 _ D G) λ u J ⟨y,H2,L,r2,M⟩=>thn (i pins J σ H2 x y v u _ L r1 r2 M) λ c R ⟨z,H3,N,r3,k,e,O⟩=>?_) q;subst e;cases r3;exact wpAny_truthy_bool ⟨H3,N,O⟩
def TruV(K:X0)(x:V)(H:Hp)(k:Bool):Prop:=
 match x with
 | .non=>k=false
 | .bl b=>k=b
 | .int i=>k=(i !=0)
 | .str y=>y.length<=sizeLine/\k=((y.length:Int)!=0)
 | .byt y=>y.size<=sizeLine/\k=((y.size:Int)!=0)
 | .ref p=>(∃xs,SqL K H p xs/\k=!xs.isEmpty)\/(∃xs,SqT K H p xs/\k=!xs.isEmpty)\/∃j,H p=some (.dK j)/\k=!j.isEmpty
 |_=>False
theorem J0n{i:Type}{kvs:List (i×V)}{vs:List (i×V1)}(r:KV kvs vs):(!vs.isEmpty)=!kvs.isEmpty:=by
 cases r<;>rfl
theorem Z5N{xs:List V}{its:List V1}(r:Vals xs its):(!its.toArray.isEmpty)=!xs.isEmpty:=by
 cases r<;>simp
theorem Z5r:(sizeLine:Nat)<2^63:=by rw[sizeLine_eq];decide
theorem J7I:TruR X (λ x H Q=>∃k,TruV X.K x H k/\Q k H):=by
 intro pins s σ H x v Q I B h;obtain⟨k,e,q⟩:=h;have hl:=Z5r;have hs:sizeLine=16777216:=sizeLine_eq;cases x with
 |non=>
  cases B;have j:k=false:=e;subst j;exact truthy_none ⟨H,I,q⟩
 |bl b=>
  cases B;have j:k=b:=e;subst j;exact wpAny_truthy_bool ⟨H,I,q⟩
 |int i=>
  obtain⟨t,rfl⟩:=B;have j:k=(i !=0):=e;subst j;exact PySem.P.truthy_int ⟨H,I,q⟩
 |str y=>
  obtain⟨t,rfl⟩:=B;obtain⟨L,j⟩:y.length<=sizeLine/\k=((y.length:Int)!=0):=e;subst j;exact PySem.P.truthy_str qR ⟨H,I.tok _,q⟩
 |byt y=>
  obtain⟨t,rfl⟩:=B;obtain⟨L,j⟩:y.size<=sizeLine/\k=((y.size:Int)!=0):=e;subst j;exact W.truthy_bytes qR ⟨H,I.tok _,q⟩
 |ref p=>
  cases B;have j:(∃xs,SqL X.K H p xs/\k=!xs.isEmpty)\/(∃xs,SqT X.K H p xs/\k=!xs.isEmpty)\/∃n,H p=some (.dK n)/\k=!n.isEmpty:=e;rcases j with⟨xs,D,j⟩|⟨xs,D,j⟩|⟨n,D,j⟩
  ·subst j;obtain⟨G,r,pl,J⟩:=I.list D;have z:=r.length;exact wpAny_truthy_list pl.isList (by simp only[qb1];lia) ⟨H,I.tok _,by rw[Z5N r];exact q⟩
  ·subst j;obtain⟨G,r,pl,J⟩:=I.tuple D;have z:=r.length;exact truthy_tuple pl (by simp only[qb1];lia) ⟨H,I.tok _,by rw[Z5N r];exact q⟩
  ·subst j;obtain⟨J,M,vs,r,m⟩:n.length<=sizeLine/\(p==sysModules)=false/\∃vs,KV n vs/\s.heap.DictOf (Z0M X.prog X.w) p vs:=I.hok p _ D;have z:n.length=vs.length:=Paired.length r;exact wpAny_truthy_dict M m qR ⟨H,I.tok _,by rw[J0n r];exact q⟩
 |_=>exact(show False from e).elim
theorem Z8K{x:V}{us:List V1}(r:Vals [x] us):∃u,us=[u]/\RelV x u:=by
 cases r with
 |cons r1 r2=>cases r2;exact⟨_,rfl,r1⟩
theorem J9k{x y:V}{us:List V1}(r:Vals [x,y] us):∃u w',us=[u,w']/\RelV x u/\RelV y w':=by
 cases r with
 |cons r1 r2=>
  cases r2 with
  |cons r3 i=>cases i;exact⟨_,_,rfl,r1,r3⟩
theorem J1n(y:X.calm=true):Z3V X (.builtin "max") (λ xs H Q=>∃i j,xs=[.int i,.int j]/\Q (.int (if j>i then j else i)) H):=by
 intro pins s σ H xs us Q I r h;obtain⟨i,j,rfl,q⟩:=h;obtain⟨u,z,rfl,⟨t,rfl⟩,⟨B,rfl⟩⟩:=J9k r;refine max_two_ints (I.ok.hd y) λ h' tk k=>⟨_,H,I.kept k,?_,q⟩;by_cases n:j>i
 ·rw[if_pos n,if_pos n];exact⟨_,rfl⟩
 ·rw[if_neg n,if_neg n];exact⟨_,rfl⟩
theorem Z4f:Z3V X (.type "int") (λ xs H Q=>(∃i,xs=[.int i]/\Q (.int i) H)\/∃k,xs=[.bl k]/\Q (.int (if k then 1 else 0)) H):=by
 intro pins s σ H xs us Q I r h;rcases h with⟨i,rfl,q⟩|⟨k,rfl,q⟩
 ·obtain⟨u,rfl,t,rfl⟩:=Z8K r;exact call_int_int ⟨.int i,H,I,⟨_,rfl⟩,q⟩
 ·obtain⟨u,rfl,r1⟩:=Z8K r;cases r1;exact call_int_bool ⟨.int (if k then 1 else 0),H,I.tok _,⟨_,rfl⟩,q⟩
end
end L2
namespace L2
open PySem PySem.Spec PyProof.Rows
structure ObjM(h:Z3)(x dx C:V0)(mA:M2->Option V1):Prop where
 obj:h.get? x=some (W.instObj C dx)
 ns:h.Ns1 dx mA
 ne:dx≠x
theorem J1H{h:Z3}{dx:V0}{mA:M2->Option V1}(n:h.Ns1 dx mA):∃od,h.get? dx=some od/\∀name,W.lookIn name od=some (mA name):=by
 obtain⟨o,es,J,j,hd,B,_,D⟩:=n;refine⟨o,j,λ name=>?_⟩;have e:=D name;unfold nsFind findBy at e;rw[<-Array.find?_toList]at e;unfold W.lookIn;rw[hd];dsimp only;split
 ·rename_i y q;rw[q]at e;exact congrArg some e
 ·rename_i q;rw[q]at e;have a:es.toList.any (·.refKey)=false:=by
   rw[List.any_eq_false];intro y G;obtain⟨z,t,i⟩:=B y (ql7.mp G);simp[DictEntry.refKey,i]
  have I:¬es.toList.any (·.refKey)=true:=by rw[a];exact qc0
  rw[if_neg I];exact congrArg some e
theorem ObjM.look{h:Z3}{x dx C:V0}{mA:M2->Option V1}(I:ObjM h x dx C mA):∃od,W.InstAt h x (W.instObj C dx) C (some od)/\∀name,W.lookIn name od=some (mA name):=
 let⟨od,i,hl⟩:=J1H I.ns
 ⟨od,⟨I.obj,rfl,rfl,i⟩,hl⟩
section
variable{prog:Program}{w:Y3}{A:M3}{E:V1->M1->Prop}{s:M1}{K:X0}{x dx C f:V0}{mA:M2->Option V1}{name:M2}{v:V1}
theorem J5m{i:Bool}{Q:V1->M1->Prop}(X:K.In s.heap)(I:ObjM s.heap x dx C mA)(n:W.plainGet K C name=true)(q:W.hasDictIn K C=true)(y:W.findIn K (.ref C) name=some none)(z:mA name=some v)(j:W.handedIn v=true)(h:Q v {s with toks:=s.toks+1}):wpAny (model prog w) A (getAttr (.ref x) name i) Q E s:=by
 obtain⟨B,J,hl⟩:=I.look;exact W.get_value X J (W.plainGet_of n).1 (W.findObj_own q y rfl (by rw[hl,z])) j h
theorem J3g{pl:Sem Bool}{Q:V1×List V1->M1->Prop}(X:K.In s.heap)(I:ObjM s.heap x dx C mA)(i:W.plainGet K C name=true)(j:W.findIn K (.ref C) name=some (some (.ref f)))(n:W.isFn K (.ref f)=true)(q:mA name=none)(h:Q (.ref f,[.ref x]) s):wpAny (model prog w) A (getMethod (.ref x) name pl) Q E s:=by
 obtain⟨y,J,hl⟩:=I.look;exact W.method_fn X J (W.plainGet_of i).1 (W.plainGet_of i).2 j (beq_iff_eq.mp n) (by show(W.lookIn name y).map (·.isSome)=some false;rw[hl,q];rfl) h
theorem J5W{D:List M2}{Q:Unit->M1->Prop}(X:K.In s.heap)(I:ObjM s.heap x dx C mA)(hs:W.findIn K (.ref C) "__setattr__"=some (some (.builtin "object.__setattr__")))(G:W.plainOver K C=true)(L:W.takerIn K C name=some none)(M:W.hasDictIn K C=true)(N:PySem.Within mA D)(hsz:D.length<=sizeLine)(h:∀h',ObjM h' x dx C (λ y=>if y=name then some v else mA y)->Heap.SameBut dx s.heap h'->Q () {s with heap:=h',toks:=s.toks+2}):wpAny (model prog w) A (setAttr (.ref x) name v) Q E s:=by
 obtain⟨Y,J,hl⟩:=I.look;refine W.set_plain X J hs (W.osa_open (s:={s with toks:=s.toks+1}) (r:=none) X J G L λ b=>?_);obtain⟨Z,O,n⟩:=W.any_some M;have R:s.heap.get? x=some ⟨.ref C,some dx,.plain,#[]⟩:=I.obj;refine wpAny_bind (wpAny_pure (wpAny_bind (wpAny_bind (wpAny_loadPart R (wpAny_bind (W.Looks.here (s:={s with toks:=s.toks+1}) (W.looks_clsIn X O) ?_))))));rw[n];refine wpAny_pure (a:=some dx) (wpAny_bind (wpAny_pure (wpAny_bind ?_)));refine wpAny_nsSet1 (s:={s with toks:=s.toks+1}) I.ns λ h' i j=>?_;obtain⟨oD,S,U,q,z,B⟩:=i.count (PySem.Within.cons name v N);refine wpAny_bind (wpAny_lookBehind q (by rw[z];exact pastItsLine_dict (qa9 B (by rw[qb2];lia))) ?_);exact wpAny_pure (h _ ⟨(j.2 _ (Ne.symm I.ne)).trans I.obj,i,I.ne⟩ j)
theorem J3Q{R:Result->M1->Prop}{vs:List V1}{kw:List (M2×V1)}(X:K.In s.heap)(i:W.makesIn K C=true)(hi:W.findIn K (.ref C) "__init__"=some (some (.ref f)))(j:W.typeIn K (.ref f)=some (.type "function"))(h:codeAny (model prog w) (A.under (.builtin "type.__call__" ⟨.ref C::vs,kw⟩)) (.call (.ref f) ⟨.ref (s.heap.objs.size+1)::vs,kw⟩) (W.InitBack (s.heap.objs.size+1) R) {s with heap:=(s.heap.push W.emptyDict).push (W.instObj C s.heap.objs.size)}):codeAny (model prog w) A (.call (.ref C) ⟨vs,kw⟩) R s:=by
 obtain⟨n,g,d,t,q⟩:=s;exact W.make_core (W.makes_of X i) (W.looks_findIn X hi) (λ self=>W.bind_fn X self j) (.inl rfl) h
end
def putF(f:M2)(v:V):List (M2×V)->List (M2×V)
 |[]=>[(f,v)]
 |(g,x)::r=>if g=f then(g,v)::r else(g,x)::putF f v r
theorem Z5c(f g:M2)(v:V):∀fs:List (M2×V),(putF f v fs).lookup g=if g=f then some v else fs.lookup g
 |[]=>by
  show qf0 g [(f,v)]=_;by_cases h:g=f
  ·have i:(g==f)=true:=beq_iff_eq.mpr h;simp only[qf0,i,if_pos h]
  ·have i:(g==f)=false:=beq_eq_false_iff_ne.mpr h;simp only[qf0,i,if_neg h]
 |(k,x)::r=>by
  have n:=Z5c f g v r;rw[show putF f v ((k,x)::r)=(if k=f then(k,v)::r else(k,x)::putF f v r)from rfl];by_cases j:k=f
  ·rw[if_pos j];by_cases h:g=k
   ·have i:(g==k)=true:=beq_iff_eq.mpr h;simp only[qf0,i,if_pos (h.trans j)]
   ·have i:(g==k)=false:=beq_eq_false_iff_ne.mpr h;simp only[qf0,i,if_neg (λ e:g=f=>h (e.trans j.symm))]
  ·rw[if_neg j];by_cases h:g=k
   ·have i:(g==k)=true:=beq_iff_eq.mpr h;simp only[qf0,i,if_neg (λ e:g=f=>j (h.symm.trans e))]
   ·have i:(g==k)=false:=beq_eq_false_iff_ne.mpr h;simp only[qf0,i];exact n
theorem Z4Z(f:M2)(v:V):∀fs:List (M2×V),f∈(putF f v fs).map (·.1)/\∀g,g∈fs.map (·.1)->g∈(putF f v fs).map (·.1)
 |[]=>⟨by simp[putF],λ g h=>by simp at h⟩
 |(k,x)::r=>by
  obtain⟨j,n⟩:=Z4Z f v r;rw[show putF f v ((k,x)::r)=(if k=f then(k,v)::r else(k,x)::putF f v r)from rfl];by_cases i:k=f
  ·rw[if_pos i];subst i;exact⟨by simp,λ g h=>by simpa using h⟩
  ·rw[if_neg i];refine⟨?_,λ g h=>?_⟩
   ·rw[qb7];exact qc4 _ j
   ·rw[qb7]at h ⊢;rcases qa4.mp h with e|e
    ·exact qa4.mpr (.inl e)
    ·exact qc4 _ (n g e)
theorem Z5G(f:M2)(v:V):∀fs:List (M2×V),(putF f v fs).length<=fs.length+1
 |[]=>by simp[putF]
 |(k,x)::r=>by
  have j:=Z5G f v r;rw[show putF f v ((k,x)::r)=(if k=f then(k,v)::r else(k,x)::putF f v r)from rfl];by_cases i:k=f
  ·rw[if_pos i,qb2,qb2];lia
  ·rw[if_neg i,qb2,qb2];lia
theorem RelO.some_of{v:V}{o:Option V1}(r:RelO (some v) o):∃u,o=some u/\RelV v u:=by
 cases o with
 |none=>exact(show False from r).elim
 |some u=>exact⟨u,rfl,r⟩
theorem RelO.none_of{o:Option V1}(r:RelO none o):o=none:=by
 cases o with
 |none=>rfl
 |some u=>exact(show False from r).elim
theorem J1U{v:V}{u:V1}(r:RelV v u):W.handedIn u=true:=by
 cases v with
 |non=>cases(show u=Value.none from r);rfl
 |bl b=>cases(show u=Value.bool b from r);rfl
 |int i=>obtain⟨t,e⟩:=(show ∃t,u=Value.int i t from r);cases e;rfl
 |str x=>obtain⟨t,e⟩:=(show ∃t,u=Value.str x t from r);cases e;rfl
 |byt b=>obtain⟨t,e⟩:=(show ∃t,u=Value.bytes b t from r);cases e;rfl
 |flt b=>obtain⟨t,e⟩:=(show ∃t,u=Value.float b t from r);cases e;rfl
 |ref a=>cases(show u=Value.ref a from r);rfl
 |ty n=>cases(show u=Value.type n from r);rfl
section
variable{P:Program}{w:Y3}{H H':Hp}{h h':Z3}{a C dx:V0}{fs fs':List (M2×V)}
theorem Z6T(i:HOk P w H h)(e:H a=some (.ins C dx fs)):∃mA,ObjM h a dx C mA/\(∀f,RelO (fs.lookup f) (mA f))/\PySem.Within mA (fs.map (·.1))/\fs.length<=1000/\H dx=some (.own a):=by
 obtain⟨d,z,j,y,mA,n,r,q⟩:=(show ObjOk P w H h a (.ins C dx fs)from i a _ e);exact⟨mA,⟨y,n,j⟩,r,q,z,d⟩
end
structure Cls(K:X0)(C:V0):Prop where
 pg:W.plainGet K C Str.empty=true
 hd:W.hasDictIn K C=true
 po:W.plainOver K C=true
 sa:W.findIn K (.ref C) "__setattr__"=some (some (.builtin "object.__setattr__"))
theorem Cls.get{K:X0}{C:V0}(c:Cls K C)(f:M2):W.plainGet K C f=true:=c.pg
def NoAttr(K:X0)(C:V0)(f:M2):Prop:=W.findIn K (.ref C) f=some none
theorem NoAttr.taker{K:X0}{C:V0}{f:M2}(n:NoAttr K C f):W.takerIn K C f=some none:=by
 unfold W.takerIn;rw[show W.findIn K (.ref C) f=some none from n];rfl
structure Con(K:X0)(C:V0)(f:M2)(v:V)(u:V1):Prop where
 at_:W.findIn K (.ref C) f=some (some u)
 rel:RelV v u
 get:W.specialIn K u "__get__"=some none
 cp:W.copiedNames.contains f=false
structure Meth(K:X0)(C:V0)(m:M2)(f:V0):Prop where
 at_:W.findIn K (.ref C) m=some (some (.ref f))
 fn:W.isFn K (.ref f)=true
 kp:W.keepIn K (.ref f)=true
section
variable{X:Cx}{pins:List (V0×Obj)}{σ:St}{H:Hp}{s:M1}{a C dx:V0}{fs:List (M2×V)}{f:M2}{v:V}{A:M3}{E:V1->M1->Prop}
theorem J0z{b:Bool}{Q:V1->M1->Prop}(I:Inv X pins σ H s)(e:H a=some (.ins C dx fs))(c:Cls X.K C)(n:NoAttr X.K C f)(l:fs.lookup f=some v)(h:∀u s',Inv X pins σ H s'->RelV v u->Q u s'):wpAny (model X.prog X.w) A (getAttr (.ref a) f b) Q E s:=by
 obtain⟨mA,O,r,_,_,_⟩:=Z6T I.hok e;obtain⟨u,j,i⟩:=RelO.some_of (v:=v) (o:=mA f) (by rw[<-l];exact r f);exact J5m I.kIn O (c.get f) c.hd n j (J1U i) (h u _ (I.tok _) i)
theorem Z4s{m:M2}{g:V0}{pl:Sem Bool}{Q:V1×List V1->M1->Prop}(I:Inv X pins σ H s)(e:H a=some (.ins C dx fs))(c:Cls X.K C)(k:Meth X.K C m g)(l:fs.lookup m=none)(h:Q (.ref g,[.ref a]) s):wpAny (model X.prog X.w) A (getMethod (.ref a) m pl) Q E s:=by
 obtain⟨mA,O,r,_,_,_⟩:=Z6T I.hok e;have i:mA m=none:=RelO.none_of (by rw[<-l];exact r m);exact J3g I.kIn O (c.get m) k.at_ k.fn i h
theorem J0P{y:V}{u:V1}{Q:Unit->M1->Prop}(I:Inv X pins σ H s)(e:H a=some (.ins C dx fs))(c:Cls X.K C)(n:NoAttr X.K C f)(hl:fs.length<1000)(D:RelV y u)(h:∀s',Inv X pins σ (upd H a (.ins C dx (putF f y fs))) s'->Q () s'):wpAny (model X.prog X.w) A (setAttr (.ref a) f u) Q E s:=by
 obtain⟨mA,O,r,j,_,B⟩:=Z6T I.hok e;have G:(fs.map (·.1)).length<=sizeLine:=by rw[qa1,sizeLine_eq];lia
 refine J5W I.kIn O c.sa c.po n.taker c.hd j G λ h' i J=>h _ ?_;have hd:∃o,h'.get? dx=some o:=let⟨o,_,_,L,_⟩:=i.ns;⟨o,L⟩;refine I.write (x:=a) (e:=dx) (by rw[e];exact True.intro) (.inr B) (λ b q M z=>(J.2 b M).trans z) hd ?_;refine⟨by rw[Z0k O.ne];exact B,?_,O.ne,i.obj,_,i.ns,λ g=>?_,λ g N=>?_⟩
 ·have:=Z5G f y fs;lia
 ·show RelO ((putF f y fs).lookup g) (if g=f then some u else mA g);rw[Z5c];by_cases q:g=f
  ·rw[if_pos q,if_pos q];exact D
  ·rw[if_neg q,if_neg q];exact r g
 ·by_cases q:g=f
  ·rw[q];exact(Z4Z f y fs).1
  ·refine(Z4Z f y fs).2 g (j g λ z=>N ?_);show(if g=f then some u else mA g)=none;rw[if_neg q];exact z
theorem Inv.made(I:Inv X pins σ H s):Inv X pins σ (upd (upd H s.heap.objs.size (.own (s.heap.objs.size+1))) (s.heap.objs.size+1) (.ins C s.heap.objs.size [])) {s with heap:=(s.heap.push W.emptyDict).push (W.instObj C s.heap.objs.size)}:=by
 have i:(s.heap.push W.emptyDict).get? s.heap.objs.size=some W.emptyDict:=Heap.get?_push_size s.heap rfl;have n:((s.heap.push W.emptyDict).push (W.instObj C s.heap.objs.size)).get? (s.heap.objs.size+1)=some (W.instObj C s.heap.objs.size):=by
  have:=Heap.get?_push_size (s.heap.push W.emptyDict) (o:=W.instObj C s.heap.objs.size) rfl
  rwa [Heap.size_push]at this
 have z:(s.heap.push W.emptyDict).Ns s.heap.objs.size (λ _=>none):=⟨W.emptyDict,#[],_,i,rfl,(λ e B=>absurd B (by simp)),λ _=>rfl⟩;have D:=I.laid (a:=s.heap.objs.size) (o:=.own (s.heap.objs.size+1)) (h':=s.heap.push W.emptyDict) (t':=s.toks) (λ b u q=>Heap.get?_push_of_some _ q) (qa0 _) ⟨_,i⟩;refine D.laid (a:=s.heap.objs.size+1) (o:=.ins C s.heap.objs.size []) (t':=s.toks) (λ b u q=>Heap.get?_push_of_some _ q) (qg7 (Heap.size_push _ _)) ?_;have j:s.heap.objs.size≠s.heap.objs.size+1:=qb3 (qi2 _);refine⟨by rw[Z0k j,Z0d],qb0 _,j,n,λ _=>none,(Heap.Ns1.of_empty z).at λ o q=>Heap.get?_push_of_some _ q,λ _=>True.intro,λ y G=>absurd rfl G⟩
theorem J5G{prog:Program}{w:Y3}{env:Env}{e:Expr}{f:M2}{pos:Pos}{s:M1}{Q:V1->M1->Prop}(j:attributeBase e f env (eval e env)=eval e env)(h:wpAny (model prog w) A (eval e env) (λ o i=>wpAny (model prog w) A (getAttr o f true) Q E i) E s):wpAny (model prog w) A (eval (.Attribute e f pos) env) Q E s:=
 Attribute_any_ h (by rw[arm_eval_Attribute,j])
end
def InOp(X:Cx)(op:Operator)(rd:V->V->Hp->VK->Prop):Prop:=
 ∀(pins:List (V0×Obj))(s:M1)(σ:St)(H:Hp)(x y:V)(u v:V1)(Q:VK),Inv X pins σ H s->RelV x u->RelV y v->rd x y H Q->wpAny (model X.prog X.w) X.A (inplaceOp op u v) (EP X pins σ Q) X.xe s
section
variable{X:Cx}{o e value:Expr}{f:M2}{pos pos' tpos:Pos}{ta tv:TE}
theorem J5v{pl:Sem Bool}{m:M2}{apos:Pos}{args:List Expr}{pins:List (V0×Obj)}{s:M1}{σ:St}{H:Hp}{Q:V1->M1->Prop}{te:TE}(z:PE X e te)(I:Inv X pins σ H s)(h:te σ H λ x H1=>∃a C dx fs g,x=.ref a/\H1 a=some (.ins C dx fs)/\Cls X.K C/\Meth X.K C m g/\fs.lookup m=none/\∀i,Inv X pins σ H1 i->wpAny (model X.prog X.w) X.A (callWith pos (.ref g) [.ref a] (backTo pos (starEach args X.env)) (backToKw pos (keywordEach [] X.env))) Q X.xe i)(B:eval (.Call (.Attribute e m apos) args [] pos) X.env=(do
   let n<-eval e X.env
   standAt apos.atName
   let(f,first)<-holding [n] (getMethod n m pl)
   callWith pos f first (backTo pos (starEach args X.env)) (backToKw pos (keywordEach [] X.env)))):wpAny (model X.prog X.w) X.A (eval (.Call (.Attribute e m apos) args [] pos) X.env) Q X.xe s:=by
 refine W.methodCall_KW (pl:=pl) (thn (z pins s σ H _ I h) λ u i j=>?_) B;obtain⟨x,H1,y,D,a,C,dx,fs,g,ex,G,c,k,l,q⟩:=j;subst ex;obtain rfl:u=Value.ref a:=D;exact Z4s y G c k l (q i y)
end
section
variable{X:Cx}{pins:List (V0×Obj)}{σ:St}{H:Hp}{s:M1}{A:M3}{E:V1->M1->Prop}{Q:V1->M1->Prop}{c:V1}{b:Bool}
inductive TyOf(K:X0)(H:Hp):V->V1->Prop where
 |non:TyOf K H .non (.type "NoneType")
 |bl(x:Bool):TyOf K H (.bl x) (.type "bool")
 |int(i:Int):TyOf K H (.int i) (.type "int")
 |str(x:M2):TyOf K H (.str x) (.type "str")
 |flt(x:UInt64):TyOf K H (.flt x) (.type "float")
 |lst{a:V0}{xs:List V}(e:H a=some (.lst xs)):TyOf K H (.ref a) (.type "list")
 |frz{a:V0}{o:Obj}{xs:List V}(e:H a=some (.frz o (.lst xs))):TyOf K H (.ref a) (.type "list")
 |tup{a:V0}{xs:List V}(e:H a=some (.tup xs)):TyOf K H (.ref a) (.type "tuple")
 |dK{a:V0}{kvs:List (Key×V)}(e:H a=some (.dK kvs)):TyOf K H (.ref a) (.type "dict")
 |dT{a:V0}{kvs:List (List Key×V)}(e:H a=some (.dT kvs)):TyOf K H (.ref a) (.type "dict")
 |ins{a C dx:V0}{fs:List (M2×V)}(e:H a=some (.ins C dx fs))(cl:Cls K C)(ha:W.findIn K (.ref C) "__class__"=some (some (.builtin "object.__class__")))
   (hn:W.specialIn K (.builtin "object.__class__") "__get__"=some (some (.builtin "getset_descriptor.__get__"))) (htk:W.takesIn K (.builtin "object.__class__")=some true)
   (hm:W.mroIn K C (.type "object")=some true):TyOf K H (.ref a) (.ref C)
theorem J0S{x:V}{u t:V1}(I:Inv X pins σ H s)(j:RelV x u)(ty:TyOf X.K H x t)(e:W.kitOne X.K t c=some b)(h:∀tk,Q (.bool b) {s with toks:=tk}):wpAny (model X.prog X.w) A (call (.builtin "isinstance") [u,c]) Q E s:=by
 cases ty with
 |non=>cases(show u=Value.none from j);exact W.kia_one W.kitx_none I.kIn True.intro e (λ z=>nomatch z) h
 |bl y=>cases(show u=Value.bool y from j);exact W.kia_one W.kitx_bool I.kIn True.intro e (λ z=>nomatch z) h
 |int i=>obtain⟨t,q⟩:=(show ∃t,u=Value.int i t from j);cases q;exact W.kia_one W.kitx_int I.kIn True.intro e (λ z=>nomatch z) h
 |str y=>obtain⟨t,q⟩:=(show ∃t,u=Value.str y t from j);cases q;exact W.kia_one W.kitx_str I.kIn True.intro e (λ z=>nomatch z) h
 |flt y=>obtain⟨t,q⟩:=(show ∃t,u=Value.float y t from j);cases q;exact W.kia_one W.kitx_float I.kIn True.intro e (λ z=>nomatch z) h
 |@lst a xs B=>
  cases(show u=Value.ref a from j);obtain⟨_,_,n,_,h1⟩:=(show ObjOk X.prog X.w H s.heap a (.lst xs)from I.hok a _ B);exact W.kia_one W.kitx_list I.kIn ⟨_,h1,rfl⟩ e (λ z=>nomatch z) h
 |@frz a M xs B=>
  cases(show u=Value.ref a from j);obtain⟨_,_,_,n,_,h1⟩:=(show ObjOk X.prog X.w H s.heap a (.frz M (.lst xs))from I.hok a _ B);exact W.kia_one W.kitx_list I.kIn ⟨_,h1,rfl⟩ e (λ z=>nomatch z) h
 |@tup a xs B=>
  cases(show u=Value.ref a from j);obtain⟨_,_,_,p⟩:=(show ObjOk X.prog X.w H s.heap a (.tup xs)from I.hok a _ B);obtain⟨o,h1,h2,_⟩:=p;exact W.kia_one W.kitx_tuple I.kIn ⟨o,h1,h2⟩ e (λ z=>nomatch z) h
 |@dK a D B=>
  cases(show u=Value.ref a from j);obtain⟨_,_,vs,_,p⟩:=(show ObjOk X.prog X.w H s.heap a (.dK D)from I.hok a _ B);obtain⟨o,es,N,h1,h2,_⟩:=p;exact W.kia_one W.kitx_dict I.kIn ⟨o,h1,h2.1⟩ e (λ z=>nomatch z) h
 |@dT a D B=>
  cases(show u=Value.ref a from j);obtain⟨_,_,xs,_,o,es,N,h1,h2,_⟩:=(show ObjOk X.prog X.w H s.heap a (.dT D)from I.hok a _ B);exact W.kia_one W.kitx_dict I.kIn ⟨o,h1,h2.1⟩ e (λ z=>nomatch z) h
 |@ins a C dx fs B L R S G U=>
  cases(show u=Value.ref a from j);obtain⟨mA,O,_⟩:=Z6T I.hok B;obtain⟨Y,J,_⟩:=O.look;exact W.kia_one (W.kitx_own (L.get _) L.hd R S G U) I.kIn J e (λ z=>nomatch z) h
end
end L2
namespace L2
open PySem PySem.Spec PyProof.Rows
structure Room(k:Nat)(A:M3):Prop where
 hd:A.handled=none
 dp:A.depth+3*k+5<recursionLimit
 un:A.units+16*k+200<cLine
 gd:A.guards=some []
theorem Room.mono{j k:Nat}{A:M3}(r:Room k A)(h:j<=k):Room j A:=⟨r.hd,by have:=r.dp;lia,by have:=r.un;lia,r.gd⟩
theorem Room.deeper{k:Nat}{A:M3}(r:Room (k+1) A)(env:Env):Room k (A.deeper env):=
 ⟨r.hd,by have:=r.dp;show A.depth+1+3*k+5<_;lia,by have:=r.un;show A.units+3+16*k+200<_;lia,r.gd⟩
theorem J0Q{A:M3}{C:V0}{us:List V1}{kw:List (M2×V1)}:(A.under (.builtin "type.__call__" ⟨.ref C::us,kw⟩)).depth=A.depth+1:=by
 first|rfl|simp[Around.under,Code.weight,Code.isCreation,Code.isGuard,Code.isCaller,Code.frames,Code.isFrame,guardIds]
theorem J0q{A:M3}{C:V0}{us:List V1}{kw:List (M2×V1)}:(A.under (.builtin "type.__call__" ⟨.ref C::us,kw⟩)).units=A.units+1:=by
 first|rfl|simp[Around.under,Code.cUnits,Code.frames,Code.isFrame]
theorem Room.make{k:Nat}{A:M3}(r:Room (k+1) A)(C:V0)(us:List V1)(kw:List (M2×V1)):Room k (A.under (.builtin "type.__call__" ⟨.ref C::us,kw⟩)):=
 ⟨r.hd,by have:=r.dp;rw[J0Q];lia,by have:=r.un;rw[J0q];lia,r.gd⟩
theorem Room.depth{k:Nat}{A:M3}(r:Room k A):A.depth<recursionLimit:=by have:=r.dp;lia
theorem Room.units{k:Nat}{A:M3}(r:Room k A):A.units+64<cLine:=by have:=r.un;lia
def tNil:TA:=λ _ H Q=>Q [] H
def Z3O(ta:TE)(tr:TA):TA:=λ σ H Q=>ta σ H λ x H1=>tr σ H1 λ xs H2=>Q (x::xs) H2
section
variable{X:Cx}{e:Expr}{es:List Expr}{te:TE}{t:TA}{pos:Pos}
theorem Z0R:PA X [] tNil:=λ _ _ _ _ H Q I h=>Calls.spliced_nil ⟨[],H,I,.nil,h⟩
theorem Z0q(i:PE X e te)(hr:PA X es t)(hs:starEach (e::es) X.env=(false,eval e X.env)::starEach es X.env:=by rfl):PA X (e::es) (Z3O te t):=by
 intro pos pins s σ H Q I h;rw[hs];show wpAny _ _ (spliced ((false,eval e X.env)::backTo pos (starEach es X.env))) _ _ s;refine Calls.spliced_cons (thn (i pins s σ H _ I h) λ u j ⟨x,H1,n,r1,q⟩=>?_);exact thn (hr pos pins j σ H1 _ n q) λ us B ⟨xs,H2,y,r2,z⟩=>⟨x::xs,H2,y,.cons r1 r2,z⟩
def tTup(t:TA):TE:=λ σ H Q=>t σ H λ xs H1=>xs.length<=sizeLine/\∀p,H1 p=none->Q (.ref p) (upd H1 p (.tup xs))
def tLst(t:TA):TE:=λ σ H Q=>t σ H λ xs H1=>xs.length<=sizeLine/\∀p,H1 p=none->Q (.ref p) (upd H1 p (.lst xs))
theorem Z0i{n}(h:PA X es t):PE X (.Tuple es n pos) (tTup t):=by
 intro pins s σ H Q I y;refine wpAny_Tuple_spliced (thn (h pos pins s σ H _ I y) λ us i ⟨xs,H1,j,r,z,q⟩=>⟨by rw[<-r.length];exact z,?_⟩);have B:H1 i.heap.objs.size=none:=j.hok.fresh (qa0 _);refine⟨.ref i.heap.objs.size,upd H1 i.heap.objs.size (.tup xs),j.laid (t':=i.toks) (λ b u e=>Heap.get?_push_of_some _ e) (qa0 _) ?_,rfl,q _ B⟩;exact⟨⟨z,Z9A⟩,us,r,⟨_,Heap.get?_push_size _ rfl,rfl,_,rfl⟩⟩
theorem Z0o(h:PA X es t):PE X (.List es pos) (tLst t):=by
 intro pins s σ H Q I n;refine wpAny_List_spliced (thn (h pos pins s σ H _ I n) λ us i ⟨xs,H1,j,r,z,q⟩=>⟨by rw[<-r.length];exact z,?_⟩);have y:H1 i.heap.objs.size=none:=j.hok.fresh (qa0 _);refine⟨.ref i.heap.objs.size,upd H1 i.heap.objs.size (.lst xs),j.laid (t':=i.toks) (λ b u e=>Heap.get?_push_of_some _ e) (qa0 _) ?_,rfl,q _ y⟩;exact⟨z,us,0,r,Heap.get?_push_size _ rfl⟩
end
abbrev Sp:=List V->Hp->VK->XK->Prop
abbrev CXT:=List Env->Hp->M1->XK->V1->M1->Prop
structure Env0(P:Program)(w:Y3)(K:X0)(mg:M2->Option V1)(base:Z3)(A:M3)(outer:List Env)(s:M1)(H:Hp):Prop where
 frames:A.frames=some outer
 mod:Mod K mg base
 bs:∀b o,base.get? b=some o->s.heap.get? b=some o/\H b=none
 bsz:base.objs.size<=s.heap.objs.size
 funs:s.heap.FunFrames base outer
 frf:∀b∈frs outer,H b=none
 hok:HOk P w H s.heap
 bare:AllBare s.gens
def CE(outer:List Env)(P:Program)(w:Y3)(H:Hp)(s:M1)(Q:VK)(u:V1)(s':M1):Prop:=
 ∃v H',s'.os=s.os/\AllBare s'.gens/\Un (frs outer) [] H H' s.heap s'.heap/\HOk P w H' s'.heap/\RelV v u/\Q v H'
def CR(CX:CXT)(outer:List Env)(P:Program)(w:Y3)(H:Hp)(s:M1)(Q:VK)(E:XK)(r:Result)(s':M1):Prop:=
 match r with
 | .ok (.ret u)=>CE outer P w H s Q u s'
 | .ok _=>False
 | .error e=>CX outer H s E e s'
structure FnOk(P:Program)(w:Y3)(K:X0)(mg:M2->Option V1)(base:Z3)(CX:CXT)(k:Nat)(f:V0)(fd:FuncData)(ps:List M2)(sp:Sp):Prop where
 len:∀vs H Q E,sp vs H Q E->vs.length=ps.length
 run:∀(A:M3)(outer:List Env)(s:M1)(H:Hp)(args:Args)(us:List V1)(vs:List V)(Q:VK)(E:XK),Room k A->Env0 P w K mg base A outer s H->BindsTo s fd args (ps.zip us)->Vals vs us->sp vs H Q E->
  codeAny (model P w) A (.call (.ref f) args) (CR CX outer P w H s Q E) s
variable{outer:List Env}{P:Program}{K:X0}{H:Hp}
theorem Env0.make{w:Y3}{mg:M2->Option V1}{base:Z3}{A:M3}{s:M1}(e:Env0 P w K mg base A outer s H)(C:V0)(us:List V1)(kw:List (M2×V1)):Env0 P w K mg base (A.under (.builtin "type.__call__" ⟨.ref C::us,kw⟩)) outer s H:=⟨by first|exact e.frames|(simpa[Around.under,Code.envs,Code.isFrame,pushEnvs]using e.frames),e.mod,e.bs,e.bsz,e.funs,e.frf,e.hok,e.bare⟩
section
variable{X:Cx}{pins:List (V0×Obj)}{σ:St}{H:Hp}{s s':M1}
theorem Inv.env0(I:Inv X pins σ H s):Env0 X.prog X.w X.K X.mg X.base X.A X.stack s H:=
 ⟨I.ok.frames,I.ok.mod,I.bs,qa9 I.ok.bsz I.sz,I.stack,I.stkFree,I.hok,I.bare⟩
theorem Inv.after{Q:VK}{u:V1}(I:Inv X pins σ H s)(h:CE X.stack X.prog X.w H s Q u s'):EP X pins σ Q u s':=by
 obtain⟨v,H',y,i,un,j,r,q⟩:=h;obtain⟨B,g,d,t,n⟩:=s';obtain rfl:n=s.os:=y;exact⟨v,H',I.call (h':=B) (g':=g) (d':=d) (t':=t) (ch:=[]) un j i (λ b z=>absurd z (by simp)),r,q⟩
end
def J3p(sp:Sp)(dvs:List V)(E:XK)(t:TA):TE:=λ σ H Q=>t σ H λ vs H1=>sp (vs++dvs) H1 Q E
def J1T(C:V0)(m:M2)(sp:Sp)(dvs:List V)(E:XK)(ta:TE)(t:TA):TE:=λ σ H Q=>ta σ H λ x H1=>∃a dx fs,x=.ref a/\H1 a=some (.ins C dx fs)/\fs.lookup m=none/\
 t σ H1 λ vs H2=>sp (x::(vs++dvs)) H2 Q E
def J5h(C:V0)(sp:Sp)(dvs:List V)(E:XK)(t:TA):TE:=λ σ H Q=>t σ H λ vs H1=>∀x dx,H1 x=none->H1 dx=none->dx≠x->
 sp (.ref x::(vs++dvs)) (upd (upd H1 dx (.own x)) x (.ins C dx [])) (λ v H2=>v=.non/\Q (.ref x) H2) E
def Binds(K:X0)(fd:FuncData)(ps:List M2)(ds:List V1):Prop:=
 ∀(s:M1)(us:List V1),K.In s.heap->(us++ds).length=ps.length->BindsTo s fd ⟨us,[]⟩ (ps.zip (us++ds))
theorem Binds.all{fd:FuncData}{ps:List M2}(h:∀us:List V1,us.length=ps.length->bindArgs fd ⟨us,[]⟩=pure (ps.zip us)):Binds K fd ps []:=λ s us _ hl=>by
 rw[qc8]at hl ⊢;exact .of_eq (h us hl)
def Z5h(CX:CXT)(X:Cx)(E:XK):Prop:=∀(pins:List (V0×Obj))(σ:St)(H:Hp)(s:M1)(e:V1)(s':M1),Inv X pins σ H s->CX X.stack H s E e s'->X.xe e s'
section
variable{X:Cx}{CX:CXT}{k:Nat}{f C:V0}{fd:FuncData}{ps:List M2}{sp:Sp}{dvs:List V}{ds:List V1}{E:XK}{x m:M2}{p pos apos:Pos}{e o:Expr}{es:List Expr}{ta:TE}{t:TA}
theorem J2g{pins:List (V0×Obj)}{σ:St}{s:M1}{Q:VK}{us:List V1}{vs:List V}(F:FnOk X.prog X.w X.K X.mg X.base CX k f fd ps sp)(hr:Room k X.A)(hb:Binds X.K fd ps ds)(hd:Vals dvs ds)(hx:Z5h CX X E)(I:Inv X pins σ H s)(r:Vals vs us)(h:sp (vs++dvs) H Q E):wpAny (model X.prog X.w) X.A (call (.ref f) us) (EP X pins σ Q) X.xe s:=by
 have r2:Vals (vs++dvs) (us++ds):=r.append hd;have hl:(us++ds).length=ps.length:=by rw[<-r2.length];exact F.len _ _ _ _ h
 refine wpAny_call (codeAny_mono (F.run X.A X.stack s H ⟨us,[]⟩ (us++ds) (vs++dvs) Q E hr I.env0 (hb s us I.kIn hl) r2 h) λ r s' hq=>?_);cases r with
 |error e=>exact hx pins σ H s e s' I hq
 |ok fl=>
  cases fl with
  |ret u=>exact I.after hq
  |next=>exact False.elim hq
  |brk=>exact False.elim hq
  |cont=>exact False.elim hq
theorem J6z(F:FnOk X.prog X.w X.K X.mg X.base CX k f fd ps sp)(hr:Room k X.A)(y:Gl X x)(z:X.mg x=some (.ref f))(B:W.keepIn X.K (.ref f)=true)(D:Binds X.K fd ps ds)(hd:Vals dvs ds)(G:Z5h CX X E)(J:PA X (e::es) t)(i:(x==("__debug__":M2))=false:=by decide)(L:starEach (e::es) X.env=(false,eval e X.env)::starEach es X.env:=by rfl)(j:(backTo pos (starEach es X.env)).any (·.1)=false:=by rfl):PE X (.Call (.Name x p) (e::es) [] pos) (J3p sp dvs E t):=by
 intro pins s σ H Q I h;refine wpAny_Call_Name_kw (Z8q I y z ?_ i);refine W.callWith_K (h₀:=X.base) I.ok.mod.kin B (thn (J pos pins s σ H _ I h) λ us M ⟨vs,H1,n,r,q⟩=>⟨n.kIn,?_⟩) L j;exact J2g F hr D hd G n r q
theorem J6A{pl:Sem Bool}(G:PE X o ta)(c:Cls X.K C)(y:Meth X.K C m f)(F:FnOk X.prog X.w X.K X.mg X.base CX k f fd ps sp)(hr:Room k X.A)(J:Binds X.K fd ps ds)(hd:Vals dvs ds)(L:Z5h CX X E)(M:PA X (e::es) t)(i:starEach (e::es) X.env=(false,eval e X.env)::starEach es X.env:=by rfl)(j:(backTo pos (starEach es X.env)).any (·.1)=false:=by rfl)(N:eval (.Call (.Attribute o m apos) (e::es) [] pos) X.env=(do
   let z<-eval o X.env
   standAt apos.atName
   let(f,first)<-holding [z] (getMethod z m pl)
   callWith pos f first (backTo pos (starEach (e::es) X.env)) (backToKw pos (keywordEach [] X.env))):=by rfl):PE X (.Call (.Attribute o m apos) (e::es) [] pos) (J1T C m sp dvs E ta t):=by
 intro pins s σ H Q I h;refine W.methodCall_KW (pl:=pl) (thn (G pins s σ H _ I h) λ u O n=>?_) N;obtain⟨x,H1,B,R,a,dx,fs,ex,S,l,q⟩:=n;subst ex;obtain rfl:u=Value.ref a:=R;refine Z4s B S c y l ?_;refine W.callWith_K (first:=[.ref a]) (h₀:=X.base) I.ok.mod.kin y.kp (thn (M pos pins O σ H1 _ B q) λ us Y ⟨vs,H2,D,r,U⟩=>⟨D.kIn,?_⟩) i j;exact J2g (us:=.ref a::us) (vs:=.ref a::vs) F hr J hd L D (.cons rfl r) U
theorem J3c{pl:Sem Bool}(z:PE X o ta)(c:Cls X.K C)(n:Meth X.K C m f)(F:FnOk X.prog X.w X.K X.mg X.base CX k f fd ps sp)(hr:Room k X.A)(B:Binds X.K fd ps ds)(hd:Vals dvs ds)(D:Z5h CX X E)(G:eval (.Call (.Attribute o m apos) [] [] pos) X.env=(do
   let y<-eval o X.env
   standAt apos.atName
   let(f,first)<-holding [y] (getMethod y m pl)
   callWith pos f first (backTo pos (starEach [] X.env)) (backToKw pos (keywordEach [] X.env))):=by rfl):PE X (.Call (.Attribute o m apos) [] [] pos) (J1T C m sp dvs E ta tNil):=by
 intro pins s σ H Q I h;refine W.methodCall_KW (pl:=pl) (thn (z pins s σ H _ I h) λ u M i=>?_) G;obtain⟨x,H1,j,J,a,dx,fs,ex,L,l,q⟩:=i;subst ex;obtain rfl:u=Value.ref a:=J;refine Z4s j L c n l ?_;exact W.callWith_K0 (first:=[.ref a]) j.kIn n.kp (J2g (us:=[.ref a]) (vs:=[.ref a]) F hr B hd D j (.cons rfl .nil) q)
structure Mk(K:X0)(C f:V0):Prop where
 makes:W.makesIn K C=true
 init:W.findIn K (.ref C) "__init__"=some (some (.ref f))
 fn:W.isFn K (.ref f)=true
 kp:W.keepIn K (.ref C)=true
theorem J4l{pins:List (V0×Obj)}{σ:St}{s:M1}{Q:VK}{us:List V1}{vs:List V}(M:Mk X.K C f)(F:FnOk X.prog X.w X.K X.mg X.base CX k f fd ps sp)(hr:Room (k+1) X.A)(hb:Binds X.K fd ps ds)(hd:Vals dvs ds)(hx:Z5h CX X E)(I:Inv X pins σ H s)(r:Vals vs us)(h:∀x dx,H x=none->H dx=none->dx≠x->sp (.ref x::(vs++dvs)) (upd (upd H dx (.own x)) x (.ins C dx [])) (λ v H2=>v=.non/\Q (.ref x) H2) E):wpAny (model X.prog X.w) X.A (call (.ref C) us) (EP X pins σ Q) X.xe s:=by
 have hq:=h (s.heap.objs.size+1) s.heap.objs.size (I.hok.fresh (qd6 _)) (I.hok.fresh (qa0 _)) (qb3 (qi2 _));have I2:=Inv.made (C:=C) I;have r2:Vals (V.ref (s.heap.objs.size+1)::(vs++dvs)) (Value.ref (s.heap.objs.size+1)::(us++ds)):=.cons rfl (r.append hd);have hl:(Value.ref (s.heap.objs.size+1)::us++ds).length=ps.length:=by
  have e:=r2.length;rw[F.len _ _ _ _ hq]at e;exact e.symm
 refine wpAny_call (J3Q (f:=f) I.kIn M.makes M.init (beq_iff_eq.mp M.fn) (codeAny_mono (F.run _ X.stack _ _ ⟨Value.ref (s.heap.objs.size+1)::us,[]⟩ (Value.ref (s.heap.objs.size+1)::(us++ds)) _ _ E (hr.make C us []) (I2.env0.make C us []) (hb _ (Value.ref (s.heap.objs.size+1)::us) I2.kIn hl) r2 hq) λ r s' hq'=>?_));cases r with
 |error e=>exact hx pins σ _ _ e s' I2 hq'
 |ok fl=>
  cases fl with
  |ret u=>
   obtain⟨v,H',I3,rv,ev,q3⟩:=I2.after hq';subst ev;exact⟨rv,⟨V.ref (s.heap.objs.size+1),H',I3,rfl,q3⟩⟩
  |next=>exact False.elim hq'
  |brk=>exact False.elim hq'
  |cont=>exact False.elim hq'
theorem J5C(M:Mk X.K C f)(F:FnOk X.prog X.w X.K X.mg X.base CX k f fd ps sp)(hr:Room (k+1) X.A)(y:Gl X x)(z:X.mg x=some (.ref C))(B:Binds X.K fd ps ds)(hd:Vals dvs ds)(D:Z5h CX X E)(G:PA X (e::es) t)(i:(x==("__debug__":M2))=false:=by decide)(J:starEach (e::es) X.env=(false,eval e X.env)::starEach es X.env:=by rfl)(j:(backTo pos (starEach es X.env)).any (·.1)=false:=by rfl):PE X (.Call (.Name x p) (e::es) [] pos) (J5h C sp dvs E t):=by
 intro pins s σ H Q I h;refine wpAny_Call_Name_kw (Z8q I y z ?_ i);refine W.callWith_K (h₀:=X.base) I.ok.mod.kin M.kp (thn (G pos pins s σ H _ I h) λ us L ⟨vs,H1,n,r,q⟩=>⟨n.kIn,?_⟩) J j;exact J4l M F hr B hd D n r q
end
def PK(X:Cx)(kws:List Keyword)(t:TA):Prop:=
 ∀(pos:Pos)(pins:List (V0×Obj))(s:M1)(σ:St)(H:Hp)(Q:List V->Hp->Prop),Inv X pins σ H s->t σ H Q->wpAny (model X.prog X.w) X.A (evalAll ((backToKw pos (keywordEach kws X.env)).map (·.2))) (AP X pins σ Q) X.xe s
section
variable{X:Cx}{CX:CXT}{k:Nat}{f C:V0}{fd:FuncData}{ps ks:List M2}{sp:Sp}{E:XK}{x m:M2}{p pos apos kpos:Pos}{e o:Expr}{es:List Expr}{kws:List Keyword}{te ta:TE}{t tk:TA}{nm:Option M2}
theorem J7d:PK X [] tNil:=λ _ _ _ _ H Q I h=>wpAny_evalAll_nil ⟨[],H,I,.nil,h⟩
theorem J6u(i:PE X e te)(hr:PK X kws t):PK X (⟨nm,e,kpos⟩::kws) (Z3O te t):=by
 intro pos pins s σ H Q I h;show wpAny _ _ (evalAll ((do let v<-eval e X.env;standAt pos;pure v)::(backToKw pos (keywordEach kws X.env)).map (·.2))) _ _ s;refine wpAny_evalAll_cons (wpAny_bind (thn (i pins s σ H _ I h) λ u j ⟨x,H1,n,r1,q⟩=>wpAny_bind (wpAny_standAt (wpAny_pure ?_))));exact thn (hr pos pins j σ H1 _ n q) λ us B ⟨xs,H2,y,r2,z⟩=>⟨x::xs,H2,y,.cons r1 r2,z⟩
variable{g:List V1->List V1->List V1}{gV:List V->List V->List V}
end
structure Z0p(N P:List M2)(sc:Scope):Prop where
 kind:sc.kind=.function
 co:sc.isCoroutine=false
 gen:sc.isGenerator=false
 nd:N.Nodup
 pre:N.take P.length=P
 par:∀x∈P,sc.names.lookup x=some .local\/sc.names.lookup x=some .cell
 nofree:∀y∈sc.names,y.2≠.free
theorem Z7T{i:M2->Option NameKind}{x:M2}:∀{binds:List (M2×V1)}{m:M2->Option V1},(∀v,(x,v)∉binds)->bindL i binds m x=m x
 |[],_,_=>rfl
 |(n,v)::r,m,h=>by
  unfold bindL;rw[Z7T λ w j=>h w (qc4 _ j)];split
  ·have:x≠n:=by rintro rfl;exact h v qc2
   simp[this]
  ·rfl
theorem Z8l{i:M2->Option NameKind}{x:M2}:∀{binds:List (M2×V1)}{m:M2->Option V1},(∀v,(x,v)∉binds)->bindC i binds m x=m x
 |[],_,_=>rfl
 |(n,v)::r,m,h=>by
  unfold bindC;rw[Z8l λ w j=>h w (qc4 _ j)];split
  ·rfl
  ·have:x≠n:=by rintro rfl;exact h v qc2
   simp[this]
theorem Z8d{j:M2->Option NameKind}{x:M2}{v:V1}:∀{P:List M2}{vs:List V1}{i:Nat}{m:M2->Option V1},P.Nodup->P[i]?=some x->vs[i]?=some v->j x=some .local->bindL j (P.zip vs) m x=some v
 |[],_,_,_,_,h,_,_=>by simp at h
 |_::_,[],_,_,_,_,h,_=>by simp at h
 |p::P,w::vs,0,m,n,h1,h2,q=>by
  simp at h1 h2;subst h1;subst h2;show bindL j ((p,w)::P.zip vs) m p=_;unfold bindL;rw[Z7T λ v y=>(qf7.mp n).1 (qg8 y).1,if_pos q];simp
 |p::P,w::vs,i+1,m,n,h1,h2,q=>by
  show bindL j ((p,w)::P.zip vs) m x=_;unfold bindL;exact Z8d (i:=i) (qf7.mp n).2 (by simpa using h1) (by simpa using h2) q
theorem Z8a{j:M2->Option NameKind}{x:M2}{v:V1}:∀{P:List M2}{vs:List V1}{i:Nat}{m:M2->Option V1},P.Nodup->P[i]?=some x->vs[i]?=some v->j x≠some .local->bindC j (P.zip vs) m x=some v
 |[],_,_,_,_,h,_,_=>by simp at h
 |_::_,[],_,_,_,_,h,_=>by simp at h
 |p::P,w::vs,0,m,n,h1,h2,q=>by
  simp at h1 h2;subst h1;subst h2;show bindC j ((p,w)::P.zip vs) m p=_;unfold bindC;rw[Z8l λ v y=>(qf7.mp n).1 (qg8 y).1,if_neg q];simp
 |p::P,w::vs,i+1,m,n,h1,h2,q=>by
  show bindC j ((p,w)::P.zip vs) m x=_;unfold bindC;exact Z8a (i:=i) (qf7.mp n).2 (by simpa using h1) (by simpa using h2) q
def Z5L(N:List M2)(vs:List V):St:=vs.map some++qb8 (N.length-vs.length) none
def cxOf(CX:CXT)(P:Program)(w:Y3)(K:X0)(mg:M2->Option V1)(base:Z3)(N:List M2)(qual:M2)(scope:Scope)(f:V0)(cd:V1)(A:M3)(outer:List Env)(s:M1)(H:Hp)(E:XK):Cx where
 prog:=P
 w:=w
 K:=K
 mg:=mg
 base:=base
 A:=A.deeper (envOfC qual scope s.heap.objs.size f cd)
 N:=N
 s₀:=s
 H₀:=H
 env:=envOfC qual scope s.heap.objs.size f cd
 outer:=outer
 stack:=envOfC qual scope s.heap.objs.size f cd::outer
 ex:=[]
 calm:=true
 fn:=λ _=>true
 pn:=[]
 xe:=λ e s'=>wpAny (model P w) (A.deeper (envOfC qual scope s.heap.objs.size f cd)) (leaving (envOfC qual scope s.heap.objs.size f cd) e) (λ _ i=>CX outer H s E e i) (λ j i=>CX outer H s E j i) s'
theorem Z9s{i:Scope}{n:Nat}{x:M2}(h:i.names.lookup x=some .cell):∃c,(cellsFrom n i.names []).lookup x=some c:=by
 have q:=W.cellsFrom_some i.names n [] (.inl h);exact Option.isSome_iff_exists.mp q
theorem J2H{CX:CXT}{w:Y3}{mg:M2->Option V1}{base:Z3}{N ps:List M2}{qual:M2}{scope:Scope}{f:V0}{J:V1}{A:M3}{s s1:M1}{E:XK}{us:List V1}{vs:List V}(S:Z0p N ps scope)(hd:A.handled=none)(j:Env0 P w K mg base A outer s H)(hl:vs.length=ps.length)(r:Vals vs us)(x:InCallC s s.heap.objs.size (bindL (envOfC qual scope s.heap.objs.size f J).kindOf (ps.zip us) λ _=>none) (cellsFrom (s.heap.objs.size+1) scope.names []) (bindC (envOfC qual scope s.heap.objs.size f J).kindOf (ps.zip us) λ _=>none) s1):Inv (cxOf CX P w K mg base N qual scope f J A outer s H E) [] (Z5L N vs) H s1:=by
 have O:ps.length<=N.length:=by have:=congrArg qd9 S.pre;rw[qd0]at this;lia
 obtain⟨h1,tk,rfl,L⟩:=x.done;have B:∀b:V0,b∉(cxOf CX P w K mg base N qual scope f J A outer s H E).ex:=λ b z=>absurd (show b∈([]:List V0)from z) (by simp);refine⟨⟨j.mod,S.kind,rfl,rfl,qa0 _,λ y z c h1 h2=>?_,λ y D=>?_,λ y c _ h=>?_,λ _=>hd,Around.frames_deeper j.frames,.inr ⟨rfl,rfl⟩,λ b z=>absurd z (B b),j.bs,j.bsz,λ b _ _=>B b,λ b z=>absurd z (B b),j.funs,j.frf⟩,rfl,j.bare,Un.kept L,⟨_,x.toInCall.ns,λ i y v h1 h2 Y=>?_⟩,λ y c h=>⟨_,x.cell y c h⟩,j.hok.fresh (qa0 _),λ y c h=>?_,λ p G=>absurd (show p∈([]:List (V0×Obj))from G) (by simp),j.hok.kept L,?_⟩
 ·exact name_of_addr x.apart (PySem.mem_of_lookup h1) (PySem.mem_of_lookup h2)
 ·have D:scope.names.lookup y=some .cell\/scope.names.lookup y=some .free:=D;rcases D with D|D
  ·exact Z9s D
  ·exact absurd rfl (S.nofree _ (PySem.mem_of_lookup D))
 ·exact qf3 (x.above y c (PySem.mem_of_lookup h))
 ·have hi:i<vs.length:=by
   unfold Z5L at h2;by_cases hi:i<vs.length
   ·exact hi
   ·rw[qi3 (by simpa using hi)]at h2;rw[List.getElem?_replicate]at h2;split at h2<;>cases h2
  have R:vs[i]?=some v:=by
   unfold Z5L at h2;rw[qg9 (by simpa using hi),qa8]at h2;cases e:vs[i]? with
   |none=>rw[e]at h2;cases h2
   |some a=>rw[e]at h2;cases h2;rfl
  obtain⟨u,M,U⟩:=r.get R;have G:ps[i]?=some y:=by
   rw[<-S.pre,List.getElem?_take_of_lt qR];exact h1
  have I:ps.Nodup:=by rw[<-S.pre];exact S.nd.sublist (List.take_sublist _ _)
  refine⟨u,U,?_⟩;rcases S.par y (qb4 G)with k|k
  ·exact .inl ⟨k,Z8d I G M k⟩
  ·obtain⟨c,e⟩:=Z9s (n:=s.heap.objs.size+1) k;refine .inr ⟨.inl k,c,e,?_⟩;have q:=x.cell y c e;rw[Z8a I G M (by show scope.names.lookup y≠_;rw[k];decide)]at q;exact q
 ·exact j.hok.fresh (qf3 (x.above y c (PySem.mem_of_lookup h)))
 ·unfold Z5L;show _=N.length;rw[qa2,qa1,ql8];lia
theorem J9t{CX:CXT}{w:Y3}{mg:M2->Option V1}{base:Z3}{k:Nat}{f:V0}{name qual:M2}{params:Arguments}{body:List Stmt}{scope:Scope}{dV kV doc pm cdv ct oc:V1}{an od:Option V0}{osl:Array (Option V1)}{N ps:List M2}{sp:Sp}(lk:K.lookup f=some ⟨oc,od,.func (W.fnOf name qual params body scope dV kV doc pm an cdv ct),osl⟩)(hcd:W.codeIn K cdv qual=true)(S:Z0p N ps scope)(len:∀vs H Q E,sp vs H Q E->vs.length=ps.length)(hbody:∀(A:M3)(outer:List Env)(s:M1)(H:Hp)(vs:List V)(Q:VK)(E:XK),Room k (A.deeper (envOfC qual scope s.heap.objs.size f cdv))->sp vs H Q E->∃t,PSs (cxOf CX P w K mg base N qual scope f cdv A outer s H E) body t/\t {nx:=λ _ H'=>Q .non H',rt:=Q} (Z5L N vs) H):FnOk P w K mg base CX (k+1) f (W.fnOf name qual params body scope dV kV doc pm an cdv ct) ps sp:=by
 refine⟨len,λ A outer s H args us vs Q E hr e0 hb r hsp=>?_⟩;have hl:=len _ _ _ _ hsp;have KX:K.In s.heap:=e0.mod.kin.keeps λ b o e=>(e0.bs b o e).1;have lim:s.heap.NoLimit:=e0.mod.nolimit.keeps λ b o e=>(e0.bs b o e).1;have hkind:∀y∈ps.zip us,scope.names.lookup y.1=some .local\/(scope.names.lookup y.1=some .cell/\((cellsFrom (s.heap.objs.size+1) scope.names []).lookup y.1).isSome=true):=λ⟨n,v⟩ hy=>by
  rcases S.par n (qg8 hy).1 with q|q
  ·exact .inl q
  ·exact .inr ⟨q,W.cellsFrom_some _ _ _ (.inl q)⟩
 refine codeAny_call_function hr.depth (KX _ _ lk) rfl S.co S.gen rfl (W.codeRec_of KX hcd) (hb _ _ _ _ ?_);refine wpAny_newFunctionEnv_cells S.kind hkind λ env he s1 x=>?_;subst he;refine⟨lim.keeps x.toInCall.keep,codeAny_func ?_⟩;obtain⟨t,ht,hq⟩:=hbody A outer s H vs Q E (hr.deeper _) hsp;have I:Inv (cxOf CX P w K mg base N qual scope f cdv A outer s H E) [] (Z5L N vs) H s1:=J2H S hr.hd e0 hl r x;refine wpAny_mono (ht [] s1 (Z5L N vs) H _ I hq) (λ fl s' hs=>?_) λ e s' hs=>hs;have fin:∀{σ':St}{H':Hp}{v:V}{u:V1},Inv (cxOf CX P w K mg base N qual scope f cdv A outer s H E) [] σ' H' s'->RelV v u->Q v H'->CE outer P w H s Q u s':=
  λ{σ' H' v u} J rv q=>⟨v,H',J.os,J.bare,J.base,J.hok,rv,q⟩
 cases fl with
 |ret u=>
  obtain⟨v,σ',H',J,rv,q⟩:=hs;exact fin J rv q
 |next=>
  obtain⟨σ',H',J,q⟩:=hs;exact fin (v:=V.non) (u:=Value.none) J rfl q
 |brk=>
  obtain⟨_,_,_,q⟩:=hs;exact False.elim q
 |cont=>
  obtain⟨_,_,_,q⟩:=hs;exact False.elim q
end L2
namespace L2
open PySem PySem.Spec PyProof.Rows
section
variable{X:Cx}{x:M2}{p pos:Pos}{e:Expr}{es:List Expr}{t:TA}{id T:String}{r:List V->Hp->VK->Prop}
def tCB(r:List V->Hp->VK->Prop)(t:TA):TE:=λ σ H Q=>t σ H λ vs H1=>r vs H1 Q
theorem Z1t(n:Z3V X (.builtin id) r)(q:Gl X x)(y:X.mg x=none)(z:bootBuiltins x=some (.builtin id))(B:PA X (e::es) t)(D:x≠"__name__":=by decide)(i:(x==("__debug__":M2))=false:=by decide)(G:starEach (e::es) X.env=(false,eval e X.env)::starEach es X.env:=by rfl)(j:(backTo pos (starEach es X.env)).any (·.1)=false:=by rfl):PE X (.Call (.Name x p) (e::es) [] pos) (tCB r t):=by
 intro pins s σ H Q I h;refine wpAny_Call_Name_kw (Z3I I q y z ?_ D i);exact PyProof.Rows.callWith_builtin1 (thn (B pos pins s σ H _ I h) λ us J ⟨vs,H1,L,r1,M⟩=>n pins J σ H1 vs us Q L r1 M) G j
theorem Z0w(n:Z3V X (.type T) r)(q:Gl X x)(y:X.mg x=none)(z:bootBuiltins x=some (.type T))(B:PA X (e::es) t)(D:x≠"__name__":=by decide)(i:(x==("__debug__":M2))=false:=by decide)(G:starEach (e::es) X.env=(false,eval e X.env)::starEach es X.env:=by rfl)(j:(backTo pos (starEach es X.env)).any (·.1)=false:=by rfl):PE X (.Call (.Name x p) (e::es) [] pos) (tCB r t):=by
 intro pins s σ H Q I h;refine wpAny_Call_Name_kw (Z3I I q y z ?_ D i);exact PyProof.Rows.callWith_type1 (thn (B pos pins s σ H _ I h) λ us J ⟨vs,H1,L,r1,M⟩=>n pins J σ H1 vs us Q L r1 M) G j
end
end L2
namespace HT
open PySem PyProof.Rows
section
open PySem.SeqAt
open PySem.AutoSeq1 (wpAny_loadPart')
open PySem.MeetsSeq PySem.MeetsSeq2 PySem.MeetsSeq3
end
section
variable{prog:Program}{w:Y3}{A:M3}{E:V1->M1->Prop}{s:M1}
theorem cat_tup{t b:V0}{vs i:List V1}{Q:V1->M1->Prop}(S:IsTup s.heap t vs.toArray)(U:IsTup s.heap b i.toArray)(J:vs≠[])(h1:i=[]->Q (.ref t) s)(h2:i≠[]->Q (.ref s.heap.objs.size) {s with heap:=s.heap.push {cls:=.type "tuple",data:=.seq (vs++i).toArray}})(hsz:vs.length+i.length<=sizeLine):wpAny (model prog w) A (binaryOp .Add (.ref t) (.ref b)) Q E s:=by
 obtain⟨⟨cls,L,data,M⟩,D,N,n,hd⟩:=id S;obtain⟨⟨O,q,I,y⟩,j,z,R,B⟩:=id U;simp only at N hd z B;subst N hd z B;have e:vs.toArray++i.toArray=(vs++i).toArray:=by simp
 by_cases G:i=[]
 ·exact concat_meets ⟨_,D,rfl⟩ ⟨_,j,rfl⟩ noFill_tuple_add seq_tuple_add ql9 qm0 (qm1 _ _)
   (tuple_addW1 t b vs.toArray i.toArray n R L q M y (by simpa using J) (by simp[G])) ⟨D,j,h1 G⟩
 ·refine concat_meets ⟨_,D,rfl⟩ ⟨_,j,rfl⟩ noFill_tuple_add seq_tuple_add ql9 qm0 (qm1 _ _)
   (tuple_addW2 t b vs.toArray i.toArray n R L q M y (by simpa using J) (by simpa using G) (by rw[qb1,qb1];exact hsz)) ⟨D,j,?_⟩
  rw[e];exact h2 G
def sIx(n d:Nat):Option Int->Nat
 |none=>d
 |some v=>if v<0 then(v+(n:Int)).toNat else min v.toNat n
theorem sIx_none(n d:Nat):sIx n d none=d:=rfl
theorem sIx_nat(n d k:Nat):sIx n d (some (k:Int))=min k n:=by
 show(if(k:Int)<0 then((k:Int)+(n:Int)).toNat else min (k:Int).toNat n)=min k n;rw[if_neg qR,qk5]
theorem J7N(n d:Nat)(hd:d<=n)(o:Option Int):sIx n d o<=n:=by
 cases o with
 |none=>exact hd
 |some v=>
  show(if v<0 then(v+(n:Int)).toNat else min v.toNat n)<=n;by_cases i:v<0
  ·rw[if_pos i];lia
  ·rw[if_neg i];exact qi4 _ _
theorem J2o(v:Int)(n d:Nat):(if v<0 then max (v+(n:Int)) 0 else min v (n:Int))=((sIx n d (some v):Nat):Int):=by
 show(if v<0 then max (v+(n:Int)) 0 else min v (n:Int))=(((if v<0 then(v+(n:Int)).toNat else min v.toNat n):Nat):Int);by_cases i:v<0
 ·simp only[if_pos i];lia
 ·simp only[if_neg i];lia
theorem J0J(lo hi:Option Int)(n:Nat):Builtin.Slice.sliceAdjust lo hi 1 (n:Int)=(((sIx n 0 lo:Nat):Int),((sIx n n hi:Nat):Int)):=by
 have h1:¬((1:Int)<0):=by lia
 unfold Builtin.Slice.sliceAdjust;simp only[h1,if_false];refine Prod.ext ?_ ?_
 ·cases lo with
  |none=>rfl
  |some v=>exact J2o v n 0
 ·cases hi with
  |none=>rfl
  |some v=>exact J2o v n n
theorem J0G(i j:Nat):Builtin.Slice.slicePlaces (i:Int) (j:Int) 1=j-i:=by
 unfold Builtin.Slice.slicePlaces;have h1:(1:Int)>0:=by lia
 simp only[h1,if_true,Int.ediv_one];split<;>lia
theorem Z5Z{v:V1}{o:Option Int}{Q:Option Int->M1->Prop}(p:IsPart v o)(h:Q o s):wpAny (model prog w) A (Builtin.Slice.slicePartIndex v) Q E s:=by
 cases p with
 |none=>exact slicePart_none h
 |int i t=>exact slicePart_int h
theorem Z2X{z:V0}{q y:V1}{lo hi:Option Int}{n:Nat}{Q:Int×Int×Nat->M1->Prop}(hs:s.heap.IsSliceOf z q y .none)(pl:IsPart q lo)(B:IsPart y hi)(h:Q (((sIx n 0 lo:Nat):Int),1,sIx n n hi-sIx n 0 lo) s):wpAny (model prog w) A (Builtin.Slice.sliceApplied (.ref z) (pure (n:Int))) Q E s:=by
 obtain⟨G,i,D,j⟩:=id hs;unfold Builtin.Slice.sliceApplied Builtin.Slice.sliceFields;refine wpAny_bind (wpAny_bind (wpAny_field i j (x:=q) rfl (wpAny_bind (wpAny_field i j (x:=y) rfl (wpAny_bind (wpAny_field i j (x:=.none) rfl (wpAny_pure ?_)))))));refine wpAny_bind (slicePart_none ?_);show wpAny _ _ (if((1:Int)==0)=true then _ else _) _ _ s;rw[if_neg qQ];refine wpAny_bind (Z5Z pl (wpAny_bind (Z5Z B (wpAny_bind (wpAny_pure ?_)))));show wpAny _ _ (match Builtin.Slice.sliceAdjust lo hi 1 (n:Int)with|(lo,hi)=>pure (lo,(1:Int),Builtin.Slice.slicePlaces lo hi 1)) _ _ s;rw[J0J lo hi n];show wpAny _ _ (pure (((sIx n 0 lo:Nat):Int),(1:Int),Builtin.Slice.slicePlaces ((sIx n 0 lo:Nat):Int) ((sIx n n hi:Nat):Int) 1)) _ _ s;rw[J0G];exact wpAny_pure h
theorem J3T(xs:Array V1)(i k:Nat):((qe2 k).filterMap λ(m:Nat)=>xs[((i:Int)+(m:Int)*1).toNat]?).toArray=((xs.toList.drop i).take k).toArray:=by
 have e:(λ(m:Nat)=>xs[((i:Int)+(m:Int)*1).toNat]?)=λ m=>xs[i+m]?:=by
  funext m;have:((i:Int)+(m:Int)*1).toNat=i+m:=by lia
  rw[this]
 rw[e];have:=pick_run xs i k;rw[List.filterMap_map]at this;have j:((λ x=>xs[x]?)∘λ x=>i+x)=λ m=>xs[i+m]?:=rfl;rw[j]at this;rw[this]
theorem getItem_tuple_cut{t n:V0}{items:Array V1}{G I:V1}{lo hi:Option Int}{Q:V1->M1->Prop}(j:IsTup s.heap t items)(hs:s.heap.IsSliceOf n G I .none)(pl:IsPart G lo)(J:IsPart I hi)(L:¬(sIx items.size 0 lo=0/\sIx items.size items.size hi=items.size))(h:Q (.ref s.heap.objs.size) {s with heap:=s.heap.push {cls:=.type "tuple",data:=.seq ((items.toList.drop (sIx items.size 0 lo)).take (sIx items.size items.size hi-sIx items.size 0 lo)).toArray}})(hsz:items.size<=sizeLine):wpAny (model prog w) A (getItem (.ref t) (.ref n)) Q E s:=by
 have i:sizeOk (.seq ((items.toList.drop (sIx items.size 0 lo)).take (sIx items.size items.size hi-sIx items.size 0 lo)).toArray):=by
  show((items.toList.drop (sIx items.size 0 lo)).take (sIx items.size items.size hi-sIx items.size 0 lo)).toArray.size<=sizeLine;rw[qb1,qd0,qf8,qg6];lia
 have O:sIx items.size items.size hi<=items.size:=J7N _ _ (qa0 _) hi;obtain⟨M,y,z,N⟩:=id hs;have B:s.TypeIs (.ref n) "slice":=⟨M,y,z⟩;unfold getItem;try with_reducible refine wpAny_holding ?_
 first|refine wpAny_bind (wpAny_pure ?_)|skip
 refine wpAny_bind (wpAny_sequenceKey j.typeIs qQ ?_);refine wpAny_bind (wpAny_callSpecial?_slot (name:=Str.ofString "__getitem__") j.typeIs PyProof.Rows.slot_tuple_getitem (wpAny_call_entry PyProof.Rows.slot_tuple_getitem j.typeIs entry_tuple_getitem ?_ (args_tuple_getitem _ _)));show wpAny _ _ (Builtin.Tuple.tupleItemsOf (.ref t)>>=_) _ _ s;refine wpAny_bind (tupleItemsOf_ j ?_);refine wpAny_bind (wpAny_typeOf B ?_);rw[if_pos qQ];refine wpAny_bind (Z2X hs pl J ?_);have D:¬((((sIx items.size 0 lo:Nat):Int)==0&&(1:Int)==1&&(sIx items.size items.size hi-sIx items.size 0 lo)==items.size)=true):=by
  intro q;rw[qh0,qh0]at q;have R:((sIx items.size 0 lo:Nat):Int)=0:=eq_of_beq q.1.1;have S:sIx items.size items.size hi-sIx items.size 0 lo=items.size:=eq_of_beq q.2;exact L ⟨qR,qR⟩
 show wpAny _ _ (if (((sIx items.size 0 lo:Nat):Int) == 0&&(1:Int) == 1&&(sIx items.size items.size hi - sIx items.size 0 lo) == items.size)=true then _ else _) _ _ s;rw [if_neg D,J3T];first
  |exact wpAny_bind (m:=Builtin.Tuple.tupleExact _) (wpAny_newObj_type (wpAny_pure ⟨_,rfl,wpAny_pure h⟩) i)
  |exact wpAny_bind (m:=Builtin.Tuple.tupleExact _) (wpAny_newObj_type (wpAny_bind (wpAny_pure (wpAny_pure ⟨_,rfl,wpAny_pure h⟩))) i)
  |exact wpAny_bind (wpAny_bind (m:=Builtin.Tuple.tupleExact _) (wpAny_newObj_type (wpAny_pure (wpAny_pure ⟨_,rfl,wpAny_pure h⟩)) i))
  |exact wpAny_bind (wpAny_bind (m:=Builtin.Tuple.tupleExact _) (wpAny_newObj_type (wpAny_pure ⟨_,rfl,wpAny_pure h⟩) i))
end
end HT
namespace L2
open PySem PySem.Spec PyProof.Rows
abbrev TO:=St->Hp->(Option Int->Hp->Prop)->Prop
def PO(X:Cx)(e:Option Expr)(t:TO):Prop:=
 ∀(pins:List (V0×Obj))(s:M1)(σ:St)(H:Hp)(Q:Option Int->Hp->Prop),Inv X pins σ H s->t σ H Q->
  wpAny (model X.prog X.w) X.A (evalPart e X.env) (λ u s'=>∃o H',Inv X pins σ H' s'/\IsPart u o/\Q o H') X.xe s
def J3a:TO:=λ _ H Q=>Q none H
def J6T(t:TE):TO:=λ σ H Q=>t σ H λ x H1=>∃i,x=.int i/\Q (some i) H1
section
variable{X:Cx}{e:Expr}{te:TE}{lo hi:Option Expr}{tl th:TO}{pos p2:Pos}
theorem Z1x:PO X none J3a:=by
 intro pins s σ H Q I h;rw[evalPart_none];exact wpAny_pure ⟨none,H,I,.none,h⟩
theorem Z1j(h:PE X e te):PO X (some e) (J6T te):=by
 intro pins s σ H Q I j;rw[evalPart_some];refine thn (h pins s σ H _ I j) λ u z ⟨x,H1,n,r1,y⟩=>?_;obtain⟨i,rfl,q⟩:=y;obtain⟨t,rfl⟩:=r1;exact⟨some i,H1,n,.int i t,q⟩
def SlR(X:Cx)(r:V->Option Int->Option Int->Hp->VK->Prop):Prop:=
 ∀(pins:List (V0×Obj))(s:M1)(σ:St)(H:Hp)(x:V)(v i j:V1)(lo hi:Option Int)(n:V0)(Q:VK),Inv X pins σ H s->RelV x v->s.heap.IsSliceOf n i j .none->IsPart i lo->IsPart j hi->r x lo hi H Q->
  ∃T id,typeLookup (.type T) "__getitem__"=pure (some (.builtin id))/\s.TypeIs v T/\wpAny (model X.prog X.w) X.A (getItem v (.ref n)) (EP X pins σ Q) X.xe s
def tSl(r:V->Option Int->Option Int->Hp->VK->Prop)(te:TE)(tl th:TO):TE:=λ σ H Q=>te σ H λ x H1=>tl σ H1 λ l H2=>th σ H2 λ u H3=>r x l u H3 Q
theorem Z0S{r:V->Option Int->Option Int->Hp->VK->Prop}(hr:SlR X r)(y:PE X e te)(hl:PO X lo tl)(z:PO X hi th):PE X (.Subscript e (.Slice lo hi none p2) pos) (tSl r te tl th):=by
 intro pins s σ H Q I h;refine Subscript_ (thn (y pins s σ H _ I h) λ v B ⟨x,H1,D,r1,G⟩=>?_);refine wpAny_Slice (thn (hl pins B σ H1 _ D G) λ j J ⟨l,H2,L,pl,M⟩=>thn (z pins J σ H2 _ L M) λ n i ⟨u,H3,N,O,R⟩=>?_);rw[evalPart_none];refine wpAny_pure ?_;have S:Inv X pins σ H3 {i with heap:=i.heap.push {cls:=.type "slice",data:=.fields #[j,n,.none]}}:=N.kept (t':=i.toks) λ b ob q=>Heap.get?_push_of_some _ q;obtain⟨T,id,U,Y,Z⟩:=hr pins {i with heap:=i.heap.push {cls:=.type "slice",data:=.fields #[j,n,.none]}} σ H3 x v j n l u i.heap.objs.size Q S r1 (Heap.IsSliceOf.new ..) pl O R;show wpAny (model X.prog X.w) X.A (subscriptTail e (.Slice lo hi none p2) v (.ref i.heap.objs.size)) (EP X pins σ Q) X.xe {i with heap:=i.heap.push {cls:=.type "slice",data:=.fields #[j,n,.none]}};exact tail_any (ops:=[.ref i.heap.objs.size,v]) Y U Z (by with_unfolding_all rfl)
def cutV(xs:List V)(lo hi:Option Int):List V:=(xs.drop (HT.sIx xs.length 0 lo)).take (HT.sIx xs.length xs.length hi-HT.sIx xs.length 0 lo)
theorem Z5l(xs:List V)(lo hi:Option Int):(cutV xs lo hi).length<=xs.length:=by
 unfold cutV;rw[qd0,qf8];lia
def rSlT(K:X0):V->Option Int->Option Int->Hp->VK->Prop:=λ x lo hi H Q=>∃a xs,x=.ref a/\SqT K H a xs/\
 ¬(HT.sIx xs.length 0 lo=0/\HT.sIx xs.length xs.length hi=xs.length)/\∀p,H p=none->Q (.ref p) (upd H p (.tup (cutV xs lo hi)))
theorem J7j:SlR X (rSlT X.K):=by
 intro pins s σ H x v J L lo hi M Q I z hs pl B h;obtain⟨a,xs,rfl,D,G,q⟩:=h;cases z;obtain⟨j,r,n,y⟩:=I.tuple D;have i:j.toArray.size=xs.length:=by rw[qb1];exact r.length.symm
 refine⟨"tuple",_,PyProof.Rows.slot_tuple_getitem.lookup,n.typeIs,?_⟩;refine HT.getItem_tuple_cut n hs pl B (by rw[i];exact G) ?_ (by rw[i];exact y);rw[i];refine⟨.ref s.heap.objs.size,_,I.laid (t':=s.toks) (o:=.tup (cutV xs lo hi)) (λ b N q=>Heap.get?_push_of_some _ q) (qa0 _) ?_,rfl,q _ (I.hok.fresh (qa0 _))⟩;exact⟨⟨qa9 (Z5l xs lo hi) y,Z9A⟩,_,(r.drop (HT.sIx xs.length 0 lo)).take (HT.sIx xs.length xs.length hi-HT.sIx xs.length 0 lo),IsTup.new _ _⟩
def J7c(K:X0):R2:=λ x y H Q=>∃a b xs ys,x=.ref a/\y=.ref b/\SqT K H a xs/\SqT K H b ys/\xs≠[]/\xs.length+ys.length<=sizeLine/\
 (ys=[]->Q (.ref a) H)/\(ys≠[]->∀p,H p=none->Q (.ref p) (upd H p (.tup (xs++ys))))
theorem Vals.nil_iff{xs:List V}{us:List V1}(r:Vals xs us):us=[]↔xs=[]:=by
 cases r with
 |nil=>simp
 |cons _ _=>simp
theorem J5H:OpR X (binaryOp .Add) (J7c X.K):=by
 intro pins s σ H x y v u Q I n B h;obtain⟨a,b,xs,ys,rfl,rfl,D,G,J,i,L,M⟩:=h;cases n;cases B;obtain⟨N,r1,O,_⟩:=I.tuple D;obtain⟨j,r2,p2,_⟩:=I.tuple G;refine HT.cat_tup O p2 (λ z=>J (r1.nil_iff.mp z)) (λ z=>⟨.ref a,H,I,rfl,L (r2.nil_iff.mp z)⟩) (λ z=>?_) (by rw[<-r1.length,<-r2.length];exact i);refine⟨.ref s.heap.objs.size,_,I.laid (t':=s.toks) (o:=.tup (xs++ys)) (λ b R q=>Heap.get?_push_of_some _ q) (qa0 _) ?_,rfl,M (λ w=>z (r2.nil_iff.mpr w)) _ (I.hok.fresh (qa0 _))⟩;exact⟨⟨by rw[qa2];exact i,Z9A⟩,_,r1.append r2,IsTup.new _ _⟩
end
end L2
namespace L2
open PySem PySem.Spec PyProof.Rows
def ixN(n:Nat)(i:Int):Option Nat:=if 0<=i then(if i<n then some i.toNat else none)else if -(n:Int)<=i then some (i+n).toNat else none
def atI{α:Type}(xs:List α)(i:Int):Option α:=(ixN xs.length i).bind λ j=>xs[j]?
theorem J5B{n:Nat}{i:Int}{j:Nat}(h:ixN n i=some j):seqIndex? i n=some j/\j<n/\-(n:Int)<=i/\i<n:=by
 unfold ixN at h;by_cases q:0<=i
 ·rw[if_pos q]at h;by_cases h1:i<n
  ·rw[if_pos h1]at h;have e:i.toNat=j:=qc6 h;exact⟨by rw[seqIndex_of q h1,e],qR,qR,h1⟩
  ·rw[if_neg h1]at h;cases h
 ·rw[if_neg q]at h;by_cases h1:-(n:Int)<=i
  ·rw[if_pos h1]at h;have e:(i+n).toNat=j:=qc6 h;exact⟨by rw[seqIndex_neg qR h1,e],qR,h1,qR⟩
  ·rw[if_neg h1]at h;cases h
theorem Z8o{n:Type}{xs:List n}{i:Int}{v:n}(h:atI xs i=some v):∃j,seqIndex? i xs.length=some j/\xs[j]?=some v/\j<xs.length/\-(xs.length:Int)<=i/\i<xs.length:=by
 unfold atI at h;cases e:ixN xs.length i with
 |none=>rw[e]at h;cases h
 |some j=>
  rw[e]at h;obtain⟨h1,h2,q,y⟩:=J5B e;exact⟨j,h1,h,h2,q,y⟩
theorem Z3b{i:Type}{xs:List i}{j:Nat}{v:i}(h:xs[j]?=some v):atI xs (j:Int)=some v:=by
 have n:j<xs.length:=(qa6.mp h).1;have e:ixN xs.length (j:Int)=some j:=by
  unfold ixN;rw[if_pos qR,if_pos qR];simp
 unfold atI;rw[e];exact h
def Z8H(b:Expr):Prop:=∀o i,subscripted b false o i=operate [o,i] (getItem o i)
def IxR(X:Cx)(r:R2):Prop:=
 ∀(value i:Expr)(pins:List (V0×Obj))(s:M1)(σ:St)(H:Hp)(x y:V)(v u:V1)(Q:VK),Inv X pins σ H s->RelV x v->RelV y u->r x y H Q->
  subscripted i false v u=operate [v,u] (getItem v u)->wpAny (model X.prog X.w) X.A (subscriptTail value i v u) (EP X pins σ Q) X.xe s
def MtR(X:Cx)(id:String)(r:V->List V->Hp->VK->Prop):Prop:=
 ∀(pins:List (V0×Obj))(s:M1)(σ:St)(H:Hp)(x:V)(xs:List V)(v:V1)(us:List V1)(Q:VK),Inv X pins σ H s->RelV x v->Vals xs us->r x xs H Q->
  wpAny (model X.prog X.w) X.A (call (.builtin id) (v::us)) (EP X pins σ Q) X.xe s
section
variable{X:Cx}{a b:Expr}{ta tb:TE}{pos:Pos}
theorem J0x{r:R2}(hr:IxR X r)(i:PE X a ta)(j:PE X b tb)(hs:Z8H b):PE X (.Subscript a b pos) (tOp r ta tb):=by
 intro pins s σ H Q I h;exact Subscript_ (binT i j I h λ v u n x y H2 z B D q=>hr a b pins n σ H2 x y v u Q z B D q (hs _ _))
def rIxL(K:X0):R2:=λ x y H Q=>∃p xs i v,x=.ref p/\y=.int i/\SqL K H p xs/\atI xs i=some v/\Q v H
def rIxT(K:X0):R2:=λ x y H Q=>∃p xs i v,x=.ref p/\y=.int i/\SqT K H p xs/\atI xs i=some v/\Q v H
def rIxS:R2:=λ x y H Q=>∃z i c,x=.str z/\y=.int i/\z.length<=sizeLine/\atI z.cps.toList i=some c/\Q (.str ⟨#[c]⟩) H
theorem J5V:IxR X (rIxL X.K):=by
 intro value n pins s σ H x y v u Q I M N h hs;obtain⟨p,xs,i,z,rfl,rfl,O,R,q⟩:=h;cases M;obtain⟨t,rfl⟩:=N;obtain⟨B,r,pl,Y⟩:=I.list O;obtain⟨j,h1,h2,Z,S,U⟩:=Z8o R;obtain⟨w,J,D⟩:=r.get h2;have hl:=r.length;have hn:=Z5r;have fin:EP X pins σ Q w s:=⟨z,H,I,D,q⟩;by_cases L:0<=i
 ·have G:i.toNat=j:=by
   rw[seqIndex_of L U]at h1;exact qc6 h1
  exact item_listR pl.isList L qR (by rw[G];simpa using J) fin hs
 ·have G:(i+(B.toArray.size:Int)).toNat=j:=by
   rw[seqIndex_neg qR S]at h1;rw[qb1,<-hl];exact qc6 h1
  exact subscriptTail_builtinR (x:=w) pl.isList.typeIs slot_list_getitem.lookup
   (wpAny_getItem_list_neg (Q:=λ r s'=>r=w/\EP X pins σ Q r s') pl.isList qR (by rw[qb1]<;>lia) qR (by rw[G];simpa using J) ⟨rfl,fin⟩) hs
theorem J7g:IxR X (rIxT X.K):=by
 intro value n pins s σ H x y v u Q I D G h hs;obtain ⟨p,xs,i,z,rfl,rfl,J,L,q⟩:=h;cases D;obtain ⟨t,rfl⟩:=G;obtain ⟨M,r,pl,O⟩:=I.tuple J;obtain ⟨j,h1,h2,R,S,U⟩:=Z8o L;obtain ⟨w,N,B⟩:=r.get h2;have hl:=r.length;have Y:=Z5r;have fin:EP X pins σ Q w s:=⟨z,H,I,B,q⟩;exact subscriptTail_builtinR (x:=w) pl.typeIs slot_tuple_getitem.lookup
  (getItem_tuple (j:=j) (Q:=λ r s'=>r=w/\EP X pins σ Q r s') pl qR qR (by rw[qb1,<-hl];exact h1) (by simpa using N) ⟨rfl,fin⟩) hs
theorem J1l:IxR X rIxS:=by
 intro value n pins s σ H x y v u Q I B D h hs;obtain⟨z,i,c,rfl,rfl,O,G,q⟩:=h;obtain⟨t,rfl⟩:=B;obtain⟨R,rfl⟩:=D;obtain⟨j,h1,h2,S,J,L⟩:=Z8o G;have hl:z.cps.toList.length=z.length:=by simp[Str.length]
 rw[hl]at h1 J L;have U:=Z5r;exact tail_any (typeIs_str s z t) slot_str_getitem.lookup (getItem_str (c:=c) (by
  have M:decide (i< -(2^63:Int))=false:=decide_eq_false qR;have N:decide (i>=2^63)=false:=decide_eq_false qR;rw[M,N,Bool.or_false]) (by rw[h1];simpa using h2) ⟨.str ⟨#[c]⟩,H,I.tok _,⟨_,rfl⟩,q⟩) hs
theorem Z7M(lo hi:Option Int)(n:Nat):(sliceBounds lo hi none n).1=((HT.sIx n 0 lo:Nat):Int)/\(sliceBounds lo hi none n).2.1=((HT.sIx n n hi:Nat):Int)/\(sliceBounds lo hi none n).2.2=1:=by
 refine⟨?_,?_,rfl⟩
 ·cases lo with
  |none=>simp[sliceBounds,HT.sIx]
  |some i=>
   simp only[sliceBounds,HT.sIx,Option.getD_none,show(1:Int)>0 by decide,if_true];by_cases h:i<0
   ·simp only[h,if_true]<;>lia
   ·simp only[h,if_false]<;>lia
 ·cases hi with
  |none=>simp[sliceBounds,HT.sIx]
  |some i=>
   simp only[sliceBounds,HT.sIx,Option.getD_none,show(1:Int)>0 by decide,if_true];by_cases h:i<0
   ·simp only[h,if_true]<;>lia
   ·simp only[h,if_false]<;>lia
theorem Z6E(its:List V1)(lo hi:Option Int):slicePick its.toArray lo hi none=((its.drop (HT.sIx its.length 0 lo)).take (HT.sIx its.length its.length hi-HT.sIx its.length 0 lo)).toArray:=by
 obtain⟨h1,h2,i⟩:=Z7M lo hi its.toArray.size;unfold slicePick;rw[h1,h2,i];simp only[sliceRange_one,pick_run,qb1]<;>rfl
def rSlL(K:X0):V->Option Int->Option Int->Hp->VK->Prop:=λ x lo hi H Q=>∃a xs,x=.ref a/\SqL K H a xs/\∀p,H p=none->Q (.ref p) (upd H p (.lst (cutV xs lo hi)))
theorem Z2E:SlR X (rSlL X.K):=by
 intro pins s σ H x v G J lo hi L Q I n hs pl y h;obtain⟨a,xs,rfl,z,q⟩:=h;cases n;obtain⟨B,r,j,D⟩:=I.list z;have i:=r.length;refine⟨"list",_,slot_list_getitem.lookup,j.isList.typeIs,?_⟩;refine wpAny_getItem_list_slice j.isList hs pl y .none (by simp) ?_ (by rw[qb1]<;>lia);rw[Z6E,<-i];refine⟨.ref s.heap.objs.size,_,I.laid (t':=s.toks) (o:=.lst (cutV xs lo hi)) (λ b M q=>Heap.get?_push_of_some _ q) (qa0 _) ?_,rfl,q _ (I.hok.fresh (qa0 _))⟩;exact⟨qa9 (Z5l xs lo hi) D,_,0,(r.drop (HT.sIx xs.length 0 lo)).take (HT.sIx xs.length xs.length hi-HT.sIx xs.length 0 lo),Heap.get?_push_size _ rfl⟩
def Z5D:V->Bool
 | .non=>true
 | .bl _=>true
 | .int _=>true
 | .str _=>true
 |_=>false
def eqV:V->V->Bool
 | .non,.non=>true
 | .bl a,.bl b=>a==b
 | .bl a,.int b=>(if a then 1 else 0)==b
 | .int a,.bl b=>a==(if b then 1 else 0)
 | .int a,.int b=>a==b
 | .str a,.str b=>a==b
 |_,_=>false
theorem J6Y{A:M3}{s:M1}{y x:V}{u v:V1}(n:RelV y u)(i:RelV x v)(z:Z5D y=true)(q:Z5D x=true):SeqAt.EqAt A s u v (eqV y x):=by
 cases y with
 |non=>
  cases n;cases x with
  |non=>cases i;exact SeqAt.EqAt.same _
  |bl b=>cases i;exact SeqAt.EqAt.none_bool b
  |int b=>obtain⟨t,rfl⟩:=i;exact SeqAt.EqAt.none_int b t
  |str b=>obtain⟨t,rfl⟩:=i;exact SeqAt.EqAt.none_str b t
  |_=>exact absurd (show false=true from q) qc0
 |bl a=>
  cases n;cases x with
  |non=>cases i;exact SeqAt.EqAt.bool_none a
  |bl b=>cases i;exact SeqAt.EqAt.bool_bool a b
  |int b=>obtain⟨t,rfl⟩:=i;exact SeqAt.EqAt.bool_int a b t
  |str b=>obtain⟨t,rfl⟩:=i;exact SeqAt.EqAt.bool_str a b t
  |_=>exact absurd (show false=true from q) qc0
 |int a=>
  obtain⟨j,rfl⟩:=n;cases x with
  |non=>cases i;exact SeqAt.EqAt.int_none a j
  |bl b=>cases i;exact SeqAt.EqAt.int_bool a j b
  |int b=>obtain⟨t,rfl⟩:=i;exact SeqAt.EqAt.int_int a j b t
  |str b=>obtain⟨t,rfl⟩:=i;exact SeqAt.EqAt.int_str a j b t
  |_=>exact absurd (show false=true from q) qc0
 |str a=>
  obtain⟨j,rfl⟩:=n;cases x with
  |non=>cases i;exact SeqAt.EqAt.str_none a j
  |bl b=>cases i;exact SeqAt.EqAt.str_bool a j b
  |int b=>obtain⟨t,rfl⟩:=i;exact SeqAt.EqAt.str_int a j b t
  |str b=>obtain⟨t,rfl⟩:=i;exact SeqAt.EqAt.str_str a j b t
  |_=>exact absurd (show false=true from q) qc0
 |_=>exact absurd (show false=true from z) qc0
def eqU(x:V)(u:V1):Bool:=match u with
 | .none=>eqV .non x
 | .bool b=>eqV (.bl b) x
 | .int i _=>eqV (.int i) x
 | .str z _=>eqV (.str z) x
 |_=>false
theorem J2c{x y:V}{u:V1}(r:RelV y u)(f:Z5D y=true):eqU x u=eqV y x:=by
 cases y with
 |non=>cases r;rfl
 |bl b=>cases r;rfl
 |int i=>obtain⟨t,rfl⟩:=r;rfl
 |str z=>obtain⟨t,rfl⟩:=r;rfl
 |_=>exact absurd (show false=true from f) qc0
theorem Z4V{x:V}:∀{xs:List V}{us:List V1},Vals xs us->xs.all Z5D=true->us.any (eqU x)=xs.any λ y=>eqV y x
 |_,_,.nil,_=>rfl
 |y::xs,u::us,.cons r t,f=>by
  rw[List.all_cons,qh0]at f;rw[qi5,qi5,J2c r f.1,Z4V t f.2]
theorem Z3n{A:M3}{s:M1}{x:V}{v:V1}(j:RelV x v)(n:Z5D x=true):∀{xs:List V}{us:List V1},Vals xs us->xs.all Z5D=true->∀u∈us,SeqAt.EqAt A s u v (eqU x u)
 |_,_,.nil,_=>λ u i=>by cases i
 |y::xs,u::us,.cons r t,f=>λ q i=>by
  rw[List.all_cons,qh0]at f;rcases qa4.mp i with rfl|i
  ·rw[J2c r f.1];exact J6Y r j f.1 n
  ·exact Z3n j n t f.2 q i
def inV(x:V)(xs:List V):Bool:=xs.any λ y=>eqV y x
def rIn(K:X0)(neg:Bool):R2:=λ x y H Q=>∃p xs,y=.ref p/\(SqL K H p xs\/SqT K H p xs)/\Z5D x=true/\xs.all Z5D=true/\Q (.bl (if neg then !inV x xs else inV x xs)) H
theorem Z0J:OpR X (compareOp .In) (rIn X.K false):=by
 intro pins s σ H x y v u Q I z D h;obtain⟨p,xs,rfl,j,B,fs,q⟩:=h;cases D;rcases j with j|j
 ·obtain⟨i,r,pl,G⟩:=I.list j;refine SeqAt.in_listAt (eqU x) pl.isList (λ w n=>Z3n z B r fs w (by simpa using n)) ⟨.bl _,H,I,rfl,?_⟩;rw[show i.toArray.any (eqU x)=i.any (eqU x)by simp,Z4V r fs];exact q
 ·obtain⟨i,r,pl,G⟩:=I.tuple j;refine SeqAt.in_tupleAt (eqU x) pl (λ w n=>Z3n z B r fs w (by simpa using n)) ⟨.bl _,H,I,rfl,?_⟩;rw[show i.toArray.any (eqU x)=i.any (eqU x)by simp,Z4V r fs];exact q
theorem Z2w:OpR X (compareOp .NotIn) (rIn X.K true):=by
 intro pins s σ H x y v u Q I z D h;obtain⟨p,xs,rfl,j,B,fs,q⟩:=h;cases D;rcases j with j|j
 ·obtain⟨i,r,pl,G⟩:=I.list j;refine SeqAt.notIn_listAt (eqU x) pl.isList (λ w n=>Z3n z B r fs w (by simpa using n)) ⟨.bl _,H,I,rfl,?_⟩;rw[show i.toArray.any (eqU x)=i.any (eqU x)by simp,Z4V r fs];exact q
 ·obtain⟨i,r,pl,G⟩:=I.tuple j;refine SeqAt.notIn_tupleAt (eqU x) pl (λ w n=>Z3n z B r fs w (by simpa using n)) ⟨.bl _,H,I,rfl,?_⟩;rw[show i.toArray.any (eqU x)=i.any (eqU x)by simp,Z4V r fs];exact q
theorem Z7I:Z3V X (.builtin "len") (λ xs H Q=>∃p ys,xs=[.ref p]/\(SqL X.K H p ys\/SqT X.K H p ys)/\Q (.int ys.length) H):=by
 intro pins s σ H xs us Q I r h;obtain⟨p,ys,rfl,j,q⟩:=h;obtain⟨u,rfl,z⟩:=Z8K r;cases z;have D:=Z5r;rcases j with j|j
 ·obtain⟨n,y,pl,B⟩:=I.list j;have i:=y.length;exact Calls.call_len_list pl.isList (by simp only[qb1]<;>lia) ⟨.int ys.length,H,I.tok _,⟨s.toks+1,by rw[qb1,i]⟩,q⟩
 ·obtain⟨n,y,pl,B⟩:=I.tuple j;have i:=y.length;exact len_tuple pl (by simp only[qb1]<;>lia) ⟨.int ys.length,H,I.tok _,⟨s.toks+1,by rw[qb1,i]⟩,q⟩
theorem Z3f:Z3V X (.type "list") (λ xs H Q=>∃p ys,xs=[.ref p]/\(SqL X.K H p ys\/SqT X.K H p ys)/\∀l,H l=none->Q (.ref l) (upd H l (.lst ys))):=by
 intro pins s σ H xs us Q I r h;obtain⟨p,ys,rfl,z,q⟩:=h;obtain⟨u,rfl,L⟩:=Z8K r;cases L;have fin:∀(i:List V1),Vals ys i->ys.length<=sizeLine->∀(h':Z3)(j:Nat),(∀b o',s.heap.get? b=some o'->h'.get? b=some o')->
   h'.get? s.heap.objs.size=some {cls:=.type "list",dict:=none,data:=.seq i.toArray j,slots:=#[]}->EP X pins σ Q (.ref s.heap.objs.size) {s with heap:=h'}:=λ i y B h' j kp e=>
  ⟨.ref s.heap.objs.size,_,I.laid (t':=s.toks) kp (qa0 _) (show ObjOk X.prog X.w _ h' _ (.lst ys)from⟨B,i,j,y,e⟩),rfl,q _ (I.hok.fresh (qa0 _))⟩
 rcases z with z|z
 ·obtain⟨i,y,pl,B⟩:=I.list z;have D:=y.length;obtain⟨o,G,J,n,hd⟩:=pl.isList;exact call_list_seq p (.inl rfl) G J hd (λ h' j kp e=>fin i y B h' j kp e) (by simp only[qb1]<;>lia)
 ·obtain⟨i,y,pl,B⟩:=I.tuple z;have D:=y.length;obtain⟨o,G,J,n,hd⟩:=pl;exact call_list_seq p (.inr rfl) G J hd (λ h' j kp e=>fin i y B h' j kp e) (by simp only[qb1]<;>lia)
theorem Z0u:Z3V X (.type "tuple") (λ xs H Q=>∃p ys,xs=[.ref p]/\((SqL X.K H p ys/\∀l,H l=none->Q (.ref l) (upd H l (.tup ys)))\/(SqT X.K H p ys/\Q (.ref p) H))):=by
 intro pins s σ H xs us Q I r h;obtain⟨p,ys,rfl,h⟩:=h;obtain⟨u,rfl,D⟩:=Z8K r;cases D;rcases h with⟨j,q⟩|⟨j,q⟩
 ·obtain⟨i,n,pl,y⟩:=I.list j;have z:=n.length;refine call_tuple_list pl.isList (λ h' kp=>?_) (by simp only[qb1]<;>lia);have B:Inv X pins σ H {s with heap:=h'}:=I.kept (t':=s.toks) kp;have G:Inv X pins σ (upd H h'.objs.size (.tup ys)) {s with heap:=h'.push {cls:=.type "tuple",data:=.seq i.toArray}}:=
   B.laid (t':=s.toks) (λ b o e=>Heap.get?_push_of_some _ e) (qa0 _) (show ObjOk X.prog X.w _ _ _ (.tup ys)from⟨⟨y,Z9A⟩,i,n,IsTup.new _ _⟩)
  exact⟨.ref h'.objs.size,_,G,rfl,q _ (B.hok.fresh (qa0 _))⟩
 ·obtain⟨i,n,pl,y⟩:=I.tuple j;exact call_tuple_same pl ⟨.ref p,H,I,rfl,q⟩
def tyV(K:X0)(T:String)(x:V)(H:Hp):Prop:=match x with
 | .str _=>T="str"
 | .int _=>T="int"
 | .ref p=>(T="list"/\∃xs,SqL K H p xs)\/(T="tuple"/\∃o,K.lookup p=some o/\o.cls=.type "tuple"/\o.dict=none)\/
   (T="dict"/\((∃i,H p=some (.dK i))\/∃i,H p=some (.dT i)))\/(T="set"/\∃S n,H p=some (.set S n))
 |_=>False
theorem J4y{pins:List (V0×Obj)}{σ:St}{H:Hp}{s:M1}{T:String}{x:V}{v:V1}(I:Inv X pins σ H s)(r:RelV x v)(ty:tyV X.K T x H):s.TypeIs v T/\∀a,v=.ref a->∃B,s.heap.get? a=some B/\B.dict=none:=by
 cases x with
 |str z=>
  obtain⟨t,rfl⟩:=r;cases(show T="str" from ty);exact⟨typeIs_str s z t,λ _ e=>nomatch e⟩
 |int i=>
  obtain⟨t,rfl⟩:=r;cases(show T="int" from ty);exact⟨typeIs_int s i t,λ _ e=>nomatch e⟩
 |ref p=>
  cases r;rcases ty with⟨rfl,xs,D⟩|⟨rfl,o,j,G,hd⟩|⟨rfl,j⟩|⟨rfl,S,n,j⟩
  ·obtain⟨J,_,pl,_⟩:=I.list D;refine⟨pl.isList.typeIs,λ a e=>?_⟩;cases e;obtain⟨o,n,e,c,hd,_⟩:=pl;exact⟨o,e,hd⟩
  ·refine⟨⟨o,I.kIn p o j,G⟩,λ a e=>?_⟩;cases e;exact⟨o,I.kIn _ o j,hd⟩
  ·have z:∃o,s.heap.get? p=some o/\o.ExactDict:=by
    rcases j with⟨q,j⟩|⟨q,j⟩
    ·obtain⟨_,_,_,_,o,_,_,e,ex,_⟩:=I.hok p _ j;exact⟨o,e,ex⟩
    ·obtain⟨_,_,_,_,o,_,_,e,ex,_⟩:=I.hok p _ j;exact⟨o,e,ex⟩
   obtain⟨o,e,ex⟩:=z;refine⟨⟨o,e,ex.1⟩,λ a y=>?_⟩;cases y;exact⟨o,e,ex.2.1⟩
  ·obtain⟨o,_,_,_,e,ex,_⟩:=I.hok p _ j;refine⟨⟨o,e,ex.1⟩,λ a y=>?_⟩;cases y;exact⟨o,e,ex.2.1⟩
 |_=>exact False.elim ty
def tBM0(K:X0)(T:String)(r:V->List V->Hp->VK->Prop)(to:TE):TE:=λ σ H Q=>to σ H λ x H1=>tyV K T x H1/\r x [] H1 Q
def tBM(K:X0)(T:String)(r:V->List V->Hp->VK->Prop)(to:TE)(t:TA):TE:=λ σ H Q=>to σ H λ x H1=>tyV K T x H1/\t σ H1 λ xs H2=>r x xs H2 Q
variable{o e:Expr}{es:List Expr}{to:TE}{t:TA}{name:M2}{apos cpos:Pos}{T id:String}{r:V->List V->Hp->VK->Prop}
theorem J1E(z:PlainAttrs T)(n:Slot T name id)(q:typeOf (.builtin id)=pure (.type "method_descriptor"))(B:MtR X id r)(D:PE X o to)(i:attributeBase o name X.env (eval o X.env)=eval o X.env:=by rfl)(j:(apos.endLine==cpos.line)=true:=by rfl):PE X (.Call (.Attribute o name apos) [] [] cpos) (tBM0 X.K T r to):=by
 intro pins s σ H Q I h;refine wpAny_Call_method0_late i j (thn (D pins s σ H _ I h) λ v G ⟨x,H1,y,r1,ty,J⟩=>?_);obtain⟨h1,h2⟩:=J4y y r1 ty;exact⟨T,id,z,n,q,h1,h2,Calls.callWith_builtin rfl (PySem.evalArgs_none (B pins G σ H1 x [] v [] Q y r1 .nil J))⟩
theorem Z1B(G:PlainAttrs T)(q:Slot T name id)(z:typeOf (.builtin id)=pure (.type "method_descriptor"))(J:MtR X id r)(L:PE X o to)(M:PA X (e::es) t)(j:attributeBase o name X.env (eval o X.env)=eval o X.env:=by rfl)(y:((backTo cpos (starEach (e::es) X.env)).all (λ x=>!x.1)&&(backToKw cpos (keywordEach [] X.env)).all (λ x=>x.1.isSome)&&decide ((e::es).length+([]:List Keyword).length+(if([]:List Keyword).isEmpty then 0 else 1)<30))=true:=by rfl)(n:(apos.endLine==cpos.line)=true:=by rfl)(hs:starEach (e::es) X.env=(false,eval e X.env)::starEach es X.env:=by rfl)(i:(backTo cpos (starEach es X.env)).any (·.1)=false:=by rfl):PE X (.Call (.Attribute o name apos) (e::es) [] cpos) (tBM X.K T r to t):=by
 intro pins s σ H Q I h;refine wpAny_Call_method_late j y n rfl (thn (L pins s σ H _ I h) λ v N ⟨x,H1,B,r1,ty,O⟩=>?_);obtain⟨h1,h2⟩:=J4y B r1 ty;refine⟨T,id,G,q,z,h1,h2,?_⟩;have D:=M cpos pins N σ H1 _ B O;rw[hs]at D ⊢;refine Calls.callWith_builtin (by show(false||(backTo cpos (starEach es X.env)).any (·.1))=false;rw[i]<;>rfl) (Calls.evalArgs_plain ?_);exact thn D λ us R ⟨vs,H2,S,r2,U⟩=>J pins R σ H2 x vs v us Q S r1 r2 U
end
end L2
namespace L2
open PySem PySem.Spec PyProof.Rows
def MtM(X:Cx)(id:String)(r:V->List V->Hp->VK->Prop):Prop:=
 ∀(pins:List (V0×Obj))(s:M1)(σ:St)(H:Hp)(x:V)(xs:List V)(v:V1)(us:List V1)(Q:VK),Inv X pins σ H s->RelV x v->Vals xs us->r x xs H Q->
  wpAny (model X.prog X.w) X.A (call (.builtin id) (v::us)) (EP X pins σ Q) X.xe s
theorem Vals.one:∀{x:V}{us:List V1},Vals [x] us->∃u,us=[u]/\RelV x u
 |_,_,.cons r .nil=>⟨_,rfl,r⟩
theorem Vals.two:∀{x y:V}{us:List V1},Vals [x,y] us->∃u v,us=[u,v]/\RelV x u/\RelV y v
 |_,_,_,.cons r (.cons q .nil)=>⟨_,_,rfl,r,q⟩
theorem Vals.zero:∀{us:List V1},Vals [] us->us=[]
 |_,.nil=>rfl
variable{xs:List V}
theorem Vals.dropLast{us:List V1}(h:Vals xs us):Vals xs.dropLast us.dropLast:=by
 induction h with
 |nil=>exact .nil
 |cons r t i=>
  cases t with
  |nil=>exact .nil
  |cons q j=>exact .cons r i
theorem Vals.reverse{us:List V1}(h:Vals xs us):Vals xs.reverse us.reverse:=by
 induction h with
 |nil=>exact .nil
 |cons r t i=>rw[qe8,qe8];exact Vals.append i (.cons r .nil)
theorem Vals.rep{us:List V1}(h:Vals xs us):∀k:Nat,Vals (qb8 k xs).flatten (qb8 k us).flatten
 |0=>.nil
 |k+1=>by
  rw[qi6,qi6,qd5,qd5];exact Vals.append h (Vals.rep h k)
theorem J0N{i:Type}(l:List i):l.eraseIdx (l.length-1)=l.dropLast:=by
 induction l with
 |nil=>rfl
 |cons a r j=>
  cases r with
  |nil=>rfl
  |cons b r=>
   have e:(a::b::r).length-1=((b::r).length-1)+1:=by
    have h1:(a::b::r).length=r.length+2:=rfl;have h2:(b::r).length=r.length+1:=rfl;lia
   rw[e,List.eraseIdx_cons_succ,j];all_goals rfl
theorem Z7O(its:List V1):∀(k:Nat)(i:List V1),List.foldl (λ j n=>j++n) i.toArray (qb8 k its.toArray)=(i++(qb8 k its).flatten).toArray
 |0,i=>by simp
 |k+1,i=>by
  have e:i.toArray++its.toArray=(i++its).toArray:=by simp
  have q:(i++its)++(qb8 k its).flatten=i++(qb8 (k+1) its).flatten:=by
   rw[qi6,qd5,qb9]
  rw[<-q,<-Z7O its k (i++its),<-e,qi6,List.foldl_cons]
section
variable{X:Cx}{pins:List (V0×Obj)}{σ:St}{H:Hp}{s:M1}{l b:V0}{xs ys zs:List V}
theorem Inv.lset{its its':List V1}{n:Nat}{f:Array V1->Array V1}{t':Nat}(I:Inv X pins σ H s)(i:H l=some (.lst xs))(e:s.heap.get? l=some {cls:=.type "list",data:=.seq its.toArray n})(j:f its.toArray=its'.toArray)(y:Vals ys its')(hz:ys.length<=sizeLine):Inv X pins σ (upd H l (.lst ys)) {s with heap:=s.heap.update l (Obj.mapSeq f),toks:=t'}:=by
 have q:=PySem.IsL.update e f;rw[j]at q;refine I.write (x:=l) (e:=l) (by rw[i];exact trivial) (.inl rfl) (λ D u z B=>(Heap.get?_update_other s.heap (Obj.mapSeq f) (Ne.symm z)).trans B) ⟨_,q⟩ ?_;exact⟨hz,its',_,y,q⟩
theorem Inv.lnew{its:List V1}{t':Nat}(I:Inv X pins σ H s)(i:Vals ys its)(hz:ys.length<=sizeLine):Inv X pins σ (upd H s.heap.objs.size (.lst ys)) {s with heap:=s.heap.push {cls:=.type "list",data:=.seq its.toArray},toks:=t'}:=
 I.laid (λ _ _ q=>Heap.get?_push_of_some _ q) (qa0 _) ⟨hz,its,0,i,Heap.get?_push_size _ rfl⟩
theorem Inv.fresh(I:Inv X pins σ H s):H s.heap.objs.size=none:=I.hok.fresh (qa0 _)
theorem Inv.lstM(I:Inv X pins σ H s)(i:H l=some (.lst xs)):xs.length<=sizeLine/\∃(its:List V1)(n:Nat),Vals xs its/\xs.length=its.length/\s.heap.get? l=some {cls:=.type "list",data:=.seq its.toArray n}:=by
 obtain⟨z,its,n,r,e⟩:=I.hok l _ i;exact⟨z,its,n,r,r.length,e⟩
theorem Z6M{n:Nat}(h:n<=sizeLine):Builtin.List.listTooLong n=false:=by
 unfold Builtin.List.listTooLong;exact decide_eq_false qR
end
section
variable{X:Cx}
def J2y:V->List V->Hp->VK->Prop:=λ x vs H Q=>∃l xs y,x=.ref l/\vs=[y]/\H l=some (.lst xs)/\xs.length<sizeLine/\Q .non (upd H l (.lst (xs++[y])))
theorem Z0F:MtM X "list.append" J2y:=by
 intro pins s σ H x vs v us Q I B D h;obtain⟨l,xs,y,rfl,rfl,j,J,q⟩:=h;cases B;obtain⟨u,rfl,G⟩:=D.one;obtain⟨z,i,n,r,hl,e⟩:=I.lstM j;refine call_meets F.slot_list_append ⟨_,e,rfl⟩ F.entry_list_append (F.args_list_append_2 _ _) (PySem.list_append l i.toArray n u (by rw[qb1];lia)) ⟨e,?_⟩;refine⟨.non,_,I.lset (its':=i++[u]) j e (by simp) (r.append (.cons G .nil)) ?_,rfl,q⟩;rw[qa2,List.length_singleton];lia
def J1L:V->List V->Hp->VK->Prop:=λ x vs H Q=>∃l b xs zs,x=.ref l/\vs=[.ref b]/\H l=some (.lst xs)/\H b=some (.lst zs)/\xs.length+zs.length<=sizeLine/\Q .non (upd H l (.lst (xs++zs)))
theorem Z5n:MtM X "list.extend" J1L:=by
 intro pins s σ H x vs v us Q I G J h;obtain⟨l,b,xs,zs,rfl,rfl,D,L,S,q⟩:=h;cases G;obtain⟨u,rfl,M⟩:=J.one;cases M;obtain⟨z,j,n,r,hl,e⟩:=I.lstM D;obtain⟨U,i,N,r2,O,R⟩:=I.lstM L;have B:j.toArray.size+i.toArray.size<=sizeLine:=by rw[qb1,qb1];lia
 have y:¬(!j.toArray.isEmpty&&Builtin.List.listTooLong (j.toArray.size+i.toArray.size))=true:=by
  rw[Z6M B,Bool.and_false];exact qc0
 refine call_meets F.slot_list_extend ⟨_,e,rfl⟩ F.entry_list_extend (F.args_list_extend_2 _ _)
  (AutoSeq1.list_extend_list_list_0 l j.toArray n b i.toArray N y (by rw[qb1];lia) qR) ⟨e,R,?_⟩
 refine⟨.non,_,I.lset (its':=j++i) D e (by simp) (r.append r2) ?_,rfl,q⟩;rw[qa2];lia
def rPop:V->List V->Hp->VK->Prop:=λ x vs H Q=>∃l xs y,x=.ref l/\vs=[]/\H l=some (.lst xs)/\xs[xs.length-1]?=some y/\Q y (upd H l (.lst xs.dropLast))
theorem J2E:MtM X "list.pop" rPop:=by
 intro pins s σ H x vs v us Q I G J h;obtain⟨l,xs,y,rfl,rfl,D,L,q⟩:=h;cases G;have j:=J.zero;subst j;obtain⟨z,i,n,r,hl,e⟩:=I.lstM D;obtain⟨u,M,N⟩:=r.get L;have B:i.toArray[i.toArray.size-1]?=some u:=by
  show i.toArray[i.length-1]?=some u;rw[<-Array.getElem?_toList,<-hl];exact M
 refine call_meets F.slot_list_pop ⟨_,e,rfl⟩ F.entry_list_pop (F.args_list_pop_1 _) (MeetsSeq.list_pop_last l i.toArray n u B (by rw[qb1];lia)) ⟨e,?_⟩;refine⟨y,_,I.lset (its':=i.dropLast) D e ?_ r.dropLast ?_,N,q⟩
 ·show i.toArray.eraseIdxIfInBounds (i.toArray.size-1)=i.dropLast.toArray;rw[qb1,List.eraseIdxIfInBounds_toArray,J0N]
 ·rw[List.length_dropLast];lia
def rCat:R2:=λ x y H Q=>∃l b xs zs,x=.ref l/\y=.ref b/\H l=some (.lst xs)/\H b=some (.lst zs)/\xs.length+zs.length<=sizeLine/\∀p,H p=none->Q (.ref p) (upd H p (.lst (xs++zs)))
theorem Z0y:OpR X (binaryOp .Add) rCat:=by
 intro pins s σ H x y v u Q I B D h;obtain⟨l,b,xs,zs,rfl,rfl,G,J,O,q⟩:=h;cases B;cases D;obtain⟨z,j,n,r,hl,e⟩:=I.lstM G;obtain⟨R,i,S,r2,L,M⟩:=I.lstM J;refine PySem.P.add_list e M ?_ (by rw[qb1,qb1];lia);have N:j.toArray++i.toArray=(j++i).toArray:=by simp
 rw[N];exact⟨.ref _,_,I.lnew (t':=s.toks) (r.append r2) (by rw[qa2];lia),rfl,q _ I.fresh⟩
def rRep:R2:=λ x y H Q=>∃l k xs,x=.ref l/\y=.int k/\H l=some (.lst xs)/\-(2^63)<=k/\k<2^63/\xs.length*k.toNat<=sizeLine/\
 ∀p,H p=none->Q (.ref p) (upd H p (.lst (qb8 k.toNat xs).flatten))
theorem J5D{i:Type}(xs:List i)(k:Nat):(qb8 k xs).flatten.length=k*xs.length:=by
 induction k with
 |zero=>simp
 |succ k j=>rw[qi6,qd5,qa2,j,Nat.succ_mul,Nat.add_comm]
theorem J7p:OpR X (binaryOp .Mult) rRep:=by
 intro pins s σ H x y v u Q I O R h;obtain⟨l,k,xs,rfl,rfl,S,h1,h2,N,q⟩:=h;cases O;obtain⟨t,rfl⟩:=R;obtain⟨z,i,n,r,hl,e⟩:=I.lstM S;have B:i.toArray.size*k.toNat<=sizeLine:=by rw[qb1,<-hl];exact N
 have D:¬i.toArray.size*k.toNat>(2^63-1)/8:=by
  have:(sizeLine:Nat)<=(2^63-1)/8:=by decide
  lia
 have G:¬(!Builtin.List.listFitsIndex k)=true:=by
  rw[fitsIndex_both h1 h2];exact qc0
 have j:¬Builtin.List.listTooLong (i.toArray.size*k.toNat)=true:=by
  rw[Z6M B];exact qc0
 have J:List.foldl (λ L M=>L++M) #[] (qb8 (if i.toArray.isEmpty=true then 0 else k.toNat) i.toArray)=(qb8 k.toNat i).flatten.toArray:=by
  have Y:∀m:Nat,List.foldl (λ L M=>L++M) #[] (qb8 m i.toArray)=(qb8 m i).flatten.toArray:=λ m=>by
   have:=Z7O i m [];rw[qh1]at this;exact this
  rw[Y];cases i with
  |nil=>simp
  |cons a Z=>rw[if_neg (by simp)]
 refine wpAny_binaryOp_repeat_ref (T:="list") (U:="int") qQ ⟨_,e,rfl⟩ (λ s'=>typeIs_int s' k t) noFill_list_mul F.fills_int_mul F.slot_int_rmul repeat_list F.slot_int_index.lookup
  (call_meets F.slot_int_rmul (typeIs_int s k t) F.entry_int_rmul (F.args_int_rmul_2 _ _) (int___rmul___int_list k t l i.toArray n) ⟨e,rfl,⟨_,e,rfl⟩,call_meets F.slot_list_mul ⟨_,e,rfl⟩ F.entry_list_mul (F.args_list_mul_2 _ _) (AutoListH.list___mul___list_int_3 l i.toArray n k t G D j) ⟨e,?_⟩⟩)
 rw[J];exact⟨.ref _,_,I.lnew (t':=s.toks) (r.rep k.toNat) (by rw[J5D,Nat.mul_comm];exact N),rfl,q _ I.fresh⟩
end
section
variable{prog:Program}{w:Y3}{A:M3}{E:V1->M1->Prop}{s:M1}
set_option maxRecDepth 100000 in
end
end L2
namespace Att
open PySem PySem.W PySem.Calls PyProof.Rows
theorem Z5F{P:Params}{h:Z3}:∀(ns:List Int)(vs:List V1),WellAll P h vs (ns.map WData.int)->IntsAre vs ns:=by
 intro ns;induction ns with
 |nil=>
  intro vs w;rw[qi7]at w;cases w;exact .nil
 |cons n ns i=>
  intro vs w;rw[qb7]at w;cases w with
  |cons a b=>
   cases a;exact .cons _ _ (i _ b)
theorem J1R{l:OpenLaw}{n:Nat}(L:l.most=some n){P:Params}{h:Z3}{args:List WData}{vals:List V1}(j:l.row.toRowW.claim.pre args=true)(G:WellAll P h vals args):∃a vs i,vals=[Value.ref a]/\args=[WData.list (i.map WData.int)]/\h.get? a=some {cls:=.type "list",data:=.seq vs.toArray}/\IntsAre vs i/\i.length<=n:=by
 have I:WShape.hasAll [] args [.list .int]=true:=(pre_splitW j).1;have J:l.pre.holds [] {args:=args}=true:=(pre_splitW j).2;obtain⟨d,r,rfl,h1,h2⟩:=hasAllW_cons I;obtain rfl:=hasAllW_nil h2;obtain⟨xs,rfl,M⟩:=hasW_list h1;obtain⟨i,rfl⟩:=items_int M;have y:i.length<=n:=by
  unfold OpenLaw.pre at J;have B:(WTm.not (.lt (.lit (.int (n:Int))) (.len (.arg 0)))).holds [] {args:=[.list (i.map .int)]}=true:=by
   have B:=(holds_andW J).1;rw[L]at B;exact B
  have D:=condW_of B (w_not (w_lt w_lit (w_len_list (w_arg rfl))));rw[qa1]at D;refine Nat.le_of_not_lt λ q=>?_;have N:(n:Int)<((i.length:Nat):Int):=by lia
  first
   |(rw[decide_eq_true N]at D;exact absurd D qQ)
   |(simp at D;lia)
 cases G with
 |cons O R=>
  cases R;cases O with
  |list S z=>exact⟨_,_,i,rfl,rfl,S,Z5F i _ z,y⟩
theorem J2X(l:OpenLaw)(args:List WData):l.row.toRowW.claim.post args (.bool true) args=true:=
 postW_of (r:=l.row.toRowW) (X:=(true == true))
  (show WShape.has [] (.bool true) .bool=true by first|rfl|decide|simp[WShape.has,WShape.arms,WShape.armsAll])
  (show(WTm.eq .res (.lit (.bool true))).value [] {args:=args,res:=some (.bool true),after:=args}=some (.bool (true==true))from w_eq_bool (w_res rfl) w_lit) rfl
theorem attach_call{l:OpenLaw}{n:Nat}{q:Program}{j:List M2}{XP:(M2->Option V1)->Z3->Prop}{YP:Y3->Z3->Prop}{d:DefRec}(hn:l.most=some n)(N:d.params.defaults=[])(call:∀(w:Y3)(s₀ i:M1)(mg O:M2->Option V1)(B:V0)(o:Obj)(R L y:V1)(a:V0)(vs:List V1)(M:List Int),Ground q j [] XP w s₀ mg O i.heap->YP w i.heap->i.heap.get? B=some o->o.data=.func (docDef d.name d.params d.body d.scope R L y)->i.heap.CodeRec L d.name->mg d.name=some (.ref B)->i.heap.get? a=some {cls:=.type "list",data:=.seq vs.toArray}->IntsAre vs M->M.length<=n->i.gens=#[]->codeAny (model l.prog w) callerA (.call (.ref B) ⟨[.ref a],[]⟩) (λ r s'=>r=.ok (.ret (.bool true))/\OldK i.heap s'.heap/\s'.os=i.os/\AllBare s'.gens) i):WalkO q j XP YP l.row.toRowW d [] (λ f vs=>PySem.call f vs):=by
 intro w s₀ i mg O G Y B o R L y dV kV ho hd S hD U hg a0 vals as D b0 d0 Z e0;obtain rfl:dV=.none:=Dflts.none hD N;obtain rfl:kV=.none:=Dflts.noKw hD;obtain⟨a,vs,M,rfl,rfl,I,z,J⟩:=J1R hn D Z;refine enter_call (codeAny_mono (call w s₀ i mg O B o R L y a vs M G Y ho (fd_plain hd) S U I z J hg) λ r s' hq=>?_);obtain⟨rfl,h2,h3,h4⟩:=hq;exact⟨.inl ⟨.bool true,.bool true,[],rfl,λ _=>rfl,.bool true,J2X l _,λ _=>⟨List.Pairwise.nil,λ _ hm=>(nomatch hm)⟩⟩,h2,h3,h4⟩
section
variable{prog:Program}{w:Y3}{A:M3}{E:V1->M1->Prop}{s:M1}{K:Frag}
def J9Y(h:Z3)(L d:V0):List (V0×Obj):=(qe2 h.objs.size).filterMap λ a=>if a=L\/a=d then none else(h.get? a).map λ o=>(a,o)
end
end Att
namespace L2
open PySem PySem.Spec PyProof.Rows
theorem Z7H:∀{vs:List V1}{i:List Int},IntsAre vs i->Vals (i.map V.int) vs
 |_,_,.nil=>.nil
 |_,_,.cons n t h=>.cons ⟨t,rfl⟩ (Z7H h)
def Only(H:Hp):Prop:=∀b,H b=none\/∃o xs,H b=some (.frz o (.lst xs))
theorem J3s{P:Program}{w:Y3}{K:X0}{mg mb:M2->Option V1}{CX:CXT}{k:Nat}{fa a:V0}{fd:FuncData}{x:M2}{sp:Sp}{s₁:M1}{vs:List V1}{ns:List Int}(KX:K.In s₁.heap)(hns:s₁.heap.Ns mainGlobals mg)(hb:s₁.heap.Ns builtinsNs mb)(hbb:∀x:M2,x≠"__name__"->mb x=bootBuiltins x)(hlim:s₁.heap.NoLimit)(hg:s₁.gens=#[])(ha:s₁.heap.get? a=some {cls:=.type "list",data:=.seq vs.toArray})(hi:IntsAre vs ns)(hl:ns.length<=sizeLine)(hr:Room k callerA)(F:∀base:Z3,K.In base->base.Ns mainGlobals mg->FnOk P w K mg base CX k fa fd [x] sp)(hbind:∀(s:M1)(u:V1),BindsTo s fd ⟨[u],[]⟩ [(x,u)])(hsp:∀H:Hp,Only H->SqL K H a (ns.map V.int)->sp [.ref a] H (λ v _=>v=.bl true) λ _ _ _=>False)(hCX:∀H e s',CX [] H s₁ (λ _ _ _=>False) e s'->False):codeAny (model P w) callerA (.call (.ref fa) ⟨[.ref a],[]⟩) (λ r s'=>r=.ok (.ret (.bool true))/\OldK s₁.heap s'.heap/\s'.os=s₁.os/\AllBare s'.gens) s₁:=by
 have rv:=Z7H hi;have lenV:=hi.length
 --from an abstract heap in which nothing but the script may be tracked
 have core:∀H:Hp,Only H->SqL K H a (ns.map V.int)->HOk P w H s₁.heap->(∀b,H b≠none->b=a)->(H a≠none->K.lookup a=none)->
   codeAny (model P w) callerA (.call (.ref fa) ⟨[.ref a],[]⟩) (λ r s'=>r=.ok (.ret (.bool true))/\OldK s₁.heap s'.heap/\s'.os=s₁.os/\AllBare s'.gens) s₁:=by
  intro H hO hS hok hA hK;have base_of:∀{b:V0}{o:Obj},s₁.heap.get? b=some o->H b=none->(hidT s₁.heap H).get? b=some o:=λ e n=>J3B e n;have noA:∀{b:V0}{o:Obj}{es:Array DictEntry}{ep:Nat},s₁.heap.get? b=some o->o.data=.dict es ep->H b=none:=λ{b o es ep} e d=>by
   cases q:H b with
   |none=>rfl
   |some u=>
    have e':b=a:=hA b (by rw[q];simp);subst e';rw[ha]at e;cases e;have d':Data.seq vs.toArray _=Data.dict es ep:=d;cases d'
  have nsK:∀{b:V0}{m:M2->Option V1},s₁.heap.Ns b m->(hidT s₁.heap H).Ns b m:=λ{b m} ⟨o,es,ep,e,d,r⟩=>⟨o,es,ep,base_of e (noA e d),d,r⟩;have hKb:K.In (hidT s₁.heap H):=λ b o e=>base_of (KX b o e) (by
   cases q:H b with
   |none=>rfl
   |some u=>
    have e':b=a:=hA b (by rw[q];simp);subst e';rw[hK (by rw[q];simp)]at e;cases e)
  have hM:Mod K mg (hidT s₁.heap H):=⟨hKb,nsK hns,⟨mb,nsK hb,hbb⟩,let⟨mc,h1,h2⟩:=hlim;⟨mc,nsK h1,h2⟩⟩;have e0:Env0 P w K mg (hidT s₁.heap H) callerA [] s₁ H:=⟨rfl,hM,λ b o e=>J5O e,qg7 (J1W _ _),trivial,λ b hb=>absurd (show b∈([]:List V0)from hb) (by simp),hok,.of_eq hg⟩;refine codeAny_mono ((F _ hKb (nsK hns)).run callerA [] s₁ H ⟨[.ref a],[]⟩ [.ref a] [.ref a] _ _ hr e0 (hbind s₁ (.ref a)) (.cons rfl .nil) (hsp H hO hS)) λ r s' h=>?_;cases r with
  |error e=>exact(hCX H e s' h).elim
  |ok fl=>
   cases fl with
   |next=>exact False.elim h
   |brk=>exact False.elim h
   |cont=>exact False.elim h
   |ret u=>
    obtain⟨v,H',os,bare,un,hok',r',q⟩:=h;have q':v=.bl true:=q;subst q';obtain rfl:u=Value.bool true:=r';refine⟨rfl,OldK.of_keep λ b o e=>?_,os,bare⟩;cases q:H b with
    |none=>exact un.keep b o e q (by intro z;exact absurd (show b∈([]:List V0)from z) (by simp)) (by simp)
    |some u=>
     rcases hO b with z|⟨ob,xs,z⟩
     ·rw[q]at z;cases z
     ·have z2:=un.frzs b ob _ z;obtain⟨e1,_⟩:=hok b _ z;obtain⟨e2,_⟩:=hok' b _ z2;rw[e]at e1;cases e1;exact e2
 cases hk:K.lookup a with
 |some o=>
  --the script is one of the module's own objects
  have e:=KX a o hk;rw[ha]at e;cases e;refine core (λ _=>none) (λ _=>.inl rfl) (.inr ⟨_,vs.toArray,_,hk,rfl,rfl,rfl,by rw[qb1,lenV];exact hl,by simpa using rv⟩) (λ b u z=>by have z':(none:Option HO)=some u:=z;cases z') (λ b z=>absurd rfl z) λ z=>absurd rfl z
 |none=>
  refine core (λ b=>if b=a then some (.frz {cls:=.type "list",data:=.seq vs.toArray} (.lst (ns.map V.int)))else none) (λ b=>?_) (.inl (.inr ⟨{cls:=.type "list",data:=.seq vs.toArray},if_pos rfl⟩)) (λ b u z=>?_) (λ b z=>?_) λ _=>hk
  ·by_cases hb:b=a
   ·exact .inr ⟨_,_,if_pos hb⟩
   ·exact .inl (if_neg hb)
  ·by_cases hb:b=a
   ·have z':=(if_pos hb).symm.trans z;cases z';subst hb;exact⟨ha,by rw[qa1];exact hl,vs,_,rv,ha⟩
   ·have z':=(if_neg hb).symm.trans z;cases z'
  ·by_cases hb:b=a
   ·exact hb
   ·exact absurd (if_neg hb) z
end L2
namespace L2
open PySem PySem.Spec PyProof.Rows
abbrev KOf{K:X0}{h:Z3}(_:K.In h):X0:=K
theorem J6k{l:W.OpenLaw}{n k:Nat}{q:Program}{j:List M2}{Z:(M2->Option V1)->Z3->Prop}{R:Y3->Z3->Prop}{d:DefRec}{K:Params->X0}{CX:Y3->CXT}{sp:Y3->Sp}{x:M2}(hn:l.most=some n)(J:n<=sizeLine)(L:d.params.defaults=[])(hr:Room k callerA)(hY:∀(w:Y3)(h:Z3),R w h->(K w.params).In h)(F:∀(w:Y3)(mg:M2->Option V1)(D:V0)(h:Z3),(K w.params).In h->h.Ns mainGlobals mg->mg d.name=some (.ref D)->∃fd:FuncData,(∀(s:M1)(u:V1),BindsTo s fd ⟨[u],[]⟩ [(x,u)])/\∀base:Z3,(K w.params).In base->base.Ns mainGlobals mg->FnOk l.prog w (K w.params) mg base (CX w) k D fd [x] (sp w))(M:∀(w:Y3)(H:Hp)(a:V0)(I:List Int),I.length<=n->Only H->SqL (K w.params) H a (I.map V.int)->sp w [.ref a] H (λ v _=>v=.bl true) λ _ _ _=>False)(N:∀(w:Y3)(H:Hp)(s:M1)(e:V1)(s':M1),CX w [] H s (λ _ _ _=>False) e s'->False):W.WalkO q j Z R l.row.toRowW d [] (λ f vs=>PySem.call f vs):=by
 refine Att.attach_call hn L λ w S z mg mb D o pm cd a0 a vs I G Y ho hd b0 O B y i hg=>?_;have U:=hY w _ Y;obtain⟨fd,hb,hF⟩:=F w mg D _ U G.T.g O;exact J3s U G.T.g G.T.b G.T.builtins G.T.nolimit hg B y (qa9 i J) hr hF hb (λ H hO hS=>M w H a I i hO hS) λ H e s'=>N w H z e s'
theorem J3x{l:W.OpenLaw}{n k:Nat}{q:Program}{i:List M2}{J:(M2->Option V1)->Z3->Prop}{G:Y3->Z3->Prop}{d:DefRec}{K:Params->X0}{CX:CXT}{sp:X0->Sp}{x:M2}(L:l.most=some n)(y:n<=sizeLine)(z:d.params.defaults=[])(hr:Room k callerA)(M:∀(w:Y3)(h:Z3),G w h->(K w.params).In h)(F:∀(w:Y3)(mg:M2->Option V1)(I:V0)(h:Z3),(K w.params).In h->h.Ns mainGlobals mg->mg d.name=some (.ref I)->∃fd:FuncData,(∀(s:M1)(u:V1),BindsTo s fd ⟨[u],[]⟩ [(x,u)])/\∀base:Z3,(K w.params).In base->base.Ns mainGlobals mg->FnOk l.prog w (K w.params) mg base CX k I fd [x] (sp (K w.params)))(B:∀(K:X0)(H:Hp)(a:V0)(j:List Int),j.length<=n->Only H->SqL K H a (j.map V.int)->sp K [.ref a] H (λ v _=>v=.bl true) λ _ _ _=>False)(D:∀(H:Hp)(s:M1)(e:V1)(s':M1),CX [] H s (λ _ _ _=>False) e s'->False):W.WalkO q i J G l.row.toRowW d [] (λ f vs=>PySem.call f vs):=
 J6k (K:=K) (CX:=λ _=>CX) (sp:=λ w=>sp (K w.params)) L y z hr M F (λ w H a j h1 h2 N=>B (K w.params) H a j h1 h2 N) λ _ H s e s'=>D H s e s'
end L2
namespace L2
open PySem PySem.Spec PyProof.Rows
abbrev CX0:CXT:=λ _ _ _ _ _ _=>False
abbrev E0:XK:=λ _ _ _=>False
theorem J3b{X:Cx}:Z5h CX0 X E0:=λ _ _ _ _ _ _ _ h=>h.elim
structure Fun(K:X0)(x qual:M2)(st:Stmt)(f:V0)(fd:FuncData):Prop where
 ex:∃(oc:V1)(od:Option V0)(kV doc pm:V1)(an:Option V0)(cdv ct:V1)(osl:Array (Option V1)),
  fd=W.fnOf x qual (Z2i st) (Z1I st) (Z0g st) .none kV doc pm an cdv ct/\K.lookup f=some ⟨oc,od,.func fd,osl⟩/\W.codeIn K cdv qual=true
 kp:W.keepIn K (.ref f)=true
section
variable{P:Program}{w:Y3}{K:X0}{mg:M2->Option V1}{base:Z3}
theorem Fun.ok{x qual:M2}{st:Stmt}{f:V0}{fd:FuncData}{N ps:List M2}{k:Nat}{sp:Sp}(F:Fun K x qual st f fd)(S:Z0p N ps (Z0g st))(len:∀vs H Q E,sp vs H Q E->vs.length=ps.length)(i:∀(cdv:V1)(A:M3)(outer:List Env)(s:M1)(H:Hp)(vs:List V)(Q:VK)(E:XK),Room k (A.deeper (envOfC qual (Z0g st) s.heap.objs.size f cdv))->sp vs H Q E->∃t,PSs (cxOf CX0 P w K mg base N qual (Z0g st) f cdv A outer s H E).nox (Z1I st) t/\t {nx:=λ _ H'=>Q .non H',rt:=Q} (Z5L N vs) H):FnOk P w K mg base CX0 (k+1) f fd ps sp:=by
 obtain⟨D,G,kV,y,I,J,cdv,L,z,rfl,B,j⟩:=F.ex;refine J9t B j S len λ A outer s H vs Q E hr n=>?_;obtain⟨t,h,q⟩:=i cdv A outer s H vs Q E hr n;exact⟨t,h.nox,q⟩
theorem Fun.binds{x qual:M2}{st:Stmt}{f:V0}{fd:FuncData}{ps:List M2}(F:Fun K x qual st f fd)(h:∀(kV i j:V1)(n:Option V0)(cdv ct:V1)(us:List V1),us.length=ps.length->bindArgs (W.fnOf x qual (Z2i st) (Z1I st) (Z0g st) .none kV i j n cdv ct) ⟨us,[]⟩=pure (ps.zip us)):Binds K fd ps []:=by
 obtain⟨z,B,kV,i,j,n,cdv,ct,q,rfl,D,y⟩:=F.ex;exact .all (h kV i j n cdv ct)
theorem J4G{x qual:M2}{st:Stmt}{f:V0}{y:V1}{od n:Option V0}{j:Array (Option V1)}{kV i q cdv ct:V1}(l:K.lookup f=some ⟨y,od,.func (W.fnOf x qual (Z2i st) (Z1I st) (Z0g st) .none kV i q n cdv ct),j⟩)(c:W.codeIn K cdv qual=true)(k:W.keepIn K (.ref f)=true):Fun K x qual st f (W.fnOf x qual (Z2i st) (Z1I st) (Z0g st) .none kV i q n cdv ct):=⟨⟨y,od,kV,i,q,n,cdv,ct,j,rfl,l,c⟩,k⟩
end
theorem Z2F{A:M3}{k:Nat}(hr:Room k A):A.units+1<cLine:=qh2 (Nat.add_le_add_left (by decide:1<=64) _) hr.units
theorem iteT{A B:Prop}(h:A):if true=true then A else B:=by
 rw[if_pos rfl];exact h
theorem ite2{c A B:Prop}[Decidable c](h1:c->A)(h2:¬c->B):if c then A else B:=by
 by_cases h:c
 ·rw[if_pos h];exact h1 h
 ·rw[if_neg h];exact h2 h
def Same(H H':Hp):Prop:=∀b o,H b=some o->H' b=some o
theorem Same.refl(H:Hp):Same H H:=λ _ _ h=>h
theorem Same.trans{H H1 H2:Hp}(a:Same H H1)(b:Same H1 H2):Same H H2:=λ c o h=>b c o (a c o h)
theorem Same.free{H H':Hp}(e:Same H H'){l:V0}(h:H' l=Option.none):H l=Option.none:=by
 cases q:H l with
 |none=>rfl
 |some o=>
  rw[e l o q]at h;cases h
theorem Same.seq{K:X0}{H H':Hp}{a:V0}{xs:List V}(e:Same H H')(h:SqL K H a xs):SqL K H' a xs:=by
 rcases h with(h|⟨o,h⟩)|h
 ·exact .inl (.inl (e _ _ h))
 ·exact .inl (.inr ⟨o,e _ _ h⟩)
 ·exact .inr h
end L2
end
section
namespace L2
open PySem PySem.Spec PyProof.Rows PySem.SeqAt
mutual
inductive RdD(K:X0)(H:Hp):V->PyData->Prop
 |non:RdD K H .non .none
 |bl(b:Bool):RdD K H (.bl b) (.bool b)
 |int(i:Int):RdD K H (.int i) (.int i)
 |str(x:M2):RdD K H (.str x) (.str x)
 |lst{a:V0}{xs:List V}{ds:List PyData}:SqL K H a xs->RdDs K H xs ds->RdD K H (.ref a) (.list ds)
 |tup{a:V0}{xs:List V}{ds:List PyData}:SqT K H a xs->RdDs K H xs ds->RdD K H (.ref a) (.tuple ds)
inductive RdDs(K:X0)(H:Hp):List V->List PyData->Prop
 |nil:RdDs K H [] []
 |cons{x:V}{xs:List V}{d:PyData}{ds:List PyData}:RdD K H x d->RdDs K H xs ds->RdDs K H (x::xs) (d::ds)
end
section
variable{X:Cx}{pins:List (V0×Obj)}{σ:St}{H:Hp}{s:M1}
mutual
theorem RdD.reads(I:Inv X pins σ H s):∀{x:V}{d:PyData}{v:V1},RdD X.K H x d->RelV x v->∃c,Reads s.heap v d c
 |_,_,_,.non,r=>by cases(show _=Value.none from r);exact⟨_,.none⟩
 |_,_,_,.bl b,r=>by cases(show _=Value.bool b from r);exact⟨_,.bool b⟩
 |_,_,_,.int i,r=>by obtain⟨t,e⟩:=(show ∃t,_=Value.int i t from r);subst e;exact⟨_,.int i t⟩
 |_,_,_,.str x,r=>by obtain⟨t,e⟩:=(show ∃t,_=Value.str x t from r);subst e;exact⟨_,.str x t⟩
 |_,_,_,.lst (a:=a) g hs,r=>by
  cases(show _=Value.ref a from r);obtain⟨h,j,pl,_⟩:=I.list g;obtain⟨c,m⟩:=RdDs.reads I hs j;obtain⟨o,p,q,n,hd⟩:=pl.isList;exact⟨_,.list p q hd (by simpa using m)⟩
 |_,_,_,.tup (a:=a) g hs,r=>by
  cases(show _=Value.ref a from r);obtain⟨h,j,pl,_⟩:=I.tuple g;obtain⟨c,m⟩:=RdDs.reads I hs j;obtain⟨o,p,q,n,hd⟩:=pl;exact⟨_,.tuple p q hd (by simpa using m)⟩
theorem RdDs.reads(I:Inv X pins σ H s):∀{xs:List V}{a:List PyData}{vs:List V1},RdDs X.K H xs a->Vals xs vs->∃b,ReadsAll s.heap vs a b
 |_,_,_,.nil,.nil=>⟨_,.nil⟩
 |_,_,_,.cons hd c,.cons r e=>by
  obtain⟨b,g⟩:=RdD.reads I hd r;obtain⟨bs,h⟩:=RdDs.reads I c e;exact⟨_,.cons g h⟩
end
def rEqD(K:X0):R2:=λ x y H Q=>∃d e,RdD K H x d/\RdD K H y e/\shaped d=true/\shaped e=true/\Q (.bl (PyData.eqv d e)) H
def rNeD(K:X0):R2:=λ x y H Q=>∃d e,RdD K H x d/\RdD K H y e/\shaped d=true/\shaped e=true/\Q (.bl (!PyData.eqv d e)) H
theorem J1K(a:X.A.units+64<cLine):OpR X (compareOp .Eq) (rEqD X.K):=by
 intro pins s σ H x y v u Q I b c h;obtain⟨d,e,hd,g,i,j,q⟩:=h;obtain⟨o,m⟩:=RdD.reads I hd b;obtain⟨bs,n⟩:=RdD.reads I g c;exact eq_dataH m n i j a ⟨.bl _,H,I,rfl,q⟩
theorem J7w(a:X.A.units+64<cLine):OpR X (compareOp .NotEq) (rNeD X.K):=by
 intro pins s σ H x y v u Q I b c h;obtain⟨d,e,hd,g,i,j,q⟩:=h;obtain⟨o,m⟩:=RdD.reads I hd b;obtain⟨bs,n⟩:=RdD.reads I g c;exact ne_dataH m n i j a ⟨.bl _,H,I,rfl,q⟩
end
def Z5T(K:X0):List V->Hp->VK->Prop:=λ b H Q=>∃a d,b=[.ref a]/\RdD K H (.ref a) d/\d.showable=true/\d.hasDict=false/\d.depth<=60/\d.shown.length<=sizeLine/\Q (.str d.shown) H
theorem Z3z{X:Cx}(c:X.A.guards=some [])(m:X.A.units+64<cLine):Z3V X (.builtin "repr") (Z5T X.K):=by
 intro b s n H o us Q I g h;obtain⟨a,d,rfl,hr,hs,hd,p,hl,q⟩:=h;obtain⟨u,rfl,i⟩:=g.one;obtain rfl:u=Value.ref a:=i;obtain⟨r,j⟩:=RdD.reads I hr rfl;exact repr_of_reads' j hs (λ z=>by rw[hd]at z;cases z) c qR (λ _ _ e=>e) (λ v u w k=>⟨.str d.shown,H,I.kept k,⟨_,rfl⟩,q⟩) hl
theorem J3H{K:X0}{H H':Hp}{a:V0}{xs:List V}(h:SqT K H a xs)(e:Same H H'):SqT K H' a xs:=by
 rcases h with(h|⟨o,h⟩)|h
 ·exact .inl (.inl (e _ _ h))
 ·exact .inl (.inr ⟨o,e _ _ h⟩)
 ·exact .inr h
mutual
theorem RdD.same{K:X0}{H H':Hp}(e:Same H H'):∀{v:V}{d:PyData},RdD K H v d->RdD K H' v d
 |_,_,.non=>.non
 |_,_,.bl b=>.bl b
 |_,_,.int i=>.int i
 |_,_,.str x=>.str x
 |_,_,.lst a hs=>.lst (e.seq a) (RdDs.same e hs)
 |_,_,.tup a hs=>.tup (J3H a e) (RdDs.same e hs)
theorem RdDs.same{K:X0}{H H':Hp}(e:Same H H'):∀{v:List V}{d:List PyData},RdDs K H v d->RdDs K H' v d
 |_,_,.nil=>.nil
 |_,_,.cons h hs=>.cons (RdD.same e h) (RdDs.same e hs)
end
end L2
end
section
namespace L2
open PySem PySem.Spec PyProof.Rows
def Cx.block(X:Cx)(N:List M2)(scope:Scope)(cl:List (M2×V0))(C:V0)(fp:List V0)(s:M1)(H:Hp):Cx:=
 {X with N:=N,s₀:=s,H₀:=H,env:=compEnvC scope cl C X.env,outer:=X.stack,stack:=X.stack,ex:=fp,fn:=λ _=>false,pn:=[],xe:=λ _ _=>False}
structure BlockOk(X:Cx)(N:List M2)(nl:List (Option Nat))(scope:Scope)(cl:List (M2×V0)):Prop where
 kind:scope.kind=.function
 nocell:∀y∈scope.names,y.2≠.cell
 names:∀y∈scope.names,y.2=.local->scope.names.lookup y.1=some .local
 clos:closureFor scope X.env=pure cl
 sub:∀y c,cl.lookup y=some c->X.env.cells.lookup y=some c
 has:∀y,scope.names.lookup y=some .free->∃c,cl.lookup y=some c
 len:nl.length=N.length
 seen:∀(i j:Nat)(y:M2),N[i]?=some y->nl[i]?=some (some j)->X.N[j]?=some y/\scope.names.lookup y=some .free/\(X.env.scope.names.lookup y=some .cell\/X.env.scope.names.lookup y=some .free)
def stOf(nl:List (Option Nat))(σ:St):St:=nl.map λ o=>match o with
 |none=>none
 |some j=>(σ[j]?).join
theorem Z1E{x:M2}{k:NameKind}:∀{l:List (M2×NameKind)},l.lookup x=some k->(x,k)∈l
 |[],h=>by simp at h
 |(n,q)::r,h=>by
  rw[qd7]at h;cases e:x==n with
  |true=>
   rw[e]at h;have:q=k:=by simpa using h
   have a:x=n:=by simpa using e
   rw[this,a];exact qc2
  |false=>
   rw[e]at h;exact qc4 _ (Z1E h)
theorem Z2Z{env:Env}{x:M2}{k:NameKind}:∀{l:List (M2×NameKind)},(l.map λ(n,k)=>if(k==NameKind.free&&env.scope.kind==.function&&env.kindOf n==some .cell)then(n,NameKind.cell)else(n,k)).lookup x=some k->(l.lookup x=some k\/(k=.cell/\l.lookup x=some .free))
 |[],h=>by simp at h
 |(n,q)::r,h=>by
  rw[qb7]at h;cases e:x==n with
  |true=>
   by_cases a:(q==NameKind.free&&env.scope.kind==.function&&env.kindOf n==some .cell)=true
   ·simp only[a,if_true,qd7,e]at h;have b:q=.free:=by
     rw[qh0,qh0]at a;simpa using a.1.1
    refine .inr ⟨(by simpa using h.symm),?_⟩;rw[qd7,e,b]
   ·change qf0 x ((if(q==NameKind.free&&env.scope.kind==.function&&env.kindOf n==some .cell)=true then(n,NameKind.cell)else(n,q))::_)=some k at h;rw[if_neg a,qd7,e]at h;refine .inl ?_;rw[qd7,e];exact h
  |false=>
   have c:(r.map λ(n,k)=>if(k==NameKind.free&&env.scope.kind==.function&&env.kindOf n==some .cell)then(n,NameKind.cell)else(n,k)).lookup x=some k:=by
    by_cases a:(q==NameKind.free&&env.scope.kind==.function&&env.kindOf n==some .cell)=true
    ·simpa only[a,if_true,qd7,e]using h
    ·simpa only[a,qd7,e,if_false,Bool.false_eq_true]using h
   have i:=Z2Z (env:=env) c;rw[qd7,e];exact i
theorem Z4F{env:Env}{x:M2}:∀{l:List (M2×NameKind)},l.lookup x=some .free->(l.map λ(n,k)=>if(k==NameKind.free&&env.scope.kind==.function&&env.kindOf n==some .cell)then(n,NameKind.cell)else(n,k)).lookup x=some .cell\/(l.map λ(n,k)=>if(k==NameKind.free&&env.scope.kind==.function&&env.kindOf n==some .cell)then(n,NameKind.cell)else(n,k)).lookup x=some .free
 |[],h=>by simp at h
 |(n,q)::r,h=>by
  rw[qb7];cases e:x==n with
  |true=>
   rw[qd7,e]at h;have c:q=.free:=by simpa using h
   by_cases a:(q==NameKind.free&&env.scope.kind==.function&&env.kindOf n==some .cell)=true
   ·left;simp only[a,if_true,qd7,e]
   ·right;change qf0 x ((if(q==NameKind.free&&env.scope.kind==.function&&env.kindOf n==some .cell)=true then(n,NameKind.cell)else(n,q))::_)=some .free;rw[if_neg a,qd7,e,c]
  |false=>
   rw[qd7,e]at h;have b:=Z4F (env:=env) (l:=r) h;by_cases a:(q==NameKind.free&&env.scope.kind==.function&&env.kindOf n==some .cell)=true
   ·simpa only[a,if_true,qd7,e]using b
   ·simpa only[a,qd7,e,if_false,Bool.false_eq_true]using b
section
variable{X:Cx}{pins:List (V0×Obj)}{σ:St}{H:Hp}{s:M1}{N:List M2}{nl:List (Option Nat)}{scope:Scope}{cl:List (M2×V0)}{fp:List V0}
theorem J1F(I:Inv X pins σ H s)(B:BlockOk X N nl scope cl)(i:∀b∈fp,FpOk X pins H b)(j:∀b∈fp,b<s.heap.objs.size){C:V0}(r:s.heap.objs.size<=C):(X.block N scope cl C fp s H).Ok:=by
 have m:∀b∈frs X.stack,b=X.env.locals\/b∈X.fs:=λ b a=>qa4.mp (I.stkSub b a);refine⟨I.ok.mod,B.kind,I.ok.glob,I.ok.blt,r,λ x y c u v=>I.ok.inj x y c (B.sub x c u) (B.sub y c v),λ x w=>?_,λ x c h=>(nomatch h),I.ok.hd,I.ok.frames,.inl rfl,λ b a=>⟨?_,λ x c e=>?_⟩,I.bs,qa9 I.ok.bsz I.sz,λ b o e a=>?_,λ b a A=>?_,I.stack,I.stkFree⟩
 ·have p:(scope.names.map λ(n,k)=>if(k==NameKind.free&&X.env.scope.kind==.function&&X.env.kindOf n==some .cell)then(n,NameKind.cell)else(n,k)).lookup x=some .cell\/
    (scope.names.map λ(n,k)=>if(k==NameKind.free&&X.env.scope.kind==.function&&X.env.kindOf n==some .cell)then(n,NameKind.cell)else(n,k)).lookup x=some .free:=w
  rcases p with q|q
  ·rcases Z2Z q with z|⟨_,z⟩
   ·exact absurd rfl (B.nocell _ (Z1E z))
   ·exact B.has x z
  ·rcases Z2Z q with z|⟨z,_⟩
   ·exact B.has x z
   ·cases z
 ·exact qb3 (qc9 (j b a) r)
 ·exact(i b a).2.2.2.2.1 x c (B.sub x c e)
 ·rcases(i b a).2.2.2.1 with z|z
  ·exact I.ok.noex b o e z
  ·exact absurd (qc9 (Heap.lt_size (I.ok.bs b o e).1) z) (qd8 _)
 ·rcases m b A with z|z
  ·exact(i b a).2.1 z
  ·exact(i b a).2.2.1 z
theorem J3i{i:Nat}{v:V}(h:(stOf nl σ)[i]?=some (some v)):∃j,nl[i]?=some (some j)/\σ[j]?=some (some v):=by
 unfold stOf at h;rw[qa8]at h;cases e:nl[i]? with
 |none=>rw[e]at h;cases h
 |some o=>
  rw[e]at h;cases o with
  |none=>cases h
  |some j=>
   refine⟨j,rfl,?_⟩;have a:(σ[j]?).join=some v:=by simpa using h
   cases q:σ[j]? with
   |none=>rw[q]at a;cases a
   |some b=>
    rw[q]at a;have:b=some v:=by simpa using a
    rw[this]
theorem Z8n(I:Inv X pins σ H s)(B:BlockOk X N nl scope cl)(S:∀b∈fp,FpOk X pins H b)(G:∀b∈fp,b<s.heap.objs.size){C D:V0}(h:D=s.heap.objs.size)(J:C=s.heap.objs.size+1){A:Z3}{tk:Nat}{m:M2->Option V1}{n:Nat}(E:∀b o,s.heap.get? b=some o->A.get? b=some o)(hl:A.get? D=some {cls:=.type "list",data:=.seq ([]:List V1).toArray n})(T:A.Ns C m):Inv (X.block N scope cl C fp s H) [] (stOf nl σ) (upd H D (.lst [])) {s with heap:=A,toks:=tk}:=by
 have K:H D=none:=I.hok.fresh (by rw[h];exact qa0 _);have L:C≠D:=by rw[J,h];exact qi8 _
 have M:H C=none:=I.hok.fresh (by rw[J];exact qd6 _);have a:∀y c,cl.lookup y=some c->c≠D:=λ y c e z=>by
  obtain⟨v,q⟩:=I.cell y c (B.sub y c e);exact absurd q.lt (by rw[z,h];exact qd8 _)
 refine⟨J1F I B S G (by rw[J];exact qd6 _),rfl,I.bare,Un.laid E (by rw[h];exact qa0 _) K,⟨m,T,λ i y v U Y _=>?_⟩,λ y c e=>?_,?_,λ y c e=>?_,λ p Z=>absurd Z (by simp[Cx.block]),?_,?_⟩
 ·obtain⟨j,hj,hv⟩:=J3i Y;obtain⟨x1,Q,R⟩:=B.seen i j y U hj;obtain⟨m0,a0,O⟩:=I.loc;obtain⟨u,r,l⟩:=O j y v x1 hv (.inr R);refine⟨u,r,?_⟩;rcases l with⟨P,_⟩|⟨_,c,hc,z⟩
  ·have w:X.env.scope.names.lookup y=some .local:=P;rcases R with q|q<;>(rw[w]at q;cases q)
  ·refine .inr ⟨Z4F Q,c,?_,z.keeps E⟩;obtain⟨c',x⟩:=B.has y Q;have q:=B.sub y c' x;rw[hc]at q;cases q;exact x
 ·obtain⟨v,q⟩:=I.cell y c (B.sub y c e);exact⟨v,q.keeps E⟩
 ·show(upd H D (.lst [])) C=none;rw[Z0k L];exact M
 ·rw[Z0k (a y c e)];exact I.freeC y c (B.sub y c e)
 ·exact I.hok.laid E (by rw[h];exact qa0 _) ⟨qb0 _,[],n,.nil,hl⟩
 ·show(stOf nl σ).length=N.length;unfold stOf;rw[qa1,B.len]
theorem Z7z{C:V0}{r:St}{H':Hp}{m:M1}{h2:Z3}(I:Inv X pins σ H s)(y:∀b∈fp,FpOk X pins H b)(A:s.heap.objs.size<=C)(J:Inv (X.block N scope cl C fp s H) [] r H' m)(p:∀b o,b≠C->m.heap.get? b=some o->h2.get? b=some o):Inv X pins σ H' {m with heap:=h2}:=by
 obtain⟨Q,g,d,t,B⟩:=m;have D:B=s.os:=J.os;subst D;have a:H' C=none:=J.free;have u:=J.base;have w:∀b o,s.heap.get? b=some o->b≠C:=λ b o e=>qb3 (qc9 (Heap.lt_size e) A);have E:Un (frs X.stack) fp H H' s.heap h2:=
  ⟨λ b o e n h i=>p b o (w b o e) (u.keep b o e n h i),λ b o e n h i=>(let⟨G,q⟩:=u.slot b o e n h i;⟨G,p b _ (w b o e) q⟩),u.free,λ b o e i=>(let⟨x,q⟩:=u.there b o e i;⟨x,p b x (w b o e) q⟩),u.tups,u.frzs,u.tbls⟩
 have j:HOk X.prog X.w H' h2:=λ b o e=>(J.hok b o e).stay (λ c v K q=>p c v (λ z=>by
  subst z;rcases K with z|z
  ·rw[<-z,a]at e;cases e
  ·rw[a]at z;cases z) q) (λ _ q=>q) λ _ _ q=>q
 have z:=I.call (h':=h2) (g':=g) (d':=d) (t':=t) (ch:=fp) E j J.bare λ b h=>(let⟨_,L,_,M,O,P⟩:=y b h;⟨M,L,O,P⟩);exact z
end
def PQ(X:Cx)(tst:Env->Sem Bool)(t:TT):Prop:=
 ∀(pins:List (V0×Obj))(s:M1)(σ:St)(H:Hp)(Q:Bool->Hp->Prop),Inv X pins σ H s->t σ H Q->wpAny (model X.prog X.w) X.A (tst X.env) (TP X pins σ Q) X.xe s
def Z2Y:TT:=λ _ H Q=>Q true H
variable{X:Cx}
theorem J1w:PQ X (λ _=>pure true) Z2Y:=λ _ _ _ H _ I h=>wpAny_pure ⟨H,I,h⟩
variable{c:Expr}
theorem J4Z{t:TT}(h:PT X c t):PQ X (λ env=>isTrue c env (eval c env)) t:=h
def Z3g(J:It)(g:TG)(tc:TT)(te:TE)(D:V0)(Q:VK)(σ0:St)(H0:Hp):Prop:=∃W:Nat->Nat->St->Hp->Prop,(∃m,W 0 m σ0 H0)/\∀i m c e,W i m c e->
 (J.stop i e/\Q (.ref D) e)\/(J.go i e/\∃N:St->Hp->Prop,(∀h j,N h j->∃o,o<m/\W (i+1) o h j)/\∀x j,J.yld i e x j->g x c j λ a H3=>tc a H3 λ b p=>if b=true then te a p λ v q=>∃n,q D=some (.lst n)/\n.length<sizeLine/\N a (upd q D (.lst (n++[v])))else N a p)
def J0F(wi:TI)(nl:List (Option Nat))(g:TG)(tc:TT)(te:TE):TE:=λ σ H Q=>wi σ H λ J a=>∀D,a D=none->Z3g J g tc te D Q (stOf nl σ) (upd a D (.lst []))
theorem Z4j{N:List M2}{nl:List (Option Nat)}{scope:Scope}{cl:List (M2×V0)}{elt tg iter:Expr}{ifs:List Expr}{pos:Pos}{wi:TI}{g:TG}{tst:Env->Sem Bool}{tc:TT}{te:TE}(hcalm:X.calm=true)(B:BlockOk X N nl scope cl)(hi:PI X tg iter wi)(hg:∀C fp s H,PG (X.block N scope cl C fp s H) tg g)(ht:∀C fp s H,PQ (X.block N scope cl C fp s H) tst tc)(he:∀C fp s H,PE (X.block N scope cl C fp s H) elt te)(hturn:∀(it acc:V1)(env:Env),compTurn (.ListComp elt [⟨tg,iter,ifs,0⟩] scope pos) 0 it acc env=(do
   standAt iter.pos
   match<-pyNext it with
   |none=>pure (.done .next)
   |some v=>
    letOwnedTupleGo tg it v
    assign tg env v
    let ok<-tst env
    if ok then(do
     (do let x<-eval elt env;let _<-call (.builtin "list.append") [acc,x];pure ())
     again (.compLoop (.ListComp elt [⟨tg,iter,ifs,0⟩] scope pos) 0 it acc env))
    else again (.compLoop (.ListComp elt [⟨tg,iter,ifs,0⟩] scope pos) 0 it acc env))) (hs:∀x,foldedSetIterable iter X.env x=pure x) {pins:List (V0×Obj)} {s:M1} {σ:St} {H:Hp} {Q:VK} (I:Inv X pins σ H s) (h:J0F wi nl g tc te σ H Q) {use:Option (V1->Sem Unit)} {Q':V1->M1->Prop} (hpost:∀(D C:V0) (s' s2:M1) (fp:List V0) (σ':St) (H' H2:Hp),Inv X pins σ H2 s2->(∀b∈fp,FpOk X pins H2 b)->s2.heap.objs.size<=C->Inv (X.block N scope cl C fp s2 H2) [] σ' H' s'->Q (.ref D) H'->compPost (model X.prog X.w) X.A X.xe use Q' (.ref D) C (.ok .next) s') (hpos:Pos):wpAny (model X.prog X.w) X.A (comprehension (.ListComp elt [⟨tg,iter,ifs,0⟩] scope pos) scope X.env hpos (newList []) false (eval iter X.env) use) Q' X.xe s:=by
 refine wpAny_comprehension_free (use:=use) rfl hs B.clos B.kind B.names ?_;refine thn (hi pins s σ H _ I h) λ v s1 h1=>thn h1 λ itv s2 h2=>?_;obtain⟨it,fp,tn,J,H2,e,I2,T,st2,f2,q⟩:=h2;subst e;have hob:∀b∈fp,b<s2.heap.objs.size:=λ b hb=>(let⟨o,e,_⟩:=T.obj 0 _ st2 b hb;Heap.lt_size e);refine wpAny_newObj_type (wpAny_newFunctionEnv B.nocell (by intro y hy;simp at hy) (λ h1 hns hsb=>?_) B.kind);dsimp only at hns hsb ⊢;generalize hD:s2.heap.objs.size=D at hns hsb ⊢;have hC:(s2.heap.push {cls:=.type "list",dict:=none,data:=.seq ([]:List V1).toArray}).objs.size=s2.heap.objs.size+1:=by rw[Heap.size_push]
 generalize hC':(s2.heap.push {cls:=.type "list",dict:=none,data:=.seq ([]:List V1).toArray}).objs.size=C at hns hsb hC ⊢;have hDC:D≠C:=by rw[hC,<-hD];exact(qi8 _).symm
 have lt_ne:∀b,b<s2.heap.objs.size->b≠C:=λ b hb=>by rw[hC];exact qb3 (qi9 hb)
 have old:∀b o,s2.heap.get? b=some o->h1.get? b=some o:=λ b o e=>
  hsb.extBut b o (lt_ne b (Heap.lt_size e)) (Heap.get?_push_of_some _ (Heap.get?_push_of_some _ e))
 have hl:h1.get? D=some {cls:=.type "list",data:=.seq ([]:List V1).toArray 0}:=by
  refine hsb.extBut D _ hDC (Heap.get?_push_of_some _ ?_);rw[<-hD];exact Heap.get?_push_size _ rfl
 have fresh:H2 D=none:=I2.hok.fresh (by rw[hD];exact qa0 _);obtain⟨W,⟨m0,w0⟩,turn⟩:=q D fresh;have hCle:s2.heap.objs.size<=C:=by rw[hC];exact qd6 _
 have stat:∀{H':Hp},(∀b∈fp,H' b=none)->∀b∈fp,FpOk (X.block N scope cl C fp s2 H2) [] H' b:=λ hn b hb=>by
  obtain⟨_,f1,f2',f3,f4,f5⟩:=f2 b hb;refine⟨hn b hb,lt_ne b (hob b hb),λ z=>?_,.inl hb,λ x c e=>f4 x c (B.sub x c e),λ p hp=>absurd hp (by simp[Cx.block])⟩;rcases qa4.mp (I2.stkSub b z)with z|z
  ·exact f1 z
  ·exact f2' z
 have main:∀s4:M1,(∃tk,s4={s2 with heap:=h1,toks:=tk})->
   codeAny (model X.prog X.w) X.A (.compLoop (.ListComp elt [⟨tg,iter,ifs,0⟩] scope pos) 0 (.ref it) (.ref D) (X.block N scope cl C fp s2 H2).env) (compPost (model X.prog X.w) X.A X.xe use Q' (.ref D) C) s4:=by
  rintro s4 ⟨tk,rfl⟩;have I3:Inv (X.block N scope cl C fp s2 H2) [] (stOf nl σ) (upd H2 D (.lst [])) { s2 with heap:=h1,toks:=tk }:=Z8n I2 B f2 hob hD.symm hC old hl hns;refine codeAny_loop rfl (λ n s'=>∃ i σ' H',Inv (X.block N scope cl C fp s2 H2) [] σ' H' s'/\tn i s'.heap/\(∀ b∈fp,H' b=none)/\W i n σ' H') (λ n s5 hI=>?_) m0
   ⟨0,stOf nl σ,_,I3,T.keep 0 _ _ st2 λ b hb o e=>old b o e,λ b hb=>by rw[Z0k (λ z=>absurd (hob b hb) (by rw[z,<-hD];exact qd8 _))];exact(f2 b hb).1,w0⟩
  show wpAny _ X.A ((compTurn (.ListComp elt [⟨tg,iter,ifs,0⟩] scope pos) 0 (.ref it) (.ref D) (X.block N scope cl C fp s2 H2).env).onRaise (λ x=>do noteFrame x (X.block N scope cl C fp s2 H2).env;theTreesLotGoes x)) _ _ s5;refine wpAny_noted ?_;rw[hturn];obtain⟨i,σ5,H5,I5,st5,fr5,w5⟩:=hI;have quiet:∀{α:Type}{t:Sem α}{R:α->M1->Prop}{E':V1->M1->Prop}{s':M1},wpAny (model X.prog X.w) X.A t R (λ _ _=>False) s'->wpAny (model X.prog X.w) X.A t R E' s':=λ hw=>wpAny_mono hw (λ _ _ z=>z) λ _ _ z=>z.elim;refine wpAny_bind (wpAny_standAt ?_);rcases turn i n σ5 H5 w5 with⟨stop,qn⟩|⟨go,Nx,hN,step⟩
  ·refine wpAny_bind (quiet (thn (T.done (X.block N scope cl C fp s2 H2) rfl rfl rfl hcalm i [] s5 σ5 H5 (λ _ _=>False) I5 (stat fr5) st5 stop) λ r s6 ⟨hr,I6⟩=>?_));subst hr;exact quiet (wpAny_pure (hpost D C s6 s2 fp σ5 H5 H2 I2 f2 hCle I6 qn))
  ·refine wpAny_bind (quiet (thn (T.item (X.block N scope cl C fp s2 H2) rfl rfl rfl hcalm i [] s5 σ5 H5 (λ _ _=>False) I5 (stat fr5) st5 go) λ r s6 ⟨u,hr,h6⟩=>?_));subst hr;refine wpAny_bind (quiet (thn h6 λ _ s7 ⟨x,H7,I7,r7,y7,st7,fr7⟩=>?_));have I7':=I7.pinned (stat fr7) (T.obj _ _ st7);have again':∀{σ8:St}{H8:Hp}{s8:M1},Inv (X.block N scope cl C fp s2 H2) ([]++Z8e fp s7.heap) σ8 H8 s8->Nx σ8 H8->∃m,m<n/\∃i σ' H',Inv (X.block N scope cl C fp s2 H2) [] σ' H' s8/\tn i s8.heap/\(∀b∈fp,H' b=none)/\W i m σ' H':=λ{σ8 H8 s8} I8 n8=>by
    obtain⟨m',hm,w8⟩:=hN σ8 H8 n8;refine⟨m',hm,i+1,σ8,H8,I8.unpinned,T.keep _ _ _ st7 λ b hb o e=>(I8.pin (b,o) (qe6 _ (qe6 _ (Z3u hb e)))).1,λ b hb=>?_,w8⟩;obtain⟨o,e,_⟩:=T.obj _ _ st7 b hb;exact(I8.pin (b,o) (qe6 _ (qe6 _ (Z3u hb e)))).2.1
   refine wpAny_bind (quiet (thn (hg C fp s2 H2 _ s7 σ5 H7 x u _ I7' r7 (step x H7 y7)) λ _ s8 ⟨σ8,H8,I8,q8⟩=>?_));refine wpAny_bind (quiet (thn (ht C fp s2 H2 _ s8 σ8 H8 _ I8 q8) λ b s9 ⟨H9,I9,q9⟩=>?_));cases b with
   |false=>exact quiet (wpAny_pure ⟨rfl,again' I9 q9⟩)
   |true=>
    refine wpAny_bind (wpAny_bind (quiet (thn (he C fp s2 H2 _ s9 σ8 H9 _ I9 q9) λ vy s10 hz_=>?_)));obtain⟨y,H10,I10,r10,xs,e10,z10,n10⟩:=hz_;refine wpAny_bind (quiet (thn (Z0F _ s10 σ8 H10 (.ref D) [y] (.ref D) [vy] (λ _ H'=>Nx σ8 H') I10 rfl (.cons r10 .nil) ⟨D,xs,y,rfl,rfl,e10,z10,n10⟩) λ _ s11 ⟨_,H11,I11,_,q11⟩=>?_));exact wpAny_pure (wpAny_pure ⟨rfl,again' I11 q11⟩)
 exact codeAny_compStart_list (main _ ⟨_,rfl⟩) (T.self _ 0 _ _ _ (T.keep 0 _ _ st2 λ b hb o e=>old b o e) (main _ ⟨_,rfl⟩))
section
variable{X:Cx}{N:List M2}{nl:List (Option Nat)}{scope:Scope}{cl:List (M2×V0)}{elt tg iter:Expr}{pos:Pos}{wi:TI}{g:TG}{tc:TT}{te:TE}
theorem Z9I(it a:V1)(env:Env):compTurn (.ListComp elt [⟨tg,iter,[],0⟩] scope pos) 0 it a env=(do
   standAt iter.pos
   match<-pyNext it with
   |none=>pure (.done .next)
   |some v=>
    letOwnedTupleGo tg it v
    assign tg env v
    let ok<-(λ _=>pure true:Env->Sem Bool) env
    if ok then(do
     (do let x<-eval elt env;let _<-call (.builtin "list.append") [a,x];pure ())
     again (.compLoop (.ListComp elt [⟨tg,iter,[],0⟩] scope pos) 0 it a env))
    else again (.compLoop (.ListComp elt [⟨tg,iter,[],0⟩] scope pos) 0 it a env)):=by rfl
theorem Z9d(it a:V1)(env:Env):compTurn (.ListComp elt [⟨tg,iter,[c],0⟩] scope pos) 0 it a env=(do
   standAt iter.pos
   match<-pyNext it with
   |none=>pure (.done .next)
   |some v=>
    letOwnedTupleGo tg it v
    assign tg env v
    let ok<-(λ env=>isTrue c env (eval c env):Env->Sem Bool) env
    if ok then(do
     (do let x<-eval elt env;let _<-call (.builtin "list.append") [a,x];pure ())
     again (.compLoop (.ListComp elt [⟨tg,iter,[c],0⟩] scope pos) 0 it a env))
    else again (.compLoop (.ListComp elt [⟨tg,iter,[c],0⟩] scope pos) 0 it a env)):=by
 unfold compTurn;simp;rfl
theorem Z7i{pins:List (V0×Obj)}{σ:St}{Q:VK}(D C:V0)(s' a:M1)(fp:List V0)(c:St)(H' h:Hp)(i:Inv X pins σ h a)(j:∀b∈fp,FpOk X pins h b)(n:a.heap.objs.size<=C)(J:Inv (X.block N scope cl C fp a h) [] c H' s')(q:Q (.ref D) H'):compPost (model X.prog X.w) X.A X.xe none (EP X pins σ Q) (.ref D) C (.ok .next) s':=by
 obtain⟨m,p,_⟩:=J.loc;exact⟨m,p,λ v r=>⟨.ref D,H',Z7z i j n J λ b o u e=>r.extBut b o u e,rfl,q⟩⟩
theorem Z1e(a:X.calm=true)(B:BlockOk X N nl scope cl)(b:PI X tg iter wi)(c:∀C fp s H,PG (X.block N scope cl C fp s H) tg g)(e:∀C fp s H,PE (X.block N scope cl C fp s H) elt te)(hs:∀x,foldedSetIterable iter X.env x=pure x:=by intro _;rfl):PE X (.ListComp elt [⟨tg,iter,[],0⟩] scope pos) (J0F wi nl g Z2Y te):=by
 intro pins s σ H Q I h;rw[eval_ListComp];exact Z4j (tst:=λ _=>pure true) a B b c (λ _ _ _ _=>J1w) e Z9I hs I h Z7i _
theorem Z3A(a:X.calm=true)(B:BlockOk X N nl scope cl)(e:PI X tg iter wi)(i:∀C fp s H,PG (X.block N scope cl C fp s H) tg g)(j:∀C fp s H,PT (X.block N scope cl C fp s H) c tc)(m:∀C fp s H,PE (X.block N scope cl C fp s H) elt te)(hs:∀x,foldedSetIterable iter X.env x=pure x:=by intro _;rfl):PE X (.ListComp elt [⟨tg,iter,[c],0⟩] scope pos) (J0F wi nl g tc te):=by
 intro pins s σ H Q I h;rw[eval_ListComp];exact Z4j (tst:=λ b=>isTrue c b (eval c b)) a B e i (λ C fp s H=>J4Z (j C fp s H)) m Z9d hs I h Z7i _
end
end L2
end
section
namespace L2
open PySem PySem.Spec PyProof.Rows
def Its(x:M2):It:=⟨λ i _=>i<x.cps.size,λ i H v a=>a=H/\∃c,x.cps[i]?=some c/\v=.str ⟨#[c]⟩,λ i _=>i=x.cps.size⟩
def Ite(K:X0)(l:V0):It:=
 ⟨λ i H=>∃a x,SqL K H l a/\a[i]?=some x,λ i H v b=>∃t x,v=.ref t/\H t=none/\b=upd H t (.tup [.int i,x])/\∀a,SqL K H l a->a[i]?=some x,λ i H=>∃a,SqL K H l a/\a.length<=i⟩
theorem J2J{P:Program}{w:Y3}{K:X0}{N:List Expr}{x1:Nat}{O:Pos}(l e it:V0)(R:e≠it):Turn P w K (.Tuple N x1 O) (Ite K l) [e,it] e (λ i h=>(∃old,IsEnum h e it i old)/\h.IsListIter it l i)where
 mem:=by simp
 obj:=λ i h y b a=>by
  obtain⟨⟨old,G⟩,o,M,c,d⟩:=y;rcases qa4.mp a with z|z
  ·subst z;exact⟨_,G,λ v q=>by cases q⟩
  ·have S:b=it:=by simpa using z
   subst S;exact⟨o,M,λ v q=>by rw[d]at q;cases q⟩
 keep:=λ i h h' y k=>⟨let⟨old,q⟩:=y.1;⟨old,k e (by simp) _ q⟩,y.2.at λ o q=>k it (by simp) o q⟩
 item:=by
  intro X hP hw hK Y i C s σ H E I Z y hg;subst hP hw hK;obtain⟨xs,x,hq,hx⟩:=hg;obtain⟨a0,rv,p,hz⟩:=I.list hq;obtain⟨u,hu,ru⟩:=rv.get hx;obtain⟨⟨old,G⟩,M⟩:=y;have J:=Z e (by simp);have L:=Z it (by simp);refine wpAny_pyNext_enum_item G M p.isList (x:=u) (by simpa using hu) R λ h' eo b0 ht e0 kk=>?_;refine⟨_,rfl,wpAny_letOwnedTupleGo_enum eo λ h2 en sb=>?_⟩;have d0:s.heap.objs.size≠e:=Nat.ne_of_gt (Heap.lt_size G);have T:∀b o,b≠e->b≠it->s.heap.get? b=some o->h2.get? b=some o:=λ b o h1 h3 q=>sb.extBut b o h1 (kk b o h1 h3 q);have fresh:H s.heap.objs.size=none:=I.hok.fresh (qa0 _);have j:∀b o,s.heap.get? b=some o->b≠s.heap.objs.size:=λ b o q=>qb3 (Heap.lt_size q);have U:∀b o,H b=some o->b≠e/\b≠it:=λ b o q=>⟨Z0m q J.1,Z0m q L.1⟩;have D:h2.get? s.heap.objs.size=some {cls:=.type "tuple",data:=.seq #[.int i s.toks,u]}:=sb.extBut _ _ d0 ht;have g:∀b,b∉[e,it]->b≠e/\b≠it:=λ b a=>⟨λ z=>a (by simp[z]),λ z=>a (by simp[z])⟩;have I2:Inv X C σ (upd H s.heap.objs.size (.tup [.int i,x])) {s with heap:=h2,toks:=s.toks+1}:=by
   refine I.step (g':=s.gens) (d':=s.drawn) (ch:=[e,it]) (λ b a=>?_) (λ b o _ _ a q _=>T b o (g b a).1 (g b a).2 q) (λ b o _ _ a q _=>⟨o.slots,T b o (g b a).1 (g b a).2 q⟩)
    (λ b o _ q n=>by rw[Z0k (j b o q)];exact n) (λ b o a q=>⟨o,T b o (g b a).1 (g b a).2 q⟩) (λ b ys q=>by rw[Z0k (Z0m q fresh)];exact q) (λ b o ys q=>by rw[Z0k (Z0m q fresh)];exact q)
    (λ b ps q=>⟨#[],by rw[Z0k (Z0m q fresh),q];simp⟩) (λ m hm=>hm.at' λ o q=>T _ o J.2.1.symm L.2.1.symm q) (λ b o q=>?_) I.bare
   ·rcases qa4.mp a with z|z
    ·subst z;exact⟨J.2.2.2.1,J.2.1,J.2.2.2.2.1,J.2.2.2.2.2⟩
    ·have S:b=it:=by simpa using z
     subst S;exact⟨L.2.2.2.1,L.2.1,L.2.2.2.2.1,L.2.2.2.2.2⟩
   ·by_cases a:b=s.heap.objs.size
    ·subst a;rw[Z0d]at q;cases q;exact⟨⟨by show 2<=sizeLine;decide,λ o q=>by rw[D]at q;cases q;rfl⟩,[.int i s.toks,u],.cons ⟨_,rfl⟩ (.cons ru .nil),⟨_,D,rfl,_,rfl⟩⟩
    ·rw[Z0k a]at q;refine(I.hok b o q).stay (λ c v Y r=>?_) (λ c r=>by rw[Z0k (Z0m r fresh)];exact r) λ c ys r=>by rw[Z0k (Z0m r fresh)];exact r
     have B:∃o',H c=some o':=by
      rcases Y with z|z
      ·exact⟨o,by rw[z];exact q⟩
      ·exact⟨_,z⟩
     obtain⟨o',B⟩:=B;exact T c v (U c o' B).1 (U c o' B).2 r
  refine⟨.ref s.heap.objs.size,_,I2,rfl,⟨_,x,rfl,fresh,rfl,λ ys hy=>by rw[I.list_inj hy hq];exact hx⟩,⟨⟨u,?_⟩,b0.extBut sb.extBut R.symm⟩,λ b a=>?_⟩
  ·have e1:((i+1:Nat):Int)=(i:Int)+1:=by lia
   rw[e1];exact en
  ·rcases qa4.mp a with z|z
   ·subst z;rw[Z0k (j _ _ G)];exact J.1
   ·have S:b=it:=by simpa using z
    subst S;obtain⟨o,s3,_⟩:=M;rw[Z0k (j _ _ s3)];exact L.1
 done:=by
  intro X hP hw hK Y i C s σ H E I Z y hg;subst hP hw hK;obtain⟨xs,hq,hx⟩:=hg;obtain⟨a0,rv,p,hz⟩:=I.list hq;obtain⟨⟨old,G⟩,M⟩:=y;obtain⟨f0,f1,f2,f3,f4,f5⟩:=Z it (by simp);have hl:=rv.length;exact wpAny_pyNext_enum_end (I.ok.hd Y) G M p.isList (by simp;lia) λ h' eb=>⟨rfl,I.turned (t':=s.toks) (λ b o a q=>eb b o a q) f0 f1 f3 f4 f5⟩
 self:=λ A i s Q E y h=>(let⟨old,q⟩:=y.1;wpAny_pyIter_enum q h)
section
variable{X:Cx}
def J7O(K:X0)(ta:TA):TI:=λ c H R=>ta c H λ vs b=>∃a,vs=[.ref a]/\(∃e,SqL K b a e)/\R (Ite K a) b
theorem Z5m{g:List Expr}{x:Nat}{i:Pos}{a:Expr}{v:TA}{p j:Pos}(y:Gl X "enumerate")(A:X.mg "enumerate"=none)(r:bootBuiltins "enumerate"=some (.type "enumerate"))(B:PA X [a] v)(hs:starEach [a] X.env=[(false,eval a X.env)]:=by rfl):PI X (.Tuple g x i) (.Call (.Name "enumerate" p) [a] [] j) (J7O X.K v):=by
 intro m s C H R I h;refine Call_ (Z3I I y A r (PyProof.Rows.callWith_type1 (thn (B j m s C H _ I h) λ us c ⟨vs,D,o,r1,E⟩=>?_) hs rfl));obtain⟨l,e,⟨P,G⟩,q⟩:=E;subst e;obtain⟨u,rfl,J⟩:=r1.one;cases J;obtain⟨K,Q,pl,S⟩:=o.list G;refine call_enumerate_list pl.isList λ T w L M N=>wpAny_pyIter_enum w ?_;refine⟨c.heap.objs.size+1,[c.heap.objs.size+1,c.heap.objs.size],_,_,D,rfl,o.kept (t':=c.toks) N,J2J l _ _ (qi8 _),⟨⟨_,w⟩,L⟩,λ b r=>?_,q⟩;have n:c.heap.objs.size<=b:=by
  rcases qa4.mp r with z|z
  ·rw[z];exact qd6 _
  ·have O:b=c.heap.objs.size:=by simpa using z
   rw[O];exact qa0 _
 exact o.fpOk n (o.hok.fresh n)
end
end L2
namespace L2
open PySem PySem.Spec PyProof.Rows
theorem Z6H(ys:List Bool):(qe2 ys.length).all (λ i=>ys.getD i false)=ys.all id:=by
 rw[qi1,qk6,qk6];constructor
 ·intro h y c;obtain⟨i,b,e⟩:=qf9 c;have:=h i (qe9.mpr b);rw[qc5,qa3 b]at this;rw[<-e];exact this
 ·intro h i b;have a:=qe9.mp b;rw[qc5,qa3 a];exact h _ (qk7 a)
theorem J3O{X:Cx}(B:X.calm=true):Z3V X (.builtin "all") (λ xs H Q=>∃(p:V0)(ys:List Bool),xs=[.ref p]/\SqL X.K H p (ys.map V.bl)/\Q (.bl (ys.all id)) H):=by
 intro m s M H xs us Q I r h;obtain⟨p,ys,rfl,C,q⟩:=h;obtain⟨u,rfl,D⟩:=r.one;cases D;obtain⟨a,n,pl,N⟩:=I.list C;obtain⟨o,E,_,_,_⟩:=id pl.isList;have j:p≠s.heap.objs.size:=qb3 (Heap.lt_size E);have hl:=n.length;rw[qa1]at hl;refine call_all_walk (wpAny_pyIter_list pl.isList ?_);refine⟨s.heap.objs.size,_,_,_,_,_,λ i=>ys.getD i false,rfl,Walks.list (A:=X.A.in1) (show X.A.in1.handled=none from I.ok.hd B) _ p j a.toArray,⟨⟨_,Heap.get?_push_size _ rfl,rfl,rfl⟩,pl.isList.at λ o e=>Heap.get?_push_of_some _ e⟩,λ i v O P R G c=>?_,λ S T J=>?_⟩
 ·have g:a[i]?=some v:=by simpa using G
  have w:i<ys.length:=by
   have:=(qa6.mp g).1;lia
  obtain⟨U,y,K⟩:=n.get (i:=i) (x:=V.bl ys[i]) (by rw[qa8,qa3 w];rfl);rw[g]at y;cases y;cases(show _=Value.bool ys[i]from K);refine wpAny_truthy_bool ?_;dsimp only at c;rw[qc5,qa3 w]at c;exact c
 ·have e:(qe2 a.toArray.size).all (λ i=>ys.getD i false)=ys.all id:=by
   rw[qb1,<-hl];exact Z6H ys
  refine⟨.bl (ys.all id),H,I.kept λ b o e=>J b o (λ z=>?_) (Heap.get?_push_of_some _ e),by rw[e];rfl,q⟩;have L:b=s.heap.objs.size:=by simpa using z
  exact absurd (Heap.lt_size e) (by rw[L];exact qd8 _)
end L2
end
section
namespace L2
open PySem PySem.Spec PyProof.Rows
theorem BlockOk.plain{X:Cx}{N:List M2}{scope:Scope}(kind:scope.kind=.function)(nocell:∀y∈scope.names,y.2≠.cell)(names:∀y∈scope.names,y.2=.local->scope.names.lookup y.1=some .local)(a:∀y∈scope.names,y.2≠.free):BlockOk X N (N.map λ _=>none) scope []where
 kind:=kind
 nocell:=nocell
 names:=names
 clos:=closureFor_none a
 sub:=λ y c h=>by simp at h
 has:=λ y h=>absurd rfl (a _ (Z1E h))
 len:=by simp
 seen:=λ i j y _ h=>by
  rw[qa8]at h;cases q:N[i]? with
  |none=>rw[q]at h;cases h
  |some z=>rw[q]at h;cases h
theorem BlockOk.of{X:Cx}{N:List M2}{nl:List (Option Nat)}{scope:Scope}{cl:List (M2×V0)}(kind:scope.kind=.function)(nocell:∀y∈scope.names,y.2≠.cell)(names:∀y∈scope.names,y.2=.local->scope.names.lookup y.1=some .local)(clos:closureFor scope X.env=pure cl)(sub:∀p∈cl,X.env.cells.lookup p.1=some p.2){nm:List M2}(g:cl.map (·.1)=nm)(has:∀y∈scope.names,y.2=.free->y.1∈nm)(len:nl.length=N.length)(seen:∀i<nl.length,∀j,nl[i]?=some (some j)->∃y,N[i]?=some y/\X.N[j]?=some y/\scope.names.lookup y=some .free/\(X.env.scope.names.lookup y=some .cell\/X.env.scope.names.lookup y=some .free)):BlockOk X N nl scope cl where
 kind:=kind
 nocell:=nocell
 names:=names
 clos:=clos
 sub:=λ y c h=>sub (y,c) (PySem.mem_of_lookup h)
 has:=λ y h=>by
  have m:=has _ (Z1E h) rfl;rw[<-g]at m;cases q:cl.lookup y with
  |some c=>exact⟨c,rfl⟩
  |none=>
   obtain⟨p,o,e⟩:=qe0.mp m;have:=List.lookup_eq_none_iff.mp q p o;simp[e]at this
 len:=len
 seen:=λ i j y r n=>by
  obtain⟨z,a,b,c,d⟩:=seen i (qa6.mp n).1 j n;rw[r]at a;cases a;exact⟨b,c,d⟩
variable{env:Env}
theorem sub1{x:M2}{a:V0}(h:env.cells.lookup x=some a):∀p∈[(x,a)],env.cells.lookup p.1=some p.2:=λ p b=>by
 rcases qa4.mp b with e|b
 ·subst e;exact h
 ·cases b
theorem sub2{x y:M2}{a b:V0}(h:env.cells.lookup x=some a)(h':env.cells.lookup y=some b):∀p∈[(x,a),(y,b)],env.cells.lookup p.1=some p.2:=λ p c=>by
 rcases qa4.mp c with e|c
 ·subst e;exact h
 ·exact sub1 h' p c
open PySem.SeqAt
structure Nice(k n:Nat)(d:PyData):Prop where
 lay:d.canLay0=true
 sho:d.showable=true
 leaf:d.leavesShort 30=true
 dep:d.depth<=k
 wt:d.weight<=n
theorem Nice.int{k:Nat}{i:Int}(h:i.natAbs<10^18):Nice k 60 (.int i):=by
 have hl:i.natAbs.log2<60:=by
  by_cases z:i.natAbs=0
  ·rw[z];decide
  ·exact(Nat.log2_lt z).mpr qR
 refine⟨rfl,?_,?_,qb0 _,?_⟩
 ·rw[PyData.showable];exact decide_eq_true qR
 ·have e:=int_text_length_le10 (k:=18) qQ h;have:(PyData.shown (.int i)).length<=30:=by
   show(Str.ofString (toString i)).length<=30;rw[PySem.ofString_length];lia
  rw[PyData.leavesShort];exact decide_eq_true this
 ·rw[PyData.weight];split<;>lia
theorem Nice.str{k n:Nat}{x:M2}(h:PyData.strOk x=true)(b:x.cps.size<=n):Nice k n (.str x):=by
 refine⟨by rw[PyData.canLay0];exact h,rfl,?_,qb0 _,by rw[PyData.weight];exact b⟩;have g:∀c∈x.cps.toList,c<0x110000:=by
  intro c a;have:=(Array.all_eq_true_iff_forall_mem.mp h) c (ql7.mp a);simpa using this
 rw[PyData.leavesShort];refine qk6.mpr λ c i=>decide_eq_true ?_;have j:=g c i;have e:(16:Nat)^8=4294967296:=by decide
 lia
variable{Q:VK}{H:Hp}
theorem J9r{i:Nat}{a:St}:tVar i a H Q=(∃v,a[i]?=some (some v)/\Q v H):=rfl
variable{v:V}
theorem Y0e{a:St}:tC v a H Q=(Q v H):=rfl
theorem Y0d{t:TE}{a:St}{Q:Bool->Hp->Prop}:tB t a H Q=(t a H λ x b=>∃c,x=.bl c/\Q c b):=rfl
theorem J9z{t u:TT}{a:St}{Q:Bool->Hp->Prop}:tAnd t u a H Q=(t a H λ c b=>if c=true then u a b Q else Q false b):=rfl
theorem J9W{t u:TT}{a:St}{Q:Bool->Hp->Prop}:tOr t u a H Q=(t a H λ c b=>if c=true then Q true b else u a b Q):=rfl
theorem J9I{t:TT}{a:St}{Q:Bool->Hp->Prop}:tNot t a H Q=(t a H λ c b=>Q (!c) b):=rfl
theorem J8p{b e:TE}{a:St}:J7R b e a H Q=(b a H λ x g=>∃c,x=.bl c/\if c=true then e a g Q else Q (.bl false) g):=rfl
theorem J9c{b e:TE}{a:St}:tOrV b e a H Q=(b a H λ x g=>∃c,x=.bl c/\if c=true then Q (.bl true) g else e a g Q):=rfl
variable{D:Ends}
theorem J8H{a:St}:J3d D a H=(D.nx a H):=rfl
theorem J9g{t u:TS}{a:St}:tSeq t u D a H=(t {D with nx:=u D} a H):=rfl
theorem J8v{b:TE}{a:St}:J7B b D a H=(b a H λ _ c=>D.nx a c):=rfl
theorem J8T{a:TE}{b:St}:tRet a D b H=(a b H D.rt):=rfl
theorem J8s{a:St}:J7t D a H=(D.rt .non H):=rfl
theorem J9f{c:TT}{t u:TS}{a:St}:tIfS c t u D a H=(c a H λ b e=>if b=true then t D a e else u D a e):=rfl
theorem J8c{a:Ends}{b:St}{c:Hp}:J4v a b c=(False):=rfl
theorem J8z{i:Nat}{a:St}{Q:St->Hp->Prop}:Z2G i v a H Q=(Q (a.set i (some v)) H):=rfl
variable{vs:List V}
theorem J9u{a:St}{Q:St->Hp->Prop}:gNil vs a H Q=(vs=[]/\Q a H):=rfl
theorem J8F{t:TG}{u:TGs}{b:St}{Q:St->Hp->Prop}:J6Z t u vs b H Q=(∃v r,vs=v::r/\t v b H λ a H'=>u r a H' Q):=rfl
variable{K:X0}
theorem J8P{n:Nat}{t:TGs}{b:St}{Q:St->Hp->Prop}:gTup K n t v b H Q=(∃a xs,v=.ref a/\SqT K H a xs/\xs.length=n/\t xs b H Q):=rfl
theorem J9n{to b:TE}{t:TSet}{a:St}{Q:St->Hp->Prop}:gSub to b t v a H Q=(to a H λ o c=>b a c λ i e=>t o i v e λ H3=>Q a H3):=rfl
theorem J8R{b:TE}{g:TG}{a:St}:tAsg b g D a H=(b a H λ x c=>g x a c D.nx):=rfl
theorem J8U{i j:Nat}{b:TA}{a:St}:tPar i j b D a H=(b a H λ vs c=>∃v w,vs=[v,w]/\D.nx ((a.set i (some v)).set j (some w)) c):=rfl
theorem J9L{i:Nat}{b:TE}{c:TIp}{a:St}:tAug i b c D a H=(∃x,a[i]?=some (some x)/\b a H λ y e=>c x y e λ z g=>D.nx (a.set i (some z)) g):=rfl
variable{x:V}
theorem J9T{f:Int->Int->Int}{y:V}:ipI f x y H Q=(∃i j,x=.int i/\y=.int j/\Q (.int (f i j)) H):=rfl
variable{R:It->Hp->Prop}
theorem J8I{b:TE}{c:St}:J7J K b c H R=(b c H λ x e=>∃a,x=.ref a/\(∃xs,SqL K e a xs)/\R (Itl K a) e):=rfl
theorem J9a{b:TE}{c:St}:iTup K b c H R=(b c H λ x e=>∃a,x=.ref a/\(∃xs,SqT K e a xs)/\R (Itt K a) e):=rfl
theorem J8r{a:TA}{b:St}:J7o a b H R=(a b H λ vs c=>∃j:Int,vs=[.int j]/\-(2^62)<=j/\j<2^62/\R (Itr 0 j.toNat) c):=rfl
theorem J9S{r:R2}{b c:TE}{a:St}:tOp r b c a H Q=(b a H λ x e=>c a e λ y g=>r x y g Q):=rfl
theorem Y0k{C:Int->Int->Prop}{g:Int->Int->V}{y:V}:rI C g x y H Q=(∃i j,x=.int i/\y=.int j/\C i j/\Q (g i j) H):=rfl
theorem J9V{g:Int->Int->V}{y:V}:rI0 g x y H Q=(∃i j,x=.int i/\y=.int j/\Q (g i j) H):=rfl
theorem Y0a{y:V}:rEq x y H Q=(scal x y=true/\Q (.bl (decide (x=y))) H):=rfl
theorem J9Z{y:V}:rNe x y H Q=(scal x y=true/\Q (.bl (!decide (x=y))) H):=rfl
theorem J8L{t:TE}{a:St}{Q:Bool->Hp->Prop}:Z6R t a H Q=(t a H λ x H'=>∃k,x=.bl k/\Q k H'):=rfl
theorem J9J{a:St}{Q:List V->Hp->Prop}:tNil a H Q=(Q [] H):=rfl
theorem J8J{b:TE}{c:TA}{a:St}{Q:List V->Hp->Prop}:Z3O b c a H Q=(b a H λ x e=>c a e λ xs g=>Q (x::xs) g):=rfl
variable{E:XK}
theorem J8N{sp:Sp}{a:List V}{t:TA}{b:St}:J3p sp a E t b H Q=(t b H λ vs c=>sp (vs++a) c Q E):=rfl
variable{C:V0}
theorem J8w{m:M2}{sp:Sp}{b:List V}{e:TE}{t:TA}{c:St}:J1T C m sp b E e t c H Q=(e c H λ x g=>∃a h fs,x=.ref a/\g a=some (.ins C h fs)/\fs.lookup m=none/\t c g λ vs i=>sp (x::(vs++b)) i Q E):=rfl
theorem J8A{sp:Sp}{a:List V}{t:TA}{e:St}:J5h C sp a E t e H Q=(t e H λ vs c=>∀x b,c x=none->c b=none->b≠x->sp (.ref x::(vs++a)) (upd (upd c b (.own x)) x (.ins C b [])) (λ v g=>v=.non/\Q (.ref x) g) E):=rfl
theorem J9P{r:List V->Hp->VK->Prop}{t:TA}{a:St}:tCB r t a H Q=(t a H λ vs b=>r vs b Q):=rfl
theorem J6B{a:St}{Q:Option Int->Hp->Prop}:J3a a H Q=(Q none H):=rfl
theorem J8y{t:TE}{a:St}{Q:Option Int->Hp->Prop}:J6T t a H Q=(t a H λ x b=>∃i,x=.int i/\Q (some i) b):=rfl
theorem Y0b{r:V->Option Int->Option Int->Hp->VK->Prop}{b:TE}{c e:TO}{a:St}:tSl r b c e a H Q=(b a H λ x g=>c a g λ l h=>e a h λ u H3=>r x l u H3 Q):=rfl
theorem J9e{b:Option Int}{c:Option Int}:rSlT K x b c H Q=(∃a xs,x=.ref a/\SqT K H a xs/\¬(HT.sIx xs.length 0 b=0/\HT.sIx xs.length xs.length c=xs.length)/\∀p,H p=none->Q (.ref p) (upd H p (.tup (cutV xs b c)))):=rfl
theorem J8d{y:V}:J7c K x y H Q=(∃a b xs ys,x=.ref a/\y=.ref b/\SqT K H a xs/\SqT K H b ys/\xs≠[]/\xs.length+ys.length<=sizeLine/\(ys=[]->Q (.ref a) H)/\(ys≠[]->∀p,H p=none->Q (.ref p) (upd H p (.tup (xs++ys))))):=rfl
theorem J9v{y:V}:rIxL K x y H Q=(∃p xs i v,x=.ref p/\y=.int i/\SqL K H p xs/\atI xs i=some v/\Q v H):=rfl
theorem J8Q{y:V}:rIxT K x y H Q=(∃p xs i v,x=.ref p/\y=.int i/\SqT K H p xs/\atI xs i=some v/\Q v H):=rfl
theorem J9F{y:V}:rIxS x y H Q=(∃z i c,x=.str z/\y=.int i/\z.length<=sizeLine/\atI z.cps.toList i=some c/\Q (.str ⟨#[c]⟩) H):=rfl
theorem J9R{a:Bool}{y:V}:rIn K a x y H Q=(∃p xs,y=.ref p/\(SqL K H p xs\/SqT K H p xs)/\Z5D x=true/\xs.all Z5D=true/\Q (.bl (if a then !inV x xs else inV x xs)) H):=rfl
theorem J9h{T:String}{r:V->List V->Hp->VK->Prop}{to:TE}{a:St}:tBM0 K T r to a H Q=(to a H λ x b=>tyV K T x b/\r x [] b Q):=rfl
theorem J9U{T:String}{r:V->List V->Hp->VK->Prop}{to:TE}{t:TA}{a:St}:tBM K T r to t a H Q=(to a H λ x b=>tyV K T x b/\t a b λ xs c=>r x xs c Q):=rfl
theorem J6E:J2y x vs H Q=(∃l xs y,x=.ref l/\vs=[y]/\H l=some (.lst xs)/\xs.length<sizeLine/\Q .non (upd H l (.lst (xs++[y])))):=rfl
theorem J6C:J1L x vs H Q=(∃l b xs a,x=.ref l/\vs=[.ref b]/\H l=some (.lst xs)/\H b=some (.lst a)/\xs.length+a.length<=sizeLine/\Q .non (upd H l (.lst (xs++a)))):=rfl
theorem J9A:rPop x vs H Q=(∃l xs y,x=.ref l/\vs=[]/\H l=some (.lst xs)/\xs[xs.length-1]?=some y/\Q y (upd H l (.lst xs.dropLast))):=rfl
theorem J9p{y:V}:rRep x y H Q=(∃l k xs,x=.ref l/\y=.int k/\H l=some (.lst xs)/\-(2^63)<=k/\k<2^63/\xs.length*k.toNat<=sizeLine/\∀p,H p=none->Q (.ref p) (upd H p (.lst (qb8 k.toNat xs).flatten))):=rfl
def J1A(J:It)(g:TG)(tb:TS)(D:Ends)(σ:St)(H:Hp):Prop:=∃W:Nat->Nat->St->Hp->Prop,(∃m,W 0 m σ H)/\∀i m σ H,W i m σ H->
 (J.stop i H/\D.nx σ H)\/(J.go i H/\∃N:St->Hp->Prop,(∀a b,N a b->∃e,e<m/\W (i+1) e a b)/\∀x b,J.yld i H x b->g x σ b λ c h=>tb {D with nx:=N,ct:=N,bk:=D.nx} c h)
variable{c:TS}
theorem J8Z{b:TI}{g:TG}{a:St}:tFor b g c D a H=b a H λ J H1=>J1A J g c D a H1:=rfl
section
variable{κ:Type}[DecidableEq κ]
def valV(kvs:List (κ×V))(k:κ):Option V:=(kvs.find? λ b=>decide (b.1=k)).map (·.2)
def putK(kvs:List (κ×V))(k:κ)(v:V):List (κ×V):=
 if(kvs.any λ b=>decide (b.1=k))=true then kvs.map (λ b=>if b.1=k then(b.1,v)else b)else kvs++[(k,v)]
theorem Z1l{p:κ×V}{r:List (κ×V)}{k:κ}(e:p.1=k):valV (p::r) k=some p.2:=by simp[valV,qf1,e]
theorem Z1d{p:κ×V}{r:List (κ×V)}{k:κ}(e:¬p.1=k):valV (p::r) k=valV r k:=by simp[valV,qf1,e]
theorem Z3j(k:κ):∀kvs:List (κ×V),(kvs.any λ b=>decide (b.1=k))=(valV kvs k).isSome
 |[]=>rfl
 |p::r=>by
  rw[qi5];by_cases e:p.1=k
  ·simp only[Z1l e,decide_eq_true e,Bool.true_or,Option.isSome_some]
  ·rw[Z1d e,decide_eq_false e,Bool.false_or];exact Z3j k r
theorem Z9w(k j:κ)(y:V):∀kvs:List (κ×V),valV (kvs.map λ b=>if b.1=k then(b.1,y)else b) j=(valV kvs j).map λ x=>if j=k then y else x
 |[]=>rfl
 |p::r=>by
  have c:=Z9w k j y r;rw[qb7];by_cases h:p.1=k
  ·rw[if_pos h];by_cases e:p.1=j
   ·rw[Z1l (p:=(p.1,y)) e,Z1l e,qg5,if_pos (e.symm.trans h)]
   ·rw[Z1d (p:=(p.1,y)) e,Z1d e,c]
  ·rw[if_neg h];by_cases e:p.1=j
   ·rw[Z1l (p:=p) e,Z1l e,qg5,if_neg (λ z=>h (e.trans z))]
   ·rw[Z1d (p:=p) e,Z1d e,c]
theorem Z7e(k j:κ)(y:V):∀kvs:List (κ×V),valV kvs k=none->valV (kvs++[(k,y)]) j=if j=k then some y else valV kvs j
 |[],_=>by
  by_cases e:k=j
  ·rw[if_pos e.symm];exact Z1l (p:=(k,y)) e
  ·rw[if_neg (λ z=>e z.symm)];exact Z1d (p:=(k,y)) e
 |p::r,b=>by
  rw[qk8];have c:¬p.1=k:=λ z=>by rw[Z1l z]at b;cases b
  rw[Z1d c]at b;have g:=Z7e k j y r b;by_cases e:p.1=j
  ·rw[Z1l e,Z1l e,if_neg (λ z=>c (e.trans z))]
  ·rw[Z1d e,Z1d e,g]
theorem Z4N(kvs:List (κ×V))(k j:κ)(y:V):valV (putK kvs k y) j=if j=k then some y else valV kvs j:=by
 unfold putK;by_cases a:(kvs.any λ b=>decide (b.1=k))=true
 ·rw[if_pos a,Z9w];rw[Z3j]at a;by_cases e:j=k
  ·obtain⟨x,c⟩:=Option.isSome_iff_exists.mp a;rw[if_pos e,e,c,qg5,if_pos rfl]
  ·rw[if_neg e];cases valV kvs j with
   |none=>rfl
   |some x=>rw[qg5,if_neg e]
 ·rw[if_neg a];refine Z7e k j y kvs ?_;rw[Z3j]at a;cases q:valV kvs k with
  |none=>rfl
  |some x=>rw[q]at a;exact(a rfl).elim
theorem Z1h(kvs:List (κ×V))(k:κ)(v:V):(putK kvs k v).length<=kvs.length+1:=by
 unfold putK;split
 ·rw[qa1];lia
 ·rw[qa2,qb2,qg0];lia
theorem Z9L{kvs:List (κ×V)}{k:κ}(v:V)(h:valV kvs k=none):putK kvs k v=kvs++[(k,v)]:=by
 unfold putK;rw[Z3j,h];exact if_neg qQ
theorem RelO.isSome_eq{o:Option V}{u:Option V1}(r:RelO o u):o.isSome=u.isSome:=by
 cases o with
 |none=>cases u with
  |none=>rfl
  |some _=>exact(show False from r).elim
 |some _=>cases u with
  |none=>exact(show False from r).elim
  |some _=>rfl
theorem KV.val{kvs:List (κ×V)}{vs:List (κ×V1)}(r:KV kvs vs)(k:κ):RelO (valV kvs k) (valueAt vs k):=by
 unfold KV at r;induction r with
 |nil=>exact True.intro
 |@cons p q ps c h t m=>
  obtain⟨j,n⟩:=h;by_cases e:p.1=k
  ·have g:q.1=k:=j.symm.trans e;have b:valueAt (q::c) k=some q.2:=by simp[valueAt,qf1,g]
   rw[Z1l e,b];exact n
  ·have g:¬q.1=k:=λ z=>e (j.trans z);have b:valueAt (q::c) k=valueAt c k:=by simp[valueAt,qf1,g]
   rw[Z1d e,b];exact m
theorem KV.any{kvs:List (κ×V)}{vs:List (κ×V1)}(r:KV kvs vs)(k:κ):(kvs.any λ b=>decide (b.1=k))=vs.any λ b=>decide (b.1=k):=by
 unfold KV at r;induction r with
 |nil=>rfl
 |cons h t c=>rw[qi5,qi5,c,h.1]
theorem KV.repl{kvs:List (κ×V)}{vs:List (κ×V1)}(r:KV kvs vs)(k:κ){y:V}{u:V1}(g:RelV y u):KV (kvs.map λ b=>if b.1=k then(b.1,y)else b) (vs.map λ b=>if b.1=k then(b.1,u)else b):=by
 unfold KV at r ⊢;induction r with
 |nil=>exact .nil
 |@cons p q ps n h t j=>
  rw[qb7,qb7];refine .cons ?_ j;obtain⟨c,m⟩:=h;by_cases e:p.1=k
  ·rw[if_pos e,if_pos (c.symm.trans e)];exact⟨c,g⟩
  ·rw[if_neg e,if_neg (λ z=>e (c.trans z))];exact⟨c,m⟩
theorem KV.put{kvs:List (κ×V)}{vs:List (κ×V1)}(r:KV kvs vs)(k:κ){y:V}{u:V1}(b:RelV y u):KV (putK kvs k y) (stored vs k u):=by
 unfold putK stored;rw[r.any k];by_cases e:(vs.any λ c=>decide (c.1=k))=true
 ·rw[if_pos e,if_pos e];exact r.repl k b
 ·rw[if_neg e,if_neg e];exact Paired.snoc r ⟨rfl,b⟩
theorem KV.length{kvs:List (κ×V)}{vs:List (κ×V1)}(r:KV kvs vs):kvs.length=vs.length:=Paired.length r
end
variable{P:Program}
theorem J0I{w:Y3}{k:Key}{u:V1}(r:RelV (kV k) u):(Z0M P w).is k u=true:=by
 cases k with
 |inl i=>obtain⟨t,e⟩:=(show ∃t,u=Value.int i t from r);subst e;exact Z8F P w i t
 |inr x=>obtain⟨t,e⟩:=(show ∃t,u=Value.str x t from r);subst e;exact Z8D P w x t
theorem Z7s{w:Y3}:∀{ks:List Key}{us:List V1},Vals (ks.map kV) us->ItemsAre (Z0M P w) ks us
 |[],_,r=>by rw[qi7]at r;cases r;exact .nil
 |k::ks,_,r=>by
  rw[qb7]at r;cases r with
  |cons h t=>exact .cons (J0I h) (Z7s t)
abbrev KT(H:Hp):List (List Key×V)->List (List Key×V0×V1)->Prop:=Paired λ p q=>p.1=q.1/\H q.2.1=some (.tup (p.1.map kV))/\RelV p.2 q.2.2
variable{kvs:List (List Key×V)}
theorem KT.val{xs:List (List Key×V0×V1)}(r:KT H kvs xs)(k:List Key):RelO (valV kvs k) ((atKey xs k).map (·.2)):=by
 induction r with
 |nil=>exact True.intro
 |@cons p q ps c h t m=>
  obtain⟨j,_,n⟩:=h;by_cases e:p.1=k
  ·have g:q.1=k:=j.symm.trans e;have b:atKey (q::c) k=some q.2:=by simp[atKey,qf1,g]
   rw[Z1l e,b];exact n
  ·have g:¬q.1=k:=λ z=>e (j.trans z);have b:atKey (q::c) k=atKey c k:=by simp[atKey,qf1,g]
   rw[Z1d e,b];exact m
theorem KT.repl{xs:List (List Key×V0×V1)}(r:KT H kvs xs)(k:List Key){y:V}{u:V1}(j:RelV y u):KT H (kvs.map λ c=>if c.1=k then(c.1,y)else c) (xs.map (putAt k u)):=by
 induction r with
 |nil=>exact .nil
 |@cons p q ps x h t m=>
  rw[qb7,qb7];refine .cons ?_ m;obtain⟨b,g,n⟩:=h;unfold putAt;by_cases e:p.1=k
  ·rw[if_pos e,if_pos (b.symm.trans e)];exact⟨b,g,j⟩
  ·rw[if_neg e,if_neg (λ z=>e (b.trans z))];exact⟨b,g,n⟩
theorem KT.put{xs:List (List Key×V0×V1)}(r:KT H kvs xs)(k:List Key){b:V0}{y:V}{u:V1}(g:H b=some (.tup (k.map kV)))(c:RelV y u):KT H (putK kvs k y) (storedH xs k b u):=by
 have e:(kvs.any λ j=>decide (j.1=k))=(atKey xs k).isSome:=by
  rw[Z3j,(r.val k).isSome_eq,Option.isSome_map]
 unfold putK storedH;rw[e];by_cases q:(atKey xs k).isSome=true
 ·rw[if_pos q,if_pos q];exact r.repl k c
 ·rw[if_neg q,if_neg q];exact Paired.snoc r ⟨rfl,g,c⟩
variable{H':Hp}
theorem KT.keeps{xs:List (List Key×V0×V1)}(r:KT H kvs xs)(c:∀b ys,H b=some (.tup ys)->H' b=some (.tup ys)):KT H' kvs xs:=
 Paired.mapP r λ _ _ z=>⟨z.1,c _ _ z.2.1,z.2.2⟩
section
variable{P:Program}{w:Y3}{H:Hp}{h:Z3}{a:V0}
theorem J7C{u:HO}(ok:HOk P w H h)(e:Rd H a u):ObjOk P w H h a u:=e.ok ok
theorem J3I{kvs:List (Key×V)}(ok:HOk P w H h)(e:Rd H a (.dK kvs)):kvs.length<=sizeLine/\(a==sysModules)=false/\∃vs,KV kvs vs/\h.DictOf (Z0M P w) a vs:=
 show ObjOk P w H h a (.dK kvs)from J7C ok e
theorem J7G{kvs:List (Key×V)}(ok:HOk P w H h)(e:H a=some (.dK kvs)):kvs.length<=sizeLine/\(a==sysModules)=false/\∃vs,KV kvs vs/\h.DictOf (Z0M P w) a vs:=J3I ok (.inl e)
theorem J1q{ks:List Key}(ok:HOk P w H h)(e:H a=some (.tup (ks.map kV))):(tupleKind (Z0M P w)).is h ks a:=by
 obtain⟨_,b,r,o,c,g,n,j⟩:=(show ObjOk P w H h a (.tup (ks.map kV))from ok a _ e);exact⟨o,b.toArray,n,c,g,j,by simpa using Z7s r⟩
theorem J6m(ok:HOk P w H h)(e:Rd H a (.dT kvs)):kvs.length<=sizeLine/\(a==sysModules)=false/\∃xs,KT H kvs xs/\h.DictOfH (tupleKind (Z0M P w)) a xs:=by
 obtain⟨z,y,xs,r,o,g,j,n,B,C,D,G⟩:=(show ObjOk P w H h a (.dT kvs)from J7C ok e);refine⟨z,y,xs,r,o,g,j,n,B,C,D,λ x b=>?_,G⟩;have all:∀{l:List (List Key×V)}{m:List (List Key×V0×V1)},KT H l m->∀x∈m,(tupleKind (Z0M P w)).is h x.1 x.2.1:=by
  intro l m q;induction q with
  |nil=>intro x b;exact nomatch b
  |@cons p q ps J c t I=>
   intro x b;rcases qa4.mp b with e|b
   ·subst e;exact J1q ok (by rw[<-c.1];exact c.2.1)
   ·exact I x b
 exact all r x b
theorem J9b(ok:HOk P w H h)(e:H a=some (.dT kvs)):kvs.length<=sizeLine/\(a==sysModules)=false/\∃xs,KT H kvs xs/\h.DictOfH (tupleKind (Z0M P w)) a xs:=J6m ok (.inl e)
end
def DGet(H:Hp)(a:V0)(y:V)(r:Option V):Prop:=
 (∃kvs k,Rd H a (.dK kvs)/\y=kV k/\r=valV kvs k)\/∃kvs k b,Rd H a (.dT kvs)/\y=.ref b/\H b=some (.tup (k.map kV))/\r=valV kvs k
def DPut(H:Hp)(a:V0)(y v:V)(H':Hp):Prop:=
 (∃kvs k,H a=some (.dK kvs)/\y=kV k/\kvs.length<sizeLine/\H'=upd H a (.dK (putK kvs k v)))\/
 ∃kvs k b,H a=some (.dT kvs)/\y=.ref b/\H b=some (.tup (k.map kV))/\kvs.length<sizeLine/\H'=upd H a (.dT (putK kvs k v))
theorem DGet.k{a:V0}{kvs:List (Key×V)}{k:Key}(e:H a=some (.dK kvs)):DGet H a (kV k) (valV kvs k):=.inl ⟨kvs,k,.inl e,rfl,rfl⟩
theorem DPut.k{a:V0}{kvs:List (Key×V)}{k:Key}(e:H a=some (.dK kvs))(hl:kvs.length<sizeLine):DPut H a (kV k) v (upd H a (.dK (putK kvs k v))):=.inl ⟨kvs,k,e,rfl,hl,rfl⟩
section
variable{X:Cx}{pins:List (V0×Obj)}{σ:St}{H:Hp}{s:M1}{a:V0}{y v:V}{u r:V1}{o:Option V}{A:M3}{E:V1->M1->Prop}
theorem Inv.big(I:Inv X pins σ H s):sysModules<s.heap.objs.size:=by
 have h:mainGlobals<s.heap.objs.size:=(I.mod.glob.keeps I.bk).lt;exact Nat.lt_trans qQ h
theorem Z8c{Q:V1->M1->Prop}(G:A.units+1<cLine)(I:Inv X pins σ H s)(g:DGet H a y (some v))(C:RelV y u)(h:∀m D,Inv X pins σ H D->RelV v m->Q m D):wpAny (model X.prog X.w) A (getItem (.ref a) u) Q E s:=by
 rcases g with⟨kvs,k,e,n,l⟩|⟨kvs,k,b,e,n,J,l⟩
 ·subst n;obtain⟨z,hd,vs,c,q⟩:=J3I I.hok e;obtain⟨m,x,j⟩:=RelO.some_of (v:=v) (o:=valueAt vs k) (by rw[l];exact c.val k);exact wpAny_getItem_of (J0I C) q.mapOf x (h m _ (I.tok _) j)
 ·subst n;cases(show u=Value.ref b from C);obtain⟨z,hd,K,c,q⟩:=J6m I.hok e;obtain⟨m,x,j⟩:=RelO.some_of (v:=v) (o:=(atKey K k).map (·.2)) (by rw[l];exact c.val k);obtain⟨p,L,B⟩:=qc1.mp x;refine wpAny_getItem_heap (tupleKind_room_in1 G) (J1q I.hok J) q L ?_;rw[B];exact h m _ (I.tok _) j
theorem Z8v{h':Z3}{t':Nat}{c:HO}(I:Inv X pins σ H s)(g:Mut (H a))(hs:Heap.SameBut a s.heap h')(j:∃q,h'.get? a=some q)(new:ObjOk X.prog X.w (upd H a c) h' a c):Inv X pins σ (upd H a c) {s with heap:=h',toks:=t'}:=
 I.write (x:=a) (e:=a) g (.inl rfl) (λ b q m z=>(hs.2 b m).trans z) j new
theorem Z9Z{w:Y3}{h':Z3}{kvs:List (Key×V)}{vs:List (Key×V1)}(z:kvs.length<=sizeLine)(hd:(a==sysModules)=false)(b:KV kvs vs)(c:h'.DictOf (Z0M P w) a vs):ObjOk P w H' h' a (.dK kvs):=⟨z,hd,vs,b,c⟩
theorem Z5d{Q:Unit->M1->Prop}(N:A.units+1<cLine)(I:Inv X pins σ H s)(g:DPut H a y v H')(D:RelV y u)(G:RelV v r)(h:∀J,Inv X pins σ H' J->Q () J):wpAny (model X.prog X.w) A (setItem (.ref a) u r) Q E s:=by
 rcases g with⟨kvs,k,e,p,l,x⟩|⟨kvs,k,b,e,p,K,l,x⟩
 ·subst p x;obtain⟨z,hd,vs,j,B⟩:=J7G I.hok e;have C:vs.length<=sizeLine:=by rw[<-j.length];exact z
  have hl:(putK kvs k v).length<=sizeLine:=by have:=Z1h kvs k v;lia
  refine wpAny_setItem_pairs (hsz:=C) (J0I D) B λ L m hs=>h _ ?_;have O:∃q,L.get? a=some q:=let⟨q,_,_,n,_⟩:=m;⟨q,n⟩;exact Z8v I (by rw[e];exact True.intro) hs O (Z9Z hl hd (j.put k G) m)
 ·subst p x;cases(show u=Value.ref b from D);obtain⟨z,hd,R,j,B⟩:=J9b I.hok e;have C:R.length<=sizeLine:=by rw[<-Paired.length j];exact z
  have hl:(putK kvs k v).length<=sizeLine:=by have:=Z1h kvs k v;lia
  refine wpAny_setItem_heap (hsz:=C) (tupleKind_room_in1 N) (J1q I.hok K) B λ L m hs=>h _ ?_;obtain⟨q,S,T,n,U,Y,Z,_,h5⟩:=m;refine Z8v I (by rw[e];exact True.intro) hs ⟨q,n⟩ ⟨hl,hd,_,(j.put k K G).keeps λ c ys M=>?_,q,S,T,n,U,Y,Z,h5⟩;rw[Z0k (J6d M e (λ z=>nomatch z))];exact M
end
def NoSl(i:Expr):Prop:=∀b c,subscripted i false b c=operate [b,c] (getItem b c)
theorem J1t{prog:Program}{w:Y3}{A:M3}{E:V1->M1->Prop}{s:M1}{value b:Expr}{pos:Pos}{T id:String}{Q:V1->M1->Prop}(hl:typeLookup (.type T) "__getitem__"=pure (some (.builtin id)))(hs:NoSl b)(h:wpAny (model prog w) A (eval value env) (λ o g=>wpAny (model prog w) A (eval b env) (λ i s₂=>s₂.TypeIs o T/\wpAny (model prog w) A (getItem o i) Q E s₂) E g) E s):wpAny (model prog w) A (eval (.Subscript value b pos) env) Q E s:=by
 refine Subscript_ (wpAny_mono h (λ o g m=>wpAny_mono m (λ i s₂ c=>?_) λ _ _ x=>x) λ _ _ x=>x);obtain⟨p,c⟩:=c;unfold subscriptTail;refine wpAny_bind ?_;rw[getitemInPython_of_ne p.not_modules];refine wpAny_bind (wpAny_specialOf p hl ?_);have fin:wpAny (model prog w) A (subscripted b false o i) (λ r j=>wpAny (model prog w) A (letTemporaryGo value o r>>=λ _=>pure r) Q E j) E s₂:=by
  rw[hs o i];exact wpAny_operating (wpAny_mono c (λ r j n=>wpAny_bind (wpAny_letTemporaryGo (wpAny_pure n))) λ _ _ x=>x)
 first
  |exact wpAny_pure (wpAny_bind fin)
  |exact wpAny_bind (wpAny_pure (wpAny_bind fin))
  |exact wpAny_bind fin
theorem Z8O{X:Cx}{pins:List (V0×Obj)}{σ:St}{s:M1}{a:V0}{y:V}{o:Option V}(I:Inv X pins σ H s)(g:DGet H a y o):s.TypeIs (.ref a) "dict":=by
 rcases g with⟨kvs,k,e,_,_⟩|⟨kvs,k,b,e,_,_,_⟩
 ·obtain⟨_,_,vs,_,c⟩:=J3I I.hok e;exact c.typeIs
 ·obtain⟨_,_,j,_,c⟩:=J6m I.hok e;exact c.typeIs
def J3k(td ty:TE):TE:=λ σ H Q=>td σ H λ x c=>ty σ c λ y b=>∃a v,x=.ref a/\DGet b a y (some v)/\Q v b
def J6S(td ty tv:TE):TS:=λ D σ H=>tv σ H λ v c=>td σ c λ x g=>ty σ g λ y H3=>∃a b,x=.ref a/\DPut H3 a y v b/\D.nx σ b
def J7i(td ty tv:TE)(rd:V->V->Hp->VK->Prop):TS:=λ D σ H=>td σ H λ x g=>ty σ g λ y b=>∃a v,x=.ref a/\DGet b a y (some v)/\
 tv σ b λ j H3=>rd v j H3 λ z m=>∃c,DPut m a y z c/\D.nx σ c
section
variable{X:Cx}{o i e value:Expr}{pos pos' tpos:Pos}{td ty tv:TE}
theorem J1V(m:X.A.units+1<cLine)(n:PE X o td)(p:PE X i ty)(hs:NoSl i):PE X (.Subscript o i pos) (J3k td ty):=by
 intro pins s σ H Q I h;refine J1t PySem.F.slot_dict_getitem.lookup hs (thn (n pins s σ H _ I h) λ u q ⟨x,z,B,C,D⟩=>thn (p pins q σ z _ B D) λ M N b=>?_);obtain⟨y,G,j,J,a,v,ex,g,K⟩:=b;subst ex;obtain rfl:u=Value.ref a:=C;exact⟨Z8O j g,Z8c m j g J λ O R L c=>⟨v,G,L,c,K⟩⟩
theorem Z1K(c:X.A.units+1<cLine)(j:PE X o td)(m:PE X i ty)(n:PE X value tv)(hs:swapsWith value (some (.Subscript o i pos')) pos.line X.env=pure false):PS X (.Assign [.Subscript o i pos'] value pos) (J6S td ty tv):=by
 intro pins s σ H D I h;refine wpAny_Assign_Subscript (thn (n pins s σ H _ I h) λ r p ⟨v,q,z,B,C⟩=>thn (j pins p σ q _ z C) λ u G ⟨x,J,K,L,M⟩=>thn (m pins G σ J _ K M) λ T U b=>?_) hs;obtain⟨y,H3,N,O,a,Q,ex,g,R⟩:=b;subst ex;obtain rfl:u=Value.ref a:=L;exact Z5d c N g O B λ Y S=>⟨σ,Q,S,R⟩
theorem Z8W{op:Operator}{rd:V->V->Hp->VK->Prop}(q:X.A.units+1<cLine)(C:PE X o td)(G:PE X i ty)(J:PE X value tv)(j:InOp X op rd)(K:∀c b new,augStore i c b new=(do holding [new,c,b] (setItem c b new);release [new,c,b] [];pure .next)):PS X (.AugAssign (.Subscript o i tpos) op value pos) (J7i td ty tv rd):=by
 intro pins s σ H D I h;refine wpAny_AugAssign_SubscriptAny (thn (C pins s σ H _ I h) λ u L ⟨x,M,N,O,Q⟩=>thn (G pins L σ M _ N Q) λ b s2 m=>?_) K;obtain⟨y,R,S,B,a,v,ex,g,T⟩:=m;subst ex;obtain rfl:u=Value.ref a:=O;refine Z8c q S g B λ U Y Z n=>thn (J pins Y σ R _ Z T) λ w2 s4 ⟨y2,H3,I4,p,q3⟩=>thn (j pins s4 σ H3 v y2 U w2 _ I4 n p q3) λ w3 s5 ⟨z,H4,I5,rz,H5,g5,q4⟩=>?_;exact Z5d q I5 g5 B rz λ s6 I6=>⟨σ,H5,I6,q4⟩
end
theorem Z9u{w:Y3}(h:Z3)(b:sysModules<h.objs.size):ObjOk P w H (h.push {cls:=.type "dict",data:=.dict #[]}) h.objs.size (.dK []):=
 ⟨qb0 _,beq_eq_false_iff_ne.mpr (Ne.symm (qb3 b)),[],.nil,Heap.DictOf.new h⟩
def J4H:TE:=λ _ H Q=>∀p,H p=none->Q (.ref p) (upd H p (.dK []))
section
variable{X:Cx}{pos:Pos}
theorem Z9l:PE X (.Dict [] [] pos) J4H:=λ pins s σ H Q I h=>
 wpAny_Dict_empty ⟨.ref s.heap.objs.size,_,I.laid (a:=s.heap.objs.size) (o:=.dK []) (t':=s.toks) (λ _ _ q=>Heap.get?_push_of_some _ q) (qa0 _) (Z9u s.heap I.big),rfl,h _ (I.hok.fresh (qa0 _))⟩
end
def Z5w:List (TE×TE)->St->Hp->(List (V×V)->Hp->Prop)->Prop
 |[],_,H,Q=>Q [] H
 |(b,tv)::r,σ,H,Q=>b σ H λ x c=>tv σ c λ y g=>Z5w r σ g λ ps H3=>Q ((x,y)::ps) H3
abbrev VV:List (V×V)->List (V1×V1)->Prop:=Paired λ p q=>RelV p.1 q.1/\RelV p.2 q.2
def PPs(X:Cx)(pos:Pos)(keys:List (Option Expr))(values:List Expr)(trs:List (TE×TE)):Prop:=
 ∀(pins:List (V0×Obj))(s:M1)(σ:St)(H:Hp)(Q:List (V×V)->Hp->Prop),Inv X pins σ H s->Z5w trs σ H Q->
  wpAny (model X.prog X.w) X.A (evalPairs (pairTrees keys values X.env pos)) (λ vs c=>∃ps b,Inv X pins σ b c/\VV ps vs/\Q ps b) X.xe s
theorem Z8m{X:Cx}{pos:Pos}:PPs X pos [] [] []:=λ pins s σ H Q I h=>pairTrees_nil_walk ⟨[],H,I,.nil,h⟩
theorem Z1s{X:Cx}{pos:Pos}{k v:Expr}{ks:List (Option Expr)}{vs:List Expr}{tk tv:TE}{b:List (TE×TE)}(g:PE X k tk)(j:PE X v tv)(hr:PPs X pos ks vs b):PPs X pos (some k::ks) (v::vs) ((tk,tv)::b):=λ pins s σ H Q I h=>
 pairTrees_cons_walk (thn (g pins s σ H _ I h) λ u m ⟨x,n,p,q,z⟩=>thn (j pins m σ n _ p z) λ M B ⟨y,C,D,G,J⟩=>thn (hr pins B σ C _ D J) λ N O ⟨ps,H3,K,c,L⟩=>⟨(x,y)::ps,H3,K,.cons ⟨q,G⟩ c,L⟩)
def Z2W(kvs more:List (Key×V)):List (Key×V):=more.foldl (λ b c=>putK b c.1 c.2) kvs
theorem KV.merge:∀{more:List (Key×V)}{rs:List (Key×V1)}{kvs:List (Key×V)}{vs:List (Key×V1)},KV more rs->KV kvs vs->KV (Z2W kvs more) (merged vs rs):=by
 intro more rs kvs vs r;unfold KV at r;induction r generalizing kvs vs with
 |nil=>intro q;exact q
 |@cons p q ps c h t b=>
  intro r0;have e:KV (putK kvs p.1 p.2) (stored vs q.1 q.2):=by
   have:=r0.put p.1 h.2;rw[<-h.1];exact this
  exact b e
theorem Z4i:∀(more kvs:List (Key×V)),(Z2W kvs more).length<=kvs.length+more.length
 |[],kvs=>by show kvs.length<=kvs.length+0;lia
 |p::r,kvs=>by
  have b:=Z4i r (putK kvs p.1 p.2);have c:=Z1h kvs p.1 p.2;show(Z2W (putK kvs p.1 p.2) r).length<=_;rw[qb2];lia
theorem Z6i{P:Program}{w:Y3}:∀{kvs:List (Key×V)}{g:List (V1×V1)},VV (kvs.map λ j=>(kV j.1,j.2)) g->∃rs,Carries (Z0M P w) g rs/\KV kvs rs
 |[],_,r=>by rw[qi7]at r;cases r;exact⟨[],True.intro,.nil⟩
 |p::kvs,_,r=>by
  rw[qb7]at r;cases r with
  |@cons a b n bs h t=>
   obtain⟨rs,c,q⟩:=Z6i (P:=P) (w:=w) t;obtain⟨x,m⟩:=b;exact⟨(p.1,m)::rs,⟨J0I h.1,rfl,c⟩,.cons ⟨rfl,h.2⟩ q⟩
def J7y(trs:List (TE×TE)):TE:=λ σ H Q=>∀p,H p=none->Z5w trs σ (upd H p (.dK [])) λ ps b=>b p=some (.dK [])/\∃kvs:List (Key×V),ps=kvs.map (λ c=>(kV c.1,c.2))/\kvs.length<=15/\Q (.ref p) (upd b p (.dK (Z2W [] kvs)))
theorem Z8S{X:Cx}{pos:Pos}{keys:List (Option Expr)}{b:List Expr}{g:List (TE×TE)}(h:PPs X pos keys b g)(j:keys.all (·.isSome)=true)(hl:keys.length=b.length)(C:keys≠[])(n:keys.length<=15):PE X (.Dict keys b pos) (J7y g):=by
 intro pins s σ H Q I q;have D:=I.hok.fresh (qa0 s.heap.objs.size);have G:=I.laid (a:=s.heap.objs.size) (o:=.dK []) (h':=s.heap.push {cls:=.type "dict",data:=.dict #[]}) (t':=s.toks) (λ _ _ q=>Heap.get?_push_of_some _ q) (qa0 _) (Z9u s.heap I.big);refine wpAny_Dict_walk (knd:=Z0M X.prog X.w) j hl C n (thn (h pins _ σ _ _ G (q _ D)) λ U Y p=>?_);obtain⟨ps,Z,B,x,e,kvs,J,lk,K⟩:=p;subst J;obtain⟨L,c,rk⟩:=Z6i (P:=X.prog) (w:=X.w) x;obtain⟨z,hd,M,r0,N⟩:=J7G B.hok e;cases r0;refine⟨L,c,N,λ h' m hs=>⟨.ref s.heap.objs.size,_,?_,rfl,K⟩⟩;have O:(Z2W [] kvs).length<=sizeLine:=by
  have R:=Z4i kvs [];rw[qg0]at R;rw[sizeLine_eq];lia
 have S:∃q,h'.get? s.heap.objs.size=some q:=let⟨q,_,_,T,_⟩:=m;⟨q,T⟩;exact Z8v B (by rw[e];exact True.intro) hs S (Z9Z O hd (rk.merge .nil) m)
section
variable{X:Cx}{pins:List (V0×Obj)}{σ:St}{H:Hp}{s:M1}{a:V0}{kvs:List (Key×V)}{A:M3}{E:V1->M1->Prop}
theorem J4p{Q:V1->M1->Prop}(I:Inv X pins σ H s)(e:Rd H a (.dK kvs))(h:∀p j,H p=none->Inv X pins σ (upd H p (.dK kvs)) j->Q (.ref p) j):wpAny (model X.prog X.w) A (call (.type "dict") [.ref a]) Q E s:=by
 obtain⟨z,hd,vs,c,n⟩:=J3I I.hok e;refine kt_call_dict hd n (by rw[<-c.length];exact z) λ x g hs=>?_;refine h _ _ (I.hok.fresh (qa0 _)) (I.laid (a:=s.heap.objs.size) (o:=.dK kvs) (t':=s.toks) (λ b q m=>?_) (qa0 _) (Z9Z z (beq_eq_false_iff_ne.mpr (Ne.symm (qb3 I.big))) c g));exact(hs.2 b (qb3 (Heap.lt_size m))).trans (Heap.get?_push_of_some _ m)
end
theorem J8k{c ty:TE}{b:St}:J3k c ty b H Q=(c b H λ x g=>ty b g λ y e=>∃a v,x=.ref a/\DGet e a y (some v)/\Q v e):=rfl
theorem J8t{c ty e:TE}{b:St}:J6S c ty e D b H=(e b H λ v h=>c b h λ x i=>ty b i λ y H3=>∃a g,x=.ref a/\DPut H3 a y v g/\D.nx b g):=rfl
theorem J8B{c ty e:TE}{rd:V->V->Hp->VK->Prop}{b:St}:J7i c ty e rd D b H=(c b H λ x i=>ty b i λ y g=>∃a v,x=.ref a/\DGet g a y (some v)/\e b g λ j H3=>rd v j H3 λ z m=>∃h,DPut m a y z h/\D.nx b h):=rfl
theorem J7Z{a:St}:J4H a H Q=(∀p,H p=none->Q (.ref p) (upd H p (.dK []))):=rfl
def clsV:V->Option V1
 | .ty n=>some (.type n)
 | .ref a=>some (.ref a)
 |_=>none
theorem J3u{c:V}{cv u:V1}(h:clsV c=some cv)(r:RelV c u):u=cv:=by
 cases c with
 |ty n=>cases h;exact r
 |ref a=>cases h;exact r
 |_=>cases h
def rIsi(K:X0):List V->Hp->VK->Prop:=λ e H Q=>∃x c a t b,e=[x,c]/\clsV c=some a/\TyOf K H x t/\W.kitOne K t a=some b/\Q (.bl b) H
section
variable{X:Cx}
theorem J3q:Z3V X (.builtin "isinstance") (rIsi X.K):=by
 intro a s o H p us Q I g h;obtain⟨x,c,r,t,b,rfl,i,ty,e,q⟩:=h;obtain⟨u,v,rfl,j,m⟩:=g.two;rw[J3u i m];exact J0S I j ty e λ n=>⟨.bl b,H,I.tok n,rfl,q⟩
end
section
variable{K:X0}
theorem Z4M{t:V1}:W.kitOne K t t=some true:=by
 unfold W.kitOne;rw[if_pos (by simp)]
theorem Z7t:W.kitOne K (.type "int") (.type "bool")=some false:=by with_unfolding_all rfl
end
structure Fn(K:X0)(mg:M2->Option V1)(x:M2)(st:Stmt):Prop where
 ex:∃f fd,Fun K x x st f fd/\mg x=some (.ref f)
structure Has(P:Program)(w:Y3)(K:X0)(mg:M2->Option V1)(base:Z3)(k:Nat)(x:M2)(ps:List M2)(sp:Sp):Prop where
 ex:∃f fd,FnOk P w K mg base CX0 k f fd ps sp/\Binds K fd ps []/\W.keepIn K (.ref f)=true/\mg x=some (.ref f)
structure Cst(mg:M2->Option V1)(x:M2)(v:V):Prop where
 ex:∃u,mg x=some u/\RelV v u
section
variable{P:Program}{w:Y3}{K:X0}{mg:M2->Option V1}{base:Z3}
theorem Z0P{h:Z3}{x:M2}{st:Stmt}{f:V0}{i:V1}{od m:Option V0}{b:Array (Option V1)}{kV g n cdv ct:V1}(X:K.In h)(G:h.Ns mainGlobals mg)(a:W.nsIn K mainGlobals x=some (some (.ref f)))(l:K.lookup f=some ⟨i,od,.func (W.fnOf x x (Z2i st) (Z1I st) (Z0g st) .none kV g n m cdv ct),b⟩)(c:W.codeIn K cdv x=true)(k:W.keepIn K (.ref f)=true):Fn K mg x st:=
 ⟨f,_,J4G l c k,W.mg_of X G a⟩
theorem J1p{h:Z3}{x:M2}{a:V0}(X:K.In h)(G:h.Ns mainGlobals mg)(e:W.nsIn K mainGlobals x=some (some (.ref a))):Cst mg x (.ref a):=⟨_,W.mg_of X G e,rfl⟩
theorem Has.of{x:M2}{st:Stmt}{N ps:List M2}{k:Nat}{sp:Sp}(F:Fn K mg x st)(S:Z0p N ps (Z0g st))(c:∀(kV b g:V1)(h:Option V0)(cdv ct:V1)(us:List V1),us.length=ps.length->bindArgs (W.fnOf x x (Z2i st) (Z1I st) (Z0g st) .none kV b g h cdv ct) ⟨us,[]⟩=pure (ps.zip us))(len:∀vs H Q E,sp vs H Q E->vs.length=ps.length)(a:∀(f:V0)(cdv:V1)(A:M3)(outer:List Env)(s:M1)(H:Hp)(vs:List V)(Q:VK)(E:XK),Room k (A.deeper (envOfC x (Z0g st) s.heap.objs.size f cdv))->sp vs H Q E->∃t,PSs (cxOf CX0 P w K mg base N x (Z0g st) f cdv A outer s H E).nox (Z1I st) t/\t {nx:=λ _ H'=>Q .non H',rt:=Q} (Z5L N vs) H):Has P w K mg base (k+1) x ps sp:=by
 obtain⟨f,i,F,m⟩:=F.ex;exact⟨f,i,F.ok S len λ cdv=>a f cdv,F.binds c,F.kp,m⟩
theorem J5l{i:V0}{k:Nat}{x:M2}{st:Stmt}{sp:Sp}(F:Fn K mg "law" st)(c:mg "law"=some (.ref i))(n:∀(kV a g:V1)(h:Option V0)(cdv ct u:V1),bindArgs (W.fnOf "law" "law" (Z2i st) (Z1I st) (Z0g st) .none kV a g h cdv ct) ⟨[u],[]⟩=pure [(x,u)])(ok:∀(f:V0)(b:FuncData)(base:Z3),Fun K "law" "law" st f b->FnOk P w K mg base CX0 k f b [x] sp):∃b:FuncData,(∀(s:M1)(u:V1),BindsTo s b ⟨[u],[]⟩ [(x,u)])/\∀base:Z3,K.In base->base.Ns mainGlobals mg->FnOk P w K mg base CX0 k i b [x] sp:=by
 obtain⟨f,b,F,m⟩:=F.ex;cases c.symm.trans m;have o:=F;obtain⟨y,z,kV,a,g,h,cdv,ct,q,rfl,A,r⟩:=F.ex;exact⟨_,λ s u=>.of_eq (n kV a g h cdv ct u),λ base _ _=>ok _ _ base o⟩
end
section
variable{X:Cx}{x:M2}{ps:List M2}{sp:Sp}{k j:Nat}{e:Expr}{es:List Expr}{t:TA}{p pos:Pos}{v:V}
theorem J6N(h:Has X.prog X.w X.K X.mg X.base k x ps sp)(hr:Room j X.A)(g:k<=j)(i:Gl X x)(n:PA X (e::es) t)(a:(x==("__debug__":M2))=false:=by decide)(o:starEach (e::es) X.env=(false,eval e X.env)::starEach es X.env:=by rfl)(c:(backTo pos (starEach es X.env)).any (·.1)=false:=by rfl):PE X (.Call (.Name x p) (e::es) [] pos) (J3p sp [] E0 t):=by
 obtain⟨f,q,F,b,kp,m⟩:=h.ex;exact J6z F (hr.mono g) i m kp b .nil J3b n a o c
theorem J4r(h:Cst X.mg x v)(a:Gl X x)(hd:(x==("__debug__":M2))=false:=by decide):PE X (.Name x pos) (tC v):=by
 obtain⟨u,m,r⟩:=h.ex;exact J5p a m r hd
def Y0n(i j:Int):Prop:=j≠0/\-(2^64)<j/\j<2^64
end
theorem Z0r{p:V0}(h:H p=none)(o:HO):Same H (upd H p o):=λ b u q=>by rw[Z0k (Z0m q h)];exact q
theorem Z1p{a:V0}{g:TG}{n:TS}{h:St}(xs:List V)(j:Nat->St->Hp->Prop)(o:j 0 h H)(hl:∀i h H,i<=xs.length->j i h H->SqL K H a xs)(hs:∀i x h H,xs[i]?=some x->j i h H->g x h H λ m p=>n {D with nx:=j (i+1),ct:=j (i+1),bk:=D.nx} m p)(hd:∀h H,j xs.length h H->D.nx h H):J1A (Itl K a) g n D h H:=
 J4e j o hl hs hd
theorem Z2L{a:V0}{g:TG}{n:TS}{h:St}(xs:List V)(j:Nat->St->Hp->Prop)(o:j 0 h H)(hl:∀i h H,i<=xs.length->j i h H->SqT K H a xs)(hs:∀i x h H,xs[i]?=some x->j i h H->g x h H λ m p=>n {D with nx:=j (i+1),ct:=j (i+1),bk:=D.nx} m p)(hd:∀h H,j xs.length h H->D.nx h H):J1A (Itt K a) g n D h H:=
 J5S j o hl hs hd
variable{xs:List V}
theorem SqL.same{a:V0}(h:SqL K H a xs)(s:Same H H'):SqL K H' a xs:=s.seq h
theorem SqT.same{a:V0}(h:SqT K H a xs)(e:Same H H'):SqT K H' a xs:=by
 rcases h with(h|⟨o,h⟩)|h
 ·exact .inl (.inl (e _ _ h))
 ·exact .inl (.inr ⟨o,e _ _ h⟩)
 ·exact .inr h
section
variable{K:X0}{H:Hp}{Q:VK}{i:Int}{b:Bool}{x:M2}
theorem Z5i{n:String}{t:V1}{k:Bool}(m:∀t',TyOf K H v t'->t'=t)(o:TyOf K H v t)(g:W.kitOne K t (.type n)=some k):rIsi K [v,.ty n] H Q=Q (.bl k) H:=by
 refine propext ⟨λ h=>?_,λ h=>⟨_,_,_,_,_,rfl,rfl,o,g,h⟩⟩;obtain⟨x,c,r,t',u,e,p,ty,j,q⟩:=h;cases e;cases p;rw[m _ ty,g]at j;cases j;exact q
theorem J5Y:rIsi K [.int i,.ty "int"] H Q=Q (.bl true) H:=Z5i (λ _ h=>by cases h;rfl) (.int i) Z4M
theorem J4Q:rIsi K [.int i,.ty "bool"] H Q=Q (.bl false) H:=Z5i (λ _ h=>by cases h;rfl) (.int i) Z7t
theorem Z7n:W.kitOne K (.type "bool") (.type "int")=some true:=by with_unfolding_all rfl
theorem J6D:rIsi K [.bl b,.ty "int"] H Q=Q (.bl true) H:=Z5i (λ _ h=>by cases h;rfl) (.bl b) Z7n
theorem J5f:rIsi K [.bl b,.ty "bool"] H Q=Q (.bl true) H:=Z5i (λ _ h=>by cases h;rfl) (.bl b) Z4M
theorem J6b:rIsi K [.str x,.ty "str"] H Q=Q (.bl true) H:=Z5i (λ _ h=>by cases h;rfl) (.str x) Z4M
theorem J5r{a:V0}(h:H a=some (.lst xs))(q:Q (.bl true) H):rIsi K [.ref a,.ty "list"] H Q:=⟨_,_,_,_,_,rfl,rfl,.lst h,Z4M,q⟩
end
theorem ix0{g:Type}{x:g}{xs:List g}:atI (x::xs) 0=some x:=by simp[atI,ixN]
theorem ix1{g:Type}{x y:g}{xs:List g}:atI (x::y::xs) 1=some y:=by
 have:((1:Int)<(xs.length:Int)+1+1):=by lia
 simp[atI,ixN,this]
theorem J9O{CX:CXT}{w:Y3}{mg:M2->Option V1}{base:Z3}{N:List M2}{qual:M2}{scope:Scope}{f:V0}{g:V1}{A:M3}{outer:List Env}{s:M1}:(cxOf CX P w K mg base N qual scope f g A outer s H E).K=K:=rfl
theorem J8b:bootBuiltins "len"=some (.builtin "len"):=by decide+kernel
theorem Z9a:bootBuiltins "max"=some (.builtin "max"):=by decide+kernel
theorem J4I:bootBuiltins "sum"=some (.builtin "sum"):=by decide+kernel
theorem J7f:bootBuiltins "all"=some (.builtin "all"):=by decide+kernel
theorem Z6L:bootBuiltins "repr"=some (.builtin "repr"):=by decide+kernel
theorem Z6n:bootBuiltins "isinstance"=some (.builtin "isinstance"):=by decide+kernel
theorem Z9V:bootBuiltins "int"=some (.type "int"):=by decide+kernel
theorem Z6I:bootBuiltins "list"=some (.type "list"):=by decide+kernel
theorem Z0X:bootBuiltins "tuple"=some (.type "tuple"):=by decide+kernel
theorem J2p:bootBuiltins "dict"=some (.type "dict"):=by decide+kernel
theorem Z5s:bootBuiltins "reversed"=some (.type "reversed"):=by decide+kernel
theorem Z1S:bootBuiltins "enumerate"=some (.type "enumerate"):=by decide+kernel
section
variable{a c:Int}{b e:Bool}{x y:M2}
theorem Y0m:scal (.non) (.non)=true:=rfl
theorem Y0h:scal (.non) (.int a)=true:=rfl
theorem Y0u:scal (.int a) (.non)=true:=rfl
theorem Y0q:scal (.non) (.bl b)=true:=rfl
theorem Y0j:scal (.bl b) (.non)=true:=rfl
theorem Y0o:scal (.non) (.str x)=true:=rfl
theorem Y0s:scal (.str x) (.non)=true:=rfl
theorem Y0i:scal (.int a) (.int c)=true:=rfl
theorem Y0p:scal (.bl b) (.bl e)=true:=rfl
theorem Y0r:scal (.str x) (.str y)=true:=rfl
theorem Y0t:scal (.int a) (.str x)=true:=rfl
theorem Y0c:scal (.str x) (.int a)=true:=rfl
theorem Y0f:scal (.bl b) (.str x)=true:=rfl
theorem Y0l:scal (.str x) (.bl b)=true:=rfl
end
def Z3G(H H':Hp):Prop:=∀b o,(∀a,o≠.lst a)->H b=some o->H' b=some o
theorem J2N{I:TE}{D:V0}{n:Nat}{y:St}(J:Option V)(rest:St)(R:Nat->V->Hp->Prop)(mono:∀j v r g,R j v r->Z3G r g->R j v g)(O:y=J::rest)(K:H D=none)(hz:n<=sizeLine)(P:∀i,i<n->∀r (L:VK),Same H r->(∀v g,Same r g->R i v g->L v g)->I (some (.int i)::rest) r L)(S:∀vs H',Same H H'->H' D=some (.lst vs)->vs.length=n->(∀j v,vs[j]?=some v->R j v H')->Q (.ref D) H'):Z3g (Itr 0 n) (Z2G 0) Z2Y I D Q y (upd H D (.lst [])):=by
 refine⟨λ i m A H'=>m=n-i/\i<=n/\(∃v,A=v::rest)/\Same H H'/\∃vs,H' D=some (.lst vs)/\vs.length=i/\∀j v,vs[j]?=some v->R j v H',⟨n,by simp,qb0 _,⟨J,O⟩,Z0r K _,[],Z0d,rfl,λ j v h=>by simp at h⟩,?_⟩;rintro i m A H' ⟨rfl,hi,⟨v,rfl⟩,C,vs,M,hl,hr⟩;by_cases q:i<n
 ·refine .inr ⟨q,λ B g=>(∃v,B=v::rest)/\Same H g/\∃vs,g D=some (.lst vs)/\vs.length=i+1/\∀j v,vs[j]?=some v->R j v g,λ B g ⟨a,b,c⟩=>⟨n-(i+1),qR,rfl,q,a,b,c⟩,λ x g T=>?_⟩;obtain⟨U,X⟩:=T;subst U X;unfold Z2G Z2Y;rw[qm2,Int.zero_add];refine iteT (P i q g _ C λ v H3 E Y=>?_);have N:=E _ _ M;have sn:Z3G H3 (upd H3 D (.lst (vs++[v]))):=λ b o Z p=>by
   rw[Z0k (λ z=>by rw[z,N]at p;cases p;exact Z _ rfl)];exact p
  refine⟨vs,N,qR,⟨_,rfl⟩,λ b o p=>?_,_,Z0d,by rw[qa2,hl];rfl,λ j u w=>?_⟩
  ·rw[Z0k (Z0m p K)];exact E _ _ (C _ _ p)
  ·by_cases G:j<vs.length
   ·rw[qg9 G]at w;exact mono j u _ _ (mono j u _ _ (hr j u w) λ b o _ p=>E b o p) sn
   ·rw[qi3 qR]at w;have ej:j-vs.length=0:=by
     have:=(qa6.mp w).1;simp at this;lia
    rw[ej]at w;cases w;have:j=i:=by lia
    subst this;exact mono _ _ _ _ Y sn
 ·have e:i=n:=by lia
  subst e;exact .inl ⟨qa0 _,S vs H' C M hl hr⟩
variable{ys:List V}
theorem Z5Q{J:It}{I:TE}{D:V0}{w:St}(K:Option V)(rest:St)(R:Nat->V->Hp->Prop)(mono:∀j v n g,R j v n->Z3G n g->R j v g)(P:w=K::rest)(L:H D=none)(hz:ys.length<=sizeLine)(S:∀i n,Same H n->i<ys.length->J.go i n)(T:∀i n x g,Same H n->J.yld i n x g->g=n/\ys[i]?=some x)(U:∀n,Same H n->J.stop ys.length n)(X:∀i y,ys[i]?=some y->∀n (M:VK),Same H n->(∀v g,Same n g->R i v g->M v g)->I (some y::rest) n M)(Y:∀vs H',Same H H'->H' D=some (.lst vs)->vs.length=ys.length->(∀j v,vs[j]?=some v->R j v H')->Q (.ref D) H'):Z3g J (Z2G 0) Z2Y I D Q w (upd H D (.lst [])):=by
 refine⟨λ i m A H'=>m=ys.length-i/\i<=ys.length/\(∃v,A=v::rest)/\Same H H'/\∃vs,H' D=some (.lst vs)/\vs.length=i/\∀j v,vs[j]?=some v->R j v H',⟨ys.length,by simp,qb0 _,⟨K,P⟩,Z0r L _,[],Z0d,rfl,λ j v h=>by simp at h⟩,?_⟩;rintro i m A H' ⟨rfl,hi,⟨v,rfl⟩,q,vs,N,hl,hr⟩;by_cases B:i<ys.length
 ·refine .inr ⟨S i H' q B,λ C g=>(∃v,C=v::rest)/\Same H g/\∃vs,g D=some (.lst vs)/\vs.length=i+1/\∀j v,vs[j]?=some v->R j v g,λ C g ⟨a,b,c⟩=>⟨ys.length-(i+1),qR,rfl,B,a,b,c⟩,λ x g Z=>?_⟩;obtain⟨e1,e2⟩:=T i H' x g q Z;subst e1;unfold Z2G Z2Y;rw[qm2];refine iteT (X i x e2 g _ q λ v H3 E hR=>?_);have O:=E _ _ N;have sn:Z3G H3 (upd H3 D (.lst (vs++[v]))):=λ b o ho p=>by
   rw[Z0k (λ z=>by rw[z,O]at p;cases p;exact ho _ rfl)];exact p
  refine⟨vs,O,qR,⟨_,rfl⟩,λ b o p=>?_,_,Z0d,by rw[qa2,hl];rfl,λ j u r=>?_⟩
  ·rw[Z0k (Z0m p L)];exact E _ _ (q _ _ p)
  ·by_cases G:j<vs.length
   ·rw[qg9 G]at r;exact mono j u _ _ (mono j u _ _ (hr j u r) λ b o _ p=>E b o p) sn
   ·rw[qi3 qR]at r;have ej:j-vs.length=0:=by
     have:=(qa6.mp r).1;simp at this;lia
    rw[ej]at r;cases r;have:j=i:=by lia
    subst this;exact mono _ _ _ _ hR sn
 ·have e:i=ys.length:=by lia
  subst e;exact .inl ⟨U _ q,Y vs H' q N hl hr⟩
theorem Z1A{a:V0}{m:TE}{D:V0}{e:St}(n:Option V)(rest:St)(R:Nat->V->Hp->Prop)(mono:∀j v b c,R j v b->Z3G b c->R j v c)(p:e=n::rest)(q:H D=none)(hz:ys.length<=sizeLine)(g:∀b,Same H b->SqT K b a ys)(r:∀i y,ys[i]?=some y->∀b (o:VK),Same H b->(∀v c,Same b c->R i v c->o v c)->m (some y::rest) b o)(u:∀vs H',Same H H'->H' D=some (.lst vs)->vs.length=ys.length->(∀j v,vs[j]?=some v->R j v H')->Q (.ref D) H'):Z3g (Itt K a) (Z2G 0) Z2Y m D Q e (upd H D (.lst [])):=
 Z5Q n rest R mono p q hz (λ i b s h=>⟨ys,ys[i],g b s,qa3 h⟩) (λ i b x c s h=>⟨h.1,h.2 ys (g b s)⟩) (λ b s=>⟨ys,g b s,qa0 _⟩) r u
theorem Z4x{a:V0}{m:TE}{D:V0}{e:St}(n:Option V)(rest:St)(R:Nat->V->Hp->Prop)(mono:∀j v b c,R j v b->Z3G b c->R j v c)(p:e=n::rest)(q:H D=none)(hz:ys.length<=sizeLine)(g:∀b,Same H b->SqL K b a ys)(r:∀i y,ys[i]?=some y->∀b (o:VK),Same H b->(∀v c,Same b c->R i v c->o v c)->m (some y::rest) b o)(u:∀vs H',Same H H'->H' D=some (.lst vs)->vs.length=ys.length->(∀j v,vs[j]?=some v->R j v H')->Q (.ref D) H'):Z3g (Itl K a) (Z2G 0) Z2Y m D Q e (upd H D (.lst [])):=
 Z5Q n rest R mono p q hz (λ i b s h=>⟨ys,ys[i],g b s,qa3 h⟩) (λ i b x c s h=>⟨h.1,h.2 ys (g b s)⟩) (λ b s=>⟨ys,g b s,qa0 _⟩) r u
def IsK(K:X0):Prop:=True
def Ob(H:Hp)(a:V0)(o:HO):Prop:=H a=some o
section
variable{K:X0}{H H' H1 H2:Hp}{a b p:V0}{o u:HO}{xs ys:List V}
theorem J9C:Ob H a o=(H a=some o):=rfl
grind_pattern J9C=>Ob H a o
theorem Ob.new:Ob (upd H p o) p o:=Z0d
grind_pattern Ob.new=>upd H p o
theorem Ob.same(h:Ob H a o)(s:Same H H'):Ob H' a o:=s _ _ h
grind_pattern Ob.same=>Ob H a o,Same H H'
theorem g_su(h:H p=none):Same H (upd H p o):=Z0r h o
grind_pattern g_su=>upd H p o
theorem g_st(h:Same H H1)(h':Same H1 H2):Same H H2:=h.trans h'
grind_pattern g_st=>Same H H1,Same H1 H2
theorem g_sT(h:SqT K H a xs)(s:Same H H'):SqT K H' a xs:=h.same s
grind_pattern g_sT=>SqT K H a xs,Same H H'
theorem g_sL(h:SqL K H a xs)(s:Same H H'):SqL K H' a xs:=h.same s
grind_pattern g_sL=>SqL K H a xs,Same H H'
theorem g_nT(k:IsK K)(h:Ob H a (.tup xs)):SqT K H a xs:=SqT.of h
grind_pattern g_nT=>IsK K,Ob H a (.tup xs)
theorem g_nL(k:IsK K)(h:Ob H a (.lst xs)):SqL K H a xs:=SqL.of h
grind_pattern g_nL=>IsK K,Ob H a (.lst xs)
end
section
variable{α:Type}{x y z u v:α}{xs:List α}
theorem ix2:atI (x::y::z::xs) 2=some z:=by
 have:((2:Int)<(xs.length:Int)+1+1+1):=by lia
 simp[atI,ixN,this]
theorem ix3:atI (x::y::z::u::xs) 3=some u:=by
 have:((3:Int)<(xs.length:Int)+1+1+1+1):=by lia
 simp[atI,ixN,this]
end
structure Z7a(K:X0)(mg:M2->Option V1)(cn:M2)(C:V0):Prop where
 mgC:mg cn=some (.ref C)
 cl:Cls K C
 mks:W.makesIn K C=true
 kp:W.keepIn K (.ref C)=true
structure MFn(K:X0)(C:V0)(m qual:M2)(st:Stmt):Prop where
 ex:∃f fd,Fun K m qual st f fd/\Meth K C m f
structure HasM(P:Program)(w:Y3)(K:X0)(mg:M2->Option V1)(base:Z3)(k:Nat)(C:V0)(m:M2)(ps:List M2)(sp:Sp):Prop where
 ex:∃f fd,FnOk P w K mg base CX0 k f fd ps sp/\Binds K fd ps []/\Meth K C m f
section
variable{P:Program}{w:Y3}{K:X0}{mg:M2->Option V1}{base:Z3}
theorem Z6c{h:Z3}{b:M2}(X:K.In h)(G:h.Ns mainGlobals mg)(a:W.nsIn K mainGlobals b=some (some (.ref C)))(c:W.plainGet K C Str.empty=true)(hd:W.hasDictIn K C=true)(g:W.plainOver K C=true)(i:W.findIn K (.ref C) "__setattr__"=some (some (.builtin "object.__setattr__")))(mk:W.makesIn K C=true)(kp:W.keepIn K (.ref C)=true):Z7a K mg b C:=⟨W.mg_of X G a,⟨c,hd,g,i⟩,mk,kp⟩
theorem Z0x{f:M2}(h:W.findIn K (.ref C) f=some none):NoAttr K C f:=h
theorem Z1r{m qual:M2}{st:Stmt}{f:V0}{h:V1}{od n:Option V0}{b:Array (Option V1)}{kV g q cdv ct:V1}(a:W.findIn K (.ref C) m=some (some (.ref f)))(i:W.isFn K (.ref f)=true)(l:K.lookup f=some ⟨h,od,.func (W.fnOf m qual (Z2i st) (Z1I st) (Z0g st) .none kV g q n cdv ct),b⟩)(c:W.codeIn K cdv qual=true)(k:W.keepIn K (.ref f)=true):MFn K C m qual st:=
 ⟨f,_,J4G l c k,⟨a,i,k⟩⟩
theorem HasM.of{m qual:M2}{st:Stmt}{N ps:List M2}{k:Nat}{sp:Sp}(F:MFn K C m qual st)(S:Z0p N ps (Z0g st))(c:∀(kV b g:V1)(h:Option V0)(cdv ct:V1)(us:List V1),us.length=ps.length->bindArgs (W.fnOf m qual (Z2i st) (Z1I st) (Z0g st) .none kV b g h cdv ct) ⟨us,[]⟩=pure (ps.zip us))(len:∀vs H Q E,sp vs H Q E->vs.length=ps.length)(a:∀(f:V0)(cdv:V1)(A:M3)(outer:List Env)(s:M1)(H:Hp)(vs:List V)(Q:VK)(E:XK),Room k (A.deeper (envOfC qual (Z0g st) s.heap.objs.size f cdv))->sp vs H Q E->∃t,PSs (cxOf CX0 P w K mg base N qual (Z0g st) f cdv A outer s H E).nox (Z1I st) t/\t {nx:=λ _ H'=>Q .non H',rt:=Q} (Z5L N vs) H):HasM P w K mg base (k+1) C m ps sp:=by
 obtain⟨f,i,F,n⟩:=F.ex;exact⟨f,i,F.ok S len λ cdv=>a f cdv,F.binds c,n⟩
end
section
variable{X:Cx}{x m:M2}{ps:List M2}{sp:Sp}{k j:Nat}{C:V0}{o e:Expr}{es:List Expr}{ta:TE}{t:TA}{p pos apos:Pos}
theorem J6n{pl:Sem Bool}(n:PE X o ta)(c:Cls X.K C)(h:HasM X.prog X.w X.K X.mg X.base k C m ps sp)(hr:Room j X.A)(q:k<=j)(r:PA X (e::es) t)(a:starEach (e::es) X.env=(false,eval e X.env)::starEach es X.env:=by rfl)(g:(backTo pos (starEach es X.env)).any (·.1)=false:=by rfl)(u:eval (.Call (.Attribute o m apos) (e::es) [] pos) X.env=(do
   let i<-eval o X.env
   standAt apos.atName
   let(f,first)<-holding [i] (getMethod i m pl)
   callWith pos f first (backTo pos (starEach (e::es) X.env)) (backToKw pos (keywordEach [] X.env))):=by rfl):PE X (.Call (.Attribute o m apos) (e::es) [] pos) (J1T C m sp [] E0 ta t):=by
 obtain⟨f,y,F,b,v⟩:=h.ex;exact J6A n c v F (hr.mono q) b .nil J3b r a g u
theorem J4c{pl:Sem Bool}(g:PE X o ta)(c:Cls X.K C)(h:HasM X.prog X.w X.K X.mg X.base k C m ps sp)(hr:Room j X.A)(i:k<=j)(n:eval (.Call (.Attribute o m apos) [] [] pos) X.env=(do
   let a<-eval o X.env
   standAt apos.atName
   let(f,first)<-holding [a] (getMethod a m pl)
   callWith pos f first (backTo pos (starEach [] X.env)) (backToKw pos (keywordEach [] X.env))):=by rfl):PE X (.Call (.Attribute o m apos) [] [] pos) (J1T C m sp [] E0 ta tNil):=by
 obtain⟨f,r,F,b,q⟩:=h.ex;exact J3c g c q F (hr.mono i) b .nil J3b n
theorem Z5e(c:Z7a X.K X.mg x C)(h:HasM X.prog X.w X.K X.mg X.base k C "__init__" ps sp)(hr:Room j X.A)(n:k+1<=j)(q:Gl X x)(r:PA X (e::es) t)(a:(x==("__debug__":M2))=false:=by decide)(u:starEach (e::es) X.env=(false,eval e X.env)::starEach es X.env:=by rfl)(g:(backTo pos (starEach es X.env)).any (·.1)=false:=by rfl):PE X (.Call (.Name x p) (e::es) [] pos) (J5h C sp [] E0 t):=by
 obtain⟨f,v,F,b,i⟩:=h.ex;exact J5C ⟨c.mks,i.at_,i.fn,c.kp⟩ F (hr.mono n) q c.mgC b .nil J3b r a u g
end
def mono(t:TE):TE:=λ c H Q=>∃a:VK,t c H a/\∀v b,a v b->Q v b
section
variable{X:Cx}{o e value:Expr}{f:M2}{pos pos' tpos:Pos}{ta tv:TE}
theorem PE.mono{t:TE}(h:PE X e t):PE X e (mono t):=λ a s b H Q I ⟨c,g,i⟩=>thn (h a s b H c I g) λ u v ⟨x,n,p,r,q⟩=>⟨x,n,p,r,i _ _ q⟩
def opt2(o:Option (Option V))(R:V->Prop):Prop:=match o with
 |some (some v)=>R v
 |_=>False
theorem J7A{R:V->Prop}:opt2 (some (some v)) R=R v:=rfl
def Z1P(i:Nat):TE:=λ a H Q=>opt2 a[i]? λ v=>Q v H
theorem J8M{i:Nat}{a:St}:Z1P i a H Q=opt2 a[i]? λ v=>Q v H:=rfl
theorem J5K{o:Option (Option V)}{R:V->Prop}(h:opt2 o R):∃v,o=some (some v)/\R v:=by
 unfold opt2 at h;split at h
 ·exact⟨_,rfl,h⟩
 ·cases h
theorem J5F{i:Nat}{x:M2}(c:X.N[i]?=some x)(g:Vis X.env.scope x)(hd:(x==("__debug__":M2))=false:=by decide)(b:(x==("__classdict__":M2))=false:=by decide):PE X (.Name x pos) (Z1P i):=
 λ a s n H Q I h=>J7X c g hd b a s n H Q I (J5K h)
theorem pvF(i:Nat){x:M2}(b:X.N[i]?=some x:=by rfl)(c:Vis X.env.scope x:=by first|exact Or.inl rfl|exact Or.inr (Or.inl rfl)|exact Or.inr (Or.inr rfl))(hd:(x==("__debug__":M2))=false:=by decide)(a:(x==("__classdict__":M2))=false:=by decide):PE X (.Name x pos) (Z1P i):=J5F b c hd a
inductive Fld(K:X0)(f:M2)(a:V0)(H:Hp)(Q:VK):Prop
 |mk(C dx:V0)(fs:List (M2×V))(h:H a=some (.ins C dx fs))(cl:Cls K C)(n:NoAttr K C f)(v:V)(l:fs.lookup f=some v)(q:Q v H)
def Z6u(K:X0)(ta:TE)(f:M2):TE:=λ b H Q=>ta b H λ x c=>∃a,x=.ref a/\Fld K f a c Q
theorem J8n{b:St}:Z6u K ta f b H Q=ta b H λ x c=>∃a,x=.ref a/\Fld K f a c Q:=rfl
theorem Z1T(i:PE X e ta)(p:attributeBase e f X.env (eval e X.env)=eval e X.env):PE X (.Attribute e f pos) (Z6u X.K ta f):=by
 intro b s r H Q I h;refine J5G p (thn (i b s r H _ I h) λ u E g=>?_);obtain⟨x,w,y,z,a,ex,g⟩:=g;obtain⟨C,G,fs,A,c,n,v,l,q⟩:=g;subst ex;cases(show u=Value.ref a from z);exact J0z y A c n l λ J K B D=>⟨v,w,B,D,q⟩
inductive SFld(K:X0)(f:M2)(a:V0)(H:Hp)(R:V0->V0->List (M2×V)->Prop):Prop
 |mk(C dx:V0)(fs:List (M2×V))(h:H a=some (.ins C dx fs))(cl:Cls K C)(n:NoAttr K C f)(l:fs.length<1000)(r:R C dx fs)
def J7n(K:X0)(ta tv:TE)(f:M2):TS:=λ D b H=>tv b H λ y g=>ta b g λ x c=>∃a,x=.ref a/\SFld K f a c λ C h fs=>D.nx b (upd c a (.ins C h (putF f y fs)))
theorem J8D{b:St}:J7n K ta tv f D b H=tv b H λ y g=>ta b g λ x c=>∃a,x=.ref a/\SFld K f a c λ C h fs=>D.nx b (upd c a (.ins C h (putF f y fs))):=rfl
theorem Z0O(p:PE X o ta)(r:PE X value tv)(hs:swapsWith value (some (.Attribute o f pos')) pos.line X.env=pure false):PS X (.Assign [.Attribute o f pos'] value pos) (J7n X.K ta tv f):=by
 intro b s g H D I h;refine plainObj_wpAny_Assign_Attribute (thn (r b s g H _ I h) λ u v ⟨y,w,z,A,q⟩=>thn (p b v g w _ z q) λ B M i=>?_) hs;obtain⟨x,N,E,G,a,ex,i⟩:=i;obtain⟨C,O,fs,J,c,n,l,K⟩:=i;subst ex;cases(show B=Value.ref a from G);exact J0P E J c n l A λ P L=>⟨g,_,L,K⟩
inductive FldC(K:X0)(f:M2)(a:V0)(H:Hp)(R:V0->V->Prop):Prop
 |mk(C dx:V0)(fs:List (M2×V))(h:H a=some (.ins C dx fs))(cl:Cls K C)(n:NoAttr K C f)(v:V)(l:fs.lookup f=some v)(q:R C v)
inductive InsC(C a:V0)(H:Hp)(R:V0->List (M2×V)->Prop):Prop
 |mk(dx:V0)(fs:List (M2×V))(h:H a=some (.ins C dx fs))(l:fs.length<1000)(r:R dx fs)
inductive Z8h(C:V0)(m:M2)(a:V0)(H:Hp)(R:Prop):Prop
 |mk(dx:V0)(fs:List (M2×V))(h:H a=some (.ins C dx fs))(l:fs.lookup m=none)(r:R)
def J1J(C:V0)(m:M2)(sp:Sp)(dvs:List V)(E:XK)(ta:TE)(t:TA):TE:=λ b H Q=>ta b H λ x c=>∃a,x=.ref a/\Z8h C m a c (t b c λ vs g=>sp (x::(vs++dvs)) g Q E)
theorem J7U{C:V0}{m:M2}{sp:Sp}{b:List V}{t:TA}{c:St}:J1J C m sp b E ta t c H Q=ta c H λ x g=>∃a,x=.ref a/\Z8h C m a g (t c g λ vs h=>sp (x::(vs++b)) h Q E):=rfl
variable{C:V0}{m:M2}{ps:List M2}{sp:Sp}{k j:Nat}{es:List Expr}{t:TA}{apos:Pos}
theorem Z0D{pl:Sem Bool}(p:PE X o ta)(c:Cls X.K C)(h:HasM X.prog X.w X.K X.mg X.base k C m ps sp)(hr:Room j X.A)(q:k<=j)(u:PA X (e::es) t)(g:starEach (e::es) X.env=(false,eval e X.env)::starEach es X.env:=by rfl)(i:(backTo pos (starEach es X.env)).any (·.1)=false:=by rfl)(v:eval (.Call (.Attribute o m apos) (e::es) [] pos) X.env=(do
   let n<-eval o X.env
   standAt apos.atName
   let(f,first)<-holding [n] (getMethod n m pl)
   callWith pos f first (backTo pos (starEach (e::es) X.env)) (backToKw pos (keywordEach [] X.env))):=by rfl):PE X (.Call (.Attribute o m apos) (e::es) [] pos) (J1J C m sp [] E0 ta t):=
 λ b s w H Q I x=>J6n p.mono c h hr q u g i v b s w H Q I ⟨_,x,λ _ _ ⟨a,e,y,fs,h,l,r⟩=>⟨a,y,fs,e,h,l,r⟩⟩
theorem Z1a{pl:Sem Bool}(i:PE X o ta)(c:Cls X.K C)(h:HasM X.prog X.w X.K X.mg X.base k C m ps sp)(hr:Room j X.A)(n:k<=j)(p:eval (.Call (.Attribute o m apos) [] [] pos) X.env=(do
   let g<-eval o X.env
   standAt apos.atName
   let(f,first)<-holding [g] (getMethod g m pl)
   callWith pos f first (backTo pos (starEach [] X.env)) (backToKw pos (keywordEach [] X.env))):=by rfl):PE X (.Call (.Attribute o m apos) [] [] pos) (J1J C m sp [] E0 ta tNil):=
 λ b s q H Q I u=>J4c i.mono c h hr n p b s q H Q I ⟨_,u,λ _ _ ⟨a,e,v,fs,h,l,r⟩=>⟨a,v,fs,e,h,l,r⟩⟩
inductive IxT(K:X0)(p:V0)(i:Int)(H:Hp)(Q:VK):Prop
 |mk(xs:List V)(h:SqT K H p xs)(v:V)(l:atI xs i=some v)(q:Q v H)
inductive IxL(K:X0)(p:V0)(i:Int)(H:Hp)(Q:VK):Prop
 |mk(xs:List V)(h:SqL K H p xs)(v:V)(l:atI xs i=some v)(q:Q v H)
def Z5a(K:X0):R2:=λ x y H Q=>∃p,x=.ref p/\∃i,y=.int i/\IxT K p i H Q
def J3n(K:X0):R2:=λ x y H Q=>∃p,x=.ref p/\∃i,y=.int i/\IxL K p i H Q
theorem J8f{y:V}:Z5a K x y H Q=∃p,x=.ref p/\∃i,y=.int i/\IxT K p i H Q:=rfl
theorem J8C{y:V}:J3n K x y H Q=∃p,x=.ref p/\∃i,y=.int i/\IxL K p i H Q:=rfl
theorem J1g:IxR X (Z5a X.K):=λ value a b s c H x y v u Q I g n ⟨p,r,i,w,A,h,z,l,q⟩ hs=>J7g value a b s c H x y v u Q I g n ⟨p,A,i,z,r,w,h,l,q⟩ hs
theorem J3f:IxR X (J3n X.K):=λ value a b s c H x y v u Q I g n ⟨p,r,i,w,A,h,z,l,q⟩ hs=>J5V value a b s c H x y v u Q I g n ⟨p,A,i,z,r,w,h,l,q⟩ hs
inductive SetL(p:V0)(k:Int)(H:Hp)(R:List V->Nat->Prop):Prop
 |mk(xs:List V)(h:H p=some (.lst xs))(j:Nat)(l:ixN xs.length k=some j)(r:R xs j)
inductive HdOf(vs:List V)(R:V->List V->Prop):Prop
 |mk(v:V)(r:List V)(e:vs=v::r)(q:R v r)
inductive J5Z(K:X0)(a:V0)(n:Nat)(H:Hp)(R:List V->Prop):Prop
 |mk(xs:List V)(h:SqT K H a xs)(l:xs.length=n)(q:R xs)
def Z5C(K:X0)(n:Nat)(t:TGs):TG:=λ v b H Q=>∃a,v=.ref a/\J5Z K a n H λ c=>t c b H Q
theorem J8G{n:Nat}{t:TGs}{b:St}{Q:St->Hp->Prop}:Z5C K n t v b H Q=∃a,v=.ref a/\J5Z K a n H λ xs=>t xs b H Q:=rfl
def Z5W(t:TG)(u:TGs):TGs:=λ vs b H Q=>HdOf vs λ v r=>t v b H λ a c=>u r a c Q
theorem J7l{t:TG}{u:TGs}{b:St}{Q:St->Hp->Prop}:Z5W t u vs b H Q=HdOf vs λ v r=>t v b H λ a H'=>u r a H' Q:=rfl
theorem Z0e{e:Expr}{es:List Expr}{t:TG}{u:TGs}(b:PG X e t)(h2:PGs X es u)(hs:(assignEach (e::es) X.env).map (·.2)=assign e X.env::(assignEach es X.env).map (·.2):=by rfl):PGs X (e::es) (Z5W t u):=
 λ a s c H vs us Q I r ⟨v,w,e,q⟩=>J4f b h2 hs a s c H vs us Q I r ⟨v,w,e,q⟩
theorem Z0v{es:List Expr}{k:Nat}{t:TGs}{n:Nat}(g:X.calm=true)(h:PGs X es t)(i:(assignEach es X.env).length=n:=by rfl)(c:(assignEach es X.env).findIdx? (·.1)=none:=by rfl):PG X (.Tuple es k pos) (Z5C X.K n t):=
 λ b s p H v u Q I r ⟨a,e,w,x,l,q⟩=>J7m g h i c b s p H v u Q I r ⟨a,w,e,x,l,q⟩
end
@[elab_as_elim] theorem el0 {α:Type} {motive:List α->Prop} (us:List α) (h:us.length=0) (k:motive []):motive us:=match us,h with|[],_=>k
@[elab_as_elim] theorem el1 {α:Type} {motive:List α->Prop} (us:List α) (h:us.length=1) (k:∀a:α,motive [a]):motive us:=match us,h with|[a],_=>k a
@[elab_as_elim] theorem el2 {α:Type} {motive:List α->Prop} (us:List α) (h:us.length=2) (k:∀a b:α,motive [a,b]):motive us:=match us,h with|[a,b],_=>k a b
@[elab_as_elim] theorem el3 {α:Type} {motive:List α->Prop} (us:List α) (h:us.length=3) (k:∀a b c:α,motive [a,b,c]):motive us:=match us,h with|[a,b,c],_=>k a b c
@[elab_as_elim] theorem el4 {α:Type} {motive:List α->Prop} (us:List α) (h:us.length=4) (k:∀a b c d:α,motive [a,b,c,d]):motive us:=match us,h with|[a,b,c,d],_=>k a b c d
@[elab_as_elim] theorem el5 {α:Type} {motive:List α->Prop} (us:List α) (h:us.length=5) (k:∀a b c d e:α,motive [a,b,c,d,e]):motive us:=match us,h with|[a,b,c,d,e],_=>k a b c d e
@[elab_as_elim] theorem el6 {α:Type} {motive:List α->Prop} (us:List α) (h:us.length=6) (k:∀a b c d e f:α,motive [a,b,c,d,e,f]):motive us:=match us,h with|[a,b,c,d,e,f],_=>k a b c d e f
@[elab_as_elim] theorem el7 {α:Type} {motive:List α->Prop} (us:List α) (h:us.length=7) (k:∀a b c d e f g:α,motive [a,b,c,d,e,f,g]):motive us:=match us,h with|[a,b,c,d,e,f,g],_=>k a b c d e f g
theorem seq2{a b:TS}{c:St}(h:∀g,g=b->a {D with nx:=g D} c H):(tSeq a b) D c H:=h _ rfl
theorem seq3{a b:TS}{g:St}(h:∀i,i=c->∀n,n=tSeq b i->a {D with nx:=n D} g H):(tSeq a (tSeq b c)) D g H:=h _ rfl _ rfl
theorem seq4{a b g:TS}{i:St}(h:∀n,n=g->∀p,p=tSeq c n->∀q,q=tSeq b p->a {D with nx:=q D} i H):(tSeq a (tSeq b (tSeq c g))) D i H:=h _ rfl _ rfl _ rfl
theorem seq5{a b g i:TS}{n:St}(h:∀p,p=i->∀q,q=tSeq g p->∀r,r=tSeq c q->∀u,u=tSeq b r->a {D with nx:=u D} n H):(tSeq a (tSeq b (tSeq c (tSeq g i)))) D n H:=h _ rfl _ rfl _ rfl _ rfl
theorem seq6{a b g i n:TS}{p:St}(h:∀q,q=n->∀r,r=tSeq i q->∀u,u=tSeq g r->∀v,v=tSeq c u->∀w,w=tSeq b v->a {D with nx:=w D} p H):(tSeq a (tSeq b (tSeq c (tSeq g (tSeq i n))))) D p H:=h _ rfl _ rfl _ rfl _ rfl _ rfl
theorem seq7{a b g i n p:TS}{q:St}(h:∀r,r=p->∀u,u=tSeq n r->∀v,v=tSeq i u->∀w,w=tSeq g v->∀x,x=tSeq c w->∀y,y=tSeq b x->a {D with nx:=y D} q H):(tSeq a (tSeq b (tSeq c (tSeq g (tSeq i (tSeq n p)))))) D q H:=h _ rfl _ rfl _ rfl _ rfl _ rfl _ rfl
theorem seq8{a b g i n p q:TS}{r:St}(h:∀u,u=q->∀v,v=tSeq p u->∀w,w=tSeq n v->∀x,x=tSeq i w->∀y,y=tSeq g x->∀z,z=tSeq c y->∀A,A=tSeq b z->a {D with nx:=A D} r H):(tSeq a (tSeq b (tSeq c (tSeq g (tSeq i (tSeq n (tSeq p q))))))) D r H:=h _ rfl _ rfl _ rfl _ rfl _ rfl _ rfl _ rfl
theorem seq9{a b g i n p q r:TS}{u:St}(h:∀v,v=r->∀w,w=tSeq q v->∀x,x=tSeq p w->∀y,y=tSeq n x->∀z,z=tSeq i y->∀A,A=tSeq g z->∀B,B=tSeq c A->∀E,E=tSeq b B->a {D with nx:=E D} u H):(tSeq a (tSeq b (tSeq c (tSeq g (tSeq i (tSeq n (tSeq p (tSeq q r)))))))) D u H:=h _ rfl _ rfl _ rfl _ rfl _ rfl _ rfl _ rfl _ rfl
theorem J9l{b g i n p q r u a:TS}{v:St}(h:∀w,w=a->∀x,x=tSeq u w->∀y,y=tSeq r x->∀z,z=tSeq q y->∀A,A=tSeq p z->∀B,B=tSeq n A->∀E,E=tSeq i B->∀G,G=tSeq g E->∀I,I=tSeq c G->b {D with nx:=I D} v H):(tSeq b (tSeq c (tSeq g (tSeq i (tSeq n (tSeq p (tSeq q (tSeq r (tSeq u a))))))))) D v H:=h _ rfl _ rfl _ rfl _ rfl _ rfl _ rfl _ rfl _ rfl _ rfl
theorem J9o{n p q r u v w x y a b:TS}{z:St}(h:∀g,g=c->∀i,i=tSeq b g->∀A,A=tSeq a i->∀B,B=tSeq y A->∀E,E=tSeq x B->∀G,G=tSeq w E->∀I,I=tSeq v G->∀J,J=tSeq u I->∀K,K=tSeq r J->∀L,L=tSeq q K->∀M,M=tSeq p L->n {D with nx:=M D} z H):(tSeq n (tSeq p (tSeq q (tSeq r (tSeq u (tSeq v (tSeq w (tSeq x (tSeq y (tSeq a (tSeq b c))))))))))) D z H:=h _ rfl _ rfl _ rfl _ rfl _ rfl _ rfl _ rfl _ rfl _ rfl _ rfl _ rfl
def New(H:Hp)(o:HO)(R:V0->Hp->Prop):Prop:=∀p,H p=none->R p (upd H p o)
theorem New.of{o:HO}{R:V0->Hp->Prop}(h:∀p H',H p=none->Same H H'->H' p=some o->R p H'):New H o R:=λ p a=>h p _ a (Z0r a o) Z0d
theorem J9d{t:TA}{a:St}:tTup t a H Q=(t a H λ xs b=>xs.length<=sizeLine/\New b (.tup xs) λ p c=>Q (.ref p) c):=rfl
theorem J9B{t:TA}{a:St}:tLst t a H Q=(t a H λ xs b=>xs.length<=sizeLine/\New b (.lst xs) λ p c=>Q (.ref p) c):=rfl
theorem J8O{b:Option Int}{c:Option Int}:rSlL K x b c H Q=(∃a xs,x=.ref a/\SqL K H a xs/\New H (.lst (cutV xs b c)) λ p g=>Q (.ref p) g):=rfl
theorem J8Y{y:V}:rCat x y H Q=(∃l b xs a,x=.ref l/\y=.ref b/\H l=some (.lst xs)/\H b=some (.lst a)/\xs.length+a.length<=sizeLine/\New H (.lst (xs++a)) λ p c=>Q (.ref p) c):=rfl
theorem qA(K)(i:Nat){x:M2}(hN:X.N[i]?=some x:=by rfl)(hv:Vis X.env.scope x:=by first|exact Or.inl rfl|exact Or.inr (Or.inl rfl)|exact Or.inr (Or.inr rfl))(hd:(x==("__debug__":M2))=false:=by decide)(hc:(x==("__classdict__":M2))=false:=by decide)(h:IxR X (Z5a K):=by exact J1g):PE X (.Subscript (.Name x p) (.Constant (.int j) l p2) p3) (tOp (Z5a K) (Z1P i) (tC (.int j))):=J0x h (pvF i hN hv hd hc) Z0f (λ _ _=>rfl)
theorem qB{k:Nat}(hr:Room k X.A)(i:Nat){x:M2}(hN:X.N[i]?=some x:=by rfl)(hv:Vis X.env.scope x:=by first|exact Or.inl rfl|exact Or.inr (Or.inl rfl)|exact Or.inr (Or.inr rfl))(hd:(x==("__debug__":M2))=false:=by decide)(hc:(x==("__classdict__":M2))=false:=by decide):PE X (.Subscript (.Name x p) (.Constant (.str y) l p2) p3) (J3k (Z1P i) (tC (.str y))):=J1V (Z2F hr) (pvF i hN hv hd hc) Z0b (λ _ _=>rfl)
theorem qC(K)(ha:PE X a ta)(hb:PE X b tb)(h:IxR X (Z5a K):=by exact J1g)(hs:Z8H b:=by exact λ _ _=>rfl):PE X (.Subscript a b pos) (tOp (Z5a K) ta tb):=J0x h ha hb hs
theorem qD(K)(ha:PE X a ta)(hb:PE X b tb)(h:IxR X (J3n K):=by exact J3f)(hs:Z8H b:=by exact λ _ _=>rfl):PE X (.Subscript a b pos) (tOp (J3n K) ta tb):=J0x h ha hb hs
theorem qE{k:Nat}(hr:Room k X.A)(ho:PE X o td)(hi:PE X i ty)(hs:NoSl i:=by exact λ _ _=>rfl):PE X (.Subscript o i pos) (J3k td ty):=J1V (Z2F hr) ho hi hs
theorem qF{x:M2}(h:Has X.prog X.w X.K X.mg X.base k x ps sp)(hr:Room j X.A)(ha:PA X (e::es) t)(hk:k<=j:=by first|decide|lia)(hg:Gl X x:=by exact rfl)(hd:(x==("__debug__":M2))=false:=by decide)(he:starEach (e::es) X.env=(false,eval e X.env)::starEach es X.env:=by rfl)(hl:(backTo pos (starEach es X.env)).any (·.1)=false:=by rfl):PE X (.Call (.Name x p) (e::es) [] pos) (J3p sp [] E0 t):=J6N h hr hk hg ha hd he hl
theorem qG(i:Nat){x:M2}{e:Expr}{te:TE}{pos':Pos}(hN:X.N.Nodup)(he:PE X e te)(hi:X.N[i]?=some x:=by exact rfl)(hx:Loc X.env.scope x:=by exact Or.inl rfl)(hs:swapsWith e (some (.Name x pos')) pos.line X.env=pure false:=by rfl)(hf:X.fn x=true\/X.env.scope.names.lookup x=some .local:=by first|exact .inl rfl|exact .inr rfl|assumption):PS X (.Assign [.Name x pos'] e pos) (tAsg te (Z2G i)):=J1N hN hi hx he hs hf
theorem qH(i:Nat){x:M2}(hN:X.N.Nodup)(hi:X.N[i]?=some x:=by exact rfl)(hx:Loc X.env.scope x:=by exact Or.inl rfl)(hf:X.fn x=true\/X.env.scope.names.lookup x=some .local:=by first|exact .inl rfl|exact .inr rfl|assumption):PG X (.Name x pos) (Z2G i):=Z4u hN hi hx hf
theorem qI(a:PE X e te)(h:starEach [e] X.env=(false,eval e X.env)::starEach [] X.env:=by rfl):PA X [e] (Z3O te tNil):=Z0q a Z0R h
theorem qJ(a:PE X e te)(b:PE X f tf)(h:starEach [e,f] X.env=(false,eval e X.env)::starEach [f] X.env:=by rfl)(h2:starEach [f] X.env=(false,eval f X.env)::starEach [] X.env:=by rfl):PA X [e,f] (Z3O te (Z3O tf tNil)):=Z0q a (qI b h2) h
theorem qK(a:PE X e te)(b:PE X f tf)(c:PE X g tg)(h:starEach [e,f,g] X.env=(false,eval e X.env)::starEach [f,g] X.env:=by rfl)(h2:starEach [f,g] X.env=(false,eval f X.env)::starEach [g] X.env:=by rfl)(h3:starEach [g] X.env=(false,eval g X.env)::starEach [] X.env:=by rfl):PA X [e,f,g] (Z3O te (Z3O tf (Z3O tg tNil))):=Z0q a (qJ b c h2 h3) h
theorem qL(hm:X.mg "len"=none)(ha:PA X (e::es) t)(hg:Gl X "len":=by exact rfl)(he:starEach (e::es) X.env=(false,eval e X.env)::starEach es X.env:=by rfl)(hl:(backTo pos (starEach es X.env)).any (·.1)=false:=by rfl):PE X (.Call (.Name "len" p) (e::es) [] pos) (tCB (λ xs H Q=>∃p ys,xs=[.ref p]/\(SqL X.K H p ys\/SqT X.K H p ys)/\Q (.int ys.length) H) t):=Z1t Z7I hg hm J8b ha (G:=he) (j:=hl)
theorem qM{op:CmpOp}{r:R2}(ho:OpR X (compareOp op) r)(ha:PE X a ta)(hb:PE X b tb)(h:op≠.In:=by decide)(h2:op≠.NotIn:=by decide):PT X (.Compare a [op] [b] pos) (Z6R (tOp r ta tb)):=Z0Y ho ha hb (Z1R _ h h2)
theorem qO(i:Nat){x f:M2}(hN:X.N[i]?=some x:=by rfl)(hv:Vis X.env.scope x:=by first|exact Or.inl rfl|exact Or.inr (Or.inl rfl)|exact Or.inr (Or.inr rfl))(hd:(x==("__debug__":M2))=false:=by decide)(hc:(x==("__classdict__":M2))=false:=by decide)(hb:attributeBase (.Name x p) f X.env (eval (.Name x p) X.env)=eval (.Name x p) X.env:=by exact rfl):PE X (.Attribute (.Name x p) f pos) (Z6u X.K (Z1P i) f):=Z1T (pvF i hN hv hd hc) hb
end L2
end
section
namespace TM
open PySem L2 P15
structure Kp(H H':Hp):Prop where
 t:∀b xs,H b=some (.tup xs)->H' b=some (.tup xs)
 z:∀b o xs,H b=some (.frz o (.tup xs))->H' b=some (.frz o (.tup xs))
 i:∀b C dx f fs,H b=some (.ins C dx (f::fs))->H' b=some (.ins C dx (f::fs))
variable{H' H:Hp}
theorem Kp.trans{H'':Hp}(a:Kp H H')(b:Kp H' H''):Kp H H'':=⟨λ _ _ h=>b.t _ _ (a.t _ _ h),λ _ _ _ h=>b.z _ _ _ (a.z _ _ _ h),λ _ _ _ _ _ h=>b.i _ _ _ _ _ (a.i _ _ _ _ _ h)⟩
theorem Kp.of(s:Same H H'):Kp H H':=⟨λ _ _ h=>s _ _ h,λ _ _ _ h=>s _ _ h,λ _ _ _ _ _ h=>s _ _ h⟩
variable{a:V0}
theorem Kp.put{u:HO}(o:HO)(h:H a=some u)(g:∀xs,u≠.tup xs)(i:∀o xs,u≠.frz o (.tup xs))(j:∀C c f fs,u≠.ins C c (f::fs)):Kp H (upd H a o):=by
 refine⟨λ b xs e=>?_,λ b o xs e=>?_,λ b C c f fs e=>?_⟩
 ·rw[Z0k (λ z=>by rw[z,h]at e;cases e;exact g _ rfl)];exact e
 ·rw[Z0k (λ z=>by rw[z,h]at e;cases e;exact i _ _ rfl)];exact e
 ·rw[Z0k (λ z=>by rw[z,h]at e;cases e;exact j _ _ _ _ rfl)];exact e
theorem Kp.lst{H:Hp}{a:V0}{xs:List V}(o:HO)(h:H a=some (.lst xs)):Kp H (upd H a o):=Kp.put o h (λ _ z=>by cases z) (λ _ _ z=>by cases z) (λ _ _ _ _ z=>by cases z)
structure Kt(H H':Hp):Prop where
 t:∀b xs,H b=some (.tup xs)->H' b=some (.tup xs)
 z:∀b o xs,H b=some (.frz o (.tup xs))->H' b=some (.frz o (.tup xs))
theorem Kp.kt(k:Kp H H'):Kt H H':=⟨k.t,k.z⟩
theorem Kt.put{u:HO}(o:HO)(h:H a=some u)(c:∀xs,u≠.tup xs)(g:∀o xs,u≠.frz o (.tup xs)):Kt H (upd H a o):=by
 refine⟨λ b xs e=>?_,λ b o xs e=>?_⟩
 ·rw[Z0k (λ z=>by rw[z,h]at e;cases e;exact c _ rfl)];exact e
 ·rw[Z0k (λ z=>by rw[z,h]at e;cases e;exact g _ _ rfl)];exact e
variable{K:X0}{xs:List V}
theorem SqT.kt(h:SqT K H a xs)(k:Kt H H'):SqT K H' a xs:=by
 rcases h with(h|⟨o,h⟩)|h
 ·exact .inl (.inl (k.t _ _ h))
 ·exact .inl (.inr ⟨o,k.z _ _ _ h⟩)
 ·exact .inr h
theorem SqT.kp(h:SqT K H a xs)(k:Kp H H'):SqT K H' a xs:=SqT.kt h k.kt
mutual
inductive RT(K:X0)(H:Hp):V->PyData->Prop
 |non:RT K H .non .none
 |bl(b:Bool):RT K H (.bl b) (.bool b)
 |int(i:Int):RT K H (.int i) (.int i)
 |str(x:M2):RT K H (.str x) (.str x)
 |tup{a:V0}{xs:List V}{ds:List PyData}:SqT K H a xs->RTs K H xs ds->RT K H (.ref a) (.tuple ds)
inductive RTs(K:X0)(H:Hp):List V->List PyData->Prop
 |nil:RTs K H [] []
 |cons{v:V}{vs:List V}{d:PyData}{ds:List PyData}:RT K H v d->RTs K H vs ds->RTs K H (v::vs) (d::ds)
end
section
variable{K:X0}{H H':Hp}
mutual
theorem RT.rd:∀{v:V}{d:PyData},RT K H v d->RdD K H v d
 |_,_,.non=>.non
 |_,_,.bl b=>.bl b
 |_,_,.int i=>.int i
 |_,_,.str x=>.str x
 |_,_,.tup a hs=>.tup a (RTs.rd hs)
theorem RTs.rd:∀{vs:List V}{a:List PyData},RTs K H vs a->RdDs K H vs a
 |_,_,.nil=>.nil
 |_,_,.cons h hs=>.cons (RT.rd h) (RTs.rd hs)
end
mutual
theorem RT.kt(k:Kt H H'):∀{v:V}{d:PyData},RT K H v d->RT K H' v d
 |_,_,.non=>.non
 |_,_,.bl b=>.bl b
 |_,_,.int i=>.int i
 |_,_,.str x=>.str x
 |_,_,.tup a hs=>.tup (SqT.kt a k) (RTs.kt k hs)
theorem RTs.kt(k:Kt H H'):∀{vs:List V}{a:List PyData},RTs K H vs a->RTs K H' vs a
 |_,_,.nil=>.nil
 |_,_,.cons h hs=>.cons (RT.kt k h) (RTs.kt k hs)
end
theorem RT.kp{v:V}{d:PyData}(k:Kp H H')(h:RT K H v d):RT K H' v d:=h.kt k.kt
theorem RTs.kp{vs:List V}{ds:List PyData}(k:Kp H H')(h:RTs K H vs ds):RTs K H' vs ds:=h.kt k.kt
theorem RT.same{v:V}{d:PyData}(h:RT K H v d)(s:Same H H'):RT K H' v d:=h.kp (Kp.of s)
theorem RTs.same{vs:List V}{ds:List PyData}(h:RTs K H vs ds)(s:Same H H'):RTs K H' vs ds:=h.kp (Kp.of s)
theorem RT.str_inv{v:V}{x:M2}(h:RT K H v (.str x)):v=.str x:=by cases h;rfl
theorem RT.tup_inv{v:V}{ds:List PyData}(h:RT K H v (.tuple ds)):∃a xs,v=.ref a/\SqT K H a xs/\RTs K H xs ds:=by
 cases h with
 |tup a b=>exact⟨_,_,rfl,a,b⟩
theorem RTs.inv{vs:List V}{d:PyData}{ds:List PyData}(h:RTs K H vs (d::ds)):∃v r,vs=v::r/\RT K H v d/\RTs K H r ds:=by
 cases h with
 |cons a b=>exact⟨_,_,rfl,a,b⟩
theorem RTs.nil_inv{vs:List V}(h:RTs K H vs []):vs=[]:=by cases h;rfl
theorem RTs.length:∀{vs:List V}{a:List PyData},RTs K H vs a->vs.length=a.length
 |_,_,.nil=>rfl
 |_,_,.cons _ hs=>congrArg (·+1) (RTs.length hs)
theorem RTs.app:∀{xs ys:List V}{c es:List PyData},RTs K H xs c->RTs K H ys es->RTs K H (xs++ys) (c++es)
 |_,_,_,_,.nil,h=>h
 |_,_,_,_,.cons a b,h=>.cons a (RTs.app b h)
theorem RTs.at:∀{vs:List V}{c:List PyData}{i:Nat}{v:V},RTs K H vs c->vs[i]?=some v->∃d,c[i]?=some d/\RT K H v d
 |_,_,0,_,.cons a _,h=>by cases h;exact⟨_,rfl,a⟩
 |_,_,i+1,_,.cons _ b,h=>by have:=RTs.at (i:=i) b h;exact this
end
noncomputable def lbV:Lb->V
 | .non=>.non| .int i=>.int i| .bl b=>.bl b| .str x=>.str x
theorem J4b:∀l:Lb,RT K H (lbV l) l.d
 | .non=>.non| .int i=>.int i| .bl b=>.bl b| .str x=>.str x
theorem J5a{v:V}:∀{l:Lb},RT K H v l.d->v=lbV l
 | .non,h=>by cases h;rfl
 | .int i,h=>by cases h;rfl
 | .bl b,h=>by cases h;rfl
 | .str x,h=>by cases h;rfl
theorem Z0L:∀ts:List Tm,(dats ts).length=ts.length
 |[]=>rfl
 |_::ts=>congrArg (·+1) (Z0L ts)
theorem Z4k:∀xs ys:List Tm,dats (xs++ys)=dats xs++dats ys
 |[],_=>rfl
 |x::xs,ys=>congrArg (x.dat::·) (Z4k xs ys)
theorem J1G:∀{ts:List Tm}{i:Nat}{d:PyData},(dats ts)[i]?=some d->∃t,ts[i]?=some t/\d=t.dat
 |t::ts,0,d,h=>by cases h;exact⟨t,rfl,rfl⟩
 |t::ts,i+1,d,h=>by have:=J1G (ts:=ts) (i:=i) h;exact this
noncomputable def fsT(f:Fm)(l:Lb)(inn sh:V0)(d m:Nat):List (M2×V):=[("form",.str f.s),("label",lbV l),("inner",.ref inn),("deep",.int d),("many",.int m),("shape",.ref sh)]
mutual
inductive TO(K:X0)(C:V0)(H:Hp):V->Tm->Prop
 |mk{a dx inn sh:V0}{f:Fm}{l:Lb}{ps:List Tm}{vs ws:List V}:H a=some (.ins C dx (fsT f l inn sh (1+maxD ps) (1+sumS ps)))->SqT K H inn vs->TOs K C H vs ps->SqT K H sh ws->RTs K H ws (Z0K f l (dats ps))->TO K C H (.ref a) (.mk f l ps)
inductive TOs(K:X0)(C:V0)(H:Hp):List V->List Tm->Prop
 |nil:TOs K C H [] []
 |cons{v:V}{vs:List V}{t:Tm}{ts:List Tm}:TO K C H v t->TOs K C H vs ts->TOs K C H (v::vs) (t::ts)
end
section
variable{K:X0}{C:V0}{H H':Hp}
mutual
theorem TO.kp(k:Kp H H'):∀{v:V}{t:Tm},TO K C H v t->TO K C H' v t
 |_,_,.mk a b c d e=>.mk (k.i _ _ _ _ _ a) (SqT.kp b k) (TOs.kp k c) (SqT.kp d k) (e.kp k)
theorem TOs.kp(k:Kp H H'):∀{vs:List V}{ts:List Tm},TOs K C H vs ts->TOs K C H' vs ts
 |_,_,.nil=>.nil
 |_,_,.cons h hs=>.cons (TO.kp k h) (TOs.kp k hs)
end
theorem TO.inv{v:V}{t:Tm}(h:TO K C H v t):∃a m g i vs j,v=.ref a/\H a=some (.ins C m (fsT t.f t.l g i t.depth t.size))/\SqT K H g vs/\TOs K C H vs t.ps/\SqT K H i j/\RTs K H j (Z0K t.f t.l (dats t.ps)):=by
 cases h with
 |mk a b c d e=>exact⟨_,_,_,_,_,_,rfl,a,b,c,d,e⟩
theorem TOs.length:∀{vs:List V}{ts:List Tm},TOs K C H vs ts->vs.length=ts.length
 |_,_,.nil=>rfl
 |_,_,.cons _ hs=>congrArg (·+1) (TOs.length hs)
theorem TOs.app:∀{xs ys:List V}{ts us:List Tm},TOs K C H xs ts->TOs K C H ys us->TOs K C H (xs++ys) (ts++us)
 |_,_,_,_,.nil,h=>h
 |_,_,_,_,.cons a b,h=>.cons a (TOs.app b h)
theorem TOs.split:∀{ts us:List Tm}{vs:List V},TOs K C H vs (ts++us)->∃xs ys,vs=xs++ys/\TOs K C H xs ts/\TOs K C H ys us
 |[],us,vs,h=>⟨[],vs,rfl,.nil,h⟩
 |t::ts,us,_,.cons a b=>by
  obtain⟨xs,ys,rfl,c,e⟩:=TOs.split b;exact⟨_::xs,ys,rfl,.cons a c,e⟩
theorem TOs.at:∀{vs:List V}{ts:List Tm}{i:Nat}{v:V},TOs K C H vs ts->vs[i]?=some v->∃t,ts[i]?=some t/\TO K C H v t
 |_,_,0,_,.cons a _,h=>by cases h;exact⟨_,rfl,a⟩
 |_,_,i+1,_,.cons _ b,h=>by have:=TOs.at (i:=i) b h;exact this
end
def SX(x:V0)(H H':Hp):Prop:=∀b o,b≠x->H b=some o->H' b=some o
theorem nq{b:V0}{x y:Option HO}(h:H a=x)(q:H b=y)(n:x≠y:=by(intro z;cases z)):b≠a:=λ z=>n (by rw[<-h,<-q,z])
variable{x:V0}
theorem SX.ktd{o:List (Key×V)}(s:SX x H H')(h:H x=some (.dK o)):Kt H H':=⟨λ b a q=>s _ _ (nq h q) q,λ b o a q=>s _ _ (nq h q) q⟩
theorem SX.of(s:Same H H'):SX x H H':=λ b o _ h=>s b o h
theorem SX.trans{H'':Hp}(a:SX x H H')(b:SX x H' H''):SX x H H'':=λ c o n h=>b c o n (a c o n h)
theorem SX.put(o:HO):SX x H (upd H x o):=λ b u n h=>by rw[Z0k n];exact h
theorem SX.kp{C c:V0}(s:SX x H H')(a:H x=some (.ins C c [])):Kp H H':=
 ⟨λ b e h=>s b _ (λ z=>by rw[z,a]at h;cases h) h,λ b o e h=>s b _ (λ z=>by rw[z,a]at h;cases h) h,λ b C c f fs h=>s b _ (λ z=>by rw[z,a]at h;cases h) h⟩
theorem SX.sqL{C c:V0}{fs:List (M2×V)}(s:SX x H H')(b:H x=some (.ins C c fs))(h:SqL K H a xs):SqL K H' a xs:=by
 rcases h with(h|⟨o,h⟩)|h
 ·exact .inl (.inl (s _ _ (λ z=>by rw[z,b]at h;cases h) h))
 ·exact .inl (.inr ⟨o,s _ _ (λ z=>by rw[z,b]at h;cases h) h⟩)
 ·exact .inr h
theorem SX.sqT{C c:V0}{fs:List (M2×V)}(s:SX x H H')(b:H x=some (.ins C c fs))(h:SqT K H a xs):SqT K H' a xs:=by
 rcases h with(h|⟨o,h⟩)|h
 ·exact .inl (.inl (s _ _ (λ z=>by rw[z,b]at h;cases h) h))
 ·exact .inl (.inr ⟨o,s _ _ (λ z=>by rw[z,b]at h;cases h) h⟩)
 ·exact .inr h
theorem J2I:∀{ts:List Tm}{t:Tm},t∈ts->t.depth<=maxD ts
 |u::ts,t,h=>by
  show t.depth<=max u.depth (maxD ts);rcases(qa4.mp h)with rfl|h
  ·exact Nat.le_max_left _ _
  ·exact qa9 (J2I h) (Nat.le_max_right _ _)
theorem Z3M{n:Nat}:∀{ts:List Tm},(∀t∈ts,t.depth<=n)->maxD ts<=n
 |[],_=>qb0 _
 |t::ts,h=>Nat.max_le.mpr ⟨h t qc2,Z3M λ u a=>h u (qc4 _ a)⟩
theorem Z3W:∀xs ys:List Tm,sumS (xs++ys)=sumS xs+sumS ys
 |[],_=>(qj0 _).symm
 |x::xs,ys=>by show x.size+sumS (xs++ys)=x.size+sumS xs+sumS ys;rw[Z3W,qe3]
end TM
end
section
namespace L2
open PySem
structure J0U(P:Program)(w:Y3)(A:M3)(it Z:V0)(n:Nat)(St:Nat->Array V1->M1->Prop)(Fin:Array V1->M1->Prop):Prop where
 item:∀(i:Nat)(acc:Array V1)(s:M1)(Q:Option V1->M1->Prop)(E:V1->M1->Prop),i<n->St i acc s->(∀v s',St (i+1) (acc.push v) s'->(∀o,s.heap.get? Z=some o->s'.heap.get? Z=some o)->Q (some v) s')->wpAny (model P w) A (pyNext (.ref it)) Q E s
 done:∀(acc:Array V1)(s:M1)(Q:Option V1->M1->Prop)(E:V1->M1->Prop),St n acc s->(∀s',Fin acc s'->(∀o,s.heap.get? Z=some o->s'.heap.get? Z=some o)->Q none s')->wpAny (model P w) A (pyNext (.ref it)) Q E s
 size:∀i acc s,St i acc s->acc.size=i
 frame:∀i acc s h',St i acc s->(∀b o,b≠Z->s.heap.get? b=some o->h'.get? b=some o)->h'.objs.size=s.heap.objs.size->St i acc {s with heap:=h'}
section
variable{P:Program}{w:Y3}{B:M3}{E:V1->M1->Prop}{s:M1}{it Z:V0}{n:Nat}{St:Nat->Array V1->M1->Prop}{Fin:Array V1->M1->Prop}{R:Result->M1->Prop}
theorem J2k(W:J0U P w B.in1 it Z n St Fin)(H:n<=sizeLine)(res:V1):∀(k i:Nat)(s:M1)(a:Array V1)(c:Nat),n-i=k->i<=n->St i a s->s.heap.get? Z=some {cls:=.type "list",dict:=none,data:=.seq a c,slots:=#[]}->(∀j h A,Fin h j->j.heap.get? Z=some {cls:=.type "list",dict:=none,data:=.seq h A,slots:=#[]}->h.size=n->R (.ok (.ret res)) j)->codeAny (model P w) B (.builtin "list.extend.loop" ⟨[.ref Z,.ref it,res],[]⟩) R s:=by
 intro k;induction k with
 |zero=>
  intro i s a c u x m g q;have C:i=n:=Nat.le_antisymm x (qm3.mp u);subst C;refine codeAny_builtin F.entry_extend_loop ?_;rw[Around.under_plainId F.plain_extend_loop ⟨[.ref Z,.ref it,res],[]⟩];show wpAny (model P w) B.in1 (pyNext (.ref it)>>=_) _ _ s;refine wpAny_bind (W.done a s _ _ m λ j f p=>wpAny_pure ?_);exact q j a c f (p _ g) (W.size _ _ _ m)
 |succ k D=>
  intro i s a c u x m g q;have lt:i<n:=by lia
  refine codeAny_builtin F.entry_extend_loop ?_;rw[Around.under_plainId F.plain_extend_loop ⟨[.ref Z,.ref it,res],[]⟩];show wpAny (model P w) B.in1 (pyNext (.ref it)>>=_) _ _ s;refine wpAny_bind (W.item i a s _ _ lt m λ v I r p=>?_);have y:=p _ g;have z:=W.size _ _ _ m;show wpAny (model P w) B.in1 (updateSeq Z (·.push v)>>=_) _ _ _;refine wpAny_bind ?_;refine wpAny_updateSeq y rfl (wpAny_pure ⟨plainId_quiet F.plain_extend_loop ⟨[.ref Z,.ref it,res],[]⟩,D (i+1) _ (a.push v) _ qR lt (W.frame _ _ _ _ r (λ b o G e=>?_) (by simp[Heap.update])) (Heap.get?_update_self _ y rfl) q⟩) (by rw[z];lia) (by show(a.push v).size<=sizeLine+1;rw[Array.size_push,z];lia);exact(Heap.get?_update_other _ _ (Ne.symm G)).trans e
def J7s(P:Program)(w:Y3)(it:V0)(St:M1->Prop):Prop:=∀(A:M3)(s:M1)(Q:Bool->M1->Prop)(E:V1->M1->Prop),St s->(∀b,Q b s)->wpAny (model P w) A (Builtin.List.listLengthHint (.ref it)) Q E s
theorem J1M{T:String}{Q:V1->M1->Prop}(G:∀s,St 0 #[] s->s.TypeIs (.ref it) T)(H:(Value.type T==Value.type "list")=false)(h2:(Value.type T==Value.type "tuple")=false)(u:s.heap.objs.size≠it)(W:J0U P w B.in1.in1 it s.heap.objs.size n St Fin)(hs:∀(A:M3)(s:M1)(Q:V1->M1->Prop)(E:V1->M1->Prop),St 0 #[] s->Q (.ref it) s->wpAny (model P w) A (pyIter (.ref it)) Q E s)(I:J7s P w it (St 0 #[]))(st:St 0 #[] {s with heap:=s.heap.push {cls:=.type "list",data:=.seq #[]}})(J:∀v i c,Fin i v->v.heap.get? s.heap.objs.size=some {cls:=.type "list",dict:=none,data:=.seq i c,slots:=#[]}->i.size=n->Q (.ref s.heap.objs.size) v)(K:n<=sizeLine):wpAny (model P w) B (call (.type "list") [.ref it]) Q E s:=by
 refine callType_codes (Q₁:=λ o a=>o=.ref s.heap.objs.size/\a={s with heap:=s.heap.push {cls:=.type "list",data:=.seq #[]}}) F.called_list (F.typeCall_list_1 _) F.entry_list_init (code_list_new _ ⟨rfl,rfl⟩) λ o a e=>?_;obtain⟨rfl,rfl⟩:=e;have q:({s with heap:=s.heap.push {cls:=.type "list",data:=.seq #[]}}:M1).heap.get? s.heap.objs.size=some {cls:=.type "list",data:=.seq #[]}:=Heap.get?_push_size _ rfl;generalize({s with heap:=s.heap.push {cls:=.type "list",data:=.seq #[]}}:M1)=a at*;generalize s.heap.objs.size=Z at*;refine⟨⟨_,q,rfl⟩,F.args_list_init_2 _ _,?_⟩;have j:∀(h:Z3)(c:Nat),(∀b o,b≠Z->a.heap.get? b=some o->h.get? b=some o)->h.objs.size=a.heap.objs.size->h.get? Z=some {cls:=.type "list",data:=.seq #[] c}->codeAny (model P w) B.in1 (.builtin "list.extend.loop" ⟨[.ref Z,.ref it,.none],[]⟩) (wants (λ r x=>r=.none/\Q (.ref Z) x) E) {a with heap:=h}:=by
  intro h c k L g;exact J2k W K .none n 0 _ #[] c rfl (qb0 _) (W.frame _ _ _ _ st k L) g λ x i M f m N=>⟨rfl,J x i M f m N⟩
 show wpAny (model P w) B.in1.in1 (do let old<-Builtin.List.listItems (.ref Z);Builtin.List.listUpdate (.ref Z) (λ _=>#[]);letGo old.toList.reverse;Builtin.List.listExtendWith (.ref Z) (.ref it) .none) _ _ a;refine wpAny_bind ?_;unfold Builtin.List.listItems;refine wpAny_bind (wpAny_seqItems q rfl (wpAny_pure ?_));show wpAny (model P w) B.in1.in1 (updateSeq Z (λ _=>#[])>>=λ _=>letGo (#[]:Array V1).toList.reverse>>=λ _=>Builtin.List.listExtendWith (.ref Z) (.ref it) .none) _ _ a;refine wpAny_bind (wpAny_updateSeq q rfl (wpAny_bind (wpAny_letGo ?_)));have m:=Heap.get?_update_self (Obj.mapSeq (λ _=>(#[]:Array V1))) q rfl;have y:∀b o,b≠Z->a.heap.get? b=some o->(a.heap.update Z (Obj.mapSeq (λ _=>(#[]:Array V1)))).get? b=some o:=λ b o p e=>(Heap.get?_update_other _ _ (Ne.symm p)).trans e;have z:(a.heap.update Z (Obj.mapSeq (λ _=>(#[]:Array V1)))).objs.size=a.heap.objs.size:=by simp[Heap.update]
 generalize a.heap.update Z (Obj.mapSeq (λ _=>(#[]:Array V1)))=h2 at*;have C:St 0 #[] {a with heap:=h2}:=W.frame _ _ _ _ st y z;unfold Builtin.List.listExtendWith;refine wpAny_bind (wpAny_typeOf (G _ C) ?_);rw[show Builtin.List.listSameRef (.ref Z) (.ref it)=false by simp[Builtin.List.listSameRef,u],H,‹(Value.type T==Value.type "tuple")=false›];refine wpAny_bind (hs _ _ _ _ C ?_);refine wpAny_bind (wpAny_holding (I _ _ _ _ C λ b=>?_));refine wpAny_ite_split (λ _=>?_) (λ _=>wpAny_pure ⟨plainId_quiet F.plain_extend_loop ⟨[.ref Z,.ref it,.none],[]⟩,j h2 _ y z m⟩);refine wpAny_bind (wpAny_rule (wpAny_bind ?_));show wpAny (model P w) B.in1.in1 (updateSeq Z (·.push .none)>>=λ _=>updateSeq Z (·.pop)) _ _ _;refine wpAny_bind (wpAny_updateSeq m rfl ?_);have D:=Heap.get?_update_self (Obj.mapSeq (·.push Value.none)) m rfl;refine wpAny_updateSeq (hz:=by seq_fits) D rfl ?_;have O:=Heap.get?_update_self (Obj.mapSeq (·.pop)) D rfl;refine wpAny_pure ⟨plainId_quiet F.plain_extend_loop ⟨[.ref Z,.ref it,.none],[]⟩,j _ _ (λ b o p e=>?_) (by simpa[Heap.update]using z) O⟩;exact(Heap.get?_update_other _ _ (Ne.symm p)).trans ((Heap.get?_update_other _ _ (Ne.symm p)).trans (y b o p e))
end
open PySem.Spec PyProof.Rows
theorem J0p:typeLookup (.type "list_reverseiterator") "__len__"=pure none:=by rw[typeLookup_type,builtinLookup_eq_fast];kernel_rfl
theorem J3o:typeLookup (.type "list_reverseiterator") "__length_hint__"=pure (some (.builtin "list_reverseiterator.__length_hint__")):=by rw[typeLookup_type,builtinLookup_eq_fast];kernel_rfl
variable{P:Program}
theorem J3m{w:Y3}{it:V0}{St:M1->Prop}(a:∀s,St s->s.TypeIs (.ref it) "list_reverseiterator"):J7s P w it St:=by
 intro A s Q E c q;unfold Builtin.List.listLengthHint;refine wpAny_bind (wpAny_specialOf (a s c) J0p ?_);show wpAny (model P w) A (specialOf (Value.ref it) (Str.ofString "__length_hint__")>>=_) _ _ _;refine wpAny_bind (wpAny_specialOf (a s c) J3o ?_);generalize hi0:("list_reverseiterator.__length_hint__":String)=e
 wp_delta
 rw[show splitId e=some ("list_reverseiterator","__length_hint__")from by subst hi0;decide+kernel];subst hi0;refine wpAny_bind (wpAny_isInstance (T:="list_reverseiterator") (b:=true) (a s c) (by rw[isSubtype_type];kernel_rfl) ?_);refine wpAny_ite_split (λ z=>absurd z qQ) (λ _=>?_);refine wpAny_ite_split (λ _=>?_) (λ z=>absurd rfl z);exact wpAny_ite_split (λ z=>absurd z qP) (λ _=>wpAny_pure (q _))
def Itv(K:X0)(l:V0)(n:Nat):It:=
 ⟨λ i H=>i<n/\∃a,SqL K H l a/\a.length=n,λ i H v b=>b=H/\∀a,SqL K H l a->a[n-1-i]?=some v,λ i _=>i=n⟩
variable{K:X0}
theorem J3h{w:Y3}{tg:Expr}(l it:V0)(n:Nat):Turn P w K tg (Itv K l n) [it] it (λ i h=>h.IsRevIter it l ((n:Int)-1-(i:Int)))where
 mem:=by simp
 obj:=λ i h g b m=>by
  cases qa5.mp m;obtain⟨o,e,c,d⟩:=g;exact⟨o,e,λ v z=>by rw[d]at z;cases z⟩
 keep:=λ i h r g k=>g.at λ o e=>k it (qa5.mpr rfl) o e
 item:=by
  intro X A B C O i j s Q H E I y g D;subst A B C;obtain⟨hi,R,S,hn⟩:=D;obtain⟨U,Y,p,hz⟩:=I.list S;have T:R[n-1-i]?=some (R[n-1-i]'(by lia)):=qa3 qR;obtain⟨u,Z,ru⟩:=Y.get T;obtain⟨G,J,f2,L,M,N⟩:=y it (qa5.mpr rfl);have e0:(n:Int)-1-(i:Int)=((n-1-i:Nat):Int):=by lia
  have e2:((n-1-i:Nat):Int)-1=(n:Int)-1-((i+1:Nat):Int):=by lia
  have a:=g;rw[e0]at a;refine wpAny_pyNext_rev_item a p.isList (x:=u) (by simpa using Z) λ r q sb=>?_;have I1:Inv X j Q H {s with heap:=r}:=I.turned (t':=s.toks) (λ b o m e=>(sb.2 b m).trans e) G J L M N;rw[e2]at q;obtain⟨o,e,c,d⟩:=id q;exact⟨u,rfl,J3J (s:={s with heap:=r}) e c d qQ ⟨_,H,I1,ru,⟨rfl,λ ys hy=>by rw[I.list_inj hy S];exact T⟩,q,λ b m=>(y b m).1⟩⟩
 done:=by
  intro X A B C O i j s Q H E I y g D;subst A B C;cases(show i=n from D);obtain⟨G,J,f2,L,M,N⟩:=y it (qa5.mpr rfl);have a:=g;rw[show(n:Int)-1-(n:Int)=-1 by lia]at a;exact wpAny_pyNext_rev_end (I.ok.hd O) a λ r eb=>⟨rfl,I.turned (t':=s.toks) (λ b o m e=>eb b o m e) G J L M N⟩
 self:=λ _ _ _ _ _ g h=>wpAny_pyIter_revIter g h
section
variable{X:Cx}{tg:Expr}
def iRev(K:X0)(ta:TA):TI:=λ e H R=>ta e H λ vs b=>∃a c,vs=[.ref a]/\SqL K b a c/\R (Itv K a c.length) b
theorem J9w{b:TA}{c:St}{H:Hp}{R:It->Hp->Prop}:iRev K b c H R=b c H λ vs H1=>∃a xs,vs=[.ref a]/\SqL K H1 a xs/\R (Itv K a xs.length) H1:=rfl
theorem J4T{a:Expr}{v:TA}{p c:Pos}(x:Gl X "reversed")(y:X.mg "reversed"=none)(r:bootBuiltins "reversed"=some (.type "reversed"))(z:PA X [a] v)(hs:starEach [a] X.env=[(false,eval a X.env)]:=by rfl):PI X tg (.Call (.Name "reversed" p) [a] [] c) (iRev X.K v):=by
 intro g s A H R I h;refine Call_ (Z3I I x y r (PyProof.Rows.callWith_type1 (thn (z c g s A H _ I h) λ us m ⟨vs,B,n,r1,C⟩=>?_) hs rfl));obtain⟨l,w,e,D,q⟩:=C;subst e;obtain⟨u,rfl,E⟩:=r1.one;cases E;obtain⟨j,G,pl,J⟩:=n.list D;have hl:=G.length;refine call_reversed_list pl.isList (wpAny_pyIter_revIter (it:=m.heap.objs.size) (l:=l) (i:=(j.toArray.size:Int)-1) ⟨_,Heap.get?_push_size _ rfl,rfl,rfl⟩ ?_);refine⟨m.heap.objs.size,[m.heap.objs.size],_,_,B,rfl,n.kept (t':=m.toks) λ b o e=>Heap.get?_push_of_some _ e,J3h l _ w.length,?_,λ b r=>?_,q⟩
 ·rw[show(w.length:Int)-1-((0:Nat):Int)=(j.toArray.size:Int)-1 by rw[qb1];lia];exact⟨_,Heap.get?_push_size _ rfl,rfl,rfl⟩
 ·cases qa5.mp r;exact n.fpOk (qa0 _) (n.hok.fresh (qa0 _))
def J7z(K:X0)(ta:TA):TE:=λ e H Q=>ta e H λ vs b=>∃a c,vs=[.ref a]/\SqL K b a c/\∀l,b l=none->Q (.ref l) (upd b l (.lst c.reverse))
theorem J8u{c:TA}{e:St}{H:Hp}{Q:VK}:J7z K c e H Q=c e H λ vs b=>∃a xs,vs=[.ref a]/\SqL K b a xs/\∀l,b l=none->Q (.ref l) (upd b l (.lst xs.reverse)):=rfl
theorem J2q{w:Y3}{A:M3}(B:A.handled=none){it Z l:V0}{its:List V1}(h:M1)(hl:h.heap.IsList l its.toArray)(u:h.heap.objs.size<=it)(C:h.heap.objs.size<=Z)(j:Z≠it):J0U P w A it Z its.length (λ i a p=>∃h' tk,p={h with heap:=h',toks:=tk}/\h'.IsRevIter it l ((its.length:Int)-1-(i:Int))/\(∀b o,h.heap.get? b=some o->h'.get? b=some o)/\a.toList=its.reverse.take i/\i<=its.length) (λ a p=>∃h' tk,p={h with heap:=h',toks:=tk}/\(∀b o,h.heap.get? b=some o->h'.get? b=some o)/\a.toList=its.reverse)where
 item:=by
  rintro i a s Q E c ⟨h',tk,rfl,g,k,m,_⟩ q;have D:(its.length:Int)-1-(i:Int)=((its.length-1-i:Nat):Int):=by lia
  have G:((its.length-1-i:Nat):Int)-1=(its.length:Int)-1-((i+1:Nat):Int):=by lia
  rw[D]at g;have H:its.toArray[its.length-1-i]?=some (its[its.length-1-i]'(by lia)):=by simp
  refine wpAny_pyNext_rev_item g (hl.at λ o e=>k _ o e) H λ n r v=>q _ _ ⟨n,tk,rfl,by rw[<-G];exact r,λ b o e=>(v.2 b λ z=>?_).trans (k b o e),?_,c⟩ λ o e=>(v.2 Z j).trans e
  ·exact absurd (Heap.lt_size e) (by rw[z];exact qf4.mpr u)
  ·rw[qm4,m,qd4,List.getElem?_reverse c,qa3 qR];rfl
 done:=by
  rintro a s Q E ⟨h',tk,rfl,g,k,m,_⟩ q;rw[show(its.length:Int)-1-(its.length:Int)=-1 by lia]at g;refine wpAny_pyNext_rev_end B g λ n x=>q _ ⟨n,tk,rfl,λ b o e=>x b o (λ z=>?_) (k b o e),?_⟩ λ o e=>x Z o j e
  ·exact absurd (Heap.lt_size e) (by rw[z];exact qf4.mpr u)
  ·rw[m,qe1 (by rw[qj1];exact qa0 _)]
 size:=by
  rintro i a s ⟨h',tk,rfl,g,k,m,c⟩;rw[<-qg6,m,qd0,qj1];exact qf2 c
 frame:=by
  rintro i a s n ⟨h',tk,rfl,g,k,m,c⟩ y _;exact⟨n,tk,rfl,g.at λ o e=>y it o (Ne.symm j) e,λ b o e=>y b o (λ z=>absurd (Heap.lt_size e) (by rw[z];exact qf4.mpr C)) (k b o e),m,c⟩
theorem J5n{j:Expr}{P:TA}{p C r a:Pos}(U:X.calm=true)(Y:Gl X "list")(K:Gl X "reversed")(Z:X.mg "list"=none)(L:X.mg "reversed"=none)(ha:PA X [j] P)(hs:starEach [j] X.env=[(false,eval j X.env)]:=by rfl)(v:starEach [.Call (.Name "reversed" C) [j] [] a] X.env=[(false,eval (.Call (.Name "reversed" C) [j] [] a) X.env)]:=by rfl):PE X (.Call (.Name "list" p) [.Call (.Name "reversed" C) [j] [] a] [] r) (J7z X.K P):=by
 intro w s σ H Q I h;refine Call_ (Z3I I Y Z rfl (PyProof.Rows.callWith_type1 ?_ v rfl));rw[v];show wpAny (model X.prog X.w) X.A (spliced ((false,eval (.Call (.Name "reversed" C) [j] [] a) X.env)::backTo r [])) _ _ s;refine Calls.spliced_cons ?_;refine Call_ (Z3I I K L rfl (PyProof.Rows.callWith_type1 (thn (ha a w s σ H _ I h) λ us m D=>?_) hs rfl));obtain⟨vs,H1,E,r1,l,R,rfl,hq,q⟩:=D;obtain⟨u,rfl,ru⟩:=r1.one;cases ru;obtain⟨i,S,pl,D⟩:=E.list hq;have hl:=S.length;obtain⟨ol,gl,_⟩:=id pl.isList;refine call_reversed_list pl.isList (Calls.spliced_nil ?_);have x:(m.heap.push (revObj l ((i.toArray.size:Int)-1))).objs.size=m.heap.objs.size+1:=Heap.size_push ..;have g0:∀o,((m.heap.push (revObj l ((i.toArray.size:Int)-1))).push o).IsRevIter m.heap.objs.size l ((i.length:Int)-1-((0:Nat):Int)):=λ o=>by
  rw[show(i.length:Int)-1-((0:Nat):Int)=(i.toArray.size:Int)-1 by rw[qb1];lia];exact⟨_,Heap.get?_push_of_some _ (Heap.get?_push_size _ rfl),rfl,rfl⟩
 refine J1M (n:=i.length) (T:="list_reverseiterator") (λ M z=>?_) qQ qQ (by rw [x]; exact qi8 _)
  (J2q (show X.A.in1.in1.handled=none from E.ok.hd U) (it:=m.heap.objs.size) (l:=l) m pl.isList (qa0 _) (by rw[x];exact qd6 _) (by rw[x];exact qi8 _)) (λ A M Q' E' z N=>?_) (J3m λ M z=>?_)
  ⟨_,_,rfl,g0 _,λ b o e=>Heap.get?_push_of_some _ (Heap.get?_push_of_some _ e),rfl,qb0 _⟩ (λ M O c fin g sz=>?_) (by rw[<-hl];exact D)
 ·obtain⟨G,J,rfl,y,_⟩:=z;exact y.typeIs
 ·obtain⟨G,J,rfl,y,_⟩:=z;exact wpAny_pyIter_revIter y N
 ·obtain⟨G,J,rfl,y,_⟩:=z;exact y.typeIs
 ·obtain⟨G,J,rfl,k,ea⟩:=fin;have B:O=i.reverse.toArray:=by rw[<-ea]
  subst B;refine⟨.ref _,upd H1 _ (.lst R.reverse),E.laid (t':=J) k (by rw[x];exact qd6 _) (show ObjOk X.prog X.w _ G _ (.lst R.reverse)from⟨by rw[qj1];exact D,i.reverse,c,S.reverse,g⟩),rfl,q _ (E.hok.fresh (by rw[x];exact qd6 _))⟩
end
variable{X:Cx}{H:Hp}
theorem Inv.grow{pins:List (V0×Obj)}{σ:St}{H':Hp}{s:M1}{h':Z3}{t':Nat}{ch:List V0}(I:Inv X pins σ H s)(g:∀b∈ch,FpOk X pins H b)(k:∀b o,b∉ch->s.heap.get? b=some o->h'.get? b=some o)(old:∀b o,H b=some o->H' b=some o)(new:∀b o,H b=none->H' b=some o->(s.heap.objs.size<=b\/b∈ch)/\ObjOk X.prog X.w H' h' b o):Inv X pins σ H' {s with heap:=h',toks:=t'}:=by
 have i:∀ b o,H b=some o->b∉ch:=λ b o e z=>Z0m e (g b z).1 rfl;refine I.step (g':=s.gens) (d':=s.drawn) (ch:=ch) (λ b a=>?_) (λ b o _ _ a e _=>k b o a e) (λ b o _ _ a e _=>⟨o.slots,k b o a e⟩) (λ b o a e n=>?_) (λ b o a e=>⟨o,k b o a e⟩) (λ b ys e=>old b _ e) (λ b o ys e=>old b _ e)
  (λ b ps e=>⟨#[],by rw[old b _ e];simp⟩) (λ m j=>j.at' λ o q=>k _ o (λ z=>(g _ z).2.1 rfl) q) (λ b o q=>?_) I.bare
 ·obtain⟨D,p,G,u,x,y⟩:=g b a;exact⟨u,p,x,y⟩
 ·cases B:H' b with
  |none=>rfl
  |some o'=>
   rcases(new b o' n B).1 with z|z
   ·exact absurd (Heap.lt_size e) (qf4.mpr z)
   ·exact absurd z a
 ·cases e:H b with
  |none=>exact(new b o e q).2
  |some o'=>
   have:=old b o' e;rw[q]at this;cases this;refine(I.hok b o e).stay (λ c v C r=>?_) (λ c r=>old c _ r) λ c ys r=>old c _ r;have h:∃o',H c=some o':=by
    rcases C with z|z
    ·exact⟨o,by rw[z];exact e⟩
    ·exact⟨_,z⟩
   obtain⟨o',h⟩:=h;exact k c v (i c o' h) r
theorem apart{n a b:Nat}(h:a≠b):n+a≠n+b:=λ e=>h (Nat.add_left_cancel e)
theorem J0k{n a:Nat}(h:0<a):n≠n+a:=qb3 (Nat.lt_add_of_pos_right h)
theorem Z6b{l n a:Nat}(h:l<n):l≠n+a:=qb3 (qc9 h (qf5 _ _))
theorem zap{n l1 l2:Nat}(a:l1<n)(h2:l2<n):ZipApart (n+4) (n+2) (n+3) n (n+1) l1 l2:=
 ⟨apart qQ,apart qQ,J0k qQ,apart qQ,apart qQ,(J0k qQ).symm,apart qQ,(J0k qQ).symm,apart qQ,J0k qQ,Z6b a,Z6b a,qb3 a,Z6b a,Z6b h2,Z6b h2,qb3 h2,Z6b h2⟩
theorem Z5q(ys:List Int):∀n,n<=ys.length->preSum (λ i=>ys.getD i 0) n=(ys.take n).sum
 |0,_=>by simp[preSum]
 |n+1,h=>by
  rw[preSum,Z5q ys n qR,qh3 qR,qk9];simp[qc5,qa3 (show n<ys.length by lia)]
theorem Z9z(B:X.calm=true):Z3V X (.builtin "sum") (λ xs H Q=>∃(p:V0)(ys:List Int),xs=[.ref p]/\SqL X.K H p (ys.map V.int)/\Q (.int ys.sum) H):=by
 intro j s M H xs us Q I r h;obtain⟨p,ys,rfl,C,q⟩:=h;obtain⟨u,rfl,D⟩:=r.one;cases D;obtain⟨a,m,pl,N⟩:=I.list C;obtain⟨o,n,_,_,_⟩:=id pl.isList;have g:p≠s.heap.objs.size:=qb3 (Heap.lt_size n);have hl:=m.length;rw[qa1]at hl;refine call_sum_walkG (wpAny_pyIter_list pl.isList ?_);refine⟨s.heap.objs.size,_,_,_,_,_,λ i=>ys.getD i 0,rfl,Walks.list (A:=X.A.in1) (show X.A.in1.handled=none from I.ok.hd B) _ p g a.toArray,⟨⟨_,Heap.get?_push_size _ rfl,rfl,rfl⟩,pl.isList.at λ o e=>Heap.get?_push_of_some _ e⟩,λ b E=>?_,λ i v G=>?_,λ O P R J=>?_⟩
 ·have lt:p<s.heap.objs.size:=Heap.lt_size n;have e:b=s.heap.objs.size\/b=p:=by simpa using E
  show b<(s.heap.objs.push _).size;rw[Array.size_push];rcases e with e|e
  ·rw[e];exact qi2 _
  ·rw[e];exact qi9 lt
 ·have c:a[i]?=some v:=by simpa using G
  have w:i<ys.length:=by
   have:=(qa6.mp c).1;lia
  obtain⟨S,y,K⟩:=m.get (i:=i) (x:=V.int ys[i]) (by rw[qa8,qa3 w];rfl);rw[c]at y;cases y;obtain⟨t,rfl⟩:=(show ∃t,_=Value.int ys[i] t from K);exact⟨t,by simp[qc5,qa3 w]⟩
 ·have e:preSum (λ i=>ys.getD i 0) a.toArray.size=ys.sum:=by
   rw[qb1,<-hl,Z5q ys _ (qa0 _),qd1]
  refine⟨.int ys.sum,H,I.kept λ b o e=>J b o (λ z=>?_) (Heap.get?_push_of_some _ e),by rw[e];exact⟨_,rfl⟩,q⟩;have L:b=s.heap.objs.size:=by simpa using z
  exact absurd (Heap.lt_size e) (by rw[L];exact qd8 _)
section
variable{P:Program}{w:Y3}{B:M3}{R:Result->M1->Prop}{it:V0}{fp wr:List V0}{n:Nat}{Y:Nat->V1->Prop}{St:Nat->Z3->Prop}
theorem Z4O:(toString "max"++toString ".loop":String)="max.loop":=by decide
theorem J3z(kw:List (M2×V1))(W:Walks P w B.in1 it fp wr n Y St)(p:Nat->Nat->Bool)(U:CmpOf P w B.in1 .Gt Y p)(Z:V0)(M:Z∉fp):∀(k j:Nat)(s:M1)(u:V1)(c:Nat),n-(j+1)=k->j+1<=n->St (j+1) s.heap->Y (argBest p j) u->s.heap.get? Z=some {cls:=.type "list",dict:=none,data:=.seq #[u,u] c,slots:=#[]}->(∀v h' tk,Y (argBest p (n-1)) v->(∀b o,b∉wr->b≠Z->s.heap.get? b=some o->h'.get? b=some o)->R (.ok (.ret v)) {s with heap:=h',toks:=tk})->codeAny (model P w) B (.builtin "max.loop" ⟨[.ref it,.none,.ref Z],kw⟩) R s:=by
 have x:Z∉wr:=λ z=>M (W.sub _ z);intro k;induction k with
 |zero=>
  intro j s u c N O H G y q;have Q:j+1=n:=Nat.le_antisymm O (qm3.mp N);refine codeAny_builtin F.entry_max_loop ?_;rw[Around.under_plainId F.plain_max_loop ⟨[.ref it,.none,.ref Z],kw⟩];show wpAny (model P w) B.in1 (seqItems? (.ref Z)>>=_) _ _ s;refine wpAny_bind (wpAny_seqItems y rfl ?_);show wpAny (model P w) B.in1 (tryCatch (pyNext (.ref it)) _>>=_) _ _ s;refine wpAny_bind (wpAny_tryCatch (W.done s _ _ (Q▸H) λ h1 tk r=>?_));have g:=r Z _ x y;show wpAny (model P w) B.in1 (updateSeq Z (λ _=>#[])>>=_) _ _ _;refine wpAny_bind (wpAny_updateSeq g rfl (wpAny_bind (wpAny_letGo (wpAny_pure ?_))));exact q u _ tk (by rw[<-Q];exact G) λ b o hb a e=>(Heap.get?_update_other _ _ (Ne.symm a)).trans (r b o hb e)
 |succ k S=>
  intro j s u c N O H G y q;have lt:j+1<n:=by omega
  refine codeAny_builtin F.entry_max_loop ?_;rw[Around.under_plainId F.plain_max_loop ⟨[.ref it,.none,.ref Z],kw⟩];show wpAny (model P w) B.in1 (seqItems? (.ref Z)>>=_) _ _ s;refine wpAny_bind (wpAny_seqItems y rfl ?_);show wpAny (model P w) B.in1 (tryCatch (pyNext (.ref it)) _>>=_) _ _ s;refine wpAny_bind (wpAny_tryCatch (W.item (j+1) s _ _ lt H λ v h1 tk T C r=>?_));have g:=r Z _ x y;show wpAny (model P w) B.in1 (tryCatch (holding [v,v] (richCompare .Gt v u>>=_)) _>>=_) _ _ _;refine wpAny_bind (wpAny_tryCatch (wpAny_holding (wpAny_bind (U (j+1) (argBest p j) v u _ _ _ T G ?_))));refine wpAny_bind (wpAny_holding (wpAny_truthy_bool (wpAny_bind (wpAny_letGo (wpAny_pure ?_)))));cases D:p (j+1) (argBest p j)with
  |true=>
   rw[if_pos rfl];refine wpAny_bind (wpAny_updateSeq g rfl (wpAny_bind (wpAny_letGo ?_)));rw[Z4O];refine wpAny_pure ⟨plainId_quiet F.plain_max_loop ⟨[.ref it,.none,.ref Z],kw⟩,S (j+1) _ v _ (by omega) lt (W.frame _ _ _ C λ b I o e=>?_) (by rw[argBest,D,if_pos rfl];exact T) (Heap.get?_update_self _ g rfl) λ J K i m L=>?_⟩
   ·exact(Heap.get?_update_other _ _ (λ z:Z=b=>M (z▸I))).trans e
   ·exact q J K i m λ b o h a e=>L b o h a ((Heap.get?_update_other _ _ (Ne.symm a)).trans (r b o h e))
  |false=>
   rw[if_neg qc0];refine wpAny_bind (wpAny_letGo ?_);rw[Z4O];refine wpAny_pure ⟨plainId_quiet F.plain_max_loop ⟨[.ref it,.none,.ref Z],kw⟩,S (j+1) _ u c (by omega) lt C (by rw[argBest,D,if_neg qc0];exact G) g λ J K i m L=>?_⟩;exact q J K i m λ b o h a e=>L b o h a (r b o h e)
end
theorem J2w(a d:V1):argsOk "max" ⟨[a],[(Str.ofString "default",d)]⟩:=by unfold argsOk;kernel_rfl
section
variable{P:Program}{w:Y3}{A:M3}{E:V1->M1->Prop}{s:M1}
def Z8y(ys:List Int)(m:Int):Prop:=m∈ys/\∀a∈ys,a<=m
theorem Z9D{ys:List Int}(h:0<ys.length):Z8y ys (ys.getD (argBest (λ i j=>decide (ys.getD i 0>ys.getD j 0)) (ys.length-1)) 0):=by
 obtain⟨a,b⟩:=argBest_gt (λ i=>ys.getD i 0) (ys.length-1);refine⟨?_,λ x c=>?_⟩
 ·have lt:argBest (λ i j=>decide (ys.getD i 0>ys.getD j 0)) (ys.length-1)<ys.length:=by omega
  rw[qc5,qa3 lt];exact qk7 lt
 ·obtain⟨j,g,e⟩:=qf9 c;have:=b j (by omega);rw[qc5,qa3 g]at this;rw[<-e];exact this
theorem Z7L{l it:V0}{its:List V1}{ys:List Int}(b:A.handled=none)(hl:ys.length=its.length)(c:∀(i:Nat)(v:V1),its[i]?=some v->∃t,v=Value.int (ys.getD i 0) t)(a:l≠it):Walks P w A it [it,l] [it] its.toArray.size (λ i v=>its.toArray[i]?=some v) (λ i h=>h.IsListIter it l i/\h.IsList l its.toArray)/\CmpOf P w A .Gt (λ i v=>its.toArray[i]?=some v) (λ i j=>decide (ys.getD i 0>ys.getD j 0)):=
 ⟨Walks.list b it l a its.toArray,CmpOf.ints_gt (λ i=>ys.getD i 0) λ i v h=>c i v (by simpa using h)⟩
theorem J3v{l:V0}{its:List V1}{ys:List Int}{d:V1}{Q:V1->M1->Prop}(S:A.handled=none)(pl:s.heap.IsList l its.toArray)(a:ys.length=its.length)(D:∀(i:Nat)(v:V1),its[i]?=some v->∃t,v=Value.int (ys.getD i 0) t)(q:∀v h' tk,(ys=[]->v=d)->(ys≠[]->∃m t,v=.int m t/\Z8y ys m)->(∀b o,s.heap.get? b=some o->h'.get? b=some o)->Q v {s with heap:=h',toks:=tk}):wpAny (model P w) A (call (.builtin "max") [.ref l] [(Str.ofString "default",d)]) Q E s:=by
 obtain⟨ol,T,_⟩:=id pl;have G:l<s.heap.objs.size:=Heap.lt_size T;refine PyProof.Rows.kmk_tree PySem.F.kind_max PySem.F.plain_max PySem.F.entry_max (J2w _ _) ?_;show wpAny (model P w) A.in1 (Builtin.Builtins.bindParams "max" ["key","default"] 0 ⟨[],[(Str.ofString "default",d)]⟩>>=_) _ _ s;refine wpAny_bind (wpAny_of_eq (show Builtin.Builtins.bindParams "max" ["key","default"] 0 ⟨[],[(Str.ofString "default",d)]⟩=pure [none,some d]from rfl) (wpAny_bind (wpAny_pure ?_)));refine wpAny_bind (wpAny_pyIter_list pl (wpAny_bind (wpAny_newObj_type ?_)));rw[Z4O];have H:((s.heap.push {cls:=.type "list_iterator",data:=.fields #[.ref l,.int 0 0]}).push {cls:=.type "list",data:=.seq #[]}).IsListIter s.heap.objs.size l 0:=⟨_,Heap.get?_push_of_some _ (Heap.get?_push_size _ rfl),rfl,rfl⟩;have I:((s.heap.push {cls:=.type "list_iterator",data:=.fields #[.ref l,.int 0 0]}).push {cls:=.type "list",data:=.seq #[]}).IsList l its.toArray:=pl.at λ o e=>Heap.get?_push_of_some _ (Heap.get?_push_of_some _ e);have J:((s.heap.push {cls:=.type "list_iterator",data:=.fields #[.ref l,.int 0 0]}).push {cls:=.type "list",data:=.seq #[]}).get? (s.heap.objs.size+1)=some {cls:=.type "list",dict:=none,data:=.seq #[] 0,slots:=#[]}:=by
  rw[show s.heap.objs.size+1=(s.heap.push {cls:=.type "list_iterator",data:=.fields #[.ref l,.int 0 0]}).objs.size from(Heap.size_push ..).symm];exact Heap.get?_push_size _ rfl
 have K:∀b o,s.heap.get? b=some o->((s.heap.push {cls:=.type "list_iterator",data:=.fields #[.ref l,.int 0 0]}).push {cls:=.type "list",data:=.seq #[]}).get? b=some o:=λ b o e=>Heap.get?_push_of_some _ (Heap.get?_push_of_some _ e);rw[show(s.heap.push {cls:=.type "list_iterator",data:=.fields #[.ref l,.int 0 0]}).objs.size=s.heap.objs.size+1 from Heap.size_push ..];generalize(s.heap.push {cls:=.type "list_iterator",data:=.fields #[.ref l,.int 0 0]}).push {cls:=.type "list",data:=.seq #[]}=h3 at*;refine wpAny_pure ⟨plainId_quiet F.plain_max_loop _,?_⟩;obtain⟨W,U⟩:=Z7L (P:=P) (w:=w) (A:=A.in1) (it:=s.heap.objs.size) (l:=l) (its:=its) (ys:=ys) S a D (qb3 G);have r:s.heap.objs.size+1∉[s.heap.objs.size,l]:=λ z=>by
  rcases qa4.mp z with z|z
  ·omega
  ·exact absurd G (by rw[<-qa5.mp z];exact qf4.mpr (qd6 _))
 refine codeAny_builtin F.entry_max_loop ?_;rw[Around.under_plainId F.plain_max_loop _];show wpAny (model P w) A.in1 (seqItems? (.ref (s.heap.objs.size+1))>>=_) _ _ _;refine wpAny_bind (wpAny_seqItems J rfl ?_);show wpAny (model P w) A.in1 (tryCatch (pyNext (.ref s.heap.objs.size)) _>>=_) _ _ _;by_cases c:ys=[]
 ·have g:its.toArray.size=0:=by rw[qb1,<-a,c];rfl
  have Z:(λ i (h:Z3)=>h.IsListIter s.heap.objs.size l i/\h.IsList l its.toArray) its.toArray.size h3:=by rw[g];exact⟨H,I⟩
  refine wpAny_bind (wpAny_tryCatch (W.done _ _ _ Z λ L tk p=>?_));refine wpAny_bind (wpAny_rule (wpAny_pure ?_));exact q d L tk (λ _=>rfl) (λ z=>absurd c z) λ b o e=>p b o (λ z=>absurd (Heap.lt_size e) (by rw[qa5.mp z];exact qd8 _)) (K b o e)
 ·have M:0<ys.length:=List.length_pos_iff.mpr c;have g:0<its.toArray.size:=by rw[qb1,<-a];exact M
  refine wpAny_bind (wpAny_tryCatch (W.item 0 _ _ _ g ⟨H,I⟩ λ v L tk x y p=>?_));have N:=p _ _ (λ z=>r (qa4.mpr (.inl (qa5.mp z)))) J;refine wpAny_bind (wpAny_pure (wpAny_bind (wpAny_updateSeq N rfl ?_)));rw[Z4O];refine wpAny_pure ⟨plainId_quiet F.plain_max_loop _,J3z _ W _ U _ r (its.toArray.size-1) 0 _ v _ rfl g (W.frame _ _ _ y λ b hb o e=>?_) x (Heap.get?_update_self _ N rfl) λ u h5 C hu k5=>?_⟩
  ·exact(Heap.get?_update_other _ _ (λ z:s.heap.objs.size+1=b=>r (z▸hb))).trans e
  ·obtain⟨t,rfl⟩:=D (argBest (λ i j=>decide (ys.getD i 0>ys.getD j 0)) (its.toArray.size-1)) _ (by rw[<-List.getElem?_toArray];exact hu);refine q _ h5 C (λ z=>absurd z c) (λ _=>⟨_,t,rfl,?_⟩) λ b o e=>?_
   ·have:=Z9D M;rw[qb1,<-a];exact this
   ·have lt:=Heap.lt_size e;have O:b∉[s.heap.objs.size]:=λ z=>absurd lt (by rw[qa5.mp z];exact qd8 _);exact k5 b o O (qb3 (qi9 lt)) ((Heap.get?_update_other _ _ (Nat.ne_of_gt (qi9 lt))).trans (p b o O (K b o e)))
end
section
variable{X:Cx}
theorem Z9m{its:List V1}{ys:List Int}(a:Vals (ys.map V.int) its):ys.length=its.length/\∀(i:Nat)(v:V1),its[i]?=some v->∃t,v=Value.int (ys.getD i 0) t:=by
 have hl:=a.length;rw[qa1]at hl;refine⟨hl,λ i v h=>?_⟩;have b:i<ys.length:=by rw[hl];exact(qa6.mp h).1
 obtain⟨u,e,r⟩:=a.get (i:=i) (x:=V.int ys[i]) (by rw[qa8,qa3 b];rfl);rw[h]at e;cases e;obtain⟨t,rfl⟩:=(show ∃t,_=Value.int ys[i] t from r);exact⟨t,by rw[qc5,qa3 b];rfl⟩
def J4a(K:X0):List V->Hp->VK->Prop:=λ b H Q=>∃(p:V0)(a:List Int),b=[.ref p]/\SqL K H p (a.map V.int)/\a≠[]/\∀m,Z8y a m->Q (.int m) H
theorem Z7V(y:X.calm=true):Z3V X (.builtin "max") (J4a X.K):=by
 intro g s M H N us Q I r h;obtain⟨p,ys,rfl,C,a,q⟩:=h;obtain⟨u,rfl,D⟩:=r.one;cases D;obtain⟨its,G,pl,O⟩:=I.list C;obtain⟨hl,m⟩:=Z9m G;obtain⟨o,J,_,_,_⟩:=id pl.isList;have lt:p<s.heap.objs.size:=Heap.lt_size J;have x:0<ys.length:=List.length_pos_iff.mpr a;refine call_max_walk (wpAny_pyIter_list pl.isList ?_);obtain⟨W,c⟩:=Z7L (P:=X.prog) (w:=X.w) (A:=X.A.in1) (it:=s.heap.objs.size) (l:=p) (its:=its) (ys:=ys) (show X.A.in1.handled=none from I.ok.hd y) hl m (qb3 lt);refine⟨s.heap.objs.size,_,_,_,_,_,_,rfl,W,⟨⟨_,Heap.get?_push_size _ rfl,rfl,rfl⟩,pl.isList.at λ o e=>Heap.get?_push_of_some _ e⟩,λ b K=>?_,by rw[qb1,<-hl];exact x,c,λ v S T L k=>?_⟩
 ·show b<(s.heap.objs.push _).size;rw[Array.size_push];rcases qa4.mp K with e|e
  ·exact e▸qi2 _
  ·rw[qa5.mp e];exact qi9 lt
 ·obtain⟨t,rfl⟩:=m (argBest (λ i j=>decide (ys.getD i 0>ys.getD j 0)) (its.toArray.size-1)) _ (by rw[<-List.getElem?_toArray];exact L);refine⟨.int _,H,I.kept λ b o e=>k b o (λ z=>?_) (Heap.get?_push_of_some _ e),⟨t,rfl⟩,q _ ?_⟩
  ·exact absurd (Heap.lt_size e) (by rw[qa5.mp z];exact qd8 _)
  ·rw[qb1,<-hl];exact Z9D x
def J6J(K:X0)(t tk:TA):TE:=λ b H Q=>t b H λ vs e=>tk b e λ g c=>∃(p:V0)(a:List Int)(d:Int),vs=[.ref p]/\g=[.int d]/\SqL K c p (a.map V.int)/\∀m,(a=[]->m=d)->(a≠[]->Z8y a m)->Q (.int m) c
theorem J8o{t tk:TA}{a:St}{Q:VK}:J6J K t tk a H Q=t a H λ vs b=>tk a b λ c H2=>∃(p:V0)(ys:List Int)(d:Int),vs=[.ref p]/\c=[.int d]/\SqL K H2 p (ys.map V.int)/\∀m,(ys=[]->m=d)->(ys≠[]->Z8y ys m)->Q (.int m) H2:=rfl
theorem J8E{xs:List V}{Q:VK}:J4a K xs H Q=∃(p:V0)(ys:List Int),xs=[.ref p]/\SqL K H p (ys.map V.int)/\ys≠[]/\∀m,Z8y ys m->Q (.int m) H:=rfl
theorem J5J{e o:Expr}{t tk:TA}{p a kp:Pos}(C:X.calm=true)(D:Gl X "max")(G:X.mg "max"=none)(J:bootBuiltins "max"=some (.builtin "max"))(K:PA X [e] t)(L:PK X [⟨some "default",o,kp⟩] tk)(M:backTo a (starEach [e] X.env)=(false,eval e X.env)::backTo a (starEach [] X.env):=by rfl)(i:(backTo a (starEach [e] X.env)).any (·.1)=false:=by rfl)(N:("max":M2)≠"__name__":=by decide)(j:(("max":M2)==("__debug__":M2))=false:=by decide):PE X (.Call (.Name "max" p) [e] [⟨some "default",o,kp⟩] a) (J6J X.K t tk):=by
 intro b s r H Q I h;refine wpAny_Call_Name_kw (Z3I I D G J ?_ N j);refine PyProof.Rows.callWith_kw (thn (K a b s r H _ I h) λ us O ⟨vs,S,T,r1,U⟩=>thn (L a b O r S _ T U) λ ws s2 x=>?_) M i rfl rfl;obtain⟨zs,y,c,r2,l,Z,d,rfl,rfl,hq,q⟩:=x;obtain⟨u,rfl,ru⟩:=r1.one;cases ru;obtain⟨z,rfl,rz⟩:=r2.one;obtain⟨a0,rv,pl,x⟩:=c.list hq;obtain⟨hl,hv⟩:=Z9m rv;refine J3v (c.ok.hd C) pl.isList hl hv λ v h' tk hd hx k=>?_;obtain⟨tz,rfl⟩:=(show ∃t,z=Value.int d t from rz);by_cases g:Z=[]
 ·cases hd g;exact⟨.int d,y,c.kept k,⟨_,rfl⟩,q d (λ _=>rfl) λ z=>absurd g z⟩
 ·obtain⟨m,t,rfl,im⟩:=hx g;exact⟨.int m,y,c.kept k,⟨_,rfl⟩,q m (λ z=>absurd z g) λ _=>im⟩
end
open PySem.SeqAt
def rNeN(K:X0):R2:=λ x y H Q=>∃a c b,x=.ref a/\y=.ref b/\SqL K H a c/\SqL K H b []/\Q (.bl (!c.isEmpty)) H
def rEqN(K:X0):R2:=λ x y H Q=>∃a c b,x=.ref a/\y=.ref b/\SqL K H a c/\SqL K H b []/\Q (.bl c.isEmpty) H
variable{x:V}{Q:VK}
theorem J9x{y:V}:rNeN K x y H Q=∃a xs b,x=.ref a/\y=.ref b/\SqL K H a xs/\SqL K H b []/\Q (.bl (!xs.isEmpty)) H:=rfl
theorem J8X{y:V}:rEqN K x y H Q=∃a xs b,x=.ref a/\y=.ref b/\SqL K H a xs/\SqL K H b []/\Q (.bl xs.isEmpty) H:=rfl
section
variable{X:Cx}
theorem J7P(i:X.A.units+64<cLine):OpR X (compareOp .NotEq) (rNeN X.K):=by
 intro m s C H x y v u Q I r w h;obtain⟨a,n,b,rfl,rfl,z,A,q⟩:=h;cases r;cases w;obtain⟨B,o,pl,_⟩:=I.list z;obtain⟨p,g,c,_⟩:=I.list A;cases g.zero;cases n with
 |nil=>
  cases o.zero;exact RcNeAt.lists (e:=λ _=>true) pl.isList c.isList rfl (qh2 (qf5 _ _) i) (λ j h=>absurd h (qj2 _)) X.prog X.w X.xe _ ⟨.bl false,H,I,rfl,q⟩
 |cons x n=>
  have hl:=o.length;refine RcNeAt.lists_lengths pl.isList c.isList ?_ (qh2 (qf5 _ _) i) X.prog X.w X.xe _ ⟨.bl true,H,I,rfl,q⟩;rw[qb1,<-hl];rfl
theorem J1Y(i:X.A.units+64<cLine):OpR X (compareOp .Eq) (rEqN X.K):=by
 intro m s C H x y v u Q I r w h;obtain⟨a,n,b,rfl,rfl,z,A,q⟩:=h;cases r;cases w;obtain⟨B,o,pl,_⟩:=I.list z;obtain⟨p,g,c,_⟩:=I.list A;cases g.zero;cases n with
 |nil=>
  cases o.zero;exact RcAt.lists (e:=λ _=>true) pl.isList c.isList rfl (qh2 (qf5 _ _) i) (λ j h=>absurd h (qj2 _)) X.prog X.w X.xe _ ⟨.bl true,H,I,rfl,q⟩
 |cons x n=>
  have hl:=o.length;refine RcAt.lists_lengths pl.isList c.isList ?_ (qh2 (qf5 _ _) i) X.prog X.w X.xe _ ⟨.bl false,H,I,rfl,q⟩;rw[qb1,<-hl];rfl
end
theorem J3r{J:It}{y:TE}{z:Hp}{D:V0}{n:Nat}{o:St}(A:Option V)(rest:St)(B:Nat->V->Prop)(W:Nat->List V->Hp->Prop)(G:o=A::rest)(hz:n<=sizeLine)(I:W 0 [] (upd z D (.lst [])))(u:∀i vs H,i<n->W i vs H->J.go i H/\∀x c,J.yld i H x c->c=H/\B i x)(g:∀vs H,W n vs H->J.stop n H)(K:∀i x vs H (C:VK),i<n->B i x->W i vs H->H D=some (.lst vs)->(∀v c,c D=some (.lst vs)->W (i+1) (vs++[v]) (upd c D (.lst (vs++[v])))->C v c)->y (some x::rest) H C)(L:∀vs H,W n vs H->H D=some (.lst vs)->vs.length=n->Q (.ref D) H):Z3g J (Z2G 0) Z2Y y D Q o (upd z D (.lst [])):=by
 refine⟨λ i m p j=>m=n-i/\i<=n/\(∃v,p=v::rest)/\∃vs,j D=some (.lst vs)/\vs.length=i/\W i vs j,⟨n,by simp,qb0 _,⟨A,G⟩,[],Z0d,rfl,I⟩,?_⟩;rintro i m p j ⟨rfl,S,⟨v,rfl⟩,vs,E,hl,r⟩;by_cases h:i<n
 ·obtain⟨go,M⟩:=u i vs j h r;refine .inr ⟨go,λ q c=>(∃v,q=v::rest)/\∃vs,c D=some (.lst vs)/\vs.length=i+1/\W (i+1) vs c,λ q c ⟨a,b⟩=>⟨n-(i+1),qR,rfl,h,a,b⟩,λ x c N=>?_⟩;obtain⟨O,P⟩:=M x c N;subst O;unfold Z2G Z2Y;rw[qm2];refine iteT (K i x vs _ _ h P r E λ v H3 R w=>?_);exact⟨vs,R,qR,⟨_,rfl⟩,_,Z0d,by rw[qa2,hl];rfl,w⟩
 ·have e:i=n:=by lia
  subst e;exact .inl ⟨g vs j r,L vs j r E hl⟩
def J3y(K:X0)(ta:TE):TT:=λ e H Q=>ta e H λ x b=>∃a c,x=.ref a/\SqL K b a c/\Q (!c.isEmpty) b
theorem J8g{b:TE}{c:St}{Q:Bool->Hp->Prop}:J3y K b c H Q=b c H λ x H1=>∃a xs,x=.ref a/\SqL K H1 a xs/\Q (!xs.isEmpty) H1:=rfl
theorem J5i{a:Expr}{e:TE}(i:PE X a e)(j:∀b,isTrue a X.env b=(do let v<-b;standAt a.pos;holding [v] (truthy v))):PT X a (J3y X.K e):=by
 intro c s g H Q I h;refine isTrue_plain (thn (i c s g H _ I h) λ v m n=>?_) (j _);obtain⟨x,o,p,r1,a,r,rfl,u,q⟩:=n;exact J7I c m g o _ v Q p r1 ⟨_,.inl ⟨r,u,rfl⟩,q⟩
theorem J5N{c:TT}{j:TS}{D:Ends}{a:St}(i:Nat->St->Hp->Prop){n:Nat}(o:i n a H)(hs:∀m a H,i m a H->c a H λ b g=>if b=true then j {D with nx:=λ e H'=>∃m',m'<m/\i m' e H',ct:=λ e H'=>∃m',m'<m/\i m' e H',bk:=D.nx} a g else D.nx a g)(mono:∀a H Q Q',(∀b g,Q b g->Q' b g)->c a H Q->c a H Q'):J4U c j D a H:=by
 refine⟨i,⟨n,o⟩,λ m a H p=>mono a H _ _ (λ b g q=>?_) (hs m a H p)⟩;cases b with
 |true=>exact⟨_,λ e H' h=>h,q⟩
 |false=>exact q
theorem J2O{o:Option (Option V)}{R R':V->Prop}(i:∀v,R v->R' v)(h:opt2 o R):opt2 o R':=by
 unfold opt2 at h ⊢;split at h
 ·exact i _ h
 ·cases h
theorem J1D{i:Nat}(c:St)(H:Hp)(Q Q':Bool->Hp->Prop)(j:∀b g,Q b g->Q' b g)(h:J3y K (Z1P i) c H Q):J3y K (Z1P i) c H Q':=J2O (λ v ⟨a,m,e,n,q⟩=>⟨a,m,e,n,j _ _ q⟩) h
theorem J6s(l:V0)(xs:Array V1)(n:Nat)(b:V0)(ys:Array V1)(m:Nat)(e:Option V0)(i:Array (Option V1))(p:¬(!xs.isEmpty&&Builtin.List.listTooLong (xs.size+ys.size))=true)(j:xs.size<=sizeLine)(h2:xs.size+ys.size<=sizeLine+1):Meets (Builtin.«list.extend» ⟨[.ref l,.ref b],[]⟩) (λ _ R s=>s.heap.get? l=some {cls:=.type "list",dict:=none,data:=.seq xs n,slots:=#[]}/\s.heap.get? b=some {cls:=.type "tuple",dict:=e,data:=.seq ys m,slots:=i}/\R (.ok (.ret Value.none)) {s with heap:=s.heap.update l (Obj.mapSeq λ x=>x++ys),toks:=s.toks}):=by
 refine .of_wp λ c w A R s h=>?_;obtain⟨q,g,d,r,u⟩:=s;obtain⟨hl,o,h⟩:=h;have v:=AutoSeq1.sub_tuple_tuple;have y:=AutoSeq1.sub_list_list;have z:=AutoSeq1.sub_tuple_list;have B:=AutoSeq1.sub_list_tuple;have a:(xs++ys).size<=sizeLine+1:=by rw[Array.size_append];exact h2
 wp_walk using(wpAny_updateSeq hl rfl (hz:=j) (_hz':=a)),wpAny_loadPart' hl,wpAny_loadPart' o
 exact⟨_,rfl,h⟩
def Z4S(K:X0):V->List V->Hp->VK->Prop:=λ x vs H Q=>∃l b a c,x=.ref l/\vs=[.ref b]/\H l=some (.lst a)/\SqT K H b c/\a.length+c.length<=sizeLine/\Q .non (upd H l (.lst (a++c)))
theorem J6l{vs:List V}:Z4S K x vs H Q=∃l b xs a,x=.ref l/\vs=[.ref b]/\H l=some (.lst xs)/\SqT K H b a/\xs.length+a.length<=sizeLine/\Q .non (upd H l (.lst (xs++a))):=rfl
theorem Z6m:MtM X "list.extend" (Z4S X.K):=by
 intro m s M H x vs v us Q I p w h;obtain⟨l,b,N,O,rfl,rfl,o,y,P,q⟩:=h;cases p;obtain⟨u,rfl,A⟩:=w.one;cases A;obtain⟨z,c,n,r,hl,e⟩:=I.lstM o;obtain⟨a,r2,i,R⟩:=I.tuple y;obtain⟨⟨S,B,T,C⟩,D,E,G,J⟩:=id i;cases E;cases J;have K:=r2.length;have L:=r.length;have j:c.toArray.size+a.toArray.size<=sizeLine:=by rw[qb1,qb1];lia
 have g:¬(!c.toArray.isEmpty&&Builtin.List.listTooLong (c.toArray.size+a.toArray.size))=true:=by
  rw[Z6M j,Bool.and_false];exact qc0
 refine call_meets F.slot_list_extend ⟨_,e,rfl⟩ F.entry_list_extend (F.args_list_extend_2 _ _) (J6s l c.toArray n b a.toArray G B C g (by rw[qb1];lia) qR) ⟨e,D,?_⟩;refine⟨.non,_,I.lset (its':=c++a) o e (by simp) (r.append r2) ?_,rfl,q⟩;rw[qa2];lia
open AutoSeq1 (wpAny_loadPart')
section
variable{X:Cx}
def J0H(K:X0):R2:=λ x y H Q=>∃a b c e,x=.ref a/\y=.ref b/\SqT K H a c/\SqT K H b e/\c.length+e.length<=sizeLine/\∀p g,Same H g->SqT K g p (c++e)->Q (.ref p) g
theorem J4d{prog:Program}{w:Y3}{A:M3}{E:V1->M1->Prop}{s:M1}{t b:V0}{m:List V1}{Q:V1->M1->Prop}(u:IsTup s.heap t #[])(v:IsTup s.heap b m.toArray)(h:Q (.ref b) s):wpAny (model prog w) A (binaryOp .Add (.ref t) (.ref b)) Q E s:=by
 obtain ⟨⟨x,y,o,z⟩,p,q,n,hd⟩:=id u;obtain ⟨⟨r,g,i,j⟩,a,c,B,e⟩:=id v;simp only at q hd c e;subst q hd c e;exact concat_meets ⟨_,p,rfl⟩ ⟨_,a,rfl⟩ noFill_tuple_add seq_tuple_add ql9 qm0 (qm1 _ _)
  (tuple_addW0 t b #[] m.toArray n B y g z j (by simp)) ⟨p,a,h⟩
theorem Z5j:OpR X (binaryOp .Add) (J0H X.K):=by
 intro g s J H x y v u Q I n z h;obtain⟨a,b,B,K,rfl,rfl,i,j,L,q⟩:=h;by_cases C:B=[]
 ·subst C;obtain rfl:v=Value.ref a:=n;obtain rfl:u=Value.ref b:=z;obtain⟨M,r,N,_⟩:=I.tuple i;obtain⟨D,r2,m,_⟩:=I.tuple j;cases r;exact J4d N m ⟨.ref b,H,I,rfl,q b H (Same.refl H) (by simpa using j)⟩
 ·refine J5H g s J H _ _ v u Q I n z ⟨a,b,B,K,rfl,rfl,i,j,C,L,λ e=>?_,λ e p O=>?_⟩
  ·subst e;exact q a H (Same.refl H) (by simpa using i)
  ·exact q p _ (λ c o G=>by rw[Z0k (Z0m G O)];exact G) (SqT.of Z0d)
end
open HT
section
variable{prog:Program}{w:Y3}{A:M3}{E:V1->M1->Prop}{s:M1}
theorem Z3K{t g:V0}{items:Array V1}{n o:V1}{a e:Option Int}{Q:V1->M1->Prop}(b:IsTup s.heap t items)(hs:s.heap.IsSliceOf g n o .none)(pl:IsPart n a)(q:IsPart o e)(p:sIx items.size 0 a=0/\sIx items.size items.size e=items.size)(h:Q (.ref t) s):wpAny (model prog w) A (getItem (.ref t) (.ref g)) Q E s:=by
 obtain⟨r,i,j,u⟩:=id hs;have m:s.TypeIs (.ref g) "slice":=⟨r,i,j⟩;unfold getItem;try with_reducible refine wpAny_holding ?_
 first|refine wpAny_bind (wpAny_pure ?_)|skip
 refine wpAny_bind (wpAny_sequenceKey b.typeIs qQ ?_);refine wpAny_bind (wpAny_callSpecial?_slot (name:=Str.ofString "__getitem__") b.typeIs PyProof.Rows.slot_tuple_getitem (wpAny_call_entry PyProof.Rows.slot_tuple_getitem b.typeIs entry_tuple_getitem ?_ (args_tuple_getitem _ _)));show wpAny _ _ (Builtin.Tuple.tupleItemsOf (.ref t)>>=_) _ _ s;refine wpAny_bind (tupleItemsOf_ b ?_);refine wpAny_bind (wpAny_typeOf m ?_);rw[if_pos qQ];refine wpAny_bind (Z2X hs pl q ?_);have c:(((sIx items.size 0 a:Nat):Int)==0&&(1:Int)==1&&(sIx items.size items.size e-sIx items.size 0 a)==items.size)=true:=by
  rw[p.1,p.2];simp
 show wpAny _ _ (if (((sIx items.size 0 a:Nat):Int) == 0&&(1:Int) == 1&&(sIx items.size items.size e - sIx items.size 0 a) == items.size)=true then _ else _) _ _ s;rw [if_pos c];refine wpAny_bind ?_;show wpAny _ _ ((typeOf (.ref t)) >>= _) _ _ s;refine wpAny_bind (wpAny_typeOf b.typeIs (wpAny_pure ?_));rw [if_pos qQ];first
  |exact wpAny_bind (wpAny_rule (wpAny_pure ⟨_,rfl,wpAny_pure h⟩))
  |exact wpAny_bind (wpAny_pure (wpAny_pure ⟨_,rfl,wpAny_pure h⟩))
  |exact wpAny_pure ⟨_,rfl,wpAny_pure h⟩
end
section
variable{X:Cx}
def rSlA(K:X0):V->Option Int->Option Int->Hp->VK->Prop:=λ x e g H Q=>∃a c,x=.ref a/\SqT K H a c/\∀p b,Same H b->SqT K b p (cutV c e g)->Q (.ref p) b
theorem Z4t:SlR X (rSlA X.K):=by
 intro b s D H x v G J j m K Q I y hs pl z h;obtain⟨a,xs,rfl,n,q⟩:=h;by_cases i:HT.sIx xs.length 0 j=0/\HT.sIx xs.length xs.length m=xs.length
 ·obtain rfl:v=Value.ref a:=y;obtain⟨u,r,B,M⟩:=I.tuple n;have g:u.toArray.size=xs.length:=by rw[qb1];exact r.length.symm
  refine⟨"tuple",_,PyProof.Rows.slot_tuple_getitem.lookup,B.typeIs,?_⟩;refine Z3K B hs pl z (by rw[g];exact i) ⟨.ref a,H,I,rfl,q a H (Same.refl H) ?_⟩;have e:cutV xs j m=xs:=by
   unfold cutV;rw[i.1,i.2,ql0,qj3,qd1]
  rw[e];exact n
 ·exact J7j b s D H _ v G J j m K Q I y hs pl z ⟨a,xs,rfl,n,i,λ p L=>q p _ (λ c o C=>by rw[Z0k (Z0m C L)];exact C) (SqT.of Z0d)⟩
end
def J4B(K:X0):List V->Hp->VK->Prop:=λ b H Q=>∃p a,b=[V.ref p]/\((SqL K H p a/\∀(l:V0),H l=none->Q (V.ref l) (upd H l (HO.tup a)))\/(SqT K H p a/\Q (V.ref p) H))
theorem J7L{xs:List V}:J4B K xs H Q=(∃p ys,xs=[V.ref p]/\((SqL K H p ys/\∀(l:V0),H l=none->Q (V.ref l) (upd H l (HO.tup ys)))\/(SqT K H p ys/\Q (V.ref p) H))):=rfl
section
variable{X:Cx}{N:List M2}{nl:List (Option Nat)}{scope:Scope}{cl:List (M2×V0)}{elt tg iter:Expr}{pos pos' spos:Pos}{wi:TI}{g:TG}{tc:TT}{te:TE}{i:Nat}{x:M2}
theorem Z7u{h:List (V0×Obj)}{A:St}{K:Ends}(O:X.N.Nodup)(P:X.N[i]?=some x)(L:X.env.scope.names.lookup x=some .local)(D C:V0)(s' u:M1)(M:List V0)(B:St)(H' E:Hp)(j:Inv X h A E u)(Q:∀b∈M,FpOk X h E b)(G:u.heap.objs.size<=C)(J:Inv (X.block N scope cl C M u E) [] B H' s')(q:K.nx (A.set i (some (.ref D))) H'):compPost (model X.prog X.w) X.A X.xe (some (assign (.Name x pos') X.env)) (λ _ R=>SP X h K .next R) (.ref D) C (.ok .next) s':=by
 have S:Inv X h A H' s':=Z7z (h2:=s'.heap) j Q G J λ b o _ e=>e;have w:∀b o,u.heap.get? b=some o->b≠C:=λ b o e=>qb3 (qc9 (Heap.lt_size e) G);have n:C≠X.env.locals:=λ z=>by
  obtain⟨m,⟨o,_,_,r,_⟩,_⟩:=j.loc;exact w _ o r z.symm
 obtain⟨m,T,_⟩:=J.loc;show wpAny _ _ (assign (.Name x pos') X.env (.ref D)) _ _ _;have e:assign (.Name x pos') X.env (.ref D)=(do standAt pos';bindName X.env x (.ref D)):=by rfl
 rw[e];refine wpAny_bind (wpAny_standAt (wpAny_bindName ?_));refine Z7j (v:=.ref D) S O P (.inl L) rfl (λ U Y ⟨a,Z,ha⟩=>?_) (.inr L);have H:C≠a:=by
  rcases ha with z|z
  ·rw[z];exact n
  ·obtain⟨v,o,r,_⟩:=j.cell x a z;exact λ z2=>w a o r z2.symm
 refine⟨m,T.sameBut Z H,λ h' I=>⟨_,H',?_,q⟩⟩;refine Y.turned (t':=U.toks) (it:=C) (λ b o hb e=>I.extBut b o hb e) J.free n (.inr (qa9 j.sz G)) (λ y c e z=>?_) λ p hp z=>?_
 ·obtain⟨v,o,r,_⟩:=j.cell y c e;exact w c o r z
 ·exact w p.1 _ (j.pin p hp).1 z
def J5L(i:Nat)(t:TE):TS:=λ D a H=>t a H λ v b=>D.nx (a.set i (some v)) b
theorem Z2J(a:X.calm=true)(p:X.N.Nodup)(r:X.N[i]?=some x)(u:X.env.scope.names.lookup x=some .local)(B:BlockOk X N nl scope cl)(e:PI X tg iter wi)(w:∀C b s H,PG (X.block N scope cl C b s H) tg g)(y:∀C b s H,PE (X.block N scope cl C b s H) elt te)(hs:∀x,foldedSetIterable iter X.env x=pure x:=by intro _;rfl)(j:swapsWith (.ListComp elt [⟨tg,iter,[],0⟩] scope pos) (some (.Name x pos')) spos.line X.env=pure true:=by rfl):PS X (.Assign [.Name x pos'] (.ListComp elt [⟨tg,iter,[],0⟩] scope pos) spos) (J5L i (J0F wi nl g Z2Y te)):=by
 intro c s A H D I h;rw[exec_Assign_Name_used _ _ _ _ j];refine wpAny_bind (wpAny_standAt (wpAny_bind ?_));show wpAny _ _ (evalThenUse (.ListComp elt [⟨tg,iter,[],0⟩] scope pos) X.env _) _ _ _;unfold evalThenUse;refine wpAny_bind ?_;exact thn (Z4j (Q:=λ v m=>D.nx (A.set i (some v)) m) (tst:=λ _=>pure true) (Q':=λ _ o=>SP X c D .next o) a B e w (λ _ _ _ _=>J1w) y Z9I hs I h (λ E C G K b n m L M O P J q=>Z7u p r u E C G K b n m L M O P J q) _) λ _ o z=>wpAny_pure (wpAny_pure z)
theorem Z8V{c:Expr}(b:X.calm=true)(u:X.N.Nodup)(w:X.N[i]?=some x)(y:X.env.scope.names.lookup x=some .local)(B:BlockOk X N nl scope cl)(m:PI X tg iter wi)(A:∀C a s H,PG (X.block N scope cl C a s H) tg g)(E:∀C a s H,PT (X.block N scope cl C a s H) c tc)(G:∀C a s H,PE (X.block N scope cl C a s H) elt te)(hs:∀x,foldedSetIterable iter X.env x=pure x:=by intro _;rfl)(n:swapsWith (.ListComp elt [⟨tg,iter,[c],0⟩] scope pos) (some (.Name x pos')) spos.line X.env=pure true:=by rfl):PS X (.Assign [.Name x pos'] (.ListComp elt [⟨tg,iter,[c],0⟩] scope pos) spos) (J5L i (J0F wi nl g tc te)):=by
 intro e s K H D I h;rw[exec_Assign_Name_used _ _ _ _ n];refine wpAny_bind (wpAny_standAt (wpAny_bind ?_));show wpAny _ _ (evalThenUse (.ListComp elt [⟨tg,iter,[c],0⟩] scope pos) X.env _) _ _ _;unfold evalThenUse;refine wpAny_bind ?_;exact thn (Z4j (Q:=λ v o=>D.nx (K.set i (some v)) o) (tst:=λ j=>isTrue c j (eval c j)) (Q':=λ _ r=>SP X e D .next r) b B m A (λ C a s H=>J4Z (E C a s H)) G Z9d hs I h (λ L C M O a p o P R S T J q=>Z7u u w y L C M O a p o P R S T J q) _) λ _ r z=>wpAny_pure (wpAny_pure z)
end
theorem J8x{b:TI}{nl:List (Option Nat)}{g:TG}{c:TT}{e:TE}{a:St}:J0F b nl g c e a H Q=(b a H λ J h=>∀D,h D=none->Z3g J g c e D Q (stOf nl a) (upd h D (.lst []))):=rfl
theorem J8q{i:Nat}{t:TE}{D:Ends}{a:St}:J5L i t D a H=(t a H λ v H'=>D.nx (a.set i (some v)) H'):=rfl
theorem J9q{y:V}:rEqD K x y H Q=(∃d e,RdD K H x d/\RdD K H y e/\shaped d=true/\shaped e=true/\Q (.bl (PyData.eqv d e)) H):=rfl
theorem J8V{y:V}:rNeD K x y H Q=(∃d e,RdD K H x d/\RdD K H y e/\shaped d=true/\shaped e=true/\Q (.bl (!PyData.eqv d e)) H):=rfl
theorem J8h{b:TA}{c:St}{R:It->Hp->Prop}:J7O K b c H R=(b c H λ vs e=>∃a,vs=[.ref a]/\(∃xs,SqL K e a xs)/\R (Ite K a) e):=rfl
theorem J6R{xs:List V}:Z5T K xs H Q=(∃a d,xs=[.ref a]/\RdD K H (.ref a) d/\d.showable=true/\d.hasDict=false/\d.depth<=60/\d.shown.length<=sizeLine/\Q (.str d.shown) H):=rfl
end L2
end
section
namespace PW
open PySem P15
inductive Vl|int(i:Int)|bl(b:Bool)|thing(n:Nat)
structure Wd where
 name:M2
 params:List (M2×M2)
 kind:M2
 body:Tm
structure Hs where
 name:M2
 elder:Option M2
 fields:List (M2×M2)
 words:List Wd
structure Pg where
 houses:List Hs
 main:Wd
structure Sc where
 house:Option M2
 own:Option Vl
 bound:List (M2×Vl)
inductive Wt|walk(t:Tm)(s:Sc)|choose(t:Tm)(s:Sc)|finish(t:Tm)(s:Sc)|leave
structure Ws where
 wait:List Wt
 known:List Vl
 made:List (M2×List Vl)
 counted:Nat
 within:Nat
 ended:Option (List M2)
def IxAt{α:Type}(xs:List α)(x:α)(i:Nat):Prop:=xs[i]?=some x/\∀j,j<i->xs[j]?≠some x
def Look(P:Pg)(h:M2)(H:Hs):Prop:=H∈P.houses/\H.name=h
inductive Chain(P:Pg):M2->List M2->Prop
 |top{h:M2}{H:Hs}:Look P h H->H.elder=none->Chain P h []
 |up{h e:M2}{H:Hs}{es:List M2}:Look P h H->H.elder=some e->Chain P e es->Chain P h (e::es)
inductive Z0Z(P:Pg)(w:M2):List M2->M2->Nat->Wd->Prop
 |here{h:M2}{H:Hs}{es:List M2}{i:Nat}{d:Wd}:Look P h H->IxAt (H.words.map Wd.name) w i->H.words[i]?=some d->Z0Z P w (h::es) h i d
 |there{h h':M2}{H:Hs}{es:List M2}{i:Nat}{d:Wd}:Look P h H->w∉H.words.map Wd.name->Z0Z P w es h' i d->Z0Z P w (h::es) h' i d
inductive Flds(P:Pg):List M2->List (M2×M2)->Prop
 |nil:Flds P [] []
 |cons{h:M2}{H:Hs}{l:List M2}{fs:List (M2×M2)}:Look P h H->Flds P l fs->Flds P (h::l) (H.fields++fs)
def Z1i(P:Pg)(h f:M2)(j:Nat):Prop:=∃a fs,Chain P h a/\a.length<=100/\Flds P (h::a).reverse fs/\fs.length<=100/\IxAt (fs.map Prod.fst) f j
def leaf:Fm->Prop
 | .number| .truth| .name| .self=>True
 |_=>False
end PW
end
section
namespace WK
open PySem L2 P15 TM PW
inductive A2{α β:Type}(R:α->β->Prop):List α->List β->Prop
 |nil:A2 R [] []
 |cons{a:α}{b:β}{as:List α}{bs:List β}:R a b->A2 R as bs->A2 R (a::as) (b::bs)
section
variable{α β:Type}{R R':α->β->Prop}
theorem A2.len:∀{b:List α}{bs:List β},A2 R b bs->b.length=bs.length
 |_,_,.nil=>rfl
 |_,_,.cons _ h=>congrArg (·+1) h.len
theorem A2.monoM:∀{e:List α}{bs:List β},A2 R e bs->(∀a b,a∈e->R a b->R' a b)->A2 R' e bs
 |_,_,.nil,_=>.nil
 |_,_,.cons a h,f=>.cons (f _ _ qc2 a) (h.monoM λ a b m=>f a b (qc4 _ m))
theorem A2.mono{e:List α}{bs:List β}(h:A2 R e bs)(f:∀a b,R a b->R' a b):A2 R' e bs:=h.monoM λ a b _=>f a b
theorem A2.app:∀{e b:List α}{bs bs':List β},A2 R e bs->A2 R b bs'->A2 R (e++b) (bs++bs')
 |_,_,_,_,.nil,h=>h
 |_,_,_,_,.cons a h,g=>.cons a (h.app g)
theorem A2.snoc{e:List α}{bs:List β}{a:α}{b:β}(h:A2 R e bs)(r:R a b):A2 R (e++[a]) (bs++[b]):=h.app (.cons r .nil)
theorem A2.split:∀{bs bs':List β}{b:List α},A2 R b (bs++bs')->∃xs ys,b=xs++ys/\A2 R xs bs/\A2 R ys bs'
 |[],_,b,h=>⟨[],b,rfl,.nil,h⟩
 |_::bs,_,_,.cons a h=>by
  obtain⟨xs,ys,rfl,p,q⟩:=A2.split h;exact⟨_::xs,ys,rfl,.cons a p,q⟩
theorem A2.one{a:List α}{b:β}(h:A2 R a [b]):∃x,a=[x]/\R x b:=by
 cases h with
 |cons r t=>cases t;exact⟨_,rfl,r⟩
theorem A2.at:∀{e:List α}{bs:List β}{i:Nat}{a:α},A2 R e bs->e[i]?=some a->∃b,bs[i]?=some b/\R a b
 |_,_,0,_,.cons r _,h=>by cases h;exact⟨_,rfl,r⟩
 |_,_,i+1,_,.cons _ t,h=>t.at (i:=i) h
theorem A2.to:∀{e:List α}{bs:List β}{i:Nat}{b:β},A2 R e bs->bs[i]?=some b->∃a,e[i]?=some a/\R a b
 |_,_,0,_,.cons r _,h=>by cases h;exact⟨_,rfl,r⟩
 |_,_,i+1,_,.cons _ t,h=>t.to (i:=i) h
theorem A2.nil_inv{b:List α}(h:A2 R b []):b=[]:=by cases h;rfl
theorem A2.of:∀{g:List α}{bs:List β},g.length=bs.length->(∀(j:Nat) a,g[j]?=some a->∃b,bs[j]?=some b/\R a b)->A2 R g bs
 |[],[],_,_=>.nil
 |a::g,b::bs,e,h=>by
  obtain⟨o,i,r⟩:=h 0 a rfl;cases i;exact .cons r (A2.of (ql1 e) λ j m n=>h (j+1) m n)
end
structure CS where
 term:V0
 word:V0
 house:V0
 program:V0
 hall:V0
 scope:V0
 waits:V0
 walk:V0
 bs:Hp
structure CS.Ok(c:CS):Prop where
 term:c.term≠c.walk
 word:c.word≠c.walk
 house:c.house≠c.walk
 hall:c.hall≠c.walk
 scope:c.scope≠c.walk
 waits:c.waits≠c.walk
structure Kw(C:V0)(H H':Hp):Prop where
 t:∀b xs,H b=some (.tup xs)->H' b=some (.tup xs)
 z:∀b o xs,H b=some (.frz o (.tup xs))->H' b=some (.frz o (.tup xs))
 i:∀b D dx f fs,D≠C->H b=some (.ins D dx (f::fs))->H' b=some (.ins D dx (f::fs))
 d:∀b kvs,H b=some (.dK kvs)->H' b=some (.dK kvs)
section
variable{C:V0}{H H' H'':Hp}{K:X0}
theorem Kw.trans(a:Kw C H H')(b:Kw C H' H''):Kw C H H'':=⟨λ _ _ h=>b.t _ _ (a.t _ _ h),λ _ _ _ h=>b.z _ _ _ (a.z _ _ _ h),λ _ _ _ _ _ n h=>b.i _ _ _ _ _ n (a.i _ _ _ _ _ n h),λ _ _ h=>b.d _ _ (a.d _ _ h)⟩
theorem Kw.of(s:Same H H'):Kw C H H':=⟨λ _ _ h=>s _ _ h,λ _ _ _ h=>s _ _ h,λ _ _ _ _ _ _ h=>s _ _ h,λ _ _ h=>s _ _ h⟩
theorem Kw.ins{a g:V0}{fs:List (M2×V)}(o:HO)(h:H a=some (.ins C g fs)):Kw C H (upd H a o):=
  ⟨λ b i e=>by rw[Z0k (λ z=>by rw[z,h]at e;cases e)];exact e,λ b o i e=>by rw[Z0k (λ z=>by rw[z,h]at e;cases e)];exact e,
   λ b D g f fs n e=>by rw[Z0k (λ z=>by rw[z,h]at e;cases e;exact n rfl)];exact e,λ b j e=>by rw[Z0k (λ z=>by rw[z,h]at e;cases e)];exact e⟩
theorem Kw.kt(k:Kw C H H'):Kt H H':=⟨k.t,k.z⟩
theorem Z3D{g:Hp}{x:V0}(s:Same H g)(h:SX x g H')(n:H x=none):Same H H':=λ b o e=>h b o (Z0m e n) (s b o e)
mutual
theorem TO.kw{D:V0}(n:D≠C)(k:Kw C H H'):∀{v:V}{t:Tm},TO K D H v t->TO K D H' v t
 |_,_,.mk a b c d e=>.mk (k.i _ _ _ _ _ n a) (SqT.kt b k.kt) (TOs.kw n k c) (SqT.kt d k.kt) (e.kt k.kt)
theorem TOs.kw{D:V0}(n:D≠C)(k:Kw C H H'):∀{vs:List V}{ts:List Tm},TOs K D H vs ts->TOs K D H' vs ts
 |_,_,.nil=>.nil
 |_,_,.cons h hs=>.cons (TO.kw n k h) (TOs.kw n k hs)
end
end
noncomputable def oS:Option M2->V
 |none=>.non
 |some s=>.str s
noncomputable def Z2l(ps:List (M2×M2)):PyData:=.tuple (ps.map λ p=>.tuple [.str p.1,.str p.2])
noncomputable def Z9F(d:Wd):PyData:=.tuple [.str d.name,Z2l d.params,.str d.kind,d.body.dat]
noncomputable def oD:Option M2->PyData
 |none=>.none
 |some s=>.str s
noncomputable def J1c(h:Hs):PyData:=.tuple [.str h.name,oD h.elder,Z2l h.fields,.tuple (h.words.map Z9F)]
noncomputable def J7u(P:Pg):PyData:=.tuple [.tuple (P.houses.map J1c),.tuple [Z2l P.main.params,.str P.main.kind,P.main.body.dat]]
inductive WdO(K:X0)(c:CS)(H:Hp):V->Wd->Prop
 |mk{a dx pt:V0}{bv:V}{d:Wd}:H a=some (.ins c.word dx [("name",.str d.name),("params",.ref pt),("kind",.str d.kind),("body",bv)])->RT K H (.ref pt) (Z2l d.params)->TO K c.term H bv d.body->WdO K c H (.ref a) d
inductive HsO(K:X0)(c:CS)(H:Hp):V->Hs->Prop
 |mk{a dx ft wt:V0}{ws:List V}{h:Hs}:H a=some (.ins c.house dx [("name",.str h.name),("elder",oS h.elder),("own_fields",.ref ft),("own_words",.ref wt)])->RT K H (.ref ft) (Z2l h.fields)->SqT K H wt ws->A2 (WdO K c H) ws h.words->HsO K c H (.ref a) h
inductive PgO(K:X0)(c:CS)(H:Hp):V->Pg->Prop
 |mk{a dx ht:V0}{hs:List V}{mv:V}{P:Pg}:H a=some (.ins c.program dx [("all_houses",.ref ht),("main",mv)])->SqT K H ht hs->A2 (HsO K c H) hs P.houses->WdO K c H mv P.main->PgO K c H (.ref a) P
structure WdOk(d:Wd):Prop where
 ok:P15.Ok d.body
 fl:d.body.flat.length<=20000
 pl:d.params.length<=100
structure HsOk(h:Hs):Prop where
 wd:∀d∈h.words,WdOk d
 fl:h.fields.length<=100
 wl:h.words.length<=100
structure GOk(P:Pg):Prop where
 nd:(P.houses.map Hs.name).Nodup
 hs:∀h∈P.houses,HsOk h
inductive HlO(K:X0)(c:CS)(H:Hp):V->Pg->Prop
 |mk{a dx io d:V0}{kvs:List (Key×V)}{P:Pg}:H a=some (.ins c.hall dx [("in_order",.ref io),("by_name",.ref d)])->H d=some (.dK kvs)->A2 (λ kv h=>kv.1=.inr h.name/\HsO K c H kv.2 h) kvs P.houses->GOk P->HlO K c H (.ref a) P
section
variable{K:X0}{H H':Hp}{c:CS}
theorem WdO.kw(ok:c.Ok){v:V}{d:Wd}(h:WdO K c H v d)(k:Kw c.walk H H'):WdO K c H' v d:=by
 cases h with
 |mk a b t=>exact .mk (k.i _ _ _ _ _ ok.word a) (b.kt k.kt) (TO.kw ok.term k t)
theorem HsO.kw(ok:c.Ok){v:V}{d:Hs}(h:HsO K c H v d)(k:Kw c.walk H H'):HsO K c H' v d:=by
 cases h with
 |mk a b s t=>exact .mk (k.i _ _ _ _ _ ok.house a) (b.kt k.kt) (SqT.kt s k.kt) (t.mono λ _ _ r=>r.kw ok k)
theorem HlO.kw(ok:c.Ok){v:V}{P:Pg}(h:HlO K c H v P)(k:Kw c.walk H H'):HlO K c H' v P:=by
 cases h with
 |mk a d r n=>exact .mk (k.i _ _ _ _ _ ok.hall a) (k.d _ _ d) (r.mono λ _ _ r=>⟨r.1,r.2.kw ok k⟩) n
theorem WdO.same{v:V}{d:Wd}(h:WdO K c H v d)(s:Same H H'):WdO K c H' v d:=by
 cases h with
 |mk a b t=>exact .mk (s _ _ a) (b.same s) (t.kp (Kp.of s))
theorem HsO.same{v:V}{d:Hs}(h:HsO K c H v d)(s:Same H H'):HsO K c H' v d:=by
 cases h with
 |mk a b q t=>exact .mk (s _ _ a) (b.same s) (SqT.kp q (Kp.of s)) (t.mono λ _ _ r=>r.same s)
theorem PgO.same{v:V}{d:Pg}(h:PgO K c H v d)(s:Same H H'):PgO K c H' v d:=by
 cases h with
 |mk a q t m=>exact .mk (s _ _ a) (SqT.kp q (Kp.of s)) (t.mono λ _ _ r=>r.same s) (m.same s)
theorem HlO.same{v:V}{P:Pg}(h:HlO K c H v P)(s:Same H H'):HlO K c H' v P:=by
 cases h with
 |mk a d r n=>exact .mk (s _ _ a) (s _ _ d) (r.mono λ _ _ r=>⟨r.1,r.2.same s⟩) n
theorem uniq{hs:List Hs}:(hs.map Hs.name).Nodup->∀a b,a∈hs->b∈hs->a.name=b.name->a=b:=by
 induction hs with
 |nil=>intro _ a b h;cases h
 |cons x r o=>
  intro n a b p q e;rw[qb7,qf7]at n;rcases qa4.mp p with j|g<;>rcases qa4.mp q with m|i
  ·rw[j,m]
  ·exact absurd (by rw[<-j,e];exact qe4 i) n.1
  ·exact absurd (by rw[<-m,<-e];exact qe4 g) n.1
  ·exact o n.2 a b g i e
theorem J3E{hs:List Hs}{kvs:List (Key×V)}(r:A2 (λ i h=>i.1=.inr h.name/\HsO K c H i.2 h) kvs hs)(n:(hs.map Hs.name).Nodup){x:Hs}(b:x∈hs):∃v,valV kvs (.inr x.name)=some v/\HsO K c H v x:=by
 induction r with
 |nil=>cases b
 |@cons p q m bs e _ j=>
  rw[qb7,qf7]at n;by_cases g:q.name=x.name
  ·rcases qa4.mp b with rfl|b
   ·exact⟨p.2,Z1l e.1,e.2⟩
   ·exact absurd (g▸qe4 b) n.1
  ·rcases qa4.mp b with rfl|b
   ·exact absurd rfl g
   ·rw[Z1d (by rw[e.1];exact λ z=>g (Sum.inr.inj z))];exact j n.2 b
end
noncomputable def fsW(hl wA ml:V0)(most c w:Nat)(ev:V):List (M2×V):=[("hall",.ref hl),("most",.int most),("waits",.ref wA),("made",.ref ml),("counted",.int c),("within",.int w),("ended",ev)]
structure Ad where
 dx:V0
 hl:V0
 wA:V0
 dw:V0
 wl:V0
 kl:V0
 ml:V0
 ev:V
 ws:List V
 ks:List V
 mz:List (V×V0)
end WK
end
section
namespace PySem
theorem Z9U:typeLookup (.type "zip") "keys"=pure none:=am_miss_of_fast qP
end PySem
end
section
namespace L2
open PySem PySem.Spec PyProof.Rows
theorem Z5b:entryFor table "dict.update.loop"=some Builtin.«dict.update.loop»:=entryFor_of_tree (by kernel_rfl)
theorem Z2S:plainId "dict.update.loop"=true:=by decide+kernel
def absD(ks:Nat->Key)(ys:Nat->V):Nat->List (Key×V)
 |0=>[]
 |i+1=>putK (absD ks ys i) (ks i) (ys i)
theorem Z6w(ks:Nat->Key)(ys:Nat->V):∀i,(absD ks ys i).length<=i
 |0=>qa0 _
 |i+1=>by
  have:=Z1h (absD ks ys i) (ks i) (ys i);have:=Z6w ks ys i;show(putK _ _ _).length<=_;omega
section
variable{P:Program}{w:Y3}{B:M3}{E:V1->M1->Prop}{it Z:V0}{n:Nat}{St:Nat->Array V1->M1->Prop}{Fin:Array V1->M1->Prop}{R:Result->M1->Prop}
theorem J2L(W:J0U P w B.in1 it Z n St Fin)(fr:∀(i:Nat)(a:Array V1)(s:M1)(h':Z3)(t:Nat),St i a s->(∀b o,b≠Z->s.heap.get? b=some o->h'.get? b=some o)->s.heap.objs.size<=h'.objs.size->St i a {s with heap:=h',toks:=t})(ks:Nat->Key)(ys:Nat->V)(L:∀(i:Nat)(a:Array V1)(v:V1)(s:M1),i<n->St (i+1) (a.push v) s->∃T h c o m,v=.ref T/\s.heap.get? T=some o/\o.cls=.type "tuple"/\o.data=.seq #[h,c] m/\(Z0M P w).is (ks i) h=true/\RelV (ys i) c)(M:n<=sizeLine)(res:V1):∀(k i:Nat)(s:M1)(a:Array V1)(vs:List (Key×V1)),n-i=k->i<=n->St i a s->KV (absD ks ys i) vs->s.heap.DictOf (Z0M P w) Z vs->(∀j p r,Fin p j->KV (absD ks ys n) r->j.heap.DictOf (Z0M P w) Z r->R (.ok (.ret res)) j)->codeAny (model P w) B (.builtin "dict.update.loop" ⟨[.ref Z,.ref it,rawInt i,res],[]⟩) R s:=by
 intro k;induction k with
 |zero=>
  intro i s a vs I A C z g q;have N:i=n:=Nat.le_antisymm A (qm3.mp I);subst N;refine codeAny_builtin Z5b ?_;rw[Around.under_plainId Z2S ⟨[.ref Z,.ref it,rawInt i,res],[]⟩];show wpAny (model P w) B.in1 (pyNext (.ref it)>>=_) _ _ s;refine wpAny_bind (W.done a s _ _ C λ j f D=>?_);show wpAny _ _ (Builtin.Dict.addKeywords Z []>>=_) _ _ _;exact wpAny_bind (wpAny_pure (wpAny_pure (q j a vs f z (g.at D))))
 |succ k O=>
  intro i s a vs I A C z g q;have lt:i<n:=by omega
  refine codeAny_builtin Z5b ?_;rw[Around.under_plainId Z2S ⟨[.ref Z,.ref it,rawInt i,res],[]⟩];show wpAny (model P w) B.in1 (pyNext (.ref it)>>=_) _ _ s;refine wpAny_bind (W.item i a s _ _ lt C λ v J u D=>?_);obtain⟨T,h,c,⟨oc,Q,S,U⟩,m,rfl,K,x,y,G,H⟩:=L i a v J lt u;dsimp only at x y;subst x y;have X:=g.at D;dsimp only;refine wpAny_bind (wpAny_holding (wpAny_bind (wpAny_tryCatch ?_)));unfold Builtin.Dict.pairItems;refine wpAny_bind (wpAny_typeOf (T:="tuple") ⟨_,K,rfl⟩ ?_);have Y:(Value.type "tuple"==Value.type "list"||Value.type "tuple"==Value.type "tuple")=true:=by decide
  rw[if_pos Y];unfold seqItems?;refine wpAny_bind (wpAny_bind (wpAny_load K (wpAny_pure ?_)));refine wpAny_pure ?_;show wpAny (model P w) B.in1 (holding [h,c] (dictSet Z h c)) _ _ _;have hl:vs.length<=sizeLine:=by
   rw[<-z.length];exact qa9 (Z6w ks ys i) (qa9 A M)
  refine wpAny_holding (wpAny_dictSet_pairs (hsz:=hl) G X λ h' dd hs=>?_);refine wpAny_pure ⟨plainId_quiet Z2S ⟨[.ref Z,.ref it,rawInt ((i:Int)+1),res],[]⟩,?_⟩;exact O (i+1) _ (a.push (.ref T)) (stored vs (ks i) c) (by omega) lt (fr (i+1) _ J h' _ u (λ b o hb e=>(hs.2 b hb).trans e) (qg7 hs.1.symm)) (KV.put z (ks i) H) dd q
end
noncomputable def zipD(ks:List M2)(ys:List V):List (Key×V):=absD (λ i=>.inr (ks.getD i "")) (λ i=>ys.getD i .non) (min ks.length ys.length)
section
variable{X:Cx}{pins:List (V0×Obj)}{σ:St}{H1:Hp}{s1:M1}{l1 l2:V0}{xs ys:List V}
def J4J(xs:List V)(H:Hp)(Q:VK):Prop:=∃a b,xs=[V.ref a]/\H a=some (.dK b)/\∀p,H p=none->Q (.ref p) (upd H p (.dK b))
theorem J7e{xs:List V}{H:Hp}{Q:VK}:J4J xs H Q=∃a kvs,xs=[V.ref a]/\H a=some (.dK kvs)/\∀p,H p=none->Q (.ref p) (upd H p (.dK kvs)):=rfl
theorem J0L:Z3V X (.type "dict") J4J:=by
 intro pins s σ H xs us Q I r h;obtain⟨a,b,rfl,c,q⟩:=h;obtain⟨u,rfl,e⟩:=Z8K r;cases e;exact J4p I (.inl c) λ p j g i=>⟨.ref p,_,i,rfl,q p g⟩
def J4K:V->List V->Hp->VK->Prop:=λ x vs H Q=>∃(l:V0)(ks:List M2)(k:M2)(j:Nat),x=.ref l/\vs=[.str k]/\H l=some (.lst (ks.map V.str))/\ks[j]?=some k/\(∀i,i<j->ks[i]?≠some k)/\Q (.int j) H
theorem J6G{x:V}{vs:List V}{H:Hp}{Q:VK}:J4K x vs H Q=∃(l:V0)(ks:List M2)(k:M2)(j:Nat),x=.ref l/\vs=[.str k]/\H l=some (.lst (ks.map V.str))/\ks[j]?=some k/\(∀i,i<j->ks[i]?≠some k)/\Q (.int j) H:=rfl
theorem Z1Q:∀ks:List M2,(ks.map V.str).all Z5D=true
 |[]=>rfl
 |_::ks=>by rw[qb7,List.all_cons,Z1Q ks];rfl
theorem Z3C:MtM X "list.index" J4K:=by
 intro pins s σ H x vs v us Q I N O h;obtain⟨l,ks,k,j,rfl,rfl,P,K,D,q⟩:=h;cases N;obtain⟨u,rfl,R⟩:=O.one;obtain⟨z,a,n,r,hl,e⟩:=I.lstM P;have T:=Z5r;have p:j<a.length:=by
  rw[<-hl,qa1];exact(qa6.mp K).1
 have A:∀(m:Nat)(C:m<a.toArray.size),∃B,ks[m]?=some B/\eqU (.str k) a.toArray[m]=eqV (.str B) (.str k):=λ m C=>by
  have g:m<a.length:=by simpa using C
  have L:m<ks.length:=by rw[<-hl,qa1]at g;exact g
  obtain⟨w,M,E⟩:=r.get (i:=m) (x:=.str ks[m]) (by rw[qa8,qa3 L];rfl);refine⟨ks[m],qa3 L,?_⟩;have:a.toArray[m]=w:=by
   rw[qa3 g]at M;simpa using M
  rw[this,J2c E rfl]
 refine call_meets F.slot_list_index ⟨_,e,rfl⟩ F.entry_list_index (F.args_list_index_2 _ _) (SeqAt.list_indexAt l a.toArray n none #[] u (eqU (.str k)) j (by simpa using p) qR ?_ ?_) ⟨e,λ y S=>Z3n R rfl r (Z1Q ks) y (by simpa using S),?_⟩
 ·obtain⟨B,c,G⟩:=A j (by simpa using p);rw[G];rw[K]at c;cases c;simp[eqV]
 ·intro m C J;obtain⟨B,c,G⟩:=A m C;rw[G];have:=D m J;rw[c]at this;have:B≠k:=λ z=>this (by rw[z]);simp[eqV,this]
 ·exact⟨.int j,H,I.kept (t':=s.toks+1) (λ b o e=>e),⟨_,rfl⟩,q⟩
end
theorem Z6g{K:X0}{C C':V0}{m q i:M2}{st g:Stmt}(a:MFn K C m q st)(b:MFn K C' m i g)(h:q≠i):C≠C':=by
 intro e;subst e;obtain⟨f,n,F,M⟩:=a.ex;obtain⟨T,z,A,B⟩:=b.ex;have D:=M.at_.symm.trans B.at_;cases D;obtain⟨U,Y,kV,E,Z,an,cdv,ct,G,e,H,I⟩:=F.ex;obtain⟨J,L,N,r,O,Q,u,R,v,S,c,y⟩:=A.ex;rw[H]at c;have:=congrArg (λ o:Option Obj=>match o with|some ⟨_,_,.func n,_⟩=>some n.qualname|_=>none) c;subst e S;exact h (by simpa[W.fnOf]using this)
variable{X:Cx}
variable{Q:List (V×V)->Hp->Prop}{H:Hp}
theorem J8e{a:St}:Z5w [] a H Q=Q [] H:=rfl
theorem J8j{tk b:TE}{r:List (TE×TE)}{a:St}:Z5w ((tk,b)::r) a H Q=tk a H λ x c=>b a c λ y e=>Z5w r a e λ ps H3=>Q ((x,y)::ps) H3:=rfl
theorem J8m{a:List (TE×TE)}{b:St}{Q:VK}:J7y a b H Q=New H (.dK []) λ p g=>Z5w a b g λ ps c=>c p=some (.dK [])/\∃kvs:List (Key×V),ps=kvs.map (λ e=>(kV e.1,e.2))/\kvs.length<=15/\Q (.ref p) (upd c p (.dK (Z2W [] kvs))):=rfl
end L2
end
section
namespace L2
open PySem PySem.Spec PySem.Calls PyProof.Rows
def J5d{α:Type}(n:Nat)(Q:α->Prop):W.KasT α->Prop
 | .ret a=>Q a
 | .ask i j k=>i<n/\j<n/\∀b,J5d n Q (k b)
def Pm(n:Nat)(p:Array Nat):Prop:=p.toList.Perm (qe2 n)
section
variable{n:Nat}{p:Array Nat}
theorem Pm.lt(h:Pm n p)(b:0<n)(i:Nat):p.getD i 0<n:=by
 rw[Array.getD_eq_getD_getElem?];cases e:p[i]? with
 |none=>exact b
 |some x=>
  have c:x∈p.toList:=by
   rw[ql7];exact Array.mem_of_getElem? e
  exact qe9.mp (h.mem_iff.mp c)
theorem Z9T(h:Pm n p)(c:0<n)(k:Nat):∀f l r,J5d n (λ _=>True) (W.kas_place p k f l r)
 |0,_,_=>trivial
 |f+1,l,r=>by
  show J5d n _ (if l>=r then _ else _);split
  ·exact trivial
  ·exact⟨h.lt c _,h.lt c _,λ b=>by
    cases b
    ·exact Z9T h c k f _ _
    ·exact Z9T h c k f _ _⟩
end
def iAny(K:X0)(tl:TE):TI:=λ e H R=>tl e H λ v b=>∃a,v=.ref a/\((∃c,SqL K b a c/\R (Itl K a) b)\/(∃c,SqT K b a c/\R (Itt K a) b))
theorem J9E{K:X0}{c:TE}{e:St}{H:Hp}{R:It->Hp->Prop}:iAny K c e H R=c e H λ v b=>∃a,v=.ref a/\((∃xs,SqL K b a xs/\R (Itl K a) b)\/(∃xs,SqT K b a xs/\R (Itt K a) b)):=rfl
theorem J7H{X:Cx}{w l:Expr}{r:TE}(hl:PE X l r):PI X w l (iAny X.K r):=by
 intro c s y H R I h;refine thn (hl c s y H _ I h) λ v g m=>?_;obtain⟨x,n,i,r1,a,e,z⟩:=m;subst e;cases r1;have u:∀b∈[g.heap.objs.size],FpOk X c n b:=λ b A=>by
  cases qa5.mp A;exact i.fpOk (qa0 _) (i.hok.fresh (qa0 _))
 rcases z with⟨B,p,q⟩|⟨B,p,q⟩
 ·obtain⟨j,C,pl,m⟩:=i.list p;refine wpAny_pyIter_list pl.isList ?_;exact⟨g.heap.objs.size,[g.heap.objs.size],_,_,n,rfl,i.kept (t':=g.toks) (λ b o e=>Heap.get?_push_of_some _ e),Z6Z a _,⟨_,Heap.get?_push_size _ rfl,rfl,rfl⟩,u,q⟩
 ·obtain⟨j,C,pl,m⟩:=i.tuple p;refine wpAny_pyIter_tuple (show g.heap.IsTuple a j.toArray from pl) ?_;exact⟨g.heap.objs.size,[g.heap.objs.size],_,_,n,rfl,i.kept (t':=g.toks) (λ b o e=>Heap.get?_push_of_some _ e),Z6h a _,⟨_,Heap.get?_push_size _ rfl,rfl,rfl⟩,u,q⟩
def LFin(s:M1)(its:List V1)(acc:Array V1)(s2:M1):Prop:=∃c a,s2={s with heap:=c,toks:=a}/\(∀b o,s.heap.get? b=some o->c.get? b=some o)/\acc.toList=its
noncomputable def Z5g(ks:List M2)(ys:List V):List (Key×V):=absD (λ i=>.inr (ks.getD i "")) (λ i=>ys.getD i .non) ks.length
end L2
end
section
namespace PySem
theorem Z6N:typeLookup (.type "tuple") "keys"=pure none:=am_miss_of_fast qP
theorem J0s{prog:Program}{w:Y3}{A:M3}{E:V1->M1->Prop}{s:M1}{a:V0}{o:Obj}{xs:Array V1}{k:Nat}{Q:Option V1->M1->Prop}(v:A.handled=none)(n:s.heap.get? a=some o)(p:o.cls=.type "tuple")(c:o.data=.seq xs k)(e:o.dict=none)(h:∀h' tk,(∀b u,s.heap.get? b=some u->h'.get? b=some u)->Q none {s with heap:=h',toks:=tk}):wpAny (model prog w) A (getAttr? (.ref a) "keys") Q E s:=by
 obtain⟨x,y,q,m⟩:=o;dsimp only at p c e;subst p c e;obtain⟨z,g,d,tk,B⟩:=s;have r:∀i,(⟨z,g,d,i,B⟩:M1).TypeIs (.ref a) "tuple":=λ _=>⟨_,n,rfl⟩;have C:=sub_AttributeError;have D:=F.slot_tuple_getattribute.lookup;have G:=F.slot_tuple_getattribute.bind (.ref a);have H:=am_tuple_getattr_none;unfold getAttr? getAttrBy? getAttrBy;repeat (any_goals (first|assumption|exact r _|((with_reducible show wpAny _ _ (call (Value.builtin "tuple.__getattribute__") _ _) _ _ _);refine call_meets F.slot_tuple_getattribute (r _) am_entry_tuple_getattribute (F.args_tuple_getattribute_2 _ _) (meets_getattribute_miss_tuple a xs k m "keys" _ Z6N qP (by size_fits)) ⟨n,v,λ I i J j=>?_⟩)|wp_step))
 obtain⟨ty,K,L⟩:=j.there;show wpAny _ _ (getattributeRaised _ _ _ _ _ _ _) _ _ _;unfold getattributeRaised;repeat (any_goals (first|assumption|wp_step))
 exact h _ _ j.keeps
end PySem
namespace L2
open PySem PySem.Spec PyProof.Rows
def TSt(s:M1)(it l:V0)(its:List V1)(i:Nat)(acc:Array V1)(s2:M1):Prop:=∃a c,s2={s with heap:=a,toks:=c}/\a.IsTupleIter it l i/\(∀b o,s.heap.get? b=some o->a.get? b=some o)/\acc.toList=its.take i/\i<=its.length
theorem IsTup.up{h h2:Z3}{a:V0}{xs:Array V1}(x:IsTup h a xs)(k:∀b o,h.get? b=some o->h2.get? b=some o):h2.IsTuple a xs:=x.keeps k
theorem J2e{P:Program}{w:Y3}{A:M3}(C:A.handled=none){it Z l:V0}{its:List V1}{s:M1}(hl:IsTup s.heap l its.toArray)(v:s.heap.objs.size<=it)(D:s.heap.objs.size<=Z)(g:Z≠it):J0U P w A it Z its.length (TSt s it l its) (LFin s its)where
 item:=by
  rintro i h p Q E a ⟨r,c,rfl,m,k,j,_⟩ q;have G:its.toArray[i]?=some its[i]:=by simp
  refine wpAny_pyNext_tuple_item m (IsTup.up hl k) G λ n u x=>q _ _ ⟨n,c,rfl,u,λ b o e=>(x.2 b λ z=>?_).trans (k b o e),?_,a⟩ λ o e=>(x.2 Z g).trans e
  ·exact absurd (Heap.lt_size e) (by rw[z];exact qf4.mpr v)
  ·rw[qm4,j,qh3 a]
 done:=by
  rintro h p Q E ⟨r,c,rfl,m,k,j,_⟩ q;refine wpAny_pyNext_tuple_end C m (IsTup.up hl k) (by simp) λ n y=>q _ ⟨n,c,rfl,λ b o e=>y b o (λ z=>?_) (k b o e),?_⟩ λ o e=>y Z o g e
  ·exact absurd (Heap.lt_size e) (by rw[z];exact qf4.mpr v)
  ·rw[j,qe1 (qa0 _)]
 size:=by
  rintro i h p ⟨r,c,rfl,m,k,j,a⟩;rw[<-qg6,j,qd0];exact qf2 a
 frame:=by
  rintro i h p n ⟨r,c,rfl,m,k,j,a⟩ B _;exact⟨n,c,rfl,m.at λ o e=>B it o (Ne.symm g) e,λ b o e=>B b o (λ z=>absurd (Heap.lt_size e) (by rw[z];exact qf4.mpr D)) (k b o e),j,a⟩
end L2
end
section
namespace L2
open PySem PySem.Spec PyProof.Rows
def Itd(d:V0)(o:Obj)(kvs:List (Key×V)):It:=
 ⟨λ i H=>H d=some (.frz o (.dK kvs))/\i<kvs.length,λ i H x a=>a=H/\∃k v,kvs[i]?=some (k,v)/\x=kV k,λ i H=>H d=some (.frz o (.dK kvs))/\kvs.length<=i⟩
def UTup(K:X0)(a:V0)(xs:List V):Prop:=∀H:Hp,SqT K H a xs
variable{n:Nat}{K:X0}{xs:List V}{a:V0}
theorem J5t{o:Obj}{its:Array V1}(b:K.lookup a=some o)(c:o.cls=.type "tuple"/\o.dict=none)(hs:o.data=.seq its n)(hz:its.size<=sizeLine)(r:Vals xs its.toList):UTup K a xs:=λ _=>.inr ⟨o,its,n,b,c,hs,hz,r⟩
def J9X:V->Bool
 | .non| .bl _| .int _| .str _=>true
 |_=>false
def J2u(K:X0):List V->Hp->VK->Prop:=λ e H Q=>∃(a:V0)(b:List V)(ks:List M2)(c:List V),e=[.ref a]/\SqT K H a b/\b.length=ks.length/\(∀i t,b[i]?=some t->∃T,t=.ref T/\SqT K H T [.str (ks.getD i ""),c.getD i .non])/\∀d,H d=none->Q (.ref d) (upd H d (.dK (Z5g ks c)))
variable{Q:VK}{H:Hp}
theorem J7M:J2u K xs H Q=∃(a:V0)(ts:List V)(ks:List M2)(ys:List V),xs=[.ref a]/\SqT K H a ts/\ts.length=ks.length/\(∀i t,ts[i]?=some t->∃T,t=.ref T/\SqT K H T [.str (ks.getD i ""),ys.getD i .non])/\∀d,H d=none->Q (.ref d) (upd H d (.dK (Z5g ks ys))):=rfl
theorem J0w{X:Cx}(A:X.calm=true):Z3V X (.type "dict") (J2u X.K):=by
 intro b0 s σ H xs us Q I r h;obtain⟨a,P,ks,ys,rfl,hq,lt,hp,q⟩:=h;obtain⟨u,rfl,ru⟩:=Z8K r;cases ru;obtain⟨c,B,x,o,C,y,D,p,R⟩:∃c,Vals P c/\P.length<=sizeLine/\∃o C,s.heap.get? a=some o/\o.cls=.type "tuple"/\o.data=.seq c.toArray C/\o.dict=none:=by
  rcases hq with h|⟨o,c,n,hk,A,hs,x,r⟩
  ·obtain⟨⟨x,S⟩,c,B,o,y,D,C,p⟩:=h.ok I.hok;exact⟨c,B,x,o,C,y,D,p,S o y⟩
  ·exact⟨c.toList,r,by rw[r.length,qg6];exact x,o,n,I.kIn a o hk,A.1,by rw[Array.toArray_toList];exact hs,A.2⟩
 have E:c.length=ks.length:=by rw[<-B.length,lt]
 have G:IsTup s.heap a c.toArray:=⟨o,y,D,C,p⟩;have d0:=Heap.lt_size y;refine callType_codes (Q₁:=λ ob sn=>ob=.ref s.heap.objs.size/\sn={s with heap:=s.heap.push {cls:=.type "dict",data:=.dict #[]}}) F.kt_called_dict (F.kt_typeCall_dict_1 _) F.entry_dict_init (kt_code_dict_new _ ⟨rfl,rfl⟩) ?_;rintro ob sn ⟨rfl,rfl⟩;have j:({s with heap:=s.heap.push {cls:=.type "dict",data:=.dict #[]}}:M1).heap.DictOf (Z0M X.prog X.w) s.heap.objs.size []:=Heap.DictOf.new s.heap;have es:({s with heap:=s.heap.push {cls:=.type "dict",data:=.dict #[]}}:M1).heap.objs.size=s.heap.objs.size+1:=Heap.size_push ..;have g1:({s with heap:=s.heap.push {cls:=.type "dict",data:=.dict #[]}}:M1).heap.get? a=some o:=Heap.get?_push_of_some _ y;have k1:∀b u,s.heap.get? b=some u->({s with heap:=s.heap.push {cls:=.type "dict",data:=.dict #[]}}:M1).heap.get? b=some u:=λ b u e=>Heap.get?_push_of_some _ e;refine⟨j.typeIs,F.args_dict_init_2 _ _,?_⟩;unfold Builtin.«dict.__init__»;refine wpAny_bind ?_;unfold Builtin.Dict.selfAndRest;refine wpAny_bind (wpAny_notOrdered_dict j.typeIs ?_);show wpAny _ _ (pure (s.heap.objs.size,[Value.ref a])) _ _ _;refine wpAny_pure ?_;show wpAny _ _ (Builtin.Dict.updateFrom "dict.__init__" s.heap.objs.size (.ref a) [] .none) _ _ _;unfold Builtin.Dict.updateFrom;refine wpAny_bind (wpAny_typeOf (T:="tuple") ⟨_,g1,D⟩ ?_);rw[if_pos qQ];refine wpAny_bind (J0s (show X.A.in1.in1.handled=none from I.ok.hd A) g1 D p R λ N U kp=>?_);have ls:s.heap.objs.size<N.objs.size:=by
  obtain⟨o2,_,_,Y,_⟩:=j;exact Heap.lt_size (kp _ _ Y)
 have k2:∀b u,s.heap.get? b=some u->N.get? b=some u:=λ b u e=>kp b u (k1 b u e);show wpAny _ _ (rule _>>=_) _ _ _;refine wpAny_bind (wpAny_rule (wpAny_bind (wpAny_pyIter_tuple (IsTup.up G k2) ?_)));refine wpAny_pure ⟨plainId_quiet Z2S ⟨[.ref s.heap.objs.size,.ref N.objs.size,rawInt 0,.none],[]⟩,?_⟩;have J:s.heap.objs.size≠N.objs.size:=qb3 ls;refine J2L (n:=c.length) (J2e (show X.A.in1.in1.handled=none from I.ok.hd A) G (qf3 ls) (qa0 _) J) (λ i K s2 h3 t3 z kz _=>?_) (λ i=>.inr (ks.getD i "")) (λ i=>ys.getD i .non) (λ i K v s2 hi z=>?_) (by rw[<-B.length];exact x) .none c.length 0 _ #[] [] rfl (qb0 _) ⟨_,U,rfl,⟨_,Heap.get?_push_size _ rfl,rfl,rfl⟩,λ b u e=>Heap.get?_push_of_some _ (k2 b u e),rfl,qb0 _⟩ .nil (j.at λ o e=>Heap.get?_push_of_some _ (kp _ o e)) λ s2 K e0 fin kv g=>?_
 ·obtain⟨h4,w,rfl,z,k,O,L⟩:=z;exact⟨h3,t3,rfl,z.at λ o e=>kz _ o (Ne.symm J) e,λ b u e=>kz b u (qb3 (Heap.lt_size e)) (k b u e),O,L⟩
 ·obtain⟨h4,w,rfl,z,k,O,L⟩:=z;have ev:v=c[i]:=by
   rw[qm4,qh3 hi]at O;have:=congrArg List.getLast? O;simp only[List.getLast?_concat]at this;exact qc6 this
  obtain⟨t,ht⟩:∃t,P[i]?=some t:=⟨_,qa3 qR⟩;obtain⟨T,rfl,hT⟩:=hp i t ht;obtain⟨u2,M,Z⟩:=B.get ht;rw[qa3 hi]at M;cases M;obtain⟨us,a0,⟨ot,e1,e2,m,e3⟩,_⟩:=I.tuple hT;obtain⟨w1,w2,rfl,r1,r2⟩:=a0.two;refine⟨T,w1,w2,ot,m,ev.trans Z,k _ _ e1,e2,e3,J0I (k:=.inr (ks.getD i "")) r1,r2⟩
 ·obtain⟨h4,w,rfl,k,_⟩:=fin;refine⟨rfl,.ref _,upd H s.heap.objs.size (.dK (Z5g ks ys)),I.laid (t':=w) k (qa0 _) (Z9Z ?_ (beq_false_of_ne (Nat.ne_of_gt I.big)) ?_ g),rfl,q _ (I.hok.fresh (qa0 _))⟩
  ·exact qa9 (Z6w _ _ _) (by rw[<-lt];exact x)
  ·rw[E]at kv;exact kv
structure J5Q(P:Program)(w:Y3)(K:X0)(a:V0)(kvs:List (Key×V)):Prop where
 of:∀h:Z3,K.In h->∃vs,KV kvs vs/\h.DictOf (Z0M P w) a vs
 ns:(a==sysModules)=false
section
variable{X:Cx}{o i:Expr}{ty:TE}{pos:Pos}{a:V0}{kvs:List (Key×V)}
def J5I(kvs:List (Key×V))(ty:TE):TE:=λ b H Q=>ty b H λ y c=>∃k v,y=kV k/\valV kvs k=some v/\Q v c
theorem Z6r{kvs:List (Key×V)}{ty:TE}{b:St}:J5I kvs ty b H Q=(ty b H λ y c=>∃k v,y=kV k/\valV kvs k=some v/\Q v c):=rfl
theorem J6o(M:J5Q X.prog X.w X.K a kvs)(p:PE X o (tC (.ref a)))(q:PE X i ty)(hs:NoSl i):PE X (.Subscript o i pos) (J5I kvs ty):=by
 intro b s c H Q I h;refine J1t PySem.F.slot_dict_getitem.lookup hs (thn (p b s c H (λ v r=>v=.ref a/\J5I kvs ty c r Q) I ⟨rfl,h⟩) λ u w ⟨x,z,A,B,ex,C⟩=>thn (q b w c z _ A C) λ L N e=>?_);obtain⟨y,D,m,E,k,v,G,l,J⟩:=e;subst ex G;obtain rfl:u=Value.ref a:=B;obtain⟨vs,g,n⟩:=M.of _ m.kIn;obtain⟨O,K,j⟩:=RelO.some_of (v:=v) (o:=valueAt vs k) (by rw[<-l];exact g.val k);exact⟨n.typeIs,wpAny_getItem_of (J0I E) n.mapOf K ⟨v,D,m.tok _,j,J⟩⟩
end
inductive Ent(w:Y3):List DictEntry->List (Key×V)->Prop
 |nil:Ent w [] []
 |cons{e:DictEntry}{k:Key}{v:V}{es:List DictEntry}{kvs:List (Key×V)}:Z8Z k e.key=true->e.hash=keyH w k->RelV v e.val->Ent w es kvs->Ent w (e::es) ((k,v)::kvs)
theorem Ent.of{P:Program}{w:Y3}:∀{es:List DictEntry}{kvs:List (Key×V)},Ent w es kvs->∃vs,KV kvs vs/\Pairs (Z0M P w) es vs/\vs.map (·.1)=kvs.map (·.1)/\∀e∈es,∃k,(Z0M P w).is k e.key=true/\e.hash=(Z0M P w).hash k
 |_,_,.nil=>⟨[],.nil,.nil,rfl,λ _ h=>by cases h⟩
 |_,_,.cons (e:=e) (k:=k) (v:=v) j m n t=>by
  obtain⟨vs,a,b,c,d⟩:=Ent.of (P:=P) t;refine⟨(k,e.val)::vs,.cons ⟨rfl,n⟩ a,.cons j rfl b,by rw[qb7,qb7,c],λ p g=>?_⟩;rcases qa4.mp g with z|z
  ·subst z;exact⟨k,j,m⟩
  ·exact d p z
theorem J4q{P:Program}{w:Y3}{o:Obj}{es:Array DictEntry}{ep:Nat}{kvs:List (Key×V)}(l:K.lookup a=some o)(e:o.ExactDict)(d:o.data=.dict es ep)(p:Ent w es.toList kvs)(b:(kvs.map (·.1)).Nodup)(c:(a==sysModules)=false):J5Q P w K a kvs:=by
 obtain⟨vs,g,j,m,n⟩:=Ent.of (P:=P) p;exact⟨λ h q=>⟨vs,g,o,es,ep,q a o l,e,d,λ x r=>n x (by simpa using r),j,by rw[m];exact b⟩,c⟩
variable{g:TG}{ys:List V}{D:V0}
theorem Z6f{J:It}{N:TE}{C:St}(E:St->Prop)(R:Nat->V->Hp->Prop)(mono:∀j v p n,R j v p->Z3G p n->R j v n)(X:E C)(O:H D=none)(hz:ys.length<=sizeLine)(Y:∀i p,Same H p->i<ys.length->J.go i p)(Z:∀i p x n,Same H p->J.yld i p x n->n=p/\ys[i]?=some x)(j3:∀p,Same H p->J.stop ys.length p)(he:∀i y P,ys[i]?=some y->E P->∀p (S:St->VK),Same H p->(∀q v n,E q->Same p n->R i v n->S q v n)->g y P p λ q H3=>N q H3 (S q))(hQ:∀vs H',Same H H'->H' D=some (.lst vs)->vs.length=ys.length->(∀j v,vs[j]?=some v->R j v H')->Q (.ref D) H'):Z3g J g Z2Y N D Q C (upd H D (.lst [])):=by
 refine⟨λ i m w H'=>m=ys.length-i/\i<=ys.length/\E w/\Same H H'/\∃vs,H' D=some (.lst vs)/\vs.length=i/\∀j v,vs[j]?=some v->R j v H',⟨ys.length,by simp,qb0 _,X,Z0r O _,[],Z0d,rfl,λ j v h=>by simp at h⟩,?_⟩;rintro i m w H' ⟨rfl,hi,hS,A,vs,T,hl,hr⟩;by_cases G:i<ys.length
 ·refine .inr ⟨Y i H' A G,λ I n=>E I/\Same H n/\∃vs,n D=some (.lst vs)/\vs.length=i+1/\∀j v,vs[j]?=some v->R j v n,λ I n ⟨a,b,c⟩=>⟨ys.length-(i+1),qR,rfl,G,a,b,c⟩,λ x n hx=>?_⟩;obtain⟨e1,e2⟩:=Z i H' x n A hx;subst e1;unfold Z2Y;simp only[if_true];refine he i x w e2 hS n _ A λ q v H3 K L hR=>?_;have U:=L _ _ T;have sn:Z3G H3 (upd H3 D (.lst (vs++[v]))):=λ b o ho r=>by
   rw[Z0k (λ z=>by rw[z,U]at r;cases r;exact ho _ rfl)];exact r
  refine⟨vs,U,qR,K,λ b o r=>?_,_,Z0d,by rw[qa2,hl];rfl,λ j u B=>?_⟩
  ·rw[Z0k (Z0m r O)];exact L _ _ (A _ _ r)
  ·by_cases M:j<vs.length
   ·rw[qg9 M]at B;exact mono j u _ _ (mono j u _ _ (hr j u B) λ b o _ r=>L b o r) sn
   ·rw[qi3 qR]at B;have ej:j-vs.length=0:=by
     have:=(qa6.mp B).1;simp at this;lia
    rw[ej]at B;cases B;have:j=i:=by lia
    subst this;exact mono _ _ _ _ hR sn
 ·have e:i=ys.length:=by lia
  subst e;exact .inl ⟨j3 _ A,hQ vs H' A T hl hr⟩
theorem Z5o{p:TE}{m:St}(n:St->Prop)(R:Nat->V->Hp->Prop)(mono:∀j v b e,R j v b->Z3G b e->R j v e)(u:n m)(w:H D=none)(hz:ys.length<=sizeLine)(o:∀b,Same H b->SqT K b a ys)(z:∀i y q,ys[i]?=some y->n q->∀b (r:St->VK),Same H b->(∀c v e,n c->Same b e->R i v e->r c v e)->g y q b λ c H3=>p c H3 (r c))(A:∀vs H',Same H H'->H' D=some (.lst vs)->vs.length=ys.length->(∀j v,vs[j]?=some v->R j v H')->Q (.ref D) H'):Z3g (Itt K a) g Z2Y p D Q m (upd H D (.lst [])):=
 Z6f n R mono u w hz (λ i b s h=>⟨ys,ys[i],o b s,qa3 h⟩) (λ i b x e s h=>⟨h.1,h.2 ys (o b s)⟩) (λ b s=>⟨ys,o b s,qa0 _⟩) z A
theorem Z4Y{p:TE}{m:St}(n:St->Prop)(R:Nat->V->Hp->Prop)(mono:∀j v b e,R j v b->Z3G b e->R j v e)(u:n m)(w:H D=none)(hz:ys.length<=sizeLine)(o:∀b,Same H b->SqL K b a ys)(z:∀i y q,ys[i]?=some y->n q->∀b (r:St->VK),Same H b->(∀c v e,n c->Same b e->R i v e->r c v e)->g y q b λ c H3=>p c H3 (r c))(A:∀vs H',Same H H'->H' D=some (.lst vs)->vs.length=ys.length->(∀j v,vs[j]?=some v->R j v H')->Q (.ref D) H'):Z3g (Itl K a) g Z2Y p D Q m (upd H D (.lst [])):=
 Z6f n R mono u w hz (λ i b s h=>⟨ys,ys[i],o b s,qa3 h⟩) (λ i b x e s h=>⟨h.1,h.2 ys (o b s)⟩) (λ b s=>⟨ys,o b s,qa0 _⟩) z A
def Itz(K:X0)(l m:V0):It:=
 ⟨λ i H=>∃a b x y,SqL K H l a/\SqL K H m b/\a[i]?=some x/\b[i]?=some y,λ i H v c=>∃t x y,v=.ref t/\H t=none/\c=upd H t (.tup [x,y])/\(∀a,SqL K H l a->a[i]?=some x)/\∀b,SqL K H m b->b[i]?=some y,λ i H=>∃a b,SqL K H l a/\SqL K H m b/\(a.length<=i\/b.length<=i)⟩
def ZAt(z TI TO i1 i2 l m:V0)(i:Nat)(h:Z3):Prop:=IsZip h z TI TO .none/\IsPair h TI (.ref i1) (.ref i2)/\(∃a b,IsPair h TO a b)/\h.IsListIter i1 l i/\h.IsListIter i2 m i
theorem J3S{P:Program}{w:Y3}{T:List Expr}{x1:Nat}{U:Pos}{z TI TO Y Z l m:V0}(D:ZipApart z TI TO Y Z l m):Turn P w K (.Tuple T x1 U) (Itz K l m) [z,TI,TO,Y,Z] z (ZAt z TI TO Y Z l m)where
 mem:=by simp
 obj:=λ i h j b g=>by
  obtain⟨r,B,⟨a,c,J⟩,⟨o4,L,_,d4⟩,o5,M,_,d5⟩:=j;simp only[qa4,qh4,or_false]at g;rcases g with e|e|e|e|e<;>subst e
  ·exact⟨_,r,λ v q=>by cases q⟩
  ·exact⟨_,B,λ v q=>by cases q⟩
  ·exact⟨_,J,λ v q=>by cases q⟩
  ·exact⟨o4,L,λ v q=>by rw[d4]at q;cases q⟩
  ·exact⟨o5,M,λ v q=>by rw[d5]at q;cases q⟩
 keep:=λ i h h' j k=>by
  obtain⟨r,B,⟨a,c,J⟩,L,M⟩:=j;exact⟨k _ (by simp) _ r,k _ (by simp) _ B,⟨a,c,k _ (by simp) _ J⟩,L.at λ o q=>k _ (by simp) o q,M.at λ o q=>k _ (by simp) o q⟩
 item:=by
  intro X hP hw hK hc i N s σ H E I hf j hg;subst hP hw hK;obtain⟨xs,ys,x,y,C,G,hx,hy⟩:=hg;obtain⟨a0,rv,p,_⟩:=I.list C;obtain⟨b0,R,p2,_⟩:=I.list G;obtain⟨u,hu,ru⟩:=rv.get hx;obtain⟨v,hv,d0⟩:=R.get hy;obtain⟨r,B,⟨a,c,J⟩,L,M⟩:=j;refine wpAny_pyNext_zip_item D r B J L M p.isList p2.isList (x:=u) (y:=v) (by simpa using hu) (by simpa using hv) λ h' a1 a2 a3 a4 a5 a6 a7=>?_;refine⟨_,rfl,wpAny_letOwnedTupleGo_zip a1 λ h2 b1 S=>?_⟩;have fresh:H s.heap.objs.size=none:=I.hok.fresh (qa0 _);have lt:∀{b o},s.heap.get? b=some o->b≠s.heap.objs.size:=λ q=>qb3 (Heap.lt_size q);have k2:∀b o,b∉[z,TI,TO,Y,Z]->s.heap.get? b=some o->h2.get? b=some o:=λ b o g q=>by
   simp only[qa4,qh4,or_false,not_or]at g;exact S.extBut b o g.1 (a7 b o g.1 g.2.2.1 g.2.2.2.1 g.2.2.2.2 q)
  have O:h2.get? s.heap.objs.size=some {cls:=.type "tuple",data:=.seq #[u,v]}:=S.extBut _ _ (lt r).symm a5;have I2:Inv X N σ (upd H s.heap.objs.size (.tup [x,y])) {s with heap:=h2,toks:=s.toks}:=
   I.grow hf k2 (λ b o e=>by rw[Z0k (Z0m e fresh)];exact e) λ b o n e=>by
    by_cases g:b=s.heap.objs.size
    ·subst g;rw[Z0d]at e;cases e;exact⟨.inl (qa0 _),⟨by show 2<=sizeLine;decide,λ o q=>by rw[O]at q;cases q;rfl⟩,[u,v],.cons ru (.cons d0 .nil),⟨_,O,rfl,_,rfl⟩⟩
    ·rw[Z0k g,n]at e;cases e
  refine⟨.ref s.heap.objs.size,_,I2,rfl,⟨_,x,y,rfl,fresh,rfl,λ zs hz=>by rw[I.list_inj hz C];exact hx,λ zs hz=>by rw[I.list_inj hz G];exact hy⟩,⟨b1,?_,⟨u,v,?_⟩,?_,?_⟩,λ b g=>?_⟩
  ·exact S.extBut _ _ D.TIz (a7 _ _ D.TIz D.TITO D.TIi1 D.TIi2 B)
  ·exact S.extBut _ _ D.TOz a2
  ·exact a3.extBut S.extBut D.i1z
  ·exact a4.extBut S.extBut D.i2z
  ·have h0:=(hf b g).1;have:b≠s.heap.objs.size:=by
    simp only[qa4,qh4,or_false]at g;obtain⟨o4,t4,_⟩:=L;obtain⟨o5,t5,_⟩:=M;rcases g with e|e|e|e|e<;>subst e
    ·exact lt r
    ·exact lt B
    ·exact lt J
    ·exact lt t4
    ·exact lt t5
   rw[Z0k this];exact h0
 done:=by
  intro X hP hw hK hc i N s σ H E I hf j hg;subst hP hw hK;obtain⟨xs,ys,C,G,hx⟩:=hg;obtain⟨a0,rv,p,_⟩:=I.list C;obtain⟨b0,R,p2,_⟩:=I.list G;obtain⟨r,B,⟨a,c,J⟩,L,M⟩:=j;have l1:=rv.length;have l2:=R.length;refine wpAny_pyNext_zip_end (I.ok.hd hc) D r B J L M p.isList p2.isList (by simp;lia) λ h' a7=>⟨rfl,?_⟩;exact I.grow (t':=s.toks) hf (λ b o g q=>by
   simp only[qa4,qh4,or_false,not_or]at g;exact a7 b o g.1 g.2.2.1 g.2.2.2.1 g.2.2.2.2 q) (λ _ _ e=>e) λ b o n e=>by rw[n]at e;cases e
 self:=λ A i s Q E j h=>wpAny_pyIter_zip j.1 h
section
variable{X:Cx}
def iZip(K:X0)(ta:TA):TI:=λ e H R=>ta e H λ vs c=>∃a b,vs=[.ref a,.ref b]/\(∃g,SqL K c a g)/\(∃h,SqL K c b h)/\R (Itz K a b) c
theorem J8S{c:TA}{e:St}{R:It->Hp->Prop}:iZip K c e H R=c e H λ vs H1=>∃a b,vs=[.ref a,.ref b]/\(∃xs,SqL K H1 a xs)/\(∃ys,SqL K H1 b ys)/\R (Itz K a b) H1:=rfl
theorem J7D{i:List Expr}{E:Nat}{j:Pos}{a b:Expr}{C:TA}{p g:Pos}(G:Gl X "zip")(J:X.mg "zip"=none)(K:PA X [a,b] C)(v:bootBuiltins "zip"=some (.type "zip"):=by decide+kernel)(L:starEach [a,b] X.env=(false,eval a X.env)::starEach [b] X.env:=by rfl)(w:(backTo g (starEach [b] X.env)).any (·.1)=false:=by rfl):PI X (.Tuple i E j) (.Call (.Name "zip" p) [a,b] [] g) (iZip X.K C):=by
 intro n s M H R I h;refine Call_ (Z3I I G J v (PyProof.Rows.callWith_type1 (thn (K g n s M H _ I h) λ us c N=>?_) L w));obtain⟨vs,O,o,r1,l,m,rfl,⟨xs,P⟩,⟨ys,x⟩,q⟩:=N;obtain⟨u1,u2,rfl,y,z⟩:=r1.two;cases y;cases z;obtain⟨Q,rv,pl,_⟩:=o.list P;obtain⟨S,T,r,_⟩:=o.list x;obtain⟨o1,U,_⟩:=id pl.isList;obtain⟨o2,Y,_⟩:=id r.isList;refine call_zip_2 pl.isList r.isList λ h' D A B Z j2 es kk=>wpAny_pyIter_zip D ?_;refine⟨c.heap.objs.size+4,[c.heap.objs.size+4,c.heap.objs.size+2,c.heap.objs.size+3,c.heap.objs.size,c.heap.objs.size+1],_,_,O,rfl,o.kept (t':=c.toks) kk,J3S (zap (Heap.lt_size U) (Heap.lt_size Y)),⟨D,A,⟨_,_,B⟩,Z,j2⟩,λ b v=>?_,q⟩;have u:c.heap.objs.size<=b:=by
  simp only[qa4,qh4,or_false]at v;rcases v with e|e|e|e|e<;>rw[e];all_goals first|exact qf5 _ _|exact qa0 _
 exact o.fpOk u (o.hok.fresh u)
end
theorem J3X{b:V0}{T:TE}{E:St}(G:St->Prop)(R:Nat->V->Hp->Prop)(mono:∀j v p n,R j v p->Z3G p n->R j v n)(e0:G E)(U:H D=none)(hl:xs.length=ys.length)(hz:xs.length<=sizeLine)(O:∀p,Same H p->SqL K p a xs)(r:∀p,Same H p->SqL K p b ys)(he:∀i x y t Y,xs[i]?=some x->ys[i]?=some y->G Y->∀p (Z:St->VK),Same H p->p t=some (.tup [x,y])->(∀q v n,G q->Same p n->R i v n->Z q v n)->g (.ref t) Y p λ q H3=>T q H3 (Z q))(hQ:∀vs H',Same H H'->H' D=some (.lst vs)->vs.length=xs.length->(∀j v,vs[j]?=some v->R j v H')->Q (.ref D) H'):Z3g (Itz K a b) g Z2Y T D Q E (upd H D (.lst [])):=by
 refine⟨λ i m A H'=>m=xs.length-i/\i<=xs.length/\G A/\Same H H'/\∃vs,H' D=some (.lst vs)/\vs.length=i/\∀j v,vs[j]?=some v->R j v H',⟨xs.length,by simp,qb0 _,e0,Z0r U _,[],Z0d,rfl,λ j v h=>by simp at h⟩,?_⟩;rintro i m A H' ⟨rfl,hi,hS,w,vs,hv,I,hr⟩;by_cases J:i<xs.length
 ·refine .inr ⟨⟨xs,ys,xs[i],ys[i]'(by lia),O H' w,r H' w,qa3 J,qa3 qR⟩,λ L n=>G L/\Same H n/\∃vs,n D=some (.lst vs)/\vs.length=i+1/\∀j v,vs[j]?=some v->R j v n,λ L n ⟨a,b,c⟩=>⟨xs.length-(i+1),qR,rfl,J,a,b,c⟩,λ x n hx=>?_⟩;obtain⟨t,M,N,rfl,ht,rfl,ex,ey⟩:=hx;have st:=Z0r ht (.tup [M,N]);have et:upd H' t (.tup [M,N]) t=some (.tup [M,N]):=Z0d;generalize upd H' t (.tup [M,N])=n at*;unfold Z2Y;simp only[if_true];refine he i M N t A (ex _ (O H' w)) (ey _ (r H' w)) hS n _ (w.trans st) et λ q v H3 P s3 hR=>?_;have B:=st.trans s3;have h3:=B _ _ hv;have sn:Z3G H3 (upd H3 D (.lst (vs++[v]))):=λ b o ho r=>by
   rw[Z0k (λ z=>by rw[z,h3]at r;cases r;exact ho _ rfl)];exact r
  refine⟨vs,h3,qR,P,λ b o r=>?_,_,Z0d,by rw[qa2,I];rfl,λ j u C=>?_⟩
  ·rw[Z0k (Z0m r U)];exact B _ _ (w _ _ r)
  ·by_cases S:j<vs.length
   ·rw[qg9 S]at C;exact mono j u _ _ (mono j u _ _ (hr j u C) λ b o _ r=>B b o r) sn
   ·rw[qi3 qR]at C;have ej:j-vs.length=0:=by
     have:=(qa6.mp C).1;simp at this;lia
    rw[ej]at C;cases C;have:j=i:=by lia
    subst this;exact mono _ _ _ _ hR sn
 ·have e:i=xs.length:=by lia
  subst e;exact .inl ⟨⟨xs,ys,O _ w,r _ w,.inl (qa0 _)⟩,hQ vs H' w hv I hr⟩
inductive J5z(K:X0)(a:V0)(n:Nat)(H:Hp)(R:List V->Prop):Prop
 |mk(xs:List V)(h:SqL K H a xs)(l:xs.length=n)(q:R xs)
def J6H(K:X0)(n:Nat)(t:TGs):TG:=λ v b H Q=>∃a,v=.ref a/\J5z K a n H λ c=>t c b H Q
variable{b:St}
theorem J8l{t:TGs}{v:V}{Q:St->Hp->Prop}:J6H K n t v b H Q=∃a,v=.ref a/\J5z K a n H λ xs=>t xs b H Q:=rfl
section
variable{X:Cx}{pos:Pos}
theorem J7F{es:List Expr}{k:Nat}{t:TGs}(q:X.calm=true)(h:PGs X es t)(w:(assignEach es X.env).length=n:=by rfl)(g:(assignEach es X.env).findIdx? (·.1)=none:=by rfl):PG X (.Tuple es k pos) (J6H X.K n t):=by
 intro c s m H v u Q I r i;obtain⟨a,x,y,z,hl,i⟩:=i;subst x;cases r;obtain⟨j,p,A,G⟩:=I.list z;rw[assign_Tuple];refine wpAny_bind (wpAny_standAt ?_);unfold unpack;have B:(assignEach es X.env).length=j.toArray.size:=by simp[w,<-hl,p.length]
 rw[B,g];refine wpAny_bind (wpAny_holding (W.kun_itemsOf (I.ok.hd q) A.isList λ C D=>?_));have E:Inv X c m H {s with heap:=C}:=I.kept (t':=s.toks) λ b o e=>D b o (qb3 (Heap.lt_size e)) e;exact h c _ m H y _ Q E (by simpa using p) i
def J7v:TSet:=λ o i v H Q=>∃a b,o=.ref a/\DPut H a i v b/\Q b
theorem J8i{o i v:V}{Q:Hp->Prop}:J7v o i v H Q=∃a H',o=.ref a/\DPut H a i v H'/\Q H':=rfl
theorem Z9W(c:X.A.units+1<cLine):PSet X J7v:=by
 intro b s p H o i v r w u Q I ro e j h;obtain⟨a,m,rfl,g,q⟩:=h;cases ro;exact Z5d c I g e j λ x n=>⟨m,n,q⟩
end
theorem Z9M{n:TS}{D:Ends}(xs:List V)(c:Nat->St->Hp->Prop)(o:c 0 b H)(hl:∀i b H,i<=xs.length->c i b H->SqL K H a xs)(hs:∀i x b H,xs.reverse[i]?=some x->c i b H->g x b H λ j r=>n {D with nx:=c (i+1),ct:=c (i+1),bk:=D.nx} j r)(hd:∀b H,c xs.length b H->D.nx b H):J1A (Itv K a xs.length) g n D b H:=by
 refine⟨λ i m b H=>m=xs.length-i/\i<=xs.length/\c i b H,⟨xs.length,by simp,qb0 _,o⟩,?_⟩;rintro i m b H ⟨rfl,u,p⟩;have q:=hl i b H u p;by_cases h:i<xs.length
 ·refine .inr ⟨⟨h,xs,q,rfl⟩,c (i+1),λ v w z=>⟨xs.length-(i+1),by omega,rfl,h,z⟩,λ x w y=>?_⟩;obtain⟨e,y⟩:=y;subst e;exact hs i x b _ (by rw[List.getElem?_reverse h];exact y xs q) p
 ·have e:i=xs.length:=by omega
  subst e;exact .inl ⟨rfl,hd b H p⟩
theorem Z6V{n:TS}{D:Ends}(xs:List V)(c:Nat->St->Hp->Prop)(o:c 0 b H)(hl:∀i b H,i<=xs.length->c i b H->SqL K H a xs)(hs:∀i x t b H,xs[i]?=some x->H t=none->c i b H->g (.ref t) b (upd H t (.tup [.int i,x])) λ j r=>n {D with nx:=c (i+1),ct:=c (i+1),bk:=D.nx} j r)(hd:∀b H,c xs.length b H->D.nx b H):J1A (Ite K a) g n D b H:=by
 refine⟨λ i m b H=>m=xs.length-i/\i<=xs.length/\c i b H,⟨xs.length,by simp,qb0 _,o⟩,?_⟩;rintro i m b H ⟨rfl,u,p⟩;have q:=hl i b H u p;by_cases h:i<xs.length
 ·refine .inr ⟨⟨xs,xs[i],q,qa3 h⟩,c (i+1),λ v w z=>⟨xs.length-(i+1),by omega,rfl,h,z⟩,λ x w y=>?_⟩;obtain⟨t,A,e,B,C,y⟩:=y;subst e C;exact hs i A t b _ (y xs q) B p
 ·have e:i=xs.length:=by omega
  subst e;exact .inl ⟨⟨xs,q,qa0 _⟩,hd b H p⟩
open WK
def Z1z(p:Nat->Bool)(i:Nat):List Nat:=(qe2 i).filter p
theorem Z3N(p:Nat->Bool)(i:Nat):Z1z p (i+1)=Z1z p i++(if p i=true then[i]else[]):=by
 unfold Z1z;rw[List.range_succ,List.filter_append];congr 1;rw[List.filter_cons];rfl
theorem Z7W(p:Nat->Bool)(i:Nat):(Z1z p i).length<=i:=by
 have:=qh5 p (qe2 i);rw[qm5]at this;exact this
theorem Z1y{J:It}{S:TT}{T:TE}{K:St}(L:St->Prop)(N:Nat->St->Prop)(p:Nat->Bool)(R:Nat->V->Hp->Prop)(mono:∀j v h q,R j v h->Z3G h q->R j v q)(e0:L K)(U:H D=none)(hz:n<=sizeLine)(j1:∀i h,Same H h->i<n->J.go i h)(j3:∀h,Same H h->J.stop n h)(hg:∀i x y h q (C:St->Hp->Prop),i<n->Same H h->J.yld i h x q->L y->(∀u H3,N i u->Same h H3->C u H3)->g x y q C)(w:∀i y,N i y->L y)(hc:∀i y,i<n->N i y->∀h (C:Bool->Hp->Prop),Same H h->(∀q,Same h q->C (p i) q)->S y h C)(he:∀i y,i<n->p i=true->N i y->∀h (C:VK),Same H h->(∀v q,Same h q->R i v q->C v q)->T y h C)(hQ:∀vs H',Same H H'->H' D=some (.lst vs)->A2 (λ v i=>R i v H') vs (Z1z p n)->Q (.ref D) H'):Z3g J g S T D Q K (upd H D (.lst [])):=by
 refine⟨λ i m G H'=>m=n-i/\i<=n/\L G/\Same H H'/\∃vs,H' D=some (.lst vs)/\A2 (λ v i=>R i v H') vs (Z1z p i),⟨n,by simp,qb0 _,e0,Z0r U _,[],Z0d,.nil⟩,?_⟩;rintro i m G H' ⟨rfl,hi,hS,E,vs,P,hr⟩;by_cases A:i<n
 ·refine .inr ⟨j1 i H' E A,λ M q=>L M/\Same H q/\∃vs,q D=some (.lst vs)/\A2 (λ v i=>R i v q) vs (Z1z p (i+1)),λ M q ⟨a,b,c⟩=>⟨n-(i+1),by omega,rfl,A,a,b,c⟩,λ x q hx=>?_⟩;refine hg i x G H' q _ A E hx hS λ u H3 O X=>?_;refine hc i u A O H3 _ (E.trans X) λ H4 s4=>?_;have B:=X.trans s4;cases e:p i with
  |true=>
   rw[if_pos rfl];refine he i u A e O H4 _ (E.trans B) λ v Y s5 hR=>?_;have I:=B.trans s5;have Z:=I _ _ P;have sn:Z3G Y (upd Y D (.lst (vs++[v]))):=λ b o ho w=>by
    rw[Z0k (λ z=>by rw[z,Z]at w;cases w;exact ho _ rfl)];exact w
   refine⟨vs,Z,?_,w i u O,λ b o w=>?_,_,Z0d,?_⟩
   ·have:=Z7W p i;rw[hr.len];omega
   ·rw[Z0k (Z0m w U)];exact I _ _ (E _ _ w)
   ·rw[Z3N,e,if_pos rfl];refine A2.snoc (hr.mono λ v j r=>mono j v _ _ (mono j v _ _ r λ b o _ w=>I b o w) sn) (mono _ _ _ _ hR sn)
  |false=>
   rw[if_neg qQ];refine⟨w i u O,E.trans B,vs,B _ _ P,?_⟩;rw[Z3N,e,if_neg qQ,qc8];exact hr.mono λ v j r=>mono j v _ _ r λ b o _ w=>B b o w
 ·have e:i=n:=by omega
  subst e;exact .inl ⟨j3 _ E,hQ vs H' E P hr⟩
end L2
end
section
namespace P23
open PySem P15 PW
def ixO:List M2->M2->Option Nat
 |[],_=>none
 |y::a,x=>if y=x then some 0 else(ixO a x).map (·+1)
theorem Z3w:∀{xs:List M2}{x:M2},x∉xs->ixO xs x=none
 |[],_,_=>rfl
 |y::a,x,h=>by
  simp only[qa4,not_or]at h;unfold ixO;rw[if_neg (λ z=>h.1 z.symm),Z3w h.2];rfl
theorem Z2b:∀{xs:List M2}{x:M2},x∈xs->∃i,ixO xs x=some i/\IxAt xs x i
 |y::ys,x,h=>by
  by_cases e:y=x
  ·exact⟨0,by unfold ixO;rw[if_pos e],by rw[<-e];rfl,λ j a=>absurd a (qj2 _)⟩
  ·have h:x∈ys:=by
    rcases qa4.mp h with z|z
    ·exact absurd z.symm e
    ·exact z
   obtain⟨i,b,c,g⟩:=Z2b h;refine⟨i+1,by unfold ixO;rw[if_neg e,b];rfl,c,λ j a=>?_⟩;cases j with
   |zero=>exact λ z=>e (qc6 z)
   |succ j=>exact g j qR
theorem Z9J{xs:List M2}{x:M2}{i:Nat}(h:ixO xs x=some i):x∈xs/\i<xs.length/\IxAt xs x i:=by
 by_cases m:x∈xs
 ·obtain⟨j,a,b⟩:=Z2b m;rw[h]at a;cases a;exact⟨m,(qa6.mp b.1).1,b⟩
 ·rw[Z3w m]at h;cases h
inductive FO(G:Pg)(w:M2):List M2->Option (M2×Nat×Wd)->Prop
 |nil:FO G w [] none
 |here{h:M2}{X:Hs}{es:List M2}{i:Nat}{d:Wd}:Look G h X->ixO (X.words.map Wd.name) w=some i->X.words[i]?=some d->FO G w (h::es) (some (h,i,d))
 |there{h:M2}{X:Hs}{es:List M2}{r:Option (M2×Nat×Wd)}:Look G h X->ixO (X.words.map Wd.name) w=none->FO G w es r->FO G w (h::es) r
theorem FO.at{G:Pg}{wd h:M2}{ls:List M2}{i:Nat}{d:Wd}(f:FO G wd ls (some (h,i,d))):∃X,Look G h X/\X.words[i]?=some d:=by
 generalize e:some (h,i,d)=r at f;induction f with
 |nil=>cases e
 |here a b c=>cases e;exact⟨_,a,c⟩
 |there _ _ _ g=>exact g e
def SOk(x:M2):Prop:=x.cps.all (·<0x110000)=true
structure Rw where
 name:M2
 elder:Option M2
 fields:List (M2×M2)
 heads:List (M2×List (M2×M2)×M2)
def Y0g(r:Rw):Rw:={r with elder:=none}
end P23
end
section
namespace P52
open PySem P15 PW P23
structure Hr where
 name:M2
 elder:Option M2
 words:List M2
def Z6B(m ws:List M2):List M2:=m++ws.filter λ w=>decide (w∉m)
def Z1W(m:List M2):List (List M2)->List M2
 |[]=>m
 |a::r=>Z1W (Z6B m a) r
theorem Z7A(m a:List M2):(Z6B m a).length<=m.length+a.length:=by
 unfold Z6B;rw[qa2];have:=qh5 (λ w=>decide (w∉m)) a;lia
theorem Z4m(k:Nat):∀(l:List (List M2))(m:List M2),(∀a∈l,a.length<=k)->(Z1W m l).length<=m.length+k*l.length
 |[],m,_=>by simp[Z1W]
 |a::r,m,h=>by
  have c:=Z4m k r (Z6B m a) λ x b=>h x (qc4 _ b);have e:=Z7A m a;have g:=h a qc2;show(Z1W (Z6B m a) r).length<=_;rw[qb2,Nat.mul_add,Nat.mul_one];lia
theorem Z3Q:∀(l:List (List M2))(m a:List M2),Z1W m (l++[a])=Z6B (Z1W m l) a
 |[],m,a=>rfl
 |x::r,m,a=>Z3Q r (Z6B m x) a
def wn(G:Pg):List M2:=Z1W [] (G.houses.map λ X=>X.words.map Wd.name)
def met(rs:List Hr):List M2:=Z1W [] (rs.map Hr.words)
def Z1U:List Hs->M2->Nat
 |[],_=>0
 |X::r,h=>if X.name=h then 0 else X.words.length+Z1U r h
def bk(G:Pg):Option (M2×Nat×Wd)->Option Nat
 |none=>none
 |some (h,i,_)=>some (Z1U G.houses h+i)
end P52
end
section
namespace PK
open PySem P15 PW
def NN:List M2:=[("number":M2),"truth"]
structure HD where
 nm:List M2
 up:M2->List M2
 fl:M2->List (M2×M2)
 hd:M2->M2->Option (List (M2×M2)×M2)
 bk:M2->M2->Option Nat
 wo:List M2
 el:M2->Option M2
def fitP(up:M2->List M2)(a b:M2):Bool:=decide (a=b\/(a∉NN/\b∉NN/\b∈up a))
def nrP(up:M2->List M2)(a b:M2):Option M2:=if a=b then some a else if a∈NN\/b∈NN then none else(a::up a).find? (fitP up b)
def KN(D:HD)(k:M2):Prop:=k∈NN\/k∈D.nm
def AF(D:HD)(fs:List M2)(ps:List (M2×M2)):Prop:=fs.length=ps.length/\∀(i:Nat)(a:M2)(p:M2×M2),fs[i]?=some a->ps[i]?=some p->KN D a/\fitP D.up a p.2=true
def getK(x:M2)(bs:List (M2×M2)):Option M2:=(bs.reverse.find? λ p=>decide (p.1=x)).map (·.2)
def bnd(own:Option M2)(bs:List (M2×M2)):List M2:=(if own.isSome then[("self":M2)]else[])++bs.map Prod.fst
def Z1n(l:List M2)(x:M2)(j:Nat):Prop:=l[j]?=some x/\∀i,j<i->l[i]?≠some x
noncomputable def r0(s:M2):PyData:=.tuple [.str s]
noncomputable def r1(s:M2)(n:Nat):PyData:=.tuple [.str s,.int n]
noncomputable def r2(s:M2)(n m:Nat):PyData:=.tuple [.str s,.int n,.int m]
noncomputable def r3(s:M2)(n m k:Nat):PyData:=.tuple [.str s,.int n,.int m,.int k]
def signR:List (M2×M2):=[("+","add"),("-","sub"),("*","mul"),("/","div"),("<","less"),("=","same")]
inductive Own(D:HD)(own:Option M2)(bs:List (M2×M2)):Fm->Lb->List M2->M2->List (List PyData)->Nat->List PyData->Nat->Prop
 |num{i n}:i.natAbs<1000000->Own D own bs .number (.int i) [] "number" [] n [.tuple [.str "push",.int i]] n
 |tru{b n}:Own D own bs .truth (.bl b) [] "truth" [] n [.tuple [.str "push",.bool b]] n
 |name{x k j n}:getK x bs=some k->Z1n (bnd own bs) x j->Own D own bs .name (.str x) [] k [] n [r1 "load" j] n
 |self{h n}:own=some h->Own D own bs .self .non [] h [] n [r1 "load" 0] n
 |lt{x a k ra rb n}:Own D own bs .lt (.str x) [a,k] k [ra,rb] n (ra++r1 "keep" (bnd own bs).length::rb) n
 |nt{ra n}:Own D own bs .nt .non ["truth"] "truth" [ra] n (ra++[r0 "not"]) n
 |seq{a b ra rb n}:Own D own bs .two (.str ";") [a,b] b [ra,rb] n (ra++r0 "drop"::rb) n
 |same{a b ra rb n}:a=b\/(a∉NN/\b∉NN)->Own D own bs .two (.str "=") [a,b] "truth" [ra,rb] n (ra++rb++[r0 "same"]) n
 |less{ra rb n}:Own D own bs .two (.str "<") ["number","number"] "truth" [ra,rb] n (ra++rb++[r0 "less"]) n
 |ari{s r ra rb n}:(s,r)∈signR.take 4->Own D own bs .two (.str s) ["number","number"] "number" [ra,rb] n (ra++rb++[r0 r]) n
 |iff{a b k ra rb rc n}:KN D a->KN D b->nrP D.up a b=some k->Own D own bs .iff .non ["truth",a,b] k [ra,rb,rc] n (ra++r1 "unless" (rb.length+1)::(rb++r1 "skip" rc.length::rc)) n
 |new{h fs j rs n}:h∈D.nm->IxAt D.nm h j->AF D fs (D.fl h)->Own D own bs .new (.str h) fs h rs n (rs.flatten++[r2 "make" j fs.length]) n
 |field{x a k j ra n}:a∈D.nm->IxAt ((D.fl a).map Prod.fst) x j->(D.fl a)[j]?=some (x,k)->Own D own bs .field (.str x) [a] k [ra] n (ra++[r1 "get" j]) n
 |set{x a b k j ra rb n}:a∈D.nm->IxAt ((D.fl a).map Prod.fst) x j->(D.fl a)[j]?=some (x,k)->KN D b->fitP D.up b k=true->Own D own bs .set (.str x) [a,b] b [ra,rb] n (ra++rb++[r1 "put" j]) n
 |call{w a fs ps k j rs n}:a∈D.nm->D.hd a w=some (ps,k)->AF D fs ps->IxAt D.wo w j->Own D own bs .call (.str w) (a::fs) k rs n (rs.flatten++[r3 "call" n j (fs.length+1)]) (n+1)
 |elder{w h e fs ps k j rs n}:own=some h->h∈D.nm->D.el h=some e->e∈D.nm->D.hd e w=some (ps,k)->AF D fs ps->D.bk e w=some j->Own D own bs .elder (.str w) fs k rs n (r1 "load" 0::(rs.flatten++[r2 "straight" j (fs.length+1)])) n
theorem sign_ne:∀p∈signR.take 4,p.1≠";"/\p.1≠"="/\p.1≠"<":=by decide+kernel
def bsAt(f:Fm)(l:Lb)(bs:List (M2×M2)):List M2->List (M2×M2)
 |[]=>bs
 |k::_=>match f,l with
  | .lt,.str x=>bs++[(x,k)]
  |_,_=>bs
theorem bsAt_ne{f:Fm}{l:Lb}{bs:List (M2×M2)}{fs:List M2}(h:f≠.lt):bsAt f l bs fs=bs:=by
 cases fs with
 |nil=>rfl
 |cons a r=>cases f<;>first|rfl|exact absurd rfl h
theorem s_lt{f:Fm}(h:f≠.lt):f.s≠("let":M2):=by
 cases f<;>first|exact absurd rfl h|decide+kernel
theorem getK_snoc{x y k:M2}{bs:List (M2×M2)}:getK x (bs++[(y,k)])=if y=x then some k else getK x bs:=by
 unfold getK;rw[ql5];show(List.find? _ ((y,k)::bs.reverse)).map _=_;rw[qf1];by_cases h:y=x
 ·rw[if_pos h,decide_eq_true (show(y,k).1=x from h)];rfl
 ·rw[if_neg h,decide_eq_false (show ¬(y,k).1=x from h)]
mutual
inductive GR(D:HD)(own:Option M2):List (M2×M2)->Nat->Tm->List M2->List PyData->Nat->Prop
 |mk{bs n f l ps ks kss rss n1 k rows n2}:GRs D own f l bs [] n ps ks kss rss n1->Own D own bs f l ks k rss n1 rows n2->ps.length<=8->GR D own bs n (.mk f l ps) (k::kss) rows n2
inductive GRs(D:HD)(own:Option M2):Fm->Lb->List (M2×M2)->List M2->Nat->List Tm->List M2->List M2->List (List PyData)->Nat->Prop
 |nil{f l bs fs n}:GRs D own f l bs fs n [] [] [] [] n
 |cons{f l bs fs n p ps k ks ks' kss r rss n1 n2}:GR D own (bsAt f l bs fs) n p (k::ks) r n1->GRs D own f l bs (fs++[k]) n1 ps ks' kss rss n2->GRs D own f l bs fs n (p::ps) (k::ks') ((k::ks)++kss) (r::rss) n2
end
section
variable{D:HD}{own:Option M2}
theorem Own.all{bs:List (M2×M2)}{f:Fm}{l:Lb}{ks:List M2}{k:M2}{a:List (List PyData)}{n b:Nat}{rows:List PyData}(h:Own D own bs f l ks k a n rows b):(f=.lt->∃x,l=.str x)/\(n<=b/\b<=n+1)/\a.flatten.length<=rows.length/\rows.length<=a.flatten.length+2:=by
 cases h<;>refine⟨λ e=>(by first|exact⟨_,rfl⟩|cases e),by first|exact⟨qa0 _,qd6 _⟩|exact⟨qd6 _,qa0 _⟩,?_⟩<;>simp only[qd5,List.flatten_nil,qa2,qb2,qg0,qc8]<;>lia
theorem Own.lt1{bs:List (M2×M2)}{f:Fm}{l:Lb}{ks:List M2}{k:M2}{a:List (List PyData)}{n b:Nat}{rows:List PyData}(h:Own D own bs f l ks k a n rows b)(e:f=.lt):∃x,l=.str x:=h.all.1 e
theorem Own.fl{bs:List (M2×M2)}{f:Fm}{l:Lb}{ks:List M2}{k:M2}{a:List (List PyData)}{n n':Nat}{rows:List PyData}(h:Own D own bs f l ks k a n rows n'):a.flatten.length<=rows.length/\n<=n':=⟨h.all.2.2.1,h.all.2.1.1⟩
theorem Own.rl{bs:List (M2×M2)}{f:Fm}{l:Lb}{ks:List M2}{k:M2}{a:List (List PyData)}{n b:Nat}{rows:List PyData}(h:Own D own bs f l ks k a n rows b):rows.length<=a.flatten.length+2:=h.all.2.2.2
theorem Own.one{bs:List (M2×M2)}{f:Fm}{l:Lb}{ks:List M2}{k:M2}{a:List (List PyData)}{n b:Nat}{rows:List PyData}(h:Own D own bs f l ks k a n rows b):b<=n+1:=h.all.2.1.2
theorem Own.tail{bs:List (M2×M2)}{f:Fm}{l:Lb}{ks:List M2}{k:M2}{c:List (List PyData)}{n g:Nat}{rows:List PyData}(h:Own D own bs f l ks k c n rows g)(i:f≠.lt)(m:f≠.iff)(o:¬(f=.two/\l=.str ";")):∃row,rows=(if f.s=("elder":M2)then[r1 "load" 0]else[])++c.flatten++[row]:=by
 have e:∀{row:PyData},f≠.elder->rows=c.flatten++[row]->∃row,rows=(if f.s=("elder":M2)then[r1 "load" 0]else[])++c.flatten++[row]:=λ{row} z h=>⟨row,by rw[if_neg (by cases f<;>first|exact absurd rfl z|decide+kernel),qh1];exact h⟩;cases h with
 |num=>exact e (λ z=>by cases z) rfl
 |tru=>exact e (λ z=>by cases z) rfl
 |name=>exact e (λ z=>by cases z) rfl
 |self=>exact e (λ z=>by cases z) rfl
 |lt=>exact absurd rfl i
 |iff=>exact absurd rfl m
 |seq=>exact absurd ⟨rfl,rfl⟩ o
 |nt=>exact e (row:=r0 "not") (λ z=>by cases z) (by simp)
 |same=>exact e (row:=r0 "same") (λ z=>by cases z) (by simp)
 |less=>exact e (row:=r0 "less") (λ z=>by cases z) (by simp)
 |@ari s r=>exact e (row:=r0 r) (λ z=>by cases z) (by simp)
 |new=>exact e (λ z=>by cases z) rfl
 |@field x a k j=>exact e (row:=r1 "get" j) (λ z=>by cases z) (by simp)
 |@set x a b k j=>exact e (row:=r1 "put" j) (λ z=>by cases z) (by simp)
 |call=>exact e (λ z=>by cases z) rfl
 |elder=>exact⟨_,by rw[if_pos (show Fm.elder.s=("elder":M2)from rfl)];rfl⟩
theorem maxD_mem{p:Tm}:∀{ps:List Tm},p∈ps->p.depth<=maxD ps
 |q::ps,h=>by
  show _<=max q.depth (maxD ps);rcases qa4.mp h with e|e
  ·rw[e];exact Nat.le_max_left _ _
  ·exact qa9 (maxD_mem e) (Nat.le_max_right _ _)
theorem sumS_mem{p:Tm}:∀{ps:List Tm},p∈ps->p.size<=sumS ps
 |q::ps,h=>by
  show _<=q.size+sumS ps;rcases qa4.mp h with e|e
  ·rw[e];exact qf5 _ _
  ·exact qa9 (sumS_mem e) (Nat.le_add_left _ _)
theorem bsAt_len{f:Fm}{l:Lb}{bs:List (M2×M2)}{fs:List M2}:(bsAt f l bs fs).length<=bs.length+1:=by
 cases fs with
 |nil=>exact qd6 _
 |cons a r=>cases f<;>cases l<;>first|exact qd6 _|(show(bs++[_]).length<=_;rw[qa2];exact qa0 _)
theorem GRs.hd{ps:List Tm}{f:Fm}{l:Lb}{bs:List (M2×M2)}{fs:List M2}{n i:Nat}{ks c:List M2}{r:List (List PyData)}(h:GRs D own f l bs fs n ps ks c r i){k:M2}{g:List M2}(e:ks=k::g):∃r',c=k::r':=by
 cases h with
 |nil=>cases e
 |cons a b=>cases e;exact⟨_,rfl⟩
theorem gr_ind{D:HD}{own:Option M2}{P:List (M2×M2)->Nat->Tm->List M2->List PyData->Nat->Prop}{Q:Fm->Lb->List (M2×M2)->List M2->Nat->List Tm->List M2->List M2->List (List PyData)->Nat->Prop}(u:∀{bs n f l ps ks e g m k rows q},GRs D own f l bs [] n ps ks e g m->Own D own bs f l ks k g m rows q->ps.length<=8->Q f l bs [] n ps ks e g m->P bs n (.mk f l ps) (k::e) rows q)(h2:∀{f l bs fs n},Q f l bs fs n [] [] [] [] n)(v:∀{f l bs fs n p ps k ks o e r g m q},GR D own (bsAt f l bs fs) n p (k::ks) r m->GRs D own f l bs (fs++[k]) m ps o e g q->P (bsAt f l bs fs) n p (k::ks) r m->Q f l bs (fs++[k]) m ps o e g q->Q f l bs fs n (p::ps) (k::o) ((k::ks)++e) (r::g) q):(∀{bs n t ks r n'},GR D own bs n t ks r n'->P bs n t ks r n')/\∀{f l bs fs n ps ks e g n'},GRs D own f l bs fs n ps ks e g n'->Q f l bs fs n ps ks e g n':=
 ⟨λ h=>GR.rec (motive_1:=λ bs n t ks r n' _=>P bs n t ks r n') (motive_2:=λ f l bs fs n ps ks e g n' _=>Q f l bs fs n ps ks e g n') (λ a b c i=>u a b c i) h2 (λ a b i j=>v a b i j) h,λ h=>GRs.rec (motive_1:=λ bs n t ks r n' _=>P bs n t ks r n') (motive_2:=λ f l bs fs n ps ks e g n' _=>Q f l bs fs n ps ks e g n') (λ a b c i=>u a b c i) h2 (λ a b i j=>v a b i j) h⟩
theorem gr_all:(∀{bs n t ks r b},GR D own bs n t ks r b->n<=b/\r.length<=2*t.size/\b<=n+t.size/\ks.length=t.size)/\∀{f l bs fs n ps ks c a b},GRs D own f l bs fs n ps ks c a b->n<=b/\a.flatten.length<=2*sumS ps/\b<=n+sumS ps/\c.length=sumS ps/\ks.length=ps.length/\a.length=ps.length:=by
 refine gr_ind (P:=λ bs n t ks r b=>n<=b/\r.length<=2*t.size/\b<=n+t.size/\ks.length=t.size) (Q:=λ f l bs fs n ps ks c a b=>n<=b/\a.flatten.length<=2*sumS ps/\b<=n+sumS ps/\c.length=sumS ps/\ks.length=ps.length/\a.length=ps.length) (λ{bs n f l ps ks c a m k h o} _ w _ i=>?_) ⟨qa0 _,qa0 _,qa0 _,rfl,rfl,rfl⟩ (λ{f l bs fs n p ps k ks q c r a m o} _ _ i j=>?_)
 ·obtain⟨u,v,x,e,_⟩:=i;have B:=w.fl.2;have C:=w.rl;have E:=w.one;have g:(Tm.mk f l ps).size=1+sumS ps:=rfl;rw[g,qb2,e];lia
 ·obtain⟨u,v,x,e⟩:=i;obtain⟨G,H,I,y,z,A⟩:=j;have g:sumS (p::ps)=p.size+sumS ps:=rfl;rw[g,qd5,qa2,qa2,e,y,qb2,qb2,qb2,z,A];exact⟨qR,qR,qR,rfl,rfl,rfl⟩
theorem GRs.len{ps:List Tm}{f:Fm}{l:Lb}{bs:List (M2×M2)}{fs:List M2}{n b:Nat}{ks a:List M2}{r:List (List PyData)}(h:GRs D own f l bs fs n ps ks a r b):ks.length=ps.length/\r.length=ps.length:=(gr_all.2 h).2.2.2.2
theorem GR.mono{t:Tm}{bs:List (M2×M2)}{n n':Nat}{ks:List M2}{r:List PyData}(h:GR D own bs n t ks r n'):n<=n':=(gr_all.1 h).1
theorem GRs.mono{ps:List Tm}{f:Fm}{l:Lb}{bs:List (M2×M2)}{fs:List M2}{n n':Nat}{ks a:List M2}{r:List (List PyData)}(h:GRs D own f l bs fs n ps ks a r n'):n<=n':=(gr_all.2 h).1
theorem GR.rlen{t:Tm}{bs:List (M2×M2)}{n a:Nat}{ks:List M2}{r:List PyData}(h:GR D own bs n t ks r a):r.length<=2*t.size:=(gr_all.1 h).2.1
theorem GRs.rlen{ps:List Tm}{f:Fm}{l:Lb}{bs:List (M2×M2)}{fs:List M2}{n b:Nat}{ks a:List M2}{r:List (List PyData)}(h:GRs D own f l bs fs n ps ks a r b):r.flatten.length<=2*sumS ps:=(gr_all.2 h).2.1
theorem GR.sites{t:Tm}{bs:List (M2×M2)}{n a:Nat}{ks:List M2}{r:List PyData}(h:GR D own bs n t ks r a):a<=n+t.size:=(gr_all.1 h).2.2.1
theorem GR.size{t:Tm}{bs:List (M2×M2)}{n a:Nat}{ks:List M2}{r:List PyData}(h:GR D own bs n t ks r a):ks.length=t.size:=(gr_all.1 h).2.2.2
theorem GRs.size{ps:List Tm}{f:Fm}{l:Lb}{bs:List (M2×M2)}{fs:List M2}{n b:Nat}{ks a:List M2}{r:List (List PyData)}(h:GRs D own f l bs fs n ps ks a r b):a.length=sumS ps:=(gr_all.2 h).2.2.2.1
end
end PK
end
section
namespace L2
open PySem PySem.Spec PyProof.Rows PySem.SeqAt
structure Lay(k:Nat)(d:PyData):Prop where
 lay:d.canLay0=true
 dep:d.depth<=k
structure LayL(k:Nat)(ds:List PyData):Prop where
 lay:PyData.canLayAll0 ds=true
 dep:PyData.depthAll ds<=k
theorem LayL.nil{k:Nat}:LayL k []:=⟨rfl,qb0 _⟩
theorem LayL.cons{k:Nat}{d:PyData}{a:List PyData}(h:Lay k d)(hs:LayL k a):LayL k (d::a):=⟨by rw[PyData.canLayAll0,h.lay,hs.lay];rfl,by rw[PyData.depthAll];exact Nat.max_le.mpr ⟨h.dep,hs.dep⟩⟩
theorem Lay.lst{k:Nat}{a:List PyData}(h:LayL k a):Lay (k+1) (.list a):=⟨by rw[PyData.canLay0];exact h.lay,by rw[PyData.depth];exact qg1 h.dep⟩
theorem Lay.shaped{k:Nat}{d:PyData}(h:Lay k d)(a:k<=64):PySem.SeqAt.shaped d=true:=qj4.mpr ⟨h.lay,decide_eq_true (qa9 h.dep a)⟩
theorem Lay.eqv{k:Nat}{d:PyData}(h:Lay k d):PyData.eqv d d=true:=eqv_refl d h.lay
theorem Lay.str{k:Nat}{x:M2}(h:P23.SOk x):Lay k (.str x):=⟨by rw[PyData.canLay0];exact h,qb0 _⟩
theorem LayL.of{k:Nat}:∀{a:List PyData},(∀d∈a,Lay k d)->LayL k a
 |[],_=>.nil
 |d::a,h=>.cons (h d qc2) (LayL.of λ e b=>h e (qc4 _ b))
end L2
end
section
namespace P50
open PySem P15 PW PK
structure Cho where
 od:Nat
 yg:Nat
 ot:Nat
 mx:Bool
 bg:Bool
 cc:Nat
 or:Nat
structure ChOk(c:Cho):Prop where
 od:c.od∈[1,2,4]
 yg:c.yg∈[0,1,2,4]
 ot:c.ot∈[0,1,2]
 cc:c.cc∈[0,1,2]
 or:c.or∈[0,1,2,3]
def K5:List M2:=["number","truth","aa","bb","cc"]
def H3:List M2:=["aa","bb","cc"]
def old(n:Nat):List (M2×M2):=[(("fa":M2),("number":M2)),("fb","truth"),("fg","number"),("fh","truth")].take n
def yng(n:Nat):List (M2×M2):=[(("fc":M2),("number":M2)),("fd","number"),("fe","truth"),("ff","number")].take n
def oth(n:Nat):List (M2×M2):=[(("fb":M2),("truth":M2)),("fa","number"),("fc","bb")].drop n
def flT(od yg ot:Nat)(h:M2):List (M2×M2):=if h="aa" then old od else if h="bb" then old od++yng yg else if h="cc" then oth ot else[]
structure Hd where
 h:M2
 w:M2
 ps:List M2
 k:M2
 deriving DecidableEq
def heads(mx bg:Bool)(cc:Nat):List Hd:=[⟨"aa","go",["number"],"number"⟩,⟨"aa","is",["aa","truth"],"truth"⟩]++(if mx then[⟨"aa","mix",["number","truth","bb","number"],"number"⟩]else[])++(if bg then[⟨"bb","go",["number"],"number"⟩]else[])++[(⟨"cc","do",[],"aa"⟩:Hd),⟨"cc","go",["bb"],"number"⟩].take cc
def Z0I(n:Nat):List M2:=([["aa","bb","cc"],["bb","aa","cc"],["cc","bb","aa"],["aa","cc","bb"]]:List (List M2)).getD n []
def prs(ks:List M2):List (M2×M2):=([("p":M2),"q","r","s"]).zip ks
def Z0V(hs:List Hd)(h w:M2):Option Hd:=(hs.find? λ x=>decide (x.h=h/\x.w=w)).or (if h="bb" then hs.find? λ x=>decide (x.h="aa"/\x.w=w)else none)
def blocks(hs:List Hd)(or:List M2):List (M2×M2):=(or.map λ h=>(hs.filter λ x=>decide (x.h=h)).map λ x=>(h,x.w)).flatten
def Z0z:List (M2×M2)->List M2->List M2
 |[],r=>r
 |(_,w)::l,r=>Z0z l (if w∈r then r else r++[w])
def ixOf{α:Type}[DecidableEq α]:List α->α->Option Nat
 |[],_=>none
 |y::a,x=>if y=x then some 0 else(ixOf a x).map (·+1)
def Cho.hs(c:Cho):List Hd:=heads c.mx c.bg c.cc
def Cho.bl(c:Cho):List (M2×M2):=blocks c.hs (Z0I c.or)
def D50(c:Cho):HD where
 nm:=Z0I c.or
 up:=λ h=>if h="bb" then["aa"]else[]
 fl:=flT c.od c.yg c.ot
 hd:=λ h w=>(Z0V c.hs h w).map λ x=>(prs x.ps,x.k)
 bk:=λ h w=>(Z0V c.hs h w).bind λ x=>ixOf c.bl (x.h,x.w)
 wo:=Z0z c.bl []
 el:=λ h=>if h="bb" then some "aa" else none
def Sub(a k:M2):Prop:=a=k\/(a="bb"/\k="aa")
instance:Decidable (Sub a k):=inferInstanceAs (Decidable (_\/_))
theorem sub_facts:∀a∈K5,∀k∈K5,Sub a k->fitP (λ h=>if h=("bb":M2)then[("aa":M2)]else[]) a k=true:=by decide+kernel
theorem near_facts:∀a∈K5,∀b∈K5,∀k∈K5,Sub a k->Sub b k->∃r∈K5,nrP (λ h=>if h=("bb":M2)then[("aa":M2)]else[]) a b=some r/\Sub r k:=by decide+kernel
theorem ord_facts:∀n∈[0,1,2,3],(∀h∈H3,h∈Z0I n)/\(∀h∈Z0I n,h∈H3)/\(Z0I n).length=3/\(Z0I n).Nodup:=by decide+kernel
theorem head_facts:∀a∈[true,false],∀b∈[true,false],∀c∈[0,1,2],∀x∈heads a b c,x.h∈H3/\(∀k∈x.ps,k∈K5)/\x.k∈K5/\x.ps.length<=4/\Z0V (heads a b c) x.h x.w=some x/\(x.h="aa"->∃y∈heads a b c,Z0V (heads a b c) "bb" x.w=some y/\y.ps=x.ps/\y.k=x.k):=by decide+kernel
theorem field_facts:∀od∈[1,2,4],∀a∈[0,1,2,4],∀b∈[0,1,2],∀h∈H3,(∀f∈flT od a b h,f.2∈K5/\(f.2="number"\/f.2="truth"\/(h="cc"/\f.2="bb")))/\((flT od a b h).map Prod.fst).Nodup/\(flT od a b h).length<=8:=by decide+kernel
end P50
end
section
namespace L2
open PySem PySem.Spec PyProof.Rows
section
variable{X:Cx}{pos:Pos}
def J6V(i j l:Nat)(ta:TA):TS:=λ D a H=>ta a H λ vs b=>∃v w z,vs=[v,w,z]/\D.nx (((a.set i (some v)).set j (some w)).set l (some z)) b
theorem J8K{i j l:Nat}{b:TA}{D:_}{a:St}{H:Hp}:J6V i j l b D a H=b a H λ vs H1=>∃v w z,vs=[v,w,z]/\D.nx (((a.set i (some v)).set j (some w)).set l (some z)) H1:=rfl
theorem J6e{i j l:Nat}{x y z:M2}{a b c:Expr}{R:TA}{A B C pt:Pos}{kt E m}(hc:X.calm=true)(G:X.N.Nodup)(hi:X.N[i]?=some x)(hj:X.N[j]?=some y)(hl:X.N[l]?=some z)(J:i≠j)(K:i≠l)(L:j≠l)(S:X.env.scope.names.lookup x=some .local)(T:X.env.scope.names.lookup y=some .local)(hz:X.env.scope.names.lookup z=some .local)(ha:PA X [a,b,c] R)(hw:swappedStores [.Tuple [.Name x A,.Name y B,.Name z C] kt pt] (.Tuple [a,b,c] E m) X.env=pure (some [x,y,z]))(hs:swapsWithSole [.Tuple [.Name x A,.Name y B,.Name z C] kt pt] (.Tuple [a,b,c] E m) pos.line X.env=pure false:=by rfl):PS X (.Assign [.Tuple [.Name x A,.Name y B,.Name z C] kt pt] (.Tuple [a,b,c] E m) pos) (J6V i j l R):=by
 intro g s U H D I h;rw[exec_Assign_arm];refine wpAny_bind (wpAny_standAt ?_);rw[hs];refine wpAny_bind (wpAny_pure ?_);rw[if_neg qQ];refine wpAny_bind (Tuple_ (thn (ha _ g s U H _ I h) λ us n ⟨vs,Y,I1,r1,M⟩=>?_));obtain⟨v,w,t,e1,M⟩:=M;subst e1;obtain⟨r,u,u3,rfl,rv,N,rz⟩:∃r u u3,us=[r,u,u3]/\RelV v r/\RelV w u/\RelV t u3:=by
  cases r1 with
  |cons p q=>
   cases q with
   |cons p' q'=>
    cases q' with
    |cons O P=>
     cases P;exact⟨_,_,_,rfl,p,p',O⟩
 refine wpAny_newObj_type ?_ (by show 3<=sizeLine;decide);have I2:Inv X g U Y {n with heap:=n.heap.push {cls:=.type "tuple",data:=.seq [r,u,u3].toArray}}:=I1.kept (t':=n.toks) λ b o e=>Heap.get?_push_of_some _ e;rw[hw];refine wpAny_bind (wpAny_pure ?_);show wpAny (model X.prog X.w) X.A (do rule "assign.swapped-stores";let items<-unpackItems (.ref n.heap.objs.size) 3 none;assignInOrder [λ v=>bindName X.env z v,λ v=>bindName X.env y v,λ v=>bindName X.env x v] items.reverse;pure Flow.next) _ _ _;refine wpAny_bind (wpAny_rule (wpAny_bind (unpackItems_tuple (items:=#[r,u,u3]) (I.ok.hd hc) (IsTup.new n.heap _) λ h' Q=>?_)));have I3:=I2.kept (h':=h') (t':=n.toks) λ b o e=>Q b o (qb3 (Heap.lt_size e)) e;show wpAny _ _ (assignInOrder [λ v=>bindName X.env z v,λ v=>bindName X.env y v,λ v=>bindName X.env x v] [u3,u,r]>>=λ _=>pure Flow.next) _ _ _;refine wpAny_bind (assignInOrder_cons (wpAny_bindName (Z2p I3 G hl (.inl hz) rz (λ s2 I4=>?_) (.inr hz))));refine assignInOrder_cons (wpAny_bindName (Z2p I4 G hj (.inl T) N (λ s3 I5=>?_) (.inr T)));refine assignInOrder_cons (wpAny_bindName (Z2p I5 G hi (.inl S) rv (λ s4 Z=>assignInOrder_nil (wpAny_pure ?_)) (.inr S)));rw[qk3 _ _ (Ne.symm J),qk3 _ _ (Ne.symm K),qk3 _ _ (Ne.symm L)]at Z;exact⟨_,Y,Z,M⟩
end
open PySem.SeqAt
def Z8C(K:X0):V->List V->Hp->VK->Prop:=λ x vs H Q=>∃(l:V0)(us:List V)(a:List PyData)(v:V)(d:PyData)(j:Nat),x=.ref l/\vs=[v]/\H l=some (.lst us)/\RdDs K H us a/\RdD K H v d/\PyData.canLayAll0 a=true/\d.canLay0=true/\d.depth<=60/\(∃y,a[j]?=some y/\PyData.eqv y d=true)/\(∀i,i<j->∀y,a[i]?=some y->PyData.eqv y d=false)/\Q (.int j) H
theorem J6F{K:X0}{x:V}{vs:List V}{H:Hp}{Q:VK}:Z8C K x vs H Q=∃(l:V0)(us:List V)(a:List PyData)(v:V)(d:PyData)(j:Nat),x=.ref l/\vs=[v]/\H l=some (.lst us)/\RdDs K H us a/\RdD K H v d/\PyData.canLayAll0 a=true/\d.canLay0=true/\d.depth<=60/\(∃y,a[j]?=some y/\PyData.eqv y d=true)/\(∀i,i<j->∀y,a[i]?=some y->PyData.eqv y d=false)/\Q (.int j) H:=rfl
theorem Z7o:∀{b:List PyData},PyData.canLayAll0 b=true->∀{m:Nat}{d:PyData},b[m]?=some d->d.canLay0=true
 |[],_,m,d,h=>by cases h
 |x::c,a,0,d,h=>by cases h;exact(qj4.mp a).1
 |x::c,a,m+1,d,h=>Z7o (qj4.mp a).2 h
theorem Z9G{h:Z3}:∀{vs:List V1}{c:List PyData}{g:List V0},ReadsAll h vs c g->∀(j:Nat)(a:j<vs.length),∃d b,c[j]?=some d/\Reads h vs[j] d b
 |_,_,_,.nil,j,a=>absurd a (qj2 _)
 |_,_,_,.cons r e,0,_=>⟨_,_,rfl,r⟩
 |_,_,_,.cons r e,j+1,a=>Z9G e j (Nat.lt_of_succ_lt_succ a)
section
variable{X:Cx}
theorem J2h(hu:X.A.units+64<cLine):MtM X "list.index" (Z8C X.K):=by
 intro L s σ H x vs v us Q I O P h;obtain⟨l,xs,M,k,d,j,rfl,rfl,R,A,hd,N,B,S,⟨yj,g,C⟩,D,q⟩:=h;cases O;obtain⟨u,rfl,T⟩:=P.one;obtain⟨z,a,n,r,hl,e⟩:=I.lstM R;obtain⟨as,E⟩:=RdDs.reads I A r;obtain⟨bs,U⟩:=RdD.reads I hd T;have hn:=Z5r;have ln:=ReadsAll.length _ _ _ E;have Y:=(qa6.mp g).1;have i:j<a.length:=by lia
 have p:∀(m:Nat)(w:m<a.toArray.size),∃y,M[m]?=some y/\readOf s.heap a.toArray[m]=y:=λ m w=>by
  have G:m<a.length:=by simpa using w
  obtain⟨y,Z,c,ry⟩:=Z9G E m G;exact⟨y,c,by simpa using readOf_eq (Z7o N c) ry⟩
 refine call_meets F.slot_list_index ⟨_,e,rfl⟩ F.entry_list_index (F.args_list_index_2 _ _) (SeqAt.list_indexAt l a.toArray n none #[] u (λ y=>PyData.eqv (readOf s.heap y) d) j (by simpa using i) qR ?_ ?_) ⟨e,items_eqAt (by simpa using E) U N B ?_,?_⟩
 ·obtain⟨y,c,J⟩:=p j (by simpa using i);show PyData.eqv _ d=true;rw[J];rw[g]at c;cases c;exact C
 ·intro m w K;obtain⟨y,c,J⟩:=p m w;show PyData.eqv _ d=false;rw[J];exact D m K y c
 ·have:min (PyData.depthAll M) d.depth<=d.depth:=qi4 _ _;lia
 ·exact⟨.int j,H,I.kept (t':=s.toks+1) (λ b o e=>e),⟨_,rfl⟩,q⟩
end
end L2
end
section
namespace P50
open PySem P15 PW PK
def hof(mx bg:Bool)(cc:Nat)(h:M2):List Hd:=(heads mx bg cc).filter λ x=>decide (x.h=h)
def up5(h:M2):List M2:=if h="bb" then["aa"]else[]
def foP(mx bg:Bool)(cc:Nat)(w:M2):List M2->Option (M2×Nat)
 |[]=>none
 |h::l=>match P23.ixO ((hof mx bg cc h).map Hd.w) w with
  |some i=>some (h,i)
  |none=>foP mx bg cc w l
def Z4D(mx bg:Bool)(cc:Nat):List M2->M2->Nat
 |[],_=>0
 |x::r,h=>if x=h then 0 else(hof mx bg cc x).length+Z4D mx bg cc r h
def W4:List M2:=["go","is","mix","do"]
theorem J3Z:∀a∈[true,false],∀b∈[true,false],∀c∈[0,1,2],∀x∈heads a b c,x.w∈W4:=by decide+kernel
theorem J3C:∀a∈[true,false],∀b∈[true,false],∀c∈[0,1,2],∀x∈H3,∀w∈W4,Z0V (heads a b c) x w=(foP a b c w (x::up5 x)).bind λ p=>(hof a b c p.1)[p.2]?:=by decide+kernel
theorem J3L:∀a∈[true,false],∀b∈[true,false],∀c∈[0,1,2],∀or∈[0,1,2,3],∀x∈H3,∀w∈W4,((Z0V (heads a b c) x w).bind λ y=>ixOf (blocks (heads a b c) (Z0I or)) (y.h,y.w))=(foP a b c w (x::up5 x)).map λ p=>Z4D a b c (Z0I or) p.1+p.2:=by decide+kernel
theorem wo_facts:∀a∈[true,false],∀b∈[true,false],∀c∈[0,1,2],∀or∈[0,1,2,3],Z0z (blocks (heads a b c) (Z0I or)) []=P52.Z1W [] ((Z0I or).map λ h=>(hof a b c h).map Hd.w):=by decide+kernel
theorem like_facts:∀a∈[true,false],∀b∈[true,false],∀c∈[0,1,2],∀x∈hof a b c "bb",∀y∈heads a b c,Z0V (heads a b c) "aa" x.w=some y->y.ps=x.ps/\y.k=x.k:=by decide+kernel
theorem len_facts:∀a∈[true,false],∀b∈[true,false],∀c∈[0,1,2],∀or∈[0,1,2,3],(blocks (heads a b c) (Z0I or)).length<=6/\(Z0z (blocks (heads a b c) (Z0I or)) []).length<=6/\((Z0I or).map λ h=>(hof a b c h).length).sum<=6:=by decide+kernel
theorem key_facts:∀a∈[true,false],∀b∈[true,false],∀c∈[0,1,2],∀or∈[0,1,2,3],(((Z0I or).map λ h=>(hof a b c h).map λ x=>((some h:Option M2),x.w)).flatten++[((none:Option M2),("main":M2))]).Nodup:=by decide+kernel
theorem tf(b:Bool):b∈[true,false]:=by cases b<;>simp
theorem J0u{hs:List Hd}{h w:M2}(n:∀x∈hs,x.w≠w):Z0V hs h w=none:=by
 have f:∀g:M2,(hs.find? λ x=>decide (x.h=g/\x.w=w))=none:=λ g=>qm6.mpr λ x a=>by
  simp[n x a]
 unfold Z0V;rw[f h,f "aa"];split<;>rfl
theorem J0g{a b:Bool}{c:Nat}{w:M2}(n:∀x∈heads a b c,x.w≠w):∀l,foP a b c w l=none
 |[]=>rfl
 |h::l=>by
  unfold foP;rw[P23.Z3w (λ z=>by
   obtain⟨x,g,e⟩:=qe0.mp z;exact n x (qe5.mp g).1 e)]
  exact J0g n l
theorem hfind_mem{hs:List Hd}{h w:M2}{y:Hd}(e:Z0V hs h w=some y):y∈hs:=by
 unfold Z0V at e;cases f:hs.find? λ x=>decide (x.h=h/\x.w=w)with
 |some z=>rw[f]at e;cases e;exact List.mem_of_find?_eq_some f
 |none=>
  rw[f]at e;change(if h="bb" then _ else _)=_ at e;split at e
  ·exact List.mem_of_find?_eq_some e
  ·cases e
theorem fo_all{c:Cho}(ok:ChOk c){x:M2}(a:x∈H3)(w:M2):Z0V c.hs x w=(foP c.mx c.bg c.cc w (x::up5 x)).bind (λ p=>(hof c.mx c.bg c.cc p.1)[p.2]?)/\((Z0V c.hs x w).bind λ y=>ixOf c.bl (y.h,y.w))=(foP c.mx c.bg c.cc w (x::up5 x)).map λ p=>Z4D c.mx c.bg c.cc (Z0I c.or) p.1+p.2:=by
 by_cases h:w∈W4
 ·exact⟨J3C _ (tf _) _ (tf _) _ ok.cc x a w h,J3L _ (tf _) _ (tf _) _ ok.cc _ ok.or x a w h⟩
 ·have n:∀x∈heads c.mx c.bg c.cc,x.w≠w:=λ x a e=>h (e▸J3Z _ (tf _) _ (tf _) _ ok.cc x a);have b:Z0V c.hs x w=none:=J0u n;rw[b,J0g n];exact⟨rfl,rfl⟩
end P50
end
section
namespace L2
open PySem PySem.Spec PyProof.Rows PySem.SeqAt
structure Nb(k n:Nat)(d:PyData):Prop where
 lay:d.canLay0=true
 sho:d.showable=true
 leaf:d.leavesShort 30=true
 dep:d.depth<=k
 bk:d.bulk<=n
structure NbL(k n:Nat)(ds:List PyData):Prop where
 lay:PyData.canLayAll0 ds=true
 sho:PyData.showableAll ds=true
 leaf:PyData.leavesShortAll 30 ds=true
 dep:PyData.depthAll ds<=k
 bk:PyData.bulkAll ds<=n
variable{n:Nat}
theorem Nb.mono{k a b:Nat}{d:PyData}(h:Nb k n d)(c:k<=a)(e:n<=b):Nb a b d:=⟨h.lay,h.sho,h.leaf,qa9 h.dep c,qa9 h.bk e⟩
theorem NbL.nil{k:Nat}:NbL k n []:=⟨rfl,rfl,rfl,qb0 _,qb0 _⟩
theorem NbL.cons{k a b n:Nat}{d:PyData}{c:List PyData}(h:Nb k a d)(hs:NbL k b c)(e:a+1+b<=n):NbL k n (d::c)where
 lay:=by rw[PyData.canLayAll0,h.lay,hs.lay];rfl
 sho:=by rw[PyData.showableAll,h.sho,hs.sho];rfl
 leaf:=by rw[PyData.leavesShortAll,h.leaf,hs.leaf];rfl
 dep:=by rw[PyData.depthAll];exact Nat.max_le.mpr ⟨h.dep,hs.dep⟩
 bk:=by rw[PyData.bulkAll];have:=h.bk;have:=hs.bk;lia
theorem Nb.tup{k n:Nat}{a:List PyData}(h:NbL k n a):Nb (k+1) n (.tuple a)where
 lay:=by rw[PyData.canLay0];exact h.lay
 sho:=by rw[PyData.showable];exact h.sho
 leaf:=by rw[PyData.leavesShort];exact h.leaf
 dep:=by rw[PyData.depth];exact qg1 h.dep
 bk:=by rw[PyData.bulk];exact h.bk
theorem Nb.lst{k n:Nat}{a:List PyData}(h:NbL k n a):Nb (k+1) n (.list a)where
 lay:=by rw[PyData.canLay0];exact h.lay
 sho:=by rw[PyData.showable];exact h.sho
 leaf:=by rw[PyData.leavesShort];exact h.leaf
 dep:=by rw[PyData.depth];exact qg1 h.dep
 bk:=by rw[PyData.bulk];exact h.bk
theorem Nb.bool{k:Nat}{b:Bool}:Nb k n (.bool b):=⟨rfl,rfl,rfl,qb0 _,qb0 _⟩
theorem Nb.int{k:Nat}{i:Int}(h:i.natAbs<10^18):Nb k n (.int i):=have m:=Nice.int (k:=k) h;⟨m.lay,m.sho,m.leaf,m.dep,qb0 _⟩
theorem Nb.str{k:Nat}{x:M2}(h:PyData.strOk x=true)(a:x.cps.size<=n):Nb k n (.str x):=have m:=Nice.str (k:=k) h a;⟨m.lay,m.sho,m.leaf,m.dep,by rw[PyData.bulk];exact a⟩
theorem Nb.fits{k:Nat}{d:PyData}(h:Nb k n d)(a:n<=500000):d.shown.length<=sizeLine:=by
 have:=PyData.shown_le_bulk 30 qQ d h.leaf;have:=h.bk;rw[sizeLine_eq];lia
theorem Nb.rp{k:Nat}{d:PyData}(h:Nb k n d)(a:k<=60)(b:n<=500000):d.showable=true/\d.hasDict=false/\d.depth<=60/\d.shown.length<=16777216:=⟨h.sho,PyData.hasDict_of_canLay d h.lay,qa9 h.dep a,by have:=h.fits b;rw[sizeLine_eq]at this;exact this⟩
end L2
end
section
open PySem L2 TM WK
section
namespace K50
open P15 (Lb Fm Tm dats Z0K okF Ok maxD sumS flatR Bld)
open PW (Wd Hs Pg IxAt Look Chain Z0Z Flds Z1i)
seal L2.PE L2.PA L2.PT L2.PS L2.PSs L2.PG L2.PGs L2.PI L2.PW
theorem Z8x:Z0p ["kind"] ["kind"] (Z0g Z3p):=by walk_at "c"
theorem J6j:Z0p ["hall","one","other"] ["hall","one","other"] (Z0g Z9j):=by walk_at "c"
theorem O0R:Z0p ["hall","one","other","common"] ["hall","one","other"] (Z0g Z4e):=by walk_at "c"
theorem O0r:Z0p ["program","hall","told","house","word"] ["program"] (Z0g Z3k):=by walk_at "c"
theorem O0f:Z0p ["hall","house","word","head","params","kind"] ["hall","house","word"] (Z0g Z1c):=by walk_at "c"
theorem Z8N:Z0p ["pairs"] ["pairs"] (Z0g Z3o):=by walk_at "c"
theorem O0D:Z0p ["hall","house","word","told"] ["hall","house","word"] (Z0g Z2t):=by walk_at "c"
theorem O0i:Z0p ["hall","house","term","bound","firsts","told","part","inner"] ["hall","house","term","bound"] (Z0g Z2z):=by walk_at "c"
theorem O0A:Z0p ["term","firsts","bound","more"] ["term","firsts","bound"] (Z0g Z1X):=by walk_at "c"
theorem Z8J:Z0p ["hall","house","term","bound","parts"] ["hall","house","term","bound","parts"] (Z0g Z3B):=by walk_at "c"
theorem J5x:Z0p ["word","holds"] ["word","holds"] (Z0g J0m):=by walk_at "c"
theorem Z8u:Z0p ["sign","one","other"] ["sign","one","other"] (Z0g Z3l):=by walk_at "c"
theorem O0S:Z0p ["hall","parts","common"] ["hall","parts"] (Z0g Z4d):=by walk_at "c"
theorem Z6G:Z0p ["hall","kind","field"] ["hall","kind","field"] (Z0g Z2B):=by walk_at "c"
theorem O0x:Z0p ["hall","kind","word","terms","params","told"] ["hall","kind","word","terms"] (Z0g Z2O):=by walk_at "c"
theorem O0T:Z0p ["hall","kinds","pairs","wanted"] ["hall","kinds","pairs"] (Z0g Z3X):=by walk_at "c"
theorem O0w:Z0p ["program","names","house"] ["program"] (Z0g Z2n):=by walk_at "c"
theorem O0g:Z0p ["program","firsts","number","house"] ["program"] (Z0g Z1O):=by walk_at "c"
theorem O0B:Z0p ["hall","firsts","house","word","where"] ["hall","firsts","house","word"] (Z0g Z2c):=by walk_at "c"
theorem Z8r:Z0p ["program"] ["program"] (Z0g Z3s):=by walk_at "c"
theorem O0E:Z0p ["term","kinds","number","start"] ["term","kinds","number"] (Z0g Z2v):=by walk_at "c"
theorem O0y:Z0p ["inner","asked","wanted","other"] ["inner"] (Z0g Z3Z):=by walk_at "c"
theorem O0K:Z0p ["rows","told","some"] ["rows"] (Z0g Z4R):=by walk_at "c"
theorem Z7K:Z0p ["bound","name"] ["bound","name"] (Z0g Z2T):=by walk_at "c"
theorem Z6U:Z0p ["many","rows"] ["many","rows"] (Z0g Z2A):=by walk_at "c"
theorem Z8Q:Z0p ["form","label","parts"] ["form","label","parts"] (Z0g Z3v):=by walk_at "c"
theorem Z8p:Z0p ["pairs"] ["pairs"] (Z0g Z3r):=by walk_at "c"
theorem O0j:Z0p ["plain","told_houses","told_main","params","kind","body"] ["plain"] (Z0g Z2u):=by walk_at "c"
theorem O0s:Z0p ["plain","name","elder","own_fields","own_words"] ["plain"] (Z0g Z3F):=by walk_at "c"
theorem O0v:Z0p ["plain","name","params","kind","body"] ["plain"] (Z0g Z4g):=by walk_at "c"
theorem O0z:Z0p ["plain","built","one","inner"] ["plain"] (Z0g Z4a):=by walk_at "c"
theorem O0q:Z0p ["plain","found","waiting","one"] ["plain"] (Z0g Z2y):=by walk_at "c"
theorem O0L:Z0p ["plain","form"] ["plain"] (Z0g Z3E):=by walk_at "c"
theorem O0M:Z0p ["plain","form"] ["plain"] (Z0g Z3i):=by walk_at "c"
theorem Z5y:Z0p ["_law_script","_law_k"] ["_law_script","_law_k"] (Z0g Z1M):=by walk_at "c"
theorem O0l:Z0p ["_law_env_here","_law_k","_law_cell"] ["_law_env_here"] (Z0g Z2K):=by walk_at "c"
theorem O0m:Z0p ["_law_env_here","_law_kinds","_law_depth","_law_terms","_law_rows","_law_kind","_law_term","_law_more"] ["_law_env_here","_law_kinds","_law_depth"] (Z0g Z2N):=by walk_at "c"
theorem O0n:Z0p ["_law_env_here","_law_kind","_law_cell","_law_depth","_law_house","_law_terms","_law_rows"] ["_law_env_here","_law_kind","_law_cell","_law_depth"] (Z0g Z3y):=by walk_at "c"
theorem O0o:Z0p ["_law_env_here","_law_kind","_law_cell","_law_some_here","_law_slot","_law_one","_law_hidden"] ["_law_env_here","_law_kind","_law_cell"] (Z0g Z2R):=by walk_at "c"
theorem O0c:Z0p ["_law_env_here","_law_kind","_law_cell","_law_depth","_law_some_here","_law_house","_law_word","_law_params","_law_told","_law_terms","_law_rows","_law_row"] ["_law_env_here","_law_kind","_law_cell","_law_depth"] (Z0g Z2e):=by walk_at "c"
theorem O0b:Z0p ["_law_env_here","_law_kind","_law_cell","_law_depth","_law_some_here","_law_house","_law_at","_law_name","_law_terms","_law_rows"] ["_law_env_here","_law_kind","_law_cell","_law_depth"] (Z0g Z1N):=by walk_at "c"
theorem O0h:Z0p ["_law_env_here","_law_kind","_law_cell","_law_depth","_law_name","_law_one","_law_rows","_law_known","_law_other","_law_more"] ["_law_env_here","_law_kind","_law_cell","_law_depth"] (Z0g Z3m):=by walk_at "c"
theorem O0d:Z0p ["_law_env_here","_law_kind","_law_cell","_law_depth","_law_term","_law_rows","_law_one","_law_other","_law_more","_law_sign","_law_row","_law_some_here","_law_last","_law_terms"] ["_law_env_here","_law_kind","_law_cell","_law_depth"] (Z0g Z3t):=by walk_at "c"
theorem O0a:Z0p ["_law_env_here","_law_kind","_law_depth","_law_cell","_law_found","_law_truth","_law_rows","_law_one","_law_more","_law_other","_law_rest"] ["_law_env_here","_law_kind","_law_depth"] (Z0g Z2m):=by walk_at "c"
theorem O0u:Z0p ["_law_env_here","_law_own","_law_params","_law_kind","_law_many","_law_term","_law_rows"] ["_law_env_here","_law_own","_law_params","_law_kind"] (Z0g Z2Q):=by walk_at "c"
theorem O0e:Z0p ["_law_script","_law_more","_law_order","_law_old","_law_young","_law_other","_law_heads","_law_env_here","_law_house","_law_word"] ["_law_script"] (Z0g Z3q):=by walk_at "c"
theorem O0p:Z0p ["_law_script","_law_env_here","_law_houses","_law_due","_law_house","_law_told","_law_head","_law_params","_law_term","_law_block","_law_cell","_law_kind","_law_program","_law_found"] ["_law_script"] (Z0g J0A):=by walk_at "c"
theorem sc_Hall___init__:Z0p ["self","program","house"] ["self","program"] (Z0g Z1F):=by walk_at "c"
theorem Z5K:Z0p ["self"] ["self"] (Z0g Z1Z):=by walk_at "c"
theorem sc_Hall_elders:Z0p ["self","house","nearest_first","one"] ["self","house"] (Z0g Z2d):=by walk_at "c"
theorem sc_Hall_fields:Z0p ["self","house","all_fields","one"] ["self","house"] (Z0g Z1Y):=by walk_at "c"
theorem sc_Hall_place:Z0p ["self","house","field","names"] ["self","house","field"] (Z0g Z2s):=by walk_at "c"
theorem sc_Hall_found:Z0p ["self","house","word","one","names"] ["self","house","word"] (Z0g Z2r):=by walk_at "c"
theorem sc_Hall_head:Z0p ["self","house","word","own"] ["self","house","word"] (Z0g Z2P):=by walk_at "c"
theorem sc_Hall_found_word:Z0p ["self","house","word","where","name","number"] ["self","house","word"] (Z0g Z1m):=by walk_at "c"
theorem Z4q:Z0p ["self","program"] ["self","program"] (Z0g Z1v):=by walk_at "c"
theorem sc_Maker_all_blocks:Z0p ["self","kinds","blocks","house","word"] ["self"] (Z0g Z1f):=by walk_at "c"
theorem sc_Maker_block:Z0p ["self","house","word","kinds","bound","rows"] ["self","house","word","kinds"] (Z0g Z2a):=by walk_at "c"
theorem sc_Maker_rows:Z0p ["self","term","kinds","bound","house","inner","number","part"] ["self","term","kinds","bound","house"] (Z0g Z2k):=by walk_at "c"
theorem sc_Maker_own_row:Z0p ["self","term","kinds","bound","house","many"] ["self","term","kinds","bound","house"] (Z0g Z1G):=by walk_at "c"
theorem Z4K:Z0p ["self","form","label","parts"] ["self","form","label","parts"] (Z0g Z1C):=by walk_at "c"
theorem Z6s:Z0p ["self"] ["self"] (Z0g Z2x):=by walk_at "c"
theorem Z6o:Z0p ["self"] ["self"] (Z0g Z2C):=by walk_at "c"
theorem Z6t:Z0p ["self"] ["self"] (Z0g Z2q):=by walk_at "c"
theorem Z8b:Z0p ["self"] ["self"] (Z0g Z2U):=by walk_at "c"
theorem Z4I:Z0p ["self","name","params","kind","body"] ["self","name","params","kind","body"] (Z0g Z1H):=by walk_at "c"
theorem Z4o:Z0p ["self","name","elder","own_fields","own_words"] ["self","name","elder","own_fields","own_words"] (Z0g Z1u):=by walk_at "c"
theorem Z3L:Z0p ["self","all_houses","main"] ["self","all_houses","main"] (Z0g Z1g):=by walk_at "c"
noncomputable def Z4C:List (Key×V):=[(.inr "+",.str "add"),(.inr "-",.str "sub"),(.inr "*",.str "mul"),(.inr "/",.str "div"),(.inr "<",.str "less"),(.inr "=",.str "same")]
structure Txt(P:Program)(w:Y3)(K:X0)(mg:M2->Option V1)(Cl:V0)(C9:V0)(Ct:V0)(Cw:V0)(Ch:V0)(Cp:V0)(D9:V0)(Uh9:V0):Prop where
 z_all:mg "all"=none
 O1L:mg "dict"=none
 O0t:mg "enumerate"=none
 z_int:mg "int"=none
 O1a:mg "isinstance"=none
 z_len:mg "len"=none
 O1b:mg "list"=none
 z_max:mg "max"=none
 O1M:mg "range"=none
 O1q:mg "repr"=none
 O0H:mg "reversed"=none
 z_sum:mg "sum"=none
 O0k:mg "tuple"=none
 z_zip:mg "zip"=none
 c_SIGN_ROWS:Cst mg "SIGN_ROWS" (.ref D9)
 d_SIGN_ROWS:J5Q P w K D9 Z4C
 c_NO_HOUSES:Cst mg "NO_HOUSES" (.ref Uh9)
 t_NO_HOUSES:UTup K Uh9 [.str "number",.str "truth"]
 O1r:Fn K mg "is_house" Z3p
 f_fits:Fn K mg "fits" Z9j
 O1E:Fn K mg "nearest" Z4e
 O1s:Fn K mg "kinds_of" Z3k
 O0F:Fn K mg "need_like_elders" Z1c
 O1t:Fn K mg "kinds_in" Z3o
 O1c:Fn K mg "body_kinds" Z2t
 O0I:Fn K mg "term_kinds" Z2z
 O0Y:Fn K mg "bound_ahead" Z1X
 O1u:Fn K mg "own_kind" Z3B
 f_need:Fn K mg "need" J0m
 O1v:Fn K mg "two_kind" Z3l
 O1F:Fn K mg "if_kind" Z4d
 O1d:Fn K mg "field_kind" Z2B
 O1k:Fn K mg "call_kind" Z2O
 O1G:Fn K mg "all_fit" Z3X
 O1e:Fn K mg "word_names" Z2n
 O0P:Fn K mg "first_blocks" Z1O
 O0Z:Fn K mg "found_block" Z2c
 O1w:Fn K mg "compiled" Z3s
 O1f:Fn K mg "part_kinds" Z2v
 O1H:Fn K mg "if_rows" Z3Z
 O1K:Fn K mg "joined" Z4R
 O1l:Fn K mg "last_slot" Z2T
 O1g:Fn K mg "most_bound" Z2A
 O1x:Fn K mg "shape_of" Z3v
 O1y:Fn K mg "pairs_of" Z3r
 O1h:Fn K mg "program_of" Z2u
 O1z:Fn K mg "house_of" Z3F
 O1I:Fn K mg "word_of" Z4g
 O1J:Fn K mg "term_of" Z4a
 O1i:Fn K mg "all_within" Z2y
 O1A:Fn K mg "parts_of" Z3E
 O1B:Fn K mg "label_of" Z3i
 O0Q:Fn K mg "_law_cell_at" Z1M
 O0N:Fn K mg "_law_draw" Z2K
 O1m:Fn K mg "_law_some" Z2N
 O0U:Fn K mg "_law_new" Z3y
 O1n:Fn K mg "_law_leaf" Z2R
 O0G:Fn K mg "_law_called" Z2e
 O0C:Fn K mg "_law_touched" Z1N
 O0V:Fn K mg "_law_let" Z3m
 O0W:Fn K mg "_law_two" Z3t
 O0J:Fn K mg "_law_grown" Z2m
 O1o:Fn K mg "_law_body" Z2Q
 O1C:Fn K mg "_law_env" Z3q
 f_law:Fn K mg "law" J0A
 Hall:Z7a K mg "Hall" Cl
 n_Hall_by_name:NoAttr K Cl "by_name"
 n_Hall_in_order:NoAttr K Cl "in_order"
 Maker:Z7a K mg "Maker" C9
 n_Maker_firsts:NoAttr K C9 "firsts"
 n_Maker_hall:NoAttr K C9 "hall"
 n_Maker_program:NoAttr K C9 "program"
 n_Maker_sites:NoAttr K C9 "sites"
 n_Maker_word_order:NoAttr K C9 "word_order"
 Term:Z7a K mg "Term" Ct
 n_Term_deep:NoAttr K Ct "deep"
 n_Term_form:NoAttr K Ct "form"
 n_Term_inner:NoAttr K Ct "inner"
 n_Term_label:NoAttr K Ct "label"
 n_Term_many:NoAttr K Ct "many"
 n_Term_shape:NoAttr K Ct "shape"
 Word:Z7a K mg "Word" Cw
 n_Word_body:NoAttr K Cw "body"
 n_Word_kind:NoAttr K Cw "kind"
 n_Word_name:NoAttr K Cw "name"
 n_Word_params:NoAttr K Cw "params"
 House:Z7a K mg "House" Ch
 n_House_elder:NoAttr K Ch "elder"
 n_House_name:NoAttr K Ch "name"
 n_House_own_fields:NoAttr K Ch "own_fields"
 n_House_own_words:NoAttr K Ch "own_words"
 Program:Z7a K mg "Program" Cp
 n_Program_all_houses:NoAttr K Cp "all_houses"
 n_Program_main:NoAttr K Cp "main"
 m_Hall___init__:MFn K Cl "__init__" "Hall.__init__" Z1F
 m_Hall_houses:MFn K Cl "houses" "Hall.houses" Z1Z
 m_Hall_elders:MFn K Cl "elders" "Hall.elders" Z2d
 m_Hall_fields:MFn K Cl "fields" "Hall.fields" Z1Y
 m_Hall_place:MFn K Cl "place" "Hall.place" Z2s
 m_Hall_found:MFn K Cl "found" "Hall.found" Z2r
 m_Hall_head:MFn K Cl "head" "Hall.head" Z2P
 m_Hall_found_word:MFn K Cl "found_word" "Hall.found_word" Z1m
 m_Maker___init__:MFn K C9 "__init__" "Maker.__init__" Z1v
 m_Maker_all_blocks:MFn K C9 "all_blocks" "Maker.all_blocks" Z1f
 m_Maker_block:MFn K C9 "block" "Maker.block" Z2a
 m_Maker_rows:MFn K C9 "rows" "Maker.rows" Z2k
 m_Maker_own_row:MFn K C9 "own_row" "Maker.own_row" Z1G
 m_Term___init__:MFn K Ct "__init__" "Term.__init__" Z1C
 m_Term_plain:MFn K Ct "plain" "Term.plain" Z2x
 m_Term_parts:MFn K Ct "parts" "Term.parts" Z2C
 m_Term_depth:MFn K Ct "depth" "Term.depth" Z2q
 m_Term_size:MFn K Ct "size" "Term.size" Z2U
 m_Word___init__:MFn K Cw "__init__" "Word.__init__" Z1H
 m_House___init__:MFn K Ch "__init__" "House.__init__" Z1u
 m_Program___init__:MFn K Cp "__init__" "Program.__init__" Z1g
def isA:Fm->Bool| .self| .nt| .iff=>true|_=>false
def isN:Fm->Bool| .new| .elder=>true|_=>false
def isF:Fm->Bool| .field| .set=>true|_=>false
theorem inA(f:Fm):inV (V.str f.s) [V.str (Str.ofString "self"),V.str (Str.ofString "not"),V.str (Str.ofString "if")]=isA f:=by cases f<;>decide+kernel
theorem inN(f:Fm):inV (V.str f.s) [V.str (Str.ofString "new"),V.str (Str.ofString "elder")]=isN f:=by cases f<;>decide+kernel
theorem inF(f:Fm):inV (V.str f.s) [V.str (Str.ofString "field"),V.str (Str.ofString "set")]=isF f:=by cases f<;>decide+kernel
theorem isC(f:Fm):f.s=Str.ofString "call"->f=.call:=by cases f<;>first|exact λ _=>rfl|exact λ h=>absurd h qP
variable{ds:List PyData}
theorem shA{f:Fm}{l:Lb}(h:isA f=true):Z0K f l ds=.str f.s::ds:=by cases f<;>first|rfl|cases h
theorem shN{f:Fm}{l:Lb}{a:List PyData}(h:isN f=true):Z0K f l a=[.str f.s,l.d,.tuple a]:=by cases f<;>first|rfl|cases h
theorem shF{f:Fm}{l:Lb}{d:PyData}(h:isF f=true):Z0K f l (d::ds)=.str f.s::d::l.d::ds:=by cases f<;>first|rfl|cases h
theorem shR{f:Fm}{l:Lb}(a:¬isA f=true)(h2:¬isN f=true)(b:¬f=.call)(c:¬isF f=true):Z0K f l ds=.str f.s::l.d::ds:=by cases f<;>first|rfl|exact absurd rfl a|exact absurd rfl h2|exact absurd rfl b|exact absurd rfl c
theorem Z4w{f:Fm}{l:Lb}{a:List PyData}(h:okF f l a.length)(c:f=.call\/isF f=true):∃d r,a=d::r:=by
 cases a with
 |cons d r=>exact⟨d,r,rfl⟩
 |nil=>
  cases f<;>cases l<;>first|(rcases c with c|c<;>cases c;done)|exact absurd h qQ|cases h
theorem cut1(x:V)(xs:List V):cutV (x::xs) (some 1) none=xs:=by
 rw[show(some (1:Int))=some ((1:Nat):Int)from rfl];unfold cutV;simp[HT.sIx]
inductive J0f(K:X0)(vs:List V)(H:Hp)(Q:VK):Prop
 |mk(f:Fm)(l:Lb)(p:V0)(us:List V)(ds:List PyData)(a1:vs=[.str f.s,lbV l,.ref p])(a2:SqT K H p us)(a3:RTs K H us ds)(a4:okF f l ds.length)(a5:ds.length<=20000)(a6:∀r ws H',Same H H'->SqT K H' r ws->RTs K H' ws (Z0K f l ds)->Q (.ref r) H')
def J0l(K:X0):Sp:=λ vs H Q _=>J0f K vs H Q
theorem J3A(T:nofun):Has P w K mg base 1 "shape_of" ["form","label","parts"] (J0l K):=by
 walk_at "h O1x Z8Q 3"
 obtain⟨f,l,p,us,ds,rfl,b,i,m,hl,q⟩:=h;refine⟨_,(Z0a (Z0t (Z0Y (r:=rIn K false) Z0J (pvF 0) (Z0i (qK Z0b Z0b Z0b)) (by with_unfolding_all rfl)) (Z0c (Z0h (Z0j (r:=J0H K) Z5j (Z0i (qI (pvF 0))) (pvF 2)))) Z0n) (Z0a (Z0t (Z0Y (r:=rIn K false) Z0J (pvF 0) (Z0i (qJ Z0b Z0b)) (by with_unfolding_all rfl)) (Z0c (Z0h (Z0i (qK (pvF 0) (pvF 1) (pvF 2))))) Z0n) (Z0a (Z0t (qM Z0B (pvF 0) Z0b) (Z0c (Z0h (Z0i (Z0q (pvF 0) (qK (qA K 2) (pvF 1) (Z0S (r:=rSlA K) Z4t (pvF 2) (Z1j Z0f) Z1x)))))) Z0n) (Z0a (Z0t (Z0Y (r:=rIn K false) Z0J (pvF 0) (Z0i (qJ Z0b Z0b)) (by with_unfolding_all rfl)) (Z0c (Z0h (Z0j (r:=J0H K) Z5j (Z0i (qK (pvF 0) (qA K 2) (pvF 1))) (Z0S (r:=rSlA K) Z4t (pvF 2) (Z1j Z0f) Z1x)))) Z0n) (Z0c (Z0h (Z0j (r:=J0H K) Z5j (Z0i (qJ (pvF 0) (pvF 1))) (pvF 2)))))))),?_⟩;walk_at "r";have B:us.length<=20000:=by rw[i.length];exact hl
 refine New.of λ p1 H1 h1 O e1=>?_;refine⟨_,.inr (SqT.of e1),rfl,rfl,?_⟩;rw[inA];refine ite2 (λ c=>?_) (λ cA=>?_)
 ·skip
  refine New.of λ p2 H2 h2 C D=>?_;have S:=O.trans C;refine⟨_,_,_,_,rfl,rfl,SqT.of D,b.same S,by rw[sizeLine_eq];show 1+us.length<=_;lia,λ r n a hr=>q r _ n (S.trans a) hr ?_⟩;rw[shA c];exact .cons (.str _) (i.same (S.trans a))
 refine New.of λ p2 H2 h2 C D=>?_;refine⟨_,.inr (SqT.of D),rfl,rfl,?_⟩;rw[inN];have o:=O.trans C;refine ite2 (λ c=>?_) (λ cN=>?_)
 ·skip
  refine New.of λ R H3 y u G=>?_;have S:=o.trans u;refine q _ _ H3 S (SqT.of G) ?_;rw[shN c];exact .cons (.str _) (.cons (J4b l) (.cons (.tup (b.same S) (i.same S)) .nil))
 refine ite2 (λ c=>?_) (λ cC=>?_)
 ·obtain⟨d,r,rfl⟩:=Z4w m (.inl (isC f c));obtain⟨v,U,rfl,I,e⟩:=i.inv;refine⟨_,b.same o,v,ix0,?_⟩;refine⟨p,_,rfl,b.same o,λ R H3 u y=>?_⟩;rw[cut1]at y;refine New.of λ X J Y j x=>?_;have S:=o.trans (u.trans j);refine q _ _ J S (SqT.of x) ?_;cases isC f c;exact .cons (.str _) (.cons (I.same S) (.cons (J4b l) (.cons (.tup (y.same j) (e.same S)) .nil)))
 have L:¬f=.call:=λ z=>cC (by rw[z];rfl);refine New.of λ R H3 y u G=>?_;refine⟨_,.inr (SqT.of G),rfl,rfl,?_⟩;rw[inF];have M:=o.trans u;refine ite2 (λ c=>?_) (λ cF=>?_)
 ·obtain⟨d,r,rfl⟩:=Z4w m (.inr c);obtain⟨v,U,rfl,I,e⟩:=i.inv;refine⟨_,b.same M,v,ix0,?_⟩;refine New.of λ X J Y j x=>?_;have g:=M.trans j;refine⟨p,_,rfl,b.same g,λ p5 H5 N Z=>?_⟩;rw[cut1]at Z;refine⟨_,_,_,_,rfl,rfl,SqT.of (N _ _ x),Z,by rw[sizeLine_eq];show 3+U.length<=_;simp at B;lia,λ r' n a hr=>q r' _ n (g.trans (N.trans a)) hr ?_⟩;rw[shF c];have S:=g.trans (N.trans a);exact .cons (.str _) (.cons (I.same S) (.cons (J4b l) (e.same S)))
 refine New.of λ X J Y j x=>?_;have g:=M.trans j;refine⟨_,_,_,_,rfl,rfl,SqT.of x,b.same g,by rw[sizeLine_eq];show 2+us.length<=_;lia,λ r n a hr=>q r _ n (g.trans a) hr ?_⟩;rw[shR cA cN L cF];exact .cons (.str _) (.cons (J4b l) (i.same (g.trans a)))
inductive Z9C(K:X0)(vs:List V)(H:Hp)(Q:VK):Prop
 |mk(f:Fm)(l:Lb)(p:V0)(ws:List V)(ds:List PyData)(a1:vs=[.ref p])(a2:SqT K H p ws)(a3:RTs K H ws (Z0K f l ds))(a4:okF f l ds.length)(a5:ds.length<=20000)(a6:∀r us H',Same H H'->SqT K H' r us->RTs K H' us ds->Q (.ref r) H')
def Z6J(K:X0):Sp:=λ vs H Q _=>Z9C K vs H Q
inductive Z9Y(K:X0)(vs:List V)(H:Hp)(Q:VK):Prop
 |mk(f:Fm)(l:Lb)(p:V0)(ws:List V)(ds:List PyData)(a1:vs=[.ref p])(a2:SqT K H p ws)(a3:RTs K H ws (Z0K f l ds))(a4:okF f l ds.length)(a5:∀H',Same H H'->Q (lbV l) H')
def Z9Q(K:X0):Sp:=λ vs H Q _=>Z9Y K vs H Q
theorem x_hd{f:Fm}{l:Lb}{a:List PyData}(h:okF f l a.length):∃r,Z0K f l a=.str f.s::r:=by
 by_cases c:f=.call\/isF f=true
 ·obtain⟨d,r,rfl⟩:=Z4w h c;rcases c with rfl|c
  ·exact⟨_,rfl⟩
  ·exact⟨_,shF c⟩
 ·by_cases b:isA f=true
  ·exact⟨_,shA b⟩
  by_cases e:isN f=true
  ·exact⟨_,shN e⟩
  exact⟨_,shR b e (λ z=>c (.inl z)) (λ z=>c (.inr z))⟩
def isB:Fm->Bool| .nt| .iff=>true|_=>false
def isD:Fm->Bool| .two| .lt=>true|_=>false
def isE:Fm->Bool| .field| .call| .set=>true|_=>false
theorem inB(f:Fm):inV (V.str f.s) [V.str (Str.ofString "not"),V.str (Str.ofString "if")]=isB f:=by cases f<;>decide+kernel
theorem inD(f:Fm):inV (V.str f.s) [V.str (Str.ofString "two"),V.str (Str.ofString "let")]=isD f:=by cases f<;>decide+kernel
theorem inE(f:Fm):inV (V.str f.s) [V.str (Str.ofString "field"),V.str (Str.ofString "call"),V.str (Str.ofString "set")]=isE f:=by cases f<;>decide+kernel
theorem shB{f:Fm}{l:Lb}(h:isB f=true):Z0K f l ds=.str f.s::ds:=by cases f<;>first|rfl|cases h
theorem shD{f:Fm}{l:Lb}(h:isD f=true):Z0K f l ds=.str f.s::l.d::ds:=by cases f<;>first|rfl|cases h
theorem ok0{f:Fm}{l:Lb}{a:List PyData}(h:okF f l a.length)(b:¬isB f=true)(c:¬isD f=true)(e:¬isN f=true)(g:¬f=.call)(i:¬isF f=true):a=[]:=by
 cases f<;>cases l<;>first|exact qh9.mp h|exact absurd rfl b|exact absurd rfl c|exact absurd rfl e|exact absurd rfl g|exact absurd rfl i|cases h
theorem okA{f:Fm}{l:Lb}{n:Nat}(h:okF f l n)(c:isA f=true):l=.non:=by
 cases f<;>cases l<;>first|rfl|(cases c;done)|cases h
theorem cut2(x y:V)(xs:List V):cutV (x::y::xs) (some 2) none=xs:=by
 rw[show(some (2:Int))=some ((2:Nat):Int)from rfl];unfold cutV;simp[HT.sIx]
theorem cut3(x y z:V)(xs:List V):cutV (x::y::z::xs) (some 3) none=xs:=by
 rw[show(some (3:Int))=some ((3:Nat):Int)from rfl];unfold cutV;simp[HT.sIx]
theorem J3V(T:nofun):Has P w K mg base 1 "parts_of" ["plain"] (Z6J K):=by
 walk_at "h O1A O0L 1"
 obtain⟨f,l,p,ws,ds,rfl,n,hw,j,hl,q⟩:=h;refine⟨_,(Z0a (qG 1 O0L.nd (qA K 0)) (Z0a (Z0t (Z0Y (r:=rIn K false) Z0J (pvF 1) (Z0i (qJ Z0b Z0b)) (by with_unfolding_all rfl)) (Z0c (Z0h (Z0S (r:=rSlA K) Z4t (pvF 0) (Z1j Z0f) Z1x))) Z0n) (Z0a (Z0t (Z0Y (r:=rIn K false) Z0J (pvF 1) (Z0i (qJ Z0b Z0b)) (by with_unfolding_all rfl)) (Z0c (Z0h (Z0S (r:=rSlA K) Z4t (pvF 0) (Z1j Z0f) Z1x))) Z0n) (Z0a (Z0t (Z0Y (r:=rIn K false) Z0J (pvF 1) (Z0i (qJ Z0b Z0b)) (by with_unfolding_all rfl)) (Z0c (Z0h (qA K 0))) Z0n) (Z0a (Z0t (qM Z0B (pvF 1) Z0b) (Z0c (Z0h (Z0j (r:=J0H K) Z5j (Z0i (qI (qA K 0))) (qA K 0)))) Z0n) (Z0a (Z0t (Z0Y (r:=rIn K false) Z0J (pvF 1) (Z0i (qJ Z0b Z0b)) (by with_unfolding_all rfl)) (Z0c (Z0h (Z0j (r:=J0H K) Z5j (Z0i (qI (qA K 0))) (Z0S (r:=rSlA K) Z4t (pvF 0) (Z1j Z0f) Z1x)))) Z0n) (Z0c (Z0h (Z0i Z0R))))))))),?_⟩;walk_at "s 2 z";obtain⟨r0,g⟩:=x_hd j;have y:=hw;rw[g]at y;obtain⟨v0,o,rfl,J,b⟩:=y.inv;cases J.str_inv;refine⟨_,n,_,ix0,?_⟩;walk_at "n z1";refine New.of λ p1 H1 h1 B e1=>?_;refine⟨_,.inr (SqT.of e1),rfl,rfl,?_⟩;rw[inB];refine ite2 (λ c=>?_) (λ cB=>?_)
 ·refine⟨p,_,rfl,n.same B,λ r u e hr=>?_⟩;rw[cut1]at hr;rw[shB c]at g;cases g;exact q r _ u (B.trans e) hr (b.same (B.trans e))
 refine New.of λ p2 H2 Z s2 e2=>?_;refine⟨_,.inr (SqT.of e2),rfl,rfl,?_⟩;rw[inD];have C:=B.trans s2;refine ite2 (λ c=>?_) (λ cD=>?_)
 ·rw[shD c]at g;cases g;obtain⟨L,o,rfl,_,b⟩:=b.inv;refine⟨p,_,rfl,n.same C,λ r u e hr=>?_⟩;rw[cut2]at hr;exact q r _ u (C.trans e) hr (b.same (C.trans e))
 refine New.of λ p3 H3 h3 s3 e3=>?_;refine⟨_,.inr (SqT.of e3),rfl,rfl,?_⟩;rw[inN];have v:=C.trans s3;refine ite2 (λ c=>?_) (λ cN=>?_)
 ·rw[shN c]at g;cases g;obtain⟨L,o,rfl,_,b⟩:=b.inv;obtain⟨v2,o,rfl,Z,_⟩:=b.inv;obtain⟨a,us,rfl,M,D⟩:=Z.tup_inv;exact⟨_,n.same v,_,ix2,q a us H3 v (M.same v) (D.same v)⟩
 refine ite2 (λ c=>?_) (λ cC=>?_)
 ·obtain⟨d,r,rfl⟩:=Z4w j (.inl (isC f c));cases isC f c;cases g;obtain⟨L,o,rfl,x,b⟩:=b.inv;obtain⟨v2,o,rfl,_,b⟩:=b.inv;obtain⟨v3,o,rfl,N,_⟩:=b.inv;obtain⟨a,us,rfl,M,D⟩:=N.tup_inv;refine⟨_,n.same v,_,ix1,?_⟩;refine New.of λ p4 H4 h4 O R=>?_;have m:=v.trans O;refine⟨_,n.same m,_,ix3,_,_,_,_,rfl,rfl,SqT.of R,M.same m,?_,λ S u e hr=>q S _ u (m.trans e) hr (.cons (x.same (m.trans e)) (D.same (m.trans e)))⟩;rw[sizeLine_eq,D.length];simp only[qb2,qg0]at hl ⊢;lia
 have U:¬f=.call:=λ z=>cC (by rw[z];rfl);refine New.of λ p4 H4 h4 O R=>?_;refine⟨_,.inr (SqT.of R),rfl,rfl,?_⟩;rw[inF];have m:=v.trans O;refine ite2 (λ c=>?_) (λ cF=>?_)
 ·obtain⟨d,r,rfl⟩:=Z4w j (.inr c);rw[shF c]at g;cases g;obtain⟨L,o,rfl,x,b⟩:=b.inv;obtain⟨v2,o,rfl,_,b⟩:=b.inv;refine⟨_,n.same m,_,ix1,?_⟩;refine New.of λ p5 H5 h5 X Y=>?_;have G:=m.trans X;refine⟨p,_,rfl,n.same G,λ p6 H6 I h6=>?_⟩;rw[cut3]at h6;refine⟨_,_,_,_,rfl,rfl,SqT.of (I _ _ Y),h6,?_,λ S u e hr=>q S _ u (G.trans (I.trans e)) hr (.cons (x.same (G.trans (I.trans e))) (b.same (G.trans (I.trans e))))⟩;rw[sizeLine_eq,b.length];simp only[qb2,qg0]at hl ⊢;lia
 refine New.of λ p5 H5 h5 X Y=>?_;cases ok0 j cB cD cN U cF;exact q _ _ H5 (m.trans X) (SqT.of Y) .nil
theorem J3j(T:nofun):Has P w K mg base 1 "label_of" ["plain"] (Z9Q K):=by
 walk_at "h O1B O0M 1"
 obtain⟨f,l,p,U,y,rfl,o,J,e,q⟩:=h;refine⟨_,(Z0a (qG 1 O0M.nd (qA K 0)) (Z0a (Z0t (Z0Y (r:=rIn K false) Z0J (pvF 1) (Z0i (qK Z0b Z0b Z0b)) (by with_unfolding_all rfl)) (Z0c (Z0h Z0T)) Z0n) (Z0a (Z0t (Z0Y (r:=rIn K false) Z0J (pvF 1) (Z0i (qK Z0b Z0b Z0b)) (by with_unfolding_all rfl)) (Z0c (Z0h (qA K 0))) Z0n) (Z0c (Z0h (qA K 0)))))),?_⟩;walk_at "s 2 z";obtain⟨r0,g⟩:=x_hd e;have j:=J;rw[g]at j;obtain⟨X,u,rfl,v,b⟩:=j.inv;cases v.str_inv;refine⟨_,o,_,ix0,?_⟩;walk_at "n z1";refine New.of λ Y L Z B M=>?_;refine⟨_,.inr (SqT.of M),rfl,rfl,?_⟩;rw[inA];refine ite2 (λ c=>?_) (λ N=>?_)
 ·cases okA e c;exact q L B
 refine New.of λ p2 C D O R=>?_;refine⟨_,.inr (SqT.of R),rfl,rfl,?_⟩;rw[inE];have m:=B.trans O;refine ite2 (λ c=>?_) (λ G=>?_)
 ·have n:f=.call\/isF f=true:=by cases f<;>first|exact .inl rfl|exact .inr rfl|cases c
  obtain⟨d,r,rfl⟩:=Z4w e n;have a:∃r2,Z0K f l (d::r)=.str f.s::d::l.d::r2:=by
   rcases n with rfl|n
   ·exact⟨_,rfl⟩
   ·exact⟨_,shF n⟩
  obtain⟨r2,a⟩:=a;rw[a]at g;cases g;obtain⟨S,u,rfl,_,b⟩:=b.inv;obtain⟨v2,u,rfl,D,_⟩:=b.inv;cases J5a D;exact⟨_,o.same m,_,ix2,q C m⟩
 have a:∃r2,Z0K f l y=.str f.s::l.d::r2:=by
  by_cases I:isN f=true
  ·exact⟨_,shN I⟩
  ·refine⟨_,shR N I (λ z=>G (by rw[z];rfl)) (λ z=>G ?_)⟩;cases f<;>first|rfl|cases z
 obtain⟨r2,a⟩:=a;rw[a]at g;cases g;obtain⟨S,u,rfl,x,_⟩:=b.inv;cases J5a x;exact⟨_,o.same m,_,ix1,q C m⟩
inductive Z8k(C:V0)(K:X0)(vs:List V)(H:Hp)(Q:VK):Prop
 |mk(v:V)(t:Tm)(a1:vs=[v])(a2:TO K C H v t)(a3:∀u,RT K H u t.dat->Q u H)
def Z6X(C:V0)(K:X0):Sp:=λ vs H Q _=>Z8k C K vs H Q
inductive Z7y(C:V0)(K:X0)(vs:List V)(H:Hp)(Q:VK):Prop
 |mk(v:V)(t:Tm)(a1:vs=[v])(a2:TO K C H v t)(a3:∀l us,H l=none->TOs K C H us t.ps->Q (.ref l) (upd H l (.lst us)))
def Z2j(C:V0)(K:X0):Sp:=λ vs H Q _=>Z7y C K vs H Q
inductive Z7d(C:V0)(K:X0)(vs:List V)(H:Hp)(Q:VK):Prop
 |mk(v:V)(t:Tm)(a1:vs=[v])(a2:TO K C H v t)(a3:Q (.int (t.depth:Nat)) H)
def Z7g(C:V0)(K:X0):Sp:=λ vs H Q _=>Z7d C K vs H Q
inductive Z9c(C:V0)(K:X0)(vs:List V)(H:Hp)(Q:VK):Prop
 |mk(v:V)(t:Tm)(a1:vs=[v])(a2:TO K C H v t)(a3:Q (.int (t.size:Nat)) H)
def Z6A(C:V0)(K:X0):Sp:=λ vs H Q _=>Z9c C K vs H Q
theorem J0Y(T:nofun):HasM P w K mg base 1 Ct "plain" ["self"] (Z6X Ct K):=by
 walk_at "m m_Term_plain Z6s 1"
 obtain⟨v,t,rfl,h,q⟩:=h;refine⟨_,(Z0c (Z0h (qO 0))),?_⟩;walk_at "r";obtain⟨a,b,c,e,us,m,rfl,g,n,i,hs,j⟩:=h.inv;refine⟨a,rfl,Ct,b,_,g,T.Term.cl,T.n_Term_shape,.ref e,rfl,q _ ?_⟩;cases t;exact .tup hs j
theorem J1x(T:nofun):HasM P w K mg base 1 Ct "parts" ["self"] (Z2j Ct K):=by
 walk_at "m m_Term_parts Z6o 1"
 obtain⟨v,t,rfl,h,q⟩:=h;refine⟨_,(Z0c (Z0h (Z0w Z3f rfl T.O1b Z6I (qI (qO 0))))),?_⟩;walk_at "r";obtain⟨a,e,b,j,us,m,rfl,g,i,c,hs,n⟩:=h.inv;exact⟨a,rfl,Ct,e,_,g,T.Term.cl,T.n_Term_inner,.ref b,rfl,b,rfl,us,.inr i,λ l hl=>q l us hl c⟩
theorem J2P(T:nofun):HasM P w K mg base 1 Ct "depth" ["self"] (Z7g Ct K):=by
 walk_at "m m_Term_depth Z6t 1"
 obtain⟨v,t,rfl,h,q⟩:=h;refine⟨_,(Z0c (Z0h (qO 0))),?_⟩;walk_at "r";obtain⟨a,b,c,i,us,j,rfl,e,m,g,hs,n⟩:=h.inv;exact⟨a,rfl,Ct,b,_,e,T.Term.cl,T.n_Term_deep,.int (t.depth:Nat),rfl,q⟩
theorem J3Y(T:nofun):HasM P w K mg base 1 Ct "size" ["self"] (Z6A Ct K):=by
 walk_at "m m_Term_size Z8b 1"
 obtain⟨v,t,rfl,h,q⟩:=h;refine⟨_,(Z0c (Z0h (qO 0))),?_⟩;walk_at "r";obtain⟨a,b,c,i,us,j,rfl,e,m,g,hs,n⟩:=h.inv;exact⟨a,rfl,Ct,b,_,e,T.Term.cl,T.n_Term_many,.int (t.size:Nat),rfl,q⟩
inductive Z9N(C:V0)(K:X0)(vs:List V)(H:Hp)(Q:VK):Prop
 |mk(x dx p:V0)(f:Fm)(l:Lb)(us:List V)(ps:List Tm)(a1:vs=[.ref x,.str f.s,lbV l,.ref p])(a2:H x=some (.ins C dx []))(a3:SqL K H p us)(a4:TOs K C H us ps)(a5:okF f l ps.length)(a6:ps.length<=20000)(a7:∀H',SX x H H'->TO K C H' (.ref x) (.mk f l ps)->Q .non H')
def Z9r(C:V0)(K:X0):Sp:=λ vs H Q _=>Z9N C K vs H Q
theorem J7T{ts:List Tm}{m:Int}(e:ts.map (λ t=>((t.depth:Nat):Int))=[]->m=0)(g:ts.map (λ t=>((t.depth:Nat):Int))≠[]->Z8y (ts.map λ t=>((t.depth:Nat):Int)) m):m=((maxD ts:Nat):Int):=by
 cases ts with
 |nil=>exact e rfl
 |cons t ts=>
  obtain⟨h,c⟩:=g (by simp);obtain⟨u,i,rfl⟩:=qe0.mp h;have a:=J2I i;have b:maxD (t::ts)<=u.depth:=Z3M λ v j=>by
   have:=c _ (qe0.mpr ⟨v,j,rfl⟩);lia
  lia
theorem J4W:∀ts:List Tm,(ts.map λ t=>((t.size:Nat):Int)).sum=((sumS ts:Nat):Int)
 |[]=>rfl
 |t::ts=>by
  rw[qb7,qh6,J4W ts];show _=((t.size+sumS ts:Nat):Int);lia
variable{vs:List V}
theorem Z1D{c:Type}{g:c->V}{ts:List c}(hl:vs.length=ts.length)(h:∀(j:Nat) v,vs[j]?=some v->∃t,ts[j]?=some t/\v=g t):vs=ts.map g:=by
 refine qm7 λ j=>?_;rw[qa8];by_cases e:j<vs.length
 ·obtain⟨t,a,b⟩:=h j _ (qa3 e);rw[qa3 e,a,b];rfl
 ·rw[qh7 qR,qh7 qR];rfl
variable{H' H:Hp}
theorem kpN(s:Z3G H H'):Kp H H':=⟨λ b c h=>s b _ (λ a z=>by cases z) h,λ b o c h=>s b _ (λ a z=>by cases z) h,λ b C e f fs h=>s b _ (λ a z=>by cases z) h⟩
theorem J4w{K:X0}:∀{ts:List Tm}{vs:List V},vs.length=ts.length->(∀(j:Nat) v,vs[j]?=some v->∃t,ts[j]?=some t/\RT K H v t.dat)->RTs K H vs (dats ts)
 |[],[],_,_=>.nil
 |t::ts,v::vs,e,h=>by
  obtain⟨g,a,b⟩:=h 0 v rfl;cases a;exact .cons b (J4w (ql1 e) λ j u c=>h (j+1) u c)
theorem J4n(T:nofun)(J:Has P w K mg base 1 "shape_of" ["form","label","parts"] (J0l K))(B:HasM P w K mg base 1 Ct "plain" ["self"] (Z6X Ct K))(G:HasM P w K mg base 1 Ct "depth" ["self"] (Z7g Ct K))(I:HasM P w K mg base 1 Ct "size" ["self"] (Z6A Ct K)):HasM P w K mg base 2 Ct "__init__" ["self","form","label","parts"] (Z9r Ct K):=by
 walk_at "m m_Term___init__ Z4K 4"
 obtain⟨x,n,p,f,l,us,ps,rfl,hx,hp,hu,e0,hl,q⟩:=h;refine⟨_,(Z0a (Z0O (pvF 0) (pvF 1) rfl) (Z0a (Z0O (pvF 0) (pvF 2) rfl) (Z0a (Z0O (pvF 0) (Z0w Z0u rfl T.O0k Z0X (qI (pvF 3))) rfl) (Z0a (Z0O (pvF 0) (Z0j Z1q Z0f (J5J rfl rfl T.z_max Z9a (qI (Z1e rfl (BlockOk.plain (N:=["part"]) rfl qP qP qP) (Z1J (qO 0)) (λ C fp s H=>(qH 0 (show(["part"]:List M2).Nodup by decide+kernel))) (λ C fp s H=>(Z1a (pvF 0) T.Term.cl G hr qQ)))) (J6u Z0f J7d))) rfl) (Z0a (Z0O (pvF 0) (Z0j Z1q Z0f (Z1t (Z9z rfl) rfl T.z_sum J4I (qI (Z1e rfl (BlockOk.plain (N:=["part"]) rfl qP qP qP) (Z1J (qO 0)) (λ C fp s H=>(qH 0 (show(["part"]:List M2).Nodup by decide+kernel))) (λ C fp s H=>(Z1a (pvF 0) T.Term.cl I hr qQ)))))) rfl) (Z0c (Z0O (pvF 0) (qF J hr (qK (pvF 1) (pvF 2) (Z0w Z0u rfl T.O0k Z0X (qI (Z1e rfl (BlockOk.plain (N:=["part"]) rfl qP qP qP) (Z1J (qO 0)) (λ C fp s H=>(qH 0 (show(["part"]:List M2).Nodup by decide+kernel))) (λ C fp s H=>(Z1a (pvF 0) T.Term.cl B hr qQ))))))) rfl))))))),?_⟩;walk_at "s 6 z";refine⟨Ct,n,_,hx,T.Term.cl,T.n_Term_form,qc3 rfl,?_⟩;walk_at "n z1";refine⟨Ct,n,_,Z0d,T.Term.cl,T.n_Term_label,qc3 rfl,?_⟩;walk_at "n z2";have S1:SX x H (upd (upd H x (.ins Ct n (putF "form" (.str f.s) []))) x (.ins Ct n (putF "label" (lbV l) (putF "form" (.str f.s) [])))):=(SX.put _).trans (SX.put _);have X1:upd (upd H x (.ins Ct n (putF "form" (.str f.s) []))) x (.ins Ct n (putF "label" (lbV l) (putF "form" (.str f.s) []))) x=some (.ins Ct n (putF "label" (lbV l) (putF "form" (.str f.s) []))):=Z0d;generalize upd (upd H x (.ins Ct n (putF "form" (.str f.s) []))) x (.ins Ct n (putF "label" (lbV l) (putF "form" (.str f.s) [])))=L at*;refine⟨us,.inl ⟨S1.sqL hx hp,λ c M=>?_⟩⟩;have nx:c≠x:=λ z=>Z0m X1 M z.symm;have s2:=Z0r M (.tup us);refine⟨Ct,n,_,s2 _ _ X1,T.Term.cl,T.n_Term_inner,qc3 rfl,?_⟩;have S2:SX x H (upd (upd L c (.tup us)) x (.ins Ct n (putF "inner" (.ref c) (putF "label" (lbV l) (putF "form" (.str f.s) []))))):=S1.trans ((SX.of s2).trans (SX.put _));have X2:upd (upd L c (.tup us)) x (.ins Ct n (putF "inner" (.ref c) (putF "label" (lbV l) (putF "form" (.str f.s) [])))) x=some (.ins Ct n (putF "inner" (.ref c) (putF "label" (lbV l) (putF "form" (.str f.s) [])))):=Z0d;have I2:upd (upd L c (.tup us)) x (.ins Ct n (putF "inner" (.ref c) (putF "label" (lbV l) (putF "form" (.str f.s) [])))) c=some (.tup us):=by rw[Z0k nx];exact Z0d
 clear s2 M X1 S1;generalize upd (upd L c (.tup us)) x (.ins Ct n (putF "inner" (.ref c) (putF "label" (lbV l) (putF "form" (.str f.s) []))))=H2 at*;have S:us.length=ps.length:=hu.length;have U2:TOs K Ct H2 us ps:=hu.kp (S2.kp hx);walk_at "n z3";refine⟨Ct,n,_,X2,T.Term.cl,T.n_Term_inner,.ref c,rfl,c,rfl,⟨_,SqT.of I2⟩,λ D U=>?_⟩;refine Z1A (ys:=us) none [] (λ j v H=>∃t,ps[j]?=some t/\v=.int ((t.depth:Nat):Int)) (λ _ _ _ _ h _=>h) rfl U (by rw[sizeLine_eq];lia) (λ L s=>SqT.of (s _ _ I2)) (λ i y hy L K' s k=>?_) (λ vs Ha Sa X lv Y=>?_)
 ·walk_at "r";obtain⟨t,ht,o⟩:=U2.at hy;have o:=o.kp (Kp.of s);obtain⟨a,O,R,a0,b0,d0,rfl,ha,_⟩:=o.inv;exact⟨a,rfl,O,_,ha,rfl,_,t,rfl,o,k _ _ (Same.refl _) ⟨t,ht,rfl⟩⟩
 cases Z1D (g:=λ t:Tm=>V.int ((t.depth:Nat):Int)) (lv.trans S) Y;refine⟨D,rfl,ps.map λ t=>((t.depth:Nat):Int),by rw[qc7];exact SqL.of X,λ m m0 m1=>?_⟩;cases J7T m0 m1;refine⟨Ct,n,_,Sa _ _ X2,T.Term.cl,T.n_Term_deep,qc3 rfl,?_⟩;have S3:SX x H2 (upd Ha x (.ins Ct n (putF "deep" (.int (1+((maxD ps:Nat):Int))) (putF "inner" (.ref c) (putF "label" (lbV l) (putF "form" (.str f.s) [])))))):=(SX.of Sa).trans (SX.put _);have X3:upd Ha x (.ins Ct n (putF "deep" (.int (1+((maxD ps:Nat):Int))) (putF "inner" (.ref c) (putF "label" (lbV l) (putF "form" (.str f.s) []))))) x=some (.ins Ct n (putF "deep" (.int (1+((maxD ps:Nat):Int))) (putF "inner" (.ref c) (putF "label" (lbV l) (putF "form" (.str f.s) []))))):=Z0d;clear X Y U Sa;generalize upd Ha x (.ins Ct n (putF "deep" (.int (1+((maxD ps:Nat):Int))) (putF "inner" (.ref c) (putF "label" (lbV l) (putF "form" (.str f.s) [])))))=H3 at*;have I3:=S3 _ _ nx I2;have U3:TOs K Ct H3 us ps:=hu.kp ((S2.trans S3).kp hx);walk_at "n z4";refine⟨Ct,n,_,X3,T.Term.cl,T.n_Term_inner,.ref c,rfl,c,rfl,⟨_,SqT.of I3⟩,λ D U=>?_⟩;refine Z1A (ys:=us) none [] (λ j v H=>∃t,ps[j]?=some t/\v=.int ((t.size:Nat):Int)) (λ _ _ _ _ h _=>h) rfl U (by rw[sizeLine_eq];lia) (λ L s=>SqT.of (s _ _ I3)) (λ i y hy L K' s k=>?_) (λ vs Hb Sb X lv Y=>?_)
 ·walk_at "r";obtain⟨t,ht,o⟩:=U3.at hy;have o:=o.kp (Kp.of s);obtain⟨a,O,R,a0,b0,d0,rfl,ha,_⟩:=o.inv;exact⟨a,rfl,O,_,ha,rfl,_,t,rfl,o,k _ _ (Same.refl _) ⟨t,ht,rfl⟩⟩
 cases Z1D (g:=λ t:Tm=>V.int ((t.size:Nat):Int)) (lv.trans S) Y;refine⟨D,rfl,ps.map (λ t=>((t.size:Nat):Int)),by rw[qc7];exact SqL.of X,?_⟩;rw[J4W];refine⟨Ct,n,_,Sb _ _ X3,T.Term.cl,T.n_Term_many,qc3 rfl,?_⟩;have S4:SX x H3 (upd Hb x (.ins Ct n (putF "many" (.int (1+((sumS ps:Nat):Int))) (putF "deep" (.int (1+((maxD ps:Nat):Int))) (putF "inner" (.ref c) (putF "label" (lbV l) (putF "form" (.str f.s) []))))))):=(SX.of Sb).trans (SX.put _);have X4:upd Hb x (.ins Ct n (putF "many" (.int (1+((sumS ps:Nat):Int))) (putF "deep" (.int (1+((maxD ps:Nat):Int))) (putF "inner" (.ref c) (putF "label" (lbV l) (putF "form" (.str f.s) [])))))) x=some (.ins Ct n (putF "many" (.int (1+((sumS ps:Nat):Int))) (putF "deep" (.int (1+((maxD ps:Nat):Int))) (putF "inner" (.ref c) (putF "label" (lbV l) (putF "form" (.str f.s) [])))))):=Z0d;clear X Y U Sb;generalize upd Hb x (.ins Ct n (putF "many" (.int (1+((sumS ps:Nat):Int))) (putF "deep" (.int (1+((maxD ps:Nat):Int))) (putF "inner" (.ref c) (putF "label" (lbV l) (putF "form" (.str f.s) []))))))=H4 at*;have I4:=S4 _ _ nx I3;have Z:SX x H H4:=S2.trans (S3.trans S4);have U4:TOs K Ct H4 us ps:=hu.kp (Z.kp hx);walk_at "n z5";refine⟨Ct,n,_,X4,T.Term.cl,T.n_Term_inner,.ref c,rfl,c,rfl,⟨_,SqT.of I4⟩,λ D U=>?_⟩;refine Z1A (ys:=us) none [] (λ j v H=>∃t,ps[j]?=some t/\RT K H v t.dat) (λ j v L H2 ⟨t,a,b⟩ s=>⟨t,a,b.kp (kpN s)⟩) rfl U (by rw[sizeLine_eq];lia) (λ L s=>SqT.of (s _ _ I4)) (λ i y hy L K' s k=>?_) (λ vs Hc Sc X lv Y=>?_)
 ·walk_at "r";obtain⟨t,ht,o⟩:=U4.at hy;have o:=o.kp (Kp.of s);obtain⟨a,O,R,a0,b0,d0,rfl,ha,_⟩:=o.inv;exact⟨a,rfl,O,_,ha,rfl,_,t,rfl,o,λ u f0=>k _ _ (Same.refl _) ⟨t,ht,f0⟩⟩
 have hd:=J4w (lv.trans S) Y;refine⟨D,rfl,vs,.inl ⟨SqL.of X,λ t5 h5=>?_⟩⟩;have s5:=Z0r h5 (.tup vs);refine⟨f,l,t5,vs,dats ps,rfl,SqT.of Z0d,hd.same s5,by rw[Z0L];exact e0,by rw[Z0L];exact hl,λ r ws H6 s6 hr hw=>?_⟩;refine⟨Ct,n,_,s6 _ _ (s5 _ _ (Sc _ _ X4)),T.Term.cl,T.n_Term_shape,qc3 rfl,?_⟩;have S6:SX x H4 H6:=SX.of (Sc.trans (s5.trans s6));have X6:=S6;have S7:SX x H6 (upd H6 x (.ins Ct n (putF "shape" (.ref r) (putF "many" (.int (1+((sumS ps:Nat):Int))) (putF "deep" (.int (1+((maxD ps:Nat):Int))) (putF "inner" (.ref c) (putF "label" (lbV l) (putF "form" (.str f.s) [])))))))):=SX.put _;have x6:=s6 _ _ (s5 _ _ (Sc _ _ X4));have k6:Kp H (upd H6 x (.ins Ct n (putF "shape" (.ref r) (putF "many" (.int (1+((sumS ps:Nat):Int))) (putF "deep" (.int (1+((maxD ps:Nat):Int))) (putF "inner" (.ref c) (putF "label" (lbV l) (putF "form" (.str f.s) [])))))))):=(Z.trans (S6.trans S7)).kp hx;refine q _ (Z.trans (S6.trans S7)) ?_;have e:((putF "shape" (.ref r) (putF "many" (.int (1+((sumS ps:Nat):Int))) (putF "deep" (.int (1+((maxD ps:Nat):Int))) (putF "inner" (.ref c) (putF "label" (lbV l) (putF "form" (.str f.s) [])))))):List (M2×V))=fsT f l c r (1+maxD ps) (1+sumS ps):=by
  unfold fsT;rw[ql2,ql2];rfl
 have x7:upd H6 x (.ins Ct n (putF "shape" (.ref r) (putF "many" (.int (1+((sumS ps:Nat):Int))) (putF "deep" (.int (1+((maxD ps:Nat):Int))) (putF "inner" (.ref c) (putF "label" (lbV l) (putF "form" (.str f.s) []))))))) x=some (.ins Ct n (fsT f l c r (1+maxD ps) (1+sumS ps))):=by rw[Z0d,e]
 refine .mk x7 (SqT.of (S7 _ _ nx (S6 _ _ nx I4))) (hu.kp k6) (S7.sqT x6 hr) ?_;exact hw.kt (Kt.put _ x6 (λ _ z=>by cases z) (λ _ _ z=>by cases z))
inductive Z7D(K:X0)(vs:List V)(H:Hp)(Q:VK):Prop
 |mk(v:V)(t:Tm)(a1:vs=[v])(a2:RT K H v t.dat)(a3:Ok t)(a4:t.flat.length<=20000)(a5:∀l us H',Same H H'->H l=none->H' l=some (.lst us)->RTs K H' us (dats t.flat)->Q (.ref l) H')
def Z7J(K:X0):Sp:=λ vs H Q _=>Z7D K vs H Q
theorem Z7w{K:X0}:∀{c es:List PyData}{vs:List V},RTs K H vs (c++es)->∃xs ys,vs=xs++ys/\RTs K H xs c/\RTs K H ys es
 |[],es,vs,h=>⟨[],vs,rfl,.nil,h⟩
 |d::c,es,_,.cons a b=>by
  obtain⟨xs,ys,rfl,e,g⟩:=Z7w b;exact⟨_::xs,ys,rfl,.cons a e,g⟩
theorem Z5t:∀ts:List Tm,ts.length<=(flatR ts).length
 |[]=>qa0 _
 | .mk f l ps::ts=>by
  show ts.length+1<=(flatR ts++(Tm.mk f l ps::flatR ps)).length;rw[qa2,qb2];have:=Z5t ts;lia
theorem J2T(t:Tm):flatR [t]=t::flatR t.ps:=by
 cases t;rfl
noncomputable def WI(K:X0)(H0:Hp)(t:Tm)(v:V)(p1 p2:V0)(m:Nat)(σ:St)(H':Hp):Prop:=∃us vs w B a,Same H0 H'/\H' p1=some (.lst us)/\RTs K H' us (dats w)/\H' p2=some (.lst vs)/\RTs K H' vs (dats B)/\t.flat=w++flatR B/\m=(flatR B).length/\(∀x∈B,Ok x)/\σ=[some v,some (.ref p1),some (.ref p2),a]
theorem J2v(T:nofun)(c:Has P w K mg base 1 "parts_of" ["plain"] (Z6J K)):Has P w K mg base 2 "all_within" ["plain"] (Z7J K):=by
 walk_at "h O1i O0q 1"
 obtain⟨v,t,rfl,hv,ok,hz,q⟩:=h;refine⟨_,(Z0a (qG 1 O0q.nd (Z0o Z0R)) (Z0a (qG 2 O0q.nd (Z0o (qI (pvF 0)))) (Z0a (Z9p PassesOwn.never (J5i (pvF 2) (λ _=>rfl)) (Z0a (qG 3 O0q.nd (J1E qb5 qm8 qm9 J2E (pvF 2))) (Z0a (Z0A (Z1B qb5 qd2 qd3 Z0F (pvF 1) (qI (pvF 3)))) (Z0c (Z0A (Z1B (r:=Z4S K) qb5 qj5 qj6 Z6m (pvF 2) (qI (qF c hr (qI (pvF 3)))))))))) (Z0c (Z0h (pvF 1)))))),?_⟩;walk_at "s 4 z";refine New.of λ g H1 h1 R e1=>?_;walk_at "n z1";refine New.of λ p2 H2 h2 U e2=>?_;walk_at "n z2";refine J5N (WI K H t v g p2) ⟨[],[v],[],[t],none,R.trans U,U _ _ e1,.nil,e2,.cons (hv.same (R.trans U)) .nil,?_,rfl,λ x j=>by rw[qa5.mp j];exact ok,rfl⟩ (λ m σ C h=>?_) J1D
 ·show t.flat=[]++([]++t.flat);rfl
 obtain⟨us,vs,w,B,o3,S,G,X,e,Y,D,hm,I,rfl⟩:=h;walk_at "r";have y:g≠p2:=Z0m e1 h2;have n1:H g=none:=h1;have n2:H p2=none:=R.free h2;have f0:us.length<=20000:=by
  rw[X.length,Z0L];have:=congrArg qd9 D;rw[qa2]at this;lia
 refine⟨vs,SqL.of e,?_⟩;cases J:B.length with
 |zero=>
  cases qh9.mp J;cases Y.nil_inv;refine ite2 (λ z=>by cases z) (λ _=>?_);walk_at "n z3";refine q g us C S n1 G ?_;rw[D,show flatR ([]:List Tm)=[]from rfl,qc8];exact X
 |succ n=>
  obtain⟨B,b,rfl,_⟩:=P15.Z8G J;rw[Z4k]at Y;obtain⟨vs,ys,rfl,L,hy⟩:=Z7w Y;obtain⟨u,r0,rfl,Z,a0⟩:=hy.inv;cases a0.nil_inv;have b0:=I b (by simp);obtain⟨f,l,ps⟩:=b;obtain⟨of,op⟩:okF f l ps.length/\∀p∈ps,Ok p:=by cases b0 with|mk a b=>exact⟨a,b⟩
  obtain⟨a,ws,rfl,hq,hw⟩:=Z.tup_inv;rw[P15.Z4c,J2T]at D hm;have d0:ps.length<=20000:=by
   have e0:t.flat=w++(Tm.mk f l ps::flatR ps++flatR B):=D;have:=congrArg qd9 e0;simp only[qa2,qb2]at this;have:=Z5t ps;lia
  refine ite2 (λ _=>?_) (λ z=>absurd (by cases vs<;>rfl) z);refine⟨.inl ⟨rfl,_,SqL.of e⟩,_,e,.ref a,by simp,?_⟩;rw[List.dropLast_concat];have g1:upd C p2 (.lst vs) g=some (.lst us):=by rw[Z0k y];exact G
  have g2:upd (upd C p2 (.lst vs)) g (.lst (us++[.ref a])) p2=some (.lst vs):=by rw[Z0k y.symm];exact Z0d
  have k2:Kp C (upd (upd C p2 (.lst vs)) g (.lst (us++[.ref a]))):=(Kp.lst _ e).trans (Kp.lst _ g1);refine⟨.inl ⟨rfl,_,SqL.of g1⟩,us,g1,qR,.inl ⟨rfl,_,SqL.of g2⟩,f,l,a,ws,dats ps,rfl,SqT.kp hq k2,hw.kp k2,by rw[Z0L];exact of,by rw[Z0L];exact d0,λ r us2 H5 M hr hus2=>?_⟩;have g0:vs.length<=20000:=by
   rw[L.length,Z0L];have:=congrArg qd9 D;simp only[qa2,qb2]at this;have:=Z5t B;lia
  have g5:=M _ _ g2;have N:Kp C (upd H5 p2 (.lst (vs++us2))):=k2.trans ((Kp.of M).trans (Kp.lst _ g5));refine⟨r,rfl,vs,g5,us2,hr,by rw[hus2.length,Z0L];lia,(flatR (B++ps)).length,?_,us++[.ref a],vs++us2,w++[.mk f l ps],B++ps,_,λ b o O=>?_,?_,?_,Z0d,?_,?_,rfl,λ x j=>?_,rfl⟩
  ·rw[hm,P15.Z4c];exact qi2 _
  ·rw[Z0k (Z0m O n2)];refine M _ _ ?_;rw[Z0k (Z0m O n1),Z0k (Z0m O n2)];exact S _ _ O
  ·rw[Z0k y];exact M _ _ Z0d
  ·rw[Z4k];exact(X.kp N).app (.cons (.tup (SqT.kp hq N) (hw.kp N)) .nil)
  ·rw[Z4k];exact(L.kp N).app (hus2.kp (Kp.lst _ g5))
  ·rw[P15.Z4c,qb9];exact D
  ·rcases qa7.mp j with j|j
   ·exact I x (ql6 _ j)
   ·exact op x j
inductive Z7x(C:V0)(K:X0)(vs:List V)(H:Hp)(Q:VK):Prop
 |mk(v:V)(t:Tm)(a1:vs=[v])(a2:RT K H v t.dat)(a3:Ok t)(a4:t.flat.length<=20000)(a5:∀u H',Same H H'->TO K C H' u t->Q u H')
def Z7Q(C:V0)(K:X0):Sp:=λ vs H Q _=>Z7x C K vs H Q
variable{xs:List V}
theorem SX.kpl{x:V0}(s:SX x H H')(a:H x=some (.lst xs)):Kp H H':=
 ⟨λ b xs h=>s b _ (λ z=>by rw[z,a]at h;cases h) h,λ b o xs h=>s b _ (λ z=>by rw[z,a]at h;cases h) h,λ b C c f fs h=>s b _ (λ z=>by rw[z,a]at h;cases h) h⟩
theorem Z9B:∀ts:List Tm,dats ts.reverse=(dats ts).reverse
 |[]=>rfl
 |t::ts=>by rw[qe8,Z4k,Z9B];show _=(t.dat::dats ts).reverse;rw[qe8];rfl
theorem J2b{K:X0}:∀{vs:List V}{c:List PyData},RTs K H vs c->RTs K H vs.reverse c.reverse
 |_,_,.nil=>.nil
 |_,_,.cons a b=>by rw[qe8,qe8];exact(J2b b).app (.cons a .nil)
mutual
theorem J2D:∀(t:Tm),Ok t->∀x∈t.flat,Ok x
 | .mk f l ps,h,x,c=>by
  rcases qa4.mp c with rfl|c
  ·exact h
  ·cases h with
   |mk a b=>exact flats_ok ps b x c
theorem flats_ok:∀(ts:List Tm),(∀p∈ts,Ok p)->∀x∈flatR ts,Ok x
 |t::ts,h,x,a=>by
  rcases qa7.mp a with a|a
  ·exact flats_ok ts (λ p b=>h p (qc4 _ b)) x a
  ·exact J2D t (h t qc2) x a
end
theorem J5g{a:Type}{xs:List a}{y:a}:(xs++[y])[(xs++[y]).length-1]?=some y:=by simp
theorem J6x{w S:List Tm}(h:Bld w S):S.length<=w.length:=by
 induction h with
 |nil=>exact qa0 _
 |snoc _ a=>
  rw[qa2]at a ⊢;rw[qa2];show _+1<=_+1;lia
noncomputable def FI(K:X0)(C:V0)(H2:Hp)(t:Tm)(v:V)(p1:V0)(i:Nat)(σ:St)(H':Hp):Prop:=∃a S b c,SX p1 H2 H'/\H' p1=some (.lst a)/\Bld (t.flat.reverse.take i) S/\TM.TOs K C H' a S/\σ=[some v,some (.ref p1),b,c]
theorem J0T(T:nofun)(G:Has P w K mg base 1 "parts_of" ["plain"] (Z6J K))(I:Has P w K mg base 1 "label_of" ["plain"] (Z9Q K))(g:Has P w K mg base 2 "all_within" ["plain"] (Z7J K))(c:HasM P w K mg base 2 Ct "__init__" ["self","form","label","parts"] (Z9r Ct K)):Has P w K mg base 4 "term_of" ["plain"] (Z7Q Ct K):=by
  refine Has.of T.O1J O0z (λ _ _ _ _ _ _ us hl=>el1 us hl λ _=>rfl) (λ vs H Q E h=>?_) (λ f cdv A outer s H vs Q E hr h=>?_)
  · obtain⟨v,t,rfl,_⟩:=h;rfl
  obtain⟨v,t,rfl,hv,ok,hz,q⟩:=h;refine⟨_,(Z0a (J1N (i:=1) O0z.nd rfl (Or.inr rfl) (Z0o Z0R)) (Z0a (Z1o PassesOwn.never rfl (J4T rfl T.O0H Z5s (qI (qF g hr (qI (pvF 0))))) (qH 2 O0z.nd) (Z0a (Z2J rfl O0z.nd (i:=3) rfl rfl (BlockOk.of (N:=["part","built"]) (nl:=[none,some 1]) (cl:=[("built",s.heap.objs.size+1)]) rfl qP qP rfl (sub1 rfl) (nm:=["built"]) rfl qP rfl (λ i hi j hj=>by
            match i,hi with
            | 0,_=>cases hj
             |1,_=>cases hj;exact⟨_,rfl,rfl,rfl,.inl rfl⟩
            )) (Z1J (qF G hr (qI (pvF 2)))) (λ C fp s H=>(qH 0 (show(["part","built"]:List M2).Nodup by decide+kernel))) (λ C fp s H=>(show PE _ _ (tBM0 K "list" rPop _)from J1E qb5 qm8 qm9 J2E (pvF 1)))) (Z0c (Z0A (Z1B qb5 qd2 qd3 Z0F (pvF 1) (qI (Z5e T.Term c hr qQ rfl (qK (qA K 2) (qF I hr (qI (pvF 2))) (J5n rfl rfl rfl T.O1b T.O0H (qI (pvF 3))))))))))) (Z0c (Z0h (qD K (pvF 1) Z0f))))),?_⟩
  walk_at "s 3 z";refine New.of λ p1 H1 h1 s1 e1=>?_;walk_at "n z1";refine⟨v,t,rfl,hv.same s1,ok,hz,λ a us H2 s2 n0 ha b0=>⟨a,rfl,us,SqL.of ha,?_⟩⟩;have e2:=s2 _ _ e1;have o0:a≠p1:=λ z=>Z0m e1 n0 z.symm;have Y:Bld t.flat.reverse [t]:=P15.Bld.flat t (w:=[]) (B:=[]) .nil;have d0:us.length=t.flat.length:=by rw[b0.length,Z0L]
  refine Z9M us (FI K Ct H2 t v p1) ⟨[],[],none,none,λ _ _ _ h=>h,e2,.nil,.nil,rfl⟩ (λ i σ H' _ h=>?_) (λ i x σ H' hx h=>?_) (λ σ H' h=>?_)
  · obtain⟨os,S,o2,o3,sx,_⟩:=h;exact SqL.of (sx _ _ o0 ha)
  · obtain⟨os,S,o2,o3,sx,hp,Z,ho,rfl⟩:=h;have kp:=SX.kpl sx e2;have hi:i<us.length:=by
      have:=(qa6.mp hx).1
      rwa [qj1]at this
    have R:=(J2b b0).kp kp;rw[<-Z9B]at R;obtain⟨d,hd,R⟩:=R.at hx;obtain⟨y,hy,rfl⟩:=J1G hd;obtain⟨C,rfl,p0⟩:=Y.next hy Z;have q0:=J2D t ok y (List.mem_reverse.mp (qb4 hy));obtain⟨f,l,ps⟩:=y;obtain⟨of,op⟩:okF f l ps.length/\∀p∈ps,Ok p:=by cases q0 with|mk a b=>exact⟨a,b⟩
    obtain⟨xa,ws,rfl,hq,hw⟩:=R.tup_inv;have s0:=J6x Z;have e0:ps.length<=20000/\C.length<=20000:=by
      rw[qa2,qd0]at s0;have:(Tm.mk f l ps).ps.length=ps.length:=rfl;lia
    obtain⟨U,u,rfl,f0,g0⟩:=TM.TOs.split ho;have lP:u.length=ps.length:=g0.length;have lC:U.length=C.length:=f0.length;walk_at "r";refine⟨f,l,xa,ws,dats ps,rfl,hq,hw,by rw[Z0L];exact of,by rw[Z0L];exact e0.1,λ r us2 H3 s3 hr hus2=>⟨r,rfl,⟨_,hr⟩,λ D hD=>?_⟩⟩;have y0:us2.length=ps.length:=by rw[hus2.length,Z0L]
    have J:=s3 _ _ hp;have a0:D≠p1:=λ z=>Z0m J hD z.symm;have sq:∀{H4:Hp},(∀b o,b≠p1->b≠D->H3 b=some o->H4 b=some o)->Kp H3 H4:=λ h=>⟨λ b xs e=>h b _ (λ z=>by rw[z,J]at e;cases e) (λ z=>by rw[z,hD]at e;cases e) e,λ b o xs e=>h b _ (λ z=>by rw[z,J]at e;cases e) (λ z=>by rw[z,hD]at e;cases e) e,λ b C dx f fs e=>h b _ (λ z=>by rw[z,J]at e;cases e) (λ z=>by rw[z,hD]at e;cases e) e⟩;refine J3r (n:=ps.length) none [some (.ref p1)] (λ _ _=>True) (λ j vs H4=>H4 p1=some (.lst (U++u.take (ps.length-j)))/\vs=(u.drop (ps.length-j)).reverse/\∀b o,b≠p1->b≠D->H3 b=some o->H4 b=some o) rfl (by rw[sizeLine_eq];lia) ⟨?_,?_,λ b o _ nb h=>?_⟩ (λ j vs H4 hj hW=>?_) (λ vs H4 hW=>?_) (λ j x vs H4 K' hj _ hW L k=>?_) (λ vs H4 hW L hl=>?_)
    · rw[Z0k a0.symm,qj3,qe1 qR];exact J
    · rw[qj3,qn0 qR];rfl
    · rw[Z0k nb];exact h
    · exact⟨⟨us2,us2[j],SqT.kp hr (sq hW.2.2),qa3 qR⟩,λ x H2 hy=>⟨hy.1,trivial⟩⟩
    · exact⟨us2,SqT.kp hr (sq hW.2.2),qR⟩
    · obtain⟨O,rfl,g3⟩:=hW;obtain⟨m,em⟩:∃m,ps.length-j=m+1:=⟨ps.length-j-1,qR⟩;have h0:ps.length-(j+1)=m:=by lia
      have hm:m<u.length:=by lia
      rw[em]at O L k;rw[qh3 hm,<-qb9]at O;walk_at "r";refine⟨.inl ⟨rfl,_,SqL.of O⟩,_,O,u[m],J5g,?_⟩;rw[List.dropLast_concat];refine k _ _ (by rw[Z0k a0];exact L) ⟨?_,?_,λ b o nb i0 h=>?_⟩
      · rw[Z0k a0.symm,h0];exact Z0d
      · rw[h0,qf6 hm,qe8]
      · rw[Z0k i0,Z0k nb];exact g3 b o nb i0 h
    · obtain⟨O,rfl,g3⟩:=hW;rw[Nat.sub_self,List.take_zero,qc8]at O;rw[Nat.sub_self,ql0]at L;have k4:Kp H' H4:=(Kp.of s3).trans (sq g3);have j0:okF f l (dats ps).length:=by rw[Z0L];exact of
      obtain⟨r0,er⟩:=x_hd j0;have k0:=hw;rw[er]at k0;obtain⟨v0,wr,rfl,t0,_⟩:=k0.inv;cases t0.str_inv;refine⟨.inl ⟨rfl,_,SqL.of O⟩,_,SqT.kp hq k4,_,ix0,f,l,xa,_,dats ps,rfl,SqT.kp hq k4,hw.kp k4,j0,λ H5 s5=>?_⟩;refine⟨D,rfl,_,SqL.of (s5 _ _ L),λ li u0 x5 dx M l0 w0=>?_⟩;rw[List.reverse_reverse]at M l0 ⊢;have sa:=Z0r u0 (.lst u);have sb:=Z0r l0 (.own x5);have sc:=Z0r (show upd (upd H5 li (.lst u)) dx (.own x5) x5=none by rw[Z0k (λ z=>w0 z.symm)];exact M) (.ins Ct dx []);have S5:Same H4 (upd (upd (upd H5 li (.lst u)) dx (.own x5)) x5 (.ins Ct dx [])):=s5.trans (sa.trans (sb.trans sc));have m0:=sa _ _ (s5 _ _ O);refine⟨x5,dx,li,f,l,u,ps,rfl,Z0d,SqL.of (sc _ _ (sb _ _ Z0d)),g0.kp (k4.trans (Kp.of S5)),of,e0.1,λ H6 X x0=>⟨rfl,U,X _ _ (Z0m m0 M) (S5 _ _ O),by rw[lC];lia,?_⟩⟩;have g6:=X _ _ (Z0m m0 M) (S5 _ _ O);have k6:Kp H' (upd H6 p1 (.lst (U++[.ref x5]))):=k4.trans ((Kp.of S5).trans ((SX.kp X Z0d).trans (Kp.lst _ g6)));refine⟨_,_,_,_,λ b o nb h=>?_,Z0d,p0,(f0.kp k6).app (.cons (x0.kp (Kp.lst _ g6)) .nil),rfl⟩;rw[Z0k nb];have h4:=g3 b o nb (λ z=>Z0m (s3 _ _ (sx _ _ nb h)) hD z) (s3 _ _ (sx _ _ nb h));exact X _ _ (Z0m (sa _ _ (s5 _ _ h4)) M) (S5 _ _ h4)
  · obtain⟨os,S,o2,o3,sx,hp,Z,ho,rfl⟩:=h;walk_at "n z2";rw[d0,qe1 (by rw[qj1];exact qa0 _)]at Z;cases P15.Bld.det rfl Z Y;cases ho with
    |cons a b=>
      refine⟨_,SqL.of hp,_,ix0,q _ H' (λ b o Z=>?_) a⟩;exact sx _ _ (Z0m Z h1) ((s1.trans s2) _ _ Z)
inductive Z9t(K:X0)(vs:List V)(H:Hp)(Q:VK):Prop
 |mk(v:V)(ps:List (M2×M2))(a1:vs=[v])(a2:RT K H v (Z2l ps))(a3:ps.length<=100)(a4:∀r H',Same H H'->RT K H' (.ref r) (Z2l ps)->Q (.ref r) H')
def Z6D(K:X0):Sp:=λ vs H Q _=>Z9t K vs H Q
inductive J0c(c:CS)(K:X0)(vs:List V)(H:Hp)(Q:VK):Prop
 |mk(x dx:V0)(pp bv:V)(d:Wd)(a1:vs=[.ref x,.str d.name,pp,.str d.kind,bv])(a2:H x=some (.ins c.word dx []))(a3:RT K H pp (Z2l d.params))(a4:d.params.length<=100)(a5:TO K c.term H bv d.body)(a6:∀H',SX x H H'->WdO K c H' (.ref x) d->Q .non H')
def Z9n(c:CS)(K:X0):Sp:=λ vs H Q _=>J0c c K vs H Q
inductive Z9q(c:CS)(K:X0)(vs:List V)(H:Hp)(Q:VK):Prop
 |mk(x dx wl:V0)(fv:V)(ws:List V)(d:Hs)(a1:vs=[.ref x,.str d.name,oS d.elder,fv,.ref wl])(a2:H x=some (.ins c.house dx []))(a3:RT K H fv (Z2l d.fields))(a4:d.fields.length<=100)(a5:SqL K H wl ws)(a6:A2 (WdO K c H) ws d.words)(a7:∀H',SX x H H'->HsO K c H' (.ref x) d->Q .non H')
def Z9S(c:CS)(K:X0):Sp:=λ vs H Q _=>Z9q c K vs H Q
inductive Z9H(c:CS)(K:X0)(vs:List V)(H:Hp)(Q:VK):Prop
 |mk(x dx hl:V0)(mv:V)(hs:List V)(d:Pg)(a1:vs=[.ref x,.ref hl,mv])(a2:H x=some (.ins c.program dx []))(a3:SqL K H hl hs)(a4:A2 (HsO K c H) hs d.houses)(a5:WdO K c H mv d.main)(a6:∀H',SX x H H'->PgO K c H' (.ref x) d->Q .non H')
def Z9E(c:CS)(K:X0):Sp:=λ vs H Q _=>Z9H c K vs H Q
theorem SX.ktf{x C c:V0}{fs:List (M2×V)}(s:SX x H H')(a:H x=some (.ins C c fs)):Kt H H':=
 ⟨λ b e h=>s b _ (λ z=>by rw[z,a]at h;cases h) h,λ b o e h=>s b _ (λ z=>by rw[z,a]at h;cases h) h⟩
theorem WdO.kp{K:X0}{c:CS}{v:V}{d:Wd}(h:WdO K c H v d)(k:Kp H H'):WdO K c H' v d:=by
 cases h with
 |mk a b t=>exact .mk (k.i _ _ _ _ _ a) (b.kp k) (t.kp k)
theorem HsO.kp{K:X0}{c:CS}{v:V}{d:Hs}(h:HsO K c H v d)(k:Kp H H'):HsO K c H' v d:=by
 cases h with
 |mk a b q t=>exact .mk (k.i _ _ _ _ _ a) (b.kp k) (SqT.kp q k) (t.mono λ _ _ r=>WdO.kp r k)
theorem J2n{c:Type}{K:X0}(f:c->PyData):∀{ts:List c}{vs:List V},vs.length=ts.length->(∀(j:Nat) v,vs[j]?=some v->∃t,ts[j]?=some t/\RT K H v (f t))->RTs K H vs (ts.map f)
 |[],[],_,_=>.nil
 |t::ts,v::vs,e,h=>by
  obtain⟨i,a,b⟩:=h 0 v rfl;cases a;exact .cons b (J2n f (ql1 e) λ j u g=>h (j+1) u g)
theorem J3U(T:nofun):Has P w K mg base 1 "pairs_of" ["pairs"] (Z6D K):=by
 walk_at "h O1y Z8p 1"
 obtain⟨v,ps,rfl,G,hl,q⟩:=h;obtain⟨Y,m,rfl,n,o⟩:=G.tup_inv;have I:m.length=ps.length:=by rw[o.length,qa1]
 refine⟨_,(Z0c (Z0h (Z0w Z0u rfl T.O0k Z0X (qI (Z1e rfl (BlockOk.plain (N:=["pair"]) rfl qP qP qP) (Z1J (pvF 0)) (λ C J s H=>(qH 0 (show(["pair"]:List M2).Nodup by decide+kernel))) (λ C J s H=>(Z0w (r:=J4B K) Z0u rfl T.O0k Z0X (qI (pvF 0))))))))),?_⟩;walk_at "r";refine⟨⟨_,n⟩,λ D L=>?_⟩;refine Z1A (ys:=m) none [] (λ j v H=>∃p,ps[j]?=some p/\RT K H v (.tuple [.str p.1,.str p.2])) (λ j v u Z ⟨t,a,b⟩ s=>⟨t,a,b.kp (kpN s)⟩) rfl L (by rw[sizeLine_eq];lia) (λ u s=>SqT.same n s) (λ i y M u K' s k=>?_) (λ vs Hc Sc O R S=>?_)
 ·walk_at "r";obtain⟨d,hd,c⟩:=o.at M;rw[qa8]at hd;obtain⟨p,e,rfl⟩:=qc1.mp hd;obtain⟨a,U,rfl,x,g⟩:=c.tup_inv;exact⟨a,rfl,U,.inr ⟨SqT.same x s,k _ _ (Same.refl _) ⟨p,e,.tup (SqT.same x s) (g.same s)⟩⟩⟩
 refine⟨D,rfl,vs,.inl ⟨SqL.of O,λ t5 X=>?_⟩⟩;have z:=Z0r X (.tup vs);refine q _ _ (Sc.trans z) (.tup (SqT.of Z0d) ?_);refine RTs.same ?_ z;exact J2n (λ p=>.tuple [.str p.1,.str p.2]) (R.trans I) S
theorem J3e(T:nofun)(a:Has P w K mg base 1 "pairs_of" ["pairs"] (Z6D K)):HasM P w K mg base 2 Cw "__init__" ["self","name","params","kind","body"] (Z9n ∅ K):=by
 walk_at "m m_Word___init__ Z4I 5"
 obtain⟨x,b,g,i,d,rfl,c,u,hl,v,q⟩:=h;refine⟨_,(Z0a (Z0O (pvF 0) (pvF 1) rfl) (Z0a (Z0O (pvF 0) (qF a hr (qI (pvF 2))) rfl) (Z0a (Z0O (pvF 0) (pvF 3) rfl) (Z0c (Z0O (pvF 0) (pvF 4) rfl))))),?_⟩;walk_at "s 4 z";refine⟨Cw,b,_,c,T.Word.cl,T.n_Word_name,qc3 rfl,?_⟩;walk_at "n z1";have j:SX x H (upd H x (.ins Cw b (putF "name" (.str d.name) []))):=SX.put _;have y:upd H x (.ins Cw b (putF "name" (.str d.name) [])) x=some (.ins Cw b (putF "name" (.str d.name) [])):=Z0d;generalize upd H x (.ins Cw b (putF "name" (.str d.name) []))=C at*;refine⟨g,d.params,rfl,u.kp (j.kp c),hl,λ r z m e=>?_⟩;have n:=m _ _ y;refine⟨Cw,b,_,n,T.Word.cl,T.n_Word_params,qc3 rfl,?_⟩;walk_at "n z2";refine⟨Cw,b,_,Z0d,T.Word.cl,T.n_Word_kind,qc3 rfl,?_⟩;walk_at "n z3";refine⟨Cw,b,_,Z0d,T.Word.cl,T.n_Word_body,qc3 rfl,?_⟩;have o:SX x z _:=(SX.put (.ins Cw b (putF "params" (.ref r) (putF "name" (.str d.name) [])))).trans ((SX.put (.ins Cw b (putF "kind" (.str d.kind) (putF "params" (.ref r) (putF "name" (.str d.name) []))))).trans (SX.put (.ins Cw b (putF "body" i (putF "kind" (.str d.kind) (putF "params" (.ref r) (putF "name" (.str d.name) [])))))));have p:=j.trans ((SX.of m).trans o);exact q _ p (.mk (Z0d) (e.kt (SX.ktf o n)) (v.kp (p.kp c)))
theorem J4o(T:nofun)(a:Has P w K mg base 1 "pairs_of" ["pairs"] (Z6D K)):HasM P w K mg base 2 Ch "__init__" ["self","name","elder","own_fields","own_words"] (Z9S ∅ K):=by
 walk_at "m m_House___init__ Z4o 5"
 obtain⟨x,b,J,n,j,d,rfl,g,L,hl,M,N,q⟩:=h;refine⟨_,(Z0a (Z0O (pvF 0) (pvF 1) rfl) (Z0a (Z0O (pvF 0) (pvF 2) rfl) (Z0a (Z0O (pvF 0) (qF a hr (qI (pvF 3))) rfl) (Z0c (Z0O (pvF 0) (Z0w Z0u rfl T.O0k Z0X (qI (pvF 4))) rfl))))),?_⟩;walk_at "s 4 z";refine⟨Ch,b,_,g,T.House.cl,T.n_House_name,qc3 rfl,?_⟩;walk_at "n z1";refine⟨Ch,b,_,Z0d,T.House.cl,T.n_House_elder,qc3 rfl,?_⟩;walk_at "n z2";have o:SX x H (upd (upd H x (.ins Ch b (putF "name" (.str d.name) []))) x (.ins Ch b (putF "elder" (oS d.elder) (putF "name" (.str d.name) [])))):=(SX.put _).trans (SX.put _);have O:upd (upd H x (.ins Ch b (putF "name" (.str d.name) []))) x (.ins Ch b (putF "elder" (oS d.elder) (putF "name" (.str d.name) []))) x=some (.ins Ch b (putF "elder" (oS d.elder) (putF "name" (.str d.name) []))):=Z0d;generalize upd (upd H x (.ins Ch b (putF "name" (.str d.name) []))) x (.ins Ch b (putF "elder" (oS d.elder) (putF "name" (.str d.name) [])))=U at*;refine⟨n,d.fields,rfl,L.kp (o.kp g),hl,λ r i p m=>?_⟩;have u:=p _ _ O;refine⟨Ch,b,_,u,T.House.cl,T.n_House_own_fields,qc3 rfl,?_⟩;walk_at "n z3";have v:SX x i (upd i x (.ins Ch b (putF "own_fields" (.ref r) (putF "elder" (oS d.elder) (putF "name" (.str d.name) []))))):=SX.put _;have y:upd i x (.ins Ch b (putF "own_fields" (.ref r) (putF "elder" (oS d.elder) (putF "name" (.str d.name) [])))) x=some (.ins Ch b (putF "own_fields" (.ref r) (putF "elder" (oS d.elder) (putF "name" (.str d.name) [])))):=Z0d;generalize upd i x (.ins Ch b (putF "own_fields" (.ref r) (putF "elder" (oS d.elder) (putF "name" (.str d.name) []))))=H3 at*;have c:=o.trans ((SX.of p).trans v);refine⟨j,.inl ⟨c.sqL g M,λ C e=>?_⟩⟩;have D:=Z0r e (.tup j);have R:=D _ _ y;have S:C≠x:=λ z=>Z0m y e z.symm;refine⟨Ch,b,_,R,T.House.cl,T.n_House_own_words,qc3 rfl,?_⟩;have G:=(SX.of (x:=x) D).trans (SX.put (.ins Ch b (putF "own_words" (.ref C) (putF "own_fields" (.ref r) (putF "elder" (oS d.elder) (putF "name" (.str d.name) []))))));have I:=c.trans G;refine q _ I (.mk Z0d (m.kt (SX.ktf (v.trans G) u)) (SqT.of (by rw[Z0k S];exact Z0d)) (N.mono λ _ _ r=>WdO.kp r (I.kp g)))
theorem J4m(T:nofun):HasM P w K mg base 1 Cp "__init__" ["self","all_houses","main"] (Z9E ∅ K):=by
 walk_at "m m_Program___init__ Z3L 3"
 obtain⟨x,a,hl,i,hs,d,rfl,c,n,o,p,q⟩:=h;refine⟨_,(Z0a (Z0O (pvF 0) (Z0w Z0u rfl T.O0k Z0X (qI (pvF 1))) rfl) (Z0c (Z0O (pvF 0) (pvF 2) rfl))),?_⟩;walk_at "s 2 z";refine⟨hs,.inl ⟨n,λ e b=>?_⟩⟩;have j:=Z0r b (.tup hs);have m:e≠x:=λ z=>Z0m c b z.symm;refine⟨Cp,a,_,j _ _ c,T.Program.cl,T.n_Program_all_houses,qc3 rfl,?_⟩;walk_at "n z1";refine⟨Cp,a,_,Z0d,T.Program.cl,T.n_Program_main,qc3 rfl,?_⟩;have g:=(SX.of (x:=x) j).trans ((SX.put (.ins Cp a (putF "all_houses" (.ref e) []))).trans (SX.put (.ins Cp a (putF "main" i (putF "all_houses" (.ref e) [])))));exact q _ g (.mk Z0d (SqT.of (by rw[Z0k m,Z0k m];exact Z0d)) (o.mono λ _ _ r=>HsO.kp r (g.kp c)) (WdO.kp p (g.kp c)))
inductive J1s(c:CS)(K:X0)(vs:List V)(H:Hp)(Q:VK):Prop
 |mk(v:V)(d:Wd)(a1:vs=[v])(a2:RT K H v (Z9F d))(a3:WdOk d)(a4:∀u H',Same H H'->WdO K c H' u d->Q u H')
def Z8Y(c:CS)(K:X0):Sp:=λ vs H Q _=>J1s c K vs H Q
inductive Z9O(c:CS)(K:X0)(vs:List V)(H:Hp)(Q:VK):Prop
 |mk(v:V)(d:Hs)(a1:vs=[v])(a2:RT K H v (J1c d))(a3:HsOk d)(a4:∀u H',Same H H'->HsO K c H' u d->Q u H')
def Z9R(c:CS)(K:X0):Sp:=λ vs H Q _=>Z9O c K vs H Q
inductive Z5S(c:CS)(K:X0)(vs:List V)(H:Hp)(Q:VK):Prop
 |mk(v:V)(d:Pg)(a1:vs=[v])(a2:RT K H v (J7u d))(a3:(∀h∈d.houses,HsOk h))(a4:d.houses.length<=100)(a5:WdOk d.main)(a6:d.main.name="main")(a7:∀u H',Same H H'->PgO K c H' u d->Q u H')
def Z5V(c:CS)(K:X0):Sp:=λ vs H Q _=>Z5S c K vs H Q
theorem Z2H{x a C:V0}(c:H x=none)(b:H a=none)(e:a≠x):Same H (upd (upd H a (.own x)) x (.ins C a [])):=
 (Z0r b _).trans (Z0r (by rw[Z0k (λ z=>e z.symm)];exact c) _)
theorem J9M{K:X0}{v:V}{o:Option M2}(h:RT K H v (oD o)):v=oS o:=by
 cases o with
 |none=>cases h;rfl
 |some s=>cases h;rfl
theorem J4P{a:Type}{b:V->a->Prop}{ts:List a}(l:vs.length=ts.length)(h:∀(j:Nat) v,vs[j]?=some v->∃t,ts[j]?=some t/\b v t):A2 b vs ts:=A2.of l h
theorem J5w(T:nofun)(c:Has P w K mg base 4 "term_of" ["plain"] (Z7Q Ct K))(b:HasM P w K mg base 2 Cw "__init__" ["self","name","params","kind","body"] (Z9n ∅ K)):Has P w K mg base 5 "word_of" ["plain"] (Z8Y ∅ K):=by
 walk_at "h O1I O0v 1"
 obtain⟨v,d,rfl,y,hd,q⟩:=h;obtain⟨a,S,rfl,z,g⟩:=y.tup_inv;obtain⟨U,r1,rfl,D,g⟩:=g.inv;obtain⟨G,r2,rfl,I,g⟩:=g.inv;obtain⟨X,r3,rfl,J,g⟩:=g.inv;obtain⟨L,Y,rfl,M,g⟩:=g.inv;cases g.nil_inv;cases D.str_inv;cases J.str_inv;refine⟨_,(Z0a (Z0Q (pvF 0) (Z0v (n:=4) rfl (Z0e (qH 1 O0v.nd) (Z0e (qH 2 O0v.nd) (Z0e (qH 3 O0v.nd) (Z0e (qH 4 O0v.nd) Z0s)))))) (Z0c (Z0h (Z5e T.Word b hr qQ rfl (Z0q (pvF 1) (qK (pvF 2) (pvF 3) (qF c hr (qI (pvF 4))))))))),?_⟩;walk_at "r";refine⟨_,z,rfl,⟨_,_,rfl,⟨_,_,rfl,⟨_,_,rfl,⟨_,_,rfl,?_⟩⟩⟩⟩⟩;walk_at "r";refine⟨L,d.body,rfl,M,hd.ok,hd.fl,λ u Z j m x N g p O=>?_⟩;have r:=Z2H (C:=Cw) g p O;refine⟨x,N,G,u,d,rfl,Z0d,I.same (j.trans r),hd.pl,m.kp (Kp.of r),λ H3 sx R=>⟨rfl,q _ _ (Z3D (j.trans r) sx ?_) R⟩⟩;cases e:H x with
 |none=>rfl
 |some o=>rw[j _ _ e]at g;cases g
theorem J3K(T:nofun)(g:Has P w K mg base 5 "word_of" ["plain"] (Z8Y ∅ K))(c:HasM P w K mg base 2 Ch "__init__" ["self","name","elder","own_fields","own_words"] (Z9S ∅ K)):Has P w K mg base 6 "house_of" ["plain"] (Z9R ∅ K):=by
 walk_at "h O1z O0s 1"
 obtain⟨v,d,rfl,I,hd,q⟩:=h;obtain⟨a,xs,rfl,X,m⟩:=I.tup_inv;obtain⟨v1,r1,rfl,Y,m⟩:=m.inv;obtain⟨v2,r2,rfl,Z,m⟩:=m.inv;obtain⟨v3,r3,rfl,h3,m⟩:=m.inv;obtain⟨v4,r4,rfl,h4,m⟩:=m.inv;cases m.nil_inv;cases Y.str_inv;cases J9M Z;obtain⟨wa,us,rfl,G,R⟩:=h4.tup_inv;have lu:us.length=d.words.length:=by rw[R.length,qa1]
 have lw:=hd.wl;refine⟨_,(Z0a (Z0Q (pvF 0) (Z0v (n:=4) rfl (Z0e (qH 1 O0s.nd) (Z0e (qH 2 O0s.nd) (Z0e (qH 3 O0s.nd) (Z0e (qH 4 O0s.nd) Z0s)))))) (Z0c (Z0h (Z5e T.House c hr qQ rfl (Z0q (pvF 1) (qK (pvF 2) (pvF 3) (Z1e rfl (BlockOk.plain (N:=["word"]) rfl qP qP qP) (Z1J (pvF 4)) (λ C fp s H=>(qH 0 (show(["word"]:List M2).Nodup by decide+kernel))) (λ C fp s H=>(qF g hr (qI (pvF 0))))))))))),?_⟩;walk_at "r";refine⟨_,X,rfl,⟨_,_,rfl,⟨_,_,rfl,⟨_,_,rfl,⟨_,_,rfl,?_⟩⟩⟩⟩⟩;walk_at "r";refine⟨⟨_,G⟩,λ D hD=>?_⟩;refine Z1A (ys:=us) none [] (λ j v H=>∃t,d.words[j]?=some t/\WdO K ∅ H v t) (λ j v S H2 ⟨t,a,b⟩ s=>⟨t,a,WdO.kp b (kpN s)⟩) rfl hD (by rw[sizeLine_eq];lia) (λ S s=>SqT.same G s) (λ i y hy S K' s k=>?_) (λ vs Hc Sc I lv hR=>?_)
 ·walk_at "r";obtain⟨t,U,J⟩:=R.at hy;rw[qa8]at U;obtain⟨t,z,rfl⟩:=qc1.mp U;exact⟨y,t,rfl,J.same s,hd.wd t (qb4 z),λ u H2 p L=>k _ _ p ⟨t,z,L⟩⟩
 have M:=J4P (lv.trans lu) hR;intro x dx m O ne;have p:=Z2H (C:=Ch) m O ne;refine⟨x,dx,D,v3,vs,d,rfl,Z0d,h3.same (Sc.trans p),hd.fl,SqL.of (p _ _ I),M.mono λ _ _ r=>r.same p,λ H3 sx G=>⟨rfl,q _ _ (Z3D (Sc.trans p) sx ?_) G⟩⟩;cases e:H x with
 |none=>rfl
 |some o=>rw[Sc _ _ e]at m;cases m
theorem J0O(T:nofun)(m:Has P w K mg base 5 "word_of" ["plain"] (Z8Y ∅ K))(g:Has P w K mg base 6 "house_of" ["plain"] (Z9R ∅ K))(c:HasM P w K mg base 1 Cp "__init__" ["self","all_houses","main"] (Z9E ∅ K)):Has P w K mg base 7 "program_of" ["plain"] (Z5V ∅ K):=by
 walk_at "h O1h O0j 1"
 obtain⟨v,d,rfl,O,R,d0,S,U,q⟩:=h;obtain⟨a,xs,rfl,hq,p⟩:=O.tup_inv;obtain⟨v1,r1,rfl,h1,p⟩:=p.inv;obtain⟨v2,r2,rfl,h2,p⟩:=p.inv;cases p.nil_inv;obtain⟨b,ys,rfl,X,z⟩:=h2.tup_inv;obtain⟨u1,r1,rfl,g1,z⟩:=z.inv;obtain⟨u2,r2,rfl,g2,z⟩:=z.inv;obtain⟨u3,r3,rfl,g3,z⟩:=z.inv;cases z.nil_inv;cases g2.str_inv;obtain⟨ha,us,rfl,I,hu⟩:=h1.tup_inv;have lu:us.length=d.houses.length:=by rw[hu.length,qa1]
 refine⟨_,(Z0a (Z0Q (pvF 0) (Z0v (n:=2) rfl (Z0e (qH 1 O0j.nd) (Z0e (qH 2 O0j.nd) Z0s)))) (Z0a (Z0Q (pvF 2) (Z0v (n:=3) rfl (Z0e (qH 3 O0j.nd) (Z0e (qH 4 O0j.nd) (Z0e (qH 5 O0j.nd) Z0s))))) (Z0c (Z0h (Z5e T.Program c hr qQ rfl (qJ (Z1e rfl (BlockOk.plain (N:=["house"]) rfl qP qP qP) (Z1J (pvF 1)) (λ C fp s H=>(qH 0 (show(["house"]:List M2).Nodup by decide+kernel))) (λ C fp s H=>(qF g hr (qI (pvF 0))))) (qF m hr (qI (Z0i (Z0q Z0b (qK (pvF 3) (pvF 4) (pvF 5)))))))))))),?_⟩;walk_at "r";refine⟨_,hq,rfl,⟨_,_,rfl,⟨_,_,rfl,?_⟩⟩⟩;walk_at "r";refine⟨_,X,rfl,⟨_,_,rfl,⟨_,_,rfl,⟨_,_,rfl,?_⟩⟩⟩⟩;walk_at "r";refine⟨⟨_,I⟩,λ D hD=>?_⟩;refine Z1A (ys:=us) none [] (λ j v H=>∃t,d.houses[j]?=some t/\HsO K ∅ H v t) (λ j v J H2 ⟨t,a,b⟩ s=>⟨t,a,HsO.kp b (kpN s)⟩) rfl hD (by rw[sizeLine_eq];lia) (λ J s=>SqT.same I s) (λ i y z J K' s k=>?_) (λ vs Hc Sc O lv hR=>?_)
 ·walk_at "r";obtain⟨t,ht,Y⟩:=hu.at z;rw[qa8]at ht;obtain⟨t,G,rfl⟩:=qc1.mp ht;exact⟨y,t,rfl,Y.same s,R t (qb4 G),λ u H2 L Z=>k _ _ L ⟨t,G,Z⟩⟩
 have a0:=J4P (lv.trans lu) hR;refine New.of λ p1 J h1 M e1=>?_;have wd:RT K J (.ref p1) (Z9F d.main):=by
  refine .tup (SqT.of e1) (.cons ?_ (.cons (g1.same (Sc.trans M)) (.cons (.str _) (.cons (g3.same (Sc.trans M)) .nil))));rw[U];exact .str _
 refine⟨.ref p1,d.main,rfl,wd,S,λ u H2 L hm x dx p b0 ne=>?_⟩;have s3:=Z2H (C:=Cp) p b0 ne;have s4:=M.trans (L.trans s3);refine⟨x,dx,D,u,vs,d,rfl,Z0d,SqL.of (s4 _ _ O),a0.mono λ _ _ r=>r.same s4,hm.same s3,λ H3 sx I=>⟨rfl,q _ _ (Z3D (Sc.trans s4) sx ?_) I⟩⟩;cases e:H x with
 |none=>rfl
 |some o=>rw[L _ _ (M _ _ (Sc _ _ e))]at p;cases p
def InO(c:CS)(H:Hp)(x:V0)(G:Pg):Prop:=∃b a d,H x=some (.ins c.hall b [("in_order",.ref a),("by_name",.ref d)])/\H a=some (.tup (G.houses.map λ h=>V.str h.name))
inductive Z9P(c:CS)(K:X0)(vs:List V)(H:Hp)(Q:VK):Prop
 |mk(x dx:V0)(pp:V)(G:Pg)(a1:vs=[.ref x,pp])(a2:H x=some (.ins c.hall dx []))(a3:PgO K c H pp G)(a4:GOk G)(a5:G.houses.length<=100)(a6:∀H',SX x H H'->HlO K c H' (.ref x) G->InO c H' x G->Q .non H')
def Z6F(c:CS)(K:X0):Sp:=λ vs H Q _=>Z9P c K vs H Q
inductive Z7q(c:CS)(K:X0)(vs:List V)(H:Hp)(Q:VK):Prop
 |mk(a:V0)(h:M2)(G:Pg)(es:List M2)(a1:vs=[.ref a,.str h])(a2:HlO K c H (.ref a) G)(a3:Chain G h es)(a4:es.length<=100)(a5:∀l H',H l=none->Same H H'->H' l=some (.lst (es.map V.str))->Q (.ref l) H')
def Z3c(c:CS)(K:X0):Sp:=λ vs H Q _=>Z7q c K vs H Q
variable{kvs:List (Key×V)}
theorem J6h{k:Key}(h:k∉kvs.map (·.1)):valV kvs k=none:=by
 induction kvs with
 |nil=>rfl
 |cons p r a=>
  rw[qb7,qa4,not_or]at h;rw[Z1d (λ z=>h.1 z.symm)];exact a h.2
noncomputable def kvOf:List V->List Hs->List (Key×V)
 |v::vs,h::hs=>(.inr h.name,v)::kvOf vs hs
 |_,_=>[]
theorem Z8B:∀{vs:List V}{hs:List Hs}{i:Nat}{v:V}{h:Hs},vs[i]?=some v->hs[i]?=some h->(kvOf vs hs).take (i+1)=(kvOf vs hs).take i++[(.inr h.name,v)]
 |_::vs,_::hs,0,v,h,a,b=>by cases a;cases b;rfl
 |_::vs,_::hs,i+1,v,h,a,b=>by
  have:=Z8B (vs:=vs) (hs:=hs) (i:=i) a b;show _::List.take (i+1) (kvOf vs hs)=_::(List.take i (kvOf vs hs)++_);rw[this]
theorem Z3Y:∀{vs:List V}{hs:List Hs},vs.length=hs.length->(kvOf vs hs).map (·.1)=hs.map λ h=>.inr h.name
 |[],[],_=>rfl
 |_::vs,_::hs,e=>by
  show _::List.map _ (kvOf vs hs)=_;rw[Z3Y (ql1 e)];rfl
theorem J1d{R:V->Hs->Prop}:∀{vs:List V}{hs:List Hs},A2 R vs hs->A2 (λ a h=>a.1=.inr h.name/\R a.2 h) (kvOf vs hs) hs
 |_,_,.nil=>.nil
 |_,_,.cons r t=>.cons ⟨rfl,r⟩ (J1d t)
variable{i:Nat}
theorem Z9o{hs:List Hs}{h:Hs}(l:vs.length=hs.length)(n:(hs.map Hs.name).Nodup)(e:hs[i]?=some h):valV ((kvOf vs hs).take i) (.inr h.name)=none:=by
 refine J6h λ z=>?_;rw[qj7,Z3Y l]at z;have b:(hs.map Hs.name)[i]?=some h.name:=by rw[qa8,e];rfl
 have c:h.name∈(hs.map Hs.name).take i:=by
  rw[<-qj7]at z ⊢;obtain⟨g,m,o⟩:=qe0.mp z;exact qe0.mpr ⟨g,m,Sum.inr.inj o⟩
 generalize hs.map Hs.name=q at*;obtain⟨j,a⟩:=List.mem_iff_getElem?.mp c;rw[qn1]at a;split at a
 ·rename_i lt;have p:=(qa6.mp a).1;have r:=(qa6.mp b).1;have:=(List.getElem?_inj p n).mp (a.trans b.symm);lia
 ·cases a
variable{G:Pg}
theorem Z0G{K:X0}{c:CS}{a:V0}(h:HlO K c H (.ref a) G):∃n o d kvs,H a=some (.ins c.hall n [("in_order",.ref o),("by_name",.ref d)])/\H d=some (.dK kvs)/\GOk G/\∀x X,Look G x X->∃b p g i j,DGet H d (.str x) (some (.ref b))/\H b=some (.ins c.house p [("name",.str X.name),("elder",oS X.elder),("own_fields",.ref g),("own_words",.ref i)])/\RT K H (.ref g) (Z2l X.fields)/\SqT K H i j/\A2 (WdO K c H) j X.words/\HsOk X:=by
 cases h with
 |mk q m r ok=>
  refine⟨_,_,_,_,q,m,ok,λ x X e=>?_⟩;obtain⟨v,u,y⟩:=J3E r ok.nd e.1;cases y with
  |mk z A C D=>
   refine⟨_,_,_,_,_,?_,z,A,C,D,ok.hs _ e.1⟩;rw[<-u,e.2];exact DGet.k (k:=.inr x) m
theorem Chain.at{h:M2}{es:List M2}(c:Chain G h es):∀(i:Nat)(x:M2),(h::es)[i]?=some x->∃X,Look G x X/\X.elder=es[i]?:=by
 induction c with
 |top l e=>
  intro i x a;cases i with
  |zero=>cases a;exact⟨_,l,e⟩
  |succ i=>cases a
 |up l e _ b=>
  intro i x a;cases i with
  |zero=>cases a;exact⟨_,l,e⟩
  |succ i=>exact b i x a
variable{o:HO}
theorem J6v{x d:V0}(h:H x=some o)(n:H d=none):d≠x:=λ z=>Z0m h n z.symm
noncomputable def LI(K:X0)(H2:Hp)(x d:V0)(pp:V)(hs:List V)(houses:List Hs)(i:Nat)(σ:St)(H':Hp):Prop:=∃a,SX d H2 H'/\H' d=some (.dK ((kvOf hs houses).take i))/\σ=[some (.ref x),some pp,a]
theorem J3N(T:nofun):HasM P w K mg base 1 Cl "__init__" ["self","program"] (Z6F ∅ K):=by
 walk_at "m m_Hall___init__ sc_Hall___init__ 2"
 obtain⟨x,m,pp,G,rfl,hx,hp,ok,d0,q⟩:=h;obtain⟨e0,Z,n,I,hs,mv,rfl,ha,hq,hh⟩:PgO K ∅ H pp G/\∃Z n I hs mv,pp=.ref Z/\H Z=some (.ins Cp n [("all_houses",.ref I),("main",mv)])/\SqT K H I hs/\A2 (HsO K ∅ H) hs G.houses:=by
  refine⟨hp,?_⟩;cases hp with
  |mk a b c d=>exact⟨_,_,_,_,_,rfl,a,b,c⟩
 have lh:hs.length=G.houses.length:=hh.len;refine⟨_,(Z0a (Z0O (pvF 0) (Z0w Z0u rfl T.O0k Z0X (qI (Z1e rfl (BlockOk.plain (N:=["house"]) rfl qP qP qP) (Z1J (qO 1)) (λ C fp s H=>(qH 0 (show(["house"]:List M2).Nodup by decide+kernel))) (λ C fp s H=>(show PE _ _ (Z6u K _ "name")from Z1T (pvF 0) rfl))))) rfl) (Z0a (Z0O (pvF 0) Z9l rfl) (Z0c (Z1o PassesOwn.never rfl (Z1J (qO 1)) (qH 2 sc_Hall___init__.nd) (Z0c (Z1K (Z2F hr) (qO 0) (qO 2) (pvF 2) rfl)))))),?_⟩;walk_at "s 3 z";refine⟨Cp,n,_,ha,T.Program.cl,T.n_Program_all_houses,.ref I,rfl,I,rfl,⟨_,hq⟩,λ D hD=>?_⟩;refine Z1A (ys:=hs) none [] (λ j v H=>∃t,G.houses[j]?=some t/\v=.str t.name) (λ _ _ _ _ h _=>h) rfl hD (by rw[sizeLine_eq];lia) (λ L s=>SqT.same hq s) (λ i y M L K' s k=>?_) (λ vs Hc Sc hv lv hR=>?_)
 ·walk_at "r";obtain⟨t,p,J⟩:=hh.at M;have J:=J.same s;cases J with
  |mk f1 f2 f3 f4=>exact⟨_,rfl,Ch,_,_,f1,T.House.cl,T.n_House_name,_,rfl,k _ _ (Same.refl _) ⟨t,p,rfl⟩⟩
 walk_at "r";refine⟨vs,.inl ⟨SqL.of hv,λ g a0=>?_⟩⟩;have s1:=Sc.trans (Z0r a0 (.tup vs));have O:upd Hc g (.tup vs) g=some (.tup vs):=Z0d;generalize upd Hc g (.tup vs)=L at*;refine⟨Cl,m,_,s1 _ _ hx,T.Hall.cl,T.n_Hall_in_order,qc3 rfl,?_⟩;walk_at "n z1";have S1:SX x H (upd L x (.ins Cl m (putF "in_order" (.ref g) []))):=(SX.of s1).trans (SX.put _);have X1:upd L x (.ins Cl m (putF "in_order" (.ref g) [])) x=some (.ins Cl m (putF "in_order" (.ref g) [])):=Z0d;have R:g≠x:=J6d O (s1 _ _ hx) (λ z=>by cases z);have I2:upd L x (.ins Cl m (putF "in_order" (.ref g) [])) g=some (.tup vs):=by rw[Z0k R];exact O
 generalize upd L x (.ins Cl m (putF "in_order" (.ref g) []))=S at*;intro d hd;have s2:=Z0r hd (.dK []);have U:d≠x:=J6v X1 hd;refine⟨Cl,m,_,s2 _ _ X1,T.Hall.cl,T.n_Hall_by_name,qc3 rfl,?_⟩;have S2:SX x H (upd (upd S d (.dK [])) x (.ins Cl m (putF "by_name" (.ref d) (putF "in_order" (.ref g) [])))):=S1.trans ((SX.of s2).trans (SX.put _));have X2:upd (upd S d (.dK [])) x (.ins Cl m (putF "by_name" (.ref d) (putF "in_order" (.ref g) []))) x=some (.ins Cl m (putF "by_name" (.ref d) (putF "in_order" (.ref g) []))):=Z0d;have X:upd (upd S d (.dK [])) x (.ins Cl m (putF "by_name" (.ref d) (putF "in_order" (.ref g) []))) d=some (.dK []):=by rw[Z0k U];exact Z0d
 have I3:upd (upd S d (.dK [])) x (.ins Cl m (putF "by_name" (.ref d) (putF "in_order" (.ref g) []))) g=some (.tup vs):=by rw[Z0k R];exact s2 _ _ I2
 have ev:vs=G.houses.map λ h=>V.str h.name:=Z1D (lv.trans lh) hR;have nH:H d=none:=by
  cases e:H d with
  |none=>rfl
  |some o=>rw[S1 _ _ U e]at hd;cases hd
 generalize upd (upd S d (.dK [])) x (.ins Cl m (putF "by_name" (.ref d) (putF "in_order" (.ref g) [])))=H3 at*;have k3:=S2.kp hx;have Y:=hh.mono λ _ _ r=>HsO.kp r k3;have b0:=k3.i _ _ _ _ _ ha;walk_at "n z2";refine⟨Cp,n,_,b0,T.Program.cl,T.n_Program_all_houses,.ref I,rfl,I,rfl,⟨_,SqT.kp hq k3⟩,?_⟩;have kd:∀{H':Hp},SX d H3 H'->Kp H3 H':=λ h=>⟨λ b xs e=>h b _ (λ z=>by rw[z,X]at e;cases e) e,λ b o xs e=>h b _ (λ z=>by rw[z,X]at e;cases e) e,λ b C m f fs e=>h b _ (λ z=>by rw[z,X]at e;cases e) e⟩;refine Z2L hs (LI K H3 x d (.ref Z) hs G.houses) ⟨none,λ _ _ _ h=>h,X,rfl⟩ (λ i σ H' _ h=>?_) (λ i y σ H' M h=>?_) (λ σ H' h=>?_)
 ·obtain⟨o2,sx,_⟩:=h;exact SqT.kp hq (k3.trans (kd sx))
 ·obtain⟨o2,sx,u,rfl⟩:=h;obtain⟨t,p,J⟩:=Y.at M;have J:=HsO.kp J (kd sx);have hi:i<100:=by have:=(qa6.mp M).1;lia
  cases J with
  |mk f1 f2 f3 f4=>
   walk_at "r";refine⟨Cl,m,_,sx _ _ U.symm X2,T.Hall.cl,T.n_Hall_by_name,_,rfl,Ch,_,_,f1,T.House.cl,T.n_House_name,_,rfl,d,rfl,_,DPut.k (k:=.inr t.name) u ?_,_,(sx.trans (SX.put _)),?_,rfl⟩
   ·have:=qj8 i (kvOf hs G.houses);rw[sizeLine_eq];lia
   ·rw[Z0d,Z8B M p,Z9L _ (Z9o lh ok.nd p)]
 ·obtain⟨o2,sx,u,rfl⟩:=h;have lk:(kvOf hs G.houses).length=hs.length:=by
   have:=congrArg qd9 (Z3Y lh);rw[qa1,qa1]at this;lia
  rw[qe1 qR]at u;refine q _ (λ b o nb e=>?_) (.mk (sx _ _ U.symm X2) u (J1d (Y.mono λ _ _ r=>HsO.kp r (kd sx))) ok) ⟨_,_,_,sx _ _ U.symm X2,by rw[<-ev];exact sx _ _ (J6d I3 X (λ z=>by cases z)) I3⟩;exact sx _ _ (Z0m e nH) (S2 _ _ nb e)
noncomputable def EI(H:Hp)(a l:V0)(h:M2)(es:List M2)(m:Nat)(σ:St)(H':Hp):Prop:=∃i,m=es.length-i/\i<=es.length/\Same H H'/\H' l=some (.lst ((es.take i).map V.str))/\σ=[some (.ref a),some (.str h),some (.ref l),some (oS es[i]?)]
theorem J2C(T:nofun):HasM P w K mg base 1 Cl "elders" ["self","house"] (Z3c ∅ K):=by
 walk_at "m m_Hall_elders sc_Hall_elders 2"
 obtain⟨a,h,G,c,rfl,hl,L,M,q⟩:=h;refine⟨_,(Z0a (qG 2 sc_Hall_elders.nd (Z0o Z0R)) (Z0a (qG 3 sc_Hall_elders.nd (Z1T (qE hr (qO 0) (pvF 1)) rfl)) (Z0a (Z9p PassesOwn.never (qM Z4r (pvF 3) Z0T) (Z0a (Z0A (Z1B qb5 qd2 qd3 Z0F (pvF 2) (qI (pvF 3)))) (Z0c (qG 3 sc_Hall_elders.nd (Z1T (qE hr (qO 0) (pvF 3)) rfl))))) (Z0c (Z0h (pvF 2)))))),?_⟩;walk_at "s 4 z";refine New.of λ l H1 N O Z=>?_;walk_at "n z1";obtain⟨X,r,ex⟩:=Chain.at L 0 h rfl;obtain⟨u,io,d,v,x,ed,ok,n⟩:=Z0G (hl.same O);obtain⟨b,y,ft,wt,ws,C,D,_⟩:=n h X r;refine⟨Cl,u,_,x,T.Hall.cl,T.n_Hall_by_name,_,rfl,d,rfl,_,C,_,rfl,Ch,y,_,D,T.House.cl,T.n_House_elder,_,rfl,?_⟩;walk_at "n z2";refine⟨EI H a l h c,⟨c.length,0,rfl,qb0 _,O,Z,by rw[ex]⟩,λ m σ p hI=>?_⟩;obtain⟨i,rfl,hi,R,g,rfl⟩:=hI;walk_at "r";cases j:c[i]? with
 |none=>
  have:i=c.length:=by have:=List.getElem?_eq_none_iff.mp j;lia
  subst this;refine ite2 (λ z=>absurd rfl z) (λ _=>?_);walk_at "n z3";rw[qe1 (qa0 _)]at g;exact q l p N R g
 |some e=>
  refine ite2 (λ _=>?_) (λ z=>by simp[oS]at z);have I:i<c.length:=(qa6.mp j).1;refine⟨λ J p=>∃S,S<c.length-i/\EI H a l h c S J p,λ _ _ h=>h,?_⟩;obtain⟨X,r,ex⟩:=Chain.at L (i+1) e j;have U:Same H (upd p l (.lst ((c.take i).map V.str++[.str e]))):=λ b o Y=>by rw[Z0k (Z0m Y N)];exact R _ _ Y
  obtain⟨u,io,d,v,x,ed,ok,n⟩:=Z0G (hl.same U);obtain⟨b,y,ft,wt,ws,C,D,_⟩:=n e X r;refine⟨.inl ⟨rfl,_,SqL.of g⟩,_,g,by rw[qa1,qd0];lia,Cl,u,_,x,T.Hall.cl,T.n_Hall_by_name,_,rfl,d,rfl,_,C,_,rfl,Ch,y,_,D,T.House.cl,T.n_House_elder,_,rfl,c.length-(i+1),qR,i+1,rfl,I,U,?_,?_⟩
  ·rw[Z0d,qd4,j,qb6];rfl
  ·rw[ex]
noncomputable def Z1k(p:M2×M2):PyData:=.tuple [.str p.1,.str p.2]
inductive Z7h(c:CS)(K:X0)(vs:List V)(H:Hp)(Q:VK):Prop
 |mk(a:V0)(h:M2)(G:Pg)(es:List M2)(fs:List (M2×M2))(a1:vs=[.ref a,.str h])(a2:HlO K c H (.ref a) G)(a3:Chain G h es)(a4:es.length<=100)(a5:Flds G (h::es).reverse fs)(a6:fs.length<=100)(a7:∀l xs H',H l=none->Same H H'->H' l=some (.lst xs)->RTs K H' xs (fs.map Z1k)->Q (.ref l) H')
def Z3T(c:CS)(K:X0):Sp:=λ vs H Q _=>Z7h c K vs H Q
theorem Flds.inv{h:M2}{l:List M2}{fs:List (M2×M2)}(x:Flds G (h::l) fs):∃X f2,Look G h X/\fs=X.fields++f2/\Flds G l f2:=by
 cases x with
 |cons a b=>exact⟨_,_,a,rfl,b⟩
theorem HlO.kpx{K:X0}{c:CS}{v:V}{l:V0}(h:HlO K c H v G)(s:SX l H H')(e:H l=some (.lst xs)):HlO K c H' v G:=by
 have k:=SX.kpl s e;cases h with
 |mk a d r n=>exact .mk (k.i _ _ _ _ _ a) (s _ _ (nq e d) d) (r.mono λ _ _ r=>⟨r.1,HsO.kp r.2 k⟩) n
theorem Z6C(es:List M2)(h:M2):V.str h::es.map V.str=(h::es).map V.str:=rfl
noncomputable def FDI(K:X0)(G:Pg)(H:Hp)(a l:V0)(h:M2)(ls:List M2)(fs:List (M2×M2))(i:Nat)(σ:St)(H':Hp):Prop:=∃g b c e,SX l H H'/\H' l=some (.lst b)/\RTs K H' b (c.map Z1k)/\fs=c++e/\Flds G (ls.drop i) e/\σ=[some (.ref a),some (.str h),some (.ref l),g]
theorem J1j(T:nofun)(c:HasM P w K mg base 1 Cl "elders" ["self","house"] (Z3c ∅ K)):HasM P w K mg base 2 Cl "fields" ["self","house"] (Z3T ∅ K):=by
 walk_at "m m_Hall_fields sc_Hall_fields 2"
 obtain⟨a,h,G,M,fs,rfl,hl,hc,n,hf,p,q⟩:=h;refine⟨_,(Z0a (qG 2 sc_Hall_fields.nd (Z0o Z0R)) (Z0a (Z1o PassesOwn.never rfl (J4T rfl T.O0H Z5s (qI (Z0j Z0y (Z0o (qI (pvF 1))) (Z0D (pvF 0) T.Hall.cl c hr qS (qI (pvF 1)))))) (qH 3 sc_Hall_fields.nd) (Z0c (Z0A (Z1B (r:=Z4S K) qb5 qj5 qj6 Z6m (pvF 2) (qI (Z1T (qE hr (qO 0) (pvF 3)) rfl)))))) (Z0c (Z0h (pvF 2))))),?_⟩;walk_at "s 3 z";refine New.of λ l H1 h1 N e1=>?_;walk_at "n z1";refine New.of λ l2 H2 h2 u e2=>?_;obtain⟨R,io,d,S,U,ed,ok,v⟩:=Z0G (hl.same (N.trans u));refine⟨R,_,U,rfl,a,h,G,M,rfl,hl.same (N.trans u),hc,n,λ l3 H3 h3 O e3=>?_⟩;refine⟨_,rfl,_,O _ _ e2,_,e3,by rw[qa1];simp;lia,?_⟩;refine New.of λ l4 Y h4 s4 e4=>?_;have x:=u.trans (O.trans s4);have Z:=x _ _ e1;have n4:l4≠l:=J6v (O _ _ (u _ _ e1)) h4;have kd:∀{H':Hp},SX l Y H'->Kp Y H':=λ hh=>SX.kpl hh Z;refine⟨_,SqL.of e4,?_⟩;refine Z9M (.str h::M.map V.str) (FDI K G Y a l h (h::M).reverse fs) ⟨none,[],[],fs,λ _ _ _ h=>h,Z,.nil,rfl,hf,rfl⟩ (λ i σ H' _ z=>?_) (λ i y σ H' hy z=>?_) (λ σ H' z=>?_)
 ·obtain⟨o3,C,D,f2,sx,_⟩:=z;exact SqL.of (sx _ _ n4 e4)
 ·obtain⟨o3,C,D,f2,sx,m,j,rfl,g,rfl⟩:=z;rw[Z6C,<-List.map_reverse,qa8]at hy;obtain⟨y,I,rfl⟩:=qc1.mp hy;rw[qf6 (qa6.mp I).1,(qa6.mp I).2]at g;obtain⟨X,f3,lk,rfl,J⟩:=Flds.inv g;have a0:=HlO.kpx (hl.same (N.trans (u.trans (O.trans s4)))) sx Z;obtain⟨R,io,d,S,U,ed,ok,v⟩:=Z0G a0;obtain⟨b,bx,ft,wt,ws,g1,g2,g3,_⟩:=v y X lk;obtain⟨fa,zs,e,hz,L⟩:=g3.tup_inv;cases e;have lx:C.length=D.length:=by rw[j.length,qa1]
  have lz:zs.length=X.fields.length:=by rw[L.length,qa1]
  have b0:D.length+(X.fields.length+f3.length)<=100:=by
   rw[qa2,qa2]at p;exact p
  walk_at "r";refine⟨.inl ⟨rfl,_,SqL.of m⟩,Cl,R,_,U,T.Hall.cl,T.n_Hall_by_name,_,rfl,d,rfl,_,g1,_,rfl,Ch,bx,_,g2,T.House.cl,T.n_House_own_fields,_,rfl,_,rfl,C,m,zs,hz,qR,?_⟩;refine⟨_,_,D++X.fields,f3,sx.trans (SX.put _),Z0d,?_,by rw[qb9],J,rfl⟩;rw[qb6];exact(j.kp (Kp.lst _ m)).app (L.kp (Kp.lst _ m))
 ·obtain⟨o3,C,D,f2,sx,m,j,rfl,g,rfl⟩:=z;rw[qn0 (by simp)]at g;cases g;rw[qc8]at*;walk_at "n z2";exact q l C H' h1 (λ b o hb=>sx _ _ (Z0m hb h1) ((N.trans x) _ _ hb)) m j
open P23 (ixO Z3w Z2b Z9J FO)
noncomputable def oP:Option Nat->V
 |none=>.non
 |some n=>.int (n:Int)
noncomputable def foD:Option (M2×Nat×Wd)->PyData
 |none=>.none
 |some (h,i,_)=>.tuple [.str h,.int (i:Int)]
noncomputable def hdO:Option (M2×Nat×Wd)->PyData
 |none=>.none
 |some (_,_,d)=>.tuple [Z2l d.params,.str d.kind]
inductive FW(K:X0)(c:CS)(H:Hp):V->Option (M2×Nat×Wd)->Prop
 |non:FW K c H .non none
 |wd{v:V}{h:M2}{i:Nat}{d:Wd}:WdO K c H v d->FW K c H v (some (h,i,d))
inductive Z7Z(c:CS)(K:X0)(vs:List V)(H:Hp)(Q:VK):Prop
 |mk(a:V0)(h fl:M2)(G:Pg)(es:List M2)(fs:List (M2×M2))(a1:vs=[.ref a,.str h,.str fl])(a2:HlO K c H (.ref a) G)(a3:Chain G h es)(a4:es.length<=100)(a5:Flds G (h::es).reverse fs)(a6:fs.length<=100)(a7:∀H',Same H H'->Q (oP (ixO (fs.map Prod.fst) fl)) H')
def Z5x(c:CS)(K:X0):Sp:=λ vs H Q _=>Z7Z c K vs H Q
inductive Z8j(c:CS)(K:X0)(vs:List V)(H:Hp)(Q:VK):Prop
 |mk(a:V0)(h wd:M2)(G:Pg)(es:List M2)(r:Option (M2×Nat×Wd))(a1:vs=[.ref a,.str h,.str wd])(a2:HlO K c H (.ref a) G)(a3:Chain G h es)(a4:es.length<=100)(a5:FO G wd (h::es) r)(a6:∀v H',Same H H'->RT K H' v (foD r)->Q v H')
def Z3S(c:CS)(K:X0):Sp:=λ vs H Q _=>Z8j c K vs H Q
inductive Z5U(c:CS)(K:X0)(vs:List V)(H:Hp)(Q:VK):Prop
 |mk(a:V0)(h wd:M2)(G:Pg)(es:List M2)(r:Option (M2×Nat×Wd))(a1:vs=[.ref a,.str h,.str wd])(a2:HlO K c H (.ref a) G)(a3:Chain G h es)(a4:es.length<=100)(a5:FO G wd (h::es) r)(a6:∀v H',Same H H'->FW K c H' v r->Q v H')
def Z6j(c:CS)(K:X0):Sp:=λ vs H Q _=>Z5U c K vs H Q
inductive J1a(c:CS)(K:X0)(vs:List V)(H:Hp)(Q:VK):Prop
 |mk(a:V0)(h wd:M2)(G:Pg)(es:List M2)(r:Option (M2×Nat×Wd))(a1:vs=[.ref a,.str h,.str wd])(a2:HlO K c H (.ref a) G)(a3:Chain G h es)(a4:es.length<=100)(a5:FO G wd (h::es) r)(a6:∀v H',Same H H'->RT K H' v (hdO r)->Q v H')
def Z8z(c:CS)(K:X0):Sp:=λ vs H Q _=>J1a c K vs H Q
inductive Z7b(c:CS)(K:X0)(vs:List V)(H:Hp)(Q:VK):Prop
 |mk(a:V0)(G:Pg)(a1:vs=[.ref a])(a2:InO c H a G)(a3:∀l H',H l=none->Same H H'->H' l=some (.lst ((G.houses.map Hs.name).map V.str))->Q (.ref l) H')
def Z7c(c:CS)(K:X0):Sp:=λ vs H Q _=>Z7b c K vs H Q
theorem Z3J{x:M2}{b:List M2}:inV (.str x) (b.map V.str)=decide (x∈b):=by
 unfold inV;rw[List.any_map];by_cases a:x∈b
 ·rw[decide_eq_true a,List.any_eq_true];exact⟨x,a,by simp[eqV]⟩
 ·rw[decide_eq_false a,List.any_eq_false];intro z c;have:z≠x:=λ e=>a (e▸c);simp[eqV,this]
theorem J1I(hs:List Hs):(hs.map λ h=>V.str h.name)=(hs.map Hs.name).map V.str:=by rw[qc7];rfl
theorem J1o(T:nofun)(c:HasM P w K mg base 2 Cl "fields" ["self","house"] (Z3T ∅ K)):HasM P w K mg base 3 Cl "place" ["self","house","field"] (Z5x ∅ K):=by
 walk_at "m m_Hall_place sc_Hall_place 3"
 obtain⟨a,h,fl,G,R,fs,rfl,hl,hc,I,J,L,q⟩:=h;refine⟨_,(Z0a (Z2J rfl sc_Hall_place.nd (i:=3) rfl rfl (BlockOk.plain (N:=["name","kind"]) rfl qP qP qP) (Z1b (Z0D (pvF 0) T.Hall.cl c hr qS (qI (pvF 1)))) (λ C fp s H=>(show PG _ _ (Z5C K 2 _)from Z0v (n:=2) rfl (Z0e (qH 0 (show(["name","kind"]:List M2).Nodup by decide+kernel)) (Z0e (qH 1 (show(["name","kind"]:List M2).Nodup by decide+kernel)) Z0s)))) (λ C fp s H=>(pvF 0))) (Z0a (Z0t (Z0Y (r:=rIn K false) Z0J (pvF 2) (pvF 3) (by with_unfolding_all rfl)) (Z0c (Z0h (Z1B qb5 qg2 qg3 Z3C (pvF 3) (qI (pvF 2))))) Z0n) (Z0c (Z0h Z0T)))),?_⟩;walk_at "s 3 z";obtain⟨dx,io,d,a0,ea,ed,ok,b0⟩:=Z0G hl;refine⟨dx,_,ea,rfl,a,h,G,R,fs,rfl,hl,hc,I,J,L,λ l S H1 h1 U X u=>?_⟩;have lx:S.length=fs.length:=by rw[u.length,qa1]
 refine⟨l,rfl,⟨_,SqL.of X⟩,λ D hD=>?_⟩;refine Z4Y (ys:=S) (λ Y=>∃Z o2,Y=[Z,o2]) (λ j v H=>∃t,fs[j]?=some t/\v=.str t.1) (λ _ _ _ _ h _=>h) ⟨_,_,rfl⟩ hD (by rw[sizeLine_eq];lia) (λ H1 s=>SqL.of (s _ _ X)) (λ i y Y hy hS H2 K' s k=>?_) (λ vs Hc Sc hv lv hR=>?_)
 ·obtain⟨Z,o2,rfl⟩:=hS;obtain⟨t,ht,M⟩:=u.at hy;rw[qa8]at ht;obtain⟨t,O,rfl⟩:=qc1.mp ht;obtain⟨b,zs,rfl,hz,o⟩:=M.tup_inv;obtain⟨v1,r1,rfl,g1,o⟩:=o.inv;obtain⟨v2,r2,rfl,g2,o⟩:=o.inv;cases o.nil_inv;cases g1.str_inv;walk_at "r";refine⟨_,SqT.same hz s,rfl,⟨_,_,rfl,⟨_,_,rfl,?_⟩⟩⟩;exact⟨rfl,k _ _ _ ⟨_,_,rfl⟩ (Same.refl _) ⟨t,O,rfl⟩⟩
 have ev:=Z1D (g:=λ t:M2×M2=>V.str t.1) (lv.trans lx) hR;have p:Hc D=some (.lst ((fs.map Prod.fst).map V.str)):=by rw[hv,ev,qc7];rfl
 walk_at "n z1";refine⟨_,.inl (SqL.of p),rfl,Z1Q _,?_⟩;rw[Z3J];refine ite2 (λ z=>?_) (λ z=>?_)
 ·have hm:=of_decide_eq_true z;obtain⟨j,e,x⟩:=Z2b hm;rw[e]at q;exact⟨.inl ⟨rfl,_,SqL.of p⟩,_,p,j,x.1,x.2,q _ (U.trans Sc)⟩
 ·
  walk_at "n z2";rw[Z3w (λ m=>z (decide_eq_true m))]at q;exact q _ (U.trans Sc)
noncomputable def FOI2(G:Pg)(H:Hp)(a:V0)(h wd:M2)(ls:List M2)(r:Option (M2×Nat×Wd))(i:Nat)(σ:St)(H':Hp):Prop:=∃b c,Same H H'/\FO G wd (ls.drop i) r/\σ=[some (.ref a),some (.str h),some (.str wd),b,c]
theorem J2S(T:nofun)(c:HasM P w K mg base 1 Cl "elders" ["self","house"] (Z3c ∅ K)):HasM P w K mg base 2 Cl "found" ["self","house","word"] (Z3S ∅ K):=by
 walk_at "m m_Hall_found sc_Hall_found 3"
 obtain⟨a,h,wd,G,O,r,rfl,hl,hc,u,hf,q⟩:=h;refine⟨_,(Z0a (Z1o PassesOwn.never rfl (Z1b (Z0j Z0y (Z0o (qI (pvF 1))) (Z0D (pvF 0) T.Hall.cl c hr qS (qI (pvF 1))))) (qH 3 sc_Hall_found.nd) (Z0a (Z2J rfl sc_Hall_found.nd (i:=4) rfl rfl (BlockOk.plain (N:=["own"]) rfl qP qP qP) (Z1J (Z1T (qE hr (qO 0) (pvF 3)) rfl)) (λ C fp s H=>(qH 0 (show(["own"]:List M2).Nodup by decide+kernel))) (λ C fp s H=>(show PE _ _ (Z6u K _ "name")from Z1T (pvF 0) rfl))) (Z0c (Z0t (Z0Y (r:=rIn K false) Z0J (pvF 2) (pvF 4) (by with_unfolding_all rfl)) (Z0c (Z0h (Z0i (qJ (pvF 3) (Z1B qb5 qg2 qg3 Z3C (pvF 4) (qI (pvF 2))))))) Z0n)))) (Z0c (Z0h Z0T))),?_⟩;walk_at "s 2 z";refine New.of λ l2 H2 h2 S e2=>?_;obtain⟨U,io,dd,Y,Z,ed,ok,x⟩:=Z0G (hl.same S);refine⟨U,_,Z,rfl,a,h,G,O,rfl,hl.same S,hc,u,λ l3 H3 h3 s3 e3=>?_⟩;refine⟨_,rfl,_,s3 _ _ e2,_,e3,by rw[qa1];simp;lia,?_⟩;refine New.of λ l4 H4 h4 s4 e4=>?_;have n:=S.trans (s3.trans s4);refine⟨⟨_,SqL.of e4⟩,?_⟩;refine Z1p (.str h::O.map V.str) (FOI2 G H4 a h wd (h::O) r) ⟨none,none,Same.refl _,hf,rfl⟩ (λ i σ H' _ I=>?_) (λ i y σ H' R I=>?_) (λ σ H' I=>?_)
 ·obtain⟨o3,o4,sx,_⟩:=I;exact SqL.of (sx _ _ e4)
 ·obtain⟨o3,o4,sx,m,rfl⟩:=I;rw[Z6C,qa8]at R;obtain⟨y,J,rfl⟩:=qc1.mp R;rw[qf6 (qa6.mp J).1,(qa6.mp J).2]at m;obtain⟨X,L⟩:∃X,Look G y X:=by cases m with|here a _ _=>exact⟨_,a⟩|there a _ _=>exact⟨_,a⟩
  obtain⟨U,io,dd,Y,Z,ed,ok,x⟩:=Z0G (hl.same (n.trans sx));obtain⟨b,bx,ft,wt,ws,g1,g2,g3,g4,g5,g6⟩:=x y X L;have lw:ws.length=X.words.length:=g5.len;have b0:=g6.wl;walk_at "s 2 y";refine⟨Cl,U,_,Z,T.Hall.cl,T.n_Hall_by_name,_,rfl,dd,rfl,_,g1,_,rfl,Ch,bx,_,g2,T.House.cl,T.n_House_own_words,_,rfl,wt,rfl,⟨_,g4⟩,λ D hD=>?_⟩;refine Z1A (ys:=ws) none [] (λ j v H=>∃t,X.words[j]?=some t/\v=.str t.name) (λ _ _ _ _ h _=>h) rfl hD (by rw[sizeLine_eq];lia) (λ H1 s=>SqT.same g4 s) (λ i y R H1 K' s k=>?_) (λ vs Hc Sc hv lv hR=>?_)
  ·walk_at "r";obtain⟨t,a0,ho⟩:=g5.at R;have ho:=ho.same s;cases ho with
   |mk f1 f2 f3=>exact⟨_,rfl,Cw,_,_,f1,T.Word.cl,T.n_Word_name,_,rfl,k _ _ (Same.refl _) ⟨t,a0,rfl⟩⟩
  have ev:=Z1D (g:=λ t:Wd=>V.str t.name) (lv.trans lw) hR;have o:Hc D=some (.lst ((X.words.map Wd.name).map V.str)):=by rw[hv,ev,qc7];rfl
  walk_at "n y1";refine⟨_,.inl (SqL.of o),rfl,Z1Q _,?_⟩;rw[Z3J];have un:=uniq ok.nd;cases m with
  |here M a2 a3=>
   have:=un _ _ M.1 L.1 (M.2.trans L.2.symm);subst this;obtain⟨m1,m2,m3⟩:=Z9J a2;refine ite2 (λ _=>?_) (λ z=>absurd (decide_eq_true m1) z);refine⟨.inl ⟨rfl,_,SqL.of o⟩,_,o,_,m3.1,m3.2,?_⟩;refine New.of λ p H6 h6 s6 e6=>?_;exact q _ H6 (n.trans (sx.trans (Sc.trans s6))) (.tup (SqT.of e6) (.cons (.str _) (.cons (.int _) .nil)))
  |there M a2 a3=>
   have:=un _ _ M.1 L.1 (M.2.trans L.2.symm);subst this;refine ite2 (λ z=>?_) (λ _=>?_)
   ·obtain⟨j,e,_⟩:=Z2b (of_decide_eq_true z);rw[a2]at e;cases e
   exact⟨_,_,sx.trans Sc,a3,rfl⟩
 ·obtain⟨o3,o4,sx,m,rfl⟩:=I;rw[qn0 (by simp)]at m;cases m;walk_at "n z1";exact q _ _ (n.trans sx) .non
theorem J0K(T:nofun)(c:HasM P w K mg base 2 Cl "found" ["self","house","word"] (Z3S ∅ K)):HasM P w K mg base 3 Cl "found_word" ["self","house","word"] (Z6j ∅ K):=by
 walk_at "m m_Hall_found_word sc_Hall_found_word 3"
 obtain⟨a,h,wd,G,D,r,rfl,hl,M,e,I,q⟩:=h;refine⟨_,(Z0a (qG 3 sc_Hall_found_word.nd (Z0D (pvF 0) T.Hall.cl c hr qS (qJ (pvF 1) (pvF 2)))) (Z0a (Z0t (qM Z6l (pvF 3) Z0T) (Z0c (Z0h Z0T)) Z0n) (Z0a (Z0Q (pvF 3) (Z0v (n:=2) rfl (Z0e (qH 4 sc_Hall_found_word.nd) (Z0e (qH 5 sc_Hall_found_word.nd) Z0s)))) (Z0c (Z0h (qC K (Z1T (qE hr (qO 0) (pvF 4)) rfl) (pvF 5))))))),?_⟩;walk_at "s 4 z";obtain⟨m,N,J,o,u,O,ok,g⟩:=Z0G hl;refine⟨m,_,u,rfl,a,h,wd,G,D,r,rfl,hl,M,e,I,λ p R x L=>?_⟩;walk_at "n z1";cases r with
 |none=>
  cases L;refine ite2 (λ _=>q _ _ x .non) (λ z=>absurd rfl z)
 |some t=>
  obtain⟨S,ix,d⟩:=t;obtain⟨pa,xs,rfl,U,j⟩:=RT.tup_inv L;obtain⟨v1,r1,rfl,y,j⟩:=j.inv;obtain⟨v2,r2,rfl,C,j⟩:=j.inv;cases j.nil_inv;cases y;cases C;refine ite2 (λ z=>by simp at z) (λ _=>?_);walk_at "n z2";refine⟨_,U,rfl,⟨_,_,rfl,⟨_,_,rfl,?_⟩⟩⟩;walk_at "n z3";obtain⟨X,Y,hd⟩:=I.at;obtain⟨m,N,J,o,u,O,ok,g⟩:=Z0G (hl.same x);obtain⟨b,Z,ft,wt,ws,y,C,g3,g4,g5,g6⟩:=g S X Y;obtain⟨v,hv,hw⟩:=g5.to hd;refine⟨Cl,m,_,u,T.Hall.cl,T.n_Hall_by_name,_,rfl,J,rfl,_,y,_,rfl,Ch,Z,_,C,T.House.cl,T.n_House_own_words,_,rfl,_,rfl,_,g4,v,?_,q v R x (.wd hw)⟩;exact Z3b hv
theorem J5b(T:nofun)(b:HasM P w K mg base 3 Cl "found_word" ["self","house","word"] (Z6j ∅ K)):HasM P w K mg base 4 Cl "head" ["self","house","word"] (Z8z ∅ K):=by
 walk_at "m m_Hall_head sc_Hall_head 3"
 obtain⟨a,h,wd,G,e,r,rfl,hl,n,c,o,q⟩:=h;refine⟨_,(Z0a (qG 3 sc_Hall_head.nd (Z0D (pvF 0) T.Hall.cl b hr qS (qJ (pvF 1) (pvF 2)))) (Z0a (Z0t (qM Z6l (pvF 3) Z0T) (Z0c (Z0h Z0T)) Z0n) (Z0c (Z0h (Z0i (qJ (qO 3) (qO 3))))))),?_⟩;walk_at "s 3 z";obtain⟨u,L,M,v,x,N,ok,y⟩:=Z0G hl;refine⟨u,_,x,rfl,a,h,wd,G,e,r,rfl,hl,n,c,o,λ p O g C=>?_⟩;walk_at "n z1";cases C with
 |non=>exact ite2 (λ _=>q _ _ g .non) (λ z=>absurd rfl z)
 |wd D=>
  cases D with
  |mk j I R=>
   refine ite2 (λ z=>by simp at z) (λ _=>?_);walk_at "n z2";refine⟨Cw,_,_,j,T.Word.cl,T.n_Word_params,_,rfl,Cw,_,_,j,T.Word.cl,T.n_Word_kind,_,rfl,New.of λ S U X m J=>?_⟩;exact q _ _ (g.trans m) (.tup (SqT.of J) (.cons (I.same m) (.cons (.str _) .nil)))
theorem J0Z(T:nofun):HasM P w K mg base 1 Cl "houses" ["self"] (Z7c ∅ K):=by
 walk_at "m m_Hall_houses Z5K 1"
 obtain⟨a,G,rfl,⟨e,c,d,g,b⟩,q⟩:=h;refine⟨_,(Z0c (Z0h (Z0w Z3f rfl T.O1b Z6I (qI (qO 0))))),?_⟩;walk_at "r";rw[J1I]at b;exact⟨Cl,e,_,g,T.Hall.cl,T.n_Hall_in_order,.ref c,rfl,c,rfl,_,.inr (SqT.of b),λ l hl=>q l _ hl (Z0r hl _) Z0d⟩
noncomputable def pyo(ch:M2->List M2)(h:M2):V->Bool
 | .str x=>decide (h∈ch x)
 |_=>false
open PK (NN fitP nrP)
inductive Z5Y(K:X0)(vs:List V)(H:Hp)(Q:VK):Prop
 |mk(k:M2)(a1:vs=[.str k])(a2:Q (.bl (!decide (k∈NN))) H)
def Z2f(K:X0):Sp:=λ vs H Q _=>Z5Y K vs H Q
inductive J2f(c:CS)(K:X0)(vs:List V)(H:Hp)(Q:VK):Prop
 |mk(a:V0)(x y:M2)(G:Pg)(up:M2->List M2)(a1:vs=[.ref a,.str x,.str y])(a2:HlO K c H (.ref a) G)(a3:(x∉NN->Chain G x (up x)/\(up x).length<=100))(a4:∀H',Same H H'->Q (.bl (fitP up x y)) H')
def Z4y(c:CS)(K:X0):Sp:=λ vs H Q _=>J2f c K vs H Q
inductive Z5P(c:CS)(K:X0)(vs:List V)(H:Hp)(Q:VK):Prop
 |mk(a:V0)(x y:M2)(G:Pg)(up:M2->List M2)(a1:vs=[.ref a,.str x,.str y])(a2:HlO K c H (.ref a) G)(a3:(x∉NN->Chain G x (up x)/\(up x).length<=100))(a4:(y∉NN->Chain G y (up y)/\(up y).length<=100))(a5:∀H',Same H H'->Q (oS (nrP up x y)) H')
def Z6a(c:CS)(K:X0):Sp:=λ vs H Q _=>Z5P c K vs H Q
theorem J0M(T:nofun):Has P w K mg base 1 "is_house" ["kind"] (Z2f K):=by
 walk_at "h O1r Z8x 1"
 obtain⟨k,rfl,q⟩:=h;refine⟨_,(Z0c (Z0h (Z0W (r:=rIn K true) Z2w (pvF 0) (J4r T.c_NO_HOUSES rfl) (by with_unfolding_all rfl)))),?_⟩;walk_at "r";refine⟨_,.inr (T.t_NO_HOUSES H),rfl,rfl,?_⟩;rw[show[V.str "number",V.str "truth"]=NN.map V.str from rfl,Z3J];exact q
theorem J5M(T:nofun)(b:Has P w K mg base 1 "is_house" ["kind"] (Z2f K))(c:HasM P w K mg base 1 Cl "elders" ["self","house"] (Z3c ∅ K)):Has P w K mg base 2 "fits" ["hall","one","other"] (Z4y ∅ K):=by
 walk_at "h f_fits J6j 3"
 obtain⟨a,x,y,G,up,rfl,hl,j,q⟩:=h;refine⟨_,(Z0a (Z0t (qM Z0B (pvF 1) (pvF 2)) (Z0c (Z0h J6q)) Z0n) (Z0c (Z0h (Z4A (qF b hr (qI (pvF 1))) (Z4A (qF b hr (qI (pvF 2))) (Z4B (Z0W (r:=rIn K false) Z0J (pvF 2) (Z0D (pvF 0) T.Hall.cl c hr qS (qI (pvF 1))) (by with_unfolding_all rfl)))))))),?_⟩;walk_at "r";refine ite2 (λ e=>?_) (λ g=>⟨x,rfl,_,rfl,ite2 (λ z=>?_) (λ z=>?_)⟩)
 ·have:fitP up x y=true:=decide_eq_true (.inl e);rw[this]at q;exact q _ (Same.refl _)
 ·have i:x∉NN:=λ m=>by rw[decide_eq_true m]at z;cases z
  refine⟨y,rfl,_,rfl,ite2 (λ z=>?_) (λ z=>?_)⟩
  ·have o:y∉NN:=λ m=>by rw[decide_eq_true m]at z;cases z
   obtain⟨p,L,M,u,v,N,_,_⟩:=Z0G hl;obtain⟨C,D⟩:=j i;refine⟨p,_,v,rfl,a,x,G,up x,rfl,hl,C,D,λ l O R I J=>⟨l,rfl,_,.inl (SqL.of J),rfl,Z1Q _,?_⟩⟩;rw[Z3J];have:fitP up x y=decide (y∈up x):=decide_eq_decide.mpr ⟨λ h=>(h.resolve_left g).2.2,λ h=>.inr ⟨i,o,h⟩⟩;rw[<-this];exact q _ I
  ·have:fitP up x y=false:=decide_eq_false λ h=>(h.resolve_left g).2.1 (qe7 λ n=>z (by rw[decide_eq_false n];rfl));rw[this]at q;exact q _ (Same.refl _)
 ·have:fitP up x y=false:=decide_eq_false λ h=>(h.resolve_left g).1 (qe7 λ n=>z (by rw[decide_eq_false n];rfl));rw[this]at q;exact q _ (Same.refl _)
noncomputable def NRI(H:Hp)(a:V0)(x y:M2)(up:M2->List M2)(ls:List M2)(i:Nat)(σ:St)(H':Hp):Prop:=∃b,Same H H'/\(∀z∈ls.take i,fitP up y z=false)/\σ=[some (.ref a),some (.str x),some (.str y),b]
theorem J0t(T:nofun)(b:Has P w K mg base 1 "is_house" ["kind"] (Z2f K))(g:Has P w K mg base 2 "fits" ["hall","one","other"] (Z4y ∅ K))(c:HasM P w K mg base 1 Cl "elders" ["self","house"] (Z3c ∅ K)):Has P w K mg base 3 "nearest" ["hall","one","other"] (Z6a ∅ K):=by
 walk_at "h O1E O0R 3"
 obtain⟨a,x,y,G,up,rfl,hl,C,D,q⟩:=h;refine⟨_,(Z0a (Z0t (qM Z0B (pvF 1) (pvF 2)) (Z0c (Z0h (pvF 1))) Z0n) (Z0a (Z0t (PW.pt (Z8L (Z4T (Z4G (qF b hr (qI (pvF 1))))) (Z5A (Z4T (Z4G (qF b hr (qI (pvF 2)))))))) (Z0c (Z0h Z0T)) Z0n) (Z0a (Z1o PassesOwn.never rfl (Z1b (Z0j Z0y (Z0o (qI (pvF 1))) (Z0D (pvF 0) T.Hall.cl c hr qS (qI (pvF 1))))) (qH 3 O0R.nd) (Z0c (Z0t (Z4G (qF g hr (qK (pvF 0) (pvF 2) (pvF 3)))) (Z0c (Z0h (pvF 3))) Z0n))) (Z0c (Z0h Z0T))))),?_⟩;walk_at "r";have L:∀{x:M2},(!decide (x∈NN))=false->x∈NN:=λ{x} z=>qe7 λ n=>by rw[decide_eq_false n]at z;cases z
 refine ite2 (λ e=>?_) (λ I=>⟨x,rfl,_,rfl,ite2 (λ z=>?_) (λ z=>?_)⟩)
 ·have:nrP up x y=some x:=if_pos e;rw[this]at q;exact q _ (Same.refl _)
 ·have:nrP up x y=none:=(if_neg I).trans (if_pos (.inl (L z)));rw[this]at q;exact q _ (Same.refl _)
 have M:x∉NN:=λ m=>z (by rw[decide_eq_true m];rfl);refine⟨y,rfl,_,rfl,ite2 (λ z=>?_) (λ z=>?_)⟩
 ·have:nrP up x y=none:=(if_neg I).trans (if_pos (.inr (L z)));rw[this]at q;exact q _ (Same.refl _)
 have hy:y∉NN:=λ m=>z (by rw[decide_eq_true m];rfl);have N:nrP up x y=(x::up x).find? (fitP up y):=(if_neg I).trans (if_neg λ h=>h.elim M hy);refine New.of λ l1 H1 h1 J e1=>?_;obtain⟨dx,io,dd,a0,ea,ed,_,_⟩:=Z0G (hl.same J);obtain⟨c1,c2⟩:=C M;refine⟨dx,_,ea,rfl,a,x,G,up x,rfl,hl.same J,c1,c2,λ l H2 h2 O e2=>⟨l,rfl,_,O _ _ e1,_,e2,by rw[qa1];simp;lia,New.of λ l3 H3 h3 s3 R=>⟨⟨_,SqL.of R⟩,?_⟩⟩⟩;have S:=J.trans (O.trans s3);refine Z1p (V.str x::(up x).map V.str) (NRI H3 a x y up (x::up x)) ⟨none,Same.refl _,(λ z hz=>by cases hz),rfl⟩ (λ i U X _ r=>?_) (λ i v U X Y r=>?_) (λ U X r=>?_)
 ·obtain⟨Z,sx,_⟩:=r;exact SqL.of (sx _ _ R)
 ·obtain⟨Z,sx,o,rfl⟩:=r;rw[Z6C,qa8]at Y;obtain⟨v,u,rfl⟩:=qc1.mp Y;refine⟨a,y,v,G,up,rfl,hl.same (S.trans sx),D,λ H4 s4=>⟨_,rfl,ite2 (λ z=>?_) (λ z=>?_)⟩⟩
  ·have:nrP up x y=some v:=by
    rw[N,List.find?_eq_some_iff_getElem];obtain⟨hi,e⟩:=qa6.mp u;refine⟨z,i,hi,e,λ j hj=>?_⟩;have:=o _ (List.mem_take_iff_getElem.mpr ⟨j,qR,rfl⟩);rw[this];rfl
   rw[this]at q;exact q _ (S.trans (sx.trans s4))
  ·refine⟨_,sx.trans s4,λ w p=>?_,rfl⟩;rw[qd4,u]at p;rcases qa7.mp p with p|p
   ·exact o w p
   ·cases qa5.mp p;exact Bool.eq_false_iff.mpr z
 ·obtain⟨Z,sx,o,rfl⟩:=r;have:nrP up x y=none:=by
   rw[N,qm6];intro w p;rw[o w (by rw[qe1 (by simp)];exact p)];decide
  rw[this]at q;exact q _ (S.trans sx)
open P52 (Z6B Z1W Z7A Z4m Z3Q wn Z1U bk)
noncomputable def fvs:Nat->List Hs->List V
 |_,[]=>[]
 |n,X::r=>.int (n:Int)::fvs (n+X.words.length) r
theorem J1r:∀(n:Nat)(hs:List Hs),(fvs n hs).length=hs.length
 |_,[]=>rfl
 |n,X::r=>congrArg (·+1) (J1r (n+X.words.length) r)
def sumW(hs:List Hs):Nat:=(hs.map λ X=>X.words.length).sum
theorem J4D:∀{hs:List Hs}{n i:Nat}{X:Hs},hs[i]?=some X->(fvs n hs)[i]?=some (.int ((n+sumW (hs.take i):Nat):Int))
 |Y::hs,n,0,X,h=>rfl
 |Y::hs,n,i+1,X,h=>by
  have:=J4D (hs:=hs) (n:=n+Y.words.length) (i:=i) (X:=X) h;show(fvs (n+Y.words.length) hs)[i]?=_;rw[this];show some (V.int ((n+Y.words.length+sumW (hs.take i):Nat):Int))=some (V.int ((n+sumW (Y::hs.take i):Nat):Int));refine congrArg (λ k:Nat=>some (V.int (k:Int))) ?_;show _=n+((Y::hs.take i).map λ X=>X.words.length).sum;rw[qb7,qh6,qe3];rfl
theorem J2U{hs:List Hs}{X:Hs}(h:hs[i]?=some X):sumW (hs.take (i+1))=sumW (hs.take i)+X.words.length:=by
 have hl:=(qa6.mp h).1;unfold sumW;rw[qh3 hl,(qa6.mp h).2,qb6,qk9];simp
theorem J2B:∀{hs:List Hs}{n:Nat}{h:M2},h∈hs.map Hs.name->valV (kvOf (fvs n hs) hs) (.inr h)=some (.int ((n+Z1U hs h:Nat):Int))
 |Y::hs,n,h,a=>by
  show valV ((.inr Y.name,.int (n:Int))::kvOf (fvs (n+Y.words.length) hs) hs) _=_;by_cases e:Y.name=h
  ·rw[Z1l (by rw[e])];show _=some (V.int ((n+(if Y.name=h then 0 else _):Nat):Int));rw[if_pos e];rfl
  ·have a:h∈hs.map Hs.name:=by
    rcases qa4.mp a with z|z
    ·exact absurd z.symm e
    ·exact z
   rw[Z1d (λ z=>e (Sum.inr.inj z)),J2B a];show _=some (V.int ((n+(if Y.name=h then 0 else Y.words.length+Z1U hs h):Nat):Int));rw[if_neg e,qe3]
noncomputable def bkV:Option Nat->V
 |none=>.non
 |some n=>.int (n:Int)
inductive Z8i(c:CS)(K:X0)(vs:List V)(H:Hp)(Q:VK):Prop
 |mk(pp:V)(G:Pg)(a1:vs=[pp])(a2:PgO K c H pp G)(a3:GOk G)(a4:G.houses.length<=100)(a5:∀l H',H l=none->Same H H'->H' l=some (.lst ((wn G).map V.str))->Q (.ref l) H')
def Z7F(c:CS)(K:X0):Sp:=λ vs H Q _=>Z8i c K vs H Q
inductive Z7N(c:CS)(K:X0)(vs:List V)(H:Hp)(Q:VK):Prop
 |mk(pp:V)(G:Pg)(a1:vs=[pp])(a2:PgO K c H pp G)(a3:GOk G)(a4:G.houses.length<=100)(a5:∀d H',Same H H'->H' d=some (.dK (kvOf (fvs 0 G.houses) G.houses))->Q (.ref d) H')
def Z7P(c:CS)(K:X0):Sp:=λ vs H Q _=>Z7N c K vs H Q
inductive Z8f(c:CS)(K:X0)(vs:List V)(H:Hp)(Q:VK):Prop
 |mk(a d:V0)(h wd:M2)(G:Pg)(es:List M2)(r:Option (M2×Nat×Wd))(a1:vs=[.ref a,.ref d,.str h,.str wd])(a2:HlO K c H (.ref a) G)(a3:H d=some (.dK (kvOf (fvs 0 G.houses) G.houses)))(a4:Chain G h es)(a5:es.length<=100)(a6:FO G wd (h::es) r)(a7:∀H',Same H H'->Q (bkV (bk G r)) H')
def Z8g(c:CS)(K:X0):Sp:=λ vs H Q _=>Z8f c K vs H Q
theorem J7Q(ok:GOk G)(hl:G.houses.length<=100):∀i,(Z1W [] ((G.houses.take i).map λ X=>X.words.map Wd.name)).length<=10000:=λ i=>by
 have:=Z4m 100 ((G.houses.take i).map λ X=>X.words.map Wd.name) [] λ b h=>by
  obtain⟨X,a,rfl⟩:=qe0.mp h;rw[qa1];exact(ok.hs X (qn2 a)).wl
 rw[qa1,qd0,qg0]at this;have:min i G.houses.length<=100:=by lia
 lia
theorem J2R{ns:List M2}{q:M2->Bool}(h:A2 (λ v i=>v=V.str (ns.getD i "")) vs (Z1z (λ i=>q (ns.getD i "")) ns.length)):vs=(ns.filter q).map V.str:=by
 have b:vs=(Z1z (λ i=>q (ns.getD i "")) ns.length).map λ i=>V.str (ns.getD i ""):=by
  generalize Z1z (λ i=>q (ns.getD i "")) ns.length=ks at h;induction h with
  |nil=>rfl
  |cons r _ c=>rw[r,c];rfl
 have e:(qe2 ns.length).map (λ i=>ns.getD i "")=ns:=by
  refine qm7 λ j=>?_;rw[qa8];by_cases a:j<ns.length
  ·rw[List.getElem?_range a,qa3 a,qg5,qc5,qa3 a];rfl
  ·rw[qh7 (by rw[qm5];lia),qh7 qR];rfl
 have g:ns.filter q=((qe2 ns.length).filter λ i=>q (ns.getD i "")).map λ i=>ns.getD i "":=by
  have:=List.filter_map (f:=λ i=>ns.getD i "") (p:=q) (l:=qe2 ns.length);rw[e]at this;exact this
 rw[b,g,qc7];rfl
theorem J9s{a:V0}(o:HO)(h:H a=some (.dK kvs)):Kp H (upd H a o):=
 ⟨λ b c e=>(Z0k (nq h e)).trans e,λ b o c e=>(Z0k (nq h e)).trans e,λ b C g f fs e=>(Z0k (nq h e)).trans e⟩
theorem Z4P{K:X0}{c:CS}{g:V}(m:PgO K c H g G):∃h e i hs j,g=.ref h/\H h=some (.ins c.program e [("all_houses",.ref i),("main",j)])/\SqT K H i hs/\A2 (HsO K c H) hs G.houses/\WdO K c H j G.main:=by
 cases m with
 |mk a b c d=>exact⟨_,_,_,_,_,rfl,a,b,c,d⟩
noncomputable def WNI(H1:Hp)(l:V0)(pp:V)(houses:List Hs)(i:Nat)(σ:St)(H':Hp):Prop:=∃a,SX l H1 H'/\H' l=some (.lst ((Z1W [] ((houses.take i).map λ X=>X.words.map Wd.name)).map V.str))/\σ=[some pp,some (.ref l),a]
theorem J1v(T:nofun):Has P w K mg base 1 "word_names" ["program"] (Z7F ∅ K):=by
  refine Has.of T.O1e O0w (λ _ _ _ _ _ _ us hl=>el1 us hl λ _=>rfl) (λ vs H Q E h=>?_) (λ f cdv A outer s H vs Q E hr h=>?_)
  · obtain⟨pp,G,rfl,_⟩:=h;rfl
  obtain⟨pp,G,rfl,hp,ok,O,q⟩:=h;obtain⟨pa,a0,ht,hs,mv,rfl,ha,hq,hh,R⟩:=Z4P hp;have lh:hs.length=G.houses.length:=hh.len;refine⟨_,(Z0a (J1N (i:=1) O0w.nd rfl (Or.inr rfl) (Z0o Z0R)) (Z0a (Z1o PassesOwn.never rfl (Z1J (qO 0)) (qH 2 O0w.nd) (Z0c (Z0A (Z1B qb5 qj5 qj6 Z5n (pvF 1) (qI (Z3A rfl (BlockOk.of (N:=["word","names"]) (nl:=[none,some 1]) (cl:=[("names",s.heap.objs.size+1)]) rfl qP qP rfl (sub1 rfl) (nm:=["names"]) rfl qP rfl (λ i hi j hj=>by
            match i,hi with
            | 0,_=>cases hj
             |1,_=>cases hj;exact⟨_,rfl,rfl,rfl,.inl rfl⟩
            )) (Z1J (qO 2)) (λ C fp s H=>(qH 0 (show(["word","names"]:List M2).Nodup by decide+kernel))) (λ C fp s H=>(Z0Y (r:=rIn K true) Z2w (show PE _ _ (Z6u K _ "name")from Z1T (pvF 0) rfl) (pvF 1) (by with_unfolding_all rfl))) (λ C fp s H=>(show PE _ _ (Z6u K _ "name")from Z1T (pvF 0) rfl)))))))) (Z0c (Z0h (pvF 1))))),?_⟩
  walk_at "s 3 z";refine New.of λ l H1 h1 S e1=>?_;walk_at "n z1";refine⟨Cp,a0,_,S _ _ ha,T.Program.cl,T.n_Program_all_houses,.ref ht,rfl,ht,rfl,⟨_,SqT.same hq S⟩,?_⟩;refine Z2L hs (WNI H1 l (.ref pa) G.houses) ⟨none,λ _ _ _ h=>h,e1,rfl⟩ (λ i g H' _ h=>?_) (λ i y g H' hy h=>?_) (λ g H' h=>?_)
  · obtain⟨o2,sx,_⟩:=h;exact SqT.kp (SqT.same hq S) (SX.kpl sx e1)
  · obtain⟨o2,sx,m,rfl⟩:=h;obtain⟨X,hX,a⟩:=hh.at hy;have b0:=SX.kpl sx e1;have a:=HsO.kp (a.same S) b0;have lm:=J7Q ok O i;generalize hM:Z1W [] ((G.houses.take i).map λ X=>X.words.map Wd.name)=M at*;have d0:=ok.hs X (qb4 hX);have f0:=d0.wl;cases a with
    |@mk b bx ft wt J _ f1 f2 Y f4=>
    have lw:J.length=X.words.length:=f4.len;walk_at "r";refine⟨.inl ⟨rfl,_,SqL.of m⟩,Ch,bx,_,f1,T.House.cl,T.n_House_own_words,_,rfl,wt,rfl,⟨_,Y⟩,λ D hD=>?_⟩;have g0:D≠l:=J6v m hD;refine Z1y (n:=(X.words.map Wd.name).length) (λ g=>∃o,g=[o,some (.ref l)]) (λ k g=>∃y,J[k]?=some y/\g=[some y,some (.ref l)]) (λ k=>(λ x=>decide (x∉M)) ((X.words.map Wd.name).getD k "")) (λ k v H=>v=V.str ((X.words.map Wd.name).getD k "")) (λ _ _ _ _ h _=>h) ⟨_,rfl⟩ hD (by rw[sizeLine_eq,qa1];lia) (λ k U s Z=>⟨J,J[k]'(by rw[qa1]at Z;lia),SqT.same Y s,qa3 _⟩) (λ U s=>⟨J,SqT.same Y s,by rw[qa1];lia⟩) (λ k x g U H3 K' Z L yl p c=>?_) (λ k g p=>?_) (λ k g Z p U K' L c=>?_) (λ k g Z hp p U K' L c=>?_) (λ vs H4 S4 hv hA=>?_)
    · obtain⟨o,rfl⟩:=p;obtain⟨rfl,yl⟩:=yl;walk_at "r";exact c _ _ ⟨x,yl J (SqT.same Y L),rfl⟩ (Same.refl _)
    · obtain⟨y,_,rfl⟩:=p;exact⟨_,rfl⟩
    · obtain⟨y,u,rfl⟩:=p;obtain⟨t,I,a⟩:=f4.at u;have hn:(X.words.map Wd.name).getD k ""=t.name:=by rw[qc5,qa8,I];rfl
      rw[hn]at c;have a:=a.same L;cases a with
      |mk g1 g2 g3=>
        walk_at "r";refine⟨Cw,_,_,g1,T.Word.cl,T.n_Word_name,_,rfl,_,.inl (SqL.of (L _ _ m)),rfl,Z1Q _,?_⟩;rw[Z3J];have c:=c U (Same.refl _);by_cases R:t.name∈M
        · rw[decide_eq_true R];rw[show(λ x=>decide (x∉M)) t.name=false from decide_eq_false (λ z=>z R)]at c;exact c
        · rw[decide_eq_false R];rw[show(λ x=>decide (x∉M)) t.name=true from decide_eq_true R]at c;exact c
    · obtain⟨y,u,rfl⟩:=p;obtain⟨t,I,a⟩:=f4.at u;have hn:(X.words.map Wd.name).getD k ""=t.name:=by rw[qc5,qa8,I];rfl
      have a:=a.same L;cases a with
      |mk g1 g2 g3=>
        walk_at "r";exact⟨Cw,_,_,g1,T.Word.cl,T.n_Word_name,_,rfl,c _ _ (Same.refl _) (by rw[hn])⟩
    have ev:=J2R (q:=λ x=>decide (x∉M)) hA;rw[ev]at hv;have lf:=qh5 (λ x=>decide (x∉M)) (X.words.map Wd.name);rw[qa1]at lf;walk_at "r";refine⟨_,S4 _ _ m,_,hv,by rw[qa1,qa1];lia,?_⟩;refine⟨_,(sx.trans (SX.of S4)).trans (SX.put _),?_,rfl⟩;have e0:=(qa6.mp hX).1;have et:G.houses.take (i+1)=G.houses.take i++[X]:=by rw[qh3 e0,(qa6.mp hX).2]
    have em:Z1W [] ((G.houses.take (i+1)).map λ X=>X.words.map Wd.name)=Z6B M (X.words.map Wd.name):=by
      rw[et,qb6,<-hM];exact Z3Q _ _ _
    rw[Z0d,em,<-qb6];rfl
  · obtain⟨o2,sx,m,rfl⟩:=h;walk_at "n z2";rw[qe1 qR]at m;exact q l H' h1 (λ b o e=>sx _ _ (Z0m e h1) (S _ _ e)) m
noncomputable def FBI(H1:Hp)(d:V0)(pp:V)(houses:List Hs)(i:Nat)(σ:St)(H':Hp):Prop:=∃a,SX d H1 H'/\H' d=some (.dK ((kvOf (fvs 0 houses) houses).take i))/\σ=[some pp,some (.ref d),some (.int ((sumW (houses.take i):Nat):Int)),a]
theorem J0W(T:nofun):Has P w K mg base 1 "first_blocks" ["program"] (Z7P ∅ K):=by
 walk_at "h O0P O0g 1"
 obtain⟨pp,G,rfl,hp,ok,I,q⟩:=h;obtain⟨pa,m,J,hs,mv,rfl,ha,L,M,hm⟩:=Z4P hp;have lh:hs.length=G.houses.length:=M.len;have N:=J1r 0 G.houses;refine⟨_,(Z0a (qG 1 O0g.nd Z9l) (Z0a (qG 2 O0g.nd Z0f) (Z0a (Z1o PassesOwn.never rfl (Z1J (qO 0)) (qH 3 O0g.nd) (Z0a (Z1K (Z2F hr) (pvF 1) (qO 3) (pvF 2) rfl) (Z0c (J6P (i:=2) O0g.nd rfl (Or.inl rfl) (qL T.z_len (qI (qO 3))) J7W)))) (Z0c (Z0h (pvF 1)))))),?_⟩;walk_at "s 4 z";intro d hd;have c:=Z0r hd (.dK []);have j:upd H d (.dK []) d=some (.dK []):=Z0d;generalize upd H d (.dK [])=p at*;walk_at "n z1";walk_at "n z2";refine⟨Cp,m,_,c _ _ ha,T.Program.cl,T.n_Program_all_houses,.ref J,rfl,J,rfl,⟨_,SqT.same L c⟩,?_⟩;have O:∀{H':Hp},SX d p H'->Kp p H':=λ h=>⟨λ b xs e=>h b _ (nq j e) e,λ b o xs e=>h b _ (nq j e) e,λ b C dx f fs e=>h b _ (nq j e) e⟩;refine Z2L hs (FBI p d (.ref pa) G.houses) ⟨none,λ _ _ _ h=>h,j,rfl⟩ (λ i R H' _ h=>?_) (λ i y R H' S h=>?_) (λ R H' h=>?_)
 ·obtain⟨U,sx,_⟩:=h;exact SqT.kp (SqT.same L c) (O sx)
 ·obtain⟨U,sx,a,rfl⟩:=h;obtain⟨X,g,r⟩:=M.at S;have r:=HsO.kp (r.same c) (O sx);have hi:i<100:=by have:=(qa6.mp S).1;lia
  cases r with
  |@mk b Y ft wt Z _ u f2 f3 f4=>
  have lw:Z.length=X.words.length:=f4.len;have a0:=(ok.hs X (qb4 g)).wl;walk_at "s 2 y";refine⟨Ch,Y,_,u,T.House.cl,T.n_House_name,_,rfl,_,DPut.k (k:=.inr X.name) a ?_,?_⟩
  ·have:=qj8 i (kvOf (fvs 0 G.houses) G.houses);rw[sizeLine_eq];lia
  have v:=sx.trans (SX.put (H:=H') (.dK (putK ((kvOf (fvs 0 G.houses) G.houses).take i) (.inr X.name) (.int ((sumW (G.houses.take i):Nat):Int)))));have e2:upd H' d (.dK (putK ((kvOf (fvs 0 G.houses) G.houses).take i) (.inr X.name) (.int ((sumW (G.houses.take i):Nat):Int)))) d=some (.dK ((kvOf (fvs 0 G.houses) G.houses).take (i+1))):=by
   have:=J4D (n:=0) g;rw[qj0]at this;rw[Z0d,Z8B this g,Z9L _ (Z9o N ok.nd g)]
  have x:b≠d:=nq a u;have z:upd H' d (.dK (putK ((kvOf (fvs 0 G.houses) G.houses).take i) (.inr X.name) (.int ((sumW (G.houses.take i):Nat):Int)))) b=_:=(Z0k x).trans u;have D:=SqT.kp f3 (J9s (.dK (putK ((kvOf (fvs 0 G.houses) G.houses).take i) (.inr X.name) (.int ((sumW (G.houses.take i):Nat):Int)))) a);generalize upd H' d (.dK (putK ((kvOf (fvs 0 G.houses) G.houses).take i) (.inr X.name) (.int ((sumW (G.houses.take i):Nat):Int))))=H2 at*;walk_at "n y1";refine⟨Ch,Y,_,z,T.House.cl,T.n_House_own_words,_,rfl,?_⟩;refine⟨wt,rfl,Z,.inr D,some (.ref b),v,e2,?_⟩;rw[J2U g,lw,ql2]
 ·obtain⟨U,sx,a,rfl⟩:=h;walk_at "n z3";have lk:(kvOf (fvs 0 G.houses) G.houses).length=hs.length:=by
   have:=congrArg qd9 (Z3Y N);rw[qa1,qa1]at this;lia
  rw[qe1 qR]at a;exact q d H' (λ b o e=>sx _ _ (Z0m e hd) (c _ _ e)) a
theorem J2G(T:nofun)(b:HasM P w K mg base 2 Cl "found" ["self","house","word"] (Z3S ∅ K)):Has P w K mg base 3 "found_block" ["hall","firsts","house","word"] (Z8g ∅ K):=by
 walk_at "h O0Z O0B 4"
 obtain⟨a,d,h,wd,G,o,r,rfl,hl,hd,D,g,u,q⟩:=h;refine⟨_,(Z0a (qG 4 O0B.nd (Z0D (pvF 0) T.Hall.cl b hr qS (qJ (pvF 2) (pvF 3)))) (Z0a (Z0t (qM Z6l (pvF 4) Z0T) (Z0c (Z0h Z0T)) Z0n) (Z0c (Z0h (Z0j Z1q (qE hr (pvF 1) (qA K 4)) (qA K 4)))))),?_⟩;walk_at "s 3 z";obtain⟨I,Z,dd,J,L,ed,ok,M⟩:=Z0G hl;refine⟨I,_,L,rfl,a,h,wd,G,o,r,rfl,hl,D,g,u,λ p N j v=>?_⟩;walk_at "n z1";cases r with
 |none=>
  cases v;exact ite2 (λ _=>q _ j) (λ z=>absurd rfl z)
 |some t=>
  obtain⟨c,m,O⟩:=t;obtain⟨pa,xs,rfl,x,e⟩:=RT.tup_inv v;obtain⟨v1,r1,rfl,R,e⟩:=e.inv;obtain⟨v2,r2,rfl,S,e⟩:=e.inv;cases e.nil_inv;cases R;cases S;refine ite2 (λ z=>by simp at z) (λ _=>?_);walk_at "n z2";obtain⟨X,y,U⟩:=u.at;have Y:c∈G.houses.map Hs.name:=by rw[<-y.2];exact qe4 y.1
  have C:=J2B (n:=0) Y;rw[qj0]at C;refine⟨_,x,_,ix0,.int ((Z1U G.houses c:Nat):Int),?_,⟨_,x,_,ix1,_,rfl,_,rfl,?_⟩⟩
  ·rw[<-C];exact DGet.k (k:=.inr c) (j _ _ hd)
  ·have:=q N j;rw[show bkV (bk G (some (c,m,O)))=V.int ((Z1U G.houses c:Nat)+(m:Nat):Int)from by
    show V.int ((Z1U G.houses c+m:Nat):Int)=_;rw[ql2]]at this
   exact this
open PK (HD KN AF)
structure HDOk(G:Pg)(D:HD):Prop where
 nm:D.nm=G.houses.map Hs.name
 nn:∀x∈D.nm,x∉NN
 ch:∀x∈D.nm,Chain G x (D.up x)/\(D.up x).length<=100
 fl:∀x∈D.nm,Flds G (x::D.up x).reverse (D.fl x)/\(D.fl x).length<=100
 fo:∀x∈D.nm,∀w,∃r,FO G w (x::D.up x) r/\D.hd x w=r.map (λ d=>(d.2.2.params,d.2.2.kind))/\D.bk x w=bk G r/\∀d,r=some d->d.2.2.params.length<=100
 wo:D.wo=wn G
 el:∀X∈G.houses,D.el X.name=X.elder
variable{D:HD}
theorem HDOk.chN(h:HDOk G D){x:M2}(k:KN D x):x∉NN->Chain G x (D.up x)/\(D.up x).length<=100:=λ n=>h.ch x (k.resolve_left n)
theorem J2x{xs:List M2}{x:M2}{j:Nat}(h:IxAt xs x j):ixO xs x=some j:=by
 obtain⟨i,e,a⟩:=Z2b (qb4 h.1);rw[e];rcases Nat.lt_trichotomy i j with z|z|z
 ·exact absurd a.1 (h.2 i z)
 ·rw[z]
 ·exact absurd h.1 (a.2 j z)
theorem ln1{b:Type}:∀{l:List b},l.length=1->∃a,l=[a]
 |[a],_=>⟨a,rfl⟩
theorem ln2{c:Type}:∀{l:List c},l.length=2->∃a b,l=[a,b]
 |[a,b],_=>⟨a,b,rfl⟩
theorem ln3{e:Type}:∀{l:List e},l.length=3->∃a b c,l=[a,b,c]
 |[a,b,c],_=>⟨a,b,c,rfl⟩
theorem Z2h{K:X0}{e:TE}{x y:M2}{b r:TS}{D:Ends}{c:St}{a:V0}(g:∀{Q:VK},Q (.ref a) H->e c H Q)(h:∀{Q:VK},Q (.str y) H->Fld K "form" a H Q)(n:y≠x)(q:r D c H):tSeq (tIfS (Z6R (tOp rEq (Z6u K e "form") (tC (.str x)))) b J3d) r D c H:=
 g ⟨a,rfl,h ⟨rfl,_,rfl,show(if decide (V.str y=V.str x)=true then _ else _)from ite2 (λ z=>absurd (V.str.inj (of_decide_eq_true z)) n) λ _=>q⟩⟩
theorem Z2g{K:X0}{e:TE}{x y:M2}{b r:TS}{D:Ends}{c:St}{a:V0}(g:∀{Q:VK},Q (.ref a) H->e c H Q)(h:∀{Q:VK},Q (.str y) H->Fld K "form" a H Q)(n:y=x)(q:b {D with nx:=r D} c H):tSeq (tIfS (Z6R (tOp rEq (Z6u K e "form") (tC (.str x)))) b J3d) r D c H:=
 g ⟨a,rfl,h ⟨rfl,_,rfl,show(if decide (V.str y=V.str x)=true then _ else _)from ite2 (λ _=>q) λ z=>absurd (decide_eq_true (congrArg V.str n)) z⟩⟩
def PrS(K:X0)(H:Hp)(v:V)(ps:List (M2×M2)):Prop:=∃a us,v=.ref a/\(SqT K H a us\/SqL K H a us)/\RTs K H us (ps.map Z1k)
inductive Z5O(K:X0)(vs:List V)(H:Hp)(Q:VK):Prop
 |mk(v:V)(ps:List (M2×M2))(a1:vs=[v])(a2:PrS K H v ps)(a3:ps.length<=100)(a4:∀l H',H l=none->Same H H'->H' l=some (.lst (ps.map λ p=>V.str p.2))->Q (.ref l) H')
def Z4v(K:X0):Sp:=λ vs H Q _=>Z5O K vs H Q
inductive J0V(vs:List V)(H:Hp)(Q:VK):Prop
 |mk(x:M2)(a1:vs=[.str x,.bl true])(a2:Q .non H)
def Z4p:Sp:=λ vs H Q _=>J0V vs H Q
inductive Z5M(vs:List V)(H:Hp)(Q:VK):Prop
 |mk(s a b k:M2)(a1:vs=[.str s,.str a,.str b])(a2:(s=";"/\k=b\/s="="/\(a=b\/a∉NN/\b∉NN)/\k="truth"\/s≠";"/\s≠"="/\a="number"/\b="number"/\k=if s="<" then("truth":M2)else "number"))(a3:Q (.str k) H)
def Z6k:Sp:=λ vs H Q _=>Z5M vs H Q
theorem Z5J{K:X0}{us:List V}{ps:List (M2×M2)}{y:V}(m:RTs K H us (ps.map Z1k))(n:us[i]?=some y):∃b t c e,y=.ref b/\ps[i]?=some t/\SqT K H b [c,e]/\(c=.str t.1/\e=.str t.2):=by
 obtain⟨t,j,g⟩:=m.at n;rw[qa8]at j;obtain⟨t,h,rfl⟩:=qc1.mp j;obtain⟨b,r,rfl,o,a⟩:=g.tup_inv;obtain⟨c,r1,rfl,p,a⟩:=a.inv;obtain⟨e,r2,rfl,q,a⟩:=a.inv;cases a.nil_inv;exact⟨_,_,_,_,rfl,h,o,p.str_inv,q.str_inv⟩
theorem J0B(T:nofun):Has P w K mg base 1 "kinds_in" ["pairs"] (Z4v K):=by
 walk_at "h O1t Z8N 1"
 obtain⟨v,ps,rfl,⟨a,us,rfl,c,u⟩,hl,q⟩:=h;refine⟨_,(Z0c (Z0h (Z1e rfl (BlockOk.plain (N:=["name","kind"]) rfl qP qP qP) (J7H (pvF 0)) (λ C R s H=>(show PG _ _ (Z5C K 2 _)from Z0v (n:=2) rfl (Z0e (qH 0 (show(["name","kind"]:List M2).Nodup by decide+kernel)) (Z0e (qH 1 (show(["name","kind"]:List M2).Nodup by decide+kernel)) Z0s)))) (λ C R s H=>(pvF 1))))),?_⟩;walk_at "r";have O:us.length=ps.length:=by rw[u.length,qa1]
 rcases c with c|c
 ·refine .inr ⟨_,c,λ D e=>Z5o (ys:=us) (λ m=>∃o p,m=[o,p]) (λ j v H=>∃t,ps[j]?=some t/\v=.str t.2) (λ _ _ _ _ h _=>h) ⟨_,_,rfl⟩ e (by rw[sizeLine_eq];lia) (λ S s=>SqT.same c s) (λ i y m x z U X s k=>?_) (λ vs G Sc r I J=>?_)⟩
  ·obtain⟨o,p,rfl⟩:=z;obtain⟨b,t,Y,Z,rfl,L,M,rfl,rfl⟩:=Z5J u x;walk_at "r";exact⟨_,SqT.same M s,rfl,⟨_,_,rfl,⟨_,_,rfl,⟨rfl,k _ _ _ ⟨_,_,rfl⟩ (Same.refl _) ⟨t,L,rfl⟩⟩⟩⟩⟩
  ·rw[Z1D (g:=λ t:M2×M2=>V.str t.2) (I.trans O) J]at r;exact q D G e Sc r
 ·refine .inl ⟨_,c,λ D e=>Z4Y (ys:=us) (λ m=>∃o p,m=[o,p]) (λ j v H=>∃t,ps[j]?=some t/\v=.str t.2) (λ _ _ _ _ h _=>h) ⟨_,_,rfl⟩ e (by rw[sizeLine_eq];lia) (λ S s=>SqL.same c s) (λ i y m x z U X s k=>?_) (λ vs G Sc r I J=>?_)⟩
  ·obtain⟨o,p,rfl⟩:=z;obtain⟨b,t,Y,Z,rfl,L,M,rfl,rfl⟩:=Z5J u x;walk_at "r";exact⟨_,SqT.same M s,rfl,⟨_,_,rfl,⟨_,_,rfl,⟨rfl,k _ _ _ ⟨_,_,rfl⟩ (Same.refl _) ⟨t,L,rfl⟩⟩⟩⟩⟩
  ·rw[Z1D (g:=λ t:M2×M2=>V.str t.2) (I.trans O) J]at r;exact q D G e Sc r
theorem J6c(T:nofun):Has P w K mg base 1 "need" ["word","holds"] Z4p:=by
 walk_at "h f_need J5x 2"
 obtain⟨x,rfl,q⟩:=h;refine⟨_,(Z0c (Z0t (Z4T (Z4G (pvF 1))) (Z0c Z6O) Z0n)),?_⟩;walk_at "r";exact q
theorem J0y(T:nofun)(c:Has P w K mg base 1 "is_house" ["kind"] (Z2f K))(e:Has P w K mg base 1 "need" ["word","holds"] Z4p):Has P w K mg base 2 "two_kind" ["sign","one","other"] Z6k:=by
 walk_at "h O1v Z8u 3"
 obtain⟨s,a,b,k,rfl,g,q⟩:=h;refine⟨_,(Z0a (Z0t (qM Z0B (pvF 0) Z0b) (Z0c (Z0h (pvF 2))) Z0n) (Z0a (Z0t (qM Z0B (pvF 0) Z0b) (Z0a (Z0A (qF e hr (qJ (pvF 0) (J9G (Z0W Z0B (pvF 1) (pvF 2) (Z1R _)) (Z4B (Z4A (qF c hr (qI (pvF 1))) (Z4B (qF c hr (qI (pvF 2)))))))))) (Z0c (Z0h Z0b))) Z0n) (Z0a (Z0A (qF e hr (qJ (pvF 0) (Z4A (Z0W Z0B (pvF 1) Z0b (Z1R _)) (Z4B (Z0W Z0B (pvF 2) Z0b (Z1R _))))))) (Z0a (Z0t (qM Z0B (pvF 0) Z0b) (Z0c (Z0h Z0b)) Z0n) (Z0c (Z0h Z0b)))))),?_⟩;walk_at "r";rcases g with⟨rfl,rfl⟩|⟨rfl,g,rfl⟩|⟨i,j,rfl,rfl,rfl⟩
 ·exact q
 ·refine ite2 (λ z=>absurd z qP) λ _=>ite2 (λ _=>ite2 (λ _=>⟨_,rfl,q⟩) λ m=>?_) λ z=>absurd rfl z;obtain⟨n,nb⟩:=g.resolve_left m;refine⟨a,rfl,_,rfl,ite2 (λ _=>⟨b,rfl,_,by rw[decide_eq_false nb];rfl,q⟩) λ z=>absurd (by rw[decide_eq_false n];rfl) z⟩
 ·rw[if_neg i,if_neg j];refine⟨_,rfl,?_⟩;exact ite2 (λ z=>by rw[if_pos z]at q;exact q) λ z=>by rw[if_neg z]at q;exact q
inductive Z7p(c:CS)(K:X0)(vs:List V)(H:Hp)(Q:VK):Prop
 |mk(a l:V0)(x y k:M2)(G:Pg)(D:HD)(a1:vs=[.ref a,.ref l])(a2:HlO K c H (.ref a) G)(a3:HDOk G D)(a4:SqL K H l [.str "truth",.str x,.str y])(a5:KN D x)(a6:KN D y)(a7:nrP D.up x y=some k)(a8:∀H',Same H H'->Q (.str k) H')
def Z7Y(c:CS)(K:X0):Sp:=λ vs H Q _=>Z7p c K vs H Q
inductive Z4E(c:CS)(K:X0)(vs:List V)(H:Hp)(Q:VK):Prop
 |mk(a:V0)(k x r:M2)(j:Nat)(G:Pg)(D:HD)(a1:vs=[.ref a,.str k,.str x])(a2:HlO K c H (.ref a) G)(a3:HDOk G D)(a4:k∈D.nm)(a5:IxAt ((D.fl k).map Prod.fst) x j)(a6:(D.fl k)[j]?=some (x,r))(a7:∀H',Same H H'->Q (.str r) H')
def Z4z(c:CS)(K:X0):Sp:=λ vs H Q _=>Z4E c K vs H Q
inductive Z7E(c:CS)(K:X0)(vs:List V)(H:Hp)(Q:VK):Prop
 |mk(a l:V0)(v:V)(fs:List M2)(ps:List (M2×M2))(G:Pg)(D:HD)(a1:vs=[.ref a,.ref l,v])(a2:HlO K c H (.ref a) G)(a3:HDOk G D)(a4:SqL K H l (fs.map V.str))(a5:PrS K H v ps)(a6:ps.length<=100)(a7:AF D fs ps)(a8:∀H',Same H H'->Q (.bl true) H')
def Z5f(c:CS)(K:X0):Sp:=λ vs H Q _=>Z7E c K vs H Q
inductive Z4X(c:CS)(K:X0)(vs:List V)(H:Hp)(Q:VK):Prop
 |mk(a l:V0)(k wd r:M2)(fs:List M2)(ps:List (M2×M2))(G:Pg)(D:HD)(a1:vs=[.ref a,.str k,.str wd,.ref l])(a2:HlO K c H (.ref a) G)(a3:HDOk G D)(a4:k∈D.nm)(a5:D.hd k wd=some (ps,r))(a6:SqL K H l (fs.map V.str))(a7:AF D fs ps)(a8:∀H',Same H H'->Q (.str r) H')
def Z4W(c:CS)(K:X0):Sp:=λ vs H Q _=>Z4X c K vs H Q
theorem J2A(T:nofun)(b:Has P w K mg base 3 "nearest" ["hall","one","other"] (Z6a ∅ K))(c:Has P w K mg base 1 "need" ["word","holds"] Z4p):Has P w K mg base 4 "if_kind" ["hall","parts"] (Z7Y ∅ K):=by
 walk_at "h O1F O0S 2"
 obtain⟨a,l,x,y,k,G,D,rfl,hl,hd,e,j,m,n,q⟩:=h;refine⟨_,(Z0a (qG 2 O0S.nd (qF b hr (qK (pvF 0) (qD K (pvF 1) Z0f) (qD K (pvF 1) Z0f)))) (Z0a (Z0A (qF c hr (qJ Z0b (Z4A (Z0W Z0B (qD K (pvF 1) Z0f) Z0b (Z1R _)) (Z4B (Z0W Z4r (pvF 2) Z0T (Z1R _))))))) (Z0c (Z0h (pvF 2))))),?_⟩;walk_at "r";refine⟨_,e,_,ix1,⟨_,e,_,ix2,⟨a,x,y,G,D.up,rfl,hl,hd.chN j,hd.chN m,λ o g=>⟨_,SqL.same e g,_,ix0,rfl,?_⟩⟩⟩⟩;rw[if_pos rfl,n];exact⟨_,rfl,q _ g⟩
theorem Z7B(T:nofun)(g:Has P w K mg base 1 "is_house" ["kind"] (Z2f K))(i:Has P w K mg base 1 "need" ["word","holds"] Z4p)(e:HasM P w K mg base 2 Cl "fields" ["self","house"] (Z3T ∅ K))(c:HasM P w K mg base 3 Cl "place" ["self","house","field"] (Z5x ∅ K)):Has P w K mg base 4 "field_kind" ["hall","kind","field"] (Z4z ∅ K):=by
 walk_at "h O1d Z6G 3"
 obtain⟨a,k,x,r,j,G,D,rfl,hl,hd,n,O,L,q⟩:=h;refine⟨_,(Z0a (Z0A (qF i hr (qJ (pvF 2) (Z4A (qF g hr (qI (pvF 1))) (Z4B (Z0W Z4r (Z0D (pvF 0) T.Hall.cl c hr qS (qJ (pvF 1) (pvF 2))) Z0T (Z1R _))))))) (Z0c (Z0h (qC K (qD K (Z0D (pvF 0) T.Hall.cl e hr qS (qI (pvF 1))) (Z0D (pvF 0) T.Hall.cl c hr qS (qJ (pvF 1) (pvF 2)))) Z0f)))),?_⟩;walk_at "r";obtain⟨o,p⟩:=hd.ch k n;obtain⟨u,v⟩:=hd.fl k n;obtain⟨y,io,d,R,C,_,_,_⟩:=Z0G hl;have M:ixO ((D.fl k).map Prod.fst) x=some j:=J2x O;refine⟨k,rfl,_,rfl,ite2 (λ _=>⟨y,_,C,rfl,a,k,x,G,D.up k,D.fl k,rfl,hl,o,p,u,v,λ H1 I=>?_⟩) λ z=>absurd (by rw[decide_eq_false (hd.nn k n)];rfl) z⟩;rw[M];refine⟨x,rfl,y,_,I _ _ C,rfl,a,k,G,D.up k,D.fl k,rfl,hl.same I,o,p,u,v,λ l us H2 h2 S U N=>?_⟩;have m:=I.trans S;refine⟨y,_,m _ _ C,rfl,a,k,x,G,D.up k,D.fl k,rfl,hl.same m,o,p,u,v,λ H3 J=>⟨l,rfl,_,by rw[M];rfl,?_⟩⟩;have lu:us.length=(D.fl k).length:=by rw[N.length,qa1]
 have X:=(qa6.mp L).1;obtain⟨b,t,v1,v2,Y,Z,hz,rfl,rfl⟩:=Z5J N (qa3 (show j<us.length by lia));cases L.symm.trans Z;exact⟨_,SqL.of (J _ _ U),_,Z3b (by rw[qa3 (show j<us.length by lia),Y]),⟨_,rfl,⟨_,SqT.same hz J,_,ix1,q _ (m.trans J)⟩⟩⟩
theorem J1Z(T:nofun)(c:Has P w K mg base 1 "kinds_in" ["pairs"] (Z4v K))(e:Has P w K mg base 2 "fits" ["hall","one","other"] (Z4y ∅ K)):Has P w K mg base 3 "all_fit" ["hall","kinds","pairs"] (Z5f ∅ K):=by
  refine Has.of T.O1G O0T (λ _ _ _ _ _ _ us hl=>el3 us hl λ _ _ _=>rfl) (λ vs H Q E h=>?_) (λ f cdv A outer s H vs Q E hr h=>?_)
  · obtain⟨a,l,v,fs,ps,G,D,rfl,_⟩:=h;rfl
  obtain⟨a,l,v,fs,ps,G,D,rfl,hl,hd,r,hp,u,af,q⟩:=h;refine⟨_,(Z0a (qG 3 O0T.nd (qF c hr (qI (pvF 2)))) (Z0a (Z0t (qM J6r (qL T.z_len (qI (pvF 1))) (qL T.z_len (qI (pvF 3)))) (Z0c (Z0h J6q)) Z0n) (Z0c (Z0h (Z1t (J3O rfl) rfl T.z_all J7f (qI (Z1e rfl (BlockOk.of (N:=["one","other","hall"]) (nl:=[none,none,some 0]) (cl:=[("hall",s.heap.objs.size+1)]) rfl qP qP rfl (sub1 rfl) (nm:=["hall"]) rfl qP rfl (λ i hi j g=>by
            match i,hi with
            | 0,_=>cases g
             |1,_=>cases g
             |2,_=>cases g;exact⟨_,rfl,rfl,rfl,.inl rfl⟩
            )) (J7D rfl T.z_zip (qJ (pvF 1) (pvF 3))) (λ C fp s H=>(show PG _ _ (Z5C K 2 _)from Z0v (n:=2) rfl (Z0e (qH 0 (show(["one","other","hall"]:List M2).Nodup by decide+kernel)) (Z0e (qH 1 (show(["one","other","hall"]:List M2).Nodup by decide+kernel)) Z0s)))) (λ C fp s H=>(qF e hr (qK (pvF 2) (pvF 0) (pvF 1))))))))))),?_⟩
  walk_at "r";refine⟨v,ps,rfl,hp,u,λ p H1 h1 m I=>⟨_,.inl (SqL.same r m),p,rfl,_,.inl (SqL.of I),?_⟩⟩;obtain⟨J,L⟩:=af;have S:(fs.map V.str).length=(ps.map λ p=>V.str p.2).length:=by rw[qa1,qa1];exact J
  rw[if_neg (λ z=>z (by rw[S]))];refine⟨p,rfl,⟨_,SqL.same r m⟩,⟨_,SqL.of I⟩,λ D' M=>?_⟩;refine J3X (λ U=>∃X Y,U=[X,Y,some (V.ref a)]) (λ j v _=>v=.bl true) (λ _ _ _ _ h _=>h) ⟨_,_,rfl⟩ M S (by rw[qa1,sizeLine_eq];lia) (λ Z o=>SqL.same r (m.trans o)) (λ Z o=>SqL.of (o _ _ I)) (λ i x y t U hx hy hS Z K' o e2 k=>?_) (λ vs Hc Sc hv lv hR=>?_)
  · obtain⟨X,Y,rfl⟩:=hS;rw[qa8]at hx hy;obtain⟨x,O,rfl⟩:=qc1.mp hx;obtain⟨y,R,rfl⟩:=qc1.mp hy;obtain⟨kx,hf⟩:=L i x y O R;walk_at "r";refine⟨_,SqT.of e2,rfl,⟨_,_,rfl,⟨_,_,rfl,rfl,a,x,y.2,G,D.up,rfl,hl.same (m.trans o),hd.chN kx,λ H3 s3=>?_⟩⟩⟩;rw[hf];exact k _ _ _ ⟨_,_,rfl⟩ s3 rfl
  · have ev:vs=(qb8 fs.length true).map V.bl:=by
      refine qm7 λ j=>?_;rw[qa1]at lv;by_cases g:j<vs.length
      · rw[qa3 g,hR j _ (qa3 g),qa8,List.getElem?_replicate,if_pos qR];rfl
      · rw[qh7 qR,qh7 (by rw[qa1,ql8];lia)]
    rw[ev]at hv;refine⟨D',rfl,_,SqL.of hv,?_⟩;rw[show(qb8 fs.length true).all id=true from qk6.mpr λ b hb=>by rw[List.eq_of_mem_replicate hb];rfl];exact q _ (m.trans Sc)
theorem Z8U(T:nofun)(j:Has P w K mg base 1 "is_house" ["kind"] (Z2f K))(o:Has P w K mg base 1 "need" ["word","holds"] Z4p)(c:HasM P w K mg base 2 Cl "found" ["self","house","word"] (Z3S ∅ K))(g:HasM P w K mg base 4 Cl "head" ["self","house","word"] (Z8z ∅ K))(m:Has P w K mg base 3 "all_fit" ["hall","kinds","pairs"] (Z5f ∅ K)):Has P w K mg base 5 "call_kind" ["hall","kind","word","terms"] (Z4W ∅ K):=by
 walk_at "h O1k O0x 4"
 obtain⟨a,l,k,wd,r,fs,ps,G,D,rfl,hl,hd,x,R,S,U,q⟩:=h;refine⟨_,(Z0a (Z0A (qF o hr (qJ (pvF 2) (Z4A (qF j hr (qI (pvF 1))) (Z4B (Z0W Z4r (Z0D (pvF 0) T.Hall.cl c hr qS (qJ (pvF 1) (pvF 2))) Z0T (Z1R _))))))) (Z0a (Z0Q (Z0D (pvF 0) T.Hall.cl g hr qS (qJ (pvF 1) (pvF 2))) (Z0v (n:=2) rfl (Z0e (qH 4 O0x.nd) (Z0e (qH 5 O0x.nd) Z0s)))) (Z0a (Z0A (qF o hr (qJ (pvF 2) (qF m hr (qK (pvF 0) (pvF 3) (pvF 4)))))) (Z0c (Z0h (pvF 5)))))),?_⟩;walk_at "r";obtain⟨I,J⟩:=hd.ch k x;obtain⟨fr,L,M,f3,X⟩:=hd.fo k x wd;obtain⟨N,io,d,Y,O,_,_,_⟩:=Z0G hl;rw[R]at M;obtain⟨⟨h',i',y⟩,rfl,e⟩:=qc1.mp M.symm;cases e;refine⟨k,rfl,_,rfl,ite2 (λ _=>⟨N,_,O,rfl,a,k,wd,G,D.up k,_,rfl,hl,I,J,L,λ v H1 C r1=>?_⟩) λ z=>absurd (by rw[decide_eq_false (hd.nn k x)];rfl) z⟩;obtain⟨va,xs,rfl,_,_⟩:=RT.tup_inv r1;refine⟨wd,rfl,N,_,C _ _ O,rfl,a,k,wd,G,D.up k,_,rfl,hl.same C,I,J,L,λ v2 H2 Z r2=>?_⟩;obtain⟨b,zs,rfl,hz,p⟩:=RT.tup_inv r2;obtain⟨v1,a0,rfl,g1,p⟩:=p.inv;obtain⟨v3,r3,rfl,g2,p⟩:=p.inv;cases p.nil_inv;cases g2.str_inv;have u:=C.trans Z;refine⟨b,rfl,_,hz,rfl,⟨_,_,rfl,⟨_,_,rfl,rfl,a,l,v1,fs,y.params,G,D,rfl,hl.same u,hd,SqL.same S u,?_,X _ rfl,U,λ H3 s3=>⟨wd,rfl,q _ (u.trans s3)⟩⟩⟩⟩;obtain⟨a1,us,rfl,u1,u2⟩:=RT.tup_inv g1;exact⟨a1,us,rfl,.inl u1,u2⟩
open PK (Own getK bsAt GR GRs)
def BdO(H:Hp)(d:V0)(bs:List (M2×M2)):Prop:=∃a,H d=some (.dK a)/\a.length<=bs.length/\∀x k,getK x bs=some k->valV a (.inr x)=some (.str k)
def OwO(K:X0)(c:CS)(H:Hp)(G:Pg)(v:V)(own:Option M2):Prop:=(own=none/\v=.non)\/∃h X,own=some h/\Look G h X/\HsO K c H v X
inductive J2Y(c:CS)(K:X0)(vs:List V)(H:Hp)(Q:VK):Prop
 |mk(a d l:V0)(hv tv:V)(G:Pg)(D:HD)(own:Option M2)(bs:List (M2×M2))(f:Fm)(lb:Lb)(ps:List Tm)(ks:List M2)(k:M2)(rss:List (List PyData))(n n':Nat)(rows:List PyData)(a1:vs=[.ref a,hv,tv,.ref d,.ref l])(a2:HlO K c H (.ref a) G)(a3:HDOk G D)(a4:OwO K c H G hv own)(a5:TO K c.term H tv (.mk f lb ps))(a6:BdO H d bs)(a7:SqL K H l (ks.map V.str))(a8:Own D own bs f lb ks k rss n rows n')(a9:∀H',Same H H'->Q (.str k) H')
def Z8t(c:CS)(K:X0):Sp:=λ vs H Q _=>J2Y c K vs H Q
theorem J5j(T:nofun)(o:Has P w K mg base 1 "need" ["word","holds"] Z4p)(y:Has P w K mg base 2 "two_kind" ["sign","one","other"] Z6k)(I:Has P w K mg base 4 "if_kind" ["hall","parts"] (Z7Y ∅ K))(J:Has P w K mg base 3 "all_fit" ["hall","kinds","pairs"] (Z5f ∅ K))(j:HasM P w K mg base 2 Cl "fields" ["self","house"] (Z3T ∅ K))(b:Has P w K mg base 4 "field_kind" ["hall","kind","field"] (Z4z ∅ K))(O:Has P w K mg base 2 "fits" ["hall","one","other"] (Z4y ∅ K))(c:Has P w K mg base 5 "call_kind" ["hall","kind","word","terms"] (Z4W ∅ K)):Has P w K mg base 6 "own_kind" ["hall","house","term","bound","parts"] (Z8t ∅ K):=by
 walk_at "h O1u Z8J 5"
 obtain⟨a,d,l,g,tv,G,D,own,bs,f,lb,ps,ks,k,a0,n,n',Z,rfl,hl,hd,ho,ht,hb,m,hw,q⟩:=h;refine⟨_,(Z0a (Z0t (Z0Y (r:=rIn K false) Z0J (qO 2) (Z0i (qJ Z0b Z0b)) (by with_unfolding_all rfl)) (Z0c (Z0h (qO 2))) Z0n) (Z0a (Z0t (qM Z0B (qO 2) Z0b) (Z0c (Z0h (qE hr (pvF 3) (qO 2)))) Z0n) (Z0a (Z0t (qM Z0B (qO 2) Z0b) (Z0c (Z0h (qO 1))) Z0n) (Z0a (Z0t (qM Z0B (qO 2) Z0b) (Z0c (Z0h (qD K (pvF 4) Z0f))) Z0n) (Z0a (Z0t (qM Z0B (qO 2) Z0b) (Z0a (Z0A (qF o hr (qJ Z0b (Z0W (r:=rEqD K) (J1K hr.units) (pvF 4) (Z0o (qI Z0b)) (Z1R _))))) (Z0c (Z0h Z0b))) Z0n) (Z0a (Z0t (qM Z0B (qO 2) Z0b) (Z0c (Z0h (qF y hr (qK (qO 2) (qD K (pvF 4) Z0f) (qD K (pvF 4) Z0f))))) Z0n) (Z0a (Z0t (qM Z0B (qO 2) Z0b) (Z0c (Z0h (qF I hr (qJ (pvF 0) (pvF 4))))) Z0n) (Z0a (Z0t (qM Z0B (qO 2) Z0b) (Z0a (Z0A (qF o hr (qJ (qO 2) (qF J hr (qK (pvF 0) (pvF 4) (Z0D (pvF 0) T.Hall.cl j hr qS (qI (qO 2)))))))) (Z0c (Z0h (qO 2)))) Z0n) (Z0a (Z0t (qM Z0B (qO 2) Z0b) (Z0c (Z0h (qF b hr (qK (pvF 0) (qD K (pvF 4) Z0f) (qO 2))))) Z0n) (Z0a (Z0t (qM Z0B (qO 2) Z0b) (Z0a (Z0A (qF o hr (qJ (qO 2) (qF O hr (qK (pvF 0) (qD K (pvF 4) Z0f) (qF b hr (qK (pvF 0) (qD K (pvF 4) Z0f) (qO 2)))))))) (Z0c (Z0h (qD K (pvF 4) Z0f)))) Z0n) (Z0a (Z0t (qM Z0B (qO 2) Z0b) (Z0c (Z0h (qF c hr (Z0q (pvF 0) (qK (qD K (pvF 4) Z0f) (qO 2) (Z0S (r:=rSlL K) Z2E (pvF 4) (Z1j Z0f) Z1x)))))) Z0n) (Z0c (Z0h (qF c hr (Z0q (pvF 0) (qK (qO 1) (qO 2) (pvF 4))))))))))))))))),?_⟩;cases ht with
 |@mk ta dx d0 sh _ _ _ vs ws h1 h2 h3 h4 h5=>
 refine seq2 λ u C=>?_;walk_at "r";refine⟨Ct,dx,_,h1,T.Term.cl,T.n_Term_form,_,rfl,New.of λ p U hp L e2=>⟨_,.inr (SqT.of e2),rfl,rfl,?_⟩⟩;have h1:=L _ _ h1;have i:∀{Q':VK},Q' (.str f.s) U->Fld K "form" ta U Q':=λ q=>⟨Ct,dx,_,h1,T.Term.cl,T.n_Term_form,_,rfl,q⟩;have rs:∀{Q':VK}{H3:Hp},Same U H3->Q' (lbV lb) H3->Fld K "label" ta H3 Q':=λ s q=>⟨Ct,dx,_,s _ _ h1,T.Term.cl,T.n_Term_label,_,rfl,q⟩;have rl:∀{Q':VK},Q' (lbV lb) U->Fld K "label" ta U Q':=λ q=>rs (Same.refl _) q;have m:=SqL.same m L;have hl:=hl.same L;have Y:=q;have q:=q _ L;have g:∀{Q':VK},Q' (.ref ta) U->Z1P 2 [some (V.ref a),some g,some (V.ref ta),some (V.ref d),some (V.ref l)] U Q':=λ q=>q;cases hw with
 |num=>exact ite2 (λ _=>i q) λ z=>absurd qP z
 |tru=>exact ite2 (λ _=>i q) λ z=>absurd qP z
 |name g1 _=>
  obtain⟨b0,v,_,M⟩:=hb;refine ite2 (λ z=>absurd z qP) λ _=>?_;subst C;refine Z2g g i rfl ?_;walk_at "r";refine rl ⟨_,?_,q⟩;rw[<-M _ _ g1];exact DGet.k (k:=.inr _) (L _ _ v)
 |self e=>
  refine ite2 (λ z=>absurd z qP) λ _=>?_;subst C;repeat refine Z2h g i qP ?_
  rcases ho with⟨R,_⟩|⟨h,X,R,hX,hO⟩
  ·rw[e]at R;cases R
  ·cases e.symm.trans R;cases hO with
   |mk o1 o2 o3 o4=>
    refine Z2g g i rfl ?_;walk_at "r";exact⟨Ch,_,_,L _ _ o1,T.House.cl,T.n_House_name,_,rfl,by rw[hX.2];exact q⟩
 |lt=>
  refine ite2 (λ z=>absurd z qP) λ _=>?_;subst C;repeat refine Z2h g i qP ?_
  refine Z2g g i rfl ?_;walk_at "r";exact⟨_,m,_,ix1,q⟩
 |nt=>
  refine ite2 (λ z=>absurd z qP) λ _=>?_;subst C;repeat refine Z2h g i qP ?_
  refine Z2g g i rfl ?_;walk_at "r";refine New.of λ p3 H3 h3 x e3=>⟨.list [.str "truth"],.lst (SqL.same m x) (.cons (.str _) .nil),_,.lst (SqL.of e3) (.cons (.str _) .nil),qP,qP,⟨"not",?_,Y _ (L.trans x)⟩⟩;rw[show PyData.eqv (.list [.str "truth"]) (.list [.str "truth"])=true by decide+kernel]
 |iff v M N=>
  refine ite2 (λ z=>absurd z qP) λ _=>?_;subst C;repeat refine Z2h g i qP ?_
  refine Z2g g i rfl ?_;walk_at "r";exact⟨a,l,_,_,_,G,D,rfl,hl,hd,m,v,M,N,λ H3 x=>Y _ (L.trans x)⟩
 |new v M N=>
  refine ite2 (λ z=>absurd z qP) λ _=>?_;subst C;repeat refine Z2h g i qP ?_
  refine Z2g g i rfl ?_;walk_at "r";refine rl ?_;obtain⟨dh,io,d',b0,ea,_,_,_⟩:=Z0G hl;obtain⟨c1,c2⟩:=hd.ch _ v;obtain⟨f1,f2⟩:=hd.fl _ v;refine⟨dh,_,ea,rfl,rl ⟨a,_,G,_,_,rfl,hl,c1,c2,f1,f2,λ l4 us H3 h3 x e3 C=>⟨a,l,_,_,_,G,D,rfl,hl.same x,hd,SqL.same m x,⟨_,_,rfl,.inr (SqL.of e3),C⟩,f2,N,λ H4 S=>⟨_,rfl,rs (x.trans S) (Y _ (L.trans (x.trans S)))⟩⟩⟩⟩
 |field v M N=>
  refine ite2 (λ z=>absurd z qP) λ _=>?_;subst C;repeat refine Z2h g i qP ?_
  refine Z2g g i rfl ?_;walk_at "r";exact⟨_,m,_,ix0,rl ⟨a,_,_,_,_,G,D,rfl,hl,hd,v,M,N,λ H3 x=>Y _ (L.trans x)⟩⟩
 |set v M N k4 k5=>
  refine ite2 (λ z=>absurd z qP) λ _=>?_;subst C;repeat refine Z2h g i qP ?_
  refine Z2g g i rfl ?_;walk_at "r";refine rl ⟨_,m,_,ix1,⟨_,m,_,ix0,rl ⟨a,_,_,_,_,G,D,rfl,hl,hd,v,M,N,λ H3 x=>⟨a,_,_,G,D.up,rfl,hl.same x,hd.chN k4,λ H4 S=>?_⟩⟩⟩⟩;rw[k5];exact⟨_,rfl,⟨_,SqL.same m (x.trans S),_,ix1,Y _ (L.trans (x.trans S))⟩⟩
 |call v M N k4=>
  refine ite2 (λ z=>absurd z qP) λ _=>?_;subst C;repeat refine Z2h g i qP ?_
  refine Z2g g i rfl ?_;walk_at "r";exact⟨_,m,_,ix0,rl ⟨_,m,New.of λ p3 H3 h3 x e3=>⟨a,p3,_,_,_,_,_,G,D,rfl,hl.same x,hd,v,M,SqL.of (e3.trans (congrArg (λ z=>some (HO.lst z)) (cut1 _ _))),N,λ H4 S=>Y _ (L.trans (x.trans S))⟩⟩⟩
 |elder v M N k4 k5 k6 k7=>
  refine ite2 (λ z=>absurd z qP) λ _=>?_;subst C;repeat refine Z2h g i qP ?_
  walk_at "r";rcases ho with⟨R,_⟩|⟨h,X,R,hX,hO⟩
  ·rw[v]at R;cases R
  ·cases v.symm.trans R;cases hO with
   |mk o1 o2 o3 o4=>
    have el:=hd.el X hX.1;rw[hX.2,N]at el;refine⟨_,rfl,⟨Ch,_,_,L _ _ o1,T.House.cl,T.n_House_elder,_,rfl,rl ⟨a,l,_,_,_,_,_,G,D,by rw[<-el];rfl,hl,hd,k4,k5,m,k6,λ H4 S=>Y _ (L.trans S)⟩⟩⟩
 |seq=>
  refine ite2 (λ z=>absurd z qP) λ _=>?_;subst C;repeat refine Z2h g i qP ?_
  refine Z2g g i rfl ?_;walk_at "r";exact rl ⟨_,m,_,ix0,⟨_,m,_,ix1,⟨_,_,_,_,rfl,.inl ⟨rfl,rfl⟩,q⟩⟩⟩
 |same v=>
  refine ite2 (λ z=>absurd z qP) λ _=>?_;subst C;repeat refine Z2h g i qP ?_
  refine Z2g g i rfl ?_;walk_at "r";exact rl ⟨_,m,_,ix0,⟨_,m,_,ix1,⟨_,_,_,_,rfl,.inr (.inl ⟨rfl,v,rfl⟩),q⟩⟩⟩
 |less=>
  refine ite2 (λ z=>absurd z qP) λ _=>?_;subst C;repeat refine Z2h g i qP ?_
  refine Z2g g i rfl ?_;walk_at "r";exact rl ⟨_,m,_,ix0,⟨_,m,_,ix1,⟨_,_,_,_,rfl,.inr (.inr ⟨qP,qP,rfl,rfl,rfl⟩),q⟩⟩⟩
 |ari v=>
  refine ite2 (λ z=>absurd z qP) λ _=>?_;subst C;repeat refine Z2h g i qP ?_
  obtain⟨n1,n2,n3⟩:=PK.sign_ne _ v;refine Z2g g i rfl ?_;walk_at "r";exact rl ⟨_,m,_,ix0,⟨_,m,_,ix1,⟨_,_,_,_,rfl,.inr (.inr ⟨n1,n2,rfl,rfl,(if_neg n3).symm⟩),q⟩⟩⟩
def LtOk(f:Fm)(lb:Lb):Prop:=f=.lt->∃x,lb=.str x
inductive Z7U(c:CS)(K:X0)(vs:List V)(H:Hp)(Q:VK):Prop
 |mk(tv:V)(l d:V0)(f:Fm)(lb:Lb)(ps:List Tm)(fs:List M2)(bs:List (M2×M2))(a1:vs=[tv,.ref l,.ref d])(a2:TO K c.term H tv (.mk f lb ps))(a3:LtOk f lb)(a4:SqL K H l (fs.map V.str))(a5:fs.length<=100)(a6:BdO H d bs)(a7:bs.length<=100)(a8:∀e H',Same H H'->BdO H' e (bsAt f lb bs fs)->Q (.ref e) H')
def Z5E(c:CS)(K:X0):Sp:=λ vs H Q _=>Z7U c K vs H Q
theorem BdO.same{d:V0}{bs:List (M2×M2)}(h:BdO H d bs)(s:Same H H'):BdO H' d bs:=let⟨k,a,b,c⟩:=h;⟨k,s _ _ a,b,c⟩
theorem OwO.same{K:X0}{c:CS}{v:V}{own:Option M2}(h:OwO K c H G v own)(s:Same H H'):OwO K c H' G v own:=h.imp id λ⟨h,X,a,b,c⟩=>⟨h,X,a,b,c.same s⟩
theorem J2a(T:nofun):Has P w K mg base 1 "bound_ahead" ["term","firsts","bound"] (Z5E ∅ K):=by
 walk_at "h O0Y O0A 3"
 obtain⟨M,l,d,f,N,ps,fs,bs,rfl,O,R,v,lf,C,S,q⟩:=h;refine⟨_,(Z0a (Z0t (PW.pt (Z8L (qM J6r (qO 0) Z0b) (Z5A (qM (r:=rEqN K) (J1Y hr.units) (pvF 1) (Z0o Z0R))))) (Z0c (Z0h (pvF 2))) Z0n) (Z0a (qG 3 O0A.nd (Z0w J0L rfl T.O1L J2p (qI (pvF 2)))) (Z0a (Z1K (Z2F hr) (pvF 3) (qO 0) (qD K (pvF 1) Z0f) rfl) (Z0c (Z0h (pvF 3)))))),?_⟩;cases O with
 |@mk ta D U sh _ _ _ vs ws G h2 h3 h4 h5=>
 walk_at "r";refine⟨Ct,D,_,G,T.Term.cl,T.n_Term_form,_,rfl,rfl,ite2 (λ u=>?_) λ u=>?_⟩
 ·rw[PK.bsAt_ne (λ z=>u (by rw[z];rfl))]at q;exact q _ _ (Same.refl _) C
 have X:f=.lt:=qe7 λ z=>u (λ e=>PK.s_lt z (V.str.inj e));subst X;obtain⟨x,rfl⟩:=R rfl;obtain⟨a,I,Y,J⟩:=C;refine New.of λ p L hp j Z=>⟨_,SqL.same v j,SqL.of Z,?_⟩;cases fs with
 |nil=>exact q _ _ j ⟨a,j _ _ I,Y,J⟩
 |cons k fs=>
  refine⟨_,j _ _ I,λ n m=>?_⟩;have s3:=Z0r m (.dK a);have e3:upd L n (.dK a) n=some (.dK a):=Z0d;generalize upd L n (.dK a)=H3 at*;have c:=j.trans s3;refine⟨_,SqL.same v c,_,ix0,⟨Ct,D,_,c _ _ G,T.Term.cl,T.n_Term_label,_,rfl,⟨_,DPut.k (k:=.inr x) e3 (by rw[sizeLine_eq];lia),?_⟩⟩⟩;refine q n _ (λ b o e=>?_) ⟨_,Z0d,?_,λ y ky g=>?_⟩
  ·rw[Z0k (nq (j.free m) e)];exact c _ _ e
  ·show _<=(bs++[(x,k)]).length;rw[qa2];have:(putK a (Sum.inr x) (V.str k)).length<=a.length+1:=by
    unfold putK;split
    ·rw[qa1];lia
    ·rw[qa2];exact qa0 _
   show _<=bs.length+1;lia
  ·have g:PK.getK y (bs++[(x,k)])=some ky:=g;rw[PK.getK_snoc]at g;rw[Z4N];by_cases e:x=y
   ·rw[if_pos e]at g;rw[if_pos (by rw[e])];cases g;rfl
   ·rw[if_neg e]at g;rw[if_neg (λ z=>e (Sum.inr.inj z).symm)];exact J y ky g
inductive TKI(K:X0)(D:HD)(own:Option M2)(f:Fm)(lb:Lb)(bs:List (M2×M2))(ps:List Tm)(ks kss:List M2)(rss:List (List PyData))(n1:Nat)(H0 H3:Hp)(lp l1 l2:V0)(us:List V)(σ0:List (Option V)->St)(i:Nat)(σ:St)(H':Hp):Prop
 |mk(fs:_)(dn:_)(ks2:_)(kss2:_)(rss2:_)(m:_)(os:_)(a1:Same H0 H')(a2:(∀b o,b≠l1->b≠l2->H3 b=some o->H' b=some o))(a3:H' lp=some (.lst us))(a4:H' l1=some (.lst (fs.map V.str)))(a5:H' l2=some (.lst (dn.map V.str)))(a6:GRs D own f lb bs fs m (ps.drop i) ks2 kss2 rss2 n1)(a7:ks=fs++ks2)(a8:kss=dn++kss2)(a9:os.length=2)(a10:σ=σ0 os)
inductive Z9k(c:CS)(K:X0)(N:Nat)(vs:List V)(H:Hp)(Q:VK):Prop
 |mk(a d:V0)(hv tv:V)(G:Pg)(D:HD)(own:Option M2)(bs:List (M2×M2))(t:Tm)(ks:List M2)(n n':Nat)(rows:List PyData)(a1:vs=[.ref a,hv,tv,.ref d])(a2:HlO K c H (.ref a) G)(a3:HDOk G D)(a4:OwO K c H G hv own)(a5:TO K c.term H tv t)(a6:BdO H d bs)(a7:bs.length+N<=100)(a8:GR D own bs n t ks rows n')(a9:t.depth<=N)(a10:t.size<=20000)(a11:∀l H',H l=none->Same H H'->H' l=some (.lst (ks.map V.str))->Q (.ref l) H')
def Z4L(c:CS)(K:X0)(N:Nat):Sp:=λ vs H Q _=>Z9k c K N vs H Q
variable{N:Nat}
theorem J4i(T:nofun)(g:Has P w K mg base (N+7) "term_kinds" ["hall","house","term","bound"] (Z4L ∅ K N))(c:Has P w K mg base 1 "bound_ahead" ["term","firsts","bound"] (Z5E ∅ K))(u:Has P w K mg base 6 "own_kind" ["hall","house","term","bound","parts"] (Z8t ∅ K))(j:HasM P w K mg base 1 Ct "parts" ["self"] (Z2j Ct K)):Has P w K mg base (N+8) "term_kinds" ["hall","house","term","bound"] (Z4L ∅ K (N+1)):=by
 walk_at "h O0I O0i 4"
 obtain⟨a,d,hv,tv,G,D,own,bs,t,ks,n,n',R,rfl,hl,hd,ho,ht,hb,A0,S,n0,d0,q⟩:=h;refine⟨_,(Z0a (qG 4 O0i.nd (Z0o Z0R)) (Z0a (qG 5 O0i.nd (Z0o Z0R)) (Z0a (Z1o PassesOwn.never rfl (Z1b (Z1a (pvF 2) T.Term.cl j hr qS)) (qH 6 O0i.nd) (Z0a (qG 7 O0i.nd (qF g hr (Z0q (pvF 0) (qK (pvF 1) (pvF 6) (qF c hr (qK (pvF 2) (pvF 4) (pvF 3))))))) (Z0a (Z0A (Z1B qb5 qd2 qd3 Z0F (pvF 4) (qI (qD K (pvF 7) Z0f)))) (Z0c (Z0A (Z1B qb5 qj5 qj6 Z5n (pvF 5) (qI (pvF 7)))))))) (Z0c (Z0h (Z0j Z0y (Z0o (qI (qF u hr (Z0q (pvF 0) (Z0q (pvF 1) (qK (pvF 2) (pvF 3) (pvF 4))))))) (pvF 5))))))),?_⟩;walk_at "s 4 z";refine New.of λ l1 H1 h1 s1 e1=>?_;walk_at "n z1";refine New.of λ l2 H2 h2 s2 e2=>?_;walk_at "n z2";cases S with
 |@mk _ _ f lb ps ks e0 U n1 k _ _ hs hw h8=>
 have X:=ht;cases ht with
 |@mk ta dx B0 sh _ _ _ vs ws t1 t2 t3 t4 t5=>
 have Y:=s1.trans s2;refine⟨ta,rfl,dx,_,Y _ _ t1,rfl,⟨_,_,rfl,X.kp (Kp.of Y),λ Z us h3 f0=>?_⟩⟩;have M:=Z0r h3 (.lst us);have e3:upd H2 Z (.lst us) Z=some (.lst us):=Z0d;generalize upd H2 Z (.lst us)=H3 at*;have o0:=Y.trans M;have kl:=hs.len;have g0:l1≠l2:=λ z=>by rw[<-z,e1]at h2;cases h2
 have p0:Z≠l1:=nq (s2 _ _ e1) h3;have q0:Z≠l2:=nq e2 h3;refine⟨Z,rfl,⟨_,SqL.of e3⟩,Z1p us (TKI K D own f lb bs ps ks e0 U n1 H H3 Z l1 l2 us λ os=>some (V.ref a)::some hv::some (V.ref ta)::some (V.ref d)::some (V.ref l1)::some (V.ref l2)::os) ⟨[],[],ks,e0,U,n,[none,none],o0,(λ _ _ _ _ h=>h),e3,M _ _ (s2 _ _ e1),M _ _ e2,hs,rfl,rfl,rfl,rfl⟩ (λ i σ H' _ h=>?_) (λ i y σ H' hy h=>?_) (λ σ H' h=>?_)⟩
 ·obtain⟨_,_,_,_,_,_,_,_,_,ep,_⟩:=h;exact SqL.of ep
 ·obtain⟨fs,dn,s0,h0,i0,m,os,J,sK,ep,el1,el2,S,I,v,a0,rfl⟩:=h;obtain⟨o6,o7,rfl⟩:=ln2 a0;obtain⟨p,hp,t0⟩:=TOs.at (ts:=ps) f0 hy;have u0:=(qa6.mp hp).1;have v0:ps.drop i=p::ps.drop (i+1):=by rw[qf6 u0,(qa6.mp hp).2]
  rw[v0]at S;cases S with
  |@cons _ _ _ _ _ _ _ k1 b0 w0 j0 r1 k0 m2 _ g1 g2=>
  have kJ:Kp H3 H':=⟨λ b xs e=>sK _ _ (nq (M _ _ (s2 _ _ e1)) e) (nq (M _ _ e2) e) e,λ b o xs e=>sK _ _ (nq (M _ _ (s2 _ _ e1)) e) (nq (M _ _ e2) e) e,λ b C dx f fs e=>sK _ _ (nq (M _ _ (s2 _ _ e1)) e) (nq (M _ _ e2) e) e⟩;have pm:=qb4 hp;have d1:=PK.maxD_mem pm;have z1:=PK.sumS_mem pm;have d2:1+maxD ps<=N+1:=n0;have z2:1+sumS ps<=20000:=d0;have b1:=PK.bsAt_len (f:=f) (l:=lb) (bs:=bs) (fs:=fs);have fl:fs.length<=8:=by have:=congrArg qd9 I;rw[qa2]at this;lia
  walk_at "r";refine⟨.ref ta,l1,d,f,lb,ps,fs,bs,rfl,X.kp (Kp.of J),hw.lt1,SqL.of el1,qR,hb.same J,qR,λ e H4 O x0=>⟨a,e,hv,y,G,D,own,_,p,_,_,_,_,rfl,hl.same (J.trans O),hd,ho.same (J.trans O),(t0.kp (Kp.of M)).kp (kJ.trans (Kp.of O)),x0,qR,g1,qR,qR,λ l5 H5 h5 s5 e5=>?_⟩⟩;have L:=O.trans s5;have q1:=L _ _ el1;have q2:=L _ _ el2;have nm:fs.length+1<=8:=by have:=congrArg qd9 I;rw[qa2,qb2]at this;lia
  have nd:dn.length+(k1::b0).length<=20000:=by have:=congrArg qd9 v;rw[qa2,qa2]at this;have:=hs.size;lia
  have n5:∀{x:V0}{o:HO},H' x=some o->x≠l5:=λ e z=>by rw[z]at e;rw[O _ _ e]at h5;cases h5
  refine⟨.inl ⟨rfl,_,SqL.of q1⟩,l5,rfl,⟨_,SqL.of e5,_,ix0,⟨_,q1,by rw[qa1];lia,?_⟩⟩⟩;have u2:upd H5 l1 (.lst (fs.map V.str++[V.str k1])) l2=some (.lst (dn.map V.str)):=by rw[Z0k g0.symm];exact q2
  have u5:upd H5 l1 (.lst (fs.map V.str++[V.str k1])) l5=some (.lst ((k1::b0).map V.str)):=by rw[Z0k (n5 el1).symm];exact e5
  have y0:H l1=none:=h1;have z0:H l2=none:=s1.free h2;refine⟨.inl ⟨rfl,_,SqL.of u2⟩,l5,rfl,_,u2,_,u5,by rw[qa1,qa1];lia,fs++[k1],dn++(k1::b0),w0,j0,k0,m2,[some y,some (V.ref l5)],λ b o e=>?_,λ b o l0 m0 e=>?_,?_,?_,?_,g2,?_,?_,rfl,rfl⟩
  ·rw[Z0k (nq z0 e),Z0k (nq y0 e)];exact L _ _ (J _ _ e)
  ·rw[Z0k m0,Z0k l0];exact L _ _ (sK _ _ l0 m0 e)
  ·rw[Z0k q0,Z0k p0];exact L _ _ ep
  ·rw[Z0k g0,Z0d,qb6];rfl
  ·rw[Z0d,qb6]
  ·rw[I,qb9];rfl
  ·rw[v,qb9]
 ·obtain⟨fs,dn,s0,h0,i0,m,os,J,sK,ep,el1,el2,S,I,v,a0,rfl⟩:=h;obtain⟨o6,o7,rfl⟩:=ln2 a0;have lu:us.length=ps.length:=TOs.length (ts:=ps) f0;rw[lu,ql3]at S;cases S;rw[qc8]at I v;subst I v;show uz3 _ _ _;walk_at "n z3";have zk:=hs.size;have z2:1+sumS ps<=20000:=d0;refine⟨a,d,l1,hv,.ref ta,G,D,own,bs,f,lb,ps,_,k,U,n1,n',R,rfl,hl.same J,hd,ho.same J,X.kp (Kp.of J),hb.same J,SqL.of el1,hw,λ H4 O=>New.of λ p H5 h5 s5 e5=>⟨_,e5,_,s5 _ _ (O _ _ el2),by rw[qa1];show 1+_<=_;lia,New.of λ p6 H6 h6 s6 e6=>q p6 H6 ?_ (J.trans (O.trans (s5.trans s6))) e6⟩⟩;exact(J.trans (O.trans s5)).free h6
theorem Z7l(T:nofun)(b:Has P w K mg base 1 "bound_ahead" ["term","firsts","bound"] (Z5E ∅ K))(e:Has P w K mg base 6 "own_kind" ["hall","house","term","bound","parts"] (Z8t ∅ K))(c:HasM P w K mg base 1 Ct "parts" ["self"] (Z2j Ct K)):∀N,Has P w K mg base (N+7) "term_kinds" ["hall","house","term","bound"] (Z4L ∅ K N)
 |0=>Has.of T.O0I O0i (λ _ _ _ _ _ _ us hl=>el4 us hl λ _ _ _ _=>rfl) (λ vs H Q E h=>by obtain⟨a,d,j,m,G,D,own,bs,t,ks,n,o,g,rfl,_⟩:=h;rfl) (λ f cdv A outer s H vs Q E hr h=>by
  obtain⟨a,d,j,m,G,D,own,bs,⟨u,v,ps⟩,ks,n,o,g,rfl,hl,hd,x,y,z,p,C,i,r,q⟩:=h;have:1+maxD ps<=0:=i;lia)
 |N+1=>J4i T (Z7l T b e c N) b e c
theorem J4z{bs:List (M2×M2)}:∀i,i<=bs.length->∀x,valV (absD (λ j=>.inr ((bs.map Prod.fst).getD j "")) (λ j=>(bs.map λ p=>V.str p.2).getD j .non) i) (.inr x)=(getK x (bs.take i)).map V.str
 |0,_,x=>rfl
 |i+1,h,x=>by
  have a:i<bs.length:=h;show valV (putK (absD _ _ i) (.inr ((bs.map Prod.fst).getD i "")) ((bs.map λ p=>V.str p.2).getD i .non)) (.inr x)=_;rw[Z4N,J4z i (qf3 a) x,qd4,qa3 a];have b:(bs.map Prod.fst).getD i ""=bs[i].1:=by rw[qc5,qa8,qa3 a];rfl
  have c:(bs.map λ p=>V.str p.2).getD i .non=V.str bs[i].2:=by rw[qc5,qa8,qa3 a];rfl
  rw[b,c,show(some bs[i]).toList=[(bs[i].1,bs[i].2)]from rfl,PK.getK_snoc];by_cases z:bs[i].1=x
  ·rw[if_pos z,if_pos (by rw[z])];rfl
  ·rw[if_neg z,if_neg (λ y=>z (Sum.inr.inj y).symm)]
theorem J4h{bs:List (M2×M2)}{d:V0}(h:H d=some (.dK (Z5g (bs.map Prod.fst) (bs.map λ p=>V.str p.2)))):BdO H d bs:=
 ⟨_,h,by have:=Z6w (λ j=>.inr ((bs.map Prod.fst).getD j "")) (λ j=>(bs.map λ p=>V.str p.2).getD j .non) (bs.map Prod.fst).length;rw[qa1]at this;show(absD _ _ (bs.map Prod.fst).length).length<=_;rw[qa1];exact this,λ x k e=>by
  show valV (absD _ _ (bs.map Prod.fst).length) _=_;rw[qa1,J4z _ (qa0 _),qd1,e];rfl⟩
inductive Z9g(c:CS)(K:X0)(N:Nat)(vs:List V)(H:Hp)(Q:VK):Prop
 |mk(a:V0)(hv wv:V)(G:Pg)(D:HD)(own:Option M2)(d:Wd)(k:M2)(ks:List M2)(n n':Nat)(rows:List PyData)(a1:vs=[.ref a,hv,wv])(a2:HlO K c H (.ref a) G)(a3:HDOk G D)(a4:OwO K c H G hv own)(a5:WdO K c H wv d)(a6:d.params.length+N<=100)(a7:GR D own d.params n d.body (k::ks) rows n')(a8:d.body.depth<=N)(a9:d.body.size<=20000)(a10:KN D k)(a11:fitP D.up k d.kind=true)(a12:∀l H',H l=none->Same H H'->H' l=some (.lst ((k::ks).map V.str))->Q (.ref l) H')
def J0h(c:CS)(K:X0)(N:Nat):Sp:=λ vs H Q _=>Z9g c K N vs H Q
theorem J2d{K:X0}:∀ps:List (M2×M2),RdDs K H (ps.map λ p=>V.str p.2) (ps.map λ p=>PyData.str p.2)
 |[]=>.nil
 |p::ps=>.cons (.str _) (J2d ps)
inductive J4C(c:CS)(K:X0)(vs:List V)(H:Hp)(Q:VK):Prop
 |mk(a:V0)(hv wv:V)(G:Pg)(D:HD)(X:Hs)(d:Wd)(a1:vs=[.ref a,hv,wv])(a2:HlO K c H (.ref a) G)(a3:HDOk G D)(a4:HsO K c H hv X)(a5:WdO K c H wv d)(a6:d.params.length<=100)(a7:(∀e,X.elder=some e->e∈D.nm/\∀ps k,D.hd e d.name=some (ps,k)->ps.map Prod.snd=d.params.map Prod.snd/\(∀p∈ps,P23.SOk p.2)/\fitP D.up d.kind k=true/\KN D d.kind))(a8:∀H',Same H H'->Q .non H')
def J4R(c:CS)(K:X0):Sp:=λ vs H Q _=>J4C c K vs H Q
theorem J3l(T:nofun)(c:Has P w K mg base (N+7) "term_kinds" ["hall","house","term","bound"] (Z4L ∅ K N))(g:Has P w K mg base 2 "fits" ["hall","one","other"] (Z4y ∅ K)):Has P w K mg base (N+8) "body_kinds" ["hall","house","word"] (J0h ∅ K N):=by
 walk_at "h O1c O0D 3"
 obtain⟨a,L,U,G,D,own,d,k,ks,n,M,j,rfl,hl,hd,X,Y,u,Z,v,x,kn,hf,q⟩:=h;refine⟨_,(Z0a (qG 3 O0D.nd (qF c hr (Z0q (pvF 0) (qK (pvF 1) (qO 2) (Z0w (r:=J2u K) (J0w rfl) rfl T.O1L J2p (qI (qO 2))))))) (Z0a (Z0t (Z4T (Z4G (qF g hr (qK (pvF 0) (qD K (pvF 3) Z0f) (qO 2))))) (Z0c Z6O) Z0n) (Z0c (Z0h (pvF 3))))),?_⟩;cases Y with
 |@mk wa y pt bv _ z w2 w3=>
 walk_at "r";obtain⟨_,us,e,u1,O⟩:=RT.tup_inv w2;cases e;refine⟨Cw,y,_,z,T.Word.cl,T.n_Word_body,_,rfl,⟨Cw,y,_,z,T.Word.cl,T.n_Word_params,_,rfl,pt,rfl,us,u1,d.params.map Prod.fst,by rw[O.length,qa1,qa1],d.params.map λ p=>V.str p.2,λ i t ht=>?_,λ o C=>?_⟩⟩
 ·obtain⟨b,t',v1,v2,rfl,I,hz,rfl,rfl⟩:=Z5J O ht;refine⟨b,rfl,?_⟩;rw[qc5,qc5,qa8,qa8,I];exact hz
 have m:=Z0r C (.dK (Z5g (d.params.map Prod.fst) (d.params.map λ p=>V.str p.2)));have e1:upd H o (.dK (Z5g (d.params.map Prod.fst) (d.params.map λ p=>V.str p.2))) o=some _:=Z0d;generalize upd H o (.dK (Z5g (d.params.map Prod.fst) (d.params.map λ p=>V.str p.2)))=H1 at*;refine⟨a,o,L,bv,G,D,own,d.params,d.body,_,n,M,j,rfl,hl.same m,hd,X.same m,w3.kp (Kp.of m),J4h e1,u,Z,v,x,λ l H2 h2 J R=>⟨l,rfl,⟨_,SqL.of R,_,ix0,⟨Cw,y,_,J _ _ (m _ _ z),T.Word.cl,T.n_Word_kind,_,rfl,⟨a,k,d.kind,G,D.up,rfl,hl.same (m.trans J),hd.chN kn,λ H3 S=>⟨_,rfl,?_⟩⟩⟩⟩⟩⟩;rw[hf,if_neg Bool.noConfusion];exact q l H3 (m.free h2) (m.trans (J.trans S)) (S _ _ R)
theorem J7S(T:nofun)(g:HasM P w K mg base 4 Cl "head" ["self","house","word"] (Z8z ∅ K))(c:Has P w K mg base 1 "kinds_in" ["pairs"] (Z4v K))(m:Has P w K mg base 2 "fits" ["hall","one","other"] (Z4y ∅ K)):Has P w K mg base 5 "need_like_elders" ["hall","house","word"] (J4R ∅ K):=by
 walk_at "h O0F O0f 3"
 obtain⟨a,hv,wv,G,D,X,d,rfl,hl,hd,hh,hw,J,he,q⟩:=h;refine⟨_,(Z0a (Z0t (qM Z6l (qO 1) Z0T) (Z0c J2l) Z0n) (Z0a (qG 3 O0f.nd (Z0D (pvF 0) T.Hall.cl g hr qS (qJ (qO 1) (qO 2)))) (Z0a (Z0t (qM Z6l (pvF 3) Z0T) (Z0c J2l) Z0n) (Z0a (Z0Q (pvF 3) (Z0v (n:=2) rfl (Z0e (qH 4 O0f.nd) (Z0e (qH 5 O0f.nd) Z0s)))) (Z0c (Z0t (PW.pt (Z8L (qM (r:=rNeD K) (J7w hr.units) (qF c hr (qI (pvF 4))) (qF c hr (qI (qO 2)))) (Z5A (Z4T (Z4G (qF m hr (qK (pvF 0) (qO 2) (pvF 5)))))))) (Z0c Z6O) Z0n)))))),?_⟩;have a0:=hw;cases hw with
 |@mk wa L pt bv _ M w2 w3=>
 cases hh with
 |@mk ha N ft wt ws _ y1 y2 y3 y4=>
 walk_at "r";have y:=λ{O:Hp} (s:Same H O) {Q':VK} (z:Q' (oS X.elder) O)=>(⟨Ch,N,_,s _ _ y1,T.House.cl,T.n_House_elder,_,rfl,z⟩:Fld K "elder" ha O Q');refine y (Same.refl _) (ite2 (λ _=>q _ (Same.refl _)) λ ne=>?_);cases R:X.elder with
 |none=>rw[R]at ne;exact absurd rfl ne
 |some e=>
 obtain⟨en,hk⟩:=he e R;obtain⟨c1,c2⟩:=hd.ch e en;obtain⟨fr,f1,f2,f3,f4⟩:=hd.fo e en d.name;obtain⟨dx,io,dd,b0,ea,_,_,_⟩:=Z0G hl;refine⟨dx,_,ea,rfl,y (Same.refl _) ⟨Cw,L,_,M,T.Word.cl,T.n_Word_name,_,rfl,⟨a,e,d.name,G,D.up e,fr,by rw[R];rfl,hl,c1,c2,f1,λ v H1 C r1=>?_⟩⟩⟩;cases fr with
 |none=>
  cases r1;exact ite2 (λ _=>q _ C) λ z=>absurd rfl z
 |some fr=>
 obtain⟨h',i',u⟩:=fr;obtain⟨k1,k2,k3,k4⟩:=hk _ _ f2;obtain⟨b,zs,rfl,hz,j⟩:=RT.tup_inv r1;obtain⟨v1,d0,rfl,g1,j⟩:=j.inv;obtain⟨v3,r3,rfl,g2,j⟩:=j.inv;cases j.nil_inv;cases g2.str_inv;obtain⟨a1,us,rfl,u1,u2⟩:=RT.tup_inv g1;obtain⟨_,S,e',U,Y⟩:=RT.tup_inv w2;cases e';refine ite2 (λ z=>by cases z) λ _=>⟨b,rfl,_,hz,rfl,⟨_,_,rfl,⟨_,_,rfl,rfl,⟨_,u.params,rfl,⟨a1,us,rfl,.inl u1,u2⟩,f4 _ rfl,λ l1 H2 h2 I e2=>⟨Cw,L,_,I _ _ (C _ _ M),T.Word.cl,T.n_Word_params,_,rfl,⟨_,d.params,rfl,⟨pt,S,rfl,.inl (SqT.same U (C.trans I)),RTs.same Y (C.trans I)⟩,J,λ l2 H3 h3 s3 e3=>?_⟩⟩⟩⟩⟩⟩;have Z:Lay 1 (.list (u.params.map λ p=>PyData.str p.2)):=Lay.lst (LayL.of λ x N=>by
  obtain⟨p,hp,rfl⟩:=qe0.mp N;exact Lay.str (k2 p hp))
 have em:(d.params.map λ p=>V.str p.2)=u.params.map λ p=>V.str p.2:=by
  have:=congrArg (List.map V.str) k1;rw[qc7,qc7]at this;exact this.symm
 rw[em]at e3;have rd:∀{x:V0},H3 x=some (.lst (u.params.map λ p=>V.str p.2))->RdD K H3 (.ref x) (.list (u.params.map λ p=>PyData.str p.2)):=λ h=>.lst (SqL.of h) (J2d _);refine⟨_,rd (s3 _ _ e2),_,rd e3,Z.shaped qS,Z.shaped qS,?_⟩;rw[Z.eqv,if_neg Bool.noConfusion];have o:=C.trans (I.trans s3);refine⟨Cw,L,_,o _ _ M,T.Word.cl,T.n_Word_kind,_,rfl,⟨a,d.kind,u.kind,G,D.up,rfl,hl.same o,hd.chN k4,λ H4 s4=>⟨_,rfl,?_⟩⟩⟩;rw[k3,if_neg Bool.noConfusion];exact q _ (o.trans s4)
structure J1z(D:HD)(N:Nat)(own:Option M2)(d:Wd)(ks:List M2):Prop where
 pl:d.params.length+N<=100
 g:∃n rows n',GR D own d.params n d.body ks rows n'
 dp:d.body.depth<=N
 sz:d.body.size<=20000
 k:∃k r,ks=k::r/\KN D k/\fitP D.up k d.kind=true
def J7h(D:HD)(X:Hs)(d:Wd):Prop:=∀e,X.elder=some e->e∈D.nm/\∀ps k,D.hd e d.name=some (ps,k)->ps.map Prod.snd=d.params.map Prod.snd/\(∀p∈ps,P23.SOk p.2)/\fitP D.up d.kind k=true/\KN D d.kind
def KfOk(D:HD)(N:Nat)(G:Pg)(kf:Option M2->Wd->List M2):Prop:=(∀X∈G.houses,∀w∈X.words,J1z D N (some X.name) w (kf (some X.name) w)/\J7h D X w)/\J1z D N none G.main (kf none G.main)
def kfs(kf:Option M2->Wd->List M2)(X:Hs):List (List M2):=X.words.map (kf (some X.name))
def KLs(H0 H:Hp)(l:V0)(us:List V)(kss:List (List M2)):Prop:=A2 (λ v ks=>∃a,v=V.ref a/\H0 a=none/\a≠l/\H a=some (.lst (ks.map V.str))) us kss
inductive Z5R(c:CS)(K:X0)(N:Nat)(vs:List V)(H:Hp)(Q:VK):Prop
 |mk(pp:V)(G:Pg)(D:HD)(kf:Option M2->Wd->List M2)(a1:vs=[pp])(a2:PgO K c H pp G)(a3:GOk G)(a4:G.houses.length<=100)(a5:HDOk G D)(a6:KfOk D N G kf)(a7:∀l us H',H l=none->Same H H'->H' l=some (.lst us)->KLs H H' l us ((G.houses.map (kfs kf)).flatten++[kf none G.main])->Q (.ref l) H')
def Z6d(c:CS)(K:X0)(N:Nat):Sp:=λ vs H Q _=>Z5R c K N vs H Q
theorem KLs.snoc{c H H':Hp}{l a:V0}{us:List V}{b:List (List M2)}{ks:List M2}(h:KLs c H l us b)(s:SX l H H')(i:c a=none)(n:a≠l)(e:H' a=some (.lst (ks.map V.str))):KLs c H' l (us++[.ref a]) (b++[ks]):=
 A2.snoc (A2.mono h λ v ks ⟨a,j,m,g,o⟩=>⟨a,j,m,g,s _ _ g o⟩) ⟨a,rfl,i,n,e⟩
inductive KOI(H0 H2:Hp)(l:V0)(ksf:Nat->List (List M2))(σ0:List (Option V)->St)(m:Nat)(i:Nat)(σ:St)(H':Hp):Prop
 |mk(us:_)(os:_)(a1:SX l H2 H')(a2:H' l=some (.lst us))(a3:KLs H0 H' l us (ksf i))(a4:os.length=m)(a5:σ=σ0 os)
theorem J1y{kf:Option M2->Wd->List M2}(ok:GOk G)(h:G.houses.length<=100)(i:Nat):(((G.houses.take i).map (kfs kf)).flatten).length<=10000:=by
 have go:∀hs:List Hs,(∀X∈hs,X.words.length<=100)->((hs.map (kfs kf)).flatten).length<=100*hs.length:=λ hs=>by
  induction hs with
  |nil=>exact λ _=>qa0 _
  |cons X hs b=>
   intro a;rw[qb7,qd5,qa2];have g:=b λ Y c=>a Y (qc4 _ c);have j:=a X qc2;have:(kfs kf X).length=X.words.length:=qa1 _;rw[qb2];lia
 have:=go (G.houses.take i) λ X e=>(ok.hs X (qn2 e)).wl;rw[qd0]at this;have:min i G.houses.length<=100:=by lia
 lia
theorem J0C(T:nofun)(m:HasM P w K mg base 1 Cl "__init__" ["self","program"] (Z6F ∅ K))(a:Has P w K mg base 5 "need_like_elders" ["hall","house","word"] (J4R ∅ K))(g:Has P w K mg base (N+8) "body_kinds" ["hall","house","word"] (J0h ∅ K N)):Has P w K mg base (N+9) "kinds_of" ["program"] (Z6d ∅ K N):=by
 walk_at "h O1s O0r 1"
 obtain⟨pp,G,D,kf,rfl,hp,ok,J,hd,hk,q⟩:=h;obtain⟨pa,e0,ht,hs,mv,rfl,ha,hq,hh,hm⟩:=Z4P hp;refine⟨_,(Z0a (qG 1 O0r.nd (Z5e T.Hall m hr qS rfl (qI (pvF 0)))) (Z0a (qG 2 O0r.nd (Z0o Z0R)) (Z0a (Z1o PassesOwn.never rfl (Z1J (qO 0)) (qH 3 O0r.nd) (Z0c (Z1o PassesOwn.never rfl (Z1J (qO 3)) (qH 4 O0r.nd) (Z0a (Z0A (qF a hr (qK (pvF 1) (pvF 3) (pvF 4)))) (Z0c (Z0A (Z1B qb5 qd2 qd3 Z0F (pvF 2) (qI (qF g hr (qK (pvF 1) (pvF 3) (pvF 4))))))))))) (Z0a (Z0A (Z1B qb5 qd2 qd3 Z0F (pvF 2) (qI (qF g hr (qK (pvF 1) Z0T (qO 0)))))) (Z0c (Z0h (pvF 2))))))),?_⟩;walk_at "s 5 z";intro x dx n1 n2 ne;have s1:=Z2H (C:=Cl) n1 n2 ne;refine⟨x,dx,.ref pa,G,rfl,Z0d,hp.same s1,ok,J,λ H1 m0 f0 s0=>⟨rfl,?_⟩⟩;have g0:Same H H1:=Z3D s1 m0 n1;walk_at "n z1";refine New.of λ l2 H2 h2 s2 e2=>?_;walk_at "n z2";have p:=g0.trans s2;have h0:H l2=none:=g0.free h2;refine⟨Cp,e0,_,p _ _ ha,T.Program.cl,T.n_Program_all_houses,.ref ht,rfl,ht,rfl,⟨_,SqT.same hq p⟩,?_⟩;refine Z2L hs (KOI H H2 l2 (λ i=>((G.houses.take i).map (kfs kf)).flatten) (λ M=>some (.ref pa)::some (.ref x)::some (.ref l2)::M) 2) ⟨[],[none,none],λ _ _ _ h=>h,e2,.nil,rfl,rfl⟩ (λ i σ H' _ h=>?_) (λ i y σ H' hy h=>?_) (λ σ H' h=>?_)
 ·obtain⟨us,M,sx,_⟩:=h;exact SqT.kp (SqT.same hq p) (SX.kpl sx e2)
 ·obtain⟨us,M,sx,U,hu,v,rfl⟩:=h;obtain⟨o3,o4,rfl⟩:=ln2 v;obtain⟨X,hX,ho⟩:=hh.at hy;have a0:=qb4 hX;have O:=SX.kpl sx e2;have ho:=HsO.kp (ho.same p) O;have n0:=ho;cases ho with
  |@mk b bx ft wt ws _ f1 f2 f3 f4=>
  have b0:=HlO.kpx (f0.same s2) sx e2;have q0:(((G.houses.take i).map (kfs kf)).flatten).length<=10000:=J1y ok J i;have lw:ws.length=X.words.length:=f4.len;have o0:=ok.hs X a0;have t0:=o0.wl;walk_at "r";refine⟨Ch,bx,_,f1,T.House.cl,T.n_House_own_words,_,rfl,wt,rfl,⟨_,f3⟩,?_⟩;refine Z2L ws (KOI H H' l2 (λ j=>((G.houses.take i).map (kfs kf)).flatten++(X.words.take j).map (kf (some X.name))) (λ M=>some (.ref pa)::some (.ref x)::some (.ref l2)::some (.ref b)::M) 1) ⟨us,[o4],λ _ _ _ h=>h,U,by show KLs _ _ _ _ (_++(X.words.take 0).map _);rw[List.take_zero,qi7,qc8];exact hu,rfl,rfl⟩ (λ j σ H3 _ h=>?_) (λ j y σ H3 hy h=>?_) (λ σ H3 h=>?_)
  ·obtain⟨us3,M,u,_⟩:=h;exact SqT.kp f3 (SX.kpl u U)
  ·obtain⟨us3,M,u,el3,z,v,rfl⟩:=h;obtain⟨o4,rfl⟩:=ln1 v;obtain⟨d,i0,R⟩:=f4.at hy;have p0:=qb4 i0;have j0:=SX.kpl u U;have R:=WdO.kp R j0;have k0:=HlO.kpx b0 u U;have l0:=HsO.kp n0 j0;obtain⟨⟨b1,⟨n,L,n',b2⟩,b3,b4,k,r,b5,b6,b7⟩,lk⟩:=hk.1 X a0 d p0;have u0:us3.length<=10100:=by
    rw[z.len,qa2,qa1,qd0];lia
   rw[b5]at b2;walk_at "r";refine⟨x,.ref b,y,G,D,X,d,rfl,k0,hd,l0,R,qR,lk,λ H4 S=>⟨.inl ⟨rfl,_,SqL.of (S _ _ el3)⟩,⟨x,.ref b,y,G,D,some X.name,d,k,r,n,n',L,rfl,k0.same S,hd,.inr ⟨X.name,X,rfl,⟨a0,rfl⟩,l0.same S⟩,WdO.same R S,b1,b2,b3,b4,b6,b7,λ Y H5 h5 s5 e5=>?_⟩⟩⟩;have Z:Y≠l2:=nq (S _ _ el3) h5;have d0:H Y=none:=by
    cases e:H Y with
    |none=>rfl
    |some o=>rw[S _ _ (u _ _ Z (sx _ _ Z (p _ _ e)))]at h5;cases h5
   refine⟨_,s5 _ _ (S _ _ el3),qR,us3++[.ref Y],[some y],λ c o I e=>?_,Z0d,?_,rfl,rfl⟩
   ·rw[Z0k I];exact s5 _ _ (S _ _ (u _ _ I e))
   ·show KLs _ _ _ _ (_++(X.words.take (j+1)).map (kf (some X.name)));rw[qd4,i0,qb6,<-qb9];exact KLs.snoc z (λ c o I e=>by rw[Z0k I];exact s5 _ _ (S _ _ e)) d0 Z (by rw[Z0k Z,b5];exact e5)
  ·obtain⟨us3,M,u,el3,z,v,rfl⟩:=h;refine⟨us3,some (.ref b)::M,λ c o I e=>u _ _ I (sx _ _ I e),el3,?_,by rw[qb2,v],rfl⟩;have z:KLs H H3 l2 us3 (_++(X.words.take ws.length).map (kf (some X.name))):=z;rw[lw,qd1]at z;show KLs H H3 l2 us3 (((G.houses.take (i+1)).map (kfs kf)).flatten);rw[qd4,hX,qb6,qh8];show KLs H H3 l2 us3 (_++[kfs kf X].flatten);rw[show[kfs kf X].flatten=kfs kf X by simp];exact z
 ·obtain⟨us,M,sx,U,hu,v,rfl⟩:=h;obtain⟨o3,o4,rfl⟩:=ln2 v;have b0:=HlO.kpx (f0.same s2) sx e2;have O:=SX.kpl sx e2;obtain⟨b1,⟨n,L,n',b2⟩,b3,b4,k,r,b5,b6,b7⟩:=hk.2;rw[b5]at b2;have lh:hs.length=G.houses.length:=hh.len;have hu:KLs H H' l2 us (((G.houses.take hs.length).map (kfs kf)).flatten):=hu;have lu:=hu.len;have:=J1y (kf:=kf) ok J hs.length;rw[lh,qd1]at hu;show uz3 _ _ _;walk_at "n z3";refine⟨.inl ⟨rfl,_,SqL.of U⟩,⟨Cp,e0,_,O.i _ _ _ _ _ (p _ _ ha),T.Program.cl,T.n_Program_main,_,rfl,⟨x,.non,mv,G,D,none,G.main,k,r,n,n',L,rfl,b0,hd,.inl ⟨rfl,rfl⟩,WdO.kp (hm.same p) O,b1,b2,b3,b4,b6,b7,λ Y H5 h5 s5 e5=>⟨_,s5 _ _ U,qR,?_⟩⟩⟩⟩;have Z:Y≠l2:=nq U h5;have d0:H Y=none:=by
   cases e:H Y with
   |none=>rfl
   |some o=>rw[sx _ _ Z (p _ _ e)]at h5;cases h5
  walk_at "n z4";refine q l2 _ _ h0 (λ c o e=>?_) Z0d (KLs.snoc hu (λ c o I e=>by rw[Z0k I];exact s5 _ _ e) d0 Z (by rw[Z0k Z,b5];exact e5));have I:c≠l2:=nq h0 e;rw[Z0k I];exact s5 _ _ (sx _ _ I (p _ _ e))
open PK (Z1n bnd r0 r1 r2 r3)
def RwO(K:X0)(H:Hp)(v:V)(rows:List PyData):Prop:=∃a b,v=.ref a/\H a=some (.lst b)/\RTs K H b rows
inductive Z6W(K:X0)(vs:List V)(H:Hp)(Q:VK):Prop
 |mk(a:V0)(us:List V)(rss:List (List PyData))(a1:vs=[.ref a])(a2:H a=some (.lst us))(a3:A2 (RwO K H) us rss)(a4:rss.flatten.length<=20000)(a5:∀l xs H',H l=none->Same H H'->H' l=some (.lst xs)->RTs K H' xs rss.flatten->Q (.ref l) H')
def Z5v(K:X0):Sp:=λ vs H Q _=>Z6W K vs H Q
inductive Z7S(K:X0)(vs:List V)(H:Hp)(Q:VK):Prop
 |mk(a:V0)(v1 v2 v3:V)(x y z:List PyData)(a1:vs=[.ref a])(a2:SqL K H a [v1,v2,v3])(a3:RwO K H v1 x)(a4:RwO K H v2 y)(a5:RwO K H v3 z)(a6:x.length+y.length+z.length<=20000)(a7:∀l xs H',H l=none->Same H H'->H' l=some (.lst xs)->RTs K H' xs (x++r1 "unless" (y.length+1)::(y++r1 "skip" z.length::z))->Q (.ref l) H')
def Z4U(K:X0):Sp:=λ vs H Q _=>Z7S K vs H Q
inductive Z7G(c:CS)(K:X0)(vs:List V)(H:Hp)(Q:VK):Prop
 |mk(tv:V)(kl:V0)(f:Fm)(lb:Lb)(ps:List Tm)(p:Tm)(j:Nat)(k:M2)(dn md rs:List M2)(a1:vs=[tv,.ref kl,.int j])(a2:TO K c.term H tv (.mk f lb ps))(a3:ps.length<=8)(a4:ps[j]?=some p)(a5:SqL K H kl ((k::(dn++(md++rs))).map V.str))(a6:dn.length=sumS (ps.take j))(a7:md.length=p.size)(a8:∀l H',H l=none->Same H H'->H' l=some (.lst (md.map V.str))->Q (.ref l) H')
def Z3h(c:CS)(K:X0):Sp:=λ vs H Q _=>Z7G c K vs H Q
inductive Z5H(K:X0)(vs:List V)(H:Hp)(Q:VK):Prop
 |mk(a:V0)(bn:List M2)(x:M2)(j:Nat)(a1:vs=[.ref a,.str x])(a2:SqL K H a (bn.map V.str))(a3:bn.length<=200)(a4:Z1n bn x j)(a5:∀H',Same H H'->Q (.int j) H')
def Z5I(K:X0):Sp:=λ vs H Q _=>Z5H K vs H Q
noncomputable def kOf:PyData->Option Nat
 | .tuple (.str s::r)=>if s="keep" then(match r with|[.int n]=>some (n.toNat+1)|_=>none)else none
 |_=>none
noncomputable def kMax(rows:List PyData):Nat:=(rows.filterMap kOf).foldr max 0
theorem J0R:∀{l:List Nat}{x:Nat},x∈l->x<=l.foldr max 0
 |y::l,x,h=>by
  show x<=max y (l.foldr max 0);rcases qa4.mp h with e|e
  ·rw[e];exact Nat.le_max_left _ _
  ·exact qa9 (J0R e) (Nat.le_max_right _ _)
theorem J1C:∀{l:List Nat},l≠[]->l.foldr max 0∈l
 |[],h=>absurd rfl h
 |[y],_=>by show max y 0∈_;rw[Nat.max_zero];exact qc2
 |y::z::l,_=>by
  have:=J1C (l:=z::l) (by simp);show max y ((z::l).foldr max 0)∈_;rcases Nat.le_total y ((z::l).foldr max 0)with h|h
  ·rw[Nat.max_eq_right h];exact qc4 _ this
  ·rw[Nat.max_eq_left h];exact qc2
theorem Z2I(a b:List PyData):kMax (a++b)=max (kMax a) (kMax b):=by
 unfold kMax;rw[List.filterMap_append];induction a.filterMap kOf with
 |nil=>exact(Nat.zero_max _).symm
 |cons x l c=>
  show max x ((l++_).foldr max 0)=max (max x (l.foldr max 0)) _;rw[c,qg4]
theorem A2.vals{f:Nat->V}:∀{vs:List V}{a:List Nat},A2 (λ v i=>v=f i) vs a->vs=a.map f
 |_,_,.nil=>rfl
 |_,_,.cons r h=>by rw[r,A2.vals h];rfl
def Z6y(d:PyData):Prop:=∃s r,d=.tuple (.str s::r)/\(s="keep"->∃n:Nat,r=[.int n])
inductive Z9X(K:X0)(vs:List V)(H:Hp)(Q:VK):Prop
 |mk(a:V0)(m:Nat)(xs:List V)(rows:List PyData)(a1:vs=[.int m,.ref a])(a2:SqL K H a xs)(a3:RTs K H xs rows)(a4:(∀d∈rows,Z6y d))(a5:rows.length<=20000)(a6:∀H',Same H H'->Q (.int (max m (kMax rows):Nat)) H')
def J0e(K:X0):Sp:=λ vs H Q _=>Z9X K vs H Q
inductive JNI(K:X0)(H2:Hp)(p a:V0)(rss:List (List PyData))(i:Nat)(σ:St)(H':Hp):Prop
 |mk(xs:_)(o:_)(a1:SX p H2 H')(a2:H' p=some (.lst xs))(a3:RTs K H' xs ((rss.take i).flatten))(a4:σ=[some (.ref a),some (.ref p),o])
theorem J2F{b:Type}:∀(a:List (List b))(i:Nat),((a.take i).flatten).length<=a.flatten.length
 |[],i=>by rw[qj9];exact qa0 _
 |r::a,0=>qb0 _
 |r::a,i+1=>by
  rw[List.take_succ_cons,qd5,qd5,qa2,qa2];have:=J2F a i;lia
theorem J5E(xs:List V)(j:Nat):cutV xs none (some (j:Int))=xs.take j:=by
 unfold cutV;rw[HT.sIx_none,HT.sIx_nat,ql0,qj3];rcases Nat.le_total j xs.length with h|h
 ·rw[qf2 h]
 ·rw[qk0 h,qd1,qe1 h]
theorem J6y(a b c:List V):cutV (a++(b++c)) (some (a.length:Int)) (some ((a.length+b.length:Nat):Int))=b:=by
 unfold cutV;rw[HT.sIx_nat,HT.sIx_nat,qa2,qa2,qf2 qR,qf2 qR,List.drop_left,Nat.add_sub_cancel_left,List.take_left]
theorem J6W{K:X0}{C:V0}{v:V}{t:Tm}(h:TO K C H v t):∃a b,v=.ref a/\∃fs,H a=some (.ins C b fs)/\fs.lookup (Str.ofString "size")=none/\fs.lookup (Str.ofString "parts")=none:=by
 cases h with
 |mk a _ _ _ _=>exact⟨_,_,rfl,_,a,rfl,rfl⟩
theorem Z7X:∀ps:List Tm,(ps.map λ t=>(t.size:Int)).sum=(sumS ps:Nat)
 |[]=>rfl
 |p::ps=>by
  rw[qb7,qh6,Z7X ps];show _=((p.size+sumS ps:Nat):Int);lia
theorem J1B(T:nofun):Has P w K mg base 1 "joined" ["rows"] (Z5v K):=by
 walk_at "h O1K O0K 1"
 obtain⟨a,us,g,rfl,x,z,N,q⟩:=h;refine⟨_,(Z0a (qG 1 O0K.nd (Z0o Z0R)) (Z0a (Z1o PassesOwn.never rfl (Z1b (pvF 0)) (qH 2 O0K.nd) (Z0c (Z0A (Z1B qb5 qj5 qj6 Z5n (pvF 1) (qI (pvF 2)))))) (Z0c (Z0h (pvF 1))))),?_⟩;walk_at "r";refine New.of λ p O v j C=>⟨⟨_,SqL.of (j _ _ x)⟩,Z1p us (JNI K O p a g) ⟨[],none,λ _ _ _ h=>h,C,.nil,rfl⟩ (λ i D m _ h=>?_) (λ i y D m R h=>?_) (λ D m h=>?_)⟩
 ·obtain⟨n,o,sx,_⟩:=h;exact SqL.of (sx _ _ (nq v x) (j _ _ x))
 ·obtain⟨n,o,sx,r,u,rfl⟩:=h;obtain⟨rows,hr,b,G,rfl,I,J⟩:=z.at R;have nb:b≠p:=nq v I;have kp:=SX.kpl sx C;have hl:((g.take (i+1)).flatten).length<=20000:=qa9 (J2F g (i+1)) N;have e:(g.take (i+1)).flatten=(g.take i).flatten++rows:=by rw[qd4,hr,qh8];simp
  rw[e,qa2]at hl;walk_at "r";refine⟨.inl ⟨rfl,_,SqL.of r⟩,_,r,_,sx _ _ nb (j _ _ I),?_,n++G,some (.ref b),λ c o L h=>?_,Z0d,?_,rfl⟩
  ·rw[u.length,J.length];lia
  ·rw[Z0k L];exact sx _ _ L h
  ·rw[e];have M:Kp m (upd m p (.lst (n++G))):=SX.kpl (SX.put _) r;exact RTs.app (u.kp M) (((J.same j).kp kp).kp M)
 ·obtain⟨n,o,sx,r,u,rfl⟩:=h;rw[z.len,qd1]at u;walk_at "r";exact q p n m v (λ c o h=>sx _ _ (nq v h) (j _ _ h)) r u
theorem J1f(T:nofun):Has P w K mg base 1 "if_rows" ["inner"] (Z4U K):=by
 walk_at "h O1H O0y 1"
 obtain⟨a,_,_,_,x,y,z,rfl,U,⟨X,xs,rfl,Y,G⟩,⟨I,ys,rfl,J,L⟩,⟨M,zs,rfl,N,O⟩,hz,q⟩:=h;refine⟨_,(Z0a (Z0Q (pvF 0) (J7F (n:=3) rfl (Z0e (qH 1 O0y.nd) (Z0e (qH 2 O0y.nd) (Z0e (qH 3 O0y.nd) Z0s))))) (Z0c (Z0h (Z0j Z0y (Z0j Z0y (Z0j Z0y (Z0j Z0y (pvF 1) (Z0o (qI (Z0i (qJ Z0b (Z0j Z1q (qL T.z_len (qI (pvF 2))) Z0f)))))) (pvF 2)) (Z0o (qI (Z0i (qJ Z0b (qL T.z_len (qI (pvF 3)))))))) (pvF 3))))),?_⟩;walk_at "r";have m:=G.length;have o:=L.length;have R:=O.length;refine⟨_,U,rfl,⟨_,_,rfl,⟨_,_,rfl,⟨_,_,rfl,rfl,I,rfl,_,.inl (SqL.of J),New.of λ Z H1 h1 e e1=>New.of λ p2 H2 h2 c e2=>⟨X,rfl,_,c _ _ (e _ _ Y),_,e2,by rw[m];show _+1<=_;lia,New.of λ p3 H3 h3 g e3=>⟨I,rfl,_,e3,_,g _ _ (c _ _ (e _ _ J)),by rw[qa2,m,o];show _+1+_<=_;lia,New.of λ p4 H4 h4 p e4=>⟨M,rfl,_,.inl (SqL.of (p _ _ (g _ _ (c _ _ (e _ _ N))))),New.of λ p5 H5 h5 u e5=>New.of λ p6 H6 h6 r e6=>⟨_,r _ _ (u _ _ e4),_,e6,by rw[qa2,qa2,m,o];show _+1+_+1<=_;lia,New.of λ p7 H7 h7 v e7=>⟨M,rfl,_,e7,_,v _ _ (r _ _ (u _ _ (p _ _ (g _ _ (c _ _ (e _ _ N)))))),by rw[qa2,qa2,qa2,m,o,R];show _+1+_+1+_<=_;lia,New.of λ p8 C h8 D e8=>?_⟩⟩⟩⟩⟩⟩⟩⟩⟩;have j:=e.trans (c.trans (g.trans p));have b:=u.trans (r.trans v);have S:=j.trans (b.trans D);refine q p8 _ C ((j.trans b).free h8) S e8 ?_;have t1:RT K C (.ref Z) (r1 "unless" (y.length+1)):=.tup (SqT.of ((c.trans (g.trans (p.trans (b.trans D)))) _ _ e1)) (.cons (.str _) (.cons (by rw[o];exact .int _) .nil));have t2:RT K C (.ref p5) (r1 "skip" z.length):=.tup (SqT.of ((r.trans (v.trans D)) _ _ e5)) (.cons (.str _) (.cons (by rw[R];exact .int _) .nil));have:=RTs.app (RTs.app (RTs.app (RTs.app (G.same S) (.cons t1 .nil)) (L.same S)) (.cons t2 .nil)) (O.same S);simpa only[qb9,qk8,qh1]using this
theorem J2z(T:nofun)(a:HasM P w K mg base 1 Ct "parts" ["self"] (Z2j Ct K))(c:HasM P w K mg base 1 Ct "size" ["self"] (Z6A Ct K)):Has P w K mg base 2 "part_kinds" ["term","kinds","number"] (Z3h ∅ K):=by
 walk_at "h O1f O0E 3"
 obtain⟨tv,kl,f,lb,ps,p,j,k,dn,J,rs,rfl,n,h8,hp,hk,R,S,q⟩:=h;refine⟨_,(Z0a (qG 3 O0E.nd (Z0j Z1q Z0f (Z1t (Z9z rfl) rfl T.z_sum J4I (qI (Z1e rfl (BlockOk.plain (N:=["part"]) rfl qP qP qP) (Z1b (Z0S (r:=rSlL K) Z2E (Z1a (pvF 0) T.Term.cl a hr qS) Z1x (Z1j (pvF 2)))) (λ C fp s H=>(qH 0 (show(["part"]:List M2).Nodup by decide+kernel))) (λ C fp s H=>(Z1a (pvF 0) T.Term.cl c hr qS))))))) (Z0c (Z0h (Z0S (r:=rSlL K) Z2E (pvF 1) (Z1j (pvF 3)) (Z1j (Z0j Z1q (pvF 3) (Z1a (qD K (Z1a (pvF 0) T.Term.cl a hr qS) (pvF 2)) T.Term.cl c hr qS))))))),?_⟩;have o:=n;cases n with
 |@mk ta dx d0 sh _ _ _ vs ws t1 t2 t3 t4 t5=>
 walk_at "r";refine⟨dx,_,t1,rfl,⟨_,_,rfl,o,λ L us h1 m=>⟨L,rfl,?_⟩⟩⟩;have m:TOs K Ct H us ps:=m;have s1:=Z0r h1 (.lst us);have e1:upd H L (.lst us) L=some (.lst us):=Z0d;generalize upd H L (.lst us)=H1 at*;have lu:=m.length;have e0:=(qa6.mp hp).1;refine⟨us,SqL.of e1,New.of λ p2 H2 h2 s2 U=>⟨⟨_,SqL.of U⟩,λ D hD=>?_⟩⟩;rw[J5E]at U;have u:=s1.trans s2;have lt:(us.take j).length=j:=by rw[qd0];lia
 refine Z4x (ys:=us.take j) none [] (λ i v _=>∃t,(ps.take j)[i]?=some t/\v=.int (t.size:Nat)) (λ _ _ _ _ h _=>h) rfl hD (by rw[lt,sizeLine_eq];lia) (λ H3 s=>SqL.of (s _ _ U)) ?_ ?_
 ·intro i y x H3 K' X k;have Y:us[i]?=some y:=by rw[qn1]at x;split at x<;>first|exact x|cases x
  obtain⟨t,n,e⟩:=m.at Y;have hi:i<j:=by have:=(qa6.mp x).1;rw[lt]at this;exact this
  have e:=e.kp (Kp.of (u.trans X));obtain⟨b,Z,rfl,a0,hb,hn,_⟩:=J6W e;walk_at "r";exact⟨Z,_,hb,hn,⟨_,t,rfl,e,k _ _ (Same.refl _) ⟨t,by rw[qn1,if_pos hi];exact n,rfl⟩⟩⟩
 ·intro b0 H3 X hv lv hR;have lp:(ps.take j).length=j:=by rw[qd0];lia
  have ev:b0=((ps.take j).map λ t=>(t.size:Int)).map V.int:=by
   rw[qc7];exact Z1D (g:=λ t:Tm=>V.int (t.size:Nat)) (lv.trans (lt.trans lp.symm)) hR
  rw[ev]at hv;have G:=u.trans X;refine⟨D,rfl,_,SqL.of hv,⟨dx,_,G _ _ t1,rfl,⟨_,_,rfl,o.kp (Kp.of G),λ M us4 h4 hus4=>⟨M,rfl,?_⟩⟩⟩⟩;have hus4:TOs K Ct H3 us4 ps:=hus4;have O:=Z0r h4 (.lst us4);have e4:upd H3 M (.lst us4) M=some (.lst us4):=Z0d;generalize upd H3 M (.lst us4)=H4 at*;have f0:=hus4.length;have I:us4[j]?=some us4[j]:=qa3 qR;obtain⟨t,n,e⟩:=hus4.at I;cases hp.symm.trans n;have e:=e.kp (Kp.of O);obtain⟨b,Z,eb,a0,hb,hn,_⟩:=J6W e;rw[eb]at e;refine⟨us4,SqL.of e4,_,Z3b (by rw[I,eb]),⟨b,rfl,⟨Z,_,hb,hn,⟨_,p,rfl,e,_,rfl,_,SqL.same hk (G.trans O),New.of λ p6 H6 h6 s6 e6=>q p6 H6 ((G.trans O).free h6) (G.trans (O.trans s6)) ?_⟩⟩⟩⟩;rw[e6,Z7X,<-R,<-S];have:=J6y ((k::dn).map V.str) (J.map V.str) (rs.map V.str);rw[qa1,qa1,qb2,<-qb6,<-qb6]at this;rw[show(1:Int)+(dn.length:Int)=((dn.length+1:Nat):Int)by lia,show((dn.length+1:Nat):Int)+(J.length:Int)=((dn.length+1+J.length:Nat):Int)by lia];exact congrArg (λ z=>some (HO.lst z)) this
theorem Z8T(T:nofun):Has P w K mg base 1 "last_slot" ["bound","name"] (Z5I K):=by
  refine Has.of T.O1l Z7K (λ _ _ _ _ _ _ us hl=>el2 us hl λ _ _=>rfl) (λ vs H Q E h=>?_) (λ f cdv A outer s H vs Q E hr h=>?_)
  · obtain⟨a,c,x,j,rfl,_⟩:=h;rfl
  obtain⟨a,c,x,j,rfl,G,hz,g,q⟩:=h;refine⟨_,(Z0c (Z0h (Z1t (r:=J4a K) (Z7V rfl) rfl T.z_max Z9a (qI (Z3A rfl (BlockOk.of (N:=["slot","one","name"]) (nl:=[none,none,some 1]) (cl:=[("name",s.heap.objs.size+1)]) rfl qP qP rfl (sub1 rfl) (nm:=["name"]) rfl qP rfl (λ i e j g=>by
            match i,e with
            | 0,_=>cases g
             |1,_=>cases g
             |2,_=>cases g;exact⟨_,rfl,rfl,rfl,.inl rfl⟩
            )) (Z5m rfl T.O0t Z1S (qI (pvF 0))) (λ C J s H=>(show PG _ _ (Z5C K 2 _)from Z0v (n:=2) rfl (Z0e (qH 0 (show(["slot","one","name"]:List M2).Nodup by decide+kernel)) (Z0e (qH 1 (show(["slot","one","name"]:List M2).Nodup by decide+kernel)) Z0s)))) (λ C J s H=>(qM Z0B (pvF 1) (pvF 2))) (λ C J s H=>(pvF 0))))))),?_⟩
  walk_at "r";refine⟨⟨_,G⟩,λ D R=>?_⟩;have p:∀i,i<c.length->(c.map V.str)[i]?=some (V.str (c.getD i "")):=λ i e=>by rw[qa8,qc5,qa3 e];rfl
  refine Z1y (n:=c.length) (λ o=>∃ L M,o=[L,M,some (.str x)]) (λ i o=>o=[some (V.int i),some (V.str (c.getD i "")),some (V.str x)]) (λ i=>decide (c.getD i ""=x)) (λ i v _=>v=.int i) (λ _ _ _ _ h _=>h) ⟨_,_,rfl⟩ R (by rw [sizeLine_eq]; lia)
    (λ i u s h=>⟨_,_,SqL.same G s,p i h⟩) (λ u s=>⟨_,SqL.same G s,by rw[qa1];exact qa0 _⟩) (λ i v o u H2 O e s S y k=>?_) (λ i o h=>⟨_,_,h⟩) (λ i o e y u O s k=>?_) (λ i o e hp y u O s k=>?_) (λ vs H' U X Y=>?_)
  · obtain⟨L,M,rfl⟩:=y;obtain⟨t,x',rfl,Z,rfl,ex⟩:=S;cases(p i e).symm.trans (ex _ (SqL.same G s));walk_at "r";exact⟨_,SqT.of Z0d,rfl,⟨_,_,rfl,⟨_,_,rfl,rfl,k _ _ rfl (Z0r Z _)⟩⟩⟩
  · subst y;walk_at "r";exact k u (Same.refl _)
  · subst y;walk_at "r";exact k _ _ (Same.refl _) rfl
  · have ev:=A2.vals (f:=λ i=>V.int (i:Nat)) Y;have a0:=(qa6.mp g.1).1;have I:∀i,i∈Z1z (λ i=>decide (c.getD i ""=x)) c.length↔c[i]?=some x:=λ i=>by
      unfold Z1z;rw[qe5,qe9,decide_eq_true_iff,qc5];refine⟨λ⟨a,b⟩=>?_,λ h=>⟨(qa6.mp h).1,by rw[h];rfl⟩⟩;rw[qa3 a]at b ⊢;exact congrArg some b
    refine⟨D,rfl,(Z1z (λ i=>decide (c.getD i ""=x)) c.length).map (λ i:Nat=>(i:Int)),SqL.of (by rw[X,ev,qc7];rfl),λ z=>?_,λ m hm=>?_⟩
    · have:=qe4 (f:=λ i:Nat=>(i:Int)) ((I j).mpr g.1);rw[z]at this;cases this
    · obtain⟨h1,h2⟩:=hm;obtain⟨i,e,rfl⟩:=qe0.mp h1;have e:=(I i).mp e;have:=h2 _ (qe4 (f:=λ i:Nat=>(i:Int)) ((I j).mpr g.1));have:i=j:=by
        rcases Nat.lt_trichotomy i j with z|z|z
        · lia
        · exact z
        · exact absurd e (g.2 i z)
      rw[this];exact q _ U
theorem J3t(T:nofun):Has P w K mg base 1 "most_bound" ["many","rows"] (J0e K):=by
 walk_at "h O1g Z6U 2"
 obtain⟨a,m,S,rows,rfl,U,Y,L,J,q⟩:=h;refine⟨_,(Z0c (Z0h (Z1t (r:=J4a K) (Z7V rfl) rfl T.z_max Z9a (qI (Z0j Z0y (Z0o (qI (pvF 0))) (Z3A rfl (BlockOk.plain (N:=["row"]) rfl qP qP qP) (Z1b (pvF 1)) (λ C fp s H=>(qH 0 (show(["row"]:List M2).Nodup by decide+kernel))) (λ C fp s H=>(qM Z0B (qA K 0) Z0b)) (λ C fp s H=>(Z0j Z1q (qA K 0) Z0f)))))))),?_⟩;walk_at "r";refine New.of λ p H2 hp x e2=>⟨⟨_,SqL.same U x⟩,λ D hD=>?_⟩;have lx:=Y.length;have u:∀i,i<rows.length->S[i]?=some (S.getD i .non):=λ i g=>by rw[qc5,qa3 qR];rfl
 refine Z1y (n:=rows.length) (λ y=>∃ o,y=[o]) (λ i y=>y=[some (S.getD i .non)]) (λ i=>(kOf (rows.getD i .none)).isSome) (λ i v _=>v=.int ((kOf (rows.getD i .none)).getD 0:Nat)) (λ _ _ _ _ h _=>h) ⟨_,rfl⟩ hD (by rw [sizeLine_eq]; lia)
  (λ i M s h=>⟨_,_,SqL.same U (x.trans s),u i h⟩) (λ M s=>⟨_,SqL.same U (x.trans s),qR⟩) (λ i v y M H3 K' g s hy O k=>?_) (λ i y h=>⟨_,h⟩) (λ i y g O M K' s k=>?_) (λ i y g G O M K' s k=>?_) (λ vs H' sm hv hR=>?_)
 ·obtain⟨o,rfl⟩:=O;obtain⟨rfl,ex⟩:=hy;cases(u i g).symm.trans (ex _ (SqL.same U (x.trans s)));walk_at "r";exact k _ _ rfl (Same.refl _)
 ·subst O;obtain⟨d,hd,Z⟩:=Y.at (u i g);obtain⟨j,r,rfl,I⟩:=L d (qb4 hd);obtain⟨b,zs,eb,J,c⟩:=RT.tup_inv (Z.same (x.trans s));obtain⟨v1,a0,rfl,g1,c⟩:=c.inv;cases g1.str_inv;rw[eb];have b0:(kOf (rows.getD i .none)).isSome=decide (j=("keep":M2)):=by
   rw[qc5,hd];show(kOf (.tuple (.str j::r))).isSome=_;by_cases z:j="keep"
   ·obtain⟨n,rfl⟩:=I z;exact(congrArg Option.isSome (if_pos z)).trans (decide_eq_true z).symm
   ·exact(congrArg Option.isSome (if_neg z)).trans (decide_eq_false z).symm
  have:=k M (Same.refl _);rw[b0]at this;walk_at "r";refine⟨_,J,_,ix0,rfl,?_⟩;rw[show decide (V.str j=V.str (Str.ofString "keep"))=decide (j=("keep":M2))from decide_eq_decide.mpr ⟨λ e=>V.str.inj e,λ e=>by rw[e]⟩];exact this
 ·subst O;obtain⟨d,hd,Z⟩:=Y.at (u i g);obtain⟨j,r,rfl,I⟩:=L d (qb4 hd);have ek:rows.getD i .none=.tuple (.str j::r):=by rw[qc5,hd];rfl
  rw[ek]at G k;have z:j="keep":=qe7 λ z=>by
   rw[show kOf (.tuple (.str j::r))=none from if_neg z]at G;cases G
  obtain⟨n,rfl⟩:=I z;rw[show kOf (.tuple [.str j,.int n])=some (n+1)from(if_pos z).trans (by rw[qk5])]at k;obtain⟨b,zs,eb,J,c⟩:=RT.tup_inv (Z.same (x.trans s));obtain⟨v1,a0,rfl,g1,c⟩:=c.inv;obtain⟨v2,d0,rfl,g2,c⟩:=c.inv;cases c.nil_inv;cases g2;rw[eb];walk_at "r";exact⟨_,J,_,ix1,_,rfl,k _ _ (Same.refl _) (by show V.int ((n:Int)+1)=V.int ((n+1:Nat):Int);rw[show((n:Int)+1)=((n+1:Nat):Int)by lia])⟩
 ·have ev:=A2.vals (f:=λ i=>V.int ((kOf (rows.getD i .none)).getD 0:Nat)) hR;rw[ev]at hv;have mm:∀n,n∈rows.filterMap kOf↔∃i,i∈Z1z (λ i=>(kOf (rows.getD i .none)).isSome) rows.length/\(kOf (rows.getD i .none)).getD 0=n:=λ n=>by
   unfold Z1z;rw[qk4];constructor
   ·rintro⟨d,hd,e⟩;obtain⟨i,g⟩:=ql4 hd;refine⟨i,qe5.mpr ⟨qe9.mpr (qa6.mp g).1,?_⟩,?_⟩<;>rw[qc5,g]<;>show _=_
    ·rw[show(some d).getD PyData.none=d from rfl,e];rfl
    ·rw[show(some d).getD PyData.none=d from rfl,e];rfl
   ·rintro⟨i,g,rfl⟩;obtain⟨X,R⟩:=qe5.mp g;have X:=qe9.mp X;rw[qc5,qa3 X]at R ⊢;have R:(kOf rows[i]).isSome=true:=R;refine⟨rows[i],qk7 X,?_⟩;show kOf rows[i]=some ((kOf rows[i]).getD 0);cases e:kOf rows[i]with
    |none=>rw[e]at R;cases R
    |some n=>rfl
  have lk:=Z7W (λ i=>(kOf (rows.getD i .none)).isSome) rows.length;generalize Z1z (λ i=>(kOf (rows.getD i .none)).isSome) rows.length=ix at*;refine⟨D,rfl,_,sm _ _ e2,_,hv,?_,New.of λ p5 H5 h5 s5 e5=>⟨(m:Int)::ix.map (λ i=>(((kOf (rows.getD i .none)).getD 0:Nat):Int)),SqL.of (by rw[e5,qb7,qc7];rfl),λ z=>(by cases z),λ z J=>?_⟩⟩
  ·rw[qa1];show 1+_<=_;lia
  ·have:=q H5 (x.trans (sm.trans s5));have ez:z=((max m (kMax rows):Nat):Int):=by
    obtain⟨z1,z2⟩:=J;have up:z<=((max m (kMax rows):Nat):Int):=by
     rcases qa4.mp z1 with e|e
     ·lia
     ·obtain⟨i,g,rfl⟩:=qe0.mp e;have:=J0R ((mm _).mpr ⟨i,g,rfl⟩);have:(kOf (rows.getD i .none)).getD 0<=kMax rows:=this;lia
    have e0:=z2 _ qc2;have f0:((kMax rows:Nat):Int)<=z:=by
     by_cases e:rows.filterMap kOf=[]
     ·have:kMax rows=0:=by unfold kMax;rw[e];rfl
      lia
     ·obtain⟨i,g,e'⟩:=(mm _).mp (J1C e);have:=z2 _ (qc4 _ (qe4 (f:=λ i=>(((kOf (rows.getD i .none)).getD 0:Nat):Int)) g));rw[e']at this;exact this
    lia
   rw[ez];exact this
open PK (signR)
structure MkO(K:X0)(cm:V0)(c:CS)(H:Hp)(ma:V0)(G:Pg)(st wo:V0)(n:Nat):Prop where
 ex:∃(dx hl fi:V0)(pp:V)(sv:List V),H ma=some (.ins cm dx [("program",pp),("hall",.ref hl),("word_order",.ref wo),("firsts",.ref fi),("sites",.ref st)])/\PgO K c H pp G/\HlO K c H (.ref hl) G/\InO c H hl G/\H wo=some (.lst ((wn G).map V.str))/\H fi=some (.dK (kvOf (fvs 0 G.houses) G.houses))/\H st=some (.lst sv)/\sv.length=n/\st≠wo
inductive Z7R(cm:V0)(c:CS)(K:X0)(vs:List V)(H:Hp)(Q:VK):Prop
 |mk(ma st wo kl bl:V0)(tv hv:V)(G:Pg)(D:HD)(own:Option M2)(bs:List (M2×M2))(f:Fm)(lb:Lb)(ps:List Tm)(ks kr:List M2)(k:M2)(rss:List (List PyData))(n n':Nat)(rows:List PyData)(row:PyData)(a1:vs=[.ref ma,tv,.ref kl,.ref bl,hv])(a2:MkO K cm c H ma G st wo n)(a3:HDOk G D)(a4:OwO K c H G hv own)(a5:TO K c.term H tv (.mk f lb ps))(a6:ps.length=ks.length)(a7:SqL K H kl ((k::kr).map V.str))(a8:(∀k0 r,ks=k0::r->∃r',kr=k0::r'))(a9:SqL K H bl ((bnd own bs).map V.str))(a10:(bnd own bs).length<=200)(a11:Own D own bs f lb ks k rss n rows n')(a12:(∃pre,rows=pre++[row]))(a13:f≠.lt)(a14:f≠.iff)(a15:¬(f=.two/\lb=.str ";")/\n<=100000/\∀v H',SX st H H'->MkO K cm c H' ma G st wo n'->RT K H' v row->Q v H')
def Z5z(cm:V0)(c:CS)(K:X0):Sp:=λ vs H Q _=>Z7R cm c K vs H Q
variable{e st:V0}
theorem MkO.same{K:X0}{a:V0}{c:CS}{b:V0}{n:Nat}(h:MkO K a c H b G st e n)(s:Same H H'):MkO K a c H' b G st e n:=by
 obtain⟨g,hl,i,j,m,o,p,q,⟨r,u,v,x,y⟩,z,A,C,D,E⟩:=h;exact⟨g,hl,i,j,m,s _ _ o,p.same s,q.same s,⟨r,u,v,s _ _ x,s _ _ y⟩,s _ _ z,s _ _ A,s _ _ C,D,E⟩
theorem PgO.kp'{K:X0}{c:CS}{v:V}{d:Pg}(h:PgO K c H v d)(k:Kp H H'):PgO K c H' v d:=by
 cases h with
 |mk a q t m=>exact .mk (k.i _ _ _ _ _ a) (SqT.kp q k) (t.mono λ _ _ r=>HsO.kp r k) (WdO.kp m k)
theorem MkO.sx{K:X0}{g:V0}{c:CS}{i j:V0}{n:Nat}(h:MkO K g c H i G st j n)(s:SX st H H'){a:List V}(e:H' st=some (.lst a)):MkO K g c H' i G st j a.length:=by
 obtain⟨p,hl,q,r,I,u,v,x,⟨y,z,A,C,D⟩,E,m,b,J,o⟩:=h;have k:=SX.kpl s b;exact⟨p,hl,q,r,a,k.i _ _ _ _ _ u,PgO.kp' v k,HlO.kpx x s b,⟨y,z,A,k.i _ _ _ _ _ C,k.t _ _ D⟩,s _ _ o.symm E,s _ _ (nq b m) m,e,rfl,o⟩
theorem MkO.sxl{K:X0}{b:V0}{c:CS}{g a l:V0}{n:Nat}(h:MkO K b c H g G st a n)(s:SX l H H')(e:H l=some (.lst xs))(j:l≠st)(m:l≠a):MkO K b c H' g G st a n:=by
 obtain⟨o,hl,p,q,r,u,v,x,⟨y,z,A,C,D⟩,E,i,I,J,L⟩:=h;have k:=SX.kpl s e;exact⟨o,hl,p,q,r,k.i _ _ _ _ _ u,PgO.kp' v k,HlO.kpx x s e,⟨y,z,A,k.i _ _ _ _ _ C,k.t _ _ D⟩,s _ _ m.symm E,s _ _ (nq e i) i,s _ _ j.symm I,J,L⟩
theorem MkO.at{K:X0}{c:CS}{g a:V0}{n:Nat}(h:MkO K e c H g G st a n):(∃b,H st=some (.lst b))/\∃i,H a=some (.lst i):=by
 obtain⟨o,hl,p,q,b,r,u,v,_,j,x,m,y,z⟩:=h;exact⟨⟨_,m⟩,_,j⟩
theorem MkO.meth{K:X0}{a:V0}{c:CS}{b g:V0}{n:Nat}(h:MkO K a c H b G st g n):∃e fs,H b=some (.ins a e fs)/\fs.lookup (Str.ofString "rows")=none/\fs.lookup (Str.ofString "own_row")=none/\fs.lookup (Str.ofString "block")=none:=by
 obtain⟨e,hl,j,m,o,i,_⟩:=h;exact⟨_,_,i,rfl,rfl,rfl⟩
theorem Z3W:∀xs ys:List Tm,sumS (xs++ys)=sumS xs+sumS ys
 |[],ys=>(qj0 _).symm
 |x::xs,ys=>by
  show x.size+sumS (xs++ys)=x.size+sumS xs+sumS ys;rw[Z3W xs ys,qe3]
theorem OwO.kp{K:X0}{c:CS}{v:V}{own:Option M2}(h:OwO K c H G v own)(s:Kp H H'):OwO K c H' G v own:=h.imp id λ⟨h,X,a,b,c⟩=>⟨h,X,a,b,HsO.kp c s⟩
theorem Z6q:∀p∈signR,valV Z4C (Sum.inr p.1)=some (V.str p.2):=by
 intro p a;simp only[signR,qa4,qh4,or_false]at a;rcases a with rfl|rfl|rfl|rfl|rfl|rfl<;>rfl
theorem Z1L{c:Type}{xs pre:List c}{a b:c}(h:xs++[a]=pre++[b]):a=b:=by
 have:=(List.append_inj' h rfl).2;exact List.head_eq_of_cons_eq this
theorem J1e(T:nofun)(x:HasM P w K mg base 1 Ct "parts" ["self"] (Z2j Ct K))(I:Has P w K mg base 1 "last_slot" ["bound","name"] (Z5I K))(g:HasM P w K mg base 1 Cl "houses" ["self"] (Z7c ∅ K))(c:HasM P w K mg base 3 Cl "place" ["self","house","field"] (Z5x ∅ K))(j:Has P w K mg base 3 "found_block" ["hall","firsts","house","word"] (Z8g ∅ K)):HasM P w K mg base 4 C9 "own_row" ["self","term","kinds","bound","house"] (Z5z C9 ∅ K):=by
 walk_at "m m_Maker_own_row sc_Maker_own_row 5"
 obtain⟨ma,Y,wo,kl,bl,tv,m,G,D,own,bs,f,lb,ps,ks,kr,k,j0,n,n',e0,f0,rfl,hm,hd,ho,ht,a0,hk,b0,hb,k0,hw,⟨pre,a⟩,l0,m0,nl,hn,q⟩:=h;refine⟨_,(Z0a (qG 5 sc_Maker_own_row.nd (qL T.z_len (qI (Z1a (pvF 1) T.Term.cl x hr qS)))) (Z0a (Z0t (Z0Y (r:=rIn K false) Z0J (qO 1) (Z0i (qJ Z0b Z0b)) (by with_unfolding_all rfl)) (Z0c (Z0h (Z0i (qJ Z0b (qO 1))))) Z0n) (Z0a (Z0t (qM Z0B (qO 1) Z0b) (Z0c (Z0h (Z0i (qJ Z0b (qF I hr (qJ (pvF 3) (qO 1))))))) Z0n) (Z0a (Z0t (qM Z0B (qO 1) Z0b) (Z0c (Z0h (Z0i (qJ Z0b Z0f)))) Z0n) (Z0a (Z0t (qM Z0B (qO 1) Z0b) (Z0c (Z0h (Z0i (qI Z0b)))) Z0n) (Z0a (Z0t (qM Z0B (qO 1) Z0b) (Z0c (Z0h (Z0i (qI (J6o T.d_SIGN_ROWS (J4r T.c_SIGN_ROWS rfl) (qO 1) (λ _ _=>rfl)))))) Z0n) (Z0a (Z0t (qM Z0B (qO 1) Z0b) (Z0c (Z0h (Z0i (qK Z0b (Z1B qb5 qg2 qg3 Z3C (Z1a (qO 0) T.Hall.cl g hr qS) (qI (qO 1))) (pvF 5))))) Z0n) (Z0a (Z0t (qM Z0B (qO 1) Z0b) (Z0c (Z0h (Z0i (qJ Z0b (Z0D (qO 0) T.Hall.cl c hr qS (qJ (qD K (pvF 2) Z0f) (qO 1))))))) Z0n) (Z0a (Z0t (qM Z0B (qO 1) Z0b) (Z0c (Z0h (Z0i (qJ Z0b (Z0D (qO 0) T.Hall.cl c hr qS (qJ (qD K (pvF 2) Z0f) (qO 1))))))) Z0n) (Z0a (Z0t (qM Z0B (qO 1) Z0b) (Z0a (Z0A (Z1B qb5 qd2 qd3 Z0F (qO 0) (qI (Z0i (qJ (qD K (pvF 2) Z0f) (qO 1)))))) (Z0c (Z0h (Z0i (Z0q Z0b (qK (Z0j Z1V (qL T.z_len (qI (qO 0))) Z0f) (Z1B qb5 qg2 qg3 Z3C (qO 0) (qI (qO 1))) (pvF 5))))))) Z0n) (Z0c (Z0h (Z0i (qK Z0b (qF j hr (Z0q (qO 0) (qK (qO 0) (qO 4) (qO 1)))) (Z0j Z1q (pvF 5) Z0f))))))))))))))),?_⟩;have n0:=ht;cases ht with
 |@mk ta dx s0 sh _ _ _ vs ws t1 t2 t3 t4 t5=>
 refine seq2 λ u L=>?_;walk_at "r";refine⟨dx,_,t1,rfl,⟨_,_,rfl,n0,λ l1 us h1 d0=>?_⟩⟩;have d0:TOs K Ct H us ps:=d0;have s1:=Z0r h1 (.lst us);have e1:upd H l1 (.lst us) l1=some (.lst us):=Z0d;generalize upd H l1 (.lst us)=H1 at*;have lu:=d0.length;refine⟨l1,rfl,us,.inl (SqL.of e1),?_⟩;subst L;refine seq2 λ u L=>?_;walk_at "r";refine⟨Ct,dx,_,s1 _ _ t1,T.Term.cl,T.n_Term_form,_,rfl,New.of λ p Z hp s2 e2=>⟨_,.inr (SqT.of e2),rfl,rfl,?_⟩⟩;have U:=s1.trans s2;have h1:=U _ _ t1;have y:∀{Q':VK},Q' (.str f.s) Z->Fld K "form" ta Z Q':=λ q=>⟨Ct,dx,_,h1,T.Term.cl,T.n_Term_form,_,rfl,q⟩;have rs:∀{Q':VK}{H3:Hp},Same Z H3->Q' (lbV lb) H3->Fld K "label" ta H3 Q':=λ s q=>⟨Ct,dx,_,s _ _ h1,T.Term.cl,T.n_Term_label,_,rfl,q⟩;have rl:∀{Q':VK},Q' (lbV lb) Z->Fld K "label" ta Z Q':=λ q=>rs (Same.refl _) q;have hk:=SqL.same hk U;have hb:=SqL.same hb U;have ho:=ho.same U;have fin:∀{v:V}{H':Hp},n'=n->Same Z H'->RT K H' v f0->Q v H':=λ e s r=>q _ _ (SX.of (U.trans s)) (by rw[e];exact hm.same (U.trans s)) r;have o0:=hm.same U;have p0:=hm;obtain⟨mx,hl,fi,pp,sv,a1,a2,a3,a4,a5,a6,a7,a8,a9⟩:=o0;obtain⟨dh,io,d',t0,ea,_,_,_⟩:=Z0G a3;clear hm;have m:∀{Q':VK},Q' (.ref ta) Z->Z1P 1 [some (V.ref ma),some (V.ref ta),some (V.ref kl),some (V.ref bl),some m,some (V.int us.length)] Z Q':=λ q=>q;cases hw with
 |num=>
  cases Z1L (xs:=[]) a;exact ite2 (λ _=>rl (New.of λ p3 H3 h3 M e3=>fin rfl M (.tup (SqT.of e3) (.cons (.str _) (.cons (.int _) .nil))))) λ z=>absurd qP z
 |tru=>
  cases Z1L (xs:=[]) a;exact ite2 (λ _=>rl (New.of λ p3 H3 h3 M e3=>fin rfl M (.tup (SqT.of e3) (.cons (.str _) (.cons (.bl _) .nil))))) λ z=>absurd qP z
 |name g1 g2=>
  cases Z1L (xs:=[]) a;refine ite2 (λ z=>absurd z qP) λ _=>?_;subst L;refine Z2g m y rfl ?_;walk_at "r";exact rl ⟨bl,_,_,_,rfl,hb,k0,g2,λ H3 M=>New.of λ p4 R h4 C J=>fin rfl (M.trans C) (.tup (SqT.of J) (.cons (.str _) (.cons (.int _) .nil)))⟩
 |self e=>
  cases Z1L (xs:=[]) a;refine ite2 (λ z=>absurd z qP) λ _=>?_;subst L;repeat refine Z2h m y qP ?_
  refine Z2g m y rfl ?_;walk_at "r";exact New.of λ p4 R h4 C J=>fin rfl C (.tup (SqT.of J) (.cons (.str _) (.cons (.int _) .nil)))
 |lt=>exact absurd rfl l0
 |iff=>exact absurd rfl m0
 |seq=>exact absurd ⟨rfl,rfl⟩ nl
 |nt=>
  cases Z1L a;refine ite2 (λ z=>absurd z qP) λ _=>?_;subst L;repeat refine Z2h m y qP ?_
  refine Z2g m y rfl ?_;walk_at "r";exact New.of λ p4 R h4 C J=>fin rfl C (.tup (SqT.of J) (.cons (.str _) .nil))
 |same=>
  cases Z1L a;refine ite2 (λ z=>absurd z qP) λ _=>?_;subst L;repeat refine Z2h m y qP ?_
  refine Z2g m y rfl ?_;walk_at "r";rw[Z6r];walk_at "r";exact rl ⟨.inr _,rfl,_,Z6q ("=","same") qP,New.of λ p4 R h4 C J=>fin rfl C (.tup (SqT.of J) (.cons (.str _) .nil))⟩
 |less=>
  cases Z1L a;refine ite2 (λ z=>absurd z qP) λ _=>?_;subst L;repeat refine Z2h m y qP ?_
  refine Z2g m y rfl ?_;walk_at "r";rw[Z6r];walk_at "r";exact rl ⟨.inr _,rfl,_,Z6q ("<","less") qP,New.of λ p4 R h4 C J=>fin rfl C (.tup (SqT.of J) (.cons (.str _) .nil))⟩
 |ari N=>
  cases Z1L a;refine ite2 (λ z=>absurd z qP) λ _=>?_;subst L;repeat refine Z2h m y qP ?_
  refine Z2g m y rfl ?_;walk_at "r";rw[Z6r];walk_at "r";exact rl ⟨.inr _,rfl,_,Z6q (_,_) (qn2 N),New.of λ p4 R h4 C J=>fin rfl C (.tup (SqT.of J) (.cons (.str _) .nil))⟩
 |new N k2 k3=>
  cases Z1L a;refine ite2 (λ z=>absurd z qP) λ _=>?_;subst L;repeat refine Z2h m y qP ?_
  have hj:=k2;rw[hd.nm]at hj;refine Z2g m y rfl ?_;walk_at "r";refine⟨C9,mx,_,a1,T.Maker.cl,T.n_Maker_hall,_,rfl,hl,rfl,⟨dh,_,ea,rfl,⟨hl,G,rfl,a4,λ l4 R h4 C J=>⟨.inl ⟨rfl,_,SqL.of J⟩,rs C ⟨l4,rfl,_,_,rfl,J,_,hj.1,hj.2,New.of λ p5 H5 h5 S O=>fin rfl (C.trans S) (.tup (SqT.of O) (.cons (.str _) (.cons (.int _) (.cons (by rw[lu,a0];exact .int _) .nil))))⟩⟩⟩⟩⟩
 |field N k2 k3=>
  cases Z1L a;refine ite2 (λ z=>absurd z qP) λ _=>?_;subst L;repeat refine Z2h m y qP ?_
  obtain⟨r',rfl⟩:=b0 _ _ rfl;obtain⟨c1,c2⟩:=hd.ch _ N;obtain⟨f1,f2⟩:=hd.fl _ N;refine Z2g m y rfl ?_;walk_at "r";refine⟨C9,mx,_,a1,T.Maker.cl,T.n_Maker_hall,_,rfl,hl,rfl,⟨dh,_,ea,rfl,⟨_,hk,_,ix1,rl ⟨hl,_,_,G,_,_,rfl,a3,c1,c2,f1,f2,λ R C=>New.of λ p5 H5 h5 S O=>fin rfl (C.trans S) ?_⟩⟩⟩⟩;rw[J2x k2]at O;exact .tup (SqT.of O) (.cons (.str _) (.cons (.int _) .nil))
 |set N k2 k3 k4 k5=>
  cases Z1L a;refine ite2 (λ z=>absurd z qP) λ _=>?_;subst L;repeat refine Z2h m y qP ?_
  obtain⟨r',rfl⟩:=b0 _ _ rfl;obtain⟨c1,c2⟩:=hd.ch _ N;obtain⟨f1,f2⟩:=hd.fl _ N;refine Z2g m y rfl ?_;walk_at "r";refine⟨C9,mx,_,a1,T.Maker.cl,T.n_Maker_hall,_,rfl,hl,rfl,⟨dh,_,ea,rfl,⟨_,hk,_,ix1,rl ⟨hl,_,_,G,_,_,rfl,a3,c1,c2,f1,f2,λ R C=>New.of λ p5 H5 h5 S O=>fin rfl (C.trans S) ?_⟩⟩⟩⟩;rw[J2x k2]at O;exact .tup (SqT.of O) (.cons (.str _) (.cons (.int _) .nil))
 |call N k2 k3 k4=>
  cases Z1L a;refine ite2 (λ z=>absurd z qP) λ _=>?_;subst L;repeat refine Z2h m y qP ?_
  obtain⟨r',rfl⟩:=b0 _ _ rfl;have hj:=k4;rw[hd.wo]at hj;refine Z2g m y rfl ?_;walk_at "r";refine⟨C9,mx,_,a1,T.Maker.cl,T.n_Maker_sites,_,rfl,.inl ⟨rfl,_,SqL.of a7⟩,⟨_,hk,_,ix1,rl (New.of λ p3 H3 h3 M e3=>⟨Y,rfl,_,M _ _ a7,qR,?_⟩)⟩⟩;have m3:=(p0.same U).same M;have sx:SX Y H3 (upd H3 Y (.lst (sv++[V.ref p3]))):=SX.put _;have m4:=m3.sx sx Z0d;have J:upd H3 Y (.lst (sv++[V.ref p3])) Y=some (.lst (sv++[V.ref p3])):=Z0d;have g0:=SX.kpl sx (M _ _ a7);have h0:=g0.i _ _ _ _ _ (M _ _ a1);have q0:=g0.i _ _ _ _ _ (M _ _ h1);have i0:=sx _ _ a9.symm (M _ _ a5);generalize upd H3 Y (.lst (sv++[V.ref p3]))=R at*;rw[qa2]at m4;refine⟨C9,mx,_,h0,T.Maker.cl,T.n_Maker_sites,_,rfl,Y,rfl,_,.inl (SqL.of J),⟨C9,mx,_,h0,T.Maker.cl,T.n_Maker_word_order,_,rfl,.inl ⟨rfl,_,SqL.of i0⟩,⟨Ct,dx,_,q0,T.Term.cl,T.n_Term_label,_,rfl,wo,rfl,_,_,rfl,i0,_,hj.1,hj.2,New.of λ p5 H5 h5 S O=>q _ H5 (λ b o nb e=>S _ _ (sx _ _ nb (M _ _ (U _ _ e)))) ?_ (.tup (SqT.of O) (.cons (.str _) (.cons ?_ (.cons (.int _) (.cons (by rw[lu,a0];exact .int _) .nil)))))⟩⟩⟩
  ·rw[a8]at m4;exact m4.same S
  ·rw[show(((sv++[V.ref p3]).length:Int)-1)=(n:Int)by rw[qa2];show((sv.length+1:Nat):Int)-1=_;lia];exact .int _
 |elder N k2 k3 k4 k5 k6 k7=>
  cases Z1L (xs:=r1 "load" 0::_) a;refine ite2 (λ z=>absurd z qP) λ _=>?_;subst L;repeat refine Z2h m y qP ?_
  walk_at "r";rcases ho with⟨e',_⟩|⟨h,X,e',hX,hO⟩
  ·rw[N]at e';cases e'
  ·cases N.symm.trans e';cases hO with
   |mk o1 o2 o3 o4=>
    have el:=hd.el X hX.1;rw[hX.2,k3]at el;obtain⟨c1,c2⟩:=hd.ch _ k4;obtain⟨fr,f1,f2,f3,f4⟩:=hd.fo _ k4 _;refine⟨C9,mx,_,a1,T.Maker.cl,T.n_Maker_hall,_,rfl,⟨C9,mx,_,a1,T.Maker.cl,T.n_Maker_firsts,_,rfl,_,rfl,⟨Ch,_,_,o1,T.House.cl,T.n_House_elder,_,rfl,rl ⟨hl,fi,_,_,G,_,fr,by rw[<-el];rfl,a3,a6,c1,c2,f1,λ R C=>New.of λ p5 H5 h5 S O=>fin rfl (C.trans S) ?_⟩⟩⟩⟩;rw[<-f3,k7]at O;exact .tup (SqT.of O) (.cons (.str _) (.cons (.int _) (.cons (by rw[lu,a0,show(((_:List M2).length:Int)+1)=(((_:List M2).length+1:Nat):Int)from rfl];exact .int _) .nil)))
def RwX(K:X0)(H:Hp)(l st:V0)(v:V)(rows:List PyData):Prop:=∃a b,v=.ref a/\a≠l/\a≠st/\H a=some (.lst b)/\RTs K H b rows
inductive Z9f(cm:V0)(c:CS)(K:X0)(N:Nat)(vs:List V)(H:Hp)(Q:VK):Prop
 |mk(ma st wo kl bl:V0)(tv hv:V)(G:Pg)(D:HD)(own:Option M2)(bs:List (M2×M2))(t:Tm)(ks:List M2)(n n':Nat)(rows:List PyData)(a1:vs=[.ref ma,tv,.ref kl,.ref bl,hv])(a2:MkO K cm c H ma G st wo n)(a3:HDOk G D)(a4:OwO K c H G hv own)(a5:TO K c.term H tv t)(a6:H kl=some (.lst (ks.map V.str)))(a7:kl≠st)(a8:H bl=some (.lst ((bnd own bs).map V.str)))(a9:bl≠st)(a10:bs.length+N<=100)(a11:GR D own bs n t ks rows n')(a12:t.depth<=N)(a13:t.size<=20000)(a14:rows.length<=20000)(a15:n'<=100000)(a16:∀l xs H',H l=none->SX st H H'->MkO K cm c H' ma G st wo n'->H' l=some (.lst xs)->RTs K H' xs rows->Q (.ref l) H')
def Z3x(cm:V0)(c:CS)(K:X0)(N:Nat):Sp:=λ vs H Q _=>Z9f cm c K N vs H Q
theorem Z3P{e c:Type}{R:e->c->Prop}{g:List e}{b:c}{bs:List c}(h:A2 R g (b::bs)):∃a r,g=a::r/\R a b/\A2 R r bs:=by
 cases h with
 |cons a b=>exact⟨_,_,rfl,a,b⟩
theorem J9j{f:Fm}(h:f≠.iff):f.s≠("if":M2):=by
 cases f<;>first|exact absurd rfl h|decide+kernel
theorem J9y{f:Fm}(h:f≠.two):f.s≠("two":M2):=by
 cases f<;>first|exact absurd rfl h|decide+kernel
theorem Z8M{own:Option M2}{bs:List (M2×M2)}:(bnd own bs).length<=bs.length+1:=by
 unfold PK.bnd;rw[qa2,qa1];cases own
 ·exact qa9 (qg7 (qj0 _)) (qd6 _)
 ·exact qg7 (Nat.add_comm _ _)
inductive MRI(K:X0)(cm:V0)(c:CS)(D:HD)(own:Option M2)(G:Pg)(f:Fm)(lb:Lb)(bs:List (M2×M2))(ps:List Tm)(ks kss:List M2)(rss:List (List PyData))(n1:Nat)(H H3:Hp)(ma st wo l1:V0)(uv:List V)(σ0:List (Option V)->St)(i:Nat)(σ:St)(H':Hp):Prop
 |mk(fs:_)(dn:_)(ks2:_)(kss2:_)(rss1:_)(rss2:_)(m:_)(us:_)(os:_)(a1:(∀b o,b≠l1->b≠st->H3 b=some o->H' b=some o))(a2:H' l1=some (.lst us))(a3:A2 (RwX K H' l1 st) us rss1)(a4:MkO K cm c H' ma G st wo m)(a5:GRs D own f lb bs fs m (ps.drop i) ks2 kss2 rss2 n1)(a6:ks=fs++ks2)(a7:kss=dn++kss2)(a8:rss=rss1++rss2)(a9:dn.length=sumS (ps.take i))(a10:fs.length=i)(a11:os.length=2)(a12:σ=σ0 os)
theorem J4k(T:nofun)(u:HasM P w K mg base (N+4) C9 "rows" ["self","term","kinds","bound","house"] (Z3x C9 ∅ K N))(O:HasM P w K mg base 1 Ct "parts" ["self"] (Z2j Ct K))(I:Has P w K mg base 2 "part_kinds" ["term","kinds","number"] (Z3h ∅ K))(e0:Has P w K mg base 1 "if_rows" ["inner"] (Z4U K))(h0:Has P w K mg base 1 "joined" ["rows"] (Z5v K))(J:HasM P w K mg base 4 C9 "own_row" ["self","term","kinds","bound","house"] (Z5z C9 ∅ K)):HasM P w K mg base (N+5) C9 "rows" ["self","term","kinds","bound","house"] (Z3x C9 ∅ K (N+1)):=by
 walk_at "m m_Maker_rows sc_Maker_rows 5"
 obtain⟨ma,st,wo,kl,bl,tv,hv,G,D,g,bs,t,ks,n,n',Z,rfl,hm,hd,ho,ht,hk,nk,hb,nb,N2,hg,L1,N1,L0,O2,q⟩:=h;refine⟨_,(Z0a (qG 5 sc_Maker_rows.nd (Z0o Z0R)) (Z0a (Z1o PassesOwn.never rfl (Z5m rfl T.O0t Z1S (qI (Z1a (pvF 1) T.Term.cl O hr qS))) (Z0v (n:=2) rfl (Z0e (qH 6 sc_Maker_rows.nd) (Z0e (qH 7 sc_Maker_rows.nd) Z0s))) (Z0c (Z0t (PW.pt (Z4b (qM Z0B (qO 1) Z0b) (Z3a (qM Z0B (pvF 6) Z0f)))) (Z0c (Z0A (Z1B qb5 qd2 qd3 Z0F (pvF 5) (qI (Z0D (pvF 0) T.Maker.cl u hr qS (Z0q (pvF 7) (qK (qF I hr (qK (pvF 1) (pvF 2) (pvF 6))) (Z0j Z0y (pvF 3) (Z0o (qI (qO 1)))) (pvF 4)))))))) (Z0c (Z0A (Z1B qb5 qd2 qd3 Z0F (pvF 5) (qI (Z0D (pvF 0) T.Maker.cl u hr qS (Z0q (pvF 7) (qK (qF I hr (qK (pvF 1) (pvF 2) (pvF 6))) (pvF 3) (pvF 4))))))))))) (Z0a (Z0t (qM Z0B (qO 1) Z0b) (Z0c (Z0h (Z0j Z0y (Z0j Z0y (qD K (pvF 5) Z0f) (Z0o (qI (Z0i (qJ Z0b (qL T.z_len (qI (pvF 3)))))))) (qD K (pvF 5) Z0f)))) Z0n) (Z0a (Z0t (qM Z0B (qO 1) Z0b) (Z0c (Z0h (qF e0 hr (qI (pvF 5))))) Z0n) (Z0a (Z0t (PW.pt (Z4b (qM Z0B (qO 1) Z0b) (Z3a (qM Z0B (qO 1) Z0b)))) (Z0c (Z0h (Z0j Z0y (Z0j Z0y (qD K (pvF 5) Z0f) (Z0o (qI (Z0i (qI Z0b))))) (qD K (pvF 5) Z0f)))) Z0n) (Z0a (Z0t (qM Z0B (qO 1) Z0b) (Z0c (qG 5 sc_Maker_rows.nd (Z0j Z0y (Z0o (qI (Z0o (qI (Z0i (qJ Z0b Z0f)))))) (pvF 5)))) Z0n) (Z0c (Z0h (Z0j Z0y (qF h0 hr (qI (pvF 5))) (Z0o (qI (Z0D (pvF 0) T.Maker.cl J hr qS (Z0q (pvF 1) (qK (pvF 2) (pvF 3) (pvF 4))))))))))))))),?_⟩;walk_at "s 7 z";refine New.of λ l1 H1 h1 s1 e1=>?_;walk_at "n z1";cases hg with
 |@mk _ _ f lb ps ks p0 X n1 k _ _ hs hw h8=>
 have M0:=ht;cases ht with
 |@mk ta dx Q2 sh _ _ _ vs ws t1 t2 t3 t4 t5=>
 refine⟨ta,rfl,dx,_,s1 _ _ t1,rfl,⟨_,_,rfl,M0.kp (Kp.of s1),λ l3 us h3 q0=>?_⟩⟩;have q0:TOs K Ct H1 us ps:=q0;have s3:=Z0r h3 (.lst us);have e3:upd H1 l3 (.lst us) l3=some (.lst us):=Z0d;generalize upd H1 l3 (.lst us)=H3 at*;have L:=s1.trans s3;have lu:=q0.length;have O1:=hs.len;have own:=hw.fl;have Q1:l3≠l1:=nq e1 h3;obtain⟨⟨S2,j0⟩,wv,R1⟩:=hm.at;have Z0:l1≠st:=nq j0 h1;have S1:l1≠wo:=nq R1 h1;have T1:l3≠st:=nq (s1 _ _ j0) h3;have N0:=L _ _ j0;have O0:∀{H':Hp},(∀b o,b≠l1->b≠st->H3 b=some o->H' b=some o)->Kp H3 H':=λ sK=>⟨λ b xs e=>sK _ _ (nq (s3 _ _ e1) e) (nq N0 e) e,λ b o xs e=>sK _ _ (nq (s3 _ _ e1) e) (nq N0 e) e,λ b C dx f fs e=>sK _ _ (nq (s3 _ _ e1) e) (nq N0 e) e⟩;have a1:kl≠l1:=nq h1 hk;have f1:bl≠l1:=nq h1 hb;refine⟨l3,rfl,⟨_,SqL.of e3⟩,Z6V us (MRI K C9 ∅ D g G f lb bs ps ks p0 X n1 H H3 ma st wo l1 us λ os=>some (V.ref ma)::some (V.ref ta)::some (V.ref kl)::some (V.ref bl)::some hv::some (V.ref l1)::os) ⟨[],[],ks,p0,[],X,n,[],[none,none],λ _ _ _ _ h=>h,s3 _ _ e1,.nil,hm.same L,hs,rfl,rfl,rfl,rfl,rfl,rfl,rfl⟩ (λ i σ H' _ h=>?_) (λ i y t σ H' hy U1 h=>?_) (λ σ H' h=>?_)⟩
 ·obtain⟨_,_,_,_,_,_,_,_,_,sK,_⟩:=h;exact SqL.of (sK _ _ Q1 T1 e3)
 ·obtain⟨fs,dn,Y1,i1,D0,j1,m,uu,os,sK,el,hu,f0,hg,s0,a0,U,Q0,t0,R0,rfl⟩:=h;obtain⟨o6,o7,rfl⟩:=ln2 R0;obtain⟨p,hp,Z1⟩:=q0.at hy;have a2:=(qa6.mp hp).1;have f2:ps.drop i=p::ps.drop (i+1):=by rw[qf6 a2,(qa6.mp hp).2]
  rw[f2]at hg;cases hg with
  |@cons _ _ _ _ _ _ _ k1 v0 h2 G0 i0 m1 m2 _ g1 g2=>
  have sT:=Z0r U1 (.tup [.int i,y]);have eT:upd H' t (.tup [.int i,y]) t=some (.tup [.int i,y]):=Z0d;generalize upd H' t (.tup [.int i,y])=H4 at*;have kJ:=(O0 sK).trans (Kp.of sT);walk_at "r";refine⟨_,SqT.of eT,rfl,⟨_,_,rfl,⟨_,_,rfl,rfl,?_⟩⟩⟩;have pm:=qb4 hp;have d1:=PK.maxD_mem pm;have z1:=PK.sumS_mem pm;have d2:1+maxD ps<=N+1:=L1;have z2:1+sumS ps<=20000:=N1;have b1:=PK.bsAt_len (f:=f) (l:=lb) (bs:=bs) (fs:=fs);have T2:i0.length<=X.flatten.length:=by rw[U,qh8,qd5,qa2,qa2];lia
  have mn:=g2.mono;have U2:uu.length<=8:=by rw[hu.len];have:=congrArg qd9 U;rw[qa2]at this;lia
  have go:∀(kp' bb:V0)(H5:Hp),Same H4 H5->H5 kp'=some (.lst ((k1::v0).map V.str))->kp'≠st->H5 bb=some (.lst ((bnd g (bsAt f lb bs fs)).map V.str))->bb≠st->Z3x C9 ∅ K N [V.ref ma,y,V.ref kp',V.ref bb,hv] H5 (λ x H1=>∃x4,H1 l1=some (.lst x4)/\x4.length<16777216/\MRI K C9 ∅ D g G f lb bs ps ks p0 X n1 H H3 ma st wo l1 us (λ os=>some (V.ref ma)::some (V.ref ta)::some (V.ref kl)::some (V.ref bl)::some hv::some (V.ref l1)::os) (i+1) [some (V.ref ma),some (V.ref ta),some (V.ref kl),some (V.ref bl),some hv,some (V.ref l1),some (V.int i),some y] (upd H1 l1 (.lst (x4++[x])))) E0:=λ kp' bb H5 j i2 j2 k2 n2=>by
   have k5:=kJ.trans (Kp.of j);have m5:=(f0.same sT).same j;refine⟨ma,st,wo,kp',bb,y,hv,G,D,g,_,p,_,m,m2,i0,rfl,m5,hd,(ho.same L).kp k5,(Z1.kp (Kp.of s3)).kp k5,i2,j2,k2,n2,qR,g1,qR,qR,qR,qR,λ l6 xs H6 h6 w0 m6 e6 o2=>?_⟩;have el5:=j _ _ (sT _ _ el);have el6:=w0 _ _ Z0 el5;obtain⟨⟨Y2,o1⟩,_⟩:=m5.at;have v1:l6≠l1:=nq el5 h6;have S0:l6≠st:=nq o1 h6;have R:SX l1 H6 (upd H6 l1 (.lst (uu++[.ref l6]))):=SX.put _;have e7:upd H6 l1 (.lst (uu++[.ref l6])) l1=some (.lst (uu++[.ref l6])):=Z0d;have y0:=SX.kpl R el6;have s2:=SX.kpl w0 o1;refine⟨_,el6,qR,?_⟩;generalize upd H6 l1 (.lst (uu++[.ref l6]))=H7 at*;refine⟨fs++[k1],dn++(k1::v0),h2,G0,D0++[i0],m1,m2,_,_,λ b o c1 c2 e=>R _ _ c1 (w0 _ _ c2 (j _ _ (sT _ _ (sK _ _ c1 c2 e)))),e7,A2.snoc (hu.mono λ v r ⟨a,xs,q1,q2,q3,q4,q5⟩=>⟨a,xs,q1,q2,q3,R _ _ q2 (w0 _ _ q3 (j _ _ (sT _ _ q4))),(((q5.same sT).same j).kp s2).kp y0⟩) ⟨l6,xs,rfl,v1,S0,R _ _ v1 e6,o2.kp y0⟩,m6.sxl R el6 Z0 S1,g2,?_,?_,?_,?_,?_,rfl,rfl⟩
   ·rw[s0,qb9];rfl
   ·rw[a0,qb9]
   ·rw[U,qb9];rfl
   ·rw[qa2,Q0,qd4,hp,Z3W,g1.size];show _=_+(p.size+0);rfl
   ·rw[qa2,t0];rfl
  have pk:∀{Q':VK},(∀l H',H4 l=none->Same H4 H'->H' l=some (.lst ((k1::v0).map V.str))->Q' (.ref l) H')->Z3h ∅ K [V.ref ta,V.ref kl,V.int i] H4 Q' E0:=λ{Q'} z=>by
   refine⟨.ref ta,kl,f,lb,ps,p,i,k,dn,k1::v0,G0,rfl,(M0.kp (Kp.of L)).kp kJ,h8,hp,?_,Q0,g1.size,z⟩;rw[<-a0];exact SqL.of (sT _ _ (sK _ _ a1 nk (L _ _ hk)))
  obtain⟨mx,z0,A0,B0,_,_⟩:=(f0.same sT).meth;have el4:=sT _ _ el;have w1:=sT _ _ (sK _ _ f1 nb (L _ _ hb));obtain⟨⟨Z2,T0⟩,_⟩:=(f0.same sT).at;have y1:=kJ.i _ _ _ _ _ (L _ _ t1);have A1:bsAt f lb bs fs=bs->tyV K "list" (V.ref l1) H4/\Z8h C9 (Str.ofString "rows") ma H4 (Z3h ∅ K [V.ref ta,V.ref kl,V.int i] H4 (λ x H1=>Z3x C9 ∅ K N [V.ref ma,y,x,V.ref bl,hv] H1 (λ x H1=>∃x4,H1 l1=some (.lst x4)/\x4.length<16777216/\MRI K C9 ∅ D g G f lb bs ps ks p0 X n1 H H3 ma st wo l1 us (λ os=>some (V.ref ma)::some (V.ref ta)::some (V.ref kl)::some (V.ref bl)::some hv::some (V.ref l1)::os) (i+1) [some (V.ref ma),some (V.ref ta),some (V.ref kl),some (V.ref bl),some hv,some (V.ref l1),some (V.int i),some y] (upd H1 l1 (.lst (x4++[x])))) E0) E0):=λ eb=>
   ⟨.inl ⟨rfl,_,SqL.of el4⟩,⟨mx,z0,A0,B0,pk λ l5 H5 h5 j e5=>go l5 bl H5 j e5 (nq T0 h5) (by rw[eb];exact j _ _ w1) nb⟩⟩
  refine⟨Ct,dx,_,y1,T.Term.cl,T.n_Term_form,_,rfl,rfl,ite2 (λ e=>⟨rfl,ite2 (λ v2=>?_) λ ne=>?_⟩) λ ne=>?_⟩
  ·have hf:f=.lt:=qe7 λ z=>PK.s_lt z (V.str.inj e);subst hf;obtain⟨x,rfl⟩:=hw.lt1 rfl;have hi:i=1:=by have:=V.int.inj v2;lia
   subst hi;obtain⟨k0,rfl⟩:∃k0,fs=[k0]:=by
    match fs,t0 with
    |[a],_=>exact⟨a,rfl⟩
   refine⟨.inl ⟨rfl,_,SqL.of el4⟩,⟨mx,z0,A0,B0,pk λ l5 H5 h5 j e5=>⟨Ct,dx,_,j _ _ y1,T.Term.cl,T.n_Term_label,_,rfl,New.of λ p6 H6 h6 M e6=>⟨_,M _ _ (j _ _ w1),_,e6,?_,New.of λ p7 H7 h7 Y e7=>go l5 p7 H7 (j.trans (M.trans Y)) (Y _ _ (M _ _ e5)) (nq T0 h5) ?_ (nq (M _ _ (j _ _ T0)) h7)⟩⟩⟩⟩
   ·rw[qa1];show(bnd g bs).length+1<=_;have:=Z8M (own:=g) (bs:=bs);lia
   ·rw[e7];show some (HO.lst (_++[V.str x]))=some (HO.lst ((bnd g (bs++[(x,k0)])).map V.str));unfold PK.bnd;rw[qb6,qb6,qb6,qb6,qb9];rfl
  ·have hf:f=.lt:=qe7 λ z=>PK.s_lt z (V.str.inj e);subst hf;refine A1 ?_;have hi:i=0:=by
    have l2:ks.length=2:=by cases hw;rfl
    have:i≠1:=λ z=>ne (by rw[z];rfl);lia
   rw[qh9.mp (t0.trans hi)];rfl
  ·exact A1 (PK.bsAt_ne λ z=>ne (by rw[z];rfl))
 ·obtain⟨fs,dn,Y1,i1,D0,j1,m,uu,os,sK,el,hu,f0,hg,s0,a0,U,Q0,t0,R0,rfl⟩:=h;obtain⟨o6,o7,rfl⟩:=ln2 R0;rw[lu,ql3]at hg;cases hg;rw[qc8]at s0 a0 U;subst s0 a0 U;have B1:=(O0 sK).i _ _ _ _ _ (L _ _ t1);have rf:∀{Q':VK}{H5:Hp},Same H' H5->Q' (.str f.s) H5->Fld K "form" ta H5 Q':=λ s z=>⟨Ct,dx,_,s _ _ B1,T.Term.cl,T.n_Term_form,_,rfl,z⟩;have rl:∀{Q':VK}{H5:Hp},Same H' H5->Q' (lbV lb) H5->Fld K "label" ta H5 Q':=λ s z=>⟨Ct,dx,_,s _ _ B1,T.Term.cl,T.n_Term_label,_,rfl,z⟩;have C1:=sK _ _ f1 nb (L _ _ hb);have w2:=sK _ _ a1 nk (L _ _ hk);have U0:SX st H H':=λ b o c e=>sK _ _ (nq h1 e) c (L _ _ e);obtain⟨⟨a3,I0⟩,_⟩:=f0.at;have D1:∀{l:V0},H' l=none->H l=none:=λ{l} e=>by
   cases z:H l with
   |none=>rfl
   |some o=>rw[U0 _ _ (nq I0 e) z]at e;cases e
  have fin:∀{l:V0}{xs:List V}{H5:Hp},n'=n1->Same H' H5->H' l=none->H5 l=some (.lst xs)->RTs K H5 xs Z->Q (.ref l) H5:=λ en s e e5 r=>q _ _ _ (D1 e) (λ b o c z=>s _ _ (U0 _ _ c z)) (by rw[en];exact f0.same s) e5 r;have b3:=Z8M (own:=g) (bs:=bs);show uz2 _ _ _;walk_at "n z2";refine rf (Same.refl _) ⟨rfl,ite2 (λ e=>?_) λ ne=>?_⟩
  ·have hf:f=.lt:=qe7 λ z=>PK.s_lt z (V.str.inj e);subst hf;cases hw with
   |@lt x a k ra rb=>
   obtain⟨u0,E1,rfl,⟨b0,x0,rfl,_,_,q4,q5⟩,m0⟩:=Z3P hu;obtain⟨u1,i0,rfl,⟨b1,x1,rfl,_,_,q6,q7⟩,n0⟩:=Z3P m0;cases n0;have l0:=q5.length;have y2:=q7.length;have d0:(ra++r1 "keep" (bnd g bs).length::rb).length<=20000:=L0;rw[qa2,qb2]at d0;refine⟨_,SqL.of el,_,ix0,_,.inl (SqL.of C1),New.of λ p1 H5 h5 j e5=>New.of λ p2 H6 h6 M e6=>⟨b0,rfl,_,M _ _ (j _ _ q4),_,e6,by show _+1<=_;lia,New.of λ p3 H7 h7 Y e7=>⟨_,SqL.of (Y _ _ (M _ _ (j _ _ el))),_,ix1,b1,rfl,_,e7,_,Y _ _ (M _ _ (j _ _ q6)),by rw[qa2];show _+1+_<=_;lia,New.of λ p4 H8 h8 s8 e8=>?_⟩⟩⟩;have S:=j.trans (M.trans (Y.trans s8));refine fin rfl S ((j.trans (M.trans Y)).free h8) e8 ?_;have tk:RT K H8 (.ref p1) (r1 "keep" (bnd g bs).length):=.tup (SqT.of ((M.trans (Y.trans s8)) _ _ e5)) (.cons (.str _) (.cons (by rw[qa1];exact .int _) .nil));have:=RTs.app (RTs.app (q5.same S) (.cons tk .nil)) (q7.same S);simpa only[qb9,qk8,qh1]using this
  have G1:f≠.lt:=λ z=>ne (by rw[z];rfl);walk_at "n z3";refine rf (Same.refl _) ⟨rfl,ite2 (λ e=>?_) λ B2=>?_⟩
  ·have hf:f=.iff:=qe7 λ z=>J9j z (V.str.inj e);subst hf;cases hw with
   |@iff a b k ra rb rc=>
   obtain⟨u0,E1,rfl,⟨b0,x0,rfl,_,_,q4,q5⟩,m0⟩:=Z3P hu;obtain⟨u1,i0,rfl,⟨b1,x1,rfl,_,_,q6,q7⟩,n0⟩:=Z3P m0;obtain⟨u2,c3,rfl,⟨b2,x2,rfl,_,_,q8,q9⟩,C2⟩:=Z3P n0;cases C2;have d0:(ra++r1 "unless" (rb.length+1)::(rb++r1 "skip" rc.length::rc)).length<=20000:=L0;rw[qa2,qb2,qa2,qb2]at d0;exact⟨l1,_,_,_,ra,rb,rc,rfl,SqL.of el,⟨_,_,rfl,q4,q5⟩,⟨_,_,rfl,q6,q7⟩,⟨_,_,rfl,q8,q9⟩,qR,λ l xs H5 h5 j e5 r5=>fin rfl j h5 e5 r5⟩
  have I1:f≠.iff:=λ z=>B2 (by rw[z];rfl);walk_at "n z4";have rest:¬(f=.two/\lb=.str ";")->uz5 {nx:=λ x H'=>Q V.non H',rt:=Q} [some (V.ref ma),some (V.ref ta),some (V.ref kl),some (V.ref bl),some hv,some (V.ref l1),o6,o7] H':=λ nl=>by
   obtain⟨J1,g0⟩:=hw.tail G1 I1 nl;have last:∀(li:V0)(vv:List V)(rr:List (List PyData))(H5:Hp),Same H' H5->H5 li=some (.lst vv)->A2 (RwO K H5) vv rr->rr.flatten++[J1]=Z->uz6 {nx:=λ x H'=>Q V.non H',rt:=Q} [some (V.ref ma),some (V.ref ta),some (V.ref kl),some (V.ref bl),some hv,some (V.ref li),o6,o7] H5:=λ li vv rr H5 j e5 D2 Y0=>by
    walk_at "n z6";have J0:=congrArg qd9 Y0;rw[qa2]at J0;have L2:rr.flatten.length+1=Z.length:=J0;refine⟨li,vv,rr,rfl,e5,D2,qR,λ l6 f3 H6 h6 M e6 r6=>?_⟩;have S6:=j.trans M;have m6:=f0.same S6;obtain⟨mx,z0,A0,_,B0,_⟩:=m6.meth;obtain⟨⟨g3,E2⟩,_⟩:=m6.at;have k6:=(O0 sK).trans (Kp.of S6);have S0:l6≠st:=nq (j _ _ I0) h6;refine⟨mx,z0,A0,B0,⟨ma,st,wo,kl,bl,.ref ta,hv,G,D,g,bs,f,lb,ps,_,_,k,X,n1,n',Z,J1,rfl,m6,hd,(ho.same L).kp k6,(M0.kp (Kp.of L)).kp k6,O1.1.symm,SqL.of (S6 _ _ w2),λ k0 r e=>hs.hd e,SqL.of (S6 _ _ C1),qR,hw,⟨_,Y0.symm⟩,G1,I1,nl,qR,λ v H7 R m7 G2=>New.of λ p8 H8 h8 s8 e8=>⟨l6,rfl,_,s8 _ _ (R _ _ S0 e6),_,e8,?_,New.of λ p9 H9 h9 s9 e9=>?_⟩⟩⟩
    ·rw[r6.length];show _+1<=_;lia
    have y0:=SX.kpl R E2;refine q p9 _ H9 ?_ (λ b o c e=>s9 _ _ (s8 _ _ (R _ _ c (S6 _ _ (U0 _ _ c e))))) ((m7.same s8).same s9) e9 ?_
    ·refine D1 ?_;cases z:H' p9 with
     |none=>rfl
     |some o=>
      have:p9≠st:=λ y=>by obtain⟨⟨i3,I2⟩,_⟩:=m7.at;rw[y,s8 _ _ I2]at h9;cases h9
      rw[s8 _ _ (R _ _ this (S6 _ _ z))]at h9;cases h9
    ·rw[<-Y0];exact RTs.app (((r6.kp y0).same s8).same s9) (.cons ((G2.same s8).same s9) .nil)
   walk_at "n z5";refine rf (Same.refl _) ⟨rfl,ite2 (λ e=>?_) λ o0=>?_⟩
   ·rw[if_pos (V.str.inj e)]at g0;have ll:=hu.len;have lr:X.length<=8:=by lia
    refine New.of λ p1 H5 h5 j e5=>New.of λ p2 H6 h6 M e6=>New.of λ p3 H7 h7 Y e7=>⟨_,e7,_,Y _ _ (M _ _ (j _ _ el)),by rw[ll];show 1+_<=_;lia,New.of λ p4 H8 h8 s8 e8=>?_⟩;have S:=j.trans (M.trans (Y.trans s8));refine last p4 _ ([r1 "load" 0]::X) H8 S e8 (.cons ⟨p2,_,rfl,s8 _ _ (Y _ _ e6),.cons (.tup (SqT.of ((M.trans (Y.trans s8)) _ _ e5)) (.cons (.str _) (.cons (.int _) .nil))) .nil⟩ (hu.mono λ v r ⟨a,xs,q1,_,_,q4,q5⟩=>⟨a,xs,q1,S _ _ q4,q5.same S⟩)) g0.symm
   ·rw[if_neg (λ z=>o0 (by rw[z])),qh1]at g0;exact last l1 _ X H' (Same.refl _) el (hu.mono λ v r ⟨a,xs,q1,_,_,q4,q5⟩=>⟨a,xs,q1,q4,q5⟩) g0.symm
  refine rf (Same.refl _) ⟨rfl,ite2 (λ e=>rl (Same.refl _) ⟨by cases lb<;>rfl,ite2 (λ e2=>?_) λ o0=>rest λ z=>o0 (by rw[z.2];rfl)⟩) λ o0=>rest λ z=>o0 (by rw[z.1];rfl)⟩;have hf:f=.two:=qe7 λ z=>J9y z (V.str.inj e);subst hf;have J2:lb=.str ";":=by cases lb<;>first|(cases e2;rfl)|cases e2
  subst J2;cases hw with
  |ari k1=>exact absurd rfl (PK.sign_ne _ k1).1
  |@seq a b ra rb=>
   obtain⟨u0,E1,rfl,⟨b0,x0,rfl,_,_,q4,q5⟩,m0⟩:=Z3P hu;obtain⟨u1,i0,rfl,⟨b1,x1,rfl,_,_,q6,q7⟩,n0⟩:=Z3P m0;cases n0;have l0:=q5.length;have y2:=q7.length;have d0:(ra++r0 "drop"::rb).length<=20000:=L0;rw[qa2,qb2]at d0;refine⟨_,SqL.of el,_,ix0,New.of λ p1 H5 h5 j e5=>New.of λ p2 H6 h6 M e6=>⟨b0,rfl,_,M _ _ (j _ _ q4),_,e6,by show _+1<=_;lia,New.of λ p3 H7 h7 Y e7=>⟨_,SqL.of (Y _ _ (M _ _ (j _ _ el))),_,ix1,b1,rfl,_,e7,_,Y _ _ (M _ _ (j _ _ q6)),by rw[qa2];show _+1+_<=_;lia,New.of λ p4 H8 h8 s8 e8=>?_⟩⟩⟩;have S:=j.trans (M.trans (Y.trans s8));refine fin rfl S ((j.trans (M.trans Y)).free h8) e8 ?_;have tk:RT K H8 (.ref p1) (r0 "drop"):=.tup (SqT.of ((M.trans (Y.trans s8)) _ _ e5)) (.cons (.str _) .nil);have:=RTs.app (RTs.app (q5.same S) (.cons tk .nil)) (q7.same S);simpa only[qb9,qk8,qh1]using this
theorem ro{s:M2}{r:List PyData}(h:s≠"keep"):Z6y (.tuple (.str s::r)):=⟨s,r,rfl,λ z=>absurd z h⟩
theorem J3R{own:Option M2}{bs:List (M2×M2)}{f:Fm}{l:Lb}{ks:List M2}{k:M2}{c:List (List PyData)}{n g:Nat}{rows:List PyData}(h:Own D own bs f l ks k c n rows g)(hr:∀r∈c,∀d∈r,Z6y d):∀d∈rows,Z6y d:=by
 have e:∀d∈c.flatten,Z6y d:=λ d hd=>let⟨r,a,b⟩:=List.mem_flatten.mp hd;hr r a d b;have i:∀p∈signR.take 4,p.2≠"keep":=by decide+kernel
 cases h with
 |num=>exact λ d hd=>by rw[qa5.mp hd];exact ro qP
 |tru=>exact λ d hd=>by rw[qa5.mp hd];exact ro qP
 |name=>exact λ d hd=>by rw[qa5.mp hd];exact ro qP
 |self=>exact λ d hd=>by rw[qa5.mp hd];exact ro qP
 |lt=>
  intro d hd;rcases qa7.mp hd with z|z
  ·exact hr _ (by simp) d z
  ·rcases qa4.mp z with z|z
   ·exact⟨_,_,z,λ _=>⟨_,rfl⟩⟩
   ·exact hr _ (by simp) d z
 |nt=>
  intro d hd;rcases qa7.mp hd with z|z
  ·exact hr _ (by simp) d z
  ·rw[qa5.mp z];exact ro qP
 |seq=>
  intro d hd;rcases qa7.mp hd with z|z
  ·exact hr _ (by simp) d z
  ·rcases qa4.mp z with z|z
   ·rw[z];exact ro qP
   ·exact hr _ (by simp) d z
 |same=>
  intro d hd;rcases qa7.mp hd with z|z
  ·rcases qa7.mp z with z|z<;>exact hr _ (by simp) d z
  ·rw[qa5.mp z];exact ro qP
 |less=>
  intro d hd;rcases qa7.mp hd with z|z
  ·rcases qa7.mp z with z|z<;>exact hr _ (by simp) d z
  ·rw[qa5.mp z];exact ro qP
 |ari j=>
  intro d hd;rcases qa7.mp hd with z|z
  ·rcases qa7.mp z with z|z<;>exact hr _ (by simp) d z
  ·rw[qa5.mp z];exact ro (i _ j)
 |iff=>
  intro d hd;rcases qa7.mp hd with z|z
  ·exact hr _ (by simp) d z
  ·rcases qa4.mp z with z|z
   ·rw[z];exact ro qP
   ·rcases qa7.mp z with z|z
    ·exact hr _ (by simp) d z
    ·rcases qa4.mp z with z|z
     ·rw[z];exact ro qP
     ·exact hr _ (by simp) d z
 |field=>
  intro d hd;rcases qa7.mp hd with z|z
  ·exact hr _ (by simp) d z
  ·rw[qa5.mp z];exact ro qP
 |set=>
  intro d hd;rcases qa7.mp hd with z|z
  ·rcases qa7.mp z with z|z<;>exact hr _ (by simp) d z
  ·rw[qa5.mp z];exact ro qP
 |new=>exact λ d hd=>(qa7.mp hd).elim (e d) λ z=>by rw[qa5.mp z];exact ro qP
 |call=>exact λ d hd=>(qa7.mp hd).elim (e d) λ z=>by rw[qa5.mp z];exact ro qP
 |elder=>exact λ d hd=>(qa4.mp hd).elim (λ z=>by rw[z];exact ro qP) λ z=>(qa7.mp z).elim (e d) λ z=>by rw[qa5.mp z];exact ro qP
theorem J5A{own:Option M2}{t:Tm}{bs:List (M2×M2)}{n b:Nat}{ks:List M2}{r:List PyData}(h:GR D own bs n t ks r b):∀d∈r,Z6y d:=
 (PK.gr_ind (P:=λ _ _ _ _ r _=>∀d∈r,Z6y d) (Q:=λ _ _ _ _ _ _ _ _ a _=>∀r∈a,∀d∈r,Z6y d) (λ _ w _ i=>J3R w i) (λ r h=>by cases h) (λ _ _ i j r h=>(qa4.mp h).elim (λ e=>by rw[e];exact i) (j r))).1 h
noncomputable def blkD(own:Option M2)(bs:List (M2×M2))(rows:List PyData):PyData:=.tuple [.int ((bnd own bs).length:Nat),.int (max (bnd own bs).length (kMax (rows++[r0 "back"])):Nat),.tuple (rows++[r0 "back"])]
inductive Z7r(cm:V0)(c:CS)(K:X0)(N:Nat)(vs:List V)(H:Hp)(Q:VK):Prop
 |mk(ma st wo kl:V0)(hv wv:V)(G:Pg)(D:HD)(own:Option M2)(d:Wd)(ks:List M2)(n n':Nat)(rows:List PyData)(a1:vs=[.ref ma,hv,wv,.ref kl])(a2:MkO K cm c H ma G st wo n)(a3:HDOk G D)(a4:OwO K c H G hv own)(a5:WdO K c H wv d)(a6:H kl=some (.lst (ks.map V.str)))(a7:kl≠st)(a8:d.params.length+N<=100)(a9:GR D own d.params n d.body ks rows n')(a10:d.body.depth<=N)(a11:d.body.size<=20000)(a12:rows.length<=19999)(a13:n'<=100000)(a14:∀v H',SX st H H'->MkO K cm c H' ma G st wo n'->RT K H' v (blkD own d.params rows)->Q v H')
def Z5u(cm:V0)(c:CS)(K:X0)(N:Nat):Sp:=λ vs H Q _=>Z7r cm c K N vs H Q
theorem Z6Y(T:nofun)(b:HasM P w K mg base 1 Ct "parts" ["self"] (Z2j Ct K))(c:Has P w K mg base 2 "part_kinds" ["term","kinds","number"] (Z3h ∅ K))(e:Has P w K mg base 1 "if_rows" ["inner"] (Z4U K))(g:Has P w K mg base 1 "joined" ["rows"] (Z5v K))(a:HasM P w K mg base 4 C9 "own_row" ["self","term","kinds","bound","house"] (Z5z C9 ∅ K)):∀N,HasM P w K mg base (N+4) C9 "rows" ["self","term","kinds","bound","house"] (Z3x C9 ∅ K N)
 |0=>HasM.of T.m_Maker_rows sc_Maker_rows (λ _ _ _ _ _ _ us hl=>el5 us hl λ _ _ _ _ _=>rfl) (λ vs H Q E h=>by obtain⟨o,p,r,u,bl,v,x,G,D,own,bs,t,ks,n,y,i,rfl,_⟩:=h;rfl) (λ f cdv A outer s H vs Q E hr h=>by
  obtain⟨o,p,r,u,bl,v,x,G,D,m,bs,⟨L,M,ps⟩,ks,n,y,i,rfl,O,hd,R,S,U,X,Y,nb,z,Z,j,C,I,J,q⟩:=h;have:1+maxD ps<=0:=j;lia)
 |N+1=>J4k T (Z6Y T b c e g a N) b c e g a
theorem J2Q(T:nofun)(a:HasM P w K mg base (N+4) C9 "rows" ["self","term","kinds","bound","house"] (Z3x C9 ∅ K N))(m:Has P w K mg base 1 "most_bound" ["many","rows"] (J0e K)):HasM P w K mg base (N+5) C9 "block" ["self","house","word","kinds"] (Z5u C9 ∅ K N):=by
 walk_at "m m_Maker_block sc_Maker_block 4"
 obtain⟨ma,st,wo,kl,hv,wv,G,D,r,d,ks,n,n',p,rfl,hm,hd,ho,hw,hk,nk,d0,hg,e0,f0,p0,g0,q⟩:=h;refine⟨_,(Z0a (Z2J rfl sc_Maker_block.nd (i:=4) rfl rfl (BlockOk.plain (N:=["name","kind"]) rfl qP qP qP) (Z1J (qO 2)) (λ C fp s H=>(show PG _ _ (Z5C K 2 _)from Z0v (n:=2) rfl (Z0e (qH 0 (show(["name","kind"]:List M2).Nodup by decide+kernel)) (Z0e (qH 1 (show(["name","kind"]:List M2).Nodup by decide+kernel)) Z0s)))) (λ C fp s H=>(pvF 0))) (Z0a (Z0t (qM Z4r (pvF 1) Z0T) (Z0c (qG 4 sc_Maker_block.nd (Z0j Z0y (Z0o (qI Z0b)) (pvF 4)))) Z0n) (Z0a (qG 5 sc_Maker_block.nd (Z0j Z0y (Z0D (pvF 0) T.Maker.cl a hr qS (Z0q (qO 2) (qK (pvF 3) (pvF 4) (pvF 1)))) (Z0o (qI (Z0i (qI Z0b)))))) (Z0c (Z0h (Z0i (qK (qL T.z_len (qI (pvF 4))) (qF m hr (qJ (qL T.z_len (qI (pvF 4))) (pvF 5))) (Z0w Z0u rfl T.O0k Z0X (qI (pvF 5)))))))))),?_⟩;cases hw with
 |@mk wa wx pt bv _ w1 w2 w3=>
 walk_at "s 4 z";obtain⟨_,us,e,u1,u2⟩:=RT.tup_inv w2;cases e;have lu:us.length=d.params.length:=by rw[u2.length,qa1]
 refine⟨Cw,wx,_,w1,T.Word.cl,T.n_Word_params,_,rfl,pt,rfl,⟨_,u1⟩,λ D0 hD=>Z5o (ys:=us) (λ σ=>∃o1 o2,σ=[o1,o2]) (λ j v _=>∃t,d.params[j]?=some t/\v=.str t.1) (λ _ _ _ _ h _=>h) ⟨_,_,rfl⟩ hD (by rw[sizeLine_eq];lia) (λ H1 s=>SqT.same u1 s) (λ i y σ hy hS H2 K' s k=>?_) (λ vs Hc Sc u lv hR=>?_)⟩
 ·obtain⟨o1,o2,rfl⟩:=hS;obtain⟨b,t,v1,v2,rfl,ht,hz,rfl,rfl⟩:=Z5J u2 hy;walk_at "r";exact⟨_,SqT.same hz s,rfl,⟨_,_,rfl,⟨_,_,rfl,⟨rfl,k _ _ _ ⟨_,_,rfl⟩ (Same.refl _) ⟨t,ht,rfl⟩⟩⟩⟩⟩
 rw[Z1D (g:=λ t:M2×M2=>V.str t.1) (lv.trans lu) hR]at u;obtain⟨⟨q0,L⟩,_⟩:=hm.at;have nD:D0≠st:=nq L hD;have lb:=Z8M (own:=r) (bs:=d.params);have go:∀(M:V0)(H5:Hp),Same Hc H5->H5 M=some (.lst ((bnd r d.params).map V.str))->M≠st->uz2 {nx:=λ x H'=>Q V.non H',rt:=Q} [some (V.ref ma),some hv,some (V.ref wa),some (V.ref kl),some (V.ref M),none] H5:=λ M H5 s5 e5 O=>by
  have J:=Sc.trans s5;have m5:=hm.same J;obtain⟨mx,h0,i0,j0,_,_⟩:=m5.meth;walk_at "n z2";refine⟨mx,h0,i0,j0,⟨Cw,wx,_,J _ _ w1,T.Word.cl,T.n_Word_body,_,rfl,⟨ma,st,wo,kl,M,bv,hv,G,D,r,d.params,d.body,ks,n,n',p,rfl,m5,hd,ho.same J,w3.kp (Kp.of J),J _ _ hk,nk,e5,O,d0,hg,e0,f0,qR,g0,λ l6 R H6 h6 S m6 e6 r6=>New.of λ U H7 h7 s7 e7=>New.of λ p8 H8 h8 s8 e8=>⟨l6,rfl,_,s8 _ _ (s7 _ _ e6),_,e8,by rw[r6.length];show _+1<=_;lia,New.of λ p9 H9 h9 s9 e9=>?_⟩⟩⟩⟩;have S9:=s7.trans (s8.trans s9);have r9:RTs K H9 (R++[V.ref U]) (p++[r0 "back"]):=RTs.app (r6.same S9) (.cons (.tup (SqT.of ((s8.trans s9) _ _ e7)) (.cons (.str _) .nil)) .nil);have rk:∀z∈p++[r0 "back"],Z6y z:=λ z hz=>(qa7.mp hz).elim (J5A hg z) λ y=>by rw[qa5.mp y];exact ro qP
  have Y:=S9 _ _ (S _ _ O e5);walk_at "n z3";refine⟨_,.inl (SqL.of Y),_,.inl (SqL.of Y),⟨p9,_,_,_,rfl,SqL.of e9,r9,rk,by rw[qa2];show _+1<=_;lia,λ Z a0=>⟨_,.inl ⟨SqL.of (a0 _ _ e9),λ I k0=>?_⟩⟩⟩⟩;have l0:=Z0r k0 (.tup (R++[V.ref U]));have m0:upd Z I (.tup (R++[V.ref U])) I=some (.tup (R++[V.ref U])):=Z0d;generalize upd Z I (.tup (R++[V.ref U]))=s0 at*;refine New.of λ t0 n0 u0 b0 o0=>?_;have T:=a0.trans (l0.trans b0);have T9:=S9.trans T;refine q _ n0 (λ b o c e=>T9 _ _ (S _ _ c (J _ _ e))) (m6.same T9) (.tup (SqT.of o0) (.cons ?_ (.cons ?_ (.cons (.tup (SqT.of (b0 _ _ m0)) (r9.same T)) .nil))))
  ·rw[qa1];exact .int _
  ·rw[qa1];exact .int _
 walk_at "n z1";rcases ho with⟨e,rfl⟩|⟨h,X,e,hX,hO⟩
 ·refine ite2 (λ z=>absurd rfl z) λ _=>go D0 Hc (Same.refl _) ?_ nD;rw[u,e];unfold PK.bnd;rw[qb6,qc7];rfl
 ·cases hO with
  |mk o1 o2 o3 o4=>
  refine ite2 (λ _=>New.of λ p4 H4 h4 s4 e4=>⟨_,e4,_,s4 _ _ u,by rw[qa1];show 1+_<=_;lia,New.of λ p5 H5 h5 s5 e5=>go p5 H5 (s4.trans s5) ?_ (nq (s4 _ _ (Sc _ _ L)) h5)⟩) λ z=>absurd (λ y=>by cases y) z;rw[e5,e];unfold PK.bnd;rw[qb6,qc7];rfl
inductive ChB(D:HD)(N:Nat)(kf:Option M2->Wd->List M2):Nat->List (Option M2×Wd)->List PyData->Nat->Prop
 |nil{n}:ChB D N kf n [] [] n
 |cons{n own d rows n1 bs bks n2}:d.params.length+N<=100->GR D own d.params n d.body (kf own d) rows n1->d.body.depth<=N->d.body.size<=20000->rows.length<=19999->ChB D N kf n1 bs bks n2->ChB D N kf n ((own,d)::bs) (blkD own d.params rows::bks) n2
def bdX(X:Hs):List (Option M2×Wd):=X.words.map λ w=>(some X.name,w)
def bds(G:Pg):List (Option M2×Wd):=(G.houses.map bdX).flatten++[(none,G.main)]
theorem ChB.mono{kf:Option M2->Wd->List M2}{n n':Nat}{bs:List (Option M2×Wd)}{a:List PyData}(h:ChB D N kf n bs a n'):n<=n':=by
 induction h with
 |nil=>exact qa0 _
 |cons _ g _ _ _ _ b=>exact qa9 g.mono b
theorem ChB.len{kf:Option M2->Wd->List M2}{n b:Nat}{bs:List (Option M2×Wd)}{a:List PyData}(h:ChB D N kf n bs a b):a.length=bs.length:=by
 induction h with
 |nil=>rfl
 |cons _ _ _ _ _ _ c=>exact congrArg (·+1) c
theorem Z7k(G:Pg)(kf:Option M2->Wd->List M2):(bds G).map (λ p=>kf p.1 p.2)=(G.houses.map (kfs kf)).flatten++[kf none G.main]:=by
 unfold bds;rw[qb6];congr 1;induction G.houses with
 |nil=>rfl
 |cons X hs a=>
  rw[qb7,qd5,qb6,a,qb7,qd5];congr 1;unfold bdX kfs;rw[qc7];rfl
theorem MkO.meth2{K:X0}{a:V0}{c:CS}{b g:V0}{n:Nat}(h:MkO K a c H b G st g n):∃e fs,H b=some (.ins a e fs)/\fs.lookup (Str.ofString "all_blocks")=none:=by
 obtain⟨e,hl,j,m,o,i,_⟩:=h;exact⟨_,_,i,rfl⟩
inductive J0a(cm:V0)(c:CS)(K:X0)(vs:List V)(H:Hp)(Q:VK):Prop
 |mk(x dx:V0)(pp:V)(G:Pg)(a1:vs=[.ref x,pp])(a2:H x=some (.ins cm dx []))(a3:PgO K c H pp G)(a4:GOk G)(a5:G.houses.length<=100)(a6:∀st wo H',SX x H H'->MkO K cm c H' x G st wo 0->H st=none->Q .non H')
def J0i(cm:V0)(c:CS)(K:X0):Sp:=λ vs H Q _=>J0a cm c K vs H Q
theorem J5e(ok:GOk G)(h:G.houses.length<=12):(bds G).length<=10001:=by
 have a:=J1y (kf:=λ _ _=>[]) ok (qa9 h qS) G.houses.length;have b:=congrArg qd9 (Z7k G λ _ _=>[]);rw[qa1,qa2]at b;rw[qd1]at a;have c:[([]:List M2)].length=1:=rfl;lia
inductive ABS(K:X0)(cm:V0)(c:CS)(D:HD)(N:Nat)(kf:Option M2->Wd->List M2)(G:Pg)(bks:List PyData)(n:Nat)(ma st wo l2:V0)(H2 H':Hp)(xs:List V)(rest:List (Option M2×Wd)):Prop
 |mk(bk1:_)(bk2:_)(m:_)(a1:(∀b o,b≠l2->b≠st->H2 b=some o->H' b=some o))(a2:H' l2=some (.lst xs))(a3:RTs K H' xs bk1)(a4:MkO K cm c H' ma G st wo m)(a5:ChB D N kf m rest bk2 n)(a6:bks=bk1++bk2)(a7:(bds G).drop xs.length=rest)
inductive ABI(A:Nat->Hp->List V->Prop)(σ0:List (Option V)->St)(k:Nat)(i:Nat)(σ:St)(H':Hp):Prop
 |mk(xs:_)(os:_)(a1:A i H' xs)(a2:os.length=k)(a3:σ=σ0 os)
inductive J2V(cm:V0)(c:CS)(K:X0)(N:Nat)(vs:List V)(H:Hp)(Q:VK):Prop
 |mk(ma st wo:V0)(G:Pg)(D:HD)(kf:Option M2->Wd->List M2)(bks:List PyData)(n:Nat)(a1:vs=[.ref ma])(a2:MkO K cm c H ma G st wo 0)(a3:GOk G)(a4:G.houses.length<=12)(a5:HDOk G D)(a6:KfOk D N G kf)(a7:ChB D N kf 0 (bds G) bks n)(a8:n<=100000)(a9:∀l xs H',H l=none->SX st H H'->H' l=some (.lst xs)->RTs K H' xs bks->Q (.ref l) H')
def J2m(cm:V0)(c:CS)(K:X0)(N:Nat):Sp:=λ vs H Q _=>J2V cm c K N vs H Q
inductive Z5B(c:CS)(K:X0)(N:Nat)(vs:List V)(H:Hp)(Q:VK):Prop
 |mk(pp:V)(G:Pg)(D:HD)(kf:Option M2->Wd->List M2)(bks:List PyData)(n:Nat)(a1:vs=[pp])(a2:PgO K c H pp G)(a3:GOk G)(a4:G.houses.length<=12)(a5:HDOk G D)(a6:KfOk D N G kf)(a7:ChB D N kf 0 (bds G) bks n)(a8:n<=100000)(a9:∀l xs H',H l=none->Same H H'->H' l=some (.lst xs)->RTs K H' xs bks->Q (.ref l) H')
def Z3R(c:CS)(K:X0)(N:Nat):Sp:=λ vs H Q _=>Z5B c K N vs H Q
theorem J9D(T:nofun):CS.Ok (CS.mk Ct Cw Ch Cp Cl Cl Cl C9 B):=
 ⟨Z6g T.m_Term___init__ T.m_Maker___init__ qS,Z6g T.m_Word___init__ T.m_Maker___init__ qS,Z6g T.m_House___init__ T.m_Maker___init__ qS,Z6g T.m_Hall___init__ T.m_Maker___init__ qS,Z6g T.m_Hall___init__ T.m_Maker___init__ qS,Z6g T.m_Hall___init__ T.m_Maker___init__ qS⟩
theorem J3W(T:nofun)(i:HasM P w K mg base 1 Cl "__init__" ["self","program"] (Z6F (CS.mk Ct Cw Ch Cp Cl Cl Cl C9 B) K))(j:Has P w K mg base 1 "first_blocks" ["program"] (Z7P (CS.mk Ct Cw Ch Cp Cl Cl Cl C9 B) K))(m:Has P w K mg base 1 "word_names" ["program"] (Z7F (CS.mk Ct Cw Ch Cp Cl Cl Cl C9 B) K)):HasM P w K mg base 3 C9 "__init__" ["self","program"] (J0i C9 (CS.mk Ct Cw Ch Cp Cl Cl Cl C9 B) K):=by
 walk_at "m m_Maker___init__ Z4q 2"
 obtain⟨x,a,g,G,rfl,J,S,ok,p,q⟩:=h;refine⟨_,(Z0a (Z0O (pvF 0) (pvF 1) rfl) (Z0a (Z0O (pvF 0) (Z5e T.Hall i hr qS rfl (qI (pvF 1))) rfl) (Z0a (Z0O (pvF 0) (qF m hr (qI (pvF 1))) rfl) (Z0a (Z0O (pvF 0) (qF j hr (qI (pvF 1))) rfl) (Z0c (Z0O (pvF 0) (Z0o Z0R) rfl)))))),?_⟩;walk_at "s 5 z";refine⟨C9,a,_,J,T.Maker.cl,T.n_Maker_program,qc3 rfl,?_⟩;walk_at "n z1";have S1:SX x H (upd H x (.ins C9 a (putF "program" g []))):=SX.put _;have v:upd H x (.ins C9 a (putF "program" g [])) x=some (.ins C9 a (putF "program" g [])):=Z0d;generalize upd H x (.ins C9 a (putF (Str.ofString "program") g []))=H1 at*;intro y dy U n2 ne;have s1:=Z2H (C:=Cl) U n2 ne;have Y:PgO K (CS.mk Ct Cw Ch Cp Cl Cl Cl C9 B) H1 g G:=PgO.kp' S (S1.kp J);have xy:x≠y:=λ z=>by rw[<-z,v]at U;cases U
 refine⟨y,dy,g,G,rfl,Z0d,Y.same s1,ok,p,λ H2 a0 b0 d0=>⟨rfl,?_⟩⟩;have s2:Same H1 H2:=Z3D s1 a0 U;have v:=s2 _ _ v;refine⟨C9,a,_,v,T.Maker.cl,T.n_Maker_hall,qc3 rfl,?_⟩;walk_at "n z2";have S2:SX x H (upd H2 x (.ins C9 a (putF "hall" (.ref y) (putF "program" g [])))):=S1.trans ((SX.of s2).trans (SX.put _));have L:upd H2 x (.ins C9 a (putF "hall" (.ref y) (putF "program" g []))) x=some (.ins C9 a (putF "hall" (.ref y) (putF "program" g []))):=Z0d;have W2:SX x H2 (upd H2 x (.ins C9 a (putF "hall" (.ref y) (putF "program" g [])))):=SX.put _;have K2:Kw C9 H2 (upd H2 x (.ins C9 a (putF "hall" (.ref y) (putF "program" g [])))):=Kw.ins _ v;generalize upd H2 x (.ins C9 a (putF (Str.ofString "hall") (.ref y) (putF (Str.ofString "program") g [])))=H3 at*;refine⟨g,G,rfl,PgO.kp' S (S2.kp J),ok,p,λ n u h4 X e4=>?_⟩;have L:=X _ _ L;refine⟨C9,a,_,L,T.Maker.cl,T.n_Maker_word_order,qc3 rfl,?_⟩;walk_at "n z3";have xw:n≠x:=nq L e4;have S4:SX x H (upd u x (.ins C9 a (putF "word_order" (.ref n) (putF "hall" (.ref y) (putF "program" g []))))):=S2.trans ((SX.of X).trans (SX.put _));have M:upd u x (.ins C9 a (putF "word_order" (.ref n) (putF "hall" (.ref y) (putF "program" g [])))) x=some (.ins C9 a (putF "word_order" (.ref n) (putF "hall" (.ref y) (putF "program" g [])))):=Z0d;have W4:SX x u (upd u x (.ins C9 a (putF "word_order" (.ref n) (putF "hall" (.ref y) (putF "program" g []))))):=SX.put _;have K4:Kw C9 u (upd u x (.ins C9 a (putF "word_order" (.ref n) (putF "hall" (.ref y) (putF "program" g []))))):=Kw.ins _ L;generalize upd u x (.ins C9 a (putF (Str.ofString "word_order") (.ref n) (putF (Str.ofString "hall") (.ref y) (putF (Str.ofString "program") g []))))=H5 at*;refine⟨g,G,rfl,PgO.kp' S (S4.kp J),ok,p,λ r D N e6=>?_⟩;have M:=N _ _ M;have xf:r≠x:=nq M e6;refine⟨C9,a,_,M,T.Maker.cl,T.n_Maker_firsts,qc3 rfl,?_⟩;walk_at "n z4";have S6:=S4.trans ((SX.of N).trans (SX.put (.ins C9 a (putF "firsts" (.ref r) (putF "word_order" (.ref n) (putF "hall" (.ref y) (putF "program" g [])))))));have O:upd D x (.ins C9 a (putF "firsts" (.ref r) (putF "word_order" (.ref n) (putF "hall" (.ref y) (putF "program" g []))))) x=some (.ins C9 a (putF "firsts" (.ref r) (putF "word_order" (.ref n) (putF "hall" (.ref y) (putF "program" g []))))):=Z0d;have W6:SX x D (upd D x (.ins C9 a (putF "firsts" (.ref r) (putF "word_order" (.ref n) (putF "hall" (.ref y) (putF "program" g [])))))):=SX.put _;have K6:Kw C9 D (upd D x (.ins C9 a (putF "firsts" (.ref r) (putF "word_order" (.ref n) (putF "hall" (.ref y) (putF "program" g [])))))):=Kw.ins _ M;generalize upd D x (.ins C9 a (putF (Str.ofString "firsts") (.ref r) (putF (Str.ofString "word_order") (.ref n) (putF (Str.ofString "hall") (.ref y) (putF (Str.ofString "program") g [])))))=H7 at*;refine New.of λ R H8 h8 I e8=>?_;have O:=I _ _ O;refine⟨C9,a,_,O,T.Maker.cl,T.n_Maker_sites,qc3 rfl,?_⟩;have K8:Kw C9 H8 (upd H8 x (.ins C9 a (putF "sites" (.ref R) (putF "firsts" (.ref r) (putF "word_order" (.ref n) (putF "hall" (.ref y) (putF "program" g []))))))):=Kw.ins _ O;have xs:R≠x:=nq O e8;have S8:=S6.trans ((SX.of I).trans (SX.put (.ins C9 a (putF "sites" (.ref R) (putF "firsts" (.ref r) (putF "word_order" (.ref n) (putF "hall" (.ref y) (putF "program" g []))))))));have w7:H7 n=some (.lst ((wn G).map V.str)):=W6 _ _ xw (N _ _ (W4 _ _ xw e4));refine q R n _ S8 ⟨a,y,r,g,[],Z0d,PgO.kp' S (S8.kp J),HlO.kw (J9D T) b0 (K2.trans ((Kw.of X).trans (K4.trans ((Kw.of N).trans (K6.trans ((Kw.of I).trans K8)))))),?_,?_,?_,?_,rfl,?_⟩ ?_
 ·obtain⟨i1,i2,i3,i4,i5⟩:=d0;have Z:∀o' b o,b≠x->H2 b=some o->upd H8 x o' b=some o:=λ o' b o c e=>by rw[Z0k c];exact I _ _ (W6 _ _ c (N _ _ (W4 _ _ c (X _ _ (W2 _ _ c e)))))
  exact⟨i1,i2,i3,Z _ _ _ xy.symm i4,Z _ _ _ (nq v i5) i5⟩
 ·rw[Z0k xw];exact I _ _ w7
 ·rw[Z0k xf];exact I _ _ (W6 _ _ xf e6)
 ·rw[Z0k xs];exact e8
 ·exact nq w7 h8
 ·cases e:H R with
  |none=>rfl
  |some o=>rw[S6 _ _ xs e]at h8;cases h8
theorem J5k(T:nofun)(L:Has P w K mg base (N+9) "kinds_of" ["program"] (Z6d ∅ K N))(g:HasM P w K mg base (N+5) C9 "block" ["self","house","word","kinds"] (Z5u C9 ∅ K N)):HasM P w K mg base (N+10) C9 "all_blocks" ["self"] (J2m C9 ∅ K N):=by
 walk_at "m m_Maker_all_blocks sc_Maker_all_blocks 1"
 obtain⟨U,st,wo,G,D,Z,J,n,rfl,hm,ok,o0,hd,hk,hc,hn,q⟩:=h;refine⟨_,(Z0a (qG 1 sc_Maker_all_blocks.nd (qF L hr (qI (qO 0)))) (Z0a (qG 2 sc_Maker_all_blocks.nd (Z0o Z0R)) (Z0a (Z1o PassesOwn.never rfl (Z1J (Z1T (qO 0) rfl)) (qH 3 sc_Maker_all_blocks.nd) (Z0c (Z1o PassesOwn.never rfl (Z1J (qO 3)) (qH 4 sc_Maker_all_blocks.nd) (Z0c (Z0A (Z1B qb5 qd2 qd3 Z0F (pvF 2) (qI (Z0D (pvF 0) T.Maker.cl g hr qS (qK (pvF 3) (pvF 4) (qD K (pvF 1) (qL T.z_len (qI (pvF 2))))))))))))) (Z0a (Z0A (Z1B qb5 qd2 qd3 Z0F (pvF 2) (qI (Z0D (pvF 0) T.Maker.cl g hr qS (qK Z0T (Z1T (qO 0) rfl) (qD K (pvF 1) (qL T.z_len (qI (pvF 2))))))))) (Z0c (Z0h (pvF 2))))))),?_⟩;walk_at "s 5 z";have z0:=hm;obtain⟨mx,hl,fi,pp,sv,a1,a2,a3,a4,a5,a6,a7,a8,a9⟩:=z0;refine⟨C9,mx,_,a1,T.Maker.cl,T.n_Maker_program,_,rfl,⟨pp,G,D,Z,rfl,a2,ok,qR,hd,hk,λ kl us H1 h1 s1 e1 hu=>?_⟩⟩;rw[<-Z7k]at hu;walk_at "n z1";refine New.of λ l2 H2 h2 s2 e2=>?_;have O:=s1.trans s2;have g0:l2≠st:=nq (s1 _ _ a7) h2;have A0:l2≠wo:=nq (s1 _ _ a5) h2;have B0:kl≠l2:=λ z=>by rw[z]at e1;rw[e1]at h2;cases h2
 have D0:kl≠st:=nq a7 h1;obtain⟨pa,p0,ht,hs,mv,rfl,ha,hq,hh,G0⟩:=Z4P a2;have h0:=O _ _ a7;have R:∀{H':Hp},(∀b o,b≠l2->b≠st->H2 b=some o->H' b=some o)->Kp H2 H':=λ Y=>⟨λ b I e=>Y _ _ (nq e2 e) (nq h0 e) e,λ b o I e=>Y _ _ (nq e2 e) (nq h0 e) e,λ b C dx f fs e=>Y _ _ (nq e2 e) (nq h0 e) e⟩;have l1:J.length<=10001:=by rw[hc.len];exact J5e ok o0
 walk_at "n z2";refine⟨C9,mx,_,O _ _ a1,T.Maker.cl,T.n_Maker_program,_,rfl,?_⟩;refine⟨pa,rfl,⟨Cp,p0,_,O _ _ ha,T.Program.cl,T.n_Program_all_houses,_,rfl,ht,rfl,⟨_,SqT.same hq O⟩,?_⟩⟩;have go:∀(H':Hp)(I:List V)(own:Option M2)(d:Wd)(rest:List (Option M2×Wd))(hv wv:V)(NX:Hp->Prop),ABS K C9 ∅ D N Z G J n U st wo l2 H2 H' I ((own,d)::rest)->OwO K ∅ H' G hv own->WdO K ∅ H' wv d->(∀v H7,ABS K C9 ∅ D N Z G J n U st wo l2 H2 H7 (I++[v]) rest->NX H7)->tyV K "list" (V.ref l2) H'/\Z8h C9 (Str.ofString "block") U H' (∃x,(SqL K H' l2 x\/SqT K H' l2 x)/\IxL K kl (x.length:Int) H' λ x H1=>Z5u C9 ∅ K N [V.ref U,hv,wv,x] H1 (λ x H1=>∃x4,H1 l2=some (.lst x4)/\x4.length<16777216/\NX (upd H1 l2 (.lst (x4++[x])))) E0):=λ H' I own d rest hv wv NX ⟨q0,I0,m,Y,el,hx,i0,J0,a0,s0⟩ ho hw nx=>by
  cases J0 with
  |@cons _ _ _ f0 m1 _ L0 _ c1 c2 c3 c4 c5 c6=>
  have lx:I.length<=10001:=by rw[hx.length];have:=congrArg qd9 a0;rw[qa2]at this;lia
  have M0:(bds G)[I.length]?=some (own,d):=by
   have:=congrArg (λ l=>l[0]?) s0;rw[qk1]at this;exact this
  have t0:((bds G).map λ p=>Z p.1 p.2)[I.length]?=some (Z own d):=by rw[qa8,M0];rfl
  obtain⟨u,N0,a,rfl,ua,ub,uc⟩:=hu.to t0;obtain⟨bx,j0,k0,_,_,l0⟩:=i0.meth;have O0:a≠l2:=λ z=>by rw[z]at uc;rw[uc]at h2;cases h2
  have u0:a≠st:=nq a7 ua;have mn:=c6.mono;obtain⟨⟨n1,Q0⟩,_⟩:=i0.at;refine⟨.inl ⟨rfl,_,SqL.of el⟩,⟨bx,j0,k0,l0,_,.inl (SqL.of el),⟨_,SqL.of (Y _ _ B0 D0 (s2 _ _ e1)),_,Z3b N0,⟨U,st,wo,a,hv,wv,G,D,own,d,_,m,m1,f0,rfl,i0,hd,ho,hw,Y _ _ O0 u0 (s2 _ _ uc),u0,c1,c2,c3,c4,c5,qR,λ v H6 d0 m6 r6=>⟨I,d0 _ _ g0 el,qR,?_⟩⟩⟩⟩⟩;have el6:=d0 _ _ g0 el;have m0:SX l2 H6 (upd H6 l2 (.lst (I++[v]))):=SX.put _;have e7:upd H6 l2 (.lst (I++[v])) l2=some (.lst (I++[v])):=Z0d;have v0:=SX.kpl m0 el6;generalize upd H6 l2 (.lst (I++[v]))=H7 at*;refine nx v H7 ⟨q0++[blkD own d.params f0],L0,m1,λ b o z1 z2 e=>m0 _ _ z1 (d0 _ _ z2 (Y _ _ z1 z2 e)),e7,RTs.app ((hx.kp (SX.kpl d0 Q0)).kp v0) (.cons (r6.kp v0) .nil),m6.sxl m0 el6 g0 A0,c6,by rw[a0,qb9];rfl,?_⟩;rw[qa2,<-List.drop_drop,s0];rfl
 refine Z2L hs (ABI (λ i H' I=>ABS K C9 ∅ D N Z G J n U st wo l2 H2 H' I (((G.houses.drop i).map bdX).flatten++[(none,G.main)])) (λ os=>some (.ref U)::some (.ref kl)::some (.ref l2)::os) 2) ⟨[],[none,none],⟨[],J,0,λ _ _ _ _ h=>h,e2,.nil,hm.same O,hc,rfl,rfl⟩,rfl,rfl⟩ (λ i σ H' _ h=>?_) (λ i y σ H' hy h=>?_) (λ σ H' h=>?_)
 ·obtain⟨I,os,⟨_,_,_,Y,_⟩,_⟩:=h;exact SqT.kp (SqT.same hq O) (R Y)
 ·obtain⟨I,os,hA,S,rfl⟩:=h;obtain⟨o3,o4,rfl⟩:=ln2 S;obtain⟨X,hX,ho⟩:=hh.at hy;have R0:=(qa6.mp hX).1;have S0:=qb4 hX;have T0:G.houses.drop i=X::G.houses.drop (i+1):=by rw[qf6 R0,(qa6.mp hX).2]
  rw[T0,qb7,qd5,qb9]at hA;have n0:=hA;obtain⟨_,_,_,Y,_⟩:=n0;have U0:=ho;cases ho with
  |@mk b bx ft wt ws _ f1 f2 w0 x0=>
  have lw:ws.length=X.words.length:=x0.len;have f1:=(R Y).i _ _ _ _ _ (O _ _ f1);have f3:=SqT.kp (SqT.same w0 O) (R Y);walk_at "r";refine⟨Ch,bx,_,f1,T.House.cl,T.n_House_own_words,_,rfl,wt,rfl,⟨_,f3⟩,?_⟩;refine Z2L ws (ABI (λ j H' I=>ABS K C9 ∅ D N Z G J n U st wo l2 H2 H' I ((X.words.drop j).map (λ w=>(some X.name,w))++(((G.houses.drop (i+1)).map bdX).flatten++[(none,G.main)]))) (λ os=>some (.ref U)::some (.ref kl)::some (.ref l2)::some (.ref b)::os) 1) ⟨I,[o4],hA,rfl,rfl⟩ (λ j σ H3 _ h=>?_) (λ j y σ H3 hy h=>?_) (λ σ H3 h=>?_)
  ·obtain⟨b0,os,⟨_,_,_,e0,_⟩,_⟩:=h;exact SqT.kp (SqT.same w0 O) (R e0)
  ·obtain⟨b0,os,M,S,rfl⟩:=h;obtain⟨o4,rfl⟩:=ln1 S;obtain⟨d,y0,Y0⟩:=x0.at hy;have Z0:=(qa6.mp y0).1;have ed:X.words.drop j=d::X.words.drop (j+1):=by rw[qf6 Z0,(qa6.mp y0).2]
   rw[ed]at M;have b1:=M;obtain⟨_,_,_,e0,_⟩:=b1;walk_at "r";exact go H3 b0 (some X.name) d _ (.ref b) y _ M (.inr ⟨X.name,X,rfl,⟨S0,rfl⟩,HsO.kp (U0.same O) (R e0)⟩) (WdO.kp (Y0.same O) (R e0)) λ v H7 d1=>⟨_,_,d1,rfl,rfl⟩
  ·obtain⟨b0,os,M,S,rfl⟩:=h;obtain⟨o4,rfl⟩:=ln1 S;have M:ABS K C9 ∅ D N Z G J n U st wo l2 H2 H3 b0 ((X.words.drop ws.length).map (λ w=>(some X.name,w))++(((G.houses.drop (i+1)).map bdX).flatten++[(none,G.main)])):=M;rw[lw,ql3]at M;exact⟨b0,[some (.ref b),o4],M,rfl,rfl⟩
 ·obtain⟨I,os,hA,S,rfl⟩:=h;obtain⟨o3,o4,rfl⟩:=ln2 S;have lh:hs.length=G.houses.length:=hh.len;have hA:ABS K C9 ∅ D N Z G J n U st wo l2 H2 H' I (((G.houses.drop hs.length).map bdX).flatten++[(none,G.main)]):=hA;rw[lh,ql3]at hA;have n0:=hA;obtain⟨_,_,_,Y,_⟩:=n0;have k':=R Y;have fin:∀v H7,ABS K C9 ∅ D N Z G J n U st wo l2 H2 H7 (I++[v]) []->uz4 {nx:=λ x H'=>Q V.non H',rt:=Q} [some (V.ref U),some (V.ref kl),some (V.ref l2),o3,o4] H7:=λ v H7 ⟨q0,I0,m,i1,el7,j1,o1,k1,a0,_⟩=>by
   cases k1;rw[qc8]at a0;subst a0;walk_at "n z4";exact q l2 _ H7 (s1.free h2) (λ b o c e=>i1 _ _ (nq (s1.free h2) e) c (O _ _ e)) el7 j1
  obtain⟨g1,bx,j0,k0,l0,g2⟩:=go H' I none G.main [] .non mv _ hA (.inl ⟨rfl,rfl⟩) (WdO.kp (G0.same O) k') fin;show uz3 _ _ _;walk_at "n z3";exact⟨g1,bx,j0,k0,l0,⟨C9,mx,_,k'.i _ _ _ _ _ (O _ _ a1),T.Maker.cl,T.n_Maker_program,_,rfl,pa,rfl,⟨Cp,p0,_,k'.i _ _ _ _ _ (O _ _ ha),T.Program.cl,T.n_Program_main,_,rfl,g2⟩⟩⟩
theorem Z8A(T:nofun)(c:HasM P w K mg base 3 C9 "__init__" ["self","program"] (J0i C9 ∅ K))(a:HasM P w K mg base (N+10) C9 "all_blocks" ["self"] (J2m C9 ∅ K N)):Has P w K mg base (N+11) "compiled" ["program"] (Z3R ∅ K N):=by
 walk_at "h O1w Z8r 1"
 obtain⟨I,G,D,J,g,n,rfl,R,ok,i,hd,S,U,X,q⟩:=h;refine⟨_,(Z0c (Z0h (Z1a (Z5e T.Maker c hr qS rfl (qI (pvF 0))) T.Maker.cl a hr qS))),?_⟩;walk_at "r";intro x Y L Z ne;have m:=Z2H (C:=C9) L Z ne;refine⟨x,Y,I,G,rfl,Z0d,R.same m,ok,qR,λ M wo H1 p O hs=>⟨rfl,?_⟩⟩;have j:Same H H1:=Z3D m p L;obtain⟨mx,r,u,v⟩:=O.meth2;have y:H M=none:=m.free hs;refine⟨mx,r,u,v,⟨x,M,wo,G,D,J,g,n,rfl,O,ok,i,hd,S,U,X,λ l xs H' h' z e' r'=>q l xs H' (j.free h') (λ b o e=>?_) e' r'⟩⟩;exact z _ _ (nq y e) (j _ _ e)
open P50 (Cho ChOk K5 H3 flT heads Z0I prs Z0V blocks Z0z D50 Sub)
inductive J1Q(K:X0)(vs:List V)(H:Hp)(Q:VK):Prop
 |mk(a:V0)(ns:List Int)(k:Nat)(a1:vs=[.ref a,.int k])(a2:SqL K H a (ns.map V.int))(a3:∀c,Q (.int c) H)
def Z6S(K:X0):Sp:=λ vs H Q _=>J1Q K vs H Q
structure ES where
 sc:V0
 ho:V0
 hd:V0
 wo:V0
 bl:V0
 fi:V0
 of:V0
 is:List Int
 c:Cho
def HdO(H:Hp)(v:V)(x:P50.Hd):Prop:=∃t pl,v=.ref t/\H t=some (.tup [.str x.h,.str x.w,.ref pl,.str x.k])/\H pl=some (.lst (x.ps.map V.str))
structure StA(K:X0)(B:Hp)(e:V0)(S:ES):Prop where
 e0:B e=none
 ok:ChOk S.c
 sc:SqL K B S.sc (S.is.map V.int)
 ho:B S.ho=some (.lst ((Z0I S.c.or).map V.str))
 hd:∃us,B S.hd=some (.lst us)/\A2 (HdO B) us S.c.hs
 wo:B S.wo=some (.lst ((Z0z S.c.bl []).map V.str))
 bl:∃us,B S.bl=some (.lst us)/\RTs K B us (S.c.bl.map Z1k)
 fi:∃kvs,B S.fi=some (.dK kvs)/\∀h∈H3,∃l us,valV kvs (.inr h)=some (.ref l)/\B l=some (.lst us)/\RTs K B us ((flT S.c.od S.c.yg S.c.ot h).map Z1k)
structure EvK(kvs:List (Key×V))(S:ES)(n M m:Nat)(own:Option M2)(ba:V0)(z:Nat):Prop where
 le:kvs.length<=20
 sc:valV kvs (.inr "script")=some (.ref S.sc)
 n:valV kvs (.inr "spot")=some (.int n)
 M:valV kvs (.inr "most")=some (.int M)
 ho:valV kvs (.inr "houses")=some (.ref S.ho)
 hd:valV kvs (.inr "heads")=some (.ref S.hd)
 m:valV kvs (.inr "sites")=some (.int m)
 wo:valV kvs (.inr "words")=some (.ref S.wo)
 bl:valV kvs (.inr "blocks")=some (.ref S.bl)
 fi:valV kvs (.inr "fields")=some (.ref S.fi)
 ow:valV kvs (.inr "own")=some (oS own)
 ba:valV kvs (.inr "bound")=some (.ref ba)
 z:valV kvs (.inr "size")=some (.int z)
 of:valV kvs (.inr "own_fields")=some (.ref S.of)
def J5y(H:Hp)(e:V0)(S:ES)(n M m:Nat)(own:Option M2)(ba:V0)(z:Nat):Prop:=∃a,H e=some (.dK a)/\EvK a S n M m own ba z
def ebd(own:Option M2)(bs:List (M2×M2)):List (M2×M2):=(match own with|some h=>[("",h)]|none=>[])++bs
def nms5:List M2:=["p","q","r","s","u"]
structure CA(K:X0)(H:Hp)(e:V0)(B:Hp)(S:ES)(n M m:Nat)(own:Option M2)(ba:V0)(bs:List (M2×M2))(z:Nat):Prop where
 st:StA K B e S
 sm:Same B H
 ev:J5y H e S n M m own ba z
 bd:∃us,H ba=some (.lst us)/\RTs K H us ((ebd own bs).map Z1k)
 ow:∀x,own=some x->x∈H3
 bk:∀p∈bs,p.1∈nms5/\p.2∈K5
 bl:bs.length<=30
section
variable{K:X0}{H H' B:Hp}{e ba:V0}{S:ES}{own:Option M2}{n M m n' m' z z':Nat}{bs:List (M2×M2)}
theorem CA.nel(c:CA K H e B S n M m own ba bs z){b:V0}(q:H b=some (.lst xs)):b≠e:=λ y=>by
 obtain⟨a,h,_⟩:=c.ev;rw[y,h]at q;cases q
theorem CA.kt(c:CA K H e B S n M m own ba bs z)(s:SX e H H'):Kt H H':=by
 obtain⟨a,h,_⟩:=c.ev;exact SX.ktd s h
theorem CA.go(c:CA K H e B S n M m own ba bs z)(s:SX e H H')(v:J5y H' e S n' M m' own ba z'):CA K H' e B S n' M m' own ba bs z':=
 ⟨c.st,λ b o h=>s _ _ (nq (c.st.e0) h) (c.sm _ _ h),v,let⟨us,a,b⟩:=c.bd;⟨us,s _ _ (c.nel a) a,b.kt (c.kt s)⟩,c.ow,c.bk,c.bl⟩
theorem CA.same(c:CA K H e B S n M m own ba bs z)(s:Same H H'):CA K H' e B S n M m own ba bs z:=
 ⟨c.st,c.sm.trans s,let⟨g,a,b⟩:=c.ev;⟨g,s _ _ a,b⟩,let⟨us,a,b⟩:=c.bd;⟨us,s _ _ a,b.same s⟩,c.ow,c.bk,c.bl⟩
theorem CA.at(c:CA K H e B S n M m own ba bs z):∃kvs,H e=some (.dK kvs)/\EvK kvs S n M m own ba z/\∀{x:M2}{u:V},valV kvs (.inr x)=some u->DGet H e (.str x) (some u):=by
 obtain⟨kvs,h,v⟩:=c.ev;exact⟨kvs,h,v,λ{x u} q=>.inl ⟨kvs,.inr x,.inl h,rfl,q.symm⟩⟩
theorem Z2D{k:Key}{v u:V}(h:valV kvs k=some u):(putK kvs k v).length=kvs.length:=by
 unfold putK;rw[Z3j,h];show(List.map _ kvs).length=_;rw[qa1]
theorem Z0l{x y:M2}{v u:V}(n:x≠y)(q:valV kvs (.inr x)=some u):valV (putK kvs (.inr y) v) (.inr x)=some u:=by
 rw[Z4N,if_neg (λ z=>n (Sum.inr.inj z))];exact q
theorem val_eq{y:M2}{v:V}:valV (putK kvs (.inr y) v) (.inr y)=some v:=by
 rw[Z4N,if_pos rfl]
theorem ltS{n k:Nat}(h:n<=k)(a:k<16777216:=by decide):n<16777216:=qh2 h a
theorem leS{n k:Nat}(h:n<=k)(a:k+1<=16777216:=by decide):n+1<=16777216:=qa9 (qg1 h) a
theorem DP{H:Hp}{e:V0}{x:M2}{v:V}{R:Hp->Prop}{n:Nat}(h:H e=some (.dK kvs))(l:kvs.length<=n)(q:∀H',SX e H H'->H' e=some (.dK (putK kvs (.inr x) v))->R H')(a:n<=100:=by decide):∃H',DPut H e (.str x) v H'/\R H':=⟨_,DPut.k (k:=.inr x) h (by rw[sizeLine_eq];lia),q _ (SX.put _) Z0d⟩
theorem pl{k:Key}{v:V}{n:Nat}(h:kvs.length<=n):(putK kvs k v).length<=n+1:=qa9 (Z1h _ _ _) (qg1 h)
theorem EvK.spot(v:EvK kvs S n M m own ba z):EvK (putK kvs (.inr "spot") (.int ((n:Int)+1))) S (n+1) M m own ba z:=
 ⟨by rw[Z2D v.n];exact v.le,Z0l qS v.sc,val_eq,Z0l qS v.M,Z0l qS v.ho,Z0l qS v.hd,Z0l qS v.m,Z0l qS v.wo,Z0l qS v.bl,Z0l qS v.fi,Z0l qS v.ow,Z0l qS v.ba,Z0l qS v.z,Z0l qS v.of⟩
theorem EvK.site(v:EvK kvs S n M m own ba z):EvK (putK kvs (.inr "sites") (.int ((m:Int)+1))) S n M (m+1) own ba z:=
 ⟨by rw[Z2D v.m];exact v.le,Z0l qS v.sc,Z0l qS v.n,Z0l qS v.M,Z0l qS v.ho,Z0l qS v.hd,val_eq,Z0l qS v.wo,Z0l qS v.bl,Z0l qS v.fi,Z0l qS v.ow,Z0l qS v.ba,Z0l qS v.z,Z0l qS v.of⟩
theorem EvK.bnd(v:EvK kvs S n M m own ba z)(a:V0):EvK (putK kvs (.inr "bound") (.ref a)) S n M m own a z:=
 ⟨by rw[Z2D v.ba];exact v.le,Z0l qS v.sc,Z0l qS v.n,Z0l qS v.M,Z0l qS v.ho,Z0l qS v.hd,Z0l qS v.m,Z0l qS v.wo,Z0l qS v.bl,Z0l qS v.fi,Z0l qS v.ow,val_eq,Z0l qS v.z,Z0l qS v.of⟩
theorem EvK.siz(v:EvK kvs S n M m own ba z)(z2:Nat):EvK (putK kvs (.inr "size") (.int z2)) S n M m own ba z2:=
 ⟨by rw[Z2D v.z];exact v.le,Z0l qS v.sc,Z0l qS v.n,Z0l qS v.M,Z0l qS v.ho,Z0l qS v.hd,Z0l qS v.m,Z0l qS v.wo,Z0l qS v.bl,Z0l qS v.fi,Z0l qS v.ow,Z0l qS v.ba,val_eq,Z0l qS v.of⟩
end
inductive J1P(K:X0)(vs:List V)(H:Hp)(Q:VK):Prop
 |mk(e ba:V0)(B:Hp)(S:ES)(own:Option M2)(n M m z:Nat)(bs:List (M2×M2))(a1:vs=[.ref e])(a2:CA K H e B S n M m own ba bs z)(a3:n<=100000000)(a4:∀(r:Nat) H',SX e H H'->CA K H' e B S (n+1) M m own ba bs z->Q (.int r) H')
def Z8s(K:X0):Sp:=λ vs H Q _=>J1P K vs H Q
theorem J5c(T:nofun):Has P w K mg base 1 "_law_cell_at" ["_law_script","_law_k"] (Z6S K):=by
 walk_at "h O0Q Z5y 2"
 obtain⟨a,b,k,rfl,c,q⟩:=h;refine⟨_,(Z0a (Z0t (qM J6p (pvF 1) (qL T.z_len (qI (pvF 0)))) (Z0c (Z0h (qD K (pvF 0) (pvF 1)))) Z0n) (Z0c (Z0h Z0f))),?_⟩;walk_at "r";refine⟨_,.inl c,ite2 (λ h=>?_) λ _=>q _⟩;rw[qa1]at h;have g:k<b.length:=by lia
 exact⟨_,c,_,Z3b (show(b.map V.int)[k]?=some (.int b[k])by rw[qa8,qa3 g];rfl),q _⟩
theorem J5R(T:nofun)(a:Has P w K mg base 1 "_law_cell_at" ["_law_script","_law_k"] (Z6S K)):Has P w K mg base 2 "_law_draw" ["_law_env_here"] (Z8s K):=by
 walk_at "h O0N O0l 1"
 obtain⟨e,ba,u,S,own,n,M,m,z,bs,rfl,c,L,q⟩:=h;refine⟨_,(Z0a (Z8W (Z2F hr) (pvF 0) Z0b Z0f Z8P (λ _ _ _=>rfl)) (Z0a (qG 1 O0l.nd (qB hr 0)) (Z0a (qG 2 O0l.nd (qF a hr (qJ (qB hr 0) (Z0j Z1q Z0f (Z0j Z0C (pvF 1) Z0f))))) (Z0c (Z0h (Z0j Z0C (Z0j Z1q (Z0j Z1q (Z0j Z1q (Z0j Z3U (pvF 2) Z0f) (Z0j Z3U (Z0j Z3U Z0f (pvF 1)) (pvF 1))) (Z0j Z3U Z0f (pvF 1))) Z0f) Z0f)))))),?_⟩;walk_at "s 4 z";obtain⟨v,y,o,get⟩:=c.at;refine⟨_,get o.n,_,rfl,DP y o.le λ C p D=>?_⟩;have j:=c.go p ⟨_,D,o.spot⟩;obtain⟨r,G,g,b⟩:=j.at;walk_at "n z1";refine⟨_,b g.n,?_⟩;walk_at "n z2";refine⟨_,b g.sc,S.sc,S.is,3+(n+1)%57,by rw[show((3+(n+1)%57:Nat):Int)=3+((n+1:Nat):Int)%57 by lia],j.st.sc.same j.sm,λ I=>?_⟩;walk_at "n z3";have J:∀x:Int,0<=x%2147483647:=λ x=>qk2 _ qS;have:=q ((I*48271+104729*((n+1:Nat):Int)*((n+1:Nat):Int)+7919*((n+1:Nat):Int)+12345)%2147483647).toNat C p j;rw[Int.toNat_of_nonneg (J _)]at this;exact⟨.inr ⟨qR,qR⟩,this⟩
inductive PrO(K:X0)(H0 H:Hp)(v:V)(t:Tm)(rows:List PyData):Prop
 |mk(a:_)(tv:_)(rl:_)(xs:_)(a1:v=.ref a)(a2:H a=some (.tup [tv,.ref rl]))(a3:RT K H tv t.dat)(a4:H0 rl=none)(a5:H rl=some (.lst xs))(a6:RTs K H xs rows)
def rk(k:M2):Nat:=if k="cc" then 2 else if k="aa"\/k="bb" then 1 else 0
def Lv(k:M2)(d:Int)(L:Nat):Prop:=k∈K5/\rk k<=L/\(1<=d->d+3<=L)
def BsR(bs' bs:List (M2×M2)):Prop:=A2 (λ p q=>p.1=q.1/\Sub p.2 q.2) bs' bs
theorem BsR.refl:∀bs,BsR bs bs
 |[]=>.nil
 |p::bs=>.cons ⟨rfl,.inl rfl⟩ (BsR.refl bs)
structure GT(S:ES)(own:Option M2)(bs:List (M2×M2))(m:Nat)(k:M2)(t:Tm)(rows:List PyData)(m':Nat):Prop where
 g:∀bs',BsR bs' bs->∃k' ks,GR (D50 S.c) own bs' m t (k'::ks) rows m'/\k'∈K5/\Sub k' k
 ok:P15.Ok t
def mi(M n:Nat):Nat:=min M n
variable{M:Nat}
theorem Z3e{n:Nat}:mi M n<=M:=Nat.min_le_left _ _
theorem Z6p{n s:Nat}:mi M n<=mi M (n+s):=Nat.le_min.mpr ⟨Nat.min_le_left _ _,qa9 (qi4 _ _) (qf5 _ _)⟩
theorem J5P{n:Nat}(h:n<=M):mi M n=n:=qk0 h
def nB(M n L:Nat):Prop:=M<=20000/\n+120*(L+1)<=120*mi M n+1000000
def szR(k:M2):Nat:=if k="cc" then 12 else if k="aa"\/k="bb" then 9 else 1
inductive Z9b(K:X0)(L:Nat)(vs:List V)(H:Hp)(Q:VK):Prop
 |mk(e ba:V0)(B:Hp)(S:ES)(own:Option M2)(n M m z:Nat)(bs:List (M2×M2))(k:M2)(d:Int)(a1:vs=[.ref e,.str k,.int d])(a2:CA K H e B S n M m own ba bs z)(a3:bs.length+L<=30)(a4:nB M n L)(a5:Lv k d L)(a6:∀v t rows m' H',SX e H H'->CA K H' e B S (n+t.size) M m' own ba bs (max z (kMax rows))->PrO K H H' v t rows->GT S own bs m k t rows m'->t.depth<=L+1->t.size+120*mi M n<=12+120*mi M (n+t.size)->(d<1->t.size<=szR k)->Q v H')
def Z2M(K:X0)(L:Nat):Sp:=λ vs H Q _=>Z9b K L vs H Q
inductive GTs(S:ES)(own:Option M2)(bs:List (M2×M2)):Nat->List M2->List Tm->List (List PyData)->Nat->Prop
 |nil{m}:GTs S own bs m [] [] [] m
 |cons{m k t rows m1 ks ts rss m2}:GT S own bs m k t rows m1->GTs S own bs m1 ks ts rss m2->GTs S own bs m (k::ks) (t::ts) (rows::rss) m2
inductive J1O(K:X0)(L:Nat)(vs:List V)(H:Hp)(Q:VK):Prop
 |mk(e ba kl:V0)(B:Hp)(S:ES)(own:Option M2)(n M m z:Nat)(bs:List (M2×M2))(ks:List M2)(d:Int)(a1:vs=[.ref e,.ref kl,.int d])(a2:CA K H e B S n M m own ba bs z)(a3:bs.length+L<=30)(a4:M<=20000)(a5:n+12*ks.length+120*(L+1)<=120*mi M n+1000000)(a6:H kl=some (.lst (ks.map V.str)))(a7:(∀k∈ks,Lv k d L))(a8:ks.length<=9)(a9:∀a tp rl us xs ts rss m' H',SX e H H'->CA K H' e B S (n+sumS ts) M m' own ba bs (max z (kMax rss.flatten))->H' a=some (.tup [.ref tp,.ref rl])->H' tp=some (.tup us)->RTs K H' us (dats ts)->H rl=none->H' rl=some (.lst xs)->RTs K H' xs rss.flatten->GTs S own bs m ks ts rss m'->(∀t∈ts,t.depth<=L+1)->sumS ts+120*mi M n<=12*ks.length+120*mi M (n+sumS ts)->(d<1->sumS ts<=(ks.map szR).sum)->Q (.ref a) H')
def Z5k(K:X0)(L:Nat):Sp:=λ vs H Q _=>J1O K L vs H Q
theorem GTs.snoc{S:ES}{own:Option M2}{bs:List (M2×M2)}{m c m2:Nat}{ks:List M2}{ts:List Tm}{b:List (List PyData)}{k:M2}{t:Tm}{rows:List PyData}(h:GTs S own bs m ks ts b c)(g:GT S own bs c k t rows m2):GTs S own bs m (ks++[k]) (ts++[t]) (b++[rows]) m2:=by
 induction h with
 |nil=>exact .cons g .nil
 |cons a _ e=>exact .cons a (e g)
variable{S:ES}
theorem GTs.len{own:Option M2}{bs:List (M2×M2)}{m c:Nat}{ks:List M2}{ts:List Tm}{a:List (List PyData)}(h:GTs S own bs m ks ts a c):ts.length=ks.length/\a.length=ks.length:=by
 induction h with
 |nil=>exact⟨rfl,rfl⟩
 |cons _ _ b=>exact⟨congrArg (·+1) b.1,congrArg (·+1) b.2⟩
theorem J2Z(ts:List Tm)(t:Tm):dats (ts++[t])=dats ts++[t.dat]:=by
 induction ts with
 |nil=>rfl
 |cons x ts a=>show x.dat::dats (ts++[t])=_;rw[a];rfl
theorem Z0L:∀ts:List Tm,(dats ts).length=ts.length
 |[]=>rfl
 |t::ts=>congrArg (·+1) (Z0L ts)
theorem CA.bes{K:X0}{B:Hp}{g l:V0}{own:Option M2}{n m z:Nat}{bs:List (M2×M2)}(c:CA K H e B S n M m own g bs z)(s:SX l H H')(j:H l=some (.lst xs))(p:B l=none)(nb:l≠g):CA K H' e B S n M m own g bs z:=
 ⟨c.st,λ b o h=>s _ _ (nq p h) (c.sm _ _ h),let⟨i,a,b⟩:=c.ev;⟨i,s _ _ (c.nel j).symm a,b⟩,let⟨us,a,b⟩:=c.bd;⟨us,s _ _ nb.symm a,b.kp (SX.kpl s j)⟩,c.ow,c.bk,c.bl⟩
inductive SOI(K:X0)(e:V0)(B:Hp)(S:ES)(own:Option M2)(ba:V0)(bs:List (M2×M2))(n M m z L:Nat)(d:Int)(ks:List M2)(H H3:Hp)(l1:V0)(σ0:List (Option V)->St)(i:Nat)(σ:St)(H':Hp):Prop
 |mk(ts:_)(rss:_)(us:_)(xs:_)(lr:_)(m':_)(os:_)(a1:(∀b o,b≠e->b≠l1->H3 b=some o->H' b=some o))(a2:H lr=none)(a3:CA K H' e B S (n+sumS ts) M m' own ba bs (max z (kMax rss.flatten)))(a4:H' l1=some (.lst us))(a5:RTs K H' us (dats ts))(a6:H' lr=some (.lst xs))(a7:lr≠l1)(a8:RTs K H' xs rss.flatten)(a9:GTs S own bs m (ks.take i) ts rss m')(a10:(∀t∈ts,t.depth<=L+1))(a11:sumS ts+120*mi M n<=12*i+120*mi M (n+sumS ts))(a12:rss.flatten.length<=2*sumS ts)(a13:(d<1->sumS ts<=((ks.take i).map szR).sum))(a14:os.length=3)(a15:σ=σ0 (some (.ref lr)::os))
variable{L:Nat}
theorem J5U(T:nofun)(g:Has P w K mg base (6*L+10) "_law_grown" ["_law_env_here","_law_kind","_law_depth"] (Z2M K L)):Has P w K mg base (6*L+11) "_law_some" ["_law_env_here","_law_kinds","_law_depth"] (Z5k K L):=by
 walk_at "h O1m O0m 3"
 obtain⟨e,ba,kl,B',S,own,n,M,m,z,bs,ks,d,rfl,c,e0,hM,hn,hk,f0,t0,q⟩:=h;refine⟨_,(Z0a (J4t (i:=3) (j:=4) rfl O0m.nd rfl rfl qS rfl rfl (qJ (Z0o Z0R) (Z0o Z0R)) rfl) (Z0a (Z1o PassesOwn.never rfl (Z1b (pvF 1)) (qH 5 O0m.nd) (Z0a (Z0Q (qF g hr (qK (pvF 0) (pvF 5) (pvF 2))) (Z0v (n:=2) rfl (Z0e (qH 6 O0m.nd) (Z0e (qH 7 O0m.nd) Z0s)))) (Z0a (Z0A (Z1B qb5 qd2 qd3 Z0F (pvF 3) (qI (pvF 6)))) (Z0c (qG 4 O0m.nd (Z0j Z0y (pvF 4) (pvF 7))))))) (Z0c (Z0h (Z0i (qJ (Z0w Z0u rfl T.O0k Z0X (qI (pvF 3))) (pvF 4))))))),?_⟩;walk_at "s 3 z";refine New.of λ l1 H1 X s1 e1=>New.of λ l2 H2 h2 s2 e2=>?_;have S2:=s1.trans s2;have g0:l2≠l1:=nq e1 h2;have c2:=c.same S2;have h0:B' l1=none:=c.sm.free X;have i0:l1≠ba:=λ y=>by obtain⟨_,a,_⟩:=c.bd;rw[y,a]at X;cases X
 have j0:l1≠e:=c2.nel (s2 _ _ e1);have k0:kl≠l1:=nq X hk;have l0:kl≠e:=c.nel hk;walk_at "n z1";refine⟨⟨_,SqL.of (S2 _ _ hk)⟩,Z1p (ks.map V.str) (SOI K e B' S own ba bs n M m z L d ks H H2 l1 λ os=>some (.ref e)::some (.ref kl)::some (.int d)::some (.ref l1)::os) ⟨[],[],[],[],l2,m,[none,none,none],λ _ _ _ _ h=>h,s1.free h2,(by show CA K H2 e B' S n M m own ba bs (max z 0);rw[Nat.max_zero];exact c2),s2 _ _ e1,.nil,e2,g0,.nil,.nil,(λ t h=>by cases h),(by show 0+120*mi M n<=12*0+120*mi M n;lia),qb0 _,(λ _=>qb0 _),rfl,rfl⟩ (λ i σ H' _ h=>?_) (λ i y σ H' hy h=>?_) (λ σ H' h=>?_)⟩
 ·obtain⟨_,_,_,_,_,_,_,Y,_⟩:=h;exact SqL.of (Y _ _ l0 k0 (S2 _ _ hk))
 ·obtain⟨I,u,us,xs,lr,m',os,Y,a0,cc,el1,hu,G,b0,hx,p,J,N,m0,C,O,rfl⟩:=h;obtain⟨o5,o6,o7,rfl⟩:=ln3 O;rw[qa8]at hy;obtain⟨k,R,rfl⟩:=qc1.mp hy;have u0:=(qa6.mp R).1;have n0:lr≠e:=cc.nel G;have km:k∈ks:=qb4 R;have mn:mi M n<=mi M (n+sumS I):=Z6p;walk_at "r";refine⟨e,ba,B',S,own,n+sumS I,M,m',_,bs,k,d,rfl,cc,e0,⟨hM,qR⟩,f0 k km,λ v t rows m2 Z D c5 pr gt dp sz sr=>?_⟩;obtain⟨a,tv,rl,xr,rfl,pa,pt,pn,o0,d0⟩:=pr;obtain⟨k',v0,gr,_,_⟩:=gt.g bs (BsR.refl bs);have w0:=gr.rlen;rw[qe3 n]at sz;have ml:=Z3e (M:=M) (n:=n+(sumS I+t.size));have p0:rl≠l1:=nq el1 pn;have el5:=D _ _ j0 el1;have q0:=D _ _ n0 G;have kt:=cc.kt D;refine⟨a,rfl,_,SqT.of pa,rfl,⟨_,_,rfl,⟨_,_,rfl,rfl,.inl ⟨rfl,_,SqL.of el5⟩,us,el5,?_,?_⟩⟩⟩
  ·rw[hu.length,Z0L,p.len.1,qd0];lia
  have r:SX l1 Z (upd Z l1 (.lst (us++[tv]))):=SX.put _;have e6:upd Z l1 (.lst (us++[tv])) l1=some (.lst (us++[tv])):=Z0d;have k6:=SX.kpl r el5;have c6:=c5.bes r el5 h0 i0;generalize upd Z l1 (.lst (us++[tv]))=H6 at*;have et:ks.take (i+1)=ks.take i++[k]:=by rw[qd4,R];rfl
  have ef:(u++[rows]).flatten=u.flatten++rows:=by rw[qh8];simp
  have es:sumS (I++[t])=sumS I+t.size:=by rw[Z3W];rfl
  have lx:=hx.length;have x0:=d0.length;refine⟨rl,rfl,xs,r _ _ b0 q0,xr,r _ _ p0 o0,qR,New.of λ p7 H7 h7 U e7=>⟨I++[t],u++[rows],us++[tv],xs++xr,p7,m2,_,λ b o y1 y2 q'=>U _ _ (r _ _ y2 (D _ _ y1 (Y _ _ y1 y2 q'))),?_,?_,U _ _ e6,?_,e7,?_,?_,?_,?_,?_,?_,?_,rfl,rfl⟩⟩
  ·cases y:H p7 with
   |none=>rfl
   |some o=>
    have y1:p7≠e:=λ w=>by obtain⟨y0,w1,_⟩:=c6.ev;rw[w,w1]at h7;cases h7
    have y2:p7≠l1:=nq e6 h7;rw[r _ _ y2 (D _ _ y1 (Y _ _ y1 y2 (S2 _ _ y)))]at h7;cases h7
  ·rw[es,ef,Z2I,<-qg4,<-qe3];exact c6.same U
  ·rw[J2Z];exact RTs.app (((hu.kt kt).kp k6).same U) (.cons ((pt.kp k6).same U) .nil)
  ·exact nq e6 h7
  ·rw[ef];exact RTs.app (((hx.kt kt).kp k6).same U) ((d0.kp k6).same U)
  ·rw[et];exact p.snoc gt
  ·exact λ x s0=>(qa7.mp s0).elim (J x) λ w=>by rw[qa5.mp w];exact dp
  ·rw[es];lia
  ·rw[ef,es,qa2];lia
  ·intro hd;have X:=C hd;have h2:=sr hd;rw[es,et,qb6,qk9];show _<=_+(szR k+0);lia
 ·obtain⟨I,u,us,xs,lr,m',os,Y,a0,cc,el1,hu,G,b0,hx,p,J,N,m0,C,O,rfl⟩:=h;obtain⟨o5,o6,o7,rfl⟩:=ln3 O;rw[qa1]at p N C;rw[qd1]at p C;show uz2 _ _ _;walk_at "n z2";refine⟨us,.inl ⟨SqL.of el1,λ l4 h4=>?_⟩⟩;have s4:=Z0r h4 (.tup us);have e4:upd H' l4 (.tup us) l4=some (.tup us):=Z0d;generalize upd H' l4 (.tup us)=H4 at*;refine New.of λ p5 Z h5 s5 e5=>?_;have S5:=s4.trans s5;exact q p5 l4 lr us xs I u m' Z (λ b o y e'=>S5 _ _ (Y _ _ y (λ w=>by rw[w,X]at e';cases e') (S2 _ _ e'))) (cc.same S5) e5 (s5 _ _ e4) (hu.same S5) a0 (S5 _ _ G) (hx.same S5) p J N C
theorem GTs.grs{own:Option M2}{bs:List (M2×M2)}{f:Fm}{l:Lb}{m:Nat}{ks:List M2}{ts:List Tm}{c:List (List PyData)}(h:GTs S own bs m ks ts c i)(n:f≠.lt){bs':List (M2×M2)}(o:BsR bs' bs):∀fs,∃b e,GRs (D50 S.c) own f l bs' fs m ts b e c i/\A2 (λ a k=>a∈K5/\Sub a k) b ks:=by
 induction h with
 |nil=>exact λ fs=>⟨[],[],.nil,.nil⟩
 |cons g _ p=>
  intro fs;obtain⟨j,q,r,u,v⟩:=g.g bs' o;obtain⟨b,e,x,y⟩:=p (fs++[j]);exact⟨j::b,_,.cons (by rw[PK.bsAt_ne n];exact r) x,.cons ⟨u,v⟩ y⟩
theorem GTs.oks{own:Option M2}{bs:List (M2×M2)}{m b:Nat}{ks:List M2}{ts:List Tm}{a:List (List PyData)}(h:GTs S own bs m ks ts a b):∀t∈ts,P15.Ok t:=by
 induction h with
 |nil=>exact λ t h=>by cases h
 |cons g _ c=>exact λ t i=>(qa4.mp i).elim (λ e=>by rw[e];exact g.ok) (c t)
def NQ(K:X0)(e:V0)(B:Hp)(S:ES)(own:Option M2)(ba:V0)(bs:List (M2×M2))(n M m z L:Nat)(k:M2)(d:Int)(H:Hp)(Q:VK):Prop:=
 ∀v t a c b,SX e H b->CA K b e B S (n+(t.size-1)) M c own ba bs (max z (kMax a))->PrO K H b v t a->GT S own bs m k t a c->t.depth<=L+2->t.size+120*mi M n<=109+120*mi M (n+(t.size-1))->(d<1->t.size<=szR k)->Q v b
def nC(M n L:Nat):Prop:=M<=20000/\n+108+120*(L+1)<=120*mi M n+1000000
theorem kn5{c:Cho}(ok:ChOk c):∀a∈K5,KN (D50 c) a:=λ a b=>by
 have e:=(P50.ord_facts c.or ok.or).1;have:∀a∈K5,a∈NN\/a∈H3:=by decide+kernel
 exact(this a b).imp id (e a)
theorem J5o{c:Cho}(ok:ChOk c){b:List M2}{ps:List (M2×M2)}(h:A2 (λ a k=>a∈K5/\Sub a k) b (ps.map Prod.snd))(m:∀p∈ps,p.2∈K5):AF (D50 c) b ps:=by
 refine⟨by rw[h.len,qa1],λ i a p n e=>?_⟩;obtain⟨k,g,j,o⟩:=h.at n;rw[qa8,e]at g;cases g;exact⟨kn5 ok a j,P50.sub_facts a j p.2 (m p (qb4 e)) o⟩
theorem J7a{xs:List M2}{x:M2}(h:x∈xs):∃j,IxAt xs x j:=let⟨j,_,a⟩:=P23.Z2b h;⟨j,a⟩
theorem Z3M:∀{ts:List Tm},(∀t∈ts,t.depth<=N)->maxD ts<=N
 |[],_=>qb0 _
 |t::ts,h=>Nat.max_le.mpr ⟨h t qc2,Z3M λ x a=>h x (qc4 _ a)⟩
theorem h3k:∀x∈H3,x∈K5:=by decide+kernel
theorem J6L:∀od∈[1,2,4],∀a∈[0,1,2,4],∀b∈[0,1,2],∀h∈H3,∀k∈H3,Sub h k->1+((flT od a b h).map (szR∘Prod.snd)).sum<=szR k:=by decide+kernel
theorem Z1w{A:List PyData}{s:M2}{r:List PyData}(h:s≠"keep"):kMax (A++[.tuple (.str s::r)])=kMax A:=by
 rw[Z2I];have:kMax [.tuple (.str s::r)]=0:=by
  unfold kMax;rw[qi0,show kOf (.tuple (.str s::r))=none from if_neg h];rfl
 rw[this,Nat.max_zero]
theorem Z8E{own:Option M2}{bs:List (M2×M2)}{m b:Nat}{ks:List M2}{ts:List Tm}{a:List (List PyData)}(h:GTs S own bs m ks ts a b):a.flatten.length<=2*sumS ts:=by
 obtain⟨_,_,g,_⟩:=h.grs (f:=.new) (l:=.non) (λ y=>by cases y) (BsR.refl bs) [];exact g.rlen
inductive J4x(K:X0)(L:Nat)(vs:List V)(H:Hp)(Q:VK):Prop
 |mk(e ba:V0)(B:Hp)(S:ES)(own:Option M2)(n M m z r:Nat)(bs:List (M2×M2))(k:M2)(d:Int)(a1:vs=[.ref e,.str k,.int r,.int d])(a2:CA K H e B S n M m own ba bs z)(a3:bs.length+L<=30)(a4:nC M n L)(a5:k∈H3)(a6:Lv k d (L+1))(a7:NQ K e B S own ba bs n M m z L k d H Q)
def Z9y(K:X0)(L:Nat):Sp:=λ vs H Q _=>J4x K L vs H Q
theorem J6X(T:nofun)(u:Has P w K mg base (6*L+11) "_law_some" ["_law_env_here","_law_kinds","_law_depth"] (Z5k K L)):Has P w K mg base (6*L+12) "_law_new" ["_law_env_here","_law_kind","_law_cell","_law_depth"] (Z9y K L):=by
 walk_at "h O0U O0n 4"
 obtain⟨e,ba,B',S,own,n,M,m,z,r,bs,k,d,rfl,c,h0,⟨hM,hn⟩,hk,i0,q⟩:=h;refine⟨_,(Z0a (qG 4 O0n.nd (pvF 1)) (Z0a (Z0t (PW.pt (Z4b (qM Z0B (pvF 1) Z0b) (Z3a (qM Z0B (Z0j Z0C (pvF 2) Z0f) Z0f)))) (Z0c (qG 4 O0n.nd Z0b)) Z0n) (Z0a (Z0Q (qF u hr (qK (pvF 0) (Z1e rfl (BlockOk.plain (N:=["_law_field"]) rfl qP qP qP) (Z1b (qE hr (qB hr 0) (pvF 4))) (λ C fp s H=>(qH 0 (show(["_law_field"]:List M2).Nodup by decide+kernel))) (λ C fp s H=>(qA K 0))) (Z0j Z1V (pvF 3) Z0f))) (Z0v (n:=2) rfl (Z0e (qH 5 O0n.nd) (Z0e (qH 6 O0n.nd) Z0s)))) (Z0c (Z0h (Z0i (qJ (Z0i (qK Z0b (pvF 4) (pvF 5))) (Z0j Z0y (pvF 6) (Z0o (qI (Z0i (qK Z0b (Z1B qb5 qg2 qg3 Z3C (qB hr 0) (qI (pvF 4))) (qL T.z_len (qI (pvF 5))))))))))))))),?_⟩;walk_at "s 4 z";walk_at "n z1";have go:∀h:M2,h∈H3->Sub h k->uz2 {nx:=λ x H'=>Q V.non H',rt:=Q} [some (V.ref e),some (V.str k),some (V.int r),some (V.int d),some (V.str h),none,none] H:=λ h U hs=>by
  obtain⟨B0,G0,ev,get⟩:=c.at;obtain⟨j0,f1,f2⟩:=c.st.fi;obtain⟨l,us,v1,v2,v3⟩:=f2 h U;have F1:=c.sm _ _ f1;have V2:=c.sm _ _ v2;have V3:=v3.same c.sm;have ff:=P50.field_facts S.c.od c.st.ok.od S.c.yg c.st.ok.yg S.c.ot c.st.ok.ot h U;generalize hF:flT S.c.od S.c.yg S.c.ot h=F at ff V3;have lu:us.length=F.length:=by rw[V3.length,qa1]
  obtain⟨Y,I0,k0⟩:=ff;walk_at "n z2";refine⟨_,get ev.fi,_,rfl,_,.inl ⟨j0,.inr h,.inl F1,rfl,v1.symm⟩,l,rfl,⟨_,SqL.of V2⟩,λ D0 hD=>Z4x (ys:=us) none [] (λ j v _=>∃t,F[j]?=some t/\v=.str t.2) (λ _ _ _ _ h _=>h) rfl hD (by rw[sizeLine_eq];lia) (λ H3 s=>SqL.of (s _ _ V2)) (λ i y hy H3 K' s3 k'=>?_) (λ J0 H3 s3 hv lv hR=>?_)⟩
  ·obtain⟨b,t,w1,w2,rfl,ht,hz,rfl,rfl⟩:=Z5J V3 hy;walk_at "r";exact⟨_,SqT.same hz s3,_,ix1,k' _ _ (Same.refl _) ⟨t,ht,rfl⟩⟩
  rw[Z1D (g:=λ t:M2×M2=>V.str t.2) (lv.trans lu) hR,show F.map (λ t:M2×M2=>V.str t.2)=(F.map Prod.snd).map V.str by rw[qc7];rfl]at hv;have lF:(F.map Prod.snd).length<=8:=by rw[qa1];exact k0
  have l0:∀x∈F.map Prod.snd,Lv x (d-1) L:=λ x hx=>by
   obtain⟨f,hf,rfl⟩:=qe0.mp hx;obtain⟨g1,g2⟩:=Y f hf;obtain⟨l1,l2,l3⟩:=i0;refine⟨g1,?_,λ hd=>by have:=l3 qR;lia⟩;by_cases hd:1<=d
   ·have:=l3 hd;have:∀x∈K5,rk x<=2:=by decide+kernel
    have:=this f.2 g1;lia
   ·rcases g2 with g|g|⟨g,g'⟩
    ·rw[g];exact qa9 qP (qb0 L)
    ·rw[g];exact qa9 qP (qb0 L)
    ·rw[g'];have:k="cc":=by
      rcases hs with J|⟨J,_⟩
      ·rw[<-J,g]
      ·rw[g]at J;exact absurd J qP
     rw[this]at l2;have h2:rk "cc"=2:=by decide+kernel
     have h1:rk "bb"=1:=by decide+kernel
     lia
  refine⟨e,ba,D0,B',S,own,n,M,m,z,bs,F.map Prod.snd,d-1,rfl,c.same s3,h0,hM,qR,hv,l0,qR,λ a tp rl us4 m0 ts G m' H4 n0 X e4 Z a0 L0 o0 b0 I p0 M0 q0=>⟨a,rfl,_,SqT.of e4,rfl,⟨_,_,rfl,⟨_,_,rfl,rfl,?_⟩⟩⟩⟩;obtain⟨w0,x0,N0,y0⟩:=X.at;have ml:=Z3e (M:=M) (n:=n+sumS ts);have d0:=X.sm _ _ X.st.ho;have e0:=P50.ord_facts S.c.or c.st.ok.or;obtain⟨j,hj⟩:=J7a (e0.1 h U);have gl:=I.len;have O0:ts.length=F.length:=by rw[gl.1,qa1]
  have s0:us4.length=ts.length:=by rw[a0.length,Z0L]
  walk_at "n z3";refine New.of λ p5 H5 h5 O e5=>?_;obtain⟨z0,A0,t0,f0⟩:=(X.same O).at;refine⟨_,f0 t0.ho,.inl ⟨rfl,_,SqL.of (O _ _ d0)⟩,S.ho,rfl,_,O _ _ d0,j,hj.1,hj.2,us4,.inr (SqT.of (O _ _ Z)),New.of λ p6 H6 h6 s6 e6=>New.of λ p7 H7 h7 s7 e7=>⟨m0,s7 _ _ (s6 _ _ (O _ _ o0)),_,e7,?_,New.of λ p8 H8 h8 s8 e8=>New.of λ p9 H9 h9 s9 e9=>?_⟩⟩
  ·rw[b0.length];have:=Z8E I;show _+1<=_;lia
  have S9:=O.trans (s6.trans (s7.trans (s8.trans s9)));have S8:=O.trans (s6.trans s7);have g0:SX e H H4:=λ b o y J=>n0 _ _ y (s3 _ _ J);have gg:=λ bs' hb=>I.grs (f:=.new) (l:=.str h) (λ y=>by cases y) (bs':=bs') hb [];have R:(P15.Tm.mk .new (.str h) ts).size=1+sumS ts:=rfl;have u0:(D50 S.c).fl h=F:=hF;refine q (.ref p9) (.mk .new (.str h) ts) (G.flatten++[r2 "make" j ts.length]) m' H9 (λ b o y J=>S9 _ _ (g0 _ _ y J)) ?_ ⟨p9,.ref p5,p8,_,rfl,e9,?_,?_,s9 _ _ e8,?_⟩ ⟨λ bs' hb=>by
   obtain⟨v0,Q0,g1,g2⟩:=gg bs' hb;exact⟨h,_,.mk g1 (by have:=PK.Own.new (D:=D50 S.c) (own:=own) (bs:=bs') (fs:=v0) (rs:=G) (n:=m') (e0.1 h U) hj (by rw[u0];exact J5o c.st.ok g2 λ p hp=>(Y p hp).1);rw[g2.len,<-gl.1]at this;exact this) qR,h3k h U,hs⟩,.mk trivial I.oks⟩ ?_ ?_ ?_
  ·rw[R,show 1+sumS ts-1=sumS ts by lia,show kMax (G.flatten++[r2 "make" j ts.length])=kMax G.flatten from Z1w qP];exact X.same S9
  ·refine .tup (SqT.of ((s6.trans (s7.trans (s8.trans s9))) _ _ e5)) (.cons (.str _) (.cons (.str _) (.cons (.tup (SqT.of (S9 _ _ Z)) (a0.same S9)) .nil)))
  ·cases y:H p8 with
   |none=>rfl
   |some o=>
    have y1:p8≠e:=λ w=>by obtain⟨kv,w1,_⟩:=(X.same S8).ev;rw[w,w1]at h8;cases h8
    rw[S8 _ _ (g0 _ _ y1 y)]at h8;cases h8
  ·refine RTs.app (b0.same S9) (.cons (.tup (SqT.of ((s7.trans (s8.trans s9)) _ _ e6)) (.cons (.str _) (.cons (.int _) (.cons (by rw[s0];exact .int _) .nil)))) .nil)
  ·show 1+maxD ts<=_;have:=Z3M p0;lia
  ·rw[R,show 1+sumS ts-1=sumS ts by lia];lia
  ·intro hd;have h1:=q0 qR;have h2:=J6L S.c.od c.st.ok.od S.c.yg c.st.ok.yg S.c.ot c.st.ok.ot h U k hk hs;rw[hF]at h2;rw[qc7]at h1;rw[R];exact qa9 (Nat.add_le_add_left h1 1) h2
 refine ite2 (λ e1=>ite2 (λ _=>go "bb" qP (.inr ⟨rfl,e1⟩)) λ _=>go k hk (.inl rfl)) λ _=>go k hk (.inl rfl)
inductive J4A(K:X0)(L:Nat)(vs:List V)(H:Hp)(Q:VK):Prop
 |mk(e ba:V0)(B:Hp)(S:ES)(own:Option M2)(n M m z r:Nat)(bs:List (M2×M2))(k:M2)(d:Int)(a1:vs=[.ref e,.str k,.int r,.int d])(a2:CA K H e B S n M m own ba bs z)(a3:bs.length+L<=30)(a4:nC M n L)(a5:1<=d)(a6:Lv k d (L+1))(a7:NQ K e B S own ba bs n M m z L k d H Q)
def J4F(K:X0)(L:Nat):Sp:=λ vs H Q _=>J4A K L vs H Q
inductive Z9x(K:X0)(L:Nat)(vs:List V)(H:Hp)(Q:VK):Prop
 |mk(e ba:V0)(B:Hp)(S:ES)(own:Option M2)(n M m z r:Nat)(bs:List (M2×M2))(k:M2)(d:Int)(a1:vs=[.ref e,.str k,.int r,.int d])(a2:CA K H e B S n M m own ba bs z)(a3:bs.length+L<=30)(a4:nC M n L)(a5:1<=d)(a6:Lv k d (L+1))(a7:(∀H',Same H H'->Q .non H'))(a8:NQ K e B S own ba bs n M m z L k d H Q)
def Z4Q(K:X0)(L:Nat):Sp:=λ vs H Q _=>Z9x K L vs H Q
theorem Lv.dn{k x:M2}{d:Int}(h:Lv k d (L+1))(g:1<=d)(e:x∈K5):Lv x (d-1) L:=by
 obtain⟨a,b,c⟩:=h;have:=c g;have:∀x∈K5,rk x<=2:=by decide+kernel
 have:=this x e;exact⟨e,qR,λ _=>by lia⟩
variable{Q:VK}
theorem NQ.fin{K:X0}{r:V0}{B:Hp}{own:Option M2}{bs:List (M2×M2)}{n m z:Nat}{k:M2}{d:Int}{h i H9:Hp}{t:Tm}{rows:List PyData}{m' sz z4:Nat}{a c:V0}{j:V}(q:NQ K e B S own r bs n M m z L k d H Q)(hd:1<=d)(sx:SX e H h)(u:CA K h e B S (n+sz) M m' own r bs (max z z4))(hs:t.size=sz+1)(hz:kMax rows=z4)(p:Same h i)(g:i a=none)(x:Same i H9)(A:H9 a=some (.lst xs))(C:RTs K H9 xs rows)(D:H9 c=some (.tup [j,.ref a]))(E:RT K H9 j t.dat)(G:GT S own bs m k t rows m')(I:t.depth<=L+2)(R:sz+120*mi M n<=108+120*mi M (n+sz)):Q (.ref c) H9:=by
 have v:=p.trans x;refine q (.ref c) t rows m' H9 (λ b o y J=>v _ _ (sx _ _ y J)) (by rw[hs,Nat.add_sub_cancel,hz];exact u.same v) ⟨c,j,a,xs,rfl,D,E,?_,A,C⟩ G I (by rw[hs,Nat.add_sub_cancel];lia) λ y=>by lia
 cases y:H a with
 |none=>rfl
 |some o=>
  have N:a≠e:=λ w=>by obtain⟨T,O,_⟩:=(u.same p).ev;rw[w,O]at g;cases g
  rw[p _ _ (sx _ _ N y)]at g;cases g
theorem Z9h:∀k∈NN,∀a,Sub a k->a=k:=λ k b a h=>by
 rcases h with e|⟨_,e⟩
 ·exact e
 ·rw[e]at b;exact absurd b qP
theorem J6O:∀k∈H3,∀a∈K5,Sub a k->a∉NN:=by decide+kernel
theorem GR.two{own:Option M2}{bs:List (M2×M2)}{f:Fm}{l:Lb}{m h m2:Nat}{i j:M2}{e g:Tm}{n o:List PyData}(v:f≠.lt)(r:GT S own bs m i e n h)(u:GT S own bs h j g o m2):(∀bs',BsR bs' bs->∃a b c,GRs (D50 S.c) own f l bs' [] m [e,g] [a,b] c [n,o] m2/\(a∈K5/\Sub a i)/\(b∈K5/\Sub b j))/\∀t∈[e,g],P15.Ok t:=by
 refine⟨λ bs' x=>?_,(GTs.cons r (.cons u .nil)).oks⟩;obtain⟨y,c,z,A⟩:=(GTs.cons r (.cons u .nil)).grs (f:=f) (l:=l) v x [];cases A with
 |cons p q=>
  cases q with
  |cons C D=>
   cases D;exact⟨_,_,_,z,p,C⟩
theorem GR.one{own:Option M2}{bs:List (M2×M2)}{f:Fm}{l:Lb}{m e:Nat}{g:M2}{c:Tm}{h:List PyData}(j:f≠.lt)(i:GT S own bs m g c h e):(∀bs',BsR bs' bs->∃a b,GRs (D50 S.c) own f l bs' [] m [c] [a] b [h] e/\(a∈K5/\Sub a g))/\∀t∈[c],P15.Ok t:=by
 refine⟨λ bs' n=>?_,(GTs.cons i .nil).oks⟩;obtain⟨o,b,r,u⟩:=(GTs.cons i .nil).grs (f:=f) (l:=l) j n [];cases u with
 |cons p q=>
  cases q;exact⟨_,_,r,p⟩
theorem Z6P{l:List PyData}{s:M2}{r:List PyData}(h:s≠"keep"):kMax (.tuple (.str s::r)::l)=kMax l:=by
 show kMax ([.tuple (.str s::r)]++l)=_;rw[Z2I,show kMax [.tuple (.str s::r)]=0 from Z1w (A:=[]) h,Nat.zero_max]
theorem pkS(xs:List M2){n:Int}(e:(xs.length:Int)=n)(g:0<xs.length)(i:Int):∃x∈xs,atI (xs.map V.str) (i%n)=some (.str x):=by
 have a:=qk2 i (show n≠0 by lia);have b:=qn3 i (show 0<n by lia);obtain⟨j,c⟩:=Int.eq_ofNat_of_zero_le a;rw[c]at b ⊢;have hl:j<xs.length:=by lia
 exact⟨xs[j],qk7 hl,Z3b (by rw[qa8,qa3 hl];rfl)⟩
theorem J7Y{a b:Prop}[Decidable a][Decidable b]{X Y:Prop}(g:a\/b->X)(h:¬a->¬b->Y):if a then X else if b then X else Y:=by
 by_cases c:a
 ·rw[if_pos c];exact g (.inl c)
 ·rw[if_neg c];by_cases e:b
  ·rw[if_pos e];exact g (.inr e)
  ·rw[if_neg e];exact h c e
theorem sgn(i:Int):∃x y,atI (Str.ofString "+-*/").cps.toList (i%4)=some x/\atI [V.str (Str.ofString "add"),V.str (Str.ofString "sub"),V.str (Str.ofString "mul"),V.str (Str.ofString "div")] (i%4)=some (.str y)/\(({cps:=#[x]}:M2),y)∈signR.take 4:=by
 have a:=qk2 i (show(4:Int)≠0 by decide);have b:=qn3 i (show(0:Int)<4 by decide);have:i%4=0\/i%4=1\/i%4=2\/i%4=3:=by lia
 rcases this with h|h|h|h<;>rw[h]<;>exact⟨_,_,rfl,rfl,qP⟩
def TW(k sg rw sh:M2):Prop:=(k="number"/\sh="number"/\(sg,rw)∈signR.take 4)\/(k="truth"/\((sh="number"/\sg="<"/\rw="less")\/(sh∈[("number":M2),"truth","aa","cc"]/\sg="="/\rw="same")))
theorem J6K(T:nofun)(g:Has P w K mg base (6*L+10) "_law_grown" ["_law_env_here","_law_kind","_law_depth"] (Z2M K L))(D:Has P w K mg base (6*L+11) "_law_some" ["_law_env_here","_law_kinds","_law_depth"] (Z5k K L)):Has P w K mg base (6*L+12) "_law_two" ["_law_env_here","_law_kind","_law_cell","_law_depth"] (J4F K L):=by
 walk_at "h O0W O0d 4"
 obtain⟨e,ba,B',S,own,n,M,m,z,r,bs,k,d,rfl,c,g0,⟨hM,hn⟩,hd,X,q⟩:=h;refine⟨_,(Z0a (Z0t (PW.pt (Z4b (qM Z0B (pvF 1) Z0b) (Z3a (qM Z0B (Z0j Z0C (pvF 2) Z0f) Z0f)))) (Z0a (Z0Q (qF g hr (qK (pvF 0) Z0b (Z0j Z1V (pvF 3) Z0f))) (Z0v (n:=2) rfl (Z0e (qH 4 O0d.nd) (Z0e (qH 5 O0d.nd) Z0s)))) (Z0c (Z0h (Z0i (qJ (Z0i (qJ Z0b (pvF 4))) (Z0j Z0y (pvF 5) (Z0o (qI (Z0i (qI Z0b)))))))))) Z0n) (Z0a (Z0t (PW.pt (Z8L (Z0Y (r:=rIn K true) Z2w (pvF 1) (Z0i (qJ Z0b Z0b)) (by with_unfolding_all rfl)) (Z5A (qM Z0B (Z0j Z0C (pvF 2) Z0f) Z0f)))) (Z0a (Z0Q (qF g hr (qK (pvF 0) (qD K (Z0o (Z0q Z0b (qK Z0b Z0b Z0b))) (Z0j Z0C (Z0j Z0E (pvF 2) Z0f) Z0f)) (Z0j Z1V (pvF 3) Z0f))) (Z0v (n:=2) rfl (Z0e (qH 6 O0d.nd) (Z0e (qH 5 O0d.nd) Z0s)))) (Z0a (Z0Q (qF g hr (qK (pvF 0) (pvF 1) (Z0j Z1V (pvF 3) Z0f))) (Z0v (n:=2) rfl (Z0e (qH 7 O0d.nd) (Z0e (qH 8 O0d.nd) Z0s)))) (Z0c (Z0h (Z0i (qJ (Z0i (Z0q Z0b (qK Z0b (pvF 6) (pvF 7)))) (Z0j Z0y (Z0j Z0y (pvF 5) (Z0o (qI (Z0i (qI Z0b))))) (pvF 8)))))))) Z0n) (Z0a (J6e (i:=9) (j:=10) (l:=11) rfl O0d.nd rfl rfl rfl qS qS qS rfl rfl rfl (qK (J0x J1l Z0b (Z0j Z0C (Z0j Z0E (pvF 2) Z0f) Z0f) (λ _ _=>rfl)) (qD K (Z0o (Z0q Z0b (qK Z0b Z0b Z0b))) (Z0j Z0C (Z0j Z0E (pvF 2) Z0f) Z0f)) Z0b) rfl) (Z0a (Z0t (qM Z0B (pvF 1) Z0b) (Z0a (qG 11 O0d.nd (qD K (Z0o (Z0q Z0b (Z0q Z0b (qK Z0b Z0b Z0b)))) (Z0j Z0C (Z0j Z0E (pvF 2) Z0f) Z0f))) (Z0c (Z0Q (qD K (Z0o (qJ (Z0i (qJ Z0b Z0b)) (Z0i (qJ Z0b Z0b)))) (Z0w Z4f rfl T.z_int Z9V (qI (Z4A (Z0W Z0B (pvF 11) Z0b (Z1R _)) (Z4B (Z0W Z0B (Z0j Z0C (Z0j Z0E (pvF 2) Z0f) Z0f) Z0f (Z1R _))))))) (Z0v (n:=2) rfl (Z0e (qH 9 O0d.nd) (Z0e (qH 10 O0d.nd) Z0s)))))) Z0n) (Z0a (qG 12 O0d.nd (pvF 11)) (Z0a (Z0t (Z0Y (r:=rIn K false) Z0J (pvF 11) (Z0i (qJ Z0b Z0b)) (by with_unfolding_all rfl)) (Z0c (qG 12 O0d.nd (qD K (Z0o (qK Z0b Z0b Z0b)) (Z0j Z0C (Z0j Z0E (pvF 2) Z0f) Z0f)))) Z0n) (Z0a (Z0Q (qF D hr (qK (pvF 0) (Z0o (qJ (pvF 11) (pvF 12))) (Z0j Z1V (pvF 3) Z0f))) (Z0v (n:=2) rfl (Z0e (qH 13 O0d.nd) (Z0e (qH 5 O0d.nd) Z0s)))) (Z0c (Z0h (Z0i (qJ (Z0i (Z0q Z0b (qK (pvF 9) (qA K 13) (qA K 13)))) (Z0j Z0y (pvF 5) (Z0o (qI (Z0i (qI (pvF 10))))))))))))))))),?_⟩;have t0:("truth":M2)∈K5:=by decide+kernel
 have k5:=X.1;walk_at "s 8 z";have rest:uz1 {nx:=λ x H'=>Q V.non H',rt:=Q} [some (V.ref e),some (V.str k),some (V.int r),some (V.int d),none,none,none,none,none,none,none,none,none,none] H:=by
  walk_at "n z1";have G0:∀H1,Same H H1->k∈NN->uz2 {nx:=λ x H'=>Q V.non H',rt:=Q} [some (V.ref e),some (V.str k),some (V.int r),some (V.int d),none,none,none,none,none,none,none,none,none,none] H1:=by
   intro H1 s1 kn;walk_at "n z2";obtain⟨x,y,Z,y1,xy⟩:=sgn ((r:Int)/5);refine⟨qP,x,Z,New.of λ p2 H2 h2 s2 e2=>⟨_,SqL.of e2,_,y1,?_⟩⟩;have S2:=s1.trans s2;have h0:∀G3,Same H G3->∀sg ro sh:M2,TW k sg ro sh->uz4 {nx:=λ x H'=>Q V.non H',rt:=Q} [some (V.ref e),some (V.str k),some (V.int r),some (V.int d),none,none,none,none,none,some (.str sg),some (.str ro),some (.str sh),none,none] G3:=by
    intro G3 s3 sg ro sh tw;have u0:sh∈K5:=by
     rcases tw with⟨_,y,_⟩|⟨_,⟨y,_⟩|⟨y,_⟩⟩
     ·rw[y];decide+kernel
     ·rw[y];decide+kernel
     ·exact(show ∀x∈[("number":M2),"truth","aa","cc"],x∈K5 by decide+kernel) sh y
    walk_at "n z4";have v0:∀H4,Same H H4->∀R:M2,R∈K5->(sh∈NN->R=sh)->(sh∈H3->R∈H3)->uz6 {nx:=λ x H'=>Q V.non H',rt:=Q} [some (V.ref e),some (V.str k),some (V.int r),some (V.int d),none,none,none,none,none,some (.str sg),some (.str ro),some (.str sh),some (.str R),none] H4:=by
     intro H4 s4 R I0 w0 J0;walk_at "n z6";refine New.of λ p5 H5 h5 s5 e5=>⟨e,ba,p5,B',S,own,n,M,m,z,bs,[sh,R],d-1,rfl,c.same (s4.trans s5),g0,hM,by show n+12*2+_<=_;lia,e5,λ x hx=>?_,by show 2<=9;lia,λ a tp rl us xs ts t1 m' H6 L0 c6 e6 x0 M0 v1 N0 l0 O0 y0 m0 w1=>⟨a,rfl,_,SqT.of e6,rfl,⟨_,_,rfl,⟨_,_,rfl,rfl,?_⟩⟩⟩⟩
     ·rcases qa4.mp hx with y|y
      ·rw[y];exact X.dn hd u0
      ·rw[qa5.mp y];exact X.dn hd I0
     cases O0 with
     |@cons _ _ t ra m1 _ _ _ _ gt g'=>
     cases g' with
     |@cons _ _ C rb _ _ _ _ _ a0 Q0=>
     cases Q0;obtain⟨u1,u2,rfl,R0,S0⟩:∃u1 u2,us=[u1,u2]/\RT K H6 u1 t.dat/\RT K H6 u2 C.dat:=by
      have y:RTs K H6 us [t.dat,C.dat]:=M0;cases y with
      |cons a b=>
       cases b with
       |cons a' b'=>
        cases b';exact⟨_,_,rfl,a,a'⟩
     have fl:[ra,rb].flatten=ra++rb:=by simp
     rw[fl]at c6 l0;obtain⟨_,_,gr,_⟩:=gt.g bs (BsR.refl bs);obtain⟨_,_,n0,_⟩:=a0.g bs (BsR.refl bs);have z1:=gr.rlen;have z0:=n0.rlen;have lx:=l0.length;rw[qa2]at lx;have ss:sumS [t,C]=t.size+C.size:=by show t.size+(C.size+0)=_;lia
     rw[ss]at c6 m0;have m0:t.size+C.size+120*mi M n<=12*2+120*mi M (n+(t.size+C.size)):=m0;have ml:=Z3e (M:=M) (n:=n+(t.size+C.size));walk_at "n z7";refine⟨_,SqT.of x0,_,rfl,⟨_,SqT.of x0,_,rfl,New.of λ p7 H7 h7 s7 e7=>New.of λ p8 H8 h8 U e8=>New.of λ p9 H9 h9 N e9=>⟨xs,N _ _ (U _ _ (s7 _ _ N0)),_,e9,by show _+1<=_;lia,New.of λ T0 U0 o0 G p0=>New.of λ Y0 Z0 b1 u q0=>?_⟩⟩⟩;have S9:=s7.trans (U.trans N);have J:=S9.trans (G.trans u);have S5:=s4.trans s5;have c1:ro≠"keep":=by
      rcases tw with⟨_,_,y⟩|⟨_,⟨_,_,y⟩|⟨_,_,y⟩⟩
      ·exact(show ∀p∈signR.take 4,p.2≠"keep" by decide+kernel) _ y
      ·rw[y];decide+kernel
      ·rw[y];decide+kernel
     obtain⟨gg,g3⟩:=GR.two (f:=.two) (l:=.str sg) (λ y=>by cases y) gt a0;have ow:∀I ka kb,ka∈K5->Sub ka sh->kb∈K5->Sub kb R->Own (D50 S.c) own I .two (.str sg) [ka,kb] k [ra,rb] m' (ra++rb++[r0 ro]) m':=by
      intro I ka kb ga b0 gb O;have nu:∀R,R=sh->sh∈NN->Sub kb R->ka=sh/\kb=sh:=λ R y y1 y2=>⟨Z9h sh y1 _ b0,Z9h sh y1 _ (y▸y2)⟩;have sn:sh="number"->ka="number"/\kb="number":=λ y=>by
       have y1:sh∈NN:=by rw[y];decide+kernel
       obtain⟨y2,y3⟩:=nu R (w0 y1) y1 O;exact⟨y2.trans y,y3.trans y⟩
      rcases tw with⟨y1,y2,y⟩|⟨y1,⟨y2,y3,y⟩|⟨y2,y3,y⟩⟩
      ·obtain⟨a1,a2⟩:=sn y2;rw[y1,a1,a2];exact .ari y
      ·obtain⟨a1,a2⟩:=sn y2;rw[y1,a1,a2,y3,y];exact .less
      ·rw[y1,y3,y];refine .same ?_;rcases(show ∀x∈[("number":M2),"truth","aa","cc"],x∈NN\/x∈P50.H3 by decide+kernel) sh y2 with w|w
       ·obtain⟨a1,a2⟩:=nu R (w0 w) w O;exact .inl (a1.trans a2.symm)
       ·exact .inr ⟨J6O sh w ka ga b0,J6O R (J0 w) kb gb O⟩
     refine q.fin hd (t:=.mk .two (.str sg) [t,C]) (rows:=ra++rb++[r0 ro]) (sz:=t.size+C.size) (z4:=kMax (ra++rb)) (λ b o y e'=>L0 _ _ y (S5 _ _ e')) c6 (by show 1+(t.size+(C.size+0))=_;lia) (Z1w c1) S9 o0 (G.trans u) (u _ _ p0) (RTs.app (l0.same J) (.cons (.tup (SqT.of ((N.trans (G.trans u)) _ _ e8)) (.cons (.str _) .nil)) .nil)) q0 ?_ ⟨λ I hb=>by
      obtain⟨ka,kb,A0,g1,⟨ga,b0⟩,⟨gb,O⟩⟩:=gg I hb;exact⟨k,_,.mk g1 (ow I ka kb ga b0 gb O) (show 2<=8 by decide),k5,.inl rfl⟩,.mk rfl g3⟩ ?_ ?_
     ·exact .tup (SqT.of ((U.trans (N.trans (G.trans u))) _ _ e7)) (.cons (.str _) (.cons (.str _) (.cons (R0.same J) (.cons (S0.same J) .nil))))
     ·have d1:=y0 t qc2;have d2:=y0 C (qc4 _ qc2);show 1+max t.depth (max C.depth 0)<=_;lia
     ·lia
    walk_at "n z5";refine New.of λ p4 H4 h4 s4 e4=>⟨_,.inr (SqT.of e4),rfl,rfl,ite2 (λ y=>?_) λ y=>v0 H4 (s3.trans s4) sh u0 (λ _=>rfl) id⟩;obtain⟨Z,Y,d0⟩:=pkS ["aa","bb","cc"] (n:=3) rfl qS ((r:Int)/50);refine New.of λ p5 H5 h5 s5 e5=>⟨_,SqL.of e5,_,d0,v0 H5 (s3.trans (s4.trans s5)) Z (h3k Z Y) (λ z=>?_) λ _=>Y⟩;rw[show[V.str (Str.ofString "aa"),V.str (Str.ofString "cc")]=[("aa":M2),"cc"].map V.str from rfl,Z3J]at y;exact absurd z ((show ∀x∈[("aa":M2),"cc"],x∉NN by decide+kernel) sh (of_decide_eq_true y))
   walk_at "n z3";refine ite2 (λ kt=>?_) λ kt=>?_
   ·obtain⟨Z,Y,d0⟩:=pkS ["number","number","truth","aa","cc"] (n:=5) rfl qS ((r:Int)/5);have x4:Z∈[("number":M2),"truth","aa","cc"]:=(show ∀x∈[("number":M2),"number","truth","aa","cc"],x∈[("number":M2),"truth","aa","cc"]by decide+kernel) Z Y;refine New.of λ p3 H3 h3 s3 e3=>⟨_,SqL.of e3,_,d0,New.of λ p4 H4 h4 s4 e4=>New.of λ p5 H5 h5 s5 e5=>New.of λ p6 H6 h6 s6 e6=>⟨rfl,?_⟩⟩;have S6:=S2.trans (s3.trans (s4.trans (s5.trans s6)));refine ite2 (λ y=>.inr ?_) λ y=>.inr ⟨_,SqL.of e6,_,rfl,p4,rfl,_,SqT.of (s6 _ _ (s5 _ _ e4)),rfl,⟨_,_,rfl,⟨_,_,rfl,rfl,h0 H6 S6 "=" "same" Z (.inr ⟨kt,.inr ⟨x4,rfl,rfl⟩⟩)⟩⟩⟩;cases y;by_cases y2:(r:Int)/25%2=1
    ·rw[if_pos y2];exact⟨_,SqL.of e6,_,rfl,p5,rfl,_,SqT.of (s6 _ _ e5),rfl,⟨_,_,rfl,⟨_,_,rfl,rfl,h0 H6 S6 "<" "less" "number" (.inr ⟨kt,.inl ⟨rfl,rfl,rfl⟩⟩)⟩⟩⟩
    ·rw[if_neg y2];exact⟨_,SqL.of e6,_,rfl,p4,rfl,_,SqT.of (s6 _ _ (s5 _ _ e4)),rfl,⟨_,_,rfl,⟨_,_,rfl,rfl,h0 H6 S6 "=" "same" "number" (.inr ⟨kt,.inr ⟨x4,rfl,rfl⟩⟩)⟩⟩⟩
   ·exact h0 H2 S2 _ y "number" (.inl ⟨(qa4.mp kn).elim id λ z=>absurd (qa5.mp z) kt,rfl,xy⟩)
  refine New.of λ p1 H1 h1 s1 e1=>⟨_,.inr (SqT.of e1),rfl,rfl,J7Y (λ _=>?_) λ e2 _=>G0 H1 s1 ?_⟩
  rotate_left
  ·exact Decidable.byContradiction λ y=>e2 (by rw[show[V.str (Str.ofString "number"),V.str (Str.ofString "truth")]=NN.map V.str from rfl,Z3J,decide_eq_false y])
  obtain⟨Z,Y,d0⟩:=pkS ["number","truth","aa","cc"] (n:=4) rfl qS ((r:Int)/5);have x5:Z∈K5:=(show ∀x∈[("number":M2),"truth","aa","cc"],x∈K5 by decide+kernel) Z Y;refine New.of λ p2 H2 h2 s2 e2=>⟨_,SqL.of e2,_,d0,?_⟩;have S2:=s1.trans s2;refine⟨e,ba,B',S,own,n,M,m,z,bs,Z,d-1,rfl,c.same S2,g0,⟨hM,qR⟩,X.dn hd x5,λ v t rows m' H4 sx c4 pr gt dp sz sr=>?_⟩;obtain⟨a,tv,rl,xs,rfl,pa,pt,pn,i0,e0⟩:=pr;obtain⟨_,_,gr,_⟩:=gt.g bs (BsR.refl bs);have f1:=gr.rlen;have rx:=e0.length;have ml:=Z3e (M:=M) (n:=n+t.size);refine⟨a,rfl,_,SqT.of pa,rfl,⟨_,_,rfl,⟨_,_,rfl,rfl,?_⟩⟩⟩;refine⟨e,ba,B',S,own,n+t.size,M,m',_,bs,k,d-1,rfl,c4,g0,⟨hM,qR⟩,X.dn hd k5,λ v2 C f0 m2 H5 s0 c5 i1 a0 A1 j1 B1=>?_⟩;obtain⟨a2,C1,z0,k1,rfl,l1,n1,D1,B0,j0⟩:=i1;obtain⟨_,_,n0,_⟩:=a0.g bs (BsR.refl bs);have q1:=n0.rlen;have E1:=j0.length;rw[qe3 n t.size C.size]at j1;have G1:=Z3e (M:=M) (n:=n+(t.size+C.size));have D0:=s0 _ _ (c4.nel i0) i0;refine⟨a2,rfl,_,SqT.of l1,rfl,⟨_,_,rfl,⟨_,_,rfl,rfl,New.of λ p5 H6 h6 s6 e6=>New.of λ p6 H7 h7 s7 e7=>New.of λ p7 H8 h8 U e8=>⟨rl,rfl,xs,U _ _ (s7 _ _ (s6 _ _ D0)),_,e8,by show _+1<=_;lia,New.of λ p8 H9 h9 N e9=>?_⟩⟩⟩⟩;refine⟨z0,rfl,_,e9,k1,N _ _ (U _ _ (s7 _ _ (s6 _ _ B0))),by rw[qa2];show _+1+_<=_;lia,New.of λ T0 U0 o0 G p0=>New.of λ Y0 Z0 b1 u q0=>?_⟩;have S9:=s6.trans (s7.trans (U.trans N));have J:=S9.trans (G.trans u);have k0:=c4.kt s0;obtain⟨gg,g3⟩:=GR.two (f:=.two) (l:=.str ";") (λ y=>by cases y) gt a0;refine q.fin hd (t:=.mk .two (.str ";") [t,C]) (rows:=rows++r0 "drop"::f0) (sz:=t.size+C.size) (z4:=max (kMax rows) (kMax f0)) (λ b o y e'=>s0 _ _ y (sx _ _ y (S2 _ _ e'))) (by rw[<-qe3,<-qg4];exact c5) (by show 1+(t.size+(C.size+0))=_;lia) ?_ S9 o0 (G.trans u) (u _ _ p0) ?_ q0 ?_ ⟨λ I hb=>by
   obtain⟨ka,kb,A0,g1,⟨ga,b0⟩,⟨gb,O⟩⟩:=gg I hb;exact⟨kb,_,.mk g1 .seq (show 2<=8 by decide),gb,O⟩,.mk rfl g3⟩ ?_ ?_
  ·rw[Z2I];exact congrArg _ (Z6P qP)
  ·rw[qb9];exact RTs.app ((e0.kt k0).same J) (.cons (.tup (SqT.of ((U.trans (N.trans (G.trans u))) _ _ e7)) (.cons (.str _) .nil)) (j0.same J))
  ·exact .tup (SqT.of ((s7.trans (U.trans (N.trans (G.trans u)))) _ _ e6)) (.cons (.str _) (.cons (.str _) (.cons ((pt.kt k0).same J) (.cons (n1.same J) .nil))))
  ·show 1+max t.depth (max C.depth 0)<=_;lia
  ·lia
 refine ite2 (λ e1=>ite2 (λ _=>?_) λ _=>rest) λ _=>rest;refine⟨e,ba,B',S,own,n,M,m,z,bs,"truth",d-1,rfl,c,g0,⟨hM,qR⟩,X.dn hd t0,λ v t rows m' H4 sx c4 pr gt dp sz sr=>?_⟩;obtain⟨a,tv,rl,xs,rfl,pa,pt,pn,i0,e0⟩:=pr;obtain⟨_,_,gr,_⟩:=gt.g bs (BsR.refl bs);have f1:=gr.rlen;have rx:=e0.length;have ml:=Z3e (M:=M) (n:=n+t.size);refine⟨a,rfl,_,SqT.of pa,rfl,⟨_,_,rfl,⟨_,_,rfl,rfl,New.of λ p5 H5 h5 s5 e5=>New.of λ p6 H6 h6 s6 e6=>New.of λ p7 H7 h7 s7 e7=>⟨rl,rfl,xs,s7 _ _ (s6 _ _ (s5 _ _ i0)),_,e7,by show _+1<=_;lia,New.of λ p8 H8 h8 U e8=>New.of λ p9 H9 h9 N e9=>?_⟩⟩⟩⟩;have S7:=s5.trans (s6.trans s7);have S9:=S7.trans (U.trans N);obtain⟨gg,g3⟩:=GR.one (f:=.nt) (l:=.non) (λ y=>by cases y) gt;refine q.fin hd (t:=.mk .nt .non [t]) (rows:=rows++[r0 "not"]) sx c4 (by show 1+(t.size+0)=_;lia) (Z1w qP) S7 h8 (U.trans N) (N _ _ e8) (RTs.app (e0.same S9) (.cons (.tup (SqT.of ((s7.trans (U.trans N)) _ _ e6)) (.cons (.str _) .nil)) .nil)) e9 ?_ ⟨λ I hb=>by
  obtain⟨x,A0,g1,⟨g2,o1⟩⟩:=gg I hb;cases Z9h "truth" qP _ o1;exact⟨"truth",_,.mk g1 .nt (show 1<=8 by decide),t0,.inl e1.symm⟩,.mk rfl g3⟩ ?_ ?_
 ·exact .tup (SqT.of ((s6.trans (s7.trans (U.trans N))) _ _ e5)) (.cons (.str _) (.cons (pt.same S9) .nil))
 ·show 1+max t.depth 0<=_;lia
 ·lia
def TcO(K:X0)(c:Cho)(k:M2)(H:Hp)(vs:List V):Prop:=∀v∈vs,∃h∈P50.H3,∃(j:Nat)(x:M2),RT K H v (.tuple [.str h,.int j])/\(flT c.od c.yg c.ot h)[j]?=some (x,k)
theorem TcO.same{K:X0}{c:Cho}{k:M2}(h:TcO K c k H vs)(s:Same H H'):TcO K c k H' vs:=λ v e=>let⟨g,a,j,x,b,d⟩:=h v e;⟨g,a,j,x,b.same s,d⟩
theorem J6a{us:List V}(h:0<us.length)(z:Int):∃(j:Nat)(v:V),us[j]?=some v/\atI us (z%(us.length:Int))=some v:=by
 have a:=qk2 z (show(us.length:Int)≠0 by lia);have b:=qn3 z (show 0<(us.length:Int)by lia);obtain⟨j,c⟩:=Int.eq_ofNat_of_zero_le a;rw[c]at b ⊢;exact⟨j,us[j]'(by lia),qa3 qR,Z3b (qa3 qR)⟩
theorem J9i{xs:List M2}{x:M2}{j:Nat}(a:xs.Nodup)(h:xs[j]?=some x):IxAt xs x j:=⟨h,λ i m y=>by
 obtain⟨b,c⟩:=qa6.mp h;obtain⟨e,g⟩:=qa6.mp y;have:=(List.getElem_inj (h₀:=e) (h₁:=b) a).mp (g.trans c.symm);lia⟩
theorem J7q{od yg b:Nat}{h a:M2}(c:h∈P50.H3)(s:Sub a h){j:Nat}{p:M2×M2}(g:(flT od yg b h)[j]?=some p):a∈P50.H3/\(flT od yg b a)[j]?=some p:=by
 rcases s with y|⟨y,e⟩
 ·rw[y];exact⟨c,g⟩
 ·rw[e]at g;rw[y];refine⟨qP,?_⟩;have i:flT od yg b "aa"=P50.old od:=if_pos rfl;have m:flT od yg b "bb"=P50.old od++P50.yng yg:=(if_neg qP).trans (if_pos rfl);rw[i]at g;rw[m,qg9 (qa6.mp g).1];exact g
inductive TCI(K:X0)(c:Cho)(k:M2)(H2:Hp)(σ0:List (Option V)->St)(i:Nat)(σ:St)(H':Hp):Prop
 |mk(l:_)(vs:_)(o5:_)(a1:Same H2 H')(a2:H' l=some (.lst vs))(a3:TcO K c k H' vs)(a4:vs.length<=8*i)(a5:σ=σ0 [some (V.ref l),o5,none,none,none,none])
theorem Z8R{l D:V0}{us:List V}{F:List (M2×M2)}{h k:M2}{a:St}(C:H l=some (.lst us))(J:RTs K H us (F.map Z1k))(R:H D=none)(S:F.length<=8)(T:∃r u,a=[r,u,some (V.str h),some (V.str k)])(q:∀H' vs,Same H H'->H' D=some (.lst vs)->(∀v∈vs,∃(j:Nat)(x:M2),RT K H' v (.tuple [.str h,.int j])/\F[j]?=some (x,k))->vs.length<=8->Q (.ref D) H'):Z3g (Ite K l) (Z5C K 2 (Z5W (Z2G 0) (Z5W (Z2G 1) gNil))) (Z6R (tOp rEq (tOp (Z5a K) (Z1P 1) (tC (V.int 1))) (Z1P 3))) (tTup (Z3O (Z1P 2) (Z3O (Z1P 0) tNil))) D Q a (upd H D (.lst [])):=by
 have lu:us.length=F.length:=by rw[J.length,qa1]
 refine Z1y (n:=F.length) (λ a=>∃r u,a=[r,u,some (V.str h),some (V.str k)]) (λ i a=>∃y,us[i]?=some y/\a=[some (.int (i:Int)),some y,some (V.str h),some (V.str k)]) (λ i=>decide ((F.map Prod.snd)[i]?=some k)) (λ i v H=>RT K H v (.tuple [.str h,.int ((i:Nat):Int)])) (λ _ _ _ _ h s=>h.kp (kpN s)) T R (by rw[sizeLine_eq];lia) (λ i m s o=>⟨us,us[i],SqL.of (s _ _ C),qa3 qR⟩) (λ m s=>⟨us,SqL.of (s _ _ C),qR⟩) (λ i x a m U L o A X g c=>?_) (λ i a g=>?_) (λ i a o g m L A c=>?_) (λ i a o hp g m L A c=>?_) (λ vs H' Y Z M=>?_)
 ·obtain⟨r,u,rfl⟩:=g;obtain⟨t2,x2,rfl,E,rfl,hx⟩:=X;walk_at "r";refine⟨_,SqT.of Z0d,rfl,⟨_,_,rfl,⟨_,_,rfl,?_⟩⟩⟩;exact⟨rfl,c _ _ ⟨x2,hx us (SqL.of (A _ _ C)),rfl⟩ (Z0r E _)⟩
 ·obtain⟨y,_,rfl⟩:=g;exact⟨_,_,rfl⟩
 ·obtain⟨y,N,rfl⟩:=g;obtain⟨b,t,w1,w2,rfl,E,hz,rfl,rfl⟩:=Z5J J N;have c:=c m (Same.refl _);have e:decide ((F.map Prod.snd)[i]?=some k)=decide (t.2=k):=by
   rw[qa8,E];exact decide_eq_decide.mpr ⟨λ z=>qc6 z,λ z=>congrArg some z⟩
  rw[e]at c;walk_at "r";refine⟨_,SqT.same hz A,_,ix1,rfl,?_⟩;rw[show decide (V.str t.2=V.str k)=decide (t.2=k)from decide_eq_decide.mpr ⟨λ z=>V.str.inj z,λ z=>z▸rfl⟩];exact c
 ·obtain⟨y,N,rfl⟩:=g;walk_at "r";exact New.of λ p2 U p s2 e2=>c _ _ s2 (.tup (SqT.of e2) (.cons (.str _) (.cons (.int _) .nil)))
 ·refine q H' vs Y Z (λ v G=>?_) ?_
  ·obtain⟨i,o⟩:=ql4 G;obtain⟨j,hj,hR⟩:=M.at o;have I:=qb4 hj;unfold Z1z at I;rw[qe5,qe9]at I;obtain⟨O,p⟩:=I;have p:=of_decide_eq_true p;rw[qa8,qa3 O]at p;refine⟨j,(F[j]).1,hR,?_⟩;rw[qa3 O];exact congrArg some (Prod.ext rfl (qc6 p))
  ·rw[M.len];unfold Z1z;exact qa9 (qh5 _ _) (by rw[qm5];exact S)
theorem J0o(T:nofun)(g:Has P w K mg base (6*L+11) "_law_some" ["_law_env_here","_law_kinds","_law_depth"] (Z5k K L)):Has P w K mg base (6*L+12) "_law_touched" ["_law_env_here","_law_kind","_law_cell","_law_depth"] (Z4Q K L):=by
  refine Has.of T.O0C O0b (λ _ _ _ _ _ _ us hl=>el4 us hl λ _ _ _ _=>rfl) (λ vs H Q E h=>?_) (λ f cdv A outer s H vs Q E hr h=>?_)
  · obtain⟨e,ba,B',S,own,n,M,m,z,r,bs,k,d,rfl,_⟩:=h;rfl
  obtain⟨e,ba,B',S,own,n,M,m,z,r,bs,k,d,rfl,c,o0,⟨hM,hn⟩,hd,O,q0,q⟩:=h;refine⟨_,(Z0a (qG 4 O0b.nd (Z0o Z0R)) (Z0a (Z1o PassesOwn.never rfl (Z1b (Z0o (qK Z0b Z0b Z0b))) (Z4u (i:=5) O0b.nd rfl (Or.inr rfl)) (Z0c (qG 4 O0b.nd (Z0j Z0y (pvF 4) (Z3A rfl (BlockOk.of (N:=["_law_at","_law_one","_law_house","_law_kind"]) (nl:=[none,none,some 5,some 1]) (cl:=[("_law_kind",s.heap.objs.size+1),("_law_house",s.heap.objs.size+2)]) rfl qP qP rfl (sub2 rfl rfl) (nm:=["_law_kind","_law_house"]) rfl qP rfl (λ i hi j hj=>by
            match i,hi with
            | 0,_=>cases hj
             |1,_=>cases hj
             |2,_=>cases hj;exact⟨_,rfl,rfl,rfl,.inl rfl⟩
             |3,_=>cases hj;exact⟨_,rfl,rfl,rfl,.inl rfl⟩
            )) (Z5m rfl T.O0t Z1S (qI (qE hr (qB hr 0) (pvF 5)))) (λ C fp s H=>(show PG _ _ (Z5C K 2 _)from Z0v (n:=2) rfl (Z0e (qH 0 (show(["_law_at","_law_one","_law_house","_law_kind"]:List M2).Nodup by decide+kernel)) (Z0e (qH 1 (show(["_law_at","_law_one","_law_house","_law_kind"]:List M2).Nodup by decide+kernel)) Z0s)))) (λ C fp s H=>(qM Z0B (qA K 1) (pvF 3))) (λ C fp s H=>(Z0i (qJ (pvF 2) (pvF 0))))))))) (Z0a (Z0t (qM (r:=rEqN K) (J1Y hr.units) (pvF 4) (Z0o Z0R)) (Z0c (Z0h Z0T)) Z0n) (Z0a (Z0Q (qD K (pvF 4) (Z0j Z0C (Z0j Z0E (pvF 2) Z0f) (qL T.z_len (qI (pvF 4))))) (Z0v (n:=2) rfl (Z0e (Z4u (i:=5) O0b.nd rfl (Or.inr rfl)) (Z0e (qH 6 O0b.nd) Z0s)))) (Z0a (qG 7 O0b.nd (qC K (qD K (qE hr (qB hr 0) (pvF 5)) (pvF 6)) Z0f)) (Z0a (Z0t (qM Z0B (Z0j Z0C (pvF 2) Z0f) Z0f) (Z0a (Z0Q (qF g hr (qK (pvF 0) (Z0o (qI (pvF 5))) (Z0j Z1V (pvF 3) Z0f))) (Z0v (n:=2) rfl (Z0e (qH 8 O0b.nd) (Z0e (qH 9 O0b.nd) Z0s)))) (Z0c (Z0h (Z0i (qJ (Z0i (qK Z0b (qA K 8) (pvF 7))) (Z0j Z0y (pvF 9) (Z0o (qI (Z0i (qJ Z0b (pvF 6))))))))))) Z0n) (Z0a (Z0Q (qF g hr (qK (pvF 0) (Z0o (qJ (pvF 5) (pvF 1))) (Z0j Z1V (pvF 3) Z0f))) (Z0v (n:=2) rfl (Z0e (qH 8 O0b.nd) (Z0e (qH 9 O0b.nd) Z0s)))) (Z0c (Z0h (Z0i (qJ (Z0i (Z0q Z0b (qK (qA K 8) (pvF 7) (qA K 8)))) (Z0j Z0y (pvF 9) (Z0o (qI (Z0i (qJ Z0b (pvF 6))))))))))))))))),?_⟩
  walk_at "s 8 z";refine New.of λ l1 H1 h1 s1 e1=>?_;walk_at "n z1";refine New.of λ p2 H2 h2 s2 e2=>⟨⟨_,SqL.of e2⟩,Z1p (P50.H3.map V.str) (TCI K S.c k H2 λ os=>some (V.ref e)::some (V.str k)::some (V.int r)::some (V.int d)::os) ⟨l1,[],none,Same.refl _,s2 _ _ e1,(λ v h=>by cases h),qb0 _,rfl⟩ (λ i σ H' _ h=>?_) (λ i y σ H' hy h=>?_) (λ σ H' h=>?_)⟩
  · obtain⟨_,_,_,sK,_⟩:=h;exact SqL.of (sK _ _ e2)
  · obtain⟨l,vs,o5,sK,el,tc,lv,rfl⟩:=h;rw[qa8]at hy;obtain⟨h,R,rfl⟩:=qc1.mp hy;have c1:i<3:=(qa6.mp R).1;have R:=qb4 R;have c':=c.same (s1.trans (s2.trans sK));obtain⟨w0,x0,ev,get⟩:=c'.at;obtain⟨a0,f1,f2⟩:=c.st.fi;obtain⟨fl,us,v1,v2,v3⟩:=f2 h R;have F1:=c'.sm _ _ f1;have V2:=c'.sm _ _ v2;have V3:=v3.same c'.sm;obtain⟨y0,z0,p0⟩:=P50.field_facts S.c.od c.st.ok.od S.c.yg c.st.ok.yg S.c.ot c.st.ok.ot h R;walk_at "r";refine⟨_,get ev.fi,_,rfl,_,.inl ⟨a0,.inr h,.inl F1,rfl,v1.symm⟩,fl,rfl,⟨_,SqL.of V2⟩,λ D0 hD=>Z8R V2 V3 hD p0 ⟨_,_,rfl⟩ λ H4 ws s4 e4 w1 w2=>⟨D0,rfl,vs,s4 _ _ el,ws,e4,qR,New.of λ p5 H5 h5 U e5=>⟨p5,vs++ws,_,sK.trans (s4.trans U),e5,λ v hv=>?_,by rw[qa2];lia,rfl⟩⟩⟩;rcases qa7.mp hv with y|y
    · exact tc.same (s4.trans U) v y
    · obtain⟨j,x,y1,y2⟩:=w1 v y;exact⟨h,R,j,x,y1.same U,y2⟩
  · obtain⟨l,vs,o5,sK,el,tc,lv,rfl⟩:=h;show uz2 _ _ _;walk_at "n z2";refine New.of λ p3 H3 h3 s3 e3=>⟨_,SqL.of (s3 _ _ el),SqL.of e3,ite2 (λ _=>q0 _ (s1.trans (s2.trans (sK.trans s3)))) λ ne=>?_⟩;have S3:=s1.trans (s2.trans (sK.trans s3));have el3:=s3 _ _ el;have A0:=tc.same s3;have c3:=c.same S3;obtain⟨w0,x0,ev,get⟩:=c3.at;obtain⟨a0,f1,f2⟩:=c.st.fi;have F1:=c3.sm _ _ f1;have l0:0<vs.length:=by
      cases vs with
      |nil=>exact absurd rfl ne
      |cons=>exact Nat.succ_pos _
    obtain⟨j0,v,hv,av⟩:=J6a l0 ((r:Int)/2);obtain⟨h,R,j,x,ht,hx⟩:=A0 v (qb4 hv);obtain⟨fl,us,v1,v2,v3⟩:=f2 h R;have V2:=c3.sm _ _ v2;have V3:=v3.same c3.sm;obtain⟨y0,z0,p0⟩:=P50.field_facts S.c.od c.st.ok.od S.c.yg c.st.ok.yg S.c.ot c.st.ok.ot h R;obtain⟨pa,rfl,sa⟩:∃pa,v=.ref pa/\SqT K H3 pa [.str h,.int j]:=by
      cases ht with
      |tup sq rs=>
        cases rs with
        |cons a b=>
          cases b with
          |cons a' b'=>
            cases b';cases a;cases a';exact⟨_,rfl,sq⟩
    walk_at "n z3";refine⟨vs,.inl (SqL.of el3),qR,_,SqL.of el3,_,av,pa,rfl,_,sa,rfl,⟨_,_,rfl,⟨_,_,rfl,rfl,?_⟩⟩⟩;walk_at "n z4";have hj:j<us.length:=by rw[V3.length,qa1];exact(qa6.mp hx).1
    have hy:=qa3 hj;obtain⟨b,t0,w1,w2,eb,B0,hz,rfl,rfl⟩:=Z5J V3 hy;cases hx.symm.trans B0;refine⟨_,get ev.fi,_,rfl,_,.inl ⟨a0,.inr h,.inl F1,rfl,v1.symm⟩,_,rfl,_,SqL.of V2,_,Z3b hy,b,eb,_,hz,_,ix0,?_⟩;have h5:=h3k h R;have G0:=P50.ord_facts S.c.or c.st.ok.or;have s0:∀a,Sub a h->a∈(D50 S.c).nm/\IxAt (((D50 S.c).fl a).map Prod.fst) x j/\((D50 S.c).fl a)[j]?=some (x,k):=λ a sa=>by
      obtain⟨a1,a2⟩:=J7q R sa hx;obtain⟨_,nd,_⟩:=P50.field_facts S.c.od c.st.ok.od S.c.yg c.st.ok.yg S.c.ot c.st.ok.ot a a1;exact⟨G0.1 a a1,J9i nd (by rw[qa8,show((D50 S.c).fl a)[j]?=some (x,k)from a2];rfl),a2⟩
    walk_at "n z5";refine ite2 (λ _=>?_) λ _=>?_
    · refine New.of λ p5 H5 I0 U e5=>⟨e,ba,p5,B',S,own,n,M,m,z,bs,[h],d-1,rfl,c3.same U,o0,hM,by show n+12*1+_<=_;lia,e5,λ x hx=>?_,by show 1<=9;lia,λ a tp rl us xs ts J0 m' H6 b0 c6 e6 X d0 L0 e0 D f0 Y G M0=>⟨a,rfl,_,SqT.of e6,rfl,⟨_,_,rfl,⟨_,_,rfl,rfl,tp,rfl,?_⟩⟩⟩⟩
      · rw[qa5.mp hx];exact O.dn hd h5
      cases f0 with
      |@cons _ _ t ra m1 _ _ _ _ gt g'=>
      cases g';obtain⟨u1,rfl,g0⟩:∃u1,us=[u1]/\RT K H6 u1 t.dat:=by
        have y:RTs K H6 us [t.dat]:=d0;cases y with
        |cons a b=>
          cases b;exact⟨_,rfl,a⟩
      have fl:[ra].flatten=ra:=by simp
      rw[fl]at c6 D;obtain⟨_,_,gr,_⟩:=gt.g bs (BsR.refl bs);have N0:=gr.rlen;have lx:=D.length;have ss:sumS [t]=t.size:=by show t.size+0=_;lia
      rw[ss]at c6 G;have G:t.size+120*mi M n<=12*1+120*mi M (n+t.size):=G;have ml:=Z3e (M:=M) (n:=n+t.size);refine⟨_,SqT.of X,_,rfl,New.of λ p7 H7 h7 s7 e7=>New.of λ p8 H8 h8 s8 e8=>New.of λ p9 H9 h9 Z e9=>⟨rl,rfl,xs,Z _ _ (s8 _ _ (s7 _ _ e0)),_,e9,by show _+1<=_;lia,New.of λ O0 Q0 h0 u i0=>New.of λ R0 S0 T0 p k0=>?_⟩⟩;have S9:=s7.trans (s8.trans Z);have I:=S9.trans (u.trans p);have S5:=S3.trans U;obtain⟨gg,g3⟩:=GR.one (f:=.field) (l:=.str x) (λ y=>by cases y) gt;refine q.fin hd (t:=.mk .field (.str x) [t]) (rows:=ra++[r1 "get" j]) (sz:=t.size) (z4:=kMax ra) (λ b o y e'=>b0 _ _ y (S5 _ _ e')) c6 (by show 1+(t.size+0)=_;lia) (Z1w qP) S9 h0 (u.trans p) (p _ _ i0) (RTs.app (D.same I) (.cons (.tup (SqT.of ((Z.trans (u.trans p)) _ _ e8)) (.cons (.str _) (.cons (.int _) .nil))) .nil)) k0 ?_ ⟨λ m0 hb=>by
        obtain⟨ka,U0,g1,⟨ga,n0⟩⟩:=gg m0 hb;obtain⟨o1,o2,o3⟩:=s0 ka n0;exact⟨k,_,.mk g1 (.field o1 o2 o3) (show 1<=8 by decide),O.1,.inl rfl⟩,.mk rfl g3⟩ ?_ ?_
      · exact .tup (SqT.of ((s8.trans (Z.trans (u.trans p))) _ _ e7)) (.cons (.str _) (.cons (g0.same I) (.cons (.str _) .nil)))
      · have d1:=Y t qc2;show 1+max t.depth 0<=_;lia
      · lia
    · have k5:=O.1;walk_at "n z6";refine New.of λ p5 H5 I0 U e5=>⟨e,ba,p5,B',S,own,n,M,m,z,bs,[h,k],d-1,rfl,c3.same U,o0,hM,by show n+12*2+_<=_;lia,e5,λ x hx=>?_,by show 2<=9;lia,λ a tp rl us xs ts J0 m' H6 b0 c6 e6 X d0 L0 e0 D f0 Y G M0=>⟨a,rfl,_,SqT.of e6,rfl,⟨_,_,rfl,⟨_,_,rfl,rfl,?_⟩⟩⟩⟩
      · rcases qa4.mp hx with y|y
        · rw[y];exact O.dn hd h5
        · rw[qa5.mp y];exact O.dn hd k5
      cases f0 with
      |@cons _ _ t ra m1 _ _ _ _ gt g'=>
      cases g' with
      |@cons _ _ J rb _ _ _ _ _ u0 Y0=>
      cases Y0;obtain⟨u1,u2,rfl,g0,Z0⟩:∃u1 u2,us=[u1,u2]/\RT K H6 u1 t.dat/\RT K H6 u2 J.dat:=by
        have y:RTs K H6 us [t.dat,J.dat]:=d0;cases y with
        |cons a b=>
          cases b with
          |cons a' b'=>
            cases b';exact⟨_,_,rfl,a,a'⟩
      have fl:[ra,rb].flatten=ra++rb:=by simp
      rw[fl]at c6 D;obtain⟨_,_,gr,_⟩:=gt.g bs (BsR.refl bs);obtain⟨_,_,b1,_⟩:=u0.g bs (BsR.refl bs);have N0:=gr.rlen;have i1:=b1.rlen;have lx:=D.length;rw[qa2]at lx;have ss:sumS [t,J]=t.size+J.size:=by show t.size+(J.size+0)=_;lia
      rw[ss]at c6 G;have G:t.size+J.size+120*mi M n<=12*2+120*mi M (n+(t.size+J.size)):=G;have ml:=Z3e (M:=M) (n:=n+(t.size+J.size));walk_at "n z7";refine⟨_,SqT.of X,_,rfl,⟨_,SqT.of X,_,rfl,New.of λ p7 H7 h7 s7 e7=>New.of λ p8 H8 h8 s8 e8=>New.of λ p9 H9 h9 Z e9=>⟨xs,Z _ _ (s8 _ _ (s7 _ _ e0)),_,e9,by show _+1<=_;lia,New.of λ O0 Q0 h0 u i0=>New.of λ R0 S0 T0 p k0=>?_⟩⟩⟩;have S9:=s7.trans (s8.trans Z);have I:=S9.trans (u.trans p);have S5:=S3.trans U;obtain⟨gg,g3⟩:=GR.two (f:=.set) (l:=.str x) (λ y=>by cases y) gt u0;refine q.fin hd (t:=.mk .set (.str x) [t,J]) (rows:=ra++rb++[r1 "put" j]) (sz:=t.size+J.size) (z4:=kMax (ra++rb)) (λ b o y e'=>b0 _ _ y (S5 _ _ e')) c6 (by show 1+(t.size+(J.size+0))=_;lia) (Z1w qP) S9 h0 (u.trans p) (p _ _ i0) (RTs.app (D.same I) (.cons (.tup (SqT.of ((Z.trans (u.trans p)) _ _ e8)) (.cons (.str _) (.cons (.int _) .nil))) .nil)) k0 ?_ ⟨λ m0 hb=>by
        obtain⟨ka,kb,U0,g1,⟨ga,n0⟩,⟨gb,v0⟩⟩:=gg m0 hb;obtain⟨o1,o2,o3⟩:=s0 ka n0;exact⟨kb,_,.mk g1 (.set o1 o2 o3 (kn5 c.st.ok kb gb) (P50.sub_facts kb gb k k5 v0)) (show 2<=8 by decide),gb,v0⟩,.mk rfl g3⟩ ?_ ?_
      · exact .tup (SqT.of ((s8.trans (Z.trans (u.trans p))) _ _ e7)) (.cons (.str _) (.cons (g0.same I) (.cons (.str _) (.cons (Z0.same I) .nil))))
      · have d1:=Y t qc2;have d2:=Y J (qc4 _ qc2);show 1+max t.depth (max J.depth 0)<=_;lia
      · lia
theorem J0E:∀a∈[true,false],∀b∈[true,false],∀c∈[0,1,2],∀n∈[0,1,2,3],∀x∈heads a b c,x.w∈Z0z (blocks (heads a b c) (Z0I n)) []/\(x.h,x.w)∈blocks (heads a b c) (Z0I n):=by decide+kernel
theorem J9H:∀a∈[true,false],∀b∈[true,false],∀c∈[0,1,2],∀n∈[0,1,2,3],∀p∈blocks (heads a b c) (Z0I n),PyData.canLay0 (.str p.1)=true/\PyData.canLay0 (.str p.2)=true:=by decide+kernel
theorem Z7m(b:Bool):b∈[true,false]:=by cases b<;>decide
theorem Z7C{a:Type}[DecidableEq a]:∀{l:List a}{x:a},x∈l->∃j,P50.ixOf l x=some j/\IxAt l x j
 |[],_,h=>by cases h
 |y::ys,x,h=>by
  by_cases e:y=x
  ·exact⟨0,if_pos e,by rw[e];rfl,λ j b=>absurd b (qj2 _)⟩
  ·have c:x∈ys:=(qa4.mp h).elim (λ z=>absurd z.symm e) id;obtain⟨j,g,m,n⟩:=Z7C c;refine⟨j+1,?_,m,λ i o=>?_⟩
   ·show(if y=x then some 0 else(P50.ixOf ys x).map (·+1))=_;rw[if_neg e,g];rfl
   ·cases i with
    |zero=>exact λ z=>e (qc6 z)
    |succ i=>exact n i qR
theorem Z6z(p q:M2×M2):PyData.eqv (Z1k p) (Z1k q)=decide (p=q):=by
 obtain⟨a,b⟩:=p;obtain⟨c,d⟩:=q;show(a==c&&(b==d&&true))=_;by_cases e:a=c<;>by_cases g:b=d<;>simp[e,g]
theorem Z7f:∀{l:List (M2×M2)},(∀p∈l,PyData.canLay0 (.str p.1)=true/\PyData.canLay0 (.str p.2)=true)->PyData.canLayAll0 (l.map Z1k)=true
 |[],_=>rfl
 |p::l,h=>by
  obtain⟨a,b⟩:=h p qc2;show((PyData.canLay0 (.str p.1)&&(PyData.canLay0 (.str p.2)&&true))&&PyData.canLayAll0 (l.map Z1k))=true;rw[a,b,Z7f λ q c=>h q (qc4 _ c)];rfl
theorem Z6Q:∀{ks:List M2},ks.length<=4->(prs ks).map Prod.snd=ks:=λ{ks} h=>by
 unfold prs;rw[List.map_snd_zip];exact h
theorem HdO.same{v:V}{x:P50.Hd}(h:HdO H v x)(s:Same H H'):HdO H' v x:=let⟨t,pl,a,b,c⟩:=h;⟨t,pl,a,s _ _ b,s _ _ c⟩
theorem J0r{a D:V0}{us:List V}{hs:List P50.Hd}{k:M2}{b:St}(C:SqL K H a us)(E:A2 (HdO H) us hs)(O:H D=none)(l8:hs.length<=100)(R:∃o,b=[o,some (V.str k)])(q:∀H' vs,Same H H'->H' D=some (.lst vs)->(∀v∈vs,∃x∈hs,x.k=k/\HdO H' v x)->Q (.ref D) H'):Z3g (Itl K a) (Z2G 0) (Z6R (tOp rEq (tOp (Z5a K) (Z1P 0) (tC (V.int 3))) (Z1P 1))) (Z1P 0) D Q b (upd H D (.lst [])):=by
 have lu:=E.len;refine Z1y (n:=hs.length) (λ b=>∃o,b=[o,some (V.str k)]) (λ i b=>∃y,us[i]?=some y/\b=[some y,some (V.str k)]) (λ i=>decide ((hs.map P50.Hd.k)[i]?=some k)) (λ i v _=>us[i]?=some v) (λ _ _ _ _ h _=>h) R O (by rw[sizeLine_eq];lia) (λ i m s p=>⟨us,us[i],SqL.same C s,qa3 qR⟩) (λ m s=>⟨us,SqL.same C s,qR⟩) (λ i x b m H2 L p u S g c=>?_) (λ i b g=>?_) (λ i b p g m L u c=>?_) (λ i b p hp g m L u c=>?_) (λ vs H' M T U=>?_)
 ·obtain⟨o,rfl⟩:=g;obtain⟨rfl,ex⟩:=S;have:=ex us (SqL.same C u);walk_at "r";exact c _ _ ⟨x,this,rfl⟩ (Same.refl _)
 ·obtain⟨y,_,rfl⟩:=g;exact⟨_,rfl⟩
 ·obtain⟨y,G,rfl⟩:=g;obtain⟨x,A,t,pl,rfl,N,r⟩:=E.at G;have c:=c m (Same.refl _);have e:decide ((hs.map P50.Hd.k)[i]?=some k)=decide (x.k=k):=by
   rw[qa8,A];exact decide_eq_decide.mpr ⟨λ z=>qc6 z,λ z=>congrArg some z⟩
  rw[e]at c;walk_at "r";refine⟨_,SqT.of (u _ _ N),_,rfl,rfl,?_⟩;rw[show decide (V.str x.k=V.str k)=decide (x.k=k)from decide_eq_decide.mpr ⟨λ z=>V.str.inj z,λ z=>z▸rfl⟩];exact c
 ·obtain⟨y,G,rfl⟩:=g;walk_at "r";exact c _ _ (Same.refl _) G
 ·refine q H' vs M T λ v I=>?_;obtain⟨i,p⟩:=ql4 I;obtain⟨j,X,Y⟩:=U.at p;have J:=qb4 X;unfold Z1z at J;rw[qe5,qe9]at J;obtain⟨N,r⟩:=J;have r:=of_decide_eq_true r;obtain⟨x,A,Z⟩:=E.at Y;rw[qa8,A]at r;exact⟨x,qb4 A,qc6 r,Z.same M⟩
theorem J2r(T:nofun)(g:Has P w K mg base (6*L+11) "_law_some" ["_law_env_here","_law_kinds","_law_depth"] (Z5k K L)):Has P w K mg base (6*L+12) "_law_called" ["_law_env_here","_law_kind","_law_cell","_law_depth"] (Z4Q K L):=by
  refine Has.of T.O0G O0c (λ _ _ _ _ _ _ us hl=>el4 us hl λ _ _ _ _=>rfl) (λ vs H Q E h=>?_) (λ f cdv A outer s H vs Q E hr h=>?_)
  · obtain⟨e,ba,B',S,own,n,M,m,z,r,bs,k,d,rfl,_⟩:=h;rfl
  obtain⟨e,ba,B',S,own,n,M,m,z,r,bs,k,d,rfl,c,Q0,⟨hM,hn⟩,hd,y0,q0,q⟩:=h;refine⟨_,(Z0a (Z8V rfl O0c.nd (i:=4) rfl rfl (BlockOk.of (N:=["_law_one","_law_kind"]) (nl:=[none,some 1]) (cl:=[("_law_kind",s.heap.objs.size+1)]) rfl qP qP rfl (sub1 rfl) (nm:=["_law_kind"]) rfl qP rfl (λ i hi j hj=>by
            match i,hi with
            | 0,_=>cases hj
             |1,_=>cases hj;exact⟨_,rfl,rfl,rfl,.inl rfl⟩
            )) (Z1b (qB hr 0)) (λ C fp s H=>(qH 0 (show(["_law_one","_law_kind"]:List M2).Nodup by decide+kernel))) (λ C fp s H=>(qM Z0B (qA K 0) (pvF 1))) (λ C fp s H=>(pvF 0))) (Z0a (Z0t (qM (r:=rEqN K) (J1Y hr.units) (pvF 4) (Z0o Z0R)) (Z0c (Z0h Z0T)) Z0n) (Z0a (Z0Q (qD K (pvF 4) (Z0j Z0C (Z0j Z0E (pvF 2) Z0f) (qL T.z_len (qI (pvF 4))))) (Z0v (n:=4) rfl (Z0e (qH 5 O0c.nd) (Z0e (qH 6 O0c.nd) (Z0e (qH 7 O0c.nd) (Z0e (qH 8 O0c.nd) Z0s)))))) (Z0a (Z0t (PW.pt (Z4b (qM (r:=rEqD K) (J1K hr.units) (qB hr 0) Z0b) (Z4b (qM Z0B (pvF 5) Z0b) (Z3a (qM Z0B (Z0j Z0C (pvF 2) Z0f) Z0f))))) (Z0a (Z0Q (qF g hr (qK (pvF 0) (pvF 7) (Z0j Z1V (pvF 3) Z0f))) (Z0v (n:=2) rfl (Z0e (qH 9 O0c.nd) (Z0e (qH 10 O0c.nd) Z0s)))) (Z0a (qG 11 O0c.nd (Z0i (qK Z0b (Z1B (r:=Z8C K) qb5 qg2 qg3 (J2h hr.units) (qB hr 0) (qI (Z0i (qJ Z0b (pvF 6))))) (Z0j Z1q Z0f (qL T.z_len (qI (pvF 9))))))) (Z0c (Z0h (Z0i (qJ (Z0i (qK Z0b (pvF 6) (pvF 9))) (Z0j Z0y (Z0j Z0y (Z0o (qI (Z0i (qJ Z0b Z0f)))) (pvF 10)) (Z0o (qI (pvF 11)))))))))) Z0n) (Z0a (Z0Q (qF g hr (qK (pvF 0) (Z0j Z0y (Z0o (qI (pvF 5))) (pvF 7)) (Z0j Z1V (pvF 3) Z0f))) (Z0v (n:=2) rfl (Z0e (qH 9 O0c.nd) (Z0e (qH 10 O0c.nd) Z0s)))) (Z0a (Z8W (Z2F hr) (pvF 0) Z0b Z0f Z8P (λ _ _ _=>rfl)) (Z0a (qG 11 O0c.nd (Z0i (Z0q Z0b (qK (Z0j Z1V (qB hr 0) Z0f) (Z1B qb5 qg2 qg3 Z3C (qB hr 0) (qI (pvF 6))) (qL T.z_len (qI (pvF 9))))))) (Z0c (Z0h (Z0i (qJ (Z0i (Z0q Z0b (qK (qA K 9) (pvF 6) (Z0S (r:=rSlA K) Z4t (pvF 9) (Z1j Z0f) Z1x)))) (Z0j Z0y (pvF 10) (Z0o (qI (pvF 11))))))))))))))),?_⟩
  have k5:=y0.1;obtain⟨G2,I2,ev,get⟩:=c.at;obtain⟨p1,q1,t1⟩:=c.st.hd;have D1:=c.sm _ _ q1;have D2:A2 (HdO H) p1 S.c.hs:=t1.mono λ _ _ y=>y.same c.sm;have hf:=P50.head_facts S.c.mx (Z7m _) S.c.bg (Z7m _) S.c.cc c.st.ok.cc;have cf:=J0E S.c.mx (Z7m _) S.c.bg (Z7m _) S.c.cc c.st.ok.cc S.c.or c.st.ok.or;have R0:S.c.hs.length<=100:=by
    have:∀mx∈[true,false],∀bg∈[true,false],∀cc∈[0,1,2],(heads mx bg cc).length<=100:=by decide+kernel
    exact this _ (Z7m _) _ (Z7m _) _ c.st.ok.cc
  have o0:=P50.ord_facts S.c.or c.st.ok.or;walk_at "s 8 z";refine⟨_,get ev.hd,_,rfl,⟨_,SqL.of D1⟩,λ D hD=>J0r (SqL.of D1) D2 hD R0 ⟨_,rfl⟩ λ H1 vs s1 e1 v1=>?_⟩;walk_at "n z1";refine New.of λ p2 H2 h2 s2 e2=>⟨_,SqL.of (s2 _ _ e1),SqL.of e2,ite2 (λ _=>q0 _ (s1.trans s2)) λ ne=>?_⟩;have S2:=s1.trans s2;have c2:=c.same S2;have l0:0<vs.length:=by
    cases vs with
    |nil=>exact absurd rfl ne
    |cons=>exact Nat.succ_pos _
  obtain⟨j0,v,hv,av⟩:=J6a l0 ((r:Int)/3);obtain⟨x,hx,xk,t0,pl,rfl,g1,g2⟩:=v1 v (qb4 hv);obtain⟨f1,f2,f3,f4,f5,f6⟩:=hf x hx;obtain⟨w1,w2⟩:=cf x hx;have g1:=s2 _ _ g1;have g2:=s2 _ _ g2;obtain⟨v2,x2,x1,S0⟩:=c2.at;have T0:∀y∈x.ps,Lv y (d-1) L:=λ y hy=>y0.dn hd (f2 y hy);walk_at "n z2";refine⟨vs,.inl (SqL.of (s2 _ _ e1)),qR,_,SqL.of (s2 _ _ e1),_,av,t0,rfl,_,SqT.of g1,rfl,⟨_,_,rfl,⟨_,_,rfl,⟨_,_,rfl,⟨_,_,rfl,rfl,?_⟩⟩⟩⟩⟩;have p0:uz4 {nx:=λ x H'=>Q V.non H',rt:=Q} [some (V.ref e),some (V.str k),some (V.int r),some (V.int d),some (.ref D),some (.str x.h),some (.str x.w),some (.ref pl),some (.str x.k),none,none,none] H2:=by
    walk_at "n z4";refine New.of λ p3 H3 h3 s3 e3=>⟨_,e3,_,s3 _ _ g2,by rw[qa1];show 1+_<=_;lia,New.of λ p5 H5 h5 s5 e5=>?_⟩;have S5:=S2.trans (s3.trans s5);refine⟨e,ba,p5,B',S,own,n,M,m,z,bs,x.h::x.ps,d-1,rfl,c.same S5,Q0,hM,by rw[qb2];lia,e5,λ y hy=>?_,by rw[qb2];lia,λ a tp rl us xs ts a0 m' H6 z0 c6 e6 b0 d0 A1 s0 e0 I A0 C1 E1=>⟨a,rfl,_,SqT.of e6,rfl,⟨_,_,rfl,⟨_,_,rfl,rfl,?_⟩⟩⟩⟩
    · rcases qa4.mp hy with y1|y1
      · rw[y1];exact y0.dn hd (h3k _ f1)
      · exact T0 y y1
    obtain⟨U0,f0,g0,h0⟩:=c6.at;have ml:=Z3e (M:=M) (n:=n+sumS ts);walk_at "n z5";refine⟨_,h0 g0.m,_,rfl,DP f0 g0.le λ H7 s7 e7=>?_⟩;have c7:=c6.go s7 ⟨_,e7,g0.site⟩;have Y0:=c6.kt s7;obtain⟨C2,E2,Z0,x0⟩:=c7.at;have c1:=c7.sm _ _ c7.st.wo;obtain⟨j,u0,X⟩:=J7a w1;have i0:=s7 _ _ (nq f0 b0) b0;have d1:=s7 _ _ (c6.nel s0) s0;walk_at "n z6";refine⟨_,x0 Z0.m,_,rfl,_,x0 Z0.wo,.inl ⟨rfl,_,SqL.of c1⟩,_,rfl,_,c1,j,u0,X,us,.inr (SqT.of i0),New.of λ p8 H8 h8 s8 e8=>?_⟩;have gl:=I.len;have B0:us.length=ts.length:=by rw[d0.length,Z0L]
    have G1:=Z8E I;have lx:=e0.length;have J2:(x.h::x.ps).length<=5:=by rw[qb2];lia
    have h1:=d0.kt Y0;have i1:=e0.kt Y0;cases I with
    |@cons _ _ t ra m1 _ O k0 _ gt g'=>
    obtain⟨u1,m0,rfl,I1,J1⟩:∃u1 m0,us=u1::m0/\RT K H7 u1 t.dat/\RTs K H7 m0 (dats O):=by
      have y:RTs K H7 us (t.dat::dats O):=h1;cases y with
      |cons a b=>exact⟨_,_,rfl,a,b⟩
    walk_at "n z7";refine⟨_,SqT.of (s8 _ _ i0),_,ix0,tp,_,rfl,SqT.of (s8 _ _ i0),λ p9 H9 s9 q9=>New.of λ L1 N1 O1 R D0=>New.of λ Q1 R1 S1 G G0=>?_⟩;have Y:=s8.trans (s9.trans (R.trans G));refine⟨xs,Y _ _ d1,_,G0,by show _+1<=_;lia,New.of λ T1 U1 j1 J I0=>New.of λ Y1 Z1 d2 u J0=>?_⟩;have Z:=Y.trans (J.trans u);rw[cut1]at q9;have lk:∀n0:List M2,A2 (λ a k=>a∈K5/\Sub a k) n0 x.ps->n0.length+1=m0.length+1:=λ n0 U=>by
      have:=U.len;rw[qb2,qb2]at B0;have:=gl.1;rw[qb2,qb2]at this;lia
    have l5:(t::O).length<=5:=by have:=gl.1;rw[qb2]at this ⊢;rw[qb2]at this;lia
    refine q.fin hd (t:=.mk .call (.str x.w) (t::O)) (rows:=(ra::k0).flatten++[r3 "call" m' j (m0.length+1)]) (m':=m'+1) (sz:=sumS (t::O)) (z4:=kMax (ra::k0).flatten) (λ b o' y e'=>s7 _ _ y (z0 _ _ y (S5 _ _ e'))) c7 (by show 1+sumS (t::O)=_;lia) (Z1w qP) Y j1 (J.trans u) (u _ _ I0) ?_ J0 ?_ ⟨λ L0 hb=>by
      obtain⟨v0,i2,k1,k2⟩:=(GTs.cons gt g').grs (f:=.call) (l:=.str x.w) (λ y=>by cases y) hb [];cases k2 with
      |@cons ka _ n0 _ l1 U=>
      have j2:(D50 S.c).hd ka x.w=some (prs x.ps,x.k):=by
        rcases l1.2 with y|⟨y,y2⟩
        · rw[y];show(Z0V S.c.hs x.h x.w).map (λ x=>(prs x.ps,x.k))=_;rw[show Z0V S.c.hs x.h x.w=some x from f5];rfl
        · obtain⟨x',_,z1,z2,z3⟩:=f6 y2;rw[y];show(Z0V S.c.hs "bb" x.w).map (λ x=>(prs x.ps,x.k))=_;rw[show Z0V S.c.hs "bb" x.w=some x' from z1];show some (prs x'.ps,x'.k)=_;rw[z2,z3]
      have l2:ka∈(D50 S.c).nm:=by
        rcases l1.2 with y|⟨y,_⟩
        · rw[y];exact o0.1 _ f1
        · rw[y];exact o0.1 _ qP
      have ow:=PK.Own.call (D:=D50 S.c) (own:=own) (bs:=L0) (rs:=ra::k0) (n:=m') l2 j2 (J5o c.st.ok (by rw[Z6Q f4];exact U) λ p hp=>f2 p.2 (by rw[<-Z6Q f4];exact qe4 hp)) ⟨u0,X⟩;rw[lk n0 U]at ow;exact⟨x.k,_,.mk k1 ow qR,f3,.inl xk⟩,.mk (qg1 (qb0 _)) (GTs.cons gt g').oks⟩ ?_ ?_
    · refine RTs.app (i1.same Z) (.cons (.tup (SqT.of ((s9.trans (R.trans (G.trans (J.trans u)))) _ _ e8)) (.cons (.str _) (.cons ?_ (.cons (.int _) (.cons ?_ .nil))))) .nil)
      · rw[show(((m'+1:Nat):Int)-1)=(m':Int)by lia];exact .int _
      · exact .int _
    · exact .tup (SqT.of ((G.trans (J.trans u)) _ _ D0)) (.cons (.str _) (.cons (I1.same Z) (.cons (.str _) (.cons (.tup (SqT.same q9 (R.trans (G.trans (J.trans u)))) (J1.same Z)) .nil))))
    · show 1+maxD (t::O)<=_;have:=Z3M A0;lia
    · have:12*(x.h::x.ps).length<=60:=by lia
      lia
  walk_at "n z3";refine⟨_,S0 x1.ow,?_⟩;cases own with
  |none=>exact⟨_,.non,_,.str _,rfl,qP,p0⟩
  |some o=>
    refine⟨_,.str o,_,.str _,(show ∀x∈P50.H3,SeqAt.shaped (.str x)=true by decide+kernel) o (c.ow o rfl),qP,ite2 (λ y=>ite2 (λ y2=>ite2 (λ _=>?_) λ _=>p0) λ _=>p0) λ _=>p0⟩;have y:o="bb":=eq_of_beq (show(o==_)=true from y);obtain⟨j,u0,X⟩:=Z7C w2;have xe:(x.h,x.w)=(("aa":M2),x.w):=by rw[y2]
    have n2:(D50 S.c).bk "aa" x.w=some j:=by
      have:(Z0V S.c.hs x.h x.w).bind (λ x=>P50.ixOf S.c.bl (x.h,x.w))=some j:=by
        rw[show Z0V S.c.hs x.h x.w=some x from f5];exact u0
      rw[y2]at this;exact this
    have o2:(D50 S.c).hd "aa" x.w=some (prs x.ps,x.k):=by
      have:(Z0V S.c.hs x.h x.w).map (λ x=>(prs x.ps,x.k))=some (prs x.ps,x.k):=by
        rw[show Z0V S.c.hs x.h x.w=some x from f5];rfl
      rw[y2]at this;exact this
    rw[xe]at X w2;refine⟨e,ba,pl,B',S,some o,n,M,m,z,bs,x.ps,d-1,rfl,c2,Q0,hM,qR,g2,T0,qR,λ a tp rl us xs ts a0 m' H6 z0 c6 e6 b0 d0 A1 s0 e0 I A0 C1 E1=>⟨a,rfl,_,SqT.of e6,rfl,⟨_,_,rfl,⟨_,_,rfl,rfl,?_⟩⟩⟩⟩;obtain⟨U0,f0,g0,h0⟩:=c6.at;have ml:=Z3e (M:=M) (n:=n+sumS ts);obtain⟨L2,b1,b2⟩:=c6.st.bl;have B1:=c6.sm _ _ b1;have B2:=b2.same c6.sm;have n1:=J9H S.c.mx (Z7m _) S.c.bg (Z7m _) S.c.cc c.st.ok.cc S.c.or c.st.ok.or;refine⟨_,h0 g0.bl,.inl ⟨rfl,_,SqL.of B1⟩,New.of λ p7 H7 h7 s7 e7=>⟨_,rfl,_,s7 _ _ B1,_,(B2.same s7).rd,Z1k ("aa",x.w),.tup (SqT.of e7) (.cons (.str _) (.cons (.str _) .nil)),Z7f n1,?_,?_,j,?_,?_,?_⟩⟩
    · obtain⟨a1,a2⟩:=n1 _ w2;show(PyData.canLay0 (.str _)&&(PyData.canLay0 (.str _)&&true))=true;rw[a1,a2];rfl
    · exact Nat.le_of_ble_eq_true rfl
    · exact⟨Z1k ("aa",x.w),by rw[qa8,show S.c.bl[j]?=_ from X.1];rfl,by rw[Z6z];exact decide_eq_true rfl⟩
    · intro i hi y' o1;rw[qa8]at o1;obtain⟨p,hp,rfl⟩:=qc1.mp o1;rw[Z6z];exact decide_eq_false λ z=>X.2 i hi (by rw[<-z];exact hp)
    have gl:=I.len;have B0:us.length=ts.length:=by rw[d0.length,Z0L]
    have G1:=Z8E I;have lx:=e0.length;refine⟨tp,rfl,us,.inr (SqT.of (s7 _ _ b0)),New.of λ p8 H8 h8 s8 e8=>New.of λ p9 H9 h9 s9 e9=>New.of λ L1 N1 O1 R D0=>New.of λ Q1 R1 S1 G G0=>?_⟩;have Y:=s7.trans (s8.trans (s9.trans (R.trans G)));refine⟨rl,rfl,_,G0,xs,Y _ _ s0,by show 1+_<=_;lia,New.of λ T1 U1 j1 J I0=>New.of λ Y1 Z1 d2 u J0=>⟨_,u _ _ I0,_,J0,by show([_]++xs).length+1<=_;rw[qa2];show 1+_+1<=_;lia,New.of λ N2 O2 q2 M0 t2=>New.of λ Q2 T2 U2 w0 u2=>?_⟩⟩;have Z:=Y.trans (J.trans u);have N0:=Z.trans (M0.trans w0);have O0:=J.trans (u.trans (M0.trans w0));refine q.fin hd (t:=.mk .elder (.str x.w) ts) (rows:=r1 "load" 0::(a0.flatten++[r2 "straight" j (us.length+1)])) (sz:=sumS ts) (z4:=kMax a0.flatten) (λ b o' y e'=>z0 _ _ y (S2 _ _ e')) c6 (by show 1+sumS ts=_;lia) ((Z6P qP).trans (Z1w qP)) Z q2 (M0.trans w0) (w0 _ _ t2) ?_ u2 ?_ ⟨λ L0 hb=>by
      obtain⟨v0,i2,k1,k2⟩:=I.grs (f:=.elder) (l:=.str x.w) (λ y=>by cases y) hb [];have ow:Own (D50 S.c) (some o) L0 .elder (.str x.w) v0 x.k a0 m' (r1 "load" 0::(a0.flatten++[r2 "straight" j (v0.length+1)])) m':=.elder (h:="bb") (e:="aa") (by rw[y]) (o0.1 _ qP) (show(if("bb":M2)="bb" then some ("aa":M2)else none)=_ from if_pos rfl) (o0.1 _ qP) o2 (J5o c.st.ok (by rw[Z6Q f4];exact k2) λ p hp=>f2 p.2 (by rw[<-Z6Q f4];exact qe4 hp)) n2;have ek:v0.length=us.length:=by rw[k2.len,B0,gl.1]
      rw[ek]at ow;exact⟨x.k,_,.mk k1 ow qR,f3,.inl xk⟩,.mk trivial I.oks⟩ ?_ ?_
    · refine .cons (.tup (SqT.of ((G.trans O0) _ _ D0)) (.cons (.str _) (.cons (.int _) .nil))) (RTs.app (e0.same N0) (.cons (.tup (SqT.of ((s9.trans (R.trans (G.trans O0))) _ _ e8)) (.cons (.str _) (.cons (.int _) (.cons ?_ .nil)))) .nil));rw[show((1:Int)+(us.length:Int))=((us.length+1:Nat):Int)by lia];exact .int _
    · exact .tup (SqT.of ((R.trans (G.trans O0)) _ _ e9)) (.cons (.str _) (.cons (.str _) (.cons (.tup (SqT.of (N0 _ _ b0)) (d0.same N0)) .nil)))
    · show 1+maxD ts<=_;have:=Z3M A0;lia
    · lia
inductive J4S(K:X0)(L:Nat)(vs:List V)(H:Hp)(Q:VK):Prop
 |mk(e ba:V0)(B:Hp)(S:ES)(own:Option M2)(n M m z r:Nat)(bs:List (M2×M2))(k:M2)(d:Int)(a1:vs=[.ref e,.str k,.int r,.int d])(a2:CA K H e B S n M m own ba bs z)(a3:bs.length+L+1<=30)(a4:nC M n L)(a5:1<=d)(a6:Lv k d (L+1))(a7:NQ K e B S own ba bs n M m z L k d H Q)
def J4u(K:X0)(L:Nat):Sp:=λ vs H Q _=>J4S K L vs H Q
theorem CA.bnd{K:X0}{B:Hp}{g a:V0}{own:Option M2}{n m z z2:Nat}{bs bs2:List (M2×M2)}(c:CA K H e B S n M m own g bs z)(s:SX e H H')(v:J5y H' e S n M m own a z2)(i:∃us,H' a=some (.lst us)/\RTs K H' us ((ebd own bs2).map Z1k))(bk:∀p∈bs2,p.1∈nms5/\p.2∈K5)(bl:bs2.length<=30):CA K H' e B S n M m own a bs2 z2:=
 ⟨c.st,λ b o h=>s _ _ (nq (c.st.e0) h) (c.sm _ _ h),v,i,c.ow,bk,bl⟩
theorem ebd_len{own:Option M2}{bs:List (M2×M2)}:(ebd own bs).length=(bnd own bs).length/\(ebd own bs).length<=bs.length+1:=by
 cases own with
 |none=>exact⟨by show([]++bs).length=([]++bs.map Prod.fst).length;simp,by show([]++bs).length<=_;simp⟩
 |some h=>exact⟨by show([_]++bs).length=([_]++bs.map Prod.fst).length;simp,by show([_]++bs).length<=_;simp⟩
theorem J3G{own:Option M2}{bs:List (M2×M2)}{p:M2×M2}:ebd own (bs++[p])=ebd own bs++[p]:=by
 unfold ebd;rw[qb9]
theorem mx4{z a b c:Nat}:max z (max a (max b c))=max (max (max z a) b) c:=by rw[qg4,qg4]
theorem J3w{n:Nat}:kOf (r1 "keep" n)=some (n+1):=by
 show(if(("keep":M2)="keep")then some ((n:Int).toNat+1)else none)=_;rw[if_pos rfl];rfl
theorem J7K(T:nofun)(g:Has P w K mg base (6*L+10) "_law_grown" ["_law_env_here","_law_kind","_law_depth"] (Z2M K L)):Has P w K mg base (6*L+12) "_law_let" ["_law_env_here","_law_kind","_law_cell","_law_depth"] (J4u K L):=by
 walk_at "h O0V O0h 4"
 obtain⟨e,ba,B',S,own,n,M,m,z,r,bs,k,d,rfl,c,R1,⟨hM,hn⟩,hd,t0,q⟩:=h;refine⟨_,(Z0a (qG 4 O0h.nd (qD K (Z0o (qK Z0b Z0b Z0b)) (Z0j Z0C (pvF 2) Z0f))) (Z0a (Z0Q (qF g hr (qK (pvF 0) (qD K (Z0o (Z0q Z0b (Z0q Z0b (qK Z0b Z0b Z0b)))) (Z0j Z0C (Z0j Z0E (pvF 2) Z0f) Z0f)) (Z0j Z1V (pvF 3) Z0f))) (Z0v (n:=2) rfl (Z0e (qH 5 O0h.nd) (Z0e (qH 6 O0h.nd) Z0s)))) (Z0a (qG 7 O0h.nd (qB hr 0)) (Z0a (Z1K (Z2F hr) (pvF 0) Z0b (Z0j Z0y (pvF 7) (Z0o (qI (Z0i (qJ (pvF 4) (qD K (Z0o (Z0q Z0b (Z0q Z0b (qK Z0b Z0b Z0b)))) (Z0j Z0C (Z0j Z0E (pvF 2) Z0f) Z0f))))))) rfl) (Z0a (Z1K (Z2F hr) (pvF 0) Z0b (Z1t (J1n rfl) rfl T.z_max Z9a (qJ (qB hr 0) (qL T.z_len (qI (qB hr 0))))) rfl) (Z0a (Z0Q (qF g hr (qK (pvF 0) (pvF 1) (Z0j Z1V (pvF 3) Z0f))) (Z0v (n:=2) rfl (Z0e (qH 8 O0h.nd) (Z0e (qH 9 O0h.nd) Z0s)))) (Z0a (Z1K (Z2F hr) (pvF 0) Z0b (pvF 7) rfl) (Z0c (Z0h (Z0i (qJ (Z0i (Z0q Z0b (qK (pvF 4) (pvF 5) (pvF 8)))) (Z0j Z0y (Z0j Z0y (pvF 6) (Z0o (qI (Z0i (qJ Z0b (qL T.z_len (qI (pvF 7)))))))) (pvF 9))))))))))))),?_⟩;have k5:=t0.1;obtain⟨x1,T0,D0⟩:=pkS ["number","truth","aa","bb","cc"] (n:=5) rfl qS ((r:Int)/3);obtain⟨nm,U0,Y0⟩:=pkS ["u","p","q"] (n:=3) rfl qS (r:Int);walk_at "s 8 z";have x5:x1∈K5:=T0;refine New.of λ p1 H1 h1 s1 e1=>⟨_,SqL.of e1,_,Y0,?_⟩;walk_at "n z1";refine New.of λ p2 H2 h2 s2 e2=>⟨_,SqL.of e2,_,D0,?_⟩;have S2:=s1.trans s2;refine⟨e,ba,B',S,own,n,M,m,z,bs,x1,d-1,rfl,c.same S2,qR,⟨hM,qR⟩,t0.dn hd x5,λ v t rows m' H4 sx c4 pr gt dp sz sr=>?_⟩;obtain⟨a,tv,rl,xs,rfl,pa,pt,pn,G0,I0⟩:=pr;obtain⟨_,_,gr,_⟩:=gt.g bs (BsR.refl bs);have S1:=gr.rlen;have rx:=I0.length;have ml:=Z3e (M:=M) (n:=n+t.size);refine⟨a,rfl,_,SqT.of pa,rfl,⟨_,_,rfl,⟨_,_,rfl,rfl,?_⟩⟩⟩;obtain⟨I1,J1,Z0,J0⟩:=c4.at;obtain⟨G,u0,O⟩:=c4.bd;walk_at "n z2";refine⟨_,J0 Z0.ba,?_⟩;walk_at "n z3";have T1:G.length<=31:=by
  rw[O.length,qa1];have:=(ebd_len (own:=own) (bs:=bs)).2;lia
 refine New.of λ p5 H5 h5 s5 e5=>⟨_,SqL.of e5,_,D0,New.of λ p6 H6 h6 s6 e6=>New.of λ p7 H7 h7 s7 e7=>⟨G,s7 _ _ (s6 _ _ (s5 _ _ u0)),_,e7,by show _+1<=_;lia,New.of λ p8 H8 h8 s8 e8=>?_⟩⟩;have S8:=s5.trans (s6.trans (s7.trans s8));have c8:=c4.same S8;obtain⟨L1,L0,M0,N1⟩:=c8.at;refine DP L0 M0.le λ H9 I x9=>?_;have R:=c8.kt I;have a1:nm∈nms5:=(show ∀x∈[("u":M2),"p","q"],x∈nms5 by decide+kernel) nm U0;have c9:CA K H9 e B' S (n+t.size) M m' own p8 (bs++[(nm,x1)]) (max z (kMax rows)):=by
  refine c8.bnd I ⟨_,x9,M0.bnd p8⟩ ⟨G++[.ref p6],I _ _ (c8.nel e8) e8,?_⟩ (λ p hp=>?_) (by rw[qa2];show _+1<=30;lia)
  ·rw[J3G,qb6];exact RTs.app ((O.same S8).kt R) (.cons ((show RT K H8 (.ref p6) (Z1k (nm,x1))from .tup (SqT.of ((s7.trans s8) _ _ e6)) (.cons (.str _) (.cons (.str _) .nil))).kt R) .nil)
  ·rcases qa7.mp hp with y|y
   ·exact c.bk p y
   ·rw[qa5.mp y];exact⟨a1,x5⟩
 have N0:=I _ _ (c8.nel (S8 _ _ u0)) (S8 _ _ u0);have k0:=I _ _ (c8.nel (S8 _ _ G0)) (S8 _ _ G0);obtain⟨O1,O0,d0,l0⟩:=c9.at;walk_at "n z4";have b1:H9 p8=some (.lst (G++[.ref p6])):=I _ _ (c8.nel e8) e8;have c1:(G++[V.ref p6]).length=(bnd own bs).length+1:=by
  rw[qa2,O.length,qa1,(ebd_len (own:=own) (bs:=bs)).1];rfl
 generalize hz9:max z (kMax rows)=z9 at*;refine⟨_,l0 d0.z,_,l0 d0.ba,p8,rfl,_,.inl (SqL.of b1),_,rfl,?_⟩;rw[c1,show(if(((bnd own bs).length+1:Nat):Int)>(z9:Int)then(((bnd own bs).length+1:Nat):Int)else(z9:Int))=((max z9 ((bnd own bs).length+1):Nat):Int)by split<;>lia];refine DP O0 d0.le λ U1 C d1=>?_;have e0:=c9.go C ⟨_,d1,d0.siz (max z9 ((bnd own bs).length+1))⟩;have m0:=C _ _ (c9.nel N0) N0;have U:=C _ _ (c9.nel k0) k0;have X:=c9.kt C;walk_at "n z5";refine⟨e,p8,B',S,own,n+t.size,M,m',_,bs++[(nm,x1)],k,d-1,rfl,e0,by rw[qa2];show _+1+_<=_;lia,⟨hM,qR⟩,t0.dn hd k5,λ v2 t2 u m2 Y1 J N f1 v0 Z1 i1 b2=>?_⟩;obtain⟨a2,c2,d2,j1,rfl,k1,l1,f2,n0,o0⟩:=f1;obtain⟨_,_,m1,_⟩:=v0.g _ (BsR.refl _);have Q1:=m1.rlen;have i2:=o0.length;rw[qe3 n t.size t2.size]at i1;have j2:=Z3e (M:=M) (n:=n+(t.size+t2.size));refine⟨a2,rfl,_,SqT.of k1,rfl,⟨_,_,rfl,⟨_,_,rfl,rfl,?_⟩⟩⟩;obtain⟨n1,w0,p0,o1⟩:=N.at;have Y:=e0.kt J;have q0:=J _ _ (e0.nel m0) m0;have Z:=J _ _ (e0.nel U) U;walk_at "n z6";refine DP w0 p0.le λ H12 j q1=>?_;have D:=N.kt j;have s0:=j _ _ (N.nel q0) q0;have x0:=j _ _ (N.nel Z) Z;have y0:=j _ _ (N.nel n0) n0;have t1:=N.bnd (bs2:=bs) j ⟨_,q1,p0.bnd ba⟩ ⟨G,s0,((((O.same S8).kt R).kt X).kt Y).kt D⟩ c.bk c.bl;have Q0:=((((pt.same S8).kt R).kt X).kt Y).kt D;have z0:=((((I0.same S8).kt R).kt X).kt Y).kt D;have R0:=l1.kt D;have A0:=o0.kt D;have u1:SX e H H12:=λ b o y e'=>j _ _ y (J _ _ y (C _ _ y (I _ _ y (S8 _ _ (sx _ _ y (S2 _ _ e'))))));have v1:G.length=(bnd own bs).length:=by rw[O.length,qa1];exact ebd_len.1
 walk_at "n z7";refine New.of λ k2 l2 n2 f0 w1=>⟨_,.inl (SqL.of (f0 _ _ s0)),New.of λ o2 q2 u2 g0 y1=>New.of λ w2 x2 y2 a0 z1=>⟨xs,a0 _ _ (g0 _ _ (f0 _ _ x0)),_,z1,by show _+1<=_;lia,New.of λ z2 B2 C2 h0 A1=>⟨_,A1,j1,h0 _ _ (a0 _ _ (g0 _ _ (f0 _ _ y0))),by rw[qa2];show _+1+_<=_;lia,New.of λ D2 E2 B1 i0 C1=>New.of λ G2 I2 J2 b0 D1=>?_⟩⟩⟩;have S0:=f0.trans (g0.trans (a0.trans h0));have j0:=S0.trans (i0.trans b0);have kk:kMax (r1 "keep" (bnd own bs).length::u)=max ((bnd own bs).length+1) (kMax u):=by
  unfold kMax;rw[qi0,J3w];rfl
 refine q.fin hd (t:=.mk .lt (.str nm) [t,t2]) (rows:=rows++r1 "keep" (bnd own bs).length::u) (m':=m2) (sz:=t.size+t2.size) (z4:=max (kMax rows) (max ((bnd own bs).length+1) (kMax u))) u1 (by rw[<-qe3,mx4,hz9];exact t1) (by show 1+(t.size+(t2.size+0))=_;lia) (by rw[Z2I,kk]) S0 B1 (i0.trans b0) (b0 _ _ C1) ?_ D1 ?_ ⟨λ B0 hb=>?_,.mk rfl λ y hy=>?_⟩ ?_ ?_
 ·rw[qb9];refine RTs.app (z0.same j0) (.cons (.tup (SqT.of ((a0.trans (h0.trans (i0.trans b0))) _ _ y1)) (.cons (.str _) (.cons ?_ .nil))) (A0.same j0));rw[v1];exact .int _
 ·exact .tup (SqT.of ((g0.trans (a0.trans (h0.trans (i0.trans b0)))) _ _ w1)) (.cons (.str _) (.cons (.str _) (.cons (Q0.same j0) (.cons (R0.same j0) .nil))))
 ·obtain⟨ka,L2,g1,ga,E1⟩:=gt.g B0 hb;obtain⟨kb,N2,g2,gb,G1⟩:=v0.g (B0++[(nm,ka)]) (A2.snoc hb ⟨rfl,E1⟩);have lb:(bnd own B0).length=(bnd own bs).length:=by
   unfold PK.bnd;rw[qa2,qa2,qa1,qa1,hb.len]
  refine⟨kb,_,.mk (.cons g1 (.cons g2 .nil)) (by rw[<-lb];exact .lt) (show 2<=8 by decide),gb,G1⟩
 ·rcases qa4.mp hy with w|w
  ·rw[w];exact gt.ok
  ·rw[qa5.mp w];exact v0.ok
 ·show 1+max t.depth (max t2.depth 0)<=_;lia
 ·lia
inductive J2s(K:X0)(L:Nat)(vs:List V)(H:Hp)(Q:VK):Prop
 |mk(e ba:V0)(B:Hp)(S:ES)(own:Option M2)(n M m z r:Nat)(bs:List (M2×M2))(k:M2)(a1:vs=[.ref e,.str k,.int r])(a2:CA K H e B S n M m own ba bs z)(a3:bs.length+L<=30)(a4:M<=20000)(a5:n+120*(L+1)<=120*mi M n+1000001)(a6:Lv k 0 L)(a7:∀v t rows m' H',SX e H H'->CA K H' e B S (n+(t.size-1)) M m' own ba bs (max z (kMax rows))->PrO K H H' v t rows->GT S own bs m k t rows m'->t.depth<=L+1->t.size<=szR k->Q v H')
def Z8X(K:X0)(L:Nat):Sp:=λ vs H Q _=>J2s K L vs H Q
theorem PrO.up{K:X0}{b:Hp}{v:V}{t:Tm}{rows:List PyData}(h:PrO K b H' v t rows)(s:SX e H b)(g:b e=some o):PrO K H H' v t rows:=by
 obtain⟨a,i,rl,j,m,n,p,c,q,r⟩:=h;refine⟨a,i,rl,j,m,n,p,?_,q,r⟩;cases y:H rl with
 |none=>rfl
 |some x=>
  have u:rl≠e:=nq g c;rw[s _ _ u y]at c;cases c
theorem Z9e(t:Tm):1<=t.size:=by
 cases t with
 |mk f l ps=>show 1<=1+_;lia
theorem J8a(k:M2):szR k<=12:=by
 unfold szR;split
 ·exact qa0 _
 ·split<;>lia
theorem J0b(T:nofun){D0 G0 I0 J0 L0 M0:Sp}(hL:∀L',L=L'+1->D0=Z2M K L'/\G0=J4u K L'/\I0=Z4Q K L'/\J0=Z4Q K L'/\L0=Z9y K L'/\M0=J4F K L')(G:Has P w K mg base 2 "_law_draw" ["_law_env_here"] (Z8s K))(I:Has P w K mg base (6*L+9) "_law_leaf" ["_law_env_here","_law_kind","_law_cell"] (Z8X K L))(g:Has P w K mg base (6*L+4) "_law_grown" ["_law_env_here","_law_kind","_law_depth"] D0)(N:Has P w K mg base (6*L+6) "_law_let" ["_law_env_here","_law_kind","_law_cell","_law_depth"] G0)(C:Has P w K mg base (6*L+6) "_law_called" ["_law_env_here","_law_kind","_law_cell","_law_depth"] I0)(u:Has P w K mg base (6*L+6) "_law_touched" ["_law_env_here","_law_kind","_law_cell","_law_depth"] J0)(O:Has P w K mg base (6*L+6) "_law_new" ["_law_env_here","_law_kind","_law_cell","_law_depth"] L0)(R:Has P w K mg base (6*L+6) "_law_two" ["_law_env_here","_law_kind","_law_cell","_law_depth"] M0):Has P w K mg base (6*L+10) "_law_grown" ["_law_env_here","_law_kind","_law_depth"] (Z2M K L):=by
 walk_at "h O0J O0a 3"
 obtain⟨e,Z,B',S,own,n,M,m,z,bs,k,d,rfl,c,q0,⟨hM,hn⟩,D,q⟩:=h;refine⟨_,(Z0a (qG 3 O0a.nd (qF G hr (qI (pvF 0)))) (Z0a (qG 4 O0a.nd Z0T) (Z0a (Z0t (PW.pt (Z8L (qM J6p (pvF 2) Z0f) (Z5A (qM J7x (qB hr 0) (qB hr 0))))) (Z0c (Z0h (qF I hr (qK (pvF 0) (pvF 1) (pvF 3))))) Z0n) (Z0a (Z0t (qM Z0B (Z0j Z0C (pvF 3) Z0f) Z0f) (Z0a (Z0Q (qF g hr (qK (pvF 0) Z0b (Z0j Z1V (pvF 2) Z0f))) (Z0v (n:=2) rfl (Z0e (qH 5 O0a.nd) (Z0e (qH 6 O0a.nd) Z0s)))) (Z0a (Z0Q (qF g hr (qK (pvF 0) (pvF 1) (Z0j Z1V (pvF 2) Z0f))) (Z0v (n:=2) rfl (Z0e (qH 7 O0a.nd) (Z0e (qH 8 O0a.nd) Z0s)))) (Z0a (Z0Q (qF g hr (qK (pvF 0) (pvF 1) (Z0j Z1V (pvF 2) Z0f))) (Z0v (n:=2) rfl (Z0e (qH 9 O0a.nd) (Z0e (qH 10 O0a.nd) Z0s)))) (Z0a (qG 6 O0a.nd (Z0j Z0y (Z0j Z0y (Z0j Z0y (Z0j Z0y (pvF 6) (Z0o (qI (Z0i (qJ Z0b (Z0j Z1q (qL T.z_len (qI (pvF 8))) Z0f)))))) (pvF 8)) (Z0o (qI (Z0i (qJ Z0b (qL T.z_len (qI (pvF 10)))))))) (pvF 10))) (Z0c (Z0h (Z0i (qJ (Z0i (Z0q Z0b (qK (pvF 5) (pvF 7) (pvF 9)))) (pvF 6))))))))) Z0n) (Z0a (Z0t (qM Z0B (Z0j Z0C (pvF 3) Z0f) Z0f) (Z0c (Z0h (qF N hr (Z0q (pvF 0) (qK (pvF 1) (Z0j Z0E (pvF 3) Z0f) (pvF 2)))))) Z0n) (Z0a (Z0t (qM J6p (Z0j Z0C (pvF 3) Z0f) Z0f) (Z0c (qG 4 O0a.nd (qF C hr (Z0q (pvF 0) (qK (pvF 1) (Z0j Z0E (pvF 3) Z0f) (pvF 2)))))) (Z0c (Z0t (qM Z0B (Z0j Z0C (pvF 3) Z0f) Z0f) (Z0c (qG 4 O0a.nd (qF u hr (Z0q (pvF 0) (qK (pvF 1) (Z0j Z0E (pvF 3) Z0f) (pvF 2)))))) (Z0c (Z0t (PW.pt (Z4b (qM Z0B (Z0j Z0C (pvF 3) Z0f) Z0f) (Z3a (Z0Y (r:=rIn K false) Z0J (pvF 1) (Z0i (qK Z0b Z0b Z0b)) (by with_unfolding_all rfl))))) (Z0c (qG 4 O0a.nd (qF O hr (Z0q (pvF 0) (qK (pvF 1) (Z0j Z0E (pvF 3) Z0f) (pvF 2)))))) Z0n))))) (Z0a (Z0t (qM Z6l (pvF 4) Z0T) (Z0c (qG 4 O0a.nd (qF R hr (Z0q (pvF 0) (qK (pvF 1) (Z0j Z0E (pvF 3) Z0f) (pvF 2)))))) Z0n) (Z0c (Z0h (pvF 4)))))))))),?_⟩;have k5:=D.1;walk_at "s 8 z";have U1:=Z3e (M:=M) (n:=n);have Y1:=Z6p (M:=M) (n:=n) (s:=1);refine⟨e,Z,B',S,own,n,M,m,z,bs,rfl,c,qR,λ r H1 b0 c1=>?_⟩;obtain⟨R1,i0,N0,j0⟩:=c1.at;have lf:Z8X K L [V.ref e,V.str k,V.int r] H1 Q E0:=⟨e,Z,B',S,own,n+1,M,m,z,r,bs,k,rfl,c1,q0,hM,qR,⟨k5,D.2.1,λ h=>by lia⟩,λ v t rows m' J sx c' pr gt dp sz=>by
  have p1:=Z9e t;have p2:=J8a k;have mm:=Z6p (M:=M) (n:=n) (s:=t.size);refine q v t rows m' J (λ b o y e'=>sx _ _ y (b0 _ _ y e')) (by rw[show n+t.size=n+1+(t.size-1)by lia];exact c') (pr.up b0 i0) gt dp qR λ _=>sz⟩
 walk_at "n z1";walk_at "n z2";refine ite2 (λ _=>lf) λ hd=>⟨_,j0 N0.n,_,j0 N0.M,_,rfl,_,rfl,ite2 (λ _=>lf) λ hs=>?_⟩;have hd:1<=d:=by lia
 have e1:n+1<=M:=by lia
 have Z1:=D.2.2 hd;obtain⟨L',rfl⟩:∃L',L=L'+1:=⟨L-1,qR⟩;obtain⟨rfl,rfl,rfl,rfl,rfl,rfl⟩:=hL L' rfl;have U:bs.length+L'<=30:=Nat.le_of_succ_le q0;have f1:mi M n=n:=J5P qR;have b2:mi M (n+1)=n+1:=J5P e1;rw[f1]at hn;have nc:nC M (n+1) L':=⟨hM,qR⟩;have nq:∀H2,Same H1 H2->∀Q2:VK,(∀a J,Q (.ref a) J->Q2 (.ref a) J)->NQ K e B' S own Z bs (n+1) M m z L' k d H2 Q2:=λ H2 X Q2 q2 v t rows m' J sx c' pr gt dp sz sr=>by
  have p1:=Z9e t;have en:n+1+(t.size-1)=n+t.size:=by lia
  have mm:=Z6p (M:=M) (n:=n) (s:=t.size);rw[en]at c' sz;have h1:PrO K H J v t rows:=pr.up (λ b o y e'=>X _ _ (b0 _ _ y e')) (X _ _ i0);obtain⟨a,_,_,_,rfl,_⟩:=id pr;exact q2 a J (q (.ref a) t rows m' J (λ b o y e'=>sx _ _ y (X _ _ (b0 _ _ y e'))) c' h1 gt dp qR λ y=>by lia)
 have r7:(r:Int)/7=((r/7:Nat):Int):=by lia
 have s0:∀a H2,Q (.ref a) H2->uz6 {nx:=λ x J=>Q V.non J,rt:=Q} [some (V.ref e),some (V.str k),some (V.int d),some (V.int r),some (.ref a),none,none,none,none,none,none] H2:=by
  intro a H2 q2;walk_at "n z6";walk_at "n z7";exact q2
 have d0:∀H2,Same H1 H2->uz6 {nx:=λ x J=>Q V.non J,rt:=Q} [some (V.ref e),some (V.str k),some (V.int d),some (V.int r),some V.non,none,none,none,none,none,none] H2:=by
  intro H2 X;walk_at "n z6";rw[r7];refine⟨e,Z,B',S,own,n+1,M,m,z,r/7,bs,k,d,rfl,c1.same X,U,nc,hd,D,nq H2 X _ λ a J q2=>?_⟩;walk_at "n z7";exact q2
 have i1:uz5 {nx:=λ x J=>Q V.non J,rt:=Q} [some (V.ref e),some (V.str k),some (V.int d),some (V.int r),some V.non,none,none,none,none,none,none] H1:=by
  walk_at "n z5";rw[r7];refine ite2 (λ _=>?_) λ _=>ite2 (λ _=>?_) λ _=>ite2 (λ _=>?_) λ _=>d0 H1 (Same.refl _)
  ·exact⟨e,Z,B',S,own,n+1,M,m,z,r/7,bs,k,d,rfl,c1,U,nc,hd,D,λ H2 X=>d0 H2 X,nq H1 (Same.refl _) _ s0⟩
  ·exact⟨e,Z,B',S,own,n+1,M,m,z,r/7,bs,k,d,rfl,c1,U,nc,hd,D,λ H2 X=>d0 H2 X,nq H1 (Same.refl _) _ s0⟩
  ·refine New.of λ p2 H2 h2 X e2=>⟨_,.inr (SqT.of e2),rfl,rfl,ite2 (λ y=>?_) λ _=>d0 H2 X⟩;rw[show[V.str (Str.ofString "aa"),V.str (Str.ofString "bb"),V.str (Str.ofString "cc")]=P50.H3.map V.str from rfl,Z3J]at y;exact⟨e,Z,B',S,own,n+1,M,m,z,r/7,bs,k,d,rfl,c1.same X,U,nc,of_decide_eq_true y,D,nq H2 X _ s0⟩
 have j1:uz4 {nx:=λ x J=>Q V.non J,rt:=Q} [some (V.ref e),some (V.str k),some (V.int d),some (V.int r),some V.non,none,none,none,none,none,none] H1:=by
  walk_at "n z4";rw[r7];exact ite2 (λ _=>⟨e,Z,B',S,own,n+1,M,m,z,r/7,bs,k,d,rfl,c1,q0,nc,hd,D,nq H1 (Same.refl _) _ λ a J q2=>q2⟩) λ _=>i1
 walk_at "n z3";refine ite2 (λ _=>?_) λ _=>j1;have k1:("truth":M2)∈K5:=by decide+kernel
 refine⟨e,Z,B',S,own,n+1,M,m,z,bs,"truth",d-1,rfl,c1,U,⟨hM,qR⟩,D.dn hd k1,λ v t rows m' H4 sx c4 pr gt dp sz sr=>?_⟩;obtain⟨a,tv,rl,xs,rfl,pa,pt,pn,O0,Q0⟩:=pr;obtain⟨_,_,gr,_⟩:=gt.g bs (BsR.refl bs);have c2:=gr.rlen;have rx:=Q0.length;have ml:=Z3e (M:=M) (n:=n+1+t.size);refine⟨a,rfl,_,SqT.of pa,rfl,⟨_,_,rfl,⟨_,_,rfl,rfl,?_⟩⟩⟩;refine⟨e,Z,B',S,own,n+1+t.size,M,m',_,bs,k,d-1,rfl,c4,U,⟨hM,qR⟩,D.dn hd k5,λ v2 t2 p m2 H5 t0 c5 l1 R0 d2 f2 i2=>?_⟩;obtain⟨a2,j2,S0,u0,rfl,m1,o1,k2,k0,l0⟩:=l1;obtain⟨_,_,q1,_⟩:=R0.g bs (BsR.refl bs);have S1:=q1.rlen;have s1:=l0.length;have l2:=Z3e (M:=M) (n:=n+1+t.size+t2.size);refine⟨a2,rfl,_,SqT.of m1,rfl,⟨_,_,rfl,⟨_,_,rfl,rfl,?_⟩⟩⟩;refine⟨e,Z,B',S,own,n+1+t.size+t2.size,M,m2,_,bs,k,d-1,rfl,c5,U,⟨hM,qR⟩,D.dn hd k5,λ v3 t3 j m3 H6 e0 c6 t1 T0 o2 u1 u2=>?_⟩;obtain⟨a3,w2,U0,v0,rfl,v1,w1,x2,m0,n0⟩:=t1;obtain⟨_,_,x1,_⟩:=T0.g bs (BsR.refl bs);have T1:=x1.rlen;have z1:=n0.length;rw[show n+1+t.size+t2.size+t3.size=n+1+(t.size+t2.size+t3.size)by lia]at u1;have y2:=Z3e (M:=M) (n:=n+1+(t.size+t2.size+t3.size));have o0:=c4.kt t0;have f0:=c5.kt e0;have p0:=t0 _ _ (c4.nel O0) O0;have Y0:=e0 _ _ (c5.nel p0) p0;have a0:=e0 _ _ (c5.nel k0) k0;have A1:=(pt.kt o0).kt f0;have Z0:=(Q0.kt o0).kt f0;have a1:=o1.kt f0;have w0:=l0.kt f0;refine⟨a3,rfl,_,SqT.of v1,rfl,⟨_,_,rfl,⟨_,_,rfl,rfl,?_⟩⟩⟩;refine⟨S0,rfl,u0,.inl (SqL.of a0),New.of λ p7 H7 h7 s7 e7=>New.of λ p8 H8 h8 s8 e8=>⟨rl,rfl,xs,s8 _ _ (s7 _ _ Y0),_,e8,by show _+1<=_;lia,New.of λ p9 H9 h9 s9 e9=>?_⟩⟩;have S9:=s7.trans (s8.trans s9);refine⟨S0,rfl,_,e9,u0,S9 _ _ a0,by rw[qa2];show _+1+_<=_;lia,New.of λ z2 B2 C2 x0 B1=>⟨U0,rfl,v0,.inl (SqL.of (x0 _ _ (S9 _ _ m0))),New.of λ C1 D2 E2 y0 D1=>New.of λ G2 I2 J2 g0 E1=>⟨_,g0 _ _ (y0 _ _ B1),_,E1,by rw[qa2,qa2];show _+1+_+1<=_;lia,New.of λ L2 N2 O2 z0 G1=>?_⟩⟩⟩;have A0:=S9.trans (x0.trans (y0.trans (g0.trans z0)));refine⟨U0,rfl,_,G1,v0,A0 _ _ m0,by rw[qa2,qa2,qa2];show _+1+_+1+_<=_;lia,New.of λ S2 T2 I1 J1 L1=>New.of λ U2 Y2 Z2 b1 N1=>New.of λ b3 O1 c3 B0 Q1=>?_⟩;have h0:=J1.trans (b1.trans B0);have Y:=A0.trans h0;have d1:=GTs.cons gt (.cons R0 (.cons T0 .nil));refine(nq H1 (Same.refl _) Q (λ a J q2=>q2)).fin hd (t:=.mk .iff .non [t,t2,t3]) (rows:=rows++r1 "unless" (p.length+1)::(p++r1 "skip" j.length::j)) (m':=m3) (sz:=t.size+t2.size+t3.size) (z4:=max (kMax rows) (max (kMax p) (kMax j))) (λ b o y e'=>e0 _ _ y (t0 _ _ y (sx _ _ y e'))) (by rw[<-qe3,<-qe3,<-qg4,<-qg4];exact c6) (by show 1+(t.size+(t2.size+(t3.size+0)))=_;lia) ?_ A0 I1 h0 ((b1.trans B0) _ _ L1) ?_ Q1 ?_ ⟨λ e3 hb=>?_,.mk rfl d1.oks⟩ ?_ ?_
 ·rw[Z2I,show kMax (r1 "unless" (p.length+1)::(p++r1 "skip" j.length::j))=kMax (p++r1 "skip" j.length::j)from Z6P qP,Z2I,show kMax (r1 "skip" j.length::j)=kMax j from Z6P qP]
 ·rw[qb9,qb9,qb9];show RTs K O1 (xs++(V.ref p7::(u0++(V.ref C1::v0)))) _;refine RTs.app (Z0.same Y) (.cons (.tup (SqT.of ((s8.trans (s9.trans (x0.trans (y0.trans (g0.trans (z0.trans h0)))))) _ _ e7)) (.cons (.str _) (.cons ?_ .nil))) (RTs.app (w0.same Y) (.cons (.tup (SqT.of ((g0.trans (z0.trans h0)) _ _ D1)) (.cons (.str _) (.cons ?_ .nil))) (n0.same Y))))
  ·rw[s1];exact .int _
  ·rw[z1];exact .int _
 ·exact .tup (SqT.of (B0 _ _ N1)) (.cons (.str _) (.cons (A1.same Y) (.cons (a1.same Y) (.cons (w1.same Y) .nil))))
 ·obtain⟨f3,g3,g1,g2⟩:=d1.grs (f:=.iff) (l:=.non) (λ y=>by cases y) hb [];cases g2 with
  |@cons kt _ _ _ ta ra=>
  cases ra with
  |@cons ka _ _ _ tb rb=>
  cases rb with
  |@cons kb _ _ _ tc rc=>
  cases rc;have y1:=Z9h "truth" qP _ ta.2;subst y1;obtain⟨kr,n1,n2,n3⟩:=P50.near_facts ka tb.1 kb tc.1 k k5 tb.2 tc.2;exact⟨kr,_,.mk g1 (.iff (kn5 c.st.ok ka tb.1) (kn5 c.st.ok kb tc.1) n2) (show 3<=8 by decide),n1,n3⟩
 ·show 1+max t.depth (max t2.depth (max t3.depth 0))<=_;lia
 ·lia
inductive LfO(K:X0)(S:ES)(own:Option M2)(bs:List (M2×M2))(m:Nat)(k:M2)(H0 H:Hp)(v:V):Prop
 |mk(t:_)(j:_)(a1:PrO K H0 H v t [r1 "load" j])(a2:t.size=1)(a3:t.depth=1)(a4:GT S own bs m k t [r1 "load" j] m)
theorem PrO.same{K:X0}{b:Hp}{v:V}{t:Tm}{rows:List PyData}(h:PrO K b H v t rows)(s:Same H H'):PrO K b H' v t rows:=by
 obtain⟨a,c,rl,e,g,i,j,m,n,o⟩:=h;exact⟨a,c,rl,e,g,s _ _ i,j.same s,m,s _ _ n,o.same s⟩
theorem J6f(k:M2):1<=szR k:=by
 unfold szR;split
 ·lia
 ·split<;>lia
theorem Z4l(xs:List V)(k:Nat):cutV xs (some (k:Int)) none=xs.drop k:=by
 unfold cutV;rw[HT.sIx_none,HT.sIx_nat];by_cases h:k<=xs.length
 ·rw[qf2 h,qe1 (by rw[qf8];lia)]
 ·rw[qk0 qR,List.drop_eq_nil_of_le (qa0 _),List.drop_eq_nil_of_le qR,qj9]
theorem J6i{x k:M2}:∀{bs:List (M2×M2)}{j:Nat},bs[j]?=some (x,k)->(∀i p,j<i->bs[i]?=some p->p.1≠x)->getK x bs=some k:=λ{bs j} h c=>by
 have g:=(qa6.mp h).1;have e:bs=bs.take j++(x,k)::bs.drop (j+1):=by
  have:=List.take_append_drop j bs;rw[qf6 g,(qa6.mp h).2]at this;exact this.symm
 have m:∀p∈bs.drop (j+1),p.1≠x:=λ p a=>by
  obtain⟨i,b⟩:=ql4 a;rw[qk1]at b;exact c _ p qR b
 rw[e];unfold PK.getK;rw[ql5,qe8,qb9,List.find?_append];rw[qm6.mpr (λ p a=>by simpa using m p (List.mem_reverse.mp a))];rw[Option.none_or];show(List.find? (λ p:M2×M2=>decide (p.1=x)) ((x,k)::(bs.take j).reverse)).map (λ x=>x.2)=some k;rw[qf1,decide_eq_true (show(x,k).1=x from rfl)];rfl
theorem J4Y{a b k:M2}(g:Sub a b)(h2:Sub b k):Sub a k:=by
 rcases g with e|⟨h,c⟩
 ·rw[e];exact h2
 ·rcases h2 with e|⟨e,_⟩
  ·rw[<-e];exact .inr ⟨h,c⟩
  ·rw[c]at e;exact absurd e qP
theorem J4O{a k:M2}(h:Sub a k)(b:k∈K5):a∈K5:=by
 rcases h with e|⟨e,_⟩
 ·rw[e];exact b
 ·rw[e];decide+kernel
theorem J1h{bs bs':List (M2×M2)}{p:M2×M2}{j:Nat}(g:BsR bs' bs)(o:bs[j]?=some p)(r:∀i q,j<i->bs[i]?=some q->q.1≠p.1):∃h,getK p.1 bs'=some h/\Sub h p.2/\Z1n (bs'.map Prod.fst) p.1 j:=by
 obtain⟨u,a,m,v⟩:=g.to o;have n:∀i q,j<i->bs'[i]?=some q->q.1≠p.1:=λ i q b c=>by
  obtain⟨x,z,A,_⟩:=g.at c;rw[A];exact r i x b z
 refine⟨u.2,J6i (j:=j) (by rw[a,<-m]) n,v,by rw[qa8,a];exact congrArg some m,λ i b y=>?_⟩;rw[qa8]at y;obtain⟨q,c,e⟩:=qc1.mp y;exact n i q b c e
theorem J2t{own:Option M2}{bs:List (M2×M2)}{m:Nat}{k:M2}{p:M2×M2}(r:(ebd own bs)[i]?=some p)(x:p.1∉((ebd own bs).drop (i+1)).map Prod.fst)(z:p.1≠"")(hs:Sub p.2 k)(A:k∈K5):GT S own bs m k (.mk .name (.str p.1) []) [r1 "load" i] m:=by
 refine⟨λ c u=>?_,.mk rfl λ t C=>by cases C⟩;have v:∀a q,i<a->(ebd own bs)[a]?=some q->q.1≠p.1:=λ a q D o y=>x (qe0.mpr ⟨q,qb4 (i:=a-(i+1)) (by rw[qk1,show i+1+(a-(i+1))=a by lia];exact o),y⟩);have fin:∀b,getK p.1 c=some b->Sub b p.2->Z1n (bnd own c) p.1 i->∃b ks,GR (D50 S.c) own c m (.mk .name (.str p.1) []) (b::ks) [r1 "load" i] m/\b∈K5/\Sub b k:=λ b n e g=>⟨b,[],.mk .nil (.name n g) (qb0 _),J4O (J4Y e hs) A,J4Y e hs⟩;cases own with
 |none=>
  obtain⟨b,n,e,g⟩:=J1h u (j:=i) r v;exact fin b n e g
 |some h=>
  cases i with
  |zero=>cases r;exact absurd rfl z
  |succ j=>
   obtain⟨b,n,e,g⟩:=J1h u (j:=j) (p:=p) r λ a q D o=>v (a+1) q qR o;refine fin b n e ⟨g.1,λ a o y=>?_⟩;cases a with
   |zero=>lia
   |succ a=>exact g.2 a qR y
theorem J1b{own:Option M2}{bs:List (M2×M2)}{m:Nat}{k:M2}{p:M2×M2}(a:(ebd own bs)[i]?=some p)(b:∀q∈bs,q.1∈nms5)(c:p.1="")(hs:Sub p.2 k)(g:k∈K5):GT S own bs m k (.mk .self .non []) [r1 "load" i] m:=by
 have e:∀x∈nms5,x≠"":=by decide+kernel
 refine⟨λ n _=>?_,.mk rfl λ t o=>by cases o⟩;cases own with
 |none=>exact absurd c (e _ (b p (qb4 (show bs[i]?=some p from a))))
 |some h=>
  cases i with
  |zero=>
   cases a;exact⟨h,[],.mk .nil (.self rfl) (qb0 _),J4O hs g,hs⟩
  |succ j=>exact absurd c (e _ (b p (qb4 (show bs[j]?=some p from a))))
theorem PrO.updL{K:X0}{c:Hp}{v:V}{t:Tm}{rows:List PyData}{b:V0}{ys:List V}(h:PrO K c H v t rows)(j:c b=some o)(e:H b=some (.lst xs)):PrO K c (upd H b (.lst ys)) v t rows:=by
 obtain⟨a,m,rl,us,n,g,p,i,q,r⟩:=h;have sx:SX b H (upd H b (.lst ys)):=SX.put _;have kp:=SX.kpl sx e;exact⟨a,m,rl,us,n,sx _ _ (nq e g) g,p.kp kp,i,sx _ _ (nq j i) q,r.kp kp⟩
inductive LFI(K:X0)(S:ES)(own:Option M2)(bs:List (M2×M2))(m:Nat)(k:M2)(H H1:Hp)(l1:V0)(σ0:List (Option V)->St)(i:Nat)(σ:St)(H':Hp):Prop
 |mk(vs:_)(sl:_)(o:_)(h:_)(a1:Same H H')(a2:H' l1=some (.lst vs))(a3:(∀v∈vs,LfO K S own bs m k H1 H' v))(a4:SX l1 H1 H')(a5:vs.length<=i)(a6:σ=σ0 [sl,o,h])
theorem J1u(T:nofun){spM:Sp}(hN:∀L',L=L'+1->spM=Z9y K L')(J:Has P w K mg base (6*L+6) "_law_new" ["_law_env_here","_law_kind","_law_cell","_law_depth"] spM):Has P w K mg base (6*L+9) "_law_leaf" ["_law_env_here","_law_kind","_law_cell"] (Z8X K L):=by
 walk_at "h O1n O0o 3"
 obtain⟨e,ba,B',S,own,n,M,m,z,r,bs,k,rfl,c,O0,hM,hn,d0,q⟩:=h;refine⟨_,(Z0a (qG 3 O0o.nd (Z0o Z0R)) (Z0a (Z1o PassesOwn.never rfl (Z5m rfl T.O0t Z1S (qI (qB hr 0))) (Z0v (n:=2) rfl (Z0e (qH 4 O0o.nd) (Z0e (qH 5 O0o.nd) Z0s))) (Z0a (qG 6 O0o.nd (Z0W (r:=rIn K false) Z0J (qA K 5) (Z1e rfl (BlockOk.plain (N:=["_law_other"]) rfl qP qP qP) (Z1b (Z0S (r:=rSlL K) Z2E (qB hr 0) (Z1j (Z0j Z1q (pvF 4) Z0f)) Z1x)) (λ C fp s H=>(qH 0 (show(["_law_other"]:List M2).Nodup by decide+kernel))) (λ C fp s H=>(qA K 0))) (by with_unfolding_all rfl))) (Z0c (Z0t (PW.pt (Z4b (Z4T (Z4G (pvF 6))) (Z3a (PW.pt (Z8L (qM Z0B (qA K 5) (pvF 1)) (Z5A (qM (r:=rEqD K) (J1K hr.units) (Z0i (qJ (qA K 5) (pvF 1))) (Z0i (qJ Z0b Z0b))))))))) (Z0c (Z0A (Z1B qb5 qd2 qd3 Z0F (pvF 3) (qI (Z0i (qJ (qD K (Z0o (qJ (Z0i (qJ Z0b (qA K 5))) (Z0i (qI Z0b)))) (Z0w Z4f rfl T.z_int Z9V (qI (Z0W Z0B (qA K 5) Z0b (Z1R _))))) (Z0o (qI (Z0i (qJ Z0b (pvF 4))))))))))) Z0n)))) (Z0a (Z0t (PW.pt (Z4b (qM (r:=rNeN K) (J7P hr.units) (pvF 3) (Z0o Z0R)) (Z3a (qM J7x (Z0j Z0C (pvF 2) Z0f) Z0f)))) (Z0c (Z0h (qD K (pvF 3) (Z0j Z0C (Z0j Z0E (pvF 2) Z0f) (qL T.z_len (qI (pvF 3))))))) Z0n) (Z0a (Z0t (qM Z0B (pvF 1) Z0b) (Z0c (Z0h (Z0i (qJ (Z0i (qJ Z0b (Z0j Z0C (Z0j Z0E (pvF 2) Z0f) Z0f))) (Z0o (qI (Z0i (qJ Z0b (Z0j Z0C (Z0j Z0E (pvF 2) Z0f) Z0f))))))))) Z0n) (Z0a (Z0t (qM Z0B (pvF 1) Z0b) (Z0c (Z0h (Z0i (qJ (Z0i (qJ Z0b (Z0W Z0B (Z0j Z0C (Z0j Z0E (pvF 2) Z0f) Z0f) Z0f (Z1R _)))) (Z0o (qI (Z0i (qJ Z0b (Z0W Z0B (Z0j Z0C (Z0j Z0E (pvF 2) Z0f) Z0f) Z0f (Z1R _)))))))))) Z0n) (Z0c (Z0h (qF J hr (Z0q (pvF 0) (qK (pvF 1) (pvF 2) Z0f)))))))))),?_⟩;have k5:=d0.1;obtain⟨Q0,q0,ev,get⟩:=c.at;obtain⟨b0,e0,Y⟩:=c.bd;walk_at "s 6 z";refine New.of λ l1 H1 h1 s1 e1=>?_;have c1:=c.same s1;obtain⟨L0,g0,s0,h0⟩:=c1.at;walk_at "n z1";have fin:∀H2,Same H H2->∀v t u,PrO K H H2 v t u->t.size=1->t.depth=1->kMax u=0->GT S own bs m k t u m->Q v H2:=λ H2 s2 v t u pr hs hd hk gt=>q v t u m H2 (λ b o _ R=>s2 _ _ R) (by rw[hs,Nat.sub_self,hk,Nat.max_zero];exact c.same s2) pr gt qR (by have:=J6f k;lia);have i0:∀H3,Same H H3->∀sl o h,uz3 {nx:=λ x Z=>Q V.non Z,rt:=Q} [some (V.ref e),some (V.str k),some (V.int r),some (V.ref l1),sl,o,h] H3:=by
  intro H3 s3 sl o h;walk_at "n z3";refine ite2 (λ y=>New.of λ p4 H4 h4 s4 e4=>New.of λ p5 H5 h5 s5 e5=>New.of λ p6 H6 h6 s6 e6=>New.of λ p7 H7 h7 s7 e7=>?_) λ y=>?_
  ·refine fin H7 (s3.trans (s4.trans (s5.trans (s6.trans s7)))) (.ref p7) (.mk .number (.int ((r:Int)/4%1000)) []) [.tuple [.str "push",.int ((r:Int)/4%1000)]] ⟨p7,_,p6,_,rfl,e7,.tup (SqT.of ((s5.trans (s6.trans s7)) _ _ e4)) (.cons (.str _) (.cons (.int _) .nil)),(s3.trans (s4.trans s5)).free h6,s7 _ _ e6,.cons (.tup (SqT.of ((s6.trans s7) _ _ e5)) (.cons (.str _) (.cons (.int _) .nil))) .nil⟩ rfl rfl (Z1w (A:=[]) qP) ⟨λ t0 hb=>⟨"number",_,.mk .nil (.num qR) (qb0 _),qP,.inl y.symm⟩,.mk rfl λ t ht=>by cases ht⟩
  have u0:k≠"truth"->uz5 {nx:=λ x Z=>Q V.non Z,rt:=Q} [some (V.ref e),some (V.str k),some (V.int r),some (V.ref l1),sl,o,h] H3:=by
   intro y2;have kh:k∈P50.H3:=(show ∀k∈K5,k≠("number":M2)->k≠("truth":M2)->k∈P50.H3 by decide+kernel) k k5 y y2;have R0:1<=rk k:=(show ∀k∈P50.H3,1<=rk k by decide+kernel) k kh;have:=d0.2.1;obtain⟨L',rfl⟩:∃L',L=L'+1:=⟨L-1,qR⟩;walk_at "n z5";rw[hN L' rfl];refine⟨e,ba,B',S,own,n,M,m,z,r,bs,k,0,rfl,c.same s3,qR,⟨hM,qR⟩,kh,d0,λ v t u m' Z sx c' pr gt dp sz sr=>q v t u m' Z (λ b o y R=>sx _ _ y (s3 _ _ R)) c' (pr.up (e:=e) (λ b o _ R=>s3 _ _ R) (s3 _ _ q0)) gt dp (sr qR)⟩
  walk_at "n z4";refine ite2 (λ y=>New.of λ p4 H4 h4 s4 e4=>New.of λ p5 H5 h5 s5 e5=>New.of λ p6 H6 h6 s6 e6=>New.of λ p7 H7 h7 s7 e7=>?_) λ y2=>u0 y2;refine fin H7 (s3.trans (s4.trans (s5.trans (s6.trans s7)))) (.ref p7) (.mk .truth (.bl (decide ((r:Int)/4%2=1))) []) [.tuple [.str "push",.bool (decide ((r:Int)/4%2=1))]] ⟨p7,_,p6,_,rfl,e7,.tup (SqT.of ((s5.trans (s6.trans s7)) _ _ e4)) (.cons (.str _) (.cons (.bl _) .nil)),(s3.trans (s4.trans s5)).free h6,s7 _ _ e6,.cons (.tup (SqT.of ((s6.trans s7) _ _ e5)) (.cons (.str _) (.cons (.bl _) .nil))) .nil⟩ rfl rfl (Z1w (A:=[]) qP) ⟨λ t0 hb=>⟨"truth",_,.mk .nil .tru (qb0 _),qP,.inl y.symm⟩,.mk rfl λ t ht=>by cases ht⟩
 have v0:∀H3 vs,Same H H3->H3 l1=some (.lst vs)->(∀v∈vs,LfO K S own bs m k H1 H3 v)->∀sl o h,uz2 {nx:=λ x Z=>Q V.non Z,rt:=Q} [some (V.ref e),some (V.str k),some (V.int r),some (V.ref l1),sl,o,h] H3:=by
  intro H3 vs s3 el a0 sl o h;walk_at "n z2";refine New.of λ p4 H4 h4 s4 e4=>⟨_,SqL.of (s4 _ _ el),SqL.of e4,ite2 (λ ne=>ite2 (λ _=>?_) λ _=>i0 H4 (s3.trans s4) sl o h) λ _=>i0 H4 (s3.trans s4) sl o h⟩;have l0:0<vs.length:=by
   cases vs with
   |nil=>cases ne
   |cons=>exact Nat.succ_pos _
  obtain⟨j,v,hv,av⟩:=J6a l0 ((r:Int)/4);obtain⟨t,j',t1,t2,t3,t4⟩:=a0 v (qb4 hv);exact⟨vs,.inl (SqL.of (s4 _ _ el)),qR,_,SqL.of (s4 _ _ el),v,av,fin H4 (s3.trans s4) v t _ ((t1.same s4).up (e:=e) (λ b o _ R=>s1 _ _ R) g0) t2 t3 (Z1w (A:=[]) qP) t4⟩
 have j0:=s1 _ _ e0;refine⟨_,h0 s0.ba,_,rfl,⟨_,SqL.of j0⟩,Z6V b0 (LFI K S own bs m k H H1 l1 λ os=>some (V.ref e)::some (V.str k)::some (V.int r)::some (V.ref l1)::os) ⟨[],none,none,none,s1,e1,(λ v h=>by cases h),(λ b o _ h=>h),qb0 _,rfl⟩ (λ i σ Z _ h=>?_) (λ i y tt σ Z hy w0 h=>?_) (λ σ Z h=>?_)⟩
 ·obtain⟨_,_,_,_,sK,_⟩:=h;exact SqL.of (sK _ _ e0)
 ·obtain⟨vs,sl,o,h,sK,el,a0,sP,lv,rfl⟩:=h;have cK:=c.same sK;obtain⟨b,p,w1,w2,rfl,hp,hz,rfl,rfl⟩:=Z5J Y hy;have st:=Z0r w0 (.tup [.int (i:Int),.ref b]);have et:upd Z tt (.tup [.int (i:Int),.ref b]) tt=some (.tup [.int (i:Int),.ref b]):=Z0d;walk_at "r";generalize upd Z tt (.tup [.int (i:Int),.ref b])=H4 at*;have S4:=sK.trans st;obtain⟨M0,N0,x0,k0⟩:=(c.same S4).at;refine⟨_,SqT.of et,rfl,⟨_,_,rfl,⟨_,_,rfl,rfl,b,rfl,_,SqT.same hz S4,_,ix0,_,k0 x0.ba,_,rfl,ba,rfl,b0,SqL.of (S4 _ _ e0),New.of λ p5 H5 h5 s5 e5=>?_⟩⟩⟩;rw[show((i:Int)+1)=((i+1:Nat):Int)by lia,Z4l]at e5;have S5:=S4.trans s5;have B5:=Y.same S5;refine⟨⟨_,SqL.of e5⟩,λ D hD=>Z4x (ys:=b0.drop (i+1)) none [] (λ j v _=>∃q,((ebd own bs).drop (i+1))[j]?=some q/\v=.str q.1) (λ _ _ _ _ h _=>h) rfl hD (by rw[sizeLine_eq,qf8,Y.length,qa1];have:=(ebd_len (own:=own) (bs:=bs)).2;lia) (λ H3 s=>SqL.of (s _ _ e5)) (λ j y' m0 H6 K' s6 k'=>?_) (λ S0 H6 s6 hv y0 hR=>?_)⟩
  ·rw[qk1]at m0;obtain⟨b',p',T0,U0,rfl,z0,A0,rfl,rfl⟩:=Z5J Y m0;walk_at "r";exact⟨_,SqT.same A0 (S5.trans s6),_,ix0,k' _ _ (Same.refl _) ⟨p',by rw[qk1];exact z0,rfl⟩⟩
  have U:=st.trans (s5.trans s6);have SH:=sK.trans U;have el6:=U _ _ el;have B0:i<31:=by
   have:=(qa6.mp hy).1;rw[Y.length,qa1]at this;have:=(ebd_len (own:=own) (bs:=bs)).2;lia
  have D0:(b0.drop (i+1)).length=((ebd own bs).drop (i+1)).length:=by rw[qf8,qf8,Y.length,qa1]
  rw[Z1D (g:=λ t:M2×M2=>V.str t.1) (y0.trans D0) hR,show((ebd own bs).drop (i+1)).map (λ t:M2×M2=>V.str t.1)=(((ebd own bs).drop (i+1)).map Prod.fst).map V.str by rw[qc7];rfl]at hv;have n0:∀a∈K5,∀b∈K5,SeqAt.shaped (Z1k (a,b))=true:=λ a ha b hb=>by
   have:=(show ∀a∈K5,PyData.canLay0 (.str a)=true by decide+kernel);show((PyData.canLay0 (.str a)&&(PyData.canLay0 (.str b)&&true))&&_)=true;rw[this a ha,this b hb];rfl
  have G0:p.2∈K5:=by
   have hm:=qb4 hp;unfold ebd at hm;rcases qa7.mp hm with w|w
   ·cases own with
    |none=>cases w
    |some h=>rw[qa5.mp w];exact h3k h (c.ow h rfl)
   ·exact(c.bk p w).2
  have o0:∀G,Same H6 G->LFI K S own bs m k H H1 l1 (λ os=>some (V.ref e)::some (V.str k)::some (V.int r)::some (V.ref l1)::os) (i+1) [some (V.ref e),some (V.str k),some (V.int r),some (V.ref l1),some (V.int i),some (V.ref b),some (V.bl (decide (p.1∈((ebd own bs).drop (i+1)).map Prod.fst)))] G:=λ G sg=>⟨vs,_,_,_,SH.trans sg,sg _ _ el6,λ v hv=>by
   obtain⟨t',j',z1,z2,z3,z4⟩:=a0 v hv;exact⟨t',j',(z1.same U).same sg,z2,z3,z4⟩,λ b o y R=>sg _ _ (U _ _ (sP _ _ y R)),Nat.le_succ_of_le lv,rfl⟩
  have X:∀G3,Same H6 G3->∀tq t,RT K G3 (.ref tq) t.dat->t.size=1->t.depth=1->GT S own bs m k t [r1 "load" i] m->New G3 (HO.tup [V.str (Str.ofString "load"),V.int (i:Int)]) λ I0 H2=>New H2 (HO.lst [V.ref I0]) λ J0 H2=>New H2 (HO.tup [.ref tq,V.ref J0]) λ p0 H2=>∃f0,H2 l1=some (HO.lst f0)/\f0.length<16777216/\LFI K S own bs m k H H1 l1 (λ os=>some (V.ref e)::some (V.str k)::some (V.int r)::some (V.ref l1)::os) (i+1) [some (V.ref e),some (V.str k),some (V.int r),some (V.ref l1),some (V.int i),some (V.ref b),some (V.bl (decide (p.1∈((ebd own bs).drop (i+1)).map Prod.fst)))] (upd H2 l1 (HO.lst (f0++[V.ref p0]))):=by
   intro G3 U3 tq t rt sz dp gt;refine New.of λ q4 G4 g4 t4 f4=>New.of λ q5 G5 g5 t5 f5=>New.of λ q6 G6 g6 t6 f6=>?_;have U6:=U3.trans (t4.trans (t5.trans t6));have el7:=U6 _ _ el6;refine⟨vs,el7,ltS (qa9 lv (qf3 B0)),vs++[.ref q6],_,_,_,?_,Z0d,λ v hv=>?_,λ b o y R=>?_,by rw[qa2];exact qg1 lv,rfl⟩
   ·intro b o R;rw[Z0k (λ y=>by rw[y,h1]at R;cases R)];exact U6 _ _ (SH _ _ R)
   ·rcases qa7.mp hv with y|y
    ·obtain⟨t',j',z1,z2,z3,z4⟩:=a0 v y;exact⟨t',j',((z1.same U).same U6).updL e1 el7,z2,z3,z4⟩
    ·rw[qa5.mp y];have fr:H1 q5=none:=by
      cases y:H1 q5 with
      |none=>rfl
      |some o=>
       have y1:q5≠l1:=nq ((U3.trans t4) _ _ el6) g5;rw[(U.trans (U3.trans t4)) _ _ (sP _ _ y1 y)]at g5;cases g5
     exact⟨t,i,PrO.updL ⟨q6,_,q5,_,rfl,f6,rt.same (t4.trans (t5.trans t6)),fr,t6 _ _ f5,.cons (.tup (SqT.of ((t5.trans t6) _ _ f4)) (.cons (.str _) (.cons (.int _) .nil))) .nil⟩ e1 el7,sz,dp,gt⟩
   ·rw[Z0k y];exact U6 _ _ (U _ _ (sP _ _ y R))
  refine⟨D,rfl,_,.inl (SqL.of hv),rfl,Z1Q _,?_⟩;rw[Z3J];refine ite2 (λ y=>?_) λ y=>?_
  ·have nh:p.1∉((ebd own bs).drop (i+1)).map Prod.fst:=of_decide_eq_false y;refine⟨b,rfl,_,SqT.same hz SH,_,ix1,rfl,ite2 (λ y2=>?_) λ y2=>?_⟩
   ·have O:Sub p.2 k:=.inl (V.str.inj y2);have I:=Same.refl H6;refine⟨.inl ⟨rfl,_,SqL.of (I _ _ el6)⟩,b,rfl,_,SqT.same hz (SH.trans I),_,ix0,New.of λ q1 G1 g1 t1 f1=>New.of λ q2 G2 g2 t2 f2=>New.of λ q3 G3 g3 t3 f3=>⟨b,rfl,_,SqT.same hz (SH.trans (I.trans (t1.trans (t2.trans t3)))),_,ix0,rfl,.inr ?_⟩⟩;have U3:=I.trans (t1.trans (t2.trans t3));by_cases ne:p.1=""
    ·rw[if_pos (by rw[ne])];have:=X G3 U3 q2 (.mk .self .non []) (.tup (SqT.of (t3 _ _ f2)) (.cons (.str _) .nil)) rfl rfl (J1b hp (λ q hq=>(c.bk q hq).1) ne O k5);exact⟨_,SqL.of f3,_,rfl,this⟩
    ·rw[if_neg (λ y=>ne (V.str.inj y))];have:=X G3 U3 q1 (.mk .name (.str p.1) []) (.tup (SqT.of ((t2.trans t3) _ _ f1)) (.cons (.str _) (.cons (.str _) .nil))) rfl rfl (J2t hp nh ne O k5);exact⟨_,SqL.of f3,_,rfl,this⟩
   ·refine⟨b,rfl,_,SqT.same hz SH,_,ix1,New.of λ q7 G7 g7 t7 f7=>New.of λ q8 G8 g8 t8 f8=>⟨Z1k (p.2,k),.tup (SqT.of (t8 _ _ f7)) (.cons (.str _) (.cons (.str _) .nil)),Z1k ("bb","aa"),.tup (SqT.of f8) (.cons (.str _) (.cons (.str _) .nil)),n0 _ G0 _ k5,n0 _ qP _ qP,ite2 (λ y3=>?_) λ _=>o0 G8 (t7.trans t8)⟩⟩;rw[Z6z]at y3;have y3:=of_decide_eq_true y3;have O:Sub p.2 k:=.inr ⟨congrArg Prod.fst y3,congrArg Prod.snd y3⟩;have I:=t7.trans t8;refine⟨.inl ⟨rfl,_,SqL.of (I _ _ el6)⟩,b,rfl,_,SqT.same hz (SH.trans I),_,ix0,New.of λ q1 G1 g1 t1 f1=>New.of λ q2 G2 g2 t2 f2=>New.of λ q3 G3 g3 t3 f3=>⟨b,rfl,_,SqT.same hz (SH.trans (I.trans (t1.trans (t2.trans t3)))),_,ix0,rfl,.inr ?_⟩⟩;have U3:=I.trans (t1.trans (t2.trans t3));by_cases ne:p.1=""
    ·rw[if_pos (by rw[ne])];have:=X G3 U3 q2 (.mk .self .non []) (.tup (SqT.of (t3 _ _ f2)) (.cons (.str _) .nil)) rfl rfl (J1b hp (λ q hq=>(c.bk q hq).1) ne O k5);exact⟨_,SqL.of f3,_,rfl,this⟩
    ·rw[if_neg (λ y=>ne (V.str.inj y))];have:=X G3 U3 q1 (.mk .name (.str p.1) []) (.tup (SqT.of ((t2.trans t3) _ _ f1)) (.cons (.str _) (.cons (.str _) .nil))) rfl rfl (J2t hp nh ne O k5);exact⟨_,SqL.of f3,_,rfl,this⟩
  ·exact o0 H6 (Same.refl _)
 ·obtain⟨vs,sl,o,h,sK,el,a0,sP,lv,rfl⟩:=h;exact v0 Z vs sK el a0 sl o h
def spF:Sp:=λ _ _ _ _=>False
theorem J6g(T:nofun)(a:Has P w K mg base 2 "_law_draw" ["_law_env_here"] (Z8s K)):∀L,Has P w K mg base (6*L+10) "_law_grown" ["_law_env_here","_law_kind","_law_depth"] (Z2M K L):=by
 intro L;induction L with
 |zero=>
  have i:Has P w K mg base 4 "_law_grown" ["_law_env_here","_law_kind","_law_depth"] spF:=Has.of T.O0J O0a (λ _ _ _ _ _ _ us hl=>el3 us hl λ _ _ _=>rfl) (λ vs H Q E h=>h.elim) (λ f cdv A outer s H vs Q E hr h=>h.elim);have j:Has P w K mg base 6 "_law_let" ["_law_env_here","_law_kind","_law_cell","_law_depth"] spF:=Has.of T.O0V O0h (λ _ _ _ _ _ _ us hl=>el4 us hl λ _ _ _ _=>rfl) (λ vs H Q E h=>h.elim) (λ f cdv A outer s H vs Q E hr h=>h.elim);have m:Has P w K mg base 6 "_law_called" ["_law_env_here","_law_kind","_law_cell","_law_depth"] spF:=Has.of T.O0G O0c (λ _ _ _ _ _ _ us hl=>el4 us hl λ _ _ _ _=>rfl) (λ vs H Q E h=>h.elim) (λ f cdv A outer s H vs Q E hr h=>h.elim);have n:Has P w K mg base 6 "_law_touched" ["_law_env_here","_law_kind","_law_cell","_law_depth"] spF:=Has.of T.O0C O0b (λ _ _ _ _ _ _ us hl=>el4 us hl λ _ _ _ _=>rfl) (λ vs H Q E h=>h.elim) (λ f cdv A outer s H vs Q E hr h=>h.elim);have e:Has P w K mg base 6 "_law_new" ["_law_env_here","_law_kind","_law_cell","_law_depth"] spF:=Has.of T.O0U O0n (λ _ _ _ _ _ _ us hl=>el4 us hl λ _ _ _ _=>rfl) (λ vs H Q E h=>h.elim) (λ f cdv A outer s H vs Q E hr h=>h.elim);have o:Has P w K mg base 6 "_law_two" ["_law_env_here","_law_kind","_law_cell","_law_depth"] spF:=Has.of T.O0W O0d (λ _ _ _ _ _ _ us hl=>el4 us hl λ _ _ _ _=>rfl) (λ vs H Q E h=>h.elim) (λ f cdv A outer s H vs Q E hr h=>h.elim);exact J0b T (L:=0) (λ c h=>absurd h (Nat.succ_ne_zero _).symm) a (J1u T (L:=0) (spM:=spF) (λ c h=>absurd h (Nat.succ_ne_zero _).symm) e) i j m n e o
 |succ L b=>
  have hs:=J5U T b;have g:Has P w K mg base (6*(L+1)+6) "_law_new" ["_law_env_here","_law_kind","_law_cell","_law_depth"] (Z9y K L):=J6X T hs;exact J0b T (L:=L+1) (λ c h=>by cases h;exact⟨rfl,rfl,rfl,rfl,rfl,rfl⟩) a (J1u T (L:=L+1) (λ c h=>by cases h;rfl) g) b (J7K T b) (J2r T hs) (J0o T hs) g (J6K T b hs)
structure Ev0(kvs:List (Key×V))(S:ES)(n m:Nat):Prop where
 le:kvs.length<=17\/(kvs.length<=20/\∃a b c,valV kvs (.inr "own")=some a/\valV kvs (.inr "bound")=some b/\valV kvs (.inr "size")=some c)
 sc:valV kvs (.inr "script")=some (.ref S.sc)
 n:valV kvs (.inr "spot")=some (.int n)
 M:∃M,valV kvs (.inr "most")=some (.int M)
 ho:valV kvs (.inr "houses")=some (.ref S.ho)
 hd:valV kvs (.inr "heads")=some (.ref S.hd)
 m:valV kvs (.inr "sites")=some (.int m)
 wo:valV kvs (.inr "words")=some (.ref S.wo)
 bl:valV kvs (.inr "blocks")=some (.ref S.bl)
 fi:valV kvs (.inr "fields")=some (.ref S.fi)
 of:valV kvs (.inr "own_fields")=some (.ref S.of)
theorem EvK.ev0{n m z:Nat}{own:Option M2}{a:V0}(v:EvK kvs S n M m own a z):Ev0 kvs S n m:=⟨.inr ⟨v.le,_,_,_,v.ow,v.ba,v.z⟩,v.sc,v.n,⟨_,v.M⟩,v.ho,v.hd,v.m,v.wo,v.bl,v.fi,v.of⟩
theorem Ev0.spot{n m:Nat}(v:Ev0 kvs S n m):Ev0 (putK kvs (.inr "spot") (.int ((n:Int)+1))) S (n+1) m:=
 ⟨by rw[Z2D v.n];exact v.le.imp_right λ⟨h,a,b,c,e,g,i⟩=>⟨h,a,b,c,Z0l qS e,Z0l qS g,Z0l qS i⟩,Z0l qS v.sc,val_eq,(let⟨M,h⟩:=v.M;⟨M,Z0l qS h⟩),Z0l qS v.ho,Z0l qS v.hd,Z0l qS v.m,Z0l qS v.wo,Z0l qS v.bl,Z0l qS v.fi,Z0l qS v.of⟩
theorem Ev0.lt{kvs:List (Key×V)}{S:ES}{n m:Nat}(v:Ev0 kvs S n m):kvs.length<=20:=by
 rcases v.le with h|h<;>lia
theorem Ev0.ready{n m:Nat}(v:Ev0 kvs S n m)(own:Option M2)(g:V0)(z M:Nat):EvK (putK (putK (putK (putK kvs (.inr "own") (oS own)) (.inr "bound") (.ref g)) (.inr "size") (.int z)) (.inr "most") (.int M)) S n M m own g z:=by
 have e:∀{x:M2}{u:V},x∉[("own":M2),"bound","size","most"]->valV kvs (.inr x)=some u->valV (putK (putK (putK (putK kvs (.inr "own") (oS own)) (.inr "bound") (.ref g)) (.inr "size") (.int z)) (.inr "most") (.int M)) (.inr x)=some u:=λ{x u} i q=>
  Z0l (λ y=>i (by simp[y])) (Z0l (λ y=>i (by simp[y])) (Z0l (λ y=>i (by simp[y])) (Z0l (λ y=>i (by simp[y])) q)))
 obtain⟨A,j⟩:=v.M;refine⟨?_,e qP v.sc,e qP v.n,val_eq,e qP v.ho,e qP v.hd,e qP v.m,e qP v.wo,e qP v.bl,e qP v.fi,Z0l qS (Z0l qS (Z0l qS val_eq)),Z0l qS (Z0l qS val_eq),Z0l qS val_eq,e qP v.of⟩;rw[Z2D (Z0l qS (Z0l qS (Z0l qS j)))];rcases v.le with h|⟨h,a,b,c,o,p,r⟩
 ·have C:=Z1h kvs (.inr "own") (oS own);have D:=Z1h (putK kvs (.inr "own") (oS own)) (.inr "bound") (.ref g);have E:=Z1h (putK (putK kvs (.inr "own") (oS own)) (.inr "bound") (.ref g)) (.inr "size") (.int z);lia
 ·rw[Z2D (Z0l qS (Z0l qS r)),Z2D (Z0l qS p),Z2D o];exact h
structure C0(K:X0)(H:Hp)(e:V0)(B:Hp)(S:ES)(n m:Nat):Prop where
 st:StA K B e S
 sm:Same B H
 ev:∃kvs,H e=some (.dK kvs)/\Ev0 kvs S n m
theorem CA.c0{K:X0}{B:Hp}{h:V0}{n m z:Nat}{own:Option M2}{bs:List (M2×M2)}(c:CA K H e B S n M m own h bs z):C0 K H e B S n m:=
 ⟨c.st,c.sm,let⟨g,a,b⟩:=c.ev;⟨g,a,b.ev0⟩⟩
theorem C0.same{K:X0}{B:Hp}{n m:Nat}(c:C0 K H e B S n m)(s:Same H H'):C0 K H' e B S n m:=
 ⟨c.st,c.sm.trans s,let⟨g,a,b⟩:=c.ev;⟨g,s _ _ a,b⟩⟩
theorem C0.get{K:X0}{B:Hp}{n m:Nat}(c:C0 K H e B S n m):∃kvs,H e=some (.dK kvs)/\Ev0 kvs S n m/\∀{x:M2}{u:V},valV kvs (.inr x)=some u->DGet H e (.str x) (some u):=by
 obtain⟨kvs,h,v⟩:=c.ev;exact⟨kvs,h,v,λ{x u} q=>.inl ⟨kvs,.inr x,.inl h,rfl,q.symm⟩⟩
inductive J0j(K:X0)(vs:List V)(H:Hp)(Q:VK):Prop
 |mk(e:V0)(B:Hp)(S:ES)(n m:Nat)(a1:vs=[.ref e])(a2:C0 K H e B S n m)(a3:n<=100000000)(a4:∀(r:Nat) H',SX e H H'->C0 K H' e B S (n+1) m->Q (.int r) H')
def J0d(K:X0):Sp:=λ vs H Q _=>J0j K vs H Q
inductive J1i(K:X0)(vs:List V)(H:Hp)(Q:VK):Prop
 |mk(e pa:V0)(B:Hp)(S:ES)(own:Option M2)(n m:Nat)(bs:List (M2×M2))(k:M2)(a1:vs=[.ref e,oS own,.ref pa,.str k])(a2:C0 K H e B S n m)(a3:RT K H (.ref pa) (Z2l bs))(a4:(∀x,own=some x->x∈H3))(a5:(∀p∈bs,p.1∈nms5/\p.2∈K5))(a6:bs.length<=4)(a7:k∈K5)(a8:n<=19000)(a9:∀a tv bv t rows m' H',SX e H H'->C0 K H' e B S (n+t.size) m'->H' a=some (.tup [tv,bv])->RT K H' tv t.dat->RT K H' bv (blkD own bs rows)->GT S own bs m k t rows m'->t.depth<=8->t.size<=1700->Q (.ref a) H')
def J1m(K:X0):Sp:=λ vs H Q _=>J1i K vs H Q
theorem J3F(T:nofun)(a:Has P w K mg base 1 "_law_cell_at" ["_law_script","_law_k"] (Z6S K)):Has P w K mg base 2 "_law_draw" ["_law_env_here"] (J0d K):=by
 walk_at "h O0N O0l 1"
 obtain⟨e,u,S,n,m,rfl,c,M,q⟩:=h;refine⟨_,(Z0a (Z8W (Z2F hr) (pvF 0) Z0b Z0f Z8P (λ _ _ _=>rfl)) (Z0a (qG 1 O0l.nd (qB hr 0)) (Z0a (qG 2 O0l.nd (qF a hr (qJ (qB hr 0) (Z0j Z1q Z0f (Z0j Z0C (pvF 1) Z0f))))) (Z0c (Z0h (Z0j Z0C (Z0j Z1q (Z0j Z1q (Z0j Z1q (Z0j Z3U (pvF 2) Z0f) (Z0j Z3U (Z0j Z3U Z0f (pvF 1)) (pvF 1))) (Z0j Z3U Z0f (pvF 1))) Z0f) Z0f)))))),?_⟩;walk_at "s 4 z";obtain⟨C,D,r,get⟩:=c.get;refine⟨_,get r.n,_,rfl,DP D r.lt λ v y G=>?_⟩;have p:C0 K v e u S (n+1) m:=⟨c.st,λ b o h=>y _ _ (nq (c.st.e0) h) (c.sm _ _ h),_,G,r.spot⟩;obtain⟨z,I,j,g⟩:=p.get;walk_at "n z1";refine⟨_,g j.n,?_⟩;walk_at "n z2";refine⟨_,g j.sc,S.sc,S.is,3+(n+1)%57,by rw[show((3+(n+1)%57:Nat):Int)=3+((n+1:Nat):Int)%57 by lia],p.st.sc.same p.sm,λ J=>?_⟩;walk_at "n z3";have L:∀x:Int,0<=x%2147483647:=λ x=>qk2 _ qS;have:=q ((J*48271+104729*((n+1:Nat):Int)*((n+1:Nat):Int)+7919*((n+1:Nat):Int)+12345)%2147483647).toNat v y p;rw[Int.toNat_of_nonneg (L _)]at this;exact⟨.inr ⟨qR,qR⟩,this⟩
theorem J5T(T:nofun)(g:Has P w K mg base 52 "_law_grown" ["_law_env_here","_law_kind","_law_depth"] (Z2M K 7)):Has P w K mg base 53 "_law_body" ["_law_env_here","_law_own","_law_params","_law_kind"] (J1m K):=by
 walk_at "h O1o O0u 4"
 obtain⟨e,pa,B',S,own,n,m,bs,k,rfl,c,hp,hw,b0,n0,k5,hn,q⟩:=h;refine⟨_,(Z0a (Z1K (Z2F hr) (pvF 0) Z0b (pvF 1) rfl) (Z0a (Z1K (Z2F hr) (pvF 0) Z0b (Z0j Z0y (Z0j J7p (Z0o (qI (Z0i (qJ Z0b (pvF 1))))) (Z0w Z4f rfl T.z_int Z9V (qI (Z0W Z4r (pvF 1) Z0T (Z1R _))))) (Z0w Z3f rfl T.O1b Z6I (qI (pvF 2)))) rfl) (Z0a (qG 4 O0u.nd (qL T.z_len (qI (qB hr 0)))) (Z0a (Z1K (Z2F hr) (pvF 0) Z0b (pvF 4) rfl) (Z0a (Z1K (Z2F hr) (pvF 0) Z0b (Z0j Z1q (qB hr 0) Z0f) rfl) (Z0a (Z0Q (qF g hr (qK (pvF 0) (pvF 3) Z0f)) (Z0v (n:=2) rfl (Z0e (qH 5 O0u.nd) (Z0e (qH 6 O0u.nd) Z0s)))) (Z0c (Z0h (Z0i (qJ (pvF 5) (Z0i (qK (pvF 4) (qB hr 0) (Z0w Z0u rfl T.O0k Z0X (qI (Z0j Z0y (pvF 6) (Z0o (qI (Z0i (qI Z0b))))))))))))))))))),?_⟩;obtain⟨o0,hk,G,get⟩:=c.get;walk_at "s 7 z";refine DP hk G.lt λ H1 s1 e1=>?_;walk_at "n z1";obtain⟨j,hj,ej⟩:∃j:Nat,(if ¬oS own=V.non then(1:Int)else 0)=(j:Int)/\((own=none/\j=0)\/(∃h,own=some h/\j=1)):=by
  cases own with
  |none=>exact⟨0,rfl,.inl ⟨rfl,rfl⟩⟩
  |some h=>exact⟨1,rfl,.inr ⟨h,rfl,rfl⟩⟩
 have d0:=hp.kt (show Kt H H1 from SX.ktd s1 hk);obtain⟨_,us,ee,u1,u2⟩:=RT.tup_inv d0;cases ee;have lu:us.length=bs.length:=by rw[u2.length,qa1]
 refine New.of λ u H2 h2 s2 e2=>New.of λ p3 I h3 s3 e3=>.inr ⟨_,e3,?_⟩;simp only[hj,qk5];have j1:j<=1:=by lia
 refine⟨qR,qR,by show 1*j<=_;lia,λ p4 h4=>?_⟩;have s4:=Z0r h4 (.lst (qb8 j [V.ref u]).flatten);have e4:upd I p4 (.lst (qb8 j [V.ref u]).flatten) p4=some (.lst (qb8 j [V.ref u]).flatten):=Z0d;generalize upd I p4 (.lst (qb8 j [V.ref u]).flatten)=H4 at*;have S4:=s2.trans (s3.trans s4);refine⟨us,.inr (SqT.same u1 S4),λ p5 h5=>?_⟩;have s5:=Z0r h5 (.lst us);have e5:upd H4 p5 (.lst us) p5=some (.lst us):=Z0d;generalize upd H4 p5 (.lst us)=H5 at*;have m0:(qb8 j [V.ref u]).flatten.length<=1:=by
  rcases ej with⟨_,rfl⟩|⟨_,_,rfl⟩<;>simp
 refine⟨_,s5 _ _ e4,_,e5,qR,New.of λ J H6 h6 s6 e6=>?_⟩;have S6:=S4.trans (s5.trans s6);have L:RTs K H6 ((qb8 j [V.ref u]).flatten++us) ((ebd own bs).map Z1k):=by
  unfold ebd;rw[qb6];refine RTs.app ?_ (u2.same S6);rcases ej with⟨rfl,rfl⟩|⟨h,rfl,rfl⟩
  ·exact .nil
  ·exact .cons (.tup (SqT.of ((s3.trans (s4.trans (s5.trans s6))) _ _ e2)) (.cons (.str _) (.cons (.str _) .nil))) .nil
 generalize(qb8 j [V.ref u]).flatten++us=N at*;have lb:N.length=(bnd own bs).length:=by rw[L.length,qa1];exact ebd_len.1
 have x:=S6 _ _ e1;have n6:J≠e:=nq x e6;refine DP x (pl G.lt) λ H7 C e7=>?_;have e0:SX e H H7:=λ b o y q=>C _ _ y (S6 _ _ (s1 _ _ y q));have O:=C _ _ n6 e6;have f0:=L.kt (show Kt H6 H7 from SX.ktd C x);walk_at "n z2";refine⟨_,.inl ⟨_,.inr "bound",.inl e7,rfl,val_eq.symm⟩,J,rfl,_,.inl (SqL.of O),?_⟩;rw[lb];walk_at "n z3";generalize hz:(bnd own bs).length=z at*;refine DP e7 (pl (pl G.lt)) λ H8 g0 e8=>?_;walk_at "n z4";refine⟨_,.inl ⟨_,.inr "spot",.inl e8,rfl,(Z0l qS (Z0l qS (Z0l qS G.n))).symm⟩,_,rfl,?_⟩;rw[show(n:Int)+14=((n+14:Nat):Int)by lia];refine DP e8 (pl (pl (pl G.lt))) λ H9 h0 e9=>?_;have p:SX e H7 H9:=λ b o y q=>h0 _ _ y (g0 _ _ y q);have R:SX e H H9:=λ b o y q=>p _ _ y (e0 _ _ y q);have c9:CA K H9 e B' S n (n+14) m own J bs z:=⟨c.st,λ b o h=>R _ _ (nq (c.st.e0) h) (c.sm _ _ h),⟨_,e9,G.ready own J z (n+14)⟩,⟨N,p _ _ n6 O,f0.kt (SX.ktd p e7)⟩,hw,b0,qR⟩;walk_at "n z5";refine⟨e,J,B',S,own,n,n+14,m,z,bs,k,4,rfl,c9,qR,⟨qR,qR⟩,⟨k5,(show ∀k∈K5,rk k<=7 by decide+kernel) k k5,λ _=>by lia⟩,λ v t rows m' p0 U X pr gt dp sz sr=>?_⟩;obtain⟨a,tv,rl,Y,rfl,i0,pt,pn,j0,Z⟩:=pr;obtain⟨k0,l0,a0,D⟩:=X.at;obtain⟨_,_,gr,_⟩:=gt.g bs (BsR.refl bs);have q0:=gr.rlen;have rx:=Z.length;have ml:=Z3e (M:=n+14) (n:=n+t.size);rw[J5P (show n<=n+14 by lia)]at sz;refine⟨a,rfl,_,SqT.of i0,rfl,⟨_,_,rfl,⟨_,_,rfl,rfl,?_⟩⟩⟩;walk_at "n z6";refine⟨_,D a0.z,New.of λ q1 G1 g1 t1 f1=>New.of λ q2 G2 g2 t2 f2=>⟨Y,(t1.trans t2) _ _ j0,_,f2,by show _+1<=_;lia,New.of λ q3 G3 g3 t3 f3=>⟨_,.inl ⟨SqL.of f3,λ q4 g4=>?_⟩⟩⟩⟩;have t4:=Z0r g4 (.tup (Y++[V.ref q1]));have f4:upd G3 q4 (.tup (Y++[V.ref q1])) q4=some (.tup (Y++[V.ref q1])):=Z0d;generalize upd G3 q4 (.tup (Y++[V.ref q1]))=G4 at*;refine New.of λ q5 G5 g5 t5 f5=>New.of λ q6 G6 g6 t6 f6=>?_;have T6:=t1.trans (t2.trans (t3.trans (t4.trans (t5.trans t6))));have km:kMax (rows++[r0 "back"])=kMax rows:=Z1w (s:="back") (r:=[]) qP;refine q q6 tv (.ref q5) t rows m' G6 (λ b o y e'=>T6 _ _ (U _ _ y (R _ _ y e'))) (X.same T6).c0 f6 (pt.same T6) ?_ gt dp qR;unfold blkD;rw[km,hz];refine .tup (SqT.of (t6 _ _ f5)) (.cons (.int _) (.cons (.int _) (.cons (.tup (SqT.of ((t5.trans t6) _ _ f4)) (RTs.app (Z.same T6) (.cons (.tup (SqT.of ((t2.trans (t3.trans (t4.trans (t5.trans t6)))) _ _ f1)) (.cons (.str _) .nil)) .nil))) .nil)))
theorem RTs.take{K:X0}:∀{vs:List V}{c:List PyData}(i:Nat),RTs K H vs c->RTs K H (vs.take i) (c.take i)
 |[],[],i,.nil=>by rw[qj9,qj9];exact .nil
 |v::vs,d::c,0,h=>.nil
 |v::vs,d::c,i+1,.cons a b=>.cons a (RTs.take i b)
theorem RTs.drop{K:X0}:∀{vs:List V}{c:List PyData}(i:Nat),RTs K H vs c->RTs K H (vs.drop i) (c.drop i)
 |[],[],i,.nil=>by rw[List.drop_nil,List.drop_nil];exact .nil
 |v::vs,d::c,0,h=>h
 |v::vs,d::c,i+1,.cons a b=>RTs.drop i b
theorem Z8I(xs:List V)(k:Nat):cutV xs none (some (k:Int))=xs.take k:=by
 unfold cutV;rw[HT.sIx_none,HT.sIx_nat,ql0,qj3];by_cases h:k<=xs.length
 ·rw[qf2 h]
 ·rw[qk0 qR,qe1 (qa0 _),qe1 qR]
def LsP(K:X0)(H:Hp)(l:V0)(ps:List (M2×M2)):Prop:=∃us,H l=some (.lst us)/\RTs K H us (ps.map Z1k)
theorem LsP.same{K:X0}{l:V0}{ps:List (M2×M2)}(h:LsP K H l ps)(s:Same H H'):LsP K H' l ps:=let⟨us,a,b⟩:=h;⟨us,s _ _ a,b.same s⟩
def HdL(H:Hp)(l:V0)(hs:List P50.Hd):Prop:=∃us,H l=some (.lst us)/\A2 (HdO H) us hs
theorem HdL.same{l:V0}{hs:List P50.Hd}(h:HdL H l hs)(s:Same H H'):HdL H' l hs:=let⟨us,a,b⟩:=h;⟨us,s _ _ a,b.mono λ _ _ q=>q.same s⟩
theorem m4(z:Int):z%4=0\/z%4=1\/z%4=2\/z%4=3:=by lia
theorem m3(z:Int):z%3=0\/z%3=1\/z%3=2:=by lia
theorem m2(z:Int):z%2=0\/z%2=1:=by lia
theorem cutH(z:Int)(h:z=0\/z=1):∃b:Bool,∀(G:Hp)(v:V)(x:P50.Hd),HdO G v x->A2 (HdO G) (cutV [v] (some z) none) (if b=true then[x]else[]):=by
 rcases h with rfl|rfl
 ·exact⟨true,λ G v x h=>by rw[show(0:Int)=((0:Nat):Int)from rfl,Z4l,if_pos rfl];exact .cons h .nil⟩
 ·exact⟨false,λ G v x h=>by rw[show(1:Int)=((1:Nat):Int)from rfl,Z4l,if_neg qS];exact .nil⟩
theorem A2.take{a b:Type}{R:a->b->Prop}:∀{c:List a}{bs:List b}(i:Nat),A2 R c bs->A2 R (c.take i) (bs.take i)
 |_,_,0,_=>.nil
 |_,_,i+1,.nil=>.nil
 |_,_,i+1,.cons r t=>.cons r (A2.take i t)
theorem d3(x y z:V):valV (Z2W [] [(.inr "aa",x),(.inr "bb",y),(.inr "cc",z)]) (.inr "aa":Key)=some x/\valV (Z2W [] [(.inr "aa",x),(.inr "bb",y),(.inr "cc",z)]) (.inr "bb":Key)=some y/\valV (Z2W [] [(.inr "aa",x),(.inr "bb",y),(.inr "cc",z)]) (.inr "cc":Key)=some z:=by
 show valV (putK (putK (putK [] (.inr "aa") x) (.inr "bb") y) (.inr "cc") z) (.inr "aa":Key)=some x/\valV (putK (putK (putK [] (.inr "aa") x) (.inr "bb") y) (.inr "cc") z) (.inr "bb":Key)=some y/\valV (putK (putK (putK [] (.inr "aa") x) (.inr "bb") y) (.inr "cc") z) (.inr "cc":Key)=some z;exact⟨Z0l qS (Z0l qS val_eq),Z0l qS val_eq,val_eq⟩
def DfO(K:X0)(H:Hp)(d W:V0)(f:M2->List (M2×M2)):Prop:=∃a,H d=some (.dK a)/\∀h∈H3,∃l,valV a (.inr h)=some (.ref l)/\l≠W/\LsP K H l (f h)
theorem DfO.of{K:X0}{d W x y z:V0}{f:M2->List (M2×M2)}(b:x≠W)(c:y≠W)(g:z≠W)(e:H d=some (.dK (Z2W [] [(.inr "aa",.ref x),(.inr "bb",.ref y),(.inr "cc",.ref z)])))(i:LsP K H x (f "aa"))(h2:LsP K H y (f "bb"))(j:LsP K H z (f "cc")):DfO K H d W f:=by
 obtain⟨m,n,o⟩:=d3 (.ref x) (.ref y) (.ref z);refine⟨_,e,λ h a=>?_⟩;rcases qa4.mp a with rfl|a
 ·exact⟨x,m,b,i⟩
 rcases qa4.mp a with rfl|a
 ·exact⟨y,n,c,h2⟩
 rw[qa5.mp a];exact⟨z,o,g,j⟩
theorem DfO.sx{K:X0}{d W:V0}{f:M2->List (M2×M2)}{m:List V}(h:DfO K H d W f)(s:∀b o,b≠e->b≠W->H b=some o->H' b=some o)(c:H e=some (.dK kvs))(g:H W=some (.lst m))(n:d≠e):DfO K H' d W f:=by
 obtain⟨p,a,b⟩:=h;refine⟨p,s _ _ n (nq g a) a,λ x r=>?_⟩;obtain⟨l,u,i,us,j,v⟩:=b x r;exact⟨l,u,i,us,s _ _ (nq c j) i j,v.kt ⟨λ b y q=>s _ _ (nq c q) (nq g q) q,λ b o y q=>s _ _ (nq c q) (nq g q) q⟩⟩
theorem DfO.same{K:X0}{d W:V0}{f:M2->List (M2×M2)}(h:DfO K H d W f)(s:Same H H'):DfO K H' d W f:=by
 obtain⟨c,a,b⟩:=h;exact⟨c,s _ _ a,λ x e=>let⟨l,g,i,j⟩:=b x e;⟨l,g,i,j.same s⟩⟩
theorem Z6K{b:Type}{R:V->b->Prop}{p:b->Bool}{hs:List b}{q:Nat->Bool}(g:∀i x,hs[i]?=some x->q i=p x):∀(n:Nat)(vs:List V),n<=hs.length->A2 (λ v i=>∃x,hs[i]?=some x/\R v x) vs (Z1z q n)->A2 R vs ((hs.take n).filter p)
 |0,vs,_,h=>by
  have h:A2 _ vs []:=h;cases h;exact .nil
 |n+1,vs,j,h=>by
  rw[Z3N]at h;obtain⟨m,o,rfl,u,a⟩:=A2.split h;have c:hs[n]?=some hs[n]:=qa3 j;rw[qd4,c,List.filter_append];refine(Z6K g n m qR u).app ?_;show A2 R o (List.filter p [hs[n]]);rw[g n _ c]at a;cases e:p hs[n]with
  |true=>
   rw[e,if_pos rfl]at a;obtain⟨y,rfl,x,ex,r⟩:=A2.one a;rw[c]at ex;cases ex;rw[List.filter_cons_of_pos e];exact .cons r .nil
  |false=>
   rw[e,if_neg qS]at a;rw[A2.nil_inv a,List.filter_cons_of_neg (by rw[e];decide)];exact .nil
theorem DD{a:Hp}{p:V0}{R:Hp->Prop}(h:H p=none)(s:Same H a)(q:∀H',Same H H'->SX p a H'->H' p=some (.dK (Z2W [] kvs))->R H'):R (upd a p (.dK (Z2W [] kvs))):=q _ (λ b o z=>by rw[Z0k (nq h z)];exact s _ _ z) (SX.put _) Z0d
def Z4J(c:Cho)(h:M2):List (M2×M2):=if h="aa" then P50.old c.od else if h="bb" then P50.yng c.yg else if h="cc" then P50.oth c.ot else[]
def OfA(K:X0)(B:Hp)(S:ES):Prop:=∃W,DfO K B S.of W (Z4J S.c)
inductive J4L(K:X0)(vs:List V)(H:Hp)(Q:VK):Prop
 |mk(a:V0)(ns:List Int)(a1:vs=[.ref a])(a2:SqL K H a (ns.map V.int))(a3:∀e B S H',Same H B->H e=none->C0 K H' e B S 0 0->OfA K B S->Q (.ref e) H')
def J4V(K:X0):Sp:=λ vs H Q _=>J4L K vs H Q
theorem Z9K{a:Type}{g:a->PyData}:∀{vs:List V}{xs:List a},A2 (λ v x=>RT K H v (g x)) vs xs->RTs K H vs (xs.map g)
 |_,_,.nil=>.nil
 |_,_,.cons r t=>.cons r (Z9K t)
theorem RT.sn{v:V}{d:PyData}(h:RT K H v d)(s:Z3G H H'):RT K H' v d:=h.kt ⟨λ b a q=>s _ _ (λ c z=>by cases z) q,λ b o a q=>s _ _ (λ c z=>by cases z) q⟩
theorem J3M{a D:V0}{us:List V}{hs:List P50.Hd}{h:M2}{c:St}(C:SqL K H a us)(E:A2 (HdO H) us hs)(M:H D=none)(Z:hs.length<=100)(N:∃o,c=[o,some (V.str h)])(q:∀H' vs,Same H H'->H' D=some (.lst vs)->RTs K H' vs (((hs.filter λ x=>decide (x.h=h)).map λ x=>(h,x.w)).map Z1k)->Q (.ref D) H'):Z3g (Itl K a) (Z2G 0) (Z6R (tOp rEq (tOp (Z5a K) (Z1P 0) (tC (V.int 0))) (Z1P 1))) (tTup (Z3O (Z1P 1) (Z3O (tOp (Z5a K) (Z1P 0) (tC (V.int 1))) tNil))) D Q c (upd H D (.lst [])):=by
 have lu:=E.len;refine Z1y (n:=hs.length) (λ c=>∃o,c=[o,some (V.str h)]) (λ i c=>∃y,us[i]?=some y/\c=[some y,some (V.str h)]) (λ i=>decide ((hs.map P50.Hd.h)[i]?=some h)) (λ i v H=>∃x,hs[i]?=some x/\RT K H v (Z1k (h,x.w))) (λ _ _ _ _ ⟨x,a,b⟩ s=>⟨x,a,RT.sn b s⟩) N M (by rw[sizeLine_eq];lia) (λ i r s G=>⟨us,us[i],SqL.same C s,qa3 qR⟩) (λ r s=>⟨us,SqL.same C s,qR⟩) (λ i x c r H2 L G u O m j=>?_) (λ i c m=>?_) (λ i c G m r L u j=>?_) (λ i c G hp m r L u j=>?_) (λ vs H' R S T=>?_)
 ·obtain⟨o,rfl⟩:=m;obtain⟨rfl,ex⟩:=O;have:=ex us (SqL.same C u);walk_at "r";exact j _ _ ⟨x,this,rfl⟩ (Same.refl _)
 ·obtain⟨y,_,rfl⟩:=m;exact⟨_,rfl⟩
 ·obtain⟨y,I,rfl⟩:=m;obtain⟨x,A,t,pl,rfl,J,U⟩:=E.at I;have j:=j r (Same.refl _);have e:decide ((hs.map P50.Hd.h)[i]?=some h)=decide (x.h=h):=by
   rw[qa8,A];exact decide_eq_decide.mpr ⟨λ z=>qc6 z,λ z=>congrArg some z⟩
  rw[e]at j;walk_at "r";refine⟨_,SqT.of (u _ _ J),_,rfl,rfl,?_⟩;rw[show decide (V.str x.h=V.str h)=decide (x.h=h)from decide_eq_decide.mpr ⟨λ z=>V.str.inj z,λ z=>z▸rfl⟩];exact j
 ·obtain⟨y,I,rfl⟩:=m;obtain⟨x,A,t,pl,rfl,J,U⟩:=E.at I;walk_at "r";refine⟨_,SqT.of (u _ _ J),_,rfl,New.of λ p5 H5 h5 X Y=>j _ _ X ⟨x,A,.tup (SqT.of Y) (.cons (.str _) (.cons (.str _) .nil))⟩⟩
 ·have:=Z9K (g:=λ x:P50.Hd=>Z1k (h,x.w)) (Z6K (p:=λ x:P50.Hd=>decide (x.h=h)) (hs:=hs) (λ i x A=>by
   rw[qa8,A];exact decide_eq_decide.mpr ⟨λ z=>qc6 z,λ z=>congrArg some z⟩) hs.length vs (qa0 _) T)
  rw[qd1]at this;refine q H' vs R S ?_;rw[qc7];exact this
theorem J4j{u:V->P50.Hd->Prop}{a D:V0}{us:List V}{hs:List P50.Hd}{h:M2}{c:St}(A:SqL K H a us)(J:A2 (HdO H) us hs)(M:A2 u us hs)(N:H D=none)(Y:hs.length<=100)(O:∃o,c=[o,some (V.str h)])(q:∀H' vs,Same H H'->H' D=some (.lst vs)->A2 u vs (hs.filter λ x=>decide (x.h=h))->Q (.ref D) H'):Z3g (Itl K a) (Z2G 0) (Z6R (tOp rEq (tOp (Z5a K) (Z1P 0) (tC (V.int 0))) (Z1P 1))) (Z1P 0) D Q c (upd H D (.lst [])):=by
 have Z:=J.len;refine Z1y (n:=hs.length) (λ c=>∃o,c=[o,some (V.str h)]) (λ i c=>∃y,us[i]?=some y/\c=[some y,some (V.str h)]) (λ i=>decide ((hs.map P50.Hd.h)[i]?=some h)) (λ i v _=>us[i]?=some v) (λ _ _ _ _ h _=>h) O N (by rw[sizeLine_eq];lia) (λ i m s C=>⟨us,us[i],SqL.same A s,qa3 qR⟩) (λ m s=>⟨us,SqL.same A s,qR⟩) (λ i x c m H2 L C r S j g=>?_) (λ i c j=>?_) (λ i c C j m L r g=>?_) (λ i c C hp j m L r g=>?_) (λ vs H' T E U=>?_)
 ·obtain⟨o,rfl⟩:=j;obtain⟨rfl,ex⟩:=S;have:=ex us (SqL.same A r);walk_at "r";exact g _ _ ⟨x,this,rfl⟩ (Same.refl _)
 ·obtain⟨y,_,rfl⟩:=j;exact⟨_,rfl⟩
 ·obtain⟨y,G,rfl⟩:=j;obtain⟨x,I,t,pl,rfl,X,h2⟩:=J.at G;have g:=g m (Same.refl _);have e:decide ((hs.map P50.Hd.h)[i]?=some h)=decide (x.h=h):=by
   rw[qa8,I];exact decide_eq_decide.mpr ⟨λ z=>qc6 z,λ z=>congrArg some z⟩
  rw[e]at g;walk_at "r";refine⟨_,SqT.of (r _ _ X),_,rfl,rfl,?_⟩;rw[show decide (V.str x.h=V.str h)=decide (x.h=h)from decide_eq_decide.mpr ⟨λ z=>V.str.inj z,λ z=>z▸rfl⟩];exact g
 ·obtain⟨y,G,rfl⟩:=j;walk_at "r";exact g _ _ (Same.refl _) G
 ·have:=Z6K (R:=u) (p:=λ x:P50.Hd=>decide (x.h=h)) (hs:=hs) (λ i x I=>by
   rw[qa8,I];exact decide_eq_decide.mpr ⟨λ z=>qc6 z,λ z=>congrArg some z⟩) hs.length vs (qa0 _) (U.mono λ v i E=>let⟨x,a,b⟩:=M.at E;⟨x,a,b⟩)
  rw[qd1]at this;exact q H' vs T E this
theorem Ev0.blk{n m:Nat}(v:Ev0 kvs S n m)(l:V0):Ev0 (putK kvs (.inr "blocks") (.ref l)) {S with bl:=l} n m:=
 ⟨by rw[Z2D v.bl];exact v.le.imp_right λ⟨h,a,b,c,e,g,i⟩=>⟨h,a,b,c,Z0l qS e,Z0l qS g,Z0l qS i⟩,Z0l qS v.sc,Z0l qS v.n,(let⟨M,h⟩:=v.M;⟨M,Z0l qS h⟩),Z0l qS v.ho,Z0l qS v.hd,Z0l qS v.m,Z0l qS v.wo,val_eq,Z0l qS v.fi,Z0l qS v.of⟩
theorem Z8w(hs:List P50.Hd)(l:List M2)(h:M2):blocks hs (l++[h])=blocks hs l++(hs.filter λ x=>decide (x.h=h)).map λ x=>(h,x.w):=by
 unfold P50.blocks;rw[qb6,qh8];simp
theorem Z5X(hs:List P50.Hd):∀l:List M2,(blocks hs l).length<=hs.length*l.length
 |[]=>qb0 _
 |h::l=>by
  have a:=Z5X hs l;have b:=qh5 (λ x:P50.Hd=>decide (x.h=h)) hs;show(((hs.filter λ x=>decide (x.h=h)).map λ x=>(h,x.w))++blocks hs l).length<=hs.length*(l.length+1);rw[qa2,qa1,Nat.mul_succ];lia
theorem HdO.sx{v:V}{x:P50.Hd}(h:HdO H v x)(s:SX e H H')(g:H e=some (.dK kvs)):HdO H' v x:=let⟨t,pl,a,b,c⟩:=h;⟨t,pl,a,s _ _ (nq g b) b,s _ _ (nq g c) c⟩
theorem Z4n:∀(l:List (M2×M2))(r:List M2)(p:M2×M2),Z0z (l++[p]) r=if p.2∈Z0z l r then Z0z l r else Z0z l r++[p.2]
 |[],r,(a,b)=>rfl
 |(x,w)::l,r,p=>by
  show Z0z (l++[p]) _=if p.2∈Z0z l _ then Z0z l _ else Z0z l _++[p.2];exact Z4n l _ p
theorem Z7v:∀(l:List (M2×M2))(r:List M2),(Z0z l r).length<=l.length+r.length
 |[],r=>by show r.length<=0+r.length;lia
 |(x,w)::l,r=>by
  have h:=Z7v l (if w∈r then r else r++[w]);have a:(if w∈r then r else r++[w]).length<=r.length+1:=by split<;>simp
  show(Z0z l _).length<=l.length+1+r.length;lia
inductive EB1(K:X0)(pe:V0)(S:ES)(Hd:Hp)(σ0:List (Option V)->St)(i:Nat)(σ:St)(H':Hp):Prop
 |mk(kvs:_)(l:_)(us:_)(o8:_)(o9:_)(a1:SX pe Hd H')(a2:H' pe=some (.dK kvs))(a3:Ev0 kvs {S with bl:=l} 0 0)(a4:H' l=some (.lst us))(a5:RTs K H' us ((blocks S.c.hs ((Z0I S.c.or).take i)).map Z1k))(a6:l≠S.wo)(a7:σ=σ0 [o8,o9])
inductive EB2(pw:V0)(c:Cho)(He:Hp)(σ0:List (Option V)->St)(i:Nat)(σ:St)(H':Hp):Prop
 |mk(o8:_)(o9:_)(a1:SX pw He H')(a2:H' pw=some (.lst ((Z0z (c.bl.take i) []).map V.str)))(a3:σ=σ0 [o8,o9])
theorem J7k(T:nofun)(U:Has P w K mg base 1 "_law_cell_at" ["_law_script","_law_k"] (Z6S K)):Has P w K mg base 2 "_law_env" ["_law_script"] (J4V K):=by
  refine Has.of T.O1C O0e (λ _ _ _ _ _ _ us hl=>el1 us hl λ _=>rfl) (λ vs H Q E h=>?_) (λ f cdv A outer s H vs Q E hr h=>?_)
  · obtain⟨a,ns,rfl,_⟩:=h;rfl
  obtain⟨a,ns,rfl,sq,q⟩:=h;refine⟨_,(Z0a (qG 1 O0e.nd (Z0j Z0C (Z0j Z3U (Z0j Z1q (qF U hr (qJ (pvF 0) Z0f)) Z0f) Z0f) Z0f)) (Z0a (qG 2 O0e.nd (qD K (Z0o (Z0q (Z0o (qK Z0b Z0b Z0b)) (qK (Z0o (qK Z0b Z0b Z0b)) (Z0o (qK Z0b Z0b Z0b)) (Z0o (qK Z0b Z0b Z0b))))) (Z0j Z0C (Z0j Z0E (pvF 1) Z0f) Z0f))) (Z0a (qG 3 O0e.nd (Z0o (Z0q (Z0i (qJ Z0b Z0b)) (qK (Z0i (qJ Z0b Z0b)) (Z0i (qJ Z0b Z0b)) (Z0i (qJ Z0b Z0b)))))) (Z0a (qG 4 O0e.nd (Z0o (Z0q (Z0i (qJ Z0b Z0b)) (qK (Z0i (qJ Z0b Z0b)) (Z0i (qJ Z0b Z0b)) (Z0i (qJ Z0b Z0b)))))) (Z0a (qG 3 O0e.nd (Z0S (r:=rSlL K) Z2E (pvF 3) Z1x (Z1j (qD K (Z0o (Z0q Z0f (qK Z0f Z0f Z0f))) (Z0j Z0C (Z0j Z0E (pvF 1) Z0f) Z0f))))) (Z0a (qG 4 O0e.nd (Z0S (r:=rSlL K) Z2E (pvF 4) Z1x (Z1j (qD K (Z0o (Z0q Z0f (qK Z0f Z0f Z0f))) (Z0j Z0C (Z0j Z0E (pvF 1) Z0f) Z0f))))) (Z0a (qG 5 O0e.nd (Z0S (r:=rSlL K) Z2E (Z0o (qK (Z0i (qJ Z0b Z0b)) (Z0i (qJ Z0b Z0b)) (Z0i (qJ Z0b Z0b)))) (Z1j (Z0j Z0C (Z0j Z0E (pvF 1) Z0f) Z0f)) Z1x)) (Z0a (qG 6 O0e.nd (Z0o (qJ (Z0i (Z0q Z0b (qK Z0b (Z0o (qI Z0b)) Z0b))) (Z0i (Z0q Z0b (qK Z0b (Z0o (qJ Z0b Z0b)) Z0b)))))) (Z0a (qG 6 O0e.nd (Z0j Z0y (pvF 6) (Z0S (r:=rSlL K) Z2E (Z0o (qI (Z0i (Z0q Z0b (qK Z0b (Z0o (Z0q Z0b (qK Z0b Z0b Z0b))) Z0b))))) (Z1j (Z0j Z0C (Z0j Z0E (pvF 1) Z0f) Z0f)) Z1x))) (Z0a (qG 6 O0e.nd (Z0j Z0y (pvF 6) (Z0S (r:=rSlL K) Z2E (Z0o (qI (Z0i (Z0q Z0b (qK Z0b (Z0o (qI Z0b)) Z0b))))) (Z1j (Z0j Z0C (Z0j Z0E (pvF 1) Z0f) Z0f)) Z1x))) (Z0a (qG 6 O0e.nd (Z0j Z0y (pvF 6) (Z0S (r:=rSlL K) Z2E (Z0o (qJ (Z0i (Z0q Z0b (qK Z0b (Z0o Z0R) Z0b))) (Z0i (Z0q Z0b (qK Z0b (Z0o (qI Z0b)) Z0b))))) Z1x (Z1j (Z0j Z0C (Z0j Z0E (pvF 1) Z0f) Z0f))))) (Z0a (qG 7 O0e.nd (Z8S (Z1s Z0b (pvF 0) (Z1s Z0b Z0f (Z1s Z0b Z0f (Z1s Z0b (pvF 2) (Z1s Z0b (pvF 6) (Z1s Z0b Z0f Z8m)))))) rfl rfl (by exact List.cons_ne_nil _ _) qS)) (Z0a (Z0Q (Z0i (qJ (Z0o Z0R) (Z0o Z0R))) (Z0v (n:=2) rfl (Z0e (J4E (pvF 7) Z0b (Z9W (Z2F hr))) (Z0e (J4E (pvF 7) Z0b (Z9W (Z2F hr))) Z0s)))) (Z0a (Z1K (Z2F hr) (pvF 7) Z0b (Z8S (Z1s Z0b (pvF 3) (Z1s Z0b (pvF 4) (Z1s Z0b (pvF 5) Z8m))) rfl rfl (by exact List.cons_ne_nil _ _) qS) rfl) (Z0a (Z1K (Z2F hr) (pvF 7) Z0b (Z8S (Z1s Z0b (pvF 3) (Z1s Z0b (Z0j Z0y (pvF 3) (pvF 4)) (Z1s Z0b (pvF 5) Z8m))) rfl rfl (by exact List.cons_ne_nil _ _) qS) rfl) (Z0a (Z1o PassesOwn.never rfl (Z1b (pvF 2)) (Z4u (i:=8) O0e.nd rfl (Or.inr rfl)) (Z0c (Z1K (Z2F hr) (pvF 7) Z0b (Z0j Z0y (qB hr 7) (Z3A rfl (BlockOk.of (N:=["_law_head","_law_house"]) (nl:=[none,some 8]) (cl:=[("_law_house",s.heap.objs.size+1)]) rfl qP qP rfl (sub1 rfl) (nm:=["_law_house"]) rfl qP rfl (λ i hi j hj=>by
            match i,hi with
            | 0,_=>cases hj
             |1,_=>cases hj;exact⟨_,rfl,rfl,rfl,.inl rfl⟩
            )) (Z1b (pvF 6)) (λ C fp s H=>(qH 0 (show(["_law_head","_law_house"]:List M2).Nodup by decide+kernel))) (λ C fp s H=>(qM Z0B (qA K 0) (pvF 1))) (λ C fp s H=>(Z0i (qJ (pvF 1) (qA K 0)))))) rfl))) (Z0a (Z1o PassesOwn.never rfl (Z1b (qB hr 7)) (Z0v (n:=2) rfl (Z0e (Z4u (i:=8) O0e.nd rfl (Or.inr rfl)) (Z0e (qH 9 O0e.nd) Z0s))) (Z0c (Z0t (Z0Y (r:=rIn K true) Z2w (pvF 9) (qB hr 7) (by with_unfolding_all rfl)) (Z0c (Z0A (Z1B qb5 qd2 qd3 Z0F (qB hr 7) (qI (pvF 9))))) Z0n))) (Z0c (Z0h (pvF 7)))))))))))))))))))),?_⟩
  walk_at "s 9 z";refine⟨a,ns,1,rfl,sq,λ cc=>?_⟩;refine⟨_,rfl,?_⟩;generalize(cc+7)*48271%2147483647=mo;walk_at "n z1";refine New.of λ p1 H1 L e I=>New.of λ p2 X Y u J=>New.of λ p3 d0 h3 g M=>New.of λ p4 H4 h4 m O=>New.of λ p5 H5 h5 s5 e5=>?_;obtain⟨or,u0,oa,G0,c⟩:∃or∈[0,1,2,3],∃oa,atI [V.ref p1,V.ref p2,V.ref p3,V.ref p4] (mo/108%4)=some (.ref oa)/\H5 oa=some (.lst ((Z0I or).map V.str)):=by
    rcases m4 (mo/108)with z|z|z|z<;>rw[z]
    · exact⟨0,qQ,p1,rfl,(u.trans (g.trans (m.trans s5))) _ _ I⟩
    · exact⟨1,qQ,p2,rfl,(g.trans (m.trans s5)) _ _ J⟩
    · exact⟨2,qQ,p3,rfl,(m.trans s5) _ _ M⟩
    · exact⟨3,qQ,p4,rfl,s5 _ _ O⟩
  have S5:=e.trans (u.trans (g.trans (m.trans s5)));refine⟨_,SqL.of e5,_,G0,?_⟩;clear L e I Y u J h3 g M h4 m O h5 s5 e5 G0;walk_at "n z2";refine New.of λ p1 H1 L e I=>New.of λ p2 X Y u J=>New.of λ p3 d0 h3 g M=>New.of λ p4 H4 h4 m O=>New.of λ p6 H6 h6 s6 e6=>?_;have S6:=e.trans (u.trans (g.trans (m.trans s6)));have Z:LsP K H6 p6 (P50.old 4):=⟨_,e6,.cons (.tup (SqT.of ((u.trans (g.trans (m.trans s6))) _ _ I)) (.cons (.str _) (.cons (.str _) .nil))) (.cons (.tup (SqT.of ((g.trans (m.trans s6)) _ _ J)) (.cons (.str _) (.cons (.str _) .nil))) (.cons (.tup (SqT.of ((m.trans s6) _ _ M)) (.cons (.str _) (.cons (.str _) .nil))) (.cons (.tup (SqT.of (s6 _ _ O)) (.cons (.str _) (.cons (.str _) .nil))) .nil)))⟩;have I0:=S5.trans S6;have c:=S6 _ _ c;clear L e I Y u J h3 g M h4 m O h6 s6 e6 S5 S6;walk_at "n z3";refine New.of λ p1 H1 L e I=>New.of λ p2 X Y u J=>New.of λ p3 d0 h3 g M=>New.of λ p4 H4 h4 m O=>New.of λ p7 H7 h7 s7 e7=>?_;have S7:=e.trans (u.trans (g.trans (m.trans s7)));have lq:LsP K H7 p7 (P50.yng 4):=⟨_,e7,.cons (.tup (SqT.of ((u.trans (g.trans (m.trans s7))) _ _ I)) (.cons (.str _) (.cons (.str _) .nil))) (.cons (.tup (SqT.of ((g.trans (m.trans s7)) _ _ J)) (.cons (.str _) (.cons (.str _) .nil))) (.cons (.tup (SqT.of ((m.trans s7) _ _ M)) (.cons (.str _) (.cons (.str _) .nil))) (.cons (.tup (SqT.of (s7 _ _ O)) (.cons (.str _) (.cons (.str _) .nil))) .nil)))⟩;have J0:=I0.trans S7;have c:=S7 _ _ c;have Z:=Z.same S7;clear L e I Y u J h3 g M h4 m O h7 s7 e7 I0 S7;walk_at "n z4";refine New.of λ p1 H1 L e I=>?_;obtain⟨od,v0,L0⟩:∃od∈[1,2,4],atI [V.int 1,V.int 2,V.int 1,V.int 4] (mo/432%4)=some (.int ((od:Nat):Int)):=by
    rcases m4 (mo/432)with z|z|z|z<;>rw[z]
    · exact⟨1,qQ,rfl⟩
    · exact⟨2,qQ,rfl⟩
    · exact⟨1,qQ,rfl⟩
    · exact⟨4,qQ,rfl⟩
  obtain⟨us,u1,u2⟩:=Z.same e;refine⟨_,SqL.of I,_,L0,_,rfl,us,SqL.of u1,New.of λ p6 H6 h6 s6 e6=>?_⟩;rw[Z8I]at e6;have Z:LsP K H6 p6 (P50.old od):=⟨_,e6,by
    have:=RTs.take od (u2.same s6);rw[<-qj7]at this
    rwa [show(P50.old 4).take od=P50.old od by unfold P50.old;rw[List.take_take,qf2 ((show ∀n∈[1,2,4],n<=4 by decide) od v0)]]at this⟩
  have S6:=J0.trans (e.trans s6);have c:=(e.trans s6) _ _ c;have lq:=lq.same (e.trans s6);clear L I h6 e6 u1 u2 L0 e s6 J0;walk_at "n z5";refine New.of λ p1 H1 L e I=>?_;obtain⟨yg,w0,M0⟩:∃yg∈[0,1,2,4],atI [V.int 0,V.int 1,V.int 2,V.int 4] (mo/1728%4)=some (.int ((yg:Nat):Int)):=by
    rcases m4 (mo/1728)with z|z|z|z<;>rw[z]
    · exact⟨0,qQ,rfl⟩
    · exact⟨1,qQ,rfl⟩
    · exact⟨2,qQ,rfl⟩
    · exact⟨4,qQ,rfl⟩
  obtain⟨us2,u1,u2⟩:=lq.same e;refine⟨_,SqL.of I,_,M0,_,rfl,us2,SqL.of u1,New.of λ p7 H7 h7 s7 e7=>?_⟩;rw[Z8I]at e7;have lq:LsP K H7 p7 (P50.yng yg):=⟨_,e7,by
    have:=RTs.take yg (u2.same s7);rw[<-qj7]at this
    rwa [show(P50.yng 4).take yg=P50.yng yg by unfold P50.yng;rw[List.take_take,qf2 ((show ∀n∈[0,1,2,4],n<=4 by decide) yg w0)]]at this⟩
  have S7:=S6.trans (e.trans s7);have c:=(e.trans s7) _ _ c;have Z:=Z.same (e.trans s7);clear L I h7 e7 u1 u2 M0 e s7 S6;walk_at "n z6";refine New.of λ p1 H1 L e I=>New.of λ p2 X Y u J=>New.of λ p3 d0 h3 g M=>New.of λ p4 H4 h4 m O=>?_;obtain⟨ot,b1,N0⟩:∃ot∈[0,1,2],mo/6%3=((ot:Nat):Int):=by
    rcases m3 (mo/6)with z|z|z<;>rw[z]
    · exact⟨0,qQ,rfl⟩
    · exact⟨1,qQ,rfl⟩
    · exact⟨2,qQ,rfl⟩
  rw[N0];have lo:=RTs.drop ot (show RTs K H4 [V.ref p1,V.ref p2,V.ref p3] ((P50.oth 0).map Z1k)from .cons (.tup (SqT.of ((u.trans (g.trans m)) _ _ I)) (.cons (.str _) (.cons (.str _) .nil))) (.cons (.tup (SqT.of ((g.trans m) _ _ J)) (.cons (.str _) (.cons (.str _) .nil))) (.cons (.tup (SqT.of (m _ _ M)) (.cons (.str _) (.cons (.str _) .nil))) .nil)));refine⟨_,SqL.of O,New.of λ p8 H8 h8 s8 e8=>?_⟩;rw[Z4l]at e8;have lr:LsP K H8 p8 (P50.oth ot):=⟨_,e8,by
    rw[<-List.map_drop]at lo;exact lo.same s8⟩
  have T:=e.trans (u.trans (g.trans (m.trans s8)));have S8:=S7.trans T;have c:=T _ _ c;have Z:=Z.same T;have lq:=lq.same T;clear L e I Y u J h3 g M h4 m O h8 s8 e8 lo S7 T;walk_at "n z7";refine New.of λ p1 H1 L e I=>New.of λ p2 X Y u J=>New.of λ p3 d0 h3 g M=>New.of λ p4 H4 h4 m O=>New.of λ ph H9 h9 v e9=>?_;have lh:HdL H9 ph [⟨"aa","go",["number"],"number"⟩,⟨"aa","is",["aa","truth"],"truth"⟩]:=⟨_,e9,.cons ⟨p2,p1,rfl,(g.trans (m.trans v)) _ _ J,(u.trans (g.trans (m.trans v))) _ _ I⟩ (.cons ⟨p4,p3,rfl,v _ _ O,(m.trans v) _ _ M⟩ .nil)⟩;have T:=e.trans (u.trans (g.trans (m.trans v)));have S9:=S8.trans T;have c:=T _ _ c;have Z:=Z.same T;have lq:=lq.same T;have lr:=lr.same T;clear L e I Y u J h3 g M h4 m O h9 v e9 S8 T;subst huz8;refine J9l λ uy9 huy9 uy8 huy8 uy7 huy7 uy6 huy6 uy5 huy5 uy4 huy4 uy3 huy3 uy2 huy2 uy1 huy1=>?_;walk_at "r";refine New.of λ p1 H1 L e I=>New.of λ p2 X Y u J=>New.of λ p3 d0 h3 g M=>⟨_,SqL.of M,New.of λ p4 H4 h4 m O=>?_⟩;obtain⟨mx,n0⟩:=cutH (mo/6912%2) (m2 (mo/6912));have a8:=n0 H4 (.ref p2) ⟨"aa","mix",["number","truth","bb","number"],"number"⟩ ⟨p2,p1,rfl,(g.trans m) _ _ J,(u.trans (g.trans m)) _ _ I⟩;have T:=e.trans (u.trans (g.trans m));obtain⟨us8,v1,v2⟩:=lh.same T;have l8:(cutV [V.ref p2] (some (mo/6912%2)) none).length<=1:=by
    rw[a8.len];split<;>decide
  have l9:=v2.len;refine⟨us8,v1,_,O,by rw[l9];show 2+_<=_;lia,New.of λ ph H9 h9 v e9=>?_⟩;have lh:HdL H9 ph ([⟨"aa","go",["number"],"number"⟩,⟨"aa","is",["aa","truth"],"truth"⟩]++(if mx=true then[⟨"aa","mix",["number","truth","bb","number"],"number"⟩]else[])):=⟨_,e9,(v2.app a8).mono λ _ _ q=>q.same v⟩;have T:=T.trans v;have S9:=S9.trans T;have c:=T _ _ c;have Z:=Z.same T;have lq:=lq.same T;have lr:=lr.same T;clear L e I Y u J h3 g M h4 m O h9 v e9 T a8 l8 l9 v1 v2 us8 n0;walk_at "n y1";refine New.of λ p1 H1 L e I=>New.of λ p2 X Y u J=>New.of λ p3 d0 h3 g M=>⟨_,SqL.of M,New.of λ p4 H4 h4 m O=>?_⟩;obtain⟨bg,n0⟩:=cutH (mo/54%2) (m2 (mo/54));have a8:=n0 H4 (.ref p2) ⟨"bb","go",["number"],"number"⟩ ⟨p2,p1,rfl,(g.trans m) _ _ J,(u.trans (g.trans m)) _ _ I⟩;have T:=e.trans (u.trans (g.trans m));obtain⟨us8,v1,v2⟩:=lh.same T;have l8:(cutV [V.ref p2] (some (mo/54%2)) none).length<=1:=by
    rw[a8.len];split<;>decide
  have l9:us8.length<=3:=by
    rw[v2.len];cases mx<;>decide
  refine⟨us8,v1,_,O,qR,New.of λ ph H9 h9 v e9=>?_⟩;have lh:HdL H9 ph ([⟨"aa","go",["number"],"number"⟩,⟨"aa","is",["aa","truth"],"truth"⟩]++(if mx=true then[⟨"aa","mix",["number","truth","bb","number"],"number"⟩]else[])++(if bg=true then[⟨"bb","go",["number"],"number"⟩]else[])):=⟨_,e9,(v2.app a8).mono λ _ _ q=>q.same v⟩;have T:=T.trans v;have S9:=S9.trans T;have c:=T _ _ c;have Z:=Z.same T;have lq:=lq.same T;have lr:=lr.same T;clear L e I Y u J h3 g M h4 m O h9 v e9 T a8 l8 l9 v1 v2 us8 n0;walk_at "n y2";refine New.of λ p1 H1 L e I=>New.of λ p2 X Y u J=>New.of λ p3 d0 h3 g M=>New.of λ p4 H4 h4 m O=>New.of λ p5 H5 h5 s5 e5=>?_;obtain⟨cc,x0,O0⟩:∃cc∈[0,1,2],mo/18%3=((cc:Nat):Int):=by
    rcases m3 (mo/18)with z|z|z<;>rw[z]
    · exact⟨0,qQ,rfl⟩
    · exact⟨1,qQ,rfl⟩
    · exact⟨2,qQ,rfl⟩
  rw[O0];refine⟨_,SqL.of e5,New.of λ p9 H9 h9 v e9=>?_⟩;rw[Z8I]at e9;have a8:=A2.take cc (show A2 (HdO H9) [V.ref p2,V.ref p4] [(⟨"cc","do",[],"aa"⟩:P50.Hd),⟨"cc","go",["bb"],"number"⟩]from .cons ⟨p2,p1,rfl,(g.trans (m.trans (s5.trans v))) _ _ J,(u.trans (g.trans (m.trans (s5.trans v)))) _ _ I⟩ (.cons ⟨p4,p3,rfl,(s5.trans v) _ _ O,(m.trans (s5.trans v)) _ _ M⟩ .nil));have T:=e.trans (u.trans (g.trans (m.trans (s5.trans v))));obtain⟨us8,v1,v2⟩:=lh.same T;have l9:us8.length<=4:=by
    rw[v2.len];cases mx<;>cases bg<;>decide
  refine⟨us8,v1,_,e9,by rw[qd0];show _+min _ 2<=_;lia,New.of λ ph Ha ha sa ea=>?_⟩;have lh:HdL Ha ph (heads mx bg cc):=⟨_,ea,(v2.app a8).mono λ _ _ q=>q.same sa⟩;have T:=T.trans sa;have S9:=S9.trans T;have c:=T _ _ c;have Z:=Z.same T;have lq:=lq.same T;have lr:=lr.same T;clear L e I Y u J h3 g M h4 m O h5 s5 e5 h9 v e9 ha sa ea T a8 l9 v1 v2 us8 O0 N0;walk_at "n y3";refine New.of λ pe Hb i0 sb eb=>⟨eb,[(.inr "script",.ref a),(.inr "spot",.int 0),(.inr "most",.int 0),(.inr "houses",.ref oa),(.inr "heads",.ref ph),(.inr "sites",.int 0)],rfl,by show 6<=15;decide,DD (R:=uy4 _ _) i0 sb λ Hc sc _ ec=>?_⟩;obtain⟨d6,g6,l6⟩:∃d6:List (Key×V),(valV d6 (.inr "script")=some (.ref a)/\valV d6 (.inr "spot")=some (.int 0)/\valV d6 (.inr "most")=some (.int 0)/\valV d6 (.inr "houses")=some (.ref oa)/\valV d6 (.inr "heads")=some (.ref ph)/\valV d6 (.inr "sites")=some (.int 0)/\d6.length<=6)/\Hc pe=some (.dK d6):=by
    refine⟨putK (putK (putK (putK (putK (putK [] (.inr "script") (.ref a)) (.inr "spot") (.int 0)) (.inr "most") (.int 0)) (.inr "houses") (.ref oa)) (.inr "heads") (.ref ph)) (.inr "sites") (.int 0),⟨?_,?_,?_,?_,?_,?_,pl (pl (pl (pl (pl (pl (qb0 _))))))⟩,ec⟩<;>repeat (first|exact val_eq|refine Z0l qS ?_)
  clear ec sb eb;walk_at "n y4";obtain⟨g1,g2,g3,g4,g5,g7,g8⟩:=g6;refine New.of λ pw H1 L e I=>New.of λ pb X Y u J=>New.of λ pt d0 h3 g M=>⟨_,SqT.of M,rfl,⟨_,_,rfl,DP ((e.trans (u.trans g)) _ _ l6) g8 λ Hx sx ex=>⟨_,_,rfl,DP ex (pl g8) λ H4 sy O=>⟨rfl,?_⟩⟩⟩⟩;have T:=e.trans (u.trans g);have x4:SX pe d0 H4:=λ b o n q=>sy _ _ n (sx _ _ n q);have S4:Same Ha H4:=λ b o q=>x4 _ _ (nq i0 q) (T _ _ (sc _ _ q));have e0:pw≠pe:=nq l6 L;have y0:pb≠pe:=nq (e _ _ l6) Y;have bw:pb≠pw:=nq I Y;have Q0:=x4 _ _ e0 ((u.trans g) _ _ I);have i1:=x4 _ _ y0 (g _ _ J);have p0:Ha pw=none:=sc.free L;clear L e I Y u J h3 g M T x4 sc;have n6:p6≠pw:=λ y=>by obtain⟨_,z,_⟩:=Z;rw[y,p0]at z;cases z
  have n7:p7≠pw:=λ y=>by obtain⟨_,z,_⟩:=lq;rw[y,p0]at z;cases z
  have n8:p8≠pw:=λ y=>by obtain⟨_,z,_⟩:=lr;rw[y,p0]at z;cases z
  have R0:=c;have j1:=lh;have k1:=sq;have Z:=Z.same S4;have lq:=lq.same S4;have lr:=lr.same S4;walk_at "n y5";refine New.of λ po H5 h5 s5 e5=>⟨e5,[(.inr "aa",.ref p6),(.inr "bb",.ref p7),(.inr "cc",.ref p8)],rfl,by show 3<=15;decide,DD (R:=λ H=>∃x,DPut H pe (.str "own_fields") (.ref po) x/\uy6 _ _ x) h5 s5 λ S0 a0 _ f5=>?_⟩;have z0:po≠pe:=nq O h5;have j0:=a0 _ _ O;have T0:DfO K S0 po pw (Z4J ⟨od,yg,ot,mx,bg,cc,or⟩):=DfO.of n6 n7 n8 f5 (Z.same a0) (lq.same a0) (lr.same a0);refine DP j0 (pl (pl g8)) λ H6 x6 e6=>?_;have l1:=T0.sx (λ b o n _ q=>x6 _ _ n q) j0 (a0 _ _ Q0) z0;have S6:Same Ha H6:=λ b o q=>x6 _ _ (nq i0 q) (a0 _ _ (S4 _ _ q));have q0:=x6 _ _ e0 (a0 _ _ Q0);have m1:=x6 _ _ y0 (a0 _ _ i1);have A0:Kt S0 H6:=SX.ktd x6 j0;clear h5 s5 e5 f5 T0;have Z:=LsP.same Z a0;have lq:=LsP.same lq a0;have lr:=LsP.same lr a0;obtain⟨us6,a6,b6⟩:=Z;obtain⟨us7,a7,b7⟩:=lq;obtain⟨us8,a8,b8⟩:=lr;have a6:=x6 _ _ (nq j0 a6) a6;have a7:=x6 _ _ (nq j0 a7) a7;have a8:=x6 _ _ (nq j0 a8) a8;have b6:=b6.kt A0;have b7:=b7.kt A0;have b8:=b8.kt A0;have G1:us6.length<=4:=by
    rw[b6.length,qa1];exact qa9 (qj8 _ _) ((show ∀n∈[1,2,4],n<=4 by decide) od v0)
  have I1:us7.length<=4:=by
    rw[b7.length,qa1];exact qa9 (qj8 _ _) ((show ∀n∈[0,1,2,4],n<=4 by decide) yg w0)
  walk_at "n y6";refine New.of λ pf H7 h7 s7 e7=>⟨us6,s7 _ _ a6,us7,s7 _ _ a7,qR,New.of λ U0 H8 h8 s8 e8=>⟨s8 _ _ e7,[(.inr "aa",.ref p6),(.inr "bb",.ref U0),(.inr "cc",.ref p8)],rfl,by show 3<=15;decide,DD (R:=λ H=>∃x,DPut H pe (.str "fields") (.ref pf) x/\uy7 _ _ x) h7 (s7.trans s8) λ H9 v x9 f9=>?_⟩⟩;have Y0:pf≠pe:=nq e6 h7;have e9:=v _ _ e6;have o1:=x9 _ _ (nq (s8 _ _ e7) e8) e8;have q1:U0≠pw:=nq (s7 _ _ q0) h8;have t1:DfO K H9 pf pw (flT od yg ot):=DfO.of n6 q1 n8 f9 ⟨us6,v _ _ a6,b6.same v⟩ ⟨us6++us7,o1,by
    show RTs K H9 _ ((P50.old od++P50.yng yg).map Z1k);rw[qb6];exact RTs.app (b6.same v) (b7.same v)⟩ ⟨us8,v _ _ a8,b8.same v⟩
  refine DP e9 (pl (pl (pl g8))) λ H10 o0 f0=>?_;have df:=t1.sx (λ b o n _ q=>o0 _ _ n q) e9 (v _ _ q0) Y0;have dO:=(l1.same v).sx (λ b o n _ q=>o0 _ _ n q) e9 (v _ _ q0) z0;have s0:Same Ha H10:=λ b o q=>o0 _ _ (nq i0 q) (v _ _ (S6 _ _ q));have ew:=o0 _ _ e0 (v _ _ q0);have eb:=o0 _ _ y0 (v _ _ m1);obtain⟨kv,x1,f0⟩:∃kv:List (Key×V),putK (putK (putK (putK d6 (.inr "words") (.ref pw)) (.inr "blocks") (.ref pb)) (.inr "own_fields") (.ref po)) (.inr "fields") (.ref pf)=kv/\H10 pe=some (.dK kv):=⟨_,rfl,f0⟩;have ev:Ev0 kv ⟨a,oa,ph,pw,pb,pf,po,ns,⟨od,yg,ot,mx,bg,cc,or⟩⟩ 0 0:=by
    rw[<-x1];exact⟨.inl (qa9 (pl (pl (pl (pl g8)))) qS),(by repeat (first|exact g1|refine Z0l qS ?_)),(by repeat (first|exact g2|refine Z0l qS ?_)),⟨0,by repeat (first|exact g3|refine Z0l qS ?_)⟩,(by repeat (first|exact g4|refine Z0l qS ?_)),(by repeat (first|exact g5|refine Z0l qS ?_)),(by repeat (first|exact g7|refine Z0l qS ?_)),(by repeat (first|exact val_eq|refine Z0l qS ?_)),(by repeat (first|exact val_eq|refine Z0l qS ?_)),val_eq,(by repeat (first|exact val_eq|refine Z0l qS ?_))⟩
  have ok:ChOk ⟨od,yg,ot,mx,bg,cc,or⟩:=⟨v0,w0,b1,x0,u0⟩;have lh:=lh.same s0;have c:=s0 _ _ c;have SS:=S9.trans s0;have sq:=sq.same SS;have y1:H pe=none:=S9.free i0;generalize hS:(⟨a,oa,ph,pw,pb,pf,po,ns,⟨od,yg,ot,mx,bg,cc,or⟩⟩:ES)=S at ev;have k0:S.c=⟨od,yg,ot,mx,bg,cc,or⟩:=by rw[<-hS]
  have l0:S.wo=pw:=by rw[<-hS]
  obtain⟨f1,f2,f3⟩:=P50.len_facts mx (P50.tf _) bg (P50.tf _) cc x0 or u0;have lhs:S.c.hs.length<=100:=by rw[k0];show(heads mx bg cc).length<=100;exact(show ∀mx∈[true,false],∀bg∈[true,false],∀cc∈[0,1,2],(heads mx bg cc).length<=100 by decide+kernel) mx (P50.tf _) bg (P50.tf _) cc x0
  rw[show heads mx bg cc=S.c.hs by rw[k0];rfl]at lh;rw[show Z0I or=Z0I S.c.or by rw[k0]]at c;obtain⟨J1,Z0,z1⟩:=lh;walk_at "n y7";refine⟨⟨_,SqL.of c⟩,Z1p ((Z0I S.c.or).map V.str) (EB1 K pe S H10 λ os=>some (V.ref a)::some (V.int mo)::some (V.ref oa)::some (V.ref p6)::some (V.ref p7)::some (V.ref p8)::some (V.ref ph)::some (V.ref pe)::os) ⟨kv,pb,[],none,none,(λ b o _ q=>q),f0,(by rw[<-hS]at ev ⊢;exact ev),eb,.nil,(by rw[l0];exact bw),rfl⟩ (λ i σ H' _ h=>?_) (λ i y σ H' hy h=>?_) (λ σ H' h=>?_)⟩
  · obtain⟨_,_,_,_,_,sK,_⟩:=h;exact SqL.of (sK _ _ (nq f0 c) c)
  · obtain⟨b0,l,us,o8,o9,sK,hk,g0,el,rl,nl,rfl⟩:=h;rw[qa8]at hy;obtain⟨h,hh,rfl⟩:=qc1.mp hy;walk_at "r";have a1:=sK _ _ (nq f0 Z0) Z0;have kI:us.length<=300:=by
      have L:=Z5X S.c.hs ((Z0I S.c.or).take i);have Y:((Z0I S.c.or).take i).length<=3:=by
        rw[qd0,(P50.ord_facts S.c.or (by rw[k0];exact u0)).2.2.1];lia
      have h3:=Nat.mul_le_mul lhs Y;rw[rl.length,qa1];lia
    refine⟨_,.inl ⟨b0,.inr "blocks",.inl hk,rfl,g0.bl.symm⟩,⟨_,SqL.of a1⟩,λ D hD=>J3M (SqL.of a1) (z1.mono λ _ _ q=>q.sx sK f0) hD lhs ⟨none,rfl⟩ λ G vs e A1 r1=>⟨l,rfl,_,rfl,us,e _ _ el,vs,A1,?_,New.of λ p G2 g2 u J=>⟨_,DPut.k (k:=.inr "blocks") ((e.trans u) _ _ hk) (by rw[sizeLine_eq];have:=g0.lt;lia),?_⟩⟩⟩
    · have Y:=qh5 (λ x:P50.Hd=>decide (x.h=h)) S.c.hs;rw[r1.length,qa1,qa1];lia
    have B0:=e.trans u;have t0:=B0 _ _ hk;have np:p≠pe:=nq (e _ _ hk) g2;have m0:=sK _ _ e0 ew;refine⟨putK b0 (.inr "blocks") (.ref p),p,us++vs,_,_,λ b o n q=>by rw[Z0k n];exact B0 _ _ (sK _ _ n q),Z0d,g0.blk p,by rw[Z0k np];exact J,?_,(λ y=>by rw[l0]at y;rw[y,e _ _ m0]at g2;cases g2),rfl⟩;have kt:Kt G2 (upd G2 pe (.dK (putK b0 (.inr "blocks") (.ref p)))):=⟨λ b xs q=>by rw[Z0k (nq t0 q)];exact q,λ b o xs q=>by rw[Z0k (nq t0 q)];exact q⟩;rw[qd4,hh];show RTs K _ _ ((blocks S.c.hs (_++[h])).map Z1k);rw[Z8w,qb6];exact(RTs.app (rl.same B0) (r1.same u)).kt kt
  · obtain⟨b0,l,us,o8,o9,sK,hk,g0,el,rl,nl,rfl⟩:=h;rw[qa1,qd1]at rl;have rl:RTs K H' us (S.c.bl.map Z1k):=rl;have m0:=sK _ _ e0 ew;have L1:S.c.bl.length<=6:=by rw[k0];exact f1
    have B1:us.length=S.c.bl.length:=by rw[rl.length,qa1]
    show uy8 _ _ _;walk_at "n y8";refine⟨_,.inl ⟨b0,.inr "blocks",.inl hk,rfl,g0.bl.symm⟩,l,rfl,⟨_,SqL.of el⟩,Z1p us (EB2 pw S.c H' λ os=>some (V.ref a)::some (V.int mo)::some (V.ref oa)::some (V.ref p6)::some (V.ref p7)::some (V.ref p8)::some (V.ref ph)::some (V.ref pe)::os) ⟨o8,o9,(λ b o _ q=>q),m0,rfl⟩ (λ i σ X _ h=>?_) (λ i y σ X hy h=>?_) (λ σ X h=>?_)⟩
    · obtain⟨_,_,sW,_⟩:=h;exact SqL.of (sW _ _ (by rw[l0]at nl;exact nl) el)
    · obtain⟨o8,o9,sW,h0,rfl⟩:=h;obtain⟨b,p,w1,w2,rfl,hp,hz,rfl,rfl⟩:=Z5J rl hy;have C1:SqT K X b [.str p.1,.str p.2]:=SqT.kt hz (SX.kpl sW m0).kt;have t0:=sW _ _ (λ y=>e0 y.symm) hk;have g2:DGet X pe (.str "words") (some (.ref pw)):=.inl ⟨b0,.inr "words",.inl t0,rfl,by rw[<-l0];exact g0.wo.symm⟩;walk_at "r";have tk:S.c.bl.take (i+1)=S.c.bl.take i++[p]:=by rw[qd4,hp];rfl
      refine⟨_,C1,rfl,⟨_,_,rfl,⟨_,_,rfl,rfl,_,g2,pw,rfl,_,.inl (SqL.of h0),rfl,Z1Q _,?_⟩⟩⟩;rw[Z3J];refine ite2 (λ y=>⟨_,g2,.inl ⟨rfl,_,SqL.of h0⟩,pw,rfl,_,h0,?_,?_⟩) λ y=>?_
      · have L:=Z7v (S.c.bl.take i) [];have Y:=qj8 i S.c.bl;have h3:i<us.length:=(qa6.mp hy).1;rw[qg0]at L;rw[qa1];lia
      · refine⟨_,_,λ b o n q=>by rw[Z0k n];exact sW _ _ n q,?_,rfl⟩;rw[Z0d,tk,Z4n,if_neg (of_decide_eq_false y),qb6];rfl
      · refine⟨_,_,sW,?_,rfl⟩;rw[tk,Z4n,if_pos (by cases h:decide (p.2∈Z0z (S.c.bl.take i) [])with|false=>exact absurd h y|true=>exact of_decide_eq_true h)];exact h0
    · obtain⟨o8,o9,sW,h0,rfl⟩:=h;rw[B1,qd1]at h0;show uy9 _ _ _;walk_at "n y9";have kB:∀b o,b≠pe->b≠pw->H10 b=some o->(if b=pe then none else X b)=some o:=λ b o n1 n2 q=>by
        rw[if_neg n1];exact sW _ _ n2 (sK _ _ n1 q)
      have kA:Same Ha (λ b=>if b=pe then none else X b):=λ b o q=>kB b o (nq i0 q) (nq p0 q) (s0 _ _ q);have D0:∀b o,b≠pe->b≠pw->H' b=some o->(if b=pe then none else X b)=some o:=λ b o n1 n2 q=>by
        rw[if_neg n1];exact sW _ _ n2 q
      have D1:l≠pw:=by rw[l0]at nl;exact nl
      refine q pe (λ b=>if b=pe then none else X b) {S with bl:=l} X (S9.trans kA) y1 ⟨⟨if_pos rfl,?_,?_,?_,?_,?_,?_,?_⟩,λ b o q=>?_,b0,sW _ _ (λ y=>e0 y.symm) hk,g0⟩ ?_
      · show ChOk S.c;rw[k0];exact ok
      · show SqL K _ S.sc (S.is.map V.int);rw[<-hS];exact SqL.same k1 (S9.trans kA)
      · show(if S.ho=pe then none else X S.ho)=some (.lst ((Z0I S.c.or).map V.str));rw[<-hS];exact kA _ _ R0
      · obtain⟨E1,v1,v2⟩:=j1.same kA;show ∃us,(if S.hd=pe then none else X S.hd)=some (.lst us)/\A2 (HdO _) us S.c.hs;rw[<-hS];exact⟨E1,v1,v2⟩
      · show(if S.wo=pe then none else X S.wo)=some (.lst ((Z0z S.c.bl []).map V.str));rw[l0,if_neg e0];exact h0
      · exact⟨us,D0 l _ (nq hk el) D1 el,rl.kt ⟨λ b xs q=>D0 _ _ (nq hk q) (nq m0 q) q,λ b o xs q=>D0 _ _ (nq hk q) (nq m0 q) q⟩⟩
      · obtain⟨kf,d1,d2⟩:=df.sx kB f0 ew Y0;show ∃b0,(if S.fi=pe then none else X S.fi)=some (.dK b0)/\∀h∈H3,∃l us,valV b0 (.inr h)=some (.ref l)/\(if l=pe then none else X l)=some (.lst us)/\RTs K _ us ((flT S.c.od S.c.yg S.c.ot h).map Z1k);rw[<-hS];exact⟨kf,d1,λ h hh=>let⟨l,c1,_,us,c2,c3⟩:=d2 h hh;⟨l,us,c1,c2,c3⟩⟩
      · by_cases z:b=pe
        · have q:(if b=pe then none else X b)=some o:=q;rw[if_pos z]at q;cases q
        · have q:(if b=pe then none else X b)=some o:=q;rw[if_neg z]at q;exact q
      · refine⟨pw,?_⟩;show DfO K _ S.of pw (Z4J S.c);rw[<-hS];exact dO.sx kB f0 ew z0
end K50
end
section
namespace K50
open P15 (Lb Fm Tm dats Z0K okF Ok maxD sumS flatR Bld)
open PW (Wd Hs Pg IxAt Look Chain Z0Z Flds Z1i)
seal L2.PE L2.PA L2.PT L2.PS L2.PSs L2.PG L2.PGs L2.PI L2.PW
open PK (NN fitP nrP HD KN AF Own getK bsAt GR GRs Z1n bnd r0 r1 r2 r3 signR)
open P50 (Cho ChOk K5 H3 flT heads Z0I prs Z0V blocks Z0z D50 Sub hof foP Z4D up5 tf)
open P52 (bk wn Z1U Z1W)
open P23 (FO ixO)
theorem A2.mapEq{e i j:Type}{R:e->i->Prop}{f:e->j}{g:i->j}:∀{n:List e}{bs:List i},A2 R n bs->(∀a b,R a b->f a=g b)->n.map f=bs.map g
 |_,_,.nil,_=>rfl
 |_,_,.cons r t,h=>by rw[qb7,qb7,h _ _ r,A2.mapEq t h]
structure HsR(c:Cho)(X:Hs)(h:M2):Prop where
 nm:X.name=h
 el:X.elder=(if h="bb" then some ("aa":M2)else none:Option M2)
 fl:X.fields=Z4J c h
 ws:A2 (λ(d:Wd) (x:P50.Hd)=>d.name=x.w/\d.params=prs x.ps/\d.kind=x.k) X.words (hof c.mx c.bg c.cc h)
def GOf(c:Cho)(G:Pg):Prop:=A2 (HsR c) G.houses (Z0I c.or)
section
variable{c:Cho}{G:Pg}
theorem GOf.names(h:GOf c G):G.houses.map Hs.name=Z0I c.or:=by
 rw[A2.mapEq (g:=id) h λ a b r=>r.nm,List.map_id]
theorem GOf.look(g:GOf c G){h:M2}(a:h∈Z0I c.or):∃X,Look G h X/\HsR c X h:=by
 obtain⟨i,j,e⟩:=qf9 a;obtain⟨X,n,r⟩:=A2.to g (i:=i) (b:=h) (by rw[qa3 j,e]);exact⟨X,⟨qb4 n,r.nm⟩,r⟩
theorem Z6e:∀{hs:List Hs}{l:List M2},A2 (HsR c) hs l->∀h,Z1U hs h=Z4D c.mx c.bg c.cc l h
 |_,_,.nil,_=>rfl
 |_,_,.cons (a:=X) (b:=x) r t,h=>by
  show(if X.name=h then 0 else X.words.length+Z1U _ h)=if x=h then 0 else(hof c.mx c.bg c.cc x).length+Z4D c.mx c.bg c.cc _ h;rw[r.nm,r.ws.len,Z6e t h]
theorem GOf.fo(g:GOf c G)(w:M2):∀l,(∀x∈l,x∈Z0I c.or)->∃r,FO G w l r/\r.map (λ d=>(d.1,d.2.1))=foP c.mx c.bg c.cc w l/\∀d,r=some d->∃y,(hof c.mx c.bg c.cc d.1)[d.2.1]?=some y/\d.2.2.params=prs y.ps/\d.2.2.kind=y.k
 |[],_=>⟨none,.nil,rfl,λ d h=>by cases h⟩
 |h::l,hl=>by
  obtain⟨X,j,r⟩:=g.look (hl h qc2);have e:X.words.map Wd.name=(hof c.mx c.bg c.cc h).map P50.Hd.w:=A2.mapEq r.ws λ a b q=>q.1;cases f:ixO ((hof c.mx c.bg c.cc h).map P50.Hd.w) w with
  |none=>
   obtain⟨o,p,u,v⟩:=GOf.fo g w l λ x z=>hl x (qc4 _ z);exact⟨o,.there j (by rw[e];exact f) p,by rw[u];show _=(match ixO _ w with|some i=>_|none=>_);rw[f],v⟩
  |some i=>
   have n:i<(hof c.mx c.bg c.cc h).length:=by
    have:=(P23.Z9J f).2.1;rw[qa1]at this;exact this
   obtain⟨d,hd,q⟩:=A2.to r.ws (qa3 n);refine⟨some (h,i,d),.here j (by rw[e];exact f) hd,?_,λ B A=>?_⟩
   ·show some (h,i)=(match ixO _ w with|some i=>_|none=>_);rw[f]
   ·cases A;exact⟨_,qa3 n,q.2⟩
theorem J9N(ok:ChOk c)(g:GOf c G):HDOk G (D50 c):=by
 obtain⟨p,u,M,N⟩:=P50.ord_facts c.or ok.or;have top:∀{x},x∈Z0I c.or->x≠"bb"->Chain G x []:=λ{x} j n=>by
  obtain⟨X,o,r⟩:=g.look j;exact .top o (by rw[r.el,if_neg n])
 refine⟨g.names.symm,λ x j=>(show ∀x∈H3,x∉NN by decide+kernel) x (u x j),λ x j=>?_,λ x j=>?_,λ x j w=>?_,?_,λ X E=>?_⟩
 ·show Chain G x (up5 x)/\(up5 x).length<=100;unfold up5;by_cases n:x="bb"
  ·rw[if_pos n];obtain⟨X,o,r⟩:=g.look j;exact⟨.up o (by rw[r.el,if_pos n]) (top (p "aa" qP) qP),qQ⟩
  ·rw[if_neg n];exact⟨top j n,qb0 _⟩
 ·show Flds G (x::up5 x).reverse (flT c.od c.yg c.ot x)/\_;refine⟨?_,qa9 (P50.field_facts _ ok.od _ ok.yg _ ok.ot x (u x j)).2.2 qS⟩;obtain⟨X,o,r⟩:=g.look j;unfold up5;by_cases n:x="bb"
  ·obtain⟨Y,v,r2⟩:=g.look (p "aa" qP);rw[if_pos n];have:Flds G [("aa":M2),x] (Y.fields++(X.fields++[])):=.cons v (.cons o .nil);rw[r.fl,r2.fl,qc8,n]at this;rw[n];exact this
  ·rw[if_neg n];have:Flds G [x] (X.fields++[]):=.cons o .nil;rw[r.fl,qc8]at this;have e:flT c.od c.yg c.ot x=Z4J c x:=by
    unfold P50.flT Z4J;rw[if_neg n,if_neg n]
   rw[e];exact this
 ·obtain⟨H,I⟩:=P50.fo_all ok (u x j) w;obtain⟨r,J,A,B⟩:=g.fo w (x::up5 x) (λ y K=>by
   rcases qa4.mp K with e|e
   ·rw[e];exact j
   ·unfold up5 at e;split at e
    ·rw[qa5.mp e];exact p _ qP
    ·cases e)
  refine⟨r,J,?_,?_,λ d hd=>?_⟩
  ·show(Z0V c.hs x w).map _=_;rw[H,<-A];cases r with
   |none=>rfl
   |some d=>
    obtain⟨y,C,z,D⟩:=B d rfl;show Option.map _ ((hof c.mx c.bg c.cc d.1)[d.2.1]?)=some (d.2.2.params,d.2.2.kind);rw[C,z,D];rfl
  ·show((Z0V c.hs x w).bind λ y=>P50.ixOf c.bl (y.h,y.w))=_;rw[I,<-A];cases r with
   |none=>rfl
   |some d=>
    show some (Z4D c.mx c.bg c.cc (Z0I c.or) d.1+d.2.1)=some (Z1U G.houses d.1+d.2.1);rw[Z6e g]
  ·obtain⟨y,C,z,D⟩:=B d hd;rw[z];show(List.zip _ _).length<=_;rw[List.length_zip];exact qa9 (Nat.min_le_left _ _) qS
 ·show Z0z c.bl []=Z1W [] (G.houses.map λ X=>X.words.map Wd.name);rw[A2.mapEq (g:=λ h=>(hof c.mx c.bg c.cc h).map P50.Hd.w) g λ a b r=>A2.mapEq r.ws λ a b q=>q.1];exact P50.wo_facts _ (tf _) _ (tf _) _ ok.cc _ ok.or
 ·obtain⟨i,L,e⟩:=qf9 E;obtain⟨h,O,r⟩:=A2.at g (i:=i) (a:=X) (by rw[qa3 L,e]);show(if X.name="bb" then _ else _)=_;rw[r.el,r.nm]
end
inductive ChG(S:ES):List (Option M2×Wd)->List PyData->Nat->Prop
 |nil:ChG S [] [] 0
 |snoc{bs bks m own d rows m2}:ChG S bs bks m->GT S own d.params m d.kind d.body rows m2->d.params.length<=4->d.body.depth<=8->d.body.size<=1700->d.kind∈K5->ChG S (bs++[(own,d)]) (bks++[blkD own d.params rows]) m2
inductive ChK(S:ES):List (Option M2×Wd)->List (List M2)->List PyData->Nat->Prop
 |nil:ChK S [] [] [] 0
 |snoc{bs kss bks m own d ks rows m2}:ChK S bs kss bks m->GR (D50 S.c) own d.params m d.body ks rows m2->J1z (D50 S.c) 8 own d ks->rows.length<=19999->ChK S (bs++[(own,d)]) (kss++[ks]) (bks++[blkD own d.params rows]) m2
def keyB(p:Option M2×Wd):Option M2×M2:=(p.1,p.2.name)
def kfL(L:List ((Option M2×Wd)×List M2))(own:Option M2)(d:Wd):List M2:=((L.find? λ p=>decide (keyB p.1=(own,d.name))).map (·.2)).getD []
theorem J6M:∀{L:List ((Option M2×Wd)×List M2)},(L.map λ p=>keyB p.1).Nodup->∀p∈L,kfL L p.1.1 p.1.2=p.2
 |q::L,a,p,b=>by
  rw[qb7,qf7]at a;unfold kfL;rw[qf1];rcases qa4.mp b with e|e
  ·rw[<-e,decide_eq_true (show keyB p.1=(p.1.1,p.1.2.name)from rfl)];rfl
  ·rw[decide_eq_false (show ¬keyB q.1=(p.1.1,p.1.2.name)from λ z=>a.1 (qe0.mpr ⟨p,e,Eq.symm z⟩))];exact J6M a.2 p e
section
variable{S:ES}{bs:List (Option M2×Wd)}{kss:List (List M2)}{bks:List PyData}{m:Nat}
theorem ChK.len(h:ChK S bs kss bks m):bs.length=kss.length:=by
 induction h with
 |nil=>rfl
 |snoc _ _ _ _ a=>rw[qa2,qa2,a];rfl
theorem ChK.body(h:ChK S bs kss bks m):∀p∈bs.zip kss,J1z (D50 S.c) 8 p.1.1 p.1.2 p.2:=by
 induction h with
 |nil=>exact λ p h=>by cases h
 |snoc e _ b _ g=>
  intro p a;rw[List.zip_append e.len]at a;rcases qa7.mp a with y|y
  ·exact g p y
  ·rw[qa5.mp y];exact b
theorem ChB.snoc{D:HD}{N:Nat}{kf:Option M2->Wd->List M2}{own:Option M2}{d:Wd}{rows:List PyData}{n e n2:Nat}(h:ChB D N kf n bs bks e)(a:d.params.length+N<=100)(b:GR D own d.params e d.body (kf own d) rows n2)(x:d.body.depth<=N)(y:d.body.size<=20000)(z:rows.length<=19999):ChB D N kf n (bs++[(own,d)]) (bks++[blkD own d.params rows]) n2:=by
 induction h with
 |nil=>exact .cons a b x y z .nil
 |cons g i j o p _ q=>exact .cons g i j o p (q b)
theorem ChK.chb{kf:Option M2->Wd->List M2}(h:ChK S bs kss bks m):(∀p∈bs.zip kss,kf p.1.1 p.1.2=p.2)->ChB (D50 S.c) 8 kf 0 bs bks m:=by
 induction h with
 |nil=>exact λ _=>.nil
 |@snoc bs kss bks m own d ks e m2 i g b r j=>
  intro a;rw[List.zip_append i.len]at a;have hd:kf own d=ks:=a ((own,d),ks) (qa7.mpr (.inr (qa5.mpr rfl)));exact(j λ p n=>a p (qa7.mpr (.inl n))).snoc b.pl (by rw[hd];exact g) b.dp b.sz r
theorem ChG.sites(h:ChG S bs bks m):m<=1700*bs.length/\bks.length=bs.length:=by
 induction h with
 |nil=>exact⟨qa0 _,rfl⟩
 |snoc _ g e i j _ a=>
  obtain⟨n,ks,b,_,_⟩:=g.g _ (BsR.refl _);have:=b.sites;rw[qa2,qa2];exact⟨by show _<=1700*(_+1);lia,congrArg (·+1) a.2⟩
theorem ChG.ks(ok:ChOk S.c)(h:ChG S bs bks m):∃kss,ChK S bs kss bks m:=by
 induction h with
 |nil=>exact⟨_,.nil⟩
 |snoc _ g p j q n a=>
  obtain⟨kss,a⟩:=a;obtain⟨e,ks,b,i,o⟩:=g.g _ (BsR.refl _);have:=b.rlen;exact⟨_,.snoc a b ⟨qR,⟨_,_,_,b⟩,j,qR,e,ks,rfl,kn5 ok _ i,P50.sub_facts e i _ n o⟩ qR⟩
theorem J5s{c:Cho}{G:Pg}(ok:ChOk c)(g:GOf c G)(a:G.main.name="main"):((bds G).map keyB).Nodup:=by
 have e:(bds G).map keyB=((Z0I c.or).map λ h=>(hof c.mx c.bg c.cc h).map λ x=>((some h:Option M2),x.w)).flatten++[(none,("main":M2))]:=by
  unfold bds;rw[qb6,List.map_flatten,qc7];congr 1
  ·congr 1;exact A2.mapEq g λ X h r=>by
    show(X.words.map _).map _=_;rw[qc7];exact A2.mapEq r.ws λ d x q=>by show(some X.name,d.name)=_;rw[r.nm,q.1]
  ·show[(none,G.main.name)]=_;rw[a]
 rw[e];exact P50.key_facts _ (tf _) _ (tf _) _ ok.cc _ ok.or
theorem Z9U{L:List (Option M2×Wd)}{M:List (List M2)}(h:L.length=M.length):(L.zip M).map (λ p=>keyB p.1)=L.map keyB:=by
 rw[show(λ p:(Option M2×Wd)×List M2=>keyB p.1)=keyB∘Prod.fst from rfl,<-qc7,List.map_fst_zip (qg7 h)]
theorem J9K{G:Pg}(ok:ChOk S.c)(g:GOf S.c G)(v:G.main.name="main")(M:ChG S (bds G) bks m):∃kf,KfOk (D50 S.c) 8 G kf/\ChB (D50 S.c) 8 kf 0 (bds G) bks m:=by
 obtain⟨kss,h⟩:=M.ks ok;have n:=J6M (L:=(bds G).zip kss) (by rw[Z9U h.len];exact J5s ok g v);have B:∀p∈bds G,J1z (D50 S.c) 8 p.1 p.2 (kfL ((bds G).zip kss) p.1 p.2):=λ p A=>by
  obtain⟨i,o,e⟩:=qf9 A;have b:(p,kss[i]'(h.len▸o))∈(bds G).zip kss:=qb4 (i:=i) (List.getElem?_zip_eq_some.mpr ⟨by rw[qa3 o,e],qa3 _⟩);rw[n _ b];exact h.body _ b
 refine⟨_,⟨λ X C w D=>⟨B (some X.name,w) (qa7.mpr (.inl (List.mem_flatten.mpr ⟨_,qe4 C,qe4 D⟩))),λ e q=>?_⟩,B (none,G.main) (qa7.mpr (.inr (qa5.mpr rfl)))⟩,h.chb n⟩;obtain⟨i,o,N⟩:=qf9 C;obtain⟨x,Z,r⟩:=A2.at g (i:=i) (a:=X) (by rw[qa3 o,N]);rw[r.el]at q;split at q
 ·next hb=>
  cases q;obtain⟨O,o2,_⟩:=P50.ord_facts S.c.or ok.or;refine⟨O _ qP,λ ps k E=>?_⟩;obtain⟨j,P,Q⟩:=qf9 D;obtain⟨y,R,T,U,Y⟩:=A2.at r.ws (i:=j) (a:=w) (by rw[qa3 P,Q]);have H:=qb4 R;rw[hb]at H;change(Z0V S.c.hs "aa" w.name).map _=_ at E;obtain⟨z,b,e⟩:=qc1.mp E;cases e;rw[T]at b;obtain⟨I,J⟩:=P50.like_facts _ (tf _) _ (tf _) _ ok.cc y H z (P50.hfind_mem b) b;obtain⟨_,K,u,_⟩:=P50.head_facts _ (tf _) _ (tf _) _ ok.cc z (P50.hfind_mem b);rw[U,Y,I,J];rw[I]at K;rw[J]at u;refine⟨rfl,λ p A=>?_,P50.sub_facts _ u _ u (.inl rfl),kn5 ok _ u⟩;exact(show ∀k∈K5,P23.SOk k by unfold P23.SOk;decide+kernel) _ (K _ (qg8 A).2)
 ·cases q
end
def RN(d:PyData):Prop:=Nb 1 11 d/\∀j,kOf d=some j->j<=1000001
theorem J0D{s:M2}{r:List PyData}{j:Nat}(h:kOf (.tuple (.str s::r))=some j):∃n:Int,r=[.int n]/\j=n.toNat+1:=by
 change(if s="keep" then(match r with|[.int n]=>some (n.toNat+1)|_=>none)else none)=some j at h;split at h
 ·split at h
  ·next n=>cases h;exact⟨n,rfl,rfl⟩
  ·cases h
 ·cases h
theorem J2M{b:Nat}:∀{l:List Nat},(∀x∈l,x<=b)->l.foldr max 0<=b
 |[],_=>qb0 _
 |y::l,h=>by
  have e:=h y qc2;have g:=J2M (l:=l) λ x a=>h x (qc4 _ a);show max y (l.foldr max 0)<=b;lia
structure SmD(D:HD):Prop where
 nm:D.nm.length<=1000
 fl:∀a,(D.fl a).length<=1000
 wo:D.wo.length<=1000
 bk:∀e w j,D.bk e w=some j->j<=1000
theorem rn0{s:M2}(h:PyData.strOk s=true)(l:s.cps.size<=8):RN (r0 s):=⟨(Nb.tup (NbL.cons (Nb.str h l) (NbL.nil (n:=0)) (qa0 _))).mono (qa0 _) qS,λ j h=>by obtain⟨x,e,rfl⟩:=J0D h;cases e⟩
variable{n:Nat}
theorem rn1{s:M2}(h:PyData.strOk s=true)(l:s.cps.size<=8)(b:n<=1000000):RN (r1 s n):=⟨(Nb.tup (NbL.cons (Nb.str h l) (NbL.cons (a:=0) (Nb.int qR) (NbL.nil (n:=0)) (qa0 _)) (qa0 _))).mono (qa0 _) qS,λ j h=>by obtain⟨x,e,rfl⟩:=J0D h;cases e;lia⟩
theorem rn2{s:M2}{m:Nat}(h:PyData.strOk s=true)(l:s.cps.size<=8)(b:n<=1000000)(g:m<=1000000):RN (r2 s n m):=⟨(Nb.tup (NbL.cons (Nb.str h l) (NbL.cons (a:=0) (Nb.int qR) (NbL.cons (a:=0) (Nb.int qR) (NbL.nil (n:=0)) (qa0 _)) (qa0 _)) (qa0 _))).mono (qa0 _) qS,λ j h=>by obtain⟨x,e,rfl⟩:=J0D h;cases e⟩
theorem rn3{s:M2}{m k:Nat}(h:PyData.strOk s=true)(l:s.cps.size<=7)(b:n<=1000000)(g:m<=1000000)(i:k<=1000000):RN (r3 s n m k):=⟨(Nb.tup (NbL.cons (Nb.str h l) (NbL.cons (a:=0) (Nb.int qR) (NbL.cons (a:=0) (Nb.int qR) (NbL.cons (a:=0) (Nb.int qR) (NbL.nil (n:=0)) (qa0 _)) (qa0 _)) (qa0 _)) (qa0 _))).mono (qa0 _) qS,λ j h=>by obtain⟨x,e,rfl⟩:=J0D h;cases e⟩
theorem J7b{xs:List M2}{x:M2}{j:Nat}(h:IxAt xs x j):j<xs.length:=(qa6.mp h.1).1
theorem J6I{D:HD}{own:Option M2}{bs:List (M2×M2)}{f:Fm}{l:Lb}{ks:List M2}{k:M2}{g:List (List PyData)}{B:Nat}{rows:List PyData}(h:Own D own bs f l ks k g n rows B)(hr:∀r∈g,∀d∈r,RN d)(q:SmD D)(C:(bnd own bs).length<=1000000)(E:g.flatten.length<=900000)(H:n<=1000000)(I:ks.length<=8):∀d∈rows,RN d:=by
 have u:∀d∈g.flatten,RN d:=λ d hd=>let⟨r,a,b⟩:=List.mem_flatten.mp hd;hr r a d b;have y:∀p∈signR.take 4,PyData.strOk p.2=true/\p.2.cps.size<=8:=by decide+kernel
 cases h with
 |num J=>exact λ d hd=>by rw[qa5.mp hd];exact⟨(Nb.tup (NbL.cons (Nb.str (x:="push") (n:=4) qP qP) (NbL.cons (a:=0) (Nb.int qR) (NbL.nil (n:=0)) (qa0 _)) (qa0 _))).mono (qa0 _) qS,λ j h=>by obtain⟨x,e,rfl⟩:=J0D h;cases e;lia⟩
 |tru=>exact λ d hd=>by rw[qa5.mp hd];exact⟨(Nb.tup (NbL.cons (Nb.str (x:="push") (n:=4) qP qP) (NbL.cons (a:=0) Nb.bool (NbL.nil (n:=0)) (qa0 _)) (qa0 _))).mono (qa0 _) qS,λ j h=>by obtain⟨x,e,rfl⟩:=J0D h;cases e⟩
 |name _ w=>
   intro d hd;rw[qa5.mp hd];have:=(qa6.mp w.1).1;exact rn1 qP qP qR
 |self=>exact λ d hd=>by rw[qa5.mp hd];exact rn1 qP qP qS
 |lt=>
  intro d hd;rcases qa7.mp hd with z|z
  ·exact hr _ (by simp) d z
  ·rcases qa4.mp z with z|z
   ·rw[z];exact rn1 qP qP C
   ·exact hr _ (by simp) d z
 |nt=>
  intro d hd;rcases qa7.mp hd with z|z
  ·exact hr _ (by simp) d z
  ·rw[qa5.mp z];exact rn0 qP qP
 |seq=>
  intro d hd;rcases qa7.mp hd with z|z
  ·exact hr _ (by simp) d z
  ·rcases qa4.mp z with z|z
   ·rw[z];exact rn0 qP qP
   ·exact hr _ (by simp) d z
 |same=>
  intro d hd;rcases qa7.mp hd with z|z
  ·rcases qa7.mp z with z|z<;>exact hr _ (by simp) d z
  ·rw[qa5.mp z];exact rn0 qP qP
 |less=>
  intro d hd;rcases qa7.mp hd with z|z
  ·rcases qa7.mp z with z|z<;>exact hr _ (by simp) d z
  ·rw[qa5.mp z];exact rn0 qP qP
 |ari A=>
  intro d hd;rcases qa7.mp hd with z|z
  ·rcases qa7.mp z with z|z<;>exact hr _ (by simp) d z
  ·rw[qa5.mp z];exact rn0 (y _ A).1 (y _ A).2
 |iff=>
  intro d hd;simp only[qd5,List.flatten_nil,qc8,qa2]at E;rcases qa7.mp hd with z|z
  ·exact hr _ (by simp) d z
  ·rcases qa4.mp z with z|z
   ·rw[z];exact rn1 qP qP qR
   ·rcases qa7.mp z with z|z
    ·exact hr _ (by simp) d z
    ·rcases qa4.mp z with z|z
     ·rw[z];exact rn1 qP qP qR
     ·exact hr _ (by simp) d z
 |field _ _ i=>
  intro d hd;rcases qa7.mp hd with z|z
  ·exact hr _ (by simp) d z
  ·rw[qa5.mp z];have o:=(qa6.mp i).1;have v:=qa9 (qf3 o) (q.fl _);exact rn1 qP qP qR
 |set _ _ i=>
  intro d hd;rcases qa7.mp hd with z|z
  ·rcases qa7.mp z with z|z<;>exact hr _ (by simp) d z
  ·rw[qa5.mp z];have o:=(qa6.mp i).1;have v:=qa9 (qf3 o) (q.fl _);exact rn1 qP qP qR
 |new _ i=>
   intro d hd;refine(qa7.mp hd).elim (u d) λ z=>?_;rw[qa5.mp z];have o:=J7b i;have v:=q.nm;exact rn2 qP qP qR qR
 |call _ _ _ i=>
   intro d hd;refine(qa7.mp hd).elim (u d) λ z=>?_;rw[qa5.mp z];have o:=J7b i;have v:=q.wo;rw[qb2]at I;exact rn3 qP qP H qR qR
 |elder _ _ _ _ _ _ i=>
   intro d hd;refine(qa4.mp hd).elim (λ z=>by rw[z];exact rn1 qP qP qS) λ z=>(qa7.mp z).elim (u d) λ z=>?_;rw[qa5.mp z];have o:=q.bk _ _ _ i;exact rn2 qP qP qR qR
theorem J4s{own:Option M2}{bs:List (M2×M2)}:(bnd own bs).length<=bs.length+1:=by
 rw[<-ebd_len.1];exact ebd_len.2
theorem J8W{D:HD}{own:Option M2}(v:SmD D){t:Tm}{bs:List (M2×M2)}{o:Nat}{ks:List M2}{r:List PyData}(h:GR D own bs n t ks r o):bs.length+t.size<=100000->o<=100000->∀d∈r,RN d:=by
 refine(PK.gr_ind (P:=λ bs n t ks r o=>bs.length+t.size<=100000->o<=100000->∀d∈r,RN d) (Q:=λ f l bs fs n ps ks kss g o=>bs.length+1+sumS ps<=100000->o<=100000->∀r∈g,∀d∈r,RN d) (λ{bs n f l ps ks kss g x k u y} h w hl i q z=>?_) (λ _ _ r h=>by cases h) (λ{f l bs fs n p ps k ks A kss r g x y} a b i j q z=>?_)).1 h
 ·have B:=(PK.GRs.len h).1;have C:=PK.GRs.rlen h;have E:=w.fl.2;have H:=J4s (own:=own) (bs:=bs);have q:bs.length+(1+sumS ps)<=100000:=q;exact J6I w (i qR qR) v qR qR qR qR
 ·have B:=PK.bsAt_len (f:=f) (l:=l) (bs:=bs) (fs:=fs);have C:=PK.GRs.mono b;have q:bs.length+1+(p.size+sumS ps)<=100000:=q;exact λ r h=>(qa4.mp h).elim (λ e=>by rw[e];exact i qR qR) (j qR qR r)
theorem sm50{c:Cho}(ok:ChOk c):SmD (D50 c):=by
 obtain⟨b,g,p⟩:=P50.len_facts c.mx (tf _) c.bg (tf _) c.cc ok.cc c.or ok.or;refine⟨by show(Z0I c.or).length<=1000;rw[(P50.ord_facts c.or ok.or).2.2.1];decide,λ a=>?_,qa9 g qS,λ e w j h=>?_⟩
 ·show(flT c.od c.yg c.ot a).length<=1000;by_cases h:a∈H3
  ·exact qa9 (P50.field_facts _ ok.od _ ok.yg _ ok.ot a h).2.2 qS
  ·unfold P50.flT;rw[if_neg (λ z=>h (by rw[z];decide+kernel)),if_neg (λ z=>h (by rw[z];decide+kernel)),if_neg (λ z=>h (by rw[z];decide+kernel))];decide
 ·obtain⟨y,_,h⟩:=Option.bind_eq_some_iff.mp h;have:∀(l:List (M2×M2)) x j,P50.ixOf l x=some j->j<l.length:=by
   intro l;induction l with
   |nil=>intro x j h;cases h
   |cons y q n=>
    intro x j h;unfold P50.ixOf at h;split at h
    ·cases h;exact Nat.succ_pos _
    ·obtain⟨i,o,rfl⟩:=qc1.mp h;exact Nat.succ_lt_succ (n _ _ o)
  have:=this _ _ _ h;have b:c.bl.length<=6:=b;lia
theorem NbL.of{k:Nat}:∀{a:List PyData},(∀d∈a,Nb k n d)->NbL k ((n+1)*a.length) a
 |[],_=>NbL.nil
 |d::a,h=>NbL.cons (h d qc2) (NbL.of λ x b=>h x (qc4 _ b)) (by rw[qb2,Nat.mul_succ];lia)
theorem ChG.nb{S:ES}{bs:List (Option M2×Wd)}{bks:List PyData}{m:Nat}(ok:ChOk S.c)(h:ChG S bs bks m)(l:bs.length<=8):∀d∈bks,Nb 3 41000 d:=by
 induction h with
 |nil=>exact λ d h=>by cases h
 |@snoc bs bks m own d b m2 p g v A B C q=>
  rw[qa2]at l;have l:bs.length+1<=8:=l;intro x i;rcases qa7.mp i with y|y
  ·exact q qR x y
  ·rw[qa5.mp y];obtain⟨D,ks,j,_,_⟩:=g.g _ (BsR.refl _);have E:=j.sites;have H:=p.sites.1;have I:=j.rlen;have J:=J4s (own:=own) (bs:=d.params);have hr:=J8W (sm50 ok) j qR qR;have e:∀z∈b++[r0 "back"],RN z:=λ z o=>(qa7.mp o).elim (hr z) λ w=>by rw[qa5.mp w];exact rn0 qP qP
   have K:(b++[r0 "back"]).length<=3401:=by rw[qa2];show _+1<=_;lia
   have L:kMax (b++[r0 "back"])<=1000001:=J2M λ x i=>by
    obtain⟨z,r,u⟩:=qk4.mp i;exact(e z r).2 x u
   unfold blkD;exact(Nb.tup (k:=2) (NbL.cons (a:=0) (Nb.int qR) (NbL.cons (a:=0) (Nb.int qR) (NbL.cons (Nb.tup (NbL.of λ z o=>(e z o).1)) (NbL.nil (n:=0)) (qa0 _)) (qa0 _)) (qa0 _))).mono (qa0 _) qR
inductive J4X(K:X0)(vs:List V)(H:Hp)(Q:VK):Prop
 |mk(a:V0)(ns:List Int)(a1:vs=[.ref a])(a2:SqL K H a (ns.map V.int))(a3:∀H',Q (.bl true) H')
def sp_law(K:X0):Sp:=λ vs H Q _=>J4X K vs H Q
theorem sp_law_ok{K:X0}{H:Hp}{a:V0}{b:List Int}(hl:b.length<=63)(c:SqL K H a (b.map V.int)):sp_law K [.ref a] H (λ v _=>v=.bl true) λ _ _ _=>False:=⟨a,b,rfl,c,λ _=>rfl⟩
theorem C0.bes{K:X0}{H H' B:Hp}{e l:V0}{S:ES}{m:Nat}{xs:List V}(c:C0 K H e B S n m)(s:SX l H H')(i:H l=some (.lst xs))(j:B l=none):C0 K H' e B S n m:=
 ⟨c.st,λ b o h=>s _ _ (nq j h) (c.sm _ _ h),let⟨g,a,b⟩:=c.ev;⟨g,s _ _ (nq i a) a,b⟩⟩
mutual
theorem Z6x:∀t:Tm,t.flat.length=t.size
 | .mk f l ps=>by
  show(Tm.mk f l ps::flatR ps).length=1+sumS ps;rw[qb2,flats_len ps,Nat.add_comm]
theorem flats_len:∀ts:List Tm,(flatR ts).length=sumS ts
 |[]=>rfl
 |t::ts=>by
  show(flatR ts++t.flat).length=t.size+sumS ts;rw[qa2,Z6x t,flats_len ts,Nat.add_comm]
end
theorem Z6v{c:Cho}:∀{e:List Hs}{l:List M2},A2 (HsR c) e l->((e.map bdX).flatten).length=(l.map λ h=>(hof c.mx c.bg c.cc h).length).sum
 |_,_,.nil=>rfl
 |_,_,.cons (a:=X) (b:=x) r t=>by
  rw[qb7,qd5,qa2,Z6v t,qb7,qh6,<-r.ws.len];show(X.words.map _).length+_=_;rw[qa1]
theorem Z9v:∀(l:List Nat)(i:Nat),(l.take i).sum<=l.sum
 |[],i=>by rw[qj9];exact qa0 _
 |x::l,0=>qb0 _
 |x::l,i+1=>by
  have:=Z9v l i;rw[List.take_succ_cons,qh6,qh6];lia
theorem J5q(c:Cho)(h:M2):(Z4J c h).length<=100:=by
 unfold Z4J P50.old P50.yng P50.oth;split
 ·rw[qd0];exact qa9 (qi4 _ _) qS
 split
 ·rw[qd0];exact qa9 (qi4 _ _) qS
 split
 ·rw[qf8];exact qa9 (Nat.sub_le _ _) qS
 ·decide
abbrev Gx(gs:List Hs)(pn:List (M2×M2))(kd:M2)(tm:Tm):Pg:=⟨gs,⟨"main",pn,kd,tm⟩⟩
def WR(d:Wd)(x:P50.Hd):Prop:=d.name=x.w/\d.params=prs x.ps/\d.kind=x.k
inductive LO1(K:X0)(e:V0)(B:Hp)(S:ES)(Hb:Hp)(hl dl:V0)(σ0:List (Option V)->St)(i:Nat)(σ:St)(H':Hp):Prop
 |mk(hvs:_)(gs:_)(dvs:_)(bks:_)(n:_)(m:_)(y4:_)(y5:_)(y6:_)(y7:_)(y8:_)(y9:_)(y10:_)(y11:_)(y12:_)(y13:_)(a1:(∀b o,b≠e->b≠hl->b≠dl->Hb b=some o->H' b=some o))(a2:H' hl=some (.lst hvs))(a3:RTs K H' hvs (gs.map J1c))(a4:A2 (HsR S.c) gs ((Z0I S.c.or).take i))(a5:(∀X∈gs,HsOk X))(a6:H' dl=some (.lst dvs))(a7:RTs K H' dvs bks)(a8:ChG S ((gs.map bdX).flatten) bks m)(a9:C0 K H' e B S n m)(a10:n<=1700*bks.length)(a11:σ=σ0 [y4,y5,y6,y7,y8,y9,y10,y11,y12,y13])
inductive LO2(K:X0)(e:V0)(B:Hp)(S:ES)(Hc:Hp)(dl tl:V0)(gs:List Hs)(h:M2)(σ0:List (Option V)->St)(j:Nat)(σ:St)(H':Hp):Prop
 |mk(tvs:_)(ws:_)(dvs:_)(bks:_)(n:_)(m:_)(y6:_)(y7:_)(y8:_)(y9:_)(y10:_)(y11:_)(y12:_)(y13:_)(a1:(∀b o,b≠e->b≠dl->b≠tl->Hc b=some o->H' b=some o))(a2:H' tl=some (.lst tvs))(a3:RTs K H' tvs (ws.map Z9F))(a4:A2 WR ws ((hof S.c.mx S.c.bg S.c.cc h).take j))(a5:(∀d∈ws,WdOk d))(a6:H' dl=some (.lst dvs))(a7:RTs K H' dvs bks)(a8:ChG S ((gs.map bdX).flatten++ws.map λ w=>(some h,w)) bks m)(a9:C0 K H' e B S n m)(a10:n<=1700*bks.length)(a11:σ=σ0 [y6,y7,y8,y9,y10,y11,y12,y13])
theorem Z5p{ks:List M2}(h:ks.length<=4):(prs ks).length=ks.length:=by
 show(List.zip _ _).length=_;rw[List.length_zip];exact qk0 h
theorem J7V:∀i:Nat,i<4->∃c,atI (Str.ofString "pqrs").cps.toList (i:Int)=some c/\[("p":M2),"q","r","s"][i]?=some (⟨#[c]⟩:M2)
 |0,_=>⟨112,qP,qP⟩
 |1,_=>⟨113,qP,qP⟩
 |2,_=>⟨114,qP,qP⟩
 |3,_=>⟨115,qP,qP⟩
 |i+4,h=>by lia
theorem J4N{ks:List M2}{i:Nat}{k x:M2}(h:ks[i]?=some k)(g:[("p":M2),"q","r","s"][i]?=some x):(prs ks)[i]?=some (x,k):=by
 show(List.zip _ _)[i]?=_;exact List.getElem?_zip_eq_some.mpr ⟨g,h⟩
theorem J4g{H:Hp}{l D:V0}{ks:List M2}{Q:VK}{e:St}(A:H l=some (.lst (ks.map V.str)))(I:H D=none)(J:ks.length<=4)(L:∃r u,e=[r,u])(q:∀H' vs,Same H H'->H' D=some (.lst vs)->RTs K H' vs ((prs ks).map Z1k)->Q (.ref D) H'):Z3g (Ite K l) (Z5C K 2 (Z5W (Z2G 0) (Z5W (Z2G 1) gNil))) Z2Y (tTup (Z3O (tOp rIxS (tC (V.str (Str.ofString "pqrs"))) (Z1P 0)) (Z3O (Z1P 1) tNil))) D Q e (upd H D (.lst [])):=by
 have M:=Z5p J;refine Z1y (n:=ks.length) (λ e=>∃r u,e=[r,u]) (λ i e=>∃k,ks[i]?=some k/\e=[some (.int (i:Int)),some (.str k)]) (λ i=>true) (λ i v H=>∃x,(prs ks)[i]?=some x/\RT K H v (Z1k x)) (λ _ _ _ _ ⟨x,a,b⟩ s=>⟨x,a,RT.sn b s⟩) L I (by rw[sizeLine_eq];lia) (λ i j s z=>?_) (λ j s=>?_) (λ i x e j H2 G z C N h m=>?_) (λ i e h=>?_) (λ i e z h j G C m=>?_) (λ i e z hp h j G C m=>?_) (λ vs H' O R S=>?_)
 ·exact⟨_,.str ks[i],SqL.of (s _ _ A),by rw[qa8,qa3 z];rfl⟩
 ·exact⟨_,SqL.of (s _ _ A),by rw[qa1];exact qa0 _⟩
 ·obtain⟨r,u,rfl⟩:=h;obtain⟨t2,x2,rfl,T,rfl,o⟩:=N;have o:=o _ (SqL.of (C _ _ A));rw[qa8]at o;obtain⟨k,E,rfl⟩:=qc1.mp o;walk_at "r";refine⟨_,SqT.of Z0d,rfl,⟨_,_,rfl,⟨_,_,rfl,?_⟩⟩⟩;exact⟨rfl,m _ _ ⟨k,E,rfl⟩ (Z0r T _)⟩
 ·obtain⟨y,_,rfl⟩:=h;exact⟨_,_,rfl⟩
 ·exact m j (Same.refl _)
 ·obtain⟨k,E,rfl⟩:=h;walk_at "r";obtain⟨c,U,X⟩:=J7V i qR;refine⟨qP,c,U,New.of λ p5 H5 h5 Y Z=>m _ _ Y ⟨_,J4N E X,.tup (SqT.of Z) (.cons (.str _) (.cons (.str _) .nil))⟩⟩
 ·have:=Z9K (g:=Z1k) (Z6K (p:=λ _=>true) (hs:=prs ks) (λ i x o=>rfl) (prs ks).length vs (qa0 _) (by rw[M];exact S));rw[qd1,List.filter_eq_self.mpr λ _ _=>rfl]at this;exact q H' vs O R this
theorem J6t(T:nofun)(O1D:Has P w K mg base 2 "_law_env" ["_law_script"] (J4V K))(O1p:Has P w K mg base 2 "_law_draw" ["_law_env_here"] (J0d K))(O0O:Has P w K mg base 53 "_law_body" ["_law_env_here","_law_own","_law_params","_law_kind"] (J1m K))(O1j:Has P w K mg base 7 "program_of" ["plain"] (Z5V ∅ K))(O0X:Has P w K mg base 19 "compiled" ["program"] (Z3R ∅ K 8)){f:V0}{fd:FuncData}(F:Fun K "law" "law" J0A f fd):FnOk P w K mg base CX0 54 f fd ["_law_script"] (sp_law K):=by
  refine F.ok O0p (λ vs H Q E h=>?_) (λ cdv A outer s H vs Q E hr h=>?_)
  · obtain⟨a,ns,rfl,_⟩:=h;rfl
  obtain⟨a,ns,rfl,sq,q⟩:=h;refine⟨_,(Z0a (qG 1 O0p.nd (qF O1D hr (qI (pvF 0)))) (Z0a (J4t (i:=2) (j:=3) rfl O0p.nd rfl rfl qS rfl rfl (qJ (Z0o Z0R) (Z0o Z0R)) rfl) (Z0a (Z1o PassesOwn.never rfl (Z1b (qB hr 1)) (Z4u (i:=4) O0p.nd rfl (Or.inr rfl)) (Z0a (qG 5 O0p.nd (Z0o Z0R)) (Z0a (Z1o PassesOwn.never rfl (Z1b (Z3A rfl (BlockOk.of (N:=["_law_one","_law_house"]) (nl:=[none,some 4]) (cl:=[("_law_house",s.heap.objs.size+1)]) rfl qP qP rfl (sub1 rfl) (nm:=["_law_house"]) rfl qP rfl (λ i hi j hj=>by
            match i,hi with
            | 0,_=>cases hj
             |1,_=>cases hj;exact⟨_,rfl,rfl,rfl,.inl rfl⟩
            )) (Z1b (qB hr 1)) (λ C fp s H=>(qH 0 (show(["_law_one","_law_house"]:List M2).Nodup by decide+kernel))) (λ C fp s H=>(qM Z0B (qA K 0) (pvF 1))) (λ C fp s H=>(pvF 0)))) (qH 6 O0p.nd) (Z0a (qG 7 O0p.nd (Z0w Z0u rfl T.O0k Z0X (qI (Z1e rfl (BlockOk.plain (N:=["_law_k","_law_kind"]) rfl qP qP qP) (Z5m rfl T.O0t Z1S (qI (qA K 6))) (λ C fp s H=>(show PG _ _ (Z5C K 2 _)from Z0v (n:=2) rfl (Z0e (qH 0 (show(["_law_k","_law_kind"]:List M2).Nodup by decide+kernel)) (Z0e (qH 1 (show(["_law_k","_law_kind"]:List M2).Nodup by decide+kernel)) Z0s)))) (λ C fp s H=>(Z0i (qJ (J0x J1l Z0b (pvF 0) (λ _ _=>rfl)) (pvF 1)))))))) (Z0a (Z0Q (qF O0O hr (Z0q (pvF 1) (qK (pvF 4) (pvF 7) (qA K 6)))) (Z0v (n:=2) rfl (Z0e (qH 8 O0p.nd) (Z0e (qH 9 O0p.nd) Z0s)))) (Z0a (Z0A (Z1B qb5 qd2 qd3 Z0F (pvF 5) (qI (Z0i (Z0q (qA K 6) (qK (pvF 7) (qA K 6) (pvF 8))))))) (Z0c (Z0A (Z1B qb5 qd2 qd3 Z0F (pvF 3) (qI (pvF 9))))))))) (Z0c (Z0A (Z1B qb5 qd2 qd3 Z0F (pvF 2) (qI (Z0i (Z0q (pvF 4) (qK (qD K (Z0o (qJ Z0T Z0b)) (Z0w Z4f rfl T.z_int Z9V (qI (Z0W Z0B (pvF 4) Z0b (Z1R _))))) (Z0w Z0u rfl T.O0k Z0X (qI (qE hr (qB hr 1) (pvF 4)))) (Z0w Z0u rfl T.O0k Z0X (qI (pvF 5))))))))))))) (Z0a (qG 10 O0p.nd (qF O1p hr (qI (pvF 1)))) (Z0a (qG 7 O0p.nd (Z0w Z0u rfl T.O0k Z0X (qI (Z1e rfl (BlockOk.plain (N:=["_law_k"]) rfl qP qP qP) (J1k rfl T.O1M (qI (Z0j Z0C (Z0j Z0E (pvF 10) Z0f) Z0f))) (λ C fp s H=>(qH 0 (show(["_law_k"]:List M2).Nodup by decide+kernel))) (λ C fp s H=>(Z0i (qJ (J0x J1l Z0b (pvF 0) (λ _ _=>rfl)) Z0b))))))) (Z0a (qG 11 O0p.nd (qD K (Z0o (Z0q Z0b (qK Z0b Z0b Z0b))) (Z0j Z0C (Z0j Z0E (pvF 10) Z0f) Z0f))) (Z0a (Z0Q (qF O0O hr (Z0q (pvF 1) (qK Z0T (pvF 7) (pvF 11)))) (Z0v (n:=2) rfl (Z0e (qH 8 O0p.nd) (Z0e (qH 9 O0p.nd) Z0s)))) (Z0a (qG 12 O0p.nd (qF O1j hr (qI (Z0i (qJ (Z0w Z0u rfl T.O0k Z0X (qI (pvF 2))) (Z0i (qK (pvF 7) (pvF 11) (pvF 8)))))))) (Z0a (qG 13 O0p.nd (qF O0X hr (qI (pvF 12)))) (Z0a (Z0t (PW.pt (Z8L (Z4T (Z4G (Z1t (r:=rIsi K) J3q rfl T.O1a Z6n (qJ (pvF 13) (J5X (v:=.ty "list") rfl T.O1b Z6I rfl))))) (Z5A (qM J6r (Z1t (r:=Z5T K) (Z3z hr.gd hr.units) rfl T.O1q Z6L (qI (pvF 13))) (Z1t (r:=Z5T K) (Z3z hr.gd hr.units) rfl T.O1q Z6L (qI (Z0j Z0y (pvF 3) (Z0o (qI (pvF 9)))))))))) (Z0c (Z0h J6q)) Z0n) (Z0a (Z0A (J1E qb5 qm8 qm9 J2E (pvF 13))) (Z0c (Z0h (Z0W Z0B (Z1t (r:=Z5T K) (Z3z hr.gd hr.units) rfl T.O1q Z6L (qI (qF O0X hr (qI (pvF 12))))) (Z1t (r:=Z5T K) (Z3z hr.gd hr.units) rfl T.O1q Z6L (qI (Z0j Z0y (pvF 3) (Z0o (qI (pvF 9)))))) (Z1R _))))))))))))))),?_⟩
  refine J9o λ uz11 huz11 uz10 huz10 uz9 huz9 uz8 huz8 uz7 huz7 uz6 huz6 uz5 huz5 uz4 huz4 uz3 huz3 uz2 huz2 uz1 huz1=>?_;walk_at "r";refine⟨a,ns,rfl,sq,λ e B' S H1 s0 he c1 ofa=>?_⟩;walk_at "n z1";refine New.of λ hl H2 h2 s2 e2=>New.of λ dl H3' h3 s3 e3=>?_;have S3:=s2.trans s3;have c3:=c1.same S3;have ok:=c1.st.ok;have bhl:B' hl=none:=c1.sm.free h2;have bdl:B' dl=none:=(c1.sm.trans s2).free h3;have ndh:dl≠hl:=nq e2 h3;have ehl:=s3 _ _ e2;obtain⟨kvs3,hk3,ev3,get3⟩:=c3.get;have nhe:hl≠e:=nq hk3 ehl;have nde:dl≠e:=nq hk3 e3;obtain⟨f1,f2,f3⟩:=P50.len_facts S.c.mx (tf _) S.c.bg (tf _) S.c.cc ok.cc S.c.or ok.or;obtain⟨o1,o2,o3,o4⟩:=P50.ord_facts S.c.or ok.or;have eho:∀H',Same B' H'->H' S.ho=some (.lst ((Z0I S.c.or).map V.str)):=λ H' s=>s _ _ c1.st.ho;walk_at "n z2";refine⟨_,get3 ev3.ho,_,rfl,⟨_,SqL.of (eho _ c3.sm)⟩,Z1p ((Z0I S.c.or).map V.str) (LO1 K e B' S H3' hl dl λ os=>some (V.ref a)::some (V.ref e)::some (V.ref hl)::some (V.ref dl)::os) ⟨[],[],[],[],0,0,_,_,_,_,_,_,_,_,_,_,(λ b o _ _ _ q=>q),ehl,.nil,.nil,(λ X h=>by cases h),e3,.nil,.nil,c3,qb0 _,rfl⟩ (λ i σ H' _ h=>?_) (λ i y σ H' hy h=>?_) (λ σ H' h=>?_)⟩
  · obtain⟨_,_,_,_,_,_,_,_,_,_,_,_,_,_,_,_,_,_,_,_,_,_,_,_,cc,_⟩:=h;exact SqL.of (eho _ cc.sm)
  · obtain⟨hvs,gs,dvs,bks,n,m,y4,y5,y6,y7,y8,y9,y10,y11,y12,y13,sK,el,rh,ga,gok,ed,rd,ch,cc,nb,rfl⟩:=h;rw[qa8]at hy;obtain⟨h,hh,rfl⟩:=qc1.mp hy;have hm:h∈H3:=o2 h (qb4 hh);obtain⟨kvs,hk,ev,get⟩:=cc.get;obtain⟨hus,hd1,hd2⟩:=c1.st.hd;have lhs:S.c.hs.length<=100:=(show ∀mx∈[true,false],∀bg∈[true,false],∀cc∈[0,1,2],(heads mx bg cc).length<=100 by decide+kernel) _ (tf _) _ (tf _) _ ok.cc;walk_at "s 3 y";refine New.of λ tl H4 h4 s4 e4=>?_;have cc4:=cc.same s4;obtain⟨kvs4,hk4,ev4,get4⟩:=cc4.get;have ntl:tl≠dl:=nq ed h4;have nth:tl≠hl:=nq el h4;have nte:tl≠e:=nq hk h4;have btl:B' tl=none:=cc.sm.free h4;walk_at "n y1";refine⟨_,get4 ev4.hd,_,rfl,⟨_,SqL.of (cc4.sm _ _ hd1)⟩,λ D hD=>J4j (SqL.of (cc4.sm _ _ hd1)) (hd2.mono λ _ _ q=>q.same cc4.sm) hd2 hD lhs ⟨none,rfl⟩ λ H5 hws s5 e5 a5=>⟨D,rfl,⟨_,SqL.of e5⟩,?_⟩⟩;have S5:=s4.trans s5;have cc5:=cc.same S5;have ed5:=S5 _ _ ed;have el5:=S5 _ _ el;have nDd:D≠dl:=nq (s4 _ _ ed) hD;have nDh:D≠hl:=nq (s4 _ _ el) hD;have nDe:D≠e:=nq (s4 _ _ hk) hD;have nDt:D≠tl:=nq e4 hD;obtain⟨kvs5,hk5,_,_⟩:=cc5.get;have lbd:∀(ws:List Wd) j,A2 WR ws ((hof S.c.mx S.c.bg S.c.cc h).take j)->((gs.map bdX).flatten).length+ws.length<=6:=by
      intro ws j ha;have h1:=Z6v ga;have h2:=ha.len;have h3:=Z9v ((Z0I S.c.or).map λ h=>(hof S.c.mx S.c.bg S.c.cc h).length) (i+1);rw[<-qj7,qd4,hh,qb6,qk9]at h3;have h4:([h].map λ h=>(hof S.c.mx S.c.bg S.c.cc h).length).sum=(hof S.c.mx S.c.bg S.c.cc h).length:=by simp
      have h3:_+([h].map λ h=>(hof S.c.mx S.c.bg S.c.cc h).length).sum<=_:=h3;rw[h4]at h3;rw[qd0]at h2;lia
    refine Z1p hws (LO2 K e B' S H5 dl tl gs h λ os=>some (V.ref a)::some (V.ref e)::some (V.ref hl)::some (V.ref dl)::some (V.str h)::some (V.ref tl)::os) ⟨[],[],dvs,bks,n,m,_,_,_,_,_,_,_,_,(λ b o _ _ _ q=>q),s5 _ _ e4,.nil,.nil,(λ d h=>by cases h),ed5,rd.same S5,(by rw[qi7,qc8];exact ch),cc5,nb,rfl⟩ (λ j σ H6 _ h=>?_) (λ j y σ H6 hy h=>?_) (λ σ H6 h=>?_)
    · obtain⟨_,_,_,_,_,_,_,_,_,_,_,_,_,_,sL,_⟩:=h;exact SqL.of (sL _ _ nDe nDd nDt e5)
    · obtain⟨tvs,ws,dvs6,bks6,n6,m6,y6,y7,y8,y9,y10,y11,y12,y13,sL,et6,rt6,wa6,wok,ed6,rd6,ch6,c6,nb6,rfl⟩:=h;obtain⟨x,hx,t,pl,rfl,ht,hpl⟩:=a5.at hy;have ht6:=c6.sm _ _ ht;have hpl6:=c6.sm _ _ hpl;have xm:x∈hof S.c.mx S.c.bg S.c.cc h:=qb4 hx;have xh:x.h=h:=of_decide_eq_true (qe5.mp xm).2;obtain⟨q1,q2,q3,q4,_⟩:=P50.head_facts _ (tf _) _ (tf _) _ ok.cc x (qe5.mp xm).1;have lb6:=lbd ws j wa6;have lb7:=ch6.sites.2;rw[qa2,qa1]at lb7;walk_at "s 4 w";refine⟨_,SqT.of ht6,_,rfl,_,rfl,⟨_,SqL.of hpl6⟩,λ D2 hD2=>J4g hpl6 hD2 q4 ⟨none,none,rfl⟩ λ H7 vs7 s7 e7 r7=>⟨D2,rfl,_,.inl ⟨SqL.of e7,λ p8 h8=>?_⟩⟩⟩;have s8:=Z0r h8 (.tup vs7);have e8:upd H7 p8 (.tup vs7) p8=some (.tup vs7):=Z0d;generalize upd H7 p8 (.tup vs7)=H8 at*;have S8:=s7.trans s8;have c8:=c6.same S8;have r8:RT K H8 (.ref p8) (Z2l (prs x.ps)):=.tup (SqT.of e8) (r7.same s8);walk_at "n w1";refine⟨_,SqT.of (S8 _ _ ht6),_,rfl,?_⟩;refine⟨e,p8,B',S,some h,n6,m6,prs x.ps,x.k,rfl,c8,r8,λ y hy=>by cases hy;exact hm,λ p hp=>?_,?_,q3,qR,λ a9 tv bv tm rows m9 H9 sx9 c9 e9 rt9 rb9 gt dp sz=>?_⟩
      · obtain⟨z1,z2⟩:=qg8 (show(p.1,p.2)∈List.zip _ _ from hp);exact⟨(show ∀x∈[("p":M2),"q","r","s"],x∈nms5 by decide+kernel) _ z1,q2 _ z2⟩
      · rw[Z5p q4];exact q4
      refine⟨a9,rfl,_,SqT.of e9,rfl,⟨_,_,rfl,⟨_,_,rfl,rfl,?_⟩⟩⟩;have kt9:Kt H8 H9:=by
        obtain⟨kv,hkv,_,_⟩:=c8.get;exact SX.ktd sx9 hkv
      have et9:=sx9 _ _ nte (S8 _ _ et6);have ed9:=sx9 _ _ nde (S8 _ _ ed6);have ht9:=c9.sm _ _ ht;have rts9:=(rt6.same S8).kt kt9;have rds9:=(rd6.same S8).kt kt9;have r9:=r8.kt kt9;have ltv:tvs.length<=6:=by rw[rt6.length,qa1];lia
      have ldv:dvs6.length<=6:=by rw[rd6.length];lia
      walk_at "n w2";refine⟨.inl ⟨rfl,_,SqL.of et9⟩,_,SqT.of ht9,_,rfl,_,SqT.of ht9,_,rfl,New.of λ p10 H10 h10 s10 e10=>⟨tvs,s10 _ _ et9,ltS ltv,?_⟩⟩;have et10:=s10 _ _ et9;have ed10:=s10 _ _ ed9;have sx11:SX tl H10 (upd H10 tl (.lst (tvs++[V.ref p10]))):=SX.put _;have e11:upd H10 tl (.lst (tvs++[V.ref p10])) tl=some (.lst (tvs++[V.ref p10])):=Z0d;have k11:=SX.kpl sx11 et10;have c11:=(c9.same s10).bes sx11 et10 btl;have ed11:=sx11 _ _ ntl.symm ed10;generalize upd H10 tl (.lst (tvs++[V.ref p10]))=H11 at*;walk_at "n w3";refine⟨.inl ⟨rfl,_,SqL.of ed11⟩,dvs6,ed11,ltS ldv,?_⟩;have sx12:SX dl H11 (upd H11 dl (.lst (dvs6++[bv]))):=SX.put _;have e12:upd H11 dl (.lst (dvs6++[bv])) dl=some (.lst (dvs6++[bv])):=Z0d;have k12:=SX.kpl sx12 ed11;have c12:=c11.bes sx12 ed11 bdl;generalize upd H11 dl (.lst (dvs6++[bv]))=H12 at*;have K12:∀{v d},RT K H10 v d->RT K H12 v d:=λ h=>(h.kp k11).kp k12;have et:(hof S.c.mx S.c.bg S.c.cc h).take (j+1)=(hof S.c.mx S.c.bg S.c.cc h).take j++[x]:=by
        rw[qd4];exact congrArg _ (by rw[show(hof S.c.mx S.c.bg S.c.cc h)[j]?=some x from hx];rfl)
      refine⟨tvs++[.ref p10],ws++[⟨x.w,prs x.ps,x.k,tm⟩],dvs6++[bv],bks6++[blkD (some h) (prs x.ps) rows],n6+tm.size,m9,_,_,_,_,_,_,_,_,λ b o n1 n2 n3 q=>sx12 _ _ n2 (sx11 _ _ n3 (s10 _ _ (sx9 _ _ n1 (S8 _ _ (sL _ _ n1 n2 n3 q))))),sx12 _ _ ntl e11,?_,?_,λ d hd=>?_,e12,?_,?_,c12,?_,rfl⟩
      · rw[qb6];exact RTs.app (((rts9.same s10).kp k11).kp k12) (.cons (K12 (.tup (SqT.of e10) (.cons (.str _) (.cons (r9.same s10) (.cons (.str _) (.cons (rt9.same s10) .nil)))))) .nil)
      · rw[et];exact A2.snoc wa6 ⟨rfl,rfl,rfl⟩
      · rcases qa7.mp hd with y|y
        · exact wok d y
        · rw[qa5.mp y];exact⟨gt.ok,by show tm.flat.length<=_;rw[Z6x];lia,by show(prs x.ps).length<=_;rw[Z5p q4];lia⟩
      · exact RTs.app (((rds9.same s10).kp k11).kp k12) (.cons (K12 (rb9.same s10)) .nil)
      · rw[qb6,<-qb9];exact .snoc (d:=⟨x.w,prs x.ps,x.k,tm⟩) ch6 gt (by show(prs x.ps).length<=4;rw[Z5p q4];exact q4) dp sz q3
      · rw[qa2];show _<=1700*(_+1);lia
    · obtain⟨tvs,ws,dvs6,bks6,n6,m6,y6,y7,y8,y9,y10,y11,y12,y13,sL,et6,rt6,wa6,wok,ed6,rd6,ch6,c6,nb6,rfl⟩:=h;show uy2 _ _ _;have lhw:hws.length=(hof S.c.mx S.c.bg S.c.cc h).length:=a5.len;rw[lhw,qd1]at wa6;have el6:=sL _ _ nhe ndh.symm nth.symm el5;obtain⟨kvs6,hk6,ev6,get6⟩:=c6.get;obtain⟨W,kvo,ko1,ko2⟩:=ofa;obtain⟨fl,kf1,_,fus,kf2,kf3⟩:=ko2 h hm;have ltv:tvs.length<=6:=by
        have:=lbd ws _ (by rw[qd1];exact wa6);rw[rt6.length,qa1];lia
      have lhv:hvs.length<=3:=by
        rw[rh.length,qa1,ga.len,qd0,o3];lia
      walk_at "n y2";refine⟨.inl ⟨rfl,_,SqL.of el6⟩,New.of λ p7 H7 h7 s7 e7=>.inr ?_⟩;obtain⟨er,her,ael⟩:∃er:Option M2,er=(if h="bb" then some ("aa":M2)else none:Option M2)/\atI [V.non,V.str (Str.ofString "aa")] (if h=Str.ofString "bb" then 1 else 0)=some (oS er):=by
        by_cases y:h="bb"
        · exact⟨some "aa",by rw[if_pos y],by rw[if_pos y];rfl⟩
        · exact⟨none,by rw[if_neg y],by rw[if_neg y];rfl⟩
      have c7:=c6.same s7;refine⟨_,SqL.of e7,_,ael,_,.inl ⟨kvs6,.inr "own_fields",.inl (s7 _ _ hk6),rfl,ev6.of.symm⟩,_,rfl,_,.inl ⟨kvo,.inr h,.inl (c7.sm _ _ ko1),rfl,kf1.symm⟩,fl,rfl,fus,.inl ⟨SqL.of (c7.sm _ _ kf2),λ p8 h8=>?_⟩⟩;have s8:=Z0r h8 (.tup fus);have e8:upd H7 p8 (.tup fus) p8=some (.tup fus):=Z0d;generalize upd H7 p8 (.tup fus)=H8 at*;refine⟨tvs,.inl ⟨SqL.of ((s7.trans s8) _ _ et6),λ p9 h9=>?_⟩⟩;have s9:=Z0r h9 (.tup tvs);have e9:upd H8 p9 (.tup tvs) p9=some (.tup tvs):=Z0d;generalize upd H8 p9 (.tup tvs)=H9 at*;refine New.of λ p10 H10 h10 s10 e10=>?_;have S10:=s7.trans (s8.trans (s9.trans s10));have el10:=S10 _ _ el6;refine⟨hvs,el10,ltS lhv,?_⟩;have sx11:SX hl H10 (upd H10 hl (.lst (hvs++[V.ref p10]))):=SX.put _;have e11:upd H10 hl (.lst (hvs++[V.ref p10])) hl=some (.lst (hvs++[V.ref p10])):=Z0d;have k11:=SX.kpl sx11 el10;have c11:=(c6.same S10).bes sx11 el10 bhl;generalize upd H10 hl (.lst (hvs++[V.ref p10]))=H11 at*;have kt6:Kt H5 H6:=⟨λ b xs q=>sL _ _ (nq hk5 q) (nq ed5 q) (nq (s5 _ _ e4) q) q,λ b o xs q=>sL _ _ (nq hk5 q) (nq ed5 q) (nq (s5 _ _ e4) q) q⟩;refine⟨hvs++[.ref p10],gs++[⟨h,er,Z4J S.c h,ws⟩],dvs6,bks6,n6,m6,_,_,_,_,_,_,_,_,_,_,λ b o n1 n2 n3 q=>sx11 _ _ n2 (S10 _ _ (sL _ _ n1 n3 (λ y=>by rw[y]at q n1 n2 n3;rw[sK _ _ n1 n2 n3 q]at h4;cases h4) (S5 _ _ (sK _ _ n1 n2 n3 q)))),e11,?_,?_,λ X hX=>?_,sx11 _ _ ndh (S10 _ _ ed6),(rd6.same S10).kp k11,?_,c11,nb6,rfl⟩
      · rw[qb6];refine RTs.app (((((rh.same S5).kt kt6).same S10).kp k11)) (.cons (RT.kp k11 (.tup (SqT.of e10) (.cons (.str _) (.cons ?_ (.cons ?_ (.cons ?_ .nil)))))) .nil)
        · cases er with
          |none=>exact .non
          |some x=>exact .str x
        · exact .tup (SqT.of ((s9.trans s10) _ _ e8)) ((kf3.same c7.sm).same (s8.trans (s9.trans s10)))
        · exact .tup (SqT.of (s10 _ _ e9)) (rt6.same S10)
      · rw[qd4,hh];exact A2.snoc ga ⟨rfl,her,rfl,wa6⟩
      · rcases qa7.mp hX with y|y
        · exact gok X y
        · rw[qa5.mp y];refine⟨wok,?_,?_⟩
          · show(Z4J S.c h).length<=100;exact J5q _ _
          · show ws.length<=100;have:=rt6.length;rw[qa1]at this;lia
      · rw[qb6,qh8];show ChG S (_++[bdX ⟨h,er,Z4J S.c h,ws⟩].flatten) bks6 m6;rw[show[bdX ⟨h,er,Z4J S.c h,ws⟩].flatten=ws.map λ w=>(some h,w)by simp[bdX]];exact ch6
  · obtain⟨hvs,gs,dvs,bks,n,m,y4,y5,y6,y7,y8,y9,y10,y11,y12,y13,sK,el,rh,ga,gok,ed,rd,ch,cc,nb,rfl⟩:=h;rw[qa1,qd1]at ga;have lbs:((gs.map bdX).flatten).length<=6:=by rw[Z6v ga];exact f3
    have lbk:=ch.sites.2;show uz3 _ _ _;walk_at "n z3";refine⟨e,B',S,n,m,rfl,cc,qR,λ r H4 sx4 c4=>?_⟩;obtain⟨kvsP,hkP,_,_⟩:=cc.get;have kt4:Kt H' H4:=SX.ktd sx4 hkP;obtain⟨k,hk,k4⟩:∃k:Nat,(r:Int)/4%5=(k:Int)/\k<=4:=⟨r/4%5,qR,qR⟩;have lrp:(qb8 k ("number":M2)).length=k:=ql8;have lpr:=Z5p (ks:=qb8 k ("number":M2)) qR;walk_at "n z4";rw[hk,qk5];refine⟨qR,qR,λ D hD=>J2N none [] (λ j v H=>∃x,(prs (qb8 k ("number":M2)))[j]?=some x/\RT K H v (Z1k x)) (λ _ _ _ _ ⟨x,a,b⟩ s=>⟨x,a,RT.sn b s⟩) rfl hD (by rw[sizeLine_eq];lia) (λ i hi H1 K' s1 kk=>?_) (λ vs H5 s5 e5 l5 r5=>⟨D,rfl,_,.inl ⟨SqL.of e5,λ p6 h6=>?_⟩⟩)⟩
    · walk_at "r";obtain⟨c,c1,c2⟩:=J7V i qR;exact⟨qP,c,c1,New.of λ p5 H5 h5 s5 e5=>kk _ _ s5 ⟨_,J4N (List.getElem?_replicate_of_lt hi) c2,.tup (SqT.of e5) (.cons (.str _) (.cons (.str _) .nil))⟩⟩
    have ra:RTs K H5 vs ((prs (qb8 k ("number":M2))).map Z1k):=Z9K (A2.of (by rw[lpr,lrp];exact l5) λ j v hv=>r5 j v hv);have s6:=Z0r h6 (.tup vs);have e6:upd H5 p6 (.tup vs) p6=some (.tup vs):=Z0d;generalize upd H5 p6 (.tup vs)=H6 at*;have S6:=s5.trans s6;have r6:RT K H6 (.ref p6) (Z2l (prs (qb8 k ("number":M2)))):=.tup (SqT.of e6) (ra.same s6);obtain⟨kd,hkd,akd⟩:=pkS ["number","truth","aa","cc"] (n:=4) rfl qS ((r:Int)/20);have kd5:kd∈K5:=(show ∀x∈[("number":M2),"truth","aa","cc"],x∈K5 by decide+kernel) kd hkd;walk_at "n z5";refine New.of λ p7 H7 h7 s7 e7=>⟨_,SqL.of e7,_,akd,?_⟩;have S7:=S6.trans s7;have c7:=c4.same S7;have pk5:∀p∈prs (qb8 k ("number":M2)),p.1∈nms5/\p.2∈K5:=λ p hp=>by
      obtain⟨z1,z2⟩:=qg8 (show(p.1,p.2)∈List.zip _ _ from hp);refine⟨(show ∀x∈[("p":M2),"q","r","s"],x∈nms5 by decide+kernel) _ z1,?_⟩;rw[List.eq_of_mem_replicate z2];decide+kernel
    have lpk:(prs (qb8 k ("number":M2))).length<=4:=by lia
    generalize prs (qb8 k ("number":M2))=pn at*;walk_at "n z6";refine⟨e,p6,B',S,none,n+1,m,pn,kd,rfl,c7,r6.same s7,(λ y hy=>by cases hy),pk5,lpk,kd5,qR,λ a8 tv bv tm rows m8 H8 sx8 c8 e8 rt8 rb8 gt dp sz=>?_⟩;refine⟨a8,rfl,_,SqT.of e8,rfl,⟨_,_,rfl,⟨_,_,rfl,rfl,?_⟩⟩⟩;obtain⟨kvs7,hk7,_,_⟩:=c7.get;have kt8:Kt H7 H8:=SX.ktd sx8 hk7;have el8:=sx8 _ _ nhe (S7 _ _ (sx4 _ _ nhe el));have ed8:=sx8 _ _ nde (S7 _ _ (sx4 _ _ nde ed));have rh8:=((rh.kt kt4).same S7).kt kt8;have rd8:=((rd.kt kt4).same S7).kt kt8;have r8:=(r6.same s7).kt kt8;have chG:ChG S (bds (Gx gs pn kd tm)) (bks++[blkD none (pn) rows]) m8:=.snoc (d:=(Gx gs pn kd tm).main) ch gt lpk dp sz kd5;have gof:GOf S.c (Gx gs pn kd tm):=ga;have lgs:gs.length=3:=by rw[ga.len,o3]
    have gk:GOk (Gx gs pn kd tm):=⟨by rw[gof.names];exact o4,gok⟩;have lall:(bds (Gx gs pn kd tm)).length<=7:=by
      show((gs.map bdX).flatten++[_]).length<=7;rw[qa2];show _+1<=7;lia
    have hnb:=chG.nb ok qR;have hst:=chG.sites;obtain⟨kf,kf1,kf2⟩:=J9K ok gof rfl chG;have hsp:∀pp Hx,PgO K ∅ Hx pp (Gx gs pn kd tm)->∀Q',(∀l xs H',Hx l=none->Same Hx H'->H' l=some (.lst xs)->RTs K H' xs (bks++[blkD none (pn) rows])->Q' (.ref l) H')->Z3R ∅ K 8 [pp] Hx Q' E0:=λ pp Hx hp Q' hq=>⟨pp,_,D50 S.c,kf,_,m8,rfl,hp,gk,by show gs.length<=12;lia,J9N ok gof,kf1,kf2,qR,hq⟩;have hbD:Nb 4 400000 (.list (bks++[blkD none (pn) rows])):=(Nb.lst (NbL.of hnb)).mono (qa0 _) qR;have wm:WdOk (Gx gs pn kd tm).main:=⟨gt.ok,by show tm.flat.length<=_;rw[Z6x];lia,qa9 lpk qS⟩;walk_at "n z7";refine⟨hvs,.inl ⟨SqL.of el8,λ p9 h9=>?_⟩⟩;have s9:=Z0r h9 (.tup hvs);have e9:upd H8 p9 (.tup hvs) p9=some (.tup hvs):=Z0d;generalize upd H8 p9 (.tup hvs)=H9 at*;refine New.of λ p10 H10 h10 s10 e10=>New.of λ p11 H11 h11 s11 e11=>?_;have S11:=s9.trans (s10.trans s11);refine⟨.ref p11,(Gx gs pn kd tm),rfl,?_,gok,by show gs.length<=100;lia,wm,rfl,λ u H12 s12 pg=>?_⟩
    · exact .tup (SqT.of e11) (.cons (.tup (SqT.of ((s10.trans s11) _ _ e9)) (rh8.same S11)) (.cons (.tup (SqT.of (s11 _ _ e10)) (.cons (r8.same S11) (.cons (.str _) (.cons (rt8.same S11) .nil)))) .nil))
    have S12:=S11.trans s12;have rd12:=rd8.same S12;have ed12:=S12 _ _ ed8;have rb12:=rb8.same S12;have rda:RTs K H12 (dvs++[bv]) (bks++[blkD none (pn) rows]):=RTs.app rd12 (.cons rb12 .nil);have ldv:dvs.length<=6:=by rw[rd12.length];lia
    have lb2:1<=(bks++[blkD none (pn) rows]).length:=by rw[qa2];exact Nat.le_add_left _ _
    generalize bks++[blkD none (pn) rows]=bks2 at*;walk_at "n z8";refine hsp u H12 pg _ λ l xs H13 hl13 s13 e13 r13=>?_;obtain⟨w1,w2,w3,w4⟩:=hbD.rp qS qS;have nld:dl≠l:=λ y=>by rw[<-y,ed12]at hl13;cases hl13
    walk_at "n z9";refine J5r e13 ⟨true,rfl,ite2 (λ z=>by cases z) λ _=>⟨_,.lst (SqL.of e13) r13.rd,w1,w2,w3,w4,New.of λ p14 H14 h14 s14 e14=>⟨dvs,(s13.trans s14) _ _ ed12,_,e14,leS ldv,New.of λ p15 H15 h15 s15 e15=>⟨_,.lst (SqL.of e15) (rda.same (s13.trans (s14.trans s15))).rd,w1,w2,w3,w4,ite2 (λ z=>absurd rfl z) λ _=>?_⟩⟩⟩⟩;have S15:=s13.trans (s14.trans s15);have e13':=(s14.trans s15) _ _ e13;have lxs:xs.length=bks2.length:=r13.length;walk_at "n z10";refine⟨.inl ⟨rfl,_,SqL.of e13'⟩,xs,e13',xs[xs.length-1]'(by lia),qa3 qR,?_⟩;have sx16:SX l H15 (upd H15 l (.lst xs.dropLast)):=SX.put _;have k16:=SX.kpl sx16 e13';generalize upd H15 l (.lst xs.dropLast)=H16 at*;have pg16:=PgO.kp' (pg.same S15) k16;have ed16:=sx16 _ _ nld (S15 _ _ ed12);have rda16:=(rda.same S15).kp k16;walk_at "n z11";refine hsp u H16 pg16 _ λ l2 xs2 H17 hl17 s17 e17 r17=>⟨l2,rfl,_,.lst (SqL.of e17) r17.rd,w1,w2,w3,w4,New.of λ p18 H18 h18 s18 e18=>⟨dvs,(s17.trans s18) _ _ ed16,_,e18,leS ldv,New.of λ p19 H19 h19 s19 e19=>⟨_,.lst (SqL.of e19) (rda16.same (s17.trans (s18.trans s19))).rd,w1,w2,w3,w4,?_⟩⟩⟩;rw[decide_eq_true (rfl:(PyData.list bks2).shown=(PyData.list bks2).shown)];exact q H19
theorem ok_law(T:nofun){f:V0}{S:FuncData}(F:Fun K "law" "law" J0A f S):FnOk P w K mg base CX0 54 f S ["_law_script"] (sp_law K):=by
 have R:=J5c (P:=P) (w:=w) (base:=base) T;have i:=J3V (P:=P) (w:=w) (base:=base) T;have r:=J3j (P:=P) (w:=w) (base:=base) T;have o:=J0Y (P:=P) (w:=w) (base:=base) T;have c:=J3Y (P:=P) (w:=w) (base:=base) T;have a:=J1x (P:=P) (w:=w) (base:=base) T;have A:=J0T T i r (J2v T i) (J4n T (J3A T) o (J2P T) c);have j:=J3U (P:=P) (w:=w) (base:=base) T;have m:=J5w (B:=λ _=>none) (Cs:=Cl) (Cq:=Cl) (Ck:=C9) T A (J3e T j);have u:=J3K T m (J4o T j);have p:=J0O T m u (J4m T);have v:=J3N (P:=P) (w:=w) (base:=base) (B:=λ _=>none) (Cs:=Cl) (Cq:=Cl) (Ck:=C9) T;have b:=J2C (P:=P) (w:=w) (base:=base) (B:=λ _=>none) (Cs:=Cl) (Cq:=Cl) (Ck:=C9) T;have h:=J1j T b;have x:=J1o T h;have n:=J2S T b;have C:=J5b T (J0K T n);have D:=J0Z (P:=P) (w:=w) (base:=base) (B:=λ _=>none) (Cs:=Cl) (Cq:=Cl) (Ck:=C9) T;have O:=J1v (P:=P) (w:=w) (base:=base) (B:=λ _=>none) (Cs:=Cl) (Cq:=Cl) (Ck:=C9) T;have Q:=J0W (P:=P) (w:=w) (base:=base) (B:=λ _=>none) (Cs:=Cl) (Cq:=Cl) (Ck:=C9) T;have E:=J2G T n;have y:=J0M (P:=P) (w:=w) (base:=base) T;have e:=J5M T y b;have L:=J0t T y e b;have G:=J0B (P:=P) (w:=w) (base:=base) T;have g:=J6c (P:=P) (w:=w) (base:=base) T;have q:=J1Z T G e;have M:=J5j T g (J0y T y g) (J2A T L g) q h (Z7B T y g h x) e (Z8U T y g n C q);have H:=Z7l T (J2a T) M a 8;have I:=J0C T v (J7S T C G e) (J3l T H e);have N:=J1e T a (Z8T T) D x E;have J:=Z6Y T a (J2z T a c) (J1f T) (J1B T) N 8;have z:=Z8A T (J3W T v Q O) (J5k T I (J2Q T J (J3t T)));exact J6t T (J7k T R) (J3F T R) (J5T T (J6g T (J5R T R) 7)) p z F
end K50
end
end
open PySem PySem.W PyProof.Rows
set_option maxRecDepth 100000 in
set_option maxHeartbeats 0 in
theorem PySem.Challenge.cw_elderhouse_k50_rows_of_terms_holds : PySem.Challenge.rw_elderhouse_k50_rows_of_terms.Holds := by
 w_on
 refine holds_law K50.ws0 λ said=>?_
 refine holds_open (q:=K50.qv) (loose:=["SIGN_ROWS"]) (Xt:=λ s=>xlAt K50.qv [] s&&recOk (RowW.records K50.rv) s) (XP:=XL K50.qv []) (Yf:=Hook.obs (kHook K50.KK K50.KA K50.ka_eq)) (Ya:=Hook.val (kHook K50.KK K50.KA K50.ka_eq)) (YP:=Hook.says (kHook K50.KK K50.KA K50.ka_eq)) (N:=8258) K50.left (Hook.of (kHook K50.KK K50.KA K50.ka_eq)) (Hook.keeps (kHook K50.KK K50.KA K50.ka_eq)) (λ s e=>xl_of s (qj4.mp e).1) XL.keeps (by rfl) (by rfl) (by rfl) (λ s e=>recFacts_of (qj4.mp e).2) (by rfl) said qP ⟨rfl,rfl,rfl,rfl,rfl,qP⟩ ?hw ?hc
 case hw=>w_witness2
 k_fill
 refine L2.J3x (l:=rw0) (n:=63) (k:=54) (x:="_law_script") (CX:=L2.CX0) (sp:=K50.sp_law) rfl qQ rfl ⟨rfl,qQ,qQ,rfl⟩ (λ w h Y=>W.kIn_of Y) ?F ?S (λ _ _ _ _ z=>z)
 case F=>
  intro w mg fa h KX G hmg
  have T:∃Cl C9 Ct Cw Ch Cp D9 Uh9,K50.Txt (rw0.prog) w (L2.KOf KX) mg Cl C9 Ct Cw Ch Cp D9 Uh9:=by
   dsimp only[L2.KOf]
   refine' ⟨_,_,_,_,_,_,_,_,K50.Txt.mk (W.mg_none_of KX G ?x0) (W.mg_none_of KX G ?x1) (W.mg_none_of KX G ?x2) (W.mg_none_of KX G ?x3) (W.mg_none_of KX G ?x4) (W.mg_none_of KX G ?x5) (W.mg_none_of KX G ?x6) (W.mg_none_of KX G ?x7) (W.mg_none_of KX G ?x8) (W.mg_none_of KX G ?x9) (W.mg_none_of KX G ?x10) (W.mg_none_of KX G ?x11) (W.mg_none_of KX G ?x12) (W.mg_none_of KX G ?x13) (L2.J1p KX G ?x14) (L2.J4q ?x15 ?x16 ?x17 ?x18 qQ ?x19) (L2.J1p KX G ?x20) (L2.J5t ?x21 ?x22 ?x23 ?sz_NO_HOUSES ?x24) (L2.Z0P KX G ?x25 ?x26 ?x27 ?x28) (L2.Z0P KX G ?x29 ?x30 ?x31 ?x32) (L2.Z0P KX G ?x33 ?x34 ?x35 ?x36) (L2.Z0P KX G ?x37 ?x38 ?x39 ?x40) (L2.Z0P KX G ?x41 ?x42 ?x43 ?x44) (L2.Z0P KX G ?x45 ?x46 ?x47 ?x48) (L2.Z0P KX G ?x49 ?x50 ?x51 ?x52) (L2.Z0P KX G ?x53 ?x54 ?x55 ?x56) (L2.Z0P KX G ?x57 ?x58 ?x59 ?x60) (L2.Z0P KX G ?x61 ?x62 ?x63 ?x64) (L2.Z0P KX G ?x65 ?x66 ?x67 ?x68) (L2.Z0P KX G ?x69 ?x70 ?x71 ?x72) (L2.Z0P KX G ?x73 ?x74 ?x75 ?x76) (L2.Z0P KX G ?x77 ?x78 ?x79 ?x80) (L2.Z0P KX G ?x81 ?x82 ?x83 ?x84) (L2.Z0P KX G ?x85 ?x86 ?x87 ?x88) (L2.Z0P KX G ?x89 ?x90 ?x91 ?x92) (L2.Z0P KX G ?x93 ?x94 ?x95 ?x96) (L2.Z0P KX G ?x97 ?x98 ?x99 ?x100) (L2.Z0P KX G ?x101 ?x102 ?x103 ?x104) (L2.Z0P KX G ?x105 ?x106 ?x107 ?x108) (L2.Z0P KX G ?x109 ?x110 ?x111 ?x112) (L2.Z0P KX G ?x113 ?x114 ?x115 ?x116) (L2.Z0P KX G ?x117 ?x118 ?x119 ?x120) (L2.Z0P KX G ?x121 ?x122 ?x123 ?x124) (L2.Z0P KX G ?x125 ?x126 ?x127 ?x128) (L2.Z0P KX G ?x129 ?x130 ?x131 ?x132) (L2.Z0P KX G ?x133 ?x134 ?x135 ?x136) (L2.Z0P KX G ?x137 ?x138 ?x139 ?x140) (L2.Z0P KX G ?x141 ?x142 ?x143 ?x144) (L2.Z0P KX G ?x145 ?x146 ?x147 ?x148) (L2.Z0P KX G ?x149 ?x150 ?x151 ?x152) (L2.Z0P KX G ?x153 ?x154 ?x155 ?x156) (L2.Z0P KX G ?x157 ?x158 ?x159 ?x160) (L2.Z0P KX G ?x161 ?x162 ?x163 ?x164) (L2.Z0P KX G ?x165 ?x166 ?x167 ?x168) (L2.Z0P KX G ?x169 ?x170 ?x171 ?x172) (L2.Z0P KX G ?x173 ?x174 ?x175 ?x176) (L2.Z0P KX G ?x177 ?x178 ?x179 ?x180) (L2.Z0P KX G ?x181 ?x182 ?x183 ?x184) (L2.Z0P KX G ?x185 ?x186 ?x187 ?x188) (L2.Z0P KX G ?x189 ?x190 ?x191 ?x192) (L2.Z0P KX G ?x193 ?x194 ?x195 ?x196) (L2.Z0P KX G ?x197 ?x198 ?x199 ?x200) (L2.Z0P KX G ?x201 ?x202 ?x203 ?x204) (L2.Z0P KX G ?x205 ?x206 ?x207 ?x208) (L2.Z0P KX G ?x209 ?x210 ?x211 ?x212) (L2.Z6c KX G ?x213 ?pg_Hall ?hd_Hall ?po_Hall ?sa_Hall ?mk_Hall ?kp_Hall) (L2.Z0x ?x214) (L2.Z0x ?x215) (L2.Z6c KX G ?x216 ?pg_Maker ?hd_Maker ?po_Maker ?sa_Maker ?mk_Maker ?kp_Maker) (L2.Z0x ?x217) (L2.Z0x ?x218) (L2.Z0x ?x219) (L2.Z0x ?x220) (L2.Z0x ?x221) (L2.Z6c KX G ?x222 ?pg_Term ?hd_Term ?po_Term ?sa_Term ?mk_Term ?kp_Term) (L2.Z0x ?x223) (L2.Z0x ?x224) (L2.Z0x ?x225) (L2.Z0x ?x226) (L2.Z0x ?x227) (L2.Z0x ?x228) (L2.Z6c KX G ?x229 ?pg_Word ?hd_Word ?po_Word ?sa_Word ?mk_Word ?kp_Word) (L2.Z0x ?x230) (L2.Z0x ?x231) (L2.Z0x ?x232) (L2.Z0x ?x233) (L2.Z6c KX G ?x234 ?pg_House ?hd_House ?po_House ?sa_House ?mk_House ?kp_House) (L2.Z0x ?x235) (L2.Z0x ?x236) (L2.Z0x ?x237) (L2.Z0x ?x238) (L2.Z6c KX G ?x239 ?pg_Program ?hd_Program ?po_Program ?sa_Program ?mk_Program ?kp_Program) (L2.Z0x ?x240) (L2.Z0x ?x241) (L2.Z1r ?x242 ?x243 ?x244 ?x245 ?x246) (L2.Z1r ?x247 ?x248 ?x249 ?x250 ?x251) (L2.Z1r ?x252 ?x253 ?x254 ?x255 ?x256) (L2.Z1r ?x257 ?x258 ?x259 ?x260 ?x261) (L2.Z1r ?x262 ?x263 ?x264 ?x265 ?x266) (L2.Z1r ?x267 ?x268 ?x269 ?x270 ?x271) (L2.Z1r ?x272 ?x273 ?x274 ?x275 ?x276) (L2.Z1r ?x277 ?x278 ?x279 ?x280 ?x281) (L2.Z1r ?x282 ?x283 ?x284 ?x285 ?x286) (L2.Z1r ?x287 ?x288 ?x289 ?x290 ?x291) (L2.Z1r ?x292 ?x293 ?x294 ?x295 ?x296) (L2.Z1r ?x297 ?x298 ?x299 ?x300 ?x301) (L2.Z1r ?x302 ?x303 ?x304 ?x305 ?x306) (L2.Z1r ?x307 ?x308 ?x309 ?x310 ?x311) (L2.Z1r ?x312 ?x313 ?x314 ?x315 ?x316) (L2.Z1r ?x317 ?x318 ?x319 ?x320 ?x321) (L2.Z1r ?x322 ?x323 ?x324 ?x325 ?x326) (L2.Z1r ?x327 ?x328 ?x329 ?x330 ?x331) (L2.Z1r ?x332 ?x333 ?x334 ?x335 ?x336) (L2.Z1r ?x337 ?x338 ?x339 ?x340 ?x341) (L2.Z1r ?x342 ?x343 ?x344 ?x345 ?x346)⟩
   (case x0|x1|x2|x3|x4|x5|x6|x7|x8|x9|x10|x11|x12|x13|x14|x15=>k_is);(case x16=>exact⟨rfl,rfl,rfl⟩);(case x17=>exact rfl);(case x18=>exact .cons rfl rfl ⟨_,rfl⟩ (.cons rfl rfl ⟨_,rfl⟩ (.cons rfl rfl ⟨_,rfl⟩ (.cons rfl rfl ⟨_,rfl⟩ (.cons rfl rfl ⟨_,rfl⟩ (.cons rfl rfl ⟨_,rfl⟩ (.nil)))))));(case x19=>exact rfl);(case x20|x21=>k_is);(case x22=>first|exact rfl|exact⟨rfl,rfl⟩);(case x23=>exact rfl);(case sz_NO_HOUSES=>decide);(case x24=>exact .cons ⟨_,rfl⟩ (.cons ⟨_,rfl⟩ (.nil)));(case x25|x26|x27|x28|x29|x30|x31|x32|x33|x34|x35|x36|x37|x38|x39|x40|x41|x42|x43|x44|x45|x46|x47|x48|x49|x50|x51|x52|x53|x54|x55|x56|x57|x58|x59|x60|x61|x62|x63|x64|x65|x66|x67|x68|x69|x70|x71|x72|x73|x74|x75|x76|x77|x78|x79|x80|x81|x82|x83|x84|x85|x86|x87|x88|x89|x90|x91|x92|x93|x94|x95|x96|x97|x98|x99|x100|x101|x102|x103|x104|x105|x106|x107|x108|x109|x110|x111|x112|x113|x114|x115|x116|x117|x118|x119|x120|x121|x122|x123|x124|x125|x126|x127|x128|x129|x130|x131|x132|x133|x134|x135|x136|x137|x138|x139|x140|x141|x142|x143|x144|x145|x146|x147|x148|x149|x150|x151|x152|x153|x154|x155|x156|x157|x158|x159|x160|x161|x162|x163|x164|x165|x166|x167|x168|x169|x170|x171|x172|x173|x174|x175|x176|x177|x178|x179|x180|x181|x182|x183|x184|x185|x186|x187|x188|x189|x190|x191|x192|x193|x194|x195|x196|x197|x198|x199|x200|x201|x202|x203|x204|x205|x206|x207|x208|x209|x210|x211|x212|x213|pg_Hall|hd_Hall|po_Hall|sa_Hall|mk_Hall|kp_Hall|x214|x215|x216|pg_Maker|hd_Maker|po_Maker|sa_Maker|mk_Maker|kp_Maker|x217|x218|x219|x220|x221|x222|pg_Term|hd_Term|po_Term|sa_Term|mk_Term|kp_Term|x223|x224|x225|x226|x227|x228|x229|pg_Word|hd_Word|po_Word|sa_Word|mk_Word|kp_Word|x230|x231|x232|x233|x234|pg_House|hd_House|po_House|sa_House|mk_House|kp_House|x235|x236|x237|x238|x239|pg_Program|hd_Program|po_Program|sa_Program|mk_Program|kp_Program|x240|x241|x242|x243|x244|x245|x246|x247|x248|x249|x250|x251|x252|x253|x254|x255|x256|x257|x258|x259|x260|x261|x262|x263|x264|x265|x266|x267|x268|x269|x270|x271|x272|x273|x274|x275|x276|x277|x278|x279|x280|x281|x282|x283|x284|x285|x286|x287|x288|x289|x290|x291|x292|x293|x294|x295|x296|x297|x298|x299|x300|x301|x302|x303|x304|x305|x306|x307|x308|x309|x310|x311|x312|x313|x314|x315|x316|x317|x318|x319|x320|x321|x322|x323|x324|x325|x326|x327|x328|x329|x330|x331|x332|x333|x334|x335|x336|x337|x338|x339|x340|x341|x342|x343|x344|x345|x346=>k_is)
  obtain⟨Cl,C9,Ct,Cw,Ch,Cp,D9,Uh9,T⟩:=T
  exact L2.J5l T.f_law hmg (λ _ _ _ _ _ _ _=>rfl) λ f fd base F=>K50.ok_law T F
 case S=>exact λ K H a ns hl _ hS=>K50.sp_law_ok hl hS
