import PyProof.Rows.All
import Wide.All
import OpenK.AllK
import Wide.FinOn
import OpenK.KMore
import OpenK.KMake
import OpenK.KDescr
import OpenK.KOwn
import KE.KIsAll
import KE.KItem
import KE.KxBytes
import PyProof.EqAt
import PyProof.EqKinds
import PyProof.TupleCall
import PyProof.ListMulRoad
import PyProof.FactsAll.tuple
import PyProof.Rows.SeqMore
import PyProof.ReprRoads
import PyProof.ReprLen
import KE.KDictOf
import PyProof.CompUse
import PyProof.SumWalkG
import PyProof.ListRange
import PyProof.Rows.ListRangeD
import PyProof.ReprBulk
import PyProof.MinMaxWalk
import PyProof.WalkInts
import PyProof.SeqI3
import PyProof.Rows.CallKwBuiltin
import KE.KMinKey
import PyProof.DictUpdate
import Lean
import PySem.Challenge.RW_elderhouse_k62_each_row
set_option Elab.async false
set_option linter.all false
set_option maxRecDepth 100000
set_option maxHeartbeats 4000000
open PySem.W renaming Frag→y9
open PySem renaming Addr→y8
open PySem.Challenge renaming pw_elderhouse_k62_each_row→pw0,rw_elderhouse_k62_each_row→rw0
open Nat renaming le_refl→qa0,zero_le→qa4,le_trans→qa7,lt_of_lt_of_le→qc1,le_succ_of_le→qd1,ne_of_lt→qd2,succ_le_succ→qd7,lt_of_sub_eq_succ→qe7,le_succ→qe9,le_add_right→qf0,lt_irrefl→qf3,mod_lt→qf9,lt_of_le_of_lt→qg0,sub_zero→qg2,sub_self→qg3,not_lt_zero→qg7,lt_succ_self→qh0,lt_or_ge→qh6,add_sub_cancel→qi6,min_eq_left→qj8,add_right_comm→ql8
open List renaming length_append→qa1,length_map→qa2,replicate→qa3,reverse_cons→qa5,mem_cons→qa8,getElem?_eq_some_iff→qa9,size_toArray→qb0,mem_cons_of_mem→qb1,getElem?_eq_getElem→qb2,mem_cons_self→qb5,length_cons→qb8,mem_of_getElem?→qb9,length_reverse→qc2,mem_singleton→qc3,length_take→qc4,range→qc6,append_assoc→qc7,getElem?_map→qc8,length_replicate→qd3,getElem?_append_left→qd4,map_cons→qd5,getElem?_append_right→qd6,mem_filter→qd8,mem_append→qd9,lookup_cons→qe0,map_append→qe1,length_nil→qe2,getElem_mem→qe3,drop→qe4,length_drop→qe5,mem_append_right→qe8,length_set→qf2,lookup→qf4,length_filter_le→qf5,length_range→qf6,drop_zero→qg1,append_nil→qg5,replicate_succ→qg6,take_of_length_le→qg8,flatten_cons→qh1,foldl→qh2,mem_map→qh3,find?_cons→qh4,reverse_append→qh5,reverse_take→qh7,flatten_replicate_singleton→qi0,mem_range→qi3,any_cons→qi5,take_left'→qi7,drop_eq_nil_of_le→qi8,set_cons_zero→qi9,cons_ne_nil→qj0,mem_append_left→qj2,nodup_cons→qj3,nil_append→qj4,take_length→qj5,map_map→qj7,filter_cons→qj9,getElem?_set→qk1,dropLast_concat→qk4,reverse_drop→qk5,not_mem_nil→qk6,filterMap_cons→qk8,mem_filterMap→ql0,getElem?_replicate→ql1,filter_append→ql6,mem_of_mem_take→ql9,length_eq_zero_iff→qm0,reverse_reverse→qm1,getD_eq_getElem?_getD→qm2,length_pos_iff→qm3,map_replicate→qm4,set_eq_take_append_cons_drop→qm5
open PySem.F renaming plainAttrs_list→qa6,slot_list_append→qb3,type_list_append→qb4,slot_list_extend→qh8,type_list_extend→qh9,slot_list_pop→qk2,type_list_pop→qk3,slot_tuple_add→ql2,entry_tuple_add→ql3,args_tuple_add_2→ql4,slot_dict_get→ql7
open Option renaming map_eq_some_iff→qb6,bind_eq_some_iff→qc0,ne_none_iff_exists'→qc9,map_some→qi2
open Option.some renaming inj→qb7
open Bool renaming false_ne_true→qc5,and_eq_true→qf1,noConfusion→qi1,eq_iff_iff→qi4,and_eq_true_iff→qk0,false_eq_true→ql5
open Int renaming toNat_natCast→qd0,zero_add→qe6,natCast_emod→qf8,natCast_ediv→qg9,toNat_of_nonneg→qj6,natCast_add→qk7
open List.cons renaming inj→qf7
open Classical renaming byContradiction→qg4
open Int.ofNat renaming inj→qj1
open Array renaming length_toList→qk9
theorem qP {p:Prop} (h:p:=by decide +kernel):p:=h
theorem qQ {p:Prop} (h:p:=by decide):p:=h
theorem qR {p:Prop} (h:p:=by omega):p:=h
theorem qS {p:Prop} (h:p:=by first | decide | omega):p:=h
section
namespace L2
open PySem
def Z0U (s:Stmt) (j:Nat):Stmt:=match s with
 | .ClassDef _ _ _ body _ _ _ _ _ _ _=>body.getD j (.Pass ⟨0,0,0,0⟩)
 | _=>.Pass ⟨0,0,0,0⟩
def Z1m (s:Stmt):Arguments:=match s with
 | .FunctionDef _ a _ _ _ _ _ _ _ _=>a
 | _=>{ posonlyargs:=[],args:=[],vararg:=none,kwonlyargs:=[],kw_defaults:=[],kwarg:=none,defaults:=[] }
def Z0Y (s:Stmt):List Stmt:=match s with
 | .FunctionDef _ _ b _ _ _ _ _ _ _=>b
 | _=>[]
def Z0i (s:Stmt):Scope:=match s with
 | .FunctionDef _ _ _ _ _ _ sc _ _ _=>sc
 | _=>{ kind:=.function,names:=[],isGenerator:=false,isCoroutine:=false }
end L2
namespace K62
open PySem L2
section
local macro_rules | `(tactic| walk_at "tw") => do let s := "__name__ elderhouse.numbers GREATEST MOST_WITHIN two_told number_told bounded elderhouse.frames ROW_SIGNS add sub mul div less same + - * / < = entered own_done two_done behind field_value elderhouse.places MOST_PAIRS Places __init__ asked put told elderhouse.machine Machine frames things answer calls looks hits rows_done step do_own make set_field found_block enter go_back told_answer end uppermost law_elderhouse_k62_each_row _law_cell_at _law_mixed _law_number _law_two _law_made _law_push _law_want _law_branch _law_slotted _law_calling _law_inner_thing _law_about_thing _law_piece _law_block _law_world _law_begun _law_ended _law_on _law_found _law_entered _law_left _law_thing_row _law_plain_row _law_next _law_asked _law_seen _law_due _law_machine law"; let r ← (s.splitOn " ").toArray.mapM fun n => do { let l := n.toList.toArray; let c : Array Lean.Term ← l.mapM fun k => `(nat_lit $(Lean.Syntax.mkNumLit (toString k.toNat))); let d : Array Lean.Term ← c.mapM fun k => `(Char.ofNat $k); `(tactic| rewrite [(W.Fast.ofString_ofList [$d,*] : Str.ofString $(Lean.Syntax.mkStrLit n) = Str.mk (Array.mk [$c,*]))]) }; `(tactic| ($[$r]*))
noncomputable def tw:{t:Program // pw0=t}:=by
 refine ⟨?t,?h⟩
 case h=>
  delta pw0
  walk_at "tw"
  exact rfl
end
noncomputable def _root_.PySem.W.Fast.tw12435677200118233559:Program:=tw.1
theorem _root_.PySem.W.Fast.te12435677200118233559:pw0=W.Fast.tw12435677200118233559:=tw.2
def top (i:Nat):Stmt:=pw0.main.body.getD i (.Pass ⟨0,0,0,0⟩)
abbrev Z3a:Stmt:=top 3
abbrev Z2f:Stmt:=top 4
abbrev Z3B:Stmt:=top 5
abbrev Z3v:Stmt:=top 8
abbrev Z3f:Stmt:=top 9
abbrev Z3i:Stmt:=top 10
abbrev Z4e:Stmt:=top 11
abbrev Z2d:Stmt:=top 12
abbrev Z2C:Stmt:=top 18
abbrev Z1S:Stmt:=top 20
abbrev Z2l:Stmt:=top 21
abbrev Z2a:Stmt:=top 22
abbrev Z3c:Stmt:=top 23
abbrev Z2F:Stmt:=top 24
abbrev Z2M:Stmt:=top 25
abbrev Z2I:Stmt:=top 26
abbrev Z2g:Stmt:=top 27
abbrev Z1Q:Stmt:=top 28
abbrev Z1O:Stmt:=top 29
abbrev Z1g:Stmt:=top 30
abbrev Z1f:Stmt:=top 31
abbrev Z2n:Stmt:=top 32
abbrev Z2q:Stmt:=top 33
abbrev Z2r:Stmt:=top 34
abbrev Z2m:Stmt:=top 35
abbrev Z2o:Stmt:=top 36
abbrev Z3x:Stmt:=top 37
abbrev Z2v:Stmt:=top 38
abbrev Z1N:Stmt:=top 39
abbrev Z2D:Stmt:=top 40
abbrev Z1u:Stmt:=top 41
abbrev Z1t:Stmt:=top 42
abbrev Z2J:Stmt:=top 43
abbrev Z2u:Stmt:=top 44
abbrev Z2L:Stmt:=top 45
abbrev Z3g:Stmt:=top 46
abbrev Z1L:Stmt:=top 47
abbrev Z9h:Stmt:=top 48
abbrev Z1i:Stmt:=Z0U (top 15) 0
abbrev Z1M:Stmt:=Z0U (top 15) 1
abbrev Z2t:Stmt:=Z0U (top 15) 2
abbrev Z2e:Stmt:=Z0U (top 15) 3
abbrev Z0w:Stmt:=Z0U (top 17) 0
abbrev Z1p:Stmt:=Z0U (top 17) 1
abbrev Z1s:Stmt:=Z0U (top 17) 2
abbrev Z1q:Stmt:=Z0U (top 17) 3
abbrev Z1A:Stmt:=Z0U (top 17) 4
abbrev Z1z:Stmt:=Z0U (top 17) 5
abbrev Z1P:Stmt:=Z0U (top 17) 6
abbrev Z1b:Stmt:=Z0U (top 17) 7
abbrev Z1T:Stmt:=Z0U (top 17) 8
abbrev Z1r:Stmt:=Z0U (top 17) 9
abbrev Z1K:Stmt:=Z0U (top 17) 10
abbrev Z0Z:Stmt:=Z0U (top 17) 11
abbrev Z0R:Stmt:=Z0U (top 17) 12
abbrev Z1C:Stmt:=Z0U (top 17) 13
abbrev Z1j:Stmt:=Z0U (top 17) 14
abbrev Z0S:Stmt:=Z0U (top 17) 15
abbrev Z1Z:Stmt:=Z0U (top 17) 16
noncomputable def rv:W.RowW:=W.OpenRow.toRowW (W.OpenLaw.row rw0)
noncomputable def qv:Program:={ pw0 with main:={ pw0.main with body:=[top 1,top 2,top 3,top 4,top 5,top 8,top 9,top 10,top 11,top 12,top 14,top 15,top 17,top 18,top 20,top 21,top 22,top 23,top 24,top 25,top 26,top 27,top 28,top 29,top 30,top 31,top 32,top 33,top 34,top 35,top 36,top 37,top 38,top 39,top 40,top 41,top 42,top 43,top 44,top 45,top 46,top 47,top 48] } }
noncomputable def cO (x y:Str) (n:Nat) (l a b:Int) (r:Nat) (d:Nat):Obj:=⟨.type "code",none,.fields #[.str x n,.str y (n+1),.str "/claim/cut.py" (n+2),.int l 0,.int a 0,.int 0 0,.int 0 0,.int b 0,.ref r,.bool true,.int 181 0,.ref (r+1),.none,.ref (r+2),.ref (r+3),.ref (r+4),.int d 0,.int l 0,.str "/claim/cut.py" (d+1)],#[]⟩
noncomputable def fU (x y:Str) (s:Stmt) (m:Str) (t c:Nat):Obj:=⟨.type "function",none,.func (W.fnOf x y (L2.Z1m s) (L2.Z0Y s) (L2.Z0i s) .none .none .none (.str m t) none (.ref c) .none),#[]⟩
noncomputable def eT:Obj:=⟨.type "tuple",none,.seq #[] 0,#[]⟩
noncomputable def kE (P:PySem.Params) (x:Str) (t:Nat) (v:Value):DictEntry:=⟨PyData.keyHash P x,.str x t,v⟩
noncomputable def fV0 (x:Str) (s:Stmt) (c:Nat):Obj:=fU x x s "law_elderhouse_k62_each_row" 554 c
noncomputable def fW1 (x y:Str) (s:Stmt) (c:Nat):Obj:=fU x y s "elderhouse.machine" 355 c
noncomputable def fV1 (x:Str) (s:Stmt) (c:Nat):Obj:=fU x x s "elderhouse.machine" 355 c
noncomputable def fV2 (x:Str) (s:Stmt) (c:Nat):Obj:=fU x x s "elderhouse.frames" 218 c
noncomputable def fW3 (x y:Str) (s:Stmt) (c:Nat):Obj:=fU x y s "elderhouse.places" 299 c
noncomputable def fV4 (x:Str) (s:Stmt) (c:Nat):Obj:=fU x x s "elderhouse.numbers" 187 c
noncomputable def tS:List Str→Nat→List Value
 | [],_=>[]
 | x::xs,n=>.str x n::tS xs (n+1)
noncomputable def tT (l:List Str) (n:Nat):Obj:=⟨.type "tuple",none,.seq (tS l n).toArray 0,#[]⟩
noncomputable def cQ (x:Str) (n:Nat) (l a:Int) (r d:Nat):Obj:=cO x x n l a 3 r d
noncomputable def cP (x y:Str) (n:Nat) (l a:Int) (r:Nat):Obj:=⟨.type "code",none,.fields #[.str x n,.str y (n+1),.str "/claim/cut.py" (n+2),.int l 0,.int a 0,.int 0 0,.int 0 0,.int 3 0,.ref r,.bool true,.int 181 0,.ref (r+1),.none,.none,.none,.ref (r+2),.int ((n+3:Nat):Int) 0,.int l 0,.str "/claim/cut.py" (n+4)],#[]⟩
noncomputable def KK (P:PySem.Params):y9:=
(nat_lit 2,Function.const (("a":Str)≠"b") (⟨.none,none,(.dict #[] 0),#[]⟩:Obj) qQ)::
(nat_lit 3,⟨(.type "dict"),none,(.dict #[kE P "__name__" 165 (.str "law_elderhouse_k62_each_row" 554),kE P "__doc__" 166 .none,kE P "__package__" 167 .none,kE P "__loader__" 168 (.builtin "__main__.__loader__#opaque"),kE P "__spec__" 169 .none,kE P "__annotations__" 170 (.ref 6),kE P "__builtins__" 171 (.ref 4),kE P "__file__" 173 (.str "/claim/cut.py" 172),kE P "__cached__" 174 .none,⟨PyData.keyHash P "GREATEST",.str "GREATEST" 190,.int 1000000000000000 189⟩,⟨PyData.keyHash P "MOST_WITHIN",.str "MOST_WITHIN" 192,.int 40 191⟩,kE P "two_told" 201 (.ref 21),kE P "number_told" 210 (.ref 28),kE P "bounded" 217 (.ref 35),kE P "ROW_SIGNS" 238 (.ref 36),kE P "entered" 248 (.ref 43),kE P "own_done" 264 (.ref 50),kE P "two_done" 274 (.ref 57),kE P "behind" 287 (.ref 64),kE P "field_value" 298 (.ref 71),⟨PyData.keyHash P "MOST_PAIRS",.str "MOST_PAIRS" 302,.int 2 301⟩,kE P "Places" 354 (.ref 107),kE P "Machine" 544 (.ref 239),kE P "uppermost" 553 (.ref 250),kE P "_law_cell_at" 563 (.ref 257),kE P "_law_mixed" 572 (.ref 264),kE P "_law_number" 579 (.ref 271),kE P "_law_two" 589 (.ref 278),kE P "_law_made" 600 (.ref 285),kE P "_law_push" 606 (.ref 290),kE P "_law_want" 619 (.ref 297),kE P "_law_branch" 631 (.ref 304),kE P "_law_slotted" 637 (.ref 309),kE P "_law_calling" 651 (.ref 316),kE P "_law_inner_thing" 657 (.ref 321),kE P "_law_about_thing" 667 (.ref 328),kE P "_law_piece" 678 (.ref 335),kE P "_law_block" 691 (.ref 342),kE P "_law_world" 697 (.ref 347),kE P "_law_begun" 709 (.ref 354),kE P "_law_ended" 717 (.ref 361),kE P "_law_on" 727 (.ref 368),kE P "_law_found" 733 (.ref 373),kE P "_law_entered" 747 (.ref 380),kE P "_law_left" 756 (.ref 387),kE P "_law_thing_row" 769 (.ref 394),kE P "_law_plain_row" 782 (.ref 401),kE P "_law_next" 793 (.ref 408),kE P "_law_asked" 801 (.ref 415),kE P "_law_seen" 807 (.ref 420),kE P "_law_due" 815 (.ref 427),kE P "_law_machine" 821 (.ref 432),kE P "law" 827 (.ref 437)] 53),#[]⟩)::
(nat_lit 15,eT)::
(nat_lit 17,tT ["sign","a","b"] 196)::
(nat_lit 18,eT)::
(nat_lit 20,cQ "two_told" 193 4 3 15 199)::
(nat_lit 21,fV4 "two_told" Z3a 20)::
(nat_lit 22,eT)::
(nat_lit 24,tT ["sign","a","b"] 205)::
(nat_lit 25,eT)::
(nat_lit 27,cQ "number_told" 202 12 3 22 208)::
(nat_lit 28,fV4 "number_told" Z2f 27)::
(nat_lit 29,eT)::
(nat_lit 31,tT ["number"] 214)::
(nat_lit 32,eT)::
(nat_lit 34,cQ "bounded" 211 20 1 29 215)::
(nat_lit 35,fV4 "bounded" Z3B 34)::
(nat_lit 36,⟨.type "dict",none,.dict #[kE P "add" 220 (.str "+" 221),kE P "sub" 222 (.str "-" 223),kE P "mul" 224 (.str "*" 225),kE P "div" 226 (.str "/" 227),kE P "less" 228 (.str "<" 229),kE P "same" 230 (.str "=" 231)] 6,#[]⟩)::
(nat_lit 37,eT)::
(nat_lit 39,tT ["block","number","values","bound"] 242)::
(nat_lit 40,eT)::
(nat_lit 42,cQ "entered" 239 26 3 37 246)::
(nat_lit 43,fV2 "entered" Z3v 42)::
(nat_lit 44,eT)::
(nat_lit 46,tT ["row","frame","things","number","at","slots","stack","name","kept","over"] 252)::
(nat_lit 47,eT)::
(nat_lit 49,cQ "own_done" 249 29 3 44 262)::
(nat_lit 50,fV2 "own_done" Z3f 49)::
(nat_lit 51,eT)::
(nat_lit 53,tT ["sign","frame","stack","told"] 268)::
(nat_lit 54,eT)::
(nat_lit 56,cQ "two_done" 265 51 2 51 272)::
(nat_lit 57,fV2 "two_done" Z3i 56)::
(nat_lit 58,eT)::
(nat_lit 60,tT ["frame","many","value","number","at","slots","stack"] 278)::
(nat_lit 61,eT)::
(nat_lit 63,cQ "behind" 275 57 3 58 285)::
(nat_lit 64,fV2 "behind" Z4e 63)::
(nat_lit 65,eT)::
(nat_lit 67,tT ["things","thing","place","house","inner"] 291)::
(nat_lit 68,eT)::
(nat_lit 70,cQ "field_value" 288 60 3 65 296)::
(nat_lit 71,fV2 "field_value" Z2d 70)::
(nat_lit 79,eT)::
(nat_lit 81,tT ["self"] 318)::
(nat_lit 82,eT)::
(nat_lit 84,cO "__init__" "Places.__init__" 315 67 1 3 79 319)::
(nat_lit 85,fW3 "__init__" "Places.__init__" Z1i 84)::
(nat_lit 86,eT)::
(nat_lit 89,cP "asked" "Places.asked" 322 70 3 86)::
(nat_lit 90,fW3 "asked" "Places.asked" Z1M 89)::
(nat_lit 91,eT)::
(nat_lit 93,tT ["self","site","house","block"] 331)::
(nat_lit 94,eT)::
(nat_lit 96,cO "put" "Places.put" 328 78 4 3 91 335)::
(nat_lit 97,fW3 "put" "Places.put" Z2t 96)::
(nat_lit 98,eT)::
(nat_lit 100,tT ["self","site"] 341)::
(nat_lit 101,eT)::
(nat_lit 103,cO "told" "Places.told" 338 81 2 3 98 343)::
(nat_lit 104,fW3 "told" "Places.told" Z2e 103)::
(nat_lit 105,tT ["by_site"] 346)::
(nat_lit 106,⟨(.type "dict"),none,(.dict #[kE P "__module__" 310 (.str "elderhouse.places" 299),⟨PyData.keyHash P "__firstlineno__",.str "__firstlineno__" 314,.int 65 313⟩,kE P "__init__" 321 (.ref 85),kE P "asked" 327 (.ref 90),kE P "put" 337 (.ref 97),kE P "told" 345 (.ref 104),kE P "__static_attributes__" 347 (.ref 105),kE P "__dict__" 349 (.ref 108),kE P "__weakref__" 351 (.ref 109),kE P "__doc__" 352 .none] 4),#[]⟩)::
(nat_lit 107,⟨(.type "type"),none,(.cls ⟨"Places",[(.type "object")],[.ref 107,(.type "object")],106,"Places",true,[],[],false,none,false⟩),#[none,none,(some (.str "Places" 303)),(some (.str "Places" 311)),(some (.builtin "object.__new__")),(some (.bool true))]⟩)::
(nat_lit 108,⟨.type "getset_descriptor",none,.fields #[.str "__dict__" 348,.ref 107,.builtin "function.__dict__",.builtin "function.__dict__#set"],#[]⟩)::
(nat_lit 109,⟨.type "getset_descriptor",none,.fields #[.str "__weakref__" 350,.ref 107,.builtin "ExceptionGroup.__weakref__",.none],#[]⟩)::
(nat_lit 119,⟨.type "tuple",none,.seq #[.int 100 369,.bool true] 0,#[]⟩)::
(nat_lit 120,eT)::
(nat_lit 123,cP "__init__" "Machine.__init__" 370 86 6 120)::
(nat_lit 124,⟨(.type "function"),none,(.func (W.fnOf "__init__" "Machine.__init__" (Z1m Z0w) (Z0Y Z0w) (Z0i Z0w) (.ref 119) .none .none (.str "elderhouse.machine" 355) none (.ref 123) .none)),#[]⟩)::
(nat_lit 125,eT)::
(nat_lit 127,tT ["self"] 379)::
(nat_lit 128,eT)::
(nat_lit 130,cO "frames" "Machine.frames" 376 100 1 3 125 380)::
(nat_lit 131,fW1 "frames" "Machine.frames" Z1p 130)::
(nat_lit 132,eT)::
(nat_lit 134,tT ["self"] 386)::
(nat_lit 135,eT)::
(nat_lit 137,cO "things" "Machine.things" 383 103 1 3 132 387)::
(nat_lit 138,fW1 "things" "Machine.things" Z1s 137)::
(nat_lit 139,eT)::
(nat_lit 141,tT ["self"] 393)::
(nat_lit 142,eT)::
(nat_lit 144,cO "answer" "Machine.answer" 390 106 1 3 139 394)::
(nat_lit 145,fW1 "answer" "Machine.answer" Z1q 144)::
(nat_lit 146,eT)::
(nat_lit 148,tT ["self"] 400)::
(nat_lit 149,eT)::
(nat_lit 151,cO "calls" "Machine.calls" 397 109 1 3 146 401)::
(nat_lit 152,fW1 "calls" "Machine.calls" Z1A 151)::
(nat_lit 153,eT)::
(nat_lit 155,tT ["self"] 407)::
(nat_lit 156,eT)::
(nat_lit 158,cO "looks" "Machine.looks" 404 112 1 3 153 408)::
(nat_lit 159,fW1 "looks" "Machine.looks" Z1z 158)::
(nat_lit 160,eT)::
(nat_lit 162,tT ["self"] 414)::
(nat_lit 163,eT)::
(nat_lit 165,cO "hits" "Machine.hits" 411 115 1 3 160 415)::
(nat_lit 166,fW1 "hits" "Machine.hits" Z1P 165)::
(nat_lit 167,eT)::
(nat_lit 169,tT ["self"] 421)::
(nat_lit 170,eT)::
(nat_lit 172,cO "rows_done" "Machine.rows_done" 418 118 1 3 167 422)::
(nat_lit 173,fW1 "rows_done" "Machine.rows_done" Z1b 172)::
(nat_lit 174,eT)::
(nat_lit 176,tT ["self","frame","row"] 428)::
(nat_lit 177,eT)::
(nat_lit 179,cO "step" "Machine.step" 425 121 1 3 174 431)::
(nat_lit 180,fW1 "step" "Machine.step" Z1T 179)::
(nat_lit 181,eT)::
(nat_lit 183,tT ["self","row","frame","done","refusal"] 437)::
(nat_lit 184,eT)::
(nat_lit 186,cO "do_own" "Machine.do_own" 434 141 3 3 181 442)::
(nat_lit 187,fW1 "do_own" "Machine.do_own" Z1r 186)::
(nat_lit 188,eT)::
(nat_lit 190,tT ["self","house","many","frame"] 448)::
(nat_lit 191,eT)::
(nat_lit 193,cO "make" "Machine.make" 445 147 4 3 188 452)::
(nat_lit 194,fW1 "make" "Machine.make" Z1K 193)::
(nat_lit 195,eT)::
(nat_lit 197,tT ["self","place","frame","thing","value","house","inner"] 458)::
(nat_lit 198,eT)::
(nat_lit 200,cO "set_field" "Machine.set_field" 455 151 3 3 195 465)::
(nat_lit 201,fW1 "set_field" "Machine.set_field" Z0Z 200)::
(nat_lit 202,eT)::
(nat_lit 204,tT ["self","site","word","many","frame","house","known","block"] 471)::
(nat_lit 205,eT)::
(nat_lit 207,cO "found_block" "Machine.found_block" 468 157 5 3 202 479)::
(nat_lit 208,fW1 "found_block" "Machine.found_block" Z0R 207)::
(nat_lit 209,eT)::
(nat_lit 211,tT ["self","block","many","frame","number","at","slots","stack"] 485)::
(nat_lit 212,eT)::
(nat_lit 214,cO "enter" "Machine.enter" 482 170 4 3 209 493)::
(nat_lit 215,fW1 "enter" "Machine.enter" Z1C 214)::
(nat_lit 216,eT)::
(nat_lit 218,tT ["self","frame","value","number","at","slots","stack"] 499)::
(nat_lit 219,eT)::
(nat_lit 221,cO "go_back" "Machine.go_back" 496 182 2 3 216 506)::
(nat_lit 222,fW1 "go_back" "Machine.go_back" Z1j 221)::
(nat_lit 223,eT)::
(nat_lit 225,tT ["self","value"] 512)::
(nat_lit 226,eT)::
(nat_lit 228,cO "told_answer" "Machine.told_answer" 509 191 2 3 223 514)::
(nat_lit 229,fW1 "told_answer" "Machine.told_answer" Z0S 228)::
(nat_lit 230,eT)::
(nat_lit 232,tT ["self","told"] 520)::
(nat_lit 233,eT)::
(nat_lit 235,cO "end" "Machine.end" 517 196 2 3 230 522)::
(nat_lit 236,fW1 "end" "Machine.end" Z1Z 235)::
(nat_lit 237,tT ["blocks","call_count","ended","hit_count","house_tables","look_count","made","most","places","remembers","row_count","stacked"] 525)::
(nat_lit 238,⟨(.type "dict"),none,(.dict #[kE P "__module__" 364 (.str "elderhouse.machine" 355),⟨PyData.keyHash P "__firstlineno__",.str "__firstlineno__" 368,.int 84 367⟩,kE P "__init__" 375 (.ref 124),kE P "frames" 382 (.ref 131),kE P "things" 389 (.ref 138),kE P "answer" 396 (.ref 145),kE P "calls" 403 (.ref 152),kE P "looks" 410 (.ref 159),kE P "hits" 417 (.ref 166),kE P "rows_done" 424 (.ref 173),kE P "step" 433 (.ref 180),kE P "do_own" 444 (.ref 187),kE P "make" 454 (.ref 194),kE P "set_field" 467 (.ref 201),kE P "found_block" 481 (.ref 208),kE P "enter" 495 (.ref 215),kE P "go_back" 508 (.ref 222),kE P "told_answer" 516 (.ref 229),kE P "end" 524 (.ref 236),kE P "__static_attributes__" 537 (.ref 237),kE P "__dict__" 539 (.ref 240),kE P "__weakref__" 541 (.ref 241),kE P "__doc__" 542 .none] 4),#[]⟩)::
(nat_lit 239,⟨(.type "type"),none,(.cls ⟨"Machine",[(.type "object")],[.ref 239,(.type "object")],238,"Machine",true,[],[],false,none,false⟩),#[none,none,(some (.str "Machine" 357)),(some (.str "Machine" 365)),(some (.builtin "object.__new__")),(some (.bool true))]⟩)::
(nat_lit 240,⟨.type "getset_descriptor",none,.fields #[.str "__dict__" 538,.ref 239,.builtin "function.__dict__",.builtin "function.__dict__#set"],#[]⟩)::
(nat_lit 241,⟨.type "getset_descriptor",none,.fields #[.str "__weakref__" 540,.ref 239,.builtin "ExceptionGroup.__weakref__",.none],#[]⟩)::
(nat_lit 244,eT)::
(nat_lit 246,tT ["frame","many","stack"] 548)::
(nat_lit 247,eT)::
(nat_lit 249,cQ "uppermost" 545 199 2 244 551)::
(nat_lit 250,fV1 "uppermost" Z2C 249)::
(nat_lit 251,eT)::
(nat_lit 253,tT ["_law_script","_law_k"] 559)::
(nat_lit 254,eT)::
(nat_lit 256,cQ "_law_cell_at" 556 203 2 251 561)::
(nat_lit 257,fV0 "_law_cell_at" Z1S 256)::
(nat_lit 258,eT)::
(nat_lit 260,tT ["_law_cell","_law_k","_law_number_here"] 567)::
(nat_lit 261,eT)::
(nat_lit 263,cQ "_law_mixed" 564 207 2 258 570)::
(nat_lit 264,fV0 "_law_mixed" Z2l 263)::
(nat_lit 265,eT)::
(nat_lit 267,tT ["_law_cell"] 576)::
(nat_lit 268,eT)::
(nat_lit 270,cQ "_law_number" 573 210 1 265 577)::
(nat_lit 271,fV0 "_law_number" Z2a 270)::
(nat_lit 272,eT)::
(nat_lit 274,tT ["_law_word","_law_one","_law_other","_law_found_here"] 583)::
(nat_lit 275,eT)::
(nat_lit 277,cQ "_law_two" 580 216 3 272 587)::
(nat_lit 278,fV0 "_law_two" Z3c 277)::
(nat_lit 279,eT)::
(nat_lit 281,tT ["_law_world_here","_law_house","_law_cell","_law_rows","_law_k"] 593)::
(nat_lit 282,eT)::
(nat_lit 284,cQ "_law_made" 590 233 3 279 598)::
(nat_lit 285,fV0 "_law_made" Z2F 284)::
(nat_lit 286,eT)::
(nat_lit 289,cP "_law_push" "_law_push" 601 241 4 286)::
(nat_lit 290,fV0 "_law_push" Z2M 289)::
(nat_lit 291,eT)::
(nat_lit 293,tT ["_law_world_here","_law_state","_law_kinds","_law_cell","_law_size","_law_rest","_law_k"] 610)::
(nat_lit 294,eT)::
(nat_lit 296,cQ "_law_want" 607 250 4 291 617)::
(nat_lit 297,fV0 "_law_want" Z2I 296)::
(nat_lit 298,eT)::
(nat_lit 300,tT ["_law_world_here","_law_state","_law_more","_law_kind","_law_one","_law_other"] 623)::
(nat_lit 301,eT)::
(nat_lit 303,cQ "_law_branch" 620 258 3 298 629)::
(nat_lit 304,fV0 "_law_branch" Z2g 303)::
(nat_lit 305,eT)::
(nat_lit 308,cP "_law_slotted" "_law_slotted" 632 269 2 305)::
(nat_lit 309,fV0 "_law_slotted" Z1Q 308)::
(nat_lit 310,eT)::
(nat_lit 312,tT ["_law_world_here","_law_state","_law_more","_law_is_straight","_law_block_here","_law_word","_law_params","_law_told"] 641)::
(nat_lit 313,eT)::
(nat_lit 315,cQ "_law_calling" 638 280 3 310 649)::
(nat_lit 316,fV0 "_law_calling" Z1O 315)::
(nat_lit 317,eT)::
(nat_lit 320,cP "_law_inner_thing" "_law_inner_thing" 652 292 3 317)::
(nat_lit 321,fV0 "_law_inner_thing" Z1g 320)::
(nat_lit 322,eT)::
(nat_lit 324,tT ["_law_world_here","_law_state","_law_more","_law_place"] 661)::
(nat_lit 325,eT)::
(nat_lit 327,cQ "_law_about_thing" 658 301 3 322 665)::
(nat_lit 328,fV0 "_law_about_thing" Z1f 327)::
(nat_lit 329,eT)::
(nat_lit 331,tT ["_law_world_here","_law_state","_law_cell","_law_way","_law_more"] 671)::
(nat_lit 332,eT)::
(nat_lit 334,cQ "_law_piece" 668 316 3 329 676)::
(nat_lit 335,fV0 "_law_piece" Z2n 334)::
(nat_lit 336,eT)::
(nat_lit 338,tT ["_law_world_here","_law_params","_law_told","_law_cell","_law_many","_law_state","_law_k"] 682)::
(nat_lit 339,eT)::
(nat_lit 341,cQ "_law_block" 679 335 5 336 689)::
(nat_lit 342,fV0 "_law_block" Z2q 341)::
(nat_lit 343,eT)::
(nat_lit 346,cP "_law_world" "_law_world" 692 341 1 343)::
(nat_lit 347,fV0 "_law_world" Z2r 346)::
(nat_lit 348,eT)::
(nat_lit 350,tT ["_law_world_here","_law_most","_law_keeps","_law_number_here","_law_slots","_law_state"] 701)::
(nat_lit 351,eT)::
(nat_lit 353,cQ "_law_begun" 698 363 3 348 707)::
(nat_lit 354,fV0 "_law_begun" Z2m 353)::
(nat_lit 355,eT)::
(nat_lit 357,tT ["_law_state","_law_ended_here"] 713)::
(nat_lit 358,eT)::
(nat_lit 360,cQ "_law_ended" 710 369 2 355 715)::
(nat_lit 361,fV0 "_law_ended" Z2o 360)::
(nat_lit 362,eT)::
(nat_lit 364,tT ["_law_state","_law_goal","_law_slots","_law_stack"] 721)::
(nat_lit 365,eT)::
(nat_lit 367,cQ "_law_on" 718 371 4 362 725)::
(nat_lit 368,fV0 "_law_on" Z3x 367)::
(nat_lit 369,eT)::
(nat_lit 372,cP "_law_found" "_law_found" 728 373 4 369)::
(nat_lit 373,fV0 "_law_found" Z2v 372)::
(nat_lit 374,eT)::
(nat_lit 376,tT ["_law_world_here","_law_state","_law_row","_law_frame","_law_rest","_law_values","_law_block_here","_law_slots"] 737)::
(nat_lit 377,eT)::
(nat_lit 379,cQ "_law_entered" 734 385 4 374 745)::
(nat_lit 380,fV0 "_law_entered" Z1N 379)::
(nat_lit 381,eT)::
(nat_lit 383,tT ["_law_state","_law_value","_law_frame"] 751)::
(nat_lit 384,eT)::
(nat_lit 386,cQ "_law_left" 748 401 1 381 754)::
(nat_lit 387,fV0 "_law_left" Z2D 386)::
(nat_lit 388,eT)::
(nat_lit 390,tT ["_law_state","_law_row","_law_frame","_law_stack","_law_rest","_law_house","_law_values"] 760)::
(nat_lit 391,eT)::
(nat_lit 393,cQ "_law_thing_row" 757 410 3 388 767)::
(nat_lit 394,fV0 "_law_thing_row" Z1u 393)::
(nat_lit 395,eT)::
(nat_lit 397,tT ["_law_state","_law_row","_law_frame","_law_number_here","_law_at","_law_slots","_law_stack"] 773)::
(nat_lit 398,eT)::
(nat_lit 400,cQ "_law_plain_row" 770 424 3 395 780)::
(nat_lit 401,fV0 "_law_plain_row" Z1t 400)::
(nat_lit 402,eT)::
(nat_lit 404,tT ["_law_world_here","_law_state","_law_frame","_law_row","_law_found_here"] 786)::
(nat_lit 405,eT)::
(nat_lit 407,cQ "_law_next" 783 439 2 402 791)::
(nat_lit 408,fV0 "_law_next" Z2J 407)::
(nat_lit 409,eT)::
(nat_lit 411,tT ["_law_machine_here","_law_k"] 797)::
(nat_lit 412,eT)::
(nat_lit 414,cQ "_law_asked" 794 457 2 409 799)::
(nat_lit 415,fV0 "_law_asked" Z2u 414)::
(nat_lit 416,eT)::
(nat_lit 419,cP "_law_seen" "_law_seen" 802 465 2 416)::
(nat_lit 420,fV0 "_law_seen" Z2L 419)::
(nat_lit 421,eT)::
(nat_lit 423,tT ["_law_state","_law_found_here"] 811)::
(nat_lit 424,eT)::
(nat_lit 426,cQ "_law_due" 808 471 1 421 813)::
(nat_lit 427,fV0 "_law_due" Z3g 426)::
(nat_lit 428,eT)::
(nat_lit 431,cP "_law_machine" "_law_machine" 816 474 4 428)::
(nat_lit 432,fV0 "_law_machine" Z1L 431)::
(nat_lit 433,eT)::
(nat_lit 436,cP "law" "law" 822 490 1 433)::
(nat_lit 437,fV0 "law" Z9h 436)::[]
noncomputable def KA:List y8:=[2,3,15,17,18,20,21,22,24,25,27,28,29,31,32,34,35,36,37,39,40,42,43,44,46,47,49,50,51,53,54,56,57,58,60,61,63,64,65,67,68,70,71,79,81,82,84,85,86,89,90,91,93,94,96,97,98,100,101,103,104,105,106,107,108,109,119,120,123,124,125,127,128,130,131,132,134,135,137,138,139,141,142,144,145,146,148,149,151,152,153,155,156,158,159,160,162,163,165,166,167,169,170,172,173,174,176,177,179,180,181,183,184,186,187,188,190,191,193,194,195,197,198,200,201,202,204,205,207,208,209,211,212,214,215,216,218,219,221,222,223,225,226,228,229,230,232,233,235,236,237,238,239,240,241,244,246,247,249,250,251,253,254,256,257,258,260,261,263,264,265,267,268,270,271,272,274,275,277,278,279,281,282,284,285,286,289,290,291,293,294,296,297,298,300,301,303,304,305,308,309,310,312,313,315,316,317,320,321,322,324,325,327,328,329,331,332,334,335,336,338,339,341,342,343,346,347,348,350,351,353,354,355,357,358,360,361,362,364,365,367,368,369,372,373,374,376,377,379,380,381,383,384,386,387,388,390,391,393,394,395,397,398,400,401,402,404,405,407,408,409,411,412,414,415,416,419,420,421,423,424,426,427,428,431,432,433,436,437]
theorem ka_eq:∀ P,KA=(KK P).map (·.1):=fun _=>by kernel_rfl
theorem J3A {p q:Program} {loose:List Str} {Xt:Shared→Bool} {α:Type} {Yf:Shared→α} {Ya:World→α} {N:Nat} {H₀:Params→Heap} {gs₀:Array GenState} {d₀:Drawn} {k₀ m₀ M:Nat} {ann:Option Value}
  (op:∀ w:World,(W.fencedOpening treeTable p w N).map (fun s=>(s.heap,s.gens,s.drawn,s.toks))=some (H₀ w.params,gs₀,d₀,k₀))
  (sz:∀ w:World,((H₀ w.params).isNs mainGlobals&&gs₀.size == 0)=true∧(H₀ w.params).objs.size=m₀∧(H₀ w.params).nsMap mainGlobals "__annotations__"=ann) (le:M≤N)
  (ex:∀ (w:World) (os:OsState),∃ s,W.topRun treeTable p w m₀ ann M ⟨H₀ w.params,gs₀,d₀,k₀,os⟩ (W.topStub p)=some s∧(W.staticsOk (importedModules p.main.body) (H₀ w.params) s.heap&&W.namesBound p s.heap&&W.gensDone s&&W.laidKept (H₀ w.params) s.heap)=true∧W.openSeen q loose (importedModules p.main.body) Xt true s=W.openGood q loose∧Yf s=Ya w):W.LeftO p q loose Xt Yf Ya N:=by
 intro w
 obtain ⟨⟨hh,gg,dr,tk,os⟩,e1,e2⟩:=qb6.mp (op w)
 simp only [Prod.mk.injEq] at e2
 obtain ⟨a1,a2,a3,a4⟩:=e2
 subst a1 a2 a3 a4
 obtain ⟨z1,z2,z3⟩:=sz w
 obtain ⟨s,hr,b1,b2,b3⟩:=ex w os
 have hr:=W.topRun_mono (N - M) _ _ _ _ hr
 rw [Nat.add_sub_of_le le] at hr
 have ht:W.topFrom treeTable p w N ⟨H₀ w.params,gg,dr,tk,os⟩=some s:=by
  unfold W.topFrom
  simp only [z1,z2,z3,hr,Option.bind_some,b1]
 unfold W.openEnds
 rw [e1,Option.bind_some,ht,qi2,b2,b3]
theorem zz:(pw0.main.body.isEmpty == false)=true:=by k_qdec
noncomputable def eN (p:Program):Env:={ scope:=p.main.scope,locals:=mainNs,globals:=mainNs,cells:=[],code:=.ref 13,frame:=some 14 }
noncomputable def cN (p:Program):Code:=.body (W.behindTheImports p) (eN p)
def po:Pos:=⟨0,0,0,0⟩
def pf:Pos:=⟨490,0,510,121⟩
def an:Option Value:=some (.ref 6)
noncomputable def Y0 (w:World) (os:OsState):Shared:=⟨W.boot_heap w.params,Array.mk [],W.boot_drawn,W.boot_toks,os⟩
noncomputable def Sa (p:Program) (w:World) (os:OsState):Shared:=match W.topGo treeTable p w 11 an 12 (Y0 w os) (W.topStub p) with
 | some (s,_)=>s
 | none=>Y0 w os
def ofL:List Obj→Nat→W.BT→W.BT
 | [],_,t=>t
 | o::l,n,t=>ofL l (n+1) (t.ins n o)
noncomputable def TB (p:Program) (w:World) (os:OsState):W.SharedT:=⟨ofL (Sa p w os).heap.objs.toList 0 .nil,15,(Sa p w os).heap.life,(Sa p w os).gens,(Sa p w os).drawn,(Sa p w os).toks,os⟩
theorem r1 (w:World) (os:OsState):W.topGo treeTable pw0 w 11 an 12 (Y0 w os) (W.topStub pw0)=some (Sa pw0 w os,⟨denote treeTable (cN pw0),cN pw0,po,[W.topFrame po]⟩):=by
 kernel_rfl
theorem r2 (w:World) (os:OsState):W.segRun treeTable pw0 w 11 an 1 1 (Sa pw0 w os) (W.blockOf (W.behindTheImports pw0) (eN pw0) (cN pw0) po [W.topFrame po])=some (.next,Sa pw0 w os,cN pw0,po):=by
 kernel_rfl
theorem r3 (w:World) (os:OsState):(TB pw0 w os).abs=Sa pw0 w os:=by
 kernel_rfl
noncomputable def e0:Obj:=⟨.none,none,.fields #[],#[]⟩
noncomputable def et:Obj:=⟨.type "tuple",none,.seq #[] 0,#[]⟩
noncomputable def ky (P:Params) (x:Str) (t:Nat) (v:Value):DictEntry:=⟨PyData.keyHash P x,.str x t,v⟩
noncomputable def fz (x y:Str) (s:Stmt):Obj:=⟨.none,none,.func { name:=x,qualname:=y,params:=L2.Z1m s,body:=.stmts (L2.Z0Y s),scope:=L2.Z0i s,globals:=0,closure:=[],defaults:=.none,kwdefaults:=.none },#[]⟩
noncomputable def bi (x:String) (v:Value):Obj:=⟨.type "builtin_function_or_method",none,.fields #[.builtin x,v],#[]⟩
noncomputable def fr (a b:Nat) (x:Str) (t:Nat):Obj:=⟨.type "frame",none,.plain,#[some (.ref a),some (.ref 3),some (.ref b),none,some (.str x t),none,some (.ref 0)]⟩
noncomputable def su (a:Nat):Obj:=⟨.type "super",none,.fields #[.ref a,.ref a,.ref a],#[]⟩
noncomputable def bo (P:Params) (i:Nat):Obj:=(W.boot_heap P).objs.toList.getD i e0
noncomputable def RR (P:Params):List (y8×Obj):=[
(0,bo P 0),
(1,⟨(.type "dict"),none,(.dict #[ky P "builtins" 162 (.ref 4),ky P "__main__" 163 (.ref 5)] 2),#[]⟩),
(4,⟨(.type "module"),(some 0),.plain,#[]⟩),
(5,⟨(.type "module"),(some 3),.plain,#[]⟩),
(6,⟨(.type "dict"),none,(.dict #[] 0),#[]⟩),
(7,et),
(8,e0),
(9,⟨(.type "code"),none,(.fields #[.str "<module>" 176,.str "<module>" 177,.str "/claim/cut.py" 178,.int 1 0,.int 0 0,.int 0 0,.int 0 0,.int 0 0,.ref 7,.bool false,.int 175 0,.ref 8,.none,.none,.none,.none,.int 179 0,.int 1 0,.str "/claim/cut.py" 180]),#[]⟩),
(10,fr 9 3 "__main__" 164),
(11,et),
(12,⟨.none,none,(.fields #[.int 4 0,.int 0 0,.ref 20,.int 12 0,.int 0 0,.ref 27,.int 20 0,.int 0 0,.ref 34,.int 26 0,.int 0 0,.ref 42,.int 29 0,.int 0 0,.ref 49,.int 51 0,.int 0 0,.ref 56,.int 57 0,.int 0 0,.ref 63,.int 60 0,.int 0 0,.ref 70,.int 65 0,.int 0 0,.ref 77,.int 84 0,.int 0 0,.ref 117,.int 199 0,.int 0 0,.ref 249,.int 203 0,.int 0 0,.ref 256,.int 207 0,.int 0 0,.ref 263,.int 210 0,.int 0 0,.ref 270,.int 216 0,.int 0 0,.ref 277,.int 233 0,.int 0 0,.ref 284,.int 241 0,.int 0 0,.ref 289,.int 250 0,.int 0 0,.ref 296,.int 258 0,.int 0 0,.ref 303,.int 269 0,.int 0 0,.ref 308,.int 280 0,.int 0 0,.ref 315,.int 292 0,.int 0 0,.ref 320,.int 301 0,.int 0 0,.ref 327,.int 316 0,.int 0 0,.ref 334,.int 335 0,.int 0 0,.ref 341,.int 341 0,.int 0 0,.ref 346,.int 363 0,.int 0 0,.ref 353,.int 369 0,.int 0 0,.ref 360,.int 371 0,.int 0 0,.ref 367,.int 373 0,.int 0 0,.ref 372,.int 385 0,.int 0 0,.ref 379,.int 401 0,.int 0 0,.ref 386,.int 410 0,.int 0 0,.ref 393,.int 424 0,.int 0 0,.ref 400,.int 439 0,.int 0 0,.ref 407,.int 457 0,.int 0 0,.ref 414,.int 465 0,.int 0 0,.ref 419,.int 471 0,.int 0 0,.ref 426,.int 474 0,.int 0 0,.ref 431,.int 490 0,.int 0 0,.ref 436]),#[]⟩),
(13,⟨(.type "code"),none,(.fields #[.str "<module>" 182,.str "<module>" 183,.str "/claim/cut.py" 184,.int 1 0,.int 0 0,.int 0 0,.int 0 0,.int 0 0,.ref 11,.bool false,.int 181 0,.ref 12,.none,.none,.none,.none,.int 185 0,.int 1 0,.str "/claim/cut.py" 186]),#[]⟩),
(14,fr 13 3 "__main__" 164),
(16,e0),
(19,fz "two_told" "two_told" Z3a),
(23,e0),
(26,fz "number_told" "number_told" Z2f),
(30,e0),
(33,fz "bounded" "bounded" Z3B),
(38,e0),
(41,fz "entered" "entered" Z3v),
(45,e0),
(48,fz "own_done" "own_done" Z3f),
(52,e0),
(55,fz "two_done" "two_done" Z3i),
(59,e0),
(62,fz "behind" "behind" Z4e),
(66,e0),
(69,fz "field_value" "field_value" Z2d),
(72,et),
(73,bi "type.__prepare__" (.type "type")),
(74,⟨(.type "dict"),none,(.dict #[ky P "__module__" 310 (.str "elderhouse.places" 299),ky P "__qualname__" 312 (.str "Places" 311),⟨PyData.keyHash P "__firstlineno__",.str "__firstlineno__" 314,.int 65 313⟩,ky P "__init__" 321 (.ref 85),ky P "asked" 327 (.ref 90),ky P "put" 337 (.ref 97),ky P "told" 345 (.ref 104),ky P "__static_attributes__" 347 (.ref 105)] 8),#[]⟩),
(75,et),
(76,⟨.none,none,(.fields #[.int 67 0,.int 4 0,.ref 84,.int 70 0,.int 4 0,.ref 89,.int 78 0,.int 4 0,.ref 96,.int 81 0,.int 4 0,.ref 103]),#[]⟩),
(77,⟨(.type "code"),none,(.fields #[.str "Places" 305,.str "Places" 306,.str "/claim/cut.py" 307,.int 65 0,.int 0 0,.int 0 0,.int 0 0,.int 0 0,.ref 75,.bool false,.int 181 0,.ref 76,.none,.none,.none,.none,.int 308 0,.int 65 0,.str "/claim/cut.py" 309]),#[]⟩),
(78,fr 77 74 "elderhouse.places" 299),
(80,e0),
(83,fz "__init__" "Places.__init__" Z1i),
(87,e0),
(88,fz "asked" "Places.asked" Z1M),
(92,e0),
(95,fz "put" "Places.put" Z2t),
(99,e0),
(102,fz "told" "Places.told" Z2e),
(110,su 107),
(111,bi "object.__init_subclass__" (.ref 107)),
(112,et),
(113,bi "type.__prepare__" (.type "type")),
(114,⟨(.type "dict"),none,(.dict #[ky P "__module__" 364 (.str "elderhouse.machine" 355),ky P "__qualname__" 366 (.str "Machine" 365),⟨PyData.keyHash P "__firstlineno__",.str "__firstlineno__" 368,.int 84 367⟩,ky P "__init__" 375 (.ref 124),ky P "frames" 382 (.ref 131),ky P "things" 389 (.ref 138),ky P "answer" 396 (.ref 145),ky P "calls" 403 (.ref 152),ky P "looks" 410 (.ref 159),ky P "hits" 417 (.ref 166),ky P "rows_done" 424 (.ref 173),ky P "step" 433 (.ref 180),ky P "do_own" 444 (.ref 187),ky P "make" 454 (.ref 194),ky P "set_field" 467 (.ref 201),ky P "found_block" 481 (.ref 208),ky P "enter" 495 (.ref 215),ky P "go_back" 508 (.ref 222),ky P "told_answer" 516 (.ref 229),ky P "end" 524 (.ref 236),ky P "__static_attributes__" 537 (.ref 237)] 21),#[]⟩),
(115,et),
(116,⟨.none,none,(.fields #[.int 86 0,.int 4 0,.ref 123,.int 100 0,.int 4 0,.ref 130,.int 103 0,.int 4 0,.ref 137,.int 106 0,.int 4 0,.ref 144,.int 109 0,.int 4 0,.ref 151,.int 112 0,.int 4 0,.ref 158,.int 115 0,.int 4 0,.ref 165,.int 118 0,.int 4 0,.ref 172,.int 121 0,.int 4 0,.ref 179,.int 141 0,.int 4 0,.ref 186,.int 147 0,.int 4 0,.ref 193,.int 151 0,.int 4 0,.ref 200,.int 157 0,.int 4 0,.ref 207,.int 170 0,.int 4 0,.ref 214,.int 182 0,.int 4 0,.ref 221,.int 191 0,.int 4 0,.ref 228,.int 196 0,.int 4 0,.ref 235]),#[]⟩),
(117,⟨(.type "code"),none,(.fields #[.str "Machine" 359,.str "Machine" 360,.str "/claim/cut.py" 361,.int 84 0,.int 0 0,.int 0 0,.int 0 0,.int 0 0,.ref 115,.bool false,.int 181 0,.ref 116,.none,.none,.none,.none,.int 362 0,.int 84 0,.str "/claim/cut.py" 363]),#[]⟩),
(118,fr 117 114 "elderhouse.machine" 355),
(121,e0),
(122,fz "__init__" "Machine.__init__" Z0w),
(126,e0),
(129,fz "frames" "Machine.frames" Z1p),
(133,e0),
(136,fz "things" "Machine.things" Z1s),
(140,e0),
(143,fz "answer" "Machine.answer" Z1q),
(147,e0),
(150,fz "calls" "Machine.calls" Z1A),
(154,e0),
(157,fz "looks" "Machine.looks" Z1z),
(161,e0),
(164,fz "hits" "Machine.hits" Z1P),
(168,e0),
(171,fz "rows_done" "Machine.rows_done" Z1b),
(175,e0),
(178,fz "step" "Machine.step" Z1T),
(182,e0),
(185,fz "do_own" "Machine.do_own" Z1r),
(189,e0),
(192,fz "make" "Machine.make" Z1K),
(196,e0),
(199,fz "set_field" "Machine.set_field" Z0Z),
(203,e0),
(206,fz "found_block" "Machine.found_block" Z0R),
(210,e0),
(213,fz "enter" "Machine.enter" Z1C),
(217,e0),
(220,fz "go_back" "Machine.go_back" Z1j),
(224,e0),
(227,fz "told_answer" "Machine.told_answer" Z0S),
(231,e0),
(234,fz "end" "Machine.end" Z1Z),
(242,su 239),
(243,bi "object.__init_subclass__" (.ref 239)),
(245,e0),
(248,fz "uppermost" "uppermost" Z2C),
(252,e0),
(255,fz "_law_cell_at" "_law_cell_at" Z1S),
(259,e0),
(262,fz "_law_mixed" "_law_mixed" Z2l),
(266,e0),
(269,fz "_law_number" "_law_number" Z2a),
(273,e0),
(276,fz "_law_two" "_law_two" Z3c),
(280,e0),
(283,fz "_law_made" "_law_made" Z2F),
(287,e0),
(288,fz "_law_push" "_law_push" Z2M),
(292,e0),
(295,fz "_law_want" "_law_want" Z2I),
(299,e0),
(302,fz "_law_branch" "_law_branch" Z2g),
(306,e0),
(307,fz "_law_slotted" "_law_slotted" Z1Q),
(311,e0),
(314,fz "_law_calling" "_law_calling" Z1O),
(318,e0),
(319,fz "_law_inner_thing" "_law_inner_thing" Z1g),
(323,e0),
(326,fz "_law_about_thing" "_law_about_thing" Z1f),
(330,e0),
(333,fz "_law_piece" "_law_piece" Z2n),
(337,e0),
(340,fz "_law_block" "_law_block" Z2q),
(344,e0),
(345,fz "_law_world" "_law_world" Z2r),
(349,e0),
(352,fz "_law_begun" "_law_begun" Z2m),
(356,e0),
(359,fz "_law_ended" "_law_ended" Z2o),
(363,e0),
(366,fz "_law_on" "_law_on" Z3x),
(370,e0),
(371,fz "_law_found" "_law_found" Z2v),
(375,e0),
(378,fz "_law_entered" "_law_entered" Z1N),
(382,e0),
(385,fz "_law_left" "_law_left" Z2D),
(389,e0),
(392,fz "_law_thing_row" "_law_thing_row" Z1u),
(396,e0),
(399,fz "_law_plain_row" "_law_plain_row" Z1t),
(403,e0),
(406,fz "_law_next" "_law_next" Z2J),
(410,e0),
(413,fz "_law_asked" "_law_asked" Z2u),
(417,e0),
(418,fz "_law_seen" "_law_seen" Z2L),
(422,e0),
(425,fz "_law_due" "_law_due" Z3g),
(429,e0),
(430,fz "_law_machine" "_law_machine" Z1L),
(434,e0),
(435,fz "law" "law" Z9h)]
def mrg:Nat→List (y8×Obj)→List (y8×Obj)→List Obj
 | 0,_,_=>[]
 | n+1,(a,x)::l,(b,y)::r=>match Nat.blt a b with
  | true=>x::mrg n l ((b,y)::r)
  | false=>y::mrg n ((a,x)::l) r
 | n+1,[],(_,y)::r=>y::mrg n [] r
 | n+1,(_,x)::l,[]=>x::mrg n l []
 | _+1,[],[]=>[]
noncomputable def TF (p:Program) (w:World) (os:OsState):W.SharedT:=⟨ofL (mrg 438 (RR w.params) (KK w.params)) 0 .nil,438,(Sa p w os).heap.life,Array.mk [],W.boot_drawn,828,os⟩
def sF (w:World) (b:Bool):World:={ w with params:={ w.params with followText:=fun x=>if x="special-get-raises" then b else w.params.followText x } }
theorem J6C (w:World):sF w (w.params.followText "special-get-raises")=w:=by
 have h:(fun x=>if x="special-get-raises" then w.params.followText "special-get-raises" else w.params.followText x)=w.params.followText:=by
  funext x
  split
  ·rename_i h; rw [h]
  ·rfl
 unfold sF
 rw [h]
theorem b0t (w:World) (os:OsState):W.segRunT treeTable pw0 (sF w true) 11 an 1 2438 (TB pw0 (sF w true) os) (W.piecesOf (W.behindTheImports pw0) (eN pw0) (cN pw0) po [W.topFrame po])=some (.next,(TF pw0 (sF w true) os),cN pw0,pf):=by
 unfold TF TB Sa
 rw [W.Fast.te10110043849684766642,W.Fast.te15667345088766844465,W.Fast.te12435677200118233559]
 kernel_rfl
theorem b0f (w:World) (os:OsState):W.segRunT treeTable pw0 (sF w false) 11 an 1 2438 (TB pw0 (sF w false) os) (W.piecesOf (W.behindTheImports pw0) (eN pw0) (cN pw0) po [W.topFrame po])=some (.next,(TF pw0 (sF w false) os),cN pw0,pf):=by
 unfold TF TB Sa
 rw [W.Fast.te10110043849684766642,W.Fast.te15667345088766844465,W.Fast.te12435677200118233559]
 kernel_rfl
theorem b0 (w:World) (os:OsState):W.segRunT treeTable pw0 w 11 an 1 2438 (TB pw0 w os) (W.piecesOf (W.behindTheImports pw0) (eN pw0) (cN pw0) po [W.topFrame po])=some (.next,(TF pw0 w os),cN pw0,pf):=by
 have h:∀ b,W.segRunT treeTable pw0 (sF w b) 11 an 1 2438 (TB pw0 (sF w b) os) (W.piecesOf (W.behindTheImports pw0) (eN pw0) (cN pw0) po [W.topFrame po])=some (.next,(TF pw0 (sF w b) os),cN pw0,pf):=fun b=>by
  cases b
  ·exact b0f w os
  ·exact b0t w os
 have h:=h (w.params.followText "special-get-raises")
 rw [J6C] at h
 exact h
theorem b1 (w:World) (os:OsState):(W.topRun treeTable pw0 w 11 an 2 (TF pw0 w os).abs (W.restOf [] (eN pw0) (cN pw0) pf [W.topFrame po])).map (fun s=>(W.staticsOk (importedModules pw0.main.body) (W.boot_heap w.params) s.heap&&W.namesBound pw0 s.heap&&W.gensDone s&&W.laidKept (W.boot_heap w.params) s.heap))=some true:=by
 kernel_rfl
theorem b2 (w:World) (os:OsState):(W.topRun treeTable pw0 w 11 an 2 (TF pw0 w os).abs (W.restOf [] (eN pw0) (cN pw0) pf [W.topFrame po])).map (fun s=>W.openSeen qv ["ROW_SIGNS"] (importedModules pw0.main.body) (fun s=>W.xlAt qv [] s&&W.recOk (W.RowW.records rv) s) true s)=some (W.openGood qv ["ROW_SIGNS"]):=by
 kernel_rfl
theorem b3 (w:World) (os:OsState):(W.topRun treeTable pw0 w 11 an 2 (TF pw0 w os).abs (W.restOf [] (eN pw0) (cN pw0) pf [W.topFrame po])).map (fun s=>W.Hook.obs (W.kHook KK KA ka_eq) s)=some (W.Hook.val (W.kHook KK KA ka_eq) w):=by
 kernel_rfl
theorem b4 (w:World) (os:OsState):∃ T s,W.segRunT treeTable pw0 w 11 an 1 2438 (TB pw0 w os) (W.piecesOf (W.behindTheImports pw0) (eN pw0) (cN pw0) po [W.topFrame po])=some (.next,T,cN pw0,pf)∧W.topRun treeTable pw0 w 11 an 2 T.abs (W.restOf [] (eN pw0) (cN pw0) pf [W.topFrame po])=some s∧(W.staticsOk (importedModules pw0.main.body) (W.boot_heap w.params) s.heap&&W.namesBound pw0 s.heap&&W.gensDone s&&W.laidKept (W.boot_heap w.params) s.heap)=true∧W.openSeen qv ["ROW_SIGNS"] (importedModules pw0.main.body) (fun s=>W.xlAt qv [] s&&W.recOk (W.RowW.records rv) s) true s=W.openGood qv ["ROW_SIGNS"]∧W.Hook.obs (W.kHook KK KA ka_eq) s=W.Hook.val (W.kHook KK KA ka_eq) w:=by
 obtain ⟨s,hs,y1⟩:=qb6.mp (b1 w os)
 obtain ⟨s2,hs2,y2⟩:=qb6.mp (b2 w os)
 obtain ⟨s3,hs3,y3⟩:=qb6.mp (b3 w os)
 cases qb7 (hs.symm.trans hs2)
 cases qb7 (hs.symm.trans hs3)
 exact ⟨TF pw0 w os,s,b0 w os,hs,y1,y2,y3⟩
theorem r7 (w:World) (os:OsState):∃ s,W.topRun treeTable pw0 w 11 an (12+(1+(2438+2))) (Y0 w os) (W.topStub pw0)=some s∧(W.staticsOk (importedModules pw0.main.body) (W.boot_heap w.params) s.heap&&W.namesBound pw0 s.heap&&W.gensDone s&&W.laidKept (W.boot_heap w.params) s.heap)=true∧W.openSeen qv ["ROW_SIGNS"] (importedModules pw0.main.body) (fun s=>W.xlAt qv [] s&&W.recOk (W.RowW.records rv) s) true s=W.openGood qv ["ROW_SIGNS"]∧W.Hook.obs (W.kHook KK KA ka_eq) s=W.Hook.val (W.kHook KK KA ka_eq) w:=by
 obtain ⟨T,s,h1,h2,h3,h4,h5⟩:=b4 w os
 refine ⟨s,W.go_top (r1 w os) (W.piece_block (r2 w os) ?_),h3,h4,h5⟩
 have h6:=W.segRun_of h1
 rw [r3] at h6
 have h7:=W.piece_app (rest:=[]) h6 h2
 rw [qg5] at h7
 exact h7
theorem r8:∀ w:World,((W.boot_heap w.params).isNs mainGlobals&&(Array.mk ([]:List GenState)).size == 0)=true∧(W.boot_heap w.params).objs.size=11∧(W.boot_heap w.params).nsMap mainGlobals "__annotations__"=an:=by
 intro w
 exact ⟨by kernel_rfl,by kernel_rfl,by kernel_rfl⟩
theorem r9:∀ w:World,(W.fencedOpening treeTable pw0 w 5000).map (fun s=>(s.heap,s.gens,s.drawn,s.toks))=some (W.boot_heap w.params,Array.mk [],W.boot_drawn,W.boot_toks):=W.boot_open rfl rfl fun s=>rfl
theorem left:W.LeftO pw0 qv ["ROW_SIGNS"] (fun s=>W.xlAt qv [] s&&W.recOk (W.RowW.records rv) s) (W.Hook.obs (W.kHook KK KA ka_eq)) (W.Hook.val (W.kHook KK KA ka_eq)) 5000:=J3A r9 r8 qQ r7
theorem ws0:rw0.wellSaid=true:=by
 kernel_rfl
end K62
end
section
namespace L2
open PySem PySem.Spec PyProof.Rows
abbrev Key:=Sum Int Str
def Z6N:Key→Value→Bool
 | .inl k,v=>Value.isInt k v
 | .inr x,v=>Value.isStrOf x v
def keyH (w:World):Key→Int
 | .inl k=>hashInt k
 | .inr x=>hashStr w x
theorem Z1a:∀ {k:Key} {v:Value},Z6N k v=true→(∃ i t,k=Sum.inl i∧v=Value.int i t)∨(∃ x t,k=Sum.inr x∧v=Value.str x t)
 | .inl i,v,h=>by
  obtain ⟨t,e⟩:=Value.isInt_shape (k:=i) (v:=v) h
  exact .inl ⟨i,t,rfl,e⟩
 | .inr x,v,h=>by
  obtain ⟨t,e⟩:=Value.isStrOf_shape (x:=x) (v:=v) h
  exact .inr ⟨x,t,rfl,e⟩
theorem Z8Z (i:Int) (t:Tok):Z6N (.inl i) (.int i t)=true:=by simp [Z6N,Value.isInt]
theorem Z9V (x:Str) (t:Tok):Z6N (.inr x) (.str x t)=true:=by simp [Z6N,Value.isStrOf]
theorem J5t (a b:Int):decide ((Sum.inl a:Key)=Sum.inl b)=(a == b):=by
 by_cases e:a=b
 ·subst e; simp
 ·have h:¬ (Sum.inl a:Key)=Sum.inl b:=fun q=>e (Sum.inl.inj q)
  rw [decide_eq_false h]
  exact (beq_eq_false_iff_ne.mpr e).symm
theorem J4s (a b:Str):decide ((Sum.inr a:Key)=Sum.inr b)=decide (a=b):=by
 by_cases e:a=b
 ·subst e; simp
 ·have h:¬ (Sum.inr a:Key)=Sum.inr b:=fun q=>e (Sum.inr.inj q)
  rw [decide_eq_false h,decide_eq_false e]
theorem J5N (a:Int) (b:Str):decide ((Sum.inl a:Key)=Sum.inr b)=false:=decide_eq_false (fun q=>nomatch q)
theorem J5B (a:Str) (b:Int):decide ((Sum.inr a:Key)=Sum.inl b)=false:=decide_eq_false (fun q=>nomatch q)
def Z0Q (prog:Program) (w:World):PySem.KeyKind prog w Key where
 is:=Z6N
 hash:=keyH w
 inj:=fun v a b ha hb=>by
  rcases Z1a ha with ⟨i,t,rfl,rfl⟩ | ⟨x,t,rfl,rfl⟩
  ·rcases Z1a hb with ⟨j,u,rfl,e⟩ | ⟨y,u,rfl,e⟩
   ·injection e with e1 _; rw [e1]
   ·exact nomatch e
  ·rcases Z1a hb with ⟨j,u,rfl,e⟩ | ⟨y,u,rfl,e⟩
   ·exact nomatch e
   ·injection e with e1 _; rw [e1]
 byValue:=fun k v h=>by
  rcases Z1a h with ⟨i,t,rfl,rfl⟩ | ⟨x,t,rfl,rfl⟩ <;> rfl
 pyHash:=fun hv h=>by
  rcases Z1a hv with ⟨i,t,rfl,rfl⟩ | ⟨x,t,rfl,rfl⟩
  ·exact wpAny_pyHash_int h
  ·exact wpAny_pyHash_str h
 eqBool:=fun hu hv h=>by
  rcases Z1a hu with ⟨i,t,rfl,rfl⟩ | ⟨x,t,rfl,rfl⟩
  ·rcases Z1a hv with ⟨j,u,rfl,rfl⟩ | ⟨y,u,rfl,rfl⟩
   ·rw [J5t] at h; exact wpAny_eqBool_int h
   ·rw [J5N] at h; exact SeqAt.EqAt.int_str i t y u _ _ _ _ h
  ·rcases Z1a hv with ⟨j,u,rfl,rfl⟩ | ⟨y,u,rfl,rfl⟩
   ·rw [J5B] at h; exact SeqAt.EqAt.str_int x t j u _ _ _ _ h
   ·rw [J4s] at h; exact wpAny_eqBool_str h
 «strs»:=fun k x t v h=>by
  rcases Z1a h with ⟨i,u,rfl,e⟩ | ⟨y,u,rfl,e⟩
  ·exact nomatch e
  ·injection e with e1 _
   subst e1
   cases v <;> rfl
theorem Z6R (prog:Program) (w:World) (i:Int) (t:Tok):(Z0Q prog w).is (.inl i) (.int i t)=true:=Z8Z i t
theorem Z6D (prog:Program) (w:World) (x:Str) (t:Tok):(Z0Q prog w).is (.inr x) (.str x t)=true:=Z9V x t
inductive V where
 | non | bl (b:Bool) | int (i:Int) | str (x:Str) | byt (b:Array UInt8) | flt (b:UInt64) | ref (a:y8) | ty (n:String)
 deriving DecidableEq
def RelV:V→Value→Prop
 | .non,u=>u=Value.none
 | .bl b,u=>u=Value.bool b
 | .int i,u=>∃ t,u=Value.int i t
 | .str x,u=>∃ t,u=Value.str x t
 | .byt b,u=>∃ t,u=Value.bytes b t
 | .flt b,u=>∃ t,u=Value.float b t
 | .ref a,u=>u=Value.ref a
 | .ty n,u=>u=Value.type n
abbrev Vals:List V→List Value→Prop:=Paired RelV
theorem Vals.length {xs:List V} {us:List Value} (r:Vals xs us):xs.length=us.length:=Paired.length r
theorem Vals.get:∀ {xs:List V} {us:List Value} {i:Nat} {x:V},Vals xs us→xs[i]?=some x→∃ u,us[i]?=some u∧RelV x u
 | _,_,_,_,.nil,e=>by simp at e
 | _,_,0,_,.cons r _,e=>by simp at e; subst e; exact ⟨_,rfl,r⟩
 | _,_,i+1,x,.cons _ t,e=>by
  obtain ⟨u,h1,h2⟩:=Vals.get (i:=i) (x:=x) t (by simpa using e)
  exact ⟨u,by simpa using h1,h2⟩
theorem Vals.set {x:V} {u:Value} (r:RelV x u):∀ {xs:List V} {us:List Value} (i:Nat),Vals xs us→Vals (xs.set i x) (us.set i u)
 | _,_,_,.nil=>.nil
 | _,_,0,.cons _ t=>.cons r t
 | _,_,i+1,.cons q t=>.cons q (Vals.set r i t)
theorem Vals.append:∀ {xs ys:List V} {us ws:List Value},Vals xs us→Vals ys ws→Vals (xs++ys) (us++ws)
 | _,_,_,_,.nil,s=>s
 | _,_,_,_,.cons r t,s=>.cons r (Vals.append t s)
theorem Vals.take:∀ {xs:List V} {us:List Value} (n:Nat),Vals xs us→Vals (xs.take n) (us.take n)
 | _,_,0,_=>.nil
 | _,_,_+1,.nil=>.nil
 | _,_,n+1,.cons r t=>.cons r (Vals.take n t)
theorem Vals.drop:∀ {xs:List V} {us:List Value} (n:Nat),Vals xs us→Vals (xs.drop n) (us.drop n)
 | _,_,0,r=>r
 | _,_,_+1,.nil=>.nil
 | _,_,n+1,.cons _ t=>Vals.drop n t
def RelO:Option V→Option Value→Prop
 | some v,some u=>RelV v u
 | none,none=>True
 | _,_=>False
def KV {κ:Type}:List (κ×V)→List (κ×Value)→Prop:=Paired fun (p:κ×V) (q:κ×Value)=>p.1=q.1∧RelV p.2 q.2
def kV:Key→V
 | .inl i=>.int i
 | .inr x=>.str x
inductive HO where
 | lst (xs:List V)
 | tup (xs:List V)
 | dK (kvs:List (Key×V)) | dT (kvs:List (List Key×V))
 | set (S:Int→Bool) (n:Nat)
 | ins (C dx:y8) (fs:List (Str×V))
 | own (x:y8)
 | xd (fs:List (Str×V))
 | met (f x:y8)
 | rng (lo hi:Int)
 | frz (o:Obj) (u:HO)
 | tbl (ps:Array Value)
 | ext (φ:Heap→Prop)
abbrev Hp:=y8→Option HO
def upd (H:Hp) (a:y8) (o:HO):Hp:=fun b=>if b=a then some o else H b
theorem Z0d {H:Hp} {a:y8} {o:HO}:upd H a o a=some o:=by unfold upd; rw [if_pos rfl]
theorem Z0e {H:Hp} {a b:y8} {o:HO} (h:b≠a):upd H a o b=H b:=by unfold upd; rw [if_neg h]
theorem Z6I {H:Hp} {a:y8} {o u:HO}:upd (upd H a o) a u=upd H a u:=by
 funext b; unfold upd; split <;> rfl
theorem Z0J {H:Hp} {a b:y8} {o u:HO} (h:H a=some o) (h':H b=some u) (d:o≠u):a≠b:=by
 intro e; subst e; rw [h] at h'; exact d (qb7 h')
theorem Z0m {H:Hp} {a b:y8} {o:HO} (h:H a=some o) (h':H b=none):a≠b:=by
 intro e; subst e; rw [h] at h'; cases h'
theorem Z5j {h:Heap} {xs:Array Value} {n:Nat}:∀ o,(h.push { cls:=.type "tuple",data:=.seq xs n }).get? h.objs.size=some o→o.dict=none:=fun o q=>by
 rw [Heap.get?_push_size _ rfl] at q; cases q; rfl
section
variable (P:Program) (w:World)
def ObjOk (H:Hp) (h:Heap) (a:y8):HO→Prop
 | .lst xs=>xs.length≤sizeLine∧∃ (its:List Value) (n:Nat),Vals xs its∧h.get? a=some { cls:=.type "list",data:=.seq its.toArray n }
 | .tup xs=>(xs.length≤sizeLine∧∀ o,h.get? a=some o→o.dict=none)∧∃ its:List Value,Vals xs its∧IsTup h a its.toArray
 | .dK kvs=>kvs.length≤sizeLine∧(a == sysModules)=false∧∃ vs,KV kvs vs∧h.DictOf (Z0Q P w) a vs
 | .dT kvs=>kvs.length≤sizeLine∧(a == sysModules)=false∧∃ xs:List (List Key×y8×Value),
   Paired (fun (p:List Key×V) (q:List Key×y8×Value)=>p.1=q.1∧H q.2.1=some (.tup (p.1.map kV))∧RelV p.2 q.2.2) kvs xs ∧
   ∃ o es ep,h.get? a=some o∧o.ExactDict∧o.data=.dict es ep∧es.toList=xs.map (entryOfKey (tupleKind (Z0Q P w)))∧(xs.map (·.1)).Nodup
 | .set S n=>h.SetOf (intKind P w) a S n
 | .ins C dx fs=>H dx=some (.own a)∧fs.length≤1000∧dx≠a∧h.get? a=some (W.instObj C dx) ∧
   ∃ mA,h.Ns1 dx mA∧(∀ f,RelO (fs.lookup f) (mA f))∧PySem.Within mA (fs.map (·.1))
 | .own _=>∃ o,h.get? a=some o
 | .xd fs=>∃ mA,h.Ns1 a mA∧∀ f,RelO (fs.lookup f) (mA f)
 | .rng lo hi=>∃ t u v,h.get? a=some { cls:=.type "range",data:=.fields #[.int lo t,.int hi u,.int 1 v] }
 | .frz o u=>h.get? a=some o∧ObjOk H h a u
 | .tbl ps=>h.get? a=some { cls:=.none,data:=.fields ps }
 | .met f x=>h.get? a=some (W.methodObj (.ref f) (.ref x))
 | .ext φ=>φ h∧(∃ o,h.get? a=some o)∧∀ h1 h2:Heap,φ h1→(∀ o,h1.get? a=some o→h2.get? a=some o)→φ h2
def HOk (H:Hp) (h:Heap):Prop:=∀ a o,H a=some o→ObjOk P w H h a o
end
section
variable {P:Program} {w:World} {H H':Hp} {h h':Heap} {a:y8} {o:HO}
theorem ObjOk.lt (x:ObjOk P w H h a o):a < h.objs.size:=by
 cases o with
 | lst xs=>obtain ⟨_,_,_,_,e⟩:=x; exact Heap.lt_size e
 | tup xs=>obtain ⟨_,_,_,p⟩:=x; exact p.lt
 | dK kvs=>obtain ⟨_,_,_,_,o,_,_,e,_⟩:=x; exact Heap.lt_size e
 | dT kvs=>obtain ⟨_,_,_,_,o,_,_,e,_⟩:=x; exact Heap.lt_size e
 | set S n=>obtain ⟨o,_,_,_,e,_⟩:=x; exact Heap.lt_size e
 | ins C dx fs=>obtain ⟨_,_,_,e,_⟩:=x; exact Heap.lt_size e
 | own y=>obtain ⟨_,e⟩:=x; exact Heap.lt_size e
 | xd fs=>obtain ⟨_,⟨_,_,_,e,_⟩,_⟩:=x; exact Heap.lt_size e
 | rng lo hi=>obtain ⟨_,_,_,e⟩:=x; exact Heap.lt_size e
 | frz ob u=>obtain ⟨e,_⟩:=x; exact Heap.lt_size e
 | tbl ps=>exact Heap.lt_size (show h.get? a=some _ from x)
 | met f y=>exact Heap.lt_size (show h.get? a=some _ from x)
 | ext φ=>obtain ⟨_,⟨_,e⟩,_⟩:=x; exact Heap.lt_size e
theorem Paired.mapP {α β:Type} {F G:α→β→Prop}:∀ {l₁:List α} {l₂:List β},Paired F l₁ l₂→(∀ a b,F a b→G a b)→Paired G l₁ l₂
 | _,_,.nil,_=>.nil
 | _,_,.cons r t,f=>.cons (f _ _ r) (Paired.mapP t f)
theorem Paired.imp' {α β:Type} {F G:α→β→Prop} (f:∀ a b,F a b→G a b) {l₁:List α} {l₂:List β} (r:Paired F l₁ l₂):Paired G l₁ l₂:=Paired.mapP r f
theorem ObjOk.stay (x:ObjOk P w H h a o) (k:∀ b u,(b=a∨H b=some (.own a))→h.get? b=some u→h'.get? b=some u)
  (ho:∀ b,H b=some (.own a)→H' b=some (.own a)) (ht:∀ b xs,H b=some (.tup xs)→H' b=some (.tup xs)):ObjOk P w H' h' a o:=by
 induction o with
 | lst xs=>obtain ⟨z,its,n,r,e⟩:=x; exact ⟨z,its,n,r,k _ _ (.inl rfl) e⟩
 | tup xs=>obtain ⟨z,its,r,ob,e,c⟩:=x; exact ⟨⟨z.1,fun o q=>by rw [k _ _ (.inl rfl) e] at q; cases q; exact z.2 _ e⟩,its,r,ob,k _ _ (.inl rfl) e,c⟩
 | dK kvs=>obtain ⟨z,y,vs,r,ob,es,ep,e,c⟩:=x; exact ⟨z,y,vs,r,ob,es,ep,k _ _ (.inl rfl) e,c⟩
 | dT kvs=>
  obtain ⟨z,y,xs,r,ob,es,ep,e,c⟩:=x
  exact ⟨z,y,xs,Paired.mapP r fun p q z=>⟨z.1,ht _ _ z.2.1,z.2.2⟩,ob,es,ep,k _ _ (.inl rfl) e,c⟩
 | set S n=>obtain ⟨ob,es,ep,t,e,c⟩:=x; exact ⟨ob,es,ep,t,k _ _ (.inl rfl) e,c⟩
 | ins C dx fs=>
  obtain ⟨d,z,ne,e,mA,⟨od,es,ep,e2,c⟩,r⟩:=x
  exact ⟨ho _ d,z,ne,k _ _ (.inl rfl) e,mA,⟨od,es,ep,k _ _ (.inr d) e2,c⟩,r⟩
 | own y=>obtain ⟨ob,e⟩:=x; exact ⟨ob,k _ _ (.inl rfl) e⟩
 | xd fs=>obtain ⟨mA,⟨od,es,ep,e,c⟩,r⟩:=x; exact ⟨mA,⟨od,es,ep,k _ _ (.inl rfl) e,c⟩,r⟩
 | rng lo hi=>obtain ⟨t,u,v,e⟩:=x; exact ⟨t,u,v,k _ _ (.inl rfl) e⟩
 | frz ob u ih=>obtain ⟨e,q⟩:=x; exact ⟨k _ _ (.inl rfl) e,ih q⟩
 | tbl ps=>
  have e:h.get? a=some { cls:=.none,data:=.fields ps }:=x
  show h'.get? a=some { cls:=.none,data:=.fields ps }
  exact k a _ (.inl rfl) e
 | met f y=>
  have e:h.get? a=some (W.methodObj (.ref f) (.ref y)):=x
  show h'.get? a=some (W.methodObj (.ref f) (.ref y))
  exact k a _ (.inl rfl) e
 | ext φ=>obtain ⟨p,⟨o,e⟩,st⟩:=x; exact ⟨st _ _ p fun o q=>k _ _ (.inl rfl) q,⟨o,k _ _ (.inl rfl) e⟩,st⟩
theorem HOk.lt (x:HOk P w H h) (e:H a=some o):a < h.objs.size:=(x a o e).lt
theorem HOk.fresh (x:HOk P w H h) (e:h.objs.size≤a):H a=none:=by
 cases q:H a with
 | none=>rfl
 | some u=>exact absurd (qc1 (x.lt q) e) (qf3 _)
theorem HOk.kept (x:HOk P w H h) (k:∀ b u,h.get? b=some u→h'.get? b=some u):HOk P w H h':=fun a o e=>
 (x a o e).stay (fun b u _ q=>k b u q) (fun _ q=>q) fun _ _ q=>q
theorem HOk.laid (x:HOk P w H h) (k:∀ b u,h.get? b=some u→h'.get? b=some u) (hp:h.objs.size≤a) (new:ObjOk P w (upd H a o) h' a o):HOk P w (upd H a o) h':=fun b u e=>by
 have hn:=x.fresh hp
 by_cases hb:b=a
 ·subst hb; rw [Z0d] at e; cases e; exact new
 ·rw [Z0e hb] at e
  exact (x b u e).stay (fun c v _ q=>k c v q) (fun c q=>by rw [Z0e (Z0m q hn)]; exact q) fun c xs q=>by rw [Z0e (Z0m q hn)]; exact q
end
def Rd (H:Hp) (a:y8) (u:HO):Prop:=H a=some u∨∃ o,H a=some (.frz o u)
theorem Rd.of {H:Hp} {a:y8} {u:HO} (h:H a=some u):Rd H a u:=.inl h
theorem Rd.ok {P:Program} {w:World} {H:Hp} {h:Heap} {a:y8} {u:HO} (r:Rd H a u) (x:HOk P w H h):ObjOk P w H h a u:=by
 rcases r with r | ⟨o,r⟩
 ·exact x a u r
 ·obtain ⟨_,q⟩:=x a _ r
  exact q
def Mut:Option HO→Prop
 | some (.lst _)=>True
 | some (.dK _)=>True
 | some (.dT _)=>True
 | some (.set _ _)=>True
 | some (.ins _ _ _)=>True
 | some (.ext _)=>True
 | _=>False
section
variable {P:Program} {w:World} {H:Hp} {h h':Heap} {x e:y8} {o':HO}
theorem HOk.write (ok:HOk P w H h) (mu:Mut (H x)) (he:e=x∨H e=some (.own x)) (k:∀ b u,b≠e→h.get? b=some u→h'.get? b=some u) (heo:∃ u,h'.get? e=some u)
  (new:ObjOk P w (upd H x o') h' x o'):HOk P w (upd H x o') h':=fun b u q=>by
 have nown:∀ c y,H c=some (.own y)→c≠x:=fun c y r z=>by subst z; rw [r] at mu; exact mu
 have ntup:∀ c xs,H c=some (.tup xs)→c≠x:=fun c xs r z=>by subst z; rw [r] at mu; exact mu
 by_cases hb:b=x
 ·subst hb; rw [Z0d] at q; cases q; exact new
 ·rw [Z0e hb] at q
  by_cases hbe:b=e
  ·have q':H b=some (.own x):=by
    rcases he with z | z
    ·exact absurd (hbe.trans z) hb
    ·rw [hbe]; exact z
   rw [q] at q'; cases q'
   obtain ⟨v,hv⟩:=heo
   exact ⟨v,by rw [hbe]; exact hv⟩
  ·refine (ok b u q).stay (fun c v hc r=>k c v ?_ r) (fun c r=>by rw [Z0e (nown c b r)]; exact r) fun c xs r=>by rw [Z0e (ntup c xs r)]; exact r
   rcases hc with rfl | hc
   ·exact hbe
   ·rintro rfl
    rcases he with z | z
    ·exact nown c b hc z
    ·rw [hc] at z; cases z; exact hb rfl
end
structure Un (fs ex:List y8) (H H':Hp) (h h':Heap):Prop where
 keep:∀ b o,h.get? b=some o→H b=none→b∉fs→b∉ex→h'.get? b=some o
 slot:∀ b o,h.get? b=some o→H b=none→b∈fs→b∉ex→∃ sl,h'.get? b=some { o with slots:=sl }
 free:∀ b o,h.get? b=some o→H b=none→b∉ex→H' b=none
 there:∀ b o,h.get? b=some o→b∉ex→∃ o',h'.get? b=some o'
 tups:∀ b xs,H b=some (.tup xs)→H' b=some (.tup xs)
 frzs:∀ b o u,H b=some (.frz o u)→H' b=some (.frz o u)
 tbls:∀ b ps,H b=some (.tbl ps)→∃ more,H' b=some (.tbl (ps++more))
section
variable {fs fs' ex ex':List y8} {H H1 H2:Hp} {h h1 h2 h':Heap} {a x e:y8} {o:HO}
theorem Un.any (u:Un fs ex H H1 h h1) {b:y8} {ob:Obj} (q:h.get? b=some ob) (n:H b=none) (hx:b∉ex):∃ sl,h1.get? b=some { ob with slots:=sl }:=by
 by_cases hb:b∈fs
 ·exact u.slot b ob q n hb hx
 ·exact ⟨ob.slots,u.keep b ob q n hb hx⟩
theorem Un.kept (k:∀ b u,h.get? b=some u→h'.get? b=some u):Un fs ex H H h h':=
 ⟨fun b ob q _ _ _=>k b ob q,fun b ob q _ _ _=>⟨ob.slots,k b ob q⟩,fun _ _ _ n _=>n,fun b ob q _=>⟨ob,k b ob q⟩,fun _ _ q=>q,fun _ _ _ q=>q,fun _ ps q=>⟨#[],by rw [q]; simp⟩⟩
theorem Un.refl:Un fs ex H H h h:=Un.kept fun _ _ q=>q
theorem Un.laid (k:∀ b u,h.get? b=some u→h'.get? b=some u) (hp:h.objs.size≤a) (hn:H a=none):Un fs ex H (upd H a o) h h' where
 keep:=fun b u q _ _ _=>k b u q
 slot:=fun b u q _ _ _=>⟨u.slots,k b u q⟩
 free:=fun b u q n _=>by rw [Z0e (qd2 (qc1 (Heap.lt_size q) hp))]; exact n
 there:=fun b u q _=>⟨u,k b u q⟩
 tups:=fun b xs q=>by rw [Z0e (Z0m q hn)]; exact q
 frzs:=fun b u xs q=>by rw [Z0e (Z0m q hn)]; exact q
 tbls:=fun b ps q=>⟨#[],by rw [Z0e (Z0m q hn),q]; simp⟩
theorem Un.write (mu:Mut (H x)) (he:e=x∨H e=some (.own x)) (k:∀ b u,b≠e→h.get? b=some u→h'.get? b=some u) (heo:∃ u,h'.get? e=some u):Un fs ex H (upd H x o) h h':=by
 have hx:∀ b,H b=none→b≠x:=fun b n z=>by subst z; rw [n] at mu; exact mu
 have hb:∀ b,H b=none→b≠e:=fun b n z=>by
  subst z
  rcases he with r | r
  ·exact hx b n r
  ·rw [n] at r; cases r
 have hm:∀ b u,H b=some u→¬ Mut (some u)→b≠x:=fun b u q nm z=>by subst z; rw [q] at mu; exact nm mu
 refine ⟨fun b u q n _ _=>k b u (hb b n) q,fun b u q n _ _=>⟨u.slots,k b u (hb b n) q⟩,fun b u q n _=>by rw [Z0e (hx b n)]; exact n,fun b u q _=>?_,
  fun b xs q=>by rw [Z0e (hm b _ q fun z=>z)]; exact q,fun b u xs q=>by rw [Z0e (hm b _ q fun z=>z)]; exact q,fun b ps q=>⟨#[],by rw [Z0e (hm b _ q fun z=>z),q]; simp⟩⟩
 by_cases hbe:b=e
 ·subst hbe; exact heo
 ·exact ⟨u,k b u hbe q⟩
end
def trk (h:Heap) (H:Hp):List y8:=(qc6 h.objs.size).filter fun a=>(H a).isSome
def hidT (h:Heap) (H:Hp):Heap:=W.hideAll h (trk h H)
theorem Z8Y (h:Heap) (H:Hp):(hidT h H).objs.size=h.objs.size:=W.hideAll_size _ _
theorem J1x {h:Heap} {H:Hp} {b:y8} {o:Obj} (e:h.get? b=some o) (n:H b=none):(hidT h H).get? b=some o:=
 W.hideAll_get _ e fun hm=>by
  have q:(H b).isSome=true:=(qd8.mp hm).2
  rw [n] at q; simp at q
theorem J4b {h:Heap} {H:Hp} {b:y8} {o:Obj} (e:(hidT h H).get? b=some o):h.get? b=some o∧H b=none:=by
 have e':h.get? b=some o:=W.of_hideAll (trk h H) e
 refine ⟨e',?_⟩
 cases q:H b with
 | none=>rfl
 | some x=>
  have hm:b∈trk h H:=qd8.mpr ⟨qi3.mpr (Heap.lt_size e'),by simp [q]⟩
  have z:(hidT h H).get? b=none:=W.hideAll_none (trk h H) hm
  rw [z] at e; cases e
def J3P (g h:Heap) (L:y8):List (y8×Obj):=(qc6 h.objs.size).filterMap fun a=>if a=L∨(g.get? a).isSome=true then none else (h.get? a).map fun o=>(a,o)
def rest (g h:Heap) (L d:y8):List (y8×Obj):=(J3P g h L).filter fun p=>decide (p.1≠d)
structure Mod (K:y9) (mg:Str→Option Value) (base:Heap):Prop where
 kin:K.In base
 glob:base.Ns mainGlobals mg
 blt:∃ mb,base.Ns builtinsNs mb∧∀ x:Str,x≠"__name__"→mb x=bootBuiltins x
 nolimit:base.NoLimit
structure Cx where
 prog:Program
 w:World
 K:y9
 mg:Str→Option Value
 base:Heap
 A:Around
 N:List Str
 s₀:Shared
 H₀:Hp
 env:Env
 outer:List Env
 stack:List Env
 ex:List y8
 fn:Str→Bool
 calm:Bool
 pn:List (y8×Obj)
 xe:Value→Shared→Prop
def frs (l:List Env):List y8:=l.filterMap (·.frame)
abbrev Cx.fs (X:Cx):List y8:=frs X.outer
def Vis (sc:Scope) (x:Str):Prop:=sc.names.lookup x=some .local∨sc.names.lookup x=some .cell∨sc.names.lookup x=some .free
def Loc (sc:Scope) (x:Str):Prop:=sc.names.lookup x=some .local∨sc.names.lookup x=some .cell
def Look (env:Env) (h:Heap) (m:Str→Option Value) (x:Str) (u:Value):Prop:=
 (env.kindOf x=some .local∧m x=some u)∨((env.kindOf x=some .cell∨env.kindOf x=some .free)∧∃ c,env.cells.lookup x=some c∧h.IsCell c (some u))
structure Cx.Ok (X:Cx):Prop where
 mod:Mod X.K X.mg X.base
 kind:X.env.scope.kind=.function
 glob:X.env.globals=mainGlobals
 blt:X.env.builtins=builtinsNs
 above:X.s₀.heap.objs.size≤X.env.locals
 inj:∀ x y c,X.env.cells.lookup x=some c→X.env.cells.lookup y=some c→x=y
 has:∀ x,(X.env.kindOf x=some .cell∨X.env.kindOf x=some .free)→∃ c,X.env.cells.lookup x=some c
 cab:∀ x c,X.fn x=true→X.env.cells.lookup x=some c→X.s₀.heap.objs.size≤c
 hd:X.calm=true→X.A.handled=none
 frames:X.A.frames=some X.stack
 stk:X.stack=X.outer∨(X.stack=X.env::X.outer∧X.env.frame=some X.env.locals)
 exf:∀ b∈X.ex,b≠X.env.locals∧∀ x c,X.env.cells.lookup x=some c→c≠b
 bs:∀ b o,X.base.get? b=some o→X.s₀.heap.get? b=some o∧X.H₀ b=none
 bsz:X.base.objs.size≤X.s₀.heap.objs.size
 noex:∀ b o,X.base.get? b=some o→b∉X.ex
 exfs:∀ b∈X.ex,b∉X.fs
 funs:X.s₀.heap.FunFrames X.base X.outer
 frf:∀ b∈X.fs,X.H₀ b=none
structure Inv (X:Cx) (pins:List (y8×Obj)) (σ:List (Option V)) (H:Hp) (s:Shared):Prop where
 ok:X.Ok
 os:s.os=X.s₀.os
 bare:AllBare s.gens
 base:Un X.fs X.ex X.H₀ H X.s₀.heap s.heap
 loc:∃ m,s.heap.Ns X.env.locals m∧∀ (i:Nat) (x:Str) (v:V),X.N[i]?=some x→σ[i]?=some (some v)→Vis X.env.scope x→∃ u,RelV v u∧Look X.env s.heap m x u
 cell:∀ x c,X.env.cells.lookup x=some c→∃ v,s.heap.IsCell c v
 free:H X.env.locals=none
 freeC:∀ x c,X.env.cells.lookup x=some c→H c=none
 pin:∀ p∈X.pn++pins,s.heap.get? p.1=some p.2∧H p.1=none∧p.1≠X.env.locals∧p.1∉X.fs∧∀ v,p.2.data≠.cell v
 hok:HOk X.prog X.w H s.heap
 len:σ.length=X.N.length
section
variable {X:Cx} {pins:List (y8×Obj)} {σ:List (Option V)} {H H':Hp} {s:Shared} {h':Heap}
theorem Cx.Ok.nofr (ok:X.Ok) {b:y8} {o:Obj} (e:X.base.get? b=some o):b∉X.fs:=fun hb=>by
 have:=(ok.funs.mem hb).1
 rw [e] at this; cases this
theorem Inv.bs (I:Inv X pins σ H s):∀ b o,X.base.get? b=some o→s.heap.get? b=some o∧H b=none:=fun b o e=>
 ⟨I.base.keep b o (I.ok.bs b o e).1 (I.ok.bs b o e).2 (I.ok.nofr e) (I.ok.noex b o e),I.base.free b o (I.ok.bs b o e).1 (I.ok.bs b o e).2 (I.ok.noex b o e)⟩
theorem Inv.bk (I:Inv X pins σ H s):∀ b o,X.base.get? b=some o→s.heap.get? b=some o:=fun b o e=>(I.bs b o e).1
theorem Inv.mod (I:Inv X pins σ H s):Mod X.K X.mg X.base:=I.ok.mod
theorem Inv.kIn (I:Inv X pins σ H s):X.K.In s.heap:=I.ok.mod.kin.keeps I.bk
theorem Inv.lt (I:Inv X pins σ H s):X.env.locals < s.heap.objs.size:=let ⟨_,hn,_⟩:=I.loc; hn.lt
theorem Inv.sz (I:Inv X pins σ H s):X.s₀.heap.objs.size≤s.heap.objs.size:=qa7 I.ok.above (Nat.le_of_lt I.lt)
theorem Inv.nofs (I:Inv X pins σ H s) {a:y8} (h:s.heap.objs.size≤a):a∉X.fs:=fun hb=>by
 obtain ⟨_,o,ho,_⟩:=I.ok.funs.mem hb
 exact absurd (qc1 (Heap.lt_size ho) (qa7 I.sz h)) (qf3 _)
theorem Inv.cne (I:Inv X pins σ H s):∀ x c,X.env.cells.lookup x=some c→c≠X.env.locals:=fun x c e z=>by
 obtain ⟨v,o,ho,hd⟩:=I.cell x c e
 obtain ⟨m,⟨o',es,ep,ho',hd',_⟩,_⟩:=I.loc
 rw [z,ho'] at ho; cases ho; rw [hd'] at hd; cases hd
theorem Inv.funs (I:Inv X pins σ H s):s.heap.FunFrames X.base X.outer:=by
 have all:∀ (l:List Env),(∀ b∈frs l,b∈X.fs)→X.s₀.heap.FunFrames X.base l→s.heap.FunFrames X.base l:=by
  intro l
  induction l with
  | nil=>intro _ _; trivial
  | cons env r ih=>
   intro hs hl
   obtain ⟨hk,⟨L,o,hf,hn,ho,hd⟩,hr⟩:=hl
   have hL:L∈X.fs:=hs L (by unfold frs; rw [qk8,hf]; exact qb5)
   obtain ⟨sl,e⟩:=I.base.slot L o ho (I.ok.frf L hL) hL fun z=>I.ok.exfs L z hL
   exact ⟨hk,⟨L,_,hf,hn,e,hd⟩,ih (fun b hb=>hs b (by unfold frs; rw [qk8,hf]; exact qb1 _ hb)) hr⟩
 exact all X.outer (fun _ hb=>hb) I.ok.funs
theorem Inv.stack (I:Inv X pins σ H s):s.heap.FunFrames X.base X.stack:=by
 rcases I.ok.stk with e | ⟨e,hf⟩
 ·rw [e]; exact I.funs
 ·rw [e]
  obtain ⟨m,hn,_⟩:=I.loc
  refine .cons (by rw [I.ok.kind]; decide) hf hn ?_ I.funs
  exact Heap.get?_none_of_le (qa7 I.ok.bsz I.ok.above)
theorem Inv.stkSub (I:Inv X pins σ H s):∀ b∈frs X.stack,b∈X.env.locals::X.fs:=fun b hb=>by
 rcases I.ok.stk with e | ⟨e,hf⟩
 ·rw [e] at hb; exact qb1 _ hb
 ·rw [e] at hb
  unfold frs at hb
  rw [qk8,hf] at hb
  exact hb
theorem Inv.stkFree (I:Inv X pins σ H s):∀ b∈frs X.stack,H b=none:=fun b hb=>by
 rcases qa8.mp (I.stkSub b hb) with e | hb
 ·rw [e]; exact I.free
 ·obtain ⟨_,o,ho,_⟩:=I.ok.funs.mem hb
  exact I.base.free b o ho (I.ok.frf b hb) fun z=>I.ok.exfs b z hb
theorem Inv.step {g':Array GenState} {t':Nat} {d':Drawn} {ch:List y8} (I:Inv X pins σ H s)
  (hch:∀ b∈ch,(b∈X.ex∨X.s₀.heap.objs.size≤b)∧b≠X.env.locals∧(∀ x c,X.env.cells.lookup x=some c→c≠b)∧∀ p∈X.pn++pins,p.1≠b)
  (keep:∀ b o,b≠X.env.locals→b∉X.fs→b∉ch→s.heap.get? b=some o→H b=none→h'.get? b=some o)
  (slot:∀ b o,b≠X.env.locals→b∈X.fs→b∉ch→s.heap.get? b=some o→H b=none→∃ sl,h'.get? b=some { o with slots:=sl }) (free:∀ b o,b∉ch→s.heap.get? b=some o→H b=none→H' b=none)
  (there:∀ b o,b∉ch→s.heap.get? b=some o→∃ o',h'.get? b=some o')
  (tups:∀ b xs,H b=some (.tup xs)→H' b=some (.tup xs)) (frzs:∀ b o u,H b=some (.frz o u)→H' b=some (.frz o u)) (tbls:∀ b ps,H b=some (.tbl ps)→∃ more,H' b=some (.tbl (ps++more)))
  (ns:∀ m,s.heap.Ns X.env.locals m→h'.Ns X.env.locals m) (hok:HOk X.prog X.w H' h') (hg:AllBare g') :
  Inv X pins σ H' { s with heap:=h',gens:=g',drawn:=d',toks:=t' }:=by
 have neL:∀ b o,X.s₀.heap.get? b=some o→b≠X.env.locals:=fun b o e=>qd2 (qc1 (Heap.lt_size e) I.ok.above)
 have neC:∀ b o,X.s₀.heap.get? b=some o→b∉X.ex→b∉ch:=fun b o e hx hb=>by
  rcases (hch b hb).1 with z | z
  ·exact hx z
  ·exact absurd (qc1 (Heap.lt_size e) z) (qf3 _)
 have cellK:∀ x c,X.env.cells.lookup x=some c→∀ v,s.heap.IsCell c v→h'.IsCell c v:=fun x c e v ⟨o,ho,hd⟩=>by
  have nch:c∉ch:=fun z=>(hch c z).2.2.1 x c e rfl
  by_cases hc:c∈X.fs
  ·obtain ⟨sl,q⟩:=slot c o (I.cne x c e) hc nch ho (I.freeC x c e)
   exact ⟨_,q,hd⟩
  ·exact ⟨o,keep c o (I.cne x c e) hc nch ho (I.freeC x c e),hd⟩
 refine ⟨I.ok,I.os,hg,⟨fun b o e n hb hx=>?_,fun b o e n hb hx=>?_,fun b o e n hx=>?_,fun b o e hx=>?_,fun b xs e=>tups b xs (I.base.tups b xs e),fun b o xs e=>frzs b o xs (I.base.frzs b o xs e),fun b ps e=>?_⟩,?_,fun x c e=>?_,?_,fun x c e=>?_,fun p hp=>?_,hok,I.len⟩
 ·exact keep b o (neL b o e) hb (neC b o e hx) (I.base.keep b o e n hb hx) (I.base.free b o e n hx)
 ·obtain ⟨sl,e1⟩:=I.base.slot b o e n hb hx
  obtain ⟨sl',e2⟩:=slot b _ (neL b o e) hb (neC b o e hx) e1 (I.base.free b o e n hx)
  exact ⟨sl',e2⟩
 ·obtain ⟨o',e1⟩:=I.base.there b o e hx
  exact free b o' (neC b o e hx) e1 (I.base.free b o e n hx)
 ·obtain ⟨o',e1⟩:=I.base.there b o e hx
  exact there b o' (neC b o e hx) e1
 ·obtain ⟨m1,e1⟩:=I.base.tbls b ps e
  obtain ⟨m2,e2⟩:=tbls b _ e1
  exact ⟨m1++m2,by rw [e2,Array.append_assoc]⟩
 ·obtain ⟨m,hn,hl⟩:=I.loc
  refine ⟨m,ns m hn,fun i x v e1 e2 e3=>?_⟩
  obtain ⟨u,r,l⟩:=hl i x v e1 e2 e3
  refine ⟨u,r,?_⟩
  rcases l with l | ⟨k,c,e,z⟩
  ·exact .inl l
  ·exact .inr ⟨k,c,e,cellK x c e _ z⟩
 ·obtain ⟨v,z⟩:=I.cell x c e
  exact ⟨v,cellK x c e v z⟩
 ·obtain ⟨m,⟨o,_,_,ho,_⟩,_⟩:=I.loc
  exact free _ o (fun z=>(hch _ z).2.1 rfl) ho I.free
 ·obtain ⟨v,o,ho,hd⟩:=I.cell x c e
  exact free c o (fun z=>(hch c z).2.2.1 x c e rfl) ho (I.freeC x c e)
 ·obtain ⟨e,n,ne,nf,d⟩:=I.pin p hp
  have nch:p.1∉ch:=fun z=>(hch p.1 z).2.2.2 p hp rfl
  exact ⟨keep p.1 p.2 ne nf nch e n,free p.1 p.2 nch e n,ne,nf,d⟩
theorem Inv.un {t':Nat} (I:Inv X pins σ H s) (u:Un X.fs [] H H' s.heap h') (hok:HOk X.prog X.w H' h'):Inv X pins σ H' { s with heap:=h',toks:=t' }:=by
 obtain ⟨m,⟨o,es,ep,ho,r⟩,_⟩:=id I.loc
 obtain ⟨sl,hL⟩:=u.any ho I.free (by simp)
 exact I.step (g':=s.gens) (d':=s.drawn) (ch:=[]) (fun _ z=>nomatch z) (fun b o _ hb _ e n=>u.keep b o e n hb (by simp)) (fun b o _ hb _ e n=>u.slot b o e n hb (by simp)) (fun b o _ e n=>u.free b o e n (by simp)) (fun b o _ e=>u.there b o e (by simp)) u.tups u.frzs u.tbls (fun m' hm=>by
  obtain ⟨o',es',ep',ho',r'⟩:=hm
  rw [ho] at ho'; cases ho'
  exact ⟨_,es',ep',hL,r'⟩) hok I.bare
theorem Inv.call {g':Array GenState} {t':Nat} {d':Drawn} {ch:List y8} (I:Inv X pins σ H s) (u:Un (frs X.stack) ch H H' s.heap h') (hok:HOk X.prog X.w H' h') (hg:AllBare g')
  (hch:∀ b∈ch,(b∈X.ex∨X.s₀.heap.objs.size≤b)∧b≠X.env.locals∧(∀ x c,X.env.cells.lookup x=some c→c≠b)∧∀ p∈X.pn++pins,p.1≠b) :
  Inv X pins σ H' { s with heap:=h',gens:=g',drawn:=d',toks:=t' }:=by
 obtain ⟨m,⟨o,es,ep,ho,r⟩,_⟩:=id I.loc
 obtain ⟨sl,hL⟩:=u.any ho I.free fun z=>(hch _ z).2.1 rfl
 exact I.step (ch:=ch) hch (fun b o hL hb hc e n=>u.keep b o e n (fun z=>(qa8.mp (I.stkSub b z)).elim hL hb) hc) (fun b o _ _ hc e n=>u.any e n hc) (fun b o hc e n=>u.free b o e n hc) (fun b o hc e=>u.there b o e hc) u.tups u.frzs u.tbls (fun m' hm=>by
  obtain ⟨o',es',ep',ho',r'⟩:=hm
  rw [ho] at ho'; cases ho'
  exact ⟨_,es',ep',hL,r'⟩) hok hg
theorem Inv.turned {t':Nat} {it:y8} (I:Inv X pins σ H s) (k:∀ b o,b≠it→s.heap.get? b=some o→h'.get? b=some o) (hn:H it=none) (hL:it≠X.env.locals)
  (h1:it∈X.ex∨X.s₀.heap.objs.size≤it) (h2:∀ x c,X.env.cells.lookup x=some c→c≠it) (h3:∀ p∈X.pn++pins,p.1≠it):Inv X pins σ H { s with heap:=h',toks:=t' }:=by
 have nit:∀ b u,H b=some u→b≠it:=fun b u e z=>by rw [z,hn] at e; cases e
 refine I.step (g':=s.gens) (d':=s.drawn) (ch:=[it]) (fun b hb=>?_) (fun b o _ _ hc e _=>k b o (fun z=>hc (by simp [z])) e) (fun b o _ _ hc e _=>⟨o.slots,k b o (fun z=>hc (by simp [z])) e⟩) (fun _ _ _ _ n=>n)
  (fun b o hc e=>⟨o,k b o (fun z=>hc (by simp [z])) e⟩) (fun _ _ e=>e) (fun _ _ _ e=>e) (fun b ps e=>⟨#[],by rw [e]; simp⟩) (fun m hm=>?_) (fun b u e=>?_) I.bare
 ·have e:b=it:=by simpa using hb
  subst e
  exact ⟨h1,hL,h2,h3⟩
 ·obtain ⟨o,es,ep,ho,r⟩:=hm
  exact ⟨o,es,ep,k _ o (Ne.symm hL) ho,r⟩
 ·refine (I.hok b u e).stay (fun c v hc q=>k c v ?_ q) (fun _ q=>q) fun _ _ q=>q
  rcases hc with z | z
  ·rw [z]; exact nit b u e
  ·exact nit c _ z
theorem Inv.tok (I:Inv X pins σ H s) (t:Nat):Inv X pins σ H { s with toks:=t }:=I.un (h':=s.heap) (t':=t) Un.refl I.hok
theorem Inv.kept {t':Nat} (I:Inv X pins σ H s) (k:∀ b u,s.heap.get? b=some u→h'.get? b=some u):Inv X pins σ H { s with heap:=h',toks:=t' }:=I.un (Un.kept k) (I.hok.kept k)
theorem Inv.laid {a:y8} {o:HO} {t':Nat} (I:Inv X pins σ H s) (k:∀ b u,s.heap.get? b=some u→h'.get? b=some u) (hp:s.heap.objs.size≤a) (new:ObjOk X.prog X.w (upd H a o) h' a o) :
  Inv X pins σ (upd H a o) { s with heap:=h',toks:=t' }:=I.un (Un.laid k hp (I.hok.fresh hp)) (I.hok.laid k hp new)
theorem Inv.write {x e:y8} {o:HO} {t':Nat} (I:Inv X pins σ H s) (mu:Mut (H x)) (he:e=x∨H e=some (.own x)) (k:∀ b u,b≠e→s.heap.get? b=some u→h'.get? b=some u) (heo:∃ u,h'.get? e=some u)
  (new:ObjOk X.prog X.w (upd H x o) h' x o):Inv X pins σ (upd H x o) { s with heap:=h',toks:=t' }:=I.un (Un.write mu he k heo) (I.hok.write mu he k heo new)
theorem Inv.pins_of {pins':List (y8×Obj)} (I:Inv X pins σ H s) (h:∀ p∈pins',s.heap.get? p.1=some p.2∧H p.1=none∧p.1≠X.env.locals∧p.1∉X.fs∧∀ v,p.2.data≠.cell v):Inv X pins' σ H s:=
 ⟨I.ok,I.os,I.bare,I.base,I.loc,I.cell,I.free,I.freeC,fun p hp=>(qd9.mp hp).elim (fun z=>I.pin p (qj2 _ z)) (h p),I.hok,I.len⟩
theorem Z7Q {N:List Str} (hN:N.Nodup) {i j:Nat} {x:Str} (a:N[i]?=some x) (b:N[j]?=some x):i=j:=by
 obtain ⟨h1,e1⟩:=qa9.mp a
 obtain ⟨h2,e2⟩:=qa9.mp b
 exact (List.getElem_inj hN).mp (e1.trans e2.symm)
theorem Z5V {M:Model} {A:Around} {E:Value→Shared→Prop} {i:Nat} {x:Str} {v:V} {u:Value} {Q:Unit→Shared→Prop} (I:Inv X pins σ H s) (hN:X.N.Nodup) (hi:X.N[i]?=some x) (hx:Loc X.env.scope x) (r:RelV v u)
  (h:∀ s',Inv X pins (σ.set i (some v)) H s'→(∃ a,Heap.SameBut a s.heap s'.heap∧(a=X.env.locals∨X.env.cells.lookup x=some a))→Q () s') (hf:X.fn x=true∨X.env.scope.names.lookup x=some .local:=by first | exact .inl rfl | exact .inr rfl | assumption):wpAny M A (storeName X.env x u) Q E s:=by
 obtain ⟨m,hn,hl⟩:=id I.loc
 have hcls:(X.env.scope.kind == .class || (X.env.scope.kind == .module&&X.env.locals != X.env.globals))=false:=by rw [I.ok.kind]; rfl
 have hiσ:i < σ.length:=by rw [I.len]; exact (qa9.mp hi).1
 have cne:=I.cne
 have tracked:∀ {a:y8} {h':Heap},(∃ o,s.heap.get? a=some o∧H a=none)→Heap.SameBut a s.heap h'→HOk X.prog X.w H h':=fun {a h'} ha hs b ob e=>by
  obtain ⟨_,_,hfree⟩:=ha
  refine (I.hok b ob e).stay (fun c w' hc q=>(hs.2 c ?_).trans q) (fun _ q=>q) fun _ _ q=>q
  rintro rfl
  rcases hc with rfl | hc
  ·rw [hfree] at e; cases e
  ·rw [hfree] at hc; cases hc
 rcases hx with hk | hk
 ·refine wpAny_storeName_local hk hn (fun h' hn' hs=>?_) hcls
  obtain ⟨oL,_,_,hoL,_⟩:=id hn
  refine h _ ⟨I.ok,I.os,I.bare,⟨fun b o e n hb hx=>?_,fun b o e n hb hx=>?_,I.base.free,fun b o e hx=>?_,I.base.tups,I.base.frzs,I.base.tbls⟩,⟨_,hn',fun j y v' e1 e2 e3=>?_⟩,fun y c e=>?_,I.free,I.freeC,fun p hp=>?_,tracked ⟨oL,hoL,I.free⟩ hs,by simpa using I.len⟩ ⟨_,hs,.inl rfl⟩
  ·exact (hs.2 b (qd2 (qc1 (Heap.lt_size e) I.ok.above))).trans (I.base.keep b o e n hb hx)
  ·obtain ⟨sl,e1⟩:=I.base.slot b o e n hb hx
   exact ⟨sl,(hs.2 b (qd2 (qc1 (Heap.lt_size e) I.ok.above))).trans e1⟩
  ·obtain ⟨o',e1⟩:=I.base.there b o e hx
   exact ⟨o',(hs.2 b (qd2 (qc1 (Heap.lt_size e) I.ok.above))).trans e1⟩
  ·by_cases hj:j=i
   ·subst hj
    rw [hi] at e1; cases e1
    rw [List.getElem?_set_self hiσ] at e2
    cases e2
    exact ⟨u,r,.inl ⟨hk,by simp⟩⟩
   ·rw [List.getElem?_set_ne (Ne.symm hj)] at e2
    obtain ⟨u',r',q⟩:=hl j y v' e1 e2 e3
    refine ⟨u',r',?_⟩
    rcases q with ⟨k,e⟩ | ⟨k,c,e,z⟩
    ·refine .inl ⟨k,?_⟩
     have:y≠x:=fun e=>hj (Z7Q hN e1 (e▸hi))
     simp [this,e]
    ·exact .inr ⟨k,c,e,z.sameBut hs (cne y c e)⟩
  ·obtain ⟨w',z⟩:=I.cell y c e
   exact ⟨w',z.sameBut hs (cne y c e)⟩
  ·obtain ⟨e,n,ne,nf,d⟩:=I.pin p hp
   exact ⟨(hs.2 p.1 ne).trans e,n,ne,nf,d⟩
 ·have hfn:X.fn x=true:=by
   rcases hf with z | z
   ·exact z
   ·rw [z] at hk; cases hk
  obtain ⟨c,hc⟩:=I.ok.has x (.inl hk)
  obtain ⟨w',z⟩:=I.cell x c hc
  refine wpAny_storeName_cell I.ok.kind hk hc z (fun h' hc' hs=>?_)
  obtain ⟨oc,hoc,hocd⟩:=id z
  refine h { s with heap:=h' } ⟨I.ok,I.os,I.bare,⟨fun b o e n hb hx=>?_,fun b o e n hb hx=>?_,I.base.free,fun b o e hx=>?_,I.base.tups,I.base.frzs,I.base.tbls⟩,⟨m,hn.sameBut hs (Ne.symm (cne x c hc)),fun j y v' e1 e2 e3=>?_⟩,fun y c' e=>?_,I.free,I.freeC,fun p hp=>?_,tracked ⟨oc,hoc,I.freeC x c hc⟩ hs,by simpa using I.len⟩ ⟨c,hs,.inr hc⟩
  ·exact (hs.2 b (qd2 (qc1 (Heap.lt_size e) (I.ok.cab x c hfn hc)))).trans (I.base.keep b o e n hb hx)
  ·obtain ⟨sl,e1⟩:=I.base.slot b o e n hb hx
   exact ⟨sl,(hs.2 b (qd2 (qc1 (Heap.lt_size e) (I.ok.cab x c hfn hc)))).trans e1⟩
  ·obtain ⟨o',e1⟩:=I.base.there b o e hx
   exact ⟨o',(hs.2 b (qd2 (qc1 (Heap.lt_size e) (I.ok.cab x c hfn hc)))).trans e1⟩
  ·by_cases hj:j=i
   ·subst hj
    rw [hi] at e1; cases e1
    rw [List.getElem?_set_self hiσ] at e2
    cases e2
    exact ⟨u,r,.inr ⟨.inl hk,c,hc,hc'⟩⟩
   ·rw [List.getElem?_set_ne (Ne.symm hj)] at e2
    obtain ⟨u',r',q⟩:=hl j y v' e1 e2 e3
    refine ⟨u',r',?_⟩
    rcases q with q | ⟨k,c',e,z'⟩
    ·exact .inl q
    ·refine .inr ⟨k,c',e,z'.sameBut hs ?_⟩
     rintro rfl
     exact hj (Z7Q hN e1 (I.ok.inj _ _ _ e hc▸hi))
  ·by_cases hcc:c'=c
   ·subst hcc; exact ⟨_,hc'⟩
   ·obtain ⟨w2,z2⟩:=I.cell y c' e
    exact ⟨w2,z2.sameBut hs hcc⟩
  ·obtain ⟨e,n,ne,nf,d⟩:=I.pin p hp
   refine ⟨(hs.2 p.1 ?_).trans e,n,ne,nf,d⟩
   intro q
   rw [q,hoc] at e
   have q':oc=p.2:=qb7 e
   exact d w' (by rw [← q']; exact hocd)
theorem Z7y {M:Model} {A:Around} {E:Value→Shared→Prop} {i:Nat} {x:Str} {v:V} {u:Value} {Q:Unit→Shared→Prop} (I:Inv X pins σ H s) (hN:X.N.Nodup) (hi:X.N[i]?=some x) (hx:Loc X.env.scope x) (r:RelV v u)
  (h:∀ s',Inv X pins (σ.set i (some v)) H s'→Q () s') (hf:X.fn x=true∨X.env.scope.names.lookup x=some .local:=by first | exact .inl rfl | exact .inr rfl | assumption):wpAny M A (storeName X.env x u) Q E s:=
 Z5V I hN hi hx r (fun s' I' _=>h s' I') hf
end
abbrev XK:=Value→Option y8→Hp→Prop
abbrev St:=List (Option V)
abbrev VK:=V→Hp→Prop
abbrev TE:=St→Hp→VK→Prop
abbrev TT:=St→Hp→(Bool→Hp→Prop)→Prop
abbrev TA:=St→Hp→(List V→Hp→Prop)→Prop
structure Ends where
 nx:St→Hp→Prop
 rt:VK
 bk:St→Hp→Prop:=fun _ _=>False
 ct:St→Hp→Prop:=fun _ _=>False
abbrev TS:=Ends→St→Hp→Prop
def EP (X:Cx) (pins:List (y8×Obj)) (σ:St) (Q:VK) (u:Value) (s':Shared):Prop:=∃ v H',Inv X pins σ H' s'∧RelV v u∧Q v H'
def TP (X:Cx) (pins:List (y8×Obj)) (σ:St) (Q:Bool→Hp→Prop) (b:Bool) (s':Shared):Prop:=∃ H',Inv X pins σ H' s'∧Q b H'
def AP (X:Cx) (pins:List (y8×Obj)) (σ:St) (Q:List V→Hp→Prop) (us:List Value) (s':Shared):Prop:=∃ vs H',Inv X pins σ H' s'∧Vals vs us∧Q vs H'
def SP (X:Cx) (pins:List (y8×Obj)) (D:Ends) (f:Flow) (s':Shared):Prop:=
 match f with
 | .next=>∃ σ' H',Inv X pins σ' H' s'∧D.nx σ' H'
 | .brk=>∃ σ' H',Inv X pins σ' H' s'∧D.bk σ' H'
 | .cont=>∃ σ' H',Inv X pins σ' H' s'∧D.ct σ' H'
 | .ret u=>∃ v σ' H',Inv X pins σ' H' s'∧RelV v u∧D.rt v H'
def PE (X:Cx) (e:Expr) (t:TE):Prop:=
 ∀ (pins:List (y8×Obj)) (s:Shared) (σ:St) (H:Hp) (Q:VK),Inv X pins σ H s→t σ H Q→wpAny (model X.prog X.w) X.A (eval e X.env) (EP X pins σ Q) X.xe s
def PT (X:Cx) (e:Expr) (t:TT):Prop:=
 ∀ (pins:List (y8×Obj)) (s:Shared) (σ:St) (H:Hp) (Q:Bool→Hp→Prop),Inv X pins σ H s→t σ H Q→wpAny (model X.prog X.w) X.A (isTrue e X.env (eval e X.env)) (TP X pins σ Q) X.xe s
def PW (X:Cx) (e:Expr) (t:TT):Prop:=
 ∀ (whole:Sem Value) (pins:List (y8×Obj)) (s:Shared) (σ:St) (H:Hp) (Q:Bool→Hp→Prop),Inv X pins σ H s→t σ H Q→wpAny (model X.prog X.w) X.A (isTrue e X.env whole) (TP X pins σ Q) X.xe s
theorem PW.pt {X:Cx} {e:Expr} {t:TT} (h:PW X e t):PT X e t:=h _
def PA (X:Cx) (es:List Expr) (t:TA):Prop:=
 ∀ (pos:Pos) (pins:List (y8×Obj)) (s:Shared) (σ:St) (H:Hp) (Q:List V→Hp→Prop),Inv X pins σ H s→t σ H Q→wpAny (model X.prog X.w) X.A (spliced (backTo pos (starEach es X.env))) (AP X pins σ Q) X.xe s
def PS (X:Cx) (st:Stmt) (t:TS):Prop:=
 ∀ (pins:List (y8×Obj)) (s:Shared) (σ:St) (H:Hp) (D:Ends),Inv X pins σ H s→t D σ H→wpAny (model X.prog X.w) X.A (exec st X.env) (SP X pins D) X.xe s
def PSs (X:Cx) (st:List Stmt) (t:TS):Prop:=
 ∀ (pins:List (y8×Obj)) (s:Shared) (σ:St) (H:Hp) (D:Ends),Inv X pins σ H s→t D σ H→wpAny (model X.prog X.w) X.A (execs st X.env) (SP X pins D) X.xe s
theorem thn {α:Type} {t:Sem α} {Q Q':α→Shared→Prop} {M:Model} {A:Around} {E:Value→Shared→Prop} {s:Shared} (h:wpAny M A t Q E s) (hQ:∀ a s,Q a s→Q' a s):wpAny M A t Q' E s:=wpAny_mono h hQ fun _ _ x=>x
section
variable {X:Cx}
theorem bin {a b:Expr} {ta tb:TE} (ha:PE X a ta) (hb:PE X b tb) {pins:List (y8×Obj)} {s:Shared} {σ:St} {H:Hp} {R:V→V→Hp→Prop} (I:Inv X pins σ H s) (h:ta σ H fun x H1=>tb σ H1 fun y H2=>R x y H2)
  {α:Type} {Q:α→Shared→Prop} {f:Value→Value→Sem α}
  (hf:∀ v u s2 x y H2,Inv X pins σ H2 s2→RelV x v→RelV y u→R x y H2→wpAny (model X.prog X.w) X.A (f v u) Q X.xe s2) :
  wpAny (model X.prog X.w) X.A (eval a X.env) (fun v s₁=>wpAny (model X.prog X.w) X.A (eval b X.env) (fun u s₂=>wpAny (model X.prog X.w) X.A (f v u) Q X.xe s₂) X.xe s₁) X.xe s:=by
 refine thn (ha pins s σ H _ I h) fun v s1 ⟨x,H1,I1,r1,q1⟩=>?_
 refine thn (hb pins s1 σ H1 _ I1 q1) fun u s2 ⟨y,H2,I2,r2,q2⟩=>?_
 exact hf v u s2 x y H2 I2 r1 r2 q2
def tVar (i:Nat):TE:=fun σ H Q=>∃ v,σ[i]?=some (some v)∧Q v H
def tC (v:V):TE:=fun _ H Q=>Q v H
theorem J2x {i:Nat} {x:Str} {pos:Pos} (hN:X.N[i]?=some x) (hv:Vis X.env.scope x) (hd:(x == ("__debug__":Str))=false:=by decide) (hcd:(x == ("__classdict__":Str))=false:=by decide):PE X (.Name x pos) (tVar i):=by
 intro pins s σ H Q I h
 obtain ⟨v,e,h⟩:=h
 obtain ⟨m,hn,hl⟩:=I.loc
 obtain ⟨u,r,l⟩:=hl i x v hN e hv
 have fin:EP X pins σ Q u s:=⟨v,H,I,r,h⟩
 rcases l with ⟨hk,hm⟩ | ⟨hk,c,hc,hcell⟩
 ·exact wpAny_Name (wpAny_loadName_local I.ok.kind hk hn hm fin) hd
 ·rcases hk with hk | hk
  ·exact wpAny_Name (wpAny_loadName_cell I.ok.kind hk hc hcell fin) hd
  ·exact wpAny_Name (wpAny_loadName_free I.ok.kind hk hc hcell fin hcd) hd
theorem Z0c {i j pos}:PE X (.Constant (.int i) j pos) (tC (.int i)):=fun _ _ _ H _ I h=>wpAny_Constant_int ⟨.int i,H,I.tok _,⟨_,rfl⟩,h⟩
theorem Z8r {b j pos}:PE X (.Constant (.bool b) j pos) (tC (.bl b)):=fun _ _ _ H _ I h=>Constant_bool ⟨.bl b,H,I,rfl,h⟩
theorem Z1d {j pos}:PE X (.Constant .none j pos) (tC .non):=fun _ _ _ H _ I h=>Constant_none ⟨.non,H,I,rfl,h⟩
theorem Z0g {x j pos}:PE X (.Constant (.str x) j pos) (tC (.str x)):=fun _ _ _ H _ I h=>Calls.Constant_str ⟨.str x,H,I.tok _,⟨_,rfl⟩,h⟩
def Gl (X:Cx) (x:Str):Prop:=X.env.kindOf x=some .globalImplicit
theorem Z5w {E:Value→Shared→Prop} {pins:List (y8×Obj)} {s:Shared} {σ:St} {H:Hp} {x:Str} {u:Value} {pos:Pos} {Q:Value→Shared→Prop} (I:Inv X pins σ H s) (hg:Gl X x) (hm:X.mg x=some u) (h:Q u s)
  (hd:(x == ("__debug__":Str))=false:=by decide):wpAny (model X.prog X.w) X.A (eval (.Name x pos) X.env) Q E s:=
 Calls.Name_function_global I.ok.kind hg (Calls.loadGlobal_global (by rw [I.ok.glob]; exact I.mod.glob.keeps I.bk) hm h) hd
theorem Z7P {E:Value→Shared→Prop} {pins:List (y8×Obj)} {s:Shared} {σ:St} {H:Hp} {x:Str} {u:Value} {pos:Pos} {Q:Value→Shared→Prop} (I:Inv X pins σ H s) (hg:Gl X x) (hm:X.mg x=none) (hv:bootBuiltins x=some u) (h:Q u s)
  (hn:x≠"__name__":=by decide) (hd:(x == ("__debug__":Str))=false:=by decide):wpAny (model X.prog X.w) X.A (eval (.Name x pos) X.env) Q E s:=by
 obtain ⟨mb,h1,h2⟩:=I.mod.blt
 exact Calls.Name_function_global I.ok.kind hg (Calls.loadGlobal_builtin (by rw [I.ok.glob]; exact I.mod.glob.keeps I.bk) hm (by rw [I.ok.blt]; exact h1.keeps I.bk) ((h2 x hn).trans hv) h) hd
theorem J3J {x:Str} {v:V} {u:Value} {pos:Pos} (hg:Gl X x) (hm:X.mg x=some u) (r:RelV v u) (hd:(x == ("__debug__":Str))=false:=by decide):PE X (.Name x pos) (tC v):=
 fun _ _ _ H _ I h=>Z5w I hg hm ⟨v,H,I,r,h⟩ hd
theorem J0x {x:Str} {v:V} {u:Value} {pos:Pos} (hg:Gl X x) (hm:X.mg x=none) (hv:bootBuiltins x=some u) (r:RelV v u) (hn:x≠"__name__":=by decide) (hd:(x == ("__debug__":Str))=false:=by decide):PE X (.Name x pos) (tC v):=
 fun _ _ _ H _ I h=>Z7P I hg hm hv ⟨v,H,I,r,h⟩ hn hd
variable {a b:Expr} {ta tb:TE} {pos:Pos}
def PC (X:Cx) (op:CmpOp) (a b:Expr) (t:TE):Prop:=
 ∀ (pins:List (y8×Obj)) (s:Shared) (σ:St) (H:Hp) (Q:VK),Inv X pins σ H s→t σ H Q →
  wpAny (model X.prog X.w) X.A (eval a X.env) (fun v s₁=>wpAny (model X.prog X.w) X.A (eval b X.env) (fun u s₂=>wpAny (model X.prog X.w) X.A (compareOp op v u) (EP X pins σ Q) X.xe s₂) X.xe s₁) X.xe s
theorem J1Z (b:Expr) {op:CmpOp} (h:op≠.In) (h2:op≠.NotIn):behindInMarks op b=false:=by
 have e1:(op == CmpOp.In)=false:=by cases op <;> first | rfl | exact absurd rfl h
 have e2:(op == CmpOp.NotIn)=false:=by cases op <;> first | rfl | exact absurd rfl h2
 cases b <;> simp [behindInMarks,e1,e2]
def tB (t:TE):TT:=fun σ H Q=>t σ H fun x H1=>∃ c,x=.bl c∧Q c H1
theorem J5d {op:CmpOp} {t:TE} (h:PC X op a b t) (h1:behindInMarks op b=false:=by first | exact J1Z _ qQ qQ | rfl):PT X (.Compare a [op] [b] pos) (tB t):=by
 intro pins s σ H Q I hw
 refine wpAny_isTrue_Compare1 (thn (h pins s σ H _ I hw) fun v s1 h1=>thn h1 fun u s2 h2=>thn h2 fun c s3 ⟨x,H1,I1,r1,q1⟩=>?_) h1
 obtain ⟨d,rfl,q⟩:=q1
 cases r1
 exact wpAny_truthy_bool ⟨H1,I1,q⟩
theorem Z3m {e:Expr} {t:TE} (h:PE X e t) (he:∀ whole,isTrue e X.env whole=(do let v ← whole; standAt e.pos; holding [v] (truthy v)):=by intro _; rfl):PT X e (tB t):=by
 intro pins s σ H Q I hw
 refine isTrue_plain (thn (h pins s σ H _ I hw) fun v s1 ⟨x,H1,I1,r1,q1⟩=>?_) (he _)
 obtain ⟨d,rfl,q⟩:=q1
 cases r1
 exact wpAny_truthy_bool ⟨H1,I1,q⟩
variable {tA tB':TT} {rest:List Expr}
def tAnd (t u:TT):TT:=fun σ H Q=>t σ H fun c H1=>if c=true then u σ H1 Q else Q false H1
def tOr (t u:TT):TT:=fun σ H Q=>t σ H fun c H1=>if c=true then Q true H1 else u σ H1 Q
def tNot (t:TT):TT:=fun σ H Q=>t σ H fun c H1=>Q (!c) H1
theorem Z2U (ha:PT X a tA):PW X (.BoolOp .And [a] pos) tA:=by
 intro wh pins s σ H Q I h
 refine isTrue_and (thn (ha pins s σ H Q I h) fun c s1 e=>?_)
 cases c with
 | true=>exact isTrue_and_nil e
 | false=>exact e
theorem J2e (ha:PT X a tA):PW X (.BoolOp .Or [a] pos) tA:=by
 intro wh pins s σ H Q I h
 refine isTrue_or (thn (ha pins s σ H Q I h) fun c s1 e=>?_)
 cases c with
 | false=>exact isTrue_or_nil e
 | true=>exact e
theorem Z3U (ha:PT X a tA) (hb:PW X (.BoolOp .And (b::rest) pos) tB'):PW X (.BoolOp .And (a::b::rest) pos) (tAnd tA tB'):=by
 intro wh pins s σ H Q I h
 refine isTrue_and (thn (ha pins s σ H _ I h) fun c s1 ⟨H1,I1,q1⟩=>?_)
 cases c with
 | true=>exact hb wh pins s1 σ H1 Q I1 q1
 | false=>exact ⟨H1,I1,q1⟩
theorem J3l (ha:PT X a tA) (hb:PW X (.BoolOp .Or (b::rest) pos) tB'):PW X (.BoolOp .Or (a::b::rest) pos) (tOr tA tB'):=by
 intro wh pins s σ H Q I h
 refine isTrue_or (thn (ha pins s σ H _ I h) fun c s1 ⟨H1,I1,q1⟩=>?_)
 cases c with
 | true=>exact ⟨H1,I1,q1⟩
 | false=>exact hb wh pins s1 σ H1 Q I1 q1
theorem J4G (ha:PT X a tA):PT X (.UnaryOp .Not a pos) (tNot tA):=by
 intro pins s σ H Q I h
 exact isTrue_not (ha pins s σ H (fun c H1=>Q (!c) H1) I h)
def J4w (ta tb:TE):TE:=fun σ H Q=>ta σ H fun x H1=>∃ c,x=.bl c∧if c=true then tb σ H1 Q else Q (.bl false) H1
def tOrV (ta tb:TE):TE:=fun σ H Q=>ta σ H fun x H1=>∃ c,x=.bl c∧if c=true then Q (.bl true) H1 else tb σ H1 Q
def J4R (ta:TE):TE:=fun σ H Q=>ta σ H fun x H1=>∃ c,x=.bl c∧Q (.bl (!c)) H1
theorem Z9D {op} {t:TE} (h:PE X a t):PE X (.BoolOp op [a] pos) t:=fun pins s σ H Q I hw=>BoolOp_one (h pins s σ H Q I hw)
theorem J2F (ha:PE X a ta) (hb:PE X (.BoolOp .And (b::rest) pos) tb):PE X (.BoolOp .And (a::b::rest) pos) (J4w ta tb):=by
 intro pins s σ H Q I h
 refine BoolOp_and (thn (ha pins s σ H _ I h) fun v s1 ⟨x,H1,I1,r1,q1⟩=>?_)
 obtain ⟨c,rfl,q1⟩:=q1
 cases r1
 refine wpAny_truthy_bool ?_
 cases c with
 | true=>exact hb pins s1 σ H1 Q I1 q1
 | false=>exact ⟨.bl false,H1,I1,rfl,q1⟩
theorem J6N (ha:PE X a ta) (hb:PE X (.BoolOp .Or (b::rest) pos) tb):PE X (.BoolOp .Or (a::b::rest) pos) (tOrV ta tb):=by
 intro pins s σ H Q I h
 refine BoolOp_or (thn (ha pins s σ H _ I h) fun v s1 ⟨x,H1,I1,r1,q1⟩=>?_)
 obtain ⟨c,rfl,q1⟩:=q1
 cases r1
 refine wpAny_truthy_bool ?_
 cases c with
 | false=>exact hb pins s1 σ H1 Q I1 q1
 | true=>exact ⟨.bl true,H1,I1,rfl,q1⟩
theorem J2G (ha:PE X a ta):PE X (.UnaryOp .Not a pos) (J4R ta):=by
 intro pins s σ H Q I h
 refine UnaryOp_ (thn (ha pins s σ H _ I h) fun v s1 ⟨x,H1,I1,r1,q1⟩=>?_)
 obtain ⟨c,rfl,q1⟩:=q1
 cases r1
 exact not_of (wpAny_truthy_bool ⟨.bl (!c),H1,I1,rfl,q1⟩)
def tIf (t:TT) (ta tb:TE):TE:=fun σ H Q=>t σ H fun c H1=>if c=true then ta σ H1 Q else tb σ H1 Q
theorem Z2G {c:Expr} (hc:PT X c tA) (ha:PE X a ta) (hb:PE X b tb):PE X (.IfExp c a b pos) (tIf tA ta tb):=by
 intro pins s σ H Q I h
 refine wpAny_IfExp (thn (hc pins s σ H _ I h) fun d s1 ⟨H1,I1,q1⟩=>?_)
 cases d with
 | true=>exact ha pins s1 σ H1 Q I1 q1
 | false=>exact hb pins s1 σ H1 Q I1 q1
end
def SqL (K:y9) (H:Hp) (a:y8) (xs:List V):Prop:=
 Rd H a (.lst xs) ∨
  ∃ (o:Obj) (its:Array Value) (n:Nat),K.lookup a=some o∧o.cls=.type "list"∧o.dict=none∧o.data=.seq its n∧its.size≤sizeLine∧Vals xs its.toList
def SqT (K:y9) (H:Hp) (a:y8) (xs:List V):Prop:=
 Rd H a (.tup xs) ∨
  ∃ (o:Obj) (its:Array Value) (n:Nat),K.lookup a=some o∧(o.cls=.type "tuple"∧o.dict=none)∧o.data=.seq its n∧its.size≤sizeLine∧Vals xs its.toList
def absV:Value→Option V
 | .none=>some .non
 | .bool b=>some (.bl b)
 | .int i _=>some (.int i)
 | .str x _=>some (.str x)
 | .bytes b _=>some (.byt b)
 | .float b _=>some (.flt b)
 | .ref a=>some (.ref a)
 | .type n=>some (.ty n)
 | _=>none
theorem RelV.abs {x:V} {u:Value} (r:RelV x u):absV u=some x:=by
 cases x with
 | non=>cases r; rfl
 | bl _=>cases r; rfl
 | int _=>obtain ⟨t,rfl⟩:=r; rfl
 | str _=>obtain ⟨t,rfl⟩:=r; rfl
 | byt _=>obtain ⟨t,rfl⟩:=r; rfl
 | flt _=>obtain ⟨t,rfl⟩:=r; rfl
 | ref _=>cases r; rfl
 | ty _=>cases r; rfl
theorem RelV.inj {x y:V} {u:Value} (r:RelV x u) (q:RelV y u):x=y:=qb7 (r.abs.symm.trans q.abs)
theorem Vals.inj:∀ {xs ys:List V} {us:List Value},Vals xs us→Vals ys us→xs=ys
 | _,_,_,.nil,.nil=>rfl
 | _,_,_,.cons r t,.cons r' t'=>by rw [r.inj r',Vals.inj t t']
section
variable {X:Cx} {pins:List (y8×Obj)} {σ:St} {H:Hp} {s:Shared} {a:y8} {xs ys:List V}
theorem SqL.of {K:y9} (h:H a=some (.lst xs)):SqL K H a xs:=.inl (.inl h)
theorem SqT.of {K:y9} (h:H a=some (.tup xs)):SqT K H a xs:=.inl (.inl h)
theorem Inv.list (I:Inv X pins σ H s) (h:SqL X.K H a xs):∃ its:List Value,Vals xs its∧PlainL s.heap a its.toArray∧xs.length≤sizeLine:=by
 rcases h with h | ⟨o,its,n,hk,hc,hd,hs,hz,r⟩
 ·obtain ⟨z,its,n,r,e⟩:=h.ok I.hok
  exact ⟨its,r,⟨_,n,e,rfl,rfl,rfl⟩,z⟩
 ·refine ⟨its.toList,r,⟨o,n,I.kIn a o hk,hc,hd,by simpa using hs⟩,?_⟩
  have e:=r.length
  simp only [qk9] at e
  omega
theorem Inv.tuple (I:Inv X pins σ H s) (h:SqT X.K H a xs):∃ its:List Value,Vals xs its∧IsTup s.heap a its.toArray∧xs.length≤sizeLine:=by
 rcases h with h | ⟨o,its,n,hk,hc,hs,hz,r⟩
 ·obtain ⟨z,its,r,p⟩:=h.ok I.hok
  exact ⟨its,r,p,z.1⟩
 ·refine ⟨its.toList,r,⟨o,I.kIn a o hk,hc.1,n,by simpa using hs⟩,?_⟩
  have e:=r.length
  simp only [qk9] at e
  omega
theorem Inv.list_inj (I:Inv X pins σ H s) (h:SqL X.K H a xs) (h':SqL X.K H a ys):xs=ys:=by
 obtain ⟨its,r,⟨o,n,e,_,_,d⟩,_⟩:=I.list h
 obtain ⟨its',r',⟨o',n',e',_,_,d'⟩,_⟩:=I.list h'
 rw [e] at e'; cases e'
 rw [d] at d'
 injection d' with d1 _
 have:its=its':=by simpa using congrArg Array.toList d1
 subst this
 exact r.inj r'
end
abbrev Cx.wish (X:Cx) (E:Value→Shared→Prop):Cx:={ X with xe:=E }
abbrev Cx.nox (X:Cx):Cx:=X.wish fun _ _=>False
theorem Cx.Ok.wish {X:Cx} (ok:X.Ok) (E:Value→Shared→Prop):(X.wish E).Ok:=
 ⟨ok.mod,ok.kind,ok.glob,ok.blt,ok.above,ok.inj,ok.has,ok.cab,ok.hd,ok.frames,ok.stk,ok.exf,ok.bs,ok.bsz,ok.noex,ok.exfs,ok.funs,ok.frf⟩
theorem Cx.Ok.unwish {X:Cx} {E:Value→Shared→Prop} (ok:(X.wish E).Ok):X.Ok:=
 ⟨ok.mod,ok.kind,ok.glob,ok.blt,ok.above,ok.inj,ok.has,ok.cab,ok.hd,ok.frames,ok.stk,ok.exf,ok.bs,ok.bsz,ok.noex,ok.exfs,ok.funs,ok.frf⟩
section
variable {X:Cx} {pins:List (y8×Obj)} {σ:St} {H:Hp} {s:Shared} {E:Value→Shared→Prop}
theorem Inv.wish (I:Inv X pins σ H s) (E:Value→Shared→Prop):Inv (X.wish E) pins σ H s:=⟨I.ok.wish E,I.os,I.bare,I.base,I.loc,I.cell,I.free,I.freeC,I.pin,I.hok,I.len⟩
theorem Inv.unwish (I:Inv (X.wish E) pins σ H s):Inv X pins σ H s:=⟨I.ok.unwish,I.os,I.bare,I.base,I.loc,I.cell,I.free,I.freeC,I.pin,I.hok,I.len⟩
theorem SP.unwish {D:Ends} {f:Flow} {s':Shared} (h:SP (X.wish E) pins D f s'):SP X pins D f s':=by
 cases f with
 | next=>obtain ⟨σ',H',I,q⟩:=h; exact ⟨σ',H',I.unwish,q⟩
 | brk=>obtain ⟨σ',H',I,q⟩:=h; exact ⟨σ',H',I.unwish,q⟩
 | cont=>obtain ⟨σ',H',I,q⟩:=h; exact ⟨σ',H',I.unwish,q⟩
 | ret u=>obtain ⟨v,σ',H',I,r,q⟩:=h; exact ⟨v,σ',H',I.unwish,r,q⟩
theorem PSs.nox {st:List Stmt} {t:TS} (h:PSs X.nox st t):PSs X st t:=fun pins s σ H D I hw=>
 wpAny_mono (h pins s σ H D (I.wish _) hw) (fun _ _ q=>q.unwish) fun _ _ z=>False.elim z
end
section
variable {X:Cx} {st:Stmt} {rest:List Stmt} {t u:TS} {e:Expr} {te:TE} {pos:Pos}
def J5A:TS:=fun D σ H=>D.nx σ H
def tSeq (t u:TS):TS:=fun D σ H=>t { D with nx:=u D } σ H
theorem Z0o:PSs X [] J5A:=fun _ _ σ H _ I h=>wpAny_execs_nil ⟨σ,H,I,h⟩
theorem Z0a (h1:PS X st t) (h2:PSs X rest u):PSs X (st::rest) (tSeq t u):=by
 intro pins s σ H D I h
 refine wpAny_execs_cons (thn (h1 pins s σ H { D with nx:=u D } I h) fun f s1 q=>?_)
 cases f with
 | next=>
  obtain ⟨σ',H',I',q⟩:=q
  exact h2 pins s1 σ' H' D I' q
 | ret v=>exact q
 | brk=>exact q
 | cont=>exact q
theorem Z0b (h1:PS X st t):PSs X [st] t:=by
 intro pins s σ H D I h
 refine wpAny_execs_cons (thn (h1 pins s σ H D I h) fun f s1 q=>?_)
 cases f with
 | next=>exact wpAny_execs_nil q
 | ret v=>exact q
 | brk=>exact q
 | cont=>exact q
theorem Inv.quiet {pins:List (y8×Obj)} {σ:St} {H:Hp} {s:Shared} (I:Inv X pins σ H s):interactive X.env=false:=by simp [interactive,I.ok.kind]
def J5q (te:TE):TS:=fun D σ H=>te σ H fun _ H1=>D.nx σ H1
theorem Z0j (he:PE X e te) (hs:swapsWith e none pos.line X.env=pure false:=by rfl):PS X (.Expr e pos) (J5q te):=by
 intro pins s σ H D I h
 exact wpAny_Expr_any (thn (he pins s σ H _ I h) fun v s1 ⟨x,H1,I1,r1,q1⟩=>⟨σ,H1,I1,q1⟩) I.quiet hs
def tRet (te:TE):TS:=fun D σ H=>te σ H D.rt
theorem Z0n (he:PE X e te):PS X (.Return (some e) pos) (tRet te):=by
 intro pins s σ H D I h
 exact wpAny_Return_some (thn (he pins s σ H _ I h) fun v s1 ⟨x,H1,I1,r1,q1⟩=>⟨x,σ,H1,I1,r1,q1⟩)
def J5a:TS:=fun D _ H=>D.rt .non H
theorem Z4p:PS X (.Return none pos) J5a:=fun _ _ σ H _ I h=>wpAny_Return_none ⟨.non,σ,H,I,rfl,h⟩
def tIfS (c:TT) (t u:TS):TS:=fun D σ H=>c σ H fun b H1=>if b=true then t D σ H1 else u D σ H1
theorem Z0t {c:Expr} {a b:List Stmt} {tc:TT} (hc:PT X c tc) (ha:PSs X a t) (hb:PSs X b u):PS X (.If c a b pos) (tIfS tc t u):=by
 intro pins s σ H D I h
 refine wpAny_If (thn (hc pins s σ H _ I h) fun d s1 ⟨H1,I1,q1⟩=>?_)
 cases d with
 | true=>exact ha pins s1 σ H1 D I1 q1
 | false=>exact hb pins s1 σ H1 D I1 q1
end
abbrev TG:=V→St→Hp→(St→Hp→Prop)→Prop
abbrev TGs:=List V→St→Hp→(St→Hp→Prop)→Prop
def PG (X:Cx) (target:Expr) (t:TG):Prop:=
 ∀ (pins:List (y8×Obj)) (s:Shared) (σ:St) (H:Hp) (v:V) (u:Value) (Q:St→Hp→Prop),Inv X pins σ H s→RelV v u→t v σ H Q →
  wpAny (model X.prog X.w) X.A (assign target X.env u) (fun _ s'=>∃ σ' H',Inv X pins σ' H' s'∧Q σ' H') X.xe s
def PGs (X:Cx) (ts:List Expr) (t:TGs):Prop:=
 ∀ (pins:List (y8×Obj)) (s:Shared) (σ:St) (H:Hp) (vs:List V) (us:List Value) (Q:St→Hp→Prop),Inv X pins σ H s→Vals vs us→t vs σ H Q →
  wpAny (model X.prog X.w) X.A (assignInOrder ((assignEach ts X.env).map (·.2)) us) (fun _ s'=>∃ σ' H',Inv X pins σ' H' s'∧Q σ' H') X.xe s
abbrev TSet:=V→V→V→Hp→(Hp→Prop)→Prop
def PSet (X:Cx) (t:TSet):Prop:=
 ∀ (pins:List (y8×Obj)) (s:Shared) (σ:St) (H:Hp) (o i v:V) (ov iv u:Value) (Q:Hp→Prop),Inv X pins σ H s→RelV o ov→RelV i iv→RelV v u→t o i v H Q →
  wpAny (model X.prog X.w) X.A (setItem ov iv u) (fun _ s'=>∃ H',Inv X pins σ H' s'∧Q H') X.xe s
abbrev TIp:=V→V→Hp→VK→Prop
section
variable {X:Cx} {pos:Pos}
def Z2A (i:Nat):TG:=fun v σ H Q=>Q (σ.set i (some v)) H
theorem Z6O {i:Nat} {x:Str} (hN:X.N.Nodup) (hi:X.N[i]?=some x) (hx:Loc X.env.scope x) (hf:X.fn x=true∨X.env.scope.names.lookup x=some .local:=by first | exact .inl rfl | exact .inr rfl | assumption):PG X (.Name x pos) (Z2A i):=by
 intro pins s σ H v u Q I r h
 exact wpAny_assign_Name (Z7y I hN hi hx r (fun s' I'=>⟨_,H,I',h⟩) hf)
def gNil:TGs:=fun vs σ H Q=>vs=[]∧Q σ H
def J4n (t:TG) (u:TGs):TGs:=fun vs σ H Q=>∃ v r,vs=v::r∧t v σ H fun σ' H'=>u r σ' H' Q
theorem Z1W:PGs X [] gNil:=by
 intro pins s σ H vs us Q I r h
 obtain ⟨e,h⟩:=h
 subst e
 cases r
 exact assignInOrder_nil ⟨σ,H,I,h⟩
theorem J1o {e:Expr} {es:List Expr} {t:TG} {u:TGs} (h1:PG X e t) (h2:PGs X es u)
  (hs:(assignEach (e::es) X.env).map (·.2)=assign e X.env::(assignEach es X.env).map (·.2):=by rfl):PGs X (e::es) (J4n t u):=by
 intro pins s σ H vs us Q I r h
 obtain ⟨v,vr,e1,h⟩:=h
 subst e1
 cases r with
 | cons r rr=>
  rw [hs]
  refine assignInOrder_cons (thn (h1 pins s σ H _ _ _ I r h) fun _ s1 ⟨σ1,H1,I1,q1⟩=>?_)
  exact h2 pins s1 σ1 H1 _ _ Q I1 rr q1
def gTup (K:y9) (n:Nat) (t:TGs):TG:=fun v σ H Q=>∃ a xs,v=.ref a∧SqT K H a xs∧xs.length=n∧t xs σ H Q
theorem J4q {es:List Expr} {k:Nat} {t:TGs} {n:Nat} (hc:X.calm=true) (h:PGs X es t)
  (hn:(assignEach es X.env).length=n:=by rfl) (hst:(assignEach es X.env).findIdx? (·.1)=none:=by rfl):PG X (.Tuple es k pos) (gTup X.K n t):=by
 intro pins s σ H v u Q I r hw
 obtain ⟨a,xs,e1,hq,hl,hw⟩:=hw
 subst e1
 cases r
 obtain ⟨its,rv,ht,hz⟩:=I.tuple hq
 refine assign_Tuple_tuple (I.ok.hd hc) ht (by simp [hn,← hl,rv.length]) hst fun h' hx=>?_
 have I1:Inv X pins σ H { s with heap:=h' }:=I.kept (t':=s.toks) fun b o e=>hx b o (qd2 (Heap.lt_size e)) e
 exact h pins _ σ H xs _ Q I1 (by simpa using rv) hw
def gSub (to ti:TE) (t:TSet):TG:=fun v σ H Q=>to σ H fun o H1=>ti σ H1 fun i H2=>t o i v H2 fun H3=>Q σ H3
theorem Z3p {o i:Expr} {to ti:TE} {t:TSet} (ho:PE X o to) (hi:PE X i ti) (hs:PSet X t)
  (ha:∀ v,assign (.Subscript o i pos) X.env v=(do
   let ov ← holding [v] (eval o X.env)
   let iv ← holding [v,ov] (eval i X.env)
   standAt pos
   holding [v,ov,iv] (setItem ov iv v)
   release [v,ov,iv] []):=by intro _; rfl):PG X (.Subscript o i pos) (gSub to ti t):=by
 intro pins s σ H v u Q I r h
 rw [ha]
 refine wpAny_bind (wpAny_holding (thn (ho pins s σ H _ I h) fun ov s1 ⟨x,H1,I1,r1,q1⟩=>?_))
 refine wpAny_bind (wpAny_holding (thn (hi pins s1 σ H1 _ I1 q1) fun iv s2 ⟨y,H2,I2,r2,q2⟩=>?_))
 refine wpAny_bind (wpAny_standAt (wpAny_bind (wpAny_holding (thn (hs pins s2 σ H2 x y v ov iv u _ I2 r1 r2 r q2) fun _ s3 ⟨H3,I3,q3⟩=>?_))))
 exact wpAny_release ⟨σ,H3,I3,q3⟩
def tAsg (te:TE) (g:TG):TS:=fun D σ H=>te σ H fun x H1=>g x σ H1 D.nx
theorem Z1l {tg e:Expr} {te:TE} {g:TG} (he:PE X e te) (hg:PG X tg g) (hs:swapsWithSole [tg] e pos.line X.env=pure false:=by rfl) (hw:swappedStores [tg] e X.env=pure none:=by rfl)
  (h1:(assignEach [tg] X.env).map (·.2)=[assign tg X.env]:=by rfl):PS X (.Assign [tg] e pos) (tAsg te g):=by
 intro pins s σ H D I h
 refine wpAny_Assign_stores (thn (he pins s σ H _ I h) fun v s1 ⟨x,H1,I1,r1,q1⟩=>?_) hs hw
 rw [h1]
 exact thn (hg pins s1 σ H1 x v _ I1 r1 q1) fun _ s2 q=>q
theorem Z7x {i:Nat} {x:Str} {e:Expr} {te:TE} {pos':Pos} (hN:X.N.Nodup) (hi:X.N[i]?=some x) (hx:Loc X.env.scope x) (he:PE X e te) (hs:swapsWith e (some (.Name x pos')) pos.line X.env=pure false:=by rfl) (hf:X.fn x=true∨X.env.scope.names.lookup x=some .local:=by first | exact .inl rfl | exact .inr rfl | assumption) :
  PS X (.Assign [.Name x pos'] e pos) (tAsg te (Z2A i)):=by
 intro pins s σ H D I h
 refine wpAny_Assign_Name (thn (he pins s σ H _ I h) fun v s1 ⟨y,H1,I1,r1,q1⟩=>?_) hs
 exact Z7y I1 hN hi hx r1 (fun s2 I2=>⟨_,H1,I2,q1⟩) hf
end
structure It where
 go:Nat→Hp→Prop
 yld:Nat→Hp→V→Hp→Prop
 stop:Nat→Hp→Prop
def FpOk (X:Cx) (pins:List (y8×Obj)) (H:Hp) (b:y8):Prop:=
 H b=none∧b≠X.env.locals∧b∉X.fs∧(b∈X.ex∨X.s₀.heap.objs.size≤b)∧(∀ x c,X.env.cells.lookup x=some c→c≠b)∧∀ p∈X.pn++pins,p.1≠b
theorem Inv.fpOk {X:Cx} {pins:List (y8×Obj)} {σ:St} {H H':Hp} {s:Shared} {b:y8} (I:Inv X pins σ H s) (hb:s.heap.objs.size≤b) (hn:H' b=none):FpOk X pins H' b:=by
 refine ⟨hn,Nat.ne_of_gt (qc1 I.lt hb),I.nofs hb,.inr (qa7 I.sz hb),fun x c e z=>?_,fun p hp z=>?_⟩
 ·obtain ⟨v,q⟩:=I.cell x c e
  exact absurd (qc1 q.lt (by rw [z]; exact hb)) (qf3 _)
 ·exact absurd (qc1 (Heap.lt_size (I.pin p hp).1) (by rw [z]; exact hb)) (qf3 _)
structure Turn (P:Program) (w:World) (K:y9) (tg:Expr) (J:It) (fp:List y8) (it:y8) (tn:Nat→Heap→Prop):Prop where
 mem:it∈fp
 obj:∀ i h,tn i h→∀ b∈fp,∃ o,h.get? b=some o∧∀ v,o.data≠.cell v
 keep:∀ i h h',tn i h→(∀ b∈fp,∀ o,h.get? b=some o→h'.get? b=some o)→tn i h'
 item:∀ (X:Cx),X.prog=P→X.w=w→X.K=K→X.calm=true→∀ (i:Nat) (pins:List (y8×Obj)) (s:Shared) (σ:St) (H:Hp) (E:Value→Shared→Prop),Inv X pins σ H s→(∀ b∈fp,FpOk X pins H b)→tn i s.heap→J.go i H →
  wpAny (model P w) X.A (pyNext (.ref it)) (fun r s1=>∃ u,r=some u ∧
   wpAny (model P w) X.A (letOwnedTupleGo tg (.ref it) u) (fun _ s2=>∃ x H',Inv X pins σ H' s2∧RelV x u∧J.yld i H x H'∧tn (i+1) s2.heap∧∀ b∈fp,H' b=none) E s1) E s
 done:∀ (X:Cx),X.prog=P→X.w=w→X.K=K→X.calm=true→∀ (i:Nat) (pins:List (y8×Obj)) (s:Shared) (σ:St) (H:Hp) (E:Value→Shared→Prop),Inv X pins σ H s→(∀ b∈fp,FpOk X pins H b)→tn i s.heap→J.stop i H →
  wpAny (model P w) X.A (pyNext (.ref it)) (fun r s1=>r=none∧Inv X pins σ H s1) E s
 self:∀ (A:Around) (i:Nat) (s:Shared) (Q:Value→Shared→Prop) (E:Value→Shared→Prop),tn i s.heap→Q (.ref it) s→wpAny (model P w) A (pyIter (.ref it)) Q E s
abbrev TI:=St→Hp→(It→Hp→Prop)→Prop
def PIE (X:Cx) (pins:List (y8×Obj)) (σ:St) (tg:Expr) (R:It→Hp→Prop) (itv:Value) (s2:Shared):Prop:=
 ∃ (it:y8) (fp:List y8) (tn:Nat→Heap→Prop) (J:It) (H':Hp),itv=.ref it∧Inv X pins σ H' s2∧Turn X.prog X.w X.K tg J fp it tn∧tn 0 s2.heap∧(∀ b∈fp,FpOk X pins H' b)∧R J H'
def PI (X:Cx) (tg iter:Expr) (wi:TI):Prop:=
 ∀ (pins:List (y8×Obj)) (s:Shared) (σ:St) (H:Hp) (R:It→Hp→Prop),Inv X pins σ H s→wi σ H R →
  wpAny (model X.prog X.w) X.A (eval iter X.env) (fun v s1=>wpAny (model X.prog X.w) X.A (pyIter v) (PIE X pins σ tg R) X.xe s1) X.xe s
theorem J5j {M:Model} {A:Around} {E:Value→Shared→Prop} {s:Shared} {tg:Expr} {it:y8} {u:Value} {o:Obj} {n:String} {vs:Array Value} {Q:Unit→Shared→Prop} (ho:s.heap.get? it=some o) (hc:o.cls=.type n) (hd:o.data=.fields vs)
    (hn:["enumerate","zip","dict_itemiterator","dict_reverseitemiterator","odict_iterator","itertools.zip_longest","itertools.pairwise"].contains n=false) (hQ:Q () s):wpAny M A (letOwnedTupleGo tg (.ref it) u) Q E s:=by
  unfold letOwnedTupleGo
  cases tg <;> first
    | exact wpAny_pure hQ
    | (cases u <;> first
        | exact wpAny_pure hQ
        | (refine wpAny_bind (wpAny_load ho ?_)
           rw [hc,hd]
           show wpAny M A (if (["enumerate","zip","dict_itemiterator","dict_reverseitemiterator","odict_iterator","itertools.zip_longest","itertools.pairwise"].contains n&&vs[0]? == some (rawInt _))=true then _ else _) Q E s
           rw [if_neg (by intro h; rw [hn,Bool.false_and] at h; cases h)]
           exact wpAny_pure hQ))
def Itl (K:y9) (a:y8):It:=
 ⟨fun i H=>∃ xs x,SqL K H a xs∧xs[i]?=some x,fun i H x H'=>H'=H∧∀ xs,SqL K H a xs→xs[i]?=some x,fun i H=>∃ xs,SqL K H a xs∧xs.length≤i⟩
def Itt (K:y9) (a:y8):It:=
 ⟨fun i H=>∃ xs x,SqT K H a xs∧xs[i]?=some x,fun i H x H'=>H'=H∧∀ xs,SqT K H a xs→xs[i]?=some x,fun i H=>∃ xs,SqT K H a xs∧xs.length≤i⟩
def Itr (lo:Int) (n:Nat):It:=⟨fun i _=>i < n,fun i H x H'=>H'=H∧x=.int (lo+i),fun i _=>n≤i⟩
theorem Z9j {P:Program} {w:World} {K:y9} {tg:Expr} (a it:y8):Turn P w K tg (Itl K a) [it] it (fun i h=>h.IsListIter it a i) where
 mem:=by simp
 obj:=fun i h st b hb=>by
  have e:b=it:=by simpa using hb
  subst e
  obtain ⟨o,e,c,d⟩:=st
  exact ⟨o,e,fun v z=>by rw [d] at z; cases z⟩
 keep:=fun i h h' st k=>st.at fun o e=>k it (by simp) o e
 item:=by
  intro X hP hw hK hc i pins s σ H E I hf st hg
  subst hP hw hK
  obtain ⟨xs,x,hq,hx⟩:=hg
  obtain ⟨its,rv,p,hz⟩:=I.list hq
  obtain ⟨u,hu,ru⟩:=rv.get hx
  obtain ⟨f0,f1,f2,f3,f4,f5⟩:=hf it (by simp)
  refine wpAny_pyNext_list_item st p.isList (x:=u) (by simpa using hu) fun h' st' sb=>?_
  have I1:Inv X pins σ H { s with heap:=h' }:=I.turned (t':=s.toks) (fun b o hb e=>(sb.2 b hb).trans e) f0 f1 f3 f4 f5
  obtain ⟨o,e,c,d⟩:=id st'
  exact ⟨u,rfl,J5j (s:={ s with heap:=h' }) e c d qQ ⟨x,H,I1,ru,⟨rfl,fun ys hy=>by rw [I.list_inj hy hq]; exact hx⟩,st',fun b hb=>(hf b hb).1⟩⟩
 done:=by
  intro X hP hw hK hc i pins s σ H E I hf st hg
  subst hP hw hK
  obtain ⟨xs,hq,hx⟩:=hg
  obtain ⟨its,rv,p,hz⟩:=I.list hq
  obtain ⟨f0,f1,f2,f3,f4,f5⟩:=hf it (by simp)
  have hl:=rv.length
  exact wpAny_pyNext_list_end (I.ok.hd hc) st p.isList (by simp; omega) fun h' eb=>⟨rfl,I.turned (t':=s.toks) (fun b o hb e=>eb b o hb e) f0 f1 f3 f4 f5⟩
 self:=fun _ _ _ _ _ st h=>wpAny_pyIter_listiter st h
theorem Z8q {P:Program} {w:World} {K:y9} {tg:Expr} (it:y8) (lo:Int) (n:Nat):Turn P w K tg (Itr lo n) [it] it (fun i h=>IsRangeIter h it (lo+(i:Nat) * 1) ((n:Int) - (i:Nat)) 1) where
 mem:=by simp
 obj:=fun i h st b hb=>by
  have e:b=it:=by simpa using hb
  subst e
  exact ⟨_,st,fun v z=>by
   have z':Data.fields _=Data.cell v:=z
   cases z'⟩
 keep:=fun i h h' st k=>k it (by simp) _ st
 item:=by
  intro X hP hw hK hc i pins s σ H E I hf st hg
  subst hP hw hK
  obtain ⟨f0,f1,f2,f3,f4,f5⟩:=hf it (by simp)
  have W:=Walks.range (prog:=X.prog) (w:=X.w) (I.ok.hd hc) it lo 1 n
  refine W.item i s _ _ hg st fun v h' tk hv st' kk=>?_
  obtain ⟨t,rfl⟩:=hv
  have I1:Inv X pins σ H { s with heap:=h',toks:=tk }:=I.turned (fun b o hb e=>kk b o (by simpa using hb) e) f0 f1 f3 f4 f5
  refine ⟨_,rfl,J5j (s:={ s with heap:=h',toks:=tk }) (n:="range_iterator") st' rfl rfl qQ ⟨.int (lo+i),H,I1,⟨t,?_⟩,⟨rfl,rfl⟩,st',fun b hb=>(hf b hb).1⟩⟩
  rw [Int.mul_one]
 done:=by
  intro X hP hw hK hc i pins s σ H E I hf st hg
  subst hP hw hK
  obtain ⟨f0,f1,f2,f3,f4,f5⟩:=hf it (by simp)
  exact wpAny_pyNext_range_end (I.ok.hd hc) st (by have:n≤i:=hg; omega) fun h' eb=>⟨rfl,I.turned (t':=s.toks) (fun b o hb e=>eb b o hb e) f0 f1 f3 f4 f5⟩
 self:=fun _ _ _ _ _ st h=>wpAny_pyIter_rangeiter st h
section
variable {X:Cx} {tg:Expr}
def J5b (K:y9) (tl:TE):TI:=fun σ H R=>tl σ H fun x H1=>∃ a,x=.ref a∧(∃ xs,SqL K H1 a xs)∧R (Itl K a) H1
theorem Z2x {l:Expr} {tl:TE} (hl:PE X l tl):PI X tg l (J5b X.K tl):=by
 intro pins s σ H R I h
 refine thn (hl pins s σ H _ I h) fun v s1 ⟨x,H1,I1,r1,q1⟩=>?_
 obtain ⟨a,e,⟨xs,hq⟩,q⟩:=q1
 subst e
 cases r1
 obtain ⟨its,rv,p,hz⟩:=I1.list hq
 refine wpAny_pyIter_list p.isList ?_
 refine ⟨s1.heap.objs.size,[s1.heap.objs.size],_,_,H1,rfl,I1.kept (t':=s1.toks) fun b o e=>Heap.get?_push_of_some _ e,Z9j a _,⟨_,Heap.get?_push_size _ rfl,rfl,rfl⟩,fun b hb=>?_,q⟩
 have e:b=s1.heap.objs.size:=by simpa using hb
 subst e
 exact I1.fpOk (qa0 _) (I1.hok.fresh (qa0 _))
theorem J0V {pins:List (y8×Obj)} {σ:St} {H:Hp} {s:Shared} {R:It→Hp→Prop} {E:Value→Shared→Prop} {lo hi:Int} {t u v:Tok} {tk:Nat} (I:Inv X pins σ H s) (h1:-(2 ^ 62)≤lo) (h2:lo < 2 ^ 62) (h3:-(2 ^ 62)≤hi) (h4:hi < 2 ^ 62)
  (q:R (Itr lo (hi - lo).toNat) H):wpAny (model X.prog X.w) X.A (pyIter (.ref s.heap.objs.size)) (PIE X pins σ tg R) E { s with heap:=s.heap.push { cls:=.type "range",data:=.fields #[.int lo t,.int hi u,.int 1 v] },toks:=tk }:=by
 refine wpAny_pyIter_range (IsRange.new ..) (small_one h1 h2 h3 h4) ?_
 have I1:Inv X pins σ H { s with heap:=s.heap.push { cls:=.type "range",data:=.fields #[.int lo t,.int hi u,.int 1 v] },toks:=tk }:=I.kept fun b o e=>Heap.get?_push_of_some _ e
 refine ⟨(s.heap.push { cls:=.type "range",data:=.fields #[.int lo t,.int hi u,.int 1 v] }).objs.size,[(s.heap.push { cls:=.type "range",data:=.fields #[.int lo t,.int hi u,.int 1 v] }).objs.size],_,_,H,rfl,
  I1.kept (t':=tk) fun b o e=>Heap.get?_push_of_some _ e,Z8q _ lo (hi - lo).toNat,?_,fun b hb=>?_,q⟩
 ·have e1:lo+((0:Nat):Int) * 1=lo:=by simp
  have e2:(((hi - lo).toNat:Nat):Int) - ((0:Nat):Int)=Builtin.Range.rangeSize lo hi 1:=by rw [rangeSize_one]; split <;> omega
  show IsRangeIter _ _ (lo+((0:Nat):Int) * 1) ((((hi - lo).toNat:Nat):Int) - ((0:Nat):Int)) 1
  rw [e1,e2]
  exact Heap.get?_push_size _ rfl
 ·have e:b=(s.heap.push { cls:=.type "range",data:=.fields #[.int lo t,.int hi u,.int 1 v] }).objs.size:=by simpa using hb
  subst e
  exact I1.fpOk (qa0 _) (I1.hok.fresh (qa0 _))
def J4V (ta:TA):TI:=fun σ H R=>ta σ H fun vs H1=>∃ j:Int,vs=[.int j]∧-(2 ^ 62)≤j∧j < 2 ^ 62∧R (Itr 0 j.toNat) H1
theorem Z0K {a:Expr} {ta:TA} {p pos:Pos} (hg:Gl X "range") (hm:X.mg "range"=none) (ha:PA X [a] ta) (hs:starEach [a] X.env=[(false,eval a X.env)]:=by rfl):PI X tg (.Call (.Name "range" p) [a] [] pos) (J4V ta):=by
 intro pins s σ H R I h
 refine Call_ (Z7P I hg hm boot_range (PyProof.Rows.callWith_type1 (thn (ha pos pins s σ H _ I h) fun us s1 ⟨vs,H1,I1,r1,q1⟩=>?_) hs rfl))
 obtain ⟨j,e,q1,q2,q⟩:=q1
 subst e
 cases r1 with
 | cons r rr=>
  cases rr
  obtain ⟨t,rfl⟩:=r
  exact call_range_1 (J0V I1 qR qR q1 q2 (by simpa using q))
def tFor (wi:TI) (g:TG) (tb:TS):TS:=fun D σ H=>wi σ H fun J H1=>∃ W:Nat→Nat→St→Hp→Prop,(∃ m,W 0 m σ H1)∧∀ i m σ H,W i m σ H →
 (J.stop i H∧D.nx σ H)∨(J.go i H∧∃ N:St→Hp→Prop,(∀ σ' H',N σ' H'→∃ m',m' < m∧W (i+1) m' σ' H')∧∀ x H',J.yld i H x H'→g x σ H' fun σ2 H2=>tb { D with nx:=N,ct:=N,bk:=D.nx } σ2 H2)
def Z6b (fp:List y8) (h:Heap):List (y8×Obj):=fp.filterMap fun b=>(h.get? b).map fun o=>(b,o)
theorem Z2Z {fp:List y8} {h:Heap} {b:y8} {o:Obj} (hb:b∈fp) (e:h.get? b=some o):(b,o)∈Z6b fp h:=ql0.mpr ⟨b,hb,by rw [e]; rfl⟩
theorem J0j {fp:List y8} {h:Heap} {p:y8×Obj} (hp:p∈Z6b fp h):p.1∈fp∧h.get? p.1=some p.2:=by
 obtain ⟨b,hb,e⟩:=ql0.mp hp
 cases q:h.get? b with
 | none=>rw [q] at e; cases e
 | some o=>
  rw [q] at e
  have e':(b,o)=p:=qb7 e
  subst e'
  exact ⟨hb,q⟩
theorem Inv.pinned {pins:List (y8×Obj)} {σ:St} {H:Hp} {s:Shared} {fp:List y8} (I:Inv X pins σ H s) (hf:∀ b∈fp,FpOk X pins H b) (ho:∀ b∈fp,∃ o,s.heap.get? b=some o∧∀ v,o.data≠.cell v):Inv X (pins++Z6b fp s.heap) σ H s:=
 I.pins_of fun p hp=>(qd9.mp hp).elim (fun z=>I.pin p (qe8 _ z)) fun z=>by
  obtain ⟨hb,e⟩:=J0j z
  obtain ⟨f0,f1,f2,_⟩:=hf p.1 hb
  obtain ⟨o,e',d⟩:=ho p.1 hb
  rw [e] at e'; cases e'
  exact ⟨e,f0,f1,f2,d⟩
theorem Inv.unpinned {pins pl:List (y8×Obj)} {σ:St} {H:Hp} {s:Shared} (I:Inv X (pins++pl) σ H s):Inv X pins σ H s:=I.pins_of fun p hp=>I.pin p (qe8 _ (qj2 _ hp))
theorem Z2R {iter:Expr} {body:List Stmt} {wi:TI} {g:TG} {tb:TS} {pos:Pos} (hp:PassesOwn (model X.prog X.w) X.A X.env X.xe) (hc:X.calm=true) (hi:PI X tg iter wi) (hg:PG X tg g) (hb:PSs X body tb)
  (hs:∀ x,foldedSetIterable iter X.env x=pure x:=by intro _; rfl):PS X (.For tg iter body [] pos) (tFor wi g tb):=by
 intro pins s σ H D I h
 refine wpAny_For (thn (hi pins s σ H _ I h) fun v s1 h1=>thn h1 fun itv s2 h2=>?_) hs
 obtain ⟨it,fp,tn,J,H2,e,I2,T,st2,f2,W,⟨m0,w0⟩,turn⟩:=h2
 subst e
 -- what stays true of the iterator's objects through the loop
 have stat:∀ {H':Hp},(∀ b∈fp,H' b=none)→∀ b∈fp,FpOk X pins H' b:=fun hn b hb=>⟨hn b hb,(f2 b hb).2⟩
 refine codeAny_forLoop_any (fun n s'=>∃ i σ' H',Inv X pins σ' H' s'∧tn i s'.heap∧(∀ b∈fp,H' b=none)∧W i n σ' H') ?_ m0 ⟨0,σ,H2,I2,st2,fun b hb=>(f2 b hb).1,w0⟩
 rintro n s3 ⟨i,σ3,H3,I3,st3,fr3,w3⟩
 rcases turn i n σ3 H3 w3 with ⟨stop,qn⟩ | ⟨go,N,hN,step⟩
 ·refine wpAny_passesOwn hp (thn (T.done X rfl rfl rfl hc i pins s3 σ3 H3 X.xe I3 (stat fr3) st3 stop) fun r s4 ⟨hr,I4⟩=>?_)
  subst hr
  exact wpAny_execs_nil ⟨σ3,H3,I4,qn⟩
 ·refine wpAny_passesOwn hp (thn (T.item X rfl rfl rfl hc i pins s3 σ3 H3 X.xe I3 (stat fr3) st3 go) fun r s4 ⟨u,hr,h4⟩=>?_)
  subst hr
  refine wpAny_passesOwn hp (thn h4 fun _ s5 ⟨x,H5,I5,r5,y5,st5,fr5⟩=>?_)
  have I5':=I5.pinned (stat fr5) (T.obj _ _ st5)
  refine wpAny_passesOwn hp (thn (hg _ s5 σ3 H5 x u _ I5' r5 (step x H5 y5)) fun _ s6 ⟨σ6,H6,I6,q6⟩=>?_)
  refine wpAny_passesOwn hp (thn (hb _ s6 σ6 H6 _ I6 q6) fun f s7 q7=>?_)
  have again:∀ {σ7:St} {H7:Hp},Inv X (pins++Z6b fp s5.heap) σ7 H7 s7→N σ7 H7→∃ m,m < n∧∃ i σ' H',Inv X pins σ' H' s7∧tn i s7.heap∧(∀ b∈fp,H' b=none)∧W i m σ' H':=fun {σ7 H7} I7 n7=>by
   obtain ⟨m',hm,w7⟩:=hN σ7 H7 n7
   refine ⟨m',hm,i+1,σ7,H7,I7.unpinned,T.keep _ _ _ st5 fun b hb o e=>(I7.pin (b,o) (qe8 _ (qe8 _ (Z2Z hb e)))).1,fun b hb=>?_,w7⟩
   obtain ⟨o,e,d⟩:=T.obj _ _ st5 b hb
   exact (I7.pin (b,o) (qe8 _ (qe8 _ (Z2Z hb e)))).2.1
  cases f with
  | next=>obtain ⟨σ7,H7,I7,n7⟩:=q7; exact again I7 n7
  | cont=>obtain ⟨σ7,H7,I7,n7⟩:=q7; exact again I7 n7
  | brk=>obtain ⟨σ7,H7,I7,q7⟩:=q7; exact ⟨σ7,H7,I7.unpinned,q7⟩
  | ret v=>obtain ⟨x7,σ7,H7,I7,r7,q7⟩:=q7; exact ⟨x7,σ7,H7,I7.unpinned,r7,q7⟩
end
theorem J1D {K:y9} {a:y8} {xs:List V} {g:TG} {tb:TS} {D:Ends} {σ:St} {H:Hp} (Pv:Nat→St→Hp→Prop) (h0:Pv 0 σ H) (hl:∀ i σ H,i≤xs.length→Pv i σ H→SqL K H a xs)
  (hs:∀ i x σ H,xs[i]?=some x→Pv i σ H→g x σ H fun σ2 H2=>tb { D with nx:=Pv (i+1),ct:=Pv (i+1),bk:=D.nx } σ2 H2) (hd:∀ σ H,Pv xs.length σ H→D.nx σ H) :
  ∃ W:Nat→Nat→St→Hp→Prop,(∃ m,W 0 m σ H)∧∀ i m σ H,W i m σ H →
   ((Itl K a).stop i H∧D.nx σ H)∨((Itl K a).go i H∧∃ N:St→Hp→Prop,(∀ σ' H',N σ' H'→∃ m',m' < m∧W (i+1) m' σ' H')∧∀ x H',(Itl K a).yld i H x H'→g x σ H' fun σ2 H2=>tb { D with nx:=N,ct:=N,bk:=D.nx } σ2 H2):=by
 refine ⟨fun i m σ H=>m=xs.length - i∧i≤xs.length∧Pv i σ H,⟨xs.length,by simp,qa4 _,h0⟩,?_⟩
 rintro i m σ H ⟨rfl,hi,p⟩
 have q:=hl i σ H hi p
 by_cases hlt:i < xs.length
 ·refine .inr ⟨⟨xs,xs[i],q,by simp [hlt]⟩,Pv (i+1),fun σ' H' p'=>⟨xs.length - (i+1),qR,rfl,hlt,p'⟩,fun x H' y=>?_⟩
  obtain ⟨e,y⟩:=y
  subst e
  exact hs i x σ _ (y xs q) p
 ·have e:i=xs.length:=by omega
  subst e
  exact .inl ⟨⟨xs,q,qa0 _⟩,hd σ H p⟩
theorem Z9W {lo:Int} {n:Nat} {g:TG} {tb:TS} {D:Ends} {σ:St} {H:Hp} (Pv:Nat→St→Hp→Prop) (h0:Pv 0 σ H)
  (hs:∀ i σ H,i < n→Pv i σ H→g (.int (lo+i)) σ H fun σ2 H2=>tb { D with nx:=Pv (i+1),ct:=Pv (i+1),bk:=D.nx } σ2 H2) (hd:∀ σ H,Pv n σ H→D.nx σ H) :
  ∃ W:Nat→Nat→St→Hp→Prop,(∃ m,W 0 m σ H)∧∀ i m σ H,W i m σ H →
   ((Itr lo n).stop i H∧D.nx σ H)∨((Itr lo n).go i H∧∃ N:St→Hp→Prop,(∀ σ' H',N σ' H'→∃ m',m' < m∧W (i+1) m' σ' H')∧∀ x H',(Itr lo n).yld i H x H'→g x σ H' fun σ2 H2=>tb { D with nx:=N,ct:=N,bk:=D.nx } σ2 H2):=by
 refine ⟨fun i m σ H=>m=n - i∧i≤n∧Pv i σ H,⟨n,by simp,qa4 _,h0⟩,?_⟩
 rintro i m σ H ⟨rfl,hi,p⟩
 by_cases hlt:i < n
 ·refine .inr ⟨hlt,Pv (i+1),fun σ' H' p'=>⟨n - (i+1),qR,rfl,hlt,p'⟩,fun x H' y=>?_⟩
  obtain ⟨e,y⟩:=y
  subst e y
  exact hs i σ _ hlt p
 ·have e:i=n:=by omega
  subst e
  exact .inl ⟨qa0 _,hd σ H p⟩
abbrev R2:=V→V→Hp→VK→Prop
def OpR (X:Cx) (f:Value→Value→Sem Value) (r:R2):Prop:=
 ∀ (pins:List (y8×Obj)) (s:Shared) (σ:St) (H:Hp) (x y:V) (v u:Value) (Q:VK),Inv X pins σ H s→RelV x v→RelV y u→r x y H Q →
  wpAny (model X.prog X.w) X.A (f v u) (EP X pins σ Q) X.xe s
def UnR (X:Cx) (f:Value→Sem Value) (r:V→Hp→VK→Prop):Prop:=
 ∀ (pins:List (y8×Obj)) (s:Shared) (σ:St) (H:Hp) (x:V) (v:Value) (Q:VK),Inv X pins σ H s→RelV x v→r x H Q →
  wpAny (model X.prog X.w) X.A (f v) (EP X pins σ Q) X.xe s
def Z3T (X:Cx) (f:Value) (r:List V→Hp→VK→Prop):Prop:=
 ∀ (pins:List (y8×Obj)) (s:Shared) (σ:St) (H:Hp) (xs:List V) (us:List Value) (Q:VK),Inv X pins σ H s→Vals xs us→r xs H Q →
  wpAny (model X.prog X.w) X.A (call f us) (EP X pins σ Q) X.xe s
def tOp (r:R2) (ta tb:TE):TE:=fun σ H Q=>ta σ H fun x H1=>tb σ H1 fun y H2=>r x y H2 Q
def tUn (r:V→Hp→VK→Prop) (ta:TE):TE:=fun σ H Q=>ta σ H fun x H1=>r x H1 Q
def rI (C:Int→Int→Prop) (g:Int→Int→V):R2:=fun x y H Q=>∃ i j,x=.int i∧y=.int j∧C i j∧Q (g i j) H
def rI0 (g:Int→Int→V):R2:=fun x y H Q=>∃ i j,x=.int i∧y=.int j∧Q (g i j) H
def rU (g:Int→V):V→Hp→VK→Prop:=fun x H Q=>∃ i,x=.int i∧Q (g i) H
section
variable {X:Cx} {a b c:Expr} {ta tb tc:TE} {pos:Pos}
theorem binT (ha:PE X a ta) (hb:PE X b tb) {pins:List (y8×Obj)} {s:Shared} {σ:St} {H:Hp} {R:V→V→Hp→Prop} (I:Inv X pins σ H s)
  (h:ta σ H fun x H1=>tb σ H1 fun y H2=>R x y H2) {Q:Value→Shared→Prop} {f:Value→Value→Sem Value}
  (hf:∀ v u s2 x y H2,Inv X pins σ H2 s2→RelV x v→RelV y u→R x y H2→wpAny (model X.prog X.w) X.A (f v u) Q X.xe s2) :
  wpAny (model X.prog X.w) X.A (eval a X.env) (fun v s₁=>wpAny (model X.prog X.w) X.A (eval b X.env) (fun u s₂=>wpAny (model X.prog X.w) X.A (f v u) Q X.xe s₂) X.xe s₁) X.xe s:=by
 refine thn (ha pins s σ H _ I h) fun v s1 ⟨x,H1,I1,r1,q1⟩=>?_
 refine thn (hb pins s1 σ H1 _ I1 q1) fun u s2 ⟨y,H2,I2,r2,q2⟩=>?_
 exact hf v u s2 x y H2 I2 r1 r2 q2
theorem Z0h {op:Operator} {r:R2} (ho:OpR X (binaryOp op) r) (ha:PE X a ta) (hb:PE X b tb):PE X (.BinOp a op b pos) (tOp r ta tb):=by
 intro pins s σ H Q I h
 exact wpAny_BinOp (binT ha hb I h fun v u s2 x y H2 I2 rx ry q=>ho pins s2 σ H2 x y v u Q I2 rx ry q)
theorem J7f {op:UnaryOp} {r:V→Hp→VK→Prop} (ho:UnR X (unaryOp op) r) (ha:PE X a ta):PE X (.UnaryOp op a pos) (tUn r ta):=by
 intro pins s σ H Q I h
 exact UnaryOp_ (thn (ha pins s σ H _ I h) fun v s1 ⟨x,H1,I1,r1,q1⟩=>ho pins s1 σ H1 x v Q I1 r1 q1)
theorem opI {f:Value→Value→Sem Value} {C:Int→Int→Prop} {g:Int→Int→Int}
  (rule:∀ (i j:Int) (t u:Tok) (s:Shared) (Q:Value→Shared→Prop) (E:Value→Shared→Prop),C i j→Q (.int (g i j) s.toks) { s with toks:=s.toks+1 }→wpAny (model X.prog X.w) X.A (f (.int i t) (.int j u)) Q E s) :
  OpR X f (rI C fun i j=>.int (g i j)):=by
 intro pins s σ H x y v u Q I rx ry h
 obtain ⟨i,j,rfl,rfl,hc,q⟩:=h
 obtain ⟨t,rfl⟩:=rx
 obtain ⟨t',rfl⟩:=ry
 exact rule i j t t' s _ _ hc ⟨.int (g i j),H,I.tok _,⟨_,rfl⟩,q⟩
theorem opI0 {f:Value→Value→Sem Value} {g:Int→Int→Int}
  (rule:∀ (i j:Int) (t u:Tok) (s:Shared) (Q:Value→Shared→Prop) (E:Value→Shared→Prop),Q (.int (g i j) s.toks) { s with toks:=s.toks+1 }→wpAny (model X.prog X.w) X.A (f (.int i t) (.int j u)) Q E s) :
  OpR X f (rI0 fun i j=>.int (g i j)):=by
 intro pins s σ H x y v u Q I rx ry h
 obtain ⟨i,j,rfl,rfl,q⟩:=h
 obtain ⟨t,rfl⟩:=rx
 obtain ⟨t',rfl⟩:=ry
 exact rule i j t t' s _ _ ⟨.int (g i j),H,I.tok _,⟨_,rfl⟩,q⟩
theorem opB0 {f:Value→Value→Sem Value} {g:Int→Int→Bool}
  (rule:∀ (i j:Int) (t u:Tok) (s:Shared) (Q:Value→Shared→Prop) (E:Value→Shared→Prop),Q (.bool (g i j)) s→wpAny (model X.prog X.w) X.A (f (.int i t) (.int j u)) Q E s) :
  OpR X f (rI0 fun i j=>.bl (g i j)):=by
 intro pins s σ H x y v u Q I rx ry h
 obtain ⟨i,j,rfl,rfl,q⟩:=h
 obtain ⟨t,rfl⟩:=rx
 obtain ⟨t',rfl⟩:=ry
 exact rule i j t t' s _ _ ⟨.bl (g i j),H,I,rfl,q⟩
def CDiv (i j:Int):Prop:=0 < j∧j < 1073741824
def CPow (i j:Int):Prop:=0≤j∧j≤1000000∧i.natAbs < 2 ^ 64
def CMul (i j:Int):Prop:=(-(2 ^ 64) < i∧i < 2 ^ 64)∨(-(2 ^ 64) < j∧j < 2 ^ 64)
theorem CMul.ok {i j:Int} (h:CMul i j):IntMulOk i j:=by
 rcases h with ⟨h1,h2⟩ | ⟨h1,h2⟩
 ·exact .of_left (intBits_le_64 h1 h2)
 ·exact .of_right (intBits_le_64 h1 h2)
theorem Z0x:OpR X (binaryOp .Add) (rI0 fun i j=>.int (i+j)):=opI0 fun _ _ _ _ _ _ _ q=>add_int q
theorem Z1n:OpR X (binaryOp .Sub) (rI0 fun i j=>.int (i - j)):=opI0 fun _ _ _ _ _ _ _ q=>sub_int q
theorem Z2h:OpR X (binaryOp .Mult) (rI CMul fun i j=>.int (i * j)):=opI fun _ _ _ _ _ _ _ hc q=>mul_int q hc.ok
theorem Z0A:OpR X (binaryOp .FloorDiv) (rI CDiv fun i j=>.int (i / j)):=opI fun i j _ _ _ _ _ hc q=>by
 have h1:(0:Int) < j:=hc.1
 have h2:j < 1073741824:=hc.2
 exact floordiv_int qR (by rw [Int.fdiv_eq_ediv_of_nonneg i qR]; exact q) (.inl (PyProof.noPylong_small qR))
theorem Z0u:OpR X (binaryOp .Mod) (rI (fun _ j=>0 < j) fun i j=>.int (i % j)):=opI fun i j _ _ _ _ _ hc q=>by
 have h1:(0:Int) < j:=hc
 exact mod_int' qR (by rw [Int.fmod_eq_emod_of_nonneg i qR]; exact q)
theorem Z7B:OpR X (binaryOp .Pow) (rI CPow fun i j=>.int (i ^ j.toNat)):=opI fun _ _ _ _ _ _ _ hc q=>pow_int_small hc.1 hc.2.1 hc.2.2 q
theorem Z5t:OpR X (inplaceOp .Add) (rI0 fun i j=>.int (i+j)):=opI0 fun _ _ _ _ _ _ _ q=>iadd_int q
theorem unI {f:Value→Sem Value} {g:Int→Int}
  (rule:∀ (i:Int) (t:Tok) (s:Shared) (Q:Value→Shared→Prop) (E:Value→Shared→Prop),Q (.int (g i) s.toks) { s with toks:=s.toks+1 }→wpAny (model X.prog X.w) X.A (f (.int i t)) Q E s) :
  UnR X f (rU fun i=>.int (g i)):=by
 intro pins s σ H x v Q I rx h
 obtain ⟨i,rfl,q⟩:=h
 obtain ⟨t,rfl⟩:=rx
 exact rule i t s _ _ ⟨.int (g i),H,I.tok _,⟨_,rfl⟩,q⟩
theorem J4r:UnR X (unaryOp .USub) (rU fun i=>.int (-i)):=unI fun _ _ _ _ _ q=>neg_int q
end
def scal:V→V→Bool
 | .non,.non=>true | .non,.int _=>true | .int _,.non=>true | .non,.bl _=>true | .bl _,.non=>true | .non,.str _=>true | .str _,.non=>true
 | .int _,.int _=>true | .bl _,.bl _=>true | .str _,.str _=>true | .byt _,.byt _=>true
 | .int _,.str _=>true | .str _,.int _=>true | .bl _,.str _=>true | .str _,.bl _=>true
 | _,_=>false
def rEq:R2:=fun x y H Q=>scal x y=true∧Q (.bl (decide (x=y))) H
def rNe:R2:=fun x y H Q=>scal x y=true∧Q (.bl (!decide (x=y))) H
theorem J0N {i j:Int}:decide (V.int i=V.int j)=(i == j):=by
 rw [qi4]
 simp
theorem J2g {i j:Bool}:decide (V.bl i=V.bl j)=(i == j):=by
 rw [qi4]
 simp
theorem Z9E {i j:Str}:decide (V.str i=V.str j)=(i == j):=by
 rw [qi4]
 simp
theorem Z9v {i j:Array UInt8}:decide (V.byt i=V.byt j)=(i.toList == j.toList):=by
 rw [qi4]
 cases i
 cases j
 simp
section
variable {X:Cx} {a b c:Expr} {ta tb tc:TE} {pos:Pos}
theorem Z0O {pins:List (y8×Obj)} {σ:St} {H:Hp} {s:Shared} {Q:VK} {k k':Bool} (I:Inv X pins σ H s) (q:Q (.bl k) H) (e:k=k'):EP X pins σ Q (.bool k') s:=by
 subst e
 exact ⟨.bl k,H,I,rfl,q⟩
theorem Z0B:OpR X (compareOp .Eq) rEq:=by
 intro pins s σ H x y v u Q I rx ry h
 obtain ⟨hs,q⟩:=h
 cases x with
 | non=>
  cases rx
  cases y with
  | non=>cases ry; exact PySem.EqNone.eq_none_none (Z0O I q (by simp))
  | bl j=>cases ry; exact PySem.EqNone.eq_none_bool (Z0O I q (by simp))
  | int j=>obtain ⟨t',rfl⟩:=ry; exact PySem.EqNone.eq_none_int (Z0O I q (by simp))
  | str j=>obtain ⟨t',rfl⟩:=ry; exact PySem.EqNone.eq_none_str (Z0O I q (by simp))
  | _=>exact absurd (show false=true from hs) qc5
 | bl i=>
  cases rx
  cases y with
  | non=>cases ry; exact PySem.EqNone.eq_bool_none (Z0O I q (by simp))
  | bl j=>cases ry; exact eq_bool (Z0O I q J2g)
  | str j=>obtain ⟨t',rfl⟩:=ry; exact PySem.EqMixed.eq_bool_str (Z0O I q (by simp))
  | _=>exact absurd (show false=true from hs) qc5
 | int i=>
  obtain ⟨t,rfl⟩:=rx
  cases y with
  | non=>cases ry; exact PySem.EqNone.eq_int_none (Z0O I q (by simp))
  | int j=>obtain ⟨t',rfl⟩:=ry; exact eq_int (Z0O I q J0N)
  | str j=>obtain ⟨t',rfl⟩:=ry; exact PySem.EqMixed.eq_int_str (Z0O I q (by simp))
  | _=>exact absurd (show false=true from hs) qc5
 | str i=>
  obtain ⟨t,rfl⟩:=rx
  cases y with
  | non=>cases ry; exact PySem.EqNone.eq_str_none (Z0O I q (by simp))
  | bl j=>cases ry; exact PySem.EqMixed.eq_str_bool (Z0O I q (by simp))
  | int j=>obtain ⟨t',rfl⟩:=ry; exact PySem.EqMixed.eq_str_int (Z0O I q (by simp))
  | str j=>obtain ⟨t',rfl⟩:=ry; exact eq_str (Z0O I q Z9E)
  | _=>exact absurd (show false=true from hs) qc5
 | byt i=>
  obtain ⟨t,rfl⟩:=rx
  cases y with
  | byt j=>obtain ⟨t',rfl⟩:=ry; exact W.eq_bytes (Z0O I q Z9v)
  | _=>exact absurd (show false=true from hs) qc5
 | _=>cases y <;> exact absurd (show false=true from hs) qc5
theorem J3w:OpR X (compareOp .NotEq) rNe:=by
 intro pins s σ H x y v u Q I rx ry h
 obtain ⟨hs,q⟩:=h
 cases x with
 | non=>
  cases rx
  cases y with
  | non=>cases ry; exact PySem.EqNone.ne_none_none (Z0O I q (by simp))
  | bl j=>cases ry; exact PySem.EqNone.ne_none_bool (Z0O I q (by simp))
  | int j=>obtain ⟨t',rfl⟩:=ry; exact PySem.EqNone.ne_none_int (Z0O I q (by simp))
  | str j=>obtain ⟨t',rfl⟩:=ry; exact PySem.EqNone.ne_none_str (Z0O I q (by simp))
  | _=>exact absurd (show false=true from hs) qc5
 | bl i=>
  cases rx
  cases y with
  | non=>cases ry; exact PySem.EqNone.ne_bool_none (Z0O I q (by simp))
  | bl j=>cases ry; exact ne_bool (Z0O I q (congrArg not J2g))
  | str j=>obtain ⟨t',rfl⟩:=ry; exact PySem.EqMixed.ne_bool_str (Z0O I q (by simp))
  | _=>exact absurd (show false=true from hs) qc5
 | int i=>
  obtain ⟨t,rfl⟩:=rx
  cases y with
  | non=>cases ry; exact PySem.EqNone.ne_int_none (Z0O I q (by simp))
  | int j=>obtain ⟨t',rfl⟩:=ry; exact ne_int (Z0O I q (congrArg not J0N))
  | str j=>obtain ⟨t',rfl⟩:=ry; exact PySem.EqMixed.ne_int_str (Z0O I q (by simp))
  | _=>exact absurd (show false=true from hs) qc5
 | str i=>
  obtain ⟨t,rfl⟩:=rx
  cases y with
  | non=>cases ry; exact PySem.EqNone.ne_str_none (Z0O I q (by simp))
  | bl j=>cases ry; exact PySem.EqMixed.ne_str_bool (Z0O I q (by simp))
  | int j=>obtain ⟨t',rfl⟩:=ry; exact PySem.EqMixed.ne_str_int (Z0O I q (by simp))
  | str j=>obtain ⟨t',rfl⟩:=ry; exact ne_str (Z0O I q (congrArg not Z9E))
  | _=>exact absurd (show false=true from hs) qc5
 | byt i=>
  obtain ⟨t,rfl⟩:=rx
  cases y with
  | byt j=>obtain ⟨t',rfl⟩:=ry; exact W.ne_bytes (Z0O I q (congrArg not Z9v))
  | _=>exact absurd (show false=true from hs) qc5
 | _=>cases y <;> exact absurd (show false=true from hs) qc5
theorem Z4z:OpR X (compareOp .Lt) (rI0 fun i j=>.bl (decide (i < j))):=opB0 fun _ _ _ _ _ _ _ q=>lt_int q
theorem Z8F:OpR X (compareOp .Gt) (rI0 fun i j=>.bl (decide (j < i))):=opB0 fun _ _ _ _ _ _ _ q=>gt_int q
theorem J7c:OpR X (compareOp .GtE) (rI0 fun i j=>.bl (decide (j≤i))):=opB0 fun _ _ _ _ _ _ _ q=>ge_int q
theorem Z3S:OpR X (compareOp .IsNot) (fun x y H Q=>y=.non∧Q (.bl (!decide (x=.non))) H):=by
 intro pins s σ H x y v u Q I rx ry h
 obtain ⟨rfl,q⟩:=h
 cases ry
 refine isnot_none_gen (Z0O I q ?_)
 cases x <;> first
  | (cases rx; rfl)
  | (obtain ⟨t,rfl⟩:=rx; rfl)
theorem Z2j (b:Expr) {op:CmpOp} (h:op≠.In:=by decide) (h2:op≠.NotIn:=by decide):behindInMarks op b=false:=by
 have e1:(op == CmpOp.In)=false:=by cases op <;> first | rfl | exact absurd rfl h
 have e2:(op == CmpOp.NotIn)=false:=by cases op <;> first | rfl | exact absurd rfl h2
 cases b <;> simp [behindInMarks,e1,e2]
theorem Z1F {op:CmpOp} {r:R2} (ho:OpR X (compareOp op) r) (ha:PE X a ta) (hb:PE X b tb) (hm:behindInMarks op b=false):PE X (.Compare a [op] [b] pos) (tOp r ta tb):=by
 intro pins s σ H Q I h
 exact wpAny_Compare1 (binT ha hb I h fun v u s2 x y H2 I2 rx ry q=>ho pins s2 σ H2 x y v u Q I2 rx ry q) hm
def Z6F (t:TE):TT:=fun σ H Q=>t σ H fun x H'=>∃ k,x=.bl k∧Q k H'
theorem Z5q {op:CmpOp} {r:R2} (ho:OpR X (compareOp op) r) (ha:PE X a ta) (hb:PE X b tb) (hm:behindInMarks op b=false):PT X (.Compare a [op] [b] pos) (Z6F (tOp r ta tb)):=by
 intro pins s σ H Q I h
 refine wpAny_isTrue_Compare1 (thn (ha pins s σ H _ I h) fun v s1 ⟨x,H1,I1,r1,q1⟩=>thn (hb pins s1 σ H1 _ I1 q1) fun u s2 ⟨y,H2,I2,r2,q2⟩=>
  thn (ho pins s2 σ H2 x y v u _ I2 r1 r2 q2) fun c s3 ⟨z,H3,I3,r3,k,e,q3⟩=>?_) hm
 subst e
 cases r3
 exact wpAny_truthy_bool ⟨H3,I3,q3⟩
theorem Z5L:(sizeLine:Nat) < 2 ^ 63:=by rw [sizeLine_eq]; decide
theorem Z8I {x:V} {us:List Value} (r:Vals [x] us):∃ u,us=[u]∧RelV x u:=by
 cases r with
 | cons r1 r2=>cases r2; exact ⟨_,rfl,r1⟩
theorem J4C {x y:V} {us:List Value} (r:Vals [x,y] us):∃ u w',us=[u,w']∧RelV x u∧RelV y w':=by
 cases r with
 | cons r1 r2=>
  cases r2 with
  | cons r3 r4=>cases r4; exact ⟨_,_,rfl,r1,r3⟩
theorem Z8h:Z3T X (.builtin "abs") (fun xs H Q=>∃ i,xs=[.int i]∧Q (.int (if i < 0 then -i else i)) H):=by
 intro pins s σ H xs us Q I r h
 obtain ⟨i,rfl,q⟩:=h
 obtain ⟨u,rfl,t,rfl⟩:=Z8I r
 exact call_abs_int fun u tk=>⟨.int (if i < 0 then -i else i),H,I.tok _,⟨_,rfl⟩,q⟩
theorem J0P (hc:X.calm=true):Z3T X (.builtin "max") (fun xs H Q=>∃ i j,xs=[.int i,.int j]∧Q (.int (if j > i then j else i)) H):=by
 intro pins s σ H xs us Q I r h
 obtain ⟨i,j,rfl,q⟩:=h
 obtain ⟨u,w',rfl,⟨t,rfl⟩,⟨t',rfl⟩⟩:=J4C r
 refine max_two_ints (I.ok.hd hc) fun h' tk k=>⟨_,H,I.kept k,?_,q⟩
 by_cases hj:j > i
 ·rw [if_pos hj,if_pos hj]; exact ⟨_,rfl⟩
 ·rw [if_neg hj,if_neg hj]; exact ⟨_,rfl⟩
theorem Z9L (hc:X.calm=true):Z3T X (.builtin "min") (fun xs H Q=>∃ i j,xs=[.int i,.int j]∧Q (.int (if j < i then j else i)) H):=by
 intro pins s σ H xs us Q I r h
 obtain ⟨i,j,rfl,q⟩:=h
 obtain ⟨u,w',rfl,⟨t,rfl⟩,⟨t',rfl⟩⟩:=J4C r
 refine min_two_ints (I.ok.hd hc) fun h' tk k=>⟨_,H,I.kept k,?_,q⟩
 by_cases hj:j < i
 ·rw [if_pos hj,if_pos hj]; exact ⟨_,rfl⟩
 ·rw [if_neg hj,if_neg hj]; exact ⟨_,rfl⟩
theorem Z9i:Z3T X (.type "int") (fun xs H Q=>(∃ i,xs=[.int i]∧Q (.int i) H)∨∃ k,xs=[.bl k]∧Q (.int (if k then 1 else 0)) H):=by
 intro pins s σ H xs us Q I r h
 rcases h with ⟨i,rfl,q⟩ | ⟨k,rfl,q⟩
 ·obtain ⟨u,rfl,t,rfl⟩:=Z8I r
  exact call_int_int ⟨.int i,H,I,⟨_,rfl⟩,q⟩
 ·obtain ⟨u,rfl,r1⟩:=Z8I r
  cases r1
  exact call_int_bool ⟨.int (if k then 1 else 0),H,I.tok _,⟨_,rfl⟩,q⟩
end
structure ObjM (h:Heap) (x dx C:y8) (mA:Str→Option Value):Prop where
 obj:h.get? x=some (W.instObj C dx)
 ns:h.Ns1 dx mA
 ne:dx≠x
theorem J0L {h:Heap} {dx:y8} {mA:Str→Option Value} (n:h.Ns1 dx mA):∃ od,h.get? dx=some od∧∀ name,W.lookIn name od=some (mA name):=by
 obtain ⟨o,es,ep,ho,hd,hk,_,hm⟩:=n
 refine ⟨o,ho,fun name=>?_⟩
 have e:=hm name
 unfold nsFind findBy at e
 rw [← Array.find?_toList] at e
 unfold W.lookIn
 rw [hd]
 dsimp only
 split
 ·rename_i y q
  rw [q] at e
  exact congrArg some e
 ·rename_i q
  rw [q] at e
  have a:es.toList.any (·.refKey)=false:=by
   rw [List.any_eq_false]
   intro y hy
   obtain ⟨z,t,hkey⟩:=hk y (Array.mem_toList_iff.mp hy)
   simp [DictEntry.refKey,hkey]
  have a':¬ es.toList.any (·.refKey)=true:=by rw [a]; exact qc5
  rw [if_neg a']
  exact congrArg some e
theorem ObjM.look {h:Heap} {x dx C:y8} {mA:Str→Option Value} (I:ObjM h x dx C mA):∃ od,W.InstAt h x (W.instObj C dx) C (some od)∧∀ name,W.lookIn name od=some (mA name):=
 let ⟨od,ho,hl⟩:=J0L I.ns
 ⟨od,⟨I.obj,rfl,rfl,ho⟩,hl⟩
section
variable {prog:Program} {w:World} {A:Around} {E:Value→Shared→Prop} {s:Shared} {K:y9} {x dx C f:y8} {mA:Str→Option Value} {name:Str} {v:Value}
theorem J3j {expr:Bool} {Q:Value→Shared→Prop} (X:K.In s.heap) (I:ObjM s.heap x dx C mA) (hg:W.plainGet K C name=true) (hh:W.hasDictIn K C=true)
  (ha:W.findIn K (.ref C) name=some none) (hv:mA name=some v) (hv':W.handedIn v=true) (h:Q v { s with toks:=s.toks+1 }) :
  wpAny (model prog w) A (getAttr (.ref x) name expr) Q E s:=by
 obtain ⟨od,J,hl⟩:=I.look
 exact W.get_value X J (W.plainGet_of hg).1 (W.findObj_own hh ha rfl (by rw [hl,hv])) hv' h
theorem J1O {pl:Sem Bool} {Q:Value×List Value→Shared→Prop} (X:K.In s.heap) (I:ObjM s.heap x dx C mA) (hg:W.plainGet K C name=true)
  (hf:W.findIn K (.ref C) name=some (some (.ref f))) (ht:W.isFn K (.ref f)=true) (hv:mA name=none) (h:Q (.ref f,[.ref x]) s) :
  wpAny (model prog w) A (getMethod (.ref x) name pl) Q E s:=by
 obtain ⟨od,J,hl⟩:=I.look
 exact W.method_fn X J (W.plainGet_of hg).1 (W.plainGet_of hg).2 hf (beq_iff_eq.mp ht) (by show (W.lookIn name od).map (·.isSome)=some false; rw [hl,hv]; rfl) h
theorem J4d {ns:List Str} {Q:Unit→Shared→Prop} (X:K.In s.heap) (I:ObjM s.heap x dx C mA)
  (hs:W.findIn K (.ref C) "__setattr__"=some (some (.builtin "object.__setattr__"))) (hp:W.plainOver K C=true) (ht:W.takerIn K C name=some none) (hh:W.hasDictIn K C=true)
  (hw:PySem.Within mA ns) (hsz:ns.length≤sizeLine)
  (h:∀ h',ObjM h' x dx C (fun y=>if y=name then some v else mA y)→Heap.SameBut dx s.heap h'→Q () { s with heap:=h',toks:=s.toks+2 }) :
  wpAny (model prog w) A (setAttr (.ref x) name v) Q E s:=by
 obtain ⟨od,J,hl⟩:=I.look
 refine W.set_plain X J hs (W.osa_open (s:={ s with toks:=s.toks+1 }) (r:=none) X J hp ht fun b=>?_)
 obtain ⟨cd,hc,hd'⟩:=W.any_some hh
 have hx:s.heap.get? x=some ⟨.ref C,some dx,.plain,#[]⟩:=I.obj
 refine wpAny_bind (wpAny_pure (wpAny_bind (wpAny_bind (wpAny_loadPart hx (wpAny_bind (W.Looks.here (s:={ s with toks:=s.toks+1 }) (W.looks_clsIn X hc) ?_))))))
 rw [hd']
 refine wpAny_pure (a:=some dx) (wpAny_bind (wpAny_pure (wpAny_bind ?_)))
 refine wpAny_nsSet1 (s:={ s with toks:=s.toks+1 }) I.ns fun h' hn2 hs2=>?_
 obtain ⟨oD,esD,epD,hoD,hdD,hcD⟩:=hn2.count (PySem.Within.cons name v hw)
 refine wpAny_bind (wpAny_lookBehind hoD (by rw [hdD]; exact pastItsLine_dict (qa7 hcD (by rw [qb8]; omega))) ?_)
 exact wpAny_pure (h _ ⟨(hs2.2 _ (Ne.symm I.ne)).trans I.obj,hn2,I.ne⟩ hs2)
theorem Z8d {R:Result→Shared→Prop} {vs:List Value} {kw:List (Str×Value)} (X:K.In s.heap) (hm:W.makesIn K C=true)
  (hi:W.findIn K (.ref C) "__init__"=some (some (.ref f))) (hf:W.typeIn K (.ref f)=some (.type "function"))
  (h:codeAny (model prog w) (A.under (.builtin "type.__call__" ⟨.ref C::vs,kw⟩)) (.call (.ref f) ⟨.ref (s.heap.objs.size+1)::vs,kw⟩) (W.InitBack (s.heap.objs.size+1) R)
   { s with heap:=(s.heap.push W.emptyDict).push (W.instObj C s.heap.objs.size) }) :
  codeAny (model prog w) A (.call (.ref C) ⟨vs,kw⟩) R s:=by
 obtain ⟨hh,g,d,t,os⟩:=s
 exact W.make_core (W.makes_of X hm) (W.looks_findIn X hi) (fun self=>W.bind_fn X self hf) (.inl rfl) h
end
def putF (f:Str) (v:V):List (Str×V)→List (Str×V)
 | []=>[(f,v)]
 | (g,x)::r=>if g=f then (g,v)::r else (g,x)::putF f v r
theorem Z4q (f g:Str) (v:V):∀ fs:List (Str×V),(putF f v fs).lookup g=if g=f then some v else fs.lookup g
 | []=>by
  show qf4 g [(f,v)]=_
  by_cases h:g=f
  ·have hb:(g == f)=true:=beq_iff_eq.mpr h
   simp only [qf4,hb,if_pos h]
  ·have hb:(g == f)=false:=beq_eq_false_iff_ne.mpr h
   simp only [qf4,hb,if_neg h]
 | (k,x)::r=>by
  have ih:=Z4q f g v r
  rw [show putF f v ((k,x)::r)=(if k=f then (k,v)::r else (k,x)::putF f v r) from rfl]
  by_cases hk:k=f
  ·rw [if_pos hk]
   by_cases h:g=k
   ·have hb:(g == k)=true:=beq_iff_eq.mpr h
    simp only [qf4,hb,if_pos (h.trans hk)]
   ·have hb:(g == k)=false:=beq_eq_false_iff_ne.mpr h
    simp only [qf4,hb,if_neg (fun e:g=f=>h (e.trans hk.symm))]
  ·rw [if_neg hk]
   by_cases h:g=k
   ·have hb:(g == k)=true:=beq_iff_eq.mpr h
    simp only [qf4,hb,if_neg (fun e:g=f=>hk (h.symm.trans e))]
   ·have hb:(g == k)=false:=beq_eq_false_iff_ne.mpr h
    simp only [qf4,hb]
    exact ih
theorem Z4k (f:Str) (v:V):∀ fs:List (Str×V),f∈(putF f v fs).map (·.1)∧∀ g,g∈fs.map (·.1)→g∈(putF f v fs).map (·.1)
 | []=>⟨by simp [putF],fun g h=>by simp at h⟩
 | (k,x)::r=>by
  obtain ⟨i1,i2⟩:=Z4k f v r
  rw [show putF f v ((k,x)::r)=(if k=f then (k,v)::r else (k,x)::putF f v r) from rfl]
  by_cases hk:k=f
  ·rw [if_pos hk]
   subst hk
   exact ⟨by simp,fun g h=>by simpa using h⟩
  ·rw [if_neg hk]
   refine ⟨?_,fun g h=>?_⟩
   ·rw [qd5]
    exact qb1 _ i1
   ·rw [qd5] at h ⊢
    rcases qa8.mp h with e | e
    ·exact qa8.mpr (.inl e)
    ·exact qb1 _ (i2 g e)
theorem Z4u (f:Str) (v:V):∀ fs:List (Str×V),(putF f v fs).length≤fs.length+1
 | []=>by simp [putF]
 | (k,x)::r=>by
  have ih:=Z4u f v r
  rw [show putF f v ((k,x)::r)=(if k=f then (k,v)::r else (k,x)::putF f v r) from rfl]
  by_cases hk:k=f
  ·rw [if_pos hk,qb8,qb8]; omega
  ·rw [if_neg hk,qb8,qb8]; omega
theorem RelO.some_of {v:V} {o:Option Value} (r:RelO (some v) o):∃ u,o=some u∧RelV v u:=by
 cases o with
 | none=>exact (show False from r).elim
 | some u=>exact ⟨u,rfl,r⟩
theorem RelO.none_of {o:Option Value} (r:RelO none o):o=none:=by
 cases o with
 | none=>rfl
 | some u=>exact (show False from r).elim
theorem Z9n {v:V} {u:Value} (r:RelV v u):W.handedIn u=true:=by
 cases v with
 | non=>cases (show u=Value.none from r); rfl
 | bl b=>cases (show u=Value.bool b from r); rfl
 | int i=>obtain ⟨t,e⟩:=(show ∃ t,u=Value.int i t from r); cases e; rfl
 | str x=>obtain ⟨t,e⟩:=(show ∃ t,u=Value.str x t from r); cases e; rfl
 | byt b=>obtain ⟨t,e⟩:=(show ∃ t,u=Value.bytes b t from r); cases e; rfl
 | flt b=>obtain ⟨t,e⟩:=(show ∃ t,u=Value.float b t from r); cases e; rfl
 | ref a=>cases (show u=Value.ref a from r); rfl
 | ty n=>cases (show u=Value.type n from r); rfl
section
variable {P:Program} {w:World} {H H':Hp} {h h':Heap} {a C dx:y8} {fs fs':List (Str×V)}
theorem Z5l (hok:HOk P w H h) (e:H a=some (.ins C dx fs)):∃ mA,ObjM h a dx C mA∧(∀ f,RelO (fs.lookup f) (mA f))∧PySem.Within mA (fs.map (·.1))∧fs.length≤1000∧H dx=some (.own a):=by
 obtain ⟨d,z,ne,ob,mA,n,r,q⟩:=(show ObjOk P w H h a (.ins C dx fs) from hok a _ e)
 exact ⟨mA,⟨ob,n,ne⟩,r,q,z,d⟩
end
structure Cls (K:y9) (C:y8):Prop where
 pg:W.plainGet K C Str.empty=true
 hd:W.hasDictIn K C=true
 po:W.plainOver K C=true
 sa:W.findIn K (.ref C) "__setattr__"=some (some (.builtin "object.__setattr__"))
theorem Cls.get {K:y9} {C:y8} (c:Cls K C) (f:Str):W.plainGet K C f=true:=c.pg
def NoAttr (K:y9) (C:y8) (f:Str):Prop:=W.findIn K (.ref C) f=some none
theorem NoAttr.taker {K:y9} {C:y8} {f:Str} (n:NoAttr K C f):W.takerIn K C f=some none:=by
 unfold W.takerIn
 rw [show W.findIn K (.ref C) f=some none from n]
 rfl
structure Con (K:y9) (C:y8) (f:Str) (v:V) (u:Value):Prop where
 at_:W.findIn K (.ref C) f=some (some u)
 rel:RelV v u
 get:W.specialIn K u "__get__"=some none
 cp:W.copiedNames.contains f=false
structure Meth (K:y9) (C:y8) (m:Str) (f:y8):Prop where
 at_:W.findIn K (.ref C) m=some (some (.ref f))
 fn:W.isFn K (.ref f)=true
 kp:W.keepIn K (.ref f)=true
section
variable {X:Cx} {pins:List (y8×Obj)} {σ:St} {H:Hp} {s:Shared} {a C dx:y8} {fs:List (Str×V)} {f:Str} {v:V} {A:Around} {E:Value→Shared→Prop}
theorem Z4V {b:Bool} {Q:Value→Shared→Prop} (I:Inv X pins σ H s) (e:H a=some (.ins C dx fs)) (c:Cls X.K C) (n:NoAttr X.K C f) (l:fs.lookup f=some v)
  (h:∀ u s',Inv X pins σ H s'→RelV v u→Q u s'):wpAny (model X.prog X.w) A (getAttr (.ref a) f b) Q E s:=by
 obtain ⟨mA,O,r,_,_,_⟩:=Z5l I.hok e
 obtain ⟨u,hu,ru⟩:=RelO.some_of (v:=v) (o:=mA f) (by rw [← l]; exact r f)
 exact J3j I.kIn O (c.get f) c.hd n hu (Z9n ru) (h u _ (I.tok _) ru)
theorem Z3K {m:Str} {g:y8} {pl:Sem Bool} {Q:Value×List Value→Shared→Prop} (I:Inv X pins σ H s) (e:H a=some (.ins C dx fs)) (c:Cls X.K C) (k:Meth X.K C m g) (l:fs.lookup m=none)
  (h:Q (.ref g,[.ref a]) s):wpAny (model X.prog X.w) A (getMethod (.ref a) m pl) Q E s:=by
 obtain ⟨mA,O,r,_,_,_⟩:=Z5l I.hok e
 have hn:mA m=none:=RelO.none_of (by rw [← l]; exact r m)
 exact J1O I.kIn O (c.get m) k.at_ k.fn hn h
theorem Z5b {y:V} {u:Value} {Q:Unit→Shared→Prop} (I:Inv X pins σ H s) (e:H a=some (.ins C dx fs)) (c:Cls X.K C) (n:NoAttr X.K C f) (hl:fs.length < 1000) (ry:RelV y u)
  (h:∀ s',Inv X pins σ (upd H a (.ins C dx (putF f y fs))) s'→Q () s'):wpAny (model X.prog X.w) A (setAttr (.ref a) f u) Q E s:=by
 obtain ⟨mA,O,r,wi,_,ho⟩:=Z5l I.hok e
 have hz:(fs.map (·.1)).length≤sizeLine:=by rw [qa2,sizeLine_eq]; omega
 refine J4d I.kIn O c.sa c.po n.taker c.hd wi hz fun h' O' sb=>h _ ?_
 have hd:∃ o,h'.get? dx=some o:=let ⟨o,_,_,e',_⟩:=O'.ns; ⟨o,e'⟩
 refine I.write (x:=a) (e:=dx) (by rw [e]; exact True.intro) (.inr ho) (fun b q hb z=>(sb.2 b hb).trans z) hd ?_
 refine ⟨by rw [Z0e O.ne]; exact ho,?_,O.ne,O'.obj,_,O'.ns,fun g=>?_,fun g hg=>?_⟩
 ·have:=Z4u f y fs; omega
 ·show RelO ((putF f y fs).lookup g) (if g=f then some u else mA g)
  rw [Z4q]
  by_cases q:g=f
  ·rw [if_pos q,if_pos q]; exact ry
  ·rw [if_neg q,if_neg q]; exact r g
 ·by_cases q:g=f
  ·rw [q]; exact (Z4k f y fs).1
  ·refine (Z4k f y fs).2 g (wi g fun z=>hg ?_)
   show (if g=f then some u else mA g)=none
   rw [if_neg q]; exact z
theorem Inv.made (I:Inv X pins σ H s):Inv X pins σ (upd (upd H s.heap.objs.size (.own (s.heap.objs.size+1))) (s.heap.objs.size+1) (.ins C s.heap.objs.size []))
  { s with heap:=(s.heap.push W.emptyDict).push (W.instObj C s.heap.objs.size) }:=by
 have e1:(s.heap.push W.emptyDict).get? s.heap.objs.size=some W.emptyDict:=Heap.get?_push_size s.heap rfl
 have e2:((s.heap.push W.emptyDict).push (W.instObj C s.heap.objs.size)).get? (s.heap.objs.size+1)=some (W.instObj C s.heap.objs.size):=by
  have:=Heap.get?_push_size (s.heap.push W.emptyDict) (o:=W.instObj C s.heap.objs.size) rfl
  rwa [Heap.size_push] at this
 have e3:(s.heap.push W.emptyDict).Ns s.heap.objs.size (fun _=>none):=⟨W.emptyDict,#[],_,e1,rfl,(fun e he=>absurd he (by simp)),fun _=>rfl⟩
 have I1:=I.laid (a:=s.heap.objs.size) (o:=.own (s.heap.objs.size+1)) (h':=s.heap.push W.emptyDict) (t':=s.toks) (fun b u q=>Heap.get?_push_of_some _ q) (qa0 _) ⟨_,e1⟩
 refine I1.laid (a:=s.heap.objs.size+1) (o:=.ins C s.heap.objs.size []) (t':=s.toks) (fun b u q=>Heap.get?_push_of_some _ q) (Nat.le_of_eq (Heap.size_push _ _)) ?_
 have ne:s.heap.objs.size≠s.heap.objs.size+1:=qd2 (qh0 _)
 refine ⟨by rw [Z0e ne,Z0d],qa4 _,ne,e2,fun _=>none,(Heap.Ns1.of_empty e3).at fun o q=>Heap.get?_push_of_some _ q,fun _=>True.intro,fun y hy=>absurd rfl hy⟩
theorem J3e {prog:Program} {w:World} {env:Env} {e:Expr} {f:Str} {pos:Pos} {s:Shared} {Q:Value→Shared→Prop} (hb:attributeBase e f env (eval e env)=eval e env)
  (h:wpAny (model prog w) A (eval e env) (fun o s₁=>wpAny (model prog w) A (getAttr o f true) Q E s₁) E s):wpAny (model prog w) A (eval (.Attribute e f pos) env) Q E s:=
 Attribute_any_ h (by rw [arm_eval_Attribute,hb])
end
def InOp (X:Cx) (op:Operator) (rd:V→V→Hp→VK→Prop):Prop:=
 ∀ (pins:List (y8×Obj)) (s:Shared) (σ:St) (H:Hp) (x y:V) (u v:Value) (Q:VK),Inv X pins σ H s→RelV x u→RelV y v→rd x y H Q→wpAny (model X.prog X.w) X.A (inplaceOp op u v) (EP X pins σ Q) X.xe s
section
variable {X:Cx} {o e value:Expr} {f:Str} {pos pos' tpos:Pos} {ta tv:TE}
theorem J2Y {pl:Sem Bool} {m:Str} {apos:Pos} {args:List Expr} {pins:List (y8×Obj)} {s:Shared} {σ:St} {H:Hp} {Q:Value→Shared→Prop} {te:TE} (he:PE X e te) (I:Inv X pins σ H s)
  (h:te σ H fun x H1=>∃ a C dx fs g,x=.ref a∧H1 a=some (.ins C dx fs)∧Cls X.K C∧Meth X.K C m g∧fs.lookup m=none ∧
   ∀ s1,Inv X pins σ H1 s1→wpAny (model X.prog X.w) X.A (callWith pos (.ref g) [.ref a] (backTo pos (starEach args X.env)) (backToKw pos (keywordEach [] X.env))) Q X.xe s1)
  (ht:eval (.Call (.Attribute e m apos) args [] pos) X.env=(do
   let ov ← eval e X.env
   standAt apos.atName
   let (f,first) ← holding [ov] (getMethod ov m pl)
   callWith pos f first (backTo pos (starEach args X.env)) (backToKw pos (keywordEach [] X.env)))) :
  wpAny (model X.prog X.w) X.A (eval (.Call (.Attribute e m apos) args [] pos) X.env) Q X.xe s:=by
 refine W.methodCall_KW (pl:=pl) (thn (he pins s σ H _ I h) fun u s1 hz_=>?_) ht
 obtain ⟨x,H1,I1,rx,a,C,dx,fs,g,ex,ea,c,k,l,q⟩:=hz_
 subst ex
 obtain rfl:u=Value.ref a:=rx
 exact Z3K I1 ea c k l (q s1 I1)
end
section
variable {X:Cx} {pins:List (y8×Obj)} {σ:St} {H:Hp} {s:Shared} {A:Around} {E:Value→Shared→Prop} {Q:Value→Shared→Prop} {c:Value} {b:Bool}
inductive TyOf (K:y9) (H:Hp):V→Value→Prop where
 | non:TyOf K H .non (.type "NoneType")
 | bl (x:Bool):TyOf K H (.bl x) (.type "bool")
 | int (i:Int):TyOf K H (.int i) (.type "int")
 | str (x:Str):TyOf K H (.str x) (.type "str")
 | flt (x:UInt64):TyOf K H (.flt x) (.type "float")
 | lst {a:y8} {xs:List V} (e:H a=some (.lst xs)):TyOf K H (.ref a) (.type "list")
 | frz {a:y8} {o:Obj} {xs:List V} (e:H a=some (.frz o (.lst xs))):TyOf K H (.ref a) (.type "list")
 | tup {a:y8} {xs:List V} (e:H a=some (.tup xs)):TyOf K H (.ref a) (.type "tuple")
 | dK {a:y8} {kvs:List (Key×V)} (e:H a=some (.dK kvs)):TyOf K H (.ref a) (.type "dict")
 | dT {a:y8} {kvs:List (List Key×V)} (e:H a=some (.dT kvs)):TyOf K H (.ref a) (.type "dict")
 | ins {a C dx:y8} {fs:List (Str×V)} (e:H a=some (.ins C dx fs)) (cl:Cls K C) (ha:W.findIn K (.ref C) "__class__"=some (some (.builtin "object.__class__")))
   (hn:W.specialIn K (.builtin "object.__class__") "__get__"=some (some (.builtin "getset_descriptor.__get__"))) (htk:W.takesIn K (.builtin "object.__class__")=some true)
   (hm:W.mroIn K C (.type "object")=some true):TyOf K H (.ref a) (.ref C)
theorem Z2S {x:V} {u t:Value} (I:Inv X pins σ H s) (rx:RelV x u) (ty:TyOf X.K H x t) (e:W.kitOne X.K t c=some b) (h:∀ tk,Q (.bool b) { s with toks:=tk }) :
  wpAny (model X.prog X.w) A (call (.builtin "isinstance") [u,c]) Q E s:=by
 cases ty with
 | non=>cases (show u=Value.none from rx); exact W.kia_one W.kitx_none I.kIn True.intro e (fun z=>nomatch z) h
 | bl y=>cases (show u=Value.bool y from rx); exact W.kia_one W.kitx_bool I.kIn True.intro e (fun z=>nomatch z) h
 | int i=>obtain ⟨t,q⟩:=(show ∃ t,u=Value.int i t from rx); cases q; exact W.kia_one W.kitx_int I.kIn True.intro e (fun z=>nomatch z) h
 | str y=>obtain ⟨t,q⟩:=(show ∃ t,u=Value.str y t from rx); cases q; exact W.kia_one W.kitx_str I.kIn True.intro e (fun z=>nomatch z) h
 | flt y=>obtain ⟨t,q⟩:=(show ∃ t,u=Value.float y t from rx); cases q; exact W.kia_one W.kitx_float I.kIn True.intro e (fun z=>nomatch z) h
 | @lst a xs ea=>
  cases (show u=Value.ref a from rx)
  obtain ⟨_,_,n,_,h1⟩:=(show ObjOk X.prog X.w H s.heap a (.lst xs) from I.hok a _ ea)
  exact W.kia_one W.kitx_list I.kIn ⟨_,h1,rfl⟩ e (fun z=>nomatch z) h
 | @frz a ob xs ea=>
  cases (show u=Value.ref a from rx)
  obtain ⟨_,_,_,n,_,h1⟩:=(show ObjOk X.prog X.w H s.heap a (.frz ob (.lst xs)) from I.hok a _ ea)
  exact W.kia_one W.kitx_list I.kIn ⟨_,h1,rfl⟩ e (fun z=>nomatch z) h
 | @tup a xs ea=>
  cases (show u=Value.ref a from rx)
  obtain ⟨_,_,_,p⟩:=(show ObjOk X.prog X.w H s.heap a (.tup xs) from I.hok a _ ea)
  obtain ⟨o,h1,h2,_⟩:=p
  exact W.kia_one W.kitx_tuple I.kIn ⟨o,h1,h2⟩ e (fun z=>nomatch z) h
 | @dK a kvs ea=>
  cases (show u=Value.ref a from rx)
  obtain ⟨_,_,vs,_,p⟩:=(show ObjOk X.prog X.w H s.heap a (.dK kvs) from I.hok a _ ea)
  obtain ⟨o,es,ep,h1,h2,_⟩:=p
  exact W.kia_one W.kitx_dict I.kIn ⟨o,h1,h2.1⟩ e (fun z=>nomatch z) h
 | @dT a kvs ea=>
  cases (show u=Value.ref a from rx)
  obtain ⟨_,_,xs,_,o,es,ep,h1,h2,_⟩:=(show ObjOk X.prog X.w H s.heap a (.dT kvs) from I.hok a _ ea)
  exact W.kia_one W.kitx_dict I.kIn ⟨o,h1,h2.1⟩ e (fun z=>nomatch z) h
 | @ins a C dx fs ea cl ha hn htk hm=>
  cases (show u=Value.ref a from rx)
  obtain ⟨mA,O,_⟩:=Z5l I.hok ea
  obtain ⟨od,J,_⟩:=O.look
  exact W.kia_one (W.kitx_own (cl.get _) cl.hd ha hn htk hm) I.kIn J e (fun z=>nomatch z) h
end
structure Room (k:Nat) (A:Around):Prop where
 hd:A.handled=none
 dp:A.depth+3 * k+5 < recursionLimit
 un:A.units+16 * k+200 < cLine
 gd:A.guards=some []
theorem Room.mono {j k:Nat} {A:Around} (r:Room k A) (h:j≤k):Room j A:=⟨r.hd,by have:=r.dp; omega,by have:=r.un; omega,r.gd⟩
theorem Room.deeper {k:Nat} {A:Around} (r:Room (k+1) A) (env:Env):Room k (A.deeper env):=
 ⟨r.hd,by have:=r.dp; show A.depth+1+3 * k+5 < _; omega,by have:=r.un; show A.units+3+16 * k+200 < _; omega,r.gd⟩
theorem Z8N {A:Around} {C:y8} {us:List Value} {kw:List (Str×Value)}:(A.under (.builtin "type.__call__" ⟨.ref C::us,kw⟩)).depth=A.depth+1:=by
 first | rfl | simp [Around.under,Code.weight,Code.isCreation,Code.isGuard,Code.isCaller,Code.frames,Code.isFrame,guardIds]
theorem Z8K {A:Around} {C:y8} {us:List Value} {kw:List (Str×Value)}:(A.under (.builtin "type.__call__" ⟨.ref C::us,kw⟩)).units=A.units+1:=by
 first | rfl | simp [Around.under,Code.cUnits,Code.frames,Code.isFrame]
theorem Room.make {k:Nat} {A:Around} (r:Room (k+1) A) (C:y8) (us:List Value) (kw:List (Str×Value)):Room k (A.under (.builtin "type.__call__" ⟨.ref C::us,kw⟩)):=
 ⟨r.hd,by have:=r.dp; rw [Z8N]; omega,by have:=r.un; rw [Z8K]; omega,r.gd⟩
theorem Room.depth {k:Nat} {A:Around} (r:Room k A):A.depth < recursionLimit:=by have:=r.dp; omega
theorem Room.units {k:Nat} {A:Around} (r:Room k A):A.units+64 < cLine:=by have:=r.un; omega
def tNil:TA:=fun _ H Q=>Q [] H
def Z5s (ta:TE) (tr:TA):TA:=fun σ H Q=>ta σ H fun x H1=>tr σ H1 fun xs H2=>Q (x::xs) H2
section
variable {X:Cx} {e:Expr} {es:List Expr} {te:TE} {t:TA} {pos:Pos}
theorem Z0N:PA X [] tNil:=fun _ _ _ _ H Q I h=>Calls.spliced_nil ⟨[],H,I,.nil,h⟩
theorem Z0r (ha:PE X e te) (hr:PA X es t) (hs:starEach (e::es) X.env=(false,eval e X.env)::starEach es X.env:=by rfl):PA X (e::es) (Z5s te t):=by
 intro pos pins s σ H Q I h
 rw [hs]
 show wpAny _ _ (spliced ((false,eval e X.env)::backTo pos (starEach es X.env))) _ _ s
 refine Calls.spliced_cons (thn (ha pins s σ H _ I h) fun u s1 ⟨x,H1,I1,r1,q1⟩=>?_)
 exact thn (hr pos pins s1 σ H1 _ I1 q1) fun us s2 ⟨xs,H2,I2,r2,q2⟩=>⟨x::xs,H2,I2,.cons r1 r2,q2⟩
def tTup (t:TA):TE:=fun σ H Q=>t σ H fun xs H1=>xs.length≤sizeLine∧∀ p,H1 p=none→Q (.ref p) (upd H1 p (.tup xs))
def tLst (t:TA):TE:=fun σ H Q=>t σ H fun xs H1=>xs.length≤sizeLine∧∀ p,H1 p=none→Q (.ref p) (upd H1 p (.lst xs))
theorem Z0k {x1} (h:PA X es t):PE X (.Tuple es x1 pos) (tTup t):=by
 intro pins s σ H Q I hq
 refine wpAny_Tuple_spliced (thn (h pos pins s σ H _ I hq) fun us s1 ⟨xs,H1,I1,r,z,q⟩=>⟨by rw [← r.length]; exact z,?_⟩)
 have hf:H1 s1.heap.objs.size=none:=I1.hok.fresh (qa0 _)
 refine ⟨.ref s1.heap.objs.size,upd H1 s1.heap.objs.size (.tup xs),I1.laid (t':=s1.toks) (fun b u e=>Heap.get?_push_of_some _ e) (qa0 _) ?_,rfl,q _ hf⟩
 exact ⟨⟨z,Z5j⟩,us,r,⟨_,Heap.get?_push_size _ rfl,rfl,_,rfl⟩⟩
theorem Z0s (h:PA X es t):PE X (.List es pos) (tLst t):=by
 intro pins s σ H Q I hq
 refine wpAny_List_spliced (thn (h pos pins s σ H _ I hq) fun us s1 ⟨xs,H1,I1,r,z,q⟩=>⟨by rw [← r.length]; exact z,?_⟩)
 have hf:H1 s1.heap.objs.size=none:=I1.hok.fresh (qa0 _)
 refine ⟨.ref s1.heap.objs.size,upd H1 s1.heap.objs.size (.lst xs),I1.laid (t':=s1.toks) (fun b u e=>Heap.get?_push_of_some _ e) (qa0 _) ?_,rfl,q _ hf⟩
 exact ⟨z,us,0,r,Heap.get?_push_size _ rfl⟩
end
abbrev Sp:=List V→Hp→VK→XK→Prop
abbrev CXT:=List Env→Hp→Shared→XK→Value→Shared→Prop
structure Env0 (P:Program) (w:World) (K:y9) (mg:Str→Option Value) (base:Heap) (A:Around) (outer:List Env) (s:Shared) (H:Hp):Prop where
 frames:A.frames=some outer
 mod:Mod K mg base
 bs:∀ b o,base.get? b=some o→s.heap.get? b=some o∧H b=none
 bsz:base.objs.size≤s.heap.objs.size
 funs:s.heap.FunFrames base outer
 frf:∀ b∈frs outer,H b=none
 hok:HOk P w H s.heap
 bare:AllBare s.gens
def CE (outer:List Env) (P:Program) (w:World) (H:Hp) (s:Shared) (Q:VK) (u:Value) (s':Shared):Prop:=
 ∃ v H',s'.os=s.os∧AllBare s'.gens∧Un (frs outer) [] H H' s.heap s'.heap∧HOk P w H' s'.heap∧RelV v u∧Q v H'
def CR (CX:CXT) (outer:List Env) (P:Program) (w:World) (H:Hp) (s:Shared) (Q:VK) (E:XK) (r:Result) (s':Shared):Prop:=
 match r with
 | .ok (.ret u)=>CE outer P w H s Q u s'
 | .ok _=>False
 | .error e=>CX outer H s E e s'
structure FnOk (P:Program) (w:World) (K:y9) (mg:Str→Option Value) (base:Heap) (CX:CXT) (k:Nat) (f:y8) (fd:FuncData) (ps:List Str) (sp:Sp):Prop where
 len:∀ vs H Q E,sp vs H Q E→vs.length=ps.length
 run:∀ (A:Around) (outer:List Env) (s:Shared) (H:Hp) (args:Args) (us:List Value) (vs:List V) (Q:VK) (E:XK),Room k A→Env0 P w K mg base A outer s H→BindsTo s fd args (ps.zip us)→Vals vs us→sp vs H Q E →
  codeAny (model P w) A (.call (.ref f) args) (CR CX outer P w H s Q E) s
theorem Env0.make {P:Program} {w:World} {K:y9} {mg:Str→Option Value} {base:Heap} {A:Around} {outer:List Env} {s:Shared} {H:Hp} (e:Env0 P w K mg base A outer s H) (C:y8) (us:List Value) (kw:List (Str×Value)) :
  Env0 P w K mg base (A.under (.builtin "type.__call__" ⟨.ref C::us,kw⟩)) outer s H:=⟨by first | exact e.frames | (simpa [Around.under,Code.envs,Code.isFrame,pushEnvs] using e.frames),e.mod,e.bs,e.bsz,e.funs,e.frf,e.hok,e.bare⟩
section
variable {X:Cx} {pins:List (y8×Obj)} {σ:St} {H:Hp} {s s':Shared}
theorem Inv.env0 (I:Inv X pins σ H s):Env0 X.prog X.w X.K X.mg X.base X.A X.stack s H:=
 ⟨I.ok.frames,I.ok.mod,I.bs,qa7 I.ok.bsz I.sz,I.stack,I.stkFree,I.hok,I.bare⟩
theorem Inv.after {Q:VK} {u:Value} (I:Inv X pins σ H s) (h:CE X.stack X.prog X.w H s Q u s'):EP X pins σ Q u s':=by
 obtain ⟨v,H',os,bare,un,hok,r,q⟩:=h
 obtain ⟨hh,g,d,t,os'⟩:=s'
 obtain rfl:os'=s.os:=os
 exact ⟨v,H',I.call (h':=hh) (g':=g) (d':=d) (t':=t) (ch:=[]) un hok bare (fun b z=>absurd z (by simp)),r,q⟩
end
def J1I (sp:Sp) (dvs:List V) (E:XK) (t:TA):TE:=fun σ H Q=>t σ H fun vs H1=>sp (vs++dvs) H1 Q E
def Z9R (C:y8) (m:Str) (sp:Sp) (dvs:List V) (E:XK) (ta:TE) (t:TA):TE:=fun σ H Q=>ta σ H fun x H1=>∃ a dx fs,x=.ref a∧H1 a=some (.ins C dx fs)∧fs.lookup m=none ∧
 t σ H1 fun vs H2=>sp (x::(vs++dvs)) H2 Q E
def J3t (C:y8) (sp:Sp) (dvs:List V) (E:XK) (t:TA):TE:=fun σ H Q=>t σ H fun vs H1=>∀ x dx,H1 x=none→H1 dx=none→dx≠x →
 sp (.ref x::(vs++dvs)) (upd (upd H1 dx (.own x)) x (.ins C dx [])) (fun v H2=>v=.non∧Q (.ref x) H2) E
def Binds (K:y9) (fd:FuncData) (ps:List Str) (ds:List Value):Prop:=
 ∀ (s:Shared) (us:List Value),K.In s.heap→(us++ds).length=ps.length→BindsTo s fd ⟨us,[]⟩ (ps.zip (us++ds))
theorem Binds.all {K:y9} {fd:FuncData} {ps:List Str} (h:∀ us:List Value,us.length=ps.length→bindArgs fd ⟨us,[]⟩=pure (ps.zip us)):Binds K fd ps []:=fun s us _ hl=>by
 rw [qg5] at hl ⊢
 exact .of_eq (h us hl)
def Z3E (CX:CXT) (X:Cx) (E:XK):Prop:=∀ (pins:List (y8×Obj)) (σ:St) (H:Hp) (s:Shared) (e:Value) (s':Shared),Inv X pins σ H s→CX X.stack H s E e s'→X.xe e s'
section
variable {X:Cx} {CX:CXT} {k:Nat} {f C:y8} {fd:FuncData} {ps:List Str} {sp:Sp} {dvs:List V} {ds:List Value} {E:XK} {x m:Str} {p pos apos:Pos} {e o:Expr} {es:List Expr} {ta:TE} {t:TA}
theorem J0q {pins:List (y8×Obj)} {σ:St} {H:Hp} {s:Shared} {Q:VK} {us:List Value} {vs:List V} (F:FnOk X.prog X.w X.K X.mg X.base CX k f fd ps sp) (hr:Room k X.A) (hb:Binds X.K fd ps ds) (hd:Vals dvs ds) (hx:Z3E CX X E)
  (I:Inv X pins σ H s) (r:Vals vs us) (h:sp (vs++dvs) H Q E):wpAny (model X.prog X.w) X.A (call (.ref f) us) (EP X pins σ Q) X.xe s:=by
 have r2:Vals (vs++dvs) (us++ds):=r.append hd
 have hl:(us++ds).length=ps.length:=by rw [← r2.length]; exact F.len _ _ _ _ h
 refine wpAny_call (codeAny_mono (F.run X.A X.stack s H ⟨us,[]⟩ (us++ds) (vs++dvs) Q E hr I.env0 (hb s us I.kIn hl) r2 h) fun r s' hq=>?_)
 cases r with
 | error e=>exact hx pins σ H s e s' I hq
 | ok fl=>
  cases fl with
  | ret u=>exact I.after hq
  | next=>exact False.elim hq
  | brk=>exact False.elim hq
  | cont=>exact False.elim hq
theorem J3q (F:FnOk X.prog X.w X.K X.mg X.base CX k f fd ps sp) (hr:Room k X.A) (hg:Gl X x) (hm:X.mg x=some (.ref f)) (hk:W.keepIn X.K (.ref f)=true) (hb:Binds X.K fd ps ds) (hd:Vals dvs ds) (hx:Z3E CX X E)
  (ha:PA X (e::es) t) (hdb:(x == ("__debug__":Str))=false:=by decide) (he:starEach (e::es) X.env=(false,eval e X.env)::starEach es X.env:=by rfl) (hpl:(backTo pos (starEach es X.env)).any (·.1)=false:=by rfl) :
  PE X (.Call (.Name x p) (e::es) [] pos) (J1I sp dvs E t):=by
 intro pins s σ H Q I h
 refine wpAny_Call_Name_kw (Z5w I hg hm ?_ hdb)
 refine W.callWith_K (h₀:=X.base) I.ok.mod.kin hk (thn (ha pos pins s σ H _ I h) fun us s1 ⟨vs,H1,I1,r,q⟩=>⟨I1.kIn,?_⟩) he hpl
 exact J0q F hr hb hd hx I1 r q
theorem J3D {pl:Sem Bool} (he:PE X o ta) (c:Cls X.K C) (hm:Meth X.K C m f) (F:FnOk X.prog X.w X.K X.mg X.base CX k f fd ps sp) (hr:Room k X.A) (hb:Binds X.K fd ps ds) (hd:Vals dvs ds) (hx:Z3E CX X E) (ha:PA X (e::es) t)
  (hst:starEach (e::es) X.env=(false,eval e X.env)::starEach es X.env:=by rfl) (hpl:(backTo pos (starEach es X.env)).any (·.1)=false:=by rfl)
  (ht:eval (.Call (.Attribute o m apos) (e::es) [] pos) X.env=(do
   let ov ← eval o X.env
   standAt apos.atName
   let (f,first) ← holding [ov] (getMethod ov m pl)
   callWith pos f first (backTo pos (starEach (e::es) X.env)) (backToKw pos (keywordEach [] X.env))):=by rfl) :
  PE X (.Call (.Attribute o m apos) (e::es) [] pos) (Z9R C m sp dvs E ta t):=by
 intro pins s σ H Q I h
 refine W.methodCall_KW (pl:=pl) (thn (he pins s σ H _ I h) fun u s1 hz_=>?_) ht
 obtain ⟨x,H1,I1,rx,a,dx,fs,ex,ea,l,q⟩:=hz_
 subst ex
 obtain rfl:u=Value.ref a:=rx
 refine Z3K I1 ea c hm l ?_
 refine W.callWith_K (first:=[.ref a]) (h₀:=X.base) I.ok.mod.kin hm.kp (thn (ha pos pins s1 σ H1 _ I1 q) fun us s2 ⟨vs,H2,I2,r,q2⟩=>⟨I2.kIn,?_⟩) hst hpl
 exact J0q (us:=.ref a::us) (vs:=.ref a::vs) F hr hb hd hx I2 (.cons rfl r) q2
theorem J1a {pl:Sem Bool} (he:PE X o ta) (c:Cls X.K C) (hm:Meth X.K C m f) (F:FnOk X.prog X.w X.K X.mg X.base CX k f fd ps sp) (hr:Room k X.A) (hb:Binds X.K fd ps ds) (hd:Vals dvs ds) (hx:Z3E CX X E)
  (ht:eval (.Call (.Attribute o m apos) [] [] pos) X.env=(do
   let ov ← eval o X.env
   standAt apos.atName
   let (f,first) ← holding [ov] (getMethod ov m pl)
   callWith pos f first (backTo pos (starEach [] X.env)) (backToKw pos (keywordEach [] X.env))):=by rfl) :
  PE X (.Call (.Attribute o m apos) [] [] pos) (Z9R C m sp dvs E ta tNil):=by
 intro pins s σ H Q I h
 refine W.methodCall_KW (pl:=pl) (thn (he pins s σ H _ I h) fun u s1 hz_=>?_) ht
 obtain ⟨x,H1,I1,rx,a,dx,fs,ex,ea,l,q⟩:=hz_
 subst ex
 obtain rfl:u=Value.ref a:=rx
 refine Z3K I1 ea c hm l ?_
 exact W.callWith_K0 (first:=[.ref a]) I1.kIn hm.kp (J0q (us:=[.ref a]) (vs:=[.ref a]) F hr hb hd hx I1 (.cons rfl .nil) q)
structure Mk (K:y9) (C f:y8):Prop where
 makes:W.makesIn K C=true
 init:W.findIn K (.ref C) "__init__"=some (some (.ref f))
 fn:W.isFn K (.ref f)=true
 kp:W.keepIn K (.ref C)=true
theorem J1q {pins:List (y8×Obj)} {σ:St} {H:Hp} {s:Shared} {Q:VK} {us:List Value} {vs:List V} (M:Mk X.K C f) (F:FnOk X.prog X.w X.K X.mg X.base CX k f fd ps sp) (hr:Room (k+1) X.A) (hb:Binds X.K fd ps ds) (hd:Vals dvs ds)
  (hx:Z3E CX X E) (I:Inv X pins σ H s) (r:Vals vs us)
  (h:∀ x dx,H x=none→H dx=none→dx≠x→sp (.ref x::(vs++dvs)) (upd (upd H dx (.own x)) x (.ins C dx [])) (fun v H2=>v=.non∧Q (.ref x) H2) E) :
  wpAny (model X.prog X.w) X.A (call (.ref C) us) (EP X pins σ Q) X.xe s:=by
 have hq:=h (s.heap.objs.size+1) s.heap.objs.size (I.hok.fresh (qe9 _)) (I.hok.fresh (qa0 _)) (qd2 (qh0 _))
 have I2:=Inv.made (C:=C) I
 have r2:Vals (V.ref (s.heap.objs.size+1)::(vs++dvs)) (Value.ref (s.heap.objs.size+1)::(us++ds)):=.cons rfl (r.append hd)
 have hl:(Value.ref (s.heap.objs.size+1)::us++ds).length=ps.length:=by
  have e:=r2.length
  rw [F.len _ _ _ _ hq] at e
  exact e.symm
 refine wpAny_call (Z8d (f:=f) I.kIn M.makes M.init (beq_iff_eq.mp M.fn) (codeAny_mono (F.run _ X.stack _ _ ⟨Value.ref (s.heap.objs.size+1)::us,[]⟩ (Value.ref (s.heap.objs.size+1)::(us++ds)) _ _ E (hr.make C us [])
  (I2.env0.make C us []) (hb _ (Value.ref (s.heap.objs.size+1)::us) I2.kIn hl) r2 hq) fun r s' hq'=>?_))
 cases r with
 | error e=>exact hx pins σ _ _ e s' I2 hq'
 | ok fl=>
  cases fl with
  | ret u=>
   obtain ⟨v,H',I3,rv,ev,q3⟩:=I2.after hq'
   subst ev
   exact ⟨rv,⟨V.ref (s.heap.objs.size+1),H',I3,rfl,q3⟩⟩
  | next=>exact False.elim hq'
  | brk=>exact False.elim hq'
  | cont=>exact False.elim hq'
theorem J1b (M:Mk X.K C f) (F:FnOk X.prog X.w X.K X.mg X.base CX k f fd ps sp) (hr:Room (k+1) X.A) (hg:Gl X x) (hm:X.mg x=some (.ref C)) (hb:Binds X.K fd ps ds) (hd:Vals dvs ds) (hx:Z3E CX X E)
  (hdb:(x == ("__debug__":Str))=false:=by decide):PE X (.Call (.Name x p) [] [] pos) (J3t C sp dvs E tNil):=by
 intro pins s σ H Q I h
 refine wpAny_Call_Name_kw (Z5w I hg hm ?_ hdb)
 exact W.callWith_K0 I.kIn M.kp (J1q (us:=[]) M F hr hb hd hx I .nil h)
end
def PK (X:Cx) (kws:List Keyword) (t:TA):Prop:=
 ∀ (pos:Pos) (pins:List (y8×Obj)) (s:Shared) (σ:St) (H:Hp) (Q:List V→Hp→Prop),Inv X pins σ H s→t σ H Q→wpAny (model X.prog X.w) X.A (evalAll ((backToKw pos (keywordEach kws X.env)).map (·.2))) (AP X pins σ Q) X.xe s
section
variable {X:Cx} {CX:CXT} {k:Nat} {f C:y8} {fd:FuncData} {ps ks:List Str} {sp:Sp} {E:XK} {x m:Str} {p pos apos kpos:Pos} {e o:Expr} {es:List Expr} {kws:List Keyword} {te ta:TE} {t tk:TA} {nm:Option Str}
theorem Z7Y:PK X [] tNil:=fun _ _ _ _ H Q I h=>wpAny_evalAll_nil ⟨[],H,I,.nil,h⟩
theorem J3Q (ha:PE X e te) (hr:PK X kws t):PK X (⟨nm,e,kpos⟩::kws) (Z5s te t):=by
 intro pos pins s σ H Q I h
 show wpAny _ _ (evalAll ((do let v ← eval e X.env; standAt pos; pure v)::(backToKw pos (keywordEach kws X.env)).map (·.2))) _ _ s
 refine wpAny_evalAll_cons (wpAny_bind (thn (ha pins s σ H _ I h) fun u s1 ⟨x,H1,I1,r1,q1⟩=>wpAny_bind (wpAny_standAt (wpAny_pure ?_))))
 exact thn (hr pos pins s1 σ H1 _ I1 q1) fun us s2 ⟨xs,H2,I2,r2,q2⟩=>⟨x::xs,H2,I2,.cons r1 r2,q2⟩
structure Z9o (K:y9) (fd:FuncData) (ps ks:List Str) (g:List Value→List Value→List Value) (gV:List V→List V→List V):Prop where
 to:∀ (s:Shared) (us ws:List Value),K.In s.heap→(g us ws).length=ps.length→BindsTo s fd ⟨us,ks.zip ws⟩ (ps.zip (g us ws))
 rel:∀ {vs:List V} {us:List Value} {zs:List V} {ws:List Value},Vals vs us→Vals zs ws→Vals (gV vs zs) (g us ws)
variable {g:List Value→List Value→List Value} {gV:List V→List V→List V}
end
structure Z0l (N P:List Str) (sc:Scope):Prop where
 kind:sc.kind=.function
 co:sc.isCoroutine=false
 gen:sc.isGenerator=false
 nd:N.Nodup
 pre:N.take P.length=P
 par:∀ x∈P,sc.names.lookup x=some .local∨sc.names.lookup x=some .cell
 nofree:∀ y∈sc.names,y.2≠.free
theorem Z6i {kindOf:Str→Option NameKind} {x:Str}:∀ {binds:List (Str×Value)} {m:Str→Option Value},(∀ v,(x,v)∉binds)→bindL kindOf binds m x=m x
 | [],_,_=>rfl
 | (n,v)::r,m,h=>by
  unfold bindL
  rw [Z6i fun w hw=>h w (qb1 _ hw)]
  split
  ·have:x≠n:=by rintro rfl; exact h v qb5
   simp [this]
  ·rfl
theorem Z5N {kindOf:Str→Option NameKind} {x:Str}:∀ {binds:List (Str×Value)} {m:Str→Option Value},(∀ v,(x,v)∉binds)→bindC kindOf binds m x=m x
 | [],_,_=>rfl
 | (n,v)::r,m,h=>by
  unfold bindC
  rw [Z5N fun w hw=>h w (qb1 _ hw)]
  split
  ·rfl
  ·have:x≠n:=by rintro rfl; exact h v qb5
   simp [this]
theorem Z6x {kindOf:Str→Option NameKind} {x:Str} {v:Value}:∀ {P:List Str} {vs:List Value} {i:Nat} {m:Str→Option Value},P.Nodup→P[i]?=some x→vs[i]?=some v→kindOf x=some .local →
  bindL kindOf (P.zip vs) m x=some v
 | [],_,_,_,_,h,_,_=>by simp at h
 | _::_,[],_,_,_,_,h,_=>by simp at h
 | p::P,w::vs,0,m,nd,h1,h2,hk=>by
  simp at h1 h2; subst h1; subst h2
  show bindL kindOf ((p,w)::P.zip vs) m p=_
  unfold bindL
  rw [Z6i fun v hv=>(qj3.mp nd).1 (List.of_mem_zip hv).1,if_pos hk]
  simp
 | p::P,w::vs,i+1,m,nd,h1,h2,hk=>by
  show bindL kindOf ((p,w)::P.zip vs) m x=_
  unfold bindL
  exact Z6x (i:=i) (qj3.mp nd).2 (by simpa using h1) (by simpa using h2) hk
theorem Z6d {kindOf:Str→Option NameKind} {x:Str} {v:Value}:∀ {P:List Str} {vs:List Value} {i:Nat} {m:Str→Option Value},P.Nodup→P[i]?=some x→vs[i]?=some v→kindOf x≠some .local →
  bindC kindOf (P.zip vs) m x=some v
 | [],_,_,_,_,h,_,_=>by simp at h
 | _::_,[],_,_,_,_,h,_=>by simp at h
 | p::P,w::vs,0,m,nd,h1,h2,hk=>by
  simp at h1 h2; subst h1; subst h2
  show bindC kindOf ((p,w)::P.zip vs) m p=_
  unfold bindC
  rw [Z5N fun v hv=>(qj3.mp nd).1 (List.of_mem_zip hv).1,if_neg hk]
  simp
 | p::P,w::vs,i+1,m,nd,h1,h2,hk=>by
  show bindC kindOf ((p,w)::P.zip vs) m x=_
  unfold bindC
  exact Z6d (i:=i) (qj3.mp nd).2 (by simpa using h1) (by simpa using h2) hk
def Z4D (N:List Str) (vs:List V):St:=vs.map some++qa3 (N.length - vs.length) none
def cxOf (CX:CXT) (P:Program) (w:World) (K:y9) (mg:Str→Option Value) (base:Heap) (N:List Str) (qual:Str) (scope:Scope) (f:y8) (cd:Value) (A:Around) (outer:List Env) (s:Shared) (H:Hp) (E:XK):Cx where
 prog:=P
 w:=w
 K:=K
 mg:=mg
 base:=base
 A:=A.deeper (envOfC qual scope s.heap.objs.size f cd)
 N:=N
 s₀:=s
 H₀:=H
 env:=envOfC qual scope s.heap.objs.size f cd
 outer:=outer
 stack:=envOfC qual scope s.heap.objs.size f cd::outer
 ex:=[]
 calm:=true
 fn:=fun _=>true
 pn:=[]
 xe:=fun e s'=>wpAny (model P w) (A.deeper (envOfC qual scope s.heap.objs.size f cd)) (leaving (envOfC qual scope s.heap.objs.size f cd) e) (fun _ s''=>CX outer H s E e s'') (fun e' s''=>CX outer H s E e' s'') s'
theorem Z7G {sc:Scope} {n:Nat} {x:Str} (h:sc.names.lookup x=some .cell):∃ c,(cellsFrom n sc.names []).lookup x=some c:=by
 have q:=W.cellsFrom_some sc.names n [] (.inl h)
 exact Option.isSome_iff_exists.mp q
theorem J0C {CX:CXT} {P:Program} {w:World} {K:y9} {mg:Str→Option Value} {base:Heap} {N ps:List Str} {qual:Str} {scope:Scope} {f:y8} {cd:Value} {A:Around} {outer:List Env} {s s1:Shared} {H:Hp} {E:XK} {us:List Value} {vs:List V}
  (S:Z0l N ps scope) (hd:A.handled=none) (e0:Env0 P w K mg base A outer s H) (hl:vs.length=ps.length) (r:Vals vs us)
  (x:InCallC s s.heap.objs.size (bindL (envOfC qual scope s.heap.objs.size f cd).kindOf (ps.zip us) fun _=>none) (cellsFrom (s.heap.objs.size+1) scope.names []) (bindC (envOfC qual scope s.heap.objs.size f cd).kindOf (ps.zip us) fun _=>none) s1) :
  Inv (cxOf CX P w K mg base N qual scope f cd A outer s H E) [] (Z4D N vs) H s1:=by
 have hpl:ps.length≤N.length:=by have:=congrArg List.length S.pre; rw [qc4] at this; omega
 obtain ⟨h1,tk,rfl,hk⟩:=x.done
 have noA:∀ b:y8,b∉(cxOf CX P w K mg base N qual scope f cd A outer s H E).ex:=fun b z=>absurd (show b∈([]:List y8) from z) (by simp)
 refine ⟨⟨e0.mod,S.kind,rfl,rfl,qa0 _,fun y z c h1 h2=>?_,fun y hy=>?_,fun y c _ h=>?_,fun _=>hd,Around.frames_deeper e0.frames,.inr ⟨rfl,rfl⟩,fun b z=>absurd z (noA b),e0.bs,e0.bsz,fun b _ _=>noA b,fun b z=>absurd z (noA b),e0.funs,e0.frf⟩,
  rfl,e0.bare,Un.kept hk,⟨_,x.toInCall.ns,fun i y v h1 h2 h3=>?_⟩,fun y c h=>⟨_,x.cell y c h⟩,e0.hok.fresh (qa0 _),fun y c h=>?_,fun p hp=>absurd (show p∈([]:List (y8×Obj)) from hp) (by simp),e0.hok.kept hk,?_⟩
 ·exact name_of_addr x.apart (PySem.mem_of_lookup h1) (PySem.mem_of_lookup h2)
 ·have hy:scope.names.lookup y=some .cell∨scope.names.lookup y=some .free:=hy
  rcases hy with hy | hy
  ·exact Z7G hy
  ·exact absurd rfl (S.nofree _ (PySem.mem_of_lookup hy))
 ·exact Nat.le_of_lt (x.above y c (PySem.mem_of_lookup h))
 ·have hi:i < vs.length:=by
   unfold Z4D at h2
   by_cases hi:i < vs.length
   ·exact hi
   ·rw [qd6 (by simpa using hi)] at h2
    rw [ql1] at h2
    split at h2 <;> cases h2
  have ha:vs[i]?=some v:=by
   unfold Z4D at h2
   rw [qd4 (by simpa using hi),qc8] at h2
   cases e:vs[i]? with
   | none=>rw [e] at h2; cases h2
   | some a=>rw [e] at h2; cases h2; rfl
  obtain ⟨u,hu,rv⟩:=r.get ha
  have hp:ps[i]?=some y:=by
   rw [← S.pre,List.getElem?_take_of_lt qR]; exact h1
  have ndP:ps.Nodup:=by rw [← S.pre]; exact S.nd.sublist (List.take_sublist _ _)
  refine ⟨u,rv,?_⟩
  rcases S.par y (qb9 hp) with k | k
  ·exact .inl ⟨k,Z6x ndP hp hu k⟩
  ·obtain ⟨c,e⟩:=Z7G (n:=s.heap.objs.size+1) k
   refine .inr ⟨.inl k,c,e,?_⟩
   have q:=x.cell y c e
   rw [Z6d ndP hp hu (by show scope.names.lookup y≠_; rw [k]; decide)] at q
   exact q
 ·exact e0.hok.fresh (Nat.le_of_lt (x.above y c (PySem.mem_of_lookup h)))
 ·unfold Z4D
  show _=N.length
  rw [qa1,qa2,qd3]
  omega
theorem J5r {CX:CXT} {P:Program} {w:World} {K:y9} {mg:Str→Option Value} {base:Heap} {k:Nat} {f:y8} {name qual:Str} {params:Arguments} {body:List Stmt} {scope:Scope} {dV kV doc pm cdv ct oc:Value} {an od:Option y8}
  {osl:Array (Option Value)} {N ps:List Str} {sp:Sp} (lk:K.lookup f=some ⟨oc,od,.func (W.fnOf name qual params body scope dV kV doc pm an cdv ct),osl⟩) (hcd:W.codeIn K cdv qual=true) (S:Z0l N ps scope)
  (len:∀ vs H Q E,sp vs H Q E→vs.length=ps.length)
  (hbody:∀ (A:Around) (outer:List Env) (s:Shared) (H:Hp) (vs:List V) (Q:VK) (E:XK),Room k (A.deeper (envOfC qual scope s.heap.objs.size f cdv))→sp vs H Q E →
   ∃ t,PSs (cxOf CX P w K mg base N qual scope f cdv A outer s H E) body t∧t { nx:=fun _ H'=>Q .non H',rt:=Q } (Z4D N vs) H) :
  FnOk P w K mg base CX (k+1) f (W.fnOf name qual params body scope dV kV doc pm an cdv ct) ps sp:=by
 refine ⟨len,fun A outer s H args us vs Q E hr e0 hb r hsp=>?_⟩
 have hl:=len _ _ _ _ hsp
 have KX:K.In s.heap:=e0.mod.kin.keeps fun b o e=>(e0.bs b o e).1
 have lim:s.heap.NoLimit:=e0.mod.nolimit.keeps fun b o e=>(e0.bs b o e).1
 have hkind:∀ y∈ps.zip us,scope.names.lookup y.1=some .local∨(scope.names.lookup y.1=some .cell∧((cellsFrom (s.heap.objs.size+1) scope.names []).lookup y.1).isSome=true):=fun ⟨n,v⟩ hy=>by
  rcases S.par n (List.of_mem_zip hy).1 with q | q
  ·exact .inl q
  ·exact .inr ⟨q,W.cellsFrom_some _ _ _ (.inl q)⟩
 refine codeAny_call_function hr.depth (KX _ _ lk) rfl S.co S.gen rfl (W.codeRec_of KX hcd) (hb _ _ _ _ ?_)
 refine wpAny_newFunctionEnv_cells S.kind hkind fun env he s1 x=>?_
 subst he
 refine ⟨lim.keeps x.toInCall.keep,codeAny_func ?_⟩
 obtain ⟨t,ht,hq⟩:=hbody A outer s H vs Q E (hr.deeper _) hsp
 have I:Inv (cxOf CX P w K mg base N qual scope f cdv A outer s H E) [] (Z4D N vs) H s1:=J0C S hr.hd e0 hl r x
 refine wpAny_mono (ht [] s1 (Z4D N vs) H _ I hq) (fun fl s' hs=>?_) fun e s' hs=>hs
 have fin:∀ {σ':St} {H':Hp} {v:V} {u:Value},Inv (cxOf CX P w K mg base N qual scope f cdv A outer s H E) [] σ' H' s'→RelV v u→Q v H'→CE outer P w H s Q u s':=
  fun {σ' H' v u} J rv q=>⟨v,H',J.os,J.bare,J.base,J.hok,rv,q⟩
 cases fl with
 | ret u=>
  obtain ⟨v,σ',H',J,rv,q⟩:=hs
  exact fin J rv q
 | next=>
  obtain ⟨σ',H',J,q⟩:=hs
  exact fin (v:=V.non) (u:=Value.none) J rfl q
 | brk=>
  obtain ⟨_,_,_,q⟩:=hs
  exact False.elim q
 | cont=>
  obtain ⟨_,_,_,q⟩:=hs
  exact False.elim q
section
variable {X:Cx} {x:Str} {p pos:Pos} {e:Expr} {es:List Expr} {t:TA} {id T:String} {r:List V→Hp→VK→Prop}
def tCB (r:List V→Hp→VK→Prop) (t:TA):TE:=fun σ H Q=>t σ H fun vs H1=>r vs H1 Q
theorem Z1R (hc:Z3T X (.builtin id) r) (hg:Gl X x) (hm:X.mg x=none) (hv:bootBuiltins x=some (.builtin id)) (ha:PA X (e::es) t) (hn:x≠"__name__":=by decide) (hdb:(x == ("__debug__":Str))=false:=by decide)
  (he:starEach (e::es) X.env=(false,eval e X.env)::starEach es X.env:=by rfl) (hpl:(backTo pos (starEach es X.env)).any (·.1)=false:=by rfl):PE X (.Call (.Name x p) (e::es) [] pos) (tCB r t):=by
 intro pins s σ H Q I h
 refine wpAny_Call_Name_kw (Z7P I hg hm hv ?_ hn hdb)
 exact PyProof.Rows.callWith_builtin1 (thn (ha pos pins s σ H _ I h) fun us s1 ⟨vs,H1,I1,r1,q1⟩=>hc pins s1 σ H1 vs us Q I1 r1 q1) he hpl
theorem Z0H (hc:Z3T X (.type T) r) (hg:Gl X x) (hm:X.mg x=none) (hv:bootBuiltins x=some (.type T)) (ha:PA X (e::es) t) (hn:x≠"__name__":=by decide) (hdb:(x == ("__debug__":Str))=false:=by decide)
  (he:starEach (e::es) X.env=(false,eval e X.env)::starEach es X.env:=by rfl) (hpl:(backTo pos (starEach es X.env)).any (·.1)=false:=by rfl):PE X (.Call (.Name x p) (e::es) [] pos) (tCB r t):=by
 intro pins s σ H Q I h
 refine wpAny_Call_Name_kw (Z7P I hg hm hv ?_ hn hdb)
 exact PyProof.Rows.callWith_type1 (thn (ha pos pins s σ H _ I h) fun us s1 ⟨vs,H1,I1,r1,q1⟩=>hc pins s1 σ H1 vs us Q I1 r1 q1) he hpl
end
end L2
namespace HT
open PySem PyProof.Rows
section
open PySem.SeqAt
open PySem.AutoSeq1 (wpAny_loadPart')
open PySem.MeetsSeq PySem.MeetsSeq2 PySem.MeetsSeq3
end
section
variable {prog:Program} {w:World} {A:Around} {E:Value→Shared→Prop} {s:Shared}
theorem cat_tup {t b:y8} {vs ws:List Value} {Q:Value→Shared→Prop} (ht:IsTup s.heap t vs.toArray) (hb:IsTup s.heap b ws.toArray) (hv:vs≠[])
  (h1:ws=[]→Q (.ref t) s) (h2:ws≠[]→Q (.ref s.heap.objs.size) { s with heap:=s.heap.push { cls:=.type "tuple",data:=.seq (vs++ws).toArray } })
  (hsz:vs.length+ws.length≤sizeLine):wpAny (model prog w) A (binaryOp .Add (.ref t) (.ref b)) Q E s:=by
 obtain ⟨⟨cls,dd,data,sl⟩,ho,hc,n,hd⟩:=id ht
 obtain ⟨⟨cls2,dd2,data2,sl2⟩,ho2,hc2,n2,hd2⟩:=id hb
 simp only at hc hd hc2 hd2
 subst hc hd hc2 hd2
 have e:vs.toArray++ws.toArray=(vs++ws).toArray:=by simp
 by_cases hw:ws=[]
 ·exact concat_meets ⟨_,ho,rfl⟩ ⟨_,ho2,rfl⟩ noFill_tuple_add seq_tuple_add ql2 ql3 (ql4 _ _)
   (tuple_addW1 t b vs.toArray ws.toArray n n2 dd dd2 sl sl2 (by simpa using hv) (by simp [hw])) ⟨ho,ho2,h1 hw⟩
 ·refine concat_meets ⟨_,ho,rfl⟩ ⟨_,ho2,rfl⟩ noFill_tuple_add seq_tuple_add ql2 ql3 (ql4 _ _)
   (tuple_addW2 t b vs.toArray ws.toArray n n2 dd dd2 sl sl2 (by simpa using hv) (by simpa using hw) (by rw [qb0,qb0]; exact hsz)) ⟨ho,ho2,?_⟩
  rw [e]
  exact h2 hw
def sIx (n d:Nat):Option Int→Nat
 | none=>d
 | some v=>if v < 0 then (v+(n:Int)).toNat else min v.toNat n
theorem sIx_none (n d:Nat):sIx n d none=d:=rfl
theorem sIx_nat (n d k:Nat):sIx n d (some (k:Int))=min k n:=by
 show (if (k:Int) < 0 then ((k:Int)+(n:Int)).toNat else min (k:Int).toNat n)=min k n
 rw [if_neg qR,qd0]
theorem J5C (n d:Nat) (hd:d≤n) (o:Option Int):sIx n d o≤n:=by
 cases o with
 | none=>exact hd
 | some v=>
  show (if v < 0 then (v+(n:Int)).toNat else min v.toNat n)≤n
  by_cases hv:v < 0
  ·rw [if_pos hv]; omega
  ·rw [if_neg hv]; exact Nat.min_le_right _ _
theorem Z9N (v:Int) (n d:Nat):(if v < 0 then max (v+(n:Int)) 0 else min v (n:Int))=((sIx n d (some v):Nat):Int):=by
 show (if v < 0 then max (v+(n:Int)) 0 else min v (n:Int))=(((if v < 0 then (v+(n:Int)).toNat else min v.toNat n):Nat):Int)
 by_cases hv:v < 0
 ·simp only [if_pos hv]; omega
 ·simp only [if_neg hv]; omega
theorem Z8A (lo hi:Option Int) (n:Nat):Builtin.Slice.sliceAdjust lo hi 1 (n:Int)=(((sIx n 0 lo:Nat):Int),((sIx n n hi:Nat):Int)):=by
 have h1:¬ ((1:Int) < 0):=by omega
 unfold Builtin.Slice.sliceAdjust
 simp only [h1,if_false]
 refine Prod.ext ?_ ?_
 ·cases lo with
  | none=>rfl
  | some v=>exact Z9N v n 0
 ·cases hi with
  | none=>rfl
  | some v=>exact Z9N v n n
theorem Z8B (i j:Nat):Builtin.Slice.slicePlaces (i:Int) (j:Int) 1=j - i:=by
 unfold Builtin.Slice.slicePlaces
 have h1:(1:Int) > 0:=by omega
 simp only [h1,if_true,Int.ediv_one]
 split <;> omega
theorem Z4U {v:Value} {o:Option Int} {Q:Option Int→Shared→Prop} (p:IsPart v o) (h:Q o s):wpAny (model prog w) A (Builtin.Slice.slicePartIndex v) Q E s:=by
 cases p with
 | none=>exact slicePart_none h
 | int i t=>exact slicePart_int h
theorem Z2O {sl:y8} {vl vu:Value} {lo hi:Option Int} {n:Nat} {Q:Int×Int×Nat→Shared→Prop} (hs:s.heap.IsSliceOf sl vl vu .none) (pl:IsPart vl lo) (pu:IsPart vu hi)
  (h:Q (((sIx n 0 lo:Nat):Int),1,sIx n n hi - sIx n 0 lo) s):wpAny (model prog w) A (Builtin.Slice.sliceApplied (.ref sl) (pure (n:Int))) Q E s:=by
 obtain ⟨os,hos,hcs,hds⟩:=id hs
 unfold Builtin.Slice.sliceApplied Builtin.Slice.sliceFields
 refine wpAny_bind (wpAny_bind (wpAny_field hos hds (x:=vl) rfl (wpAny_bind (wpAny_field hos hds (x:=vu) rfl (wpAny_bind (wpAny_field hos hds (x:=.none) rfl (wpAny_pure ?_)))))))
 refine wpAny_bind (slicePart_none ?_)
 show wpAny _ _ (if ((1:Int) == 0)=true then _ else _) _ _ s
 rw [if_neg qQ]
 refine wpAny_bind (Z4U pl (wpAny_bind (Z4U pu (wpAny_bind (wpAny_pure ?_)))))
 show wpAny _ _ (match Builtin.Slice.sliceAdjust lo hi 1 (n:Int) with | (lo,hi)=>pure (lo,(1:Int),Builtin.Slice.slicePlaces lo hi 1)) _ _ s
 rw [Z8A lo hi n]
 show wpAny _ _ (pure (((sIx n 0 lo:Nat):Int),(1:Int),Builtin.Slice.slicePlaces ((sIx n 0 lo:Nat):Int) ((sIx n n hi:Nat):Int) 1)) _ _ s
 rw [Z8B]
 exact wpAny_pure h
theorem J0Z (xs:Array Value) (i k:Nat):((qc6 k).filterMap fun (m:Nat)=>xs[((i:Int)+(m:Int) * 1).toNat]?).toArray=((xs.toList.drop i).take k).toArray:=by
 have e:(fun (m:Nat)=>xs[((i:Int)+(m:Int) * 1).toNat]?)=fun m=>xs[i+m]?:=by
  funext m
  have:((i:Int)+(m:Int) * 1).toNat=i+m:=by omega
  rw [this]
 rw [e]
 have:=pick_run xs i k
 rw [List.filterMap_map] at this
 have e2:((fun x=>xs[x]?) ∘ fun x=>i+x)=fun m=>xs[i+m]?:=rfl
 rw [e2] at this
 rw [this]
theorem getItem_tuple_cut {t sl:y8} {items:Array Value} {vl vu:Value} {lo hi:Option Int} {Q:Value→Shared→Prop} (ht:IsTup s.heap t items) (hs:s.heap.IsSliceOf sl vl vu .none) (pl:IsPart vl lo) (pu:IsPart vu hi)
  (hw:¬ (sIx items.size 0 lo=0∧sIx items.size items.size hi=items.size))
  (h:Q (.ref s.heap.objs.size) { s with heap:=s.heap.push { cls:=.type "tuple",data:=.seq ((items.toList.drop (sIx items.size 0 lo)).take (sIx items.size items.size hi - sIx items.size 0 lo)).toArray } })
  (hsz:items.size≤sizeLine):wpAny (model prog w) A (getItem (.ref t) (.ref sl)) Q E s:=by
 have htake:sizeOk (.seq ((items.toList.drop (sIx items.size 0 lo)).take (sIx items.size items.size hi - sIx items.size 0 lo)).toArray):=by
  show ((items.toList.drop (sIx items.size 0 lo)).take (sIx items.size items.size hi - sIx items.size 0 lo)).toArray.size≤sizeLine
  rw [qb0,qc4,qe5,qk9]
  omega
 have hj:sIx items.size items.size hi≤items.size:=J5C _ _ (qa0 _) hi
 obtain ⟨os,hos,hcs,hds⟩:=id hs
 have hTs:s.TypeIs (.ref sl) "slice":=⟨os,hos,hcs⟩
 unfold getItem
 try with_reducible refine wpAny_holding ?_
 first | refine wpAny_bind (wpAny_pure ?_) | skip
 refine wpAny_bind (wpAny_sequenceKey ht.typeIs qQ ?_)
 refine wpAny_bind (wpAny_callSpecial?_slot (name:=Str.ofString "__getitem__") ht.typeIs PyProof.Rows.slot_tuple_getitem
  (wpAny_call_entry PyProof.Rows.slot_tuple_getitem ht.typeIs entry_tuple_getitem ?_ (args_tuple_getitem _ _)))
 show wpAny _ _ (Builtin.Tuple.tupleItemsOf (.ref t) >>= _) _ _ s
 refine wpAny_bind (tupleItemsOf_ ht ?_)
 refine wpAny_bind (wpAny_typeOf hTs ?_)
 rw [if_pos qQ]
 refine wpAny_bind (Z2O hs pl pu ?_)
 have hno:¬ ((((sIx items.size 0 lo:Nat):Int) == 0&&(1:Int) == 1&&(sIx items.size items.size hi - sIx items.size 0 lo) == items.size)=true):=by
  intro q
  rw [qf1,qf1] at q
  have q1:((sIx items.size 0 lo:Nat):Int)=0:=eq_of_beq q.1.1
  have q2:sIx items.size items.size hi - sIx items.size 0 lo=items.size:=eq_of_beq q.2
  exact hw ⟨qR,qR⟩
 show wpAny _ _ (if (((sIx items.size 0 lo:Nat):Int) == 0&&(1:Int) == 1&&(sIx items.size items.size hi - sIx items.size 0 lo) == items.size)=true then _ else _) _ _ s
 rw [if_neg hno,J0Z]
 first
  | exact wpAny_bind (m:=Builtin.Tuple.tupleExact _) (wpAny_newObj_type (wpAny_pure ⟨_,rfl,wpAny_pure h⟩) htake)
  | exact wpAny_bind (m:=Builtin.Tuple.tupleExact _) (wpAny_newObj_type (wpAny_bind (wpAny_pure (wpAny_pure ⟨_,rfl,wpAny_pure h⟩))) htake)
  | exact wpAny_bind (wpAny_bind (m:=Builtin.Tuple.tupleExact _) (wpAny_newObj_type (wpAny_pure (wpAny_pure ⟨_,rfl,wpAny_pure h⟩)) htake))
  | exact wpAny_bind (wpAny_bind (m:=Builtin.Tuple.tupleExact _) (wpAny_newObj_type (wpAny_pure ⟨_,rfl,wpAny_pure h⟩) htake))
end
end HT
namespace L2
open PySem PySem.Spec PyProof.Rows
abbrev TO:=St→Hp→(Option Int→Hp→Prop)→Prop
def PO (X:Cx) (e:Option Expr) (t:TO):Prop:=
 ∀ (pins:List (y8×Obj)) (s:Shared) (σ:St) (H:Hp) (Q:Option Int→Hp→Prop),Inv X pins σ H s→t σ H Q →
  wpAny (model X.prog X.w) X.A (evalPart e X.env) (fun u s'=>∃ o H',Inv X pins σ H' s'∧IsPart u o∧Q o H') X.xe s
def Z9r:TO:=fun _ H Q=>Q none H
def J5H (t:TE):TO:=fun σ H Q=>t σ H fun x H1=>∃ i,x=.int i∧Q (some i) H1
section
variable {X:Cx} {e:Expr} {te:TE} {lo hi:Option Expr} {tl th:TO} {pos p2:Pos}
theorem Z0E:PO X none Z9r:=by
 intro pins s σ H Q I h
 rw [evalPart_none]
 exact wpAny_pure ⟨none,H,I,.none,h⟩
theorem Z0D (h:PE X e te):PO X (some e) (J5H te):=by
 intro pins s σ H Q I hw
 rw [evalPart_some]
 refine thn (h pins s σ H _ I hw) fun u s1 ⟨x,H1,I1,r1,q1⟩=>?_
 obtain ⟨i,rfl,q⟩:=q1
 obtain ⟨t,rfl⟩:=r1
 exact ⟨some i,H1,I1,.int i t,q⟩
def SlR (X:Cx) (r:V→Option Int→Option Int→Hp→VK→Prop):Prop:=
 ∀ (pins:List (y8×Obj)) (s:Shared) (σ:St) (H:Hp) (x:V) (v vl vu:Value) (lo hi:Option Int) (sl:y8) (Q:VK),Inv X pins σ H s→RelV x v→s.heap.IsSliceOf sl vl vu .none→IsPart vl lo→IsPart vu hi→r x lo hi H Q →
  ∃ T id,typeLookup (.type T) "__getitem__"=pure (some (.builtin id))∧s.TypeIs v T∧wpAny (model X.prog X.w) X.A (getItem v (.ref sl)) (EP X pins σ Q) X.xe s
def tSl (r:V→Option Int→Option Int→Hp→VK→Prop) (te:TE) (tl th:TO):TE:=fun σ H Q=>te σ H fun x H1=>tl σ H1 fun l H2=>th σ H2 fun u H3=>r x l u H3 Q
theorem Z0y {r:V→Option Int→Option Int→Hp→VK→Prop} (hr:SlR X r) (he:PE X e te) (hl:PO X lo tl) (hu:PO X hi th):PE X (.Subscript e (.Slice lo hi none p2) pos) (tSl r te tl th):=by
 intro pins s σ H Q I h
 refine Subscript_ (thn (he pins s σ H _ I h) fun v s1 ⟨x,H1,I1,r1,q1⟩=>?_)
 refine wpAny_Slice (thn (hl pins s1 σ H1 _ I1 q1) fun vl s2 ⟨l,H2,I2,pl,q2⟩=>thn (hu pins s2 σ H2 _ I2 q2) fun vu s3 ⟨u,H3,I3,pu,q3⟩=>?_)
 rw [evalPart_none]
 refine wpAny_pure ?_
 have I4:Inv X pins σ H3 { s3 with heap:=s3.heap.push { cls:=.type "slice",data:=.fields #[vl,vu,.none] } }:=I3.kept (t':=s3.toks) fun b ob q=>Heap.get?_push_of_some _ q
 obtain ⟨T,id,hT,ht,hg⟩:=hr pins { s3 with heap:=s3.heap.push { cls:=.type "slice",data:=.fields #[vl,vu,.none] } } σ H3 x v vl vu l u s3.heap.objs.size Q I4 r1 (Heap.IsSliceOf.new ..) pl pu q3
 show wpAny (model X.prog X.w) X.A (subscriptTail e (.Slice lo hi none p2) v (.ref s3.heap.objs.size)) (EP X pins σ Q) X.xe { s3 with heap:=s3.heap.push { cls:=.type "slice",data:=.fields #[vl,vu,.none] } }
 exact tail_any (ops:=[.ref s3.heap.objs.size,v]) ht hT hg (by with_unfolding_all rfl)
def cutV (xs:List V) (lo hi:Option Int):List V:=(xs.drop (HT.sIx xs.length 0 lo)).take (HT.sIx xs.length xs.length hi - HT.sIx xs.length 0 lo)
theorem Z4A (xs:List V) (lo hi:Option Int):(cutV xs lo hi).length≤xs.length:=by
 unfold cutV
 rw [qc4,qe5]
 omega
def rSlT (K:y9):V→Option Int→Option Int→Hp→VK→Prop:=fun x lo hi H Q=>∃ a xs,x=.ref a∧SqT K H a xs ∧
 ¬ (HT.sIx xs.length 0 lo=0∧HT.sIx xs.length xs.length hi=xs.length)∧∀ p,H p=none→Q (.ref p) (upd H p (.tup (cutV xs lo hi)))
theorem J4B:SlR X (rSlT X.K):=by
 intro pins s σ H x v vl vu lo hi sl Q I rx hs pl pu h
 obtain ⟨a,xs,rfl,hx,hw,q⟩:=h
 cases rx
 obtain ⟨its,r,ht,hz⟩:=I.tuple hx
 have hlen:its.toArray.size=xs.length:=by rw [qb0]; exact r.length.symm
 refine ⟨"tuple",_,PyProof.Rows.slot_tuple_getitem.lookup,ht.typeIs,?_⟩
 refine HT.getItem_tuple_cut ht hs pl pu (by rw [hlen]; exact hw) ?_ (by rw [hlen]; exact hz)
 rw [hlen]
 refine ⟨.ref s.heap.objs.size,_,I.laid (t':=s.toks) (o:=.tup (cutV xs lo hi)) (fun b ob q=>Heap.get?_push_of_some _ q) (qa0 _) ?_,rfl,q _ (I.hok.fresh (qa0 _))⟩
 exact ⟨⟨qa7 (Z4A xs lo hi) hz,Z5j⟩,_,(r.drop (HT.sIx xs.length 0 lo)).take (HT.sIx xs.length xs.length hi - HT.sIx xs.length 0 lo),IsTup.new _ _⟩
def J5f (K:y9):R2:=fun x y H Q=>∃ a b xs ys,x=.ref a∧y=.ref b∧SqT K H a xs∧SqT K H b ys∧xs≠[]∧xs.length+ys.length≤sizeLine ∧
 (ys=[]→Q (.ref a) H)∧(ys≠[]→∀ p,H p=none→Q (.ref p) (upd H p (.tup (xs++ys))))
theorem Vals.nil_iff {xs:List V} {us:List Value} (r:Vals xs us):us=[]↔xs=[]:=by
 cases r with
 | nil=>simp
 | cons _ _=>simp
theorem J3b:OpR X (binaryOp .Add) (J5f X.K):=by
 intro pins s σ H x y v u Q I rx ry h
 obtain ⟨a,b,xs,ys,rfl,rfl,ha,hb,hx,hz,q1,q2⟩:=h
 cases rx
 cases ry
 obtain ⟨its,r1,p1,_⟩:=I.tuple ha
 obtain ⟨its2,r2,p2,_⟩:=I.tuple hb
 refine HT.cat_tup p1 p2 (fun z=>hx (r1.nil_iff.mp z)) (fun z=>⟨.ref a,H,I,rfl,q1 (r2.nil_iff.mp z)⟩) (fun z=>?_) (by rw [← r1.length,← r2.length]; exact hz)
 refine ⟨.ref s.heap.objs.size,_,I.laid (t':=s.toks) (o:=.tup (xs++ys)) (fun b ob q=>Heap.get?_push_of_some _ q) (qa0 _) ?_,rfl,q2 (fun w=>z (r2.nil_iff.mpr w)) _ (I.hok.fresh (qa0 _))⟩
 exact ⟨⟨by rw [qa1]; exact hz,Z5j⟩,_,r1.append r2,IsTup.new _ _⟩
end
def ixN (n:Nat) (i:Int):Option Nat:=if 0≤i then (if i < n then some i.toNat else none) else if -(n:Int)≤i then some (i+n).toNat else none
def atI {α:Type} (xs:List α) (i:Int):Option α:=(ixN xs.length i).bind fun j=>xs[j]?
theorem Z8R {n:Nat} {i:Int} {j:Nat} (h:ixN n i=some j):seqIndex? i n=some j∧j < n∧-(n:Int)≤i∧i < n:=by
 unfold ixN at h
 by_cases h0:0≤i
 ·rw [if_pos h0] at h
  by_cases h1:i < n
  ·rw [if_pos h1] at h
   have e:i.toNat=j:=qb7 h
   exact ⟨by rw [seqIndex_of h0 h1,e],qR,qR,h1⟩
  ·rw [if_neg h1] at h; cases h
 ·rw [if_neg h0] at h
  by_cases h1:-(n:Int)≤i
  ·rw [if_pos h1] at h
   have e:(i+n).toNat=j:=qb7 h
   exact ⟨by rw [seqIndex_neg qR h1,e],qR,h1,qR⟩
  ·rw [if_neg h1] at h; cases h
theorem Z6X {α:Type} {xs:List α} {i:Int} {v:α} (h:atI xs i=some v):∃ j,seqIndex? i xs.length=some j∧xs[j]?=some v∧j < xs.length∧-(xs.length:Int)≤i∧i < xs.length:=by
 unfold atI at h
 cases e:ixN xs.length i with
 | none=>rw [e] at h; cases h
 | some j=>
  rw [e] at h
  obtain ⟨h1,h2,h3,h4⟩:=Z8R e
  exact ⟨j,h1,h,h2,h3,h4⟩
theorem Z0C {α:Type} {xs:List α} {j:Nat} {v:α} (h:xs[j]?=some v):atI xs (j:Int)=some v:=by
 have hj:j < xs.length:=(qa9.mp h).1
 have e:ixN xs.length (j:Int)=some j:=by
  unfold ixN
  rw [if_pos qR,if_pos qR]; simp
 unfold atI; rw [e]; exact h
theorem Z0F {α:Type} (xs:List α) (v:α):atI (xs++[v]) (-1)=some v:=by
 have hl:(xs++[v]).length=xs.length+1:=by simp
 have e:ixN (xs++[v]).length (-1)=some xs.length:=by
  unfold ixN
  rw [hl,if_neg qQ,if_pos qR]
  congr 1
  omega
 unfold atI
 rw [e]
 show (xs++[v])[xs.length]?=some v
 simp
def Z7c (b:Expr):Prop:=∀ o i,subscripted b false o i=operate [o,i] (getItem o i)
def IxR (X:Cx) (r:R2):Prop:=
 ∀ (value slice:Expr) (pins:List (y8×Obj)) (s:Shared) (σ:St) (H:Hp) (x y:V) (v u:Value) (Q:VK),Inv X pins σ H s→RelV x v→RelV y u→r x y H Q →
  subscripted slice false v u=operate [v,u] (getItem v u)→wpAny (model X.prog X.w) X.A (subscriptTail value slice v u) (EP X pins σ Q) X.xe s
def MtR (X:Cx) (id:String) (r:V→List V→Hp→VK→Prop):Prop:=
 ∀ (pins:List (y8×Obj)) (s:Shared) (σ:St) (H:Hp) (x:V) (xs:List V) (v:Value) (us:List Value) (Q:VK),Inv X pins σ H s→RelV x v→Vals xs us→r x xs H Q →
  wpAny (model X.prog X.w) X.A (call (.builtin id) (v::us)) (EP X pins σ Q) X.xe s
section
variable {X:Cx} {a b:Expr} {ta tb:TE} {pos:Pos}
theorem IxR.or {r r':R2} (h:IxR X r) (h':IxR X r'):IxR X (fun x y H Q=>r x y H Q∨r' x y H Q):=by
 intro value slice pins s σ H x y v u Q I rx ry q hs
 rcases q with q | q
 ·exact h value slice pins s σ H x y v u Q I rx ry q hs
 ·exact h' value slice pins s σ H x y v u Q I rx ry q hs
theorem Z4c {r:R2} (hr:IxR X r) (ha:PE X a ta) (hb:PE X b tb) (hs:Z7c b):PE X (.Subscript a b pos) (tOp r ta tb):=by
 intro pins s σ H Q I h
 exact Subscript_ (binT ha hb I h fun v u s2 x y H2 I2 rx ry q=>hr a b pins s2 σ H2 x y v u Q I2 rx ry q (hs _ _))
def rIxL (K:y9):R2:=fun x y H Q=>∃ p xs i v,x=.ref p∧y=.int i∧SqL K H p xs∧atI xs i=some v∧Q v H
def rIxT (K:y9):R2:=fun x y H Q=>∃ p xs i v,x=.ref p∧y=.int i∧SqT K H p xs∧atI xs i=some v∧Q v H
def rIxS:R2:=fun x y H Q=>∃ z i c,x=.str z∧y=.int i∧z.length≤sizeLine∧atI z.cps.toList i=some c∧Q (.str ⟨#[c]⟩) H
theorem ix_list:IxR X (rIxL X.K):=by
 intro value slice pins s σ H x y v u Q I rx ry h hs
 obtain ⟨p,xs,i,z,rfl,rfl,hq,he,q⟩:=h
 cases rx
 obtain ⟨t,rfl⟩:=ry
 obtain ⟨its,r,pl,hz⟩:=I.list hq
 obtain ⟨j,h1,h2,h3,h4,h5⟩:=Z6X he
 obtain ⟨w,ew,rw'⟩:=r.get h2
 have hl:=r.length
 have hn:=Z5L
 have fin:EP X pins σ Q w s:=⟨z,H,I,rw',q⟩
 by_cases h0:0≤i
 ·have hj:i.toNat=j:=by
   rw [seqIndex_of h0 h5] at h1
   exact qb7 h1
  exact item_listR pl.isList h0 qR (by rw [hj]; simpa using ew) fin hs
 ·have hj:(i+(its.toArray.size:Int)).toNat=j:=by
   rw [seqIndex_neg qR h4] at h1
   rw [qb0,← hl]
   exact qb7 h1
  exact subscriptTail_builtinR (x:=w) pl.isList.typeIs slot_list_getitem.lookup
   (wpAny_getItem_list_neg (Q:=fun r s'=>r=w∧EP X pins σ Q r s') pl.isList qR (by rw [qb0] <;> omega) qR (by rw [hj]; simpa using ew) ⟨rfl,fin⟩) hs
theorem ix_tup:IxR X (rIxT X.K):=by
 intro value slice pins s σ H x y v u Q I rx ry h hs
 obtain ⟨p,xs,i,z,rfl,rfl,hq,he,q⟩:=h
 cases rx
 obtain ⟨t,rfl⟩:=ry
 obtain ⟨its,r,pl,hz⟩:=I.tuple hq
 obtain ⟨j,h1,h2,h3,h4,h5⟩:=Z6X he
 obtain ⟨w,ew,rw'⟩:=r.get h2
 have hl:=r.length
 have hn:=Z5L
 have fin:EP X pins σ Q w s:=⟨z,H,I,rw',q⟩
 exact subscriptTail_builtinR (x:=w) pl.typeIs slot_tuple_getitem.lookup
  (getItem_tuple (j:=j) (Q:=fun r s'=>r=w∧EP X pins σ Q r s') pl qR qR (by rw [qb0,← hl]; exact h1) (by simpa using ew) ⟨rfl,fin⟩) hs
theorem Z3J:IxR X rIxS:=by
 intro value slice pins s σ H x y v u Q I rx ry h hs
 obtain ⟨z,i,c,rfl,rfl,hz,he,q⟩:=h
 obtain ⟨t,rfl⟩:=rx
 obtain ⟨t',rfl⟩:=ry
 obtain ⟨j,h1,h2,h3,h4,h5⟩:=Z6X he
 have hl:z.cps.toList.length=z.length:=by simp [Str.length]
 rw [hl] at h1 h4 h5
 have hn:=Z5L
 exact tail_any (typeIs_str s z t) slot_str_getitem.lookup (getItem_str (c:=c) (by
  have e1:decide (i < -(2 ^ 63:Int))=false:=decide_eq_false qR
  have e2:decide (i ≥ 2 ^ 63)=false:=decide_eq_false qR
  rw [e1,e2,Bool.or_false]) (by rw [h1]; simpa using h2) ⟨.str ⟨#[c]⟩,H,I.tok _,⟨_,rfl⟩,q⟩) hs
def rIx (K:y9):R2:=fun x y H Q=>rIxL K x y H Q∨rIxT K x y H Q∨rIxS x y H Q
theorem J5n:IxR X (rIx X.K):=ix_list.or (ix_tup.or Z3J)
theorem Z8w (its:List Value) (n j:Nat) (u:Value):Obj.mapSeq (·.setIfInBounds j u) { cls:=.type "list",data:=.seq its.toArray n }={ cls:=.type "list",data:=.seq (its.set j u).toArray n }:=by
 simp [Obj.mapSeq]
theorem Inv.lst {pins:List (y8×Obj)} {σ:St} {H:Hp} {s:Shared} {p:y8} {xs:List V} (I:Inv X pins σ H s) (h:H p=some (.lst xs)) :
  ∃ (its:List Value) (n:Nat),Vals xs its∧s.heap.get? p=some { cls:=.type "list",data:=.seq its.toArray n }∧xs.length≤sizeLine:=by
 obtain ⟨z,its,n,r,e⟩:=I.hok p _ h
 exact ⟨its,n,r,e,z⟩
theorem Inv.lstUpd {pins:List (y8×Obj)} {σ:St} {H:Hp} {s:Shared} {p:y8} {xs ys:List V} {its its':List Value} {n n':Nat} {f:Obj→Obj} (I:Inv X pins σ H s) (h:H p=some (.lst xs))
  (ho:s.heap.get? p=some { cls:=.type "list",data:=.seq its.toArray n }) (hf:f { cls:=.type "list",data:=.seq its.toArray n }={ cls:=.type "list",data:=.seq its'.toArray n' }) (r:Vals ys its') (hz:ys.length≤sizeLine) (t:Nat) :
  Inv X pins σ (upd H p (.lst ys)) { s with heap:=s.heap.update p f,toks:=t }:=by
 have e:(s.heap.update p f).get? p=some { cls:=.type "list",data:=.seq its'.toArray n' }:=by
  rw [Heap.get?_update_self f ho (by rw [hf] <;> rfl),hf]
 refine I.write (x:=p) (e:=p) (by rw [h]; trivial) (.inl rfl) (fun b u hb q=>(Heap.get?_update_other _ _ (Ne.symm hb)).trans q) ⟨_,e⟩ ?_
 exact ⟨hz,its',n',r,e⟩
def J4X:V→V→V→Hp→(Hp→Prop)→Prop:=fun o i v H Q=>∃ p xs k j,o=.ref p∧i=.int k∧H p=some (.lst xs)∧ixN xs.length k=some j∧Q (upd H p (.lst (xs.set j v)))
theorem J1K:PSet X J4X:=by
 intro pins s σ H o i v ov iv u Q I ro ri rv h
 obtain ⟨p,xs,k,j,rfl,rfl,hp,hj,q⟩:=h
 cases ro
 obtain ⟨t,rfl⟩:=ri
 obtain ⟨its,n,r,ho,hz⟩:=I.lst hp
 obtain ⟨h1,h2,h3,h4⟩:=Z8R hj
 have hl:=r.length
 have hn:=Z5L
 have I':Inv X pins σ (upd H p (.lst (xs.set j v))) { s with heap:=s.heap.update p (Obj.mapSeq (·.setIfInBounds j u)) }:=
  I.lstUpd hp ho (Z8w its n j u) (r.set rv j) (by rw [qf2]; exact hz) s.toks
 by_cases h0:0≤k
 ·have hk:k.toNat=j:=by
   rw [seqIndex_of h0 h4] at h1
   exact qb7 h1
  exact W.ki_setAt ho h0 qR (by rw [qb0,← hl]; exact h4) (by rw [hk]; exact ⟨_,I',q⟩)
 ·have hk:(k+(its.toArray.size:Int)).toNat=j:=by
   rw [seqIndex_neg qR h3] at h1
   rw [qb0,← hl]
   exact qb7 h1
  exact W.ki_setBack ho qR (by rw [qb0,← hl]; exact h3) qR (by rw [hk]; exact ⟨_,I',q⟩)
theorem Z6z (lo hi:Option Int) (n:Nat):(sliceBounds lo hi none n).1=((HT.sIx n 0 lo:Nat):Int)∧(sliceBounds lo hi none n).2.1=((HT.sIx n n hi:Nat):Int)∧(sliceBounds lo hi none n).2.2=1:=by
 refine ⟨?_,?_,rfl⟩
 ·cases lo with
  | none=>simp [sliceBounds,HT.sIx]
  | some i=>
   simp only [sliceBounds,HT.sIx,Option.getD_none,show (1:Int) > 0 by decide,if_true]
   by_cases h:i < 0
   ·simp only [h,if_true] <;> omega
   ·simp only [h,if_false] <;> omega
 ·cases hi with
  | none=>simp [sliceBounds,HT.sIx]
  | some i=>
   simp only [sliceBounds,HT.sIx,Option.getD_none,show (1:Int) > 0 by decide,if_true]
   by_cases h:i < 0
   ·simp only [h,if_true] <;> omega
   ·simp only [h,if_false] <;> omega
theorem Z5y (its:List Value) (lo hi:Option Int):slicePick its.toArray lo hi none=((its.drop (HT.sIx its.length 0 lo)).take (HT.sIx its.length its.length hi - HT.sIx its.length 0 lo)).toArray:=by
 obtain ⟨h1,h2,h3⟩:=Z6z lo hi its.toArray.size
 unfold slicePick
 rw [h1,h2,h3]
 simp only [sliceRange_one,pick_run,qb0] <;> rfl
def rSlL (K:y9):V→Option Int→Option Int→Hp→VK→Prop:=fun x lo hi H Q=>∃ a xs,x=.ref a∧SqL K H a xs∧∀ p,H p=none→Q (.ref p) (upd H p (.lst (cutV xs lo hi)))
theorem Z4y:SlR X (rSlL X.K):=by
 intro pins s σ H x v vl vu lo hi sl Q I rx hs pl pu h
 obtain ⟨a,xs,rfl,hx,q⟩:=h
 cases rx
 obtain ⟨its,r,ht,hz⟩:=I.list hx
 have hlen:=r.length
 refine ⟨"list",_,slot_list_getitem.lookup,ht.isList.typeIs,?_⟩
 refine wpAny_getItem_list_slice ht.isList hs pl pu .none (by simp) ?_ (by rw [qb0] <;> omega)
 rw [Z5y,← hlen]
 refine ⟨.ref s.heap.objs.size,_,I.laid (t':=s.toks) (o:=.lst (cutV xs lo hi)) (fun b ob q=>Heap.get?_push_of_some _ q) (qa0 _) ?_,rfl,q _ (I.hok.fresh (qa0 _))⟩
 exact ⟨qa7 (Z4A xs lo hi) hz,_,0,(r.drop (HT.sIx xs.length 0 lo)).take (HT.sIx xs.length xs.length hi - HT.sIx xs.length 0 lo),Heap.get?_push_size _ rfl⟩
def Z3H:V→Bool
 | .non=>true
 | .bl _=>true
 | .int _=>true
 | .str _=>true
 | _=>false
def eqV:V→V→Bool
 | .non,.non=>true
 | .bl a,.bl b=>a == b
 | .bl a,.int b=>(if a then 1 else 0) == b
 | .int a,.bl b=>a == (if b then 1 else 0)
 | .int a,.int b=>a == b
 | .str a,.str b=>a == b
 | _,_=>false
theorem J4S {A:Around} {s:Shared} {y x:V} {u v:Value} (ry:RelV y u) (rx:RelV x v) (fy:Z3H y=true) (fx:Z3H x=true):SeqAt.EqAt A s u v (eqV y x):=by
 cases y with
 | non=>
  cases ry
  cases x with
  | non=>cases rx; exact SeqAt.EqAt.same _
  | bl b=>cases rx; exact SeqAt.EqAt.none_bool b
  | int b=>obtain ⟨t,rfl⟩:=rx; exact SeqAt.EqAt.none_int b t
  | str b=>obtain ⟨t,rfl⟩:=rx; exact SeqAt.EqAt.none_str b t
  | _=>exact absurd (show false=true from fx) qc5
 | bl a=>
  cases ry
  cases x with
  | non=>cases rx; exact SeqAt.EqAt.bool_none a
  | bl b=>cases rx; exact SeqAt.EqAt.bool_bool a b
  | int b=>obtain ⟨t,rfl⟩:=rx; exact SeqAt.EqAt.bool_int a b t
  | str b=>obtain ⟨t,rfl⟩:=rx; exact SeqAt.EqAt.bool_str a b t
  | _=>exact absurd (show false=true from fx) qc5
 | int a=>
  obtain ⟨t',rfl⟩:=ry
  cases x with
  | non=>cases rx; exact SeqAt.EqAt.int_none a t'
  | bl b=>cases rx; exact SeqAt.EqAt.int_bool a t' b
  | int b=>obtain ⟨t,rfl⟩:=rx; exact SeqAt.EqAt.int_int a t' b t
  | str b=>obtain ⟨t,rfl⟩:=rx; exact SeqAt.EqAt.int_str a t' b t
  | _=>exact absurd (show false=true from fx) qc5
 | str a=>
  obtain ⟨t',rfl⟩:=ry
  cases x with
  | non=>cases rx; exact SeqAt.EqAt.str_none a t'
  | bl b=>cases rx; exact SeqAt.EqAt.str_bool a t' b
  | int b=>obtain ⟨t,rfl⟩:=rx; exact SeqAt.EqAt.str_int a t' b t
  | str b=>obtain ⟨t,rfl⟩:=rx; exact SeqAt.EqAt.str_str a t' b t
  | _=>exact absurd (show false=true from fx) qc5
 | _=>exact absurd (show false=true from fy) qc5
def eqU (x:V) (u:Value):Bool:=match u with
 | .none=>eqV .non x
 | .bool b=>eqV (.bl b) x
 | .int i _=>eqV (.int i) x
 | .str z _=>eqV (.str z) x
 | _=>false
theorem J2w {x y:V} {u:Value} (r:RelV y u) (f:Z3H y=true):eqU x u=eqV y x:=by
 cases y with
 | non=>cases r; rfl
 | bl b=>cases r; rfl
 | int i=>obtain ⟨t,rfl⟩:=r; rfl
 | str z=>obtain ⟨t,rfl⟩:=r; rfl
 | _=>exact absurd (show false=true from f) qc5
theorem Z6V {x:V}:∀ {xs:List V} {us:List Value},Vals xs us→xs.all Z3H=true→us.any (eqU x)=xs.any fun y=>eqV y x
 | _,_,.nil,_=>rfl
 | y::xs,u::us,.cons r t,f=>by
  rw [List.all_cons,qf1] at f
  rw [qi5,qi5,J2w r f.1,Z6V t f.2]
theorem Z5k {A:Around} {s:Shared} {x:V} {v:Value} (rx:RelV x v) (fx:Z3H x=true):∀ {xs:List V} {us:List Value},Vals xs us→xs.all Z3H=true→∀ u∈us,SeqAt.EqAt A s u v (eqU x u)
 | _,_,.nil,_=>fun u hu=>by cases hu
 | y::xs,u::us,.cons r t,f=>fun u' hu=>by
  rw [List.all_cons,qf1] at f
  rcases qa8.mp hu with rfl | hu
  ·rw [J2w r f.1]; exact J4S r rx f.1 fx
  ·exact Z5k rx fx t f.2 u' hu
def inV (x:V) (xs:List V):Bool:=xs.any fun y=>eqV y x
def rIn (K:y9) (neg:Bool):R2:=fun x y H Q=>∃ p xs,y=.ref p∧(SqL K H p xs∨SqT K H p xs)∧Z3H x=true∧xs.all Z3H=true∧Q (.bl (if neg then !inV x xs else inV x xs)) H
theorem Z4s:OpR X (compareOp .In) (rIn X.K false):=by
 intro pins s σ H x y v u Q I rx ry h
 obtain ⟨p,xs,rfl,hq,fx,fs,q⟩:=h
 cases ry
 rcases hq with hq | hq
 ·obtain ⟨its,r,pl,hz⟩:=I.list hq
  refine SeqAt.in_listAt (eqU x) pl.isList (fun w hw=>Z5k rx fx r fs w (by simpa using hw)) ⟨.bl _,H,I,rfl,?_⟩
  rw [show its.toArray.any (eqU x)=its.any (eqU x) by simp,Z6V r fs]
  exact q
 ·obtain ⟨its,r,pl,hz⟩:=I.tuple hq
  refine SeqAt.in_tupleAt (eqU x) pl (fun w hw=>Z5k rx fx r fs w (by simpa using hw)) ⟨.bl _,H,I,rfl,?_⟩
  rw [show its.toArray.any (eqU x)=its.any (eqU x) by simp,Z6V r fs]
  exact q
theorem Z6n:Z3T X (.builtin "len") (fun xs H Q=>∃ p ys,xs=[.ref p]∧(SqL X.K H p ys∨SqT X.K H p ys)∧Q (.int ys.length) H):=by
 intro pins s σ H xs us Q I r h
 obtain ⟨p,ys,rfl,hq,q⟩:=h
 obtain ⟨u,rfl,rx⟩:=Z8I r
 cases rx
 have hn:=Z5L
 rcases hq with hq | hq
 ·obtain ⟨its,r',pl,hz⟩:=I.list hq
  have hlen:=r'.length
  exact Calls.call_len_list pl.isList (by simp only [qb0] <;> omega) ⟨.int ys.length,H,I.tok _,⟨s.toks+1,by rw [qb0,hlen]⟩,q⟩
 ·obtain ⟨its,r',pl,hz⟩:=I.tuple hq
  have hlen:=r'.length
  exact len_tuple pl (by simp only [qb0] <;> omega) ⟨.int ys.length,H,I.tok _,⟨s.toks+1,by rw [qb0,hlen]⟩,q⟩
theorem Z0L:Z3T X (.type "list") (fun xs H Q=>∃ p ys,xs=[.ref p]∧(SqL X.K H p ys∨SqT X.K H p ys)∧∀ l,H l=none→Q (.ref l) (upd H l (.lst ys))):=by
 intro pins s σ H xs us Q I r h
 obtain ⟨p,ys,rfl,hq,q⟩:=h
 obtain ⟨u,rfl,rx⟩:=Z8I r
 cases rx
 have fin:∀ (its:List Value),Vals ys its→ys.length≤sizeLine→∀ (h':Heap) (c':Nat),(∀ b o',s.heap.get? b=some o'→h'.get? b=some o') →
   h'.get? s.heap.objs.size=some { cls:=.type "list",dict:=none,data:=.seq its.toArray c',slots:=#[] }→EP X pins σ Q (.ref s.heap.objs.size) { s with heap:=h' }:=fun its r' hz h' c' kp e=>
  ⟨.ref s.heap.objs.size,_,I.laid (t':=s.toks) kp (qa0 _) (show ObjOk X.prog X.w _ h' _ (.lst ys) from ⟨hz,its,c',r',e⟩),rfl,q _ (I.hok.fresh (qa0 _))⟩
 rcases hq with hq | hq
 ·obtain ⟨its,r',pl,hz⟩:=I.list hq
  have hlen:=r'.length
  obtain ⟨o,ho,hc,n,hd⟩:=pl.isList
  exact call_list_seq p (.inl rfl) ho hc hd (fun h' c' kp e=>fin its r' hz h' c' kp e) (by simp only [qb0] <;> omega)
 ·obtain ⟨its,r',pl,hz⟩:=I.tuple hq
  have hlen:=r'.length
  obtain ⟨o,ho,hc,n,hd⟩:=pl
  exact call_list_seq p (.inr rfl) ho hc hd (fun h' c' kp e=>fin its r' hz h' c' kp e) (by simp only [qb0] <;> omega)
theorem Z1k:Z3T X (.type "tuple") (fun xs H Q=>∃ p ys,xs=[.ref p]∧((SqL X.K H p ys∧∀ l,H l=none→Q (.ref l) (upd H l (.tup ys)))∨(SqT X.K H p ys∧Q (.ref p) H))):=by
 intro pins s σ H xs us Q I r h
 obtain ⟨p,ys,rfl,h⟩:=h
 obtain ⟨u,rfl,rx⟩:=Z8I r
 cases rx
 rcases h with ⟨hq,q⟩ | ⟨hq,q⟩
 ·obtain ⟨its,r',pl,hz⟩:=I.list hq
  have hlen:=r'.length
  refine call_tuple_list pl.isList (fun h' kp=>?_) (by simp only [qb0] <;> omega)
  have I1:Inv X pins σ H { s with heap:=h' }:=I.kept (t':=s.toks) kp
  have I2:Inv X pins σ (upd H h'.objs.size (.tup ys)) { s with heap:=h'.push { cls:=.type "tuple",data:=.seq its.toArray } }:=
   I1.laid (t':=s.toks) (fun b o e=>Heap.get?_push_of_some _ e) (qa0 _) (show ObjOk X.prog X.w _ _ _ (.tup ys) from ⟨⟨hz,Z5j⟩,its,r',IsTup.new _ _⟩)
  exact ⟨.ref h'.objs.size,_,I2,rfl,q _ (I1.hok.fresh (qa0 _))⟩
 ·obtain ⟨its,r',pl,hz⟩:=I.tuple hq
  exact call_tuple_same pl ⟨.ref p,H,I,rfl,q⟩
def tyV (K:y9) (T:String) (x:V) (H:Hp):Prop:=match x with
 | .str _=>T="str"
 | .int _=>T="int"
 | .ref p=>(T="list"∧∃ xs,SqL K H p xs)∨(T="tuple"∧∃ o,K.lookup p=some o∧o.cls=.type "tuple"∧o.dict=none) ∨
   (T="dict"∧((∃ kvs,H p=some (.dK kvs))∨∃ kvs,H p=some (.dT kvs)))∨(T="set"∧∃ S n,H p=some (.set S n))
 | _=>False
theorem J2r {pins:List (y8×Obj)} {σ:St} {H:Hp} {s:Shared} {T:String} {x:V} {v:Value} (I:Inv X pins σ H s) (r:RelV x v) (ty:tyV X.K T x H) :
  s.TypeIs v T∧∀ a,v=.ref a→∃ ob,s.heap.get? a=some ob∧ob.dict=none:=by
 cases x with
 | str z=>
  obtain ⟨t,rfl⟩:=r
  cases (show T="str" from ty)
  exact ⟨typeIs_str s z t,fun _ e=>nomatch e⟩
 | int i=>
  obtain ⟨t,rfl⟩:=r
  cases (show T="int" from ty)
  exact ⟨typeIs_int s i t,fun _ e=>nomatch e⟩
 | ref p=>
  cases r
  rcases ty with ⟨rfl,xs,hq⟩ | ⟨rfl,o,hk,hc,hd⟩ | ⟨rfl,hk⟩ | ⟨rfl,S,n,hk⟩
  ·obtain ⟨its,_,pl,_⟩:=I.list hq
   refine ⟨pl.isList.typeIs,fun a e=>?_⟩
   cases e
   obtain ⟨o,n,e,c,hd,_⟩:=pl
   exact ⟨o,e,hd⟩
  ·refine ⟨⟨o,I.kIn p o hk,hc⟩,fun a e=>?_⟩
   cases e
   exact ⟨o,I.kIn _ o hk,hd⟩
  ·have z:∃ o,s.heap.get? p=some o∧o.ExactDict:=by
    rcases hk with ⟨kvs,hk⟩ | ⟨kvs,hk⟩
    ·obtain ⟨_,_,_,_,o,_,_,e,ex,_⟩:=I.hok p _ hk
     exact ⟨o,e,ex⟩
    ·obtain ⟨_,_,_,_,o,_,_,e,ex,_⟩:=I.hok p _ hk
     exact ⟨o,e,ex⟩
   obtain ⟨o,e,ex⟩:=z
   refine ⟨⟨o,e,ex.1⟩,fun a e2=>?_⟩
   cases e2
   exact ⟨o,e,ex.2.1⟩
  ·obtain ⟨o,_,_,_,e,ex,_⟩:=I.hok p _ hk
   refine ⟨⟨o,e,ex.1⟩,fun a e2=>?_⟩
   cases e2
   exact ⟨o,e,ex.2.1⟩
 | _=>exact False.elim ty
def tBM0 (K:y9) (T:String) (r:V→List V→Hp→VK→Prop) (to:TE):TE:=fun σ H Q=>to σ H fun x H1=>tyV K T x H1∧r x [] H1 Q
def tBM (K:y9) (T:String) (r:V→List V→Hp→VK→Prop) (to:TE) (t:TA):TE:=fun σ H Q=>to σ H fun x H1=>tyV K T x H1∧t σ H1 fun xs H2=>r x xs H2 Q
variable {o e:Expr} {es:List Expr} {to:TE} {t:TA} {name:Str} {apos cpos:Pos} {T id:String} {r:V→List V→Hp→VK→Prop}
theorem Z5f (pa:PlainAttrs T) (slot:Slot T name id) (hty:typeOf (.builtin id)=pure (.type "method_descriptor")) (hm:MtR X id r) (ho:PE X o to)
  (hbase:attributeBase o name X.env (eval o X.env)=eval o X.env:=by rfl) (hline:(apos.endLine == cpos.line)=true:=by rfl):PE X (.Call (.Attribute o name apos) [] [] cpos) (tBM0 X.K T r to):=by
 intro pins s σ H Q I h
 refine wpAny_Call_method0_late hbase hline (thn (ho pins s σ H _ I h) fun v s1 ⟨x,H1,I1,r1,ty,q1⟩=>?_)
 obtain ⟨h1,h2⟩:=J2r I1 r1 ty
 exact ⟨T,id,pa,slot,hty,h1,h2,Calls.callWith_builtin rfl (PySem.evalArgs_none (hm pins s1 σ H1 x [] v [] Q I1 r1 .nil q1))⟩
theorem Z1c (pa:PlainAttrs T) (slot:Slot T name id) (hty:typeOf (.builtin id)=pure (.type "method_descriptor")) (hm:MtR X id r) (ho:PE X o to) (ha:PA X (e::es) t)
  (hbase:attributeBase o name X.env (eval o X.env)=eval o X.env:=by rfl)
  (hfew:((backTo cpos (starEach (e::es) X.env)).all (fun x=>!x.1)&&(backToKw cpos (keywordEach [] X.env)).all (fun x=>x.1.isSome)
   && decide ((e::es).length+([]:List Keyword).length+(if ([]:List Keyword).isEmpty then 0 else 1) < 30))=true:=by rfl)
  (hline:(apos.endLine == cpos.line)=true:=by rfl) (hs:starEach (e::es) X.env=(false,eval e X.env)::starEach es X.env:=by rfl) (hplain:(backTo cpos (starEach es X.env)).any (·.1)=false:=by rfl) :
  PE X (.Call (.Attribute o name apos) (e::es) [] cpos) (tBM X.K T r to t):=by
 intro pins s σ H Q I h
 refine wpAny_Call_method_late hbase hfew hline rfl (thn (ho pins s σ H _ I h) fun v s1 ⟨x,H1,I1,r1,ty,q1⟩=>?_)
 obtain ⟨h1,h2⟩:=J2r I1 r1 ty
 refine ⟨T,id,pa,slot,hty,h1,h2,?_⟩
 have hA:=ha cpos pins s1 σ H1 _ I1 q1
 rw [hs] at hA ⊢
 refine Calls.callWith_builtin (by show (false || (backTo cpos (starEach es X.env)).any (·.1))=false; rw [hplain] <;> rfl) (Calls.evalArgs_plain ?_)
 exact thn hA fun us s2 ⟨vs,H2,I2,r2,q2⟩=>hm pins s2 σ H2 x vs v us Q I2 r1 r2 q2
end
def MtM (X:Cx) (id:String) (r:V→List V→Hp→VK→Prop):Prop:=
 ∀ (pins:List (y8×Obj)) (s:Shared) (σ:St) (H:Hp) (x:V) (xs:List V) (v:Value) (us:List Value) (Q:VK),Inv X pins σ H s→RelV x v→Vals xs us→r x xs H Q →
  wpAny (model X.prog X.w) X.A (call (.builtin id) (v::us)) (EP X pins σ Q) X.xe s
theorem Vals.one:∀ {x:V} {us:List Value},Vals [x] us→∃ u,us=[u]∧RelV x u
 | _,_,.cons r .nil=>⟨_,rfl,r⟩
theorem Vals.two:∀ {x y:V} {us:List Value},Vals [x,y] us→∃ u v,us=[u,v]∧RelV x u∧RelV y v
 | _,_,_,.cons r (.cons q .nil)=>⟨_,_,rfl,r,q⟩
theorem Vals.zero:∀ {us:List Value},Vals [] us→us=[]
 | _,.nil=>rfl
theorem Vals.dropLast {xs:List V} {us:List Value} (h:Vals xs us):Vals xs.dropLast us.dropLast:=by
 induction h with
 | nil=>exact .nil
 | cons r t ih=>
  cases t with
  | nil=>exact .nil
  | cons q t'=>exact .cons r ih
theorem Vals.rep {xs:List V} {us:List Value} (h:Vals xs us):∀ k:Nat,Vals (qa3 k xs).flatten (qa3 k us).flatten
 | 0=>.nil
 | k+1=>by
  rw [qg6,qg6,qh1,qh1]
  exact Vals.append h (Vals.rep h k)
theorem Z8E {α:Type} (l:List α):l.eraseIdx (l.length - 1)=l.dropLast:=by
 induction l with
 | nil=>rfl
 | cons a r ih=>
  cases r with
  | nil=>rfl
  | cons b r=>
   have e:(a::b::r).length - 1=((b::r).length - 1)+1:=by
    have h1:(a::b::r).length=r.length+2:=rfl
    have h2:(b::r).length=r.length+1:=rfl
    omega
   rw [e,List.eraseIdx_cons_succ,ih]
   all_goals rfl
theorem Z4w (its:List Value):∀ (k:Nat) (acc:List Value),
  qh2 (fun x1 x2=>x1++x2) acc.toArray (qa3 k its.toArray)=(acc++(qa3 k its).flatten).toArray
 | 0,acc=>by simp
 | k+1,acc=>by
  have e:acc.toArray++its.toArray=(acc++its).toArray:=by simp
  have e2:(acc++its)++(qa3 k its).flatten=acc++(qa3 (k+1) its).flatten:=by
   rw [qg6,qh1,qc7]
  rw [← e2,← Z4w its k (acc++its),← e,qg6,List.foldl_cons]
section
variable {X:Cx} {pins:List (y8×Obj)} {σ:St} {H:Hp} {s:Shared} {l b:y8} {xs ys zs:List V}
theorem Inv.lset {its its':List Value} {n:Nat} {f:Array Value→Array Value} {t':Nat} (I:Inv X pins σ H s) (hH:H l=some (.lst xs))
  (e:s.heap.get? l=some { cls:=.type "list",data:=.seq its.toArray n }) (hf:f its.toArray=its'.toArray) (hv:Vals ys its') (hz:ys.length≤sizeLine) :
  Inv X pins σ (upd H l (.lst ys)) { s with heap:=s.heap.update l (Obj.mapSeq f),toks:=t' }:=by
 have q:=PySem.IsL.update e f
 rw [hf] at q
 refine I.write (x:=l) (e:=l) (by rw [hH]; exact trivial) (.inl rfl) (fun b' u hb hu=>(Heap.get?_update_other s.heap (Obj.mapSeq f) (Ne.symm hb)).trans hu) ⟨_,q⟩ ?_
 exact ⟨hz,its',_,hv,q⟩
theorem Inv.lnew {its:List Value} {t':Nat} (I:Inv X pins σ H s) (hv:Vals ys its) (hz:ys.length≤sizeLine) :
  Inv X pins σ (upd H s.heap.objs.size (.lst ys)) { s with heap:=s.heap.push { cls:=.type "list",data:=.seq its.toArray },toks:=t' }:=
 I.laid (fun _ _ q=>Heap.get?_push_of_some _ q) (qa0 _) ⟨hz,its,0,hv,Heap.get?_push_size _ rfl⟩
theorem Inv.fresh (I:Inv X pins σ H s):H s.heap.objs.size=none:=I.hok.fresh (qa0 _)
theorem Inv.lstM (I:Inv X pins σ H s) (hH:H l=some (.lst xs)):xs.length≤sizeLine∧∃ (its:List Value) (n:Nat),Vals xs its∧xs.length=its.length∧s.heap.get? l=some { cls:=.type "list",data:=.seq its.toArray n }:=by
 obtain ⟨z,its,n,r,e⟩:=I.hok l _ hH
 exact ⟨z,its,n,r,r.length,e⟩
theorem Z8j {n:Nat} (h:n≤sizeLine):Builtin.List.listTooLong n=false:=by
 unfold Builtin.List.listTooLong
 exact decide_eq_false qR
end
section
variable {X:Cx}
def J0E:V→List V→Hp→VK→Prop:=fun x vs H Q=>∃ l xs y,x=.ref l∧vs=[y]∧H l=some (.lst xs)∧xs.length < sizeLine∧Q .non (upd H l (.lst (xs++[y])))
theorem Z0q:MtM X "list.append" J0E:=by
 intro pins s σ H x vs v us Q I rx rv h
 obtain ⟨l,xs,y,rfl,rfl,hH,hz,q⟩:=h
 cases rx
 obtain ⟨u,rfl,ru⟩:=rv.one
 obtain ⟨z,its,n,r,hl,e⟩:=I.lstM hH
 refine call_meets F.slot_list_append ⟨_,e,rfl⟩ F.entry_list_append (F.args_list_append_2 _ _) (PySem.list_append l its.toArray n u (by rw [qb0]; omega)) ⟨e,?_⟩
 refine ⟨.non,_,I.lset (its':=its++[u]) hH e (by simp) (r.append (.cons ru .nil)) ?_,rfl,q⟩
 rw [qa1,List.length_singleton]
 omega
def J0G:V→List V→Hp→VK→Prop:=fun x vs H Q=>∃ l b xs zs,x=.ref l∧vs=[.ref b]∧H l=some (.lst xs)∧H b=some (.lst zs)∧xs.length+zs.length≤sizeLine∧Q .non (upd H l (.lst (xs++zs)))
theorem Z2z:MtM X "list.extend" J0G:=by
 intro pins s σ H x vs v us Q I rx rv h
 obtain ⟨l,b,xs,zs,rfl,rfl,hH,hB,hz,q⟩:=h
 cases rx
 obtain ⟨u,rfl,ru⟩:=rv.one
 cases ru
 obtain ⟨z,its,n,r,hl,e⟩:=I.lstM hH
 obtain ⟨z2,its2,n2,r2,hl2,e2⟩:=I.lstM hB
 have hsz:its.toArray.size+its2.toArray.size≤sizeLine:=by rw [qb0,qb0]; omega
 have hlong:¬ (!its.toArray.isEmpty&&Builtin.List.listTooLong (its.toArray.size+its2.toArray.size))=true:=by
  rw [Z8j hsz,Bool.and_false]
  exact qc5
 refine call_meets F.slot_list_extend ⟨_,e,rfl⟩ F.entry_list_extend (F.args_list_extend_2 _ _)
  (AutoSeq1.list_extend_list_list_0 l its.toArray n b its2.toArray n2 hlong (by rw [qb0]; omega) qR) ⟨e,e2,?_⟩
 refine ⟨.non,_,I.lset (its':=its++its2) hH e (by simp) (r.append r2) ?_,rfl,q⟩
 rw [qa1]
 omega
def rPop:V→List V→Hp→VK→Prop:=fun x vs H Q=>∃ l xs y,x=.ref l∧vs=[]∧H l=some (.lst xs)∧xs[xs.length - 1]?=some y∧Q y (upd H l (.lst xs.dropLast))
theorem Z7i:MtM X "list.pop" rPop:=by
 intro pins s σ H x vs v us Q I rx rv h
 obtain ⟨l,xs,y,rfl,rfl,hH,hy,q⟩:=h
 cases rx
 have hus:=rv.zero
 subst hus
 obtain ⟨z,its,n,r,hl,e⟩:=I.lstM hH
 obtain ⟨u,hu,ru⟩:=r.get hy
 have hy':its.toArray[its.toArray.size - 1]?=some u:=by
  show its.toArray[its.length - 1]?=some u
  rw [← Array.getElem?_toList,← hl]
  exact hu
 refine call_meets F.slot_list_pop ⟨_,e,rfl⟩ F.entry_list_pop (F.args_list_pop_1 _) (MeetsSeq.list_pop_last l its.toArray n u hy' (by rw [qb0]; omega)) ⟨e,?_⟩
 refine ⟨y,_,I.lset (its':=its.dropLast) hH e ?_ r.dropLast ?_,ru,q⟩
 ·show its.toArray.eraseIdxIfInBounds (its.toArray.size - 1)=its.dropLast.toArray
  rw [qb0,List.eraseIdxIfInBounds_toArray,Z8E]
 ·rw [List.length_dropLast]
  omega
def J2o:V→List V→Hp→VK→Prop:=fun x vs H Q=>∃ l xs,x=.ref l∧vs=[]∧H l=some (.lst xs)∧Q .non (upd H l (.lst []))
theorem Z7K:MtM X "list.clear" J2o:=by
 intro pins s σ H x vs v us Q I rx rv h
 obtain ⟨l,xs,rfl,rfl,hH,q⟩:=h
 cases rx
 have hus:=rv.zero
 subst hus
 obtain ⟨z,its,n,r,hl,e⟩:=I.lstM hH
 refine call_meets F.slot_list_clear ⟨_,e,rfl⟩ F.entry_list_clear (F.args_list_clear_1 _) (AutoSeq1.list_clear_list_0 l its.toArray n (by rw [qb0]; omega)) ⟨e,?_⟩
 exact ⟨.non,_,I.lset (its':=[]) (ys:=[]) hH e rfl .nil (qa4 _),rfl,q⟩
def rCat:R2:=fun x y H Q=>∃ l b xs zs,x=.ref l∧y=.ref b∧H l=some (.lst xs)∧H b=some (.lst zs)∧xs.length+zs.length≤sizeLine∧∀ p,H p=none→Q (.ref p) (upd H p (.lst (xs++zs)))
theorem Z1Y:OpR X (binaryOp .Add) rCat:=by
 intro pins s σ H x y v u Q I rx ry h
 obtain ⟨l,b,xs,zs,rfl,rfl,hH,hB,hz,q⟩:=h
 cases rx
 cases ry
 obtain ⟨z,its,n,r,hl,e⟩:=I.lstM hH
 obtain ⟨z2,its2,n2,r2,hl2,e2⟩:=I.lstM hB
 refine PySem.P.add_list e e2 ?_ (by rw [qb0,qb0]; omega)
 have ea:its.toArray++its2.toArray=(its++its2).toArray:=by simp
 rw [ea]
 exact ⟨.ref _,_,I.lnew (t':=s.toks) (r.append r2) (by rw [qa1]; omega),rfl,q _ I.fresh⟩
def rRep:R2:=fun x y H Q=>∃ l k xs,x=.ref l∧y=.int k∧H l=some (.lst xs)∧-(2 ^ 63)≤k∧k < 2 ^ 63∧xs.length * k.toNat≤sizeLine ∧
 ∀ p,H p=none→Q (.ref p) (upd H p (.lst (qa3 k.toNat xs).flatten))
theorem Z9I {α:Type} (xs:List α) (k:Nat):(qa3 k xs).flatten.length=k * xs.length:=by
 induction k with
 | zero=>simp
 | succ k ih=>rw [qg6,qh1,qa1,ih,Nat.succ_mul,Nat.add_comm]
theorem Z7O:OpR X (binaryOp .Mult) rRep:=by
 intro pins s σ H x y v u Q I rx ry h
 obtain ⟨l,k,xs,rfl,rfl,hH,h1,h2,hz,q⟩:=h
 cases rx
 obtain ⟨t,rfl⟩:=ry
 obtain ⟨z,its,n,r,hl,e⟩:=I.lstM hH
 have hlen:its.toArray.size * k.toNat≤sizeLine:=by rw [qb0,← hl]; exact hz
 have hcap:¬ its.toArray.size * k.toNat > (2 ^ 63 - 1) / 8:=by
  have:(sizeLine:Nat)≤(2 ^ 63 - 1) / 8:=by decide
  omega
 have hfit:¬ (!Builtin.List.listFitsIndex k)=true:=by
  rw [fitsIndex_both h1 h2]
  exact qc5
 have hlong:¬ Builtin.List.listTooLong (its.toArray.size * k.toNat)=true:=by
  rw [Z8j hlen]
  exact qc5
 have hnew:qh2 (fun x1 x2=>x1++x2) #[] (qa3 (if its.toArray.isEmpty=true then 0 else k.toNat) its.toArray)=(qa3 k.toNat its).flatten.toArray:=by
  have f0:∀ m:Nat,qh2 (fun x1 x2=>x1++x2) #[] (qa3 m its.toArray)=(qa3 m its).flatten.toArray:=fun m=>by
   have:=Z4w its m []
   rw [qj4] at this
   exact this
  rw [f0]
  cases its with
  | nil=>simp
  | cons a r'=>rw [if_neg (by simp)]
 refine wpAny_binaryOp_repeat_ref (T:="list") (U:="int") qQ ⟨_,e,rfl⟩ (fun s'=>typeIs_int s' k t) noFill_list_mul F.fills_int_mul F.slot_int_rmul repeat_list F.slot_int_index.lookup
  (call_meets F.slot_int_rmul (typeIs_int s k t) F.entry_int_rmul (F.args_int_rmul_2 _ _) (int___rmul___int_list k t l its.toArray n)
   ⟨e,rfl,⟨_,e,rfl⟩,call_meets F.slot_list_mul ⟨_,e,rfl⟩ F.entry_list_mul (F.args_list_mul_2 _ _) (AutoListH.list___mul___list_int_3 l its.toArray n k t hfit hcap hlong) ⟨e,?_⟩⟩)
 rw [hnew]
 exact ⟨.ref _,_,I.lnew (t':=s.toks) (r.rep k.toNat) (by rw [Z9I,Nat.mul_comm]; exact hz),rfl,q _ I.fresh⟩
end
section
variable {prog:Program} {w:World} {A:Around} {E:Value→Shared→Prop} {s:Shared}
set_option maxRecDepth 100000 in
end
end L2
namespace Att
open PySem PySem.W PySem.Calls PyProof.Rows
theorem Z4l {P:Params} {h:Heap}:∀ (ns:List Int) (vs:List Value),WellAll P h vs (ns.map WData.int)→IntsAre vs ns:=by
 intro ns
 induction ns with
 | nil=>
  intro vs w
  rw [List.map_nil] at w
  cases w
  exact .nil
 | cons n ns ih=>
  intro vs w
  rw [qd5] at w
  cases w with
  | cons a b=>
   cases a
   exact .cons _ _ (ih _ b)
theorem Z9m {l:OpenLaw} {n:Nat} (hn:l.most=some n) {P:Params} {h:Heap} {args:List WData} {vals:List Value}
  (hpre:l.row.toRowW.claim.pre args=true) (hwl:WellAll P h vals args) :
  ∃ a vs ns,vals=[Value.ref a]∧args=[WData.list (ns.map WData.int)]∧h.get? a=some { cls:=.type "list",data:=.seq vs.toArray }∧IntsAre vs ns∧ns.length≤n:=by
 have hsh:WShape.hasAll [] args [.list .int]=true:=(pre_splitW hpre).1
 have hc:l.pre.holds [] { args:=args }=true:=(pre_splitW hpre).2
 obtain ⟨d,r,rfl,h1,h2⟩:=hasAllW_cons hsh
 obtain rfl:=hasAllW_nil h2
 obtain ⟨xs,rfl,h3⟩:=hasW_list h1
 obtain ⟨ns,rfl⟩:=items_int h3
 have hlen:ns.length≤n:=by
  unfold OpenLaw.pre at hc
  have h4:(WTm.not (.lt (.lit (.int (n:Int))) (.len (.arg 0)))).holds [] { args:=[.list (ns.map .int)] }=true:=by
   have h4:=(holds_andW hc).1
   rw [hn] at h4
   exact h4
  have h5:=condW_of h4 (w_not (w_lt w_lit (w_len_list (w_arg rfl))))
  rw [qa2] at h5
  refine Nat.le_of_not_lt fun q=>?_
  have q':(n:Int) < ((ns.length:Nat):Int):=by omega
  first
   | (rw [decide_eq_true q'] at h5; exact absurd h5 qQ)
   | (simp at h5; omega)
 cases hwl with
 | cons w1 w2=>
  cases w2
  cases w1 with
  | list ho hall=>exact ⟨_,_,ns,rfl,rfl,ho,Z4l ns _ hall,hlen⟩
theorem Z9w (l:OpenLaw) (args:List WData):l.row.toRowW.claim.post args (.bool true) args=true:=
 postW_of (r:=l.row.toRowW) (X:=(true == true))
  (show WShape.has [] (.bool true) .bool=true by first | rfl | decide | simp [WShape.has,WShape.arms,WShape.armsAll])
  (show (WTm.eq .res (.lit (.bool true))).value [] { args:=args,res:=some (.bool true),after:=args }=some (.bool (true == true)) from w_eq_bool (w_res rfl) w_lit) rfl
theorem attach_call {l:OpenLaw} {n:Nat} {q:Program} {loose:List Str} {XP:(Str→Option Value)→Heap→Prop} {YP:World→Heap→Prop} {d:DefRec}
  (hn:l.most=some n) (hdf:d.params.defaults=[])
  (call:∀ (w:World) (s₀ s₁:Shared) (mg mb:Str→Option Value) (fa:y8) (o:Obj) (pm cd doc:Value) (a:y8) (vs:List Value) (ns:List Int),
   Ground q loose [] XP w s₀ mg mb s₁.heap→YP w s₁.heap →
   s₁.heap.get? fa=some o→o.data=.func (docDef d.name d.params d.body d.scope pm cd doc)→s₁.heap.CodeRec cd d.name→mg d.name=some (.ref fa) →
   s₁.heap.get? a=some { cls:=.type "list",data:=.seq vs.toArray }→IntsAre vs ns→ns.length≤n→s₁.gens=#[] →
   codeAny (model l.prog w) callerA (.call (.ref fa) ⟨[.ref a],[]⟩) (fun r s'=>r=.ok (.ret (.bool true))∧OldK s₁.heap s'.heap∧s'.os=s₁.os∧AllBare s'.gens) s₁) :
  WalkO q loose XP YP l.row.toRowW d [] (fun f vs=>PySem.call f vs):=by
 intro w s₀ s₁ mg mb G Y fa o pm cd doc dV kV ho hd hcd hD hmg hg args vals as hpre hlay hrd hwl hlo
 obtain rfl:dV=.none:=Dflts.none hD hdf
 obtain rfl:kV=.none:=Dflts.noKw hD
 obtain ⟨a,vs,ns,rfl,rfl,hobj,hints,hlen⟩:=Z9m hn hpre hwl
 refine enter_call (codeAny_mono (call w s₀ s₁ mg mb fa o pm cd doc a vs ns G Y ho (fd_plain hd) hcd hmg hobj hints hlen hg) fun r s' hq=>?_)
 obtain ⟨rfl,h2,h3,h4⟩:=hq
 exact ⟨.inl ⟨.bool true,.bool true,[],rfl,fun _=>rfl,.bool true,Z9w l _,fun _=>⟨List.Pairwise.nil,fun _ hm=>(nomatch hm)⟩⟩,h2,h3,h4⟩
section
variable {prog:Program} {w:World} {A:Around} {E:Value→Shared→Prop} {s:Shared} {K:Frag}
def Z6y (h:Heap):Heap:={ h with objs:=#[] }
theorem Z3P (h:Heap) (b:y8):(Z6y h).get? b=none:=by
 cases e:(Z6y h).get? b with
 | none=>rfl
 | some o=>exact absurd (Heap.lt_size e) (qg7 _)
def Z7N (h:Heap) (L d:y8):List (y8×Obj):=(qc6 h.objs.size).filterMap fun a=>if a=L∨a=d then none else (h.get? a).map fun o=>(a,o)
theorem mem_ledger {h:Heap} {L d a:y8} {o:Obj}:(a,o)∈Z7N h L d↔a≠L∧a≠d∧h.get? a=some o:=by
 unfold Z7N
 rw [ql0]
 constructor
 ·rintro ⟨b,_,e⟩
  split at e
  ·cases e
  ·rename_i hb
   obtain ⟨o',ho,e'⟩:=qb6.mp e
   cases e'
   exact ⟨fun q=>hb (.inl q),fun q=>hb (.inr q),ho⟩
 ·rintro ⟨n1,n2,ho⟩
  refine ⟨a,qi3.mpr (Heap.lt_size ho),?_⟩
  rw [if_neg (show ¬ (a=L∨a=d) from fun q=>q.elim n1 n2),ho] <;> rfl
theorem Z6Z {h:Heap} {L d:y8} {od:Obj} (hne:d≠L) (ho:h.get? d=some od):News (Z6y h) L h ([]++(d,od)::Z7N h L d):=by
 rintro ⟨a,o⟩ hp
 rcases qa8.mp hp with e | hp
 ·cases e
  exact ⟨ho,hne,Z3P _ _⟩
 ·obtain ⟨n1,n2,e⟩:=mem_ledger.mp hp
  exact ⟨e,n1,Z3P _ _⟩
theorem J4M {h:Heap} {L:y8} {m:Str→Option Value} (n:h.Ns L m):Fr (Z6y h) L h m:=
 ⟨n,fun b o e=>(by rw [Z3P] at e; cases e),qa4 _⟩
theorem set_field {x C dx L:y8} {ox:Obj} {m:Str→Option Value} {es es':List DictEntry} {n n':Nat} {name:Str} {v:Value} {Q:Unit→Shared→Prop}
  (X:K.In s.heap) (I:W.InstAt s.heap x ox C (some (dictOf es n))) (hd:ox.dict=some dx) (hL:s.heap.Ns L m) (hne:dx≠L)
  (hs:findIn K (.ref C) "__setattr__"=some (some (.builtin "object.__setattr__"))) (hp:plainOver K C=true) (ht:takerIn K C name=some none) (hh:hasDictIn K C=true) (hl:(getL name es).isSome=true)
  (e:(putL name (PyData.keyHash w.params name) (.str name (s.toks+1)) v es,putN name es n)=(es',n')) (hz:es'.length≤1000)
  (h:∀ h':Heap,h'.Ns L m→h'.get? dx=some (dictOf es' n')→(∀ b o,b≠dx→b≠L→s.heap.get? b=some o→h'.get? b=some o)→Q () { s with heap:=h',toks:=s.toks+2 }) :
  wpAny (model prog w) A (setAttr (.ref x) name v) Q E s:=by
 obtain ⟨e1,e2⟩:=Prod.mk.inj e
 have hdx:s.heap.get? dx=some (dictOf es n):=by
  have:=I.dict
  rw [hd] at this
  exact this
 refine set_plain X I hs (osa_dict (s:={ s with toks:=s.toks+1 }) (h₀:=Z6y s.heap) (L:=L) (m:=m) (od:=dictOf es n) (od':=dictOf es' n') (es:=es') (n:=n') (pre:=[]) (post:=Z7N s.heap L dx)
  (J4M hL) (Z6Z hne hdx) X I hd hp ht hh hl (fun _ q=>nomatch q) (fun ⟨_,_⟩ q=>(mem_ledger.mp q).2.1) (by rw [putName_dict,e1,e2]) rfl hz fun h' F' N'=>?_)
 exact h h' F'.ns (N'.get (List.Mem.head _)) fun b o n1 n2 ho=>N'.get (List.Mem.tail _ (mem_ledger.mpr ⟨n2,n1,ho⟩))
end
end Att
namespace L2
open PySem PySem.Spec PyProof.Rows
theorem Z5R:∀ {vs:List Value} {ns:List Int},IntsAre vs ns→Vals (ns.map V.int) vs
 | _,_,.nil=>.nil
 | _,_,.cons n t h=>.cons ⟨t,rfl⟩ (Z5R h)
def Only (H:Hp):Prop:=∀ b,H b=none∨∃ o xs,H b=some (.frz o (.lst xs))
theorem J1B {P:Program} {w:World} {K:y9} {mg mb:Str→Option Value} {CX:CXT} {k:Nat} {fa a:y8} {fd:FuncData} {x:Str} {sp:Sp} {s₁:Shared} {vs:List Value} {ns:List Int}
  (KX:K.In s₁.heap) (hns:s₁.heap.Ns mainGlobals mg) (hb:s₁.heap.Ns builtinsNs mb) (hbb:∀ x:Str,x≠"__name__"→mb x=bootBuiltins x) (hlim:s₁.heap.NoLimit) (hg:s₁.gens=#[])
  (ha:s₁.heap.get? a=some { cls:=.type "list",data:=.seq vs.toArray }) (hi:IntsAre vs ns) (hl:ns.length≤sizeLine) (hr:Room k callerA)
  (F:∀ base:Heap,K.In base→base.Ns mainGlobals mg→FnOk P w K mg base CX k fa fd [x] sp) (hbind:∀ (s:Shared) (u:Value),BindsTo s fd ⟨[u],[]⟩ [(x,u)])
  (hsp:∀ H:Hp,Only H→SqL K H a (ns.map V.int)→sp [.ref a] H (fun v _=>v=.bl true) fun _ _ _=>False)
  (hCX:∀ H e s',CX [] H s₁ (fun _ _ _=>False) e s'→False) :
  codeAny (model P w) callerA (.call (.ref fa) ⟨[.ref a],[]⟩) (fun r s'=>r=.ok (.ret (.bool true))∧OldK s₁.heap s'.heap∧s'.os=s₁.os∧AllBare s'.gens) s₁:=by
 have rv:=Z5R hi
 have lenV:=hi.length
 -- from an abstract heap in which nothing but the script may be tracked
 have core:∀ H:Hp,Only H→SqL K H a (ns.map V.int)→HOk P w H s₁.heap→(∀ b,H b≠none→b=a)→(H a≠none→K.lookup a=none) →
   codeAny (model P w) callerA (.call (.ref fa) ⟨[.ref a],[]⟩) (fun r s'=>r=.ok (.ret (.bool true))∧OldK s₁.heap s'.heap∧s'.os=s₁.os∧AllBare s'.gens) s₁:=by
  intro H hO hS hok hA hK
  have base_of:∀ {b:y8} {o:Obj},s₁.heap.get? b=some o→H b=none→(hidT s₁.heap H).get? b=some o:=fun e n=>J1x e n
  have noA:∀ {b:y8} {o:Obj} {es:Array DictEntry} {ep:Nat},s₁.heap.get? b=some o→o.data=.dict es ep→H b=none:=fun {b o es ep} e d=>by
   cases q:H b with
   | none=>rfl
   | some u=>
    have e':b=a:=hA b (by rw [q]; simp)
    subst e'
    rw [ha] at e; cases e
    have d':Data.seq vs.toArray _=Data.dict es ep:=d
    cases d'
  have nsK:∀ {b:y8} {m:Str→Option Value},s₁.heap.Ns b m→(hidT s₁.heap H).Ns b m:=fun {b m} ⟨o,es,ep,e,d,r⟩=>⟨o,es,ep,base_of e (noA e d),d,r⟩
  have hKb:K.In (hidT s₁.heap H):=fun b o e=>base_of (KX b o e) (by
   cases q:H b with
   | none=>rfl
   | some u=>
    have e':b=a:=hA b (by rw [q]; simp)
    subst e'
    rw [hK (by rw [q]; simp)] at e; cases e)
  have hM:Mod K mg (hidT s₁.heap H):=⟨hKb,nsK hns,⟨mb,nsK hb,hbb⟩,let ⟨mc,h1,h2⟩:=hlim; ⟨mc,nsK h1,h2⟩⟩
  have e0:Env0 P w K mg (hidT s₁.heap H) callerA [] s₁ H:=⟨rfl,hM,fun b o e=>J4b e,Nat.le_of_eq (Z8Y _ _),trivial,fun b hb=>absurd (show b∈([]:List y8) from hb) (by simp),hok,.of_eq hg⟩
  refine codeAny_mono ((F _ hKb (nsK hns)).run callerA [] s₁ H ⟨[.ref a],[]⟩ [.ref a] [.ref a] _ _ hr e0 (hbind s₁ (.ref a)) (.cons rfl .nil) (hsp H hO hS)) fun r s' h=>?_
  cases r with
  | error e=>exact (hCX H e s' h).elim
  | ok fl=>
   cases fl with
   | next=>exact False.elim h
   | brk=>exact False.elim h
   | cont=>exact False.elim h
   | ret u=>
    obtain ⟨v,H',os,bare,un,hok',r',q⟩:=h
    have q':v=.bl true:=q
    subst q'
    obtain rfl:u=Value.bool true:=r'
    refine ⟨rfl,OldK.of_keep fun b o e=>?_,os,bare⟩
    cases q:H b with
    | none=>exact un.keep b o e q (by intro z; exact absurd (show b∈([]:List y8) from z) (by simp)) (by simp)
    | some u=>
     rcases hO b with z | ⟨ob,xs,z⟩
     ·rw [q] at z; cases z
     ·have z2:=un.frzs b ob _ z
      obtain ⟨e1,_⟩:=hok b _ z
      obtain ⟨e2,_⟩:=hok' b _ z2
      rw [e] at e1; cases e1
      exact e2
 cases hk:K.lookup a with
 | some o=>
  -- the script is one of the module's own objects
  have e:=KX a o hk
  rw [ha] at e
  cases e
  refine core (fun _=>none) (fun _=>.inl rfl) (.inr ⟨_,vs.toArray,_,hk,rfl,rfl,rfl,by rw [qb0,lenV]; exact hl,by simpa using rv⟩) (fun b u z=>by have z':(none:Option HO)=some u:=z; cases z') (fun b z=>absurd rfl z) fun z=>absurd rfl z
 | none=>
  refine core (fun b=>if b=a then some (.frz { cls:=.type "list",data:=.seq vs.toArray } (.lst (ns.map V.int))) else none) (fun b=>?_) (.inl (.inr ⟨{ cls:=.type "list",data:=.seq vs.toArray },if_pos rfl⟩)) (fun b u z=>?_) (fun b z=>?_) fun _=>hk
  ·by_cases hb:b=a
   ·exact .inr ⟨_,_,if_pos hb⟩
   ·exact .inl (if_neg hb)
  ·by_cases hb:b=a
   ·have z':=(if_pos hb).symm.trans z
    cases z'
    subst hb
    exact ⟨ha,by rw [qa2]; exact hl,vs,_,rv,ha⟩
   ·have z':=(if_neg hb).symm.trans z
    cases z'
  ·by_cases hb:b=a
   ·exact hb
   ·exact absurd (if_neg hb) z
abbrev KOf {K:y9} {h:Heap} (_:K.In h):y9:=K
theorem J3T {l:W.OpenLaw} {n k:Nat} {q:Program} {loose:List Str} {XP:(Str→Option Value)→Heap→Prop} {YP:World→Heap→Prop} {d:DefRec} {K:Params→y9} {CX:World→CXT} {sp:World→Sp} {x:Str}
  (hn:l.most=some n) (hn2:n≤sizeLine) (hdf:d.params.defaults=[]) (hr:Room k callerA)
  (hY:∀ (w:World) (h:Heap),YP w h→(K w.params).In h)
  (F:∀ (w:World) (mg:Str→Option Value) (fa:y8) (h:Heap),(K w.params).In h→h.Ns mainGlobals mg→mg d.name=some (.ref fa) →
   ∃ fd:FuncData,(∀ (s:Shared) (u:Value),BindsTo s fd ⟨[u],[]⟩ [(x,u)]) ∧
    ∀ base:Heap,(K w.params).In base→base.Ns mainGlobals mg→FnOk l.prog w (K w.params) mg base (CX w) k fa fd [x] (sp w))
  (hsp:∀ (w:World) (H:Hp) (a:y8) (ns:List Int),ns.length≤n→Only H→SqL (K w.params) H a (ns.map V.int)→sp w [.ref a] H (fun v _=>v=.bl true) fun _ _ _=>False)
  (hCX:∀ (w:World) (H:Hp) (s:Shared) (e:Value) (s':Shared),CX w [] H s (fun _ _ _=>False) e s'→False) :
  W.WalkO q loose XP YP l.row.toRowW d [] (fun f vs=>PySem.call f vs):=by
 refine Att.attach_call hn hdf fun w s₀ s₁ mg mb fa o pm cd doc a vs ns G Y ho hd hcd hmg hobj hints hlen hg=>?_
 have KX:=hY w _ Y
 obtain ⟨fd,hb,hF⟩:=F w mg fa _ KX G.T.g hmg
 exact J1B KX G.T.g G.T.b G.T.builtins G.T.nolimit hg hobj hints (qa7 hlen hn2) hr hF hb (fun H hO hS=>hsp w H a ns hlen hO hS) fun H e s'=>hCX w H s₁ e s'
theorem J1P {l:W.OpenLaw} {n k:Nat} {q:Program} {loose:List Str} {XP:(Str→Option Value)→Heap→Prop} {YP:World→Heap→Prop} {d:DefRec} {K:Params→y9} {CX:CXT} {sp:y9→Sp} {x:Str}
  (hn:l.most=some n) (hn2:n≤sizeLine) (hdf:d.params.defaults=[]) (hr:Room k callerA)
  (hY:∀ (w:World) (h:Heap),YP w h→(K w.params).In h)
  (F:∀ (w:World) (mg:Str→Option Value) (fa:y8) (h:Heap),(K w.params).In h→h.Ns mainGlobals mg→mg d.name=some (.ref fa) →
   ∃ fd:FuncData,(∀ (s:Shared) (u:Value),BindsTo s fd ⟨[u],[]⟩ [(x,u)]) ∧
    ∀ base:Heap,(K w.params).In base→base.Ns mainGlobals mg→FnOk l.prog w (K w.params) mg base CX k fa fd [x] (sp (K w.params)))
  (hsp:∀ (K:y9) (H:Hp) (a:y8) (ns:List Int),ns.length≤n→Only H→SqL K H a (ns.map V.int)→sp K [.ref a] H (fun v _=>v=.bl true) fun _ _ _=>False)
  (hCX:∀ (H:Hp) (s:Shared) (e:Value) (s':Shared),CX [] H s (fun _ _ _=>False) e s'→False) :
  W.WalkO q loose XP YP l.row.toRowW d [] (fun f vs=>PySem.call f vs):=
 J3T (K:=K) (CX:=fun _=>CX) (sp:=fun w=>sp (K w.params)) hn hn2 hdf hr hY F (fun w H a ns h1 h2 h3=>hsp (K w.params) H a ns h1 h2 h3) fun _ H s e s'=>hCX H s e s'
abbrev CX0:CXT:=fun _ _ _ _ _ _=>False
abbrev E0:XK:=fun _ _ _=>False
theorem J0l {X:Cx}:Z3E CX0 X E0:=fun _ _ _ _ _ _ _ h=>h.elim
structure Fun (K:y9) (x qual:Str) (st:Stmt) (f:y8) (fd:FuncData):Prop where
 ex:∃ (oc:Value) (od:Option y8) (kV doc pm:Value) (an:Option y8) (cdv ct:Value) (osl:Array (Option Value)),
  fd=W.fnOf x qual (Z1m st) (Z0Y st) (Z0i st) .none kV doc pm an cdv ct∧K.lookup f=some ⟨oc,od,.func fd,osl⟩∧W.codeIn K cdv qual=true
 kp:W.keepIn K (.ref f)=true
section
variable {P:Program} {w:World} {K:y9} {mg:Str→Option Value} {base:Heap}
theorem Fun.ok {x qual:Str} {st:Stmt} {f:y8} {fd:FuncData} {N ps:List Str} {k:Nat} {sp:Sp} (F:Fun K x qual st f fd) (S:Z0l N ps (Z0i st)) (len:∀ vs H Q E,sp vs H Q E→vs.length=ps.length)
  (hbody:∀ (cdv:Value) (A:Around) (outer:List Env) (s:Shared) (H:Hp) (vs:List V) (Q:VK) (E:XK),Room k (A.deeper (envOfC qual (Z0i st) s.heap.objs.size f cdv))→sp vs H Q E →
   ∃ t,PSs (cxOf CX0 P w K mg base N qual (Z0i st) f cdv A outer s H E).nox (Z0Y st) t∧t { nx:=fun _ H'=>Q .non H',rt:=Q } (Z4D N vs) H):FnOk P w K mg base CX0 (k+1) f fd ps sp:=by
 obtain ⟨oc,od,kV,doc,pm,an,cdv,ct,osl,rfl,lk,hcd⟩:=F.ex
 refine J5r lk hcd S len fun A outer s H vs Q E hr hsp=>?_
 obtain ⟨t,h,q⟩:=hbody cdv A outer s H vs Q E hr hsp
 exact ⟨t,h.nox,q⟩
theorem Fun.binds {x qual:Str} {st:Stmt} {f:y8} {fd:FuncData} {ps:List Str} (F:Fun K x qual st f fd)
  (h:∀ (kV doc pm:Value) (an:Option y8) (cdv ct:Value) (us:List Value),us.length=ps.length→bindArgs (W.fnOf x qual (Z1m st) (Z0Y st) (Z0i st) .none kV doc pm an cdv ct) ⟨us,[]⟩=pure (ps.zip us)):Binds K fd ps []:=by
 obtain ⟨oc,od,kV,doc,pm,an,cdv,ct,osl,rfl,lk,hcd⟩:=F.ex
 exact .all (h kV doc pm an cdv ct)
theorem J2s {x qual:Str} {st:Stmt} {f:y8} {oc:Value} {od an:Option y8} {osl:Array (Option Value)} {kV doc pm cdv ct:Value} (l:K.lookup f=some ⟨oc,od,.func (W.fnOf x qual (Z1m st) (Z0Y st) (Z0i st) .none kV doc pm an cdv ct),osl⟩)
  (c:W.codeIn K cdv qual=true) (k:W.keepIn K (.ref f)=true):Fun K x qual st f (W.fnOf x qual (Z1m st) (Z0Y st) (Z0i st) .none kV doc pm an cdv ct):=⟨⟨oc,od,kV,doc,pm,an,cdv,ct,osl,rfl,l,c⟩,k⟩
end
theorem Z3k {A:Around} {k:Nat} (hr:Room k A):A.units+1 < cLine:=qg0 (Nat.add_le_add_left (by decide:1≤64) _) hr.units
section
variable {X:Cx}
theorem pv (i:Nat) {x:Str} {pos:Pos} (hN:X.N[i]?=some x:=by rfl) (hv:Vis X.env.scope x:=by first | exact Or.inl rfl | exact Or.inr (Or.inl rfl) | exact Or.inr (Or.inr rfl)) (hd:(x == ("__debug__":Str))=false:=by decide)
  (hcd:(x == ("__classdict__":Str))=false:=by decide):PE X (.Name x pos) (tVar i):=J2x hN hv hd hcd
end
theorem iteF {A B:Prop} (h:B):if false=true then A else B:=by
 rw [if_neg qc5]
 exact h
theorem iteT {A B:Prop} (h:A):if true=true then A else B:=by
 rw [if_pos rfl]
 exact h
theorem ite2 {c A B:Prop} [Decidable c] (h1:c→A) (h2:¬ c→B):if c then A else B:=by
 by_cases h:c
 ·rw [if_pos h]
  exact h1 h
 ·rw [if_neg h]
  exact h2 h
def Same (H H':Hp):Prop:=∀ b o,H b=some o→H' b=some o
theorem Same.refl (H:Hp):Same H H:=fun _ _ h=>h
theorem Same.trans {H H1 H2:Hp} (a:Same H H1) (b:Same H1 H2):Same H H2:=fun c o h=>b c o (a c o h)
theorem Same.free {H H':Hp} (e:Same H H') {l:y8} (h:H' l=Option.none):H l=Option.none:=by
 cases q:H l with
 | none=>rfl
 | some o=>
  rw [e l o q] at h
  cases h
theorem Same.seq {K:y9} {H H':Hp} {a:y8} {xs:List V} (e:Same H H') (h:SqL K H a xs):SqL K H' a xs:=by
 rcases h with (h | ⟨o,h⟩) | h
 ·exact .inl (.inl (e _ _ h))
 ·exact .inl (.inr ⟨o,e _ _ h⟩)
 ·exact .inr h
end L2
end
section
namespace L2
open PySem PySem.Spec PyProof.Rows PySem.SeqAt
theorem J6w {i:Nat} {σ:St} {H:Hp} {Q:VK}:tVar i σ H Q=(∃ v,σ[i]?=some (some v)∧Q v H):=rfl
theorem J7N {v:V} {z0:St} {H:Hp} {Q:VK}:tC v z0 H Q=(Q v H):=rfl
theorem J7P {t:TE} {σ:St} {H:Hp} {Q:Bool→Hp→Prop}:tB t σ H Q=(t σ H fun x H1=>∃ c,x=.bl c∧Q c H1):=rfl
theorem J6T {t u:TT} {σ:St} {H:Hp} {Q:Bool→Hp→Prop}:tAnd t u σ H Q=(t σ H fun c H1=>if c=true then u σ H1 Q else Q false H1):=rfl
theorem J7C {t u:TT} {σ:St} {H:Hp} {Q:Bool→Hp→Prop}:tOr t u σ H Q=(t σ H fun c H1=>if c=true then Q true H1 else u σ H1 Q):=rfl
theorem J7m {t:TT} {σ:St} {H:Hp} {Q:Bool→Hp→Prop}:tNot t σ H Q=(t σ H fun c H1=>Q (!c) H1):=rfl
theorem J6u {ta tb:TE} {σ:St} {H:Hp} {Q:VK}:J4w ta tb σ H Q=(ta σ H fun x H1=>∃ c,x=.bl c∧if c=true then tb σ H1 Q else Q (.bl false) H1):=rfl
theorem J7n {ta tb:TE} {σ:St} {H:Hp} {Q:VK}:tOrV ta tb σ H Q=(ta σ H fun x H1=>∃ c,x=.bl c∧if c=true then Q (.bl true) H1 else tb σ H1 Q):=rfl
theorem J6e {ta:TE} {σ:St} {H:Hp} {Q:VK}:J4R ta σ H Q=(ta σ H fun x H1=>∃ c,x=.bl c∧Q (.bl (!c)) H1):=rfl
theorem J7z {t:TT} {ta tb:TE} {σ:St} {H:Hp} {Q:VK}:tIf t ta tb σ H Q=(t σ H fun c H1=>if c=true then ta σ H1 Q else tb σ H1 Q):=rfl
theorem J5R {D:Ends} {σ:St} {H:Hp}:J5A  D σ H=(D.nx σ H):=rfl
theorem J7a {t u:TS} {D:Ends} {σ:St} {H:Hp}:tSeq t u D σ H=(t { D with nx:=u D } σ H):=rfl
theorem J5U {te:TE} {D:Ends} {σ:St} {H:Hp}:J5q te D σ H=(te σ H fun _ H1=>D.nx σ H1):=rfl
theorem J7l {te:TE} {D:Ends} {σ:St} {H:Hp}:tRet te D σ H=(te σ H D.rt):=rfl
theorem J6s {D:Ends} {z1:St} {H:Hp}:J5a  D z1 H=(D.rt .non H):=rfl
theorem J6z {c:TT} {t u:TS} {D:Ends} {σ:St} {H:Hp}:tIfS c t u D σ H=(c σ H fun b H1=>if b=true then t D σ H1 else u D σ H1):=rfl
theorem J6i {i:Nat} {v:V} {σ:St} {H:Hp} {Q:St→Hp→Prop}:Z2A i v σ H Q=(Q (σ.set i (some v)) H):=rfl
theorem J6X {vs:List V} {σ:St} {H:Hp} {Q:St→Hp→Prop}:gNil  vs σ H Q=(vs=[]∧Q σ H):=rfl
theorem J6a {t:TG} {u:TGs} {vs:List V} {σ:St} {H:Hp} {Q:St→Hp→Prop}:J4n t u vs σ H Q=(∃ v r,vs=v::r∧t v σ H fun σ' H'=>u r σ' H' Q):=rfl
theorem J7s {K:y9} {n:Nat} {t:TGs} {v:V} {σ:St} {H:Hp} {Q:St→Hp→Prop}:gTup K n t v σ H Q=(∃ a xs,v=.ref a∧SqT K H a xs∧xs.length=n∧t xs σ H Q):=rfl
theorem J6D {to ti:TE} {t:TSet} {v:V} {σ:St} {H:Hp} {Q:St→Hp→Prop}:gSub to ti t v σ H Q=(to σ H fun o H1=>ti σ H1 fun i H2=>t o i v H2 fun H3=>Q σ H3):=rfl
theorem J7i {te:TE} {g:TG} {D:Ends} {σ:St} {H:Hp}:tAsg te g D σ H=(te σ H fun x H1=>g x σ H1 D.nx):=rfl
theorem J5Q {K:y9} {tl:TE} {σ:St} {H:Hp} {R:It→Hp→Prop}:J5b K tl σ H R=(tl σ H fun x H1=>∃ a,x=.ref a∧(∃ xs,SqL K H1 a xs)∧R (Itl K a) H1):=rfl
theorem J6p {ta:TA} {σ:St} {H:Hp} {R:It→Hp→Prop}:J4V ta σ H R=(ta σ H fun vs H1=>∃ j:Int,vs=[.int j]∧-(2 ^ 62)≤j∧j < 2 ^ 62∧R (Itr 0 j.toNat) H1):=rfl
theorem J7x {r:R2} {ta tb:TE} {σ:St} {H:Hp} {Q:VK}:tOp r ta tb σ H Q=(ta σ H fun x H1=>tb σ H1 fun y H2=>r x y H2 Q):=rfl
theorem J7B {r:V→Hp→VK→Prop} {ta:TE} {σ:St} {H:Hp} {Q:VK}:tUn r ta σ H Q=(ta σ H fun x H1=>r x H1 Q):=rfl
theorem J7Q {C:Int→Int→Prop} {g:Int→Int→V} {x:V} {y:V} {H:Hp} {Q:VK}:rI C g x y H Q=(∃ i j,x=.int i∧y=.int j∧C i j∧Q (g i j) H):=rfl
theorem J7G {g:Int→Int→V} {x:V} {y:V} {H:Hp} {Q:VK}:rI0 g x y H Q=(∃ i j,x=.int i∧y=.int j∧Q (g i j) H):=rfl
theorem J7I {g:Int→V} {x:V} {H:Hp} {Q:VK}:rU g x H Q=(∃ i,x=.int i∧Q (g i) H):=rfl
theorem J7w {x:V} {y:V} {H:Hp} {Q:VK}:rEq  x y H Q=(scal x y=true∧Q (.bl (decide (x=y))) H):=rfl
theorem J7F {x:V} {y:V} {H:Hp} {Q:VK}:rNe  x y H Q=(scal x y=true∧Q (.bl (!decide (x=y))) H):=rfl
theorem J6k {t:TE} {σ:St} {H:Hp} {Q:Bool→Hp→Prop}:Z6F t σ H Q=(t σ H fun x H'=>∃ k,x=.bl k∧Q k H'):=rfl
theorem J6I {z0:St} {H:Hp} {Q:List V→Hp→Prop}:tNil  z0 H Q=(Q [] H):=rfl
theorem J5P {ta:TE} {tr:TA} {σ:St} {H:Hp} {Q:List V→Hp→Prop}:Z5s ta tr σ H Q=(ta σ H fun x H1=>tr σ H1 fun xs H2=>Q (x::xs) H2):=rfl
theorem J6f {sp:Sp} {dvs:List V} {E:XK} {t:TA} {σ:St} {H:Hp} {Q:VK}:J1I sp dvs E t σ H Q=(t σ H fun vs H1=>sp (vs++dvs) H1 Q E):=rfl
theorem J6h {C:y8} {m:Str} {sp:Sp} {dvs:List V} {E:XK} {ta:TE} {t:TA} {σ:St} {H:Hp} {Q:VK}:Z9R C m sp dvs E ta t σ H Q=(ta σ H fun x H1=>∃ a dx fs,x=.ref a∧H1 a=some (.ins C dx fs)∧fs.lookup m=none ∧
 t σ H1 fun vs H2=>sp (x::(vs++dvs)) H2 Q E):=rfl
theorem J6c {C:y8} {sp:Sp} {dvs:List V} {E:XK} {t:TA} {σ:St} {H:Hp} {Q:VK}:J3t C sp dvs E t σ H Q=(t σ H fun vs H1=>∀ x dx,H1 x=none→H1 dx=none→dx≠x →
 sp (.ref x::(vs++dvs)) (upd (upd H1 dx (.own x)) x (.ins C dx [])) (fun v H2=>v=.non∧Q (.ref x) H2) E):=rfl
theorem J7y {r:List V→Hp→VK→Prop} {t:TA} {σ:St} {H:Hp} {Q:VK}:tCB r t σ H Q=(t σ H fun vs H1=>r vs H1 Q):=rfl
theorem J4j {z0:St} {H:Hp} {Q:Option Int→Hp→Prop}:Z9r  z0 H Q=(Q none H):=rfl
theorem J6o {t:TE} {σ:St} {H:Hp} {Q:Option Int→Hp→Prop}:J5H t σ H Q=(t σ H fun x H1=>∃ i,x=.int i∧Q (some i) H1):=rfl
theorem J7D {r:V→Option Int→Option Int→Hp→VK→Prop} {te:TE} {tl th:TO} {σ:St} {H:Hp} {Q:VK}:tSl r te tl th σ H Q=(te σ H fun x H1=>tl σ H1 fun l H2=>th σ H2 fun u H3=>r x l u H3 Q):=rfl
theorem J6G {K:y9} {x:V} {lo:Option Int} {hi:Option Int} {H:Hp} {Q:VK}:rSlT K x lo hi H Q=(∃ a xs,x=.ref a∧SqT K H a xs ∧
 ¬ (HT.sIx xs.length 0 lo=0∧HT.sIx xs.length xs.length hi=xs.length)∧∀ p,H p=none→Q (.ref p) (upd H p (.tup (cutV xs lo hi)))):=rfl
theorem J6l {K:y9} {x:V} {y:V} {H:Hp} {Q:VK}:J5f K x y H Q=(∃ a b xs ys,x=.ref a∧y=.ref b∧SqT K H a xs∧SqT K H b ys∧xs≠[]∧xs.length+ys.length≤sizeLine ∧
 (ys=[]→Q (.ref a) H)∧(ys≠[]→∀ p,H p=none→Q (.ref p) (upd H p (.tup (xs++ys))))):=rfl
theorem J6J {K:y9} {x:V} {y:V} {H:Hp} {Q:VK}:rIxL K x y H Q=(∃ p xs i v,x=.ref p∧y=.int i∧SqL K H p xs∧atI xs i=some v∧Q v H):=rfl
theorem J6H {K:y9} {x:V} {y:V} {H:Hp} {Q:VK}:rIxT K x y H Q=(∃ p xs i v,x=.ref p∧y=.int i∧SqT K H p xs∧atI xs i=some v∧Q v H):=rfl
theorem J6E {x:V} {y:V} {H:Hp} {Q:VK}:rIxS  x y H Q=(∃ z i c,x=.str z∧y=.int i∧z.length≤sizeLine∧atI z.cps.toList i=some c∧Q (.str ⟨#[c]⟩) H):=rfl
theorem J6r {o:V} {i:V} {v:V} {H:Hp} {Q:(Hp→Prop)}:J4X  o i v H Q=(∃ p xs k j,o=.ref p∧i=.int k∧H p=some (.lst xs)∧ixN xs.length k=some j∧Q (upd H p (.lst (xs.set j v)))):=rfl
theorem J7A {K:y9} {neg:Bool} {x:V} {y:V} {H:Hp} {Q:VK}:rIn K neg x y H Q=(∃ p xs,y=.ref p∧(SqL K H p xs∨SqT K H p xs)∧Z3H x=true∧xs.all Z3H=true∧Q (.bl (if neg then !inV x xs else inV x xs)) H):=rfl
theorem J7j {K:y9} {T:String} {r:V→List V→Hp→VK→Prop} {to:TE} {σ:St} {H:Hp} {Q:VK}:tBM0 K T r to σ H Q=(to σ H fun x H1=>tyV K T x H1∧r x [] H1 Q):=rfl
theorem J7E {K:y9} {T:String} {r:V→List V→Hp→VK→Prop} {to:TE} {t:TA} {σ:St} {H:Hp} {Q:VK}:tBM K T r to t σ H Q=(to σ H fun x H1=>tyV K T x H1∧t σ H1 fun xs H2=>r x xs H2 Q):=rfl
theorem J4m {x:V} {vs:List V} {H:Hp} {Q:VK}:J0E  x vs H Q=(∃ l xs y,x=.ref l∧vs=[y]∧H l=some (.lst xs)∧xs.length < sizeLine∧Q .non (upd H l (.lst (xs++[y])))):=rfl
theorem J4l {x:V} {vs:List V} {H:Hp} {Q:VK}:J0G  x vs H Q=(∃ l b xs zs,x=.ref l∧vs=[.ref b]∧H l=some (.lst xs)∧H b=some (.lst zs)∧xs.length+zs.length≤sizeLine∧Q .non (upd H l (.lst (xs++zs)))):=rfl
theorem J7o {x:V} {vs:List V} {H:Hp} {Q:VK}:rPop  x vs H Q=(∃ l xs y,x=.ref l∧vs=[]∧H l=some (.lst xs)∧xs[xs.length - 1]?=some y∧Q y (upd H l (.lst xs.dropLast))):=rfl
theorem J5o {x:V} {vs:List V} {H:Hp} {Q:VK}:J2o  x vs H Q=(∃ l xs,x=.ref l∧vs=[]∧H l=some (.lst xs)∧Q .non (upd H l (.lst []))):=rfl
theorem J6L {x:V} {y:V} {H:Hp} {Q:VK}:rRep  x y H Q=(∃ l k xs,x=.ref l∧y=.int k∧H l=some (.lst xs)∧-(2 ^ 63)≤k∧k < 2 ^ 63∧xs.length * k.toNat≤sizeLine ∧
 ∀ p,H p=none→Q (.ref p) (upd H p (.lst (qa3 k.toNat xs).flatten))):=rfl
def J3B (J:It) (g:TG) (tb:TS) (D:Ends) (σ:St) (H:Hp):Prop:=∃ W:Nat→Nat→St→Hp→Prop,(∃ m,W 0 m σ H)∧∀ i m σ H,W i m σ H →
 (J.stop i H∧D.nx σ H)∨(J.go i H∧∃ N:St→Hp→Prop,(∀ σ' H',N σ' H'→∃ m',m' < m∧W (i+1) m' σ' H')∧∀ x H',J.yld i H x H'→g x σ H' fun σ2 H2=>tb { D with nx:=N,ct:=N,bk:=D.nx } σ2 H2)
theorem J6V {wi:TI} {g:TG} {tb:TS} {D:Ends} {σ:St} {H:Hp}:tFor wi g tb D σ H=wi σ H fun J H1=>J3B J g tb D σ H1:=rfl
mutual
inductive RdD (K:y9) (H:Hp):V→PyData→Prop
 | non:RdD K H .non .none
 | bl (b:Bool):RdD K H (.bl b) (.bool b)
 | int (i:Int):RdD K H (.int i) (.int i)
 | str (x:Str):RdD K H (.str x) (.str x)
 | lst {a:y8} {xs:List V} {ds:List PyData}:SqL K H a xs→RdDs K H xs ds→RdD K H (.ref a) (.list ds)
 | tup {a:y8} {xs:List V} {ds:List PyData}:SqT K H a xs→RdDs K H xs ds→RdD K H (.ref a) (.tuple ds)
inductive RdDs (K:y9) (H:Hp):List V→List PyData→Prop
 | nil:RdDs K H [] []
 | cons {x:V} {xs:List V} {d:PyData} {ds:List PyData}:RdD K H x d→RdDs K H xs ds→RdDs K H (x::xs) (d::ds)
end
section
variable {X:Cx} {pins:List (y8×Obj)} {σ:St} {H:Hp} {s:Shared}
mutual
theorem RdD.reads (I:Inv X pins σ H s):∀ {x:V} {d:PyData} {v:Value},RdD X.K H x d→RelV x v→∃ as,Reads s.heap v d as
 | _,_,_,.non,r=>by cases (show _=Value.none from r); exact ⟨_,.none⟩
 | _,_,_,.bl b,r=>by cases (show _=Value.bool b from r); exact ⟨_,.bool b⟩
 | _,_,_,.int i,r=>by obtain ⟨t,e⟩:=(show ∃ t,_=Value.int i t from r); subst e; exact ⟨_,.int i t⟩
 | _,_,_,.str x,r=>by obtain ⟨t,e⟩:=(show ∃ t,_=Value.str x t from r); subst e; exact ⟨_,.str x t⟩
 | _,_,_,.lst (a:=a) hq hs,r=>by
  cases (show _=Value.ref a from r)
  obtain ⟨its,rv,pl,_⟩:=I.list hq
  obtain ⟨as,ra⟩:=RdDs.reads I hs rv
  obtain ⟨o,ho,hc,n,hd⟩:=pl.isList
  exact ⟨_,.list ho hc hd (by simpa using ra)⟩
 | _,_,_,.tup (a:=a) hq hs,r=>by
  cases (show _=Value.ref a from r)
  obtain ⟨its,rv,pl,_⟩:=I.tuple hq
  obtain ⟨as,ra⟩:=RdDs.reads I hs rv
  obtain ⟨o,ho,hc,n,hd⟩:=pl
  exact ⟨_,.tuple ho hc hd (by simpa using ra)⟩
theorem RdDs.reads (I:Inv X pins σ H s):∀ {xs:List V} {ds:List PyData} {vs:List Value},RdDs X.K H xs ds→Vals xs vs→∃ as,ReadsAll s.heap vs ds as
 | _,_,_,.nil,.nil=>⟨_,.nil⟩
 | _,_,_,.cons hd ht,.cons r rr=>by
  obtain ⟨as,ra⟩:=RdD.reads I hd r
  obtain ⟨bs,rb⟩:=RdDs.reads I ht rr
  exact ⟨_,.cons ra rb⟩
end
def rEqD (K:y9):R2:=fun x y H Q=>∃ d e,RdD K H x d∧RdD K H y e∧shaped d=true∧shaped e=true∧Q (.bl (PyData.eqv d e)) H
def rNeD (K:y9):R2:=fun x y H Q=>∃ d e,RdD K H x d∧RdD K H y e∧shaped d=true∧shaped e=true∧Q (.bl (!PyData.eqv d e)) H
theorem Z3W (hu:X.A.units+64 < cLine):OpR X (compareOp .Eq) (rEqD X.K):=by
 intro pins s σ H x y v u Q I rx ry h
 obtain ⟨d,e,hd,he,sd,se,q⟩:=h
 obtain ⟨as,ra⟩:=RdD.reads I hd rx
 obtain ⟨bs,rb⟩:=RdD.reads I he ry
 exact eq_dataH ra rb sd se hu ⟨.bl _,H,I,rfl,q⟩
theorem Z6s (hu:X.A.units+64 < cLine):OpR X (compareOp .NotEq) (rNeD X.K):=by
 intro pins s σ H x y v u Q I rx ry h
 obtain ⟨d,e,hd,he,sd,se,q⟩:=h
 obtain ⟨as,ra⟩:=RdD.reads I hd rx
 obtain ⟨bs,rb⟩:=RdD.reads I he ry
 exact ne_dataH ra rb sd se hu ⟨.bl _,H,I,rfl,q⟩
end
end L2
end
section
namespace L2
open PySem PySem.Spec PyProof.Rows
def clsV:V→Option Value
 | .ty n=>some (.type n)
 | .ref a=>some (.ref a)
 | _=>none
theorem Z8b {c:V} {cv u:Value} (h:clsV c=some cv) (r:RelV c u):u=cv:=by
 cases c with
 | ty n=>cases h; exact r
 | ref a=>cases h; exact r
 | _=>cases h
def rIsi (K:y9):List V→Hp→VK→Prop:=fun xs H Q=>∃ x c cv t b,xs=[x,c]∧clsV c=some cv∧TyOf K H x t∧W.kitOne K t cv=some b∧Q (.bl b) H
section
variable {X:Cx}
theorem J1j:Z3T X (.builtin "isinstance") (rIsi X.K):=by
 intro pins s σ H xs us Q I rs h
 obtain ⟨x,c,cv,t,b,rfl,hc,ty,e,q⟩:=h
 obtain ⟨u,v,rfl,ru,rv⟩:=rs.two
 rw [Z8b hc rv]
 exact Z2S I ru ty e fun tk=>⟨.bl b,H,I.tok tk,rfl,q⟩
end
section
variable {K:y9}
theorem Z3G {t:Value}:W.kitOne K t t=some true:=by
 unfold W.kitOne
 rw [if_pos (by simp)]
theorem Z6v:W.kitOne K (.type "int") (.type "bool")=some false:=by with_unfolding_all rfl
end
structure Fn (K:y9) (mg:Str→Option Value) (x:Str) (st:Stmt):Prop where
 ex:∃ f fd,Fun K x x st f fd∧mg x=some (.ref f)
structure Has (P:Program) (w:World) (K:y9) (mg:Str→Option Value) (base:Heap) (k:Nat) (x:Str) (ps:List Str) (sp:Sp):Prop where
 ex:∃ f fd,FnOk P w K mg base CX0 k f fd ps sp∧Binds K fd ps []∧W.keepIn K (.ref f)=true∧mg x=some (.ref f)
structure Cst (mg:Str→Option Value) (x:Str) (v:V):Prop where
 ex:∃ u,mg x=some u∧RelV v u
section
variable {P:Program} {w:World} {K:y9} {mg:Str→Option Value} {base:Heap}
theorem Z1e {h:Heap} {x:Str} {st:Stmt} {f:y8} {oc:Value} {od an:Option y8} {osl:Array (Option Value)} {kV doc pm cdv ct:Value} (X:K.In h) (G:h.Ns mainGlobals mg) (a:W.nsIn K mainGlobals x=some (some (.ref f)))
  (l:K.lookup f=some ⟨oc,od,.func (W.fnOf x x (Z1m st) (Z0Y st) (Z0i st) .none kV doc pm an cdv ct),osl⟩) (c:W.codeIn K cdv x=true) (k:W.keepIn K (.ref f)=true):Fn K mg x st:=
 ⟨f,_,J2s l c k,W.mg_of X G a⟩
theorem Z6K {h:Heap} {x:Str} {i:Int} {t:Tok} (X:K.In h) (G:h.Ns mainGlobals mg) (a:W.nsIn K mainGlobals x=some (some (.int i t))):Cst mg x (.int i):=⟨_,W.mg_of X G a,_,rfl⟩
theorem J3I {h:Heap} {x:Str} {a:y8} (X:K.In h) (G:h.Ns mainGlobals mg) (e:W.nsIn K mainGlobals x=some (some (.ref a))):Cst mg x (.ref a):=⟨_,W.mg_of X G e,rfl⟩
theorem Has.of {x:Str} {st:Stmt} {N ps:List Str} {k:Nat} {sp:Sp} (F:Fn K mg x st) (S:Z0l N ps (Z0i st))
  (hb:∀ (kV doc pm:Value) (an:Option y8) (cdv ct:Value) (us:List Value),us.length=ps.length→bindArgs (W.fnOf x x (Z1m st) (Z0Y st) (Z0i st) .none kV doc pm an cdv ct) ⟨us,[]⟩=pure (ps.zip us))
  (len:∀ vs H Q E,sp vs H Q E→vs.length=ps.length)
  (hbody:∀ (f:y8) (cdv:Value) (A:Around) (outer:List Env) (s:Shared) (H:Hp) (vs:List V) (Q:VK) (E:XK),Room k (A.deeper (envOfC x (Z0i st) s.heap.objs.size f cdv))→sp vs H Q E →
   ∃ t,PSs (cxOf CX0 P w K mg base N x (Z0i st) f cdv A outer s H E).nox (Z0Y st) t∧t { nx:=fun _ H'=>Q .non H',rt:=Q } (Z4D N vs) H):Has P w K mg base (k+1) x ps sp:=by
 obtain ⟨f,fd,F,m⟩:=F.ex
 exact ⟨f,fd,F.ok S len fun cdv=>hbody f cdv,F.binds hb,F.kp,m⟩
theorem J3U {fa:y8} {k:Nat} {x:Str} {st:Stmt} {sp:Sp} (F:Fn K mg "law" st) (hfa:mg "law"=some (.ref fa))
  (hb:∀ (kV doc pm:Value) (an:Option y8) (cdv ct u:Value),bindArgs (W.fnOf "law" "law" (Z1m st) (Z0Y st) (Z0i st) .none kV doc pm an cdv ct) ⟨[u],[]⟩=pure [(x,u)])
  (ok:∀ (f:y8) (fd:FuncData) (base:Heap),Fun K "law" "law" st f fd→FnOk P w K mg base CX0 k f fd [x] sp) :
  ∃ fd:FuncData,(∀ (s:Shared) (u:Value),BindsTo s fd ⟨[u],[]⟩ [(x,u)])∧∀ base:Heap,K.In base→base.Ns mainGlobals mg→FnOk P w K mg base CX0 k fa fd [x] sp:=by
 obtain ⟨f,fd,F,m⟩:=F.ex
 cases hfa.symm.trans m
 have F':=F
 obtain ⟨oc,od,kV,doc,pm,an,cdv,ct,osl,rfl,lk,hcd⟩:=F.ex
 exact ⟨_,fun s u=>.of_eq (hb kV doc pm an cdv ct u),fun base _ _=>ok _ _ base F'⟩
end
section
variable {X:Cx} {x:Str} {ps:List Str} {sp:Sp} {k j:Nat} {e:Expr} {es:List Expr} {t:TA} {p pos:Pos} {v:V}
theorem J4U (h:Has X.prog X.w X.K X.mg X.base k x ps sp) (hr:Room j X.A) (hk:k≤j) (hg:Gl X x) (ha:PA X (e::es) t) (hdb:(x == ("__debug__":Str))=false:=by decide)
  (he:starEach (e::es) X.env=(false,eval e X.env)::starEach es X.env:=by rfl) (hpl:(backTo pos (starEach es X.env)).any (·.1)=false:=by rfl):PE X (.Call (.Name x p) (e::es) [] pos) (J1I sp [] E0 t):=by
 obtain ⟨f,fd,F,b,kp,m⟩:=h.ex
 exact J3q F (hr.mono hk) hg m kp b .nil J0l ha hdb he hpl
theorem Z6c (h:Cst X.mg x v) (hg:Gl X x) (hd:(x == ("__debug__":Str))=false:=by decide):PE X (.Name x pos) (tC v):=by
 obtain ⟨u,m,r⟩:=h.ex
 exact J3J hg m r hd
def J6y (i j:Int):Prop:=j≠0∧-(2 ^ 64) < j∧j < 2 ^ 64
theorem Z7f:OpR X (binaryOp .FloorDiv) (rI J6y fun i j=>.int (i.fdiv j)):=opI fun i j _ _ _ _ _ hc q=>floordiv_int hc.1 q (.inl (PyProof.noPylong_of_log2 (by
 have h:j.natAbs < 2 ^ 64:=by have:=hc.2; omega
 have:=(Nat.log2_lt (by have:=hc.1; omega)).mpr h
 omega)))
end
theorem Z0f {H:Hp} {p:y8} (h:H p=none) (o:HO):Same H (upd H p o):=fun b u q=>by rw [Z0e (Z0m q h)]; exact q
theorem Z6k {K:y9} {a:y8} {g:TG} {tb:TS} {D:Ends} {σ:St} {H:Hp} (xs:List V) (Pv:Nat→St→Hp→Prop) (h0:Pv 0 σ H) (hl:∀ i σ H,i≤xs.length→Pv i σ H→SqL K H a xs)
  (hs:∀ i x σ H,xs[i]?=some x→Pv i σ H→g x σ H fun σ2 H2=>tb { D with nx:=Pv (i+1),ct:=Pv (i+1),bk:=D.nx } σ2 H2) (hd:∀ σ H,Pv xs.length σ H→D.nx σ H):J3B (Itl K a) g tb D σ H:=
 J1D Pv h0 hl hs hd
theorem Z1h {lo:Int} {n:Nat} {g:TG} {tb:TS} {D:Ends} {σ:St} {H:Hp} (Pv:Nat→St→Hp→Prop) (h0:Pv 0 σ H)
  (hs:∀ i σ H,i < n→Pv i σ H→g (.int (lo+i)) σ H fun σ2 H2=>tb { D with nx:=Pv (i+1),ct:=Pv (i+1),bk:=D.nx } σ2 H2) (hd:∀ σ H,Pv n σ H→D.nx σ H):J3B (Itr lo n) g tb D σ H:=
 Z9W Pv h0 hs hd
theorem SqL.same {K:y9} {H H':Hp} {a:y8} {xs:List V} (h:SqL K H a xs) (s:Same H H'):SqL K H' a xs:=s.seq h
theorem SqT.same {K:y9} {H H':Hp} {a:y8} {xs:List V} (h:SqT K H a xs) (e:Same H H'):SqT K H' a xs:=by
 rcases h with (h | ⟨o,h⟩) | h
 ·exact .inl (.inl (e _ _ h))
 ·exact .inl (.inr ⟨o,e _ _ h⟩)
 ·exact .inr h
section
variable {K:y9} {H:Hp} {Q:VK} {i:Int} {b:Bool} {x:Str}
theorem Z4B {v:V} {n:String} {t:Value} {k:Bool} (ht:∀ t',TyOf K H v t'→t'=t) (h0:TyOf K H v t) (hk:W.kitOne K t (.type n)=some k):rIsi K [v,.ty n] H Q=Q (.bl k) H:=by
 refine propext ⟨fun h=>?_,fun h=>⟨_,_,_,_,_,rfl,rfl,h0,hk,h⟩⟩
 obtain ⟨x,c,cv,t',b',e,hc,ty,k',q⟩:=h
 cases e
 cases hc
 rw [ht _ ty,hk] at k'
 cases k'
 exact q
theorem J3p:rIsi K [.int i,.ty "int"] H Q=Q (.bl true) H:=Z4B (fun _ h=>by cases h; rfl) (.int i) Z3G
theorem J2A:rIsi K [.int i,.ty "bool"] H Q=Q (.bl false) H:=Z4B (fun _ h=>by cases h; rfl) (.int i) Z6v
theorem Z5Z:W.kitOne K (.type "bool") (.type "int")=some true:=by with_unfolding_all rfl
theorem J4k:rIsi K [.bl b,.ty "int"] H Q=Q (.bl true) H:=Z4B (fun _ h=>by cases h; rfl) (.bl b) Z5Z
theorem J4f:rIsi K [.bl b,.ty "bool"] H Q=Q (.bl true) H:=Z4B (fun _ h=>by cases h; rfl) (.bl b) Z3G
theorem J2P:rIsi K [.str x,.ty "str"] H Q=Q (.bl true) H:=Z4B (fun _ h=>by cases h; rfl) (.str x) Z3G
theorem J4c {a:y8} {xs:List V} (h:H a=some (.tup xs)) (q:Q (.bl true) H):rIsi K [.ref a,.ty "tuple"] H Q:=⟨_,_,_,_,_,rfl,rfl,.tup h,Z3G,q⟩
end
section
theorem ix0 {α:Type} {x:α} {xs:List α}:atI (x::xs) 0=some x:=by simp [atI,ixN]
theorem ix1 {α:Type} {x y:α} {xs:List α}:atI (x::y::xs) 1=some y:=by
 have:((1:Int) < (xs.length:Int)+1+1):=by omega
 simp [atI,ixN,this]
end
theorem J7u {CX:CXT} {P:Program} {w:World} {K:y9} {mg:Str→Option Value} {base:Heap} {N:List Str} {qual:Str} {scope:Scope} {f:y8} {cd:Value} {A:Around} {outer:List Env} {s:Shared} {H:Hp} {E:XK}:(cxOf CX P w K mg base N qual scope f cd A outer s H E).K=K:=rfl
theorem J4E:bootBuiltins "len"=some (.builtin "len"):=by decide +kernel
theorem J2i:bootBuiltins "abs"=some (.builtin "abs"):=by decide +kernel
theorem J5E:bootBuiltins "max"=some (.builtin "max"):=by decide +kernel
theorem J2M:bootBuiltins "min"=some (.builtin "min"):=by decide +kernel
theorem Z9H:bootBuiltins "repr"=some (.builtin "repr"):=by decide +kernel
theorem Z3A:bootBuiltins "isinstance"=some (.builtin "isinstance"):=by decide +kernel
theorem J4o:bootBuiltins "int"=some (.type "int"):=by decide +kernel
theorem Z2w:bootBuiltins "list"=some (.type "list"):=by decide +kernel
theorem Z2p:bootBuiltins "tuple"=some (.type "tuple"):=by decide +kernel
section
variable {a c:Int} {b e:Bool} {x y:Str}
theorem J7W:scal (.non) (.non)=true:=rfl
theorem J7J:scal (.non) (.int a)=true:=rfl
theorem J7R:scal (.int a) (.non)=true:=rfl
theorem J7K:scal (.non) (.bl b)=true:=rfl
theorem J7U:scal (.bl b) (.non)=true:=rfl
theorem J7T:scal (.non) (.str x)=true:=rfl
theorem J7H:scal (.str x) (.non)=true:=rfl
theorem J7V:scal (.int a) (.int c)=true:=rfl
theorem J7L:scal (.bl b) (.bl e)=true:=rfl
theorem J7k:scal (.str x) (.str y)=true:=rfl
theorem J7S:scal (.int a) (.str x)=true:=rfl
theorem J7M:scal (.str x) (.int a)=true:=rfl
theorem J7X:scal (.bl b) (.str x)=true:=rfl
theorem J7O:scal (.str x) (.bl b)=true:=rfl
end
def Cx.block (X:Cx) (N:List Str) (scope:Scope) (cl:List (Str×y8)) (C:y8) (fp:List y8) (s:Shared) (H:Hp):Cx:=
 { X with N:=N,s₀:=s,H₀:=H,env:=compEnvC scope cl C X.env,outer:=X.stack,stack:=X.stack,ex:=fp,fn:=fun _=>false,pn:=[],xe:=fun _ _=>False }
structure BlockOk (X:Cx) (N:List Str) (nl:List (Option Nat)) (scope:Scope) (cl:List (Str×y8)):Prop where
 kind:scope.kind=.function
 nocell:∀ y∈scope.names,y.2≠.cell
 names:∀ y∈scope.names,y.2=.local→scope.names.lookup y.1=some .local
 clos:closureFor scope X.env=pure cl
 sub:∀ y c,cl.lookup y=some c→X.env.cells.lookup y=some c
 has:∀ y,scope.names.lookup y=some .free→∃ c,cl.lookup y=some c
 len:nl.length=N.length
 seen:∀ (i j:Nat) (y:Str),N[i]?=some y→nl[i]?=some (some j)→X.N[j]?=some y∧scope.names.lookup y=some .free∧(X.env.scope.names.lookup y=some .cell∨X.env.scope.names.lookup y=some .free)
def stOf (nl:List (Option Nat)) (σ:St):St:=nl.map fun o=>match o with
 | none=>none
 | some j=>(σ[j]?).join
theorem Z1x {x:Str} {k:NameKind}:∀ {l:List (Str×NameKind)},l.lookup x=some k→(x,k)∈l
 | [],h=>by simp at h
 | (n,q)::r,h=>by
  rw [qe0] at h
  cases e:x == n with
  | true=>
   rw [e] at h
   have:q=k:=by simpa using h
   have e':x=n:=by simpa using e
   rw [this,e']
   exact qb5
  | false=>
   rw [e] at h
   exact qb1 _ (Z1x h)
theorem Z2V {env:Env} {x:Str} {k:NameKind}:∀ {l:List (Str×NameKind)},
  (l.map fun (n,k)=>if (k == NameKind.free&&env.scope.kind == .function&&env.kindOf n == some .cell) then (n,NameKind.cell) else (n,k)).lookup x=some k →
   (l.lookup x=some k∨(k=.cell∧l.lookup x=some .free))
 | [],h=>by simp at h
 | (n,q)::r,h=>by
  rw [qd5] at h
  cases e:x == n with
  | true=>
   by_cases hc:(q == NameKind.free&&env.scope.kind == .function&&env.kindOf n == some .cell)=true
   ·simp only [hc,if_true,qe0,e] at h
    have hq:q=.free:=by
     rw [qf1,qf1] at hc
     simpa using hc.1.1
    refine .inr ⟨(by simpa using h.symm),?_⟩
    rw [qe0,e,hq]
   ·change qf4 x ((if (q == NameKind.free&&env.scope.kind == .function&&env.kindOf n == some .cell)=true then (n,NameKind.cell) else (n,q))::_)=some k at h
    rw [if_neg hc,qe0,e] at h
    refine .inl ?_
    rw [qe0,e]
    exact h
  | false=>
   have h':(r.map fun (n,k)=>if (k == NameKind.free&&env.scope.kind == .function&&env.kindOf n == some .cell) then (n,NameKind.cell) else (n,k)).lookup x=some k:=by
    by_cases hc:(q == NameKind.free&&env.scope.kind == .function&&env.kindOf n == some .cell)=true
    ·simpa only [hc,if_true,qe0,e] using h
    ·simpa only [hc,qe0,e,if_false,ql5] using h
   have ih:=Z2V (env:=env) h'
   rw [qe0,e]
   exact ih
theorem Z3X {env:Env} {x:Str}:∀ {l:List (Str×NameKind)},l.lookup x=some .free →
  (l.map fun (n,k)=>if (k == NameKind.free&&env.scope.kind == .function&&env.kindOf n == some .cell) then (n,NameKind.cell) else (n,k)).lookup x=some .cell ∨
  (l.map fun (n,k)=>if (k == NameKind.free&&env.scope.kind == .function&&env.kindOf n == some .cell) then (n,NameKind.cell) else (n,k)).lookup x=some .free
 | [],h=>by simp at h
 | (n,q)::r,h=>by
  rw [qd5]
  cases e:x == n with
  | true=>
   rw [qe0,e] at h
   have hq:q=.free:=by simpa using h
   by_cases hc:(q == NameKind.free&&env.scope.kind == .function&&env.kindOf n == some .cell)=true
   ·left; simp only [hc,if_true,qe0,e]
   ·right
    change qf4 x ((if (q == NameKind.free&&env.scope.kind == .function&&env.kindOf n == some .cell)=true then (n,NameKind.cell) else (n,q))::_)=some .free
    rw [if_neg hc,qe0,e,hq]
  | false=>
   rw [qe0,e] at h
   have ih:=Z3X (env:=env) (l:=r) h
   by_cases hc:(q == NameKind.free&&env.scope.kind == .function&&env.kindOf n == some .cell)=true
   ·simpa only [hc,if_true,qe0,e] using ih
   ·simpa only [hc,qe0,e,if_false,ql5] using ih
section
variable {X:Cx} {pins:List (y8×Obj)} {σ:St} {H:Hp} {s:Shared} {N:List Str} {nl:List (Option Nat)} {scope:Scope} {cl:List (Str×y8)} {fp:List y8}
theorem J0y (I:Inv X pins σ H s) (B:BlockOk X N nl scope cl) (hf:∀ b∈fp,FpOk X pins H b) (hob:∀ b∈fp,b < s.heap.objs.size) {C:y8} (hC:s.heap.objs.size≤C):(X.block N scope cl C fp s H).Ok:=by
 have stk:∀ b∈frs X.stack,b=X.env.locals∨b∈X.fs:=fun b hb=>qa8.mp (I.stkSub b hb)
 refine ⟨I.ok.mod,B.kind,I.ok.glob,I.ok.blt,hC,fun x y c h1 h2=>I.ok.inj x y c (B.sub x c h1) (B.sub y c h2),fun x hx=>?_,fun x c h=>(nomatch h),I.ok.hd,I.ok.frames,.inl rfl,fun b hb=>⟨?_,fun x c e=>?_⟩,
  I.bs,qa7 I.ok.bsz I.sz,fun b o e hb=>?_,fun b hb hm=>?_,I.stack,I.stkFree⟩
 ·have hx':(scope.names.map fun (n,k)=>if (k == NameKind.free&&X.env.scope.kind == .function&&X.env.kindOf n == some .cell) then (n,NameKind.cell) else (n,k)).lookup x=some .cell ∨
    (scope.names.map fun (n,k)=>if (k == NameKind.free&&X.env.scope.kind == .function&&X.env.kindOf n == some .cell) then (n,NameKind.cell) else (n,k)).lookup x=some .free:=hx
  rcases hx' with q | q
  ·rcases Z2V q with z | ⟨_,z⟩
   ·exact absurd rfl (B.nocell _ (Z1x z))
   ·exact B.has x z
  ·rcases Z2V q with z | ⟨z,_⟩
   ·exact B.has x z
   ·cases z
 ·exact qd2 (qc1 (hob b hb) hC)
 ·exact (hf b hb).2.2.2.2.1 x c (B.sub x c e)
 ·rcases (hf b hb).2.2.2.1 with z | z
  ·exact I.ok.noex b o e z
  ·exact absurd (qc1 (Heap.lt_size (I.ok.bs b o e).1) z) (qf3 _)
 ·rcases stk b hm with z | z
  ·exact (hf b hb).2.1 z
  ·exact (hf b hb).2.2.1 z
theorem J1Q {i:Nat} {v:V} (h:(stOf nl σ)[i]?=some (some v)):∃ j,nl[i]?=some (some j)∧σ[j]?=some (some v):=by
 unfold stOf at h
 rw [qc8] at h
 cases e:nl[i]? with
 | none=>rw [e] at h; cases h
 | some o=>
  rw [e] at h
  cases o with
  | none=>cases h
  | some j=>
   refine ⟨j,rfl,?_⟩
   have h':(σ[j]?).join=some v:=by simpa using h
   cases q:σ[j]? with
   | none=>rw [q] at h'; cases h'
   | some o'=>
    rw [q] at h'
    have:o'=some v:=by simpa using h'
    rw [this]
theorem Z7b (I:Inv X pins σ H s) (B:BlockOk X N nl scope cl) (hf:∀ b∈fp,FpOk X pins H b) (hob:∀ b∈fp,b < s.heap.objs.size) {C D:y8} (hD:D=s.heap.objs.size) (hC:C=s.heap.objs.size+1) {h1:Heap} {tk:Nat} {m:Str→Option Value} {n:Nat}
  (hk:∀ b o,s.heap.get? b=some o→h1.get? b=some o) (hl:h1.get? D=some { cls:=.type "list",data:=.seq ([]:List Value).toArray n }) (hn:h1.Ns C m) :
  Inv (X.block N scope cl C fp s H) [] (stOf nl σ) (upd H D (.lst [])) { s with heap:=h1,toks:=tk }:=by
 have hDn:H D=none:=I.hok.fresh (by rw [hD]; exact qa0 _)
 have hCD:C≠D:=by rw [hC,hD]; exact Nat.succ_ne_self _
 have hCn:H C=none:=I.hok.fresh (by rw [hC]; exact qe9 _)
 have cellD:∀ y c,cl.lookup y=some c→c≠D:=fun y c e z=>by
  obtain ⟨v,q⟩:=I.cell y c (B.sub y c e)
  exact absurd q.lt (by rw [z,hD]; exact qf3 _)
 refine ⟨J0y I B hf hob (by rw [hC]; exact qe9 _),rfl,I.bare,Un.laid hk (by rw [hD]; exact qa0 _) hDn,⟨m,hn,fun i y v e1 e2 _=>?_⟩,fun y c e=>?_,?_,fun y c e=>?_,fun p hp=>absurd hp (by simp [Cx.block]),?_,?_⟩
 ·obtain ⟨j,hj,hv⟩:=J1Q e2
  obtain ⟨x1,x2,x3⟩:=B.seen i j y e1 hj
  obtain ⟨m0,hm0,hl0⟩:=I.loc
  obtain ⟨u,r,l⟩:=hl0 j y v x1 hv (.inr x3)
  refine ⟨u,r,?_⟩
  rcases l with ⟨hk1,_⟩ | ⟨_,c,hc,z⟩
  ·have hk1':X.env.scope.names.lookup y=some .local:=hk1
   rcases x3 with q | q <;> (rw [hk1'] at q; cases q)
  ·refine .inr ⟨Z3X x2,c,?_,z.keeps hk⟩
   obtain ⟨c',hc'⟩:=B.has y x2
   have q:=B.sub y c' hc'
   rw [hc] at q
   cases q
   exact hc'
 ·obtain ⟨v,q⟩:=I.cell y c (B.sub y c e)
  exact ⟨v,q.keeps hk⟩
 ·show (upd H D (.lst [])) C=none
  rw [Z0e hCD]
  exact hCn
 ·rw [Z0e (cellD y c e)]
  exact I.freeC y c (B.sub y c e)
 ·exact I.hok.laid hk (by rw [hD]; exact qa0 _) ⟨qa4 _,[],n,.nil,hl⟩
 ·show (stOf nl σ).length=N.length
  unfold stOf
  rw [qa2,B.len]
theorem Z6j {C:y8} {σ':St} {H':Hp} {s':Shared} {h2:Heap} (I:Inv X pins σ H s) (hf:∀ b∈fp,FpOk X pins H b) (hC:s.heap.objs.size≤C) (J:Inv (X.block N scope cl C fp s H) [] σ' H' s') (hk:∀ b o,b≠C→s'.heap.get? b=some o→h2.get? b=some o) :
  Inv X pins σ H' { s' with heap:=h2 }:=by
 obtain ⟨hp,g,d,t,os⟩:=s'
 have ho:os=s.os:=J.os
 subst ho
 have hCn:H' C=none:=J.free
 have u:=J.base
 have ne:∀ b o,s.heap.get? b=some o→b≠C:=fun b o e=>qd2 (qc1 (Heap.lt_size e) hC)
 have u2:Un (frs X.stack) fp H H' s.heap h2:=
  ⟨fun b o e n hb hx=>hk b o (ne b o e) (u.keep b o e n hb hx),fun b o e n hb hx=>(let ⟨sl,q⟩:=u.slot b o e n hb hx; ⟨sl,hk b _ (ne b o e) q⟩),u.free,fun b o e hx=>(let ⟨o',q⟩:=u.there b o e hx; ⟨o',hk b o' (ne b o e) q⟩),u.tups,u.frzs,u.tbls⟩
 have hok2:HOk X.prog X.w H' h2:=fun b o e=>(J.hok b o e).stay (fun c v hc q=>hk c v (fun z=>by
  subst z
  rcases hc with z | z
  ·rw [← z,hCn] at e; cases e
  ·rw [hCn] at z; cases z) q) (fun _ q=>q) fun _ _ q=>q
 have z:=I.call (h':=h2) (g':=g) (d':=d) (t':=t) (ch:=fp) u2 hok2 J.bare fun b hb=>(let ⟨_,f1,_,f3,f4,f5⟩:=hf b hb; ⟨f3,f1,f4,f5⟩)
 exact z
end
def PQ (X:Cx) (tst:Env→Sem Bool) (t:TT):Prop:=
 ∀ (pins:List (y8×Obj)) (s:Shared) (σ:St) (H:Hp) (Q:Bool→Hp→Prop),Inv X pins σ H s→t σ H Q→wpAny (model X.prog X.w) X.A (tst X.env) (TP X pins σ Q) X.xe s
def Z3Y:TT:=fun _ H Q=>Q true H
theorem J0f {X:Cx}:PQ X (fun _=>pure true) Z3Y:=fun _ _ _ H _ I h=>wpAny_pure ⟨H,I,h⟩
theorem J2B {X:Cx} {c:Expr} {t:TT} (h:PT X c t):PQ X (fun env=>isTrue c env (eval c env)) t:=h
def Z3z (J:It) (g:TG) (tc:TT) (te:TE) (D:y8) (Q:VK) (σ0:St) (H0:Hp):Prop:=∃ W:Nat→Nat→St→Hp→Prop,(∃ m,W 0 m σ0 H0)∧∀ i m σ' H',W i m σ' H' →
 (J.stop i H'∧Q (.ref D) H')∨(J.go i H'∧∃ N:St→Hp→Prop,(∀ σ2 H2,N σ2 H2→∃ m',m' < m∧W (i+1) m' σ2 H2)∧∀ x H2,J.yld i H' x H2→g x σ' H2 fun σ3 H3=>tc σ3 H3 fun b H4=>
  if b=true then te σ3 H4 fun v H5=>∃ xs,H5 D=some (.lst xs)∧xs.length < sizeLine∧N σ3 (upd H5 D (.lst (xs++[v]))) else N σ3 H4)
def Z8m (wi:TI) (nl:List (Option Nat)) (g:TG) (tc:TT) (te:TE):TE:=fun σ H Q=>wi σ H fun J H1=>∀ D,H1 D=none→Z3z J g tc te D Q (stOf nl σ) (upd H1 D (.lst []))
theorem Z3F {X:Cx} {N:List Str} {nl:List (Option Nat)} {scope:Scope} {cl:List (Str×y8)} {elt tg iter:Expr} {ifs:List Expr} {pos:Pos} {wi:TI} {g:TG} {tst:Env→Sem Bool} {tc:TT} {te:TE} (hcalm:X.calm=true)
  (B:BlockOk X N nl scope cl) (hi:PI X tg iter wi) (hg:∀ C fp s H,PG (X.block N scope cl C fp s H) tg g) (ht:∀ C fp s H,PQ (X.block N scope cl C fp s H) tst tc) (he:∀ C fp s H,PE (X.block N scope cl C fp s H) elt te)
  (hturn:∀ (it acc:Value) (env:Env),compTurn (.ListComp elt [⟨tg,iter,ifs,0⟩] scope pos) 0 it acc env=(do
   standAt iter.pos
   match ← pyNext it with
   | none=>pure (.done .next)
   | some v=>
    letOwnedTupleGo tg it v
    assign tg env v
    let ok ← tst env
    if ok then (do
     (do let x ← eval elt env; let _ ← call (.builtin "list.append") [acc,x]; pure ())
     again (.compLoop (.ListComp elt [⟨tg,iter,ifs,0⟩] scope pos) 0 it acc env))
    else again (.compLoop (.ListComp elt [⟨tg,iter,ifs,0⟩] scope pos) 0 it acc env)))
  (hs:∀ x,foldedSetIterable iter X.env x=pure x) {pins:List (y8×Obj)} {s:Shared} {σ:St} {H:Hp} {Q:VK} (I:Inv X pins σ H s) (h:Z8m wi nl g tc te σ H Q) {use:Option (Value→Sem Unit)} {Q':Value→Shared→Prop}
  (hpost:∀ (D C:y8) (s' s2:Shared) (fp:List y8) (σ':St) (H' H2:Hp),Inv X pins σ H2 s2→(∀ b∈fp,FpOk X pins H2 b)→s2.heap.objs.size≤C→Inv (X.block N scope cl C fp s2 H2) [] σ' H' s'→Q (.ref D) H' →
   compPost (model X.prog X.w) X.A X.xe use Q' (.ref D) C (.ok .next) s')
  (hpos:Pos) :
  wpAny (model X.prog X.w) X.A (comprehension (.ListComp elt [⟨tg,iter,ifs,0⟩] scope pos) scope X.env hpos (newList []) false (eval iter X.env) use) Q' X.xe s:=by
 refine wpAny_comprehension_free (use:=use) rfl hs B.clos B.kind B.names ?_
 refine thn (hi pins s σ H _ I h) fun v s1 h1=>thn h1 fun itv s2 h2=>?_
 obtain ⟨it,fp,tn,J,H2,e,I2,T,st2,f2,q⟩:=h2
 subst e
 have hob:∀ b∈fp,b < s2.heap.objs.size:=fun b hb=>(let ⟨o,e,_⟩:=T.obj 0 _ st2 b hb; Heap.lt_size e)
 refine wpAny_newObj_type (wpAny_newFunctionEnv B.nocell (by intro y hy; simp at hy) (fun h1 hns hsb=>?_) B.kind)
 dsimp only at hns hsb ⊢
 generalize hD:s2.heap.objs.size=D at hns hsb ⊢
 have hC:(s2.heap.push { cls:=.type "list",dict:=none,data:=.seq ([]:List Value).toArray }).objs.size=s2.heap.objs.size+1:=by rw [Heap.size_push]
 generalize hC':(s2.heap.push { cls:=.type "list",dict:=none,data:=.seq ([]:List Value).toArray }).objs.size=C at hns hsb hC ⊢
 have hDC:D≠C:=by rw [hC,← hD]; exact (Nat.succ_ne_self _).symm
 have lt_ne:∀ b,b < s2.heap.objs.size→b≠C:=fun b hb=>by rw [hC]; exact qd2 (Nat.lt_succ_of_lt hb)
 have old:∀ b o,s2.heap.get? b=some o→h1.get? b=some o:=fun b o e=>
  hsb.extBut b o (lt_ne b (Heap.lt_size e)) (Heap.get?_push_of_some _ (Heap.get?_push_of_some _ e))
 have hl:h1.get? D=some { cls:=.type "list",data:=.seq ([]:List Value).toArray 0 }:=by
  refine hsb.extBut D _ hDC (Heap.get?_push_of_some _ ?_)
  rw [← hD]
  exact Heap.get?_push_size _ rfl
 have fresh:H2 D=none:=I2.hok.fresh (by rw [hD]; exact qa0 _)
 obtain ⟨W,⟨m0,w0⟩,turn⟩:=q D fresh
 have hCle:s2.heap.objs.size≤C:=by rw [hC]; exact qe9 _
 have stat:∀ {H':Hp},(∀ b∈fp,H' b=none)→∀ b∈fp,FpOk (X.block N scope cl C fp s2 H2) [] H' b:=fun hn b hb=>by
  obtain ⟨_,f1,f2',f3,f4,f5⟩:=f2 b hb
  refine ⟨hn b hb,lt_ne b (hob b hb),fun z=>?_,.inl hb,fun x c e=>f4 x c (B.sub x c e),fun p hp=>absurd hp (by simp [Cx.block])⟩
  rcases qa8.mp (I2.stkSub b z) with z | z
  ·exact f1 z
  ·exact f2' z
 have main:∀ s4:Shared,(∃ tk,s4={ s2 with heap:=h1,toks:=tk }) →
   codeAny (model X.prog X.w) X.A (.compLoop (.ListComp elt [⟨tg,iter,ifs,0⟩] scope pos) 0 (.ref it) (.ref D) (X.block N scope cl C fp s2 H2).env) (compPost (model X.prog X.w) X.A X.xe use Q' (.ref D) C) s4:=by
  rintro s4 ⟨tk,rfl⟩
  have I3:Inv (X.block N scope cl C fp s2 H2) [] (stOf nl σ) (upd H2 D (.lst [])) { s2 with heap:=h1,toks:=tk }:=Z7b I2 B f2 hob hD.symm hC old hl hns
  refine codeAny_loop rfl (fun n s'=>∃ i σ' H',Inv (X.block N scope cl C fp s2 H2) [] σ' H' s'∧tn i s'.heap∧(∀ b∈fp,H' b=none)∧W i n σ' H') (fun n s5 hI=>?_) m0
   ⟨0,stOf nl σ,_,I3,T.keep 0 _ _ st2 fun b hb o e=>old b o e,fun b hb=>by rw [Z0e (fun z=>absurd (hob b hb) (by rw [z,← hD]; exact qf3 _))]; exact (f2 b hb).1,w0⟩
  show wpAny _ X.A ((compTurn (.ListComp elt [⟨tg,iter,ifs,0⟩] scope pos) 0 (.ref it) (.ref D) (X.block N scope cl C fp s2 H2).env).onRaise (fun x=>do noteFrame x (X.block N scope cl C fp s2 H2).env; theTreesLotGoes x)) _ _ s5
  refine wpAny_noted ?_
  rw [hturn]
  obtain ⟨i,σ5,H5,I5,st5,fr5,w5⟩:=hI
  have quiet:∀ {α:Type} {t:Sem α} {R:α→Shared→Prop} {E':Value→Shared→Prop} {s':Shared},wpAny (model X.prog X.w) X.A t R (fun _ _=>False) s'→wpAny (model X.prog X.w) X.A t R E' s':=fun hw=>wpAny_mono hw (fun _ _ z=>z) fun _ _ z=>z.elim
  refine wpAny_bind (wpAny_standAt ?_)
  rcases turn i n σ5 H5 w5 with ⟨stop,qn⟩ | ⟨go,Nx,hN,step⟩
  ·refine wpAny_bind (quiet (thn (T.done (X.block N scope cl C fp s2 H2) rfl rfl rfl hcalm i [] s5 σ5 H5 (fun _ _=>False) I5 (stat fr5) st5 stop) fun r s6 ⟨hr,I6⟩=>?_))
   subst hr
   exact quiet (wpAny_pure (hpost D C s6 s2 fp σ5 H5 H2 I2 f2 hCle I6 qn))
  ·refine wpAny_bind (quiet (thn (T.item (X.block N scope cl C fp s2 H2) rfl rfl rfl hcalm i [] s5 σ5 H5 (fun _ _=>False) I5 (stat fr5) st5 go) fun r s6 ⟨u,hr,h6⟩=>?_))
   subst hr
   refine wpAny_bind (quiet (thn h6 fun _ s7 ⟨x,H7,I7,r7,y7,st7,fr7⟩=>?_))
   have I7':=I7.pinned (stat fr7) (T.obj _ _ st7)
   have again':∀ {σ8:St} {H8:Hp} {s8:Shared},Inv (X.block N scope cl C fp s2 H2) ([]++Z6b fp s7.heap) σ8 H8 s8→Nx σ8 H8→∃ m,m < n∧∃ i σ' H',Inv (X.block N scope cl C fp s2 H2) [] σ' H' s8∧tn i s8.heap∧(∀ b∈fp,H' b=none)∧W i m σ' H':=fun {σ8 H8 s8} I8 n8=>by
    obtain ⟨m',hm,w8⟩:=hN σ8 H8 n8
    refine ⟨m',hm,i+1,σ8,H8,I8.unpinned,T.keep _ _ _ st7 fun b hb o e=>(I8.pin (b,o) (qe8 _ (qe8 _ (Z2Z hb e)))).1,fun b hb=>?_,w8⟩
    obtain ⟨o,e,_⟩:=T.obj _ _ st7 b hb
    exact (I8.pin (b,o) (qe8 _ (qe8 _ (Z2Z hb e)))).2.1
   refine wpAny_bind (quiet (thn (hg C fp s2 H2 _ s7 σ5 H7 x u _ I7' r7 (step x H7 y7)) fun _ s8 ⟨σ8,H8,I8,q8⟩=>?_))
   refine wpAny_bind (quiet (thn (ht C fp s2 H2 _ s8 σ8 H8 _ I8 q8) fun b s9 ⟨H9,I9,q9⟩=>?_))
   cases b with
   | false=>exact quiet (wpAny_pure ⟨rfl,again' I9 q9⟩)
   | true=>
    refine wpAny_bind (wpAny_bind (quiet (thn (he C fp s2 H2 _ s9 σ8 H9 _ I9 q9) fun vy s10 hz_=>?_)))
    obtain ⟨y,H10,I10,r10,xs,e10,z10,n10⟩:=hz_
    refine wpAny_bind (quiet (thn (Z0q _ s10 σ8 H10 (.ref D) [y] (.ref D) [vy] (fun _ H'=>Nx σ8 H') I10 rfl (.cons r10 .nil) ⟨D,xs,y,rfl,rfl,e10,z10,n10⟩) fun _ s11 ⟨_,H11,I11,_,q11⟩=>?_))
    exact wpAny_pure (wpAny_pure ⟨rfl,again' I11 q11⟩)
 exact codeAny_compStart_list (main _ ⟨_,rfl⟩) (T.self _ 0 _ _ _ (T.keep 0 _ _ st2 fun b hb o e=>old b o e) (main _ ⟨_,rfl⟩))
section
variable {X:Cx} {N:List Str} {nl:List (Option Nat)} {scope:Scope} {cl:List (Str×y8)} {elt tg iter:Expr} {pos:Pos} {wi:TI} {g:TG} {tc:TT} {te:TE}
theorem Z7h (it acc:Value) (env:Env):compTurn (.ListComp elt [⟨tg,iter,[],0⟩] scope pos) 0 it acc env=(do
   standAt iter.pos
   match ← pyNext it with
   | none=>pure (.done .next)
   | some v=>
    letOwnedTupleGo tg it v
    assign tg env v
    let ok ← (fun _=>pure true:Env→Sem Bool) env
    if ok then (do
     (do let x ← eval elt env; let _ ← call (.builtin "list.append") [acc,x]; pure ())
     again (.compLoop (.ListComp elt [⟨tg,iter,[],0⟩] scope pos) 0 it acc env))
    else again (.compLoop (.ListComp elt [⟨tg,iter,[],0⟩] scope pos) 0 it acc env)):=by rfl
theorem Z8c {c:Expr} (it acc:Value) (env:Env):compTurn (.ListComp elt [⟨tg,iter,[c],0⟩] scope pos) 0 it acc env=(do
   standAt iter.pos
   match ← pyNext it with
   | none=>pure (.done .next)
   | some v=>
    letOwnedTupleGo tg it v
    assign tg env v
    let ok ← (fun env=>isTrue c env (eval c env):Env→Sem Bool) env
    if ok then (do
     (do let x ← eval elt env; let _ ← call (.builtin "list.append") [acc,x]; pure ())
     again (.compLoop (.ListComp elt [⟨tg,iter,[c],0⟩] scope pos) 0 it acc env))
    else again (.compLoop (.ListComp elt [⟨tg,iter,[c],0⟩] scope pos) 0 it acc env)):=by
 unfold compTurn
 simp
 rfl
theorem Z5S {pins:List (y8×Obj)} {σ:St} {Q:VK} (D C:y8) (s' s2:Shared) (fp:List y8) (σ':St) (H' H2:Hp) (I2:Inv X pins σ H2 s2) (f2:∀ b∈fp,FpOk X pins H2 b) (hC:s2.heap.objs.size≤C) (J:Inv (X.block N scope cl C fp s2 H2) [] σ' H' s') (q:Q (.ref D) H') :
  compPost (model X.prog X.w) X.A X.xe none (EP X pins σ Q) (.ref D) C (.ok .next) s':=by
 obtain ⟨m,hn,_⟩:=J.loc
 exact ⟨m,hn,fun h' sb=>⟨.ref D,H',Z6j I2 f2 hC J fun b o hb e=>sb.extBut b o hb e,rfl,q⟩⟩
theorem Z4g (hcalm:X.calm=true) (B:BlockOk X N nl scope cl) (hi:PI X tg iter wi) (hg:∀ C fp s H,PG (X.block N scope cl C fp s H) tg g) (he:∀ C fp s H,PE (X.block N scope cl C fp s H) elt te) (hs:∀ x,foldedSetIterable iter X.env x=pure x:=by intro _; rfl) :
  PE X (.ListComp elt [⟨tg,iter,[],0⟩] scope pos) (Z8m wi nl g Z3Y te):=by
 intro pins s σ H Q I h
 rw [eval_ListComp]
 exact Z3F (tst:=fun _=>pure true) hcalm B hi hg (fun _ _ _ _=>J0f) he Z7h hs I h Z5S _
theorem Z4h {c:Expr} (hcalm:X.calm=true) (B:BlockOk X N nl scope cl) (hi:PI X tg iter wi) (hg:∀ C fp s H,PG (X.block N scope cl C fp s H) tg g) (hc:∀ C fp s H,PT (X.block N scope cl C fp s H) c tc) (he:∀ C fp s H,PE (X.block N scope cl C fp s H) elt te)
  (hs:∀ x,foldedSetIterable iter X.env x=pure x:=by intro _; rfl):PE X (.ListComp elt [⟨tg,iter,[c],0⟩] scope pos) (Z8m wi nl g tc te):=by
 intro pins s σ H Q I h
 rw [eval_ListComp]
 exact Z3F (tst:=fun env=>isTrue c env (eval c env)) hcalm B hi hg (fun C fp s H=>J2B (hc C fp s H)) he Z8c hs I h Z5S _
end
def Its (x:Str):It:=⟨fun i _=>i < x.cps.size,fun i H v H'=>H'=H∧∃ c,x.cps[i]?=some c∧v=.str ⟨#[c]⟩,fun i _=>i=x.cps.size⟩
theorem BlockOk.plain {X:Cx} {N:List Str} {scope:Scope} (kind:scope.kind=.function) (nocell:∀ y∈scope.names,y.2≠.cell) (names:∀ y∈scope.names,y.2=.local→scope.names.lookup y.1=some .local) (nofree:∀ y∈scope.names,y.2≠.free) :
  BlockOk X N (N.map fun _=>none) scope [] where
 kind:=kind
 nocell:=nocell
 names:=names
 clos:=closureFor_none nofree
 sub:=fun y c h=>by simp at h
 has:=fun y h=>absurd rfl (nofree _ (Z1x h))
 len:=by simp
 seen:=fun i j y _ h=>by
  rw [qc8] at h
  cases q:N[i]? with
  | none=>rw [q] at h; cases h
  | some z=>rw [q] at h; cases h
theorem Z5J {J:It} {g:TG} {tc:TT} {te:TE} {Q:VK} {H:Hp} {D:y8} {σ0:St} (ys:List V) (p:V→Bool) (f:V→V) (Pσ:St→Prop) (Rσ:V→St→Prop) (h0:Pσ σ0)
  (hgo:∀ i l,i < ys.length→J.go i (upd H D (.lst l))) (hstop:∀ l,J.stop ys.length (upd H D (.lst l)))
  (hy:∀ i l x H',i < ys.length→J.yld i (upd H D (.lst l)) x H'→H'=upd H D (.lst l)∧ys[i]?=some x)
  (hg:∀ x∈ys,∀ σ' H' K,Pσ σ'→(∀ σ3,Pσ σ3→Rσ x σ3→K σ3 H')→g x σ' H' K)
  (hc:∀ x∈ys,∀ σ' l K,Rσ x σ'→K (p x) (upd H D (.lst l))→tc σ' (upd H D (.lst l)) K)
  (he:∀ x∈ys,p x=true→∀ σ' l K,Rσ x σ'→K (f x) (upd H D (.lst l))→te σ' (upd H D (.lst l)) K)
  (hz:ys.length≤sizeLine) (hQ:Q (.ref D) (upd H D (.lst ((ys.filter p).map f)))) :
  Z3z J g tc te D Q σ0 (upd H D (.lst [])):=by
 refine ⟨fun i m σ' H'=>m=ys.length - i∧i≤ys.length∧Pσ σ'∧H'=upd H D (.lst (((ys.take i).filter p).map f)),⟨ys.length,by simp,qa4 _,h0,by simp⟩,?_⟩
 rintro i m σ' H' ⟨rfl,hi,hP,rfl⟩
 by_cases hlt:i < ys.length
 ·refine .inr ⟨hgo i _ hlt,fun σ2 H2=>Pσ σ2∧H2=upd H D (.lst (((ys.take (i+1)).filter p).map f)),fun σ2 H2 ⟨a,b⟩=>⟨ys.length - (i+1),qR,rfl,hlt,a,b⟩,fun x H2 hx=>?_⟩
  obtain ⟨eH,hgx⟩:=hy i _ x H2 hlt hx
  subst eH
  have hm:x∈ys:=qb9 hgx
  have e1:ys.take (i+1)=ys.take i++[x]:=by rw [List.take_add_one,hgx]; rfl
  refine hg x hm σ' _ _ hP fun σ3 hP3 hR=>hc x hm σ3 _ _ hR ?_
  cases hp:p x with
  | true=>
   refine iteT (he x hm hp σ3 _ _ hR ⟨_,Z0d,?_,hP3,?_⟩)
   ·rw [qa2]
    have a1:=qf5 p (ys.take i)
    have a2:(ys.take i).length=i:=by rw [qc4]; omega
    omega
   ·rw [Z6I,e1,ql6,qe1]
    simp [hp]
  | false=>
   refine iteF ⟨hP3,?_⟩
   rw [e1,ql6,qe1]
   simp [hp]
 ·have e:i=ys.length:=by omega
  subst e
  refine .inl ⟨hstop _,?_⟩
  rw [qj5]
  exact hQ
end L2
end
section
namespace PySem
open Sem (wp)
open Builtin
theorem Z4b:fillsNumberSlot (.type "tuple") "mul"=pure false:=
 fillsNumberSlot_seq (id:="tuple.__mul__") (r:=some (.builtin "tuple.__rmul__")) F.slot_tuple_mul.lookup qP F.slot_tuple_rmul.lookup qP
theorem Z5M:seqRepeat? (.type "tuple")=pure (some (.builtin "tuple.__mul__")):=by
 unfold seqRepeat?
 rw [seqSlot_of (T:="tuple") (name:="__mul__") (id:="tuple.__mul__") F.slot_tuple_mul.lookup qP,seqSlot_of (T:="tuple") (name:="__rmul__") (id:="tuple.__rmul__") F.slot_tuple_rmul.lookup qP]
 rfl
theorem Z4Q (a:Int) (t:Tok) (l:y8) (items:Array Value) (n:Nat) (dd:Option y8) (sl:Array (Option Value)) :
  Meets (Builtin.«int.__rmul__» ⟨[.int a t,.ref l],[]⟩) (fun _ R s=>s.heap.get? l=some { cls:=.type "tuple",dict:=dd,data:=.seq items n,slots:=sl }∧R (.ok (.ret Value.notImplemented)) s):=
 .of_wp fun prog w A R s h=>by obtain ⟨hp,g,d,tk,os⟩:=s; obtain ⟨hl,h⟩:=h; wp_walk; exact ⟨_,rfl,h⟩
end PySem
namespace L2
open PySem PySem.Spec PyProof.Rows PySem.SeqAt
open AutoSeq1 (wpAny_loadPart')
theorem Z8x (l:y8) (items:Array Value) (n:Nat) (dd:Option y8) (sl:Array (Option Value)) (u:Tok) :
  Meets (Builtin.«tuple.__mul__» ⟨[.ref l,.int 1 u],[]⟩) (fun _ R s=>s.heap.get? l=some { cls:=.type "tuple",dict:=dd,data:=.seq items n,slots:=sl }∧R (.ok (.ret (Value.ref l))) s):=
 .of_wp fun prog w A R s h=>by obtain ⟨hp,g,d,tk,os⟩:=s; obtain ⟨hl,h⟩:=h; have f1:=AutoSeq1.idx_int; have f2:=AutoSeq1.sub_tuple_tuple; wp_walk using wpAny_loadPart' hl; exact ⟨_,rfl,h⟩
theorem Z8G (l:y8) (items:Array Value) (n:Nat) (dd:Option y8) (sl:Array (Option Value)) (x:Int) (u:Tok) (hc0:¬(decide (x < -(2 ^ 63)) || decide (x ≥ 2 ^ 63))=true) (hc1:¬(items.isEmpty || x == 1)=true) (hc2:¬ (decide (x≤0) || items.isEmpty)=true) (hc3:¬ ((items.size:Nat):Int) * x > (2 ^ 63 - 1) / 8) (hc4:¬ Builtin.Tuple.tupleTooMany (((items.size:Nat):Int) * x)=true) :
  Meets (Builtin.«tuple.__mul__» ⟨[.ref l,.int x u],[]⟩) (fun _ R s=>s.heap.get? l=some { cls:=.type "tuple",dict:=dd,data:=.seq items n,slots:=sl }∧R (.ok (.ret (Value.ref s.heap.objs.size))) { s with heap:=s.heap.push { cls:=Value.type "tuple",data:=Data.seq (qh2 (fun x1 x2=>x1++x2) #[] (qa3 x.toNat items)) },toks:=s.toks }):=
 .of_wp fun prog w A R s h=>by
  obtain ⟨hp,g,d,tk,os⟩:=s; obtain ⟨hl,h⟩:=h
  have f1:=AutoSeq1.idx_int
  have f2:=AutoSeq1.sub_tuple_tuple
  have hz:(qh2 (fun x1 x2=>x1++x2) #[] (qa3 x.toNat items)).size≤sizeLine:=by
   rw [AutoListH.size_joined]
   have h4:¬ ((items.size:Int) * x > (sizeLine:Int)):=fun z=>hc4 (decide_eq_true z)
   have hx:0≤x:=by
    by_cases z:0≤x
    ·exact z
    ·exact absurd (by rw [decide_eq_true (show x≤0 by omega)]; rfl) hc2
   have e:((x.toNat * items.size:Nat):Int)=(items.size:Int) * x:=by
    rw [Int.natCast_mul,qj6 hx,Int.mul_comm]
   have:(#[]:Array Value).size=0:=rfl
   omega
  wp_walk using wpAny_loadPart' hl
  rw [if_neg hc0]
  wp_walk using wpAny_loadPart' hl
  rw [if_neg hc3]
  wp_walk using wpAny_loadPart' hl
  exact ⟨_,rfl,h⟩
theorem Z8u (l:y8) (items:Array Value) (n:Nat) (dd:Option y8) (sl:Array (Option Value)) (x:Int) (u:Tok) (hc0:¬(decide (x < -(2 ^ 63)) || decide (x ≥ 2 ^ 63))=true) (hc1:¬(items.isEmpty || x == 1)=true) (hc2:(decide (x≤0) || items.isEmpty)=true) :
  Meets (Builtin.«tuple.__mul__» ⟨[.ref l,.int x u],[]⟩) (fun _ R s=>s.heap.get? l=some { cls:=.type "tuple",dict:=dd,data:=.seq items n,slots:=sl }∧R (.ok (.ret (Value.ref s.heap.objs.size))) { s with heap:=s.heap.push { cls:=Value.type "tuple",data:=Data.seq #[] },toks:=s.toks }):=
 .of_wp fun prog w A R s h=>by
  obtain ⟨hp,g,d,tk,os⟩:=s; obtain ⟨hl,h⟩:=h
  have f1:=AutoSeq1.idx_int
  have f2:=AutoSeq1.sub_tuple_tuple
  wp_walk using wpAny_loadPart' hl
  rw [if_neg hc0]
  wp_walk using wpAny_loadPart' hl
  exact ⟨_,rfl,h⟩
section
variable {X:Cx}
def Z2k (K:y9):R2:=fun x y H Q=>∃ a b xs ys,x=.ref a∧y=.ref b∧SqT K H a xs∧SqT K H b ys∧xs.length+ys.length≤sizeLine∧∀ p H',Same H H'→SqT K H' p (xs++ys)→Q (.ref p) H'
theorem J1d {prog:Program} {w:World} {A:Around} {E:Value→Shared→Prop} {s:Shared} {t b:y8} {ws:List Value} {Q:Value→Shared→Prop} (ht:IsTup s.heap t #[]) (hb:IsTup s.heap b ws.toArray) (h:Q (.ref b) s):wpAny (model prog w) A (binaryOp .Add (.ref t) (.ref b)) Q E s:=by
 obtain ⟨⟨cls,dd,data,sl⟩,ho,hc,n,hd⟩:=id ht
 obtain ⟨⟨cls2,dd2,data2,sl2⟩,ho2,hc2,n2,hd2⟩:=id hb
 simp only at hc hd hc2 hd2
 subst hc hd hc2 hd2
 exact concat_meets ⟨_,ho,rfl⟩ ⟨_,ho2,rfl⟩ noFill_tuple_add seq_tuple_add ql2 ql3 (ql4 _ _)
  (tuple_addW0 t b #[] ws.toArray n n2 dd dd2 sl sl2 (by simp)) ⟨ho,ho2,h⟩
theorem Z0T:OpR X (binaryOp .Add) (Z2k X.K):=by
 intro pins s σ H x y v u Q I rx ry h
 obtain ⟨a,b,xs,ys,rfl,rfl,hx,hy,hz,q⟩:=h
 by_cases he:xs=[]
 ·subst he
  obtain rfl:v=Value.ref a:=rx
  obtain rfl:u=Value.ref b:=ry
  obtain ⟨its,r,ht,_⟩:=I.tuple hx
  obtain ⟨its2,r2,ht2,_⟩:=I.tuple hy
  cases r
  exact J1d ht ht2 ⟨.ref b,H,I,rfl,q b H (Same.refl H) (by simpa using hy)⟩
 ·refine J3b pins s σ H _ _ v u Q I rx ry ⟨a,b,xs,ys,rfl,rfl,hx,hy,he,hz,fun e=>?_,fun e p hp=>?_⟩
  ·subst e
   exact q a H (Same.refl H) (by simpa using hx)
  ·exact q p _ (fun c o hc=>by rw [Z0e (Z0m hc hp)]; exact hc) (SqT.of Z0d)
def J1w (K:y9):R2:=fun x y H Q=>∃ a k xs,x=.ref a∧y=.int k∧SqT K H a xs∧xs≠[]∧-(2 ^ 63)≤k∧k < 2 ^ 63∧xs.length * k.toNat≤sizeLine∧∀ p H',Same H H'→SqT K H' p (qa3 k.toNat xs).flatten→Q (.ref p) H'
theorem Z6Y:OpR X (binaryOp .Mult) (J1w X.K):=by
 intro pins s σ H x y v u Q I rx ry h
 obtain ⟨a,k,xs,rfl,rfl,hx,hne,h1,h2,hz,q⟩:=h
 obtain rfl:v=Value.ref a:=rx
 obtain ⟨t,rfl⟩:=ry
 obtain ⟨its,r,ht,_⟩:=I.tuple hx
 have hl:xs.length=its.length:=r.length
 have hi:its≠[]:=fun z=>hne (by cases xs with | nil=>rfl | cons _ _=>rw [z] at hl; cases hl)
 have hie:its.toArray.isEmpty=false:=by cases its with | nil=>exact absurd rfl hi | cons _ _=>rfl
 obtain ⟨⟨cls,dd,data,sl⟩,ho,hc,n,hd⟩:=id ht
 simp only at hc hd
 subst hc hd
 have hc0:¬(decide (k < -(2 ^ 63)) || decide (k ≥ 2 ^ 63))=true:=by
  rw [Bool.or_eq_true,decide_eq_true_eq,decide_eq_true_eq]; omega
 refine wpAny_binaryOp_repeat_ref (T:="tuple") (U:="int") qQ ⟨_,ho,rfl⟩ (fun s'=>typeIs_int s' k t) Z4b F.fills_int_mul F.slot_int_rmul Z5M F.slot_int_index.lookup
  (call_meets F.slot_int_rmul (typeIs_int s k t) F.entry_int_rmul (F.args_int_rmul_2 _ _) (Z4Q k t a its.toArray n dd sl) ⟨ho,rfl,⟨_,ho,rfl⟩,?_⟩)
 by_cases e1:k=1
 ·subst e1
  refine call_meets F.slot_tuple_mul ⟨_,ho,rfl⟩ F.entry_tuple_mul (F.args_tuple_mul_2 _ _) (Z8x a its.toArray n dd sl t) ⟨ho,?_⟩
  exact ⟨.ref a,H,I,rfl,q a H (Same.refl H) (by simpa using hx)⟩
 have hc1:¬(its.toArray.isEmpty || k == 1)=true:=by
  rw [hie,Bool.false_or,beq_iff_eq]; exact e1
 by_cases e0:k≤0
 ·refine call_meets F.slot_tuple_mul ⟨_,ho,rfl⟩ F.entry_tuple_mul (F.args_tuple_mul_2 _ _) (Z8u a its.toArray n dd sl k t hc0 hc1 (by rw [decide_eq_true e0]; rfl)) ⟨ho,?_⟩
  have ez:k.toNat=0:=by omega
  refine ⟨.ref s.heap.objs.size,_,I.laid (t':=s.toks) (o:=.tup []) (fun b ob q=>Heap.get?_push_of_some _ q) (qa0 _) ⟨⟨qa4 _,Z5j⟩,[],.nil,IsTup.new _ _⟩,rfl,q _ _ (fun c o hc=>by rw [Z0e (Z0m hc (I.hok.fresh (qa0 _)))]; exact hc) ?_⟩
  rw [ez]
  exact SqT.of Z0d
 ·have hkn:(k.toNat:Int)=k:=qj6 qR
  have em:((its.toArray.size:Nat):Int) * k=((xs.length * k.toNat:Nat):Int):=by rw [qb0,← hl,Int.natCast_mul,hkn]
  have hsl:=sizeLine_eq
  refine call_meets F.slot_tuple_mul ⟨_,ho,rfl⟩ F.entry_tuple_mul (F.args_tuple_mul_2 _ _) (Z8G a its.toArray n dd sl k t hc0 hc1 (by rw [decide_eq_false e0,hie]; decide) (by rw [em]; rw [hsl] at hz; omega) (fun z=>by have z':=of_decide_eq_true z; rw [em] at z'; omega)) ⟨ho,?_⟩
  have f0:qh2 (fun x1 x2=>x1++x2) #[] (qa3 k.toNat its.toArray)=(qa3 k.toNat its).flatten.toArray:=by
   have:=Z4w its k.toNat []
   rw [qj4] at this
   exact this
  rw [f0]
  refine ⟨.ref s.heap.objs.size,_,I.laid (t':=s.toks) (o:=.tup (qa3 k.toNat xs).flatten) (fun b ob q=>Heap.get?_push_of_some _ q) (qa0 _) ⟨⟨by rw [Z9I,Nat.mul_comm]; exact hz,Z5j⟩,_,r.rep k.toNat,IsTup.new _ _⟩,rfl,q _ _ (fun c o hc=>by rw [Z0e (Z0m hc (I.hok.fresh (qa0 _)))]; exact hc) (SqT.of Z0d)⟩
end
open HT
section
variable {prog:Program} {w:World} {A:Around} {E:Value→Shared→Prop} {s:Shared}
theorem Z3t {t sl:y8} {items:Array Value} {vl vu:Value} {lo hi:Option Int} {Q:Value→Shared→Prop} (ht:IsTup s.heap t items) (hs:s.heap.IsSliceOf sl vl vu .none) (pl:IsPart vl lo) (pu:IsPart vu hi)
  (hw:sIx items.size 0 lo=0∧sIx items.size items.size hi=items.size) (h:Q (.ref t) s):wpAny (model prog w) A (getItem (.ref t) (.ref sl)) Q E s:=by
 obtain ⟨os,hos,hcs,hds⟩:=id hs
 have hTs:s.TypeIs (.ref sl) "slice":=⟨os,hos,hcs⟩
 unfold getItem
 try with_reducible refine wpAny_holding ?_
 first | refine wpAny_bind (wpAny_pure ?_) | skip
 refine wpAny_bind (wpAny_sequenceKey ht.typeIs qQ ?_)
 refine wpAny_bind (wpAny_callSpecial?_slot (name:=Str.ofString "__getitem__") ht.typeIs PyProof.Rows.slot_tuple_getitem
  (wpAny_call_entry PyProof.Rows.slot_tuple_getitem ht.typeIs entry_tuple_getitem ?_ (args_tuple_getitem _ _)))
 show wpAny _ _ (Builtin.Tuple.tupleItemsOf (.ref t) >>= _) _ _ s
 refine wpAny_bind (tupleItemsOf_ ht ?_)
 refine wpAny_bind (wpAny_typeOf hTs ?_)
 rw [if_pos qQ]
 refine wpAny_bind (Z2O hs pl pu ?_)
 have hyes:(((sIx items.size 0 lo:Nat):Int) == 0&&(1:Int) == 1&&(sIx items.size items.size hi - sIx items.size 0 lo) == items.size)=true:=by
  rw [hw.1,hw.2]; simp
 show wpAny _ _ (if (((sIx items.size 0 lo:Nat):Int) == 0&&(1:Int) == 1&&(sIx items.size items.size hi - sIx items.size 0 lo) == items.size)=true then _ else _) _ _ s
 rw [if_pos hyes]
 refine wpAny_bind ?_
 show wpAny _ _ ((typeOf (.ref t)) >>= _) _ _ s
 refine wpAny_bind (wpAny_typeOf ht.typeIs (wpAny_pure ?_))
 rw [if_pos qQ]
 first
  | exact wpAny_bind (wpAny_rule (wpAny_pure ⟨_,rfl,wpAny_pure h⟩))
  | exact wpAny_bind (wpAny_pure (wpAny_pure ⟨_,rfl,wpAny_pure h⟩))
  | exact wpAny_pure ⟨_,rfl,wpAny_pure h⟩
end
section
variable {X:Cx}
def rSlA (K:y9):V→Option Int→Option Int→Hp→VK→Prop:=fun x lo hi H Q=>∃ a xs,x=.ref a∧SqT K H a xs∧∀ p H',Same H H'→SqT K H' p (cutV xs lo hi)→Q (.ref p) H'
theorem Z0P:SlR X (rSlA X.K):=by
 intro pins s σ H x v vl vu lo hi sl Q I rx hs pl pu h
 obtain ⟨a,xs,rfl,hx,q⟩:=h
 by_cases hw:HT.sIx xs.length 0 lo=0∧HT.sIx xs.length xs.length hi=xs.length
 ·obtain rfl:v=Value.ref a:=rx
  obtain ⟨its,r,ht,hz⟩:=I.tuple hx
  have hlen:its.toArray.size=xs.length:=by rw [qb0]; exact r.length.symm
  refine ⟨"tuple",_,PyProof.Rows.slot_tuple_getitem.lookup,ht.typeIs,?_⟩
  refine Z3t ht hs pl pu (by rw [hlen]; exact hw) ⟨.ref a,H,I,rfl,q a H (Same.refl H) ?_⟩
  have e:cutV xs lo hi=xs:=by
   unfold cutV
   rw [hw.1,hw.2,qg1,qg2,qj5]
  rw [e]
  exact hx
 ·exact J4B pins s σ H _ v vl vu lo hi sl Q I rx hs pl pu ⟨a,xs,rfl,hx,hw,fun p hp=>q p _ (fun c o hc=>by rw [Z0e (Z0m hc hp)]; exact hc) (SqT.of Z0d)⟩
end
end L2
end
section
namespace L2
open PySem PySem.Spec PyProof.Rows PySem.SeqAt
theorem J1M {K:y9} {H H':Hp} {a:y8} {xs:List V} (h:SqT K H a xs) (e:Same H H'):SqT K H' a xs:=by
 rcases h with (h | ⟨o,h⟩) | h
 ·exact .inl (.inl (e _ _ h))
 ·exact .inl (.inr ⟨o,e _ _ h⟩)
 ·exact .inr h
mutual
theorem RdD.same {K:y9} {H H':Hp} (e:Same H H'):∀ {v:V} {d:PyData},RdD K H v d→RdD K H' v d
 | _,_,.non=>.non
 | _,_,.bl b=>.bl b
 | _,_,.int i=>.int i
 | _,_,.str x=>.str x
 | _,_,.lst hq hs=>.lst (e.seq hq) (RdDs.same e hs)
 | _,_,.tup hq hs=>.tup (J1M hq e) (RdDs.same e hs)
theorem RdDs.same {K:y9} {H H':Hp} (e:Same H H'):∀ {v:List V} {d:List PyData},RdDs K H v d→RdDs K H' v d
 | _,_,.nil=>.nil
 | _,_,.cons h hs=>.cons (RdD.same e h) (RdDs.same e hs)
end
def Z8e (K:y9):List V→Hp→VK→Prop:=fun xs H Q=>∃ a d,xs=[.ref a]∧RdD K H (.ref a) d∧d.showable=true∧d.hasDict=false∧d.depth≤60∧d.shown.length≤sizeLine∧Q (.str d.shown) H
theorem Z4Z {X:Cx} (hg:X.A.guards=some []) (hu:X.A.units+64 < cLine):Z3T X (.builtin "repr") (Z8e X.K):=by
 intro pins s σ H xs us Q I rs h
 obtain ⟨a,d,rfl,hr,hs,hd,hz,hl,q⟩:=h
 obtain ⟨u,rfl,ru⟩:=rs.one
 obtain rfl:u=Value.ref a:=ru
 obtain ⟨as,ra⟩:=RdD.reads I hr rfl
 exact repr_of_reads' ra hs (fun z=>by rw [hd] at z; cases z) hg qR (fun _ _ e=>e) (fun h' u tk k=>⟨.str d.shown,H,I.kept k,⟨_,rfl⟩,q⟩) hl
end L2
end
section
namespace L2
open PySem PySem.Spec PyProof.Rows
theorem BlockOk.of {X:Cx} {N:List Str} {nl:List (Option Nat)} {scope:Scope} {cl:List (Str×y8)} (kind:scope.kind=.function) (nocell:∀ y∈scope.names,y.2≠.cell) (names:∀ y∈scope.names,y.2=.local→scope.names.lookup y.1=some .local)
  (clos:closureFor scope X.env=pure cl) (sub:∀ p∈cl,X.env.cells.lookup p.1=some p.2) {nm:List Str} (hnm:cl.map (·.1)=nm) (has:∀ y∈scope.names,y.2=.free→y.1∈nm) (len:nl.length=N.length)
  (seen:∀ i < nl.length,∀ j,nl[i]?=some (some j)→∃ y,N[i]?=some y∧X.N[j]?=some y∧scope.names.lookup y=some .free∧(X.env.scope.names.lookup y=some .cell∨X.env.scope.names.lookup y=some .free)):BlockOk X N nl scope cl where
 kind:=kind
 nocell:=nocell
 names:=names
 clos:=clos
 sub:=fun y c h=>sub (y,c) (PySem.mem_of_lookup h)
 has:=fun y h=>by
  have hm:=has _ (Z1x h) rfl
  rw [← hnm] at hm
  cases q:cl.lookup y with
  | some c=>exact ⟨c,rfl⟩
  | none=>
   obtain ⟨p,hp,e⟩:=qh3.mp hm
   have:=List.lookup_eq_none_iff.mp q p hp
   simp [e] at this
 len:=len
 seen:=fun i j y h1 h2=>by
  obtain ⟨z,a,b,c,d⟩:=seen i (qa9.mp h2).1 j h2
  rw [h1] at a
  cases a
  exact ⟨b,c,d⟩
theorem sub1 {env:Env} {x:Str} {a:y8} (h:env.cells.lookup x=some a):∀ p∈[(x,a)],env.cells.lookup p.1=some p.2:=fun p hp=>by
 rcases qa8.mp hp with e | hp
 ·subst e; exact h
 ·cases hp
theorem sub2 {env:Env} {x y:Str} {a b:y8} (h:env.cells.lookup x=some a) (h':env.cells.lookup y=some b):∀ p∈[(x,a),(y,b)],env.cells.lookup p.1=some p.2:=fun p hp=>by
 rcases qa8.mp hp with e | hp
 ·subst e; exact h
 ·exact sub1 h' p hp
theorem Z8y {te:TE} {Q:VK} {H:Hp} {D:y8} {n:Nat} {σ0:St} (v0:Option V) (rest:St) (f:Nat→V) (e0:σ0=v0::rest)
  (he:∀ i,i < n→∀ l K,K (f i) (upd H D (.lst l))→te (some (.int i)::rest) (upd H D (.lst l)) K)
  (hz:n≤sizeLine) (hQ:Q (.ref D) (upd H D (.lst ((qc6 n).map f)))):Z3z (Itr 0 n) (Z2A 0) Z3Y te D Q σ0 (upd H D (.lst [])):=by
 have cod:∀ i:Nat,(match (V.int (i:Int):V) with | .int x=>x.toNat | _=>0)=i:=fun i=>by simp
 refine Z5J ((qc6 n).map fun i:Nat=>V.int i) (fun _=>true) (fun v=>f (match v with | .int x=>x.toNat | _=>0)) (fun σ'=>∃ v,σ'=v::rest) (fun x σ'=>σ'=some x::rest) ⟨v0,e0⟩
  (fun i l h=>?_) (fun l=>?_) (fun i l x H' hi h=>?_) (fun x _ σ' H' K h1 h2=>?_) (fun x hx σ' l K h1 h2=>h2) (fun x hx hp σ' l K h1 h2=>?_) ?_ ?_
 ·rw [qa2,qf6] at h
  exact h
 ·show n≤_
  rw [qa2,qf6]
  exact qa0 _
 ·obtain ⟨rfl,hx⟩:=h
  refine ⟨rfl,?_⟩
  rw [qa2,qf6] at hi
  rw [qc8,List.getElem?_range hi,hx,qe6]
  rfl
 ·obtain ⟨v,rfl⟩:=h1
  exact h2 _ ⟨_,rfl⟩ rfl
 ·obtain ⟨i,hi,rfl⟩:=qh3.mp hx
  rw [h1]
  have:=he i (qi3.mp hi) l K
  refine this ?_
  have h2':=h2
  simp only [qd0] at h2'
  exact h2'
 ·rw [qa2,qf6]; exact hz
 ·rw [List.filter_eq_self.mpr fun _ _=>rfl,qj7]
  have:((fun v=>f (match v with | .int x=>x.toNat | _=>0)) ∘ fun i:Nat=>V.int i)=f:=by
   funext i
   simp
  rw [this]
  exact hQ
end L2
end
section
namespace L2
open PySem PySem.Spec PyProof.Rows PySem.SeqAt
structure Nice (k n:Nat) (d:PyData):Prop where
 lay:d.canLay0=true
 sho:d.showable=true
 leaf:d.leavesShort 30=true
 dep:d.depth≤k
 wt:d.weight≤n
structure NiceL (k n:Nat) (ds:List PyData):Prop where
 lay:PyData.canLayAll0 ds=true
 sho:PyData.showableAll ds=true
 leaf:PyData.leavesShortAll 30 ds=true
 dep:PyData.depthAll ds≤k
 wt:PyData.weightAll ds≤n
theorem Nice.mono {k n k' n':Nat} {d:PyData} (h:Nice k n d) (hk:k≤k') (hn:n≤n'):Nice k' n' d:=⟨h.lay,h.sho,h.leaf,qa7 h.dep hk,qa7 h.wt hn⟩
theorem NiceL.nil {k n:Nat}:NiceL k n []:=⟨rfl,rfl,rfl,qa4 _,qa4 _⟩
theorem NiceL.cons {k a b n:Nat} {d:PyData} {ds:List PyData} (h:Nice k a d) (hs:NiceL k b ds) (hn:a+1+b≤n):NiceL k n (d::ds) where
 lay:=by rw [PyData.canLayAll0,h.lay,hs.lay]; rfl
 sho:=by rw [PyData.showableAll,h.sho,hs.sho]; rfl
 leaf:=by rw [PyData.leavesShortAll,h.leaf,hs.leaf]; rfl
 dep:=by rw [PyData.depthAll]; exact Nat.max_le.mpr ⟨h.dep,hs.dep⟩
 wt:=by rw [PyData.weightAll]; have:=h.wt; have:=hs.wt; omega
theorem Nice.tup {k n:Nat} {ds:List PyData} (h:NiceL k n ds):Nice (k+1) n (.tuple ds) where
 lay:=by rw [PyData.canLay0]; exact h.lay
 sho:=by rw [PyData.showable]; exact h.sho
 leaf:=by rw [PyData.leavesShort]; exact h.leaf
 dep:=by rw [PyData.depth]; exact qd7 h.dep
 wt:=by rw [PyData.weight]; exact h.wt
theorem Nice.none {k n:Nat}:Nice k n .none:=⟨rfl,rfl,rfl,qa4 _,qa4 _⟩
theorem Nice.bool {k n:Nat} {b:Bool}:Nice k n (.bool b):=⟨rfl,rfl,rfl,qa4 _,qa4 _⟩
theorem Nice.int {k:Nat} {i:Int} (h:i.natAbs < 10 ^ 18):Nice k 60 (.int i):=by
 have hl:i.natAbs.log2 < 60:=by
  by_cases z:i.natAbs=0
  ·rw [z]; decide
  ·exact (Nat.log2_lt z).mpr qR
 refine ⟨rfl,?_,?_,qa4 _,?_⟩
 ·rw [PyData.showable]; exact decide_eq_true qR
 ·have e:=int_text_length_le10 (k:=18) qQ h
  have:(PyData.shown (.int i)).length≤30:=by
   show (Str.ofString (toString i)).length≤30
   rw [PySem.ofString_length]; omega
  rw [PyData.leavesShort]; exact decide_eq_true this
 ·rw [PyData.weight]; split <;> omega
theorem Nice.str {k n:Nat} {x:Str} (h:PyData.strOk x=true) (hn:x.cps.size≤n):Nice k n (.str x):=by
 refine ⟨by rw [PyData.canLay0]; exact h,rfl,?_,qa4 _,by rw [PyData.weight]; exact hn⟩
 have h1:∀ c∈x.cps.toList,c < 0x110000:=by
  intro c hcm
  have:=(Array.all_eq_true_iff_forall_mem.mp h) c (Array.mem_toList_iff.mp hcm)
  simpa using this
 rw [PyData.leavesShort]
 refine List.all_eq_true.mpr fun c hc=>decide_eq_true ?_
 have h2:=h1 c hc
 have e:(16:Nat) ^ 8=4294967296:=by decide
 omega
def Rdb (K:y9) (H:Hp) (k n:Nat) (v:V):Prop:=∃ d,RdD K H v d∧Nice k n d
theorem RdDs.app {K:y9} {H:Hp}:∀ {xs ys:List V} {ds es:List PyData},RdDs K H xs ds→RdDs K H ys es→RdDs K H (xs++ys) (ds++es)
 | _,_,_,_,.nil,h=>h
 | _,_,_,_,.cons a b,h=>.cons a (RdDs.app b h)
theorem J5x {X:Cx}:OpR X (compareOp .Is) (fun x y H Q=>∃ a b,x=.bl a∧y=.bl b∧Q (.bl (a == b)) H):=by
 intro pins s σ H x y v u Q I rx ry h
 obtain ⟨a,b,rfl,rfl,q⟩:=h
 obtain rfl:v=.bool a:=rx
 obtain rfl:u=.bool b:=ry
 show wpAny _ _ (do return Value.bool (← isSame (.bool a) (.bool b))) _ _ _
 have e:isSame (.bool a) (.bool b)=pure (a == b):=by
  cases a <;> cases b <;> rfl
 rw [e]
 exact wpAny_bind (wpAny_pure (wpAny_pure ⟨.bl _,H,I,rfl,q⟩))
end L2
end
section
namespace Mach
inductive AV | non | bl (b:Bool) | int (i:Int) | th (k:Nat)
 deriving DecidableEq
inductive Sg | add | sub | mul | div | less | same
 deriving DecidableEq
inductive Row
 | push (v:AV) | load (i:Nat) | nt | get (pl:Nat) | keep (i:Nat) | drop | skip (n:Nat) | unl (n:Nat) | two (g:Sg)
 | make (house many:Nat) | put (pl:Nat) | call (site word many:Nat) | straight (block many:Nat) | back
structure Blk where
 params:Nat
 size:Nat
 rows:List Row
structure AFr where
 n:Nat
 pc:Nat
 sl:List AV
 st:List AV
inductive End | val (v:AV) | thing (h:Nat) | dry | deep | great | nought
structure Prog where
 blocks:List Blk
 tables:List (List (Option Nat))
 most:Nat
 rem:Bool
noncomputable abbrev PL:=List (Int×Int)
noncomputable abbrev Mem:=Int→Option PL
noncomputable def getP (m:Mem) (k:Int):PL:=(m k).getD []
noncomputable def updM (m:Mem) (k:Int) (ps:PL):Mem:=fun j=>if j=k then some ps else m j
noncomputable def seen (ps:PL) (h:Int):PL:=ps.filter fun p=>decide (p.1=h)
noncomputable def Z0v (ps:PL) (h:Int):PL:=ps.filter fun p=>!decide (p.1=h)
structure MS where
 frames:List AFr
 made:List (Nat×List AV)
 ended:Option End
 calls:Nat
 looks:Nat
 hits:Nat
 rows:Nat
 mem:Mem
noncomputable def Bd (n:Int):Prop:=-1000000000000000≤n∧n≤1000000000000000
instance (n:Int):Decidable (Bd n):=by unfold Bd; infer_instance
noncomputable def told (n:Int):AV ⊕ End:=if Bd n then .inl (.int n) else .inr .great
noncomputable def two:Sg→AV→AV→Option (AV ⊕ End)
 | .add,.int a,.int b=>some (told (a+b))
 | .sub,.int a,.int b=>some (told (a - b))
 | .mul,.int a,.int b=>some (told (a * b))
 | .div,.int a,.int b=>some (if b=0 then .inr .nought else told (a.fdiv b))
 | .less,.int a,.int b=>some (.inl (.bl (decide (a < b))))
 | .same,.int a,.int b=>some (.inl (.bl (decide (a=b))))
 | .same,.bl a,.bl b=>some (.inl (.bl (decide (a=b))))
 | .same,.th a,.th b=>some (.inl (.bl (decide (a=b))))
 | _,_,_=>none
noncomputable def ends (s:MS) (e:End):MS:={ s with frames:=[],ended:=some e }
noncomputable def own (f:AFr) (made:List (Nat×List AV)):Row→Option (AFr ⊕ End)
 | .push v=>some (.inl { f with pc:=f.pc+1,st:=v::f.st })
 | .load i=>(f.sl[i]?).map fun v=>.inl { f with pc:=f.pc+1,st:=v::f.st }
 | .nt=>match f.st with
  | .bl b::st=>some (.inl { f with pc:=f.pc+1,st:=.bl (!b)::st })
  | _=>none
 | .get pl=>match f.st with
  | .th k::st=>(made[k]?).bind fun t=>(t.2[pl]?).map fun v=>.inl { f with pc:=f.pc+1,st:=v::st }
  | _=>none
 | .keep i=>match f.st with
  | v::st=>if i < f.sl.length then some (.inl { f with pc:=f.pc+1,sl:=f.sl.set i v,st:=st }) else none
  | _=>none
 | .drop=>match f.st with
  | _::st=>some (.inl { f with pc:=f.pc+1,st:=st })
  | _=>none
 | .skip n=>some (.inl { f with pc:=f.pc+1+n })
 | .unl n=>match f.st with
  | .bl b::st=>some (.inl { f with pc:=f.pc+1+(if b then 0 else n),st:=st })
  | _=>none
 | .two g=>match f.st with
  | y::x::st=>(two g x y).map fun r=>match r with
   | .inl v=>.inl { f with pc:=f.pc+1,st:=v::st }
   | .inr e=>.inr e
  | _=>none
 | _=>none
noncomputable def enter (P:Prog) (s:MS) (f:AFr) (fs:List AFr) (block many:Nat):Option MS:=
 if P.most≤s.calls then some (ends s .dry)
 else if 40 < fs.length+1 then some (ends { s with calls:=s.calls+1 } .deep)
 else if many≤f.st.length then (P.blocks[block]?).bind fun b=>if many≤b.size then
  some { s with calls:=s.calls+1,frames:=⟨block,0,(f.st.take many).reverse++qa3 (b.size - many) .non,[]⟩::{ f with pc:=f.pc+1,st:=f.st.drop many }::fs } else none
 else none
noncomputable def found (P:Prog) (s:MS) (house site word:Nat):Option (Nat×MS):=
 let looked:=((P.tables[house]?).bind fun t=>(t[word]?).join).map fun b=>(b,{ s with looks:=s.looks+1,mem:=if P.rem then updM s.mem site (((house:Int),(b:Int))::getP s.mem site |>.take 2) else s.mem })
 if P.rem then
  match seen (getP s.mem site) house with
  | (_,b)::_=>some (b.toNat,{ s with hits:=s.hits+1,mem:=updM s.mem site (seen (getP s.mem site) house++Z0v (getP s.mem site) house) })
  | []=>looked
 else looked
noncomputable def rowM (P:Prog) (s:MS) (f:AFr) (fs:List AFr):Row→Option MS
 | .make h m=>if m≤f.st.length then some { s with made:=s.made++[(h,(f.st.take m).reverse)],frames:={ f with pc:=f.pc+1,st:=.th s.made.length::f.st.drop m }::fs } else none
 | .put pl=>match f.st with
  | v::.th k::st=>(s.made[k]?).bind fun t=>if pl < t.2.length then some { s with made:=s.made.set k (t.1,t.2.set pl v),frames:={ f with pc:=f.pc+1,st:=v::st }::fs } else none
  | _=>none
 | .call site word many=>match (f.st.take many).reverse with
  | .th k::_=>if many≤f.st.length then (s.made[k]?).bind fun t=>(found P s t.1 site word).bind fun r=>enter P r.2 f fs r.1 many else none
  | _=>none
 | .straight b many=>enter P s f fs b many
 | .back=>match f.st with
  | v::_=>match fs with
   | []=>match v with
    | .th k=>(s.made[k]?).map fun t=>ends s (.thing t.1)
    | v=>some (ends s (.val v))
   | g::gs=>some { s with frames:={ g with st:=v::g.st }::gs }
  | _=>none
 | r=>(own f s.made r).map fun o=>match o with
  | .inl f'=>{ s with frames:=f'::fs }
  | .inr e=>ends s e
noncomputable def row? (P:Prog) (f:AFr):Option Row:=(P.blocks[f.n]?).bind fun b=>b.rows[f.pc]?
noncomputable def step (P:Prog) (s:MS):Option MS:=match s.ended,s.frames with
 | none,f::fs=>(row? P f).bind fun r=>rowM P { s with rows:=s.rows+1 } f fs r
 | _,_=>none
theorem Z8W {P:Prog} {s:MS} {f:AFr} {fs:List AFr} {r:Row} (h1:s.ended=none) (h2:s.frames=f::fs) (h3:row? P f=some r):step P s=rowM P { s with rows:=s.rows+1 } f fs r:=by
 unfold step
 rw [h1,h2]
 show (row? P f).bind _=_
 rw [h3]
 rfl
end Mach
end
section
namespace MM
open PySem L2
open Mach (AV AFr Row Sg Blk MS PL Mem getP updM seen Z0v)
noncomputable def SameT (H H':Hp):Prop:=∀ b xs,(H b=some (.tup xs)→H' b=some (.tup xs))∧∀ o,H b=some (.frz o (.tup xs))→H' b=some (.frz o (.tup xs))
theorem SqT.t {K:y9} {H H':Hp} {a:y8} {xs:List V} (h:SqT K H a xs) (e:SameT H H'):SqT K H' a xs:=by
 rcases h with (h | ⟨o,h⟩) | h
 ·exact .inl (.inl ((e a xs).1 h))
 ·exact .inl (.inr ⟨o,(e a xs).2 o h⟩)
 ·exact .inr h
theorem Same.t {H H':Hp} (s:Same H H'):SameT H H':=fun b xs=>⟨s b _,fun o=>s b _⟩
theorem SameT.trans {H H' H'':Hp} (a:SameT H H') (b:SameT H' H''):SameT H H'':=fun c xs=>⟨fun h=>(b c xs).1 ((a c xs).1 h),fun o h=>(b c xs).2 o ((a c xs).2 o h)⟩
theorem SameT.refl (H:Hp):SameT H H:=fun _ _=>⟨fun h=>h,fun _ h=>h⟩
theorem Z1I {H:Hp} {a:y8} {u:HO} (o:HO) (h:H a=some u) (n:(∀ xs,u≠.tup xs)∧∀ o xs,u≠.frz o (.tup xs)):SameT H (upd H a o):=fun b xs=>
 ⟨fun e=>by rw [Z0e (fun z=>by rw [z,h] at e; cases e; exact n.1 _ rfl)]; exact e,fun o' e=>by rw [Z0e (fun z=>by rw [z,h] at e; cases e; exact n.2 _ _ rfl)]; exact e⟩
theorem Z1U {xs:List V}:(∀ ys,HO.lst xs≠.tup ys)∧∀ o ys,HO.lst xs≠.frz o (.tup ys):=⟨fun _ z=>(by cases z),fun _ _ z=>by cases z⟩
theorem J2t {C dx:y8} {fs:List (Str×V)}:(∀ ys,HO.ins C dx fs≠.tup ys)∧∀ o ys,HO.ins C dx fs≠.frz o (.tup ys):=⟨fun _ z=>(by cases z),fun _ _ z=>by cases z⟩
theorem Z5W {kvs:List (Key×V)}:(∀ ys,HO.dK kvs≠.tup ys)∧∀ o ys,HO.dK kvs≠.frz o (.tup ys):=⟨fun _ z=>(by cases z),fun _ _ z=>by cases z⟩
noncomputable def AtV (K:y9) (H:Hp) (v:V):AV→Prop
 | .non=>v=.non
 | .bl b=>v=.bl b
 | .int i=>v=.int i∧Mach.Bd i
 | .th k=>∃ t,v=.ref t∧H t=some (.tup [.str "thing",.int k])∧k < 1000000
noncomputable abbrev AtVs (K:y9) (H:Hp):List V→List AV→Prop:=Paired (AtV K H)
theorem AtV.t {K:y9} {H H':Hp} {v:V} {a:AV} (h:AtV K H v a) (s:SameT H H'):AtV K H' v a:=by
 cases a with
 | th k=>obtain ⟨t,e,x,l⟩:=h; exact ⟨t,e,(s _ _).1 x,l⟩
 | _=>exact h
theorem Pd.imp {α β:Type} {R S:α→β→Prop} (f:∀ a b,R a b→S a b):∀ {xs:List α} {ys:List β},Paired R xs ys→Paired S xs ys
 | _,_,.nil=>.nil
 | _,_,.cons a b=>.cons (f _ _ a) (Pd.imp f b)
theorem AtVs.t {K:y9} {H H':Hp} {vs:List V} {as:List AV} (h:AtVs K H vs as) (s:SameT H H'):AtVs K H' vs as:=Pd.imp (fun _ _ x=>AtV.t x s) h
theorem Pd.at {α β:Type} {R:α→β→Prop}:∀ {xs:List α} {ys:List β} {i:Nat} {y:β},Paired R xs ys→ys[i]?=some y→∃ x,xs[i]?=some x∧R x y
 | _,_,_,_,.nil,e=>by simp at e
 | _,_,0,_,.cons r _,e=>by simp at e; subst e; exact ⟨_,rfl,r⟩
 | _,_,i+1,y,.cons _ t,e=>by
  obtain ⟨u,h1,h2⟩:=Pd.at (i:=i) (y:=y) t (by simpa using e)
  exact ⟨u,by simpa using h1,h2⟩
theorem Pd.app {α β:Type} {R:α→β→Prop}:∀ {xs xs':List α} {ys ys':List β},Paired R xs ys→Paired R xs' ys'→Paired R (xs++xs') (ys++ys')
 | _,_,_,_,.nil,s=>s
 | _,_,_,_,.cons r t,s=>.cons r (Pd.app t s)
theorem Pd.take {α β:Type} {R:α→β→Prop}:∀ {xs:List α} {ys:List β} (n:Nat),Paired R xs ys→Paired R (xs.take n) (ys.take n)
 | _,_,0,_=>.nil
 | _,_,_+1,.nil=>.nil
 | _,_,n+1,.cons r t=>.cons r (Pd.take n t)
theorem Pd.drop {α β:Type} {R:α→β→Prop}:∀ {xs:List α} {ys:List β} (n:Nat),Paired R xs ys→Paired R (xs.drop n) (ys.drop n)
 | _,_,0,h=>h
 | _,_,_+1,.nil=>.nil
 | _,_,n+1,.cons _ t=>Pd.drop n t
theorem Pd.set {α β:Type} {R:α→β→Prop} {x:α} {y:β} (h:R x y):∀ {xs:List α} {ys:List β} (n:Nat),Paired R xs ys→Paired R (xs.set n x) (ys.set n y)
 | _,_,_,.nil=>.nil
 | _,_,0,.cons _ t=>.cons h t
 | _,_,n+1,.cons r t=>.cons r (Pd.set h n t)
theorem Pd.snoc_inv {α β:Type} {R:α→β→Prop} {xs:List α} {ys:List β} {y:β} (h:Paired R xs (ys++[y])):∃ xs' x,xs=xs'++[x]∧Paired R xs' ys∧R x y:=by
 induction ys generalizing xs with
 | nil=>cases h with | cons a b=>cases b; exact ⟨[],_,rfl,.nil,a⟩
 | cons z zs ih=>
  cases h with
  | cons a b=>
   obtain ⟨xs',x,rfl,p,q⟩:=ih b
   exact ⟨_::xs',x,rfl,.cons a p,q⟩
theorem AtV.rd {K:y9} {H:Hp} {v:V} {a:AV} (h:AtV K H v a):Rdb K H 1 100 v:=by
 cases a with
 | non=>cases h; exact ⟨_,.non,.none⟩
 | bl b=>cases h; exact ⟨_,.bl b,.bool⟩
 | int i=>obtain ⟨rfl,hb⟩:=h; exact ⟨_,.int i,(Nice.int (by unfold Mach.Bd at hb; omega)).mono (qa0 _) qQ⟩
 | th k=>
  obtain ⟨t,rfl,b,l⟩:=h
  exact ⟨_,.tup (SqT.of b) (.cons (.str _) (.cons (.int k) .nil)),(Nice.tup (k:=0) (n:=100) (.cons (a:=5) (b:=61) (.str qP qP) (.cons (a:=60) (b:=0) (.int qR) .nil qQ) qQ))⟩
theorem AtVs.rd {K:y9} {H:Hp}:∀ {vs:List V} {as:List AV},AtVs K H vs as→∀ v∈vs,Rdb K H 1 100 v
 | _,_,.nil,v,hv=>by cases hv
 | _,_,.cons a b,v,hv=>by
  rcases qa8.mp hv with rfl | hv
  ·exact a.rd
  ·exact AtVs.rd b v hv
end MM
end
section
namespace L2
open PySem PySem.Spec PyProof.Rows
section
variable {κ:Type} [DecidableEq κ]
def valV (kvs:List (κ×V)) (k:κ):Option V:=(kvs.find? fun kv=>decide (kv.1=k)).map (·.2)
def putK (kvs:List (κ×V)) (k:κ) (v:V):List (κ×V):=
 if (kvs.any fun kv=>decide (kv.1=k))=true then kvs.map (fun kv=>if kv.1=k then (kv.1,v) else kv) else kvs++[(k,v)]
theorem Z1E {p:κ×V} {r:List (κ×V)} {k:κ} (e:p.1=k):valV (p::r) k=some p.2:=by simp [valV,qh4,e]
theorem Z1D {p:κ×V} {r:List (κ×V)} {k:κ} (e:¬ p.1=k):valV (p::r) k=valV r k:=by simp [valV,qh4,e]
theorem Z4d (k:κ):∀ kvs:List (κ×V),(kvs.any fun kv=>decide (kv.1=k))=(valV kvs k).isSome
 | []=>rfl
 | p::r=>by
  rw [qi5]
  by_cases e:p.1=k
  ·simp only [Z1E e,decide_eq_true e,Bool.true_or,Option.isSome_some]
  ·rw [Z1D e,decide_eq_false e,Bool.false_or]; exact Z4d k r
theorem Z7m (k j:κ) (y:V):∀ kvs:List (κ×V),valV (kvs.map fun kv=>if kv.1=k then (kv.1,y) else kv) j=(valV kvs j).map fun x=>if j=k then y else x
 | []=>rfl
 | p::r=>by
  have ih:=Z7m k j y r
  rw [qd5]
  by_cases h:p.1=k
  ·rw [if_pos h]
   by_cases e:p.1=j
   ·rw [Z1E (p:=(p.1,y)) e,Z1E e,qi2,if_pos (e.symm.trans h)]
   ·rw [Z1D (p:=(p.1,y)) e,Z1D e,ih]
  ·rw [if_neg h]
   by_cases e:p.1=j
   ·rw [Z1E (p:=p) e,Z1E e,qi2,if_neg (fun z=>h (e.trans z))]
   ·rw [Z1D (p:=p) e,Z1D e,ih]
theorem Z6e (k j:κ) (y:V):∀ kvs:List (κ×V),valV kvs k=none→valV (kvs++[(k,y)]) j=if j=k then some y else valV kvs j
 | [],_=>by
  by_cases e:k=j
  ·rw [if_pos e.symm]; exact Z1E (p:=(k,y)) e
  ·rw [if_neg (fun z=>e z.symm)]; exact Z1D (p:=(k,y)) e
 | p::r,hn=>by
  rw [List.cons_append]
  have hk:¬ p.1=k:=fun z=>by rw [Z1E z] at hn; cases hn
  rw [Z1D hk] at hn
  have ih:=Z6e k j y r hn
  by_cases e:p.1=j
  ·rw [Z1E e,Z1E e,if_neg (fun z=>hk (e.trans z))]
  ·rw [Z1D e,Z1D e,ih]
theorem Z2Y (kvs:List (κ×V)) (k j:κ) (y:V):valV (putK kvs k y) j=if j=k then some y else valV kvs j:=by
 unfold putK
 by_cases a:(kvs.any fun kv=>decide (kv.1=k))=true
 ·rw [if_pos a,Z7m]
  rw [Z4d] at a
  by_cases e:j=k
  ·obtain ⟨x,hx⟩:=Option.isSome_iff_exists.mp a
   rw [if_pos e,e,hx,qi2,if_pos rfl]
  ·rw [if_neg e]
   cases valV kvs j with
   | none=>rfl
   | some x=>rw [qi2,if_neg e]
 ·rw [if_neg a]
  refine Z6e k j y kvs ?_
  rw [Z4d] at a
  cases q:valV kvs k with
  | none=>rfl
  | some x=>rw [q] at a; exact (a rfl).elim
theorem Z2i (kvs:List (κ×V)) (k:κ) (v:V):(putK kvs k v).length≤kvs.length+1:=by
 unfold putK
 split
 ·rw [qa2]; omega
 ·rw [qa1,qb8,qe2]; omega
theorem RelO.isSome_eq {o:Option V} {u:Option Value} (r:RelO o u):o.isSome=u.isSome:=by
 cases o with
 | none=>cases u with
  | none=>rfl
  | some _=>exact (show False from r).elim
 | some _=>cases u with
  | none=>exact (show False from r).elim
  | some _=>rfl
theorem RelO.getD {o:Option V} {u:Option Value} {d:V} {d':Value} (r:RelO o u) (rd:RelV d d'):RelV (o.getD d) (u.getD d'):=by
 cases o with
 | none=>cases u with
  | none=>exact rd
  | some _=>exact (show False from r).elim
 | some _=>cases u with
  | none=>exact (show False from r).elim
  | some _=>exact r
theorem KV.val {kvs:List (κ×V)} {vs:List (κ×Value)} (r:KV kvs vs) (k:κ):RelO (valV kvs k) (valueAt vs k):=by
 unfold KV at r
 induction r with
 | nil=>exact True.intro
 | @cons p q ps qs h t ih=>
  obtain ⟨h1,h2⟩:=h
  by_cases e:p.1=k
  ·have e':q.1=k:=h1.symm.trans e
   have b:valueAt (q::qs) k=some q.2:=by simp [valueAt,qh4,e']
   rw [Z1E e,b]; exact h2
  ·have e':¬ q.1=k:=fun z=>e (h1.trans z)
   have b:valueAt (q::qs) k=valueAt qs k:=by simp [valueAt,qh4,e']
   rw [Z1D e,b]; exact ih
theorem KV.any {kvs:List (κ×V)} {vs:List (κ×Value)} (r:KV kvs vs) (k:κ):(kvs.any fun kv=>decide (kv.1=k))=vs.any fun kv=>decide (kv.1=k):=by
 unfold KV at r
 induction r with
 | nil=>rfl
 | cons h t ih=>rw [qi5,qi5,ih,h.1]
theorem KV.repl {kvs:List (κ×V)} {vs:List (κ×Value)} (r:KV kvs vs) (k:κ) {y:V} {u:Value} (ry:RelV y u) :
  KV (kvs.map fun kv=>if kv.1=k then (kv.1,y) else kv) (vs.map fun kv=>if kv.1=k then (kv.1,u) else kv):=by
 unfold KV at r ⊢
 induction r with
 | nil=>exact .nil
 | @cons p q ps qs h t ih=>
  rw [qd5,qd5]
  refine .cons ?_ ih
  obtain ⟨h1,h2⟩:=h
  by_cases e:p.1=k
  ·rw [if_pos e,if_pos (h1.symm.trans e)]; exact ⟨h1,ry⟩
  ·rw [if_neg e,if_neg (fun z=>e (h1.trans z))]; exact ⟨h1,h2⟩
theorem KV.put {kvs:List (κ×V)} {vs:List (κ×Value)} (r:KV kvs vs) (k:κ) {y:V} {u:Value} (ry:RelV y u):KV (putK kvs k y) (stored vs k u):=by
 unfold putK stored
 rw [r.any k]
 by_cases e:(vs.any fun kv=>decide (kv.1=k))=true
 ·rw [if_pos e,if_pos e]; exact r.repl k ry
 ·rw [if_neg e,if_neg e]; exact Paired.snoc r ⟨rfl,ry⟩
theorem KV.length {kvs:List (κ×V)} {vs:List (κ×Value)} (r:KV kvs vs):kvs.length=vs.length:=Paired.length r
end
theorem Z6Q {P:Program} {w:World} {k:Key} {u:Value} (r:RelV (kV k) u):(Z0Q P w).is k u=true:=by
 cases k with
 | inl i=>obtain ⟨t,e⟩:=(show ∃ t,u=Value.int i t from r); subst e; exact Z6R P w i t
 | inr x=>obtain ⟨t,e⟩:=(show ∃ t,u=Value.str x t from r); subst e; exact Z6D P w x t
theorem Z6u {P:Program} {w:World}:∀ {ks:List Key} {us:List Value},Vals (ks.map kV) us→ItemsAre (Z0Q P w) ks us
 | [],_,r=>by rw [List.map_nil] at r; cases r; exact .nil
 | k::ks,_,r=>by
  rw [qd5] at r
  cases r with
  | cons h t=>exact .cons (Z6Q h) (Z6u t)
abbrev KT (H:Hp):List (List Key×V)→List (List Key×y8×Value)→Prop:=Paired fun p q=>p.1=q.1∧H q.2.1=some (.tup (p.1.map kV))∧RelV p.2 q.2.2
theorem KT.val {H:Hp} {kvs:List (List Key×V)} {xs:List (List Key×y8×Value)} (r:KT H kvs xs) (k:List Key):RelO (valV kvs k) ((atKey xs k).map (·.2)):=by
 induction r with
 | nil=>exact True.intro
 | @cons p q ps qs h t ih=>
  obtain ⟨h1,_,h2⟩:=h
  by_cases e:p.1=k
  ·have e':q.1=k:=h1.symm.trans e
   have b:atKey (q::qs) k=some q.2:=by simp [atKey,qh4,e']
   rw [Z1E e,b]; exact h2
  ·have e':¬ q.1=k:=fun z=>e (h1.trans z)
   have b:atKey (q::qs) k=atKey qs k:=by simp [atKey,qh4,e']
   rw [Z1D e,b]; exact ih
theorem KT.repl {H:Hp} {kvs:List (List Key×V)} {xs:List (List Key×y8×Value)} (r:KT H kvs xs) (k:List Key) {y:V} {u:Value} (ry:RelV y u) :
  KT H (kvs.map fun kv=>if kv.1=k then (kv.1,y) else kv) (xs.map (putAt k u)):=by
 induction r with
 | nil=>exact .nil
 | @cons p q ps qs h t ih=>
  rw [qd5,qd5]
  refine .cons ?_ ih
  obtain ⟨h1,h2,h3⟩:=h
  unfold putAt
  by_cases e:p.1=k
  ·rw [if_pos e,if_pos (h1.symm.trans e)]; exact ⟨h1,h2,ry⟩
  ·rw [if_neg e,if_neg (fun z=>e (h1.trans z))]; exact ⟨h1,h2,h3⟩
theorem KT.put {H:Hp} {kvs:List (List Key×V)} {xs:List (List Key×y8×Value)} (r:KT H kvs xs) (k:List Key) {b:y8} {y:V} {u:Value} (hb:H b=some (.tup (k.map kV))) (ry:RelV y u) :
  KT H (putK kvs k y) (storedH xs k b u):=by
 have e:(kvs.any fun kv=>decide (kv.1=k))=(atKey xs k).isSome:=by
  rw [Z4d,(r.val k).isSome_eq,Option.isSome_map]
 unfold putK storedH
 rw [e]
 by_cases q:(atKey xs k).isSome=true
 ·rw [if_pos q,if_pos q]; exact r.repl k ry
 ·rw [if_neg q,if_neg q]; exact Paired.snoc r ⟨rfl,hb,ry⟩
theorem KT.keeps {H H':Hp} {kvs:List (List Key×V)} {xs:List (List Key×y8×Value)} (r:KT H kvs xs) (ht:∀ b ys,H b=some (.tup ys)→H' b=some (.tup ys)):KT H' kvs xs:=
 Paired.mapP r fun _ _ z=>⟨z.1,ht _ _ z.2.1,z.2.2⟩
section
variable {P:Program} {w:World} {H:Hp} {h:Heap} {a:y8}
theorem J5I {u:HO} (ok:HOk P w H h) (e:Rd H a u):ObjOk P w H h a u:=e.ok ok
theorem Z9Z {kvs:List (Key×V)} (ok:HOk P w H h) (e:Rd H a (.dK kvs)):kvs.length≤sizeLine∧(a == sysModules)=false∧∃ vs,KV kvs vs∧h.DictOf (Z0Q P w) a vs:=
 show ObjOk P w H h a (.dK kvs) from J5I ok e
theorem J1i {kvs:List (Key×V)} (ok:HOk P w H h) (e:H a=some (.dK kvs)):kvs.length≤sizeLine∧(a == sysModules)=false∧∃ vs,KV kvs vs∧h.DictOf (Z0Q P w) a vs:=Z9Z ok (.inl e)
theorem Z7C {ks:List Key} (ok:HOk P w H h) (e:H a=some (.tup (ks.map kV))):(tupleKind (Z0Q P w)).is h ks a:=by
 obtain ⟨_,its,r,o,h1,h2,n,h3⟩:=(show ObjOk P w H h a (.tup (ks.map kV)) from ok a _ e)
 exact ⟨o,its.toArray,n,h1,h2,h3,by simpa using Z6u r⟩
theorem J0Q {kvs:List (List Key×V)} (ok:HOk P w H h) (e:Rd H a (.dT kvs)):kvs.length≤sizeLine∧(a == sysModules)=false ∧
  ∃ xs,KT H kvs xs∧h.DictOfH (tupleKind (Z0Q P w)) a xs:=by
 obtain ⟨z,y,xs,r,o,es,ep,h1,h2,h3,h4,h5⟩:=(show ObjOk P w H h a (.dT kvs) from J5I ok e)
 refine ⟨z,y,xs,r,o,es,ep,h1,h2,h3,h4,fun x hx=>?_,h5⟩
 have all:∀ {l:List (List Key×V)} {m:List (List Key×y8×Value)},KT H l m→∀ x∈m,(tupleKind (Z0Q P w)).is h x.1 x.2.1:=by
  intro l m q
  induction q with
  | nil=>intro x hx; exact nomatch hx
  | @cons p q ps qs hq t ih=>
   intro x hx
   rcases qa8.mp hx with e | hx
   ·subst e
    exact Z7C ok (by rw [← hq.1]; exact hq.2.1)
   ·exact ih x hx
 exact all r x hx
theorem J6R {kvs:List (List Key×V)} (ok:HOk P w H h) (e:H a=some (.dT kvs)):kvs.length≤sizeLine∧(a == sysModules)=false ∧
  ∃ xs,KT H kvs xs∧h.DictOfH (tupleKind (Z0Q P w)) a xs:=J0Q ok (.inl e)
end
def DGet (H:Hp) (a:y8) (y:V) (r:Option V):Prop:=
 (∃ kvs k,Rd H a (.dK kvs)∧y=kV k∧r=valV kvs k)∨∃ kvs k b,Rd H a (.dT kvs)∧y=.ref b∧H b=some (.tup (k.map kV))∧r=valV kvs k
def DPut (H:Hp) (a:y8) (y v:V) (H':Hp):Prop:=
 (∃ kvs k,H a=some (.dK kvs)∧y=kV k∧kvs.length < sizeLine∧H'=upd H a (.dK (putK kvs k v))) ∨
 ∃ kvs k b,H a=some (.dT kvs)∧y=.ref b∧H b=some (.tup (k.map kV))∧kvs.length < sizeLine∧H'=upd H a (.dT (putK kvs k v))
theorem DGet.k {H:Hp} {a:y8} {kvs:List (Key×V)} {k:Key} (e:H a=some (.dK kvs)):DGet H a (kV k) (valV kvs k):=.inl ⟨kvs,k,.inl e,rfl,rfl⟩
theorem DPut.k {H:Hp} {a:y8} {kvs:List (Key×V)} {k:Key} {v:V} (e:H a=some (.dK kvs)) (hl:kvs.length < sizeLine):DPut H a (kV k) v (upd H a (.dK (putK kvs k v))):=.inl ⟨kvs,k,e,rfl,hl,rfl⟩
section
variable {X:Cx} {pins:List (y8×Obj)} {σ:St} {H:Hp} {s:Shared} {a:y8} {y v:V} {u r:Value} {o:Option V} {A:Around} {E:Value→Shared→Prop}
theorem Inv.big (I:Inv X pins σ H s):sysModules < s.heap.objs.size:=by
 have h:mainGlobals < s.heap.objs.size:=(I.mod.glob.keeps I.bk).lt
 exact Nat.lt_trans qQ h
theorem J0z {Q:Value→Shared→Prop} (hu:A.units+1 < cLine) (I:Inv X pins σ H s) (g:DGet H a y (some v)) (ry:RelV y u) (h:∀ w' s',Inv X pins σ H s'→RelV v w'→Q w' s') :
  wpAny (model X.prog X.w) A (getItem (.ref a) u) Q E s:=by
 rcases g with ⟨kvs,k,e,ey,l⟩ | ⟨kvs,k,b,e,ey,eb,l⟩
 ·subst ey
  obtain ⟨z,hd,vs,rel,dd⟩:=Z9Z I.hok e
  obtain ⟨w',hw,rw'⟩:=RelO.some_of (v:=v) (o:=valueAt vs k) (by rw [l]; exact rel.val k)
  exact wpAny_getItem_of (Z6Q ry) dd.mapOf hw (h w' _ (I.tok _) rw')
 ·subst ey
  cases (show u=Value.ref b from ry)
  obtain ⟨z,hd,xs,rel,dd⟩:=J0Q I.hok e
  obtain ⟨w',hw,rw'⟩:=RelO.some_of (v:=v) (o:=(atKey xs k).map (·.2)) (by rw [l]; exact rel.val k)
  obtain ⟨p,hp,hp2⟩:=qb6.mp hw
  refine wpAny_getItem_heap (tupleKind_room_in1 hu) (Z7C I.hok eb) dd hp ?_
  rw [hp2]
  exact h w' _ (I.tok _) rw'
theorem Z5u {h':Heap} {t':Nat} {ob:HO} (I:Inv X pins σ H s) (mu:Mut (H a)) (hs:Heap.SameBut a s.heap h') (he:∃ q,h'.get? a=some q) (new:ObjOk X.prog X.w (upd H a ob) h' a ob) :
  Inv X pins σ (upd H a ob) { s with heap:=h',toks:=t' }:=
 I.write (x:=a) (e:=a) mu (.inl rfl) (fun b q hb z=>(hs.2 b hb).trans z) he new
theorem Z9B {P:Program} {w:World} {H':Hp} {h':Heap} {kvs:List (Key×V)} {vs:List (Key×Value)} (z:kvs.length≤sizeLine) (hd:(a == sysModules)=false) (rel:KV kvs vs) (dd:h'.DictOf (Z0Q P w) a vs) :
  ObjOk P w H' h' a (.dK kvs):=⟨z,hd,vs,rel,dd⟩
theorem J0d {H':Hp} {Q:Unit→Shared→Prop} (hu:A.units+1 < cLine) (I:Inv X pins σ H s) (g:DPut H a y v H') (ry:RelV y u) (rv:RelV v r) (h:∀ s',Inv X pins σ H' s'→Q () s') :
  wpAny (model X.prog X.w) A (setItem (.ref a) u r) Q E s:=by
 rcases g with ⟨kvs,k,e,ey,l,eH⟩ | ⟨kvs,k,b,e,ey,eb,l,eH⟩
 ·subst ey eH
  obtain ⟨z,hd,vs,rel,dd⟩:=J1i I.hok e
  have hz:vs.length≤sizeLine:=by rw [← rel.length]; exact z
  have hl:(putK kvs k v).length≤sizeLine:=by have:=Z2i kvs k v; omega
  refine wpAny_setItem_pairs (hsz:=hz) (Z6Q ry) dd fun h' dd' hs=>h _ ?_
  have he:∃ q,h'.get? a=some q:=let ⟨q,_,_,hq,_⟩:=dd'; ⟨q,hq⟩
  exact Z5u I (by rw [e]; exact True.intro) hs he (Z9B hl hd (rel.put k rv) dd')
 ·subst ey eH
  cases (show u=Value.ref b from ry)
  obtain ⟨z,hd,xs,rel,dd⟩:=J6R I.hok e
  have hz:xs.length≤sizeLine:=by rw [← Paired.length rel]; exact z
  have hl:(putK kvs k v).length≤sizeLine:=by have:=Z2i kvs k v; omega
  refine wpAny_setItem_heap (hsz:=hz) (tupleKind_room_in1 hu) (Z7C I.hok eb) dd fun h' dd' hs=>h _ ?_
  obtain ⟨q,es,ep,hq,h2,h3,h4,_,h5⟩:=dd'
  refine Z5u I (by rw [e]; exact True.intro) hs ⟨q,hq⟩ ⟨hl,hd,_,(rel.put k eb rv).keeps fun c ys ec=>?_,q,es,ep,hq,h2,h3,h4,h5⟩
  rw [Z0e (Z0J ec e (fun z=>nomatch z))]
  exact ec
end
def NoSl (i:Expr):Prop:=∀ ov iv,subscripted i false ov iv=operate [ov,iv] (getItem ov iv)
theorem J0I {prog:Program} {w:World} {A:Around} {E:Value→Shared→Prop} {s:Shared} {env:Env} {value slice:Expr} {pos:Pos} {T id:String} {Q:Value→Shared→Prop}
  (hl:typeLookup (.type T) "__getitem__"=pure (some (.builtin id))) (hs:NoSl slice)
  (h:wpAny (model prog w) A (eval value env) (fun o s₁=>wpAny (model prog w) A (eval slice env) (fun i s₂=>s₂.TypeIs o T∧wpAny (model prog w) A (getItem o i) Q E s₂) E s₁) E s) :
  wpAny (model prog w) A (eval (.Subscript value slice pos) env) Q E s:=by
 refine Subscript_ (wpAny_mono h (fun o s₁ h₁=>wpAny_mono h₁ (fun i s₂ h₂=>?_) fun _ _ x=>x) fun _ _ x=>x)
 obtain ⟨hT,h₂⟩:=h₂
 unfold subscriptTail
 refine wpAny_bind ?_
 rw [getitemInPython_of_ne hT.not_modules]
 refine wpAny_bind (wpAny_specialOf hT hl ?_)
 have fin:wpAny (model prog w) A (subscripted slice false o i) (fun r s₃=>wpAny (model prog w) A (letTemporaryGo value o r >>= fun _=>pure r) Q E s₃) E s₂:=by
  rw [hs o i]
  exact wpAny_operating (wpAny_mono h₂ (fun r s₃ h₃=>wpAny_bind (wpAny_letTemporaryGo (wpAny_pure h₃))) fun _ _ x=>x)
 first
  | exact wpAny_pure (wpAny_bind fin)
  | exact wpAny_bind (wpAny_pure (wpAny_bind fin))
  | exact wpAny_bind fin
theorem Z6L {X:Cx} {pins:List (y8×Obj)} {σ:St} {H:Hp} {s:Shared} {a:y8} {y:V} {o:Option V} (I:Inv X pins σ H s) (g:DGet H a y o):s.TypeIs (.ref a) "dict":=by
 rcases g with ⟨kvs,k,e,_,_⟩ | ⟨kvs,k,b,e,_,_,_⟩
 ·obtain ⟨_,_,vs,_,dd⟩:=Z9Z I.hok e
  exact dd.typeIs
 ·obtain ⟨_,_,xs,_,dd⟩:=J0Q I.hok e
  exact dd.typeIs
def J1T (td ty:TE):TE:=fun σ H Q=>td σ H fun x H1=>ty σ H1 fun y H2=>∃ a v,x=.ref a∧DGet H2 a y (some v)∧Q v H2
def J5h (td ty tv:TE):TS:=fun D σ H=>tv σ H fun v H1=>td σ H1 fun x H2=>ty σ H2 fun y H3=>∃ a H4,x=.ref a∧DPut H3 a y v H4∧D.nx σ H4
section
variable {X:Cx} {o i e value:Expr} {pos pos' tpos:Pos} {td ty tv:TE}
theorem J0m (hu:X.A.units+1 < cLine) (ho:PE X o td) (hi:PE X i ty) (hs:NoSl i):PE X (.Subscript o i pos) (J1T td ty):=by
 intro pins s σ H Q I h
 refine J0I PySem.F.slot_dict_getitem.lookup hs (thn (ho pins s σ H _ I h) fun u s1 ⟨x,H1,I1,rx,q1⟩=>thn (hi pins s1 σ H1 _ I1 q1) fun iv s2 hz_=>?_)
 obtain ⟨y,H2,I2,ry,a,v,ex,g,q2⟩:=hz_
 subst ex
 obtain rfl:u=Value.ref a:=rx
 exact ⟨Z6L I2 g,J0z hu I2 g ry fun w' s3 I3 rw'=>⟨v,H2,I3,rw',q2⟩⟩
theorem Z1V (hu:X.A.units+1 < cLine) (ho:PE X o td) (hi:PE X i ty) (hv:PE X value tv) (hs:swapsWith value (some (.Subscript o i pos')) pos.line X.env=pure false) :
  PS X (.Assign [.Subscript o i pos'] value pos) (J5h td ty tv):=by
 intro pins s σ H D I h
 refine wpAny_Assign_Subscript (thn (hv pins s σ H _ I h) fun r s1 ⟨v,H1,I1,rv,q1⟩=>thn (ho pins s1 σ H1 _ I1 q1) fun u s2 ⟨x,H2,I2,rx,q2⟩=>thn (hi pins s2 σ H2 _ I2 q2) fun iv s3 hz_=>?_) hs
 obtain ⟨y,H3,I3,ry,a,H4,ex,g,q3⟩:=hz_
 subst ex
 obtain rfl:u=Value.ref a:=rx
 exact J0d hu I3 g ry rv fun s4 I4=>⟨σ,H4,I4,q3⟩
end
theorem Z7H {P:Program} {w:World} {H:Hp} (h:Heap) (hb:sysModules < h.objs.size):ObjOk P w H (h.push { cls:=.type "dict",data:=.dict #[] }) h.objs.size (.dK []):=
 ⟨qa4 _,beq_eq_false_iff_ne.mpr (Ne.symm (qd2 hb)),[],.nil,Heap.DictOf.new h⟩
def J2l:TE:=fun _ H Q=>∀ p,H p=none→Q (.ref p) (upd H p (.dK []))
section
variable {X:Cx} {pos:Pos}
theorem Z5F:PE X (.Dict [] [] pos) J2l:=fun pins s σ H Q I h=>
 wpAny_Dict_empty ⟨.ref s.heap.objs.size,_,I.laid (a:=s.heap.objs.size) (o:=.dK []) (t':=s.toks) (fun _ _ q=>Heap.get?_push_of_some _ q) (qa0 _) (Z7H s.heap I.big),rfl,h _ (I.hok.fresh (qa0 _))⟩
end
def Z4H:List (TE×TE)→St→Hp→(List (V×V)→Hp→Prop)→Prop
 | [],_,H,Q=>Q [] H
 | (tk,tv)::r,σ,H,Q=>tk σ H fun x H1=>tv σ H1 fun y H2=>Z4H r σ H2 fun ps H3=>Q ((x,y)::ps) H3
abbrev VV:List (V×V)→List (Value×Value)→Prop:=Paired fun p q=>RelV p.1 q.1∧RelV p.2 q.2
def PPs (X:Cx) (pos:Pos) (keys:List (Option Expr)) (values:List Expr) (trs:List (TE×TE)):Prop:=
 ∀ (pins:List (y8×Obj)) (s:Shared) (σ:St) (H:Hp) (Q:List (V×V)→Hp→Prop),Inv X pins σ H s→Z4H trs σ H Q →
  wpAny (model X.prog X.w) X.A (evalPairs (pairTrees keys values X.env pos)) (fun vs s'=>∃ ps H',Inv X pins σ H' s'∧VV ps vs∧Q ps H') X.xe s
theorem Z4x {X:Cx} {pos:Pos}:PPs X pos [] [] []:=fun pins s σ H Q I h=>pairTrees_nil_walk ⟨[],H,I,.nil,h⟩
theorem Z0I {X:Cx} {pos:Pos} {k v:Expr} {ks:List (Option Expr)} {vs:List Expr} {tk tv:TE} {trs:List (TE×TE)} (hk:PE X k tk) (hv:PE X v tv) (hr:PPs X pos ks vs trs) :
  PPs X pos (some k::ks) (v::vs) ((tk,tv)::trs):=fun pins s σ H Q I h=>
 pairTrees_cons_walk (thn (hk pins s σ H _ I h) fun u s1 ⟨x,H1,I1,rx,q1⟩=>thn (hv pins s1 σ H1 _ I1 q1) fun w2 s2 ⟨y,H2,I2,ry,q2⟩=>
  thn (hr pins s2 σ H2 _ I2 q2) fun ws s3 ⟨ps,H3,I3,rel,q3⟩=>⟨(x,y)::ps,H3,I3,.cons ⟨rx,ry⟩ rel,q3⟩)
def Z0X (kvs more:List (Key×V)):List (Key×V):=more.foldl (fun acc kv=>putK acc kv.1 kv.2) kvs
theorem KV.merge:∀ {more:List (Key×V)} {rs:List (Key×Value)} {kvs:List (Key×V)} {vs:List (Key×Value)},KV more rs→KV kvs vs→KV (Z0X kvs more) (merged vs rs):=by
 intro more rs kvs vs r
 unfold KV at r
 induction r generalizing kvs vs with
 | nil=>intro q; exact q
 | @cons p q ps qs h t ih=>
  intro r0
  have e:KV (putK kvs p.1 p.2) (stored vs q.1 q.2):=by
   have:=r0.put p.1 h.2
   rw [← h.1]; exact this
  exact ih e
theorem Z2H:∀ (more kvs:List (Key×V)),(Z0X kvs more).length≤kvs.length+more.length
 | [],kvs=>by show kvs.length≤kvs.length+0; omega
 | p::r,kvs=>by
  have h1:=Z2H r (putK kvs p.1 p.2)
  have h2:=Z2i kvs p.1 p.2
  show (Z0X (putK kvs p.1 p.2) r).length≤_
  rw [qb8]; omega
theorem Z5i {P:Program} {w:World}:∀ {kvs:List (Key×V)} {ws:List (Value×Value)},VV (kvs.map fun kv=>(kV kv.1,kv.2)) ws→∃ rs,Carries (Z0Q P w) ws rs∧KV kvs rs
 | [],_,r=>by rw [List.map_nil] at r; cases r; exact ⟨[],True.intro,.nil⟩
 | p::kvs,_,r=>by
  rw [qd5] at r
  cases r with
  | @cons a b as bs h t=>
   obtain ⟨rs,c,q⟩:=Z5i (P:=P) (w:=w) t
   obtain ⟨b1,b2⟩:=b
   exact ⟨(p.1,b2)::rs,⟨Z6Q h.1,rfl,c⟩,.cons ⟨rfl,h.2⟩ q⟩
def J5k (trs:List (TE×TE)):TE:=fun σ H Q=>∀ p,H p=none→Z4H trs σ (upd H p (.dK [])) fun ps H2=>H2 p=some (.dK [])∧∃ kvs:List (Key×V),ps=kvs.map (fun kv=>(kV kv.1,kv.2))∧kvs.length≤15∧Q (.ref p) (upd H2 p (.dK (Z0X [] kvs)))
theorem Z4F {X:Cx} {pos:Pos} {keys:List (Option Expr)} {values:List Expr} {trs:List (TE×TE)} (h:PPs X pos keys values trs) (hall:keys.all (·.isSome)=true) (hl:keys.length=values.length) (h0:keys≠[])
  (h15:keys.length≤15):PE X (.Dict keys values pos) (J5k trs):=by
 intro pins s σ H Q I q
 have hn:=I.hok.fresh (qa0 s.heap.objs.size)
 have I1:=I.laid (a:=s.heap.objs.size) (o:=.dK []) (h':=s.heap.push { cls:=.type "dict",data:=.dict #[] }) (t':=s.toks) (fun _ _ q=>Heap.get?_push_of_some _ q) (qa0 _) (Z7H s.heap I.big)
 refine wpAny_Dict_walk (knd:=Z0Q X.prog X.w) hall hl h0 h15 (thn (h pins _ σ _ _ I1 (q _ hn)) fun ws s2 hz_=>?_)
 obtain ⟨ps,H2,I2,rel,e,kvs,ep,lk,q2⟩:=hz_
 subst ep
 obtain ⟨rs,c,rk⟩:=Z5i (P:=X.prog) (w:=X.w) rel
 obtain ⟨z,hd,vs0,r0,dd⟩:=J1i I2.hok e
 cases r0
 refine ⟨rs,c,dd,fun h' dd' hs=>⟨.ref s.heap.objs.size,_,?_,rfl,q2⟩⟩
 have hz:(Z0X [] kvs).length≤sizeLine:=by
  have h1:=Z2H kvs []
  rw [qe2] at h1
  rw [sizeLine_eq]; omega
 have he:∃ q,h'.get? s.heap.objs.size=some q:=let ⟨q,_,_,hq,_⟩:=dd'; ⟨q,hq⟩
 exact Z5u I2 (by rw [e]; exact True.intro) hs he (Z9B hz hd (rk.merge .nil) dd')
structure M1 (X:Cx) (o:Expr) (m:Str) (apos:Pos) (e:Expr) (cpos:Pos):Prop where
 base:attributeBase o m X.env (eval o X.env)=eval o X.env
 few:((backTo cpos (starEach [e] X.env)).all (fun x=>!x.1)&&(backToKw cpos (keywordEach [] X.env)).all (fun x=>x.1.isSome)
  && decide (([e]:List Expr).length+([]:List Keyword).length+(if ([]:List Keyword).isEmpty then 0 else 1) < 30))=true
 line:(apos.endLine == cpos.line)=true
 trees:backTo cpos (starEach [e] X.env)=[(false,eval e X.env)]
structure M2 (X:Cx) (o:Expr) (m:Str) (apos:Pos) (e f:Expr) (cpos:Pos):Prop where
 base:attributeBase o m X.env (eval o X.env)=eval o X.env
 few:((backTo cpos (starEach [e,f] X.env)).all (fun x=>!x.1)&&(backToKw cpos (keywordEach [] X.env)).all (fun x=>x.1.isSome)
  && decide (([e,f]:List Expr).length+([]:List Keyword).length+(if ([]:List Keyword).isEmpty then 0 else 1) < 30))=true
 line:(apos.endLine == cpos.line)=true
 trees:backTo cpos (starEach [e,f] X.env)=[(false,eval e X.env),(false,eval f X.env)]
def IsD (H:Hp) (a:y8):Prop:=(∃ kvs,Rd H a (.dK kvs))∨∃ kvs,Rd H a (.dT kvs)
theorem J2p {X:Cx} {pins:List (y8×Obj)} {σ:St} {H:Hp} {s:Shared} {a:y8} (I:Inv X pins σ H s) (d:IsD H a) :
  s.TypeIs (.ref a) "dict"∧(∀ b,Value.ref a=.ref b→∃ ob,s.heap.get? b=some ob∧ob.dict=none)∧(a == sysModules)=false:=by
 rcases d with ⟨kvs,e⟩ | ⟨kvs,e⟩
 ·obtain ⟨_,hd,vs,_,dd⟩:=Z9Z I.hok e
  refine ⟨dd.typeIs,fun b q=>?_,hd⟩
  cases q
  obtain ⟨ob,_,_,h1,h2,_⟩:=dd
  exact ⟨ob,h1,h2.2.1⟩
 ·obtain ⟨_,hd,xs,_,dd⟩:=J0Q I.hok e
  refine ⟨dd.typeIs,fun b q=>?_,hd⟩
  cases q
  obtain ⟨ob,_,_,h1,h2,_⟩:=dd
  exact ⟨ob,h1,h2.2.1⟩
section
variable {X:Cx} {pins:List (y8×Obj)} {σ:St} {H:Hp} {s:Shared} {a:y8} {y d:V} {u r:Value} {o:Option V} {A:Around} {E:Value→Shared→Prop}
theorem J4F {Q:Value→Shared→Prop} (hu:A.units+1 < cLine) (I:Inv X pins σ H s) (g:DGet H a y o) (ry:RelV y u) (rd:RelV d r) (h:∀ w' s',Inv X pins σ H s'→RelV (o.getD d) w'→Q w' s') :
  wpAny (model X.prog X.w) A (call (.builtin "dict.get") [.ref a,u,r]) Q E s:=by
 rcases g with ⟨kvs,k,e,ey,l⟩ | ⟨kvs,k,b,e,ey,eb,l⟩
 ·subst ey
  obtain ⟨z,hd,vs,rel,dd⟩:=Z9Z I.hok e
  refine call_meetsIn ql7 dd.typeIs PySem.F.entry_dict_get (PySem.F.args_dict_get_3 _ _ _) (meets_dict_get_default (Z0Q X.prog X.w) a (Z6Q ry) hd r) ⟨_,dd.mapOf,h _ _ (I.tok _) ?_⟩
  rw [l]
  exact (rel.val k).getD rd
 ·subst ey
  cases (show u=Value.ref b from ry)
  obtain ⟨z,hd,xs,rel,dd⟩:=J0Q I.hok e
  refine call_meetsIn ql7 dd.typeIs PySem.F.entry_dict_get (PySem.F.args_dict_get_3 _ _ _) (meetsH_dict_get_default (tupleKind (Z0Q X.prog X.w)) a b hd r) ⟨tupleKind_room_in1 hu,k,xs,Z7C I.hok eb,dd,h _ _ (I.tok _) ?_⟩
  rw [l]
  exact (rel.val k).getD rd
end
def J2m (td ty tx:TE):TE:=fun σ H Q=>td σ H fun x H1=>∃ a,x=.ref a∧IsD H1 a∧ty σ H1 fun y H2=>tx σ H2 fun z H3=>∃ o,DGet H3 a y o∧Q (o.getD z) H3
section
variable {X:Cx} {o e f:Expr} {apos cpos:Pos} {td ty tx:TE}
theorem Z7A (hu:X.A.units+1 < cLine) (ho:PE X o td) (he:PE X e ty) (hf:PE X f tx) (m:M2 X o "get" apos e f cpos):PE X (.Call (.Attribute o "get" apos) [e,f] [] cpos) (J2m td ty tx):=by
 intro pins s σ H Q I h
 refine wpAny_Call_method m.base m.few m.line PySem.F.plainAttrs_dict ql7 PySem.F.type_dict_get (thn (ho pins s σ H _ I h) fun u s1 hz_=>?_)
 obtain ⟨x,H1,I1,rx,a,ex,d,q1⟩:=hz_
 subst ex
 obtain rfl:u=Value.ref a:=rx
 obtain ⟨t1,t2,_⟩:=J2p I1 d
 refine ⟨t1,t2,?_⟩
 rw [m.trees]
 refine Calls.callWith_builtin rfl (Calls.evalArgs_plain (Calls.spliced_cons (thn (he pins s1 σ H1 _ I1 q1) fun iv s2 ⟨y,H2,I2,ry,q2⟩=>
  Calls.spliced_cons (thn (hf pins s2 σ H2 _ I2 q2) fun fv s3 ⟨z,H3,I3,rz,ov,g,q3⟩=>Calls.spliced_nil ?_))))
 exact J4F hu I3 g ry rz fun w' s4 I4 rw'=>⟨_,H3,I4,rw',q3⟩
end
section
variable {X:Cx} {N:List Str} {nl:List (Option Nat)} {scope:Scope} {cl:List (Str×y8)} {elt tg iter:Expr} {pos pos' spos:Pos} {wi:TI} {g:TG} {tc:TT} {te:TE} {i:Nat} {x:Str}
theorem Z6p {pins:List (y8×Obj)} {σ:St} {Dd:Ends} (hN:X.N.Nodup) (hi:X.N[i]?=some x) (hk:X.env.scope.names.lookup x=some .local) (D C:y8) (s' s2:Shared) (fp:List y8) (σ':St) (H' H2:Hp)
  (I2:Inv X pins σ H2 s2) (f2:∀ b∈fp,FpOk X pins H2 b) (hC:s2.heap.objs.size≤C) (J:Inv (X.block N scope cl C fp s2 H2) [] σ' H' s') (q:Dd.nx (σ.set i (some (.ref D))) H') :
  compPost (model X.prog X.w) X.A X.xe (some (assign (.Name x pos') X.env)) (fun _ s3=>SP X pins Dd .next s3) (.ref D) C (.ok .next) s':=by
 have I3:Inv X pins σ H' s':=Z6j (h2:=s'.heap) I2 f2 hC J fun b o _ e=>e
 have ne:∀ b o,s2.heap.get? b=some o→b≠C:=fun b o e=>qd2 (qc1 (Heap.lt_size e) hC)
 have neL:C≠X.env.locals:=fun z=>by
  obtain ⟨m,⟨o,_,_,ho,_⟩,_⟩:=I2.loc
  exact ne _ o ho z.symm
 obtain ⟨m,hn,_⟩:=J.loc
 show wpAny _ _ (assign (.Name x pos') X.env (.ref D)) _ _ _
 have e:assign (.Name x pos') X.env (.ref D)=(do standAt pos'; bindName X.env x (.ref D)):=by rfl
 rw [e]
 refine wpAny_bind (wpAny_standAt (wpAny_bindName ?_))
 refine Z5V (v:=.ref D) I3 hN hi (.inl hk) rfl (fun s4 I4 ⟨a,sb,ha⟩=>?_) (.inr hk)
 have hCa:C≠a:=by
  rcases ha with z | z
  ·rw [z]; exact neL
  ·obtain ⟨v,o,ho,_⟩:=I2.cell x a z
   exact fun z2=>ne a o ho z2.symm
 refine ⟨m,hn.sameBut sb hCa,fun h' sb'=>⟨_,H',?_,q⟩⟩
 refine I4.turned (t':=s4.toks) (it:=C) (fun b o hb e=>sb'.extBut b o hb e) J.free neL (.inr (qa7 I2.sz hC)) (fun y c e z=>?_) fun p hp z=>?_
 ·obtain ⟨v,o,ho,_⟩:=I2.cell y c e
  exact ne c o ho z
 ·exact ne p.1 _ (I2.pin p hp).1 z
def J2R (i:Nat) (t:TE):TS:=fun D σ H=>t σ H fun v H'=>D.nx (σ.set i (some v)) H'
theorem Z7a (hcalm:X.calm=true) (hN:X.N.Nodup) (hi:X.N[i]?=some x) (hk:X.env.scope.names.lookup x=some .local) (B:BlockOk X N nl scope cl) (hit:PI X tg iter wi) (hg:∀ C fp s H,PG (X.block N scope cl C fp s H) tg g) (he:∀ C fp s H,PE (X.block N scope cl C fp s H) elt te)
  (hs:∀ x,foldedSetIterable iter X.env x=pure x:=by intro _; rfl) (hsw:swapsWith (.ListComp elt [⟨tg,iter,[],0⟩] scope pos) (some (.Name x pos')) spos.line X.env=pure true:=by rfl) :
  PS X (.Assign [.Name x pos'] (.ListComp elt [⟨tg,iter,[],0⟩] scope pos) spos) (J2R i (Z8m wi nl g Z3Y te)):=by
 intro pins s σ H D I h
 rw [exec_Assign_Name_used _ _ _ _ hsw]
 refine wpAny_bind (wpAny_standAt (wpAny_bind ?_))
 show wpAny _ _ (evalThenUse (.ListComp elt [⟨tg,iter,[],0⟩] scope pos) X.env _) _ _ _
 unfold evalThenUse
 refine wpAny_bind ?_
 exact thn (Z3F (Q:=fun v H'=>D.nx (σ.set i (some v)) H') (tst:=fun _=>pure true) (Q':=fun _ s3=>SP X pins D .next s3) hcalm B hit hg (fun _ _ _ _=>J0f) he Z7h hs I h (fun D' C s' s2 fp σ' H' H2 I2 f2 hC J q=>Z6p hN hi hk D' C s' s2 fp σ' H' H2 I2 f2 hC J q) _) fun _ s3 z=>wpAny_pure (wpAny_pure z)
theorem Z1J {c:Expr} (hcalm:X.calm=true) (hN:X.N.Nodup) (hi:X.N[i]?=some x) (hk:X.env.scope.names.lookup x=some .local) (B:BlockOk X N nl scope cl) (hit:PI X tg iter wi) (hg:∀ C fp s H,PG (X.block N scope cl C fp s H) tg g) (hc:∀ C fp s H,PT (X.block N scope cl C fp s H) c tc) (he:∀ C fp s H,PE (X.block N scope cl C fp s H) elt te)
  (hs:∀ x,foldedSetIterable iter X.env x=pure x:=by intro _; rfl) (hsw:swapsWith (.ListComp elt [⟨tg,iter,[c],0⟩] scope pos) (some (.Name x pos')) spos.line X.env=pure true:=by rfl) :
  PS X (.Assign [.Name x pos'] (.ListComp elt [⟨tg,iter,[c],0⟩] scope pos) spos) (J2R i (Z8m wi nl g tc te)):=by
 intro pins s σ H D I h
 rw [exec_Assign_Name_used _ _ _ _ hsw]
 refine wpAny_bind (wpAny_standAt (wpAny_bind ?_))
 show wpAny _ _ (evalThenUse (.ListComp elt [⟨tg,iter,[c],0⟩] scope pos) X.env _) _ _ _
 unfold evalThenUse
 refine wpAny_bind ?_
 exact thn (Z3F (Q:=fun v H'=>D.nx (σ.set i (some v)) H') (tst:=fun env=>isTrue c env (eval c env)) (Q':=fun _ s3=>SP X pins D .next s3) hcalm B hit hg (fun C fp s H=>J2B (hc C fp s H)) he Z8c hs I h (fun D' C s' s2 fp σ' H' H2 I2 f2 hC J q=>Z6p hN hi hk D' C s' s2 fp σ' H' H2 I2 f2 hC J q) _) fun _ s3 z=>wpAny_pure (wpAny_pure z)
end
structure J0b (K:y9) (mg:Str→Option Value) (cn:Str) (C:y8):Prop where
 mgC:mg cn=some (.ref C)
 cl:Cls K C
 mks:W.makesIn K C=true
 kp:W.keepIn K (.ref C)=true
structure MFn (K:y9) (C:y8) (m qual:Str) (st:Stmt):Prop where
 ex:∃ f fd,Fun K m qual st f fd∧Meth K C m f
structure HasM (P:Program) (w:World) (K:y9) (mg:Str→Option Value) (base:Heap) (k:Nat) (C:y8) (m:Str) (ps:List Str) (sp:Sp):Prop where
 ex:∃ f fd,FnOk P w K mg base CX0 k f fd ps sp∧Binds K fd ps []∧Meth K C m f
section
variable {P:Program} {w:World} {K:y9} {mg:Str→Option Value} {base:Heap}
theorem J2n {h:Heap} {cn:Str} {C:y8} (X:K.In h) (G:h.Ns mainGlobals mg) (a:W.nsIn K mainGlobals cn=some (some (.ref C))) (pg:W.plainGet K C Str.empty=true) (hd:W.hasDictIn K C=true) (po:W.plainOver K C=true)
  (sa:W.findIn K (.ref C) "__setattr__"=some (some (.builtin "object.__setattr__"))) (mk:W.makesIn K C=true) (kp:W.keepIn K (.ref C)=true):J0b K mg cn C:=⟨W.mg_of X G a,⟨pg,hd,po,sa⟩,mk,kp⟩
theorem Z0W {C:y8} {f:Str} (h:W.findIn K (.ref C) f=some none):NoAttr K C f:=h
theorem Z1w {C:y8} {m qual:Str} {st:Stmt} {f:y8} {oc:Value} {od an:Option y8} {osl:Array (Option Value)} {kV doc pm cdv ct:Value} (a:W.findIn K (.ref C) m=some (some (.ref f))) (i:W.isFn K (.ref f)=true)
  (l:K.lookup f=some ⟨oc,od,.func (W.fnOf m qual (Z1m st) (Z0Y st) (Z0i st) .none kV doc pm an cdv ct),osl⟩) (c:W.codeIn K cdv qual=true) (k:W.keepIn K (.ref f)=true):MFn K C m qual st:=
 ⟨f,_,J2s l c k,⟨a,i,k⟩⟩
theorem HasM.of {C:y8} {m qual:Str} {st:Stmt} {N ps:List Str} {k:Nat} {sp:Sp} (F:MFn K C m qual st) (S:Z0l N ps (Z0i st))
  (hb:∀ (kV doc pm:Value) (an:Option y8) (cdv ct:Value) (us:List Value),us.length=ps.length→bindArgs (W.fnOf m qual (Z1m st) (Z0Y st) (Z0i st) .none kV doc pm an cdv ct) ⟨us,[]⟩=pure (ps.zip us))
  (len:∀ vs H Q E,sp vs H Q E→vs.length=ps.length)
  (hbody:∀ (f:y8) (cdv:Value) (A:Around) (outer:List Env) (s:Shared) (H:Hp) (vs:List V) (Q:VK) (E:XK),Room k (A.deeper (envOfC qual (Z0i st) s.heap.objs.size f cdv))→sp vs H Q E →
   ∃ t,PSs (cxOf CX0 P w K mg base N qual (Z0i st) f cdv A outer s H E).nox (Z0Y st) t∧t { nx:=fun _ H'=>Q .non H',rt:=Q } (Z4D N vs) H):HasM P w K mg base (k+1) C m ps sp:=by
 obtain ⟨f,fd,F,mm⟩:=F.ex
 exact ⟨f,fd,F.ok S len fun cdv=>hbody f cdv,F.binds hb,mm⟩
end
section
variable {X:Cx} {x m:Str} {ps:List Str} {sp:Sp} {k j:Nat} {C:y8} {o e:Expr} {es:List Expr} {ta:TE} {t:TA} {p pos apos:Pos}
theorem J3H {pl:Sem Bool} (he:PE X o ta) (c:Cls X.K C) (h:HasM X.prog X.w X.K X.mg X.base k C m ps sp) (hr:Room j X.A) (hk:k≤j) (ha:PA X (e::es) t)
  (hst:starEach (e::es) X.env=(false,eval e X.env)::starEach es X.env:=by rfl) (hpl:(backTo pos (starEach es X.env)).any (·.1)=false:=by rfl)
  (ht:eval (.Call (.Attribute o m apos) (e::es) [] pos) X.env=(do
   let ov ← eval o X.env
   standAt apos.atName
   let (f,first) ← holding [ov] (getMethod ov m pl)
   callWith pos f first (backTo pos (starEach (e::es) X.env)) (backToKw pos (keywordEach [] X.env))):=by rfl) :
  PE X (.Call (.Attribute o m apos) (e::es) [] pos) (Z9R C m sp [] E0 ta t):=by
 obtain ⟨f,fd,F,b,mm⟩:=h.ex
 exact J3D he c mm F (hr.mono hk) b .nil J0l ha hst hpl ht
theorem J0W {pl:Sem Bool} (he:PE X o ta) (c:Cls X.K C) (h:HasM X.prog X.w X.K X.mg X.base k C m ps sp) (hr:Room j X.A) (hk:k≤j)
  (ht:eval (.Call (.Attribute o m apos) [] [] pos) X.env=(do
   let ov ← eval o X.env
   standAt apos.atName
   let (f,first) ← holding [ov] (getMethod ov m pl)
   callWith pos f first (backTo pos (starEach [] X.env)) (backToKw pos (keywordEach [] X.env))):=by rfl) :
  PE X (.Call (.Attribute o m apos) [] [] pos) (Z9R C m sp [] E0 ta tNil):=by
 obtain ⟨f,fd,F,b,mm⟩:=h.ex
 exact J1a he c mm F (hr.mono hk) b .nil J0l ht
theorem J3m (c:J0b X.K X.mg x C) (h:HasM X.prog X.w X.K X.mg X.base k C "__init__" ps sp) (hr:Room j X.A) (hk:k+1≤j) (hg:Gl X x) (hdb:(x == ("__debug__":Str))=false:=by decide):PE X (.Call (.Name x p) [] [] pos) (J3t C sp [] E0 tNil):=by
 obtain ⟨f,fd,F,b,mm⟩:=h.ex
 exact J1b ⟨c.mks,mm.at_,mm.fn,c.kp⟩ F (hr.mono hk) hg c.mgC b .nil J0l hdb
end
structure MFnD (K:y9) (C:y8) (m qual:Str) (st:Stmt) (d1 d2:V):Prop where
 ex:∃ (f dA:y8) (oc:Value) (od:Option y8) (kV doc pm:Value) (an:Option y8) (cdv ct:Value) (osl:Array (Option Value)) (o:Obj) (u1 u2:Value) (n:Nat),
  K.lookup f=some ⟨oc,od,.func (W.fnOf m qual (Z1m st) (Z0Y st) (Z0i st) (.ref dA) kV doc pm an cdv ct),osl⟩∧W.codeIn K cdv qual=true∧Meth K C m f ∧
  K.lookup dA=some o∧o.data=.seq #[u1,u2] n∧RelV d1 u1∧RelV d2 u2
structure HasD (P:Program) (w:World) (K:y9) (mg:Str→Option Value) (base:Heap) (k:Nat) (C:y8) (m:Str) (ps:List Str) (sp:Sp) (ks:List Str) (gV:List V→List V→List V):Prop where
 ex:∃ f fd g,FnOk P w K mg base CX0 k f fd ps sp∧Z9o K fd ps ks g gV∧Meth K C m f
def Z9s (C:y8) (sp:Sp) (gV:List V→List V→List V) (E:XK) (t tk:TA):TE:=fun σ H Q=>t σ H fun vs H1=>tk σ H1 fun zs H2=>∀ x dx,H2 x=none→H2 dx=none→dx≠x →
 sp (gV (.ref x::vs) zs) (upd (upd H2 dx (.own x)) x (.ins C dx [])) (fun v H3=>v=.non∧Q (.ref x) H3) E
theorem J4D {C:y8} {sp:Sp} {gV:List V→List V→List V} {E:XK} {t tk:TA} {σ:St} {H:Hp} {Q:VK}:Z9s C sp gV E t tk σ H Q=(t σ H fun vs H1=>tk σ H1 fun zs H2=>∀ x dx,H2 x=none→H2 dx=none→dx≠x →
 sp (gV (.ref x::vs) zs) (upd (upd H2 dx (.own x)) x (.ins C dx [])) (fun v H3=>v=.non∧Q (.ref x) H3) E):=rfl
section
variable {X:Cx} {CX:CXT} {k:Nat} {f C:y8} {fd:FuncData} {ps ks:List Str} {sp:Sp} {E:XK} {x m:Str} {p pos apos kpos:Pos} {e o:Expr} {es:List Expr} {kws:List Keyword} {te ta:TE} {t tk:TA} {nm:Option Str}
variable {g:List Value→List Value→List Value} {gV:List V→List V→List V}
theorem J0K {pins:List (y8×Obj)} {σ:St} {H:Hp} {s:Shared} {Q:VK} {us ws:List Value} {vs zs:List V} (M:Mk X.K C f) (F:FnOk X.prog X.w X.K X.mg X.base CX k f fd ps sp) (hr:Room (k+1) X.A) (hb:Z9o X.K fd ps ks g gV)
  (hx:Z3E CX X E) (I:Inv X pins σ H s) (r:Vals vs us) (rz:Vals zs ws)
  (h:∀ x dx,H x=none→H dx=none→dx≠x→sp (gV (.ref x::vs) zs) (upd (upd H dx (.own x)) x (.ins C dx [])) (fun v H2=>v=.non∧Q (.ref x) H2) E) :
  wpAny (model X.prog X.w) X.A (call (.ref C) us (ks.zip ws)) (EP X pins σ Q) X.xe s:=by
 have hq:=h (s.heap.objs.size+1) s.heap.objs.size (I.hok.fresh (qe9 _)) (I.hok.fresh (qa0 _)) (qd2 (qh0 _))
 have I2:=Inv.made (C:=C) I
 have r2:=hb.rel (.cons (show RelV (V.ref (s.heap.objs.size+1)) (Value.ref (s.heap.objs.size+1)) from rfl) r) rz
 have hl:(g (Value.ref (s.heap.objs.size+1)::us) ws).length=ps.length:=by
  rw [← r2.length]; exact F.len _ _ _ _ hq
 refine wpAny_call (Z8d (f:=f) I.kIn M.makes M.init (beq_iff_eq.mp M.fn) (codeAny_mono (F.run _ X.stack _ _ ⟨Value.ref (s.heap.objs.size+1)::us,ks.zip ws⟩ (g (Value.ref (s.heap.objs.size+1)::us) ws) _ _ E (hr.make C us (ks.zip ws))
  (I2.env0.make C us (ks.zip ws)) (hb.to _ (Value.ref (s.heap.objs.size+1)::us) ws I2.kIn hl) r2 hq) fun r s' hq'=>?_))
 cases r with
 | error e=>exact hx pins σ _ _ e s' I2 hq'
 | ok fl=>
  cases fl with
  | ret u=>
   obtain ⟨v,H',I3,rv,ev,q3⟩:=I2.after hq'
   subst ev
   exact ⟨rv,⟨V.ref (s.heap.objs.size+1),H',I3,rfl,q3⟩⟩
  | next=>exact False.elim hq'
  | brk=>exact False.elim hq'
  | cont=>exact False.elim hq'
theorem J1g (M:Mk X.K C f) (F:FnOk X.prog X.w X.K X.mg X.base CX k f fd ps sp) (hr:Room (k+1) X.A) (hg:Gl X x) (hm:X.mg x=some (.ref C)) (hb:Z9o X.K fd ps ks g gV) (hx:Z3E CX X E)
  (ha:PA X (e::es) t) (hkw:PK X kws tk) (hall:(backToKw pos (keywordEach kws X.env)).all (·.1.isSome)=true:=by rfl) (hks:(backToKw pos (keywordEach kws X.env)).filterMap (·.1)=ks:=by rfl)
  (hdb:(x == ("__debug__":Str))=false:=by decide) (he:starEach (e::es) X.env=(false,eval e X.env)::starEach es X.env:=by rfl)
  (hpl:((backTo pos (starEach (e::es) X.env)).any (·.1) || (backToKw pos (keywordEach kws X.env)).any (·.1.isNone))=false:=by rfl) :
  PE X (.Call (.Name x p) (e::es) kws pos) (Z9s C sp gV E t tk):=by
 intro pins s σ H Q I h
 refine wpAny_Call_Name_kw (Z5w I hg hm ?_ hdb)
 refine W.callWith_KW (h₀:=X.base) I.ok.mod.kin M.kp hall (thn (ha pos pins s σ H _ I h) fun us s1 ⟨vs,H1,I1,r,q⟩=>?_) hpl he
 refine thn (hkw pos pins s1 σ H1 _ I1 q) fun ws s2 ⟨zs,H2,I2,rz,q2⟩=>⟨I2.kIn,?_⟩
 rw [hks]
 exact J0K M F hr hb hx I2 r rz q2
theorem Z7V {j:Nat} (c:J0b X.K X.mg x C) (h:HasD X.prog X.w X.K X.mg X.base k C "__init__" ps sp ks gV) (hr:Room j X.A) (hk:k+1≤j) (hg:Gl X x) (ha:PA X (e::es) t) (hkw:PK X kws tk) (hall:(backToKw pos (keywordEach kws X.env)).all (·.1.isSome)=true:=by rfl) (hks:(backToKw pos (keywordEach kws X.env)).filterMap (·.1)=ks:=by rfl)
  (hdb:(x == ("__debug__":Str))=false:=by decide) (he:starEach (e::es) X.env=(false,eval e X.env)::starEach es X.env:=by rfl)
  (hpl:((backTo pos (starEach (e::es) X.env)).any (·.1) || (backToKw pos (keywordEach kws X.env)).any (·.1.isNone))=false:=by rfl) :
  PE X (.Call (.Name x p) (e::es) kws pos) (Z9s C sp gV E0 t tk):=by
 obtain ⟨f,fd,g,F,b,mm⟩:=h.ex
 exact J1g ⟨c.mks,mm.at_,mm.fn,c.kp⟩ F (hr.mono hk) hg c.mgC b J0l ha hkw hall hks hdb he hpl
end
def Z1G {α:Type} (np nk:Nat) (tl:List α) (us ws:List α):List α:=if us.length=np∧ws.length=nk then us++ws++tl else []
theorem Z2y {α:Type} {np nk:Nat} {tl us ws:List α} (h:us.length=np) (h':ws.length=nk):Z1G np nk tl us ws=us++ws++tl:=if_pos ⟨h,h'⟩
theorem Z3O {np nk:Nat} {tlV:List V} {tl:List Value} (ht:Vals tlV tl) {vs zs:List V} {us ws:List Value} (h:Vals vs us) (h':Vals zs ws):Vals (Z1G np nk tlV vs zs) (Z1G np nk tl us ws):=by
 unfold Z1G
 rw [h.length,h'.length]
 split
 ·exact (h.append h').append ht
 ·exact .nil
section
variable {P:Program} {w:World} {K:y9} {mg:Str→Option Value} {base:Heap}
theorem J2S {C:y8} {m qual:Str} {st:Stmt} {f dA:y8} {oc:Value} {od an:Option y8} {osl:Array (Option Value)} {kV doc pm cdv ct:Value} {o:Obj} {u1 u2:Value} {n:Nat} {d1 d2:V} (a:W.findIn K (.ref C) m=some (some (.ref f))) (i:W.isFn K (.ref f)=true)
  (l:K.lookup f=some ⟨oc,od,.func (W.fnOf m qual (Z1m st) (Z0Y st) (Z0i st) (.ref dA) kV doc pm an cdv ct),osl⟩) (c:W.codeIn K cdv qual=true) (k:W.keepIn K (.ref f)=true)
  (lo:K.lookup dA=some o) (ho:o.data=.seq #[u1,u2] n) (r1:RelV d1 u1) (r2:RelV d2 u2):MFnD K C m qual st d1 d2:=
 ⟨f,dA,oc,od,kV,doc,pm,an,cdv,ct,osl,o,u1,u2,n,l,c,⟨a,i,k⟩,lo,ho,r1,r2⟩
end
end L2
end
section
namespace L2
open PySem PySem.Spec PyProof.Rows PySem.SeqAt
def mono (t:TE):TE:=fun σ H Q=>∃ Q0:VK,t σ H Q0∧∀ v H',Q0 v H'→Q v H'
section
variable {X:Cx} {o e value:Expr} {f:Str} {pos pos' tpos:Pos} {ta tv:TE}
theorem PE.mono {t:TE} (h:PE X e t):PE X e (mono t):=fun pins s σ H Q I ⟨Q0,h0,i⟩=>thn (h pins s σ H Q0 I h0) fun u s1 ⟨x,H1,I1,r,q⟩=>⟨x,H1,I1,r,i _ _ q⟩
def opt2 (o:Option (Option V)) (R:V→Prop):Prop:=match o with
 | some (some v)=>R v
 | _=>False
theorem J4J {v:V} {R:V→Prop}:opt2 (some (some v)) R=R v:=rfl
def Z3s (i:Nat):TE:=fun σ H Q=>opt2 σ[i]? fun v=>Q v H
theorem J6t {i:Nat} {σ:St} {H:Hp} {Q:VK}:Z3s i σ H Q=opt2 σ[i]? fun v=>Q v H:=rfl
theorem J3Z {o:Option (Option V)} {R:V→Prop} (h:opt2 o R):∃ v,o=some (some v)∧R v:=by
 unfold opt2 at h
 split at h
 ·exact ⟨_,rfl,h⟩
 ·cases h
theorem J2T {i:Nat} {x:Str} (hN:X.N[i]?=some x) (hv:Vis X.env.scope x) (hd:(x == ("__debug__":Str))=false:=by decide) (hcd:(x == ("__classdict__":Str))=false:=by decide):PE X (.Name x pos) (Z3s i):=
 fun pins s σ H Q I h=>J2x hN hv hd hcd pins s σ H Q I (J3Z h)
theorem pvF (i:Nat) {x:Str} (hN:X.N[i]?=some x:=by rfl) (hv:Vis X.env.scope x:=by first | exact Or.inl rfl | exact Or.inr (Or.inl rfl) | exact Or.inr (Or.inr rfl)) (hd:(x == ("__debug__":Str))=false:=by decide)
  (hcd:(x == ("__classdict__":Str))=false:=by decide):PE X (.Name x pos) (Z3s i):=J2T hN hv hd hcd
inductive Fld (K:y9) (f:Str) (a:y8) (H:Hp) (Q:VK):Prop
 | mk (C dx:y8) (fs:List (Str×V)) (h:H a=some (.ins C dx fs)) (cl:Cls K C) (n:NoAttr K C f) (v:V) (l:fs.lookup f=some v) (q:Q v H):Fld K f a H Q
def J4g (K:y9) (ta:TE) (f:Str):TE:=fun σ H Q=>ta σ H fun x H1=>∃ a,x=.ref a∧Fld K f a H1 Q
theorem J5Z {K:y9} {σ:St} {H:Hp} {Q:VK}:J4g K ta f σ H Q=ta σ H fun x H1=>∃ a,x=.ref a∧Fld K f a H1 Q:=rfl
theorem J4e (he:PE X e ta) (hb:attributeBase e f X.env (eval e X.env)=eval e X.env):PE X (.Attribute e f pos) (J4g X.K ta f):=by
 intro pins s σ H Q I h
 refine J3e hb (thn (he pins s σ H _ I h) fun u s1 hz=>?_)
 obtain ⟨x,H1,I1,rx,a,ex,hz⟩:=hz
 obtain ⟨C,dx,fs,ea,c,n,v,l,q⟩:=hz
 subst ex
 cases (show u=Value.ref a from rx)
 exact Z4V I1 ea c n l fun u' s2 I2 ru=>⟨v,H1,I2,ru,q⟩
inductive SFld (K:y9) (f:Str) (a:y8) (H:Hp) (R:y8→y8→List (Str×V)→Prop):Prop
 | mk (C dx:y8) (fs:List (Str×V)) (h:H a=some (.ins C dx fs)) (cl:Cls K C) (n:NoAttr K C f) (l:fs.length < 1000) (r:R C dx fs):SFld K f a H R
def J4y (K:y9) (ta tv:TE) (f:Str):TS:=fun D σ H=>tv σ H fun y H1=>ta σ H1 fun x H2=>∃ a,x=.ref a∧SFld K f a H2 fun C dx fs=>D.nx σ (upd H2 a (.ins C dx (putF f y fs)))
theorem J6j {K:y9} {D:Ends} {σ:St} {H:Hp}:J4y K ta tv f D σ H=tv σ H fun y H1=>ta σ H1 fun x H2=>∃ a,x=.ref a∧SFld K f a H2 fun C dx fs=>D.nx σ (upd H2 a (.ins C dx (putF f y fs))):=rfl
theorem Z1v (ha:PE X o ta) (hv:PE X value tv) (hs:swapsWith value (some (.Attribute o f pos')) pos.line X.env=pure false):PS X (.Assign [.Attribute o f pos'] value pos) (J4y X.K ta tv f):=by
 intro pins s σ H D I h
 refine plainObj_wpAny_Assign_Attribute (thn (hv pins s σ H _ I h) fun u s1 ⟨y,H1,I1,ry,q⟩=>thn (ha pins s1 σ H1 _ I1 q) fun ov s2 hz=>?_) hs
 obtain ⟨x,H2,I2,rx,a,ex,hz⟩:=hz
 obtain ⟨C,dx,fs,ea,c,n,l,q2⟩:=hz
 subst ex
 cases (show ov=Value.ref a from rx)
 exact Z5b I2 ea c n l ry fun s3 I3=>⟨σ,_,I3,q2⟩
inductive FldC (K:y9) (f:Str) (a:y8) (H:Hp) (R:y8→V→Prop):Prop
 | mk (C dx:y8) (fs:List (Str×V)) (h:H a=some (.ins C dx fs)) (cl:Cls K C) (n:NoAttr K C f) (v:V) (l:fs.lookup f=some v) (q:R C v):FldC K f a H R
inductive InsC (C a:y8) (H:Hp) (R:y8→List (Str×V)→Prop):Prop
 | mk (dx:y8) (fs:List (Str×V)) (h:H a=some (.ins C dx fs)) (l:fs.length < 1000) (r:R dx fs):InsC C a H R
def Z8f (K:y9) (ta tv:TE) (rd:V→V→Hp→VK→Prop) (f:Str):TS:=fun D σ H=>ta σ H fun x H1=>∃ a,x=.ref a∧FldC K f a H1 fun C v=>
 tv σ H1 fun y H2=>rd v y H2 fun z H3=>InsC C a H3 fun dx' fs'=>D.nx σ (upd H3 a (.ins C dx' (putF f z fs')))
theorem J3X {K:y9} {rd:V→V→Hp→VK→Prop} {D:Ends} {σ:St} {H:Hp}:Z8f K ta tv rd f D σ H=ta σ H fun x H1=>∃ a,x=.ref a∧FldC K f a H1 fun C v=>
 tv σ H1 fun y H2=>rd v y H2 fun z H3=>InsC C a H3 fun dx' fs'=>D.nx σ (upd H3 a (.ins C dx' (putF f z fs'))):=rfl
theorem Z3b {op:Operator} {rd:V→V→Hp→VK→Prop} (ha:PE X o ta) (hv:PE X value tv) (hop:InOp X op rd):PS X (.AugAssign (.Attribute o f tpos) op value pos) (Z8f X.K ta tv rd f):=by
 intro pins s σ H D I h
 refine wpAny_AugAssign_AttributeAny (thn (ha pins s σ H _ I h) fun ov s1 hz=>?_)
 obtain ⟨x,H1,I1,rx,a,ex,hz⟩:=hz
 obtain ⟨C,dx,fs,ea,c,n,v,l,q⟩:=hz
 subst ex
 cases (show ov=Value.ref a from rx)
 refine Z4V I1 ea c n l fun u s2 I2 ru=>thn (hv pins s2 σ H1 _ I2 q) fun w3 s3 ⟨y,H2,I3,ry,q3⟩=>thn (hop pins s3 σ H2 v y u w3 _ I3 ru ry q3) fun w4 s4 ⟨z,H3,I4,rz,hz⟩=>?_
 obtain ⟨dx',fs',ea',l',q4⟩:=hz
 exact Z5b I4 ea' c n l' rz fun s5 I5=>⟨σ,_,I5,q4⟩
inductive Z8U (C:y8) (m:Str) (a:y8) (H:Hp) (R:Prop):Prop
 | mk (dx:y8) (fs:List (Str×V)) (h:H a=some (.ins C dx fs)) (l:fs.lookup m=none) (r:R):Z8U C m a H R
def J0t (C:y8) (m:Str) (sp:Sp) (dvs:List V) (E:XK) (ta:TE) (t:TA):TE:=fun σ H Q=>ta σ H fun x H1=>∃ a,x=.ref a∧Z8U C m a H1 (t σ H1 fun vs H2=>sp (x::(vs++dvs)) H2 Q E)
theorem J5g {C:y8} {m:Str} {sp:Sp} {dvs:List V} {E:XK} {t:TA} {σ:St} {H:Hp} {Q:VK}:J0t C m sp dvs E ta t σ H Q=ta σ H fun x H1=>∃ a,x=.ref a∧Z8U C m a H1 (t σ H1 fun vs H2=>sp (x::(vs++dvs)) H2 Q E):=rfl
variable {C:y8} {m:Str} {ps:List Str} {sp:Sp} {k j:Nat} {es:List Expr} {t:TA} {apos:Pos}
theorem Z0V {pl:Sem Bool} (he:PE X o ta) (c:Cls X.K C) (h:HasM X.prog X.w X.K X.mg X.base k C m ps sp) (hr:Room j X.A) (hk:k≤j) (ha:PA X (e::es) t)
  (hst:starEach (e::es) X.env=(false,eval e X.env)::starEach es X.env:=by rfl) (hpl:(backTo pos (starEach es X.env)).any (·.1)=false:=by rfl)
  (ht:eval (.Call (.Attribute o m apos) (e::es) [] pos) X.env=(do
   let ov ← eval o X.env
   standAt apos.atName
   let (f,first) ← holding [ov] (getMethod ov m pl)
   callWith pos f first (backTo pos (starEach (e::es) X.env)) (backToKw pos (keywordEach [] X.env))):=by rfl) :
  PE X (.Call (.Attribute o m apos) (e::es) [] pos) (J0t C m sp [] E0 ta t):=
 fun pins s σ H Q I h'=>J3H he.mono c h hr hk ha hst hpl ht pins s σ H Q I ⟨_,h',fun _ _ ⟨a,e,dx,fs,h,l,r⟩=>⟨a,dx,fs,e,h,l,r⟩⟩
theorem Z1y {pl:Sem Bool} (he:PE X o ta) (c:Cls X.K C) (h:HasM X.prog X.w X.K X.mg X.base k C m ps sp) (hr:Room j X.A) (hk:k≤j)
  (ht:eval (.Call (.Attribute o m apos) [] [] pos) X.env=(do
   let ov ← eval o X.env
   standAt apos.atName
   let (f,first) ← holding [ov] (getMethod ov m pl)
   callWith pos f first (backTo pos (starEach [] X.env)) (backToKw pos (keywordEach [] X.env))):=by rfl) :
  PE X (.Call (.Attribute o m apos) [] [] pos) (J0t C m sp [] E0 ta tNil):=
 fun pins s σ H Q I h'=>J0W he.mono c h hr hk ht pins s σ H Q I ⟨_,h',fun _ _ ⟨a,e,dx,fs,h,l,r⟩=>⟨a,dx,fs,e,h,l,r⟩⟩
inductive IxT (K:y9) (p:y8) (i:Int) (H:Hp) (Q:VK):Prop
 | mk (xs:List V) (h:SqT K H p xs) (v:V) (l:atI xs i=some v) (q:Q v H):IxT K p i H Q
inductive IxL (K:y9) (p:y8) (i:Int) (H:Hp) (Q:VK):Prop
 | mk (xs:List V) (h:SqL K H p xs) (v:V) (l:atI xs i=some v) (q:Q v H):IxL K p i H Q
def Z4C (K:y9):R2:=fun x y H Q=>∃ p,x=.ref p∧∃ i,y=.int i∧IxT K p i H Q
def J1R (K:y9):R2:=fun x y H Q=>∃ p,x=.ref p∧∃ i,y=.int i∧IxL K p i H Q
theorem J6m {K:y9} {x y:V} {H:Hp} {Q:VK}:Z4C K x y H Q=∃ p,x=.ref p∧∃ i,y=.int i∧IxT K p i H Q:=rfl
theorem J5V {K:y9} {x y:V} {H:Hp} {Q:VK}:J1R K x y H Q=∃ p,x=.ref p∧∃ i,y=.int i∧IxL K p i H Q:=rfl
theorem J0D:IxR X (Z4C X.K):=fun value slice pins s σ H x y v u Q I rx ry ⟨p,e1,i,e2,xs,h,z,l,q⟩ hs=>ix_tup value slice pins s σ H x y v u Q I rx ry ⟨p,xs,i,z,e1,e2,h,l,q⟩ hs
theorem J1v:IxR X (J1R X.K):=fun value slice pins s σ H x y v u Q I rx ry ⟨p,e1,i,e2,xs,h,z,l,q⟩ hs=>ix_list value slice pins s σ H x y v u Q I rx ry ⟨p,xs,i,z,e1,e2,h,l,q⟩ hs
inductive SetL (p:y8) (k:Int) (H:Hp) (R:List V→Nat→Prop):Prop
 | mk (xs:List V) (h:H p=some (.lst xs)) (j:Nat) (l:ixN xs.length k=some j) (r:R xs j):SetL p k H R
def J2E:TSet:=fun o i v H Q=>∃ p,o=.ref p∧∃ k,i=.int k∧SetL p k H fun xs j=>Q (upd H p (.lst (xs.set j v)))
theorem J4A {o i v:V} {H:Hp} {Q:Hp→Prop}:J2E o i v H Q=∃ p,o=.ref p∧∃ k,i=.int k∧SetL p k H fun xs j=>Q (upd H p (.lst (xs.set j v))):=rfl
theorem Z1o:PSet X J2E:=fun pins s σ H o i v ov iv u Q I ro ri rv ⟨p,e1,k,e2,xs,h,j,l,q⟩=>J1K pins s σ H o i v ov iv u Q I ro ri rv ⟨p,xs,k,j,e1,e2,h,l,q⟩
inductive HdOf (vs:List V) (R:V→List V→Prop):Prop
 | mk (v:V) (r:List V) (e:vs=v::r) (q:R v r):HdOf vs R
inductive J3M (K:y9) (a:y8) (n:Nat) (H:Hp) (R:List V→Prop):Prop
 | mk (xs:List V) (h:SqT K H a xs) (l:xs.length=n) (q:R xs):J3M K a n H R
def J4T (K:y9) (n:Nat) (t:TGs):TG:=fun v σ H Q=>∃ a,v=.ref a∧J3M K a n H fun xs=>t xs σ H Q
theorem J6d {K:y9} {n:Nat} {t:TGs} {v:V} {σ:St} {H:Hp} {Q:St→Hp→Prop}:J4T K n t v σ H Q=∃ a,v=.ref a∧J3M K a n H fun xs=>t xs σ H Q:=rfl
def J2c (t:TG) (u:TGs):TGs:=fun vs σ H Q=>HdOf vs fun v r=>t v σ H fun σ' H'=>u r σ' H' Q
theorem J5J {t:TG} {u:TGs} {vs:List V} {σ:St} {H:Hp} {Q:St→Hp→Prop}:J2c t u vs σ H Q=HdOf vs fun v r=>t v σ H fun σ' H'=>u r σ' H' Q:=rfl
theorem Z0p {e:Expr} {es:List Expr} {t:TG} {u:TGs} (h1:PG X e t) (h2:PGs X es u)
  (hs:(assignEach (e::es) X.env).map (·.2)=assign e X.env::(assignEach es X.env).map (·.2):=by rfl):PGs X (e::es) (J2c t u):=
 fun pins s σ H vs us Q I r ⟨v,w,e,q⟩=>J1o h1 h2 hs pins s σ H vs us Q I r ⟨v,w,e,q⟩
theorem Z1X {es:List Expr} {k:Nat} {t:TGs} {n:Nat} (hc:X.calm=true) (h:PGs X es t)
  (hn:(assignEach es X.env).length=n:=by rfl) (hst:(assignEach es X.env).findIdx? (·.1)=none:=by rfl):PG X (.Tuple es k pos) (J4T X.K n t):=
 fun pins s σ H v u Q I r ⟨a,e,xs,h',l,q⟩=>J4q hc h hn hst pins s σ H v u Q I r ⟨a,xs,e,h',l,q⟩
end
@[elab_as_elim] theorem el0 {α:Type} {motive:List α→Prop} (us:List α) (h:us.length=0) (k:motive []):motive us:=match us,h with | [],_=>k 
@[elab_as_elim] theorem el1 {α:Type} {motive:List α→Prop} (us:List α) (h:us.length=1) (k:∀ a:α,motive [a]):motive us:=match us,h with | [a],_=>k a
@[elab_as_elim] theorem el2 {α:Type} {motive:List α→Prop} (us:List α) (h:us.length=2) (k:∀ a b:α,motive [a,b]):motive us:=match us,h with | [a,b],_=>k a b
@[elab_as_elim] theorem el3 {α:Type} {motive:List α→Prop} (us:List α) (h:us.length=3) (k:∀ a b c:α,motive [a,b,c]):motive us:=match us,h with | [a,b,c],_=>k a b c
@[elab_as_elim] theorem el4 {α:Type} {motive:List α→Prop} (us:List α) (h:us.length=4) (k:∀ a b c d:α,motive [a,b,c,d]):motive us:=match us,h with | [a,b,c,d],_=>k a b c d
@[elab_as_elim] theorem el5 {α:Type} {motive:List α→Prop} (us:List α) (h:us.length=5) (k:∀ a b c d e:α,motive [a,b,c,d,e]):motive us:=match us,h with | [a,b,c,d,e],_=>k a b c d e
@[elab_as_elim] theorem el6 {α:Type} {motive:List α→Prop} (us:List α) (h:us.length=6) (k:∀ a b c d e f:α,motive [a,b,c,d,e,f]):motive us:=match us,h with | [a,b,c,d,e,f],_=>k a b c d e f
@[elab_as_elim] theorem el7 {α:Type} {motive:List α→Prop} (us:List α) (h:us.length=7) (k:∀ a b c d e f g:α,motive [a,b,c,d,e,f,g]):motive us:=match us,h with | [a,b,c,d,e,f,g],_=>k a b c d e f g
theorem seq2 {t1 t2:TS} {D:Ends} {σ:St} {H:Hp} (h:∀ u1,u1=t2→t1 { D with nx:=u1 D } σ H):(tSeq t1 t2) D σ H:=h _ rfl
theorem seq3 {t1 t2 t3:TS} {D:Ends} {σ:St} {H:Hp} (h:∀ u2,u2=t3→∀ u1,u1=tSeq t2 u2→t1 { D with nx:=u1 D } σ H):(tSeq t1 (tSeq t2 t3)) D σ H:=h _ rfl _ rfl
theorem seq4 {t1 t2 t3 t4:TS} {D:Ends} {σ:St} {H:Hp} (h:∀ u3,u3=t4→∀ u2,u2=tSeq t3 u3→∀ u1,u1=tSeq t2 u2→t1 { D with nx:=u1 D } σ H):(tSeq t1 (tSeq t2 (tSeq t3 t4))) D σ H:=h _ rfl _ rfl _ rfl
theorem seq5 {t1 t2 t3 t4 t5:TS} {D:Ends} {σ:St} {H:Hp} (h:∀ u4,u4=t5→∀ u3,u3=tSeq t4 u4→∀ u2,u2=tSeq t3 u3→∀ u1,u1=tSeq t2 u2→t1 { D with nx:=u1 D } σ H):(tSeq t1 (tSeq t2 (tSeq t3 (tSeq t4 t5)))) D σ H:=h _ rfl _ rfl _ rfl _ rfl
theorem seq6 {t1 t2 t3 t4 t5 t6:TS} {D:Ends} {σ:St} {H:Hp} (h:∀ u5,u5=t6→∀ u4,u4=tSeq t5 u5→∀ u3,u3=tSeq t4 u4→∀ u2,u2=tSeq t3 u3→∀ u1,u1=tSeq t2 u2→t1 { D with nx:=u1 D } σ H):(tSeq t1 (tSeq t2 (tSeq t3 (tSeq t4 (tSeq t5 t6))))) D σ H:=h _ rfl _ rfl _ rfl _ rfl _ rfl
theorem seq7 {t1 t2 t3 t4 t5 t6 t7:TS} {D:Ends} {σ:St} {H:Hp} (h:∀ u6,u6=t7→∀ u5,u5=tSeq t6 u6→∀ u4,u4=tSeq t5 u5→∀ u3,u3=tSeq t4 u4→∀ u2,u2=tSeq t3 u3→∀ u1,u1=tSeq t2 u2→t1 { D with nx:=u1 D } σ H):(tSeq t1 (tSeq t2 (tSeq t3 (tSeq t4 (tSeq t5 (tSeq t6 t7)))))) D σ H:=h _ rfl _ rfl _ rfl _ rfl _ rfl _ rfl
theorem seq9 {t1 t2 t3 t4 t5 t6 t7 t8 t9:TS} {D:Ends} {σ:St} {H:Hp} (h:∀ u8,u8=t9→∀ u7,u7=tSeq t8 u8→∀ u6,u6=tSeq t7 u7→∀ u5,u5=tSeq t6 u6→∀ u4,u4=tSeq t5 u5→∀ u3,u3=tSeq t4 u4→∀ u2,u2=tSeq t3 u3→∀ u1,u1=tSeq t2 u2→t1 { D with nx:=u1 D } σ H):(tSeq t1 (tSeq t2 (tSeq t3 (tSeq t4 (tSeq t5 (tSeq t6 (tSeq t7 (tSeq t8 t9)))))))) D σ H:=h _ rfl _ rfl _ rfl _ rfl _ rfl _ rfl _ rfl _ rfl
theorem J2Q {t1 t2 t3 t4 t5 t6 t7 t8 t9 t10:TS} {D:Ends} {σ:St} {H:Hp} (h:∀ u9,u9=t10→∀ u8,u8=tSeq t9 u9→∀ u7,u7=tSeq t8 u8→∀ u6,u6=tSeq t7 u7→∀ u5,u5=tSeq t6 u6→∀ u4,u4=tSeq t5 u5→∀ u3,u3=tSeq t4 u4→∀ u2,u2=tSeq t3 u3→∀ u1,u1=tSeq t2 u2→t1 { D with nx:=u1 D } σ H):(tSeq t1 (tSeq t2 (tSeq t3 (tSeq t4 (tSeq t5 (tSeq t6 (tSeq t7 (tSeq t8 (tSeq t9 t10))))))))) D σ H:=h _ rfl _ rfl _ rfl _ rfl _ rfl _ rfl _ rfl _ rfl _ rfl
theorem J4O {t1 t2 t3 t4 t5 t6 t7 t8 t9 t10 t11 t12:TS} {D:Ends} {σ:St} {H:Hp} (h:∀ u11,u11=t12→∀ u10,u10=tSeq t11 u11→∀ u9,u9=tSeq t10 u10→∀ u8,u8=tSeq t9 u9→∀ u7,u7=tSeq t8 u8→∀ u6,u6=tSeq t7 u7→∀ u5,u5=tSeq t6 u6→∀ u4,u4=tSeq t5 u5→∀ u3,u3=tSeq t4 u4→∀ u2,u2=tSeq t3 u3→∀ u1,u1=tSeq t2 u2→t1 { D with nx:=u1 D } σ H):(tSeq t1 (tSeq t2 (tSeq t3 (tSeq t4 (tSeq t5 (tSeq t6 (tSeq t7 (tSeq t8 (tSeq t9 (tSeq t10 (tSeq t11 t12))))))))))) D σ H:=h _ rfl _ rfl _ rfl _ rfl _ rfl _ rfl _ rfl _ rfl _ rfl _ rfl _ rfl
def New (H:Hp) (o:HO) (R:y8→Hp→Prop):Prop:=∀ p,H p=none→R p (upd H p o)
theorem New.of {H:Hp} {o:HO} {R:y8→Hp→Prop} (h:∀ p H',H p=none→Same H H'→H' p=some o→R p H'):New H o R:=fun p hp=>h p _ hp (Z0f hp o) Z0d
theorem J6O {t:TA} {σ:St} {H:Hp} {Q:VK}:tTup t σ H Q=(t σ H fun xs H1=>xs.length≤sizeLine∧New H1 (.tup xs) fun p H2=>Q (.ref p) H2):=rfl
theorem J7h {t:TA} {σ:St} {H:Hp} {Q:VK}:tLst t σ H Q=(t σ H fun xs H1=>xs.length≤sizeLine∧New H1 (.lst xs) fun p H2=>Q (.ref p) H2):=rfl
theorem J7p {K:y9} {x:V} {lo:Option Int} {hi:Option Int} {H:Hp} {Q:VK}:rSlL K x lo hi H Q=(∃ a xs,x=.ref a∧SqL K H a xs∧New H (.lst (cutV xs lo hi)) fun p H2=>Q (.ref p) H2):=rfl
theorem J6M {x:V} {y:V} {H:Hp} {Q:VK}:rCat  x y H Q=(∃ l b xs zs,x=.ref l∧y=.ref b∧H l=some (.lst xs)∧H b=some (.lst zs)∧xs.length+zs.length≤sizeLine∧New H (.lst (xs++zs)) fun p H2=>Q (.ref p) H2):=rfl
end L2
end
section
namespace L2
open PySem PySem.Spec PyProof.Rows
theorem qA (K) (i:Nat) {x:Str} (hN:X.N[i]?=some x:=by rfl) (hv:Vis X.env.scope x:=by first | exact Or.inl rfl | exact Or.inr (Or.inl rfl) | exact Or.inr (Or.inr rfl)) (hd:(x == ("__debug__":Str))=false:=by decide) (hc:(x == ("__classdict__":Str))=false:=by decide) (h:IxR X (Z4C K):=by exact J0D):PE X (.Subscript (.Name x p) (.Constant (.int j) l p2) p3) (tOp (Z4C K) (Z3s i) (tC (.int j))):=Z4c h (pvF i hN hv hd hc) Z0c (fun _ _=>rfl)
theorem qB {k:Nat} (hr:Room k X.A) (i:Nat) {x:Str} (hN:X.N[i]?=some x:=by rfl) (hv:Vis X.env.scope x:=by first | exact Or.inl rfl | exact Or.inr (Or.inl rfl) | exact Or.inr (Or.inr rfl)) (hd:(x == ("__debug__":Str))=false:=by decide) (hc:(x == ("__classdict__":Str))=false:=by decide):PE X (.Subscript (.Name x p) (.Constant (.str y) l p2) p3) (J1T (Z3s i) (tC (.str y))):=J0m (Z3k hr) (pvF i hN hv hd hc) Z0g (fun _ _=>rfl)
theorem qC (K) (ha:PE X a ta) (hb:PE X b tb) (h:IxR X (Z4C K):=by exact J0D) (hs:Z7c b:=by exact fun _ _=>rfl):PE X (.Subscript a b pos) (tOp (Z4C K) ta tb):=Z4c h ha hb hs
theorem qD (K) (ha:PE X a ta) (hb:PE X b tb) (h:IxR X (J1R K):=by exact J1v) (hs:Z7c b:=by exact fun _ _=>rfl):PE X (.Subscript a b pos) (tOp (J1R K) ta tb):=Z4c h ha hb hs
theorem qE {k:Nat} (hr:Room k X.A) (ho:PE X o td) (hi:PE X i ty) (hs:NoSl i:=by exact fun _ _=>rfl):PE X (.Subscript o i pos) (J1T td ty):=J0m (Z3k hr) ho hi hs
theorem qF {x:Str} (h:Has X.prog X.w X.K X.mg X.base k x ps sp) (hr:Room j X.A) (ha:PA X (e::es) t) (hk:k≤j:=by first | decide | omega) (hg:Gl X x:=by exact rfl) (hd:(x == ("__debug__":Str))=false:=by decide) (he:starEach (e::es) X.env=(false,eval e X.env)::starEach es X.env:=by rfl) (hl:(backTo pos (starEach es X.env)).any (·.1)=false:=by rfl):PE X (.Call (.Name x p) (e::es) [] pos) (J1I sp [] E0 t):=J4U h hr hk hg ha hd he hl
theorem qG (i:Nat) {x:Str} {e:Expr} {te:TE} {pos':Pos} (hN:X.N.Nodup) (he:PE X e te) (hi:X.N[i]?=some x:=by exact rfl) (hx:Loc X.env.scope x:=by exact Or.inl rfl) (hs:swapsWith e (some (.Name x pos')) pos.line X.env=pure false:=by rfl) (hf:X.fn x=true∨X.env.scope.names.lookup x=some .local:=by first | exact .inl rfl | exact .inr rfl | assumption):PS X (.Assign [.Name x pos'] e pos) (tAsg te (Z2A i)):=Z7x hN hi hx he hs hf
theorem qH (i:Nat) {x:Str} (hN:X.N.Nodup) (hi:X.N[i]?=some x:=by exact rfl) (hx:Loc X.env.scope x:=by exact Or.inl rfl) (hf:X.fn x=true∨X.env.scope.names.lookup x=some .local:=by first | exact .inl rfl | exact .inr rfl | assumption):PG X (.Name x pos) (Z2A i):=Z6O hN hi hx hf
theorem qI (a:PE X e te) (h:starEach [e] X.env=(false,eval e X.env)::starEach [] X.env:=by rfl):PA X [e] (Z5s te tNil):=Z0r a Z0N h
theorem qJ (a:PE X e te) (b:PE X f tf) (h:starEach [e,f] X.env=(false,eval e X.env)::starEach [f] X.env:=by rfl) (h2:starEach [f] X.env=(false,eval f X.env)::starEach [] X.env:=by rfl):PA X [e,f] (Z5s te (Z5s tf tNil)):=Z0r a (qI b h2) h
theorem qK (a:PE X e te) (b:PE X f tf) (c:PE X g tg) (h:starEach [e,f,g] X.env=(false,eval e X.env)::starEach [f,g] X.env:=by rfl) (h2:starEach [f,g] X.env=(false,eval f X.env)::starEach [g] X.env:=by rfl) (h3:starEach [g] X.env=(false,eval g X.env)::starEach [] X.env:=by rfl):PA X [e,f,g] (Z5s te (Z5s tf (Z5s tg tNil))):=Z0r a (qJ b c h2 h3) h
theorem qL (hm:X.mg "len"=none) (ha:PA X (e::es) t) (hg:Gl X "len":=by exact rfl) (he:starEach (e::es) X.env=(false,eval e X.env)::starEach es X.env:=by rfl) (hl:(backTo pos (starEach es X.env)).any (·.1)=false:=by rfl):PE X (.Call (.Name "len" p) (e::es) [] pos) (tCB (fun xs H Q=>∃ p ys,xs=[.ref p]∧(SqL X.K H p ys∨SqT X.K H p ys)∧Q (.int ys.length) H) t):=Z1R Z6n hg hm J4E ha (he:=he) (hpl:=hl)
theorem qM {op:CmpOp} {r:R2} (ho:OpR X (compareOp op) r) (ha:PE X a ta) (hb:PE X b tb) (h:op≠.In:=by decide) (h2:op≠.NotIn:=by decide):PT X (.Compare a [op] [b] pos) (Z6F (tOp r ta tb)):=Z5q ho ha hb (Z2j _ h h2)
theorem qN {i j p pos}:PE X (.UnaryOp .USub (.Constant (.int i) j p) pos) (tUn (rU fun i=>.int (-i)) (tC (.int i))):=J7f J4r Z0c
theorem qO (i:Nat) {x f:Str} (hN:X.N[i]?=some x:=by rfl) (hv:Vis X.env.scope x:=by first | exact Or.inl rfl | exact Or.inr (Or.inl rfl) | exact Or.inr (Or.inr rfl)) (hd:(x == ("__debug__":Str))=false:=by decide) (hc:(x == ("__classdict__":Str))=false:=by decide) (hb:attributeBase (.Name x p) f X.env (eval (.Name x p) X.env)=eval (.Name x p) X.env:=by exact rfl):PE X (.Attribute (.Name x p) f pos) (J4g X.K (Z3s i) f):=J4e (pvF i hN hv hd hc) hb
end L2
end
section
namespace L2
open PySem
section
variable {K:y9} {i:Nat} {x y:Str} {r:y8} {us:List V} {t u:TS} {D:Ends} {σ:St} {H:Hp}
theorem tR (h:SqT K H r (.str y::us)) {Q:Bool→Hp→Prop} (e:σ[i]?=some (some (.ref r))) (q:Q (decide (V.str y=V.str x)) H):Z6F (tOp rEq (tOp (Z4C K) (Z3s i) (tC (.int 0))) (tC (.str x))) σ H Q:=by
 show opt2 σ[i]? _
 rw [e]
 exact ⟨r,rfl,0,rfl,_,h,_,ix0,J7k,_,rfl,q⟩
theorem ifY (h:SqT K H r (.str x::us)) (e:σ[i]?=some (some (.ref r))) (q:t D σ H):tIfS (Z6F (tOp rEq (tOp (Z4C K) (Z3s i) (tC (.int 0))) (tC (.str x)))) t u D σ H:=
 tR h e (by rw [if_pos (decide_eq_true rfl)]; exact q)
theorem ifN (h:SqT K H r (.str y::us)) (e:σ[i]?=some (some (.ref r))) (q:u D σ H) (n:(y == x)=false:=by decide +kernel):tIfS (Z6F (tOp rEq (tOp (Z4C K) (Z3s i) (tC (.int 0))) (tC (.str x)))) t u D σ H:=
 tR h e (by rw [if_neg fun z=>by have z:=of_decide_eq_true z; injection z with z; rw [z] at n; simp at n]; exact q)
end
end L2
end
section
namespace MM
open PySem L2
open Mach (AV AFr Row Sg Blk MS PL Mem getP updM seen Z0v)
noncomputable def Pr (H:Hp) (v:V) (p:Int×Int):Prop:=∃ t,v=.ref t∧H t=some (.tup [.int p.1,.int p.2])
noncomputable def SqP (H:Hp) (l:y8) (ps:PL):Prop:=∃ rs,H l=some (.lst rs)∧Paired (Pr H) rs ps
noncomputable def At (hd:y8→Prop) (H:Hp) (kvs:List (Key×V)) (k:Int):Option PL→Prop
 | none=>valV kvs (.inl k)=none
 | some ps=>∃ l,valV kvs (.inl k)=some (.ref l)∧¬ hd l∧SqP H l ps
noncomputable def Rep (hd:y8→Prop) (H:Hp) (d:y8) (n:Nat) (m:Mem):Prop:=∃ kvs,H d=some (.dK kvs)∧kvs.length≤n∧∀ k,At hd H kvs k (m k)
noncomputable def SameX (d:y8) (H H':Hp):Prop:=∀ b o,b≠d→H b=some o→H' b=some o
theorem Same.x {H H':Hp} (s:Same H H') (d:y8):SameX d H H':=fun b o _ h=>s b o h
theorem SameX.trans {d:y8} {H H1 H2:Hp} (a:SameX d H H1) (b:SameX d H1 H2):SameX d H H2:=fun c o n h=>b c o n (a c o n h)
theorem Z0G {d:y8} {H:Hp} (o:HO):SameX d H (upd H d o):=fun b u n h=>by rw [Z0e n]; exact h
theorem Prs.mono {H H':Hp} {rs:List V} {ps:PL} (e:∀ t xs,H t=some (.tup xs)→H' t=some (.tup xs)):Paired (Pr H) rs ps→Paired (Pr H') rs ps:=fun h=>Paired.imp' (fun v p ⟨t,a,b⟩=>⟨t,a,e _ _ b⟩) h
theorem SqP.same {H H':Hp} {l:y8} {ps:PL} (h:SqP H l ps) (s:Same H H'):SqP H' l ps:=let ⟨rs,a,b⟩:=h; ⟨rs,s _ _ a,Prs.mono (fun t xs e=>s _ _ e) b⟩
theorem SqP.x {H H':Hp} {d l:y8} {ps:PL} (h:SqP H l ps) (s:SameX d H H') (nl:l≠d) (nt:∀ xs,H d≠some (.tup xs)):SqP H' l ps:=by
 obtain ⟨rs,a,b⟩:=h
 refine ⟨rs,s _ _ nl a,Prs.mono (fun t xs e=>s _ _ (fun z=>nt xs (z▸e)) e) b⟩
theorem At.imp {hd:y8→Prop} {H H':Hp} {kvs:List (Key×V)} {k:Int} {o:Option PL} (h:At hd H kvs k o) (f:∀ l ps,¬ hd l→SqP H l ps→SqP H' l ps):At hd H' kvs k o:=by
 cases o with
 | none=>exact h
 | some ps=>
  obtain ⟨l,a,b,c⟩:=h
  exact ⟨l,a,b,f l ps b c⟩
theorem Rep.same {hd:y8→Prop} {H H':Hp} {d:y8} {n:Nat} {m:Mem} (h:Rep hd H d n m) (s:Same H H'):Rep hd H' d n m:=
 let ⟨kvs,a,b,c⟩:=h; ⟨kvs,s _ _ a,b,fun k=>(c k).imp fun l ps _ q=>q.same s⟩
theorem Rep.hd {hd:y8→Prop} {H H':Hp} {d y:y8} {n:Nat} {m:Mem} (h:Rep hd H d n m) (s:SameX y H H') (hy:hd y) (nd:d≠y) (nt:∀ xs,H y≠some (.tup xs)):Rep hd H' d n m:=by
 obtain ⟨kv,a,b,c⟩:=h
 exact ⟨kv,s _ _ nd a,b,fun k=>(c k).imp fun l ps nl q=>q.x s (fun z=>nl (z▸hy)) nt⟩
theorem Rep.put {hd:y8→Prop} {H:Hp} {d l:y8} {n:Nat} {m:Mem} {k:Int} {ps:PL} {kvs:List (Key×V)} (hd1:H d=some (.dK kvs)) (hn:kvs.length≤n) (hm:∀ k,At hd H kvs k (m k)) (hl:¬ hd l) (q:SqP H l ps) :
  Rep hd (upd H d (.dK (putK kvs (.inl k) (.ref l)))) d (n+1) (updM m k ps):=by
 have fr:∀ l' ps',SqP H l' ps'→SqP (upd H d (.dK (putK kvs (.inl k) (.ref l)))) l' ps':=fun l' ps' q=>q.x (Z0G _) (fun z=>by obtain ⟨rs,a,_⟩:=q; rw [z,hd1] at a; cases a) (fun xs z=>by rw [hd1] at z; cases z)
 refine ⟨_,Z0d,qa7 (Z2i _ _ _) qR,fun j=>?_⟩
 unfold updM
 by_cases hj:j=k
 ·subst hj
  rw [if_pos rfl]
  exact ⟨l,by rw [Z2Y,if_pos rfl],hl,fr l ps q⟩
 ·rw [if_neg hj]
  have:=hm j
  have nj:¬ (Sum.inl j:Key)=Sum.inl k:=fun z=>hj (Sum.inl.inj z)
  cases e:m j with
  | none=>
   rw [e] at this
   show valV _ _=none
   rw [Z2Y,if_neg nj]
   exact this
  | some qs=>
   rw [e] at this
   obtain ⟨l',a,b,c⟩:=this
   exact ⟨l',by rw [Z2Y,if_neg nj]; exact a,b,fr l' qs c⟩
theorem Paired.takeP {α β:Type} {R:α→β→Prop}:∀ {xs:List α} {ys:List β} (n:Nat),Paired R xs ys→Paired R (xs.take n) (ys.take n)
 | _,_,0,_=>.nil
 | _,_,_+1,.nil=>.nil
 | _,_,n+1,.cons r t=>.cons r (Paired.takeP n t)
theorem cut2 (xs:List V):cutV xs none (some 2)=xs.take 2:=by
 unfold cutV
 rw [HT.sIx_none,show (some (2:Int))=some ((2:Nat):Int) from rfl,HT.sIx_nat,qg1,qg2]
 by_cases h:2≤xs.length
 ·rw [qj8 h]
 ·rw [Nat.min_eq_right qR,qg8 (qa0 _),qg8 qR]
theorem Paired.appendP {α β:Type} {R:α→β→Prop}:∀ {xs xs':List α} {ys ys':List β},Paired R xs ys→Paired R xs' ys'→Paired R (xs++xs') (ys++ys')
 | _,_,_,_,.nil,s=>s
 | _,_,_,_,.cons r t,s=>.cons r (Paired.appendP t s)
noncomputable def dP (p:Int×Int):PyData:=.tuple [.int p.1,.int p.2]
theorem Prs.rd {K:y9} {H:Hp}:∀ {rs:List V} {ps:PL},Paired (Pr H) rs ps→RdDs K H rs (ps.map dP)
 | _,_,.nil=>.nil
 | _,_,.cons ⟨t,e,h⟩ r=>by subst e; exact .cons (.tup (SqT.of h) (.cons (.int _) (.cons (.int _) .nil))) (Prs.rd r)
theorem SqP.rd {K:y9} {H:Hp} {l:y8} {ps:PL} (h:SqP H l ps):RdD K H (.ref l) (.list (ps.map dP)):=let ⟨_,a,b⟩:=h; .lst (SqL.of a) (Prs.rd b)
theorem J2d:∀ ps:PL,PyData.canLayAll0 (ps.map dP)=true
 | []=>rfl
 | p::r=>by
  show (PyData.canLay0 (dP p)&&PyData.canLayAll0 (r.map dP))=true
  rw [J2d r]; rfl
theorem Z8i:∀ ps:PL,PyData.depthAll (ps.map dP)≤5
 | []=>by decide
 | p::r=>by
  have:=Z8i r
  show max (PyData.depth (dP p)) (PyData.depthAll (r.map dP))≤5
  have:PyData.depth (dP p)≤5:=by show PyData.depth (.tuple [.int p.1,.int p.2])≤5; simp [PyData.depth,PyData.depthAll]
  omega
theorem Z9O (ps:PL):PySem.SeqAt.shaped (.list (ps.map dP))=true:=by
 unfold PySem.SeqAt.shaped
 have h1:PyData.canLay0 (.list (ps.map dP))=true:=by rw [PyData.canLay0]; exact J2d ps
 have h2:PyData.depth (.list (ps.map dP))≤64:=by rw [PyData.depth]; have:=Z8i ps; omega
 rw [h1,decide_eq_true h2]; rfl
theorem Z8D (ps:PL):PyData.eqv (.list (ps.map dP)) (.list [])=ps.isEmpty:=by
 cases ps with
 | nil=>rw [PyData.eqv]; rfl
 | cons p r=>rw [PyData.eqv]; rfl
theorem Z3e {K:y9} {H:Hp} {D a:y8} {rs:List V} {ps:PL} {tc:TT} {Q:VK} {σ0:St} (rest:St) (pf:Int×Int→Bool) (v0:Option V) (e0:σ0=v0::rest) (ha:SqL K H a rs) (hD:H D=none) (hp:Paired (Pr H) rs ps) (hz:rs.length≤sizeLine)
  (hc:∀ t (p:Int×Int) l K',upd H D (.lst l) t=some (.tup [.int p.1,.int p.2])→K' (pf p) (upd H D (.lst l))→tc (some (.ref t)::rest) (upd H D (.lst l)) K')
  (hQ:∀ rs',Paired (Pr (upd H D (.lst rs'))) rs' (ps.filter pf)→Q (.ref D) (upd H D (.lst rs'))):Z3z (Itl K a) (Z2A 0) tc (Z3s 0) D Q σ0 (upd H D (.lst [])):=by
 have sm:∀ l,Same H (upd H D (.lst l)):=fun l=>Z0f hD _
 let pv:V→Bool:=fun v=>match v with
  | .ref t=>(match H t with | some (.tup [.int i,.int j])=>pf (i,j) | _=>false)
  | _=>false
 have pv_eq:∀ t (p:Int×Int),H t=some (.tup [.int p.1,.int p.2])→pv (.ref t)=pf p:=fun t p h=>by show (match H t with | some (.tup [.int i,.int j])=>pf (i,j) | _=>false)=_; rw [h]
 have mem:∀ {rs:List V} {ps:PL},Paired (Pr H) rs ps→∀ x∈rs,∃ t,∃ p:Int×Int,x=.ref t∧H t=some (.tup [.int p.1,.int p.2]):=by
  intro rs ps h
  induction h with
  | nil=>intro x hx; cases hx
  | cons r _ ih=>
   intro x hx
   rcases qa8.mp hx with e | hx
   ·subst e; obtain ⟨t,e,h⟩:=r; exact ⟨t,_,e,h⟩
   ·exact ih x hx
 have fil:∀ {rs:List V} {ps:PL},Paired (Pr H) rs ps→Paired (Pr H) (rs.filter pv) (ps.filter pf):=by
  intro rs ps h
  induction h with
  | nil=>exact .nil
  | cons r _ ih=>
   obtain ⟨t,e,h⟩:=r
   subst e
   rw [qj9,qj9,pv_eq t _ h]
   cases pf _ with
   | true=>exact .cons ⟨t,rfl,h⟩ ih
   | false=>exact ih
 refine Z5J rs pv (fun v=>v) (fun σ'=>∃ v,σ'=v::rest) (fun x σ'=>σ'=some x::rest) ⟨v0,e0⟩ (fun i l h=>⟨rs,rs[i],(sm l).seq ha,by simp [h]⟩) (fun l=>⟨rs,(sm l).seq ha,qa0 _⟩) (fun i l x H' hi h=>⟨h.1,h.2 rs ((sm l).seq ha)⟩)
  (fun x hx σ' H' K' h1 h2=>?_) (fun x hx σ' l K' h1 h2=>?_) (fun x hx _ σ' l K' h1 h2=>?_) hz ?_
 ·obtain ⟨v,rfl⟩:=h1
  exact h2 _ ⟨_,rfl⟩ rfl
 ·subst h1
  obtain ⟨t,p,rfl,h⟩:=mem hp x hx
  rw [pv_eq t p h] at h2
  exact hc t p l K' (sm l _ _ h) h2
 ·subst h1
  exact h2
 ·rw [List.map_id']
  exact hQ _ (Prs.mono (fun t xs z=>sm _ _ _ z) (fil hp))
open Mach (AV AFr Row Sg Blk MS PL Mem getP updM seen Z0v Bd)
noncomputable def Z5r (n:Int):List V:=if Bd n then [.str "value",.int n] else [.str "refused",.str "great"]
noncomputable def num (sg:Str) (a b:Int):Int:=if sg="+" then a+b else if sg="-" then a - b else if sg="*" then a * b else a.fdiv b
structure Fr where
 n:V
 at_:Int
 sl:List V
 st:List V
noncomputable def FrAt (K:y9) (H:Hp) (a:y8) (F:Fr):Prop:=∃ sa ta,SqT K H a [F.n,.int F.at_,.ref sa,.ref ta]∧SqT K H sa F.sl∧SqT K H ta F.st
theorem FrAt.same {K:y9} {H H':Hp} {a:y8} {F:Fr} (h:FrAt K H a F) (s:Same H H'):FrAt K H' a F:=let ⟨sa,ta,x,y,z⟩:=h; ⟨sa,ta,x.same s,y.same s,z.same s⟩
inductive Z5K (K:y9) (vs:List V) (H:Hp) (Q:VK):Prop
 | mk (a:y8) (m:Nat) (v:V) (F:Fr) (a1:vs=[.ref a,.int m,v]) (a2:FrAt K H a F) (a3:m≤F.st.length) (a4:F.st.length < 100000) (a5:∀ p H',Same H H'→FrAt K H' p ⟨F.n,F.at_+1,F.sl,F.st.take (F.st.length - m)++[v]⟩→Q (.ref p) H'):Z5K K vs H Q
noncomputable def Z2Q (K:y9):Sp:=fun vs H Q _=>Z5K K vs H Q
theorem Z2B (xs:List V) (k:Nat):cutV xs none (some (k:Int))=xs.take k:=by
 unfold cutV
 rw [HT.sIx_none,HT.sIx_nat,qg1,qg2]
 by_cases h:k≤xs.length
 ·rw [qj8 h]
 ·rw [Nat.min_eq_right qR,qg8 (qa0 _),qg8 qR]
inductive Z4X (vs:List V) (H:Hp) (Q:VK):Prop
 | mk (n:_) (a1:vs=[.int n]) (a2:∀ p,H p=none→Q (.ref p) (upd H p (.tup (Z5r n)))):Z4X vs H Q
noncomputable def Z4Y:Sp:=fun vs H Q _=>Z4X  vs H Q
inductive Z3n (vs:List V) (H:Hp) (Q:VK):Prop
 | mk (sg:_) (a:_) (b:_) (a1:vs=[.str sg,.int a,.int b]) (a2:Bd a) (a3:Bd b) (a4:(sg="+"∨sg="-"∨sg="*"∨b≠0)) (a5:Q (.int (num sg a b)) H):Z3n vs H Q
noncomputable def Z3o:Sp:=fun vs H Q _=>Z3n  vs H Q
noncomputable def Z8C (sg:Str) (a b:Int):List V:=if sg="/"∧b=0 then [.str "refused",.str "nought"] else Z5r (num sg a b)
inductive TwoR (K:y9) (H:Hp):Str→V→V→List V→Prop
 | lt (a b:Int):TwoR K H "<" (.int a) (.int b) [.str "value",.bl (decide (a < b))]
 | eq {va vb:V} {da db:PyData}:RdD K H va da→RdD K H vb db→PySem.SeqAt.shaped da=true→PySem.SeqAt.shaped db=true→TwoR K H "=" va vb [.str "value",.bl (PyData.eqv da db)]
 | ar {sg:Str} {a b:Int}:(sg="+"∨sg="-"∨sg="*"∨sg="/")→Bd a→Bd b→TwoR K H sg (.int a) (.int b) (Z8C sg a b)
theorem TwoR.shape {K:y9} {H:Hp} {sg:Str} {x y:V} {r:List V} (h:TwoR K H sg x y r):(∃ why,r=[.str "refused",.str why])∨∃ v,r=[.str "value",v]:=by
 cases h with
 | lt a b=>exact .inr ⟨_,rfl⟩
 | eq=>exact .inr ⟨_,rfl⟩
 | ar=>
  unfold Z8C
  split
  ·exact .inl ⟨_,rfl⟩
  ·unfold Z5r
   split
   ·exact .inr ⟨_,rfl⟩
   ·exact .inl ⟨_,rfl⟩
theorem J6W (st:List V) (x y:V):atI (st++[x,y]) (-1)=some y:=by
 have:=Z0F (st++[x]) y
 rw [qc7] at this
 exact this
theorem J2a (st:List V) (x y:V):atI (st++[x,y]) (-2)=some x:=by
 unfold atI ixN
 rw [if_neg qQ,if_pos (by rw [qa1]; show -((st.length+2:Nat):Int)≤-2; omega)]
 have e:((-2:Int)+((st++[x,y]).length:Int)).toNat=st.length:=by rw [qa1]; show ((-2:Int)+((st.length+2:Nat):Int)).toNat=_; omega
 rw [e]
 show (st++[x,y])[st.length]?=some x
 rw [qd6 (qa0 _),qg3]
 rfl
inductive Z4G (K:y9) (vs:List V) (H:Hp) (Q:VK):Prop
 | mk (sg:_) (va:_) (vb:_) (r:_) (a1:vs=[.str sg,va,vb]) (a2:TwoR K H sg va vb r) (a3:∀ p H',Same H H'→SqT K H' p r→Q (.ref p) H'):Z4G K vs H Q
noncomputable def Z4v (K:y9):Sp:=fun vs H Q _=>Z4G K vs H Q
inductive Z7q (K:y9) (vs:List V) (H:Hp) (Q:VK):Prop
 | mk (tl th:y8) (pl k:Int) (ts:List V) (e ia:y8) (hv:V) (inner:List V) (v:V) (a1:vs=[.ref tl,.ref th,.int pl]) (a2:SqL K H tl ts) (a3:SqT K H th [.str "thing",.int k]) (a4:atI ts k=some (.ref e)) (a5:SqT K H e [hv,.ref ia]) (a6:SqT K H ia inner) (a7:atI inner pl=some v) (a8:Q v H):Z7q K vs H Q
noncomputable def Z7E (K:y9):Sp:=fun vs H Q _=>Z7q K vs H Q
inductive Z4t (K:y9) (vs:List V) (H:Hp) (Q:VK):Prop
 | mk (sg:Str) (a:y8) (F:Fr) (st:List V) (x y:V) (r:List V) (a1:vs=[.str sg,.ref a]) (a2:FrAt K H a F) (a3:F.st=st++[x,y]) (a4:F.st.length < 100000) (a5:TwoR K H sg x y r) (a6:(∀ why p q' H',r=[.str "refused",.str why]→Same H H'→SqT K H' q' r→SqT K H' p [.ref a,.ref q']→Q (.ref p) H')) (a7:∀ v p f' H',r=[.str "value",v]→Same H H'→FrAt K H' f' ⟨F.n,F.at_+1,F.sl,st++[v]⟩→SqT K H' p [.ref f',.non]→Q (.ref p) H'):Z4t K vs H Q
noncomputable def Z4r (K:y9):Sp:=fun vs H Q _=>Z4t K vs H Q
inductive OwnR (K:y9) (H:Hp) (tl:y8) (F:Fr):Str→List V→Fr→Prop
 | push (v:V):OwnR K H tl F "push" [v] ⟨F.n,F.at_+1,F.sl,F.st++[v]⟩
 | load (i:Int) (v:V):atI F.sl i=some v→OwnR K H tl F "load" [.int i] ⟨F.n,F.at_+1,F.sl,F.st++[v]⟩
 | nt (b:Bool) (st:List V):F.st=st++[.bl b]→OwnR K H tl F "not" [] ⟨F.n,F.at_+1,F.sl,st++[.bl (!b)]⟩
 | get (st:List V) (th:y8) (k pl:Int) (ts:List V) (e ia:y8) (hv:V) (inner:List V) (v:V):F.st=st++[.ref th]→SqL K H tl ts→SqT K H th [.str "thing",.int k]→atI ts k=some (.ref e)→SqT K H e [hv,.ref ia]→SqT K H ia inner→atI inner pl=some v→OwnR K H tl F "get" [.int pl] ⟨F.n,F.at_+1,F.sl,st++[v]⟩
 | keep (i:Nat) (v:V) (st:List V):F.st=st++[v]→i < F.sl.length→F.sl.length < 100000→OwnR K H tl F "keep" [.int i] ⟨F.n,F.at_+1,F.sl.take i++[v]++F.sl.drop (i+1),st⟩
 | drop (v:V) (st:List V):F.st=st++[v]→OwnR K H tl F "drop" [] ⟨F.n,F.at_+1,F.sl,st⟩
 | skip (n:Int):OwnR K H tl F "skip" [.int n] ⟨F.n,F.at_+1+n,F.sl,F.st⟩
 | unl (n:Int) (b:Bool) (st:List V):F.st=st++[.bl b]→OwnR K H tl F "unless" [.int n] ⟨F.n,F.at_+1+(if b=true then 0 else n),F.sl,st⟩
theorem Z9t (st:List V) (x:V):List.take ((st++[x]).length - 1) (st++[x])=st:=by
 rw [qa1]
 show List.take (st.length+1 - 1) _=_
 rw [qi6,qi7]
 rfl
theorem Z3y (st:List V) (x:V):cutV (st++[x]) none (some (-1))=st:=by
 unfold cutV
 have e:HT.sIx (st++[x]).length (st++[x]).length (some (-1))=st.length:=by
  show (if (-1:Int) < 0 then ((-1:Int)+((st++[x]).length:Int)).toNat else min (-1:Int).toNat (st++[x]).length)=_
  rw [if_pos qQ,qa1]
  show ((-1:Int)+((st.length+1:Nat):Int)).toNat=_
  omega
 rw [HT.sIx_none,e,qg1,qg2,qi7]
 rfl
theorem Z2c (xs:List V) (k:Nat):cutV xs (some (k:Int)) none=xs.drop k:=by
 unfold cutV
 rw [HT.sIx_none,HT.sIx_nat]
 by_cases h:k≤xs.length
 ·rw [qj8 h,qg8 (by rw [qe5]; omega)]
 ·rw [Nat.min_eq_right qR,qi8 (qa0 _),qi8 qR,List.take_nil]
theorem Z5E (v:V):∀ n:Nat,(qa3 n [v]).flatten=qa3 n v
 | 0=>rfl
 | n+1=>by rw [qg6,qh1,Z5E v n,qg6]; rfl
inductive Z5e (K:y9) (vs:List V) (H:Hp) (Q:VK):Prop
 | mk (b va:y8) (nv m rows:V) (size:Nat) (xs:List V) (a1:vs=[.ref b,nv,.ref va]) (a2:SqT K H b [m,.int size,rows]) (a3:(SqL K H va xs∨SqT K H va xs)) (a4:xs.length≤size) (a5:size < 100000) (a6:∀ p H',Same H H'→FrAt K H' p ⟨nv,0,xs++qa3 (size - xs.length) .non,[]⟩→Q (.ref p) H'):Z5e K vs H Q
noncomputable def Z3M (K:y9):Sp:=fun vs H Q _=>Z5e K vs H Q
noncomputable def J7v:List (Str×Str):=[("add","+"),("sub","-"),("mul","*"),("div","/"),("less","<"),("same","=")]
noncomputable def sgN:Sg→Str
 | .add=>"add"
 | .sub=>"sub"
 | .mul=>"mul"
 | .div=>"div"
 | .less=>"less"
 | .same=>"same"
noncomputable def RowAt (K:y9) (H:Hp) (r:y8):Row→Prop
 | .push v=>∃ x,SqT K H r [.str "push",x]∧AtV K H x v
 | .load i=>SqT K H r [.str "load",.int i]
 | .nt=>SqT K H r [.str "not"]
 | .get pl=>SqT K H r [.str "get",.int pl]
 | .keep i=>SqT K H r [.str "keep",.int i]
 | .drop=>SqT K H r [.str "drop"]
 | .skip n=>SqT K H r [.str "skip",.int n]
 | .unl n=>SqT K H r [.str "unless",.int n]
 | .two g=>SqT K H r [.str (sgN g)]
 | .make h m=>SqT K H r [.str "make",.int h,.int m]
 | .put pl=>SqT K H r [.str "put",.int pl]
 | .call s w m=>SqT K H r [.str "call",.int s,.int w,.int m]
 | .straight b m=>SqT K H r [.str "straight",.int b,.int m]
 | .back=>SqT K H r [.str "back"]
theorem RowAt.t {K:y9} {H H':Hp} {r:y8} {row:Row} (h:RowAt K H r row) (s:SameT H H'):RowAt K H' r row:=by
 cases row with
 | push v=>obtain ⟨x,a,b⟩:=h; exact ⟨x,SqT.t a s,AtV.t b s⟩
 | _=>exact SqT.t h s
noncomputable def RowV (K:y9) (H:Hp) (v:V) (row:Row):Prop:=∃ r,v=.ref r∧RowAt K H r row
noncomputable def BlkAt (K:y9) (H:Hp) (v:V) (b:Blk):Prop:=∃ a ra rs,v=.ref a∧SqT K H a [.int b.params,.int b.size,.ref ra]∧SqT K H ra rs∧Paired (RowV K H) rs b.rows
theorem BlkAt.t {K:y9} {H H':Hp} {v:V} {b:Blk} (h:BlkAt K H v b) (s:SameT H H'):BlkAt K H' v b:=
 let ⟨a,ra,rs,e,x,y,z⟩:=h; ⟨a,ra,rs,e,SqT.t x s,SqT.t y s,Pd.imp (fun _ _ ⟨r,e,q⟩=>⟨r,e,q.t s⟩) z⟩
noncomputable def tabV:Option Nat→V
 | none=>.non
 | some n=>.int n
noncomputable def J6F (K:y9) (H:Hp) (v:V) (t:List (Option Nat)):Prop:=∃ a,v=.ref a∧SqT K H a (t.map tabV)
structure PrAt (K:y9) (H:Hp) (B TT:y8) (P:Mach.Prog):Prop where
 bl:∃ bs,SqT K H B bs∧Paired (BlkAt K H) bs P.blocks
 tb:∃ ts,SqT K H TT ts∧Paired (J6F K H) ts P.tables
theorem PrAt.t {K:y9} {H H':Hp} {B TT:y8} {P:Mach.Prog} (h:PrAt K H B TT P) (s:SameT H H'):PrAt K H' B TT P:=
 ⟨let ⟨bs,a,b⟩:=h.bl; ⟨bs,SqT.t a s,Pd.imp (fun _ _ q=>q.t s) b⟩,let ⟨ts,a,b⟩:=h.tb; ⟨ts,SqT.t a s,Pd.imp (fun _ _ ⟨x,e,q⟩=>⟨x,e,SqT.t q s⟩) b⟩⟩
theorem FrAt.t {K:y9} {H H':Hp} {a:y8} {F:Fr} (h:FrAt K H a F) (s:SameT H H'):FrAt K H' a F:=let ⟨sa,ta,x,y,z⟩:=h; ⟨sa,ta,SqT.t x s,SqT.t y s,SqT.t z s⟩
noncomputable def FrIs (K:y9) (H:Hp) (a:y8) (f:AFr):Prop:=∃ F,FrAt K H a F∧F.n=.int f.n∧F.at_=f.pc∧AtVs K H F.sl f.sl∧AtVs K H F.st f.st.reverse
theorem FrIs.t {K:y9} {H H':Hp} {a:y8} {f:AFr} (h:FrIs K H a f) (s:SameT H H'):FrIs K H' a f:=
 let ⟨F,x,b,c,d,e⟩:=h; ⟨F,x.t s,b,c,AtVs.t d s,AtVs.t e s⟩
noncomputable def FrV (K:y9) (H:Hp) (v:V) (f:AFr):Prop:=∃ a,v=.ref a∧FrIs K H a f
noncomputable def ThV (K:y9) (H:Hp) (v:V) (t:Nat×List AV):Prop:=∃ e ia inner,v=.ref e∧SqT K H e [.int t.1,.ref ia]∧SqT K H ia inner∧AtVs K H inner t.2
theorem FrV.t {K:y9} {H H':Hp} {v:V} {f:AFr} (h:FrV K H v f) (s:SameT H H'):FrV K H' v f:=let ⟨a,e,q⟩:=h; ⟨a,e,q.t s⟩
theorem ThV.t {K:y9} {H H':Hp} {v:V} {t:Nat×List AV} (h:ThV K H v t) (s:SameT H H'):ThV K H' v t:=let ⟨e,ia,inner,a,b,c,d⟩:=h; ⟨e,ia,inner,a,SqT.t b s,SqT.t c s,AtVs.t d s⟩
noncomputable def EndIs (K:y9) (H:Hp) (a:y8):Mach.End→Prop
 | .val x=>∃ y,SqT K H a [.str "value",y]∧AtV K H y x
 | .thing h=>SqT K H a [.str "thing",.int h]∧h < 1000000
 | .dry=>SqT K H a [.str "dry"]
 | .deep=>SqT K H a [.str "deep"]
 | .great=>SqT K H a [.str "refused",.str "great"]
 | .nought=>SqT K H a [.str "refused",.str "nought"]
noncomputable def EndAt (K:y9) (H:Hp) (v:V):Option Mach.End→Prop
 | none=>v=.non
 | some e=>∃ a,v=.ref a∧EndIs K H a e
theorem EndIs.t {K:y9} {H H':Hp} {a:y8} {e:Mach.End} (h:EndIs K H a e) (s:SameT H H'):EndIs K H' a e:=by
 cases e with
 | val x=>obtain ⟨y,p,q⟩:=h; exact ⟨y,SqT.t p s,AtV.t q s⟩
 | thing x=>exact ⟨SqT.t h.1 s,h.2⟩
 | _=>exact SqT.t h s
theorem EndAt.t {K:y9} {H H':Hp} {v:V} {e:Option Mach.End} (h:EndAt K H v e) (s:SameT H H'):EndAt K H' v e:=by
 cases e with
 | none=>exact h
 | some e=>obtain ⟨a,p,q⟩:=h; exact ⟨a,p,q.t s⟩
structure MO where
 x:y8
 dx:y8
 B:y8
 TT:y8
 pl:y8
 dp:y8
 pd:y8
 sk:y8
 md:y8
noncomputable def fsM (o:MO) (P:Mach.Prog) (e:V) (c l h r:Nat):List (Str×V):=[("blocks",.ref o.B),("house_tables",.ref o.TT),("most",.int P.most),("remembers",.bl P.rem),("places",.ref o.pl),("stacked",.ref o.sk),("made",.ref o.md),("ended",e),("call_count",.int c),("look_count",.int l),("hit_count",.int h),("row_count",.int r)]
structure MAt (CM CP:y8) (K:y9) (ex:y8→Prop) (o:MO) (P:Mach.Prog) (s:MS) (H:Hp):Prop where
 ins:∃ e,H o.x=some (.ins CM o.dx (fsM o P e s.calls s.looks s.hits s.rows))∧EndAt K H e s.ended
 pr:PrAt K H o.B o.TT P
 plc:H o.pl=some (.ins CP o.dp [("by_site",.ref o.pd)])
 rep:Rep (fun a=>a=o.sk∨a=o.md∨ex a) H o.pd (s.looks+s.hits) s.mem
 stk:∃ ss,H o.sk=some (.lst ss)∧Paired (FrV K H) ss s.frames.reverse
 mad:∃ ms,H o.md=some (.lst ms)∧Paired (ThV K H) ms s.made
 nxp:o.x≠o.pl
 nsm:o.sk≠o.md
 nex:¬ ex o.x∧¬ ex o.pl∧¬ ex o.pd∧¬ ex o.sk∧¬ ex o.md
 exs:∀ a,ex a→H a≠none
structure Keep (ex:y8→Prop) (H H':Hp):Prop where
 t:SameT H H'
 k:∀ b,ex b→H' b=H b
theorem Keep.trans {ex:y8→Prop} {H H1 H2:Hp} (a:Keep ex H H1) (b:Keep ex H1 H2):Keep ex H H2:=⟨a.t.trans b.t,fun x h=>(b.k x h).trans (a.k x h)⟩
theorem Keep.refl {ex:y8→Prop} (H:Hp):Keep ex H H:=⟨SameT.refl H,fun _ _=>rfl⟩
theorem Same.keep {ex:y8→Prop} {H H':Hp} (s:Same H H') (h:∀ a,ex a→H a≠none):Keep ex H H':=⟨Same.t s,fun b hb=>by
 obtain ⟨u,hu⟩:=qc9.mp (h b hb)
 rw [hu]; exact s _ _ hu⟩
section
variable {CM CP:y8} {K:y9} {ex:y8→Prop} {o:MO} {P:Mach.Prog} {s:MS} {H H':Hp}
theorem MAt.same (M:MAt CM CP K ex o P s H) (e:Same H H'):MAt CM CP K ex o P s H' where
 ins:=let ⟨v,a,b⟩:=M.ins; ⟨v,e _ _ a,b.t (Same.t e)⟩
 pr:=M.pr.t (Same.t e)
 plc:=e _ _ M.plc
 rep:=M.rep.same e
 stk:=let ⟨ss,a,b⟩:=M.stk; ⟨ss,e _ _ a,Pd.imp (fun _ _ q=>q.t (Same.t e)) b⟩
 mad:=let ⟨ms,a,b⟩:=M.mad; ⟨ms,e _ _ a,Pd.imp (fun _ _ q=>q.t (Same.t e)) b⟩
 nxp:=M.nxp
 nsm:=M.nsm
 nex:=M.nex
 exs:=fun a h=>by
  obtain ⟨u,hu⟩:=qc9.mp (M.exs a h)
  rw [e _ _ hu]; simp
theorem MAt.keepS (M:MAt CM CP K ex o P s H) (e:Same H H'):Keep ex H H':=Same.keep e M.exs
theorem MAt.t_ins (M:MAt CM CP K ex o P s H) (u:HO):SameT H (upd H o.x u):=let ⟨_,a,_⟩:=M.ins; Z1I u a J2t
theorem MAt.t_sk (M:MAt CM CP K ex o P s H) (u:HO):SameT H (upd H o.sk u):=let ⟨_,a,_⟩:=M.stk; Z1I u a Z1U
theorem MAt.t_md (M:MAt CM CP K ex o P s H) (u:HO):SameT H (upd H o.md u):=let ⟨_,a,_⟩:=M.mad; Z1I u a Z1U
theorem SqP.lst {H:Hp} {l:y8} {ps:PL} (h:SqP H l ps):∃ rs,H l=some (.lst rs):=let ⟨rs,a,_⟩:=h; ⟨rs,a⟩
theorem Rep.u {hd:y8→Prop} {H:Hp} {d y:y8} {n:Nat} {m:Mem} {u:HO} (h:Rep hd H d n m) (v:HO) (hy:H y=some u) (nd:d≠y) (nt:(∀ xs,u≠.tup xs)∧∀ xs,u≠.lst xs):Rep hd (upd H y v) d n m:=by
 obtain ⟨kv,a,b,c⟩:=h
 refine ⟨kv,by rw [Z0e nd]; exact a,b,fun k=>(c k).imp fun l ps nl q=>?_⟩
 refine q.x (Z0G v) (fun z=>?_) (fun xs z=>by rw [hy] at z; cases z; exact nt.1 _ rfl)
 obtain ⟨rs,e⟩:=SqP.lst q
 rw [z,hy] at e; cases e; exact nt.2 _ rfl
theorem Rep.hd' {hd hd':y8→Prop} {H:Hp} {d:y8} {n:Nat} {m:Mem} (h:Rep hd H d n m) (f:∀ l rs,H l=some (.lst rs)→¬ hd l→¬ hd' l):Rep hd' H d n m:=by
 obtain ⟨kv,a,b,c⟩:=h
 refine ⟨kv,a,b,fun k=>?_⟩
 have:=c k
 cases e:m k with
 | none=>rw [e] at this; exact this
 | some ps=>
  rw [e] at this
  obtain ⟨l,x,y,z⟩:=this
  obtain ⟨rs,hr⟩:=SqP.lst z
  exact ⟨l,x,f l rs hr y,z⟩
theorem Rep.up {hd:y8→Prop} {H:Hp} {d:y8} {n n':Nat} {m:Mem} (h:Rep hd H d n m) (l:n≤n'):Rep hd H d n' m:=let ⟨kvs,a,b,c⟩:=h; ⟨kvs,a,qa7 b l,c⟩
theorem MAt.pdk (M:MAt CM CP K ex o P s H):∃ kvs,H o.pd=some (.dK kvs):=let ⟨kvs,a,_⟩:=M.rep; ⟨kvs,a⟩
theorem MAt.set {s':MS} {e:V} (M:MAt CM CP K ex o P s H) (hf:s'.frames=s.frames) (hm:s'.made=s.made) (hr:s.looks+s.hits≤s'.looks+s'.hits) (hmm:s'.mem=s.mem) (he:EndAt K H e s'.ended) :
  MAt CM CP K ex o P s' (upd H o.x (.ins CM o.dx (fsM o P e s'.calls s'.looks s'.hits s'.rows)))∧Keep ex H (upd H o.x (.ins CM o.dx (fsM o P e s'.calls s'.looks s'.hits s'.rows))):=by
 have t:=M.t_ins (.ins CM o.dx (fsM o P e s'.calls s'.looks s'.hits s'.rows))
 obtain ⟨v,a,b⟩:=M.ins
 obtain ⟨kvs,hk⟩:=M.pdk
 obtain ⟨ss,s1,s2⟩:=M.stk
 obtain ⟨ms,m1,m2⟩:=M.mad
 have nk:o.pd≠o.x:=Z0J hk a (fun z=>by cases z)
 have ns:o.sk≠o.x:=Z0J s1 a (fun z=>by cases z)
 have nm:o.md≠o.x:=Z0J m1 a (fun z=>by cases z)
 refine ⟨⟨⟨e,Z0d,he.t t⟩,M.pr.t t,by rw [Z0e (fun z=>M.nxp z.symm)]; exact M.plc,?_,⟨ss,by rw [Z0e ns]; exact s1,by rw [hf]; exact Pd.imp (fun _ _ q=>q.t t) s2⟩,⟨ms,by rw [Z0e nm]; exact m1,by rw [hm]; exact Pd.imp (fun _ _ q=>q.t t) m2⟩,M.nxp,M.nsm,M.nex,fun y hy=>?_⟩,t,fun y hy=>?_⟩
 ·rw [hmm]
  exact (M.rep.u _ a nk ⟨fun _ z=>(by cases z),fun _ z=>by cases z⟩).up hr
 ·rw [Z0e (show y≠o.x from fun z=>M.nex.1 (z▸hy))]; exact M.exs y hy
 ·rw [Z0e (show y≠o.x from fun z=>M.nex.1 (z▸hy))]
theorem MAt.frames {ss':List V} {fr:List AFr} (M:MAt CM CP K ex o P s H) (hs:Paired (FrV K H) ss' fr.reverse) :
  MAt CM CP K ex o P { s with frames:=fr } (upd H o.sk (.lst ss'))∧Keep ex H (upd H o.sk (.lst ss')):=by
 have t:=M.t_sk (.lst ss')
 obtain ⟨v,a,b⟩:=M.ins
 obtain ⟨kvs,hk⟩:=M.pdk
 obtain ⟨ss,s1,s2⟩:=M.stk
 obtain ⟨ms,m1,m2⟩:=M.mad
 have nk:o.pd≠o.sk:=Z0J hk s1 (fun z=>by cases z)
 have nx:o.x≠o.sk:=Z0J a s1 (fun z=>by cases z)
 have np:o.pl≠o.sk:=Z0J M.plc s1 (fun z=>by cases z)
 refine ⟨⟨⟨v,by rw [Z0e nx]; exact a,b.t t⟩,M.pr.t t,by rw [Z0e np]; exact M.plc,?_,⟨ss',Z0d,Pd.imp (fun _ _ q=>q.t t) hs⟩,⟨ms,by rw [Z0e (fun z=>M.nsm z.symm)]; exact m1,Pd.imp (fun _ _ q=>q.t t) m2⟩,M.nxp,M.nsm,M.nex,fun y hy=>?_⟩,t,fun y hy=>?_⟩
 ·exact M.rep.hd (Z0G _) (.inl rfl) nk (fun xs z=>by rw [s1] at z; cases z)
 ·rw [Z0e (show y≠o.sk from fun z=>M.nex.2.2.2.1 (z▸hy))]; exact M.exs y hy
 ·rw [Z0e (show y≠o.sk from fun z=>M.nex.2.2.2.1 (z▸hy))]
theorem MAt.things {ms':List V} {mm:List (Nat×List AV)} (M:MAt CM CP K ex o P s H) (hs:Paired (ThV K H) ms' mm) :
  MAt CM CP K ex o P { s with made:=mm } (upd H o.md (.lst ms'))∧Keep ex H (upd H o.md (.lst ms')):=by
 have t:=M.t_md (.lst ms')
 obtain ⟨v,a,b⟩:=M.ins
 obtain ⟨kvs,hk⟩:=M.pdk
 obtain ⟨ss,s1,s2⟩:=M.stk
 obtain ⟨ms,m1,m2⟩:=M.mad
 have nk:o.pd≠o.md:=Z0J hk m1 (fun z=>by cases z)
 have nx:o.x≠o.md:=Z0J a m1 (fun z=>by cases z)
 have np:o.pl≠o.md:=Z0J M.plc m1 (fun z=>by cases z)
 refine ⟨⟨⟨v,by rw [Z0e nx]; exact a,b.t t⟩,M.pr.t t,by rw [Z0e np]; exact M.plc,?_,⟨ss,by rw [Z0e M.nsm]; exact s1,Pd.imp (fun _ _ q=>q.t t) s2⟩,⟨ms',Z0d,Pd.imp (fun _ _ q=>q.t t) hs⟩,M.nxp,M.nsm,M.nex,fun y hy=>?_⟩,t,fun y hy=>?_⟩
 ·exact M.rep.hd (Z0G _) (.inr (.inl rfl)) nk (fun xs z=>by rw [m1] at z; cases z)
 ·rw [Z0e (show y≠o.md from fun z=>M.nex.2.2.2.2 (z▸hy))]; exact M.exs y hy
 ·rw [Z0e (show y≠o.md from fun z=>M.nex.2.2.2.2 (z▸hy))]
theorem MAt.mem {m':Mem} {n':Nat} (M:MAt CM CP K ex o P s H) (e:SameX o.pd H H') (r:Rep (fun a=>a=o.sk∨a=o.md∨ex a) H' o.pd n' m') (hn:n'≤s.looks+s.hits) :
  MAt CM CP K ex o P { s with mem:=m' } H'∧Keep ex H H':=by
 obtain ⟨v,a,b⟩:=M.ins
 obtain ⟨kvs,hk⟩:=M.pdk
 obtain ⟨ss,s1,s2⟩:=M.stk
 obtain ⟨ms,m1,m2⟩:=M.mad
 have t:SameT H H':=fun c xs=>⟨fun h=>e _ _ (Z0J h hk (fun z=>by cases z)) h,fun o h=>e _ _ (Z0J h hk (fun z=>by cases z)) h⟩
 refine ⟨⟨⟨v,e _ _ (Z0J a hk (fun z=>by cases z)) a,b.t t⟩,M.pr.t t,e _ _ (Z0J M.plc hk (fun z=>by cases z)) M.plc,r.up hn,⟨ss,e _ _ (Z0J s1 hk (fun z=>by cases z)) s1,Pd.imp (fun _ _ q=>q.t t) s2⟩,⟨ms,e _ _ (Z0J m1 hk (fun z=>by cases z)) m1,Pd.imp (fun _ _ q=>q.t t) m2⟩,M.nxp,M.nsm,M.nex,fun y hy=>?_⟩,t,fun y hy=>?_⟩
 ·obtain ⟨u,hu⟩:=qc9.mp (M.exs y hy)
  rw [e _ _ (fun z=>M.nex.2.2.1 (z▸hy)) hu]; simp
 ·obtain ⟨u,hu⟩:=qc9.mp (M.exs y hy)
  rw [hu]; exact e _ _ (fun z=>M.nex.2.2.1 (z▸hy)) hu
theorem MAt.ends {e:Mach.End} {a q:y8} (M:MAt CM CP K ex o P s H) (he:EndIs K H a e) (hq:upd H o.x (.ins CM o.dx (fsM o P (.ref a) s.calls s.looks s.hits s.rows)) q=none) :
  MAt CM CP K ex { o with sk:=q } P (Mach.ends s e) (upd (upd (upd H o.x (.ins CM o.dx (fsM o P (.ref a) s.calls s.looks s.hits s.rows))) q (.lst [])) o.x (.ins CM o.dx (fsM { o with sk:=q } P (.ref a) s.calls s.looks s.hits s.rows))) ∧
   Keep ex H (upd (upd (upd H o.x (.ins CM o.dx (fsM o P (.ref a) s.calls s.looks s.hits s.rows))) q (.lst [])) o.x (.ins CM o.dx (fsM { o with sk:=q } P (.ref a) s.calls s.looks s.hits s.rows))):=by
 obtain ⟨M1,k1⟩:=M.set (s':={ s with ended:=some e }) (e:=.ref a) rfl rfl (qa0 _) rfl ⟨a,rfl,he⟩
 have s1:=Z0f hq (.lst [])
 have M2:=M1.same s1
 have k2:=M1.keepS s1
 have hql:upd (upd H o.x (.ins CM o.dx (fsM o P (.ref a) s.calls s.looks s.hits s.rows))) q (.lst []) q=some (.lst []):=Z0d
 have fr:∀ b u,upd H o.x (.ins CM o.dx (fsM o P (.ref a) s.calls s.looks s.hits s.rows)) b=some u→b≠q:=fun b u h=>Z0m h hq
 obtain ⟨v,x1,x2⟩:=M1.ins
 obtain ⟨ms,m1,m2⟩:=M1.mad
 obtain ⟨kvs,hk⟩:=M1.pdk
 have nmq:o.md≠q:=fr _ _ m1
 have nxq:o.x≠q:=fr _ _ x1
 have nex:∀ b,ex b→b≠q:=fun b hb=>by
  obtain ⟨u,hu⟩:=qc9.mp (M1.exs b hb)
  exact fr _ _ hu
 have M3:MAt CM CP K ex { o with sk:=q } P { Mach.ends s e with ended:=some e } (upd (upd (upd H o.x (.ins CM o.dx (fsM o P (.ref a) s.calls s.looks s.hits s.rows))) q (.lst [])) o.x (.ins CM o.dx (fsM { o with sk:=q } P (.ref a) s.calls s.looks s.hits s.rows))):=by
  have t:=M2.t_ins (.ins CM o.dx (fsM { o with sk:=q } P (.ref a) s.calls s.looks s.hits s.rows))
  obtain ⟨w,y1,y2⟩:=M2.ins
  obtain ⟨ms',m1',m2'⟩:=M2.mad
  obtain ⟨kvs',hk'⟩:=M2.pdk
  have nk:o.pd≠o.x:=Z0J hk' y1 (fun z=>by cases z)
  have nm:o.md≠o.x:=Z0J m1' y1 (fun z=>by cases z)
  refine ⟨⟨.ref a,Z0d,⟨a,rfl,((he.t k1.t).t (Same.t s1)).t t⟩⟩,M2.pr.t t,by show upd _ _ _ o.pl=_; rw [Z0e (fun z=>M.nxp z.symm)]; exact M2.plc,?_,⟨[],by show upd _ _ _ q=_; rw [Z0e (fun z=>nxq z.symm)]; exact hql,.nil⟩,⟨ms',by show upd _ _ _ o.md=_; rw [Z0e nm]; exact m1',Pd.imp (fun _ _ q=>q.t t) m2'⟩,M.nxp,fun z=>nmq z.symm,⟨M.nex.1,M.nex.2.1,M.nex.2.2.1,fun z=>nex _ z rfl,M.nex.2.2.2.2⟩,fun y hy=>?_⟩
  ·refine Rep.u ?_ _ y1 nk ⟨fun _ z=>(by cases z),fun _ z=>by cases z⟩
   have r1:Rep (fun a=>a=q∨a=o.md∨ex a) (upd H o.x (.ins CM o.dx (fsM o P (.ref a) s.calls s.looks s.hits s.rows))) o.pd (s.looks+s.hits) s.mem:=
    M1.rep.hd' fun l rs hl n z=>by
     rcases z with z | z | z
     ·exact fr _ _ hl z
     ·exact n (.inr (.inl z))
     ·exact n (.inr (.inr z))
   exact r1.same s1
  ·rw [Z0e (show y≠o.x from fun z=>M.nex.1 (z▸hy))]; exact M2.exs y hy
 refine ⟨M3,(k1.trans k2).trans ⟨M2.t_ins _,fun y hy=>by rw [Z0e (show y≠o.x from fun z=>M.nex.1 (z▸hy))]⟩⟩
end
end MM
end
section
namespace L2
open PySem PySem.Spec PyProof.Rows
def J2q (K:y9):List V→Hp→VK→Prop:=fun xs H Q=>∃ p ys,xs=[V.ref p]∧((SqL K H p ys∧∀ (l:y8),H l=none→Q (V.ref l) (upd H l (HO.tup ys)))∨(SqT K H p ys∧Q (V.ref p) H))
theorem J4Z {K:y9} {xs:List V} {H:Hp} {Q:VK}:J2q K xs H Q=(∃ p ys,xs=[V.ref p]∧((SqL K H p ys∧∀ (l:y8),H l=none→Q (V.ref l) (upd H l (HO.tup ys)))∨(SqT K H p ys∧Q (V.ref p) H))):=rfl
def J5F (K:y9):List V→Hp→VK→Prop:=fun xs H Q=>∃ p ys,xs=[V.ref p]∧(SqL K H p ys∨SqT K H p ys)∧∀ (l:y8),H l=none→Q (V.ref l) (upd H l (HO.lst ys))
theorem Z9A {X:Cx}:OpR X (compareOp .IsNot) (fun x y H Q=>∃ a b,x=.bl a∧y=.bl b∧Q (.bl (!(a == b))) H):=by
 intro pins s σ H x y v u Q I rx ry h
 obtain ⟨a,b,rfl,rfl,q⟩:=h
 obtain rfl:v=.bool a:=rx
 obtain rfl:u=.bool b:=ry
 show wpAny _ _ (do return Value.bool (!(← isSame (.bool a) (.bool b)))) _ _ _
 have e:isSame (.bool a) (.bool b)=pure (a == b):=by
  cases a <;> cases b <;> rfl
 rw [e]
 exact wpAny_bind (wpAny_pure (wpAny_pure ⟨.bl _,H,I,rfl,q⟩))
end L2
end
section
namespace L2
open PySem PySem.Spec PyProof.Rows PySem.SeqAt
theorem J6b {td ty:TE} {σ:St} {H:Hp} {Q:VK}:J1T td ty σ H Q=(td σ H fun x H1=>ty σ H1 fun y H2=>∃ a v,x=.ref a∧DGet H2 a y (some v)∧Q v H2):=rfl
theorem J5W {td ty tv:TE} {D:Ends} {σ:St} {H:Hp}:J5h td ty tv D σ H=(tv σ H fun v H1=>td σ H1 fun x H2=>ty σ H2 fun y H3=>∃ a H4,x=.ref a∧DPut H3 a y v H4∧D.nx σ H4):=rfl
theorem J5v {z0:St} {H:Hp} {Q:VK}:J2l  z0 H Q=(∀ p,H p=none→Q (.ref p) (upd H p (.dK []))):=rfl
theorem J5G {td ty tx:TE} {σ:St} {H:Hp} {Q:VK}:J2m td ty tx σ H Q=(td σ H fun x H1=>∃ a,x=.ref a∧IsD H1 a∧ty σ H1 fun y H2=>tx σ H2 fun z H3=>∃ o,DGet H3 a y o∧Q (o.getD z) H3):=rfl
theorem J5X {wi:TI} {nl:List (Option Nat)} {g:TG} {tc:TT} {te:TE} {σ:St} {H:Hp} {Q:VK}:Z8m wi nl g tc te σ H Q=(wi σ H fun J H1=>∀ D,H1 D=none→Z3z J g tc te D Q (stOf nl σ) (upd H1 D (.lst []))):=rfl
theorem J6g {i:Nat} {t:TE} {D:Ends} {σ:St} {H:Hp}:J2R i t D σ H=(t σ H fun v H'=>D.nx (σ.set i (some v)) H'):=rfl
theorem J7r {K:y9} {x:V} {y:V} {H:Hp} {Q:VK}:rEqD K x y H Q=(∃ d e,RdD K H x d∧RdD K H y e∧shaped d=true∧shaped e=true∧Q (.bl (PyData.eqv d e)) H):=rfl
theorem J6A {K:y9} {x:V} {y:V} {H:Hp} {Q:VK}:rNeD K x y H Q=(∃ d e,RdD K H x d∧RdD K H y e∧shaped d=true∧shaped e=true∧Q (.bl (!PyData.eqv d e)) H):=rfl
theorem J4Y {K:y9} {xs:List V} {H:Hp} {Q:VK}:Z8e K xs H Q=(∃ a d,xs=[.ref a]∧RdD K H (.ref a) d∧d.showable=true∧d.hasDict=false∧d.depth≤60∧d.shown.length≤sizeLine∧Q (.str d.shown) H):=rfl
end L2
end
section
namespace L2
open PySem PySem.Spec PyProof.Rows
structure J1X (P:Program) (w:World) (K:y9) (a:y8) (kvs:List (Key×V)):Prop where
 of:∀ h:Heap,K.In h→∃ vs,KV kvs vs∧h.DictOf (Z0Q P w) a vs
 ns:(a == sysModules)=false
section
variable {X:Cx} {o i:Expr} {ty:TE} {pos:Pos} {a:y8} {kvs:List (Key×V)}
def tMIn (kvs:List (Key×V)) (ty:TE):TE:=fun σ H Q=>ty σ H fun y H1=>∃ k,y=kV k∧Q (.bl (valV kvs k).isSome) H1
def J3k (kvs:List (Key×V)) (ty:TE):TE:=fun σ H Q=>ty σ H fun y H1=>∃ k v,y=kV k∧valV kvs k=some v∧Q v H1
theorem J7g {kvs:List (Key×V)} {ty:TE} {σ:St} {H:Hp} {Q:VK}:tMIn kvs ty σ H Q=(ty σ H fun y H1=>∃ k,y=kV k∧Q (.bl (valV kvs k).isSome) H1):=rfl
theorem J5Y {kvs:List (Key×V)} {ty:TE} {σ:St} {H:Hp} {Q:VK}:J3k kvs ty σ H Q=(ty σ H fun y H1=>∃ k v,y=kV k∧valV kvs k=some v∧Q v H1):=rfl
theorem J5w (M:J1X X.prog X.w X.K a kvs) (hi:PE X i ty) (ho:PE X o (tC (.ref a))):PC X .In i o (tMIn kvs ty):=by
 intro pins s σ H Q I h
 refine thn (hi pins s σ H _ I h) fun iv s1 ⟨y,H1,I1,ry,k,ey,q1⟩=>thn (ho pins s1 σ H1 (fun v H'=>v=.ref a∧Q (.bl (valV kvs k).isSome) H') I1 ⟨rfl,q1⟩) fun u s2 ⟨x,H2,I2,rx,ex,q2⟩=>?_
 subst ex ey
 obtain rfl:u=Value.ref a:=rx
 obtain ⟨vs,rel,dd⟩:=M.of _ I2.kIn
 refine wpAny_in_of (Z6Q ry) M.ns dd.mapOf ?_
 rw [← (rel.val k).isSome_eq]
 exact ⟨.bl _,H2,I2.tok _,rfl,q2⟩
theorem J2Z (M:J1X X.prog X.w X.K a kvs) (ho:PE X o (tC (.ref a))) (hi:PE X i ty) (hs:NoSl i):PE X (.Subscript o i pos) (J3k kvs ty):=by
 intro pins s σ H Q I h
 refine J0I PySem.F.slot_dict_getitem.lookup hs (thn (ho pins s σ H (fun v H'=>v=.ref a∧J3k kvs ty σ H' Q) I ⟨rfl,h⟩) fun u s1 ⟨x,H1,I1,rx,ex,q1⟩=>thn (hi pins s1 σ H1 _ I1 q1) fun iv s2 hz_=>?_)
 obtain ⟨y,H2,I2,ry,k,v,ey,l,q2⟩:=hz_
 subst ex ey
 obtain rfl:u=Value.ref a:=rx
 obtain ⟨vs,rel,dd⟩:=M.of _ I2.kIn
 obtain ⟨w',hw,rw'⟩:=RelO.some_of (v:=v) (o:=valueAt vs k) (by rw [← l]; exact rel.val k)
 exact ⟨dd.typeIs,wpAny_getItem_of (Z6Q ry) dd.mapOf hw ⟨v,H2,I2.tok _,rw',q2⟩⟩
end
inductive Ent (w:World):List DictEntry→List (Key×V)→Prop
 | nil:Ent w [] []
 | cons {e:DictEntry} {k:Key} {v:V} {es:List DictEntry} {kvs:List (Key×V)}:Z6N k e.key=true→e.hash=keyH w k→RelV v e.val→Ent w es kvs→Ent w (e::es) ((k,v)::kvs)
theorem Ent.of {P:Program} {w:World}:∀ {es:List DictEntry} {kvs:List (Key×V)},Ent w es kvs→∃ vs,KV kvs vs∧Pairs (Z0Q P w) es vs∧vs.map (·.1)=kvs.map (·.1)∧∀ e∈es,∃ k,(Z0Q P w).is k e.key=true∧e.hash=(Z0Q P w).hash k
 | _,_,.nil=>⟨[],.nil,.nil,rfl,fun _ h=>by cases h⟩
 | _,_,.cons (e:=e) (k:=k) (v:=v) h1 h2 h3 t=>by
  obtain ⟨vs,a,b,c,d⟩:=Ent.of (P:=P) t
  refine ⟨(k,e.val)::vs,.cons ⟨rfl,h3⟩ a,.cons h1 rfl b,by rw [qd5,qd5,c],fun e' he'=>?_⟩
  rcases qa8.mp he' with z | z
  ·subst z; exact ⟨k,h1,h2⟩
  ·exact d e' z
theorem J1y {P:Program} {w:World} {K:y9} {a:y8} {o:Obj} {es:Array DictEntry} {ep:Nat} {kvs:List (Key×V)} (l:K.lookup a=some o) (e:o.ExactDict) (d:o.data=.dict es ep) (p:Ent w es.toList kvs) (nd:(kvs.map (·.1)).Nodup) (ns:(a == sysModules)=false):J1X P w K a kvs:=by
 obtain ⟨vs,h1,h2,h3,h4⟩:=Ent.of (P:=P) p
 exact ⟨fun h hk=>⟨vs,h1,o,es,ep,hk a o l,e,d,fun x hx=>h4 x (by simpa using hx),h2,by rw [h3]; exact nd⟩,ns⟩
def Z9C (H H':Hp):Prop:=∀ b o,(∀ xs,o≠.lst xs)→H b=some o→H' b=some o
theorem Z6l {te:TE} {Q:VK} {H:Hp} {D:y8} {n:Nat} {σ0:St} (v0:Option V) (rest:St) (R:Nat→V→Hp→Prop) (mono:∀ j v H1 H2,R j v H1→Z9C H1 H2→R j v H2) (e0:σ0=v0::rest) (hD:H D=none) (hz:n≤sizeLine)
  (he:∀ i,i < n→∀ H1 (K':VK),Same H H1→(∀ v H2,Same H1 H2→R i v H2→K' v H2)→te (some (.int i)::rest) H1 K')
  (hQ:∀ vs H',Same H H'→H' D=some (.lst vs)→vs.length=n→(∀ j v,vs[j]?=some v→R j v H')→Q (.ref D) H'):Z3z (Itr 0 n) (Z2A 0) Z3Y te D Q σ0 (upd H D (.lst [])):=by
 refine ⟨fun i m σ' H'=>m=n - i∧i≤n∧(∃ v,σ'=v::rest)∧Same H H'∧∃ vs,H' D=some (.lst vs)∧vs.length=i∧∀ j v,vs[j]?=some v→R j v H',⟨n,by simp,qa4 _,⟨v0,e0⟩,Z0f hD _,[],Z0d,rfl,fun j v h=>by simp at h⟩,?_⟩
 rintro i m σ' H' ⟨rfl,hi,⟨v,rfl⟩,s1,vs,hv,hl,hr⟩
 by_cases hlt:i < n
 ·refine .inr ⟨hlt,fun σ2 H2=>(∃ v,σ2=v::rest)∧Same H H2∧∃ vs,H2 D=some (.lst vs)∧vs.length=i+1∧∀ j v,vs[j]?=some v→R j v H2,fun σ2 H2 ⟨a,b,c⟩=>⟨n - (i+1),qR,rfl,hlt,a,b,c⟩,fun x H2 hx=>?_⟩
  obtain ⟨e1,e2⟩:=hx
  subst e1 e2
  unfold Z2A Z3Y
  rw [qi9,qe6]
  refine iteT (he i hlt H2 _ s1 fun v H3 s3 hR=>?_)
  have h3:=s3 _ _ hv
  have sn:Z9C H3 (upd H3 D (.lst (vs++[v]))):=fun b o ho hb=>by
   rw [Z0e (fun z=>by rw [z,h3] at hb; cases hb; exact ho _ rfl)]
   exact hb
  refine ⟨vs,h3,qR,⟨_,rfl⟩,fun b o hb=>?_,_,Z0d,by rw [qa1,hl]; rfl,fun j u hj=>?_⟩
  ·rw [Z0e (Z0m hb hD)]
   exact s3 _ _ (s1 _ _ hb)
  ·by_cases hj':j < vs.length
   ·rw [qd4 hj'] at hj
    exact mono j u _ _ (mono j u _ _ (hr j u hj) fun b o _ hb=>s3 b o hb) sn
   ·rw [qd6 qR] at hj
    have ej:j - vs.length=0:=by
     have:=(qa9.mp hj).1
     simp at this
     omega
    rw [ej] at hj
    cases hj
    have:j=i:=by omega
    subst this
    exact mono _ _ _ _ hR sn
 ·have e:i=n:=by omega
  subst e
  exact .inl ⟨qa0 _,hQ vs H' s1 hv hl hr⟩
theorem Z8s {J:It} {te:TE} {Q:VK} {H:Hp} {D:y8} {ys:List V} {σ0:St} (v0:Option V) (rest:St) (R:Nat→V→Hp→Prop) (mono:∀ j v H1 H2,R j v H1→Z9C H1 H2→R j v H2) (e0:σ0=v0::rest) (hD:H D=none) (hz:ys.length≤sizeLine)
  (j1:∀ i H1,Same H H1→i < ys.length→J.go i H1) (j2:∀ i H1 x H2,Same H H1→J.yld i H1 x H2→H2=H1∧ys[i]?=some x) (j3:∀ H1,Same H H1→J.stop ys.length H1)
  (he:∀ i y,ys[i]?=some y→∀ H1 (K':VK),Same H H1→(∀ v H2,Same H1 H2→R i v H2→K' v H2)→te (some y::rest) H1 K')
  (hQ:∀ vs H',Same H H'→H' D=some (.lst vs)→vs.length=ys.length→(∀ j v,vs[j]?=some v→R j v H')→Q (.ref D) H'):Z3z J (Z2A 0) Z3Y te D Q σ0 (upd H D (.lst [])):=by
 refine ⟨fun i m σ' H'=>m=ys.length - i∧i≤ys.length∧(∃ v,σ'=v::rest)∧Same H H'∧∃ vs,H' D=some (.lst vs)∧vs.length=i∧∀ j v,vs[j]?=some v→R j v H',⟨ys.length,by simp,qa4 _,⟨v0,e0⟩,Z0f hD _,[],Z0d,rfl,fun j v h=>by simp at h⟩,?_⟩
 rintro i m σ' H' ⟨rfl,hi,⟨v,rfl⟩,s1,vs,hv,hl,hr⟩
 by_cases hlt:i < ys.length
 ·refine .inr ⟨j1 i H' s1 hlt,fun σ2 H2=>(∃ v,σ2=v::rest)∧Same H H2∧∃ vs,H2 D=some (.lst vs)∧vs.length=i+1∧∀ j v,vs[j]?=some v→R j v H2,fun σ2 H2 ⟨a,b,c⟩=>⟨ys.length - (i+1),qR,rfl,hlt,a,b,c⟩,fun x H2 hx=>?_⟩
  obtain ⟨e1,e2⟩:=j2 i H' x H2 s1 hx
  subst e1
  unfold Z2A Z3Y
  rw [qi9]
  refine iteT (he i x e2 H2 _ s1 fun v H3 s3 hR=>?_)
  have h3:=s3 _ _ hv
  have sn:Z9C H3 (upd H3 D (.lst (vs++[v]))):=fun b o ho hb=>by
   rw [Z0e (fun z=>by rw [z,h3] at hb; cases hb; exact ho _ rfl)]
   exact hb
  refine ⟨vs,h3,qR,⟨_,rfl⟩,fun b o hb=>?_,_,Z0d,by rw [qa1,hl]; rfl,fun j u hj=>?_⟩
  ·rw [Z0e (Z0m hb hD)]
   exact s3 _ _ (s1 _ _ hb)
  ·by_cases hj':j < vs.length
   ·rw [qd4 hj'] at hj
    exact mono j u _ _ (mono j u _ _ (hr j u hj) fun b o _ hb=>s3 b o hb) sn
   ·rw [qd6 qR] at hj
    have ej:j - vs.length=0:=by
     have:=(qa9.mp hj).1
     simp at this
     omega
    rw [ej] at hj
    cases hj
    have:j=i:=by omega
    subst this
    exact mono _ _ _ _ hR sn
 ·have e:i=ys.length:=by omega
  subst e
  exact .inl ⟨j3 _ s1,hQ vs H' s1 hv hl hr⟩
theorem Z8M {K:y9} {a:y8} {te:TE} {Q:VK} {H:Hp} {D:y8} {ys:List V} {σ0:St} (v0:Option V) (rest:St) (R:Nat→V→Hp→Prop) (mono:∀ j v H1 H2,R j v H1→Z9C H1 H2→R j v H2) (e0:σ0=v0::rest) (hD:H D=none) (hz:ys.length≤sizeLine) (ha:∀ H1,Same H H1→SqL K H1 a ys)
  (he:∀ i y,ys[i]?=some y→∀ H1 (K':VK),Same H H1→(∀ v H2,Same H1 H2→R i v H2→K' v H2)→te (some y::rest) H1 K')
  (hQ:∀ vs H',Same H H'→H' D=some (.lst vs)→vs.length=ys.length→(∀ j v,vs[j]?=some v→R j v H')→Q (.ref D) H'):Z3z (Itl K a) (Z2A 0) Z3Y te D Q σ0 (upd H D (.lst [])):=
 Z8s v0 rest R mono e0 hD hz (fun i H1 s h=>⟨ys,ys[i],ha H1 s,qb2 h⟩) (fun i H1 x H2 s h=>⟨h.1,h.2 ys (ha H1 s)⟩) (fun H1 s=>⟨ys,ha H1 s,qa0 _⟩) he hQ
def IsK (K:y9):Prop:=True
def Ob (H:Hp) (a:y8) (o:HO):Prop:=H a=some o
section
variable {K:y9} {H H' H1 H2:Hp} {a b p:y8} {o u:HO} {xs ys:List V}
theorem J6x:Ob H a o=(H a=some o):=rfl
grind_pattern J6x=>Ob H a o
theorem Ob.new:Ob (upd H p o) p o:=Z0d
grind_pattern Ob.new=>upd H p o
theorem Ob.same (h:Ob H a o) (s:Same H H'):Ob H' a o:=s _ _ h
grind_pattern Ob.same=>Ob H a o,Same H H'
theorem g_su (h:H p=none):Same H (upd H p o):=Z0f h o
grind_pattern g_su=>upd H p o
theorem g_st (h:Same H H1) (h':Same H1 H2):Same H H2:=h.trans h'
grind_pattern g_st=>Same H H1,Same H1 H2
theorem g_sT (h:SqT K H a xs) (s:Same H H'):SqT K H' a xs:=h.same s
grind_pattern g_sT=>SqT K H a xs,Same H H'
theorem g_sL (h:SqL K H a xs) (s:Same H H'):SqL K H' a xs:=h.same s
grind_pattern g_sL=>SqL K H a xs,Same H H'
theorem g_nT (k:IsK K) (h:Ob H a (.tup xs)):SqT K H a xs:=SqT.of h
grind_pattern g_nT=>IsK K,Ob H a (.tup xs)
theorem g_nL (k:IsK K) (h:Ob H a (.lst xs)):SqL K H a xs:=SqL.of h
grind_pattern g_nL=>IsK K,Ob H a (.lst xs)
end
section
variable {α:Type} {x y z u v:α} {xs:List α}
theorem ix2:atI (x::y::z::xs) 2=some z:=by
 have:((2:Int) < (xs.length:Int)+1+1+1):=by omega
 simp [atI,ixN,this]
theorem ix3:atI (x::y::z::u::xs) 3=some u:=by
 have:((3:Int) < (xs.length:Int)+1+1+1+1):=by omega
 simp [atI,ixN,this]
end
end L2
end
section
namespace Mach
theorem Z5h {α:Type} (p:α→Bool):∀ l:List α,(l.filter p).length+(l.filter fun x=>!p x).length=l.length
 | []=>rfl
 | x::l=>by
  have ih:=Z5h p l
  cases e:p x with
  | true=>rw [List.filter_cons_of_pos e,List.filter_cons_of_neg (by rw [e]; decide),qb8,qb8,ql8,ih]
  | false=>rw [List.filter_cons_of_neg (by rw [e]; decide),List.filter_cons_of_pos (by rw [e]; rfl),qb8,qb8,← Nat.add_assoc,ih]
structure OwnS (f:AFr) (r:Row) (g:AFr):Prop where
 n:g.n=f.n
 sl:g.sl.length=f.sl.length
 st:g.st.length≤f.st.length+1
 pc:∃ k,g.pc=f.pc+1+k∧(k=0∨r=.unl k∨r=.skip k)
theorem Z9K {f g:AFr} {made:List (Nat×List AV)} {r:Row} (e:own f made r=some (.inl g)):OwnS f r g:=by
 obtain ⟨n,pc,sl,st⟩:=f
 have z:∀ {sl' st':List AV} {st:List AV} {r:Row},sl'.length=sl.length→st'.length≤st.length+1→OwnS ⟨n,pc,sl,st⟩ r ⟨n,pc+1,sl',st'⟩:=fun a b=>⟨rfl,a,b,0,rfl,.inl rfl⟩
 cases r with
 | push v=>cases e; exact z rfl (qa0 _)
 | load i=>
  obtain ⟨v,_,e⟩:=qb6.mp e
  cases e; exact z rfl (qa0 _)
 | nt=>
  cases st with
  | nil=>cases e
  | cons v st=>
   cases v with
   | bl b=>cases e; exact z rfl (qe9 _)
   | _=>cases e
 | get pl=>
  cases st with
  | nil=>cases e
  | cons v st=>
   cases v with
   | th k=>
    obtain ⟨t,_,e⟩:=qc0.mp e
    obtain ⟨v,_,e⟩:=qb6.mp e
    cases e; exact z rfl (qe9 _)
   | _=>cases e
 | keep i=>
  cases st with
  | nil=>cases e
  | cons v st=>
   change (if i < sl.length then _ else _)=_ at e
   split at e
   ·cases e; exact z (qf2 ..) (qf0 _ 2)
   ·cases e
 | drop=>
  cases st with
  | nil=>cases e
  | cons v st=>cases e; exact z rfl (qf0 _ 2)
 | skip k=>cases e; exact ⟨rfl,rfl,qe9 _,k,rfl,.inr (.inr rfl)⟩
 | unl k=>
  cases st with
  | nil=>cases e
  | cons v st=>
   cases v with
   | bl b=>
    cases b with
    | true=>cases e; exact z rfl (qf0 _ 2)
    | false=>cases e; exact ⟨rfl,rfl,qf0 _ 2,k,rfl,.inr (.inl rfl)⟩
   | _=>cases e
 | two g'=>
  cases st with
  | nil=>cases e
  | cons y st=>
   cases st with
   | nil=>cases e
   | cons x st=>
    obtain ⟨r,_,e⟩:=qb6.mp e
    cases r with
    | inl v=>cases e; exact z rfl (qf0 _ 2)
    | inr q=>cases e
 | _=>cases e
inductive EnS (P:Prog) (s:MS) (f:AFr) (fs:List AFr) (b m:Nat):MS→Prop
 | dry:EnS P s f fs b m (ends s .dry)
 | deep:EnS P s f fs b m (ends { s with calls:=s.calls+1 } .deep)
 | go (k:Blk):P.blocks[b]?=some k→m≤f.st.length→m≤k.size→fs.length+1≤40 →
  EnS P s f fs b m { s with calls:=s.calls+1,frames:=⟨b,0,(f.st.take m).reverse++qa3 (k.size - m) .non,[]⟩::{ f with pc:=f.pc+1,st:=f.st.drop m }::fs }
theorem Z4j {P:Prog} {s s':MS} {f:AFr} {fs:List AFr} {b m:Nat} (e:enter P s f fs b m=some s'):EnS P s f fs b m s':=by
 unfold enter at e
 split at e
 ·cases e; exact .dry
 split at e
 ·cases e; exact .deep
 rename_i h40
 split at e
 ·rename_i hl
  obtain ⟨k,hk,e⟩:=qc0.mp e
  split at e
  ·rename_i hm
   cases e; exact .go k hk hl hm (Nat.le_of_not_lt h40)
  ·cases e
 ·cases e
theorem found_shape {P:Prog} {s s':MS} {h si w b:Nat} (e:found P s h si w=some (b,s')):∃ l g m,s'={ s with looks:=l,hits:=g,mem:=m }∧l+g=s.looks+s.hits+1∧(P.rem=false→m=s.mem) ∧
  (m=s.mem∨m=updM s.mem si ((((h:Int),(b:Int))::getP s.mem si).take 2)∨m=updM s.mem si (seen (getP s.mem si) h++Z0v (getP s.mem si) h)):=by
 unfold found at e
 split at e
 ·rename_i hr
  split at e
  ·cases e; exact ⟨_,_,_,rfl,rfl,fun z=>(by rw [z] at hr; cases hr),.inr (.inr rfl)⟩
  ·obtain ⟨_,_,e⟩:=qb6.mp e
   cases e; exact ⟨_,_,_,rfl,ql8 _ _ _,fun z=>(by rw [z] at hr; cases hr),.inr (.inl rfl)⟩
 ·rename_i hr
  obtain ⟨_,_,e⟩:=qb6.mp e
  cases e; exact ⟨_,_,_,rfl,ql8 _ _ _,fun _=>rfl,.inl rfl⟩
inductive RS (P:Prog) (s:MS) (f:AFr) (fs:List AFr) (r:Row):MS→Prop
 | own (g:AFr):OwnS f r g→RS P s f fs r { s with frames:=g::fs }
 | ends (e:End):RS P s f fs r (ends s e)
 | make (h m:Nat):r=.make h m→m≤f.st.length→RS P s f fs r { s with made:=s.made++[(h,(f.st.take m).reverse)],frames:={ f with pc:=f.pc+1,st:=.th s.made.length::f.st.drop m }::fs }
 | put (v x:AV) (st:List AV) (k pl:Nat) (t:Nat×List AV):f.st=v::x::st→s.made[k]?=some t→RS P s f fs r { s with made:=s.made.set k (t.1,t.2.set pl v),frames:={ f with pc:=f.pc+1,st:=v::st }::fs }
 | call (h si w b m:Nat) (s1:MS) {s':MS}:r=.call si w m→found P s h si w=some (b,s1)→EnS P s1 f fs b m s'→RS P s f fs r s'
 | strt (b m:Nat) {s':MS}:r=.straight b m→EnS P s f fs b m s'→RS P s f fs r s'
 | back (v:AV) (g:AFr) (gs:List AFr):fs=g::gs→RS P s f fs r { s with frames:={ g with st:=v::g.st }::gs }
theorem row_shape {P:Prog} {s s':MS} {f:AFr} {fs:List AFr} {r:Row} (e:rowM P s f fs r=some s'):RS P s f fs r s':=by
 have own_:∀ {r'},Option.map (fun o=>match o with | .inl f'=>({ s with frames:=f'::fs }:MS) | .inr e=>Mach.ends s e) (own f s.made r')=some s'→RS P s f fs r' s':=by
  intro r' e2
  obtain ⟨o,h,e2⟩:=qb6.mp e2
  cases o with
  | inl g=>cases e2; exact .own g (Z9K h)
  | inr x=>cases e2; exact .ends x
 obtain ⟨n,pc,sl,st⟩:=f
 cases r with
 | make h m=>
  change (if m≤st.length then _ else _)=_ at e
  split at e
  ·rename_i hm
   cases e; exact .make h m rfl hm
  ·cases e
 | put pl=>
  cases st with
  | nil=>cases e
  | cons v st=>
   cases st with
   | nil=>cases e
   | cons x st=>
    cases x with
    | th k=>
     obtain ⟨t,ht,e⟩:=qc0.mp e
     split at e
     ·cases e; exact .put v _ st k pl t rfl ht
     ·cases e
    | _=>cases e
 | call si w m=>
  change (match (st.take m).reverse with | .th k::_=>if m≤st.length then (s.made[k]?).bind fun t=>(found P s t.1 si w).bind fun r=>enter P r.2 ⟨n,pc,sl,st⟩ fs r.1 m else none | _=>none)=_ at e
  generalize (st.take m).reverse=q at e
  cases q with
  | nil=>cases e
  | cons x q=>
   cases x with
   | th k=>
    change (if m≤st.length then _ else _)=_ at e
    split at e
    ·obtain ⟨t,_,e⟩:=qc0.mp e
     obtain ⟨⟨b,s1⟩,h,e⟩:=qc0.mp e
     exact .call t.1 si w b m s1 rfl h (Z4j e)
    ·cases e
   | _=>cases e
 | straight b m=>exact .strt b m rfl (Z4j e)
 | back=>
  cases st with
  | nil=>cases e
  | cons v st=>
   cases fs with
   | nil=>
    cases v with
    | th k=>
     obtain ⟨t,_,e⟩:=qb6.mp e
     cases e; exact .ends _
    | _=>cases e; exact .ends _
   | cons g gs=>cases e; exact .back v g gs rfl
 | push v=>exact own_ (r':=.push v) e
 | skip n=>exact own_ (r':=.skip n) e
 | _=>exact own_ e
theorem Z5a {P:Prog} {s s':MS} (e:step P s=some s'):∃ f fs r,s.ended=none∧s.frames=f::fs∧row? P f=some r∧RS P { s with rows:=s.rows+1 } f fs r s':=by
 obtain ⟨fr,made,en,c,l,hh,rows,mem⟩:=s
 cases en with
 | some _=>cases e
 | none=>
  cases fr with
  | nil=>cases e
  | cons f fs=>
   obtain ⟨r,hr,e⟩:=qc0.mp e
   exact ⟨f,fs,r,rfl,rfl,hr,row_shape e⟩
structure Sz (n:Nat) (s:MS):Prop where
 fr:∀ f∈s.frames,f.st.length≤n∧f.sl.length < 900
 fl:s.frames.length≤n+1
 md:s.made.length≤n
 mi:∀ t∈s.made,t.2.length≤n∧t.1 < 1000
 lh:s.looks+s.hits≤n
 mm:∀ k,(getP s.mem k).length≤2∧∀ p∈getP s.mem k,0≤p.2
structure PSz (P:Prog):Prop where
 bk:∀ b∈P.blocks,b.size < 900
 mkh:∀ b∈P.blocks,∀ r∈b.rows,∀ h m,r=.make h m→h < 1000
theorem Sz.fr' {n:Nat} {s:MS} {f:AFr} {fs:List AFr} (h:Sz n s) (e:s.frames=f::fs):f.st.length≤n∧f.sl.length < 900:=h.fr f (by rw [e]; exact qb5)
theorem Sz.rest {n:Nat} {s:MS} {f:AFr} {fs:List AFr} (h:Sz n s) (e:s.frames=f::fs):(∀ g∈fs,g.st.length≤n∧g.sl.length < 900)∧fs.length≤n:=by
 refine ⟨fun g hg=>h.fr g (by rw [e]; exact qb1 _ hg),?_⟩
 have:=h.fl
 rw [e,qb8] at this
 omega
theorem Sz.fram {n:Nat} {s:MS} {g:AFr} {fs:List AFr} {k:Nat} (h:Sz n s) (hg:g.st.length≤n+1∧g.sl.length < 900) (hr:(∀ g∈fs,g.st.length≤n∧g.sl.length < 900)∧fs.length≤n):Sz (n+1) { s with rows:=k,frames:=g::fs } where
 fr:=fun f hf=>(qa8.mp hf).elim (fun e=>e▸hg) fun hf=>⟨qd1 (hr.1 f hf).1,(hr.1 f hf).2⟩
 fl:=qd7 (qd1 hr.2)
 md:=qd1 h.md
 mi:=fun t ht=>⟨qd1 (h.mi t ht).1,(h.mi t ht).2⟩
 lh:=qd1 h.lh
 mm:=h.mm
theorem Sz.up {n:Nat} {s:MS} {k:Nat} (h:Sz n s):Sz (n+1) { s with rows:=k } where
 fr:=fun f hf=>⟨qd1 (h.fr f hf).1,(h.fr f hf).2⟩
 fl:=qd1 h.fl
 md:=qd1 h.md
 mi:=fun t ht=>⟨qd1 (h.mi t ht).1,(h.mi t ht).2⟩
 lh:=qd1 h.lh
 mm:=h.mm
theorem Sz.ends {n:Nat} {s:MS} {e:End} (h:Sz n s):Sz n (ends s e) where
 fr:=fun f hf=>by cases hf
 fl:=qa4 _
 md:=h.md
 mi:=h.mi
 lh:=h.lh
 mm:=h.mm
theorem Z7o {m:Mem} {k j:Int} {ps:PL} (h:∀ k,(getP m k).length≤2∧∀ p∈getP m k,0≤p.2) (hp:ps.length≤2∧∀ p∈ps,0≤p.2):(getP (updM m k ps) j).length≤2∧∀ p∈getP (updM m k ps) j,0≤p.2:=by
 unfold getP updM
 by_cases e:j=k
 ·rw [if_pos e]; exact hp
 ·rw [if_neg e]; exact h j
theorem found_sz {P:Prog} {n:Nat} {s s':MS} {house site word b:Nat} (h:Sz n s) (e:found P s house site word=some (b,s')):s'.frames=s.frames∧s'.made=s.made∧s'.calls=s.calls∧s'.ended=s.ended∧s'.rows=s.rows∧s'.looks+s'.hits=s.looks+s.hits+1∧∀ k,(getP s'.mem k).length≤2∧∀ p∈getP s'.mem k,0≤p.2:=by
 obtain ⟨l,g,m,rfl,hl,_,hm⟩:=found_shape e
 refine ⟨rfl,rfl,rfl,rfl,rfl,hl,fun k=>?_⟩
 have h1:=h.mm
 rcases hm with rfl | rfl | rfl
 ·exact h1 k
 ·refine Z7o h1 ⟨List.length_take_le _ _,fun p hp=>?_⟩
  rcases qa8.mp (ql9 hp) with rfl | hp
  ·exact Int.natCast_nonneg _
  ·exact (h1 _).2 p hp
 ·refine Z7o h1 ⟨?_,fun p hp=>(h1 site).2 p ?_⟩
  ·rw [qa1]
   unfold seen Z0v
   rw [Z5h]
   exact (h1 site).1
  ·exact (qd9.mp hp).elim (fun hp=>(qd8.mp hp).1) fun hp=>(qd8.mp hp).1
theorem EnS.sz {P:Prog} {n:Nat} {s s':MS} {f:AFr} {fs:List AFr} {b m:Nat} (p:PSz P) (h:Sz n s) (hf:f.st.length≤n∧f.sl.length < 900) (hr:(∀ g∈fs,g.st.length≤n∧g.sl.length < 900)∧fs.length < n) (e:EnS P s f fs b m s'):Sz n s':=by
 cases e with
 | dry=>exact h.ends
 | deep=>exact ⟨fun f hf=>(by cases hf),qa4 _,h.md,h.mi,h.lh,h.mm⟩
 | go k hk hl hm _=>
  refine ⟨fun g hg=>?_,qd7 hr.2,h.md,h.mi,h.lh,h.mm⟩
  rcases qa8.mp hg with rfl | hg
  ·refine ⟨qa4 _,?_⟩
   show ((f.st.take m).reverse++qa3 (k.size - m) AV.non).length < 900
   rw [qa1,qc2,qc4,qd3,qj8 hl,Nat.add_sub_cancel' hm]
   exact p.bk k (qb9 hk)
  ·rcases qa8.mp hg with rfl | hg
   ·refine ⟨?_,hf.2⟩
    show (f.st.drop m).length≤n
    rw [qe5]; exact qa7 (Nat.sub_le _ _) hf.1
   ·exact hr.1 g hg
theorem step_sz {P:Prog} {n:Nat} {s s':MS} (p:PSz P) (h:Sz n s) (e:step P s=some s'):Sz (n+1) s':=by
 obtain ⟨f,fs,r,he,hfr,hrow,q⟩:=Z5a e
 clear e
 have hf:=h.fr' hfr
 have hre:=h.rest hfr
 have hu:Sz (n+1) { s with rows:=s.rows+1 }:=h.up
 have hf1:f.st.length≤n+1∧f.sl.length < 900:=⟨qd1 hf.1,hf.2⟩
 have hr1:(∀ g∈fs,g.st.length≤n+1∧g.sl.length < 900)∧fs.length < n+1:=⟨fun g hg=>⟨qd1 (hre.1 g hg).1,(hre.1 g hg).2⟩,Nat.lt_succ_of_le hre.2⟩
 cases q with
 | own g o=>exact h.fram ⟨qa7 o.st (qd7 hf.1),o.sl▸hf.2⟩ hre
 | ends e=>exact hu.ends
 | make hh m er hm=>
  subst er
  obtain ⟨b,hb,hr⟩:=qc0.mp hrow
  refine ⟨fun g hg=>?_,qd7 (qd1 hre.2),?_,fun t ht=>?_,hu.lh,h.mm⟩
  ·rcases qa8.mp hg with rfl | hg
   ·refine ⟨?_,hf.2⟩
    show (f.st.drop m).length+1≤n+1
    rw [qe5]; exact qd7 (qa7 (Nat.sub_le _ _) hf.1)
   ·exact hr1.1 g hg
  ·show (s.made++[_]).length≤n+1
   rw [qa1]; exact qd7 h.md
  ·rcases qd9.mp ht with ht | ht
   ·exact hu.mi t ht
   ·rcases qc3.mp ht with rfl
    refine ⟨?_,p.mkh b (qb9 hb) _ (qb9 hr) hh m rfl⟩
    show (f.st.take m).reverse.length≤n+1
    rw [qc2,qc4]; exact qa7 (Nat.min_le_right _ _) hf1.1
 | put v x st k pl t hst ht=>
  have hl:=hf.1
  rw [hst] at hl
  refine ⟨fun g hg=>?_,qd7 (qd1 hre.2),?_,fun u hu'=>?_,hu.lh,h.mm⟩
  ·rcases qa8.mp hg with rfl | hg
   ·exact ⟨qa7 (qe9 _) (qd1 hl),hf.2⟩
   ·exact hr1.1 g hg
  ·show (s.made.set _ _).length≤_
   rw [qf2]; exact hu.md
  ·rcases List.mem_or_eq_of_mem_set hu' with hu' | rfl
   ·exact hu.mi u hu'
   ·have q:=hu.mi t (qb9 ht)
    refine ⟨?_,q.2⟩
    show (t.2.set pl v).length≤_
    rw [qf2]; exact q.1
 | call hh si w b m s1 er hb en=>
  obtain ⟨a1,a2,a3,a4,a5,a6,a7⟩:=found_sz hu hb
  exact EnS.sz p ⟨by rw [a1]; exact hu.fr,by rw [a1]; exact hu.fl,by rw [a2]; exact hu.md,by rw [a2]; exact hu.mi,by rw [a6]; exact qd7 h.lh,a7⟩ hf1 hr1 en
 | strt b m er en=>exact EnS.sz p hu hf1 hr1 en
 | back v g gs eg=>
  subst eg
  have hg:=hre.1 g qb5
  refine ⟨fun x hx=>?_,qd1 (qd1 hre.2),hu.md,hu.mi,hu.lh,h.mm⟩
  rcases qa8.mp hx with rfl | hx
  ·exact ⟨qd7 hg.1,hg.2⟩
  ·exact hr1.1 x (qb1 _ hx)
end Mach
end
section
namespace MM
open PySem L2
open Mach (AV AFr Row Sg Blk MS PL Mem getP updM seen Z0v Bd)
section
variable {o:MO} {P:Mach.Prog} {e v:V} {c l h r:Nat}
theorem J1L:putF "ended" v (fsM o P e c l h r)=fsM o P v c l h r:=rfl
theorem Z8v {q:y8}:putF "stacked" (.ref q) (fsM o P e c l h r)=fsM { o with sk:=q } P e c l h r:=rfl
theorem J1l {c':Nat}:putF "call_count" (.int c') (fsM o P e c l h r)=fsM o P e c' l h r:=rfl
theorem Z7d {c':Nat}:putF "look_count" (.int c') (fsM o P e c l h r)=fsM o P e c c' h r:=rfl
theorem J3o {c':Nat}:putF "hit_count" (.int c') (fsM o P e c l h r)=fsM o P e c l c' r:=rfl
theorem J3E {c':Nat}:putF "row_count" (.int c') (fsM o P e c l h r)=fsM o P e c l h c':=rfl
theorem Z6B:(fsM o P e c l h r).lookup ("blocks":Str)=some (.ref o.B):=rfl
theorem Z5Q:(fsM o P e c l h r).lookup ("house_tables":Str)=some (.ref o.TT):=rfl
theorem J3x:(fsM o P e c l h r).lookup ("most":Str)=some (.int P.most):=rfl
theorem J0h:(fsM o P e c l h r).lookup ("remembers":Str)=some (.bl P.rem):=rfl
theorem Z6r:(fsM o P e c l h r).lookup ("places":Str)=some (.ref o.pl):=rfl
theorem Z0M:(fsM o P e c l h r).lookup ("stacked":Str)=some (.ref o.sk):=rfl
theorem Z2T:(fsM o P e c l h r).lookup ("made":Str)=some (.ref o.md):=rfl
theorem Z7z:(fsM o P e c l h r).lookup ("ended":Str)=some e:=rfl
theorem Z5p:(fsM o P e c l h r).lookup ("call_count":Str)=some (.int c):=rfl
theorem Z5z:(fsM o P e c l h r).lookup ("look_count":Str)=some (.int l):=rfl
theorem J0H:(fsM o P e c l h r).lookup ("hit_count":Str)=some (.int h):=rfl
theorem Z9U:(fsM o P e c l h r).lookup ("row_count":Str)=some (.int r):=rfl
theorem Z4I:(fsM o P e c l h r).length < 1000:=by show 12 < 1000; decide
end
structure Lay (k:Nat) (d:PyData):Prop where
 lay:d.canLay0=true
 dep:d.depth≤k
structure LayL (k:Nat) (ds:List PyData):Prop where
 lay:PyData.canLayAll0 ds=true
 dep:PyData.depthAll ds≤k
theorem Lay.of {k n:Nat} {d:PyData} (h:Nice k n d):Lay k d:=⟨h.lay,h.dep⟩
theorem Lay.int {k:Nat} {i:Int}:Lay k (.int i):=⟨rfl,qa4 _⟩
theorem LayL.nil {k:Nat}:LayL k []:=⟨rfl,qa4 _⟩
theorem LayL.cons {k:Nat} {d:PyData} {ds:List PyData} (h:Lay k d) (hs:LayL k ds):LayL k (d::ds):=⟨by rw [PyData.canLayAll0,h.lay,hs.lay]; rfl,by rw [PyData.depthAll]; exact Nat.max_le.mpr ⟨h.dep,hs.dep⟩⟩
theorem Lay.tup {k:Nat} {ds:List PyData} (h:LayL k ds):Lay (k+1) (.tuple ds):=⟨by rw [PyData.canLay0]; exact h.lay,by rw [PyData.depth]; exact qd7 h.dep⟩
theorem Lay.lst {k:Nat} {ds:List PyData} (h:LayL k ds):Lay (k+1) (.list ds):=⟨by rw [PyData.canLay0]; exact h.lay,by rw [PyData.depth]; exact qd7 h.dep⟩
theorem Lay.shaped {k:Nat} {d:PyData} (h:Lay k d) (hk:k≤64):PySem.SeqAt.shaped d=true:=qk0.mpr ⟨h.lay,decide_eq_true (qa7 h.dep hk)⟩
theorem lays {K:y9} {H:Hp} {k:Nat} {vs:List V} (h:∀ v∈vs,∃ d,RdD K H v d∧Lay k d):∃ ds,RdDs K H vs ds∧LayL k ds:=by
 induction vs with
 | nil=>exact ⟨[],.nil,.nil⟩
 | cons v vs ih=>
  obtain ⟨d,a,b⟩:=h v qb5
  obtain ⟨ds,c,e⟩:=ih fun u hu=>h u (qb1 _ hu)
  exact ⟨d::ds,.cons a c,.cons b e⟩
theorem AtVs.lay {K:y9} {H:Hp} {vs:List V} {as:List AV} (h:AtVs K H vs as):∃ ds,RdDs K H vs ds∧LayL 1 ds:=lays fun v hv=>let ⟨d,a,b⟩:=AtVs.rd h v hv; ⟨d,a,.of b⟩
theorem FrV.lay {K:y9} {H:Hp} {v:V} {f:AFr} (h:FrV K H v f):∃ d,RdD K H v d∧Lay 3 d:=by
 obtain ⟨a,rfl,F,⟨sa,ta,x,y,z⟩,e1,e2,hs,ht⟩:=h
 obtain ⟨ds,a1,a2⟩:=AtVs.lay hs
 obtain ⟨es,b1,b2⟩:=AtVs.lay ht
 rw [e1] at x
 exact ⟨_,.tup x (.cons (.int _) (.cons (.int _) (.cons (.tup y a1) (.cons (.tup z b1) .nil)))),Lay.tup (k:=2) (.cons .int (.cons .int (.cons (.tup a2) (.cons (.tup b2) .nil))))⟩
theorem Pd.mem {α β:Type} {R:α→β→Prop}:∀ {xs:List α} {ys:List β},Paired R xs ys→∀ x∈xs,∃ y∈ys,R x y
 | _,_,.nil,x,hx=>by cases hx
 | _,_,.cons r t,x,hx=>by
  rcases qa8.mp hx with rfl | hx
  ·exact ⟨_,qb5,r⟩
  ·obtain ⟨y,a,b⟩:=Pd.mem t x hx
   exact ⟨y,qb1 _ a,b⟩
theorem Z9d {K:y9} {H:Hp}:∀ {vs:List V} {ds:List PyData},RdDs K H vs ds→vs.length=ds.length
 | _,_,.nil=>rfl
 | _,_,.cons _ b=>congrArg (·+1) (Z9d b)
theorem J4i {K:y9} {H:Hp} {l:y8} {ss:List V} {fs:List AFr} (hl:SqL K H l ss) (h:Paired (FrV K H) ss fs):∃ d,RdD K H (.ref l) d∧PySem.SeqAt.shaped d=true∧PyData.eqv d (.list [])=fs.isEmpty:=by
 obtain ⟨ds,a,b⟩:=lays (k:=3) (K:=K) (H:=H) (vs:=ss) fun v hv=>let ⟨f,_,q⟩:=Pd.mem h v hv; FrV.lay q
 refine ⟨_,.lst hl a,(Lay.lst b).shaped qQ,?_⟩
 have e1:=Z9d a
 have e2:=Paired.length h
 cases ds with
 | nil=>
  have:fs=[]:=qm0.mp (by rw [← e2,e1]; rfl)
  subst this
  rw [PyData.eqv]; rfl
 | cons d ds=>
  cases fs with
  | nil=>rw [e1] at e2; cases e2
  | cons f fs=>rw [PyData.eqv]; rfl
theorem Z7X {n:Nat} (h:0 < n):ixN n (-1)=some (n - 1):=by
 unfold ixN
 rw [if_neg qQ,if_pos qR]
 congr 1
 omega
theorem Z4f {α:Type} (xs:List α) (x y:α):(xs++[x]).set ((xs++[x]).length - 1) y=xs++[y]:=by
 rw [qa1,List.set_append_right _ _ (by simp)]
 simp
theorem J4t {K:y9} {H:Hp} {p:y8} (h:H p=some (.lst [])):RdD K H (.ref p) (.list []):=.lst (SqL.of h) .nil
theorem Z8J:PySem.SeqAt.shaped (.list [])=true:=by decide +kernel
theorem MAt.top {CM CP:y8} {K:y9} {ex:y8→Prop} {o:MO} {P:Mach.Prog} {s:MS} {H:Hp} {f:AFr} {fs:List AFr} (M:MAt CM CP K ex o P s H) (e:s.frames=f::fs):∃ ss a,H o.sk=some (.lst (ss++[.ref a]))∧Paired (FrV K H) ss fs.reverse∧FrIs K H a f:=by
 obtain ⟨ss,h1,h2⟩:=M.stk
 rw [e,qa5] at h2
 obtain ⟨ss',v,rfl,h3,a,rfl,h4⟩:=Pd.snoc_inv h2
 exact ⟨ss',a,h1,h3,h4⟩
theorem MAt.mem2 {CM CP:y8} {K:y9} {ex:y8→Prop} {o:MO} {P:Mach.Prog} {s s':MS} {H H':Hp} {e:V} (M:MAt CM CP K ex o P s H) (x:SameX o.pd H H') (r:Rep (fun a=>a=o.sk∨a=o.md∨ex a) H' o.pd (s.looks+s.hits+1) s'.mem)
  (hf:s'.frames=s.frames) (hm:s'.made=s.made) (hr:s'.looks+s'.hits=s.looks+s.hits+1) (he:EndAt K H e s'.ended) :
  MAt CM CP K ex o P s' (upd H' o.x (.ins CM o.dx (fsM o P e s'.calls s'.looks s'.hits s'.rows)))∧Keep ex H (upd H' o.x (.ins CM o.dx (fsM o P e s'.calls s'.looks s'.hits s'.rows))):=by
 obtain ⟨v,a,b⟩:=M.ins
 obtain ⟨kvs,hk⟩:=M.pdk
 obtain ⟨ss,s1,s2⟩:=M.stk
 obtain ⟨ms,m1,m2⟩:=M.mad
 have t:SameT H H':=fun c xs=>⟨fun h=>x _ _ (Z0J h hk (fun z=>by cases z)) h,fun o h=>x _ _ (Z0J h hk (fun z=>by cases z)) h⟩
 have a':=x _ _ (Z0J a hk (fun z=>by cases z)) a
 have s1':=x _ _ (Z0J s1 hk (fun z=>by cases z)) s1
 have m1':=x _ _ (Z0J m1 hk (fun z=>by cases z)) m1
 have p':=x _ _ (Z0J M.plc hk (fun z=>by cases z)) M.plc
 have ex':∀ y,ex y→H' y=H y:=fun y hy=>by
  obtain ⟨u,hu⟩:=qc9.mp (M.exs y hy)
  rw [hu]; exact x _ _ (fun z=>M.nex.2.2.1 (z▸hy)) hu
 obtain ⟨kv',hk',_⟩:=id r
 have nk:o.pd≠o.x:=Z0J hk' a' (fun z=>by cases z)
 have ns:o.sk≠o.x:=Z0J s1' a' (fun z=>by cases z)
 have nm:o.md≠o.x:=Z0J m1' a' (fun z=>by cases z)
 have t2:SameT H' (upd H' o.x (.ins CM o.dx (fsM o P e s'.calls s'.looks s'.hits s'.rows))):=Z1I _ a' J2t
 have T:=t.trans t2
 refine ⟨⟨⟨e,Z0d,he.t T⟩,M.pr.t T,by rw [Z0e (fun z=>M.nxp z.symm)]; exact p',?_,⟨ss,by rw [Z0e ns]; exact s1',by rw [hf]; exact Pd.imp (fun _ _ q=>q.t T) s2⟩,⟨ms,by rw [Z0e nm]; exact m1',by rw [hm]; exact Pd.imp (fun _ _ q=>q.t T) m2⟩,M.nxp,M.nsm,M.nex,fun y hy=>?_⟩,T,fun y hy=>?_⟩
 ·rw [hr]
  exact r.u _ a' nk ⟨fun _ z=>(by cases z),fun _ z=>by cases z⟩
 ·rw [Z0e (show y≠o.x from fun z=>M.nex.1 (z▸hy)),ex' y hy]; exact M.exs y hy
 ·rw [Z0e (show y≠o.x from fun z=>M.nex.1 (z▸hy)),ex' y hy]
theorem MAt.hid {CM CP:y8} {K:y9} {ex:y8→Prop} {o:MO} {P:Mach.Prog} {s:MS} {H:Hp} (M:MAt CM CP K ex o P s H):∀ a,(a=o.sk∨a=o.md∨ex a)→H a≠none:=fun a h=>by
 rcases h with rfl | rfl | h
 ·obtain ⟨_,e,_⟩:=M.stk; rw [e]; simp
 ·obtain ⟨_,e,_⟩:=M.mad; rw [e]; simp
 ·exact M.exs a h
theorem MAt.rep' {CM CP:y8} {K:y9} {ex:y8→Prop} {o:MO} {P:Mach.Prog} {s:MS} {H:Hp} (M:MAt CM CP K ex o P s H) (u:HO):Rep (fun a=>a=o.sk∨a=o.md∨ex a) (upd H o.x u) o.pd (s.looks+s.hits) s.mem:=by
 obtain ⟨v,a,b⟩:=M.ins
 obtain ⟨kvs,hk⟩:=M.pdk
 exact M.rep.u _ a (Z0J hk a (fun z=>by cases z)) ⟨fun _ z=>(by cases z),fun _ z=>by cases z⟩
theorem MAt.put {CM CP:y8} {K:y9} {ex:y8→Prop} {o:MO} {P:Mach.Prog} {s:MS} {H:Hp} {f f':AFr} {fs:List AFr} {p:y8} (M:MAt CM CP K ex o P s H) (e:s.frames=f::fs) (hf:FrV K H (.ref p) f') :
  ∃ xs j,H o.sk=some (.lst xs)∧ixN xs.length (-1)=some j∧MAt CM CP K ex o P { s with frames:=f'::fs } (upd H o.sk (.lst (xs.set j (.ref p))))∧Keep ex H (upd H o.sk (.lst (xs.set j (.ref p)))):=by
 obtain ⟨ss,a,c1,c2,c3⟩:=M.top e
 obtain ⟨M1,k1⟩:=M.frames (fr:=f'::fs) (ss':=ss++[.ref p]) (by rw [qa5]; exact Pd.app c2 (.cons hf .nil))
 rw [← Z4f ss (.ref a) (.ref p)] at M1 k1
 exact ⟨_,_,c1,Z7X (by simp),M1,k1⟩
theorem mkFr {K:y9} {H:Hp} {p:y8} {F:Fr} {f:AFr} (h:FrAt K H p F) (h1:F.n=.int f.n) (h2:F.at_=f.pc) (h3:AtVs K H F.sl f.sl) (h4:AtVs K H F.st f.st.reverse):FrV K H (.ref p) f:=⟨p,rfl,F,h,h1,h2,h3,h4⟩
theorem Z6U {n k:Nat} (h:k < n):ixN n (k:Int)=some k:=by
 unfold ixN
 rw [if_pos qR,if_pos qR]
 simp
noncomputable def avD:AV→PyData
 | .non=>.none
 | .bl b=>.bool b
 | .int i=>.int i
 | .th k=>.tuple [.str "thing",.int k]
noncomputable def endD:Mach.End→PyData
 | .val v=>.tuple [.str "value",avD v]
 | .thing h=>.tuple [.str "thing",.int h]
 | .dry=>.tuple [.str "dry"]
 | .deep=>.tuple [.str "deep"]
 | .great=>.tuple [.str "refused",.str "great"]
 | .nought=>.tuple [.str "refused",.str "nought"]
theorem Z2b {k:Nat} {x:Str} (h:PyData.strOk x=true:=by decide +kernel) (hn:x.cps.size≤8:=by decide +kernel):Nice k 8 (.str x):=.str h hn
theorem AtV.nice {K:y9} {H:Hp} {v:V} {a:AV} (h:AtV K H v a):RdD K H v (avD a)∧Nice 1 100 (avD a):=by
 cases a with
 | non=>cases h; exact ⟨.non,.none⟩
 | bl b=>cases h; exact ⟨.bl b,.bool⟩
 | int i=>obtain ⟨rfl,hb⟩:=h; exact ⟨.int i,(Nice.int (by unfold Mach.Bd at hb; omega)).mono (qa0 _) qQ⟩
 | th k=>
  obtain ⟨t,rfl,b,l⟩:=h
  exact ⟨.tup (SqT.of b) (.cons (.str _) (.cons (.int k) .nil)),Nice.tup (k:=0) (n:=100) (.cons (a:=8) (b:=61) Z2b (.cons (a:=60) (b:=0) (.int qR) .nil qQ) qQ)⟩
theorem EndIs.nice {K:y9} {H:Hp} {a:y8} {e:Mach.End} (h:EndIs K H a e):RdD K H (.ref a) (endD e)∧Nice 2 200 (endD e):=by
 cases e with
 | val v=>
  obtain ⟨y,p,q⟩:=h
  obtain ⟨r,n⟩:=AtV.nice q
  exact ⟨.tup p (.cons (.str _) (.cons r .nil)),Nice.tup (k:=1) (n:=200) (.cons (a:=8) (b:=150) Z2b (.cons (a:=100) (b:=0) n .nil qQ) qQ)⟩
 | thing x=>exact ⟨.tup h.1 (.cons (.str _) (.cons (.int _) .nil)),(Nice.tup (k:=0) (n:=200) (.cons (a:=8) (b:=150) Z2b (.cons (a:=60) (b:=0) (.int (by have:=h.2; omega)) .nil qQ) qQ)).mono qQ qQ⟩
 | dry=>exact ⟨.tup h (.cons (.str _) .nil),(Nice.tup (k:=0) (n:=200) (.cons (a:=8) (b:=0) Z2b .nil qQ)).mono qQ qQ⟩
 | deep=>exact ⟨.tup h (.cons (.str _) .nil),(Nice.tup (k:=0) (n:=200) (.cons (a:=8) (b:=0) Z2b .nil qQ)).mono qQ qQ⟩
 | great=>exact ⟨.tup h (.cons (.str _) (.cons (.str _) .nil)),(Nice.tup (k:=0) (n:=200) (.cons (a:=8) (b:=150) Z2b (.cons (a:=8) (b:=0) Z2b .nil qQ) qQ)).mono qQ qQ⟩
 | nought=>exact ⟨.tup h (.cons (.str _) (.cons (.str _) .nil)),(Nice.tup (k:=0) (n:=200) (.cons (a:=8) (b:=150) Z2b (.cons (a:=8) (b:=0) Z2b .nil qQ) qQ)).mono qQ qQ⟩
theorem FrIs.st {K:y9} {H:Hp} {a:y8} {f:AFr} (h:FrIs K H a f):∃ (F:Fr) (sa ta:y8),SqT K H a [.int f.n,.int f.pc,.ref sa,.ref ta]∧SqT K H sa F.sl∧SqT K H ta F.st∧F.n=.int f.n∧F.at_=f.pc∧AtVs K H F.sl f.sl∧AtVs K H F.st f.st.reverse∧F.st.length=f.st.length∧F.sl.length=f.sl.length:=by
 obtain ⟨F,⟨sa,ta,x,y,z⟩,e1,e2,hs,ht⟩:=h
 rw [e1,e2] at x
 exact ⟨F,sa,ta,x,y,z,e1,e2,hs,ht,by rw [Paired.length ht,qc2],Paired.length hs⟩
end MM
end
section
namespace L2
open PySem PySem.Spec PyProof.Rows
def gMid {α:Type} (np:Nat) (m:α) (us ws:List α):List α:=if us.length=np∧ws.length=1 then us++m::ws else []
theorem J1k {np:Nat} {m:V} {u:Value} (hm:RelV m u) {vs zs:List V} {us ws:List Value} (h:Vals vs us) (h':Vals zs ws):Vals (gMid np m vs zs) (gMid np u us ws):=by
 unfold gMid
 rw [h.length,h'.length]
 split
 ·exact h.append (.cons hm h')
 ·exact .nil
section
variable {P:Program} {w:World} {K:y9} {mg:Str→Option Value} {base:Heap}
theorem HasD.ofG {C:y8} {m qual:Str} {st:Stmt} {N ps ks:List Str} {k:Nat} {sp:Sp} {d1 d2:V} (gg:Value→Value→List Value→List Value→List Value) (gV:List V→List V→List V) (F:MFnD K C m qual st d1 d2) (S:Z0l N ps (Z0i st))
  (hrel:∀ {u1 u2:Value} {vs zs:List V} {us ws:List Value},RelV d1 u1→RelV d2 u2→Vals vs us→Vals zs ws→Vals (gV vs zs) (gg u1 u2 us ws))
  (hb:∀ (kV doc pm:Value) (an:Option y8) (cdv ct:Value) (dA:y8) (u1 u2:Value) (us ws:List Value),(gg u1 u2 us ws).length=ps.length →
   ∃ k,bindArgs (W.fnOf m qual (Z1m st) (Z0Y st) (Z0i st) (.ref dA) kV doc pm an cdv ct) ⟨us,ks.zip ws⟩=seqItems? (.ref dA) >>= k∧k (some #[u1,u2])=pure (ps.zip (gg u1 u2 us ws)))
  (len:∀ vs H Q E,sp vs H Q E→vs.length=ps.length)
  (hbody:∀ (f:y8) (cdv:Value) (A:Around) (outer:List Env) (s:Shared) (H:Hp) (vs:List V) (Q:VK) (E:XK),Room k (A.deeper (envOfC qual (Z0i st) s.heap.objs.size f cdv))→sp vs H Q E →
   ∃ t,PSs (cxOf CX0 P w K mg base N qual (Z0i st) f cdv A outer s H E).nox (Z0Y st) t∧t { nx:=fun _ H'=>Q .non H',rt:=Q } (Z4D N vs) H):HasD P w K mg base (k+1) C m ps sp ks gV:=by
 obtain ⟨f,dA,oc,od,kV,doc,pm,an,cdv,ct,osl,o,u1,u2,n,lk,hcd,mm,lo,ho,r1,r2⟩:=F.ex
 refine ⟨f,_,gg u1 u2,J5r lk hcd S len fun A outer s H vs Q E hr hsp=>?_,⟨fun s us ws hK hl=>?_,fun a b=>hrel r1 r2 a b⟩,mm⟩
 ·obtain ⟨t,h,q⟩:=hbody f cdv A outer s H vs Q E hr hsp
  exact ⟨t,h.nox,q⟩
 ·obtain ⟨kk,h1,h2⟩:=hb kV doc pm an cdv ct dA u1 u2 us ws hl
  exact BindsTo.of_defaults rfl (hK _ _ lo) ho h1 h2
end
end L2
end
section
namespace L2
open PySem PySem.Spec PyProof.Rows PySem.SeqAt
def rNeN (K:y9):R2:=fun x y H Q=>∃ a xs b,x=.ref a∧y=.ref b∧SqL K H a xs∧SqL K H b []∧Q (.bl (!xs.isEmpty)) H
def rEqN (K:y9):R2:=fun x y H Q=>∃ a xs b,x=.ref a∧y=.ref b∧SqL K H a xs∧SqL K H b []∧Q (.bl xs.isEmpty) H
theorem J6Z {K:y9} {x y:V} {H:Hp} {Q:VK}:rNeN K x y H Q=∃ a xs b,x=.ref a∧y=.ref b∧SqL K H a xs∧SqL K H b []∧Q (.bl (!xs.isEmpty)) H:=rfl
theorem J6P {K:y9} {x y:V} {H:Hp} {Q:VK}:rEqN K x y H Q=∃ a xs b,x=.ref a∧y=.ref b∧SqL K H a xs∧SqL K H b []∧Q (.bl xs.isEmpty) H:=rfl
section
variable {X:Cx}
theorem Z4W (hu:X.A.units+64 < cLine):OpR X (compareOp .NotEq) (rNeN X.K):=by
 intro pins s σ H x y v u Q I rx ry h
 obtain ⟨a,xs,b,rfl,rfl,ha,hb,q⟩:=h
 cases rx
 cases ry
 obtain ⟨its,rv,pl,_⟩:=I.list ha
 obtain ⟨its2,rv2,pl2,_⟩:=I.list hb
 cases rv2.zero
 cases xs with
 | nil=>
  cases rv.zero
  exact RcNeAt.lists (e:=fun _=>true) pl.isList pl2.isList rfl (qg0 (qf0 _ _) hu) (fun j h=>absurd h (qg7 _)) X.prog X.w X.xe _ ⟨.bl false,H,I,rfl,q⟩
 | cons x xs=>
  have hl:=rv.length
  refine RcNeAt.lists_lengths pl.isList pl2.isList ?_ (qg0 (qf0 _ _) hu) X.prog X.w X.xe _ ⟨.bl true,H,I,rfl,q⟩
  rw [qb0,← hl]; rfl
theorem Z9T (hu:X.A.units+64 < cLine):OpR X (compareOp .Eq) (rEqN X.K):=by
 intro pins s σ H x y v u Q I rx ry h
 obtain ⟨a,xs,b,rfl,rfl,ha,hb,q⟩:=h
 cases rx
 cases ry
 obtain ⟨its,rv,pl,_⟩:=I.list ha
 obtain ⟨its2,rv2,pl2,_⟩:=I.list hb
 cases rv2.zero
 cases xs with
 | nil=>
  cases rv.zero
  exact RcAt.lists (e:=fun _=>true) pl.isList pl2.isList rfl (qg0 (qf0 _ _) hu) (fun j h=>absurd h (qg7 _)) X.prog X.w X.xe _ ⟨.bl true,H,I,rfl,q⟩
 | cons x xs=>
  have hl:=rv.length
  refine RcAt.lists_lengths pl.isList pl2.isList ?_ (qg0 (qf0 _ _) hu) X.prog X.w X.xe _ ⟨.bl false,H,I,rfl,q⟩
  rw [qb0,← hl]; rfl
end
end L2
end
section
namespace L2
open PySem PySem.Spec PyProof.Rows
variable {X:Cx}
theorem Z2W {α β:Type} {R:α→β→Prop}:∀ {xs:List α} {ys:List β},xs.length=ys.length→(∀ (i:Nat) x y,xs[i]?=some x→ys[i]?=some y→R x y)→Paired R xs ys
 | [],[],_,_=>.nil
 | x::xs,y::ys,hl,h=>.cons (h 0 x y rfl rfl) (Z2W (Nat.succ.inj hl) fun i a b ha hb=>h (i+1) a b ha hb)
theorem J6q {σ:St} {H:Hp} {Q:List (V×V)→Hp→Prop}:Z4H [] σ H Q=Q [] H:=rfl
theorem J6v {tk tv:TE} {r:List (TE×TE)} {σ:St} {H:Hp} {Q:List (V×V)→Hp→Prop}:Z4H ((tk,tv)::r) σ H Q=tk σ H fun x H1=>tv σ H1 fun y H2=>Z4H r σ H2 fun ps H3=>Q ((x,y)::ps) H3:=rfl
theorem J6n {trs:List (TE×TE)} {σ:St} {H:Hp} {Q:VK}:J5k trs σ H Q=New H (.dK []) fun p H1=>Z4H trs σ H1 fun ps H2=>H2 p=some (.dK [])∧∃ kvs:List (Key×V),ps=kvs.map (fun kv=>(kV kv.1,kv.2))∧kvs.length≤15∧Q (.ref p) (upd H2 p (.dK (Z0X [] kvs))):=rfl
end L2
end
section
namespace MT
open Mach
inductive Kd | n | t | h | hx
 deriving DecidableEq
def fk:Nat→Kd
 | 0=>.n
 | 1=>.t
 | 2=>.n
 | _=>.h
structure Wo where
 fields:List Nat
 heads:List (List Kd×Kd)
 owners:List Nat
inductive VT (W:Wo) (hs:List Nat):AV→Kd→Prop
 | int {i:Int}:Bd i→VT W hs (.int i) .n
 | bl {b:Bool}:VT W hs (.bl b) .t
 | th {k ho:Nat}:hs[k]?=some ho→VT W hs (.th k) .h
 | tx {k ho:Nat}:hs[k]?=some ho→W.fields[ho]?=some 4→VT W hs (.th k) .hx
theorem VT.mono {W:Wo} {hs:List Nat} {v:AV} {k:Kd} (h:VT W hs v k) (x:List Nat):VT W (hs++x) v k:=by
 have e:∀ {k ho:Nat},hs[k]?=some ho→(hs++x)[k]?=some ho:=fun {k ho} e=>by
  rw [qd4 (qa9.mp e).1]; exact e
 cases h with
 | int b=>exact .int b
 | bl=>exact .bl
 | th a=>exact .th (e a)
 | tx a b=>exact .tx (e a) b
theorem VT.wk {W:Wo} {hs:List Nat} {v:AV} (h:VT W hs v .hx):VT W hs v .h:=by
 cases h with
 | tx a _=>exact .th a
inductive StT (W:Wo) (hs:List Nat):List AV→List Kd→Prop
 | nil:StT W hs [] []
 | cons {v:AV} {k:Kd} {st:List AV} {ks:List Kd}:VT W hs v k→StT W hs st ks→StT W hs (v::st) (k::ks)
theorem StT.mono {W:Wo} {hs:List Nat} {st:List AV} {ks:List Kd} (h:StT W hs st ks) (x:List Nat):StT W (hs++x) st ks:=by
 induction h with
 | nil=>exact .nil
 | cons a _ ih=>exact .cons (a.mono x) ih
theorem StT.len {W:Wo} {hs:List Nat} {st:List AV} {ks:List Kd} (h:StT W hs st ks):st.length=ks.length:=by
 induction h with
 | nil=>rfl
 | cons _ _ ih=>rw [qb8,qb8,ih]
theorem StT.split {W:Wo} {hs:List Nat}:∀ {a:List Kd} {st:List AV} {b:List Kd},StT W hs st (a++b)→StT W hs (st.take a.length) a∧StT W hs (st.drop a.length) b
 | [],st,b,h=>⟨by rw [qe2,List.take_zero]; exact .nil,h⟩
 | k::a,st,b,h=>by
  cases h with
  | cons v r=>
   obtain ⟨h1,h2⟩:=StT.split r
   exact ⟨.cons v h1,h2⟩
theorem StT.snoc {W:Wo} {hs:List Nat} {v:AV} {k:Kd}:∀ {st:List AV} {ks:List Kd},StT W hs st ks→VT W hs v k→StT W hs (st++[v]) (ks++[k])
 | _,_,.nil,h=>.cons h .nil
 | _,_,.cons a b,h=>.cons a (StT.snoc b h)
theorem StT.rev {W:Wo} {hs:List Nat}:∀ {st:List AV} {ks:List Kd},StT W hs st ks→StT W hs st.reverse ks.reverse
 | _,_,.nil=>.nil
 | _,_,.cons a b=>by rw [qa5,qa5]; exact b.rev.snoc a
theorem StT.at {W:Wo} {hs:List Nat}:∀ {st:List AV} {ks:List Kd},StT W hs st ks→∀ {i:Nat} {v:AV} {k:Kd},st[i]?=some v→ks[i]?=some k→VT W hs v k
 | _,_,.cons a b,0,v,k,h1,h2=>by cases h1; cases h2; exact a
 | _,_,.cons a b,i+1,v,k,h1,h2=>b.at h1 h2
def SlT (W:Wo) (hs:List Nat) (sl:List AV) (ks:List (Option Kd)):Prop:=sl.length=ks.length∧∀ (i:Nat) v k,sl[i]?=some v→ks[i]?=some (some k)→VT W hs v k
theorem SlT.mono {W:Wo} {hs:List Nat} {sl:List AV} {ks:List (Option Kd)} (h:SlT W hs sl ks) (x:List Nat):SlT W (hs++x) sl ks:=⟨h.1,fun i v k a b=>(h.2 i v k a b).mono x⟩
theorem SlT.put {W:Wo} {hs:List Nat} {sl:List AV} {ks:List (Option Kd)} (h:SlT W hs sl ks) (i:Nat) {v:AV} {k:Kd} (hv:VT W hs v k):SlT W hs (sl.set i v) (ks.set i (some k)):=by
 refine ⟨by rw [qf2,qf2]; exact h.1,fun j u l a b=>?_⟩
 rw [qk1] at a b
 by_cases e:i=j
 ·rw [if_pos e] at a b
  split at a
  ·split at b
   ·cases a; cases b; exact hv
   ·cases b
  ·cases a
 ·rw [if_neg e] at a b
  exact h.2 j u l a b
def Sm (W:Wo) (n l:Nat):Row→Prop
 | .load i=>i < l
 | .keep i=>i < l
 | .get pl=>pl=3∨∀ m∈W.fields,pl < m
 | .put pl=>pl=3∨∀ m∈W.fields,pl < m
 | .skip k=>k < 10000
 | .unl k=>k < 10000
 | .make h m=>W.fields[h]?=some m
 | .call s w m=>s < n∧∃ (ps:List Kd) (tk:Kd),W.heads[w]?=some (ps,tk)∧m=1+ps.length
 | .straight b m=>b < W.owners.length∧∃ (w:Nat) (ps:List Kd) (tk:Kd),W.heads[w]?=some (ps,tk)∧m=1+ps.length
 | _=>True
theorem Sm.mono {W:Wo} {n l n' l':Nat} {q:Row} (h:Sm W n l q) (hn:n≤n') (hl:l≤l'):Sm W n' l' q:=by
 cases q with
 | load i=>exact qc1 h hl
 | keep i=>exact qc1 h hl
 | call s w m=>exact ⟨qc1 h.1 hn,h.2⟩
 | _=>exact h
inductive Sf (W:Wo) (ss:List Nat) (told:Kd):List Row→List (Option Kd)→List Kd→Prop
 | back {sl:List (Option Kd)} {st:List Kd}:Sf W ss told [.back] sl (told::st)
 | push {v:AV} {k:Kd} {r:List Row} {sl:List (Option Kd)} {st:List Kd}:VT W [] v k→Sf W ss told r sl (k::st)→Sf W ss told (.push v::r) sl st
 | load {i:Nat} {k:Kd} {r:List Row} {sl:List (Option Kd)} {st:List Kd}:sl[i]?=some (some k)→Sf W ss told r sl (k::st)→Sf W ss told (.load i::r) sl st
 | nt {r:List Row} {sl:List (Option Kd)} {st:List Kd}:Sf W ss told r sl (.t::st)→Sf W ss told (.nt::r) sl (.t::st)
 | get {pl:Nat} {r:List Row} {sl:List (Option Kd)} {st:List Kd}:(∀ m∈W.fields,pl < m)→Sf W ss told r sl (fk pl::st)→Sf W ss told (.get pl::r) sl (.h::st)
 | get3 {r:List Row} {sl:List (Option Kd)} {st:List Kd}:Sf W ss told r sl (.h::st)→Sf W ss told (.get 3::r) sl (.hx::st)
 | keep {i:Nat} {k:Kd} {r:List Row} {sl:List (Option Kd)} {st:List Kd}:i < sl.length→Sf W ss told r (sl.set i (some k)) st→Sf W ss told (.keep i::r) sl (k::st)
 | drop {k:Kd} {r:List Row} {sl:List (Option Kd)} {st:List Kd}:Sf W ss told r sl st→Sf W ss told (.drop::r) sl (k::st)
 | skip {n:Nat} {r:List Row} {sl:List (Option Kd)} {st:List Kd}:n < 10000→(∀ q∈r,Sm W ss.length sl.length q)→Sf W ss told (r.drop n) sl st→Sf W ss told (.skip n::r) sl st
 | unl {n:Nat} {r:List Row} {sl:List (Option Kd)} {st:List Kd}:n < 10000→Sf W ss told r sl st→Sf W ss told (r.drop n) sl st→Sf W ss told (.unl n::r) sl (.t::st)
 | num {g:Sg} {r:List Row} {sl:List (Option Kd)} {st:List Kd}:g≠.less→g≠.same→Sf W ss told r sl (.n::st)→Sf W ss told (.two g::r) sl (.n::.n::st)
 | less {r:List Row} {sl:List (Option Kd)} {st:List Kd}:Sf W ss told r sl (.t::st)→Sf W ss told (.two .less::r) sl (.n::.n::st)
 | same {k:Kd} {r:List Row} {sl:List (Option Kd)} {st:List Kd}:k≠.hx→Sf W ss told r sl (.t::st)→Sf W ss told (.two .same::r) sl (k::k::st)
 | make {ho m:Nat} {r:List Row} {sl:List (Option Kd)} {st:List Kd}:W.fields[ho]?=some m→Sf W ss told r sl ((if m=4 then .hx else .h)::st)→Sf W ss told (.make ho m::r) sl (((qc6 m).map fk).reverse++st)
 | put {pl:Nat} {r:List Row} {sl:List (Option Kd)} {st:List Kd}:(∀ m∈W.fields,pl < m)→Sf W ss told r sl (fk pl::st)→Sf W ss told (.put pl::r) sl (fk pl::.h::st)
 | put3 {r:List Row} {sl:List (Option Kd)} {st:List Kd}:Sf W ss told r sl (.h::st)→Sf W ss told (.put 3::r) sl (.h::.hx::st)
 | call {site word:Nat} {ps:List Kd} {tk:Kd} {r:List Row} {sl:List (Option Kd)} {st:List Kd}:ss[site]?=some word→W.heads[word]?=some (ps,tk)→Sf W ss told r sl (tk::st)→Sf W ss told (.call site word (1+ps.length)::r) sl (ps.reverse++.h::st)
 | straight {b word:Nat} {ps:List Kd} {tk:Kd} {r:List Row} {sl:List (Option Kd)} {st:List Kd}:W.owners[b]?=some word→W.heads[word]?=some (ps,tk)→Sf W ss told r sl (tk::st)→Sf W ss told (.straight b (1+ps.length)::r) sl (ps.reverse++.h::st)
 | wk {r:List Row} {sl:List (Option Kd)} {st:List Kd}:Sf W ss told r sl (.h::st)→Sf W ss told r sl (.hx::st)
theorem Sf.mono {W:Wo} {ss:List Nat} {told:Kd} {r:List Row} {sl:List (Option Kd)} {st:List Kd} (h:Sf W ss told r sl st) (x:List Nat):Sf W (ss++x) told r sl st:=by
 induction h with
 | back=>exact .back
 | push a _ ih=>exact .push a ih
 | load a _ ih=>exact .load a ih
 | nt _ ih=>exact .nt ih
 | get a _ ih=>exact .get a ih
 | get3 _ ih=>exact .get3 ih
 | keep a _ ih=>exact .keep a ih
 | drop _ ih=>exact .drop ih
 | skip b a _ ih=>exact .skip b (fun q hq=>(a q hq).mono (by rw [qa1]; exact qf0 _ _) (qa0 _)) ih
 | unl b _ _ ih1 ih2=>exact .unl b ih1 ih2
 | num a b _ ih=>exact .num a b ih
 | less _ ih=>exact .less ih
 | same a _ ih=>exact .same a ih
 | make a _ ih=>exact .make a ih
 | put a _ ih=>exact .put a ih
 | put3 _ ih=>exact .put3 ih
 | call a b _ ih=>exact .call (by rw [qd4 (qa9.mp a).1]; exact a) b ih
 | straight a b _ ih=>exact .straight a b ih
 | wk _ ih=>exact .wk ih
theorem Sf.small {W:Wo} {ss:List Nat} {told:Kd} {r:List Row} {sl:List (Option Kd)} {st:List Kd} (h:Sf W ss told r sl st):∀ q∈r,Sm W ss.length sl.length q:=by
 have go:∀ {sl:List (Option Kd)} {a:Row} {r:List Row},Sm W ss.length sl.length a→(∀ q∈r,Sm W ss.length sl.length q)→∀ q∈a::r,Sm W ss.length sl.length q:=fun x y q hq=>(qa8.mp hq).elim (fun e=>e▸x) (y q)
 induction h with
 | back=>exact go trivial fun q hq=>by cases hq
 | make a _ ih=>exact go a ih
 | skip b a _ _=>exact go b a
 | unl b _ _ ih _=>exact go b ih
 | wk _ ih=>exact ih
 | call a b _ ih=>exact go ⟨(qa9.mp a).1,_,_,b,rfl⟩ ih
 | straight a b _ ih=>exact go ⟨(qa9.mp a).1,_,_,_,b,rfl⟩ ih
 | num _ _ _ ih=>exact go trivial ih
 | nt _ ih=>exact go trivial ih
 | get3 _ ih=>exact go (.inl rfl) ih
 | drop _ ih=>exact go trivial ih
 | less _ ih=>exact go trivial ih
 | put3 _ ih=>exact go (.inl rfl) ih
 | push _ _ ih=>exact go trivial ih
 | load a _ ih=>exact go (qa9.mp a).1 ih
 | get a _ ih=>exact go (.inr a) ih
 | keep a _ ih=>exact go a (by rw [qf2] at ih; exact ih)
 | same _ _ ih=>exact go trivial ih
 | put a _ ih=>exact go (.inr a) ih
def Seg (W:Wo) (ss:List Nat) (rows:List Row) (sl:List (Option Kd)) (st:List Kd) (sl':List (Option Kd)) (st':List Kd):Prop:=
 ∀ x told r,Sf W (ss++x) told r sl' st'→Sf W (ss++x) told (rows++r) sl st
theorem Seg.nil {W:Wo} {ss:List Nat} {sl:List (Option Kd)} {st:List Kd}:Seg W ss [] sl st sl st:=fun _ _ _ h=>h
theorem Seg.app {W:Wo} {ss:List Nat} {a b:List Row} {s1 s2 s3:List (Option Kd)} {t1 t2 t3:List Kd} (x:Seg W ss a s1 t1 s2 t2) (y:Seg W ss b s2 t2 s3 t3):Seg W ss (a++b) s1 t1 s3 t3:=fun z told r h=>by
 rw [qc7]; exact x z told _ (y z told r h)
theorem Seg.mono {W:Wo} {ss:List Nat} {a:List Row} {s1 s2:List (Option Kd)} {t1 t2:List Kd} (h:Seg W ss a s1 t1 s2 t2) (x:List Nat):Seg W (ss++x) a s1 t1 s2 t2:=fun z told r q=>by
 rw [qc7] at q ⊢
 exact h _ told r q
theorem Seg.branch {W:Wo} {ss:List Nat} {a b:List Row} {sl:List (Option Kd)} {st:List Kd} {k:Kd} (x:Seg W ss a sl st sl (k::st)) (y:Seg W ss b sl st sl (k::st)) (la:a.length < 9000) (lb:b.length < 9000):Seg W ss ([.unl (a.length+1)]++a++[.skip b.length]++b) sl (.t::st) sl (k::st):=fun z told r h=>by
 have e:[Row.unl (a.length+1)]++a++[Row.skip b.length]++b++r=.unl (a.length+1)::(a++(.skip b.length::(b++r))):=by simp
 rw [e]
 refine .unl qR (x z told _ (.skip qR (y z told r h).small ?_)) ?_
 ·rw [List.drop_left]; exact h
 ·rw [List.drop_append,qi8 qR,show a.length+1 - a.length=1 by omega]
  exact y z told r h
structure WOk (W:Wo) (P:Prog) (ss:List Nat):Prop where
 fl:∀ m∈W.fields,2≤m∧m≤4
 tab:∀ ho,ho < W.fields.length→∀ w,w < W.heads.length→∃ b,((P.tables[ho]?).bind fun t=>(t[w]?).join)=some b∧W.owners[b]?=some w
 blk:∀ (b w:Nat) (ps:List Kd) (tk:Kd),W.owners[b]?=some w→W.heads[w]?=some (ps,tk)→∃ B:Blk,P.blocks[b]?=some B∧B.size=1+ps.length+2∧Sf W ss tk B.rows (some .h::ps.map some++[none,none]) []
inductive Ctx (W:Wo) (P:Prog) (ss hs:List Nat):List AFr→Kd→Prop
 | nil {k:Kd}:Ctx W P ss hs [] k
 | cons {g:AFr} {gs:List AFr} {k told:Kd} {B:Blk} {sl:List (Option Kd)} {st:List Kd}:P.blocks[g.n]?=some B→Sf W ss told (B.rows.drop g.pc) sl (k::st)→SlT W hs g.sl sl→StT W hs g.st st→Ctx W P ss hs gs told→Ctx W P ss hs (g::gs) k
theorem Ctx.mono {W:Wo} {P:Prog} {ss hs:List Nat} {fs:List AFr} {k:Kd} (h:Ctx W P ss hs fs k) (x:List Nat):Ctx W P ss (hs++x) fs k:=by
 induction h with
 | nil=>exact .nil
 | cons a b c d _ ih=>exact .cons a b (c.mono x) (d.mono x) ih
def MdT (W:Wo) (made:List (Nat×List AV)):Prop:=∀ (k ho:Nat) (vs:List AV),made[k]?=some (ho,vs)→∃ m,W.fields[ho]?=some m∧vs.length=m∧∀ (j:Nat) v,vs[j]?=some v→VT W (made.map Prod.fst) v (fk j)
def MmT (W:Wo) (ss:List Nat) (m:Mem):Prop:=∀ (site w:Nat),ss[site]?=some w→∀ p∈getP m (site:Int),0≤p.2∧W.owners[p.2.toNat]?=some w
structure TyS (W:Wo) (P:Prog) (ss:List Nat) (s:MS):Prop where
 md:MdT W s.made
 mm:MmT W ss s.mem
 fr:(s.ended=none∧∃ (f:AFr) (fs:List AFr) (B:Blk) (told:Kd) (sl:List (Option Kd)) (st:List Kd),s.frames=f::fs∧P.blocks[f.n]?=some B∧Sf W ss told (B.rows.drop f.pc) sl st∧SlT W (s.made.map Prod.fst) f.sl sl∧StT W (s.made.map Prod.fst) f.st st∧Ctx W P ss (s.made.map Prod.fst) fs told)∨(s.ended≠none∧s.frames=[])
section
variable {W:Wo} {P:Prog} {ss:List Nat}
theorem go {s:MS} {f g:AFr} {fs:List AFr} {B:Blk} {told:Kd} {sl:List (Option Kd)} {st:List Kd} (md:MdT W s.made) (mm:MmT W ss s.mem) (en:s.ended=none) (hB:P.blocks[f.n]?=some B) (e:g.n=f.n) (hs:Sf W ss told (B.rows.drop g.pc) sl st) (h1:SlT W (s.made.map Prod.fst) g.sl sl) (h2:StT W (s.made.map Prod.fst) g.st st) (hc:Ctx W P ss (s.made.map Prod.fst) fs told):TyS W P ss { s with frames:=g::fs }:=
 ⟨md,mm,.inl ⟨en,g,fs,B,told,sl,st,rfl,by rw [e]; exact hB,hs,h1,h2,hc⟩⟩
theorem Z3u {s:MS} {e:End} (md:MdT W s.made) (mm:MmT W ss s.mem):TyS W P ss (ends s e):=⟨md,mm,.inr ⟨(fun z=>by cases z),rfl⟩⟩
theorem Z2X {B:Blk} {pc:Nat} {a:Row} {r:List Row} (h:B.rows.drop pc=a::r):B.rows[pc]?=some a∧B.rows.drop (pc+1)=r:=by
 have e:=congrArg List.head? h
 rw [List.head?_drop] at e
 refine ⟨e,?_⟩
 rw [← List.drop_drop,h]; rfl
theorem J5m {B:Blk} {pc n:Nat} {a:Row} {r:List Row} (h:B.rows.drop pc=a::r):B.rows.drop (pc+1+n)=r.drop n:=by
 rw [← List.drop_drop,(Z2X h).2]
theorem VT.house {hs:List Nat} {v:AV} (h:VT W hs v .h):∃ k ho,v=.th k∧hs[k]?=some ho:=by
 cases h with
 | th a=>exact ⟨_,_,rfl,a⟩
theorem Z3q {made:List (Nat×List AV)} {k ho:Nat} (h:(made.map Prod.fst)[k]?=some ho):∃ vs,made[k]?=some (ho,vs):=by
 rw [qc8] at h
 obtain ⟨t,h1,h2⟩:=qb6.mp h
 exact ⟨t.2,by rw [h1,← h2]⟩
theorem VT.of0 {hs:List Nat} {v:AV} {k:Kd} (h:VT W [] v k):VT W hs v k:=by have:=h.mono hs; rwa [qj4] at this
theorem Z5m {hs:List Nat} {n:Int}:(∃ v,told n=.inl v∧VT W hs v .n)∨∃ e,told n=.inr e:=by
 unfold told
 split
 ·exact .inl ⟨_,rfl,.int (by assumption)⟩
 ·exact .inr ⟨_,rfl⟩
theorem Z7n (wk:WOk W P ss) {s:MS} {f:AFr} {fs:List AFr} {B:Blk} {b word:Nat} {ps:List Kd} {tk told:Kd} {sl:List (Option Kd)} {st:List Kd} (md:MdT W s.made) (mm:MmT W ss s.mem) (en:s.ended=none) (hB:P.blocks[f.n]?=some B) (hs:Sf W ss told (B.rows.drop (f.pc+1)) sl (tk::st)) (h1:SlT W (s.made.map Prod.fst) f.sl sl)
  (h2:StT W (s.made.map Prod.fst) f.st (ps.reverse++.h::st)) (hc:Ctx W P ss (s.made.map Prod.fst) fs told) (ho:W.owners[b]?=some word) (hh:W.heads[word]?=some (ps,tk)):∃ s',enter P s f fs b (1+ps.length)=some s'∧TyS W P ss s':=by
 unfold enter
 by_cases h:P.most≤s.calls
 ·exact ⟨_,if_pos h,Z3u md mm⟩
 rw [if_neg h]
 by_cases h:40 < fs.length+1
 ·exact ⟨_,if_pos h,Z3u (s:={ s with calls:=s.calls+1 }) md mm⟩
 rw [if_neg h]
 obtain ⟨C,hC,hz,hsf⟩:=wk.blk b word ps tk ho hh
 have el:(ps.reverse++[Kd.h]).length=1+ps.length:=by rw [qa1,qc2]; exact Nat.add_comm _ _
 have h2':StT W (s.made.map Prod.fst) f.st ((ps.reverse++[.h])++st):=by rw [qc7]; exact h2
 obtain ⟨a1,a2⟩:=h2'.split
 rw [el] at a1 a2
 have lf:1+ps.length≤f.st.length:=by
  have:=a1.len
  rw [el,qc4] at this
  omega
 rw [if_pos lf,hC]
 show ∃ s',(if 1+ps.length≤C.size then _ else _)=some s'∧_
 rw [if_pos qR]
 refine ⟨_,rfl,md,mm,.inl ⟨en,_,_,C,tk,some .h::ps.map some++[none,none],[],rfl,hC,?_,?_,.nil,.cons hB hs h1 a2 hc⟩⟩
 ·rw [qg1]; exact hsf
 ·have r:=a1.rev
  rw [qh5,qm1] at r
  have lr:((f.st.take (1+ps.length)).reverse).length=1+ps.length:=by rw [qc2,qc4]; omega
  refine ⟨?_,fun i v k e1 e2=>?_⟩
  ·simp only [qa1,qb8,qa2,qe2,qd3,lr]; omega
  ·have hi:i < 1+ps.length:=by
    rcases qh6 i (1+ps.length) with z | z
    ·exact z
    ·rw [show (some Kd.h::ps.map some++[none,none]:List (Option Kd))=(some Kd.h::ps.map some)++[none,none] from rfl,qd6 (by rw [qb8,qa2]; omega)] at e2
     have:=qb9 e2
     simp at this
   rw [qd4 qR] at e1
   rw [show (some Kd.h::ps.map some++[none,none]:List (Option Kd))=(Kd.h::ps).map some++[none,none] from rfl,qd4 (by rw [qa2,qb8]; omega),qc8] at e2
   obtain ⟨k',e3,e4⟩:=qb6.mp e2
   cases e4
   exact r.at e1 e3
theorem J1V (wk:WOk W P ss) {s:MS} {house site word:Nat} (md:MdT W s.made) (mm:MmT W ss s.mem) (hs:ss[site]?=some word) (hh:house < W.fields.length) (hw:word < W.heads.length):∃ b s',found P s house site word=some (b,s')∧W.owners[b]?=some word∧s'.made=s.made∧MmT W ss s'.mem∧s'.ended=s.ended∧s'.frames=s.frames:=by
 obtain ⟨b,hb,ob⟩:=wk.tab house hh word hw
 have upd:∀ ps:PL,(∀ p∈ps,0≤p.2∧W.owners[p.2.toNat]?=some word)→MmT W ss (updM s.mem site ps):=fun ps h st w hw p hp=>by
  unfold getP updM at hp
  by_cases e:(st:Int)=site
  ·rw [if_pos e] at hp
   have e:st=site:=by omega
   subst e
   rw [hs] at hw
   cases hw
   exact h p hp
  ·rw [if_neg e] at hp
   exact mm st w hw p hp
 unfold found
 rw [hb]
 cases hr:P.rem with
 | false=>exact ⟨b,_,rfl,ob,rfl,mm,rfl,rfl⟩
 | true=>
  have ms:=mm site word hs
  show ∃ b' s',(match seen (getP s.mem site) house with | (_,b)::_=>_ | []=>_)=some (b',s')∧_
  cases hq:seen (getP s.mem site) house with
  | nil=>
   refine ⟨b,_,rfl,ob,rfl,upd _ (fun p hp=>?_),rfl,rfl⟩
   rcases qa8.mp (ql9 hp) with e | e
   ·rw [e]; exact ⟨Int.natCast_nonneg b,by rw [qd0]; exact ob⟩
   ·exact ms p e
  | cons p l=>
   have hp:p∈getP s.mem site:=(qd8.mp (show p∈seen (getP s.mem site) house by rw [hq]; exact qb5)).1
   refine ⟨p.2.toNat,_,rfl,(ms p hp).2,rfl,upd _ (fun q hq2=>?_),rfl,rfl⟩
   rcases qd9.mp hq2 with e | e
   ·rw [← hq] at e; exact ms q (qd8.mp e).1
   ·exact ms q (qd8.mp e).1
theorem J2H {s:MS} {f:AFr} {fs:List AFr} {B:Blk} {k ho pl:Nat} {v:AV} {vs st':List AV} {told:Kd} {sl:List (Option Kd)} {st:List Kd} (md:MdT W s.made) (mm:MmT W ss s.mem) (en:s.ended=none) (hB:P.blocks[f.n]?=some B) (hst:f.st=v::.th k::st') (e:s.made[k]?=some (ho,vs)) (hlt:pl < vs.length) (hv:VT W (s.made.map Prod.fst) v (fk pl))
  (hs:Sf W ss told (B.rows.drop (f.pc+1)) sl (fk pl::st)) (h1:SlT W (s.made.map Prod.fst) f.sl sl) (t:StT W (s.made.map Prod.fst) st' st) (hc:Ctx W P ss (s.made.map Prod.fst) fs told):∃ s',rowM P s f fs (.put pl)=some s'∧TyS W P ss s':=by
 have em:(s.made.set k (ho,vs.set pl v)).map Prod.fst=s.made.map Prod.fst:=by
  rw [List.map_set]
  refine List.ext_getElem? fun i=>?_
  rw [qk1]
  split
  ·rename_i hi
   subst hi
   have hl:=(qa9.mp e).1
   rw [if_pos (by rw [qa2]; exact hl),qc8,e]; rfl
  ·rfl
 have md':MdT W (s.made.set k (ho,vs.set pl v)):=fun j h' us hj=>by
  rw [em]
  rw [qk1] at hj
  by_cases z:k=j
  ·rw [if_pos z] at hj
   split at hj
   ·cases hj
    obtain ⟨m,b1,b2,b3⟩:=md k ho vs e
    refine ⟨m,b1,by rw [qf2]; exact b2,fun i u hu=>?_⟩
    rw [qk1] at hu
    by_cases zi:pl=i
    ·rw [if_pos zi] at hu
     rw [if_pos hlt] at hu
     cases hu; subst zi; exact hv
    ·rw [if_neg zi] at hu; exact b3 i u hu
   ·cases hj
  ·rw [if_neg z] at hj; exact md j h' us hj
 refine ⟨{ s with made:=s.made.set k (ho,vs.set pl v),frames:={ f with pc:=f.pc+1,st:=v::st' }::fs },?_,md',mm,.inl ⟨en,{ f with pc:=f.pc+1,st:=v::st' },fs,B,told,sl,_,rfl,hB,hs,?_,?_,?_⟩⟩
 ·unfold rowM
  dsimp only
  rw [hst]
  dsimp only
  rw [e]
  show (if pl < vs.length then _ else _)=_
  rw [if_pos hlt]
 ·show SlT W ((s.made.set k (ho,vs.set pl v)).map Prod.fst) _ _
  rw [em]; exact h1
 ·show StT W ((s.made.set k (ho,vs.set pl v)).map Prod.fst) _ _
  rw [em]; exact .cons hv t
 ·show Ctx W P ss ((s.made.set k (ho,vs.set pl v)).map Prod.fst) _ _
  rw [em]; exact hc
theorem J5p (wk:WOk W P ss) {told:Kd} {r:List Row} {sl:List (Option Kd)} {st:List Kd} (h:Sf W ss told r sl st):∀ (s:MS) (f:AFr) (fs:List AFr) (B:Blk),MdT W s.made→MmT W ss s.mem→s.ended=none→P.blocks[f.n]?=some B→B.rows.drop f.pc=r→SlT W (s.made.map Prod.fst) f.sl sl→StT W (s.made.map Prod.fst) f.st st→Ctx W P ss (s.made.map Prod.fst) fs told →
  ∃ a r',r=a::r'∧∃ s',rowM P s f fs a=some s'∧TyS W P ss s':=by
 induction h with
 | wk _ ih=>
  intro s f fs B md mm en hB hr h1 h2 hc
  generalize hst:f.st=fst at h2
  cases h2 with
  | cons v t=>exact ih s f fs B md mm en hB hr h1 (by rw [hst]; exact .cons v.wk t) hc
 | @back sl st=>
  intro s f fs B md mm en hB hr h1 h2 hc
  refine ⟨_,_,rfl,?_⟩
  unfold rowM
  generalize hst:f.st=fst at h2
  cases h2 with
  | @cons v _ _ _ hv t=>
   cases hc with
   | nil=>
    cases hv with
    | int b=>exact ⟨_,rfl,Z3u md mm⟩
    | bl=>exact ⟨_,rfl,Z3u md mm⟩
    | @th k ho a=>
     obtain ⟨vs,e⟩:=Z3q a
     refine ⟨ends s (.thing ho),?_,Z3u md mm⟩
     show (s.made[_]?).map _=_
     rw [e]; rfl
    | @tx k ho a _=>
     obtain ⟨vs,e⟩:=Z3q a
     refine ⟨ends s (.thing ho),?_,Z3u md mm⟩
     show (s.made[_]?).map _=_
     rw [e]; rfl
   | @cons g gs _ tk C sl' st' a b c d e=>exact ⟨_,rfl,md,mm,.inl ⟨en,_,_,C,tk,sl',_,rfl,a,b,c,.cons hv d,e⟩⟩
 | push a hs _=>
  intro s f fs B md mm en hB hr h1 h2 hc
  exact ⟨_,_,rfl,_,rfl,go (g:={ f with pc:=f.pc+1,st:=_::f.st }) md mm en hB rfl (by rw [(Z2X hr).2]; exact hs) h1 (.cons a.of0 h2) hc⟩
 | @load i k r sl st a hs _=>
  intro s f fs B md mm en hB hr h1 h2 hc
  have hi:i < f.sl.length:=by rw [h1.1]; exact (qa9.mp a).1
  have e:f.sl[i]?=some f.sl[i]:=qb2 hi
  refine ⟨_,_,rfl,_,?_,go (g:={ f with pc:=f.pc+1,st:=f.sl[i]::f.st }) md mm en hB rfl (by rw [(Z2X hr).2]; exact hs) h1 (.cons (h1.2 i _ k e a) h2) hc⟩
  show ((f.sl[i]?).map _).map _=_
  rw [e]; rfl
 | nt hs _=>
  intro s f fs B md mm en hB hr h1 h2 hc
  generalize hst:f.st=fst at h2
  cases h2 with
  | cons v t=>
   cases v with
   | @bl b=>
    refine ⟨_,_,rfl,_,?_,go (g:={ f with pc:=f.pc+1,st:=.bl (!b)::_ }) md mm en hB rfl (by rw [(Z2X hr).2]; exact hs) h1 (.cons .bl t) hc⟩
    unfold rowM own
    dsimp only
    rw [hst]; rfl
 | @get pl r sl st hp hs _=>
  intro s f fs B md mm en hB hr h1 h2 hc
  generalize hst:f.st=fst at h2
  cases h2 with
  | cons v t=>
   obtain ⟨k,ho,rfl,hk⟩:=v.house
   obtain ⟨vs,e⟩:=Z3q hk
   obtain ⟨m,g1,g2,g3⟩:=md k ho vs e
   have hlt:pl < vs.length:=by rw [g2]; exact hp m (qb9 g1)
   have ev:vs[pl]?=some vs[pl]:=qb2 hlt
   refine ⟨_,_,rfl,_,?_,go (g:={ f with pc:=f.pc+1,st:=vs[pl]::_ }) md mm en hB rfl (by rw [(Z2X hr).2]; exact hs) h1 (.cons (g3 pl _ ev) t) hc⟩
   unfold rowM own
   dsimp only
   rw [hst]
   dsimp only
   rw [e]
   show (((vs[pl]?).map _)).map _=_
   rw [ev]; rfl
 | @get3 r sl st hs _=>
  intro s f fs B md mm en hB hr h1 h2 hc
  generalize hst:f.st=fst at h2
  cases h2 with
  | cons v t=>
   cases v with
   | @tx k ho hk h4=>
   obtain ⟨vs,e⟩:=Z3q hk
   obtain ⟨m,g1,g2,g3⟩:=md k ho vs e
   rw [h4] at g1
   cases g1
   have ev:vs[3]?=some vs[3]:=qb2 qR
   refine ⟨_,_,rfl,_,?_,go (g:={ f with pc:=f.pc+1,st:=vs[3]::_ }) md mm en hB rfl (by rw [(Z2X hr).2]; exact hs) h1 (.cons (g3 3 _ ev) t) hc⟩
   unfold rowM own
   dsimp only
   rw [hst]
   dsimp only
   rw [e]
   show (((vs[3]?).map _)).map _=_
   rw [ev]; rfl
 | @keep i k r sl st hi hs _=>
  intro s f fs B md mm en hB hr h1 h2 hc
  generalize hst:f.st=fst at h2
  cases h2 with
  | @cons v _ st' _ hv t=>
   refine ⟨_,_,rfl,_,?_,go (g:={ f with pc:=f.pc+1,sl:=f.sl.set i v,st:=st' }) md mm en hB rfl (by rw [(Z2X hr).2]; exact hs) (h1.put i hv) t hc⟩
   unfold rowM own
   dsimp only
   rw [hst]
   dsimp only
   rw [if_pos (by rw [h1.1]; exact hi)]; rfl
 | drop hs _=>
  intro s f fs B md mm en hB hr h1 h2 hc
  generalize hst:f.st=fst at h2
  cases h2 with
  | @cons v _ st' _ hv t=>
   refine ⟨_,_,rfl,_,?_,go (g:={ f with pc:=f.pc+1,st:=st' }) md mm en hB rfl (by rw [(Z2X hr).2]; exact hs) h1 t hc⟩
   unfold rowM own
   dsimp only
   rw [hst]; rfl
 | @skip n r sl st _ _ hs _=>
  intro s f fs B md mm en hB hr h1 h2 hc
  exact ⟨_,_,rfl,_,rfl,go (g:={ f with pc:=f.pc+1+n }) md mm en hB rfl (by rw [J5m hr]; exact hs) h1 h2 hc⟩
 | @unl n r sl st _ hs hs2 _ _=>
  intro s f fs B md mm en hB hr h1 h2 hc
  generalize hst:f.st=fst at h2
  cases h2 with
  | @cons v _ st' _ hv t=>
   cases hv with
   | @bl b=>
    refine ⟨_,_,rfl,_,?_,go (g:={ f with pc:=f.pc+1+(if b then 0 else n),st:=st' }) (sl:=sl) (st:=st) md mm en hB rfl ?_ h1 t hc⟩
    ·unfold rowM own
     dsimp only
     rw [hst]; rfl
    ·show Sf W ss _ (B.rows.drop (f.pc+1+(if b then 0 else n))) sl st
     rw [J5m hr]
     cases b with
     | false=>exact hs2
     | true=>exact hs
 | @num g r sl st n1 n2 hs _=>
  intro s f fs B md mm en hB hr h1 h2 hc
  generalize hst:f.st=fst at h2
  cases h2 with
  | cons v t=>
   cases t with
   | @cons u _ st' _ hu t=>
    cases v with
    | @int y hy=>
     cases hu with
     | @int x hx=>
      have key:∀ o,two g (.int x) (.int y)=some o→((∃ v,o=.inl v∧VT W (s.made.map Prod.fst) v .n)∨∃ e,o=.inr e)→∃ s',rowM P s f fs (.two g)=some s'∧TyS W P ss s':=fun o ho hor=>by
       have e:rowM P s f fs (.two g)=some (match (match o with | .inl v=>(Sum.inl { f with pc:=f.pc+1,st:=v::st' }:AFr ⊕ End) | .inr e=>.inr e) with | .inl f'=>{ s with frames:=f'::fs } | .inr e=>ends s e):=by
        unfold rowM own
        dsimp only
        rw [hst]
        dsimp only
        rw [ho]; rfl
       rcases hor with ⟨v,rfl,hv⟩ | ⟨z,rfl⟩
       ·exact ⟨_,e,go (g:={ f with pc:=f.pc+1,st:=v::st' }) md mm en hB rfl (by rw [(Z2X hr).2]; exact hs) h1 (.cons hv t) hc⟩
       ·exact ⟨_,e,Z3u md mm⟩
      refine ⟨_,_,rfl,?_⟩
      cases g with
      | add=>exact key _ rfl Z5m
      | sub=>exact key _ rfl Z5m
      | mul=>exact key _ rfl Z5m
      | div=>
       refine key _ rfl ?_
       by_cases z:y=0
       ·rw [if_pos z]; exact .inr ⟨_,rfl⟩
       ·rw [if_neg z]; exact Z5m
      | less=>exact absurd rfl n1
      | same=>exact absurd rfl n2
 | @less r sl st hs _=>
  intro s f fs B md mm en hB hr h1 h2 hc
  generalize hst:f.st=fst at h2
  cases h2 with
  | cons v t=>
   cases t with
   | @cons u _ st' _ hu t=>
    cases v with
    | @int y hy=>
     cases hu with
     | @int x hx=>
      refine ⟨_,_,rfl,_,?_,go (g:={ f with pc:=f.pc+1,st:=.bl (decide (x < y))::st' }) md mm en hB rfl (by rw [(Z2X hr).2]; exact hs) h1 (.cons .bl t) hc⟩
      unfold rowM own
      dsimp only
      rw [hst]; rfl
 | @same k r sl st hk hs _=>
  intro s f fs B md mm en hB hr h1 h2 hc
  generalize hst:f.st=fst at h2
  cases h2 with
  | @cons v _ _ _ hv t=>
   cases t with
   | @cons u _ st' _ hu t=>
    have key:∀ b,two .same u v=some (.inl (.bl b))→∃ s',rowM P s f fs (.two .same)=some s'∧TyS W P ss s':=fun b hb=>by
     refine ⟨_,?_,go (g:={ f with pc:=f.pc+1,st:=.bl b::st' }) md mm en hB rfl (by rw [(Z2X hr).2]; exact hs) h1 (.cons .bl t) hc⟩
     unfold rowM own
     dsimp only
     rw [hst]
     dsimp only
     rw [hb]; rfl
    refine ⟨_,_,rfl,?_⟩
    cases hv with
    | int _=>cases hu with | int _=>exact key _ rfl
    | bl=>cases hu with | bl=>exact key _ rfl
    | th _=>cases hu with | th _=>exact key _ rfl
    | tx _ _=>exact absurd rfl hk
 | @make ho m r sl st hf hs _=>
  intro s f fs B md mm en hB hr h1 h2 hc
  have el:(((qc6 m).map fk).reverse).length=m:=by rw [qc2,qa2,qf6]
  obtain ⟨a1,a2⟩:=h2.split
  rw [el] at a1 a2
  have lf:m≤f.st.length:=by
   have:=a1.len
   rw [el,qc4] at this
   omega
  have em:(s.made++[(ho,(f.st.take m).reverse)]).map Prod.fst=s.made.map Prod.fst++[ho]:=by rw [qe1]; rfl
  have md':MdT W (s.made++[(ho,(f.st.take m).reverse)]):=fun k h' vs e=>by
   rw [em]
   rcases qh6 k s.made.length with z | z
   ·rw [qd4 z] at e
    obtain ⟨m',b1,b2,b3⟩:=md k h' vs e
    exact ⟨m',b1,b2,fun j v hv=>(b3 j v hv).mono _⟩
   ·rw [qd6 z] at e
    have:=qb9 e
    cases qc3.mp this
    have r1:=a1.rev
    rw [qm1] at r1
    refine ⟨m,hf,by rw [qc2,qc4]; omega,fun j v hv=>(r1.at hv ?_).mono _⟩
    have hj:j < m:=by
     have:=(qa9.mp hv).1
     rw [qc2,qc4] at this
     omega
    rw [qc8,List.getElem?_range hj]; rfl
  have hk:(s.made.map Prod.fst++[ho])[s.made.length]?=some ho:=by
   rw [qd6 (by rw [qa2]; exact qa0 _),qa2,qg3]; rfl
  refine ⟨_,_,rfl,{ s with made:=s.made++[(ho,(f.st.take m).reverse)],frames:={ f with pc:=f.pc+1,st:=.th s.made.length::f.st.drop m }::fs },?_,md',mm,.inl ⟨en,{ f with pc:=f.pc+1,st:=.th s.made.length::f.st.drop m },fs,B,_,sl,_,rfl,hB,(by show Sf W ss _ (B.rows.drop (f.pc+1)) _ _; rw [(Z2X hr).2]; exact hs),?_,?_,?_⟩⟩
  ·unfold rowM
   dsimp only
   rw [if_pos lf]
  ·show SlT W ((s.made++[(ho,(f.st.take m).reverse)]).map Prod.fst) _ _
   rw [em]; exact h1.mono _
  ·show StT W ((s.made++[(ho,(f.st.take m).reverse)]).map Prod.fst) _ _
   rw [em]
   refine .cons ?_ (a2.mono _)
   split
   ·rename_i h4; exact .tx hk (by rw [hf,h4])
   ·exact .th hk
  ·show Ctx W P ss ((s.made++[(ho,(f.st.take m).reverse)]).map Prod.fst) _ _
   rw [em]; exact hc.mono _
 | @put pl r sl st hp hs _=>
  intro s f fs B md mm en hB hr h1 h2 hc
  generalize hst:f.st=fst at h2
  cases h2 with
  | @cons v _ _ _ hv t=>
   cases t with
   | @cons u _ st' _ hu t=>
    obtain ⟨k,ho,rfl,hk⟩:=hu.house
    obtain ⟨vs,e⟩:=Z3q hk
    obtain ⟨m,g1,g2,g3⟩:=md k ho vs e
    have hlt:pl < vs.length:=by rw [g2]; exact hp m (qb9 g1)
    exact ⟨_,_,rfl,J2H md mm en hB hst e hlt hv (by rw [(Z2X hr).2]; exact hs) h1 t hc⟩
 | @put3 r sl st hs _=>
  intro s f fs B md mm en hB hr h1 h2 hc
  generalize hst:f.st=fst at h2
  cases h2 with
  | @cons v _ _ _ hv t=>
   cases t with
   | @cons u _ st' _ hu t=>
    cases hu with
    | @tx k ho hk h4=>
    obtain ⟨vs,e⟩:=Z3q hk
    obtain ⟨m,g1,g2,g3⟩:=md k ho vs e
    rw [h4] at g1
    cases g1
    exact ⟨_,_,rfl,J2H (pl:=3) md mm en hB hst e qR hv (by rw [(Z2X hr).2]; exact hs) h1 t hc⟩
 | @straight b word ps tk r sl st ho hh hs _=>
  intro s f fs B md mm en hB hr h1 h2 hc
  exact ⟨_,_,rfl,Z7n wk md mm en hB (by rw [(Z2X hr).2]; exact hs) h1 h2 hc ho hh⟩
 | @call site word ps tk r sl st hw hh hs _=>
  intro s f fs B md mm en hB hr h1 h2 hc
  have h2':StT W (s.made.map Prod.fst) f.st ((ps.reverse++[.h])++st):=by rw [qc7]; exact h2
  have el:(ps.reverse++[Kd.h]).length=1+ps.length:=by rw [qa1,qc2]; exact Nat.add_comm _ _
  obtain ⟨a1,a2⟩:=h2'.split
  rw [el] at a1
  have lf:1+ps.length≤f.st.length:=by
   have:=a1.len
   rw [el,qc4] at this
   omega
  have r1:=a1.rev
  rw [qh5,qm1] at r1
  generalize hrev:(f.st.take (1+ps.length)).reverse=rv at r1
  cases r1 with
  | @cons v _ rest _ hv _=>
   obtain ⟨k,ho,rfl,hk⟩:=hv.house
   obtain ⟨vs,e⟩:=Z3q hk
   obtain ⟨m,g1,_⟩:=md k ho vs e
   obtain ⟨b,s1,hfo,ob,e1,mm1,e2,e3⟩:=J1V wk md mm hw (qa9.mp g1).1 (qa9.mp hh).1
   obtain ⟨s2,he,ty⟩:=Z7n (s:=s1) wk (by rw [e1]; exact md) mm1 (by rw [e2]; exact en) hB (by rw [(Z2X hr).2]; exact hs) (by rw [e1]; exact h1) (by rw [e1]; exact h2) (by rw [e1]; exact hc) ob hh
   refine ⟨_,_,rfl,s2,?_,ty⟩
   unfold rowM
   dsimp only
   rw [hrev]
   dsimp only
   rw [if_pos lf,e]
   show (found P s ho site word).bind _=_
   rw [hfo]
   exact he
theorem J3y (wk:WOk W P ss) {s:MS} (t:TyS W P ss s) (en:s.ended=none):∃ s',step P s=some s'∧TyS W P ss s':=by
 rcases t.fr with ⟨_,f,fs,B,told,sl,st,e,hB,hsf,h1,h2,hc⟩ | ⟨n,_⟩
 ·obtain ⟨a,r,hr,s',h3,h4⟩:=J5p wk hsf { s with rows:=s.rows+1 } f fs B t.md t.mm en hB rfl h1 h2 hc
  refine ⟨s',?_,h4⟩
  rw [Z8W en e (r:=a)]
  ·exact h3
  ·unfold row?
   rw [hB]
   exact (Z2X hr).1
 ·exact absurd en n
end
end MT
end
section
namespace L2
open PySem PySem.Spec PyProof.Rows
theorem Z9J {K:y9} {a:y8} {tc:TT} {Q:VK} {H:Hp} {D:y8} {ys:List V} {σ0:St} (v0:Option V) (rest:St) (p:Nat→Bool) (e0:σ0=v0::rest) (hD:H D=none) (hz:ys.length≤sizeLine) (ha:∀ H1,Same H H1→SqL K H1 a ys)
  (hc:∀ i y,ys[i]?=some y→∀ H1 (K':Bool→Hp→Prop),Same H H1→(∀ H2,Same H1 H2→K' (p i) H2)→tc (some y::rest) H1 K')
  (hQ:∀ zs H',Same H H'→H' D=some (.lst zs)→(zs=[]→∀ i,i < ys.length→p i=false)→((∀ i,i < ys.length→p i=false)→zs=[])→Q (.ref D) H'):Z3z (Itl K a) (Z2A 0) tc (Z3s 0) D Q σ0 (upd H D (.lst [])):=by
 refine ⟨fun i m σ' H'=>m=ys.length - i∧i≤ys.length∧(∃ v,σ'=v::rest)∧Same H H'∧∃ zs,H' D=some (.lst zs)∧zs.length≤i∧(zs=[]→∀ j,j < i→p j=false)∧((∀ j,j < i→p j=false)→zs=[]),⟨ys.length,by simp,qa4 _,⟨v0,e0⟩,Z0f hD _,[],Z0d,qa0 _,fun _ j h=>absurd h (qg7 _),fun _=>rfl⟩,?_⟩
 rintro i m σ' H' ⟨rfl,hi,⟨v,rfl⟩,s1,zs,hv,hzl,f1,f2⟩
 have hq:=ha H' s1
 by_cases hlt:i < ys.length
 ·refine .inr ⟨⟨ys,ys[i],hq,qb2 hlt⟩,fun σ2 H2=>(∃ v,σ2=v::rest)∧Same H H2∧∃ zs,H2 D=some (.lst zs)∧zs.length≤i+1∧(zs=[]→∀ j,j < i+1→p j=false)∧((∀ j,j < i+1→p j=false)→zs=[]),fun σ2 H2 ⟨a,b,c⟩=>⟨ys.length - (i+1),qR,rfl,hlt,a,b,c⟩,fun x H2 hx=>?_⟩
  obtain ⟨e1,e2⟩:=hx
  subst e1
  have ex:=e2 ys hq
  unfold Z2A
  rw [qi9]
  refine hc i x ex H2 _ s1 fun H3 s3=>?_
  have h3:=s3 _ _ hv
  cases e:p i with
  | true=>
   rw [if_pos rfl]
   refine ⟨_,h3,qR,⟨_,rfl⟩,fun b o hb=>?_,_,Z0d,by rw [qa1]; exact qd7 hzl,fun z=>absurd z (by simp),fun h=>?_⟩
   ·rw [Z0e (Z0m hb hD)]
    exact s3 _ _ (s1 _ _ hb)
   ·rw [h i (qh0 _)] at e; cases e
  | false=>
   rw [if_neg qQ]
   refine ⟨⟨_,rfl⟩,s1.trans s3,zs,h3,qR,fun z j hj=>?_,fun h=>f2 fun j hj=>h j qR⟩
   by_cases ej:j=i
   ·rw [ej]; exact e
   ·exact f1 z j qR
 ·have e:i=ys.length:=by omega
  subst e
  exact .inl ⟨⟨ys,hq,qa0 _⟩,hQ zs H' s1 hv f1 f2⟩
theorem Z3h {tc:TT} {Q:VK} {H:Hp} {D:y8} {n:Nat} {σ0:St} (v0:Option V) (rest:St) (p:Nat→Bool) (e0:σ0=v0::rest) (hD:H D=none) (hz:n≤sizeLine)
  (hc:∀ i,i < n→∀ H1 (K':Bool→Hp→Prop),Same H H1→(∀ H2,Same H1 H2→K' (p i) H2)→tc (some (.int i)::rest) H1 K')
  (hQ:∀ H',Same H H'→H' D=some (.lst (((qc6 n).filter p).map fun i:Nat=>V.int i))→Q (.ref D) H'):Z3z (Itr 0 n) (Z2A 0) tc (Z3s 0) D Q σ0 (upd H D (.lst [])):=by
 refine ⟨fun i m σ' H'=>m=n - i∧i≤n∧(∃ v,σ'=v::rest)∧Same H H'∧H' D=some (.lst (((qc6 i).filter p).map fun i:Nat=>V.int i)),⟨n,by simp,qa4 _,⟨v0,e0⟩,Z0f hD _,Z0d⟩,?_⟩
 rintro i m σ' H' ⟨rfl,hi,⟨v,rfl⟩,s1,hv⟩
 by_cases hlt:i < n
 ·refine .inr ⟨hlt,fun σ2 H2=>(∃ v,σ2=v::rest)∧Same H H2∧H2 D=some (.lst (((qc6 (i+1)).filter p).map fun i:Nat=>V.int i)),fun σ2 H2 ⟨a,b,c⟩=>⟨n - (i+1),qR,rfl,hlt,a,b,c⟩,fun x H2 hx=>?_⟩
  obtain ⟨e1,e2⟩:=hx
  subst e1 e2
  unfold Z2A
  rw [qi9,qe6]
  refine hc i hlt H2 _ s1 fun H3 s3=>?_
  have h3:=s3 _ _ hv
  rw [List.range_succ,ql6,qe1]
  cases e:p i with
  | true=>
   rw [if_pos rfl]
   refine ⟨_,h3,?_,⟨_,rfl⟩,fun b o hb=>?_,?_⟩
   ·rw [qa2]
    have:=qf5 p (qc6 i)
    rw [qf6] at this
    omega
   ·rw [Z0e (Z0m hb hD)]
    exact s3 _ _ (s1 _ _ hb)
   ·rw [Z0d,qj9,e]
    rfl
  | false=>
   rw [if_neg qQ]
   refine ⟨⟨_,rfl⟩,s1.trans s3,?_⟩
   rw [qj9,e,h3]
   simp
 ·have e:i=n:=by omega
  subst e
  exact .inl ⟨qa0 _,hQ H' s1 hv⟩
end L2
end
section
namespace L2
open PySem PySem.Spec PyProof.Rows PySem.SeqAt
structure Nb (k n:Nat) (d:PyData):Prop where
 lay:d.canLay0=true
 sho:d.showable=true
 leaf:d.leavesShort 30=true
 dep:d.depth≤k
 bk:d.bulk≤n
structure NbL (k n:Nat) (ds:List PyData):Prop where
 lay:PyData.canLayAll0 ds=true
 sho:PyData.showableAll ds=true
 leaf:PyData.leavesShortAll 30 ds=true
 dep:PyData.depthAll ds≤k
 bk:PyData.bulkAll ds≤n
theorem Nb.mono {k n k' n':Nat} {d:PyData} (h:Nb k n d) (hk:k≤k') (hn:n≤n'):Nb k' n' d:=⟨h.lay,h.sho,h.leaf,qa7 h.dep hk,qa7 h.bk hn⟩
theorem NbL.mono {k n k' n':Nat} {d:List PyData} (h:NbL k n d) (hk:k≤k') (hn:n≤n'):NbL k' n' d:=⟨h.lay,h.sho,h.leaf,qa7 h.dep hk,qa7 h.bk hn⟩
theorem NbL.nil {k n:Nat}:NbL k n []:=⟨rfl,rfl,rfl,qa4 _,qa4 _⟩
theorem NbL.cons {k a b n:Nat} {d:PyData} {ds:List PyData} (h:Nb k a d) (hs:NbL k b ds) (hn:a+1+b≤n):NbL k n (d::ds) where
 lay:=by rw [PyData.canLayAll0,h.lay,hs.lay]; rfl
 sho:=by rw [PyData.showableAll,h.sho,hs.sho]; rfl
 leaf:=by rw [PyData.leavesShortAll,h.leaf,hs.leaf]; rfl
 dep:=by rw [PyData.depthAll]; exact Nat.max_le.mpr ⟨h.dep,hs.dep⟩
 bk:=by rw [PyData.bulkAll]; have:=h.bk; have:=hs.bk; omega
theorem NbL.snoc {k a b n:Nat} {d:PyData}:∀ {ds:List PyData},NbL k b ds→Nb k a d→a+1+b≤n→NbL k n (ds++[d])
 | [],h,h',hn=>.cons h' (b:=b) .nil qR
 | e::ds,h,h',hn=>by
  have l:=h.lay
  have s:=h.sho
  have f:=h.leaf
  have p:=h.dep
  have w:=h.bk
  rw [PyData.canLayAll0,qf1] at l
  rw [PyData.showableAll,qf1] at s
  rw [PyData.leavesShortAll,qf1] at f
  rw [PyData.depthAll] at p
  rw [PyData.bulkAll] at w
  have p:=Nat.max_le.mp p
  exact NbL.cons (a:=e.bulk) (b:=PyData.bulkAll ds+a+1) ⟨l.1,s.1,f.1,p.1,qa0 _⟩ (NbL.snoc (b:=PyData.bulkAll ds) ⟨l.2,s.2,f.2,p.2,qa0 _⟩ h' qR) qR
theorem Nb.tup {k n:Nat} {ds:List PyData} (h:NbL k n ds):Nb (k+1) n (.tuple ds) where
 lay:=by rw [PyData.canLay0]; exact h.lay
 sho:=by rw [PyData.showable]; exact h.sho
 leaf:=by rw [PyData.leavesShort]; exact h.leaf
 dep:=by rw [PyData.depth]; exact qd7 h.dep
 bk:=by rw [PyData.bulk]; exact h.bk
theorem Nb.lst {k n:Nat} {ds:List PyData} (h:NbL k n ds):Nb (k+1) n (.list ds) where
 lay:=by rw [PyData.canLay0]; exact h.lay
 sho:=by rw [PyData.showable]; exact h.sho
 leaf:=by rw [PyData.leavesShort]; exact h.leaf
 dep:=by rw [PyData.depth]; exact qd7 h.dep
 bk:=by rw [PyData.bulk]; exact h.bk
theorem Nb.none {k n:Nat}:Nb k n .none:=⟨rfl,rfl,rfl,qa4 _,qa4 _⟩
theorem Nb.bool {k n:Nat} {b:Bool}:Nb k n (.bool b):=⟨rfl,rfl,rfl,qa4 _,qa4 _⟩
theorem Nb.int {k n:Nat} {i:Int} (h:i.natAbs < 10 ^ 18):Nb k n (.int i):=have m:=Nice.int (k:=k) h; ⟨m.lay,m.sho,m.leaf,m.dep,qa4 _⟩
theorem Nb.str {k n:Nat} {x:Str} (h:PyData.strOk x=true) (hn:x.cps.size≤n):Nb k n (.str x):=have m:=Nice.str (k:=k) h hn; ⟨m.lay,m.sho,m.leaf,m.dep,by rw [PyData.bulk]; exact hn⟩
theorem Nb.fits {k n:Nat} {d:PyData} (h:Nb k n d) (hn:n≤500000):d.shown.length≤sizeLine:=by
 have:=PyData.shown_le_bulk 30 qQ d h.leaf
 have:=h.bk
 rw [sizeLine_eq]
 omega
theorem Nb.rp {k n:Nat} {d:PyData} (h:Nb k n d) (hk:k≤60) (hn:n≤500000):d.showable=true∧d.hasDict=false∧d.depth≤60∧d.shown.length≤16777216:=⟨h.sho,PyData.hasDict_of_canLay d h.lay,qa7 h.dep hk,by have:=h.fits hn; rw [sizeLine_eq] at this; exact this⟩
theorem Nb.shaped {k n:Nat} {d:PyData} (h:Nb k n d) (hk:k≤64):shaped d=true:=qk0.mpr ⟨h.lay,decide_eq_true (qa7 h.dep hk)⟩
theorem Z3V {K:y9} {H:Hp} {α:Type} {R:V→α→Prop} {g:α→PyData} {k n:Nat}:∀ {vs:List V} {as:List α},Paired R vs as→(∀ v a,R v a→a∈as→RdD K H v (g a)∧Nb k n (g a))→RdDs K H vs (as.map g)∧NbL k ((n+1) * as.length) (as.map g)
 | _,_,.nil,_=>⟨.nil,.nil⟩
 | _,_,.cons r rs,h=>by
  obtain ⟨a,b⟩:=h _ _ r qb5
  obtain ⟨c,e⟩:=Z3V rs fun v x hx hm=>h v x hx (qb1 _ hm)
  exact ⟨.cons a c,NbL.cons b e (by rw [qb8,Nat.mul_succ]; omega)⟩
end L2
end
section
namespace L2
open PySem PySem.Spec PyProof.Rows
section
variable {X:Cx}
theorem J1H {its:List Value} {ys:List Int} (rv:Vals (ys.map V.int) its):ys.length=its.length∧∀ (i:Nat) (v:Value),its[i]?=some v→∃ t,v=Value.int (ys.getD i 0) t:=by
 have hl:=rv.length
 rw [qa2] at hl
 refine ⟨hl,fun i v h=>?_⟩
 have hi:i < ys.length:=by rw [hl]; exact (qa9.mp h).1
 obtain ⟨u,e,r⟩:=rv.get (i:=i) (x:=V.int ys[i]) (by rw [qc8,qb2 hi]; rfl)
 rw [h] at e
 cases e
 obtain ⟨t,rfl⟩:=(show ∃ t,_=Value.int ys[i] t from r)
 exact ⟨t,by rw [qm2,qb2 hi]; rfl⟩
end
section
variable {P:Program} {w:World} {A:Around} {E:Value→Shared→Prop} {s:Shared}
def J4h (ys:List Int) (m:Int):Prop:=m∈ys∧∀ a∈ys,m≤a
theorem J1G {ys:List Int} (h:0 < ys.length):J4h ys (ys.getD (argBest (fun i j=>decide (ys.getD i 0 < ys.getD j 0)) (ys.length - 1)) 0):=by
 obtain ⟨a,b⟩:=argBest_lt (fun i=>ys.getD i 0) (ys.length - 1)
 refine ⟨?_,fun x hx=>?_⟩
 ·have lt:argBest (fun i j=>decide (ys.getD i 0 < ys.getD j 0)) (ys.length - 1) < ys.length:=by omega
  rw [qm2,qb2 lt]
  exact qe3 lt
 ·obtain ⟨j,hj,e⟩:=List.getElem_of_mem hx
  have:=b j qR
  have ex:ys.getD j 0=ys[j]:=by rw [qm2,qb2 hj]; rfl
  rw [ex] at this
  rw [← e]; exact this
theorem Z8z {l it:y8} {its:List Value} {ys:List Int} (hh:A.handled=none) (hl:ys.length=its.length) (hv:∀ (i:Nat) (v:Value),its[i]?=some v→∃ t,v=Value.int (ys.getD i 0) t) (hne:l≠it) :
  Walks P w A it [it,l] [it] its.toArray.size (fun i v=>its.toArray[i]?=some v) (fun i h=>h.IsListIter it l i∧h.IsList l its.toArray)∧CmpOf P w A .Lt (fun i v=>its.toArray[i]?=some v) (fun i j=>decide (ys.getD i 0 < ys.getD j 0)):=
 ⟨Walks.list hh it l hne its.toArray,CmpOf.ints_lt (fun i=>ys.getD i 0) fun i v h=>hv i v (by simpa using h)⟩
end
section
variable {X:Cx}
def J3v (K:y9):List V→Hp→VK→Prop:=fun xs H Q=>∃ (p:y8) (ys:List Int),xs=[.ref p]∧SqL K H p (ys.map V.int)∧ys≠[]∧∀ m,J4h ys m→Q (.int m) H
theorem J5S {K:y9} {xs:List V} {H:Hp} {Q:VK}:J3v K xs H Q=∃ (p:y8) (ys:List Int),xs=[.ref p]∧SqL K H p (ys.map V.int)∧ys≠[]∧∀ m,J4h ys m→Q (.int m) H:=rfl
theorem Z8V (hc:X.calm=true):Z3T X (.builtin "min") (J3v X.K):=by
 intro pins s σ H xs us Q I r h
 obtain ⟨p,ys,rfl,hq,hne,q⟩:=h
 obtain ⟨u,rfl,ru⟩:=r.one
 cases ru
 obtain ⟨its,rv,pl,hz⟩:=I.list hq
 obtain ⟨hl,hv⟩:=J1H rv
 obtain ⟨o,ho,_,_,_⟩:=id pl.isList
 have lt:p < s.heap.objs.size:=Heap.lt_size ho
 have hp:0 < ys.length:=qm3.mpr hne
 refine call_min_walk (wpAny_pyIter_list pl.isList ?_)
 obtain ⟨W,hcm⟩:=Z8z (P:=X.prog) (w:=X.w) (A:=X.A.in1) (it:=s.heap.objs.size) (l:=p) (its:=its) (ys:=ys) (show X.A.in1.handled=none from I.ok.hd hc) hl hv (qd2 lt)
 refine ⟨s.heap.objs.size,_,_,_,_,_,_,rfl,W,⟨⟨_,Heap.get?_push_size _ rfl,rfl,rfl⟩,pl.isList.at fun o e=>Heap.get?_push_of_some _ e⟩,fun b hb=>?_,by rw [qb0,← hl]; exact hp,hcm,fun v h' tk hu k=>?_⟩
 ·show b < (s.heap.objs.push _).size
  rw [Array.size_push]
  rcases qa8.mp hb with e | e
  ·exact e▸qh0 _
  ·rw [qc3.mp e]; exact Nat.lt_succ_of_lt lt
 ·obtain ⟨t,rfl⟩:=hv (argBest (fun i j=>decide (ys.getD i 0 < ys.getD j 0)) (its.toArray.size - 1)) _ (by rw [← List.getElem?_toArray]; exact hu)
  refine ⟨.int _,H,I.kept fun b o e=>k b o (fun z=>?_) (Heap.get?_push_of_some _ e),⟨t,rfl⟩,q _ ?_⟩
  ·exact absurd (Heap.lt_size e) (by rw [qc3.mp z]; exact qf3 _)
  ·rw [qb0,← hl]; exact J1G hp
end
end L2
end
section
namespace Mach
theorem EnS.lw {P:Prog} {s s':MS} {f:AFr} {fs:List AFr} {b m:Nat} (e:EnS P s f fs b m s'):s'.calls≤s.calls+1∧s'.rows=s.rows:=by
 cases e with
 | dry=>exact ⟨qe9 _,rfl⟩
 | _=>exact ⟨qa0 _,rfl⟩
theorem step_cw {P:Prog} {s s':MS} (e:step P s=some s'):s'.calls≤s.calls+1∧s'.rows=s.rows+1:=by
 obtain ⟨f,fs,r,_,_,_,q⟩:=Z5a e
 clear e
 cases q with
 | call _ _ _ _ _ _ _ hb en=>
  obtain ⟨_,_,_,rfl,_⟩:=found_shape hb
  exact en.lw
 | strt _ _ _ en=>exact en.lw
 | _=>exact ⟨qe9 _,rfl⟩
end Mach
namespace MM
open PySem L2
open Mach (AV AFr Row Sg Blk MS PL Mem getP updM seen Z0v Bd)
noncomputable def frE (f:AFr):PyData:=.tuple [.int f.n,.int f.pc,.tuple (f.sl.map avD),.tuple (f.st.reverse.map avD)]
noncomputable def thE (t:Nat×List AV):PyData:=.tuple [.int t.1,.tuple (t.2.map avD)]
noncomputable def enE:Option Mach.End→PyData
 | none=>.none
 | some e=>endD e
noncomputable def J5s (s:MS):PyData:=.list [.list (s.frames.reverse.map frE),.list (s.made.map thE),enE s.ended,.int s.calls,.int s.looks,.int s.hits,.int s.rows]
section
variable {K:y9} {H H':Hp}
theorem Z2N {k n:Nat} {x:Str} (h:PyData.strOk x=true:=by decide +kernel) (hn:x.cps.size≤n:=by decide +kernel):Nb k n (.str x):=.str h hn
theorem AtV.nb {v:V} {a:AV} (h:AtV K H v a):RdD K H v (avD a)∧Nb 1 7 (avD a):=by
 refine ⟨(AtV.nice h).1,?_⟩
 cases a with
 | non=>exact .none
 | bl b=>exact .bool
 | int i=>obtain ⟨_,hb⟩:=h; exact .int (by unfold Mach.Bd at hb; omega)
 | th k=>
  obtain ⟨t,_,b,l⟩:=h
  exact Nb.tup (k:=0) (n:=7) (.cons (a:=5) (b:=1) Z2N (.cons (a:=0) (b:=0) (.int qR) .nil qQ) qQ)
theorem EndIs.nb {a:y8} {e:Mach.End} (h:EndIs K H a e):RdD K H (.ref a) (endD e)∧Nb 2 20 (endD e):=by
 refine ⟨(EndIs.nice h).1,?_⟩
 cases e with
 | val v=>
  obtain ⟨y,p,q⟩:=h
  exact Nb.tup (k:=1) (n:=20) (.cons (a:=5) (b:=8) Z2N (.cons (a:=7) (b:=0) (AtV.nb q).2 .nil qQ) qQ)
 | thing x=>exact (Nb.tup (k:=0) (n:=20) (.cons (a:=5) (b:=1) Z2N (.cons (a:=0) (b:=0) (.int (by have:=h.2; omega)) .nil qQ) qQ)).mono qQ (qa0 _)
 | dry=>exact (Nb.tup (k:=0) (n:=20) (.cons (a:=8) (b:=0) Z2N .nil qQ)).mono qQ (qa0 _)
 | deep=>exact (Nb.tup (k:=0) (n:=20) (.cons (a:=8) (b:=0) Z2N .nil qQ)).mono qQ (qa0 _)
 | great=>exact (Nb.tup (k:=0) (n:=20) (.cons (a:=7) (b:=8) Z2N (.cons (a:=7) (b:=0) Z2N .nil qQ) qQ)).mono qQ (qa0 _)
 | nought=>exact (Nb.tup (k:=0) (n:=20) (.cons (a:=7) (b:=8) Z2N (.cons (a:=7) (b:=0) Z2N .nil qQ) qQ)).mono qQ (qa0 _)
theorem EndAt.nb {v:V} {e:Option Mach.End} (h:EndAt K H v e):RdD K H v (enE e)∧Nb 2 20 (enE e):=by
 cases e with
 | none=>cases h; exact ⟨.non,.none⟩
 | some e=>obtain ⟨a,rfl,q⟩:=h; exact q.nb
theorem Z9S {vs:List V} {as:List AV} (h:AtVs K H vs as):RdDs K H vs (as.map avD)∧NbL 1 (8 * as.length) (as.map avD):=Z3V h fun _ _ h _=>AtV.nb h
theorem FrV.nb {v:V} {f:AFr} {n:Nat} (h:FrV K H v f) (h1:f.n < 1000000) (h2:f.pc < 1000000) (h3:f.st.length≤60) (h4:f.sl.length < 900):RdD K H v (frE f)∧Nb 3 7700 (frE f):=by
 obtain ⟨a,rfl,h⟩:=h
 obtain ⟨F,sa,ta,p1,p2,p3,e1,e2,hs,hst,l1,l2⟩:=h.st
 obtain ⟨r1,n1⟩:=Z9S hs
 obtain ⟨r2,n2⟩:=Z9S hst
 rw [qc2] at n2
 refine ⟨.tup p1 (.cons (.int _) (.cons (.int _) (.cons (.tup p2 r1) (.cons (.tup p3 r2) .nil)))),Nb.tup (k:=2) (.cons (a:=0) (b:=7690) (.int qR) (.cons (a:=0) (b:=7680) (.int qR) (.cons (a:=7192) (b:=481) (Nb.tup (k:=1) (n1.mono (qa0 _) qR)) (.cons (a:=480) (b:=0) (Nb.tup (k:=1) (n2.mono (qa0 _) qR)) .nil qQ) qQ) qQ) qQ)⟩
theorem ThV.nb {v:V} {t:Nat×List AV} (h:ThV K H v t) (hl:t.2.length≤60) (ht:t.1 < 1000):RdD K H v (thE t)∧Nb 3 490 (thE t):=by
 obtain ⟨e,ia,inner,rfl,h1,h2,h3⟩:=h
 obtain ⟨r1,n1⟩:=Z9S h3
 exact ⟨.tup h1 (.cons (.int _) (.cons (.tup h2 r1) .nil)),Nb.tup (k:=2) (.cons (a:=0) (b:=481) (.int qR) (.cons (a:=480) (b:=0) (Nb.tup (k:=1) (n1.mono (qa0 _) qR)) .nil qQ) qQ)⟩
end
structure MOn (CM CP:y8) (K:y9) (S:y8→Prop) (o:MO) (P:Mach.Prog) (s:MS) (H:Hp):Prop where
 sub:∀ a,S a→H a≠none
 m:MAt CM CP K (fun a=>H a≠none∧¬ S a) o P s H
section
variable {CM CP:y8} {K:y9} {S:y8→Prop} {o o':MO} {P:Mach.Prog} {s s':MS} {H H':Hp}
theorem MOn.own (M:MOn CM CP K S o P s H):S o.x∧S o.pl∧S o.pd∧S o.sk∧S o.md:=by
 obtain ⟨n1,n2,n3,n4,n5⟩:=M.m.nex
 have go:∀ {a:y8} {u:HO},H a=some u→¬ (H a≠none∧¬ S a)→S a:=fun {a u} e n=>qg4 fun z=>n ⟨(by rw [e]; exact fun y=>by cases y),z⟩
 obtain ⟨_,e1,_⟩:=M.m.ins
 obtain ⟨_,e3⟩:=M.m.pdk
 obtain ⟨_,e4,_⟩:=M.m.stk
 obtain ⟨_,e5,_⟩:=M.m.mad
 exact ⟨go e1 n1,go M.m.plc n2,go e3 n3,go e4 n4,go e5 n5⟩
theorem MOn.beside (M:MOn CM CP K S o P s H) (t:SameT H H') (k:∀ a,S a→H' a=H a):MOn CM CP K S o P s H':=by
 obtain ⟨w1,w2,w3,w4,w5⟩:=M.own
 have M1:=M.m
 refine ⟨fun a h=>by rw [k a h]; exact M.sub a h,{
  ins:=let ⟨v,a,b⟩:=M1.ins; ⟨v,by rw [k _ w1]; exact a,b.t t⟩
  pr:=M1.pr.t t
  plc:=by rw [k _ w2]; exact M1.plc
  rep:=?_
  stk:=let ⟨ss,a,b⟩:=M1.stk; ⟨ss,by rw [k _ w4]; exact a,Pd.imp (fun _ _ q=>FrV.t q t) b⟩
  mad:=let ⟨ms,a,b⟩:=M1.mad; ⟨ms,by rw [k _ w5]; exact a,Pd.imp (fun _ _ q=>ThV.t q t) b⟩
  nxp:=M1.nxp
  nsm:=M1.nsm
  nex:=⟨fun z=>z.2 w1,fun z=>z.2 w2,fun z=>z.2 w3,fun z=>z.2 w4,fun z=>z.2 w5⟩
  exs:=fun a z=>z.1 }⟩
 obtain ⟨kvs,a,b,c⟩:=M1.rep
 refine ⟨kvs,by rw [k _ w3]; exact a,b,fun j=>?_⟩
 have:=c j
 revert this
 cases s.mem j with
 | none=>exact id
 | some ps=>
  rintro ⟨l,h1,h2,rs,h3,h4⟩
  have sl:S l:=qg4 fun z=>h2 (.inr (.inr ⟨(by rw [h3]; exact fun y=>by cases y),z⟩))
  refine ⟨l,h1,fun z=>?_,rs,by rw [k _ sl]; exact h3,Prs.mono (fun t' xs e=>(t t' xs).1 e) h4⟩
  rcases z with z | z | z
  ·exact h2 (.inl z)
  ·exact h2 (.inr (.inl z))
  ·exact z.2 sl
theorem MOn.wrote (M:MOn CM CP K S o P s H) (k:Keep (fun a=>H a≠none∧¬ S a) H H') (M':MAt CM CP K (fun a=>H a≠none∧¬ S a) o' P s' H'):MOn CM CP K (fun a=>H' a≠none∧(H a≠none→S a)) o' P s' H':=by
 refine ⟨fun a h=>h.1,?_⟩
 have e:(fun a=>H' a≠none∧¬ (H' a≠none∧(H a≠none→S a)))=fun a=>H a≠none∧¬ S a:=by
  funext a
  refine propext ⟨fun h=>?_,fun h=>⟨M'.exs a h,fun z=>h.2 (z.2 h.1)⟩⟩
  refine qg4 fun z=>h.2 ⟨h.1,fun y=>qg4 fun w=>z ⟨y,w⟩⟩
 rw [e]
 exact M'
end
theorem MOn.grow {CM CP:y8} {K:y9} {S:y8→Prop} {o:MO} {P:Mach.Prog} {s:MS} {H H':Hp} (M:MOn CM CP K S o P s H) (e:Same H H'):MOn CM CP K S o P s H':=M.beside (Same.t e) fun a h=>by
 obtain ⟨u,hu⟩:=qc9.mp (M.sub a h)
 rw [hu]; exact e _ _ hu
noncomputable def nxt (P:Mach.Prog) (s:MS):MS:=if s.ended=none then (Mach.step P s).getD s else s
noncomputable def tr (P:Mach.Prog) (s0:MS):Nat→MS
 | 0=>s0
 | k+1=>nxt P (tr P s0 k)
section
open MT
variable {W:Wo} {P:Mach.Prog} {ss:List Nat} {s0:MS}
theorem J2I (wk:WOk W P ss) {s:MS} (h:TyS W P ss s):TyS W P ss (nxt P s)∧(s.ended=none→Mach.step P s=some (nxt P s)):=by
 unfold nxt
 by_cases e:s.ended=none
 ·obtain ⟨s',h1,h2⟩:=J3y wk h e
  rw [if_pos e,h1]
  exact ⟨h2,fun _=>rfl⟩
 ·rw [if_neg e]
  exact ⟨h,fun z=>absurd z e⟩
theorem J0w (wk:WOk W P ss) (h0:TyS W P ss s0):∀ k,TyS W P ss (tr P s0 k)
 | 0=>h0
 | k+1=>(J2I wk (J0w wk h0 k)).1
theorem J0a (wk:WOk W P ss) (h0:TyS W P ss s0) (k:Nat) (e:(tr P s0 k).ended=none):Mach.step P (tr P s0 k)=some (tr P s0 (k+1)):=(J2I wk (J0w wk h0 k)).2 e
structure Szz (k:Nat) (s:MS):Prop where
 z:Mach.Sz k s
 c:s.calls≤k
 r:s.rows≤k
theorem J4P (wk:WOk W P ss) (h0:TyS W P ss s0) (p:Mach.PSz P) (z0:Szz 0 s0):∀ k,Szz k (tr P s0 k)
 | 0=>z0
 | k+1=>by
  have ih:=J4P wk h0 p z0 k
  by_cases e:(tr P s0 k).ended=none
  ·have st:=J0a wk h0 k e
   obtain ⟨c1,c2⟩:=Mach.step_cw st
   have:=ih.c
   have:=ih.r
   exact ⟨Mach.step_sz p ih.z st,qR,qR⟩
  ·have ee:tr P s0 (k+1)=tr P s0 k:=by show nxt P _=_; unfold nxt; rw [if_neg e]
   rw [ee]
   exact ⟨Mach.Sz.up (k:=(tr P s0 k).rows) ih.z,qd1 ih.c,qd1 ih.r⟩
theorem Sf.ne {told:Kd} {r:List Row} {sl:List (Option Kd)} {st:List Kd} (h:Sf W ss told r sl st):r≠[]:=by
 induction h with
 | wk _ ih=>exact ih
 | _=>exact fun z=>by cases z
theorem J4Q {hs:List Nat} {fs:List AFr} {k:Kd} (h:Ctx W P ss hs fs k):∀ f∈fs,∃ B,P.blocks[f.n]?=some B∧f.pc < B.rows.length:=by
 induction h with
 | nil=>intro f hf; cases hf
 | @cons g gs k told B sl st h1 h2 _ _ _ ih=>
  intro f hf
  rcases qa8.mp hf with e | e
  ·rw [e]
   refine ⟨B,h1,Nat.lt_of_not_le fun z=>Sf.ne h2 (qi8 z)⟩
  ·exact ih f e
theorem J7b {s:MS} (h:TyS W P ss s):∀ f∈s.frames,∃ B,P.blocks[f.n]?=some B∧f.pc < B.rows.length:=by
 rcases h.fr with ⟨_,f,fs,B,told,sl,st,e,h1,h2,_,_,hc⟩ | ⟨_,e⟩
 ·rw [e]
  intro g hg
  rcases qa8.mp hg with z | z
  ·rw [z]
   exact ⟨B,h1,Nat.lt_of_not_le fun y=>Sf.ne h2 (qi8 y)⟩
  ·exact J4Q hc g z
 ·rw [e]; intro f hf; cases hf
end
end MM
end
section
namespace MM
open PySem L2
open Mach (AV AFr Row Sg Blk MS PL Mem getP updM seen Z0v Bd)
structure PA where
 st:y8
 fa:y8
 ta:y8
 pd:y8
noncomputable def kvP (A:PA) (P:Mach.Prog) (e:V) (c l h r:Nat):List (Key×V):=[(.inr "frames",.ref A.fa),(.inr "things",.ref A.ta),(.inr "answer",e),(.inr "calls",.int c),(.inr "looks",.int l),(.inr "hits",.int h),(.inr "rows",.int r),(.inr "places",.ref A.pd),(.inr "most",.int P.most),(.inr "remembers",.bl P.rem)]
structure PS (K:y9) (ex:y8→Prop) (A:PA) (P:Mach.Prog) (s:MS) (H:Hp):Prop where
 d:∃ e,H A.st=some (.dK (kvP A P e s.calls s.looks s.hits s.rows))∧EndAt K H e s.ended
 rep:Rep (fun a=>a=A.fa∨a=A.ta∨ex a) H A.pd (s.looks+s.hits) s.mem
 stk:∃ ss,H A.fa=some (.lst ss)∧Paired (FrV K H) ss s.frames.reverse
 mad:∃ ms,H A.ta=some (.lst ms)∧Paired (ThV K H) ms s.made
 nft:A.fa≠A.ta
 nsp:A.pd≠A.st
 nex:¬ ex A.st∧¬ ex A.pd∧¬ ex A.fa∧¬ ex A.ta
 exs:∀ a,ex a→H a≠none
section
variable {K:y9} {ex:y8→Prop} {A:PA} {P:Mach.Prog} {s:MS} {H H':Hp}
theorem PS.same (M:PS K ex A P s H) (e:Same H H'):PS K ex A P s H' where
 d:=let ⟨v,a,b⟩:=M.d; ⟨v,e _ _ a,b.t (Same.t e)⟩
 rep:=M.rep.same e
 stk:=let ⟨ss,a,b⟩:=M.stk; ⟨ss,e _ _ a,Pd.imp (fun _ _ q=>q.t (Same.t e)) b⟩
 mad:=let ⟨ms,a,b⟩:=M.mad; ⟨ms,e _ _ a,Pd.imp (fun _ _ q=>q.t (Same.t e)) b⟩
 nft:=M.nft
 nsp:=M.nsp
 nex:=M.nex
 exs:=fun a h=>by
  obtain ⟨u,hu⟩:=qc9.mp (M.exs a h)
  rw [e _ _ hu]; simp
theorem PS.keepS (M:PS K ex A P s H) (e:Same H H'):Keep ex H H':=Same.keep e M.exs
theorem PS.pdk (M:PS K ex A P s H):∃ kvs,H A.pd=some (.dK kvs):=let ⟨kvs,a,_⟩:=M.rep; ⟨kvs,a⟩
theorem PS.set {s':MS} {e:V} (M:PS K ex A P s H) (hf:s'.frames=s.frames) (hm:s'.made=s.made) (hr:s.looks+s.hits≤s'.looks+s'.hits) (hmm:s'.mem=s.mem) (he:EndAt K H e s'.ended) :
  PS K ex A P s' (upd H A.st (.dK (kvP A P e s'.calls s'.looks s'.hits s'.rows)))∧Keep ex H (upd H A.st (.dK (kvP A P e s'.calls s'.looks s'.hits s'.rows)))∧Rep (fun a=>a=A.fa∨a=A.ta∨ex a) (upd H A.st (.dK (kvP A P e s'.calls s'.looks s'.hits s'.rows))) A.pd (s.looks+s.hits) s.mem:=by
 obtain ⟨v,a,b⟩:=M.d
 obtain ⟨ss,s1,s2⟩:=M.stk
 obtain ⟨ms,m1,m2⟩:=M.mad
 have t:=Z1I (.dK (kvP A P e s'.calls s'.looks s'.hits s'.rows)) a Z5W
 have ns:A.fa≠A.st:=Z0J s1 a (fun z=>by cases z)
 have nm:A.ta≠A.st:=Z0J m1 a (fun z=>by cases z)
 have R:=M.rep.u (.dK (kvP A P e s'.calls s'.looks s'.hits s'.rows)) a M.nsp ⟨fun _ z=>(by cases z),fun _ z=>by cases z⟩
 refine ⟨⟨⟨e,Z0d,he.t t⟩,by rw [hmm]; exact R.up hr,⟨ss,by rw [Z0e ns]; exact s1,by rw [hf]; exact Pd.imp (fun _ _ q=>q.t t) s2⟩,⟨ms,by rw [Z0e nm]; exact m1,by rw [hm]; exact Pd.imp (fun _ _ q=>q.t t) m2⟩,M.nft,M.nsp,M.nex,fun y hy=>?_⟩,⟨t,fun y hy=>?_⟩,R⟩
 ·rw [Z0e (show y≠A.st from fun z=>M.nex.1 (z▸hy))]; exact M.exs y hy
 ·rw [Z0e (show y≠A.st from fun z=>M.nex.1 (z▸hy))]
theorem PS.frames {ss':List V} {fr:List AFr} (M:PS K ex A P s H) (hs:Paired (FrV K H) ss' fr.reverse) :
  PS K ex A P { s with frames:=fr } (upd H A.fa (.lst ss'))∧Keep ex H (upd H A.fa (.lst ss')):=by
 obtain ⟨v,a,b⟩:=M.d
 obtain ⟨kvs,hk⟩:=M.pdk
 obtain ⟨ss,s1,s2⟩:=M.stk
 obtain ⟨ms,m1,m2⟩:=M.mad
 have t:=Z1I (.lst ss') s1 Z1U
 have nk:A.pd≠A.fa:=Z0J hk s1 (fun z=>by cases z)
 have nx:A.st≠A.fa:=Z0J a s1 (fun z=>by cases z)
 refine ⟨⟨⟨v,by rw [Z0e nx]; exact a,b.t t⟩,M.rep.hd (Z0G _) (.inl rfl) nk (fun xs z=>by rw [s1] at z; cases z),⟨ss',Z0d,Pd.imp (fun _ _ q=>q.t t) hs⟩,⟨ms,by rw [Z0e M.nft.symm]; exact m1,Pd.imp (fun _ _ q=>q.t t) m2⟩,M.nft,M.nsp,M.nex,fun y hy=>?_⟩,t,fun y hy=>?_⟩
 ·rw [Z0e (show y≠A.fa from fun z=>M.nex.2.2.1 (z▸hy))]; exact M.exs y hy
 ·rw [Z0e (show y≠A.fa from fun z=>M.nex.2.2.1 (z▸hy))]
theorem PS.things {ms':List V} {mm:List (Nat×List AV)} (M:PS K ex A P s H) (hs:Paired (ThV K H) ms' mm) :
  PS K ex A P { s with made:=mm } (upd H A.ta (.lst ms'))∧Keep ex H (upd H A.ta (.lst ms')):=by
 obtain ⟨v,a,b⟩:=M.d
 obtain ⟨kvs,hk⟩:=M.pdk
 obtain ⟨ss,s1,s2⟩:=M.stk
 obtain ⟨ms,m1,m2⟩:=M.mad
 have t:=Z1I (.lst ms') m1 Z1U
 have nk:A.pd≠A.ta:=Z0J hk m1 (fun z=>by cases z)
 have nx:A.st≠A.ta:=Z0J a m1 (fun z=>by cases z)
 refine ⟨⟨⟨v,by rw [Z0e nx]; exact a,b.t t⟩,M.rep.hd (Z0G _) (.inr (.inl rfl)) nk (fun xs z=>by rw [m1] at z; cases z),⟨ss,by rw [Z0e M.nft]; exact s1,Pd.imp (fun _ _ q=>q.t t) s2⟩,⟨ms',Z0d,Pd.imp (fun _ _ q=>q.t t) hs⟩,M.nft,M.nsp,M.nex,fun y hy=>?_⟩,t,fun y hy=>?_⟩
 ·rw [Z0e (show y≠A.ta from fun z=>M.nex.2.2.2 (z▸hy))]; exact M.exs y hy
 ·rw [Z0e (show y≠A.ta from fun z=>M.nex.2.2.2 (z▸hy))]
theorem PS.put {l:y8} {n:Nat} {k:Int} {ps:PL} {kvs:List (Key×V)} (M:PS K ex A P s H) (hk:H A.pd=some (.dK kvs)) (hn:kvs.length≤n) (hm:∀ k,At (fun a=>a=A.fa∨a=A.ta∨ex a) H kvs k (s.mem k)) (hl:¬ (l=A.fa∨l=A.ta∨ex l)) (q:SqP H l ps) (hc:n+1≤s.looks+s.hits) :
  PS K ex A P { s with mem:=updM s.mem k ps } (upd H A.pd (.dK (putK kvs (.inl k) (.ref l))))∧Keep ex H (upd H A.pd (.dK (putK kvs (.inl k) (.ref l)))):=by
 obtain ⟨v,a,b⟩:=M.d
 obtain ⟨ss,s1,s2⟩:=M.stk
 obtain ⟨ms,m1,m2⟩:=M.mad
 have t:=Z1I (.dK (putK kvs (.inl k) (.ref l))) hk Z5W
 have ns:A.fa≠A.pd:=Z0J s1 hk (fun z=>by cases z)
 have nm:A.ta≠A.pd:=Z0J m1 hk (fun z=>by cases z)
 refine ⟨⟨⟨v,by rw [Z0e M.nsp.symm]; exact a,b.t t⟩,(Rep.put hk hn hm hl q).up hc,⟨ss,by rw [Z0e ns]; exact s1,Pd.imp (fun _ _ q=>q.t t) s2⟩,⟨ms,by rw [Z0e nm]; exact m1,Pd.imp (fun _ _ q=>q.t t) m2⟩,M.nft,M.nsp,M.nex,fun y hy=>?_⟩,t,fun y hy=>?_⟩
 ·rw [Z0e (show y≠A.pd from fun z=>M.nex.2.1 (z▸hy))]; exact M.exs y hy
 ·rw [Z0e (show y≠A.pd from fun z=>M.nex.2.1 (z▸hy))]
theorem PS.ends {H0:Hp} {e:Mach.End} {a q:y8} (M0:PS K ex A P s H0) (s0:Same H0 H) (q0:H0 q=none) (hq:H q=some (.lst [])) (he:EndIs K H a e) :
  PS K ex { A with fa:=q } P (Mach.ends s e) (upd H A.st (.dK (kvP { A with fa:=q } P (.ref a) s.calls s.looks s.hits s.rows)))∧Keep ex H0 (upd H A.st (.dK (kvP { A with fa:=q } P (.ref a) s.calls s.looks s.hits s.rows))):=by
 have M:=M0.same s0
 obtain ⟨v,x1,x2⟩:=M.d
 obtain ⟨ms,m1,m2⟩:=M.mad
 obtain ⟨ms0,m0,_⟩:=M0.mad
 have fr:∀ {b u},H0 b=some u→b≠q:=fun h=>Z0m h q0
 have t:=Z1I (.dK (kvP { A with fa:=q } P (.ref a) s.calls s.looks s.hits s.rows)) x1 Z5W
 have nqs:q≠A.st:=Z0J hq x1 (fun z=>by cases z)
 have nm:A.ta≠A.st:=Z0J m1 x1 (fun z=>by cases z)
 have nex:∀ b,ex b→b≠q:=fun b hb=>by
  obtain ⟨u,hu⟩:=qc9.mp (M0.exs b hb)
  exact fr hu
 have R:Rep (fun a=>a=q∨a=A.ta∨ex a) H A.pd (s.looks+s.hits) s.mem:=Rep.same (M0.rep.hd' fun l rs hl n z=>by
  rcases z with z | z | z
  ·exact fr hl z
  ·exact n (.inr (.inl z))
  ·exact n (.inr (.inr z))) s0
 refine ⟨⟨⟨.ref a,Z0d,⟨a,rfl,he.t t⟩⟩,R.u _ x1 M.nsp ⟨fun _ z=>(by cases z),fun _ z=>by cases z⟩,⟨[],by show upd _ _ _ q=_; rw [Z0e nqs]; exact hq,.nil⟩,⟨ms,by show upd _ _ _ A.ta=_; rw [Z0e nm]; exact m1,Pd.imp (fun _ _ q=>q.t t) m2⟩,(fr m0).symm,M.nsp,⟨M.nex.1,M.nex.2.1,fun z=>nex q z rfl,M.nex.2.2.2⟩,fun y hy=>?_⟩,(M0.keepS s0).trans ⟨t,fun y hy=>?_⟩⟩
 ·rw [Z0e (show y≠A.st from fun z=>M.nex.1 (z▸hy))]; exact M.exs y hy
 ·rw [Z0e (show y≠A.st from fun z=>M.nex.1 (z▸hy))]
theorem PS.get (M:PS K ex A P s H):DGet H A.st (.str "frames") (some (.ref A.fa))∧DGet H A.st (.str "things") (some (.ref A.ta))∧DGet H A.st (.str "calls") (some (.int s.calls))∧DGet H A.st (.str "looks") (some (.int s.looks))∧DGet H A.st (.str "hits") (some (.int s.hits))∧DGet H A.st (.str "rows") (some (.int s.rows))∧DGet H A.st (.str "places") (some (.ref A.pd))∧DGet H A.st (.str "most") (some (.int P.most))∧DGet H A.st (.str "remembers") (some (.bl P.rem)):=by
 obtain ⟨e,x,_⟩:=M.d
 exact ⟨DGet.k (k:=.inr "frames") x,DGet.k (k:=.inr "things") x,DGet.k (k:=.inr "calls") x,DGet.k (k:=.inr "looks") x,DGet.k (k:=.inr "hits") x,DGet.k (k:=.inr "rows") x,DGet.k (k:=.inr "places") x,DGet.k (k:=.inr "most") x,DGet.k (k:=.inr "remembers") x⟩
theorem PS.top {f:AFr} {fs:List AFr} (M:PS K ex A P s H) (e:s.frames=f::fs):∃ ss a,H A.fa=some (.lst (ss++[.ref a]))∧Paired (FrV K H) ss fs.reverse∧FrIs K H a f:=by
 obtain ⟨ss,h1,h2⟩:=M.stk
 rw [e,qa5] at h2
 obtain ⟨ss',v,rfl,h3,a,rfl,h4⟩:=Pd.snoc_inv h2
 exact ⟨ss',a,h1,h3,h4⟩
end
end MM
end
section
namespace L2
open PySem PySem.Spec PyProof.Rows
def J5K (td ty:TE):TE:=fun σ H Q=>td σ H fun x H1=>∃ a,x=.ref a∧IsD H1 a∧ty σ H1 fun y H2=>∃ b kvs more,y=.ref b∧H2 a=some (.dK kvs)∧H2 b=some (.dK more)∧a≠b∧kvs.length+more.length≤16777216∧Q .non (upd H2 a (.dK (Z0X kvs more)))
theorem J5T {td ty:TE} {σ:St} {H:Hp} {Q:VK}:J5K td ty σ H Q=td σ H fun x H1=>∃ a,x=.ref a∧IsD H1 a∧ty σ H1 fun y H2=>∃ b kvs more,y=.ref b∧H2 a=some (.dK kvs)∧H2 b=some (.dK more)∧a≠b∧kvs.length+more.length≤16777216∧Q .non (upd H2 a (.dK (Z0X kvs more))):=rfl
theorem J0e {X:Cx} {o e:Expr} {apos cpos:Pos} {td ty:TE} (ho:PE X o td) (he:PE X e ty) (m:M1 X o "update" apos e cpos):PE X (.Call (.Attribute o "update" apos) [e] [] cpos) (J5K td ty):=by
 intro pins s σ H Q I h
 refine wpAny_Call_method m.base m.few m.line PySem.F.plainAttrs_dict PySem.F.slot_dict_update PySem.F.type_dict_update (thn (ho pins s σ H _ I h) fun u s1 hz_=>?_)
 obtain ⟨x,H1,I1,rx,a,ex,d,q1⟩:=hz_
 subst ex
 obtain rfl:u=Value.ref a:=rx
 obtain ⟨t1,t2,_⟩:=J2p I1 d
 refine ⟨t1,t2,?_⟩
 rw [m.trees]
 refine Calls.callWith_builtin rfl (Calls.evalArgs_plain (Calls.spliced_cons (thn (he pins s1 σ H1 _ I1 q1) fun iv s2 ⟨y,H2,I2,ry,b,kvs,more,ey,ea,eb,hne,hsz,q2⟩=>Calls.spliced_nil ?_)))
 subst ey
 obtain rfl:iv=Value.ref b:=ry
 obtain ⟨z1,hd1,vs1,r1,dd1⟩:=J1i I2.hok ea
 obtain ⟨z2,hd2,vs2,r2,dd2⟩:=J1i I2.hok eb
 have l1:=r1.length
 have l2:=r2.length
 refine call_meetsIn PySem.F.slot_dict_update dd1.typeIs PySem.F.entry_dict_update (PySem.F.args_dict_update_2 _ _) (meets_dict_update (Z0Q X.prog X.w) a b hne hd2) ⟨_,_,dd1,dd2,by rw [← l1,← l2,sizeLine_eq]; exact hsz,fun h' dd' _ hs=>⟨.non,_,?_,rfl,q2⟩⟩
 have hz:(Z0X kvs more).length≤sizeLine:=by
  have h1:=Z2H more kvs
  rw [sizeLine_eq]; omega
 have he:∃ q,h'.get? a=some q:=let ⟨q,_,_,hq,_⟩:=dd'; ⟨q,hq⟩
 exact Z5u I2 (by rw [ea]; exact True.intro) hs he (Z9B hz hd1 (r2.merge r1) dd')
def J2u:V→Bool
 | .non | .bl _ | .int _ | .str _=>true
 | _=>false
theorem J7t {K:y9}:W.kitOne K (.type "NoneType") (.type "tuple")=some false:=by with_unfolding_all rfl
theorem J6Q {K:y9}:W.kitOne K (.type "bool") (.type "tuple")=some false:=by with_unfolding_all rfl
theorem J6Y {K:y9}:W.kitOne K (.type "int") (.type "tuple")=some false:=by with_unfolding_all rfl
theorem J6U {K:y9}:W.kitOne K (.type "str") (.type "tuple")=some false:=by with_unfolding_all rfl
def J3r (K:y9):List V→Hp→VK→Prop:=fun xs H Q=>∃ x,xs=[x,.ty "tuple"]∧((∃ a us,x=.ref a∧SqT K H a us∧Q (.bl true) H)∨(J2u x=true∧Q (.bl false) H))
theorem J0v {X:Cx}:Z3T X (.builtin "isinstance") (J3r X.K):=by
 intro pins s σ H xs us Q I rs h
 obtain ⟨x,rfl,h⟩:=h
 obtain ⟨u,v,rfl,ru,rv⟩:=rs.two
 rw [Z8b (c:=.ty "tuple") rfl rv]
 rcases h with ⟨a,ws,rfl,hq,q⟩ | ⟨nt,q⟩
 ·cases (show u=Value.ref a from ru)
  obtain ⟨its,r,pl,hz⟩:=I.tuple hq
  obtain ⟨o,h1,h2,_⟩:=pl
  exact W.kia_one W.kitx_tuple I.kIn ⟨o,h1,h2⟩ Z3G (fun z=>nomatch z) fun tk=>⟨.bl true,H,I.tok tk,rfl,q⟩
 ·cases x with
  | non=>exact Z2S I ru .non J7t fun tk=>⟨.bl false,H,I.tok tk,rfl,q⟩
  | bl b=>exact Z2S I ru (.bl b) J6Q fun tk=>⟨.bl false,H,I.tok tk,rfl,q⟩
  | int i=>exact Z2S I ru (.int i) J6Y fun tk=>⟨.bl false,H,I.tok tk,rfl,q⟩
  | str x=>exact Z2S I ru (.str x) J6U fun tk=>⟨.bl false,H,I.tok tk,rfl,q⟩
  | _=>cases nt
end L2
end
section
namespace L2
open PySem PySem.Spec PyProof.Rows PySem.SeqAt
theorem Z8p {J:It} {te:TE} {Q:VK} {H:Hp} {D:y8} {ys:List V} {σ0:St} (v0:Option V) (rest:St) (R:Nat→V→Hp→Prop) (mono:∀ j v H1 H2,R j v H1→(∀ b o,b≠D→H1 b=some o→H2 b=some o)→R j v H2) (e0:σ0=v0::rest) (hD:H D=none) (hz:ys.length≤sizeLine)
  (j1:∀ i H1,Same H H1→i < ys.length→J.go i H1) (j2:∀ i H1 x H2,Same H H1→J.yld i H1 x H2→H2=H1∧ys[i]?=some x) (j3:∀ H1,Same H H1→J.stop ys.length H1)
  (he:∀ i y,ys[i]?=some y→∀ H1 (K':VK),Same H H1→H1 D≠none→(∀ v H2,Same H1 H2→R i v H2→K' v H2)→te (some y::rest) H1 K')
  (hQ:∀ vs H',Same H H'→H' D=some (.lst vs)→vs.length=ys.length→(∀ j v,vs[j]?=some v→R j v H')→Q (.ref D) H'):Z3z J (Z2A 0) Z3Y te D Q σ0 (upd H D (.lst [])):=by
 refine ⟨fun i m σ' H'=>m=ys.length - i∧i≤ys.length∧(∃ v,σ'=v::rest)∧Same H H'∧∃ vs,H' D=some (.lst vs)∧vs.length=i∧∀ j v,vs[j]?=some v→R j v H',⟨ys.length,by simp,qa4 _,⟨v0,e0⟩,Z0f hD _,[],Z0d,rfl,fun j v h=>by simp at h⟩,?_⟩
 rintro i m σ' H' ⟨rfl,hi,⟨v,rfl⟩,s1,vs,hv,hl,hr⟩
 by_cases hlt:i < ys.length
 ·refine .inr ⟨j1 i H' s1 hlt,fun σ2 H2=>(∃ v,σ2=v::rest)∧Same H H2∧∃ vs,H2 D=some (.lst vs)∧vs.length=i+1∧∀ j v,vs[j]?=some v→R j v H2,fun σ2 H2 ⟨a,b,c⟩=>⟨ys.length - (i+1),qR,rfl,hlt,a,b,c⟩,fun x H2 hx=>?_⟩
  obtain ⟨e1,e2⟩:=j2 i H' x H2 s1 hx
  subst e1
  unfold Z2A Z3Y
  rw [qi9]
  refine iteT (he i x e2 H2 _ s1 (by rw [hv]; exact fun z=>(by cases z)) fun v H3 s3 hR=>?_)
  have h3:=s3 _ _ hv
  have sn:∀ b o,b≠D→H3 b=some o→upd H3 D (.lst (vs++[v])) b=some o:=fun b o nb hb=>by
   rw [Z0e nb]
   exact hb
  refine ⟨vs,h3,qR,⟨_,rfl⟩,fun b o hb=>?_,_,Z0d,by rw [qa1,hl]; rfl,fun j u hj=>?_⟩
  ·rw [Z0e (Z0m hb hD)]
   exact s3 _ _ (s1 _ _ hb)
  ·by_cases hj':j < vs.length
   ·rw [qd4 hj'] at hj
    exact mono j u _ _ (mono j u _ _ (hr j u hj) fun b o _ hb=>s3 b o hb) sn
   ·rw [qd6 qR] at hj
    have ej:j - vs.length=0:=by
     have:=(qa9.mp hj).1
     simp at this
     omega
    rw [ej] at hj
    cases hj
    have:j=i:=by omega
    subst this
    exact mono _ _ _ _ hR sn
 ·have e:i=ys.length:=by omega
  subst e
  exact .inl ⟨j3 _ s1,hQ vs H' s1 hv hl hr⟩
theorem Z6W {K:y9} {a:y8} {te:TE} {Q:VK} {H:Hp} {D:y8} {ys:List V} {σ0:St} (v0:Option V) (rest:St) (R:Nat→V→Hp→Prop) (mono:∀ j v H1 H2,R j v H1→(∀ b o,b≠D→H1 b=some o→H2 b=some o)→R j v H2) (e0:σ0=v0::rest) (hD:H D=none) (hz:ys.length≤sizeLine) (ha:∀ H1,Same H H1→SqL K H1 a ys)
  (he:∀ i y,ys[i]?=some y→∀ H1 (K':VK),Same H H1→H1 D≠none→(∀ v H2,Same H1 H2→R i v H2→K' v H2)→te (some y::rest) H1 K')
  (hQ:∀ vs H',Same H H'→H' D=some (.lst vs)→vs.length=ys.length→(∀ j v,vs[j]?=some v→R j v H')→Q (.ref D) H'):Z3z (Itl K a) (Z2A 0) Z3Y te D Q σ0 (upd H D (.lst [])):=
 Z8p v0 rest R mono e0 hD hz (fun i H1 s h=>⟨ys,ys[i],ha H1 s,qb2 h⟩) (fun i H1 x H2 s h=>⟨h.1,h.2 ys (ha H1 s)⟩) (fun H1 s=>⟨ys,ha H1 s,qa0 _⟩) he hQ
end L2
end
section
open PySem L2 MM
local macro_rules | `(tactic| walk_at "nx") => `(tactic| (refine ⟨rfl, ?_⟩; rw [if_neg (by decide)]))
local macro_rules | `(tactic| walk_at "rd") => do let f := fun (s : String) => (s.splitOn " ").toArray.mapM fun n => `(Lean.Parser.Tactic.simpLemma| $(Lean.mkIdent n.toName):term); let a ← f "J4Z J7g J5Y J5G J5v J5W J5X J6g J7r J6A J4D J7N J7P J6T J7C J7m J6u J7n J6e J7z J5R J7a J5U J7l J6s J6z J6i J6X J6D J7i J5Q J6p J7x J7B J7Q J7G J7I J7w J7F J6k J6I J5P J6f J6c J7y J4j J6o J7D J7A J7j J7E J4m J4l J7o J6V J6t J4J J5Z J6j J3X J5g J6m J5V J4A J6d J5J J6O J7h J7p J6M List.getElem?_cons_zero List.getElem?_cons_succ List.set_cons_zero List.set_cons_succ Nat.reduceAdd Nat.reduceSub List.cons_append List.nil_append L2.Z4D List.map_cons List.map_nil List.length_cons List.length_nil List.replicate J7u J6b J4Y J6P J6Z J6w J6a J7s J6h J6G J6l J6J J6H J6E J6r J5o J6L J5S J5T"; let b ← f "exists_eq_left' exists_eq_left exists_and_left exists_eq_right exists_eq_right' V.int.injEq V.str.injEq V.bl.injEq V.ref.injEq Option.some.injEq List.cons.injEq and_true true_and decide_eq_true_eq Bool.not_eq_true' decide_eq_false_iff_not reduceCtorEq J7W J7J J7R J7K J7U J7T J7H J7V J7L J7k J7S J7M J7X J7O List.append_nil Nat.zero_add ix0 ix1 exists_const if_true if_false ite_true ite_false Bool.false_eq_true decide_true decide_false Bool.not_true Bool.not_false Bool.true_eq_false CPow CDiv CMul J6y or_true true_or and_self and_assoc sizeLine_eq Nat.reduceLeDiff Nat.reduceLT Nat.reducePow Nat.reduceMul Int.reducePow Int.reduceLE Int.reduceLT Int.reduceToNat Int.reduceAbs Int.reduceNeg Int.reduceAdd Int.reduceSub Int.reduceMul ne_eq not_false_eq_true not_true_eq_false Int.zero_add J6n J6q J6v J3p J2A J4k J4f J2P"; `(tactic| ((try dsimp only [$a,*]); (try simp (config := { maxSteps := 10000000 }) only [$a,*,$b,*])))
section
namespace K62
open PySem L2 MM
open Mach (AV AFr Row Sg Blk MS PL Mem getP updM seen Z0v Bd)
seal L2.PE L2.PA L2.PT L2.PS L2.PSs L2.PG L2.PGs L2.PI L2.PW
theorem Z6T:Z0l ["sign","a","b"] ["sign","a","b"] (Z0i Z3a):=⟨rfl,rfl,rfl,qP,rfl,qP,qP⟩
theorem Z4J:Z0l ["sign","a","b"] ["sign","a","b"] (Z0i Z2f):=⟨rfl,rfl,rfl,qP,rfl,qP,qP⟩
theorem Z8P:Z0l ["number"] ["number"] (Z0i Z3B):=⟨rfl,rfl,rfl,qP,rfl,qP,qP⟩
theorem O2E:Z0l ["block","number","values","bound"] ["block","number","values"] (Z0i Z3v):=⟨rfl,rfl,rfl,qP,rfl,qP,qP⟩
theorem O0E:Z0l ["row","frame","things","number","at","slots","stack","name","kept","over"] ["row","frame","things"] (Z0i Z3f):=⟨rfl,rfl,rfl,qP,rfl,qP,qP⟩
theorem O1J:Z0l ["sign","frame","stack","told"] ["sign","frame"] (Z0i Z3i):=⟨rfl,rfl,rfl,qP,rfl,qP,qP⟩
theorem O1v:Z0l ["frame","many","value","number","at","slots","stack"] ["frame","many","value"] (Z0i Z4e):=⟨rfl,rfl,rfl,qP,rfl,qP,qP⟩
theorem O1j:Z0l ["things","thing","place","house","inner"] ["things","thing","place"] (Z0i Z2d):=⟨rfl,rfl,rfl,qP,rfl,qP,qP⟩
theorem O1Z:Z0l ["frame","many","stack"] ["frame","many"] (Z0i Z2C):=⟨rfl,rfl,rfl,qP,rfl,qP,qP⟩
theorem Z4E:Z0l ["_law_script","_law_k"] ["_law_script","_law_k"] (Z0i Z1S):=⟨rfl,rfl,rfl,qP,rfl,qP,qP⟩
theorem O1O:Z0l ["_law_cell","_law_k","_law_number_here"] ["_law_cell","_law_k"] (Z0i Z2l):=⟨rfl,rfl,rfl,qP,rfl,qP,qP⟩
theorem Z4M:Z0l ["_law_cell"] ["_law_cell"] (Z0i Z2a):=⟨rfl,rfl,rfl,qP,rfl,qP,qP⟩
theorem O0Y:Z0l ["_law_word","_law_one","_law_other","_law_found_here"] ["_law_word","_law_one","_law_other"] (Z0i Z3c):=⟨rfl,rfl,rfl,qP,rfl,qP,qP⟩
theorem O1e:Z0l ["_law_world_here","_law_house","_law_cell","_law_rows","_law_k"] ["_law_world_here","_law_house","_law_cell"] (Z0i Z2F):=⟨rfl,rfl,rfl,qP,rfl,qP,qP⟩
theorem O2a:Z0l ["_law_world_here","_law_state","_law_kind","_law_cell","_law_known"] ["_law_world_here","_law_state","_law_kind","_law_cell"] (Z0i Z2M):=⟨rfl,rfl,rfl,qP,rfl,qP,qP⟩
theorem O1f:Z0l ["_law_world_here","_law_state","_law_kinds","_law_cell","_law_size","_law_rest","_law_k"] ["_law_world_here","_law_state","_law_kinds","_law_cell"] (Z0i Z2I):=⟨rfl,rfl,rfl,qP,rfl,qP,qP⟩
theorem O0T:Z0l ["_law_world_here","_law_state","_law_more","_law_kind","_law_one","_law_other"] ["_law_world_here","_law_state","_law_more"] (Z0i Z2g):=⟨rfl,rfl,rfl,qP,rfl,qP,qP⟩
theorem O0F:Z0l ["_law_state","_law_more","_law_many","_law_known","_law_slot"] ["_law_state","_law_more"] (Z0i Z1Q):=⟨rfl,rfl,rfl,qP,rfl,qP,qP⟩
theorem O0x:Z0l ["_law_world_here","_law_state","_law_more","_law_is_straight","_law_block_here","_law_word","_law_params","_law_told"] ["_law_world_here","_law_state","_law_more"] (Z0i Z1O):=⟨rfl,rfl,rfl,qP,rfl,qP,qP⟩
theorem O0L:Z0l ["_law_world_here","_law_state","_law_more","_law_full","_law_house"] ["_law_world_here","_law_state","_law_more"] (Z0i Z1g):=⟨rfl,rfl,rfl,qP,rfl,qP,qP⟩
theorem O0Z:Z0l ["_law_world_here","_law_state","_law_more","_law_place"] ["_law_world_here","_law_state","_law_more"] (Z0i Z1f):=⟨rfl,rfl,rfl,qP,rfl,qP,qP⟩
theorem O1o:Z0l ["_law_world_here","_law_state","_law_cell","_law_way","_law_more"] ["_law_world_here","_law_state","_law_cell"] (Z0i Z2n):=⟨rfl,rfl,rfl,qP,rfl,qP,qP⟩
theorem O1p:Z0l ["_law_world_here","_law_params","_law_told","_law_cell","_law_many","_law_state","_law_k"] ["_law_world_here","_law_params","_law_told","_law_cell","_law_many"] (Z0i Z2q):=⟨rfl,rfl,rfl,qP,rfl,qP,qP⟩
theorem O0g:Z0l ["_law_script","_law_one","_law_world_here","_law_word","_law_more","_law_house","_law_row","_law_mine","_law_b","_law_params","_law_told","_law_cell","_law_main"] ["_law_script"] (Z0i Z2r):=⟨rfl,rfl,rfl,qP,rfl,qP,qP⟩
theorem O0W:Z0l ["_law_world_here","_law_most","_law_keeps","_law_number_here","_law_slots","_law_state"] ["_law_world_here","_law_most","_law_keeps"] (Z0i Z2m):=⟨rfl,rfl,rfl,qP,rfl,qP,qP⟩
theorem Z5C:Z0l ["_law_state","_law_ended_here"] ["_law_state","_law_ended_here"] (Z0i Z2o):=⟨rfl,rfl,rfl,qP,rfl,qP,qP⟩
theorem Z8o:Z0l ["_law_state","_law_goal","_law_slots","_law_stack"] ["_law_state","_law_goal","_law_slots","_law_stack"] (Z0i Z3x):=⟨rfl,rfl,rfl,qP,rfl,qP,qP⟩
theorem O0X:Z0l ["_law_world_here","_law_state","_law_row","_law_house","_law_pairs","_law_seen_here","_law_block_here"] ["_law_world_here","_law_state","_law_row","_law_house"] (Z0i Z2v):=⟨rfl,rfl,rfl,qP,rfl,qP,qP⟩
theorem O0y:Z0l ["_law_world_here","_law_state","_law_row","_law_frame","_law_rest","_law_values","_law_block_here","_law_slots"] ["_law_world_here","_law_state","_law_row","_law_frame"] (Z0i Z1N):=⟨rfl,rfl,rfl,qP,rfl,qP,qP⟩
theorem O1w:Z0l ["_law_state","_law_value","_law_frame"] ["_law_state"] (Z0i Z2D):=⟨rfl,rfl,rfl,qP,rfl,qP,qP⟩
theorem O0j:Z0l ["_law_state","_law_row","_law_frame","_law_stack","_law_rest","_law_house","_law_values"] ["_law_state","_law_row","_law_frame"] (Z0i Z1u):=⟨rfl,rfl,rfl,qP,rfl,qP,qP⟩
theorem O0f:Z0l ["_law_state","_law_row","_law_frame","_law_number_here","_law_at","_law_slots","_law_stack"] ["_law_state","_law_row","_law_frame"] (Z0i Z1t):=⟨rfl,rfl,rfl,qP,rfl,qP,qP⟩
theorem O1g:Z0l ["_law_world_here","_law_state","_law_frame","_law_row","_law_found_here"] ["_law_world_here","_law_state"] (Z0i Z2J):=⟨rfl,rfl,rfl,qP,rfl,qP,qP⟩
theorem Z5D:Z0l ["_law_machine_here","_law_k"] ["_law_machine_here","_law_k"] (Z0i Z2u):=⟨rfl,rfl,rfl,qP,rfl,qP,qP⟩
theorem O1h:Z0l ["_law_machine_here","_law_bits","_law_found_here","_law_turn","_law_k"] ["_law_machine_here","_law_bits"] (Z0i Z2L):=⟨rfl,rfl,rfl,qP,rfl,qP,qP⟩
theorem O2n:Z0l ["_law_state","_law_found_here"] ["_law_state"] (Z0i Z3g):=⟨rfl,rfl,rfl,qP,rfl,qP,qP⟩
theorem O0n:Z0l ["_law_world_here","_law_most","_law_keeps","_law_way","_law_blocks","_law_laid","_law_numbers","_law_machine_here","_law_row"] ["_law_world_here","_law_most","_law_keeps","_law_way"] (Z0i Z1L):=⟨rfl,rfl,rfl,qP,rfl,qP,qP⟩
theorem O1x:Z0l ["_law_script","_law_world_here","_law_way","_law_most","_law_keeps","_law_machine_here","_law_state","_law_held","_law_k","_law_found_here","_law_row"] ["_law_script"] (Z0i Z9h):=⟨rfl,rfl,rfl,qP,rfl,qP,qP⟩
theorem Z3I:Z0l ["self"] ["self"] (Z0i Z1i):=⟨rfl,rfl,rfl,qP,rfl,qP,qP⟩
theorem O1a:Z0l ["self","site","house","pairs","found"] ["self","site","house"] (Z0i Z1M):=⟨rfl,rfl,rfl,qP,rfl,qP,qP⟩
theorem Z5o:Z0l ["self","site","house","block"] ["self","site","house","block"] (Z0i Z2t):=⟨rfl,rfl,rfl,qP,rfl,qP,qP⟩
theorem Z4L:Z0l ["self","site"] ["self","site"] (Z0i Z2e):=⟨rfl,rfl,rfl,qP,rfl,qP,qP⟩
theorem Z3r:Z0l ["self","blocks","tables","numbers","most","remembers"] ["self","blocks","tables","numbers","most","remembers"] (Z0i Z0w):=⟨rfl,rfl,rfl,qP,rfl,qP,qP⟩
theorem Z3Q:Z0l ["self"] ["self"] (Z0i Z1p):=⟨rfl,rfl,rfl,qP,rfl,qP,qP⟩
theorem Z3R:Z0l ["self"] ["self"] (Z0i Z1s):=⟨rfl,rfl,rfl,qP,rfl,qP,qP⟩
theorem Z3L:Z0l ["self"] ["self"] (Z0i Z1q):=⟨rfl,rfl,rfl,qP,rfl,qP,qP⟩
theorem Z4a:Z0l ["self"] ["self"] (Z0i Z1A):=⟨rfl,rfl,rfl,qP,rfl,qP,qP⟩
theorem Z3Z:Z0l ["self"] ["self"] (Z0i Z1z):=⟨rfl,rfl,rfl,qP,rfl,qP,qP⟩
theorem Z4n:Z0l ["self"] ["self"] (Z0i Z1P):=⟨rfl,rfl,rfl,qP,rfl,qP,qP⟩
theorem Z3j:Z0l ["self"] ["self"] (Z0i Z1b):=⟨rfl,rfl,rfl,qP,rfl,qP,qP⟩
theorem O1b:Z0l ["self","frame","row"] ["self"] (Z0i Z1T):=⟨rfl,rfl,rfl,qP,rfl,qP,qP⟩
theorem O0S:Z0l ["self","row","frame","done","refusal"] ["self","row","frame"] (Z0i Z1r):=⟨rfl,rfl,rfl,qP,rfl,qP,qP⟩
theorem Z4o:Z0l ["self","house","many","frame"] ["self","house","many","frame"] (Z0i Z1K):=⟨rfl,rfl,rfl,qP,rfl,qP,qP⟩
theorem O0r:Z0l ["self","place","frame","thing","value","house","inner"] ["self","place","frame"] (Z0i Z0Z):=⟨rfl,rfl,rfl,qP,rfl,qP,qP⟩
theorem O0t:Z0l ["self","site","word","many","frame","house","known","block"] ["self","site","word","many","frame"] (Z0i Z0R):=⟨rfl,rfl,rfl,qP,rfl,qP,qP⟩
theorem O0B:Z0l ["self","block","many","frame","number","at","slots","stack"] ["self","block","many","frame"] (Z0i Z1C):=⟨rfl,rfl,rfl,qP,rfl,qP,qP⟩
theorem O0p:Z0l ["self","frame","value","number","at","slots","stack"] ["self","frame"] (Z0i Z1j):=⟨rfl,rfl,rfl,qP,rfl,qP,qP⟩
theorem Z2P:Z0l ["self","value"] ["self","value"] (Z0i Z0S):=⟨rfl,rfl,rfl,qP,rfl,qP,qP⟩
theorem Z4O:Z0l ["self","told"] ["self","told"] (Z0i Z1Z):=⟨rfl,rfl,rfl,qP,rfl,qP,qP⟩
noncomputable def Z2s:List (Key×V):=[(.inr "add",.str "+"),(.inr "sub",.str "-"),(.inr "mul",.str "*"),(.inr "div",.str "/"),(.inr "less",.str "<"),(.inr "same",.str "=")]
structure Txt (P:Program) (w:World) (K:y9) (mg:Str→Option Value) (O0b:y8) (O0a:y8) (O0c:y8):Prop where
 z_abs:mg "abs"=none
 z_int:mg "int"=none
 O2b:mg "isinstance"=none
 z_len:mg "len"=none
 O1G:mg "list"=none
 z_max:mg "max"=none
 z_min:mg "min"=none
 O0J:mg "range"=none
 O3w:mg "repr"=none
 O1y:mg "tuple"=none
 c_GREATEST:Cst mg "GREATEST" (.int 1000000000000000)
 c_MOST_PAIRS:Cst mg "MOST_PAIRS" (.int 2)
 c_MOST_WITHIN:Cst mg "MOST_WITHIN" (.int 40)
 c_ROW_SIGNS:Cst mg "ROW_SIGNS" (.ref O0c)
 d_ROW_SIGNS:J1X P w K O0c Z2s
 O3k:Fn K mg "two_told" Z3a
 O2F:Fn K mg "number_told" Z2f
 O3r:Fn K mg "bounded" Z3B
 O3s:Fn K mg "entered" Z3v
 O3l:Fn K mg "own_done" Z3f
 O3m:Fn K mg "two_done" Z3i
 O3v:Fn K mg "behind" Z4e
 O2G:Fn K mg "field_value" Z2d
 O3b:Fn K mg "uppermost" Z2C
 O2s:Fn K mg "_law_cell_at" Z1S
 O2N:Fn K mg "_law_mixed" Z2l
 O2H:Fn K mg "_law_number" Z2a
 O3n:Fn K mg "_law_two" Z3c
 O2o:Fn K mg "_law_made" Z2F
 O3c:Fn K mg "_law_push" Z2M
 O3d:Fn K mg "_law_want" Z2I
 O2I:Fn K mg "_law_branch" Z2g
 O2t:Fn K mg "_law_slotted" Z1Q
 O2u:Fn K mg "_law_calling" Z1O
 O1P:Fn K mg "_law_inner_thing" Z1g
 O1Q:Fn K mg "_law_about_thing" Z1f
 O2O:Fn K mg "_law_piece" Z2n
 O2P:Fn K mg "_law_block" Z2q
 O2Q:Fn K mg "_law_world" Z2r
 O2R:Fn K mg "_law_begun" Z2m
 O2S:Fn K mg "_law_ended" Z2o
 O3t:Fn K mg "_law_on" Z3x
 O2T:Fn K mg "_law_found" Z2v
 O2v:Fn K mg "_law_entered" Z1N
 O3e:Fn K mg "_law_left" Z2D
 O2c:Fn K mg "_law_thing_row" Z1u
 O2d:Fn K mg "_law_plain_row" Z1t
 O3f:Fn K mg "_law_next" Z2J
 O2U:Fn K mg "_law_asked" Z2u
 O3g:Fn K mg "_law_seen" Z2L
 O3o:Fn K mg "_law_due" Z3g
 O2w:Fn K mg "_law_machine" Z1L
 f_law:Fn K mg "law" Z9h
 Places:J0b K mg "Places" O0b
 O0K:NoAttr K O0b "by_site"
 Machine:J0b K mg "Machine" O0a
 O0C:NoAttr K O0a "blocks"
 O0v:NoAttr K O0a "call_count"
 O0O:NoAttr K O0a "ended"
 O0M:NoAttr K O0a "hit_count"
 O0D:NoAttr K O0a "house_tables"
 O0w:NoAttr K O0a "look_count"
 O0k:NoAttr K O0a "made"
 O1H:NoAttr K O0a "most"
 O0U:NoAttr K O0a "places"
 O0z:NoAttr K O0a "remembers"
 O0N:NoAttr K O0a "row_count"
 O0d:NoAttr K O0a "stacked"
 O1S:MFn K O0b "__init__" "Places.__init__" Z1i
 O2x:MFn K O0b "asked" "Places.asked" Z1M
 O2V:MFn K O0b "put" "Places.put" Z2t
 O2J:MFn K O0b "told" "Places.told" Z2e
 O1R:MFnD K O0a "__init__" "Machine.__init__" Z0w (.int 100) (.bl true)
 O2e:MFn K O0a "frames" "Machine.frames" Z1p
 O2f:MFn K O0a "things" "Machine.things" Z1s
 O2g:MFn K O0a "answer" "Machine.answer" Z1q
 O2p:MFn K O0a "calls" "Machine.calls" Z1A
 O2q:MFn K O0a "looks" "Machine.looks" Z1z
 O2y:MFn K O0a "hits" "Machine.hits" Z1P
 O1K:MFn K O0a "rows_done" "Machine.rows_done" Z1b
 O2z:MFn K O0a "step" "Machine.step" Z1T
 O2h:MFn K O0a "do_own" "Machine.do_own" Z1r
 O2A:MFn K O0a "make" "Machine.make" Z1K
 O1L:MFn K O0a "set_field" "Machine.set_field" Z0Z
 O1z:MFn K O0a "found_block" "Machine.found_block" Z0R
 O2r:MFn K O0a "enter" "Machine.enter" Z1C
 O1T:MFn K O0a "go_back" "Machine.go_back" Z1j
 O1A:MFn K O0a "told_answer" "Machine.told_answer" Z0S
 O2K:MFn K O0a "end" "Machine.end" Z1Z
inductive J2f (K:y9) (vs:List V) (H:Hp) (Q:VK):Prop
 | mk (r a tl:y8) (nm:Str) (args:List V) (F:Fr) (a1:vs=[.ref r,.ref a,.ref tl]) (a2:SqT K H r (.str nm::args)) (a3:FrAt K H a F) (a4:F.st.length < 100000) (a5:F.sl.length < 100000) (a6:((∃ sg st x y rr,valV Z2s (.inr nm)=some (.str sg)∧F.st=st++[x,y]∧TwoR K H sg x y rr∧(∀ why p q' H',rr=[.str "refused",.str why]→Same H H'→SqT K H' q' rr→SqT K H' p [.ref a,.ref q']→Q (.ref p) H')∧∀ v p f' H',rr=[.str "value",v]→Same H H'→FrAt K H' f' ⟨F.n,F.at_+1,F.sl,st++[v]⟩→SqT K H' p [.ref f',.non]→Q (.ref p) H')∨∃ F',OwnR K H tl F nm args F'∧∀ p f' H',Same H H'→FrAt K H' f' F'→SqT K H' p [.ref f',.non]→Q (.ref p) H')):J2f K vs H Q
def Z5c (K:y9):Sp:=fun vs H Q _=>J2f K vs H Q
inductive Z7g (C:y8) (vs:List V) (H:Hp) (Q:VK):Prop
 | mk (x:_) (dx:_) (a1:vs=[.ref x]) (a2:H x=some (.ins C dx [])) (a3:∀ d,H d=none→Q .non (upd (upd H d (.dK [])) x (.ins C dx [("by_site",.ref d)]))):Z7g C vs H Q
def Z7r (C:y8):Sp:=fun vs H Q _=>Z7g C vs H Q
inductive Z9z (C:y8) (vs:List V) (H:Hp) (Q:VK):Prop
 | mk (x dx d:y8) (site:Int) (hd:y8→Prop) (n:Nat) (m:Mem) (a1:vs=[.ref x,.int site]) (a2:H x=some (.ins C dx [("by_site",.ref d)])) (a3:Rep hd H d n m) (a4:∀ l H',H l=none→Same H H'→SqP H' l (getP m site)→Q (.ref l) H'):Z9z C vs H Q
def Z6S (C:y8):Sp:=fun vs H Q _=>Z9z C vs H Q
inductive Z7W (C:y8) (vs:List V) (H:Hp) (Q:VK):Prop
 | mk (x dx d:y8) (site house:Int) (hd:y8→Prop) (n:Nat) (m:Mem) (a1:vs=[.ref x,.int site,.int house]) (a2:H x=some (.ins C dx [("by_site",.ref d)])) (a3:Rep hd H d n m) (a4:(∀ a,hd a→H a≠none)) (a5:n < 100000) (a6:(getP m site).length≤2) (a7:(seen (getP m site) house=[]→∀ H',Same H H'→Q .non H')) (a8:∀ p r,seen (getP m site) house=p::r→∀ H',SameX d H H'→Rep hd H' d (n+1) (updM m site (seen (getP m site) house++Z0v (getP m site) house))→Q (.int p.2) H'):Z7W C vs H Q
def Z7p (C:y8):Sp:=fun vs H Q _=>Z7W C vs H Q
inductive J2y (C:y8) (vs:List V) (H:Hp) (Q:VK):Prop
 | mk (x dx d:y8) (site house block:Int) (hd:y8→Prop) (n:Nat) (m:Mem) (a1:vs=[.ref x,.int site,.int house,.int block]) (a2:H x=some (.ins C dx [("by_site",.ref d)])) (a3:Rep hd H d n m) (a4:(∀ a,hd a→H a≠none)) (a5:n < 100000) (a6:(getP m site).length≤2) (a7:∀ H',SameX d H H'→Rep hd H' d (n+1) (updM m site (((house,block)::getP m site).take 2))→Q .non H'):J2y C vs H Q
def J2L (C:y8):Sp:=fun vs H Q _=>J2y C vs H Q
section
theorem Z9g (T:Txt P w K mg O0b O0a O0c):Has P w K mg base 1 "behind" ["frame","many","value"] (Z2Q K):=by
 refine Has.of T.O3v O1v (fun _ _ _ _ _ _ us hl=>el3 us hl fun _ _ _=>rfl) (fun vs H Q E h=>?_) (fun f cdv A outer s H vs Q E hr h=>?_)
 ·obtain ⟨a,m,v,F,rfl,_⟩:=h
  rfl
 obtain ⟨a,m,v,F,rfl,hF,hm,hl,q⟩:=h
 refine ⟨_,(Z0a (Z1l (pvF 0) (Z1X (n:=4) rfl (Z0p (qH 3 O1v.nd) (Z0p (qH 4 O1v.nd) (Z0p (qH 5 O1v.nd) (Z0p (qH 6 O1v.nd) Z1W))))))
  (Z0b (Z0n (Z0k (Z0r (pvF 3) (qK (Z0h Z0x (pvF 4) Z0c) (pvF 5) (Z0h (r:=Z2k K) Z0T (Z0y (r:=rSlA K) Z0P (pvF 6) Z0E (Z0D (Z0h Z1n (qL T.z_len (qI (pvF 6))) (pvF 1)))) (Z0k (qI (pvF 2)))))))))),?_⟩
 walk_at "rd"
 obtain ⟨sa,ta,h1,h2,h3⟩:=hF
 refine ⟨_,h1,rfl,_,_,rfl,_,_,rfl,_,_,rfl,_,_,rfl,rfl,_,rfl,ta,rfl,_,.inr h3,ta,_,rfl,h3,fun p1 H1 s1 hp1=>?_⟩
 intro u hu
 have s2:=Z0f hu (.tup [v])
 rw [show ((F.st.length:Int) - (m:Int))=((F.st.length - m:Nat):Int) by omega,Z2B] at hp1
 refine ⟨p1,u,_,_,rfl,rfl,hp1.same s2,SqT.of Z0d,by rw [qc4,sizeLine_eq]; show _+1≤_; omega,fun p2 H2 s3 hp2=>?_⟩
 intro y hy
 have s4:=Z0f hy (.tup [F.n,.int (F.at_+1),.ref sa,.ref p2])
 have S:=(s1.trans s2).trans (s3.trans s4)
 exact q y _ S ⟨sa,p2,SqT.of Z0d,h2.same S,hp2.same s4⟩
theorem Z8n (T:Txt P w K mg O0b O0a O0c):Has P w K mg base 1 "bounded" ["number"] Z4Y:=by
 refine Has.of T.O3r Z8P (fun _ _ _ _ _ _ us hl=>el1 us hl fun _=>rfl) (fun vs H Q E h=>?_) (fun f cdv A outer s H vs Q E hr h=>?_)
 ·obtain ⟨n,rfl,_⟩:=h
  rfl
 obtain ⟨n,rfl,q⟩:=h
 refine ⟨_,(Z0a (Z0t (qM Z8F (Z1R Z8h rfl T.z_abs J2i (qI (pvF 0))) (Z6c T.c_GREATEST rfl)) (Z0b (Z0n (Z0k (qJ Z0g Z0g)))) Z0o)
  (Z0b (Z0n (Z0k (qJ Z0g (pvF 0)))))),?_⟩
 walk_at "rd"
 have hb:(1000000000000000 < if n < 0 then -n else n)↔¬ Bd n:=by unfold Bd; split <;> omega
 simp only [hb]
 unfold Z5r at q
 by_cases hc:Bd n
 ·rw [if_pos hc] at q
  rw [if_neg (fun z=>z hc)]
  exact q
 ·rw [if_neg hc] at q
  rw [if_pos hc]
  exact q
theorem Z4P (T:Txt P w K mg O0b O0a O0c):Has P w K mg base 1 "number_told" ["sign","a","b"] Z3o:=by
 refine Has.of T.O2F Z4J (fun _ _ _ _ _ _ us hl=>el3 us hl fun _ _ _=>rfl) (fun vs H Q E h=>?_) (fun f cdv A outer s H vs Q E hr h=>?_)
 ·obtain ⟨sg,a,b,rfl,_⟩:=h
  rfl
 obtain ⟨sg,a,b,rfl,ha,hb,hs,q⟩:=h
 refine ⟨_,(Z0a (Z0t (qM Z0B (pvF 0) Z0g) (Z0b (Z0n (Z0h Z0x (pvF 1) (pvF 2)))) Z0o)
  (Z0a (Z0t (qM Z0B (pvF 0) Z0g) (Z0b (Z0n (Z0h Z1n (pvF 1) (pvF 2)))) Z0o)
  (Z0a (Z0t (qM Z0B (pvF 0) Z0g) (Z0b (Z0n (Z0h Z2h (pvF 1) (pvF 2)))) Z0o)
  (Z0b (Z0n (Z0h Z7f (pvF 1) (pvF 2))))))),?_⟩
 walk_at "rd"
 unfold num at q
 split
 ·rename_i h1; rw [if_pos h1] at q; exact q
 ·rename_i h1; rw [if_neg h1] at q
  split
  ·rename_i h2; rw [if_pos h2] at q; exact q
  ·rename_i h2; rw [if_neg h2] at q
   split
   ·rename_i h3; rw [if_pos h3] at q; unfold Bd at ha; exact ⟨.inl qR,q⟩
   ·rename_i h3; rw [if_neg h3] at q
    have:b≠0:=by
     rcases hs with z | z | z | z
     ·exact absurd z h1
     ·exact absurd z h2
     ·exact absurd z h3
     ·exact z
    unfold Bd at hb
    exact ⟨this,qR,qR,q⟩
theorem Z6C (T:Txt P w K mg O0b O0a O0c) (O3u:Has P w K mg base 1 "bounded" ["number"] Z4Y) (O2L:Has P w K mg base 1 "number_told" ["sign","a","b"] Z3o):Has P w K mg base 2 "two_told" ["sign","a","b"] (Z4v K):=by
 refine Has.of T.O3k Z6T (fun _ _ _ _ _ _ us hl=>el3 us hl fun _ _ _=>rfl) (fun vs H Q E h=>?_) (fun f cdv A outer s H vs Q E hr h=>?_)
 ·obtain ⟨sg,va,vb,r,rfl,_⟩:=h
  rfl
 obtain ⟨sg,va,vb,r,rfl,ht,q⟩:=h
 refine ⟨_,(Z0a (Z0t (qM Z0B (pvF 0) Z0g) (Z0b (Z0n (Z0k (qJ Z0g (Z1F Z4z (pvF 1) (pvF 2) (Z2j _)))))) Z0o)
  (Z0a (Z0t (qM Z0B (pvF 0) Z0g) (Z0b (Z0n (Z0k (qJ Z0g (Z1F (r:=rEqD K) (Z3W hr.units) (pvF 1) (pvF 2) (Z2j _)))))) Z0o)
  (Z0a (Z0t (PW.pt (Z3U (qM Z0B (pvF 0) Z0g) (Z2U (qM (r:=rEqD K) (Z3W hr.units) (pvF 2) Z0c)))) (Z0b (Z0n (Z0k (qJ Z0g Z0g)))) Z0o)
  (Z0b (Z0n (qF O3u hr (qI (qF O2L hr (qK (pvF 0) (pvF 1) (pvF 2)))))))))),?_⟩
 walk_at "rd"
 cases ht with
 | lt a b=>
  rw [if_pos rfl]
  exact ⟨a,rfl,b,rfl,fun p hp=>q p _ (Z0f hp _) (SqT.of Z0d)⟩
 | eq ha hb sa sb=>
  rw [if_neg qQ,if_pos rfl]
  exact ⟨_,ha,_,hb,sa,sb,fun p hp=>q p _ (Z0f hp _) (SqT.of Z0d)⟩
 | ar hs ha hb=>
  rename_i a b
  have fin:∀ sg:Str,¬ (sg="/"∧b=0)→(∀ p H',Same H H'→SqT K H' p (Z8C sg a b)→Q (.ref p) H')→∀ p,H p=none→Q (.ref p) (upd H p (.tup (Z5r (num sg a b)))):=fun sg hn q p hp=>q p _ (Z0f hp _) (by unfold Z8C; rw [if_neg hn]; exact SqT.of Z0d)
  rcases hs with e | e | e | e <;> subst e
  ·rw [if_neg qQ,if_neg qQ,if_neg qQ]
   exact ⟨_,a,b,rfl,ha,hb,.inl rfl,_,rfl,fin _ (fun z=>absurd z.1 qQ) q⟩
  ·rw [if_neg qQ,if_neg qQ,if_neg qQ]
   exact ⟨_,a,b,rfl,ha,hb,.inr (.inl rfl),_,rfl,fin _ (fun z=>absurd z.1 qQ) q⟩
  ·rw [if_neg qQ,if_neg qQ,if_neg qQ]
   exact ⟨_,a,b,rfl,ha,hb,.inr (.inr (.inl rfl)),_,rfl,fin _ (fun z=>absurd z.1 qQ) q⟩
  ·rw [if_neg qQ,if_neg qQ,if_pos rfl]
   refine ⟨.int b,.int b,.int 0,.int 0,by with_unfolding_all rfl,by with_unfolding_all rfl,?_⟩
   rw [show PyData.eqv (.int b) (.int 0)=(b == 0) by rw [PyData.eqv]]
   by_cases hz:b=0
   ·rw [beq_iff_eq.mpr hz,if_pos rfl]
    exact fun p hp=>q p _ (Z0f hp _) (by unfold Z8C; rw [if_pos ⟨rfl,hz⟩]; exact SqT.of Z0d)
   ·rw [beq_eq_false_iff_ne.mpr hz,if_neg qQ]
    exact ⟨_,a,b,rfl,ha,hb,.inr (.inr (.inr hz)),_,rfl,fin _ (fun z=>hz z.2) q⟩
theorem J1z (T:Txt P w K mg O0b O0a O0c):Has P w K mg base 1 "field_value" ["things","thing","place"] (Z7E K):=by
 refine Has.of T.O2G O1j (fun _ _ _ _ _ _ us hl=>el3 us hl fun _ _ _=>rfl) (fun vs H Q E h=>?_) (fun f cdv A outer s H vs Q E hr h=>?_)
 ·obtain ⟨tl,th,pl,k,ts,e,ia,hv,inner,v,rfl,_⟩:=h
  rfl
 obtain ⟨tl,th,pl,k,ts,e,ia,hv,inner,v,rfl,h1,h2,h3,h4,h5,h6,q⟩:=h
 refine ⟨_,(Z0a (Z1l (qD K (pvF 0) (qA K 1)) (Z1X (n:=2) rfl (Z0p (qH 3 O1j.nd) (Z0p (qH 4 O1j.nd) Z1W))))
  (Z0b (Z0n (qC K (pvF 4) (pvF 2))))),?_⟩
 walk_at "rd"
 exact ⟨_,h2,_,ix1,_,rfl,_,h1,_,h3,_,rfl,_,h4,rfl,_,_,rfl,_,_,rfl,rfl,_,rfl,_,h5,_,h6,q⟩
theorem Z6E (T:Txt P w K mg O0b O0a O0c) (O1U:Has P w K mg base 2 "two_told" ["sign","a","b"] (Z4v K)) (O0A:Has P w K mg base 1 "behind" ["frame","many","value"] (Z2Q K)):Has P w K mg base 3 "two_done" ["sign","frame"] (Z4r K):=by
 refine Has.of T.O3m O1J (fun _ _ _ _ _ _ us hl=>el2 us hl fun _ _=>rfl) (fun vs H Q E h=>?_) (fun f cdv A outer s H vs Q E hr h=>?_)
 ·obtain ⟨sg,a,F,st,x,y,r,rfl,_⟩:=h
  rfl
 obtain ⟨sg,a,F,st,x,y,r,rfl,hF,hst,hl,ht,q1,q2⟩:=h
 refine ⟨_,(Z0a (qG 2 O1J.nd (qA K 1))
  (Z0a (qG 3 O1J.nd (qF O1U hr (qK (pvF 0) (qC K (pvF 2) qN) (qC K (pvF 2) qN))))
  (Z0a (Z0t (qM Z0B (qA K 3) Z0g) (Z0b (Z0n (Z0k (qJ (pvF 1) (pvF 3))))) Z0o)
  (Z0b (Z0n (Z0k (qJ (qF O0A hr (qK (pvF 1) Z0c (qA K 3))) Z1d))))))),?_⟩
 walk_at "rd"
 obtain ⟨sa,ta,h1,h2,h3⟩:=hF
 rw [hst] at h3
 refine ⟨_,h1,_,rfl,ta,rfl,_,h3,_,J2a st x y,ta,rfl,_,h3,_,J6W st x y,sg,x,y,r,rfl,ht,fun p H1 s1 hp=>?_⟩
 rcases ht.shape with ⟨why,e⟩ | ⟨v,e⟩
 ·subst e
  refine ⟨p,rfl,_,hp,_,ix0,rfl,?_⟩
  rw [if_pos rfl]
  exact fun u hu=>q1 why u p _ rfl (s1.trans (Z0f hu _)) (hp.same (Z0f hu _)) (SqT.of Z0d)
 ·subst e
  refine ⟨p,rfl,_,hp,_,ix0,rfl,?_⟩
  rw [if_neg qQ]
  refine ⟨p,rfl,_,hp,_,ix1,a,2,v,F,rfl,FrAt.same ⟨sa,ta,h1,h2,by rw [hst]; exact h3⟩ s1,by rw [hst,qa1]; show 2≤_+2; omega,hl,fun f' H2 s2 hf=>?_⟩
  intro u hu
  refine q2 v u f' _ rfl (s1.trans (s2.trans (Z0f hu _))) (FrAt.same ?_ (Z0f hu _)) (SqT.of Z0d)
  rw [hst,qa1] at hf
  have e:List.take (st.length+[x,y].length - 2) (st++[x,y])=st:=by
   show List.take (st.length+2 - 2) _=_
   rw [qi6,qi7]
   rfl
  rw [e] at hf
  exact hf
theorem J4z (T:Txt P w K mg O0b O0a O0c) (O1V:Has P w K mg base 3 "two_done" ["sign","frame"] (Z4r K)) (O0A:Has P w K mg base 1 "behind" ["frame","many","value"] (Z2Q K)) (O2M:Has P w K mg base 1 "field_value" ["things","thing","place"] (Z7E K)):Has P w K mg base 4 "own_done" ["row","frame","things"] (Z5c K):=by
 refine Has.of T.O3l O0E (fun _ _ _ _ _ _ us hl=>el3 us hl fun _ _ _=>rfl) (fun vs H Q E h=>?_) (fun f cdv A outer s H vs Q E hr h=>?_)
 ·obtain ⟨r,a,tl,nm,args,F,rfl,_⟩:=h
  rfl
 obtain ⟨r,a,tl,nm,args,F,rfl,hR,hF,hl,hl2,hc⟩:=h
 refine ⟨_,(Z0a (Z1l (pvF 1) (Z1X (n:=4) rfl (Z0p (qH 3 O0E.nd) (Z0p (qH 4 O0E.nd) (Z0p (qH 5 O0E.nd) (Z0p (qH 6 O0E.nd) Z1W))))))
  (Z0a (qG 7 O0E.nd (qA K 0))
  (Z0a (Z0t (J5d (J5w T.d_ROW_SIGNS (pvF 7) (Z6c T.c_ROW_SIGNS rfl)) (by with_unfolding_all rfl)) (Z0b (Z0n (qF O1V hr (qJ (J2Z T.d_ROW_SIGNS (Z6c T.c_ROW_SIGNS rfl) (pvF 7) (fun _ _=>rfl)) (pvF 1))))) Z0o)
  (Z0a (Z0t (qM Z0B (pvF 7) Z0g) (Z0b (Z0n (Z0k (qJ (qF O0A hr (qK (pvF 1) Z0c (qA K 0))) Z1d)))) Z0o)
  (Z0a (Z0t (qM Z0B (pvF 7) Z0g) (Z0b (Z0n (Z0k (qJ (qF O0A hr (qK (pvF 1) Z0c (qC K (pvF 5) (qA K 0)))) Z1d)))) Z0o)
  (Z0a (Z0t (qM Z0B (pvF 7) Z0g) (Z0b (Z0n (Z0k (qJ (qF O0A hr (qK (pvF 1) Z0c (J2G (qC K (pvF 6) qN)))) Z1d)))) Z0o)
  (Z0a (Z0t (qM Z0B (pvF 7) Z0g) (Z0b (Z0n (Z0k (qJ (qF O0A hr (qK (pvF 1) Z0c (qF O2M hr (qK (pvF 2) (qC K (pvF 6) qN) (qA K 0))))) Z1d)))) Z0o)
  (Z0a (Z0t (qM Z0B (pvF 7) Z0g) (Z0a (qG 8 O0E.nd (Z0h (r:=Z2k K) Z0T (Z0h (r:=Z2k K) Z0T (Z0y (r:=rSlA K) Z0P (pvF 5) Z0E (Z0D (qA K 0))) (Z0k (qI (qC K (pvF 6) qN)))) (Z0y (r:=rSlA K) Z0P (pvF 5) (Z0D (Z0h Z0x (qA K 0) Z0c)) Z0E)))
  (Z0b (Z0n (Z0k (qJ (Z0k (Z0r (pvF 3) (qK (Z0h Z0x (pvF 4) Z0c) (pvF 8) (Z0y (r:=rSlA K) Z0P (pvF 6) Z0E (Z0D qN))))) Z1d))))) Z0o)
  (Z0a (Z0t (qM Z0B (pvF 7) Z0g) (Z0b (Z0n (Z0k (qJ (Z0k (Z0r (pvF 3) (qK (Z0h Z0x (pvF 4) Z0c) (pvF 5) (Z0y (r:=rSlA K) Z0P (pvF 6) Z0E (Z0D qN))))) Z1d)))) Z0o)
  (Z0a (Z0t (qM Z0B (pvF 7) Z0g) (Z0b (Z0n (Z0k (qJ (Z0k (Z0r (pvF 3) (qK (Z0h Z0x (Z0h Z0x (pvF 4) Z0c) (qA K 0)) (pvF 5) (pvF 6)))) Z1d)))) Z0o)
  (Z0a (qG 9 O0E.nd (Z2G (Z3m (qC K (pvF 6) qN)) Z0c (qA K 0)))
  (Z0b (Z0n (Z0k (qJ (Z0k (Z0r (pvF 3) (qK (Z0h Z0x (Z0h Z0x (pvF 4) Z0c) (pvF 9)) (pvF 5) (Z0y (r:=rSlA K) Z0P (pvF 6) Z0E (Z0D qN))))) Z1d))))))))))))))),?_⟩
 refine J4O fun uz11 huz11 uz10 huz10 uz9 huz9 uz8 huz8 uz7 huz7 uz6 huz6 uz5 huz5 uz4 huz4 uz3 huz3 uz2 huz2 uz1 huz1=>?_
 walk_at "rd"
 have hF':=hF
 obtain ⟨sa,ta,h1,h2,h3⟩:=hF'
 refine ⟨_,h1,rfl,_,_,rfl,_,_,rfl,_,_,rfl,_,_,rfl,rfl,?_⟩
 subst huz1
 walk_at "rd"
 refine ⟨_,hR,_,ix0,?_⟩
 subst huz2
 walk_at "rd"
 refine ⟨.inr nm,rfl,?_⟩
 rcases hc with ⟨sg,st,x,y,rr,e1,e2,ht,q1,q2⟩ | ⟨F',ho,q⟩
 ·have e3:(valV Z2s (.inr nm)).isSome=true:=by rw [e1]; rfl
  rw [if_pos e3]
  exact ⟨.inr nm,rfl,_,e1,sg,a,F,st,x,y,rr,rfl,hF,e2,hl,ht,q1,q2⟩
 have go:∀ {H1:Hp} {f':y8},Same H H1→FrAt K H1 f' F'→∀ p,H1 p=none→Q (.ref p) (upd H1 p (.tup [.ref f',.non])):=fun s1 hf p hp=>q _ _ _ (s1.trans (Z0f hp _)) (hf.same (Z0f hp _)) (SqT.of Z0d)
 have fin:∀ {H1:Hp} {x y:y8} {at':Int},Same H H1→at'=F'.at_→F'.n=F.n→SqT K H1 x F'.sl→SqT K H1 y F'.st→∀ p,H1 p=none→∀ p1,upd H1 p (.tup [F.n,.int at',.ref x,.ref y]) p1=none→Q (.ref p1) (upd (upd H1 p (.tup [F.n,.int at',.ref x,.ref y])) p1 (.tup [.ref p,.non])):=by
  intro H1 x y at' s1 ea en hx hy p hp p1 hp1
  have s2:=Z0f hp (.tup [F.n,.int at',.ref x,.ref y])
  have s3:=Z0f hp1 (.tup [.ref p,.non])
  refine q p1 p _ (s1.trans (s2.trans s3)) ⟨x,y,?_,hx.same (s2.trans s3),hy.same (s2.trans s3)⟩ (SqT.of Z0d)
  rw [en,← ea]
  exact SqT.same (SqT.of Z0d) s3
 cases ho with
 | push v=>
  rw [if_neg qQ]
  subst huz3
  walk_at "rd"
  refine ⟨_,hR,_,ix1,a,0,v,F,rfl,hF,qa4 _,hl,fun p H1 s1 hf=>go s1 ?_⟩
  rw [qg2,qj5] at hf
  exact hf
 | load i v e=>
  rw [if_neg qQ]
  subst huz3
  walk_at "rd"
  subst huz4
  walk_at "rd"
  refine ⟨_,hR,_,ix1,_,rfl,_,h2,_,e,a,0,v,F,rfl,hF,qa4 _,hl,fun p H1 s1 hf=>go s1 ?_⟩
  rw [qg2,qj5] at hf
  exact hf
 | nt b st e=>
  rw [if_neg qQ]
  subst huz3
  walk_at "rd"
  subst huz4
  walk_at "rd"
  subst huz5
  walk_at "rd"
  rw [e] at h3
  refine ⟨_,h3,_,Z0F st (.bl b),b,rfl,a,1,_,F,rfl,hF,by rw [e,qa1]; show 1≤_+1; omega,hl,fun p H1 s1 hf=>go s1 ?_⟩
  rw [e,Z9t] at hf
  exact hf
 | get st th k pl ts ee ia hv inner v e g1 g2 g3 g4 g5 g6=>
  rw [if_neg qQ]
  subst huz3
  walk_at "rd"
  subst huz4
  walk_at "rd"
  subst huz5
  walk_at "rd"
  subst huz6
  walk_at "rd"
  rw [e] at h3
  refine ⟨_,h3,_,Z0F st (.ref th),_,hR,_,ix1,tl,th,pl,k,ts,ee,ia,hv,inner,v,rfl,g1,g2,g3,g4,g5,g6,a,1,v,F,rfl,hF,by rw [e,qa1]; show 1≤_+1; omega,hl,fun p H1 s1 hf=>go s1 ?_⟩
  rw [e,Z9t] at hf
  exact hf
 | keep i v st e k0 k1=>
  rw [if_neg qQ]
  subst huz3
  walk_at "rd"
  subst huz4
  walk_at "rd"
  subst huz5
  walk_at "rd"
  subst huz6
  walk_at "rd"
  subst huz7
  walk_at "rd"
  rw [e] at h3
  refine ⟨_,hR,_,ix1,_,rfl,sa,_,rfl,h2,fun p1 H1 s1 hp1=>⟨_,h3.same s1,_,Z0F st v,fun p2 hp2=>?_⟩⟩
  have s2:=Z0f hp2 (.tup [v])
  rw [Z2B] at hp1
  refine ⟨p1,p2,_,_,rfl,rfl,hp1.same s2,SqT.of Z0d,by rw [qc4,sizeLine_eq]; show _+1≤_; omega,fun p3 H3 s3 hp3=>?_⟩
  have s13:=s1.trans (s2.trans s3)
  refine ⟨_,hR.same s13,_,ix1,_,rfl,sa,_,rfl,h2.same s13,fun p4 H4 s4 hp4=>?_⟩
  rw [show ((i:Int)+1)=((i+1:Nat):Int) from rfl,Z2c] at hp4
  refine ⟨p3,p4,_,_,rfl,rfl,hp3.same s4,hp4,by rw [qa1,qc4,qe5,sizeLine_eq]; show _+1+_≤_; omega,fun p5 H5 s5 hp5=>⟨ta,_,rfl,h3.same (s13.trans (s4.trans s5)),fun p6 H6 s6 hp6=>?_⟩⟩
  rw [Z3y] at hp6
  exact fin (s13.trans (s4.trans (s5.trans s6))) rfl rfl (hp5.same s6) hp6
 | drop v st e=>
  rw [if_neg qQ]
  subst huz3
  walk_at "rd"
  subst huz4
  walk_at "rd"
  subst huz5
  walk_at "rd"
  subst huz6
  walk_at "rd"
  subst huz7
  walk_at "rd"
  subst huz8
  walk_at "rd"
  rw [e] at h3
  refine ⟨ta,_,rfl,h3,fun p1 H1 s1 hp1=>?_⟩
  rw [Z3y] at hp1
  exact fin s1 rfl rfl (h2.same s1) hp1
 | skip n=>
  rw [if_neg qQ]
  subst huz3
  walk_at "rd"
  subst huz4
  walk_at "rd"
  subst huz5
  walk_at "rd"
  subst huz6
  walk_at "rd"
  subst huz7
  walk_at "rd"
  subst huz8
  walk_at "rd"
  subst huz9
  walk_at "rd"
  exact ⟨_,hR,_,ix1,_,rfl,fin (Same.refl H) rfl rfl h2 h3⟩
 | unl n b st e=>
  rw [if_neg qQ]
  subst huz3
  walk_at "rd"
  subst huz4
  walk_at "rd"
  subst huz5
  walk_at "rd"
  subst huz6
  walk_at "rd"
  subst huz7
  walk_at "rd"
  subst huz8
  walk_at "rd"
  subst huz9
  walk_at "rd"
  subst huz10
  walk_at "rd"
  rw [e] at h3
  refine ⟨_,h3,_,Z0F st (.bl b),b,rfl,?_⟩
  cases b with
  | true=>
   rw [if_pos rfl]
   subst huz11
   walk_at "rd"
   refine ⟨ta,_,rfl,h3,fun p1 H1 s1 hp1=>?_⟩
   rw [Z3y] at hp1
   exact fin s1 rfl rfl (h2.same s1) hp1
  | false=>
   rw [if_neg qQ]
   refine ⟨_,hR,_,ix1,?_⟩
   subst huz11
   walk_at "rd"
   refine ⟨ta,_,rfl,h3,fun p1 H1 s1 hp1=>?_⟩
   rw [Z3y] at hp1
   exact fin s1 rfl rfl (h2.same s1) hp1
theorem Z8l (T:Txt P w K mg O0b O0a O0c):Has P w K mg base 1 "entered" ["block","number","values"] (Z3M K):=by
 refine Has.of T.O3s O2E (fun _ _ _ _ _ _ us hl=>el3 us hl fun _ _ _=>rfl) (fun vs H Q E h=>?_) (fun f cdv A outer s H vs Q E hr h=>?_)
 ·obtain ⟨b,va,nv,m,rows,size,xs,rfl,_⟩:=h
  rfl
 obtain ⟨b,va,nv,m,rows,size,xs,rfl,hb,hv,hz,hs,q⟩:=h
 refine ⟨_,(Z0a (qG 3 O2E.nd (Z0H Z1k rfl T.O1y Z2p (qI (pvF 2))))
  (Z0b (Z0n (Z0k (Z0r (pvF 1) (qK Z0c (Z0h (r:=Z2k K) Z0T (pvF 3) (Z0h (r:=J1w K) Z6Y (Z0k (qI Z1d)) (Z0h Z1n (qA K 0) (qL T.z_len (qI (pvF 3)))))) (Z0k Z0N))))))),?_⟩
 walk_at "rd"
 rcases hv with hv | hv
 ·refine ⟨xs,.inl ⟨hv,fun l hl p hp=>?_⟩⟩
  have s2:=Z0f hp (.tup [.non])
  have S:=(Z0f hl (.tup xs)).trans s2
  have hL:SqT K (upd (upd H l (.tup xs)) p (.tup [.non])) l xs:=SqT.of (s2 _ _ Z0d)
  refine ⟨_,hb.same S,_,ix1,_,.inr hL,_,rfl,p,_,[.non],rfl,rfl,SqT.of Z0d,by simp,qR,qR,by rw [sizeLine_eq]; show 1 * _≤_; omega,fun p3 H3 s3 hp3=>?_⟩
  have ek:((size:Int) - (xs.length:Int)).toNat=size - xs.length:=by omega
  rw [ek,Z5E] at hp3
  refine ⟨l,p3,_,_,rfl,rfl,hL.same s3,hp3,by rw [qd3,sizeLine_eq]; omega,fun p4 H4 s4 hp4=>?_⟩
  intro e he p5 hp5
  have s5:=Z0f he (.tup [])
  have s6:=Z0f hp5 (.tup [nv,.int 0,.ref p4,.ref e])
  exact q p5 _ (S.trans (s3.trans (s4.trans (s5.trans s6)))) ⟨p4,e,SqT.of Z0d,hp4.same (s5.trans s6),SqT.same (SqT.of Z0d) s6⟩
 ·refine ⟨xs,.inr ⟨hv,fun p hp=>?_⟩⟩
  have S:=Z0f hp (.tup [.non])
  have hL:=hv.same S
  refine ⟨_,hb.same S,_,ix1,_,.inr hL,_,rfl,p,_,[.non],rfl,rfl,SqT.of Z0d,by simp,qR,qR,by rw [sizeLine_eq]; show 1 * _≤_; omega,fun p3 H3 s3 hp3=>?_⟩
  have ek:((size:Int) - (xs.length:Int)).toNat=size - xs.length:=by omega
  rw [ek,Z5E] at hp3
  refine ⟨va,p3,_,_,rfl,rfl,hL.same s3,hp3,by rw [qd3,sizeLine_eq]; omega,fun p4 H4 s4 hp4=>?_⟩
  intro e he p5 hp5
  have s5:=Z0f he (.tup [])
  have s6:=Z0f hp5 (.tup [nv,.int 0,.ref p4,.ref e])
  exact q p5 _ (S.trans (s3.trans (s4.trans (s5.trans s6)))) ⟨p4,e,SqT.of Z0d,hp4.same (s5.trans s6),SqT.same (SqT.of Z0d) s6⟩
theorem J1Y (T:Txt P w K mg O0b O0a O0c):HasM P w K mg base 1 O0b "__init__" ["self"] (Z7r O0b):=by
 refine HasM.of T.O1S Z3I (fun _ _ _ _ _ _ us hl=>el1 us hl fun _=>rfl) (fun vs H Q E h=>?_) (fun f cdv A outer s H vs Q E hr h=>?_)
 ·obtain ⟨x,dx,rfl,_⟩:=h
  rfl
 obtain ⟨x,dx,rfl,hx,q⟩:=h
 refine ⟨_,(Z0b (Z1v (pvF 0) Z5F rfl)),?_⟩
 walk_at "rd"
 exact fun p hp=>⟨O0b,dx,[],by rw [Z0e (Z0m hx hp)]; exact hx,T.Places.cl,T.O0K,qQ,q p hp⟩
theorem J3h (T:Txt P w K mg O0b O0a O0c):HasM P w K mg base 1 O0b "told" ["self","site"] (Z6S O0b):=by
 refine HasM.of T.O2J Z4L (fun _ _ _ _ _ _ us hl=>el2 us hl fun _ _=>rfl) (fun vs H Q E h=>?_) (fun f cdv A outer s H vs Q E hr h=>?_)
 ·obtain ⟨x,dx,d,site,hd,n,m,rfl,_⟩:=h
  rfl
 obtain ⟨x,dx,d,site,hd,n,m,rfl,hx,hm,q⟩:=h
 refine ⟨_,(Z0b (Z0n (Z0H Z0L rfl T.O1G Z2w (qI (Z7A (Z3k hr) (qO 0) (pvF 1) (Z0s Z0N) ⟨rfl,rfl,rfl,rfl⟩))))),?_⟩
 walk_at "rd"
 obtain ⟨kvs,hk,hn,hat⟩:=hm
 refine ⟨O0b,dx,_,hx,T.Places.cl,T.O0K,_,rfl,d,rfl,.inl ⟨kvs,Rd.of hk⟩,fun p hp=>?_⟩
 have s1:=Z0f hp (.lst [])
 refine ⟨_,DGet.k (k:=.inl site) (s1 _ _ hk),?_⟩
 have:=hat site
 unfold getP at q
 cases e:m site with
 | none=>
  rw [e] at this q
  rw [show valV kvs (.inl site)=none from this]
  exact ⟨p,rfl,[],.inl (SqL.of Z0d),fun l hl=>q l _ (s1.free hl) (s1.trans (Z0f hl _)) ⟨[],Z0d,.nil⟩⟩
 | some ps=>
  rw [e] at this q
  obtain ⟨l0,a,b,rs,c1,c2⟩:=this
  rw [a]
  exact ⟨l0,rfl,rs,.inl (SqL.of (s1 _ _ c1)),fun l hl=>q l _ (s1.free hl) (s1.trans (Z0f hl _)) ⟨rs,Z0d,Prs.mono (fun t xs z=>(s1.trans (Z0f hl _)) _ _ z) c2⟩⟩
theorem J1t (T:Txt P w K mg O0b O0a O0c) (O0I:HasM P w K mg base 1 O0b "told" ["self","site"] (Z6S O0b)):HasM P w K mg base 2 O0b "asked" ["self","site","house"] (Z7p O0b):=by
  refine HasM.of T.O2x O1a (fun _ _ _ _ _ _ us hl=>el3 us hl fun _ _ _=>rfl) (fun vs H Q E h=>?_) (fun f cdv A outer s H vs Q E hr h=>?_)
  · obtain ⟨x,dx,d,site,house,hd,n,m,rfl,_⟩:=h
    rfl
  obtain ⟨x,dx,d,site,house,hd,n,m,rfl,hx,hm,hh,hn,hl,q0,q1⟩:=h
  refine ⟨_,(Z0a (qG 3 O1a.nd (Z0V (pvF 0) T.Places.cl O0I hr qQ (qI (pvF 1))))
    (Z0a (Z1J rfl O1a.nd (i:=4) rfl rfl (BlockOk.of (N:=["pair","house"]) (nl:=[none,some 2]) (cl:=[("house",s.heap.objs.size+1)]) rfl qP qP rfl (sub1 rfl) (nm:=["house"]) rfl qP rfl (fun i hi j hj=>by
            match i,hi with
            | 0,_=>cases hj
             | 1,_=>cases hj; exact ⟨_,rfl,rfl,rfl,.inl rfl⟩
            )) (Z2x (pvF 3))
          (fun C fp s H=>(qH 0 (show (["pair","house"]:List Str).Nodup by decide +kernel)))
          (fun C fp s H=>(qM Z0B (qA K 0) (pvF 1))) (fun C fp s H=>(pvF 0)))
    (Z0a (Z0t (qM (r:=rEqD K) (Z3W hr.units) (pvF 4) (Z0s Z0N)) (Z0b (Z0n Z1d)) Z0o)
    (Z0a (Z1V (Z3k hr) (qO 0) (pvF 1) (Z0h Z1Y (pvF 4) (Z4h rfl (BlockOk.of (N:=["pair","house"]) (nl:=[none,some 2]) (cl:=[("house",s.heap.objs.size+1)]) rfl qP qP rfl (sub1 rfl) (nm:=["house"]) rfl qP rfl (fun i hi j hj=>by
            match i,hi with
            | 0,_=>cases hj
             | 1,_=>cases hj; exact ⟨_,rfl,rfl,rfl,.inl rfl⟩
            )) (Z2x (pvF 3))
          (fun C fp s H=>(qH 0 (show (["pair","house"]:List Str).Nodup by decide +kernel)))
          (fun C fp s H=>(qM J3w (qA K 0) (pvF 1))) (fun C fp s H=>(pvF 0)))) rfl)
    (Z0b (Z0n (qC K (qD K (pvF 4) Z0c) Z0c))))))),?_⟩
  walk_at "rd"
  refine ⟨dx,_,hx,rfl,x,dx,d,site,hd,n,m,rfl,hx,hm,fun l H1 hl1 s1 hq=>?_⟩
  obtain ⟨rs,hr1,hr2⟩:=hq
  have lr:rs.length=(getP m site).length:=Paired.length hr2
  have lz:rs.length≤sizeLine:=by rw [lr,sizeLine_eq]; omega
  refine ⟨l,rfl,⟨_,SqL.of hr1⟩,fun D hD=>?_⟩
  refine Z3e [some (.int house)] (fun p=>decide (p.1=house)) none rfl (SqL.of hr1) hD hr2 lz (fun t p l' K' ht k=>?_) fun fs hf=>?_
  · walk_at "rd"
    exact ⟨_,SqT.of ht,_,ix0,rfl,by simpa using k⟩
  have s2:=s1.trans (Z0f hD (.lst fs))
  have hfD:SqP (upd H1 D (.lst fs)) D (seen (getP m site) house):=⟨_,Z0d,hf⟩
  have hr1':=(Z0f hD (.lst fs)) _ _ hr1
  have hr2':=Prs.mono (fun t xs z=>(Z0f hD (.lst fs)) _ _ z) hr2
  generalize upd H1 D (.lst fs)=H2 at *
  intro p hp
  have s3:=Z0f hp (.lst [])
  refine ⟨_,(hfD.same s3).rd,_,.lst (SqL.of Z0d) .nil,Z9O _,qP,?_⟩
  rw [Z8D]
  cases e:seen (getP m site) house with
  | nil=>exact iteT (q0 e _ (s2.trans s3))
  | cons p0 r0=>
    refine iteF ?_
    obtain ⟨fs',hfl,hfp⟩:=hfD
    refine ⟨l,rfl,⟨_,SqL.of (s3 _ _ hr1')⟩,fun D2 hD2=>?_⟩
    refine Z3e [some (.int house)] (fun p=>!decide (p.1=house)) none rfl (SqL.of (s3 _ _ hr1')) hD2 (Prs.mono (fun t xs z=>s3 _ _ z) hr2') lz (fun t p l' K' ht k=>?_) fun gs hg=>?_
    · walk_at "rd"
      exact ⟨_,SqT.of ht,_,ix0,rfl,by simpa using k⟩
    have s4:=Z0f hD2 (.lst gs)
    have lf:fs'.length≤2:=by
      rw [Paired.length hfp]
      exact qa7 (qf5 _ _) hl
    have lg:gs.length≤2:=by
      rw [Paired.length hg]
      exact qa7 (qf5 _ _) hl
    refine ⟨D,rfl,D2,rfl,_,s4 _ _ (s3 _ _ hfl),_,Z0d,qR,fun p2 hp2=>?_⟩
    have s5:=Z0f hp2 (.lst (fs'++gs))
    have S4:=(s2.trans s3).trans s4
    have S:=S4.trans s5
    obtain ⟨kvs,k1,k2,k3⟩:=hm.same S
    have hD5:=((s3.trans s4).trans s5) _ _ hfl
    have hfp5:=Prs.mono (fun t xs z=>((s3.trans s4).trans s5) _ _ z) hfp
    have hg5:=Prs.mono (fun t xs z=>s5 _ _ z) hg
    have np:¬ hd p2:=fun z=>by
      obtain ⟨oh,eh⟩:=qc9.mp (hh _ z)
      exact Z0m (S4 _ _ eh) hp2 rfl
    have h5:upd (upd (upd H2 p (.lst [])) D2 (.lst gs)) p2 (.lst (fs'++gs)) p2=some (.lst (fs'++gs)):=Z0d
    generalize upd (upd (upd H2 p (.lst [])) D2 (.lst gs)) p2 (.lst (fs'++gs))=H5 at *
    have rp:=Rep.put (k:=site) k1 k2 k3 np ⟨_,h5,Paired.appendP hfp5 hg5⟩
    have nD:D≠d:=Z0J hD5 k1 (fun z=>by cases z)
    rw [e] at hfp5
    cases hfp5 with
    | cons hv0 hrest=>
      obtain ⟨t0,rfl,ht0⟩:=hv0
      have nt:t0≠d:=Z0J ht0 k1 (fun z=>by cases z)
      refine ⟨O0b,dx,_,S _ _ hx,T.Places.cl,T.O0K,_,rfl,d,rfl,_,DPut.k (k:=.inl site) k1 (qg0 k2 (Nat.lt_trans hn (by rw [sizeLine_eq]; decide))),D,rfl,_,SqL.of (by rw [Z0e nD]; exact hD5),_,ix0,t0,rfl,_,SqT.of (by rw [Z0e nt]; exact ht0),_,ix1,?_⟩
      exact q1 p0 r0 e _ ((Same.x S d).trans (Z0G _)) rp
theorem J5e (T:Txt P w K mg O0b O0a O0c) (O0I:HasM P w K mg base 1 O0b "told" ["self","site"] (Z6S O0b)):HasM P w K mg base 2 O0b "put" ["self","site","house","block"] (J2L O0b):=by
 refine HasM.of T.O2V Z5o (fun _ _ _ _ _ _ us hl=>el4 us hl fun _ _ _ _=>rfl) (fun vs H Q E h=>?_) (fun f cdv A outer s H vs Q E hr h=>?_)
 ·obtain ⟨x,dx,d,site,house,block,hd,n,m,rfl,_⟩:=h
  rfl
 obtain ⟨x,dx,d,site,house,block,hd,n,m,rfl,hx,hm,hh,hn,hl,q⟩:=h
 refine ⟨_,(Z0b (Z1V (Z3k hr) (qO 0) (pvF 1) (Z0y (r:=rSlL K) Z4y (Z0h Z1Y (Z0s (qI (Z0k (qJ (pvF 2) (pvF 3))))) (Z0V (pvF 0) T.Places.cl O0I hr qQ (qI (pvF 1)))) Z0E (Z0D (Z6c T.c_MOST_PAIRS rfl))) rfl)),?_⟩
 walk_at "rd"
 intro p hp t ht
 have S1:=Z0f hp (.tup [.int house,.int block])
 have S2:=Z0f ht (.lst [.ref p])
 have S12:=S1.trans S2
 refine ⟨dx,_,S12 _ _ hx,rfl,x,dx,d,site,hd,n,m,rfl,S12 _ _ hx,hm.same S12,fun l H2 hl2 s2 hq=>?_⟩
 obtain ⟨rs,hr1,hr2⟩:=hq
 have lr:rs.length=(getP m site).length:=Paired.length hr2
 refine ⟨l,rfl,_,s2 _ _ Z0d,_,hr1,by rw [lr]; show 1+_≤_; omega,fun u hu=>⟨_,SqL.of Z0d,fun v hv=>?_⟩⟩
 have S3:=Z0f hu (.lst ([.ref p]++rs))
 have S4:=Z0f hv (.lst (cutV ([.ref p]++rs) none (some 2)))
 have S23:=(S12.trans s2).trans S3
 have S:=S23.trans S4
 obtain ⟨kvs,k1,k2,k3⟩:=hm.same S
 refine ⟨O0b,dx,_,S _ _ hx,T.Places.cl,T.O0K,_,rfl,d,rfl,_,DPut.k (k:=.inl site) k1 (qg0 k2 (Nat.lt_trans hn (by rw [sizeLine_eq]; decide))),q _ ((Same.x S d).trans (Z0G _)) ?_⟩
 have hp4:=(((S2.trans s2).trans S3).trans S4) _ _ (Z0d (H:=H) (a:=p) (o:=.tup [.int house,.int block]))
 have hr4:=Prs.mono (fun t xs z=>(S3.trans S4) _ _ z) hr2
 refine Rep.put k1 k2 k3 (fun z=>by obtain ⟨oh,eh⟩:=qc9.mp (hh _ z); exact Z0m (S23 _ _ eh) hv rfl) ⟨_,Z0d,?_⟩
 generalize upd (upd H2 u (.lst ([.ref p]++rs))) v (.lst (cutV ([.ref p]++rs) none (some 2)))=H4 at hp4 hr4 ⊢
 rw [cut2]
 exact Paired.takeP 2 (.cons ⟨p,rfl,hp4⟩ hr4)end
section
variable (CM CP:y8) (K:y9)
inductive J4L (vs:List V) (H:Hp) (Q:VK):Prop
 | mk (a:y8) (m:Nat) (F:Fr) (a1:vs=[.ref a,.int m]) (a2:FrAt K H a F) (a3:m≤F.st.length) (a4:F.st.length < 100000) (a5:∀ p H',Same H H'→SqT K H' p (F.st.drop (F.st.length - m))→Q (.ref p) H'):J4L vs H Q
def Z8S:Sp:=fun vs H Q _=>J4L K vs H Q
inductive J2N (vs:List V) (H:Hp) (Q:VK):Prop
 | mk (ex:y8→Prop) (o:MO) (P:Mach.Prog) (s:MS) (a:y8) (e:Mach.End) (a1:vs=[.ref o.x,.ref a]) (a2:MAt CM CP K ex o P s H) (a3:EndIs K H a e) (a4:∀ q H',Keep ex H H'→MAt CM CP K ex { o with sk:=q } P (Mach.ends s e) H'→Q .non H'):J2N vs H Q
def Z7Z:Sp:=fun vs H Q _=>J2N CM CP K vs H Q
def endV (s:MS):AV→Option Mach.End
 | .th k=>(s.made[k]?).map fun t=>.thing t.1
 | v=>some (.val v)
inductive Z7w (vs:List V) (H:Hp) (Q:VK):Prop
 | mk (ex:y8→Prop) (o:MO) (P:Mach.Prog) (s:MS) (v:V) (x:AV) (e:Mach.End) (a1:vs=[.ref o.x,v]) (a2:MAt CM CP K ex o P s H) (a3:AtV K H v x) (a4:(∀ t∈s.made,t.1 < 1000000)) (a5:endV s x=some e) (a6:∀ a H',Same H H'→EndIs K H' a e→Q (.ref a) H'):Z7w vs H Q
def Z7e:Sp:=fun vs H Q _=>Z7w CM CP K vs H Q
def Does (ex:y8→Prop) (o:MO) (P:Mach.Prog) (H:Hp) (s':MS) (v:V) (Q:VK):Prop:=∀ o' H',o'.x=o.x→Keep ex H H'→MAt CM CP K ex o' P s' H'→Q v H'
structure Top (H:Hp) (o:MO) (P:Mach.Prog) (n:Nat) (s:MS) (a:y8) (f:AFr) (fs:List AFr):Prop where
 fr:s.frames=f::fs
 at_:FrIs K H a f
 sz:Mach.Sz n s
 psz:Mach.PSz P
 nn:n < 90000
inductive Z6h (vs:List V) (H:Hp) (Q:VK):Prop
 | mk (ex:y8→Prop) (o:MO) (P:Mach.Prog) (s:MS) (a:y8) (n:Nat) (f:AFr) (fs:List AFr) (s':MS) (a1:vs=[.ref o.x,.ref a]) (a2:MAt CM CP K ex o P s H) (a3:Top K H o P n s a f fs) (a4:Mach.rowM P s f fs .back=some s') (a5:Does CM CP K ex o P H s' .non Q):Z6h vs H Q
def Z5X:Sp:=fun vs H Q _=>Z6h CM CP K vs H Q
inductive Z5T (vs:List V) (H:Hp) (Q:VK):Prop
 | mk (ex:y8→Prop) (o:MO) (P:Mach.Prog) (s:MS) (a:y8) (block many n:Nat) (f:AFr) (fs:List AFr) (s':MS) (a1:vs=[.ref o.x,.int block,.int many,.ref a]) (a2:MAt CM CP K ex o P s H) (a3:Top K H o P n s a f fs) (a4:Mach.enter P s f fs block many=some s') (a5:Does CM CP K ex o P H s' .non Q):Z5T vs H Q
def Z5U:Sp:=fun vs H Q _=>Z5T CM CP K vs H Q
inductive Z6g (vs:List V) (H:Hp) (Q:VK):Prop
 | mk (ex:y8→Prop) (o:MO) (P:Mach.Prog) (s:MS) (a:y8) (site word many n k:Nat) (f:AFr) (fs:List AFr) (rest:List AV) (t:Nat×List AV) (b:Nat) (s':MS) (a1:vs=[.ref o.x,.int site,.int word,.int many,.ref a]) (a2:MAt CM CP K ex o P s H) (a3:Top K H o P n s a f fs) (a4:(f.st.take many).reverse=.th k::rest) (a5:many≤f.st.length) (a6:s.made[k]?=some t) (a7:Mach.found P s t.1 site word=some (b,s')) (a8:∀ H',Keep ex H H'→MAt CM CP K ex o P s' H'→Q (.int b) H'):Z6g vs H Q
def Z5Y:Sp:=fun vs H Q _=>Z6g CM CP K vs H Q
inductive Z9p (vs:List V) (H:Hp) (Q:VK):Prop
 | mk (ex:y8→Prop) (o:MO) (P:Mach.Prog) (s:MS) (a:y8) (pl n:Nat) (f:AFr) (fs:List AFr) (s':MS) (a1:vs=[.ref o.x,.int pl,.ref a]) (a2:MAt CM CP K ex o P s H) (a3:Top K H o P n s a f fs) (a4:Mach.rowM P s f fs (.put pl)=some s') (a5:Does CM CP K ex o P H s' .non Q):Z9p vs H Q
def Z9c:Sp:=fun vs H Q _=>Z9p CM CP K vs H Q
inductive Z8g (vs:List V) (H:Hp) (Q:VK):Prop
 | mk (ex:y8→Prop) (o:MO) (P:Mach.Prog) (s:MS) (a:y8) (h m n:Nat) (f:AFr) (fs:List AFr) (s':MS) (a1:vs=[.ref o.x,.int h,.int m,.ref a]) (a2:MAt CM CP K ex o P s H) (a3:Top K H o P n s a f fs) (a4:Mach.rowM P s f fs (.make h m)=some s') (a5:Does CM CP K ex o P H s' .non Q):Z8g vs H Q
def Z7T:Sp:=fun vs H Q _=>Z8g CM CP K vs H Q
def Z8L:Row→Bool
 | .make _ _=>false
 | .put _=>false
 | .call _ _ _=>false
 | .straight _ _=>false
 | .back=>false
 | _=>true
inductive Z7t (vs:List V) (H:Hp) (Q:VK):Prop
 | mk (ex:y8→Prop) (o:MO) (P:Mach.Prog) (s:MS) (r a:y8) (row:Row) (n:Nat) (f:AFr) (fs:List AFr) (s':MS) (a1:vs=[.ref o.x,.ref r,.ref a]) (a2:MAt CM CP K ex o P s H) (a3:Top K H o P n s a f fs) (a4:RowAt K H r row) (a5:Z8L row=true) (a6:Mach.rowM P s f fs row=some s') (a7:Does CM CP K ex o P H s' .non Q):Z7t vs H Q
def Z7U:Sp:=fun vs H Q _=>Z7t CM CP K vs H Q
inductive Z7k (vs:List V) (H:Hp) (Q:VK):Prop
 | mk (ex:y8→Prop) (o:MO) (P:Mach.Prog) (s:MS) (a1:vs=[.ref o.x]) (a2:MAt CM CP K ex o P s H) (a3:((s.ended≠none∧Q (.bl false) H)∨∃ n s',Mach.step P s=some s'∧Mach.Sz n s∧Mach.PSz P∧n < 80000∧Does CM CP K ex o P H s' (.bl true) Q)):Z7k vs H Q
def J1c:Sp:=fun vs H Q _=>Z7k CM CP K vs H Q
inductive J2k (g:MS→Nat) (vs:List V) (H:Hp) (Q:VK):Prop
 | mk (ex:y8→Prop) (o:MO) (P:Mach.Prog) (s:MS) (a1:vs=[.ref o.x]) (a2:MAt CM CP K ex o P s H) (a3:Q (.int (g s)) H):J2k g vs H Q
def Z3D (g:MS→Nat):Sp:=fun vs H Q _=>J2k CM CP K g vs H Q
inductive Z6t (vs:List V) (H:Hp) (Q:VK):Prop
 | mk (ex:y8→Prop) (o:MO) (P:Mach.Prog) (s:MS) (a1:vs=[.ref o.x]) (a2:MAt CM CP K ex o P s H) (a3:∀ e,EndAt K H e s.ended→Q e H):Z6t vs H Q
def Z6q:Sp:=fun vs H Q _=>Z6t CM CP K vs H Q
inductive Z5O (vs:List V) (H:Hp) (Q:VK):Prop
 | mk (ex:y8→Prop) (o:MO) (P:Mach.Prog) (s:MS) (a1:vs=[.ref o.x]) (a2:MAt CM CP K ex o P s H) (a3:∀ l ss,H l=none→Paired (FrV K H) ss s.frames.reverse→Q (.ref l) (upd H l (.lst ss))):Z5O vs H Q
def Z6a:Sp:=fun vs H Q _=>Z5O CM CP K vs H Q
end
theorem Z4R {K:y9}:W.kitOne K (.type "bool") (.type "tuple")=some false:=by with_unfolding_all rfl
theorem Z5n {K:y9}:W.kitOne K (.type "int") (.type "tuple")=some false:=by with_unfolding_all rfl
theorem Z5x {K:y9}:W.kitOne K (.type "NoneType") (.type "tuple")=some false:=by with_unfolding_all rfl
theorem J1W {P:Mach.Prog} {s s2:MS} {f:AFr} {v:AV} {st:List AV} (h:Mach.rowM P s f [] .back=some s2) (e:f.st=v::st):∃ x,endV s v=some x∧s2=Mach.ends s x:=by
 simp only [Mach.rowM,e] at h
 cases v with
 | th k=>
  simp only at h
  obtain ⟨t,ht,rfl⟩:=qb6.mp h
  exact ⟨.thing t.1,by show (s.made[k]?).map _=_; rw [ht]; rfl,rfl⟩
 | non=>cases h; exact ⟨_,rfl,rfl⟩
 | bl b=>cases h; exact ⟨_,rfl,rfl⟩
 | int i=>cases h; exact ⟨_,rfl,rfl⟩
theorem Z9f {P:Mach.Prog} {s s2:MS} {f g:AFr} {fs:List AFr} {v:AV} {st:List AV} (h:Mach.rowM P s f (g::fs) .back=some s2) (e:f.st=v::st):s2={ s with frames:={ g with st:=v::g.st }::fs }:=by
 simp only [Mach.rowM,e] at h
 cases h; rfl
theorem J3L {P:Mach.Prog} {s s2:MS} {f:AFr} {fs:List AFr} (h:Mach.rowM P s f fs .back=some s2):∃ v st,f.st=v::st:=by
 cases e:f.st with
 | nil=>simp only [Mach.rowM,e] at h; cases h
 | cons v st=>exact ⟨v,st,rfl⟩
section
theorem J6S (T:Txt P w K mg O0b O0a O0c):Has P w K mg base 1 "uppermost" ["frame","many"] (Z8S K):=by
 refine Has.of T.O3b O1Z (fun _ _ _ _ _ _ us hl=>el2 us hl fun _ _=>rfl) (fun vs H Q E h=>?_) (fun f cdv A outer s H vs Q E hr h=>?_)
 ·obtain ⟨a,m,F,rfl,_⟩:=h
  rfl
 obtain ⟨a,m,F,rfl,hF,hm,hl,q⟩:=h
 refine ⟨_,(Z0a (qG 2 O1Z.nd (qA K 0))
  (Z0b (Z0n (Z0y (r:=rSlA K) Z0P (pvF 2) (Z0D (Z0h Z1n (qL T.z_len (qI (pvF 2))) (pvF 1))) Z0E)))),?_⟩
 walk_at "rd"
 obtain ⟨sa,ta,h1,h2,h3⟩:=hF
 refine ⟨_,h1,_,ix3,ta,rfl,_,.inr h3,ta,_,rfl,h3,fun p H' s' hp=>q p H' s' ?_⟩
 rw [show ((F.st.length:Int) - (m:Int))=((F.st.length - m:Nat):Int) by omega,Z2c] at hp
 exact hp
theorem J4W (T:Txt P w K mg O0b O0a O0c):HasM P w K mg base 1 O0a "end" ["self","told"] (Z7Z O0a O0b K):=by
 refine HasM.of T.O2K Z4O (fun _ _ _ _ _ _ us hl=>el2 us hl fun _ _=>rfl) (fun vs H Q E h=>?_) (fun f cdv A outer s H vs Q E hr h=>?_)
 ·obtain ⟨ex,o,P,s,a,e,rfl,_⟩:=h
  rfl
 obtain ⟨ex,o,P',s',a,e,rfl,M,he,q⟩:=h
 refine ⟨_,(Z0a (Z1v (pvF 0) (pvF 1) rfl)
  (Z0b (Z1v (pvF 0) (Z0s Z0N) rfl))),?_⟩
 walk_at "rd"
 obtain ⟨e0,hx,he0⟩:=M.ins
 refine ⟨O0a,o.dx,_,hx,T.Machine.cl,T.O0O,Z4I,fun p hp=>?_⟩
 rw [J1L] at hp ⊢
 obtain ⟨M1,k1⟩:=M.ends he hp
 have nx:o.x≠p:=Z0m Z0d hp
 refine ⟨O0a,o.dx,_,(by rw [Z0e nx]; exact Z0d),T.Machine.cl,T.O0d,Z4I,?_⟩
 rw [Z8v]
 exact q p _ k1 M1
theorem J1h (T:Txt P w K mg O0b O0a O0c):HasM P w K mg base 1 O0a "told_answer" ["self","value"] (Z7e O0a O0b K):=by
 refine HasM.of T.O1A Z2P (fun _ _ _ _ _ _ us hl=>el2 us hl fun _ _=>rfl) (fun vs H Q E h=>?_) (fun f cdv A outer s H vs Q E hr h=>?_)
 ·obtain ⟨ex,o,P,s,v,x,e,rfl,_⟩:=h
  rfl
 obtain ⟨ex,o,P',s',v,x,e,rfl,M,hv,hm,he,q⟩:=h
 refine ⟨_,(Z0a (Z0t (Z3m (Z1R (r:=rIsi K) J1j rfl T.O2b Z3A (qJ (pvF 1) (J0x (v:=.ty "tuple") rfl T.O1y Z2p rfl)))) (Z0b (Z0n (Z0k (qJ Z0g (qC K (qD K (qO 0) (qA K 1)) Z0c))))) Z0o)
  (Z0b (Z0n (Z0k (qJ Z0g (pvF 1)))))),?_⟩
 walk_at "rd"
 have val:∀ {A:Prop} {v:V} {x:AV},AtV K H v x→e=.val x→(if false=true then A else ∀ (p:y8),H p=none→Q (V.ref p) (upd H p (HO.tup [V.str "value",v]))):=fun hv e1=>by
  subst e1
  rw [if_neg qQ]
  exact fun p hp=>q p _ (Z0f hp _) ⟨_,SqT.of Z0d,AtV.t hv (Same.t (Z0f hp _))⟩
 cases x with
 | non=>cases he; have hv':=hv; obtain rfl:v=.non:=hv; exact ⟨_,_,_,_,_,rfl,rfl,.non,Z5x,false,rfl,val hv' rfl⟩
 | bl b=>cases he; have hv':=hv; obtain rfl:v=.bl b:=hv; exact ⟨_,_,_,_,_,rfl,rfl,.bl b,Z4R,false,rfl,val hv' rfl⟩
 | int i=>cases he; have hv':=hv; obtain ⟨rfl,_⟩:=hv; exact ⟨_,_,_,_,_,rfl,rfl,.int i,Z5n,false,rfl,val hv' rfl⟩
 | th k=>
  obtain ⟨t,rfl,ht,hk⟩:=hv
  obtain ⟨tt,htt,rfl⟩:=qb6.mp he
  obtain ⟨e0,hx,he0⟩:=M.ins
  obtain ⟨ms,m1,m2⟩:=M.mad
  obtain ⟨y,hy,e1,ia,inner,rfl,q1,q2,q3⟩:=Pd.at m2 htt
  refine J4c ht ⟨true,rfl,?_⟩
  rw [if_pos rfl]
  exact ⟨O0a,o.dx,_,hx,T.Machine.cl,T.O0k,_,Z2T,t,rfl,_,SqT.of ht,_,ix1,o.md,rfl,k,rfl,ms,SqL.of m1,_,Z0C hy,e1,rfl,_,q1,_,ix0,fun p hp=>q p _ (Z0f hp _) ⟨SqT.of Z0d,hm tt (qb9 htt)⟩⟩
theorem J0O (T:Txt P w K mg O0b O0a O0c) (O0G:HasM P w K mg base 1 O0a "told_answer" ["self","value"] (Z7e O0a O0b K)) (O0l:HasM P w K mg base 1 O0a "end" ["self","told"] (Z7Z O0a O0b K)):HasM P w K mg base 2 O0a "go_back" ["self","frame"] (Z5X O0a O0b K):=by
 refine HasM.of T.O1T O0p (fun _ _ _ _ _ _ us hl=>el2 us hl fun _ _=>rfl) (fun vs H Q E h=>?_) (fun f cdv A outer s H vs Q E hr h=>?_)
 ·obtain ⟨ex,o,P,s,a,n,f,fs,s',rfl,_⟩:=h
  rfl
 obtain ⟨ex,o,P',s',a,n,fr,fs,s2,rfl,M,top,hrow,q⟩:=h
 refine ⟨_,(Z0a (qG 2 O0p.nd (qC K (qA K 1) qN))
  (Z0a (Z0j (Z5f qa6 qk2 qk3 Z7i (qO 0)))
  (Z0b (Z0t (qM (r:=rEqD K) (Z3W hr.units) (qO 0) (Z0s Z0N)) (Z0b (Z0j (Z0V (pvF 0) T.Machine.cl O0l hr qQ (qI (Z0V (pvF 0) T.Machine.cl O0G hr qQ (qI (pvF 2))))))) (Z0a (Z1l (qD K (qO 0) qN) (Z1X (n:=4) rfl (Z0p (qH 3 O0p.nd) (Z0p (qH 4 O0p.nd) (Z0p (qH 5 O0p.nd) (Z0p (qH 6 O0p.nd) Z1W))))))
  (Z0b (Z1l (Z0k (Z0r (pvF 3) (qK (pvF 4) (pvF 5) (Z0h (r:=Z2k K) Z0T (pvF 6) (Z0k (qI (pvF 2))))))) (Z3p (qO 0) qN Z1o)))))))),?_⟩
 refine seq3 fun u2 hu2 u1 hu1=>?_
 walk_at "rd"
 obtain ⟨ss,a',hsk,hss,hfa⟩:=M.top top.fr
 obtain ⟨e0,hx,he0⟩:=M.ins
 obtain ⟨v,st,hst⟩:=J3L hrow
 obtain ⟨F,sa,ta,h1,h2,h3,e1,e2,hsl,hstk,l1,l2⟩:=top.at_.st
 rw [hst,qa5] at hstk
 obtain ⟨sv,vv,esv,hst',hv⟩:=Pd.snoc_inv hstk
 rw [esv] at h3
 refine ⟨_,h1,_,ix3,ta,rfl,_,h3,_,Z0F sv vv,?_⟩
 subst hu1
 walk_at "rd"
 refine ⟨O0a,o.dx,_,hx,T.Machine.cl,T.O0d,_,Z0M,.inl ⟨rfl,_,SqL.of hsk⟩,o.sk,rfl,_,hsk,_,by simp; rfl,?_⟩
 rw [qk4]
 obtain ⟨M1,k1⟩:=M.frames (fr:=fs) (ss':=ss) hss
 obtain ⟨e3,hx1,_⟩:=M1.ins
 subst hu2
 walk_at "rd"
 refine ⟨O0a,o.dx,_,hx1,T.Machine.cl,T.O0d,_,Z0M,fun p hp=>?_⟩
 have sp:=Z0f hp (.lst [])
 have M2:=M1.same sp
 obtain ⟨ss2,b1,b2⟩:=M2.stk
 obtain ⟨d,rd,sd,ev⟩:=J4i (SqL.of b1) b2
 refine ⟨d,rd,_,J4t Z0d,sd,Z8J,?_⟩
 rw [ev]
 have K2:=k1.trans (M1.keepS sp)
 obtain ⟨e4,hx3,_⟩:=M2.ins
 clear sp hp M1 hx1 k1 rd sd ev
 generalize upd (upd H o.sk (.lst ss)) p (.lst [])=H2 at *
 cases fs with
 | nil=>
  refine iteT ?_
  obtain ⟨e,he,rfl⟩:=J1W hrow hst
  exact ⟨o.dx,_,hx3,rfl,o.dx,_,hx3,rfl,ex,o,P',_,vv,v,e,rfl,M2,AtV.t hv K2.t,fun t ht=>by have:=top.sz.mi t ht; omega,he,fun a4 H4 s4 he4=>⟨ex,o,P',_,a4,e,rfl,M2.same s4,he4,fun q' H5 k5 M5=>q { o with sk:=q' } _ rfl (K2.trans ((M2.keepS s4).trans k5)) M5⟩⟩
 | cons g gs=>
  have:(g::gs).reverse.isEmpty=false:=by simp
  rw [show ({ s' with frames:=g::gs }:MS).frames.reverse.isEmpty=false from this,if_neg qQ]
  obtain ⟨ss3,ag,c1,c2,c3⟩:=M2.top rfl
  obtain ⟨G,sg,tg,g1,g2,g3,g4,g5,g6,g7,g8,g9⟩:=c3.st
  have lg:=top.sz.fr g (by rw [top.fr]; exact qb1 _ qb5)
  have nn:=top.nn
  refine ⟨O0a,o.dx,_,hx3,T.Machine.cl,T.O0d,_,Z0M,o.sk,rfl,_,SqL.of c1,_,Z0F ss3 _,ag,rfl,_,g1,rfl,_,_,rfl,_,_,rfl,_,_,rfl,_,_,rfl,rfl,fun p hp=>?_⟩
  have s1:=Z0f hp (.tup [vv])
  refine ⟨tg,p,_,_,rfl,rfl,g3.same s1,SqT.of Z0d,by rw [g8,sizeLine_eq]; show _+1≤_; omega,fun p3 H3 s3 hp3 p4 hp4=>?_⟩
  have s4:=Z0f hp4 (.tup [.int g.n,.int g.pc,.ref sg,.ref p3])
  have S:=s1.trans (s3.trans s4)
  have M4:=M2.same S
  obtain ⟨e5,hx5,_⟩:=M4.ins
  have c1':=S _ _ c1
  refine ⟨O0a,o.dx,_,hx5,T.Machine.cl,T.O0d,_,Z0M,o.sk,rfl,_,c1',_,Z7X (by simp),?_⟩
  rw [Z4f]
  have hf:FrV K (upd H3 p4 (.tup [.int g.n,.int g.pc,.ref sg,.ref p3])) (.ref p4) { g with st:=v::g.st }:=
   ⟨p4,rfl,⟨.int g.n,g.pc,G.sl,G.st++[vv]⟩,⟨sg,p3,SqT.of Z0d,g2.same S,hp3.same s4⟩,rfl,rfl,AtVs.t g6 (Same.t S),by
    show AtVs K _ (G.st++[vv]) (v::g.st).reverse
    rw [qa5]
    exact Pd.app (AtVs.t g7 (Same.t S)) (.cons (AtV.t (AtV.t hv K2.t) (Same.t S)) .nil)⟩
  obtain ⟨M5,k5⟩:=M4.frames (fr:={ g with st:=v::g.st }::gs) (ss':=ss3++[.ref p4]) (by
   rw [qa5]
   exact Pd.app (Pd.imp (fun _ _ q=>FrV.t q (Same.t S)) c2) (.cons hf .nil))
  rw [Z9f hrow hst] at q
  exact q o _ rfl (K2.trans ((M2.keepS S).trans k5)) M5
end
section
theorem J0r (T:Txt P w K mg O0b O0a O0c) (O0l:HasM P w K mg base 1 O0a "end" ["self","told"] (Z7Z O0a O0b K)) (O0q:Has P w K mg base 1 "uppermost" ["frame","many"] (Z8S K)) (O0P:Has P w K mg base 1 "entered" ["block","number","values"] (Z3M K)):HasM P w K mg base 2 O0a "enter" ["self","block","many","frame"] (Z5U O0a O0b K):=by
 refine HasM.of T.O2r O0B (fun _ _ _ _ _ _ us hl=>el4 us hl fun _ _ _ _=>rfl) (fun vs H Q E h=>?_) (fun f cdv A outer s H vs Q E hr h=>?_)
 ·obtain ⟨ex,o,P,s,a,block,many,n,f,fs,s',rfl,_⟩:=h
  rfl
 obtain ⟨ex,o,P',s',a,block,many,n,fr,fs,s2,rfl,M,top,hrow,q⟩:=h
 refine ⟨_,(Z0a (Z0t (qM J7c (qO 0) (qO 0)) (Z0a (Z0j (Z0V (pvF 0) T.Machine.cl O0l hr qQ (qI (Z0k (qI Z0g)))))
  (Z0b Z4p)) Z0o)
  (Z0a (Z3b (pvF 0) Z0c Z5t)
  (Z0a (Z0t (qM Z8F (qL T.z_len (qI (qO 0))) (Z6c T.c_MOST_WITHIN rfl)) (Z0a (Z0j (Z0V (pvF 0) T.Machine.cl O0l hr qQ (qI (Z0k (qI Z0g)))))
  (Z0b Z4p)) Z0o)
  (Z0a (Z1l (pvF 3) (Z1X (n:=4) rfl (Z0p (qH 4 O0B.nd) (Z0p (qH 5 O0B.nd) (Z0p (qH 6 O0B.nd) (Z0p (qH 7 O0B.nd) Z1W))))))
  (Z0a (Z1l (Z0k (Z0r (pvF 4) (qK (Z0h Z0x (pvF 5) Z0c) (pvF 6) (Z0y (r:=rSlA K) Z0P (pvF 7) Z0E (Z0D (Z0h Z1n (qL T.z_len (qI (pvF 7))) (pvF 2))))))) (Z3p (qO 0) qN Z1o))
  (Z0b (Z0j (Z1c qa6 qb3 qb4 Z0q (qO 0) (qI (qF O0P hr (qK (qC K (qO 0) (pvF 1)) (pvF 1) (qF O0q hr (qJ (pvF 3) (pvF 2)))))))))))))),?_⟩
 refine seq6 fun u5 hu5 u4 hu4 u3 hu3 u2 hu2 u1 hu1=>?_
 walk_at "rd"
 obtain ⟨e0,hx,he0⟩:=M.ins
 refine ⟨O0a,o.dx,_,hx,T.Machine.cl,T.O0v,_,Z5p,O0a,o.dx,_,hx,T.Machine.cl,T.O1H,_,J3x,_,rfl,_,rfl,?_⟩
 unfold Mach.enter at hrow
 by_cases hd:P'.most≤s'.calls
 ·rw [if_pos (show (P'.most:Int)≤s'.calls by omega)]
  rw [if_pos hd] at hrow
  cases hrow
  exact ⟨o.dx,_,hx,rfl,fun p hp=>⟨ex,o,P',s',p,.dry,rfl,M.same (Z0f hp _),SqT.of Z0d,fun q' H5 k5 M5=>q { o with sk:=q' } _ rfl ((M.keepS (Z0f hp _)).trans k5) M5⟩⟩
 rw [if_neg (show ¬ (P'.most:Int)≤s'.calls by omega)]
 rw [if_neg hd] at hrow
 subst hu1
 walk_at "rd"
 refine ⟨O0a,o.dx,_,hx,T.Machine.cl,T.O0v,_,Z5p,_,rfl,o.dx,_,hx,Z4I,?_⟩
 rw [show ((s'.calls:Int)+1)=((s'.calls+1:Nat):Int) from rfl,J1l]
 obtain ⟨M1,k1⟩:=M.set (s':={ s' with calls:=s'.calls+1 }) (e:=e0) rfl rfl (qa0 _) rfl he0
 change MAt O0a O0b K ex o P' { s' with calls:=s'.calls+1 } (upd H o.x (.ins O0a o.dx (fsM o P' e0 (s'.calls+1) s'.looks s'.hits s'.rows))) at M1
 change Keep ex H (upd H o.x (.ins O0a o.dx (fsM o P' e0 (s'.calls+1) s'.looks s'.hits s'.rows))) at k1
 generalize upd H o.x (.ins O0a o.dx (fsM o P' e0 (s'.calls+1) s'.looks s'.hits s'.rows))=H1 at *
 obtain ⟨ss,m1,m2⟩:=M1.stk
 obtain ⟨e1,hx1,he1⟩:=M1.ins
 have ln:ss.length=fs.length+1:=by rw [Paired.length m2,qc2]; show s'.frames.length=_; rw [top.fr]; rfl
 subst hu2
 walk_at "rd"
 refine ⟨O0a,o.dx,_,hx1,T.Machine.cl,T.O0d,_,Z0M,o.sk,rfl,ss,.inl (SqL.of m1),?_⟩
 by_cases hdp:40 < fs.length+1
 ·rw [if_pos (show (40:Int) < ss.length by omega)]
  rw [if_pos hdp] at hrow
  cases hrow
  exact ⟨o.dx,_,hx1,rfl,fun p hp=>⟨ex,o,P',_,p,.deep,rfl,M1.same (Z0f hp _),SqT.of Z0d,fun q' H5 k5 M5=>q { o with sk:=q' } _ rfl (k1.trans ((M1.keepS (Z0f hp _)).trans k5)) M5⟩⟩
 rw [if_neg (show ¬ (40:Int) < ss.length by omega)]
 rw [if_neg hdp] at hrow
 obtain ⟨F,sa,ta,h1,h2,h3,f1,f2,hsl,hstk,l1,l2⟩:=FrIs.st (top.at_.t k1.t)
 have nn:=top.nn
 have lf:=top.sz.fr' top.fr
 have hm:many≤fr.st.length:=by
  by_cases hm:many≤fr.st.length
  ·exact hm
  ·rw [if_neg hm] at hrow; cases hrow
 rw [if_pos hm] at hrow
 obtain ⟨b,hb,hrow⟩:=qc0.mp hrow
 have hbs:many≤b.size:=by
  by_cases hbs:many≤b.size
  ·exact hbs
  ·rw [if_neg hbs] at hrow; cases hrow
 rw [if_pos hbs] at hrow
 have hrow:=qb7 hrow
 subst hrow
 subst hu3
 walk_at "rd"
 refine ⟨_,h1,rfl,_,_,rfl,_,_,rfl,_,_,rfl,_,_,rfl,rfl,?_⟩
 subst hu4
 walk_at "rd"
 refine ⟨_,.inr h3,ta,_,rfl,h3,fun p1 H2 s2 hp1 p2 hp2=>?_⟩
 rw [show ((F.st.length:Int) - (many:Int))=((F.st.length - many:Nat):Int) by omega,Z2B] at hp1
 have s3:=Z0f hp2 (.tup [.int fr.n,.int ((fr.pc:Int)+1),.ref sa,.ref p1])
 have S3:=s2.trans s3
 have M3:=M1.same S3
 obtain ⟨ss3,a3,c1,c2,c3⟩:=M3.top top.fr
 obtain ⟨e3,hx3,_⟩:=M3.ins
 refine ⟨O0a,o.dx,_,hx3,T.Machine.cl,T.O0d,_,Z0M,o.sk,rfl,_,c1,_,Z7X (by simp),?_⟩
 rw [Z4f]
 have hf3:FrV K (upd H2 p2 (.tup [.int fr.n,.int ((fr.pc:Int)+1),.ref sa,.ref p1])) (.ref p2) { fr with pc:=fr.pc+1,st:=fr.st.drop many }:=
  ⟨p2,rfl,⟨.int fr.n,(fr.pc:Int)+1,F.sl,F.st.take (F.st.length - many)⟩,⟨sa,p1,SqT.of Z0d,h2.same S3,hp1.same s3⟩,rfl,rfl,AtVs.t hsl (Same.t S3),by
   show AtVs K _ (F.st.take (F.st.length - many)) (fr.st.drop many).reverse
   rw [qk5,l1]
   exact Pd.take _ (AtVs.t hstk (Same.t S3))⟩
 obtain ⟨M4,k4⟩:=M3.frames (fr:={ fr with pc:=fr.pc+1,st:=fr.st.drop many }::fs) (ss':=ss3++[.ref p2]) (by
  rw [qa5]
  exact Pd.app c2 (.cons hf3 .nil))
 have fr4:FrIs K _ a fr:=((top.at_.t k1.t).t (Same.t S3)).t k4.t
 have K4:=k1.trans ((M1.keepS S3).trans k4)
 have sk4:upd (upd H2 p2 (.tup [.int fr.n,.int ((fr.pc:Int)+1),.ref sa,.ref p1])) o.sk (.lst (ss3++[.ref p2])) o.sk=some (.lst (ss3++[.ref p2])):=Z0d
 have pr4:Paired (FrV K (upd (upd H2 p2 (.tup [.int fr.n,.int ((fr.pc:Int)+1),.ref sa,.ref p1])) o.sk (.lst (ss3++[.ref p2])))) (ss3++[.ref p2]) (fs.reverse++[{ fr with pc:=fr.pc+1,st:=fr.st.drop many }]):=Pd.app (Pd.imp (fun _ _ q=>FrV.t q k4.t) c2) (.cons (FrV.t hf3 k4.t) .nil)
 clear k4 M3 c1 c2 c3 hx3 hf3 hp1 hp2 s2 s3 S3
 generalize upd (upd H2 p2 (.tup [.int fr.n,.int ((fr.pc:Int)+1),.ref sa,.ref p1])) o.sk (.lst (ss3++[.ref p2]))=H4 at *
 obtain ⟨e4,hx4,_⟩:=M4.ins
 obtain ⟨bs,B1,B2⟩:=M4.pr.bl
 obtain ⟨bv,hbv,ba,ra,rs,rfl,B3,B4,B5⟩:=Pd.at B2 hb
 have bsz:=top.psz.bk b (qb9 hb)
 obtain ⟨F4,g1,g2,g3,g4,g5⟩:=fr4
 have lF4:F4.st.length=fr.st.length:=by rw [Paired.length g5,qc2]
 subst hu5
 walk_at "rd"
 refine ⟨O0a,o.dx,_,hx4,T.Machine.cl,T.O0d,_,Z0M,.inl ⟨rfl,_,SqL.of sk4⟩,O0a,o.dx,_,hx4,T.Machine.cl,T.O0C,_,Z6B,o.B,rfl,bs,B1,_,Z0C hbv,?_⟩
 refine ⟨a,many,F4,rfl,g1,qR,qR,fun pu H5 s5 hpu=>?_⟩
 have lxs:(F4.st.drop (F4.st.length - many)).length=many:=by rw [qe5]; omega
 refine ⟨ba,pu,_,_,_,b.size,_,rfl,B3.same s5,.inr hpu,qR,qR,fun p6 H6 s6 hf6=>?_⟩
 have S6:=s5.trans s6
 have M6:=M4.same S6
 refine ⟨o.sk,rfl,_,S6 _ _ sk4,?_,?_⟩
 ·have:=Paired.length pr4
  rw [this,qa1,qc2]
  show fs.length+1 < _
  omega
 have hf6':FrV K H6 (.ref p6) ⟨block,0,(fr.st.take many).reverse++qa3 (b.size - many) .non,[]⟩:=by
  refine ⟨p6,rfl,_,hf6,rfl,rfl,?_,.nil⟩
  show AtVs K H6 (F4.st.drop (F4.st.length - many)++qa3 (b.size - (F4.st.drop (F4.st.length - many)).length) V.non) _
  rw [lxs,qh7,← lF4]
  refine Pd.app (Pd.drop _ (AtVs.t g5 (Same.t S6))) ?_
  have:∀ k,AtVs K H6 (qa3 k V.non) (qa3 k AV.non):=fun k=>by
   induction k with
   | zero=>exact .nil
   | succ k ih=>exact .cons rfl ih
  exact this _
 obtain ⟨M7,k7⟩:=M6.frames (fr:=⟨block,0,(fr.st.take many).reverse++qa3 (b.size - many) .non,[]⟩::{ fr with pc:=fr.pc+1,st:=fr.st.drop many }::fs) (ss':=ss3++[.ref p2]++[.ref p6]) (by
  rw [qa5,qa5]
  exact Pd.app (Pd.imp (fun _ _ q=>FrV.t q (Same.t S6)) pr4) (.cons hf6' .nil))
 exact q o _ rfl (K4.trans ((M4.keepS S6).trans k7)) M7
end
section
theorem J0R (T:Txt P w K mg O0b O0a O0c) (O0q:Has P w K mg base 1 "uppermost" ["frame","many"] (Z8S K)) (O1k:HasM P w K mg base 2 O0b "asked" ["self","site","house"] (Z7p O0b)) (O1B:HasM P w K mg base 2 O0b "put" ["self","site","house","block"] (J2L O0b)):HasM P w K mg base 3 O0a "found_block" ["self","site","word","many","frame"] (Z5Y O0a O0b K):=by
 refine HasM.of T.O1z O0t (fun _ _ _ _ _ _ us hl=>el5 us hl fun _ _ _ _ _=>rfl) (fun vs H Q E h=>?_) (fun f cdv A outer s H vs Q E hr h=>?_)
 ·obtain ⟨ex,o,P,s,a,site,word,many,n,k,f,fs,rest,t,b,s',rfl,_⟩:=h
  rfl
 obtain ⟨ex,o,P',s',a,site,word,many,n,k,fr,fs,rest,t,b,s2,rfl,M,top,hst,lm,hmk,hrow,q⟩:=h
 refine ⟨_,(Z0a (qG 5 O0t.nd (qC K (qD K (qO 0) (qC K (qC K (qF O0q hr (qJ (pvF 4) (pvF 3))) Z0c) Z0c)) Z0c))
  (Z0a (Z0t (Z3m (qO 0)) (Z0a (qG 6 O0t.nd (Z0V (qO 0) T.Places.cl O1k hr qQ (qJ (pvF 1) (pvF 5))))
  (Z0b (Z0t (qM Z3S (pvF 6) Z1d) (Z0a (Z3b (pvF 0) Z0c Z5t)
  (Z0b (Z0n (pvF 6)))) Z0o))) Z0o)
  (Z0a (Z3b (pvF 0) Z0c Z5t)
  (Z0a (qG 7 O0t.nd (qC K (qC K (qO 0) (pvF 5)) (pvF 2)))
  (Z0a (Z0t (Z3m (qO 0)) (Z0b (Z0j (Z0V (qO 0) T.Places.cl O1B hr qQ (qK (pvF 1) (pvF 5) (pvF 7))))) Z0o)
  (Z0b (Z0n (pvF 7)))))))),?_⟩
 refine seq6 fun u5 hu5 u4 hu4 u3 hu3 u2 hu2 u1 hu1=>?_
 walk_at "rd"
 obtain ⟨e0,hx,he0⟩:=M.ins
 obtain ⟨F,g1,g2,g3,g4,g5⟩:=top.at_
 have lF:F.st.length=fr.st.length:=by rw [Paired.length g5,qc2]
 have nn:=top.nn
 have lf:=top.sz.fr' top.fr
 refine ⟨O0a,o.dx,_,hx,T.Machine.cl,T.O0k,_,Z2T,a,many,F,rfl,g1,qR,qR,fun pu H1 s1 hpu=>?_⟩
 have hxs:AtVs K H1 (F.st.drop (F.st.length - many)) (.th k::rest):=by
  rw [← hst,qh7,← lF]
  exact Pd.drop _ (AtVs.t g5 (Same.t s1))
 have M1:=M.same s1
 have k1:=M.keepS s1
 generalize F.st.drop (F.st.length - many)=xs at *
 cases hxs with
 | cons hth hrest=>
 obtain ⟨th,rfl,hth,_⟩:=hth
 obtain ⟨ms,m1,m2⟩:=M1.mad
 obtain ⟨y,hy,ye,ia,inner,rfl,q1,q2,q3⟩:=Pd.at m2 hmk
 obtain ⟨e1,hx1,he1⟩:=M1.ins
 refine ⟨pu,rfl,_,hpu,_,ix0,th,rfl,_,SqT.of hth,_,ix1,o.md,rfl,k,rfl,ms,SqL.of m1,_,Z0C hy,ye,rfl,_,q1,_,ix0,?_⟩
 subst hu1
 walk_at "rd"
 refine ⟨O0a,o.dx,_,hx1,T.Machine.cl,T.O0z,_,J0h,_,rfl,?_⟩
 cases hrem:P'.rem with
 | false=>
  rw [if_neg qQ]
  subst hu2
  walk_at "rd"
  unfold Mach.found at hrow
  simp only [hrem,ql5,if_false] at hrow
  obtain ⟨b',hb',e2⟩:=qb6.mp hrow
  obtain ⟨rfl,rfl⟩:=Prod.mk.inj e2
  obtain ⟨tl,htl,hb2⟩:=qc0.mp hb'
  obtain ⟨M2,k2⟩:=M1.set (s':={ s' with looks:=s'.looks+1 }) (e:=e1) rfl rfl (by show _≤s'.looks+1+s'.hits; omega) rfl he1
  refine ⟨O0a,o.dx,_,hx1,T.Machine.cl,T.O0w,_,Z5z,_,rfl,o.dx,_,hx1,Z4I,?_⟩
  rw [show ((s'.looks:Int)+1)=((s'.looks+1:Nat):Int) from rfl,Z7d]
  change MAt O0a O0b K ex o P' { s' with looks:=s'.looks+1 } (upd H1 o.x (.ins O0a o.dx (fsM o P' e1 s'.calls (s'.looks+1) s'.hits s'.rows))) at M2
  change Keep ex H1 (upd H1 o.x (.ins O0a o.dx (fsM o P' e1 s'.calls (s'.looks+1) s'.hits s'.rows))) at k2
  generalize upd H1 o.x (.ins O0a o.dx (fsM o P' e1 s'.calls (s'.looks+1) s'.hits s'.rows))=H2 at *
  obtain ⟨ts,T1,T2⟩:=M2.pr.tb
  obtain ⟨tv,htv,ta,rfl,T3⟩:=Pd.at T2 htl
  obtain ⟨e2,hx2,he2⟩:=M2.ins
  have hw:(tl.map tabV)[word]?=some (.int b'):=by
   rw [qc8]
   obtain ⟨z,hz⟩:∃ z,tl[word]?=some z:=by cases h:tl[word]? with
    | none=>rw [h] at hb2; cases hb2
    | some z=>exact ⟨z,rfl⟩
   rw [hz] at hb2 ⊢
   cases hb2; rfl
  subst hu3
  walk_at "rd"
  refine ⟨O0a,o.dx,_,hx2,T.Machine.cl,T.O0D,_,Z5Q,o.TT,rfl,ts,T1,_,Z0C htv,ta,rfl,_,T3,_,Z0C hw,?_⟩
  subst hu4
  walk_at "rd"
  refine ⟨O0a,o.dx,_,hx2,T.Machine.cl,T.O0z,_,J0h,_,rfl,?_⟩
  rw [hrem,if_neg qQ]
  subst hu5
  walk_at "rd"
  exact q H2 (k1.trans k2) M2
 | true=>
  rw [if_pos rfl]
  have rep1:=M1.rep
  have plc1:=M1.plc
  refine ⟨O0a,o.dx,_,hx1,T.Machine.cl,T.O0U,_,Z6r,o.pl,rfl,o.dp,_,M1.plc,rfl,?_⟩
  have lh:=top.sz.lh
  refine ⟨o.pl,o.dp,o.pd,site,t.1,_,_,s'.mem,rfl,M1.plc,M1.rep,M1.hid,qR,(top.sz.mm site).1,fun e H3 s3=>?_,fun p r e H3 s3 r3=>?_⟩
  ·try dsimp only
   rw [if_neg (by simp)]
   subst hu2
   walk_at "rd"
   have M3:=M1.same s3
   have k3:=k1.trans (M1.keepS s3)
   obtain ⟨e3,hx3,he3⟩:=M3.ins
   unfold Mach.found at hrow
   simp only [hrem,if_true] at hrow
   rw [e] at hrow
   simp only at hrow
   obtain ⟨b',hb',e2⟩:=qb6.mp hrow
   obtain ⟨rfl,rfl⟩:=Prod.mk.inj e2
   obtain ⟨tl,htl,hb2⟩:=qc0.mp hb'
   obtain ⟨M4,k4⟩:=M3.set (s':={ s' with looks:=s'.looks+1 }) (e:=e3) rfl rfl (by show _≤s'.looks+1+s'.hits; omega) rfl he3
   have rep4:=M3.rep' (.ins O0a o.dx (fsM o P' e3 s'.calls (s'.looks+1) s'.hits s'.rows))
   refine ⟨O0a,o.dx,_,hx3,T.Machine.cl,T.O0w,_,Z5z,_,rfl,o.dx,_,hx3,Z4I,?_⟩
   rw [show ((s'.looks:Int)+1)=((s'.looks+1:Nat):Int) from rfl,Z7d]
   change MAt O0a O0b K ex o P' { s' with looks:=s'.looks+1 } (upd H3 o.x (.ins O0a o.dx (fsM o P' e3 s'.calls (s'.looks+1) s'.hits s'.rows))) at M4
   change Keep ex H3 (upd H3 o.x (.ins O0a o.dx (fsM o P' e3 s'.calls (s'.looks+1) s'.hits s'.rows))) at k4
   generalize upd H3 o.x (.ins O0a o.dx (fsM o P' e3 s'.calls (s'.looks+1) s'.hits s'.rows))=H4 at *
   obtain ⟨ts,T1,T2⟩:=M4.pr.tb
   obtain ⟨tv,htv,ta,rfl,T3⟩:=Pd.at T2 htl
   obtain ⟨e4,hx4,he4⟩:=M4.ins
   have hw:(tl.map tabV)[word]?=some (.int b'):=by
    rw [qc8]
    obtain ⟨z,hz⟩:∃ z,tl[word]?=some z:=by cases h:tl[word]? with
     | none=>rw [h] at hb2; cases hb2
     | some z=>exact ⟨z,rfl⟩
    rw [hz] at hb2 ⊢
    cases hb2; rfl
   subst hu3
   walk_at "rd"
   refine ⟨O0a,o.dx,_,hx4,T.Machine.cl,T.O0D,_,Z5Q,o.TT,rfl,ts,T1,_,Z0C htv,ta,rfl,_,T3,_,Z0C hw,?_⟩
   subst hu4
   walk_at "rd"
   refine ⟨O0a,o.dx,_,hx4,T.Machine.cl,T.O0z,_,J0h,_,rfl,?_⟩
   rw [hrem,if_pos rfl]
   refine ⟨O0a,o.dx,_,hx4,T.Machine.cl,T.O0U,_,Z6r,o.pl,rfl,o.dp,_,M4.plc,rfl,?_⟩
   refine ⟨o.pl,o.dp,o.pd,site,t.1,b',_,_,s'.mem,rfl,M4.plc,rep4,M4.hid,qR,(top.sz.mm site).1,fun H5 s5 r5=>?_⟩
   subst hu5
   walk_at "rd"
   obtain ⟨M5,k5⟩:=M4.mem s5 r5 (by show _≤s'.looks+1+s'.hits; omega)
   exact q H5 (k3.trans (k4.trans k5)) M5
  ·try dsimp only
   rw [if_pos (by simp)]
   obtain ⟨kvs,hk⟩:=M1.pdk
   have hx3:=s3 _ _ (Z0J hx1 hk (fun z=>by cases z)) hx1
   unfold Mach.found at hrow
   simp only [hrem,if_true] at hrow
   rw [e] at hrow
   simp only at hrow
   obtain ⟨rfl,rfl⟩:=Prod.mk.inj (qb7 hrow)
   have p0:0≤p.2:=(top.sz.mm site).2 p (qd8.mp (show p∈seen (getP s'.mem site) t.1 by rw [e]; exact qb5)).1
   refine ⟨O0a,o.dx,_,hx3,T.Machine.cl,T.O0M,_,J0H,_,rfl,o.dx,_,hx3,Z4I,?_⟩
   rw [show ((s'.hits:Int)+1)=((s'.hits+1:Nat):Int) from rfl,J3o]
   rw [e] at r3
   obtain ⟨M4,k4⟩:=M1.mem2 (s':={ s' with hits:=s'.hits+1,mem:=updM s'.mem site (p::r++Z0v (getP s'.mem site) t.1) }) (e:=e1) s3 r3 rfl rfl (by show s'.looks+(s'.hits+1)=_; omega) he1
   rw [show p.2=((p.2.toNat:Nat):Int) by omega]
   exact q _ (k1.trans k4) M4
end
theorem Z6M (sl:List V) (i:Nat) (v:V) (h:i < sl.length):sl.set i v=sl.take i++[v]++sl.drop (i+1):=by
 rw [qm5,if_pos h,qc7]
 rfl
theorem J0i {P:Mach.Prog} {s s2:MS} {f:AFr} {fs:List AFr} {pl:Nat} (h:Mach.rowM P s f fs (.put pl)=some s2):∃ v k st t,f.st=v::.th k::st∧s.made[k]?=some t∧pl < t.2.length∧s2={ s with made:=s.made.set k (t.1,t.2.set pl v),frames:={ f with pc:=f.pc+1,st:=v::st }::fs }:=by
 simp only [Mach.rowM] at h
 split at h
 ·rename_i v k st e
  obtain ⟨t,ht,h⟩:=qc0.mp h
  split at h
  ·rename_i hl
   exact ⟨v,k,st,t,e,ht,hl,(qb7 h).symm⟩
  ·cases h
 ·cases h
theorem Z7S {P:Mach.Prog} {s s2:MS} {f:AFr} {fs:List AFr} {hh m:Nat} (h:Mach.rowM P s f fs (.make hh m)=some s2):m≤f.st.length∧s2={ s with made:=s.made++[(hh,(f.st.take m).reverse)],frames:={ f with pc:=f.pc+1,st:=.th s.made.length::f.st.drop m }::fs }:=by
 simp only [Mach.rowM] at h
 split at h
 ·rename_i hm
  exact ⟨hm,(qb7 h).symm⟩
 ·cases h
theorem Z5H {P:Mach.Prog} {s s2:MS} {f:AFr} {fs:List AFr} {row:Row} (hi:Z8L row=true) (h:Mach.rowM P s f fs row=some s2):∃ o,Mach.own f s.made row=some o∧((∃ f',o=.inl f'∧s2={ s with frames:=f'::fs })∨∃ e,o=.inr e∧s2=Mach.ends s e):=by
 have key:∀ {o:Option (AFr ⊕ Mach.End)},(o.map fun o=>match o with | .inl f'=>({ s with frames:=f'::fs }:MS) | .inr e=>Mach.ends s e)=some s2→∃ x,o=some x∧((∃ f',x=.inl f'∧s2={ s with frames:=f'::fs })∨∃ e,x=.inr e∧s2=Mach.ends s e):=fun h=>by
  obtain ⟨x,hx,e⟩:=qb6.mp h
  cases x with
  | inl g=>exact ⟨_,hx,.inl ⟨g,rfl,e.symm⟩⟩
  | inr g=>exact ⟨_,hx,.inr ⟨g,rfl,e.symm⟩⟩
 cases row <;> first | (cases hi; done) | exact key h
theorem Z8O {K:y9} {vs:List V} {H:Hp} {Q Q':VK} {E:XK} (h:Z5c K vs H Q' E) (i:∀ v H',Q' v H'→Q v H'):Z5c K vs H Q E:=by
 obtain ⟨r,a,tl,nm,args,F,e,h1,h2,h3,h4,h5⟩:=h
 refine ⟨r,a,tl,nm,args,F,e,h1,h2,h3,h4,?_⟩
 rcases h5 with ⟨sg,st,x,y,rr,b1,b2,b3,b4,b5⟩ | ⟨F',b1,b2⟩
 ·exact .inl ⟨sg,st,x,y,rr,b1,b2,b3,fun why p q' H' c1 c2 c3 c4=>i _ _ (b4 why p q' H' c1 c2 c3 c4),fun v p f' H' c1 c2 c3 c4=>i _ _ (b5 v p f' H' c1 c2 c3 c4)⟩
 ·exact .inr ⟨F',b1,fun p f' H' c1 c2 c3=>i _ _ (b2 p f' H' c1 c2 c3)⟩
section
theorem J3u (T:Txt P w K mg O0b O0a O0c) (O0q:Has P w K mg base 1 "uppermost" ["frame","many"] (Z8S K)) (O0A:Has P w K mg base 1 "behind" ["frame","many","value"] (Z2Q K)):HasM P w K mg base 2 O0a "set_field" ["self","place","frame"] (Z9c O0a O0b K):=by
 refine HasM.of T.O1L O0r (fun _ _ _ _ _ _ us hl=>el3 us hl fun _ _ _=>rfl) (fun vs H Q E h=>?_) (fun f cdv A outer s H vs Q E hr h=>?_)
 ·obtain ⟨ex,o,P,s,a,pl,n,f,fs,s',rfl,_⟩:=h
  rfl
 obtain ⟨ex,o,P',s',a,pl,n,fr,fs,s2,rfl,M,top,hrow,q⟩:=h
 refine ⟨_,(Z0a (Z1l (qF O0q hr (qJ (pvF 2) Z0c)) (Z1X (n:=2) rfl (Z0p (qH 3 O0r.nd) (Z0p (qH 4 O0r.nd) Z1W))))
  (Z0a (Z1l (qD K (qO 0) (qA K 3)) (Z1X (n:=2) rfl (Z0p (qH 5 O0r.nd) (Z0p (qH 6 O0r.nd) Z1W))))
  (Z0a (Z1l (Z0k (qJ (pvF 5) (Z0h (r:=Z2k K) Z0T (Z0h (r:=Z2k K) Z0T (Z0y (r:=rSlA K) Z0P (pvF 6) Z0E (Z0D (pvF 1))) (Z0k (qI (pvF 4)))) (Z0y (r:=rSlA K) Z0P (pvF 6) (Z0D (Z0h Z0x (pvF 1) Z0c)) Z0E)))) (Z3p (qO 0) (qA K 3) Z1o))
  (Z0b (Z1l (qF O0A hr (qK (pvF 2) Z0c (pvF 4))) (Z3p (qO 0) qN Z1o)))))),?_⟩
 refine seq4 fun u3 hu3 u2 hu2 u1 hu1=>?_
 walk_at "rd"
 obtain ⟨v,k,st,t,hst,hmk,hpl,rfl⟩:=J0i hrow
 obtain ⟨F,g1,g2,g3,g4,g5⟩:=top.at_
 have lF:F.st.length=fr.st.length:=by rw [Paired.length g5,qc2]
 have nn:=top.nn
 have lf:=top.sz.fr' top.fr
 have l2:fr.st.length=st.length+2:=by rw [hst]; rfl
 refine ⟨a,2,F,rfl,g1,qR,qR,fun pu H1 s1 hpu=>?_⟩
 have M1:=M.same s1
 have g5':=AtVs.t g5 (Same.t s1)
 rw [hst,qa5,qa5] at g5'
 obtain ⟨sv,vv,e1,g6,hv⟩:=Pd.snoc_inv g5'
 obtain ⟨su,tv,e2,g7,hth⟩:=Pd.snoc_inv g6
 subst e2
 have ed:F.st.drop (F.st.length - 2)=[tv,vv]:=by
  rw [e1,qa1,qa1]
  show qe4 (su.length+1+1 - 2) _=_
  rw [show su.length+1+1 - 2=su.length by omega,qc7,List.drop_left' rfl]
  rfl
 rw [ed] at hpu
 obtain ⟨th,rfl,hth,_⟩:=hth
 obtain ⟨ms,m1,m2⟩:=M1.mad
 obtain ⟨y,hy,ye,ia,inner,rfl,q1,q2,q3⟩:=Pd.at m2 hmk
 obtain ⟨e3,hx1,he1⟩:=M1.ins
 have lin:inner.length=t.2.length:=Paired.length q3
 have lms:ms.length=s'.made.length:=Paired.length m2
 have hti:=top.sz.mi t (qb9 hmk)
 have hk:k < s'.made.length:=(qa9.mp hmk).1
 refine ⟨pu,rfl,_,hpu,rfl,_,_,rfl,_,_,rfl,rfl,?_⟩
 subst hu1
 walk_at "rd"
 refine ⟨O0a,o.dx,_,hx1,T.Machine.cl,T.O0k,_,Z2T,_,SqT.of hth,_,ix1,o.md,rfl,k,rfl,ms,SqL.of m1,_,Z0C hy,ye,rfl,_,q1,rfl,_,_,rfl,_,_,rfl,rfl,?_⟩
 subst hu2
 walk_at "rd"
 refine ⟨ia,_,rfl,q2,fun p1 H2 s2 hp1 p2 hp2=>?_⟩
 have s3:=Z0f hp2 (.tup [vv])
 rw [Z2B] at hp1
 refine ⟨p1,p2,_,_,rfl,rfl,hp1.same s3,SqT.of Z0d,by rw [qc4,sizeLine_eq]; show _+1≤_; omega,fun p3 H3 s4 hp3=>?_⟩
 have S3:=s2.trans (s3.trans s4)
 refine ⟨ia,_,rfl,q2.same S3,fun p4 H4 s5 hp4=>?_⟩
 rw [show ((pl:Int)+1)=((pl+1:Nat):Int) from rfl,Z2c] at hp4
 refine ⟨p3,p4,_,_,rfl,rfl,hp3.same s5,hp4,by rw [qa1,qc4,qe5,sizeLine_eq]; show _+1+_≤_; omega,fun p5 H5 s6 hp5 p6 hp6=>?_⟩
 have s7:=Z0f hp6 (.tup [.int t.1,.ref p5])
 have S7:=S3.trans (s5.trans (s6.trans s7))
 have M7:=M1.same S7
 obtain ⟨e7,hx7,he7⟩:=M7.ins
 have m17:=S7 _ _ m1
 refine ⟨O0a,o.dx,_,hx7,T.Machine.cl,T.O0k,_,Z2T,_,SqT.of (S7 _ _ hth),_,ix1,o.md,rfl,k,rfl,ms,m17,k,Z6U qR,?_⟩
 have thv:ThV K (upd H5 p6 (.tup [.int t.1,.ref p5])) (.ref p6) (t.1,t.2.set pl v):=⟨p6,p5,_,rfl,SqT.of Z0d,hp5.same s7,by
  rw [← Z6M inner pl vv qR]
  exact Pd.set (AtV.t hv (Same.t S7)) pl (AtVs.t q3 (Same.t S7))⟩
 obtain ⟨M8,k8⟩:=M7.things (ms':=ms.set k (.ref p6)) (mm:=s'.made.set k (t.1,t.2.set pl v)) (Pd.set thv k (Pd.imp (fun _ _ q=>ThV.t q (Same.t S7)) m2))
 have K8:=(M.keepS s1).trans ((M1.keepS S7).trans k8)
 have fr8:FrIs K _ a fr:=top.at_.t K8.t
 have hv8:=AtV.t hv ((Same.t S7).trans k8.t)
 generalize upd (upd H5 p6 (.tup [.int t.1,.ref p5])) o.md (.lst (ms.set k (.ref p6)))=H8 at *
 obtain ⟨F8,d1,d2,d3,d4,d5⟩:=fr8
 have lF8:F8.st.length=fr.st.length:=by rw [Paired.length d5,qc2]
 subst hu3
 walk_at "rd"
 refine ⟨a,2,vv,F8,rfl,d1,qR,qR,fun p9 H9 s9 hf9=>?_⟩
 have M9:=M8.same s9
 have hf:FrV K H9 (.ref p9) { fr with pc:=fr.pc+1,st:=v::st }:=mkFr hf9 d2 (by show F8.at_+1=_; rw [d3]; rfl) (AtVs.t d4 (Same.t s9)) (by
  show AtVs K H9 (F8.st.take (F8.st.length - 2)++[vv]) (v::st).reverse
  rw [qa5]
  refine Pd.app ?_ (.cons (AtV.t hv8 (Same.t s9)) .nil)
  have:=Pd.take (F8.st.length - 2) (AtVs.t d5 (Same.t s9))
  rw [hst,qa5,qa5,qc7,lF8,l2,qi6,qi7 (by rw [qc2])] at this
  rw [lF8,l2,qi6]
  exact this)
 obtain ⟨xs,j,c1,c2,M10,k10⟩:=M9.put top.fr hf
 obtain ⟨e9,hx9,_⟩:=M9.ins
 exact ⟨O0a,o.dx,_,hx9,T.Machine.cl,T.O0d,_,Z0M,o.sk,rfl,xs,c1,j,c2,q o _ rfl (K8.trans ((M8.keepS s9).trans k10)) M10⟩
theorem J0X (T:Txt P w K mg O0b O0a O0c) (O0q:Has P w K mg base 1 "uppermost" ["frame","many"] (Z8S K)) (O0A:Has P w K mg base 1 "behind" ["frame","many","value"] (Z2Q K)):HasM P w K mg base 2 O0a "make" ["self","house","many","frame"] (Z7T O0a O0b K):=by
 refine HasM.of T.O2A Z4o (fun _ _ _ _ _ _ us hl=>el4 us hl fun _ _ _ _=>rfl) (fun vs H Q E h=>?_) (fun f cdv A outer s H vs Q E hr h=>?_)
 ·obtain ⟨ex,o,P,s,a,h,m,n,f,fs,s',rfl,_⟩:=h
  rfl
 obtain ⟨ex,o,P',s',a,hh,m,n,fr,fs,s2,rfl,M,top,hrow,q⟩:=h
 refine ⟨_,(Z0a (Z0j (Z1c qa6 qb3 qb4 Z0q (qO 0) (qI (Z0k (qJ (pvF 1) (qF O0q hr (qJ (pvF 3) (pvF 2))))))))
  (Z0b (Z1l (qF O0A hr (qK (pvF 3) (pvF 2) (Z0k (qJ Z0g (Z0h Z1n (qL T.z_len (qI (qO 0))) Z0c))))) (Z3p (qO 0) qN Z1o)))),?_⟩
 walk_at "rd"
 obtain ⟨hm,rfl⟩:=Z7S hrow
 obtain ⟨e0,hx,he0⟩:=M.ins
 obtain ⟨F,g1,g2,g3,g4,g5⟩:=top.at_
 have lF:F.st.length=fr.st.length:=by rw [Paired.length g5,qc2]
 have nn:=top.nn
 have lf:=top.sz.fr' top.fr
 have lmd:=top.sz.md
 obtain ⟨ms,m1,m2⟩:=M.mad
 have lms:ms.length=s'.made.length:=Paired.length m2
 refine ⟨O0a,o.dx,_,hx,T.Machine.cl,T.O0k,_,Z2T,.inl ⟨rfl,_,SqL.of m1⟩,a,m,F,rfl,g1,qR,qR,fun pu H1 s1 hpu p hp=>?_⟩
 have s2:=Z0f hp (.tup [.int hh,.ref pu])
 have S:=s1.trans s2
 have M2:=M.same S
 refine ⟨o.md,rfl,ms,S _ _ m1,qR,?_⟩
 have thv:ThV K (upd H1 p (.tup [.int hh,.ref pu])) (.ref p) (hh,(fr.st.take m).reverse):=⟨p,pu,_,rfl,SqT.of Z0d,hpu.same s2,by
  show AtVs K _ (F.st.drop (F.st.length - m)) (fr.st.take m).reverse
  rw [qh7,← lF]
  exact Pd.drop _ (AtVs.t g5 (Same.t S))⟩
 obtain ⟨M3,k3⟩:=M2.things (ms':=ms++[.ref p]) (mm:=s'.made++[(hh,(fr.st.take m).reverse)]) (Pd.app (Pd.imp (fun _ _ q=>ThV.t q (Same.t S)) m2) (.cons thv .nil))
 have md3:upd (upd H1 p (.tup [.int hh,.ref pu])) o.md (.lst (ms++[.ref p])) o.md=some (.lst (ms++[.ref p])):=Z0d
 have K3:=(M.keepS S).trans k3
 have fr3:FrIs K _ a fr:=top.at_.t K3.t
 generalize upd (upd H1 p (.tup [.int hh,.ref pu])) o.md (.lst (ms++[.ref p]))=H3 at *
 obtain ⟨e3,hx3,_⟩:=M3.ins
 refine ⟨O0a,o.dx,_,hx3,T.Machine.cl,T.O0k,_,Z2T,o.md,rfl,_,.inl (SqL.of md3),fun p2 hp2=>?_⟩
 have lp:(((ms++[V.ref p]).length:Int) - 1)=(s'.made.length:Int):=by rw [qa1]; show ((ms.length+1:Nat):Int) - 1=_; omega
 rw [lp]
 have s4:=Z0f hp2 (.tup [.str "thing",.int s'.made.length])
 have e4:upd H3 p2 (.tup [.str "thing",.int s'.made.length]) p2=some (.tup [.str "thing",.int s'.made.length]):=Z0d
 obtain ⟨F4,d1,d2,d3,d4,d5⟩:=fr3.t (Same.t s4)
 have lF4:F4.st.length=fr.st.length:=by rw [Paired.length d5,qc2]
 refine ⟨a,m,_,F4,rfl,d1,qR,qR,fun p3 H5 s5 hf5=>?_⟩
 have S5:=s4.trans s5
 have M5:=M3.same S5
 have hf:FrV K H5 (.ref p3) { fr with pc:=fr.pc+1,st:=.th s'.made.length::fr.st.drop m }:=mkFr hf5 d2 (by show F4.at_+1=_; rw [d3]; rfl) (AtVs.t d4 (Same.t s5)) (by
  show AtVs K H5 (F4.st.take (F4.st.length - m)++[.ref p2]) (AV.th s'.made.length::fr.st.drop m).reverse
  rw [qa5,qk5,← lF4]
  exact Pd.app (Pd.take _ (AtVs.t d5 (Same.t s5))) (.cons ⟨p2,rfl,s5 _ _ e4,qR⟩ .nil))
 obtain ⟨xs,j,c1,c2,M6,k6⟩:=M5.put top.fr hf
 obtain ⟨e5,hx5,_⟩:=M5.ins
 exact ⟨O0a,o.dx,_,hx5,T.Machine.cl,T.O0d,_,Z0M,o.sk,rfl,xs,c1,j,c2,q o _ rfl (K3.trans ((M3.keepS S5).trans k6)) M6⟩
end
def OwnQ (K:y9) (H:Hp) (s' s2:MS) (fs:List AFr) (a:y8):VK:=fun v H'=>∃ p,v=.ref p∧Same H H'∧((∃ pf f',s2={ s' with frames:=f'::fs }∧FrV K H' (.ref pf) f'∧SqT K H' p [.ref pf,.non])∨(∃ q' e,s2=Mach.ends s' e∧SqT K H' p [.ref a,.ref q']∧EndIs K H' q' e))
def sgOk:Sg→Str→Prop
 | .add,sg=>sg="+"
 | .sub,sg=>sg="-"
 | .mul,sg=>sg="*"
 | .div,sg=>sg="/"
 | .less,sg=>sg="<"
 | .same,sg=>sg="="
theorem J3G (g:Sg):∃ sg,valV Z2s (.inr (sgN g))=some (.str sg)∧sgOk g sg:=by
 cases g <;> exact ⟨_,rfl,rfl⟩
theorem J2O {K:y9} {H:Hp} {g:Sg} {x y:V} {a b:AV} {res:AV ⊕ Mach.End} {sg:Str} (hx:AtV K H x a) (hy:AtV K H y b) (h:Mach.two g a b=some res) (hs:sgOk g sg) :
  ∃ rr,TwoR K H sg x y rr∧((∃ v av,res=.inl av∧rr=[.str "value",v]∧∀ H',AtV K H' v av)∨(res=.inr .great∧rr=[.str "refused",.str "great"])∨(res=.inr .nought∧rr=[.str "refused",.str "nought"])):=by
 have tol:∀ n:Int,(∃ v av,Mach.told n=.inl av∧Z5r n=[.str "value",v]∧∀ H',AtV K H' v av)∨(Mach.told n=.inr .great∧Z5r n=[.str "refused",.str "great"])∨(Mach.told n=.inr .nought∧Z5r n=[.str "refused",.str "nought"]):=fun n=>by
  unfold Mach.told Z5r
  by_cases hb:Bd n
  ·rw [if_pos hb,if_pos hb]; exact .inl ⟨_,_,rfl,rfl,fun _=>⟨rfl,hb⟩⟩
  ·rw [if_neg hb,if_neg hb]; exact .inr (.inl ⟨rfl,rfl⟩)
 cases g with
 | add=>
  cases a <;> cases b <;> first | (cases h; done) | skip
  cases h; obtain rfl:sg=_:=hs
  obtain ⟨rfl,b1⟩:=hx; obtain ⟨rfl,b2⟩:=hy
  exact ⟨_,.ar (.inl rfl) b1 b2,tol _⟩
 | sub=>
  cases a <;> cases b <;> first | (cases h; done) | skip
  cases h; obtain rfl:sg=_:=hs
  obtain ⟨rfl,b1⟩:=hx; obtain ⟨rfl,b2⟩:=hy
  exact ⟨_,.ar (.inr (.inl rfl)) b1 b2,tol _⟩
 | mul=>
  cases a <;> cases b <;> first | (cases h; done) | skip
  cases h; obtain rfl:sg=_:=hs
  obtain ⟨rfl,b1⟩:=hx; obtain ⟨rfl,b2⟩:=hy
  exact ⟨_,.ar (.inr (.inr (.inl rfl))) b1 b2,tol _⟩
 | div=>
  cases a <;> cases b <;> first | (cases h; done) | skip
  cases h; obtain rfl:sg=_:=hs
  obtain ⟨rfl,b1⟩:=hx; obtain ⟨rfl,b2⟩:=hy
  rename_i ia ib
  refine ⟨_,.ar (.inr (.inr (.inr rfl))) b1 b2,?_⟩
  unfold Z8C
  by_cases hz:ib=0
  ·rw [if_pos hz,if_pos ⟨rfl,hz⟩]; exact .inr (.inr ⟨rfl,rfl⟩)
  ·rw [if_neg hz,if_neg (fun z=>hz z.2)]; exact tol _
 | less=>
  cases a <;> cases b <;> first | (cases h; done) | skip
  cases h; obtain rfl:sg=_:=hs
  obtain ⟨rfl,b1⟩:=hx; obtain ⟨rfl,b2⟩:=hy
  exact ⟨_,.lt _ _,.inl ⟨_,_,rfl,rfl,fun _=>rfl⟩⟩
 | same=>
  cases a <;> cases b <;> first | (cases h; done) | skip
  ·cases h; obtain rfl:sg=_:=hs
   obtain rfl:x=_:=hx; obtain rfl:y=_:=hy
   rename_i ia ib
   refine ⟨_,.eq (.bl _) (.bl _) rfl rfl,.inl ⟨_,_,rfl,rfl,fun _=>?_⟩⟩
   show V.bl _=V.bl _
   cases ia <;> cases ib <;> (rw [PyData.eqv]; rfl)
  ·cases h; obtain rfl:sg=_:=hs
   obtain ⟨rfl,b1⟩:=hx; obtain ⟨rfl,b2⟩:=hy
   refine ⟨_,.eq (.int _) (.int _) rfl rfl,.inl ⟨_,_,rfl,rfl,fun _=>?_⟩⟩
   show V.bl _=V.bl _
   rw [PyData.eqv]; rfl
  ·cases h; obtain rfl:sg=_:=hs
   obtain ⟨t1,rfl,h1,_⟩:=hx; obtain ⟨t2,rfl,h2,_⟩:=hy
   rename_i ia ib
   have sh:∀ k:Nat,PySem.SeqAt.shaped (.tuple [.str "thing",.int k])=true:=fun k=>(Lay.tup (k:=0) (.cons (.of (Nice.str (n:=5) qP qP)) (.cons .int .nil))).shaped qQ
   refine ⟨_,.eq (.tup (SqT.of h1) (.cons (.str _) (.cons (.int _) .nil))) (.tup (SqT.of h2) (.cons (.str _) (.cons (.int _) .nil))) (sh _) (sh _),.inl ⟨_,_,rfl,rfl,fun _=>?_⟩⟩
   show V.bl _=V.bl _
   simp [PyData.eqv,PyData.eqvAll]
   apply qi4.mpr
   simp only [beq_iff_eq,decide_eq_true_eq]
   exact Int.ofNat_inj
theorem J3N {K:y9} {H:Hp} {r a tl:y8} {row:Row} {fr:AFr} {s' s2:MS} {fs:List AFr} {ms:List V} {ow:AFr ⊕ Mach.End} {E:XK} (hro:RowAt K H r row) (hio:Z8L row=true) (hfr:FrIs K H a fr) (hsl:SqL K H tl ms) (hms:Paired (ThV K H) ms s'.made) (how:Mach.own fr s'.made row=some ow)
  (hres:(∃ f',ow=.inl f'∧s2={ s' with frames:=f'::fs })∨∃ e,ow=.inr e∧s2=Mach.ends s' e) (lst:fr.st.length < 90000) (lsl:fr.sl.length < 900):Z5c K [.ref r,.ref a,.ref tl] H (OwnQ K H s' s2 fs a) E:=by
 obtain ⟨F,g1,g2,g3,g4,g5⟩:=hfr
 have lF:F.st.length=fr.st.length:=by rw [Paired.length g5,qc2]
 have lS:F.sl.length=fr.sl.length:=Paired.length g4
 have fin:∀ {nm:Str} {args:List V} {F':Fr} {f':AFr},SqT K H r (.str nm::args)→OwnR K H tl F nm args F'→ow=.inl f'→F'.n=.int f'.n→F'.at_=(f'.pc:Int)→AtVs K H F'.sl f'.sl→AtVs K H F'.st f'.st.reverse→Z5c K [.ref r,.ref a,.ref tl] H (OwnQ K H s' s2 fs a) E:=by
  intro nm args F' f' h1 h2 e a1 a2 a3 a4
  have es:s2={ s' with frames:=f'::fs }:=by
   rcases hres with ⟨f'',e',h⟩ | ⟨e'',e',_⟩
   ·rw [e] at e'; cases e'; exact h
   ·rw [e] at e'; cases e'
  exact ⟨r,a,tl,_,_,F,rfl,h1,g1,qR,qR,.inr ⟨_,h2,fun p pf H' s1 hf hp=>⟨p,rfl,s1,.inl ⟨pf,f',es,mkFr hf a1 a2 (AtVs.t a3 (Same.t s1)) (AtVs.t a4 (Same.t s1)),hp⟩⟩⟩⟩
 have up:∀ {v:AV} {st:List AV},fr.st=v::st→∃ sv x,F.st=sv++[x]∧AtVs K H sv st.reverse∧AtV K H x v:=fun e=>by
  rw [e,qa5] at g5
  exact Pd.snoc_inv g5
 cases row with
 | make _ _=>cases hio
 | put _=>cases hio
 | call _ _ _=>cases hio
 | straight _ _=>cases hio
 | back=>cases hio
 | push v=>
  obtain ⟨x,h1,h2⟩:=hro
  cases how
  exact fin h1 (.push x) rfl g2 (by show F.at_+1=_; rw [g3]; rfl) g4 (by
   show AtVs K H (F.st++[x]) (v::fr.st).reverse
   rw [qa5]; exact Pd.app g5 (.cons h2 .nil))
 | load i=>
  simp only [Mach.own] at how
  obtain ⟨v,hv,e⟩:=qb6.mp how
  obtain ⟨x,hx,hxv⟩:=Pd.at g4 hv
  exact fin hro (.load i x (Z0C hx)) e.symm g2 (by show F.at_+1=_; rw [g3]; rfl) g4 (by
   show AtVs K H (F.st++[x]) (v::fr.st).reverse
   rw [qa5]; exact Pd.app g5 (.cons hxv .nil))
 | nt=>
  simp only [Mach.own] at how
  split at how
  ·rename_i b st e
   cases how
   obtain ⟨sv,x,e1,h1,h2⟩:=up e
   obtain rfl:x=.bl b:=h2
   exact fin hro (.nt b sv e1) rfl g2 (by show F.at_+1=_; rw [g3]; rfl) g4 (by
    show AtVs K H (sv++[.bl (!b)]) (AV.bl (!b)::st).reverse
    rw [qa5]; exact Pd.app h1 (.cons rfl .nil))
  ·cases how
 | get pl=>
  simp only [Mach.own] at how
  split at how
  ·rename_i k st e
   obtain ⟨t,ht,how⟩:=qc0.mp how
   obtain ⟨v,hv,how⟩:=qb6.mp how
   obtain ⟨sv,x,e1,h1,h2⟩:=up e
   obtain ⟨th,rfl,hth,_⟩:=h2
   obtain ⟨y,hy,ye,ia,inner,rfl,q1,q2,q3⟩:=Pd.at hms ht
   obtain ⟨z,hz,hzv⟩:=Pd.at q3 hv
   exact fin hro (.get sv th k pl ms ye ia _ inner z e1 hsl (SqT.of hth) (Z0C hy) q1 q2 (Z0C hz)) how.symm g2 (by show F.at_+1=_; rw [g3]; rfl) g4 (by
    show AtVs K H (sv++[z]) (v::st).reverse
    rw [qa5]; exact Pd.app h1 (.cons hzv .nil))
  ·cases how
 | keep i=>
  simp only [Mach.own] at how
  split at how
  ·rename_i v st e
   split at how
   ·rename_i hi
    cases how
    obtain ⟨sv,x,e1,h1,h2⟩:=up e
    exact fin hro (.keep i x sv e1 qR qR) rfl g2 (by show F.at_+1=_; rw [g3]; rfl) (by
     show AtVs K H (F.sl.take i++[x]++F.sl.drop (i+1)) (fr.sl.set i v)
     rw [← Z6M _ _ _ qR]
     exact Pd.set h2 i g4) h1
   ·cases how
  ·cases how
 | drop=>
  simp only [Mach.own] at how
  split at how
  ·rename_i v st e
   cases how
   obtain ⟨sv,x,e1,h1,h2⟩:=up e
   exact fin hro (.drop x sv e1) rfl g2 (by show F.at_+1=_; rw [g3]; rfl) g4 h1
  ·cases how
 | skip k=>
  cases how
  exact fin hro (.skip k) rfl g2 (by show F.at_+1+(k:Int)=((fr.pc+1+k:Nat):Int); rw [g3]; omega) g4 g5
 | unl k=>
  simp only [Mach.own] at how
  split at how
  ·rename_i b st e
   cases how
   obtain ⟨sv,x,e1,h1,h2⟩:=up e
   obtain rfl:x=.bl b:=h2
   exact fin hro (.unl k b sv e1) rfl g2 (by
    show F.at_+1+(if b=true then 0 else (k:Int))=((fr.pc+1+(if b then 0 else k):Nat):Int)
    rw [g3]; cases b <;> simp) g4 h1
  ·cases how
 | two g=>
  simp only [Mach.own] at how
  split at how
  ·rename_i y x st e
   obtain ⟨res,hres2,how⟩:=qb6.mp how
   rw [e,qa5,qa5] at g5
   obtain ⟨sv,yv,e1,h1,hy⟩:=Pd.snoc_inv g5
   obtain ⟨su,xv,e2,h2,hx⟩:=Pd.snoc_inv h1
   subst e2
   obtain ⟨sg,hs1,hs2⟩:=J3G g
   obtain ⟨rr,htw,hc⟩:=J2O hx hy hres2 hs2
   refine ⟨r,a,tl,sgN g,[],F,rfl,hro,g1,qR,qR,.inl ⟨sg,su,xv,yv,rr,hs1,by rw [e1,qc7]; rfl,htw,fun why p q' H' er s1 hq hp=>?_,fun v p pf H' er s1 hf hp=>?_⟩⟩
   ·rcases hc with ⟨v,av,_,e3,_⟩ | ⟨e3,e4⟩ | ⟨e3,e4⟩
    ·rw [e3] at er; exact absurd (V.str.inj (qf7 er).1) qQ
    ·rw [e4] at er
     obtain rfl:why="great":=(V.str.inj (qf7 (qf7 er).2).1).symm
     subst e3
     refine ⟨p,rfl,s1,.inr ⟨q',.great,?_,hp,by rw [e4] at hq; exact hq⟩⟩
     rcases hres with ⟨f'',e',_⟩ | ⟨e'',e',h⟩
     ·rw [← how] at e'; cases e'
     ·rw [← how] at e'; cases e'; exact h
    ·rw [e4] at er
     obtain rfl:why="nought":=(V.str.inj (qf7 (qf7 er).2).1).symm
     subst e3
     refine ⟨p,rfl,s1,.inr ⟨q',.nought,?_,hp,by rw [e4] at hq; exact hq⟩⟩
     rcases hres with ⟨f'',e',_⟩ | ⟨e'',e',h⟩
     ·rw [← how] at e'; cases e'
     ·rw [← how] at e'; cases e'; exact h
   ·rcases hc with ⟨v',av,e3,e4,hv⟩ | ⟨e3,e4⟩ | ⟨e3,e4⟩
    ·rw [e4] at er
     obtain rfl:v'=v:=(qf7 (qf7 er).2).1
     subst e3
     refine ⟨p,rfl,s1,.inl ⟨pf,{ fr with pc:=fr.pc+1,st:=av::st },?_,mkFr hf g2 (by show F.at_+1=_; rw [g3]; rfl) (AtVs.t g4 (Same.t s1)) ?_,hp⟩⟩
     ·rcases hres with ⟨f'',e',h⟩ | ⟨e'',e',_⟩
      ·rw [← how] at e'; cases e'; exact h
      ·rw [← how] at e'; cases e'
     ·show AtVs K H' (su++[v']) (av::st).reverse
      rw [qa5]
      exact Pd.app (AtVs.t h2 (Same.t s1)) (.cons (hv H') .nil)
    ·rw [e4] at er; exact absurd (V.str.inj (qf7 er).1) qQ
    ·rw [e4] at er; exact absurd (V.str.inj (qf7 er).1) qQ
  ·cases how
section
theorem J1n (T:Txt P w K mg O0b O0a O0c) (O1W:Has P w K mg base 4 "own_done" ["row","frame","things"] (Z5c K)) (O0l:HasM P w K mg base 1 O0a "end" ["self","told"] (Z7Z O0a O0b K)):HasM P w K mg base 5 O0a "do_own" ["self","row","frame"] (Z7U O0a O0b K):=by
 refine HasM.of T.O2h O0S (fun _ _ _ _ _ _ us hl=>el3 us hl fun _ _ _=>rfl) (fun vs H Q E h=>?_) (fun f cdv A outer s H vs Q E hr h=>?_)
 ·obtain ⟨ex,o,P,s,r,a,row,n,f,fs,s',rfl,_⟩:=h
  rfl
 obtain ⟨ex,o,P',s',r,a,row,n,fr,fs,s2,rfl,M,top,hro,hio,hrow,q⟩:=h
 refine ⟨_,(Z0a (Z1l (qF O1W hr (qK (pvF 1) (pvF 2) (qO 0))) (Z1X (n:=2) rfl (Z0p (qH 3 O0S.nd) (Z0p (qH 4 O0S.nd) Z1W))))
  (Z0a (Z1l (pvF 3) (Z3p (qO 0) qN Z1o))
  (Z0b (Z0t (qM Z3S (pvF 4) Z1d) (Z0b (Z0j (Z0V (pvF 0) T.Machine.cl O0l hr qQ (qI (pvF 4))))) Z0o)))),?_⟩
 walk_at "rd"
 obtain ⟨ow,how,hres⟩:=Z5H hio hrow
 obtain ⟨e0,hx,he0⟩:=M.ins
 obtain ⟨ms,m1,m2⟩:=M.mad
 have nn:=top.nn
 have lf:=top.sz.fr' top.fr
 refine ⟨O0a,o.dx,_,hx,T.Machine.cl,T.O0k,_,Z2T,?_⟩
 refine Z8O (J3N hro hio top.at_ (SqL.of m1) m2 how hres qR qR) ?_
 rintro v H1 ⟨p,rfl,s1,hcase⟩
 have M1:=M.same s1
 obtain ⟨e1,hx1,_⟩:=M1.ins
 rcases hcase with ⟨pf,f',rfl,hf,hp⟩ | ⟨q',e,rfl,hp,he⟩
 ·obtain ⟨xs,j,c1,c2,M2,k2⟩:=M1.put top.fr hf
  refine ⟨p,rfl,_,hp,rfl,_,_,rfl,_,_,rfl,rfl,O0a,o.dx,_,hx1,T.Machine.cl,T.O0d,_,Z0M,o.sk,rfl,xs,c1,j,c2,?_⟩
  rw [if_neg (by simp)]
  exact q o _ rfl ((M.keepS s1).trans k2) M2
 ·obtain ⟨xs,j,c1,c2,M2,k2⟩:=M1.put top.fr (show FrV K H1 (.ref a) fr from ⟨a,rfl,top.at_.t (Same.t s1)⟩)
  refine ⟨p,rfl,_,hp,rfl,_,_,rfl,_,_,rfl,rfl,O0a,o.dx,_,hx1,T.Machine.cl,T.O0d,_,Z0M,o.sk,rfl,xs,c1,j,c2,?_⟩
  rw [if_pos (by simp)]
  obtain ⟨e2,hx2,_⟩:=M2.ins
  exact ⟨o.dx,_,hx2,rfl,ex,o,P',_,q',e,rfl,M2,he.t k2.t,fun qq H3 k3 M3=>q { o with sk:=qq } _ rfl (((M.keepS s1).trans k2).trans k3) M3⟩
end
theorem J0S {P:Mach.Prog} {s s2:MS} {f:AFr} {fs:List AFr} {site word many:Nat} (h:Mach.rowM P s f fs (.call site word many)=some s2):∃ k rest t b s1,(f.st.take many).reverse=.th k::rest∧many≤f.st.length∧s.made[k]?=some t∧Mach.found P s t.1 site word=some (b,s1)∧Mach.enter P s1 f fs b many=some s2:=by
 simp only [Mach.rowM] at h
 split at h
 ·rename_i k rest e
  split at h
  ·rename_i hm
   obtain ⟨t,ht,h⟩:=qc0.mp h
   obtain ⟨⟨b,s1⟩,hb,h⟩:=qc0.mp h
   exact ⟨k,rest,t,b,s1,e,hm,ht,hb,h⟩
  ·cases h
 ·cases h
theorem J1s {K:y9} {H:Hp} {r:y8} {row:Row} (hi:Z8L row=true) (h:RowAt K H r row):∃ nm args,SqT K H r (.str nm::args)∧V.str nm≠.str "make"∧V.str nm≠.str "put"∧V.str nm≠.str "call"∧V.str nm≠.str "straight"∧V.str nm≠.str "back":=by
 cases row with
 | make _ _=>cases hi
 | put _=>cases hi
 | call _ _ _=>cases hi
 | straight _ _=>cases hi
 | back=>cases hi
 | push v=>obtain ⟨x,a,_⟩:=h; exact ⟨_,_,a,qQ⟩
 | load i=>exact ⟨_,_,h,qQ⟩
 | nt=>exact ⟨_,_,h,qQ⟩
 | get pl=>exact ⟨_,_,h,qQ⟩
 | keep i=>exact ⟨_,_,h,qQ⟩
 | drop=>exact ⟨_,_,h,qQ⟩
 | skip k=>exact ⟨_,_,h,qQ⟩
 | unl k=>exact ⟨_,_,h,qQ⟩
 | two g=>cases g <;> exact ⟨_,_,h,qQ⟩
section
theorem J0T (T:Txt P w K mg O0b O0a O0c):HasM P w K mg base 1 O0a "calls" ["self"] (Z3D O0a O0b K (fun s=>s.calls)):=by
 refine HasM.of T.O2p Z4a (fun _ _ _ _ _ _ us hl=>el1 us hl fun _=>rfl) (fun vs H Q E h=>?_) (fun f cdv A outer s H vs Q E hr h=>?_)
 ·obtain ⟨ex,o,P,s,rfl,_⟩:=h
  rfl
 obtain ⟨ex,o,P',s',rfl,M,q⟩:=h
 refine ⟨_,(Z0b (Z0n (qO 0))),?_⟩
 walk_at "rd"
 obtain ⟨e0,hx,he0⟩:=M.ins
 exact ⟨O0a,o.dx,_,hx,T.Machine.cl,T.O0v,_,Z5p,q⟩
theorem J1N (T:Txt P w K mg O0b O0a O0c):HasM P w K mg base 1 O0a "looks" ["self"] (Z3D O0a O0b K (fun s=>s.looks)):=by
 refine HasM.of T.O2q Z3Z (fun _ _ _ _ _ _ us hl=>el1 us hl fun _=>rfl) (fun vs H Q E h=>?_) (fun f cdv A outer s H vs Q E hr h=>?_)
 ·obtain ⟨ex,o,P,s,rfl,_⟩:=h
  rfl
 obtain ⟨ex,o,P',s',rfl,M,q⟩:=h
 refine ⟨_,(Z0b (Z0n (qO 0))),?_⟩
 walk_at "rd"
 obtain ⟨e0,hx,he0⟩:=M.ins
 exact ⟨O0a,o.dx,_,hx,T.Machine.cl,T.O0w,_,Z5z,q⟩
theorem J3O (T:Txt P w K mg O0b O0a O0c):HasM P w K mg base 1 O0a "hits" ["self"] (Z3D O0a O0b K (fun s=>s.hits)):=by
 refine HasM.of T.O2y Z4n (fun _ _ _ _ _ _ us hl=>el1 us hl fun _=>rfl) (fun vs H Q E h=>?_) (fun f cdv A outer s H vs Q E hr h=>?_)
 ·obtain ⟨ex,o,P,s,rfl,_⟩:=h
  rfl
 obtain ⟨ex,o,P',s',rfl,M,q⟩:=h
 refine ⟨_,(Z0b (Z0n (qO 0))),?_⟩
 walk_at "rd"
 obtain ⟨e0,hx,he0⟩:=M.ins
 exact ⟨O0a,o.dx,_,hx,T.Machine.cl,T.O0M,_,J0H,q⟩
theorem Z6o (T:Txt P w K mg O0b O0a O0c):HasM P w K mg base 1 O0a "rows_done" ["self"] (Z3D O0a O0b K (fun s=>s.rows)):=by
 refine HasM.of T.O1K Z3j (fun _ _ _ _ _ _ us hl=>el1 us hl fun _=>rfl) (fun vs H Q E h=>?_) (fun f cdv A outer s H vs Q E hr h=>?_)
 ·obtain ⟨ex,o,P,s,rfl,_⟩:=h
  rfl
 obtain ⟨ex,o,P',s',rfl,M,q⟩:=h
 refine ⟨_,(Z0b (Z0n (qO 0))),?_⟩
 walk_at "rd"
 obtain ⟨e0,hx,he0⟩:=M.ins
 exact ⟨O0a,o.dx,_,hx,T.Machine.cl,T.O0N,_,Z9U,q⟩
theorem Z9F (T:Txt P w K mg O0b O0a O0c):HasM P w K mg base 1 O0a "answer" ["self"] (Z6q O0a O0b K):=by
 refine HasM.of T.O2g Z3L (fun _ _ _ _ _ _ us hl=>el1 us hl fun _=>rfl) (fun vs H Q E h=>?_) (fun f cdv A outer s H vs Q E hr h=>?_)
 ·obtain ⟨ex,o,P,s,rfl,_⟩:=h
  rfl
 obtain ⟨ex,o,P',s',rfl,M,q⟩:=h
 refine ⟨_,(Z0b (Z0n (qO 0))),?_⟩
 walk_at "rd"
 obtain ⟨e0,hx,he0⟩:=M.ins
 exact ⟨O0a,o.dx,_,hx,T.Machine.cl,T.O0O,_,Z7z,q _ he0⟩
theorem J0A (T:Txt P w K mg O0b O0a O0c):HasM P w K mg base 1 O0a "frames" ["self"] (Z6a O0a O0b K):=by
 refine HasM.of T.O2e Z3Q (fun _ _ _ _ _ _ us hl=>el1 us hl fun _=>rfl) (fun vs H Q E h=>?_) (fun f cdv A outer s H vs Q E hr h=>?_)
 ·obtain ⟨ex,o,P,s,rfl,_⟩:=h
  rfl
 obtain ⟨ex,o,P',s',rfl,M,q⟩:=h
 refine ⟨_,(Z0b (Z0n (Z0H Z0L rfl T.O1G Z2w (qI (qO 0))))),?_⟩
 walk_at "rd"
 obtain ⟨e0,hx,he0⟩:=M.ins
 obtain ⟨ss,m1,m2⟩:=M.stk
 exact ⟨O0a,o.dx,_,hx,T.Machine.cl,T.O0d,_,Z0M,o.sk,rfl,ss,.inl (SqL.of m1),fun l hl=>q l ss hl m2⟩
theorem J1F (T:Txt P w K mg O0b O0a O0c) (O2B:HasM P w K mg base 2 O0a "make" ["self","house","many","frame"] (Z7T O0a O0b K)) (O1M:HasM P w K mg base 2 O0a "set_field" ["self","place","frame"] (Z9c O0a O0b K)) (O1C:HasM P w K mg base 3 O0a "found_block" ["self","site","word","many","frame"] (Z5Y O0a O0b K)) (O1D:HasM P w K mg base 2 O0a "enter" ["self","block","many","frame"] (Z5U O0a O0b K)) (O1X:HasM P w K mg base 2 O0a "go_back" ["self","frame"] (Z5X O0a O0b K)) (O2i:HasM P w K mg base 5 O0a "do_own" ["self","row","frame"] (Z7U O0a O0b K)):HasM P w K mg base 6 O0a "step" ["self"] (J1c O0a O0b K):=by
 refine HasM.of T.O2z O1b (fun _ _ _ _ _ _ us hl=>el1 us hl fun _=>rfl) (fun vs H Q E h=>?_) (fun f cdv A outer s H vs Q E hr h=>?_)
 ·obtain ⟨ex,o,P,s,rfl,_⟩:=h
  rfl
 obtain ⟨ex,o,P',s',rfl,M,hq⟩:=h
 refine ⟨_,(Z0a (Z0t (qM Z3S (qO 0) Z1d) (Z0b (Z0n Z8r)) Z0o)
  (Z0a (Z3b (pvF 0) Z0c Z5t)
  (Z0a (qG 1 O1b.nd (qD K (qO 0) qN))
  (Z0a (qG 2 O1b.nd (qC K (qC K (qC K (qO 0) (qA K 1)) Z0c) (qA K 1)))
  (Z0a (Z0t (qM Z0B (qA K 2) Z0g) (Z0b (Z0j (Z0V (pvF 0) T.Machine.cl O2B hr qQ (qK (qA K 2) (qA K 2) (pvF 1))))) (Z0b (Z0t (qM Z0B (qA K 2) Z0g) (Z0b (Z0j (Z0V (pvF 0) T.Machine.cl O1M hr qQ (qJ (qA K 2) (pvF 1))))) (Z0b (Z0t (qM Z0B (qA K 2) Z0g) (Z0b (Z0j (Z0V (pvF 0) T.Machine.cl O1D hr qQ (qK (Z0V (pvF 0) T.Machine.cl O1C hr qQ (Z0r (qA K 2) (qK (qA K 2) (qA K 2) (pvF 1)))) (qA K 2) (pvF 1))))) (Z0b (Z0t (qM Z0B (qA K 2) Z0g) (Z0b (Z0j (Z0V (pvF 0) T.Machine.cl O1D hr qQ (qK (qA K 2) (qA K 2) (pvF 1))))) (Z0b (Z0t (qM Z0B (qA K 2) Z0g) (Z0b (Z0j (Z0V (pvF 0) T.Machine.cl O1X hr qQ (qI (pvF 1))))) (Z0b (Z0j (Z0V (pvF 0) T.Machine.cl O2i hr qQ (qJ (pvF 2) (pvF 1))))))))))))))
  (Z0b (Z0n Z8r))))))),?_⟩
 refine seq6 fun u5 hu5 u4 hu4 u3 hu3 u2 hu2 u1 hu1=>?_
 walk_at "rd"
 obtain ⟨e0,hx,he0⟩:=M.ins
 refine ⟨O0a,o.dx,_,hx,T.Machine.cl,T.O0O,_,Z7z,?_⟩
 rcases hq with ⟨hne,q⟩ | ⟨n,s2,hstep,hsz,hps,hn,q⟩
 ·obtain ⟨e,he⟩:=qc9.mp hne
  rw [he] at he0
  obtain ⟨a,rfl,_⟩:=he0
  rw [if_pos (by simp)]
  exact q
 unfold Mach.step at hstep
 split at hstep
 case h_2=>cases hstep
 rename_i fr fs hen hfr
 obtain ⟨row,hrow?,hrow⟩:=qc0.mp hstep
 rw [hen] at he0
 obtain rfl:e0=.non:=he0
 rw [if_neg (by simp)]
 subst hu1
 walk_at "rd"
 obtain ⟨M1,k1⟩:=M.set (s':={ s' with rows:=s'.rows+1 }) (e:=.non) rfl rfl (qa0 _) rfl (by rw [hen]; rfl)
 refine ⟨O0a,o.dx,_,hx,T.Machine.cl,T.O0N,_,Z9U,_,rfl,o.dx,_,hx,Z4I,?_⟩
 rw [show ((s'.rows:Int)+1)=((s'.rows+1:Nat):Int) from rfl,J3E]
 change MAt O0a O0b K ex o P' { s' with rows:=s'.rows+1 } (upd H o.x (.ins O0a o.dx (fsM o P' .non s'.calls s'.looks s'.hits (s'.rows+1)))) at M1
 change Keep ex H (upd H o.x (.ins O0a o.dx (fsM o P' .non s'.calls s'.looks s'.hits (s'.rows+1)))) at k1
 generalize upd H o.x (.ins O0a o.dx (fsM o P' .non s'.calls s'.looks s'.hits (s'.rows+1)))=H1 at *
 obtain ⟨e1,hx1,_⟩:=M1.ins
 obtain ⟨ss,a,c1,c2,c3⟩:=M1.top hfr
 have top:Top K H1 o P' (n+1) { s' with rows:=s'.rows+1 } a fr fs:=⟨hfr,c3,hsz.up,hps,qR⟩
 obtain ⟨F,sa,ta,h1,h2,h3,f1,f2,hsl,hstk,l1,l2⟩:=c3.st
 obtain ⟨bs,B1,B2⟩:=M1.pr.bl
 unfold Mach.row? at hrow?
 obtain ⟨b,hb,hbr⟩:=qc0.mp hrow?
 obtain ⟨bv,hbv,ba,ra,rs,rfl,B3,B4,B5⟩:=Pd.at B2 hb
 obtain ⟨rv,hrv,r,rfl,hr⟩:=Pd.at B5 hbr
 subst hu2
 walk_at "rd"
 refine ⟨O0a,o.dx,_,hx1,T.Machine.cl,T.O0d,_,Z0M,o.sk,rfl,_,SqL.of c1,_,Z0F ss _,?_⟩
 subst hu3
 walk_at "rd"
 refine ⟨O0a,o.dx,_,hx1,T.Machine.cl,T.O0C,_,Z6B,_,h1,_,ix0,o.B,rfl,_,rfl,bs,B1,_,Z0C hbv,ba,rfl,_,B3,_,ix2,_,h1,_,ix1,ra,rfl,_,rfl,rs,B4,_,Z0C hrv,?_⟩
 subst hu5
 subst hu4
 walk_at "rd"
 have dq:Does O0a O0b K ex o P' H1 s2 .non (fun _ H'=>Q (.bl true) H'):=fun o' H' eo kk MM=>q o' H' eo (k1.trans kk) MM
 by_cases hio:Z8L row=true
 ·obtain ⟨nm,args,hR,n1,n2,n3,n4,n5⟩:=J1s hio hr
  refine ⟨_,hR,_,ix0,rfl,?_⟩
  rw [if_neg n1]
  refine ⟨_,hR,_,ix0,rfl,?_⟩
  rw [if_neg n2]
  refine ⟨_,hR,_,ix0,rfl,?_⟩
  rw [if_neg n3]
  refine ⟨_,hR,_,ix0,rfl,?_⟩
  rw [if_neg n4]
  refine ⟨_,hR,_,ix0,rfl,?_⟩
  rw [if_neg n5]
  exact ⟨o.dx,_,hx1,rfl,ex,o,P',_,r,a,row,n+1,fr,fs,s2,rfl,M1,top,hr,hio,hrow,dq⟩
 cases row with
 | make hh m=>
  have hR:SqT K H1 r [.str "make",.int hh,.int m]:=hr
  refine ⟨_,hR,_,ix0,rfl,?_⟩
  rw [if_pos rfl]
  exact ⟨o.dx,_,hx1,rfl,_,hR,_,ix1,_,hR,_,ix2,ex,o,P',_,a,hh,m,n+1,fr,fs,s2,rfl,M1,top,hrow,dq⟩
 | put pl=>
  have hR:SqT K H1 r [.str "put",.int pl]:=hr
  refine ⟨_,hR,_,ix0,rfl,?_⟩
  rw [if_neg qQ]
  refine ⟨_,hR,_,ix0,rfl,?_⟩
  rw [if_pos rfl]
  exact ⟨o.dx,_,hx1,rfl,_,hR,_,ix1,ex,o,P',_,a,pl,n+1,fr,fs,s2,rfl,M1,top,hrow,dq⟩
 | call site word many=>
  have hR:SqT K H1 r [.str "call",.int site,.int word,.int many]:=hr
  refine ⟨_,hR,_,ix0,rfl,?_⟩
  rw [if_neg qQ]
  refine ⟨_,hR,_,ix0,rfl,?_⟩
  rw [if_neg qQ]
  refine ⟨_,hR,_,ix0,rfl,?_⟩
  rw [if_pos rfl]
  obtain ⟨k,rest,t,bb,s1,hc1,hc2,hc3,hc4,hc5⟩:=J0S hrow
  refine ⟨o.dx,_,hx1,rfl,o.dx,_,hx1,rfl,_,hR,_,ix1,_,hR,_,ix2,_,hR,_,ix3,?_⟩
  refine ⟨ex,o,P',_,a,site,word,many,n+1,k,fr,fs,rest,t,bb,s1,rfl,M1,top,hc1,hc2,hc3,hc4,fun H2 k2 M2=>?_⟩
  obtain ⟨a1,a2,a3,a4,a5,a6,a7⟩:=Mach.found_sz top.sz hc4
  have hs1:Mach.Sz (n+1) s1:=⟨by rw [a1]; exact top.sz.fr,by rw [a1]; exact top.sz.fl,by rw [a2]; exact top.sz.md,by rw [a2]; exact top.sz.mi,by have:=hsz.lh; rw [a6]; show s'.looks+s'.hits+1≤_; omega,a7⟩
  have top2:Top K H2 o P' (n+1) s1 a fr fs:=⟨by rw [a1]; exact hfr,c3.t k2.t,hs1,hps,qR⟩
  exact ⟨_,SqT.t hR k2.t,_,ix3,ex,o,P',s1,a,bb,many,n+1,fr,fs,s2,rfl,M2,top2,hc5,fun o' H' eo kk MM=>q o' H' eo (k1.trans (k2.trans kk)) MM⟩
 | straight bl many=>
  have hR:SqT K H1 r [.str "straight",.int bl,.int many]:=hr
  refine ⟨_,hR,_,ix0,rfl,?_⟩
  rw [if_neg qQ]
  refine ⟨_,hR,_,ix0,rfl,?_⟩
  rw [if_neg qQ]
  refine ⟨_,hR,_,ix0,rfl,?_⟩
  rw [if_neg qQ]
  refine ⟨_,hR,_,ix0,rfl,?_⟩
  rw [if_pos rfl]
  exact ⟨o.dx,_,hx1,rfl,_,hR,_,ix1,_,hR,_,ix2,ex,o,P',_,a,bl,many,n+1,fr,fs,s2,rfl,M1,top,hrow,dq⟩
 | back=>
  have hR:SqT K H1 r [.str "back"]:=hr
  refine ⟨_,hR,_,ix0,rfl,?_⟩
  rw [if_neg qQ]
  refine ⟨_,hR,_,ix0,rfl,?_⟩
  rw [if_neg qQ]
  refine ⟨_,hR,_,ix0,rfl,?_⟩
  rw [if_neg qQ]
  refine ⟨_,hR,_,ix0,rfl,?_⟩
  rw [if_neg qQ]
  refine ⟨_,hR,_,ix0,rfl,?_⟩
  rw [if_pos rfl]
  exact ⟨o.dx,_,hx1,rfl,ex,o,P',_,a,n+1,fr,fs,s2,rfl,M1,top,hrow,dq⟩
 | _=>exact absurd rfl hio
end
def Z6A (b:Blk) (k:Nat) (ns:List Int):MS:=⟨[⟨k,0,ns.map AV.int++qa3 (b.size - ns.length) .non,[]⟩],[],none,0,0,0,0,fun _=>none⟩
inductive Z7D (CM CP:y8) (K:y9) (vs:List V) (H:Hp) (Q:VK):Prop
 | mk (ex:y8→Prop) (x dx bl tl nl:y8) (P:Mach.Prog) (bs tvs:List V) (ns:List Int) (b:Blk) (front:List Blk) (a1:vs=[.ref x,.ref bl,.ref tl,.ref nl,.int P.most,.bl P.rem]) (a2:H x=some (.ins CM dx [])) (a3:SqL K H bl bs) (a4:Paired (BlkAt K H) bs P.blocks) (a5:P.blocks=front++[b]) (a6:SqL K H tl tvs) (a7:Paired (fun v t=>∃ ta,v=.ref ta∧SqL K H ta (t.map tabV)) tvs P.tables) (a8:SqL K H nl (ns.map V.int)) (a9:(∀ n∈ns,Bd n)) (a10:ns.length≤b.size) (a11:b.size < 900) (a12:P.blocks.length < 900) (a13:P.tables.length < 900) (a14:¬ ex x∧(∀ a,ex a→H a≠none)∧∀ o H',o.x=x→SameX x H H'→MAt CM CP K ex o P (Z6A b front.length ns) H'→Q .non H'):Z7D CM CP K vs H Q
def Z2K (CM CP:y8) (K:y9):Sp:=fun vs H Q _=>Z7D CM CP K vs H Q
theorem sx_t {x C dx:y8} {fs:List (Str×V)} {H H':Hp} (s:SameX x H H') (h:H x=some (.ins C dx fs)):SameT H H':=fun c xs=>⟨fun e=>s _ _ (Z0J e h (fun z=>by cases z)) e,fun o e=>s _ _ (Z0J e h (fun z=>by cases z)) e⟩
theorem sx_l {K:y9} {x C dx a:y8} {fs:List (Str×V)} {xs:List V} {H H':Hp} (s:SameX x H H') (h:H x=some (.ins C dx fs)) (q:SqL K H a xs):SqL K H' a xs:=by
 rcases q with (q | ⟨o,q⟩) | q
 ·exact .inl (.inl (s _ _ (Z0J q h (fun z=>by cases z)) q))
 ·exact .inl (.inr ⟨o,s _ _ (Z0J q h (fun z=>by cases z)) q⟩)
 ·exact .inr q
theorem Z2W {α β:Type} {R:α→β→Prop}:∀ {xs:List α} {ys:List β},xs.length=ys.length→(∀ (j:Nat) x y,xs[j]?=some x→ys[j]?=some y→R x y)→Paired R xs ys
 | [],[],_,_=>.nil
 | x::xs,y::ys,e,h=>.cons (h 0 x y rfl rfl) (Z2W (Nat.succ.inj e) fun j a b ha hb=>h (j+1) a b (by simpa using ha) (by simpa using hb))
theorem Z6P {K:y9} {H:Hp}:∀ {ns:List Int},(∀ n∈ns,Bd n)→AtVs K H (ns.map V.int) (ns.map AV.int)
 | [],_=>.nil
 | n::ns,h=>.cons ⟨rfl,h n qb5⟩ (Z6P fun m hm=>h m (qb1 _ hm))
theorem Z5A {K:y9} {H:Hp}:∀ k,AtVs K H (qa3 k V.non) (qa3 k AV.non)
 | 0=>.nil
 | k+1=>.cons rfl (Z5A k)
theorem Z7v {ex:y8→Prop} {H H':Hp} {x p:y8} (hx:¬ ex x) (h:∀ a,ex a→H a≠none) (s:SameX x H H') (e:H' p=none):¬ ex p:=fun z=>by
 obtain ⟨u,hu⟩:=qc9.mp (h p z)
 exact Z0m (s _ _ (fun y=>hx (y▸z)) hu) e rfl
theorem Z9l {C:y8} {H:Hp} {x dx d:y8} (hx:H x=none) (hdx:H dx=none) (ne:¬ dx=x) (hd:upd (upd H dx (.own x)) x (.ins C dx []) d=none) :
  Same H (upd (upd (upd (upd H dx (.own x)) x (.ins C dx [])) d (.dK [])) x (.ins C dx [("by_site",.ref d)]))∧upd (upd (upd (upd H dx (.own x)) x (.ins C dx [])) d (.dK [])) x (.ins C dx [("by_site",.ref d)]) d=some (.dK [])∧H d=none:=by
 have s1:Same H (upd H dx (.own x)):=Z0f hdx _
 have s2:Same (upd H dx (.own x)) (upd (upd H dx (.own x)) x (.ins C dx [])):=Z0f (by rw [Z0e (fun z=>ne z.symm)]; exact hx) _
 have s3:=Z0f hd (.dK [])
 have s13:=(s1.trans s2).trans s3
 have nd:d≠x:=fun z=>by rw [z,Z0d] at hd; cases hd
 refine ⟨fun b u hb=>?_,?_,(s1.trans s2).free hd⟩
 ·rw [Z0e (Z0m hb hx)]
  exact s13 b u hb
 ·rw [Z0e nd]
  exact Z0d
section
theorem Z4i (T:Txt P w K mg O0b O0a O0c) (ks:List Str) (gg:Value→Value→List Value→List Value→List Value) (gV:List V→List V→List V) (O1Y:HasM P w K mg base 1 O0b "__init__" ["self"] (Z7r O0b)) (O0P:Has P w K mg base 1 "entered" ["block","number","values"] (Z3M K))
  (hrel:∀ {u1 u2:Value} {vs zs:List V} {us ws:List Value},RelV (.int 100) u1→RelV (.bl true) u2→Vals vs us→Vals zs ws→Vals (gV vs zs) (gg u1 u2 us ws))
  (hb:∀ (kV doc pm:Value) (an:Option y8) (cdv ct:Value) (dA:y8) (u1 u2:Value) (us ws:List Value),(gg u1 u2 us ws).length=6 →
   ∃ k,bindArgs (W.fnOf "__init__" "Machine.__init__" (Z1m Z0w) (Z0Y Z0w) (Z0i Z0w) (.ref dA) kV doc pm an cdv ct) ⟨us,ks.zip ws⟩=seqItems? (.ref dA) >>= k∧k (some #[u1,u2])=pure ((["self","blocks","tables","numbers","most","remembers"]:List Str).zip (gg u1 u2 us ws))) :
  HasD P w K mg base 3 O0a "__init__" ["self","blocks","tables","numbers","most","remembers"] (Z2K O0a O0b K) ks gV:=by
 refine HasD.ofG gg gV T.O1R Z3r hrel hb (fun vs H Q E h=>?_) (fun f cdv A outer s H vs Q E hr h=>?_)
 ·obtain ⟨ex,x,dx,bl,tl,nl,P,bs,tvs,ns,b,front,rfl,_⟩:=h
  rfl
 obtain ⟨ex,x,dx,bl,tl,nl,P',bs,tvs,ns,b,front,rfl,hx,hbl,hbs,hfr,htl,htv,hnl,hns,hnb,hbz,lb,lt,hexx,hexs,q⟩:=h
 refine ⟨_,(Z0a (Z1v (pvF 0) (Z0H Z1k rfl T.O1y Z2p (qI (pvF 1))) rfl)
  (Z0a (Z1v (pvF 0) (Z0H Z1k rfl T.O1y Z2p (qI (Z4g rfl (BlockOk.plain (N:=["table"]) rfl qP qP qP) (Z2x (pvF 2))
     (fun C fp s H=>(qH 0 (show (["table"]:List Str).Nodup by decide +kernel)))
     (fun C fp s H=>(Z0H (r:=J2q K) Z1k rfl T.O1y Z2p (qI (pvF 0))))))) rfl)
  (Z0a (Z1v (pvF 0) (pvF 4) rfl)
  (Z0a (Z1v (pvF 0) (pvF 5) rfl)
  (Z0a (Z1v (pvF 0) (J3m T.Places O1Y hr qQ rfl) rfl)
  (Z0a (Z1v (pvF 0) (Z0s (qI (qF O0P hr (qK (qC K (qO 0) qN) (Z0h Z1n (qL T.z_len (qI (qO 0))) Z0c) (pvF 3))))) rfl)
  (Z0a (Z1v (pvF 0) (Z0s Z0N) rfl)
  (Z0a (Z1v (pvF 0) Z1d rfl)
  (Z0a (Z1v (pvF 0) Z0c rfl)
  (Z0a (Z1v (pvF 0) Z0c rfl)
  (Z0a (Z1v (pvF 0) Z0c rfl)
  (Z0b (Z1v (pvF 0) Z0c rfl))))))))))))),?_⟩
 refine J4O fun uz11 huz11 uz10 huz10 uz9 huz9 uz8 huz8 uz7 huz7 uz6 huz6 uz5 huz5 uz4 huz4 uz3 huz3 uz2 huz2 uz1 huz1=>?_
 walk_at "rd"
 refine ⟨bs,.inl ⟨hbl,fun l hl=>?_⟩⟩
 have u1:=Z0f hl (.tup bs)
 refine ⟨O0a,dx,_,u1 _ _ hx,T.Machine.cl,T.O0C,qe7 rfl,?_⟩
 have S1:SameX x H (upd (upd H l (.tup bs)) x (.ins O0a dx (putF "blocks" (.ref l) []))):=(Same.x u1 x).trans (Z0G _)
 have X1:upd (upd H l (.tup bs)) x (.ins O0a dx (putF "blocks" (.ref l) [])) x=some (.ins O0a dx (putF "blocks" (.ref l) [])):=Z0d
 have L1:upd (upd H l (.tup bs)) x (.ins O0a dx (putF "blocks" (.ref l) [])) l=some (.tup bs):=by
  rw [Z0e (fun z=>Z0m hx hl z.symm)]; exact Z0d
 clear u1 hl
 generalize upd (upd H l (.tup bs)) x (.ins O0a dx (putF "blocks" (.ref l) []))=H1 at *
 have tl1:=sx_l S1 hx htl
 subst huz1
 walk_at "rd"
 refine ⟨⟨_,tl1⟩,fun D hD=>?_⟩
 have ltv:tvs.length=P'.tables.length:=Paired.length htv
 refine Z8M (ys:=tvs) none [] (fun j v H=>∃ p t,v=.ref p∧P'.tables[j]?=some t∧H p=some (.tup (t.map tabV))) (fun j v H1 H2 ⟨p,t,a,b,c⟩ s=>⟨p,t,a,b,s _ _ (fun xs z=>by cases z) c⟩) rfl hD (by rw [sizeLine_eq]; omega) (fun H2 s=>tl1.same s) (fun i y hy H2 K' s k=>?_) (fun vs H2 s2 hv hlv hR=>?_)
 ·walk_at "rd"
  have hi:i < P'.tables.length:=by rw [← ltv]; exact (qa9.mp hy).1
  obtain ⟨y',hy',ta,rfl,hta⟩:=Pd.at htv (qb2 hi)
  rw [hy] at hy'
  cases hy'
  exact ⟨ta,rfl,_,.inl ⟨(sx_l S1 hx hta).same s,fun p hp=>k _ _ (Z0f hp _) ⟨p,_,rfl,qb2 hi,Z0d⟩⟩⟩
 refine ⟨D,rfl,vs,.inl ⟨SqL.of hv,fun l2 hl2=>?_⟩⟩
 have u2:=Z0f hl2 (.tup vs)
 refine ⟨O0a,dx,_,u2 _ _ (s2 _ _ X1),T.Machine.cl,T.O0D,qe7 rfl,?_⟩
 subst huz2
 walk_at "rd"
 refine ⟨O0a,dx,_,Z0d,T.Machine.cl,T.O1H,qe7 rfl,?_⟩
 subst huz3
 walk_at "rd"
 refine ⟨O0a,dx,_,Z0d,T.Machine.cl,T.O0z,qe7 rfl,?_⟩
 subst huz4
 walk_at "rd"
 intro pl dp hpl hdp ndp
 simp only [Z6I] at hpl hdp ⊢
 have S2:SameX x H1 (upd (upd H2 l2 (.tup vs)) x (.ins O0a dx (putF "remembers" (.bl P'.rem) (putF "most" (.int P'.most) (putF "house_tables" (.ref l2) (putF "blocks" (.ref l) [])))))):=(Same.x (s2.trans u2) x).trans (Z0G _)
 have nl2:l2≠x:=fun z=>Z0m (s2 _ _ X1) hl2 z.symm
 have X2:upd (upd H2 l2 (.tup vs)) x (.ins O0a dx (putF "remembers" (.bl P'.rem) (putF "most" (.int P'.most) (putF "house_tables" (.ref l2) (putF "blocks" (.ref l) []))))) x=some (.ins O0a dx (putF "remembers" (.bl P'.rem) (putF "most" (.int P'.most) (putF "house_tables" (.ref l2) (putF "blocks" (.ref l) []))))):=Z0d
 have LL2:upd (upd H2 l2 (.tup vs)) x (.ins O0a dx (putF "remembers" (.bl P'.rem) (putF "most" (.int P'.most) (putF "house_tables" (.ref l2) (putF "blocks" (.ref l) []))))) l2=some (.tup vs):=by
  rw [Z0e nl2]; exact Z0d
 have R2:∀ (j:Nat) v,vs[j]?=some v→∃ p t,v=.ref p∧P'.tables[j]?=some t∧upd (upd H2 l2 (.tup vs)) x (.ins O0a dx (putF "remembers" (.bl P'.rem) (putF "most" (.int P'.most) (putF "house_tables" (.ref l2) (putF "blocks" (.ref l) []))))) p=some (.tup (t.map tabV)):=fun j v hj=>by
  obtain ⟨p,t,a,b,c⟩:=hR j v hj
  exact ⟨p,t,a,b,(sx_t (Z0G _) (u2 _ _ (s2 _ _ X1)) p _).1 (u2 _ _ c)⟩
 clear u2 hl2
 generalize upd (upd H2 l2 (.tup vs)) x (.ins O0a dx (putF "remembers" (.bl P'.rem) (putF "most" (.int P'.most) (putF "house_tables" (.ref l2) (putF "blocks" (.ref l) [])))))=H3 at *
 refine ⟨pl,dp,rfl,Z0d,fun d hd=>⟨rfl,?_⟩⟩
 obtain ⟨s3,hd3,hd0⟩:=Z9l hpl hdp ndp hd
 have P3:upd (upd (upd (upd H3 dp (.own pl)) pl (.ins O0b dp [])) d (.dK [])) pl (.ins O0b dp [("by_site",.ref d)]) pl=some (.ins O0b dp [("by_site",.ref d)]):=Z0d
 have npl:x≠pl:=Z0m X2 hpl
 have nd:d≠x:=fun z=>Z0m X2 hd0 z.symm
 have xpl:¬ ex pl:=Z7v hexx hexs (S1.trans S2) hpl
 have xd:¬ ex d:=Z7v hexx hexs (S1.trans S2) hd0
 clear hpl hdp ndp hd
 generalize upd (upd (upd (upd H3 dp (.own pl)) pl (.ins O0b dp [])) d (.dK [])) pl (.ins O0b dp [("by_site",.ref d)])=H4 at *
 refine ⟨O0a,dx,_,s3 _ _ X2,T.Machine.cl,T.O0U,qe7 rfl,?_⟩
 have S5:SameX x H3 (upd H4 x (.ins O0a dx (putF "places" (.ref pl) (putF "remembers" (.bl P'.rem) (putF "most" (.int P'.most) (putF "house_tables" (.ref l2) (putF "blocks" (.ref l) []))))))):=(Same.x s3 x).trans (Z0G _)
 have X5:upd H4 x (.ins O0a dx (putF "places" (.ref pl) (putF "remembers" (.bl P'.rem) (putF "most" (.int P'.most) (putF "house_tables" (.ref l2) (putF "blocks" (.ref l) [])))))) x=some (.ins O0a dx (putF "places" (.ref pl) (putF "remembers" (.bl P'.rem) (putF "most" (.int P'.most) (putF "house_tables" (.ref l2) (putF "blocks" (.ref l) [])))))):=Z0d
 have P5:upd H4 x (.ins O0a dx (putF "places" (.ref pl) (putF "remembers" (.bl P'.rem) (putF "most" (.int P'.most) (putF "house_tables" (.ref l2) (putF "blocks" (.ref l) [])))))) pl=some (.ins O0b dp [("by_site",.ref d)]):=by rw [Z0e (fun z=>npl z.symm)]; exact P3
 have D5:upd H4 x (.ins O0a dx (putF "places" (.ref pl) (putF "remembers" (.bl P'.rem) (putF "most" (.int P'.most) (putF "house_tables" (.ref l2) (putF "blocks" (.ref l) [])))))) d=some (.dK []):=by rw [Z0e nd]; exact hd3
 clear s3 P3 hd3
 generalize upd H4 x (.ins O0a dx (putF "places" (.ref pl) (putF "remembers" (.bl P'.rem) (putF "most" (.int P'.most) (putF "house_tables" (.ref l2) (putF "blocks" (.ref l) []))))))=H5 at *
 have S15:SameX x H1 H5:=S2.trans S5
 have S05:SameX x H H5:=S1.trans S15
 have T35:=sx_t S5 X2
 have T05:=sx_t S05 hx
 have L5:=(sx_t S15 X1 l bs).1 L1
 rw [hfr] at hbs
 obtain ⟨bs0,bv,ebs,hbs0,ba,ra,rs,rfl,hb1,hb2,hb3⟩:=Pd.snoc_inv hbs
 have lbs:bs0.length=front.length:=Paired.length hbs0
 have eat:atI bs (-1)=some (.ref ba):=by rw [ebs]; exact Z0F _ _
 subst huz5
 walk_at "rd"
 refine ⟨O0a,dx,_,X5,T.Machine.cl,T.O0C,.ref l,rfl,l,rfl,bs,SqT.of L5,_,eat,O0a,dx,_,X5,T.Machine.cl,T.O0C,.ref l,rfl,l,rfl,bs,.inr (SqT.of L5),?_⟩
 refine ⟨ba,nl,_,_,_,b.size,_,rfl,SqT.t hb1 T05,.inl (sx_l S05 hx hnl),by rw [qa2]; exact hnb,qR,fun pf H6 s6 hf6=>?_⟩
 intro sk hsk
 have u7:=Z0f hsk (.lst [.ref pf])
 have xsk:¬ ex sk:=Z7v hexx hexs (S05.trans (Same.x s6 x)) hsk
 have nsk:sk≠x:=fun z=>Z0m (s6 _ _ X5) hsk z.symm
 refine ⟨O0a,dx,_,u7 _ _ (s6 _ _ X5),T.Machine.cl,T.O0d,qe7 rfl,?_⟩
 subst huz6
 walk_at "rd"
 intro md hmd
 have S57:SameX x H5 (upd (upd H6 sk (.lst [.ref pf])) x (.ins O0a dx (putF "stacked" (.ref sk) (putF "places" (.ref pl) (putF "remembers" (.bl P'.rem) (putF "most" (.int P'.most) (putF "house_tables" (.ref l2) (putF "blocks" (.ref l) [])))))))):=(Same.x (s6.trans u7) x).trans (Z0G _)
 have X7:upd (upd H6 sk (.lst [.ref pf])) x (.ins O0a dx (putF "stacked" (.ref sk) (putF "places" (.ref pl) (putF "remembers" (.bl P'.rem) (putF "most" (.int P'.most) (putF "house_tables" (.ref l2) (putF "blocks" (.ref l) []))))))) x=some (.ins O0a dx (putF "stacked" (.ref sk) (putF "places" (.ref pl) (putF "remembers" (.bl P'.rem) (putF "most" (.int P'.most) (putF "house_tables" (.ref l2) (putF "blocks" (.ref l) []))))))):=Z0d
 have K7:upd (upd H6 sk (.lst [.ref pf])) x (.ins O0a dx (putF "stacked" (.ref sk) (putF "places" (.ref pl) (putF "remembers" (.bl P'.rem) (putF "most" (.int P'.most) (putF "house_tables" (.ref l2) (putF "blocks" (.ref l) []))))))) sk=some (.lst [.ref pf]):=by rw [Z0e nsk]; exact Z0d
 have T67:SameT H6 (upd (upd H6 sk (.lst [.ref pf])) x (.ins O0a dx (putF "stacked" (.ref sk) (putF "places" (.ref pl) (putF "remembers" (.bl P'.rem) (putF "most" (.int P'.most) (putF "house_tables" (.ref l2) (putF "blocks" (.ref l) [])))))))):=(Same.t u7).trans (sx_t (Z0G _) (u7 _ _ (s6 _ _ X5)))
 have hf7:=FrAt.t hf6 T67
 clear u7 hsk T67
 generalize upd (upd H6 sk (.lst [.ref pf])) x (.ins O0a dx (putF "stacked" (.ref sk) (putF "places" (.ref pl) (putF "remembers" (.bl P'.rem) (putF "most" (.int P'.most) (putF "house_tables" (.ref l2) (putF "blocks" (.ref l) [])))))))=H7 at *
 have u8:=Z0f hmd (.lst [])
 have xmd:¬ ex md:=Z7v hexx hexs (S05.trans S57) hmd
 have nmd:md≠x:=fun z=>Z0m X7 hmd z.symm
 have nsm:sk≠md:=Z0m K7 hmd
 refine ⟨O0a,dx,_,u8 _ _ X7,T.Machine.cl,T.O0k,qe7 rfl,?_⟩
 subst huz7
 walk_at "rd"
 refine ⟨O0a,dx,_,Z0d,T.Machine.cl,T.O0O,qe7 rfl,?_⟩
 subst huz8
 walk_at "rd"
 refine ⟨O0a,dx,_,Z0d,T.Machine.cl,T.O0v,qe7 rfl,?_⟩
 subst huz9
 walk_at "rd"
 refine ⟨O0a,dx,_,Z0d,T.Machine.cl,T.O0w,qe7 rfl,?_⟩
 subst huz10
 walk_at "rd"
 refine ⟨O0a,dx,_,Z0d,T.Machine.cl,T.O0M,qe7 rfl,?_⟩
 subst huz11
 walk_at "rd"
 refine ⟨O0a,dx,_,Z0d,T.Machine.cl,T.O0N,qe7 rfl,?_⟩
 simp only [Z6I]
 change Q .non (upd (upd H7 md (.lst [])) x (.ins O0a dx (fsM ⟨x,dx,l,l2,pl,dp,d,sk,md⟩ P' .non 0 0 0 0)))
 have S7f:SameX x H7 (upd (upd H7 md (.lst [])) x (.ins O0a dx (fsM ⟨x,dx,l,l2,pl,dp,d,sk,md⟩ P' .non 0 0 0 0))):=(Same.x u8 x).trans (Z0G _)
 have Xf:upd (upd H7 md (.lst [])) x (.ins O0a dx (fsM ⟨x,dx,l,l2,pl,dp,d,sk,md⟩ P' .non 0 0 0 0)) x=some (.ins O0a dx (fsM ⟨x,dx,l,l2,pl,dp,d,sk,md⟩ P' .non 0 0 0 0)):=Z0d
 have Mf:upd (upd H7 md (.lst [])) x (.ins O0a dx (fsM ⟨x,dx,l,l2,pl,dp,d,sk,md⟩ P' .non 0 0 0 0)) md=some (.lst []):=by rw [Z0e nmd]; exact Z0d
 generalize upd (upd H7 md (.lst [])) x (.ins O0a dx (fsM ⟨x,dx,l,l2,pl,dp,d,sk,md⟩ P' .non 0 0 0 0))=Hf at *
 have S5f:SameX x H5 Hf:=S57.trans S7f
 have S0f:SameX x H Hf:=S05.trans S5f
 have T5f:=sx_t S5f X5
 have T7f:=sx_t S7f X7
 refine q ⟨x,dx,l,l2,pl,dp,d,sk,md⟩ Hf rfl S0f ⟨⟨.non,Xf,rfl⟩,⟨⟨bs,SqT.of ((T5f l bs).1 L5),?_⟩,⟨vs,SqT.of ((T5f l2 vs).1 ((T35 l2 vs).1 LL2)),?_⟩⟩,S5f _ _ (fun z=>npl z.symm) P5,⟨[],S5f _ _ nd D5,qa0 _,fun k=>rfl⟩,⟨[.ref pf],S7f _ _ nsk K7,.cons ⟨pf,rfl,_,FrAt.t hf7 T7f,?_,rfl,?_,.nil⟩ .nil⟩,⟨[],Mf,.nil⟩,npl,nsm,⟨hexx,xpl,xd,xsk,xmd⟩,fun y hy=>?_⟩
 ·rw [hfr]
  exact Pd.imp (fun _ _ q=>BlkAt.t q (sx_t S0f hx)) hbs
 ·refine Z2W (hlv.trans ltv) fun j v t hv ht=>?_
  obtain ⟨p,t',rfl,e,hp⟩:=R2 j v hv
  rw [ht] at e
  cases e
  exact ⟨p,rfl,SqT.of ((T5f p _).1 ((T35 p _).1 hp))⟩
 ·show V.int ((bs.length:Int) - 1)=V.int (front.length:Int)
  rw [ebs,qa1,lbs]
  show V.int (((front.length+1:Nat):Int) - 1)=_
  congr 1
  omega
 ·show AtVs K Hf (ns.map V.int++qa3 (b.size - (ns.map V.int).length) V.non) (ns.map AV.int++qa3 (b.size - ns.length) AV.non)
  rw [qa2]
  exact Pd.app (Z6P hns) (Z5A _)
 ·obtain ⟨u,hu⟩:=qc9.mp (hexs y hy)
  rw [S0f _ _ (fun z=>hexx (z▸hy)) hu]; simp
end
inductive J0g (K:y9) (vs:List V) (H:Hp) (Q:VK):Prop
 | mk (a:y8) (ns:List Int) (k:Nat) (a1:vs=[.ref a,.int k]) (a2:SqL K H a (ns.map V.int)) (a3:∀ c,Q (.int c) H):J0g K vs H Q
def Z5v (K:y9):Sp:=fun vs H Q _=>J0g K vs H Q
inductive Z7u (vs:List V) (H:Hp) (Q:VK):Prop
 | mk (c k:Int) (a1:vs=[.int c,.int k]) (a2:∀ r:Nat,r < 2147483647→Q (.int r) H):Z7u vs H Q
def Z3d:Sp:=fun vs H Q _=>Z7u  vs H Q
inductive Z5P (vs:List V) (H:Hp) (Q:VK):Prop
 | mk (c:Int) (a1:vs=[.int c]) (a2:∀ r,Bd r→Q (.int r) H):Z5P vs H Q
def Z3C:Sp:=fun vs H Q _=>Z5P  vs H Q
section
theorem J3Y (T:Txt P w K mg O0b O0a O0c):Has P w K mg base 1 "_law_cell_at" ["_law_script","_law_k"] (Z5v K):=by
 refine Has.of T.O2s Z4E (fun _ _ _ _ _ _ us hl=>el2 us hl fun _ _=>rfl) (fun vs H Q E h=>?_) (fun f cdv A outer s H vs Q E hr h=>?_)
 ·obtain ⟨a,ns,k,rfl,_⟩:=h
  rfl
 obtain ⟨a,ns,k,rfl,sq,q⟩:=h
 refine ⟨_,(Z0a (Z0t (qM Z4z (pvF 1) (qL T.z_len (qI (pvF 0)))) (Z0b (Z0n (qD K (pvF 0) (pvF 1)))) Z0o)
  (Z0b (Z0n Z0c))),?_⟩
 walk_at "rd"
 refine ⟨_,.inl sq,ite2 (fun h=>?_) fun _=>q _⟩
 rw [qa2] at h
 have hk:k < ns.length:=by omega
 exact ⟨_,sq,_,Z0C (show (ns.map V.int)[k]?=some (.int ns[k]) by rw [qc8,qb2 hk]; rfl),q _⟩
theorem J1r (T:Txt P w K mg O0b O0a O0c):Has P w K mg base 1 "_law_mixed" ["_law_cell","_law_k"] Z3d:=by
 refine Has.of T.O2N O1O (fun _ _ _ _ _ _ us hl=>el2 us hl fun _ _=>rfl) (fun vs H Q E h=>?_) (fun f cdv A outer s H vs Q E hr h=>?_)
 ·obtain ⟨c,k,rfl,_⟩:=h
  rfl
 obtain ⟨c,k,rfl,q⟩:=h
 refine ⟨_,(Z0a (qG 2 O1O.nd (Z0h Z0u (Z0h Z0x (Z0h Z0x (Z0h Z2h (pvF 0) Z0c) (Z0h Z2h Z0c (pvF 1))) Z0c) Z0c))
  (Z0b (Z0n (Z0h Z0u (Z0h Z2h (Z0h Z0u (Z0h Z2h (pvF 2) (pvF 2)) Z0c) (pvF 2)) Z0c)))),?_⟩
 walk_at "rd"
 have n0:0≤(c * 48271+7919 * k+12345) % 2147483647:=Int.emod_nonneg _ qS
 have n1:(c * 48271+7919 * k+12345) % 2147483647 < 2147483647:=Int.emod_lt_of_pos _ qS
 generalize (c * 48271+7919 * k+12345) % 2147483647=n at *
 refine ⟨.inl ⟨qR,qR⟩,.inr ⟨qR,qR⟩,?_⟩
 have r0:0≤(n * n % 2147483647 * n) % 2147483647:=Int.emod_nonneg _ qS
 have r1:(n * n % 2147483647 * n) % 2147483647 < 2147483647:=Int.emod_lt_of_pos _ qS
 have:=q (n * n % 2147483647 * n % 2147483647).toNat qR
 rw [qj6 r0] at this
 exact this
theorem Z8Q (T:Txt P w K mg O0b O0a O0c):Has P w K mg base 1 "_law_number" ["_law_cell"] Z3C:=by
 refine Has.of T.O2H Z4M (fun _ _ _ _ _ _ us hl=>el1 us hl fun _=>rfl) (fun vs H Q E h=>?_) (fun f cdv A outer s H vs Q E hr h=>?_)
 ·obtain ⟨c,rfl,_⟩:=h
  rfl
 obtain ⟨c,rfl,q⟩:=h
 refine ⟨_,(Z0a (Z0t (qM Z0B (Z0h Z0u (pvF 0) Z0c) Z0c) (Z0b (Z0n (Z0h Z2h (Z0h Z1n Z0c (Z0h Z2h Z0c (Z0h Z0u (Z0h Z0A (pvF 0) Z0c) Z0c))) (Z0h Z1n (Z0h Z7B Z0c Z0c) (Z0h Z0u (Z0h Z0A (pvF 0) Z0c) Z0c))))) Z0o)
  (Z0a (Z0t (qM Z0B (Z0h Z0u (pvF 0) Z0c) Z0c) (Z0b (Z0n (Z0h Z1n (Z0h Z0u (Z0h Z2h (pvF 0) Z0c) (Z0h Z0x (Z0h Z2h Z0c (Z0h Z7B Z0c Z0c)) Z0c)) (Z0h Z7B Z0c Z0c)))) Z0o)
  (Z0b (Z0n (Z0h Z1n (Z0h Z0u (Z0h Z0A (pvF 0) Z0c) Z0c) Z0c))))),?_⟩
 walk_at "rd"
 refine ite2 (fun _=>⟨.inl ⟨qR,qR⟩,q _ ?_⟩) (fun _=>ite2 (fun _=>q _ ⟨qR,qR⟩) (fun _=>q _ ⟨qR,qR⟩))
 rcases (show c / 7 % 2=0∨c / 7 % 2=1 by omega) with e | e
 ·rw [e]; exact ⟨qR,qR⟩
 ·rw [e]; exact ⟨qR,qR⟩
end
open MT (Kd fk Wo VT Seg Sf)
structure Ch (ls:List y8) (H H':Hp):Prop where
 t:SameT H H'
 k:∀ b o,b∉ls→H b=some o→H' b=some o
theorem Ch.of {ls:List y8} {H H':Hp} (s:Same H H'):Ch ls H H':=⟨Same.t s,fun b o _ h=>s b o h⟩
theorem Ch.refl {ls:List y8} {H:Hp}:Ch ls H H:=.of (Same.refl _)
theorem Ch.trans {ls:List y8} {H H1 H2:Hp} (a:Ch ls H H1) (b:Ch ls H1 H2):Ch ls H H2:=⟨a.t.trans b.t,fun c o n h=>b.k c o n (a.k c o n h)⟩
theorem Ch.put {ls:List y8} {H:Hp} {a:y8} {xs:List V} (o:HO) (h:H a=some (.lst xs)) (m:a∈ls):Ch ls H (upd H a o):=⟨Z1I o h Z1U,fun b u n e=>by rw [Z0e (fun z=>n (by rw [z]; exact m))]; exact e⟩
theorem Ch.less {ls ms:List y8} {H H1 H2:Hp} (a:Ch ls H H1) (b:Ch ms H1 H2) (s:∀ x∈ms,x∈ls∨H x=none):Ch ls H H2:=⟨a.t.trans b.t,fun c o n e=>b.k c o (fun z=>(s c z).elim n (fun w=>by rw [w] at e; cases e)) (a.k c o n e)⟩
theorem Ch.same {H H':Hp} (h:Ch [] H H'):Same H H':=fun b o e=>h.k b o qk6 e
noncomputable def kd:Kd→V
 | .n=>.str "n"
 | .t=>.str "t"
 | _=>.str "h"
noncomputable def okd:Option Kd→V
 | none=>.non
 | some k=>kd k
structure WA where
 wd:y8
 fl:y8
 hd:y8
 ow:y8
 si:y8
noncomputable def HdV (si:y8) (H:Hp) (v:V) (h:List Kd×Kd):Prop:=∃ t p,v=.ref t∧H t=some (.tup [.ref p,kd h.2])∧H p=some (.lst (h.1.map kd))∧p≠si
structure WO (K:y9) (H:Hp) (A:WA) (W:Wo) (n:Nat):Prop where
 d:∃ kvs,H A.wd=some (.dK kvs)∧valV kvs (.inr "fields")=some (.ref A.fl)∧valV kvs (.inr "heads")=some (.ref A.hd)∧valV kvs (.inr "owners")=some (.ref A.ow)∧valV kvs (.inr "sites")=some (.ref A.si)
 fl:H A.fl=some (.lst (W.fields.map fun (m:Nat)=>V.int m))
 hd:∃ hv,H A.hd=some (.lst hv)∧Paired (HdV A.si H) hv W.heads
 ow:H A.ow=some (.lst (W.owners.map fun (m:Nat)=>V.int m))
 si:H A.si=some (.lst [.int n])
 ne:A.fl≠A.si∧A.hd≠A.si∧A.ow≠A.si
structure WF (W:Wo):Prop where
 f0:∃ m,W.fields[0]?=some m∧m≤3
 fl:∀ m∈W.fields,2≤m∧m≤4
 fn:W.fields.length≤4
 ow:∀ b∈W.owners,b < W.heads.length
 on:W.owners.length≤9∧0 < W.owners.length
 hn:W.heads.length≤3∧0 < W.heads.length
 hk:∀ h∈W.heads,h.1.length≤2∧(∀ k∈h.1,k≠.hx)∧h.2≠.hx
theorem HdV.same {si:y8} {H H':Hp} {v:V} {h:List Kd×Kd} (x:HdV si H v h) (s:Same H H'):HdV si H' v h:=let ⟨t,p,a,b,c,d⟩:=x; ⟨t,p,a,s _ _ b,s _ _ c,d⟩
theorem WO.same {K:y9} {H H':Hp} {A:WA} {W:Wo} {n:Nat} (h:WO K H A W n) (s:Same H H'):WO K H' A W n:=by
 obtain ⟨kvs,d1,d2,d3,d4,d5⟩:=h.d
 obtain ⟨hv,h1,h2⟩:=h.hd
 exact ⟨⟨kvs,s _ _ d1,d2,d3,d4,d5⟩,s _ _ h.fl,⟨hv,s _ _ h1,Paired.imp' (fun _ _ x=>x.same s) h2⟩,s _ _ h.ow,s _ _ h.si,h.ne⟩
theorem WO.get {K:y9} {H:Hp} {A:WA} {W:Wo} {n:Nat} (h:WO K H A W n):DGet H A.wd (.str "fields") (some (.ref A.fl))∧DGet H A.wd (.str "heads") (some (.ref A.hd))∧DGet H A.wd (.str "owners") (some (.ref A.ow))∧DGet H A.wd (.str "sites") (some (.ref A.si)):=by
 obtain ⟨kvs,d1,d2,d3,d4,d5⟩:=h.d
 refine ⟨?_,?_,?_,?_⟩
 ·rw [← d2]; exact DGet.k (k:=.inr "fields") d1
 ·rw [← d3]; exact DGet.k (k:=.inr "heads") d1
 ·rw [← d4]; exact DGet.k (k:=.inr "owners") d1
 ·rw [← d5]; exact DGet.k (k:=.inr "sites") d1
noncomputable def hkd (m:Nat):Kd:=if m=4 then .hx else .h
theorem Z0z {H H':Hp} {a:y8} (s:Same H H') (h:H' a=none):H a=none:=by
 cases e:H a with
 | none=>rfl
 | some o=>rw [s _ _ e] at h; cases h
theorem Z1H {K:y9} {H H':Hp} {us:List V} {rows:List Row} (h:Paired (RowV K H) us rows) (s:SameT H H'):Paired (RowV K H') us rows:=Paired.imp' (fun _ _ ⟨r,e,x⟩=>⟨r,e,x.t s⟩) h
noncomputable def bM (k:Nat):Nat:=if k≤3 then k else 8
noncomputable def Z9M (K:y9) (H H':Hp) (l:y8) (rows:List Row):Prop:=Same H H'∧H l=none∧∃ us,H' l=some (.lst us)∧Paired (RowV K H') us rows
inductive J0F (K:y9) (m0:Nat) (vs:List V) (H:Hp) (Q:VK):Prop
 | mk (A:WA) (W:Wo) (n ho m:Nat) (c:Int) (a1:vs=[.ref A.wd,.int ho,.int c]) (a2:WO K H A W n) (a3:WF W) (a4:W.fields[ho]?=some m) (a5:m≤m0) (a6:∀ l rows H',Z9M K H H' l rows→(∀ ss sl st,Seg W ss rows sl st sl (hkd m::st))→rows.length≤bM m+1→Q (.ref l) H'):J0F K m0 vs H Q
def Z4m (K:y9) (m0:Nat):Sp:=fun vs H Q _=>J0F K m0 vs H Q
theorem Z3l {xs:List Nat} {i m:Nat} (h:xs[i]?=some m):atI (xs.map fun (m:Nat)=>V.int m) (i:Int)=some (.int m):=Z0C (by rw [qc8,h]; rfl)
section
noncomputable def MDI (K:y9) (W:Wo) (H0:Hp) (l:y8) (σ0:St) (k:Nat) (σ:St) (H:Hp):Prop:=∃ us rows o,Ch [l] H0 H∧H l=some (.lst us)∧Paired (RowV K H) us rows∧(∀ ss sl st,Seg W ss rows sl st sl (((qc6 k).map fk).reverse++st))∧rows.length≤bM k∧σ=σ0++[o]
theorem J0o (T:Txt P w K mg O0b O0a O0c) {lv m0 m1:Nat} (hlv:1≤lv) (hm:m1≤3∨3≤m0) (O0e:Has P w K mg base 1 "_law_mixed" ["_law_cell","_law_k"] Z3d) (O0m:Has P w K mg base 1 "_law_number" ["_law_cell"] Z3C) (O0H:Has P w K mg base lv "_law_made" ["_law_world_here","_law_house","_law_cell"] (Z4m K m0)):Has P w K mg base (lv+1) "_law_made" ["_law_world_here","_law_house","_law_cell"] (Z4m K m1):=by
 refine Has.of T.O2o O1e (fun _ _ _ _ _ _ us hl=>el3 us hl fun _ _ _=>rfl) (fun vs H Q E h=>?_) (fun f cdv A outer s H vs Q E hr h=>?_)
 ·obtain ⟨A,W,n,ho,m,c,rfl,_⟩:=h
  rfl
 obtain ⟨A',W,n,ho,m,c,rfl,hw,wf,hm1,hm2,q⟩:=h
 refine ⟨_,(Z0a (qG 3 O1e.nd (Z0s Z0N))
  (Z0a (Z2R PassesOwn.never rfl (Z0K rfl T.O0J (qI (qD K (qB hr 0) (pvF 1)))) (qH 4 O1e.nd) (Z0b (Z0t (qM Z0B (pvF 4) Z0c) (Z0b (Z0j (Z1c qa6 qh8 qh9 Z2z (pvF 3) (qI (qF O0H hr (qK (pvF 0) Z0c (qF O0e hr (qJ (pvF 2) Z0c)))))))) (Z0b (Z0j (Z1c qa6 qb3 qb4 Z0q (pvF 3) (qI (Z2G (qM Z0B (pvF 4) Z0c) (Z0k (qJ Z0g (Z1F Z0B (Z0h Z0u (Z0h Z0A (pvF 2) Z0c) Z0c) Z0c (Z2j _)))) (Z0k (qJ Z0g (qF O0m hr (qI (Z0h Z0x (Z0h Z0A (pvF 2) Z0c) (Z0h Z2h Z0c (pvF 4)))))))))))))))
  (Z0b (Z0n (Z0h Z1Y (pvF 3) (Z0s (qI (Z0k (qK Z0g (pvF 1) (qD K (qB hr 0) (pvF 1))))))))))),?_⟩
 refine seq3 fun uz2 huz2 uz1 huz1=>?_
 walk_at "rd"
 refine New.of fun l H1 h1 s1 e1=>?_
 have hw1:=hw.same s1
 obtain ⟨m',f0,f3⟩:=wf.f0
 obtain ⟨m2,m4⟩:=wf.fl m (qb9 hm1)
 subst huz1
 walk_at "rd"
 refine ⟨_,hw1.get.1,A'.fl,rfl,_,SqL.of hw1.fl,_,Z3l hm1,m,rfl,qR,qR,?_⟩
 rw [qd0]
 refine Z1h (MDI K W H1 l [some (.ref A'.wd),some (.int ho),some (.int c),some (.ref l)]) ⟨[],[],none,.refl,e1,.nil,(fun ss sl st=>Seg.nil),qa4 _,rfl⟩ (fun k σ H2 hk hI=>?_) (fun σ H2 hI=>?_)
 ·obtain ⟨us,rows,o,c2,e2,pr,sg,le,rfl⟩:=hI
  rw [qe6]
  have step:∀ {H3:Hp} {us':List V} {rows':List Row},Ch [l] H1 H3→Paired (RowV K H3) (us++us') (rows++rows')→(∀ ss sl st,Seg W ss rows' sl st sl (fk k::st))→rows.length+rows'.length≤bM (k+1)→H3 l=some (.lst (us++us'))→MDI K W H1 l [some (.ref A'.wd),some (.int ho),some (.int c),some (.ref l)] (k+1) [some (.ref A'.wd),some (.int ho),some (.int c),some (.ref l),some (.int k)] H3:=fun {H3 us' rows'} c3 p3 s3 l3 e3=>by
   refine ⟨_,_,_,c3,e3,p3,fun ss sl st=>?_,by rw [qa1]; exact l3,rfl⟩
   rw [List.range_succ,qe1,qh5]
   exact (sg ss sl st).app (s3 ss sl _)
  have S2:Same H H2:=Ch.same ((Ch.of s1).less c2 fun x hx=>.inr (by cases qc3.mp hx; exact h1))
  have bl:rows.length≤8:=by unfold bM at le; split at le <;> omega
  have lus:us.length≤8:=by rw [pr.length]; exact bl
  walk_at "rd"
  refine ite2 (fun z=>?_) (fun z=>⟨.inl ⟨rfl,_,SqL.of e2⟩,ite2 (fun z1=>?_) (fun z1=>?_)⟩)
  ·have hk3:k=3:=by omega
   refine ⟨.inl ⟨rfl,_,SqL.of e2⟩,c,3,rfl,fun r hr=>⟨A',W,n,0,m',r,rfl,hw.same S2,wf,f0,qR,fun l3 rows3 H3 nr sg3 le3=>?_⟩⟩
   obtain ⟨s3,h3,us3,e3,p3⟩:=nr
   have bl3:rows3.length≤4:=by unfold bM at le3; split at le3 <;> omega
   have e23:=s3 _ _ e2
   refine ⟨l3,rfl,_,e23,_,e3,by rw [p3.length]; omega,step (rows':=rows3) ((c2.trans (.of s3)).trans (.put _ e23 qb5)) ?_ ?_ ?_ Z0d⟩
   ·exact Z1H (Paired.appendP (Z1H pr (Same.t s3)) p3) (Z1I _ e23 Z1U)
   ·intro ss sl st
    have:=sg3 ss sl st
    rw [hk3]
    unfold hkd at this
    rw [if_neg qR] at this
    exact this
   ·rw [hk3] at le ⊢
    unfold bM at le ⊢
    rw [if_pos qR] at le
    rw [if_neg qR]
    omega
  ·have hk1:k=1:=by omega
   refine New.of fun t H3 h3 s3 e3=>⟨_,s3 _ _ e2,qR,step (us':=[.ref t]) (rows':=[.push (.bl (decide (c / 11 % 2=1)))]) ((c2.trans (.of s3)).trans (.put _ (s3 _ _ e2) qb5)) ?_ ?_ ?_ Z0d⟩
   ·exact Z1H (Paired.appendP (Z1H pr (Same.t s3)) (.cons ⟨t,rfl,_,SqT.of e3,rfl⟩ .nil)) (Z1I _ (s3 _ _ e2) Z1U)
   ·intro ss sl st x told r h
    rw [hk1] at h
    exact .push .bl h
   ·rw [hk1] at le ⊢
    exact Nat.add_le_add_right le 1
  ·refine ⟨_,rfl,fun v hv=>New.of fun t H3 h3 s3 e3=>⟨_,s3 _ _ e2,qR,step (us':=[.ref t]) (rows':=[.push (.int v)]) ((c2.trans (.of s3)).trans (.put _ (s3 _ _ e2) qb5)) ?_ ?_ ?_ Z0d⟩⟩
   ·exact Z1H (Paired.appendP (Z1H pr (Same.t s3)) (.cons ⟨t,rfl,_,SqT.of e3,rfl,hv⟩ .nil)) (Z1I _ (s3 _ _ e2) Z1U)
   ·intro ss sl st x told r h
    have:k=0∨k=2:=by omega
    rcases this with e | e
    ·rw [e] at h; exact .push (.int hv) h
    ·rw [e] at h; exact .push (.int hv) h
   ·have:k=0∨k=2:=by omega
    unfold bM at le ⊢
    rw [if_pos qR] at le ⊢
    show _+1≤_
    omega
 ·obtain ⟨us,rows,o,c2,e2,pr,sg,le,rfl⟩:=hI
  have S2:Same H H2:=Ch.same ((Ch.of s1).less c2 fun x hx=>.inr (by cases qc3.mp hx; exact h1))
  have hw2:=hw.same S2
  have bl:rows.length≤8:=by unfold bM at le; split at le <;> omega
  have lus:us.length≤8:=by rw [pr.length]; exact bl
  subst huz2
  walk_at "rd"
  refine ⟨_,hw2.get.1,A'.fl,rfl,_,SqL.of hw2.fl,_,Z3l hm1,New.of fun t H3 h3 s3 e3=>New.of fun l4 H4 h4 s4 e4=>⟨_,(s3.trans s4) _ _ e2,_,e4,by show _+1≤_; omega,New.of fun l5 H5 h5 s5 e5=>?_⟩⟩
  have S5:=s3.trans (s4.trans s5)
  refine q l5 (rows++[.make ho m]) H5 ⟨S2.trans S5,Z0z (S2.trans (s3.trans s4)) h5,_,e5,?_⟩ (fun ss sl st=>?_) (by rw [qa1]; show _+1≤_; omega)
  ·exact Paired.appendP (Z1H pr (Same.t S5)) (.cons ⟨t,rfl,SqT.of ((s4.trans s5) _ _ e3)⟩ .nil)
  ·exact (sg ss sl st).app fun x told r h=>.make hm1 h
theorem J1E (T:Txt P w K mg O0b O0a O0c):Has P w K mg base 1 "_law_made" ["_law_world_here","_law_house","_law_cell"] (Z4m K 0):=by
 refine Has.of T.O2o O1e (fun _ _ _ _ _ _ us hl=>el3 us hl fun _ _ _=>rfl) (fun vs H Q E h=>?_) (fun f cdv A outer s H vs Q E hr h=>?_)
 ·obtain ⟨A,W,n,ho,m,c,rfl,_⟩:=h
  rfl
 obtain ⟨A,W,n,ho,m,c,rfl,_,wf,e,z,_⟩:=h
 have:=(wf.fl m (qb9 e)).1
 omega
end
structure SA where
 st:y8
 ra:y8
 sa:y8
 la:y8
structure SO (K:y9) (H:Hp) (A:SA) (rows:List Row) (stk:List Kd) (sl:List (Option Kd)):Prop where
 d:H A.st=some (.dK [(.inr "rows",.ref A.ra),(.inr "stack",.ref A.sa),(.inr "slots",.ref A.la)])
 r:∃ us,H A.ra=some (.lst us)∧Paired (RowV K H) us rows
 s:H A.sa=some (.lst (stk.map kd))
 l:H A.la=some (.lst (sl.map okd))
 nd:A.ra≠A.sa∧A.ra≠A.la∧A.sa≠A.la
 hs:(∀ k∈stk,k≠.hx)∧∀ k,some k∈sl→k≠.hx
theorem SO.same {K:y9} {H H':Hp} {A:SA} {rows:List Row} {stk:List Kd} {sl:List (Option Kd)} (h:SO K H A rows stk sl) (s:Same H H'):SO K H' A rows stk sl:=by
 obtain ⟨us,r1,r2⟩:=h.r
 exact ⟨s _ _ h.d,⟨us,s _ _ r1,Z1H r2 (Same.t s)⟩,s _ _ h.s,s _ _ h.l,h.nd,h.hs⟩
theorem SO.get {K:y9} {H:Hp} {A:SA} {rows:List Row} {stk:List Kd} {sl:List (Option Kd)} (h:SO K H A rows stk sl):DGet H A.st (.str "rows") (some (.ref A.ra))∧DGet H A.st (.str "stack") (some (.ref A.sa))∧DGet H A.st (.str "slots") (some (.ref A.la)):=⟨DGet.k (k:=.inr "rows") h.d,DGet.k (k:=.inr "stack") h.d,DGet.k (k:=.inr "slots") h.d⟩
def K3 (k:Kd):Prop:=k≠.hx
inductive Z9X (K:y9) (vs:List V) (H:Hp) (Q:VK):Prop
 | mk (A:WA) (B:SA) (W:Wo) (n c:Nat) (rows:List Row) (stk:List Kd) (sl:List (Option Kd)) (k:Kd) (a1:vs=[.ref A.wd,.ref B.st,kd k,.int c]) (a2:WO K H A W n) (a3:WF W) (a4:SO K H B rows stk sl) (a5:k≠.hx) (a6:sl.length≤10) (a7:∀ l rows' H',Z9M K H H' l rows'→(∀ ss st,Seg W ss rows' sl st sl (k::st))→rows'.length≤9→Q (.ref l) H'):Z9X K vs H Q
def Z5G (K:y9):Sp:=fun vs H Q _=>Z9X K vs H Q
noncomputable def okD:Option Kd→PyData
 | none=>.none
 | some .n=>.str "n"
 | some .t=>.str "t"
 | some _=>.str "h"
theorem J2D {K:y9} {H:Hp} (o:Option Kd):RdD K H (okd o) (okD o):=by
 cases o with
 | none=>exact .non
 | some k=>cases k <;> exact .str _
theorem J5u {K:y9} {H:Hp} (k:Kd):RdD K H (kd k) (okD (some k)):=J2D (some k)
theorem J2h (o:Option Kd):SeqAt.shaped (okD o)=true:=by
 cases o with
 | none=>rfl
 | some k=>cases k <;> decide +kernel
theorem J2b {o:Option Kd} {k:Kd} (h1:o≠some .hx) (h2:k≠.hx):(okD o).eqv (okD (some k))=decide (o=some k):=by
 cases o with
 | none=>cases k <;> rfl
 | some l=>cases l <;> cases k <;> first | rfl | exact absurd rfl h1 | exact absurd rfl h2
theorem J2j {k:Kd} (h:k≠.hx):(kd k=.str "n"↔k=.n)∧(kd k=.str "t"↔k=.t)∧(kd k=.str "h"↔k=.h):=by
 cases k <;> first | exact absurd rfl h | (refine ⟨⟨fun z=>?_,fun z=>?_⟩,⟨fun z=>?_,fun z=>?_⟩,⟨fun z=>?_,fun z=>?_⟩⟩ <;> first | rfl | (cases z) | (revert z; decide))
section
theorem J3z (T:Txt P w K mg O0b O0a O0c) (O0m:Has P w K mg base 1 "_law_number" ["_law_cell"] Z3C) (O0H:Has P w K mg base 3 "_law_made" ["_law_world_here","_law_house","_law_cell"] (Z4m K 4)):Has P w K mg base 4 "_law_push" ["_law_world_here","_law_state","_law_kind","_law_cell"] (Z5G K):=by
  refine Has.of T.O3c O2a (fun _ _ _ _ _ _ us hl=>el4 us hl fun _ _ _ _=>rfl) (fun vs H Q E h=>?_) (fun f cdv A outer s H vs Q E hr h=>?_)
  · obtain ⟨A,B,W,n,c,rows,stk,sl,k,rfl,_⟩:=h
    rfl
  obtain ⟨A',B,W,n,c,rows,stk,sl,k,rfl,hw,wf,ho,hk,lsl,q⟩:=h
  refine ⟨_,(Z0a (Z1J rfl O2a.nd (i:=4) rfl rfl (BlockOk.of (N:=["_law_k","_law_kind","_law_state"]) (nl:=[none,some 2,some 1]) (cl:=[("_law_state",s.heap.objs.size+1),("_law_kind",s.heap.objs.size+2)]) rfl qP qP rfl (sub2 rfl rfl) (nm:=["_law_state","_law_kind"]) rfl qP rfl (fun i hi j hj=>by
            match i,hi with
            | 0,_=>cases hj
             | 1,_=>cases hj; exact ⟨_,rfl,rfl,rfl,.inl rfl⟩
             | 2,_=>cases hj; exact ⟨_,rfl,rfl,rfl,.inl rfl⟩
            )) (Z0K rfl T.O0J (qI (qL T.z_len (qI (qB hr 1)))))
          (fun C fp s H=>(qH 0 (show (["_law_k","_law_kind","_law_state"]:List Str).Nodup by decide +kernel)))
          (fun C fp s H=>(qM (r:=rEqD K) (Z3W hr.units) (qD K (qB hr 2) (pvF 0)) (pvF 1))) (fun C fp s H=>(pvF 0)))
    (Z0a (Z0t (PW.pt (Z3U (qM (r:=rNeN K) (Z4W hr.units) (pvF 4) (Z0s Z0N)) (Z2U (PW.pt (J3l (qM Z0B (Z0h Z0u (pvF 3) Z0c) Z0c) (J2e (PW.pt (Z3U (qM Z0B (pvF 2) Z0g) (Z2U (qM Z8F (Z0h Z0u (pvF 3) Z0c) Z0c)))))))))) (Z0b (Z0n (Z0s (qI (Z0k (qJ Z0g (qD K (pvF 4) (Z0h Z0u (Z0h Z0A (pvF 3) Z0c) (qL T.z_len (qI (pvF 4))))))))))) Z0o)
    (Z0a (Z0t (qM Z0B (pvF 2) Z0g) (Z0b (Z0n (Z0s (qI (Z0k (qJ Z0g (qF O0m hr (qI (Z0h Z0A (pvF 3) Z0c))))))))) Z0o)
    (Z0a (Z0t (qM Z0B (pvF 2) Z0g) (Z0b (Z0n (Z0s (qI (Z0k (qJ Z0g (Z1F Z0B (Z0h Z0u (Z0h Z0A (pvF 3) Z0c) Z0c) Z0c (Z2j _)))))))) Z0o)
    (Z0b (Z0n (qF O0H hr (qK (pvF 0) (Z0h Z0u (Z0h Z0A (pvF 3) Z0c) (qL T.z_len (qI (qB hr 0)))) (pvF 3))))))))),?_⟩
  refine seq5 fun uz4 huz4 uz3 huz3 uz2 huz2 uz1 huz1=>?_
  walk_at "rd"
  refine ⟨_,ho.get.2.2,B.la,rfl,_,.inl (SqL.of ho.l),qR,by rw [qa2]; omega,fun D hD=>?_⟩
  rw [qd0,qa2]
  refine Z3h none [some (kd k),some (.ref B.st)] (fun i=>decide (sl[i]?=some (some k))) rfl hD (by rw [sizeLine_eq]; omega) (fun i hi H1 K' s1 kk=>?_) (fun H1 s1 e1=>?_)
  · have ho1:=ho.same s1
    have hi':i < sl.length:=hi
    walk_at "rd"
    have e:atI (sl.map okd) (i:Int)=some (okd sl[i]):=Z0C (by rw [qc8,qb2 hi']; rfl)
    refine ⟨_,ho1.get.2.2,B.la,rfl,_,SqL.of ho1.l,_,e,_,J2D _,_,J5u _,J2h _,J2h _,?_⟩
    rw [J2b (fun z=>ho.hs.2 .hx (by rw [← z]; exact qe3 _) rfl) hk]
    have:=kk _ (Same.refl _)
    rw [qb2 hi'] at this
    have e2:decide (some sl[i]=some (some k))=decide (sl[i]=some k):=decide_eq_decide.mpr ⟨fun z=>qb7 z,fun z=>congrArg some z⟩
    rw [e2] at this
    exact this
  generalize hks:(qc6 sl.length).filter (fun i=>decide (sl[i]?=some (some k)))=ks at e1
  have ink:∀ i∈ks,sl[i]?=some (some k):=fun i hi=>by rw [← hks] at hi; exact of_decide_eq_true (qd8.mp hi).2
  have lks:ks.length≤10:=by rw [← hks]; exact qa7 (qf5 _ _) (by rw [qf6]; exact lsl)
  subst huz1
  walk_at "rd"
  refine New.of fun l2 H2 h2 s2 e2=>?_
  have hD2:=s2 _ _ e1
  have S2:=s1.trans s2
  have load:ks≠[]→∃ x,(SqL K H2 D x∨SqT K H2 D x)∧0 < (x.length:Int)∧IxL K D ((c:Int) / 15 % x.length) H2 fun x H1=>New H1 (HO.tup [V.str (Str.ofString "load"),x]) fun p H2=>New H2 (HO.lst [V.ref p]) fun p H2=>Q (V.ref p) H2:=fun ne=>by
    have l0:0 < ks.length:=qm3.mpr ne
    refine ⟨_,.inl (SqL.of hD2),by rw [qa2]; omega,?_⟩
    rw [qa2]
    have hj:(c:Int) / 15 % (ks.length:Int)=((c / 15 % ks.length:Nat):Int):=by rw [qf8,qg9]; rfl
    have jl:c / 15 % ks.length < ks.length:=qf9 _ l0
    rw [hj]
    refine ⟨_,SqL.of hD2,_,Z3l (qb2 jl),New.of fun t H3 h3 s3 e3=>New.of fun l4 H4 h4 s4 e4=>?_⟩
    refine q l4 [.load ks[c / 15 % ks.length]] H4 ⟨S2.trans (s3.trans s4),Z0z (S2.trans s3) h4,_,e4,.cons ⟨t,rfl,SqT.of (s4 _ _ e3)⟩ .nil⟩ (fun ss st x told r h=>?_) (by show 1≤9; omega)
    exact .load (ink _ (qe3 _)) h
  have rest:uz2 { nx:=fun x H'=>Q V.non H',rt:=Q } [some (V.ref A'.wd),some (V.ref B.st),some (kd k),some (V.int c),some (V.ref D)] H2:=by
    subst huz2
    walk_at "rd"
    have S3:∀ {v:AV} {v':V},AtV K H2 v' v→VT W [] v k→New H2 (HO.tup [V.str (Str.ofString "push"),v']) fun p H2=>New H2 (HO.lst [V.ref p]) fun p H2=>Q (V.ref p) H2:=fun {v v'} hv hk=>New.of fun t H3 h3 s3 e3=>New.of fun l4 H4 h4 s4 e4=>q l4 [.push v] H4 ⟨S2.trans (s3.trans s4),Z0z (S2.trans s3) h4,_,e4,.cons ⟨t,rfl,_,SqT.of (s4 _ _ e3),hv.t (Same.t (s3.trans s4))⟩ .nil⟩ (fun ss st x told r h=>.push hk h) (by show 1≤9; omega)
    refine ⟨by cases k <;> rfl,ite2 (fun z=>?_) (fun z=>?_)⟩
    · have e:=(J2j hk).1.mp z
      subst e
      exact ⟨_,rfl,fun v hv=>S3 (v:=.int v) ⟨rfl,hv⟩ (.int hv)⟩
    subst huz3
    walk_at "rd"
    refine ⟨by cases k <;> rfl,ite2 (fun z=>?_) (fun z2=>?_)⟩
    · have e:=(J2j hk).2.1.mp z
      subst e
      exact S3 (v:=.bl _) rfl .bl
    have kh:k=.h:=by
      cases k with
      | n=>exact absurd rfl z
      | t=>exact absurd rfl z2
      | h=>rfl
      | hx=>exact absurd rfl hk
    subst kh
    subst huz4
    walk_at "rd"
    have hw2:=hw.same S2
    obtain ⟨m',f0,f3⟩:=wf.f0
    have l0:0 < W.fields.length:=(qa9.mp f0).1
    have fn:=wf.fn
    refine ⟨_,hw2.get.1,A'.fl,rfl,_,.inl (SqL.of hw2.fl),by rw [qa2]; omega,?_⟩
    rw [qa2]
    have hj:(c:Int) / 15 % (W.fields.length:Int)=((c / 15 % W.fields.length:Nat):Int):=by rw [qf8,qg9]; rfl
    have jl:c / 15 % W.fields.length < W.fields.length:=qf9 _ l0
    rw [hj]
    have em:=qb2 jl
    have m4:=(wf.fl _ (qe3 jl)).2
    refine ⟨A',W,n,_,_,_,rfl,hw2,wf,em,m4,fun l rows' H3 nr sg le=>?_⟩
    obtain ⟨s3,h3,r3⟩:=nr
    refine q l rows' H3 ⟨S2.trans s3,Z0z S2 h3,r3⟩ (fun ss st x told r h=>sg ss sl st x told r ?_) (qa7 le (by unfold bM; split <;> omega))
    unfold hkd
    split
    · exact .wk h
    · exact h
  refine ⟨_,SqL.of hD2,SqL.of e2,ite2 (fun z=>?_) (fun z=>rest)⟩
  have ne:ks≠[]:=fun e=>by rw [e] at z; cases z
  refine ite2 (fun _=>load ne) (fun _=>⟨by cases k <;> rfl,ite2 (fun _=>ite2 (fun _=>load ne) (fun _=>rest)) (fun _=>rest)⟩)
end
def Ex (W:Wo) (ss:List Nat) (n:Nat) (rows:List Row) (sl:List (Option Kd)) (st:List Kd) (rows':List Row) (sl':List (Option Kd)) (st':List Kd):Prop:=∃ more,rows'=rows++more∧more.length≤n∧Seg W ss more sl st sl' st'
theorem Ex.refl {W:Wo} {ss:List Nat} {rows:List Row} {sl:List (Option Kd)} {st:List Kd}:Ex W ss 0 rows sl st rows sl st:=⟨[],(qg5 _).symm,qa0 _,Seg.nil⟩
theorem Ex.trans {W:Wo} {ss:List Nat} {n m:Nat} {r1 r2 r3:List Row} {l1 l2 l3:List (Option Kd)} {s1 s2 s3:List Kd} (a:Ex W ss n r1 l1 s1 r2 l2 s2) (b:Ex W ss m r2 l2 s2 r3 l3 s3):Ex W ss (n+m) r1 l1 s1 r3 l3 s3:=by
 obtain ⟨x,e1,h1,g1⟩:=a
 obtain ⟨y,e2,h2,g2⟩:=b
 exact ⟨x++y,by rw [e2,e1,qc7],by rw [qa1]; omega,g1.app g2⟩
theorem Ex.le {W:Wo} {ss:List Nat} {n m:Nat} {r1 r2:List Row} {l1 l2:List (Option Kd)} {s1 s2:List Kd} (a:Ex W ss n r1 l1 s1 r2 l2 s2) (h:n≤m):Ex W ss m r1 l1 s1 r2 l2 s2:=let ⟨x,e,l,g⟩:=a; ⟨x,e,qa7 l h,g⟩
theorem Ex.mono {W:Wo} {ss:List Nat} {n:Nat} {r1 r2:List Row} {l1 l2:List (Option Kd)} {s1 s2:List Kd} (a:Ex W ss n r1 l1 s1 r2 l2 s2) (x:List Nat):Ex W (ss++x) n r1 l1 s1 r2 l2 s2:=let ⟨y,e,l,g⟩:=a; ⟨y,e,l,g.mono x⟩
theorem Ex.len {W:Wo} {ss:List Nat} {n:Nat} {r1 r2:List Row} {l1 l2:List (Option Kd)} {s1 s2:List Kd} (a:Ex W ss n r1 l1 s1 r2 l2 s2):r2.length≤r1.length+n:=by
 obtain ⟨y,e,l,g⟩:=a
 rw [e,qa1]; omega
theorem Ex.one {W:Wo} {ss:List Nat} {r:Row} {rows:List Row} {l1 l2:List (Option Kd)} {s1 s2:List Kd} (h:Seg W ss [r] l1 s1 l2 s2):Ex W ss 1 rows l1 s1 (rows++[r]) l2 s2:=⟨[r],rfl,qa0 _,h⟩
structure Bo (K:y9) (H0 H:Hp) (A:WA) (B:SA) (W:Wo) (ss:List Nat) (rows:List Row) (stk:List Kd) (sl:List (Option Kd)):Prop where
 w:∃ n,WO K H0 A W n
 k:∀ b o,b≠A.si→H0 b=some o→H b=some o
 t:SameT H0 H
 f:WF W
 si:H A.si=some (.lst [.int ss.length])
 s:SO K H B rows stk sl
 fr:H0 B.st=none∧H0 B.ra=none∧H0 B.sa=none∧H0 B.la=none
 ll:sl.length≤10∧rows.length≤10000∧stk.length≤10000
section
variable {K:y9} {H0 H H':Hp} {A:WA} {B:SA} {W:Wo} {ss:List Nat} {rows:List Row} {stk:List Kd} {sl:List (Option Kd)}
theorem Bo.wo (h:Bo K H0 H A B W ss rows stk sl):WO K H A W ss.length:=by
 obtain ⟨n,w⟩:=h.w
 obtain ⟨kvs,d1,d2⟩:=w.d
 obtain ⟨hv,h1,h2⟩:=w.hd
 have nw:A.wd≠A.si:=fun z=>by rw [z,w.si] at d1; cases d1
 have nt:∀ {t:y8} {xs:List V},H0 t=some (.tup xs)→t≠A.si:=fun {t xs} e z=>by rw [z,w.si] at e; cases e
 exact ⟨⟨kvs,h.k _ _ nw d1,d2⟩,h.k _ _ w.ne.1 w.fl,⟨hv,h.k _ _ w.ne.2.1 h1,Paired.imp' (fun _ _ ⟨t,p,a,b,c,d⟩=>⟨t,p,a,h.k _ _ (nt b) b,h.k _ _ d c,d⟩) h2⟩,h.k _ _ w.ne.2.2 w.ow,h.si,w.ne⟩
theorem Bo.si0 (h:Bo K H0 H A B W ss rows stk sl):∃ x,H0 A.si=some x:=let ⟨_,w⟩:=h.w; ⟨_,w.si⟩
theorem Bo.free (h:Bo K H0 H A B W ss rows stk sl) {a:y8} (e:H a=none):H0 a=none:=by
 cases z:H0 a with
 | none=>rfl
 | some o=>
  by_cases c:a=A.si
  ·rw [c,h.si] at e; cases e
  ·rw [h.k _ _ c z] at e; cases e
theorem Bo.same (h:Bo K H0 H A B W ss rows stk sl) (s:Same H H'):Bo K H0 H' A B W ss rows stk sl:=
 ⟨h.w,fun b o n e=>s _ _ (h.k b o n e),h.t.trans (Same.t s),h.f,s _ _ h.si,h.s.same s,h.fr,h.ll⟩
theorem ne0 {a b:y8} {x:HO} (h:H0 a=some x) (e:H0 b=none):a≠b:=fun z=>by rw [z,e] at h; cases h
theorem Bo.addR (h:Bo K H0 H A B W ss rows stk sl) {us us':List V} {more:List Row} (e:H B.ra=some (.lst us)) (p:Paired (RowV K H) us rows) (p':Paired (RowV K H) us' more) (l:rows.length+more.length≤10000):Bo K H0 (upd H B.ra (.lst (us++us'))) A B W ss (rows++more) stk sl:=by
 obtain ⟨x,sx⟩:=h.si0
 have tt:=Z1I (.lst (us++us')) e Z1U
 refine ⟨h.w,fun b o n z=>?_,h.t.trans tt,h.f,by rw [Z0e (ne0 sx h.fr.2.1)]; exact h.si,⟨?_,⟨_,Z0d,Z1H (Paired.appendP p p') tt⟩,?_,?_,h.s.nd,h.s.hs⟩,h.fr,h.ll.1,by rw [qa1]; exact l,h.ll.2.2⟩
 ·rw [Z0e (ne0 z h.fr.2.1)]; exact h.k b o n z
 ·rw [Z0e (fun z=>by have:=h.s.d; rw [z,e] at this; cases this)]; exact h.s.d
 ·rw [Z0e h.s.nd.1.symm]; exact h.s.s
 ·rw [Z0e h.s.nd.2.1.symm]; exact h.s.l
theorem Bo.putS (h:Bo K H0 H A B W ss rows stk sl) {stk':List Kd} (hx:∀ k∈stk',k≠.hx) (l:stk'.length≤10000):Bo K H0 (upd H B.sa (.lst (stk'.map kd))) A B W ss rows stk' sl:=by
 obtain ⟨x,sx⟩:=h.si0
 have tt:=Z1I (.lst (stk'.map kd)) h.s.s Z1U
 obtain ⟨us,r1,r2⟩:=h.s.r
 refine ⟨h.w,fun b o n z=>?_,h.t.trans tt,h.f,by rw [Z0e (ne0 sx h.fr.2.2.1)]; exact h.si,⟨?_,⟨us,?_,Z1H r2 tt⟩,Z0d,?_,h.s.nd,hx,h.s.hs.2⟩,h.fr,h.ll.1,h.ll.2.1,l⟩
 ·rw [Z0e (ne0 z h.fr.2.2.1)]; exact h.k b o n z
 ·rw [Z0e (fun z=>by have:=h.s.d; rw [z,h.s.s] at this; cases this)]; exact h.s.d
 ·rw [Z0e h.s.nd.1]; exact r1
 ·rw [Z0e h.s.nd.2.2.symm]; exact h.s.l
theorem Bo.news (h:Bo K H0 H A B W ss rows stk sl) {q:y8} {stk':List Kd} (hq:H q=none) (hx:∀ k∈stk',k≠.hx) (l:stk'.length≤10000):Bo K H0 (upd (upd H q (.lst (stk'.map kd))) B.st (.dK [(.inr "rows",.ref B.ra),(.inr "stack",.ref q),(.inr "slots",.ref B.la)])) A { B with sa:=q } W ss rows stk' sl:=by
 have s1:=Z0f hq (.lst (stk'.map kd))
 have e1:upd H q (.lst (stk'.map kd)) q=some (.lst (stk'.map kd)):=Z0d
 have h1:=h.same s1
 have hqd:∀ {a:y8} {o:HO},H a=some o→a≠q:=fun {a o} e z=>by rw [z,hq] at e; cases e
 generalize upd H q (.lst (stk'.map kd))=H1 at *
 have tt:=Z1I (.dK [(.inr "rows",.ref B.ra),(.inr "stack",.ref q),(.inr "slots",.ref B.la)]) h1.s.d Z5W
 obtain ⟨x,sx⟩:=h.si0
 obtain ⟨us,r1,r2⟩:=h1.s.r
 have nl:∀ {a:y8} {xs:List V},H1 a=some (.lst xs)→a≠B.st:=fun {a xs} e z=>by rw [z,h1.s.d] at e; cases e
 obtain ⟨us0,r0,_⟩:=h.s.r
 refine ⟨h.w,fun b o n z=>?_,h1.t.trans tt,h.f,by rw [Z0e (ne0 sx h.fr.1)]; exact h1.si,⟨Z0d,⟨us,?_,Z1H r2 tt⟩,?_,?_,⟨hqd r0,h.s.nd.2.1,(hqd h.s.l).symm⟩,hx,h.s.hs.2⟩,⟨h.fr.1,h.fr.2.1,h.free hq,h.fr.2.2.2⟩,h.ll.1,h.ll.2.1,l⟩
 ·rw [Z0e (ne0 z h.fr.1)]; exact h1.k b o n z
 ·rw [Z0e (nl r1)]; exact r1
 ·rw [Z0e (nl e1)]; exact e1
 ·rw [Z0e (nl h1.s.l)]; exact h1.s.l
theorem Bo.slots (h:Bo K H0 H A B W ss rows stk sl) {sl':List (Option Kd)} (hx:∀ k,some k∈sl'→k≠.hx) (l:sl'.length≤10):Bo K H0 (upd H B.la (.lst (sl'.map okd))) A B W ss rows stk sl':=by
 obtain ⟨x,sx⟩:=h.si0
 have tt:=Z1I (.lst (sl'.map okd)) h.s.l Z1U
 obtain ⟨us,r1,r2⟩:=h.s.r
 refine ⟨h.w,fun b o n z=>?_,h.t.trans tt,h.f,by rw [Z0e (ne0 sx h.fr.2.2.2)]; exact h.si,⟨?_,⟨us,?_,Z1H r2 tt⟩,?_,Z0d,h.s.nd,h.s.hs.1,hx⟩,h.fr,l,h.ll.2⟩
 ·rw [Z0e (ne0 z h.fr.2.2.2)]; exact h.k b o n z
 ·rw [Z0e (fun z=>by have:=h.s.d; rw [z,h.s.l] at this; cases this)]; exact h.s.d
 ·rw [Z0e h.s.nd.2.1]; exact r1
 ·rw [Z0e h.s.nd.2.2]; exact h.s.s
theorem Bo.site (h:Bo K H0 H A B W ss rows stk sl) (w:Nat):Bo K H0 (upd H A.si (.lst [.int ((ss.length:Int)+1)])) A B W (ss++[w]) rows stk sl:=by
 obtain ⟨x,sx⟩:=h.si0
 have tt:=Z1I (.lst [.int ((ss.length:Int)+1)]) h.si Z1U
 obtain ⟨us,r1,r2⟩:=h.s.r
 refine ⟨h.w,fun b o n z=>?_,h.t.trans tt,h.f,?_,⟨?_,⟨us,?_,Z1H r2 tt⟩,?_,?_,h.s.nd,h.s.hs⟩,h.fr,h.ll⟩
 ·rw [Z0e n]; exact h.k b o n z
 ·rw [Z0d,qa1]; rfl
 ·rw [Z0e (ne0 sx h.fr.1).symm]; exact h.s.d
 ·rw [Z0e (ne0 sx h.fr.2.1).symm]; exact r1
 ·rw [Z0e (ne0 sx h.fr.2.2.1).symm]; exact h.s.s
 ·rw [Z0e (ne0 sx h.fr.2.2.2).symm]; exact h.s.l
end
inductive J0k (K:y9) (vs:List V) (H:Hp) (Q:VK):Prop
 | mk (H0:Hp) (A:WA) (B:SA) (W:Wo) (ss:List Nat) (rows:List Row) (stk:List Kd) (sl:List (Option Kd)) (ks:List Kd) (kl:y8) (c:Int) (a1:vs=[.ref A.wd,.ref B.st,.ref kl,.int c]) (a2:Bo K H0 H A B W ss rows stk sl) (a3:H kl=some (.lst (ks.map kd))) (a4:kl≠B.ra) (a5:ks.length≤3) (a6:(∀ k∈ks,k≠.hx)) (a7:rows.length≤9000) (a8:∀ B' rows' stk' H',Bo K H0 H' A B' W ss rows' stk' sl→B'.st=B.st→Ex W ss 27 rows sl stk.reverse rows' sl (ks.reverse++stk'.reverse)→stk'.length≤stk.length→Q .non H'):J0k K vs H Q
def Z3N (K:y9):Sp:=fun vs H Q _=>J0k K vs H Q
section
theorem J0J {K:y9} {H:Hp} {a:y8} {ks:List Kd} (h:H a=some (.lst (ks.map kd))):RdD K H (.ref a) (.list (ks.map fun k=>okD (some k))):=by
 refine .lst (SqL.of h) ?_
 clear h
 induction ks with
 | nil=>exact .nil
 | cons k ks ih=>exact .cons (J5u k) ih
theorem Z9e (xs:List V) (n:Nat) (h:n≤xs.length):cutV xs none (some (n:Int))=xs.take n:=by
 unfold cutV
 have e1:HT.sIx xs.length xs.length (some (n:Int))=n:=by rw [HT.sIx_nat]; omega
 have e2:HT.sIx xs.length 0 none=0:=rfl
 rw [e1,e2,qg1,qg2]
theorem Z9q (xs:List V) (n:Nat) (h:n≤xs.length):cutV xs (some (n:Int)) none=xs.drop n:=by
 unfold cutV
 have e1:HT.sIx xs.length 0 (some (n:Int))=n:=by rw [HT.sIx_nat]; omega
 have e2:HT.sIx xs.length xs.length none=xs.length:=rfl
 rw [e1,e2,qg8 (by rw [qe5]; exact qa0 _)]
theorem J2C:∀ {a b:List Kd},(∀ k∈a,k≠.hx)→(∀ k∈b,k≠.hx)→PyData.eqvAll (a.map fun k=>okD (some k)) (b.map fun k=>okD (some k))=true→a=b
 | [],[],_,_,_=>rfl
 | [],y::ys,_,_,h=>by simp [PyData.eqvAll] at h
 | x::xs,[],_,_,h=>by simp [PyData.eqvAll] at h
 | x::xs,y::ys,ha,hb,h=>by
  have h':((okD (some x)).eqv (okD (some y))&&PyData.eqvAll (xs.map fun k=>okD (some k)) (ys.map fun k=>okD (some k)))=true:=by
   have:=h
   simp only [qd5,PyData.eqvAll] at this
   exact this
  rw [qf1,J2b (fun z=>ha x qb5 (qb7 z)) (hb y qb5)] at h'
  obtain ⟨h1,h2⟩:=h'
  rw [qb7 (of_decide_eq_true h1),J2C (fun k hk=>ha k (qb1 _ hk)) (fun k hk=>hb k (qb1 _ hk)) h2]
theorem J7d {a b:List Kd} (ha:∀ k∈a,k≠.hx) (hb:∀ k∈b,k≠.hx) (h:(PyData.list (a.map fun k=>okD (some k))).eqv (.list (b.map fun k=>okD (some k)))=true):a=b:=J2C ha hb (by
 have:=h
 simp only [PyData.eqv] at this
 exact this)
theorem J7q (a:List Kd):L2.NbL 0 (2 * a.length) (a.map fun k=>okD (some k)):=by
 induction a with
 | nil=>exact .nil
 | cons k a ih=>exact .cons (a:=1) (by cases k <;> exact .str qP qP) ih (by rw [qb8]; omega)
theorem J5D (a:List Kd):SeqAt.shaped (.list (a.map fun k=>okD (some k)))=true:=(L2.Nb.lst (J7q a)).shaped qS
noncomputable def WTI (K:y9) (H0:Hp) (A:WA) (B:SA) (W:Wo) (ss:List Nat) (rows:List Row) (stk:List Kd) (sl:List (Option Kd)) (ks:List Kd) (kl:y8) (σ0:St) (i:Nat) (σ:St) (H:Hp):Prop:=∃ rows' o,Bo K H0 H A B W ss rows' stk sl∧H kl=some (.lst (ks.map kd))∧Ex W ss (9 * i) rows sl stk.reverse rows' sl ((ks.take i).reverse++stk.reverse)∧σ=σ0++[o]
theorem J3F (T:Txt P w K mg O0b O0a O0c) (O0e:Has P w K mg base 1 "_law_mixed" ["_law_cell","_law_k"] Z3d) (O0u:Has P w K mg base 4 "_law_push" ["_law_world_here","_law_state","_law_kind","_law_cell"] (Z5G K)):Has P w K mg base 5 "_law_want" ["_law_world_here","_law_state","_law_kinds","_law_cell"] (Z3N K):=by
 refine Has.of T.O3d O1f (fun _ _ _ _ _ _ us hl=>el4 us hl fun _ _ _ _=>rfl) (fun vs H Q E h=>?_) (fun f cdv A outer s H vs Q E hr h=>?_)
 ·obtain ⟨H0,A,B,W,ss,rows,stk,sl,ks,kl,c,rfl,_⟩:=h
  rfl
 obtain ⟨H0,A',B,W,ss,rows,stk,sl,ks,kl,c,rfl,hb,hkl,nkl,lks,hks,lro,q⟩:=h
 refine ⟨_,(Z0a (qG 4 O1f.nd (qL T.z_len (qI (pvF 2))))
  (Z0a (qG 5 O1f.nd (Z1R (J0P rfl) rfl T.z_max J5E (qJ Z0c (Z0h Z1n (qL T.z_len (qI (qB hr 1))) (pvF 4)))))
  (Z0b (Z0t (qM (r:=rEqD K) (Z3W hr.units) (Z0y (r:=rSlL K) Z4y (qB hr 1) (Z0D (pvF 5)) Z0E) (pvF 2)) (Z0b (Z1V (Z3k hr) (pvF 1) Z0g (Z0y (r:=rSlL K) Z4y (qB hr 1) Z0E (Z0D (pvF 5))) rfl)) (Z0b (Z2R PassesOwn.never rfl (Z0K rfl T.O0J (qI (pvF 4))) (qH 6 O1f.nd) (Z0b (Z0j (Z1c qa6 qh8 qh9 Z2z (qB hr 1) (qI (qF O0u hr (Z0r (pvF 0) (qK (pvF 1) (qD K (pvF 2) (pvF 6)) (qF O0e hr (qJ (pvF 3) (pvF 6)))))))))))))))),?_⟩
 refine seq3 fun uz2 huz2 uz1 huz1=>?_
 walk_at "rd"
 refine ⟨_,.inl (SqL.of hkl),?_⟩
 rw [qa2]
 subst huz1
 walk_at "rd"
 refine ⟨_,hb.s.get.2.1,B.sa,rfl,_,.inl (SqL.of hb.s.s),?_⟩
 rw [qa2,show (if (stk.length:Int) - ks.length > 0 then (stk.length:Int) - ks.length else 0)=((stk.length - ks.length:Nat):Int) by split <;> omega]
 generalize hn:stk.length - ks.length=n
 have nle:n≤stk.length:=by omega
 subst huz2
 walk_at "rd"
 refine ⟨_,hb.s.get.2.1,B.sa,rfl,_,SqL.of hb.s.s,New.of fun l1 H1 h1 s1 e1=>?_⟩
 rw [Z9q _ n (by rw [qa2]; exact nle),← List.map_drop] at e1
 have hb1:=hb.same s1
 have hk1:=s1 _ _ hkl
 have hxd:∀ k∈stk.drop n,k≠.hx:=fun k hk=>hb.s.hs.1 k (List.mem_of_mem_drop hk)
 refine ⟨_,J0J e1,_,J0J hk1,J5D _,J5D _,ite2 (fun z=>?_) (fun _=>?_)⟩
 ·have e:=J7d hxd hks z
  refine ⟨_,hb1.s.get.2.1,B.sa,rfl,_,SqL.of hb1.s.s,fun l2 h2=>?_⟩
  rw [Z9e _ n (by rw [qa2]; exact nle),← List.map_take]
  have hb2:=hb1.news (stk':=stk.take n) h2 (fun k hk=>hb.s.hs.1 k (ql9 hk)) (by rw [qc4]; have:=hb.ll.2.2; omega)
  refine ⟨_,DPut.k (k:=.inr "stack") ((Z0f h2 _) _ _ hb1.s.d) (by rw [sizeLine_eq]; show 3 < _; omega),q { B with sa:=l2 } rows _ _ hb2 rfl ?_ (by rw [qc4]; omega)⟩
  have es:stk.reverse=ks.reverse++(stk.take n).reverse:=by rw [← e,← qh5,List.take_append_drop]
  rw [← es]
  exact Ex.refl.le qR
 ·rw [qd0]
  refine ⟨qR,qR,Z1h (WTI K H0 A' B W ss rows stk sl ks kl [some (.ref A'.wd),some (.ref B.st),some (.ref kl),some (.int c),some (.int ks.length),some (.int n)]) ⟨rows,none,hb1,hk1,Ex.refl,rfl⟩ (fun i σ H2 hi hI=>?_) (fun σ H2 hI=>?_)⟩
  ·obtain ⟨rows',o,hb2,hk2,ex2,rfl⟩:=hI
   rw [qe6]
   have hik:=qb2 hi
   obtain ⟨us,u1,u2⟩:=hb2.s.r
   have lr:=ex2.len
   have lus:us.length=rows'.length:=u2.length
   walk_at "rd"
   refine ⟨_,hb2.s.get.1,.inl ⟨rfl,_,SqL.of u1⟩,_,SqL.of hk2,_,Z0C (by rw [qc8,hik]; rfl),c,i,rfl,fun r hr=>⟨A',B,W,ss.length,r,rows',stk,sl,ks[i],rfl,hb2.wo,hb2.f,hb2.s,hks _ (qe3 _),hb2.ll.1,fun l3 more H3 nr sg le=>?_⟩⟩
   obtain ⟨s3,h3,us3,e3,p3⟩:=nr
   have hb3:=hb2.same s3
   have lus3:us3.length=more.length:=p3.length
   refine ⟨B.ra,rfl,l3,rfl,_,s3 _ _ u1,_,e3,qR,rows'++more,_,hb3.addR (s3 _ _ u1) (Z1H u2 (Same.t s3)) p3 qR,?_,?_,rfl⟩
   ·rw [Z0e nkl]; exact s3 _ _ hk2
   ·rw [List.take_succ,hik]
    refine (ex2.trans ⟨more,rfl,le,?_⟩).le qR
    have:=sg ss ((ks.take i).reverse++stk.reverse)
    rw [show (ks.take i++(some ks[i]).toList).reverse++stk.reverse=ks[i]::((ks.take i).reverse++stk.reverse) by rw [Option.toList_some,qh5]; rfl]
    exact this
  ·obtain ⟨rows',o,hb2,hk2,ex2,rfl⟩:=hI
   rw [qg8 (qa0 _)] at ex2
   exact q B rows' stk H2 hb2 rfl (ex2.le qR) (qa0 _)
end
def PcQ (K:y9) (H0:Hp) (A:WA) (B:SA) (W:Wo) (ss:List Nat) (rows:List Row) (stk:List Kd) (sl:List (Option Kd)) (Q:VK):Prop:=
 ∀ B' x rows' stk' sl' H',x.length≤1→Bo K H0 H' A B' W (ss++x) rows' stk' sl'→B'.st=B.st→sl'.length=sl.length→Ex W (ss++x) 60 rows sl stk.reverse rows' sl' stk'.reverse→stk'.length≤stk.length+1→Q .non H'
inductive Z8a (K:y9) (vs:List V) (H:Hp) (Q:VK):Prop
 | mk (H0:Hp) (A:WA) (B:SA) (W:Wo) (ss:List Nat) (rows:List Row) (stk:List Kd) (sl:List (Option Kd)) (c:Nat) (a1:vs=[.ref A.wd,.ref B.st,.int c]) (a2:Bo K H0 H A B W ss rows stk sl) (a3:rows.length≤8000) (a4:stk.length≤100) (a5:2≤sl.length) (a6:PcQ K H0 A B W ss rows stk sl Q):Z8a K vs H Q
def Z1B (K:y9):Sp:=fun vs H Q _=>Z8a K vs H Q
section
variable {K:y9} {H0 H:Hp} {A:WA} {B:SA} {W:Wo} {ss:List Nat} {rows:List Row} {stk:List Kd} {sl:List (Option Kd)}
theorem Bo.row1 (h:Bo K H0 H A B W ss rows stk sl) {t:y8} {row:Row} (ht:RowAt K H t row) (l:rows.length≤9990):∃ us,H B.ra=some (.lst us)∧us.length < 16777216∧Bo K H0 (upd H B.ra (.lst (us++[.ref t]))) A B W ss (rows++[row]) stk sl:=by
 obtain ⟨us,u1,u2⟩:=h.s.r
 have:=u2.length
 exact ⟨us,u1,qR,h.addR u1 u2 (.cons ⟨t,rfl,ht⟩ .nil) (by show _+1≤_; omega)⟩
theorem Bo.rows1 (h:Bo K H0 H A B W ss rows stk sl) {us':List V} {more:List Row} (p:Paired (RowV K H) us' more) (l:rows.length+more.length≤9990):∃ us,H B.ra=some (.lst us)∧us.length+us'.length≤16777216∧Bo K H0 (upd H B.ra (.lst (us++us'))) A B W ss (rows++more) stk sl:=by
 obtain ⟨us,u1,u2⟩:=h.s.r
 have:=u2.length
 have:=p.length
 exact ⟨us,u1,qR,h.addR u1 u2 p qR⟩
theorem Bo.stk1 (h:Bo K H0 H A B W ss rows stk sl) {k:Kd} (hk:k≠.hx) (l:stk.length≤9990):H B.sa=some (.lst (stk.map kd))∧(stk.map kd).length < 16777216∧Bo K H0 (upd H B.sa (.lst (stk.map kd++[kd k]))) A B W ss rows (stk++[k]) sl:=by
 refine ⟨h.s.s,by rw [qa2]; omega,?_⟩
 have:=h.putS (stk':=stk++[k]) (fun x hx=>(qd9.mp hx).elim (h.s.hs.1 x) fun z=>by cases qc3.mp z; exact hk) (by rw [qa1]; show _+1≤_; omega)
 rw [qe1] at this
 exact this
theorem Bo.tyR (h:Bo K H0 H A B W ss rows stk sl):tyV K "list" (V.ref B.ra) H:=let ⟨_,u,_⟩:=h.s.r; .inl ⟨rfl,_,SqL.of u⟩
theorem Bo.tyS (h:Bo K H0 H A B W ss rows stk sl):tyV K "list" (V.ref B.sa) H:=.inl ⟨rfl,_,SqL.of h.s.s⟩
theorem PcQ.z {Q:VK} (q:PcQ K H0 A B W ss rows stk sl Q):∀ B' rows' stk' sl' H',Bo K H0 H' A B' W ss rows' stk' sl'→B'.st=B.st→sl'.length=sl.length→Ex W ss 60 rows sl stk.reverse rows' sl' stk'.reverse→stk'.length≤stk.length+1→Q .non H':=fun B' rows' stk' sl' H' h=>by
 have:=q B' [] rows' stk' sl' H'
 rw [qg5] at this
 exact this (qa4 _) h
theorem J2z {j:Int} (h:0≤j∧j < 3):∃ k x,k≠Kd.hx∧atI (Str.ofString "nth").cps.toList j=some x∧V.str { cps:=#[x] }=kd k:=by
 rcases (show j=0∨j=1∨j=2 by omega) with e | e | e
 ·subst e; exact ⟨.n,110,Kd.noConfusion,qP,congrArg V.str qP⟩
 ·subst e; exact ⟨.t,116,Kd.noConfusion,qP,congrArg V.str qP⟩
 ·subst e; exact ⟨.h,104,Kd.noConfusion,qP,congrArg V.str qP⟩
theorem rev1 {k:Kd}:(stk++[k]).reverse=k::stk.reverse:=by rw [qh5]; rfl
end
section
theorem J0u (T:Txt P w K mg O0b O0a O0c) (O0e:Has P w K mg base 1 "_law_mixed" ["_law_cell","_law_k"] Z3d) (O0u:Has P w K mg base 4 "_law_push" ["_law_world_here","_law_state","_law_kind","_law_cell"] (Z5G K)) (O0h:Has P w K mg base 5 "_law_want" ["_law_world_here","_law_state","_law_kinds","_law_cell"] (Z3N K)):Has P w K mg base 6 "_law_branch" ["_law_world_here","_law_state","_law_more"] (Z1B K):=by
 refine Has.of T.O2I O0T (fun _ _ _ _ _ _ us hl=>el3 us hl fun _ _ _=>rfl) (fun vs H Q E h=>?_) (fun f cdv A outer s H vs Q E hr h=>?_)
 ·obtain ⟨H0,A,B,W,ss,rows,stk,sl,c,rfl,_⟩:=h
  rfl
 obtain ⟨H0,A',B,W,ss,rows,stk,sl,c,rfl,hb,lro,lst,lsl,q⟩:=h
 refine ⟨_,(Z0a (Z0j (qF O0h hr (Z0r (pvF 0) (qK (pvF 1) (Z0s (qI Z0g)) (pvF 2)))))
  (Z0a (Z0t (qM Z0B (Z0h Z0u (pvF 2) Z0c) Z0c) (Z0a (Z0j (Z1c qa6 qb3 qb4 Z0q (qB hr 1) (qI (Z0k (qI Z0g)))))
  (Z0a (Z0j (Z1c qa6 qb3 qb4 Z0q (qB hr 1) (qI Z0g)))
  (Z0b Z4p))) Z0o)
  (Z0a (qG 3 O0T.nd (Z4c Z3J Z0g (Z0h Z0u (Z0h Z0A (pvF 2) Z0c) Z0c) (fun _ _=>rfl)))
  (Z0a (qG 4 O0T.nd (qF O0u hr (Z0r (pvF 0) (qK (pvF 1) (pvF 3) (qF O0e hr (qJ (pvF 2) Z0c))))))
  (Z0a (qG 5 O0T.nd (qF O0u hr (Z0r (pvF 0) (qK (pvF 1) (pvF 3) (qF O0e hr (qJ (pvF 2) Z0c))))))
  (Z0a (Z0j (Z1c qa6 qh8 qh9 Z2z (qB hr 1) (qI (Z0h Z1Y (Z0h Z1Y (Z0h Z1Y (Z0s (qI (Z0k (qJ Z0g (Z0h Z0x (qL T.z_len (qI (pvF 4))) Z0c))))) (pvF 4)) (Z0s (qI (Z0k (qJ Z0g (qL T.z_len (qI (pvF 5)))))))) (pvF 5)))))
  (Z0b (Z0j (Z1c qa6 qb3 qb4 Z0q (qB hr 1) (qI (pvF 3))))))))))),?_⟩
 refine seq7 fun uz6 huz6 uz5 huz5 uz4 huz4 uz3 huz3 uz2 huz2 uz1 huz1=>?_
 walk_at "rd"
 refine New.of fun l1 H1 h1 s1 e1=>?_
 have hb1:=hb.same s1
 obtain ⟨us0,u0,_⟩:=hb.s.r
 refine ⟨H0,A',B,W,ss,rows,stk,sl,[.t],l1,c,rfl,hb1,e1,(fun z=>by rw [z,u0] at h1; cases h1),by show 1≤3; omega,(fun k hk=>by cases qc3.mp hk; exact Kd.noConfusion),qR,fun B2 rows2 stk2 H2 hb2 st2 ex2 l2=>?_⟩
 have lr2:=ex2.len
 subst huz1
 walk_at "rd"
 rw [← st2]
 refine ite2 (fun z=>⟨_,hb2.s.get.1,hb2.tyR,New.of fun t H3 h3 s3 e3=>?_⟩) (fun z=>?_)
 ·obtain ⟨us,u1,ul,hb4⟩:=(hb2.same s3).row1 (row:=.nt) (SqT.of e3) qR
  refine ⟨B2.ra,rfl,us,u1,ul,?_⟩
  generalize upd H3 B2.ra (.lst (us++[.ref t]))=H4 at hb4 ⊢
  obtain ⟨v1,v2,hb5⟩:=hb4.stk1 (k:=.t) Kd.noConfusion qR
  refine ⟨_,hb4.s.get.2.1,hb4.tyS,B2.sa,rfl,_,v1,v2,q.z B2 _ _ _ _ hb5 st2 rfl ?_ (by rw [qa1]; show _+1≤_; omega)⟩
  rw [rev1]
  exact (ex2.trans (Ex.one fun x told r h=>.nt h)).le qR
 subst huz2
 walk_at "rd"
 obtain ⟨kk,x,nk,ax,ex⟩:=J2z (j:=(c:Int) / 3 % 3) qR
 refine ⟨qP,x,ax,?_⟩
 rw [ex]
 subst huz3
 walk_at "rd"
 refine ⟨_,_,rfl,fun r hr=>⟨A',B2,W,ss.length,r,rows2,stk2,sl,kk,rfl,hb2.wo,hb2.f,hb2.s,nk,hb2.ll.1,fun l3 m3 H3 nr3 sg3 le3=>?_⟩⟩
 obtain ⟨s3,h3,us3,e3,p3⟩:=nr3
 have hb3:=hb2.same s3
 subst huz4
 walk_at "rd"
 refine ⟨_,_,rfl,fun r hr=>⟨A',B2,W,ss.length,r,rows2,stk2,sl,kk,rfl,hb3.wo,hb3.f,hb3.s,nk,hb3.ll.1,fun l4 m4 H4 nr4 sg4 le4=>?_⟩⟩
 obtain ⟨s4,h4,us4,e4,p4⟩:=nr4
 have hb4:=hb3.same s4
 subst huz5
 walk_at "rd"
 have l3':us3.length=m3.length:=p3.length
 have l4':us4.length=m4.length:=p4.length
 refine ⟨_,hb4.s.get.1,hb4.tyR,_,.inl (SqL.of (s4 _ _ e3)),New.of fun t5 H5 h5 s5 e5=>New.of fun l6 H6 h6 s6 e6=>⟨_,e6,_,(s4.trans (s5.trans s6)) _ _ e3,by show 1+_≤_; omega,New.of fun l7 H7 h7 s7 e7=>⟨_,.inl (SqL.of ((s5.trans (s6.trans s7)) _ _ e4)),New.of fun t8 H8 h8 s8 e8=>New.of fun l9 H9 h9 s9 e9=>⟨_,(s8.trans s9) _ _ e7,_,e9,by simp only [qa1,qb8,qe2]; omega,New.of fun la Ha ha sa ea=>⟨_,ea,_,(s5.trans (s6.trans (s7.trans (s8.trans (s9.trans sa))))) _ _ e4,by simp only [qa1,qb8,qe2]; omega,New.of fun lb Hb hb' sb eb=>?_⟩⟩⟩⟩⟩
 have S5:=s5.trans (s6.trans (s7.trans (s8.trans (s9.trans (sa.trans sb)))))
 have pr:Paired (RowV K Hb) ([V.ref t5]++us3++[V.ref t8]++us4) ([.unl (m3.length+1)]++m3++[.skip m4.length]++m4):=by
  refine Paired.appendP (Paired.appendP (Paired.appendP (.cons ⟨t5,rfl,?_⟩ .nil) (Z1H p3 (Same.t (s4.trans S5)))) (.cons ⟨t8,rfl,?_⟩ .nil)) (Z1H p4 (Same.t S5))
  ·rw [l3'] at e5
   exact SqT.of ((s6.trans (s7.trans (s8.trans (s9.trans (sa.trans sb))))) _ _ e5)
  ·rw [l4'] at e8
   exact SqT.of ((s9.trans (sa.trans sb)) _ _ e8)
 obtain ⟨us,u1,ul,hbb⟩:=(hb4.same S5).rows1 pr (by simp only [qa1,qb8,qe2]; omega)
 refine ⟨B2.ra,rfl,us,u1,_,eb,ul,?_⟩
 generalize upd Hb B2.ra (.lst (us++([V.ref t5]++us3++[V.ref t8]++us4)))=Hc at hbb ⊢
 subst huz6
 walk_at "rd"
 obtain ⟨v1,v2,hb5⟩:=hbb.stk1 (k:=kk) nk qR
 refine ⟨_,hbb.s.get.2.1,hbb.tyS,B2.sa,rfl,_,v1,v2,q.z B2 _ _ _ _ hb5 st2 rfl ?_ (by rw [qa1]; show _+1≤_; omega)⟩
 rw [rev1]
 exact (ex2.trans ⟨_,rfl,(by simp only [qa1,qb8,qe2]; omega:_≤20),Seg.branch (sg3 ss _) (sg4 ss _) qR qR⟩).le qR
end
inductive Z4S (K:y9) (vs:List V) (H:Hp) (Q:VK):Prop
 | mk (H0:Hp) (A:WA) (B:SA) (W:Wo) (ss:List Nat) (rows:List Row) (stk:List Kd) (sl:List (Option Kd)) (c:Nat) (a1:vs=[.ref B.st,.int c]) (a2:Bo K H0 H A B W ss rows stk sl) (a3:rows.length≤8000) (a4:stk.length≤100) (a5:2≤sl.length) (a6:PcQ K H0 A B W ss rows stk sl Q):Z4S K vs H Q
def Z5d (K:y9):Sp:=fun vs H Q _=>Z4S K vs H Q
theorem J0s {o:Option (Option Kd)} (h:o.join.isSome=true):∃ k,o=some (some k):=by
 cases o with
 | none=>cases h
 | some o=>cases o with
  | none=>cases h
  | some k=>exact ⟨k,rfl⟩
section
theorem Z8H (T:Txt P w K mg O0b O0a O0c):Has P w K mg base 1 "_law_slotted" ["_law_state","_law_more"] (Z5d K):=by
  refine Has.of T.O2t O0F (fun _ _ _ _ _ _ us hl=>el2 us hl fun _ _=>rfl) (fun vs H Q E h=>?_) (fun f cdv A outer s H vs Q E hr h=>?_)
  · obtain ⟨H0,A,B,W,ss,rows,stk,sl,c,rfl,_⟩:=h
    rfl
  obtain ⟨H0,A',B,W,ss,rows,stk,sl,c,rfl,hb,lro,lst,lsl,q⟩:=h
  refine ⟨_,(Z0a (qG 2 O0F.nd (qL T.z_len (qI (qB hr 0))))
    (Z0a (Z1J rfl O0F.nd (i:=3) rfl rfl (BlockOk.of (N:=["_law_k","_law_state"]) (nl:=[none,some 0]) (cl:=[("_law_state",s.heap.objs.size+1)]) rfl qP qP rfl (sub1 rfl) (nm:=["_law_state"]) rfl qP rfl (fun i hi j hj=>by
            match i,hi with
            | 0,_=>cases hj
             | 1,_=>cases hj; exact ⟨_,rfl,rfl,rfl,.inl rfl⟩
            )) (Z0K rfl T.O0J (qI (pvF 2)))
          (fun C fp s H=>(qH 0 (show (["_law_k","_law_state"]:List Str).Nodup by decide +kernel)))
          (fun C fp s H=>(qM Z3S (qD K (qB hr 1) (pvF 0)) Z1d)) (fun C fp s H=>(pvF 0)))
    (Z0b (Z0t (PW.pt (Z3U (qM Z0B (Z0h Z0u (pvF 1) Z0c) Z0c) (Z2U (qM (r:=rNeN K) (Z4W hr.units) (qB hr 0) (Z0s Z0N))))) (Z0a (qG 4 O0F.nd (Z0h Z1n (Z0h Z1n (pvF 2) Z0c) (Z0h Z0u (Z0h Z0A (pvF 1) Z0c) Z0c)))
    (Z0a (Z1l (Z5f qa6 qk2 qk3 Z7i (qB hr 0)) (Z3p (qB hr 0) (pvF 4) Z1o))
    (Z0b (Z0j (Z1c qa6 qb3 qb4 Z0q (qB hr 0) (qI (Z0k (qJ Z0g (pvF 4))))))))) (Z0b (Z0t (qM (r:=rNeN K) (Z4W hr.units) (pvF 3) (Z0s Z0N)) (Z0a (qG 4 O0F.nd (qD K (pvF 3) (Z0h Z0u (Z0h Z0A (pvF 1) Z0c) (qL T.z_len (qI (pvF 3))))))
    (Z0a (Z0j (Z1c qa6 qb3 qb4 Z0q (qB hr 0) (qI (Z0k (qJ Z0g (pvF 4))))))
    (Z0b (Z0j (Z1c qa6 qb3 qb4 Z0q (qB hr 0) (qI (qD K (qB hr 0) (pvF 4)))))))) Z0o)))))),?_⟩
  refine seq3 fun uz2 huz2 uz1 huz1=>?_
  walk_at "rd"
  refine ⟨_,hb.s.get.2.2,B.la,rfl,_,.inl (SqL.of hb.s.l),?_⟩
  rw [qa2]
  have ll:=hb.ll.1
  subst huz1
  walk_at "rd"
  refine ⟨qR,qR,fun D hD=>?_⟩
  rw [qd0]
  refine Z3h none [some (.ref B.st)] (fun i=>(sl[i]?).join.isSome) rfl hD (by rw [sizeLine_eq]; omega) (fun i hi H1 K' s1 kk=>?_) (fun H1 s1 e1=>?_)
  · have hb1:=hb.same s1
    have hi':i < sl.length:=hi
    walk_at "rd"
    have e:atI (sl.map okd) (i:Int)=some (okd sl[i]):=Z0C (by rw [qc8,qb2 hi']; rfl)
    refine ⟨_,hb1.s.get.2.2,B.la,rfl,_,SqL.of hb1.s.l,_,e,?_⟩
    have:=kk _ (Same.refl _)
    rw [qb2 hi'] at this
    cases ho:sl[i] with
    | none=>
      rw [ho] at this
      exact this
    | some k=>
      rw [ho] at this
      cases k <;> exact this
  have hb1:=hb.same s1
  generalize hks:(qc6 sl.length).filter (fun i=>(sl[i]?).join.isSome)=ks at e1
  have ink:∀ i∈ks,∃ k,sl[i]?=some (some k):=fun i hi=>by rw [← hks] at hi; exact J0s (qd8.mp hi).2
  have lks:ks.length≤10:=by rw [← hks]; exact qa7 (qf5 _ _) (by rw [qf6]; exact ll)
  subst huz2
  walk_at "rd"
  have fin:∀ H2,Same H1 H2→New H2 (HO.lst []) fun p H2=>∃ x,SqL K H2 D x∧SqL K H2 p []∧if x.isEmpty=false then ∃ x,(SqL K H2 D x∨SqT K H2 D x)∧0 < (x.length:Int)∧IxL K D ((c:Int) / 2 % x.length) H2 fun x H1=>∃ x_1,DGet H1 B.st (V.str (Str.ofString "rows")) (some x_1)∧tyV K "list" x_1 H1∧New H1 (HO.tup [V.str (Str.ofString "load"),x]) fun p H2=>∃ l,x_1=V.ref l∧∃ x_2,H2 l=some (HO.lst x_2)∧x_2.length < 16777216∧∃ x_3,DGet (upd H2 l (HO.lst (x_2++[V.ref p]))) B.st (V.str (Str.ofString "stack")) (some x_3)∧tyV K "list" x_3 (upd H2 l (HO.lst (x_2++[V.ref p])))∧∃ x_4,DGet (upd H2 l (HO.lst (x_2++[V.ref p]))) B.st (V.str (Str.ofString "slots")) (some x_4)∧∃ p_1,x_4=V.ref p_1∧∃ i,x=V.int i∧IxL K p_1 i (upd H2 l (HO.lst (x_2++[V.ref p]))) fun x H1=>∃ l,x_3=V.ref l∧∃ x_5,H1 l=some (HO.lst x_5)∧x_5.length < 16777216∧Q V.non (upd H1 l (HO.lst (x_5++[x]))) else Q V.non H2:=fun H2 s2=>by
    have hb2:=hb1.same s2
    refine New.of fun l3 H3 h3 s3 e3=>⟨_,SqL.of ((s2.trans s3) _ _ e1),SqL.of e3,ite2 (fun ne=>?_) (fun _=>q.z B rows stk sl H3 (hb2.same s3) rfl rfl (Ex.refl.le qR) qR)⟩
    have hb3:=hb2.same s3
    have l0:0 < ks.length:=qm3.mpr fun e=>by rw [e] at ne; cases ne
    have hj:(c:Int) / 2 % (ks.length:Int)=((c / 2 % ks.length:Nat):Int):=by rw [qf8,qg9]; rfl
    have jl:c / 2 % ks.length < ks.length:=qf9 _ l0
    refine ⟨_,.inl (SqL.of ((s2.trans s3) _ _ e1)),by rw [qa2]; omega,?_⟩
    rw [qa2,hj]
    obtain ⟨k,hk⟩:=ink _ (qe3 jl)
    refine ⟨_,SqL.of ((s2.trans s3) _ _ e1),_,Z3l (qb2 jl),_,hb3.s.get.1,hb3.tyR,New.of fun t H4 h4 s4 e4=>?_⟩
    obtain ⟨us,u1,ul,hb5⟩:=(hb3.same s4).row1 (row:=.load ks[c / 2 % ks.length]) (SqT.of e4) qR
    refine ⟨B.ra,rfl,us,u1,ul,?_⟩
    generalize upd H4 B.ra (.lst (us++[.ref t]))=H5 at hb5 ⊢
    have nk:k≠.hx:=hb.s.hs.2 k (qb9 hk)
    obtain ⟨v1,v2,hb6⟩:=hb5.stk1 (k:=k) nk qR
    refine ⟨_,hb5.s.get.2.1,hb5.tyS,_,hb5.s.get.2.2,B.la,rfl,_,rfl,_,SqL.of hb5.s.l,_,Z0C (by rw [qc8,hk]; rfl),B.sa,rfl,_,v1,v2,q.z B _ _ _ _ hb6 rfl rfl ?_ (by rw [qa1]; show _+1≤_; omega)⟩
    rw [rev1]
    exact (Ex.one fun x told r h=>.load hk h).le qR
  refine ite2 (fun z=>⟨_,hb1.s.get.2.1,New.of fun l2 H2 h2 s2 e2=>⟨B.sa,rfl,_,SqL.of (s2 _ _ hb1.s.s),SqL.of e2,ite2 (fun ne=>?_) (fun _=>?_)⟩⟩) (fun _=>?_)
  · have hb2:=hb1.same s2
    have hne:stk≠[]:=fun e=>by rw [e] at ne; cases ne
    obtain ⟨st',k,rfl⟩:∃ st' k,stk=st'++[k]:=⟨stk.dropLast,stk.getLast hne,(List.dropLast_concat_getLast hne).symm⟩
    have hxs:=hb.s.hs.1
    have nk:k≠.hx:=hxs k (qe8 _ qb5)
    have lst':=lst
    rw [qa1] at lst'
    have hb3:=hb2.putS (stk':=st') (fun x hx=>hxs x (qj2 _ hx)) qR
    have ed:((st'++[k]).map kd).dropLast=st'.map kd:=by rw [qe1]; exact qk4
    refine ⟨_,hb2.s.get.2.1,hb2.tyS,B.sa,rfl,_,hb2.s.s,kd k,by rw [qe1]; simp,?_⟩
    rw [ed]
    generalize upd H2 B.sa (.lst (st'.map kd))=H3 at hb3 ⊢
    obtain ⟨j,hj,jl⟩:∃ j:Nat,(sl.length:Int) - 1 - (c:Int) / 2 % 2=j∧j < sl.length:=⟨sl.length - 1 - c / 2 % 2,qR,qR⟩
    rw [hj]
    have hb4:=hb3.slots (sl':=sl.set j (some k)) (fun x hx=>by
      rcases List.mem_or_eq_of_mem_set hx with z | z
      · exact hb.s.hs.2 x z
      · cases z; exact nk) (by rw [qf2]; exact ll)
    refine ⟨_,hb3.s.get.2.2,B.la,rfl,_,hb3.s.l,j,Z6U (by rw [qa2]; exact jl),?_⟩
    rw [show (sl.map okd).set j (kd k)=(sl.set j (some k)).map okd from (List.map_set (f:=okd) (a:=some k)).symm]
    generalize upd H3 B.la (.lst ((sl.set j (some k)).map okd))=H4 at hb4 ⊢
    refine ⟨_,hb4.s.get.1,hb4.tyR,New.of fun t H5 h5 s5 e5=>?_⟩
    obtain ⟨us,u1,ul,hb6⟩:=(hb4.same s5).row1 (row:=.keep j) (SqT.of e5) qR
    refine ⟨B.ra,rfl,us,u1,ul,q.z B _ _ _ _ hb6 rfl (qf2 ..) ?_ (by rw [qa1]; omega)⟩
    rw [rev1]
    exact (Ex.one fun x told r h=>.keep jl h).le qR
  rotate_left
  · obtain ⟨H2,hH2,s2⟩:∃ H2,H1=H2∧Same H1 H2:=⟨H1,rfl,Same.refl _⟩
    rw [hH2]
    exact fin H2 s2
  · exact fin H2 s2
end
theorem J4v {α β:Type} {R:α→β→Prop}:∀ {xs:List α} {ys:List β},Paired R xs ys→∀ {i:Nat} {y:β},ys[i]?=some y→∃ x,xs[i]?=some x∧R x y
 | _,_,.cons a b,0,y,h=>by cases h; exact ⟨_,rfl,a⟩
 | _,_,.cons a b,i+1,y,h=>J4v b h
section
theorem Z8t (T:Txt P w K mg O0b O0a O0c) (O0h:Has P w K mg base 5 "_law_want" ["_law_world_here","_law_state","_law_kinds","_law_cell"] (Z3N K)):Has P w K mg base 6 "_law_calling" ["_law_world_here","_law_state","_law_more"] (Z1B K):=by
 refine Has.of T.O2u O0x (fun _ _ _ _ _ _ us hl=>el3 us hl fun _ _ _=>rfl) (fun vs H Q E h=>?_) (fun f cdv A outer s H vs Q E hr h=>?_)
 ·obtain ⟨H0,A,B,W,ss,rows,stk,sl,c,rfl,_⟩:=h
  rfl
 obtain ⟨H0,A',B,W,ss,rows,stk,sl,c,rfl,hb,lro,lst,lsl,q⟩:=h
 refine ⟨_,(Z0a (qG 3 O0x.nd (Z1F Z0B (Z0h Z0u (pvF 2) Z0c) Z0c (Z2j _)))
  (Z0a (qG 4 O0x.nd (Z0h Z0u (Z0h Z0A (pvF 2) Z0c) (qL T.z_len (qI (qB hr 0)))))
  (Z0a (qG 5 O0x.nd (Z2G (Z3m (pvF 3)) (qD K (qB hr 0) (pvF 4)) (Z0h Z0u (Z0h Z0A (pvF 2) Z0c) (qL T.z_len (qI (qB hr 0))))))
  (Z0a (Z1l (qD K (qB hr 0) (pvF 5)) (Z1X (n:=2) rfl (Z0p (qH 6 O0x.nd) (Z0p (qH 7 O0x.nd) Z1W))))
  (Z0a (Z0j (qF O0h hr (Z0r (pvF 0) (qK (pvF 1) (Z0h Z1Y (Z0s (qI Z0g)) (pvF 6)) (Z0h Z0A (pvF 2) Z0c)))))
  (Z0a (Z0t (Z3m (pvF 3)) (Z0b (Z0j (Z1c qa6 qb3 qb4 Z0q (qB hr 1) (qI (Z0k (qK Z0g (pvF 4) (Z0h Z0x Z0c (qL T.z_len (qI (pvF 6)))))))))) (Z0a (Z0j (Z1c qa6 qb3 qb4 Z0q (qB hr 1) (qI (Z0k (Z0r Z0g (qK (qD K (qB hr 0) Z0c) (pvF 5) (Z0h Z0x Z0c (qL T.z_len (qI (pvF 6))))))))))
  (Z0b (Z1l (Z0h Z0x (qD K (qB hr 0) Z0c) Z0c) (Z3p (qB hr 0) Z0c Z1o)))))
  (Z0b (Z0j (Z1c qa6 qb3 qb4 Z0q (qB hr 1) (qI (pvF 7))))))))))),?_⟩
 refine seq7 fun uz6 huz6 uz5 huz5 uz4 huz4 uz3 huz3 uz2 huz2 uz1 huz1=>?_
 walk_at "rd"
 have wo:=hb.wo
 have wf:=hb.f
 obtain ⟨on,o0⟩:=wf.on
 obtain ⟨hn,h0⟩:=wf.hn
 subst huz1
 walk_at "rd"
 refine ⟨_,wo.get.2.2.1,A'.ow,rfl,_,.inl (SqL.of wo.ow),by rw [qa2]; omega,?_⟩
 rw [qa2,show (c:Int) / 3 % (W.owners.length:Int)=((c / 3 % W.owners.length:Nat):Int) by rw [qf8,qg9]; rfl]
 have bl:c / 3 % W.owners.length < W.owners.length:=qf9 _ o0
 have eb:=qb2 bl
 generalize hbk:c / 3 % W.owners.length=bk at bl eb ⊢
 have key:∀ wd:Nat,wd < W.heads.length→(c % 3=0→W.owners[bk]?=some wd)→uz3 { nx:=fun x H'=>Q V.non H',rt:=Q } [some (V.ref A'.wd),some (V.ref B.st),some (V.int c),some (V.bl (decide ((c:Int) % 3=0))),some (V.int bk),some (V.int wd),none,none] H:=fun wd hwd how=>by
  obtain ⟨n0,w0⟩:=hb.w
  obtain ⟨hv,g1,hh2⟩:=w0.hd
  have hh1:=hb.k _ _ w0.ne.2.1 g1
  obtain ⟨v,hd,ev,eh,t,pl,rfl,ht0,hpl0,npl⟩:∃ v hd,hv[wd]?=some v∧W.heads[wd]?=some hd∧HdV A'.si H0 v hd:=by
   have e:=qb2 hwd
   obtain ⟨v,h1,h2⟩:=J4v hh2 e
   exact ⟨v,_,h1,e,h2⟩
  obtain ⟨ps,tk⟩:=hd
  have ht:=hb.k _ _ (fun z=>by rw [z,w0.si] at ht0; cases ht0) ht0
  have hpl:=hb.k _ _ npl hpl0
  have hk:=wf.hk _ (qb9 eh)
  subst huz3
  walk_at "rd"
  refine ⟨_,wo.get.2.1,A'.hd,rfl,_,SqL.of hh1,_,Z0C ev,t,rfl,_,SqT.of ht,rfl,⟨_,_,rfl,⟨_,_,rfl,?_⟩⟩⟩
  refine ⟨rfl,?_⟩
  subst huz4
  walk_at "rd"
  have hk1:ps.length≤2:=hk.1
  refine New.of fun l1 H1 h1 s1 e1=>⟨_,e1,_,s1 _ _ hpl,by rw [qa2]; show 1+_≤_; omega,New.of fun l2 H2 h2 s2 e2=>?_⟩
  have hb2:=hb.same (s1.trans s2)
  obtain ⟨us0,u0,_⟩:=hb.s.r
  refine ⟨H0,A',B,W,ss,rows,stk,sl,.h::ps,l2,_,rfl,hb2,e2,(fun z=>by rw [z,s1 _ _ u0] at h2; cases h2),by show ps.length+1≤3; omega,(fun k hm=>(qa8.mp hm).elim (fun e=>by rw [e]; exact Kd.noConfusion) (hk.2.1 k)),qR,fun B3 rows3 stk3 H3 hb3 st3 ex3 l3=>?_⟩
  have hpl3:=hb3.k _ _ npl hpl0
  have lr3:=ex3.len
  rw [← st3]
  have fin:∀ (x:List Nat) (row:Row) (H4:Hp),x.length≤1→Bo K H0 H4 A' B3 W (ss++x) (rows3++[row]) stk3 sl→Seg W (ss++x) [row] sl ((.h::ps).reverse++stk3.reverse) sl (tk::stk3.reverse)→uz6 { nx:=fun x H'=>Q V.non H',rt:=Q } [some (V.ref A'.wd),some (V.ref B3.st),some (V.int c),some (V.bl (decide ((c:Int) % 3=0))),some (V.int bk),some (V.int wd),some (V.ref pl),some (kd tk)] H4:=fun x row H4 lx hb4 sg=>by
   subst huz6
   walk_at "rd"
   obtain ⟨v1,v2,hb5⟩:=hb4.stk1 (k:=tk) hk.2.2 qR
   refine ⟨_,hb4.s.get.2.1,hb4.tyS,B3.sa,rfl,_,v1,v2,q B3 x _ _ _ _ lx hb5 st3 rfl ?_ (by rw [qa1]; show _+1≤_; omega)⟩
   rw [rev1]
   exact ((ex3.mono x).trans (Ex.one sg)).le qR
  have el:(1:Int)+((ps.map kd).length:Int)=((1+ps.length:Nat):Int):=by rw [qa2]; omega
  have er:((.h::ps:List Kd)).reverse++stk3.reverse=ps.reverse++.h::stk3.reverse:=by rw [qa5,qc7]; rfl
  subst huz5
  walk_at "rd"
  refine ite2 (fun z=>⟨_,hb3.s.get.1,hb3.tyR,_,.inl (SqL.of hpl3),?_⟩) (fun z=>⟨_,hb3.s.get.1,hb3.tyR,_,hb3.wo.get.2.2.2,A'.si,rfl,_,SqL.of hb3.si,_,ix0,_,.inl (SqL.of hpl3),?_⟩)
  ·rw [el]
   refine New.of fun t H4 h4 s4 e4=>?_
   obtain ⟨us,u1,ul,hb5⟩:=(hb3.same s4).row1 (row:=.straight bk (1+ps.length)) (SqT.of e4) qR
   refine ⟨B3.ra,rfl,us,u1,ul,fin [] _ _ (qa4 _) (by rw [qg5]; exact hb5) ?_⟩
   rw [er]
   exact fun x told r h=>.straight (how qR) eh h
  ·rw [el]
   refine New.of fun t H4 h4 s4 e4=>?_
   obtain ⟨us,u1,ul,hb5⟩:=(hb3.same s4).row1 (row:=.call ss.length wd (1+ps.length)) (SqT.of e4) qR
   refine ⟨B3.ra,rfl,us,u1,ul,?_⟩
   generalize upd H4 B3.ra (.lst (us++[.ref t]))=H5 at hb5 ⊢
   refine ⟨_,hb5.wo.get.2.2.2,A'.si,rfl,_,SqL.of hb5.si,_,ix0,_,rfl,_,hb5.wo.get.2.2.2,A'.si,rfl,_,hb5.si,0,rfl,fin [wd] _ _ (qa0 _) (hb5.site wd) ?_⟩
   rw [er]
   exact fun x told r h=>.call (by rw [qc7,qd6 (qa0 _),qg3]; rfl) eh h
 subst huz2
 walk_at "rd"
 refine ite2 (fun z=>?_) (fun z=>?_)
 ·exact ⟨_,wo.get.2.2.1,A'.ow,rfl,_,SqL.of wo.ow,_,Z3l eb,key _ (wf.ow _ (qe3 bl)) (fun _=>eb)⟩
 ·refine ⟨_,wo.get.2.1,A'.hd,rfl,?_⟩
  obtain ⟨hv,hh1,hh2⟩:=wo.hd
  have lh:hv.length=W.heads.length:=hh2.length
  refine ⟨_,.inl (SqL.of hh1),qR,?_⟩
  rw [lh,show (c:Int) / 3 % (W.heads.length:Int)=((c / 3 % W.heads.length:Nat):Int) by rw [qf8,qg9]; rfl]
  exact key _ (qf9 _ h0) (fun z2=>absurd qR z)
end
section
theorem J1p (T:Txt P w K mg O0b O0a O0c) (O0H:Has P w K mg base 3 "_law_made" ["_law_world_here","_law_house","_law_cell"] (Z4m K 4)) (O0u:Has P w K mg base 4 "_law_push" ["_law_world_here","_law_state","_law_kind","_law_cell"] (Z5G K)):Has P w K mg base 5 "_law_inner_thing" ["_law_world_here","_law_state","_law_more"] (Z1B K):=by
  refine Has.of T.O1P O0L (fun _ _ _ _ _ _ us hl=>el3 us hl fun _ _ _=>rfl) (fun vs H Q E h=>?_) (fun f cdv A outer s H vs Q E hr h=>?_)
  · obtain ⟨H0,A,B,W,ss,rows,stk,sl,c,rfl,_⟩:=h
    rfl
  obtain ⟨H0,A',B,W,ss,rows,stk,sl,c,rfl,hb,lro,lst,lsl,q⟩:=h
  refine ⟨_,(Z0a (Z1J rfl O0L.nd (i:=3) rfl rfl (BlockOk.of (N:=["_law_house","_law_world_here"]) (nl:=[none,some 0]) (cl:=[("_law_world_here",s.heap.objs.size+1)]) rfl qP qP rfl (sub1 rfl) (nm:=["_law_world_here"]) rfl qP rfl (fun i hi j hj=>by
            match i,hi with
            | 0,_=>cases hj
             | 1,_=>cases hj; exact ⟨_,rfl,rfl,rfl,.inl rfl⟩
            )) (Z0K rfl T.O0J (qI (qL T.z_len (qI (qB hr 0)))))
          (fun C fp s H=>(qH 0 (show (["_law_house","_law_world_here"]:List Str).Nodup by decide +kernel)))
          (fun C fp s H=>(qM Z0B (qD K (qB hr 1) (pvF 0)) Z0c)) (fun C fp s H=>(pvF 0)))
    (Z0a (qG 4 O0L.nd (qD K (Z0h Z1Y (Z0s (qI Z0c)) (Z0h Z7O (pvF 3) Z0c)) (Z0h Z0u (Z0h Z0A (pvF 2) Z0c) (Z0h Z0x Z0c (Z0h Z2h Z0c (qL T.z_len (qI (pvF 3))))))))
    (Z0a (Z0j (Z1c qa6 qh8 qh9 Z2z (qB hr 1) (qI (qF O0H hr (qK (pvF 0) (pvF 4) (Z0h Z0A (pvF 2) Z0c))))))
    (Z0a (Z0t (PW.pt (Z3U (qM Z8F (pvF 4) Z0c) (Z2U (qM Z0B (Z0h Z0u (Z0h Z0A (pvF 2) Z0c) Z0c) Z0c)))) (Z0b (Z0j (Z1c qa6 qb3 qb4 Z0q (qB hr 1) (qI (Z0k (qJ Z0g Z0c)))))) (Z0b (Z0t (qM Z8F (pvF 4) Z0c) (Z0b (Z0j (Z1c qa6 qh8 qh9 Z2z (qB hr 1) (qI (Z0h Z1Y (qF O0u hr (Z0r (pvF 0) (qK (pvF 1) Z0g (Z0h Z0A (pvF 2) Z0c)))) (Z0s (qI (Z0k (qJ Z0g Z0c))))))))) Z0o)))
    (Z0b (Z0j (Z1c qa6 qb3 qb4 Z0q (qB hr 1) (qI Z0g)))))))),?_⟩
  refine seq5 fun uz4 huz4 uz3 huz3 uz2 huz2 uz1 huz1=>?_
  walk_at "rd"
  have wo:=hb.wo
  have wf:=hb.f
  have fn:=wf.fn
  refine ⟨_,wo.get.1,A'.fl,rfl,_,.inl (SqL.of wo.fl),qR,by rw [qa2]; omega,fun D hD=>?_⟩
  rw [qd0,qa2]
  refine Z3h none [some (.ref A'.wd)] (fun i=>decide (W.fields[i]?=some 4)) rfl hD (by rw [sizeLine_eq]; omega) (fun i hi H1 K' s1 kk=>?_) (fun H1 s1 e1=>?_)
  · have wo1:=wo.same s1
    have e:=qb2 hi
    walk_at "rd"
    refine ⟨_,wo1.get.1,A'.fl,rfl,_,SqL.of wo1.fl,_,Z3l e,rfl,?_⟩
    have:=kk _ (Same.refl _)
    rw [e] at this
    rw [show decide (V.int (W.fields[i]:Int)=V.int 4)=decide (some W.fields[i]=some 4) from decide_eq_decide.mpr ⟨fun z=>by have:=V.int.inj z; congr 1; omega,fun z=>by rw [qb7 z]; rfl⟩]
    exact this
  generalize hks:(qc6 W.fields.length).filter (fun i=>decide (W.fields[i]?=some 4))=ks at e1
  have ink:∀ i∈ks,W.fields[i]?=some 4:=fun i hi=>by rw [← hks] at hi; exact of_decide_eq_true (qd8.mp hi).2
  have lks:ks.length≤4:=by rw [← hks]; exact qa7 (qf5 _ _) (by rw [qf6]; exact fn)
  have hb1:=hb.same s1
  subst huz1
  walk_at "rd"
  refine New.of fun l2 H2 h2 s2 e2=>⟨_,s2 _ _ e1,by rw [qa2]; omega,fun l3 h3=>?_⟩
  have efl:∀ x:List V,x=ks.map (fun (m:Nat)=>V.int m)→[x,x,x,x,x,x,x,x,x].flatten=([ks,ks,ks,ks,ks,ks,ks,ks,ks].flatten).map (fun (m:Nat)=>V.int m):=fun x e=>by rw [e,List.map_flatten]; rfl
  rw [efl _ rfl]
  have s3:=Z0f h3 (.lst (([ks,ks,ks,ks,ks,ks,ks,ks,ks].flatten).map (fun (m:Nat)=>V.int m)))
  have e3:upd H2 l3 (.lst (([ks,ks,ks,ks,ks,ks,ks,ks,ks].flatten).map (fun (m:Nat)=>V.int m))) l3=some (.lst (([ks,ks,ks,ks,ks,ks,ks,ks,ks].flatten).map (fun (m:Nat)=>V.int m))):=Z0d
  generalize upd H2 l3 (.lst (([ks,ks,ks,ks,ks,ks,ks,ks,ks].flatten).map (fun (m:Nat)=>V.int m)))=H3 at s3 e3 ⊢
  have lfl:([ks,ks,ks,ks,ks,ks,ks,ks,ks].flatten).length=9 * ks.length:=by simp only [qh1,List.flatten_nil,qa1,qe2]; omega
  have mfl:∀ x∈[ks,ks,ks,ks,ks,ks,ks,ks,ks].flatten,x∈ks:=fun x hx=>by
    obtain ⟨l,hl,hx⟩:=(List.mem_flatten.mp hx)
    have:l=ks:=by simpa using hl
    exact this▸hx
  generalize [ks,ks,ks,ks,ks,ks,ks,ks,ks].flatten=fl at e3 lfl mfl
  refine ⟨_,s3 _ _ e2,_,e3,by rw [qa2]; show 1+_≤_; omega,New.of fun l4 H4 h4 s4 e4=>⟨_,.inl (SqL.of ((s2.trans (s3.trans s4)) _ _ e1)),qR,?_⟩⟩
  rw [qa2,show (c:Int) / 5 % (1+9 * (ks.length:Int))=((c / 5 % (1+9 * ks.length):Nat):Int) by rw [qf8,qg9]; push_cast; rfl]
  have jl:c / 5 % (1+9 * ks.length) < (0::fl).length:=by rw [qb8,lfl]; have:=qf9 (c / 5) (show 0 < 1+9 * ks.length by omega); omega
  have ej:=qb2 jl
  have e4:H4 l4=some (.lst ((0::fl).map fun (m:Nat)=>V.int m)):=e4
  refine ⟨_,SqL.of e4,_,Z3l ej,?_⟩
  have hin:=qa8.mp (qe3 jl)
  generalize (0::fl)[c / 5 % (1+9 * ks.length)]=ho at hin ⊢
  have hb4:=hb1.same (s2.trans (s3.trans s4))
  obtain ⟨m',f0,f3⟩:=wf.f0
  obtain ⟨m,em,hm⟩:∃ m,W.fields[ho]?=some m∧(ho=0∧m≤3∨0 < ho∧m=4):=by
    rcases hin with z | z
    · exact ⟨m',by rw [z]; exact f0,.inl ⟨z,f3⟩⟩
    · have e:=ink ho (mfl ho z)
      refine ⟨4,e,.inr ⟨Nat.pos_of_ne_zero fun z=>?_,rfl⟩⟩
      rw [z,f0] at e
      have:=qb7 e
      omega
  subst huz2
  walk_at "rd"
  refine ⟨_,hb4.s.get.1,hb4.tyR,A',W,ss.length,ho,m,_,rfl,hb4.wo,wf,em,(wf.fl m (qb9 em)).2,fun l5 m5 H5 nr sg5 le5=>?_⟩
  obtain ⟨s5,h5,us5,e5,p5⟩:=nr
  have b5:m5.length≤9:=qa7 le5 (by unfold bM; split <;> omega)
  obtain ⟨us,u1,ul,hb6⟩:=(hb4.same s5).rows1 p5 qR
  refine ⟨B.ra,rfl,l5,rfl,us,u1,_,e5,ul,?_⟩
  generalize upd H5 B.ra (.lst (us++us5))=H6 at hb6 ⊢
  have ex6:Ex W ss 9 rows sl stk.reverse (rows++m5) sl (hkd m::stk.reverse):=⟨m5,rfl,b5,sg5 ss sl _⟩
  have fin:∀ (rows':List Row) (H7:Hp),Bo K H0 H7 A' B W ss rows' stk sl→Ex W ss 50 rows sl stk.reverse rows' sl (.h::stk.reverse)→uz4 { nx:=fun x H'=>Q V.non H',rt:=Q } [some (V.ref A'.wd),some (V.ref B.st),some (V.int c),some (V.ref D),some (V.int ho)] H7:=fun rows' H7 hb7 ex7=>by
    subst huz4
    walk_at "rd"
    obtain ⟨v1,v2,hb8⟩:=hb7.stk1 (k:=.h) Kd.noConfusion qR
    refine ⟨_,hb7.s.get.2.1,hb7.tyS,B.sa,rfl,_,v1,v2,q.z B _ _ _ _ hb8 rfl rfl ?_ (by rw [qa1]; show _+1≤_; omega)⟩
    rw [rev1]
    exact ex7.le qR
  have small:¬ (0 < (ho:Int))→hkd m=.h:=fun z=>by
    rcases hm with ⟨_,h⟩ | ⟨h,_⟩
    · unfold hkd; rw [if_neg qR]
    · exact absurd qR z
  have big:0 < (ho:Int)→hkd m=.hx:=fun z=>by
    rcases hm with ⟨h,_⟩ | ⟨_,h⟩
    · exact absurd z qR
    · unfold hkd; rw [if_pos h]
  subst huz3
  walk_at "rd"
  refine ite2 (fun z=>ite2 (fun _=>⟨_,hb6.s.get.1,hb6.tyR,New.of fun t H7 h7 s7 e7=>?_⟩) (fun _=>ite2 (fun _=>?_) (fun z2=>absurd z z2))) (fun z=>ite2 (fun z2=>absurd z2 z) (fun _=>fin _ _ hb6 ?_))
  · rw [big z] at ex6
    obtain ⟨us,u1,ul,hb8⟩:=(hb6.same s7).row1 (row:=.get 3) (SqT.of e7) (by rw [qa1]; omega)
    exact ⟨B.ra,rfl,us,u1,ul,fin _ _ hb8 ((ex6.trans (Ex.one fun x told r h=>.get3 h)).le qR)⟩
  · rw [big z] at ex6
    rw [show (c:Int) / 50=((c / 50:Nat):Int) from rfl]
    refine ⟨_,hb6.s.get.1,hb6.tyR,A',B,W,ss.length,c / 50,_,stk,sl,.h,rfl,hb6.wo,wf,hb6.s,Kd.noConfusion,hb6.ll.1,fun l7 m7 H7 nr7 sg7 le7=>?_⟩
    obtain ⟨s7,h7,us7,e7,p7⟩:=nr7
    have lu7:us7.length=m7.length:=p7.length
    refine New.of fun t8 H8 h8 s8 e8=>New.of fun l9 H9 h9 s9 e9=>⟨l7,rfl,_,(s8.trans s9) _ _ e7,_,e9,by show _+1≤_; omega,New.of fun la Ha ha sa ea=>?_⟩
    have S8:=s8.trans (s9.trans sa)
    have pr:Paired (RowV K Ha) (us7++[V.ref t8]) (m7++[.put 3]):=Paired.appendP (Z1H p7 (Same.t S8)) (.cons ⟨t8,rfl,SqT.of ((s9.trans sa) _ _ e8)⟩ .nil)
    obtain ⟨us,u1,ul,hb8⟩:=(hb6.same (s7.trans S8)).rows1 pr (by simp only [qa1,qb8,qe2]; omega)
    refine ⟨B.ra,rfl,us,u1,_,ea,ul,fin _ _ hb8 ((ex6.trans ⟨m7++[.put 3],rfl,(by simp only [qa1,qb8,qe2]; omega:_≤10),(sg7 ss _).app (b:=[.put 3]) fun x told r h=>.put3 h⟩).le qR)⟩
  · rw [small z] at ex6
    exact ex6.le qR
end
theorem J5L {pl:Nat} (h:pl < 3):fk pl≠Kd.hx∧∃ x,atI (Str.ofString "ntn").cps.toList (pl:Int)=some x∧V.str { cps:=#[x] }=kd (fk pl):=by
 rcases (show pl=0∨pl=1∨pl=2 by omega) with e | e | e
 ·subst e; exact ⟨Kd.noConfusion,110,qP,congrArg V.str qP⟩
 ·subst e; exact ⟨Kd.noConfusion,116,qP,congrArg V.str qP⟩
 ·subst e; exact ⟨Kd.noConfusion,110,qP,congrArg V.str qP⟩
section
theorem J1J (T:Txt P w K mg O0b O0a O0c) (O0h:Has P w K mg base 5 "_law_want" ["_law_world_here","_law_state","_law_kinds","_law_cell"] (Z3N K)) (O0Q:Has P w K mg base 5 "_law_inner_thing" ["_law_world_here","_law_state","_law_more"] (Z1B K)):Has P w K mg base 6 "_law_about_thing" ["_law_world_here","_law_state","_law_more"] (Z1B K):=by
 refine Has.of T.O1Q O0Z (fun _ _ _ _ _ _ us hl=>el3 us hl fun _ _ _=>rfl) (fun vs H Q E h=>?_) (fun f cdv A outer s H vs Q E hr h=>?_)
 ·obtain ⟨H0,A,B,W,ss,rows,stk,sl,c,rfl,_⟩:=h
  rfl
 obtain ⟨H0,A',B,W,ss,rows,stk,sl,c,rfl,hb,lro,lst,lsl,q⟩:=h
 refine ⟨_,(Z0a (qG 3 O0Z.nd (Z0h Z0u (Z0h Z0A (pvF 2) Z0c) (Z1R (r:=J3v K) (Z8V rfl) rfl T.z_min J2M (qI (qB hr 0)))))
  (Z0b (Z0t (qM Z0B (Z0h Z0u (pvF 2) Z0c) Z0c) (Z0b (Z0j (qF O0Q hr (qK (pvF 0) (pvF 1) (Z0h Z0A (pvF 2) Z0c))))) (Z0b (Z0t (qM Z4z (Z0h Z0u (pvF 2) Z0c) Z0c) (Z0a (Z0j (qF O0h hr (Z0r (pvF 0) (qK (pvF 1) (Z0s (qI Z0g)) (Z0h Z0A (pvF 2) Z0c)))))
  (Z0a (Z0j (Z1c qa6 qb3 qb4 Z0q (qB hr 1) (qI (Z0k (qJ Z0g (pvF 3))))))
  (Z0b (Z0j (Z1c qa6 qb3 qb4 Z0q (qB hr 1) (qI (Z4c Z3J Z0g (pvF 3) (fun _ _=>rfl)))))))) (Z0b (Z0t (qM Z0B (Z0h Z0u (pvF 2) Z0c) Z0c) (Z0a (Z0j (qF O0h hr (Z0r (pvF 0) (qK (pvF 1) (Z0s (qJ Z0g (Z4c Z3J Z0g (pvF 3) (fun _ _=>rfl)))) (Z0h Z0A (pvF 2) Z0c)))))
  (Z0a (Z0j (Z1c qa6 qb3 qb4 Z0q (qB hr 1) (qI (Z0k (qJ Z0g (pvF 3))))))
  (Z0b (Z0j (Z1c qa6 qb3 qb4 Z0q (qB hr 1) (qI (Z4c Z3J Z0g (pvF 3) (fun _ _=>rfl)))))))) (Z0b (Z0t (qM (r:=rNeN K) (Z4W hr.units) (qB hr 1) (Z0s Z0N)) (Z0a (Z0j (Z1c qa6 qb3 qb4 Z0q (qB hr 1) (qI (Z0k (qI Z0g)))))
  (Z0b (Z0j (Z5f qa6 qk2 qk3 Z7i (qB hr 1))))) Z0o))))))))),?_⟩
 refine seq2 fun uz1 huz1=>?_
 walk_at "rd"
 have wo:=hb.wo
 have wf:=hb.f
 obtain ⟨m',f0,f3⟩:=wf.f0
 refine ⟨_,wo.get.1,A'.fl,rfl,W.fields.map fun (m:Nat)=>(m:Int),by rw [qj7]; exact SqL.of wo.fl,(fun z=>by have:=List.map_eq_nil_iff.mp z; rw [this] at f0; cases f0),fun mi hmi=>?_⟩
 obtain ⟨mn,hmn,rfl⟩:=qh3.mp hmi.1
 obtain ⟨mn2,mn4⟩:=wf.fl mn hmn
 have mle:∀ m∈W.fields,mn≤m:=fun m hm=>by have:=hmi.2 _ (qh3.mpr ⟨m,hm,rfl⟩); omega
 have mn3:mn≤3:=qa7 (mle m' (qb9 f0)) f3
 refine ⟨qR,?_⟩
 obtain ⟨pl,epl,plm⟩:∃ pl:Nat,(c:Int) / 5 % (mn:Int)=pl∧pl < mn:=⟨c / 5 % mn,by rw [qf8,qg9]; rfl,qf9 _ qR⟩
 rw [epl]
 have pla:∀ m∈W.fields,pl < m:=fun m hm=>qc1 plm (mle m hm)
 obtain ⟨nk,x,ax,ex⟩:=J5L (show pl < 3 by omega)
 obtain ⟨us0,u0,_⟩:=hb.s.r
 have len3:(Str.ofString "ntn").length≤16777216:=by decide +kernel
 subst huz1
 walk_at "rd"
 refine ite2 (fun _=>?_) (fun _=>ite2 (fun _=>?_) (fun _=>ite2 (fun _=>?_) (fun _=>?_)))
 ·rw [show (c:Int) / 2=((c / 2:Nat):Int) from rfl]
  exact ⟨H0,A',B,W,ss,rows,stk,sl,c / 2,rfl,hb,lro,lst,lsl,q⟩
 ·refine New.of fun l1 H1 h1 s1 e1=>?_
  refine ⟨H0,A',B,W,ss,rows,stk,sl,[.h],l1,_,rfl,hb.same s1,e1,(fun z=>by rw [z,u0] at h1; cases h1),by show 1≤3; omega,(fun k hk=>by cases qc3.mp hk; exact Kd.noConfusion),qR,fun B2 rows2 stk2 H2 hb2 st2 ex2 l2=>?_⟩
  have lr2:=ex2.len
  rw [← st2]
  refine ⟨_,hb2.s.get.1,hb2.tyR,New.of fun t H3 h3 s3 e3=>?_⟩
  obtain ⟨us,u1,ul,hb4⟩:=(hb2.same s3).row1 (row:=.get pl) (SqT.of e3) qR
  refine ⟨B2.ra,rfl,us,u1,ul,?_⟩
  generalize upd H3 B2.ra (.lst (us++[.ref t]))=H4 at hb4 ⊢
  obtain ⟨v1,v2,hb5⟩:=hb4.stk1 (k:=fk pl) nk qR
  refine ⟨_,hb4.s.get.2.1,hb4.tyS,len3,x,ax,B2.sa,rfl,_,v1,v2,?_⟩
  rw [ex]
  refine q.z B2 _ _ _ _ hb5 st2 rfl ?_ (by rw [qa1]; show _+1≤_; omega)
  rw [rev1]
  exact (ex2.trans (Ex.one fun x told r h=>.get pla h)).le qR
 ·refine ⟨len3,x,ax,?_⟩
  rw [ex]
  refine New.of fun l1 H1 h1 s1 e1=>?_
  refine ⟨H0,A',B,W,ss,rows,stk,sl,[.h,fk pl],l1,_,rfl,hb.same s1,e1,(fun z=>by rw [z,u0] at h1; cases h1),by show 2≤3; omega,(fun k hk=>(qa8.mp hk).elim (fun e=>by rw [e]; exact Kd.noConfusion) (fun e=>by cases qc3.mp e; exact nk)),qR,fun B2 rows2 stk2 H2 hb2 st2 ex2 l2=>?_⟩
  have lr2:=ex2.len
  rw [← st2]
  refine ⟨_,hb2.s.get.1,hb2.tyR,New.of fun t H3 h3 s3 e3=>?_⟩
  obtain ⟨us,u1,ul,hb4⟩:=(hb2.same s3).row1 (row:=.put pl) (SqT.of e3) qR
  refine ⟨B2.ra,rfl,us,u1,ul,?_⟩
  generalize upd H3 B2.ra (.lst (us++[.ref t]))=H4 at hb4 ⊢
  obtain ⟨v1,v2,hb5⟩:=hb4.stk1 (k:=fk pl) nk qR
  refine ⟨_,hb4.s.get.2.1,hb4.tyS,len3,x,ax,B2.sa,rfl,_,v1,v2,?_⟩
  rw [ex]
  refine q.z B2 _ _ _ _ hb5 st2 rfl ?_ (by rw [qa1]; show _+1≤_; omega)
  rw [rev1]
  exact (ex2.trans (Ex.one fun x told r h=>.put pla h)).le qR
 ·refine ⟨_,hb.s.get.2.1,New.of fun l2 H2 h2 s2 e2=>⟨B.sa,rfl,_,SqL.of (s2 _ _ hb.s.s),SqL.of e2,ite2 (fun ne=>?_) (fun _=>q.z B rows stk sl H2 (hb.same s2) rfl rfl (Ex.refl.le qR) qR)⟩⟩
  have hb2:=hb.same s2
  have hne:stk≠[]:=fun e=>by rw [e] at ne; cases ne
  obtain ⟨st',k,rfl⟩:∃ st' k,stk=st'++[k]:=⟨stk.dropLast,stk.getLast hne,(List.dropLast_concat_getLast hne).symm⟩
  have lst':=lst
  rw [qa1] at lst'
  refine ⟨_,hb2.s.get.1,hb2.tyR,New.of fun t H3 h3 s3 e3=>?_⟩
  obtain ⟨us,u1,ul,hb4⟩:=(hb2.same s3).row1 (row:=.drop) (SqT.of e3) qR
  refine ⟨B.ra,rfl,us,u1,ul,?_⟩
  generalize upd H3 B.ra (.lst (us++[.ref t]))=H4 at hb4 ⊢
  have hb5:=hb4.putS (stk':=st') (fun x hx=>hb.s.hs.1 x (qj2 _ hx)) qR
  refine ⟨_,hb4.s.get.2.1,hb4.tyS,B.sa,rfl,_,hb4.s.s,kd k,by rw [qe1]; simp,?_⟩
  rw [show ((st'++[k]).map kd).dropLast=st'.map kd by rw [qe1]; exact qk4]
  refine q.z B _ _ _ _ hb5 rfl rfl ?_ (by rw [qa1]; omega)
  rw [rev1]
  exact (Ex.one fun x told r h=>.drop h).le qR
end
theorem J5c {j:Int} (h:0≤j∧j < 6):∃ g k x,k≠Kd.hx∧atI [V.str (Str.ofString "add"),V.str (Str.ofString "sub"),V.str (Str.ofString "mul"),V.str (Str.ofString "div"),V.str (Str.ofString "less"),V.str (Str.ofString "same")] j=some (.str (sgN g))∧atI (Str.ofString "nnnntt").cps.toList j=some x∧V.str { cps:=#[x] }=kd k∧∀ W ss sl st,Seg W ss [.two g] sl (.n::.n::st) sl (k::st):=by
 rcases (show j=0∨j=1∨j=2∨j=3∨j=4∨j=5 by omega) with e | e | e | e | e | e
 ·subst e; exact ⟨.add,.n,110,Kd.noConfusion,rfl,qP,congrArg V.str qP,fun W ss sl st x told r h=>.num Sg.noConfusion Sg.noConfusion h⟩
 ·subst e; exact ⟨.sub,.n,110,Kd.noConfusion,rfl,qP,congrArg V.str qP,fun W ss sl st x told r h=>.num Sg.noConfusion Sg.noConfusion h⟩
 ·subst e; exact ⟨.mul,.n,110,Kd.noConfusion,rfl,qP,congrArg V.str qP,fun W ss sl st x told r h=>.num Sg.noConfusion Sg.noConfusion h⟩
 ·subst e; exact ⟨.div,.n,110,Kd.noConfusion,rfl,qP,congrArg V.str qP,fun W ss sl st x told r h=>.num Sg.noConfusion Sg.noConfusion h⟩
 ·subst e; exact ⟨.less,.t,116,Kd.noConfusion,rfl,qP,congrArg V.str qP,fun W ss sl st x told r h=>.less h⟩
 ·subst e; exact ⟨.same,.t,116,Kd.noConfusion,rfl,qP,congrArg V.str qP,fun W ss sl st x told r h=>.same Kd.noConfusion h⟩
theorem J7e {j:Int} (h:0≤j∧j < 2):∃ k x,k≠Kd.hx∧atI (Str.ofString "ht").cps.toList j=some x∧V.str { cps:=#[x] }=kd k:=by
 rcases (show j=0∨j=1 by omega) with e | e
 ·subst e; exact ⟨.h,104,Kd.noConfusion,qP,congrArg V.str qP⟩
 ·subst e; exact ⟨.t,116,Kd.noConfusion,qP,congrArg V.str qP⟩
section
theorem J1u (T:Txt P w K mg O0b O0a O0c) (O0h:Has P w K mg base 5 "_law_want" ["_law_world_here","_law_state","_law_kinds","_law_cell"] (Z3N K)) (O1q:Has P w K mg base 6 "_law_branch" ["_law_world_here","_law_state","_law_more"] (Z1B K)) (O1l:Has P w K mg base 1 "_law_slotted" ["_law_state","_law_more"] (Z5d K)) (O1m:Has P w K mg base 6 "_law_calling" ["_law_world_here","_law_state","_law_more"] (Z1B K)) (O0R:Has P w K mg base 6 "_law_about_thing" ["_law_world_here","_law_state","_law_more"] (Z1B K)):Has P w K mg base 7 "_law_piece" ["_law_world_here","_law_state","_law_cell"] (Z1B K):=by
 refine Has.of T.O2O O1o (fun _ _ _ _ _ _ us hl=>el3 us hl fun _ _ _=>rfl) (fun vs H Q E h=>?_) (fun f cdv A outer s H vs Q E hr h=>?_)
 ·obtain ⟨H0,A,B,W,ss,rows,stk,sl,c,rfl,_⟩:=h
  rfl
 obtain ⟨H0,A',B,W,ss,rows,stk,sl,c,rfl,hb,lro,lst,lsl,q⟩:=h
 refine ⟨_,(Z0a (qG 3 O1o.nd (Z0h Z0u (pvF 2) Z0c))
  (Z0a (qG 4 O1o.nd (Z0h Z0A (pvF 2) Z0c))
  (Z0b (Z0t (qM Z4z (pvF 3) Z0c) (Z0a (Z0j (qF O0h hr (Z0r (pvF 0) (qK (pvF 1) (Z0s (qJ Z0g Z0g)) (Z0h Z0A (pvF 4) Z0c)))))
  (Z0a (Z0j (Z1c qa6 qb3 qb4 Z0q (qB hr 1) (qI (Z0k (qI (qD K (Z0s (Z0r Z0g (Z0r Z0g (Z0r Z0g (qK Z0g Z0g Z0g))))) (Z0h Z0u (pvF 4) Z0c)))))))
  (Z0b (Z0j (Z1c qa6 qb3 qb4 Z0q (qB hr 1) (qI (Z4c Z3J Z0g (Z0h Z0u (pvF 4) Z0c) (fun _ _=>rfl)))))))) (Z0b (Z0t (qM Z0B (pvF 3) Z0c) (Z0a (Z0j (qF O0h hr (Z0r (pvF 0) (qK (pvF 1) (Z0h Z7O (Z0s (qI (Z4c Z3J Z0g (Z0h Z0u (pvF 4) Z0c) (fun _ _=>rfl)))) Z0c) (Z0h Z0A (pvF 4) Z0c)))))
  (Z0a (Z0j (Z1c qa6 qb3 qb4 Z0q (qB hr 1) (qI (Z0k (qI Z0g)))))
  (Z0b (Z0j (Z1c qa6 qb3 qb4 Z0q (qB hr 1) (qI Z0g)))))) (Z0b (Z0t (qM Z0B (pvF 3) Z0c) (Z0b (Z0j (qF O1q hr (qK (pvF 0) (pvF 1) (pvF 4))))) (Z0b (Z0t (qM Z0B (pvF 3) Z0c) (Z0b (Z0j (qF O1l hr (qJ (pvF 1) (pvF 4))))) (Z0b (Z0t (qM Z4z (pvF 3) Z0c) (Z0b (Z0j (qF O1m hr (qK (pvF 0) (pvF 1) (pvF 4))))) (Z0b (Z0j (qF O0R hr (qK (pvF 0) (pvF 1) (pvF 4))))))))))))))))),?_⟩
 refine seq3 fun uz2 huz2 uz1 huz1=>?_
 walk_at "rd"
 subst huz1
 walk_at "rd"
 rw [show (c:Int) / 9=((c / 9:Nat):Int) from rfl]
 generalize c / 9=d
 subst huz2
 walk_at "rd"
 obtain ⟨us0,u0,_⟩:=hb.s.r
 have go:∀ {v:Int},Z1B K [.ref A'.wd,.ref B.st,.int d] H (fun _ H1=>Q V.non H1) E0:=fun {_}=>⟨H0,A',B,W,ss,rows,stk,sl,d,rfl,hb,lro,lst,lsl,q⟩
 refine ite2 (fun _=>?_) (fun _=>ite2 (fun _=>?_) (fun _=>ite2 (fun _=>?_) (fun _=>ite2 (fun _=>?_) (fun _=>ite2 (fun _=>?_) (fun _=>?_)))))
 ·obtain ⟨g,k,x,nk,ag,ax,ex,sg⟩:=J5c (j:=(d:Int) % 6) qR
  refine New.of fun l1 H1 h1 s1 e1=>?_
  refine ⟨H0,A',B,W,ss,rows,stk,sl,[.n,.n],l1,_,rfl,hb.same s1,e1,(fun z=>by rw [z,u0] at h1; cases h1),by show 2≤3; omega,(fun k hk=>(qa8.mp hk).elim (fun e=>by rw [e]; exact Kd.noConfusion) (fun e=>by cases qc3.mp e; exact Kd.noConfusion)),qR,fun B2 rows2 stk2 H2 hb2 st2 ex2 l2=>?_⟩
  have lr2:=ex2.len
  rw [← st2]
  refine ⟨_,hb2.s.get.1,hb2.tyR,New.of fun l3 H3 h3 s3 e3=>⟨_,SqL.of e3,_,ag,New.of fun t H4 h4 s4 e4=>?_⟩⟩
  obtain ⟨us,u1,ul,hb4⟩:=(hb2.same (s3.trans s4)).row1 (row:=.two g) (SqT.of e4) qR
  refine ⟨B2.ra,rfl,us,u1,ul,?_⟩
  generalize upd H4 B2.ra (.lst (us++[.ref t]))=H5 at hb4 ⊢
  obtain ⟨v1,v2,hb5⟩:=hb4.stk1 (k:=k) nk qR
  refine ⟨_,hb4.s.get.2.1,hb4.tyS,qP,x,ax,B2.sa,rfl,_,v1,v2,?_⟩
  rw [ex]
  refine q.z B2 _ _ _ _ hb5 st2 rfl ?_ (by rw [qa1]; show _+1≤_; omega)
  rw [rev1]
  exact (ex2.trans (Ex.one (sg W ss sl _))).le qR
 ·obtain ⟨k,x,nk,ax,ex⟩:=J7e (j:=(d:Int) % 2) qR
  refine ⟨qP,x,ax,?_⟩
  rw [ex]
  refine New.of fun l1 H1 h1 s1 e1=>⟨_,e1,by show 1 * 2≤_; omega,fun l2 h2=>?_⟩
  have s2:=Z0f h2 (.lst [[kd k],[kd k]].flatten)
  have e2:upd H1 l2 (.lst [[kd k],[kd k]].flatten) l2=some (.lst ([k,k].map kd)):=Z0d
  generalize upd H1 l2 (.lst [[kd k],[kd k]].flatten)=H2 at s2 e2 ⊢
  refine ⟨H0,A',B,W,ss,rows,stk,sl,[k,k],l2,_,rfl,hb.same (s1.trans s2),e2,(fun z=>by rw [z,s1 _ _ u0] at h2; cases h2),by show 2≤3; omega,(fun l hl=>(qa8.mp hl).elim (fun e=>by rw [e]; exact nk) (fun e=>by cases qc3.mp e; exact nk)),qR,fun B2 rows2 stk2 H3 hb2 st2 ex2 l3=>?_⟩
  have lr2:=ex2.len
  rw [← st2]
  refine ⟨_,hb2.s.get.1,hb2.tyR,New.of fun t H4 h4 s4 e4=>?_⟩
  obtain ⟨us,u1,ul,hb4⟩:=(hb2.same s4).row1 (row:=.two .same) (SqT.of e4) qR
  refine ⟨B2.ra,rfl,us,u1,ul,?_⟩
  generalize upd H4 B2.ra (.lst (us++[.ref t]))=H5 at hb4 ⊢
  obtain ⟨v1,v2,hb5⟩:=hb4.stk1 (k:=.t) Kd.noConfusion qR
  refine ⟨_,hb4.s.get.2.1,hb4.tyS,B2.sa,rfl,_,v1,v2,q.z B2 _ _ _ _ hb5 st2 rfl ?_ (by rw [qa1]; show _+1≤_; omega)⟩
  rw [rev1]
  exact (ex2.trans (Ex.one fun x told r h=>.same nk h)).le qR
 ·exact go (v:=0)
 ·exact ⟨H0,A',B,W,ss,rows,stk,sl,d,rfl,hb,lro,lst,lsl,q⟩
 ·exact go (v:=0)
 ·exact go (v:=0)
end
inductive Z7F (K:y9) (vs:List V) (H:Hp) (Q:VK):Prop
 | mk (A:WA) (W:Wo) (ss:List Nat) (ps:List Kd) (told:Kd) (pl:y8) (c:Int) (many:Nat) (a1:vs=[.ref A.wd,.ref pl,kd told,.int c,.int many]) (a2:WO K H A W ss.length) (a3:WF W) (a4:H pl=some (.lst (ps.map kd))) (a5:pl≠A.si) (a6:(∀ k∈ps,k≠.hx)) (a7:ps.length≤3) (a8:told≠.hx) (a9:many≤8) (a10:∀ v x rows H',(∀ b o,b≠A.si→H b=some o→H' b=some o)→SameT H H'→H' A.si=some (.lst [.int (ss++x).length])→x.length≤8→BlkAt K H' v ⟨ps.length,ps.length+2,rows⟩→Sf W (ss++x) told rows (ps.map some++[none,none]) []→rows.length≤600→Q v H'):Z7F K vs H Q
def Z8k (K:y9):Sp:=fun vs H Q _=>Z7F K vs H Q
section
noncomputable def BKI (K:y9) (H0:Hp) (A:WA) (W:Wo) (ss:List Nat) (p:y8) (sl0:List (Option Kd)) (σ0:St) (i:Nat) (σ:St) (H:Hp):Prop:=∃ B x rows stk sl o,Bo K H0 H A B W (ss++x) rows stk sl∧x.length≤i∧B.st=p∧sl.length=sl0.length∧Ex W (ss++x) (60 * i) [] sl0 [] rows sl stk.reverse∧stk.length≤i∧σ=σ0++[o]
theorem J1A (T:Txt P w K mg O0b O0a O0c) (O0e:Has P w K mg base 1 "_law_mixed" ["_law_cell","_law_k"] Z3d) (O0h:Has P w K mg base 5 "_law_want" ["_law_world_here","_law_state","_law_kinds","_law_cell"] (Z3N K)) (O1E:Has P w K mg base 7 "_law_piece" ["_law_world_here","_law_state","_law_cell"] (Z1B K)):Has P w K mg base 8 "_law_block" ["_law_world_here","_law_params","_law_told","_law_cell","_law_many"] (Z8k K):=by
 refine Has.of T.O2P O1p (fun _ _ _ _ _ _ us hl=>el5 us hl fun _ _ _ _ _=>rfl) (fun vs H Q E h=>?_) (fun f cdv A outer s H vs Q E hr h=>?_)
 ·obtain ⟨A,W,ss,ps,told,pl,c,many,rfl,_⟩:=h
  rfl
 obtain ⟨A',W,ss,ps,told,pl,c,many,rfl,hw,wf,hpl,npl,hps,lps,htold,lm,q⟩:=h
 refine ⟨_,(Z0a (qG 5 O1p.nd (Z4F (Z0I Z0g (Z0s Z0N) (Z0I Z0g (Z0s Z0N) (Z0I Z0g (Z0h Z1Y (Z0H Z0L rfl T.O1G Z2w (qI (pvF 1))) (Z0s (qJ Z1d Z1d))) Z4x))) rfl rfl (by exact qj0 _ _) qS))
  (Z0a (Z2R PassesOwn.never rfl (Z0K rfl T.O0J (qI (pvF 4))) (qH 6 O1p.nd) (Z0b (Z0j (qF O1E hr (qK (pvF 0) (pvF 5) (qF O0e hr (qJ (pvF 3) (Z0h Z0x Z0c (pvF 6)))))))))
  (Z0a (Z0j (qF O0h hr (Z0r (pvF 0) (qK (pvF 5) (Z0s (qI (pvF 2))) (pvF 3)))))
  (Z0b (Z0n (Z0k (qK (qL T.z_len (qI (pvF 1))) (Z0h Z0x (qL T.z_len (qI (pvF 1))) Z0c) (Z0H Z1k rfl T.O1y Z2p (qI (Z0h Z1Y (qB hr 5) (Z0s (qI (Z0k (qI Z0g)))))))))))))),?_⟩
 refine seq4 fun uz3 huz3 uz2 huz2 uz1 huz1=>?_
 walk_at "rd"
 refine New.of fun p H1 h1 s1 e1=>New.of fun p1 H2 h2 s2 e2=>New.of fun p2 H3 h3 s3 e3=>⟨_,.inl (SqL.of ((s1.trans (s2.trans s3)) _ _ hpl)),fun l hl=>?_⟩
 have s4:=Z0f hl (.lst (ps.map kd))
 have e4:upd H3 l (.lst (ps.map kd)) l=some (.lst (ps.map kd)):=Z0d
 generalize upd H3 l (.lst (ps.map kd))=H4 at s4 e4 ⊢
 refine New.of fun p3 H5 h5 s5 e5=>⟨_,s5 _ _ e4,_,e5,by rw [qa2]; show _+2≤_; omega,New.of fun p4 H6 h6 s6 e6=>?_⟩
 have S16:=s2.trans (s3.trans (s4.trans (s5.trans s6)))
 have hp6:=S16 _ _ e1
 refine ⟨hp6,[(.inr "rows",.ref p1),(.inr "stack",.ref p2),(.inr "slots",.ref p4)],rfl,by show 3≤15; omega,?_⟩
 have hb:Bo K H (upd H6 p (.dK (Z0X [] [(.inr "rows",.ref p1),(.inr "stack",.ref p2),(.inr "slots",.ref p4)]))) A' ⟨p,p1,p2,p4⟩ W ss [] [] (ps.map some++[none,none]):=by
  have S:Same H H6:=s1.trans S16
  have np:∀ {a:y8} {o:HO},H a=some o→a≠p:=fun {a o} e z=>by rw [z,h1] at e; cases e
  have nl:∀ {a:y8} {xs:List V},H6 a=some (.lst xs)→a≠p:=fun {a xs} e z=>by rw [z,hp6] at e; cases e
  have f2:=(s3.trans (s4.trans (s5.trans s6))) _ _ e2
  have f3:=(s4.trans (s5.trans s6)) _ _ e3
  have tt:=Z1I (.dK (Z0X [] [(.inr "rows",.ref p1),(.inr "stack",.ref p2),(.inr "slots",.ref p4)])) hp6 Z5W
  refine ⟨⟨_,hw⟩,fun b o _ e=>by rw [Z0e (np e)]; exact S _ _ e,(Same.t S).trans tt,wf,by rw [Z0e (np hw.si)]; exact S _ _ hw.si,⟨by rw [Z0d]; rfl,⟨[],by rw [Z0e (nl f2)]; exact f2,.nil⟩,by rw [Z0e (nl f3)]; exact f3,?_,⟨fun z=>?_,fun z=>?_,fun z=>?_⟩,(fun k hk=>by cases hk),fun k hk=>?_⟩,⟨h1,Z0z s1 h2,Z0z (s1.trans s2) h3,Z0z (s1.trans (s2.trans (s3.trans (s4.trans s5)))) h6⟩,?_,qa4 _,qa4 _⟩
  ·show upd H6 p _ p4=_
   rw [Z0e (nl e6),qe1,qj7]; exact e6
  ·have z:p1=p2:=z
   rw [← z,e2] at h3; cases h3
  ·have z:p1=p4:=z
   rw [← z,(s3.trans (s4.trans s5)) _ _ e2] at h6; cases h6
  ·have z:p2=p4:=z
   rw [← z,(s4.trans s5) _ _ e3] at h6; cases h6
  ·rcases qd9.mp hk with hk | hk
   ·obtain ⟨k',m1,m2⟩:=qh3.mp hk
    cases m2
    exact hps _ m1
   ·simp at hk
  ·rw [qa1,qa2]; show _+2≤_; omega
 have l0:(ps.map some++[none,none]).length=ps.length+2:=by rw [qa1,qa2]; rfl
 generalize upd H6 p (.dK (Z0X [] [(.inr "rows",.ref p1),(.inr "stack",.ref p2),(.inr "slots",.ref p4)]))=H7 at hb ⊢
 subst huz1
 walk_at "rd"
 refine ⟨qR,qR,?_⟩
 rw [qd0]
 refine Z1h (BKI K H A' W ss p (ps.map some++[none,none]) [some (.ref A'.wd),some (.ref pl),some (kd told),some (.int c),some (.int many),some (.ref p)]) ⟨⟨p,p1,p2,p4⟩,[],[],[],_,none,by rw [qg5]; exact hb,qa0 _,rfl,rfl,Ex.refl,qa0 _,rfl⟩ (fun i σ H8 hi hI=>?_) (fun σ H8 hI=>?_)
 ·obtain ⟨B,x,rows,stk,sl,o,hb8,lx,st8,ll,ex,lst,rfl⟩:=hI
  rw [qe6]
  have lr:=ex.len
  have lr':rows.length≤60 * i:=by rw [qe2] at lr; omega
  walk_at "rd"
  refine ⟨c,_,rfl,fun r hr=>⟨H,A',B,W,ss++x,rows,stk,sl,r,by rw [st8],hb8,qR,qR,qR,fun B' x' rows' stk' sl' H' lx' hb' st' l' ex' ls'=>?_⟩⟩
  rw [qc7] at hb' ex'
  refine ⟨B',x++x',rows',stk',sl',_,hb',by rw [qa1]; omega,st'.trans st8,l'.trans ll,?_,qR,rfl⟩
  have:=ex.mono x'
  rw [qc7] at this
  exact (this.trans ex').le qR
 ·obtain ⟨B,x,rows,stk,sl,o,hb8,lx,st8,ll,ex,lst,rfl⟩:=hI
  have lr:=ex.len
  have lr':rows.length≤480:=by rw [qe2] at lr; omega
  subst huz2
  walk_at "rd"
  refine New.of fun l9 H9 h9 s9 e9=>?_
  obtain ⟨us0,u0,_⟩:=hb8.s.r
  refine ⟨H,A',B,W,ss++x,rows,stk,sl,[told],l9,c,by rw [st8],hb8.same s9,e9,(fun z=>by rw [z,u0] at h9; cases h9),by show 1≤3; omega,(fun k hk=>by cases qc3.mp hk; exact htold),qR,fun B2 rows2 stk2 H10 hb10 st10 ex10 l10=>?_⟩
  have lr10:=ex10.len
  rw [← st8,← st10]
  subst huz3
  walk_at "rd"
  have hp10:=hb10.k _ _ npl hpl
  obtain ⟨us,u1,u2⟩:=hb10.s.r
  have lus:=u2.length
  refine ⟨_,.inl (SqL.of hp10),_,.inl (SqL.of hp10),_,hb10.s.get.1,New.of fun ta Ha ha sa ea=>New.of fun lb Hb hb' sb eb=>⟨_,rfl,_,(sa.trans sb) _ _ u1,_,eb,by show _+1≤_; omega,New.of fun lc Hc hc sc ec=>⟨_,.inl ⟨SqL.of ec,fun td hd=>?_⟩⟩⟩⟩
  have sd:=Z0f hd (.tup (us++[V.ref ta]))
  have ed:upd Hc td (.tup (us++[V.ref ta])) td=some (.tup (us++[V.ref ta])):=Z0d
  generalize upd Hc td (.tup (us++[V.ref ta]))=Hd at sd ed ⊢
  rw [qa2]
  refine New.of fun te He he se ee=>?_
  have SE:=sa.trans (sb.trans (sc.trans (sd.trans se)))
  have hbe:=hb10.same SE
  have bk:RowV K He (.ref ta) .back:=⟨ta,rfl,SqT.of ((sb.trans (sc.trans (sd.trans se))) _ _ ea)⟩
  refine q (.ref te) x (rows2++[.back]) He hbe.k hbe.t hbe.si (qa7 lx lm) ⟨te,td,_,rfl,SqT.of ee,SqT.of (se _ _ ed),Paired.appendP (Z1H u2 (Same.t SE)) (.cons bk .nil)⟩ ?_ (by rw [qa1]; show _+1≤_; omega)
  obtain ⟨more,em,_,sg⟩:=ex.trans ex10
  rw [em,qj4]
  have:=sg [] told [.back]
  rw [qg5] at this
  exact this .back
end
noncomputable def Ls (A:WA) (bl tb:y8):List y8:=[A.hd,A.ow,A.si,bl,tb]
noncomputable def HdL (L:List y8) (H:Hp) (v:V) (h:List Kd×Kd):Prop:=∃ t p,v=.ref t∧H t=some (.tup [.ref p,kd h.2])∧H p=some (.lst (h.1.map kd))∧p∉L
noncomputable def TbL (L:List y8) (H:Hp) (v:V) (t:List (Option Nat)):Prop:=∃ ta,v=.ref ta∧H ta=some (.lst (t.map tabV))∧ta∉L
theorem HdL.ch {L:List y8} {H H':Hp} {v:V} {h:List Kd×Kd} (x:HdL L H v h) (c:Ch L H H'):HdL L H' v h:=let ⟨t,p,a,b,e,d⟩:=x; ⟨t,p,a,(c.t t _).1 b,c.k _ _ d e,d⟩
theorem TbL.ch {L:List y8} {H H':Hp} {v:V} {t:List (Option Nat)} (x:TbL L H v t) (c:Ch L H H'):TbL L H' v t:=let ⟨ta,a,b,e⟩:=x; ⟨ta,a,c.k _ _ e b,e⟩
structure WX (H0 H:Hp) (A:WA) (bl tb:y8) (fs:List Nat):Prop where
 d:H A.wd=some (.dK [(.inr "heads",.ref A.hd),(.inr "owners",.ref A.ow),(.inr "sites",.ref A.si),(.inr "blocks",.ref bl),(.inr "tables",.ref tb),(.inr "fields",.ref A.fl)])
 fl:H A.fl=some (.lst (fs.map fun (m:Nat)=>V.int m))
 nd:(A.hd≠A.ow∧A.hd≠A.si∧A.hd≠bl∧A.hd≠tb)∧(A.ow≠A.si∧A.ow≠bl∧A.ow≠tb)∧(A.si≠bl∧A.si≠tb)∧bl≠tb
 nf:A.fl∉Ls A bl tb
 nw:A.wd∉Ls A bl tb
 s0:Same H0 H
 fr:∀ a∈Ls A bl tb,H0 a=none
theorem WX.ch {H0 H H':Hp} {A:WA} {bl tb:y8} {fs:List Nat} (h:WX H0 H A bl tb fs) (c:Ch (Ls A bl tb) H H'):WX H0 H' A bl tb fs:=
 ⟨c.k _ _ h.nw h.d,c.k _ _ h.nf h.fl,h.nd,h.nf,h.nw,fun b o e=>c.k b o (fun z=>by rw [h.fr b z] at e; cases e) (h.s0 b o e),h.fr⟩
structure WB (K:y9) (H0 H:Hp) (A:WA) (bl tb:y8) (W:Wo) (n:Nat) (bk:List Blk) (tk:List (List (Option Nat))):Prop where
 x:WX H0 H A bl tb W.fields
 hd:∃ hv,H A.hd=some (.lst hv)∧Paired (HdL (Ls A bl tb) H) hv W.heads
 ow:H A.ow=some (.lst (W.owners.map fun (m:Nat)=>V.int m))
 si:H A.si=some (.lst [.int n])
 bb:∃ bs,H bl=some (.lst bs)∧Paired (BlkAt K H) bs bk
 tt:∃ ts,H tb=some (.lst ts)∧Paired (TbL (Ls A bl tb) H) ts tk
section
variable {K:y9} {H0 H H':Hp} {A:WA} {bl tb:y8} {W:Wo} {n:Nat} {bk:List Blk} {tk:List (List (Option Nat))}
theorem Z4T {L:List y8} {hv:List V} {hs:List (List Kd×Kd)} (h:Paired (HdL L H) hv hs) (c:Ch L H H'):Paired (HdL L H') hv hs:=Paired.imp' (fun _ _ x=>x.ch c) h
theorem Z5g {L:List y8} {hv:List V} {hs:List (List (Option Nat))} (h:Paired (TbL L H) hv hs) (c:Ch L H H'):Paired (TbL L H') hv hs:=Paired.imp' (fun _ _ x=>x.ch c) h
theorem Z4N {hv:List V} {hs:List Blk} (h:Paired (BlkAt K H) hv hs) (c:SameT H H'):Paired (BlkAt K H') hv hs:=Paired.imp' (fun _ _ x=>x.t c) h
theorem WB.same (h:WB K H0 H A bl tb W n bk tk) (s:Same H H'):WB K H0 H' A bl tb W n bk tk:=by
 obtain ⟨hv,h1,h2⟩:=h.hd
 obtain ⟨bs,b1,b2⟩:=h.bb
 obtain ⟨ts,t1,t2⟩:=h.tt
 exact ⟨h.x.ch (.of s),⟨hv,s _ _ h1,Z4T h2 (.of s)⟩,s _ _ h.ow,s _ _ h.si,⟨bs,s _ _ b1,Z4N b2 (Same.t s)⟩,⟨ts,s _ _ t1,Z5g t2 (.of s)⟩⟩
theorem WB.addH (h:WB K H0 H A bl tb W n bk tk) {hv:List V} {v:V} {p:List Kd×Kd} (e:H A.hd=some (.lst hv)) (hp:HdL (Ls A bl tb) H v p):WB K H0 (upd H A.hd (.lst (hv++[v]))) A bl tb { W with heads:=W.heads++[p] } n bk tk:=by
 obtain ⟨hv',h1,h2⟩:=h.hd
 rw [e] at h1
 cases h1
 obtain ⟨bs,b1,b2⟩:=h.bb
 obtain ⟨ts,t1,t2⟩:=h.tt
 have c:Ch (Ls A bl tb) H (upd H A.hd (.lst (hv++[v]))):=.put _ e qb5
 obtain ⟨⟨n1,n2,n3,n4⟩,-⟩:=h.x.nd
 exact ⟨h.x.ch c,⟨_,Z0d,Z4T (Paired.appendP h2 (.cons hp .nil)) c⟩,by rw [Z0e n1.symm]; exact h.ow,by rw [Z0e n2.symm]; exact h.si,⟨bs,by rw [Z0e n3.symm]; exact b1,Z4N b2 c.t⟩,⟨ts,by rw [Z0e n4.symm]; exact t1,Z5g t2 c⟩⟩
theorem WB.addO (h:WB K H0 H A bl tb W n bk tk) (more:List Nat):WB K H0 (upd H A.ow (.lst ((W.owners.map fun (m:Nat)=>V.int m)++more.map fun (m:Nat)=>V.int m))) A bl tb { W with owners:=W.owners++more } n bk tk:=by
 obtain ⟨hv,h1,h2⟩:=h.hd
 obtain ⟨bs,b1,b2⟩:=h.bb
 obtain ⟨ts,t1,t2⟩:=h.tt
 have c:Ch (Ls A bl tb) H (upd H A.ow (.lst ((W.owners.map fun (m:Nat)=>V.int m)++more.map fun (m:Nat)=>V.int m))):=.put _ h.ow (qb1 _ qb5)
 obtain ⟨⟨n1,-⟩,⟨n5,n6,n7⟩,-⟩:=h.x.nd
 exact ⟨h.x.ch c,⟨hv,by rw [Z0e n1]; exact h1,Z4T h2 c⟩,by rw [Z0d,qe1],by rw [Z0e n5.symm]; exact h.si,⟨bs,by rw [Z0e n6.symm]; exact b1,Z4N b2 c.t⟩,⟨ts,by rw [Z0e n7.symm]; exact t1,Z5g t2 c⟩⟩
theorem WB.addT (h:WB K H0 H A bl tb W n bk tk) {ts:List V} {v:V} {p:List (Option Nat)} (e:H tb=some (.lst ts)) (hp:TbL (Ls A bl tb) H v p):WB K H0 (upd H tb (.lst (ts++[v]))) A bl tb W n bk (tk++[p]):=by
 obtain ⟨ts',t1,t2⟩:=h.tt
 rw [e] at t1
 cases t1
 obtain ⟨bs,b1,b2⟩:=h.bb
 obtain ⟨hv,h1,h2⟩:=h.hd
 have c:Ch (Ls A bl tb) H (upd H tb (.lst (ts++[v]))):=.put _ e (qb1 _ (qb1 _ (qb1 _ (qb1 _ qb5))))
 obtain ⟨⟨_,_,_,n4⟩,⟨_,_,n7⟩,⟨_,n9⟩,n10⟩:=h.x.nd
 exact ⟨h.x.ch c,⟨hv,by rw [Z0e n4]; exact h1,Z4T h2 c⟩,by rw [Z0e n7]; exact h.ow,by rw [Z0e n9]; exact h.si,⟨bs,by rw [Z0e n10]; exact b1,Z4N b2 c.t⟩,⟨_,Z0d,Z5g (Paired.appendP t2 (.cons hp .nil)) c⟩⟩
theorem WB.addB (h:WB K H0 H A bl tb W n bk tk) {bs:List V} {v:V} {b:Blk} (e:H bl=some (.lst bs)) (hp:BlkAt K H v b):WB K H0 (upd H bl (.lst (bs++[v]))) A bl tb W n (bk++[b]) tk:=by
 obtain ⟨bs',b1,b2⟩:=h.bb
 rw [e] at b1
 cases b1
 obtain ⟨ts,t1,t2⟩:=h.tt
 obtain ⟨hv,h1,h2⟩:=h.hd
 have c:Ch (Ls A bl tb) H (upd H bl (.lst (bs++[v]))):=.put _ e (qb1 _ (qb1 _ (qb1 _ qb5)))
 obtain ⟨⟨_,_,n3,_⟩,⟨_,n6,_⟩,⟨n8,_⟩,n10⟩:=h.x.nd
 exact ⟨h.x.ch c,⟨hv,by rw [Z0e n3]; exact h1,Z4T h2 c⟩,by rw [Z0e n6]; exact h.ow,by rw [Z0e n8]; exact h.si,⟨_,Z0d,Z4N (Paired.appendP b2 (.cons hp .nil)) c.t⟩,⟨ts,by rw [Z0e n10.symm]; exact t1,Z5g t2 c⟩⟩
theorem WB.ran (h:WB K H0 H A bl tb W n bk tk) {m:Nat} (k:∀ b o,b≠A.si→H b=some o→H' b=some o) (t:SameT H H') (e:H' A.si=some (.lst [.int m])):WB K H0 H' A bl tb W m bk tk:=by
 obtain ⟨hv,h1,h2⟩:=h.hd
 obtain ⟨bs,b1,b2⟩:=h.bb
 obtain ⟨ts,t1,t2⟩:=h.tt
 have c:Ch (Ls A bl tb) H H':=⟨t,fun b o n e=>k b o (fun z=>n (by rw [z]; exact qb1 _ (qb1 _ qb5))) e⟩
 obtain ⟨⟨_,n2,_,_⟩,⟨n5,_,_⟩,⟨n8,n9⟩,_⟩:=h.x.nd
 exact ⟨h.x.ch c,⟨hv,k _ _ n2 h1,Z4T h2 c⟩,k _ _ n5 h.ow,e,⟨bs,k _ _ n8.symm b1,Z4N b2 t⟩,⟨ts,k _ _ n9.symm t1,Z5g t2 c⟩⟩
theorem WB.wo (h:WB K H0 H A bl tb W n bk tk):WO K H A W n:=by
 obtain ⟨hv,h1,h2⟩:=h.hd
 have ms:A.si∈Ls A bl tb:=qb1 _ (qb1 _ qb5)
 exact ⟨⟨_,h.x.d,rfl,rfl,rfl,rfl⟩,h.x.fl,⟨hv,h1,Paired.imp' (fun _ _ ⟨t,p,a,b,c,d⟩=>⟨t,p,a,b,c,fun z=>d (by rw [z]; exact ms)⟩) h2⟩,h.ow,h.si,⟨fun z=>h.x.nf (by rw [z]; exact ms),h.x.nd.1.2.1,h.x.nd.2.1.1⟩⟩
theorem WB.get (h:WB K H0 H A bl tb W n bk tk):DGet H A.wd (.str "blocks") (some (.ref bl))∧DGet H A.wd (.str "tables") (some (.ref tb)):=⟨DGet.k (k:=.inr "blocks") h.x.d,DGet.k (k:=.inr "tables") h.x.d⟩
end
theorem WB.nin {K:y9} {H0 H:Hp} {A:WA} {bl tb:y8} {W:Wo} {n:Nat} {bk:List Blk} {tk:List (List (Option Nat))} (h:WB K H0 H A bl tb W n bk tk) {a:y8} (e:H a=none):a∉Ls A bl tb:=fun z=>by
 obtain ⟨hv,u1,_⟩:=h.hd
 obtain ⟨bs,u2,_⟩:=h.bb
 obtain ⟨ts,u3,_⟩:=h.tt
 simp only [Ls,qa8,qk6,or_false] at z
 rcases z with rfl | rfl | rfl | rfl | rfl
 ·rw [u1] at e; cases e
 ·rw [h.ow] at e; cases e
 ·rw [h.si] at e; cases e
 ·rw [u2] at e; cases e
 ·rw [u3] at e; cases e
theorem J3g {vs:List V}:∀ {p:Nat→Nat→Prop},(∀ (j:Nat) v,vs[j]?=some v→∃ m:Nat,v=.int m∧p j m)→∃ fs:List Nat,vs=(fs.map fun (m:Nat)=>V.int m)∧∀ (j m:Nat),fs[j]?=some m→p j m:=by
 induction vs with
 | nil=>exact fun _=>⟨[],rfl,fun j m h=>by simp at h⟩
 | cons v vs ih=>
  intro p h
  obtain ⟨m,rfl,hm⟩:=h 0 v rfl
  obtain ⟨fs,rfl,hf⟩:=ih (p:=fun j m=>p (j+1) m) fun j u hu=>h (j+1) u hu
  refine ⟨m::fs,rfl,fun j k hk=>?_⟩
  cases j with
  | zero=>cases hk; exact hm
  | succ j=>exact hf j k hk
theorem J2V {vs:List V} {p:Int→Prop}:(∀ (j:Nat) v,vs[j]?=some v→∃ m:Int,v=.int m∧p m)→∃ fs:List Int,vs=fs.map V.int∧∀ m∈fs,p m:=by
 induction vs with
 | nil=>exact fun _=>⟨[],rfl,fun m h=>by cases h⟩
 | cons v vs ih=>
  intro h
  obtain ⟨m,rfl,hm⟩:=h 0 v rfl
  obtain ⟨fs,rfl,hf⟩:=ih fun j u hu=>h (j+1) u hu
  exact ⟨m::fs,rfl,fun k hk=>(qa8.mp hk).elim (fun e=>e▸hm) (hf k)⟩
theorem J3a {j:Int} (h:0≤j∧j < 4):∃ k x,k≠Kd.hx∧atI (Str.ofString "nnth").cps.toList j=some x∧V.str { cps:=#[x] }=kd k:=by
 rcases (show j=0∨j=1∨j=2∨j=3 by omega) with e | e | e | e
 ·subst e; exact ⟨.n,110,Kd.noConfusion,qP,congrArg V.str qP⟩
 ·subst e; exact ⟨.n,110,Kd.noConfusion,qP,congrArg V.str qP⟩
 ·subst e; exact ⟨.t,116,Kd.noConfusion,qP,congrArg V.str qP⟩
 ·subst e; exact ⟨.h,104,Kd.noConfusion,qP,congrArg V.str qP⟩
structure HOk (heads:List (List Kd×Kd)) (owners:List Nat):Prop where
 hk:∀ h∈heads,h.1.length≤2∧(∀ k∈h.1,k≠.hx)∧h.2≠.hx
 ob:∀ b∈owners,b < heads.length
 oa:∀ w,w < heads.length→∃ b:Nat,owners[b]?=some w
 ol:owners.length≤3 * heads.length
theorem HOk.add {heads:List (List Kd×Kd)} {owners:List Nat} (h:HOk heads owners) {p:List Kd×Kd} {n:Nat} (hp:p.1.length≤2∧(∀ k∈p.1,k≠.hx)∧p.2≠.hx) (h1:1≤n) (h3:n≤3):HOk (heads++[p]) (owners++qa3 n heads.length) where
 hk:=fun x hx=>(qd9.mp hx).elim (h.hk x) fun e=>by cases qc3.mp e; exact hp
 ob:=fun b hb=>by
  rw [qa1]
  rcases qd9.mp hb with e | e
  ·exact qc1 (h.ob b e) (qf0 _ _)
  ·rw [List.eq_of_mem_replicate e]; exact qh0 _
 oa:=fun w hw=>by
  rw [qa1] at hw
  rcases qh6 w heads.length with e | e
  ·obtain ⟨b,hb⟩:=h.oa w e
   exact ⟨b,by rw [qd4 (qa9.mp hb).1]; exact hb⟩
  ·have e:w=heads.length:=by have:w < heads.length+1:=hw; omega
   refine ⟨owners.length,?_⟩
   rw [qd6 (qa0 _),qg3,ql1,if_pos qR,e]
 ol:=by
  rw [qa1,qa1,qd3]
  have:=h.ol
  show _≤3 * (_+1)
  omega
noncomputable def WI1 (K:y9) (H0:Hp) (A:WA) (bl tb:y8) (fs:List Nat) (σ0:Option V→Option V→St) (i:Nat) (σ:St) (H:Hp):Prop:=∃ heads owners x y,WB K H0 H A bl tb ⟨fs,heads,owners⟩ 0 [] []∧heads.length=i∧HOk heads owners∧σ=σ0 x y
def J0U (heads:List (List Kd×Kd)) (owners:List Nat) (t:List (Option Nat)):Prop:=t.length=heads.length+1∧(∀ w,w < heads.length→∃ b:Nat,t[w]?=some (some b)∧owners[b]?=some w)∧∀ b:Nat,some b∈t→b < owners.length
noncomputable def WI2 (K:y9) (H0:Hp) (A:WA) (bl tb:y8) (W:Wo) (σ0:Option V→Option V→Option V→Option V→St) (i:Nat) (σ:St) (H:Hp):Prop:=∃ tabs x3 x5 x6 x7,WB K H0 H A bl tb W 0 [] tabs∧tabs.length=i∧(∀ t∈tabs,J0U W.heads W.owners t)∧σ=σ0 x3 x5 x6 x7
noncomputable def WI3 (H0:Hp) (ro:y8) (owners:List Nat) (σ0:Option V→Option V→St) (j:Nat) (σ:St) (H:Hp):Prop:=∃ (xs:List Nat) (x3 x7:Option V),Ch [ro] H0 H∧H ro=some (.lst (xs.map fun (m:Nat)=>V.int m))∧xs.length=j∧(∀ w,w < j→∃ b:Nat,xs[w]?=some b∧owners[b]?=some w)∧σ=σ0 x3 x7
def BOk (W:Wo) (B:Blk):Prop:=B.params≤6∧B.size≤6∧B.rows.length≤600∧∀ q∈B.rows,MT.Sm W 100 6 q
def J4K (W:Wo) (ss:List Nat) (bks:List Blk):Prop:=∀ (b:Nat) (B:Blk) (w:Nat) (ps:List Kd) (tk:Kd),bks[b]?=some B→W.owners[b]?=some w→W.heads[w]?=some (ps,tk)→B.size=1+ps.length+2∧Sf W ss tk B.rows (some .h::ps.map some++[none,none]) []
noncomputable def WI4 (K:y9) (H0:Hp) (A:WA) (bl tb:y8) (W:Wo) (tabs:List (List (Option Nat))) (σ0:Option V→Option V→Option V→Option V→St) (i:Nat) (σ:St) (H:Hp):Prop:=∃ ss bks x8 x9 x10 x11,WB K H0 H A bl tb W ss.length bks tabs∧ss.length≤8 * i∧bks.length=i∧J4K W ss bks∧(∀ B∈bks,BOk W B)∧σ=σ0 x8 x9 x10 x11
noncomputable def TbV (H:Hp) (v:V) (t:List (Option Nat)):Prop:=∃ ta,v=.ref ta∧H ta=some (.lst (t.map tabV))
structure WR (K:y9) (H:Hp) (wd bl tb nl:y8) (bks:List Blk) (tabs:List (List (Option Nat))) (nums:List Int):Prop where
 d:∃ kvs,H wd=some (.dK kvs)∧valV kvs (.inr "blocks")=some (.ref bl)∧valV kvs (.inr "tables")=some (.ref tb)∧valV kvs (.inr "numbers")=some (.ref nl)
 bb:∃ bs,H bl=some (.lst bs)∧Paired (BlkAt K H) bs bks
 tt:∃ ts,H tb=some (.lst ts)∧Paired (TbV H) ts tabs
 nn:H nl=some (.lst (nums.map V.int))
structure WG (W:Wo) (ss:List Nat) (bks:List Blk) (tabs:List (List (Option Nat))) (nums:List Int):Prop where
 wf:WF W
 tk:tabs.length=W.fields.length∧∀ t∈tabs,J0U W.heads W.owners t
 bo:J4K W ss bks
 mn:∃ front b told,bks=front++[b]∧front.length=W.owners.length∧b.size=nums.length+2∧Sf W ss told b.rows (qa3 nums.length (some .n)++[none,none]) []
 bs:∀ B∈bks,BOk W B
 nn:(∀ n∈nums,Bd n)∧nums.length≤3
inductive Z7l (K:y9) (vs:List V) (H:Hp) (Q:VK):Prop
 | mk (a:y8) (ns:List Int) (a1:vs=[.ref a]) (a2:SqL K H a (ns.map V.int)) (a3:∀ wd bl tb nl W ss bks tabs nums H',Same H H'→WR K H' wd bl tb nl bks tabs nums→WG W ss bks tabs nums→Q (.ref wd) H'):Z7l K vs H Q
def J1S (K:y9):Sp:=fun vs H Q _=>Z7l K vs H Q
section
theorem J1f (T:Txt P w K mg O0b O0a O0c) (O0i:Has P w K mg base 1 "_law_cell_at" ["_law_script","_law_k"] (Z5v K)) (O0e:Has P w K mg base 1 "_law_mixed" ["_law_cell","_law_k"] Z3d) (O0m:Has P w K mg base 1 "_law_number" ["_law_cell"] Z3C) (O1i:Has P w K mg base 8 "_law_block" ["_law_world_here","_law_params","_law_told","_law_cell","_law_many"] (Z8k K)):Has P w K mg base 9 "_law_world" ["_law_script"] (J1S K):=by
  refine Has.of T.O2Q O0g (fun _ _ _ _ _ _ us hl=>el1 us hl fun _=>rfl) (fun vs H Q E h=>?_) (fun f cdv A outer s H vs Q E hr h=>?_)
  · obtain ⟨a,ns,rfl,_⟩:=h
    rfl
  obtain ⟨a,ns,rfl,sq,q⟩:=h
  refine ⟨_,(Z0a (Z7x (i:=1) O0g.nd rfl (Or.inr rfl) (qF O0i hr (qJ (pvF 0) Z0c)))
    (Z0a (Z7x (i:=2) O0g.nd rfl (Or.inr rfl) (Z4F (Z0I Z0g (Z0s Z0N) (Z0I Z0g (Z0s Z0N) (Z0I Z0g (Z0s (qI Z0c)) (Z0I Z0g (Z0s Z0N) (Z0I Z0g (Z0s Z0N) Z4x))))) rfl rfl (by exact qj0 _ _) qS))
    (Z0a (Z1V (Z3k hr) (pvF 2) Z0g (Z4g rfl (BlockOk.of (N:=["_law_k","_law_one"]) (nl:=[none,some 1]) (cl:=[("_law_one",s.heap.objs.size+2)]) rfl qP qP rfl (sub1 rfl) (nm:=["_law_one"]) rfl qP rfl (fun i hi j hj=>by
            match i,hi with
            | 0,_=>cases hj
             | 1,_=>cases hj; exact ⟨_,rfl,rfl,rfl,.inl rfl⟩
            )) (Z0K rfl T.O0J (qI (Z0h Z0x Z0c (Z0h Z0u (pvF 1) Z0c))))
          (fun C fp s H=>(qH 0 (show (["_law_k","_law_one"]:List Str).Nodup by decide +kernel)))
          (fun C fp s H=>(Z0h Z0x Z0c (Z0h Z0u (qF O0e hr (qJ (pvF 1) (Z0h Z0x Z0c (pvF 0)))) (qD K (Z0s (qJ Z0c Z0c)) (Z1R (Z9L rfl) rfl T.z_min J2M (qJ (pvF 0) Z0c))))))) rfl)
    (Z0a (Z2R PassesOwn.never rfl (Z0K rfl T.O0J (qI (Z0h Z0x Z0c (Z0h Z0u (Z0h Z0A (pvF 1) Z0c) Z0c)))) (Z6O (i:=3) O0g.nd rfl (Or.inr rfl)) (Z0a (qG 4 O0g.nd (qF O0e hr (qJ (qF O0i hr (qJ (pvF 0) Z0c)) (pvF 3))))
    (Z0a (Z0j (Z1c qa6 qb3 qb4 Z0q (qB hr 2) (qI (Z0k (qJ (qD K (Z0s (Z0r (Z0s (qI Z0g)) (qK (Z0s Z0N) (Z0s (qI Z0g)) (Z0s (qJ Z0g Z0g))))) (Z0h Z0u (pvF 4) Z0c)) (Z4c Z3J Z0g (Z0h Z0u (Z0h Z0A (pvF 4) Z0c) Z0c) (fun _ _=>rfl)))))))
    (Z0b (Z0j (Z1c qa6 qh8 qh9 Z2z (qB hr 2) (qI (Z0h Z7O (Z0s (qI (pvF 3))) (Z0h Z0x Z0c (Z0h Z0u (Z0h Z0A (pvF 4) Z0c) Z0c))))))))))
    (Z0a (Z2R PassesOwn.never rfl (Z0K rfl T.O0J (qI (qL T.z_len (qI (qB hr 2))))) (qH 5 O0g.nd) (Z0a (qG 6 O0g.nd (Z0s Z0N))
    (Z0a (Z2R PassesOwn.never rfl (Z0K rfl T.O0J (qI (qL T.z_len (qI (qB hr 2))))) (Z6O (i:=3) O0g.nd rfl (Or.inr rfl)) (Z0a (Z1J rfl O0g.nd (i:=7) rfl rfl (BlockOk.of (N:=["_law_b","_law_word","_law_world_here"]) (nl:=[none,some 3,some 2]) (cl:=[("_law_world_here",s.heap.objs.size+3),("_law_word",s.heap.objs.size+4)]) rfl qP qP rfl (sub2 rfl rfl) (nm:=["_law_world_here","_law_word"]) rfl qP rfl (fun i hi j hj=>by
            match i,hi with
            | 0,_=>cases hj
             | 1,_=>cases hj; exact ⟨_,rfl,rfl,rfl,.inl rfl⟩
             | 2,_=>cases hj; exact ⟨_,rfl,rfl,rfl,.inl rfl⟩
            )) (Z0K rfl T.O0J (qI (qL T.z_len (qI (qB hr 2)))))
          (fun C fp s H=>(qH 0 (show (["_law_b","_law_word","_law_world_here"]:List Str).Nodup by decide +kernel)))
          (fun C fp s H=>(qM Z0B (qD K (qB hr 2) (pvF 0)) (pvF 1))) (fun C fp s H=>(pvF 0)))
    (Z0b (Z0j (Z1c qa6 qb3 qb4 Z0q (pvF 6) (qI (qD K (pvF 7) (Z0h Z0u (qF O0e hr (qJ (Z0h Z0x (qF O0i hr (qJ (pvF 0) Z0c)) (pvF 5)) (pvF 3))) (qL T.z_len (qI (pvF 7)))))))))))
    (Z0b (Z0j (Z1c qa6 qb3 qb4 Z0q (qB hr 2) (qI (Z0h Z1Y (pvF 6) (Z0s (qI Z1d))))))))))
    (Z0a (Z2R PassesOwn.never rfl (Z0K rfl T.O0J (qI (qL T.z_len (qI (qB hr 2))))) (qH 8 O0g.nd) (Z0a (Z1l (qD K (qB hr 2) (qD K (qB hr 2) (pvF 8))) (Z1X (n:=2) rfl (Z0p (qH 9 O0g.nd) (Z0p (qH 10 O0g.nd) Z1W))))
    (Z0a (qG 11 O0g.nd (Z0h Z0x (qF O0i hr (qJ (pvF 0) (Z0h Z0x Z0c (pvF 8)))) (Z0h Z2h Z0c (pvF 8))))
    (Z0b (Z0j (Z1c qa6 qb3 qb4 Z0q (qB hr 2) (qI (qF O1i hr (Z0r (pvF 2) (Z0r (Z0h Z1Y (Z0s (qI Z0g)) (pvF 9)) (qK (pvF 10) (pvF 11) (Z0h Z0x Z0c (Z0h Z0u (pvF 11) Z0c)))))))))))))
    (Z0a (qG 12 O0g.nd (qF O0i hr (qJ (pvF 0) Z0c)))
    (Z0a (Z0j (Z1c qa6 qb3 qb4 Z0q (qB hr 2) (qI (qF O1i hr (Z0r (pvF 2) (Z0r (Z0h Z7O (Z0s (qI Z0g)) (Z0h Z0u (pvF 12) Z0c)) (qK (Z4c Z3J Z0g (Z0h Z0u (Z0h Z0A (pvF 12) Z0c) Z0c) (fun _ _=>rfl)) (pvF 12) (Z0h Z0x Z0c (Z0h Z0u (Z0h Z0A (pvF 12) Z0c) Z0c)))))))))
    (Z0a (Z1V (Z3k hr) (pvF 2) Z0g (Z4g rfl (BlockOk.of (N:=["_law_k","_law_script"]) (nl:=[none,some 0]) (cl:=[("_law_script",s.heap.objs.size+1)]) rfl qP qP rfl (sub1 rfl) (nm:=["_law_script"]) rfl qP rfl (fun i hi j hj=>by
            match i,hi with
            | 0,_=>cases hj
             | 1,_=>cases hj; exact ⟨_,rfl,rfl,rfl,.inl rfl⟩
            )) (Z0K rfl T.O0J (qI (Z0h Z0u (pvF 12) Z0c)))
          (fun C fp s H=>(qH 0 (show (["_law_k","_law_script"]:List Str).Nodup by decide +kernel)))
          (fun C fp s H=>(qF O0m hr (qI (qF O0i hr (qJ (pvF 1) (Z0h Z0x Z0c (pvF 0)))))))) rfl)
    (Z0b (Z0n (pvF 2)))))))))))),?_⟩
  refine J2Q fun uz9 huz9 uz8 huz8 uz7 huz7 uz6 huz6 uz5 huz5 uz4 huz4 uz3 huz3 uz2 huz2 uz1 huz1=>?_
  walk_at "rd"
  have cell:∀ (k:Nat) {H':Hp} {Q':VK} {E':XK},Same H H'→(∀ c,Q' (.int c) H')→Z5v K [.ref a,.int (k:Int)] H' Q' E':=fun k H' Q' E' s h=>⟨a,ns,k,rfl,sq.same s,h⟩
  refine cell 0 (Same.refl _) fun one=>?_
  subst huz1
  walk_at "rd"
  refine New.of fun p H1 h1 s1 e1=>New.of fun p1 H2 h2 s2 e2=>New.of fun p2 H3 h3 s3 e3=>New.of fun p3 H4 h4 s4 e4=>New.of fun p4 H5 h5 s5 e5=>New.of fun p5 H6 h6 s6 e6=>?_
  have hfr:=h1
  have S16:=s2.trans (s3.trans (s4.trans (s5.trans s6)))
  have hp6:=S16 _ _ e1
  refine ⟨hp6,[(.inr "heads",.ref p1),(.inr "owners",.ref p2),(.inr "sites",.ref p3),(.inr "blocks",.ref p4),(.inr "tables",.ref p5)],rfl,by show 5≤15; omega,?_⟩
  subst huz2
  walk_at "rd"
  have e7:upd H6 p (.dK (Z0X [] [(.inr "heads",.ref p1),(.inr "owners",.ref p2),(.inr "sites",.ref p3),(.inr "blocks",.ref p4),(.inr "tables",.ref p5)])) p=some (.dK [(.inr "heads",.ref p1),(.inr "owners",.ref p2),(.inr "sites",.ref p3),(.inr "blocks",.ref p4),(.inr "tables",.ref p5)]):=Z0d
  have np:∀ {a:y8} {o:HO},H a=some o→a≠p:=fun {a o} e z=>by rw [z,h1] at e; cases e
  have nl:∀ {a:y8} {xs:List V},H6 a=some (.lst xs)→a≠p:=fun {a xs} e z=>by rw [z,hp6] at e; cases e
  have S7:Same H (upd H6 p (.dK (Z0X [] [(.inr "heads",.ref p1),(.inr "owners",.ref p2),(.inr "sites",.ref p3),(.inr "blocks",.ref p4),(.inr "tables",.ref p5)]))):=fun b o e=>by rw [Z0e (np e)]; exact (s1.trans S16) _ _ e
  have L7:∀ {a:y8} {xs:List V},H6 a=some (.lst xs)→upd H6 p (.dK (Z0X [] [(.inr "heads",.ref p1),(.inr "owners",.ref p2),(.inr "sites",.ref p3),(.inr "blocks",.ref p4),(.inr "tables",.ref p5)])) a=some (.lst xs):=fun {a xs} e=>by rw [Z0e (nl e)]; exact e
  have f1:=L7 ((s3.trans (s4.trans (s5.trans s6))) _ _ e2)
  have f2:=L7 ((s4.trans (s5.trans s6)) _ _ e3)
  have f3:=L7 ((s5.trans s6) _ _ e4)
  have f4:=L7 (s6 _ _ e5)
  have f5:=L7 e6
  clear L7 nl
  have nd:(p1≠p2∧p1≠p3∧p1≠p4∧p1≠p5)∧(p2≠p3∧p2≠p4∧p2≠p5)∧(p3≠p4∧p3≠p5)∧p4≠p5:=⟨⟨ne0 e2 h3,ne0 (s3 _ _ e2) h4,ne0 ((s3.trans s4) _ _ e2) h5,ne0 ((s3.trans (s4.trans s5)) _ _ e2) h6⟩,⟨ne0 e3 h4,ne0 (s4 _ _ e3) h5,ne0 ((s4.trans s5) _ _ e3) h6⟩,⟨ne0 e4 h5,ne0 (s5 _ _ e4) h6⟩,ne0 e5 h6⟩
  have fr:∀ a∈[p1,p2,p3,p4,p5],H a=none:=by
    intro a ha
    simp only [qa8,qk6,or_false] at ha
    rcases ha with rfl | rfl | rfl | rfl | rfl
    · exact Z0z s1 h2
    · exact Z0z (s1.trans s2) h3
    · exact Z0z (s1.trans (s2.trans s3)) h4
    · exact Z0z (s1.trans (s2.trans (s3.trans s4))) h5
    · exact Z0z (s1.trans (s2.trans (s3.trans (s4.trans s5)))) h6
  generalize upd H6 p (.dK (Z0X [] [(.inr "heads",.ref p1),(.inr "owners",.ref p2),(.inr "sites",.ref p3),(.inr "blocks",.ref p4),(.inr "tables",.ref p5)]))=H7 at e7 S7 f1 f2 f3 f4 f5 ⊢
  refine ⟨qR,qR,fun D hD=>?_⟩
  obtain ⟨nf,hnf,nf1,nf4⟩:∃ n:Nat,(1+one % 4).toNat=n∧1≤n∧n≤4:=⟨_,rfl,qR,qR⟩
  rw [hnf]
  refine Z6l none [some (.int one)] (fun i v _=>∃ m:Nat,v=.int m∧2≤m∧m≤4∧(i=0→m≤3)) (fun _ _ _ _ h _=>h) rfl hD (by rw [sizeLine_eq]; omega) (fun i hi H8 K' s8 kk=>?_) (fun vs H8 s8 e8 lvs hR=>?_)
  · walk_at "rd"
    refine ⟨_,_,rfl,fun r hr=>New.of fun l H9 h9 s9 e9=>?_⟩
    by_cases z:i=0
    · subst z
      exact ⟨_,SqL.of e9,.int 2,rfl,_,rfl,_,rfl,qR,kk _ _ s9 ⟨2+r % 2,rfl,qR,qR,fun _=>by omega⟩⟩
    · rw [show (if 1 < (i:Int) then (1:Int) else i)=1 by split <;> omega]
      exact ⟨_,SqL.of e9,.int 3,rfl,_,rfl,_,rfl,qR,kk _ _ s9 ⟨2+r % 3,rfl,qR,qR,fun e=>absurd e z⟩⟩
  obtain ⟨fs,rfl,hfs⟩:=J3g hR
  rw [qa2] at lvs
  refine ⟨_,DPut.k (k:=.inr "fields") (s8 _ _ e7) (by rw [sizeLine_eq]; show 5 < _; omega),?_⟩
  have hwb:WB K H (upd H8 p (.dK (putK [(.inr "heads",.ref p1),(.inr "owners",.ref p2),(.inr "sites",.ref p3),(.inr "blocks",.ref p4),(.inr "tables",.ref p5)] (.inr "fields") (.ref D)))) ⟨p,D,p1,p2,p3⟩ p4 p5 ⟨fs,[],[]⟩ 0 [] []:=by
    have ul:∀ {a:y8} {xs:List V},H8 a=some (.lst xs)→upd H8 p (.dK (putK [(.inr "heads",.ref p1),(.inr "owners",.ref p2),(.inr "sites",.ref p3),(.inr "blocks",.ref p4),(.inr "tables",.ref p5)] (.inr "fields") (.ref D))) a=some (.lst xs):=fun {a xs} e=>by rw [Z0e (fun z=>by rw [z,s8 _ _ e7] at e; cases e)]; exact e
    have ml:∀ x∈[p1,p2,p3,p4,p5],∃ xs,H7 x=some (.lst xs):=by
      intro x hx
      simp only [qa8,qk6,or_false] at hx
      rcases hx with rfl | rfl | rfl | rfl | rfl
      · exact ⟨_,f1⟩
      · exact ⟨_,f2⟩
      · exact ⟨_,f3⟩
      · exact ⟨_,f4⟩
      · exact ⟨_,f5⟩
    refine ⟨⟨Z0d,ul e8,nd,fun z=>?_,fun z=>?_,fun b o e=>by rw [Z0e (np e)]; exact s8 _ _ (S7 _ _ e),fr⟩,⟨[],ul (s8 _ _ f1),.nil⟩,ul (s8 _ _ f2),ul (s8 _ _ f3),⟨[],ul (s8 _ _ f4),.nil⟩,⟨[],ul (s8 _ _ f5),.nil⟩⟩
    · obtain ⟨xs,e⟩:=ml _ z
      rw [hD] at e; cases e
    · obtain ⟨xs,e⟩:=ml _ z
      rw [e7] at e; cases e
  clear e1 e2 e3 e4 e5 e6 e7 e8 f1 f2 f3 f4 f5 S7 s8 np fr nd hp6 S16 s1 s2 s3 s4 s5 s6 h1 h2 h3 h4 h5 h6 hD hR
  generalize upd H8 p (.dK (putK [(.inr "heads",.ref p1),(.inr "owners",.ref p2),(.inr "sites",.ref p3),(.inr "blocks",.ref p4),(.inr "tables",.ref p5)] (.inr "fields") (.ref D)))=Ha at hwb ⊢
  subst huz3
  walk_at "rd"
  obtain ⟨nw,hnw,nw1,nw3⟩:∃ n:Nat,(1+one / 4 % 3).toNat=n∧1≤n∧n≤3:=⟨_,rfl,qR,qR⟩
  refine ⟨qR,qR,?_⟩
  rw [hnw]
  refine Z1h (WI1 K H ⟨p,D,p1,p2,p3⟩ p4 p5 fs (fun x y=>[some (.ref a),some (.int one),some (.ref p),x,y,none,none,none,none,none,none,none,none])) ⟨[],[],none,none,hwb,rfl,⟨(fun h hh=>by cases hh),(fun b hb=>by cases hb),(fun w hw=>absurd hw (qg7 w)),qa0 _⟩,rfl⟩ (fun i σ Hb hi hI=>?_) (fun σ Hb hI=>?_)
  · obtain ⟨heads,owners,x3,x4,hb,rfl,ok,rfl⟩:=hI
    rw [qe6]
    walk_at "rd"
    have ld:tyV K "list" (V.ref p1) Hb:=let ⟨_,e,_⟩:=hb.hd; .inl ⟨rfl,_,SqL.of e⟩
    refine cell 1 hb.x.s0 fun c1=>⟨_,_,rfl,fun r hr=>⟨_,hb.wo.get.2.1,ld,New.of fun q1 H1 h1 s1 e1=>New.of fun q2 H2 h2 s2 e2=>New.of fun q3 H3 h3 s3 e3=>New.of fun q4 H4 h4 s4 e4=>New.of fun q5 H5 h5 s5 e5=>⟨_,rfl,?_⟩⟩⟩
    have S5:=s1.trans (s2.trans (s3.trans (s4.trans s5)))
    obtain ⟨px,ps,ax,ex,lp,kp,fx⟩:∃ (px:y8) (ps:List Kd),atI [V.ref q1,V.ref q2,V.ref q3,V.ref q4] ((r:Int) % 4)=some (.ref px)∧H5 px=some (.lst (ps.map kd))∧ps.length≤2∧(∀ k∈ps,k≠Kd.hx)∧Hb px=none:=by
      rcases (show (r:Int) % 4=0∨(r:Int) % 4=1∨(r:Int) % 4=2∨(r:Int) % 4=3 by omega) with e | e | e | e
      · rw [e]; exact ⟨q1,[.n],rfl,(s2.trans (s3.trans (s4.trans s5))) _ _ e1,by show 1≤2; omega,(fun k hk=>by cases qc3.mp hk; exact Kd.noConfusion),h1⟩
      · rw [e]; exact ⟨q2,[],rfl,(s3.trans (s4.trans s5)) _ _ e2,qa4 _,(fun k hk=>by cases hk),Z0z s1 h2⟩
      · rw [e]; exact ⟨q3,[.h],rfl,(s4.trans s5) _ _ e3,by show 1≤2; omega,(fun k hk=>by cases qc3.mp hk; exact Kd.noConfusion),Z0z (s1.trans s2) h3⟩
      · rw [e]; exact ⟨q4,[.n,.h],rfl,s5 _ _ e4,by show 2≤2; omega,(fun k hk=>(qa8.mp hk).elim (fun e=>by rw [e]; exact Kd.noConfusion) (fun e=>by cases qc3.mp e; exact Kd.noConfusion)),Z0z (s1.trans (s2.trans s3)) h4⟩
    obtain ⟨kk,y,nk,ay,ey⟩:=J3a (j:=(r:Int) / 4 % 4) qR
    refine ⟨_,SqL.of e5,_,ax,_,rfl,qP,y,ay,?_⟩
    rw [ey]
    refine New.of fun t H6 h6 s6 e6=>?_
    have hb6:=hb.same (S5.trans s6)
    obtain ⟨hv,hv1,hv2⟩:=hb6.hd
    have lhv:=hv2.length
    have npx:px∉Ls ⟨p,D,p1,p2,p3⟩ p4 p5:=hb.nin fx
    have hb7:=hb6.addH (p:=(ps,kk)) hv1 ⟨t,px,rfl,e6,s6 _ _ ex,npx⟩
    have lhh:hv.length=heads.length:=lhv
    refine ⟨p1,rfl,hv,hv1,qR,?_⟩
    generalize upd H6 p1 (.lst (hv++[V.ref t]))=H7 at hb7 ⊢
    refine ⟨_,hb7.wo.get.2.2.1,.inl ⟨rfl,_,SqL.of hb7.ow⟩,New.of fun l8 H8 h8 s8 e8=>⟨_,rfl,_,e8,qR,qR,by show 1 * _≤_; omega,fun l9 h9=>?_⟩⟩
    obtain ⟨rn,hrn,rn1,rn3⟩:∃ n:Nat,(1+(r:Int) / 16 % 3).toNat=n∧1≤n∧n≤3:=⟨_,rfl,qR,qR⟩
    rw [hrn]
    have er:(qa3 rn [V.int heads.length]).flatten=(qa3 rn heads.length).map fun (m:Nat)=>V.int m:=by rw [qi0,qm4]
    rw [er]
    have s9:=Z0f h9 (.lst ((qa3 rn heads.length).map fun (m:Nat)=>V.int m))
    have e9:upd H8 l9 (.lst ((qa3 rn heads.length).map fun (m:Nat)=>V.int m)) l9=some (.lst ((qa3 rn heads.length).map fun (m:Nat)=>V.int m)):=Z0d
    generalize upd H8 l9 (.lst ((qa3 rn heads.length).map fun (m:Nat)=>V.int m))=H9 at s9 e9 ⊢
    have hb9:=hb7.same (s8.trans s9)
    have lol:=ok.ol
    exact ⟨p2,rfl,_,hb9.ow,_,e9,by rw [qa2,qa2,qd3]; show owners.length+_≤_; omega,heads++[(ps,kk)],_,_,_,hb9.addO (qa3 rn heads.length),by rw [qa1]; rfl,ok.add ⟨lp,kp,nk⟩ rn1 rn3,rfl⟩
  obtain ⟨heads,owners,x3,x4,hb,hl,ok,rfl⟩:=hI
  clear hwb
  subst huz4
  walk_at "rd"
  have lhn:heads.length≤3:=by omega
  have lon:=ok.ol
  have lon9:owners.length≤9:=by omega
  refine ⟨_,hb.wo.get.1,D,rfl,_,.inl (SqL.of hb.x.fl),qR,by rw [qa2]; show (fs.length:Int) < _; omega,?_⟩
  rw [qd0,qa2]
  refine Z1h (WI2 K H ⟨p,D,p1,p2,p3⟩ p4 p5 ⟨fs,heads,owners⟩ (fun x3 x5 x6 x7=>[some (.ref a),some (.int one),some (.ref p),x3,x4,x5,x6,x7,none,none,none,none,none])) ⟨[],x3,none,none,none,hb,rfl,(fun t ht=>by cases ht),rfl⟩ (fun i σ Hc hi hI=>?_) (fun σ Hc hI=>?_)
  · obtain ⟨tabs,y3,y5,y6,y7,hc,rfl,tok,rfl⟩:=hI
    rw [qe6]
    walk_at "rd"
    refine New.of fun ro Hd hd sd ed=>?_
    have hb1:=hc.same sd
    obtain ⟨hv,v1,v2⟩:=hb1.hd
    have lhv:hv.length=heads.length:=v2.length
    refine ⟨_,hb1.wo.get.2.1,p1,rfl,_,.inl (SqL.of v1),qR,qR,?_⟩
    rw [qd0,lhv]
    refine Z1h (WI3 Hd ro owners (fun x3 x7=>[some (.ref a),some (.int one),some (.ref p),x3,x4,some (.int tabs.length),some (.ref ro),x7,none,none,none,none,none])) ⟨[],_,_,.refl,ed,rfl,(fun w hw=>absurd hw (qg7 w)),rfl⟩ (fun j σ He hj hJ=>?_) (fun σ He hJ=>?_)
    · obtain ⟨xs,z3,z7,ce,ee,rfl,hx,rfl⟩:=hJ
      rw [qe6]
      have Se:Same Hc He:=Ch.same ((Ch.of sd).less ce fun x hx=>.inr (by cases qc3.mp hx; exact hd))
      have hbe:=hc.same Se
      walk_at "rd"
      refine ⟨_,hbe.wo.get.2.2.1,p2,rfl,_,.inl (SqL.of hbe.ow),qR,by rw [qa2]; show (owners.length:Int) < _; omega,fun D2 hD2=>?_⟩
      rw [qd0,qa2]
      refine Z3h none [some (.int xs.length),some (.ref p)] (fun i=>decide (owners[i]?=some xs.length)) rfl hD2 (by rw [sizeLine_eq]; show owners.length≤_; omega) (fun k hk Hf K' sf kk=>?_) (fun Hf sf ef=>?_)
      · have hk':k < owners.length:=hk
        walk_at "rd"
        have hbf:=hbe.same sf
        refine ⟨_,hbf.wo.get.2.2.1,p2,rfl,_,SqL.of hbf.ow,_,Z3l (qb2 hk'),?_⟩
        refine ⟨rfl,?_⟩
        have:=kk _ (Same.refl _)
        rw [qb2 hk'] at this
        have e2:decide (some owners[k]=some xs.length)=decide (V.int (owners[k]:Int)=V.int (xs.length:Int)):=decide_eq_decide.mpr ⟨fun z=>by rw [qb7 z],fun z=>by injection z with z; rw [qj1 z]⟩
        rw [e2] at this
        exact this
      have ef:Hf D2=some (.lst (((qc6 owners.length).filter fun i=>decide (owners[i]?=some xs.length)).map fun i:Nat=>V.int i)):=ef
      obtain ⟨bw,hbw⟩:=ok.oa xs.length hj
      have mb:bw∈(qc6 owners.length).filter (fun i=>decide (owners[i]?=some xs.length)):=qd8.mpr ⟨qi3.mpr (qa9.mp hbw).1,decide_eq_true hbw⟩
      generalize hks:(qc6 owners.length).filter (fun i=>decide (owners[i]?=some xs.length))=ks at ef mb
      have ink:∀ i∈ks,owners[i]?=some xs.length:=fun i hi=>by rw [← hks] at hi; exact of_decide_eq_true (qd8.mp hi).2
      have l0:0 < ks.length:=List.length_pos_of_mem mb
      have ro1:=sf _ _ ee
      refine ⟨.inl ⟨rfl,_,SqL.of ro1⟩,cell 2 ((hbe.same sf).x.s0) fun c2=>⟨_,rfl,_,_,rfl,fun r hr=>⟨_,rfl,_,.inl (SqL.of ef),_,rfl,by rw [qa2]; omega,_,rfl,?_⟩⟩⟩
      rw [qa2]
      have hjj:(r:Int) % (ks.length:Int)=((r % ks.length:Nat):Int):=by rw [qf8]
      have jl:r % ks.length < ks.length:=qf9 _ l0
      rw [hjj]
      refine ⟨_,SqL.of ef,_,Z3l (qb2 jl),_,ro1,by rw [qa2]; omega,xs++[ks[r % ks.length]],_,_,(ce.trans (.of sf)).trans (.put _ ro1 qb5),by rw [Z0d,qe1]; rfl,by rw [qa1]; rfl,fun w hw=>?_,rfl⟩
      rcases qh6 w xs.length with e | e
      · obtain ⟨b,b1,b2⟩:=hx w e
        exact ⟨b,by rw [qd4 e]; exact b1,b2⟩
      · have e:w=xs.length:=by omega
        subst e
        exact ⟨_,by rw [qd6 (qa0 _),qg3]; rfl,ink _ (qe3 _)⟩
    · obtain ⟨xs,z3,z7,ce,ee,lx,hx,rfl⟩:=hJ
      have Se:Same Hc He:=Ch.same ((Ch.of sd).less ce fun x hx=>.inr (by cases qc3.mp hx; exact hd))
      have hbe:=hc.same Se
      walk_at "rd"
      obtain ⟨ts,t1,t2⟩:=hbe.tt
      have lts:ts.length=tabs.length:=t2.length
      have lfi:tabs.length < fs.length:=hi
      refine ⟨_,hbe.get.2,.inl ⟨rfl,_,SqL.of t1⟩,New.of fun l1 H1 h1 s1 e1=>⟨_,s1 _ _ ee,_,e1,by rw [qa2,lx]; show _+1≤_; omega,New.of fun l2 H2 h2 s2 e2=>⟨p5,rfl,_,(s1.trans s2) _ _ t1,qR,tabs++[xs.map some++[none]],_,_,_,_,(hbe.same (s1.trans s2)).addT ((s1.trans s2) _ _ t1) ⟨l2,rfl,?_,(hbe.same s1).nin h2⟩,by rw [qa1]; rfl,fun t ht=>?_,rfl⟩⟩⟩
      · rw [e2,qe1,qj7]; rfl
      · rcases qd9.mp ht with e | e
        · exact tok t e
        · cases qc3.mp e
          refine ⟨by rw [qa1,qa2,lx]; rfl,fun w hw=>?_,fun b hb=>?_⟩
          rotate_left
          · rcases qd9.mp hb with e | e
            · obtain ⟨b',m1,m2⟩:=qh3.mp e
              cases m2
              obtain ⟨w,hw⟩:=List.mem_iff_getElem?.mp m1
              obtain ⟨b2,y1,y2⟩:=hx w (by rw [← lx]; exact (qa9.mp hw).1)
              rw [hw] at y1
              cases y1
              exact (qa9.mp y2).1
            · cases qc3.mp e
          obtain ⟨b,b1,b2⟩:=hx w hw
          exact ⟨b,by rw [qd4 (by rw [qa2,lx]; exact hw),qc8,b1]; rfl,b2⟩
  obtain ⟨tabs,y3,y5,y6,y7,hc,lt,tok,rfl⟩:=hI
  clear hb
  subst huz5
  walk_at "rd"
  have wf:WF ⟨fs,heads,owners⟩:=by
    have h0:fs[0]?=some fs[0]:=qb2 qR
    refine ⟨⟨_,h0,(hfs 0 _ h0).2.2 rfl⟩,fun m hm=>?_,by show fs.length≤4; omega,ok.ob,⟨lon9,?_⟩,⟨lhn,by show 0 < heads.length; omega⟩,ok.hk⟩
    · obtain ⟨j,hj⟩:=List.mem_iff_getElem?.mp hm
      exact ⟨(hfs j m hj).1,(hfs j m hj).2.1⟩
    · obtain ⟨b,hb⟩:=ok.oa 0 qR
      exact qg0 (qa4 _) (qa9.mp hb).1
  generalize hW:(⟨fs,heads,owners⟩:Wo)=W at hc wf
  have wfs:W.fields=fs:=by rw [← hW]
  have tok':∀ t∈tabs,J0U W.heads W.owners t:=by rw [← hW]; exact tok
  have lt:tabs.length=W.fields.length:=by rw [← hW]; exact lt
  have whe:W.heads=heads:=by rw [← hW]
  have wow:W.owners=owners:=by rw [← hW]
  have lwo:W.owners.length≤9:=wf.on.1
  refine ⟨_,hc.wo.get.2.2.1,p2,rfl,_,.inl (SqL.of hc.ow),qR,by rw [qa2]; omega,?_⟩
  rw [qd0,qa2]
  refine Z1h (WI4 K H ⟨p,D,p1,p2,p3⟩ p4 p5 W tabs (fun x8 x9 x10 x11=>[some (.ref a),some (.int one),some (.ref p),y3,x4,y5,y6,y7,x8,x9,x10,x11,none])) ⟨[],[],none,none,none,none,hc,qa0 _,rfl,(fun b B w ps tk h=>by simp at h),(fun B hB=>by cases hB),rfl⟩ (fun i σ Hd hi hI=>?_) (fun σ Hd hI=>?_)
  · obtain ⟨ss,bks,x8,x9,x10,x11,hd,lss,rfl,bo,bs,rfl⟩:=hI
    rw [qe6]
    have hwo:W.owners[bks.length]?=some W.owners[bks.length]:=qb2 hi
    have hwl:=wf.ow _ (qe3 hi)
    generalize W.owners[bks.length]=wd at hwo hwl
    obtain ⟨hv,v1,v2⟩:=hd.hd
    have hhd:W.heads[wd]?=some W.heads[wd]:=qb2 hwl
    have hk:=wf.hk _ (qe3 hwl)
    generalize W.heads[wd]=hh at hhd hk
    obtain ⟨ps,tk⟩:=hh
    have hk1:ps.length≤2:=hk.1
    obtain ⟨v,ev,t,pl,rfl,ht,hpl,npl⟩:=Pd.at v2 hhd
    walk_at "rd"
    refine ⟨_,hd.wo.get.2.1,_,hd.wo.get.2.2.1,p2,rfl,_,SqL.of hd.ow,_,Z3l hwo,p1,rfl,_,rfl,_,SqL.of v1,_,Z0C ev,?_⟩
    refine ⟨t,rfl,_,SqT.of ht,rfl,_,_,rfl,_,_,rfl,rfl,a,ns,8+bks.length,by rw [qk7]; rfl,sq.same hd.x.s0,fun c=>⟨c,rfl,?_⟩⟩
    obtain ⟨bv,b1,b2⟩:=hd.bb
    have lbv:bv.length=bks.length:=b2.length
    refine ⟨_,hd.get.1,.inl ⟨rfl,_,SqL.of b1⟩,New.of fun l1 H1 h1 s1 e1=>⟨pl,rfl,_,e1,_,s1 _ _ hpl,by rw [qa2]; show 1+_≤_; omega,New.of fun l2 H2 h2 s2 e2=>?_⟩⟩
    obtain ⟨m,hm,hm8⟩:∃ m:Nat,1+(c+31 * (bks.length:Int)) % 5=m∧m≤8:=⟨(1+(c+31 * (bks.length:Int)) % 5).toNat,qR,qR⟩
    rw [hm]
    have hd2:=hd.same (s1.trans s2)
    have n2:=(hd.same s1).nin h2
    refine ⟨⟨p,D,p1,p2,p3⟩,W,ss,.h::ps,tk,l2,_,m,rfl,hd2.wo,wf,e2,(fun z=>n2 (by rw [z]; exact qb1 _ (qb1 _ qb5))),(fun k hk2=>(qa8.mp hk2).elim (fun e=>by rw [e]; exact Kd.noConfusion) (hk.2.1 k)),by show _+1≤_; omega,hk.2.2,hm8,fun v x rows H3 k3 t3 e3 lx3 bk3 sf3 l3=>?_⟩
    have hd3:=hd2.ran k3 t3 e3
    have b3:H3 p4=some (.lst bv):=k3 _ _ hd.x.nd.2.2.1.1.symm ((s1.trans s2) _ _ b1)
    refine ⟨p4,rfl,bv,b3,qR,ss++x,_,_,_,_,_,hd3.addB b3 bk3,by rw [qa1]; omega,by rw [qa1]; rfl,fun b B w ps' tk' e4 e5 e6=>?_,fun B hB=>?_,rfl⟩
    · rcases qh6 b bks.length with e | e
      · rw [qd4 e] at e4
        obtain ⟨u1,u2⟩:=bo b B w ps' tk' e4 e5 e6
        exact ⟨u1,u2.mono x⟩
      · have e:b=bks.length:=by
          have:=(qa9.mp e4).1
          rw [qa1] at this
          have:b < bks.length+1:=this
          omega
        subst e
        rw [qd6 (qa0 _),qg3] at e4
        cases e4
        rw [hwo] at e5
        cases e5
        rw [hhd] at e6
        cases e6
        exact ⟨by show ps.length+1+2=_; omega,sf3⟩
    · rcases qd9.mp hB with e | e
      · exact bs B e
      · cases qc3.mp e
        exact ⟨by show ps.length+1≤6; omega,by show ps.length+1+2≤6; omega,l3,fun q hq=>(sf3.small q hq).mono (by rw [qa1]; omega) (by rw [qa1,qa2]; show ps.length+1+2≤6; omega)⟩
  obtain ⟨ss,bks,x8,x9,x10,x11,hd,lss,lbk,bo,bs,rfl⟩:=hI
  clear hc
  subst huz6
  walk_at "rd"
  refine cell 3 hd.x.s0 fun c3=>?_
  subst huz7
  walk_at "rd"
  obtain ⟨bv,b1,b2⟩:=hd.bb
  have lbv:bv.length=bks.length:=b2.length
  obtain ⟨nm,hnm,nm3⟩:∃ n:Nat,(c3 % 4).toNat=n∧n≤3:=⟨_,rfl,qR⟩
  obtain ⟨m,hm,hm8⟩:∃ m:Nat,2+c3 / 12 % 7=m∧m≤8:=⟨(2+c3 / 12 % 7).toNat,qR,qR⟩
  refine ⟨_,hd.get.1,.inl ⟨rfl,_,SqL.of b1⟩,New.of fun l1 H1 h1 s1 e1=>⟨_,e1,qR,qR,by show 1 * _≤_; omega,fun l2 h2=>⟨qP,?_⟩⟩⟩
  obtain ⟨kk,y,nk,ay,ey⟩:=J2z (j:=c3 / 4 % 3) qR
  refine ⟨y,ay,?_⟩
  rw [ey,hnm,hm]
  have er:(qa3 nm [V.str (Str.ofString "n")]).flatten=(qa3 nm Kd.n).map kd:=by rw [qi0,qm4]; rfl
  rw [er]
  have s2:=Z0f h2 (.lst ((qa3 nm Kd.n).map kd))
  have e2:upd H1 l2 (.lst ((qa3 nm Kd.n).map kd)) l2=some (.lst ((qa3 nm Kd.n).map kd)):=Z0d
  generalize upd H1 l2 (.lst ((qa3 nm Kd.n).map kd))=H2 at s2 e2 ⊢
  have hd2:=hd.same (s1.trans s2)
  have n2:=(hd.same s1).nin h2
  refine ⟨⟨p,D,p1,p2,p3⟩,W,ss,qa3 nm .n,kk,l2,_,m,rfl,hd2.wo,wf,e2,(fun z=>n2 (by rw [z]; exact qb1 _ (qb1 _ qb5))),(fun k hk2=>by rw [List.eq_of_mem_replicate hk2]; exact Kd.noConfusion),by rw [qd3]; exact nm3,nk,hm8,fun v x rows H3 k3 t3 e3 lx3 bk3 sf3 l3=>?_⟩
  have hd3:=hd2.ran k3 t3 e3
  have b3:H3 p4=some (.lst bv):=k3 _ _ hd.x.nd.2.2.1.1.symm ((s1.trans s2) _ _ b1)
  refine ⟨p4,rfl,bv,b3,qR,?_⟩
  have hd4:=hd3.addB b3 bk3
  rw [qm4] at sf3
  rw [qd3] at hd4
  generalize upd H3 p4 (.lst (bv++[v]))=H4 at hd4 ⊢
  subst huz8
  walk_at "rd"
  refine ⟨qR,qR,fun D5 h5=>?_⟩
  rw [hnm]
  refine Z6l none [some (.ref a)] (fun i v _=>∃ m:Int,v=.int m∧Bd m) (fun _ _ _ _ h _=>h) rfl h5 (by rw [sizeLine_eq]; omega) (fun i hi H5 K' s5 kk=>?_) (fun vs H5 s5 e5 lvs hR=>?_)
  · walk_at "rd"
    refine ⟨a,ns,4+i,by rw [qk7]; rfl,sq.same (hd4.same s5).x.s0,fun c=>⟨c,rfl,fun r hr=>kk _ _ (Same.refl _) ⟨r,rfl,hr⟩⟩⟩
  obtain ⟨nums,rfl,hnums⟩:=J2V hR
  rw [qa2] at lvs
  have hd5:=hd4.same s5
  refine ⟨_,DPut.k (k:=.inr "numbers") hd5.x.d (by rw [sizeLine_eq]; show 6 < _; omega),?_⟩
  subst huz9
  walk_at "rd"
  obtain ⟨bs5,bb1,bb2⟩:=hd5.bb
  obtain ⟨ts5,tt1,tt2⟩:=hd5.tt
  have tt:=Z1I (.dK (putK [(.inr "heads",.ref p1),(.inr "owners",.ref p2),(.inr "sites",.ref p3),(.inr "blocks",.ref p4),(.inr "tables",.ref p5),(.inr "fields",.ref D)] (.inr "numbers") (.ref D5))) hd5.x.d Z5W
  have ul:∀ {a:y8} {xs:List V},H5 a=some (.lst xs)→upd H5 p (.dK (putK [(.inr "heads",.ref p1),(.inr "owners",.ref p2),(.inr "sites",.ref p3),(.inr "blocks",.ref p4),(.inr "tables",.ref p5),(.inr "fields",.ref D)] (.inr "numbers") (.ref D5))) a=some (.lst xs):=fun {a xs} e=>by rw [Z0e (fun z=>by rw [z,hd5.x.d] at e; cases e)]; exact e
  refine q p p4 p5 D5 W (ss++x) (bks++[⟨nm,nm+2,rows⟩]) tabs nums _ (fun b o e=>?_) ⟨⟨_,Z0d,rfl,rfl,rfl⟩,⟨bs5,ul bb1,Z4N bb2 tt⟩,⟨ts5,ul tt1,Paired.imp' (fun _ _ ⟨ta,u1,u2,_⟩=>⟨ta,u1,ul u2⟩) tt2⟩,ul e5⟩ ⟨wf,⟨lt,tok'⟩,fun b B w ps' tk' e4 e5 e6=>?_,⟨bks,⟨nm,nm+2,rows⟩,kk,rfl,lbk,by rw [lvs],by rw [lvs]; exact sf3⟩,fun B hB=>?_,⟨hnums,qR⟩⟩
  · rw [Z0e (fun z=>by rw [z,hfr] at e; cases e)]; exact hd5.x.s0 _ _ e
  · rw [qd4 (by rw [lbk]; exact (qa9.mp e5).1)] at e4
    obtain ⟨u1,u2⟩:=bo b B w ps' tk' e4 e5 e6
    exact ⟨u1,u2.mono x⟩
  · rcases qd9.mp hB with e | e
    · exact bs B e
    · cases qc3.mp e
      exact ⟨by show nm≤6; omega,by show nm+2≤6; omega,l3,fun q hq=>(sf3.small q hq).mono (by rw [qa1]; omega) (by rw [qa1,qd3]; show nm+2≤6; omega)⟩
end
noncomputable def AskR (K:y9) (H0 H:Hp) (s:MS) (v:V):Nat→Prop
 | 0=>∃ l ss,v=.ref l∧H0 l=none∧H l=some (.lst ss)∧Paired (FrV K H) ss s.frames.reverse
 | 1=>∃ l ms,v=.ref l∧H0 l=none∧H l=some (.lst ms)∧Paired (ThV K H) ms s.made
 | 2=>EndAt K H v s.ended
 | 3=>v=.int s.calls
 | 4=>v=.int s.looks
 | 5=>v=.int s.hits
 | 6=>v=.int s.rows
 | _=>False
section
variable (CM CP:y8) (K:y9)
inductive Z6w (vs:List V) (H:Hp) (Q:VK):Prop
 | mk (ex:y8→Prop) (o:MO) (P:Mach.Prog) (s:MS) (a1:vs=[.ref o.x]) (a2:MAt CM CP K ex o P s H) (a3:∀ l ms,H l=none→Paired (ThV K H) ms s.made→Q (.ref l) (upd H l (.lst ms))):Z6w vs H Q
def Z5I:Sp:=fun vs H Q _=>Z6w CM CP K vs H Q
inductive Z8T (vs:List V) (H:Hp) (Q:VK):Prop
 | mk (ex:y8→Prop) (o:MO) (P:Mach.Prog) (s:MS) (k:Nat) (a1:vs=[.ref o.x,.int k]) (a2:MAt CM CP K ex o P s H) (a3:k < 7) (a4:∀ v H',Same H H'→AskR K H H' s v k→Q v H'):Z8T vs H Q
def Z9G:Sp:=fun vs H Q _=>Z8T CM CP K vs H Q
end
section
theorem J0c (T:Txt P w K mg O0b O0a O0c):HasM P w K mg base 1 O0a "things" ["self"] (Z5I O0a O0b K):=by
 refine HasM.of T.O2f Z3R (fun _ _ _ _ _ _ us hl=>el1 us hl fun _=>rfl) (fun vs H Q E h=>?_) (fun f cdv A outer s H vs Q E hr h=>?_)
 ·obtain ⟨ex,o,P,s,rfl,_⟩:=h
  rfl
 obtain ⟨ex,o,P',s',rfl,M,q⟩:=h
 refine ⟨_,(Z0b (Z0n (Z0H Z0L rfl T.O1G Z2w (qI (qO 0))))),?_⟩
 walk_at "rd"
 obtain ⟨e0,hx,he0⟩:=M.ins
 obtain ⟨ms,m1,m2⟩:=M.mad
 exact ⟨O0a,o.dx,_,hx,T.Machine.cl,T.O0k,_,Z2T,o.md,rfl,ms,.inl (SqL.of m1),fun l hl=>q l ms hl m2⟩
theorem J3K (T:Txt P w K mg O0b O0a O0c) (O0V:HasM P w K mg base 1 O0a "answer" ["self"] (Z6q O0a O0b K)) (O2j:HasM P w K mg base 1 O0a "frames" ["self"] (Z6a O0a O0b K)) (O2k:HasM P w K mg base 1 O0a "things" ["self"] (Z5I O0a O0b K)) (O1c:HasM P w K mg base 1 O0a "calls" ["self"] (Z3D O0a O0b K (fun s=>s.calls))) (O1d:HasM P w K mg base 1 O0a "looks" ["self"] (Z3D O0a O0b K (fun s=>s.looks))) (O1n:HasM P w K mg base 1 O0a "hits" ["self"] (Z3D O0a O0b K (fun s=>s.hits))) (O1N:HasM P w K mg base 1 O0a "rows_done" ["self"] (Z3D O0a O0b K (fun s=>s.rows))):Has P w K mg base 2 "_law_asked" ["_law_machine_here","_law_k"] (Z9G O0a O0b K):=by
 refine Has.of T.O2U Z5D (fun _ _ _ _ _ _ us hl=>el2 us hl fun _ _=>rfl) (fun vs H Q E h=>?_) (fun f cdv A outer s H vs Q E hr h=>?_)
 ·obtain ⟨ex,o,P,s,k,rfl,_⟩:=h
  rfl
 obtain ⟨ex,o,P',s',k,rfl,M,hk,q⟩:=h
 refine ⟨_,(Z0a (Z0t (qM Z4z (pvF 1) Z0c) (Z0b (Z0n (Z2G (qM Z0B (pvF 1) Z0c) (Z1y (pvF 0) T.Machine.cl O2k hr qS) (Z1y (pvF 0) T.Machine.cl O2j hr qS)))) Z0o)
  (Z0a (Z0t (qM Z4z (pvF 1) Z0c) (Z0b (Z0n (Z2G (qM Z0B (pvF 1) Z0c) (Z1y (pvF 0) T.Machine.cl O1c hr qS) (Z1y (pvF 0) T.Machine.cl O0V hr qS)))) Z0o)
  (Z0a (Z0t (qM Z4z (pvF 1) Z0c) (Z0b (Z0n (Z2G (qM Z0B (pvF 1) Z0c) (Z1y (pvF 0) T.Machine.cl O1n hr qS) (Z1y (pvF 0) T.Machine.cl O1d hr qS)))) Z0o)
  (Z0b (Z0n (Z1y (pvF 0) T.Machine.cl O1N hr qS)))))),?_⟩
 walk_at "rd"
 obtain ⟨e,hx,he⟩:=M.ins
 have num:∀ (g:MS→Nat),AskR K H H s' (.int (g s')) k→Z3D O0a O0b K g [.ref o.x] H Q E0:=fun g h=>⟨ex,o,P',s',rfl,M,q _ _ (Same.refl _) h⟩
 refine ite2 (fun _=>ite2 (fun z=>⟨o.dx,_,hx,rfl,?_⟩) (fun z=>⟨o.dx,_,hx,rfl,?_⟩)) (fun _=>ite2 (fun _=>ite2 (fun z=>⟨o.dx,_,hx,rfl,?_⟩) (fun z=>⟨o.dx,_,hx,rfl,?_⟩)) (fun _=>ite2 (fun _=>ite2 (fun z=>⟨o.dx,_,hx,rfl,?_⟩) (fun z=>⟨o.dx,_,hx,rfl,?_⟩)) (fun z=>⟨o.dx,_,hx,rfl,?_⟩)))
 ·have:k=1:=by omega
  subst this
  exact ⟨ex,o,P',s',rfl,M,fun l ms hl hp=>q _ _ (Z0f hl _) ⟨l,ms,rfl,hl,Z0d,Pd.imp (fun _ _ h=>h.t (Same.t (Z0f hl _))) hp⟩⟩
 ·have:k=0:=by omega
  subst this
  exact ⟨ex,o,P',s',rfl,M,fun l ms hl hp=>q _ _ (Z0f hl _) ⟨l,ms,rfl,hl,Z0d,Pd.imp (fun _ _ h=>h.t (Same.t (Z0f hl _))) hp⟩⟩
 ·have:k=3:=by omega
  subst this
  exact num _ rfl
 ·have:k=2:=by omega
  subst this
  exact ⟨ex,o,P',s',rfl,M,fun e he=>q _ _ (Same.refl _) he⟩
 ·have:k=5:=by omega
  subst this
  exact num _ rfl
 ·have:k=4:=by omega
  subst this
  exact num _ rfl
 ·have:k=6:=by omega
  subst this
  exact num _ rfl
end
section
variable (CM CP:y8) (K:y9)
noncomputable def J2W (H0 H:Hp) (s:MS) (l f t:y8):Prop:=H0 l=none∧H0 f=none∧H0 t=none∧f≠t∧f≠l∧t≠l∧∃ e ss ms,H l=some (.lst [.ref f,.ref t,e,.int s.calls,.int s.looks,.int s.hits,.int s.rows])∧EndAt K H e s.ended∧H f=some (.lst ss)∧Paired (FrV K H) ss s.frames.reverse∧H t=some (.lst ms)∧Paired (ThV K H) ms s.made
inductive J0M (vs:List V) (H:Hp) (Q:VK):Prop
 | mk (ex:y8→Prop) (o:MO) (P:Mach.Prog) (s:MS) (b:Int) (a1:vs=[.ref o.x,.int b]) (a2:MAt CM CP K ex o P s H) (a3:∀ l f t H',Same H H'→J2W K H H' s l f t→Q (.ref l) H'):J0M vs H Q
def J3S:Sp:=fun vs H Q _=>J0M CM CP K vs H Q
end
theorem AskR.same {K:y9} {H0 H H':Hp} {s:MS} {v:V} {k:Nat} (h:AskR K H0 H s v k) (t:SameT H H') (kk:∀ l xs,H0 l=none→H l=some (.lst xs)→H' l=some (.lst xs)):AskR K H0 H' s v k:=by
 match k,h with
 | 0,⟨l,ss,a,b,c,d⟩=>exact ⟨l,ss,a,b,kk _ _ b c,Pd.imp (fun _ _ h=>h.t t) d⟩
 | 1,⟨l,ss,a,b,c,d⟩=>exact ⟨l,ss,a,b,kk _ _ b c,Pd.imp (fun _ _ h=>h.t t) d⟩
 | 2,h=>exact EndAt.t h t
 | 3,h=>exact h
 | 4,h=>exact h
 | 5,h=>exact h
 | 6,h=>exact h
theorem J6K (a m:Nat) (ha:a < 7) (hm:m < 6) (k:Nat) (hk:k < 7):∃ t,t < 7∧(a+t * (1+m)) % 7=k:=by
 have:∀ a,a < 7→∀ m,m < 6→∀ k,k < 7→((qc6 7).any fun t=>(a+t * (1+m)) % 7 == k)=true:=by decide
 obtain ⟨t,h1,h2⟩:=List.any_eq_true.mp (this a ha m hm k hk)
 exact ⟨t,qi3.mp h1,eq_of_beq h2⟩
noncomputable def SEI (K:y9) (H0:Hp) (D:y8) (s:MS) (kf:Nat→Nat) (σ0:Option V→Option V→St) (i:Nat) (σ:St) (H:Hp):Prop:=∃ kvs x y,Same H0 H∧H D=some (.dK kvs)∧kvs.length≤i∧(∀ j,j < i→∃ v,valV kvs (.inl (kf j:Int))=some v)∧(∀ (k:Nat) v,k < 7→valV kvs (.inl (k:Int))=some v→AskR K H0 H s v k)∧(∀ u v,valV kvs (.inl 0)=some u→valV kvs (.inl 1)=some v→u≠v)∧σ=σ0 x y
section
theorem J3c (T:Txt P w K mg O0b O0a O0c) (O1F:Has P w K mg base 2 "_law_asked" ["_law_machine_here","_law_k"] (Z9G O0a O0b K)):Has P w K mg base 3 "_law_seen" ["_law_machine_here","_law_bits"] (J3S O0a O0b K):=by
  refine Has.of T.O3g O1h (fun _ _ _ _ _ _ us hl=>el2 us hl fun _ _=>rfl) (fun vs H Q E h=>?_) (fun f cdv A outer s H vs Q E hr h=>?_)
  · obtain ⟨ex,o,P,s,b,rfl,_⟩:=h
    rfl
  obtain ⟨ex,o,P',s',b,rfl,M,q⟩:=h
  refine ⟨_,(Z0a (Z7x (i:=2) O1h.nd rfl (Or.inr rfl) Z5F)
    (Z0a (Z2R PassesOwn.never rfl (Z0K rfl T.O0J (qI Z0c)) (qH 3 O1h.nd) (Z0a (qG 4 O1h.nd (Z0h Z0u (Z0h Z0x (Z0h Z0u (pvF 1) Z0c) (Z0h Z2h (pvF 3) (Z0h Z0x Z0c (Z0h Z0u (Z0h Z0A (pvF 1) Z0c) Z0c)))) Z0c))
    (Z0b (Z1V (Z3k hr) (pvF 2) (pvF 4) (qF O1F hr (qJ (pvF 0) (pvF 4))) rfl))))
    (Z0b (Z0n (Z4g rfl (BlockOk.of (N:=["_law_k","_law_found_here"]) (nl:=[none,some 2]) (cl:=[("_law_found_here",s.heap.objs.size+1)]) rfl qP qP rfl (sub1 rfl) (nm:=["_law_found_here"]) rfl qP rfl (fun i hi j hj=>by
            match i,hi with
            | 0,_=>cases hj
             | 1,_=>cases hj; exact ⟨_,rfl,rfl,rfl,.inl rfl⟩
            )) (Z0K rfl T.O0J (qI Z0c))
          (fun C fp s H=>(qH 0 (show (["_law_k","_law_found_here"]:List Str).Nodup by decide +kernel)))
          (fun C fp s H=>(qE hr (pvF 1) (pvF 0)))))))),?_⟩
  refine seq3 fun uz2 huz2 uz1 huz1=>?_
  walk_at "rd"
  intro D h1
  have s1:=Z0f h1 (.dK [])
  have e1:upd H D (.dK []) D=some (.dK []):=Z0d
  generalize upd H D (.dK [])=H1 at s1 e1 ⊢
  subst huz1
  walk_at "rd"
  obtain ⟨ka,hka,ka7⟩:∃ n:Nat,b % 7=n∧n < 7:=⟨(b % 7).toNat,qR,qR⟩
  obtain ⟨km,hkm,km6⟩:∃ n:Nat,b / 7 % 6=n∧n < 6:=⟨(b / 7 % 6).toNat,qR,qR⟩
  refine Z1h (SEI K H D s' (fun j=>(ka+j * (1+km)) % 7) (fun x y=>[some (.ref o.x),some (.int b),some (.ref D),x,y])) ⟨[],none,none,s1,e1,qa0 _,(fun j hj=>absurd hj (qg7 j)),(fun k v _ h=>by cases h),(fun u v h=>by cases h),rfl⟩ (fun i σ H2 hi hI=>?_) (fun σ H2 hI=>?_)
  · obtain ⟨kvs,x,y,s2,e2,lk,hj,hv,hd,rfl⟩:=hI
    rw [qe6]
    walk_at "rd"
    have ek:(b % 7+(i:Int) * (1+b / 7 % 6)) % 7=(((ka+i * (1+km)) % 7:Nat):Int):=by rw [hka,hkm,qf8,qk7,Int.natCast_mul,qk7]; rfl
    have k7:(ka+i * (1+km)) % 7 < 7:=qf9 _ qS
    rw [ek]
    generalize hkk:(ka+i * (1+km)) % 7=k at k7 ⊢
    refine ⟨.inl ⟨qR,qR⟩,ex,o,P',s',k,rfl,M.same s2,k7,fun v H3 s3 r3=>?_⟩
    have e3:=s3 _ _ e2
    refine ⟨_,DPut.k (k:=.inl (k:Int)) e3 (by rw [sizeLine_eq]; omega),?_⟩
    have tt:=Z1I (.dK (putK kvs (.inl (k:Int)) v)) e3 Z5W
    have kl:∀ l xs,H l=none→H3 l=some (.lst xs)→upd H3 D (.dK (putK kvs (.inl (k:Int)) v)) l=some (.lst xs):=fun l xs _ e=>by rw [Z0e (fun z=>by rw [z,e3] at e; cases e)]; exact e
    have av:AskR K H H3 s' v k:=by
      match k,r3 with
      | 0,⟨l,ss,a,b,c,d⟩=>exact ⟨l,ss,a,Z0z s2 b,c,d⟩
      | 1,⟨l,ss,a,b,c,d⟩=>exact ⟨l,ss,a,Z0z s2 b,c,d⟩
      | 2,h=>exact h
      | 3,h=>exact h
      | 4,h=>exact h
      | 5,h=>exact h
      | 6,h=>exact h
    refine ⟨_,_,_,fun b' o' h'=>?_,Z0d,qa7 (Z2i _ _ _) qR,fun j hjl=>?_,fun k' v' hk' h'=>?_,fun u u' h0 h1'=>?_,rfl⟩
    · rw [Z0e (fun z=>by rw [z,h1] at h'; cases h')]; exact s3 _ _ (s2 _ _ h')
    · rw [Z2Y]
      split
      · exact ⟨_,rfl⟩
      · rename_i hne
        refine hj j (Nat.lt_of_le_of_ne qR fun z=>hne ?_)
        rw [z]
        exact congrArg (fun n:Nat=>Sum.inl (n:Int)) hkk
    · rw [Z2Y] at h'
      split at h'
      · rename_i e
        cases h'
        have:k'=k:=by injection e with e; exact qj1 e
        rw [this]
        exact av.same tt kl
      · exact (((hv k' v' hk' h').same (Same.t s3) fun l xs _ e=>s3 _ _ e).same tt kl)
    · rw [Z2Y] at h0 h1'
      split at h0
      · rename_i e
        have k0:k=0:=by injection e with e; exact (qj1 e).symm
        subst k0
        split at h1'
        · rename_i e1; injection e1 with e1; cases e1
        · cases h0
          obtain ⟨l,ss,rfl,n1,_⟩:=r3
          obtain ⟨l',ms,rfl,_,m1,_⟩:=hv 1 u' qS h1'
          exact fun z=>by injection z with z; rw [z,m1] at n1; cases n1
      · split at h1'
        · rename_i e
          have k1:k=1:=by injection e with e; exact (qj1 e).symm
          subst k1
          cases h1'
          obtain ⟨l,ss,rfl,n1,_⟩:=r3
          obtain ⟨l',ms,rfl,_,m1,_⟩:=hv 0 u qS h0
          exact fun z=>by injection z with z; rw [← z,m1] at n1; cases n1
        · exact hd u u' h0 h1'
  · obtain ⟨kvs,x,y,s2,e2,lk,hj,hv,hd,rfl⟩:=hI
    subst huz2
    walk_at "rd"
    have all:∀ k:Nat,k < 7→∃ v,valV kvs (.inl (k:Int))=some v:=fun k hk=>by
      obtain ⟨t,t7,et⟩:=J6K ka km ka7 km6 k hk
      have h:=hj t t7
      have et':(fun j=>(ka+j * (1+km)) % 7) t=k:=et
      rwa [et'] at h
    intro L hL
    refine Z8y none [some (.ref D)] (fun i=>(valV kvs (.inl (i:Int))).getD .non) rfl (fun i hi l K' kk=>?_) (by rw [sizeLine_eq]; decide) ?_
    · walk_at "rd"
      obtain ⟨v,hv1⟩:=all i hi
      rw [hv1] at kk
      refine ⟨v,?_,kk⟩
      have:upd H2 L (.lst l) D=some (.dK kvs):=by rw [Z0e (fun z=>by rw [z,hL] at e2; cases e2)]; exact e2
      rw [← hv1]
      exact DGet.k (k:=.inl (i:Int)) this
    obtain ⟨v0,a0⟩:=all 0 qS
    obtain ⟨v1,a1⟩:=all 1 qS
    obtain ⟨v2,a2⟩:=all 2 qS
    obtain ⟨v3,a3⟩:=all 3 qS
    obtain ⟨v4,a4⟩:=all 4 qS
    obtain ⟨v5,a5⟩:=all 5 qS
    obtain ⟨v6,a6⟩:=all 6 qS
    have el:(qc6 7).map (fun i:Nat=>(valV kvs (.inl (i:Int))).getD V.non)=[v0,v1,v2,v3,v4,v5,v6]:=by
      have g:∀ {k:Nat} {v:V},valV kvs (.inl (k:Int))=some v→(valV kvs (.inl (k:Int))).getD V.non=v:=fun {k v} h=>by rw [h]; rfl
      show [(valV kvs (.inl ((0:Nat):Int))).getD V.non,(valV kvs (.inl ((1:Nat):Int))).getD V.non,(valV kvs (.inl ((2:Nat):Int))).getD V.non,(valV kvs (.inl ((3:Nat):Int))).getD V.non,(valV kvs (.inl ((4:Nat):Int))).getD V.non,(valV kvs (.inl ((5:Nat):Int))).getD V.non,(valV kvs (.inl ((6:Nat):Int))).getD V.non]=_
      rw [g a0,g a1,g a2,g a3,g a4,g a5,g a6]
    rw [el]
    obtain ⟨f,ss,rfl,f1,f2,f3⟩:=hv 0 v0 qS a0
    obtain ⟨t,ms,rfl,t1,t2,t3⟩:=hv 1 v1 qS a1
    have r2:=hv 2 v2 qS a2
    have r3:=hv 3 v3 qS a3
    have r4:=hv 4 v4 qS a4
    have r5:=hv 5 v5 qS a5
    have r6:=hv 6 v6 qS a6
    cases r3
    cases r4
    cases r5
    cases r6
    have sL:=Z0f hL (.lst [.ref f,.ref t,v2,.int s'.calls,.int s'.looks,.int s'.hits,.int s'.rows])
    have tL:=Same.t sL
    exact q L f t _ (s2.trans sL) ⟨Z0z s2 hL,f1,t1,(fun z=>hd _ _ a0 a1 (by rw [z])),(fun z=>by rw [z,hL] at f2; cases f2),(fun z=>by rw [z,hL] at t2; cases t2),v2,ss,ms,Z0d,EndAt.t r2 tL,sL _ _ f2,Pd.imp (fun _ _ h=>h.t tL) f3,sL _ _ t2,Pd.imp (fun _ _ h=>h.t tL) t3⟩
end
def PDo (K:y9) (ex:y8→Prop) (A:PA) (P:Mach.Prog) (H:Hp) (s':MS) (v:V) (Q:VK):Prop:=∀ A' H',A'.st=A.st→Keep ex H H'→PS K ex A' P s' H'→Q v H'
inductive Z7L (K:y9) (vs:List V) (H:Hp) (Q:VK):Prop
 | mk (ex:y8→Prop) (A:PA) (P:Mach.Prog) (s:MS) (a:y8) (e:Mach.End) (a1:vs=[.ref A.st,.ref a]) (a2:PS K ex A P s H) (a3:EndIs K H a e) (a4:PDo K ex A P H (Mach.ends s e) .non Q):Z7L K vs H Q
def Z2E (K:y9):Sp:=fun vs H Q _=>Z7L K vs H Q
inductive J5z (K:y9) (vs:List V) (H:Hp) (Q:VK):Prop
 | mk (ex:y8→Prop) (A:PA) (P:Mach.Prog) (s:MS) (f:AFr) (fs:List AFr) (pc:Nat) (sa ta:y8) (us ws:List V) (sl st:List AV) (a1:vs=[.ref A.st,.int pc,.ref sa,.ref ta]) (a2:PS K ex A P s H) (a3:s.frames=f::fs) (a4:SqT K H sa us) (a5:AtVs K H us sl) (a6:SqT K H ta ws) (a7:AtVs K H ws st.reverse) (a8:PDo K ex A P H { s with frames:=⟨f.n,pc,sl,st⟩::fs } .non Q):J5z K vs H Q
def Z4K (K:y9):Sp:=fun vs H Q _=>J5z K vs H Q
theorem J4H {K:y9} {ex:y8→Prop} {A:PA} {P:Mach.Prog} {s:MS} {H:Hp} (M:PS K ex A P s H):IsD H A.st:=let ⟨_,x,_⟩:=M.d; .inl ⟨_,.inl x⟩
section
theorem J1m (T:Txt P w K mg O0b O0a O0c):Has P w K mg base 1 "_law_ended" ["_law_state","_law_ended_here"] (Z2E K):=by
 refine Has.of T.O2S Z5C (fun _ _ _ _ _ _ us hl=>el2 us hl fun _ _=>rfl) (fun vs H Q E h=>?_) (fun f cdv A outer s H vs Q E hr h=>?_)
 ·obtain ⟨ex,A,P,s,a,e,rfl,_⟩:=h
  rfl
 obtain ⟨ex,A',P',s',a,e,rfl,M,he,q⟩:=h
 refine ⟨_,(Z0b (Z0j (J0e (pvF 0) (Z4F (Z0I Z0g (Z0s Z0N) (Z0I Z0g (pvF 1) Z4x)) rfl rfl (by exact qj0 _ _) qS) ⟨rfl,rfl,rfl,rfl⟩))),?_⟩
 walk_at "rd"
 refine ⟨J4H M,New.of fun p H1 h1 s1 e1=>New.of fun q2 H2 h2 s2 e2=>⟨s2 _ _ e1,[(.inr "frames",.ref q2),(.inr "answer",.ref a)],rfl,by show 2≤15; omega,?_⟩⟩
 have np:∀ {b o},H b=some o→b≠p:=fun e z=>by rw [z,h1] at e; cases e
 have S:Same H (upd H2 p (.dK (Z0X [] [(.inr "frames",.ref q2),(.inr "answer",.ref a)]))):=fun b o e=>by rw [Z0e (np e)]; exact (s1.trans s2) _ _ e
 have ep:upd H2 p (.dK (Z0X [] [(.inr "frames",.ref q2),(.inr "answer",.ref a)])) p=some (.dK [(.inr "frames",.ref q2),(.inr "answer",.ref a)]):=Z0d
 have eq:upd H2 p (.dK (Z0X [] [(.inr "frames",.ref q2),(.inr "answer",.ref a)])) q2=some (.lst []):=by rw [Z0e (fun z=>by rw [z,e1] at h2; cases h2)]; exact e2
 generalize upd H2 p (.dK (Z0X [] [(.inr "frames",.ref q2),(.inr "answer",.ref a)]))=H3 at S ep eq ⊢
 obtain ⟨e0,x,_⟩:=M.d
 obtain ⟨M1,k1⟩:=M.ends S (Z0z s1 h2) eq (he.t (Same.t S))
 exact ⟨_,S _ _ x,_,ep,np x,by show 12≤_; omega,q { A' with fa:=q2 } _ rfl k1 M1⟩
theorem J6B (T:Txt P w K mg O0b O0a O0c):Has P w K mg base 1 "_law_on" ["_law_state","_law_goal","_law_slots","_law_stack"] (Z4K K):=by
 refine Has.of T.O3t Z8o (fun _ _ _ _ _ _ us hl=>el4 us hl fun _ _ _ _=>rfl) (fun vs H Q E h=>?_) (fun f cdv A outer s H vs Q E hr h=>?_)
 ·obtain ⟨ex,A,P,s,f,fs,pc,sa,ta,us,ws,sl,st,rfl,_⟩:=h
  rfl
 obtain ⟨ex,A',P',s',f',fs,pc,sa,ta,us,ws,sl,st,rfl,M,ef,h1,h2,h3,h4,q⟩:=h
 refine ⟨_,(Z0b (Z1l (Z0k (Z0r (qC K (qD K (qB hr 0) qN) Z0c) (qK (pvF 1) (pvF 2) (pvF 3)))) (Z3p (qB hr 0) qN Z1o))),?_⟩
 walk_at "rd"
 obtain ⟨ss,a,e1,p1,fa⟩:=M.top ef
 obtain ⟨F,sa',ta',x1,_⟩:=fa.st
 refine ⟨_,M.get.1,A'.fa,rfl,_,SqL.of e1,_,Z0F ss _,a,rfl,_,x1,_,ix0,New.of fun t H1 h1' s1 et=>?_⟩
 have M1:=M.same s1
 refine ⟨_,M1.get.1,A'.fa,rfl,_,s1 _ _ e1,_,Z7X (by simp),?_⟩
 rw [Z4f]
 have fv:FrV K H1 (.ref t) ⟨f'.n,pc,sl,st⟩:=⟨t,rfl,⟨.int f'.n,pc,us,ws⟩,⟨sa,ta,SqT.of et,h1.same s1,h3.same s1⟩,rfl,rfl,AtVs.t h2 (Same.t s1),AtVs.t h4 (Same.t s1)⟩
 obtain ⟨M2,k2⟩:=M1.frames (fr:=⟨f'.n,pc,sl,st⟩::fs) (by rw [qa5]; exact Paired.appendP (Pd.imp (fun _ _ h=>h.t (Same.t s1)) p1) (.cons fv .nil))
 exact q A' _ rfl ((M.keepS s1).trans k2) M2
end
inductive Z9b (K:y9) (vs:List V) (H:Hp) (Q:VK):Prop
 | mk (g:Sg) (x y:V) (a b:AV) (r:AV ⊕ Mach.End) (a1:vs=[.str (sgN g),x,y]) (a2:AtV K H x a) (a3:AtV K H y b) (a4:Mach.two g a b=some r) (a5:∀ t H',Same H H'→(match r with | .inl c=>∃ v,SqT K H' t [.str "value",v]∧AtV K H' v c | .inr e=>∃ w,SqT K H' t [.str "refused",.str w]∧EndIs K H' t e)→Q (.ref t) H'):Z9b K vs H Q
def Z9u (K:y9):Sp:=fun vs H Q _=>Z9b K vs H Q
theorem J0Y {a b:AV} {r:AV ⊕ Mach.End} (h:Mach.two .same a b=some r):r=.inl (.bl ((avD a).eqv (avD b))):=by
 have ii:∀ i j:Int,(PyData.int i).eqv (.int j)=decide (i=j):=fun i j=>by rw [PyData.eqv]; rfl
 cases a with
 | int i=>
  cases b with
  | int j=>cases h; rw [show (avD (.int i)).eqv (avD (.int j))=_ from ii i j]
  | _=>cases h
 | bl i=>
  cases b with
  | bl j=>cases h; cases i <;> cases j <;> rfl
  | _=>cases h
 | th i=>
  cases b with
  | th j=>
   cases h
   have:(avD (.th i)).eqv (avD (.th j))=decide (i=j):=by
    unfold avD
    rw [PyData.eqv,PyData.eqvAll,PyData.eqvAll,PyData.eqvAll,ii,show (PyData.str "thing").eqv (.str "thing")=true by decide +kernel,Bool.true_and,Bool.and_true]
    exact decide_eq_decide.mpr ⟨fun z=>qj1 z,fun z=>by rw [z]⟩
   rw [this]
  | _=>cases h
 | non=>cases b <;> cases h
theorem Z3w (g:Sg) {a b:AV} {r:AV ⊕ Mach.End} (n:g≠.same) (h:Mach.two g a b=some r):∃ i j,a=.int i∧b=.int j∧r=(match g with | .add=>Mach.told (i+j) | .sub=>Mach.told (i - j) | .mul=>Mach.told (i * j) | .div=>if j=0 then .inr .nought else Mach.told (i.fdiv j) | _=>.inl (.bl (decide (i < j)))):=by
 cases a with
 | int i=>
  cases b with
  | int j=>cases g <;> first | (cases h; exact ⟨i,j,rfl,rfl,rfl⟩) | exact absurd rfl n
  | _=>cases g <;> cases h
 | bl i=>cases b <;> cases g <;> first | exact absurd rfl n | cases h
 | th i=>cases b <;> cases g <;> first | exact absurd rfl n | cases h
 | non=>cases b <;> cases g <;> cases h
theorem J3s (g:Sg):(sgN g=Str.ofString "same"↔g=.same)∧(sgN g=Str.ofString "less"↔g=.less)∧(sgN g=Str.ofString "div"↔g=.div)∧(sgN g=Str.ofString "sub"↔g=.sub)∧(sgN g=Str.ofString "mul"↔g=.mul):=by
 cases g <;> decide +kernel
section
theorem J3f (T:Txt P w K mg O0b O0a O0c):Has P w K mg base 1 "_law_two" ["_law_word","_law_one","_law_other"] (Z9u K):=by
 refine Has.of T.O3n O0Y (fun _ _ _ _ _ _ us hl=>el3 us hl fun _ _ _=>rfl) (fun vs H Q E h=>?_) (fun f cdv A outer s H vs Q E hr h=>?_)
 ·obtain ⟨g,x,y,a,b,r,rfl,_⟩:=h
  rfl
 obtain ⟨g,x,y,a,b,r,rfl,ha,hb,hr2,q⟩:=h
 refine ⟨_,(Z0a (Z0t (qM Z0B (pvF 0) Z0g) (Z0b (Z0n (Z0k (qJ Z0g (Z1F (r:=rEqD K) (Z3W hr.units) (pvF 1) (pvF 2) (Z2j _)))))) Z0o)
  (Z0a (Z0t (qM Z0B (pvF 0) Z0g) (Z0b (Z0n (Z0k (qJ Z0g (Z1F Z4z (pvF 1) (pvF 2) (Z2j _)))))) Z0o)
  (Z0a (Z0t (PW.pt (Z3U (qM Z0B (pvF 0) Z0g) (Z2U (qM (r:=rEqD K) (Z3W hr.units) (pvF 2) Z0c)))) (Z0b (Z0n (Z0k (qJ Z0g Z0g)))) Z0o)
  (Z0a (qG 3 O0Y.nd (Z0h Z0x (pvF 1) (pvF 2)))
  (Z0a (Z0t (qM Z0B (pvF 0) Z0g) (Z0b (qG 3 O0Y.nd (Z0h Z1n (pvF 1) (pvF 2)))) (Z0b (Z0t (qM Z0B (pvF 0) Z0g) (Z0b (qG 3 O0Y.nd (Z0h Z2h (pvF 1) (pvF 2)))) (Z0b (Z0t (qM Z0B (pvF 0) Z0g) (Z0b (qG 3 O0Y.nd (Z0h Z7f (pvF 1) (pvF 2)))) Z0o)))))
  (Z0a (Z0t (qM Z8F (Z1R Z8h rfl T.z_abs J2i (qI (pvF 3))) (Z0h Z7B Z0c Z0c)) (Z0b (Z0n (Z0k (qJ Z0g Z0g)))) Z0o)
  (Z0b (Z0n (Z0k (qJ Z0g (pvF 3))))))))))),?_⟩
 refine seq7 fun uz6 huz6 uz5 huz5 uz4 huz4 uz3 huz3 uz2 huz2 uz1 huz1=>?_
 walk_at "rd"
 obtain ⟨g1,g2,g3,g4,g5⟩:=J3s g
 have val:∀ {v:V} {c:AV},r=.inl c→(∀ {H'},AtV K H' v c)→New H (.tup [.str "value",v]) fun p H2=>Q (.ref p) H2:=fun {v c} e hv=>New.of fun t H1 h1 s1 e1=>q t H1 s1 (by rw [e]; exact ⟨v,SqT.of e1,hv⟩)
 have fin:∀ n:Int,r=Mach.told n→uz5 { nx:=fun x H'=>Q V.non H',rt:=Q } [some (.str (sgN g)),some x,some y,some (.int n)] H:=fun n e=>by
  subst huz5
  walk_at "rd"
  subst huz6
  walk_at "rd"
  unfold Mach.told at e
  by_cases hc:Bd n
  ·rw [if_pos hc] at e
   rw [if_neg (by unfold Bd at hc; split <;> omega)]
   exact val e ⟨rfl,hc⟩
  ·rw [if_neg hc] at e
   rw [if_pos (by unfold Bd at hc; split <;> omega)]
   exact New.of fun t H1 h1 s1 e1=>q t H1 s1 (by rw [e]; exact ⟨_,SqT.of e1,SqT.of e1⟩)
 have i0:∀ {i:Int},Bd i→RdD K H (.int i) (.int i)∧SeqAt.shaped (.int i)=true:=fun h=>⟨.int _,rfl⟩
 cases g with
 | same=>
  rw [if_pos (g1.mpr rfl)]
  obtain ⟨d1,n1⟩:=ha.nb
  obtain ⟨d2,n2⟩:=hb.nb
  exact ⟨_,d1,_,d2,n1.shaped qS,n2.shaped qS,val (J0Y hr2) rfl⟩
 | less=>
  rw [if_neg (fun z=>Sg.noConfusion (g1.mp z))]
  subst huz1
  walk_at "rd"
  rw [if_pos (g2.mpr rfl)]
  obtain ⟨i,j,rfl,rfl,e⟩:=Z3w .less Sg.noConfusion hr2
  obtain ⟨rfl,_⟩:=ha
  obtain ⟨rfl,_⟩:=hb
  exact ⟨i,rfl,j,rfl,val e rfl⟩
 | div=>
  rw [if_neg (fun z=>Sg.noConfusion (g1.mp z))]
  subst huz1
  walk_at "rd"
  rw [if_neg (fun z=>Sg.noConfusion (g2.mp z))]
  subst huz2
  walk_at "rd"
  obtain ⟨i,j,rfl,rfl,e⟩:=Z3w .div Sg.noConfusion hr2
  obtain ⟨rfl,_⟩:=ha
  obtain ⟨rfl,hj⟩:=hb
  rw [if_pos (g3.mpr rfl)]
  refine ⟨_,.int j,_,.int 0,rfl,rfl,?_⟩
  rw [show PyData.eqv (.int j) (.int 0)=(j == 0) by rw [PyData.eqv]]
  by_cases z:j=0
  ·rw [if_pos (beq_iff_eq.mpr z)]
   have e:r=.inr .nought:=by rw [e]; exact if_pos z
   exact New.of fun t H1 h1 s1 e1=>q t H1 s1 (by rw [e]; exact ⟨_,SqT.of e1,SqT.of e1⟩)
  ·rw [if_neg (fun y=>z (beq_iff_eq.mp y))]
   have e:r=Mach.told (i.fdiv j):=by rw [e]; exact if_neg z
   subst huz3
   walk_at "rd"
   subst huz4
   walk_at "rd"
   rw [if_neg (fun z=>Sg.noConfusion (g4.mp z)),if_neg (fun z=>Sg.noConfusion (g5.mp z)),if_pos (g3.mpr rfl)]
   exact ⟨z,by unfold Bd at hj; omega,by unfold Bd at hj; omega,fin _ e⟩
 | add=>
  rw [if_neg (fun z=>Sg.noConfusion (g1.mp z))]
  subst huz1
  walk_at "rd"
  rw [if_neg (fun z=>Sg.noConfusion (g2.mp z))]
  subst huz2
  walk_at "rd"
  rw [if_neg (fun z=>Sg.noConfusion (g3.mp z))]
  subst huz3
  walk_at "rd"
  obtain ⟨i,j,rfl,rfl,e⟩:=Z3w .add Sg.noConfusion hr2
  obtain ⟨rfl,_⟩:=ha
  obtain ⟨rfl,_⟩:=hb
  refine ⟨i,rfl,j,rfl,?_⟩
  subst huz4
  walk_at "rd"
  rw [if_neg (fun z=>Sg.noConfusion (g4.mp z)),if_neg (fun z=>Sg.noConfusion (g5.mp z)),if_neg (fun z=>Sg.noConfusion (g3.mp z))]
  exact fin _ e
 | sub=>
  rw [if_neg (fun z=>Sg.noConfusion (g1.mp z))]
  subst huz1
  walk_at "rd"
  rw [if_neg (fun z=>Sg.noConfusion (g2.mp z))]
  subst huz2
  walk_at "rd"
  rw [if_neg (fun z=>Sg.noConfusion (g3.mp z))]
  subst huz3
  walk_at "rd"
  obtain ⟨i,j,rfl,rfl,e⟩:=Z3w .sub Sg.noConfusion hr2
  obtain ⟨rfl,_⟩:=ha
  obtain ⟨rfl,_⟩:=hb
  refine ⟨i,rfl,j,rfl,?_⟩
  subst huz4
  walk_at "rd"
  rw [if_pos (g4.mpr rfl)]
  exact fin _ e
 | mul=>
  rw [if_neg (fun z=>Sg.noConfusion (g1.mp z))]
  subst huz1
  walk_at "rd"
  rw [if_neg (fun z=>Sg.noConfusion (g2.mp z))]
  subst huz2
  walk_at "rd"
  rw [if_neg (fun z=>Sg.noConfusion (g3.mp z))]
  subst huz3
  walk_at "rd"
  obtain ⟨i,j,rfl,rfl,e⟩:=Z3w .mul Sg.noConfusion hr2
  obtain ⟨rfl,hi⟩:=ha
  obtain ⟨rfl,_⟩:=hb
  refine ⟨i,rfl,j,rfl,?_⟩
  subst huz4
  walk_at "rd"
  rw [if_neg (fun z=>Sg.noConfusion (g4.mp z)),if_pos (g5.mpr rfl)]
  exact ⟨.inl (by unfold Bd at hi; omega),fin _ e⟩
end
def isPl:Row→Bool
 | .push _=>true
 | .load _=>true
 | .nt=>true
 | .keep _=>true
 | .drop=>true
 | .skip _=>true
 | .unl _=>true
 | _=>false
inductive Z7I (K:y9) (vs:List V) (H:Hp) (Q:VK):Prop
 | mk (ex:y8→Prop) (A:PA) (P:Mach.Prog) (s:MS) (f g:AFr) (fs:List AFr) (r a:y8) (row:Row) (a1:vs=[.ref A.st,.ref r,.ref a]) (a2:PS K ex A P s H) (a3:s.frames=f::fs) (a4:FrIs K H a f) (a5:f.st.length≤1000) (a6:f.sl.length≤1000) (a7:RowAt K H r row) (a8:isPl row=true) (a9:Mach.own f s.made row=some (.inl g)) (a10:PDo K ex A P H { s with frames:=g::fs } .non Q):Z7I K vs H Q
def Z7M (K:y9):Sp:=fun vs H Q _=>Z7I K vs H Q
theorem sne {x y:Str} (h:(x == y)=false:=by decide +kernel):¬ V.str x=V.str y:=fun z=>by injection z with z; rw [z] at h; simp at h
section
theorem J1e (T:Txt P w K mg O0b O0a O0c) (O0s:Has P w K mg base 1 "_law_on" ["_law_state","_law_goal","_law_slots","_law_stack"] (Z4K K)):Has P w K mg base 2 "_law_plain_row" ["_law_state","_law_row","_law_frame"] (Z7M K):=by
 refine Has.of T.O2d O0f (fun _ _ _ _ _ _ us hl=>el3 us hl fun _ _ _=>rfl) (fun vs H Q E h=>?_) (fun f cdv A outer s H vs Q E hr h=>?_)
 ·obtain ⟨ex,A,P,s,f,g,fs,r,a,row,rfl,_⟩:=h
  rfl
 obtain ⟨ex,A',P',s',f',g,fs,r,a,row,rfl,M,ef,fa,l1,l2,hrow,pl,own,q⟩:=h
 refine ⟨_,(Z0a (Z1l (pvF 2) (Z1X (n:=4) rfl (Z0p (qH 3 O0f.nd) (Z0p (qH 4 O0f.nd) (Z0p (qH 5 O0f.nd) (Z0p (qH 6 O0f.nd) Z1W))))))
  (Z0a (Z0t (qM Z0B (qA K 1) Z0g) (Z0b (qG 6 O0f.nd (Z0h (r:=Z2k K) Z0T (pvF 6) (Z0k (qI (qA K 1)))))) (Z0b (Z0t (qM Z0B (qA K 1) Z0g) (Z0b (qG 6 O0f.nd (Z0h (r:=Z2k K) Z0T (pvF 6) (Z0k (qI (qC K (pvF 5) (qA K 1))))))) (Z0b (Z0t (qM Z0B (qA K 1) Z0g) (Z0b (qG 4 O0f.nd (Z0h Z0x (pvF 4) (qA K 1)))) (Z0a (Z0t (qM Z0B (qA K 1) Z0g) (Z0b (qG 5 O0f.nd (Z0h (r:=Z2k K) Z0T (Z0h (r:=Z2k K) Z0T (Z0y (r:=rSlA K) Z0P (pvF 5) Z0E (Z0D (qA K 1))) (Z0k (qI (qC K (pvF 6) qN)))) (Z0y (r:=rSlA K) Z0P (pvF 5) (Z0D (Z0h Z0x (qA K 1) Z0c)) Z0E)))) Z0o)
  (Z0a (Z0t (PW.pt (Z3U (qM Z0B (qA K 1) Z0g) (Z2U (J4G (Z3m (qC K (pvF 6) qN)))))) (Z0b (qG 4 O0f.nd (Z0h Z0x (pvF 4) (qA K 1)))) Z0o)
  (Z0b (qG 6 O0f.nd (Z2G (qM Z0B (qA K 1) Z0g) (Z0h (r:=Z2k K) Z0T (Z0y (r:=rSlA K) Z0P (pvF 6) Z0E (Z0D qN)) (Z0k (qI (J2G (qC K (pvF 6) qN))))) (Z0y (r:=rSlA K) Z0P (pvF 6) Z0E (Z0D qN))))))))))))
  (Z0b (Z0j (qF O0s hr (Z0r (pvF 0) (qK (Z0h Z0x (pvF 4) Z0c) (pvF 5) (pvF 6)))))))),?_⟩
 obtain ⟨F,sa,ta,x1,x2,x3,e1,e2,h1,h2,le1,le2⟩:=fa.st
 obtain ⟨n0,pc,sl,st⟩:=f'
 have on:∀ {H2:Hp} {pc2:Nat} {sa2 ta2:y8} {us ws:List V} {sl2 st2:List AV},Same H H2→g=⟨n0,pc2,sl2,st2⟩→SqT K H2 sa2 us→AtVs K H2 us sl2→SqT K H2 ta2 ws→AtVs K H2 ws st2.reverse→Z4K K [.ref A'.st,.int pc2,.ref sa2,.ref ta2] H2 (fun _ H1=>Q .non H1) E0:=fun {H2 pc2 sa2 ta2 us ws sl2 st2} S e y1 y2 y3 y4=>⟨ex,A',P',s',_,fs,pc2,sa2,ta2,us,ws,sl2,st2,rfl,M.same S,ef,y1,y2,y3,y4,fun B H3 b k N=>q B H3 b ((M.keepS S).trans k) (by rw [e]; exact N)⟩
 have add:∀ {H1:Hp} {x:V} {v:AV},Same H H1→AtV K H1 x v→g=⟨n0,pc+1,sl,v::st⟩→New H1 (.tup [x]) fun p H2=>Z2k K (.ref ta) (.ref p) H2 fun x H1=>Z4K K [.ref A'.st,.int ((pc:Int)+1),.ref sa,x] H1 (fun _ H1=>Q .non H1) E0:=fun {H1 x v} S hv e=>New.of fun t H2 h2' s2 e2=>⟨ta,t,_,_,rfl,rfl,x3.same (S.trans s2),SqT.of e2,by rw [sizeLine_eq,le1]; show _+1≤_; have:st.length≤1000:=l1; omega,fun p H3 s3 e3=>on (pc2:=pc+1) ((S.trans s2).trans s3) e (x2.same ((S.trans s2).trans s3)) (AtVs.t h1 (Same.t ((S.trans s2).trans s3))) e3 (by rw [qa5]; exact Paired.appendP (AtVs.t h2 (Same.t ((S.trans s2).trans s3))) (.cons (hv.t (Same.t (s2.trans s3))) .nil))⟩
 have pop:∀ {H1:Hp} {pc2:Nat} {v:AV} {st':List AV} {sa2:y8} {us:List V} {sl2:List AV},st=v::st'→Same H H1→g=⟨n0,pc2,sl2,st'⟩→SqT K H1 sa2 us→AtVs K H1 us sl2→rSlA K (.ref ta) none (some (-1)) H1 fun x H1=>Z4K K [.ref A'.st,.int pc2,.ref sa2,x] H1 (fun _ H1=>Q .non H1) E0:=fun {H1 pc2 v st' sa2 us sl2} e S eg y1 y2=>by
  rw [e,qa5] at h2
  obtain ⟨ws,x,ew,p1,_⟩:=Pd.snoc_inv h2
  refine ⟨ta,_,rfl,x3.same S,fun p H2 s2 k2=>?_⟩
  rw [ew,Z3y] at k2
  exact on (S.trans s2) eg (y1.same s2) (AtVs.t y2 (Same.t s2)) k2 (AtVs.t p1 (Same.t (S.trans s2)))
 refine seq3 fun uz2 huz2 uz1 huz1=>?_
 walk_at "rd"
 refine ⟨_,x1,rfl,_,_,rfl,_,_,rfl,_,_,rfl,_,_,rfl,rfl,?_⟩
 subst huz1
 subst huz2
 by_cases h3:(∃ v,row=.push v)∨(∃ i,row=.load i)∨(∃ k,row=.skip k)
 ·rcases h3 with ⟨v,rfl⟩ | ⟨i,rfl⟩ | ⟨k,rfl⟩
  ·obtain ⟨x,hR,hx⟩:=hrow
   refine ifY hR rfl ?_
   walk_at "rd"
   exact ⟨_,hR,_,ix1,add (Same.refl _) hx (by cases own; rfl)⟩
  ·refine ifN hrow rfl (ifY hrow rfl ?_)
   walk_at "rd"
   obtain ⟨v,hv,e⟩:=qb6.mp own
   obtain ⟨x,hx,hxv⟩:=Pd.at h1 hv
   exact ⟨_,hrow,_,ix1,_,rfl,_,x2,_,Z0C hx,add (Same.refl _) hxv (by cases e; rfl)⟩
  ·refine ifN hrow rfl (ifN hrow rfl (ifY hrow rfl ?_))
   walk_at "rd"
   refine ⟨_,hrow,_,ix1,_,rfl,?_⟩
   rw [show (pc:Int)+k+1=((pc+1+k:Nat):Int) by omega]
   exact on (Same.refl _) (by cases own; rfl) x2 h1 x3 h2
 have n3:∃ y us,SqT K H r (.str y::us)∧(y == "push")=false∧(y == "load")=false∧(y == "skip")=false:=by
  cases row <;> first | exact ⟨_,_,hrow,qP,qP,qP⟩ | exact absurd (.inl ⟨_,rfl⟩) h3 | exact absurd (.inr (.inl ⟨_,rfl⟩)) h3 | exact absurd (.inr (.inr ⟨_,rfl⟩)) h3 | cases pl
 obtain ⟨y,us,hy,n1,n2,n3⟩:=n3
 refine ifN hy rfl (ifN hy rfl (ifN hy rfl ?_ n3) n2) n1
 walk_at "rd"
 cases row with
 | push _=>exact absurd (.inl ⟨_,rfl⟩) h3
 | load _=>exact absurd (.inr (.inl ⟨_,rfl⟩)) h3
 | skip _=>exact absurd (.inr (.inr ⟨_,rfl⟩)) h3
 | drop=>
  obtain ⟨v,st',e⟩:∃ v st',st=v::st':=by
   cases st with
   | nil=>cases own
   | cons v st'=>exact ⟨v,st',rfl⟩
  subst e
  iterate 3 (refine ⟨_,hrow,_,ix0,rfl,?_⟩; rw [if_neg sne])
  exact pop (pc2:=pc+1) rfl (Same.refl _) (by cases own; rfl) x2 h1
 | nt=>
  obtain ⟨b,st',e,eg⟩:∃ b st',st=.bl b::st'∧g=⟨n0,pc+1,sl,.bl (!b)::st'⟩:=by
   cases st with
   | nil=>cases own
   | cons v st'=>cases v <;> first | (cases own; exact ⟨_,_,rfl,rfl⟩) | cases own
  subst e
  rw [qa5] at h2
  obtain ⟨ws,x,ew,p1,hx⟩:=Pd.snoc_inv h2
  cases hx
  rw [ew] at x3
  iterate 2 (refine ⟨_,hrow,_,ix0,rfl,?_⟩; rw [if_neg sne])
  refine ⟨_,hrow,_,ix0,rfl,?_⟩
  rw [if_pos rfl]
  refine ⟨ta,_,rfl,x3,fun t1 H1 s1 k1=>⟨_,x3.same s1,_,Z0F ws _,b,rfl,New.of fun t2 H2 h2' s2 e2=>⟨t1,t2,_,_,rfl,rfl,k1.same s2,SqT.of e2,?_,fun t3 H3 s3 k3=>?_⟩⟩⟩
  ·have l:(ws++[V.bl b]).length≤1000:=by rw [← ew,le1]; exact l1
   rw [Z3y,sizeLine_eq]
   rw [qa1] at l
   show _+1≤_
   omega
  ·have S:=s1.trans (s2.trans s3)
   rw [Z3y] at k3
   exact on (pc2:=pc+1) S eg (x2.same S) (AtVs.t h1 (Same.t S)) k3 (by rw [qa5]; exact Paired.appendP (AtVs.t p1 (Same.t S)) (.cons rfl .nil))
 | unl k=>
  obtain ⟨b,st',e,eg⟩:∃ b st',st=.bl b::st'∧g=⟨n0,pc+1+(if b then 0 else k),sl,st'⟩:=by
   cases st with
   | nil=>cases own
   | cons v st'=>cases v <;> first | (cases own; exact ⟨_,_,rfl,rfl⟩) | cases own
  subst e
  have h2':=h2
  rw [qa5] at h2'
  obtain ⟨ws,x,ew,p1,hx⟩:=Pd.snoc_inv h2'
  cases hx
  have x3':=x3
  rw [ew] at x3'
  iterate 1 (refine ⟨_,hrow,_,ix0,rfl,?_⟩; rw [if_neg sne])
  refine ⟨_,hrow,_,ix0,rfl,?_⟩
  rw [if_pos rfl]
  refine ⟨_,x3',_,Z0F ws _,b,rfl,?_⟩
  cases b with
  | false=>
   rw [if_pos rfl]
   refine ⟨_,hrow,_,ix1,_,rfl,_,hrow,_,ix0,rfl,?_⟩
   rw [if_neg sne,show (pc:Int)+k+1=((pc+1+k:Nat):Int) by omega]
   exact pop rfl (Same.refl _) eg x2 h1
  | true=>
   rw [if_neg qi1]
   refine ⟨_,hrow,_,ix0,rfl,?_⟩
   rw [if_neg sne]
   exact pop (pc2:=pc+1) rfl (Same.refl _) eg x2 h1
 | keep i=>
  obtain ⟨v,st',e,il,eg⟩:∃ v st',st=v::st'∧i < sl.length∧g=⟨n0,pc+1,sl.set i v,st'⟩:=by
   cases st with
   | nil=>cases own
   | cons v st'=>
    have own:(if i < sl.length then some (Sum.inl (⟨n0,pc+1,sl.set i v,st'⟩:AFr)) else none)=some (.inl g):=own
    split at own
    ·cases own; exact ⟨v,st',rfl,by assumption,rfl⟩
    ·cases own
  subst e
  have h2':=h2
  rw [qa5] at h2'
  obtain ⟨ws,x,ew,p1,hx⟩:=Pd.snoc_inv h2'
  have x3':=x3
  rw [ew] at x3'
  have lsl:F.sl.length≤1000:=by rw [le2]; exact l2
  refine ⟨_,hrow,_,ix0,rfl,?_⟩
  rw [if_pos rfl]
  refine ⟨_,hrow,_,ix1,_,rfl,sa,_,rfl,x2,fun t1 H1 s1 k1=>⟨_,x3'.same s1,_,Z0F ws _,New.of fun t2 H2 _ s2 e2=>⟨t1,t2,_,_,rfl,rfl,k1.same s2,SqT.of e2,?_,fun t3 H3 s3 k3=>?_⟩⟩⟩
  ·rw [Z2B,sizeLine_eq,qc4]; show _+1≤_; omega
  have S3:=s1.trans (s2.trans s3)
  have hR:SqT K H r [.str "keep",.int i]:=hrow
  refine ⟨_,hR.same S3,_,ix1,_,rfl,sa,_,rfl,x2.same S3,fun t4 H4 s4 k4=>⟨t3,t4,_,_,rfl,rfl,k3.same s4,k4,?_,fun t5 H5 s5 k5=>?_⟩⟩
  ·rw [Z2B,show (i:Int)+1=((i+1:Nat):Int) from rfl,Z2c,sizeLine_eq,qa1,qc4,qe5]; show _+1+_≤_; omega
  have S5:=S3.trans (s4.trans s5)
  rw [Z2B,show (i:Int)+1=((i+1:Nat):Int) from rfl,Z2c] at k5
  refine ⟨_,hR.same S5,_,ix0,rfl,?_⟩
  rw [if_neg sne]
  refine ⟨_,hR.same S5,_,ix0,rfl,?_⟩
  rw [if_neg sne]
  refine pop (pc2:=pc+1) rfl S5 eg k5 ?_
  have il2:i < F.sl.length:=by rw [le2]; exact il
  rw [qm5,if_pos il,show F.sl.take i++[x]++F.sl.drop (i+1)=F.sl.take i++x::F.sl.drop (i+1) by rw [qc7]; rfl]
  exact AtVs.t (Paired.appendP (Pd.take i h1) (.cons hx (Pd.drop (i+1) h1))) (Same.t S5)
 | _=>cases pl
end
inductive Z8X (K:y9) (vs:List V) (H:Hp) (Q:VK):Prop
 | mk (ex:y8→Prop) (A:PA) (P:Mach.Prog) (s s':MS) (f:AFr) (fs:List AFr) (r a:y8) (row:Row) (a1:vs=[.ref A.st,.ref r,.ref a]) (a2:PS K ex A P s H) (a3:s.frames=f::fs) (a4:FrIs K H a f) (a5:f.st.length≤1000) (a6:s.made.length≤1000) (a7:(∀ t∈s.made,t.2.length≤1000)) (a8:RowAt K H r row) (a9:((∃ h m,row=.make h m)∨(∃ pl,row=.get pl)∨∃ pl,row=.put pl)) (a10:Mach.rowM P s f fs row=some s') (a11:PDo K ex A P H s' .non Q):Z8X K vs H Q
def Z6G (K:y9):Sp:=fun vs H Q _=>Z8X K vs H Q
theorem Z7R (st:List V) (x y:V):cutV (st++[x,y]) none (some (-2))=st:=by
 unfold cutV
 have e:HT.sIx (st++[x,y]).length (st++[x,y]).length (some (-2))=st.length:=by
  show (if (-2:Int) < 0 then ((-2:Int)+((st++[x,y]).length:Int)).toNat else min (-2:Int).toNat (st++[x,y]).length)=_
  rw [if_pos qS,qa1]
  show ((-2:Int)+((st.length+2:Nat):Int)).toNat=_
  omega
 rw [HT.sIx_none,e,qg1,qg2,qi7]
 rfl
theorem J2X {P:Mach.Prog} {s s2:MS} {f:AFr} {fs:List AFr} {pl:Nat} (h:Mach.rowM P s f fs (.get pl)=some s2):∃ k st t v,f.st=.th k::st∧s.made[k]?=some t∧t.2[pl]?=some v∧s2={ s with frames:=⟨f.n,f.pc+1,f.sl,v::st⟩::fs }:=by
 obtain ⟨o,ho,h⟩:=Z5H (row:=.get pl) rfl h
 simp only [Mach.own] at ho
 split at ho
 ·rename_i k st est
  obtain ⟨t,et,ho⟩:=qc0.mp ho
  obtain ⟨v,ev,ho⟩:=qb6.mp ho
  rcases h with ⟨g,e,h⟩ | ⟨g,e,_⟩
  ·rw [← ho] at e; cases e; exact ⟨k,st,t,v,est,et,ev,h⟩
  ·rw [← ho] at e; cases e
 ·cases ho
section
theorem J3d (T:Txt P w K mg O0b O0a O0c) (O0s:Has P w K mg base 1 "_law_on" ["_law_state","_law_goal","_law_slots","_law_stack"] (Z4K K)):Has P w K mg base 2 "_law_thing_row" ["_law_state","_law_row","_law_frame"] (Z6G K):=by
 refine Has.of T.O2c O0j (fun _ _ _ _ _ _ us hl=>el3 us hl fun _ _ _=>rfl) (fun vs H Q E h=>?_) (fun f cdv A outer s H vs Q E hr h=>?_)
 ·obtain ⟨ex,A,P,s,s',f,fs,r,a,row,rfl,_⟩:=h
  rfl
 obtain ⟨ex,A',P',s1,s2,f',fs,r,a,row,rfl,M,ef,fa,l1,l2,l3,hrow,which,own,q⟩:=h
 refine ⟨_,(Z0a (qG 3 O0j.nd (qA K 2))
  (Z0a (Z0t (qM Z0B (qA K 1) Z0g) (Z0a (qG 4 O0j.nd (Z0h Z1n (qL T.z_len (qI (pvF 3))) (qA K 1)))
  (Z0a (qG 3 O0j.nd (Z0h (r:=Z2k K) Z0T (Z0y (r:=rSlA K) Z0P (pvF 3) Z0E (Z0D (pvF 4))) (Z0k (qI (Z0k (qJ Z0g (qL T.z_len (qI (qB hr 0)))))))))
  (Z0b (Z0j (Z1c qa6 qb3 qb4 Z0q (qB hr 0) (qI (Z0k (qJ (qA K 1) (Z0y (r:=rSlA K) Z0P (qA K 2) (Z0D (pvF 4)) Z0E))))))))) (Z0b (Z0t (qM Z0B (qA K 1) Z0g) (Z0b (qG 3 O0j.nd (Z0h (r:=Z2k K) Z0T (Z0y (r:=rSlA K) Z0P (pvF 3) Z0E (Z0D qN)) (Z0k (qI (qC K (qC K (qD K (qB hr 0) (qC K (qC K (pvF 3) qN) Z0c)) Z0c) (qA K 1))))))) (Z0a (Z1l (qD K (qB hr 0) (qC K (qC K (pvF 3) qN) Z0c)) (Z1X (n:=2) rfl (Z0p (qH 5 O0j.nd) (Z0p (qH 6 O0j.nd) Z1W))))
  (Z0a (qG 6 O0j.nd (Z0h (r:=Z2k K) Z0T (Z0h (r:=Z2k K) Z0T (Z0y (r:=rSlA K) Z0P (pvF 6) Z0E (Z0D (qA K 1))) (Z0k (qI (qC K (pvF 3) qN)))) (Z0y (r:=rSlA K) Z0P (pvF 6) (Z0D (Z0h Z0x (qA K 1) Z0c)) Z0E)))
  (Z0a (Z1l (Z0k (qJ (pvF 5) (pvF 6))) (Z3p (qB hr 0) (qC K (qC K (pvF 3) qN) Z0c) Z1o))
  (Z0b (qG 3 O0j.nd (Z0h (r:=Z2k K) Z0T (Z0y (r:=rSlA K) Z0P (pvF 3) Z0E (Z0D qN)) (Z0k (qI (qC K (pvF 3) qN))))))))))))
  (Z0b (Z0j (qF O0s hr (Z0r (pvF 0) (qK (Z0h Z0x (qA K 2) Z0c) (qA K 2) (pvF 3)))))))),?_⟩
 obtain ⟨F,sa,ta,x1,x2,x3,e1,e2,h1,h2,le1,le2⟩:=fa.st
 have on:∀ {H2:Hp} {sX:MS} {ta2:y8} {ws:List V} {st2:List AV},PS K ex A' P' sX H2→sX.frames=f'::fs→Keep ex H H2→s2={ sX with frames:=⟨f'.n,f'.pc+1,f'.sl,st2⟩::fs }→SqT K H2 ta2 ws→AtVs K H2 ws st2.reverse→IxT K a 1 H2 fun x H1=>∃ i,x=.int i∧IxT K a 2 H1 fun x H1=>Z4K K [.ref A'.st,.int (i+1),x,.ref ta2] H1 (fun _ H1=>Q .non H1) E0:=fun {H2 sX ta2 ws st2} N ef2 kp e y3 y4=>⟨_,SqT.t x1 kp.t,_,ix1,_,rfl,_,SqT.t x1 kp.t,_,ix2,ex,A',P',sX,f',fs,f'.pc+1,sa,ta2,_,ws,f'.sl,st2,rfl,N,ef2,SqT.t x2 kp.t,AtVs.t h1 kp.t,y3,y4,fun B H3 b k N2=>q B H3 b (kp.trans k) (by rw [e]; exact N2)⟩
 have lF:F.st.length≤1000:=by omega
 obtain ⟨ms,m1,m2⟩:=M.mad
 have lms:ms.length=s1.made.length:=m2.length
 refine seq3 fun uz2 huz2 uz1 huz1=>?_
 walk_at "rd"
 refine ⟨_,x1,_,ix3,?_⟩
 subst huz1
 subst huz2
 rcases which with ⟨hh,m,rfl⟩ | ⟨pl,rfl⟩ | ⟨pl,rfl⟩
 ·obtain ⟨hm,e⟩:=Z7S own
  have hR:SqT K H r [.str "make",.int hh,.int m]:=hrow
  refine ifY hR rfl ?_
  walk_at "rd"
  refine ⟨_,.inr x3,_,hR,_,ix2,_,rfl,?_⟩
  rw [show (F.st.length:Int) - m=((F.st.length - m:Nat):Int) by omega]
  refine ⟨ta,_,rfl,x3,fun t1 H1 z1 k1=>⟨_,(M.same z1).get.2.1,A'.ta,rfl,_,.inl (SqL.of (z1 _ _ m1)),New.of fun t2 H2 _ z2 k2=>New.of fun t3 H3 _ z3 k3=>⟨t1,t3,_,_,rfl,rfl,k1.same (z2.trans z3),SqT.of k3,?_,fun t4 H4 z4 k4=>?_⟩⟩⟩
  ·rw [Z2B,sizeLine_eq,qc4]; show _+1≤_; omega
  have S4:=z1.trans (z2.trans (z3.trans z4))
  have M4:=M.same S4
  refine ⟨_,M4.get.2.1,.inl ⟨rfl,_,SqL.of (S4 _ _ m1)⟩,_,hR.same S4,_,ix1,_,x1.same S4,_,ix3,ta,_,rfl,x3.same S4,fun t5 H5 z5 k5=>New.of fun t6 H6 _ z6 k6=>⟨A'.ta,rfl,_,(S4.trans (z5.trans z6)) _ _ m1,qR,?_⟩⟩
  have S6:=S4.trans (z5.trans z6)
  rw [Z2c] at k5
  rw [Z2B] at k4
  have thv:ThV K H6 (.ref t6) (hh,(f'.st.take m).reverse):=⟨t6,t5,_,rfl,SqT.of k6,k5.same z6,by rw [qh7,← le1]; exact Pd.drop _ (AtVs.t h2 (Same.t S6))⟩
  obtain ⟨M7,kp7⟩:=(M.same S6).things (ms':=ms++[.ref t6]) (mm:=s1.made++[(hh,(f'.st.take m).reverse)]) (Paired.appendP (Pd.imp (fun _ _ h=>ThV.t h (Same.t S6)) m2) (.cons thv .nil))
  have kk:=(M.keepS S6).trans kp7
  have tv:AtV K H6 (.ref t2) (.th s1.made.length):=⟨t2,rfl,(z3.trans (z4.trans (z5.trans z6))) _ _ (by rw [← lms]; exact k2),qR⟩
  refine on M7 ef kk e (SqT.t (k4.same (z5.trans z6)) kp7.t) ?_
  rw [qa5,qk5,← le1]
  exact Paired.appendP (Pd.take _ (AtVs.t h2 kk.t)) (.cons (tv.t kp7.t) .nil)
 ·have hR:SqT K H r [.str "get",.int pl]:=hrow
  obtain ⟨k,st,t,v,est,et,ev,e⟩:=J2X own
  rw [est,qa5] at h2
  obtain ⟨ws,x,ew,w1,wx⟩:=Pd.snoc_inv h2
  obtain ⟨tt,rfl,k1,_⟩:=wx
  rw [ew] at x3 lF
  rw [qa1] at lF
  obtain ⟨y,hy,yt⟩:=Pd.at m2 et
  obtain ⟨ee,ia,inner,rfl,y1,y2,y3⟩:=yt
  obtain ⟨z,hz,zv⟩:=Pd.at y3 ev
  refine ifN hR rfl (ifY hR rfl ?_)
  walk_at "rd"
  refine ⟨ta,_,rfl,x3,fun t1 H1 z1 c1=>⟨_,(M.same z1).get.2.1,_,x3.same z1,_,Z0F ws _,tt,rfl,_,SqT.of (z1 _ _ k1),_,ix1,A'.ta,rfl,_,rfl,_,SqL.of (z1 _ _ m1),_,Z0C hy,ee,rfl,_,y1.same z1,_,ix1,_,hR.same z1,_,ix1,ia,rfl,_,rfl,_,y2.same z1,_,Z0C hz,New.of fun t2 H2 _ z2 c2=>⟨t1,t2,_,_,rfl,rfl,c1.same z2,SqT.of c2,?_,fun t3 H3 z3 c3=>?_⟩⟩⟩
  ·rw [Z3y,sizeLine_eq]; show _+1≤_; omega
  have S3:=z1.trans (z2.trans z3)
  rw [Z3y] at c3
  refine on (M.same S3) ef (M.keepS S3) e c3 ?_
  rw [qa5]
  exact AtVs.t (Paired.appendP w1 (.cons zv .nil)) (Same.t S3)
 ·have hR:SqT K H r [.str "put",.int pl]:=hrow
  obtain ⟨v,k,st,t,est,et,hl,e⟩:=J0i own
  rw [est,qa5,qa5] at h2
  obtain ⟨ws1,y,ew1,w1,wy⟩:=Pd.snoc_inv h2
  obtain ⟨ws,x,ew,w2,wx⟩:=Pd.snoc_inv w1
  obtain ⟨tt,rfl,k1,_⟩:=wx
  have eF:F.st=ws++[.ref tt,y]:=by rw [ew1,ew,qc7]; rfl
  rw [eF] at x3 lF
  rw [qa1] at lF
  have lw:ws.length+2≤1000:=lF
  have x3':SqT K H ta ((ws++[.ref tt])++[y]):=by rw [qc7]; exact x3
  obtain ⟨u,hu,ut⟩:=Pd.at m2 et
  obtain ⟨ee,ia,inner,rfl,y1,y2,y3⟩:=ut
  have lin:inner.length=t.2.length:=y3.length
  have l3':=l3 t (qb9 et)
  refine ifN hR rfl (ifN hR rfl ?_)
  walk_at "rd"
  refine ⟨_,M.get.2.1,_,x3,_,J2a _ _ _,tt,rfl,_,SqT.of k1,_,ix1,A'.ta,rfl,_,rfl,_,SqL.of m1,_,Z0C hu,ee,rfl,_,y1,rfl,_,_,rfl,_,_,rfl,rfl,_,hR,_,ix1,_,rfl,ia,_,rfl,y2,fun t1 H1 z1 c1=>⟨_,x3'.same z1,_,Z0F _ _,New.of fun t2 H2 _ z2 c2=>⟨t1,t2,_,_,rfl,rfl,c1.same z2,SqT.of c2,?_,fun t3 H3 z3 c3=>?_⟩⟩⟩
  ·rw [Z2B,sizeLine_eq,qc4]; show _+1≤_; omega
  have S3:=z1.trans (z2.trans z3)
  refine ⟨_,hR.same S3,_,ix1,_,rfl,ia,_,rfl,y2.same S3,fun t4 H4 z4 c4=>⟨t3,t4,_,_,rfl,rfl,c3.same z4,c4,?_,fun t5 H5 z5 c5=>New.of fun t6 H6 _ z6 c6=>?_⟩⟩
  ·rw [Z2B,show (pl:Int)+1=((pl+1:Nat):Int) from rfl,Z2c,sizeLine_eq,qa1,qc4,qe5]; show _+1+_≤_; omega
  have S6:=S3.trans (z4.trans (z5.trans z6))
  rw [Z2B,show (pl:Int)+1=((pl+1:Nat):Int) from rfl,Z2c,← Z6M _ _ _ qR] at c5
  have M6:=M.same S6
  refine ⟨_,M6.get.2.1,_,x3.same S6,_,J2a _ _ _,tt,rfl,_,SqT.of (S6 _ _ k1),_,ix1,A'.ta,rfl,_,rfl,_,S6 _ _ m1,_,Z6U (by rw [lms]; exact (qa9.mp et).1),?_⟩
  have thv:ThV K H6 (.ref t6) (t.1,t.2.set pl v):=⟨t6,t5,_,rfl,SqT.of c6,c5.same z6,Pd.set (wy.t (Same.t S6)) _ (AtVs.t y3 (Same.t S6))⟩
  obtain ⟨M7,kp7⟩:=M6.things (ms':=ms.set k (.ref t6)) (mm:=s1.made.set k (t.1,t.2.set pl v)) (Pd.set thv _ (Pd.imp (fun _ _ h=>ThV.t h (Same.t S6)) m2))
  have kk:=(M.keepS S6).trans kp7
  generalize upd H6 A'.ta (.lst (ms.set k (.ref t6)))=H7 at M7 kp7 kk ⊢
  refine ⟨ta,_,rfl,SqT.t x3 kk.t,fun t7 H8 z8 c8=>⟨_,SqT.same (SqT.t x3' kk.t) z8,_,Z0F _ _,New.of fun t8 H9 _ z9 c9=>⟨t7,t8,_,_,rfl,rfl,c8.same z9,SqT.of c9,?_,fun t9 Ha za ca=>?_⟩⟩⟩
  ·rw [Z7R,sizeLine_eq]; show _+1≤_; omega
  have Sa:=z8.trans (z9.trans za)
  rw [Z7R] at ca
  have kf:=kk.trans (M7.keepS Sa)
  refine on (M7.same Sa) ef kf e ca ?_
  rw [qa5]
  exact AtVs.t (Paired.appendP w2 (.cons wy .nil)) kf.t
end
theorem WR.same {K:y9} {H H':Hp} {wd bl tb nl:y8} {bks:List Blk} {tabs:List (List (Option Nat))} {nums:List Int} (h:WR K H wd bl tb nl bks tabs nums) (s:Same H H'):WR K H' wd bl tb nl bks tabs nums:=by
 obtain ⟨kvs,d1,d2⟩:=h.d
 obtain ⟨bs,b1,b2⟩:=h.bb
 obtain ⟨ts,t1,t2⟩:=h.tt
 exact ⟨⟨kvs,s _ _ d1,d2⟩,⟨bs,s _ _ b1,Z4N b2 (Same.t s)⟩,⟨ts,s _ _ t1,Paired.imp' (fun _ _ ⟨ta,u1,u2⟩=>⟨ta,u1,s _ _ u2⟩) t2⟩,s _ _ h.nn⟩
theorem WR.get {K:y9} {H:Hp} {wd bl tb nl:y8} {bks:List Blk} {tabs:List (List (Option Nat))} {nums:List Int} (h:WR K H wd bl tb nl bks tabs nums):DGet H wd (.str "blocks") (some (.ref bl))∧DGet H wd (.str "tables") (some (.ref tb))∧DGet H wd (.str "numbers") (some (.ref nl)):=by
 obtain ⟨kvs,d1,d2,d3,d4⟩:=h.d
 refine ⟨?_,?_,?_⟩
 ·rw [← d2]; exact DGet.k (k:=.inr "blocks") d1
 ·rw [← d3]; exact DGet.k (k:=.inr "tables") d1
 ·rw [← d4]; exact DGet.k (k:=.inr "numbers") d1
def WK (K:y9) (ex:y8→Prop) (P:Mach.Prog) (wd:y8) (H:Hp):Prop:=∃ bl tb nl nums,∀ H',Keep ex H H'→WR K H' wd bl tb nl P.blocks P.tables nums
theorem WK.keep {K:y9} {ex:y8→Prop} {P:Mach.Prog} {wd:y8} {H H':Hp} (h:WK K ex P wd H) (k:Keep ex H H'):WK K ex P wd H':=let ⟨a,b,c,d,w⟩:=h; ⟨a,b,c,d,fun H2 k2=>w H2 (k.trans k2)⟩
inductive Z6f (K:y9) (vs:List V) (H:Hp) (Q:VK):Prop
 | mk (ex:y8→Prop) (A:PA) (P:Mach.Prog) (s s':MS) (wd r:y8) (site word many house b n:Nat) (a1:vs=[.ref wd,.ref A.st,.ref r,.int house]) (a2:PS K ex A P s H) (a3:WK K ex P wd H) (a4:SqT K H r [.str "call",.int site,.int word,.int many]) (a5:Mach.found P s house site word=some (b,s')) (a6:Mach.Sz n s) (a7:n≤1000) (a8:∀ H',Keep ex H H'→PS K ex A P s' H'→Q (.int b) H'):Z6f K vs H Q
def Z6m (K:y9):Sp:=fun vs H Q _=>Z6f K vs H Q
section
theorem Z9a (T:Txt P w K mg O0b O0a O0c):Has P w K mg base 1 "_law_found" ["_law_world_here","_law_state","_law_row","_law_house"] (Z6m K):=by
  refine Has.of T.O2T O0X (fun _ _ _ _ _ _ us hl=>el4 us hl fun _ _ _ _=>rfl) (fun vs H Q E h=>?_) (fun f cdv A outer s H vs Q E hr h=>?_)
  · obtain ⟨ex,A,P,s,s',wd,r,site,word,many,house,b,n,rfl,_⟩:=h
    rfl
  obtain ⟨ex,A',P',s1,s2,wd,r,site,word,many,house,b,n,rfl,M,hw,hR,fo,sz,n1,q⟩:=h
  refine ⟨_,(Z0a (qG 4 O0X.nd (Z7A (Z3k hr) (qB hr 1) (qA K 2) (Z0s Z0N) ⟨rfl,rfl,rfl,rfl⟩))
    (Z0a (Z1J rfl O0X.nd (i:=5) rfl rfl (BlockOk.of (N:=["_law_pair","_law_house"]) (nl:=[none,some 3]) (cl:=[("_law_house",s.heap.objs.size+1)]) rfl qP qP rfl (sub1 rfl) (nm:=["_law_house"]) rfl qP rfl (fun i hi j hj=>by
            match i,hi with
            | 0,_=>cases hj
             | 1,_=>cases hj; exact ⟨_,rfl,rfl,rfl,.inl rfl⟩
            )) (Z2x (pvF 4))
          (fun C fp s H=>(qH 0 (show (["_law_pair","_law_house"]:List Str).Nodup by decide +kernel)))
          (fun C fp s H=>(qM Z0B (qA K 0) (pvF 1))) (fun C fp s H=>(pvF 0)))
    (Z0a (Z0t (PW.pt (Z3U (Z3m (qB hr 1)) (Z2U (qM (r:=rNeN K) (Z4W hr.units) (pvF 5) (Z0s Z0N))))) (Z0a (Z1V (Z3k hr) (pvF 1) Z0g (Z0h Z0x (qB hr 1) Z0c) rfl)
    (Z0a (Z1V (Z3k hr) (qB hr 1) (qA K 2) (Z0h Z1Y (pvF 5) (Z4h rfl (BlockOk.of (N:=["_law_pair","_law_house"]) (nl:=[none,some 3]) (cl:=[("_law_house",s.heap.objs.size+1)]) rfl qP qP rfl (sub1 rfl) (nm:=["_law_house"]) rfl qP rfl (fun i hi j hj=>by
            match i,hi with
            | 0,_=>cases hj
             | 1,_=>cases hj; exact ⟨_,rfl,rfl,rfl,.inl rfl⟩
            )) (Z2x (pvF 4))
          (fun C fp s H=>(qH 0 (show (["_law_pair","_law_house"]:List Str).Nodup by decide +kernel)))
          (fun C fp s H=>(qM J3w (qA K 0) (pvF 1))) (fun C fp s H=>(pvF 0)))) rfl)
    (Z0b (Z0n (qC K (qD K (pvF 5) Z0c) Z0c))))) Z0o)
    (Z0a (Z1V (Z3k hr) (pvF 1) Z0g (Z0h Z0x (qB hr 1) Z0c) rfl)
    (Z0a (qG 6 O0X.nd (qD K (qD K (qB hr 0) (pvF 3)) (qA K 2)))
    (Z0a (Z0t (Z3m (qB hr 1)) (Z0b (Z1V (Z3k hr) (qB hr 1) (qA K 2) (Z0y (r:=rSlL K) Z4y (Z0h Z1Y (Z0s (qI (Z0k (qJ (pvF 3) (pvF 6))))) (pvF 4)) Z0E (Z0D Z0c)) rfl)) Z0o)
    (Z0b (Z0n (pvF 6))))))))),?_⟩
  refine seq7 fun uz6 huz6 uz5 huz5 uz4 huz4 uz3 huz3 uz2 huz2 uz1 huz1=>?_
  walk_at "rd"
  obtain ⟨kvs,hk,hn,hat⟩:=M.rep
  have lh:=sz.lh
  have mm:=sz.mm site
  refine ⟨_,M.get.2.2.2.2.2.2.1,A'.pd,rfl,.inl ⟨kvs,.inl hk⟩,_,hR,_,ix1,New.of fun p H1 hp z1 ep=>⟨_,DGet.k (k:=.inl (site:Int)) (z1 _ _ hk),?_⟩⟩
  obtain ⟨l0,el,q0⟩:∃ l0,(valV kvs (.inl (site:Int))).getD (.ref p)=.ref l0∧SqP H1 l0 (getP s1.mem site):=by
    have:=hat (site:Int)
    unfold getP
    cases e:s1.mem (site:Int) with
    | none=>
      rw [e] at this
      rw [show valV kvs (.inl (site:Int))=none from this]
      exact ⟨p,rfl,[],ep,.nil⟩
    | some ps=>
      rw [e] at this
      obtain ⟨l0,a,b,c⟩:=this
      rw [a]
      exact ⟨l0,rfl,c.same z1⟩
  rw [el]
  obtain ⟨rs,r1,r2⟩:=q0
  have lr:rs.length≤2:=by rw [r2.length]; exact mm.1
  have lz:rs.length≤sizeLine:=by rw [sizeLine_eq]; omega
  have looked:∀ {H3:Hp} {o5:Option V},Same H H3→SqP H3 l0 (getP s1.mem site)→(((P'.tables[house]?).bind fun t=>(t[word]?).join).map fun (b:Nat)=>(b,({ s1 with looks:=s1.looks+1,mem:=if P'.rem then updM s1.mem site (((house:Int),(b:Int))::getP s1.mem site |>.take 2) else s1.mem }:MS)))=some (b,s2)→uz3 { nx:=fun x H'=>Q V.non H',rt:=Q } [some (.ref wd),some (.ref A'.st),some (.ref r),some (.int house),some (.ref l0),o5,none] H3:=by
    intro H3 o5 S q3 e
    obtain ⟨b',eb,e⟩:=qb6.mp e
    cases e
    subst huz3
    walk_at "rd"
    have M3:=M.same S
    obtain ⟨e0,x0,he0⟩:=M3.d
    obtain ⟨M4,k4,R4⟩:=M3.set (s':={ s1 with looks:=s1.looks+1 }) (e:=e0) rfl rfl (by show s1.looks+s1.hits≤s1.looks+1+s1.hits; omega) rfl he0
    have nl:l0≠A'.st:=by obtain ⟨_,y,_⟩:=q3; exact Z0J y x0 (fun z=>by cases z)
    have q4:=q3.x (Z0G (.dK (kvP A' P' e0 s1.calls (s1.looks+1) s1.hits s1.rows))) nl (fun xs z=>by rw [x0] at z; cases z)
    refine ⟨_,M3.get.2.2.2.1,_,rfl,_,DPut.k (k:=.inr "looks") x0 (by rw [sizeLine_eq]; show 10 < _; omega),?_⟩
    have kk:=(M.keepS S).trans k4
    show uz4 _ _ (upd H3 A'.st (.dK (kvP A' P' e0 s1.calls (s1.looks+1) s1.hits s1.rows)))
    have k4':Keep ex H (upd H3 A'.st (.dK (kvP A' P' e0 s1.calls (s1.looks+1) s1.hits s1.rows))):=kk
    clear k4 kk
    have R4':Rep (fun a=>a=A'.fa∨a=A'.ta∨ex a) (upd H3 A'.st (.dK (kvP A' P' e0 s1.calls (s1.looks+1) s1.hits s1.rows))) A'.pd (s1.looks+s1.hits) s1.mem:=R4
    have M4':PS K ex A' P' { s1 with looks:=s1.looks+1 } (upd H3 A'.st (.dK (kvP A' P' e0 s1.calls (s1.looks+1) s1.hits s1.rows))):=M4
    clear R4 M4
    generalize upd H3 A'.st (.dK (kvP A' P' e0 s1.calls (s1.looks+1) s1.hits s1.rows))=H4 at q4 k4' R4' M4' ⊢
    obtain ⟨bl,tb,nl',nums,hwr⟩:=hw
    have wr:=hwr H4 k4'
    obtain ⟨ts,t1,t2⟩:=wr.tt
    obtain ⟨tt,et,ej⟩:=qc0.mp eb
    obtain ⟨v,hv,tb2⟩:=Pd.at t2 et
    obtain ⟨ta2,rfl,hta⟩:=tb2
    have hj:(tt.map tabV)[word]?=some (.int b):=by
      rw [qc8]
      cases ew:tt[word]? with
      | none=>rw [ew] at ej; cases ej
      | some o=>rw [ew] at ej; cases ej; rfl
    subst huz4
    walk_at "rd"
    refine ⟨_,wr.get.2.1,tb,rfl,_,SqL.of t1,_,Z0C hv,_,SqT.t hR k4'.t,_,ix2,ta2,rfl,_,rfl,_,SqL.of hta,_,Z0C hj,?_⟩
    subst huz5
    walk_at "rd"
    refine ⟨_,M4'.get.2.2.2.2.2.2.2.2,_,rfl,?_⟩
    cases er:P'.rem with
    | false=>
      rw [er] at q
      rw [if_neg qi1]
      subst huz6
      walk_at "rd"
      exact q _ k4' M4'
    | true=>
      rw [er] at q
      rw [if_pos rfl]
      obtain ⟨rs4,w1,w2⟩:=q4
      have lr4:rs4.length≤2:=by rw [w2.length]; exact mm.1
      refine New.of fun t5 H5 _ z5 e5=>New.of fun l5 H6 h6 z6 e6=>⟨_,e6,_,(z5.trans z6) _ _ w1,by show 1+_≤_; omega,New.of fun l7 H7 h7 z7 e7=>⟨_,SqL.of e7,New.of fun l8 H8 h8 z8 e8=>?_⟩⟩
      have Z:=z5.trans (z6.trans (z7.trans z8))
      have M8:=M4'.same Z
      rw [cut2] at e8
      obtain ⟨kv8,c1,c2,c3⟩:=R4'.same Z
      have nh:¬ (l8=A'.fa∨l8=A'.ta∨ex l8):=fun z=>by
        have M7:=M4'.same (z5.trans (z6.trans z7))
        obtain ⟨_,y1,_⟩:=M7.stk
        obtain ⟨_,y2,_⟩:=M7.mad
        rcases z with z | z | z
        · rw [z,y1] at h8; cases h8
        · rw [z,y2] at h8; cases h8
        · exact M7.exs _ z h8
      obtain ⟨M9,k9⟩:=M8.put (l:=l8) (n:=s1.looks+s1.hits) (k:=(site:Int)) (ps:=(((house:Int),(b:Int))::getP s1.mem site).take 2) c1 c2 c3 nh ⟨_,e8,Paired.takeP 2 (.cons ⟨t5,rfl,(z6.trans (z7.trans z8)) _ _ e5⟩ (Prs.mono (fun t xs e=>Z _ _ e) w2))⟩ (by show s1.looks+s1.hits+1≤s1.looks+1+s1.hits; omega)
      refine ⟨_,M8.get.2.2.2.2.2.2.1,_,SqT.same (SqT.t hR k4'.t) Z,_,ix1,A'.pd,rfl,_,DPut.k (k:=.inl (site:Int)) c1 (by rw [sizeLine_eq]; omega),?_⟩
      subst huz6
      walk_at "rd"
      exact q _ (k4'.trans ((M4'.keepS Z).trans k9)) M9
  subst huz1
  walk_at "rd"
  refine ⟨⟨_,SqL.of r1⟩,fun D hD=>?_⟩
  refine Z3e [some (.int house)] (fun p=>decide (p.1=house)) none rfl (SqL.of r1) hD r2 lz (fun t p l' K' ht k=>?_) fun fs hf=>?_
  · walk_at "rd"
    exact ⟨_,SqT.of ht,_,ix0,rfl,by simpa using k⟩
  have z2:=Z0f hD (.lst fs)
  have hfD:SqP (upd H1 D (.lst fs)) D (seen (getP s1.mem site) house):=⟨_,Z0d,hf⟩
  have q2:=SqP.same (⟨rs,r1,r2⟩:SqP H1 l0 _) z2
  generalize upd H1 D (.lst fs)=H2 at z2 hfD q2 ⊢
  have S2:=z1.trans z2
  subst huz2
  walk_at "rd"
  refine ⟨_,(M.same S2).get.2.2.2.2.2.2.2.2,_,rfl,?_⟩
  unfold Mach.found at fo
  cases er:P'.rem with
  | false=>
    rw [if_neg qi1]
    rw [er] at fo looked
    exact looked S2 q2 fo
  | true=>
    rw [if_pos rfl]
    obtain ⟨gs,g1,g2⟩:=hfD
    refine New.of fun p3 H3 h3 z3 e3=>⟨_,SqL.of (z3 _ _ g1),SqL.of e3,?_⟩
    have S3:=S2.trans z3
    have fo:(match seen (getP s1.mem site) house with | (_,b)::_=>some (b.toNat,({ s1 with hits:=s1.hits+1,mem:=updM s1.mem site (seen (getP s1.mem site) house++Z0v (getP s1.mem site) house) }:MS)) | []=>((P'.tables[house]?).bind fun t=>(t[word]?).join).map fun (b:Nat)=>(b,{ s1 with looks:=s1.looks+1,mem:=if P'.rem then updM s1.mem site (((house:Int),(b:Int))::getP s1.mem site |>.take 2) else s1.mem }))=some (b,s2):=by rw [er] at fo; rw [er]; exact fo
    cases hs:seen (getP s1.mem site) house with
    | nil=>
      rw [hs] at g2 fo
      cases g2
      exact looked S3 (q2.same z3) fo
    | cons p0 r0=>
      rw [hs] at g2 fo
      cases fo
      cases g2 with
      | cons g0 gr=>
        obtain ⟨t0,rfl,ht0⟩:=g0
        rw [if_pos (show (V.ref t0::_).isEmpty=false from rfl)]
        have M3:=M.same S3
        obtain ⟨e0,x0,he0⟩:=M3.d
        obtain ⟨M4,k4,R4⟩:=M3.set (s':={ s1 with hits:=s1.hits+1 }) (e:=e0) rfl rfl (by show s1.looks+s1.hits≤s1.looks+(s1.hits+1); omega) rfl he0
        have q3:=q2.same z3
        have nl:l0≠A'.st:=by obtain ⟨_,y,_⟩:=q3; exact Z0J y x0 (fun z=>by cases z)
        have q4:=q3.x (Z0G (.dK (kvP A' P' e0 s1.calls s1.looks (s1.hits+1) s1.rows))) nl (fun xs z=>by rw [x0] at z; cases z)
        have nD:D≠A'.st:=Z0J (z3 _ _ g1) x0 (fun z=>by cases z)
        have D4:=SqP.x (⟨_,z3 _ _ g1,Prs.mono (fun t xs e=>z3 _ _ e) (.cons ⟨t0,rfl,ht0⟩ gr)⟩:SqP H3 D (p0::r0)) (Z0G (.dK (kvP A' P' e0 s1.calls s1.looks (s1.hits+1) s1.rows))) nD (fun xs z=>by rw [x0] at z; cases z)
        refine ⟨_,M3.get.2.2.2.2.1,_,rfl,_,DPut.k (k:=.inr "hits") x0 (by rw [sizeLine_eq]; show 10 < _; omega),?_⟩
        have k4':Keep ex H (upd H3 A'.st (.dK (kvP A' P' e0 s1.calls s1.looks (s1.hits+1) s1.rows))):=(M.keepS S3).trans k4
        have R4':Rep (fun a=>a=A'.fa∨a=A'.ta∨ex a) (upd H3 A'.st (.dK (kvP A' P' e0 s1.calls s1.looks (s1.hits+1) s1.rows))) A'.pd (s1.looks+s1.hits) s1.mem:=R4
        have M4':PS K ex A' P' { s1 with hits:=s1.hits+1 } (upd H3 A'.st (.dK (kvP A' P' e0 s1.calls s1.looks (s1.hits+1) s1.rows))):=M4
        clear R4 M4 k4
        show (∃ xs,SqL K (upd H3 A'.st (.dK (kvP A' P' e0 s1.calls s1.looks (s1.hits+1) s1.rows))) l0 xs)∧∀ D_1,(upd H3 A'.st (.dK (kvP A' P' e0 s1.calls s1.looks (s1.hits+1) s1.rows))) D_1=none→Z3z _ _ _ _ _ _ _ (upd (upd H3 A'.st (.dK (kvP A' P' e0 s1.calls s1.looks (s1.hits+1) s1.rows))) D_1 _)
        generalize upd H3 A'.st (.dK (kvP A' P' e0 s1.calls s1.looks (s1.hits+1) s1.rows))=H4 at q4 k4' R4' M4' D4 ⊢
        obtain ⟨rs4,w1,w2⟩:=q4
        have lr4:rs4.length≤2:=by rw [w2.length]; exact mm.1
        refine ⟨⟨_,SqL.of w1⟩,fun D2 hD2=>?_⟩
        refine Z3e [some (.int house)] (fun p=>!decide (p.1=house)) none rfl (SqL.of w1) hD2 w2 (by rw [sizeLine_eq]; omega) (fun t p l' K' ht k=>?_) fun gs2 hg=>?_
        · walk_at "rd"
          exact ⟨_,SqT.of ht,_,ix0,rfl,by simpa using k⟩
        have z5:=Z0f hD2 (.lst gs2)
        have e5:upd H4 D2 (.lst gs2) D2=some (.lst gs2):=Z0d
        generalize upd H4 D2 (.lst gs2)=H5 at z5 e5 hg ⊢
        have lg:gs2.length≤2:=by rw [hg.length]; exact qa7 (qf5 _ _) mm.1
        obtain ⟨ds,d1,d2⟩:=D4
        have ld:ds.length≤2:=by rw [d2.length,← hs]; exact qa7 (qf5 _ _) mm.1
        refine ⟨D2,rfl,_,z5 _ _ d1,_,e5,qR,New.of fun l6 H6 h6 z6 e6=>?_⟩
        have Z:=z5.trans z6
        have M6:=M4'.same Z
        obtain ⟨kv6,c1,c2,c3⟩:=R4'.same Z
        have nh:¬ (l6=A'.fa∨l6=A'.ta∨ex l6):=fun z=>by
          have M5:=M4'.same z5
          obtain ⟨_,y1,_⟩:=M5.stk
          obtain ⟨_,y2,_⟩:=M5.mad
          rcases z with z | z | z
          · rw [z,y1] at h6; cases h6
          · rw [z,y2] at h6; cases h6
          · exact M5.exs _ z h6
        have d6:=Prs.mono (fun t xs e=>Z _ _ e) d2
        obtain ⟨M9,k9⟩:=M6.put (l:=l6) (n:=s1.looks+s1.hits) (k:=(site:Int)) (ps:=p0::r0++Z0v (getP s1.mem site) house) c1 c2 c3 nh ⟨_,e6,Paired.appendP d6 (Prs.mono (fun t xs e=>z6 _ _ e) hg)⟩ (by show s1.looks+s1.hits+1≤s1.looks+(s1.hits+1); omega)
        refine ⟨_,M6.get.2.2.2.2.2.2.1,_,SqT.same (SqT.t hR k4'.t) Z,_,ix1,A'.pd,rfl,_,DPut.k (k:=.inl (site:Int)) c1 (by rw [sizeLine_eq]; omega),?_⟩
        have nDp:D≠A'.pd:=Z0J (Z _ _ d1) c1 (fun z=>by cases z)
        cases d2 with
        | cons v0 vr=>
          obtain ⟨t9,rfl,h9⟩:=v0
          have nt:t9≠A'.pd:=Z0J (Z _ _ h9) c1 (fun z=>by cases z)
          refine ⟨_,SqL.of (by rw [Z0e nDp]; exact Z _ _ d1),_,ix0,t9,rfl,_,SqT.of (by rw [Z0e nt]; exact Z _ _ h9),_,ix1,?_⟩
          have hp:p0∈getP s1.mem site:=(qd8.mp (show p0∈seen (getP s1.mem site) house by rw [hs]; exact qb5)).1
          have:=q _ (k4'.trans ((M4'.keepS Z).trans k9)) M9
          rw [qj6 (mm.2 p0 hp)] at this
          exact this
end
inductive Z9x (K:y9) (vs:List V) (H:Hp) (Q:VK):Prop
 | mk (ex:y8→Prop) (A:PA) (P:Mach.Prog) (s s':MS) (f:AFr) (fs:List AFr) (wd r a:y8) (row:Row) (n:Nat) (a1:vs=[.ref wd,.ref A.st,.ref r,.ref a]) (a2:PS K ex A P s H) (a3:WK K ex P wd H) (a4:s.frames=f::fs) (a5:FrIs K H a f) (a6:RowAt K H r row) (a7:((∃ si w m,row=.call si w m)∨∃ b m,row=.straight b m)) (a8:Mach.rowM P s f fs row=some s') (a9:(∀ b m,row=.straight b m→m≤f.st.length)) (a10:s.calls≤P.most) (a11:fs.length≤40) (a12:Mach.Sz n s) (a13:n≤1000) (a14:Mach.PSz P) (a15:PDo K ex A P H s' .non Q):Z9x K vs H Q
def Z5B (K:y9):Sp:=fun vs H Q _=>Z9x K vs H Q
section
theorem J3W (T:Txt P w K mg O0b O0a O0c) (O0o:Has P w K mg base 1 "_law_ended" ["_law_state","_law_ended_here"] (Z2E K)) (O0s:Has P w K mg base 1 "_law_on" ["_law_state","_law_goal","_law_slots","_law_stack"] (Z4K K)) (O2W:Has P w K mg base 1 "_law_found" ["_law_world_here","_law_state","_law_row","_law_house"] (Z6m K)):Has P w K mg base 2 "_law_entered" ["_law_world_here","_law_state","_law_row","_law_frame"] (Z5B K):=by
 refine Has.of T.O2v O0y (fun _ _ _ _ _ _ us hl=>el4 us hl fun _ _ _ _=>rfl) (fun vs H Q E h=>?_) (fun f cdv A outer s H vs Q E hr h=>?_)
 ·obtain ⟨ex,A,P,s,s',f,fs,wd,r,a,row,n,rfl,_⟩:=h
  rfl
 obtain ⟨ex,A',P',s1,s2,f',fs,wd,r,a,row,n,rfl,M,hw,ef,fa,hrow,which,own,hst,hcm,h40,sz,n1,psz,q⟩:=h
 refine ⟨_,(Z0a (qG 4 O0y.nd (Z0h Z1n (qL T.z_len (qI (qA K 3))) (qC K (pvF 2) qN)))
  (Z0a (qG 5 O0y.nd (Z0y (r:=rSlA K) Z0P (qA K 3) (Z0D (pvF 4)) Z0E))
  (Z0a (qG 6 O0y.nd (qA K 2))
  (Z0a (Z0t (qM Z0B (qA K 2) Z0g) (Z0b (qG 6 O0y.nd (qF O2W hr (Z0r (pvF 0) (qK (pvF 1) (pvF 2) (qC K (qD K (qB hr 1) (qC K (qA K 5) Z0c)) Z0c)))))) Z0o)
  (Z0a (Z0t (qM Z0B (qB hr 1) (qB hr 1)) (Z0a (Z0j (qF O0o hr (qJ (pvF 1) (Z0k (qI Z0g)))))
  (Z0b Z4p)) Z0o)
  (Z0a (Z1V (Z3k hr) (pvF 1) Z0g (Z0h Z0x (qB hr 1) Z0c) rfl)
  (Z0a (Z0t (qM Z0B (qL T.z_len (qI (qB hr 1))) Z0c) (Z0a (Z0j (qF O0o hr (qJ (pvF 1) (Z0k (qI Z0g)))))
  (Z0b Z4p)) Z0o)
  (Z0a (Z0j (qF O0s hr (Z0r (pvF 1) (qK (Z0h Z0x (qA K 3) Z0c) (qA K 3) (Z0y (r:=rSlA K) Z0P (qA K 3) Z0E (Z0D (pvF 4)))))))
  (Z0a (qG 7 O0y.nd (Z0h (r:=Z2k K) Z0T (pvF 5) (Z0h (r:=J1w K) Z6Y (Z0k (qI Z1d)) (Z0h Z1n (qC K (qD K (qB hr 0) (pvF 6)) Z0c) (qL T.z_len (qI (pvF 5)))))))
  (Z0b (Z0j (Z1c qa6 qb3 qb4 Z0q (qB hr 1) (qI (Z0k (Z0r (pvF 6) (qK Z0c (pvF 7) (Z0k Z0N))))))))))))))))),?_⟩
 obtain ⟨F,sa,ta,x1,x2,x3,e1,e2,h1,h2,le1,le2⟩:=fa.st
 have szf:=sz.fr' ef
 refine J2Q fun uz9 huz9 uz8 huz8 uz7 huz7 uz6 huz6 uz5 huz5 uz4 huz4 uz3 huz3 uz2 huz2 uz1 huz1=>?_
 walk_at "rd"
 have tail:∀ {H4:Hp} {sX:MS} {b m:Nat} {t5:y8} {o4:Option V},PS K ex A' P' sX H4→Keep ex H H4→sX.frames=f'::fs→sX.calls=s1.calls→Mach.enter P' sX f' fs b m=some s2→m≤f'.st.length→SqT K H4 t5 (F.st.drop (F.st.length - m))→uz4 { nx:=fun x H'=>Q V.non H',rt:=Q } [some (.ref wd),some (.ref A'.st),some (.ref r),some (.ref a),some (.int ((F.st.length - m:Nat):Int)),some (.ref t5),some (.int b),none] H4:=by
  intro H4 sX b m t5 o4 N kp ef4 ec en hm k5v
  subst huz4
  walk_at "rd"
  refine ⟨_,N.get.2.2.1,_,N.get.2.2.2.2.2.2.2.1,rfl,?_⟩
  have endd:∀ {H5:Hp} {sY:MS} {w:Str} {e:Mach.End},PS K ex A' P' sY H5→Keep ex H H5→s2=Mach.ends sY e→(∀ t H6,SqT K H6 t [.str w]→EndIs K H6 t e)→New H5 (.tup [.str w]) fun p H2=>Z2E K [.ref A'.st,.ref p] H2 (fun _ H1=>Q .non H1) E0:=fun {H5 sY w e} N5 k5 es he=>New.of fun t H6 _ z6 e6=>⟨ex,A',P',sY,t,e,rfl,N5.same z6,he t H6 (SqT.of e6),fun B H7 b k N7=>q B H7 b (k5.trans ((N5.keepS z6).trans k)) (by rw [es]; exact N7)⟩
  unfold Mach.enter at en
  by_cases c:P'.most≤sX.calls
  ·rw [if_pos c] at en
   rw [if_pos (show V.int (sX.calls:Int)=V.int (P'.most:Int) by rw [show sX.calls=P'.most by omega])]
   exact endd N kp (qb7 en).symm fun t H6 h=>h
  rw [if_neg c] at en
  rw [if_neg (show ¬ V.int (sX.calls:Int)=V.int (P'.most:Int) from fun z=>by injection z with z; omega)]
  subst huz5
  walk_at "rd"
  obtain ⟨e0,x0,he0⟩:=N.d
  obtain ⟨N5,k5,_⟩:=N.set (s':={ sX with calls:=sX.calls+1 }) (e:=e0) rfl rfl (qa0 _) rfl he0
  refine ⟨_,N.get.2.2.1,_,rfl,_,DPut.k (k:=.inr "calls") x0 (by rw [sizeLine_eq]; show 10 < _; omega),?_⟩
  have N5':PS K ex A' P' { sX with calls:=sX.calls+1 } (upd H4 A'.st (.dK (kvP A' P' e0 (sX.calls+1) sX.looks sX.hits sX.rows))):=N5
  have kp5:Keep ex H (upd H4 A'.st (.dK (kvP A' P' e0 (sX.calls+1) sX.looks sX.hits sX.rows))):=kp.trans k5
  have k5':SqT K (upd H4 A'.st (.dK (kvP A' P' e0 (sX.calls+1) sX.looks sX.hits sX.rows))) t5 (F.st.drop (F.st.length - m)):=SqT.t k5v k5.t
  show uz6 _ _ (upd H4 A'.st (.dK (kvP A' P' e0 (sX.calls+1) sX.looks sX.hits sX.rows)))
  clear N5 k5
  generalize upd H4 A'.st (.dK (kvP A' P' e0 (sX.calls+1) sX.looks sX.hits sX.rows))=H5 at N5' kp5 k5' ⊢
  obtain ⟨ss,u1,u2⟩:=N5'.stk
  have lss:ss.length=fs.length+1:=by rw [u2.length,qc2]; show sX.frames.length=_; rw [ef4]; rfl
  subst huz6
  walk_at "rd"
  refine ⟨_,N5'.get.1,A'.fa,rfl,_,.inl (SqL.of u1),?_⟩
  by_cases d:40 < fs.length+1
  ·rw [if_pos d] at en
   rw [if_pos qR]
   exact endd N5' kp5 (qb7 en).symm fun t H6 h=>h
  rw [if_neg d,if_pos hm] at en
  rw [if_neg qR]
  obtain ⟨bk,hbk,en⟩:=qc0.mp en
  split at en
  case isFalse=>cases en
  case isTrue hms=>
  have es:=(qb7 en).symm
  have psb:=psz.bk bk (qb9 hbk)
  subst huz7
  walk_at "rd"
  refine ⟨_,SqT.t x1 kp5.t,_,ix1,_,rfl,_,SqT.t x1 kp5.t,_,ix2,_,SqT.t x1 kp5.t,_,ix3,ta,_,rfl,SqT.t x3 kp5.t,fun t6 H6 z6 c6=>?_⟩
  rw [Z2B] at c6
  have kp6:=kp5.trans (N5'.keepS z6)
  refine ⟨ex,A',P',{ sX with calls:=sX.calls+1 },f',fs,f'.pc+1,sa,t6,_,_,f'.sl,f'.st.drop m,rfl,N5'.same z6,ef4,SqT.t x2 kp6.t,AtVs.t h1 kp6.t,c6,by rw [qk5,← le1]; exact Pd.take _ (AtVs.t h2 kp6.t),fun B H7 eB k7 N7=>?_⟩
  have kp7:=kp6.trans k7
  subst huz8
  walk_at "rd"
  refine New.of fun t8 H8 _ z8 e8=>?_
  have kp8:=kp7.trans (N7.keepS z8)
  obtain ⟨bl,tb,nl,nums,hwr⟩:=hw
  have wr:=hwr H8 kp8
  obtain ⟨bs,b1,b2⟩:=wr.bb
  obtain ⟨v,hv,ba,ra,rs,rfl,y1,y2,y3⟩:=Pd.at b2 hbk
  have k8:SqT K H8 t5 (F.st.drop (F.st.length - m)):=SqT.same (SqT.t (k5'.same z6) k7.t) z8
  have ld:(F.st.drop (F.st.length - m)).length=m:=by rw [qe5]; omega
  refine ⟨_,wr.get.1,bl,rfl,_,SqL.of b1,_,Z0C hv,ba,rfl,_,y1,_,ix1,_,.inr k8,_,rfl,?_⟩
  rw [ld,show ((bk.size:Int) - (m:Int))=((bk.size - m:Nat):Int) by omega]
  refine ⟨t8,_,_,rfl,rfl,SqT.of e8,(fun z=>by cases z),qR,qR,by rw [sizeLine_eq,qd0]; show 1 * _≤_; omega,fun t9 H9 z9 c9=>⟨t5,t9,_,_,rfl,rfl,k8.same z9,c9,?_,fun ta9 Ha za ca=>?_⟩⟩
  ·rw [qd0,qi0,qd3,ld,sizeLine_eq]; omega
  rw [qd0,qi0] at ca
  subst huz9
  walk_at "rd"
  have Za:=z8.trans (z9.trans za)
  have Na:=N7.same Za
  obtain ⟨ss7,v1,v2⟩:=N7.stk
  have l7:ss7.length=fs.length+1:=by rw [v2.length,qc2]; rfl
  rw [← eB]
  refine ⟨_,Na.get.1,.inl ⟨rfl,_,SqL.of (Za _ _ v1)⟩,New.of fun tb Hb _ zb cb=>New.of fun tc Hc _ zc cc=>⟨B.fa,rfl,_,(Za.trans (zb.trans zc)) _ _ v1,qR,?_⟩⟩
  have Zc:=Za.trans (zb.trans zc)
  have kpc:=kp7.trans (N7.keepS Zc)
  have fv:FrV K Hc (.ref tc) ⟨b,0,(f'.st.take m).reverse++qa3 (bk.size - m) .non,[]⟩:=⟨tc,rfl,⟨.int b,0,_,[]⟩,⟨ta9,tb,SqT.of cc,ca.same (zb.trans zc),SqT.of (zc _ _ cb)⟩,rfl,rfl,Paired.appendP (by rw [qh7,← le1]; exact Pd.drop _ (AtVs.t h2 kpc.t)) (Z5A _),.nil⟩
  obtain ⟨Nd,kd⟩:=(N7.same Zc).frames (ss':=ss7++[.ref tc]) (fr:=⟨b,0,(f'.st.take m).reverse++qa3 (bk.size - m) .non,[]⟩::⟨f'.n,f'.pc+1,f'.sl,f'.st.drop m⟩::fs) (by rw [qa5]; exact Paired.appendP (Pd.imp (fun _ _ h=>h.t (Same.t Zc)) v2) (.cons fv .nil))
  exact q B _ eB (kpc.trans kd) (by rw [es]; exact Nd)
 have head:∀ {m:Nat} {us:List V},m≤f'.st.length→SqT K H r (us++[.int m])→(∀ t1 H1,Same H H1→SqT K H1 t1 (F.st.drop (F.st.length - m))→uz2 { nx:=fun x H'=>Q V.non H',rt:=Q } [some (.ref wd),some (.ref A'.st),some (.ref r),some (.ref a),some (.int ((F.st.length - m:Nat):Int)),some (.ref t1),none,none] H1)→IxT K a 3 H fun x H1=>∃ p,x=.ref p∧∃ x,(SqL K H1 p x∨SqT K H1 p x)∧IxT K r (-1) H1 fun y H2=>∃ x_1,y=.int x_1∧uz1 { nx:=fun x H'=>Q V.non H',rt:=Q } [some (.ref wd),some (.ref A'.st),some (.ref r),some (.ref a),some (.int ((x.length:Int) - x_1)),none,none,none] H2:=fun {m us} hm hR k=>by
  refine ⟨_,x1,_,ix3,ta,rfl,_,.inr x3,_,hR,_,Z0F us _,_,rfl,?_⟩
  rw [show (F.st.length:Int) - (m:Int)=((F.st.length - m:Nat):Int) by omega]
  subst huz1
  walk_at "rd"
  refine ⟨_,x1,_,ix3,ta,_,rfl,x3,fun t1 H1 z1 c1=>?_⟩
  rw [Z2c] at c1
  exact k t1 H1 z1 c1
 rcases which with ⟨si,wo,m,rfl⟩ | ⟨b,m,rfl⟩
 ·have hR:SqT K H r ([.str "call",.int si,.int wo]++[.int m]):=hrow
  obtain ⟨k,rest,t,b,s3,est,hm,et,fo,en⟩:∃ k rest t b s3,(f'.st.take m).reverse=.th k::rest∧m≤f'.st.length∧s1.made[k]?=some t∧Mach.found P' s1 t.1 si wo=some (b,s3)∧Mach.enter P' s3 f' fs b m=some s2:=by
   simp only [Mach.rowM] at own
   split at own
   ·rename_i k rest est
    split at own
    ·rename_i hm
     obtain ⟨t,et,own⟩:=qc0.mp own
     obtain ⟨⟨b,s3⟩,fo,en⟩:=qc0.mp own
     exact ⟨k,rest,t,b,s3,est,hm,et,fo,en⟩
    ·cases own
   ·cases own
  refine head hm hR fun t1 H1 z1 c1=>?_
  subst huz2
  walk_at "rd"
  refine ⟨_,hR.same z1,_,ix1,?_⟩
  subst huz3
  walk_at "rd"
  have hd:AtVs K H (F.st.drop (F.st.length - m)) (.th k::rest):=by rw [← est,qh7,← le1]; exact Pd.drop _ h2
  obtain ⟨x,us,eD,hx⟩:∃ x us,F.st.drop (F.st.length - m)=x::us∧AtV K H x (.th k):=by
   generalize F.st.drop (F.st.length - m)=ds at hd
   cases hd with
   | cons a b=>exact ⟨_,_,rfl,a⟩
  obtain ⟨tt,rfl,k1,_⟩:=hx
  have c1':=c1
  rw [eD] at c1'
  have M1:=M.same z1
  obtain ⟨ms,m1,m2⟩:=M1.mad
  obtain ⟨u,hu,ut⟩:=Pd.at m2 et
  obtain ⟨ee,ia,inner,rfl,y1,y2,y3⟩:=ut
  refine ⟨_,hR.same z1,_,ix0,rfl,?_⟩
  rw [if_pos rfl]
  refine ⟨_,M1.get.2.1,_,c1',_,ix0,tt,rfl,_,SqT.of (z1 _ _ k1),_,ix1,A'.ta,rfl,_,rfl,_,SqL.of m1,_,Z0C hu,ee,rfl,_,y1,_,ix0,ex,A',P',s1,s3,wd,r,si,wo,m,t.1,b,n,rfl,M1,hw.keep (M.keepS z1),hR.same z1,fo,sz,n1,fun H4 k4 N4=>?_⟩
  obtain ⟨l,g,mm,e3,_⟩:=Mach.found_shape fo
  exact tail (o4:=none) N4 ((M.keepS z1).trans k4) (by rw [e3]; exact ef) (by rw [e3]) en hm (SqT.t c1 k4.t)
 ·have hR:SqT K H r ([.str "straight",.int b]++[.int m]):=hrow
  have hm:=hst b m rfl
  refine head hm hR fun t1 H1 z1 c1=>?_
  subst huz2
  walk_at "rd"
  refine ⟨_,hR.same z1,_,ix1,?_⟩
  subst huz3
  walk_at "rd"
  refine ⟨_,hR.same z1,_,ix0,rfl,?_⟩
  rw [if_neg sne]
  exact tail (o4:=none) (M.same z1) (M.keepS z1) ef rfl own hm c1
end
inductive Z9y (K:y9) (vs:List V) (H:Hp) (Q:VK):Prop
 | mk (ex:y8→Prop) (A:PA) (P:Mach.Prog) (s s':MS) (f:AFr) (fs:List AFr) (a1:vs=[.ref A.st]) (a2:PS K ex A P s H) (a3:s.frames=f::fs) (a4:Mach.rowM P s f fs .back=some s') (a5:(∀ t∈s.made,t.1 < 1000000)) (a6:(∀ g∈fs,g.st.length≤1000)) (a7:fs.length≤1000) (a8:PDo K ex A P H s' .non Q):Z9y K vs H Q
def Z6J (K:y9):Sp:=fun vs H Q _=>Z9y K vs H Q
section
theorem J3C (T:Txt P w K mg O0b O0a O0c) (O0o:Has P w K mg base 1 "_law_ended" ["_law_state","_law_ended_here"] (Z2E K)) (O0s:Has P w K mg base 1 "_law_on" ["_law_state","_law_goal","_law_slots","_law_stack"] (Z4K K)):Has P w K mg base 2 "_law_left" ["_law_state"] (Z6J K):=by
 refine Has.of T.O3e O1w (fun _ _ _ _ _ _ us hl=>el1 us hl fun _=>rfl) (fun vs H Q E h=>?_) (fun f cdv A outer s H vs Q E hr h=>?_)
 ·obtain ⟨ex,A,P,s,s',f,fs,rfl,_⟩:=h
  rfl
 obtain ⟨ex,A',P',s1,s2,f',fs,rfl,M,ef,own,hmd,hfs,lfs,q⟩:=h
 refine ⟨_,(Z0a (qG 1 O1w.nd (qC K (Z4c (r:=rIx K) J5n (Z5f qa6 qk2 qk3 Z7i (qB hr 0)) Z0c (fun _ _=>rfl)) qN))
  (Z0b (Z0t (qM (r:=rNeN K) (Z4W hr.units) (qB hr 0) (Z0s Z0N)) (Z0a (qG 2 O1w.nd (qD K (qB hr 0) qN))
  (Z0b (Z0j (qF O0s hr (Z0r (pvF 0) (qK (qA K 2) (qA K 2) (Z0h (r:=Z2k K) Z0T (qA K 2) (Z0k (qI (pvF 1)))))))))) (Z0b (Z0t (Z3m (Z1R (r:=J3r K) J0v rfl T.O2b Z3A (qJ (pvF 1) (J0x (v:=.ty "tuple") rfl T.O1y Z2p rfl)))) (Z0b (Z0j (qF O0o hr (qJ (pvF 0) (Z0k (qJ Z0g (qC K (qD K (qB hr 0) (qA K 1)) Z0c))))))) (Z0b (Z0j (qF O0o hr (qJ (pvF 0) (Z0k (qJ Z0g (pvF 1)))))))))))),?_⟩
 obtain ⟨ss,a,u1,u2,fa⟩:=M.top ef
 obtain ⟨F,sa,ta,x1,x2,x3,e1,e2,h1,h2,le1,le2⟩:=fa.st
 refine seq2 fun uz1 huz1=>?_
 walk_at "rd"
 obtain ⟨v,rest,est⟩:∃ v rest,f'.st=v::rest:=by
  simp only [Mach.rowM] at own
  split at own
  ·exact ⟨_,_,by assumption⟩
  ·cases own
 rw [est,qa5] at h2
 obtain ⟨ws,x,ew,w1,wx⟩:=Pd.snoc_inv h2
 rw [ew] at x3
 obtain ⟨M1,k1⟩:=M.frames (ss':=ss) (fr:=fs) u2
 have lss:ss.length=fs.length:=by rw [u2.length,qc2]
 have et:(ss++[V.ref a])[(ss++[V.ref a]).length - 1]?=some (.ref a):=by rw [qa1]; show (ss++[V.ref a])[ss.length+1 - 1]?=_; rw [qi6,qd6 (qa0 _),qg3]; rfl
 refine ⟨_,M.get.1,.inl ⟨rfl,_,SqL.of u1⟩,A'.fa,rfl,_,u1,_,et,?_⟩
 rw [qk4]
 have e1':upd H A'.fa (.lst ss) A'.fa=some (.lst ss):=Z0d
 generalize upd H A'.fa (.lst ss)=H1 at M1 k1 e1' ⊢
 refine .inr (.inl ⟨a,_,3,_,rfl,rfl,SqT.t x1 k1.t,ix3,ta,rfl,_,SqT.t x3 k1.t,_,Z0F ws _,?_⟩)
 have wx1:=wx.t k1.t
 subst huz1
 walk_at "rd"
 refine ⟨_,M1.get.1,New.of fun p H2 hp z2 ep=>⟨A'.fa,rfl,_,SqL.of (z2 _ _ e1'),SqL.of ep,?_⟩⟩
 have N2:=M1.same z2
 have kp:=k1.trans (M1.keepS z2)
 have e2':=z2 _ _ e1'
 have endd:∀ {w:Str} {y:V} {e:Mach.End},s2=Mach.ends s1 e→(∀ t H3,Same H2 H3→SqT K H3 t [.str w,y]→EndIs K H3 t e)→New H2 (.tup [.str w,y]) fun p H2=>Z2E K [.ref A'.st,.ref p] H2 (fun _ H1=>Q .non H1) E0:=fun {w y e} es he=>New.of fun t H3 _ z3 e3=>⟨ex,A',P',_,t,e,rfl,N2.same z3,he t H3 z3 (SqT.of e3),fun B H7 b k N7=>q B H7 b (kp.trans ((N2.keepS z3).trans k)) (by rw [es]; exact N7)⟩
 have oth:∀ {R:Hp→Prop} {y:AV},AtV K H1 x y→J2u x=true→s2=Mach.ends s1 (.val y)→J3r K [x,.ty "tuple"] H2 fun x_4 H1=>∃ c,x_4=.bl c∧if c=true then R H1 else New H1 (.tup [.str "value",x]) fun p H2=>Z2E K [.ref A'.st,.ref p] H2 (fun _ H1=>Q .non H1) E0:=fun {R y} hy hn es=>⟨_,rfl,.inr ⟨hn,false,rfl,by rw [if_neg qi1]; exact endd es fun t H3 z h=>⟨_,h,hy.t (Same.t (z2.trans z))⟩⟩⟩
 simp only [Mach.rowM,est] at own
 cases fs with
 | nil=>
  cases ss with
  | cons _ _=>cases lss
  | nil=>
  rw [if_neg (show ¬ ([]:List V).isEmpty=false from qi1)]
  cases v with
  | th k=>
   obtain ⟨t,et,own⟩:=qb6.mp own
   obtain ⟨tt,rfl,c1,_⟩:=wx1.t (Same.t z2)
   obtain ⟨ms,m1,m2⟩:=N2.mad
   obtain ⟨u,hu,ee,ia,inner,rfl,y1,y2,y3⟩:=Pd.at m2 et
   refine ⟨_,rfl,.inl ⟨tt,_,rfl,SqT.of c1,true,rfl,?_⟩⟩
   rw [if_pos rfl]
   exact ⟨_,N2.get.2.1,tt,rfl,_,SqT.of c1,_,ix1,A'.ta,rfl,_,rfl,_,SqL.of m1,_,Z0C hu,ee,rfl,_,y1,_,ix0,endd own.symm fun t' H3 _ h=>⟨h,hmd t (qb9 et)⟩⟩
  | non=>exact oth wx1 (by rw [show x=V.non from wx1]; rfl) (qb7 own).symm
  | bl b=>exact oth wx1 (by rw [show x=V.bl b from wx1]; rfl) (qb7 own).symm
  | int i=>exact oth wx1 (by rw [wx1.1]; rfl) (qb7 own).symm
 | cons g gs=>
  have es:=(qb7 own).symm
  obtain ⟨ss3,a3,v1,v2,fa3⟩:=N2.top rfl
  obtain ⟨F3,sb,tb,y1,y2,y3,f1,f2,g1,g2,l1,l2⟩:=fa3.st
  rw [e2'] at v1
  cases v1
  rw [if_pos (show (ss3++[V.ref a3]).isEmpty=false by cases ss3 <;> rfl)]
  have lg:=hfs g qb5
  refine ⟨_,N2.get.1,A'.fa,rfl,_,SqL.of e2',_,Z0F ss3 _,a3,rfl,_,y1,_,ix1,a3,rfl,_,y1,_,ix2,a3,rfl,_,y1,_,ix3,New.of fun t3 H3 _ z3 e3=>⟨tb,t3,_,_,rfl,rfl,y3.same z3,SqT.of e3,?_,fun t4 H4 z4 c4=>?_⟩⟩
  ·rw [l1,sizeLine_eq]; show _+1≤_; omega
  have Z:=z3.trans z4
  refine ⟨ex,A',P',{ s1 with frames:=g::gs },g,gs,g.pc,sb,t4,_,_,g.sl,v::g.st,rfl,N2.same Z,rfl,y2.same Z,AtVs.t g1 (Same.t Z),c4,?_,fun B H7 b k N7=>q B H7 b (kp.trans ((N2.keepS Z).trans k)) (by rw [es]; exact N7)⟩
  rw [qa5]
  exact Paired.appendP (AtVs.t g2 (Same.t Z)) (.cons (wx1.t (Same.t (z2.trans Z))) .nil)
end
inductive Z9Y (K:y9) (vs:List V) (H:Hp) (Q:VK):Prop
 | mk (ex:y8→Prop) (A:PA) (P:Mach.Prog) (s s':MS) (wd:y8) (n:Nat) (a1:vs=[.ref wd,.ref A.st]) (a2:PS K ex A P s H) (a3:WK K ex P wd H) (a4:Mach.step P s=some s') (a5:(∀ f fs b m,s.frames=f::fs→Mach.row? P f=some (.straight b m)→m≤f.st.length)) (a6:s.calls≤P.most) (a7:s.frames.length≤41) (a8:Mach.Sz n s) (a9:n≤900) (a10:Mach.PSz P) (a11:PDo K ex A P H s' .non Q):Z9Y K vs H Q
def J2U (K:y9):Sp:=fun vs H Q _=>Z9Y K vs H Q
section
theorem J4a (T:Txt P w K mg O0b O0a O0c) (O0o:Has P w K mg base 1 "_law_ended" ["_law_state","_law_ended_here"] (Z2E K)) (O0s:Has P w K mg base 1 "_law_on" ["_law_state","_law_goal","_law_slots","_law_stack"] (Z4K K)) (O3p:Has P w K mg base 1 "_law_two" ["_law_word","_law_one","_law_other"] (Z9u K)) (O2l:Has P w K mg base 2 "_law_plain_row" ["_law_state","_law_row","_law_frame"] (Z7M K)) (O2m:Has P w K mg base 2 "_law_thing_row" ["_law_state","_law_row","_law_frame"] (Z6G K)) (O3h:Has P w K mg base 2 "_law_left" ["_law_state"] (Z6J K)) (O2C:Has P w K mg base 2 "_law_entered" ["_law_world_here","_law_state","_law_row","_law_frame"] (Z5B K)):Has P w K mg base 3 "_law_next" ["_law_world_here","_law_state"] (J2U K):=by
 refine Has.of T.O3f O1g (fun _ _ _ _ _ _ us hl=>el2 us hl fun _ _=>rfl) (fun vs H Q E h=>?_) (fun f cdv A outer s H vs Q E hr h=>?_)
 ·obtain ⟨ex,A,P,s,s',wd,n,rfl,_⟩:=h
  rfl
 obtain ⟨ex,A',P',s1,s2,wd,n,rfl,M,hw,st,hst,hcm,h41,sz,n9,psz,q⟩:=h
 refine ⟨_,(Z0a (qG 2 O1g.nd (qD K (qB hr 1) qN))
  (Z0a (qG 3 O1g.nd (qC K (qC K (qD K (qB hr 0) (qA K 2)) Z0c) (qA K 2)))
  (Z0a (Z1V (Z3k hr) (pvF 1) Z0g (Z0h Z0x (qB hr 1) Z0c) rfl)
  (Z0b (Z0t (Z5q (r:=rIn K false) Z4s (qA K 3) (Z0k (qJ Z0g Z0g)) (by with_unfolding_all rfl)) (Z0b (Z0j (qF O2C hr (Z0r (pvF 0) (qK (pvF 1) (pvF 3) (pvF 2)))))) (Z0b (Z0t (qM Z0B (qA K 3) Z0g) (Z0b (Z0j (qF O3h hr (qI (pvF 1))))) (Z0b (Z0t (Z5q (r:=rIn K false) Z4s (qA K 3) (Z0k (qK Z0g Z0g Z0g)) (by with_unfolding_all rfl)) (Z0b (Z0j (qF O2m hr (qK (pvF 1) (pvF 3) (pvF 2))))) (Z0b (Z0t (Z5q (r:=rIn K false) Z4s (qA K 3) (Z0k (Z0r Z0g (Z0r Z0g (Z0r Z0g (qK Z0g Z0g Z0g))))) (by with_unfolding_all rfl)) (Z0a (qG 4 O1g.nd (qF O3p hr (qK (qA K 3) (qC K (qA K 2) qN) (qC K (qA K 2) qN))))
  (Z0b (Z0t (qM Z0B (qA K 4) Z0g) (Z0b (Z0j (qF O0o hr (qJ (pvF 1) (pvF 4))))) (Z0b (Z0j (qF O0s hr (Z0r (pvF 1) (qK (Z0h Z0x (qA K 2) Z0c) (qA K 2) (Z0h (r:=Z2k K) Z0T (Z0y (r:=rSlA K) Z0P (qA K 2) Z0E (Z0D qN)) (Z0k (qI (qA K 4)))))))))))) (Z0b (Z0j (qF O2l hr (qK (pvF 1) (pvF 3) (pvF 2)))))))))))))))),?_⟩
 obtain ⟨f',fs,row,ef,er,own⟩:∃ f fs r,s1.frames=f::fs∧Mach.row? P' f=some r∧Mach.rowM P' { s1 with rows:=s1.rows+1 } f fs r=some s2:=by
  unfold Mach.step at st
  split at st
  ·rename_i f fs _ e
   obtain ⟨r,h1,h2⟩:=qc0.mp st
   exact ⟨f,fs,r,e,h1,h2⟩
  ·cases st
 obtain ⟨ss,a,u1,u2,fa⟩:=M.top ef
 obtain ⟨F,sa,ta,x1,x2,x3,e1,e2,h1,h2,le1,le2⟩:=fa.st
 refine seq4 fun uz3 huz3 uz2 huz2 uz1 huz1=>?_
 walk_at "rd"
 have wr:=let ⟨bl,tb,nl,nums,h⟩:=hw; (⟨bl,tb,nl,nums,h H (Keep.refl _)⟩:∃ bl tb nl nums,WR K H wd bl tb nl P'.blocks P'.tables nums)
 obtain ⟨bl,tb,nl,nums,wr⟩:=wr
 obtain ⟨bk,hbk,hpc⟩:=qc0.mp er
 obtain ⟨bs,b1,b2⟩:=wr.bb
 obtain ⟨v,hv,ba,ra,rs,rfl,y1,y2,y3⟩:=Pd.at b2 hbk
 obtain ⟨v,hr2,r,rfl,hrow⟩:=Pd.at y3 hpc
 refine ⟨_,M.get.1,A'.fa,rfl,_,SqL.of u1,_,Z0F ss _,?_⟩
 subst huz1
 walk_at "rd"
 refine ⟨_,wr.get.1,_,x1,_,ix0,bl,rfl,_,rfl,_,SqL.of b1,_,Z0C hv,ba,rfl,_,y1,_,ix2,_,x1,_,ix1,ra,rfl,_,rfl,_,y2,_,Z0C hr2,?_⟩
 subst huz2
 walk_at "rd"
 obtain ⟨e0,x0,he0⟩:=M.d
 obtain ⟨N,k,_⟩:=M.set (s':={ s1 with rows:=s1.rows+1 }) (e:=e0) rfl rfl (qa0 _) rfl he0
 refine ⟨_,M.get.2.2.2.2.2.1,_,rfl,_,DPut.k (k:=.inr "rows") x0 (by rw [sizeLine_eq]; show 10 < _; omega),?_⟩
 have N':PS K ex A' P' { s1 with rows:=s1.rows+1 } (upd H A'.st (.dK (kvP A' P' e0 s1.calls s1.looks s1.hits (s1.rows+1)))):=N
 have k':Keep ex H (upd H A'.st (.dK (kvP A' P' e0 s1.calls s1.looks s1.hits (s1.rows+1)))):=k
 show uz3 _ _ (upd H A'.st (.dK (kvP A' P' e0 s1.calls s1.looks s1.hits (s1.rows+1))))
 clear N k
 generalize upd H A'.st (.dK (kvP A' P' e0 s1.calls s1.looks s1.hits (s1.rows+1)))=H1 at N' k' ⊢
 have hrow1:RowAt K H1 r row:=hrow.t k'.t
 have fa1:FrIs K H1 a f':=fa.t k'.t
 have szf:=sz.fr' ef
 have szr:=sz.rest ef
 have lfs:fs.length≤40:=by rw [ef] at h41; have:fs.length+1≤41:=h41; omega
 have sz1:Mach.Sz n { s1 with rows:=s1.rows+1 }:=⟨sz.fr,sz.fl,sz.md,sz.mi,sz.lh,sz.mm⟩
 have PD:∀ {H2:Hp},Same H1 H2→PDo K ex A' P' H2 s2 .non Q:=fun z B H3 b k N3=>q B H3 b (k'.trans ((N'.keepS z).trans k)) N3
 subst huz3
 walk_at "rd"
 have nf:∀ {b:Bool},b=false→¬ b=true:=fun h z=>by rw [h] at z; cases z
 have lent:∀ {H2:Hp},Same H1 H2→((∃ si w m,row=.call si w m)∨∃ b m,row=.straight b m)→Z5B K [.ref wd,.ref A'.st,.ref r,.ref a] H2 (fun _ H1=>Q .non H1) E0:=fun z hh=>⟨ex,A',P',_,s2,f',fs,wd,r,a,row,n,rfl,N'.same z,(hw.keep k').keep (N'.keepS z),ef,fa1.t (Same.t z),hrow1.t (Same.t z),hh,own,fun b m e=>hst f' fs b m ef (by rw [← e]; exact er),hcm,lfs,sz1,qR,psz,PD z⟩
 by_cases hp:isPl row=true
 ·obtain ⟨nm,args,hnm,c1,c2,c3,c4⟩:∃ nm args,SqT K H1 r (.str nm::args)∧inV (.str nm) [.str "call",.str "straight"]=false∧(¬ V.str nm=.str "back")∧inV (.str nm) [.str "make",.str "get",.str "put"]=false∧inV (.str nm) [.str "add",.str "sub",.str "mul",.str "div",.str "less",.str "same"]=false:=by
   cases row with
   | push v=>obtain ⟨x,h,_⟩:=hrow1; exact ⟨_,_,h,qP,sne,qP,qP⟩
   | load i=>exact ⟨_,_,hrow1,qP,sne,qP,qP⟩
   | nt=>exact ⟨_,_,hrow1,qP,sne,qP,qP⟩
   | keep i=>exact ⟨_,_,hrow1,qP,sne,qP,qP⟩
   | drop=>exact ⟨_,_,hrow1,qP,sne,qP,qP⟩
   | skip i=>exact ⟨_,_,hrow1,qP,sne,qP,qP⟩
   | unl i=>exact ⟨_,_,hrow1,qP,sne,qP,qP⟩
   | _=>cases hp
  refine ⟨_,hnm,_,ix0,New.of fun t2 H2 _ z2 d2=>⟨_,.inr (SqT.of d2),rfl,rfl,?_⟩⟩
  rw [if_neg (nf c1)]
  refine ⟨_,hnm.same z2,_,ix0,rfl,?_⟩
  rw [if_neg c2]
  refine ⟨_,hnm.same z2,_,ix0,New.of fun t3 H3 _ z3 d3=>⟨_,.inr (SqT.of d3),rfl,rfl,?_⟩⟩
  rw [if_neg (nf c3)]
  refine ⟨_,hnm.same (z2.trans z3),_,ix0,New.of fun t4 H4 _ z4 d4=>⟨_,.inr (SqT.of d4),rfl,rfl,?_⟩⟩
  rw [if_neg (nf c4)]
  have Z:=z2.trans (z3.trans z4)
  obtain ⟨o,ho,g,rfl,es⟩:∃ o,Mach.own f' s1.made row=some o∧∃ g,o=.inl g∧s2={ s1 with rows:=s1.rows+1,frames:=g::fs }:=by
   have hi:Z8L row=true:=by cases row <;> first | rfl | cases hp
   obtain ⟨o,ho,h⟩:=Z5H hi own
   rcases h with ⟨g,e,h⟩ | ⟨e,eo,_⟩
   ·exact ⟨o,ho,g,e,h⟩
   ·rw [eo] at ho
    cases row with
    | push v=>cases ho
    | load i=>obtain ⟨_,_,h⟩:=qb6.mp ho; cases h
    | nt=>simp only [Mach.own] at ho; split at ho <;> cases ho
    | keep i=>simp only [Mach.own] at ho; split at ho <;> (try split at ho) <;> cases ho
    | drop=>simp only [Mach.own] at ho; split at ho <;> cases ho
    | skip i=>cases ho
    | unl i=>simp only [Mach.own] at ho; split at ho <;> cases ho
    | _=>cases hp
  exact ⟨ex,A',P',_,f',g,fs,r,a,row,rfl,N'.same Z,ef,fa1.t (Same.t Z),qR,qR,hrow1.t (Same.t Z),hp,ho,by rw [← es]; exact PD Z⟩
 have thg:∀ {nm:Str} {args:List V} {R:V→Hp→Prop},SqT K H1 r (.str nm::args)→inV (.str nm) [.str "call",.str "straight"]=false→(¬ V.str nm=.str "back")→inV (.str nm) [.str "make",.str "get",.str "put"]=true→((∃ h m,row=.make h m)∨(∃ pl,row=.get pl)∨∃ pl,row=.put pl)→IxT K r 0 H1 fun x H1=>New H1 (.tup [.str "call",.str "straight"]) fun p H2=>∃ x_1,(SqL K H2 p x_1∨SqT K H2 p x_1)∧Z3H x=true∧x_1.all Z3H=true∧if inV x x_1=true then Z5B K [.ref wd,.ref A'.st,.ref r,.ref a] H2 (fun _ H1=>Q .non H1) E0 else IxT K r 0 H2 fun x H1=>scal x (.str "back")=true∧if x=.str "back" then Z6J K [.ref A'.st] H1 (fun _ H1=>Q .non H1) E0 else IxT K r 0 H1 fun x H1=>New H1 (.tup [.str "make",.str "get",.str "put"]) fun p H2=>∃ x_1,(SqL K H2 p x_1∨SqT K H2 p x_1)∧Z3H x=true∧x_1.all Z3H=true∧if inV x x_1=true then Z6G K [.ref A'.st,.ref r,.ref a] H2 (fun _ H1=>Q .non H1) E0 else R x H2:=fun {nm args R} hnm c1 c2 c3 hh=>by
  refine ⟨_,hnm,_,ix0,New.of fun t2 H2 _ z2 d2=>⟨_,.inr (SqT.of d2),rfl,rfl,?_⟩⟩
  rw [if_neg (nf c1)]
  refine ⟨_,hnm.same z2,_,ix0,rfl,?_⟩
  rw [if_neg c2]
  refine ⟨_,hnm.same z2,_,ix0,New.of fun t3 H3 _ z3 d3=>⟨_,.inr (SqT.of d3),rfl,rfl,?_⟩⟩
  rw [if_pos c3]
  have Z:=z2.trans z3
  exact ⟨ex,A',P',_,s2,f',fs,r,a,row,rfl,N'.same Z,ef,fa1.t (Same.t Z),qR,by have:=sz.md; show s1.made.length≤_; omega,fun t ht=>by have:=(sz.mi t ht).1; omega,hrow1.t (Same.t Z),hh,own,PD Z⟩
 cases row with
 | call si w m=>
  refine ⟨_,hrow1,_,ix0,New.of fun t2 H2 _ z2 c2=>⟨_,.inr (SqT.of c2),rfl,rfl,?_⟩⟩
  rw [if_pos qP]
  exact lent z2 (.inl ⟨_,_,_,rfl⟩)
 | straight b m=>
  refine ⟨_,hrow1,_,ix0,New.of fun t2 H2 _ z2 c2=>⟨_,.inr (SqT.of c2),rfl,rfl,?_⟩⟩
  rw [if_pos qP]
  exact lent z2 (.inr ⟨_,_,rfl⟩)
 | back=>
  refine ⟨_,hrow1,_,ix0,New.of fun t2 H2 _ z2 c2=>⟨_,.inr (SqT.of c2),rfl,rfl,?_⟩⟩
  rw [if_neg qP]
  refine ⟨_,SqT.same hrow1 z2,_,ix0,rfl,?_⟩
  rw [if_pos rfl]
  exact ⟨ex,A',P',_,s2,f',fs,rfl,N'.same z2,ef,own,fun t ht=>by have:=(sz.mi t ht).2; omega,fun g hg=>by have:=(szr.1 g hg).1; omega,qR,PD z2⟩
 | two g=>
  have hR:SqT K H1 r [.str (sgN g)]:=hrow1
  obtain ⟨d1,d2,d3,d4⟩:inV (.str (sgN g)) [.str "call",.str "straight"]=false∧(¬ V.str (sgN g)=.str "back")∧inV (.str (sgN g)) [.str "make",.str "get",.str "put"]=false∧inV (.str (sgN g)) [.str "add",.str "sub",.str "mul",.str "div",.str "less",.str "same"]=true:=by
   cases g <;> exact ⟨qP,sne,qP,qP⟩
  refine ⟨_,hR,_,ix0,New.of fun t2 H2 _ z2 c2=>⟨_,.inr (SqT.of c2),rfl,rfl,?_⟩⟩
  rw [if_neg (nf d1)]
  refine ⟨_,hR.same z2,_,ix0,rfl,?_⟩
  rw [if_neg d2]
  refine ⟨_,hR.same z2,_,ix0,New.of fun t3 H3 _ z3 c3=>⟨_,.inr (SqT.of c3),rfl,rfl,?_⟩⟩
  rw [if_neg (nf d3)]
  refine ⟨_,hR.same (z2.trans z3),_,ix0,New.of fun t4 H4 _ z4 c4=>⟨_,.inr (SqT.of c4),rfl,rfl,?_⟩⟩
  rw [if_pos d4]
  have Z:=z2.trans (z3.trans z4)
  obtain ⟨o,ho,hh⟩:=Z5H (row:=.two g) rfl own
  simp only [Mach.own] at ho
  split at ho
  case h_2=>cases ho
  rename_i y x st est
  obtain ⟨rr,htw,ho⟩:=qb6.mp ho
  have h2':=AtVs.t h2 (k'.t.trans (Same.t Z))
  rw [est,qa5,qa5] at h2'
  obtain ⟨ws1,vy,ew1,w1,wy⟩:=Pd.snoc_inv h2'
  obtain ⟨ws,vx,ew,w2,wx⟩:=Pd.snoc_inv w1
  have eF:F.st=ws++[vx,vy]:=by rw [ew1,ew,qc7]; rfl
  have x1z:=SqT.same (SqT.t x1 k'.t) Z
  have x3z:=SqT.same (SqT.t x3 k'.t) Z
  have lF:F.st.length≤900:=by omega
  rw [eF] at x3z lF
  rw [qa1] at lF
  have lw:ws.length+2≤900:=lF
  have x3y:SqT K H4 ta ((ws++[vx])++[vy]):=by rw [qc7]; exact x3z
  refine ⟨_,hR.same Z,_,ix0,_,x1z,_,ix3,ta,rfl,_,x3z,_,J2a _ _ _,_,x1z,_,ix3,ta,rfl,_,x3y,_,Z0F _ _,g,vx,vy,x,y,rr,rfl,wx,wy,htw,fun t5 H5 z5 hr5=>⟨t5,rfl,?_⟩⟩
  have Z5:=Z.trans z5
  cases rr with
  | inr e=>
   obtain ⟨w,c5,he⟩:=hr5
   refine ⟨_,c5,_,ix0,rfl,?_⟩
   rw [if_pos rfl]
   rcases hh with ⟨g',e',_⟩ | ⟨e2,e',es⟩
   ·rw [← ho] at e'; cases e'
   ·rw [← ho] at e'
    cases e'
    exact ⟨ex,A',P',_,t5,e,rfl,N'.same Z5,he,by rw [← es]; exact PD Z5⟩
  | inl v=>
   obtain ⟨u,c5,hu⟩:=hr5
   refine ⟨_,c5,_,ix0,rfl,?_⟩
   rw [if_neg sne]
   have x1y:=x1z.same z5
   refine ⟨_,x1y,_,ix1,_,rfl,_,x1y,_,ix2,_,x1y,_,ix3,ta,_,rfl,x3z.same z5,fun t6 H6 z6 c6=>⟨t5,rfl,_,c5.same z6,_,ix1,New.of fun t7 H7 _ z7 c7=>⟨t6,t7,_,_,rfl,rfl,c6.same z7,SqT.of c7,?_,fun t8 H8 z8 c8=>?_⟩⟩⟩
   ·rw [Z7R,sizeLine_eq]; show _+1≤_; omega
   rw [Z7R] at c8
   have Z8:=z5.trans (z6.trans (z7.trans z8))
   have ZZ:=Z.trans Z8
   rcases hh with ⟨g',e',es⟩ | ⟨e2,e',_⟩
   ·rw [← ho] at e'
    cases e'
    exact ⟨ex,A',P',_,f',fs,f'.pc+1,sa,t8,_,_,f'.sl,v::st,rfl,N'.same ZZ,ef,SqT.same (SqT.t x2 k'.t) ZZ,AtVs.t h1 (k'.t.trans (Same.t ZZ)),c8,by rw [qa5]; exact Paired.appendP (AtVs.t w2 (Same.t Z8)) (.cons (hu.t (Same.t (z6.trans (z7.trans z8)))) .nil),by rw [← es]; exact PD ZZ⟩
   ·rw [← ho] at e'; cases e'
 | make h m=>exact thg hrow1 qP sne qP (.inl ⟨_,_,rfl⟩)
 | get pl=>exact thg hrow1 qP sne qP (.inr (.inl ⟨_,rfl⟩))
 | put pl=>exact thg hrow1 qP sne qP (.inr (.inr ⟨_,rfl⟩))
 | _=>exact absurd rfl hp
end
inductive Z7j (K:y9) (vs:List V) (H:Hp) (Q:VK):Prop
 | mk (wd bl tb nl:y8) (bks:List Blk) (tabs:List (List (Option Nat))) (nums:List Int) (front:List Blk) (b:Blk) (mo:Nat) (re:Bool) (a1:vs=[.ref wd,.int mo,.bl re]) (a2:WR K H wd bl tb nl bks tabs nums) (a3:(∀ n∈nums,Bd n)) (a4:bks=front++[b]) (a5:nums.length≤b.size) (a6:b.size < 900) (a7:bks.length < 900) (a8:∀ A H',Same H H'→PS K (fun a=>H a≠none) A ⟨bks,tabs,mo,re⟩ (Z6A b front.length nums) H'→Q (.ref A.st) H'):Z7j K vs H Q
def J1U (K:y9):Sp:=fun vs H Q _=>Z7j K vs H Q
inductive J2K (K:y9) (vs:List V) (H:Hp) (Q:VK):Prop
 | mk (ex:y8→Prop) (A:PA) (P:Mach.Prog) (s:MS) (a1:vs=[.ref A.st]) (a2:PS K ex A P s H) (a3:∀ l f t H',Same H H'→J2W K H H' s l f t→Q (.ref l) H'):J2K K vs H Q
def J4N (K:y9):Sp:=fun vs H Q _=>J2K K vs H Q
section
theorem J1C (T:Txt P w K mg O0b O0a O0c):Has P w K mg base 1 "_law_begun" ["_law_world_here","_law_most","_law_keeps"] (J1U K):=by
 refine Has.of T.O2R O0W (fun _ _ _ _ _ _ us hl=>el3 us hl fun _ _ _=>rfl) (fun vs H Q E h=>?_) (fun f cdv A outer s H vs Q E hr h=>?_)
 ·obtain ⟨wd,bl,tb,nl,bks,tabs,nums,front,b,mo,re,rfl,_⟩:=h
  rfl
 obtain ⟨wd,bl,tb,nl,bks,tabs,nums,front,b,mo,re,rfl,hw,bd,eb,l1,l2,l3,q⟩:=h
 refine ⟨_,(Z0a (qG 3 O0W.nd (Z0h Z1n (qL T.z_len (qI (qB hr 0))) Z0c))
  (Z0a (qG 4 O0W.nd (Z0h (r:=Z2k K) Z0T (Z0H Z1k rfl T.O1y Z2p (qI (qB hr 0))) (Z0h (r:=J1w K) Z6Y (Z0k (qI Z1d)) (Z0h Z1n (qC K (qD K (qB hr 0) qN) Z0c) (qL T.z_len (qI (qB hr 0)))))))
  (Z0a (qG 5 O0W.nd (Z4F (Z0I Z0g (Z0s (qI (Z0k (Z0r (pvF 3) (qK Z0c (pvF 4) (Z0k Z0N)))))) (Z0I Z0g (Z0s Z0N) (Z0I Z0g Z1d (Z0I Z0g Z0c (Z0I Z0g Z0c (Z0I Z0g Z0c Z4x)))))) rfl rfl (by exact qj0 _ _) qS))
  (Z0a (Z0j (J0e (pvF 5) (Z4F (Z0I Z0g Z0c (Z0I Z0g Z5F (Z0I Z0g (pvF 1) (Z0I Z0g (pvF 2) Z4x)))) rfl rfl (by exact qj0 _ _) qS) ⟨rfl,rfl,rfl,rfl⟩))
  (Z0b (Z0n (pvF 5))))))),?_⟩
 refine seq5 fun uz4 huz4 uz3 huz3 uz2 huz2 uz1 huz1=>?_
 walk_at "rd"
 obtain ⟨bs,b1,b2⟩:=hw.bb
 have b2':=b2
 rw [eb] at b2'
 obtain ⟨us,v,ebs,u2,ba,ra,rs,rfl,y1,y2,y3⟩:=Pd.snoc_inv b2'
 have lbs:bs.length=front.length+1:=by rw [b2.length,eb,qa1]; rfl
 refine ⟨_,hw.get.1,bl,rfl,_,.inl (SqL.of b1),?_⟩
 rw [lbs,show ((front.length+1:Nat):Int) - 1=(front.length:Int) by omega]
 subst huz1
 walk_at "rd"
 refine ⟨_,hw.get.2.2,nl,rfl,_,.inl ⟨SqL.of hw.nn,fun l hl=>?_⟩⟩
 have z1:=Z0f hl (.tup (nums.map V.int))
 have e1:upd H l (.tup (nums.map V.int)) l=some (.tup (nums.map V.int)):=Z0d
 generalize upd H l (.tup (nums.map V.int))=H1 at z1 e1 ⊢
 refine New.of fun t2 H2 _ z2 e2=>?_
 have Z2:=z1.trans z2
 have hw2:=hw.same Z2
 refine ⟨_,hw2.get.1,bl,rfl,_,SqL.of (Z2 _ _ b1),_,by rw [ebs]; exact Z0F us _,ba,rfl,_,y1.same Z2,_,ix1,_,hw2.get.2.2,nl,rfl,_,.inl (SqL.of hw2.nn),_,rfl,?_⟩
 rw [qa2,show ((b.size:Int) - (nums.length:Int))=((b.size - nums.length:Nat):Int) by omega]
 refine ⟨t2,_,_,rfl,rfl,SqT.of e2,(fun z=>by cases z),qR,qR,by rw [sizeLine_eq,qd0]; show 1 * _≤_; omega,fun t3 H3 z3 c3=>⟨l,t3,_,_,rfl,rfl,SqT.of ((z2.trans z3) _ _ e1),c3,?_,fun t4 H4 z4 c4=>?_⟩⟩
 ·rw [qd0,qi0,qd3,qa2,sizeLine_eq]; omega
 rw [qd0,qi0] at c4
 have Z4:=Z2.trans (z3.trans z4)
 subst huz2
 walk_at "rd"
 refine New.of fun p H5 h5 z5 e5=>New.of fun q1 H6 _ z6 e6=>New.of fun q2 H7 _ z7 e7=>New.of fun fa H8 h8 z8 e8=>New.of fun ta H9 h9 z9 e9=>?_
 have hp9:=(z6.trans (z7.trans (z8.trans z9))) _ _ e5
 refine ⟨hp9,[(.inr "frames",.ref fa),(.inr "things",.ref ta),(.inr "answer",.non),(.inr "calls",.int 0),(.inr "looks",.int 0),(.inr "hits",.int 0)],rfl,by show 6≤15; omega,?_⟩
 have Z9:Same H4 H9:=z5.trans (z6.trans (z7.trans (z8.trans z9)))
 have np:∀ {x:y8} {o:HO},H4 x=some o→x≠p:=fun e z=>by rw [z,h5] at e; cases e
 have nl:∀ {x:y8} {o:HO},H9 x=some o→(∀ k,o≠.dK k)→x≠p:=fun e n z=>by rw [z,hp9] at e; cases e; exact n _ rfl
 have ea:upd H9 p (.dK (Z0X [] [(.inr "frames",.ref fa),(.inr "things",.ref ta),(.inr "answer",.non),(.inr "calls",.int 0),(.inr "looks",.int 0),(.inr "hits",.int 0)])) p=some (.dK [(.inr "frames",.ref fa),(.inr "things",.ref ta),(.inr "answer",.non),(.inr "calls",.int 0),(.inr "looks",.int 0),(.inr "hits",.int 0)]):=Z0d
 have ka:∀ {x:y8} {o:HO},H9 x=some o→x≠p→upd H9 p (.dK (Z0X [] [(.inr "frames",.ref fa),(.inr "things",.ref ta),(.inr "answer",.non),(.inr "calls",.int 0),(.inr "looks",.int 0),(.inr "hits",.int 0)])) x=some o:=fun e n=>by rw [Z0e n]; exact e
 generalize upd H9 p (.dK (Z0X [] [(.inr "frames",.ref fa),(.inr "things",.ref ta),(.inr "answer",.non),(.inr "calls",.int 0),(.inr "looks",.int 0),(.inr "hits",.int 0)]))=Ha at ea ka ⊢
 have SA:Same H Ha:=fun x o e=>ka (Z9 _ _ (Z4 _ _ e)) (np (Z4 _ _ e))
 have tA:∀ {x:y8} {xs:List V},H9 x=some (.tup xs)→Ha x=some (.tup xs):=fun e=>ka e (nl e fun k z=>by cases z)
 have lA:∀ {x:y8} {xs:List V},H9 x=some (.lst xs)→Ha x=some (.lst xs):=fun e=>ka e (nl e fun k z=>by cases z)
 have f7:=tA ((z8.trans z9) _ _ e7)
 have f6:=tA ((z7.trans (z8.trans z9)) _ _ e6)
 have f8:=lA (z9 _ _ e8)
 have f9:=lA e9
 have c4a:SqT K Ha t4 (nums.map V.int++qa3 (b.size - nums.length) V.non):=SqT.t (SqT.same c4 Z9) fun c xs=>⟨fun e=>tA e,fun o e=>ka e (nl e fun k z=>by cases z)⟩
 subst huz3
 walk_at "rd"
 refine ⟨.inl ⟨_,.inl ea⟩,New.of fun p8 Hb hb zb eb'=>fun p9 hc=>?_⟩
 have zc:=Z0f hc (.dK [])
 have ec:upd Hb p9 (.dK []) p9=some (.dK []):=Z0d
 generalize upd Hb p9 (.dK [])=Hc at zc ec ⊢
 refine ⟨zc _ _ eb',[(.inr "rows",.int 0),(.inr "places",.ref p9),(.inr "most",.int mo),(.inr "remembers",.bl re)],rfl,by show 4≤15; omega,?_⟩
 have n89:p9≠p8:=fun z=>by rw [z,eb'] at hc; cases hc
 have npp:p≠p8:=fun z=>by rw [← z,ea] at hb; cases hb
 have np9:p≠p9:=fun z=>by rw [← z,zb _ _ ea] at hc; cases hc
 have ed:upd Hc p8 (.dK (Z0X [] [(.inr "rows",.int 0),(.inr "places",.ref p9),(.inr "most",.int mo),(.inr "remembers",.bl re)])) p8=some (.dK [(.inr "rows",.int 0),(.inr "places",.ref p9),(.inr "most",.int mo),(.inr "remembers",.bl re)]):=Z0d
 have kd:∀ {x:y8} {o:HO},Ha x=some o→upd Hc p8 (.dK (Z0X [] [(.inr "rows",.int 0),(.inr "places",.ref p9),(.inr "most",.int mo),(.inr "remembers",.bl re)])) x=some o:=fun e=>by rw [Z0e (fun z=>by rw [z,hb] at e; cases e)]; exact (zb.trans zc) _ _ e
 have e9d:upd Hc p8 (.dK (Z0X [] [(.inr "rows",.int 0),(.inr "places",.ref p9),(.inr "most",.int mo),(.inr "remembers",.bl re)])) p9=some (.dK []):=by rw [Z0e n89]; exact ec
 generalize upd Hc p8 (.dK (Z0X [] [(.inr "rows",.int 0),(.inr "places",.ref p9),(.inr "most",.int mo),(.inr "remembers",.bl re)]))=Hd at ed kd e9d ⊢
 refine ⟨_,kd ea,_,ed,npp,by show 10≤_; omega,?_⟩
 subst huz4
 walk_at "rd"
 have SD:Same Ha Hd:=fun x o e=>kd e
 have hd:=kd ea
 have te:=Z1I (.dK (kvP ⟨p,fa,ta,p9⟩ ⟨bks,tabs,mo,re⟩ .non 0 0 0 0)) hd Z5W
 have ke:∀ {x:y8} {o:HO},Hd x=some o→x≠p→upd Hd p (.dK (kvP ⟨p,fa,ta,p9⟩ ⟨bks,tabs,mo,re⟩ .non 0 0 0 0)) x=some o:=fun e n=>by rw [Z0e n]; exact e
 have nfl:∀ {x:y8} {xs:List V},Ha x=some (.lst xs)→x≠p:=fun e z=>by rw [z,ea] at e; cases e
 have hp0:H p=none:=Z0z Z4 h5
 have hx:∀ {x:y8},H x=none→¬ (H x≠none):=fun e z=>z e
 have fv:FrV K (upd Hd p (.dK (kvP ⟨p,fa,ta,p9⟩ ⟨bks,tabs,mo,re⟩ .non 0 0 0 0))) (.ref q2) ⟨front.length,0,nums.map AV.int++qa3 (b.size - nums.length) .non,[]⟩:=⟨q2,rfl,⟨.int front.length,0,_,[]⟩,⟨t4,q1,SqT.t (SqT.of (SD _ _ f7)) te,SqT.t (c4a.same SD) te,SqT.t (SqT.of (SD _ _ f6)) te⟩,rfl,rfl,Paired.appendP (Z6P bd) (Z5A _),.nil⟩
 refine q ⟨p,fa,ta,p9⟩ (upd Hd p (.dK (kvP ⟨p,fa,ta,p9⟩ ⟨bks,tabs,mo,re⟩ .non 0 0 0 0))) (fun x o e=>ke (SD _ _ (SA _ _ e)) (np (Z4 _ _ e))) ⟨⟨.non,Z0d,rfl⟩,⟨[],ke e9d np9.symm,qa0 _,fun k=>rfl⟩,⟨[.ref q2],ke (SD _ _ f8) (nfl f8),.cons fv .nil⟩,⟨[],ke (SD _ _ f9) (nfl f9),.nil⟩,ne0 e8 h9,np9.symm,⟨hx hp0,hx (Z0z (SA.trans zb) hc),hx (Z0z (Z4.trans (z5.trans (z6.trans z7))) h8),hx (Z0z (Z4.trans (z5.trans (z6.trans (z7.trans z8)))) h9)⟩,fun x h=>?_⟩
 obtain ⟨o,e⟩:=qc9.mp h
 rw [ke (SD _ _ (SA _ _ e)) (np (Z4 _ _ e))]
 exact fun z=>by cases z
theorem J4u (T:Txt P w K mg O0b O0a O0c):Has P w K mg base 1 "_law_due" ["_law_state"] (J4N K):=by
 refine Has.of T.O3o O2n (fun _ _ _ _ _ _ us hl=>el1 us hl fun _=>rfl) (fun vs H Q E h=>?_) (fun f cdv A outer s H vs Q E hr h=>?_)
 ·obtain ⟨ex,A,P,s,rfl,_⟩:=h
  rfl
 obtain ⟨ex,A',P',s1,rfl,M,q⟩:=h
 refine ⟨_,(Z0a (qG 1 O2n.nd (Z0s (qK (Z0H Z0L rfl T.O1G Z2w (qI (qB hr 0))) (Z0H Z0L rfl T.O1G Z2w (qI (qB hr 0))) (qB hr 0))))
  (Z0b (Z0n (Z0h Z1Y (pvF 1) (Z0s (Z0r (qB hr 0) (qK (qB hr 0) (qB hr 0) (qB hr 0)))))))),?_⟩
 walk_at "rd"
 obtain ⟨ss,u1,u2⟩:=M.stk
 obtain ⟨ms,v1,v2⟩:=M.mad
 refine ⟨_,M.get.1,A'.fa,rfl,_,.inl (SqL.of u1),fun f hf=>?_⟩
 have z1:=Z0f hf (.lst ss)
 have e1:upd H f (.lst ss) f=some (.lst ss):=Z0d
 generalize upd H f (.lst ss)=H1 at z1 e1 ⊢
 refine ⟨_,(M.same z1).get.2.1,A'.ta,rfl,_,.inl (SqL.of (z1 _ _ v1)),fun t ht=>?_⟩
 have z2:=Z0f ht (.lst ms)
 have e2:upd H1 t (.lst ms) t=some (.lst ms):=Z0d
 generalize upd H1 t (.lst ms)=H2 at z2 e2 ⊢
 have M2:=M.same (z1.trans z2)
 obtain ⟨e,x,he⟩:=M2.d
 refine ⟨e,DGet.k (k:=.inr "answer") x,New.of fun l3 H3 h3 z3 e3=>?_⟩
 have M3:=M2.same z3
 refine ⟨_,M3.get.2.2.1,_,M3.get.2.2.2.1,_,M3.get.2.2.2.2.1,_,M3.get.2.2.2.2.2.1,New.of fun l4 H4 h4 z4 e4=>⟨_,z4 _ _ e3,_,e4,by show 3+4≤_; omega,New.of fun l H5 h5 z5 e5=>?_⟩⟩
 have Z:=z1.trans (z2.trans (z3.trans (z4.trans z5)))
 have Z1:=z2.trans (z3.trans (z4.trans z5))
 exact q l f t H5 Z ⟨Z0z (z1.trans (z2.trans (z3.trans z4))) h5,hf,Z0z z1 ht,ne0 e1 ht,ne0 ((z2.trans (z3.trans z4)) _ _ e1) h5,ne0 ((z3.trans z4) _ _ e2) h5,e,ss,ms,e5,he.t (Same.t (z3.trans (z4.trans z5))),Z1 _ _ e1,Pd.imp (fun _ _ h=>h.t (Same.t Z)) u2,(z3.trans (z4.trans z5)) _ _ e2,Pd.imp (fun _ _ h=>h.t (Same.t Z)) v2⟩
end
open MT (Kd fk Wo VT Seg Sf WOk TyS Sm)
noncomputable def rowE:Row→PyData
 | .push v=>.tuple [.str "push",avD v]
 | .load i=>.tuple [.str "load",.int i]
 | .nt=>.tuple [.str "not"]
 | .get pl=>.tuple [.str "get",.int pl]
 | .keep i=>.tuple [.str "keep",.int i]
 | .drop=>.tuple [.str "drop"]
 | .skip n=>.tuple [.str "skip",.int n]
 | .unl n=>.tuple [.str "unless",.int n]
 | .two g=>.tuple [.str (sgN g)]
 | .make h m=>.tuple [.str "make",.int h,.int m]
 | .put pl=>.tuple [.str "put",.int pl]
 | .call s w m=>.tuple [.str "call",.int s,.int w,.int m]
 | .straight b m=>.tuple [.str "straight",.int b,.int m]
 | .back=>.tuple [.str "back"]
noncomputable def blkE (b:Blk):PyData:=.tuple [.int b.params,.int b.size,.tuple (b.rows.map rowE)]
noncomputable def onE:Option Nat→PyData
 | none=>.none
 | some n=>.int n
noncomputable def tabE (t:List (Option Nat)):PyData:=.list (t.map onE)
noncomputable def wE (bks:List Blk) (tabs:List (List (Option Nat))) (nums:List Int):PyData:=.list [.list (bks.map blkE),.list (tabs.map tabE),.list (nums.map PyData.int)]
section
variable {K:y9} {H:Hp}
theorem row0 {t:y8} {x:Str} (h:SqT K H t [.str x]) (s:PyData.strOk x=true:=by decide +kernel) (l:x.cps.size≤8:=by decide +kernel):RdD K H (.ref t) (.tuple [.str x])∧Nb 2 20 (.tuple [.str x]):=
 ⟨.tup h (.cons (.str _) .nil),(Nb.tup (k:=0) (n:=20) (.cons (a:=8) (b:=0) (.str s l) .nil qS)).mono qS (qa0 _)⟩
theorem row1 {t:y8} {x:Str} {i:Nat} (h:SqT K H t [.str x,.int i]) (hi:i < 1000000) (s:PyData.strOk x=true:=by decide +kernel) (l:x.cps.size≤8:=by decide +kernel):RdD K H (.ref t) (.tuple [.str x,.int i])∧Nb 2 20 (.tuple [.str x,.int i]):=
 ⟨.tup h (.cons (.str _) (.cons (.int _) .nil)),(Nb.tup (k:=0) (n:=20) (.cons (a:=8) (b:=1) (.str s l) (.cons (a:=0) (b:=0) (.int qR) .nil qS) qS)).mono qS (qa0 _)⟩
theorem row2 {t:y8} {x:Str} {i j:Nat} (h:SqT K H t [.str x,.int i,.int j]) (hi:i < 1000000) (hj:j < 1000000) (s:PyData.strOk x=true:=by decide +kernel) (l:x.cps.size≤8:=by decide +kernel):RdD K H (.ref t) (.tuple [.str x,.int i,.int j])∧Nb 2 20 (.tuple [.str x,.int i,.int j]):=
 ⟨.tup h (.cons (.str _) (.cons (.int _) (.cons (.int _) .nil))),(Nb.tup (k:=0) (n:=20) (.cons (a:=8) (b:=2) (.str s l) (.cons (a:=0) (b:=1) (.int qR) (.cons (a:=0) (b:=0) (.int qR) .nil qS) qS) qS)).mono qS (qa0 _)⟩
theorem J4x {W:Wo} {v:V} {r:Row} (wf:WF W) (h:RowV K H v r) (sm:Sm W 100 6 r):RdD K H v (rowE r)∧Nb 2 20 (rowE r):=by
 obtain ⟨t,rfl,h⟩:=h
 obtain ⟨m0,f0,f3⟩:=wf.f0
 have hn:=wf.hn.1
 have on:=wf.on.1
 have fl:∀ {pl:Nat},(pl=3∨∀ m∈W.fields,pl < m)→pl < 1000000:=fun {pl} h=>by
  rcases h with h | h
  ·omega
  ·have:=h m0 (qb9 f0); omega
 have hd:∀ {w m:Nat} {ps:List Kd} {tk:Kd},W.heads[w]?=some (ps,tk)→m=1+ps.length→w < 1000000∧m < 1000000:=fun {w m ps tk} h e=>by
  have h1:ps.length≤2:=(wf.hk _ (qb9 h)).1
  have h2:=(qa9.mp h).1
  omega
 cases r with
 | push x=>
  obtain ⟨y,a,b⟩:=h
  obtain ⟨r1,n1⟩:=b.nb
  exact ⟨.tup a (.cons (.str _) (.cons r1 .nil)),Nb.tup (k:=1) (n:=20) (.cons (a:=8) (b:=8) Z2N (.cons (a:=7) (b:=0) n1 .nil qS) qS)⟩
 | load i=>exact row1 h (qc1 sm qS)
 | nt=>exact row0 h
 | get pl=>exact row1 h (fl sm)
 | keep i=>exact row1 h (qc1 sm qS)
 | drop=>exact row0 h
 | skip n=>exact row1 h (qc1 sm qS)
 | unl n=>exact row1 h (qc1 sm qS)
 | two g=>cases g <;> exact row0 h
 | make a m=>
  have h1:=(qa9.mp sm).1
  have h2:=(wf.fl m (qb9 sm)).2
  have h3:=wf.fn
  exact row2 h qR qR
 | put pl=>exact row1 h (fl sm)
 | call s w m=>
  obtain ⟨h1,ps,tk,h2,h3⟩:=sm
  obtain ⟨h4,h5⟩:=hd h2 h3
  exact ⟨.tup h (.cons (.str _) (.cons (.int _) (.cons (.int _) (.cons (.int _) .nil)))),(Nb.tup (k:=0) (n:=20) (.cons (a:=8) (b:=3) Z2N (.cons (a:=0) (b:=2) (.int qR) (.cons (a:=0) (b:=1) (.int qR) (.cons (a:=0) (b:=0) (.int qR) .nil qS) qS) qS) qS)).mono qS (qa0 _)⟩
 | straight b m=>
  obtain ⟨h1,w,ps,tk,h2,h3⟩:=sm
  exact row2 h qR (hd h2 h3).2
 | back=>exact row0 h
theorem J5i {W:Wo} {v:V} {b:Blk} (wf:WF W) (h:BlkAt K H v b) (ok:BOk W b):RdD K H v (blkE b)∧Nb 4 12700 (blkE b):=by
 obtain ⟨a,ra,rs,rfl,h1,h2,h3⟩:=h
 obtain ⟨o1,o2,o3,o4⟩:=ok
 obtain ⟨r1,n1⟩:=Z3V (K:=K) (H:=H) (g:=rowE) (k:=2) (n:=20) h3 fun v r hv hr=>J4x wf hv (o4 r hr)
 refine ⟨.tup h1 (.cons (.int _) (.cons (.int _) (.cons (.tup h2 r1) .nil))),Nb.tup (k:=3) (.cons (a:=0) (b:=12602) (.int qR) (.cons (a:=0) (b:=12601) (.int qR) (.cons (a:=12600) (b:=0) (Nb.tup (k:=2) (n1.mono (qa0 _) qR)) .nil qS) qS) qS)⟩
theorem J5y {t:List (Option Nat)} (h:∀ b:Nat,some b∈t→b < 1000):RdDs K H (t.map tabV) (t.map onE)∧NbL 0 t.length (t.map onE):=by
 induction t with
 | nil=>exact ⟨.nil,.nil⟩
 | cons x t ih=>
  obtain ⟨a,b⟩:=ih fun b hb=>h b (qb1 _ hb)
  cases x with
  | none=>exact ⟨.cons .non a,.cons (a:=0) .none b (by rw [qb8]; omega)⟩
  | some n=>exact ⟨.cons (.int _) a,.cons (a:=0) (.int (by have:=h n qb5; omega)) b (by rw [qb8]; omega)⟩
theorem J2J {W:Wo} {v:V} {t:List (Option Nat)} (wf:WF W) (h:TbV H v t) (ok:J0U W.heads W.owners t):RdD K H v (tabE t)∧Nb 1 100 (tabE t):=by
 obtain ⟨ta,rfl,e⟩:=h
 have:=wf.on.1
 have:=wf.hn.1
 have:=ok.1
 obtain ⟨a,b⟩:=J5y (K:=K) (H:=H) (t:=t) fun x hx=>by have:=ok.2.2 x hx; omega
 exact ⟨.lst (SqL.of e) a,Nb.lst (b.mono (qa0 _) qR)⟩
theorem J3V {ns:List Int} (h:∀ n∈ns,Bd n):RdDs K H (ns.map V.int) (ns.map PyData.int)∧NbL 0 ns.length (ns.map PyData.int):=by
 induction ns with
 | nil=>exact ⟨.nil,.nil⟩
 | cons x t ih=>
  obtain ⟨a,b⟩:=ih fun b hb=>h b (qb1 _ hb)
  exact ⟨.cons (.int _) a,.cons (a:=0) (.int (by have:=h x qb5; unfold Mach.Bd at this; omega)) b (by rw [qb8]; omega)⟩
end
open MT (Kd fk Wo VT Seg Sf WOk TyS)
structure Gd (P:Mach.Prog) (s0:MS):Prop where
 ty:∃ W ss,WOk W P ss∧TyS W P ss s0
 ps:Mach.PSz P
 z:Szz 0 s0
 bl:P.blocks.length < 1000∧∀ B∈P.blocks,B.rows.length < 1000
theorem Gd.step {P:Mach.Prog} {s0:MS} (g:Gd P s0) (k:Nat) (e:(tr P s0 k).ended=none):Mach.step P (tr P s0 k)=some (tr P s0 (k+1)):=let ⟨_,_,a,b⟩:=g.ty; J0a a b k e
theorem Gd.sz {P:Mach.Prog} {s0:MS} (g:Gd P s0) (k:Nat):Szz k (tr P s0 k):=let ⟨_,_,a,b⟩:=g.ty; J4P a b g.ps g.z k
theorem Gd.fr {P:Mach.Prog} {s0:MS} (g:Gd P s0) (k:Nat):∀ f∈(tr P s0 k).frames,f.n < 1000∧f.pc < 1000:=fun f hf=>by
 obtain ⟨W,ss,a,b⟩:=g.ty
 obtain ⟨B,h1,h2⟩:=J7b (J0w a b k) f hf
 have:=g.bl.2 B (qb9 h1)
 have:=(qa9.mp h1).1
 exact ⟨by have:=g.bl.1; omega,qR⟩
theorem J0B {K:y9} {H:Hp} {P:Mach.Prog} {s0:MS} (g:Gd P s0) {k:Nat} (hk:k≤60) {ss:List V} (h:Paired (FrV K H) ss (tr P s0 k).frames.reverse):RdDs K H ss ((tr P s0 k).frames.reverse.map frE)∧NbL 3 469761 ((tr P s0 k).frames.reverse.map frE):=by
 have z:=(g.sz k).z
 obtain ⟨a,b⟩:=Z3V (K:=K) (H:=H) (g:=frE) (k:=3) (n:=7700) h fun v f hv hf=>by
  have hf:=List.mem_reverse.mp hf
  have h1:=g.fr k f hf
  have h2:=z.fr f hf
  exact FrV.nb (n:=0) hv qR qR qR h2.2
 rw [qc2] at b
 exact ⟨a,b.mono (qa0 _) (by have:=z.fl; omega)⟩
theorem Z9Q {K:y9} {H:Hp} {P:Mach.Prog} {s0:MS} (g:Gd P s0) {k:Nat} (hk:k≤60) {ms:List V} (h:Paired (ThV K H) ms (tr P s0 k).made):RdDs K H ms ((tr P s0 k).made.map thE)∧NbL 3 29460 ((tr P s0 k).made.map thE):=by
 have z:=(g.sz k).z
 obtain ⟨a,b⟩:=Z3V (K:=K) (H:=H) (g:=thE) (k:=3) (n:=490) h fun v t hv ht=>by
  have h2:=z.mi t ht
  exact ThV.nb hv qR h2.2
 exact ⟨a,b.mono (qa0 _) (by have:=z.md; omega)⟩
theorem Z9k {K:y9} {H0 H:Hp} {P:Mach.Prog} {s0:MS} (g:Gd P s0) {k:Nat} (hk:k≤60) {l f t:y8} (h:J2W K H0 H (tr P s0 k) l f t):RdD K H (.ref l) (J5s (tr P s0 k))∧Nb 5 500000 (J5s (tr P s0 k)):=by
 obtain ⟨_,_,_,_,_,_,e,ss,ms,h1,h2,h3,h4,h5,h6⟩:=h
 have z:=g.sz k
 have:=z.z.lh
 have:=z.c
 have:=z.r
 obtain ⟨a1,b1⟩:=J0B g hk h4
 obtain ⟨a2,b2⟩:=Z9Q g hk h6
 obtain ⟨a3,b3⟩:=h2.nb
 have i:∀ {n:Nat},n≤100→Nb 4 0 (.int (n:Int)):=fun h=>.int qR
 refine ⟨.lst (SqL.of h1) (.cons (.lst (SqL.of h3) a1) (.cons (.lst (SqL.of h5) a2) (.cons a3 (.cons (.int _) (.cons (.int _) (.cons (.int _) (.cons (.int _) .nil))))))),Nb.lst (k:=4) ?_⟩
 exact .cons (a:=469761) (b:=30000) (Nb.lst b1) (.cons (a:=29460) (b:=100) (Nb.lst b2) (.cons (a:=20) (b:=10) (b3.mono qS (qa0 _)) (.cons (a:=0) (b:=8) (i qR) (.cons (a:=0) (b:=6) (i qR) (.cons (a:=0) (b:=4) (i qR) (.cons (a:=0) (b:=0) (i qR) .nil qS) qS) qS) qS) qS) qS) qS
theorem WG.gd {W:Wo} {ss:List Nat} {bks:List Blk} {tabs:List (List (Option Nat))} {nums ns:List Int} {front:List Blk} {b:Blk} (g:WG W ss bks tabs nums) (e:bks=front++[b]) (mo:Nat) (re:Bool) (bd:∀ n∈ns,Bd n) (ln:ns.length=nums.length):ns.length≤b.size∧b.size < 900∧bks.length < 900∧tabs.length < 900∧Gd ⟨bks,tabs,mo,re⟩ (Z6A b front.length ns):=by
 obtain ⟨front',b',told,e',lf,bz,sf⟩:=g.mn
 obtain ⟨ef,eb⟩:=List.append_inj' (e.symm.trans e') rfl
 cases eb
 subst ef
 have l9:=g.wf.on.1
 have f4:=g.wf.fn
 have lb:bks.length=front.length+1:=by rw [e,qa1]; rfl
 refine ⟨qR,by have:=g.nn.2; omega,qR,by have:=g.tk.1; omega,⟨W,ss,⟨g.wf.fl,fun ho hh w hw=>?_,fun i w ps tk h1 h2=>?_⟩,⟨(fun k ho vs h=>by simp [Z6A] at h),(fun site w h p hp=>by cases hp),.inl ⟨rfl,_,_,b,told,qa3 nums.length (some .n)++[none,none],[],rfl,?_,?_,?_,.nil,.nil⟩⟩⟩,⟨fun B hB=>?_,fun B hB r hr h m er=>?_⟩,⟨⟨fun f hf=>?_,qa0 _,qa0 _,(fun t ht=>by cases ht),qa0 _,fun k=>⟨qa4 _,fun p hp=>by cases hp⟩⟩,qa0 _,qa0 _⟩,⟨by show bks.length < 1000; omega,fun B hB=>?_⟩⟩
 ·have hl:ho < tabs.length:=by rw [g.tk.1]; exact hh
  obtain ⟨x,h1,h2⟩:=(g.tk.2 _ (qe3 hl)).2.1 w hw
  refine ⟨x,?_,h2⟩
  show (tabs[ho]?).bind _=_
  rw [qb2 hl]
  show (tabs[ho][w]?).join=_
  rw [h1]; rfl
 ·have hi:i < front.length:=by rw [lf]; exact (qa9.mp h1).1
  have hb:bks[i]?=some bks[i]:=qb2 qR
  obtain ⟨u1,u2⟩:=g.bo i _ w ps tk hb h1 h2
  exact ⟨_,hb,u1,u2⟩
 ·show bks[front.length]?=_
  rw [e,qd6 (qa0 _),qg3]; rfl
 ·rw [qg1]; exact sf
 ·refine ⟨?_,fun i v k h1 h2=>?_⟩
  ·show (ns.map AV.int++qa3 (b.size - ns.length) AV.non).length=_
   rw [qa1,qa2,qd3,qa1,qd3]
   show _=_+2
   omega
  ·have hi:i < ns.length:=by
    rcases qh6 i ns.length with z | z
    ·exact z
    ·rw [qd6 (by rw [qd3]; omega)] at h2
     have:=qb9 h2
     simp at this
   have h1:(ns.map AV.int++qa3 (b.size - ns.length) AV.non)[i]?=some v:=h1
   rw [qd4 (by rw [qa2]; exact hi),qc8,qb2 hi] at h1
   rw [qd4 (by rw [qd3]; omega),ql1,if_pos qR] at h2
   cases h1
   cases h2
   exact .int (bd _ (qe3 _))
 ·have:=(g.bs B hB).2.1; omega
 ·have:=(g.bs B hB).2.2.2 r hr
  rw [er] at this
  have:=(qa9.mp this).1
  omega
 ·cases qc3.mp hf
  refine ⟨qa0 _,?_⟩
  show (ns.map AV.int++qa3 (b.size - ns.length) AV.non).length < 900
  rw [qa1,qa2,qd3]
  have:=g.nn.2
  omega
 ·have:=(g.bs B hB).2.2.1; omega
theorem Z7s {P:Mach.Prog} {s s':MS} {f:AFr} {fs:List AFr} {b m:Nat} (e:Mach.enter P s f fs b m=some s') (h:s.calls≤P.most):s'.calls≤P.most∧s'.frames.length≤41:=by
 unfold Mach.enter at e
 split at e
 ·cases e; exact ⟨h,qa4 _⟩
 rename_i h1
 split at e
 ·cases e; exact ⟨by show s.calls+1≤_; omega,qa4 _⟩
 rename_i h2
 split at e
 ·obtain ⟨k,_,e⟩:=qc0.mp e
  split at e
  ·cases e; exact ⟨by show s.calls+1≤_; omega,by show fs.length+1+1≤41; omega⟩
  ·cases e
 ·cases e
theorem J3i {P:Mach.Prog} {s s':MS} (e:Mach.step P s=some s') (h:s.calls≤P.most) (h41:s.frames.length≤41):s'.calls≤P.most∧s'.frames.length≤41:=by
 unfold Mach.step at e
 split at e
 case h_2=>cases e
 rename_i f fs _ ef
 obtain ⟨r,_,e⟩:=qc0.mp e
 rw [ef] at h41
 have h41:fs.length+1≤41:=h41
 have q:=Mach.row_shape e
 cases q with
 | own g _=>exact ⟨h,h41⟩
 | ends _=>exact ⟨h,qa4 _⟩
 | make _ _ _ _=>exact ⟨h,h41⟩
 | put _ _ _ _ _ _ _ _=>exact ⟨h,h41⟩
 | back v g gs eg=>exact ⟨h,by show gs.length+1≤41; rw [eg] at h41; have:gs.length+1+1≤41:=h41; omega⟩
 | strt b m er _=>rw [er] at e; exact Z7s e h
 | call hh si w b m s1 er _ _=>
  rw [er] at e
  simp only [Mach.rowM] at e
  split at e
  ·split at e
   ·obtain ⟨t,_,e⟩:=qc0.mp e
    obtain ⟨⟨b',s3⟩,fo,en⟩:=qc0.mp e
    obtain ⟨_,_,_,e3,_⟩:=Mach.found_shape fo
    exact Z7s en (by rw [e3]; exact h)
   ·cases e
  ·cases e
theorem J5l {W:Wo} {ss:List Nat} {told:Kd} {r:List Row} {sl:List (Option Kd)} {st:List Kd} (h:Sf W ss told r sl st):∀ {b m:Nat} {r':List Row},r=.straight b m::r'→m≤st.length:=by
 induction h with
 | straight _ _ _ _=>intro b m r' e; cases e; rw [qa1,qc2]; show _≤_+(_+1); omega
 | wk _ ih=>exact fun e=>ih e
 | _=>intro b m r' e; cases e
theorem J4p {W:Wo} {P:Mach.Prog} {ss:List Nat} {s:MS} (h:TyS W P ss s):∀ f fs b m,s.frames=f::fs→Mach.row? P f=some (.straight b m)→m≤f.st.length:=fun f fs b m ef er=>by
 rcases h.fr with ⟨_,g,gs,B,told,sl,st,e,h1,h2,_,h3,_⟩ | ⟨_,e⟩
 ·rw [ef] at e
  cases e
  obtain ⟨B',h4,h5⟩:=qc0.mp er
  rw [h1] at h4
  cases h4
  rw [h3.len]
  refine J5l h2 (b:=b) (r':=B.rows.drop (f.pc+1)) ?_
  obtain ⟨hl,hg⟩:=qa9.mp h5
  rw [← hg,List.drop_eq_getElem_cons hl]
 ·rw [ef] at e; cases e
theorem Gd.str {P:Mach.Prog} {s0:MS} (g:Gd P s0) (k:Nat):∀ f fs b m,(tr P s0 k).frames=f::fs→Mach.row? P f=some (.straight b m)→m≤f.st.length:=let ⟨_,_,a,b⟩:=g.ty; J4p (J0w a b k)
theorem J5O {α β:Type} {R:α→β→Prop}:∀ {xs:List α} {ys:List β} {i:Nat} {x:α},Paired R xs ys→xs[i]?=some x→∃ y,ys[i]?=some y∧R x y
 | _,_,0,_,.cons r _,h=>by cases h; exact ⟨_,rfl,r⟩
 | _,_,i+1,_,.cons _ t,h=>J5O (i:=i) t h
noncomputable def CLI (H1 H3 HB:Hp) (D l3:y8) (vs:List V) (σ0:Option V→St) (i:Nat) (σ:St) (H':Hp):Prop:=∃ x8,σ=σ0 x8∧SameT HB H'∧(∀ b o,(H1 b≠none∨H3 b=none∨b=D∨b=l3)→HB b=some o→H' b=some o)∧∀ v∈vs,∃ ta xs,v=.ref ta∧H' ta=some (.lst xs)∧ta≠D∧H1 ta=none∧ta≠l3∧H3 ta≠none
section
variable (CM CP:y8) (K:y9)
inductive J0p (vs:List V) (H:Hp) (Q:VK):Prop
 | mk (wd bl tb nl:y8) (W:Wo) (ss:List Nat) (bks:List Blk) (tabs:List (List (Option Nat))) (nums:List Int) (front:List Blk) (b:Blk) (mo:Nat) (re:Bool) (way:Nat) (a1:vs=[.ref wd,.int mo,.bl re,.int way]) (a2:WR K H wd bl tb nl bks tabs nums) (a3:WG W ss bks tabs nums) (a4:bks=front++[b]) (a5:way≤3) (a6:(way=0→mo=100∧re=true)) (a7:(way=1→re=true)) (a8:(way=2→mo=100)) (a9:∀ o H' S,Same H H'→MOn CM CP K S o ⟨bks,tabs,mo,re⟩ (Z6A b front.length nums) H'→(∀ a,S a→H a=none)→Q (.ref o.x) H'):J0p vs H Q
def J3n:Sp:=fun vs H Q _=>J0p CM CP K vs H Q
end
section
theorem J3R (T:Txt P w K mg O0b O0a O0c) (O1r:HasD P w K mg base 3 O0a "__init__" ["self","blocks","tables","numbers","most","remembers"] (Z2K O0a O0b K) [] (Z1G 6 0 (qe4 2 [V.int 100,V.bl true]))) (O1s:HasD P w K mg base 3 O0a "__init__" ["self","blocks","tables","numbers","most","remembers"] (Z2K O0a O0b K) [] (Z1G 4 0 (qe4 0 [V.int 100,V.bl true]))) (O1t:HasD P w K mg base 3 O0a "__init__" ["self","blocks","tables","numbers","most","remembers"] (Z2K O0a O0b K) [] (Z1G 5 0 (qe4 1 [V.int 100,V.bl true]))) (O1u:HasD P w K mg base 3 O0a "__init__" ["self","blocks","tables","numbers","most","remembers"] (Z2K O0a O0b K) ["remembers"] (gMid 4 (V.int 100))):Has P w K mg base 5 "_law_machine" ["_law_world_here","_law_most","_law_keeps","_law_way"] (J3n O0a O0b K):=by
 refine Has.of T.O2w O0n (fun _ _ _ _ _ _ us hl=>el4 us hl fun _ _ _ _=>rfl) (fun vs H Q E h=>?_) (fun f cdv A outer s H vs Q E hr h=>?_)
 ·obtain ⟨wd,bl,tb,nl,W,ss,bks,tabs,nums,front,b,mo,re,way,rfl,_⟩:=h
  rfl
 obtain ⟨wd,bl,tb,nl,W,ss,bks,tabs,nums,front,b,mo,re,way,rfl,hw,g,eb,w3,wy0,wy1,wy2,q⟩:=h
 refine ⟨_,(Z0a (qG 4 O0n.nd (Z0H Z0L rfl T.O1G Z2w (qI (qB hr 0))))
  (Z0a (Z7a rfl O0n.nd (i:=5) rfl rfl (BlockOk.plain (N:=["_law_row"]) rfl qP qP qP) (Z2x (qB hr 0))
     (fun C fp s H=>(qH 0 (show (["_law_row"]:List Str).Nodup by decide +kernel)))
     (fun C fp s H=>(Z0H (r:=J5F K) Z0L rfl T.O1G Z2w (qI (pvF 0)))))
  (Z0a (qG 6 O0n.nd (Z0H Z0L rfl T.O1G Z2w (qI (qB hr 0))))
  (Z0a (qG 7 O0n.nd (Z7V T.Machine O1r hr qS rfl (Z0r (pvF 4) (Z0r (pvF 5) (qK (pvF 6) (pvF 1) (pvF 2)))) Z7Y))
  (Z0a (Z0t (qM Z0B (pvF 3) Z0c) (Z0b (qG 7 O0n.nd (Z7V T.Machine O1s hr qS rfl (qK (pvF 4) (pvF 5) (pvF 6)) Z7Y))) (Z0b (Z0t (qM Z4z (pvF 3) Z0c) (Z0b (qG 7 O0n.nd (qD K (Z0s (qJ (Z7V T.Machine O1t hr qS rfl (Z0r (pvF 4) (qK (pvF 5) (pvF 6) (pvF 1))) Z7Y) (Z7V T.Machine O1u hr qS rfl (qK (pvF 4) (pvF 5) (pvF 6)) (J3Q (pvF 2) Z7Y)))) (Z0h Z1n (pvF 3) Z0c)))) Z0o)))
  (Z0a (Z0t (PW.pt (J3l (qM (r:=rNeD K) (Z6s hr.units) (pvF 4) (qB hr 0)) (J3l (qM (r:=rNeD K) (Z6s hr.units) (pvF 5) (qB hr 0)) (J2e (qM (r:=rNeD K) (Z6s hr.units) (pvF 6) (qB hr 0)))))) (Z0b (Z0n Z1d)) Z0o)
  (Z0a (Z2R PassesOwn.never rfl (Z2x (pvF 5)) (qH 8 O0n.nd) (Z0b (Z0j (Z5f qa6 PySem.F.slot_list_clear PySem.F.type_list_clear Z7K (pvF 8)))))
  (Z0a (Z0j (Z5f qa6 PySem.F.slot_list_clear PySem.F.type_list_clear Z7K (pvF 4)))
  (Z0a (Z0j (Z1c qa6 qb3 qb4 Z0q (pvF 6) (qI Z0c)))
  (Z0b (Z0n (pvF 7)))))))))))),?_⟩
 refine J2Q fun uz9 huz9 uz8 huz8 uz7 huz7 uz6 huz6 uz5 huz5 uz4 huz4 uz3 huz3 uz2 huz2 uz1 huz1=>?_
 walk_at "rd"
 obtain ⟨bs,b1,b2⟩:=hw.bb
 obtain ⟨ts,t1,t2⟩:=hw.tt
 have lts:ts.length=tabs.length:=t2.length
 obtain ⟨g1,g2,g3,g4,_⟩:=g.gd eb 0 false g.nn.1 rfl
 have l9:=g.wf.fn
 have ltk:=g.tk.1
 refine ⟨_,hw.get.1,bl,rfl,_,.inl (SqL.of b1),fun l1 hl1=>?_⟩
 have z1:=Z0f hl1 (.lst bs)
 have e1:upd H l1 (.lst bs) l1=some (.lst bs):=Z0d
 generalize upd H l1 (.lst bs)=H1 at z1 e1 ⊢
 subst huz1
 walk_at "rd"
 refine ⟨_,(hw.same z1).get.2.1,tb,rfl,⟨_,SqL.of (z1 _ _ t1)⟩,fun D hD=>?_⟩
 refine Z6W (ys:=ts) none [] (fun j v H'=>∃ ta t,v=.ref ta∧tabs[j]?=some t∧H' ta=some (.lst (t.map tabV))∧ta≠D∧H1 ta=none) (fun j v H1 H2 ⟨ta,t,a,b,c,e,fr⟩ s=>⟨ta,t,a,b,s _ _ e c,e,fr⟩) rfl hD (by rw [sizeLine_eq]; omega) (fun H2 s=>SqL.same (SqL.of (z1 _ _ t1)) s) (fun i y hy H2 K' z2 nD kk=>?_) (fun vs H2 z2 e2 lvs hR=>?_)
 ·obtain ⟨t,ht,ta,rfl,hta⟩:=J5O t2 hy
  walk_at "rd"
  refine ⟨ta,_,rfl,.inl (SqL.of (z2 _ _ (z1 _ _ hta))),fun l hl=>kk _ _ (Z0f hl _) ⟨l,t,rfl,ht,Z0d,fun z=>nD (z▸hl),Z0z z2 hl⟩⟩
 subst huz2
 walk_at "rd"
 have Z2:=z1.trans z2
 refine ⟨_,(hw.same Z2).get.2.2,nl,rfl,_,.inl (SqL.of (hw.same Z2).nn),fun l3 hl3=>?_⟩
 have z3:=Z0f hl3 (.lst (nums.map V.int))
 have e3:upd H2 l3 (.lst (nums.map V.int)) l3=some (.lst (nums.map V.int)):=Z0d
 generalize upd H2 l3 (.lst (nums.map V.int))=H3 at z3 e3 ⊢
 have Z3:=Z2.trans z3
 have hw3:=hw.same Z3
 have e13:=(z2.trans z3) _ _ e1
 have e23:=z3 _ _ e2
 have tb3:Paired (fun v t=>∃ ta,v=.ref ta∧H3 ta=some (.lst (t.map tabV))∧ta≠D∧H1 ta=none∧ta≠l3) vs tabs:=Z2W qR fun j v t hv ht=>by
  obtain ⟨ta,t',a,b,c,d,e⟩:=hR j v hv
  rw [ht] at b
  cases b
  exact ⟨ta,a,z3 _ _ c,d,e,fun z=>by rw [z,hl3] at c; cases c⟩
 have mk:∀ (mo':Nat) (re':Bool) {HA:Hp} {R:V→Hp→Prop},Same H3 HA→(∀ o HB S,Same HA HB→MOn O0a O0b K S o ⟨bks,tabs,mo',re'⟩ (Z6A b front.length nums) HB→(∀ a,S a→HA a=none)→R (.ref o.x) HB)→∀ x dx:y8,HA x=none→HA dx=none→¬ dx=x→Z2K O0a O0b K [.ref x,.ref l1,.ref D,.ref l3,.int mo',.bl re'] (upd (upd HA dx (.own x)) x (.ins O0a dx [])) (fun v H3=>v=.non∧R (.ref x) H3) E0:=fun mo' re' HA R S k x dx hx hdx ndx=>by
  have sX:Same HA (upd (upd HA dx (.own x)) x (.ins O0a dx [])):=fun b o hb=>by
   rw [Z0e (Z0m hb hx),Z0e (Z0m hb hdx)]
   exact hb
  have eX:upd (upd HA dx (.own x)) x (.ins O0a dx []) x=some (.ins O0a dx []):=Z0d
  generalize upd (upd HA dx (.own x)) x (.ins O0a dx [])=HX at sX eX ⊢
  have SX:=S.trans sX
  refine ⟨fun a=>HA a≠none,x,dx,l1,D,l3,⟨bks,tabs,mo',re'⟩,bs,vs,nums,b,front,rfl,eX,SqL.of (SX _ _ e13),Z4N b2 (Same.t (Z3.trans SX)),eb,SqL.of (SX _ _ e23),Paired.imp' (fun _ _ ⟨ta,u1,u2,_⟩=>⟨ta,u1,SqL.of (SX _ _ u2)⟩) tb3,SqL.of (SX _ _ e3),g.nn.1,g1,g2,g3,g4,fun z=>z hx,fun a ha=>?_,fun o H' ox SX' M=>⟨rfl,?_⟩⟩
  ·obtain ⟨u,hu⟩:=qc9.mp ha
   rw [sX _ _ hu]
   exact fun z=>by cases z
  ·have S':Same HA H':=fun a u hu=>SX' a u (Z0m hu hx) (sX a u hu)
   rw [← ox]
   refine k o H' (fun a=>H' a≠none∧HA a=none) S' ⟨fun a h=>h.1,?_⟩ fun a h=>h.2
   have e:(fun a=>H' a≠none∧¬ (H' a≠none∧HA a=none))=fun a=>HA a≠none:=by
    funext a
    refine propext ⟨fun h z=>h.2 ⟨h.1,z⟩,fun h=>⟨M.exs a h,fun z=>h z.2⟩⟩
   rw [e]
   exact M
 have rest:∀ {HB:Hp} {o:MO} {S:y8→Prop},Same H3 HB→MOn O0a O0b K S o ⟨bks,tabs,mo,re⟩ (Z6A b front.length nums) HB→(∀ a,S a→H3 a=none)→uz5 { nx:=fun x H'=>Q V.non H',rt:=Q } [some (.ref wd),some (.int mo),some (.bl re),some (.int way),some (.ref l1),some (.ref D),some (.ref l3),some (.ref o.x),none] HB:=by
  intro HB o S sB M nS
  subst huz5
  walk_at "rd"
  have hwB:=hw3.same sB
  obtain ⟨r1,n1⟩:=Z3V (K:=K) (H:=HB) (g:=blkE) (k:=4) (n:=12700) (Z4N b2 (Same.t (Z3.trans sB))) fun v b hv hb=>J5i g.wf hv (g.bs b hb)
  obtain ⟨bsB,b1B,_⟩:=hwB.bb
  obtain ⟨tsB,t1B,t2B⟩:=hwB.tt
  obtain ⟨r2,n2⟩:=Z3V (K:=K) (H:=HB) (g:=tabE) (k:=1) (n:=100) (Paired.imp' (fun _ _ ⟨ta,u1,u2,_⟩=>(⟨ta,u1,sB _ _ u2⟩:TbV HB _ _)) tb3) fun v t hv ht=>J2J g.wf hv (g.tk.2 t ht)
  obtain ⟨r2',_⟩:=Z3V (K:=K) (H:=HB) (g:=tabE) (k:=1) (n:=100) t2B fun v t hv ht=>J2J g.wf hv (g.tk.2 t ht)
  obtain ⟨r3,n3⟩:=J3V (K:=K) (H:=HB) g.nn.1
  have tt:∀ {x:Bool},x=true→¬ x=false:=fun h z=>by rw [h] at z; cases z
  refine ⟨_,hwB.get.1,_,.lst (SqL.of (sB _ _ e13)) r1,_,.lst (SqL.of ((Z3.trans sB) _ _ b1)) r1,(Nb.lst n1).shaped qS,(Nb.lst n1).shaped qS,?_⟩
  rw [if_neg (tt (PySem.SeqAt.eqv_refl _ (Nb.lst n1).lay))]
  refine ⟨_,hwB.get.2.1,_,.lst (SqL.of (sB _ _ e23)) r2,_,.lst (SqL.of t1B) r2',(Nb.lst n2).shaped qS,(Nb.lst n2).shaped qS,?_⟩
  rw [if_neg (tt (PySem.SeqAt.eqv_refl _ (Nb.lst n2).lay))]
  refine ⟨_,hwB.get.2.2,_,.lst (SqL.of (sB _ _ e3)) r3,_,.lst (SqL.of hwB.nn) r3,(Nb.lst n3).shaped qS,(Nb.lst n3).shaped qS,?_⟩
  rw [if_neg (tt (PySem.SeqAt.eqv_refl _ (Nb.lst n3).lay))]
  subst huz6
  walk_at "rd"
  refine ⟨⟨_,SqL.of (sB _ _ e23)⟩,Z6k vs (CLI H1 H3 HB D l3 vs fun x8=>[some (.ref wd),some (.int mo),some (.bl re),some (.int way),some (.ref l1),some (.ref D),some (.ref l3),some (.ref o.x),x8]) ⟨none,rfl,SameT.refl _,fun b o _ e=>e,fun v hv=>?_⟩ (fun i σ H' _ hI=>?_) (fun i x σ H' hx hI=>?_) (fun σ H' hI=>?_)⟩
  ·obtain ⟨t,_,ta,a1,a2,a3,a4,a5⟩:=Pd.mem tb3 v hv
   exact ⟨ta,_,a1,sB _ _ a2,a3,a4,a5,by rw [a2]; exact fun z=>by cases z⟩
  ·obtain ⟨x8,_,_,kk,_⟩:=hI
   exact SqL.of (kk _ _ (.inr (.inr (.inl rfl))) (sB _ _ e23))
  ·obtain ⟨x8,rfl,t8,kk,all⟩:=hI
   obtain ⟨ta,xs,rfl,c1,c2,c3,c4,c5⟩:=all x (qb9 hx)
   walk_at "rd"
   refine ⟨.inl ⟨rfl,_,SqL.of c1⟩,xs,c1,_,rfl,t8.trans (Z1I _ c1 Z1U),fun b o hb e=>?_,fun v hv=>?_⟩
   ·rw [Z0e (fun z=>?_)]
    ·exact kk b o hb e
    ·rw [z] at hb
     rcases hb with hb | hb | hb | hb
     ·exact hb c3
     ·exact c5 hb
     ·exact c2 hb
     ·exact c4 hb
   ·obtain ⟨ta',xs',a1,a2,a3⟩:=all v hv
    by_cases z:ta'=ta
    ·exact ⟨ta',[],a1,by rw [z]; exact Z0d,a3⟩
    ·exact ⟨ta',xs',a1,by rw [Z0e z]; exact a2,a3⟩
  ·obtain ⟨x8,rfl,t8,kk,_⟩:=hI
   have hl1':=kk l1 _ (.inl (by rw [e1]; exact fun z=>by cases z)) (sB _ _ e13)
   have hl3':=kk l3 _ (.inr (.inr (.inr rfl))) (sB _ _ e3)
   have n13:l3≠l1:=fun z=>by rw [z,z2 _ _ e1] at hl3; cases hl3
   subst huz7
   walk_at "rd"
   refine ⟨.inl ⟨rfl,_,SqL.of hl1'⟩,_,hl1',?_⟩
   subst huz8
   walk_at "rd"
   have e3':upd H' l1 (.lst []) l3=some (.lst (nums.map V.int)):=by rw [Z0e n13]; exact hl3'
   refine ⟨.inl ⟨rfl,_,SqL.of e3'⟩,_,e3',by rw [qa2]; have:=g.nn.2; omega,?_⟩
   subst huz9
   walk_at "rd"
   have tF:=t8.trans ((Z1I (.lst []) hl1' Z1U).trans (Z1I (.lst (nums.map V.int++[.int 7])) e3' Z1U))
   refine q o _ S (fun b u e=>?_) (M.beside tF fun a h=>?_) fun a h=>Z0z Z3 (nS a h)
   ·rw [Z0e (fun z=>by rw [z,Z0z Z2 hl3] at e; cases e),Z0e (fun z=>by rw [z,hl1] at e; cases e)]
    exact kk b u (.inl (by rw [z1 _ _ e]; exact fun z=>by cases z)) ((Z3.trans sB) _ _ e)
   ·have h3:=nS a h
    obtain ⟨u,hu⟩:=qc9.mp (M.sub a h)
    rw [Z0e (fun z=>by rw [z,e3] at h3; cases h3),Z0e (fun z=>by rw [z,e13] at h3; cases h3),hu]
    exact kk a u (.inr (.inl h3)) hu
 subst huz3
 walk_at "rd"
 intro x dx hx hdx nd
 rw [show Z1G 6 0 (qe4 2 [V.int 100,V.bl true]) [V.ref x,V.ref l1,V.ref D,V.ref l3,V.int mo,V.bl re] []=[V.ref x,V.ref l1,V.ref D,V.ref l3,V.int mo,V.bl re] from Z2y rfl rfl]
 refine mk mo re (R:=fun v H3=>uz4 { nx:=fun x H'=>Q V.non H',rt:=Q } [some (.ref wd),some (.int mo),some (.bl re),some (.int way),some (.ref l1),some (.ref D),some (.ref l3),some v,none] H3) (Same.refl _) (fun o HB S sB M nS=>?_) x dx hx hdx nd
 subst huz4
 walk_at "rd"
 refine ite2 (fun w0 x dx hx hdx nd=>?_) (fun w0=>ite2 (fun w1 x dx hx hdx nd=>?_) (fun w1=>rest sB M nS))
 ·obtain ⟨rfl,rfl⟩:=wy0 qR
  rw [show Z1G 4 0 (qe4 0 [V.int 100,V.bl true]) [V.ref x,V.ref l1,V.ref D,V.ref l3] []=[V.ref x,V.ref l1,V.ref D,V.ref l3,V.int 100,V.bl true] from Z2y rfl rfl]
  exact mk 100 true (R:=fun v H3=>uz5 { nx:=fun x H'=>Q V.non H',rt:=Q } [some (.ref wd),some (.int ((100:Nat):Int)),some (.bl true),some (.int way),some (.ref l1),some (.ref D),some (.ref l3),some v,none] H3) sB (fun o2 HC S2 sC M2 n2=>rest (sB.trans sC) M2 fun a h=>Z0z sB (n2 a h)) x dx hx hdx nd
 ·rw [show Z1G 5 0 (qe4 1 [V.int 100,V.bl true]) [V.ref x,V.ref l1,V.ref D,V.ref l3,V.int mo] []=[V.ref x,V.ref l1,V.ref D,V.ref l3,V.int mo,V.bl true] from Z2y rfl rfl]
  refine mk mo true (R:=fun v H3=>∀ (x_1 dx:y8),H3 x_1=none→H3 dx=none→¬ dx=x_1→Z2K O0a O0b K (gMid 4 (V.int 100) [V.ref x_1,V.ref l1,V.ref D,V.ref l3] [V.bl re]) (upd (upd H3 dx (HO.own x_1)) x_1 (HO.ins O0a dx [])) (fun v' H3=>v'=V.non∧New H3 (HO.lst [v,V.ref x_1]) fun p H2=>IxL K p ((way:Int) - 1) H2 fun x H1=>uz5 { nx:=fun x H'=>Q V.non H',rt:=Q } [some (.ref wd),some (.int mo),some (.bl re),some (.int way),some (.ref l1),some (.ref D),some (.ref l3),some x,none] H1) E0) sB (fun o2 HC S2 sC M2 n2 x dx hx hdx nd=>?_) x dx hx hdx nd
  rw [show gMid 4 (V.int 100) [V.ref x,V.ref l1,V.ref D,V.ref l3] [V.bl re]=[V.ref x,V.ref l1,V.ref D,V.ref l3,V.int ((100:Nat):Int),V.bl re] from if_pos ⟨rfl,rfl⟩]
  refine mk 100 re (R:=fun v H3=>New H3 (HO.lst [.ref o2.x,v]) fun p H2=>IxL K p ((way:Int) - 1) H2 fun x H1=>uz5 { nx:=fun x H'=>Q V.non H',rt:=Q } [some (.ref wd),some (.int mo),some (.bl re),some (.int way),some (.ref l1),some (.ref D),some (.ref l3),some x,none] H1) (sB.trans sC) (fun o3 HD S3 sD M3 n3=>New.of fun p HE _ sE eE=>?_) x dx hx hdx nd
  have w12:way=1∨way=2:=by omega
  rcases w12 with rfl | rfl
  ·have hre:=wy1 rfl
   refine ⟨_,SqL.of eE,.ref o2.x,rfl,rest (sB.trans (sC.trans (sD.trans sE))) (S:=S2) (by rw [hre]; exact M2.grow (sD.trans sE)) fun a h=>Z0z sB (n2 a h)⟩
  ·have hmo:=wy2 rfl
   refine ⟨_,SqL.of eE,.ref o3.x,rfl,rest (sB.trans (sC.trans (sD.trans sE))) (S:=S3) (by rw [hmo]; exact M3.grow sE) fun a h=>Z0z (sB.trans sC) (n3 a h)⟩
end
section
variable (CM CP:y8) (K:y9)
noncomputable def Stay (H:Hp) (xs:List V) (ds:List PyData):Prop:=∀ H',SameT H H'→RdDs K H' xs ds
noncomputable def Held (H0 H H2:Hp) (v:V):Prop:=∃ t r c xs ds,v=.ref t∧H0 t=none∧H0 r=none∧H0 c=none∧H t=some (.tup [.ref r,.ref c])∧H r=some (.lst xs)∧H c=some (.lst xs)∧Stay K H2 xs ds∧NbL 3 500000 ds
end
section
variable {K:y9}
noncomputable def RII (K:y9) (Hq H:Hp) (hd:y8) (hs:List V) (p f t:y8) (ss ms:List V) (σ0:Option V→St):Nat→St→Hp→Prop
 | 0,σ,H'=>∃ x,σ=σ0 x∧SameT Hq H'∧Same H H'∧H' hd=some (.lst hs)∧H' p=some (.lst [.ref f,.ref t])∧H' f=some (.lst ss)∧H' t=some (.lst ms)
 | 1,σ,H'=>∃ x,σ=σ0 x∧SameT Hq H'∧(∀ b o,b≠hd→H b=some o→H' b=some o)∧SameT H H'∧H' p=some (.lst [.ref f,.ref t])∧H' t=some (.lst ms)∧∃ u,H' hd=some (.lst (hs++[u]))∧Held K H H' H' u∧∀ tu r c,u=.ref tu→H' tu=some (.tup [.ref r,.ref c])→r≠t∧c≠t∧r≠hd∧c≠hd
 | 2,σ,H'=>∃ x,σ=σ0 x∧(∀ b o,b≠hd→H b=some o→H' b=some o)∧SameT H H'∧H' p=some (.lst [.ref f,.ref t])∧∃ u v,H' hd=some (.lst (hs++[u,v]))∧Held K H H' H' u∧Held K H H' H' v
 | _,_,_=>False
theorem RII.slice {Hq H H':Hp} {hd:y8} {hs:List V} {p f t:y8} {ss ms:List V} {σ0:Option V→St} {i:Nat} {σ:St} (h:RII K Hq H hd hs p f t ss ms σ0 i σ H'):H' p=some (.lst [.ref f,.ref t]):=by
 match i,h with
 | 0,⟨_,_,_,_,_,h,_⟩=>exact h
 | 1,⟨_,_,_,_,_,h,_⟩=>exact h
 | 2,⟨_,_,_,_,h,_⟩=>exact h
theorem Z7J {H H' H3:Hp} {hd r c t:y8} {xs hs':List V} {ds:List PyData} (hk:∀ b o,b≠hd→H b=some o→H' b=some o) (hr:H r=none) (er:H' r=some (.lst xs)) (eh:H' hd=some (.lst hs')) (nr:r≠hd) (st:Stay K H' xs ds) (nb:NbL 3 490000 ds)
  (hc:upd H' r (.lst (xs++[.str "spoilt"])) c=none) (ht:upd (upd H' r (.lst (xs++[.str "spoilt"]))) c (.lst (xs++[.str "spoilt"])) t=none) (s3:Same (upd (upd H' r (.lst (xs++[.str "spoilt"]))) c (.lst (xs++[.str "spoilt"]))) H3) (e3:H3 t=some (.tup [.ref r,.ref c])) :
  H3 hd=some (.lst hs')∧(∀ b o,b≠hd→b≠r→H' b=some o→upd H3 hd (.lst (hs'++[.ref t])) b=some o)∧SameT H' (upd H3 hd (.lst (hs'++[.ref t])))∧Held K H (upd H3 hd (.lst (hs'++[.ref t]))) (upd H3 hd (.lst (hs'++[.ref t]))) (.ref t)∧upd H3 hd (.lst (hs'++[.ref t])) t=some (.tup [.ref r,.ref c])∧(∀ b o,H' b=some o→c≠b)∧c≠hd:=by
 have t1:=Z1I (.lst (xs++[V.str "spoilt"])) er Z1U
 have u1:upd H' r (.lst (xs++[.str "spoilt"])) r=some (.lst (xs++[.str "spoilt"])):=Z0d
 have k1:∀ {b o},b≠r→H' b=some o→upd H' r (.lst (xs++[.str "spoilt"])) b=some o:=fun {b o} n e=>by rw [Z0e n]; exact e
 have k0:∀ {b o},H' b=some o→∃ o',upd H' r (.lst (xs++[.str "spoilt"])) b=some o':=fun {b o} e=>by
  by_cases z:b=r
  ·rw [z]; exact ⟨_,u1⟩
  ·exact ⟨o,k1 z e⟩
 generalize upd H' r (.lst (xs++[.str "spoilt"]))=H1 at *
 have s2:=Z0f hc (.lst (xs++[V.str "spoilt"]))
 have u2:upd H1 c (.lst (xs++[.str "spoilt"])) c=some (.lst (xs++[.str "spoilt"])):=Z0d
 generalize upd H1 c (.lst (xs++[.str "spoilt"]))=H2 at *
 have S:=s2.trans s3
 have h3:=S _ _ (k1 (fun z=>nr z.symm) eh)
 have t4:=Z1I (.lst (hs'++[V.ref t])) h3 Z1U
 have T:=t1.trans ((Same.t S).trans t4)
 have cn:∀ b o,H' b=some o→c≠b:=fun b o e z=>by
  obtain ⟨o',e'⟩:=k0 e
  rw [← z,hc] at e'; cases e'
 have free:∀ {a:y8},H1 a=none→H a=none:=fun {a} z=>by
  cases e:H a with
  | none=>rfl
  | some o=>
   by_cases y:a=hd
   ·rw [y] at z
    rw [k1 (fun z=>nr z.symm) eh] at z; cases z
   ·obtain ⟨o',e'⟩:=k0 (hk a o y e)
    rw [z] at e'; cases e'
 have nch:=cn hd _ eh
 have et:upd H3 hd (.lst (hs'++[.ref t])) t=some (.tup [.ref r,.ref c]):=by rw [Z0e (fun z=>by rw [z,h3] at e3; cases e3)]; exact e3
 refine ⟨h3,fun b o n1 n2 e=>?_,T,⟨t,r,c,_,ds++[.str "spoilt"],rfl,free (Z0z s2 ht),hr,free hc,et,?_,?_,fun H5 s5=>RdDs.app (st H5 (T.trans s5)) (.cons (.str _) .nil),NbL.snoc (a:=6) nb Z2N qS⟩,et,cn,nch⟩
 ·rw [Z0e n1]; exact S _ _ (k1 n2 e)
 ·rw [Z0e nr]; exact S _ _ u1
 ·rw [Z0e nch]; exact s3 _ _ u2
end
noncomputable def HeldG (K:y9) (G H:Hp) (v:V):Prop:=∃ t r c xs ds,v=.ref t∧G t=some (.tup [.ref r,.ref c])∧G r=some (.lst xs)∧G c=some (.lst xs)∧Stay K H xs ds∧NbL 3 500000 ds
section
variable {K:y9} {G H H':Hp}
theorem HeldG.t {G':Hp} {v:V} (h:HeldG K G H v) (s:Same G G') (t:SameT H H'):HeldG K G' H' v:=by
 obtain ⟨t0,r,c,xs,ds,e,h1,h2,h3,h4,h5⟩:=h
 exact ⟨t0,r,c,xs,ds,e,s _ _ h1,s _ _ h2,s _ _ h3,fun H5 s5=>h4 H5 (t.trans s5),h5⟩
end
structure POn (K:y9) (S:y8→Prop) (A:PA) (P:Mach.Prog) (s:MS) (H:Hp):Prop where
 sub:∀ a,S a→H a≠none
 p:MM.PS K (fun a=>H a≠none∧¬ S a) A P s H
section
variable {CM CP:y8} {K:y9} {S:y8→Prop} {A A':PA} {P:Mach.Prog} {s s':MS} {G H H':Hp}
theorem POn.own (M:POn K S A P s H):S A.st∧S A.pd∧S A.fa∧S A.ta:=by
 obtain ⟨n1,n2,n3,n4⟩:=M.p.nex
 have go:∀ {a:y8} {u:HO},H a=some u→¬ (H a≠none∧¬ S a)→S a:=fun {a u} e n=>qg4 fun z=>n ⟨(by rw [e]; exact fun y=>by cases y),z⟩
 obtain ⟨_,e1,_⟩:=M.p.d
 obtain ⟨_,e2⟩:=M.p.pdk
 obtain ⟨_,e3,_⟩:=M.p.stk
 obtain ⟨_,e4,_⟩:=M.p.mad
 exact ⟨go e1 n1,go e2 n2,go e3 n3,go e4 n4⟩
theorem POn.beside (M:POn K S A P s H) (t:SameT H H') (k:∀ a,S a→H' a=H a):POn K S A P s H':=by
 obtain ⟨w1,w2,w3,w4⟩:=M.own
 have M1:=M.p
 refine ⟨fun a h=>by rw [k a h]; exact M.sub a h,{
  d:=let ⟨v,a,b⟩:=M1.d; ⟨v,by rw [k _ w1]; exact a,b.t t⟩
  rep:=?_
  stk:=let ⟨ss,a,b⟩:=M1.stk; ⟨ss,by rw [k _ w3]; exact a,Pd.imp (fun _ _ q=>FrV.t q t) b⟩
  mad:=let ⟨ms,a,b⟩:=M1.mad; ⟨ms,by rw [k _ w4]; exact a,Pd.imp (fun _ _ q=>ThV.t q t) b⟩
  nft:=M1.nft
  nsp:=M1.nsp
  nex:=⟨fun z=>z.2 w1,fun z=>z.2 w2,fun z=>z.2 w3,fun z=>z.2 w4⟩
  exs:=fun a z=>z.1 }⟩
 obtain ⟨kvs,a,b,c⟩:=M1.rep
 refine ⟨kvs,by rw [k _ w2]; exact a,b,fun j=>?_⟩
 have:=c j
 revert this
 cases s.mem j with
 | none=>exact id
 | some ps=>
  rintro ⟨l,h1,h2,rs,h3,h4⟩
  have sl:S l:=qg4 fun z=>h2 (.inr (.inr ⟨(by rw [h3]; exact fun y=>by cases y),z⟩))
  refine ⟨l,h1,fun z=>?_,rs,by rw [k _ sl]; exact h3,Prs.mono (fun t' xs e=>(t t' xs).1 e) h4⟩
  rcases z with z | z | z
  ·exact h2 (.inl z)
  ·exact h2 (.inr (.inl z))
  ·exact z.2 sl
theorem POn.wrote (M:POn K S A P s H) (k:Keep (fun a=>H a≠none∧¬ S a) H H') (M':MM.PS K (fun a=>H a≠none∧¬ S a) A' P s' H'):POn K (fun a=>H' a≠none∧(H a≠none→S a)) A' P s' H':=by
 refine ⟨fun a h=>h.1,?_⟩
 have e:(fun a=>H' a≠none∧¬ (H' a≠none∧(H a≠none→S a)))=fun a=>H a≠none∧¬ S a:=by
  funext a
  refine propext ⟨fun h=>?_,fun h=>⟨M'.exs a h,fun z=>h.2 (z.2 h.1)⟩⟩
  refine qg4 fun z=>h.2 ⟨h.1,fun y=>qg4 fun w=>z ⟨y,w⟩⟩
 rw [e]
 exact M'
structure Tw (CM CP:y8) (K:y9) (G H:Hp) (hd:y8) (S1 S2:y8→Prop) (o:MO) (A:PA) (P:Mach.Prog) (s1 s2:MS) (hs:List V):Prop where
 g:Same G H
 m:MOn CM CP K S1 o P s1 H
 p:POn K S2 A P s2 H
 d:∀ a,S1 a→¬ S2 a
 g1:∀ a,S1 a→G a=none
 g2:∀ a,S2 a→G a=none
 n:¬ S1 hd∧¬ S2 hd
 h:H hd=some (.lst hs)∧G hd=none∧∀ v∈hs,HeldG K G H v
variable {hd:y8} {S1 S2:y8→Prop} {o o':MO} {s1 s2:MS} {hs:List V}
theorem Z6H {S:y8→Prop} (sub:∀ a,S a→H a≠none) (e:Same H H'):∀ a,S a→H' a=H a:=fun a h=>by
 obtain ⟨u,hu⟩:=qc9.mp (sub a h)
 rw [hu]; exact e _ _ hu
theorem Tw.same (L:Tw CM CP K G H hd S1 S2 o A P s1 s2 hs) (e:Same H H'):Tw CM CP K G H' hd S1 S2 o A P s1 s2 hs:=
 ⟨L.g.trans e,L.m.beside (Same.t e) (Z6H L.m.sub e),L.p.beside (Same.t e) (Z6H L.p.sub e),L.d,L.g1,L.g2,L.n,e _ _ L.h.1,L.h.2.1,fun v hv=>(L.h.2.2 v hv).t (Same.refl _) (Same.t e)⟩
theorem Tw.held (L:Tw CM CP K G H hd S1 S2 o A P s1 s2 hs) {u v:V} (k:∀ b o,b≠hd→H b=some o→H' b=some o) (t:SameT H H') (eh:H' hd=some (.lst (hs++[u,v]))) (hu:Held K H H' H' u) (hv:Held K H H' H' v):∃ G',Same G G'∧Tw CM CP K G' H' hd S1 S2 o A P s1 s2 (hs++[u,v]):=by
 obtain ⟨G',hG⟩:∃ G':Hp,∀ a,G' a=match H a with | none=>H' a | some _=>G a:=⟨fun a=>match H a with | none=>H' a | some _=>G a,fun _=>rfl⟩
 have gn:∀ {a},H a=none→G' a=H' a:=fun {a} e=>by rw [hG,e]
 have gs:∀ {a u},H a=some u→G' a=G a:=fun {a u} e=>by rw [hG,e]
 have sg:Same G G':=fun a o e=>by rw [gs (L.g _ _ e)]; exact e
 have ne:∀ {a o},G a=some o→a≠hd:=fun {a o} e z=>by rw [z,L.h.2.1] at e; cases e
 have new:∀ {v},Held K H H' H' v→HeldG K G' H' v:=fun {v} h=>by
  obtain ⟨t0,r,c,xs,ds,e,n1,n2,n3,h1,h2,h3,h4,h5⟩:=h
  exact ⟨t0,r,c,xs,ds,e,by rw [gn n1]; exact h1,by rw [gn n2]; exact h2,by rw [gn n3]; exact h3,h4,h5⟩
 have st:∀ {S:y8→Prop},(∀ a,S a→H a≠none)→¬ S hd→∀ a,S a→H' a=H a:=fun {S} sub n a h=>by
  obtain ⟨o,e⟩:=qc9.mp (sub a h)
  rw [e]
  exact k a o (fun z=>n (z▸h)) e
 have gg:∀ {S:y8→Prop},(∀ a,S a→H a≠none)→(∀ a,S a→G a=none)→∀ a,S a→G' a=none:=fun {S} sub n a h=>by
  obtain ⟨o,e⟩:=qc9.mp (sub a h)
  rw [gs e]
  exact n a h
 refine ⟨G',sg,fun a o e=>?_,L.m.beside t (st L.m.sub L.n.1),L.p.beside t (st L.p.sub L.n.2),L.d,gg L.m.sub L.g1,gg L.p.sub L.g2,L.n,eh,by rw [gs L.h.1]; exact L.h.2.1,fun w hw=>?_⟩
 ·cases z:H a with
  | none=>rw [gn z] at e; exact e
  | some u=>
   rw [gs z] at e
   exact k a o (ne e) (L.g _ _ e)
 ·rcases qd9.mp hw with e | e
  ·exact (L.h.2.2 w e).t sg t
  ·rcases qa8.mp e with e | e
   ·rw [e]; exact new hu
   ·cases qc3.mp e; exact new hv
theorem kept {S T:y8→Prop} (k:Keep (fun a=>H a≠none∧¬ S a) H H') (sub:∀ a,T a→H a≠none) (d:∀ a,T a→¬ S a):∀ a,T a→H' a=H a:=fun a h=>k.k a ⟨sub a h,d a h⟩
theorem J0n {S:y8→Prop} {a:y8} {u:HO} (k:Keep (fun a=>H a≠none∧¬ S a) H H') (e:H a=some u) (n:¬ S a):H' a=some u:=by rw [k.k a ⟨(by rw [e]; exact fun z=>by cases z),n⟩]; exact e
theorem J5M {S:y8→Prop} (s:Same G H) (h0:∀ a,S a→G a=none):∀ a,(H' a≠none∧(H a≠none→S a))→G a=none:=fun a h=>by
 by_cases z:H a=none
 ·cases e:G a with
  | none=>rfl
  | some o=>rw [s _ _ e] at z; cases z
 ·exact h0 a (h.2 z)
theorem Tw.stepM (L:Tw CM CP K G H hd S1 S2 o A P s1 s2 hs) (k:Keep (fun a=>H a≠none∧¬ S1 a) H H') (M':MAt CM CP K (fun a=>H a≠none∧¬ S1 a) o' P s' H'):∃ S1',Tw CM CP K G H' hd S1' S2 o' A P s' s2 hs:=by
 have dd:∀ a,S2 a→¬ S1 a:=fun a h z=>L.d a z h
 refine ⟨fun a=>H' a≠none∧(H a≠none→S1 a),(fun a u e=>J0n k (L.g _ _ e) fun z=>by rw [L.g1 a z] at e; cases e),L.m.wrote k M',L.p.beside k.t (kept k L.p.sub dd),fun a h z=>dd a z (h.2 (L.p.sub a z)),J5M L.g L.g1,L.g2,⟨fun z=>L.n.1 (z.2 (by rw [L.h.1]; exact fun y=>by cases y)),L.n.2⟩,J0n k L.h.1 L.n.1,L.h.2.1,fun v hv=>(L.h.2.2 v hv).t (Same.refl _) k.t⟩
theorem Tw.stepP (L:Tw CM CP K G H hd S1 S2 o A P s1 s2 hs) (k:Keep (fun a=>H a≠none∧¬ S2 a) H H') (M':MM.PS K (fun a=>H a≠none∧¬ S2 a) A' P s' H'):∃ S2',Tw CM CP K G H' hd S1 S2' o A' P s1 s' hs:=by
 refine ⟨fun a=>H' a≠none∧(H a≠none→S2 a),(fun a u e=>J0n k (L.g _ _ e) fun z=>by rw [L.g2 a z] at e; cases e),L.m.beside k.t (kept k L.m.sub L.d),L.p.wrote k M',fun a h z=>L.d a h (z.2 (L.m.sub a h)),L.g1,J5M L.g L.g2,⟨L.n.1,fun z=>L.n.2 (z.2 (by rw [L.h.1]; exact fun y=>by cases y))⟩,J0n k L.h.1 L.n.2,L.h.2.1,fun v hv=>(L.h.2.2 v hv).t (Same.refl _) k.t⟩
theorem Tw.wk (L:Tw CM CP K G H hd S1 S2 o A P s1 s2 hs) {wd bl tb nl:y8} {nums:List Int} (w:WR K G wd bl tb nl P.blocks P.tables nums):WK K (fun a=>H a≠none∧¬ S2 a) P wd H:=⟨bl,tb,nl,nums,fun H' k=>w.same fun a u e=>J0n k (L.g _ _ e) fun z=>by rw [L.g2 a z] at e; cases e⟩
end
inductive J2v (K:y9) (vs:List V) (H:Hp) (Q:VK):Prop
 | mk (a:y8) (ns:List Int) (a1:vs=[.ref a]) (a2:SqL K H a (ns.map V.int)) (a3:ns.length≤63) (a4:∀ H',Q (.bl true) H'):J2v K vs H Q
def sp_law (K:y9):Sp:=fun vs H Q _=>J2v K vs H Q
theorem sp_law_ok {K:y9} {H:Hp} {a:y8} {ns:List Int} (hl:ns.length≤63) (hS:SqL K H a (ns.map V.int)):sp_law K [.ref a] H (fun v _=>v=.bl true) fun _ _ _=>False:=⟨a,ns,rfl,hS,hl,fun _=>rfl⟩
theorem Z9P {α:Type} {np nk:Nat} {tl us ws:List α} (h:(Z1G np nk tl us ws).length=6):us.length=np∧ws.length=nk:=by
 unfold Z1G at h
 split at h
 ·assumption
 ·cases h
theorem J4I {α:Type} {np:Nat} {m:α} {us ws:List α} (h:(gMid np m us ws).length=6):us.length=np∧ws.length=1:=by
 unfold gMid at h
 split at h
 ·assumption
 ·cases h
def LI2 (CM CP:y8) (K:y9) (H4:Hp) (hd:y8) (P:Mach.Prog) (i0:MS) (ox st:y8) (σ0:Option V→Option V→Option V→St) (k:Nat) (σ:St) (H:Hp):Prop:=∃ G hs S1 S2 o A x8 x9 x10,Same H4 G∧o.x=ox∧A.st=st∧Tw CM CP K G H hd S1 S2 o A P (tr P i0 k) (tr P i0 k) hs∧hs.length≤2 * k∧((tr P i0 k).calls≤P.most∧(tr P i0 k).frames.length≤41)∧σ=σ0 x8 x9 x10
section
theorem ok_law (T:Txt P w K mg O0b O0a O0c) {f:y8} {fd:FuncData} (F:Fun K "law" "law" Z9h f fd):FnOk P w K mg base CX0 20 f fd ["_law_script"] (sp_law K):=by
 have O0i:=J3Y (P:=P) (w:=w) (base:=base) T
 have O0e:=J1r (P:=P) (w:=w) (base:=base) T
 have O0m:=Z8Q (P:=P) (w:=w) (base:=base) T
 have O2X:=J1E (P:=P) (w:=w) (base:=base) T
 have O2Y:=J0o T (m1:=3) (qa0 1) (.inl (qa0 _)) O0e O0m O2X
 have O0H:=J0o T (m1:=4) (show 1≤2 by decide) (.inr (qa0 _)) O0e O0m O2Y
 have O0u:=J3z T O0m O0H
 have O0h:=J3F T O0e O0u
 have O1q:=J0u T O0e O0u O0h
 have O1l:=Z8H (P:=P) (w:=w) (base:=base) T
 have O1m:=Z8t T O0h
 have O0Q:=J1p T O0H O0u
 have O0R:=J1J T O0h O0Q
 have O1E:=J1u T O0h O1q O1l O1m O0R
 have O1i:=J1A T O0e O0h O1E
 have O2Z:=J1f T O0i O0e O0m O1i
 have O0V:=Z9F (P:=P) (w:=w) (base:=base) T
 have O1c:=J0T (P:=P) (w:=w) (base:=base) T
 have O1d:=J1N (P:=P) (w:=w) (base:=base) T
 have O1n:=J3O (P:=P) (w:=w) (base:=base) T
 have O1F:=J3K T O0V (J0A (P:=P) (w:=w) (base:=base) T) (J0c (P:=P) (w:=w) (base:=base) T) O1c O1d O1n (Z6o (P:=P) (w:=w) (base:=base) T)
 have O3i:=J3c T O1F
 have O0q:=J6S (P:=P) (w:=w) (base:=base) T
 have O0A:=Z9g (P:=P) (w:=w) (base:=base) T
 have O0P:=Z8l (P:=P) (w:=w) (base:=base) T
 have O1U:=Z6C T (Z8n (P:=P) (w:=w) (base:=base) T) (Z4P (P:=P) (w:=w) (base:=base) T)
 have O1V:=Z6E T O1U O0A
 have O1W:=J4z T O1V O0A (J1z (P:=P) (w:=w) (base:=base) T)
 have O0l:=J4W (P:=P) (w:=w) (base:=base) T
 have O0G:=J1h (P:=P) (w:=w) (base:=base) T
 have O0I:=J3h (P:=P) (w:=w) (base:=base) T
 have O1k:=J1t T O0I
 have O1B:=J5e T O0I
 have O1I:=J1F T (J0X T O0q O0A) (J3u T O0q O0A) (J0R T O0q O1k O1B) (J0r T O0l O0q O0P) (J0O T O0G O0l) (J1n T O1W O0l)
 have hpi:=J1Y (P:=P) (w:=w) (base:=base) T
 have O1r:=Z4i T [] (fun u1 u2=>Z1G 6 0 (qe4 2 [u1,u2])) (Z1G 6 0 (qe4 2 [V.int 100,V.bl true])) hpi O0P (fun _ _ a b=>Z3O .nil a b) (fun kV doc pm an cdv ct dA u1 u2 us ws h=>by
  obtain ⟨h1,h2⟩:=Z9P h
  rw [Z2y h1 h2]
  exact el6 us h1 fun _ _ _ _ _ _=>el0 ws h2 ⟨_,rfl,rfl⟩)
 have O1t:=Z4i T [] (fun u1 u2=>Z1G 5 0 (qe4 1 [u1,u2])) (Z1G 5 0 (qe4 1 [V.int 100,V.bl true])) hpi O0P (fun _ r a b=>Z3O (.cons r .nil) a b) (fun kV doc pm an cdv ct dA u1 u2 us ws h=>by
  obtain ⟨h1,h2⟩:=Z9P h
  rw [Z2y h1 h2]
  exact el5 us h1 fun _ _ _ _ _=>el0 ws h2 ⟨_,rfl,rfl⟩)
 have O1s:=Z4i T [] (fun u1 u2=>Z1G 4 0 (qe4 0 [u1,u2])) (Z1G 4 0 (qe4 0 [V.int 100,V.bl true])) hpi O0P (fun r1 r a b=>Z3O (.cons r1 (.cons r .nil)) a b) (fun kV doc pm an cdv ct dA u1 u2 us ws h=>by
  obtain ⟨h1,h2⟩:=Z9P h
  rw [Z2y h1 h2]
  exact el4 us h1 fun _ _ _ _=>el0 ws h2 ⟨_,rfl,rfl⟩)
 have O1u:=Z4i T ["remembers"] (fun u1 u2=>gMid 4 u1) (gMid 4 (V.int 100)) hpi O0P (fun r1 _ a b=>J1k r1 a b) (fun kV doc pm an cdv ct dA u1 u2 us ws h=>by
  obtain ⟨h1,h2⟩:=J4I h
  rw [show gMid 4 u1 us ws=us++u1::ws from if_pos ⟨h1,h2⟩]
  exact el4 us h1 fun _ _ _ _=>el1 ws h2 fun _=>⟨_,rfl,rfl⟩)
 have O2D:=J3R T O1r O1s O1t O1u
 have O0o:=J1m (P:=P) (w:=w) (base:=base) T
 have O0s:=J6B (P:=P) (w:=w) (base:=base) T
 have O3a:=J1C (P:=P) (w:=w) (base:=base) T
 have O3q:=J4u (P:=P) (w:=w) (base:=base) T
 have O3j:=J4a T O0o O0s (J3f (P:=P) (w:=w) (base:=base) T) (J1e T O0s) (J3d T O0s) (J3C T O0o O0s) (J3W T O0o O0s (Z9a (P:=P) (w:=w) (base:=base) T))
 refine F.ok O1x (fun vs H Q E h=>?_) (fun cdv A outer s H vs Q E hr h=>?_)
 ·obtain ⟨a,ns,rfl,_⟩:=h
  rfl
 obtain ⟨a,ns,rfl,sq,hl,q⟩:=h
 refine ⟨_,(Z0a (qG 1 O1x.nd (qF O2Z hr (qI (pvF 0))))
  (Z0a (qG 2 O1x.nd (Z0h Z0u (qF O0i hr (qJ (pvF 0) Z0c)) Z0c))
  (Z0a (qG 3 O1x.nd (qD K (Z0s (qJ Z0c (Z0h Z0u (Z0h Z0A (qF O0i hr (qJ (pvF 0) Z0c)) Z0c) Z0c))) (Z0h Z0u (pvF 2) Z0c)))
  (Z0a (qG 4 O1x.nd (J6N (Z1F Z4z (pvF 2) Z0c (Z2j _)) (Z9D (Z1F Z0B (Z0h Z0u (Z0h Z0A (qF O0i hr (qJ (pvF 0) Z0c)) Z0c) Z0c) Z0c (Z2j _)))))
  (Z0a (qG 5 O1x.nd (qF O2D hr (Z0r (pvF 1) (qK (pvF 3) (pvF 4) (pvF 2)))))
  (Z0a (qG 6 O1x.nd (qF O3a hr (qK (pvF 1) (pvF 3) (pvF 4))))
  (Z0a (qG 7 O1x.nd (Z0s Z0N))
  (Z0a (Z2R PassesOwn.never rfl (Z0K rfl T.O0J (qI (Z0h Z2h Z0c (Z0H Z9i rfl T.z_int J4o (qI (Z1F Z3S (pvF 5) Z1d (Z2j _))))))) (qH 8 O1x.nd) (Z0a (qG 9 O1x.nd (qF O3i hr (qJ (pvF 5) (qF O0e hr (qJ (qF O0i hr (qJ (pvF 0) Z0c)) (pvF 8))))))
  (Z0a (Z0t (qM J3w (Z1R (r:=Z8e K) (Z4Z hr.gd hr.units) rfl T.O3w Z9H (qI (pvF 9))) (Z1R (r:=Z8e K) (Z4Z hr.gd hr.units) rfl T.O3w Z9H (qI (qF O3q hr (qI (pvF 6)))))) (Z0b (Z0n Z8r)) Z0o)
  (Z0a (Z2R PassesOwn.never rfl (Z2x (Z0y (r:=rSlL K) Z4y (pvF 9) Z0E (Z0D Z0c))) (qH 10 O1x.nd) (Z0a (Z0j (Z1c qa6 qb3 qb4 Z0q (pvF 10) (qI Z0g)))
  (Z0b (Z0j (Z1c qa6 qb3 qb4 Z0q (pvF 7) (qI (Z0k (qJ (pvF 10) (Z0H Z0L rfl T.O1G Z2w (qI (pvF 10)))))))))))
  (Z0a (Z0t (qM (r:=rEqN K) (Z9T hr.units) (qB hr 6) (Z0s Z0N)) (Z0b (Z0n (J2F (Z1F J5x (Z1y (pvF 5) T.Machine.cl O1I hr qS) Z8r (Z2j _)) (Z9D (Z1F (r:=rEqN K) (Z9T hr.units) (Z4h rfl (BlockOk.plain (N:=["_law_pair"]) rfl qP qP qP) (Z2x (pvF 7))
     (fun C fp s H=>(qH 0 (show (["_law_pair"]:List Str).Nodup by decide +kernel)))
     (fun C fp s H=>(qM (r:=rNeD K) (Z6s hr.units) (qA K 0) (qA K 0))) (fun C fp s H=>(pvF 0))) (Z0s Z0N) (Z2j _)))))) Z0o)
  (Z0a (Z0t (qM Z9A (Z1y (pvF 5) T.Machine.cl O1I hr qS) Z8r) (Z0b (Z0n Z8r)) Z0o)
  (Z0b (Z0j (qF O3j hr (qJ (pvF 1) (pvF 6)))))))))))
  (Z0b (Z0n (J2F (Z1F Z3S (pvF 5) Z1d (Z2j _)) (Z9D (Z1F (r:=rEqN K) (Z9T hr.units) (Z4h rfl (BlockOk.plain (N:=["_law_pair"]) rfl qP qP qP) (Z2x (pvF 7))
     (fun C fp s H=>(qH 0 (show (["_law_pair"]:List Str).Nodup by decide +kernel)))
     (fun C fp s H=>(qM (r:=rNeD K) (Z6s hr.units) (qA K 0) (qA K 0))) (fun C fp s H=>(pvF 0))) (Z0s Z0N) (Z2j _)))))))))))))),?_⟩
 refine seq9 fun uz8 huz8 uz7 huz7 uz6 huz6 uz5 huz5 uz4 huz4 uz3 huz3 uz2 huz2 uz1 huz1=>?_
 walk_at "rd"
 have cell:∀ (k:Nat) {H':Hp} {Q':VK} {E':XK},Same H H'→(∀ c,Q' (.int c) H')→Z5v K [.ref a,.int (k:Int)] H' Q' E':=fun k H' Q' E' s h=>⟨a,ns,k,rfl,sq.same s,h⟩
 refine ⟨a,ns,rfl,sq,fun wd bl tb nl W ss bks tabs nums H1 s1 hw g=>?_⟩
 subst huz1
 walk_at "rd"
 refine cell 7 s1 fun c=>⟨c,rfl,?_⟩
 obtain ⟨way,ew,w3⟩:∃ n:Nat,c % 4=n∧n≤3:=⟨(c % 4).toNat,qR,qR⟩
 rw [ew]
 have go:∀ {H4:Hp} {mo:Nat} {re:Bool},Same H1 H4→mo≤100→(way=0→mo=100∧re=true)→(way=1→re=true)→(way=2→mo=100)→uz4 { nx:=fun x H'=>Q V.non H',rt:=Q } [some (.ref a),some (.ref wd),some (.int way),some (.int mo),some (.bl re),none,none,none,none,none,none] H4:=by
  intro H4 mo re s4 mo1 y0 y1 y2
  obtain ⟨front,b,told,eb,_⟩:=g.mn
  obtain ⟨g1,g2,g3,g4,gd⟩:=g.gd eb mo re g.nn.1 rfl
  have hw4:=hw.same s4
  subst huz4
  walk_at "rd"
  refine ⟨wd,bl,tb,nl,W,ss,bks,tabs,nums,front,b,mo,re,way,rfl,hw4,g,eb,w3,y0,y1,y2,fun o H5 S1 s5 M5 n5=>?_⟩
  subst huz5
  walk_at "rd"
  refine ⟨wd,bl,tb,nl,bks,tabs,nums,front,b,mo,re,rfl,hw4.same s5,g.nn.1,eb,g1,g2,g3,fun A' H6 s6 P6=>?_⟩
  generalize hPp:(⟨bks,tabs,mo,re⟩:Mach.Prog)=Pp at gd M5 P6
  generalize hi0:Z6A b front.length nums=i0 at gd M5 P6
  subst huz6
  walk_at "rd"
  refine New.of fun hd H7 h7 s7 e7=>?_
  have P6':POn K (fun a=>H6 a≠none∧H5 a=none) A' Pp i0 H6:=by
   refine ⟨fun a h=>h.1,?_⟩
   have e:(fun a=>H6 a≠none∧¬ (H6 a≠none∧H5 a=none))=fun a=>H5 a≠none:=by
    funext a
    refine propext ⟨fun h z=>h.2 ⟨h.1,z⟩,fun h=>⟨P6.exs a h,fun z=>h z.2⟩⟩
   rw [e]
   exact P6
  have s67:=s6.trans s7
  have L0:Tw O0a O0b K H4 H7 hd S1 (fun a=>H6 a≠none∧H5 a=none) o A' Pp i0 i0 []:=⟨s5.trans s67,M5.grow s67,P6'.beside (Same.t s7) (Z6H P6'.sub s7),(fun a h z=>M5.sub a h z.2),n5,(fun a h=>Z0z s5 h.2),⟨fun z=>M5.sub hd z (Z0z s6 h7),fun z=>z.1 h7⟩,e7,Z0z (s5.trans s6) h7,fun v hv=>by cases hv⟩
  have hwG:WR K H4 wd bl tb nl Pp.blocks Pp.tables nums:=by rw [← hPp]; exact hw4
  have cm0:i0.calls≤Pp.most∧i0.frames.length≤41:=by rw [← hi0]; exact ⟨qa4 _,by show 1≤41; omega⟩
  have chk:∀ {G H2:Hp} {S1 S2:y8→Prop} {o:MO} {A:PA} {s1 s2:MS} {hs:List V} {σ:St},Tw O0a O0b K G H2 hd S1 S2 o A Pp s1 s2 hs→hs.length≤1000→(∃ xs,SqL K H2 hd xs)∧∀ D:y8,H2 D=none→Z3z (Itl K hd) (Z2A 0) (Z6F (tOp (rNeD K) (tOp (Z4C K) (Z3s 0) (tC (.int 0))) (tOp (Z4C K) (Z3s 0) (tC (.int 1))))) (Z3s 0) D (fun x H1=>New H1 (.lst []) fun p H2=>∃ a,x=.ref a∧∃ x,SqL K H2 a x∧SqL K H2 p []∧Q (.bl x.isEmpty) H2) (stOf [none] σ) (upd H2 D (.lst [])):=by
   intro G H2 S1 S2 o A s1 s2 hs σ Ld lh
   refine ⟨⟨_,SqL.of Ld.h.1⟩,fun Dz hDz=>Z9J none [] (fun _=>false) rfl hDz (by rw [sizeLine_eq]; omega) (fun He se=>SqL.of (se _ _ Ld.h.1)) ?_ ?_⟩
   ·intro i y hy He K' se kk
    obtain ⟨t,r0,c0,xs,ds,rfl,w1,w2,w3,w4,w5⟩:=Ld.h.2.2 y (qb9 hy)
    have Se:=Ld.g.trans se
    have rd:=w4 He (Same.t se)
    have sh:SeqAt.shaped (.list ds)=true:=(Nb.lst w5).shaped qS
    walk_at "rd"
    refine ⟨_,SqT.of (Se _ _ w1),_,rfl,_,SqT.of (Se _ _ w1),_,rfl,.list ds,.lst (SqL.of (Se _ _ w2)) rd,.list ds,.lst (SqL.of (Se _ _ w3)) rd,sh,sh,?_⟩
    rw [PySem.SeqAt.eqv_refl _ (Nb.lst w5).lay]
    exact kk _ (Same.refl _)
   ·intro zs He se ez _ hz
    have:zs=[]:=hz fun _ _=>rfl
    subst this
    exact New.of fun l0 Hf hf sf ef=>⟨Dz,rfl,_,SqL.of (sf _ _ ez),SqL.of ef,q _⟩
  subst huz7
  walk_at "rd"
  refine .inr (Z1h (LI2 O0a O0b K H4 hd Pp i0 o.x A'.st (fun x8 x9 x10=>[some (.ref a),some (.ref wd),some (.int way),some (.int mo),some (.bl re),some (.ref o.x),some (.ref A'.st),some (.ref hd),x8,x9,x10])) ⟨H4,[],S1,_,o,A',none,none,none,Same.refl _,rfl,rfl,L0,qa0 _,cm0,rfl⟩ (fun k σ Hc hk hI=>?_) (fun σ Hc hI=>?_))
  ·obtain ⟨G,hs,S1',S2',o1,A1,x8,x9,x10,sG,eo,eA,L,lhs,cm,rfl⟩:=hI
   rw [qe6]
   refine seq6 fun uy5 huy5 uy4 huy4 uy3 huy3 uy2 huy2 uy1 huy1=>?_
   walk_at "rd"
   generalize hJ:LI2 O0a O0b K H4 hd Pp i0 o.x A'.st (fun x8 x9 x10=>[some (.ref a),some (.ref wd),some (.int way),some (.int mo),some (.bl re),some (.ref o.x),some (.ref A'.st),some (.ref hd),x8,x9,x10]) (k+1)=J
   refine cell 7 (s1.trans (s4.trans (sG.trans L.g))) fun c7=>⟨c7,_,rfl,fun r hr=>⟨_,o1,Pp,tr Pp i0 k,r,by rw [eo],L.m.m,fun l f t Hd sd rd=>?_⟩⟩
   have nb:=Z9k gd (k:=k) qR rd
   obtain ⟨p1,p2,p3,p4⟩:=nb.2.rp qS qS
   have Ld:=L.same sd
   subst huy1
   walk_at "rd"
   refine ⟨_,nb.1,p1,p2,p3,p4,_,A1,Pp,tr Pp i0 k,by rw [eA],Ld.p.p,fun l2 f2 t2 He se re2=>⟨l2,rfl,?_⟩⟩
   have nb2:=Z9k gd (k:=k) qR re2
   refine ⟨_,nb2.1,p1,p2,p3,p4,?_⟩
   rw [if_neg (fun z=>z rfl)]
   obtain ⟨fl,ff,ft,nft,nfl,ntl,e,us,ms,q1,q2,q3,q4,q5,q6⟩:=rd
   subst huy2
   walk_at "rd"
   refine ⟨_,SqL.of (se _ _ q1),New.of fun p Hf hp sp ep=>⟨⟨_,SqL.of ep⟩,?_⟩⟩
   have ep:Hf p=some (.lst [.ref f,.ref t]):=ep
   have sf:=se.trans sp
   have hhd:=L.h.1
   have s0f:=sd.trans sf
   refine Z6k [.ref f,.ref t] (RII K Hd Hc hd hs p f t us ms (fun x=>[some (.ref a),some (.ref wd),some (.int way),some (.int mo),some (.bl re),some (.ref o.x),some (.ref A'.st),some (.ref hd),some (.int k),some (.ref l),x])) ⟨x10,rfl,Same.t sf,s0f,s0f _ _ hhd,ep,sf _ _ q3,sf _ _ q5⟩ (fun i σ H' _ hI=>?_) (fun i x σ H' hx hI=>?_) (fun σ H' hI=>?_)
   ·exact SqL.of hI.slice
   ·have stf:∀ {H'},SameT Hd H'→Stay K H' us ((tr Pp i0 k).frames.reverse.map frE):=fun {H'} t5 H5 s5=>(J0B gd (k:=k) qR (Pd.imp (fun _ _ h=>h.t (t5.trans s5)) q4)).1
    have stt:∀ {H'},SameT Hd H'→Stay K H' ms ((tr Pp i0 k).made.map thE):=fun {H'} t5 H5 s5=>(Z9Q gd (k:=k) qR (Pd.imp (fun _ _ h=>h.t (t5.trans s5)) q6)).1
    have nbf:=(J0B gd (k:=k) qR q4).2.mono (qa0 3) (show 469761≤490000 by decide)
    have nbt:=(Z9Q gd (k:=k) qR q6).2.mono (qa0 3) (show 29460≤490000 by decide)
    have nfh:f≠hd:=fun z=>by rw [z,hhd] at ff; cases ff
    have nth:t≠hd:=fun z=>by rw [z,hhd] at ft; cases ft
    have npx:p≠f∧p≠t∧p≠hd:=⟨(fun z=>by rw [z,se _ _ q3] at hp; cases hp),(fun z=>by rw [z,se _ _ q5] at hp; cases hp),(fun z=>by rw [z,(sd.trans se) _ _ hhd] at hp; cases hp)⟩
    have lss:us.length≤1000:=by have:=q4.length; rw [qc2] at this; have:=(gd.sz k).z.fl; omega
    have lms:ms.length≤1000:=by have:=q6.length; have:=(gd.sz k).z.md; omega
    have lh1:∀ u,(hs++[u]).length≤1001:=fun u=>by rw [qa1]; show _+1≤_; omega
    match i,hI with
    | 0,⟨y,ey,tq,s',hh,hp',hf,ht⟩=>
     subst ey
     cases hx
     walk_at "rd"
     refine ⟨.inl ⟨rfl,_,SqL.of hf⟩,_,hf,qR,.inl ⟨rfl,_,SqL.of (show upd H' f _ hd=_ by rw [Z0e nfh.symm]; exact hh)⟩,_,.inl (SqL.of Z0d),fun c hc=>New.of fun t3 H3 ht3 s3 e3=>?_⟩
     obtain ⟨w1,w2,w3,w4,w5,w6,w7⟩:=Z7J (fun b o _ e=>s' b o e) ff hf hh nfh (stf tq) nbf hc ht3 s3 e3
     refine ⟨_,w1,qR,_,rfl,tq.trans w3,fun b o n e=>w2 b o n (fun z=>by rw [z,ff] at e; cases e) (s' b o e),(Same.t s').trans w3,w2 _ _ npx.2.2 npx.1 hp',w2 _ _ nth nft.symm ht,.ref t3,Z0d,w4,fun tu r c' eu e=>?_⟩
     injection eu with eu
     rw [← eu,w5] at e
     cases e
     exact ⟨nft,w6 t _ ht,nfh,w7⟩
    | 1,⟨y,ey,tq,k',t',hp',ht,u,hh,hu,nu⟩=>
     subst ey
     cases hx
     walk_at "rd"
     refine ⟨.inl ⟨rfl,_,SqL.of ht⟩,_,ht,qR,.inl ⟨rfl,_,SqL.of (show upd H' t _ hd=_ by rw [Z0e nth.symm]; exact hh)⟩,_,.inl (SqL.of Z0d),fun c hc=>New.of fun t3 H3 ht3 s3 e3=>?_⟩
     obtain ⟨w1,w2,w3,w4,w5,w6,w7⟩:=Z7J k' ft ht hh nth (stt tq) nbt hc ht3 s3 e3
     refine ⟨_,w1,by have:=lh1 u; omega,_,rfl,fun b o n e=>w2 b o n (fun z=>by rw [z,ft] at e; cases e) (k' b o n e),t'.trans w3,w2 _ _ npx.2.2 npx.2.1 hp',u,.ref t3,by rw [Z0d,qc7]; rfl,?_,w4⟩
     obtain ⟨tu,r,c0,xs,ds,rfl,z1,z2,z3,z4,z5,z6,z7,z8⟩:=hu
     obtain ⟨y1,y2,y3,y4⟩:=nu tu r c0 rfl z4
     exact ⟨tu,r,c0,xs,ds,rfl,z1,z2,z3,(w3 _ _).1 z4,w2 _ _ y3 y1 z5,w2 _ _ y4 y2 z6,fun H5 s5=>z7 H5 (w3.trans s5),z8⟩
    | n+2,_=>cases hx
   obtain ⟨y,ey,k',t',_,u,v,hh,hu,hv⟩:=hI
   subst ey
   obtain ⟨G2,sG2,Lq⟩:=L.held k' t' hh hu hv
   clear nb2 re2 nb
   have lh2:(hs++[u,v]).length≤2 * (k+1):=by rw [qa1]; show _+2≤_; omega
   generalize hs++[u,v]=hs2 at Lq lh2
   obtain ⟨us3,u1,u2⟩:=Lq.p.p.stk
   have lus3:us3.length=(tr Pp i0 k).frames.length:=by rw [u2.length,qc2]
   have fre:((tr Pp i0 k).ended=none∧(tr Pp i0 k).frames≠[])∨((tr Pp i0 k).ended≠none∧(tr Pp i0 k).frames=[]):=by
    obtain ⟨W',ss',t1,t2⟩:=gd.ty
    rcases (J0w t1 t2 k).fr with ⟨e,f,fs,_,_,_,_,ef,_⟩ | ⟨e,ef⟩
    ·exact .inl ⟨e,by rw [ef]; exact fun z=>by cases z⟩
    ·exact .inr ⟨e,ef⟩
   subst huy3
   walk_at "rd"
   rw [← eA]
   refine ⟨_,Lq.p.p.get.1,New.of fun p5 H5 _ s5 e5=>⟨A1.fa,rfl,_,SqL.of (s5 _ _ u1),SqL.of e5,?_⟩⟩
   have L5:=Lq.same s5
   obtain ⟨v5,hx5,_⟩:=L5.m.m.ins
   rcases fre with ⟨en,fn⟩ | ⟨en,fn⟩
   ·rw [if_neg (show ¬ us3.isEmpty=true from fun z=>fn (by rw [List.isEmpty_iff.mp z] at lus3; exact qm0.mp lus3.symm))]
    subst huy4
    walk_at "rd"
    rw [eo] at hx5
    refine ⟨o1.dx,_,hx5,rfl,_,o1,Pp,_,by rw [eo],L5.m.m,.inr ⟨k,_,gd.step k en,(gd.sz k).z,gd.ps,qR,fun o2 H6 eo2 k6 M6=>⟨true,rfl,?_⟩⟩⟩
    rw [if_neg (show ¬ (true == true)=false from qi1)]
    obtain ⟨S1q,L6⟩:=L5.stepM k6 M6
    subst huy5
    walk_at "rd"
    refine ⟨_,A1,Pp,tr Pp i0 k,_,wd,k,rfl,L6.p.p,L6.wk (hwG.same (sG.trans sG2)),gd.step k en,gd.str k,cm.1,cm.2,(gd.sz k).z,qR,gd.ps,fun B H7 eB k7 N7=>?_⟩
    obtain ⟨S2q,L7⟩:=L6.stepP k7 N7
    subst hJ
    exact ⟨G2,hs2,S1q,S2q,o2,B,_,_,_,sG.trans sG2,eo2.trans eo,eB.trans eA,L7,lh2,J3i (gd.step k en) cm.1 cm.2,by rw [← eA]⟩
   ·rw [if_pos (show us3.isEmpty=true by rw [fn] at lus3; exact List.isEmpty_iff.mpr (qm0.mp lus3))]
    rw [eo] at hx5
    refine ⟨o1.dx,_,hx5,rfl,_,o1,Pp,_,by rw [eo],L5.m.m,.inl ⟨en,false,rfl,?_⟩⟩
    rw [if_pos (show (false == false)=true from rfl)]
    exact chk L5 qR
  ·obtain ⟨G,hs,S1',S2',o1,A1,x8,x9,x10,sG,eo,eA,L,lhs,cm,rfl⟩:=hI
   subst huz8
   walk_at "rd"
   exact chk L qR
 subst huz2
 walk_at "rd"
 refine cell 7 s1 fun c2=>⟨c2,rfl,New.of fun l2 H2 _ s2 e2=>?_⟩
 subst huz3
 walk_at "rd"
 obtain ⟨mo,mo1,eat,hmo⟩:∃ mo:Nat,mo≤100∧atI [V.int 100,V.int (c2 / 4 % 21)] ((way:Int) % 2)=some (.int mo)∧(way % 2=0→mo=100):=by
  rcases (show way % 2=0∨way % 2=1 by omega) with e | e
  ·exact ⟨100,qa0 _,by rw [show (way:Int) % 2=0 by omega]; rfl,fun _=>rfl⟩
  ·refine ⟨(c2 / 4 % 21).toNat,qR,?_,fun z=>by omega⟩
   rw [show (way:Int) % 2=1 by omega,show (((c2 / 4 % 21).toNat:Nat):Int)=c2 / 4 % 21 by omega]; rfl
 refine ⟨_,SqL.of e2,_,eat,ite2 (fun z=>go s2 mo1 (fun z=>⟨hmo qR,rfl⟩) (fun _=>rfl) (fun z=>hmo qR)) (fun z=>cell 7 (s1.trans s2) fun c3=>⟨c3,rfl,go s2 mo1 (fun z=>by omega) (fun z=>by omega) (fun z=>hmo qR)⟩)⟩
end
end K62
end
end
open PySem PySem.W PyProof.Rows
set_option maxRecDepth 100000 in
set_option maxHeartbeats 0 in
theorem PySem.Challenge.cw_elderhouse_k62_each_row_holds : PySem.Challenge.rw_elderhouse_k62_each_row.Holds := by
 w_on
 refine holds_law K62.ws0 fun said=>?_
 refine holds_open (q:=K62.qv) (loose:=["ROW_SIGNS"]) (Xt:=fun s=>xlAt K62.qv [] s&&recOk (RowW.records K62.rv) s) (XP:=XL K62.qv []) (Yf:=Hook.obs (kHook K62.KK K62.KA K62.ka_eq)) (Ya:=Hook.val (kHook K62.KK K62.KA K62.ka_eq)) (YP:=Hook.says (kHook K62.KK K62.KA K62.ka_eq)) (N:=5000) K62.left (Hook.of (kHook K62.KK K62.KA K62.ka_eq)) (Hook.keeps (kHook K62.KK K62.KA K62.ka_eq)) (fun s e=>xl_of s (qk0.mp e).1) XL.keeps (by rfl) (by rfl) (by rfl) (fun s e=>recFacts_of (qk0.mp e).2) (by rfl) said qP ⟨rfl,rfl,rfl,rfl,rfl,qP⟩ ?hw ?hc
 case hw=>w_witness2
 k_fill
 refine L2.J1P (l:=rw0) (n:=63) (k:=20) (x:="_law_script") (CX:=L2.CX0) (sp:=K62.sp_law) rfl qQ rfl ⟨rfl,qQ,qQ,rfl⟩ (fun w h Y=>W.kIn_of Y) ?F ?S (fun _ _ _ _ z=>z)
 case F=>
  intro w mg fa h KX G hmg
  have T:∃ O0b O0a O0c,K62.Txt (rw0.prog) w (L2.KOf KX) mg O0b O0a O0c:=by
   dsimp only [L2.KOf]
   refine' ⟨_,_,_,K62.Txt.mk (W.mg_none_of KX G ?x0) (W.mg_none_of KX G ?x1) (W.mg_none_of KX G ?x2) (W.mg_none_of KX G ?x3) (W.mg_none_of KX G ?x4) (W.mg_none_of KX G ?x5) (W.mg_none_of KX G ?x6) (W.mg_none_of KX G ?x7) (W.mg_none_of KX G ?x8) (W.mg_none_of KX G ?x9) (L2.Z6K KX G ?x10) (L2.Z6K KX G ?x11) (L2.Z6K KX G ?x12) (L2.J3I KX G ?x13) (L2.J1y ?x14 ?x15 ?x16 ?x17 qQ ?x18) (L2.Z1e KX G ?x19 ?x20 ?x21 ?x22) (L2.Z1e KX G ?x23 ?x24 ?x25 ?x26) (L2.Z1e KX G ?x27 ?x28 ?x29 ?x30) (L2.Z1e KX G ?x31 ?x32 ?x33 ?x34) (L2.Z1e KX G ?x35 ?x36 ?x37 ?x38) (L2.Z1e KX G ?x39 ?x40 ?x41 ?x42) (L2.Z1e KX G ?x43 ?x44 ?x45 ?x46) (L2.Z1e KX G ?x47 ?x48 ?x49 ?x50) (L2.Z1e KX G ?x51 ?x52 ?x53 ?x54) (L2.Z1e KX G ?x55 ?x56 ?x57 ?x58) (L2.Z1e KX G ?x59 ?x60 ?x61 ?x62) (L2.Z1e KX G ?x63 ?x64 ?x65 ?x66) (L2.Z1e KX G ?x67 ?x68 ?x69 ?x70) (L2.Z1e KX G ?x71 ?x72 ?x73 ?x74) (L2.Z1e KX G ?x75 ?x76 ?x77 ?x78) (L2.Z1e KX G ?x79 ?x80 ?x81 ?x82) (L2.Z1e KX G ?x83 ?x84 ?x85 ?x86) (L2.Z1e KX G ?x87 ?x88 ?x89 ?x90) (L2.Z1e KX G ?x91 ?x92 ?x93 ?x94) (L2.Z1e KX G ?x95 ?x96 ?x97 ?x98) (L2.Z1e KX G ?x99 ?x100 ?x101 ?x102) (L2.Z1e KX G ?x103 ?x104 ?x105 ?x106) (L2.Z1e KX G ?x107 ?x108 ?x109 ?x110) (L2.Z1e KX G ?x111 ?x112 ?x113 ?x114) (L2.Z1e KX G ?x115 ?x116 ?x117 ?x118) (L2.Z1e KX G ?x119 ?x120 ?x121 ?x122) (L2.Z1e KX G ?x123 ?x124 ?x125 ?x126) (L2.Z1e KX G ?x127 ?x128 ?x129 ?x130) (L2.Z1e KX G ?x131 ?x132 ?x133 ?x134) (L2.Z1e KX G ?x135 ?x136 ?x137 ?x138) (L2.Z1e KX G ?x139 ?x140 ?x141 ?x142) (L2.Z1e KX G ?x143 ?x144 ?x145 ?x146) (L2.Z1e KX G ?x147 ?x148 ?x149 ?x150) (L2.Z1e KX G ?x151 ?x152 ?x153 ?x154) (L2.Z1e KX G ?x155 ?x156 ?x157 ?x158) (L2.Z1e KX G ?x159 ?x160 ?x161 ?x162) (L2.Z1e KX G ?x163 ?x164 ?x165 ?x166) (L2.Z1e KX G ?x167 ?x168 ?x169 ?x170) (L2.J2n KX G ?x171 ?pg_Places ?hd_Places ?po_Places ?sa_Places ?mk_Places ?kp_Places) (L2.Z0W ?x172) (L2.J2n KX G ?x173 ?pg_Machine ?hd_Machine ?po_Machine ?sa_Machine ?mk_Machine ?kp_Machine) (L2.Z0W ?x174) (L2.Z0W ?x175) (L2.Z0W ?x176) (L2.Z0W ?x177) (L2.Z0W ?x178) (L2.Z0W ?x179) (L2.Z0W ?x180) (L2.Z0W ?x181) (L2.Z0W ?x182) (L2.Z0W ?x183) (L2.Z0W ?x184) (L2.Z0W ?x185) (L2.Z1w ?x186 ?x187 ?x188 ?x189 ?x190) (L2.Z1w ?x191 ?x192 ?x193 ?x194 ?x195) (L2.Z1w ?x196 ?x197 ?x198 ?x199 ?x200) (L2.Z1w ?x201 ?x202 ?x203 ?x204 ?x205) (L2.J2S ?x206 ?x207 ?x208 ?x209 ?x210 ?x211 ?x212 ?x213 ?x214) (L2.Z1w ?x215 ?x216 ?x217 ?x218 ?x219) (L2.Z1w ?x220 ?x221 ?x222 ?x223 ?x224) (L2.Z1w ?x225 ?x226 ?x227 ?x228 ?x229) (L2.Z1w ?x230 ?x231 ?x232 ?x233 ?x234) (L2.Z1w ?x235 ?x236 ?x237 ?x238 ?x239) (L2.Z1w ?x240 ?x241 ?x242 ?x243 ?x244) (L2.Z1w ?x245 ?x246 ?x247 ?x248 ?x249) (L2.Z1w ?x250 ?x251 ?x252 ?x253 ?x254) (L2.Z1w ?x255 ?x256 ?x257 ?x258 ?x259) (L2.Z1w ?x260 ?x261 ?x262 ?x263 ?x264) (L2.Z1w ?x265 ?x266 ?x267 ?x268 ?x269) (L2.Z1w ?x270 ?x271 ?x272 ?x273 ?x274) (L2.Z1w ?x275 ?x276 ?x277 ?x278 ?x279) (L2.Z1w ?x280 ?x281 ?x282 ?x283 ?x284) (L2.Z1w ?x285 ?x286 ?x287 ?x288 ?x289) (L2.Z1w ?x290 ?x291 ?x292 ?x293 ?x294)⟩
   (case x0|x1|x2|x3|x4|x5|x6|x7|x8|x9|x10|x11|x12|x13|x14=>k_is);(case x15=>exact ⟨rfl,rfl,rfl⟩);(case x16=>exact rfl);(case x17=>exact .cons rfl rfl ⟨_,rfl⟩ (.cons rfl rfl ⟨_,rfl⟩ (.cons rfl rfl ⟨_,rfl⟩ (.cons rfl rfl ⟨_,rfl⟩ (.cons rfl rfl ⟨_,rfl⟩ (.cons rfl rfl ⟨_,rfl⟩ (.nil)))))));(case x18=>exact rfl);(case x19|x20|x21|x22|x23|x24|x25|x26|x27|x28|x29|x30|x31|x32|x33|x34|x35|x36|x37|x38|x39|x40|x41|x42|x43|x44|x45|x46|x47|x48|x49|x50|x51|x52|x53|x54|x55|x56|x57|x58|x59|x60|x61|x62|x63|x64|x65|x66|x67|x68|x69|x70|x71|x72|x73|x74|x75|x76|x77|x78|x79|x80|x81|x82|x83|x84|x85|x86|x87|x88|x89|x90|x91|x92|x93|x94|x95|x96|x97|x98|x99|x100|x101|x102|x103|x104|x105|x106|x107|x108|x109|x110|x111|x112|x113|x114|x115|x116|x117|x118|x119|x120|x121|x122|x123|x124|x125|x126|x127|x128|x129|x130|x131|x132|x133|x134|x135|x136|x137|x138|x139|x140|x141|x142|x143|x144|x145|x146|x147|x148|x149|x150|x151|x152|x153|x154|x155|x156|x157|x158|x159|x160|x161|x162|x163|x164|x165|x166|x167|x168|x169|x170|x171|pg_Places|hd_Places|po_Places|sa_Places|mk_Places|kp_Places|x172|x173|pg_Machine|hd_Machine|po_Machine|sa_Machine|mk_Machine|kp_Machine|x174|x175|x176|x177|x178|x179|x180|x181|x182|x183|x184|x185|x186|x187|x188|x189|x190|x191|x192|x193|x194|x195|x196|x197|x198|x199|x200|x201|x202|x203|x204|x205|x206|x207|x208|x209|x210|x211=>k_is);(case x212=>exact rfl);(case x213=>exact ⟨_,rfl⟩);(case x214=>exact rfl);(case x215|x216|x217|x218|x219|x220|x221|x222|x223|x224|x225|x226|x227|x228|x229|x230|x231|x232|x233|x234|x235|x236|x237|x238|x239|x240|x241|x242|x243|x244|x245|x246|x247|x248|x249|x250|x251|x252|x253|x254|x255|x256|x257|x258|x259|x260|x261|x262|x263|x264|x265|x266|x267|x268|x269|x270|x271|x272|x273|x274|x275|x276|x277|x278|x279|x280|x281|x282|x283|x284|x285|x286|x287|x288|x289|x290|x291|x292|x293|x294=>k_is)
  obtain ⟨O0b,O0a,O0c,T⟩:=T
  exact L2.J3U T.f_law hmg (fun _ _ _ _ _ _ _=>rfl) fun f fd base F=>K62.ok_law T F
 case S=>exact fun K H a ns hl _ hS=>K62.sp_law_ok hl hS
