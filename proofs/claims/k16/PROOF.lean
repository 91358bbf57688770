import PyProof.Rows.All
import Wide.All
import OpenK.AllK
import Wide.FinOn
import Lean
import PySem.Challenge.RW_elderhouse_k16_whole_few_brackets
open PySem renaming wpAny_bind->Ro,starEach->Rt,sizeLine->Ru,wpAny_pure->Rv,wpAny->Rz,sizeLine_eq->RB,model->RD,mainGlobals->RE,Stmt->RH,bootBuiltins->RI,eval->RJ,backTo->RK,FuncData->RN,wpAny_truthy_bool->RO,wpAny_Call_Name_kw->RP,keywordEach->RX,Paired->R1,treeTable->R3,compareOp->R4,wpAny_mono->R7,wpAny_holding->R9,rawInt->Se,wpAny_pyIter_list->Sf,wpAny_newObj_type->Sg,wpAny_loadPart_at->Sh,importedModules->Si,mem_of_lookup->Sk,wpAny_standAt->Sm,standAt->Sr,wpAny_passesOwn->Sv,OsState->Sw,binaryOp->Sx,backToKw->Sy,wpAny_field->Sz,sysModules->SC,getMethod->SF,wpAny_getItem_str_slice->SH,sliceBounds->SJ,assignEach->SL,codeAny_mono->SN,letOwnedTupleGo->SO,attributeBase->SQ,Scope->SR,holding->SU,foldedSetIterable->SW,excClassObj->Tc,boot_len->Td,wpAny_isSubtype_exc->Th,callWith->Ti,wpAny_execs_nil->Tp,codeAny->Tq,wpAny_call->Ts,bindArgs->Tv,wpAny_tryCatch->Tz,plainObj_wpAny_Assign_Attribute->TC,DictEntry->TH,builtinsNs->TL,noteFrame->TQ,behindInMarks->TV,NameKind->TZ,codeAny_call_builtin->T3,post_val_or_str->T5,argBest->T7,Arguments->T8,wpAny_setField->Ub,getItem->Ud,wpAny_letGo->Ue,assign->Ug,plainId_quiet->Ui,swapsWith->Ul,noFill_tuple_add->Um,IsPart->Uu,call_meets->Uw,ExcBaseFacts->UA,GenState->UB,tupleKind->UE,callerA->UF,valueAt->UH,cLine->UI,pyNext->UJ
open PySem.Heap renaming get?_push_of_some->Rp,lt_size->Rq,get?_push_size->RC,get?_update_other->RF,get?_update_self->RY,size_push->SZ,SameBut->Us
open PySem.Str renaming ofString->Rx,empty->So
open PySem.PyData renaming keyHash->Ry,eqv->TN,leavesShort->Ua,shown->Ux,strOk->Uy
open PySem.Value renaming ref->RA,none->RW,int->Su,bool->Tr,builtin->Uj,str->Uk
open PySem.W renaming keepIn->RM,mg_none_of->RQ,findIn->RV,behindTheImports->R6,boot_heap->R_,topFrame->SA,kia_one->SG,emptyDict->SI,fnOf->SK,mroIn->SM,kitOne->S_,callWith_K->Tf,nsIn->Tt,instObj->TK,kla_obj->TU,mg_of->TX,hasDictIn->TY,methodCall_KW->T4,codeIn->T_,specialIn->Uc,namesBound->Up,piecesOf->Uq,kHook->Ur,plainGet->Ut,topRun->UC,segRunT->UD
open PySem.Txt renaming join->RS,join->Te,slice_le->Uz,slice->UG
open PySem.NameKind renaming free->RU,cell->Sn
open PyProof.Rows renaming slot_tuple_getitem->R5,callWith_type1->SV,envOfC->Tw,AllBare->T6,subscriptTail->Uh
open PySem.Calls renaming spliced_cons->R8,callWith_builtin->Sl,evalArgs_plain->Ta,spliced_nil->Tu
open PySem.PassesOwn renaming never->Sj
open PySem.F renaming plain_max_loop->Sq,entry_max_loop->Uo
open PySem.Builtin.Slice renaming slicePlaces->Ss,sliceAdjust->Tg
open PySem.Builtin.Tuple renaming tupleExact->SD
open PySem.Builtin.List renaming listTooLong->SE
open PySem.Obj renaming mapFields->Tj,mapSeq->Uv
open PySem.Around renaming under_plainId->T2
open PySem.W.RowW renaming records->T9
theorem UK{c:Prop}{h:Decidable c}(x:¬c){α:Sort _}{t e:α}:ite c t e=e:=if_neg x
theorem UL{c:Prop}{h:Decidable c}(x:c){α:Sort _}{t e:α}:ite c t e=t:=if_pos x
theorem UM{a b:Prop}(x:a)(y:¬a):b:=absurd x y
theorem UN{p:Prop}[h:Decidable p](x:¬p):decide p=false:=decide_eq_false x
theorem UO{p:Prop}[h:Decidable p](x:p):decide p=true:=decide_eq_true x
theorem UP{p:Prop}[h:Decidable p](x:decide p=true):p:=of_decide_eq_true x
set_option genSizeOfSpec false
set_option Elab.async false
set_option linter.all false
set_option maxRecDepth 100000
set_option compiler.extract_closed false
set_option maxHeartbeats 4000000
open PySem.W renaming Frag→X0
open PySem renaming Addr→V0,Value→Y1,Shared→Z1,Str→U1,World→V1,Heap→M1,Around→N1
open PySem.Challenge renaming pw_elderhouse_k16_whole_few_brackets→pw0,rw_elderhouse_k16_whole_few_brackets→rw0
open Nat renaming le_refl→aQ,le_trans→bR,zero_le→dj,lt_of_lt_of_le→dv,ne_of_lt→dY,lt_irrefl→fH,lt_of_sub_eq_succ→gj,lt_succ_self→iH,ne_of_gt→lL,le_of_not_lt→lK,succ_le_succ→mS,le_succ→oB,le_of_eq→pS,lt_of_le_of_lt→pR,le_of_lt→rX,lt_succ_of_lt→rS,log2_lt→rR
open List renaming length_map→bB,length_append→bX,length_cons→cj,mem_cons_self→cy,mem_cons_of_mem→cV,mem_cons→de,getElem?_eq_getElem→dc,size_toArray→du,map_cons→dJ,mem_singleton→dN,append_nil→eu,getElem?_map→eK,mem_map→eO,append_assoc→eU,replicate→e_,map_append→eZ,getElem?_eq_some_iff→gm,lookup_cons→gG,mem_append→hU,getD_eq_getElem?_getD→hJ,cons_append→ip,length_nil→iG,mem_append_right→i_,lookup→i9,length_drop→i8,all_eq_true→i7,map_map→i6,not_mem_nil→i5,getElem_mem→ju,range→jM,length_take→ka,take_length→j_,takeWhile_cons→j9,mem_of_getElem?→kP,mem_append_left→lM,sum_cons→lJ,mem_range→mW,flatten_cons→mV,nil_append→mU,map_nil→mT,length_pos_iff→mR,contains_iff_mem→mO,dropWhile_cons→mM,all_cons→oA,take_add_one→oz,filterMap_cons→pU,find?_cons→pP,take_append_drop→pN,length→rW,any_cons→rV,replicate_succ→rT,getElem?_eq_none→rO,mem_map_of_mem→rN,length_eq_one_iff→rJ,reverse_cons→uA,mem_filterMap→uz,nodup_cons→uy,getElem?_append_right→ux,getElem?_append_left→uw,getElem_of_mem→uv,set_cons_zero→uu,contains_cons→uq,drop_drop→um,mem_of_mem_drop→uj,length_eq_zero_iff→ui,sum_nil→uh,getElem?_set_self→yy,getElem?_set_ne→yx,takeWhile_sublist→yn,drop_eq_getElem_cons→ym,flatMap_append→yl,getElem?_drop→yk,flatten_append→yi,take_succ_eq_append_getElem→Bc
open Bool renaming false_ne_true→dO,and_eq_true→fV,or_eq_true_iff→kN,or_true→mQ,eq_iff_iff→pT,and_eq_true_iff→pQ
open Option renaming map_eq_some_iff→iJ,map_some→uB,bind_some→yz,isSome_iff_exists→yv
open PySem.F renaming plainAttrs_list→i4,slot_list_append→jL,type_list_append→jK,plainAttrs_str→pM,slot_dict_get→rQ,slot_str_join→rL,type_str_join→rK,slot_tuple_add→yu,entry_tuple_add→yt,args_tuple_add_2→yr,entry_dict_get→yq,args_dict_get_3→yp,excBase_ValueError→yo
open Option.some renaming inj→jv
open Int renaming toNat→kO,eq_ofNat_of_zero_le→kM,toNat_natCast→lH,ofNat_lt→pO,emod_nonneg→rM,natCast_add→uk,emod_lt_of_pos→yj
open Array renaming length_toList→oE,getElem?_eq_some_iff→rP,mem_toList_iff→yw
open Classical renaming byContradiction→uo
local macro_rules | `(tactic| walk_at "r") => do let f : String -> Lean.MacroM (Array (Lean.TSyntax ``Lean.Parser.Tactic.simpLemma)) := λ s => (do let v <-(s.splitOn " ").toArray.filterM λ n => do { let r <-Lean.Macro.resolveGlobalName n.toName; return !r.isEmpty }; v.mapM λ n => `(Lean.Parser.Tactic.simpLemma| $(Lean.mkIdent n.toName):term)); let a <-f "Qp O7 QC Q7 Qi Ra Qo PP Re Qn Rk Pp Ri Ql Qa Pq PF Q8 Pz P6 Qy Qc Qj Qz P_ P3 Pe Pf PD Pn PY Qs O9 Qv Pa Qw PH P1 Qh O6 PZ Pu PR Po Qu P2 P4 O1 Pi Pb O4 Pc Pk OZ QA PN P7 Qx Qf O3 Rf Qq OY P0 O5 O8 Pj Rc Rb PU PB Py Qm Rl Qg P9 Rg Q_ P5 P8 Rj QB Qb O_ Px PL PM List.getElem?_cons_zero List.getElem?_cons_succ List.set_cons_zero List.set_cons_succ Nat.reduceAdd Nat.reduceSub List.cons_append List.nil_append L2.jc List.map_cons List.map_nil List.length_cons List.length_nil List.replicate O2 Q6 Q9"; let b <-f "Qt Qr Qe exists_eq_left' exists_eq_left exists_and_left exists_eq_right exists_eq_right' V.int.injEq V.str.injEq V.bl.injEq V.ref.injEq Option.some.injEq List.cons.injEq and_true true_and decide_eq_true_eq Bool.not_eq_true' decide_eq_false_iff_not reduceCtorEq sc_nn sc_ni sc_in sc_nb sc_bn sc_ns sc_sn Ph sc_bb D7 sc_is sc_si sc_bs sc_sb List.append_nil Nat.zero_add isi_int_int isi_int_bool isi_bl_int isi_bl_bool isi_str_str fM fL exists_const if_true if_false ite_true ite_false Bool.false_eq_true decide_true decide_false Bool.not_true Bool.not_false Bool.true_eq_false Oq AZ pI Ia or_true true_or and_self and_assoc sizeLine_eq Nat.reduceLeDiff Nat.reduceLT Nat.reducePow Nat.reduceMul Int.reducePow Int.reduceLE Int.reduceLT Int.reduceToNat Int.reduceAbs Int.reduceNeg Int.reduceAdd Int.reduceSub Int.reduceMul ne_eq not_false_eq_true not_true_eq_false Int.zero_add"; `(tactic| ((try dsimp only [$a,*]); (try simp (config := { maxSteps := 10000000 }) only [$a,*,$b,*])))
set_option hygiene false in
local macro_rules|`(tactic|walk_at $s:str)=>do let i:=fun(x:String)=>Lean.mkIdent x.toName;let g:=fun(o f c n:String)=>`(tactic|refine $(i o) $(i ("T."++f)) $(i c) (fun _ _ _ _ _ _ us hl=>$(i ("el"++n)) us hl (by intros;rfl)) (fun vs H Q E h=>by repeat(first|(cases h;subst_vars;rfl)|obtain⟨_,h⟩:=h)) fun f cdv A outer s H vs Q E hr h=>?_);match s.getString.splitOn " " with|["h",f,c,n]=>g "bJ.of" f c n|["m",f,c,n]=>g "aX.of" f c n|["x",f,c,n]=>g "aT.of" f c n|["y",f,c,n]=>g "bK.of" f c n|["c"]=>`(tactic|exact⟨rfl,rfl,rfl,qP,rfl,qP,qP⟩)|["s",n,x]=>let k:=n.toNat!;let a:=((List.range (k-1)).flatMap fun j=>[i (s!"u{x}{k-1-j}"),i (s!"hu{x}{k-1-j}")]).toArray;`(tactic|(refine $(i ("seq"++n)) fun $a* =>?_;walk_at "r"))|["n",x]=>`(tactic|(subst $(i ("hu"++x));walk_at "r"))|_=>Lean.Macro.throwUnsupported
set_option hygiene false in
local macro_rules|`(∅)=>`(Txt P w K mg aa Ct Cw Ch Cp ae ah ak ag)
theorem qP{p:Prop}(h:p:=by decide+kernel):p:=h
theorem qQ{p:Prop}(h:p:=by decide):p:=h
theorem qR{p:Prop}(h:p:=by lia):p:=h
theorem qS{p:Prop}(h:p:=by first|decide|lia):p:=h
section
namespace L2
open PySem
def fR(s:RH)(j:Nat):RH:=match s with
 | .ClassDef _ _ _ body _ _ _ _ _ _ _=>body.getD j (.Pass ⟨0,0,0,0⟩)
 |_=>.Pass ⟨0,0,0,0⟩
def gO(s:RH):T8:=match s with
 | .FunctionDef _ a _ _ _ _ _ _ _ _=>a
 |_=>{posonlyargs:=[],args:=[],vararg:=none,kwonlyargs:=[],kw_defaults:=[],kwarg:=none,defaults:=[]}
def fh(s:RH):List RH:=match s with
 | .FunctionDef _ _ b _ _ _ _ _ _ _=>b
 |_=>[]
def bg(s:RH):SR:=match s with
 | .FunctionDef _ _ _ _ _ _ sc _ _ _=>sc
 |_=>{kind:=.function,names:=[],isGenerator:=false,isCoroutine:=false}
end L2
namespace K16
open PySem L2
section
local macro_rules | `(tactic| walk_at $k:str) => do let s := "__name__ elderhouse.errors HouseError ValueError BadWords __init__ BadForm elderhouse.words LONGEST_TEXT LONGEST_NUMBER LONGEST_NAME FIGURES 0123456789 SMALL_LETTERS abcdefghijklmnopqrstuvwxyz GREAT_LETTERS ABCDEFGHIJKLMNOPQRSTUVWXYZ GAPS SIGNS (){},.;=+-*/< TOLD_WORDS house of has can main let in if then else new self elder set not yes no number truth is_told is_name words word_at row_at is_row_sign is_number is_name_row elderhouse.guests TRUTHS Guest ahead behind take takes need need_name need_end elderhouse.terms Term plain parts depth size shape_of Word House Program bodies pairs_of elderhouse.reading MOST_HOUSES MOST_FIELDS MOST_WORDS MOST_PARAMS MOST_TERMS MOST_DEEP MOST_SIZE MOST_OPEN STRENGTHS ; < = + - * / WEAKEST ABOVE_WEAKEST read need_few_open need_few need_bounds read_house read_word read_pair read_kind read_list read_terms read_term read_part read_if read_let read_set read_pointed read_one law_elderhouse_k16_whole_few_brackets _law_cell_at _law_mixed _law_name _law_atom _law_taken _law_about _law_joined _law_term _law_params _law_house _law_program _law_power _law_bare _law_row _law_inner _law_params_text _law_shown _law_measured _law_is_great _law_told law"; let ns := (s.splitOn " ").toArray; let xs := (Array.range ns.size).map λ i => Lean.mkIdent (Lean.Name.mkSimple s!"x{i}"); let C <-ns.mapM λ n => do { let c : Array Lean.Term <-n.toList.toArray.mapM λ k => `(nat_lit $(Lean.Syntax.mkNumLit (toString k.toNat))); `(Str.mk (Array.mk [$c,*])) }; match k.getString with | "t1" => do { let r <-(ns.zip xs).mapM λ (n, x) => `(tactic| generalize Str.ofString $(Lean.Syntax.mkStrLit n) = $x); `(tactic| (($[$r]*); exact $(Lean.mkIdent `hR) $xs*)) } | "t2" => `(tactic| exact Subtype.val $(Lean.mkIdent `Fx) $C*) | "t3" => do { let E <-(ns.zip C).mapM λ (n, c) => do { let d : Array Lean.Term <-n.toList.toArray.mapM λ k => `(Char.ofNat (nat_lit $(Lean.Syntax.mkNumLit (toString k.toNat)))); `((W.Fast.ofString_ofList [$d,*] : Str.ofString $(Lean.Syntax.mkStrLit n) = $c)) }; let a <-E.toList.tail!.foldlM (λ a e => `(congr $a $e)) (<-`(congrArg (Subtype.val $(Lean.mkIdent `Fx)) $(E[0]!))); let L <-ns.mapM λ n => `(Str.ofString $(Lean.Syntax.mkStrLit n)); `(tactic| exact Eq.trans (b := Subtype.val $(Lean.mkIdent `Fx) $L*) rfl $a) } | _ => Lean.Macro.throwUnsupported
noncomputable def Fx:{F:U1->U1->U1->U1->U1->U1->U1->U1->U1->U1->U1->U1->U1->U1->U1->U1->U1->U1->U1->U1->U1->U1->U1->U1->U1->U1->U1->U1->U1->U1->U1->U1->U1->U1->U1->U1->U1->U1->U1->U1->U1->U1->U1->U1->U1->U1->U1->U1->U1->U1->U1->U1->U1->U1->U1->U1->U1->U1->U1->U1->U1->U1->U1->U1->U1->U1->U1->U1->U1->U1->U1->U1->U1->U1->U1->U1->U1->U1->U1->U1->U1->U1->U1->U1->U1->U1->U1->U1->U1->U1->U1->U1->U1->U1->U1->U1->U1->U1->U1->U1->U1->U1->U1->U1->U1->U1->U1->U1->U1->U1->U1->U1->U1->U1->U1->U1->U1->U1->U1->U1->U1->U1->U1->U1->U1->U1->U1->U1->Program//∀R:Program->Prop,(∀x0 x1 x2 x3 x4 x5 x6 x7 x8 x9 x10 x11 x12 x13 x14 x15 x16 x17 x18 x19 x20 x21 x22 x23 x24 x25 x26 x27 x28 x29 x30 x31 x32 x33 x34 x35 x36 x37 x38 x39 x40 x41 x42 x43 x44 x45 x46 x47 x48 x49 x50 x51 x52 x53 x54 x55 x56 x57 x58 x59 x60 x61 x62 x63 x64 x65 x66 x67 x68 x69 x70 x71 x72 x73 x74 x75 x76 x77 x78 x79 x80 x81 x82 x83 x84 x85 x86 x87 x88 x89 x90 x91 x92 x93 x94 x95 x96 x97 x98 x99 x100 x101 x102 x103 x104 x105 x106 x107 x108 x109 x110 x111 x112 x113 x114 x115 x116 x117 x118 x119 x120 x121 x122 x123 x124 x125 x126 x127:U1,R (F x0 x1 x2 x3 x4 x5 x6 x7 x8 x9 x10 x11 x12 x13 x14 x15 x16 x17 x18 x19 x20 x21 x22 x23 x24 x25 x26 x27 x28 x29 x30 x31 x32 x33 x34 x35 x36 x37 x38 x39 x40 x41 x42 x43 x44 x45 x46 x47 x48 x49 x50 x51 x52 x53 x54 x55 x56 x57 x58 x59 x60 x61 x62 x63 x64 x65 x66 x67 x68 x69 x70 x71 x72 x73 x74 x75 x76 x77 x78 x79 x80 x81 x82 x83 x84 x85 x86 x87 x88 x89 x90 x91 x92 x93 x94 x95 x96 x97 x98 x99 x100 x101 x102 x103 x104 x105 x106 x107 x108 x109 x110 x111 x112 x113 x114 x115 x116 x117 x118 x119 x120 x121 x122 x123 x124 x125 x126 x127))->R pw0}:=by
 refine⟨?F,?h⟩
 case h=>
  intro R hR;delta pw0;walk_at "t1"
noncomputable def _root_.PySem.W.Fast.tw14799004536324720452:Program:=by
 walk_at "t2"
theorem _root_.PySem.W.Fast.te14799004536324720452:pw0=W.Fast.tw14799004536324720452:=by
 delta W.Fast.tw14799004536324720452;walk_at "t3"
end
def top(i:Nat):RH:=pw0.main.body.getD i (.Pass ⟨0,0,0,0⟩)
abbrev xb:RH:=top 14
abbrev xa:RH:=top 15
abbrev wU:RH:=top 16
abbrev w_:RH:=top 17
abbrev w9:RH:=top 18
abbrev wY:RH:=top 19
abbrev wV:RH:=top 20
abbrev wX:RH:=top 21
abbrev vi:RH:=top 27
abbrev vh:RH:=top 31
abbrev xI:RH:=top 44
abbrev wc:RH:=top 45
abbrev vl:RH:=top 46
abbrev wB:RH:=top 47
abbrev vE:RH:=top 48
abbrev vV:RH:=top 49
abbrev vZ:RH:=top 50
abbrev vY:RH:=top 51
abbrev vU:RH:=top 52
abbrev la:RH:=top 53
abbrev v5:RH:=top 54
abbrev vW:RH:=top 55
abbrev vu:RH:=top 56
abbrev vn:RH:=top 57
abbrev vj:RH:=top 58
abbrev wG:RH:=top 59
abbrev vf:RH:=top 60
abbrev wJ:RH:=top 62
abbrev vG:RH:=top 63
abbrev vR:RH:=top 64
abbrev v8:RH:=top 65
abbrev vK:RH:=top 66
abbrev v_:RH:=top 67
abbrev vN:RH:=top 68
abbrev vP:RH:=top 69
abbrev wF:RH:=top 70
abbrev vF:RH:=top 71
abbrev wI:RH:=top 72
abbrev vC:RH:=top 73
abbrev vS:RH:=top 74
abbrev vg:RH:=top 75
abbrev vD:RH:=top 76
abbrev wy:RH:=top 77
abbrev v9:RH:=top 78
abbrev wK:RH:=top 79
abbrev we:RH:=top 80
abbrev vX:RH:=top 81
abbrev qt:RH:=top 82
abbrev wj:RH:=fR (top 24) 0
abbrev wD:RH:=fR (top 24) 1
abbrev wH:RH:=fR (top 24) 2
abbrev vJ:RH:=fR (top 24) 3
abbrev wC:RH:=fR (top 24) 4
abbrev vB:RH:=fR (top 24) 5
abbrev wq:RH:=fR (top 24) 6
abbrev wk:RH:=fR (top 24) 7
abbrev wh:RH:=fR (top 26) 0
abbrev vL:RH:=fR (top 26) 1
abbrev vM:RH:=fR (top 26) 2
abbrev vI:RH:=fR (top 26) 3
abbrev vO:RH:=fR (top 26) 4
abbrev wL:RH:=fR (top 28) 0
abbrev vH:RH:=fR (top 28) 1
abbrev wo:RH:=fR (top 29) 0
abbrev wz:RH:=fR (top 29) 1
abbrev wu:RH:=fR (top 30) 0
abbrev wb:RH:=fR (top 30) 1
abbrev wm:RH:=fR (top 30) 2
noncomputable def rv:W.RowW:=W.OpenRow.toRowW (W.OpenLaw.row rw0)
noncomputable def qv:Program:={pw0 with main:={pw0.main with body:=[top 1,top 2,top 3,top 5,top 6,top 7,top 8,top 9,top 10,top 11,top 12,top 13,top 14,top 15,top 16,top 17,top 18,top 19,top 20,top 21,top 24,top 26,top 27,top 28,top 29,top 30,top 31,top 33,top 34,top 35,top 36,top 37,top 38,top 39,top 40,top 42,top 43,top 44,top 45,top 46,top 47,top 48,top 49,top 50,top 51,top 52,top 53,top 54,top 55,top 56,top 57,top 58,top 59,top 60,top 62,top 63,top 64,top 65,top 66,top 67,top 68,top 69,top 70,top 71,top 72,top 73,top 74,top 75,top 76,top 77,top 78,top 79,top 80,top 81,top 82]}}
abbrev DB:RH:=fR (top 2) 0
noncomputable def cO(x y:U1)(n:Nat)(l a b:Int)(r:Nat)(d:Nat):Obj:=⟨.type "code",none,.fields #[.str x n,.str y (n+1),.str "/claim/cut.py" (n+2),.int l 0,.int a 0,.int 0 0,.int 0 0,.int b 0,.ref r,.bool true,.int 181 0,.ref (r+1),.none,.ref (r+2),.ref (r+3),.ref (r+4),.int d 0,.int l 0,.str "/claim/cut.py" (d+1)],#[]⟩
noncomputable def fU(x y:U1)(s:RH)(m:U1)(t c:Nat):Obj:=⟨.type "function",none,.func (SK x y (L2.gO s) (L2.fh s) (L2.bg s) .none .none .none (.str m t) none (.ref c) .none),#[]⟩
noncomputable def eT:Obj:=⟨.type "tuple",none,.seq #[] 0,#[]⟩
noncomputable def kE(P:PySem.Params)(x:U1)(t:Nat)(v:Y1):TH:=⟨Ry P x,.str x t,v⟩
noncomputable def fY(x:U1)(s:RH)(c:Nat):Obj:=fU x x s "law_elderhouse_k16_whole_few_brackets" 842 c
noncomputable def hZ(x:U1)(s:RH)(c:Nat):Obj:=fU x x s "elderhouse.reading" 639 c
noncomputable def jN(x y:U1)(s:RH)(c:Nat):Obj:=fU x y s "elderhouse.terms" 436 c
noncomputable def Bm(x:U1)(s:RH)(c:Nat):Obj:=fU x x s "elderhouse.terms" 436 c
noncomputable def mZ(x:U1)(s:RH)(c:Nat):Obj:=fU x x s "elderhouse.words" 248 c
noncomputable def mY(x y:U1)(s:RH)(c:Nat):Obj:=fU x y s "elderhouse.guests" 347 c
noncomputable def tS:List U1->Nat->List Y1
 |[],_=>[]
 |x::xs,n=>.str x n::tS xs (n+1)
noncomputable def tT(l:List U1)(n:Nat):Obj:=⟨.type "tuple",none,.seq (tS l n).toArray 0,#[]⟩
noncomputable def cQ(x:U1)(n:Nat)(l a:Int)(r d:Nat):Obj:=cO x x n l a 3 r d
noncomputable def cP(x y:U1)(n:Nat)(l a:Int)(r:Nat):Obj:=⟨.type "code",none,.fields #[.str x n,.str y (n+1),.str "/claim/cut.py" (n+2),.int l 0,.int a 0,.int 0 0,.int 0 0,.int 3 0,.ref r,.bool true,.int 181 0,.ref (r+1),.none,.none,.none,.ref (r+2),.int ((n+3:Nat):Int) 0,.int l 0,.str "/claim/cut.py" (n+4)],#[]⟩
noncomputable def KB(P:PySem.Params):X0:=
(nat_lit 2,Function.const (("a":U1)≠"b") (⟨.none,none,(.dict #[] 0),#[]⟩:Obj) qQ)::
(nat_lit 3,⟨(.type "dict"),none,(.dict #[kE P "__name__" 165 (.str "law_elderhouse_k16_whole_few_brackets" 842),kE P "__doc__" 166 .none,kE P "__package__" 167 .none,kE P "__loader__" 168 (.builtin "__main__.__loader__#opaque"),kE P "__spec__" 169 .none,kE P "__annotations__" 170 (.ref 6),kE P "__builtins__" 171 (.ref 4),kE P "__file__" 173 (.str "/claim/cut.py" 172),kE P "__cached__" 174 .none,kE P "HouseError" 206 (.ref 24),kE P "BadWords" 231 (.ref 44),kE P "BadForm" 247 (.ref 56),⟨Ry P "LONGEST_TEXT",.str "LONGEST_TEXT" 251,.int 6000 250⟩,⟨Ry P "LONGEST_NUMBER",.str "LONGEST_NUMBER" 253,.int 9 252⟩,⟨Ry P "LONGEST_NAME",.str "LONGEST_NAME" 255,.int 8 254⟩,kE P "FIGURES" 257 (.str "0123456789" 256),kE P "SMALL_LETTERS" 259 (.str "abcdefghijklmnopqrstuvwxyz" 258),kE P "GREAT_LETTERS" 261 (.str "ABCDEFGHIJKLMNOPQRSTUVWXYZ" 260),kE P "GAPS" 263 (.str " \t\n" 262),kE P "SIGNS" 265 (.str "(){},.;=+-*/<" 264),kE P "TOLD_WORDS" 285 (.ref 59),kE P "is_told" 292 (.ref 66),kE P "is_name" 299 (.ref 73),kE P "words" 309 (.ref 80),kE P "word_at" 318 (.ref 87),kE P "row_at" 327 (.ref 94),kE P "is_row_sign" 334 (.ref 101),kE P "is_number" 340 (.ref 106),kE P "is_name_row" 346 (.ref 111),kE P "TRUTHS" 353 (.ref 112),kE P "Guest" 435 (.ref 178),kE P "Term" 497 (.ref 225),kE P "shape_of" 506 (.ref 236),kE P "Word" 548 (.ref 260),kE P "House" 589 (.ref 286),kE P "Program" 632 (.ref 317),kE P "pairs_of" 638 (.ref 326),⟨Ry P "MOST_HOUSES",.str "MOST_HOUSES" 642,.int 12 641⟩,⟨Ry P "MOST_FIELDS",.str "MOST_FIELDS" 644,.int 4 643⟩,⟨Ry P "MOST_WORDS",.str "MOST_WORDS" 646,.int 8 645⟩,⟨Ry P "MOST_PARAMS",.str "MOST_PARAMS" 648,.int 4 647⟩,⟨Ry P "MOST_TERMS",.str "MOST_TERMS" 650,.int 8 649⟩,⟨Ry P "MOST_DEEP",.str "MOST_DEEP" 652,.int 14 651⟩,⟨Ry P "MOST_SIZE",.str "MOST_SIZE" 654,.int 400 653⟩,⟨Ry P "MOST_OPEN",.str "MOST_OPEN" 656,.int 14 655⟩,kE P "STRENGTHS" 678 (.ref 327),⟨Ry P "WEAKEST",.str "WEAKEST" 680,.int 1 679⟩,⟨Ry P "ABOVE_WEAKEST",.str "ABOVE_WEAKEST" 682,.int 2 681⟩,kE P "read" 688 (.ref 332),kE P "need_few_open" 697 (.ref 339),kE P "need_few" 705 (.ref 346),kE P "need_bounds" 711 (.ref 351),kE P "read_house" 722 (.ref 358),kE P "read_word" 732 (.ref 365),kE P "read_pair" 740 (.ref 372),kE P "read_kind" 747 (.ref 379),kE P "read_list" 756 (.ref 386),kE P "read_terms" 766 (.ref 393),kE P "read_term" 779 (.ref 400),kE P "read_part" 788 (.ref 407),kE P "read_if" 799 (.ref 414),kE P "read_let" 810 (.ref 421),kE P "read_set" 820 (.ref 428),kE P "read_pointed" 830 (.ref 435),kE P "read_one" 841 (.ref 442),kE P "_law_cell_at" 851 (.ref 449),kE P "_law_mixed" 859 (.ref 456),kE P "_law_name" 865 (.ref 461),kE P "_law_atom" 873 (.ref 468),kE P "_law_taken" 879 (.ref 473),kE P "_law_about" 892 (.ref 480),kE P "_law_joined" 904 (.ref 487),kE P "_law_term" 910 (.ref 492),kE P "_law_params" 916 (.ref 497),kE P "_law_house" 922 (.ref 502),kE P "_law_program" 928 (.ref 507),kE P "_law_power" 935 (.ref 514),kE P "_law_bare" 944 (.ref 521),kE P "_law_row" 950 (.ref 526),kE P "_law_inner" 962 (.ref 533),kE P "_law_params_text" 968 (.ref 538),kE P "_law_shown" 974 (.ref 543),kE P "_law_measured" 980 (.ref 548),kE P "_law_is_great" 986 (.ref 553),kE P "_law_told" 994 (.ref 560),kE P "law" 1004 (.ref 567)] 86),#[]⟩)::
(nat_lit 15,⟨.type "tuple",none,.seq #[(.type "ValueError")] 0,#[]⟩)::
(nat_lit 22,eT)::
(nat_lit 23,⟨(.type "dict"),none,(.dict #[kE P "__module__" 196 (.str "elderhouse.errors" 187),⟨Ry P "__firstlineno__",.str "__firstlineno__" 200,.int 2 199⟩,kE P "__static_attributes__" 201 (.ref 22),kE P "__weakref__" 203 (.ref 25),kE P "__doc__" 204 .none] 3),#[]⟩)::
(nat_lit 24,⟨(.type "type"),none,(.cls ⟨"HouseError",[(.type "ValueError")],[.ref 24,(.type "ValueError"),(.type "Exception"),(.type "BaseException"),(.type "object")],23,"HouseError",true,[],[.ref 44,.ref 56],false,none,false⟩),#[(some (.ref 15)),none,(some (.str "HouseError" 189)),(some (.str "HouseError" 197)),(some (.builtin "ValueError.__new__")),(some (.bool true))]⟩)::
(nat_lit 25,⟨.type "getset_descriptor",none,.fields #[.str "__weakref__" 202,.ref 24,.builtin "ExceptionGroup.__weakref__",.none],#[]⟩)::
(nat_lit 28,⟨.type "tuple",none,.seq #[.ref 24] 0,#[]⟩)::
(nat_lit 35,eT)::
(nat_lit 37,tT ["self","at"] 222)::
(nat_lit 38,eT)::
(nat_lit 40,cO "__init__" "BadWords.__init__" 219 6 2 3 35 224)::
(nat_lit 41,fU "__init__" "BadWords.__init__" DB "elderhouse.errors" 187 40)::
(nat_lit 42,tT ["at"] 227)::
(nat_lit 43,⟨(.type "dict"),none,(.dict #[kE P "__module__" 214 (.str "elderhouse.errors" 187),⟨Ry P "__firstlineno__",.str "__firstlineno__" 218,.int 4 217⟩,kE P "__init__" 226 (.ref 41),kE P "__static_attributes__" 228 (.ref 42),kE P "__doc__" 229 .none] 2),#[]⟩)::
(nat_lit 44,⟨(.type "type"),none,(.cls ⟨"BadWords",[.ref 24],[.ref 44,.ref 24,(.type "ValueError"),(.type "Exception"),(.type "BaseException"),(.type "object")],43,"BadWords",true,[],[],false,none,false⟩),#[(some (.ref 28)),none,(some (.str "BadWords" 207)),(some (.str "BadWords" 215)),(some (.builtin "ValueError.__new__")),(some (.bool true))]⟩)::
(nat_lit 47,⟨.type "tuple",none,.seq #[.ref 24] 0,#[]⟩)::
(nat_lit 54,eT)::
(nat_lit 55,⟨(.type "dict"),none,(.dict #[kE P "__module__" 239 (.str "elderhouse.errors" 187),⟨Ry P "__firstlineno__",.str "__firstlineno__" 243,.int 9 242⟩,kE P "__static_attributes__" 244 (.ref 54),kE P "__doc__" 245 .none] 2),#[]⟩)::
(nat_lit 56,⟨(.type "type"),none,(.cls ⟨"BadForm",[.ref 24],[.ref 56,.ref 24,(.type "ValueError"),(.type "Exception"),(.type "BaseException"),(.type "object")],55,"BadForm",true,[],[],false,none,false⟩),#[(some (.ref 47)),none,(some (.str "BadForm" 232)),(some (.str "BadForm" 240)),(some (.builtin "ValueError.__new__")),(some (.bool true))]⟩)::
(nat_lit 59,tT ["house","of","has","can","main","let","in","if","then","else","new","self","elder","set","not","yes","no","number","truth"] 266)::
(nat_lit 60,eT)::
(nat_lit 62,tT ["word"] 289)::
(nat_lit 63,eT)::
(nat_lit 65,cQ "is_told" 286 21 1 60 290)::
(nat_lit 66,mZ "is_told" xb 65)::
(nat_lit 67,eT)::
(nat_lit 69,tT ["word"] 296)::
(nat_lit 70,eT)::
(nat_lit 72,cQ "is_name" 293 23 1 67 297)::
(nat_lit 73,mZ "is_name" xa 72)::
(nat_lit 74,eT)::
(nat_lit 76,tT ["text","cut","at","word"] 303)::
(nat_lit 77,eT)::
(nat_lit 79,cQ "words" 300 25 1 74 307)::
(nat_lit 80,mZ "words" wU 79)::
(nat_lit 81,eT)::
(nat_lit 83,tT ["text","at","row"] 313)::
(nat_lit 84,eT)::
(nat_lit 86,cQ "word_at" 310 38 2 81 316)::
(nat_lit 87,mZ "word_at" w_ 86)::
(nat_lit 88,eT)::
(nat_lit 90,tT ["text","at","end"] 322)::
(nat_lit 91,eT)::
(nat_lit 93,cQ "row_at" 319 45 2 88 325)::
(nat_lit 94,mZ "row_at" w9 93)::
(nat_lit 95,eT)::
(nat_lit 97,tT ["sign"] 331)::
(nat_lit 98,eT)::
(nat_lit 100,cQ "is_row_sign" 328 50 1 95 332)::
(nat_lit 101,mZ "is_row_sign" wY 100)::
(nat_lit 102,eT)::
(nat_lit 105,cP "is_number" "is_number" 335 52 1 102)::
(nat_lit 106,mZ "is_number" wV 105)::
(nat_lit 107,eT)::
(nat_lit 110,cP "is_name_row" "is_name_row" 341 58 1 107)::
(nat_lit 111,mZ "is_name_row" wX 110)::
(nat_lit 112,⟨.type "dict",none,.dict #[kE P "yes" 349 (.bool true),kE P "no" 350 (.bool false)] 2,#[]⟩)::
(nat_lit 120,eT)::
(nat_lit 122,tT ["self","all_words"] 369)::
(nat_lit 123,eT)::
(nat_lit 125,cO "__init__" "Guest.__init__" 366 66 2 3 120 371)::
(nat_lit 126,mY "__init__" "Guest.__init__" wj 125)::
(nat_lit 127,eT)::
(nat_lit 129,tT ["self"] 377)::
(nat_lit 130,eT)::
(nat_lit 132,cO "ahead" "Guest.ahead" 374 70 1 3 127 378)::
(nat_lit 133,mY "ahead" "Guest.ahead" wD 132)::
(nat_lit 134,eT)::
(nat_lit 136,tT ["self"] 384)::
(nat_lit 137,eT)::
(nat_lit 139,cO "behind" "Guest.behind" 381 75 1 3 134 385)::
(nat_lit 140,mY "behind" "Guest.behind" wH 139)::
(nat_lit 141,eT)::
(nat_lit 143,tT ["self","word"] 391)::
(nat_lit 144,eT)::
(nat_lit 146,cO "take" "Guest.take" 388 78 1 3 141 393)::
(nat_lit 147,mY "take" "Guest.take" vJ 146)::
(nat_lit 148,eT)::
(nat_lit 150,tT ["self","word"] 399)::
(nat_lit 151,eT)::
(nat_lit 153,cO "takes" "Guest.takes" 396 85 2 3 148 401)::
(nat_lit 154,mY "takes" "Guest.takes" wC 153)::
(nat_lit 155,eT)::
(nat_lit 157,tT ["self","word"] 407)::
(nat_lit 158,eT)::
(nat_lit 160,cO "need" "Guest.need" 404 91 2 3 155 409)::
(nat_lit 161,mY "need" "Guest.need" vB 160)::
(nat_lit 162,eT)::
(nat_lit 164,tT ["self"] 415)::
(nat_lit 165,eT)::
(nat_lit 167,cO "need_name" "Guest.need_name" 412 95 1 3 162 416)::
(nat_lit 168,mY "need_name" "Guest.need_name" wq 167)::
(nat_lit 169,eT)::
(nat_lit 171,tT ["self"] 422)::
(nat_lit 172,eT)::
(nat_lit 174,cO "need_end" "Guest.need_end" 419 100 1 3 169 423)::
(nat_lit 175,mY "need_end" "Guest.need_end" wk 174)::
(nat_lit 176,tT ["gone","row"] 426)::
(nat_lit 177,⟨(.type "dict"),none,(.dict #[kE P "__module__" 361 (.str "elderhouse.guests" 347),⟨Ry P "__firstlineno__",.str "__firstlineno__" 365,.int 64 364⟩,kE P "__init__" 373 (.ref 126),kE P "ahead" 380 (.ref 133),kE P "behind" 387 (.ref 140),kE P "take" 395 (.ref 147),kE P "takes" 403 (.ref 154),kE P "need" 411 (.ref 161),kE P "need_name" 418 (.ref 168),kE P "need_end" 425 (.ref 175),kE P "__static_attributes__" 428 (.ref 176),kE P "__dict__" 430 (.ref 179),kE P "__weakref__" 432 (.ref 180),kE P "__doc__" 433 .none] 4),#[]⟩)::
(nat_lit 178,⟨(.type "type"),none,(.cls ⟨"Guest",[(.type "object")],[.ref 178,(.type "object")],177,"Guest",true,[],[],false,none,false⟩),#[none,none,(some (.str "Guest" 354)),(some (.str "Guest" 362)),(some (.builtin "object.__new__")),(some (.bool true))]⟩)::
(nat_lit 179,⟨.type "getset_descriptor",none,.fields #[.str "__dict__" 429,.ref 178,.builtin "function.__dict__",.builtin "function.__dict__#set"],#[]⟩)::
(nat_lit 180,⟨.type "getset_descriptor",none,.fields #[.str "__weakref__" 431,.ref 178,.builtin "ExceptionGroup.__weakref__",.none],#[]⟩)::
(nat_lit 190,eT)::
(nat_lit 193,cP "__init__" "Term.__init__" 450 106 4 190)::
(nat_lit 194,jN "__init__" "Term.__init__" wh 193)::
(nat_lit 195,eT)::
(nat_lit 197,tT ["self"] 459)::
(nat_lit 198,eT)::
(nat_lit 200,cO "plain" "Term.plain" 456 114 1 3 195 460)::
(nat_lit 201,jN "plain" "Term.plain" vL 200)::
(nat_lit 202,eT)::
(nat_lit 204,tT ["self"] 466)::
(nat_lit 205,eT)::
(nat_lit 207,cO "parts" "Term.parts" 463 117 1 3 202 467)::
(nat_lit 208,jN "parts" "Term.parts" vM 207)::
(nat_lit 209,eT)::
(nat_lit 211,tT ["self"] 473)::
(nat_lit 212,eT)::
(nat_lit 214,cO "depth" "Term.depth" 470 120 1 3 209 474)::
(nat_lit 215,jN "depth" "Term.depth" vI 214)::
(nat_lit 216,eT)::
(nat_lit 218,tT ["self"] 480)::
(nat_lit 219,eT)::
(nat_lit 221,cO "size" "Term.size" 477 123 1 3 216 481)::
(nat_lit 222,jN "size" "Term.size" vO 221)::
(nat_lit 223,tT ["deep","form","inner","label","many","shape"] 484)::
(nat_lit 224,⟨(.type "dict"),none,(.dict #[kE P "__module__" 445 (.str "elderhouse.terms" 436),⟨Ry P "__firstlineno__",.str "__firstlineno__" 449,.int 104 448⟩,kE P "__init__" 455 (.ref 194),kE P "plain" 462 (.ref 201),kE P "parts" 469 (.ref 208),kE P "depth" 476 (.ref 215),kE P "size" 483 (.ref 222),kE P "__static_attributes__" 490 (.ref 223),kE P "__dict__" 492 (.ref 226),kE P "__weakref__" 494 (.ref 227),kE P "__doc__" 495 .none] 4),#[]⟩)::
(nat_lit 225,⟨(.type "type"),none,(.cls ⟨"Term",[(.type "object")],[.ref 225,(.type "object")],224,"Term",true,[],[],false,none,false⟩),#[none,none,(some (.str "Term" 438)),(some (.str "Term" 446)),(some (.builtin "object.__new__")),(some (.bool true))]⟩)::
(nat_lit 226,⟨.type "getset_descriptor",none,.fields #[.str "__dict__" 491,.ref 225,.builtin "function.__dict__",.builtin "function.__dict__#set"],#[]⟩)::
(nat_lit 227,⟨.type "getset_descriptor",none,.fields #[.str "__weakref__" 493,.ref 225,.builtin "ExceptionGroup.__weakref__",.none],#[]⟩)::
(nat_lit 230,eT)::
(nat_lit 232,tT ["form","label","parts"] 501)::
(nat_lit 233,eT)::
(nat_lit 235,cQ "shape_of" 498 125 3 230 504)::
(nat_lit 236,Bm "shape_of" vi 235)::
(nat_lit 244,eT)::
(nat_lit 246,tT ["self","name","params","kind","body"] 522)::
(nat_lit 247,eT)::
(nat_lit 249,cO "__init__" "Word.__init__" 519 137 5 3 244 527)::
(nat_lit 250,jN "__init__" "Word.__init__" wL 249)::
(nat_lit 251,eT)::
(nat_lit 253,tT ["self"] 533)::
(nat_lit 254,eT)::
(nat_lit 256,cO "plain" "Word.plain" 530 143 1 3 251 534)::
(nat_lit 257,jN "plain" "Word.plain" vH 256)::
(nat_lit 258,tT ["body","kind","name","params"] 537)::
(nat_lit 259,⟨(.type "dict"),none,(.dict #[kE P "__module__" 514 (.str "elderhouse.terms" 436),⟨Ry P "__firstlineno__",.str "__firstlineno__" 518,.int 135 517⟩,kE P "__init__" 529 (.ref 250),kE P "plain" 536 (.ref 257),kE P "__static_attributes__" 541 (.ref 258),kE P "__dict__" 543 (.ref 261),kE P "__weakref__" 545 (.ref 262),kE P "__doc__" 546 .none] 4),#[]⟩)::
(nat_lit 260,⟨(.type "type"),none,(.cls ⟨"Word",[(.type "object")],[.ref 260,(.type "object")],259,"Word",true,[],[],false,none,false⟩),#[none,none,(some (.str "Word" 507)),(some (.str "Word" 515)),(some (.builtin "object.__new__")),(some (.bool true))]⟩)::
(nat_lit 261,⟨.type "getset_descriptor",none,.fields #[.str "__dict__" 542,.ref 260,.builtin "function.__dict__",.builtin "function.__dict__#set"],#[]⟩)::
(nat_lit 262,⟨.type "getset_descriptor",none,.fields #[.str "__weakref__" 544,.ref 260,.builtin "ExceptionGroup.__weakref__",.none],#[]⟩)::
(nat_lit 272,eT)::
(nat_lit 274,tT ["self","name","elder","own_fields","own_words"] 564)::
(nat_lit 275,eT)::
(nat_lit 277,cO "__init__" "House.__init__" 561 147 5 3 272 569)::
(nat_lit 278,jN "__init__" "House.__init__" wo 277)::
(nat_lit 279,eT)::
(nat_lit 282,cP "plain" "House.plain" 572 153 1 279)::
(nat_lit 283,jN "plain" "House.plain" wz 282)::
(nat_lit 284,tT ["elder","name","own_fields","own_words"] 578)::
(nat_lit 285,⟨(.type "dict"),none,(.dict #[kE P "__module__" 556 (.str "elderhouse.terms" 436),⟨Ry P "__firstlineno__",.str "__firstlineno__" 560,.int 145 559⟩,kE P "__init__" 571 (.ref 278),kE P "plain" 577 (.ref 283),kE P "__static_attributes__" 582 (.ref 284),kE P "__dict__" 584 (.ref 287),kE P "__weakref__" 586 (.ref 288),kE P "__doc__" 587 .none] 4),#[]⟩)::
(nat_lit 286,⟨(.type "type"),none,(.cls ⟨"House",[(.type "object")],[.ref 286,(.type "object")],285,"House",true,[],[],false,none,false⟩),#[none,none,(some (.str "House" 549)),(some (.str "House" 557)),(some (.builtin "object.__new__")),(some (.bool true))]⟩)::
(nat_lit 287,⟨.type "getset_descriptor",none,.fields #[.str "__dict__" 583,.ref 286,.builtin "function.__dict__",.builtin "function.__dict__#set"],#[]⟩)::
(nat_lit 288,⟨.type "getset_descriptor",none,.fields #[.str "__weakref__" 585,.ref 286,.builtin "ExceptionGroup.__weakref__",.none],#[]⟩)::
(nat_lit 298,eT)::
(nat_lit 300,tT ["self","all_houses","main"] 605)::
(nat_lit 301,eT)::
(nat_lit 303,cO "__init__" "Program.__init__" 602 158 3 3 298 608)::
(nat_lit 304,jN "__init__" "Program.__init__" wu 303)::
(nat_lit 305,eT)::
(nat_lit 308,cP "plain" "Program.plain" 611 162 1 305)::
(nat_lit 309,jN "plain" "Program.plain" wb 308)::
(nat_lit 310,eT)::
(nat_lit 313,cP "bodies" "Program.bodies" 617 166 1 310)::
(nat_lit 314,jN "bodies" "Program.bodies" wm 313)::
(nat_lit 315,tT ["all_houses","main"] 623)::
(nat_lit 316,⟨(.type "dict"),none,(.dict #[kE P "__module__" 597 (.str "elderhouse.terms" 436),⟨Ry P "__firstlineno__",.str "__firstlineno__" 601,.int 156 600⟩,kE P "__init__" 610 (.ref 304),kE P "plain" 616 (.ref 309),kE P "bodies" 622 (.ref 314),kE P "__static_attributes__" 625 (.ref 315),kE P "__dict__" 627 (.ref 318),kE P "__weakref__" 629 (.ref 319),kE P "__doc__" 630 .none] 4),#[]⟩)::
(nat_lit 317,⟨(.type "type"),none,(.cls ⟨"Program",[(.type "object")],[.ref 317,(.type "object")],316,"Program",true,[],[],false,none,false⟩),#[none,none,(some (.str "Program" 590)),(some (.str "Program" 598)),(some (.builtin "object.__new__")),(some (.bool true))]⟩)::
(nat_lit 318,⟨.type "getset_descriptor",none,.fields #[.str "__dict__" 626,.ref 317,.builtin "function.__dict__",.builtin "function.__dict__#set"],#[]⟩)::
(nat_lit 319,⟨.type "getset_descriptor",none,.fields #[.str "__weakref__" 628,.ref 317,.builtin "ExceptionGroup.__weakref__",.none],#[]⟩)::
(nat_lit 322,eT)::
(nat_lit 325,cP "pairs_of" "pairs_of" 633 172 1 322)::
(nat_lit 326,Bm "pairs_of" vh 325)::
(nat_lit 327,⟨(.type "dict"),none,(.dict #[⟨Ry P ";",.str ";" 657,.int 1 658⟩,⟨Ry P "<",.str "<" 659,.int 2 660⟩,⟨Ry P "=",.str "=" 661,.int 2 662⟩,⟨Ry P "+",.str "+" 663,.int 3 664⟩,⟨Ry P "-",.str "-" 665,.int 3 666⟩,⟨Ry P "*",.str "*" 667,.int 4 668⟩,⟨Ry P "/",.str "/" 669,.int 4 670⟩] 7),#[]⟩)::
(nat_lit 328,eT)::
(nat_lit 331,cP "read" "read" 683 186 1 328)::
(nat_lit 332,hZ "read" xI 331)::
(nat_lit 333,eT)::
(nat_lit 335,tT ["row","still_open","word"] 692)::
(nat_lit 336,eT)::
(nat_lit 338,cQ "need_few_open" 689 202 1 333 695)::
(nat_lit 339,hZ "need_few_open" wc 338)::
(nat_lit 340,eT)::
(nat_lit 342,tT ["found","most"] 701)::
(nat_lit 343,eT)::
(nat_lit 345,cQ "need_few" 698 211 2 340 703)::
(nat_lit 346,hZ "need_few" vl 345)::
(nat_lit 347,eT)::
(nat_lit 350,cP "need_bounds" "need_bounds" 706 214 1 347)::
(nat_lit 351,hZ "need_bounds" wB 350)::
(nat_lit 352,eT)::
(nat_lit 354,tT ["guest","name","elder","own_fields","own_words"] 715)::
(nat_lit 355,eT)::
(nat_lit 357,cQ "read_house" 712 219 1 352 720)::
(nat_lit 358,hZ "read_house" vE 357)::
(nat_lit 359,eT)::
(nat_lit 361,tT ["guest","name","params","kind"] 726)::
(nat_lit 362,eT)::
(nat_lit 364,cQ "read_word" 723 235 2 359 730)::
(nat_lit 365,hZ "read_word" vV 364)::
(nat_lit 366,eT)::
(nat_lit 368,tT ["guest","name"] 736)::
(nat_lit 369,eT)::
(nat_lit 371,cQ "read_pair" 733 241 1 366 738)::
(nat_lit 372,hZ "read_pair" vZ 371)::
(nat_lit 373,eT)::
(nat_lit 375,tT ["guest"] 744)::
(nat_lit 376,eT)::
(nat_lit 378,cQ "read_kind" 741 244 1 373 745)::
(nat_lit 379,hZ "read_kind" vY 378)::
(nat_lit 380,eT)::
(nat_lit 382,tT ["guest","read_item","found"] 751)::
(nat_lit 383,eT)::
(nat_lit 385,cQ "read_list" 748 250 2 380 754)::
(nat_lit 386,hZ "read_list" vU 385)::
(nat_lit 387,eT)::
(nat_lit 389,tT ["guest","deep","found"] 760)::
(nat_lit 390,tT ["deep"] 763)::
(nat_lit 392,cQ "read_terms" 757 260 2 387 764)::
(nat_lit 393,hZ "read_terms" la 392)::
(nat_lit 394,eT)::
(nat_lit 396,tT ["guest","least","lowest","deep","term","sign","right"] 770)::
(nat_lit 397,eT)::
(nat_lit 399,cQ "read_term" 767 264 4 394 777)::
(nat_lit 400,hZ "read_term" v5 399)::
(nat_lit 401,eT)::
(nat_lit 403,tT ["guest","lowest","deep"] 783)::
(nat_lit 404,eT)::
(nat_lit 406,cQ "read_part" 780 276 3 401 786)::
(nat_lit 407,hZ "read_part" vW 406)::
(nat_lit 408,eT)::
(nat_lit 410,tT ["guest","deep","asked","wanted","other"] 792)::
(nat_lit 411,eT)::
(nat_lit 413,cQ "read_if" 789 288 2 408 797)::
(nat_lit 414,hZ "read_if" vu 413)::
(nat_lit 415,eT)::
(nat_lit 417,tT ["guest","lowest","deep","name","first"] 803)::
(nat_lit 418,eT)::
(nat_lit 420,cQ "read_let" 800 295 3 415 808)::
(nat_lit 421,hZ "read_let" vn 420)::
(nat_lit 422,eT)::
(nat_lit 424,tT ["guest","deep","field","value"] 814)::
(nat_lit 425,eT)::
(nat_lit 427,cQ "read_set" 811 301 2 422 818)::
(nat_lit 428,hZ "read_set" vj 427)::
(nat_lit 429,eT)::
(nat_lit 431,tT ["guest","deep","term","name"] 824)::
(nat_lit 432,eT)::
(nat_lit 434,cQ "read_pointed" 821 308 2 429 828)::
(nat_lit 435,hZ "read_pointed" wG 434)::
(nat_lit 436,eT)::
(nat_lit 438,tT ["guest","deep","word","name","term"] 834)::
(nat_lit 439,eT)::
(nat_lit 441,cQ "read_one" 831 317 2 436 839)::
(nat_lit 442,hZ "read_one" vf 441)::
(nat_lit 443,eT)::
(nat_lit 445,tT ["_law_script","_law_k"] 847)::
(nat_lit 446,eT)::
(nat_lit 448,cQ "_law_cell_at" 844 340 2 443 849)::
(nat_lit 449,fY "_law_cell_at" wJ 448)::
(nat_lit 450,eT)::
(nat_lit 452,tT ["_law_cell","_law_k"] 855)::
(nat_lit 453,eT)::
(nat_lit 455,cQ "_law_mixed" 852 344 2 450 857)::
(nat_lit 456,fY "_law_mixed" vG 455)::
(nat_lit 457,eT)::
(nat_lit 460,cP "_law_name" "_law_name" 860 346 2 457)::
(nat_lit 461,fY "_law_name" vR 460)::
(nat_lit 462,eT)::
(nat_lit 464,tT ["_law_cell","_law_shift"] 869)::
(nat_lit 465,eT)::
(nat_lit 467,cQ "_law_atom" 866 363 2 462 871)::
(nat_lit 468,fY "_law_atom" v8 467)::
(nat_lit 469,eT)::
(nat_lit 472,cP "_law_taken" "_law_taken" 874 369 2 469)::
(nat_lit 473,fY "_law_taken" vK 472)::
(nat_lit 474,eT)::
(nat_lit 476,tT ["_law_stack","_law_cell","_law_shift","_law_name_here","_law_terms","_law_deep","_law_many"] 883)::
(nat_lit 477,eT)::
(nat_lit 479,cQ "_law_about" 880 373 3 474 890)::
(nat_lit 480,fY "_law_about" v_ 479)::
(nat_lit 481,eT)::
(nat_lit 483,tT ["_law_stack","_law_cell","_law_shift","_law_name_here","_law_terms","_law_deep"] 896)::
(nat_lit 484,eT)::
(nat_lit 486,cQ "_law_joined" 893 384 3 481 902)::
(nat_lit 487,fY "_law_joined" vN 486)::
(nat_lit 488,eT)::
(nat_lit 491,cP "_law_term" "_law_term" 905 400 2 488)::
(nat_lit 492,fY "_law_term" vP 491)::
(nat_lit 493,eT)::
(nat_lit 496,cP "_law_params" "_law_params" 911 413 3 493)::
(nat_lit 497,fY "_law_params" wF 496)::
(nat_lit 498,eT)::
(nat_lit 501,cP "_law_house" "_law_house" 917 416 4 498)::
(nat_lit 502,fY "_law_house" vF 501)::
(nat_lit 503,eT)::
(nat_lit 506,cP "_law_program" "_law_program" 923 429 1 503)::
(nat_lit 507,fY "_law_program" wI 506)::
(nat_lit 508,eT)::
(nat_lit 510,tT ["_law_term_here"] 932)::
(nat_lit 511,eT)::
(nat_lit 513,cQ "_law_power" 929 437 1 508 933)::
(nat_lit 514,fY "_law_power" vC 513)::
(nat_lit 515,eT)::
(nat_lit 517,tT ["_law_term_here","_law_least","_law_power_here"] 939)::
(nat_lit 518,eT)::
(nat_lit 520,cQ "_law_bare" 936 441 2 515 942)::
(nat_lit 521,fY "_law_bare" vS 520)::
(nat_lit 522,eT)::
(nat_lit 525,cP "_law_row" "_law_row" 945 446 1 522)::
(nat_lit 526,fY "_law_row" vg 525)::
(nat_lit 527,eT)::
(nat_lit 529,tT ["_law_term_here","_law_power_here","_law_kind","_law_left","_law_thing","_law_one"] 954)::
(nat_lit 530,eT)::
(nat_lit 532,cQ "_law_inner" 951 448 2 527 960)::
(nat_lit 533,fY "_law_inner" vD 532)::
(nat_lit 534,eT)::
(nat_lit 537,cP "_law_params_text" "_law_params_text" 963 475 1 534)::
(nat_lit 538,fY "_law_params_text" wy 537)::
(nat_lit 539,eT)::
(nat_lit 542,cP "_law_shown" "_law_shown" 969 477 1 539)::
(nat_lit 543,fY "_law_shown" v9 542)::
(nat_lit 544,eT)::
(nat_lit 547,cP "_law_measured" "_law_measured" 975 487 1 544)::
(nat_lit 548,fY "_law_measured" wK 547)::
(nat_lit 549,eT)::
(nat_lit 552,cP "_law_is_great" "_law_is_great" 981 495 2 549)::
(nat_lit 553,fY "_law_is_great" we 552)::
(nat_lit 554,eT)::
(nat_lit 556,tT ["_law_text","e"] 990)::
(nat_lit 557,eT)::
(nat_lit 559,cQ "_law_told" 987 500 1 554 992)::
(nat_lit 560,fY "_law_told" vX 559)::
(nat_lit 561,eT)::
(nat_lit 563,tT ["_law_script","_law_plain","_law_text","_law_found"] 998)::
(nat_lit 564,eT)::
(nat_lit 566,cQ "law" 995 507 1 561 1002)::
(nat_lit 567,fY "law" qt 566)::[]
noncomputable def KK(P:PySem.Params):X0:=(nat_lit 388,⟨.none,none,.fields #[],#[]⟩)::KB P
noncomputable def KA:List V0:=[388,2,3,15,22,23,24,25,28,35,37,38,40,41,42,43,44,47,54,55,56,59,60,62,63,65,66,67,69,70,72,73,74,76,77,79,80,81,83,84,86,87,88,90,91,93,94,95,97,98,100,101,102,105,106,107,110,111,112,120,122,123,125,126,127,129,130,132,133,134,136,137,139,140,141,143,144,146,147,148,150,151,153,154,155,157,158,160,161,162,164,165,167,168,169,171,172,174,175,176,177,178,179,180,190,193,194,195,197,198,200,201,202,204,205,207,208,209,211,212,214,215,216,218,219,221,222,223,224,225,226,227,230,232,233,235,236,244,246,247,249,250,251,253,254,256,257,258,259,260,261,262,272,274,275,277,278,279,282,283,284,285,286,287,288,298,300,301,303,304,305,308,309,310,313,314,315,316,317,318,319,322,325,326,327,328,331,332,333,335,336,338,339,340,342,343,345,346,347,350,351,352,354,355,357,358,359,361,362,364,365,366,368,369,371,372,373,375,376,378,379,380,382,383,385,386,387,389,390,392,393,394,396,397,399,400,401,403,404,406,407,408,410,411,413,414,415,417,418,420,421,422,424,425,427,428,429,431,432,434,435,436,438,439,441,442,443,445,446,448,449,450,452,453,455,456,457,460,461,462,464,465,467,468,469,472,473,474,476,477,479,480,481,483,484,486,487,488,491,492,493,496,497,498,501,502,503,506,507,508,510,511,513,514,515,517,518,520,521,522,525,526,527,529,530,532,533,534,537,538,539,542,543,544,547,548,549,552,553,554,556,557,559,560,561,563,564,566,567]
theorem dk:∀P,KA=(KK P).map (·.1):=λ ω=>by kernel_rfl
theorem Ka{p q:Program}{loose:List U1}{Xt:Z1->Bool}{α:Type}{Yf:Z1->α}{Ya:V1->α}{N:Nat}{H₀:Params->M1}{gs₀:Array UB}{d₀:Drawn}{k₀ m₀ M:Nat}{ann:Option Y1}(op:∀w:V1,(W.fencedOpening R3 p w N).map (λ s=>(s.heap,s.gens,s.drawn,s.toks))=some (H₀ w.params,gs₀,d₀,k₀))(sz:∀w:V1,((H₀ w.params).isNs RE&&gs₀.size==0)=true/\(H₀ w.params).objs.size=m₀/\(H₀ w.params).nsMap RE "__annotations__"=ann)(le:M<=N)(ex:∀(w:V1)(os:Sw),∃s,UC R3 p w m₀ ann M ⟨H₀ w.params,gs₀,d₀,k₀,os⟩ (W.topStub p)=some s/\(W.staticsOk (Si p.main.body) (H₀ w.params) s.heap&&Up p s.heap&&W.gensDone s&&W.laidKept (H₀ w.params) s.heap)=true/\W.openSeen q loose (Si p.main.body) Xt true s=W.openGood q loose/\Yf s=Ya w):W.LeftO p q loose Xt Yf Ya N:=by
 intro w;obtain⟨⟨hh,gg,dr,tk,os⟩,e1,e2⟩:=iJ.mp (op w);simp only[Prod.mk.injEq]at e2;obtain⟨a1,a2,a3,a4⟩:=e2;subst a1 a2 a3 a4;obtain⟨z1,z2,z3⟩:=sz w;obtain⟨s,hr,b1,b2,b3⟩:=ex w os;have hr:=W.topRun_mono (N-M) _ _ _ _ hr;rw[Nat.add_sub_of_le le]at hr;have ht:W.topFrom R3 p w N ⟨H₀ w.params,gg,dr,tk,os⟩=some s:=by
  unfold W.topFrom;simp only[z1,z2,z3,hr,yz,b1]
 unfold W.openEnds;rw[e1,yz,ht,uB,b2,b3]
theorem zz:(pw0.main.body.isEmpty==false)=true:=by k_qdec
noncomputable def eN(p:Program):Env:={scope:=p.main.scope,locals:=mainNs,globals:=mainNs,cells:=[],code:=.ref 13,frame:=some 14}
noncomputable def cN(p:Program):Code:=.body (R6 p) (eN p)
def po:Pos:=⟨0,0,0,0⟩
def pf:Pos:=⟨507,0,515,98⟩
def an:Option Y1:=some (.ref 6)
noncomputable def Y0(w:V1)(os:Sw):Z1:=⟨R_ w.params,Array.mk [],W.boot_drawn,W.boot_toks,os⟩
noncomputable def Sa(p:Program)(w:V1)(os:Sw):Z1:=match W.topGo R3 p w 11 an 12 (Y0 w os) (W.topStub p)with
 |some (s,_)=>s
 |none=>Y0 w os
def yA:List Obj->Nat->W.BT->W.BT
 |[],_,t=>t
 |o::l,n,t=>yA l (n+1) (t.ins n o)
noncomputable def TB(p:Program)(w:V1)(os:Sw):W.SharedT:=⟨yA (Sa p w os).heap.objs.toList 0 .nil,15,(Sa p w os).heap.life,(Sa p w os).gens,(Sa p w os).drawn,(Sa p w os).toks,os⟩
theorem r1(w:V1)(os:Sw):W.topGo R3 pw0 w 11 an 12 (Y0 w os) (W.topStub pw0)=some (Sa pw0 w os,⟨denote R3 (cN pw0),cN pw0,po,[SA po]⟩):=by
 kernel_rfl
theorem r2(w:V1)(os:Sw):W.segRun R3 pw0 w 11 an 1 1 (Sa pw0 w os) (W.blockOf (R6 pw0) (eN pw0) (cN pw0) po [SA po])=some (.next,Sa pw0 w os,cN pw0,po):=by
 kernel_rfl
theorem r3(w:V1)(os:Sw):(TB pw0 w os).abs=Sa pw0 w os:=by
 kernel_rfl
noncomputable def e0:Obj:=⟨.none,none,.fields #[],#[]⟩
noncomputable def et:Obj:=⟨.type "tuple",none,.seq #[] 0,#[]⟩
noncomputable def ky(P:Params)(x:U1)(t:Nat)(v:Y1):TH:=⟨Ry P x,.str x t,v⟩
noncomputable def fz(x y:U1)(s:RH):Obj:=⟨.none,none,.func {name:=x,qualname:=y,params:=L2.gO s,body:=.stmts (L2.fh s),scope:=L2.bg s,globals:=0,closure:=[],defaults:=.none,kwdefaults:=.none},#[]⟩
noncomputable def bi(x:String)(v:Y1):Obj:=⟨.type "builtin_function_or_method",none,.fields #[.builtin x,v],#[]⟩
noncomputable def fr(a b:Nat)(x:U1)(t:Nat):Obj:=⟨.type "frame",none,.plain,#[some (.ref a),some (.ref 3),some (.ref b),none,some (.str x t),none,some (.ref 0)]⟩
noncomputable def su(a:Nat):Obj:=⟨.type "super",none,.fields #[.ref a,.ref a,.ref a],#[]⟩
noncomputable def bo(P:Params)(i:Nat):Obj:=(R_ P).objs.toList.getD i e0
noncomputable def RZ(P:Params):List (V0×Obj):=[
(0,bo P 0),
(1,⟨(.type "dict"),none,(.dict #[ky P "builtins" 162 (.ref 4),ky P "__main__" 163 (.ref 5)] 2),#[]⟩),
(4,⟨(.type "module"),(some 0),.plain,#[]⟩),
(5,⟨(.type "module"),(some 3),.plain,#[]⟩),
(6,⟨(.type "dict"),none,(.dict #[] 0),#[]⟩),
(7,et),
(8,e0),
(9,⟨(.type "code"),none,(.fields #[.str "<module>" 176,.str "<module>" 177,.str "/claim/cut.py" 178,.int 1 0,.int 0 0,.int 0 0,.int 0 0,.int 0 0,.ref 7,.bool false,.int 175 0,.ref 8,.none,.none,.none,.none,.int 179 0,.int 1 0,.str "/claim/cut.py" 180]),#[]⟩),
(10,fr 9 3 "__main__" 164),
(11,et),
(12,⟨.none,none,(.fields #[.int 2 0,.int 0 0,.ref 20,.int 4 0,.int 0 0,.ref 33,.int 9 0,.int 0 0,.ref 52,.int 21 0,.int 0 0,.ref 65,.int 23 0,.int 0 0,.ref 72,.int 25 0,.int 0 0,.ref 79,.int 38 0,.int 0 0,.ref 86,.int 45 0,.int 0 0,.ref 93,.int 50 0,.int 0 0,.ref 100,.int 52 0,.int 0 0,.ref 105,.int 58 0,.int 0 0,.ref 110,.int 64 0,.int 0 0,.ref 118,.int 104 0,.int 0 0,.ref 188,.int 125 0,.int 0 0,.ref 235,.int 135 0,.int 0 0,.ref 242,.int 145 0,.int 0 0,.ref 270,.int 156 0,.int 0 0,.ref 296,.int 172 0,.int 0 0,.ref 325,.int 186 0,.int 0 0,.ref 331,.int 202 0,.int 0 0,.ref 338,.int 211 0,.int 0 0,.ref 345,.int 214 0,.int 0 0,.ref 350,.int 219 0,.int 0 0,.ref 357,.int 235 0,.int 0 0,.ref 364,.int 241 0,.int 0 0,.ref 371,.int 244 0,.int 0 0,.ref 378,.int 250 0,.int 0 0,.ref 385,.int 260 0,.int 0 0,.ref 392,.int 264 0,.int 0 0,.ref 399,.int 276 0,.int 0 0,.ref 406,.int 288 0,.int 0 0,.ref 413,.int 295 0,.int 0 0,.ref 420,.int 301 0,.int 0 0,.ref 427,.int 308 0,.int 0 0,.ref 434,.int 317 0,.int 0 0,.ref 441,.int 340 0,.int 0 0,.ref 448,.int 344 0,.int 0 0,.ref 455,.int 346 0,.int 0 0,.ref 460,.int 363 0,.int 0 0,.ref 467,.int 369 0,.int 0 0,.ref 472,.int 373 0,.int 0 0,.ref 479,.int 384 0,.int 0 0,.ref 486,.int 400 0,.int 0 0,.ref 491,.int 413 0,.int 0 0,.ref 496,.int 416 0,.int 0 0,.ref 501,.int 429 0,.int 0 0,.ref 506,.int 437 0,.int 0 0,.ref 513,.int 441 0,.int 0 0,.ref 520,.int 446 0,.int 0 0,.ref 525,.int 448 0,.int 0 0,.ref 532,.int 475 0,.int 0 0,.ref 537,.int 477 0,.int 0 0,.ref 542,.int 487 0,.int 0 0,.ref 547,.int 495 0,.int 0 0,.ref 552,.int 500 0,.int 0 0,.ref 559,.int 507 0,.int 0 0,.ref 566]),#[]⟩),
(13,⟨(.type "code"),none,(.fields #[.str "<module>" 182,.str "<module>" 183,.str "/claim/cut.py" 184,.int 1 0,.int 0 0,.int 0 0,.int 0 0,.int 0 0,.ref 11,.bool false,.int 181 0,.ref 12,.none,.none,.none,.none,.int 185 0,.int 1 0,.str "/claim/cut.py" 186]),#[]⟩),
(14,fr 13 3 "__main__" 164),
(16,bi "type.__prepare__" (.type "type")),
(17,⟨(.type "dict"),none,(.dict #[ky P "__module__" 196 (.str "elderhouse.errors" 187),ky P "__qualname__" 198 (.str "HouseError" 197),⟨Ry P "__firstlineno__",.str "__firstlineno__" 200,.int 2 199⟩,ky P "__static_attributes__" 201 (.ref 22)] 4),#[]⟩),
(18,et),
(19,e0),
(20,⟨(.type "code"),none,(.fields #[.str "HouseError" 191,.str "HouseError" 192,.str "/claim/cut.py" 193,.int 2 0,.int 0 0,.int 0 0,.int 0 0,.int 0 0,.ref 18,.bool false,.int 181 0,.ref 19,.none,.none,.none,.none,.int 194 0,.int 2 0,.str "/claim/cut.py" 195]),#[]⟩),
(21,fr 20 17 "elderhouse.errors" 187),
(26,su 24),
(27,bi "object.__init_subclass__" (.ref 24)),
(29,bi "type.__prepare__" (.type "type")),
(30,⟨(.type "dict"),none,(.dict #[ky P "__module__" 214 (.str "elderhouse.errors" 187),ky P "__qualname__" 216 (.str "BadWords" 215),⟨Ry P "__firstlineno__",.str "__firstlineno__" 218,.int 4 217⟩,ky P "__init__" 226 (.ref 41),ky P "__static_attributes__" 228 (.ref 42)] 5),#[]⟩),
(31,et),
(32,⟨.none,none,(.fields #[.int 6 0,.int 4 0,.ref 40]),#[]⟩),
(33,⟨(.type "code"),none,(.fields #[.str "BadWords" 209,.str "BadWords" 210,.str "/claim/cut.py" 211,.int 4 0,.int 0 0,.int 0 0,.int 0 0,.int 0 0,.ref 31,.bool false,.int 181 0,.ref 32,.none,.none,.none,.none,.int 212 0,.int 4 0,.str "/claim/cut.py" 213]),#[]⟩),
(34,fr 33 30 "elderhouse.errors" 187),
(36,e0),
(39,fz "__init__" "BadWords.__init__" DB),
(45,su 44),
(46,bi "object.__init_subclass__" (.ref 44)),
(48,bi "type.__prepare__" (.type "type")),
(49,⟨(.type "dict"),none,(.dict #[ky P "__module__" 239 (.str "elderhouse.errors" 187),ky P "__qualname__" 241 (.str "BadForm" 240),⟨Ry P "__firstlineno__",.str "__firstlineno__" 243,.int 9 242⟩,ky P "__static_attributes__" 244 (.ref 54)] 4),#[]⟩),
(50,et),
(51,e0),
(52,⟨(.type "code"),none,(.fields #[.str "BadForm" 234,.str "BadForm" 235,.str "/claim/cut.py" 236,.int 9 0,.int 0 0,.int 0 0,.int 0 0,.int 0 0,.ref 50,.bool false,.int 181 0,.ref 51,.none,.none,.none,.none,.int 237 0,.int 9 0,.str "/claim/cut.py" 238]),#[]⟩),
(53,fr 52 49 "elderhouse.errors" 187),
(57,su 56),
(58,bi "object.__init_subclass__" (.ref 56)),
(61,e0),
(64,fz "is_told" "is_told" xb),
(68,e0),
(71,fz "is_name" "is_name" xa),
(75,e0),
(78,fz "words" "words" wU),
(82,e0),
(85,fz "word_at" "word_at" w_),
(89,e0),
(92,fz "row_at" "row_at" w9),
(96,e0),
(99,fz "is_row_sign" "is_row_sign" wY),
(103,e0),
(104,fz "is_number" "is_number" wV),
(108,e0),
(109,fz "is_name_row" "is_name_row" wX),
(113,et),
(114,bi "type.__prepare__" (.type "type")),
(115,⟨(.type "dict"),none,(.dict #[ky P "__module__" 361 (.str "elderhouse.guests" 347),ky P "__qualname__" 363 (.str "Guest" 362),⟨Ry P "__firstlineno__",.str "__firstlineno__" 365,.int 64 364⟩,ky P "__init__" 373 (.ref 126),ky P "ahead" 380 (.ref 133),ky P "behind" 387 (.ref 140),ky P "take" 395 (.ref 147),ky P "takes" 403 (.ref 154),ky P "need" 411 (.ref 161),ky P "need_name" 418 (.ref 168),ky P "need_end" 425 (.ref 175),ky P "__static_attributes__" 428 (.ref 176)] 12),#[]⟩),
(116,et),
(117,⟨.none,none,(.fields #[.int 66 0,.int 4 0,.ref 125,.int 70 0,.int 4 0,.ref 132,.int 75 0,.int 4 0,.ref 139,.int 78 0,.int 4 0,.ref 146,.int 85 0,.int 4 0,.ref 153,.int 91 0,.int 4 0,.ref 160,.int 95 0,.int 4 0,.ref 167,.int 100 0,.int 4 0,.ref 174]),#[]⟩),
(118,⟨(.type "code"),none,(.fields #[.str "Guest" 356,.str "Guest" 357,.str "/claim/cut.py" 358,.int 64 0,.int 0 0,.int 0 0,.int 0 0,.int 0 0,.ref 116,.bool false,.int 181 0,.ref 117,.none,.none,.none,.none,.int 359 0,.int 64 0,.str "/claim/cut.py" 360]),#[]⟩),
(119,fr 118 115 "elderhouse.guests" 347),
(121,e0),
(124,fz "__init__" "Guest.__init__" wj),
(128,e0),
(131,fz "ahead" "Guest.ahead" wD),
(135,e0),
(138,fz "behind" "Guest.behind" wH),
(142,e0),
(145,fz "take" "Guest.take" vJ),
(149,e0),
(152,fz "takes" "Guest.takes" wC),
(156,e0),
(159,fz "need" "Guest.need" vB),
(163,e0),
(166,fz "need_name" "Guest.need_name" wq),
(170,e0),
(173,fz "need_end" "Guest.need_end" wk),
(181,su 178),
(182,bi "object.__init_subclass__" (.ref 178)),
(183,et),
(184,bi "type.__prepare__" (.type "type")),
(185,⟨(.type "dict"),none,(.dict #[ky P "__module__" 445 (.str "elderhouse.terms" 436),ky P "__qualname__" 447 (.str "Term" 446),⟨Ry P "__firstlineno__",.str "__firstlineno__" 449,.int 104 448⟩,ky P "__init__" 455 (.ref 194),ky P "plain" 462 (.ref 201),ky P "parts" 469 (.ref 208),ky P "depth" 476 (.ref 215),ky P "size" 483 (.ref 222),ky P "__static_attributes__" 490 (.ref 223)] 9),#[]⟩),
(186,et),
(187,⟨.none,none,(.fields #[.int 106 0,.int 4 0,.ref 193,.int 114 0,.int 4 0,.ref 200,.int 117 0,.int 4 0,.ref 207,.int 120 0,.int 4 0,.ref 214,.int 123 0,.int 4 0,.ref 221]),#[]⟩),
(188,⟨(.type "code"),none,(.fields #[.str "Term" 440,.str "Term" 441,.str "/claim/cut.py" 442,.int 104 0,.int 0 0,.int 0 0,.int 0 0,.int 0 0,.ref 186,.bool false,.int 181 0,.ref 187,.none,.none,.none,.none,.int 443 0,.int 104 0,.str "/claim/cut.py" 444]),#[]⟩),
(189,fr 188 185 "elderhouse.terms" 436),
(191,e0),
(192,fz "__init__" "Term.__init__" wh),
(196,e0),
(199,fz "plain" "Term.plain" vL),
(203,e0),
(206,fz "parts" "Term.parts" vM),
(210,e0),
(213,fz "depth" "Term.depth" vI),
(217,e0),
(220,fz "size" "Term.size" vO),
(228,su 225),
(229,bi "object.__init_subclass__" (.ref 225)),
(231,e0),
(234,fz "shape_of" "shape_of" vi),
(237,et),
(238,bi "type.__prepare__" (.type "type")),
(239,⟨(.type "dict"),none,(.dict #[ky P "__module__" 514 (.str "elderhouse.terms" 436),ky P "__qualname__" 516 (.str "Word" 515),⟨Ry P "__firstlineno__",.str "__firstlineno__" 518,.int 135 517⟩,ky P "__init__" 529 (.ref 250),ky P "plain" 536 (.ref 257),ky P "__static_attributes__" 541 (.ref 258)] 6),#[]⟩),
(240,et),
(241,⟨.none,none,(.fields #[.int 137 0,.int 4 0,.ref 249,.int 143 0,.int 4 0,.ref 256]),#[]⟩),
(242,⟨(.type "code"),none,(.fields #[.str "Word" 509,.str "Word" 510,.str "/claim/cut.py" 511,.int 135 0,.int 0 0,.int 0 0,.int 0 0,.int 0 0,.ref 240,.bool false,.int 181 0,.ref 241,.none,.none,.none,.none,.int 512 0,.int 135 0,.str "/claim/cut.py" 513]),#[]⟩),
(243,fr 242 239 "elderhouse.terms" 436),
(245,e0),
(248,fz "__init__" "Word.__init__" wL),
(252,e0),
(255,fz "plain" "Word.plain" vH),
(263,su 260),
(264,bi "object.__init_subclass__" (.ref 260)),
(265,et),
(266,bi "type.__prepare__" (.type "type")),
(267,⟨(.type "dict"),none,(.dict #[ky P "__module__" 556 (.str "elderhouse.terms" 436),ky P "__qualname__" 558 (.str "House" 557),⟨Ry P "__firstlineno__",.str "__firstlineno__" 560,.int 145 559⟩,ky P "__init__" 571 (.ref 278),ky P "plain" 577 (.ref 283),ky P "__static_attributes__" 582 (.ref 284)] 6),#[]⟩),
(268,et),
(269,⟨.none,none,(.fields #[.int 147 0,.int 4 0,.ref 277,.int 153 0,.int 4 0,.ref 282]),#[]⟩),
(270,⟨(.type "code"),none,(.fields #[.str "House" 551,.str "House" 552,.str "/claim/cut.py" 553,.int 145 0,.int 0 0,.int 0 0,.int 0 0,.int 0 0,.ref 268,.bool false,.int 181 0,.ref 269,.none,.none,.none,.none,.int 554 0,.int 145 0,.str "/claim/cut.py" 555]),#[]⟩),
(271,fr 270 267 "elderhouse.terms" 436),
(273,e0),
(276,fz "__init__" "House.__init__" wo),
(280,e0),
(281,fz "plain" "House.plain" wz),
(289,su 286),
(290,bi "object.__init_subclass__" (.ref 286)),
(291,et),
(292,bi "type.__prepare__" (.type "type")),
(293,⟨(.type "dict"),none,(.dict #[ky P "__module__" 597 (.str "elderhouse.terms" 436),ky P "__qualname__" 599 (.str "Program" 598),⟨Ry P "__firstlineno__",.str "__firstlineno__" 601,.int 156 600⟩,ky P "__init__" 610 (.ref 304),ky P "plain" 616 (.ref 309),ky P "bodies" 622 (.ref 314),ky P "__static_attributes__" 625 (.ref 315)] 7),#[]⟩),
(294,et),
(295,⟨.none,none,(.fields #[.int 158 0,.int 4 0,.ref 303,.int 162 0,.int 4 0,.ref 308,.int 166 0,.int 4 0,.ref 313]),#[]⟩),
(296,⟨(.type "code"),none,(.fields #[.str "Program" 592,.str "Program" 593,.str "/claim/cut.py" 594,.int 156 0,.int 0 0,.int 0 0,.int 0 0,.int 0 0,.ref 294,.bool false,.int 181 0,.ref 295,.none,.none,.none,.none,.int 595 0,.int 156 0,.str "/claim/cut.py" 596]),#[]⟩),
(297,fr 296 293 "elderhouse.terms" 436),
(299,e0),
(302,fz "__init__" "Program.__init__" wu),
(306,e0),
(307,fz "plain" "Program.plain" wb),
(311,e0),
(312,fz "bodies" "Program.bodies" wm),
(320,su 317),
(321,bi "object.__init_subclass__" (.ref 317)),
(323,e0),
(324,fz "pairs_of" "pairs_of" vh),
(329,e0),
(330,fz "read" "read" xI),
(334,e0),
(337,fz "need_few_open" "need_few_open" wc),
(341,e0),
(344,fz "need_few" "need_few" vl),
(348,e0),
(349,fz "need_bounds" "need_bounds" wB),
(353,e0),
(356,fz "read_house" "read_house" vE),
(360,e0),
(363,fz "read_word" "read_word" vV),
(367,e0),
(370,fz "read_pair" "read_pair" vZ),
(374,e0),
(377,fz "read_kind" "read_kind" vY),
(381,e0),
(384,fz "read_list" "read_list" vU),
(388,e0),
(391,fz "read_terms" "read_terms" la),
(395,e0),
(398,fz "read_term" "read_term" v5),
(402,e0),
(405,fz "read_part" "read_part" vW),
(409,e0),
(412,fz "read_if" "read_if" vu),
(416,e0),
(419,fz "read_let" "read_let" vn),
(423,e0),
(426,fz "read_set" "read_set" vj),
(430,e0),
(433,fz "read_pointed" "read_pointed" wG),
(437,e0),
(440,fz "read_one" "read_one" vf),
(444,e0),
(447,fz "_law_cell_at" "_law_cell_at" wJ),
(451,e0),
(454,fz "_law_mixed" "_law_mixed" vG),
(458,e0),
(459,fz "_law_name" "_law_name" vR),
(463,e0),
(466,fz "_law_atom" "_law_atom" v8),
(470,e0),
(471,fz "_law_taken" "_law_taken" vK),
(475,e0),
(478,fz "_law_about" "_law_about" v_),
(482,e0),
(485,fz "_law_joined" "_law_joined" vN),
(489,e0),
(490,fz "_law_term" "_law_term" vP),
(494,e0),
(495,fz "_law_params" "_law_params" wF),
(499,e0),
(500,fz "_law_house" "_law_house" vF),
(504,e0),
(505,fz "_law_program" "_law_program" wI),
(509,e0),
(512,fz "_law_power" "_law_power" vC),
(516,e0),
(519,fz "_law_bare" "_law_bare" vS),
(523,e0),
(524,fz "_law_row" "_law_row" vg),
(528,e0),
(531,fz "_law_inner" "_law_inner" vD),
(535,e0),
(536,fz "_law_params_text" "_law_params_text" wy),
(540,e0),
(541,fz "_law_shown" "_law_shown" v9),
(545,e0),
(546,fz "_law_measured" "_law_measured" wK),
(550,e0),
(551,fz "_law_is_great" "_law_is_great" we),
(555,e0),
(558,fz "_law_told" "_law_told" vX),
(562,e0),
(565,fz "law" "law" qt)]
def rY:Nat->List (V0×Obj)->List (V0×Obj)->List Obj
 |0,_,_=>[]
 |n+1,(a,x)::l,(b,y)::r=>match Nat.blt a b with
  |true=>x::rY n l ((b,y)::r)
  |false=>y::rY n ((a,x)::l) r
 |n+1,[],(_,y)::r=>y::rY n [] r
 |n+1,(_,x)::l,[]=>x::rY n l []
 |_+1,[],[]=>[]
noncomputable def TF(p:Program)(w:V1)(os:Sw):W.SharedT:=⟨yA (rY 568 (RZ w.params) (KB w.params)) 0 .nil,568,(Sa p w os).heap.life,Array.mk [],W.boot_drawn,1005,os⟩
def sF(w:V1)(b:Bool):V1:={w with params:={w.params with followText:=λ x=>if x="special-get-raises" then b else w.params.followText x}}
theorem HX(w:V1):sF w (w.params.followText "special-get-raises")=w:=by
 have h:(λ x=>if x="special-get-raises" then w.params.followText "special-get-raises" else w.params.followText x)=w.params.followText:=by
  funext x;split
  ·rename_i h;rw[h]
  ·rfl
 unfold sF;rw[h]
theorem Hi(w:V1)(os:Sw):UD R3 pw0 (sF w true) 11 an 1 4048 (TB pw0 (sF w true) os) (Uq (R6 pw0) (eN pw0) (cN pw0) po [SA po])=some (.next,(TF pw0 (sF w true) os),cN pw0,pf):=by
 unfold TF TB Sa;rw[W.Fast.te10110043849684766642,W.Fast.te15667345088766844465,W.Fast.te14799004536324720452];kernel_rfl
theorem Hj(w:V1)(os:Sw):UD R3 pw0 (sF w false) 11 an 1 4048 (TB pw0 (sF w false) os) (Uq (R6 pw0) (eN pw0) (cN pw0) po [SA po])=some (.next,(TF pw0 (sF w false) os),cN pw0,pf):=by
 unfold TF TB Sa;rw[W.Fast.te10110043849684766642,W.Fast.te15667345088766844465,W.Fast.te14799004536324720452];kernel_rfl
theorem b0(w:V1)(os:Sw):UD R3 pw0 w 11 an 1 4048 (TB pw0 w os) (Uq (R6 pw0) (eN pw0) (cN pw0) po [SA po])=some (.next,(TF pw0 w os),cN pw0,pf):=by
 have h:∀b,UD R3 pw0 (sF w b) 11 an 1 4048 (TB pw0 (sF w b) os) (Uq (R6 pw0) (eN pw0) (cN pw0) po [SA po])=some (.next,(TF pw0 (sF w b) os),cN pw0,pf):=λ b=>by
  cases b
  ·exact Hj w os
  ·exact Hi w os
 have h:=h (w.params.followText "special-get-raises");rw[HX]at h;exact h
theorem b1(w:V1)(os:Sw):(UC R3 pw0 w 11 an 2 (TF pw0 w os).abs (W.restOf [] (eN pw0) (cN pw0) pf [SA po])).map (λ s=>(W.staticsOk (Si pw0.main.body) (R_ w.params) s.heap&&Up pw0 s.heap&&W.gensDone s&&W.laidKept (R_ w.params) s.heap))=some true:=by
 kernel_rfl
theorem b2(w:V1)(os:Sw):(UC R3 pw0 w 11 an 2 (TF pw0 w os).abs (W.restOf [] (eN pw0) (cN pw0) pf [SA po])).map (λ s=>W.openSeen qv ["TRUTHS","STRENGTHS"] (Si pw0.main.body) (λ s=>W.xlAt qv [] s&&W.recOk (T9 rv) s) true s)=some (W.openGood qv ["TRUTHS","STRENGTHS"]):=by
 kernel_rfl
theorem b3(w:V1)(os:Sw):(UC R3 pw0 w 11 an 2 (TF pw0 w os).abs (W.restOf [] (eN pw0) (cN pw0) pf [SA po])).map (λ s=>W.Hook.obs (Ur KK KA dk) s)=some (W.Hook.val (Ur KK KA dk) w):=by
 kernel_rfl
theorem b4(w:V1)(os:Sw):∃T s,UD R3 pw0 w 11 an 1 4048 (TB pw0 w os) (Uq (R6 pw0) (eN pw0) (cN pw0) po [SA po])=some (.next,T,cN pw0,pf)/\UC R3 pw0 w 11 an 2 T.abs (W.restOf [] (eN pw0) (cN pw0) pf [SA po])=some s/\(W.staticsOk (Si pw0.main.body) (R_ w.params) s.heap&&Up pw0 s.heap&&W.gensDone s&&W.laidKept (R_ w.params) s.heap)=true/\W.openSeen qv ["TRUTHS","STRENGTHS"] (Si pw0.main.body) (λ s=>W.xlAt qv [] s&&W.recOk (T9 rv) s) true s=W.openGood qv ["TRUTHS","STRENGTHS"]/\W.Hook.obs (Ur KK KA dk) s=W.Hook.val (Ur KK KA dk) w:=by
 obtain⟨s,hs,y1⟩:=iJ.mp (b1 w os);obtain⟨s2,hs2,y2⟩:=iJ.mp (b2 w os);obtain⟨s3,hs3,y3⟩:=iJ.mp (b3 w os);cases jv (hs.symm.trans hs2);cases jv (hs.symm.trans hs3);exact⟨TF pw0 w os,s,b0 w os,hs,y1,y2,y3⟩
theorem r7(w:V1)(os:Sw):∃s,UC R3 pw0 w 11 an (12+(1+(4048+2))) (Y0 w os) (W.topStub pw0)=some s/\(W.staticsOk (Si pw0.main.body) (R_ w.params) s.heap&&Up pw0 s.heap&&W.gensDone s&&W.laidKept (R_ w.params) s.heap)=true/\W.openSeen qv ["TRUTHS","STRENGTHS"] (Si pw0.main.body) (λ s=>W.xlAt qv [] s&&W.recOk (T9 rv) s) true s=W.openGood qv ["TRUTHS","STRENGTHS"]/\W.Hook.obs (Ur KK KA dk) s=W.Hook.val (Ur KK KA dk) w:=by
 obtain⟨T,s,h1,h2,h3,h4,h5⟩:=b4 w os;refine⟨s,W.go_top (r1 w os) (W.piece_block (r2 w os) ?_),h3,h4,h5⟩;have h6:=W.segRun_of h1;rw[r3]at h6;have h7:=W.piece_app (rest:=[]) h6 h2;rw[eu]at h7;exact h7
theorem r8:∀w:V1,((R_ w.params).isNs RE&&(Array.mk ([]:List UB)).size==0)=true/\(R_ w.params).objs.size=11/\(R_ w.params).nsMap RE "__annotations__"=an:=by
 intro w;exact⟨by kernel_rfl,by kernel_rfl,by kernel_rfl⟩
theorem r9:∀w:V1,(W.fencedOpening R3 pw0 w 8220).map (λ s=>(s.heap,s.gens,s.drawn,s.toks))=some (R_ w.params,Array.mk [],W.boot_drawn,W.boot_toks):=W.boot_open rfl rfl λ s=>rfl
theorem left:W.LeftO pw0 qv ["TRUTHS","STRENGTHS"] (λ s=>W.xlAt qv [] s&&W.recOk (T9 rv) s) (W.Hook.obs (Ur KK KA dk)) (W.Hook.val (Ur KK KA dk)) 8220:=Ka r9 r8 qQ r7
theorem G4:rw0.wellSaid=true:=by
 kernel_rfl
end K16
end
section
namespace P15
open PySem
inductive Lb|non|int(i:Int)|bl(b:Bool)|str(x:U1)
noncomputable def Lb.d:Lb->PyData
 | .non=>.none| .int i=>.int i| .bl b=>.bool b| .str x=>.str x
inductive Fm|number|truth|name|self|nt|iff|two|lt|new|elder|call|field|set
noncomputable def Fm.s:Fm->U1
 | .number=>"number"| .truth=>"truth"| .name=>"name"| .self=>"self"| .nt=>"not"| .iff=>"if"| .two=>"two"| .lt=>"let"| .new=>"new"| .elder=>"elder"| .call=>"call"| .field=>"field"| .set=>"set"
inductive Tm|mk(f:Fm)(l:Lb)(ps:List Tm)
noncomputable def Tm.f:Tm->Fm| .mk f _ _=>f
noncomputable def Tm.l:Tm->Lb| .mk _ l _=>l
noncomputable def Tm.ps:Tm->List Tm| .mk _ _ ps=>ps
noncomputable def ig(f:Fm)(l:Lb)(ps:List PyData):List PyData:=match f with
 | .self| .nt| .iff=>.str f.s::ps
 | .new| .elder=>[.str f.s,l.d,.tuple ps]
 | .call=>match ps with
  |p::a=>[.str f.s,p,l.d,.tuple a]
  |[]=>[]
 | .field| .set=>match ps with
  |p::a=>.str f.s::p::l.d::a
  |[]=>[]
 |_=>.str f.s::l.d::ps
mutual
noncomputable def Tm.dat:Tm->PyData
 | .mk f l ps=>.tuple (ig f l (bO ps))
noncomputable def bO:List Tm->List PyData
 |[]=>[]
 |t::ts=>t.dat::bO ts
end
mutual
noncomputable def Tm.depth:Tm->Nat
 | .mk _ _ ps=>1+aO ps
noncomputable def aO:List Tm->Nat
 |[]=>0
 |t::ts=>max t.depth (aO ts)
end
mutual
noncomputable def Tm.size:Tm->Nat
 | .mk _ _ ps=>1+aG ps
noncomputable def aG:List Tm->Nat
 |[]=>0
 |t::ts=>t.size+aG ts
end
noncomputable def gq:Fm->Lb->Nat->Prop
 | .number,.int _,n=>n=0
 | .truth,.bl _,n=>n=0
 | .name,.str _,n=>n=0
 | .self,.non,n=>n=0
 | .nt,.non,n=>n=1
 | .iff,.non,n=>n=3
 | .two,.str _,n=>n=2
 | .lt,.str _,n=>n=2
 | .new,.str _,_=>True
 | .elder,.str _,_=>True
 | .call,.str _,n=>1<=n
 | .field,.str _,n=>n=1
 | .set,.str _,n=>n=2
 |_,_,_=>False
inductive Ok:Tm->Prop
 |mk{f:Fm}{l:Lb}{ps:List Tm}:gq f l ps.length->(∀p∈ps,Ok p)->Ok (.mk f l ps)
mutual
noncomputable def Tm.flat:Tm->List Tm
 | .mk f l ps=>.mk f l ps::fe ps
noncomputable def fe:List Tm->List Tm
 |[]=>[]
 |t::ts=>fe ts++t.flat
end
inductive iD:List Tm->List Tm->Prop
 |nil:iD [] []
 |snoc{w C:List Tm}{t:Tm}:iD w (C++t.ps)->iD (w++[t]) (C++[t])
mutual
theorem iD.flat:∀(t:Tm){w B:List Tm},iD w B->iD (w++t.flat.reverse) (B++[t])
 | .mk f l ps,w,B,h=>by
  have a:=iD.flats ps h;have e:w++(Tm.mk f l ps).flat.reverse=w++(fe ps).reverse++[Tm.mk f l ps]:=by
   show w++(Tm.mk f l ps::fe ps).reverse=_;rw[uA,eU]
  rw[e];exact .snoc a
theorem iD.flats:∀(ts:List Tm){w B:List Tm},iD w B->iD (w++(fe ts).reverse) (B++ts)
 |[],w,B,h=>by
  show iD (w++[]) (B++[]);rw[eu,eu];exact h
 |t::ts,w,B,h=>by
  have a:=iD.flats ts (iD.flat t h);show iD (w++(fe ts++t.flat).reverse) _;rw[List.reverse_append,<-eU];rw[eU B]at a;exact a
end
end P15
end
section
namespace L2
open PySem PySem.Spec PyProof.Rows
abbrev bZ:=Sum Int U1
def oK:bZ->Y1->Bool
 | .inl k,v=>Value.isInt k v
 | .inr x,v=>Value.isStrOf x v
def rZ(w:V1):bZ->Int
 | .inl k=>hashInt k
 | .inr x=>hashStr w x
theorem mD:∀{k:bZ}{v:Y1},oK k v=true->(∃i t,k=Sum.inl i/\v=Su i t)\/(∃x t,k=Sum.inr x/\v=Uk x t)
 | .inl i,v,h=>by
  obtain⟨t,e⟩:=Value.isInt_shape (k:=i) (v:=v) h;exact .inl ⟨i,t,rfl,e⟩
 | .inr x,v,h=>by
  obtain⟨t,e⟩:=Value.isStrOf_shape (x:=x) (v:=v) h;exact .inr ⟨x,t,rfl,e⟩
theorem M4(i:Int)(t:Tok):oK (.inl i) (.int i t)=true:=by simp[oK,Value.isInt]
theorem NG(x:U1)(t:Tok):oK (.inr x) (.str x t)=true:=by simp[oK,Value.isStrOf]
theorem IF(a b:Int):decide ((Sum.inl a:bZ)=Sum.inl b)=(a==b):=by
 by_cases e:a=b
 ·subst e;simp
 ·have h:¬(Sum.inl a:bZ)=Sum.inl b:=λ q=>e (Sum.inl.inj q);rw[UN h];exact(beq_eq_false_iff_ne.mpr e).symm
theorem IH(a b:U1):decide ((Sum.inr a:bZ)=Sum.inr b)=decide (a=b):=by
 by_cases e:a=b
 ·subst e;simp
 ·have h:¬(Sum.inr a:bZ)=Sum.inr b:=λ q=>e (Sum.inr.inj q);rw[UN h,UN e]
theorem Ks(a:Int)(b:U1):decide ((Sum.inl a:bZ)=Sum.inr b)=false:=UN (λ q=>nomatch q)
theorem Jr(a:U1)(b:Int):decide ((Sum.inr a:bZ)=Sum.inl b)=false:=UN (λ q=>nomatch q)
def fZ(prog:Program)(w:V1):PySem.KeyKind prog w bZ where
 is:=oK
 hash:=rZ w
 inj:=λ v a b ha hb=>by
  rcases mD ha with⟨i,t,rfl,rfl⟩|⟨x,t,rfl,rfl⟩
  ·rcases mD hb with⟨j,u,rfl,e⟩|⟨y,u,rfl,e⟩
   ·injection e with e1 _;rw[e1]
   ·exact nomatch e
  ·rcases mD hb with⟨j,u,rfl,e⟩|⟨y,u,rfl,e⟩
   ·exact nomatch e
   ·injection e with e1 _;rw[e1]
 byValue:=λ k v h=>by
  rcases mD h with⟨i,t,rfl,rfl⟩|⟨x,t,rfl,rfl⟩<;>rfl
 pyHash:=λ hv h=>by
  rcases mD hv with⟨i,t,rfl,rfl⟩|⟨x,t,rfl,rfl⟩
  ·exact wpAny_pyHash_int h
  ·exact wpAny_pyHash_str h
 eqBool:=λ hu hv h=>by
  rcases mD hu with⟨i,t,rfl,rfl⟩|⟨x,t,rfl,rfl⟩
  ·rcases mD hv with⟨j,u,rfl,rfl⟩|⟨y,u,rfl,rfl⟩
   ·rw[IF]at h;exact wpAny_eqBool_int h
   ·rw[Ks]at h;exact SeqAt.EqAt.int_str i t y u _ _ _ _ h
  ·rcases mD hv with⟨j,u,rfl,rfl⟩|⟨y,u,rfl,rfl⟩
   ·rw[Jr]at h;exact SeqAt.EqAt.str_int x t j u _ _ _ _ h
   ·rw[IH]at h;exact wpAny_eqBool_str h
 «strs»:=λ k x t v h=>by
  rcases mD h with⟨i,u,rfl,e⟩|⟨y,u,rfl,e⟩
  ·exact nomatch e
  ·injection e with e1 _
   subst e1;cases v<;>rfl
theorem Hl(prog:Program)(w:V1)(i:Int)(t:Tok):(fZ prog w).is (.inl i) (.int i t)=true:=M4 i t
theorem Hv(prog:Program)(w:V1)(x:U1)(t:Tok):(fZ prog w).is (.inr x) (.str x t)=true:=NG x t
end L2
namespace L2
open PySem PySem.Spec PyProof.Rows
inductive V where
 |non|bl(b:Bool)|int(i:Int)|str(x:U1)|byt(b:Array UInt8)|flt(b:UInt64)|ref(a:V0)|ty(n:String)
 deriving DecidableEq
def RelV:V->Y1->Prop
 | .non,u=>u=RW
 | .bl b,u=>u=Tr b
 | .int i,u=>∃t,u=Su i t
 | .str x,u=>∃t,u=Uk x t
 | .byt b,u=>∃t,u=Value.bytes b t
 | .flt b,u=>∃t,u=Value.float b t
 | .ref a,u=>u=RA a
 | .ty n,u=>u=Value.type n
abbrev aI:List V->List Y1->Prop:=R1 RelV
theorem aI.length{xs:List V}{us:List Y1}(r:aI xs us):xs.length=us.length:=Paired.length r
theorem aI.get:∀{xs:List V}{us:List Y1}{i:Nat}{x:V},aI xs us->xs[i]?=some x->∃u,us[i]?=some u/\RelV x u
 |_,_,_,_,.nil,e=>by simp at e
 |_,_,0,_,.cons r _,e=>by simp at e;subst e;exact⟨_,rfl,r⟩
 |_,_,i+1,x,.cons _ t,e=>by
  obtain⟨u,h1,h2⟩:=aI.get (i:=i) (x:=x) t (by simpa using e);exact⟨u,by simpa using h1,h2⟩
theorem aI.set{x:V}{u:Y1}(r:RelV x u):∀{xs:List V}{us:List Y1}(i:Nat),aI xs us->aI (xs.set i x) (us.set i u)
 |_,_,_,.nil=>.nil
 |_,_,0,.cons _ t=>.cons r t
 |_,_,i+1,.cons q t=>.cons q (aI.set r i t)
theorem aI.append:∀{xs ys:List V}{us ws:List Y1},aI xs us->aI ys ws->aI (xs++ys) (us++ws)
 |_,_,_,_,.nil,s=>s
 |_,_,_,_,.cons r t,s=>.cons r (aI.append t s)
theorem aI.take:∀{xs:List V}{us:List Y1}(n:Nat),aI xs us->aI (xs.take n) (us.take n)
 |_,_,0,_=>.nil
 |_,_,_+1,.nil=>.nil
 |_,_,n+1,.cons r t=>.cons r (aI.take n t)
theorem aI.drop:∀{xs:List V}{us:List Y1}(n:Nat),aI xs us->aI (xs.drop n) (us.drop n)
 |_,_,0,r=>r
 |_,_,_+1,.nil=>.nil
 |_,_,n+1,.cons _ t=>aI.drop n t
def dC:Option V->Option Y1->Prop
 |some v,some u=>RelV v u
 |none,none=>True
 |_,_=>False
def KV{κ:Type}:List (κ×V)->List (κ×Y1)->Prop:=R1 λ(p:κ×V) (q:κ×Y1)=>p.1=q.1/\RelV p.2 q.2
def kV:bZ->V
 | .inl i=>.int i
 | .inr x=>.str x
inductive HO where
 |lst(xs:List V)
 |tup(xs:List V)
 |dK(kvs:List (bZ×V))|dT(kvs:List (List bZ×V))
 |set(S:Int->Bool)(n:Nat)
 |ins(C dx:V0)(fs:List (U1×V))
 |own(x:V0)
 |xd(fs:List (U1×V))
 |met(f x:V0)
 |rng(lo hi:Int)
 |frz(o:Obj)(u:HO)
 |tbl(ps:Array Y1)
 |ext(φ:M1->Prop)
abbrev Hp:=V0->Option HO
def ar(H:Hp)(a:V0)(o:HO):Hp:=λ b=>if b=a then some o else H b
variable{o:HO}{H:Hp}
theorem bu{a:V0}:ar H a o a=some o:=by unfold ar;rw[UL rfl]
theorem aU{a b:V0}(h:b≠a):ar H a o b=H b:=by unfold ar;rw[UK h]
theorem yW{a:V0}{u:HO}:ar (ar H a o) a u=ar H a u:=by
 funext b;unfold ar;split<;>rfl
theorem t_{a b:V0}{u:HO}(h:H a=some o)(h':H b=some u)(d:o≠u):a≠b:=by
 intro e;subst e;rw[h]at h';exact d (jv h')
theorem bY{a b:V0}(h:H a=some o)(h':H b=none):a≠b:=by
 intro e;subst e;rw[h]at h';cases h'
theorem xM{h:M1}{xs:Array Y1}{n:Nat}:∀o,(h.push {cls:=.type "tuple",data:=.seq xs n}).get? h.objs.size=some o->o.dict=none:=λ o q=>by
 rw[RC _ rfl]at q;cases q;rfl
section
variable(P:Program)(w:V1)
def bh(H:Hp)(h:M1)(a:V0):HO->Prop
 | .lst xs=>xs.length<=Ru/\∃(its:List Y1)(n:Nat),aI xs its/\h.get? a=some {cls:=.type "list",data:=.seq its.toArray n}
 | .tup xs=>(xs.length<=Ru/\∀o,h.get? a=some o->o.dict=none)/\∃its:List Y1,aI xs its/\IsTup h a its.toArray
 | .dK i=>i.length<=Ru/\(a==SC)=false/\∃vs,KV i vs/\h.DictOf (fZ P w) a vs
 | .dT i=>i.length<=Ru/\(a==SC)=false/\∃xs:List (List bZ×V0×Y1),
   R1 (λ(p:List bZ×V) (q:List bZ×V0×Y1)=>p.1=q.1/\H q.2.1=some (.tup (p.1.map kV))/\RelV p.2 q.2.2) i xs/\
   ∃o es y,h.get? a=some o/\o.ExactDict/\o.data=.dict es y/\es.toList=xs.map (entryOfKey (UE (fZ P w)))/\(xs.map (·.1)).Nodup
 | .set S n=>h.SetOf (intKind P w) a S n
 | .ins C dx fs=>H dx=some (.own a)/\fs.length<=1000/\dx≠a/\h.get? a=some (TK C dx)/\
   ∃mA,h.Ns1 dx mA/\(∀f,dC (fs.lookup f) (mA f))/\PySem.Within mA (fs.map (·.1))
 | .own _=>∃o,h.get? a=some o
 | .xd fs=>∃mA,h.Ns1 a mA/\∀f,dC (fs.lookup f) (mA f)
 | .rng lo hi=>∃t u v,h.get? a=some {cls:=.type "range",data:=.fields #[.int lo t,.int hi u,.int 1 v]}
 | .frz o u=>h.get? a=some o/\bh H h a u
 | .tbl ps=>h.get? a=some {cls:=.none,data:=.fields ps}
 | .met f x=>h.get? a=some (W.methodObj (.ref f) (.ref x))
 | .ext j=>j h/\(∃o,h.get? a=some o)/\∀h1 h2:M1,j h1->(∀o,h1.get? a=some o->h2.get? a=some o)->j h2
def dI(H:Hp)(h:M1):Prop:=∀a o,H a=some o->bh P w H h a o
end
section
variable{P:Program}{w:V1}{H H':Hp}{h h':M1}{a:V0}{o:HO}
theorem bh.lt(x:bh P w H h a o):a<h.objs.size:=by
 cases o with
 |lst xs=>obtain⟨ω,ω,ω,ω,e⟩:=x;exact Rq e
 |tup xs=>obtain⟨ω,ω,ω,p⟩:=x;exact p.lt
 |dK i=>obtain⟨ω,ω,ω,ω,o,ω,ω,e,ω⟩:=x;exact Rq e
 |dT i=>obtain⟨ω,ω,ω,ω,o,ω,ω,e,ω⟩:=x;exact Rq e
 |set S n=>obtain⟨o,ω,ω,ω,e,ω⟩:=x;exact Rq e
 |ins C dx fs=>obtain⟨ω,ω,ω,e,ω⟩:=x;exact Rq e
 |own y=>obtain⟨ω,e⟩:=x;exact Rq e
 |xd fs=>obtain⟨ω,⟨ω,ω,ω,e,ω⟩,ω⟩:=x;exact Rq e
 |rng lo hi=>obtain⟨ω,ω,ω,e⟩:=x;exact Rq e
 |frz j u=>obtain⟨e,ω⟩:=x;exact Rq e
 |tbl ps=>exact Rq (show h.get? a=some _ from x)
 |met f y=>exact Rq (show h.get? a=some _ from x)
 |ext z=>obtain⟨ω,⟨ω,e⟩,ω⟩:=x;exact Rq e
theorem Paired.mapP{α n:Type}{F G:α->n->Prop}:∀{i:List α}{j:List n},R1 F i j->(∀a b,F a b->G a b)->R1 G i j:=λ h f=>by
 induction h with
 |nil=>exact .nil
 |cons r _ ih=>exact .cons (f _ _ r) ih
theorem bh.stay(x:bh P w H h a o)(k:∀b u,(b=a\/H b=some (.own a))->h.get? b=some u->h'.get? b=some u)(G:∀b,H b=some (.own a)->H' b=some (.own a))(I:∀b xs,H b=some (.tup xs)->H' b=some (.tup xs)):bh P w H' h' a o:=by
 induction o with
 |lst xs=>obtain⟨z,its,n,r,e⟩:=x;exact⟨z,its,n,r,k _ _ (.inl rfl) e⟩
 |tup xs=>obtain⟨z,its,r,i,e,c⟩:=x;exact⟨⟨z.1,λ o q=>by rw[k _ _ (.inl rfl) e]at q;cases q;exact z.2 _ e⟩,its,r,i,k _ _ (.inl rfl) e,c⟩
 |dK B=>obtain⟨z,y,vs,r,i,es,j,e,c⟩:=x;exact⟨z,y,vs,r,i,es,j,k _ _ (.inl rfl) e,c⟩
 |dT B=>
  obtain⟨z,y,xs,r,i,es,j,e,c⟩:=x;exact⟨z,y,xs,Paired.mapP r λ p q z=>⟨z.1,I _ _ z.2.1,z.2.2⟩,i,es,j,k _ _ (.inl rfl) e,c⟩
 |set S n=>obtain⟨i,es,j,t,e,c⟩:=x;exact⟨i,es,j,t,k _ _ (.inl rfl) e,c⟩
 |ins C dx fs=>
  obtain⟨d,z,J,e,mA,⟨D,es,j,L,c⟩,r⟩:=x;exact⟨G _ d,z,J,k _ _ (.inl rfl) e,mA,⟨D,es,j,k _ _ (.inr d) L,c⟩,r⟩
 |own y=>obtain⟨i,e⟩:=x;exact⟨i,k _ _ (.inl rfl) e⟩
 |xd fs=>obtain⟨mA,⟨D,es,j,e,c⟩,r⟩:=x;exact⟨mA,⟨D,es,j,k _ _ (.inl rfl) e,c⟩,r⟩
 |rng lo hi=>obtain⟨t,u,v,e⟩:=x;exact⟨t,u,v,k _ _ (.inl rfl) e⟩
 |frz i u M=>obtain⟨e,q⟩:=x;exact⟨k _ _ (.inl rfl) e,M q⟩
 |tbl ps=>
  have e:h.get? a=some {cls:=.none,data:=.fields ps}:=x;show h'.get? a=some {cls:=.none,data:=.fields ps};exact k a _ (.inl rfl) e
 |met f y=>
  have e:h.get? a=some (W.methodObj (.ref f) (.ref y)):=x;show h'.get? a=some (W.methodObj (.ref f) (.ref y));exact k a _ (.inl rfl) e
 |ext N=>obtain⟨p,⟨o,e⟩,st⟩:=x;exact⟨st _ _ p λ o q=>k _ _ (.inl rfl) q,⟨o,k _ _ (.inl rfl) e⟩,st⟩
theorem dI.lt(x:dI P w H h)(e:H a=some o):a<h.objs.size:=(x a o e).lt
theorem dI.fresh(x:dI P w H h)(e:h.objs.size<=a):H a=none:=by
 cases q:H a with
 |none=>rfl
 |some u=>exact UM (dv (x.lt q) e) (fH _)
theorem dI.kept(x:dI P w H h)(k:∀b u,h.get? b=some u->h'.get? b=some u):dI P w H h':=λ a o e=>
 (x a o e).stay (λ b u ω q=>k b u q) (λ ω q=>q) λ ω ω q=>q
theorem dI.laid(x:dI P w H h)(k:∀b u,h.get? b=some u->h'.get? b=some u)(n:h.objs.size<=a)(new:bh P w (ar H a o) h' a o):dI P w (ar H a o) h':=λ b u e=>by
 have i:=x.fresh n;by_cases j:b=a
 ·subst j;rw[bu]at e;cases e;exact new
 ·rw[aU j]at e;exact(x b u e).stay (λ c v ω q=>k c v q) (λ c q=>by rw[aU (bY q i)];exact q) λ c xs q=>by rw[aU (bY q i)];exact q
end
def Rd(H:Hp)(a:V0)(u:HO):Prop:=H a=some u\/∃o,H a=some (.frz o u)
theorem Rd.ok{P:Program}{w:V1}{h:M1}{a:V0}{u:HO}(r:Rd H a u)(x:dI P w H h):bh P w H h a u:=by
 rcases r with r|⟨o,r⟩
 ·exact x a u r
 ·obtain⟨ω,q⟩:=x a _ r;exact q
def t6:Option HO->Prop
 |some (.lst _)=>True
 |some (.dK _)=>True
 |some (.dT _)=>True
 |some (.set _ _)=>True
 |some (.ins _ _ _)=>True
 |some (.ext _)=>True
 |_=>False
section
variable{P:Program}{w:V1}{H:Hp}{h h':M1}{x e:V0}{o':HO}
theorem dI.write(ok:dI P w H h)(B:t6 (H x))(J:e=x\/H e=some (.own x))(k:∀b u,b≠e->h.get? b=some u->h'.get? b=some u)(I:∃u,h'.get? e=some u)(new:bh P w (ar H x o') h' x o'):dI P w (ar H x o') h':=λ b u q=>by
 have j:∀c y,H c=some (.own y)->c≠x:=λ c y r z=>by subst z;rw[r]at B;exact B
 have n:∀c xs,H c=some (.tup xs)->c≠x:=λ c xs r z=>by subst z;rw[r]at B;exact B
 by_cases D:b=x
 ·subst D;rw[bu]at q;cases q;exact new
 ·rw[aU D]at q;by_cases i:b=e
  ·have L:H b=some (.own x):=by
    rcases J with z|z
    ·exact UM (i.trans z) D
    ·rw[i];exact z
   rw[q]at L;cases L;obtain⟨v,M⟩:=I;exact⟨v,by rw[i];exact M⟩
  ·refine(ok b u q).stay (λ c v G r=>k c v ?_ r) (λ c r=>by rw[aU (j c b r)];exact r) λ c xs r=>by rw[aU (n c xs r)];exact r
   rcases G with rfl|G
   ·exact i
   ·rintro rfl;rcases J with z|z
    ·exact j c b G z
    ·rw[G]at z;cases z;exact D rfl
end
structure Un(fs ex:List V0)(H H':Hp)(h h':M1):Prop where
 keep:∀b o,h.get? b=some o->H b=none->b∉fs->b∉ex->h'.get? b=some o
 slot:∀b o,h.get? b=some o->H b=none->b∈fs->b∉ex->∃sl,h'.get? b=some {o with slots:=sl}
 free:∀b o,h.get? b=some o->H b=none->b∉ex->H' b=none
 there:∀b o,h.get? b=some o->b∉ex->∃o',h'.get? b=some o'
 tups:∀b xs,H b=some (.tup xs)->H' b=some (.tup xs)
 frzs:∀b o u,H b=some (.frz o u)->H' b=some (.frz o u)
 tbls:∀b ps,H b=some (.tbl ps)->∃more,H' b=some (.tbl (ps++more))
section
variable{fs fs' ex ex':List V0}{H H1 H2:Hp}{h h1 h2 h':M1}{a x e:V0}{o:HO}
theorem Un.any(u:Un fs ex H H1 h h1){b:V0}{i:Obj}(q:h.get? b=some i)(n:H b=none)(j:b∉ex):∃z,h1.get? b=some {i with slots:=z}:=by
 by_cases y:b∈fs
 ·exact u.slot b i q n y j
 ·exact⟨i.slots,u.keep b i q n y j⟩
theorem Un.kept(k:∀b u,h.get? b=some u->h'.get? b=some u):Un fs ex H H h h':=
 ⟨λ b i q ω ω ω=>k b i q,λ b i q ω ω ω=>⟨i.slots,k b i q⟩,λ ω ω ω n ω=>n,λ b i q ω=>⟨i,k b i q⟩,λ ω ω q=>q,λ ω ω ω q=>q,λ ω ps q=>⟨#[],by rw[q];simp⟩⟩
theorem Un.refl:Un fs ex H H h h:=Un.kept λ ω ω q=>q
theorem Un.laid(k:∀b u,h.get? b=some u->h'.get? b=some u)(j:h.objs.size<=a)(i:H a=none):Un fs ex H (ar H a o) h h' where
 keep:=λ b u q ω ω ω=>k b u q
 slot:=λ b u q ω ω ω=>⟨u.slots,k b u q⟩
 free:=λ b u q n ω=>by rw[aU (dY (dv (Rq q) j))];exact n
 there:=λ b u q ω=>⟨u,k b u q⟩
 tups:=λ b xs q=>by rw[aU (bY q i)];exact q
 frzs:=λ b u xs q=>by rw[aU (bY q i)];exact q
 tbls:=λ b ps q=>⟨#[],by rw[aU (bY q i),q];simp⟩
theorem Un.write(j:t6 (H x))(I:e=x\/H e=some (.own x))(k:∀b u,b≠e->h.get? b=some u->h'.get? b=some u)(y:∃u,h'.get? e=some u):Un fs ex H (ar H x o) h h':=by
 have D:∀b,H b=none->b≠x:=λ b n z=>by subst z;rw[n]at j;exact j
 have G:∀b,H b=none->b≠e:=λ b n z=>by
  subst z;rcases I with r|r
  ·exact D b n r
  ·rw[n]at r;cases r
 have B:∀b u,H b=some u->¬t6 (some u)->b≠x:=λ b u q nm z=>by subst z;rw[q]at j;exact nm j
 refine⟨λ b u q n ω ω=>k b u (G b n) q,λ b u q n ω ω=>⟨u.slots,k b u (G b n) q⟩,λ b u q n ω=>by rw[aU (D b n)];exact n,λ b u q ω=>?_,
  λ b xs q=>by rw[aU (B b _ q λ z=>z)];exact q,λ b u xs q=>by rw[aU (B b _ q λ z=>z)];exact q,λ b ps q=>⟨#[],by rw[aU (B b _ q λ z=>z),q];simp⟩⟩
 by_cases i:b=e
 ·subst i;exact y
 ·exact⟨u,k b u i q⟩
end
def ue(h:M1)(H:Hp):List V0:=(jM h.objs.size).filter λ a=>(H a).isSome
def fX(h:M1)(H:Hp):M1:=W.hideAll h (ue h H)
theorem Nr(h:M1)(H:Hp):(fX h H).objs.size=h.objs.size:=W.hideAll_size _ _
theorem LI{h:M1}{b:V0}{o:Obj}(e:h.get? b=some o)(n:H b=none):(fX h H).get? b=some o:=
 W.hideAll_get _ e λ i=>by
  have q:(H b).isSome=true:=(List.mem_filter.mp i).2;rw[n]at q;simp at q
theorem J8{h:M1}{b:V0}{o:Obj}(e:(fX h H).get? b=some o):h.get? b=some o/\H b=none:=by
 have i:h.get? b=some o:=W.of_hideAll (ue h H) e;refine⟨i,?_⟩;cases q:H b with
 |none=>rfl
 |some x=>
  have j:b∈ue h H:=List.mem_filter.mpr ⟨mW.mpr (Rq i),by simp[q]⟩;have z:(fX h H).get? b=none:=W.hideAll_none (ue h H) j;rw[z]at e;cases e
def s_(g h:M1)(L:V0):List (V0×Obj):=(jM h.objs.size).filterMap λ a=>if a=L\/(g.get? a).isSome=true then none else(h.get? a).map λ o=>(a,o)
theorem Ho{g h:M1}{L a:V0}{o:Obj}(h1:a≠L)(h2:g.get? a=none)(i:h.get? a=some o):(a,o)∈s_ g h L:=
 uz.mpr ⟨a,mW.mpr (Rq i),by simp[h1,h2,i]⟩
theorem HC{g h:M1}{L:V0}{p:V0×Obj}(j:p∈s_ g h L):p.1≠L/\g.get? p.1=none/\h.get? p.1=some p.2:=by
 obtain⟨b,ω,e⟩:=uz.mp j;split at e
 ·cases e
 ·rename_i i;cases q:h.get? b with
  |none=>rw[q]at e;simp at e
  |some u=>
   rw[q]at e;simp only[uB,Option.some.injEq]at e;subst e;refine⟨λ z=>i (.inl z),?_,q⟩;show g.get? b=none;cases r:g.get? b with
   |none=>rfl
   |some v=>exact(i (.inr (by simp[r]))).elim
def rest(g h:M1)(L d:V0):List (V0×Obj):=(s_ g h L).filter λ p=>decide (p.1≠d)
theorem LM{g h:M1}{L:V0}:News g L h (s_ g h L):=λ p i=>let⟨a,b,c⟩:=HC i;⟨c,a,b⟩
end L2
namespace L2
open PySem PySem.Spec PyProof.Rows
structure Mod(K:X0)(mg:U1->Option Y1)(base:M1):Prop where
 kin:K.In base
 glob:base.Ns RE mg
 blt:∃mb,base.Ns TL mb/\∀x:U1,x≠"__name__"->mb x=RI x
 nolimit:base.NoLimit
structure Cx where
 prog:Program
 w:V1
 K:X0
 mg:U1->Option Y1
 base:M1
 A:N1
 N:List U1
 s₀:Z1
 H₀:Hp
 env:Env
 outer:List Env
 stack:List Env
 ex:List V0
 fn:U1->Bool
 calm:Bool
 pn:List (V0×Obj)
 xe:Y1->Z1->Prop
def fQ(l:List Env):List V0:=l.filterMap (·.frame)
abbrev Cx.fs(X:Cx):List V0:=fQ X.outer
def nL(sc:SR)(x:U1):Prop:=sc.names.lookup x=some .local\/sc.names.lookup x=some .cell\/sc.names.lookup x=some .free
def Loc(sc:SR)(x:U1):Prop:=sc.names.lookup x=some .local\/sc.names.lookup x=some .cell
def Look(env:Env)(h:M1)(m:U1->Option Y1)(x:U1)(u:Y1):Prop:=
 (env.kindOf x=some .local/\m x=some u)\/((env.kindOf x=some .cell\/env.kindOf x=some .free)/\∃c,env.cells.lookup x=some c/\h.IsCell c (some u))
structure Cx.Ok(X:Cx):Prop where
 mod:Mod X.K X.mg X.base
 kind:X.env.scope.kind=.function
 glob:X.env.globals=RE
 blt:X.env.builtins=TL
 above:X.s₀.heap.objs.size<=X.env.locals
 inj:∀x y c,X.env.cells.lookup x=some c->X.env.cells.lookup y=some c->x=y
 has:∀x,(X.env.kindOf x=some .cell\/X.env.kindOf x=some .free)->∃c,X.env.cells.lookup x=some c
 cab:∀x c,X.fn x=true->X.env.cells.lookup x=some c->X.s₀.heap.objs.size<=c
 hd:X.calm=true->X.A.handled=none
 frames:X.A.frames=some X.stack
 stk:X.stack=X.outer\/(X.stack=X.env::X.outer/\X.env.frame=some X.env.locals)
 exf:∀b∈X.ex,b≠X.env.locals/\∀x c,X.env.cells.lookup x=some c->c≠b
 bs:∀b o,X.base.get? b=some o->X.s₀.heap.get? b=some o/\X.H₀ b=none
 bsz:X.base.objs.size<=X.s₀.heap.objs.size
 noex:∀b o,X.base.get? b=some o->b∉X.ex
 exfs:∀b∈X.ex,b∉X.fs
 funs:X.s₀.heap.FunFrames X.base X.outer
 frf:∀b∈X.fs,X.H₀ b=none
structure Inv(X:Cx)(af:List (V0×Obj))(σ:List (Option V))(H:Hp)(s:Z1):Prop where
 ok:X.Ok
 os:s.os=X.s₀.os
 bare:T6 s.gens
 base:Un X.fs X.ex X.H₀ H X.s₀.heap s.heap
 loc:∃m,s.heap.Ns X.env.locals m/\∀(i:Nat)(x:U1)(v:V),X.N[i]?=some x->σ[i]?=some (some v)->nL X.env.scope x->∃u,RelV v u/\Look X.env s.heap m x u
 cell:∀x c,X.env.cells.lookup x=some c->∃v,s.heap.IsCell c v
 free:H X.env.locals=none
 freeC:∀x c,X.env.cells.lookup x=some c->H c=none
 pin:∀p∈X.pn++af,s.heap.get? p.1=some p.2/\H p.1=none/\p.1≠X.env.locals/\p.1∉X.fs/\∀v,p.2.data≠.cell v
 hok:dI X.prog X.w H s.heap
 len:σ.length=X.N.length
section
variable{X:Cx}{af:List (V0×Obj)}{σ:List (Option V)}{H H':Hp}{s:Z1}{h':M1}
theorem Cx.Ok.nofr(ok:X.Ok){b:V0}{o:Obj}(e:X.base.get? b=some o):b∉X.fs:=λ i=>by
 have:=(ok.funs.mem i).1;rw[e]at this;cases this
theorem Inv.bs(I:Inv X af σ H s):∀b o,X.base.get? b=some o->s.heap.get? b=some o/\H b=none:=λ b o e=>
 ⟨I.base.keep b o (I.ok.bs b o e).1 (I.ok.bs b o e).2 (I.ok.nofr e) (I.ok.noex b o e),I.base.free b o (I.ok.bs b o e).1 (I.ok.bs b o e).2 (I.ok.noex b o e)⟩
theorem Inv.bk(I:Inv X af σ H s):∀b o,X.base.get? b=some o->s.heap.get? b=some o:=λ b o e=>(I.bs b o e).1
theorem Inv.mod(I:Inv X af σ H s):Mod X.K X.mg X.base:=I.ok.mod
theorem Inv.kIn(I:Inv X af σ H s):X.K.In s.heap:=I.ok.mod.kin.keeps I.bk
theorem Inv.fr(I:Inv X af σ H s):∃m,Fr X.base X.env.locals s.heap m:=
 let⟨m,i,_⟩:=I.loc
 ⟨m,i,I.bk,bR I.ok.bsz I.ok.above⟩
theorem Inv.lt(I:Inv X af σ H s):X.env.locals<s.heap.objs.size:=let⟨_,i,_⟩:=I.loc;i.lt
theorem Inv.sz(I:Inv X af σ H s):X.s₀.heap.objs.size<=s.heap.objs.size:=bR I.ok.above (rX I.lt)
theorem Inv.nofs(I:Inv X af σ H s){a:V0}(h:s.heap.objs.size<=a):a∉X.fs:=λ i=>by
 obtain⟨ω,o,j,ω⟩:=I.ok.funs.mem i;exact UM (dv (Rq j) (bR I.sz h)) (fH _)
theorem Inv.cne(I:Inv X af σ H s):∀x c,X.env.cells.lookup x=some c->c≠X.env.locals:=λ x c e z=>by
 obtain⟨v,o,n,hd⟩:=I.cell x c e;obtain⟨m,⟨o',es,y,i,j,ω⟩,ω⟩:=I.loc;rw[z,i]at n;cases n;rw[j]at hd;cases hd
theorem Inv.funs(I:Inv X af σ H s):s.heap.FunFrames X.base X.outer:=by
 have all:∀(l:List Env),(∀b∈fQ l,b∈X.fs)->X.s₀.heap.FunFrames X.base l->s.heap.FunFrames X.base l:=by
  intro l;induction l with
  |nil=>intro _ _;trivial
  |cons B r D=>
   intro y hl;obtain⟨G,⟨L,o,i,J,M,hd⟩,hr⟩:=hl;have j:L∈X.fs:=y L (by unfold fQ;rw[pU,i];exact cy);obtain⟨N,e⟩:=I.base.slot L o M (I.ok.frf L j) j λ z=>I.ok.exfs L z j;exact⟨G,⟨L,_,i,J,e,hd⟩,D (λ b n=>y b (by unfold fQ;rw[pU,i];exact cV _ n)) hr⟩
 exact all X.outer (λ ω n=>n) I.ok.funs
theorem Inv.stack(I:Inv X af σ H s):s.heap.FunFrames X.base X.stack:=by
 rcases I.ok.stk with e|⟨e,i⟩
 ·rw[e];exact I.funs
 ·rw[e];obtain⟨m,j,ω⟩:=I.loc;refine .cons (by rw[I.ok.kind];decide) i j ?_ I.funs;exact Heap.get?_none_of_le (bR I.ok.bsz I.ok.above)
theorem Inv.stkSub(I:Inv X af σ H s):∀b∈fQ X.stack,b∈X.env.locals::X.fs:=λ b i=>by
 rcases I.ok.stk with e|⟨e,j⟩
 ·rw[e]at i;exact cV _ i
 ·rw[e]at i;unfold fQ at i;rw[pU,j]at i;exact i
theorem Inv.stkFree(I:Inv X af σ H s):∀b∈fQ X.stack,H b=none:=λ b i=>by
 rcases de.mp (I.stkSub b i)with e|i
 ·rw[e];exact I.free
 ·obtain⟨ω,o,j,ω⟩:=I.ok.funs.mem i;exact I.base.free b o j (I.ok.frf b i) λ z=>I.ok.exfs b z i
theorem Inv.step{g':Array UB}{t':Nat}{d':Drawn}{ch:List V0}(I:Inv X af σ H s)(y:∀b∈ch,(b∈X.ex\/X.s₀.heap.objs.size<=b)/\b≠X.env.locals/\(∀x c,X.env.cells.lookup x=some c->c≠b)/\∀p∈X.pn++af,p.1≠b)(B:∀b o,b≠X.env.locals->b∉X.fs->b∉ch->s.heap.get? b=some o->H b=none->h'.get? b=some o)(M:∀b o,b≠X.env.locals->b∈X.fs->b∉ch->s.heap.get? b=some o->H b=none->∃sl,h'.get? b=some {o with slots:=sl})(free:∀b o,b∉ch->s.heap.get? b=some o->H b=none->H' b=none)(there:∀b o,b∉ch->s.heap.get? b=some o->∃o',h'.get? b=some o')(R:∀b xs,H b=some (.tup xs)->H' b=some (.tup xs))(S:∀b o u,H b=some (.frz o u)->H' b=some (.frz o u))(U:∀b ps,H b=some (.tbl ps)->∃more,H' b=some (.tbl (ps++more)))(ns:∀m,s.heap.Ns X.env.locals m->h'.Ns X.env.locals m)(a0:dI X.prog X.w H' h')(hg:T6 g'):Inv X af σ H' {s with heap:=h',gens:=g',drawn:=d',toks:=t'}:=by
 have Y:∀b o,X.s₀.heap.get? b=some o->b≠X.env.locals:=λ b o e=>dY (dv (Rq e) I.ok.above);have J:∀b o,X.s₀.heap.get? b=some o->b∉X.ex->b∉ch:=λ b o e j N=>by
  rcases(y b N).1 with z|z
  ·exact j z
  ·exact UM (dv (Rq e) z) (fH _)
 have D:∀x c,X.env.cells.lookup x=some c->∀v,s.heap.IsCell c v->h'.IsCell c v:=λ x c e v ⟨o,O,hd⟩=>by
  have G:c∉ch:=λ z=>(y c z).2.2.1 x c e rfl;by_cases hc:c∈X.fs
  ·obtain⟨sl,q⟩:=M c o (I.cne x c e) hc G O (I.freeC x c e);exact⟨_,q,hd⟩
  ·exact⟨o,B c o (I.cne x c e) hc G O (I.freeC x c e),hd⟩
 refine⟨I.ok,I.os,hg,⟨λ b o e n N j=>?_,λ b o e n N j=>?_,λ b o e n j=>?_,λ b o e j=>?_,λ b xs e=>R b xs (I.base.tups b xs e),λ b o xs e=>S b o xs (I.base.frzs b o xs e),λ b ps e=>?_⟩,?_,λ x c e=>?_,?_,λ x c e=>?_,λ p hp=>?_,a0,I.len⟩
 ·exact B b o (Y b o e) N (J b o e j) (I.base.keep b o e n N j) (I.base.free b o e n j)
 ·obtain⟨sl,L⟩:=I.base.slot b o e n N j;obtain⟨b0,Z⟩:=M b _ (Y b o e) N (J b o e j) L (I.base.free b o e n j);exact⟨b0,Z⟩
 ·obtain⟨o',L⟩:=I.base.there b o e j;exact free b o' (J b o e j) L (I.base.free b o e n j)
 ·obtain⟨o',L⟩:=I.base.there b o e j;exact there b o' (J b o e j) L
 ·obtain⟨m1,L⟩:=I.base.tbls b ps e;obtain⟨m2,Z⟩:=U b _ L;exact⟨m1++m2,by rw[Z,Array.append_assoc]⟩
 ·obtain⟨m,hn,hl⟩:=I.loc;refine⟨m,ns m hn,λ i x v L Z e3=>?_⟩;obtain⟨u,r,l⟩:=hl i x v L Z e3;refine⟨u,r,?_⟩;rcases l with l|⟨k,c,e,z⟩
  ·exact .inl l
  ·exact .inr ⟨k,c,e,D x c e _ z⟩
 ·obtain⟨v,z⟩:=I.cell x c e;exact⟨v,D x c e v z⟩
 ·obtain⟨m,⟨o,ω,ω,O,ω⟩,ω⟩:=I.loc;exact free _ o (λ z=>(y _ z).2.1 rfl) O I.free
 ·obtain⟨v,o,O,hd⟩:=I.cell x c e;exact free c o (λ z=>(y c z).2.2.1 x c e rfl) O (I.freeC x c e)
 ·obtain⟨e,n,ne,nf,d⟩:=I.pin p hp;have G:p.1∉ch:=λ z=>(y p.1 z).2.2.2 p hp rfl;exact⟨B p.1 p.2 ne nf G e n,free p.1 p.2 G e n,ne,nf,d⟩
theorem Inv.un{t':Nat}(I:Inv X af σ H s)(u:Un X.fs [] H H' s.heap h')(j:dI X.prog X.w H' h'):Inv X af σ H' {s with heap:=h',toks:=t'}:=by
 obtain⟨m,⟨o,es,N,G,r⟩,ω⟩:=id I.loc;obtain⟨O,J⟩:=u.any G I.free (by simp);exact I.step (g':=s.gens) (d':=s.drawn) (ch:=[]) (λ ω z=>nomatch z) (λ b o ω y ω e n=>u.keep b o e n y (by simp)) (λ b o ω y ω e n=>u.slot b o e n y (by simp)) (λ b o ω e n=>u.free b o e n (by simp)) (λ b o ω e=>u.there b o e (by simp)) u.tups u.frzs u.tbls (λ R L=>by
  obtain⟨o',B,D,i,M⟩:=L;rw[G]at i;cases i;exact⟨_,B,D,J,M⟩) j I.bare
theorem Inv.call{g':Array UB}{t':Nat}{d':Drawn}{ch:List V0}(I:Inv X af σ H s)(u:Un (fQ X.stack) ch H H' s.heap h')(B:dI X.prog X.w H' h')(M:T6 g')(j:∀b∈ch,(b∈X.ex\/X.s₀.heap.objs.size<=b)/\b≠X.env.locals/\(∀x c,X.env.cells.lookup x=some c->c≠b)/\∀p∈X.pn++af,p.1≠b):Inv X af σ H' {s with heap:=h',gens:=g',drawn:=d',toks:=t'}:=by
 obtain⟨m,⟨o,es,S,L,r⟩,ω⟩:=id I.loc;obtain⟨U,D⟩:=u.any L I.free λ z=>(j _ z).2.1 rfl;exact I.step (ch:=ch) j (λ b o D N i e n=>u.keep b o e n (λ z=>(de.mp (I.stkSub b z)).elim D N) i) (λ b o ω ω i e n=>u.any e n i) (λ b o i e n=>u.free b o e n i) (λ b o i e=>u.there b o e i) u.tups u.frzs u.tbls (λ Y O=>by
  obtain⟨o',G,J,y,R⟩:=O;rw[L]at y;cases y;exact⟨_,G,J,D,R⟩) B M
theorem Inv.turned{t':Nat}{it:V0}(I:Inv X af σ H s)(k:∀b o,b≠it->s.heap.get? b=some o->h'.get? b=some o)(B:H it=none)(y:it≠X.env.locals)(h1:it∈X.ex\/X.s₀.heap.objs.size<=it)(h2:∀x c,X.env.cells.lookup x=some c->c≠it)(D:∀p∈X.pn++af,p.1≠it):Inv X af σ H {s with heap:=h',toks:=t'}:=by
 have j:∀b u,H b=some u->b≠it:=λ b u e z=>by rw[z,B]at e;cases e
 refine I.step (g':=s.gens) (d':=s.drawn) (ch:=[it]) (λ b G=>?_) (λ b o ω ω i e ω=>k b o (λ z=>i (by simp [z])) e) (λ b o ω ω i e ω=>⟨o.slots,k b o (λ z=>i (by simp [z])) e⟩) (λ ω ω ω ω n=>n)
  (λ b o i e=>⟨o,k b o (λ z=>i (by simp[z])) e⟩) (λ ω ω e=>e) (λ ω ω ω e=>e) (λ b ps e=>⟨#[],by rw[e];simp⟩) (λ m J=>?_) (λ b u e=>?_) I.bare
 ·have e:b=it:=by simpa using G
  subst e;exact⟨h1,y,h2,D⟩
 ·obtain⟨o,es,L,M,r⟩:=J;exact⟨o,es,L,k _ o (Ne.symm y) M,r⟩
 ·refine(I.hok b u e).stay (λ c v i q=>k c v ?_ q) (λ ω q=>q) λ ω ω q=>q;rcases i with z|z
  ·rw[z];exact j b u e
  ·exact j c _ z
theorem Inv.tok(I:Inv X af σ H s)(t:Nat):Inv X af σ H {s with toks:=t}:=I.un (h':=s.heap) (t':=t) Un.refl I.hok
theorem Inv.kept{t':Nat}(I:Inv X af σ H s)(k:∀b u,s.heap.get? b=some u->h'.get? b=some u):Inv X af σ H {s with heap:=h',toks:=t'}:=I.un (Un.kept k) (I.hok.kept k)
theorem Inv.laid{a:V0}{o:HO}{t':Nat}(I:Inv X af σ H s)(k:∀b u,s.heap.get? b=some u->h'.get? b=some u)(i:s.heap.objs.size<=a)(new:bh X.prog X.w (ar H a o) h' a o):Inv X af σ (ar H a o) {s with heap:=h',toks:=t'}:=I.un (Un.laid k i (I.hok.fresh i)) (I.hok.laid k i new)
theorem Inv.write{x e:V0}{o:HO}{t':Nat}(I:Inv X af σ H s)(j:t6 (H x))(n:e=x\/H e=some (.own x))(k:∀b u,b≠e->s.heap.get? b=some u->h'.get? b=some u)(i:∃u,h'.get? e=some u)(new:bh X.prog X.w (ar H x o) h' x o):Inv X af σ (ar H x o) {s with heap:=h',toks:=t'}:=I.un (Un.write j n k i) (I.hok.write j n k i new)
theorem Inv.pins_of{i:List (V0×Obj)}(I:Inv X af σ H s)(h:∀p∈i,s.heap.get? p.1=some p.2/\H p.1=none/\p.1≠X.env.locals/\p.1∉X.fs/\∀v,p.2.data≠.cell v):Inv X i σ H s:=
 ⟨I.ok,I.os,I.bare,I.base,I.loc,I.cell,I.free,I.freeC,λ p j=>(hU.mp j).elim (λ z=>I.pin p (lM _ z)) (h p),I.hok,I.len⟩
theorem zm{N:List U1}(n:N.Nodup){i j:Nat}{x:U1}(a:N[i]?=some x)(b:N[j]?=some x):i=j:=by
 obtain⟨h1,y⟩:=gm.mp a;obtain⟨h2,z⟩:=gm.mp b;exact(List.getElem_inj n).mp (y.trans z.symm)
theorem CB{M:Model}{A:N1}{E:Y1->Z1->Prop}{i:Nat}{x:U1}{v:V}{u:Y1}{Q:Unit->Z1->Prop}(I:Inv X af σ H s)(hN:X.N.Nodup)(hi:X.N[i]?=some x)(L:Loc X.env.scope x)(r:RelV v u)(h:∀s',Inv X af (σ.set i (some v)) H s'->(∃a,Us a s.heap s'.heap/\(a=X.env.locals\/X.env.cells.lookup x=some a))->Q () s')(hf:X.fn x=true\/X.env.scope.names.lookup x=some .local:=by first|exact .inl rfl|exact .inr rfl|assumption):Rz M A (storeName X.env x u) Q E s:=by
 obtain⟨m,hn,hl⟩:=id I.loc;have a0:(X.env.scope.kind==.class||(X.env.scope.kind==.module&&X.env.locals !=X.env.globals))=false:=by rw[I.ok.kind];rfl
 have R:i<σ.length:=by rw[I.len];exact(gm.mp hi).1
 have cne:=I.cne;have D:∀{a:V0}{h':M1},(∃o,s.heap.get? a=some o/\H a=none)->Us a s.heap h'->dI X.prog X.w H h':=λ{a h'} ha B b ob e=>by
  obtain⟨ω,ω,N⟩:=ha;refine(I.hok b ob e).stay (λ c w' J q=>(B.2 c ?_).trans q) (λ ω q=>q) λ ω ω q=>q;rintro rfl;rcases J with rfl|J
  ·rw[N]at e;cases e
  ·rw[N]at J;cases J
 rcases L with S|S
 ·refine wpAny_storeName_local S hn (λ h' f0 B=>?_) a0;obtain⟨oL,ω,ω,g0,ω⟩:=id hn;refine h _ ⟨I.ok,I.os,I.bare,⟨λ b o e n U L=>?_,λ b o e n U L=>?_,I.base.free,λ b o e L=>?_,I.base.tups,I.base.frzs,I.base.tbls⟩,⟨_,f0,λ j y v' G O e3=>?_⟩,λ y c e=>?_,I.free,I.freeC,λ p hp=>?_,D ⟨oL,g0,I.free⟩ B,by simpa using I.len⟩ ⟨_,B,.inl rfl⟩
  ·exact(B.2 b (dY (dv (Rq e) I.ok.above))).trans (I.base.keep b o e n U L)
  ·obtain⟨sl,G⟩:=I.base.slot b o e n U L;exact⟨sl,(B.2 b (dY (dv (Rq e) I.ok.above))).trans G⟩
  ·obtain⟨o',G⟩:=I.base.there b o e L;exact⟨o',(B.2 b (dY (dv (Rq e) I.ok.above))).trans G⟩
  ·by_cases Y:j=i
   ·subst Y;rw[hi]at G;cases G;rw[yy R]at O;cases O;exact⟨u,r,.inl ⟨S,by simp⟩⟩
   ·rw[yx (Ne.symm Y)]at O;obtain⟨u',r',q⟩:=hl j y v' G O e3;refine⟨u',r',?_⟩;rcases q with⟨k,e⟩|⟨k,c,e,z⟩
    ·refine .inl ⟨k,?_⟩;have:y≠x:=λ e=>Y (zm hN G (e▸hi));simp[this,e]
    ·exact .inr ⟨k,c,e,z.sameBut B (cne y c e)⟩
  ·obtain⟨w',z⟩:=I.cell y c e;exact⟨w',z.sameBut B (cne y c e)⟩
  ·obtain⟨e,n,ne,nf,d⟩:=I.pin p hp;exact⟨(B.2 p.1 ne).trans e,n,ne,nf,d⟩
 ·have Z:X.fn x=true:=by
   rcases hf with z|z
   ·exact z
   ·rw[z]at S;cases S
  obtain⟨c,J⟩:=I.ok.has x (.inl S);obtain⟨w',z⟩:=I.cell x c J;refine wpAny_storeName_cell I.ok.kind S J z (λ h' b0 B=>?_);obtain⟨oc,c0,d0⟩:=id z;refine h {s with heap:=h'} ⟨I.ok,I.os,I.bare,⟨λ b o e n U L=>?_,λ b o e n U L=>?_,I.base.free,λ b o e L=>?_,I.base.tups,I.base.frzs,I.base.tbls⟩,⟨m,hn.sameBut B (Ne.symm (cne x c J)),λ j y v' G O e3=>?_⟩,λ y c' e=>?_,I.free,I.freeC,λ p hp=>?_,D ⟨oc,c0,I.freeC x c J⟩ B,by simpa using I.len⟩ ⟨c,B,.inr J⟩
  ·exact(B.2 b (dY (dv (Rq e) (I.ok.cab x c Z J)))).trans (I.base.keep b o e n U L)
  ·obtain⟨sl,G⟩:=I.base.slot b o e n U L;exact⟨sl,(B.2 b (dY (dv (Rq e) (I.ok.cab x c Z J)))).trans G⟩
  ·obtain⟨o',G⟩:=I.base.there b o e L;exact⟨o',(B.2 b (dY (dv (Rq e) (I.ok.cab x c Z J)))).trans G⟩
  ·by_cases Y:j=i
   ·subst Y;rw[hi]at G;cases G;rw[yy R]at O;cases O;exact⟨u,r,.inr ⟨.inl S,c,J,b0⟩⟩
   ·rw[yx (Ne.symm Y)]at O;obtain⟨u',r',q⟩:=hl j y v' G O e3;refine⟨u',r',?_⟩;rcases q with q|⟨k,c',e,z'⟩
    ·exact .inl q
    ·refine .inr ⟨k,c',e,z'.sameBut B ?_⟩;rintro rfl;exact Y (zm hN G (I.ok.inj _ _ _ e J▸hi))
  ·by_cases e0:c'=c
   ·subst e0;exact⟨_,b0⟩
   ·obtain⟨w2,z2⟩:=I.cell y c' e;exact⟨w2,z2.sameBut B e0⟩
  ·obtain⟨e,n,ne,nf,d⟩:=I.pin p hp;refine⟨(B.2 p.1 ?_).trans e,n,ne,nf,d⟩;intro q;rw[q,c0]at e;have q':oc=p.2:=jv e;exact d w' (by rw[<-q'];exact d0)
theorem u_{M:Model}{A:N1}{E:Y1->Z1->Prop}{i:Nat}{x:U1}{v:V}{u:Y1}{Q:Unit->Z1->Prop}(I:Inv X af σ H s)(j:X.N.Nodup)(hi:X.N[i]?=some x)(n:Loc X.env.scope x)(r:RelV v u)(h:∀s',Inv X af (σ.set i (some v)) H s'->Q () s')(y:X.fn x=true\/X.env.scope.names.lookup x=some .local:=by first|exact .inl rfl|exact .inr rfl|assumption):Rz M A (storeName X.env x u) Q E s:=
 CB I j hi n r (λ s' z ω=>h s' z) y
theorem Inv.call'{s':Z1}{ch:List V0}(I:Inv X af σ H s)(n:s'.os=s.os)(u:Un (fQ X.stack) ch H H' s.heap s'.heap)(i:dI X.prog X.w H' s'.heap)(y:T6 s'.gens)(j:∀b∈ch,(b∈X.ex\/X.s₀.heap.objs.size<=b)/\b≠X.env.locals/\(∀x c,X.env.cells.lookup x=some c->c≠b)/\∀p∈X.pn++af,p.1≠b):Inv X af σ H' s':=by
 obtain⟨h',g',d',t',o'⟩:=s';have e:o'=s.os:=n;subst e;exact I.call (g':=g') (t':=t') (d':=d') u i y j
end
abbrev XK:=Y1->Option V0->Hp->Prop
abbrev St:=List (Option V)
abbrev VK:=V->Hp->Prop
abbrev TE:=St->Hp->VK->Prop
abbrev TT:=St->Hp->(Bool->Hp->Prop)->Prop
abbrev TA:=St->Hp->(List V->Hp->Prop)->Prop
structure bU where
 nx:St->Hp->Prop
 rt:VK
 bk:St->Hp->Prop:=λ ω ω=>False
 ct:St->Hp->Prop:=λ ω ω=>False
abbrev TS:=bU->St->Hp->Prop
def EP(X:Cx)(af:List (V0×Obj))(σ:St)(Q:VK)(u:Y1)(s':Z1):Prop:=∃v H',Inv X af σ H' s'/\RelV v u/\Q v H'
def TP(X:Cx)(af:List (V0×Obj))(σ:St)(Q:Bool->Hp->Prop)(b:Bool)(s':Z1):Prop:=∃H',Inv X af σ H' s'/\Q b H'
def AP(X:Cx)(af:List (V0×Obj))(σ:St)(Q:List V->Hp->Prop)(us:List Y1)(s':Z1):Prop:=∃vs H',Inv X af σ H' s'/\aI vs us/\Q vs H'
def SP(X:Cx)(af:List (V0×Obj))(D:bU)(f:Flow)(s':Z1):Prop:=
 match f with
 | .next=>∃i H',Inv X af i H' s'/\D.nx i H'
 | .brk=>∃i H',Inv X af i H' s'/\D.bk i H'
 | .cont=>∃i H',Inv X af i H' s'/\D.ct i H'
 | .ret u=>∃v i H',Inv X af i H' s'/\RelV v u/\D.rt v H'
def PE(X:Cx)(e:Expr)(t:TE):Prop:=
 ∀(af:List (V0×Obj))(s:Z1)(σ:St)(H:Hp)(Q:VK),Inv X af σ H s->t σ H Q->Rz (RD X.prog X.w) X.A (RJ e X.env) (EP X af σ Q) X.xe s
def PT(X:Cx)(e:Expr)(t:TT):Prop:=
 ∀(af:List (V0×Obj))(s:Z1)(σ:St)(H:Hp)(Q:Bool->Hp->Prop),Inv X af σ H s->t σ H Q->Rz (RD X.prog X.w) X.A (isTrue e X.env (RJ e X.env)) (TP X af σ Q) X.xe s
def PW(X:Cx)(e:Expr)(t:TT):Prop:=
 ∀(whole:Sem Y1)(af:List (V0×Obj))(s:Z1)(σ:St)(H:Hp)(Q:Bool->Hp->Prop),Inv X af σ H s->t σ H Q->Rz (RD X.prog X.w) X.A (isTrue e X.env whole) (TP X af σ Q) X.xe s
theorem PW.pt{X:Cx}{e:Expr}{t:TT}(h:PW X e t):PT X e t:=h _
def PA(X:Cx)(es:List Expr)(t:TA):Prop:=
 ∀(pos:Pos)(af:List (V0×Obj))(s:Z1)(σ:St)(H:Hp)(Q:List V->Hp->Prop),Inv X af σ H s->t σ H Q->Rz (RD X.prog X.w) X.A (spliced (RK pos (Rt es X.env))) (AP X af σ Q) X.xe s
def PS(X:Cx)(st:RH)(t:TS):Prop:=
 ∀(af:List (V0×Obj))(s:Z1)(σ:St)(H:Hp)(D:bU),Inv X af σ H s->t D σ H->Rz (RD X.prog X.w) X.A (exec st X.env) (SP X af D) X.xe s
def fy(X:Cx)(st:List RH)(t:TS):Prop:=
 ∀(af:List (V0×Obj))(s:Z1)(σ:St)(H:Hp)(D:bU),Inv X af σ H s->t D σ H->Rz (RD X.prog X.w) X.A (execs st X.env) (SP X af D) X.xe s
theorem aW{α:Type}{t:Sem α}{Q Q':α->Z1->Prop}{M:Model}{A:N1}{E:Y1->Z1->Prop}{s:Z1}(h:Rz M A t Q E s)(i:∀a s,Q a s->Q' a s):Rz M A t Q' E s:=R7 h i λ ω ω x=>x
end L2
namespace L2
open PySem PySem.Spec PyProof.Rows
section
variable{X:Cx}
theorem Ou{a b:Expr}{ta tb:TE}(n:PE X a ta)(z:PE X b tb){af:List (V0×Obj)}{s:Z1}{σ:St}{H:Hp}{R:V->V->Hp->Prop}(I:Inv X af σ H s)(h:ta σ H λ x H1=>tb σ H1 λ y H2=>R x y H2){α:Type}{Q:α->Z1->Prop}{f:Y1->Y1->Sem α}(B:∀v u s2 x y H2,Inv X af σ H2 s2->RelV x v->RelV y u->R x y H2->Rz (RD X.prog X.w) X.A (f v u) Q X.xe s2):Rz (RD X.prog X.w) X.A (RJ a X.env) (λ v i=>Rz (RD X.prog X.w) X.A (RJ b X.env) (λ u j=>Rz (RD X.prog X.w) X.A (f v u) Q X.xe j) X.xe i) X.xe s:=by
 refine aW (n af s σ H _ I h) λ v D hz_=>?_;obtain⟨x,H1,G,r1,J⟩:=hz_;refine aW (z af D σ H1 _ G J) λ u s2 hz_=>?_;obtain⟨y,H2,L,M,N⟩:=hz_;exact B v u s2 x y H2 L r1 M N
def jX(i:Nat):TE:=λ σ H Q=>∃v,σ[i]?=some (some v)/\Q v H
def tC(v:V):TE:=λ ω H Q=>Q v H
theorem E6{i:Nat}{x:U1}{pos:Pos}(B:X.N[i]?=some x)(D:nL X.env.scope x)(hd:(x==("__debug__":U1))=false:=by decide)(y:(x==("__classdict__":U1))=false:=by decide):PE X (.Name x pos) (jX i):=by
 intro af s σ H Q I h;obtain⟨v,e,h⟩:=h;obtain⟨m,G,hl⟩:=I.loc;obtain⟨u,r,l⟩:=hl i x v B e D;have fin:EP X af σ Q u s:=⟨v,H,I,r,h⟩;rcases l with⟨n,J⟩|⟨n,c,z,j⟩
 ·exact wpAny_Name (wpAny_loadName_local I.ok.kind n G J fin) hd
 ·rcases n with n|n
  ·exact wpAny_Name (wpAny_loadName_cell I.ok.kind n z j fin) hd
  ·exact wpAny_Name (wpAny_loadName_free I.ok.kind n z j fin y) hd
theorem aw{i j pos}:PE X (.Constant (.int i) j pos) (tC (.int i)):=λ ω ω ω H ω I h=>wpAny_Constant_int ⟨.int i,H,I.tok _,⟨_,rfl⟩,h⟩
theorem qz{b j pos}:PE X (.Constant (.bool b) j pos) (tC (.bl b)):=λ ω ω ω H ω I h=>Constant_bool ⟨.bl b,H,I,rfl,h⟩
theorem p_{j pos}:PE X (.Constant .none j pos) (tC .non):=λ ω ω ω H ω I h=>Constant_none ⟨.non,H,I,rfl,h⟩
theorem aK{x j pos}:PE X (.Constant (.str x) j pos) (tC (.str x)):=λ ω ω ω H ω I h=>Calls.Constant_str ⟨.str x,H,I.tok _,⟨_,rfl⟩,h⟩
def Gl(X:Cx)(x:U1):Prop:=X.env.kindOf x=some .globalImplicit
theorem kX{E:Y1->Z1->Prop}{af:List (V0×Obj)}{s:Z1}{σ:St}{H:Hp}{x:U1}{u:Y1}{pos:Pos}{Q:Y1->Z1->Prop}(I:Inv X af σ H s)(i:Gl X x)(j:X.mg x=some u)(h:Q u s)(hd:(x==("__debug__":U1))=false:=by decide):Rz (RD X.prog X.w) X.A (RJ (.Name x pos) X.env) Q E s:=
 Calls.Name_function_global I.ok.kind i (Calls.loadGlobal_global (by rw[I.ok.glob];exact I.mod.glob.keeps I.bk) j h) hd
theorem qa{E:Y1->Z1->Prop}{af:List (V0×Obj)}{s:Z1}{σ:St}{H:Hp}{x:U1}{u:Y1}{pos:Pos}{Q:Y1->Z1->Prop}(I:Inv X af σ H s)(i:Gl X x)(j:X.mg x=none)(n:RI x=some u)(h:Q u s)(y:x≠"__name__":=by decide)(hd:(x==("__debug__":U1))=false:=by decide):Rz (RD X.prog X.w) X.A (RJ (.Name x pos) X.env) Q E s:=by
 obtain⟨z,h1,h2⟩:=I.mod.blt;exact Calls.Name_function_global I.ok.kind i (Calls.loadGlobal_builtin (by rw[I.ok.glob];exact I.mod.glob.keeps I.bk) j (by rw[I.ok.blt];exact h1.keeps I.bk) ((h2 x y).trans n) h) hd
theorem tw{x:U1}{v:V}{u:Y1}{pos:Pos}(i:Gl X x)(j:X.mg x=some u)(r:RelV v u)(hd:(x==("__debug__":U1))=false:=by decide):PE X (.Name x pos) (tC v):=
 λ ω ω ω H ω I h=>kX I i j ⟨v,H,I,r,h⟩ hd
theorem yZ{x:U1}{v:V}{u:Y1}{pos:Pos}(i:Gl X x)(j:X.mg x=none)(n:RI x=some u)(r:RelV v u)(y:x≠"__name__":=by decide)(hd:(x==("__debug__":U1))=false:=by decide):PE X (.Name x pos) (tC v):=
 λ ω ω ω H ω I h=>qa I i j n ⟨v,H,I,r,h⟩ y hd
variable{a b:Expr}{ta tb:TE}{pos:Pos}
def PC(X:Cx)(op:CmpOp)(a b:Expr)(t:TE):Prop:=
 ∀(af:List (V0×Obj))(s:Z1)(σ:St)(H:Hp)(Q:VK),Inv X af σ H s->t σ H Q->
  Rz (RD X.prog X.w) X.A (RJ a X.env) (λ v i=>Rz (RD X.prog X.w) X.A (RJ b X.env) (λ u j=>Rz (RD X.prog X.w) X.A (R4 op v u) (EP X af σ Q) X.xe j) X.xe i) X.xe s
def tB(t:TE):TT:=λ σ H Q=>t σ H λ x H1=>∃c,x=.bl c/\Q c H1
theorem Jp{op:CmpOp}{t:TE}(h:PC X op a b t)(h1:TV op b=false:=by first|exact nobehind _ qQ qQ|rfl):PT X (.Compare a [op] [b] pos) (tB t):=by
 intro af s σ H Q I i;refine wpAny_isTrue_Compare1 (aW (h af s σ H _ I i) λ v y h1=>aW h1 λ u z h2=>aW h2 λ c B hz_=>?_) h1;obtain⟨x,H1,j,r1,n⟩:=hz_;obtain⟨d,rfl,q⟩:=n;cases r1;exact RO ⟨H1,j,q⟩
theorem fq{e:Expr}{t:TE}(h:PE X e t)(i:∀whole,isTrue e X.env whole=(do let v<-whole;Sr e.pos;SU [v] (truthy v)):=by intro _;rfl):PT X e (tB t):=by
 intro af s σ H Q I j;refine isTrue_plain (aW (h af s σ H _ I j) λ v z hz_=>?_) (i _);obtain⟨x,H1,n,r1,y⟩:=hz_;obtain⟨d,rfl,q⟩:=y;cases r1;exact RO ⟨H1,n,q⟩
variable{tA tB':TT}{rest:List Expr}
def rA(t u:TT):TT:=λ σ H Q=>t σ H λ c H1=>if c=true then u σ H1 Q else Q false H1
def A4(t u:TT):TT:=λ σ H Q=>t σ H λ c H1=>if c=true then Q true H1 else u σ H1 Q
def rg(t:TT):TT:=λ σ H Q=>t σ H λ c H1=>Q (!c) H1
theorem tE(i:PT X a tA):PW X (.BoolOp .And [a] pos) tA:=by
 intro j af s σ H Q I h;refine isTrue_and (aW (i af s σ H Q I h) λ c n e=>?_);cases c with
 |true=>exact isTrue_and_nil e
 |false=>exact e
theorem uP(i:PT X a tA):PW X (.BoolOp .Or [a] pos) tA:=by
 intro j af s σ H Q I h;refine isTrue_or (aW (i af s σ H Q I h) λ c n e=>?_);cases c with
 |false=>exact isTrue_or_nil e
 |true=>exact e
theorem sQ(n:PT X a tA)(y:PW X (.BoolOp .And (b::rest) pos) tB'):PW X (.BoolOp .And (a::b::rest) pos) (rA tA tB'):=by
 intro z af s σ H Q I h;refine isTrue_and (aW (n af s σ H _ I h) λ c B hz_=>?_);obtain⟨H1,i,j⟩:=hz_;cases c with
 |true=>exact y z af B σ H1 Q i j
 |false=>exact⟨H1,i,j⟩
theorem xA(n:PT X a tA)(y:PW X (.BoolOp .Or (b::rest) pos) tB'):PW X (.BoolOp .Or (a::b::rest) pos) (A4 tA tB'):=by
 intro z af s σ H Q I h;refine isTrue_or (aW (n af s σ H _ I h) λ c B hz_=>?_);obtain⟨H1,i,j⟩:=hz_;cases c with
 |true=>exact⟨H1,i,j⟩
 |false=>exact y z af B σ H1 Q i j
theorem pX(i:PT X a tA):PT X (.UnaryOp .Not a pos) (rg tA):=by
 intro af s σ H Q I h;exact isTrue_not (i af s σ H (λ c H1=>Q (!c) H1) I h)
def Eb(ta tb:TE):TE:=λ σ H Q=>ta σ H λ x H1=>∃c,x=.bl c/\if c=true then tb σ H1 Q else Q (.bl false) H1
def q_(ta tb:TE):TE:=λ σ H Q=>ta σ H λ x H1=>∃c,x=.bl c/\if c=true then Q (.bl true) H1 else tb σ H1 Q
def Iz(ta:TE):TE:=λ σ H Q=>ta σ H λ x H1=>∃c,x=.bl c/\Q (.bl (!c)) H1
theorem oU{op}{t:TE}(h:PE X a t):PE X (.BoolOp op [a] pos) t:=λ af s σ H Q I i=>BoolOp_one (h af s σ H Q I i)
theorem xO(n:PE X a ta)(y:PE X (.BoolOp .And (b::rest) pos) tb):PE X (.BoolOp .And (a::b::rest) pos) (Eb ta tb):=by
 intro af s σ H Q I h;refine BoolOp_and (aW (n af s σ H _ I h) λ v z hz_=>?_);obtain⟨x,H1,j,r1,i⟩:=hz_;obtain⟨c,rfl,i⟩:=i;cases r1;refine RO ?_;cases c with
 |true=>exact y af z σ H1 Q j i
 |false=>exact⟨.bl false,H1,j,rfl,i⟩
theorem ud(n:PE X a ta)(y:PE X (.BoolOp .Or (b::rest) pos) tb):PE X (.BoolOp .Or (a::b::rest) pos) (q_ ta tb):=by
 intro af s σ H Q I h;refine BoolOp_or (aW (n af s σ H _ I h) λ v z hz_=>?_);obtain⟨x,H1,j,r1,i⟩:=hz_;obtain⟨c,rfl,i⟩:=i;cases r1;refine RO ?_;cases c with
 |false=>exact y af z σ H1 Q j i
 |true=>exact⟨.bl true,H1,j,rfl,i⟩
theorem JU(j:PE X a ta):PE X (.UnaryOp .Not a pos) (Iz ta):=by
 intro af s σ H Q I h;refine UnaryOp_ (aW (j af s σ H _ I h) λ v y hz_=>?_);obtain⟨x,H1,n,r1,i⟩:=hz_;obtain⟨c,rfl,i⟩:=i;cases r1;exact not_of (RO ⟨.bl (!c),H1,n,rfl,i⟩)
end
end L2
namespace L2
open PySem PySem.Spec PyProof.Rows
def az(K:X0)(H:Hp)(a:V0)(xs:List V):Prop:=
 Rd H a (.lst xs)\/
  ∃(o:Obj)(its:Array Y1)(n:Nat),K.lookup a=some o/\o.cls=.type "list"/\o.dict=none/\o.data=.seq its n/\its.size<=Ru/\aI xs its.toList
def ay(K:X0)(H:Hp)(a:V0)(xs:List V):Prop:=
 Rd H a (.tup xs)\/
  ∃(o:Obj)(its:Array Y1)(n:Nat),K.lookup a=some o/\(o.cls=.type "tuple"/\o.dict=none)/\o.data=.seq its n/\its.size<=Ru/\aI xs its.toList
def yN:Y1->Option V
 | .none=>some .non
 | .bool b=>some (.bl b)
 | .int i _=>some (.int i)
 | .str x _=>some (.str x)
 | .bytes b _=>some (.byt b)
 | .float b _=>some (.flt b)
 | .ref a=>some (.ref a)
 | .type n=>some (.ty n)
 |_=>none
theorem RelV.abs{x:V}{u:Y1}(r:RelV x u):yN u=some x:=by
 cases x with
 |non=>cases r;rfl
 |bl _=>cases r;rfl
 |int _=>obtain⟨t,rfl⟩:=r;rfl
 |str _=>obtain⟨t,rfl⟩:=r;rfl
 |byt _=>obtain⟨t,rfl⟩:=r;rfl
 |flt _=>obtain⟨t,rfl⟩:=r;rfl
 |ref _=>cases r;rfl
 |ty _=>cases r;rfl
theorem RelV.inj{x y:V}{u:Y1}(r:RelV x u)(q:RelV y u):x=y:=jv (r.abs.symm.trans q.abs)
theorem aI.inj:∀{xs ys:List V}{us:List Y1},aI xs us->aI ys us->xs=ys
 |_,_,_,.nil,.nil=>rfl
 |_,_,_,.cons r t,.cons i j=>by rw[r.inj i,aI.inj t j]
section
variable{X:Cx}{af:List (V0×Obj)}{σ:St}{H:Hp}{s:Z1}{a:V0}{xs ys:List V}
theorem az.of{K:X0}(h:H a=some (.lst xs)):az K H a xs:=.inl (.inl h)
theorem ay.of{K:X0}(h:H a=some (.tup xs)):ay K H a xs:=.inl (.inl h)
theorem Inv.list(I:Inv X af σ H s)(h:az X.K H a xs):∃its:List Y1,aI xs its/\PlainL s.heap a its.toArray/\xs.length<=Ru:=by
 rcases h with h|⟨o,its,n,i,j,hd,y,B,r⟩
 ·obtain⟨z,its,n,r,e⟩:=h.ok I.hok;exact⟨its,r,⟨_,n,e,rfl,rfl,rfl⟩,z⟩
 ·refine⟨its.toList,r,⟨o,n,I.kIn a o i,j,hd,by simpa using y⟩,?_⟩;have e:=r.length;simp only[oE]at e;lia
theorem Inv.tuple(I:Inv X af σ H s)(h:ay X.K H a xs):∃its:List Y1,aI xs its/\IsTup s.heap a its.toArray/\xs.length<=Ru:=by
 rcases h with h|⟨o,its,n,i,j,y,B,r⟩
 ·obtain⟨z,its,r,p⟩:=h.ok I.hok;exact⟨its,r,p,z.1⟩
 ·refine⟨its.toList,r,⟨o,I.kIn a o i,j.1,n,by simpa using y⟩,?_⟩;have e:=r.length;simp only[oE]at e;lia
theorem Inv.list_inj(I:Inv X af σ H s)(h:az X.K H a xs)(h':az X.K H a ys):xs=ys:=by
 obtain⟨its,r,⟨o,n,e,ω,ω,d⟩,ω⟩:=I.list h;obtain⟨its',y,⟨o',z,i,ω,ω,j⟩,ω⟩:=I.list h';rw[e]at i;cases i;rw[d]at j;injection j with d1 _
 have:its=its':=by simpa using congrArg Array.toList d1
 subst this;exact r.inj y
theorem Inv.tuple_inj(I:Inv X af σ H s)(h:ay X.K H a xs)(h':ay X.K H a ys):xs=ys:=by
 obtain⟨its,r,⟨o,e,ω,n,d⟩,ω⟩:=I.tuple h;obtain⟨its',y,⟨o',i,ω,z,j⟩,ω⟩:=I.tuple h';rw[e]at i;cases i;rw[d]at j;injection j with d1 _
 have:its=its':=by simpa using congrArg Array.toList d1
 subst this;exact r.inj y
end
abbrev Cx.wish(X:Cx)(E:Y1->Z1->Prop):Cx:={X with xe:=E}
abbrev Cx.nox(X:Cx):Cx:=X.wish λ ω ω=>False
variable{X:Cx}
theorem Cx.Ok.wish(ok:X.Ok)(E:Y1->Z1->Prop):(X.wish E).Ok:=
 ⟨ok.mod,ok.kind,ok.glob,ok.blt,ok.above,ok.inj,ok.has,ok.cab,ok.hd,ok.frames,ok.stk,ok.exf,ok.bs,ok.bsz,ok.noex,ok.exfs,ok.funs,ok.frf⟩
theorem Cx.Ok.unwish{E:Y1->Z1->Prop}(ok:(X.wish E).Ok):X.Ok:=
 ⟨ok.mod,ok.kind,ok.glob,ok.blt,ok.above,ok.inj,ok.has,ok.cab,ok.hd,ok.frames,ok.stk,ok.exf,ok.bs,ok.bsz,ok.noex,ok.exfs,ok.funs,ok.frf⟩
section
variable{X:Cx}{af:List (V0×Obj)}{σ:St}{H:Hp}{s:Z1}{E:Y1->Z1->Prop}
theorem Inv.wish(I:Inv X af σ H s)(E:Y1->Z1->Prop):Inv (X.wish E) af σ H s:=⟨I.ok.wish E,I.os,I.bare,I.base,I.loc,I.cell,I.free,I.freeC,I.pin,I.hok,I.len⟩
theorem Inv.unwish(I:Inv (X.wish E) af σ H s):Inv X af σ H s:=⟨I.ok.unwish,I.os,I.bare,I.base,I.loc,I.cell,I.free,I.freeC,I.pin,I.hok,I.len⟩
theorem SP.unwish{D:bU}{f:Flow}{s':Z1}(h:SP (X.wish E) af D f s'):SP X af D f s':=by
 cases f with
 |next=>obtain⟨σ',H',I,q⟩:=h;exact⟨σ',H',I.unwish,q⟩
 |brk=>obtain⟨σ',H',I,q⟩:=h;exact⟨σ',H',I.unwish,q⟩
 |cont=>obtain⟨σ',H',I,q⟩:=h;exact⟨σ',H',I.unwish,q⟩
 |ret u=>obtain⟨v,σ',H',I,r,q⟩:=h;exact⟨v,σ',H',I.unwish,r,q⟩
theorem fy.nox{st:List RH}{t:TS}(h:fy X.nox st t):fy X st t:=λ af s σ H D I i=>
 R7 (h af s σ H D (I.wish _) i) (λ ω ω q=>q.unwish) λ ω ω z=>False.elim z
end
section
variable{X:Cx}{st:RH}{rest:List RH}{t u:TS}{e:Expr}{te:TE}{pos:Pos}
def Ea:TS:=λ D σ H=>D.nx σ H
def aJ(t u:TS):TS:=λ D σ H=>t {D with nx:=u D} σ H
theorem bW:fy X [] Ea:=λ ω ω σ H ω I h=>Tp ⟨σ,H,I,h⟩
theorem aE(h1:PS X st t)(h2:fy X rest u):fy X (st::rest) (aJ t u):=by
 intro af s σ H D I h;refine wpAny_execs_cons (aW (h1 af s σ H {D with nx:=u D} I h) λ f s1 q=>?_);cases f with
 |next=>
  obtain⟨σ',H',I',q⟩:=q;exact h2 af s1 σ' H' D I' q
 |ret v=>exact q
 |brk=>exact q
 |cont=>exact q
theorem aN(h1:PS X st t):fy X [st] t:=by
 intro af s σ H D I h;refine wpAny_execs_cons (aW (h1 af s σ H D I h) λ f s1 q=>?_);cases f with
 |next=>exact Tp q
 |ret v=>exact q
 |brk=>exact q
 |cont=>exact q
theorem Inv.quiet{af:List (V0×Obj)}{σ:St}{H:Hp}{s:Z1}(I:Inv X af σ H s):interactive X.env=false:=by simp[interactive,I.ok.kind]
def An(te:TE):TS:=λ D σ H=>te σ H λ ω H1=>D.nx σ H1
theorem dS(i:PE X e te)(j:Ul e none pos.line X.env=pure false:=by rfl):PS X (.Expr e pos) (An te):=by
 intro af s σ H D I h;refine wpAny_Expr_any (aW (i af s σ H _ I h) λ v z hz_=>?_) I.quiet j;obtain⟨x,H1,n,r1,y⟩:=hz_;exact⟨σ,H1,n,y⟩
def qZ(te:TE):TS:=λ D σ H=>te σ H D.rt
theorem bp(i:PE X e te):PS X (.Return (some e) pos) (qZ te):=by
 intro af s σ H D I h;refine wpAny_Return_some (aW (i af s σ H _ I h) λ v y hz_=>?_);obtain⟨x,H1,j,r1,n⟩:=hz_;exact⟨x,σ,H1,j,r1,n⟩
def rk(c:TT)(t u:TS):TS:=λ D σ H=>c σ H λ b H1=>if b=true then t D σ H1 else u D σ H1
theorem bP{c:Expr}{a b:List RH}{tc:TT}(y:PT X c tc)(z:fy X a t)(B:fy X b u):PS X (.If c a b pos) (rk tc t u):=by
 intro af s σ H D I h;refine wpAny_If (aW (y af s σ H _ I h) λ d i hz_=>?_);obtain⟨H1,j,n⟩:=hz_;cases d with
 |true=>exact z af i σ H1 D j n
 |false=>exact B af i σ H1 D j n
end
abbrev TG:=V->St->Hp->(St->Hp->Prop)->Prop
abbrev jk:=List V->St->Hp->(St->Hp->Prop)->Prop
def PG(X:Cx)(target:Expr)(t:TG):Prop:=
 ∀(af:List (V0×Obj))(s:Z1)(σ:St)(H:Hp)(v:V)(u:Y1)(Q:St->Hp->Prop),Inv X af σ H s->RelV v u->t v σ H Q->
  Rz (RD X.prog X.w) X.A (Ug target X.env u) (λ ω s'=>∃i H',Inv X af i H' s'/\Q i H') X.xe s
def lg(X:Cx)(ts:List Expr)(t:jk):Prop:=
 ∀(af:List (V0×Obj))(s:Z1)(σ:St)(H:Hp)(vs:List V)(us:List Y1)(Q:St->Hp->Prop),Inv X af σ H s->aI vs us->t vs σ H Q->
  Rz (RD X.prog X.w) X.A (assignInOrder ((SL ts X.env).map (·.2)) us) (λ ω s'=>∃i H',Inv X af i H' s'/\Q i H') X.xe s
abbrev kG:=V->V->V->Hp->(Hp->Prop)->Prop
def px(X:Cx)(t:kG):Prop:=
 ∀(af:List (V0×Obj))(s:Z1)(σ:St)(H:Hp)(o i v:V)(j n u:Y1)(Q:Hp->Prop),Inv X af σ H s->RelV o j->RelV i n->RelV v u->t o i v H Q->
  Rz (RD X.prog X.w) X.A (setItem j n u) (λ ω s'=>∃H',Inv X af σ H' s'/\Q H') X.xe s
abbrev tQ:=V->V->Hp->VK->Prop
def Ah(X:Cx)(op:Operator)(t:tQ):Prop:=
 ∀(af:List (V0×Obj))(s:Z1)(σ:St)(H:Hp)(x y:V)(v u:Y1)(Q:VK),Inv X af σ H s->RelV x v->RelV y u->t x y H Q->
  Rz (RD X.prog X.w) X.A (inplaceOp op v u) (EP X af σ Q) X.xe s
section
variable{X:Cx}{pos:Pos}
def gU(i:Nat):TG:=λ v σ H Q=>Q (σ.set i (some v)) H
theorem y8{i:Nat}{x:U1}(j:X.N.Nodup)(hi:X.N[i]?=some x)(n:Loc X.env.scope x)(y:X.fn x=true\/X.env.scope.names.lookup x=some .local:=by first|exact .inl rfl|exact .inr rfl|assumption):PG X (.Name x pos) (gU i):=by
 intro af s σ H v u Q I r h;exact wpAny_assign_Name (u_ I j hi n r (λ s' z=>⟨_,H,z,h⟩) y)
def sD:jk:=λ vs σ H Q=>vs=[]/\Q σ H
def Il(t:TG)(u:jk):jk:=λ vs σ H Q=>∃v r,vs=v::r/\t v σ H λ i H'=>u r i H' Q
theorem ku:lg X [] sD:=by
 intro af s σ H vs us Q I r h;obtain⟨e,h⟩:=h;subst e;cases r;exact assignInOrder_nil ⟨σ,H,I,h⟩
theorem MK{e:Expr}{es:List Expr}{t:TG}{u:jk}(h1:PG X e t)(h2:lg X es u)(j:(SL (e::es) X.env).map (·.2)=Ug e X.env::(SL es X.env).map (·.2):=by rfl):lg X (e::es) (Il t u):=by
 intro af s σ H vs us Q I r h;obtain⟨v,G,n,h⟩:=h;subst n;cases r with
 |cons r y=>
  rw[j];refine assignInOrder_cons (aW (h1 af s σ H _ _ _ I r h) λ ω z hz_=>?_);obtain⟨i,H1,B,D⟩:=hz_;exact h2 af z i H1 _ _ Q B y D
def yK(K:X0)(n:Nat)(t:jk):TG:=λ v σ H Q=>∃a xs,v=.ref a/\ay K H a xs/\xs.length=n/\t xs σ H Q
theorem JP{es:List Expr}{k:Nat}{t:jk}{n:Nat}(z:X.calm=true)(h:lg X es t)(B:(SL es X.env).length=n:=by rfl)(i:(SL es X.env).findIdx? (·.1)=none:=by rfl):PG X (.Tuple es k pos) (yK X.K n t):=by
 intro af s σ H v u Q I r j;obtain⟨a,xs,D,G,hl,j⟩:=j;subst D;cases r;obtain⟨its,y,J,N⟩:=I.tuple G;refine assign_Tuple_tuple (I.ok.hd z) J (by simp[B,<-hl,y.length]) i λ h' L=>?_;have M:Inv X af σ H {s with heap:=h'}:=I.kept (t':=s.toks) λ b o e=>L b o (dY (Rq e)) e;exact h af _ σ H xs _ Q M (by simpa using y) j
def sC(to ti:TE)(t:kG):TG:=λ v σ H Q=>to σ H λ o H1=>ti σ H1 λ i H2=>t o i v H2 λ j=>Q σ j
theorem JF{o i:Expr}{to z:TE}{t:kG}(B:PE X o to)(hi:PE X i z)(D:px X t)(G:∀v,Ug (.Subscript o i pos) X.env v=(do
   let j<-SU [v] (RJ o X.env);let n<-SU [v,j] (RJ i X.env)
   Sr pos
   SU [v,j,n] (setItem j n v)
   release [v,j,n] []):=by intro _;rfl):PG X (.Subscript o i pos) (sC to z t):=by
 intro af s σ H v u Q I r h;rw[G];refine Ro (R9 (aW (B af s σ H _ I h) λ j J hz_=>?_));obtain⟨x,H1,L,r1,M⟩:=hz_;refine Ro (R9 (aW (hi af J σ H1 _ L M) λ n N hz_=>?_));obtain⟨y,H2,O,R,S⟩:=hz_;refine Ro (Sm (Ro (R9 (aW (D af N σ H2 x y v j n u _ O r1 R r S) λ ω Z hz_=>?_))));obtain⟨U,I3,Y⟩:=hz_;exact wpAny_release ⟨σ,U,I3,Y⟩
def lD(te:TE)(g:TG):TS:=λ D σ H=>te σ H λ x H1=>g x σ H1 D.nx
theorem nr{tg e:Expr}{te:TE}{g:TG}(i:PE X e te)(j:PG X tg g)(n:swapsWithSole [tg] e pos.line X.env=pure false:=by rfl)(y:swappedStores [tg] e X.env=pure none:=by rfl)(h1:(SL [tg] X.env).map (·.2)=[Ug tg X.env]:=by rfl):PS X (.Assign [tg] e pos) (lD te g):=by
 intro af s σ H D I h;refine wpAny_Assign_stores (aW (i af s σ H _ I h) λ v z hz_=>?_) n y;obtain⟨x,H1,B,r1,G⟩:=hz_;rw[h1];exact aW (j af z σ H1 x v _ B r1 G) λ ω J q=>q
theorem nB{i:Nat}{x:U1}{e:Expr}{te:TE}{pos':Pos}(j:X.N.Nodup)(hi:X.N[i]?=some x)(n:Loc X.env.scope x)(z:PE X e te)(B:Ul e (some (.Name x pos')) pos.line X.env=pure false:=by rfl)(G:X.fn x=true\/X.env.scope.names.lookup x=some .local:=by first|exact .inl rfl|exact .inr rfl|assumption):PS X (.Assign [.Name x pos'] e pos) (lD te (gU i)):=by
 intro af s σ H D I h;refine wpAny_Assign_Name (aW (z af s σ H _ I h) λ v N hz_=>?_) B;obtain⟨y,H1,J,r1,L⟩:=hz_;exact u_ J j hi n r1 (λ O M=>⟨_,H1,M,L⟩) G
def oi(i:Nat)(te:TE)(ti:tQ):TS:=λ D σ H=>∃x,σ[i]?=some (some x)/\te σ H λ y H1=>ti x y H1 λ z H2=>D.nx (σ.set i (some z)) H2
theorem sS{i:Nat}{x:U1}{e:Expr}{te:TE}{op:Operator}{M:tQ}{pos':Pos}(N:X.N.Nodup)(hi:X.N[i]?=some x)(J:Loc X.env.scope x)(O:PE X e te)(R:Ah X op M)(S:X.fn x=true\/X.env.scope.names.lookup x=some .local:=by first|exact .inl rfl|exact .inr rfl|assumption):PS X (.AugAssign (.Name x pos') op e pos) (oi i te M):=by
 intro af s σ H D I h;obtain⟨v,U,h⟩:=h;obtain⟨m,Y,hl⟩:=I.loc;have L:nL X.env.scope x:=by rcases J with k|k;exact .inl k;exact .inr (.inl k)
 obtain⟨u,r,l⟩:=hl i x v hi U L;refine wpAny_AugAssign_Name ?_;have go:Rz (RD X.prog X.w) X.A (RJ e X.env) (λ w B=>Rz (RD X.prog X.w) X.A (inplaceOp op u w) (λ r G=>Rz (RD X.prog X.w) X.A (storeName X.env x r) (λ ω=>SP X af D .next) X.xe G) X.xe B) X.xe s:=by
  refine aW (O af s σ H _ I h) λ w Z hz_=>?_;obtain⟨y,H1,I1,r1,q1⟩:=hz_;refine aW (R af Z σ H1 v y u w _ I1 r r1 q1) λ z s2 hz_=>?_;obtain⟨zv,H2,I2,r2,q2⟩:=hz_;exact u_ I2 N hi J r2 (λ s3 I3=>⟨_,H2,I3,q2⟩) S
 rcases l with⟨j,hm⟩|⟨j,c,hc,n⟩
 ·exact wpAny_loadName_local I.ok.kind j Y hm go
 ·rcases j with j|j
  ·exact wpAny_loadName_cell I.ok.kind j hc n go
  ·rcases J with k|k
   ·have:X.env.scope.names.lookup x=some .free:=j;rw[k]at this;cases this
   ·have:X.env.scope.names.lookup x=some .free:=j;rw[k]at this;cases this
def uF(f:Int->Int->Int):tQ:=λ x y H Q=>∃i j,x=.int i/\y=.int j/\Q (.int (f i j)) H
theorem uL:Ah X .Add (uF λ i j=>i+j):=by
 intro af s σ H x y v u Q I r1 n h;obtain⟨i,j,z,B,q⟩:=h;subst z;subst B;obtain⟨t,rfl⟩:=r1;obtain⟨D,rfl⟩:=n;exact iadd_int ⟨.int _,H,I.tok _,⟨_,rfl⟩,q⟩
theorem J2:Ah X .Sub (uF λ i j=>i-j):=by
 intro af s σ H x y v u Q I r1 n h;obtain⟨i,j,z,B,q⟩:=h;subst z;subst B;obtain⟨t,rfl⟩:=r1;obtain⟨D,rfl⟩:=n;exact isub_int ⟨.int _,H,I.tok _,⟨_,rfl⟩,q⟩
end
section
variable{X:Cx}{pos:Pos}
def EW(c:TT)(tb:TS):TS:=λ D σ H=>∃W:Nat->St->Hp->Prop,(∃m,W m σ H)/\∀m σ H,W m σ H->
 c σ H λ b H1=>if b=true then ∃N:St->Hp->Prop,(∀i H',N i H'->∃j,j<m/\W j i H')/\tb {D with nx:=N,ct:=N,bk:=D.nx} σ H1 else D.nx σ H1
theorem nF{c:Expr}{body:List RH}{tc:TT}{tb:TS}(hp:PassesOwn (RD X.prog X.w) X.A X.env X.xe)(hc:PT X c tc)(hb:fy X body tb):PS X (.While c body [] pos) (EW tc tb):=by
 intro af s σ H D I h;obtain⟨W,⟨m0,w0⟩,turn⟩:=h;refine wpAny_While (codeAny_whileLoop (λ n s'=>∃σ' H',Inv X af σ' H' s'/\W n σ' H') ?_ m0 ⟨σ,H,I,w0⟩);rintro n s1 ⟨σ1,H1,I1,w1⟩;refine Sv hp (aW (hc af s1 σ1 H1 _ I1 (turn n σ1 H1 w1)) λ b s2 hz_=>?_);obtain⟨H2,I2,q2⟩:=hz_;cases b with
 |true=>
  obtain⟨N,hN,q2⟩:=q2;rw[UL rfl];refine Sv hp (aW (hb af s2 σ1 H2 _ I2 q2) λ f s3 q3=>?_);cases f with
  |next=>
   obtain⟨σ3,H3,I3,n3⟩:=q3;obtain⟨m',hm,w3⟩:=hN σ3 H3 n3;exact⟨m',hm,σ3,H3,I3,w3⟩
  |cont=>
   obtain⟨σ3,H3,I3,n3⟩:=q3;obtain⟨m',hm,w3⟩:=hN σ3 H3 n3;exact⟨m',hm,σ3,H3,I3,w3⟩
  |brk=>exact q3
  |ret v=>exact q3
 |false=>
  rw[UK dO];exact Tp ⟨σ1,H2,I2,q2⟩
end
structure It where
 go:Nat->Hp->Prop
 yld:Nat->Hp->V->Hp->Prop
 stop:Nat->Hp->Prop
def eI(X:Cx)(af:List (V0×Obj))(H:Hp)(b:V0):Prop:=
 H b=none/\b≠X.env.locals/\b∉X.fs/\(b∈X.ex\/X.s₀.heap.objs.size<=b)/\(∀x c,X.env.cells.lookup x=some c->c≠b)/\∀p∈X.pn++af,p.1≠b
theorem Inv.fpOk{af:List (V0×Obj)}{σ:St}{H H':Hp}{s:Z1}{b:V0}(I:Inv X af σ H s)(i:s.heap.objs.size<=b)(j:H' b=none):eI X af H' b:=by
 refine⟨j,lL (dv I.lt i),I.nofs i,.inr (bR I.sz i),λ x c e z=>?_,λ p n z=>?_⟩
 ·obtain⟨v,q⟩:=I.cell x c e;exact UM (dv q.lt (by rw[z];exact i)) (fH _)
 ·exact UM (dv (Rq (I.pin p n).1) (by rw[z];exact i)) (fH _)
structure jH(P:Program)(w:V1)(K:X0)(tg:Expr)(J:It)(fp:List V0)(it:V0)(tn:Nat->M1->Prop):Prop where
 mem:it∈fp
 obj:∀i h,tn i h->∀b∈fp,∃o,h.get? b=some o/\∀v,o.data≠.cell v
 keep:∀i h h',tn i h->(∀b∈fp,∀o,h.get? b=some o->h'.get? b=some o)->tn i h'
 item:∀(X:Cx),X.prog=P->X.w=w->X.K=K->X.calm=true->∀(i:Nat)(af:List (V0×Obj))(s:Z1)(σ:St)(H:Hp)(E:Y1->Z1->Prop),Inv X af σ H s->(∀b∈fp,eI X af H b)->tn i s.heap->J.go i H->
  Rz (RD P w) X.A (UJ (.ref it)) (λ r s1=>∃u,r=some u/\Rz (RD P w) X.A (SO tg (.ref it) u) (λ ω s2=>∃x H',Inv X af σ H' s2/\RelV x u/\J.yld i H x H'/\tn (i+1) s2.heap/\∀b∈fp,H' b=none) E s1) E s
 done:∀(X:Cx),X.prog=P->X.w=w->X.K=K->X.calm=true->∀(i:Nat)(af:List (V0×Obj))(s:Z1)(σ:St)(H:Hp)(E:Y1->Z1->Prop),Inv X af σ H s->(∀b∈fp,eI X af H b)->tn i s.heap->J.stop i H->
  Rz (RD P w) X.A (UJ (.ref it)) (λ r s1=>r=none/\Inv X af σ H s1) E s
 self:∀(A:N1)(i:Nat)(s:Z1)(Q:Y1->Z1->Prop)(E:Y1->Z1->Prop),tn i s.heap->Q (.ref it) s->Rz (RD P w) A (pyIter (.ref it)) Q E s
abbrev TI:=St->Hp->(It->Hp->Prop)->Prop
def DI(X:Cx)(af:List (V0×Obj))(σ:St)(tg:Expr)(R:It->Hp->Prop)(itv:Y1)(s2:Z1):Prop:=
 ∃(i:V0)(j:List V0)(n:Nat->M1->Prop)(J:It)(H':Hp),itv=.ref i/\Inv X af σ H' s2/\jH X.prog X.w X.K tg J j i n/\n 0 s2.heap/\(∀b∈j,eI X af H' b)/\R J H'
def PI(X:Cx)(tg iter:Expr)(wi:TI):Prop:=
 ∀(af:List (V0×Obj))(s:Z1)(σ:St)(H:Hp)(R:It->Hp->Prop),Inv X af σ H s->wi σ H R->
  Rz (RD X.prog X.w) X.A (RJ iter X.env) (λ v i=>Rz (RD X.prog X.w) X.A (pyIter v) (DI X af σ tg R) X.xe i) X.xe s
variable{tg:Expr}
theorem xt{M:Model}{A:N1}{E:Y1->Z1->Prop}{s:Z1}{it:V0}{u:Y1}{o:Obj}{n:String}{vs:Array Y1}{Q:Unit->Z1->Prop}(j:s.heap.get? it=some o)(y:o.cls=.type n)(hd:o.data=.fields vs)(z:["enumerate","zip","dict_itemiterator","dict_reverseitemiterator","odict_iterator","itertools.zip_longest","itertools.pairwise"].contains n=false)(i:Q () s):Rz M A (SO tg (.ref it) u) Q E s:=by
  unfold SO;cases tg <;> first
    |exact Rv i
    | (cases u <;> first
        |exact Rv i
        | (refine Ro (wpAny_load j ?_)
           rw[y,hd];show Rz M A (if(["enumerate","zip","dict_itemiterator","dict_reverseitemiterator","odict_iterator","itertools.zip_longest","itertools.pairwise"].contains n&&vs[0]?==some (Se _))=true then _ else _) Q E s;rw[UK (by intro h;rw[z,Bool.false_and]at h;cases h)];exact Rv i))
def jT(K:X0)(a:V0):It:=
 ⟨λ i H=>∃xs x,az K H a xs/\xs[i]?=some x,λ i H x H'=>H'=H/\∀xs,az K H a xs->xs[i]?=some x,λ i H=>∃xs,az K H a xs/\xs.length<=i⟩
def kK(K:X0)(a:V0):It:=
 ⟨λ i H=>∃xs x,ay K H a xs/\xs[i]?=some x,λ i H x H'=>H'=H/\∀xs,ay K H a xs->xs[i]?=some x,λ i H=>∃xs,ay K H a xs/\xs.length<=i⟩
def mK(lo:Int)(n:Nat):It:=⟨λ i ω=>i<n,λ i H x H'=>H'=H/\x=.int (lo+i),λ i ω=>n<=i⟩
variable{P:Program}{K:X0}
theorem B9{w:V1}(a it:V0):jH P w K tg (jT K a) [it] it (λ i h=>h.IsListIter it a i)where
 mem:=by simp
 obj:=λ i h st b j=>by
  have e:b=it:=by simpa using j
  subst e;obtain⟨o,e,c,d⟩:=st;exact⟨o,e,λ v z=>by rw[d]at z;cases z⟩
 keep:=λ i h h' st k=>st.at λ o e=>k it (by simp) o e
 item:=by
  intro X D G J Z i af s σ H E I y st L;subst D G J;obtain⟨xs,x,B,M⟩:=L;obtain⟨its,N,p,hz⟩:=I.list B;obtain⟨u,hu,ru⟩:=N.get M;obtain⟨O,R,f2,S,U,Y⟩:=y it (by simp);refine wpAny_pyNext_list_item st p.isList (x:=u) (by simpa using hu) λ h' n sb=>?_;have I1:Inv X af σ H {s with heap:=h'}:=I.turned (t':=s.toks) (λ b o j e=>(sb.2 b j).trans e) O R S U Y;obtain⟨o,e,c,d⟩:=id n;exact⟨u,rfl,xt (s:={s with heap:=h'}) e c d qQ ⟨x,H,I1,ru,⟨rfl,λ ys hy=>by rw[I.list_inj hy B];exact M⟩,n,λ b j=>(y b j).1⟩⟩
 done:=by
  intro X D G J Z i af s σ H E I y st L;subst D G J;obtain⟨xs,B,M⟩:=L;obtain⟨its,N,p,hz⟩:=I.list B;obtain⟨O,R,f2,S,U,Y⟩:=y it (by simp);have hl:=N.length;exact wpAny_pyNext_list_end (I.ok.hd Z) st p.isList (by simp;lia) λ h' eb=>⟨rfl,I.turned (t':=s.toks) (λ b o j e=>eb b o j e) O R S U Y⟩
 self:=λ ω ω ω ω ω st h=>wpAny_pyIter_listiter st h
theorem Dl{w:V1}(a it:V0):jH P w K tg (kK K a) [it] it (λ i h=>h.IsTupleIter it a i)where
 mem:=by simp
 obj:=λ i h st b j=>by
  have e:b=it:=by simpa using j
  subst e;obtain⟨o,e,c,d⟩:=st;exact⟨o,e,λ v z=>by rw[d]at z;cases z⟩
 keep:=λ i h h' st k=>st.at λ o e=>k it (by simp) o e
 item:=by
  intro X D G J Z i af s σ H E I y st L;subst D G J;obtain⟨xs,x,B,M⟩:=L;obtain⟨its,N,p,hz⟩:=I.tuple B;obtain⟨u,hu,ru⟩:=N.get M;obtain⟨O,R,f2,S,U,Y⟩:=y it (by simp);refine wpAny_pyNext_tuple_item st (show s.heap.IsTuple a its.toArray from p) (x:=u) (by simpa using hu) λ h' n sb=>?_;have I1:Inv X af σ H {s with heap:=h'}:=I.turned (t':=s.toks) (λ b o j e=>(sb.2 b j).trans e) O R S U Y;obtain⟨o,e,c,d⟩:=id n;exact⟨u,rfl,xt (s:={s with heap:=h'}) e c d qQ ⟨x,H,I1,ru,⟨rfl,λ ys hy=>by rw[I.tuple_inj hy B];exact M⟩,n,λ b j=>(y b j).1⟩⟩
 done:=by
  intro X D G J Z i af s σ H E I y st L;subst D G J;obtain⟨xs,B,M⟩:=L;obtain⟨its,N,p,hz⟩:=I.tuple B;obtain⟨O,R,f2,S,U,Y⟩:=y it (by simp);have hl:=N.length;exact wpAny_pyNext_tuple_end (I.ok.hd Z) st (show s.heap.IsTuple a its.toArray from p) (by simp;lia) λ h' eb=>⟨rfl,I.turned (t':=s.toks) (λ b o j e=>eb b o j e) O R S U Y⟩
 self:=λ ω ω ω ω ω st h=>wpAny_pyIter_tupleiter st h
theorem N9{w:V1}(it:V0)(lo:Int)(n:Nat):jH P w K tg (mK lo n) [it] it (λ i h=>IsRangeIter h it (lo+(i:Nat)*1) ((n:Int)-(i:Nat)) 1)where
 mem:=by simp
 obj:=λ i h st b j=>by
  have e:b=it:=by simpa using j
  subst e;exact⟨_,st,λ v z=>by
   have Y:Data.fields _=Data.cell v:=z;cases Y⟩
 keep:=λ i h h' st k=>k it (by simp) _ st
 item:=by
  intro X D G J L i af s σ H E I B st M;subst D G J;obtain⟨N,O,Z,R,S,U⟩:=B it (by simp);have W:=Walks.range (prog:=X.prog) (w:=X.w) (I.ok.hd L) it lo 1 n;refine W.item i s _ _ M st λ v h' tk hv y kk=>?_;obtain⟨t,rfl⟩:=hv;have I1:Inv X af σ H {s with heap:=h',toks:=tk}:=I.turned (λ b o j e=>kk b o (by simpa using j) e) N O R S U;refine⟨_,rfl,xt (s:={s with heap:=h',toks:=tk}) (n:="range_iterator") y rfl rfl qQ ⟨.int (lo+i),H,I1,⟨t,?_⟩,⟨rfl,rfl⟩,y,λ b j=>(B b j).1⟩⟩;rw[Int.mul_one]
 done:=by
  intro X D G J L i af s σ H E I B st M;subst D G J;obtain⟨N,O,Z,R,S,U⟩:=B it (by simp);exact wpAny_pyNext_range_end (I.ok.hd L) st (by have:n<=i:=M;lia) λ h' eb=>⟨rfl,I.turned (t':=s.toks) (λ b o j e=>eb b o j e) N O R S U⟩
 self:=λ ω ω ω ω ω st h=>wpAny_pyIter_rangeiter st h
end L2
namespace L2
open PySem PySem.Spec PyProof.Rows
section
variable{X:Cx}{tg:Expr}
def El(K:X0)(tl:TE):TI:=λ σ H R=>tl σ H λ x H1=>∃a,x=.ref a/\(∃xs,az K H1 a xs)/\R (jT K a) H1
def sk(K:X0)(tl:TE):TI:=λ σ H R=>tl σ H λ x H1=>∃a,x=.ref a/\(∃xs,ay K H1 a xs)/\R (kK K a) H1
theorem jR{l:Expr}{tl:TE}(hl:PE X l tl):PI X tg l (El X.K tl):=by
 intro af s σ H R I h;refine aW (hl af s σ H _ I h) λ v i hz_=>?_;obtain⟨x,H1,j,r1,n⟩:=hz_;obtain⟨a,e,⟨xs,y⟩,q⟩:=n;subst e;cases r1;obtain⟨its,B,p,D⟩:=j.list y;refine Sf p.isList ?_;refine⟨i.heap.objs.size,[i.heap.objs.size],_,_,H1,rfl,j.kept (t':=i.toks) λ b o e=>Rp _ e,B9 a _,⟨_,RC _ rfl,rfl,rfl⟩,λ b z=>?_,q⟩;have e:b=i.heap.objs.size:=by simpa using z
 subst e;exact j.fpOk (aQ _) (j.hok.fresh (aQ _))
theorem jg{l:Expr}{tl:TE}(hl:PE X l tl):PI X tg l (sk X.K tl):=by
 intro af s σ H R I h;refine aW (hl af s σ H _ I h) λ v i hz_=>?_;obtain⟨x,H1,j,r1,n⟩:=hz_;obtain⟨a,e,⟨xs,y⟩,q⟩:=n;subst e;cases r1;obtain⟨its,B,p,D⟩:=j.tuple y;refine wpAny_pyIter_tuple (show i.heap.IsTuple a its.toArray from p) ?_;refine⟨i.heap.objs.size,[i.heap.objs.size],_,_,H1,rfl,j.kept (t':=i.toks) λ b o e=>Rp _ e,Dl a _,⟨_,RC _ rfl,rfl,rfl⟩,λ b z=>?_,q⟩;have e:b=i.heap.objs.size:=by simpa using z
 subst e;exact j.fpOk (aQ _) (j.hok.fresh (aQ _))
theorem LK{af:List (V0×Obj)}{σ:St}{H:Hp}{s:Z1}{R:It->Hp->Prop}{E:Y1->Z1->Prop}{lo hi:Int}{t u v:Tok}{tk:Nat}(I:Inv X af σ H s)(h1:-(2^62)<=lo)(h2:lo<2^62)(j:-(2^62)<=hi)(n:hi<2^62)(q:R (mK lo (hi-lo).toNat) H):Rz (RD X.prog X.w) X.A (pyIter (.ref s.heap.objs.size)) (DI X af σ tg R) E {s with heap:=s.heap.push {cls:=.type "range",data:=.fields #[.int lo t,.int hi u,.int 1 v]},toks:=tk}:=by
 refine wpAny_pyIter_range (IsRange.new ..) (small_one h1 h2 j n) ?_;have i:Inv X af σ H {s with heap:=s.heap.push {cls:=.type "range",data:=.fields #[.int lo t,.int hi u,.int 1 v]},toks:=tk}:=I.kept λ b o e=>Rp _ e;refine⟨(s.heap.push {cls:=.type "range",data:=.fields #[.int lo t,.int hi u,.int 1 v]}).objs.size,[(s.heap.push {cls:=.type "range",data:=.fields #[.int lo t,.int hi u,.int 1 v]}).objs.size],_,_,H,rfl,i.kept (t':=tk) λ b o e=>Rp _ e,N9 _ lo (hi-lo).toNat,?_,λ b y=>?_,q⟩
 ·have z:lo+((0:Nat):Int)*1=lo:=by simp
  have B:(((hi-lo).toNat:Nat):Int)-((0:Nat):Int)=Builtin.Range.rangeSize lo hi 1:=by rw[rangeSize_one];split<;>lia
  show IsRangeIter _ _ (lo+((0:Nat):Int)*1) ((((hi-lo).toNat:Nat):Int)-((0:Nat):Int)) 1;rw[z,B];exact RC _ rfl
 ·have e:b=(s.heap.push {cls:=.type "range",data:=.fields #[.int lo t,.int hi u,.int 1 v]}).objs.size:=by simpa using y
  subst e;exact i.fpOk (aQ _) (i.hok.fresh (aQ _))
def DF(ta:TA):TI:=λ σ H R=>ta σ H λ vs H1=>∃j:Int,vs=[.int j]/\-(2^62)<=j/\j<2^62/\R (mK 0 j.toNat) H1
theorem mu{a:Expr}{ta:TA}{p pos:Pos}(n:Gl X "range")(y:X.mg "range"=none)(z:PA X [a] ta)(B:Rt [a] X.env=[(false,RJ a X.env)]:=by rfl):PI X tg (.Call (.Name "range" p) [a] [] pos) (DF ta):=by
 intro af s σ H R I h;refine Call_ (qa I n y boot_range (SV (aW (z pos af s σ H _ I h) λ us L hz_=>?_) B rfl));obtain⟨vs,H1,D,r1,i⟩:=hz_;obtain⟨j,e,i,G,q⟩:=i;subst e;cases r1 with
 |cons r J=>
  cases J;obtain⟨t,rfl⟩:=r;exact call_range_1 (LK D qR qR i G (by simpa using q))
def rm(wi:TI)(g:TG)(tb:TS):TS:=λ D σ H=>wi σ H λ J H1=>∃W:Nat->Nat->St->Hp->Prop,(∃m,W 0 m σ H1)/\∀i m σ H,W i m σ H->
 (J.stop i H/\D.nx σ H)\/(J.go i H/\∃N:St->Hp->Prop,(∀j H',N j H'->∃y,y<m/\W (i+1) y j H')/\∀x H',J.yld i H x H'->g x σ H' λ n H2=>tb {D with nx:=N,ct:=N,bk:=D.nx} n H2)
def sX(fp:List V0)(h:M1):List (V0×Obj):=fp.filterMap λ b=>(h.get? b).map λ o=>(b,o)
theorem vq{i:List V0}{h:M1}{b:V0}{o:Obj}(j:b∈i)(e:h.get? b=some o):(b,o)∈sX i h:=uz.mpr ⟨b,j,by rw[e];rfl⟩
theorem Oa{i:List V0}{h:M1}{p:V0×Obj}(j:p∈sX i h):p.1∈i/\h.get? p.1=some p.2:=by
 obtain⟨b,n,e⟩:=uz.mp j;cases q:h.get? b with
 |none=>rw[q]at e;cases e
 |some o=>
  rw[q]at e;have y:(b,o)=p:=jv e;subst y;exact⟨n,q⟩
theorem Inv.pinned{af:List (V0×Obj)}{σ:St}{H:Hp}{s:Z1}{i:List V0}(I:Inv X af σ H s)(y:∀b∈i,eI X af H b)(B:∀b∈i,∃o,s.heap.get? b=some o/\∀v,o.data≠.cell v):Inv X (af++sX i s.heap) σ H s:=
 I.pins_of λ p D=>(hU.mp D).elim (λ z=>I.pin p (i_ _ z)) λ z=>by
  obtain⟨j,e⟩:=Oa z;obtain⟨G,J,L,ω⟩:=y p.1 j;obtain⟨o,n,d⟩:=B p.1 j;rw[e]at n;cases n;exact⟨e,G,J,L,d⟩
theorem Inv.unpinned{af pl:List (V0×Obj)}{σ:St}{H:Hp}{s:Z1}(I:Inv X (af++pl) σ H s):Inv X af σ H s:=I.pins_of λ p i=>I.pin p (i_ _ (lM _ i))
theorem nj{iter:Expr}{body:List RH}{wi:TI}{g:TG}{tb:TS}{pos:Pos}(hp:PassesOwn (RD X.prog X.w) X.A X.env X.xe)(hc:X.calm=true)(hi:PI X tg iter wi)(hg:PG X tg g)(hb:fy X body tb)(hs:∀x,SW iter X.env x=pure x:=by intro _;rfl):PS X (.For tg iter body [] pos) (rm wi g tb):=by
 intro af s σ H D I h;refine wpAny_For (aW (hi af s σ H _ I h) λ v s1 h1=>aW h1 λ itv s2 h2=>?_) hs;obtain⟨it,fp,tn,J,H2,e,I2,T,st2,f2,W,⟨m0,w0⟩,turn⟩:=h2;subst e
 --what stays true of the iterator's objects through the loop
 have stat:∀{H':Hp},(∀b∈fp,H' b=none)->∀b∈fp,eI X af H' b:=λ hn b hb=>⟨hn b hb,(f2 b hb).2⟩;refine codeAny_forLoop_any (λ n s'=>∃i σ' H',Inv X af σ' H' s'/\tn i s'.heap/\(∀b∈fp,H' b=none)/\W i n σ' H') ?_ m0 ⟨0,σ,H2,I2,st2,λ b hb=>(f2 b hb).1,w0⟩;rintro n s3 ⟨i,σ3,H3,I3,st3,fr3,w3⟩;rcases turn i n σ3 H3 w3 with⟨stop,qn⟩|⟨go,N,hN,step⟩
 ·refine Sv hp (aW (T.done X rfl rfl rfl hc i af s3 σ3 H3 X.xe I3 (stat fr3) st3 stop) λ r s4 hz_=>?_);obtain⟨hr,I4⟩:=hz_;subst hr;exact Tp ⟨σ3,H3,I4,qn⟩
 ·refine Sv hp (aW (T.item X rfl rfl rfl hc i af s3 σ3 H3 X.xe I3 (stat fr3) st3 go) λ r s4 hz_=>?_);obtain⟨u,hr,h4⟩:=hz_;subst hr;refine Sv hp (aW h4 λ ω s5 hz_=>?_);obtain⟨x,H5,I5,r5,y5,st5,fr5⟩:=hz_;have I5':=I5.pinned (stat fr5) (T.obj _ _ st5);refine Sv hp (aW (hg _ s5 σ3 H5 x u _ I5' r5 (step x H5 y5)) λ ω s6 hz_=>?_);obtain⟨σ6,H6,I6,q6⟩:=hz_;refine Sv hp (aW (hb _ s6 σ6 H6 _ I6 q6) λ f s7 q7=>?_);have again:∀{σ7:St}{H7:Hp},Inv X (af++sX fp s5.heap) σ7 H7 s7->N σ7 H7->∃m,m<n/\∃i σ' H',Inv X af σ' H' s7/\tn i s7.heap/\(∀b∈fp,H' b=none)/\W i m σ' H':=λ{σ7 H7} I7 n7=>by
   obtain⟨m',hm,w7⟩:=hN σ7 H7 n7;refine⟨m',hm,i+1,σ7,H7,I7.unpinned,T.keep _ _ _ st5 λ b hb o e=>(I7.pin (b,o) (i_ _ (i_ _ (vq hb e)))).1,λ b hb=>?_,w7⟩;obtain⟨o,e,d⟩:=T.obj _ _ st5 b hb;exact(I7.pin (b,o) (i_ _ (i_ _ (vq hb e)))).2.1
  cases f with
  |next=>obtain⟨σ7,H7,I7,n7⟩:=q7;exact again I7 n7
  |cont=>obtain⟨σ7,H7,I7,n7⟩:=q7;exact again I7 n7
  |brk=>obtain⟨σ7,H7,I7,q7⟩:=q7;exact⟨σ7,H7,I7.unpinned,q7⟩
  |ret v=>obtain⟨x7,σ7,H7,I7,r7,q7⟩:=q7;exact⟨x7,σ7,H7,I7.unpinned,r7,q7⟩
end
variable{g:TG}{σ:St}{D:bU}{H:Hp}{tb:TS}
theorem L1{K:X0}{a:V0}{xs:List V}(j:Nat->St->Hp->Prop)(I:j 0 σ H)(hl:∀i σ H,i<=xs.length->j i σ H->az K H a xs)(J:∀i x σ H,xs[i]?=some x->j i σ H->g x σ H λ n H2=>tb {D with nx:=j (i+1),ct:=j (i+1),bk:=D.nx} n H2)(hd:∀σ H,j xs.length σ H->D.nx σ H):∃W:Nat->Nat->St->Hp->Prop,(∃m,W 0 m σ H)/\∀i m σ H,W i m σ H->((jT K a).stop i H/\D.nx σ H)\/((jT K a).go i H/\∃N:St->Hp->Prop,(∀z H',N z H'->∃G,G<m/\W (i+1) G z H')/\∀x H',(jT K a).yld i H x H'->g x σ H' λ n H2=>tb {D with nx:=N,ct:=N,bk:=D.nx} n H2):=by
 refine⟨λ i m σ H=>m=xs.length-i/\i<=xs.length/\j i σ H,⟨xs.length,by simp,dj _,I⟩,?_⟩;rintro i m σ H ⟨rfl,hi,p⟩;have q:=hl i σ H hi p;by_cases B:i<xs.length
 ·refine .inr ⟨⟨xs,xs[i],q,by simp[B]⟩,j (i+1),λ z H' L=>⟨xs.length-(i+1),qR,rfl,B,L⟩,λ x H' y=>?_⟩;obtain⟨e,y⟩:=y;subst e;exact J i x σ _ (y xs q) p
 ·have e:i=xs.length:=by lia
  subst e;exact .inl ⟨⟨xs,q,aQ _⟩,hd σ H p⟩
theorem KL{K:X0}{a:V0}{xs:List V}(j:Nat->St->Hp->Prop)(I:j 0 σ H)(hl:∀i σ H,i<=xs.length->j i σ H->ay K H a xs)(J:∀i x σ H,xs[i]?=some x->j i σ H->g x σ H λ n H2=>tb {D with nx:=j (i+1),ct:=j (i+1),bk:=D.nx} n H2)(hd:∀σ H,j xs.length σ H->D.nx σ H):∃W:Nat->Nat->St->Hp->Prop,(∃m,W 0 m σ H)/\∀i m σ H,W i m σ H->((kK K a).stop i H/\D.nx σ H)\/((kK K a).go i H/\∃N:St->Hp->Prop,(∀z H',N z H'->∃G,G<m/\W (i+1) G z H')/\∀x H',(kK K a).yld i H x H'->g x σ H' λ n H2=>tb {D with nx:=N,ct:=N,bk:=D.nx} n H2):=by
 refine⟨λ i m σ H=>m=xs.length-i/\i<=xs.length/\j i σ H,⟨xs.length,by simp,dj _,I⟩,?_⟩;rintro i m σ H ⟨rfl,hi,p⟩;have q:=hl i σ H hi p;by_cases B:i<xs.length
 ·refine .inr ⟨⟨xs,xs[i],q,by simp[B]⟩,j (i+1),λ z H' L=>⟨xs.length-(i+1),qR,rfl,B,L⟩,λ x H' y=>?_⟩;obtain⟨e,y⟩:=y;subst e;exact J i x σ _ (y xs q) p
 ·have e:i=xs.length:=by lia
  subst e;exact .inl ⟨⟨xs,q,aQ _⟩,hd σ H p⟩
theorem Nf{lo:Int}{n:Nat}(j:Nat->St->Hp->Prop)(J:j 0 σ H)(L:∀i σ H,i<n->j i σ H->g (.int (lo+i)) σ H λ z H2=>tb {D with nx:=j (i+1),ct:=j (i+1),bk:=D.nx} z H2)(hd:∀σ H,j n σ H->D.nx σ H):∃W:Nat->Nat->St->Hp->Prop,(∃m,W 0 m σ H)/\∀i m σ H,W i m σ H->((mK lo n).stop i H/\D.nx σ H)\/((mK lo n).go i H/\∃N:St->Hp->Prop,(∀B H',N B H'->∃I,I<m/\W (i+1) I B H')/\∀x H',(mK lo n).yld i H x H'->g x σ H' λ z H2=>tb {D with nx:=N,ct:=N,bk:=D.nx} z H2):=by
 refine⟨λ i m σ H=>m=n-i/\i<=n/\j i σ H,⟨n,by simp,dj _,J⟩,?_⟩;rintro i m σ H ⟨rfl,hi,p⟩;by_cases G:i<n
 ·refine .inr ⟨G,j (i+1),λ B H' M=>⟨n-(i+1),qR,rfl,G,M⟩,λ x H' y=>?_⟩;obtain⟨e,y⟩:=y;subst e y;exact L i σ _ G p
 ·have e:i=n:=by lia
  subst e;exact .inl ⟨aQ _,hd σ H p⟩
end L2
namespace L2
open PySem PySem.Spec PyProof.Rows
abbrev R2:=V->V->Hp->VK->Prop
def d7(X:Cx)(f:Y1->Y1->Sem Y1)(r:R2):Prop:=
 ∀(af:List (V0×Obj))(s:Z1)(σ:St)(H:Hp)(x y:V)(v u:Y1)(Q:VK),Inv X af σ H s->RelV x v->RelV y u->r x y H Q->
  Rz (RD X.prog X.w) X.A (f v u) (EP X af σ Q) X.xe s
def Ag(X:Cx)(f:Y1->Sem Y1)(r:V->Hp->VK->Prop):Prop:=
 ∀(af:List (V0×Obj))(s:Z1)(σ:St)(H:Hp)(x:V)(v:Y1)(Q:VK),Inv X af σ H s->RelV x v->r x H Q->
  Rz (RD X.prog X.w) X.A (f v) (EP X af σ Q) X.xe s
def gN(X:Cx)(f:Y1)(r:List V->Hp->VK->Prop):Prop:=
 ∀(af:List (V0×Obj))(s:Z1)(σ:St)(H:Hp)(xs:List V)(us:List Y1)(Q:VK),Inv X af σ H s->aI xs us->r xs H Q->
  Rz (RD X.prog X.w) X.A (call f us) (EP X af σ Q) X.xe s
def ls(r:R2)(ta tb:TE):TE:=λ σ H Q=>ta σ H λ x H1=>tb σ H1 λ y H2=>r x y H2 Q
def xV(r:V->Hp->VK->Prop)(ta:TE):TE:=λ σ H Q=>ta σ H λ x H1=>r x H1 Q
def rI(C:Int->Int->Prop)(g:Int->Int->V):R2:=λ x y H Q=>∃i j,x=.int i/\y=.int j/\C i j/\Q (g i j) H
def kL(g:Int->Int->V):R2:=λ x y H Q=>∃i j,x=.int i/\y=.int j/\Q (g i j) H
def rU(g:Int->V):V->Hp->VK->Prop:=λ x H Q=>∃i,x=.int i/\Q (g i) H
section
variable{X:Cx}{a b c:Expr}{ta tb tc:TE}{pos:Pos}
theorem oI(n:PE X a ta)(z:PE X b tb){af:List (V0×Obj)}{s:Z1}{σ:St}{H:Hp}{R:V->V->Hp->Prop}(I:Inv X af σ H s)(h:ta σ H λ x H1=>tb σ H1 λ y H2=>R x y H2){Q:Y1->Z1->Prop}{f:Y1->Y1->Sem Y1}(B:∀v u s2 x y H2,Inv X af σ H2 s2->RelV x v->RelV y u->R x y H2->Rz (RD X.prog X.w) X.A (f v u) Q X.xe s2):Rz (RD X.prog X.w) X.A (RJ a X.env) (λ v i=>Rz (RD X.prog X.w) X.A (RJ b X.env) (λ u j=>Rz (RD X.prog X.w) X.A (f v u) Q X.xe j) X.xe i) X.xe s:=by
 refine aW (n af s σ H _ I h) λ v D hz_=>?_;obtain⟨x,H1,G,r1,J⟩:=hz_;refine aW (z af D σ H1 _ G J) λ u s2 hz_=>?_;obtain⟨y,H2,L,M,N⟩:=hz_;exact B v u s2 x y H2 L r1 M N
theorem aC{op:Operator}{r:R2}(i:d7 X (Sx op) r)(j:PE X a ta)(n:PE X b tb):PE X (.BinOp a op b pos) (ls r ta tb):=by
 intro af s σ H Q I h;exact wpAny_BinOp (oI j n I h λ v u z x y H2 B D G q=>i af z σ H2 x y v u Q B D G q)
theorem Ie{op:UnaryOp}{r:V->Hp->VK->Prop}(i:Ag X (unaryOp op) r)(j:PE X a ta):PE X (.UnaryOp op a pos) (xV r ta):=by
 intro af s σ H Q I h;refine UnaryOp_ (aW (j af s σ H _ I h) λ v n hz_=>?_);obtain⟨x,H1,y,r1,z⟩:=hz_;exact i af n σ H1 x v Q y r1 z
theorem uD{f:Y1->Y1->Sem Y1}{C:Int->Int->Prop}{g:Int->Int->Int}(n:∀(i j:Int)(t u:Tok)(s:Z1)(Q:Y1->Z1->Prop)(E:Y1->Z1->Prop),C i j->Q (.int (g i j) s.toks) {s with toks:=s.toks+1}->Rz (RD X.prog X.w) X.A (f (.int i t) (.int j u)) Q E s):d7 X f (rI C λ i j=>.int (g i j)):=by
 intro af s σ H x y v u Q I z B h;obtain⟨i,j,rfl,rfl,D,q⟩:=h;obtain⟨t,rfl⟩:=z;obtain⟨G,rfl⟩:=B;exact n i j t G s _ _ D ⟨.int (g i j),H,I.tok _,⟨_,rfl⟩,q⟩
theorem oF{f:Y1->Y1->Sem Y1}{g:Int->Int->Int}(n:∀(i j:Int)(t u:Tok)(s:Z1)(Q:Y1->Z1->Prop)(E:Y1->Z1->Prop),Q (.int (g i j) s.toks) {s with toks:=s.toks+1}->Rz (RD X.prog X.w) X.A (f (.int i t) (.int j u)) Q E s):d7 X f (kL λ i j=>.int (g i j)):=by
 intro af s σ H x y v u Q I z B h;obtain⟨i,j,rfl,rfl,q⟩:=h;obtain⟨t,rfl⟩:=z;obtain⟨D,rfl⟩:=B;exact n i j t D s _ _ ⟨.int (g i j),H,I.tok _,⟨_,rfl⟩,q⟩
theorem lO{f:Y1->Y1->Sem Y1}{g:Int->Int->Bool}(n:∀(i j:Int)(t u:Tok)(s:Z1)(Q:Y1->Z1->Prop)(E:Y1->Z1->Prop),Q (.bool (g i j)) s->Rz (RD X.prog X.w) X.A (f (.int i t) (.int j u)) Q E s):d7 X f (kL λ i j=>.bl (g i j)):=by
 intro af s σ H x y v u Q I z B h;obtain⟨i,j,rfl,rfl,q⟩:=h;obtain⟨t,rfl⟩:=z;obtain⟨D,rfl⟩:=B;exact n i j t D s _ _ ⟨.bl (g i j),H,I,rfl,q⟩
def AZ(i j:Int):Prop:=0<j/\j<1073741824
def Oq(i j:Int):Prop:=0<=j/\j<=1000000/\i.natAbs<2^64
def pI(i j:Int):Prop:=(-(2^64)<i/\i<2^64)\/(-(2^64)<j/\j<2^64)
theorem pI.ok{i j:Int}(h:pI i j):IntMulOk i j:=by
 rcases h with⟨h1,h2⟩|⟨h1,h2⟩
 ·exact .of_left (intBits_le_64 h1 h2)
 ·exact .of_right (intBits_le_64 h1 h2)
theorem cK:d7 X (Sx .Add) (kL λ i j=>.int (i+j)):=oF λ ω ω ω ω ω ω ω q=>add_int q
theorem EH:d7 X (Sx .Sub) (kL λ i j=>.int (i-j)):=oF λ ω ω ω ω ω ω ω q=>sub_int q
theorem me:d7 X (Sx .Mult) (rI pI λ i j=>.int (i*j)):=uD λ ω ω ω ω ω ω ω n q=>mul_int q n.ok
theorem d9:d7 X (Sx .FloorDiv) (rI AZ λ i j=>.int (i/j)):=uD λ i j ω ω ω ω ω n q=>by
 have h1:(0:Int)<j:=n.1;have h2:j<1073741824:=n.2;exact floordiv_int qR (by rw[Int.fdiv_eq_ediv_of_nonneg i qR];exact q) (.inl (PyProof.noPylong_small qR))
theorem cB:d7 X (Sx .Mod) (rI (λ ω j=>0<j) λ i j=>.int (i%j)):=uD λ i j ω ω ω ω ω n q=>by
 have h1:(0:Int)<j:=n;exact mod_int' qR (by rw[Int.fmod_eq_emod_of_nonneg i qR];exact q)
theorem FT:d7 X (inplaceOp .Add) (kL λ i j=>.int (i+j)):=oF λ ω ω ω ω ω ω ω q=>iadd_int q
theorem G5{f:Y1->Sem Y1}{g:Int->Int}(j:∀(i:Int)(t:Tok)(s:Z1)(Q:Y1->Z1->Prop)(E:Y1->Z1->Prop),Q (.int (g i) s.toks) {s with toks:=s.toks+1}->Rz (RD X.prog X.w) X.A (f (.int i t)) Q E s):Ag X f (rU λ i=>.int (g i)):=by
 intro af s σ H x v Q I n h;obtain⟨i,rfl,q⟩:=h;obtain⟨t,rfl⟩:=n;exact j i t s _ _ ⟨.int (g i),H,I.tok _,⟨_,rfl⟩,q⟩
theorem JY:Ag X (unaryOp .USub) (rU λ i=>.int (-i)):=G5 λ ω ω ω ω ω q=>neg_int q
end
def jq:V->V->Bool
 | .non,.non=>true| .non,.int _=>true| .int _,.non=>true| .non,.bl _=>true| .bl _,.non=>true| .non,.str _=>true| .str _,.non=>true
 | .int _,.int _=>true| .bl _,.bl _=>true| .str _,.str _=>true| .byt _,.byt _=>true
 | .int _,.str _=>true| .str _,.int _=>true| .bl _,.str _=>true| .str _,.bl _=>true
 |_,_=>false
def Bb:R2:=λ x y H Q=>jq x y=true/\Q (.bl (decide (x=y))) H
def A_:R2:=λ x y H Q=>jq x y=true/\Q (.bl (!decide (x=y))) H
theorem FF{i j:Int}:decide (V.int i=V.int j)=(i==j):=by
 rw[pT];simp
theorem EU{i j:Bool}:decide (V.bl i=V.bl j)=(i==j):=by
 rw[pT];simp
theorem FS{i j:U1}:decide (V.str i=V.str j)=(i==j):=by
 rw[pT];simp
theorem FZ{i j:Array UInt8}:decide (V.byt i=V.byt j)=(i.toList==j.toList):=by
 rw[pT];cases i;cases j;simp
section
variable{X:Cx}{a b c:Expr}{ta tb tc:TE}{pos:Pos}
theorem eB{af:List (V0×Obj)}{σ:St}{H:Hp}{s:Z1}{Q:VK}{k k':Bool}(I:Inv X af σ H s)(q:Q (.bl k) H)(e:k=k'):EP X af σ Q (.bool k') s:=by
 subst e;exact⟨.bl k,H,I,rfl,q⟩
theorem dy:d7 X (R4 .Eq) Bb:=by
 intro af s σ H x y v u Q I D n h;obtain⟨B,q⟩:=h;cases x with
 |non=>
  cases D;cases y with
  |non=>cases n;exact PySem.EqNone.eq_none_none (eB I q (by simp))
  |bl j=>cases n;exact PySem.EqNone.eq_none_bool (eB I q (by simp))
  |int j=>obtain⟨z,rfl⟩:=n;exact PySem.EqNone.eq_none_int (eB I q (by simp))
  |str j=>obtain⟨z,rfl⟩:=n;exact PySem.EqNone.eq_none_str (eB I q (by simp))
  |_=>exact UM (show false=true from B) dO
 |bl i=>
  cases D;cases y with
  |non=>cases n;exact PySem.EqNone.eq_bool_none (eB I q (by simp))
  |bl j=>cases n;exact eq_bool (eB I q EU)
  |str j=>obtain⟨z,rfl⟩:=n;exact PySem.EqMixed.eq_bool_str (eB I q (by simp))
  |_=>exact UM (show false=true from B) dO
 |int i=>
  obtain⟨t,rfl⟩:=D;cases y with
  |non=>cases n;exact PySem.EqNone.eq_int_none (eB I q (by simp))
  |int j=>obtain⟨z,rfl⟩:=n;exact eq_int (eB I q FF)
  |str j=>obtain⟨z,rfl⟩:=n;exact PySem.EqMixed.eq_int_str (eB I q (by simp))
  |_=>exact UM (show false=true from B) dO
 |str i=>
  obtain⟨t,rfl⟩:=D;cases y with
  |non=>cases n;exact PySem.EqNone.eq_str_none (eB I q (by simp))
  |bl j=>cases n;exact PySem.EqMixed.eq_str_bool (eB I q (by simp))
  |int j=>obtain⟨z,rfl⟩:=n;exact PySem.EqMixed.eq_str_int (eB I q (by simp))
  |str j=>obtain⟨z,rfl⟩:=n;exact eq_str (eB I q FS)
  |_=>exact UM (show false=true from B) dO
 |byt i=>
  obtain⟨t,rfl⟩:=D;cases y with
  |byt j=>obtain⟨z,rfl⟩:=n;exact W.eq_bytes (eB I q FZ)
  |_=>exact UM (show false=true from B) dO
 |_=>cases y<;>exact UM (show false=true from B) dO
theorem As:d7 X (R4 .NotEq) A_:=by
 intro af s σ H x y v u Q I D n h;obtain⟨B,q⟩:=h;cases x with
 |non=>
  cases D;cases y with
  |non=>cases n;exact PySem.EqNone.ne_none_none (eB I q (by simp))
  |bl j=>cases n;exact PySem.EqNone.ne_none_bool (eB I q (by simp))
  |int j=>obtain⟨z,rfl⟩:=n;exact PySem.EqNone.ne_none_int (eB I q (by simp))
  |str j=>obtain⟨z,rfl⟩:=n;exact PySem.EqNone.ne_none_str (eB I q (by simp))
  |_=>exact UM (show false=true from B) dO
 |bl i=>
  cases D;cases y with
  |non=>cases n;exact PySem.EqNone.ne_bool_none (eB I q (by simp))
  |bl j=>cases n;exact ne_bool (eB I q (congrArg not EU))
  |str j=>obtain⟨z,rfl⟩:=n;exact PySem.EqMixed.ne_bool_str (eB I q (by simp))
  |_=>exact UM (show false=true from B) dO
 |int i=>
  obtain⟨t,rfl⟩:=D;cases y with
  |non=>cases n;exact PySem.EqNone.ne_int_none (eB I q (by simp))
  |int j=>obtain⟨z,rfl⟩:=n;exact ne_int (eB I q (congrArg not FF))
  |str j=>obtain⟨z,rfl⟩:=n;exact PySem.EqMixed.ne_int_str (eB I q (by simp))
  |_=>exact UM (show false=true from B) dO
 |str i=>
  obtain⟨t,rfl⟩:=D;cases y with
  |non=>cases n;exact PySem.EqNone.ne_str_none (eB I q (by simp))
  |bl j=>cases n;exact PySem.EqMixed.ne_str_bool (eB I q (by simp))
  |int j=>obtain⟨z,rfl⟩:=n;exact PySem.EqMixed.ne_str_int (eB I q (by simp))
  |str j=>obtain⟨z,rfl⟩:=n;exact ne_str (eB I q (congrArg not FS))
  |_=>exact UM (show false=true from B) dO
 |byt i=>
  obtain⟨t,rfl⟩:=D;cases y with
  |byt j=>obtain⟨z,rfl⟩:=n;exact W.ne_bytes (eB I q (congrArg not FZ))
  |_=>exact UM (show false=true from B) dO
 |_=>cases y<;>exact UM (show false=true from B) dO
theorem nh:d7 X (R4 .Lt) (kL λ i j=>.bl (decide (i<j))):=lO λ ω ω ω ω ω ω ω q=>lt_int q
theorem xm:d7 X (R4 .LtE) (kL λ i j=>.bl (decide (i<=j))):=lO λ ω ω ω ω ω ω ω q=>le_int q
theorem iP:d7 X (R4 .Gt) (kL λ i j=>.bl (decide (j<i))):=lO λ ω ω ω ω ω ω ω q=>gt_int q
theorem Ij:d7 X (R4 .GtE) (kL λ i j=>.bl (decide (j<=i))):=lO λ ω ω ω ω ω ω ω q=>ge_int q
theorem mq:d7 X (R4 .In) (λ x y H Q=>∃i j,x=.str i/\y=.str j/\Q (.bl (!(Builtin.Str.occurrences j i 0 j.length 1).isEmpty)) H):=by
 intro af s σ H x y v u Q I n z h;obtain⟨i,j,rfl,rfl,q⟩:=h;obtain⟨t,rfl⟩:=n;obtain⟨B,rfl⟩:=z;exact in_str (eB I q rfl)
theorem Lv:d7 X (R4 .IsNot) (λ x y H Q=>y=.non/\Q (.bl (!decide (x=.non))) H):=by
 intro af s σ H x y v u Q I i j h;obtain ⟨rfl,q⟩:=h;cases j;refine isnot_none_gen (eB I q ?_);cases x <;> first
  |(cases i;rfl)
  |(obtain⟨t,rfl⟩:=i;rfl)
theorem iu(b:Expr){op:CmpOp}(h:op≠.In:=by decide)(h2:op≠.NotIn:=by decide):TV op b=false:=by
 have i:(op==CmpOp.In)=false:=by cases op<;>first|rfl|exact UM rfl h
 have j:(op==CmpOp.NotIn)=false:=by cases op<;>first|rfl|exact UM rfl h2
 cases b<;>simp[TV,i,j]
theorem fC{op:CmpOp}{r:R2}(i:d7 X (R4 op) r)(j:PE X a ta)(n:PE X b tb)(z:TV op b=false):PE X (.Compare a [op] [b] pos) (ls r ta tb):=by
 intro af s σ H Q I h;exact wpAny_Compare1 (oI j n I h λ v u B x y H2 D G J q=>i af B σ H2 x y v u Q D G J q) z
def xo(t:TE):TT:=λ σ H Q=>t σ H λ x H'=>∃k,x=.bl k/\Q k H'
theorem mi{op:CmpOp}{r:R2}(i:d7 X (R4 op) r)(j:PE X a ta)(n:PE X b tb)(B:TV op b=false):PT X (.Compare a [op] [b] pos) (xo (ls r ta tb)):=by
 intro af s σ H Q I h;refine wpAny_isTrue_Compare1 (aW (j af s σ H _ I h) λ v D ⟨x,H1,G,r1,J⟩=>aW (n af D σ H1 _ G J) λ u L ⟨y,H2,M,N,O⟩=>aW (i af L σ H2 x y v u _ M r1 N O) λ c Y ⟨z,R,I3,S,k,e,U⟩=>?_) B;subst e;cases S;exact RO ⟨R,I3,U⟩
def JH(r r':R2)(ta tb tc:TE):TE:=λ σ H Q=>ta σ H λ x H1=>tb σ H1 λ y H2=>r x y H2 λ z i=>∃k,z=.bl k/\
 (if k=true then tc σ i λ j n=>r' y j n Q else Q (.bl false) i)
theorem GN{op i:CmpOp}{r n:R2}(J:d7 X (R4 op) r)(j:d7 X (R4 i) n)(L:PE X a ta)(M:PE X b tb)(N:PE X c tc)(O:lastMarks [op,i] [b,c]=false:=by with_unfolding_all rfl):PT X (.Compare a [op,i] [b,c] pos) (xo (JH r n ta tb tc)):=by
 intro af s σ H Q I h;refine isTrue_chain (aW (L af s σ H _ I h) λ v R ⟨x,H1,S,r1,U⟩=>test_link (aW (M af R σ H1 _ S U) λ u Y ⟨y,H2,Z,B,q2⟩=>aW (J af Y σ H2 x y v u _ Z r1 B q2) λ d s3 ⟨z,D,I3,r3,k,e,G⟩=>?_)) O;subst e;cases r3;refine RO ?_;cases k with
 |false=>
  obtain⟨k',e',q'⟩:=G;cases e';exact ite_ff ⟨D,I3,q'⟩
 |true=>
  refine ite_tt (test_last (aW (N af s3 σ D _ I3 G) λ w' s4 hz_=>?_));obtain⟨z',H4,I4,r4,q4⟩:=hz_;refine aW (j af s4 σ H4 y z' u w' _ I4 B r4 q4) λ d' s5 hz_=>?_;obtain⟨z2,H5,I5,r5,k2,e2,q5⟩:=hz_;subst e2;cases r5;exact RO ⟨H5,I5,q5⟩
theorem pW:(Ru:Nat)<2^63:=by rw[RB];decide
theorem cZ:d7 X (Sx .Add) (λ x y H Q=>∃i j,x=.str i/\y=.str j/\i.length+j.length<=Ru/\Q (.str (i++j)) H):=by
 intro af s σ H x y v u Q I n z h;obtain⟨i,j,rfl,rfl,B,q⟩:=h;obtain⟨t,rfl⟩:=n;obtain⟨D,rfl⟩:=z;exact add_str (λ D tk=>⟨.str (i++j),H,I.tok _,⟨_,rfl⟩,q⟩) B
theorem kj{x:V}{us:List Y1}(r:aI [x] us):∃u,us=[u]/\RelV x u:=by
 cases r with
 |cons r1 i=>cases i;exact⟨_,rfl,r1⟩
theorem Ih{x y:V}{us:List Y1}(r:aI [x,y] us):∃u w',us=[u,w']/\RelV x u/\RelV y w':=by
 cases r with
 |cons r1 i=>
  cases i with
  |cons j n=>cases n;exact⟨_,_,rfl,r1,j⟩
theorem zQ(y:X.calm=true):gN X (.builtin "min") (λ xs H Q=>∃i j,xs=[.int i,.int j]/\Q (.int (if j<i then j else i)) H):=by
 intro af s σ H xs us Q I r h;obtain⟨i,j,rfl,q⟩:=h;obtain⟨u,z,rfl,⟨t,rfl⟩,⟨B,rfl⟩⟩:=Ih r;refine min_two_ints (I.ok.hd y) λ h' tk k=>⟨_,H,I.kept k,?_,q⟩;by_cases n:j<i
 ·rw[UL n,UL n];exact⟨_,rfl⟩
 ·rw[UK n,UK n];exact⟨_,rfl⟩
theorem o_:gN X (.type "int") (λ xs H Q=>(∃i,xs=[.int i]/\Q (.int i) H)\/∃k,xs=[.bl k]/\Q (.int (if k then 1 else 0)) H):=by
 intro af s σ H xs us Q I r h;rcases h with⟨i,rfl,q⟩|⟨k,rfl,q⟩
 ·obtain⟨u,rfl,t,rfl⟩:=kj r;exact call_int_int ⟨.int i,H,I,⟨_,rfl⟩,q⟩
 ·obtain⟨u,rfl,r1⟩:=kj r;cases r1;exact call_int_bool ⟨.int (if k then 1 else 0),H,I.tok _,⟨_,rfl⟩,q⟩
end
end L2
namespace L2
open PySem PySem.Spec PyProof.Rows
structure iS(h:M1)(x dx C:V0)(mA:U1->Option Y1):Prop where
 obj:h.get? x=some (TK C dx)
 ns:h.Ns1 dx mA
 ne:dx≠x
theorem BZ{h:M1}{dx:V0}{mA:U1->Option Y1}(n:h.Ns1 dx mA):∃od,h.get? dx=some od/\∀name,W.lookIn name od=some (mA name):=by
 obtain⟨o,es,J,j,hd,B,ω,D⟩:=n;refine⟨o,j,λ name=>?_⟩;have e:=D name;unfold nsFind findBy at e;rw[<-Array.find?_toList]at e;unfold W.lookIn;rw[hd];dsimp only;split
 ·rename_i y q;rw[q]at e;exact congrArg some e
 ·rename_i q;rw[q]at e;have a:es.toList.any (·.refKey)=false:=by
   rw[List.any_eq_false];intro y G;obtain⟨z,t,i⟩:=B y (yw.mp G);simp[DictEntry.refKey,i]
  have I:¬es.toList.any (·.refKey)=true:=by rw[a];exact dO
  rw[UK I];exact congrArg some e
theorem iS.look{h:M1}{x dx C:V0}{mA:U1->Option Y1}(I:iS h x dx C mA):∃od,W.InstAt h x (TK C dx) C (some od)/\∀name,W.lookIn name od=some (mA name):=
 let⟨od,i,hl⟩:=BZ I.ns
 ⟨od,⟨I.obj,rfl,rfl,i⟩,hl⟩
section
variable{prog:Program}{w:V1}{A:N1}{E:Y1->Z1->Prop}{s:Z1}{K:X0}{x dx C f:V0}{mA:U1->Option Y1}{name:U1}{v:Y1}
theorem KI{i:Bool}{Q:Y1->Z1->Prop}(X:K.In s.heap)(I:iS s.heap x dx C mA)(n:Ut K C name=true)(y:TY K C=true)(z:RV K (.ref C) name=some none)(B:mA name=some v)(j:W.handedIn v=true)(h:Q v {s with toks:=s.toks+1}):Rz (RD prog w) A (getAttr (.ref x) name i) Q E s:=by
 obtain⟨D,J,hl⟩:=I.look;exact W.get_value X J (W.plainGet_of n).1 (W.findObj_own y z rfl (by rw[hl,B])) j h
theorem MB{pl:Sem Bool}{Q:Y1×List Y1->Z1->Prop}(X:K.In s.heap)(I:iS s.heap x dx C mA)(i:Ut K C name=true)(j:RV K (.ref C) name=some (some (.ref f)))(n:W.isFn K (.ref f)=true)(y:mA name=none)(h:Q (.ref f,[.ref x]) s):Rz (RD prog w) A (SF (.ref x) name pl) Q E s:=by
 obtain⟨z,J,hl⟩:=I.look;exact W.method_fn X J (W.plainGet_of i).1 (W.plainGet_of i).2 j (beq_iff_eq.mp n) (by show(W.lookIn name z).map (·.isSome)=some false;rw[hl,y];rfl) h
theorem Lc{G:List U1}{Q:Unit->Z1->Prop}(X:K.In s.heap)(I:iS s.heap x dx C mA)(L:RV K (.ref C) "__setattr__"=some (some (.builtin "object.__setattr__")))(M:W.plainOver K C=true)(N:W.takerIn K C name=some none)(O:TY K C=true)(R:PySem.Within mA G)(hsz:G.length<=Ru)(h:∀h',iS h' x dx C (λ y=>if y=name then some v else mA y)->Us dx s.heap h'->Q () {s with heap:=h',toks:=s.toks+2}):Rz (RD prog w) A (setAttr (.ref x) name v) Q E s:=by
 obtain⟨od,J,hl⟩:=I.look;refine W.set_plain X J L (W.osa_open (s:={s with toks:=s.toks+1}) (r:=none) X J M N λ b=>?_);obtain⟨cd,S,n⟩:=W.any_some O;have U:s.heap.get? x=some ⟨.ref C,some dx,.plain,#[]⟩:=I.obj;refine Ro (Rv (Ro (Ro (wpAny_loadPart U (Ro (W.Looks.here (s:={s with toks:=s.toks+1}) (W.looks_clsIn X S) ?_))))));rw[n];refine Rv (a:=some dx) (Ro (Rv (Ro ?_)));refine wpAny_nsSet1 (s:={s with toks:=s.toks+1}) I.ns λ h' i j=>?_;obtain⟨oD,Y,Z,z,B,D⟩:=i.count (PySem.Within.cons name v R);refine Ro (wpAny_lookBehind z (by rw[B];exact pastItsLine_dict (bR D (by rw[cj];lia))) ?_);exact Rv (h _ ⟨(j.2 _ (Ne.symm I.ne)).trans I.obj,i,I.ne⟩ j)
theorem LB{R:Result->Z1->Prop}{vs:List Y1}{kw:List (U1×Y1)}(X:K.In s.heap)(i:W.makesIn K C=true)(hi:RV K (.ref C) "__init__"=some (some (.ref f)))(j:W.typeIn K (.ref f)=some (.type "function"))(h:Tq (RD prog w) (A.under (.builtin "type.__call__" ⟨.ref C::vs,kw⟩)) (.call (.ref f) ⟨.ref (s.heap.objs.size+1)::vs,kw⟩) (W.InitBack (s.heap.objs.size+1) R) {s with heap:=(s.heap.push SI).push (TK C s.heap.objs.size)}):Tq (RD prog w) A (.call (.ref C) ⟨vs,kw⟩) R s:=by
 obtain⟨n,g,d,t,y⟩:=s;exact W.make_core (W.makes_of X i) (W.looks_findIn X hi) (λ self=>W.bind_fn X self j) (.inl rfl) h
end
def aq(f:U1)(v:V):List (U1×V)->List (U1×V)
 |[]=>[(f,v)]
 |(g,x)::r=>if g=f then(g,v)::r else(g,x)::aq f v r
theorem C2(f g:U1)(v:V):∀fs:List (U1×V),(aq f v fs).lookup g=if g=f then some v else fs.lookup g
 |[]=>by
  show i9 g [(f,v)]=_;by_cases h:g=f
  ·have i:(g==f)=true:=beq_iff_eq.mpr h;simp only[i9,i,UL h]
  ·have i:(g==f)=false:=beq_eq_false_iff_ne.mpr h;simp only[i9,i,UK h]
 |(k,x)::r=>by
  have n:=C2 f g v r;rw[show aq f v ((k,x)::r)=(if k=f then(k,v)::r else(k,x)::aq f v r)from rfl];by_cases j:k=f
  ·rw[UL j];by_cases h:g=k
   ·have i:(g==k)=true:=beq_iff_eq.mpr h;simp only[i9,i,UL (h.trans j)]
   ·have i:(g==k)=false:=beq_eq_false_iff_ne.mpr h;simp only[i9,i,UK (λ e:g=f=>h (e.trans j.symm))]
  ·rw[UK j];by_cases h:g=k
   ·have i:(g==k)=true:=beq_iff_eq.mpr h;simp only[i9,i,UK (λ e:g=f=>j (h.symm.trans e))]
   ·have i:(g==k)=false:=beq_eq_false_iff_ne.mpr h;simp only[i9,i];exact n
theorem zT(f:U1)(v:V):∀fs:List (U1×V),f∈(aq f v fs).map (·.1)/\∀g,g∈fs.map (·.1)->g∈(aq f v fs).map (·.1)
 |[]=>⟨by simp[aq],λ g h=>by simp at h⟩
 |(k,x)::r=>by
  obtain⟨j,n⟩:=zT f v r;rw[show aq f v ((k,x)::r)=(if k=f then(k,v)::r else(k,x)::aq f v r)from rfl];by_cases i:k=f
  ·rw[UL i];subst i;exact⟨by simp,λ g h=>by simpa using h⟩
  ·rw[UK i];refine⟨?_,λ g h=>?_⟩
   ·rw[dJ];exact cV _ j
   ·rw[dJ]at h ⊢;rcases de.mp h with e|e
    ·exact de.mpr (.inl e)
    ·exact cV _ (n g e)
theorem Dx(f:U1)(v:V):∀fs:List (U1×V),(aq f v fs).length<=fs.length+1
 |[]=>by simp[aq]
 |(k,x)::r=>by
  have j:=Dx f v r;rw[show aq f v ((k,x)::r)=(if k=f then(k,v)::r else(k,x)::aq f v r)from rfl];by_cases i:k=f
  ·rw[UL i,cj,cj];lia
  ·rw[UK i,cj,cj];lia
theorem dC.some_of{v:V}{o:Option Y1}(r:dC (some v) o):∃u,o=some u/\RelV v u:=by
 cases o with
 |none=>exact(show False from r).elim
 |some u=>exact⟨u,rfl,r⟩
theorem dC.none_of{o:Option Y1}(r:dC none o):o=none:=by
 cases o with
 |none=>rfl
 |some u=>exact(show False from r).elim
theorem CD{v:V}{u:Y1}(r:RelV v u):W.handedIn u=true:=by
 cases v with
 |non=>cases(show u=RW from r);rfl
 |bl b=>cases(show u=Tr b from r);rfl
 |int i=>obtain⟨t,e⟩:=(show ∃t,u=Su i t from r);cases e;rfl
 |str x=>obtain⟨t,e⟩:=(show ∃t,u=Uk x t from r);cases e;rfl
 |byt b=>obtain⟨t,e⟩:=(show ∃t,u=Value.bytes b t from r);cases e;rfl
 |flt b=>obtain⟨t,e⟩:=(show ∃t,u=Value.float b t from r);cases e;rfl
 |ref a=>cases(show u=RA a from r);rfl
 |ty n=>cases(show u=Value.type n from r);rfl
section
variable{P:Program}{w:V1}{H H':Hp}{h h':M1}{a C dx:V0}{fs fs':List (U1×V)}
theorem uS(i:dI P w H h)(e:H a=some (.ins C dx fs)):∃mA,iS h a dx C mA/\(∀f,dC (fs.lookup f) (mA f))/\PySem.Within mA (fs.map (·.1))/\fs.length<=1000/\H dx=some (.own a):=by
 obtain⟨d,z,j,y,mA,n,r,q⟩:=(show bh P w H h a (.ins C dx fs)from i a _ e);exact⟨mA,⟨y,n,j⟩,r,q,z,d⟩
end
structure gS(K:X0)(C:V0):Prop where
 pg:Ut K C So=true
 hd:TY K C=true
 po:W.plainOver K C=true
 sa:RV K (.ref C) "__setattr__"=some (some (.builtin "object.__setattr__"))
theorem gS.get{K:X0}{C:V0}(c:gS K C)(f:U1):Ut K C f=true:=c.pg
def aY(K:X0)(C:V0)(f:U1):Prop:=RV K (.ref C) f=some none
theorem aY.taker{K:X0}{C:V0}{f:U1}(n:aY K C f):W.takerIn K C f=some none:=by
 unfold W.takerIn;rw[show RV K (.ref C) f=some none from n];rfl
structure iU(K:X0)(C:V0)(m:U1)(f:V0):Prop where
 at_:RV K (.ref C) m=some (some (.ref f))
 fn:W.isFn K (.ref f)=true
 kp:RM K (.ref f)=true
section
variable{X:Cx}{af:List (V0×Obj)}{σ:St}{H:Hp}{s:Z1}{a C dx:V0}{fs:List (U1×V)}{f:U1}{v:V}{A:N1}{E:Y1->Z1->Prop}
theorem C4{b:Bool}{Q:Y1->Z1->Prop}(I:Inv X af σ H s)(e:H a=some (.ins C dx fs))(c:gS X.K C)(n:aY X.K C f)(l:fs.lookup f=some v)(h:∀u s',Inv X af σ H s'->RelV v u->Q u s'):Rz (RD X.prog X.w) A (getAttr (.ref a) f b) Q E s:=by
 obtain⟨mA,O,r,ω,ω,ω⟩:=uS I.hok e;obtain⟨u,j,i⟩:=dC.some_of (v:=v) (o:=mA f) (by rw[<-l];exact r f);exact KI I.kIn O (c.get f) c.hd n j (CD i) (h u _ (I.tok _) i)
theorem zU{m:U1}{g:V0}{pl:Sem Bool}{Q:Y1×List Y1->Z1->Prop}(I:Inv X af σ H s)(e:H a=some (.ins C dx fs))(c:gS X.K C)(k:iU X.K C m g)(l:fs.lookup m=none)(h:Q (.ref g,[.ref a]) s):Rz (RD X.prog X.w) A (SF (.ref a) m pl) Q E s:=by
 obtain⟨mA,O,r,ω,ω,ω⟩:=uS I.hok e;have i:mA m=none:=dC.none_of (by rw[<-l];exact r m);exact MB I.kIn O (c.get m) k.at_ k.fn i h
theorem CY{y:V}{u:Y1}{Q:Unit->Z1->Prop}(I:Inv X af σ H s)(e:H a=some (.ins C dx fs))(c:gS X.K C)(n:aY X.K C f)(hl:fs.length<1000)(D:RelV y u)(h:∀s',Inv X af σ (ar H a (.ins C dx (aq f y fs))) s'->Q () s'):Rz (RD X.prog X.w) A (setAttr (.ref a) f u) Q E s:=by
 obtain⟨mA,O,r,j,ω,B⟩:=uS I.hok e;have G:(fs.map (·.1)).length<=Ru:=by rw[bB,RB];lia
 refine Lc I.kIn O c.sa c.po n.taker c.hd j G λ h' i J=>h _ ?_;have hd:∃o,h'.get? dx=some o:=let⟨o,_,_,L,_⟩:=i.ns;⟨o,L⟩;refine I.write (x:=a) (e:=dx) (by rw[e];exact True.intro) (.inr B) (λ b q M z=>(J.2 b M).trans z) hd ?_;refine⟨by rw[aU O.ne];exact B,?_,O.ne,i.obj,_,i.ns,λ g=>?_,λ g N=>?_⟩
 ·have:=Dx f y fs;lia
 ·show dC ((aq f y fs).lookup g) (if g=f then some u else mA g);rw[C2];by_cases q:g=f
  ·rw[UL q,UL q];exact D
  ·rw[UK q,UK q];exact r g
 ·by_cases q:g=f
  ·rw[q];exact(zT f y fs).1
  ·refine(zT f y fs).2 g (j g λ z=>N ?_);show(if g=f then some u else mA g)=none;rw[UK q];exact z
theorem Inv.made(I:Inv X af σ H s):Inv X af σ (ar (ar H s.heap.objs.size (.own (s.heap.objs.size+1))) (s.heap.objs.size+1) (.ins C s.heap.objs.size [])) {s with heap:=(s.heap.push SI).push (TK C s.heap.objs.size)}:=by
 have i:(s.heap.push SI).get? s.heap.objs.size=some SI:=RC s.heap rfl;have n:((s.heap.push SI).push (TK C s.heap.objs.size)).get? (s.heap.objs.size+1)=some (TK C s.heap.objs.size):=by
  have:=RC (s.heap.push SI) (o:=TK C s.heap.objs.size) rfl
  rwa [SZ]at this
 have z:(s.heap.push SI).Ns s.heap.objs.size (λ ω=>none):=⟨SI,#[],_,i,rfl,(λ e B=>UM B (by simp)),λ ω=>rfl⟩;have D:=I.laid (a:=s.heap.objs.size) (o:=.own (s.heap.objs.size+1)) (h':=s.heap.push SI) (t':=s.toks) (λ b u q=>Rp _ q) (aQ _) ⟨_,i⟩;refine D.laid (a:=s.heap.objs.size+1) (o:=.ins C s.heap.objs.size []) (t':=s.toks) (λ b u q=>Rp _ q) (pS (SZ _ _)) ?_;have j:s.heap.objs.size≠s.heap.objs.size+1:=dY (iH _);refine⟨by rw[aU j,bu],dj _,j,n,λ ω=>none,(Heap.Ns1.of_empty z).at λ o q=>Rp _ q,λ ω=>True.intro,λ y G=>UM rfl G⟩
theorem FO{prog:Program}{w:V1}{env:Env}{e:Expr}{f:U1}{pos:Pos}{s:Z1}{Q:Y1->Z1->Prop}(j:SQ e f env (RJ e env)=RJ e env)(h:Rz (RD prog w) A (RJ e env) (λ o i=>Rz (RD prog w) A (getAttr o f true) Q E i) E s):Rz (RD prog w) A (RJ (.Attribute e f pos) env) Q E s:=
 Attribute_any_ h (by rw[arm_eval_Attribute,j])
end
def AW(X:Cx)(op:Operator)(rd:V->V->Hp->VK->Prop):Prop:=
 ∀(af:List (V0×Obj))(s:Z1)(σ:St)(H:Hp)(x y:V)(u v:Y1)(Q:VK),Inv X af σ H s->RelV x u->RelV y v->rd x y H Q->Rz (RD X.prog X.w) X.A (inplaceOp op u v) (EP X af σ Q) X.xe s
section
variable{X:Cx}{o e value:Expr}{f:U1}{pos pos' tpos:Pos}{ta tv:TE}
theorem Rh{pl:Sem Bool}{m:U1}{apos:Pos}{args:List Expr}{af:List (V0×Obj)}{s:Z1}{σ:St}{H:Hp}{Q:Y1->Z1->Prop}{te:TE}(z:PE X e te)(I:Inv X af σ H s)(h:te σ H λ x H1=>∃a C dx fs g,x=.ref a/\H1 a=some (.ins C dx fs)/\gS X.K C/\iU X.K C m g/\fs.lookup m=none/\∀i,Inv X af σ H1 i->Rz (RD X.prog X.w) X.A (Ti pos (.ref g) [.ref a] (RK pos (Rt args X.env)) (Sy pos (RX [] X.env))) Q X.xe i)(B:RJ (.Call (.Attribute e m apos) args [] pos) X.env=(do
   let n<-RJ e X.env
   Sr apos.atName
   let(f,first)<-SU [n] (SF n m pl)
   Ti pos f first (RK pos (Rt args X.env)) (Sy pos (RX [] X.env)))):Rz (RD X.prog X.w) X.A (RJ (.Call (.Attribute e m apos) args [] pos) X.env) Q X.xe s:=by
 refine T4 (pl:=pl) (aW (z af s σ H _ I h) λ u i j=>?_) B;obtain⟨x,H1,y,D,a,C,dx,fs,g,ex,G,c,k,l,q⟩:=j;subst ex;obtain rfl:u=RA a:=D;exact zU y G c k l (q i y)
end
section
variable{X:Cx}{af:List (V0×Obj)}{σ:St}{H:Hp}{s:Z1}{A:N1}{E:Y1->Z1->Prop}{Q:Y1->Z1->Prop}{c:Y1}{b:Bool}
inductive d_(K:X0)(H:Hp):V->Y1->Prop where
 |non:d_ K H .non (.type "NoneType")
 |bl(x:Bool):d_ K H (.bl x) (.type "bool")
 |int(i:Int):d_ K H (.int i) (.type "int")
 |str(x:U1):d_ K H (.str x) (.type "str")
 |flt(x:UInt64):d_ K H (.flt x) (.type "float")
 |lst{a:V0}{xs:List V}(e:H a=some (.lst xs)):d_ K H (.ref a) (.type "list")
 |frz{a:V0}{o:Obj}{xs:List V}(e:H a=some (.frz o (.lst xs))):d_ K H (.ref a) (.type "list")
 |tup{a:V0}{xs:List V}(e:H a=some (.tup xs)):d_ K H (.ref a) (.type "tuple")
 |dK{a:V0}{kvs:List (bZ×V)}(e:H a=some (.dK kvs)):d_ K H (.ref a) (.type "dict")
 |dT{a:V0}{kvs:List (List bZ×V)}(e:H a=some (.dT kvs)):d_ K H (.ref a) (.type "dict")
 |ins{a C dx:V0}{fs:List (U1×V)}(e:H a=some (.ins C dx fs))(cl:gS K C)(ha:RV K (.ref C) "__class__"=some (some (.builtin "object.__class__")))
   (hn:Uc K (.builtin "object.__class__") "__get__"=some (some (.builtin "getset_descriptor.__get__"))) (htk:W.takesIn K (.builtin "object.__class__")=some true)
   (hm:SM K C (.type "object")=some true):d_ K H (.ref a) (.ref C)
theorem tH{x:V}{u t:Y1}(I:Inv X af σ H s)(j:RelV x u)(ty:d_ X.K H x t)(e:S_ X.K t c=some b)(h:∀tk,Q (.bool b) {s with toks:=tk}):Rz (RD X.prog X.w) A (call (.builtin "isinstance") [u,c]) Q E s:=by
 cases ty with
 |non=>cases(show u=RW from j);exact SG W.kitx_none I.kIn True.intro e (λ z=>nomatch z) h
 |bl y=>cases(show u=Tr y from j);exact SG W.kitx_bool I.kIn True.intro e (λ z=>nomatch z) h
 |int i=>obtain⟨t,q⟩:=(show ∃t,u=Su i t from j);cases q;exact SG W.kitx_int I.kIn True.intro e (λ z=>nomatch z) h
 |str y=>obtain⟨t,q⟩:=(show ∃t,u=Uk y t from j);cases q;exact SG W.kitx_str I.kIn True.intro e (λ z=>nomatch z) h
 |flt y=>obtain⟨t,q⟩:=(show ∃t,u=Value.float y t from j);cases q;exact SG W.kitx_float I.kIn True.intro e (λ z=>nomatch z) h
 |@lst a xs B=>
  cases(show u=RA a from j);obtain⟨ω,ω,n,ω,h1⟩:=(show bh X.prog X.w H s.heap a (.lst xs)from I.hok a _ B);exact SG W.kitx_list I.kIn ⟨_,h1,rfl⟩ e (λ z=>nomatch z) h
 |@frz a M xs B=>
  cases(show u=RA a from j);obtain⟨ω,ω,ω,n,ω,h1⟩:=(show bh X.prog X.w H s.heap a (.frz M (.lst xs))from I.hok a _ B);exact SG W.kitx_list I.kIn ⟨_,h1,rfl⟩ e (λ z=>nomatch z) h
 |@tup a xs B=>
  cases(show u=RA a from j);obtain⟨ω,ω,ω,p⟩:=(show bh X.prog X.w H s.heap a (.tup xs)from I.hok a _ B);obtain⟨o,h1,h2,ω⟩:=p;exact SG W.kitx_tuple I.kIn ⟨o,h1,h2⟩ e (λ z=>nomatch z) h
 |@dK a D B=>
  cases(show u=RA a from j);obtain⟨ω,ω,vs,ω,p⟩:=(show bh X.prog X.w H s.heap a (.dK D)from I.hok a _ B);obtain⟨o,es,N,h1,h2,ω⟩:=p;exact SG W.kitx_dict I.kIn ⟨o,h1,h2.1⟩ e (λ z=>nomatch z) h
 |@dT a D B=>
  cases(show u=RA a from j);obtain⟨ω,ω,xs,ω,o,es,N,h1,h2,ω⟩:=(show bh X.prog X.w H s.heap a (.dT D)from I.hok a _ B);exact SG W.kitx_dict I.kIn ⟨o,h1,h2.1⟩ e (λ z=>nomatch z) h
 |@ins a C dx fs B L R S G U=>
  cases(show u=RA a from j);obtain⟨mA,O,ω⟩:=uS I.hok B;obtain⟨Y,J,ω⟩:=O.look;exact SG (W.kitx_own (L.get _) L.hd R S G U) I.kIn J e (λ z=>nomatch z) h
end
end L2
namespace L2
open PySem PySem.Spec PyProof.Rows
structure bw(k:Nat)(A:N1):Prop where
 hd:A.handled=none
 dp:A.depth+2*k+5<recursionLimit
 un:A.units+16*k+200<UI
 gd:A.guards=some []
theorem bw.mono{j k:Nat}{A:N1}(r:bw k A)(h:j<=k):bw j A:=⟨r.hd,by have:=r.dp;lia,by have:=r.un;lia,r.gd⟩
theorem bw.deeper{k:Nat}{A:N1}(r:bw (k+1) A)(env:Env):bw k (A.deeper env):=
 ⟨r.hd,by have:=r.dp;show A.depth+1+2*k+5<_;lia,by have:=r.un;show A.units+3+16*k+200<_;lia,r.gd⟩
theorem N6{A:N1}{C:V0}{us:List Y1}{kw:List (U1×Y1)}:(A.under (.builtin "type.__call__" ⟨.ref C::us,kw⟩)).depth=A.depth+1:=by
 first|rfl|simp[Around.under,Code.weight,Code.isCreation,Code.isGuard,Code.isCaller,Code.frames,Code.isFrame,guardIds]
theorem NQ{A:N1}{C:V0}{us:List Y1}{kw:List (U1×Y1)}:(A.under (.builtin "type.__call__" ⟨.ref C::us,kw⟩)).units=A.units+1:=by
 first|rfl|simp[Around.under,Code.cUnits,Code.frames,Code.isFrame]
theorem bw.make{k:Nat}{A:N1}(r:bw (k+1) A)(C:V0)(us:List Y1)(kw:List (U1×Y1)):bw k (A.under (.builtin "type.__call__" ⟨.ref C::us,kw⟩)):=
 ⟨r.hd,by have:=r.dp;rw[N6];lia,by have:=r.un;rw[NQ];lia,r.gd⟩
theorem bw.depth{k:Nat}{A:N1}(r:bw k A):A.depth<recursionLimit:=by have:=r.dp;lia
theorem bw.units{k:Nat}{A:N1}(r:bw k A):A.units+64<UI:=by have:=r.un;lia
def eQ:TA:=λ ω H Q=>Q [] H
def jO(ta:TE)(tr:TA):TA:=λ σ H Q=>ta σ H λ x H1=>tr σ H1 λ xs H2=>Q (x::xs) H2
section
variable{X:Cx}{e:Expr}{es:List Expr}{te:TE}{t:TA}{pos:Pos}
theorem ix:PA X [] eQ:=λ ω ω ω ω H Q I h=>Tu ⟨[],H,I,.nil,h⟩
theorem dq(i:PE X e te)(hr:PA X es t)(j:Rt (e::es) X.env=(false,RJ e X.env)::Rt es X.env:=by rfl):PA X (e::es) (jO te t):=by
 intro pos af s σ H Q I h;rw[j];show Rz _ _ (spliced ((false,RJ e X.env)::RK pos (Rt es X.env))) _ _ s;refine R8 (aW (i af s σ H _ I h) λ u n hz_=>?_);obtain⟨x,H1,y,r1,z⟩:=hz_;refine aW (hr pos af n σ H1 _ y z) λ us J hz_=>?_;obtain⟨xs,H2,B,D,G⟩:=hz_;exact⟨x::xs,H2,B,.cons r1 D,G⟩
def qY(t:TA):TE:=λ σ H Q=>t σ H λ xs H1=>xs.length<=Ru/\∀p,H1 p=none->Q (.ref p) (ar H1 p (.tup xs))
def rj(t:TA):TE:=λ σ H Q=>t σ H λ xs H1=>xs.length<=Ru/\∀p,H1 p=none->Q (.ref p) (ar H1 p (.lst xs))
theorem cH{n}(h:PA X es t):PE X (.Tuple es n pos) (qY t):=by
 intro af s σ H Q I y;refine wpAny_Tuple_spliced (aW (h pos af s σ H _ I y) λ us i hz_=>?_);obtain⟨xs,H1,j,r,z,q⟩:=hz_;refine⟨by rw[<-r.length];exact z,?_⟩;have B:H1 i.heap.objs.size=none:=j.hok.fresh (aQ _);refine⟨.ref i.heap.objs.size,ar H1 i.heap.objs.size (.tup xs),j.laid (t':=i.toks) (λ b u e=>Rp _ e) (aQ _) ?_,rfl,q _ B⟩;exact⟨⟨z,xM⟩,us,r,⟨_,RC _ rfl,rfl,_,rfl⟩⟩
theorem cJ(h:PA X es t):PE X (.List es pos) (rj t):=by
 intro af s σ H Q I n;refine wpAny_List_spliced (aW (h pos af s σ H _ I n) λ us i hz_=>?_);obtain⟨xs,H1,j,r,z,q⟩:=hz_;refine⟨by rw[<-r.length];exact z,?_⟩;have y:H1 i.heap.objs.size=none:=j.hok.fresh (aQ _);refine⟨.ref i.heap.objs.size,ar H1 i.heap.objs.size (.lst xs),j.laid (t':=i.toks) (λ b u e=>Rp _ e) (aQ _) ?_,rfl,q _ y⟩;exact⟨z,us,0,r,RC _ rfl⟩
end
abbrev Sp:=List V->Hp->VK->XK->Prop
abbrev ij:=List Env->Hp->Z1->XK->Y1->Z1->Prop
structure gR(P:Program)(w:V1)(K:X0)(mg:U1->Option Y1)(base:M1)(A:N1)(outer:List Env)(s:Z1)(H:Hp):Prop where
 frames:A.frames=some outer
 mod:Mod K mg base
 bs:∀b o,base.get? b=some o->s.heap.get? b=some o/\H b=none
 bsz:base.objs.size<=s.heap.objs.size
 funs:s.heap.FunFrames base outer
 frf:∀b∈fQ outer,H b=none
 hok:dI P w H s.heap
 bare:T6 s.gens
def CE(outer:List Env)(P:Program)(w:V1)(H:Hp)(s:Z1)(Q:VK)(u:Y1)(s':Z1):Prop:=
 ∃v H',s'.os=s.os/\T6 s'.gens/\Un (fQ outer) [] H H' s.heap s'.heap/\dI P w H' s'.heap/\RelV v u/\Q v H'
def CR(CX:ij)(outer:List Env)(P:Program)(w:V1)(H:Hp)(s:Z1)(Q:VK)(E:XK)(r:Result)(s':Z1):Prop:=
 match r with
 | .ok (.ret u)=>CE outer P w H s Q u s'
 | .ok _=>False
 | .error e=>CX outer H s E e s'
structure bc(P:Program)(w:V1)(K:X0)(mg:U1->Option Y1)(base:M1)(CX:ij)(k:Nat)(f:V0)(fd:RN)(ps:List U1)(sp:Sp):Prop where
 len:∀vs H Q E,sp vs H Q E->vs.length=ps.length
 run:∀(A:N1)(outer:List Env)(s:Z1)(H:Hp)(args:Args)(us:List Y1)(vs:List V)(Q:VK)(E:XK),bw k A->gR P w K mg base A outer s H->BindsTo s fd args (ps.zip us)->aI vs us->sp vs H Q E->
  Tq (RD P w) A (.call (.ref f) args) (CR CX outer P w H s Q E) s
variable{fd:RN}{sp:Sp}{P:Program}{K:X0}
theorem bc.mono{w:V1}{mg:U1->Option Y1}{base:M1}{CX:ij}{j k:Nat}{f:V0}{ps:List U1}(F:bc P w K mg base CX j f fd ps sp)(h:j<=k):bc P w K mg base CX k f fd ps sp:=⟨F.len,λ A outer s H i us vs Q E hr=>F.run A outer s H i us vs Q E (hr.mono h)⟩
theorem bc.imp{w:V1}{mg:U1->Option Y1}{base:M1}{CX:ij}{k:Nat}{f:V0}{ps:List U1}{sp':Sp}(F:bc P w K mg base CX k f fd ps sp)(h:∀vs H Q E,sp' vs H Q E->sp vs H Q E):bc P w K mg base CX k f fd ps sp':=
 ⟨λ vs H Q E q=>F.len vs H Q E (h _ _ _ _ q),λ A outer s H i us vs Q E hr j n y z=>F.run A outer s H i us vs Q E hr j n y (h _ _ _ _ z)⟩
variable{outer:List Env}{H:Hp}
theorem gR.make{w:V1}{mg:U1->Option Y1}{base:M1}{A:N1}{s:Z1}(e:gR P w K mg base A outer s H)(C:V0)(us:List Y1)(kw:List (U1×Y1)):gR P w K mg base (A.under (.builtin "type.__call__" ⟨.ref C::us,kw⟩)) outer s H:=⟨by first|exact e.frames|(simpa[Around.under,Code.envs,Code.isFrame,pushEnvs]using e.frames),e.mod,e.bs,e.bsz,e.funs,e.frf,e.hok,e.bare⟩
section
variable{X:Cx}{af:List (V0×Obj)}{σ:St}{H:Hp}{s s':Z1}
theorem Inv.env0(I:Inv X af σ H s):gR X.prog X.w X.K X.mg X.base X.A X.stack s H:=
 ⟨I.ok.frames,I.ok.mod,I.bs,bR I.ok.bsz I.sz,I.stack,I.stkFree,I.hok,I.bare⟩
theorem Inv.after{Q:VK}{u:Y1}(I:Inv X af σ H s)(h:CE X.stack X.prog X.w H s Q u s'):EP X af σ Q u s':=by
 obtain⟨v,H',y,i,un,j,r,q⟩:=h;obtain⟨B,g,d,t,n⟩:=s';obtain rfl:n=s.os:=y;exact⟨v,H',I.call (h':=B) (g':=g) (d':=d) (t':=t) (ch:=[]) un j i (λ b z=>UM z (by simp)),r,q⟩
end
def qB(sp:Sp)(dvs:List V)(E:XK)(t:TA):TE:=λ σ H Q=>t σ H λ vs H1=>sp (vs++dvs) H1 Q E
def xu(C:V0)(m:U1)(sp:Sp)(dvs:List V)(E:XK)(ta:TE)(t:TA):TE:=λ σ H Q=>ta σ H λ x H1=>∃a dx fs,x=.ref a/\H1 a=some (.ins C dx fs)/\fs.lookup m=none/\
 t σ H1 λ vs H2=>sp (x::(vs++dvs)) H2 Q E
def AB(C:V0)(sp:Sp)(dvs:List V)(E:XK)(t:TA):TE:=λ σ H Q=>t σ H λ vs H1=>∀x dx,H1 x=none->H1 dx=none->dx≠x->
 sp (.ref x::(vs++dvs)) (ar (ar H1 dx (.own x)) x (.ins C dx [])) (λ v H2=>v=.non/\Q (.ref x) H2) E
def Binds(K:X0)(fd:RN)(ps:List U1)(ds:List Y1):Prop:=
 ∀(s:Z1)(us:List Y1),K.In s.heap->(us++ds).length=ps.length->BindsTo s fd ⟨us,[]⟩ (ps.zip (us++ds))
theorem Binds.all{ps:List U1}(h:∀us:List Y1,us.length=ps.length->Tv fd ⟨us,[]⟩=pure (ps.zip us)):Binds K fd ps []:=λ s us ω hl=>by
 rw[eu]at hl ⊢;exact .of_eq (h us hl)
def nu(CX:ij)(X:Cx)(E:XK):Prop:=∀(af:List (V0×Obj))(σ:St)(H:Hp)(s:Z1)(e:Y1)(s':Z1),Inv X af σ H s->CX X.stack H s E e s'->X.xe e s'
section
variable{X:Cx}{CX:ij}{k:Nat}{f C:V0}{fd:RN}{ps:List U1}{sp:Sp}{dvs:List V}{ds:List Y1}{E:XK}{x m:U1}{p pos apos:Pos}{e o:Expr}{es:List Expr}{ta:TE}{t:TA}
theorem uJ{af:List (V0×Obj)}{σ:St}{s:Z1}{Q:VK}{us:List Y1}{vs:List V}(F:bc X.prog X.w X.K X.mg X.base CX k f fd ps sp)(hr:bw k X.A)(hb:Binds X.K fd ps ds)(hd:aI dvs ds)(hx:nu CX X E)(I:Inv X af σ H s)(r:aI vs us)(h:sp (vs++dvs) H Q E):Rz (RD X.prog X.w) X.A (call (.ref f) us) (EP X af σ Q) X.xe s:=by
 have r2:aI (vs++dvs) (us++ds):=r.append hd;have hl:(us++ds).length=ps.length:=by rw[<-r2.length];exact F.len _ _ _ _ h
 refine Ts (SN (F.run X.A X.stack s H ⟨us,[]⟩ (us++ds) (vs++dvs) Q E hr I.env0 (hb s us I.kIn hl) r2 h) λ r s' hq=>?_);cases r with
 |error e=>exact hx af σ H s e s' I hq
 |ok fl=>
  cases fl with
  |ret u=>exact I.after hq
  |next=>exact False.elim hq
  |brk=>exact False.elim hq
  |cont=>exact False.elim hq
theorem mj(F:bc X.prog X.w X.K X.mg X.base CX k f fd ps sp)(hr:bw k X.A)(y:Gl X x)(z:X.mg x=some (.ref f))(B:RM X.K (.ref f)=true)(D:Binds X.K fd ps ds)(hd:aI dvs ds)(G:nu CX X E)(J:PA X (e::es) t)(i:(x==("__debug__":U1))=false:=by decide)(L:Rt (e::es) X.env=(false,RJ e X.env)::Rt es X.env:=by rfl)(j:(RK pos (Rt es X.env)).any (·.1)=false:=by rfl):PE X (.Call (.Name x p) (e::es) [] pos) (qB sp dvs E t):=by
 intro af s σ H Q I h;refine RP (kX I y z ?_ i);refine Tf (h₀:=X.base) I.ok.mod.kin B (aW (J pos af s σ H _ I h) λ us M hz_=>?_) L j;obtain⟨vs,H1,n,r,q⟩:=hz_;refine⟨n.kIn,?_⟩;exact uJ F hr D hd G n r q
theorem F6{pl:Sem Bool}(G:PE X o ta)(c:gS X.K C)(y:iU X.K C m f)(F:bc X.prog X.w X.K X.mg X.base CX k f fd ps sp)(hr:bw k X.A)(J:Binds X.K fd ps ds)(hd:aI dvs ds)(L:nu CX X E)(M:PA X (e::es) t)(i:Rt (e::es) X.env=(false,RJ e X.env)::Rt es X.env:=by rfl)(j:(RK pos (Rt es X.env)).any (·.1)=false:=by rfl)(N:RJ (.Call (.Attribute o m apos) (e::es) [] pos) X.env=(do
   let z<-RJ o X.env
   Sr apos.atName
   let(f,first)<-SU [z] (SF z m pl)
   Ti pos f first (RK pos (Rt (e::es) X.env)) (Sy pos (RX [] X.env))):=by rfl):PE X (.Call (.Attribute o m apos) (e::es) [] pos) (xu C m sp dvs E ta t):=by
 intro af s σ H Q I h;refine T4 (pl:=pl) (aW (G af s σ H _ I h) λ u O n=>?_) N;obtain⟨x,H1,B,R,a,dx,fs,ex,S,l,q⟩:=n;subst ex;obtain rfl:u=RA a:=R;refine zU B S c y l ?_;refine Tf (first:=[.ref a]) (h₀:=X.base) I.ok.mod.kin y.kp (aW (M pos af O σ H1 _ B q) λ us Y hz_=>?_) i j;obtain⟨vs,H2,D,r,U⟩:=hz_;refine⟨D.kIn,?_⟩;exact uJ (us:=.ref a::us) (vs:=.ref a::vs) F hr J hd L D (.cons rfl r) U
theorem Ge{pl:Sem Bool}(z:PE X o ta)(c:gS X.K C)(n:iU X.K C m f)(F:bc X.prog X.w X.K X.mg X.base CX k f fd ps sp)(hr:bw k X.A)(B:Binds X.K fd ps ds)(hd:aI dvs ds)(D:nu CX X E)(G:RJ (.Call (.Attribute o m apos) [] [] pos) X.env=(do
   let y<-RJ o X.env
   Sr apos.atName
   let(f,first)<-SU [y] (SF y m pl)
   Ti pos f first (RK pos (Rt [] X.env)) (Sy pos (RX [] X.env))):=by rfl):PE X (.Call (.Attribute o m apos) [] [] pos) (xu C m sp dvs E ta eQ):=by
 intro af s σ H Q I h;refine T4 (pl:=pl) (aW (z af s σ H _ I h) λ u M i=>?_) G;obtain⟨x,H1,j,J,a,dx,fs,ex,L,l,q⟩:=i;subst ex;obtain rfl:u=RA a:=J;refine zU j L c n l ?_;exact W.callWith_K0 (first:=[.ref a]) j.kIn n.kp (uJ (us:=[.ref a]) (vs:=[.ref a]) F hr B hd D j (.cons rfl .nil) q)
structure Mk(K:X0)(C f:V0):Prop where
 makes:W.makesIn K C=true
 init:RV K (.ref C) "__init__"=some (some (.ref f))
 fn:W.isFn K (.ref f)=true
 kp:RM K (.ref C)=true
theorem Na{af:List (V0×Obj)}{σ:St}{s:Z1}{Q:VK}{us:List Y1}{vs:List V}(M:Mk X.K C f)(F:bc X.prog X.w X.K X.mg X.base CX k f fd ps sp)(hr:bw (k+1) X.A)(hb:Binds X.K fd ps ds)(hd:aI dvs ds)(hx:nu CX X E)(I:Inv X af σ H s)(r:aI vs us)(h:∀x dx,H x=none->H dx=none->dx≠x->sp (.ref x::(vs++dvs)) (ar (ar H dx (.own x)) x (.ins C dx [])) (λ v H2=>v=.non/\Q (.ref x) H2) E):Rz (RD X.prog X.w) X.A (call (.ref C) us) (EP X af σ Q) X.xe s:=by
 have hq:=h (s.heap.objs.size+1) s.heap.objs.size (I.hok.fresh (oB _)) (I.hok.fresh (aQ _)) (dY (iH _));have I2:=Inv.made (C:=C) I;have r2:aI (V.ref (s.heap.objs.size+1)::(vs++dvs)) (RA (s.heap.objs.size+1)::(us++ds)):=.cons rfl (r.append hd);have hl:(RA (s.heap.objs.size+1)::us++ds).length=ps.length:=by
  have e:=r2.length;rw[F.len _ _ _ _ hq]at e;exact e.symm
 refine Ts (LB (f:=f) I.kIn M.makes M.init (beq_iff_eq.mp M.fn) (SN (F.run _ X.stack _ _ ⟨RA (s.heap.objs.size+1)::us,[]⟩ (RA (s.heap.objs.size+1)::(us++ds)) _ _ E (hr.make C us []) (I2.env0.make C us []) (hb _ (RA (s.heap.objs.size+1)::us) I2.kIn hl) r2 hq) λ r s' hq'=>?_));cases r with
 |error e=>exact hx af σ _ _ e s' I2 hq'
 |ok fl=>
  cases fl with
  |ret u=>
   obtain⟨v,H',I3,rv,ev,q3⟩:=I2.after hq';subst ev;exact⟨rv,⟨V.ref (s.heap.objs.size+1),H',I3,rfl,q3⟩⟩
  |next=>exact False.elim hq'
  |brk=>exact False.elim hq'
  |cont=>exact False.elim hq'
theorem Lo(M:Mk X.K C f)(F:bc X.prog X.w X.K X.mg X.base CX k f fd ps sp)(hr:bw (k+1) X.A)(y:Gl X x)(z:X.mg x=some (.ref C))(B:Binds X.K fd ps ds)(hd:aI dvs ds)(D:nu CX X E)(G:PA X (e::es) t)(i:(x==("__debug__":U1))=false:=by decide)(J:Rt (e::es) X.env=(false,RJ e X.env)::Rt es X.env:=by rfl)(j:(RK pos (Rt es X.env)).any (·.1)=false:=by rfl):PE X (.Call (.Name x p) (e::es) [] pos) (AB C sp dvs E t):=by
 intro af s σ H Q I h;refine RP (kX I y z ?_ i);refine Tf (h₀:=X.base) I.ok.mod.kin M.kp (aW (G pos af s σ H _ I h) λ us L hz_=>?_) J j;obtain⟨vs,H1,n,r,q⟩:=hz_;refine⟨n.kIn,?_⟩;exact Na M F hr B hd D n r q
end
def PK(X:Cx)(kws:List Keyword)(t:TA):Prop:=
 ∀(pos:Pos)(af:List (V0×Obj))(s:Z1)(σ:St)(H:Hp)(Q:List V->Hp->Prop),Inv X af σ H s->t σ H Q->Rz (RD X.prog X.w) X.A (evalAll ((Sy pos (RX kws X.env)).map (·.2))) (AP X af σ Q) X.xe s
section
variable{X:Cx}{CX:ij}{k:Nat}{f C:V0}{fd:RN}{ps ks:List U1}{sp:Sp}{E:XK}{x m:U1}{p pos apos kpos:Pos}{e o:Expr}{es:List Expr}{kws:List Keyword}{te ta:TE}{t tk:TA}{nm:Option U1}
theorem JS:PK X [] eQ:=λ ω ω ω ω H Q I h=>wpAny_evalAll_nil ⟨[],H,I,.nil,h⟩
theorem K1(i:PE X e te)(hr:PK X kws t):PK X (⟨nm,e,kpos⟩::kws) (jO te t):=by
 intro pos af s σ H Q I h;show Rz _ _ (evalAll ((do let v<-RJ e X.env;Sr pos;pure v)::(Sy pos (RX kws X.env)).map (·.2))) _ _ s;refine wpAny_evalAll_cons (Ro (aW (i af s σ H _ I h) λ u j hz_=>?_));obtain⟨x,H1,n,r1,y⟩:=hz_;refine Ro (Sm (Rv ?_));refine aW (hr pos af j σ H1 _ n y) λ us G hz_=>?_;obtain⟨xs,H2,z,B,D⟩:=hz_;exact⟨x::xs,H2,z,.cons r1 B,D⟩
variable{g:List Y1->List Y1->List Y1}{gV:List V->List V->List V}
end
structure bL(N P:List U1)(sc:SR):Prop where
 kind:sc.kind=.function
 co:sc.isCoroutine=false
 gen:sc.isGenerator=false
 nd:N.Nodup
 pre:N.take P.length=P
 par:∀x∈P,sc.names.lookup x=some .local\/sc.names.lookup x=some .cell
 nofree:∀y∈sc.names,y.2≠.free
theorem Ci{i:U1->Option TZ}{x:U1}:∀{binds:List (U1×Y1)}{m:U1->Option Y1},(∀v,(x,v)∉binds)->bindL i binds m x=m x
 |[],_,_=>rfl
 |(n,v)::r,m,h=>by
  unfold bindL;rw[Ci λ w j=>h w (cV _ j)];split
  ·have:x≠n:=by rintro rfl;exact h v cy
   simp[this]
  ·rfl
theorem Cu{i:U1->Option TZ}{x:U1}:∀{binds:List (U1×Y1)}{m:U1->Option Y1},(∀v,(x,v)∉binds)->bindC i binds m x=m x
 |[],_,_=>rfl
 |(n,v)::r,m,h=>by
  unfold bindC;rw[Cu λ w j=>h w (cV _ j)];split
  ·rfl
  ·have:x≠n:=by rintro rfl;exact h v cy
   simp[this]
theorem CF{j:U1->Option TZ}{x:U1}{v:Y1}:∀{P:List U1}{vs:List Y1}{i:Nat}{m:U1->Option Y1},P.Nodup->P[i]?=some x->vs[i]?=some v->j x=some .local->bindL j (P.zip vs) m x=some v
 |[],_,_,_,_,h,_,_=>by simp at h
 |_::_,[],_,_,_,_,h,_=>by simp at h
 |p::P,w::vs,0,m,n,h1,h2,y=>by
  simp at h1 h2;subst h1;subst h2;show bindL j ((p,w)::P.zip vs) m p=_;unfold bindL;rw[Ci λ v z=>(uy.mp n).1 (List.of_mem_zip z).1,UL y];simp
 |p::P,w::vs,i+1,m,n,h1,h2,y=>by
  show bindL j ((p,w)::P.zip vs) m x=_;unfold bindL;exact CF (i:=i) (uy.mp n).2 (by simpa using h1) (by simpa using h2) y
theorem Ck{j:U1->Option TZ}{x:U1}{v:Y1}:∀{P:List U1}{vs:List Y1}{i:Nat}{m:U1->Option Y1},P.Nodup->P[i]?=some x->vs[i]?=some v->j x≠some .local->bindC j (P.zip vs) m x=some v
 |[],_,_,_,_,h,_,_=>by simp at h
 |_::_,[],_,_,_,_,h,_=>by simp at h
 |p::P,w::vs,0,m,n,h1,h2,y=>by
  simp at h1 h2;subst h1;subst h2;show bindC j ((p,w)::P.zip vs) m p=_;unfold bindC;rw[Cu λ v z=>(uy.mp n).1 (List.of_mem_zip z).1,UK y];simp
 |p::P,w::vs,i+1,m,n,h1,h2,y=>by
  show bindC j ((p,w)::P.zip vs) m x=_;unfold bindC;exact Ck (i:=i) (uy.mp n).2 (by simpa using h1) (by simpa using h2) y
def jc(N:List U1)(vs:List V):St:=vs.map some++e_ (N.length-vs.length) none
def d8(CX:ij)(P:Program)(w:V1)(K:X0)(mg:U1->Option Y1)(base:M1)(N:List U1)(qual:U1)(scope:SR)(f:V0)(cd:Y1)(A:N1)(outer:List Env)(s:Z1)(H:Hp)(E:XK):Cx where
 prog:=P
 w:=w
 K:=K
 mg:=mg
 base:=base
 A:=A.deeper (Tw qual scope s.heap.objs.size f cd)
 N:=N
 s₀:=s
 H₀:=H
 env:=Tw qual scope s.heap.objs.size f cd
 outer:=outer
 stack:=Tw qual scope s.heap.objs.size f cd::outer
 ex:=[]
 calm:=true
 fn:=λ ω=>true
 pn:=[]
 xe:=λ e s'=>Rz (RD P w) (A.deeper (Tw qual scope s.heap.objs.size f cd)) (leaving (Tw qual scope s.heap.objs.size f cd) e) (λ ω i=>CX outer H s E e i) (λ j i=>CX outer H s E j i) s'
theorem GR{i:SR}{n:Nat}{x:U1}(h:i.names.lookup x=some .cell):∃c,(cellsFrom n i.names []).lookup x=some c:=by
 have q:=W.cellsFrom_some i.names n [] (.inl h);exact yv.mp q
theorem MY{CX:ij}{w:V1}{mg:U1->Option Y1}{base:M1}{N ps:List U1}{qual:U1}{scope:SR}{f:V0}{J:Y1}{A:N1}{s s1:Z1}{E:XK}{us:List Y1}{vs:List V}(S:bL N ps scope)(hd:A.handled=none)(j:gR P w K mg base A outer s H)(hl:vs.length=ps.length)(r:aI vs us)(x:InCallC s s.heap.objs.size (bindL (Tw qual scope s.heap.objs.size f J).kindOf (ps.zip us) λ ω=>none) (cellsFrom (s.heap.objs.size+1) scope.names []) (bindC (Tw qual scope s.heap.objs.size f J).kindOf (ps.zip us) λ ω=>none) s1):Inv (d8 CX P w K mg base N qual scope f J A outer s H E) [] (jc N vs) H s1:=by
 have O:ps.length<=N.length:=by have:=congrArg rW S.pre;rw[ka]at this;lia
 obtain⟨h1,tk,rfl,L⟩:=x.done;have B:∀b:V0,b∉(d8 CX P w K mg base N qual scope f J A outer s H E).ex:=λ b z=>UM (show b∈([]:List V0)from z) (by simp);refine⟨⟨j.mod,S.kind,rfl,rfl,aQ _,λ y z c h1 h2=>?_,λ y D=>?_,λ y c ω h=>?_,λ ω=>hd,Around.frames_deeper j.frames,.inr ⟨rfl,rfl⟩,λ b z=>UM z (B b),j.bs,j.bsz,λ b ω ω=>B b,λ b z=>UM z (B b),j.funs,j.frf⟩,rfl,j.bare,Un.kept L,⟨_,x.toInCall.ns,λ i y v h1 h2 Y=>?_⟩,λ y c h=>⟨_,x.cell y c h⟩,j.hok.fresh (aQ _),λ y c h=>?_,λ p G=>UM (show p∈([]:List (V0×Obj))from G) (by simp),j.hok.kept L,?_⟩
 ·exact name_of_addr x.apart (Sk h1) (Sk h2)
 ·have D:scope.names.lookup y=some .cell\/scope.names.lookup y=some .free:=D;rcases D with D|D
  ·exact GR D
  ·exact UM rfl (S.nofree _ (Sk D))
 ·exact rX (x.above y c (Sk h))
 ·have hi:i<vs.length:=by
   unfold jc at h2;by_cases hi:i<vs.length
   ·exact hi
   ·rw[ux (by simpa using hi)]at h2;rw[List.getElem?_replicate]at h2;split at h2<;>cases h2
  have R:vs[i]?=some v:=by
   unfold jc at h2;rw[uw (by simpa using hi),eK]at h2;cases e:vs[i]? with
   |none=>rw[e]at h2;cases h2
   |some a=>rw[e]at h2;cases h2;rfl
  obtain⟨u,M,U⟩:=r.get R;have G:ps[i]?=some y:=by
   rw[<-S.pre,List.getElem?_take_of_lt qR];exact h1
  have I:ps.Nodup:=by rw[<-S.pre];exact S.nd.sublist (List.take_sublist _ _)
  refine⟨u,U,?_⟩;rcases S.par y (kP G)with k|k
  ·exact .inl ⟨k,CF I G M k⟩
  ·obtain⟨c,e⟩:=GR (n:=s.heap.objs.size+1) k;refine .inr ⟨.inl k,c,e,?_⟩;have q:=x.cell y c e;rw[Ck I G M (by show scope.names.lookup y≠_;rw[k];decide)]at q;exact q
 ·exact j.hok.fresh (rX (x.above y c (Sk h)))
 ·unfold jc;show _=N.length;rw[bX,bB,List.length_replicate];lia
theorem AD{CX:ij}{w:V1}{mg:U1->Option Y1}{base:M1}{k:Nat}{f:V0}{name qual:U1}{params:T8}{body:List RH}{scope:SR}{dV kV doc pm cdv ct oc:Y1}{an od:Option V0}{osl:Array (Option Y1)}{N ps:List U1}(lk:K.lookup f=some ⟨oc,od,.func (SK name qual params body scope dV kV doc pm an cdv ct),osl⟩)(hcd:T_ K cdv qual=true)(S:bL N ps scope)(len:∀vs H Q E,sp vs H Q E->vs.length=ps.length)(hbody:∀(A:N1)(outer:List Env)(s:Z1)(H:Hp)(vs:List V)(Q:VK)(E:XK),bw k (A.deeper (Tw qual scope s.heap.objs.size f cdv))->sp vs H Q E->∃t,fy (d8 CX P w K mg base N qual scope f cdv A outer s H E) body t/\t {nx:=λ ω H'=>Q .non H',rt:=Q} (jc N vs) H):bc P w K mg base CX (k+1) f (SK name qual params body scope dV kV doc pm an cdv ct) ps sp:=by
 refine⟨len,λ A outer s H args us vs Q E hr e0 hb r hsp=>?_⟩;have hl:=len _ _ _ _ hsp;have KX:K.In s.heap:=e0.mod.kin.keeps λ b o e=>(e0.bs b o e).1;have lim:s.heap.NoLimit:=e0.mod.nolimit.keeps λ b o e=>(e0.bs b o e).1;have hkind:∀y∈ps.zip us,scope.names.lookup y.1=some .local\/(scope.names.lookup y.1=some .cell/\((cellsFrom (s.heap.objs.size+1) scope.names []).lookup y.1).isSome=true):=λ⟨n,v⟩ hy=>by
  rcases S.par n (List.of_mem_zip hy).1 with q|q
  ·exact .inl q
  ·exact .inr ⟨q,W.cellsFrom_some _ _ _ (.inl q)⟩
 refine codeAny_call_function hr.depth (KX _ _ lk) rfl S.co S.gen rfl (W.codeRec_of KX hcd) (hb _ _ _ _ ?_);refine wpAny_newFunctionEnv_cells S.kind hkind λ env he s1 x=>?_;subst he;refine⟨lim.keeps x.toInCall.keep,codeAny_func ?_⟩;obtain⟨t,ht,hq⟩:=hbody A outer s H vs Q E (hr.deeper _) hsp;have I:Inv (d8 CX P w K mg base N qual scope f cdv A outer s H E) [] (jc N vs) H s1:=MY S hr.hd e0 hl r x;refine R7 (ht [] s1 (jc N vs) H _ I hq) (λ fl s' hs=>?_) λ e s' hs=>hs;have fin:∀{σ':St}{H':Hp}{v:V}{u:Y1},Inv (d8 CX P w K mg base N qual scope f cdv A outer s H E) [] σ' H' s'->RelV v u->Q v H'->CE outer P w H s Q u s':=
  λ{σ' H' v u} J rv q=>⟨v,H',J.os,J.bare,J.base,J.hok,rv,q⟩
 cases fl with
 |ret u=>
  obtain⟨v,σ',H',J,rv,q⟩:=hs;exact fin J rv q
 |next=>
  obtain⟨σ',H',J,q⟩:=hs;exact fin (v:=V.non) (u:=RW) J rfl q
 |brk=>
  obtain⟨ω,ω,ω,q⟩:=hs;exact False.elim q
 |cont=>
  obtain⟨ω,ω,ω,q⟩:=hs;exact False.elim q
end L2
namespace L2
open PySem PySem.Spec PyProof.Rows
section
variable{X:Cx}{x:U1}{p pos:Pos}{e:Expr}{es:List Expr}{t:TA}{id T:String}{r:List V->Hp->VK->Prop}
def rq(r:List V->Hp->VK->Prop)(t:TA):TE:=λ σ H Q=>t σ H λ vs H1=>r vs H1 Q
theorem eH(n:gN X (.builtin id) r)(y:Gl X x)(z:X.mg x=none)(B:RI x=some (.builtin id))(D:PA X (e::es) t)(G:x≠"__name__":=by decide)(i:(x==("__debug__":U1))=false:=by decide)(J:Rt (e::es) X.env=(false,RJ e X.env)::Rt es X.env:=by rfl)(j:(RK pos (Rt es X.env)).any (·.1)=false:=by rfl):PE X (.Call (.Name x p) (e::es) [] pos) (rq r t):=by
 intro af s σ H Q I h;refine RP (qa I y z B ?_ G i);refine PyProof.Rows.callWith_builtin1 (aW (D pos af s σ H _ I h) λ us L hz_=>?_) J j;obtain⟨vs,H1,M,r1,N⟩:=hz_;exact n af L σ H1 vs us Q M r1 N
theorem fg(n:gN X (.type T) r)(y:Gl X x)(z:X.mg x=none)(B:RI x=some (.type T))(D:PA X (e::es) t)(G:x≠"__name__":=by decide)(i:(x==("__debug__":U1))=false:=by decide)(J:Rt (e::es) X.env=(false,RJ e X.env)::Rt es X.env:=by rfl)(j:(RK pos (Rt es X.env)).any (·.1)=false:=by rfl):PE X (.Call (.Name x p) (e::es) [] pos) (rq r t):=by
 intro af s σ H Q I h;refine RP (qa I y z B ?_ G i);refine SV (aW (D pos af s σ H _ I h) λ us L hz_=>?_) J j;obtain⟨vs,H1,M,r1,N⟩:=hz_;exact n af L σ H1 vs us Q M r1 N
end
end L2
namespace HT
open PySem PyProof.Rows
section
open PySem.SeqAt
open PySem.AutoSeq1 (wpAny_loadPart')
open PySem.MeetsSeq PySem.MeetsSeq2 PySem.MeetsSeq3
end
section
variable{prog:Program}{w:V1}{A:N1}{E:Y1->Z1->Prop}{s:Z1}
theorem lX{t b:V0}{vs ws:List Y1}{Q:Y1->Z1->Prop}(S:IsTup s.heap t vs.toArray)(U:IsTup s.heap b ws.toArray)(J:vs≠[])(h1:ws=[]->Q (.ref t) s)(h2:ws≠[]->Q (.ref s.heap.objs.size) {s with heap:=s.heap.push {cls:=.type "tuple",data:=.seq (vs++ws).toArray}})(hsz:vs.length+ws.length<=Ru):Rz (RD prog w) A (Sx .Add (.ref t) (.ref b)) Q E s:=by
 obtain⟨⟨cls,L,data,M⟩,D,N,n,hd⟩:=id S;obtain⟨⟨O,j,I,y⟩,i,z,R,B⟩:=id U;simp only at N hd z B;subst N hd z B;have e:vs.toArray++ws.toArray=(vs++ws).toArray:=by simp
 by_cases G:ws=[]
 ·exact concat_meets ⟨_,D,rfl⟩ ⟨_,i,rfl⟩ Um seq_tuple_add yu yt (yr _ _)
   (tuple_addW1 t b vs.toArray ws.toArray n R L j M y (by simpa using J) (by simp[G])) ⟨D,i,h1 G⟩
 ·refine concat_meets ⟨_,D,rfl⟩ ⟨_,i,rfl⟩ Um seq_tuple_add yu yt (yr _ _)
   (tuple_addW2 t b vs.toArray ws.toArray n R L j M y (by simpa using J) (by simpa using G) (by rw[du,du];exact hsz)) ⟨D,i,?_⟩
  rw[e];exact h2 G
def bV(n d:Nat):Option Int->Nat
 |none=>d
 |some v=>if v<0 then(v+(n:Int)).toNat else min v.toNat n
theorem j4(n d:Nat):bV n d none=d:=rfl
theorem JM(n d:Nat)(hd:d<=n)(o:Option Int):bV n d o<=n:=by
 cases o with
 |none=>exact hd
 |some v=>
  show(if v<0 then(v+(n:Int)).toNat else min v.toNat n)<=n;by_cases i:v<0
  ·rw[UL i];lia
  ·rw[UK i];exact Nat.min_le_right _ _
theorem Fo(v:Int)(n d:Nat):(if v<0 then max (v+(n:Int)) 0 else min v (n:Int))=((bV n d (some v):Nat):Int):=by
 show(if v<0 then max (v+(n:Int)) 0 else min v (n:Int))=(((if v<0 then(v+(n:Int)).toNat else min v.toNat n):Nat):Int);by_cases i:v<0
 ·simp only[UL i];lia
 ·simp only[UK i];lia
theorem NU(lo hi:Option Int)(n:Nat):Tg lo hi 1 (n:Int)=(((bV n 0 lo:Nat):Int),((bV n n hi:Nat):Int)):=by
 have h1:¬((1:Int)<0):=by lia
 unfold Tg;simp only[h1,if_false];refine Prod.ext ?_ ?_
 ·cases lo with
  |none=>rfl
  |some v=>exact Fo v n 0
 ·cases hi with
  |none=>rfl
  |some v=>exact Fo v n n
theorem N4(i j:Nat):Ss (i:Int) (j:Int) 1=j-i:=by
 unfold Ss;have h1:(1:Int)>0:=by lia
 simp only[h1,if_true,Int.ediv_one];split<;>lia
theorem C9{v:Y1}{o:Option Int}{Q:Option Int->Z1->Prop}(p:Uu v o)(h:Q o s):Rz (RD prog w) A (Builtin.Slice.slicePartIndex v) Q E s:=by
 cases p with
 |none=>exact slicePart_none h
 |int i t=>exact slicePart_int h
theorem Dy{B:V0}{y z:Y1}{lo hi:Option Int}{n:Nat}{Q:Int×Int×Nat->Z1->Prop}(D:s.heap.IsSliceOf B y z .none)(pl:Uu y lo)(G:Uu z hi)(h:Q (((bV n 0 lo:Nat):Int),1,bV n n hi-bV n 0 lo) s):Rz (RD prog w) A (Builtin.Slice.sliceApplied (.ref B) (pure (n:Int))) Q E s:=by
 obtain⟨J,i,I,j⟩:=id D;unfold Builtin.Slice.sliceApplied Builtin.Slice.sliceFields;refine Ro (Ro (Sz i j (x:=y) rfl (Ro (Sz i j (x:=z) rfl (Ro (Sz i j (x:=.none) rfl (Rv ?_)))))));refine Ro (slicePart_none ?_);show Rz _ _ (if((1:Int)==0)=true then _ else _) _ _ s;rw[UK qQ];refine Ro (C9 pl (Ro (C9 G (Ro (Rv ?_)))));show Rz _ _ (match Tg lo hi 1 (n:Int)with|(lo,hi)=>pure (lo,(1:Int),Ss lo hi 1)) _ _ s;rw[NU lo hi n];show Rz _ _ (pure (((bV n 0 lo:Nat):Int),(1:Int),Ss ((bV n 0 lo:Nat):Int) ((bV n n hi:Nat):Int) 1)) _ _ s;rw[N4];exact Rv h
theorem Mj(xs:Array Y1)(i k:Nat):((jM k).filterMap λ(m:Nat)=>xs[((i:Int)+(m:Int)*1).toNat]?).toArray=((xs.toList.drop i).take k).toArray:=by
 have e:(λ(m:Nat)=>xs[((i:Int)+(m:Int)*1).toNat]?)=λ m=>xs[i+m]?:=by
  funext m;have:((i:Int)+(m:Int)*1).toNat=i+m:=by lia
  rw[this]
 rw[e];have:=pick_run xs i k;rw[List.filterMap_map]at this;have j:((λ x=>xs[x]?)∘λ x=>i+x)=λ m=>xs[i+m]?:=rfl;rw[j]at this;rw[this]
theorem eL{t n:V0}{items:Array Y1}{G I:Y1}{lo hi:Option Int}{Q:Y1->Z1->Prop}(j:IsTup s.heap t items)(J:s.heap.IsSliceOf n G I .none)(pl:Uu G lo)(L:Uu I hi)(M:¬(bV items.size 0 lo=0/\bV items.size items.size hi=items.size))(h:Q (.ref s.heap.objs.size) {s with heap:=s.heap.push {cls:=.type "tuple",data:=.seq ((items.toList.drop (bV items.size 0 lo)).take (bV items.size items.size hi-bV items.size 0 lo)).toArray}})(hsz:items.size<=Ru):Rz (RD prog w) A (Ud (.ref t) (.ref n)) Q E s:=by
 have i:sizeOk (.seq ((items.toList.drop (bV items.size 0 lo)).take (bV items.size items.size hi-bV items.size 0 lo)).toArray):=by
  show((items.toList.drop (bV items.size 0 lo)).take (bV items.size items.size hi-bV items.size 0 lo)).toArray.size<=Ru;rw[du,ka,i8,oE];lia
 have R:bV items.size items.size hi<=items.size:=JM _ _ (aQ _) hi;obtain⟨N,y,z,O⟩:=id J;have B:s.TypeIs (.ref n) "slice":=⟨N,y,z⟩;unfold Ud;try with_reducible refine R9 ?_
 first|refine Ro (Rv ?_)|skip
 refine Ro (wpAny_sequenceKey j.typeIs qQ ?_);refine Ro (wpAny_callSpecial?_slot (name:=Rx "__getitem__") j.typeIs R5 (wpAny_call_entry R5 j.typeIs entry_tuple_getitem ?_ (args_tuple_getitem _ _)));show Rz _ _ (Builtin.Tuple.tupleItemsOf (.ref t)>>=_) _ _ s;refine Ro (tupleItemsOf_ j ?_);refine Ro (wpAny_typeOf B ?_);rw[UL qQ];refine Ro (Dy J pl L ?_);have D:¬((((bV items.size 0 lo:Nat):Int)==0&&(1:Int)==1&&(bV items.size items.size hi-bV items.size 0 lo)==items.size)=true):=by
  intro q;rw[fV,fV]at q;have S:((bV items.size 0 lo:Nat):Int)=0:=eq_of_beq q.1.1;have U:bV items.size items.size hi-bV items.size 0 lo=items.size:=eq_of_beq q.2;exact M ⟨qR,qR⟩
 show Rz _ _ (if (((bV items.size 0 lo:Nat):Int) == 0&&(1:Int) == 1&&(bV items.size items.size hi - bV items.size 0 lo) == items.size)=true then _ else _) _ _ s;rw [UK D,Mj];first
  |exact Ro (m:=SD _) (Sg (Rv ⟨_,rfl,Rv h⟩) i)
  |exact Ro (m:=SD _) (Sg (Ro (Rv (Rv ⟨_,rfl,Rv h⟩))) i)
  |exact Ro (Ro (m:=SD _) (Sg (Rv (Rv ⟨_,rfl,Rv h⟩)) i))
  |exact Ro (Ro (m:=SD _) (Sg (Rv ⟨_,rfl,Rv h⟩) i))
end
end HT
namespace L2
open PySem PySem.Spec PyProof.Rows
abbrev TO:=St->Hp->(Option Int->Hp->Prop)->Prop
def PO(X:Cx)(e:Option Expr)(t:TO):Prop:=
 ∀(af:List (V0×Obj))(s:Z1)(σ:St)(H:Hp)(Q:Option Int->Hp->Prop),Inv X af σ H s->t σ H Q->
  Rz (RD X.prog X.w) X.A (evalPart e X.env) (λ u s'=>∃o H',Inv X af σ H' s'/\Uu u o/\Q o H') X.xe s
def FI:TO:=λ ω H Q=>Q none H
def Ef(t:TE):TO:=λ σ H Q=>t σ H λ x H1=>∃i,x=.int i/\Q (some i) H1
section
variable{X:Cx}{e:Expr}{te:TE}{lo hi:Option Expr}{tl th:TO}{pos p2:Pos}
theorem qe:PO X none FI:=by
 intro af s σ H Q I h;rw[evalPart_none];exact Rv ⟨none,H,I,.none,h⟩
theorem ib(h:PE X e te):PO X (some e) (Ef te):=by
 intro af s σ H Q I j;rw[evalPart_some];refine aW (h af s σ H _ I j) λ u z hz_=>?_;obtain⟨x,H1,n,r1,y⟩:=hz_;obtain⟨i,rfl,q⟩:=y;obtain⟨t,rfl⟩:=r1;exact⟨some i,H1,n,.int i t,q⟩
def tR(X:Cx)(r:V->Option Int->Option Int->Hp->VK->Prop):Prop:=
 ∀(af:List (V0×Obj))(s:Z1)(σ:St)(H:Hp)(x:V)(v i j:Y1)(lo hi:Option Int)(n:V0)(Q:VK),Inv X af σ H s->RelV x v->s.heap.IsSliceOf n i j .none->Uu i lo->Uu j hi->r x lo hi H Q->
  ∃T id,typeLookup (.type T) "__getitem__"=pure (some (.builtin id))/\s.TypeIs v T/\Rz (RD X.prog X.w) X.A (Ud v (.ref n)) (EP X af σ Q) X.xe s
def A3(r:V->Option Int->Option Int->Hp->VK->Prop)(te:TE)(tl th:TO):TE:=λ σ H Q=>te σ H λ x H1=>tl σ H1 λ l H2=>th σ H2 λ u i=>r x l u i Q
theorem kz{r:V->Option Int->Option Int->Hp->VK->Prop}(hr:tR X r)(z:PE X e te)(hl:PO X lo tl)(B:PO X hi th):PE X (.Subscript e (.Slice lo hi none p2) pos) (A3 r te tl th):=by
 intro af s σ H Q I h;refine Subscript_ (aW (z af s σ H _ I h) λ v D hz_=>?_);obtain⟨x,H1,G,r1,J⟩:=hz_;refine wpAny_Slice (aW (hl af D σ H1 _ G J) λ j L hz_=>?_);obtain⟨l,H2,M,N,O⟩:=hz_;refine aW (B af L σ H2 _ M O) λ n i hz_=>?_;obtain⟨u,y,I3,R,S⟩:=hz_;rw[evalPart_none];refine Rv ?_;have U:Inv X af σ y {i with heap:=i.heap.push {cls:=.type "slice",data:=.fields #[j,n,.none]}}:=I3.kept (t':=i.toks) λ b ob q=>Rp _ q;obtain⟨T,id,Y,Z,hg⟩:=hr af {i with heap:=i.heap.push {cls:=.type "slice",data:=.fields #[j,n,.none]}} σ y x v j n l u i.heap.objs.size Q U r1 (Heap.IsSliceOf.new ..) N R S;show Rz (RD X.prog X.w) X.A (Uh e (.Slice lo hi none p2) v (.ref i.heap.objs.size)) (EP X af σ Q) X.xe {i with heap:=i.heap.push {cls:=.type "slice",data:=.fields #[j,n,.none]}};exact tail_any (ops:=[.ref i.heap.objs.size,v]) Z Y hg (by with_unfolding_all rfl)
def cY(xs:List V)(lo hi:Option Int):List V:=(xs.drop (HT.bV xs.length 0 lo)).take (HT.bV xs.length xs.length hi-HT.bV xs.length 0 lo)
theorem Dv(xs:List V)(lo hi:Option Int):(cY xs lo hi).length<=xs.length:=by
 unfold cY;rw[ka,i8];lia
def yf(K:X0):V->Option Int->Option Int->Hp->VK->Prop:=λ x lo hi H Q=>∃a xs,x=.ref a/\ay K H a xs/\
 ¬(HT.bV xs.length 0 lo=0/\HT.bV xs.length xs.length hi=xs.length)/\∀p,H p=none->Q (.ref p) (ar H p (.tup (cY xs lo hi)))
theorem IL:tR X (yf X.K):=by
 intro af s σ H x v L M lo hi N Q I y z B D h;obtain⟨a,xs,rfl,G,J,q⟩:=h;cases y;obtain⟨its,r,j,n⟩:=I.tuple G;have i:its.toArray.size=xs.length:=by rw[du];exact r.length.symm
 refine⟨"tuple",_,PyProof.Rows.slot_tuple_getitem.lookup,j.typeIs,?_⟩;refine HT.eL j z B D (by rw[i];exact J) ?_ (by rw[i];exact n);rw[i];refine⟨.ref s.heap.objs.size,_,I.laid (t':=s.toks) (o:=.tup (cY xs lo hi)) (λ b O q=>Rp _ q) (aQ _) ?_,rfl,q _ (I.hok.fresh (aQ _))⟩;exact⟨⟨bR (Dv xs lo hi) n,xM⟩,_,(r.drop (HT.bV xs.length 0 lo)).take (HT.bV xs.length xs.length hi-HT.bV xs.length 0 lo),IsTup.new _ _⟩
def IC(K:X0):R2:=λ x y H Q=>∃a b xs ys,x=.ref a/\y=.ref b/\ay K H a xs/\ay K H b ys/\xs≠[]/\xs.length+ys.length<=Ru/\
 (ys=[]->Q (.ref a) H)/\(ys≠[]->∀p,H p=none->Q (.ref p) (ar H p (.tup (xs++ys))))
theorem aI.nil_iff{xs:List V}{us:List Y1}(r:aI xs us):us=[]↔xs=[]:=by
 cases r with
 |nil=>simp
 |cons _ _=>simp
theorem Lf:d7 X (Sx .Add) (IC X.K):=by
 intro af s σ H x y v u Q I B D h;obtain⟨a,b,xs,ys,rfl,rfl,G,J,L,j,M,N⟩:=h;cases B;cases D;obtain⟨its,r1,O,ω⟩:=I.tuple G;obtain⟨n,i,p2,ω⟩:=I.tuple J;refine HT.lX O p2 (λ z=>L (r1.nil_iff.mp z)) (λ z=>⟨.ref a,H,I,rfl,M (i.nil_iff.mp z)⟩) (λ z=>?_) (by rw[<-r1.length,<-i.length];exact j);refine⟨.ref s.heap.objs.size,_,I.laid (t':=s.toks) (o:=.tup (xs++ys)) (λ b R q=>Rp _ q) (aQ _) ?_,rfl,N (λ w=>z (i.nil_iff.mpr w)) _ (I.hok.fresh (aQ _))⟩;exact⟨⟨by rw[bX];exact j,xM⟩,_,r1.append i,IsTup.new _ _⟩
end
end L2
namespace L2
open PySem PySem.Spec PyProof.Rows
def iq(n:Nat)(i:Int):Option Nat:=if 0<=i then(if i<n then some i.toNat else none)else if -(n:Int)<=i then some (i+n).toNat else none
def dQ{α:Type}(xs:List α)(i:Int):Option α:=(iq xs.length i).bind λ j=>xs[j]?
theorem FK{n:Nat}{i:Int}{j:Nat}(h:iq n i=some j):seqIndex? i n=some j/\j<n/\-(n:Int)<=i/\i<n:=by
 unfold iq at h;by_cases y:0<=i
 ·rw[UL y]at h;by_cases h1:i<n
  ·rw[UL h1]at h;have e:i.toNat=j:=jv h;exact⟨by rw[seqIndex_of y h1,e],qR,qR,h1⟩
  ·rw[UK h1]at h;cases h
 ·rw[UK y]at h;by_cases h1:-(n:Int)<=i
  ·rw[UL h1]at h;have e:(i+n).toNat=j:=jv h;exact⟨by rw[seqIndex_neg qR h1,e],qR,h1,qR⟩
  ·rw[UK h1]at h;cases h
theorem y6{α:Type}{xs:List α}{i:Int}{v:α}(h:dQ xs i=some v):∃j,seqIndex? i xs.length=some j/\xs[j]?=some v/\j<xs.length/\-(xs.length:Int)<=i/\i<xs.length:=by
 unfold dQ at h;cases e:iq xs.length i with
 |none=>rw[e]at h;cases h
 |some j=>
  rw[e]at h;obtain⟨h1,h2,n,y⟩:=FK e;exact⟨j,h1,h,h2,n,y⟩
theorem gB{α:Type}{xs:List α}{j:Nat}{v:α}(h:xs[j]?=some v):dQ xs (j:Int)=some v:=by
 have i:j<xs.length:=(gm.mp h).1;have e:iq xs.length (j:Int)=some j:=by
  unfold iq;rw[UL qR,UL qR];simp
 unfold dQ;rw[e];exact h
theorem qj{α:Type}(xs:List α)(v:α):dQ (xs++[v]) (-1)=some v:=by
 have hl:(xs++[v]).length=xs.length+1:=by simp
 have e:iq (xs++[v]).length (-1)=some xs.length:=by
  unfold iq;rw[hl,UK qQ,UL qR];congr 1;lia
 unfold dQ;rw[e];show(xs++[v])[xs.length]?=some v;simp
def zd(b:Expr):Prop:=∀o i,subscripted b false o i=operate [o,i] (Ud o i)
def jm(X:Cx)(r:R2):Prop:=
 ∀(value i:Expr)(af:List (V0×Obj))(s:Z1)(σ:St)(H:Hp)(x y:V)(v u:Y1)(Q:VK),Inv X af σ H s->RelV x v->RelV y u->r x y H Q->
  subscripted i false v u=operate [v,u] (Ud v u)->Rz (RD X.prog X.w) X.A (Uh value i v u) (EP X af σ Q) X.xe s
def xc(X:Cx)(id:String)(r:V->List V->Hp->VK->Prop):Prop:=
 ∀(af:List (V0×Obj))(s:Z1)(σ:St)(H:Hp)(x:V)(xs:List V)(v:Y1)(us:List Y1)(Q:VK),Inv X af σ H s->RelV x v->aI xs us->r x xs H Q->
  Rz (RD X.prog X.w) X.A (call (.builtin id) (v::us)) (EP X af σ Q) X.xe s
section
variable{X:Cx}{a b:Expr}{ta tb:TE}{pos:Pos}
theorem jm.or{r j:R2}(h:jm X r)(h':jm X j):jm X (λ x y H Q=>r x y H Q\/j x y H Q):=by
 intro value i af s σ H x y v u Q I n z q B;rcases q with q|q
 ·exact h value i af s σ H x y v u Q I n z q B
 ·exact h' value i af s σ H x y v u Q I n z q B
theorem gT{r:R2}(hr:jm X r)(i:PE X a ta)(j:PE X b tb)(n:zd b):PE X (.Subscript a b pos) (ls r ta tb):=by
 intro af s σ H Q I h;exact Subscript_ (oI i j I h λ v u z x y H2 B D G q=>hr a b af z σ H2 x y v u Q B D G q (n _ _))
def rF(K:X0):R2:=λ x y H Q=>∃p xs i v,x=.ref p/\y=.int i/\az K H p xs/\dQ xs i=some v/\Q v H
def rE(K:X0):R2:=λ x y H Q=>∃p xs i v,x=.ref p/\y=.int i/\ay K H p xs/\dQ xs i=some v/\Q v H
def oy:R2:=λ x y H Q=>∃z i c,x=.str z/\y=.int i/\z.length<=Ru/\dQ z.cps.toList i=some c/\Q (.str ⟨#[c]⟩) H
theorem ja:jm X (rF X.K):=by
 intro value n af s σ H x y v u Q I N O h J;obtain⟨p,xs,i,z,rfl,rfl,R,S,q⟩:=h;cases N;obtain⟨t,rfl⟩:=O;obtain⟨its,r,B,Z⟩:=I.list R;obtain⟨j,h1,h2,h3,U,Y⟩:=y6 S;obtain⟨w,L,D⟩:=r.get h2;have hl:=r.length;have hn:=pW;have fin:EP X af σ Q w s:=⟨z,H,I,D,q⟩;by_cases M:0<=i
 ·have G:i.toNat=j:=by
   rw[seqIndex_of M Y]at h1;exact jv h1
  exact item_listR B.isList M qR (by rw[G];simpa using L) fin J
 ·have G:(i+(its.toArray.size:Int)).toNat=j:=by
   rw[seqIndex_neg qR U]at h1;rw[du,<-hl];exact jv h1
  exact subscriptTail_builtinR (x:=w) B.isList.typeIs slot_list_getitem.lookup
   (wpAny_getItem_list_neg (Q:=λ r s'=>r=w/\EP X af σ Q r s') B.isList qR (by rw[du]<;>lia) qR (by rw[G];simpa using L) ⟨rfl,fin⟩) J
theorem kg:jm X (rE X.K):=by
 intro value n af s σ H x y v u Q I G J h L;obtain ⟨p,xs,i,z,rfl,rfl,M,N,q⟩:=h;cases G;obtain ⟨t,rfl⟩:=J;obtain ⟨its,r,D,R⟩:=I.tuple M;obtain ⟨j,h1,h2,S,U,Y⟩:=y6 N;obtain ⟨w,O,B⟩:=r.get h2;have hl:=r.length;have Z:=pW;have fin:EP X af σ Q w s:=⟨z,H,I,B,q⟩;exact subscriptTail_builtinR (x:=w) D.typeIs slot_tuple_getitem.lookup
  (getItem_tuple (j:=j) (Q:=λ r s'=>r=w/\EP X af σ Q r s') D qR qR (by rw[du,<-hl];exact h1) (by simpa using O) ⟨rfl,fin⟩) L
theorem jf:jm X oy:=by
 intro value n af s σ H x y v u Q I B D h G;obtain⟨z,i,c,rfl,rfl,R,J,q⟩:=h;obtain⟨t,rfl⟩:=B;obtain⟨S,rfl⟩:=D;obtain⟨j,h1,h2,U,L,M⟩:=y6 J;have hl:z.cps.toList.length=z.length:=by simp[Str.length]
 rw[hl]at h1 L M;have Y:=pW;exact tail_any (typeIs_str s z t) slot_str_getitem.lookup (getItem_str (c:=c) (by
  have N:decide (i< -(2^63:Int))=false:=UN qR;have O:decide (i>=2^63)=false:=UN qR;rw[N,O,Bool.or_false]) (by rw[h1];simpa using h2) ⟨.str ⟨#[c]⟩,H,I.tok _,⟨_,rfl⟩,q⟩) G
def yh(K:X0):R2:=λ x y H Q=>rF K x y H Q\/rE K x y H Q\/oy x y H Q
theorem Eu:jm X (yh X.K):=ja.or (kg.or jf)
theorem NZ(its:List Y1)(n j:Nat)(u:Y1):Uv (·.setIfInBounds j u) {cls:=.type "list",data:=.seq its.toArray n}={cls:=.type "list",data:=.seq (its.set j u).toArray n}:=by
 simp[Uv]
theorem Inv.lst{af:List (V0×Obj)}{σ:St}{H:Hp}{s:Z1}{p:V0}{xs:List V}(I:Inv X af σ H s)(h:H p=some (.lst xs)):∃(its:List Y1)(n:Nat),aI xs its/\s.heap.get? p=some {cls:=.type "list",data:=.seq its.toArray n}/\xs.length<=Ru:=by
 obtain⟨z,its,n,r,e⟩:=I.hok p _ h;exact⟨its,n,r,e,z⟩
theorem Inv.lstUpd{af:List (V0×Obj)}{σ:St}{H:Hp}{s:Z1}{p:V0}{xs ys:List V}{its its':List Y1}{n n':Nat}{f:Obj->Obj}(I:Inv X af σ H s)(h:H p=some (.lst xs))(j:s.heap.get? p=some {cls:=.type "list",data:=.seq its.toArray n})(i:f {cls:=.type "list",data:=.seq its.toArray n}={cls:=.type "list",data:=.seq its'.toArray n'})(r:aI ys its')(hz:ys.length<=Ru)(t:Nat):Inv X af σ (ar H p (.lst ys)) {s with heap:=s.heap.update p f,toks:=t}:=by
 have e:(s.heap.update p f).get? p=some {cls:=.type "list",data:=.seq its'.toArray n'}:=by
  rw[RY f j (by rw[i]<;>rfl),i]
 refine I.write (x:=p) (e:=p) (by rw[h];trivial) (.inl rfl) (λ b u y q=>(RF _ _ (Ne.symm y)).trans q) ⟨_,e⟩ ?_;exact⟨hz,its',n',r,e⟩
def Im:V->V->V->Hp->(Hp->Prop)->Prop:=λ o i v H Q=>∃p xs k j,o=.ref p/\i=.int k/\H p=some (.lst xs)/\iq xs.length k=some j/\Q (ar H p (.lst (xs.set j v)))
theorem MU:px X Im:=by
 intro af s σ H o i v U Y u Q I M N O h;obtain⟨p,xs,k,j,rfl,rfl,B,R,q⟩:=h;cases M;obtain⟨t,rfl⟩:=N;obtain⟨its,n,r,y,S⟩:=I.lst B;obtain⟨h1,h2,D,G⟩:=FK R;have hl:=r.length;have Z:=pW;have J:Inv X af σ (ar H p (.lst (xs.set j v))) {s with heap:=s.heap.update p (Uv (·.setIfInBounds j u))}:=
  I.lstUpd B y (NZ its n j u) (r.set O j) (by rw[List.length_set];exact S) s.toks
 by_cases L:0<=k
 ·have z:k.toNat=j:=by
   rw[seqIndex_of L G]at h1;exact jv h1
  exact W.ki_setAt y L qR (by rw[du,<-hl];exact G) (by rw[z];exact⟨_,J,q⟩)
 ·have z:(k+(its.toArray.size:Int)).toNat=j:=by
   rw[seqIndex_neg qR D]at h1;rw[du,<-hl];exact jv h1
  exact W.ki_setBack y qR (by rw[du,<-hl];exact D) qR (by rw[z];exact⟨_,J,q⟩)
theorem Hr(lo hi:Option Int)(n:Nat):(SJ lo hi none n).1=((HT.bV n 0 lo:Nat):Int)/\(SJ lo hi none n).2.1=((HT.bV n n hi:Nat):Int)/\(SJ lo hi none n).2.2=1:=by
 refine⟨?_,?_,rfl⟩
 ·cases lo with
  |none=>simp[SJ,HT.bV]
  |some i=>
   simp only[SJ,HT.bV,Option.getD_none,show(1:Int)>0 by decide,if_true];by_cases h:i<0
   ·simp only[h,if_true]<;>lia
   ·simp only[h,if_false]<;>lia
 ·cases hi with
  |none=>simp[SJ,HT.bV]
  |some i=>
   simp only[SJ,HT.bV,Option.getD_none,show(1:Int)>0 by decide,if_true];by_cases h:i<0
   ·simp only[h,if_true]<;>lia
   ·simp only[h,if_false]<;>lia
theorem HB(its:List Y1)(lo hi:Option Int):slicePick its.toArray lo hi none=((its.drop (HT.bV its.length 0 lo)).take (HT.bV its.length its.length hi-HT.bV its.length 0 lo)).toArray:=by
 obtain⟨h1,h2,i⟩:=Hr lo hi its.toArray.size;unfold slicePick;rw[h1,h2,i];simp only[sliceRange_one,pick_run,du]<;>rfl
def hG(K:X0):V->Option Int->Option Int->Hp->VK->Prop:=λ x lo hi H Q=>∃a xs,x=.ref a/\az K H a xs/\∀p,H p=none->Q (.ref p) (ar H p (.lst (cY xs lo hi)))
theorem qb:tR X (hG X.K):=by
 intro af s σ H x v J L lo hi M Q I n y z B h;obtain⟨a,xs,rfl,D,q⟩:=h;cases n;obtain⟨its,r,j,G⟩:=I.list D;have i:=r.length;refine⟨"list",_,slot_list_getitem.lookup,j.isList.typeIs,?_⟩;refine wpAny_getItem_list_slice j.isList y z B .none (by simp) ?_ (by rw[du]<;>lia);rw[HB,<-i];refine⟨.ref s.heap.objs.size,_,I.laid (t':=s.toks) (o:=.lst (cY xs lo hi)) (λ b N q=>Rp _ q) (aQ _) ?_,rfl,q _ (I.hok.fresh (aQ _))⟩;exact⟨bR (Dv xs lo hi) G,_,0,(r.drop (HT.bV xs.length 0 lo)).take (HT.bV xs.length xs.length hi-HT.bV xs.length 0 lo),RC _ rfl⟩
def je:V->Bool
 | .non=>true
 | .bl _=>true
 | .int _=>true
 | .str _=>true
 |_=>false
def m_:V->V->Bool
 | .non,.non=>true
 | .bl a,.bl b=>a==b
 | .bl a,.int b=>(if a then 1 else 0)==b
 | .int a,.bl b=>a==(if b then 1 else 0)
 | .int a,.int b=>a==b
 | .str a,.str b=>a==b
 |_,_=>false
theorem Ke{A:N1}{s:Z1}{y x:V}{u v:Y1}(n:RelV y u)(i:RelV x v)(B:je y=true)(z:je x=true):SeqAt.EqAt A s u v (m_ y x):=by
 cases y with
 |non=>
  cases n;cases x with
  |non=>cases i;exact SeqAt.EqAt.same _
  |bl b=>cases i;exact SeqAt.EqAt.none_bool b
  |int b=>obtain⟨t,rfl⟩:=i;exact SeqAt.EqAt.none_int b t
  |str b=>obtain⟨t,rfl⟩:=i;exact SeqAt.EqAt.none_str b t
  |_=>exact UM (show false=true from z) dO
 |bl a=>
  cases n;cases x with
  |non=>cases i;exact SeqAt.EqAt.bool_none a
  |bl b=>cases i;exact SeqAt.EqAt.bool_bool a b
  |int b=>obtain⟨t,rfl⟩:=i;exact SeqAt.EqAt.bool_int a b t
  |str b=>obtain⟨t,rfl⟩:=i;exact SeqAt.EqAt.bool_str a b t
  |_=>exact UM (show false=true from z) dO
 |int a=>
  obtain⟨j,rfl⟩:=n;cases x with
  |non=>cases i;exact SeqAt.EqAt.int_none a j
  |bl b=>cases i;exact SeqAt.EqAt.int_bool a j b
  |int b=>obtain⟨t,rfl⟩:=i;exact SeqAt.EqAt.int_int a j b t
  |str b=>obtain⟨t,rfl⟩:=i;exact SeqAt.EqAt.int_str a j b t
  |_=>exact UM (show false=true from z) dO
 |str a=>
  obtain⟨j,rfl⟩:=n;cases x with
  |non=>cases i;exact SeqAt.EqAt.str_none a j
  |bl b=>cases i;exact SeqAt.EqAt.str_bool a j b
  |int b=>obtain⟨t,rfl⟩:=i;exact SeqAt.EqAt.str_int a j b t
  |str b=>obtain⟨t,rfl⟩:=i;exact SeqAt.EqAt.str_str a j b t
  |_=>exact UM (show false=true from z) dO
 |_=>exact UM (show false=true from B) dO
def lU(x:V)(u:Y1):Bool:=match u with
 | .none=>m_ .non x
 | .bool b=>m_ (.bl b) x
 | .int i _=>m_ (.int i) x
 | .str z _=>m_ (.str z) x
 |_=>false
theorem EC{x y:V}{u:Y1}(r:RelV y u)(f:je y=true):lU x u=m_ y x:=by
 cases y with
 |non=>cases r;rfl
 |bl b=>cases r;rfl
 |int i=>obtain⟨t,rfl⟩:=r;rfl
 |str z=>obtain⟨t,rfl⟩:=r;rfl
 |_=>exact UM (show false=true from f) dO
theorem yT{x:V}:∀{xs:List V}{us:List Y1},aI xs us->xs.all je=true->us.any (lU x)=xs.any λ y=>m_ y x
 |_,_,.nil,_=>rfl
 |y::xs,u::us,.cons r t,f=>by
  rw[oA,fV]at f;rw[rV,rV,EC r f.1,yT t f.2]
theorem zK{A:N1}{s:Z1}{x:V}{v:Y1}(j:RelV x v)(n:je x=true):∀{xs:List V}{us:List Y1},aI xs us->xs.all je=true->∀u∈us,SeqAt.EqAt A s u v (lU x u)
 |_,_,.nil,_=>λ u i=>by cases i
 |y::xs,u::us,.cons r t,f=>λ z i=>by
  rw[oA,fV]at f;rcases de.mp i with rfl|i
  ·rw[EC r f.1];exact Ke r j f.1 n
  ·exact zK j n t f.2 z i
def iM(x:V)(xs:List V):Bool:=xs.any λ y=>m_ y x
def lF(K:X0)(neg:Bool):R2:=λ x y H Q=>∃p xs,y=.ref p/\(az K H p xs\/ay K H p xs)/\je x=true/\xs.all je=true/\Q (.bl (if neg then !iM x xs else iM x xs)) H
theorem nG:d7 X (R4 .In) (lF X.K false):=by
 intro af s σ H x y v u Q I z D h;obtain⟨p,xs,rfl,i,B,fs,q⟩:=h;cases D;rcases i with i|i
 ·obtain⟨its,r,j,G⟩:=I.list i;refine SeqAt.in_listAt (lU x) j.isList (λ w n=>zK z B r fs w (by simpa using n)) ⟨.bl _,H,I,rfl,?_⟩;rw[show its.toArray.any (lU x)=its.any (lU x)by simp,yT r fs];exact q
 ·obtain⟨its,r,j,G⟩:=I.tuple i;refine SeqAt.in_tupleAt (lU x) j (λ w n=>zK z B r fs w (by simpa using n)) ⟨.bl _,H,I,rfl,?_⟩;rw[show its.toArray.any (lU x)=its.any (lU x)by simp,yT r fs];exact q
theorem Dr:gN X (.builtin "len") (λ xs H Q=>∃p ys,xs=[.ref p]/\(az X.K H p ys\/ay X.K H p ys)/\Q (.int ys.length) H):=by
 intro af s σ H xs us Q I r h;obtain⟨p,ys,rfl,j,q⟩:=h;obtain⟨u,rfl,z⟩:=kj r;cases z;have D:=pW;rcases j with j|j
 ·obtain⟨its,n,y,B⟩:=I.list j;have i:=n.length;exact Calls.call_len_list y.isList (by simp only[du]<;>lia) ⟨.int ys.length,H,I.tok _,⟨s.toks+1,by rw[du,i]⟩,q⟩
 ·obtain⟨its,n,y,B⟩:=I.tuple j;have i:=n.length;exact len_tuple y (by simp only[du]<;>lia) ⟨.int ys.length,H,I.tok _,⟨s.toks+1,by rw[du,i]⟩,q⟩
theorem nJ:gN X (.builtin "len") (λ xs H Q=>∃z,xs=[.str z]/\z.length<=Ru/\Q (.int z.length) H):=by
 intro af s σ H xs us Q I r h;obtain⟨z,rfl,i,q⟩:=h;obtain⟨u,rfl,t,rfl⟩:=kj r;have j:=pW;exact len_str qR ⟨.int z.length,H,I.tok _,⟨_,rfl⟩,q⟩
theorem Ds:gN X (.type "list") (λ xs H Q=>∃p ys,xs=[.ref p]/\(az X.K H p ys\/ay X.K H p ys)/\∀l,H l=none->Q (.ref l) (ar H l (.lst ys))):=by
 intro af s σ H xs us Q I r h;obtain⟨p,ys,rfl,y,q⟩:=h;obtain⟨u,rfl,L⟩:=kj r;cases L;have fin:∀(its:List Y1),aI ys its->ys.length<=Ru->∀(h':M1)(i:Nat),(∀b o',s.heap.get? b=some o'->h'.get? b=some o')->
   h'.get? s.heap.objs.size=some {cls:=.type "list",dict:=none,data:=.seq its.toArray i,slots:=#[]}->EP X af σ Q (.ref s.heap.objs.size) {s with heap:=h'}:=λ its j z h' i kp e=>
  ⟨.ref s.heap.objs.size,_,I.laid (t':=s.toks) kp (aQ _) (show bh X.prog X.w _ h' _ (.lst ys)from⟨z,its,i,j,e⟩),rfl,q _ (I.hok.fresh (aQ _))⟩
 rcases y with y|y
 ·obtain⟨its,j,D,z⟩:=I.list y;have B:=j.length;obtain⟨o,G,J,n,hd⟩:=D.isList;exact call_list_seq p (.inl rfl) G J hd (λ h' i kp e=>fin its j z h' i kp e) (by simp only[du]<;>lia)
 ·obtain⟨its,j,D,z⟩:=I.tuple y;have B:=j.length;obtain⟨o,G,J,n,hd⟩:=D;exact call_list_seq p (.inr rfl) G J hd (λ h' i kp e=>fin its j z h' i kp e) (by simp only[du]<;>lia)
theorem ji:gN X (.type "tuple") (λ xs H Q=>∃p ys,xs=[.ref p]/\((az X.K H p ys/\∀l,H l=none->Q (.ref l) (ar H l (.tup ys)))\/(ay X.K H p ys/\Q (.ref p) H))):=by
 intro af s σ H xs us Q I r h;obtain⟨p,ys,rfl,h⟩:=h;obtain⟨u,rfl,D⟩:=kj r;cases D;rcases h with⟨i,q⟩|⟨i,q⟩
 ·obtain⟨its,j,n,y⟩:=I.list i;have z:=j.length;refine call_tuple_list n.isList (λ h' kp=>?_) (by simp only[du]<;>lia);have B:Inv X af σ H {s with heap:=h'}:=I.kept (t':=s.toks) kp;have G:Inv X af σ (ar H h'.objs.size (.tup ys)) {s with heap:=h'.push {cls:=.type "tuple",data:=.seq its.toArray}}:=
   B.laid (t':=s.toks) (λ b o e=>Rp _ e) (aQ _) (show bh X.prog X.w _ _ _ (.tup ys)from⟨⟨y,xM⟩,its,j,IsTup.new _ _⟩)
  exact⟨.ref h'.objs.size,_,G,rfl,q _ (B.hok.fresh (aQ _))⟩
 ·obtain⟨its,j,n,y⟩:=I.tuple i;exact call_tuple_same n ⟨.ref p,H,I,rfl,q⟩
def qT(K:X0)(T:String)(x:V)(H:Hp):Prop:=match x with
 | .str _=>T="str"
 | .int _=>T="int"
 | .ref p=>(T="list"/\∃xs,az K H p xs)\/(T="tuple"/\∃o,K.lookup p=some o/\o.cls=.type "tuple"/\o.dict=none)\/
   (T="dict"/\((∃i,H p=some (.dK i))\/∃i,H p=some (.dT i)))\/(T="set"/\∃S n,H p=some (.set S n))
 |_=>False
theorem EO{af:List (V0×Obj)}{σ:St}{H:Hp}{s:Z1}{T:String}{x:V}{v:Y1}(I:Inv X af σ H s)(r:RelV x v)(ty:qT X.K T x H):s.TypeIs v T/\∀a,v=.ref a->∃D,s.heap.get? a=some D/\D.dict=none:=by
 cases x with
 |str z=>
  obtain⟨t,rfl⟩:=r;cases(show T="str" from ty);exact⟨typeIs_str s z t,λ ω e=>nomatch e⟩
 |int i=>
  obtain⟨t,rfl⟩:=r;cases(show T="int" from ty);exact⟨typeIs_int s i t,λ ω e=>nomatch e⟩
 |ref p=>
  cases r;rcases ty with⟨rfl,xs,J⟩|⟨rfl,o,j,L,hd⟩|⟨rfl,j⟩|⟨rfl,S,n,j⟩
  ·obtain⟨its,ω,G,ω⟩:=I.list J;refine⟨G.isList.typeIs,λ a e=>?_⟩;cases e;obtain⟨o,n,e,c,hd,ω⟩:=G;exact⟨o,e,hd⟩
  ·refine⟨⟨o,I.kIn p o j,L⟩,λ a e=>?_⟩;cases e;exact⟨o,I.kIn _ o j,hd⟩
  ·have z:∃o,s.heap.get? p=some o/\o.ExactDict:=by
    rcases j with⟨y,j⟩|⟨y,j⟩
    ·obtain⟨ω,ω,ω,ω,o,ω,ω,e,ex,ω⟩:=I.hok p _ j;exact⟨o,e,ex⟩
    ·obtain⟨ω,ω,ω,ω,o,ω,ω,e,ex,ω⟩:=I.hok p _ j;exact⟨o,e,ex⟩
   obtain⟨o,e,ex⟩:=z;refine⟨⟨o,e,ex.1⟩,λ a B=>?_⟩;cases B;exact⟨o,e,ex.2.1⟩
  ·obtain⟨o,ω,ω,ω,e,ex,ω⟩:=I.hok p _ j;refine⟨⟨o,e,ex.1⟩,λ a B=>?_⟩;cases B;exact⟨o,e,ex.2.1⟩
 |_=>exact False.elim ty
def oh(K:X0)(T:String)(r:V->List V->Hp->VK->Prop)(to:TE):TE:=λ σ H Q=>to σ H λ x H1=>qT K T x H1/\r x [] H1 Q
def xW(K:X0)(T:String)(r:V->List V->Hp->VK->Prop)(to:TE)(t:TA):TE:=λ σ H Q=>to σ H λ x H1=>qT K T x H1/\t σ H1 λ xs H2=>r x xs H2 Q
variable{o e:Expr}{es:List Expr}{to:TE}{t:TA}{name:U1}{apos cpos:Pos}{T id:String}{r:V->List V->Hp->VK->Prop}
theorem JR(B:PlainAttrs T)(n:Slot T name id)(y:typeOf (.builtin id)=pure (.type "method_descriptor"))(D:xc X id r)(G:PE X o to)(i:SQ o name X.env (RJ o X.env)=RJ o X.env:=by rfl)(j:(apos.endLine==cpos.line)=true:=by rfl):PE X (.Call (.Attribute o name apos) [] [] cpos) (oh X.K T r to):=by
 intro af s σ H Q I h;refine wpAny_Call_method0_late i j (aW (G af s σ H _ I h) λ v J hz_=>?_);obtain⟨x,H1,z,r1,ty,L⟩:=hz_;obtain⟨h1,h2⟩:=EO z r1 ty;exact⟨T,id,B,n,y,h1,h2,Sl rfl (PySem.evalArgs_none (D af J σ H1 x [] v [] Q z r1 .nil L))⟩
theorem gM(J:PlainAttrs T)(y:Slot T name id)(B:typeOf (.builtin id)=pure (.type "method_descriptor"))(L:xc X id r)(M:PE X o to)(N:PA X (e::es) t)(j:SQ o name X.env (RJ o X.env)=RJ o X.env:=by rfl)(z:((RK cpos (Rt (e::es) X.env)).all (λ x=>!x.1)&&(Sy cpos (RX [] X.env)).all (λ x=>x.1.isSome)&&decide ((e::es).length+([]:List Keyword).length+(if([]:List Keyword).isEmpty then 0 else 1)<30))=true:=by rfl)(n:(apos.endLine==cpos.line)=true:=by rfl)(O:Rt (e::es) X.env=(false,RJ e X.env)::Rt es X.env:=by rfl)(i:(RK cpos (Rt es X.env)).any (·.1)=false:=by rfl):PE X (.Call (.Attribute o name apos) (e::es) [] cpos) (xW X.K T r to t):=by
 intro af s σ H Q I h;refine wpAny_Call_method_late j z n rfl (aW (M af s σ H _ I h) λ v R hz_=>?_);obtain⟨x,H1,D,r1,ty,S⟩:=hz_;obtain⟨h1,h2⟩:=EO D r1 ty;refine⟨T,id,J,y,B,h1,h2,?_⟩;have G:=N cpos af R σ H1 _ D S;rw[O]at G ⊢;refine Sl (by show(false||(RK cpos (Rt es X.env)).any (·.1))=false;rw[i]<;>rfl) (Ta ?_);refine aW G λ us U hz_=>?_;obtain⟨vs,H2,Y,Z,q2⟩:=hz_;exact L af U σ H2 x vs v us Q Y r1 Z q2
end
end L2
namespace L2
open PySem PySem.Spec PyProof.Rows
def Al(X:Cx)(id:String)(r:V->List V->Hp->VK->Prop):Prop:=
 ∀(af:List (V0×Obj))(s:Z1)(σ:St)(H:Hp)(x:V)(xs:List V)(v:Y1)(us:List Y1)(Q:VK),Inv X af σ H s->RelV x v->aI xs us->r x xs H Q->
  Rz (RD X.prog X.w) X.A (call (.builtin id) (v::us)) (EP X af σ Q) X.xe s
theorem aI.one:∀{x:V}{us:List Y1},aI [x] us->∃u,us=[u]/\RelV x u:=λ h=>by
 cases h with
 |cons r h=>cases h;exact⟨_,rfl,r⟩
theorem aI.two:∀{x y:V}{us:List Y1},aI [x,y] us->∃u v,us=[u,v]/\RelV x u/\RelV y v:=λ h=>by
 cases h with
 |cons r h=>
  cases h with
  |cons q h=>cases h;exact⟨_,_,rfl,r,q⟩
theorem aI.zero:∀{us:List Y1},aI [] us->us=[]
 |_,.nil=>rfl
variable{xs:List V}
theorem aI.dropLast{us:List Y1}(h:aI xs us):aI xs.dropLast us.dropLast:=by
 induction h with
 |nil=>exact .nil
 |cons r t i=>
  cases t with
  |nil=>exact .nil
  |cons q j=>exact .cons r i
theorem aI.reverse{us:List Y1}(h:aI xs us):aI xs.reverse us.reverse:=by
 induction h with
 |nil=>exact .nil
 |cons r t i=>rw[uA,uA];exact aI.append i (.cons r .nil)
theorem aI.rep{us:List Y1}(h:aI xs us):∀k:Nat,aI (e_ k xs).flatten (e_ k us).flatten
 |0=>.nil
 |k+1=>by
  rw[rT,rT,mV,mV];exact aI.append h (aI.rep h k)
theorem N2{α:Type}(l:List α):l.eraseIdx (l.length-1)=l.dropLast:=by
 induction l with
 |nil=>rfl
 |cons a r i=>
  cases r with
  |nil=>rfl
  |cons b r=>
   have e:(a::b::r).length-1=((b::r).length-1)+1:=by
    have h1:(a::b::r).length=r.length+2:=rfl;have h2:(b::r).length=r.length+1:=rfl;lia
   rw[e,List.eraseIdx_cons_succ,i];all_goals rfl
theorem BU(its:List Y1):∀(k:Nat)(i:List Y1),List.foldl (λ j n=>j++n) i.toArray (e_ k its.toArray)=(i++(e_ k its).flatten).toArray
 |0,i=>by simp
 |k+1,i=>by
  have e:i.toArray++its.toArray=(i++its).toArray:=by simp
  have y:(i++its)++(e_ k its).flatten=i++(e_ (k+1) its).flatten:=by
   rw[rT,mV,eU]
  rw[<-y,<-BU its k (i++its),<-e,rT,List.foldl_cons]
section
variable{X:Cx}{af:List (V0×Obj)}{σ:St}{H:Hp}{s:Z1}{l b:V0}{xs ys zs:List V}
theorem Inv.lset{its its':List Y1}{n:Nat}{f:Array Y1->Array Y1}{t':Nat}(I:Inv X af σ H s)(i:H l=some (.lst xs))(e:s.heap.get? l=some {cls:=.type "list",data:=.seq its.toArray n})(j:f its.toArray=its'.toArray)(y:aI ys its')(hz:ys.length<=Ru):Inv X af σ (ar H l (.lst ys)) {s with heap:=s.heap.update l (Uv f),toks:=t'}:=by
 have q:=PySem.IsL.update e f;rw[j]at q;refine I.write (x:=l) (e:=l) (by rw[i];exact trivial) (.inl rfl) (λ D u z B=>(RF s.heap (Uv f) (Ne.symm z)).trans B) ⟨_,q⟩ ?_;exact⟨hz,its',_,y,q⟩
theorem Inv.lnew{its:List Y1}{t':Nat}(I:Inv X af σ H s)(i:aI ys its)(hz:ys.length<=Ru):Inv X af σ (ar H s.heap.objs.size (.lst ys)) {s with heap:=s.heap.push {cls:=.type "list",data:=.seq its.toArray},toks:=t'}:=
 I.laid (λ ω ω q=>Rp _ q) (aQ _) ⟨hz,its,0,i,RC _ rfl⟩
theorem Inv.fresh(I:Inv X af σ H s):H s.heap.objs.size=none:=I.hok.fresh (aQ _)
theorem Inv.lstM(I:Inv X af σ H s)(i:H l=some (.lst xs)):xs.length<=Ru/\∃(its:List Y1)(n:Nat),aI xs its/\xs.length=its.length/\s.heap.get? l=some {cls:=.type "list",data:=.seq its.toArray n}:=by
 obtain⟨z,its,n,r,e⟩:=I.hok l _ i;exact⟨z,its,n,r,r.length,e⟩
theorem Bq{n:Nat}(h:n<=Ru):SE n=false:=by
 unfold SE;exact UN qR
end
section
variable{X:Cx}
def yV:V->List V->Hp->VK->Prop:=λ x vs H Q=>∃l xs y,x=.ref l/\vs=[y]/\H l=some (.lst xs)/\xs.length<Ru/\Q .non (ar H l (.lst (xs++[y])))
theorem jG:Al X "list.append" yV:=by
 intro af s σ H x vs v us Q I j B h;obtain⟨l,xs,y,rfl,rfl,i,G,q⟩:=h;cases j;obtain⟨u,rfl,D⟩:=B.one;obtain⟨z,its,n,r,hl,e⟩:=I.lstM i;refine Uw F.slot_list_append ⟨_,e,rfl⟩ F.entry_list_append (F.args_list_append_2 _ _) (PySem.list_append l its.toArray n u (by rw[du];lia)) ⟨e,?_⟩;refine⟨.non,_,I.lset (its':=its++[u]) i e (by simp) (r.append (.cons D .nil)) ?_,rfl,q⟩;rw[bX,List.length_singleton];lia
def FN:V->List V->Hp->VK->Prop:=λ x vs H Q=>∃l b xs zs,x=.ref l/\vs=[.ref b]/\H l=some (.lst xs)/\H b=some (.lst zs)/\xs.length+zs.length<=Ru/\Q .non (ar H l (.lst (xs++zs)))
theorem Nn:Al X "list.extend" FN:=by
 intro af s σ H x vs v us Q I D G h;obtain⟨l,b,xs,zs,rfl,rfl,B,hB,R,q⟩:=h;cases D;obtain⟨u,rfl,J⟩:=G.one;cases J;obtain⟨z,its,n,r,hl,e⟩:=I.lstM B;obtain⟨S,i,L,M,N,O⟩:=I.lstM hB;have y:its.toArray.size+i.toArray.size<=Ru:=by rw[du,du];lia
 have j:¬(!its.toArray.isEmpty&&SE (its.toArray.size+i.toArray.size))=true:=by
  rw[Bq y,Bool.and_false];exact dO
 refine Uw F.slot_list_extend ⟨_,e,rfl⟩ F.entry_list_extend (F.args_list_extend_2 _ _)
  (AutoSeq1.list_extend_list_list_0 l its.toArray n b i.toArray L j (by rw[du];lia) qR) ⟨e,O,?_⟩
 refine⟨.non,_,I.lset (its':=its++i) B e (by simp) (r.append M) ?_,rfl,q⟩;rw[bX];lia
def oq:V->List V->Hp->VK->Prop:=λ x vs H Q=>∃l xs y,x=.ref l/\vs=[]/\H l=some (.lst xs)/\xs[xs.length-1]?=some y/\Q y (ar H l (.lst xs.dropLast))
theorem Kx:Al X "list.pop" oq:=by
 intro af s σ H x vs v us Q I D G h;obtain⟨l,xs,y,rfl,rfl,B,J,q⟩:=h;cases D;have i:=G.zero;subst i;obtain⟨z,its,n,r,hl,e⟩:=I.lstM B;obtain⟨u,L,M⟩:=r.get J;have j:its.toArray[its.toArray.size-1]?=some u:=by
  show its.toArray[its.length-1]?=some u;rw[<-Array.getElem?_toList,<-hl];exact L
 refine Uw F.slot_list_pop ⟨_,e,rfl⟩ F.entry_list_pop (F.args_list_pop_1 _) (MeetsSeq.list_pop_last l its.toArray n u j (by rw[du];lia)) ⟨e,?_⟩;refine⟨y,_,I.lset (its':=its.dropLast) B e ?_ r.dropLast ?_,M,q⟩
 ·show its.toArray.eraseIdxIfInBounds (its.toArray.size-1)=its.dropLast.toArray;rw[du,List.eraseIdxIfInBounds_toArray,N2]
 ·rw[List.length_dropLast];lia
def rH:R2:=λ x y H Q=>∃l b xs zs,x=.ref l/\y=.ref b/\H l=some (.lst xs)/\H b=some (.lst zs)/\xs.length+zs.length<=Ru/\∀p,H p=none->Q (.ref p) (ar H p (.lst (xs++zs)))
theorem iQ:d7 X (Sx .Add) rH:=by
 intro af s σ H x y v u Q I j B h;obtain⟨l,b,xs,zs,rfl,rfl,D,hB,N,q⟩:=h;cases j;cases B;obtain⟨z,its,n,r,hl,e⟩:=I.lstM D;obtain⟨O,i,R,G,J,L⟩:=I.lstM hB;refine PySem.P.add_list e L ?_ (by rw[du,du];lia);have M:its.toArray++i.toArray=(its++i).toArray:=by simp
 rw[M];exact⟨.ref _,_,I.lnew (t':=s.toks) (r.append G) (by rw[bX];lia),rfl,q _ I.fresh⟩
def rD:R2:=λ x y H Q=>∃l k xs,x=.ref l/\y=.int k/\H l=some (.lst xs)/\-(2^63)<=k/\k<2^63/\xs.length*k.toNat<=Ru/\
 ∀p,H p=none->Q (.ref p) (ar H p (.lst (e_ k.toNat xs).flatten))
theorem Ld{α:Type}(xs:List α)(k:Nat):(e_ k xs).flatten.length=k*xs.length:=by
 induction k with
 |zero=>simp
 |succ k i=>rw[rT,mV,bX,i,Nat.succ_mul,Nat.add_comm]
theorem EJ:d7 X (Sx .Mult) rD:=by
 intro af s σ H x y v u Q I N O h;obtain⟨l,k,xs,rfl,rfl,R,h1,h2,M,q⟩:=h;cases N;obtain⟨t,rfl⟩:=O;obtain⟨z,its,n,r,hl,e⟩:=I.lstM R;have j:its.toArray.size*k.toNat<=Ru:=by rw[du,<-hl];exact M
 have B:¬its.toArray.size*k.toNat>(2^63-1)/8:=by
  have:(Ru:Nat)<=(2^63-1)/8:=by decide
  lia
 have D:¬(!Builtin.List.listFitsIndex k)=true:=by
  rw[fitsIndex_both h1 h2];exact dO
 have i:¬SE (its.toArray.size*k.toNat)=true:=by
  rw[Bq j];exact dO
 have G:List.foldl (λ J L=>J++L) #[] (e_ (if its.toArray.isEmpty=true then 0 else k.toNat) its.toArray)=(e_ k.toNat its).flatten.toArray:=by
  have S:∀m:Nat,List.foldl (λ J L=>J++L) #[] (e_ m its.toArray)=(e_ m its).flatten.toArray:=λ m=>by
   have:=BU its m [];rw[mU]at this;exact this
  rw[S];cases its with
  |nil=>simp
  |cons a Y=>rw[UK (by simp)]
 refine wpAny_binaryOp_repeat_ref (T:="list") (U:="int") qQ ⟨_,e,rfl⟩ (λ s'=>typeIs_int s' k t) noFill_list_mul F.fills_int_mul F.slot_int_rmul repeat_list F.slot_int_index.lookup
  (Uw F.slot_int_rmul (typeIs_int s k t) F.entry_int_rmul (F.args_int_rmul_2 _ _) (int___rmul___int_list k t l its.toArray n) ⟨e,rfl,⟨_,e,rfl⟩,Uw F.slot_list_mul ⟨_,e,rfl⟩ F.entry_list_mul (F.args_list_mul_2 _ _) (AutoListH.list___mul___list_int_3 l its.toArray n k t D B i) ⟨e,?_⟩⟩)
 rw[G];exact⟨.ref _,_,I.lnew (t':=s.toks) (r.rep k.toNat) (by rw[Ld,Nat.mul_comm];exact M),rfl,q _ I.fresh⟩
end
section
variable{prog:Program}{w:V1}{A:N1}{E:Y1->Z1->Prop}{s:Z1}
set_option maxRecDepth 100000 in
end
end L2
namespace Att
open PySem PySem.W PySem.Calls PyProof.Rows
theorem HD{P:Params}{h:M1}:∀(ns:List Int)(vs:List Y1),WellAll P h vs (ns.map WData.int)->IntsAre vs ns:=by
 intro ns;induction ns with
 |nil=>
  intro vs w;rw[mT]at w;cases w;exact .nil
 |cons n ns i=>
  intro vs w;rw[dJ]at w;cases w with
  |cons a b=>
   cases a;exact .cons _ _ (i _ b)
theorem NI{l:OpenLaw}{n:Nat}(M:l.most=some n){P:Params}{h:M1}{args:List WData}{j:List Y1}(y:l.row.toRowW.claim.pre args=true)(I:WellAll P h j args):∃a vs i,j=[RA a]/\args=[WData.list (i.map WData.int)]/\h.get? a=some {cls:=.type "list",data:=.seq vs.toArray}/\IntsAre vs i/\i.length<=n:=by
 have J:WShape.hasAll [] args [.list .int]=true:=(pre_splitW y).1;have L:l.pre.holds [] {args:=args}=true:=(pre_splitW y).2;obtain⟨d,r,rfl,h1,h2⟩:=hasAllW_cons J;obtain rfl:=hasAllW_nil h2;obtain⟨xs,rfl,N⟩:=hasW_list h1;obtain⟨i,rfl⟩:=items_int N;have z:i.length<=n:=by
  unfold OpenLaw.pre at L;have D:(WTm.not (.lt (.lit (.int (n:Int))) (.len (.arg 0)))).holds [] {args:=[.list (i.map .int)]}=true:=by
   have D:=(holds_andW L).1;rw[M]at D;exact D
  have G:=condW_of D (w_not (w_lt w_lit (w_len_list (w_arg rfl))));rw[bB]at G;refine lK λ q=>?_;have O:(n:Int)<((i.length:Nat):Int):=by lia
  first
   |(rw[UO O]at G;exact UM G qQ)
   |(simp at G;lia)
 cases I with
 |cons R S=>
  cases S;cases R with
  |list U B=>exact⟨_,_,i,rfl,rfl,U,HD i _ B,z⟩
theorem Oe(l:OpenLaw)(args:List WData):l.row.toRowW.claim.post args (.bool true) args=true:=
 postW_of (r:=l.row.toRowW) (X:=(true == true))
  (show WShape.has [] (.bool true) .bool=true by first|rfl|decide|simp[WShape.has,WShape.arms,WShape.armsAll])
  (show(WTm.eq .res (.lit (.bool true))).value [] {args:=args,res:=some (.bool true),after:=args}=some (.bool (true==true))from w_eq_bool (w_res rfl) w_lit) rfl
theorem h_{l:OpenLaw}{n:Nat}{q:Program}{j:List U1}{XP:(U1->Option Y1)->M1->Prop}{YP:V1->M1->Prop}{d:DefRec}(hn:l.most=some n)(N:d.params.defaults=[])(call:∀(w:V1)(s₀ i:Z1)(mg O:U1->Option Y1)(B:V0)(o:Obj)(R L y:Y1)(a:V0)(vs:List Y1)(M:List Int),Ground q j [] XP w s₀ mg O i.heap->YP w i.heap->i.heap.get? B=some o->o.data=.func (docDef d.name d.params d.body d.scope R L y)->i.heap.CodeRec L d.name->mg d.name=some (.ref B)->i.heap.get? a=some {cls:=.type "list",data:=.seq vs.toArray}->IntsAre vs M->M.length<=n->i.gens=#[]->Tq (RD l.prog w) UF (.call (.ref B) ⟨[.ref a],[]⟩) (λ r s'=>r=.ok (.ret (.bool true))/\OldK i.heap s'.heap/\s'.os=i.os/\T6 s'.gens) i):WalkO q j XP YP l.row.toRowW d [] (λ f vs=>PySem.call f vs):=by
 intro w s₀ i mg O G Y B o R L y dV kV ho hd S hD U hg a0 b0 as D c0 d0 Z e0;obtain rfl:dV=.none:=Dflts.none hD N;obtain rfl:kV=.none:=Dflts.noKw hD;obtain⟨a,vs,M,rfl,rfl,I,z,J⟩:=NI hn D Z;refine enter_call (SN (call w s₀ i mg O B o R L y a vs M G Y ho (fd_plain hd) S U I z J hg) λ r s' hq=>?_);obtain⟨rfl,h2,h3,h4⟩:=hq;exact⟨.inl ⟨.bool true,.bool true,[],rfl,λ ω=>rfl,.bool true,Oe l _,λ ω=>⟨List.Pairwise.nil,λ ω hm=>(nomatch hm)⟩⟩,h2,h3,h4⟩
section
variable{prog:Program}{w:V1}{A:N1}{E:Y1->Z1->Prop}{s:Z1}{K:Frag}
def Pl(h:M1)(L d:V0):List (V0×Obj):=(jM h.objs.size).filterMap λ a=>if a=L\/a=d then none else(h.get? a).map λ o=>(a,o)
end
end Att
namespace L2
open PySem PySem.Spec PyProof.Rows
theorem Cq:∀{vs:List Y1}{i:List Int},IntsAre vs i->aI (i.map V.int) vs
 |_,_,.nil=>.nil
 |_,_,.cons n t h=>.cons ⟨t,rfl⟩ (Cq h)
end L2
namespace L2
open PySem PySem.Spec PyProof.Rows
abbrev xf{K:X0}{h:M1}(_:K.In h):X0:=K
end L2
namespace L2
open PySem PySem.Spec PyProof.Rows
abbrev eE:ij:=λ ω ω ω ω ω ω=>False
abbrev E0:XK:=λ ω ω ω=>False
theorem kS{X:Cx}:nu eE X E0:=λ ω ω ω ω ω ω ω h=>h.elim
structure fD(K:X0)(x qual:U1)(st:RH)(f:V0)(fd:RN):Prop where
 ex:∃(oc:Y1)(od:Option V0)(kV doc pm:Y1)(an:Option V0)(cdv ct:Y1)(osl:Array (Option Y1)),
  fd=SK x qual (gO st) (fh st) (bg st) .none kV doc pm an cdv ct/\K.lookup f=some ⟨oc,od,.func fd,osl⟩/\T_ K cdv qual=true
 kp:RM K (.ref f)=true
section
variable{P:Program}{w:V1}{K:X0}{mg:U1->Option Y1}{base:M1}
theorem fD.ok{x qual:U1}{st:RH}{f:V0}{fd:RN}{N ps:List U1}{k:Nat}{sp:Sp}(F:fD K x qual st f fd)(S:bL N ps (bg st))(len:∀vs H Q E,sp vs H Q E->vs.length=ps.length)(i:∀(cdv:Y1)(A:N1)(outer:List Env)(s:Z1)(H:Hp)(vs:List V)(Q:VK)(E:XK),bw k (A.deeper (Tw qual (bg st) s.heap.objs.size f cdv))->sp vs H Q E->∃t,fy (d8 eE P w K mg base N qual (bg st) f cdv A outer s H E).nox (fh st) t/\t {nx:=λ ω H'=>Q .non H',rt:=Q} (jc N vs) H):bc P w K mg base eE (k+1) f fd ps sp:=by
 obtain⟨D,G,kV,y,I,J,cdv,L,z,rfl,B,j⟩:=F.ex;refine AD B j S len λ A outer s H vs Q E hr n=>?_;obtain⟨t,h,q⟩:=i cdv A outer s H vs Q E hr n;exact⟨t,h.nox,q⟩
theorem fD.binds{x qual:U1}{st:RH}{f:V0}{fd:RN}{ps:List U1}(F:fD K x qual st f fd)(h:∀(kV i j:Y1)(n:Option V0)(cdv ct:Y1)(us:List Y1),us.length=ps.length->Tv (SK x qual (gO st) (fh st) (bg st) .none kV i j n cdv ct) ⟨us,[]⟩=pure (ps.zip us)):Binds K fd ps []:=by
 obtain⟨B,D,kV,i,j,n,cdv,ct,y,rfl,G,z⟩:=F.ex;exact .all (h kV i j n cdv ct)
theorem uO{x qual:U1}{st:RH}{f:V0}{z:Y1}{od n:Option V0}{j:Array (Option Y1)}{kV i y cdv ct:Y1}(l:K.lookup f=some ⟨z,od,.func (SK x qual (gO st) (fh st) (bg st) .none kV i y n cdv ct),j⟩)(c:T_ K cdv qual=true)(k:RM K (.ref f)=true):fD K x qual st f (SK x qual (gO st) (fh st) (bg st) .none kV i y n cdv ct):=⟨⟨z,od,kV,i,y,n,cdv,ct,j,rfl,l,c⟩,k⟩
end
theorem Ap{A:N1}{k:Nat}(hr:bw k A):A.units+1<UI:=pR (Nat.add_le_add_left (by decide:1<=64) _) hr.units
section
variable{X:Cx}
theorem pv(i:Nat){x:U1}{pos:Pos}(n:X.N[i]?=some x:=by rfl)(y:nL X.env.scope x:=by first|exact Or.inl rfl|exact Or.inr (Or.inl rfl)|exact Or.inr (Or.inr rfl))(hd:(x==("__debug__":U1))=false:=by decide)(j:(x==("__classdict__":U1))=false:=by decide):PE X (.Name x pos) (jX i):=E6 n y hd j
end
theorem cS{A B:Prop}(h:B):if false=true then A else B:=by
 rw[UK dO];exact h
theorem cp{A B:Prop}(h:A):if true=true then A else B:=by
 rw[UL rfl];exact h
theorem ax{c A B:Prop}[Decidable c](h1:c->A)(h2:¬c->B):if c then A else B:=by
 by_cases h:c
 ·rw[UL h];exact h1 h
 ·rw[UK h];exact h2 h
def ao(H H':Hp):Prop:=∀b o,H b=some o->H' b=some o
theorem ao.refl(H:Hp):ao H H:=λ ω ω h=>h
theorem ao.trans{H H1 H2:Hp}(a:ao H H1)(b:ao H1 H2):ao H H2:=λ c o h=>b c o (a c o h)
theorem ao.free{H H':Hp}(e:ao H H'){l:V0}(h:H' l=Option.none):H l=Option.none:=by
 cases q:H l with
 |none=>rfl
 |some o=>
  rw[e l o q]at h;cases h
theorem ao.seq{K:X0}{H H':Hp}{a:V0}{xs:List V}(e:ao H H')(h:az K H a xs):az K H' a xs:=by
 rcases h with(h|⟨o,h⟩)|h
 ·exact .inl (.inl (e _ _ h))
 ·exact .inl (.inr ⟨o,e _ _ h⟩)
 ·exact .inr h
end L2
end
section
namespace L2
open PySem PySem.Spec PyProof.Rows PySem.SeqAt
mutual
inductive dZ(K:X0)(H:Hp):V->PyData->Prop
 |non:dZ K H .non .none
 |bl(b:Bool):dZ K H (.bl b) (.bool b)
 |int(i:Int):dZ K H (.int i) (.int i)
 |str(x:U1):dZ K H (.str x) (.str x)
 |lst{a:V0}{xs:List V}{ds:List PyData}:az K H a xs->dU K H xs ds->dZ K H (.ref a) (.list ds)
 |tup{a:V0}{xs:List V}{ds:List PyData}:ay K H a xs->dU K H xs ds->dZ K H (.ref a) (.tuple ds)
inductive dU(K:X0)(H:Hp):List V->List PyData->Prop
 |nil:dU K H [] []
 |cons{x:V}{xs:List V}{d:PyData}{ds:List PyData}:dZ K H x d->dU K H xs ds->dU K H (x::xs) (d::ds)
end
section
variable{X:Cx}{af:List (V0×Obj)}{σ:St}{H:Hp}{s:Z1}
mutual
theorem dZ.reads(I:Inv X af σ H s):∀{x:V}{d:PyData}{v:Y1},dZ X.K H x d->RelV x v->∃c,Reads s.heap v d c
 |_,_,_,.non,r=>by cases(show _=RW from r);exact⟨_,.none⟩
 |_,_,_,.bl b,r=>by cases(show _=Tr b from r);exact⟨_,.bool b⟩
 |_,_,_,.int i,r=>by obtain⟨t,e⟩:=(show ∃t,_=Su i t from r);subst e;exact⟨_,.int i t⟩
 |_,_,_,.str x,r=>by obtain⟨t,e⟩:=(show ∃t,_=Uk x t from r);subst e;exact⟨_,.str x t⟩
 |_,_,_,.lst (a:=a) g j,r=>by
  cases(show _=RA a from r);obtain⟨its,m,u,ω⟩:=I.list g;obtain⟨c,w⟩:=dU.reads I j m;obtain⟨o,y,z,n,hd⟩:=u.isList;exact⟨_,.list y z hd (by simpa using w)⟩
 |_,_,_,.tup (a:=a) g j,r=>by
  cases(show _=RA a from r);obtain⟨its,m,u,ω⟩:=I.tuple g;obtain⟨c,w⟩:=dU.reads I j m;obtain⟨o,y,z,n,hd⟩:=u;exact⟨_,.tuple y z hd (by simpa using w)⟩
theorem dU.reads(I:Inv X af σ H s):∀{xs:List V}{ds:List PyData}{vs:List Y1},dU X.K H xs ds->aI xs vs->∃a,ReadsAll s.heap vs ds a
 |_,_,_,.nil,.nil=>⟨_,.nil⟩
 |_,_,_,.cons hd c,.cons r e=>by
  obtain⟨a,g⟩:=dZ.reads I hd r;obtain⟨bs,i⟩:=dU.reads I c e;exact⟨_,.cons g i⟩
end
def lG(K:X0):R2:=λ x y H Q=>∃d e,dZ K H x d/\dZ K H y e/\shaped d=true/\shaped e=true/\Q (.bl (TN d e)) H
def ou(K:X0):R2:=λ x y H Q=>∃d e,dZ K H x d/\dZ K H y e/\shaped d=true/\shaped e=true/\Q (.bl (!TN d e)) H
theorem EM(a:X.A.units+64<UI):d7 X (R4 .Eq) (lG X.K):=by
 intro af s σ H x y v u Q I c g h;obtain⟨d,e,hd,i,j,m,q⟩:=h;obtain⟨w,n⟩:=dZ.reads I hd c;obtain⟨bs,o⟩:=dZ.reads I i g;exact eq_dataH n o j m a ⟨.bl _,H,I,rfl,q⟩
theorem Jz(a:X.A.units+64<UI):d7 X (R4 .NotEq) (ou X.K):=by
 intro af s σ H x y v u Q I c g h;obtain⟨d,e,hd,i,j,m,q⟩:=h;obtain⟨w,n⟩:=dZ.reads I hd c;obtain⟨bs,o⟩:=dZ.reads I i g;exact ne_dataH n o j m a ⟨.bl _,H,I,rfl,q⟩
end
def xE(K:X0):List V->Hp->VK->Prop:=λ c H Q=>∃a d,c=[.ref a]/\dZ K H (.ref a) d/\d.showable=true/\d.hasDict=false/\d.depth<=60/\d.shown.length<=Ru/\Q (.str d.shown) H
theorem C7{X:Cx}(g:X.A.guards=some [])(o:X.A.units+64<UI):gN X (.builtin "repr") (xE X.K):=by
 intro c s v H w us Q I i h;obtain⟨a,d,rfl,hr,j,hd,x,hl,q⟩:=h;obtain⟨u,rfl,m⟩:=i.one;obtain rfl:u=RA a:=m;obtain⟨y,n⟩:=dZ.reads I hr rfl;exact repr_of_reads' n j (λ z=>by rw[hd]at z;cases z) g qR (λ ω ω e=>e) (λ A u B k=>⟨.str d.shown,H,I.kept k,⟨_,rfl⟩,q⟩) hl
theorem MH{K:X0}{H H':Hp}{a:V0}{xs:List V}(h:ay K H a xs)(e:ao H H'):ay K H' a xs:=by
 rcases h with(h|⟨o,h⟩)|h
 ·exact .inl (.inl (e _ _ h))
 ·exact .inl (.inr ⟨o,e _ _ h⟩)
 ·exact .inr h
mutual
theorem dZ.same{K:X0}{H H':Hp}(e:ao H H'):∀{v:V}{d:PyData},dZ K H v d->dZ K H' v d
 |_,_,.non=>.non
 |_,_,.bl b=>.bl b
 |_,_,.int i=>.int i
 |_,_,.str x=>.str x
 |_,_,.lst a c=>.lst (e.seq a) (dU.same e c)
 |_,_,.tup a c=>.tup (MH a e) (dU.same e c)
theorem dU.same{K:X0}{H H':Hp}(e:ao H H'):∀{v:List V}{d:List PyData},dU K H v d->dU K H' v d
 |_,_,.nil=>.nil
 |_,_,.cons h a=>.cons (dZ.same e h) (dU.same e a)
end
end L2
end
section
namespace L2
open PySem PySem.Spec PyProof.Rows
def Cx.block(X:Cx)(N:List U1)(scope:SR)(cl:List (U1×V0))(C:V0)(fp:List V0)(s:Z1)(H:Hp):Cx:=
 {X with N:=N,s₀:=s,H₀:=H,env:=compEnvC scope cl C X.env,outer:=X.stack,stack:=X.stack,ex:=fp,fn:=λ ω=>false,pn:=[],xe:=λ ω ω=>False}
structure aD(X:Cx)(N:List U1)(nl:List (Option Nat))(scope:SR)(cl:List (U1×V0)):Prop where
 kind:scope.kind=.function
 nocell:∀y∈scope.names,y.2≠.cell
 names:∀y∈scope.names,y.2=.local->scope.names.lookup y.1=some .local
 clos:closureFor scope X.env=pure cl
 sub:∀y c,cl.lookup y=some c->X.env.cells.lookup y=some c
 has:∀y,scope.names.lookup y=some .free->∃c,cl.lookup y=some c
 len:nl.length=N.length
 seen:∀(i j:Nat)(y:U1),N[i]?=some y->nl[i]?=some (some j)->X.N[j]?=some y/\scope.names.lookup y=some .free/\(X.env.scope.names.lookup y=some .cell\/X.env.scope.names.lookup y=some .free)
def fS(nl:List (Option Nat))(σ:St):St:=nl.map λ o=>match o with
 |none=>none
 |some j=>(σ[j]?).join
theorem qp{x:U1}{k:TZ}:∀{l:List (U1×TZ)},l.lookup x=some k->(x,k)∈l
 |[],h=>by simp at h
 |(n,q)::r,h=>by
  rw[gG]at h;cases e:x==n with
  |true=>
   rw[e]at h;have:q=k:=by simpa using h
   have a:x=n:=by simpa using e
   rw[this,a];exact cy
  |false=>
   rw[e]at h;exact cV _ (qp h)
theorem z_{env:Env}{x:U1}{k:TZ}:∀{l:List (U1×TZ)},(l.map λ(n,k)=>if(k==RU&&env.scope.kind==.function&&env.kindOf n==some .cell)then(n,Sn)else(n,k)).lookup x=some k->(l.lookup x=some k\/(k=.cell/\l.lookup x=some .free))
 |[],h=>by simp at h
 |(n,q)::r,h=>by
  rw[dJ]at h;cases e:x==n with
  |true=>
   by_cases a:(q==RU&&env.scope.kind==.function&&env.kindOf n==some .cell)=true
   ·simp only[a,if_true,gG,e]at h;have c:q=.free:=by
     rw[fV,fV]at a;simpa using a.1.1
    refine .inr ⟨(by simpa using h.symm),?_⟩;rw[gG,e,c]
   ·change i9 x ((if(q==RU&&env.scope.kind==.function&&env.kindOf n==some .cell)=true then(n,Sn)else(n,q))::_)=some k at h;rw[UK a,gG,e]at h;refine .inl ?_;rw[gG,e];exact h
  |false=>
   have i:(r.map λ(n,k)=>if(k==RU&&env.scope.kind==.function&&env.kindOf n==some .cell)then(n,Sn)else(n,k)).lookup x=some k:=by
    by_cases a:(q==RU&&env.scope.kind==.function&&env.kindOf n==some .cell)=true
    ·simpa only[a,if_true,gG,e]using h
    ·simpa only[a,gG,e,if_false,Bool.false_eq_true]using h
   have j:=z_ (env:=env) i;rw[gG,e];exact j
theorem Du{env:Env}{x:U1}:∀{l:List (U1×TZ)},l.lookup x=some .free->(l.map λ(n,k)=>if(k==RU&&env.scope.kind==.function&&env.kindOf n==some .cell)then(n,Sn)else(n,k)).lookup x=some .cell\/(l.map λ(n,k)=>if(k==RU&&env.scope.kind==.function&&env.kindOf n==some .cell)then(n,Sn)else(n,k)).lookup x=some .free
 |[],h=>by simp at h
 |(n,q)::r,h=>by
  rw[dJ];cases e:x==n with
  |true=>
   rw[gG,e]at h;have i:q=.free:=by simpa using h
   by_cases a:(q==RU&&env.scope.kind==.function&&env.kindOf n==some .cell)=true
   ·left;simp only[a,if_true,gG,e]
   ·right;change i9 x ((if(q==RU&&env.scope.kind==.function&&env.kindOf n==some .cell)=true then(n,Sn)else(n,q))::_)=some .free;rw[UK a,gG,e,i]
  |false=>
   rw[gG,e]at h;have c:=Du (env:=env) (l:=r) h;by_cases a:(q==RU&&env.scope.kind==.function&&env.kindOf n==some .cell)=true
   ·simpa only[a,if_true,gG,e]using c
   ·simpa only[a,gG,e,if_false,Bool.false_eq_true]using c
section
variable{X:Cx}{af:List (V0×Obj)}{σ:St}{H:Hp}{s:Z1}{N:List U1}{nl:List (Option Nat)}{scope:SR}{cl:List (U1×V0)}{fp:List V0}
theorem Oh(I:Inv X af σ H s)(B:aD X N nl scope cl)(i:∀b∈fp,eI X af H b)(j:∀b∈fp,b<s.heap.objs.size){C:V0}(v:s.heap.objs.size<=C):(X.block N scope cl C fp s H).Ok:=by
 have m:∀b∈fQ X.stack,b=X.env.locals\/b∈X.fs:=λ b a=>de.mp (I.stkSub b a);refine⟨I.ok.mod,B.kind,I.ok.glob,I.ok.blt,v,λ x y c w A=>I.ok.inj x y c (B.sub x c w) (B.sub y c A),λ x D=>?_,λ x c h=>(nomatch h),I.ok.hd,I.ok.frames,.inl rfl,λ b a=>⟨?_,λ x c e=>?_⟩,I.bs,bR I.ok.bsz I.sz,λ b o e a=>?_,λ b a E=>?_,I.stack,I.stkFree⟩
 ·have u:(scope.names.map λ(n,k)=>if(k==RU&&X.env.scope.kind==.function&&X.env.kindOf n==some .cell)then(n,Sn)else(n,k)).lookup x=some .cell\/
    (scope.names.map λ(n,k)=>if(k==RU&&X.env.scope.kind==.function&&X.env.kindOf n==some .cell)then(n,Sn)else(n,k)).lookup x=some .free:=D
  rcases u with q|q
  ·rcases z_ q with z|⟨_,z⟩
   ·exact UM rfl (B.nocell _ (qp z))
   ·exact B.has x z
  ·rcases z_ q with z|⟨z,_⟩
   ·exact B.has x z
   ·cases z
 ·exact dY (dv (j b a) v)
 ·exact(i b a).2.2.2.2.1 x c (B.sub x c e)
 ·rcases(i b a).2.2.2.1 with z|z
  ·exact I.ok.noex b o e z
  ·exact UM (dv (Rq (I.ok.bs b o e).1) z) (fH _)
 ·rcases m b E with z|z
  ·exact(i b a).2.1 z
  ·exact(i b a).2.2.1 z
theorem Mc{i:Nat}{v:V}(h:(fS nl σ)[i]?=some (some v)):∃j,nl[i]?=some (some j)/\σ[j]?=some (some v):=by
 unfold fS at h;rw[eK]at h;cases e:nl[i]? with
 |none=>rw[e]at h;cases h
 |some o=>
  rw[e]at h;cases o with
  |none=>cases h
  |some j=>
   refine⟨j,rfl,?_⟩;have a:(σ[j]?).join=some v:=by simpa using h
   cases q:σ[j]? with
   |none=>rw[q]at a;cases a
   |some c=>
    rw[q]at a;have:c=some v:=by simpa using a
    rw[this]
theorem Ht(I:Inv X af σ H s)(B:aD X N nl scope cl)(T:∀b∈fp,eI X af H b)(J:∀b∈fp,b<s.heap.objs.size){C D:V0}(w:D=s.heap.objs.size)(K:C=s.heap.objs.size+1){E:M1}{tk:Nat}{m:U1->Option Y1}{n:Nat}(G:∀b o,s.heap.get? b=some o->E.get? b=some o)(hl:E.get? D=some {cls:=.type "list",data:=.seq ([]:List Y1).toArray n})(U:E.Ns C m):Inv (X.block N scope cl C fp s H) [] (fS nl σ) (ar H D (.lst [])) {s with heap:=E,toks:=tk}:=by
 have L:H D=none:=I.hok.fresh (by rw[w];exact aQ _);have M:C≠D:=by rw[K,w];exact Nat.succ_ne_self _
 have O:H C=none:=I.hok.fresh (by rw[K];exact oB _);have a:∀y c,cl.lookup y=some c->c≠D:=λ y c e z=>by
  obtain⟨v,q⟩:=I.cell y c (B.sub y c e);exact UM q.lt (by rw[z,w];exact fH _)
 refine⟨Oh I B T J (by rw[K];exact oB _),rfl,I.bare,Un.laid G (by rw[w];exact aQ _) L,⟨m,U,λ i y v Y Z ω=>?_⟩,λ y c e=>?_,?_,λ y c e=>?_,λ p hp=>UM hp (by simp[Cx.block]),?_,?_⟩
 ·obtain⟨j,hj,hv⟩:=Mc Z;obtain⟨x1,R,S⟩:=B.seen i j y Y hj;obtain⟨m0,a0,P⟩:=I.loc;obtain⟨u,r,l⟩:=P j y v x1 hv (.inr S);refine⟨u,r,?_⟩;rcases l with⟨Q,_⟩|⟨_,c,hc,z⟩
  ·have x:X.env.scope.names.lookup y=some .local:=Q;rcases S with q|q<;>(rw[x]at q;cases q)
  ·refine .inr ⟨Du R,c,?_,z.keeps G⟩;obtain⟨c',A⟩:=B.has y R;have q:=B.sub y c' A;rw[hc]at q;cases q;exact A
 ·obtain⟨v,q⟩:=I.cell y c (B.sub y c e);exact⟨v,q.keeps G⟩
 ·show(ar H D (.lst [])) C=none;rw[aU M];exact O
 ·rw[aU (a y c e)];exact I.freeC y c (B.sub y c e)
 ·exact I.hok.laid G (by rw[w];exact aQ _) ⟨dj _,[],n,.nil,hl⟩
 ·show(fS nl σ).length=N.length;unfold fS;rw[bB,B.len]
theorem Cy{C:V0}{y:St}{H':Hp}{w:Z1}{h2:M1}(I:Inv X af σ H s)(D:∀b∈fp,eI X af H b)(E:s.heap.objs.size<=C)(J:Inv (X.block N scope cl C fp s H) [] y H' w)(x:∀b o,b≠C->w.heap.get? b=some o->h2.get? b=some o):Inv X af σ H' {w with heap:=h2}:=by
 obtain⟨T,g,d,t,G⟩:=w;have K:G=s.os:=J.os;subst K;have a:H' C=none:=J.free;have u:=J.base;have A:∀b o,s.heap.get? b=some o->b≠C:=λ b o e=>dY (dv (Rq e) E);have L:Un (fQ X.stack) fp H H' s.heap h2:=
  ⟨λ b o e n i j=>x b o (A b o e) (u.keep b o e n i j),λ b o e n i j=>(let⟨M,q⟩:=u.slot b o e n i j;⟨M,x b _ (A b o e) q⟩),u.free,λ b o e j=>(let⟨B,q⟩:=u.there b o e j;⟨B,x b B (A b o e) q⟩),u.tups,u.frzs,u.tbls⟩
 have m:dI X.prog X.w H' h2:=λ b o e=>(J.hok b o e).stay (λ c v O q=>x c v (λ z=>by
  subst z;rcases O with z|z
  ·rw[<-z,a]at e;cases e
  ·rw[a]at z;cases z) q) (λ ω q=>q) λ ω ω q=>q
 have z:=I.call (h':=h2) (g':=g) (d':=d) (t':=t) (ch:=fp) L m J.bare λ b i=>(let⟨_,P,_,Q,R,S⟩:=D b i;⟨Q,P,R,S⟩);exact z
end
def PQ(X:Cx)(tst:Env->Sem Bool)(t:TT):Prop:=
 ∀(af:List (V0×Obj))(s:Z1)(σ:St)(H:Hp)(Q:Bool->Hp->Prop),Inv X af σ H s->t σ H Q->Rz (RD X.prog X.w) X.A (tst X.env) (TP X af σ Q) X.xe s
def ir:TT:=λ ω H Q=>Q true H
variable{X:Cx}
theorem Fk:PQ X (λ ω=>pure true) ir:=λ ω ω ω H ω I h=>Rv ⟨H,I,h⟩
variable{c:Expr}
theorem JA{t:TT}(h:PT X c t):PQ X (λ env=>isTrue c env (RJ c env)) t:=h
def jd(J:It)(g:TG)(tc:TT)(te:TE)(D:V0)(Q:VK)(σ0:St)(H0:Hp):Prop:=∃W:Nat->Nat->St->Hp->Prop,(∃m,W 0 m σ0 H0)/\∀i m c e,W i m c e->
 (J.stop i e/\Q (.ref D) e)\/(J.go i e/\∃N:St->Hp->Prop,(∀j n,N j n->∃u,u<m/\W (i+1) u j n)/\∀x n,J.yld i e x n->g x c n λ a z=>tc a z λ b w=>if b=true then te a w λ v y=>∃o,y D=some (.lst o)/\o.length<Ru/\N a (ar y D (.lst (o++[v])))else N a w)
def t8(wi:TI)(nl:List (Option Nat))(g:TG)(tc:TT)(te:TE):TE:=λ σ H Q=>wi σ H λ J a=>∀D,a D=none->jd J g tc te D Q (fS nl σ) (ar a D (.lst []))
theorem zO{N:List U1}{nl:List (Option Nat)}{scope:SR}{cl:List (U1×V0)}{elt tg iter:Expr}{ifs:List Expr}{pos:Pos}{wi:TI}{g:TG}{tst:Env->Sem Bool}{tc:TT}{te:TE}(hcalm:X.calm=true)(B:aD X N nl scope cl)(hi:PI X tg iter wi)(hg:∀C fp s H,PG (X.block N scope cl C fp s H) tg g)(ht:∀C fp s H,PQ (X.block N scope cl C fp s H) tst tc)(he:∀C fp s H,PE (X.block N scope cl C fp s H) elt te)(hturn:∀(it acc:Y1)(env:Env),compTurn (.ListComp elt [⟨tg,iter,ifs,0⟩] scope pos) 0 it acc env=(do
   Sr iter.pos
   match<-UJ it with
   |none=>pure (.done .next)
   |some v=>
    SO tg it v
    Ug tg env v
    let ok<-tst env
    if ok then(do
     (do let x<-RJ elt env;let _<-call (.builtin "list.append") [acc,x];pure ())
     again (.compLoop (.ListComp elt [⟨tg,iter,ifs,0⟩] scope pos) 0 it acc env))
    else again (.compLoop (.ListComp elt [⟨tg,iter,ifs,0⟩] scope pos) 0 it acc env))) (hs:∀x,SW iter X.env x=pure x) {af:List (V0×Obj)} {s:Z1} {σ:St} {H:Hp} {Q:VK} (I:Inv X af σ H s) (h:t8 wi nl g tc te σ H Q) {use:Option (Y1->Sem Unit)} {Q':Y1->Z1->Prop} (hpost:∀(D C:V0) (s' s2:Z1) (fp:List V0) (σ':St) (H' H2:Hp),Inv X af σ H2 s2->(∀b∈fp,eI X af H2 b)->s2.heap.objs.size<=C->Inv (X.block N scope cl C fp s2 H2) [] σ' H' s'->Q (.ref D) H'->compPost (RD X.prog X.w) X.A X.xe use Q' (.ref D) C (.ok .next) s') (hpos:Pos):Rz (RD X.prog X.w) X.A (comprehension (.ListComp elt [⟨tg,iter,ifs,0⟩] scope pos) scope X.env hpos (newList []) false (RJ iter X.env) use) Q' X.xe s:=by
 refine wpAny_comprehension_free (use:=use) rfl hs B.clos B.kind B.names ?_;refine aW (hi af s σ H _ I h) λ v s1 h1=>aW h1 λ itv s2 h2=>?_;obtain⟨it,fp,tn,J,H2,e,I2,T,st2,f2,q⟩:=h2;subst e;have hob:∀b∈fp,b<s2.heap.objs.size:=λ b hb=>(let⟨o,e,_⟩:=T.obj 0 _ st2 b hb;Rq e);refine Sg (wpAny_newFunctionEnv B.nocell (by intro y hy;simp at hy) (λ h1 hns hsb=>?_) B.kind);dsimp only at hns hsb ⊢;generalize hD:s2.heap.objs.size=D at hns hsb ⊢;have hC:(s2.heap.push {cls:=.type "list",dict:=none,data:=.seq ([]:List Y1).toArray}).objs.size=s2.heap.objs.size+1:=by rw[SZ]
 generalize hC':(s2.heap.push {cls:=.type "list",dict:=none,data:=.seq ([]:List Y1).toArray}).objs.size=C at hns hsb hC ⊢;have hDC:D≠C:=by rw[hC,<-hD];exact(Nat.succ_ne_self _).symm
 have lt_ne:∀b,b<s2.heap.objs.size->b≠C:=λ b hb=>by rw[hC];exact dY (rS hb)
 have old:∀b o,s2.heap.get? b=some o->h1.get? b=some o:=λ b o e=>
  hsb.extBut b o (lt_ne b (Rq e)) (Rp _ (Rp _ e))
 have hl:h1.get? D=some {cls:=.type "list",data:=.seq ([]:List Y1).toArray 0}:=by
  refine hsb.extBut D _ hDC (Rp _ ?_);rw[<-hD];exact RC _ rfl
 have fresh:H2 D=none:=I2.hok.fresh (by rw[hD];exact aQ _);obtain⟨W,⟨m0,w0⟩,turn⟩:=q D fresh;have hCle:s2.heap.objs.size<=C:=by rw[hC];exact oB _
 have stat:∀{H':Hp},(∀b∈fp,H' b=none)->∀b∈fp,eI (X.block N scope cl C fp s2 H2) [] H' b:=λ hn b hb=>by
  obtain⟨ω,f1,f2',f3,f4,f5⟩:=f2 b hb;refine⟨hn b hb,lt_ne b (hob b hb),λ z=>?_,.inl hb,λ x c e=>f4 x c (B.sub x c e),λ p hp=>UM hp (by simp[Cx.block])⟩;rcases de.mp (I2.stkSub b z)with z|z
  ·exact f1 z
  ·exact f2' z
 have main:∀s4:Z1,(∃tk,s4={s2 with heap:=h1,toks:=tk})->
   Tq (RD X.prog X.w) X.A (.compLoop (.ListComp elt [⟨tg,iter,ifs,0⟩] scope pos) 0 (.ref it) (.ref D) (X.block N scope cl C fp s2 H2).env) (compPost (RD X.prog X.w) X.A X.xe use Q' (.ref D) C) s4:=by
  rintro s4 ⟨tk,rfl⟩;have I3:Inv (X.block N scope cl C fp s2 H2) [] (fS nl σ) (ar H2 D (.lst [])) { s2 with heap:=h1,toks:=tk }:=Ht I2 B f2 hob hD.symm hC old hl hns;refine codeAny_loop rfl (λ n s'=>∃ i σ' H',Inv (X.block N scope cl C fp s2 H2) [] σ' H' s'/\tn i s'.heap/\(∀ b∈fp,H' b=none)/\W i n σ' H') (λ n s5 hI=>?_) m0
   ⟨0,fS nl σ,_,I3,T.keep 0 _ _ st2 λ b hb o e=>old b o e,λ b hb=>by rw[aU (λ z=>UM (hob b hb) (by rw[z,<-hD];exact fH _))];exact(f2 b hb).1,w0⟩
  show Rz _ X.A ((compTurn (.ListComp elt [⟨tg,iter,ifs,0⟩] scope pos) 0 (.ref it) (.ref D) (X.block N scope cl C fp s2 H2).env).onRaise (λ x=>do TQ x (X.block N scope cl C fp s2 H2).env;theTreesLotGoes x)) _ _ s5;refine wpAny_noted ?_;rw[hturn];obtain⟨i,σ5,H5,I5,st5,fr5,w5⟩:=hI;have quiet:∀{α:Type}{t:Sem α}{R:α->Z1->Prop}{E':Y1->Z1->Prop}{s':Z1},Rz (RD X.prog X.w) X.A t R (λ ω ω=>False) s'->Rz (RD X.prog X.w) X.A t R E' s':=λ hw=>R7 hw (λ ω ω z=>z) λ ω ω z=>z.elim;refine Ro (Sm ?_);rcases turn i n σ5 H5 w5 with⟨stop,qn⟩|⟨go,Nx,hN,step⟩
  ·refine Ro (quiet (aW (T.done (X.block N scope cl C fp s2 H2) rfl rfl rfl hcalm i [] s5 σ5 H5 (λ ω ω=>False) I5 (stat fr5) st5 stop) λ r s6 hz_=>?_));obtain⟨hr,I6⟩:=hz_;subst hr;exact quiet (Rv (hpost D C s6 s2 fp σ5 H5 H2 I2 f2 hCle I6 qn))
  ·refine Ro (quiet (aW (T.item (X.block N scope cl C fp s2 H2) rfl rfl rfl hcalm i [] s5 σ5 H5 (λ ω ω=>False) I5 (stat fr5) st5 go) λ r s6 hz_=>?_));obtain⟨u,hr,h6⟩:=hz_;subst hr;refine Ro (quiet (aW h6 λ ω s7 hz_=>?_));obtain⟨x,H7,I7,r7,y7,st7,fr7⟩:=hz_;have I7':=I7.pinned (stat fr7) (T.obj _ _ st7);have again':∀{σ8:St}{H8:Hp}{s8:Z1},Inv (X.block N scope cl C fp s2 H2) ([]++sX fp s7.heap) σ8 H8 s8->Nx σ8 H8->∃m,m<n/\∃i σ' H',Inv (X.block N scope cl C fp s2 H2) [] σ' H' s8/\tn i s8.heap/\(∀b∈fp,H' b=none)/\W i m σ' H':=λ{σ8 H8 s8} I8 n8=>by
    obtain⟨m',hm,w8⟩:=hN σ8 H8 n8;refine⟨m',hm,i+1,σ8,H8,I8.unpinned,T.keep _ _ _ st7 λ b hb o e=>(I8.pin (b,o) (i_ _ (i_ _ (vq hb e)))).1,λ b hb=>?_,w8⟩;obtain⟨o,e,ω⟩:=T.obj _ _ st7 b hb;exact(I8.pin (b,o) (i_ _ (i_ _ (vq hb e)))).2.1
   refine Ro (quiet (aW (hg C fp s2 H2 _ s7 σ5 H7 x u _ I7' r7 (step x H7 y7)) λ ω s8 hz_=>?_));obtain⟨σ8,H8,I8,q8⟩:=hz_;refine Ro (quiet (aW (ht C fp s2 H2 _ s8 σ8 H8 _ I8 q8) λ b s9 hz_=>?_));obtain⟨H9,I9,q9⟩:=hz_;cases b with
   |false=>exact quiet (Rv ⟨rfl,again' I9 q9⟩)
   |true=>
    refine Ro (Ro (quiet (aW (he C fp s2 H2 _ s9 σ8 H9 _ I9 q9) λ vy s10 hz_=>?_)));obtain⟨y,H10,I10,r10,xs,e10,z10,n10⟩:=hz_;refine Ro (quiet (aW (jG _ s10 σ8 H10 (.ref D) [y] (.ref D) [vy] (λ ω H'=>Nx σ8 H') I10 rfl (.cons r10 .nil) ⟨D,xs,y,rfl,rfl,e10,z10,n10⟩) λ ω s11 hz_=>?_));obtain⟨ω,H11,I11,ω,q11⟩:=hz_;exact Rv (Rv ⟨rfl,again' I11 q11⟩)
 exact codeAny_compStart_list (main _ ⟨_,rfl⟩) (T.self _ 0 _ _ _ (T.keep 0 _ _ st2 λ b hb o e=>old b o e) (main _ ⟨_,rfl⟩))
section
variable{X:Cx}{N:List U1}{nl:List (Option Nat)}{scope:SR}{cl:List (U1×V0)}{elt tg iter:Expr}{pos:Pos}{wi:TI}{g:TG}{tc:TT}{te:TE}
theorem Bp(it a:Y1)(env:Env):compTurn (.ListComp elt [⟨tg,iter,[],0⟩] scope pos) 0 it a env=(do
   Sr iter.pos
   match<-UJ it with
   |none=>pure (.done .next)
   |some v=>
    SO tg it v
    Ug tg env v
    let ok<-(λ ω=>pure true:Env->Sem Bool) env
    if ok then(do
     (do let x<-RJ elt env;let _<-call (.builtin "list.append") [a,x];pure ())
     again (.compLoop (.ListComp elt [⟨tg,iter,[],0⟩] scope pos) 0 it a env))
    else again (.compLoop (.ListComp elt [⟨tg,iter,[],0⟩] scope pos) 0 it a env)):=by rfl
theorem Mw(it a:Y1)(env:Env):compTurn (.ListComp elt [⟨tg,iter,[c],0⟩] scope pos) 0 it a env=(do
   Sr iter.pos
   match<-UJ it with
   |none=>pure (.done .next)
   |some v=>
    SO tg it v
    Ug tg env v
    let ok<-(λ env=>isTrue c env (RJ c env):Env->Sem Bool) env
    if ok then(do
     (do let x<-RJ elt env;let _<-call (.builtin "list.append") [a,x];pure ())
     again (.compLoop (.ListComp elt [⟨tg,iter,[c],0⟩] scope pos) 0 it a env))
    else again (.compLoop (.ListComp elt [⟨tg,iter,[c],0⟩] scope pos) 0 it a env)):=by
 unfold compTurn;simp;rfl
theorem BY{af:List (V0×Obj)}{σ:St}{Q:VK}(D C:V0)(s' s2:Z1)(fp:List V0)(a:St)(H' c:Hp)(i:Inv X af σ c s2)(j:∀b∈fp,eI X af c b)(n:s2.heap.objs.size<=C)(J:Inv (X.block N scope cl C fp s2 c) [] a H' s')(q:Q (.ref D) H'):compPost (RD X.prog X.w) X.A X.xe none (EP X af σ Q) (.ref D) C (.ok .next) s':=by
 obtain⟨m,u,ω⟩:=J.loc;exact⟨m,u,λ x v=>⟨.ref D,H',Cy i j n J λ b o w e=>v.extBut b o w e,rfl,q⟩⟩
theorem eX(a:X.calm=true)(B:aD X N nl scope cl)(hi:PI X tg iter wi)(c:∀C fp s H,PG (X.block N scope cl C fp s H) tg g)(e:∀C fp s H,PE (X.block N scope cl C fp s H) elt te)(i:∀x,SW iter X.env x=pure x:=by intro _;rfl):PE X (.ListComp elt [⟨tg,iter,[],0⟩] scope pos) (t8 wi nl g ir te):=by
 intro af s σ H Q I h;rw[eval_ListComp];exact zO (tst:=λ ω=>pure true) a B hi c (λ ω ω ω ω=>Fk) e Bp i I h BY _
theorem Lx(a:X.calm=true)(B:aD X N nl scope cl)(hi:PI X tg iter wi)(i:∀C fp s H,PG (X.block N scope cl C fp s H) tg g)(j:∀C fp s H,PT (X.block N scope cl C fp s H) c tc)(m:∀C fp s H,PE (X.block N scope cl C fp s H) elt te)(n:∀x,SW iter X.env x=pure x:=by intro _;rfl):PE X (.ListComp elt [⟨tg,iter,[c],0⟩] scope pos) (t8 wi nl g tc te):=by
 intro af s σ H Q I h;rw[eval_ListComp];exact zO (tst:=λ e=>isTrue c e (RJ c e)) a B hi i (λ C fp s H=>JA (j C fp s H)) m Mw n I h BY _
end
end L2
end
section
namespace L2
open PySem PySem.Spec PyProof.Rows
def xQ(x:U1):It:=⟨λ i ω=>i<x.cps.size,λ i H v a=>a=H/\∃c,x.cps[i]?=some c/\v=.str ⟨#[c]⟩,λ i ω=>i=x.cps.size⟩
theorem BB{P:Program}{w:V1}{K:X0}{tg:Expr}(it:V0)(x:U1)(t:Tok)(cls:String)(hn:["enumerate","zip","dict_itemiterator","dict_reverseitemiterator","odict_iterator","itertools.zip_longest","itertools.pairwise"].contains cls=false)(W:∀A:N1,A.handled=none->Walks P w A it [it] [it] x.cps.size (SignAt x) (λ i h=>h.IsStrIter it cls x t i))(g:∀(A:N1)(i:Nat)(s:Z1)(Q:Y1->Z1->Prop)(E:Y1->Z1->Prop),s.heap.IsStrIter it cls x t i->Q (.ref it) s->Rz (RD P w) A (pyIter (.ref it)) Q E s):jH P w K tg (xQ x) [it] it (λ i h=>h.IsStrIter it cls x t i)where
 mem:=by simp
 obj:=λ i h j b m=>by
  have e:b=it:=by simpa using m
  subst e;obtain⟨o,e,c,d⟩:=j;exact⟨o,e,λ v z=>by rw[d]at z;cases z⟩
 keep:=λ i h y j k=>(let⟨o,ho,r⟩:=j;⟨o,k it (by simp) o ho,r⟩)
 item:=by
  intro X C D G J i a s Z H E I B j L;subst C D G;obtain⟨M,N,f2,O,R,S⟩:=B it (by simp);refine(W X.A (I.ok.hd J)).item i s _ E L j λ v y T hv n U=>?_;obtain⟨c,u,hx,rfl⟩:=hv;have I1:Inv X a Z H {s with heap:=y,toks:=T}:=I.turned (λ b o m e=>U b o (by simpa using m) e) M N O R S;obtain⟨o,e,oc,d⟩:=id n;exact⟨_,rfl,xt (s:={s with heap:=y,toks:=T}) e oc d hn ⟨.str ⟨#[c]⟩,H,I1,⟨u,rfl⟩,⟨rfl,c,hx,rfl⟩,n,λ b m=>(B b m).1⟩⟩
 done:=by
  intro X C D G J i a s Z H E I B j L;subst C D G;obtain⟨M,N,f2,O,R,S⟩:=B it (by simp);have Y:i=x.cps.size:=L;subst Y;exact(W X.A (I.ok.hd J)).done s _ E j λ y T U=>⟨rfl,I.turned (λ b o m e=>U b o (by simpa using m) e) M N O R S⟩
 self:=g
section
variable{X:Cx}{tg:Expr}
def yC(tl:TE):TI:=λ a H R=>tl a H λ x c=>∃z,x=.str z/\R (xQ z) c
theorem Ez{l:Expr}{tl:TE}(hl:PE X l tl):PI X tg l (yC tl):=by
 intro a s B H R I h;refine aW (hl a s B H _ I h) λ v c hz_=>?_;obtain⟨x,j,g,r1,C⟩:=hz_;obtain⟨z,e,q⟩:=C;subst e;obtain⟨t,rfl⟩:=r1;have w:∀b∈[c.heap.objs.size],eI X a j b:=λ b D=>by
  have e:b=c.heap.objs.size:=by simpa using D
  subst e;exact g.fpOk (aQ _) (g.hok.fresh (aQ _))
 cases y:z.cps.all (·<128)with
 |false=>
  refine wpAny_pyIter_wide y ?_;exact⟨c.heap.objs.size,[c.heap.objs.size],_,_,j,rfl,g.kept (t':=c.toks) λ b o e=>Rp _ e,BB _ z t "str_iterator" qQ (λ A m=>Walks.strWide m _ z t) (λ A i s Q E n u=>wpAny_pyIter_striter_wide n u),⟨_,RC _ rfl,rfl,rfl⟩,w,q⟩
 |true=>
  refine wpAny_pyIter_ascii y ?_;exact⟨c.heap.objs.size,[c.heap.objs.size],_,_,j,rfl,g.kept (t':=c.toks) λ b o e=>Rp _ e,BB _ z t "str_ascii_iterator" qQ (λ A m=>Walks.strAscii m _ z t) (λ A i s Q E n u=>wpAny_pyIter_striter_ascii n u),⟨_,RC _ rfl,rfl,rfl⟩,w,q⟩
end
def xR(K:X0)(l:V0):It:=
 ⟨λ i H=>∃a x,az K H l a/\a[i]?=some x,λ i H v c=>∃t x,v=.ref t/\H t=none/\c=ar H t (.tup [.int i,x])/\∀a,az K H l a->a[i]?=some x,λ i H=>∃a,az K H l a/\a.length<=i⟩
theorem NM{P:Program}{w:V1}{K:X0}{O:List Expr}{x1:Nat}{R:Pos}(l e it:V0)(S:e≠it):jH P w K (.Tuple O x1 R) (xR K l) [e,it] e (λ i h=>(∃j,IsEnum h e it i j)/\h.IsListIter it l i)where
 mem:=by simp
 obj:=λ i h B b a=>by
  obtain⟨⟨j,J⟩,o,N,c,d⟩:=B;rcases de.mp a with z|z
  ·subst z;exact⟨_,J,λ v q=>by cases q⟩
  ·have T:b=it:=by simpa using z
   subst T;exact⟨o,N,λ v q=>by rw[d]at q;cases q⟩
 keep:=λ i h h' B k=>⟨let⟨j,q⟩:=B.1;⟨j,k e (by simp) _ q⟩,B.2.at λ o q=>k it (by simp) o q⟩
 item:=by
  intro X hP hw hK Z i D s σ H E I hf B hg;subst hP hw hK;obtain⟨xs,x,hq,hx⟩:=hg;obtain⟨its,rv,p,hz⟩:=I.list hq;obtain⟨u,hu,ru⟩:=rv.get hx;obtain⟨⟨j,J⟩,N⟩:=B;have L:=hf e (by simp);have M:=hf it (by simp);refine wpAny_pyNext_enum_item J N p.isList (x:=u) (by simpa using hu) S λ h' eo a0 ht c0 kk=>?_;refine⟨_,rfl,wpAny_letOwnedTupleGo_enum eo λ h2 en sb=>?_⟩;have b0:s.heap.objs.size≠e:=lL (Rq J);have U:∀b o,b≠e->b≠it->s.heap.get? b=some o->h2.get? b=some o:=λ b o h1 h3 q=>sb.extBut b o h1 (kk b o h1 h3 q);have fresh:H s.heap.objs.size=none:=I.hok.fresh (aQ _);have y:∀b o,s.heap.get? b=some o->b≠s.heap.objs.size:=λ b o q=>dY (Rq q);have Y:∀b o,H b=some o->b≠e/\b≠it:=λ b o q=>⟨bY q L.1,bY q M.1⟩;have G:h2.get? s.heap.objs.size=some {cls:=.type "tuple",data:=.seq #[.int i s.toks,u]}:=sb.extBut _ _ b0 ht;have g:∀b,b∉[e,it]->b≠e/\b≠it:=λ b a=>⟨λ z=>a (by simp[z]),λ z=>a (by simp[z])⟩;have I2:Inv X D σ (ar H s.heap.objs.size (.tup [.int i,x])) {s with heap:=h2,toks:=s.toks+1}:=by
   refine I.step (g':=s.gens) (d':=s.drawn) (ch:=[e,it]) (λ b a=>?_) (λ b o ω ω a q ω=>U b o (g b a).1 (g b a).2 q) (λ b o ω ω a q ω=>⟨o.slots,U b o (g b a).1 (g b a).2 q⟩)
    (λ b o ω q n=>by rw[aU (y b o q)];exact n) (λ b o a q=>⟨o,U b o (g b a).1 (g b a).2 q⟩) (λ b ys q=>by rw[aU (bY q fresh)];exact q) (λ b o ys q=>by rw[aU (bY q fresh)];exact q)
    (λ b ps q=>⟨#[],by rw[aU (bY q fresh),q];simp⟩) (λ m hm=>hm.at' λ o q=>U _ o L.2.1.symm M.2.1.symm q) (λ b o q=>?_) I.bare
   ·rcases de.mp a with z|z
    ·subst z;exact⟨L.2.2.2.1,L.2.1,L.2.2.2.2.1,L.2.2.2.2.2⟩
    ·have T:b=it:=by simpa using z
     subst T;exact⟨M.2.2.2.1,M.2.1,M.2.2.2.2.1,M.2.2.2.2.2⟩
   ·by_cases a:b=s.heap.objs.size
    ·subst a;rw[bu]at q;cases q;exact⟨⟨by show 2<=Ru;decide,λ o q=>by rw[G]at q;cases q;rfl⟩,[.int i s.toks,u],.cons ⟨_,rfl⟩ (.cons ru .nil),⟨_,G,rfl,_,rfl⟩⟩
    ·rw[aU a]at q;refine(I.hok b o q).stay (λ c v Z r=>?_) (λ c r=>by rw[aU (bY r fresh)];exact r) λ c ys r=>by rw[aU (bY r fresh)];exact r
     have C:∃o',H c=some o':=by
      rcases Z with z|z
      ·exact⟨o,by rw[z];exact q⟩
      ·exact⟨_,z⟩
     obtain⟨o',C⟩:=C;exact U c v (Y c o' C).1 (Y c o' C).2 r
  refine⟨.ref s.heap.objs.size,_,I2,rfl,⟨_,x,rfl,fresh,rfl,λ ys hy=>by rw[I.list_inj hy hq];exact hx⟩,⟨⟨u,?_⟩,a0.extBut sb.extBut S.symm⟩,λ b a=>?_⟩
  ·have e1:((i+1:Nat):Int)=(i:Int)+1:=by lia
   rw[e1];exact en
  ·rcases de.mp a with z|z
   ·subst z;rw[aU (y _ _ J)];exact L.1
   ·have T:b=it:=by simpa using z
    subst T;obtain⟨o,s3,ω⟩:=N;rw[aU (y _ _ s3)];exact M.1
 done:=by
  intro X hP hw hK Z i D s σ H E I hf B hg;subst hP hw hK;obtain⟨xs,hq,hx⟩:=hg;obtain⟨its,rv,p,hz⟩:=I.list hq;obtain⟨⟨j,J⟩,N⟩:=B;obtain⟨f0,f1,f2,f3,f4,f5⟩:=hf it (by simp);have hl:=rv.length;exact wpAny_pyNext_enum_end (I.ok.hd Z) J N p.isList (by simp;lia) λ h' eb=>⟨rfl,I.turned (t':=s.toks) (λ b o a q=>eb b o a q) f0 f1 f3 f4 f5⟩
 self:=λ A i s Q E B h=>(let⟨j,q⟩:=B.1;wpAny_pyIter_enum q h)
section
variable{X:Cx}
def DE(K:X0)(ta:TA):TI:=λ e H R=>ta e H λ vs c=>∃a,vs=[.ref a]/\(∃g,az K c a g)/\R (xR K a) c
theorem KQ{g:List Expr}{x:Nat}{i:Pos}{a:Expr}{v:TA}{p pos:Pos}(y:Gl X "enumerate")(A:X.mg "enumerate"=none)(o:RI "enumerate"=some (.type "enumerate"))(B:PA X [a] v)(C:Rt [a] X.env=[(false,RJ a X.env)]:=by rfl):PI X (.Tuple g x i) (.Call (.Name "enumerate" p) [a] [] pos) (DE X.K v):=by
 intro j s D H R I h;refine Call_ (qa I y A o (SV (aW (B pos j s D H _ I h) λ us c hz_=>?_) C rfl));obtain⟨vs,E,n,r1,G⟩:=hz_;obtain⟨l,e,⟨Q,J⟩,q⟩:=G;subst e;obtain⟨u,rfl,K⟩:=r1.one;cases K;obtain⟨its,S,L,T⟩:=n.list J;refine call_enumerate_list L.isList λ U w M N O=>wpAny_pyIter_enum w ?_;refine⟨c.heap.objs.size+1,[c.heap.objs.size+1,c.heap.objs.size],_,_,E,rfl,n.kept (t':=c.toks) O,NM l _ _ (Nat.succ_ne_self _),⟨⟨_,w⟩,M⟩,λ b o=>?_,q⟩;have m:c.heap.objs.size<=b:=by
  rcases de.mp o with z|z
  ·rw[z];exact oB _
  ·have P:b=c.heap.objs.size:=by simpa using z
   rw[P];exact aQ _
 exact n.fpOk m (n.hok.fresh m)
end
end L2
namespace L2
open PySem PySem.Spec PyProof.Rows
theorem Hx(ys:List Bool):(jM ys.length).all (λ i=>ys.getD i false)=ys.all id:=by
 rw[pT,i7,i7];constructor
 ·intro h y g;obtain⟨i,c,e⟩:=uv g;have:=h i (mW.mpr c);rw[hJ,dc c]at this;rw[<-e];exact this
 ·intro h i c;have a:=mW.mp c;rw[hJ,dc a];exact h _ (ju a)
theorem zy{X:Cx}(B:X.calm=true):gN X (.builtin "all") (λ xs H Q=>∃(p:V0)(ys:List Bool),xs=[.ref p]/\az X.K H p (ys.map V.bl)/\Q (.bl (ys.all id)) H):=by
 intro m s M H xs us Q I r h;obtain⟨p,ys,rfl,C,q⟩:=h;obtain⟨u,rfl,D⟩:=r.one;cases D;obtain⟨its,n,g,N⟩:=I.list C;obtain⟨o,E,ω,ω,ω⟩:=id g.isList;have j:p≠s.heap.objs.size:=dY (Rq E);have hl:=n.length;rw[bB]at hl;refine call_all_walk (Sf g.isList ?_);refine⟨s.heap.objs.size,_,_,_,_,_,λ i=>ys.getD i false,rfl,Walks.list (A:=X.A.in1) (show X.A.in1.handled=none from I.ok.hd B) _ p j its.toArray,⟨⟨_,RC _ rfl,rfl,rfl⟩,g.isList.at λ o e=>Rp _ e⟩,λ i v O P R G a=>?_,λ S T J=>?_⟩
 ·have c:its[i]?=some v:=by simpa using G
  have w:i<ys.length:=by
   have:=(gm.mp c).1;lia
  obtain⟨U,y,K⟩:=n.get (i:=i) (x:=V.bl ys[i]) (by rw[eK,dc w];rfl);rw[c]at y;cases y;cases(show _=Tr ys[i]from K);refine RO ?_;dsimp only at a;rw[hJ,dc w]at a;exact a
 ·have e:(jM its.toArray.size).all (λ i=>ys.getD i false)=ys.all id:=by
   rw[du,<-hl];exact Hx ys
  refine⟨.bl (ys.all id),H,I.kept λ b o e=>J b o (λ z=>?_) (Rp _ e),by rw[e];rfl,q⟩;have L:b=s.heap.objs.size:=by simpa using z
  exact UM (Rq e) (by rw[L];exact fH _)
end L2
end
section
namespace L2
open PySem PySem.Spec PyProof.Rows
theorem aD.plain{X:Cx}{N:List U1}{scope:SR}(kind:scope.kind=.function)(nocell:∀y∈scope.names,y.2≠.cell)(names:∀y∈scope.names,y.2=.local->scope.names.lookup y.1=some .local)(a:∀y∈scope.names,y.2≠.free):aD X N (N.map λ ω=>none) scope []where
 kind:=kind
 nocell:=nocell
 names:=names
 clos:=closureFor_none a
 sub:=λ y c h=>by simp at h
 has:=λ y h=>UM rfl (a _ (qp h))
 len:=by simp
 seen:=λ i j y ω h=>by
  rw[eK]at h;cases q:N[i]? with
  |none=>rw[q]at h;cases h
  |some z=>rw[q]at h;cases h
variable{Q:VK}{H:Hp}
theorem NC{J:It}{g:TG}{I:TT}{L:TE}{D:V0}{w:St}(ys:List V)(p:V->Bool)(f:V->V)(n:St->Prop)(o:V->St->Prop)(O:n w)(C:∀i l,i<ys.length->J.go i (ar H D (.lst l)))(u:∀l,J.stop ys.length (ar H D (.lst l)))(P:∀i l x H',i<ys.length->J.yld i (ar H D (.lst l)) x H'->H'=ar H D (.lst l)/\ys[i]?=some x)(R:∀x∈ys,∀c H' K,n c->(∀j,n j->o x j->K j H')->g x c H' K)(S:∀x∈ys,∀c l K,o x c->K (p x) (ar H D (.lst l))->I c (ar H D (.lst l)) K)(T:∀x∈ys,p x=true->∀c l K,o x c->K (f x) (ar H D (.lst l))->L c (ar H D (.lst l)) K)(hz:ys.length<=Ru)(U:Q (.ref D) (ar H D (.lst ((ys.filter p).map f)))):jd J g I L D Q w (ar H D (.lst [])):=by
 refine⟨λ i m c H'=>m=ys.length-i/\i<=ys.length/\n c/\H'=ar H D (.lst (((ys.take i).filter p).map f)),⟨ys.length,by simp,dj _,O,by simp⟩,?_⟩;rintro i m c H' ⟨rfl,hi,X,rfl⟩;by_cases v:i<ys.length
 ·refine .inr ⟨C i _ v,λ y B=>n y/\B=ar H D (.lst (((ys.take (i+1)).filter p).map f)),λ y B ⟨a,b⟩=>⟨ys.length-(i+1),qR,rfl,v,a,b⟩,λ x B Y=>?_⟩;obtain⟨Z,z⟩:=P i _ x B v Y;subst Z;have E:x∈ys:=kP z;have M:ys.take (i+1)=ys.take i++[x]:=by rw[oz,z];rfl
  refine R x E c _ _ X λ j A N=>S x E j _ _ N ?_;cases G:p x with
  |true=>
   refine cp (T x E G j _ _ N ⟨_,bu,?_,A,?_⟩)
   ·rw[bB];have a1:=List.length_filter_le p (ys.take i);have a2:(ys.take i).length=i:=by rw[ka];lia
    lia
   ·rw[yW,M,List.filter_append,eZ];simp[G]
  |false=>
   refine cS ⟨A,?_⟩;rw[M,List.filter_append,eZ];simp[G]
 ·have e:i=ys.length:=by lia
  subst e;refine .inl ⟨u _,?_⟩;rw[j_];exact U
theorem NR{u:TT}{w:TE}{D:V0}{z:U1}{j:St}(y:Option V)(rest:St)(p:Nat->Bool)(f:Nat->V)(A:j=y::rest)(B:∀c∈z.cps.toList,∀l K,K (p c) (ar H D (.lst l))->u (some (.str ⟨#[c]⟩)::rest) (ar H D (.lst l)) K)(C:∀c∈z.cps.toList,p c=true->∀l K,K (f c) (ar H D (.lst l))->w (some (.str ⟨#[c]⟩)::rest) (ar H D (.lst l)) K)(hz:z.length<=Ru)(E:Q (.ref D) (ar H D (.lst ((z.cps.toList.filter p).map f)))):jd (xQ z) (gU 0) u w D Q j (ar H D (.lst [])):=by
 have G:∀ c:Nat,(match (V.str ⟨#[c]⟩:V) with | .str x=>x.cps.getD 0 0 | _=>0)=c:=λ c=>rfl;refine NC (z.cps.toList.map λ c=>V.str ⟨#[c]⟩) (λ v=>p (match v with | .str x=>x.cps.getD 0 0 | _=>0)) (λ v=>f (match v with | .str x=>x.cps.getD 0 0 | _=>0)) (λ a=>∃ v,a=v::rest) (λ x a=>a=some x::rest) ⟨y,A⟩
  (λ i l h=>?_) (λ l=>?_) (λ i l x I ω h=>?_) (λ x ω a I K m n=>?_) (λ x o a l K m n=>?_) (λ x o J a l K m n=>?_) ?_ ?_
 ·show i<z.cps.size;rw[bB,oE]at h;exact h
 ·show(z.cps.toList.map λ c=>V.str ⟨#[c]⟩).length=z.cps.size;rw[bB,oE]
 ·obtain⟨rfl,c,g,rfl⟩:=h;refine⟨rfl,?_⟩;rw[eK,show z.cps.toList[i]?=some c by simpa using g];rfl
 ·obtain⟨v,rfl⟩:=m;exact n _ ⟨_,rfl⟩ rfl
 ·obtain⟨c,g,rfl⟩:=eO.mp o;rw[m];exact B c g l K n
 ·obtain⟨c,g,rfl⟩:=eO.mp o;rw[m];exact C c g J l K n
 ·rw[bB];have:z.cps.toList.length=z.length:=by simp[Str.length]
  lia
 ·have e:((z.cps.toList.map λ c=>V.str ⟨#[c]⟩).filter λ v=>p (match v with| .str x=>x.cps.getD 0 0|_=>0)).map (λ v=>f (match v with| .str x=>x.cps.getD 0 0|_=>0))=(z.cps.toList.filter p).map f:=by
   rw[List.filter_map,i6];rfl
  rw[e];exact E
theorem Dw{e:TE}{D:V0}{z:U1}{a:St}(g:Option V)(rest:St)(f:Nat->V)(i:a=g::rest)(j:∀c∈z.cps.toList,∀l K,K (f c) (ar H D (.lst l))->e (some (.str ⟨#[c]⟩)::rest) (ar H D (.lst l)) K)(hz:z.length<=Ru)(m:Q (.ref D) (ar H D (.lst (z.cps.toList.map f)))):jd (xQ z) (gU 0) ir e D Q a (ar H D (.lst [])):=
 NR g rest (λ ω=>true) f i (λ ω ω ω ω k=>k) (λ c n ω=>j c n) hz (by rw[List.filter_eq_self.mpr λ ω ω=>rfl];exact m)
theorem aD.of{X:Cx}{N:List U1}{nl:List (Option Nat)}{scope:SR}{cl:List (U1×V0)}(kind:scope.kind=.function)(nocell:∀y∈scope.names,y.2≠.cell)(names:∀y∈scope.names,y.2=.local->scope.names.lookup y.1=some .local)(clos:closureFor scope X.env=pure cl)(sub:∀p∈cl,X.env.cells.lookup p.1=some p.2){nm:List U1}(g:cl.map (·.1)=nm)(has:∀y∈scope.names,y.2=.free->y.1∈nm)(len:nl.length=N.length)(seen:∀i<nl.length,∀j,nl[i]?=some (some j)->∃y,N[i]?=some y/\X.N[j]?=some y/\scope.names.lookup y=some .free/\(X.env.scope.names.lookup y=some .cell\/X.env.scope.names.lookup y=some .free)):aD X N nl scope cl where
 kind:=kind
 nocell:=nocell
 names:=names
 clos:=clos
 sub:=λ y c h=>sub (y,c) (Sk h)
 has:=λ y h=>by
  have m:=has _ (qp h) rfl;rw[<-g]at m;cases q:cl.lookup y with
  |some c=>exact⟨c,rfl⟩
  |none=>
   obtain⟨p,o,e⟩:=eO.mp m;have:=List.lookup_eq_none_iff.mp q p o;simp[e]at this
 len:=len
 seen:=λ i j y u n=>by
  obtain⟨z,a,b,c,d⟩:=seen i (gm.mp n).1 j n;rw[u]at a;cases a;exact⟨b,c,d⟩
variable{env:Env}
theorem om{x:U1}{a:V0}(h:env.cells.lookup x=some a):∀p∈[(x,a)],env.cells.lookup p.1=some p.2:=λ p c=>by
 rcases de.mp c with e|c
 ·subst e;exact h
 ·cases c
theorem lE{x y:U1}{a b:V0}(h:env.cells.lookup x=some a)(h':env.cells.lookup y=some b):∀p∈[(x,a),(y,b)],env.cells.lookup p.1=some p.2:=λ p c=>by
 rcases de.mp c with e|c
 ·subst e;exact h
 ·exact om h' p c
open PySem.SeqAt
structure bq(k n:Nat)(d:PyData):Prop where
 lay:d.canLay0=true
 sho:d.showable=true
 leaf:d.leavesShort 30=true
 dep:d.depth<=k
 wt:d.weight<=n
structure ck(k n:Nat)(ds:List PyData):Prop where
 lay:PyData.canLayAll0 ds=true
 sho:PyData.showableAll ds=true
 leaf:PyData.leavesShortAll 30 ds=true
 dep:PyData.depthAll ds<=k
 wt:PyData.weightAll ds<=n
theorem bq.mono{k n k' n':Nat}{d:PyData}(h:bq k n d)(a:k<=k')(c:n<=n'):bq k' n' d:=⟨h.lay,h.sho,h.leaf,bR h.dep a,bR h.wt c⟩
theorem ck.mono{k n k' n':Nat}{d:List PyData}(h:ck k n d)(a:k<=k')(c:n<=n'):ck k' n' d:=⟨h.lay,h.sho,h.leaf,bR h.dep a,bR h.wt c⟩
theorem ck.nil{k n:Nat}:ck k n []:=⟨rfl,rfl,rfl,dj _,dj _⟩
theorem ck.cons{k a b n:Nat}{d:PyData}{ds:List PyData}(h:bq k a d)(c:ck k b ds)(e:a+1+b<=n):ck k n (d::ds)where
 lay:=by rw[PyData.canLayAll0,h.lay,c.lay];rfl
 sho:=by rw[PyData.showableAll,h.sho,c.sho];rfl
 leaf:=by rw[PyData.leavesShortAll,h.leaf,c.leaf];rfl
 dep:=by rw[PyData.depthAll];exact Nat.max_le.mpr ⟨h.dep,c.dep⟩
 wt:=by rw[PyData.weightAll];have:=h.wt;have:=c.wt;lia
theorem ck.of{k n:Nat}:∀{ds:List PyData},(∀d∈ds,bq k n d)->ck k ((n+1)*ds.length) ds
 |[],_=>.nil
 |d::ds,h=>.cons (h d cy) (ck.of λ e a=>h e (cV _ a)) (by rw[cj,Nat.mul_succ];lia)
theorem bq.tup{k n:Nat}{ds:List PyData}(h:ck k n ds):bq (k+1) n (.tuple ds)where
 lay:=by rw[PyData.canLay0];exact h.lay
 sho:=by rw[PyData.showable];exact h.sho
 leaf:=by rw[Ua];exact h.leaf
 dep:=by rw[PyData.depth];exact mS h.dep
 wt:=by rw[PyData.weight];exact h.wt
theorem bq.none{k n:Nat}:bq k n .none:=⟨rfl,rfl,rfl,dj _,dj _⟩
theorem bq.bool{k n:Nat}{b:Bool}:bq k n (.bool b):=⟨rfl,rfl,rfl,dj _,dj _⟩
theorem bq.int{k:Nat}{i:Int}(h:i.natAbs<10^18):bq k 60 (.int i):=by
 have hl:i.natAbs.log2<60:=by
  by_cases z:i.natAbs=0
  ·rw[z];decide
  ·exact(rR z).mpr qR
 refine⟨rfl,?_,?_,dj _,?_⟩
 ·rw[PyData.showable];exact UO qR
 ·have e:=int_text_length_le10 (k:=18) qQ h;have:(Ux (.int i)).length<=30:=by
   show(Rx (toString i)).length<=30;rw[PySem.ofString_length];lia
  rw[Ua];exact UO this
 ·rw[PyData.weight];split<;>lia
theorem bq.str{k n:Nat}{x:U1}(h:Uy x=true)(g:x.cps.size<=n):bq k n (.str x):=by
 refine⟨by rw[PyData.canLay0];exact h,rfl,?_,dj _,by rw[PyData.weight];exact g⟩;have i:∀c∈x.cps.toList,c<0x110000:=by
  intro c a;have:=(Array.all_eq_true_iff_forall_mem.mp h) c (yw.mp a);simpa using this
 rw[Ua];refine i7.mpr λ c j=>UO ?_;have m:=i c j;have e:(16:Nat)^8=4294967296:=by decide
 lia
theorem bq.shaped{k n:Nat}{d:PyData}(h:bq k n d)(a:k<=64):shaped d=true:=pQ.mpr ⟨h.lay,UO (bR h.dep a)⟩
theorem oj{x y z:U1}{a b c:V0}(h:env.cells.lookup x=some a)(h':env.cells.lookup y=some b)(g:env.cells.lookup z=some c):∀p∈[(x,a),(y,b),(z,c)],env.cells.lookup p.1=some p.2:=λ p i=>by
 rcases de.mp i with e|i
 ·subst e;exact h
 ·exact lE h' g p i
theorem Pe{v:V}{a:St}:tC v a H Q=(Q v H):=rfl
theorem Pf{t:TE}{a:St}{Q:Bool->Hp->Prop}:tB t a H Q=(t a H λ x e=>∃c,x=.bl c/\Q c e):=rfl
theorem PD{t u:TT}{a:St}{Q:Bool->Hp->Prop}:rA t u a H Q=(t a H λ c e=>if c=true then u a e Q else Q false e):=rfl
theorem Pn{t u:TT}{a:St}{Q:Bool->Hp->Prop}:A4 t u a H Q=(t a H λ c e=>if c=true then Q true e else u a e Q):=rfl
theorem PY{t:TT}{a:St}{Q:Bool->Hp->Prop}:rg t a H Q=(t a H λ c e=>Q (!c) e):=rfl
theorem Qs{e g:TE}{a:St}:Eb e g a H Q=(e a H λ x i=>∃c,x=.bl c/\if c=true then g a i Q else Q (.bl false) i):=rfl
theorem O9{e g:TE}{a:St}:q_ e g a H Q=(e a H λ x i=>∃c,x=.bl c/\if c=true then Q (.bl true) i else g a i Q):=rfl
theorem Qv{D:bU}{a:St}:Ea D a H=(D.nx a H):=rfl
variable{u:TS}
theorem Pa{t:TS}{D:bU}{a:St}:aJ t u D a H=(t {D with nx:=u D} a H):=rfl
theorem Qw{c:TE}{D:bU}{a:St}:An c D a H=(c a H λ ω e=>D.nx a e):=rfl
variable{c:St}
theorem PH{a:TE}{D:bU}:qZ a D c H=(a c H D.rt):=rfl
theorem P1{c:TT}{t:TS}{D:bU}{a:St}:rk c t u D a H=(c a H λ b e=>if b=true then t D a e else u D a e):=rfl
theorem Qh{i:Nat}{v:V}{a:St}{Q:St->Hp->Prop}:gU i v a H Q=(Q (a.set i (some v)) H):=rfl
variable{vs:List V}
theorem O6{a:St}{Q:St->Hp->Prop}:sD vs a H Q=(vs=[]/\Q a H):=rfl
variable{to:TE}
theorem PZ{c:TE}{t:kG}{v:V}{a:St}{Q:St->Hp->Prop}:sC to c t v a H Q=(to a H λ o e=>c a e λ i g=>t o i v g λ j=>Q a j):=rfl
theorem Pu{c:TE}{g:TG}{D:bU}{a:St}:lD c g D a H=(c a H λ x e=>g x a e D.nx):=rfl
theorem PR{i:Nat}{c:TE}{e:tQ}{D:bU}{a:St}:oi i c e D a H=(∃x,a[i]?=some (some x)/\c a H λ y g=>e x y g λ z j=>D.nx (a.set i (some z)) j):=rfl
variable{y x:V}
theorem Po{f:Int->Int->Int}:uF f x y H Q=(∃i j,x=.int i/\y=.int j/\Q (.int (f i j)) H):=rfl
variable{R:It->Hp->Prop}{K:X0}
theorem Qu{tl:TE}:El K tl c H R=(tl c H λ x e=>∃a,x=.ref a/\(∃xs,az K e a xs)/\R (jT K a) e):=rfl
theorem P2{tl:TE}:sk K tl c H R=(tl c H λ x e=>∃a,x=.ref a/\(∃xs,ay K e a xs)/\R (kK K a) e):=rfl
theorem P4{a:TA}:DF a c H R=(a c H λ vs e=>∃j:Int,vs=[.int j]/\-(2^62)<=j/\j<2^62/\R (mK 0 j.toNat) e):=rfl
theorem O1{r:R2}{c e:TE}{a:St}:ls r c e a H Q=(c a H λ x g=>e a g λ y i=>r x y i Q):=rfl
theorem Pi{r:V->Hp->VK->Prop}{a:TE}:xV r a c H Q=(a c H λ x e=>r x e Q):=rfl
theorem Pb{C:Int->Int->Prop}{g:Int->Int->V}:rI C g x y H Q=(∃i j,x=.int i/\y=.int j/\C i j/\Q (g i j) H):=rfl
theorem O4{g:Int->Int->V}:kL g x y H Q=(∃i j,x=.int i/\y=.int j/\Q (g i j) H):=rfl
theorem Pc{g:Int->V}:rU g x H Q=(∃i,x=.int i/\Q (g i) H):=rfl
theorem Pk:Bb x y H Q=(jq x y=true/\Q (.bl (decide (x=y))) H):=rfl
theorem OZ:A_ x y H Q=(jq x y=true/\Q (.bl (!decide (x=y))) H):=rfl
theorem QA{t:TE}{a:St}{Q:Bool->Hp->Prop}:xo t a H Q=(t a H λ x H'=>∃k,x=.bl k/\Q k H'):=rfl
theorem PN{a:St}{Q:List V->Hp->Prop}:eQ a H Q=(Q [] H):=rfl
theorem P7{c:TE}{e:TA}{a:St}{Q:List V->Hp->Prop}:jO c e a H Q=(c a H λ x g=>e a g λ xs i=>Q (x::xs) i):=rfl
variable{dvs:List V}
theorem Qx{sp:Sp}{E:XK}{t:TA}{a:St}:qB sp dvs E t a H Q=(t a H λ vs c=>sp (vs++dvs) c Q E):=rfl
variable{C:V0}
theorem Qf{sp:Sp}{E:XK}{t:TA}{e:St}:AB C sp dvs E t e H Q=(t e H λ vs c=>∀x a,c x=none->c a=none->a≠x->sp (.ref x::(vs++dvs)) (ar (ar c a (.own x)) x (.ins C a [])) (λ v g=>v=.non/\Q (.ref x) g) E):=rfl
theorem O3{r:List V->Hp->VK->Prop}{t:TA}{a:St}:rq r t a H Q=(t a H λ vs c=>r vs c Q):=rfl
theorem Rf{a:St}{Q:Option Int->Hp->Prop}:FI a H Q=(Q none H):=rfl
theorem Qq{t:TE}{a:St}{Q:Option Int->Hp->Prop}:Ef t a H Q=(t a H λ x c=>∃i,x=.int i/\Q (some i) c):=rfl
theorem OY{r:V->Option Int->Option Int->Hp->VK->Prop}{c:TE}{tl e:TO}{a:St}:A3 r c tl e a H Q=(c a H λ x g=>tl a g λ l i=>e a i λ u j=>r x l u j Q):=rfl
theorem P0:oy x y H Q=(∃z i c,x=.str z/\y=.int i/\z.length<=Ru/\dQ z.cps.toList i=some c/\Q (.str ⟨#[c]⟩) H):=rfl
theorem O5{a:Bool}:lF K a x y H Q=(∃p xs,y=.ref p/\(az K H p xs\/ay K H p xs)/\je x=true/\xs.all je=true/\Q (.bl (if a then !iM x xs else iM x xs)) H):=rfl
theorem O8{T:String}{r:V->List V->Hp->VK->Prop}{a:St}:oh K T r to a H Q=(to a H λ x c=>qT K T x c/\r x [] c Q):=rfl
theorem Pj{T:String}{r:V->List V->Hp->VK->Prop}{t:TA}{a:St}:xW K T r to t a H Q=(to a H λ x c=>qT K T x c/\t a c λ xs e=>r x xs e Q):=rfl
theorem Rc:yV x vs H Q=(∃l xs y,x=.ref l/\vs=[y]/\H l=some (.lst xs)/\xs.length<Ru/\Q .non (ar H l (.lst (xs++[y])))):=rfl
theorem Rb:FN x vs H Q=(∃l b xs a,x=.ref l/\vs=[.ref b]/\H l=some (.lst xs)/\H b=some (.lst a)/\xs.length+a.length<=Ru/\Q .non (ar H l (.lst (xs++a)))):=rfl
theorem PU:oq x vs H Q=(∃l xs y,x=.ref l/\vs=[]/\H l=some (.lst xs)/\xs[xs.length-1]?=some y/\Q y (ar H l (.lst xs.dropLast))):=rfl
theorem PB:rD x y H Q=(∃l k xs,x=.ref l/\y=.int k/\H l=some (.lst xs)/\-(2^63)<=k/\k<2^63/\xs.length*k.toNat<=Ru/\∀p,H p=none->Q (.ref p) (ar H p (.lst (e_ k.toNat xs).flatten))):=rfl
def qw(J:It)(g:TG)(tb:TS)(D:bU)(σ:St)(H:Hp):Prop:=∃W:Nat->Nat->St->Hp->Prop,(∃m,W 0 m σ H)/\∀i m σ H,W i m σ H->
 (J.stop i H/\D.nx σ H)\/(J.go i H/\∃N:St->Hp->Prop,(∀a c,N a c->∃j,j<m/\W (i+1) j a c)/\∀x c,J.yld i H x c->g x σ c λ e n=>tb {D with nx:=N,ct:=N,bk:=D.nx} e n)
theorem Py{c:TI}{g:TG}{e:TS}{D:bU}{a:St}:rm c g e D a H=c a H λ J H1=>qw J g e D a H1:=rfl
def sL:V->Option Y1
 | .ty n=>some (.type n)
 | .ref a=>some (.ref a)
 |_=>none
theorem GM{c:V}{cv u:Y1}(h:sL c=some cv)(r:RelV c u):u=cv:=by
 cases c with
 |ty n=>cases h;exact r
 |ref a=>cases h;exact r
 |_=>cases h
def rG(K:X0):List V->Hp->VK->Prop:=λ e H Q=>∃x c a t b,e=[x,c]/\sL c=some a/\d_ K H x t/\S_ K t a=some b/\Q (.bl b) H
section
variable{X:Cx}
theorem Mp:gN X (.builtin "isinstance") (rG X.K):=by
 intro a s o H w us Q I g h;obtain⟨x,c,y,t,b,rfl,i,ty,e,q⟩:=h;obtain⟨u,v,rfl,j,m⟩:=g.two;rw[GM i m];exact tH I j ty e λ n=>⟨.bl b,H,I.tok n,rfl,q⟩
end
section
variable{K:X0}
theorem BI{t:Y1}:S_ K t t=some true:=by
 unfold S_;rw[UL (by simp)]
theorem Rn:S_ K (.type "int") (.type "bool")=some false:=by with_unfolding_all rfl
end
structure Fn(K:X0)(mg:U1->Option Y1)(x:U1)(st:RH):Prop where
 ex:∃f fd,fD K x x st f fd/\mg x=some (.ref f)
structure bJ(P:Program)(w:V1)(K:X0)(mg:U1->Option Y1)(base:M1)(k:Nat)(x:U1)(ps:List U1)(sp:Sp):Prop where
 ex:∃f fd,bc P w K mg base eE k f fd ps sp/\Binds K fd ps []/\RM K (.ref f)=true/\mg x=some (.ref f)
structure eY(mg:U1->Option Y1)(x:U1)(v:V):Prop where
 ex:∃u,mg x=some u/\RelV v u
section
variable{P:Program}{w:V1}{K:X0}{mg:U1->Option Y1}{base:M1}
theorem cL{h:M1}{x:U1}{st:RH}{f:V0}{m:Y1}{od n:Option V0}{g:Array (Option Y1)}{kV i o cdv ct:Y1}(X:K.In h)(G:h.Ns RE mg)(a:Tt K RE x=some (some (.ref f)))(l:K.lookup f=some ⟨m,od,.func (SK x x (gO st) (fh st) (bg st) .none kV i o n cdv ct),g⟩)(c:T_ K cdv x=true)(k:RM K (.ref f)=true):Fn K mg x st:=
 ⟨f,_,uO l c k,TX X G a⟩
theorem jD{h:M1}{x:U1}{i:Int}{t:Tok}(X:K.In h)(G:h.Ns RE mg)(a:Tt K RE x=some (some (.int i t))):eY mg x (.int i):=⟨_,TX X G a,_,rfl⟩
theorem yU{h:M1}{x:U1}{a:V0}(X:K.In h)(G:h.Ns RE mg)(e:Tt K RE x=some (some (.ref a))):eY mg x (.ref a):=⟨_,TX X G e,rfl⟩
theorem tq{h:M1}{x y:U1}{t:Tok}(X:K.In h)(G:h.Ns RE mg)(a:Tt K RE x=some (some (.str y t))):eY mg x (.str y):=⟨_,TX X G a,_,rfl⟩
theorem bJ.of{x:U1}{st:RH}{N ps:List U1}{k:Nat}{sp:Sp}(F:Fn K mg x st)(S:bL N ps (bg st))(g:∀(kV c i:Y1)(n:Option V0)(cdv ct:Y1)(us:List Y1),us.length=ps.length->Tv (SK x x (gO st) (fh st) (bg st) .none kV c i n cdv ct) ⟨us,[]⟩=pure (ps.zip us))(len:∀vs H Q E,sp vs H Q E->vs.length=ps.length)(a:∀(f:V0)(cdv:Y1)(A:N1)(outer:List Env)(s:Z1)(H:Hp)(vs:List V)(Q:VK)(E:XK),bw k (A.deeper (Tw x (bg st) s.heap.objs.size f cdv))->sp vs H Q E->∃t,fy (d8 eE P w K mg base N x (bg st) f cdv A outer s H E).nox (fh st) t/\t {nx:=λ ω H'=>Q .non H',rt:=Q} (jc N vs) H):bJ P w K mg base (k+1) x ps sp:=by
 obtain⟨f,o,F,m⟩:=F.ex;exact⟨f,o,F.ok S len λ cdv=>a f cdv,F.binds g,F.kp,m⟩
theorem bJ.mono{j k:Nat}{x:U1}{ps:List U1}{sp:Sp}(h:bJ P w K mg base j x ps sp)(a:j<=k):bJ P w K mg base k x ps sp:=
 let⟨f,c,F,b,kp,m⟩:=h.ex;⟨f,c,F.mono a,b,kp,m⟩
end
section
variable{X:Cx}{x:U1}{ps:List U1}{sp:Sp}{k j:Nat}{e:Expr}{es:List Expr}{t:TA}{p pos:Pos}{v:V}
theorem Jq(h:bJ X.prog X.w X.K X.mg X.base k x ps sp)(hr:bw j X.A)(g:k<=j)(i:Gl X x)(n:PA X (e::es) t)(a:(x==("__debug__":U1))=false:=by decide)(o:Rt (e::es) X.env=(false,RJ e X.env)::Rt es X.env:=by rfl)(c:(RK pos (Rt es X.env)).any (·.1)=false:=by rfl):PE X (.Call (.Name x p) (e::es) [] pos) (qB sp [] E0 t):=by
 obtain⟨f,u,F,b,kp,m⟩:=h.ex;exact mj F (hr.mono g) i m kp b .nil kS n a o c
theorem eJ(h:eY X.mg x v)(a:Gl X x)(hd:(x==("__debug__":U1))=false:=by decide):PE X (.Name x pos) (tC v):=by
 obtain⟨u,m,r⟩:=h.ex;exact tw a m r hd
def Ia(i j:Int):Prop:=j≠0/\-(2^64)<j/\j<2^64
theorem Gz:d7 X (Sx .FloorDiv) (rI Ia λ i j=>.int (i.fdiv j)):=uD λ i j ω ω ω ω ω a q=>floordiv_int a.1 q (.inl (PyProof.noPylong_of_log2 (by
 have h:j.natAbs<2^64:=by have:=a.2;omega
 have:=(rR (by have:=a.1;omega)).mpr h;omega)))
end
theorem dR{p:V0}(h:H p=none)(o:HO):ao H (ar H p o):=λ b u q=>by rw[aU (bY q h)];exact q
theorem Ng{a:V0}{g:TG}{o:TS}{D:bU}{j:St}(xs:List V)(m:Nat->St->Hp->Prop)(u:m 0 j H)(hl:∀i j H,i<=xs.length->m i j H->az K H a xs)(v:∀i x j H,xs[i]?=some x->m i j H->g x j H λ n w=>o {D with nx:=m (i+1),ct:=m (i+1),bk:=D.nx} n w)(hd:∀j H,m xs.length j H->D.nx j H):qw (jT K a) g o D j H:=
 L1 m u hl v hd
theorem tJ{a:V0}{g:TG}{o:TS}{D:bU}{j:St}(xs:List V)(m:Nat->St->Hp->Prop)(u:m 0 j H)(hl:∀i j H,i<=xs.length->m i j H->ay K H a xs)(v:∀i x j H,xs[i]?=some x->m i j H->g x j H λ n w=>o {D with nx:=m (i+1),ct:=m (i+1),bk:=D.nx} n w)(hd:∀j H,m xs.length j H->D.nx j H):qw (kK K a) g o D j H:=
 KL m u hl v hd
theorem NS{lo:Int}{n:Nat}{g:TG}{D:bU}{j:St}(m:Nat->St->Hp->Prop)(v:m 0 j H)(w:∀i j H,i<n->m i j H->g (.int (lo+i)) j H λ o z=>u {D with nx:=m (i+1),ct:=m (i+1),bk:=D.nx} o z)(hd:∀j H,m n j H->D.nx j H):qw (mK lo n) g u D j H:=
 Nf m v w hd
theorem az.same{H':Hp}{a:V0}{xs:List V}(h:az K H a xs)(s:ao H H'):az K H' a xs:=s.seq h
theorem ay.same{H':Hp}{a:V0}{xs:List V}(h:ay K H a xs)(e:ao H H'):ay K H' a xs:=by
 rcases h with(h|⟨o,h⟩)|h
 ·exact .inl (.inl (e _ _ h))
 ·exact .inl (.inr ⟨o,e _ _ h⟩)
 ·exact .inr h
section
variable{K:X0}{H:Hp}{Q:VK}{i:Int}{b:Bool}{x:U1}
theorem PX{v:V}{n:String}{t:Y1}{k:Bool}(m:∀t',d_ K H v t'->t'=t)(o:d_ K H v t)(g:S_ K t (.type n)=some k):rG K [v,.ty n] H Q=Q (.bl k) H:=by
 refine propext ⟨λ h=>?_,λ h=>⟨_,_,_,_,_,rfl,rfl,o,g,h⟩⟩;obtain⟨x,c,w,t',z,e,u,ty,j,q⟩:=h;cases e;cases u;rw[m _ ty,g]at j;cases j;exact q
theorem Rm:S_ K (.type "bool") (.type "int")=some true:=by with_unfolding_all rfl
end
theorem fM{α:Type}{x:α}{xs:List α}:dQ (x::xs) 0=some x:=by simp[dQ,iq]
theorem fL{α:Type}{x y:α}{xs:List α}:dQ (x::y::xs) 1=some y:=by
 have:((1:Int)<(xs.length:Int)+1+1):=by lia
 simp[dQ,iq,this]
theorem O2{CX:ij}{P:Program}{w:V1}{mg:U1->Option Y1}{base:M1}{N:List U1}{qual:U1}{scope:SR}{f:V0}{g:Y1}{A:N1}{outer:List Env}{s:Z1}{E:XK}:(d8 CX P w K mg base N qual scope f g A outer s H E).K=K:=rfl
theorem xN:RI "len"=some (.builtin "len"):=by decide+kernel
theorem xD:RI "max"=some (.builtin "max"):=by decide+kernel
theorem AI:RI "min"=some (.builtin "min"):=by decide+kernel
theorem uM:RI "sum"=some (.builtin "sum"):=by decide+kernel
theorem Jv:RI "all"=some (.builtin "all"):=by decide+kernel
theorem IK:RI "any"=some (.builtin "any"):=by decide+kernel
theorem uT:RI "repr"=some (.builtin "repr"):=by decide+kernel
theorem DA:RI "isinstance"=some (.builtin "isinstance"):=by decide+kernel
theorem nz:RI "int"=some (.type "int"):=by decide+kernel
theorem E5:RI "str"=some (.type "str"):=by decide+kernel
theorem FG:RI "list"=some (.type "list"):=by decide+kernel
theorem iy:RI "tuple"=some (.type "tuple"):=by decide+kernel
theorem Hq:RI "enumerate"=some (.type "enumerate"):=by decide+kernel
section
variable{a c:Int}{b e:Bool}{x y:U1}
theorem Ph:jq (.int a) (.int c)=true:=rfl
theorem D7:jq (.str x) (.str y)=true:=rfl
end
def km(H H':Hp):Prop:=∀b o,(∀a,o≠.lst a)->H b=some o->H' b=some o
theorem o9{L:TE}{D:V0}{n:Nat}{C:St}(M:Option V)(rest:St)(R:Nat->V->Hp->Prop)(mono:∀j v A g,R j v A->km A g->R j v g)(X:C=M::rest)(N:H D=none)(hz:n<=Ru)(Y:∀i,i<n->∀A (O:VK),ao H A->(∀v g,ao A g->R i v g->O v g)->L (some (.int i)::rest) A O)(Z:∀vs H',ao H H'->H' D=some (.lst vs)->vs.length=n->(∀j v,vs[j]?=some v->R j v H')->Q (.ref D) H'):jd (mK 0 n) (gU 0) ir L D Q C (ar H D (.lst [])):=by
 refine⟨λ i m E H'=>m=n-i/\i<=n/\(∃v,E=v::rest)/\ao H H'/\∃vs,H' D=some (.lst vs)/\vs.length=i/\∀j v,vs[j]?=some v->R j v H',⟨n,by simp,dj _,⟨M,X⟩,dR N _,[],bu,rfl,λ j v h=>by simp at h⟩,?_⟩;rintro i m E H' ⟨rfl,hi,⟨v,rfl⟩,I,vs,P,hl,hr⟩;by_cases y:i<n
 ·refine .inr ⟨y,λ G g=>(∃v,G=v::rest)/\ao H g/\∃vs,g D=some (.lst vs)/\vs.length=i+1/\∀j v,vs[j]?=some v->R j v g,λ G g ⟨a,b,c⟩=>⟨n-(i+1),qR,rfl,y,a,b,c⟩,λ x g hx=>?_⟩;obtain⟨e1,e2⟩:=hx;subst e1 e2;unfold gU ir;rw[uu,Int.zero_add];refine cp (Y i y g _ I λ v S J hR=>?_);have T:=J _ _ P;have U:km S (ar S D (.lst (vs++[v]))):=λ b o ho w=>by
   rw[aU (λ z=>by rw[z,T]at w;cases w;exact ho _ rfl)];exact w
  refine⟨vs,T,qR,⟨_,rfl⟩,λ b o w=>?_,_,bu,by rw[bX,hl];rfl,λ j u B=>?_⟩
  ·rw[aU (bY w N)];exact J _ _ (I _ _ w)
  ·by_cases K:j<vs.length
   ·rw[uw K]at B;exact mono j u _ _ (mono j u _ _ (hr j u B) λ b o ω w=>J b o w) U
   ·rw[ux qR]at B;have ej:j-vs.length=0:=by
     have:=(gm.mp B).1;simp at this;lia
    rw[ej]at B;cases B;have:j=i:=by lia
    subst this;exact mono _ _ _ _ hR U
 ·have e:i=n:=by lia
  subst e;exact .inl ⟨aQ _,Z vs H' I P hl hr⟩
variable{ys:List V}
theorem Dj{J:It}{M:TE}{D:V0}{C:St}(N:Option V)(rest:St)(R:Nat->V->Hp->Prop)(mono:∀j v n g,R j v n->km n g->R j v g)(Y:C=N::rest)(O:H D=none)(hz:ys.length<=Ru)(Z:∀i n,ao H n->i<ys.length->J.go i n)(j2:∀i n x g,ao H n->J.yld i n x g->g=n/\ys[i]?=some x)(j3:∀n,ao H n->J.stop ys.length n)(he:∀i y,ys[i]?=some y->∀n (P:VK),ao H n->(∀v g,ao n g->R i v g->P v g)->M (some y::rest) n P)(hQ:∀vs H',ao H H'->H' D=some (.lst vs)->vs.length=ys.length->(∀j v,vs[j]?=some v->R j v H')->Q (.ref D) H'):jd J (gU 0) ir M D Q C (ar H D (.lst [])):=by
 refine⟨λ i m E H'=>m=ys.length-i/\i<=ys.length/\(∃v,E=v::rest)/\ao H H'/\∃vs,H' D=some (.lst vs)/\vs.length=i/\∀j v,vs[j]?=some v->R j v H',⟨ys.length,by simp,dj _,⟨N,Y⟩,dR O _,[],bu,rfl,λ j v h=>by simp at h⟩,?_⟩;rintro i m E H' ⟨rfl,hi,⟨v,rfl⟩,A,vs,S,hl,hr⟩;by_cases G:i<ys.length
 ·refine .inr ⟨Z i H' A G,λ I g=>(∃v,I=v::rest)/\ao H g/\∃vs,g D=some (.lst vs)/\vs.length=i+1/\∀j v,vs[j]?=some v->R j v g,λ I g ⟨a,b,c⟩=>⟨ys.length-(i+1),qR,rfl,G,a,b,c⟩,λ x g hx=>?_⟩;obtain⟨e1,e2⟩:=j2 i H' x g A hx;subst e1;unfold gU ir;rw[uu];refine cp (he i x e2 g _ A λ v T K hR=>?_);have U:=K _ _ S;have X:km T (ar T D (.lst (vs++[v]))):=λ b o ho w=>by
   rw[aU (λ z=>by rw[z,U]at w;cases w;exact ho _ rfl)];exact w
  refine⟨vs,U,qR,⟨_,rfl⟩,λ b o w=>?_,_,bu,by rw[bX,hl];rfl,λ j u B=>?_⟩
  ·rw[aU (bY w O)];exact K _ _ (A _ _ w)
  ·by_cases L:j<vs.length
   ·rw[uw L]at B;exact mono j u _ _ (mono j u _ _ (hr j u B) λ b o ω w=>K b o w) X
   ·rw[ux qR]at B;have ej:j-vs.length=0:=by
     have:=(gm.mp B).1;simp at this;lia
    rw[ej]at B;cases B;have:j=i:=by lia
    subst this;exact mono _ _ _ _ hR X
 ·have e:i=ys.length:=by lia
  subst e;exact .inl ⟨j3 _ A,hQ vs H' A S hl hr⟩
theorem kZ{a:V0}{n:TE}{D:V0}{g:St}(o:Option V)(rest:St)(R:Nat->V->Hp->Prop)(mono:∀j v c e,R j v c->km c e->R j v e)(w:g=o::rest)(z:H D=none)(hz:ys.length<=Ru)(m:∀c,ao H c->ay K c a ys)(A:∀i y,ys[i]?=some y->∀c (u:VK),ao H c->(∀v e,ao c e->R i v e->u v e)->n (some y::rest) c u)(B:∀vs H',ao H H'->H' D=some (.lst vs)->vs.length=ys.length->(∀j v,vs[j]?=some v->R j v H')->Q (.ref D) H'):jd (kK K a) (gU 0) ir n D Q g (ar H D (.lst [])):=
 Dj o rest R mono w z hz (λ i c s h=>⟨ys,ys[i],m c s,dc h⟩) (λ i c x e s h=>⟨h.1,h.2 ys (m c s)⟩) (λ c s=>⟨ys,m c s,aQ _⟩) A B
theorem k_{a:V0}{n:TE}{D:V0}{g:St}(o:Option V)(rest:St)(R:Nat->V->Hp->Prop)(mono:∀j v c e,R j v c->km c e->R j v e)(w:g=o::rest)(z:H D=none)(hz:ys.length<=Ru)(m:∀c,ao H c->az K c a ys)(A:∀i y,ys[i]?=some y->∀c (u:VK),ao H c->(∀v e,ao c e->R i v e->u v e)->n (some y::rest) c u)(B:∀vs H',ao H H'->H' D=some (.lst vs)->vs.length=ys.length->(∀j v,vs[j]?=some v->R j v H')->Q (.ref D) H'):jd (jT K a) (gU 0) ir n D Q g (ar H D (.lst [])):=
 Dj o rest R mono w z hz (λ i c s h=>⟨ys,ys[i],m c s,dc h⟩) (λ i c x e s h=>⟨h.1,h.2 ys (m c s)⟩) (λ c s=>⟨ys,m c s,aQ _⟩) A B
def xS(K:X0):Prop:=True
def Ob(H:Hp)(a:V0)(o:HO):Prop:=H a=some o
section
variable{K:X0}{H H' H1 H2:Hp}{a b p:V0}{o u:HO}{xs ys:List V}
theorem Ir:Ob H a o=(H a=some o):=rfl
grind_pattern Ir=>Ob H a o
theorem Ob.new:Ob (ar H p o) p o:=bu
grind_pattern Ob.new=>ar H p o
theorem Ob.same(h:Ob H a o)(s:ao H H'):Ob H' a o:=s _ _ h
grind_pattern Ob.same=>Ob H a o,ao H H'
theorem yE(h:H p=none):ao H (ar H p o):=dR h o
grind_pattern yE=>ar H p o
theorem yF(h:ao H H1)(h':ao H1 H2):ao H H2:=h.trans h'
grind_pattern yF=>ao H H1,ao H1 H2
theorem yG(h:ay K H a xs)(s:ao H H'):ay K H' a xs:=h.same s
grind_pattern yG=>ay K H a xs,ao H H'
theorem yH(h:az K H a xs)(s:ao H H'):az K H' a xs:=h.same s
grind_pattern yH=>az K H a xs,ao H H'
theorem yI(k:xS K)(h:Ob H a (.tup xs)):ay K H a xs:=ay.of h
grind_pattern yI=>xS K,Ob H a (.tup xs)
theorem yJ(k:xS K)(h:Ob H a (.lst xs)):az K H a xs:=az.of h
grind_pattern yJ=>xS K,Ob H a (.lst xs)
end
section
variable{α:Type}{x y z u v:α}{xs:List α}
theorem kQ:dQ (x::y::z::xs) 2=some z:=by
 have:((2:Int)<(xs.length:Int)+1+1+1):=by lia
 simp[dQ,iq,this]
theorem Bj:dQ (x::y::z::u::xs) 3=some u:=by
 have:((3:Int)<(xs.length:Int)+1+1+1+1):=by lia
 simp[dQ,iq,this]
end
structure oQ(K:X0)(mg:U1->Option Y1)(cn:U1)(C:V0):Prop where
 mgC:mg cn=some (.ref C)
 cl:gS K C
 mks:W.makesIn K C=true
 kp:RM K (.ref C)=true
structure fP(K:X0)(C:V0)(m qual:U1)(st:RH):Prop where
 ex:∃f fd,fD K m qual st f fd/\iU K C m f
structure aX(P:Program)(w:V1)(K:X0)(mg:U1->Option Y1)(base:M1)(k:Nat)(C:V0)(m:U1)(ps:List U1)(sp:Sp):Prop where
 ex:∃f fd,bc P w K mg base eE k f fd ps sp/\Binds K fd ps []/\iU K C m f
section
variable{P:Program}{w:V1}{K:X0}{mg:U1->Option Y1}{base:M1}
theorem sT{h:M1}{c:U1}(X:K.In h)(G:h.Ns RE mg)(a:Tt K RE c=some (some (.ref C)))(g:Ut K C So=true)(hd:TY K C=true)(i:W.plainOver K C=true)(n:RV K (.ref C) "__setattr__"=some (some (.builtin "object.__setattr__")))(mk:W.makesIn K C=true)(kp:RM K (.ref C)=true):oQ K mg c C:=⟨TX X G a,⟨g,hd,i,n⟩,mk,kp⟩
theorem gX{f:U1}(h:RV K (.ref C) f=some none):aY K C f:=h
theorem gA{m qual:U1}{st:RH}{f:V0}{u:Y1}{od v:Option V0}{g:Array (Option Y1)}{kV n y cdv ct:Y1}(a:RV K (.ref C) m=some (some (.ref f)))(i:W.isFn K (.ref f)=true)(l:K.lookup f=some ⟨u,od,.func (SK m qual (gO st) (fh st) (bg st) .none kV n y v cdv ct),g⟩)(c:T_ K cdv qual=true)(k:RM K (.ref f)=true):fP K C m qual st:=
 ⟨f,_,uO l c k,⟨a,i,k⟩⟩
theorem aX.of{m qual:U1}{st:RH}{N ps:List U1}{k:Nat}{sp:Sp}(F:fP K C m qual st)(S:bL N ps (bg st))(g:∀(kV c i:Y1)(n:Option V0)(cdv ct:Y1)(us:List Y1),us.length=ps.length->Tv (SK m qual (gO st) (fh st) (bg st) .none kV c i n cdv ct) ⟨us,[]⟩=pure (ps.zip us))(len:∀vs H Q E,sp vs H Q E->vs.length=ps.length)(a:∀(f:V0)(cdv:Y1)(A:N1)(outer:List Env)(s:Z1)(H:Hp)(vs:List V)(Q:VK)(E:XK),bw k (A.deeper (Tw qual (bg st) s.heap.objs.size f cdv))->sp vs H Q E->∃t,fy (d8 eE P w K mg base N qual (bg st) f cdv A outer s H E).nox (fh st) t/\t {nx:=λ ω H'=>Q .non H',rt:=Q} (jc N vs) H):aX P w K mg base (k+1) C m ps sp:=by
 obtain⟨f,u,F,v⟩:=F.ex;exact⟨f,u,F.ok S len λ cdv=>a f cdv,F.binds g,v⟩
end
section
variable{X:Cx}{x m:U1}{ps:List U1}{sp:Sp}{k j:Nat}{C:V0}{o e:Expr}{es:List Expr}{ta:TE}{t:TA}{p pos apos:Pos}
theorem KC{pl:Sem Bool}(n:PE X o ta)(c:gS X.K C)(h:aX X.prog X.w X.K X.mg X.base k C m ps sp)(hr:bw j X.A)(u:k<=j)(v:PA X (e::es) t)(a:Rt (e::es) X.env=(false,RJ e X.env)::Rt es X.env:=by rfl)(g:(RK pos (Rt es X.env)).any (·.1)=false:=by rfl)(y:RJ (.Call (.Attribute o m apos) (e::es) [] pos) X.env=(do
   let i<-RJ o X.env
   Sr apos.atName
   let(f,first)<-SU [i] (SF i m pl)
   Ti pos f first (RK pos (Rt (e::es) X.env)) (Sy pos (RX [] X.env))):=by rfl):PE X (.Call (.Attribute o m apos) (e::es) [] pos) (xu C m sp [] E0 ta t):=by
 obtain⟨f,A,F,b,z⟩:=h.ex;exact F6 n c z F (hr.mono u) b .nil kS v a g y
theorem Mm{pl:Sem Bool}(g:PE X o ta)(c:gS X.K C)(h:aX X.prog X.w X.K X.mg X.base k C m ps sp)(hr:bw j X.A)(i:k<=j)(n:RJ (.Call (.Attribute o m apos) [] [] pos) X.env=(do
   let a<-RJ o X.env
   Sr apos.atName
   let(f,first)<-SU [a] (SF a m pl)
   Ti pos f first (RK pos (Rt [] X.env)) (Sy pos (RX [] X.env))):=by rfl):PE X (.Call (.Attribute o m apos) [] [] pos) (xu C m sp [] E0 ta eQ):=by
 obtain⟨f,v,F,b,u⟩:=h.ex;exact Ge g c u F (hr.mono i) b .nil kS n
theorem ie(c:oQ X.K X.mg x C)(h:aX X.prog X.w X.K X.mg X.base k C "__init__" ps sp)(hr:bw j X.A)(n:k+1<=j)(u:Gl X x)(v:PA X (e::es) t)(a:(x==("__debug__":U1))=false:=by decide)(y:Rt (e::es) X.env=(false,RJ e X.env)::Rt es X.env:=by rfl)(g:(RK pos (Rt es X.env)).any (·.1)=false:=by rfl):PE X (.Call (.Name x p) (e::es) [] pos) (AB C sp [] E0 t):=by
 obtain⟨f,z,F,b,i⟩:=h.ex;exact Lo ⟨c.mks,i.at_,i.fn,c.kp⟩ F (hr.mono n) u c.mgC b .nil kS v a y g
end
def mono(t:TE):TE:=λ g H Q=>∃a:VK,t g H a/\∀v c,a v c->Q v c
section
variable{X:Cx}{o e value:Expr}{f:U1}{pos pos' tpos:Pos}{ta tv:TE}
theorem PE.mono{t:TE}(h:PE X e t):PE X e (mono t):=λ a s c H Q I ⟨g,n,i⟩=>aW (h a s c H g I n) λ u y ⟨x,v,w,r,q⟩=>⟨x,v,w,r,i _ _ q⟩
def kb(o:Option (Option V))(R:V->Prop):Prop:=match o with
 |some (some v)=>R v
 |_=>False
theorem Rl{v:V}{R:V->Prop}:kb (some (some v)) R=R v:=rfl
def oM(i:Nat):TE:=λ a H Q=>kb a[i]? λ v=>Q v H
theorem Qm{i:Nat}{a:St}:oM i a H Q=kb a[i]? λ v=>Q v H:=rfl
theorem Lm{o:Option (Option V)}{R:V->Prop}(h:kb o R):∃v,o=some (some v)/\R v:=by
 unfold kb at h;split at h
 ·exact⟨_,rfl,h⟩
 ·cases h
theorem Ky{i:Nat}{x:U1}(g:X.N[i]?=some x)(n:nL X.env.scope x)(hd:(x==("__debug__":U1))=false:=by decide)(c:(x==("__classdict__":U1))=false:=by decide):PE X (.Name x pos) (oM i):=
 λ a s u H Q I h=>E6 g n hd c a s u H Q I (Lm h)
theorem ai(i:Nat){x:U1}(c:X.N[i]?=some x:=by rfl)(g:nL X.env.scope x:=by first|exact Or.inl rfl|exact Or.inr (Or.inl rfl)|exact Or.inr (Or.inr rfl))(hd:(x==("__debug__":U1))=false:=by decide)(a:(x==("__classdict__":U1))=false:=by decide):PE X (.Name x pos) (oM i):=Ky c g hd a
inductive AY(K:X0)(f:U1)(a:V0)(H:Hp)(Q:VK):Prop
 |mk(C dx:V0)(fs:List (U1×V))(h:H a=some (.ins C dx fs))(cl:gS K C)(n:aY K C f)(v:V)(l:fs.lookup f=some v)(q:Q v H):AY K f a H Q
def xr(K:X0)(ta:TE)(f:U1):TE:=λ c H Q=>ta c H λ x g=>∃a,x=.ref a/\AY K f a g Q
theorem Qg:xr K ta f c H Q=ta c H λ x g=>∃a,x=.ref a/\AY K f a g Q:=rfl
theorem qc(w:PE X e ta)(y:SQ e f X.env (RJ e X.env)=RJ e X.env):PE X (.Attribute e f pos) (xr X.K ta f):=by
 intro g s z H Q I h;refine FO y (aW (w g s z H _ I h) λ u L i=>?_);obtain⟨x,A,B,D,a,E,i⟩:=i;obtain⟨C,M,fs,G,c,n,v,l,q⟩:=i;subst E;cases(show u=RA a from D);exact C4 B G c n l λ N O J K=>⟨v,A,J,K,q⟩
inductive pq(K:X0)(f:U1)(a:V0)(H:Hp)(R:V0->V0->List (U1×V)->Prop):Prop
 |mk(C dx:V0)(fs:List (U1×V))(h:H a=some (.ins C dx fs))(cl:gS K C)(n:aY K C f)(l:fs.length<1000)(r:R C dx fs):pq K f a H R
def Ek(K:X0)(ta tv:TE)(f:U1):TS:=λ D c H=>tv c H λ y i=>ta c i λ x g=>∃a,x=.ref a/\pq K f a g λ C n fs=>D.nx c (ar g a (.ins C n (aq f y fs)))
theorem P9{D:bU}:Ek K ta tv f D c H=tv c H λ y i=>ta c i λ x g=>∃a,x=.ref a/\pq K f a g λ C n fs=>D.nx c (ar g a (.ins C n (aq f y fs))):=rfl
theorem gW(w:PE X o ta)(z:PE X value tv)(A:Ul value (some (.Attribute o f pos')) pos.line X.env=pure false):PS X (.Assign [.Attribute o f pos'] value pos) (Ek X.K ta tv f):=by
 intro g s i H D I h;refine TC (aW (z g s i H _ I h) λ u B hz_=>?_) A;obtain⟨y,E,G,J,q⟩:=hz_;refine aW (w g B i E _ G q) λ K Q v=>?_;obtain⟨x,R,L,M,a,N,v⟩:=v;obtain⟨C,S,fs,O,c,n,l,P⟩:=v;subst N;cases(show K=RA a from M);exact CY L O c n l J λ T I3=>⟨i,_,I3,P⟩
inductive pH(K:X0)(f:U1)(a:V0)(H:Hp)(R:V0->V->Prop):Prop
 |mk(C dx:V0)(fs:List (U1×V))(h:H a=some (.ins C dx fs))(cl:gS K C)(n:aY K C f)(v:V)(l:fs.lookup f=some v)(q:R C v):pH K f a H R
inductive pE(C a:V0)(H:Hp)(R:V0->List (U1×V)->Prop):Prop
 |mk(dx:V0)(fs:List (U1×V))(h:H a=some (.ins C dx fs))(l:fs.length<1000)(r:R dx fs):pE C a H R
def GS(K:X0)(ta tv:TE)(rd:V->V->Hp->VK->Prop)(f:U1):TS:=λ D c H=>ta c H λ x n=>∃a,x=.ref a/\pH K f a n λ C v=>
 tv c n λ y w=>rd v y w λ z u=>pE C a u λ g i=>D.nx c (ar u a (.ins C g (aq f z i)))
theorem Rg{rd:V->V->Hp->VK->Prop}{D:bU}:GS K ta tv rd f D c H=ta c H λ x n=>∃a,x=.ref a/\pH K f a n λ C v=>tv c n λ y w=>rd v y w λ z u=>pE C a u λ g i=>D.nx c (ar u a (.ins C g (aq f z i))):=rfl
theorem Dp{op:Operator}{rd:V->V->Hp->VK->Prop}(E:PE X o ta)(G:PE X value tv)(A:AW X op rd):PS X (.AugAssign (.Attribute o f tpos) op value pos) (GS X.K ta tv rd f):=by
 intro g s w H D I h;refine wpAny_AugAssign_AttributeAny (aW (E g s w H _ I h) λ J s1 i=>?_);obtain⟨x,K,L,M,a,N,i⟩:=i;obtain⟨C,dx,fs,O,c,n,v,l,q⟩:=i;subst N;cases(show J=RA a from M);refine C4 L O c n l λ u P Q R=>aW (G g P w K _ Q q) λ S T hz_=>?_;obtain⟨y,U,I3,Y,Z⟩:=hz_;refine aW (A g T w U v y u S _ I3 R Y Z) λ w4 s4 hz_=>?_;obtain⟨z,H3,I4,rz,i⟩:=hz_;obtain⟨a0,b0,B,l',q4⟩:=i;exact CY I4 B c n l' rz λ s5 I5=>⟨w,_,I5,q4⟩
inductive xJ(C:V0)(m:U1)(a:V0)(H:Hp)(R:Prop):Prop
 |mk(dx:V0)(fs:List (U1×V))(h:H a=some (.ins C dx fs))(l:fs.lookup m=none)(r:R):xJ C m a H R
def sP(C:V0)(m:U1)(sp:Sp)(dvs:List V)(E:XK)(ta:TE)(t:TA):TE:=λ c H Q=>ta c H λ x g=>∃a,x=.ref a/\xJ C m a g (t c g λ vs i=>sp (x::(vs++dvs)) i Q E)
theorem Q_{C:V0}{m:U1}{sp:Sp}{E:XK}{t:TA}:sP C m sp dvs E ta t c H Q=ta c H λ x g=>∃a,x=.ref a/\xJ C m a g (t c g λ vs i=>sp (x::(vs++dvs)) i Q E):=rfl
variable{C:V0}{m:U1}{ps:List U1}{sp:Sp}{k j:Nat}{es:List Expr}{t:TA}{apos:Pos}
theorem jh{pl:Sem Bool}(v:PE X o ta)(c:gS X.K C)(h:aX X.prog X.w X.K X.mg X.base k C m ps sp)(hr:bw j X.A)(w:k<=j)(x:PA X (e::es) t)(i:Rt (e::es) X.env=(false,RJ e X.env)::Rt es X.env:=by rfl)(n:(RK pos (Rt es X.env)).any (·.1)=false:=by rfl)(y:RJ (.Call (.Attribute o m apos) (e::es) [] pos) X.env=(do
   let u<-RJ o X.env
   Sr apos.atName
   let(f,first)<-SU [u] (SF u m pl)
   Ti pos f first (RK pos (Rt (e::es) X.env)) (Sy pos (RX [] X.env))):=by rfl):PE X (.Call (.Attribute o m apos) (e::es) [] pos) (sP C m sp [] E0 ta t):=
 λ g s z H Q I A=>KC v.mono c h hr w x i n y g s z H Q I ⟨_,A,λ _ _ ⟨a,e,B,fs,h,l,r⟩=>⟨a,B,fs,e,h,l,r⟩⟩
theorem f6{pl:Sem Bool}(n:PE X o ta)(c:gS X.K C)(h:aX X.prog X.w X.K X.mg X.base k C m ps sp)(hr:bw j X.A)(u:k<=j)(v:RJ (.Call (.Attribute o m apos) [] [] pos) X.env=(do
   let i<-RJ o X.env
   Sr apos.atName
   let(f,first)<-SU [i] (SF i m pl)
   Ti pos f first (RK pos (Rt [] X.env)) (Sy pos (RX [] X.env))):=by rfl):PE X (.Call (.Attribute o m apos) [] [] pos) (sP C m sp [] E0 ta eQ):=
 λ g s w H Q I x=>Mm n.mono c h hr u v g s w H Q I ⟨_,x,λ _ _ ⟨a,e,y,fs,h,l,r⟩=>⟨a,y,fs,e,h,l,r⟩⟩
inductive AU(K:X0)(p:V0)(i:Int)(H:Hp)(Q:VK):Prop
 |mk(xs:List V)(h:ay K H p xs)(v:V)(l:dQ xs i=some v)(q:Q v H):AU K p i H Q
inductive xP(K:X0)(p:V0)(i:Int)(H:Hp)(Q:VK):Prop
 |mk(xs:List V)(h:az K H p xs)(v:V)(l:dQ xs i=some v)(q:Q v H):xP K p i H Q
def qy(K:X0):R2:=λ x y H Q=>∃p,x=.ref p/\∃i,y=.int i/\AU K p i H Q
def xg(K:X0):R2:=λ x y H Q=>∃p,x=.ref p/\∃i,y=.int i/\xP K p i H Q
theorem P5:qy K x y H Q=∃p,x=.ref p/\∃i,y=.int i/\AU K p i H Q:=rfl
theorem P8:xg K x y H Q=∃p,x=.ref p/\∃i,y=.int i/\xP K p i H Q:=rfl
theorem Fv:jm X (qy X.K):=λ value a c s g H x y v u Q I n w ⟨p,A,i,B,D,h,z,l,q⟩ E=>kg value a c s g H x y v u Q I n w ⟨p,D,i,z,A,B,h,l,q⟩ E
theorem Mb:jm X (xg X.K):=λ value a c s g H x y v u Q I n w ⟨p,A,i,B,D,h,z,l,q⟩ E=>ja value a c s g H x y v u Q I n w ⟨p,D,i,z,A,B,h,l,q⟩ E
inductive pk(p:V0)(k:Int)(H:Hp)(R:List V->Nat->Prop):Prop
 |mk(xs:List V)(h:H p=some (.lst xs))(j:Nat)(l:iq xs.length k=some j)(r:R xs j):pk p k H R
def Ey:kG:=λ o i v H Q=>∃p,o=.ref p/\∃k,i=.int k/\pk p k H λ a j=>Q (ar H p (.lst (a.set j v)))
theorem Rj{o i v:V}{Q:Hp->Prop}:Ey o i v H Q=∃p,o=.ref p/\∃k,i=.int k/\pk p k H λ xs j=>Q (ar H p (.lst (xs.set j v))):=rfl
theorem M9:px X Ey:=λ a s c H o i v g n u Q I w x y ⟨p,z,k,A,B,h,j,l,q⟩=>MU a s c H o i v g n u Q I w x y ⟨p,B,k,j,z,A,h,l,q⟩
inductive pG(vs:List V)(R:V->List V->Prop):Prop
 |mk(v:V)(r:List V)(e:vs=v::r)(q:R v r):pG vs R
inductive AA(K:X0)(a:V0)(n:Nat)(H:Hp)(R:List V->Prop):Prop
 |mk(xs:List V)(h:ay K H a xs)(l:xs.length=n)(q:R xs):AA K a n H R
def Ar(K:X0)(n:Nat)(t:jk):TG:=λ v c H Q=>∃a,v=.ref a/\AA K a n H λ g=>t g c H Q
theorem QB{n:Nat}{t:jk}{v:V}{Q:St->Hp->Prop}:Ar K n t v c H Q=∃a,v=.ref a/\AA K a n H λ xs=>t xs c H Q:=rfl
def EA(t:TG)(u:jk):jk:=λ vs c H Q=>pG vs λ v r=>t v c H λ a g=>u r a g Q
theorem Qb{t:TG}{u:jk}{Q:St->Hp->Prop}:EA t u vs c H Q=pG vs λ v r=>t v c H λ a H'=>u r a H' Q:=rfl
theorem eW{e:Expr}{es:List Expr}{t:TG}{u:jk}(c:PG X e t)(h2:lg X es u)(g:(SL (e::es) X.env).map (·.2)=Ug e X.env::(SL es X.env).map (·.2):=by rfl):lg X (e::es) (EA t u):=
 λ a s i H vs us Q I r ⟨v,w,e,q⟩=>MK c h2 g a s i H vs us Q I r ⟨v,w,e,q⟩
theorem kv{es:List Expr}{k:Nat}{t:jk}{n:Nat}(i:X.calm=true)(h:lg X es t)(w:(SL es X.env).length=n:=by rfl)(g:(SL es X.env).findIdx? (·.1)=none:=by rfl):PG X (.Tuple es k pos) (Ar X.K n t):=
 λ c s x H v u Q I r ⟨a,e,y,z,l,q⟩=>JP i h w g c s x H v u Q I r ⟨a,y,e,z,l,q⟩
end
@[elab_as_elim] theorem el0 {α:Type} {motive:List α->Prop} (us:List α) (h:us.length=0) (k:motive []):motive us:=match us,h with|[],_=>k
@[elab_as_elim] theorem el1 {α:Type} {motive:List α->Prop} (us:List α) (h:us.length=1) (k:∀a:α,motive [a]):motive us:=match us,h with|[a],_=>k a
@[elab_as_elim] theorem el2 {α:Type} {motive:List α->Prop} (us:List α) (h:us.length=2) (k:∀a b:α,motive [a,b]):motive us:=match us,h with|[a,b],_=>k a b
@[elab_as_elim] theorem el3 {α:Type} {motive:List α->Prop} (us:List α) (h:us.length=3) (k:∀a b c:α,motive [a,b,c]):motive us:=match us,h with|[a,b,c],_=>k a b c
@[elab_as_elim] theorem el4 {α:Type} {motive:List α->Prop} (us:List α) (h:us.length=4) (k:∀a b c d:α,motive [a,b,c,d]):motive us:=match us,h with|[a,b,c,d],_=>k a b c d
@[elab_as_elim] theorem el5 {α:Type} {motive:List α->Prop} (us:List α) (h:us.length=5) (k:∀a b c d e:α,motive [a,b,c,d,e]):motive us:=match us,h with|[a,b,c,d,e],_=>k a b c d e
@[elab_as_elim] theorem el6 {α:Type} {motive:List α->Prop} (us:List α) (h:us.length=6) (k:∀a b c d e f:α,motive [a,b,c,d,e,f]):motive us:=match us,h with|[a,b,c,d,e,f],_=>k a b c d e f
@[elab_as_elim] theorem el7 {α:Type} {motive:List α->Prop} (us:List α) (h:us.length=7) (k:∀a b c d e f g:α,motive [a,b,c,d,e,f,g]):motive us:=match us,h with|[a,b,c,d,e,f,g],_=>k a b c d e f g
theorem seq2{a c:TS}{D:bU}{g:St}(h:∀i,i=c->a {D with nx:=i D} g H):(aJ a c) D g H:=h _ rfl
theorem seq3{a c g:TS}{D:bU}{i:St}(h:∀n,n=g->∀u,u=aJ c n->a {D with nx:=u D} i H):(aJ a (aJ c g)) D i H:=h _ rfl _ rfl
theorem seq4{a c g i:TS}{D:bU}{n:St}(h:∀u,u=i->∀v,v=aJ g u->∀w,w=aJ c v->a {D with nx:=w D} n H):(aJ a (aJ c (aJ g i))) D n H:=h _ rfl _ rfl _ rfl
theorem seq6{a c g i n:TS}{D:bU}{v:St}(h:∀w,w=u->∀x,x=aJ n w->∀y,y=aJ i x->∀z,z=aJ g y->∀A,A=aJ c z->a {D with nx:=A D} v H):(aJ a (aJ c (aJ g (aJ i (aJ n u))))) D v H:=h _ rfl _ rfl _ rfl _ rfl _ rfl
theorem seq7{a c g i n v:TS}{D:bU}{w:St}(h:∀x,x=v->∀y,y=aJ u x->∀z,z=aJ n y->∀A,A=aJ i z->∀B,B=aJ g A->∀E,E=aJ c B->a {D with nx:=E D} w H):(aJ a (aJ c (aJ g (aJ i (aJ n (aJ u v)))))) D w H:=h _ rfl _ rfl _ rfl _ rfl _ rfl _ rfl
theorem seq8{a c g i n v w:TS}{D:bU}{x:St}(h:∀y,y=w->∀z,z=aJ v y->∀A,A=aJ u z->∀B,B=aJ n A->∀E,E=aJ i B->∀G,G=aJ g E->∀I,I=aJ c G->a {D with nx:=I D} x H):(aJ a (aJ c (aJ g (aJ i (aJ n (aJ u (aJ v w))))))) D x H:=h _ rfl _ rfl _ rfl _ rfl _ rfl _ rfl _ rfl
theorem HP{v w x y z A B E a c g:TS}{D:bU}{G:St}(h:∀i,i=g->∀n,n=aJ c i->∀I,I=aJ a n->∀J,J=aJ E I->∀K,K=aJ B J->∀L,L=aJ A K->∀M,M=aJ z L->∀N,N=aJ y M->∀O,O=aJ x N->∀P,P=aJ w O->∀Q,Q=aJ v P->u {D with nx:=Q D} G H):(aJ u (aJ v (aJ w (aJ x (aJ y (aJ z (aJ A (aJ B (aJ E (aJ a (aJ c g))))))))))) D G H:=h _ rfl _ rfl _ rfl _ rfl _ rfl _ rfl _ rfl _ rfl _ rfl _ rfl _ rfl
theorem Av{w x y z A B E G I a c g i:TS}{D:bU}{J:St}(h:∀n,n=i->∀u,u=aJ g n->∀v,v=aJ c u->∀K,K=aJ a v->∀L,L=aJ I K->∀M,M=aJ G L->∀N,N=aJ E M->∀O,O=aJ B N->∀P,P=aJ A O->∀Q,Q=aJ z P->∀R,R=aJ y Q->∀S,S=aJ x R->w {D with nx:=S D} J H):(aJ w (aJ x (aJ y (aJ z (aJ A (aJ B (aJ E (aJ G (aJ I (aJ a (aJ c (aJ g i)))))))))))) D J H:=h _ rfl _ rfl _ rfl _ rfl _ rfl _ rfl _ rfl _ rfl _ rfl _ rfl _ rfl _ rfl
def aS(H:Hp)(o:HO)(R:V0->Hp->Prop):Prop:=∀p,H p=none->R p (ar H p o)
theorem aS.of{o:HO}{R:V0->Hp->Prop}(h:∀p H',H p=none->ao H H'->H' p=some o->R p H'):aS H o R:=λ p a=>h p _ a (dR a o) bu
theorem O_{t:TA}{a:St}:qY t a H Q=(t a H λ xs c=>xs.length<=Ru/\aS c (.tup xs) λ p g=>Q (.ref p) g):=rfl
theorem Px{t:TA}{a:St}:rj t a H Q=(t a H λ xs c=>xs.length<=Ru/\aS c (.lst xs) λ p g=>Q (.ref p) g):=rfl
theorem PL{lo:Option Int}{hi:Option Int}:hG K x lo hi H Q=(∃a xs,x=.ref a/\az K H a xs/\aS H (.lst (cY xs lo hi)) λ p c=>Q (.ref p) c):=rfl
theorem PM:rH x y H Q=(∃l b xs a,x=.ref l/\y=.ref b/\H l=some (.lst xs)/\H b=some (.lst a)/\xs.length+a.length<=Ru/\aS H (.lst (xs++a)) λ p c=>Q (.ref p) c):=rfl
theorem qA(K)(i:Nat){x:U1}(hN:X.N[i]?=some x:=by rfl)(hv:nL X.env.scope x:=by first|exact Or.inl rfl|exact Or.inr (Or.inl rfl)|exact Or.inr (Or.inr rfl))(hd:(x==("__debug__":U1))=false:=by decide)(hc:(x==("__classdict__":U1))=false:=by decide)(h:jm X (qy K):=by exact Fv):PE X (.Subscript (.Name x p) (.Constant (.int j) l p2) p3) (ls (qy K) (oM i) (tC (.int j))):=gT h (ai i hN hv hd hc) aw (λ ω ω=>rfl)
theorem qC(K)(ha:PE X a ta)(hb:PE X b tb)(h:jm X (qy K):=by exact Fv)(hs:zd b:=by exact λ ω ω=>rfl):PE X (.Subscript a b pos) (ls (qy K) ta tb):=gT h ha hb hs
theorem qD(K)(ha:PE X a ta)(hb:PE X b tb)(h:jm X (xg K):=by exact Mb)(hs:zd b:=by exact λ ω ω=>rfl):PE X (.Subscript a b pos) (ls (xg K) ta tb):=gT h ha hb hs
theorem qF{x:U1}(h:bJ X.prog X.w X.K X.mg X.base k x ps sp)(hr:bw j X.A)(ha:PA X (e::es) t)(hk:k<=j:=by first|decide|lia)(hg:Gl X x:=by exact rfl)(hd:(x==("__debug__":U1))=false:=by decide)(he:Rt (e::es) X.env=(false,RJ e X.env)::Rt es X.env:=by rfl)(hl:(RK pos (Rt es X.env)).any (·.1)=false:=by rfl):PE X (.Call (.Name x p) (e::es) [] pos) (qB sp [] E0 t):=Jq h hr hk hg ha hd he hl
theorem qG(i:Nat){x:U1}{e:Expr}{te:TE}{pos':Pos}(hN:X.N.Nodup)(he:PE X e te)(hi:X.N[i]?=some x:=by exact rfl)(hx:Loc X.env.scope x:=by exact Or.inl rfl)(hs:Ul e (some (.Name x pos')) pos.line X.env=pure false:=by rfl)(hf:X.fn x=true\/X.env.scope.names.lookup x=some .local:=by first|exact .inl rfl|exact .inr rfl|assumption):PS X (.Assign [.Name x pos'] e pos) (lD te (gU i)):=nB hN hi hx he hs hf
theorem qH(i:Nat){x:U1}(hN:X.N.Nodup)(hi:X.N[i]?=some x:=by exact rfl)(hx:Loc X.env.scope x:=by exact Or.inl rfl)(hf:X.fn x=true\/X.env.scope.names.lookup x=some .local:=by first|exact .inl rfl|exact .inr rfl|assumption):PG X (.Name x pos) (gU i):=y8 hN hi hx hf
theorem qI(a:PE X e te)(h:Rt [e] X.env=(false,RJ e X.env)::Rt [] X.env:=by rfl):PA X [e] (jO te eQ):=dq a ix h
theorem qJ(a:PE X e te)(b:PE X f tf)(h:Rt [e,f] X.env=(false,RJ e X.env)::Rt [f] X.env:=by rfl)(h2:Rt [f] X.env=(false,RJ f X.env)::Rt [] X.env:=by rfl):PA X [e,f] (jO te (jO tf eQ)):=dq a (qI b h2) h
theorem qK(a:PE X e te)(b:PE X f tf)(c:PE X g tg)(h:Rt [e,f,g] X.env=(false,RJ e X.env)::Rt [f,g] X.env:=by rfl)(h2:Rt [f,g] X.env=(false,RJ f X.env)::Rt [g] X.env:=by rfl)(h3:Rt [g] X.env=(false,RJ g X.env)::Rt [] X.env:=by rfl):PA X [e,f,g] (jO te (jO tf (jO tg eQ))):=dq a (qJ b c h2 h3) h
theorem qL(hm:X.mg "len"=none)(ha:PA X (e::es) t)(hg:Gl X "len":=by exact rfl)(he:Rt (e::es) X.env=(false,RJ e X.env)::Rt es X.env:=by rfl)(hl:(RK pos (Rt es X.env)).any (·.1)=false:=by rfl):PE X (.Call (.Name "len" p) (e::es) [] pos) (rq (λ xs H Q=>∃p ys,xs=[.ref p]/\(az X.K H p ys\/ay X.K H p ys)/\Q (.int ys.length) H) t):=eH Dr hg hm xN ha (J:=he) (j:=hl)
theorem qM{op:CmpOp}{r:R2}(ho:d7 X (R4 op) r)(ha:PE X a ta)(hb:PE X b tb)(h:op≠.In:=by decide)(h2:op≠.NotIn:=by decide):PT X (.Compare a [op] [b] pos) (xo (ls r ta tb)):=mi ho ha hb (iu _ h h2)
theorem qN{i j p pos}:PE X (.UnaryOp .USub (.Constant (.int i) j p) pos) (xV (rU λ i=>.int (-i)) (tC (.int i))):=Ie JY aw
theorem qO(i:Nat){x f:U1}(hN:X.N[i]?=some x:=by rfl)(hv:nL X.env.scope x:=by first|exact Or.inl rfl|exact Or.inr (Or.inl rfl)|exact Or.inr (Or.inr rfl))(hd:(x==("__debug__":U1))=false:=by decide)(hc:(x==("__classdict__":U1))=false:=by decide)(hb:SQ (.Name x p) f X.env (RJ (.Name x p) X.env)=RJ (.Name x p) X.env:=by exact rfl):PE X (.Attribute (.Name x p) f pos) (xr X.K (oM i) f):=qc (ai i hN hv hd hc) hb
end L2
end
section
namespace TM
open PySem L2 P15
structure Kp(H H':Hp):Prop where
 t:∀b xs,H b=some (.tup xs)->H' b=some (.tup xs)
 z:∀b o xs,H b=some (.frz o (.tup xs))->H' b=some (.frz o (.tup xs))
 i:∀b C dx f fs,H b=some (.ins C dx (f::fs))->H' b=some (.ins C dx (f::fs))
variable{H' H:Hp}
theorem Kp.trans{H'':Hp}(a:Kp H H')(b:Kp H' H''):Kp H H'':=⟨λ ω ω h=>b.t _ _ (a.t _ _ h),λ ω ω ω h=>b.z _ _ _ (a.z _ _ _ h),λ ω ω ω ω ω h=>b.i _ _ _ _ _ (a.i _ _ _ _ _ h)⟩
theorem Kp.of(s:ao H H'):Kp H H':=⟨λ ω ω h=>s _ _ h,λ ω ω ω h=>s _ _ h,λ ω ω ω ω ω h=>s _ _ h⟩
variable{a:V0}
theorem Kp.put{u:HO}(o:HO)(h:H a=some u)(g:∀xs,u≠.tup xs)(i:∀o xs,u≠.frz o (.tup xs))(j:∀C c f fs,u≠.ins C c (f::fs)):Kp H (ar H a o):=by
 refine⟨λ b xs e=>?_,λ b o xs e=>?_,λ b C c f fs e=>?_⟩
 ·rw[aU (λ z=>by rw[z,h]at e;cases e;exact g _ rfl)];exact e
 ·rw[aU (λ z=>by rw[z,h]at e;cases e;exact i _ _ rfl)];exact e
 ·rw[aU (λ z=>by rw[z,h]at e;cases e;exact j _ _ _ _ rfl)];exact e
theorem Kp.lst{H:Hp}{a:V0}{xs:List V}(o:HO)(h:H a=some (.lst xs)):Kp H (ar H a o):=Kp.put o h (λ ω z=>by cases z) (λ ω ω z=>by cases z) (λ ω ω ω ω z=>by cases z)
structure Kt(H H':Hp):Prop where
 t:∀b xs,H b=some (.tup xs)->H' b=some (.tup xs)
 z:∀b o xs,H b=some (.frz o (.tup xs))->H' b=some (.frz o (.tup xs))
theorem Kp.kt(k:Kp H H'):Kt H H':=⟨k.t,k.z⟩
theorem Kt.put{u:HO}(o:HO)(h:H a=some u)(c:∀xs,u≠.tup xs)(g:∀o xs,u≠.frz o (.tup xs)):Kt H (ar H a o):=by
 refine⟨λ b xs e=>?_,λ b o xs e=>?_⟩
 ·rw[aU (λ z=>by rw[z,h]at e;cases e;exact c _ rfl)];exact e
 ·rw[aU (λ z=>by rw[z,h]at e;cases e;exact g _ _ rfl)];exact e
variable{xs:List V}{K:X0}
theorem ay.kt(h:ay K H a xs)(k:Kt H H'):ay K H' a xs:=by
 rcases h with(h|⟨o,h⟩)|h
 ·exact .inl (.inl (k.t _ _ h))
 ·exact .inl (.inr ⟨o,k.z _ _ _ h⟩)
 ·exact .inr h
theorem ay.kp(h:ay K H a xs)(k:Kp H H'):ay K H' a xs:=ay.kt h k.kt
mutual
inductive RT(K:X0)(H:Hp):V->PyData->Prop
 |non:RT K H .non .none
 |bl(b:Bool):RT K H (.bl b) (.bool b)
 |int(i:Int):RT K H (.int i) (.int i)
 |str(x:U1):RT K H (.str x) (.str x)
 |tup{a:V0}{xs:List V}{ds:List PyData}:ay K H a xs->bM K H xs ds->RT K H (.ref a) (.tuple ds)
inductive bM(K:X0)(H:Hp):List V->List PyData->Prop
 |nil:bM K H [] []
 |cons{v:V}{vs:List V}{d:PyData}{ds:List PyData}:RT K H v d->bM K H vs ds->bM K H (v::vs) (d::ds)
end
section
variable{K:X0}{H H':Hp}
mutual
theorem RT.rd:∀{v:V}{d:PyData},RT K H v d->dZ K H v d
 |_,_,.non=>.non
 |_,_,.bl b=>.bl b
 |_,_,.int i=>.int i
 |_,_,.str x=>.str x
 |_,_,.tup a c=>.tup a (bM.rd c)
theorem bM.rd:∀{vs:List V}{ds:List PyData},bM K H vs ds->dU K H vs ds
 |_,_,.nil=>.nil
 |_,_,.cons h a=>.cons (RT.rd h) (bM.rd a)
end
mutual
theorem RT.kt(k:Kt H H'):∀{v:V}{d:PyData},RT K H v d->RT K H' v d
 |_,_,.non=>.non
 |_,_,.bl b=>.bl b
 |_,_,.int i=>.int i
 |_,_,.str x=>.str x
 |_,_,.tup a c=>.tup (ay.kt a k) (bM.kt k c)
theorem bM.kt(k:Kt H H'):∀{vs:List V}{ds:List PyData},bM K H vs ds->bM K H' vs ds
 |_,_,.nil=>.nil
 |_,_,.cons h a=>.cons (RT.kt k h) (bM.kt k a)
end
theorem RT.kp{v:V}{d:PyData}(k:Kp H H')(h:RT K H v d):RT K H' v d:=h.kt k.kt
theorem bM.kp{vs:List V}{ds:List PyData}(k:Kp H H')(h:bM K H vs ds):bM K H' vs ds:=h.kt k.kt
theorem RT.same{v:V}{d:PyData}(h:RT K H v d)(s:ao H H'):RT K H' v d:=h.kp (Kp.of s)
theorem bM.same{vs:List V}{ds:List PyData}(h:bM K H vs ds)(s:ao H H'):bM K H' vs ds:=h.kp (Kp.of s)
theorem RT.str_inv{v:V}{x:U1}(h:RT K H v (.str x)):v=.str x:=by cases h;rfl
theorem RT.tup_inv{v:V}{ds:List PyData}(h:RT K H v (.tuple ds)):∃a xs,v=.ref a/\ay K H a xs/\bM K H xs ds:=by
 cases h with
 |tup a b=>exact⟨_,_,rfl,a,b⟩
theorem bM.inv{vs:List V}{d:PyData}{ds:List PyData}(h:bM K H vs (d::ds)):∃v r,vs=v::r/\RT K H v d/\bM K H r ds:=by
 cases h with
 |cons a b=>exact⟨_,_,rfl,a,b⟩
theorem bM.nil_inv{vs:List V}(h:bM K H vs []):vs=[]:=by cases h;rfl
theorem bM.length:∀{vs:List V}{ds:List PyData},bM K H vs ds->vs.length=ds.length
 |_,_,.nil=>rfl
 |_,_,.cons _ a=>congrArg (·+1) (bM.length a)
theorem bM.app:∀{xs ys:List V}{ds es:List PyData},bM K H xs ds->bM K H ys es->bM K H (xs++ys) (ds++es)
 |_,_,_,_,.nil,h=>h
 |_,_,_,_,.cons a b,h=>.cons a (bM.app b h)
theorem bM.at:∀{vs:List V}{ds:List PyData}{i:Nat}{v:V},bM K H vs ds->vs[i]?=some v->∃d,ds[i]?=some d/\RT K H v d
 |_,_,0,_,.cons a _,h=>by cases h;exact⟨_,rfl,a⟩
 |_,_,i+1,_,.cons _ b,h=>by have:=bM.at (i:=i) b h;exact this
end
noncomputable def eV:Lb->V
 | .non=>.non| .int i=>.int i| .bl b=>.bl b| .str x=>.str x
theorem xq:∀l:Lb,RT K H (eV l) l.d
 | .non=>.non| .int i=>.int i| .bl b=>.bl b| .str x=>.str x
theorem mh:∀ts:List Tm,(bO ts).length=ts.length
 |[]=>rfl
 |_::ts=>congrArg (·+1) (mh ts)
theorem LW:∀xs ys:List Tm,bO (xs++ys)=bO xs++bO ys
 |[],_=>rfl
 |x::xs,ys=>congrArg (x.dat::·) (LW xs ys)
theorem zh:∀{ts:List Tm}{i:Nat}{d:PyData},(bO ts)[i]?=some d->∃t,ts[i]?=some t/\d=t.dat
 |t::ts,0,d,h=>by cases h;exact⟨t,rfl,rfl⟩
 |t::ts,i+1,d,h=>by have:=zh (ts:=ts) (i:=i) h;exact this
noncomputable def sE(f:Fm)(l:Lb)(inn sh:V0)(d m:Nat):List (U1×V):=[("form",.str f.s),("label",eV l),("inner",.ref inn),("deep",.int d),("many",.int m),("shape",.ref sh)]
mutual
inductive TO(K:X0)(C:V0)(H:Hp):V->Tm->Prop
 |mk{a dx inn sh:V0}{f:Fm}{l:Lb}{ps:List Tm}{vs ws:List V}:H a=some (.ins C dx (sE f l inn sh (1+aO ps) (1+aG ps)))->ay K H inn vs->cU K C H vs ps->ay K H sh ws->bM K H ws (ig f l (bO ps))->TO K C H (.ref a) (.mk f l ps)
inductive cU(K:X0)(C:V0)(H:Hp):List V->List Tm->Prop
 |nil:cU K C H [] []
 |cons{v:V}{vs:List V}{t:Tm}{ts:List Tm}:TO K C H v t->cU K C H vs ts->cU K C H (v::vs) (t::ts)
end
section
variable{K:X0}{C:V0}{H H':Hp}
mutual
theorem TO.kp(k:Kp H H'):∀{v:V}{t:Tm},TO K C H v t->TO K C H' v t
 |_,_,.mk a b c d e=>.mk (k.i _ _ _ _ _ a) (ay.kp b k) (cU.kp k c) (ay.kp d k) (e.kp k)
theorem cU.kp(k:Kp H H'):∀{vs:List V}{ts:List Tm},cU K C H vs ts->cU K C H' vs ts
 |_,_,.nil=>.nil
 |_,_,.cons h a=>.cons (TO.kp k h) (cU.kp k a)
end
theorem TO.inv{v:V}{t:Tm}(h:TO K C H v t):∃a j g i vs ws,v=.ref a/\H a=some (.ins C j (sE t.f t.l g i t.depth t.size))/\ay K H g vs/\cU K C H vs t.ps/\ay K H i ws/\bM K H ws (ig t.f t.l (bO t.ps)):=by
 cases h with
 |mk a b c d e=>exact⟨_,_,_,_,_,_,rfl,a,b,c,d,e⟩
theorem cU.length:∀{vs:List V}{ts:List Tm},cU K C H vs ts->vs.length=ts.length
 |_,_,.nil=>rfl
 |_,_,.cons _ a=>congrArg (·+1) (cU.length a)
theorem cU.app:∀{xs ys:List V}{ts us:List Tm},cU K C H xs ts->cU K C H ys us->cU K C H (xs++ys) (ts++us)
 |_,_,_,_,.nil,h=>h
 |_,_,_,_,.cons a b,h=>.cons a (cU.app b h)
theorem cU.at:∀{vs:List V}{ts:List Tm}{i:Nat}{v:V},cU K C H vs ts->vs[i]?=some v->∃t,ts[i]?=some t/\TO K C H v t
 |_,_,0,_,.cons a _,h=>by cases h;exact⟨_,rfl,a⟩
 |_,_,i+1,_,.cons _ b,h=>by have:=cU.at (i:=i) b h;exact this
end
def SX(x:V0)(H H':Hp):Prop:=∀b o,b≠x->H b=some o->H' b=some o
theorem nq{b:V0}{x y:Option HO}(h:H a=x)(q:H b=y)(n:x≠y:=by(intro z;cases z)):b≠a:=λ z=>n (by rw[<-h,<-q,z])
variable{x:V0}
theorem SX.of(s:ao H H'):SX x H H':=λ b o ω h=>s b o h
theorem SX.trans{H'':Hp}(a:SX x H H')(b:SX x H' H''):SX x H H'':=λ c o n h=>b c o n (a c o n h)
theorem SX.put(o:HO):SX x H (ar H x o):=λ b u n h=>by rw[aU n];exact h
theorem SX.kp{C c:V0}(s:SX x H H')(a:H x=some (.ins C c [])):Kp H H':=
 ⟨λ b e h=>s b _ (λ z=>by rw[z,a]at h;cases h) h,λ b o e h=>s b _ (λ z=>by rw[z,a]at h;cases h) h,λ b C c f fs h=>s b _ (λ z=>by rw[z,a]at h;cases h) h⟩
theorem SX.sqL{C e:V0}{fs:List (U1×V)}(s:SX x H H')(c:H x=some (.ins C e fs))(h:az K H a xs):az K H' a xs:=by
 rcases h with(h|⟨o,h⟩)|h
 ·exact .inl (.inl (s _ _ (λ z=>by rw[z,c]at h;cases h) h))
 ·exact .inl (.inr ⟨o,s _ _ (λ z=>by rw[z,c]at h;cases h) h⟩)
 ·exact .inr h
theorem SX.sqT{C e:V0}{fs:List (U1×V)}(s:SX x H H')(c:H x=some (.ins C e fs))(h:ay K H a xs):ay K H' a xs:=by
 rcases h with(h|⟨o,h⟩)|h
 ·exact .inl (.inl (s _ _ (λ z=>by rw[z,c]at h;cases h) h))
 ·exact .inl (.inr ⟨o,s _ _ (λ z=>by rw[z,c]at h;cases h) h⟩)
 ·exact .inr h
theorem qg:∀{ts:List Tm}{t:Tm},t∈ts->t.depth<=aO ts
 |u::ts,t,h=>by
  show t.depth<=max u.depth (aO ts);rcases(de.mp h)with rfl|h
  ·exact Nat.le_max_left _ _
  ·exact bR (qg h) (Nat.le_max_right _ _)
theorem tu{n:Nat}:∀{ts:List Tm},(∀t∈ts,t.depth<=n)->aO ts<=n
 |[],_=>dj _
 |t::ts,h=>Nat.max_le.mpr ⟨h t cy,tu λ u a=>h u (cV _ a)⟩
theorem mw:∀xs ys:List Tm,aG (xs++ys)=aG xs+aG ys
 |[],_=>(Nat.zero_add _).symm
 |x::xs,ys=>by show x.size+aG (xs++ys)=x.size+aG xs+aG ys;rw[mw,Nat.add_assoc]
end TM
end
section
namespace L2
open PySem PySem.Spec PyProof.Rows
def Oo(K:X0)(l:V0)(n:Nat):It:=
 ⟨λ i H=>i<n/\∃a,az K H l a/\a.length=n,λ i H v c=>c=H/\∀a,az K H l a->a[n-1-i]?=some v,λ i ω=>i=n⟩
theorem C3(ys:List Int):∀n,n<=ys.length->preSum (λ i=>ys.getD i 0) n=(ys.take n).sum
 |0,_=>by simp[preSum]
 |n+1,h=>by
  rw[preSum,C3 ys n qR,Bc qR,List.sum_append];simp[hJ,dc (show n<ys.length by lia)]
variable{X:Cx}
theorem u5(B:X.calm=true):gN X (.builtin "sum") (λ xs H Q=>∃(p:V0)(ys:List Int),xs=[.ref p]/\az X.K H p (ys.map V.int)/\Q (.int ys.sum) H):=by
 intro j s M H xs us Q I r h;obtain⟨p,ys,rfl,C,q⟩:=h;obtain⟨u,rfl,D⟩:=r.one;cases D;obtain⟨its,m,c,N⟩:=I.list C;obtain⟨o,n,ω,ω,ω⟩:=id c.isList;have g:p≠s.heap.objs.size:=dY (Rq n);have hl:=m.length;rw[bB]at hl;refine call_sum_walkG (Sf c.isList ?_);refine⟨s.heap.objs.size,_,_,_,_,_,λ i=>ys.getD i 0,rfl,Walks.list (A:=X.A.in1) (show X.A.in1.handled=none from I.ok.hd B) _ p g its.toArray,⟨⟨_,RC _ rfl,rfl,rfl⟩,c.isList.at λ o e=>Rp _ e⟩,λ b E=>?_,λ i v G=>?_,λ O P R J=>?_⟩
 ·have lt:p<s.heap.objs.size:=Rq n;have e:b=s.heap.objs.size\/b=p:=by simpa using E
  show b<(s.heap.objs.push _).size;rw[Array.size_push];rcases e with e|e
  ·rw[e];exact iH _
  ·rw[e];exact rS lt
 ·have a:its[i]?=some v:=by simpa using G
  have w:i<ys.length:=by
   have:=(gm.mp a).1;lia
  obtain⟨S,y,K⟩:=m.get (i:=i) (x:=V.int ys[i]) (by rw[eK,dc w];rfl);rw[a]at y;cases y;obtain⟨t,rfl⟩:=(show ∃t,_=Su ys[i] t from K);exact⟨t,by simp[hJ,dc w]⟩
 ·have e:preSum (λ i=>ys.getD i 0) its.toArray.size=ys.sum:=by
   rw[du,<-hl,C3 ys _ (aQ _),j_]
  refine⟨.int ys.sum,H,I.kept λ b o e=>J b o (λ z=>?_) (Rp _ e),by rw[e];exact⟨_,rfl⟩,q⟩;have L:b=s.heap.objs.size:=by simpa using z
  exact UM (Rq e) (by rw[L];exact fH _)
section
variable{P:Program}{w:V1}{B:N1}{R:Result->Z1->Prop}{it:V0}{fp wr:List V0}{n:Nat}{Y:Nat->Y1->Prop}{St:Nat->M1->Prop}
theorem ve:(toString "max"++toString ".loop":String)="max.loop":=by decide
theorem LR(kw:List (U1×Y1))(W:Walks P w B.in1 it fp wr n Y St)(y:Nat->Nat->Bool)(hc:CmpOf P w B.in1 .Gt Y y)(Z:V0)(O:Z∉fp):∀(k j:Nat)(s:Z1)(u:Y1)(c:Nat),n-(j+1)=k->j+1<=n->St (j+1) s.heap->Y (T7 y j) u->s.heap.get? Z=some {cls:=.type "list",dict:=none,data:=.seq #[u,u] c,slots:=#[]}->(∀v h' tk,Y (T7 y (n-1)) v->(∀b o,b∉wr->b≠Z->s.heap.get? b=some o->h'.get? b=some o)->R (.ok (.ret v)) {s with heap:=h',toks:=tk})->Tq (RD P w) B (.builtin "max.loop" ⟨[.ref it,.none,.ref Z],kw⟩) R s:=by
 have D:Z∉wr:=λ z=>O (W.sub _ z);intro k;induction k with
 |zero=>
  intro j s u c Q S J I G q;have T:j+1=n:=Nat.le_antisymm S (Nat.sub_eq_zero_iff_le.mp Q);refine codeAny_builtin Uo ?_;rw[T2 Sq ⟨[.ref it,.none,.ref Z],kw⟩];show Rz (RD P w) B.in1 (seqItems? (.ref Z)>>=_) _ _ s;refine Ro (wpAny_seqItems G rfl ?_);show Rz (RD P w) B.in1 (tryCatch (UJ (.ref it)) _>>=_) _ _ s;refine Ro (Tz (W.done s _ _ (T▸J) λ h1 tk C=>?_));have g:=C Z _ D G;show Rz (RD P w) B.in1 (updateSeq Z (λ ω=>#[])>>=_) _ _ _;refine Ro (wpAny_updateSeq g rfl (Ro (Ue (Rv ?_))));exact q u _ tk (by rw[<-T];exact I) λ b o hb a e=>(RF _ _ (Ne.symm a)).trans (C b o hb e)
 |succ k U=>
  intro j s u c Q S J I G q;have lt:j+1<n:=by omega
  refine codeAny_builtin Uo ?_;rw[T2 Sq ⟨[.ref it,.none,.ref Z],kw⟩];show Rz (RD P w) B.in1 (seqItems? (.ref Z)>>=_) _ _ s;refine Ro (wpAny_seqItems G rfl ?_);show Rz (RD P w) B.in1 (tryCatch (UJ (.ref it)) _>>=_) _ _ s;refine Ro (Tz (W.item (j+1) s _ _ lt J λ v h1 tk hv st1 C=>?_));have g:=C Z _ D G;show Rz (RD P w) B.in1 (tryCatch (SU [v,v] (richCompare .Gt v u>>=_)) _>>=_) _ _ _;refine Ro (Tz (R9 (Ro (hc (j+1) (T7 y j) v u _ _ _ hv I ?_))));refine Ro (R9 (RO (Ro (Ue (Rv ?_)))));cases H:y (j+1) (T7 y j)with
  |true=>
   rw[UL rfl];refine Ro (wpAny_updateSeq g rfl (Ro (Ue ?_)));rw[ve];refine Rv ⟨Ui Sq ⟨[.ref it,.none,.ref Z],kw⟩,U (j+1) _ v _ (by omega) lt (W.frame _ _ _ st1 λ b K o e=>?_) (by rw[T7,H,UL rfl];exact hv) (RY _ g rfl) λ L M m x N=>?_⟩
   ·exact(RF _ _ (λ z:Z=b=>O (z▸K))).trans e
   ·exact q L M m x λ b o i a e=>N b o i a ((RF _ _ (Ne.symm a)).trans (C b o i e))
  |false=>
   rw[UK dO];refine Ro (Ue ?_);rw[ve];refine Rv ⟨Ui Sq ⟨[.ref it,.none,.ref Z],kw⟩,U (j+1) _ u c (by omega) lt st1 (by rw[T7,H,UK dO];exact I) g λ L M m x N=>?_⟩;exact q L M m x λ b o i a e=>N b o i a (C b o i e)
end
theorem M6(a d:Y1):argsOk "max" ⟨[a],[(Rx "default",d)]⟩:=by unfold argsOk;kernel_rfl
section
variable{P:Program}{w:V1}{A:N1}{E:Y1->Z1->Prop}{s:Z1}
def oP(ys:List Int)(m:Int):Prop:=m∈ys/\∀a∈ys,a<=m
theorem GJ{ys:List Int}(h:0<ys.length):oP ys (ys.getD (T7 (λ i j=>decide (ys.getD i 0>ys.getD j 0)) (ys.length-1)) 0):=by
 obtain⟨a,b⟩:=argBest_gt (λ i=>ys.getD i 0) (ys.length-1);refine⟨?_,λ x c=>?_⟩
 ·have lt:T7 (λ i j=>decide (ys.getD i 0>ys.getD j 0)) (ys.length-1)<ys.length:=by omega
  rw[hJ,dc lt];exact ju lt
 ·obtain⟨j,g,e⟩:=uv c;have:=b j (by omega);rw[hJ,dc g]at this;rw[<-e];exact this
theorem CC{l it:V0}{its:List Y1}{ys:List Int}(c:A.handled=none)(hl:ys.length=its.length)(e:∀(i:Nat)(v:Y1),its[i]?=some v->∃t,v=Su (ys.getD i 0) t)(a:l≠it):Walks P w A it [it,l] [it] its.toArray.size (λ i v=>its.toArray[i]?=some v) (λ i h=>h.IsListIter it l i/\h.IsList l its.toArray)/\CmpOf P w A .Gt (λ i v=>its.toArray[i]?=some v) (λ i j=>decide (ys.getD i 0>ys.getD j 0)):=
 ⟨Walks.list c it l a its.toArray,CmpOf.ints_gt (λ i=>ys.getD i 0) λ i v h=>e i v (by simpa using h)⟩
theorem LG{l:V0}{its:List Y1}{ys:List Int}{d:Y1}{Q:Y1->Z1->Prop}(U:A.handled=none)(pl:s.heap.IsList l its.toArray)(a:ys.length=its.length)(H:∀(i:Nat)(v:Y1),its[i]?=some v->∃t,v=Su (ys.getD i 0) t)(q:∀v h' tk,(ys=[]->v=d)->(ys≠[]->∃m t,v=.int m t/\oP ys m)->(∀b o,s.heap.get? b=some o->h'.get? b=some o)->Q v {s with heap:=h',toks:=tk}):Rz (RD P w) A (call (.builtin "max") [.ref l] [(Rx "default",d)]) Q E s:=by
 obtain⟨ol,Z,ω⟩:=id pl;have I:l<s.heap.objs.size:=Rq Z;refine PyProof.Rows.kmk_tree PySem.F.kind_max PySem.F.plain_max PySem.F.entry_max (M6 _ _) ?_;show Rz (RD P w) A.in1 (Builtin.Builtins.bindParams "max" ["key","default"] 0 ⟨[],[(Rx "default",d)]⟩>>=_) _ _ s;refine Ro (wpAny_of_eq (show Builtin.Builtins.bindParams "max" ["key","default"] 0 ⟨[],[(Rx "default",d)]⟩=pure [none,some d]from rfl) (Ro (Rv ?_)));refine Ro (Sf pl (Ro (Sg ?_)));rw[ve];have J:((s.heap.push {cls:=.type "list_iterator",data:=.fields #[.ref l,.int 0 0]}).push {cls:=.type "list",data:=.seq #[]}).IsListIter s.heap.objs.size l 0:=⟨_,Rp _ (RC _ rfl),rfl,rfl⟩;have K:((s.heap.push {cls:=.type "list_iterator",data:=.fields #[.ref l,.int 0 0]}).push {cls:=.type "list",data:=.seq #[]}).IsList l its.toArray:=pl.at λ o e=>Rp _ (Rp _ e);have L:((s.heap.push {cls:=.type "list_iterator",data:=.fields #[.ref l,.int 0 0]}).push {cls:=.type "list",data:=.seq #[]}).get? (s.heap.objs.size+1)=some {cls:=.type "list",dict:=none,data:=.seq #[] 0,slots:=#[]}:=by
  rw[show s.heap.objs.size+1=(s.heap.push {cls:=.type "list_iterator",data:=.fields #[.ref l,.int 0 0]}).objs.size from(SZ ..).symm];exact RC _ rfl
 have M:∀b o,s.heap.get? b=some o->((s.heap.push {cls:=.type "list_iterator",data:=.fields #[.ref l,.int 0 0]}).push {cls:=.type "list",data:=.seq #[]}).get? b=some o:=λ b o e=>Rp _ (Rp _ e);rw[show(s.heap.push {cls:=.type "list_iterator",data:=.fields #[.ref l,.int 0 0]}).objs.size=s.heap.objs.size+1 from SZ ..];generalize(s.heap.push {cls:=.type "list_iterator",data:=.fields #[.ref l,.int 0 0]}).push {cls:=.type "list",data:=.seq #[]}=h3 at*;refine Rv ⟨Ui Sq _,?_⟩;obtain⟨W,hc⟩:=CC (P:=P) (w:=w) (A:=A.in1) (it:=s.heap.objs.size) (l:=l) (its:=its) (ys:=ys) U a H (dY I);have y:s.heap.objs.size+1∉[s.heap.objs.size,l]:=λ z=>by
  rcases de.mp z with z|z
  ·omega
  ·exact UM I (by rw[<-dN.mp z];exact Nat.not_lt.mpr (oB _))
 refine codeAny_builtin Uo ?_;rw[T2 Sq _];show Rz (RD P w) A.in1 (seqItems? (.ref (s.heap.objs.size+1))>>=_) _ _ _;refine Ro (wpAny_seqItems L rfl ?_);show Rz (RD P w) A.in1 (tryCatch (UJ (.ref s.heap.objs.size)) _>>=_) _ _ _;by_cases c:ys=[]
 ·have g:its.toArray.size=0:=by rw[du,<-a,c];rfl
  have st:(λ i (h:M1)=>h.IsListIter s.heap.objs.size l i/\h.IsList l its.toArray) its.toArray.size h3:=by rw[g];exact⟨J,K⟩
  refine Ro (Tz (W.done _ _ _ st λ N tk x=>?_));refine Ro (wpAny_rule (Rv ?_));exact q d N tk (λ ω=>rfl) (λ z=>UM c z) λ b o e=>x b o (λ z=>UM (Rq e) (by rw[dN.mp z];exact fH _)) (M b o e)
 ·have O:0<ys.length:=mR.mpr c;have g:0<its.toArray.size:=by rw[du,<-a];exact O
  refine Ro (Tz (W.item 0 _ _ _ g ⟨J,K⟩ λ v N tk C D x=>?_));have S:=x _ _ (λ z=>y (de.mpr (.inl (dN.mp z)))) L;refine Ro (Rv (Ro (wpAny_updateSeq S rfl ?_)));rw[ve];refine Rv ⟨Ui Sq _,LR _ W _ hc _ y (its.toArray.size-1) 0 _ v _ rfl g (W.frame _ _ _ D λ b hb o e=>?_) C (RY _ S rfl) λ u h5 G hu k5=>?_⟩
  ·exact(RF _ _ (λ z:s.heap.objs.size+1=b=>y (z▸hb))).trans e
  ·obtain⟨t,rfl⟩:=H (T7 (λ i j=>decide (ys.getD i 0>ys.getD j 0)) (its.toArray.size-1)) _ (by rw[<-List.getElem?_toArray];exact hu);refine q _ h5 G (λ z=>UM z c) (λ ω=>⟨_,t,rfl,?_⟩) λ b o e=>?_
   ·have:=GJ O;rw[du,<-a];exact this
   ·have lt:=Rq e;have T:b∉[s.heap.objs.size]:=λ z=>UM lt (by rw[dN.mp z];exact fH _);exact k5 b o T (dY (rS lt)) ((RF _ _ (lL (rS lt))).trans (x b o T (M b o e)))
end
section
variable{X:Cx}
theorem Bx{its:List Y1}{ys:List Int}(a:aI (ys.map V.int) its):ys.length=its.length/\∀(i:Nat)(v:Y1),its[i]?=some v->∃t,v=Su (ys.getD i 0) t:=by
 have hl:=a.length;rw[bB]at hl;refine⟨hl,λ i v h=>?_⟩;have c:i<ys.length:=by rw[hl];exact(gm.mp h).1
 obtain⟨u,e,r⟩:=a.get (i:=i) (x:=V.int ys[i]) (by rw[eK,dc c];rfl);rw[h]at e;cases e;obtain⟨t,rfl⟩:=(show ∃t,_=Su ys[i] t from r);exact⟨t,by rw[hJ,dc c];rfl⟩
def uc(K:X0):List V->Hp->VK->Prop:=λ c H Q=>∃(p:V0)(a:List Int),c=[.ref p]/\az K H p (a.map V.int)/\a≠[]/\∀m,oP a m->Q (.int m) H
theorem zP(C:X.calm=true):gN X (.builtin "max") (uc X.K):=by
 intro m s N H O us Q I r h;obtain⟨p,ys,rfl,D,a,q⟩:=h;obtain⟨u,rfl,G⟩:=r.one;cases G;obtain⟨its,J,c,S⟩:=I.list D;obtain⟨hl,x⟩:=Bx J;obtain⟨o,K,ω,ω,ω⟩:=id c.isList;have lt:p<s.heap.objs.size:=Rq K;have y:0<ys.length:=mR.mpr a;refine call_max_walk (Sf c.isList ?_);obtain⟨W,g⟩:=CC (P:=X.prog) (w:=X.w) (A:=X.A.in1) (it:=s.heap.objs.size) (l:=p) (its:=its) (ys:=ys) (show X.A.in1.handled=none from I.ok.hd C) hl x (dY lt);refine⟨s.heap.objs.size,_,_,_,_,_,_,rfl,W,⟨⟨_,RC _ rfl,rfl,rfl⟩,c.isList.at λ o e=>Rp _ e⟩,λ b L=>?_,by rw[du,<-hl];exact y,g,λ v T U M k=>?_⟩
 ·show b<(s.heap.objs.push _).size;rw[Array.size_push];rcases de.mp L with e|e
  ·exact e▸iH _
  ·rw[dN.mp e];exact rS lt
 ·obtain⟨t,rfl⟩:=x (T7 (λ i j=>decide (ys.getD i 0>ys.getD j 0)) (its.toArray.size-1)) _ (by rw[<-List.getElem?_toArray];exact M);refine⟨.int _,H,I.kept λ b o e=>k b o (λ z=>?_) (Rp _ e),⟨t,rfl⟩,q _ ?_⟩
  ·exact UM (Rq e) (by rw[dN.mp z];exact fH _)
  ·rw[du,<-hl];exact GJ y
def DZ(K:X0)(t tk:TA):TE:=λ c H Q=>t c H λ vs g=>tk c g λ i e=>∃(p:V0)(a:List Int)(d:Int),vs=[.ref p]/\i=[.int d]/\az K e p (a.map V.int)/\∀m,(a=[]->m=d)->(a≠[]->oP a m)->Q (.int m) e
theorem Qz{K:X0}{t tk:TA}{a:St}{H:Hp}{Q:VK}:DZ K t tk a H Q=t a H λ vs c=>tk a c λ e H2=>∃(p:V0)(ys:List Int)(d:Int),vs=[.ref p]/\e=[.int d]/\az K H2 p (ys.map V.int)/\∀m,(ys=[]->m=d)->(ys≠[]->oP ys m)->Q (.int m) H2:=rfl
theorem P_{K:X0}{xs:List V}{H:Hp}{Q:VK}:uc K xs H Q=∃(p:V0)(ys:List Int),xs=[.ref p]/\az K H p (ys.map V.int)/\ys≠[]/\∀m,oP ys m->Q (.int m) H:=rfl
theorem Li{e o:Expr}{t tk:TA}{p pos kp:Pos}(D:X.calm=true)(G:Gl X "max")(J:X.mg "max"=none)(K:RI "max"=some (.builtin "max"))(L:PA X [e] t)(M:PK X [⟨some "default",o,kp⟩] tk)(N:RK pos (Rt [e] X.env)=(false,RJ e X.env)::RK pos (Rt [] X.env):=by rfl)(i:(RK pos (Rt [e] X.env)).any (·.1)=false:=by rfl)(O:("max":U1)≠"__name__":=by decide)(j:(("max":U1)==("__debug__":U1))=false:=by decide):PE X (.Call (.Name "max" p) [e] [⟨some "default",o,kp⟩] pos) (DZ X.K t tk):=by
 intro a s x H Q I h;refine RP (qa I G J K ?_ O j);refine PyProof.Rows.callWith_kw (aW (L pos a s x H _ I h) λ us S hz_=>?_) N i rfl rfl;obtain⟨vs,T,U,r1,Z⟩:=hz_;refine aW (M pos a S x T _ U Z) λ ws s2 y=>?_;obtain⟨zs,C,c,r2,l,ys,d,rfl,rfl,hq,q⟩:=y;obtain⟨u,rfl,ru⟩:=r1.one;cases ru;obtain⟨z,rfl,rz⟩:=r2.one;obtain⟨its,rv,pl,y⟩:=c.list hq;obtain⟨hl,hv⟩:=Bx rv;refine LG (c.ok.hd D) pl.isList hl hv λ v h' tk hd hx k=>?_;obtain⟨tz,rfl⟩:=(show ∃t,z=Su d t from rz);by_cases g:ys=[]
 ·cases hd g;exact⟨.int d,C,c.kept k,⟨_,rfl⟩,q d (λ ω=>rfl) λ z=>UM g z⟩
 ·obtain⟨m,t,rfl,im⟩:=hx g;exact⟨.int m,C,c.kept k,⟨_,rfl⟩,q m (λ z=>UM z g) λ ω=>im⟩
end
open PySem.SeqAt
def ot(K:X0):R2:=λ x y H Q=>∃a c b,x=.ref a/\y=.ref b/\az K H a c/\az K H b []/\Q (.bl (!c.isEmpty)) H
variable{y:V}{Q:VK}{H:Hp}{K:X0}
theorem Pz{x:V}:ot K x y H Q=∃a xs b,x=.ref a/\y=.ref b/\az K H a xs/\az K H b []/\Q (.bl (!xs.isEmpty)) H:=rfl
section
variable{X:Cx}
theorem Jx(i:X.A.units+64<UI):d7 X (R4 .NotEq) (ot X.K):=by
 intro m s E H x y v u Q I A B h;obtain⟨a,n,b,rfl,rfl,C,D,q⟩:=h;cases A;cases B;obtain⟨its,o,w,ω⟩:=I.list C;obtain⟨z,g,c,ω⟩:=I.list D;cases g.zero;cases n with
 |nil=>
  cases o.zero;exact RcNeAt.lists (e:=λ ω=>true) w.isList c.isList rfl (pR (Nat.le_add_right _ _) i) (λ j h=>UM h (Nat.not_lt_zero _)) X.prog X.w X.xe _ ⟨.bl false,H,I,rfl,q⟩
 |cons x n=>
  have hl:=o.length;refine RcNeAt.lists_lengths w.isList c.isList ?_ (pR (Nat.le_add_right _ _) i) X.prog X.w X.xe _ ⟨.bl true,H,I,rfl,q⟩;rw[du,<-hl];rfl
end
theorem Lz{J:It}{C:TE}{E:Hp}{D:V0}{n:Nat}{u:St}(G:Option V)(rest:St)(I:Nat->V->Prop)(W:Nat->List V->Hp->Prop)(M:u=G::rest)(hz:n<=Ru)(N:W 0 [] (ar E D (.lst [])))(A:∀i vs H,i<n->W i vs H->J.go i H/\∀x c,J.yld i H x c->c=H/\I i x)(g:∀vs H,W n vs H->J.stop n H)(O:∀i x vs H (K:VK),i<n->I i x->W i vs H->H D=some (.lst vs)->(∀v c,c D=some (.lst vs)->W (i+1) (vs++[v]) (ar c D (.lst (vs++[v])))->K v c)->C (some x::rest) H K)(P:∀vs H,W n vs H->H D=some (.lst vs)->vs.length=n->Q (.ref D) H):jd J (gU 0) ir C D Q u (ar E D (.lst [])):=by
 refine⟨λ i m w o=>m=n-i/\i<=n/\(∃v,w=v::rest)/\∃vs,o D=some (.lst vs)/\vs.length=i/\W i vs o,⟨n,by simp,dj _,⟨G,M⟩,[],bu,rfl,N⟩,?_⟩;rintro i m w o ⟨rfl,Z,⟨v,rfl⟩,vs,L,hl,z⟩;by_cases j:i<n
 ·obtain⟨go,R⟩:=A i vs o j z;refine .inr ⟨go,λ y c=>(∃v,y=v::rest)/\∃vs,c D=some (.lst vs)/\vs.length=i+1/\W (i+1) vs c,λ y c ⟨a,b⟩=>⟨n-(i+1),qR,rfl,j,a,b⟩,λ x c S=>?_⟩;obtain⟨T,U⟩:=R x c S;subst T;unfold gU ir;rw[uu];refine cp (O i x vs _ _ j U z L λ v H3 Y B=>?_);exact⟨vs,Y,qR,⟨_,rfl⟩,_,bu,by rw[bX,hl];rfl,B⟩
 ·have e:i=n:=by lia
  subst e;exact .inl ⟨g vs o z,P vs o z L hl⟩
def Ei(K:X0)(te:TE)(tst:TO):TE:=λ e H Q=>te e H λ x i=>tst e i λ o c=>o=some (-1)/\∃a g,x=.ref a/\az K c a g/\∀l,c l=none->Q (.ref l) (ar c l (.lst g.reverse))
theorem P6{g:TE}{tst:TO}{c:St}:Ei K g tst c H Q=g c H λ x i=>tst c i λ o e=>o=some (-1)/\∃a xs,x=.ref a/\az K e a xs/\∀l,e l=none->Q (.ref l) (ar e l (.lst xs.reverse)):=rfl
theorem Bz{items:Array Y1}:∀k:Nat,k<=items.size->((jM k).map λ i:Nat=>items.size-1-i).filterMap (items[·]?)=items.toList.reverse.take k
 |0,_=>by simp
 |k+1,h=>by
  have a:=Bz (items:=items) k qR;rw[List.range_succ,eZ,List.filterMap_append,a,oz,List.getElem?_reverse (by rw[oE];exact h)];congr 1;simp only[dJ,mT,Array.getElem?_toList,oE];cases c:items[items.size-1-k]?<;>simp[c]
theorem HA(items:Array Y1):slicePick items none none (some (-1))=items.toList.reverse.toArray:=by
 have e:SJ none none (some (-1)) items.size=((items.size:Int)-1,-1,-1):=by
  simp[SJ]
 have a:sliceRange ((items.size:Int)-1) (-1) (-1)=(jM items.size).map λ i:Nat=>items.size-1-i:=by
  unfold sliceRange;have c:(if(-1:Int)>0 then(if(items.size:Int)-1< -1 then(-1-((items.size:Int)-1)+-1-1)/ -1 else 0)else(if(items.size:Int)-1> -1 then((items.size:Int)-1- -1- -1-1)/ - -1 else 0)).toNat=items.size:=by
   rw[UK qQ];split
   ·rw[show- -1=(1:Int)by decide,Int.ediv_one];lia
   ·lia
  show List.map _ (jM (kO _))=_;rw[c];refine List.map_congr_left λ k g=>?_;have:=mW.mp g;lia
 unfold slicePick;rw[e];simp only;rw[a,Bz _ (aQ _),List.take_of_length_le (by simp)]
variable{pos:Pos}
theorem K8{e st:Expr}{u:TE}{tst:TO}{w:Pos}(C:PE X e u)(m:PO X (some st) tst):PE X (.Subscript e (.Slice none none (some st) w) pos) (Ei X.K u tst):=by
 intro c s j H Q I h;refine Subscript_ (aW (C c s j H _ I h) λ v D g=>?_);obtain⟨x,E,G,r1,J⟩:=g;refine wpAny_Slice ?_;rw[evalPart_none];refine Rv (Rv ?_);refine aW (m c D j E _ G J) λ vs i g=>?_;obtain⟨o,y,I3,K,L,a,z,rfl,M,q⟩:=g;subst L;cases r1;have n:Inv X c j y {i with heap:=i.heap.push {cls:=.type "slice",data:=.fields #[.none,.none,vs]}}:=I3.kept (t':=i.toks) λ b N q=>Rp _ q;obtain⟨its,A,B,g⟩:=n.list M;have hl:=A.length;show Rz (RD X.prog X.w) X.A (Uh e (.Slice none none (some st) w) (.ref a) (.ref i.heap.objs.size)) (EP X c j Q) X.xe _;refine tail_any (T:="list") (ops:=[.ref a,.ref i.heap.objs.size]) B.isList.typeIs slot_list_getitem.lookup ?_ (by with_unfolding_all rfl);refine wpAny_getItem_list_slice B.isList (Heap.IsSliceOf.new ..) .none .none K qQ ?_ (by rw[du]<;>lia);rw[HA];refine⟨.ref _,ar y _ (.lst z.reverse),n.laid (λ b o e=>Rp _ e) (aQ _) (show bh X.prog X.w _ _ _ (.lst z.reverse)from⟨by rw[List.length_reverse];exact g,its.reverse,0,A.reverse,RC _ rfl⟩),rfl,q _ (n.hok.fresh (aQ _))⟩
open AutoSeq1 (wpAny_loadPart')
section
variable{X:Cx}
def oR(K:X0):R2:=λ x y H Q=>∃a b c e,x=.ref a/\y=.ref b/\ay K H a c/\ay K H b e/\c.length+e.length<=Ru/\∀p g,ao H g->ay K g p (c++e)->Q (.ref p) g
theorem MG{prog:Program}{w:V1}{A:N1}{E:Y1->Z1->Prop}{s:Z1}{t b:V0}{ws:List Y1}{Q:Y1->Z1->Prop}(x:IsTup s.heap t #[])(y:IsTup s.heap b ws.toArray)(h:Q (.ref b) s):Rz (RD prog w) A (Sx .Add (.ref t) (.ref b)) Q E s:=by
 obtain ⟨⟨z,B,m,C⟩,o,u,n,hd⟩:=id x;obtain ⟨⟨v,g,i,j⟩,a,c,D,e⟩:=id y;simp only at u hd c e;subst u hd c e;exact concat_meets ⟨_,o,rfl⟩ ⟨_,a,rfl⟩ Um seq_tuple_add yu yt (yr _ _)
  (tuple_addW0 t b #[] ws.toArray n D B g C j (by simp)) ⟨o,a,h⟩
theorem qf:d7 X (Sx .Add) (oR X.K):=by
 intro g s J H x y v u Q I n z h;obtain⟨a,b,B,K,rfl,rfl,i,j,L,q⟩:=h;by_cases C:B=[]
 ·subst C;obtain rfl:v=RA a:=n;obtain rfl:u=RA b:=z;obtain⟨its,r,M,ω⟩:=I.tuple i;obtain⟨D,O,m,ω⟩:=I.tuple j;cases r;exact MG M m ⟨.ref b,H,I,rfl,q b H (ao.refl H) (by simpa using j)⟩
 ·refine Lf g s J H _ _ v u Q I n z ⟨a,b,B,K,rfl,rfl,i,j,C,L,λ e=>?_,λ e p N=>?_⟩
  ·subst e;exact q a H (ao.refl H) (by simpa using i)
  ·exact q p _ (λ c o G=>by rw[aU (bY G N)];exact G) (ay.of bu)
end
open HT
section
variable{prog:Program}{w:V1}{A:N1}{E:Y1->Z1->Prop}{s:Z1}
theorem HF{t e:V0}{items:Array Y1}{m n:Y1}{lo hi:Option Int}{Q:Y1->Z1->Prop}(a:IsTup s.heap t items)(o:s.heap.IsSliceOf e m n .none)(pl:Uu m lo)(v:Uu n hi)(u:bV items.size 0 lo=0/\bV items.size items.size hi=items.size)(h:Q (.ref t) s):Rz (RD prog w) A (Ud (.ref t) (.ref e)) Q E s:=by
 obtain⟨x,g,i,y⟩:=id o;have j:s.TypeIs (.ref e) "slice":=⟨x,g,i⟩;unfold Ud;try with_reducible refine R9 ?_
 first|refine Ro (Rv ?_)|skip
 refine Ro (wpAny_sequenceKey a.typeIs qQ ?_);refine Ro (wpAny_callSpecial?_slot (name:=Rx "__getitem__") a.typeIs R5 (wpAny_call_entry R5 a.typeIs entry_tuple_getitem ?_ (args_tuple_getitem _ _)));show Rz _ _ (Builtin.Tuple.tupleItemsOf (.ref t)>>=_) _ _ s;refine Ro (tupleItemsOf_ a ?_);refine Ro (wpAny_typeOf j ?_);rw[UL qQ];refine Ro (Dy o pl v ?_);have c:(((bV items.size 0 lo:Nat):Int)==0&&(1:Int)==1&&(bV items.size items.size hi-bV items.size 0 lo)==items.size)=true:=by
  rw[u.1,u.2];simp
 show Rz _ _ (if (((bV items.size 0 lo:Nat):Int) == 0&&(1:Int) == 1&&(bV items.size items.size hi - bV items.size 0 lo) == items.size)=true then _ else _) _ _ s;rw [UL c];refine Ro ?_;show Rz _ _ ((typeOf (.ref t)) >>= _) _ _ s;refine Ro (wpAny_typeOf a.typeIs (Rv ?_));rw [UL qQ];first
  |exact Ro (wpAny_rule (Rv ⟨_,rfl,Rv h⟩))
  |exact Ro (Rv (Rv ⟨_,rfl,Rv h⟩))
  |exact Rv ⟨_,rfl,Rv h⟩
end
section
variable{X:Cx}
def j7(K:X0):V->Option Int->Option Int->Hp->VK->Prop:=λ x g i H Q=>∃a e,x=.ref a/\ay K H a e/\∀p c,ao H c->ay K c p (cY e g i)->Q (.ref p) c
theorem uX:tR X (j7 X.K):=by
 intro g s J H x v K L m n M Q I y z B C h;obtain⟨a,xs,rfl,u,q⟩:=h;by_cases j:HT.bV xs.length 0 m=0/\HT.bV xs.length xs.length n=xs.length
 ·obtain rfl:v=RA a:=y;obtain⟨its,r,D,O⟩:=I.tuple u;have i:its.toArray.size=xs.length:=by rw[du];exact r.length.symm
  refine⟨"tuple",_,PyProof.Rows.slot_tuple_getitem.lookup,D.typeIs,?_⟩;refine HF D z B C (by rw[i];exact j) ⟨.ref a,H,I,rfl,q a H (ao.refl H) ?_⟩;have e:cY xs m n=xs:=by
   unfold cY;rw[j.1,j.2,List.drop_zero,Nat.sub_zero,j_]
  rw[e];exact u
 ·exact IL g s J H _ v K L m n M Q I y z B C ⟨a,xs,rfl,u,j,λ p N=>q p _ (λ c o G=>by rw[aU (bY G N)];exact G) (ay.of bu)⟩
end
def Es(K:X0):List V->Hp->VK->Prop:=λ c H Q=>∃p a,c=[V.ref p]/\((az K H p a/\∀(l:V0),H l=none->Q (V.ref l) (ar H l (HO.tup a)))\/(ay K H p a/\Q (V.ref p) H))
theorem Ri{xs:List V}:Es K xs H Q=(∃p ys,xs=[V.ref p]/\((az K H p ys/\∀(l:V0),H l=none->Q (V.ref l) (ar H l (HO.tup ys)))\/(ay K H p ys/\Q (V.ref p) H))):=rfl
section
variable{X:Cx}
def yg:V->Option Int->Option Int->Hp->VK->Prop:=λ x a c H Q=>∃z,x=.str z/\z.length<=Ru/\Q (.str (UG z a c)) H
theorem IP:tR X yg:=by
 intro a s w H x v D E y A G Q I B c C n h;obtain⟨z,rfl,e,q⟩:=h;obtain⟨t,rfl⟩:=B;have fin:∀g k,EP X a w Q (.str (UG z y A) g) {s with toks:=k}:=λ g k=>⟨.str _,H,I.tok k,⟨g,rfl⟩,q⟩;refine⟨"str",_,F.slot_str_getitem.lookup,typeIs_str _ _ _,?_⟩;cases C with
 |none=>
  cases n with
  |none=>exact SH (l:=none) (u:=none) (st:=none) c rfl (T5 ⟨bR (Uz z _ _) e,fin⟩)
  |int j m=>exact SH (l:=none) (u:=some (j,m)) (st:=none) c rfl (T5 ⟨bR (Uz z _ _) e,fin⟩)
 |int i o=>
  cases n with
  |none=>exact SH (l:=some (i,o)) (u:=none) (st:=none) c rfl (T5 ⟨bR (Uz z _ _) e,fin⟩)
  |int j m=>exact SH (l:=some (i,o)) (u:=some (j,m)) (st:=none) c rfl (T5 ⟨bR (Uz z _ _) e,fin⟩)
theorem Df:∀{ys:List U1}{us:List Y1},aI (ys.map V.str) us->StrsAre us ys
 |[],_,.nil=>.nil
 |y::r,_,.cons h t=>by
  obtain⟨a,rfl⟩:=h;exact .cons y a (Df t)
def Ic(K:X0):V->List V->Hp->VK->Prop:=λ x vs H Q=>∃z p a,x=.str z/\vs=[.ref p]/\az K H p (a.map V.str)/\(a.map (·.length)).sum+a.length*z.length<=16777216/\Q (.str (RS z a)) H
theorem tj:xc X "str.join" (Ic X.K):=by
 intro a s n H x vs v us Q I c e h;obtain⟨z,p,o,rfl,rfl,g,hl,q⟩:=h;obtain⟨t,rfl⟩:=c;obtain⟨u,rfl,i⟩:=e.one;cases i;obtain⟨its,r,j,ω⟩:=I.list g;exact join_list j.isList (by simpa using Df r) hl λ m k=>⟨.str _,H,I.tok k,⟨m,rfl⟩,q⟩
theorem IG{h:M1}{a:V0}{m m':U1->Option Y1}(x:h.Ns a m)(y:h.Ns a m'):m=m':=by
 obtain⟨o,w,z,i,hd,ω,j⟩:=x;obtain⟨A,u,v,c,e,ω,g⟩:=y;rw[i]at c;cases c;rw[hd]at e;cases e;funext n;rw[<-j n,<-g n]
theorem Inv.laidL{e:List (V0×Obj)}{s:Z1}{x:St}{h':M1}{t':Nat}{o:HO}{m:U1->Option Y1}(I:Inv X e x H s)(A:s.heap.Ns X.env.locals m)(g:h'.Ns X.env.locals m)(k:∀b u,b≠X.env.locals->s.heap.get? b=some u->h'.get? b=some u)(new:bh X.prog X.w (ar H s.heap.objs.size o) h' s.heap.objs.size o):Inv X e x (ar H s.heap.objs.size o) {s with heap:=h',toks:=t'}:=by
 have fresh:H s.heap.objs.size=none:=I.hok.fresh (aQ _);have i:∀ b u,s.heap.get? b=some u->b≠s.heap.objs.size:=λ b u q=>dY (Rq q);have j:∀ b u,H b=some u->b≠X.env.locals:=λ b u q=>bY q I.free;refine I.step (g':=s.gens) (d':=s.drawn) (ch:=[]) (λ ω z=>nomatch z) (λ b u a ω ω q ω=>k b u a q) (λ b u a ω ω q ω=>⟨u.slots,k b u a q⟩) (λ b u ω q n=>by rw [aU (i b u q)]; exact n)
  (λ b u ω q=>?_) (λ b y q=>by rw[aU (bY q fresh)];exact q) (λ b u y q=>by rw[aU (bY q fresh)];exact q) (λ b ps q=>⟨#[],by rw[aU (bY q fresh),q];simp⟩)
  (λ E w=>by rw[IG w A];exact g) (λ b u q=>?_) I.bare
 ·by_cases a:b=X.env.locals
  ·subst a;obtain⟨B,ω,ω,C,ω⟩:=g;exact⟨B,C⟩
  ·exact⟨u,k b u a q⟩
 ·by_cases a:b=s.heap.objs.size
  ·subst a;rw[bu]at q;cases q;exact new
  ·rw[aU a]at q;refine(I.hok b u q).stay (λ c v D r=>?_) (λ c r=>by rw[aU (bY r fresh)];exact r) λ c y r=>by rw[aU (bY r fresh)];exact r
   rcases D with z|z
   ·exact k c v (by rw[z];exact j b u q) r
   ·exact k c v (j c _ z) r
theorem B4:∀(l:List (U1×Tok)),aI ((l.map (·.1)).map V.str) (strValues l)
 |[]=>.nil
 |p::r=>.cons ⟨p.2,rfl⟩ (B4 r)
def JV:V->List V->Hp->VK->Prop:=λ x vs H Q=>∃z y,x=.str z/\vs=[.str y]/\(y.length==0)=false/\z.length+2<=Ru/\(Txt.split z y).length<=Ru/\∀p,H p=none->Q (.ref p) (ar H p (.lst ((Txt.split z y).map V.str)))
theorem L7:xc X "str.split" JV:=by
 intro g s L H x vs v us Q I n w h;obtain⟨z,y,rfl,rfl,A,B,hl,q⟩:=h;obtain⟨t,rfl⟩:=n;obtain⟨u,rfl,C⟩:=w.one;obtain⟨M,rfl⟩:=C;obtain⟨m,F⟩:=I.fr;refine splitN1 (news:=s_ X.base s.heap X.env.locals) F LM A (λ l D k e i j=>?_) B;have E:=(j (s.heap.objs.size,_) cy).1;obtain⟨N,G,ω⟩:=I.loc;have J:∀b u,b≠X.env.locals->s.heap.get? b=some u->D.get? b=some u:=λ b u K q=>by
  cases a:X.base.get? b with
  |some o=>
   have:=I.bk b o a;rw[q]at this;cases this;exact i.keep b _ a
  |none=>exact(j (b,u) (cV _ (Ho K a q))).1
 have c:((l.map (·.1)).map V.str).length<=Ru:=by rw[e,bB];exact hl
 refine⟨.ref s.heap.objs.size,_,I.laidL (t':=k) (o:=.lst ((l.map (·.1)).map V.str)) F.ns i.ns J ⟨c,strValues l,0,B4 l,E⟩,rfl,?_⟩;rw[e];exact q _ (I.hok.fresh (aQ _))
def HL:R2:=λ x y H Q=>∃z k,x=.str z/\y=.int k/\-(2^63)<=k/\k<2^63/\z.length*k.toNat<=Ru/\Q (.str (Txt.mul z k)) H
theorem N_:d7 X (Sx .Mult) HL:=by
 intro e s A H x y v u Q I i j h;obtain⟨z,k,rfl,rfl,B,C,m,q⟩:=h;obtain⟨t,rfl⟩:=i;obtain⟨g,rfl⟩:=j;refine SB.mul ⟨?_,λ D ω=>?_,λ ω ω=>?_⟩ λ g n=>⟨.str _,H,I.tok n,⟨g,rfl⟩,q⟩
 ·rw[UN qR,UN qR];rfl
 ·intro o;have w:1<=k:=by lia
  have E:(z.length:Int)*k<=(Ru:Nat):=by
   have:((z.length*k.toNat:Nat):Int)<=(Ru:Nat):=by exact_mod_cast m
   rw[Int.natCast_mul,Int.toNat_of_nonneg qR]at this;exact this
  have G:((2^63-1)/k+1)*k<=(z.length:Int)*k:=Int.mul_le_mul_of_nonneg_right qR qR;have J:(2^63-1:Int)<((2^63-1)/k+1)*k:=by
   have:=Int.lt_mul_of_ediv_lt (a:=2^63-1) (b:=(2^63-1)/k+1) (c:=k) qR qR;exact this
  have K:((Ru:Nat):Int)<2^63-1:=by decide
  lia
 ·unfold Builtin.Str.tooLong;exact UN qR
end
section
variable{X:Cx}{N:List U1}{nl:List (Option Nat)}{scope:SR}{cl:List (U1×V0)}{elt tg iter:Expr}{pos pos' spos:Pos}{wi:TI}{g:TG}{tc:TT}{te:TE}{i:Nat}{x:U1}
theorem Nu{j:List (V0×Obj)}{B:St}{Dd:bU}(O:X.N.Nodup)(hi:X.N[i]?=some x)(L:X.env.scope.names.lookup x=some .local)(D C:V0)(s' s2:Z1)(M:List V0)(E:St)(H' G:Hp)(n:Inv X j B G s2)(P:∀b∈M,eI X j G b)(H:s2.heap.objs.size<=C)(J:Inv (X.block N scope cl C M s2 G) [] E H' s')(q:Dd.nx (B.set i (some (.ref D))) H'):compPost (RD X.prog X.w) X.A X.xe (some (Ug (.Name x pos') X.env)) (λ ω Q=>SP X j Dd .next Q) (.ref D) C (.ok .next) s':=by
 have I3:Inv X j B H' s':=Cy (h2:=s'.heap) n P H J λ b o ω e=>e;have A:∀b o,s2.heap.get? b=some o->b≠C:=λ b o e=>dY (dv (Rq e) H);have u:C≠X.env.locals:=λ z=>by
  obtain⟨m,⟨o,ω,ω,w,ω⟩,ω⟩:=n.loc;exact A _ o w z.symm
 obtain⟨m,R,ω⟩:=J.loc;show Rz _ _ (Ug (.Name x pos') X.env (.ref D)) _ _ _;have e:Ug (.Name x pos') X.env (.ref D)=(do Sr pos';bindName X.env x (.ref D)):=by rfl
 rw[e];refine Ro (Sm (wpAny_bindName ?_));refine CB (v:=.ref D) I3 O hi (.inl L) rfl (λ S T hz_=>?_) (.inr L);obtain⟨a,U,Y⟩:=hz_;have I:C≠a:=by
  rcases Y with z|z
  ·rw[z];exact u
  ·obtain⟨v,o,w,ω⟩:=n.cell x a z;exact λ Z=>A a o w Z.symm
 refine⟨m,R.sameBut U I,λ h' K=>⟨_,H',?_,q⟩⟩;refine T.turned (t':=S.toks) (it:=C) (λ b o hb e=>K.extBut b o hb e) J.free u (.inr (bR n.sz H)) (λ y c e z=>?_) λ p hp z=>?_
 ·obtain⟨v,o,w,ω⟩:=n.cell y c e;exact A c o w z
 ·exact A p.1 _ (n.pin p hp).1 z
def D2(i:Nat)(t:TE):TS:=λ D a H=>t a H λ v c=>D.nx (a.set i (some v)) c
theorem vQ(a:X.calm=true)(w:X.N.Nodup)(hi:X.N[i]?=some x)(y:X.env.scope.names.lookup x=some .local)(B:aD X N nl scope cl)(j:PI X tg iter wi)(A:∀C c s H,PG (X.block N scope cl C c s H) tg g)(E:∀C c s H,PE (X.block N scope cl C c s H) elt te)(G:∀x,SW iter X.env x=pure x:=by intro _;rfl)(m:Ul (.ListComp elt [⟨tg,iter,[],0⟩] scope pos) (some (.Name x pos')) spos.line X.env=pure true:=by rfl):PS X (.Assign [.Name x pos'] (.ListComp elt [⟨tg,iter,[],0⟩] scope pos) spos) (D2 i (t8 wi nl g ir te)):=by
 intro e s K H D I h;rw[exec_Assign_Name_used _ _ _ _ m];refine Ro (Sm (Ro ?_));show Rz _ _ (evalThenUse (.ListComp elt [⟨tg,iter,[],0⟩] scope pos) X.env _) _ _ _;unfold evalThenUse;refine Ro ?_;exact aW (zO (Q:=λ v n=>D.nx (K.set i (some v)) n) (tst:=λ ω=>pure true) (Q':=λ ω u=>SP X e D .next u) a B j A (λ ω ω ω ω=>Fk) E Bp G I h (λ L C M O c o n P R S T J q=>Nu w hi y L C M O c o n P R S T J q) _) λ ω u z=>Rv (Rv z)
end
theorem Ql{c:TI}{nl:List (Option Nat)}{g:TG}{e:TT}{i:TE}{a:St}:t8 c nl g e i a H Q=(c a H λ J j=>∀D,j D=none->jd J g e i D Q (fS nl a) (ar j D (.lst []))):=rfl
theorem Qa{i:Nat}{t:TE}{D:bU}{a:St}:D2 i t D a H=(t a H λ v H'=>D.nx (a.set i (some v)) H'):=rfl
theorem Pq{x:V}:lG K x y H Q=(∃d e,dZ K H x d/\dZ K H y e/\shaped d=true/\shaped e=true/\Q (.bl (TN d e)) H):=rfl
theorem PF{x:V}:ou K x y H Q=(∃d e,dZ K H x d/\dZ K H y e/\shaped d=true/\shaped e=true/\Q (.bl (!TN d e)) H):=rfl
theorem Qy{c:TA}{e:St}{R:It->Hp->Prop}:DE K c e H R=(c e H λ vs g=>∃a,vs=[.ref a]/\(∃xs,az K g a xs)/\R (xR K a) g):=rfl
theorem Q8{xs:List V}:xE K xs H Q=(∃a d,xs=[.ref a]/\dZ K H (.ref a) d/\d.showable=true/\d.hasDict=false/\d.depth<=60/\d.shown.length<=Ru/\Q (.str d.shown) H):=rfl
section
variable{κ:Type}[DecidableEq κ]
def cD(kvs:List (κ×V))(k:κ):Option V:=(kvs.find? λ c=>decide (c.1=k)).map (·.2)
def gH(kvs:List (κ×V))(k:κ)(v:V):List (κ×V):=
 if(kvs.any λ c=>decide (c.1=k))=true then kvs.map (λ c=>if c.1=k then(c.1,v)else c)else kvs++[(k,v)]
theorem GE{p:κ×V}{r:List (κ×V)}{k:κ}(e:p.1=k):cD (p::r) k=some p.2:=by simp[cD,pP,e]
theorem kC{p:κ×V}{r:List (κ×V)}{k:κ}(e:¬p.1=k):cD (p::r) k=cD r k:=by simp[cD,pP,e]
theorem Hn(kvs:List (κ×V))(k:κ)(v:V):(gH kvs k v).length<=kvs.length+1:=by
 unfold gH;split
 ·rw[bB];lia
 ·rw[bX,cj,iG];lia
theorem dC.isSome_eq{o:Option V}{u:Option Y1}(r:dC o u):o.isSome=u.isSome:=by
 cases o with
 |none=>cases u with
  |none=>rfl
  |some _=>exact(show False from r).elim
 |some _=>cases u with
  |none=>exact(show False from r).elim
  |some _=>rfl
theorem dC.getD{o:Option V}{u:Option Y1}{d:V}{d':Y1}(r:dC o u)(rd:RelV d d'):RelV (o.getD d) (u.getD d'):=by
 cases o with
 |none=>cases u with
  |none=>exact rd
  |some _=>exact(show False from r).elim
 |some _=>cases u with
  |none=>exact(show False from r).elim
  |some _=>exact r
theorem KV.val{kvs:List (κ×V)}{vs:List (κ×Y1)}(r:KV kvs vs)(k:κ):dC (cD kvs k) (UH vs k):=by
 unfold KV at r;induction r with
 |nil=>exact True.intro
 |@cons p q ps c h t m=>
  obtain⟨j,n⟩:=h;by_cases e:p.1=k
  ·have g:q.1=k:=j.symm.trans e;have b:UH (q::c) k=some q.2:=by simp[UH,pP,g]
   rw[GE e,b];exact n
  ·have g:¬q.1=k:=λ z=>e (j.trans z);have b:UH (q::c) k=UH c k:=by simp[UH,pP,g]
   rw[kC e,b];exact m
theorem KV.any{kvs:List (κ×V)}{vs:List (κ×Y1)}(r:KV kvs vs)(k:κ):(kvs.any λ c=>decide (c.1=k))=vs.any λ c=>decide (c.1=k):=by
 unfold KV at r;induction r with
 |nil=>rfl
 |cons h t g=>rw[rV,rV,g,h.1]
theorem KV.repl{kvs:List (κ×V)}{vs:List (κ×Y1)}(r:KV kvs vs)(k:κ){u:Y1}(j:RelV y u):KV (kvs.map λ c=>if c.1=k then(c.1,y)else c) (vs.map λ c=>if c.1=k then(c.1,u)else c):=by
 unfold KV at r ⊢;induction r with
 |nil=>exact .nil
 |@cons p q ps x h t m=>
  rw[dJ,dJ];refine .cons ?_ m;obtain⟨g,n⟩:=h;by_cases e:p.1=k
  ·rw[UL e,UL (g.symm.trans e)];exact⟨g,j⟩
  ·rw[UK e,UK (λ z=>e (g.trans z))];exact⟨g,n⟩
theorem KV.put{kvs:List (κ×V)}{vs:List (κ×Y1)}(r:KV kvs vs)(k:κ){u:Y1}(c:RelV y u):KV (gH kvs k y) (stored vs k u):=by
 unfold gH stored;rw[r.any k];by_cases e:(vs.any λ g=>decide (g.1=k))=true
 ·rw[UL e,UL e];exact r.repl k c
 ·rw[UK e,UK e];exact Paired.snoc r ⟨rfl,c⟩
end
variable{P:Program}
theorem qu{w:V1}{k:bZ}{u:Y1}(r:RelV (kV k) u):(fZ P w).is k u=true:=by
 cases k with
 |inl i=>obtain⟨t,e⟩:=(show ∃t,u=Su i t from r);subst e;exact Hl P w i t
 |inr x=>obtain⟨t,e⟩:=(show ∃t,u=Uk x t from r);subst e;exact Hv P w x t
theorem BQ{w:V1}:∀{ks:List bZ}{us:List Y1},aI (ks.map kV) us->ItemsAre (fZ P w) ks us
 |[],_,r=>by rw[mT]at r;cases r;exact .nil
 |k::ks,_,r=>by
  rw[dJ]at r;cases r with
  |cons h t=>exact .cons (qu h) (BQ t)
abbrev KT(H:Hp):List (List bZ×V)->List (List bZ×V0×Y1)->Prop:=R1 λ p q=>p.1=q.1/\H q.2.1=some (.tup (p.1.map kV))/\RelV p.2 q.2.2
variable{kvs:List (List bZ×V)}
theorem KT.val{xs:List (List bZ×V0×Y1)}(r:KT H kvs xs)(k:List bZ):dC (cD kvs k) ((atKey xs k).map (·.2)):=by
 induction r with
 |nil=>exact True.intro
 |@cons p q ps c h t m=>
  obtain⟨j,ω,n⟩:=h;by_cases e:p.1=k
  ·have g:q.1=k:=j.symm.trans e;have b:atKey (q::c) k=some q.2:=by simp[atKey,pP,g]
   rw[GE e,b];exact n
  ·have g:¬q.1=k:=λ z=>e (j.trans z);have b:atKey (q::c) k=atKey c k:=by simp[atKey,pP,g]
   rw[kC e,b];exact m
section
variable{P:Program}{w:V1}{H:Hp}{h:M1}{a:V0}
theorem DG{u:HO}(ok:dI P w H h)(e:Rd H a u):bh P w H h a u:=e.ok ok
theorem AC{kvs:List (bZ×V)}(ok:dI P w H h)(e:Rd H a (.dK kvs)):kvs.length<=Ru/\(a==SC)=false/\∃vs,KV kvs vs/\h.DictOf (fZ P w) a vs:=
 show bh P w H h a (.dK kvs)from DG ok e
theorem HG{kvs:List (bZ×V)}(ok:dI P w H h)(e:H a=some (.dK kvs)):kvs.length<=Ru/\(a==SC)=false/\∃vs,KV kvs vs/\h.DictOf (fZ P w) a vs:=AC ok (.inl e)
theorem EI{ks:List bZ}(ok:dI P w H h)(e:H a=some (.tup (ks.map kV))):(UE (fZ P w)).is h ks a:=by
 obtain⟨ω,its,r,o,c,g,n,j⟩:=(show bh P w H h a (.tup (ks.map kV))from ok a _ e);exact⟨o,its.toArray,n,c,g,j,by simpa using BQ r⟩
theorem Ej(ok:dI P w H h)(e:Rd H a (.dT kvs)):kvs.length<=Ru/\(a==SC)=false/\∃xs,KT H kvs xs/\h.DictOfH (UE (fZ P w)) a xs:=by
 obtain⟨z,y,xs,r,o,j,n,B,C,D,G,I⟩:=(show bh P w H h a (.dT kvs)from DG ok e);refine⟨z,y,xs,r,o,j,n,B,C,D,G,λ x c=>?_,I⟩;have all:∀{l:List (List bZ×V)}{m:List (List bZ×V0×Y1)},KT H l m->∀x∈m,(UE (fZ P w)).is h x.1 x.2.1:=by
  intro l m q;induction q with
  |nil=>intro x c;exact nomatch c
  |@cons p q ps K g t J=>
   intro x c;rcases de.mp c with e|c
   ·subst e;exact EI ok (by rw[<-g.1];exact g.2.1)
   ·exact J x c
 exact all r x c
end
def iV(H:Hp)(a:V0)(y:V)(r:Option V):Prop:=
 (∃kvs k,Rd H a (.dK kvs)/\y=kV k/\r=cD kvs k)\/∃kvs k b,Rd H a (.dT kvs)/\y=.ref b/\H b=some (.tup (k.map kV))/\r=cD kvs k
theorem iV.k{a:V0}{kvs:List (bZ×V)}{k:bZ}(e:H a=some (.dK kvs)):iV H a (kV k) (cD kvs k):=.inl ⟨kvs,k,.inl e,rfl,rfl⟩
section
variable{X:Cx}{af:List (V0×Obj)}{σ:St}{H:Hp}{s:Z1}{a:V0}{y v:V}{u r:Y1}{o:Option V}{A:N1}{E:Y1->Z1->Prop}
theorem Inv.big(I:Inv X af σ H s):SC<s.heap.objs.size:=by
 have h:RE<s.heap.objs.size:=(I.mod.glob.keeps I.bk).lt;exact Nat.lt_trans qQ h
theorem J_{h':M1}{t':Nat}{c:HO}(I:Inv X af σ H s)(g:t6 (H a))(j:Us a s.heap h')(m:∃q,h'.get? a=some q)(new:bh X.prog X.w (ar H a c) h' a c):Inv X af σ (ar H a c) {s with heap:=h',toks:=t'}:=
 I.write (x:=a) (e:=a) g (.inl rfl) (λ b q n z=>(j.2 b n).trans z) m new
theorem JL{w:V1}{H':Hp}{h':M1}{kvs:List (bZ×V)}{vs:List (bZ×Y1)}(z:kvs.length<=Ru)(hd:(a==SC)=false)(c:KV kvs vs)(dd:h'.DictOf (fZ P w) a vs):bh P w H' h' a (.dK kvs):=⟨z,hd,vs,c,dd⟩
end
def tZ(i:Expr):Prop:=∀c g,subscripted i false c g=operate [c,g] (Ud c g)
theorem Lw{prog:Program}{w:V1}{A:N1}{E:Y1->Z1->Prop}{s:Z1}{env:Env}{value c:Expr}{T id:String}{Q:Y1->Z1->Prop}(hl:typeLookup (.type T) "__getitem__"=pure (some (.builtin id)))(C:tZ c)(h:Rz (RD prog w) A (RJ value env) (λ o j=>Rz (RD prog w) A (RJ c env) (λ i s₂=>s₂.TypeIs o T/\Rz (RD prog w) A (Ud o i) Q E s₂) E j) E s):Rz (RD prog w) A (RJ (.Subscript value c pos) env) Q E s:=by
 refine Subscript_ (R7 h (λ o j n=>R7 n (λ i s₂ g=>?_) λ ω ω x=>x) λ ω ω x=>x);obtain⟨B,g⟩:=g;unfold Uh;refine Ro ?_;rw[getitemInPython_of_ne B.not_modules];refine Ro (wpAny_specialOf B hl ?_);have fin:Rz (RD prog w) A (subscripted c false o i) (λ r m=>Rz (RD prog w) A (letTemporaryGo value o r>>=λ ω=>pure r) Q E m) E s₂:=by
  rw[C o i];exact wpAny_operating (R7 g (λ r m z=>Ro (wpAny_letTemporaryGo (Rv z))) λ ω ω x=>x)
 first
  |exact Rv (Ro fin)
  |exact Ro (Rv (Ro fin))
  |exact Ro fin
theorem MS{w:V1}(h:M1)(c:SC<h.objs.size):bh P w H (h.push {cls:=.type "dict",data:=.dict #[]}) h.objs.size (.dK []):=
 ⟨dj _,beq_eq_false_iff_ne.mpr (Ne.symm (dY c)),[],.nil,Heap.DictOf.new h⟩
def oT:List (TE×TE)->St->Hp->(List (V×V)->Hp->Prop)->Prop
 |[],_,H,Q=>Q [] H
 |(c,tv)::r,σ,H,Q=>c σ H λ x g=>tv σ g λ y j=>oT r σ j λ ps m=>Q ((x,y)::ps) m
abbrev VV:List (V×V)->List (Y1×Y1)->Prop:=R1 λ p q=>RelV p.1 q.1/\RelV p.2 q.2
def wO(X:Cx)(pos:Pos)(keys:List (Option Expr))(values:List Expr)(trs:List (TE×TE)):Prop:=
 ∀(af:List (V0×Obj))(s:Z1)(σ:St)(H:Hp)(Q:List (V×V)->Hp->Prop),Inv X af σ H s->oT trs σ H Q->
  Rz (RD X.prog X.w) X.A (evalPairs (pairTrees keys values X.env pos)) (λ vs g=>∃ps c,Inv X af σ c g/\VV ps vs/\Q ps c) X.xe s
theorem Fq:wO X pos [] [] []:=λ af s σ H Q I h=>pairTrees_nil_walk ⟨[],H,I,.nil,h⟩
theorem mf{k v:Expr}{ks:List (Option Expr)}{vs:List Expr}{tk tv:TE}{c:List (TE×TE)}(j:PE X k tk)(m:PE X v tv)(hr:wO X pos ks vs c):wO X pos (some k::ks) (v::vs) ((tk,tv)::c):=λ af s σ H Q I h=>
 pairTrees_cons_walk (aW (j af s σ H _ I h) λ u n ⟨x,z,B,C,D⟩=>aW (m af n σ z _ B D) λ R G ⟨y,J,K,L,M⟩=>aW (hr af G σ J _ K M) λ S T ⟨ps,N,I3,g,O⟩=>⟨(x,y)::ps,N,I3,.cons ⟨C,L⟩ g,O⟩)
def nA(kvs more:List (bZ×V)):List (bZ×V):=more.foldl (λ c g=>gH c g.1 g.2) kvs
theorem KV.merge:∀{more:List (bZ×V)}{c:List (bZ×Y1)}{kvs:List (bZ×V)}{vs:List (bZ×Y1)},KV more c->KV kvs vs->KV (nA kvs more) (merged vs c):=by
 intro more c kvs vs r;unfold KV at r;induction r generalizing kvs vs with
 |nil=>intro q;exact q
 |@cons p q ps m h t g=>
  intro j;have e:KV (gH kvs p.1 p.2) (stored vs q.1 q.2):=by
   have:=j.put p.1 h.2;rw[<-h.1];exact this
  exact g e
theorem Dz:∀(more kvs:List (bZ×V)),(nA kvs more).length<=kvs.length+more.length
 |[],kvs=>by show kvs.length<=kvs.length+0;lia
 |p::r,kvs=>by
  have c:=Dz r (gH kvs p.1 p.2);have g:=Hn kvs p.1 p.2;show(nA (gH kvs p.1 p.2) r).length<=_;rw[cj];lia
theorem C8{P:Program}{w:V1}:∀{kvs:List (bZ×V)}{ws:List (Y1×Y1)},VV (kvs.map λ j=>(kV j.1,j.2)) ws->∃g,Carries (fZ P w) ws g/\KV kvs g
 |[],_,r=>by rw[mT]at r;cases r;exact⟨[],True.intro,.nil⟩
 |p::kvs,_,r=>by
  rw[dJ]at r;cases r with
  |@cons a b n bs h t=>
   obtain⟨g,c,q⟩:=C8 (P:=P) (w:=w) t;obtain⟨b1,m⟩:=b;exact⟨(p.1,m)::g,⟨qu h.1,rfl,c⟩,.cons ⟨rfl,h.2⟩ q⟩
def DD(trs:List (TE×TE)):TE:=λ σ H Q=>∀p,H p=none->oT trs σ (ar H p (.dK [])) λ ps c=>c p=some (.dK [])/\∃kvs:List (bZ×V),ps=kvs.map (λ g=>(kV g.1,g.2))/\kvs.length<=15/\Q (.ref p) (ar c p (.dK (nA [] kvs)))
theorem FE{keys:List (Option Expr)}{g:List Expr}{j:List (TE×TE)}(h:wO X pos keys g j)(m:keys.all (·.isSome)=true)(hl:keys.length=g.length)(G:keys≠[])(x:keys.length<=15):PE X (.Dict keys g pos) (DD j):=by
 intro af s σ H Q I q;have J:=I.hok.fresh (aQ s.heap.objs.size);have K:=I.laid (a:=s.heap.objs.size) (o:=.dK []) (h':=s.heap.push {cls:=.type "dict",data:=.dict #[]}) (t':=s.toks) (λ ω ω q=>Rp _ q) (aQ _) (MS s.heap I.big);refine wpAny_Dict_walk (knd:=fZ X.prog X.w) m hl G x (aW (h af _ σ _ _ K (q _ J)) λ ws s2 B=>?_);obtain⟨ps,H2,D,C,e,kvs,L,lk,M⟩:=B;subst L;obtain⟨N,c,O⟩:=C8 (P:=X.prog) (w:=X.w) C;obtain⟨z,hd,R,S,T⟩:=HG D.hok e;cases S;refine⟨N,c,T,λ h' n U=>⟨.ref s.heap.objs.size,_,?_,rfl,M⟩⟩;have Y:(nA [] kvs).length<=Ru:=by
  have Z:=Dz kvs [];rw[iG]at Z;rw[RB];lia
 have he:∃q,h'.get? s.heap.objs.size=some q:=let⟨q,_,_,hq,_⟩:=n;⟨q,hq⟩;exact J_ D (by rw[e];exact True.intro) U he (JL Y hd (O.merge .nil) n)
structure M2(X:Cx)(o:Expr)(m:U1)(apos:Pos)(e f:Expr)(cpos:Pos):Prop where
 base:SQ o m X.env (RJ o X.env)=RJ o X.env
 few:((RK cpos (Rt [e,f] X.env)).all (λ x=>!x.1)&&(Sy cpos (RX [] X.env)).all (λ x=>x.1.isSome)&&decide (([e,f]:List Expr).length+([]:List Keyword).length+(if([]:List Keyword).isEmpty then 0 else 1)<30))=true
 line:(apos.endLine==cpos.line)=true
 trees:RK cpos (Rt [e,f] X.env)=[(false,RJ e X.env),(false,RJ f X.env)]
def AV(H:Hp)(a:V0):Prop:=(∃kvs,Rd H a (.dK kvs))\/∃kvs,Rd H a (.dT kvs)
theorem Ku{af:List (V0×Obj)}{σ:St}{s:Z1}{a:V0}(I:Inv X af σ H s)(d:AV H a):s.TypeIs (.ref a) "dict"/\(∀b,RA a=.ref b->∃c,s.heap.get? b=some c/\c.dict=none)/\(a==SC)=false:=by
 rcases d with⟨kvs,e⟩|⟨kvs,e⟩
 ·obtain⟨ω,hd,vs,ω,g⟩:=AC I.hok e;refine⟨g.typeIs,λ b q=>?_,hd⟩;cases q;obtain⟨c,ω,ω,j,m,ω⟩:=g;exact⟨c,j,m.2.1⟩
 ·obtain⟨ω,hd,n,ω,g⟩:=Ej I.hok e;refine⟨g.typeIs,λ b q=>?_,hd⟩;cases q;obtain⟨c,ω,ω,j,m,ω⟩:=g;exact⟨c,j,m.2.1⟩
section
variable{X:Cx}{af:List (V0×Obj)}{σ:St}{H:Hp}{s:Z1}{a:V0}{y d:V}{u r:Y1}{o:Option V}{A:N1}{E:Y1->Z1->Prop}
theorem JZ{Q:Y1->Z1->Prop}(C:A.units+1<UI)(I:Inv X af σ H s)(g:iV H a y o)(n:RelV y u)(rd:RelV d r)(h:∀x B,Inv X af σ H B->RelV (o.getD d) x->Q x B):Rz (RD X.prog X.w) A (call (.builtin "dict.get") [.ref a,u,r]) Q E s:=by
 rcases g with⟨kvs,k,e,m,l⟩|⟨kvs,k,b,e,m,D,l⟩
 ·subst m;obtain⟨z,hd,vs,c,j⟩:=AC I.hok e;refine call_meetsIn rQ j.typeIs yq (yp _ _ _) (meets_dict_get_default (fZ X.prog X.w) a (qu n) hd r) ⟨_,j.mapOf,h _ _ (I.tok _) ?_⟩;rw[l];exact(c.val k).getD rd
 ·subst m;cases(show u=RA b from n);obtain⟨z,hd,G,c,j⟩:=Ej I.hok e;refine call_meetsIn rQ j.typeIs yq (yp _ _ _) (meetsH_dict_get_default (UE (fZ X.prog X.w)) a b hd r) ⟨tupleKind_room_in1 C,k,G,EI I.hok D,j,h _ _ (I.tok _) ?_⟩;rw[l];exact(c.val k).getD rd
end
def EF(td ty tx:TE):TE:=λ σ H Q=>td σ H λ x c=>∃a,x=.ref a/\AV c a/\ty σ c λ y j=>tx σ j λ z g=>∃o,iV g a y o/\Q (o.getD z) g
section
variable{X:Cx}{o e f:Expr}{apos cpos:Pos}{td ty tx:TE}
theorem Gg(B:X.A.units+1<UI)(C:PE X o td)(D:PE X e ty)(G:PE X f tx)(m:M2 X o "get" apos e f cpos):PE X (.Call (.Attribute o "get" apos) [e,f] [] cpos) (EF td ty tx):=by
 intro af s σ H Q I h;refine wpAny_Call_method m.base m.few m.line PySem.F.plainAttrs_dict rQ PySem.F.type_dict_get (aW (C af s σ H _ I h) λ u J c=>?_);obtain⟨x,K,n,L,a,M,d,N⟩:=c;subst M;obtain rfl:u=RA a:=L;obtain⟨O,R,ω⟩:=Ku n d;refine⟨O,R,?_⟩;rw[m.trees];refine Sl rfl (Ta (R8 (aW (D af J σ K _ n N) λ iv S ⟨y,T,U,Y,Z⟩=>R8 (aW (G af S σ T _ U Z) λ fv s3 ⟨z,H3,I3,rz,ov,g,q3⟩=>Tu ?_))));exact JZ B I3 g Y rz λ w' s4 I4 j=>⟨_,H3,I4,j,q3⟩
end
theorem Q6{e ty g:TE}{c:St}:EF e ty g c H Q=(e c H λ x i=>∃a,x=.ref a/\AV i a/\ty c i λ y m=>g c m λ z j=>∃o,iV j a y o/\Q (o.getD z) j):=rfl
end L2
end
section
namespace PW
open PySem P15
inductive Vl|int(i:Int)|bl(b:Bool)|thing(n:Nat)
structure Wd where
 name:U1
 params:List (U1×U1)
 kind:U1
 body:Tm
structure Hs where
 name:U1
 elder:Option U1
 fields:List (U1×U1)
 words:List Wd
structure Pg where
 houses:List Hs
 main:Wd
structure Sc where
 house:Option U1
 own:Option Vl
 bound:List (U1×Vl)
inductive Wt|walk(t:Tm)(s:Sc)|choose(t:Tm)(s:Sc)|finish(t:Tm)(s:Sc)|leave
structure Ws where
 wait:List Wt
 known:List Vl
 made:List (U1×List Vl)
 counted:Nat
 within:Nat
 ended:Option (List U1)
def mJ{α:Type}(xs:List α)(x:α)(i:Nat):Prop:=xs[i]?=some x/\∀j,j<i->xs[j]?≠some x
def Look(P:Pg)(h:U1)(H:Hs):Prop:=H∈P.houses/\H.name=h
inductive qo(P:Pg):U1->List U1->Prop
 |top{h:U1}{H:Hs}:Look P h H->H.elder=none->qo P h []
 |up{h e:U1}{H:Hs}{es:List U1}:Look P h H->H.elder=some e->qo P e es->qo P h (e::es)
inductive tL(P:Pg)(w:U1):List U1->U1->Nat->Wd->Prop
 |here{h:U1}{H:Hs}{es:List U1}{i:Nat}{d:Wd}:Look P h H->mJ (H.words.map Wd.name) w i->H.words[i]?=some d->tL P w (h::es) h i d
 |there{h h':U1}{H:Hs}{es:List U1}{i:Nat}{d:Wd}:Look P h H->w∉H.words.map Wd.name->tL P w es h' i d->tL P w (h::es) h' i d
inductive jJ(P:Pg):List U1->List (U1×U1)->Prop
 |nil:jJ P [] []
 |cons{h:U1}{H:Hs}{l:List U1}{fs:List (U1×U1)}:Look P h H->jJ P l fs->jJ P (h::l) (H.fields++fs)
def DC(P:Pg)(h f:U1)(j:Nat):Prop:=∃a fs,qo P h a/\a.length<=100/\jJ P (h::a).reverse fs/\fs.length<=100/\mJ (fs.map Prod.fst) f j
def leaf:Fm->Prop
 | .number| .truth| .name| .self=>True
 |_=>False
end PW
end
section
namespace WK
open PySem L2 P15 TM PW
inductive A2{α β:Type}(R:α->β->Prop):List α->List β->Prop
 |nil:A2 R [] []
 |cons{a:α}{b:β}{as:List α}{bs:List β}:R a b->A2 R as bs->A2 R (a::as) (b::bs)
section
variable{α β:Type}{R R':α->β->Prop}
theorem A2.len:∀{e:List α}{bs:List β},A2 R e bs->e.length=bs.length:=λ h=>by
 induction h with
 |nil=>rfl
 |cons _ _ ih=>exact congrArg (·+1) ih
theorem A2.monoM:∀{e:List α}{bs:List β},A2 R e bs->(∀a b,a∈e->R a b->R' a b)->A2 R' e bs:=λ h f=>by
 induction h with
 |nil=>exact .nil
 |cons a _ ih=>exact .cons (f _ _ cy a) (ih λ a b m=>f a b (cV _ m))
theorem A2.mono{e:List α}{bs:List β}(h:A2 R e bs)(f:∀a b,R a b->R' a b):A2 R' e bs:=h.monoM λ a b ω=>f a b
theorem A2.app:∀{i e:List α}{bs g:List β},A2 R i bs->A2 R e g->A2 R (i++e) (bs++g):=λ h g=>by
 induction h with
 |nil=>exact g
 |cons a _ ih=>exact .cons a ih
theorem A2.snoc{e:List α}{bs:List β}{a:α}{b:β}(h:A2 R e bs)(r:R a b):A2 R (e++[a]) (bs++[b]):=h.app (.cons r .nil)
theorem A2.at:∀{e:List α}{bs:List β}{i:Nat}{a:α},A2 R e bs->e[i]?=some a->∃b,bs[i]?=some b/\R a b
 |_,_,0,_,.cons r _,h=>by cases h;exact⟨_,rfl,r⟩
 |_,_,i+1,_,.cons _ t,h=>t.at (i:=i) h
theorem A2.of:∀{g:List α}{bs:List β},g.length=bs.length->(∀(j:Nat) a,g[j]?=some a->∃b,bs[j]?=some b/\R a b)->A2 R g bs
 |[],[],_,_=>.nil
 |a::g,b::bs,e,h=>by
  obtain⟨o,i,r⟩:=h 0 a rfl;cases i;exact .cons r (A2.of (Nat.succ.inj e) λ j m n=>h (j+1) m n)
end
structure CS where
 term:V0
 word:V0
 house:V0
 program:V0
 hall:V0
 scope:V0
 waits:V0
 walk:V0
 bs:Hp
structure Kw(C:V0)(H H':Hp):Prop where
 t:∀b xs,H b=some (.tup xs)->H' b=some (.tup xs)
 z:∀b o xs,H b=some (.frz o (.tup xs))->H' b=some (.frz o (.tup xs))
 i:∀b D dx f fs,D≠C->H b=some (.ins D dx (f::fs))->H' b=some (.ins D dx (f::fs))
 d:∀b kvs,H b=some (.dK kvs)->H' b=some (.dK kvs)
section
variable{C:V0}{H H' H'':Hp}{K:X0}
theorem Kw.kt(k:Kw C H H'):Kt H H':=⟨k.t,k.z⟩
mutual
theorem TO.kw{D:V0}(n:D≠C)(k:Kw C H H'):∀{v:V}{t:Tm},TO K D H v t->TO K D H' v t
 |_,_,.mk a b c d e=>.mk (k.i _ _ _ _ _ n a) (ay.kt b k.kt) (cU.kw n k c) (ay.kt d k.kt) (e.kt k.kt)
theorem cU.kw{D:V0}(n:D≠C)(k:Kw C H H'):∀{vs:List V}{ts:List Tm},cU K D H vs ts->cU K D H' vs ts
 |_,_,.nil=>.nil
 |_,_,.cons h e=>.cons (TO.kw n k h) (cU.kw n k e)
end
end
noncomputable def oS:Option U1->V
 |none=>.non
 |some s=>.str s
noncomputable def ic(ps:List (U1×U1)):PyData:=.tuple (ps.map λ p=>.tuple [.str p.1,.str p.2])
noncomputable def kT(d:Wd):PyData:=.tuple [.str d.name,ic d.params,.str d.kind,d.body.dat]
noncomputable def oD:Option U1->PyData
 |none=>.none
 |some s=>.str s
noncomputable def jB(h:Hs):PyData:=.tuple [.str h.name,oD h.elder,ic h.fields,.tuple (h.words.map kT)]
noncomputable def kU(P:Pg):PyData:=.tuple [.tuple (P.houses.map jB),.tuple [ic P.main.params,.str P.main.kind,P.main.body.dat]]
inductive eP(K:X0)(c:CS)(H:Hp):V->Wd->Prop
 |mk{a dx pt:V0}{bv:V}{d:Wd}:H a=some (.ins c.word dx [("name",.str d.name),("params",.ref pt),("kind",.str d.kind),("body",bv)])->RT K H (.ref pt) (ic d.params)->TO K c.term H bv d.body->eP K c H (.ref a) d
inductive gC(K:X0)(c:CS)(H:Hp):V->Hs->Prop
 |mk{a dx ft wt:V0}{ws:List V}{h:Hs}:H a=some (.ins c.house dx [("name",.str h.name),("elder",oS h.elder),("own_fields",.ref ft),("own_words",.ref wt)])->RT K H (.ref ft) (ic h.fields)->ay K H wt ws->A2 (eP K c H) ws h.words->gC K c H (.ref a) h
inductive kH(K:X0)(c:CS)(H:Hp):V->Pg->Prop
 |mk{a dx ht:V0}{hs:List V}{mv:V}{P:Pg}:H a=some (.ins c.program dx [("all_houses",.ref ht),("main",mv)])->ay K H ht hs->A2 (gC K c H) hs P.houses->eP K c H mv P.main->kH K c H (.ref a) P
section
variable{K:X0}{H H':Hp}{c:CS}
theorem eP.same{v:V}{d:Wd}(h:eP K c H v d)(s:ao H H'):eP K c H' v d:=by
 cases h with
 |mk a b t=>exact .mk (s _ _ a) (b.same s) (t.kp (Kp.of s))
theorem gC.same{v:V}{d:Hs}(h:gC K c H v d)(s:ao H H'):gC K c H' v d:=by
 cases h with
 |mk a b q t=>exact .mk (s _ _ a) (b.same s) (ay.kp q (Kp.of s)) (t.mono λ ω ω r=>r.same s)
theorem kH.same{v:V}{d:Pg}(h:kH K c H v d)(s:ao H H'):kH K c H' v d:=by
 cases h with
 |mk a q t m=>exact .mk (s _ _ a) (ay.kp q (Kp.of s)) (t.mono λ ω ω r=>r.same s) (m.same s)
end
noncomputable def Ot(hl wA ml:V0)(most c w:Nat)(ev:V):List (U1×V):=[("hall",.ref hl),("most",.int most),("waits",.ref wA),("made",.ref ml),("counted",.int c),("within",.int w),("ended",ev)]
structure Ad where
 dx:V0
 hl:V0
 wA:V0
 dw:V0
 wl:V0
 kl:V0
 ml:V0
 ev:V
 ws:List V
 ks:List V
 mz:List (V×V0)
end WK
end
section
namespace L2
open PySem PySem.Spec PyProof.Rows
def oJ(ks:Nat->bZ)(ys:Nat->V):Nat->List (bZ×V)
 |0=>[]
 |i+1=>gH (oJ ks ys i) (ks i) (ys i)
noncomputable def GZ(ks:List U1)(ys:List V):List (bZ×V):=oJ (λ i=>.inr (ks.getD i "")) (λ i=>ys.getD i .non) (min ks.length ys.length)
variable{X:Cx}
variable{Q:List (V×V)->Hp->Prop}{H:Hp}
theorem Qr{a:St}:oT [] a H Q=Q [] H:=rfl
theorem Qe{tk c:TE}{r:List (TE×TE)}{a:St}:oT ((tk,c)::r) a H Q=tk a H λ x e=>c a e λ y g=>oT r a g λ ps H3=>Q ((x,y)::ps) H3:=rfl
theorem Qt{a:List (TE×TE)}{c:St}{Q:VK}:DD a c H Q=aS H (.dK []) λ p i=>oT a c i λ ps e=>e p=some (.dK [])/\∃kvs:List (bZ×V),ps=kvs.map (λ g=>(kV g.1,g.2))/\kvs.length<=15/\Q (.ref p) (ar e p (.dK (nA [] kvs))):=rfl
def iW(mg:U1->Option Y1)(base:M1):Prop:=∃a o,mg "__builtins__"=some (.ref a)/\a≠TL/\a≠RE/\base.get? a=some o/\o.cls=.type "module"/\o.dict=some TL/\o.data=.plain
section
variable{X:Cx}{af:List (V0×Obj)}{σ:List (Option V)}{H:Hp}{s:Z1}
theorem Inv.grown{P:V0}{ps more:Array Y1}{h':M1}{tk:Nat}(I:Inv X af σ H s)(g:H P=some (.tbl ps))(k:∀b o,b≠P->s.heap.get? b=some o->h'.get? b=some o)(j:h'.get? P=some {cls:=.none,data:=.fields (ps++more)}):Inv X af σ (ar H P (.tbl (ps++more))) {s with heap:=h',toks:=tk}:=by
 have i:∀b,H b=none->b≠P:=λ b n z=>by rw[z,g]at n;cases n
 refine I.step (g':=s.gens) (d':=s.drawn) (ch:=[]) (λ ω z=>nomatch z) (λ b o ω ω ω e n=>k b o (i b n) e) (λ b o ω ω ω e n=>⟨o.slots,k b o (i b n) e⟩) (λ b o ω ω n=>by rw [aU (i b n)]; exact n) (λ b o ω e=>?_)
  (λ b w e=>by rw[aU (t_ e g (λ z=>by cases z))];exact e) (λ b o u e=>by rw[aU (t_ e g (λ z=>by cases z))];exact e) (λ b G e=>?_) (λ m x=>?_) (λ b u e=>?_) I.bare
 ·by_cases a:b=P
  ·exact⟨_,a▸j⟩
  ·exact⟨o,k b o a e⟩
 ·by_cases a:b=P
  ·subst a;rw[g]at e;cases e;exact⟨more,bu⟩
  ·exact⟨#[],by rw[aU a,e];simp⟩
 ·obtain⟨o,B,C,D,r⟩:=x;exact⟨o,B,C,k _ o (i _ I.free) D,r⟩
 ·by_cases a:b=P
  ·subst a;rw[bu]at e;cases e;exact j
  ·rw[aU a]at e;refine(I.hok b u e).stay (λ c v E q=>k c v ?_ q) (λ c q=>?_) λ c w q=>?_
   ·rcases E with z|z
    ·rw[z];exact a
    ·exact t_ z g (λ z=>by cases z)
   ·rw[aU (t_ q g (λ z=>by cases z))];exact q
   ·rw[aU (t_ q g (λ z=>by cases z))];exact q
theorem Inv.pin1{p:V0×Obj}(I:Inv X af σ H s)(h:s.heap.get? p.1=some p.2)(e:H p.1=none)(hl:X.s₀.heap.objs.size<=p.1)(g:p.1≠X.env.locals)(hd:∀v,p.2.data≠.cell v):Inv X (p::af) σ H s:=by
 refine I.pins_of λ q a=>?_;rcases de.mp a with rfl|a
 ·exact⟨h,e,g,λ z=>by
   obtain⟨ω,o,i,ω⟩:=I.ok.funs.mem z;exact UM (dv (Rq i) hl) (fH _),hd⟩
 ·exact I.pin q (i_ _ a)
end
end L2
end
section
namespace L2
open PySem PySem.Spec PySem.Calls PyProof.Rows
def Pm(n:Nat)(p:Array Nat):Prop:=p.toList.Perm (jM n)
section
variable{n:Nat}{p:Array Nat}
theorem Pm.lt(h:Pm n p)(c:0<n)(i:Nat):p.getD i 0<n:=by
 rw[Array.getD_eq_getD_getElem?];cases e:p[i]? with
 |none=>exact c
 |some x=>
  have g:x∈p.toList:=by
   rw[yw];exact Array.mem_of_getElem? e
  exact mW.mp (h.mem_iff.mp g)
end
def dD(K:X0)(c P:V0):Prop:=∃m vs o i u g v sj j x,K.lookup c=some ⟨.type "code",m,.fields vs,o⟩/\vs[11]?=some (.ref P)/\vs.getD 11 .none=.ref P/\vs.getD 18 .none=.str i u/\vs.getD 7 .none=.int g v/\vs.getD 9 .none=.bool sj/\vs.getD 10 .none=.int j x/\c≠P
variable{K:X0}
theorem dD.hd{c P:V0}{h:M1}(x:dD K c P)(X:K.In h):W.CodeHd h c P:=by
 obtain⟨G,vs,I,i,m,g,o,sj,j,u,e,r⟩:=x;obtain⟨r1,v,y,z,B,C,D⟩:=r;exact⟨_,vs,i,m,g,o,sj,j,u,X _ _ e,rfl,rfl,r1,v,y,z,B,C,D⟩
def Iv(T0:V0)(H:Hp):Prop:=∀b,H b=none\/(∃o xs,H b=some (.frz o (.lst xs)))\/(b=T0/\H b=some (.tbl #[]))
variable{a:V0}
theorem M5{P:Program}{c T0:V0}{w:V1}{mg mb:U1->Option Y1}{CX:ij}{k:Nat}{fa:V0}{fd:RN}{x:U1}{sp:Sp}{s₁:Z1}{vs:List Y1}{ns:List Int}(Cd:W.CodeHd s₁.heap c T0)(hT:s₁.heap.get? T0=some (W.tabObj #[]))(hKT:K.lookup T0=none)(hbm:∃bm ob,mg "__builtins__"=some (.ref bm)/\bm≠TL/\s₁.heap.get? bm=some ob/\ob.cls=.type "module"/\ob.dict=some TL/\ob.data=.plain)(KX:K.In s₁.heap)(hns:s₁.heap.Ns RE mg)(hb:s₁.heap.Ns TL mb)(hbb:∀x:U1,x≠"__name__"->mb x=RI x)(hlim:s₁.heap.NoLimit)(hg:s₁.gens=#[])(ha:s₁.heap.get? a=some {cls:=.type "list",data:=.seq vs.toArray})(hi:IntsAre vs ns)(hl:ns.length<=Ru)(hr:bw k UF)(F:∀base:M1,K.In base->base.Ns RE mg->iW mg base->bc P w K mg base CX k fa fd [x] sp)(hbind:∀(s:Z1)(u:Y1),BindsTo s fd ⟨[u],[]⟩ [(x,u)])(hsp:∀H:Hp,H T0=some (.tbl #[])->az K H a (ns.map V.int)->sp [.ref a] H (λ v ω=>v=.bl true) λ ω ω ω=>False)(hCX:∀H e s',CX [] H s₁ (λ ω ω ω=>False) e s'->False):Tq (RD P w) UF (.call (.ref fa) ⟨[.ref a],[]⟩) (λ r s'=>r=.ok (.ret (.bool true))/\OldK s₁.heap s'.heap/\s'.os=s₁.os/\T6 s'.gens) s₁:=by
 have rv:=Cq hi;have lenV:=hi.length
 --from an abstract heap in which nothing but the script may be tracked
 have core:∀H:Hp,Iv T0 H->H T0=some (.tbl #[])->az K H a (ns.map V.int)->dI P w H s₁.heap->(∀b,H b≠none->b=a\/b=T0)->(H a≠none->K.lookup a=none)->
   Tq (RD P w) UF (.call (.ref fa) ⟨[.ref a],[]⟩) (λ r s'=>r=.ok (.ret (.bool true))/\OldK s₁.heap s'.heap/\s'.os=s₁.os/\T6 s'.gens) s₁:=by
  intro H hO hHT hS hok hA hK;have base_of:∀{b:V0}{o:Obj},s₁.heap.get? b=some o->H b=none->(fX s₁.heap H).get? b=some o:=λ e n=>LI e n;have noA:∀{b:V0}{o:Obj}{es:Array TH}{ep:Nat},s₁.heap.get? b=some o->o.data=.dict es ep->H b=none:=λ{b o es ep} e d=>by
   cases q:H b with
   |none=>rfl
   |some u=>
    rcases hA b (by rw[q];simp)with e'|e'
    ·subst e';rw[ha]at e;cases e;have d':Data.seq vs.toArray _=Data.dict es ep:=d;cases d'
    ·subst e';rw[hT]at e;cases e;have d':Data.fields #[]=Data.dict es ep:=d;cases d'
  have nsK:∀{b:V0}{m:U1->Option Y1},s₁.heap.Ns b m->(fX s₁.heap H).Ns b m:=λ{b m} ⟨o,es,ep,e,d,r⟩=>⟨o,es,ep,base_of e (noA e d),d,r⟩;have hKb:K.In (fX s₁.heap H):=λ b o e=>base_of (KX b o e) (by
   cases q:H b with
   |none=>rfl
   |some u=>
    rcases hA b (by rw[q];simp)with e'|e'
    ·subst e';rw[hK (by rw[q];simp)]at e;cases e
    ·subst e';rw[hKT]at e;cases e)
  have hM:Mod K mg (fX s₁.heap H):=⟨hKb,nsK hns,⟨mb,nsK hb,hbb⟩,let⟨mc,h1,h2⟩:=hlim;⟨mc,nsK h1,h2⟩⟩;have e0:gR P w K mg (fX s₁.heap H) UF [] s₁ H:=⟨rfl,hM,λ b o e=>J8 e,pS (Nr _ _),trivial,λ b hb=>UM (show b∈([]:List V0)from hb) (by simp),hok,.of_eq hg⟩;have hB:iW mg (fX s₁.heap H):=by
   obtain⟨bm,ob,b1,b2,b3,b4,b5,b6⟩:=hbm;have nb:H bm=none:=by
    cases q:H bm with
    |none=>rfl
    |some u=>
     rcases hA bm (by rw[q];simp)with e'|e'
     ·subst e';rw[ha]at b3;cases b3;injection b4 with z
      exact UM z qQ
     ·subst e';rw[hT]at b3;cases b3;cases b4
   refine⟨bm,ob,b1,b2,λ z=>?_,base_of b3 nb,b4,b5,b6⟩;obtain⟨og,es,ep,eg,dg,ω⟩:=hns;rw[<-z,b3]at eg;cases eg;rw[b6]at dg;cases dg
  refine SN ((F _ hKb (nsK hns) hB).run UF [] s₁ H ⟨[.ref a],[]⟩ [.ref a] [.ref a] _ _ hr e0 (hbind s₁ (.ref a)) (.cons rfl .nil) (hsp H hHT hS)) λ r s' h=>?_;cases r with
  |error e=>exact(hCX H e s' h).elim
  |ok fl=>
   cases fl with
   |next=>exact False.elim h
   |brk=>exact False.elim h
   |cont=>exact False.elim h
   |ret u=>
    obtain⟨v,H',os,bare,un,hok',r',q⟩:=h;have q':v=.bl true:=q;subst q';obtain rfl:u=Tr true:=r';have old:∀b o,s₁.heap.get? b=some o->asItWas s₁.heap s'.heap b o/\∃o',s'.heap.get? b=some o':=λ b o e=>by
     cases q:H b with
     |none=>
      have z:=un.keep b o e q (by intro z;exact UM (show b∈([]:List V0)from z) (by simp)) (by simp);exact⟨.inl z,o,z⟩
     |some u=>
      rcases hO b with z|⟨ob,xs,z⟩|⟨rfl,z⟩
      ·rw[q]at z;cases z
      ·have z2:=un.frzs b ob _ z;obtain⟨e1,ω⟩:=hok b _ z;obtain⟨e2,ω⟩:=hok' b _ z2;rw[e]at e1;cases e1;exact⟨.inl e2,_,e2⟩
      ·obtain⟨more,z2⟩:=un.tbls b _ z;have e2:s'.heap.get? b=some {cls:=.none,data:=.fields (#[]++more)}:=hok' b _ z2;rw[hT]at e;cases e;exact⟨.inr (.inl ⟨(Cd.tab hT).isCodeTable,rfl,#[],more,rfl,e2⟩),_,e2⟩
    exact⟨rfl,⟨λ b o e=>(old b o e).1,λ b o e=>(old b o e).2⟩,os,bare⟩
 cases hk:K.lookup a with
 |some o=>
  --the script is one of the module's own objects
  have e:=KX a o hk;rw[ha]at e;cases e;refine core (λ b=>if b=T0 then some (.tbl #[])else none) (λ b=>?_) (UL rfl) (.inr ⟨_,vs.toArray,_,hk,rfl,rfl,rfl,by rw[du,lenV];exact hl,by simpa using rv⟩) (λ b u z=>?_) (λ b z=>?_) (λ z=>?_)
  ·by_cases hb:b=T0
   ·exact .inr (.inr ⟨hb,UL hb⟩)
   ·exact .inl (UK hb)
  ·by_cases hb:b=T0
   ·have z':=(UL hb).symm.trans z;cases z';subst hb;exact hT
   ·have z':=(UK hb).symm.trans z;cases z'
  ·by_cases hb:b=T0
   ·exact .inr hb
   ·exact UM (UK hb) z
  ·have:a≠T0:=λ y=>by rw[y,hT]at ha;cases ha
   exact UM (UK this) z
 |none=>
  have naT:a≠T0:=λ y=>by rw[y,hT]at ha;cases ha
  refine core (λ b=>if b=a then some (.frz {cls:=.type "list",data:=.seq vs.toArray} (.lst (ns.map V.int)))else if b=T0 then some (.tbl #[])else none) (λ b=>?_) ?_ (.inl (.inr ⟨{cls:=.type "list",data:=.seq vs.toArray},UL rfl⟩)) (λ b u z=>?_) (λ b z=>?_) λ ω=>hk
  ·by_cases hb:b=a
   ·exact .inr (.inl ⟨_,_,UL hb⟩)
   ·by_cases hb2:b=T0
    ·exact .inr (.inr ⟨hb2,(UK hb).trans (UL hb2)⟩)
    ·exact .inl ((UK hb).trans (UK hb2))
  ·exact(UK (Ne.symm naT)).trans (UL rfl)
  ·by_cases hb:b=a
   ·have z':=(UL hb).symm.trans z;cases z';subst hb;exact⟨ha,by rw[bB];exact hl,vs,_,rv,ha⟩
   ·by_cases hb2:b=T0
    ·have z':=((UK hb).trans (UL hb2)).symm.trans z;cases z';subst hb2;exact hT
    ·have z':=((UK hb).trans (UK hb2)).symm.trans z;cases z'
  ·by_cases hb:b=a
   ·exact .inl hb
   ·by_cases hb2:b=T0
    ·exact .inr hb2
    ·exact UM ((UK hb).trans (UK hb2)) z
theorem L3{c T0:V0}{l:W.OpenLaw}{n k:Nat}{q:Program}{loose:List U1}{XP:(U1->Option Y1)->M1->Prop}{YP:V1->M1->Prop}{d:DefRec}{K:Params->X0}{CX:V1->ij}{sp:V1->Sp}{x:U1}(hn:l.most=some n)(hn2:n<=Ru)(hdf:d.params.defaults=[])(hr:bw k UF)(hY:∀(w:V1)(h:M1),YP w h->(K w.params).In h/\h.get? T0=some (W.tabObj #[]))(hKT:∀w:V1,(K w.params).lookup T0=none)(hCd:∀w:V1,dD (K w.params) c T0)(F:∀(w:V1)(mg:U1->Option Y1)(fa:V0)(h:M1),(K w.params).In h->h.Ns RE mg->mg d.name=some (.ref fa)->∃fd:RN,(∀(s:Z1)(u:Y1),BindsTo s fd ⟨[u],[]⟩ [(x,u)])/\∀base:M1,(K w.params).In base->base.Ns RE mg->iW mg base->bc l.prog w (K w.params) mg base (CX w) k fa fd [x] (sp w))(hsp:∀(w:V1)(H:Hp)(a:V0)(ns:List Int),ns.length<=n->H T0=some (.tbl #[])->az (K w.params) H a (ns.map V.int)->sp w [.ref a] H (λ v ω=>v=.bl true) λ ω ω ω=>False)(hCX:∀(w:V1)(H:Hp)(s:Z1)(e:Y1)(s':Z1),CX w [] H s (λ ω ω ω=>False) e s'->False):W.WalkO q loose XP YP l.row.toRowW d [] (λ f vs=>PySem.call f vs):=by
 refine Att.h_ hn hdf λ w s₀ s₁ mg mb fa o pm cd doc a vs ns G Y ho hd hcd hmg hobj hints hlen hg=>?_;obtain⟨KX,hT⟩:=hY w _ Y;obtain⟨fd,hb,hF⟩:=F w mg fa _ KX G.T.g hmg;exact M5 ((hCd w).hd KX) hT (hKT w) G.T.bmain KX G.T.g G.T.b G.T.builtins G.T.nolimit hg hobj hints (bR hlen hn2) hr hF hb (λ H hO hS=>hsp w H a ns hlen hO hS) λ H e s'=>hCX w H s₁ e s'
def sv(K:X0)(tl:TE):TI:=λ g H R=>tl g H λ v c=>∃a,v=.ref a/\((∃e,az K c a e/\R (jT K a) c)\/(∃e,ay K c a e/\R (kK K a) c))
variable{H:Hp}
theorem Qc{tl:TE}{e:St}{R:It->Hp->Prop}:sv K tl e H R=tl e H λ v c=>∃a,v=.ref a/\((∃xs,az K c a xs/\R (jT K a) c)\/(∃xs,ay K c a xs/\R (kK K a) c)):=rfl
variable{X:Cx}
theorem EY{y l:Expr}{tl:TE}(hl:PE X l tl):PI X y l (sv X.K tl):=by
 intro c s z H R I h;refine aW (hl c s z H _ I h) λ v g j=>?_;obtain⟨x,m,i,r1,a,e,A⟩:=j;subst e;cases r1;have w:∀b∈[g.heap.objs.size],eI X c m b:=λ b B=>by
  cases dN.mp B;exact i.fpOk (aQ _) (i.hok.fresh (aQ _))
 rcases A with⟨C,n,q⟩|⟨C,n,q⟩
 ·obtain⟨its,D,u,j⟩:=i.list n;refine Sf u.isList ?_;exact⟨g.heap.objs.size,[g.heap.objs.size],_,_,m,rfl,i.kept (t':=g.toks) (λ b o e=>Rp _ e),B9 a _,⟨_,RC _ rfl,rfl,rfl⟩,w,q⟩
 ·obtain⟨its,D,u,j⟩:=i.tuple n;refine wpAny_pyIter_tuple (show g.heap.IsTuple a its.toArray from u) ?_;exact⟨g.heap.objs.size,[g.heap.objs.size],_,_,m,rfl,i.kept (t':=g.toks) (λ b o e=>Rp _ e),Dl a _,⟨_,RC _ rfl,rfl,rfl⟩,w,q⟩
noncomputable def OX(ks:List U1)(ys:List V):List (bZ×V):=oJ (λ i=>.inr (ks.getD i "")) (λ i=>ys.getD i .non) ks.length
def ow(K:X0):List V->Hp->VK->Prop:=λ c H Q=>∃p a,c=[.ref p]/\(az K H p a\/ay K H p a)/\Q (.int a.length) H
variable{Q:VK}{xs:List V}
theorem P3:ow K xs H Q=∃p ys,xs=[.ref p]/\(az K H p ys\/ay K H p ys)/\Q (.int ys.length) H:=rfl
theorem Np:gN X (.builtin "len") (ow X.K):=Dr
theorem nC{α a:Type}{R:α->a->Prop}:∀{xs:List α}{ys:List a}{i:Nat}{x:α},R1 R xs ys->xs[i]?=some x->∃y,ys[i]?=some y/\R x y
 |_,_,0,_,.cons r _,h=>by cases h;exact⟨_,rfl,r⟩
 |_,_,i+1,_,.cons _ t,h=>nC (i:=i) t h
def tP(K:X0)(a:V0)(xs:List V):Prop:=∀H:Hp,ay K H a xs
theorem K_{o:Obj}{its:Array Y1}{n:Nat}(c:K.lookup a=some o)(e:o.cls=.type "tuple"/\o.dict=none)(g:o.data=.seq its n)(hz:its.size<=Ru)(r:aI xs its.toList):tP K a xs:=λ ω=>.inr ⟨o,its,n,c,e,g,hz,r⟩
def AN:V->Bool
 | .non| .bl _| .int _| .str _=>true
 |_=>false
theorem Ib:S_ K (.type "NoneType") (.type "tuple")=some false:=by with_unfolding_all rfl
theorem HY:S_ K (.type "bool") (.type "tuple")=some false:=by with_unfolding_all rfl
theorem HN:S_ K (.type "int") (.type "tuple")=some false:=by with_unfolding_all rfl
theorem HR:S_ K (.type "str") (.type "tuple")=some false:=by with_unfolding_all rfl
def xi(K:X0):List V->Hp->VK->Prop:=λ c H Q=>∃x,c=[x,.ty "tuple"]/\((∃a us,x=.ref a/\ay K H a us/\Q (.bl true) H)\/(AN x=true/\Q (.bl false) H))
theorem Qj:xi K xs H Q=∃x,xs=[x,.ty "tuple"]/\((∃a us,x=.ref a/\ay K H a us/\Q (.bl true) H)\/(AN x=true/\Q (.bl false) H)):=rfl
theorem Cr:gN X (.builtin "isinstance") (xi X.K):=by
 intro j s C H D us Q I m h;obtain⟨x,rfl,h⟩:=h;obtain⟨u,v,rfl,g,n⟩:=m.two;rw[GM (c:=.ty "tuple") rfl n];rcases h with⟨a,E,rfl,w,q⟩|⟨nt,q⟩
 ·cases(show u=RA a from g);obtain⟨its,r,y,G⟩:=I.tuple w;obtain⟨o,A,B,ω⟩:=y;exact SG W.kitx_tuple I.kIn ⟨o,A,B⟩ BI (λ z=>nomatch z) λ e=>⟨.bl true,H,I.tok e,rfl,q⟩
 ·cases x with
  |non=>exact tH I g .non Ib λ e=>⟨.bl false,H,I.tok e,rfl,q⟩
  |bl b=>exact tH I g (.bl b) HY λ e=>⟨.bl false,H,I.tok e,rfl,q⟩
  |int i=>exact tH I g (.int i) HN λ e=>⟨.bl false,H,I.tok e,rfl,q⟩
  |str x=>exact tH I g (.str x) HR λ e=>⟨.bl false,H,I.tok e,rfl,q⟩
  |_=>cases nt
structure qx(P:Program)(w:V1)(K:X0)(a:V0)(kvs:List (bZ×V)):Prop where
 of:∀h:M1,K.In h->∃vs,KV kvs vs/\h.DictOf (fZ P w) a vs
 ns:(a==SC)=false
section
variable{X:Cx}{o i:Expr}{ty:TE}{pos:Pos}{a:V0}{kvs:List (bZ×V)}
def ri(kvs:List (bZ×V))(ty:TE):TE:=λ c H Q=>ty c H λ y e=>∃k,y=kV k/\Q (.bl (cD kvs k).isSome) e
def Aq(kvs:List (bZ×V))(ty:TE):TE:=λ c H Q=>ty c H λ y e=>∃k v,y=kV k/\cD kvs k=some v/\Q v e
theorem PP{kvs:List (bZ×V)}{ty:TE}{c:St}:ri kvs ty c H Q=(ty c H λ y e=>∃k,y=kV k/\Q (.bl (cD kvs k).isSome) e):=rfl
theorem Qo{kvs:List (bZ×V)}{ty:TE}{c:St}:Aq kvs ty c H Q=(ty c H λ y e=>∃k v,y=kV k/\cD kvs k=some v/\Q v e):=rfl
theorem Kd(M:qx X.prog X.w X.K a kvs)(hi:PE X i ty)(m:PE X o (tC (.ref a))):PC X .In i o (ri kvs ty):=by
 intro c s g H Q I h;refine aW (hi c s g H _ I h) λ N n hz_=>?_;obtain⟨y,w,z,A,k,B,C⟩:=hz_;refine aW (m c n g w (λ v D=>v=.ref a/\Q (.bl (cD kvs k).isSome) D) z ⟨rfl,C⟩) λ u O hz_=>?_;obtain⟨x,E,j,G,J,K⟩:=hz_;subst J B;obtain rfl:u=RA a:=G;obtain⟨vs,e,L⟩:=M.of _ j.kIn;refine wpAny_in_of (qu A) M.ns L.mapOf ?_;rw[<-(e.val k).isSome_eq];exact⟨.bl _,E,j.tok _,rfl,K⟩
theorem Fs(M:qx X.prog X.w X.K a kvs)(z:PE X o (tC (.ref a)))(hi:PE X i ty)(A:tZ i):PE X (.Subscript o i pos) (Aq kvs ty):=by
 intro c s e H Q I h;refine Lw PySem.F.slot_dict_getitem.lookup A (aW (z c s e H (λ v B=>v=.ref a/\Aq kvs ty e B Q) I ⟨rfl,h⟩) λ u C hz_=>?_);obtain⟨x,D,E,G,J,K⟩:=hz_;refine aW (hi c C e D _ E K) λ S T g=>?_;obtain⟨y,L,n,N,k,v,O,l,P⟩:=g;subst J O;obtain rfl:u=RA a:=G;obtain⟨vs,j,w⟩:=M.of _ n.kIn;obtain⟨U,R,m⟩:=dC.some_of (v:=v) (o:=UH vs k) (by rw[<-l];exact j.val k);exact⟨w.typeIs,wpAny_getItem_of (qu N) w.mapOf R ⟨v,L,n.tok _,m,P⟩⟩
end
inductive nS(w:V1):List TH->List (bZ×V)->Prop
 |nil:nS w [] []
 |cons{e:TH}{k:bZ}{v:V}{es:List TH}{kvs:List (bZ×V)}:oK k e.key=true->e.hash=rZ w k->RelV v e.val->nS w es kvs->nS w (e::es) ((k,v)::kvs)
theorem nS.of{P:Program}{w:V1}:∀{es:List TH}{kvs:List (bZ×V)},nS w es kvs->∃vs,KV kvs vs/\Pairs (fZ P w) es vs/\vs.map (·.1)=kvs.map (·.1)/\∀e∈es,∃k,(fZ P w).is k e.key=true/\e.hash=(fZ P w).hash k
 |_,_,.nil=>⟨[],.nil,.nil,rfl,λ ω h=>by cases h⟩
 |_,_,.cons (e:=e) (k:=k) (v:=v) j m n t=>by
  obtain⟨vs,a,b,c,d⟩:=nS.of (P:=P) t;refine⟨(k,e.val)::vs,.cons ⟨rfl,n⟩ a,.cons j rfl b,by rw[dJ,dJ,c],λ u g=>?_⟩;rcases de.mp g with z|z
  ·subst z;exact⟨k,j,m⟩
  ·exact d u z
theorem GK{P:Program}{w:V1}{o:Obj}{es:Array TH}{ep:Nat}{kvs:List (bZ×V)}(l:K.lookup a=some o)(e:o.ExactDict)(d:o.data=.dict es ep)(p:nS w es.toList kvs)(c:(kvs.map (·.1)).Nodup)(g:(a==SC)=false):qx P w K a kvs:=by
 obtain⟨vs,j,m,n,u⟩:=nS.of (P:=P) p;exact⟨λ h v=>⟨vs,j,o,es,ep,v a o l,e,d,λ x y=>u x (by simpa using y),m,by rw[n];exact c⟩,g⟩
theorem NX{J:It}{g:TG}{T:TE}{D:V0}{ys:List V}{I:St}(K:St->Prop)(R:Nat->V->Hp->Prop)(mono:∀j v w n,R j v w->km w n->R j v n)(e0:K I)(U:H D=none)(hz:ys.length<=Ru)(j1:∀i w,ao H w->i<ys.length->J.go i w)(j2:∀i w x n,ao H w->J.yld i w x n->n=w/\ys[i]?=some x)(j3:∀w,ao H w->J.stop ys.length w)(he:∀i y X,ys[i]?=some y->K X->∀w (Y:St->VK),ao H w->(∀A v n,K A->ao w n->R i v n->Y A v n)->g y X w λ A N=>T A N (Y A))(hQ:∀vs H',ao H H'->H' D=some (.lst vs)->vs.length=ys.length->(∀j v,vs[j]?=some v->R j v H')->Q (.ref D) H'):jd J g ir T D Q I (ar H D (.lst [])):=by
 refine⟨λ i m C H'=>m=ys.length-i/\i<=ys.length/\K C/\ao H H'/\∃vs,H' D=some (.lst vs)/\vs.length=i/\∀j v,vs[j]?=some v->R j v H',⟨ys.length,by simp,dj _,e0,dR U _,[],bu,rfl,λ j v h=>by simp at h⟩,?_⟩;rintro i m C H' ⟨rfl,hi,hS,E,vs,Z,hl,hr⟩;by_cases L:i<ys.length
 ·refine .inr ⟨j1 i H' E L,λ M n=>K M/\ao H n/\∃vs,n D=some (.lst vs)/\vs.length=i+1/\∀j v,vs[j]?=some v->R j v n,λ M n ⟨a,b,c⟩=>⟨ys.length-(i+1),qR,rfl,L,a,b,c⟩,λ x n hx=>?_⟩;obtain⟨e1,e2⟩:=j2 i H' x n E hx;subst e1;unfold ir;simp only[if_true];refine he i x C e2 hS n _ E λ A v N O P hR=>?_;have h3:=P _ _ Z;have sn:km N (ar N D (.lst (vs++[v]))):=λ b o ho B=>by
   rw[aU (λ z=>by rw[z,h3]at B;cases B;exact ho _ rfl)];exact B
  refine⟨vs,h3,qR,O,λ b o B=>?_,_,bu,by rw[bX,hl];rfl,λ j u G=>?_⟩
  ·rw[aU (bY B U)];exact P _ _ (E _ _ B)
  ·by_cases S:j<vs.length
   ·rw[uw S]at G;exact mono j u _ _ (mono j u _ _ (hr j u G) λ b o ω B=>P b o B) sn
   ·rw[ux qR]at G;have ej:j-vs.length=0:=by
     have:=(gm.mp G).1;simp at this;lia
    rw[ej]at G;cases G;have:j=i:=by lia
    subst this;exact mono _ _ _ _ hR sn
 ·have e:i=ys.length:=by lia
  subst e;exact .inl ⟨j3 _ E,hQ vs H' E Z hl hr⟩
theorem Hu{g:TG}{w:TE}{D:V0}{ys:List V}{n:St}(o:St->Prop)(R:Nat->V->Hp->Prop)(mono:∀j v c m,R j v c->km c m->R j v m)(B:o n)(C:H D=none)(hz:ys.length<=Ru)(u:∀c,ao H c->ay K c a ys)(E:∀i y z,ys[i]?=some y->o z->∀c (A:St->VK),ao H c->(∀e v m,o e->ao c m->R i v m->A e v m)->g y z c λ e G=>w e G (A e))(I:∀vs H',ao H H'->H' D=some (.lst vs)->vs.length=ys.length->(∀j v,vs[j]?=some v->R j v H')->Q (.ref D) H'):jd (kK K a) g ir w D Q n (ar H D (.lst [])):=
 NX o R mono B C hz (λ i c s h=>⟨ys,ys[i],u c s,dc h⟩) (λ i c x m s h=>⟨h.1,h.2 ys (u c s)⟩) (λ c s=>⟨ys,u c s,aQ _⟩) E I
end L2
end
section
namespace PySem.XO
open PySem
section
variable{prog:Program}{w:V1}{A:N1}{E:Y1->Z1->Prop}{h:M1}{g:Array UB}{d:Drawn}{t:Nat}{os:Sw}
variable{nm q:U1}{C N:V0}{bs bm bmB:List Y1}{hdct:Bool}{sn:List U1}{sub:List Y1}{ab:Bool}{col:Option Bool}{dd:Option V0}{k0 k1 k2 k3 k5:Option Y1}{B Bn newId nid initId uG:String}{bmN:List Y1}
def fk(h:M1)(C:V0)(rest:List Y1):M1:=
 (h.push {cls:=.type "tuple",data:=.seq rest.toArray}).push {cls:=.ref C,data:=.fields #[.ref h.objs.size,.none,.none,.none,.bool false,.none]}
theorem vr{rest:List Y1}{b:V0}{o:Obj}(e:h.get? b=some o):(fk h C rest).get? b=some o:=Rp _ (Rp _ e)
theorem CA{rest:List Y1}:(fk h C rest).get? (h.objs.size+1)=some {cls:=.ref C,data:=.fields #[.ref h.objs.size,.none,.none,.none,.bool false,.none]}:=by
 unfold fk
 heap_get
theorem Hy(Fn:UA Bn newId uG bmN)(hBn:bmB.contains (.type Bn)=true)(F:UA B nid initId bmB)(T:OwnTail h bmB bm){mN:U1->Option Y1}{rest:List Y1}{f:V0}{ofn:Obj}{Q:Fin->Z1->Prop}(hC:h.get? C=some (Tc nm q C N bs bm hdct sn sub ab col dd k0 k1 k2 k3 k5 newId))(hn:h.Ns N mN)(hi:mN "__init__"=some (.ref f))(hf:h.get? f=some ofn)(hfc:ofn.cls=.type "function")(hq:Tq (RD prog w) A (.call (.ref f) ⟨.ref (h.objs.size+1)::rest,[]⟩) (λ r s'=>match r with| .ok (.ret v)=>v=.none/\Q (.done (.ret (.ref (h.objs.size+1)))) s'| .ok _=>False| .error x=>E x s') ⟨fk h C rest,g,d,t,os⟩)(hrest:rest.length<=Ru):Rz (RD prog w) A (Builtin.«type.__call__» ⟨.ref C::rest,[]⟩) Q E ⟨h,g,d,t,os⟩:=by
 repeat (first|with_reducible refine wpAny_madeBy_exc hC ?_|with_reducible refine Sh hC ?_|wp_step)
 refine codeAny_call_builtin_code (Code.quiet_builtin _ Fn.quiet) (wpAny_check_new_subU Fn hBn T hC (codeAny_exc_new_subU Fn hBn F T hC ?_ hrest));have hC1:=vr (C:=C) (rest:=rest) hC;have hn1:(fk h C rest).Ns N mN:=hn.keeps λ b o e=>vr e;have self:=CA (h:=h) (C:=C) (rest:=rest);have hsub:(RA C::bm).contains (.ref C)=true:=by simp
 have T1:OwnTail (fk h C rest) bmB bm:=T.keeps λ b o e=>vr e;change Rz _ _ _ _ _ ⟨fk h C rest,g,d,t,os⟩;unfold isInstance;repeat (first|with_reducible refine Sh self ?_|(with_reducible refine Th hC1 ?_;rw[hsub])|wp_step)
 show Rz _ _ (typeLookup (.ref C) _) _ _ _;refine wpAny_typeLookup_tail hC1 hn1 T1 F.mroIs F.init.lookup ?_;rw[hi];refine R9 (Ro (wpAny_bindSpecial_def (vr hf) hfc ?_));refine Ro (Ts (SN hq λ r s' hr=>?_));cases r with
 |error x=>exact hr
 |ok fl=>
  cases fl with
  |ret v=>
   obtain⟨rfl,hr⟩:=hr
   wp_walk
   exact hr
  |next=>exact hr.elim
  |brk=>exact hr.elim
  |cont=>exact hr.elim
theorem MV(Fn:UA Bn newId uG bmN)(i:bmB.contains (.type Bn)=true)(F:UA B nid initId bmB)(T:OwnTail h bmB bm){m:U1->Option Y1}{rest:List Y1}{f:V0}{c:Obj}{Q:Y1->Z1->Prop}(e:h.get? C=some (Tc nm q C N bs bm hdct sn sub ab col dd k0 k1 k2 k3 k5 newId))(o:h.Ns N m)(hi:m "__init__"=some (.ref f))(u:h.get? f=some c)(j:c.cls=.type "function")(y:Tq (RD prog w) (A.under (.builtin "type.__call__" ⟨.ref C::rest,[]⟩)) (.call (.ref f) ⟨.ref (h.objs.size+1)::rest,[]⟩) (λ r n=>match r with| .ok (.ret v)=>v=.none/\Q (.ref (h.objs.size+1)) n| .ok _=>False| .error x=>E x n) ⟨fk h C rest,g,d,t,os⟩)(a:rest.length<=Ru):Rz (RD prog w) A (call (.ref C) rest) Q E ⟨h,g,d,t,os⟩:=by
 have look:=tc_lookup;have bnd:=tc_bind (.ref C);have z:(⟨h,g,d,t,os⟩:Z1).TypeIs (.ref C) "type":=⟨_,e,rfl⟩;refine Ts (codeAny_of_tree ?_);change Rz _ _ (callAny (.ref C) _) _ _ _;repeat (any_goals (first|with_reducible refine Sh e ?_|assumption|wp_step))
 refine⟨rfl,codeAny_call_builtin_at (Code.quiet_builtin _ qP) entry_typeCall (wpAny_check_type_call_sub e ?_)⟩;exact Hy Fn i F T e o hi u j y a
end
section
variable{M:Model}{A:N1}{E:Y1->Z1->Prop}{env:Env}{s:Z1}
variable{nm q:U1}{C N:V0}{bs bm:List Y1}{hdct:Bool}{sn:List U1}{sub:List Y1}{ab:Bool}{col:Option Bool}{dd:Option V0}{k0 k1 k2 k3 k5:Option Y1}{newId:String}
theorem Cz{x:Sem Y1}{Q:Flow->Z1->Prop}(a:bm.contains (.type "BaseException")=true)(D:A.handled=none)(h:Rz M A x (λ v c=>∃e j vs m,v=.ref e/\c.heap.get? C=some (Tc nm q C N bs bm hdct sn sub ab col dd k0 k1 k2 k3 k5 newId)/\c.heap.get? e=some {cls:=.ref C,dict:=j,data:=.fields vs,slots:=m}/\vs[1]?=some .none/\E (.ref e) c) E s):Rz M A (raiseStmt env (some x) none) Q E s:=by
 have n:(RA C::bm).contains (.type "BaseException")=true:=by rw[uq,a,mQ]
 unfold raiseStmt;refine Ro (R7 h (λ v c G=>?_) λ ω ω z=>z);obtain⟨e,j,vs,m,rfl,H,I,o,J⟩:=G;obtain⟨y,g,d,K,os⟩:=c;have i:y.get? C=some (Tc nm q C N bs bm hdct sn sub ab col dd k0 k1 k2 k3 k5 newId):=H;have u:y.get? e=some {cls:=.ref C,dict:=j,data:=.fields vs,slots:=m}:=I;repeat (first|with_reducible refine Sh u ?_|with_reducible refine Sh i ?_|(with_reducible refine Th i ?_;rw[n])|wp_step)
 rw[o];refine Rv (wpAny_ite ?_);rw[UK qQ];exact Rv (wpAny_raiseNew_none D J)
end
def Tb(base h:M1)(e:V0)(vs:Array Y1)(fl:Y1):Prop:=
 ∃T a ts,vs[1]?=some (.ref T)/\base.get? T=none/\T≠e/\h.get? T=some a/\a.data=.fields ts/\ts[3]?=some fl
end PySem.XO
end
section
namespace PySem.W
open PySem PySem.Calls PyProof.Rows Builtin Builtin.ObjectAttr
section
variable{prog:Program}{w:V1}{A:N1}{E:Y1->Z1->Prop}{s:Z1}{K:Frag}{x C:V0}{ox:Obj}{od:Option Obj}{name:U1}{expr:Bool}{Q:Y1->Z1->Prop}
theorem xget_value{v:Y1}(X:K.In s.heap)(I:InstAt s.heap x ox C od)(a:findIn K (.ref C) "__getattribute__"=some (some (.builtin "BaseException.__getattribute__")))(c:findIn K (.ref C) "__getattr__"=some none)(hB:mroIn K C (.type "BaseException")=some true)(o:findObj K C od name=some (.value v))(u:handedIn v=true)(h:Q v {s with toks:=s.toks+1}):Rz (RD prog w) A (getAttr (.ref x) name expr) Q E s:=by
 obtain⟨e,g,d,t,y⟩:=s;have i:=I.type (M:=RD prog w);have z:=looks_findIn (M:=RD prog w) X a;have B:=looks_find (M:=RD prog w) X I o;have D:Looks (RD prog w) e (hookBefore (.ref C)) none:=looks_hook (mc:=.ref C) X (by have q:onTheHeap (RA C)=true:=rfl;rw[UL q];exact c);have bnd:=F.excAttr_ValueError.ga.bind (.ref x);unfold getAttr getAttrBy;refine Ro (wpAny_mkText (R9 (Ro (i.at (Ro (z.at ?_))))));have j:(onTheHeap (RA C)&&Uj "BaseException.__getattribute__"==Uj "object.__getattribute__")=false:=by
  rw[show(Uj "BaseException.__getattribute__"==Uj "object.__getattribute__")=false by decide+kernel];rfl
 dsimp only;rw[UK (by rw[j];exact dO)];unfold getAttrByItsOwn;refine Ro (D.at (Ro (wpAny_attempt (R9 ?_))));unfold callGetattribute;rw[UK (by cases expr<;>decide)];unfold boundAndCalled;refine Ro (wpAny_of_eq bnd ?_);have G:Looks (RD prog w) e (isInstance (.ref x) (.type "BaseException")) true:=i.andThen (looks_mroIn X hB);have m:builtinKind "BaseException.__getattribute__"=some .slot:=by decide+kernel
 have n:splitId "BaseException.__getattribute__"=some ("BaseException","__getattribute__"):=by decide+kernel
 refine Ts ?_;refine T3 F.excAttr_ValueError.ga.plain F.entry_bexc_ga ?_;have H:=F.args_bexc_ga (.ref x) (.str name t);refine @check_slot (RD prog w) _ _ ⟨e,g,d,t+1,y⟩ "BaseException.__getattribute__" "BaseException" "__getattribute__" (.ref x) [.str name t] [] _ m n G H ?_;refine Ro (Rv (Ro (Rv (Ro (i.at (Ro (B.at (Rv ?_))))))));show Rz _ _ (handedOut v) _ _ _;rw[handedOut_of u];exact Rv h
end
def qk:List Y1->Bool
 |[.type a,.type b,.type c,.type d]=>a=="ValueError"&&b=="Exception"&&c=="BaseException"&&d=="object"
 | .ref _::r=>qk r
 |_=>false
theorem Dt(self:Y1):∀{l:List Y1},qk l=true->refuseLoop self "__setattr__" l=pure ()
 |[.type a,.type b,.type c,.type d],e=>by
  simp only[qk,fV,beq_iff_eq]at e;obtain⟨⟨⟨rfl,rfl⟩,rfl⟩,rfl⟩:=e;exact PySem.F.store_ValueError.passes self
 | .ref c::r,e=>by rw[refuseLoop_ref];exact Dt self (by cases r<;>first|exact e|cases e)
theorem CG:∀{l:List Y1},qk l=true->l.contains (.type "object")=true
 |[.type a,.type b,.type c,.type d],e=>by
  simp only[qk,fV,beq_iff_eq]at e;obtain⟨⟨⟨rfl,rfl⟩,rfl⟩,rfl⟩:=e;simp
 | .ref c::r,e=>by rw[uq,CG (l:=r) (by cases r<;>first|exact e|cases e),mQ]
def valueOver(K:Frag)(C:V0):Bool:=(clsIn K C).any λ a=>qk a.mro
section
variable{prog:Program}{w:V1}{A:N1}{E:Y1->Z1->Prop}{R:Result->Z1->Prop}{s:Z1}{K:Frag}{x C:V0}{ox:Obj}{od:Option Obj}
theorem Of{name:U1}{tk:Tok}{v:Y1}(X:K.In s.heap)(I:InstAt s.heap x ox C od)(o:valueOver K C=true)(u:takerIn K C name=some none)(h:∀b,Rz (RD prog w) A.in1 (storeInOwnDict (.ref x) (.ref C) (.str name tk) name v b) (λ fin i=>match fin with| .done f=>R (.ok f) i| .again c'=>c'.quiet=true/\Tq (RD prog w) A c' R i) (λ e i=>R (.error e) i) s):Tq (RD prog w) A (.call (.builtin "object.__setattr__") ⟨[.ref x,.str name tk,v],[]⟩) R s:=by
 have g:=PySem.F.store_object;obtain⟨m,n,j⟩:=any_some o;have y:m.mro.isEmpty=false:=by
  cases q:m.mro with
  |nil=>rw[q]at j;cases j
  |cons _ _=>rfl
 have sub:Looks (RD prog w) s.heap (isInstance (.ref x) (.type "object")) true:=I.type.andThen (looks_mroIn X (by unfold mroIn;rw[n,yz,UK (by rw[y];decide),CG j]));refine T3 g.slot.plain g.entry (@check_slot (RD prog w) _ _ s "object.__setattr__" "object" "__setattr__" (.ref x) [.str name tk,v] [] _ g.kind g.split sub (g.args (.ref x) (.str name tk) v) ?_);obtain⟨c,z,hr⟩:=Option.bind_eq_some_iff.mp u;have B:Looks (RD prog w) s.heap (mroOf (.ref C)) m.mro:=(looks_clsIn X n).andThen .now;have taker:Looks (RD prog w) s.heap (storeTaker? c) none:=by
  cases c with
  |none=>exact .now
  |some a=>
   obtain⟨b,D,q⟩:=iJ.mp hr;refine(looks_takesIn X D).andThen ?_;cases b with
   |true=>cases q
   |false=>exact .now
 rw[osa_eq,refuse_eq];refine Ro (Ro (I.type.here (Ro (B.here ?_))));rw[Dt _ j];exact Rv (Ro (I.type.here (Ro ((looks_findIn X z).here (Ro (taker.here (h _)))))))
theorem xset_new{name:U1}{v:Y1}{Q:Unit->Z1->Prop}{vs:Array Y1}{j:Array (Option Y1)}(X:K.In s.heap)(m:s.heap.get? x=some {cls:=.ref C,dict:=none,data:=.fields vs,slots:=j})(J:findIn K (.ref C) "__setattr__"=some (some (.builtin "object.__setattr__")))(L:valueOver K C=true)(M:takerIn K C name=some none)(N:hasDictIn K C=true)(h:∀h',h'.Ns1 s.heap.objs.size (λ y=>if y=name then some v else none)->h'.get? x=some {cls:=.ref C,dict:=some s.heap.objs.size,data:=.fields vs,slots:=j}->(∀b o,b≠x->s.heap.get? b=some o->h'.get? b=some o)->Q () {s with heap:=h',toks:=s.toks+2}):Rz (RD prog w) A (setAttr (.ref x) name v) Q E s:=by
 have I:InstAt s.heap x {cls:=.ref C,dict:=none,data:=.fields vs,slots:=j} C none:=⟨m,rfl,rfl,True.intro⟩;refine set_plain X I J (Of (s:={s with toks:=s.toks+1}) X I L M λ b=>?_);obtain⟨Y,O,n⟩:=any_some N;have c:x≠s.heap.objs.size:=dY (Rq m);have g:(s.heap.push {cls:=.type "dict",data:=.dict #[]}).get? x=some {cls:=.ref C,dict:=none,data:=.fields vs,slots:=j}:=Rp _ m;refine Ro (Rv (Ro (Ro (wpAny_loadPart m (Ro (Looks.here (s:={s with toks:=s.toks+1}) (looks_clsIn X O) ?_))))));rw[n];change Rz (RD prog w) A.in1 (alloc {cls:=.type "dict",data:=.dict #[]}>>=λ d=>update x (λ o=>{o with dict:=some d})>>=λ ω=>dictMade (.ref C) x d) _ _ _;refine Ro (wpAny_alloc (Ro (wpAny_update g ?_)));have u:((s.heap.push {cls:=.type "dict",data:=.dict #[]}).update x λ o=>{o with dict:=some s.heap.objs.size}).get? s.heap.objs.size=some {cls:=.type "dict",data:=.dict #[]}:=
  (Heap.get?_update_ne _ _ _ _ c.symm).trans (Heap.get?_push_at rfl rfl)
 have z:((s.heap.push {cls:=.type "dict",data:=.dict #[]}).update x λ o=>{o with dict:=some s.heap.objs.size}).Ns s.heap.objs.size (λ ω=>none):=
  ⟨_,#[],_,u,rfl,λ e P=>UM P (by simp),λ ω=>rfl⟩
 refine Rv (a:=some s.heap.objs.size) ?_;show Rz _ _ (storeInDict s.heap.objs.size (.str name _) name v) _ _ _;unfold storeInDict newKeyGuard;refine Ro (Rv (Ro (wpAny_nsSet1 (Heap.Ns1.of_empty z) λ h' i H=>?_)));obtain⟨oD,S,T,B,D,G⟩:=i.count (Within.cons name v Within.nil);refine Ro (wpAny_lookBehind B (by rw[D];exact pastItsLine_dict (bR G (by rw[cj,iG,RB];lia))) ?_);refine Rv (h h' i ?_ λ b o U e=>?_)
 ·exact(H.2 x c).trans (RY _ g rfl)
 ·exact(H.2 b (dY (Rq e))).trans ((Heap.get?_update_ne _ _ _ _ U).trans (Rp _ e))
end
end PySem.W
end
section
namespace PySem.XF
open PySem
structure kF(fs ex:List V0)(a:V0)(h h':M1):Prop where
 keep:∀b o,h.get? b=some o->b∉fs->b≠a->b∉ex->h'.get? b=some o
 slot:∀b o,h.get? b=some o->b∈fs->b≠a->b∉ex->∃sl,h'.get? b=some {o with slots:=sl}
def gP(h:M1)(vs:Array Y1)(T:V0)(fl:Y1):Prop:=vs[1]?=some (.ref T)/\∃a ts,h.get? T=some a/\a.data=.fields ts/\ts[3]?=some fl
section
variable{M:Model}{A:N1}{E:Y1->Z1->Prop}{s:Z1}
theorem Ff{base:M1}{env:Env}{outer:List Env}{L e:V0}{cls c:Y1}{v:Option V0}{vs:Array Y1}{j:Array (Option Y1)}{w:Bool}{Q:Unit->Z1->Prop}(x:A.frames=some (env::outer))(hl:s.heap.FunFrames base (env::outer))(K:env.frame=some L)(D:s.heap.get? e=some {cls:=cls,dict:=v,data:=.fields vs,slots:=j})(hsz:1<vs.size)(N:∀h' m T,kF ((env::outer).filterMap (·.frame)) [] e s.heap h'->s.heap.objs.size<=T->h'.get? e=some {cls:=cls,dict:=v,data:=.fields m,slots:=j}->gP h' m T (Se L)->Q () {s with heap:=h'}):Rz M A (do let a<-frameOf env;let pl<-entryPlaceOf L w;let b<-EntryCells.newEntry c a .none (Se L) .none pl;setField (.ref e) 1 b) Q E s:=by
 have y:e∉(env::outer).filterMap (·.frame):=λ O=>by
  obtain⟨ω,o,G,z⟩:=hl.mem O;rw[D]at G;cases G;exact z vs rfl
 refine Ro (wpAny_frameOf_fun x hl K λ n g=>Ro (wpAny_entryPlaceOf λ pl u=>?_));unfold EntryCells.newEntry newFields;refine Ro (Sg ?_ (u.sizeOk5 _ _ _ _ _));have H:n.get? e=some {cls:=cls,dict:=v,data:=.fields vs,slots:=j}:=(g.2.1 e y).trans D;generalize htr:({cls:=.type "traceback",dict:=none,data:=.fields ([c,.ref L,.none,Se L,.none]++(if pl.isEmpty then e_ 6 RW else pl)).toArray}:Obj)=i;have I:(n.push i).get? e=_:=Rp i H;have B:n.objs.size≠e:=lL (Rq H);refine Ub I rfl hsz (N _ (vs.setIfInBounds 1 (.ref n.objs.size)) n.objs.size ⟨λ b o e J C ω=>?_,λ b o e J C ω=>?_⟩ (pS g.1.symm) (RY _ I rfl) ⟨by simp[hsz],i,([c,.ref L,.none,Se L,.none]++(if pl.isEmpty then e_ 6 RW else pl)).toArray,?_,by rw[<-htr],?_⟩)
 ·rw[RF _ _ (Ne.symm C)];exact Rp _ ((g.2.1 b J).trans e)
 ·obtain⟨j,q⟩:=g.2.2 b o e;refine⟨j,?_⟩;rw[RF _ _ (Ne.symm C)];exact Rp _ q
 ·rw[RF _ _ (Ne.symm B)];refine RC _ ?_;rw[<-htr];rfl
 ·first|(simp;done)|(rcases u with rfl|⟨_,_,_,_,_,_,_,rfl⟩<;>simp)
theorem N5{base:M1}{env:Env}{outer:List Env}{L e:V0}{cls:Y1}{g:Option V0}{vs:Array Y1}{i:Array (Option Y1)}{Q:Unit->Z1->Prop}(c:A.frames=some (env::outer))(hl:s.heap.FunFrames base (env::outer))(j:env.frame=some L)(m:s.heap.get? e=some {cls:=cls,dict:=g,data:=.fields vs,slots:=i})(n:vs[1]?=some .none)(o:∀h' a T,kF ((env::outer).filterMap (·.frame)) [] e s.heap h'->s.heap.objs.size<=T->h'.get? e=some {cls:=cls,dict:=g,data:=.fields a,slots:=i}->gP h' a T (Se L)->Q () {s with heap:=h'}):Rz M A (TQ (.ref e) env) Q E s:=by
 unfold TQ;simp only[j];refine Ro (Sz m rfl n ?_);rw[UK qQ];exact Ff c hl j m (rP.mp n).1 o
theorem NJ{base:M1}{env:Env}{outer:List Env}{L e T0:V0}{cls:Y1}{C:Option V0}{vs:Array Y1}{D:Array (Option Y1)}{Q:Unit->Z1->Prop}(n:A.frames=some (env::outer))(hl:s.heap.FunFrames base (env::outer))(G:env.frame=some L)(H:s.heap.get? e=some {cls:=cls,dict:=C,data:=.fields vs,slots:=D})(u:gP s.heap vs T0 .none)(v:T0≠e)(N:∀h' c T,kF ((env::outer).filterMap (·.frame)) [T0] e s.heap h'->s.heap.objs.size<=T->h'.get? e=some {cls:=cls,dict:=C,data:=.fields c,slots:=D}->gP h' c T (Se L)->Q () {s with heap:=h'}):Rz M A (TQ (.ref e) env) Q E s:=by
 obtain⟨I,U,ts,w,g,J⟩:=u;unfold TQ;simp only[G];refine Ro (Sz H rfl I ?_);rw[UL (show(RA T0 !=RW)=true from by simp)];refine Ro (Sz w g J ?_);rw[UK (show ¬((RW==Se L)=true)from by simp[Se])];refine Ro (Ub w g (rP.mp J).1 ?_);have a:∀b,b≠T0->(s.heap.update T0 (Tj (·.setIfInBounds 3 RW))).get? b=s.heap.get? b:=λ b i=>RF _ _ (Ne.symm i);have m:∀b o,s.heap.get? b=some o->(∀O,o.data≠.fields O)->b≠T0:=λ b o i j z=>by
  rw[z,w]at i;cases i;exact j ts g
 refine Ff (s:={ s with heap:=s.heap.update T0 (Tj (·.setIfInBounds 3 RW)) }) n (hl.of_keeps λ b o i j=>⟨o,(a b (m b o i j)).trans i,rfl⟩) G
  ((a e (Ne.symm v)).trans H) (rP.mp I).1 λ h' c T K P R S=>N h' c T ⟨λ b o e x y B=>?_,λ b o e x y B=>?_⟩ (bR (pS (by simp[Heap.update])) P) R S
 ·exact K.keep b o ((a b (by simpa using B)).trans e) x y (by simp)
 ·exact K.slot b o ((a b (by simpa using B)).trans e) x y (by simp)
theorem Nw{env:Env}{L e T:V0}{cls:Y1}{g:Option V0}{vs:Array Y1}{i:Array (Option Y1)}{Q:Unit->Z1->Prop}(j:env.frame=some L)(m:s.heap.get? e=some {cls:=cls,dict:=g,data:=.fields vs,slots:=i})(a:gP s.heap vs T (Se L))(n:Q () s):Rz M A (TQ (.ref e) env) Q E s:=by
 obtain⟨o,w,ts,u,c,v⟩:=a;unfold TQ;simp only[j];refine Ro (Sz m rfl o ?_);rw[UL (show(RA T !=RW)=true from by simp)];refine Ro (Sz u c v ?_);rw[UL (show(Se L==Se L)=true from by simp)];exact Rv n
theorem Mv{e T:V0}{cls y:Y1}{m:Option V0}{vs:Array Y1}{u:Array (Option Y1)}{fr:Option V0}{Q:Unit->Z1->Prop}(v:s.heap.get? e=some {cls:=cls,dict:=m,data:=.fields vs,slots:=u})(i:gP s.heap vs T y)(j:T≠e)(z:∀h',kF [] [T] e s.heap h'->h'.get? e=some {cls:=cls,dict:=m,data:=.fields vs,slots:=u}->gP h' vs T (fr.elim .none λ f=>Se f)->Q () {s with heap:=h'}):Rz M A (setFlight (.ref e) fr) Q E s:=by
 obtain⟨w,G,ts,x,c,B⟩:=i;have g:=(rP.mp B).1;have a:∀b,b≠T->(s.heap.update T (Tj (·.setIfInBounds 3 (fr.elim RW λ f=>Se f)))).get? b=s.heap.get? b:=λ b C=>RF _ _ (Ne.symm C);unfold setFlight;refine Ro (Sz v rfl w ?_);rw[UL (show(RA T !=RW)=true from by simp)];refine Ub x c g (z _ ⟨λ b o e ω ω D=>(a b (by simpa using D)).trans e,λ b o ω n ω ω=>UM n (by simp)⟩ ((a e (Ne.symm j)).trans v) ⟨w,_,_,RY _ x (Obj.isFreed_of_fields (Obj.data_mapFields c _)),Obj.data_mapFields c _,by simp[g]⟩)
end
end PySem.XF
end
section
namespace L2
open PySem PySem.Spec PyProof.Rows PySem.XF
def dG(a C:V0)(ed:Option V0):HO:=.ext λ h=>∃vs c,h.get? a=some {cls:=.ref C,dict:=ed,data:=.fields vs,slots:=c}
variable{ed:Option V0}{C:V0}{H:Hp}
theorem FX{P:Program}{w:V1}{h:M1}{a:V0}{vs:Array Y1}{c:Array (Option Y1)}(e:h.get? a=some {cls:=.ref C,dict:=ed,data:=.fields vs,slots:=c}):bh P w H h a (dG a C ed):=
 ⟨⟨vs,c,e⟩,⟨_,e⟩,λ g i ⟨vs,c,q⟩ k=>⟨vs,c,k _ q⟩⟩
structure pC(X:Cx)(af:List (V0×Obj))(H:Hp)(a T:V0):Prop where
 new:X.s₀.heap.objs.size<=T
 pin:∀p∈X.pn++af,p.1≠T
 free:H T=none
 ne:T≠a
def oO(X:Cx)(af:List (V0×Obj))(H:Hp)(h:M1)(a C:V0)(ed:Option V0)(fl:Option Y1):Prop:=
 H a=some (dG a C ed)/\∃vs c,h.get? a=some {cls:=.ref C,dict:=ed,data:=.fields vs,slots:=c}/\match fl with
  |none=>vs[1]?=some .none
  |some f=>∃T,gP h vs T f/\pC X af H a T
section
variable{X:Cx}{af:List (V0×Obj)}{σ:St}{H:Hp}{s:Z1}{a C:V0}{ed:Option V0}{E:Y1->Z1->Prop}
theorem Inv.lone(I:Inv X af σ H s){T:V0}{j:Obj}{ts:Array Y1}(n:pC X af H a T)(u:s.heap.get? T=some j)(hd:j.data=.fields ts):(T∈X.ex\/X.s₀.heap.objs.size<=T)/\T≠X.env.locals/\(∀x c,X.env.cells.lookup x=some c->c≠T)/\∀p∈X.pn++af,p.1≠T:=by
 refine⟨.inr n.new,λ z=>?_,λ x c e z=>?_,n.pin⟩
 ·obtain⟨m,⟨o,y,A,i,g,ω⟩,ω⟩:=I.loc;rw[<-z,u]at i;cases i;rw[hd]at g;cases g
 ·obtain⟨v,o,i,g⟩:=I.cell x c e;rw[z,u]at i;cases i;rw[hd]at g;cases g
theorem Inv.wake{h':M1}{ex:List V0}{vs:Array Y1}{L:Array (Option Y1)}(I:Inv X af σ H s)(y:H a=some (dG a C ed))(j:kF (fQ X.stack) ex a s.heap h')(M:h'.get? a=some {cls:=.ref C,dict:=ed,data:=.fields vs,slots:=L})(m:∀b∈ex,H b=none/\(b∈X.ex\/X.s₀.heap.objs.size<=b)/\b≠X.env.locals/\(∀x c,X.env.cells.lookup x=some c->c≠b)/\∀p∈X.pn++af,p.1≠b):Inv X af σ H {s with heap:=h'}:=by
 have N:∀b,H b=none->b≠a:=λ b n z=>by rw[z,y]at n;cases n
 have A:∀b o,H b=some o->b∉fQ X.stack:=λ b o q z=>by rw[I.stkFree b z]at q;cases q
 have B:∀b o,H b=some o->b∉ex:=λ b o q z=>by rw[(m b z).1]at q;cases q
 have there:∀b o,s.heap.get? b=some o->b∉ex->∃o',h'.get? b=some o':=λ b o q z=>by
  by_cases i:b=a
  ·rw[i];exact⟨_,M⟩
  ·by_cases O:b∈fQ X.stack
   ·obtain⟨L,r⟩:=j.slot b o q O i z;exact⟨_,r⟩
   ·exact⟨_,j.keep b o q O i z⟩
 refine I.call (g':=s.gens) (d':=s.drawn) (t':=s.toks) (ch:=ex) ⟨λ b o q n D G=>j.keep b o q D (N b n) G,λ b o q n D G=>j.slot b o q D (N b n) G,λ ω ω ω n ω=>n,there,λ ω ω q=>q,λ ω ω ω q=>q,λ ω ps q=>⟨#[],by simpa using q⟩⟩ (λ b u q=>?_) I.bare λ b Q=>(m b Q).2;by_cases i:b=a
 ·subst i;rw[y]at q;cases q;exact FX M
 ·refine(I.hok b u q).stay (λ c v g r=>?_) (λ ω r=>r) λ ω ω r=>r;have J:c≠a:=by
   rcases g with rfl|g
   ·exact i
   ·intro z;rw[z,y]at g;cases g
  have e:∃o,H c=some o:=by
   rcases g with rfl|g
   ·exact⟨_,q⟩
   ·exact⟨_,g⟩
  obtain⟨o,e⟩:=e;exact j.keep c v r (A c o e) J (B c o e)
def GD(X:Cx)(af:List (V0×Obj))(H:Hp)(h:M1)(a C:V0)(ed:Option V0):Prop:=
 oO X af H h a C ed none\/oO X af H h a C ed (some .none)\/oO X af H h a C ed (some (Se X.env.locals))
theorem Gr(I:Inv X af σ H s)(e:H a=some (dG a C ed)){T:V0}(c:s.heap.objs.size<=T):pC X af H a T:=by
 refine⟨bR I.sz c,λ p g z=>?_,I.hok.fresh c,λ z=>?_⟩
 ·have:=Rq (I.pin p g).1;rw[z]at this;exact UM (dv this c) (fH _)
 ·have:=I.hok.lt e;rw[<-z]at this;exact UM (dv this c) (fH _)
theorem uR{A:N1}{Q:Unit->Z1->Prop}(I:Inv X af σ H s)(J:A.frames=X.A.frames)(y:X.stack=X.env::X.outer)(B:X.env.frame=some X.env.locals)(F:GD X af H s.heap a C ed)(h:∀D,Inv X af σ H D->oO X af H D.heap a C ed (some (Se X.env.locals))->Q () D):Rz (RD X.prog X.w) A (TQ (.ref a) X.env) Q E s:=by
 have m:A.frames=some (X.env::X.outer):=by rw[J,I.ok.frames,y]
 have hl:s.heap.FunFrames X.base (X.env::X.outer):=by have:=I.stack;rw[y]at this;exact this
 have n:(X.env::X.outer).filterMap (·.frame)=fQ X.stack:=by rw[y];rfl
 rcases F with⟨e,vs,o,j,L⟩|⟨e,vs,o,j,T,u,v⟩|⟨e,vs,o,j,T,u,v⟩
 ·refine N5 m hl B j L λ M g T x G c i=>h _ (I.wake e (by rw[n]at x;exact x) c λ b z=>UM z (by simp)) ⟨e,g,o,c,T,i,Gr I e G⟩
 ·refine NJ m hl B j u v.ne λ M g N x G c i=>h _ (I.wake e (by rw[n]at x;exact x) c λ b z=>?_) ⟨e,g,o,c,N,i,Gr I e G⟩;obtain rfl:b=T:=by simpa using z
  obtain⟨ω,S,ts,O,R,ω⟩:=u;exact⟨v.free,I.lone v O R⟩
 ·exact Nw B j u (h s I ⟨e,vs,o,j,T,u,v⟩)
theorem qm{A:N1}{fr:Option V0}{x:Y1}{Q:Unit->Z1->Prop}(I:Inv X af σ H s)(F:oO X af H s.heap a C ed (some x))(h:∀g,Inv X af σ H g->oO X af H g.heap a C ed (some (fr.elim .none λ f=>Se f))->Q () g):Rz (RD X.prog X.w) A (setFlight (.ref a) fr) Q E s:=by
 obtain⟨n,vs,y,B,T,u,e⟩:=F;refine Mv B u e.ne λ J v c i=>h _ (I.wake n ⟨λ b o q ω j m=>v.keep b o q (by simp) j m,λ b o q ω j m=>⟨o.slots,v.keep b o q (by simp) j m⟩⟩ c λ b z=>?_) ⟨n,vs,y,c,T,i,e⟩;obtain rfl:b=T:=by simpa using z
 obtain⟨ω,L,ts,D,G,ω⟩:=u;exact⟨e.free,I.lone e D G⟩
end
def bx(X:Cx)(E:St->XK)(e:Y1)(s:Z1):Prop:=∃a C ed σ H,e=.ref a/\Inv X [] σ H s/\GD X [] H s.heap a C ed/\E σ (.ref C) ed H
def f7(P:Program)(w:V1):ij:=λ outer H s E e c=>∃a C ed g,e=.ref a/\c.os=s.os/\T6 c.gens/\Un (fQ outer) [] H g s.heap c.heap/\dI P w g c.heap/\g a=some (dG a C ed)/\
 (∃vs i,c.heap.get? a=some {cls:=.ref C,dict:=ed,data:=.fields vs,slots:=i}/\∃T,gP c.heap vs T .none/\s.heap.objs.size<=T/\g T=none/\T≠a)/\E (.ref C) ed g
section
variable{X:Cx}{E:St->XK}
theorem nK(m:X.stack=X.env::X.outer)(c:X.env.frame=some X.env.locals):PassesOwn (RD X.prog X.w) X.A X.env (bx X E):=by
 rintro e s ⟨a,C,ed,σ,H,rfl,I,F,q⟩;refine uR I rfl m c F λ z n o=>?_;obtain⟨u,vs,v,g,T,i,x⟩:=o;refine Ro (Sz g rfl i.1 ?_);rw[UK (show ¬((RA T==RW)=true)from by simp)];refine qm n ⟨u,vs,v,g,T,i,x⟩ λ A y j=>?_;rw[c]at j;exact⟨a,C,ed,σ,H,rfl,y,.inr (.inr j),q⟩
theorem Cc{af:List (V0×Obj)}{σ:St}{s s':Z1}{e:Y1}{E':XK}(I:Inv X af σ H s)(c:f7 X.prog X.w X.stack H s E' e s')(h:∀cl ed H',E' cl ed H'->E σ cl ed H'):bx X E e s':=by
 obtain⟨a,C,ed,H',rfl,u,v,un,g,x,⟨vs,y,A,T,B,o,i,j⟩,q⟩:=c;have D:Inv X af σ H' s':=I.call' u un g v λ b z=>UM z (by simp);have G:Inv X [] σ H' s':=D.pins_of λ p m=>UM m (by simp);refine⟨a,C,ed,σ,H',rfl,G,.inr (.inl ⟨x,vs,y,A,T,B,bR I.sz o,λ p m z=>?_,i,j⟩),h _ _ _ q⟩;have n:p∈X.pn:=by simpa using m
 have:=Rq (I.pin p (lM _ n)).1;rw[z]at this;exact UM (dv this o) (fH _)
theorem bx.passes{E':XK}(h:∀σ cl ed H',E' cl ed H'->E σ cl ed H'):nu (f7 X.prog X.w) (X.wish (bx X E)) E':=λ af σ H s e g I c=>Cc I.unwish c λ ω ω ω q=>h _ _ _ _ q
end
section
variable{P:Program}{w:V1}{K:X0}{mg:U1->Option Y1}{base:M1}
theorem BC{N:List U1}{qual:U1}{scope:SR}{f:V0}{i:Y1}{A:N1}{outer:List Env}{s:Z1}{E:XK}{e:Y1}{s':Z1}(r:bx (d8 (f7 P w) P w K mg base N qual scope f i A outer s H E) (λ ω=>E) e s'):(d8 (f7 P w) P w K mg base N qual scope f i A outer s H E).xe e s':=by
 obtain⟨a,C,ed,σ,j,rfl,I,F,q⟩:=r;show Rz _ _ (leaving _ _) _ _ _;unfold leaving;refine Ro (uR I rfl rfl rfl F λ z m n=>qm m n λ B c o=>?_);obtain⟨u,vs,v,x,T,y,g⟩:=o;exact⟨a,C,ed,j,rfl,c.os,c.bare,c.base,c.hok,u,⟨vs,v,x,T,y,g.new,g.free,g.ne⟩,q⟩
theorem fD.okX{x qual:U1}{st:RH}{f:V0}{j:RN}{N ps:List U1}{k:Nat}{sp:Sp}(F:fD K x qual st f j)(S:bL N ps (bg st))(len:∀vs H Q E,sp vs H Q E->vs.length=ps.length)(c:∀(cdv:Y1)(A:N1)(outer:List Env)(s:Z1)(H:Hp)(vs:List V)(Q:VK)(E:XK),bw k (A.deeper (Tw qual (bg st) s.heap.objs.size f cdv))->sp vs H Q E->∃t,fy ((d8 (f7 P w) P w K mg base N qual (bg st) f cdv A outer s H E).wish (bx (d8 (f7 P w) P w K mg base N qual (bg st) f cdv A outer s H E) λ ω=>E)) (fh st) t/\t {nx:=λ ω H'=>Q .non H',rt:=Q} (jc N vs) H):bc P w K mg base (f7 P w) (k+1) f j ps sp:=by
 obtain⟨B,G,kV,m,J,L,cdv,M,n,rfl,o,g⟩:=F.ex;refine AD o g S len λ A outer s H vs Q E hr i=>?_;obtain⟨t,h,q⟩:=c cdv A outer s H vs Q E hr i;refine⟨t,λ af u σ v D I y=>R7 (h af u σ v D (I.wish _) y) (λ ω ω z=>z.unwish) λ e O z=>BC z,q⟩
end
open PySem.XO
abbrev yM:List Y1:=[.type "ValueError",.type "Exception",.type "BaseException",.type "object"]
def gY(K:X0)(C:V0)(ini:Option V0):Bool:=match K.lookup C with
 |some ⟨.type "type",_,.cls c,g⟩=>(match c.mro,g.toList with
  | .ref i::j,[_,_,_,_,some (.builtin n),_]=>i==C&&n=="ValueError.__new__"&&!c.hasDel&&W.tailIn K yM j&&W.nsOkIn K c.ns&&Tt K c.ns "__init__"==some (ini.map .ref)
  |_,_=>false)
 |_=>false
variable{K:X0}
theorem NV{h:M1}{N:V0}{mg:U1->Option Y1}{n:U1}{v:Y1}(X:K.In h)(G:h.Ns N mg)(e:Tt K N n=some (some v)):mg n=some v:=by
 obtain⟨o,es,u,g,hd,ω,i⟩:=G;unfold Tt at e;split at e
 ·rename_i c d j w x q;have:=X _ _ q;rw[g]at this;cases this;cases hd;split at e
  ·rename_i y m;cases e;rw[<-i];unfold nsFind findBy;rw[<-Array.find?_toList,m];rfl
  ·split at e<;>cases e
 ·cases e
theorem nE{h:M1}{g:Option V0}(X:K.In h)(q:gY K C g=true):∃nm m N bs bm hdct sn sub ab col dd k0 k1 k2 k3 k5 v,K.lookup C=some (Tc nm m C N bs bm hdct sn sub ab col dd k0 k1 k2 k3 k5 "ValueError.__new__")/\h.Ns N v/\v "__init__"=g.map .ref/\OwnTail h yM bm:=by
 unfold gY at q;split at q
 ·rename_i dd z w A;split at q
  ·rename_i L bm k0 k1 k2 k3 n k5 x y;simp only[fV,beq_iff_eq,Bool.not_eq_true']at q;obtain⟨⟨⟨⟨⟨rfl,rfl⟩,c⟩,D⟩,i⟩,o⟩:=q;obtain⟨nm,bs,I,j,m,hd,sn,sub,ab,col,J⟩:=z;dsimp only at x c i o;subst x c;have u:w=#[k0,k1,k2,k3,some (.builtin "ValueError.__new__"),k5]:=by
    obtain⟨l⟩:=w;simp only at y;rw[y]
   subst u;have G:h.Ns j (h.nsMap j):=.of_isNs (W.isNs_of_in X i);refine⟨nm,m,j,bs,bm,hd,sn,sub,ab,col,dd,k0,k1,k2,k3,k5,h.nsMap j,A,G,?_,W.tail_of_in X D⟩;cases g with
   |none=>exact W.ns_none_of X G o
   |some f=>exact NV X G o
  ·cases q
 ·cases q
theorem tG{h:M1}{bm:List Y1}(T:OwnTail h yM bm):bm.contains (.type "BaseException")=true:=T.hasType qQ
theorem LA{a:V0}{o:HO}(h:H a=some o):ar H a o=H:=by
 funext b;unfold ar;split
 ·rename_i e;rw[e,h]
 ·rfl
def dA(a C:V0)(ed:Option V0):HO:=.ext λ h=>∃vs c,h.get? a=some {cls:=.ref C,dict:=ed,data:=.fields vs,slots:=c}/\vs[1]?=some .none
theorem uZ{P:Program}{w:V1}{h:M1}{a:V0}{vs:Array Y1}{c:Array (Option Y1)}(e:h.get? a=some {cls:=.ref C,dict:=ed,data:=.fields vs,slots:=c})(n:vs[1]?=some .none):bh P w H h a (dA a C ed):=
 ⟨⟨vs,c,e,n⟩,⟨_,e⟩,λ g i ⟨vs,c,q,n⟩ k=>⟨vs,c,k _ q,n⟩⟩
section
variable{X:Cx}{af:List (V0×Obj)}{σ:St}{H:Hp}{s:Z1}{a C:V0}{ed:Option V0}{E:Y1->Z1->Prop}
theorem Inv.newExc(I:Inv X af σ H s)(h:H a=some (dA a C ed)):∃vs c,s.heap.get? a=some {cls:=.ref C,dict:=ed,data:=.fields vs,slots:=c}/\vs[1]?=some .none:=(I.hok a _ h).1
theorem Inv.anExc(I:Inv X af σ H s)(h:H a=some (dG a C ed)):∃vs c,s.heap.get? a=some {cls:=.ref C,dict:=ed,data:=.fields vs,slots:=c}:=(I.hok a _ h).1
theorem Inv.ready(I:Inv X af σ H s)(h:H a=some (dA a C ed)):Inv X af σ (ar H a (dG a C ed)) s/\oO X af (ar H a (dG a C ed)) s.heap a C ed none:=by
 obtain⟨vs,c,e,n⟩:=I.newExc h;refine⟨?_,bu,vs,c,e,n⟩;exact I.write (t':=s.toks) (h':=s.heap) (x:=a) (e:=a) (by rw[h];exact True.intro) (.inl rfl) (λ b u ω q=>q) ⟨_,e⟩ (FX e)
end
abbrev TJ:=U1->TE
def PJ(X:Cx)(es:List Expr)(t:TJ):Prop:=
 ∀(af:List (V0×Obj))(s:Z1)(σ:St)(H:Hp)(c:U1)(Q:VK),Inv X af σ H s->t c σ H Q->Rz (RD X.prog X.w) X.A (joinParts c (evalEach es X.env)) (EP X af σ Q) X.xe s
def Eg:TJ:=λ c ω H Q=>c.length<=Ru/\Q (.str c) H
def ES(te:TE)(tr:TJ):TJ:=λ c σ H Q=>te σ H λ x g=>∃z,x=.str z/\(c++z).length<=Ru/\tr (c++z) σ g Q
def ro(te:TE):TE:=λ σ H Q=>te σ H λ x c=>(∃i,x=.int i/\i.natAbs.log2<1920/\Q (.str (toString i)) c)\/(∃z:U1,x=.str z/\z.length<=Ru/\Q (.str z) c)
section
variable{X:Cx}{e v1 v2:Expr}{es:List Expr}{te:TE}{t:TJ}{pos:Pos}
theorem AS:PJ X [] Eg:=λ af s σ H c Q I h=>joinParts_nil ⟨.str c,H,I.tok _,⟨_,rfl⟩,h.2⟩ h.1
theorem oY(c:PE X e te)(hr:PJ X es t)(g:evalEach (e::es) X.env=RJ e X.env::evalEach es X.env:=by rfl):PJ X (e::es) (ES te t):=by
 intro af s σ H i Q I h;rw[g];refine joinParts_cons (aW (c af s σ H _ I h) λ u j hz_=>?_);obtain⟨x,m,n,r1,z,o,v,w⟩:=hz_;subst o;obtain⟨y,rfl⟩:=r1;exact⟨v,hr af j σ m _ Q n w⟩
theorem zc(h:PJ X (v1::v2::es) t)(c:evalEach (v1::v2::es) X.env=RJ v1 X.env::RJ v2 X.env::evalEach es X.env:=by rfl):PE X (.JoinedStr (v1::v2::es) pos) (t So):=by
 intro af s σ H Q I q;refine JoinedStr_many ?_;have:=h af s σ H So Q I q;rw[c]at this;exact this
theorem AH(m:PE X e te):PE X (.FormattedValue e (-1) none pos) (ro te):=by
 intro af s σ H Q I h;refine PyProof.Rows.FormattedValue_plain (aW (m af s σ H _ I h) λ u A hz_=>?_);obtain⟨x,g,j,r1,n⟩:=hz_;rcases n with⟨i,c,o,q⟩|⟨z,c,v,q⟩
 ·subst c;obtain⟨w,rfl⟩:=r1;exact formatField_int_small o ⟨.str _,g,j.tok _,⟨_,rfl⟩,q⟩
 ·subst c;obtain⟨w,rfl⟩:=r1;exact formatField_str (λ D y=>⟨.str _,g,j.tok _,⟨_,rfl⟩,q⟩) v
end
structure tO(K:X0)(B:V0):Prop where
 ga:Uc K (.ref B) "__getattribute__"=some (some (.builtin "type.__getattribute__"))
 rd:W.readsIn K B (.type "type")=true
 ini:W.findCls K (.ref B) (.type "type") "__init__"=some (.val (.builtin "ValueError.__init__"))
def JX(K:X0)(t:TA):TE:=λ σ H Q=>t σ H λ vs g=>∃x C c ed i,vs=.ref x::i/\g x=some (dA x C ed)/\gY K C c=true/\i.length<=Ru/\Q .non g
section
variable{X:Cx}{e:Expr}{es:List Expr}{te:TE}{t:TA}{pos apos p:Pos}{B:V0}{b:U1}
theorem NW{af:List (V0×Obj)}{σ:St}{s:Z1}{x:V0}{y:Option V0}{us:List Y1}{Q:Y1->Z1->Prop}(I:Inv X af σ H s)(z:H x=some (dA x C ed))(S:gY X.K C y=true)(hz:us.length<=Ru)(h:∀s',Inv X af σ H s'->Q .none s'):Rz (RD X.prog X.w) X.A (call (.builtin "ValueError.__init__") (.ref x::us)) Q X.xe s:=by
 obtain⟨nm,U,N,bs,Y,i,Z,sub,ab,A,dd,k0,k1,k2,k3,k5,mN,lC,nN,hi,T⟩:=nE I.kIn S;have oC:=I.kIn _ _ lC;obtain⟨vs,L,ex,M⟩:=I.newExc z;have F:=yo;obtain⟨c,g,d,D,os⟩:=s;have G:c.get? C=some (Tc nm U C N bs Y i Z sub ab A dd k0 k1 k2 k3 k5 "ValueError.__new__"):=oC;have j:c.get? x=some {cls:=.ref C,dict:=ed,data:=.fields vs,slots:=L}:=ex;refine Ts (T3 F.init.plain F.initEntry (wpAny_check_init_subU F T G j rfl ?_));have m:0<vs.size:=Nat.lt_trans (Nat.zero_lt_one) (rP.mp M).1;unfold Builtin.«BaseException.__init__»;have w:(c.push {cls:=.type "tuple",data:=.seq us.toArray}).get? x=some {cls:=.ref C,dict:=ed,data:=.fields vs,slots:=L}:=Rp _ j
 wp_walk
 have J:Inv X af σ H ⟨(c.push {cls:=.type "tuple",data:=.seq us.toArray}).update x (Tj (·.setIfInBounds 0 (.ref c.objs.size))),g,d,D,os⟩:=by
  have J1:=I.kept (t':=D) (h':=c.push {cls:=.type "tuple",data:=.seq us.toArray}) λ b u q=>Rp _ q;have O:=RY (Tj (·.setIfInBounds 0 (.ref c.objs.size))) w rfl;have P:=J1.write (t':=D) (h':=(c.push {cls:=.type "tuple",data:=.seq us.toArray}).update x (Tj (·.setIfInBounds 0 (.ref c.objs.size)))) (x:=x) (e:=x) (o:=dA x C ed) (by rw[z];exact True.intro) (.inl rfl) (λ b u n q=>(RF _ _ (Ne.symm n)).trans q) ⟨_,O⟩ (uZ O (by show(vs.setIfInBounds 0 _)[1]?=_;rw[Array.getElem?_setIfInBounds_ne qQ];exact M));rw[LA z]at P;exact P
 rw[show vs[0]?=some vs[0]from Array.getElem?_eq_getElem m];refine Rv (Ro (Ub w rfl m ?_));have fin:∀s',Inv X af σ H s'->Rz (RD X.prog X.w) X.A.in1 (ret RW) (λ fin s'=>match fin with
   | .done f=>(match(Except.ok f:Result)with| .ok (.ret v)=>Q v s'| .ok _=>False| .error e=>X.xe e s')
   | .again R=>R.quiet=true/\Tq (RD X.prog X.w) X.A R (λ r s'=>match r with| .ok (.ret v)=>Q v s'| .ok _=>False| .error e=>X.xe e s') s') (λ e s'=>X.xe e s') s':=λ s' K=>Rv (h s' K)
 split
 ·exact Ue (fin _ J)
 ·exact Rv (fin _ J)
theorem L5(hB:tO X.K B)(m:Gl X b)(n:X.mg b=some (.ref B))(o:PA X (e::es) t)(hd:(b==("__debug__":U1))=false:=by decide)(c:Rt (e::es) X.env=(false,RJ e X.env)::Rt es X.env:=by rfl)(g:(RK pos (Rt es X.env)).any (·.1)=false:=by rfl){pl:Sem Bool}(u:RJ (.Call (.Attribute (.Name b p) "__init__" apos) (e::es) [] pos) X.env=(do
   let i<-RJ (.Name b p) X.env
   Sr apos.atName
   let(f,first)<-SU [i] (SF i "__init__" pl)
   Ti pos f first (RK pos (Rt (e::es) X.env)) (Sy pos (RX [] X.env))):=by rfl):PE X (.Call (.Attribute (.Name b p) "__init__" apos) (e::es) [] pos) (JX X.K t):=by
 intro af s σ H Q I h;refine T4 (pl:=pl) (kX I m n ?_ hd) u;refine W.method_cls I.kIn hB.ga (W.cls_value I.kIn hB.rd hB.ini rfl ?_);have v:=I.tok (s.toks+1);have j:=o pos af _ σ H _ v h;rw[c]at j ⊢;refine Sl (by show(false||(RK pos (Rt es X.env)).any (·.1))=false;rw[g]<;>rfl) (Ta ?_);refine aW j λ us M hz_=>?_;obtain⟨vs,w,y,z,x,C,A,ed,N,D,G,J,K,q⟩:=hz_;subst D;cases z with
 |cons r L=>
  obtain rfl:=(show _=RA x from r);exact NW y G J (by rw[<-L.length];exact K) λ O I3=>⟨.non,w,I3,rfl,q⟩
end
structure ph(K:X0)(C:V0):Prop where
 sa:RV K (.ref C) "__setattr__"=some (some (.builtin "object.__setattr__"))
 vo:W.valueOver K C=true
 hd:TY K C=true
 ga:RV K (.ref C) "__getattribute__"=some (some (.builtin "BaseException.__getattribute__"))
 gk:RV K (.ref C) "__getattr__"=some none
 hB:SM K C (.type "BaseException")=some true
 ha:RV K (.ref C) "__class__"=some (some (.builtin "object.__class__"))
 hn:Uc K (.builtin "object.__class__") "__get__"=some (some (.builtin "getset_descriptor.__get__"))
 tk:W.takesIn K (.builtin "object.__class__")=some true
 hm:SM K C (.type "object")=some true
def HV(K:X0)(ta tv:TE)(f:U1):TS:=λ D g H=>tv g H λ y m=>ta g m λ x i=>∃a C,x=.ref a/\i a=some (dA a C none)/\ph K C/\aY K C f/\
 ∀j,i j=none->D.nx g (ar (ar i a (dA a C (some j))) j (.xd [(f,y)]))
def HM(K:X0)(ta:TE)(f:U1):TE:=λ j H Q=>ta j H λ x g=>∃a C i fs v,x=.ref a/\g a=some (dG a C (some i))/\g i=some (.xd fs)/\ph K C/\aY K C f/\fs.lookup f=some v/\Q v g
section
variable{X:Cx}{o e value:Expr}{f:U1}{pos pos' tpos:Pos}{ta tv:TE}
theorem KN(P:PE X o ta)(Q:PE X value tv)(R:Ul value (some (.Attribute o f pos')) pos.line X.env=pure false):PS X (.Assign [.Attribute o f pos'] value pos) (HV X.K ta tv f):=by
 intro j s L H D I h;refine TC (aW (Q j s L H _ I h) λ u S hz_=>?_) R;obtain⟨y,T,U,Y,q⟩:=hz_;refine aW (P j S L T _ U q) λ Z m hz_=>?_;obtain⟨x,J,A,rx,a,C,ex,B,c,n,q2⟩:=hz_;subst ex;obtain rfl:Z=RA a:=rx;obtain⟨vs,sl,ga,h1⟩:=A.newExc B;refine W.xset_new A.kIn ga c.sa c.vo n.taker c.hd λ h' ns G kp=>?_;have fr:J m.heap.objs.size=none:=A.hok.fresh (aQ _);refine⟨L,_,?_,q2 _ fr⟩;have a0:m.heap.objs.size≠a:=λ z=>by rw[z,B]at fr;cases fr
 have M:∀b,J b=none->b≠a:=λ b n z=>by rw[z,B]at n;cases n
 have i:∀b o,J b=some o->(∀w,o≠.ext w)->ar (ar J a (dA a C (some m.heap.objs.size))) m.heap.objs.size (.xd [(f,y)]) b=some o:=λ b o q ne=>by
  rw[aU (bY q fr),aU]
  ·exact q
  ·rintro rfl;rw[B]at q;cases q;exact ne _ rfl
 refine A.un (t':=m.toks+2) (h':=h') ⟨λ b o q n ω ω=>kp b o (M b n) q,λ b o q n ω ω=>⟨o.slots,kp b o (M b n) q⟩,λ b o q n ω=>?_,λ b o q ω=>?_,λ b xs q=>i b _ q (λ w z=>nomatch z),λ b o u q=>i b _ q (λ w z=>nomatch z),λ b ps q=>⟨#[],by simpa using i b _ q (λ w z=>nomatch z)⟩⟩ λ b u q=>?_
 ·rw[aU (λ z=>by rw[z]at q;exact UM (Rq q) (fH _)),aU (M b n)];exact n
 ·by_cases z:b=a
  ·rw[z];exact⟨_,G⟩
  ·exact⟨o,kp b o z q⟩
 ·by_cases z:b=m.heap.objs.size
  ·subst z;rw[bu]at q;cases q;refine⟨_,ns,λ g=>?_⟩;by_cases q:g=f
   ·have N:(g==f)=true:=beq_iff_eq.mpr q;simp only[i9,N,UL q];exact Y
   ·have N:(g==f)=false:=beq_eq_false_iff_ne.mpr q;simp only[i9,N,UK q];exact True.intro
  ·rw[aU z]at q;by_cases O:b=a
   ·subst O;rw[bu]at q;cases q;exact uZ G h1
   ·rw[aU O]at q;refine(A.hok b u q).stay (λ c v K r=>kp c v ?_ r) (λ c r=>i c _ r (λ w z=>nomatch z)) λ c xs r=>i c _ r (λ w z=>nomatch z);rcases K with rfl|K
    ·exact O
    ·intro z;rw[z,B]at K;cases K
theorem Inv.instX{i:List (V0×Obj)}{n:St}{s:Z1}{a m:V0}{fs:List (U1×V)}(I:Inv X i n H s)(u:H a=some (dG a C (some m)))(v:H m=some (.xd fs)):∃ox od,W.InstAt s.heap a ox C (some od)/\∃j:U1->Option Y1,(∀name,W.lookIn name od=some (j name))/\∀g,dC (fs.lookup g) (j g):=by
 obtain⟨vs,z,w⟩:=I.anExc u;obtain⟨j,x,r⟩:=I.hok m _ v;obtain⟨od,y,hl⟩:=BZ x;exact⟨_,od,⟨w,rfl,rfl,y⟩,j,hl,r⟩
theorem K9(m:PE X e ta)(w:SQ e f X.env (RJ e X.env)=RJ e X.env):PE X (.Attribute e f pos) (HM X.K ta f):=by
 intro g s y H Q I h;refine FO w (aW (m g s y H _ I h) λ u M hz_=>?_);obtain⟨x,z,i,A,a,C,N,fs,v,B,D,G,c,n,l,q⟩:=hz_;subst B;obtain rfl:u=RA a:=A;obtain⟨O,P,J,K,hl,r⟩:=i.instX D G;obtain⟨u,L,j⟩:=dC.some_of (v:=v) (o:=K f) (by rw[<-l];exact r f);exact W.xget_value i.kIn J c.ga c.gk c.hB (W.findObj_own c.hd n rfl (by rw[hl,L])) (CD j) ⟨v,z,i.tok _,j,q⟩
end
def ID(C:V0)(sp:Sp)(E:St->XK)(t:TA):TS:=λ D g H=>t g H λ vs i=>vs.length<=Ru/\∀x,i x=none->
 sp (.ref x::vs) (ar i x (dA x C none)) (λ v j=>v=.non/\∃a,j x=some (dA x C a)/\E g (.ref C) a (ar j x (dG x C a))) E0
section
variable{X:Cx}{E:St->XK}{k:Nat}{f C:V0}{fd:RN}{ps:List U1}{sp:Sp}{c:U1}{p cpos pos:Pos}{e:Expr}{es:List Expr}{t:TA}
theorem BE(hC:gY X.K C (some f)=true)(kp:RM X.K (.ref C)=true)(hfn:W.isFn X.K (.ref f)=true)(F:bc X.prog X.w X.K X.mg X.base eE k f fd ps sp)(hr:bw (k+1) X.A)(hb:Binds X.K fd ps [])(hg:Gl X c)(hm:X.mg c=some (.ref C))(ha:PA (X.wish (bx X E)) (e::es) t)(hd:(c==("__debug__":U1))=false:=by decide)(hst:Rt (e::es) X.env=(false,RJ e X.env)::Rt es X.env:=by rfl)(hpl:(RK cpos (Rt es X.env)).any (·.1)=false:=by rfl):PS (X.wish (bx X E)) (.Raise (some (.Call (.Name c p) (e::es) [] cpos)) none pos) (ID C sp E t):=by
 intro af s σ H D I h;obtain ⟨nm,qn,N,bs,bm,hdct,sn,sub,ab,col,dd,k0,k1,k2,k3,k5,mN,lC,nN,hi,T⟩:=nE I.kIn hC;rw [arm_exec_Raise];refine Ro (Sm ?_);show Rz _ _ (raiseStmt X.env (some (do let v <-RJ (.Call (.Name c p) (e::es) [] cpos) X.env; Sr pos; pure v)) none) _ _ _;refine Cz (C:=C) (nm:=nm) (q:=qn) (N:=N) (bs:=bs) (bm:=bm) (hdct:=hdct) (sn:=sn) (sub:=sub) (ab:=ab) (col:=col) (dd:=dd) (k0:=k0) (k1:=k1) (k2:=k2) (k3:=k3) (k5:=k5) (newId:="ValueError.__new__") (tG T) hr.hd
  (Ro (aW ?_ λ v s1 z=>Ro (Sm (Rv z))))
 refine RP (kX I hg hm ?_ hd);refine Tf (h₀:=X.base) I.ok.mod.kin kp (aW (ha cpos af s σ H _ I h) λ us s1 hz_=>?_) hst hpl;obtain⟨vs,H1,I1,r,hz,q⟩:=hz_;refine⟨I1.kIn,?_⟩;obtain⟨nm',qn',N',bs',bm',hdct',sn',sub',ab',col',dd',k0',k1',k2',k3',k5',mN',lC',nN',hi',T'⟩:=nE I1.kIn hC;have FV:=yo;obtain⟨of,lf,hfc⟩:∃of,X.K.lookup f=some of/\of.cls=.type "function":=by
  have z:(X.K.lookup f).map (·.cls)=some (.type "function"):=beq_iff_eq.mp hfn;cases q:X.K.lookup f with
  |none=>rw[q]at z;cases z
  |some of=>rw[q]at z;exact⟨of,rfl,jv z⟩
 have hzu:us.length<=Ru:=by rw[<-r.length];exact hz
 obtain⟨hp,g,d,tk,os⟩:=s1;have fr:H1 (hp.objs.size+1)=none:=I1.hok.fresh (oB _);have e2:(fk hp C us).get? (hp.objs.size+1)=some {cls:=.ref C,data:=.fields #[.ref hp.objs.size,.none,.none,.none,.bool false,.none]}:=CA;have J1:=I1.kept (t':=tk) (h':=hp.push {cls:=.type "tuple",data:=.seq us.toArray}) λ b u q=>Rp _ q;have J:Inv (X.wish (bx X E)) af σ (ar H1 (hp.objs.size+1) (dA (hp.objs.size+1) C none)) ⟨fk hp C us,g,d,tk,os⟩:=
  J1.laid (t':=tk) (h':=fk hp C us) (λ b u q=>Rp _ q) (pS (SZ _ _)) (uZ e2 rfl)
 have hq:=q (hp.objs.size+1) fr;have r2:aI (V.ref (hp.objs.size+1)::vs) (RA (hp.objs.size+1)::us):=.cons rfl r;have hl:(RA (hp.objs.size+1)::us++[]).length=ps.length:=by
  rw[eu,<-r2.length];exact F.len _ _ _ _ hq
 refine MV (h:=hp) FV qQ FV T' (I1.kIn _ _ lC') nN' hi' (I1.kIn _ _ lf) hfc ?_ hzu;have bt:=hb ⟨fk hp C us,g,d,tk,os⟩ (RA (hp.objs.size+1)::us) J.kIn hl;rw[eu]at bt;refine SN (F.run _ X.stack _ _ ⟨RA (hp.objs.size+1)::us,[]⟩ (RA (hp.objs.size+1)::us) _ _ E0 (hr.make C us []) (J.env0.make C us []) bt r2 hq) λ r s' z=>?_;cases r with
 |error e=>exact z.elim
 |ok fl=>
  cases fl with
  |ret u=>
   obtain⟨v,H',I3,rv,ev,ed,hx,hE⟩:=J.after z;subst ev;obtain⟨vs3,sl3,ex3,h3⟩:=I3.newExc hx;obtain⟨I4,F4⟩:=I3.ready hx;refine⟨rv,_,ed,vs3,sl3,rfl,I3.kIn _ _ lC,ex3,h3,?_⟩;exact⟨_,C,ed,σ,_,rfl,I4.unwish.pins_of λ p hp=>UM hp (by simp),.inl F4,hE⟩
  |next=>exact z.elim
  |brk=>exact z.elim
  |cont=>exact z.elim
end
section
variable{P:Program}{w:V1}{H H':Hp}{h h':M1}{a:V0}{o:HO}{fs ex:List V0}
theorem bh.get(x:bh P w H h a o):∃u,h.get? a=some u:=by
 cases o with
 |lst i=>obtain⟨ω,ω,ω,ω,e⟩:=x;exact⟨_,e⟩
 |tup i=>obtain⟨ω,ω,ω,ω,e,ω⟩:=x;exact⟨_,e⟩
 |dK g=>obtain⟨ω,ω,ω,ω,o,ω,ω,e,ω⟩:=x;exact⟨_,e⟩
 |dT g=>obtain⟨ω,ω,ω,ω,o,ω,ω,e,ω⟩:=x;exact⟨_,e⟩
 |set S n=>obtain⟨o,ω,ω,ω,e,ω⟩:=x;exact⟨_,e⟩
 |ins C j fs=>obtain⟨ω,ω,ω,e,ω⟩:=x;exact⟨_,e⟩
 |own y=>obtain⟨ω,e⟩:=x;exact⟨_,e⟩
 |xd fs=>obtain⟨ω,⟨ω,ω,ω,e,ω⟩,ω⟩:=x;exact⟨_,e⟩
 |rng m v=>obtain⟨ω,ω,ω,e⟩:=x;exact⟨_,e⟩
 |frz z u=>obtain⟨e,ω⟩:=x;exact⟨_,e⟩
 |tbl ps=>exact⟨_,(show h.get? a=some _ from x)⟩
 |met f y=>exact⟨_,(show h.get? a=some _ from x)⟩
 |ext A=>obtain⟨ω,⟨ω,e⟩,ω⟩:=x;exact⟨_,e⟩
theorem dI.freshN(x:dI P w H h)(e:h.get? a=none):H a=none:=by
 cases q:H a with
 |none=>rfl
 |some u=>obtain⟨v,z⟩:=(x a u q).get;rw[e]at z;cases z
theorem Un.laidN(k:∀b u,h.get? b=some u->h'.get? b=some u)(i:h.get? a=none)(g:H a=none):Un fs ex H (ar H a o) h h' where
 keep:=λ b u q ω ω ω=>k b u q
 slot:=λ b u q ω ω ω=>⟨u.slots,k b u q⟩
 free:=λ b u q n ω=>by rw[aU (λ z=>by rw[z,i]at q;cases q)];exact n
 there:=λ b u q ω=>⟨u,k b u q⟩
 tups:=λ b j q=>by rw[aU (bY q g)];exact q
 frzs:=λ b u j q=>by rw[aU (bY q g)];exact q
 tbls:=λ b ps q=>⟨#[],by rw[aU (bY q g),q];simp⟩
theorem dI.laidN(x:dI P w H h)(k:∀b u,h.get? b=some u->h'.get? b=some u)(g:H a=none)(new:bh P w (ar H a o) h' a o):dI P w (ar H a o) h':=λ b u e=>by
 by_cases i:b=a
 ·subst i;rw[bu]at e;cases e;exact new
 ·rw[aU i]at e;exact(x b u e).stay (λ c v ω q=>k c v q) (λ c q=>by rw[aU (bY q g)];exact q) λ c j q=>by rw[aU (bY q g)];exact q
end
def y9(C:V0)(E:St->XK)(t:TA):TS:=λ D g H=>t g H λ vs i=>vs.length<=Ru/\∀x,i x=none->E g (.ref C) none (ar i x (dG x C none))
section
variable{X:Cx}{E:St->XK}{C:V0}{c:U1}{p cpos pos:Pos}{e:Expr}{es:List Expr}{t:TA}
theorem Nb(S:gY X.K C none=true)(kp:RM X.K (.ref C)=true){k:Nat}(hr:bw k X.A)(hg:Gl X c)(hm:X.mg c=some (.ref C))(ha:PA (X.wish (bx X E)) (e::es) t)(hd:(c==("__debug__":U1))=false:=by decide)(m:Rt (e::es) X.env=(false,RJ e X.env)::Rt es X.env:=by rfl)(n:(RK cpos (Rt es X.env)).any (·.1)=false:=by rfl):PS (X.wish (bx X E)) (.Raise (some (.Call (.Name c p) (e::es) [] cpos)) none pos) (y9 C E t):=by
 intro i s u H D I h;obtain ⟨nm,qn,N,bs,bm,hdct,sn,sub,ab,col,dd,k0,k1,k2,k3,k5,mN,lC,nN,hi,T⟩:=nE I.kIn S;rw [arm_exec_Raise];refine Ro (Sm ?_);show Rz _ _ (raiseStmt X.env (some (do let v <-RJ (.Call (.Name c p) (e::es) [] cpos) X.env; Sr pos; pure v)) none) _ _ _;refine Cz (C:=C) (nm:=nm) (q:=qn) (N:=N) (bs:=bs) (bm:=bm) (hdct:=hdct) (sn:=sn) (sub:=sub) (ab:=ab) (col:=col) (dd:=dd) (k0:=k0) (k1:=k1) (k2:=k2) (k3:=k3) (k5:=k5) (newId:="ValueError.__new__") (tG T) hr.hd
  (Ro (aW ?_ λ v U z=>Ro (Sm (Rv z))))
 refine RP (kX I hg hm ?_ hd);refine Tf (h₀:=X.base) I.ok.mod.kin kp (aW (ha cpos i s u H _ I h) λ us U hz_=>?_) m n;obtain⟨vs,y,j,r,hz,q⟩:=hz_;refine⟨j.kIn,?_⟩;obtain⟨a0,b0,N',c0,d0,A,e0,Y,f0,Z,g0,h0,i0,j0,l0,m0,n0,B,G,K,T'⟩:=nE j.kIn S;have FV:=yo;have L:us.length<=Ru:=by rw[<-r.length];exact hz
 obtain⟨hp,g,d,tk,os⟩:=U;refine wpAny_call_exc_subU FV qQ FV T' (j.kIn _ _ B) G K (λ h' x M=>?_) L;obtain⟨keeps,new,t',ex,ω,ω⟩:=M;have fr:y x=none:=j.hok.freshN new;have J:Inv (X.wish (bx X E)) i u (ar y x (dA x C none)) ⟨h',g,d,tk,os⟩:=
  j.un (t':=tk) (Un.laidN keeps new fr) (j.hok.laidN keeps fr (uZ ex rfl))
 have hx:ar y x (dA x C none) x=some (dA x C none):=bu;obtain⟨I4,F4⟩:=J.ready hx;obtain⟨O,Q,R,h3⟩:=J.newExc hx;refine⟨x,_,O,Q,rfl,J.kIn _ _ lC,R,h3,?_⟩;rw[yW]at I4 F4;exact⟨_,C,none,u,_,rfl,I4.unwish.pins_of λ p hp=>UM hp (by simp),.inl F4,q x fr⟩
end
theorem Ae{M:Model}{A:N1}{E:Y1->Z1->Prop}{h:M1}{g:Array UB}{d:Drawn}{t:Nat}{S:Sw}{Q:Bool->Z1->Prop}{e:V0}{T:Obj}{nm q:U1}{N:V0}{bs bm:List Y1}{hdct:Bool}{sn:List U1}{sub:List Y1}{ab:Bool}{col:Option Bool}{dd:Option V0}{k0 k1 k2 k3 k5:Option Y1}{newId:String}{y U:U1}{o Y:V0}{z c:List Y1}{j:Bool}{D:List U1}{u:List Y1}{G:Bool}{v:Option Bool}{I:Option V0}{J K L O P:Option Y1}{a:String}{b:Bool}(Z:h.get? C=some (Tc nm q C N bs bm hdct sn sub ab col dd k0 k1 k2 k3 k5 newId))(he:h.get? e=some T)(w:T.cls=.ref C)(hB:h.get? o=some (Tc y U o Y z c j D u G v I J K L O P a))(m:c.contains (.type "BaseException")=true)(x:(RA C::bm).contains (.ref o)=b)(hq:Q b ⟨h,g,d,t,S⟩):Rz M A (excMatches (.ref e) (.ref o)) Q E ⟨h,g,d,t,S⟩:=by
 have R:(RA o::c).contains (.type "BaseException")=true:=by rw[uq,m,mQ]
 have f:=tc_notTuple;unfold excMatches;repeat (first|(with_reducible refine Sh he ?_;rw[w])|with_reducible refine Sh hB ?_|(with_reducible refine Th hB ?_;rw[R])|(with_reducible refine Th Z ?_;rw[x])|wp_step)
 cases b<;>(wp_walk;exact hq)
section
variable{X:Cx}{af:List (V0×Obj)}{σ:St}{H:Hp}{s:Z1}
abbrev Cx.pinned(X:Cx)(l:List (V0×Obj)):Cx:={X with pn:=l}
theorem Cx.Ok.pinned(ok:X.Ok)(l:List (V0×Obj)):(X.pinned l).Ok:=⟨ok.mod,ok.kind,ok.glob,ok.blt,ok.above,ok.inj,ok.has,ok.cab,ok.hd,ok.frames,ok.stk,ok.exf,ok.bs,ok.bsz,ok.noex,ok.exfs,ok.funs,ok.frf⟩
theorem Inv.borne(I:Inv X af σ H s):Inv (X.pinned (X.pn++af)) [] σ H s:=⟨I.ok.pinned _,I.os,I.bare,I.base,I.loc,I.cell,I.free,I.freeC,λ p a=>I.pin p (by simpa using a),I.hok,I.len⟩
theorem Inv.unborne(ok:X.Ok)(I:Inv (X.pinned (X.pn++af)) [] σ H s):Inv X af σ H s:=⟨ok,I.os,I.bare,I.base,I.loc,I.cell,I.free,I.freeC,λ p a=>I.pin p (by simpa using a),I.hok,I.len⟩
abbrev Cx.held(X:Cx)(e:Y1):Cx:={X with A:=X.A.mark (some e),calm:=false}
theorem Inv.held(I:Inv X af σ H s)(e:Y1):Inv (X.held e) af σ H s:=
 ⟨⟨I.ok.mod,I.ok.kind,I.ok.glob,I.ok.blt,I.ok.above,I.ok.inj,I.ok.has,I.ok.cab,(λ z=>nomatch z),I.ok.frames,I.ok.stk,I.ok.exf,I.ok.bs,I.ok.bsz,I.ok.noex,I.ok.exfs,I.ok.funs,I.ok.frf⟩,I.os,I.bare,I.base,I.loc,I.cell,I.free,I.freeC,I.pin,I.hok,I.len⟩
theorem Inv.unheld(ok:X.Ok){e:Y1}(I:Inv (X.held e) af σ H s):Inv X af σ H s:=⟨ok,I.os,I.bare,I.base,I.loc,I.cell,I.free,I.freeC,I.pin,I.hok,I.len⟩
theorem uV{M:Model}{A:N1}{E:Y1->Z1->Prop}{i:Nat}{x:U1}{pos:Pos}{Q:Unit->Z1->Prop}(I:Inv X af σ H s)(U:X.N.Nodup)(hi:X.N[i]?=some x)(Y:X.env.scope.names.lookup x=some .local)(h:∀O,Inv X af (σ.set i none) H O->Q () O):Rz M A (do bindName X.env x .none;unbindBehindTheSuite X.env x pos) Q E s:=by
 obtain⟨m,P,hl⟩:=id I.loc;have w:(X.env.scope.kind==.class||(X.env.scope.kind==.module&&X.env.locals !=X.env.globals))=false:=by rw[I.ok.kind];rfl
 have C:i<σ.length:=by rw[I.len];exact(gm.mp hi).1
 refine wpAny_nameGoes_keeps Y P w λ h' v K g=>?_;have I0:=I.tok (s.toks+1);obtain⟨oL,ω,ω,Z,ω⟩:=id P;have a:dI X.prog X.w H h':=λ b ob e=>by
  refine(I.hok b ob e).stay (λ c R G q=>(g.2 c ?_).trans q) (λ ω q=>q) λ ω ω q=>q;rintro rfl;rcases G with rfl|G
  ·rw[I.free]at e;cases e
  ·rw[I.free]at G;cases G
 refine h _ ⟨I.ok,I.os,I.bare,⟨λ b o e n L D=>?_,λ b o e n L D=>?_,I.base.free,λ b o e D=>?_,I.base.tups,I.base.frzs,I.base.tbls⟩,⟨_,K,λ j y v' u J e3=>?_⟩,λ y c e=>?_,I.free,I.freeC,λ p hp=>?_,a,by simpa using I.len⟩
 ·exact(g.2 b (dY (dv (Rq e) I.ok.above))).trans (I.base.keep b o e n L D)
 ·obtain⟨sl,u⟩:=I.base.slot b o e n L D;exact⟨sl,(g.2 b (dY (dv (Rq e) I.ok.above))).trans u⟩
 ·obtain⟨o',u⟩:=I.base.there b o e D;exact⟨o',(g.2 b (dY (dv (Rq e) I.ok.above))).trans u⟩
 ·by_cases N:j=i
  ·subst N;rw[yy C]at J;cases J
  ·rw[yx (Ne.symm N)]at J;obtain⟨S,r',q⟩:=hl j y v' u J e3;refine⟨S,r',?_⟩;rcases q with⟨k,e⟩|⟨k,c,e,z⟩
   ·refine .inl ⟨k,?_⟩;have:y≠x:=λ e=>N (zm U u (e▸hi));show(if y=x then v else m y)=some S;rw[UK this,e]
   ·exact .inr ⟨k,c,e,z.sameBut g (I.cne y c e)⟩
 ·obtain⟨R,z⟩:=I.cell y c e;exact⟨R,z.sameBut g (I.cne y c e)⟩
 ·obtain⟨e,n,T,nf,d⟩:=I.pin p hp;exact⟨(g.2 p.1 T).trans e,n,T,nf,d⟩
end
structure aT(P:Program)(w:V1)(K:X0)(mg:U1->Option Y1)(base:M1)(k:Nat)(x:U1)(ps:List U1)(sp:Sp):Prop where
 ex:∃f fd,bc P w K mg base (f7 P w) k f fd ps sp/\Binds K fd ps []/\RM K (.ref f)=true/\mg x=some (.ref f)
structure bK(P:Program)(w:V1)(K:X0)(mg:U1->Option Y1)(base:M1)(k:Nat)(C:V0)(m:U1)(ps:List U1)(sp:Sp):Prop where
 ex:∃f fd,bc P w K mg base (f7 P w) k f fd ps sp/\Binds K fd ps []/\iU K C m f
abbrev Cx.xx(X:Cx)(E:XK):Cx:=X.wish (bx X λ ω=>E)
section
variable{P:Program}{w:V1}{K:X0}{mg:U1->Option Y1}{base:M1}
theorem aT.of{x:U1}{st:RH}{N ps:List U1}{k:Nat}{sp:Sp}(F:Fn K mg x st)(S:bL N ps (bg st))(g:∀(kV c i:Y1)(n:Option V0)(cdv ct:Y1)(us:List Y1),us.length=ps.length->Tv (SK x x (gO st) (fh st) (bg st) .none kV c i n cdv ct) ⟨us,[]⟩=pure (ps.zip us))(len:∀vs H Q E,sp vs H Q E->vs.length=ps.length)(a:∀(f:V0)(cdv:Y1)(A:N1)(outer:List Env)(s:Z1)(H:Hp)(vs:List V)(Q:VK)(E:XK),bw k (A.deeper (Tw x (bg st) s.heap.objs.size f cdv))->sp vs H Q E->∃t,fy ((d8 (f7 P w) P w K mg base N x (bg st) f cdv A outer s H E).xx E) (fh st) t/\t {nx:=λ ω H'=>Q .non H',rt:=Q} (jc N vs) H):aT P w K mg base (k+1) x ps sp:=by
 obtain⟨f,u,F,m⟩:=F.ex;exact⟨f,u,F.okX S len λ cdv=>a f cdv,F.binds g,F.kp,m⟩
theorem bK.of{m qual:U1}{st:RH}{N ps:List U1}{k:Nat}{sp:Sp}(F:fP K C m qual st)(S:bL N ps (bg st))(g:∀(kV c i:Y1)(n:Option V0)(cdv ct:Y1)(us:List Y1),us.length=ps.length->Tv (SK m qual (gO st) (fh st) (bg st) .none kV c i n cdv ct) ⟨us,[]⟩=pure (ps.zip us))(len:∀vs H Q E,sp vs H Q E->vs.length=ps.length)(a:∀(f:V0)(cdv:Y1)(A:N1)(outer:List Env)(s:Z1)(H:Hp)(vs:List V)(Q:VK)(E:XK),bw k (A.deeper (Tw qual (bg st) s.heap.objs.size f cdv))->sp vs H Q E->∃t,fy ((d8 (f7 P w) P w K mg base N qual (bg st) f cdv A outer s H E).xx E) (fh st) t/\t {nx:=λ ω H'=>Q .non H',rt:=Q} (jc N vs) H):bK P w K mg base (k+1) C m ps sp:=by
 obtain⟨f,u,F,v⟩:=F.ex;exact⟨f,u,F.okX S len λ cdv=>a f cdv,F.binds g,v⟩
end
section
variable{X:Cx}{x m:U1}{ps:List U1}{sp:Sp}{k j:Nat}{C:V0}{o e:Expr}{es:List Expr}{ta:TE}{t:TA}{p pos apos cpos:Pos}{E:XK}
theorem dH(h:aT X.prog X.w X.K X.mg X.base k x ps sp)(hr:bw j X.A)(g:k<=j)(i:Gl X x)(n:PA (X.xx E) (e::es) t)(a:(x==("__debug__":U1))=false:=by decide)(u:Rt (e::es) X.env=(false,RJ e X.env)::Rt es X.env:=by rfl)(c:(RK pos (Rt es X.env)).any (·.1)=false:=by rfl):PE (X.xx E) (.Call (.Name x p) (e::es) [] pos) (qB sp [] E t):=by
 obtain⟨f,v,F,b,kp,m⟩:=h.ex;exact mj F (hr.mono g) i m kp b .nil (bx.passes λ ω ω ω ω q=>q) n a u c
theorem jC{pl:Sem Bool}(v:PE (X.xx E) o ta)(c:gS X.K C)(h:bK X.prog X.w X.K X.mg X.base k C m ps sp)(hr:bw j X.A)(y:k<=j)(z:PA (X.xx E) (e::es) t)(i:Rt (e::es) X.env=(false,RJ e X.env)::Rt es X.env:=by rfl)(n:(RK pos (Rt es X.env)).any (·.1)=false:=by rfl)(A:RJ (.Call (.Attribute o m apos) (e::es) [] pos) X.env=(do
   let u<-RJ o X.env
   Sr apos.atName
   let(f,first)<-SU [u] (SF u m pl)
   Ti pos f first (RK pos (Rt (e::es) X.env)) (Sy pos (RX [] X.env))):=by rfl):PE (X.xx E) (.Call (.Attribute o m apos) (e::es) [] pos) (sP C m sp [] E ta t):=
 let⟨_,_,F,b,B⟩:=h.ex
 λ g s D H Q I G=>F6 v.mono c B F (hr.mono y) b .nil (bx.passes λ ω ω ω ω q=>q) z i n A g s D H Q I ⟨_,G,λ _ _ ⟨a,e,J,fs,h,l,r⟩=>⟨a,J,fs,e,h,l,r⟩⟩
theorem jF{pl:Sem Bool}(n:PE (X.xx E) o ta)(c:gS X.K C)(h:bK X.prog X.w X.K X.mg X.base k C m ps sp)(hr:bw j X.A)(u:k<=j)(v:RJ (.Call (.Attribute o m apos) [] [] pos) X.env=(do
   let i<-RJ o X.env
   Sr apos.atName
   let(f,first)<-SU [i] (SF i m pl)
   Ti pos f first (RK pos (Rt [] X.env)) (Sy pos (RX [] X.env))):=by rfl):PE (X.xx E) (.Call (.Attribute o m apos) [] [] pos) (sP C m sp [] E ta eQ):=
 let⟨_,_,F,b,y⟩:=h.ex
 λ g s z H Q I A=>Ge n.mono c y F (hr.mono u) b .nil (bx.passes λ ω ω ω ω q=>q) v g s z H Q I ⟨_,A,λ _ _ ⟨a,e,B,fs,h,l,r⟩=>⟨a,B,fs,e,h,l,r⟩⟩
structure Af(K:X0)(mg:U1->Option Y1)(x:U1)(C:V0):Prop where
 mgC:mg x=some (.ref C)
 xin:gY K C none=true
 kp:RM K (.ref C)=true
theorem jE(c:Af X.K X.mg x C)(hr:bw k X.A)(i:Gl X x)(n:PA (X.xx E) (e::es) t)(hd:(x==("__debug__":U1))=false:=by decide)(a:Rt (e::es) X.env=(false,RJ e X.env)::Rt es X.env:=by rfl)(g:(RK cpos (Rt es X.env)).any (·.1)=false:=by rfl):PS (X.xx E) (.Raise (some (.Call (.Name x p) (e::es) [] cpos)) none pos) (y9 C (λ ω=>E) t):=Nb c.xin c.kp hr i c.mgC n hd a g
end
theorem Re{E:St->XK}{t:TA}{D:bU}{a:St}:y9 C E t D a H=t a H λ vs c=>vs.length<=Ru/\∀x,c x=none->E a (.ref C) none (ar c x (dG x C none)):=rfl
variable{Q:VK}{c:St}
theorem Qn{a:U1}:Eg a c H Q=(a.length<=Ru/\Q (.str a) H):=rfl
theorem Rk{g:TE}{i:TJ}{a:U1}:ES g i a c H Q=g c H λ x n=>∃z,x=.str z/\(a++z).length<=Ru/\i (a++z) c n Q:=rfl
theorem Pp{a:TE}:ro a c H Q=a c H λ x g=>(∃i,x=.int i/\i.natAbs.log2<1920/\Q (.str (toString i)) g)\/(∃z:U1,x=.str z/\z.length<=Ru/\Q (.str z) g):=rfl
theorem IJ{mg:U1->Option Y1}{h:M1}{x:U1}(X:K.In h)(G:h.Ns RE mg)(a:Tt K RE x=some (some (.ref C)))(b:gY K C none=true)(c:RM K (.ref C)=true):Af K mg x C:=⟨TX X G a,b,c⟩
end L2
end
section
namespace K10
abbrev Tx:=List Nat
def cG:Tx:=[48,49,50,51,52,53,54,55,56,57]
def bA:Tx:=[97,98,99,100,101,102,103,104,105,106,107,108,109,110,111,112,113,114,115,116,117,118,119,120,121,122]
def iO:Tx:=[65,66,67,68,69,70,71,72,73,74,75,76,77,78,79,80,81,82,83,84,85,86,87,88,89,90]
def gaps:Tx:=[32,9,10]
def gZ:Tx:=[40,41,123,125,44,46,59,61,43,45,42,47,60]
def bF(c:Nat):Bool:=bA.contains c||cG.contains c||iO.contains c
def bD:Tx->Bool
 |[]=>false
 |c::r=>decide (r.length<=8)&&(if c=48 then r.isEmpty else(c::r).all λ x=>cG.contains x)
def cE:Tx->Bool
 |[]=>false
 |c::r=>decide (r.length<=7)&&(bA.contains c&&(c::r).all λ x=>bA.contains x||cG.contains x)
theorem zV(t:Tx):(t.dropWhile bF).length<=t.length:=(List.dropWhile_sublist bF).length_le
abbrev aZ:=Except Nat (List Tx)
def pre(ws:List Tx):aZ->aZ
 | .ok r=>.ok (ws++r)
 | .error k=>.error k
theorem Kc(r:aZ):pre [] r=r:=by cases r<;>rfl
theorem Fg(a b:List Tx)(r:aZ):pre a (pre b r)=pre (a++b) r:=by cases r<;>simp[pre]
def cu:Tx->Nat->aZ
 |[],_=>.ok []
 |c::r,k=>
  if gaps.contains c then cu r (k+1)
  else if bF c then
   if bD ((c::r).takeWhile bF)||cE ((c::r).takeWhile bF)then pre [(c::r).takeWhile bF] (cu (r.dropWhile bF) (k+((c::r).takeWhile bF).length))else .error k
  else if gZ.contains c then pre [[c]] (cu r (k+1))else .error k
termination_by t=>t.length
decreasing_by
 ·simp
 ·have:=zV r;simp;lia
 ·simp
theorem Hw(t:Tx):t.takeWhile bF++t.dropWhile bF=t:=List.takeWhile_append_dropWhile
open PySem
abbrev aV(x:U1):Tx:=x.cps.toList
theorem aM(x:U1):(aV x).length=x.length:=by simp[aV,Str.length]
theorem dB{x y:U1}(h:aV x=aV y):x=y:=by
 obtain⟨⟨a⟩⟩:=x;obtain⟨⟨b⟩⟩:=y;have c:a=b:=h;rw[c]
theorem bE(x y:U1):aV (x++y)=aV x++aV y:=by
 show(x.cps++y.cps).toList=_;rw[Array.toList_append]
theorem Ni(x:U1){a b:Nat}(c:a<=b)(e:b<=x.length):aV (UG x (some (a:Int)) (some (b:Int)))=((aV x).drop a).take (b-a):=by
 have h:=StrLaws.sliceText_nat x c e;have g:UG x (some (a:Int)) (some (b:Int))=StrLaws.sliceText x (some (a:Int)) (some (b:Int)):=rfl;rw[g,h]
theorem Dm:∀(ps:List U1)(a:Array Nat),(ps.foldl (λ a p=>a++Str.empty.cps++p.cps) a).toList=a.toList++(ps.map aV).flatten
 |[],a=>by simp
 |p::r,a=>by
  rw[List.foldl_cons,Dm r,dJ,mV];simp[aV,So]
theorem ki(ys:List U1):aV (RS "" ys)=(ys.map aV).flatten:=by
 show((ys.drop 1).foldl (λ a p=>a++Str.empty.cps++p.cps) (ys.headD So).cps).toList=_;rw[Dm];cases ys with
 |nil=>rfl
 |cons y r=>simp[aV]
end K10
end
section
namespace RR
open PySem P15
open PW (Wd Hs Pg)
open K10 (cE bD)
inductive aZ(α:Type)where
 |ok(a:α)(n:Nat)
 |bad
 |out
def aZ.bind{α β:Type}:aZ α->(α->Nat->aZ β)->aZ β
 | .ok a n,f=>f a n
 | .bad,_=>.bad
 | .out,_=>.out
def bN:List U1:=["house","of","has","can","main","let","in","if","then","else","new","self","elder","set","not","yes","no","number","truth"]
def av(x:U1):Bool:=cE x.cps.toList&&!bN.contains x
def aL(x:U1):Nat:=if x=";" then 1 else if x="<" then 2 else if x="=" then 2 else if x="+" then 3 else if x="-" then 3 else if x="*" then 4 else if x="/" then 4 else 0
def sZ(x:U1):Int:=((x.cps.toList.foldl (λ(a c:Nat)=>a*10+(c-48)) 0:Nat):Int)
def gz(x:U1):Bool:=x=="<"||x=="="
section
variable(ws:List U1)
def aA(n:Nat):U1:=ws.getD n ""
def bT(x:U1)(n:Nat):aZ Unit:=if aA ws n=x then .ok () (n+1)else .bad
def a_(n:Nat):aZ U1:=if av (aA ws n)=true then .ok (aA ws n) (n+1)else .bad
def cf{α:Type}(item:Nat->aZ α):Nat->List α->Nat->aZ (List α)
 |0,_,_=>.out
 |k+1,c,n=>if aA ws n="," then(item (n+1)).bind λ a m=>cf item k (c++[a]) m else(bT ws ")" n).bind λ ω m=>.ok c m
def dh{α:Type}(item:Nat->aZ α)(n:Nat):aZ (List α):=(bT ws "(" n).bind λ ω m=>if aA ws m=")" then .ok [] (m+1)else(item m).bind λ a j=>cf ws item (ws.length+1) [a] j
structure Rr where
 T:Nat->Nat->Nat->Nat->aZ Tm
 Pt:Nat->Nat->Nat->aZ Tm
variable(r:Rr)
def b9(deep n:Nat):aZ (List Tm):=(dh ws (λ m=>r.T 1 1 deep m) n).bind λ ps m=>if 8<ps.length then .bad else .ok ps m
def eF(deep n:Nat):aZ Tm:=
 let x:=aA ws n
 if x="" then .bad
 else if bD x.cps.toList=true then .ok (.mk .number (.int (sZ x)) []) (n+1)
 else if x="yes" then .ok (.mk .truth (.bl true) []) (n+1)
 else if x="no" then .ok (.mk .truth (.bl false) []) (n+1)
 else if av x=true then .ok (.mk .name (.str x) []) (n+1)
 else if x="self" then .ok (.mk .self .non []) (n+1)
 else if x="new" then(a_ ws (n+1)).bind λ y m=>(b9 ws r (deep+1) m).bind λ ps j=>.ok (.mk .new (.str y) ps) j
 else if x="elder" then(bT ws "." (n+1)).bind λ ω i=>(a_ ws i).bind λ y m=>(b9 ws r (deep+1) m).bind λ ps j=>.ok (.mk .elder (.str y) ps) j
 else if x="(" then(r.T 1 1 deep (n+1)).bind λ t m=>(bT ws ")" m).bind λ ω j=>.ok t j
 else .bad
def dM(deep:Nat):Nat->Tm->Nat->aZ Tm
 |0,_,_=>.out
 |k+1,t,n=>if aA ws n="." then(a_ ws (n+1)).bind λ x m=>
   if aA ws m="(" then(b9 ws r (deep+1) m).bind λ ps j=>dM deep k (.mk .call (.str x) (t::ps)) j
   else dM deep k (.mk .field (.str x) [t]) m
  else .ok t n
def bC(deep n:Nat):aZ Tm:=(eF ws r deep n).bind λ t m=>dM ws r deep (ws.length+1) t m
def pL(deep n:Nat):aZ Tm:=(r.T 1 1 (deep+1) n).bind λ a i=>(bT ws "then" i).bind λ ω i=>(r.T 1 1 (deep+1) i).bind λ b j=>(bT ws "else" j).bind λ ω j=>(r.T 2 2 (deep+1) j).bind λ c m=>.ok (.mk .iff .non [a,b,c]) m
def jt(low deep n:Nat):aZ Tm:=(a_ ws n).bind λ x i=>(bT ws "=" i).bind λ ω i=>(r.T 1 1 (deep+1) i).bind λ a j=>(bT ws "in" j).bind λ ω j=>(r.T low low (deep+1) j).bind λ b m=>.ok (.mk .lt (.str x) [a,b]) m
def js(deep n:Nat):aZ Tm:=(bC ws r deep n).bind λ t i=>match t with
 | .mk .field l ps=>if ws.getD (i-1) ""=")" then .bad else(bT ws "=" i).bind λ ω j=>(r.T 2 2 (deep+1) j).bind λ v m=>.ok (.mk .set l (ps++[v])) m
 |_=>.bad
def cq(low deep n:Nat):aZ Tm:=
 if 14<deep then .bad
 else if aA ws n="not" then(r.Pt low (deep+1) (n+1)).bind λ t m=>.ok (.mk .nt .non [t]) m
 else if aA ws n="if" then pL ws r deep (n+1)
 else if aA ws n="let" then jt ws r low deep (n+1)
 else if aA ws n="set" then js ws r deep (n+1)
 else bC ws r deep n
def df(least low deep:Nat):Nat->Tm->Nat->aZ Tm
 |0,_,_=>.out
 |k+1,t,n=>if least<=aL (aA ws n)then(r.T (if aA ws n=";" then 1 else aL (aA ws n)+1) low (deep+1) (n+1)).bind λ u m=>
   if(gz (aA ws n)&&gz (aA ws m))=true then .bad else df least low deep k (.mk .two (.str (aA ws n)) [t,u]) m
  else .ok t n
def rd:Nat->Rr
 |0=>⟨λ ω ω ω ω=>.out,λ ω ω ω=>.out⟩
 |k+1=>⟨λ a low deep n=>(cq ws (rd k) low deep n).bind λ t m=>df ws (rd k) a low deep (ws.length+1) t m,cq ws (rd k)⟩
def dE(n:Nat):aZ U1:=if aA ws n="number" then .ok "number" (n+1)else if aA ws n="truth" then .ok "truth" (n+1)else a_ ws n
def cM(n:Nat):aZ (U1×U1):=(a_ ws n).bind λ x m=>(dE ws m).bind λ k j=>.ok (x,k) j
def c8(k:Nat)(name:U1)(n:Nat):aZ Wd:=(dh ws (cM ws) n).bind λ ps i=>if 4<ps.length then .bad else(dE ws i).bind λ a j=>(bT ws "=" j).bind λ ω j=>((rd ws k).T 1 1 1 j).bind λ t m=>.ok ⟨name,ps,a,t⟩ m
def bQ:Nat->List (U1×U1)->Nat->aZ (List (U1×U1))
 |0,_,_=>.out
 |k+1,a,n=>if aA ws n="has" then(cM ws (n+1)).bind λ x m=>bQ k (a++[x]) m else .ok a n
def b8(kf:Nat):Nat->List Wd->Nat->aZ (List Wd)
 |0,_,_=>.out
 |k+1,a,n=>if aA ws n="can" then(a_ ws (n+1)).bind λ x i=>(c8 ws kf x i).bind λ d m=>b8 kf k (a++[d]) m else .ok a n
def j8(n:Nat):aZ (Option U1):=if aA ws n="of" then(a_ ws (n+1)).bind λ y m=>.ok (some y) m else .ok none n
def dz(kf n:Nat):aZ Hs:=(a_ ws n).bind λ x i=>(j8 ws i).bind λ c i=>(bT ws "{" i).bind λ ω i=>(bQ ws (ws.length+1) [] i).bind λ fs j=>if 4<fs.length then .bad else
 (b8 ws kf (ws.length+1) [] j).bind λ a j=>if 8<a.length then .bad else(bT ws "}" j).bind λ ω m=>.ok ⟨x,c,fs,a⟩ m
def cx(kf:Nat):Nat->List Hs->Nat->aZ (List Hs)
 |0,_,_=>.out
 |k+1,a,n=>if aA ws n="house" then(dz ws kf (n+1)).bind λ d m=>cx kf k (a++[d]) m else .ok a n
def bz:List U1->Int->Bool
 |[],_=>true
 |x::r,o=>let a:=if x="(" then o+1 else if x=")" then o-1 else o;if 14<a then false else bz r a
def bb(p:Pg):List Tm:=(p.houses.flatMap λ h=>h.words.map (·.body))++[p.main.body]
noncomputable def fG(kf:Nat)(hs:List Hs)(n:Nat):aZ Pg:=if 12<hs.length then .bad else(bT ws "main" n).bind λ ω n=>(c8 ws kf "main" n).bind λ a n=>
 if aA ws n≠"" then .bad else if(a.params.all λ p=>decide (p.2="number"))=false then .bad else
 if((bb ⟨hs,a⟩).any λ b=>decide (14<b.depth))=true then .bad else if 400<aG (bb ⟨hs,a⟩)then .bad else .ok ⟨hs,a⟩ n
noncomputable def gb(kf:Nat):aZ Pg:=if bz ws 0=false then .bad else(cx ws kf (ws.length+1) [] 0).bind (fG ws kf)
end
variable{ws:List U1}
theorem au{α c:Type}{a:aZ α}{f:α->Nat->aZ c}{b:c}{m:Nat}(h:a.bind f=.ok b m):∃x i,a=.ok x i/\f x i=.ok b m:=by
 cases a with
 |ok x i=>exact⟨x,i,rfl,h⟩
 |bad=>cases h
 |out=>cases h
theorem dn{n:Nat}(h:aA ws n≠""):n<ws.length:=by
 refine uo λ z=>h ?_;unfold aA;rw[hJ,rO (lK z)];rfl
theorem bS{x:U1}{n m:Nat}{u:Unit}(a:x≠"")(h:bT ws x n=.ok u m):m=n+1/\n<ws.length:=by
 unfold bT at h;split at h
 ·rename_i e;cases h;exact⟨rfl,dn (by rw[e];exact a)⟩
 ·cases h
theorem gy:av ""=false:=by decide+kernel
theorem jY:aL ""=0:=by decide+kernel
theorem bj{x:U1}{n m:Nat}(h:a_ ws n=.ok x m):m=n+1/\n<ws.length/\av x=true/\x=aA ws n:=by
 unfold a_ at h;split at h
 ·rename_i e;cases h;exact⟨rfl,dn (λ z=>by rw[z,gy]at e;cases e),e,rfl⟩
 ·cases h
def Gd(ws:List U1)(n:Nat)(r:aZ Tm):Prop:=∀t m,r=.ok t m->m<=ws.length/\Ok t/\n+t.size<=m
def GY(ws:List U1)(n:Nat)(r:aZ (List Tm)):Prop:=∀ts m,r=.ok ts m->m<=ws.length/\(∀p∈ts,Ok p)/\n+aG ts<m
theorem zW:∀(xs:List Tm)(t:Tm),aG (xs++[t])=aG xs+t.size
 |[],t=>by show t.size+0=0+t.size;lia
 |x::xs,t=>by show x.size+aG (xs++[t])=x.size+aG xs+t.size;rw[zW xs t];lia
theorem C6{item:Nat->aZ Tm}(hi:∀n,Gd ws n (item n))(s:Nat):∀(k:Nat)(c:List Tm)(n:Nat),(∀p∈c,Ok p)->s+aG c<=n->GY ws s (cf ws item k c n)
 |0,c,n,_,_=>λ ts m h=>by cases h
 |k+1,c,n,g,v=>λ ts m h=>by
  unfold cf at h;split at h
  ·obtain⟨a,i,e,h⟩:=au h;obtain⟨o,j,w⟩:=hi _ _ _ e;refine C6 hi s k (c++[a]) i (λ p u=>?_) (by rw[zW];lia) ts m h;rcases hU.mp u with z|z
   ·exact g p z
   ·rw[dN.mp z];exact j
  ·obtain⟨a,i,e,h⟩:=au h;obtain⟨o,j⟩:=bS qP e;cases h;exact⟨qR,g,qR⟩
theorem NP{item:Nat->aZ Tm}(hi:∀n,Gd ws n (item n))(n:Nat):GY ws n (dh ws item n):=λ ts m h=>by
 unfold dh at h;obtain⟨a,i,g,h⟩:=au h;obtain⟨v,w⟩:=bS qP g;split at h
 ·rename_i e;have:=dn (ws:=ws) (n:=i) (by rw[e];decide+kernel);cases h;exact⟨qR,λ p c=>(i5 c).elim,by show n+0<_;lia⟩
 ·obtain⟨t,j,o,h⟩:=au h;obtain⟨x,u,y⟩:=hi _ _ _ o;exact C6 hi n _ [t] j (λ p c=>by rw[dN.mp c];exact u) (by show n+(t.size+0)<=j;lia) ts m h
structure RG(ws:List U1)(r:Rr):Prop where
 T:∀least low deep n,1<=least->1<=low->Gd ws n (r.T least low deep n)
 P:∀low deep n,1<=low->Gd ws n (r.Pt low deep n)
variable{r:Rr}
theorem cz(g:RG ws r)(deep n:Nat):∀ts m,b9 ws r deep n=.ok ts m->m<=ws.length/\(∀p∈ts,Ok p)/\n+aG ts<m/\ts.length<=8:=λ ts m h=>by
 unfold b9 at h;obtain⟨ps,i,e,h⟩:=au h;split at h
 ·cases h
 ·rename_i l;cases h;obtain⟨a,b,c⟩:=NP (λ n=>g.T 1 1 deep n (aQ _) (aQ _)) n _ _ e;exact⟨a,b,c,lK l⟩
theorem G9{f:Fm}{l:Lb}(h:gq f l 0):Ok (.mk f l []):=.mk h λ p a=>(i5 a).elim
variable{t:Tm}
theorem Be{f:Fm}{l:Lb}(h:gq f l 1)(a:Ok t):Ok (.mk f l [t]):=.mk h λ p c=>by rw[dN.mp c];exact a
theorem Bd{f:Fm}{l:Lb}{u:Tm}(h:gq f l 2)(a:Ok t)(b:Ok u):Ok (.mk f l [t,u]):=.mk h λ p c=>by
 rcases de.mp c with z|z
 ·rw[z];exact a
 ·rw[dN.mp z];exact b
theorem pK{f:Fm}{l:Lb}:(Tm.mk f l []).size=1:=rfl
theorem A6{f:Fm}{l:Lb}:(Tm.mk f l [t]).size=1+(t.size+0):=rfl
theorem pJ{f:Fm}{l:Lb}{ts:List Tm}:(Tm.mk f l ts).size=1+aG ts:=rfl
theorem G7{f:Fm}{l:Lb}{ts:List Tm}:(Tm.mk f l (t::ts)).size=1+(t.size+aG ts):=rfl
theorem MZ(g:RG ws r)(deep n:Nat):Gd ws n (eF ws r deep n):=λ t m h=>by
 unfold eF at h;dsimp only at h;split at h
 ·cases h
 rename_i x;have hl:=dn (ws:=ws) (n:=n) x;have fin:∀{f l},aZ.ok (Tm.mk f l []) (n+1)=.ok t m->gq f l 0->m<=ws.length/\Ok t/\n+t.size<=m:=λ e z=>by
  cases e;exact⟨qR,G9 z,by rw[pK];lia⟩
 split at h
 ·exact fin h rfl
 split at h
 ·exact fin h rfl
 split at h
 ·exact fin h rfl
 split at h
 ·exact fin h rfl
 split at h
 ·exact fin h rfl
 split at h
 ·obtain⟨y,i,o,h⟩:=au h;obtain⟨A,B,C,D⟩:=bj o;obtain⟨ps,j,v,h⟩:=au h;obtain⟨a,b,c,d⟩:=cz g _ _ _ _ v;cases h;exact⟨a,.mk trivial b,by rw[pJ];lia⟩
 split at h
 ·obtain⟨u,i,w,h⟩:=au h;obtain⟨E,G⟩:=bS qP w;obtain⟨y,H,o,h⟩:=au h;obtain⟨A,B,C,D⟩:=bj o;obtain⟨ps,j,v,h⟩:=au h;obtain⟨a,b,c,d⟩:=cz g _ _ _ _ v;cases h;exact⟨a,.mk trivial b,by rw[pJ];lia⟩
 split at h
 ·obtain⟨u,i,w,h⟩:=au h;obtain⟨a,b,c⟩:=g.T _ _ _ _ (aQ _) (aQ _) _ _ w;obtain⟨I,H,o,h⟩:=au h;obtain⟨E,G⟩:=bS qP o;cases h;exact⟨qR,b,qR⟩
 ·cases h
theorem zS(g:RG ws r)(deep s:Nat):∀(k:Nat)(t:Tm)(n:Nat),n<=ws.length->Ok t->s+t.size<=n->Gd ws s (dM ws r deep k t n)
 |0,_,_,_,_,_=>λ t m h=>by cases h
 |k+1,t,n,o,e,v=>λ u m h=>by
  unfold dM at h;split at h
  ·obtain⟨x,i,w,h⟩:=au h;obtain⟨B,C,D,E⟩:=bj w;split at h
   ·obtain⟨ps,j,y,h⟩:=au h;obtain⟨a,b,c,d⟩:=cz g _ _ _ _ y;refine zS g deep s k (.mk .call (.str x) (t::ps)) j a (.mk (show 1<=ps.length+1 from mS (dj _)) λ p A=>?_) (by rw[G7];lia) u m h;rcases de.mp A with z|z
    ·rw[z];exact e
    ·exact b p z
   ·exact zS g deep s k (.mk .field (.str x) [t]) i qR (Be rfl e) (by rw[A6];lia) u m h
  ·cases h;exact⟨o,e,v⟩
theorem da(g:RG ws r)(deep n:Nat):Gd ws n (bC ws r deep n):=λ t m h=>by
 unfold bC at h;obtain⟨u,i,e,h⟩:=au h;obtain⟨a,b,c⟩:=MZ g _ _ _ _ e;exact zS g deep n _ u i a b c t m h
theorem CZ(g:RG ws r)(low deep n:Nat)(hl:1<=low):Gd ws n (cq ws r low deep n):=λ t m h=>by
 unfold cq at h;split at h
 ·cases h
 split at h
 ·obtain⟨u,i,e,h⟩:=au h;obtain⟨a,b,c⟩:=g.P _ _ _ hl _ _ e;cases h;exact⟨a,Be rfl b,by rw[A6];lia⟩
 split at h
 ·unfold pL at h;obtain⟨u,i,e,h⟩:=au h;obtain⟨I,b1,B⟩:=g.T _ _ _ _ (aQ _) (aQ _) _ _ e;obtain⟨ω,J,e,h⟩:=au h;obtain⟨K,L⟩:=bS qP e;obtain⟨v,j,e,h⟩:=au h;obtain⟨M,y,N⟩:=g.T _ _ _ _ (aQ _) (aQ _) _ _ e;obtain⟨ω,C,e,h⟩:=au h;obtain⟨D,E⟩:=bS qP e;obtain⟨x,k,e,h⟩:=au h;obtain⟨o,w,G⟩:=g.T _ _ _ _ qQ qQ _ _ e;cases h;refine⟨o,.mk rfl λ p A=>?_,by show n+(1+(u.size+(v.size+(x.size+0))))<=m;lia⟩;rcases de.mp A with z|z
  ·rw[z];exact b1
  rcases de.mp z with z|z
  ·rw[z];exact y
  ·rw[dN.mp z];exact w
 split at h
 ·unfold jt at h;obtain⟨x,i,e,h⟩:=au h;obtain⟨Q,R,S,T⟩:=bj e;obtain⟨ω,J,e,h⟩:=au h;obtain⟨K,L⟩:=bS qP e;obtain⟨v,j,e,h⟩:=au h;obtain⟨M,y,N⟩:=g.T _ _ _ _ (aQ _) (aQ _) _ _ e;obtain⟨ω,C,e,h⟩:=au h;obtain⟨D,E⟩:=bS qP e;obtain⟨O,k,e,h⟩:=au h;obtain⟨o,w,G⟩:=g.T _ _ _ _ hl hl _ _ e;cases h;exact⟨o,Bd rfl y w,by show n+(1+(v.size+(O.size+0)))<=m;lia⟩
 split at h
 ·unfold js at h;obtain⟨U,i,e,h⟩:=au h;obtain⟨I,b1,B⟩:=da g _ _ _ _ e;split at h
  ·rename_i l ps;split at h
   ·cases h
   obtain⟨ω,C,e,h⟩:=au h;obtain⟨D,E⟩:=bS qP e;obtain⟨v,k,e,h⟩:=au h;obtain⟨o,w,G⟩:=g.T _ _ _ _ qQ qQ _ _ e;cases h;rw[pJ]at B;cases b1 with
   |mk H P=>
   refine⟨o,.mk ?_ λ p A=>?_,by rw[pJ,zW];lia⟩
   ·rw[bX];cases l<;>first|exact H.elim|(show _+1=2;rw[show ps.length=1 from H])
   ·rcases hU.mp A with z|z
    ·exact P p z
    ·rw[dN.mp z];exact w
  ·cases h
 ·exact da g _ _ _ _ h
theorem Dh(g:RG ws r)(least low deep s:Nat)(j:1<=least)(h2:1<=low):∀(k:Nat)(t:Tm)(n:Nat),n<=ws.length->Ok t->s+t.size<=n->Gd ws s (df ws r least low deep k t n)
 |0,_,_,_,_,_=>λ t m h=>by cases h
 |k+1,t,n,o,e,v=>λ u m h=>by
  unfold df at h;split at h
  ·rename_i w;obtain⟨x,i,y,h⟩:=au h;obtain⟨a,b,c⟩:=g.T _ _ _ _ (by split<;>lia) h2 _ _ y;split at h
   ·cases h
   ·exact Dh g least low deep s j h2 k (.mk .two (.str (aA ws n)) [t,x]) i a (Bd rfl e b) (by show s+(1+(t.size+(x.size+0)))<=i;lia) u m h
  ·cases h;exact⟨o,e,v⟩
theorem dX(ws:List U1):∀k,RG ws (rd ws k)
 |0=>⟨λ ω ω ω ω ω ω t m h=>(nomatch (show aZ.out=aZ.ok t m from h)),λ ω ω ω ω t m h=>(nomatch (show aZ.out=aZ.ok t m from h))⟩
 |k+1=>by
  have g:=dX ws k;refine⟨λ e low deep n o j t m h=>?_,λ low deep n j=>CZ g low deep n j⟩;obtain⟨u,i,v,h⟩:=au (show(cq ws (rd ws k) low deep n).bind _=_ from h);obtain⟨a,b,c⟩:=CZ g low deep n j _ _ v;exact Dh g e low deep n o j _ u i a b c t m h
end RR
end
section
namespace L2
open PySem PySem.Spec PyProof.Rows
section
variable{X:Cx}{o e f:Expr}{ty tx:TE}{apos cpos:Pos}{a:V0}{kvs:List (bZ×V)}
def AR(kvs:List (bZ×V))(ty tx:TE):TE:=λ c H Q=>ty c H λ y g=>tx c g λ z i=>∃k,y=kV k/\Q ((cD kvs k).getD z) i
theorem Ra{c:St}{H:Hp}{Q:VK}:AR kvs ty tx c H Q=(ty c H λ y g=>tx c g λ z i=>∃k,y=kV k/\Q ((cD kvs k).getD z) i):=rfl
theorem Ly(M:qx X.prog X.w X.K a kvs)(hu:X.A.units+1<UI)(A:PE X o (tC (.ref a)))(B:PE X e ty)(C:PE X f tx)(m:M2 X o "get" apos e f cpos):PE X (.Call (.Attribute o "get" apos) [e,f] [] cpos) (AR kvs ty tx):=by
 intro c s j H Q I h;refine wpAny_Call_method m.base m.few m.line PySem.F.plainAttrs_dict rQ PySem.F.type_dict_get (aW (A c s j H (λ v D=>v=.ref a/\AR kvs ty tx j D Q) I ⟨rfl,h⟩) λ u E n=>?_);obtain⟨x,G,w,J,K,L⟩:=n;subst K;obtain rfl:u=RA a:=J;obtain⟨vs,g,i⟩:=M.of _ w.kIn;obtain⟨N,es,ep,O,P,ω⟩:=id i;refine⟨i.typeIs,?_,?_⟩
 ·intro b R;cases R;exact⟨N,O,P.2.1⟩
 rw[m.trees];refine Sl rfl (Ta (R8 (aW (B c E j G _ w L) λ iv S ⟨y,T,U,Y,Z⟩=>R8 (aW (C c S j T _ U Z) λ fv s3 ⟨z,H3,I3,rz,k,ey,q3⟩=>Tu ?_))));subst ey;obtain⟨vs,g,i⟩:=M.of _ I3.kIn;refine call_meetsIn rQ i.typeIs yq (yp _ _ _) (meets_dict_get_default (fZ X.prog X.w) a (qu Y) M.ns fv) ⟨_,i.mapOf,⟨_,H3,I3.tok _,?_,q3⟩⟩;exact(g.val k).getD rz
end
variable{X:Cx}
def Ay:List V->Hp->VK->Prop:=λ a H Q=>∃(x:U1)(n:Int),a=[.str x]/\intText? x=some n/\x.length<=640/\Q (.int n) H
variable{Q:VK}{H:Hp}
theorem Qi{xs:List V}:Ay xs H Q=∃(x:U1)(n:Int),xs=[.str x]/\intText? x=some n/\x.length<=640/\Q (.int n) H:=rfl
theorem NO:gN X (.type "int") Ay:=by
 intro a s e H g us Q I r h;obtain⟨x,n,rfl,c,hl,q⟩:=h;obtain⟨u,rfl,t,rfl⟩:=kj r;exact W.KIN.call_text c hl ⟨.int n,H,I.tok _,⟨_,rfl⟩,q⟩
theorem My{c:Nat}(h:K10.cG.contains c=true):48<=c/\c<=57:=by
 have h:=mO.mp h;unfold K10.cG at h;simp only[de,i5,or_false]at h;omega
theorem MP{x:U1}(h:K10.bD x.cps.toList=true):intText? x=some (NumText.digitsVal x.cps.toList:Int)/\x.length<=640:=by
 have hl:x.length=x.cps.toList.length:=by show x.cps.size=_;simp
 have hd:NumText.AllDigits x.cps.toList/\x.cps.toList≠[]/\x.cps.toList.length<=9:=by
  cases e:x.cps.toList with
  |nil=>rw[e]at h;cases h
  |cons c r=>
   rw[e]at h;unfold K10.bD at h;rw[fV,decide_eq_true_eq]at h;refine⟨?_,List.cons_ne_nil _ _,by rw[cj];lia⟩;by_cases a:c=48
   ·rw[UL a]at h;have hr:=List.isEmpty_iff.mp h.2;subst hr a;intro d hd;rw[dN.mp hd];decide
   ·rw[UK a]at h;intro d hd;exact My (i7.mp h.2 d hd)
 exact⟨intText_digits hd.1 hd.2.1 (by rw[hl];lia),by rw[hl];lia⟩
structure cT(P:Program)(w:V1)(K:X0)(mg:U1->Option Y1)(base:M1)(k:Nat)(f:V0)(sp:Sp):Prop where
 ex:∃fd ps,bc P w K mg base (f7 P w) k f fd ps sp/\Binds K fd ps []/\W.FnAt f base
variable{sp:Sp}{P:Program}{K:X0}
theorem aT.item{w:V1}{mg:U1->Option Y1}{base:M1}{k:Nat}{x:U1}{st:RH}{ps:List U1}(h:aT P w K mg base k x ps sp)(N:Fn K mg x st)(a:K.In base):∃f,mg x=some (.ref f)/\cT P w K mg base k f sp:=by
 obtain⟨f,c,F,b,kp,m⟩:=h.ex;obtain⟨z,g,i,n⟩:=N.ex;cases m.symm.trans n;obtain⟨A,B,kV,o,C,D,cdv,G,u,rfl,v,y⟩:=i.ex;exact⟨f,m,c,ps,F,b,_,_,_,_,a _ _ v⟩
theorem cT.mono{w:V1}{mg:U1->Option Y1}{base:M1}{j k:Nat}{f:V0}(h:cT P w K mg base j f sp)(a:j<=k):cT P w K mg base k f sp:=
 let⟨c,ps,F,b,m⟩:=h.ex;⟨c,ps,F.mono a,b,m⟩
def Ew(P:Program)(w:V1)(K:X0)(mg:U1->Option Y1)(base:M1)(j:Nat)(E:XK)(tc:TE)(t:TA):TE:=λ a H Q=>tc a H λ v g=>∃f c,v=.ref f/\cT P w K mg base j f c/\t a g λ vs i=>c vs i Q E
theorem Q7{w:V1}{mg:U1->Option Y1}{base:M1}{j:Nat}{E:XK}{tc:TE}{t:TA}{a:St}:Ew P w K mg base j E tc t a H Q=tc a H λ v c=>∃f sp,v=.ref f/\cT P w K mg base j f sp/\t a c λ vs g=>sp vs g Q E:=rfl
section
variable{X:Cx}{x:U1}{k j:Nat}{e:Expr}{es:List Expr}{tc:TE}{t:TA}{p pos:Pos}{E:XK}
theorem Bw(hr:bw j X.A)(A:PE (X.xx E) (.Name x p) tc)(B:PA (X.xx E) (e::es) t)(C:Rt (e::es) X.env=(false,RJ e X.env)::Rt es X.env:=by rfl)(i:(RK pos (Rt es X.env)).any (·.1)=false:=by rfl):PE (X.xx E) (.Call (.Name x p) (e::es) [] pos) (Ew X.prog X.w X.K X.mg X.base j E tc t):=by
 intro a s m H Q I h;refine RP (aW (A a s m H _ I h) λ u D n=>?_);obtain⟨v,G,w,J,f,S,K,L,h⟩:=n;subst K;obtain rfl:u=RA f:=J;obtain⟨T,ps,F,b,M,N,o,O,g⟩:=L.ex;have c:∀{P:Hp}{y:Z1},Inv (X.xx E) a m P y->W.FnAt f y.heap:=λ R=>⟨M,N,o,O,R.bk _ _ g⟩;refine W.callWith_F (c w) (aW (B pos a D m G _ w h) λ us U n=>?_) C i;obtain⟨vs,Y,z,r,q⟩:=n;exact⟨c z,uJ (dvs:=[]) (ds:=[]) F hr b .nil (bx.passes λ ω ω ω ω q=>q) z r (by rw[eu];exact q)⟩
end
def rn(mg:U1->Option Y1)(x:U1):TE:=λ ω H Q=>∀f,mg x=some (.ref f)->Q (.ref f) H
theorem O7{mg:U1->Option Y1}{x:U1}{a:St}:rn mg x a H Q=∀f,mg x=some (.ref f)->Q (.ref f) H:=rfl
theorem JG{X:Cx}{x:U1}{st:RH}{pos:Pos}(F:Fn X.K X.mg x st)(c:Gl X x)(hd:(x==("__debug__":U1))=false:=by decide):PE X (.Name x pos) (rn X.mg x):=by
 obtain⟨f,i,ω,m⟩:=F.ex;intro a s g H Q I h;exact tw (v:=.ref f) c m rfl hd a s g H Q I (h f m)
theorem bc.impl{w:V1}{mg:U1->Option Y1}{base:M1}{CX:ij}{k:Nat}{f:V0}{i:RN}{ps:List U1}{sp':Sp}(F:bc P w K mg base CX k f i ps sp)(h:∀vs H Q E,sp' vs H Q E->sp vs H Q E):bc P w K mg base CX k f i ps sp':=
 ⟨λ vs H Q E x=>F.len vs H Q E (h _ _ _ _ x),λ A outer s H g us vs Q E a b c d e=>F.run A outer s H g us vs Q E a b c d (h _ _ _ _ e)⟩
theorem cT.imp{w:V1}{mg:U1->Option Y1}{base:M1}{k:Nat}{f:V0}{sp':Sp}(h:cT P w K mg base k f sp)(i:∀vs H Q E,sp' vs H Q E->sp vs H Q E):cT P w K mg base k f sp':=
 let⟨a,ps,F,b,m⟩:=h.ex;⟨a,ps,F.impl i,b,m⟩
def sJ(P:Program)(w:V1)(K:X0)(mg:U1->Option Y1)(base:M1)(N:List U1)(qual:U1)(scope:SR)(f:V0)(cd:Y1)(cl:List (U1×V0))(A:N1)(outer:List Env)(s:Z1)(H:Hp)(E:XK):Cx where
 prog:=P
 w:=w
 K:=K
 mg:=mg
 base:=base
 A:=A.deeper (W.envX qual scope s.heap.objs.size f cd cl)
 N:=N
 s₀:=s
 H₀:=H
 env:=W.envX qual scope s.heap.objs.size f cd cl
 outer:=outer
 stack:=W.envX qual scope s.heap.objs.size f cd cl::outer
 ex:=[]
 calm:=true
 fn:=λ ω=>false
 pn:=[]
 xe:=λ e c=>Rz (RD P w) (A.deeper (W.envX qual scope s.heap.objs.size f cd cl)) (leaving (W.envX qual scope s.heap.objs.size f cd cl) e) (λ ω a=>f7 P w outer H s E e a) (λ g a=>f7 P w outer H s E g a) c
section
variable{P:Program}{w:V1}{K:X0}{mg:U1->Option Y1}{base:M1}{N:List U1}{qual:U1}{scope:SR}{f ca c':V0}{A:N1}{outer:List Env}{s:Z1}{H:Hp}{E:XK}{y z:U1}
structure D4(scope:SR)(y z:U1):Prop where
 kind:scope.kind=.function
 nocell:∀x∈scope.names,x.2≠Sn
 hy:scope.names.lookup y=some .local
 hz:scope.names.lookup z=some .free
 only:∀x,scope.names.lookup x=some .free->x=z
 co:scope.isCoroutine=false
 gen:scope.isGenerator=false
theorem xy{z x:U1}{c c':V0}(h:i9 x [(z,c)]=some c'):x=z/\c'=c:=by
 rw[gG]at h;by_cases e:x=z
 ·subst e;rw[beq_self_eq_true]at h;cases h;exact⟨rfl,rfl⟩
 ·rw[beq_eq_false_iff_ne.mpr e]at h;cases h
theorem E4{z:U1}{c:V0}:i9 z [(z,c)]=some c:=by rw[gG,beq_self_eq_true]
theorem Kb{g:M1}{tk:Nat}{j u:Y1}{B v:V}(S:D4 scope y z)(a:gR P w K mg base A outer s H)(M:A.handled=none)(I:base.IsCell ca (some u))(O:RelV B j)(Q:RelV v u)(n:∀b o,s.heap.get? b=some o->g.get? b=some o)(R:g.Ns s.heap.objs.size (λ x=>[(y,j)].reverse.lookup x)):Inv (sJ P w K mg base [y,z] qual scope f (.ref c') [(z,ca)] A outer s H E) [] [some B,some v] H {s with heap:=g,toks:=tk}:=by
 have m:s.heap.IsCell ca (some u):=I.keeps λ b o e=>(a.bs b o e).1;have C:H ca=none:=by obtain⟨o,e,ω⟩:=I;exact(a.bs _ _ e).2
 refine⟨⟨a.mod,S.kind,rfl,rfl,aQ _,λ x X c g T=>(xy g).1.trans (xy T).1.symm,λ x D=>?_,λ x c h=>(nomatch h),λ ω=>M,Around.frames_deeper a.frames,.inr ⟨rfl,rfl⟩,λ b q=>(nomatch q),a.bs,a.bsz,λ b o e q=>(nomatch q),λ b q=>(nomatch q),a.funs,a.frf⟩,rfl,a.bare,Un.kept n,⟨_,R,λ i x J G L Y=>?_⟩,λ x c e=>?_,a.hok.fresh (aQ _),λ x c e=>?_,λ p U=>(nomatch U),a.hok.kept n,rfl⟩
 ·have D:scope.names.lookup x=some .cell\/scope.names.lookup x=some .free:=D;rcases D with q|q
  ·exact UM rfl (S.nocell _ (qp q))
  ·rw[S.only x q];exact⟨ca,E4⟩
 ·match i with
  |0=>
   cases(show some y=some x from G);cases(show some (some B)=some (some J)from L);exact⟨j,O,.inl ⟨S.hy,(show i9 y [(y,j)]=some j by rw[gG,beq_self_eq_true])⟩⟩
  |1=>
   cases(show some z=some x from G);cases(show some (some v)=some (some J)from L);exact⟨u,Q,.inr ⟨.inr S.hz,ca,E4,m.keeps n⟩⟩
  |i+2=>exact(nomatch (show none=some x from G))
 ·rw[(xy e).2];exact⟨_,m.keeps n⟩
 ·rw[(xy e).2];exact C
theorem Ny{cl:List (U1×V0)}{e:Y1}{s':Z1}(r:bx (sJ P w K mg base N qual scope f (.ref c') cl A outer s H E) (λ ω=>E) e s'):(sJ P w K mg base N qual scope f (.ref c') cl A outer s H E).xe e s':=by
 obtain⟨a,C,i,D,j,rfl,I,F,q⟩:=r;show Rz _ _ (leaving _ _) _ _ _;unfold leaving;refine Ro (uR I rfl rfl rfl F λ G m n=>qm m n λ J c o=>?_);obtain⟨u,vs,v,x,T,B,g⟩:=o;exact⟨a,C,i,j,rfl,c.os,c.bare,c.base,c.hok,u,⟨vs,v,x,T,B,g.new,g.free,g.ne⟩,q⟩
theorem JW{c:T8}{nm:U1}{g:Expr}{X B u:Y1}{v:V}{k:Nat}(S:D4 scope y z)(hf:base.get? f=some (TU nm qual c g scope [(z,ca)] X c' B))(hc:base.IsCell ca (some u))(rv:RelV v u)(i:∀vs (H:Hp) Q E,sp vs H Q E->∃Y:M1->Prop,H c'=some (.ext Y)/\∀h,Y h->∃o vs t,h.get? c'=some o/\o.data=.fields vs/\vs[1]?=some (.str qual t))(len:∀vs H Q E,sp vs H Q E->vs.length=1)(j:∀(A:N1)(outer:List Env)(s:Z1)(H:Hp)(m:V)(Q:VK)(E:XK),bw k (A.deeper (W.envX qual scope s.heap.objs.size f (.ref c') [(z,ca)]))->sp [m] H Q E->∃D,PE ((sJ P w K mg base [y,z] qual scope f (.ref c') [(z,ca)] A outer s H E).xx E) g D/\D [some m,some v] H Q):bc P w K mg base (f7 P w) (k+1) f (W.kla_fn nm qual c g scope [(z,ca)] X (.ref c') B) [y] sp:=by
 refine⟨len,λ A outer s H Z us vs Q E hr C hb r n=>?_⟩;have hl:=len _ _ _ _ n;obtain⟨m,rfl⟩:∃m,vs=[m]:=by
  match vs,hl with
  |[a],_=>exact⟨a,rfl⟩
 obtain⟨u0,rfl,r0⟩:=kj r;have G:s.heap.NoLimit:=C.mod.nolimit.keeps λ b o e=>(C.bs b o e).1;obtain⟨φ,hH,L⟩:=i _ _ _ _ n;obtain⟨o,ws,t,g1,g2,g3⟩:=L _ (C.hok _ _ hH).1;refine W.kla_callFunE hr.depth (C.bs _ _ hf).1 rfl S.co S.gen rfl ⟨c',o,ws,t,rfl,g1,g2,g3⟩ (hb _ _ _ _ ?_);refine wpAny_newFunctionEnv S.nocell (λ x hx=>?_) (λ h1 M O=>?_) S.kind
 ·cases dN.mp (show x∈[(y,u0)]from hx);exact S.hy
 have hk:∀b o,s.heap.get? b=some o->h1.get? b=some o:=λ b o e=>O.extBut b o (dY (Rq e)) (Rp _ e);refine⟨G.keeps hk,W.kla_codeExpr ?_⟩;obtain⟨D,R,hq⟩:=j A outer s H m Q E (hr.deeper _) n;have I:Inv (sJ P w K mg base [y,z] qual scope f (.ref c') [(z,ca)] A outer s H E) [] [some m,some v] H {s with heap:=h1,toks:=s.toks+1}:=Kb S C hr.hd hc r0 rv hk M;refine R7 (R [] _ _ H Q (I.wish _) hq) (λ u' s' T=>?_) λ e s' T=>Ny T;obtain⟨v',H',J,U,q⟩:=T;exact⟨v',H',J.os,J.bare,J.base,J.hok,U,q⟩
end
end L2
end
section
namespace TM
open PySem L2 P15 WK
structure Kq(H H':Hp):Prop where
 t:∀b xs,H b=some (.tup xs)->H' b=some (.tup xs)
 z:∀b o xs,H b=some (.frz o (.tup xs))->H' b=some (.frz o (.tup xs))
 i:∀b C dx f v fs,f≠("row":U1)->H b=some (.ins C dx ((f,v)::fs))->H' b=some (.ins C dx ((f,v)::fs))
variable{H' H:Hp}
theorem Kq.trans{H'':Hp}(a:Kq H H')(b:Kq H' H''):Kq H H'':=⟨λ ω ω h=>b.t _ _ (a.t _ _ h),λ ω ω ω h=>b.z _ _ _ (a.z _ _ _ h),λ ω ω ω ω ω ω n h=>b.i _ _ _ _ _ _ n (a.i _ _ _ _ _ _ n h)⟩
theorem Kq.of(s:ao H H'):Kq H H':=⟨λ ω ω h=>s _ _ h,λ ω ω ω h=>s _ _ h,λ ω ω ω ω ω ω ω h=>s _ _ h⟩
theorem Kq.kt(k:Kq H H'):Kt H H':=⟨k.t,k.z⟩
theorem Kq.sxl{l:V0}{xs:List V}(s:SX l H H')(h:H l=some (.lst xs)):Kq H H':=
 ⟨λ b xs e=>s _ _ (λ z=>by rw[z,h]at e;cases e) e,λ b o xs e=>s _ _ (λ z=>by rw[z,h]at e;cases e) e,λ b i a f v g n e=>s _ _ (λ z=>by rw[z,h]at e;cases e) e⟩
structure SY(g:V0)(H H':Hp):Prop where
 k:∀b o,b≠g->(∀ps,o≠.tbl ps)->H b=some o->H' b=some o
 t:∀b ps,b≠g->H b=some (.tbl ps)->∃ps',H' b=some (.tbl ps')
variable{g:V0}
theorem SY.ofx(s:SX g H H'):SY g H H':=⟨λ b o n ω e=>s _ _ n e,λ b ps n e=>⟨ps,s _ _ n e⟩⟩
theorem SY.of(s:ao H H'):SY g H H':=.ofx (SX.of s)
theorem SY.put(o:HO):SY g H (ar H g o):=.ofx (SX.put o)
theorem SY.trans{H'':Hp}(a:SY g H H')(b:SY g H' H''):SY g H H'':=⟨λ c o n t h=>b.k c o n t (a.k c o n t h),λ c ps n e=>let⟨i,j⟩:=a.t c ps n e;b.t c i n j⟩
theorem SY.lst{g b:V0}{H H':Hp}{xs:List V}(s:SY g H H')(n:b≠g)(e:H b=some (.lst xs)):H' b=some (.lst xs):=s.k _ _ n (λ ω z=>by cases z) e
theorem SY.free{b:V0}(s:SY g H H')(n:b≠g)(e:H' b=none):H b=none:=by
 cases z:H b with
 |none=>rfl
 |some o=>
  by_cases t:∃ps,o=.tbl ps
  ·obtain⟨ps,rfl⟩:=t;obtain⟨a,y⟩:=s.t _ _ n z;rw[e]at y;cases y
  ·rw[s.k _ _ n (λ ps y=>t ⟨ps,y⟩) z]at e;cases e
theorem SY.side{p:V0}{H'':Hp}(s:SY g H H')(i:H p=none)(x:SX p H' H''):SY g H H'':=⟨λ b o n t e=>x _ _ (bY e i) (s.k _ _ n t e),λ b ps n e=>let⟨a,j⟩:=s.t _ _ n e;⟨a,x _ _ (bY e i) j⟩⟩
theorem Kq.sy{C a:V0}{i:V}{fs:List (U1×V)}(s:SY g H H')(h:H g=some (.ins C a (("row",i)::fs))):Kq H H':=
 ⟨λ b j e=>s.k _ _ (λ z=>by rw[z,h]at e;cases e) (λ ω z=>by cases z) e,λ b o j e=>s.k _ _ (λ z=>by rw[z,h]at e;cases e) (λ ω z=>by cases z) e,λ b w m f v u n e=>s.k _ _ (λ z=>by rw[z,h]at e;cases e;exact n rfl) (λ ω z=>by cases z) e⟩
section
variable{K:X0}{C:V0}{H H':Hp}
theorem zG:("form":U1)≠"row":=by decide+kernel
theorem By:("name":U1)≠"row":=by decide+kernel
mutual
theorem TO.kq(k:Kq H H'):∀{v:V}{t:Tm},TO K C H v t->TO K C H' v t
 |_,_,.mk a b c d e=>.mk (k.i _ _ _ _ _ _ zG a) (ay.kt b k.kt) (cU.kq k c) (ay.kt d k.kt) (e.kt k.kt)
theorem cU.kq(k:Kq H H'):∀{vs:List V}{ts:List Tm},cU K C H vs ts->cU K C H' vs ts
 |_,_,.nil=>.nil
 |_,_,.cons h a=>.cons (TO.kq k h) (cU.kq k a)
end
variable{c:CS}
theorem _root_.WK.eP.kq(k:Kq H H'){v:V}{d:PW.Wd}(h:eP K c H v d):eP K c H' v d:=by
 cases h with
 |mk a b t=>exact .mk (k.i _ _ _ _ _ _ By a) (b.kt k.kt) (t.kq k)
theorem _root_.WK.gC.kq(k:Kq H H'){v:V}{d:PW.Hs}(h:gC K c H v d):gC K c H' v d:=by
 cases h with
 |mk a b q t=>exact .mk (k.i _ _ _ _ _ _ By a) (b.kt k.kt) (ay.kt q k.kt) (t.mono λ ω ω r=>eP.kq k r)
end
end TM
end
section
namespace L2
open PySem PySem.Spec PyProof.Rows
open TM (SY)
def HK:Obj:={cls:=.none,data:=.freed}
def gL(h:M1)(p:V0->Bool):M1:={h with objs:=h.objs.mapIdx λ i o=>if p i then o else HK}
theorem Nq{h:M1}{p:V0->Bool}:(gL h p).objs.size=h.objs.size:=by simp[gL]
theorem Mt{h:M1}{p:V0->Bool}{b:V0}:(gL h p).get? b=if p b=true then h.get? b else none:=by
 unfold Heap.get? gL;simp only[Array.getElem?_mapIdx];cases h.objs[b]? with
 |none=>
  by_cases e:p b=true
  ·rw[UL e];rfl
  ·rw[UK e];rfl
 |some o=>
  by_cases e:p b=true
  ·rw[UL e];simp only[uB,UL e]
  ·rw[UK e];simp only[uB,UK e];rfl
theorem Dq{h base e:M1}:∀{l:List Env},h.FunFrames base l->(∀b∈fQ l,e.get? b=none)->h.FunFrames e l
 |[],_,_=>trivial
 |i::rest,x,q=>by
  obtain⟨a,⟨L,o,b1,n,j,m⟩,c⟩:=x;refine⟨a,⟨L,o,b1,q L ?_,j,m⟩,Dq c λ b g=>q b ?_⟩
  ·unfold fQ;rw[pU,b1];exact cy
  ·unfold fQ at g ⊢;rw[pU,b1];exact cV _ g
section
variable{X:Cx}{af:List (V0×Obj)}{σ:St}{H:Hp}{s:Z1}{z:U1}{f ca a:V0}{fo:Obj}{o:HO}
theorem Inv.adopt(I:Inv X af σ H s)(w:X.s₀.heap.objs.size<=a)(g:H a=none)(nl:a≠X.env.locals)(y:∀x c,X.env.cells.lookup x=some c->c≠a)(A:∀p∈X.pn++af,p.1≠a)(new:bh X.prog X.w (ar H a o) s.heap a o):Inv X af σ (ar H a o) s:=by
 have i:∀b u,X.s₀.heap.get? b=some u->b≠a:=λ b u e z=>UM (dv (z▸Rq e) w) (fH _);refine⟨I.ok,I.os,I.bare,⟨I.base.keep,I.base.slot,λ b u e n x=>by rw[aU (i b u e)];exact I.base.free b u e n x,I.base.there,λ b j e=>?_,λ b u j e=>?_,λ b ps e=>?_⟩,I.loc,I.cell,by rw[aU (Ne.symm nl)];exact I.free,λ x c e=>by rw[aU (y x c e)];exact I.freeC x c e,λ p v=>?_,I.hok.laidN (λ ω ω e=>e) g new,I.len⟩
 ·have:=I.base.tups b j e;rw[aU (λ z=>by rw[z,g]at this;cases this)];exact this
 ·have:=I.base.frzs b u j e;rw[aU (λ z=>by rw[z,g]at this;cases this)];exact this
 ·obtain⟨m,q⟩:=I.base.tbls b ps e;exact⟨m,by rw[aU (λ z=>by rw[z,g]at q;cases q)];exact q⟩
 ·obtain⟨B,C,D⟩:=I.pin p v;exact⟨B,by rw[aU (A p v)];exact C,D⟩
theorem Inv.env2(I:Inv X af σ H s)(J:(f,fo)∈af)(n:X.env.cells.lookup z=some ca)(x:X.fn z=true)(v:X.stack=X.env::X.outer)(A:X.env.frame=some X.env.locals):∃c,gR X.prog X.w X.K X.mg c X.A X.stack s H/\c.get? f=some fo/\(∀o,s.heap.get? ca=some o->c.get? ca=some o)/\(∀b o,X.base.get? b=some o->c.get? b=some o):=by
 have g:=I.env0;obtain⟨K,L,M,N,f5⟩:=I.pin _ (i_ _ J);obtain⟨cv,oc,O,P⟩:=I.cell _ _ n;have Q:=I.freeC _ _ n;have R:=I.ok.cab _ _ x n;let p:V0->Bool:=λ b=>(X.base.get? b).isSome||(b==f||b==ca)
 have get:∀b,(gL s.heap p).get? b=if p b=true then s.heap.get? b else none:=λ b=>Mt;have i:∀b u,X.base.get? b=some u->(gL s.heap p).get? b=some u:=λ b u e=>by
  rw[get,UL (by show((X.base.get? b).isSome||_)=true;rw[e];rfl)];exact(g.bs _ _ e).1
 have S:(gL s.heap p).get? f=some fo:=by
  rw[get,UL (by show(_||(f==f||_))=true;rw[beq_self_eq_true,Bool.true_or,mQ])];exact K
 have T:∀u,s.heap.get? ca=some u->(gL s.heap p).get? ca=some u:=λ u e=>by
  rw[get,UL (by show(_||(_||ca==ca))=true;rw[beq_self_eq_true,mQ,mQ])];exact e
 refine⟨gL s.heap p,⟨g.frames,⟨g.mod.kin.keeps i,g.mod.glob.keeps i,?_,g.mod.nolimit.keeps i⟩,λ b u e=>?_,by rw[Nq];exact aQ _,Dq g.funs λ b w=>?_,g.frf,g.hok,g.bare⟩,S,T,i⟩
 ·obtain⟨U,Y,Z⟩:=g.mod.blt;exact⟨U,Y.keeps i,Z⟩
 ·rw[get]at e;split at e
  ·rename_i B;refine⟨e,?_⟩;rcases kN.mp B with q|q
   ·obtain⟨D,C⟩:=yv.mp q;exact(g.bs _ _ C).2
   ·rcases kN.mp q with q|q
    ·rw[beq_iff_eq.mp q];exact L
    ·rw[beq_iff_eq.mp q];exact Q
  ·cases e
 ·rw[get,UK];intro B;rw[v]at w;have j:b=X.env.locals\/b∈X.fs:=by
   unfold fQ at w;rw[pU,A]at w;exact de.mp w
  rcases kN.mp B with q|q
  ·obtain⟨D,C⟩:=yv.mp q;have:=(g.funs.mem (b:=b) (by rw[v];exact w)).1;rw[C]at this;cases this
  ·rcases kN.mp q with q|q
   ·rw[beq_iff_eq.mp q]at j;rcases j with y|y
    ·exact M y
    ·exact N y
   ·rw[beq_iff_eq.mp q]at j;rcases j with y|y
    ·obtain⟨m,⟨ol,es,ep,E,G,ω⟩,ω⟩:=I.loc;rw[<-y,O]at E;cases E;rw[P]at G;cases G
    ·obtain⟨ω,D,y',ω⟩:=I.ok.funs.mem y;exact UM (dv (Rq y') R) (fH _)
def oW(c:V0)(q:U1):HO:=.ext λ h=>∃e vs t,h.get? c=some e/\e.data=.fields vs/\vs[1]?=some (.str q t)
theorem Nl{P:Program}{w:V1}{H:Hp}{h:M1}{c:V0}{q:U1}{e:Obj}{vs:Array Y1}{t:Tok}(a:h.get? c=some e)(b:e.data=.fields vs)(d:vs[1]?=some (.str q t)):bh P w H h c (oW c q):=
 ⟨⟨e,vs,t,a,b,d⟩,⟨_,a⟩,λ v x ⟨g,i,j,m,n,u⟩ k=>⟨g,i,j,k _ m,n,u⟩⟩
def pj(P:V0)(pos:Pos)(q:U1)(H:Hp):Prop:=H P=some (.tbl #[])\/∃a b c,H P=some (.tbl #[a,b,.ref c])/\codeAmong pos [a,b,.ref c]=some (.ref c)/\TriplesOk [a,b,.ref c]/\H c=some (oW c q)
theorem KG{i:T8}{m:Expr}{scope:SR}{pos:Pos}{c P:V0}{w:List (U1×V0)}{Q:Y1->Z1->Prop}{E:Y1->Z1->Prop}(I:Inv X af σ H s)(M:iW X.mg X.base)(A:X.env.code=.ref c)(C:W.CodeHd X.base c P)(hT:pj P pos (X.env.qual++"<lambda>") H)(N:closureFor scope X.env=pure w)(J:defaultsOf i X.env=([],[]))(h:∀f c' y pm s' H2,(∀g,SY g H H2)->pj P pos (X.env.qual++"<lambda>") H2->H2 c'=some (oW c' (X.env.qual++"<lambda>"))->Inv X ((f,TU "<lambda>" (X.env.qual++"<lambda>") i m scope w pm c' y)::af) σ H2 s'->Q (.ref f) s'):Rz (RD X.prog X.w) X.A (RJ (.Lambda i m scope pos) X.env) Q E s:=by
 obtain⟨bm,o,b1,b2,b3,b4,b5,b6,b7⟩:=M;have hg:s.heap.Ns RE X.mg:=I.mod.glob.keeps I.bk;have nP:∀{ps},H P=some (.tbl ps)->∀b O,X.base.get? b=some O->b≠P:=λ B b O e z=>by
  have:=(I.bs b O e).2;rw[z,B]at this;cases this
 rcases hT with B|⟨a,b,c',B,R,S,T⟩
 ·have D:s.heap.get? P=some (W.tabObj #[]):=I.hok P _ B;have a0:RE≠P:=by
   obtain⟨og,es,ep,e,ω⟩:=I.mod.glob;exact nP B _ _ e
  refine W.kla_eval J (W.kla_makeFunction (mg:=X.mg) N I.ok.glob hg A (C.keeps I.bk) D trivial rfl a0 ⟨bm,o,b1,b2,b3,nP B _ _ b4,I.bk _ _ b4,b5,b6,b7⟩ λ c' y K tk hx j G U Y=>?_);obtain⟨f0,oc,vs,t,e2,b0,hd,hv⟩:=U;cases e2;have cP:c'≠P:=λ z=>by
   have:=Rq D;rw[z]at j;exact UM this (Nat.not_lt.mpr j)
  have c0:P<K.objs.size:=Rq Y;have I1:Inv X af σ (ar H P (.tbl (#[]++#[Se pos.line,Se pos.col,.ref c']))) {s with heap:=K.push (TU "<lambda>" (X.env.qual++"<lambda>") i m scope w ((X.mg "__name__").getD .none) c' y),toks:=tk}:=
   I.grown B (λ b O M e=>Rp _ (hx b O M e)) (Rp _ Y)
  have Z:X.s₀.heap.objs.size<=c':=bR I.sz j;have hL:X.env.locals<c':=dv I.lt j;have L:H c'=none:=I.hok.fresh j;have d0:ar H P (.tbl (#[]++#[Se pos.line,Se pos.col,.ref c'])) c'=none:=by rw[aU cP];exact L
  have np:∀p∈X.pn++af,p.1≠c':=λ p hp z=>by
   have:=Rq (I.pin p hp).1;rw[z]at this;exact UM (dv this j) (fH _)
  have nc:∀x c,X.env.cells.lookup x=some c->c≠c':=λ x c e z=>by
   obtain⟨v,o',q,ω⟩:=I.cell x c e;have:=Rq q;rw[z]at this;exact UM (dv this j) (fH _)
  have I2:=I1.adopt (o:=oW c' (X.env.qual++"<lambda>")) Z d0 (lL hL) nc np (Nl (Rp _ b0) hd hv);have e0:ar (ar H P (.tbl (#[]++#[Se pos.line,Se pos.col,.ref c']))) c' (oW c' (X.env.qual++"<lambda>")) K.objs.size=none:=by
   rw[aU (lL G),aU (lL c0)];exact I.hok.fresh (bR j (rX G))
  have I3:=I2.pin1 (p:=(K.objs.size,TU "<lambda>" (X.env.qual++"<lambda>") i m scope w ((X.mg "__name__").getD .none) c' y)) (RC _ rfl) e0 (bR Z (rX G)) (lL (Nat.lt_trans hL G)) (λ v z=>by cases z);refine h _ _ _ _ _ _ (λ g=>⟨λ b o' n t e=>?_,λ b ps n e=>?_⟩) (.inr ⟨Se pos.line,Se pos.col,c',?_,?_,?_,bu⟩) bu I3
  ·rw[aU (bY e L),aU (λ z=>by rw[z,B]at e;cases e;exact t _ rfl)];exact e
  ·rw[aU (bY e L)];by_cases M:b=P
   ·subst M;exact⟨_,bu⟩
   ·exact⟨ps,by rw[aU M];exact e⟩
  ·rw[aU (Ne.symm cP),bu];rfl
  ·simp[codeAmong,Se]
  ·simp[TriplesOk,Se]
 ·have D:s.heap.get? P=some (W.tabObj #[a,b,.ref c']):=I.hok P _ B;refine W.kla_eval J (W.kla_makeFunctionHit (mg:=X.mg) N I.ok.glob hg A (C.keeps I.bk) D S R ⟨bm,o,b1,b2,b3,nP B _ _ b4,I.bk _ _ b4,b5,b6,b7⟩ λ y K tk hx j=>?_);have I1:Inv X af σ H {s with heap:=K.push (TU "<lambda>" (X.env.qual++"<lambda>") i m scope w ((X.mg "__name__").getD .none) c' y),toks:=tk}:=
   I.kept λ b u q=>Rp _ (hx b u q)
  have I3:=I1.pin1 (p:=(K.objs.size,TU "<lambda>" (X.env.qual++"<lambda>") i m scope w ((X.mg "__name__").getD .none) c' y)) (RC _ rfl) (I.hok.fresh j) (bR I.sz j) (lL (dv I.lt j)) (λ v z=>by cases z);exact h _ _ _ _ _ _ (λ g=>SY.of (ao.refl _)) (.inr ⟨a,b,c',B,R,S,T⟩) T I3
end
def D1(K:X0)(mg:U1->Option Y1)(Pt:V0)(lp:Pos)(qn:U1)(params:T8)(body:Expr)(scope:SR)(z:U1)(i:Nat)(iZ:M1->Sp)(E:XK)(te:TE):TE:=λ w H Q=>te w H λ A y=>∃v,w[i]?=some (some v)/\pj Pt lp qn y/\
 ∀(f ca n:V0)(o B u:Y1)(a:M1)(m:Hp),(∀g,SY g y m)->pj Pt lp qn m->m n=some (oW n qn)->Mod K mg a->iW mg a->a.get? f=some (TU "<lambda>" qn params body scope [(z,ca)] B n o)->a.IsCell ca (some u)->RelV v u->iZ a [A,.ref f] m Q E
variable{K:X0}{H:Hp}
theorem QC{mg:U1->Option Y1}{Pt:V0}{lp:Pos}{m:U1}{params:T8}{body:Expr}{scope:SR}{z:U1}{i:Nat}{iZ:M1->Sp}{E:XK}{te:TE}{o:St}{Q:VK}:D1 K mg Pt lp m params body scope z i iZ E te o H Q=te o H λ A y=>∃v,o[i]?=some (some v)/\pj Pt lp m y/\∀(f ca c':V0)(w B u:Y1)(a:M1)(n:Hp),(∀g,SY g y n)->pj Pt lp m n->n c'=some (oW c' m)->Mod K mg a->iW mg a->a.get? f=some (TU "<lambda>" m params body scope [(z,ca)] B c' w)->a.IsCell ca (some u)->RelV v u->iZ a [A,.ref f] n Q E:=rfl
section
variable{X:Cx}{x z:U1}{ps:List U1}{iZ:M1->Sp}{k j i:Nat}{e:Expr}{te:TE}{p pos lp:Pos}{E:XK}{params:T8}{body:Expr}{scope:SR}{c Pt ca:V0}
theorem Lg(h:∀base',X.K.In base'->iW X.mg base'->aT X.prog X.w X.K X.mg base' k x ps (iZ base'))(hKb:X.K.In X.base)(hr:bw j X.A)(hk:k<=j)(hg:Gl X x)(he:PE (X.xx E) e te)(hb:iW X.mg X.base)(hcode:X.env.code=.ref c)(C:W.CodeHd X.base c Pt)(hN:X.N[i]?=some z)(hz:X.env.scope.names.lookup z=some .cell)(hca:X.env.cells.lookup z=some ca)(hcl:closureFor scope X.env=pure [(z,ca)])(hdef:defaultsOf params X.env=([],[]))(hfn:X.fn z=true)(hst:X.stack=X.env::X.outer)(hfr:X.env.frame=some X.env.locals)(hdb:(x==("__debug__":U1))=false:=by decide)(hs1:Rt [e,.Lambda params body scope lp] X.env=(false,RJ e X.env)::Rt [.Lambda params body scope lp] X.env:=by rfl)(hs2:Rt [.Lambda params body scope lp] X.env=(false,RJ (.Lambda params body scope lp) X.env)::Rt [] X.env:=by rfl)(hpl:(RK pos (Rt [.Lambda params body scope lp] X.env)).any (·.1)=false:=by rfl):PE (X.xx E) (.Call (.Name x p) [e,.Lambda params body scope lp] [] pos) (D1 X.K X.mg Pt lp (X.env.qual++"<lambda>") params body scope z i iZ E te):=by
 intro af s σ H Q I h';obtain⟨fl,fd,F0,b,kp,m⟩:=(h X.base hKb hb).ex;refine RP (kX I hg m ?_ hdb);refine Tf (h₀:=X.base) I.ok.mod.kin kp ?_ hs1 hpl;rw[hs1];show Rz _ _ (spliced ((false,RJ e X.env)::RK pos (Rt [.Lambda params body scope lp] X.env))) _ _ s;refine R8 (aW (he af s σ H _ I h') λ u1 s1 hz1=>?_);obtain⟨v1,H1,I1,r1,v,ev,hT,q⟩:=hz1;rw[hs2];show Rz _ _ (spliced ((false,RJ (.Lambda params body scope lp) X.env)::RK pos (Rt [] X.env))) _ _ s1;refine R8 (KG (X:=X.xx E) (pos:=lp) I1 hb hcode C hT hcl hdef λ f c' ctv pm s2 H2 sy hT2 hc2 I2=>?_);refine Tu ⟨I2.kIn,?_⟩;obtain⟨base',e0,gf,gc,inB⟩:=I2.env2 (z:=z) (ca:=ca) (cy) hca hfn hst hfr;obtain⟨mm,hn,hl⟩:=I2.loc;obtain⟨u,ru,lk⟩:=hl i z v hN ev (.inr (.inl hz));have cellAt:base'.IsCell ca (some u):=by
  rcases lk with⟨y,_⟩|⟨_,cc,y,⟨oo,y1,y2⟩⟩
  ·have y:X.env.scope.names.lookup z=some .local:=y;rw[hz]at y;cases y
  ·have y:X.env.cells.lookup z=some cc:=y;rw[hca]at y;cases y;exact⟨oo,gc _ y1,y2⟩
 have hsp:=q f ca c' ctv pm u base' H2 sy hT2 hc2 e0.mod (let⟨bm,o,b1,b2,b3,b4,b5⟩:=hb;⟨bm,o,b1,b2,b3,inB _ _ b4,b5⟩) gf cellAt ru;obtain⟨fl',fd',F,b',kp',m'⟩:=(h base' e0.mod.kin (let⟨bm,o,b1,b2,b3,b4,b5⟩:=hb;⟨bm,o,b1,b2,b3,inB _ _ b4,b5⟩)).ex;cases m.symm.trans m';have r2:aI [v1,V.ref f] [u1,RA f]:=.cons r1 (.cons rfl .nil);have hl2:([u1,RA f]++[]).length=ps.length:=by rw[eu,<-r2.length];exact F.len _ _ _ _ hsp
 have bt:=b' s2 [u1,RA f] I2.kIn hl2;rw[eu]at bt;refine Ts (SN (F.run X.A X.stack s2 H2 ⟨[u1,RA f],[]⟩ [u1,RA f] _ Q E (hr.mono hk) e0 bt r2 hsp) λ r s' hq=>?_);cases r with
 |error e=>exact(bx.passes (X:=X) (E:=λ ω=>E) (E':=E) λ ω ω ω ω q=>q) _ σ H2 s2 e s' I2 hq
 |ok fl=>
  cases fl with
  |ret u=>
   obtain⟨v,H',J,rv,q⟩:=I2.after hq;exact⟨v,H',J.pins_of λ p hp=>J.pin p (i_ _ (cV _ hp)),rv,q⟩
  |next=>exact False.elim hq
  |brk=>exact False.elim hq
  |cont=>exact False.elim hq
end
structure xT(K:X0)(mg:U1->Option Y1)(x:U1)(st:RH)(c:V0):Prop where
 ex:∃f oc od kV doc pm an ct osl,K.lookup f=some ⟨oc,od,.func (SK x x (gO st) (fh st) (bg st) .none kV doc pm an (.ref c) ct),osl⟩/\T_ K (.ref c) x=true/\RM K (.ref f)=true/\mg x=some (.ref f)
theorem aT.ofC{P:Program}{w:V1}{mg:U1->Option Y1}{base:M1}{x:U1}{st:RH}{N ps:List U1}{k:Nat}{sp:Sp}{c:V0}(F:xT K mg x st c)(S:bL N ps (bg st))(C:∀(kV g v:Y1)(y:Option V0)(cdv ct:Y1)(us:List Y1),us.length=ps.length->Tv (SK x x (gO st) (fh st) (bg st) .none kV g v y cdv ct) ⟨us,[]⟩=pure (ps.zip us))(len:∀vs H Q E,sp vs H Q E->vs.length=ps.length)(a:∀(f:V0)(A:N1)(outer:List Env)(s:Z1)(H:Hp)(vs:List V)(Q:VK)(E:XK),bw k (A.deeper (Tw x (bg st) s.heap.objs.size f (.ref c)))->sp vs H Q E->∃t,fy ((d8 (f7 P w) P w K mg base N x (bg st) f (.ref c) A outer s H E).xx E) (fh st) t/\t {nx:=λ ω H'=>Q .non H',rt:=Q} (jc N vs) H):aT P w K mg base (k+1) x ps sp:=by
 obtain⟨f,R,T,kV,g,v,y,ct,G,B,n,kp,m⟩:=F.ex;refine⟨f,_,AD B n S len λ A outer s H vs Q E hr u=>?_,(uO B n kp).binds C,kp,m⟩;obtain⟨t,h,q⟩:=a f A outer s H vs Q E hr u;exact⟨t,λ o J L M D I O=>R7 (h o J L M D (I.wish _) O) (λ ω ω z=>z.unwish) λ e U z=>BC z,q⟩
def Aw(K:X0):List V->Hp->VK->Prop:=λ c H Q=>∃(p:V0)(a:List Bool),c=[.ref p]/\az K H p (a.map V.bl)/\Q (.bl (a.any id)) H
theorem Qp{xs:List V}{Q:VK}:Aw K xs H Q=∃(p:V0)(ys:List Bool),xs=[.ref p]/\az K H p (ys.map V.bl)/\Q (.bl (ys.any id)) H:=rfl
theorem Hz(ys:List Bool):(jM ys.length).any (λ i=>ys.getD i false)=ys.any id:=by
 rw[(pT),List.any_eq_true,List.any_eq_true];constructor
 ·rintro⟨i,c,h⟩;have a:=mW.mp c;rw[hJ,dc a]at h;exact⟨_,ju a,h⟩
 ·rintro⟨y,g,h⟩;obtain⟨i,c,e⟩:=uv g;refine⟨i,mW.mpr c,?_⟩;rw[hJ,dc c];show ys[i]=true;rw[e];exact h
theorem LH{X:Cx}(C:X.calm=true):gN X (.builtin "any") (Aw X.K):=by
 intro n s N H O us Q I r h;obtain⟨p,a,rfl,D,q⟩:=h;obtain⟨u,rfl,E⟩:=r.one;cases E;obtain⟨its,w,j,P⟩:=I.list D;obtain⟨o,G,ω,ω,ω⟩:=id j.isList;have m:p≠s.heap.objs.size:=dY (Rq G);have hl:=w.length;rw[bB]at hl;refine call_any_walk (Sf j.isList ?_);refine⟨s.heap.objs.size,_,_,_,_,_,λ i=>a.getD i false,rfl,Walks.list (A:=X.A.in1) (show X.A.in1.handled=none from I.ok.hd C) _ p m its.toArray,⟨⟨_,RC _ rfl,rfl,rfl⟩,j.isList.at λ o e=>Rp _ e⟩,λ i v R S T J c=>?_,λ U Y K=>?_⟩
 ·have g:its[i]?=some v:=by simpa using J
  have y:i<a.length:=by
   have:=(gm.mp g).1;lia
  obtain⟨Z,B,L⟩:=w.get (i:=i) (x:=V.bl a[i]) (by rw[eK,dc y];rfl);rw[g]at B;cases B;cases(show _=Tr a[i]from L);refine RO ?_;dsimp only at c;rw[hJ,dc y]at c;exact c
 ·have e:(jM its.toArray.size).any (λ i=>a.getD i false)=a.any id:=by
   rw[du,<-hl];exact Hz a
  refine⟨.bl (a.any id),H,I.kept λ b o e=>K b o (λ z=>?_) (Rp _ e),by rw[e];rfl,q⟩;have M:b=s.heap.objs.size:=by simpa using z
  exact UM (Rq e) (by rw[M];exact fH _)
theorem Qk{a:V0}{g:TG}{u:TS}{D:bU}{c:St}(xs:List V)(j:Nat->St->Hp->Prop)(v:j 0 c H)(hl:∀i c H,i<=xs.length->j i c H->az K H a xs)(w:∀i x c H,xs.reverse[i]?=some x->j i c H->g x c H λ o z=>u {D with nx:=j (i+1),ct:=j (i+1),bk:=D.nx} o z)(hd:∀c H,j xs.length c H->D.nx c H):qw (Oo K a xs.length) g u D c H:=by
 refine⟨λ i m c H=>m=xs.length-i/\i<=xs.length/\j i c H,⟨xs.length,by simp,dj _,v⟩,?_⟩;rintro i m c H ⟨rfl,A,p⟩;have q:=hl i c H A p;by_cases n:i<xs.length
 ·refine .inr ⟨⟨n,xs,q,rfl⟩,j (i+1),λ B C E=>⟨xs.length-(i+1),by omega,rfl,n,E⟩,λ x C y=>?_⟩;obtain⟨e,y⟩:=y;subst e;exact w i x c _ (by rw[List.getElem?_reverse n];exact y xs q) p
 ·have e:i=xs.length:=by omega
  subst e;exact .inl ⟨rfl,hd c H p⟩
theorem NF{a:V0}{g:TG}{u:TS}{D:bU}{c:St}(xs:List V)(j:Nat->St->Hp->Prop)(v:j 0 c H)(hl:∀i c H,i<=xs.length->j i c H->az K H a xs)(w:∀i x t c H,xs[i]?=some x->H t=none->j i c H->g (.ref t) c (ar H t (.tup [.int i,x])) λ o z=>u {D with nx:=j (i+1),ct:=j (i+1),bk:=D.nx} o z)(hd:∀c H,j xs.length c H->D.nx c H):qw (xR K a) g u D c H:=by
 refine⟨λ i m c H=>m=xs.length-i/\i<=xs.length/\j i c H,⟨xs.length,by simp,dj _,v⟩,?_⟩;rintro i m c H ⟨rfl,A,p⟩;have q:=hl i c H A p;by_cases n:i<xs.length
 ·refine .inr ⟨⟨xs,xs[i],q,dc n⟩,j (i+1),λ B C E=>⟨xs.length-(i+1),by omega,rfl,n,E⟩,λ x C y=>?_⟩;obtain⟨t,G,e,I,J,y⟩:=y;subst e J;exact w i G t c _ (y xs q) I p
 ·have e:i=xs.length:=by omega
  subst e;exact .inl ⟨⟨xs,q,aQ _⟩,hd c H p⟩
end L2
end
section
namespace RR
open PySem P15
open K10 (cE bD)
def dF(s:List U1):U1:=s.headD ""
section
variable{ws u v rest:List U1}{n:Nat}
theorem jA(ws:List U1)(n:Nat):aA ws n=dF (ws.drop n):=by
 unfold aA dF;rw[hJ,List.headD_eq_head?_getD,List.head?_drop]
theorem cm{x:U1}(h:ws.drop n=x::rest):aA ws n=x/\ws.drop (n+1)=rest:=by
 refine⟨by rw[jA,h];rfl,?_⟩;rw[<-um,h];rfl
theorem fj(h:ws.drop n=u++rest):ws.drop (n+u.length)=rest:=by
 rw[<-um,h,List.drop_left]
theorem jo(h:ws.drop n=u++rest)(z:u≠[]):n+u.length<=ws.length:=by
 have a:(ws.drop n).length=u.length+rest.length:=by rw[h,bX]
 rw[i8]at a;have:=mR.mpr z;lia
end
structure Nx(c:Nat)(rest:List U1):Prop where
 p:dF rest≠"."
 b:dF rest≠"("
 s:aL (dF rest)<c
theorem Nx.mono{c d:Nat}{rest:List U1}(h:Nx c rest)(l:c<=d):Nx d rest:=⟨h.p,h.b,dv h.s l⟩
theorem Kh{c:Nat}(h:0<c):Nx c []:=⟨qP,qP,pR qP h⟩
theorem fW{c:Nat}{x:U1}{r:List U1}(e:(decide (x≠"."/\x≠"("/\aL x=0))=true)(g:0<c):Nx c (x::r):=by
 obtain⟨a,b,d⟩:=UP e;exact⟨a,b,by show aL x<c;lia⟩
def Fin{α:Type}(o:Option α)(n:Nat):aZ α:=match o with|some t=>.ok t n|none=>.bad
abbrev W:=List U1
def Od(J deep:Nat)(u:W)(o:Option Tm):Prop:=u≠[]/\∀j,J<=j->∀(ws:W)(n:Nat)(rest:W),ws.drop n=u++rest->eF ws (rd ws j) deep n=Fin o (n+u.length)
def Qd(J deep:Nat)(u:W)(o:Option Tm):Prop:=u≠[]/\∀j,J<=j->∀(ws:W)(n:Nat)(rest:W),ws.drop n=u++rest->dF rest≠"("->
 match o with
 |none=>bC ws (rd ws j) deep n=.bad
 |some t=>∃f,ws.length<n+u.length+f/\bC ws (rd ws j) deep n=dM ws (rd ws j) deep f t (n+u.length)
def Ad(J deep:Nat)(u:W)(o:Option (List Tm)):Prop:=u≠[]/\∀j,J<=j->∀(ws:W)(n:Nat)(rest:W),ws.drop n=u++rest->b9 ws (rd ws j) deep n=Fin o (n+u.length)
def Pd(J low deep:Nat)(u:W)(o:Option Tm)(c:Nat):Prop:=u≠[]/\∀j,J<=j->∀(ws:W)(n:Nat)(rest:W),ws.drop n=u++rest->Nx c rest->cq ws (rd ws j) low deep n=Fin o (n+u.length)
def Rd(J least low deep:Nat)(u:W)(o:Option Tm)(c:Nat):Prop:=u≠[]/\∀j,J<=j->∀(ws:W)(n:Nat)(rest:W),ws.drop n=u++rest->Nx c rest->
 match o with
 |none=>(rd ws (j+1)).T least low deep n=.bad
 |some t=>∃f,ws.length<n+u.length+f/\(rd ws (j+1)).T least low deep n=df ws (rd ws j) least low deep f t (n+u.length)
section
variable{J J' K deep least low c c':Nat}{u v:W}{o o':Option Tm}
theorem Qd.mono(h:Qd J deep u o)(l:J<=J'):Qd J' deep u o:=⟨h.1,λ j a=>h.2 j (bR l a)⟩
theorem Ad.mono{o:Option (List Tm)}(h:Ad J deep u o)(l:J<=J'):Ad J' deep u o:=⟨h.1,λ j a=>h.2 j (bR l a)⟩
theorem Pd.mono(h:Pd J low deep u o c)(l:J<=J')(d:c'<=c):Pd J' low deep u o c':=⟨h.1,λ j a ws n rest e x=>h.2 j (bR l a) ws n rest e (x.mono d)⟩
theorem Rd.mono(h:Rd J least low deep u o c)(l:J<=J')(d:c'<=c):Rd J' least low deep u o c':=⟨h.1,λ j a ws n rest e x=>h.2 j (bR l a) ws n rest e (x.mono d)⟩
theorem Rd.run(h:Rd J least low deep u o c){j:Nat}(g:J<=j){ws:W}{n:Nat}{rest:W}(e:ws.drop n=u++rest)(x:Nx c rest)(y:aL (dF rest)<least):(rd ws (j+1)).T least low deep n=Fin o (n+u.length):=by
 have a:=h.2 j g ws n rest e x;cases o with
 |none=>exact a
 |some t=>
  obtain⟨f,l,a⟩:=a;rw[a];have i:=jo e h.1;cases f with
  |zero=>lia
  |succ f=>
   unfold df;rw[UK]
   ·rfl
   ·rw[jA,fj e];lia
theorem Od.q(h:Od J deep u o):Qd J deep u o:=⟨h.1,λ j g ws n rest e ω=>by
 have a:=h.2 j g ws n rest e;cases o with
 |none=>show bC ws (rd ws j) deep n=.bad;unfold bC;rw[a];rfl
 |some t=>
  refine⟨ws.length+1,qR,?_⟩;unfold bC;rw[a];rfl⟩
theorem Qd.run(h:Qd J deep u o){j:Nat}(g:J<=j){ws:W}{n:Nat}{rest:W}(e:ws.drop n=u++rest)(x:dF rest≠"(")(y:dF rest≠"."):bC ws (rd ws j) deep n=Fin o (n+u.length):=by
 have a:=h.2 j g ws n rest e x;cases o with
 |none=>exact a
 |some t=>
  obtain⟨f,l,a⟩:=a;rw[a];have i:=jo e h.1;cases f with
  |zero=>lia
  |succ f=>
   unfold dM;rw[UK]
   ·rfl
   ·rw[jA,fj e];exact y
theorem Qd.p(h:Qd J deep u o)(d:deep<=14)(k:(decide (dF u≠"not"/\dF u≠"if"/\dF u≠"let"/\dF u≠"set"))=true):Pd J low deep u o c:=⟨h.1,λ j a ws n rest e x=>by
 obtain⟨g,i,m,w⟩:=UP k;have z:aA ws n=dF u:=by
  rw[jA,e];cases u with
  |nil=>exact(h.1 rfl).elim
  |cons y r=>rfl
 unfold cq;rw[UK qR,z,UK g,UK i,UK m,UK w];exact h.run a e x.b x.p⟩
theorem Pd.r(h:Pd J low deep u o c):Rd J least low deep u o c:=⟨h.1,λ j g ws n rest e x=>by
 have a:=h.2 j g ws n rest e x;cases o with
 |none=>show(cq ws (rd ws j) low deep n).bind _=.bad;rw[a];rfl
 |some t=>
  refine⟨ws.length+1,qR,?_⟩;show(cq ws (rd ws j) low deep n).bind _=_;rw[a];rfl⟩
theorem KO{x:U1}(h:av x=true)(k:bD x.cps.toList=false)(g:(decide (x≠""/\x≠"yes"/\x≠"no"))=true):Od J deep [x] (some (.mk .name (.str x) [])):=⟨nofun,λ j ω ws n rest e=>by
 obtain⟨a,i,m⟩:=UP g;unfold eF;rw[(cm e).1];dsimp only;rw[UK a,UK (by rw[k];decide),UK i,UK m,UL h];rfl⟩
theorem JK:Od J deep ["yes"] (some (.mk .truth (.bl true) [])):=⟨nofun,λ j ω ws n rest e=>by
 unfold eF;rw[(cm e).1];dsimp only;rw[UK qP,UK qP,UL rfl];rfl⟩
theorem HS:Od J deep ["no"] (some (.mk .truth (.bl false) [])):=⟨nofun,λ j ω ws n rest e=>by
 unfold eF;rw[(cm e).1];dsimp only;rw[UK qP,UK qP,UK qP,UL rfl];rfl⟩
theorem KD:Od J deep ["self"] (some (.mk .self .non [])):=⟨nofun,λ j ω ws n rest e=>by
 unfold eF;rw[(cm e).1];dsimp only;rw[UK qP,UK qP,UK qP,UK qP,UK qP,UL rfl];rfl⟩
theorem Kg{x:U1}(k:bD x.cps.toList=true)(g:x≠""):Od J deep [x] (some (.mk .number (.int (sZ x)) [])):=⟨nofun,λ j ω ws n rest e=>by
 unfold eF;rw[(cm e).1];dsimp only;rw[UK g,UL k];rfl⟩
theorem ia{ws:W}{n:Nat}{x:U1}{rest:W}(e:ws.drop n=x::rest):bT ws x n=.ok () (n+1):=by
 unfold bT;rw[(cm e).1,UL rfl]
theorem kW{ws:W}{n:Nat}{x:U1}{rest:W}(e:ws.drop n=x::rest)(h:av x=true):a_ ws n=.ok x (n+1):=by
 unfold a_;rw[(cm e).1,UL h]
theorem H_(h:Rd J 1 1 deep u o c)(g:0<c):Od (J+1) deep (("(":U1)::(u++[(")":U1)])) o:=⟨nofun,λ j x ws n rest e=>by
 obtain⟨j,rfl⟩:∃i,j=i+1:=⟨j-1,qR⟩;have m:ws.drop n=("(":U1)::(u++((")":U1)::rest)):=by rw[e];simp
 obtain⟨w,a⟩:=cm m;unfold eF;rw[w];dsimp only;rw[UK qP,UK qP,UK qP,UK qP,UK qP,UK qP,UK qP,UK qP,UL rfl];rw[h.run (j:=j) qR a (fW qP g) (show aL ")"<1 by decide+kernel)];cases o with
 |none=>rfl
 |some t=>
  show(bT ws ")" (n+1+u.length)).bind _=_;rw[ia (fj a)];show aZ.ok t _=aZ.ok t _;congr 1;simp only[cj,bX,iG];lia⟩
def its:List (W×Option Tm)->W
 |[]=>[(")":U1)]
 |i::r=>(",":U1)::(i.1++its r)
def eM:List (W×Option Tm)->Option (List Tm)
 |[]=>some []
 |i::r=>i.2.bind λ t=>(eM r).bind λ ts=>some (t::ts)
theorem BG{j:Nat}(w:J<=j)(g:0<c){ws:W}:∀(l:List (W×Option Tm))(a:List Tm)(f n:Nat)(rest:W),(∀i∈l,Rd J 1 1 deep i.1 i.2 c)->ws.drop n=its l++rest->ws.length<n+f->cf ws (λ m=>(rd ws (j+1)).T 1 1 deep m) f a n=Fin ((eM l).bind λ ts=>some (a++ts)) (n+(its l).length)
 |[],a,f,n,rest,_,e,l=>by
  have A:=jo e (show its []≠[]from nofun);have e:ws.drop n=(")":U1)::rest:=e;cases f with
  |zero=>simp only[its,cj,iG]at A;lia
  |succ f=>
   unfold cf;rw[UK (by rw[(cm e).1];decide+kernel),ia e];show aZ.ok _ _=aZ.ok (a++[]) _;rw[eu];rfl
 |i::r,a,f,n,rest,h,e,l=>by
  have A:=jo e (show its (i::r)≠[]from nofun);have E:(its (i::r)).length=1+i.1.length+(its r).length:=by simp only[its,cj,bX];lia
  have G:ws.drop n=(",":U1)::(i.1++(its r++rest)):=by rw[e,its];simp
  obtain⟨H,B⟩:=cm G;have C:Nx c (its r++rest)/\aL (dF (its r++rest))<1:=by
   cases r with
   |nil=>exact⟨fW qP g,show aL ")"<1 by decide+kernel⟩
   |cons y z=>exact⟨fW qP g,show aL ","<1 by decide+kernel⟩
  cases f with
  |zero=>lia
  |succ f=>
   unfold cf;rw[UL H,(h i cy).run w B C.1 C.2];cases D:i.2 with
   |none=>rw[eM,D];rfl
   |some t=>
    show cf ws _ f (a++[t]) (n+1+i.1.length)=_;rw[BG w g r (a++[t]) f _ rest (λ x I=>h x (cV _ I)) (fj B) qR,E,eM,D];have p:n+1+i.1.length+(its r).length=n+(1+i.1.length+(its r).length):=by lia
    rw[p];cases eM r with
    |none=>rfl
    |some ts=>show aZ.ok (a++[t]++ts) _=aZ.ok (a++t::ts) _;rw[eU];rfl
theorem IR:Ad J deep ["(",")"] (some []):=⟨nofun,λ j ω ws n rest e=>by
 have e:ws.drop n=("(":U1)::")"::rest:=e;obtain⟨g,a⟩:=cm e;unfold b9 dh;rw[ia e];show((if aA ws (n+1)=")" then _ else _:aZ (List Tm))).bind _=_;rw[UL (cm a).1];rfl⟩
def jr(i:W×Option Tm)(r:List (W×Option Tm)):W:=("(":U1)::(i.1++its r)
theorem Kf{i:W×Option Tm}{r:List (W×Option Tm)}(g:0<c)(h:∀x∈i::r,Rd J 1 1 deep x.1 x.2 c)(k:dF i.1≠")")(l:r.length<8):Ad (J+1) deep (jr i r) (eM (i::r)):=⟨nofun,λ j M ws n rest e=>by
 obtain⟨j,rfl⟩:∃i,j=i+1:=⟨j-1,qR⟩;have B:ws.drop n=("(":U1)::(i.1++(its r++rest)):=by rw[e,jr];simp
 obtain⟨N,m⟩:=cm B;have C:=h i cy;have D:Nx c (its r++rest)/\aL (dF (its r++rest))<1:=by
  cases r with
  |nil=>exact⟨fW qP g,show aL ")"<1 by decide+kernel⟩
  |cons y z=>exact⟨fW qP g,show aL ","<1 by decide+kernel⟩
 have w:aA ws (n+1)≠")":=by
  rw[jA,m];cases a:i.1 with
  |nil=>exact(C.1 a).elim
  |cons y z=>rw[a]at k;exact k
 have H:∀{l:List (W×Option Tm)}{ts:List Tm},eM l=some ts->ts.length=l.length:=by
  intro l;induction l with
  |nil=>intro ts e;cases e;rfl
  |cons y z I=>
   intro ts e;rw[eM]at e;cases E:y.2 with
   |none=>rw[E]at e;cases e
   |some t=>
    rw[E]at e;cases A:eM z with
    |none=>rw[A]at e;cases e
    |some us=>rw[A]at e;cases e;show us.length+1=z.length+1;rw[I A]
 unfold b9 dh;rw[ia B];show((if aA ws (n+1)=")" then _ else _):aZ (List Tm)).bind _=_;rw[UK w];dsimp only;rw[C.run qR m D.1 D.2];have O:(jr i r).length=1+i.1.length+(its r).length:=by simp only[jr,cj,bX];lia
 cases G:i.2 with
 |none=>rw[eM,G];rfl
 |some t=>
  show(cf ws _ _ [t] (n+1+i.1.length)).bind _=_;rw[BG qR g r [t] _ _ rest (λ x L=>h x (cV _ L)) (fj m) qR,eM,G];have p:n+1+i.1.length+(its r).length=n+(jr i r).length:=by lia
  rw[p];cases a:eM r with
  |none=>rfl
  |some ts=>
   show(if 8<([t]++ts).length then _ else _)=aZ.ok (t::ts) _;rw[UK (by have:=H a;simp only[bX,cj,iG];lia)];rfl⟩
theorem IM{x:U1}{a:Option (List Tm)}(i:av x=true)(h:Ad J (deep+1) v a):Od J deep (("new":U1)::x::v) (a.bind λ ps=>some (.mk .new (.str x) ps)):=⟨nofun,λ j m ws n rest e=>by
 have w:ws.drop n=("new":U1)::x::(v++rest):=e;obtain⟨y,g⟩:=cm w;obtain⟨b1,z⟩:=cm g;unfold eF;rw[y];dsimp only;rw[UK qP,UK qP,UK qP,UK qP,UK qP,UK qP,UL rfl,kW g i];show(b9 ws (rd ws j) (deep+1) (n+1+1)).bind _=_;rw[h.2 j m ws _ rest z];cases a with
 |none=>rfl
 |some ps=>
  show aZ.ok _ _=aZ.ok _ _;congr 1;simp only[cj];lia⟩
theorem Me{x:U1}{a:Option (List Tm)}(m:av x=true)(h:Ad J (deep+1) v a):Od J deep (("elder":U1)::"."::x::v) (a.bind λ ps=>some (.mk .elder (.str x) ps)):=⟨nofun,λ j w ws n rest e=>by
 have y:ws.drop n=("elder":U1)::"."::x::(v++rest):=e;obtain⟨z,g⟩:=cm y;obtain⟨b1,i⟩:=cm g;obtain⟨B,A⟩:=cm i;unfold eF;rw[z];dsimp only;rw[UK qP,UK qP,UK qP,UK qP,UK qP,UK qP,UK qP,UL rfl,ia g];show(a_ ws (n+1+1)).bind _=_;rw[kW i m];show(b9 ws (rd ws j) (deep+1) (n+1+1+1)).bind _=_;rw[h.2 j w ws _ rest A];cases a with
 |none=>rfl
 |some ps=>
  show aZ.ok _ _=aZ.ok _ _;congr 1;simp only[cj];lia⟩
theorem Gj{x:U1}(m:av x=true)(h:Qd J deep u o):Qd J deep (u++[(".":U1),x]) (o.bind λ t=>some (.mk .field (.str x) [t])):=⟨by simp,λ j w ws n rest e z=>by
 have g:ws.drop n=u++((".":U1)::x::rest):=by rw[e];simp
 have a:=h.2 j w ws n _ g (show(".":U1)≠"(" by decide+kernel);have b:=fj g;have B:=jo g h.1;obtain⟨b1,i⟩:=cm b;obtain⟨C,y⟩:=cm i;cases o with
 |none=>exact a
 |some t=>
  obtain⟨f,l,a⟩:=a;cases f with
  |zero=>lia
  |succ f=>
   have A:(u++[(".":U1),x]).length=u.length+2:=by simp
   refine⟨f,qR,?_⟩;rw[a];show dM ws (rd ws j) deep (f+1) t (n+u.length)=_;rw[dM,UL b1,kW i m];show(if aA ws (n+u.length+1+1)="(" then _ else _)=_;rw[UK (by rw[jA,y];exact z),A];rfl⟩
theorem J9{x:U1}{i:Option (List Tm)}(D:av x=true)(h:Qd J deep u o)(g:Ad J (deep+1) v i)(k:dF v="("):Qd J deep (u++(".":U1)::x::v) (o.bind λ t=>i.bind λ ps=>some (.mk .call (.str x) (t::ps))):=⟨by simp,λ j A ws n rest e z=>by
 have m:ws.drop n=u++((".":U1)::x::(v++rest)):=by rw[e];simp
 have a:=h.2 j A ws n _ m (show(".":U1)≠"(" by decide+kernel);have b:=fj m;have H:=jo m h.1;obtain⟨b1,B⟩:=cm b;obtain⟨I,C⟩:=cm B;cases o with
 |none=>exact a
 |some t=>
  obtain⟨f,l,a⟩:=a;have E:aA ws (n+u.length+1+1)="(":=by
   rw[jA,C];cases v with
   |nil=>exact(g.1 rfl).elim
   |cons y r=>exact k
  cases f with
  |zero=>lia
  |succ f=>
   have G:(u++(".":U1)::x::v).length=u.length+2+v.length:=by simp only[bX,cj];lia
   have w:bC ws (rd ws j) deep n=(b9 ws (rd ws j) (deep+1) (n+u.length+1+1)).bind λ ps j'=>dM ws (rd ws j) deep f (.mk .call (.str x) (t::ps)) j':=by
    rw[a];show dM ws (rd ws j) deep (f+1) t (n+u.length)=_;rw[dM,UL b1,kW B D];show(if aA ws (n+u.length+1+1)="(" then _ else _)=_;rw[UL E]
   rw[g.2 j A ws _ rest C]at w;cases i with
   |none=>exact w
   |some ps=>
    have:=mR.mpr g.1;refine⟨f,qR,?_⟩;rw[w,G];show dM ws (rd ws j) deep f _ _=dM ws (rd ws j) deep f _ _;congr 1;lia⟩
theorem Kk(d:deep<=14)(h:Pd J low (deep+1) u o c):Pd (J+1) low deep (("not":U1)::u) (o.bind λ t=>some (.mk .nt .non [t])) c:=⟨nofun,λ j w ws n rest e x=>by
 obtain⟨j,rfl⟩:∃i,j=i+1:=⟨j-1,qR⟩;have a:ws.drop n=("not":U1)::(u++rest):=e;obtain⟨g,m⟩:=cm a;unfold cq;rw[UK qR,UL g];show(cq ws (rd ws j) low (deep+1) (n+1)).bind _=_;rw[h.2 j qR ws _ rest m x];cases o with
 |none=>rfl
 |some t=>
  show aZ.ok _ _=aZ.ok _ _;congr 1;simp only[cj];lia⟩
theorem Iy{a b d:W}{oa g od:Option Tm}(H:deep<=14)(B:Rd J 1 1 (deep+1) a oa 1)(h2:Rd J 1 1 (deep+1) b g 1)(C:Rd J 2 2 (deep+1) d od c)(D:c<=2):Pd (J+1) low deep (("if":U1)::(a++("then":U1)::(b++("else":U1)::d))) (oa.bind λ x=>g.bind λ y=>od.bind λ z=>some (.mk .iff .non [x,y,z])) c:=⟨nofun,λ j I ws n rest e x=>by
 obtain⟨j,rfl⟩:∃i,j=i+1:=⟨j-1,qR⟩;have E:ws.drop n=("if":U1)::(a++(("then":U1)::(b++(("else":U1)::(d++rest))))):=by rw[e];simp
 obtain⟨A,m⟩:=cm E;obtain⟨b1,w⟩:=cm (fj m);obtain⟨L,G⟩:=cm (fj w);unfold cq;rw[UK qR,UK (by rw[A];decide+kernel),UL A];unfold pL;rw[B.run qR m (fW qP qR) (show aL "then"<1 by decide+kernel)];cases oa with
 |none=>rfl
 |some M=>
  show(bT ws "then" (n+1+a.length)).bind _=_;rw[ia (fj m)];show((rd ws (j+1)).T 1 1 (deep+1) (n+1+a.length+1)).bind _=_;rw[h2.run qR w (fW qP qR) (show aL "else"<1 by decide+kernel)];cases g with
  |none=>rfl
  |some N=>
   show(bT ws "else" (n+1+a.length+1+b.length)).bind _=_;rw[ia (fj w)];show((rd ws (j+1)).T 2 2 (deep+1) (n+1+a.length+1+b.length+1)).bind _=_;rw[C.run qR G x (dv x.s D)];cases od with
   |none=>rfl
   |some O=>
    show aZ.ok _ _=aZ.ok _ _;congr 1;simp only[cj,bX];lia⟩
theorem Jt{a b:W}{oa g:Option Tm}{x:U1}(D:av x=true)(L:deep<=14)(E:Rd J 1 1 (deep+1) a oa 1)(h2:Rd J low low (deep+1) b g c)(G:c<=low):Pd (J+1) low deep (("let":U1)::x::"="::(a++("in":U1)::b)) (oa.bind λ y=>g.bind λ z=>some (.mk .lt (.str x) [y,z])) c:=⟨nofun,λ j M ws n rest e A=>by
 obtain⟨j,rfl⟩:∃i,j=i+1:=⟨j-1,qR⟩;have H:ws.drop n=("let":U1)::x::"="::(a++(("in":U1)::(b++rest))):=by rw[e];simp
 obtain⟨m,B⟩:=cm H;obtain⟨b1,C⟩:=cm B;obtain⟨N,w⟩:=cm C;obtain⟨O,I⟩:=cm (fj w);unfold cq;rw[UK qR,UK (by rw[m];decide+kernel),UK (by rw[m];decide+kernel),UL m];unfold jt;rw[kW B D];show(bT ws "=" (n+1+1)).bind _=_;rw[ia C];show((rd ws (j+1)).T 1 1 (deep+1) (n+1+1+1)).bind _=_;rw[E.run qR w (fW qP qR) (show aL "in"<1 by decide+kernel)];cases oa with
 |none=>rfl
 |some P=>
  show(bT ws "in" (n+1+1+1+a.length)).bind _=_;rw[ia (fj w)];show((rd ws (j+1)).T low low (deep+1) (n+1+1+1+a.length+1)).bind _=_;rw[h2.run qR I A (dv A.s G)];cases g with
  |none=>rfl
  |some Q=>
   show aZ.ok _ _=aZ.ok _ _;congr 1;simp only[cj,bX];lia⟩
theorem Ju{a b:W}{t:Tm}{m:Option Tm}{x:U1}(C:av x=true)(w:x≠")")(P:deep<=14)(D:Qd (J+1) deep a (some t))(h2:Rd J 2 2 (deep+1) b m c)(E:c<=2):Pd (J+1) low deep (("set":U1)::(a++(".":U1)::x::"="::b)) (m.bind λ z=>some (.mk .set (.str x) [t,z])) c:=⟨nofun,λ j G ws n rest e y=>by
 obtain⟨j,rfl⟩:∃i,j=i+1:=⟨j-1,qR⟩;have H:ws.drop n=("set":U1)::(a++((".":U1)::x::"="::(b++rest))):=by rw[e];simp
 obtain⟨g,A⟩:=cm H;obtain⟨b1,I⟩:=cm (fj A);obtain⟨L,B⟩:=cm I;obtain⟨Q,M⟩:=cm B;have q:=Gj C D;have N:ws.drop (n+1)=(a++[(".":U1),x])++(("=":U1)::(b++rest)):=by rw[A];simp
 have r:=q.run (j:=j+1) G N (show("=":U1)≠"(" by decide+kernel) (show("=":U1)≠"." by decide+kernel);unfold cq;rw[UK qR,UK (by rw[g];decide+kernel),UK (by rw[g];decide+kernel),UK (by rw[g];decide+kernel),UL g];unfold js;rw[r];have O:n+1+(a++[(".":U1),x]).length=n+1+a.length+1+1:=by simp only[bX,cj,iG];lia
 show(if ws.getD (n+1+(a++[(".":U1),x]).length-1) ""=")" then aZ.bad else(bT ws "=" (n+1+(a++[(".":U1),x]).length)).bind _)=_;rw[O];have p:n+1+a.length+1+1-1=n+1+a.length+1:=rfl;rw[p,UK (by rw[show ws.getD (n+1+a.length+1) ""=x from L];exact w),ia B];show((rd ws (j+1)).T 2 2 (deep+1) (n+1+a.length+1+1+1)).bind _=_;rw[h2.run qR M y (dv y.s E)];cases m with
 |none=>rfl
 |some R=>
  show aZ.ok _ _=aZ.ok _ _;congr 1;simp only[cj,bX];lia⟩
def rhs(s:U1):Nat:=if s=";" then 1 else aL s+1
theorem xG{s:U1}{cr:Nat}(E:least<=aL s)(R:0<aL s)(C:Rd (J+1) least low deep u o c)(h2:Rd J (rhs s) low (deep+1) v o' cr)(k:aL s<c)(G:(decide (s≠"."/\s≠"("))=true)(H:c'<=cr)(I:c'<=rhs s)(L:gz s=true->c'<=2):Rd (J+1) least low deep (u++s::v) (o.bind λ t=>o'.bind λ r=>some (.mk .two (.str s) [t,r])) c':=⟨by simp,λ j M ws n rest e g=>by
 obtain⟨j,rfl⟩:∃i,j=i+1:=⟨j-1,qR⟩;obtain⟨N,O⟩:=UP G;have x:ws.drop n=u++(s::(v++rest)):=by rw[e];simp
 have a:=C.2 (j+1) M ws n _ x ⟨N,O,k⟩;obtain⟨b1,D⟩:=cm (fj x);have S:=jo x C.1;have r:=h2.run (j:=j) qR D (g.mono H) (dv g.s I);have P:(u++s::v).length=u.length+1+v.length:=by simp only[bX,cj];lia
 cases o with
 |none=>exact a
 |some t=>
  obtain⟨f,l,a⟩:=a;cases f with
  |zero=>lia
  |succ f=>
   have A:(rd ws (j+1+1)).T least low deep n=((rd ws (j+1)).T (rhs s) low (deep+1) (n+u.length+1)).bind λ w m=>if(gz s&&gz (aA ws m))=true then .bad else df ws (rd ws (j+1)) least low deep f (.mk .two (.str s) [t,w]) m:=by
    rw[a,df,b1,UL E];rfl
   rw[r]at A;cases o' with
   |none=>exact A
   |some w=>
    refine⟨f,qR,?_⟩;rw[A,P];have p:n+u.length+1+v.length=n+(u.length+1+v.length):=by lia
    show(if(gz s&&gz (aA ws (n+u.length+1+v.length)))=true then aZ.bad else _)=_;rw[UK,p];intro z;obtain⟨Q,B⟩:=pQ.mp z;rw[jA,fj D]at B;have T:=g.s;have U:=L Q;have X:aL (dF rest)=2:=by
     unfold gz at B;rcases kN.mp B with y|y
     ·rw[eq_of_beq y];decide+kernel
     ·rw[eq_of_beq y];decide+kernel
    lia⟩
end
section
variable{α:Type}(two:U1->α->α->α)
def se(s:U1):Bool:=s=="*"||s=="/"
def r_(s:U1):Bool:=s=="+"||s=="-"
end
abbrev It:=W×Option Tm
def mg(s:U1)(a b:It):It:=(a.1++s::b.1,a.2.bind λ t=>b.2.bind λ r=>some (.mk .two (.str s) [t,r]))
def wd:It->List (U1×It)->W
 |x,[]=>x.1
 |x,(s,y)::ps=>x.1++s::wd y ps
section
variable{low L L' c c' cl J D k k':Nat}
theorem zg{s:U1}(h:gz s=true):aL s=2/\(decide (s≠"."/\s≠"("))=true/\rhs s=3/\s≠";":=by
 unfold gz at h;rcases kN.mp h with y|y
 ·rw[eq_of_beq y];decide+kernel
 ·rw[eq_of_beq y];decide+kernel
end
def Hg(s:U1):Prop:=s=";"\/gz s=true\/r_ s=true\/se s=true
theorem Ax:∀s,se s=true->aL s=4/\rhs s=4+1/\(decide (s≠"."/\s≠"("))=true/\gz s=false:=λ s h=>by
 unfold se at h;rcases kN.mp h with y|y
 ·rw[eq_of_beq y];decide+kernel
 ·rw[eq_of_beq y];decide+kernel
theorem AE:∀s,r_ s=true->aL s=3/\rhs s=3+1/\(decide (s≠"."/\s≠"("))=true/\gz s=false:=λ s h=>by
 unfold r_ at h;rcases kN.mp h with y|y
 ·rw[eq_of_beq y];decide+kernel
 ·rw[eq_of_beq y];decide+kernel
end RR
end
section
namespace K10
def Ws(t:Tx)(ws:List Tx):Prop:=∀k,cu t k=.ok ws
def Sep(t:Tx):Prop:=t=[]\/∃g r,t=g::r/\bF g=false
theorem jb{g:Nat}(h:gaps.contains g=true):bF g=false:=by
 have h:=mO.mp h;unfold gaps at h;simp only[de,i5,or_false]at h;rcases h with rfl|rfl|rfl<;>decide+kernel
theorem Sep.row{t:Tx}(h:Sep t):t.takeWhile bF=[]/\t.dropWhile bF=t:=by
 rcases h with rfl|⟨g,r,rfl,a⟩
 ·exact⟨rfl,rfl⟩
 ·rw[j9,mM,a];exact⟨rfl,rfl⟩
theorem GF{b:Tx}(e:Sep b):∀a:Tx,(a++b).takeWhile bF=a.takeWhile bF
 |[]=>e.row.1
 |c::r=>by
  rw[ip,j9,j9,GF e r]
theorem BL{b:Tx}(e:Sep b):∀a:Tx,(a++b).dropWhile bF=a.dropWhile bF++b
 |[]=>e.row.2
 |c::r=>by
  rw[ip,mM,mM,BL e r];split<;>rfl
theorem uI{ws:List Tx}{r:aZ}{us:List Tx}(h:pre ws r=.ok us):∃vs,r=.ok vs/\us=ws++vs:=by
 cases r with
 |ok vs=>cases h;exact⟨vs,rfl,rfl⟩
 |error k=>cases h
theorem uW{b:Tx}{w:List Tx}(i:Sep b)(j:Ws b w):∀(n:Nat)(a:Tx)(k:Nat)(g:List Tx),a.length<=n->cu a k=.ok g->cu (a++b) k=.ok (g++w)
 |n,[],k,g,_,h=>by
  rw[cu]at h;cases h;exact j k
 |0,c::r,k,g,m,_=>by cases m
 |n+1,c::r,k,g,m,h=>by
  have hr:r.length<=n:=Nat.le_of_succ_le_succ m;rw[ip,cu];rw[cu]at h;have x:(c::(r++b)).takeWhile bF=(c::r).takeWhile bF:=GF i (c::r);rw[x,BL i r];split at h
  ·rename_i o;rw[UL o];exact uW i j n r (k+1) g hr h
  ·rename_i o;rw[UK o];split at h
   ·rename_i u;rw[UL u];split at h
    ·rename_i v;rw[UL v];obtain⟨vs,e,rfl⟩:=uI h;rw[uW i j n _ _ vs (bR (zV r) hr) e];show Except.ok _=_;rw[eU]
    ·cases h
   ·rename_i u;rw[UK u];split at h
    ·rename_i v;rw[UL v];obtain⟨vs,e,rfl⟩:=uI h;rw[uW i j n r (k+1) vs hr e];rfl
    ·cases h
theorem Ws.app{a b:Tx}{c e:List Tx}(g:Sep b)(i:Ws a c)(hB:Ws b e):Ws (a++b) (c++e):=λ k=>uW g hB _ a k c (aQ _) (i k)
theorem nT:Ws [] []:=λ k=>by rw[cu]
theorem Sep.gap{b:Tx}{g:Nat}(a:gaps.contains g=true):Sep (g::b):=.inr ⟨g,b,rfl,jb a⟩
theorem fB:∀(n:Nat)(a:Tx)(k:Nat)(g:List Tx),a.length<=n->cu a k=.ok g->g.length<=a.length/\∀w∈g,w.length<=a.length
 |n,[],k,g,_,h=>by
  rw[cu]at h;cases h;exact⟨aQ _,λ w i=>(i5 i).elim⟩
 |0,c::r,k,g,m,_=>by cases m
 |n+1,c::r,k,g,m,h=>by
  have hr:r.length<=n:=Nat.le_of_succ_le_succ m;rw[cu]at h;rw[cj];split at h
  ·obtain⟨o,j⟩:=fB n r (k+1) g hr h;exact⟨qR,λ w i=>Nat.le_succ_of_le (j w i)⟩
  split at h
  ·split at h
   ·obtain⟨vs,e,rfl⟩:=uI h;have hd:=zV r;obtain⟨o,j⟩:=fB n _ _ vs (bR hd hr) e;refine⟨by rw[bX];show 1+_<=_;lia,λ w i=>?_⟩;rcases hU.mp i with z|z
    ·rw[dN.mp z];exact(yn bF).length_le
    ·exact bR (j w z) qR
   ·cases h
  split at h
  ·obtain⟨vs,e,rfl⟩:=uI h;obtain⟨o,j⟩:=fB n r (k+1) vs hr e;refine⟨by rw[bX];show 1+_<=_;lia,λ w i=>?_⟩;rcases hU.mp i with z|z
   ·rw[dN.mp z];exact mS (dj _)
   ·exact Nat.le_succ_of_le (j w z)
  ·cases h
end K10
end
section
namespace RR
open PySem P15
open K10 (aV Ws Sep gaps bF bD cE gZ)
def nU:Nat->List Nat->Option (List (List Nat))
 |_,[]=>some []
 |0,_::_=>none
 | n+1,c::r=>if gaps.contains c then nU n r else if bF c then (if bD ((c::r).takeWhile bF) || cE ((c::r).takeWhile bF) then (nU n (r.dropWhile bF)).map ((c::r).takeWhile bF::·) else none)
  else if gZ.contains c then(nU n r).map ([c]::·)else none
theorem xj:∀(n:Nat)(t:List Nat)(ws:List (List Nat)),nU n t=some ws->Ws t ws
 |n,[],ws,h=>by
  have e:ws=[]:=by cases n<;>(cases h;rfl)
  rw[e];exact K10.nT
 |n+1,c::r,ws,h=>by
  intro k;rw[K10.cu];unfold nU at h;split at h
  ·rename_i a;rw[UL a];exact xj n r ws h _
  rename_i a;rw[UK a];split at h
  ·rename_i b;rw[UL b];split at h
   ·rename_i d;rw[UL d];obtain⟨us,e,rfl⟩:=iJ.mp h;rw[xj n _ us e _];rfl
   ·cases h
  ·rename_i b;rw[UK b];split at h
   ·rename_i d;rw[UL d];obtain⟨us,e,rfl⟩:=iJ.mp h;rw[xj n _ us e _];rfl
   ·cases h
def WW(x:U1)(ws:List U1):Prop:=Ws (aV x) (ws.map aV)
theorem l6{x:U1}{ws:List U1}(n:Nat)(h:nU n (aV x)=some (ws.map aV)):WW x ws:=xj n _ _ h
def Bl(x:U1):Prop:=Sep (aV x)
theorem ni{x y:U1}(h:aV x=32::aV y):Bl x:=by unfold Bl;rw[h];exact Sep.gap qQ
theorem WW.app{a b:U1}{u v:List U1}(A:WW a u)(B:WW b v)(s:Bl b):WW (a++b) (u++v):=by
 unfold WW;rw[K10.bE,eZ];exact Ws.app s A B
def Pw(x:U1)(u:List U1):Prop:=∀(b:U1)(v:List U1),WW b v->WW (x++b) (u++v)
def iK:Nat->List Nat->Option (List (List Nat))
 |_,[]=>some []
 |0,_::_=>none
 | n+1,c::r=>if gaps.contains c then iK n r else if bF c then (if (r.dropWhile bF).isEmpty then none else if bD ((c::r).takeWhile bF) || cE ((c::r).takeWhile bF) then (iK n (r.dropWhile bF)).map ((c::r).takeWhile bF::·) else none)
  else if gZ.contains c then(iK n r).map ([c]::·)else none
theorem Fy{b:List Nat}:∀a:List Nat,(a.dropWhile bF).isEmpty=false->(a++b).takeWhile bF=a.takeWhile bF/\(a++b).dropWhile bF=a.dropWhile bF++b
 |[],h=>by cases h
 |c::r,h=>by
  rw[ip,j9,j9,mM,mM];rw[mM]at h;by_cases e:bF c=true
  ·rw[UL e]at h ⊢;rw[UL e,UL e,UL e];obtain⟨g,i⟩:=Fy (b:=b) r h;exact⟨by rw[g],i⟩
  ·rw[UK e,UK e,UK e,UK e];exact⟨rfl,rfl⟩
theorem xn:∀(n:Nat)(t:List Nat)(ws:List (List Nat)),iK n t=some ws->∀(b:List Nat)(i:List (List Nat)),Ws b i->Ws (t++b) (ws++i)
 |n,[],ws,h,b,i,j=>by
  have e:ws=[]:=by cases n<;>(cases h;rfl)
  rw[e];exact j
 |n+1,c::r,ws,h,b,i,j=>by
  intro k;rw[ip,K10.cu];unfold iK at h;split at h
  ·rename_i a;rw[UL a];exact xn n r ws h b i j _
  rename_i a;rw[UK a];split at h
  ·rename_i d;rw[UL d];split at h
   ·cases h
   rename_i g;have g:(r.dropWhile bF).isEmpty=false:=by simpa using g
   obtain⟨m,o⟩:=Fy (b:=b) r g;have u:(c::(r++b)).takeWhile bF=(c::r).takeWhile bF:=by rw[j9,j9,UL d,UL d,m]
   rw[u,o];split at h
   ·rename_i q;rw[UL q];obtain⟨us,e,rfl⟩:=iJ.mp h;rw[xn n _ us e b i j _];rfl
   ·cases h
  ·rename_i d;rw[UK d];split at h
   ·rename_i q;rw[UL q];obtain⟨us,e,rfl⟩:=iJ.mp h;rw[xn n _ us e b i j _];rfl
   ·cases h
theorem fw{x:U1}{u:List U1}(n:Nat)(h:iK n (aV x)=some (u.map aV)):Pw x u:=λ b v a=>by
 unfold WW;rw[K10.bE,eZ];exact xn n _ _ h _ _ a
theorem E_(a b c:U1):a++b++c=a++(b++c):=by
 show(⟨(a.cps++b.cps)++c.cps⟩:U1)=⟨a.cps++(b.cps++c.cps)⟩;rw[Array.append_assoc]
variable{c:Nat}
theorem ng{x:U1}{r:List Nat}(h:aV x=c::r)(d:bF c=false):Bl x:=.inr ⟨c,r,h,d⟩
theorem WW.mid{a m b:U1}{u v w:List U1}(A:WW a u)(s:Bl m)(M:Pw m v)(B:WW b w)(c:(aV m).isEmpty=false):WW (a++m++b) (u++(v++w)):=by
 rw[E_];refine A.app (M b w B) ?_;rcases s with s|⟨g,r,s,d⟩
 ·rw[s]at c;cases c
 ·exact .inr ⟨g,r++aV b,by rw[K10.bE,s];rfl,d⟩
open PW (Wd Hs Pg)
def Br(b:Nat)(u:W):Prop:=∀(o:Int)(r:W),0<=o->o+b<=14->bz (u++r) o=bz r o
theorem Br.mono{b d:Nat}{u:W}(h:Br b u)(l:b<=d):Br d u:=λ o r z k=>h o r z qR
theorem Br.app{b:Nat}{u v:W}(h:Br b u)(g:Br b v):Br b (u++v):=λ o r z k=>by rw[eU,h o _ z k,g o r z k]
theorem jP{b:Nat}:Br b []:=λ o r z k=>rfl
theorem bH{b:Nat}{x:U1}{u:W}(a:(decide (x≠"("/\x≠")"))=true)(h:Br b u):Br b (x::u):=λ o r z k=>by
 obtain⟨c,e⟩:=UP a;rw[ip,bz];rw[UK c,UK e,UK qR,h o r z k]
theorem Az{b:Nat}{u:W}(h:Br b u):Br (b+1) (("(":U1)::(u++[(")":U1)])):=λ o r z k=>by
 rw[ip,bz];rw[UL rfl,UK qR,eU,h (o+1) _ qR qR];show bz ((")":U1)::r) (o+1)=_;have e:bz ((")":U1)::r) (o+1)=if 14<o+1-1 then false else bz r (o+1-1):=rfl;rw[e,show o+1-1=o by lia,UK qR]
theorem aj(a b:U1):(a++b).length=a.length+b.length:=by
 rw[<-K10.aM,<-K10.aM,<-K10.aM,K10.bE,bX]
structure TO(x:U1)(u:W)(n b:Nat):Prop where
 ww:WW x u
 len:x.length<=n
 br:Br b u
theorem He:(decide (("(":U1)≠"not"/\("(":U1)≠"if"/\("(":U1)≠"let"/\("(":U1)≠"set"))=true:=by decide+kernel
theorem G_:("(":U1)≠")":=by decide+kernel
structure Pt(k:Nat)(x:U1)(u:W)(t:Tm):Prop where
 tx:TO x u (5+5*k) 2
 qd:∀deep,deep<=13->Qd 3 deep u (some t)
 kw:(decide (dF u≠"not"/\dF u≠"if"/\dF u≠"let"/\dF u≠"set"))=true
 hd:dF u≠")"
 sz:t.size<=1+2*k
 dp:t.depth<=1+k
 ok:Ok t
theorem sU{u v:W}(h:u≠[]):dF (u++v)=dF u:=by
 cases u with
 |nil=>exact(h rfl).elim
 |cons y r=>rfl
theorem lV{f:Fm}{l:Lb}{t u:Tm}:(Tm.mk f l [t,u]).depth=1+max t.depth u.depth:=by rw[Tm.depth,aO,aO,aO];lia
theorem xX{f:Fm}{l:Lb}{t u:Tm}:(Tm.mk f l [t,u]).size=1+t.size+u.size:=by rw[Tm.size,aG,aG,aG];lia
theorem pV{f:Fm}{l:Lb}{t:Tm}:(Tm.mk f l [t]).depth=1+t.depth:=by rw[Tm.depth,aO,aO];lia
theorem A5{f:Fm}{l:Lb}{t:Tm}:(Tm.mk f l [t]).size=1+t.size:=by rw[Tm.size,aG,aG];lia
section
variable{α β:Type}{two:U1->α->α->α}{two':U1->β->β->β}{f:α->β}
def mp(f:α->β)(ps:List (U1×α)):List (U1×β):=ps.map λ q=>(q.1,f q.2)
def Wt(P:Nat->α->Prop):α->List (U1×α)->Nat->Prop
 |x,[],T=>P T x
 |x,(_,y)::ps,T=>∃a b,T=a+b/\P a x/\Wt P y ps b
variable{P:Nat->α->Prop}
variable{N:α->Prop}
end
abbrev I3:=It×PyData
noncomputable def OD(o:Option Tm):PyData:=match o with|none=>.none|some t=>t.dat
def iF:List U1:=[";","<","=","+","-","*","/"]
def sM(s:U1):Bool:=decide (iK 4 (aV (" "++s++" "))=some [aV s])&&decide ((" "++s++" ").length=3)&&decide (s≠"("/\s≠")")&&decide ((aV (" "++s++" ")).head?=some 32)&&(decide (s=";")||gz s||r_ s||se s)
theorem JO:∀s∈iF,sM s=true:=by decide+kernel
structure IS(s:U1):Prop where
 pw:Pw (" "++s++" ") [s]
 bl:Bl (" "++s++" ")
 len:(" "++s++" ").length=3
 br:(decide (s≠"("/\s≠")"))=true
 sg:Hg s
 ne:(aV (" "++s++" ")).isEmpty=false
theorem Ec{s:U1}(h:s∈iF):IS s:=by
 have h:=JO s h;unfold sM at h;simp only[fV,Bool.or_eq_true]at h;obtain⟨⟨⟨⟨a,b⟩,c⟩,d⟩,e⟩:=h;have d:=UP d;obtain⟨r,hr⟩:∃r,aV (" "++s++" ")=32::r:=by
  cases g:aV (" "++s++" ")with
  |nil=>rw[g]at d;cases d
  |cons c r=>rw[g]at d;cases d;exact⟨r,rfl⟩
 refine⟨fw 4 (UP a),ng hr qP,UP b,c,?_,by rw[hr];rfl⟩;rcases e with((e|e)|e)|e
 ·exact .inl (UP e)
 ·exact .inr (.inl e)
 ·exact .inr (.inr (.inl e))
 ·exact .inr (.inr (.inr e))
def b1(o:Option Tm)(f:Tm->Tm):Option Tm:=o.bind λ t=>some (f t)
theorem yL{f:Fm}{l:Lb}{t u v:Tm}:(Tm.mk f l [t,u,v]).depth=1+max t.depth (max u.depth v.depth):=by rw[Tm.depth,aO,aO,aO,aO];lia
theorem G8{f:Fm}{l:Lb}{t u v:Tm}:(Tm.mk f l [t,u,v]).size=1+t.size+u.size+v.size:=by rw[Tm.size,aG,aG,aG,aG];lia
section
variable{x y z:U1}{u v w:W}{o o' o2:Option Tm}
structure St(x:U1)(u:W)(t:Tm):Prop where
 tx:TO x u 10 4
 qd:∀deep,deep<=7->Qd 9 deep u (some t)
 sz:t.size<=3
 dp:t.depth<=3
 ok:Ok t
theorem WW.brk{p:U1}{a:W}(P:Pw p a)(h:WW x u):WW (p++x++")") (a++(u++[(")":U1)])):=by
 have c:=(P _ _ h).app (l6 (x:=")") (ws:=[")"]) 2 qP) (ng (c:=41) (r:=[]) qP qP);rw[eU]at c;exact c
end
def lT(u:W):Prop:=(decide (dF u≠"not"/\dF u≠"if"/\dF u≠"let"/\dF u≠"set"))=true
def RL(J L deep:Nat)(u:W)(t:Tm):Prop:=
 if 6<=L then Qd J deep u (some t)/\lT u
 else if L=5 then ∀low,Pd J low deep u (some t) 5
 else if L=4 then ∀low e,e<=4->Rd J e low deep u (some t) 5
 else if L=3 then ∀low e,e<=3->Rd J e low deep u (some t) 4
 else if L=2 then ∀low e,e<=2->Rd J e low deep u (some t) 2
 else ∀e,e<=1->Rd J e 1 deep u (some t) 1
section
variable{J J' L deep:Nat}{u v:W}{t:Tm}
theorem RL.mono(h:RL J L deep u t)(l:J<=J'):RL J' L deep u t:=by
 unfold RL at h ⊢;split
 ·rename_i z;rw[UL z]at h;exact⟨h.1.mono l,h.2⟩
 ·rename_i z;rw[UK z]at h;split
  ·rename_i z;rw[UL z]at h;exact λ low=>(h low).mono l (aQ _)
  ·rename_i z;rw[UK z]at h;split
   ·rename_i z;rw[UL z]at h;exact λ low e a=>(h low e a).mono l (aQ _)
   ·rename_i z;rw[UK z]at h;split
    ·rename_i z;rw[UL z]at h;exact λ low e a=>(h low e a).mono l (aQ _)
    ·rename_i z;rw[UK z]at h;split
     ·rename_i z;rw[UL z]at h;exact λ low e a=>(h low e a).mono l (aQ _)
     ·rename_i z;rw[UK z]at h;exact λ e a=>(h e a).mono l (aQ _)
theorem ya(h:RL J 6 deep u t)(d:deep<=14):RL J 5 deep u t:=λ low=>h.1.p d h.2
theorem yb(h:RL J 5 deep u t):RL J 4 deep u t:=λ low e ω=>(h low).r
theorem yc(h:RL J 4 deep u t):RL J 3 deep u t:=λ low e l=>(h low e qR).mono (aQ _) qR
theorem yd(h:RL J 3 deep u t):RL J 2 deep u t:=λ low e l=>(h low e qR).mono (aQ _) qR
theorem ye(h:RL J 2 deep u t):RL J 1 deep u t:=λ e l=>(h 1 e qR).mono (aQ _) qR
theorem RL.low{L':Nat}(h:RL J L deep u t)(d:deep<=14)(l:L'<=L)(g:1<=L')(i:L<=6):RL J L' deep u t:=by
 have s:∀n,1<=n->n<=5->RL J (n+1) deep u t->RL J n deep u t:=λ n a b z=>by
  rcases(show n=1\/n=2\/n=3\/n=4\/n=5 by lia)with rfl|rfl|rfl|rfl|rfl
  ·exact ye z
  ·exact yd z
  ·exact yc z
  ·exact yb z
  ·exact ya z d
 obtain⟨k,rfl⟩:∃k,L=L'+k:=⟨L-L',qR⟩;clear l;induction k with
 |zero=>exact h
 |succ k e=>exact e (s (L'+k) qR qR h) qR
end
noncomputable def fA:Tm->Nat
 | .mk .two (.str s) _=>aL s
 | .mk .iff _ _=>2
 | .mk .lt _ _=>1
 | .mk .set _ _=>2
 | .mk .nt _ _=>5
 |_=>6
noncomputable def bI(t:Tm):Nat:=if fA t=6 then t.depth else t.depth-1
structure In(t:Tm)(u:W):Prop where
 rl:∀deep,deep+t.depth<=15->RL (2*t.depth-1) (fA t) deep u t
 br:Br (bI t) u
 hd:dF u≠")"
 ne:u≠[]
 d1:1<=t.depth
 p1:1<=fA t/\fA t<=6
structure Ba(L:Nat)(t:Tm)(u:W):Prop where
 r:∀deep,deep+t.depth<=15->RL (2*t.depth) L deep u t
 b:Br t.depth u
 hd:dF u≠")"
 ne:u≠[]
 d1:1<=t.depth
section
variable{L:Nat}{t:Tm}{u:W}
theorem Ba.rl(h:Ba L t u)(e:1<=L)(g:L<=6){deep:Nat}(d:deep+t.depth<=15):RL (2*t.depth) L deep u t:=h.r deep d
theorem Ba.brk(h:Ba L t u)(e:L<=6):Br t.depth u:=h.b
theorem Iu(h:In t u)(l:L<=fA t)(e:1<=L):Ba L t u:=⟨λ deep d=>((h.rl deep d).mono qR).low (by have:=h.d1;lia) l e h.p1.2,h.br.mono (by unfold bI;split<;>lia),h.hd,h.ne,h.d1⟩
theorem HJ(h:In t u)(p:fA t<6)(g:1<=L)(i:L<=6):Ba L t (("(":U1)::(u++[(")":U1)])):=⟨λ deep d=>by
 have j:=h.d1;have a:=((h.rl deep d).low qR h.p1.1 (aQ 1) h.p1.2) 1 (aQ _);have b:=H_ a qR;have e:2*t.depth-1+1=2*t.depth:=by lia
 rw[e]at b;exact RL.low (L:=6) ⟨b.q,He⟩ qR i g (aQ _),(Az h.br).mono (by have:=h.d1;unfold bI;rw[UK qR];lia),G_,nofun,h.d1⟩
end
theorem sW{t:Tm}{x:U1}(h:∀J deep,Od J deep [x] (some t))(k:lT [x])(n:(decide (x≠"("/\x≠")"))=true)(d:t.depth=1)(p:fA t=6):In t [x]:=
 ⟨λ deep ω=>by rw[p];exact⟨(h _ _).q,k⟩,bH n jP,(UP n).2,nofun,qR,qR⟩
theorem In.b(h:In t u):Br t.depth u:=h.br.mono (by unfold bI;split<;>lia)
abbrev Pr:=W×Tm
def ik(p:Pr):W×Option Tm:=(p.1,some p.2)
def ma:List Pr->W
 |[]=>["(",")"]
 |p::r=>jr (ik p) (r.map ik)
theorem Ce:∀ps:List Pr,eM (ps.map ik)=some (ps.map (·.2))
 |[]=>rfl
 |p::r=>by
  show(some p.2).bind _=_;rw[Ce r];rfl
theorem En{b:Nat}:∀(r:List Pr),(∀p∈r,Br b p.1)->∀(o:Int)(q:W),0<=o->o+b<=13->bz (its (r.map ik)++q) (o+1)=bz q o
 |[],_,o,q,g,i=>by
  show bz ((")":U1)::q) (o+1)=_;have e:bz ((")":U1)::q) (o+1)=if 14<o+1-1 then false else bz q (o+1-1):=rfl;rw[e,show o+1-1=o by lia,UK qR]
 |p::r,h,o,q,g,i=>by
  show bz ((",":U1)::(p.1++its (r.map ik))++q) (o+1)=_;have e:bz ((",":U1)::(p.1++its (r.map ik))++q) (o+1)=if 14<o+1 then false else bz ((p.1++its (r.map ik))++q) (o+1):=rfl;rw[e,UK qR,eU,h p cy (o+1) _ qR qR];exact En r (λ z j=>h z (cV _ j)) o q g i
theorem Ma{b:Nat}:∀(ps:List Pr),(∀p∈ps,Br b p.1)->Br (b+1) (ma ps)
 |[],_=>(Az (b:=b) jP)
 |p::r,h=>λ o q e i=>by
  show bz (("(":U1)::(p.1++its (r.map ik))++q) o=_;rw[ip,bz];rw[UL rfl,UK qR,eU,h p cy (o+1) _ qR qR];exact En r (λ z g=>h z (cV _ g)) o q e qR
theorem dP{ts:List Tm}{t:Tm}(h:t∈ts):t.depth<=aO ts:=by
 induction ts with
 |nil=>exact(i5 h).elim
 |cons y r e=>
  show t.depth<=max y.depth (aO r);rcases(de.mp h)with rfl|h
  ·lia
  ·have:=e h;lia
theorem Ao{J deep:Nat}{ps:List Pr}(m:ps.length<=8)(hi:∀p∈ps,In p.2 p.1)(hd:∀p∈ps,deep+p.2.depth<=15/\2*p.2.depth<=J+1):Ad (J+1) deep (ma ps) (some (ps.map (·.2))):=by
 cases ps with
 |nil=>exact IR
 |cons p r=>
  have a:=Kf (J:=J) (deep:=deep) (i:=ik p) (r:=r.map ik) (c:=1) qR (λ x g=>by
   have g:x∈(p::r).map ik:=g;obtain⟨y,j,rfl⟩:=eO.mp g;have i:=hi y j;obtain⟨n,o⟩:=hd y j;exact(((i.rl deep n).mono qR).low (by have:=i.d1;lia) i.p1.1 (aQ 1) i.p1.2) 1 (aQ _)) (hi p cy).hd (by rw[bB];simp only[cj]at m;lia)
  have e:eM (ik p::r.map ik)=some ((p::r).map (·.2)):=Ce (p::r);rw[e]at a;exact a
theorem Jw(ps:List Pr):dF (ma ps)="(":=by cases ps<;>rfl
theorem uH{f:Fm}{l:Lb}{ts:List Tm}:(Tm.mk f l ts).depth=1+aO ts:=by rw[Tm.depth]
section
variable{x:U1}{ps:List Pr}
theorem yS(hi:∀p∈ps,In p.2 p.1):Br (aO (ps.map (·.2))+1) (ma ps):=Ma ps λ p e=>(hi p e).b.mono (dP (rN e))
theorem J5(m:av x=true)(nx:(decide (x≠"("/\x≠")"))=true)(n:ps.length<=8)(hi:∀p∈ps,In p.2 p.1):In (.mk .new (.str x) (ps.map (·.2))) (("new":U1)::x::ma ps):=by
 have i:(Tm.mk .new (.str x) (ps.map (·.2))).depth=1+aO (ps.map (·.2)):=uH;have j:∀p∈ps,p.2.depth<=aO (ps.map (·.2)):=λ p g=>dP (rN g);refine⟨λ deep d=>?_,?_,show("new":U1)≠")" by decide+kernel,nofun,qR,by show 1<=6/\6<=6;lia⟩
 ·rw[i]at d ⊢;have a:=IM (J:=2*(1+aO (ps.map (·.2)))-1) (deep:=deep) m ((Ao (J:=2*aO (ps.map (·.2))) (deep:=deep+1) n hi λ p g=>⟨by have:=j p g;lia,by have:=j p g;lia⟩).mono qR);exact⟨a.q,show(decide (("new":U1)≠"not"/\("new":U1)≠"if"/\("new":U1)≠"let"/\("new":U1)≠"set"))=true by decide+kernel⟩
 ·have e:bI (.mk .new (.str x) (ps.map (·.2)))=1+aO (ps.map (·.2)):=by unfold bI;rw[UL (show fA _=6 from rfl),i]
  rw[e];exact bH qP (bH nx ((yS hi).mono qR))
theorem LL(m:av x=true)(nx:(decide (x≠"("/\x≠")"))=true)(n:ps.length<=8)(hi:∀p∈ps,In p.2 p.1):In (.mk .elder (.str x) (ps.map (·.2))) (("elder":U1)::(".":U1)::x::ma ps):=by
 have i:(Tm.mk .elder (.str x) (ps.map (·.2))).depth=1+aO (ps.map (·.2)):=uH;have j:∀p∈ps,p.2.depth<=aO (ps.map (·.2)):=λ p g=>dP (rN g);refine⟨λ deep d=>?_,?_,show("elder":U1)≠")" by decide+kernel,nofun,qR,by show 1<=6/\6<=6;lia⟩
 ·rw[i]at d ⊢;have a:=Me (J:=2*(1+aO (ps.map (·.2)))-1) (deep:=deep) m ((Ao (J:=2*aO (ps.map (·.2))) (deep:=deep+1) n hi λ p g=>⟨by have:=j p g;lia,by have:=j p g;lia⟩).mono qR);exact⟨a.q,show(decide (("elder":U1)≠"not"/\("elder":U1)≠"if"/\("elder":U1)≠"let"/\("elder":U1)≠"set"))=true by decide+kernel⟩
 ·have e:bI (.mk .elder (.str x) (ps.map (·.2)))=1+aO (ps.map (·.2)):=by unfold bI;rw[UL (show fA _=6 from rfl),i]
  rw[e];exact bH qP (bH qP (bH nx ((yS hi).mono qR)))
variable{t:Tm}{u:W}
theorem K6(m:av x=true)(nx:(decide (x≠"("/\x≠")"))=true)(n:ps.length<=8)(hi:∀p∈ps,In p.2 p.1)(h:Ba 6 t u):In (.mk .call (.str x) (t::ps.map (·.2))) (u++(".":U1)::x::ma ps):=by
 have i:(Tm.mk .call (.str x) (t::ps.map (·.2))).depth=1+max t.depth (aO (ps.map (·.2))):=uH;have j:∀p∈ps,p.2.depth<=aO (ps.map (·.2)):=λ p g=>dP (rN g);refine⟨λ deep d=>?_,?_,by rw[sU h.ne];exact h.hd,by simp,qR,by show 1<=6/\6<=6;lia⟩
 ·rw[i]at d ⊢;obtain⟨q,k⟩:=h.rl (deep:=deep) qR qR qR;have a:=J9 (J:=2*(1+max t.depth (aO (ps.map (·.2))))-1) m (q.mono qR) ((Ao (J:=2*aO (ps.map (·.2))) (deep:=deep+1) n hi λ p g=>⟨by have:=j p g;lia,by have:=j p g;lia⟩).mono qR) (Jw ps);exact⟨a,by unfold lT;rw[sU h.ne];exact k⟩
 ·have e:bI (.mk .call (.str x) (t::ps.map (·.2)))=1+max t.depth (aO (ps.map (·.2))):=by unfold bI;rw[UL (show fA _=6 from rfl),i]
  rw[e];exact((h.brk qR).mono qR).app (bH qP (bH nx ((yS hi).mono qR)))
theorem Mg(g:av x=true)(nx:(decide (x≠"("/\x≠")"))=true)(h:Ba 6 t u):In (.mk .field (.str x) [t]) (u++[(".":U1),x]):=by
 refine⟨λ deep d=>?_,?_,by rw[sU h.ne];exact h.hd,by simp,by rw[pV];lia,by show 1<=6/\6<=6;lia⟩
 ·rw[pV]at d ⊢;obtain⟨q,k⟩:=h.rl (deep:=deep) qR qR qR;exact⟨Gj g (q.mono qR),by unfold lT;rw[sU h.ne];exact k⟩
 ·have e:bI (.mk .field (.str x) [t])=1+t.depth:=by unfold bI;rw[UL (show fA _=6 from rfl),pV]
  rw[e];exact((h.brk qR).mono qR).app (bH qP (bH nx jP))
theorem IQ(h:Ba 5 t u):In (.mk .nt .non [t]) (("not":U1)::u):=by
 have g:=h.d1;refine⟨λ deep d=>?_,?_,show("not":U1)≠")" by decide+kernel,nofun,by rw[pV];lia,by show 1<=5/\5<=6;lia⟩
 ·rw[pV]at d ⊢;intro low;have e:2*(1+t.depth)-1=2*t.depth+1:=by lia
  rw[e];exact Kk qR (h.rl (deep:=deep+1) qR qR qR low)
 ·have e:bI (.mk .nt .non [t])=t.depth:=by unfold bI;rw[UK (show ¬fA (Tm.mk .nt .non [t])=6 from(show ¬5=6 by decide)),pV];lia
  rw[e];exact bH qP (h.brk qR)
variable{a b c:Tm}{v w:W}
theorem JE(j:av x=true)(nx:(decide (x≠"("/\x≠")"))=true)(g:Ba 1 a u)(h2:Ba 1 b v):In (.mk .lt (.str x) [a,b]) (("let":U1)::x::("=":U1)::(u++("in":U1)::v)):=by
 have m:=g.d1;have n:=h2.d1;refine⟨λ deep d=>?_,?_,show("let":U1)≠")" by decide+kernel,nofun,by rw[lV];lia,by show 1<=1/\1<=6;lia⟩
 ·rw[lV]at d ⊢;intro i l;have p:=Jt (J:=2*max a.depth b.depth) (low:=1) (deep:=deep) j qR ((g.rl (deep:=deep+1) qR qR qR 1 (aQ _)).mono qR (aQ _)) ((h2.rl (deep:=deep+1) qR qR qR 1 (aQ _)).mono qR (aQ _)) (aQ _);exact(p.mono qR (aQ _)).r
 ·have e:bI (.mk .lt (.str x) [a,b])=max a.depth b.depth:=by unfold bI;rw[UK (show ¬fA (Tm.mk .lt (.str x) [a,b])=6 from(show ¬1=6 by decide)),lV];lia
  rw[e];exact bH qP (bH nx (bH qP (((g.brk qR).mono qR).app (bH qP ((h2.brk qR).mono qR)))))
theorem Km(j:av x=true)(nx:(decide (x≠"("/\x≠")"))=true)(g:Ba 6 a u)(h2:Ba 2 b v):In (.mk .set (.str x) [a,b]) (("set":U1)::(u++(".":U1)::x::("=":U1)::v)):=by
 have m:=g.d1;have n:=h2.d1;refine⟨λ deep d=>?_,?_,show("set":U1)≠")" by decide+kernel,nofun,by rw[lV];lia,by show 1<=2/\2<=6;lia⟩
 ·rw[lV]at d ⊢;intro low i l;have p:=Ju (J:=2*max a.depth b.depth) (low:=low) (deep:=deep) j (UP nx).2 qR ((g.rl (deep:=deep) qR qR qR).1.mono qR) ((h2.rl (deep:=deep+1) qR qR qR 2 2 (aQ _)).mono qR (aQ _)) (aQ _);exact(p.mono qR (aQ _)).r
 ·have e:bI (.mk .set (.str x) [a,b])=max a.depth b.depth:=by unfold bI;rw[UK (show ¬fA (Tm.mk .set (.str x) [a,b])=6 from(show ¬2=6 by decide)),lV];lia
  rw[e];exact bH qP (((g.brk qR).mono qR).app (bH qP (bH nx (bH qP ((h2.brk qR).mono qR)))))
theorem Ii(g:Ba 1 a u)(h2:Ba 1 b v)(j:Ba 2 c w):In (.mk .iff .non [a,b,c]) (("if":U1)::(u++("then":U1)::(v++("else":U1)::w))):=by
 have m:=g.d1;refine⟨λ deep d=>?_,?_,show("if":U1)≠")" by decide+kernel,nofun,by rw[yL];lia,by show 1<=2/\2<=6;lia⟩
 ·rw[yL]at d ⊢;intro low i l;have p:=Iy (J:=2*max a.depth (max b.depth c.depth)) (low:=low) (deep:=deep) qR ((g.rl (deep:=deep+1) qR qR qR 1 (aQ _)).mono qR (aQ _)) ((h2.rl (deep:=deep+1) qR qR qR 1 (aQ _)).mono qR (aQ _)) ((j.rl (deep:=deep+1) qR qR qR 2 2 (aQ _)).mono qR (aQ _)) (aQ _);exact(p.mono qR (aQ _)).r
 ·have e:bI (.mk .iff .non [a,b,c])=max a.depth (max b.depth c.depth):=by unfold bI;rw[UK (show ¬fA (Tm.mk .iff .non [a,b,c])=6 from(show ¬2=6 by decide)),yL];lia
  rw[e];exact bH qP (((g.brk qR).mono qR).app (bH qP (((h2.brk qR).mono qR).app (bH qP ((j.brk qR).mono qR)))))
def ke(p:Nat):Nat:=if p<3 then p+1 else p
def j6(p:Nat):Nat:=if 1<p then p+1 else p
theorem Ko{s:U1}(D:s∈iF)(n:Ba (ke (aL s)) a u)(h2:Ba (j6 (aL s)) b v):In (.mk .two (.str s) [a,b]) (u++s::v):=by
 have K:=n.d1;have M:=h2.d1;have S:=Ec D;have y:fA (.mk .two (.str s) [a,b])=aL s:=rfl;have E:(aL s=1/\s=";")\/(aL s=2/\gz s=true)\/(aL s=3/\r_ s=true)\/(aL s=4/\se s=true):=by
  rcases S.sg with e|e|e|e
  ·exact .inl ⟨by rw[e];decide+kernel,e⟩
  ·exact .inr (.inl ⟨(zg e).1,e⟩)
  ·exact .inr (.inr (.inl ⟨(AE s e).1,e⟩))
  ·exact .inr (.inr (.inr ⟨(Ax s e).1,e⟩))
 have o:(decide (s≠"."/\s≠"("))=true:=by
  rcases S.sg with e|e|e|e
  ·rw[e];decide+kernel
  ·exact(zg e).2.1
  ·exact(AE s e).2.2.1
  ·exact(Ax s e).2.2.1
 have G:2*(1+max a.depth b.depth)-1=2*max a.depth b.depth+1:=by lia
 refine⟨λ deep d=>?_,?_,by rw[sU n.ne];exact n.hd,by simp,by rw[lV];lia,by rw[y];lia⟩
 ·rw[lV]at d ⊢;rw[y,G];have i:=λ(hl:1<=ke (aL s)) (A:ke (aL s)<=6)=>(n.rl (deep:=deep) hl A qR).mono (J':=2*max a.depth b.depth+1) qR;have j:=λ(hl:1<=j6 (aL s)) (A:j6 (aL s)<=6)=>(h2.rl (deep:=deep+1) hl A qR).mono (J':=2*max a.depth b.depth) qR;rcases E with⟨e,m⟩|⟨e,m⟩|⟨e,m⟩|⟨e,m⟩
  ·rw[e]at i j ⊢;subst m;have i:RL _ 2 deep u a:=i qQ qQ;have j:RL _ 1 (deep+1) v b:=j qQ qQ;exact λ g l=>xG (c:=2) (cr:=1) qR qR (i 1 g qR) (j (rhs ";") qP) qR o (aQ _) qP (λ ω=>by lia)
  ·rw[e]at i j ⊢;have i:RL _ 3 deep u a:=i qQ qQ;have j:RL _ 3 (deep+1) v b:=j qQ qQ;have C:=(zg m).2.2.1;exact λ low g l=>xG (c:=4) (cr:=4) qR qR (i low g qR) (j low (rhs s) qR) qR o qR qR (λ ω=>by lia)
  ·rw[e]at i j ⊢;have i:RL _ 3 deep u a:=i qQ qQ;have j:RL _ 4 (deep+1) v b:=j qQ qQ;obtain⟨ω,C,ω,B⟩:=AE s m;exact λ low g l=>xG (c:=4) (cr:=5) qR qR (i low g qR) (j low (rhs s) qR) qR o qR qR (λ z=>by rw[B]at z;cases z)
  ·rw[e]at i j ⊢;have i:RL _ 4 deep u a:=i qQ qQ;have j:RL _ 5 (deep+1) v b:=j qQ qQ;obtain⟨ω,C,ω,B⟩:=Ax s m;exact λ low g l=>xG (c:=5) (cr:=5) qR qR (i low g qR) (j low).r qR o qR qR (λ z=>by rw[B]at z;cases z)
 ·have e:bI (.mk .two (.str s) [a,b])=max a.depth b.depth:=by unfold bI;rw[UK (by rw[y];lia),lV];lia
  rw[e];have H:ke (aL s)<=6:=by unfold ke;split<;>lia
  have I:j6 (aL s)<=6:=by unfold j6;split<;>lia
  exact((n.brk H).mono qR).app (bH S.br ((h2.brk I).mono qR))
end
def gQ(k:U1):Prop:=k="number"\/k="truth"\/av k=true
structure eD(p:U1×U1):Prop where
 n:av p.1=true
 k:gQ p.2
section
variable{ws rest:W}{n:Nat}
theorem Fc{k:U1}(h:gQ k)(e:ws.drop n=k::rest):dE ws n=.ok k (n+1):=by
 have a:=(cm e).1;unfold dE;rcases h with rfl|rfl|h
 ·rw[UL a]
 ·rw[UK (by rw[a];decide+kernel),UL a]
 ·by_cases c:k="number"
  ·rw[UL (by rw[a];exact c),c]
  ·rw[UK (by rw[a];exact c)];by_cases g:k="truth"
   ·rw[UL (by rw[a];exact g),g]
   ·rw[UK (by rw[a];exact g),kW e h]
theorem nC{p:U1×U1}(h:eD p)(e:ws.drop n=p.1::p.2::rest):cM ws n=.ok p (n+2):=by
 unfold cM;rw[kW e h.n];show(dE ws (n+1)).bind _=_;rw[Fc h.k (cm e).2];rfl
def cW:List (U1×U1)->W
 |[]=>[(")":U1)]
 |p::r=>(",":U1)::p.1::p.2::cW r
def fJ:List (U1×U1)->W
 |[]=>["(",")"]
 |p::r=>("(":U1)::p.1::p.2::cW r
theorem Di:∀(l a:List (U1×U1))(f n:Nat)(rest:W),(∀p∈l,eD p)->ws.drop n=cW l++rest->ws.length<n+f->cf ws (cM ws) f a n=.ok (a++l) (n+(cW l).length)
 |[],a,f,n,rest,_,e,l=>by
  have c:=jo e (show cW []≠[]from nofun);have e:ws.drop n=(")":U1)::rest:=e;cases f with
  |zero=>simp only[cW,cj,iG]at c;lia
  |succ f=>
   unfold cf;rw[UK (by rw[(cm e).1];decide+kernel),ia e,eu];rfl
 |p::r,a,f,n,rest,h,e,l=>by
  have c:=jo e (show cW (p::r)≠[]from nofun);have i:(cW (p::r)).length=3+(cW r).length:=by simp only[cW,cj];lia
  have j:ws.drop n=(",":U1)::p.1::p.2::(cW r++rest):=e;obtain⟨m,g⟩:=cm j;obtain⟨b1,o⟩:=cm g;obtain⟨w,u⟩:=cm o;cases f with
  |zero=>lia
  |succ f=>
   unfold cf;rw[UL m,nC (h p cy) g];show cf ws (cM ws) f (a++[p]) (n+1+2)=_;rw[Di r (a++[p]) f _ rest (λ x v=>h x (cV _ v)) u qR,eU,i];show aZ.ok _ _=aZ.ok _ _;congr 1;lia
theorem N7{l:List (U1×U1)}(h:∀p∈l,eD p)(e:ws.drop n=fJ l++rest):dh ws (cM ws) n=.ok l (n+(fJ l).length):=by
 cases l with
 |nil=>
  have e:ws.drop n=("(":U1)::(")":U1)::rest:=e;unfold dh;rw[ia e];show((if aA ws (n+1)=")" then _ else _:aZ (List (U1×U1))))=_;rw[UL (cm (cm e).2).1];rfl
 |cons p r=>
  have a:ws.drop n=("(":U1)::p.1::p.2::(cW r++rest):=e;obtain⟨o,c⟩:=cm a;obtain⟨b1,i⟩:=cm c;obtain⟨u,j⟩:=cm i;have g:=h p cy;unfold dh;rw[ia a];show((if aA ws (n+1)=")" then _ else _:aZ (List (U1×U1))))=_;rw[UK (by rw[b1];intro z;have:=g.n;rw[z]at this;revert this;decide+kernel),nC g c];show cf ws (cM ws) (ws.length+1) [p] (n+1+2)=_;rw[Di r [p] _ _ rest (λ x m=>h x (cV _ m)) j qR];show aZ.ok _ _=aZ.ok _ _;congr 1;simp only[fJ,cj];lia
abbrev Wb:=Wd×W
def gE(b:Wb):W:=fJ b.1.params++b.1.kind::("=":U1)::b.2
structure mE(b:Wb):Prop where
 nm:av b.1.name=true
 ps:∀p∈b.1.params,eD p
 p4:b.1.params.length<=4
 kd:gQ b.1.kind
 bd:In b.1.body b.2
 dp:b.1.body.depth<=14
theorem Fp{b:Wb}{kf:Nat}(ps:∀p∈b.1.params,eD p)(o:b.1.params.length<=4)(i:gQ b.1.kind)(a:In b.1.body b.2)(u:b.1.body.depth<=14)(v:28<=kf)(e:ws.drop n=gE b++rest)(nx:Nx 1 rest):c8 ws kf b.1.name n=.ok b.1 (n+(gE b).length):=by
 have c:ws.drop n=fJ b.1.params++(b.1.kind::("=":U1)::(b.2++rest)):=by rw[e,gE];simp
 obtain⟨w,g⟩:=cm (fj c);obtain⟨b1,m⟩:=cm g;obtain⟨j,rfl⟩:∃j,kf=j+1:=⟨kf-1,qR⟩;have x:=a.d1;have r:=(((a.rl 1 qR).low qR a.p1.1 (aQ 1) a.p1.2) 1 (aQ _)).run (j:=j) qR m nx nx.s;unfold c8;rw[N7 ps c];show(if 4<b.1.params.length then _ else _)=_;rw[UK qR,Fc i (fj c)];show(bT ws "=" (n+(fJ b.1.params).length+1)).bind _=_;rw[ia g];show((rd ws (j+1)).T 1 1 1 (n+(fJ b.1.params).length+1+1)).bind _=_;rw[r];show aZ.ok _ _=aZ.ok _ _;congr 1;simp only[gE,bX,cj];lia
def eG:List (U1×U1)->W
 |[]=>[]
 |p::r=>("has":U1)::p.1::p.2::eG r
theorem B8:∀(l xs:List (U1×U1))(f n:Nat)(rest:W),(∀p∈l,eD p)->ws.drop n=eG l++rest->dF rest≠"has"->ws.length<n+f->n<=ws.length->bQ ws f xs n=.ok (xs++l) (n+(eG l).length)
 |[],xs,f,n,rest,_,e,hr,l,c=>by
  have e:ws.drop n=rest:=e;cases f with
  |zero=>lia
  |succ f=>
   rw[bQ,UK (by rw[jA,e];exact hr),eu];rfl
 |p::r,xs,f,n,rest,h,e,hr,l,c=>by
  have v:=jo e (show eG (p::r)≠[]from nofun);have g:(eG (p::r)).length=3+(eG r).length:=by simp only[eG,cj];lia
  have i:ws.drop n=("has":U1)::p.1::p.2::(eG r++rest):=e;obtain⟨j,a⟩:=cm i;obtain⟨b1,m⟩:=cm a;obtain⟨w,o⟩:=cm m;cases f with
  |zero=>lia
  |succ f=>
   rw[bQ,UL j,nC (h p cy) a];show bQ ws f (xs++[p]) (n+1+2)=_;rw[B8 r (xs++[p]) f _ rest (λ x u=>h x (cV _ u)) o hr qR qR,eU,g];show aZ.ok _ _=aZ.ok _ _;congr 1;lia
def c_:List Wb->W
 |[]=>[]
 |b::r=>("can":U1)::b.1.name::(gE b++c_ r)
theorem Kl{r:List Wb}{rest:W}(hr:Nx 1 rest):Nx 1 (c_ r++rest):=by
 cases r with
 |nil=>exact hr
 |cons b r=>exact fW qP qR
theorem GW{kf:Nat}(g:28<=kf):∀(l:List Wb)(xs:List Wd)(f n:Nat)(rest:W),(∀b∈l,mE b)->ws.drop n=c_ l++rest->dF rest≠"can"->Nx 1 rest->ws.length<n+f->n<=ws.length->b8 ws kf f xs n=.ok (xs++l.map (·.1)) (n+(c_ l).length)
 |[],xs,f,n,rest,_,e,hr,c,l,m=>by
  have e:ws.drop n=rest:=e;cases f with
  |zero=>lia
  |succ f=>
   rw[b8,UK (by rw[jA,e];exact hr)];show aZ.ok xs n=aZ.ok (xs++[]) (n+0);rw[eu];rfl
 |b::r,xs,f,n,rest,h,e,hr,c,l,m=>by
  have y:=jo e (show c_ (b::r)≠[]from nofun);have o:(c_ (b::r)).length=2+(gE b).length+(c_ r).length:=by simp only[c_,cj,bX];lia
  have u:ws.drop n=("can":U1)::b.1.name::(gE b++(c_ r++rest)):=by rw[e,c_];simp
  obtain⟨v,i⟩:=cm u;obtain⟨b1,j⟩:=cm i;have a:=h b cy;cases f with
  |zero=>lia
  |succ f=>
   rw[b8,UL v,kW i a.nm];show(c8 ws kf b.1.name (n+1+1)).bind _=_;rw[Fp a.ps a.p4 a.kd a.bd a.dp g j (Kl c)];show b8 ws kf f (xs++[b.1]) (n+1+1+(gE b).length)=_;rw[GW g r (xs++[b.1]) f _ rest (λ x w=>h x (cV _ w)) (fj j) hr c qR qR,eU,o];show aZ.ok _ _=aZ.ok _ _;congr 1;lia
structure Hb where
 name:U1
 elder:Option U1
 fields:List (U1×U1)
 words:List Wb
def Hb.h(b:Hb):Hs:=⟨b.name,b.elder,b.fields,b.words.map (·.1)⟩
def lQ:Option U1->W
 |none=>[]
 |some y=>[("of":U1),y]
def iN(b:Hb):W:=b.name::(lQ b.elder++("{":U1)::(eG b.fields++(c_ b.words++[("}":U1)])))
structure jI(b:Hb):Prop where
 nm:av b.name=true
 el:∀y,b.elder=some y->av y=true
 fl:∀p∈b.fields,eD p
 f4:b.fields.length<=4
 wd:∀x∈b.words,mE x
 w8:b.words.length<=8
theorem M_{b:Hb}{kf:Nat}(h:jI b)(u:28<=kf)(e:ws.drop n=iN b++rest):dz ws kf n=.ok b.h (n+(iN b).length):=by
 have z:=jo e (show iN b≠[]from nofun);have A:(iN b).length=1+(lQ b.elder).length+1+(eG b.fields).length+(c_ b.words).length+1:=by simp only[iN,cj,bX,iG];lia
 have j:ws.drop n=b.name::(lQ b.elder++(("{":U1)::(eG b.fields++(c_ b.words++(("}":U1)::rest))))):=by rw[e,iN];simp
 obtain⟨B,a⟩:=cm j;have v:j8 ws (n+1)=.ok b.elder (n+1+(lQ b.elder).length):=by
  unfold j8;cases i:b.elder with
  |none=>
   rw[i]at a;rw[UK (by rw[jA,a];show("{":U1)≠"of";decide+kernel)];rfl
  |some y=>
   rw[i]at a;obtain⟨m,g⟩:=cm (show ws.drop (n+1)=("of":U1)::y::_ from a);rw[UL m,kW g (h.el y i)];rfl
 have c:=fj a;obtain⟨m,g⟩:=cm c;unfold dz;rw[kW j h.nm];show(j8 ws (n+1)).bind _=_;rw[v];show(bT ws "{" (n+1+(lQ b.elder).length)).bind _=_;rw[ia c];show(bQ ws (ws.length+1) [] (n+1+(lQ b.elder).length+1)).bind _=_;have w:dF (c_ b.words++(("}":U1)::rest))≠"has":=by
  cases b.words with
  |nil=>show("}":U1)≠"has";decide+kernel
  |cons x r=>show("can":U1)≠"has";decide+kernel
 rw[B8 b.fields [] _ _ _ h.fl g w qR qR];show(if 4<([]++b.fields).length then _ else _)=_;rw[UK (by rw[mU];have:=h.f4;lia)];have o:=fj g;rw[GW u b.words [] _ _ _ h.wd o (show("}":U1)≠"can" by decide+kernel) (fW qP qR) qR qR];show(if 8<([]++b.words.map (λ x:Wb=>x.1)).length then _ else _)=_;rw[UK (by rw[mU,bB];have:=h.w8;lia)];rw[ia (fj o)];show aZ.ok _ _=aZ.ok _ _;congr 1;lia
def cX:List Hb->W
 |[]=>[]
 |b::r=>("house":U1)::(iN b++cX r)
theorem B5{kf:Nat}(a:28<=kf):∀(l:List Hb)(xs:List Hs)(f n:Nat)(rest:W),(∀b∈l,jI b)->ws.drop n=cX l++rest->dF rest≠"house"->ws.length<n+f->n<=ws.length->cx ws kf f xs n=.ok (xs++l.map Hb.h) (n+(cX l).length)
 |[],xs,f,n,rest,_,e,hr,l,g=>by
  have e:ws.drop n=rest:=e;cases f with
  |zero=>lia
  |succ f=>
   rw[cx,UK (by rw[jA,e];exact hr)];show aZ.ok xs n=aZ.ok (xs++[]) (n+0);rw[eu];rfl
 |b::r,xs,f,n,rest,h,e,hr,l,g=>by
  have u:=jo e (show cX (b::r)≠[]from nofun);have i:(cX (b::r)).length=1+(iN b).length+(cX r).length:=by simp only[cX,cj,bX];lia
  have j:ws.drop n=("house":U1)::(iN b++(cX r++rest)):=by rw[e,cX];simp
  obtain⟨m,c⟩:=cm j;cases f with
  |zero=>lia
  |succ f=>
   rw[cx,UL m,M_ (h b cy) a c];show cx ws kf f (xs++[b.h]) (n+1+(iN b).length)=_;rw[B5 a r (xs++[b.h]) f _ rest (λ x o=>h x (cV _ o)) (fj c) hr qR qR,eU,i];show aZ.ok _ _=aZ.ok _ _;congr 1;lia
theorem sO{k:U1}(h:gQ k):(decide (k≠"("/\k≠")"))=true:=by
 rcases h with rfl|rfl|h
 ·decide+kernel
 ·decide+kernel
 ·refine UO ⟨λ z=>?_,λ z=>?_⟩<;>(rw[z]at h;revert h;decide+kernel)
theorem oN{x:U1}(h:av x=true):(decide (x≠"("/\x≠")"))=true:=sO (.inr (.inr h))
theorem Fh:∀(l:List (U1×U1)),(∀p∈l,eD p)->∀(o:Int)(q:W),0<=o->o<=13->bz (cW l++q) (o+1)=bz q o
 |[],_,o,q,c,g=>by
  have e:bz (cW []++q) (o+1)=if 14<o+1-1 then false else bz q (o+1-1):=rfl;rw[e,show o+1-1=o by lia,UK qR]
 |p::r,h,o,q,c,g=>by
  have i:=h p cy;have a:=bH (b:=0) (x:=",") qP (bH (oN i.n) (bH (sO i.k) jP)) (o+1) (cW r++q) qR qR;have e:cW (p::r)++q=((",":U1)::[p.1,p.2])++(cW r++q):=rfl;rw[e,a];exact Fh r (λ z j=>h z (cV _ j)) o q c g
theorem JB{l:List (U1×U1)}(h:∀p∈l,eD p):Br 14 (fJ l):=by
 cases l with
 |nil=>exact(Az (b:=0) jP).mono qR
 |cons p r=>
  refine Br.mono (b:=1) (λ o q g j=>?_) qR;have c:=h p cy;have e:bz (fJ (p::r)++q) o=if 14<o+1 then false else bz ([p.1,p.2]++(cW r++q)) (o+1):=rfl;have a:=bH (b:=0) (oN c.n) (bH (sO c.k) jP) (o+1) (cW r++q) qR qR;rw[e,UK qR,a];exact Fh r (λ z i=>h z (cV _ i)) o q g qR
theorem D_{b:Wb}(ps:∀p∈b.1.params,eD p)(a:gQ b.1.kind)(c:In b.1.body b.2)(e:b.1.body.depth<=14):Br 14 (gE b):=(JB ps).app (bH (sO a) (bH qP (c.b.mono e)))
theorem ER:∀(l:List Wb),(∀b∈l,mE b)->Br 14 (c_ l)
 |[],_=>jP
 |b::r,h=>by
  have a:=h b cy;exact bH qP (bH (oN a.nm) ((D_ a.ps a.kd a.bd a.dp).app (ER r λ x c=>h x (cV _ c))))
theorem EB:∀(l:List (U1×U1)),(∀p∈l,eD p)->Br 14 (eG l)
 |[],_=>jP
 |p::r,h=>bH qP (bH (oN (h p cy).n) (bH (sO (h p cy).k) (EB r λ x a=>h x (cV _ a))))
theorem HH{b:Hb}(h:jI b):Br 14 (iN b):=by
 refine bH (oN h.nm) (Br.app ?_ (bH qP ((EB _ h.fl).app ((ER _ h.wd).app (bH qP jP)))));cases a:b.elder with
 |none=>exact jP
 |some y=>exact bH qP (bH (oN (h.el y a)) jP)
theorem EK:∀(l:List Hb),(∀b∈l,jI b)->Br 14 (cX l)
 |[],_=>jP
 |b::r,h=>bH qP ((HH (h b cy)).app (EK r λ x a=>h x (cV _ a)))
def jw(hs:List Hb)(mb:Wb):W:=cX hs++("main":U1)::gE mb
structure tU(hs:List Hb)(mb:Wb):Prop where
 ho:∀b∈hs,jI b
 h12:hs.length<=12
 mn:mb.1.name="main"
 ps:∀p∈mb.1.params,av p.1=true/\p.2="number"
 p4:mb.1.params.length<=4
 kd:gQ mb.1.kind
 bd:In mb.1.body mb.2
 dp:mb.1.body.depth<=14
 sz:aG (bb ⟨hs.map Hb.h,mb.1⟩)<=400
theorem lN{c:List Hb}{e:Wb}{kf:Nat}(h:tU c e)(m:28<=kf):gb (jw c e) kf=.ok ⟨c.map Hb.h,e.1⟩ (jw c e).length:=by
 have mp:∀p∈e.1.params,eD p:=λ p i=>⟨(h.ps p i).1,.inl (h.ps p i).2⟩;have o:(jw c e).drop 0=cX c++(("main":U1)::(gE e++[])):=by rw[eu];rfl
 have lw:(jw c e).length=(cX c).length+1+(gE e).length:=by simp only[jw,bX,cj];lia
 have B:bz (jw c e) 0=true:=by
  have b:Br 14 (jw c e):=(EK c h.ho).app (bH qP (D_ mp h.kd h.bd h.dp));have:=b 0 [] qR qR;rw[eu]at this;rw[this];rfl
 generalize jw c e=ws at*;have a:=fj o;obtain⟨I,u⟩:=cm a;have g:((bb ⟨c.map Hb.h,e.1⟩).any λ b=>decide (14<b.depth))=false:=by
  rw[List.any_eq_false];intro b A;unfold bb at A;rcases hU.mp A with z|z
  ·obtain⟨x,C,D⟩:=List.mem_flatMap.mp z;obtain⟨y,j,rfl⟩:=eO.mp C;obtain⟨w,E,rfl⟩:=eO.mp D;obtain⟨v,G,rfl⟩:=eO.mp E;have:=((h.ho y j).wd v G).dp;simp only[decide_eq_true_eq];lia
  ·rw[dN.mp z];have:=h.dp;simp only[decide_eq_true_eq];lia
 unfold gb;rw[B,UK qQ,B5 m c [] _ _ _ h.ho o (show("main":U1)≠"house" by decide+kernel) qR qR];show fG ws kf ([]++c.map Hb.h) (0+(cX c).length)=_;rw[mU];unfold fG;rw[UK (by rw[bB];have:=h.h12;lia),ia a];show(c8 ws kf "main" (0+(cX c).length+1)).bind _=_;have w:=Fp mp h.p4 h.kd h.bd h.dp m u (Kh qR);rw[h.mn]at w;rw[w];show(if aA ws (0+(cX c).length+1+(gE e).length)≠"" then aZ.bad else _)=_;rw[UK (by rw[jA,fj u];exact λ z=>z rfl)];have H:(e.1.params.all λ p=>decide (p.2="number"))=true:=i7.mpr λ p i=>UO (h.ps p i).2;rw[H,UK qQ,g,UK qQ,UK (by have:=h.sz;lia)];show aZ.ok _ _=aZ.ok _ _;congr 1;lia
end
open K10 (cG bA iO cu)
theorem EX{l:List Nat}(h:l≠[])(i:∀c∈l,bF c=true)(j:(bD l||cE l)=true):Ws l [l]:=λ k=>by
 cases l with
 |nil=>exact(h rfl).elim
 |cons c r=>
  have e:=i c cy;have t:∀q:List Nat,(∀c∈q,bF c=true)->q.takeWhile bF=q/\q.dropWhile bF=[]:=λ q=>by
   induction q with
   |nil=>exact λ ω=>⟨rfl,rfl⟩
   |cons x y m=>
    intro z;obtain⟨a,b⟩:=m λ c e=>z c (cV _ e);rw[j9,mM,UL (z x cy),UL (z x cy),a];exact⟨rfl,b⟩
  have g:gaps.contains c=false:=by
   cases n:gaps.contains c with
   |false=>rfl
   |true=>rw[K10.jb n]at e;cases e
  rw[cu,UK (by rw[g];decide),UL e,(t (c::r) i).1,UL j,(t r λ c e=>i c (cV _ e)).2,cu];rfl
def dg(m:Nat):List Nat:=(Nat.toDigits 10 m).map Char.toNat
theorem Bo:∀d<10,(Nat.digitChar d).toNat=48+d:=by decide
variable{m:Nat}
theorem xp(h:m<10):dg m=[48+m]:=by
 unfold dg;rw[Nat.toDigits_of_lt_base h,dJ,Bo m h];rfl
theorem xv(h:10<=m):dg m=dg (m/10)++[48+m%10]:=by
 unfold dg;rw[Nat.toDigits_of_base_le qQ h,eZ,dJ,Bo _ (Nat.mod_lt _ qQ)];rfl
def fN(l:List Nat):Nat:=l.foldl (λ(a c:Nat)=>a*10+(c-48)) 0
theorem Eh(m:Nat):fN (dg m)=m:=by
 induction m using Nat.strongRecOn with
 |ind m ih=>
  by_cases h:m<10
  ·rw[xp h];show 0*10+(48+m-48)=m;lia
  ·rw[xv qR];unfold fN;rw[List.foldl_append];show fN (dg (m/10))*10+(48+m%10-48)=m;rw[ih (m/10) qR];lia
theorem J6(m:Nat):∀c∈dg m,48<=c/\c<=57:=by
 induction m using Nat.strongRecOn with
 |ind m ih=>
  by_cases h:m<10
  ·rw[xp h];intro c hc;rw[dN.mp hc];lia
  ·rw[xv qR];intro c hc;rcases hU.mp hc with z|z
   ·exact ih (m/10) qR c z
   ·rw[dN.mp z];lia
theorem EE:∀(k m:Nat),m<10^k->1<=k->(dg m).length<=k
 |0,_,_,h=>by lia
 |k+1,m,h,_=>by
  by_cases a:m<10
  ·rw[xp a];show 1<=k+1;lia
  ·rw[xv qR,bX];show(dg (m/10)).length+1<=k+1;have:m/10<10^k:=by rw[Nat.pow_succ]at h;lia
   have c:1<=k:=by
    cases k with
    |zero=>have:m/10<1:=this;lia
    |succ k=>lia
   have:=EE k (m/10) this c;lia
theorem Lp(m:Nat):∃c r,dg m=c::r/\(c=48->r=[]):=by
 induction m using Nat.strongRecOn with
 |ind m ih=>
  by_cases h:m<10
  ·exact⟨48+m,[],xp h,λ ω=>rfl⟩
  ·obtain⟨c,r,e,g⟩:=ih (m/10) qR;refine⟨c,r++[48+m%10],by rw[xv qR,e];rfl,λ z=>?_⟩;have hr:=g z;rw[hr,z]at e;have f:=Eh (m/10);rw[e]at f;have f:0*10+(48-48)=m/10:=f;lia
theorem E8:∀c,48<=c->c<=57->cG.contains c=true:=λ c a b=>by
 rcases(show c=48\/c=49\/c=50\/c=51\/c=52\/c=53\/c=54\/c=55\/c=56\/c=57 by lia)with rfl|rfl|rfl|rfl|rfl|rfl|rfl|rfl|rfl|rfl<;>decide
theorem FA(h:cG.contains c=true):bF c=true:=by unfold bF;rw[h];simp
def tN(m:Nat):U1:=Rx (toString ((m:Nat):Int))
theorem sY(m:Nat):aV (tN m)=dg m:=W.KIN.signs_num m
theorem JN(h:m<10^9):bD (aV (tN m))=true/\WW (tN m) [tN m]/\sZ (tN m)=(m:Int)/\(tN m).length<=9/\tN m≠"":=by
 obtain⟨c,r,e,g⟩:=Lp m;have l:=EE 9 m h qR;have a:=J6 m;have nm:bD (dg m)=true:=by
  rw[e]at l a ⊢;simp only[cj]at l;unfold bD;rw[fV];refine⟨UO qR,?_⟩;split
  ·rename_i z;rw[g z];rfl
  ·exact i7.mpr λ x i=>E8 x (a x i).1 (a x i).2
 refine⟨by rw[sY];exact nm,?_,?_,?_,?_⟩
 ·show Ws (aV (tN m)) [aV (tN m)];rw[sY];exact EX (by rw[e];nofun) (λ c j=>FA (E8 c (a c j).1 (a c j).2)) (by rw[nm];rfl)
 ·have f:fN (aV (tN m))=m:=by rw[sY];exact Eh m
  show((fN (aV (tN m)):Nat):Int)=m;rw[f]
 ·rw[<-K10.aM,sY];exact l
 ·intro z;have:=sY m;rw[z,e]at this;cases this
theorem hX{x:U1}(h:av x=true):cE (aV x)=true/\bN.contains x=false:=by
 unfold av at h;rw[fV,Bool.not_eq_true']at h;exact h
theorem NN(h:bA.contains c=true):bF c=true:=by unfold bF;rw[h];rfl
theorem Hk:∀c∈bA,cG.contains c=false/\c≠48:=by decide
structure Jo(x:U1):Prop where
 nm:av x=true
 num:bD (aV x)=false
 ne:(decide (x≠""/\x≠"yes"/\x≠"no"))=true
 ww:WW x [x]
 br:(decide (x≠"("/\x≠")"))=true
 kw:lT [x]
 len:x.length<=8
theorem qh{x:U1}(h:bN.contains x=false){y:U1}(a:y∈bN):x≠y:=λ z=>by
 rw[z,mO.mpr a]at h;cases h
theorem eA{x:U1}(h:av x=true):Jo x:=by
 obtain⟨j,i⟩:=hX h;have e:∃c r,aV x=c::r:=by
  cases m:aV x with
  |nil=>rw[m]at j;cases j
  |cons c r=>exact⟨c,r,rfl⟩
 obtain⟨c,r,e⟩:=e;have g:=j;rw[e]at g;unfold cE at g;rw[fV,fV]at g;obtain⟨l,s,a⟩:=g;have l:=UP l;have a:=i7.mp a;have n:=Hk c (mO.mp s);refine⟨h,?_,?_,?_,oN h,?_,?_⟩
 ·rw[e];show(decide (r.length<=8)&&if c=48 then r.isEmpty else(c::r).all λ x=>cG.contains x)=false;rw[UK n.2];have:(c::r).all (λ x=>cG.contains x)=false:=by
   show(cG.contains c&&_)=false;rw[n.1];rfl
  rw[this,Bool.and_false]
 ·refine UO ⟨λ z=>?_,qh i qP,qh i qP⟩;rw[z]at e;cases e
 ·show Ws (aV x) [aV x];refine EX (by rw[e];nofun) (λ c m=>?_) (by rw[j,mQ]);rw[e]at m;have:=a c m;rcases kN.mp this with z|z
  ·exact NN z
  ·exact FA z
 ·exact UO ⟨qh i qP,qh i qP,qh i qP,qh i qP⟩
 ·rw[<-K10.aM,e,cj];lia
theorem B_(e:U1):∀(r:List U1)(a:Array Nat),(r.foldl (λ g p=>g++e.cps++p.cps) a).toList=a.toList++(r.map λ p=>aV e++aV p).flatten
 |[],a=>by simp
 |p::r,a=>by
  rw[List.foldl_cons,B_ e r,dJ,mV];simp[aV]
theorem zR(e y:U1)(r:List U1):aV (RS e (y::r))=aV y++(r.map λ p=>aV e++aV p).flatten:=by
 show((r.foldl (λ g p=>g++e.cps++p.cps) y.cps)).toList=_;rw[B_]
theorem join_one(e y:U1):RS e [y]=y:=by
 refine K10.dB ?_;rw[zR];simp
theorem dm(e x y:U1)(r:List U1):RS e (x::y::r)=x++e++RS e (y::r):=by
 refine K10.dB ?_;rw[zR,K10.bE,K10.bE,zR,dJ,mV];simp
theorem join_nil(e:U1):RS e []="":=by
 refine K10.dB ?_;rfl
inductive Tn(t:Tm)(x:U1):Prop
 |mk(u:W)(i:In t u)(w:WW x u)(l:x.length<=40*t.size):Tn t x
inductive Tb(L:Nat)(t:Tm)(x:U1):Prop
 |mk(u:W)(i:Ba L t u)(w:WW x u)(l:x.length<=40*t.size+2):Tb L t x
theorem qW{L:Nat}{t:Tm}{x:U1}(h:Tn t x)(l:L<=fA t)(e:1<=L):Tb L t x:=by
 obtain⟨u,i,w,g⟩:=h;exact⟨u,Iu i l e,w,qR⟩
theorem qX{L:Nat}{t:Tm}{x:U1}(h:Tn t x)(p:fA t<6)(e:1<=L)(g:L<=6):Tb L t ("("++x++")"):=by
 obtain⟨u,i,w,j⟩:=h;refine⟨_,HJ i p e g,WW.brk (p:="(") (a:=["("]) (fw 2 qP) w,?_⟩;rw[aj,aj];have m:("(":U1).length=1:=by decide+kernel
 have n:(")":U1).length=1:=by decide+kernel
 lia
theorem sI{f:Fm}{l:Lb}:(Tm.mk f l []).depth=1:=by rw[Tm.depth,aO]
theorem nY(h:m<10^9):Tn (.mk .number (.int (m:Int)) []) (tN m):=by
 obtain⟨a,b,c,d,e⟩:=JN h;have g:(decide (tN m≠"("/\tN m≠")"))=true:=by
  refine UO ⟨λ z=>?_,λ z=>?_⟩<;>(rw[z]at a;revert a;decide+kernel)
 have kw:lT [tN m]:=by
  refine UO ⟨λ z=>?_,λ z=>?_,λ z=>?_,λ z=>?_⟩<;>(have z:tN m=_:=z;rw[z]at a;revert a;decide+kernel)
 refine⟨[tN m],sW (λ J deep=>?_) kw g sI rfl,b,by rw[pK];lia⟩;have:=Kg (J:=J) (deep:=deep) a e;rw[c]at this;exact this
theorem nV:Tn (.mk .truth (.bl true) []) "yes":=⟨_,sW (λ J deep=>JK) (by unfold lT;decide+kernel) qP sI rfl,l6 3 qP,by rw[pK];decide+kernel⟩
theorem qU:Tn (.mk .truth (.bl false) []) "no":=⟨_,sW (λ J deep=>HS) (by unfold lT;decide+kernel) qP sI rfl,l6 3 qP,by rw[pK];decide+kernel⟩
theorem lj:Tn (.mk .self .non []) "self":=⟨_,sW (λ J deep=>KD) (by unfold lT;decide+kernel) qP sI rfl,l6 3 qP,by rw[pK];decide+kernel⟩
theorem ll{x:U1}(h:av x=true):Tn (.mk .name (.str x) []) x:=by
 have n:=eA h;exact⟨_,sW (λ J deep=>KO h n.num n.ne) n.kw n.br sI rfl,n.ww,by rw[pK];have:=n.len;lia⟩
inductive nM:List Tm->List U1->Prop
 |nil:nM [] []
 |cons{t:Tm}{x:U1}{ts:List Tm}{xs:List U1}:Tn t x->nM ts xs->nM (t::ts) (x::xs)
def kh:List Pr->W
 |[]=>[]
 |p::r=>(",":U1)::(p.1++kh r)
theorem FQ:∀r:List Pr,its (r.map ik)=kh r++[(")":U1)]
 |[]=>rfl
 |p::r=>by
  show(",":U1)::(p.1++its (r.map ik))=_;rw[FQ r];simp[kh]
theorem Fl:∀{ts:List Tm}{xs:List U1}{t:Tm}{x:U1},Tn t x->nM ts xs->∃(p:Pr)(ps:List Pr),p.2=t/\ps.map (·.2)=ts/\(∀q∈p::ps,In q.2 q.1)/\WW (RS ", " (x::xs)) (p.1++kh ps)/\(RS ", " (x::xs)).length<=40*(t.size+aG ts)+2*ts.length
 |_,_,t,x,⟨u,i,w,l⟩,.nil=>by
  refine⟨(u,t),[],rfl,rfl,λ q g=>by rw[dN.mp g];exact i,?_,?_⟩
  ·rw[join_one];show WW x (u++[]);rw[eu];exact w
  ·rw[join_one];show _<=40*(t.size+0)+0;lia
 |_,_,t,x,⟨u,i,w,l⟩,@nM.cons j C ts xs m n=>by
  obtain⟨p,ps,o,v,A,B,hl⟩:=Fl m n;refine⟨(u,t),p::ps,rfl,by rw[dJ,o,v],λ q g=>?_,?_,?_⟩
  ·rcases de.mp g with rfl|g
   ·exact i
   ·exact A q g
  ·rw[dm];exact WW.mid w (ng (c:=44) (r:=[32]) qP qP) (fw (u:=[","]) 3 qP) B qP
  ·rw[dm,aj,aj];have e:(", ":U1).length=2:=by decide+kernel
   show _<=40*(t.size+(j.size+aG ts))+2*(ts.length+1);lia
inductive TR(ts:List Tm)(r:U1):Prop
 |mk(ps:List Pr)(e:ps.map (·.2)=ts)(i:∀p∈ps,In p.2 p.1)(w:WW r (ma ps))(b:Bl r)(l:r.length<=40*aG ts+2*ts.length+2):TR ts r
theorem mL{ts:List Tm}{xs:List U1}(h:nM ts xs):TR ts ("("++RS ", " xs++")"):=by
 have b:∀y:U1,Bl ("("++y++")"):=λ y=>.inr ⟨40,aV y++[41],by rw[K10.bE,K10.bE];rfl,qP⟩;have u:("(":U1).length=1:=by decide+kernel
 have v:(")":U1).length=1:=by decide+kernel
 cases h with
 |nil=>
  refine⟨[],rfl,λ p g=>(i5 g).elim,?_,b _,?_⟩
  ·rw[join_nil];exact l6 3 qP
  ·rw[join_nil];decide+kernel
 |@cons t x ts xs h i=>
  obtain⟨p,ps,j,m,n,o,hl⟩:=Fl h i;refine⟨p::ps,by rw[dJ,j,m],n,?_,b _,?_⟩
  ·have a:=WW.brk (p:="(") (a:=["("]) (fw 2 qP) o;have e:ma (p::ps)=(["("]:W)++(p.1++kh ps++[(")":U1)]):=by
    show("(":U1)::(p.1++its (ps.map ik))=_;rw[FQ];simp
   rw[e];exact a
  ·rw[aj,aj];show _<=40*(t.size+aG ts)+2*(ts.length+1)+2;lia
theorem vd:∀ts:List Tm,ts.length<=aG ts
 |[]=>aQ _
 |t::ts=>by
  show ts.length+1<=t.size+aG ts;have:=vd ts;have:1<=t.size:=by obtain⟨f,l,ps⟩:=t;rw[Tm.size];lia
  lia
section
variable{x:U1}{ts:List Tm}{r:U1}(hx:av x=true)
theorem uf{f:Fm}{l:Lb}{ts:List Tm}:(Tm.mk f l ts).size=1+aG ts:=by rw[Tm.size]
include hx
theorem n_(h:TR ts r)(g:ts.length<=8):Tn (.mk .new (.str x) ts) ("new "++x++r):=by
 obtain⟨ps,rfl,i,w,b,l⟩:=h;have n:=eA hx;refine⟨_,J5 hx n.br (by simpa using g) i,(fw (x:="new ") (u:=["new"]) 5 qP _ _ n.ww).app w b,?_⟩;rw[aj,aj,uf];have e:("new ":U1).length=4:=by decide+kernel
 have:=n.len;have:=vd (ps.map (·.2));lia
theorem jW(h:TR ts r)(g:ts.length<=8):Tn (.mk .elder (.str x) ts) ("elder."++x++" "++r):=by
 obtain⟨ps,rfl,i,w,b,l⟩:=h;have n:=eA hx;refine⟨_,LL hx n.br (by simpa using g) i,?_,?_⟩
 ·exact WW.mid (fw (x:="elder.") (u:=["elder","."]) 7 qP _ _ n.ww) (ni (y:="") qP) (fw (u:=[]) 2 qP) w qP
 rw[aj,aj,aj,uf];have e:("elder.":U1).length=6:=by decide+kernel
 have j:(" ":U1).length=1:=by decide+kernel
 have:=n.len;have:=vd (ps.map (·.2));lia
variable{t:Tm}{y:U1}
theorem jV(h:Tb 6 t y):Tn (.mk .field (.str x) [t]) (y++"."++x):=by
 obtain⟨u,i,w,l⟩:=h;have n:=eA hx;refine⟨_,Mg hx n.br i,?_,?_⟩
 ·exact WW.mid w (ng (c:=46) (r:=[]) qP qP) (fw (x:=".") (u:=["."]) 2 qP) n.ww qP
 rw[aj,aj,A5];have e:(".":U1).length=1:=by decide+kernel
 have:=n.len;lia
theorem lr(h:Tb 6 t y)(g:TR ts r)(j:ts.length<=8):Tn (.mk .call (.str x) (t::ts)) (y++" . "++x++r):=by
 obtain⟨u,i,w,l⟩:=h;obtain⟨ps,rfl,m,o,b,v⟩:=g;have n:=eA hx;refine⟨_,K6 hx n.br (by simpa using j) m i,?_,?_⟩
 ·have a:=(WW.mid w (ni (y:=". ") qP) (fw (x:=" . ") (u:=["."]) 4 qP) n.ww qP).app o b;simp only[eU]at a;exact a
 rw[aj,aj,aj,uf];have e:(" . ":U1).length=3:=by decide+kernel
 show _<=40*(1+(t.size+aG (ps.map (·.2))));have:=n.len;have:=vd (ps.map (·.2));lia
variable{a b:Tm}{z:U1}
theorem oe(h:Tb 1 a y)(g:Tb 1 b z):Tn (.mk .lt (.str x) [a,b]) ("let "++x++" = "++y++"\nin "++z):=by
 obtain⟨u,i,w,l⟩:=h;obtain⟨v,j,m,o⟩:=g;have n:=eA hx;refine⟨_,JE hx n.br i j,?_,?_⟩
 ·have c:=WW.mid (fw (x:="let ") (u:=["let"]) 5 qP _ _ n.ww) (ni (y:="= ") qP) (fw (x:=" = ") (u:=["="]) 4 qP) w qP;have d:=WW.mid c (ng (c:=10) (r:=[105,110,32]) qP qP) (fw (x:="\nin ") (u:=["in"]) 5 qP) m qP;simp only[eU,ip,mU]at d;exact d
 rw[aj,aj,aj,aj,aj,xX];have e:("let ":U1).length=4:=by decide+kernel
 have A:(" = ":U1).length=3:=by decide+kernel
 have B:("\nin ":U1).length=4:=by decide+kernel
 have:=n.len;lia
theorem nX(h:Tb 6 a y)(g:Tb 2 b z):Tn (.mk .set (.str x) [a,b]) ("set "++y++"."++x++" =\t"++z):=by
 obtain⟨u,i,w,l⟩:=h;obtain⟨v,j,m,o⟩:=g;have n:=eA hx;refine⟨_,Km hx n.br i j,?_,?_⟩
 ·have c:=WW.mid (fw (x:="set ") (u:=["set"]) 5 qP _ _ w) (ng (c:=46) (r:=[]) qP qP) (fw (x:=".") (u:=["."]) 2 qP) n.ww qP;have d:=WW.mid c (ni (y:="=\t") qP) (fw (x:=" =\t") (u:=["="]) 4 qP) m qP;simp only[eU,ip,mU]at d;exact d
 rw[aj,aj,aj,aj,aj,xX];have e:("set ":U1).length=4:=by decide+kernel
 have A:(".":U1).length=1:=by decide+kernel
 have B:(" =\t":U1).length=3:=by decide+kernel
 have:=n.len;lia
end
section
variable{a b c:Tm}{x y z:U1}
theorem nZ(h:Tb 5 a x):Tn (.mk .nt .non [a]) ("not "++x):=by
 obtain⟨u,i,w,l⟩:=h;refine⟨_,IQ i,fw (x:="not ") (u:=["not"]) 5 qP _ _ w,?_⟩;rw[aj,A5];have e:("not ":U1).length=4:=by decide+kernel
 lia
theorem nW{s:U1}(m:s∈iF)(h:Tb (ke (aL s)) a x)(g:Tb (j6 (aL s)) b y):Tn (.mk .two (.str s) [a,b]) (x++" "++s++" "++y):=by
 obtain⟨u,i,w,l⟩:=h;obtain⟨v,j,n,o⟩:=g;have S:=Ec m;have e:x++(" "++s++" ")++y=x++" "++s++" "++y:=by simp only[E_]
 rw[<-e];refine⟨_,Ko m i j,WW.mid w S.bl S.pw n S.ne,?_⟩;rw[aj,aj,S.len,xX];lia
theorem qV(h:Tb 1 a x)(g:Tb 1 b y)(k:Tb 2 c z):Tn (.mk .iff .non [a,b,c]) ("if "++x++" then "++y++"\nelse "++z):=by
 obtain⟨u,i,w,l⟩:=h;obtain⟨v,j,n,A⟩:=g;obtain⟨r,m,o,B⟩:=k;refine⟨_,Ii i j m,?_,?_⟩
 ·have c:=WW.mid (fw (x:="if ") (u:=["if"]) 4 qP _ _ w) (ni (y:="then ") qP) (fw (x:=" then ") (u:=["then"]) 7 qP) n qP;have d:=WW.mid c (ng (c:=10) (r:=[101,108,115,101,32]) qP qP) (fw (x:="\nelse ") (u:=["else"]) 7 qP) o qP;simp only[eU,ip,mU]at d;exact d
 rw[aj,aj,aj,aj,aj,G8];have e:("if ":U1).length=3:=by decide+kernel
 have C:(" then ":U1).length=6:=by decide+kernel
 have D:("\nelse ":U1).length=6:=by decide+kernel
 lia
end
inductive Rw:List U1->W->Prop
 |nil:Rw [] []
 |cons{x:U1}{u:W}{xs:List U1}{w:W}:WW x u->Rw xs w->Rw (x::xs) (u++w)
theorem Rw.app{xs ys:List U1}{u v:W}(h:Rw xs u)(g:Rw ys v):Rw (xs++ys) (u++v):=by
 induction h with
 |nil=>exact g
 |cons a _ c=>rw[eU];exact .cons a c
theorem Rw.one{x:U1}{u:W}(h:WW x u):Rw [x] u:=by
 have:=Rw.cons h .nil;rw[eu]at this;exact this
theorem iX:∀{xs:List U1}{x:U1}{u w:W},WW x u->Rw xs w->WW (RS " " (x::xs)) (u++w)
 |_,x,u,_,h,.nil=>by rw[join_one,eu];exact h
 |_,x,u,_,h,@Rw.cons y v e w g c=>by
  rw[dm];have a:=WW.mid (m:=" ") (v:=[]) h (ni (y:="") qP) (fw 2 qP) (iX g c) qP;exact a
theorem uQ{k:U1}(h:gQ k):WW k [k]:=by
 rcases h with rfl|rfl|h
 ·exact l6 3 qP
 ·exact l6 3 qP
 ·exact(eA h).ww
theorem c9{k:U1}(h:gQ k):k.length<=8:=by
 rcases h with rfl|rfl|h
 ·decide+kernel
 ·decide+kernel
 ·exact(eA h).len
def fb(p:U1×U1):U1:=p.1++" "++p.2
theorem D9{p:U1×U1}(h:eD p):WW (fb p) [p.1,p.2]:=WW.mid (eA h.n).ww (ni (y:="") qP) (fw (x:=" ") (u:=[]) 2 qP) (uQ h.k) qP
def uC:List (U1×U1)->W
 |[]=>[]
 |p::r=>(",":U1)::p.1::p.2::uC r
theorem F5:∀l,cW l=uC l++[(")":U1)]
 |[]=>rfl
 |p::r=>by show(",":U1)::p.1::p.2::cW r=_;rw[F5 r];rfl
theorem gD:∀(l:List (U1×U1))(p:U1×U1),(∀q∈p::l,eD q)->WW (RS ", " ((p::l).map fb)) (p.1::p.2::uC l)/\(RS ", " ((p::l).map fb)).length<=20*(l.length+1)
 |[],p,h=>by
  have g:=h p cy;show WW (RS ", " [fb p]) _/\(RS ", " [fb p]).length<=_;rw[join_one];refine⟨D9 g,?_⟩;unfold fb;rw[aj,aj];have e:(" ":U1).length=1:=by decide+kernel
  have:=(eA g.n).len;have:=c9 g.k;simp only[iG];lia
 |r::l,p,h=>by
  have g:=h p cy;obtain⟨a,b⟩:=gD l r λ q i=>h q (cV _ i);show WW (RS ", " (fb p::fb r::l.map fb)) _/\(RS ", " (fb p::fb r::l.map fb)).length<=_;rw[dm];refine⟨WW.mid (D9 g) (ng (c:=44) (r:=[32]) qP qP) (fw (u:=[","]) 3 qP) a qP,?_⟩;have b:(RS ", " (fb r::l.map fb)).length<=20*(l.length+1):=b;rw[aj,aj];unfold fb at b ⊢;rw[aj,aj];have e:(" ":U1).length=1:=by decide+kernel
  have j:(", ":U1).length=2:=by decide+kernel
  have:=(eA g.n).len;have:=c9 g.k;simp only[cj];lia
theorem Eo{l:List (U1×U1)}(h:∀p∈l,eD p):WW ("("++RS ", " (l.map fb)++")") (fJ l):=by
 cases l with
 |nil=>rw[show([]:List (U1×U1)).map fb=[]from rfl,join_nil];exact l6 3 qP
 |cons p r=>
  have a:=WW.brk (p:="(") (a:=["("]) (fw 2 qP) (gD r p h).1;have e:fJ (p::r)=(["("]:W)++(p.1::p.2::uC r++[(")":U1)]):=by
   show("(":U1)::p.1::p.2::cW r=_;rw[F5];rfl
  rw[e];exact a
theorem lw{x:U1}(n:Nat)(h:nU n (aV x)=some [aV x]):WW x [x]:=l6 (ws:=[x]) n h
theorem Kj{p:U1×U1}(h:eD p):WW ("has "++p.1++" "++p.2) (("has":U1)::[p.1,p.2]):=WW.mid (fw (x:="has ") (u:=["has"]) 5 qP _ _ (eA h.n).ww) (ni (y:="") qP) (fw (x:=" ") (u:=[]) 2 qP) (uQ h.k) qP
theorem j5:∀{l:List (U1×U1)},(∀p∈l,eD p)->Rw (l.map λ p=>"has "++p.1++" "++p.2) (eG l)
 |[],_=>.nil
 |p::r,h=>Rw.cons (Kj (h p cy)) (j5 λ q a=>h q (cV _ a))
def iY(d:Wd)(x:U1):List U1:=["can",d.name,"("++RS ", " (d.params.map fb)++")",d.kind,"=",x]
theorem rB{b:Wb}{x:U1}(nm:av b.1.name=true)(ps:∀p∈b.1.params,eD p)(c:gQ b.1.kind)(w:WW x b.2):Rw (iY b.1 x) (("can":U1)::b.1.name::gE b):=by
 have a:=Rw.cons (lw (x:="can") 3 qP) (Rw.cons (eA nm).ww (Rw.cons (Eo ps) (Rw.cons (uQ c) (Rw.cons (lw (x:="=") 3 qP) (Rw.one w)))));exact a
def gw(d:Wd)(x:U1):List U1:=["main","("++RS ", " (d.params.map fb)++")",d.kind,"=",x]
theorem rC{b:Wb}{x:U1}(ps:∀p∈b.1.params,eD p)(c:gQ b.1.kind)(w:WW x b.2):Rw (gw b.1 x) (("main":U1)::gE b):=by
 have a:=Rw.cons (lw (x:="main") 3 qP) (Rw.cons (Eo ps) (Rw.cons (uQ c) (Rw.cons (lw (x:="=") 3 qP) (Rw.one w))));exact a
end RR
end
section
namespace L2
open PySem PySem.Spec PyProof.Rows
variable{K:X0}{Q:VK}{H:Hp}
theorem Og{a:V0}{L:TT}{D:V0}{ys:List V}{w:St}(M:Option V)(rest:St)(p:Nat->Bool)(X:w=M::rest)(N:H D=none)(hz:ys.length<=Ru)(Y:∀u,ao H u->az K u a ys)(Z:∀i y,ys[i]?=some y->∀u (O:Bool->Hp->Prop),ao H u->(∀n,ao u n->O (p i) n)->L (some y::rest) u O)(hQ:∀g H',ao H H'->H' D=some (.lst g)->(g=[]->∀i,i<ys.length->p i=false)->((∀i,i<ys.length->p i=false)->g=[])->Q (.ref D) H'):jd (jT K a) (gU 0) L (oM 0) D Q w (ar H D (.lst [])):=by
 refine⟨λ i m A H'=>m=ys.length-i/\i<=ys.length/\(∃v,A=v::rest)/\ao H H'/\∃g,H' D=some (.lst g)/\g.length<=i/\(g=[]->∀j,j<i->p j=false)/\((∀j,j<i->p j=false)->g=[]),⟨ys.length,by simp,dj _,⟨M,X⟩,dR N _,[],bu,aQ _,λ ω j h=>UM h (Nat.not_lt_zero _),λ ω=>rfl⟩,?_⟩;rintro i m A H' ⟨rfl,hi,⟨v,rfl⟩,B,g,P,G,R,S⟩;have I:=Y H' B;by_cases C:i<ys.length
 ·refine .inr ⟨⟨ys,ys[i],I,dc C⟩,λ E n=>(∃v,E=v::rest)/\ao H n/\∃g,n D=some (.lst g)/\g.length<=i+1/\(g=[]->∀j,j<i+1->p j=false)/\((∀j,j<i+1->p j=false)->g=[]),λ E n ⟨a,b,c⟩=>⟨ys.length-(i+1),qR,rfl,C,a,b,c⟩,λ x n hx=>?_⟩;obtain⟨e1,e2⟩:=hx;subst e1;have ex:=e2 ys I;unfold gU;rw[uu];refine Z i x ex n _ B λ H3 J=>?_;have T:=J _ _ P;cases e:p i with
  |true=>
   rw[UL rfl];refine⟨_,T,qR,⟨_,rfl⟩,λ b o U=>?_,_,bu,by rw[bX];exact mS G,λ z=>UM z (by simp),λ h=>?_⟩
   ·rw[aU (bY U N)];exact J _ _ (B _ _ U)
   ·rw[h i (iH _)]at e;cases e
  |false=>
   rw[UK qQ];refine⟨⟨_,rfl⟩,B.trans J,g,T,qR,λ z j hj=>?_,λ h=>S λ j hj=>h j qR⟩;by_cases ej:j=i
   ·rw[ej];exact e
   ·exact R z j qR
 ·have e:i=ys.length:=by lia
  subst e;exact .inl ⟨⟨ys,I,aQ _⟩,hQ g H' B P R S⟩
open PySem.XF PySem.XO
def E3(sp:Sp)(E:St->XK)(t:TA):TE:=λ a H Q=>t a H λ vs c=>sp (vs++[]) c Q (E a)
theorem Q9{sp:Sp}{E:St->XK}{t:TA}{a:St}:E3 sp E t a H Q=t a H λ vs c=>sp (vs++[]) c Q (E a):=rfl
section
variable{X:Cx}{CX:ij}{k:Nat}{f:V0}{fd:RN}{ps:List U1}{sp:Sp}{x:U1}{p pos:Pos}{e:Expr}{es:List Expr}{t:TA}
theorem Ln{c:List (V0×Obj)}{i:St}{s:Z1}{us:List Y1}{vs:List V}{E:XK}(F:bc X.prog X.w X.K X.mg X.base CX k f fd ps sp)(hr:bw k X.A)(m:Binds X.K fd ps [])(n:∀e g,CX X.stack H s E e g->X.xe e g)(I:Inv X c i H s)(r:aI vs us)(h:sp (vs++[]) H Q E):Rz (RD X.prog X.w) X.A (call (.ref f) us) (EP X c i Q) X.xe s:=by
 have j:aI (vs++[]) (us++[]):=r.append .nil;have o:(us++[]).length=ps.length:=by rw[<-j.length];exact F.len _ _ _ _ h
 refine Ts (SN (F.run X.A X.stack s H ⟨us,[]⟩ (us++[]) (vs++[]) Q E hr I.env0 (m s us I.kIn o) j h) λ z g a=>?_);match z,a with
 | .error e,a=>exact n e g a
 | .ok (.ret u),a=>exact I.after a
 | .ok .next,a=>exact a.elim
 | .ok .brk,a=>exact a.elim
 | .ok .cont,a=>exact a.elim
theorem ML{E:St->XK}(F:bc X.prog X.w X.K X.mg X.base (f7 X.prog X.w) k f fd ps sp)(hr:bw k X.A)(m:Gl X x)(n:X.mg x=some (.ref f))(o:RM X.K (.ref f)=true)(u:Binds X.K fd ps [])(v:PA (X.wish (bx X E)) (e::es) t)(g:(x==("__debug__":U1))=false:=by decide)(w:Rt (e::es) X.env=(false,RJ e X.env)::Rt es X.env:=by rfl)(i:(RK pos (Rt es X.env)).any (·.1)=false:=by rfl):PE (X.wish (bx X E)) (.Call (.Name x p) (e::es) [] pos) (E3 sp E t):=by
 intro a s y H Q I h;refine RP (kX I m n ?_ g);refine Tf (h₀:=X.base) I.ok.mod.kin o (aW (v pos a s y H _ I h) λ us z hz_=>?_) w i;obtain⟨vs,A,j,r,q⟩:=hz_;refine⟨j.kIn,?_⟩;exact Ln (X:=X.wish (bx X E)) (CX:=f7 X.prog X.w) F hr u (λ e B c=>Cc j.unwish c λ ω ω ω q=>q) j r q
end
inductive iR(xs:List V)(H:Hp)(Q:VK):Prop
 |int(i:Int)(e:xs=[.int i])(b:i.natAbs.log2<1920)(q:Q (.str (Rx (toString i))) H):iR xs H Q
 |str(x:U1)(e:xs=[.str x])(q:Q (.str x) H):iR xs H Q
 |non(e:xs=[.non])(q:Q (.str "None") H):iR xs H Q
section
variable{X:Cx}
theorem CN:gN X (.type "str") iR:=by
 intro a s c H e us Q I r h;rcases h with⟨i,rfl,b,q⟩|⟨x,rfl,q⟩|⟨rfl,q⟩
 ·obtain⟨u,rfl,t,rfl⟩:=kj r;exact P.str_of_int b ⟨.str _,H,I.tok _,⟨_,rfl⟩,q⟩
 ·obtain⟨u,rfl,t,rfl⟩:=kj r;exact P.str_of_str ⟨.str _,H,I,⟨_,rfl⟩,q⟩
 ·obtain⟨u,rfl,r1⟩:=kj r;cases r1;exact P.str_of_none ⟨.str _,H,I.tok _,⟨_,rfl⟩,q⟩
end
def IB(K:X0)(B B2:V0)(tb:(St->XK)->TS)(ts:V0->TS)(i:Nat)(ts2:V0->TS):TS:=λ D o H=>∃E:St->XK,tb E D o H/\
 ∀e a C u j,e.length=o.length->E e (.ref C) u j->j a=some (dG a C u)->(∃m,gY K C m=true)/\((SM K C (.ref B)=some true/\ts a D e j)\/(SM K C (.ref B)=some false/\SM K C (.ref B2)=some true/\ts2 a {nx:=λ c g=>D.nx (c.set i none) g,rt:=D.rt,bk:=λ c g=>D.bk (c.set i none) g,ct:=λ c g=>D.ct (c.set i none) g} (e.set i (some (.ref a))) j))
section
variable{X:Cx}{B B2:V0}{b b2 n:U1}{p p2 hpos hpos2 pos:Pos}{body suite suite2:List RH}{b0 c0:RH}{i:Nat}{tb:(St->XK)->TS}{ts ts2:V0->TS}
theorem Lu{ini ini2:Option V0}(hs:X.stack=X.env::X.outer)(hf:X.env.frame=some X.env.locals)(hB:gY X.K B ini=true)(hg:Gl X b)(hm:X.mg b=some (.ref B))(hB2:gY X.K B2 ini2=true)(hg2:Gl X b2)(hm2:X.mg b2=some (.ref B2))(hN:X.N.Nodup)(hi:X.N[i]?=some n)(hk:X.env.scope.names.lookup n=some .local)(hb:∀(l:List (V0×Obj))(E:St->XK),fy ((X.pinned l).wish (bx (X.pinned l) E)) body (tb E))(hsu:∀a,fy (X.held (.ref a)).nox (b0::suite) (ts a))(hsu2:∀a,fy (X.held (.ref a)).nox (c0::suite2) (ts2 a))(hd:(b==("__debug__":U1))=false:=by decide)(hd2:(b2==("__debug__":U1))=false:=by decide):PS X (.Try body [.ExceptHandler (some (.Name b p)) none (b0::suite) hpos,.ExceptHandler (some (.Name b2 p2)) (some n) (c0::suite2) hpos2] [] [] pos) (IB X.K B B2 tb ts i ts2):=by
 intro af s σ H D I h;obtain⟨E,h1,h2⟩:=h;have ok:=I.ok;refine wpAny_Try_except (R7 (hb (X.pn++af) E [] s σ H D ((I.borne).wish _) h1) (λ f s1 q=>?_) λ e s1 q=>?_)
 ·cases f with
  |next=>obtain⟨σ',H',I',q⟩:=q;exact Tp ⟨σ',H',I'.unwish.unborne ok,q⟩
  |brk=>obtain⟨σ',H',I',q⟩:=q;exact⟨σ',H',I'.unwish.unborne ok,q⟩
  |cont=>obtain⟨σ',H',I',q⟩:=q;exact⟨σ',H',I'.unwish.unborne ok,q⟩
  |ret u=>obtain⟨v,σ',H',I',r,q⟩:=q;exact⟨v,σ',H',I'.unwish.unborne ok,r,q⟩
 obtain⟨a,C,ed,σ',H',rfl,I1,F1,q⟩:=q;have hx:H' a=some (dG a C ed):=by rcases F1 with F|F|F<;>exact F.1
 obtain⟨⟨ini',xC⟩,h3⟩:=h2 σ' a C ed H' (I1.len.trans I.len.symm) q hx;refine uR (X:=X.pinned (X.pn++af)) I1 rfl hs hf F1 λ s2 I2 F2=>qm (X:=X.pinned (X.pn++af)) I2 F2 λ s3 I3 F3=>?_;refine wpAny_handleBy_cons (codeAny_handlers_test (kX (X:=(X.pinned (X.pn++af)).held (.ref a)) (I3.held (.ref a)) hg hm ?_ hd)) (λ z=>nomatch z);obtain⟨nm,qn,N,bs,bm,hdct,sn,sub,ab,col,dd,k0,k1,k2,k3,k5,mN,lC,nN,ω,T⟩:=nE I3.kIn xC;obtain⟨nm',qn',N',bs',bm',hdct',sn',sub',ab',col',dd',k0',k1',k2',k3',k5',mN',lB,nN',ω,T'⟩:=nE I3.kIn hB;obtain⟨vs,sl,ea⟩:=I3.anExc hx;have look:∀{Z:V0}{q:Bool},SM X.K C (.ref Z)=some q->(RA C::bm).contains (.ref Z)=q:=by
  intro Z q hsub;unfold SM W.clsIn at hsub;rw[show X.K.lookup C=_ from lC]at hsub;simpa using hsub
 rcases h3 with⟨hsub,h3⟩|⟨hsub,hsub2,h3⟩
 ·obtain⟨hp,g,d,tk,os⟩:=s3;refine Ae (h:=hp) (I3.kIn _ _ lC) ea rfl (I3.kIn _ _ lB) (tG T') (look hsub) ?_;refine codeAny_handlers_suite (qm (X:=X.pinned (X.pn++af)) I3 F3 λ s4 I4 F4=>?_);have I6:Inv (X.held (.ref a)).nox af σ' H' s4:=(((I4.unborne (X:=X) ok).held (.ref a))).wish _;refine R7 (hsu a af s4 _ H' _ I6 h3) (λ f s6 z=>?_) λ ω ω z=>z.elim;cases f with
  |next=>
   obtain⟨σ2,H2,J,z⟩:=z;exact⟨_,H2,J.unwish.unheld (X:=X) ok,z⟩
  |brk=>
   obtain⟨σ2,H2,J,z⟩:=z;exact⟨_,H2,J.unwish.unheld (X:=X) ok,z⟩
  |cont=>
   obtain⟨σ2,H2,J,z⟩:=z;exact⟨_,H2,J.unwish.unheld (X:=X) ok,z⟩
  |ret u=>
   obtain⟨v,σ2,H2,J,r,z⟩:=z;exact⟨v,_,H2,J.unwish.unheld (X:=X) ok,r,z⟩
 ·refine(λ(z:_)=>z) ?_;obtain⟨hp,g,d,tk,os⟩:=s3;refine Ae (h:=hp) (I3.kIn _ _ lC) ea rfl (I3.kIn _ _ lB) (tG T') (look hsub) ?_;refine wpAny_handleBy_cons (codeAny_handlers_test (kX (X:=(X.pinned (X.pn++af)).held (.ref a)) (I3.held (.ref a)) hg2 hm2 ?_ hd2)) (λ z=>nomatch z);obtain⟨nm',qn',N',bs',bm',hdct',sn',sub',ab',col',dd',k0',k1',k2',k3',k5',mN',lB,nN',ω,T'⟩:=nE I3.kIn hB2;refine Ae (h:=hp) (I3.kIn _ _ lC) ea rfl (I3.kIn _ _ lB) (tG T') (look hsub2) ?_;refine codeAny_handlers_suite_as (qm (X:=X.pinned (X.pn++af)) I3 F3 λ s4 I4 F4=>?_);refine u_ (X:=X.pinned (X.pn++af)) (v:=.ref a) I4 hN hi (.inl hk) rfl (λ s5 I5=>?_) (.inr hk);have I6:Inv (X.held (.ref a)).nox af (σ'.set i (some (.ref a))) H' s5:=(((I5.unborne (X:=X) ok).held (.ref a))).wish _;refine R7 (hsu2 a af s5 _ H' _ I6 h3) (λ f s6 z=>?_) λ ω ω z=>z.elim;cases f with
  |next=>
   obtain⟨σ2,H2,J,z⟩:=z;exact uV (J.unwish.unheld (X:=X) ok) hN hi hk λ s7 J7=>⟨_,H2,J7,z⟩
  |brk=>
   obtain⟨σ2,H2,J,z⟩:=z;exact uV (J.unwish.unheld (X:=X) ok) hN hi hk λ s7 J7=>⟨_,H2,J7,z⟩
  |cont=>
   obtain⟨σ2,H2,J,z⟩:=z;exact uV (J.unwish.unheld (X:=X) ok) hN hi hk λ s7 J7=>⟨_,H2,J7,z⟩
  |ret u=>
   obtain⟨v,σ2,H2,J,r,z⟩:=z;exact uV (J.unwish.unheld (X:=X) ok) hN hi hk λ s7 J7=>⟨v,_,H2,J7,r,z⟩
end
open PySem.SeqAt
def Iw:V->Prop
 | .str _=>False
 |_=>True
def AO(K:X0):List V->Hp->VK->Prop:=λ a H Q=>∃x d,a=[x]/\Iw x/\dZ K H x d/\d.showable=true/\d.hasDict=false/\d.depth<=60/\d.shown.length<=Ru/\Q (.str d.shown) H
theorem De{X:Cx}(m:X.A.guards=some [])(B:X.A.units+64<UI):gN X (.builtin "repr") (AO X.K):=by
 intro n s C H D us Q I o h;obtain⟨x,d,rfl,v,hr,g,hd,E,hl,q⟩:=h;obtain⟨u,rfl,c⟩:=o.one;cases hr with
 |non=>
  obtain rfl:u=RW:=c;exact PySem.P.repr_of_none ⟨.str (Ux .none),H,I.tok _,⟨_,rfl⟩,q⟩
 |bl b=>
  obtain rfl:u=Tr b:=c;exact PySem.P.repr_of_bool ⟨.str (Ux (.bool b)),H,I.tok _,⟨_,by cases b<;>rfl⟩,q⟩
 |int i=>
  obtain⟨t,rfl⟩:=(show ∃t,u=Su i t from c);rw[PyData.showable]at g;exact PySem.P.repr_of_int (UP g) ⟨.str (Ux (.int i)),H,I.tok _,⟨_,rfl⟩,q⟩
 |str z=>exact v.elim
 |lst a b=>
  obtain⟨w,j⟩:=dZ.reads I (.lst a b) c;obtain rfl:=(show u=RA _ from c);exact repr_of_reads' j g (λ z=>by rw[hd]at z;cases z) m qR (λ ω ω e=>e) (λ y u A k=>⟨.str _,H,I.kept k,⟨_,rfl⟩,q⟩) hl
 |tup a b=>
  obtain⟨w,j⟩:=dZ.reads I (.tup a b) c;obtain rfl:=(show u=RA _ from c);exact repr_of_reads' j g (λ z=>by rw[hd]at z;cases z) m qR (λ ω ω e=>e) (λ y u A k=>⟨.str _,H,I.kept k,⟨_,rfl⟩,q⟩) hl
theorem K7{a:V0}{o:Obj}{h:M1}(X:W.Frag.In ((a,o)::K) h)(n:K.lookup a=none):K.In h/\h.get? a=some o:=by
 refine⟨λ b u e=>X b u ?_,X a o ?_⟩
 ·rw[gG];have:(b==a)=false:=beq_false_of_ne λ z=>by rw[z,n]at e;cases e
  rw[this];exact e
 ·rw[gG,beq_self_eq_true]
theorem MR{P:Program}{w:V1}{mg:U1->Option Y1}{fa:V0}{k:Nat}{x:U1}{st:RH}{sp:Sp}(F:Fn K mg "law" st)(hfa:mg "law"=some (.ref fa))(hb:∀(kV doc pm:Y1)(an:Option V0)(cdv ct u:Y1),Tv (SK "law" "law" (gO st) (fh st) (bg st) .none kV doc pm an cdv ct) ⟨[u],[]⟩=pure [(x,u)])(ok:∀(f:V0)(fd:RN)(base:M1),K.In base->iW mg base->fD K "law" "law" st f fd->bc P w K mg base eE k f fd [x] sp):∃fd:RN,(∀(s:Z1)(u:Y1),BindsTo s fd ⟨[u],[]⟩ [(x,u)])/\∀base:M1,K.In base->base.Ns RE mg->iW mg base->bc P w K mg base eE k fa fd [x] sp:=by
 obtain⟨f,fd,F,m⟩:=F.ex;cases hfa.symm.trans m;have F':=F;obtain⟨oc,od,kV,doc,pm,an,cdv,ct,osl,rfl,lk,hcd⟩:=F.ex;exact⟨_,λ s u=>.of_eq (hb kV doc pm an cdv ct u),λ base hK ω hB=>ok _ _ base hK hB F'⟩
end L2
end
section
open PySem L2 TM WK
section
namespace K16
open P15 (Lb Fm Tm bO ig gq Ok aO aG fe iD)
open PW (Wd Hs Pg mJ Look qo tL jJ DC)
seal L2.PE L2.PA L2.PT L2.PS L2.fy L2.PG L2.lg L2.PI L2.PW
theorem Oz:bL ["form","label","parts"] ["form","label","parts"] (bg vi):=by walk_at "c"
theorem Oy:bL ["pairs"] ["pairs"] (bg vh):=by walk_at "c"
theorem qr:bL ["text","row","guest","all_houses","main","program"] ["text"] (bg xI):=by walk_at "c"
theorem w6:bL ["row","still_open","word"] ["row"] (bg wc):=by walk_at "c"
theorem OA:bL ["found","most"] ["found","most"] (bg vl):=by walk_at "c"
theorem OK:bL ["program"] ["program"] (bg wB):=by walk_at "c"
theorem tY:bL ["guest","name","elder","own_fields","own_words"] ["guest"] (bg vE):=by walk_at "c"
theorem DM:bL ["guest","name","params","kind"] ["guest","name"] (bg vV):=by walk_at "c"
theorem Jn:bL ["guest","name"] ["guest"] (bg vZ):=by walk_at "c"
theorem Ow:bL ["guest"] ["guest"] (bg vY):=by walk_at "c"
theorem Jm:bL ["guest","read_item","found"] ["guest","read_item"] (bg vU):=by walk_at "c"
theorem DT:bL ["guest","deep","found"] ["guest","deep"] (bg la):=by walk_at "c"
theorem qq:bL ["guest","least","lowest","deep","term","sign","right"] ["guest","least","lowest","deep"] (bg v5):=by walk_at "c"
theorem HE:bL ["guest","lowest","deep"] ["guest","lowest","deep"] (bg vW):=by walk_at "c"
theorem Ai:bL ["guest","deep","asked","wanted","other"] ["guest","deep"] (bg vu):=by walk_at "c"
theorem DW:bL ["guest","lowest","deep","name","first"] ["guest","lowest","deep"] (bg vn):=by walk_at "c"
theorem DV:bL ["guest","deep","field","value"] ["guest","deep"] (bg vj):=by walk_at "c"
theorem wZ:bL ["guest","deep","term","name"] ["guest","deep"] (bg wG):=by walk_at "c"
theorem wW:bL ["guest","deep","word","name","term"] ["guest","deep"] (bg vf):=by walk_at "c"
theorem OR:bL ["_law_script","_law_k"] ["_law_script","_law_k"] (bg wJ):=by walk_at "c"
theorem OE:bL ["_law_cell","_law_k"] ["_law_cell","_law_k"] (bg vG):=by walk_at "c"
theorem jS:bL ["_law_k","_law_shift","_law_letters","_law_told_here","_law_rest","_law_size","_law_at","_law_first","_law_name_here","_law_word"] ["_law_k","_law_shift"] (bg vR):=by walk_at "c"
theorem Ox:bL ["_law_cell","_law_shift"] ["_law_cell","_law_shift"] (bg v8):=by walk_at "c"
theorem Aj:bL ["_law_stack","_law_many","_law_some"] ["_law_stack","_law_many"] (bg vK):=by walk_at "c"
theorem nQ:bL ["_law_stack","_law_cell","_law_shift","_law_name_here","_law_terms","_law_deep","_law_many"] ["_law_stack","_law_cell","_law_shift"] (bg v_):=by walk_at "c"
theorem pA:bL ["_law_stack","_law_cell","_law_shift","_law_name_here","_law_terms","_law_deep"] ["_law_stack","_law_cell","_law_shift"] (bg vN):=by walk_at "c"
theorem tW:bL ["_law_cells","_law_shift","_law_stack","_law_k","_law_cell"] ["_law_cells","_law_shift"] (bg vP):=by walk_at "c"
theorem DX:bL ["_law_cell","_law_shift","_law_kinds","_law_names"] ["_law_cell","_law_shift","_law_kinds"] (bg wF):=by walk_at "c"
theorem kJ:bL ["_law_script","_law_k","_law_shift","_law_most","_law_cell","_law_kinds","_law_elder","_law_names","_law_fields","_law_told_here","_law_j","_law_more","_law_params_here","_law_term_here"] ["_law_script","_law_k","_law_shift","_law_most"] (bg vF):=by walk_at "c"
theorem pz:bL ["_law_script","_law_shift","_law_many","_law_houses","_law_cell","_law_kind","_law_params_here"] ["_law_script"] (bg wI):=by walk_at "c"
theorem OJ:bL ["_law_term_here"] ["_law_term_here"] (bg vC):=by walk_at "c"
theorem Ji:bL ["_law_term_here","_law_least","_law_power_here"] ["_law_term_here","_law_least"] (bg vS):=by walk_at "c"
theorem Ov:bL ["_law_terms"] ["_law_terms"] (bg vg):=by walk_at "c"
theorem tX:bL ["_law_term_here","_law_power_here","_law_kind","_law_left","_law_thing","_law_one"] ["_law_term_here","_law_power_here"] (bg vD):=by walk_at "c"
theorem OV:bL ["_law_params_here"] ["_law_params_here"] (bg wy):=by walk_at "c"
theorem iT:bL ["_law_program_here","_law_rows","_law_name_here","_law_elder","_law_fields","_law_told_here","_law_word","_law_params_here","_law_kind","_law_term_here"] ["_law_program_here"] (bg v9):=by walk_at "c"
theorem pB:bL ["_law_term_here","_law_rows","_law_part","_law_some"] ["_law_term_here"] (bg wK):=by walk_at "c"
theorem Ak:bL ["_law_program_here","_law_text","_law_rows","_law_house_here"] ["_law_program_here","_law_text"] (bg we):=by walk_at "c"
theorem DR:bL ["_law_text","e"] ["_law_text"] (bg vX):=by walk_at "c"
theorem wR:bL ["_law_script","_law_plain","_law_text","_law_found"] ["_law_script"] (bg qt):=by walk_at "c"
theorem OQ:bL ["self","all_words"] ["self","all_words"] (bg wj):=by walk_at "c"
theorem OL:bL ["self"] ["self"] (bg wD):=by walk_at "c"
theorem OS:bL ["self"] ["self"] (bg wH):=by walk_at "c"
theorem fT:bL ["self","word"] ["self"] (bg vJ):=by walk_at "c"
theorem OM:bL ["self","word"] ["self","word"] (bg wC):=by walk_at "c"
theorem OC:bL ["self","word"] ["self","word"] (bg vB):=by walk_at "c"
theorem OU:bL ["self"] ["self"] (bg wq):=by walk_at "c"
theorem OO:bL ["self"] ["self"] (bg wk):=by walk_at "c"
theorem ON:bL ["self","form","label","parts"] ["self","form","label","parts"] (bg wh):=by walk_at "c"
theorem OH:bL ["self"] ["self"] (bg vL):=by walk_at "c"
theorem OF:bL ["self"] ["self"] (bg vM):=by walk_at "c"
theorem OG:bL ["self"] ["self"] (bg vI):=by walk_at "c"
theorem OB:bL ["self"] ["self"] (bg vO):=by walk_at "c"
theorem OT:bL ["self","name","params","kind","body"] ["self","name","params","kind","body"] (bg wL):=by walk_at "c"
theorem OI:bL ["self"] ["self"] (bg vH):=by walk_at "c"
theorem OP:bL ["self","name","elder","own_fields","own_words"] ["self","name","elder","own_fields","own_words"] (bg wo):=by walk_at "c"
theorem fF:bL ["self","told"] ["self"] (bg wz):=by walk_at "c"
theorem OW:bL ["self","all_houses","main"] ["self","all_houses","main"] (bg wu):=by walk_at "c"
theorem eR:bL ["self","told"] ["self"] (bg wb):=by walk_at "c"
theorem c7:bL ["self","told","house"] ["self"] (bg wm):=by walk_at "c"
noncomputable def tM:List (bZ×V):=[(.inr ";",.int 1),(.inr "<",.int 2),(.inr "=",.int 2),(.inr "+",.int 3),(.inr "-",.int 3),(.inr "*",.int 4),(.inr "/",.int 4)]
noncomputable def tF:List (bZ×V):=[(.inr "yes",.bl true),(.inr "no",.bl false)]
structure Txt(P:Program)(w:V1)(K:X0)(mg:U1->Option Y1)(aa:V0)(Ct:V0)(Cw:V0)(Ch:V0)(Cp:V0)(ae:V0)(ah:V0)(ak:V0)(ag:V0):Prop where
 z_all:mg "all"=none
 z_any:mg "any"=none
 IY:mg "enumerate"=none
 z_int:mg "int"=none
 DQ:mg "isinstance"=none
 z_len:mg "len"=none
 DK:mg "list"=none
 z_max:mg "max"=none
 z_min:mg "min"=none
 mG:mg "range"=none
 wQ:mg "repr"=none
 z_str:mg "str"=none
 z_sum:mg "sum"=none
 iB:mg "tuple"=none
 c_ABOVE_WEAKEST:eY mg "ABOVE_WEAKEST" (.int 2)
 c_FIGURES:eY mg "FIGURES" (.str "0123456789")
 c_GAPS:eY mg "GAPS" (.str " \t\n")
 c_GREAT_LETTERS:eY mg "GREAT_LETTERS" (.str "ABCDEFGHIJKLMNOPQRSTUVWXYZ")
 c_LONGEST_NAME:eY mg "LONGEST_NAME" (.int 8)
 c_LONGEST_NUMBER:eY mg "LONGEST_NUMBER" (.int 9)
 c_LONGEST_TEXT:eY mg "LONGEST_TEXT" (.int 6000)
 c_MOST_DEEP:eY mg "MOST_DEEP" (.int 14)
 c_MOST_FIELDS:eY mg "MOST_FIELDS" (.int 4)
 c_MOST_HOUSES:eY mg "MOST_HOUSES" (.int 12)
 c_MOST_OPEN:eY mg "MOST_OPEN" (.int 14)
 c_MOST_PARAMS:eY mg "MOST_PARAMS" (.int 4)
 c_MOST_SIZE:eY mg "MOST_SIZE" (.int 400)
 c_MOST_TERMS:eY mg "MOST_TERMS" (.int 8)
 c_MOST_WORDS:eY mg "MOST_WORDS" (.int 8)
 c_SIGNS:eY mg "SIGNS" (.str "(){},.;=+-*/<")
 c_SMALL_LETTERS:eY mg "SMALL_LETTERS" (.str "abcdefghijklmnopqrstuvwxyz")
 c_WEAKEST:eY mg "WEAKEST" (.int 1)
 c_STRENGTHS:eY mg "STRENGTHS" (.ref ah)
 d_STRENGTHS:qx P w K ah tM
 c_TRUTHS:eY mg "TRUTHS" (.ref ak)
 d_TRUTHS:qx P w K ak tF
 c_TOLD_WORDS:eY mg "TOLD_WORDS" (.ref ag)
 t_TOLD_WORDS:tP K ag [.str "house",.str "of",.str "has",.str "can",.str "main",.str "let",.str "in",.str "if",.str "then",.str "else",.str "new",.str "self",.str "elder",.str "set",.str "not",.str "yes",.str "no",.str "number",.str "truth"]
 Jh:Fn K mg "is_told" xb
 Jg:Fn K mg "is_name" xa
 Jd:Fn K mg "words" wU
 Jf:Fn K mg "word_at" w_
 Je:Fn K mg "row_at" w9
 Jb:Fn K mg "is_row_sign" wY
 DP:Fn K mg "is_number" wV
 DS:Fn K mg "is_name_row" wX
 QE:Fn K mg "shape_of" vi
 QD:Fn K mg "pairs_of" vh
 f_read:Fn K mg "read" xI
 Q4:Fn K mg "need_few_open" wc
 QY:Fn K mg "need_few" vl
 QR:Fn K mg "need_bounds" wB
 QP:Fn K mg "read_house" vE
 QJ:Fn K mg "read_word" vV
 DU:Fn K mg "read_pair" vZ
 QI:Fn K mg "read_kind" vY
 QH:Fn K mg "read_list" vU
 QS:Fn K mg "read_terms" la
 Jl:Fn K mg "read_term" v5
 Jk:Fn K mg "read_part" vW
 QT:Fn K mg "read_if" vu
 QX:Fn K mg "read_let" vn
 QW:Fn K mg "read_set" vj
 Q1:Fn K mg "read_pointed" wG
 QV:Fn K mg "read_one" vf
 QZ:Fn K mg "_law_cell_at" wJ
 QO:Fn K mg "_law_mixed" vG
 IX:Fn K mg "_law_name" vR
 QG:Fn K mg "_law_atom" v8
 I_:Fn K mg "_law_taken" vK
 QN:Fn K mg "_law_about" v_
 QQ:Fn K mg "_law_joined" vN
 QF:Fn K mg "_law_term" vP
 Ja:Fn K mg "_law_params" wF
 IZ:Fn K mg "_law_house" vF
 Jc:Fn K mg "_law_program" wI
 QM:Fn K mg "_law_power" vC
 Q3:Fn K mg "_law_bare" vS
 QU:Fn K mg "_law_row" vg
 QL:Fn K mg "_law_inner" vD
 Q5:Fn K mg "_law_params_text" wy
 QK:Fn K mg "_law_shown" v9
 DL:Fn K mg "_law_measured" wK
 Q2:Fn K mg "_law_is_great" we
 IW:Fn K mg "_law_told" vX
 f_law:Fn K mg "law" qt
 Guest:oQ K mg "Guest" aa
 n_Guest_gone:aY K aa "gone"
 n_Guest_row:aY K aa "row"
 Term:oQ K mg "Term" Ct
 n_Term_deep:aY K Ct "deep"
 n_Term_form:aY K Ct "form"
 n_Term_inner:aY K Ct "inner"
 n_Term_label:aY K Ct "label"
 n_Term_many:aY K Ct "many"
 n_Term_shape:aY K Ct "shape"
 Word:oQ K mg "Word" Cw
 n_Word_body:aY K Cw "body"
 n_Word_kind:aY K Cw "kind"
 n_Word_name:aY K Cw "name"
 n_Word_params:aY K Cw "params"
 House:oQ K mg "House" Ch
 n_House_elder:aY K Ch "elder"
 n_House_name:aY K Ch "name"
 n_House_own_fields:aY K Ch "own_fields"
 n_House_own_words:aY K Ch "own_words"
 Program:oQ K mg "Program" Cp
 n_Program_all_houses:aY K Cp "all_houses"
 n_Program_main:aY K Cp "main"
 x_BadForm:Af K mg "BadForm" ae
 m_Guest___init__:fP K aa "__init__" "Guest.__init__" wj
 m_Guest_ahead:fP K aa "ahead" "Guest.ahead" wD
 m_Guest_behind:fP K aa "behind" "Guest.behind" wH
 m_Guest_take:fP K aa "take" "Guest.take" vJ
 m_Guest_takes:fP K aa "takes" "Guest.takes" wC
 m_Guest_need:fP K aa "need" "Guest.need" vB
 m_Guest_need_name:fP K aa "need_name" "Guest.need_name" wq
 m_Guest_need_end:fP K aa "need_end" "Guest.need_end" wk
 m_Term___init__:fP K Ct "__init__" "Term.__init__" wh
 m_Term_plain:fP K Ct "plain" "Term.plain" vL
 m_Term_parts:fP K Ct "parts" "Term.parts" vM
 m_Term_depth:fP K Ct "depth" "Term.depth" vI
 m_Term_size:fP K Ct "size" "Term.size" vO
 m_Word___init__:fP K Cw "__init__" "Word.__init__" wL
 m_Word_plain:fP K Cw "plain" "Word.plain" vH
 m_House___init__:fP K Ch "__init__" "House.__init__" wo
 m_House_plain:fP K Ch "plain" "House.plain" wz
 m_Program___init__:fP K Cp "__init__" "Program.__init__" wu
 m_Program_plain:fP K Cp "plain" "Program.plain" wb
 m_Program_bodies:fP K Cp "bodies" "Program.bodies" wm
def uE:Fm->Bool| .self| .nt| .iff=>true|_=>false
def sd:Fm->Bool| .new| .elder=>true|_=>false
def si:Fm->Bool| .field| .set=>true|_=>false
theorem Hh(f:Fm):iM (V.str f.s) [V.str (Rx "self"),V.str (Rx "not"),V.str (Rx "if")]=uE f:=by cases f<;>decide+kernel
theorem uG(f:Fm):iM (V.str f.s) [V.str (Rx "new"),V.str (Rx "elder")]=sd f:=by cases f<;>decide+kernel
theorem sj(f:Fm):iM (V.str f.s) [V.str (Rx "field"),V.str (Rx "set")]=si f:=by cases f<;>decide+kernel
theorem Bk(f:Fm):f.s=Rx "call"->f=.call:=by cases f<;>first|exact λ ω=>rfl|exact λ h=>UM h qP
variable{ds:List PyData}
theorem A9{f:Fm}{l:Lb}(h:uE f=true):ig f l ds=.str f.s::ds:=by cases f<;>first|rfl|cases h
theorem xY{f:Fm}{l:Lb}(h:sd f=true):ig f l ds=[.str f.s,l.d,.tuple ds]:=by cases f<;>first|rfl|cases h
theorem A8{f:Fm}{l:Lb}{d:PyData}(h:si f=true):ig f l (d::ds)=.str f.s::d::l.d::ds:=by cases f<;>first|rfl|cases h
theorem A7{f:Fm}{l:Lb}(a:¬uE f=true)(h2:¬sd f=true)(c:¬f=.call)(e:¬si f=true):ig f l ds=.str f.s::l.d::ds:=by cases f<;>first|rfl|exact UM rfl a|exact UM rfl h2|exact UM rfl c|exact UM rfl e
theorem yQ{f:Fm}{l:Lb}(h:gq f l ds.length)(c:f=.call\/si f=true):∃d r,ds=d::r:=by
 cases ds with
 |cons d r=>exact⟨d,r,rfl⟩
 |nil=>
  cases f<;>cases l<;>first|(rcases c with c|c<;>cases c;done)|exact UM h qQ|cases h
theorem lW(x:V)(xs:List V):cY (x::xs) (some 1) none=xs:=by
 rw[show(some (1:Int))=some ((1:Nat):Int)from rfl];unfold cY;simp[HT.bV]
inductive Bs(K:X0)(vs:List V)(H:Hp)(Q:VK):Prop
 |mk(f:Fm)(l:Lb)(p:V0)(us:List V)(ds:List PyData)(a1:vs=[.str f.s,eV l,.ref p])(a2:ay K H p us)(a3:bM K H us ds)(a4:gq f l ds.length)(a5:ds.length<=20000)(a6:∀r ws H',ao H H'->ay K H' r ws->bM K H' ws (ig f l ds)->Q (.ref r) H'):Bs K vs H Q
def GU(K:X0):Sp:=λ vs H Q ω=>Bs K vs H Q
theorem Mz(T:∅):bJ P w K mg base 1 "shape_of" ["form","label","parts"] (GU K):=by
 walk_at "h QE Oz 3"
 obtain⟨f,l,p,us,ds,rfl,e,j,n,hl,q⟩:=h;refine⟨_,(aE (bP (mi (r:=lF K false) nG (ai 0) (cH (qK aK aK aK)) (by with_unfolding_all rfl)) (aN (bp (aC (r:=oR K) qf (cH (qI (ai 0))) (ai 2)))) bW) (aE (bP (mi (r:=lF K false) nG (ai 0) (cH (qJ aK aK)) (by with_unfolding_all rfl)) (aN (bp (cH (qK (ai 0) (ai 1) (ai 2))))) bW) (aE (bP (qM dy (ai 0) aK) (aN (bp (cH (dq (ai 0) (qK (qA K 2) (ai 1) (kz (r:=j7 K) uX (ai 2) (ib aw) qe)))))) bW) (aE (bP (mi (r:=lF K false) nG (ai 0) (cH (qJ aK aK)) (by with_unfolding_all rfl)) (aN (bp (aC (r:=oR K) qf (cH (qK (ai 0) (qA K 2) (ai 1))) (kz (r:=j7 K) uX (ai 2) (ib aw) qe)))) bW) (aN (bp (aC (r:=oR K) qf (cH (qJ (ai 0) (ai 1))) (ai 2)))))))),?_⟩;walk_at "r";have C:us.length<=20000:=by rw[j.length];exact hl
 refine aS.of λ p1 H1 h1 U e1=>?_;refine⟨_,.inr (ay.of e1),rfl,rfl,?_⟩;rw[Hh];refine ax (λ c=>?_) (λ cA=>?_)
 ·skip
  refine aS.of λ p2 H2 h2 D G=>?_;have S:=U.trans D;refine⟨_,_,_,_,rfl,rfl,ay.of G,e.same S,by rw[RB];show 1+us.length<=_;lia,λ r o a hr=>q r _ o (S.trans a) hr ?_⟩;rw[A9 c];exact .cons (.str _) (j.same (S.trans a))
 refine aS.of λ p2 H2 h2 D G=>?_;refine⟨_,.inr (ay.of G),rfl,rfl,?_⟩;rw[uG];have u:=U.trans D;refine ax (λ c=>?_) (λ cN=>?_)
 ·skip
  refine aS.of λ X I B x J=>?_;have S:=u.trans x;refine q _ _ I S (ay.of J) ?_;rw[xY c];exact .cons (.str _) (.cons (xq l) (.cons (.tup (e.same S) (j.same S)) .nil))
 refine ax (λ c=>?_) (λ cC=>?_)
 ·obtain⟨d,r,rfl⟩:=yQ n (.inl (Bk f c));obtain⟨v,Y,rfl,L,g⟩:=j.inv;refine⟨_,e.same u,v,fM,?_⟩;refine⟨p,_,rfl,e.same u,λ X I x B=>?_⟩;rw[lW]at B;refine aS.of λ Z M h4 m y=>?_;have S:=u.trans (x.trans m);refine q _ _ M S (ay.of y) ?_;cases Bk f c;exact .cons (.str _) (.cons (L.same S) (.cons (xq l) (.cons (.tup (B.same m) (g.same S)) .nil)))
 have N:¬f=.call:=λ z=>cC (by rw[z];rfl);refine aS.of λ X I B x J=>?_;refine⟨_,.inr (ay.of J),rfl,rfl,?_⟩;rw[sj];have O:=u.trans x;refine ax (λ c=>?_) (λ cF=>?_)
 ·obtain⟨d,r,rfl⟩:=yQ n (.inr c);obtain⟨v,Y,rfl,L,g⟩:=j.inv;refine⟨_,e.same O,v,fM,?_⟩;refine aS.of λ Z M h4 m y=>?_;have i:=O.trans m;refine⟨p,_,rfl,e.same i,λ p5 H5 R h5=>?_⟩;rw[lW]at h5;refine⟨_,_,_,_,rfl,rfl,ay.of (R _ _ y),h5,by rw[RB];show 3+Y.length<=_;simp at C;lia,λ r' o a hr=>q r' _ o (i.trans (R.trans a)) hr ?_⟩;rw[A8 c];have S:=i.trans (R.trans a);exact .cons (.str _) (.cons (L.same S) (.cons (xq l) (g.same S)))
 refine aS.of λ Z M h4 m y=>?_;have i:=O.trans m;refine⟨_,_,_,_,rfl,rfl,ay.of y,e.same i,by rw[RB];show 2+us.length<=_;lia,λ r o a hr=>q r _ o (i.trans a) hr ?_⟩;rw[A7 cA cN N cF];exact .cons (.str _) (.cons (xq l) (j.same (i.trans a)))
inductive Cv(C:V0)(K:X0)(vs:List V)(H:Hp)(Q:VK):Prop
 |mk(v:V)(t:Tm)(a1:vs=[v])(a2:TO K C H v t)(a3:∀u,RT K H u t.dat->Q u H):Cv C K vs H Q
def vx(C:V0)(K:X0):Sp:=λ vs H Q ω=>Cv C K vs H Q
inductive BW(C:V0)(K:X0)(vs:List V)(H:Hp)(Q:VK):Prop
 |mk(v:V)(t:Tm)(a1:vs=[v])(a2:TO K C H v t)(a3:∀l us,H l=none->cU K C H us t.ps->Q (.ref l) (ar H l (.lst us))):BW C K vs H Q
def CK(C:V0)(K:X0):Sp:=λ vs H Q ω=>BW C K vs H Q
inductive Cb(C:V0)(K:X0)(vs:List V)(H:Hp)(Q:VK):Prop
 |mk(v:V)(t:Tm)(a1:vs=[v])(a2:TO K C H v t)(a3:Q (.int (t.depth:Nat)) H):Cb C K vs H Q
def zZ(C:V0)(K:X0):Sp:=λ vs H Q ω=>Cb C K vs H Q
inductive GX(C:V0)(K:X0)(vs:List V)(H:Hp)(Q:VK):Prop
 |mk(v:V)(t:Tm)(a1:vs=[v])(a2:TO K C H v t)(a3:Q (.int (t.size:Nat)) H):GX C K vs H Q
def zu(C:V0)(K:X0):Sp:=λ vs H Q ω=>GX C K vs H Q
theorem BR(T:∅):aX P w K mg base 1 Ct "plain" ["self"] (vx Ct K):=by
 walk_at "m m_Term_plain OH 1"
 obtain⟨v,t,rfl,h,q⟩:=h;refine⟨_,(aN (bp (qO 0))),?_⟩;walk_at "r";obtain⟨a,c,e,g,us,o,rfl,i,u,j,m,n⟩:=h.inv;refine⟨a,rfl,Ct,c,_,i,T.Term.cl,T.n_Term_shape,.ref g,rfl,q _ ?_⟩;cases t;exact .tup m n
theorem Oi(T:∅):aX P w K mg base 1 Ct "parts" ["self"] (CK Ct K):=by
 walk_at "m m_Term_parts OF 1"
 obtain⟨v,t,rfl,h,q⟩:=h;refine⟨_,(aN (bp (fg Ds rfl T.DK FG (qI (qO 0))))),?_⟩;walk_at "r";obtain⟨a,g,c,m,us,n,rfl,i,j,e,o,u⟩:=h.inv;exact⟨a,rfl,Ct,g,_,i,T.Term.cl,T.n_Term_inner,.ref c,rfl,c,rfl,us,.inr j,λ l hl=>q l us hl e⟩
theorem BP(T:∅):aX P w K mg base 1 Ct "depth" ["self"] (zZ Ct K):=by
 walk_at "m m_Term_depth OG 1"
 obtain⟨v,t,rfl,h,q⟩:=h;refine⟨_,(aN (bp (qO 0))),?_⟩;walk_at "r";obtain⟨a,c,e,j,us,m,rfl,g,n,i,o,u⟩:=h.inv;exact⟨a,rfl,Ct,c,_,g,T.Term.cl,T.n_Term_deep,.int (t.depth:Nat),rfl,q⟩
theorem Gn(T:∅):aX P w K mg base 1 Ct "size" ["self"] (zu Ct K):=by
 walk_at "m m_Term_size OB 1"
 obtain⟨v,t,rfl,h,q⟩:=h;refine⟨_,(aN (bp (qO 0))),?_⟩;walk_at "r";obtain⟨a,c,e,j,us,m,rfl,g,n,i,o,u⟩:=h.inv;exact⟨a,rfl,Ct,c,_,g,T.Term.cl,T.n_Term_many,.int (t.size:Nat),rfl,q⟩
inductive BK(C:V0)(K:X0)(vs:List V)(H:Hp)(Q:VK):Prop
 |mk(x dx p:V0)(f:Fm)(l:Lb)(us:List V)(ps:List Tm)(a1:vs=[.ref x,.str f.s,eV l,.ref p])(a2:H x=some (.ins C dx []))(a3:az K H p us)(a4:cU K C H us ps)(a5:gq f l ps.length)(a6:ps.length<=20000)(a7:∀H',SX x H H'->TO K C H' (.ref x) (.mk f l ps)->Q .non H'):BK C K vs H Q
def kD(C:V0)(K:X0):Sp:=λ vs H Q ω=>BK C K vs H Q
theorem JJ{ts:List Tm}{m:Int}(e:ts.map (λ t=>((t.depth:Nat):Int))=[]->m=0)(g:ts.map (λ t=>((t.depth:Nat):Int))≠[]->oP (ts.map λ t=>((t.depth:Nat):Int)) m):m=((aO ts:Nat):Int):=by
 cases ts with
 |nil=>exact e rfl
 |cons t ts=>
  obtain⟨i,c⟩:=g (by simp);obtain⟨u,j,rfl⟩:=eO.mp i;have a:=qg j;have b:aO (t::ts)<=u.depth:=tu λ v n=>by
   have:=c _ (eO.mpr ⟨v,n,rfl⟩);lia
  lia
theorem uN:∀ts:List Tm,(ts.map λ t=>((t.size:Nat):Int)).sum=((aG ts:Nat):Int)
 |[]=>rfl
 |t::ts=>by
  rw[dJ,lJ,uN ts];show _=((t.size+aG ts:Nat):Int);lia
theorem oX{α:Type}{g:α->V}{ts:List α}{vs:List V}(hl:vs.length=ts.length)(h:∀(j:Nat) v,vs[j]?=some v->∃t,ts[j]?=some t/\v=g t):vs=ts.map g:=by
 refine List.ext_getElem? λ j=>?_;rw[eK];by_cases c:j<vs.length
 ·obtain⟨t,a,b⟩:=h j _ (dc c);rw[dc c,a,b];rfl
 ·rw[rO qR,rO qR];rfl
variable{H' H:Hp}
theorem mX(s:km H H'):Kp H H':=⟨λ b c h=>s b _ (λ a z=>by cases z) h,λ b o c h=>s b _ (λ a z=>by cases z) h,λ b C e f fs h=>s b _ (λ a z=>by cases z) h⟩
theorem E1{K:X0}:∀{ts:List Tm}{vs:List V},vs.length=ts.length->(∀(j:Nat) v,vs[j]?=some v->∃t,ts[j]?=some t/\RT K H v t.dat)->bM K H vs (bO ts):=λ{ts vs} hl h=>by
 have z:A2 (λ v (t:Tm)=>RT K H v t.dat) vs ts:=A2.of hl h;clear hl h;induction z with
 |nil=>exact .nil
 |cons a _ ih=>exact .cons a ih
theorem LN(T:∅)(J:bJ P w K mg base 1 "shape_of" ["form","label","parts"] (GU K))(B:aX P w K mg base 1 Ct "plain" ["self"] (vx Ct K))(G:aX P w K mg base 1 Ct "depth" ["self"] (zZ Ct K))(I:aX P w K mg base 1 Ct "size" ["self"] (zu Ct K)):aX P w K mg base 2 Ct "__init__" ["self","form","label","parts"] (kD Ct K):=by
 walk_at "m m_Term___init__ ON 4"
 obtain⟨x,n,p,f,l,us,ps,rfl,hx,hp,hu,d0,hl,q⟩:=h;refine⟨_,(aE (gW (ai 0) (ai 1) rfl) (aE (gW (ai 0) (ai 2) rfl) (aE (gW (ai 0) (fg ji rfl T.iB iy (qI (ai 3))) rfl) (aE (gW (ai 0) (aC cK aw (Li rfl rfl T.z_max xD (qI (eX rfl (aD.plain (N:=["part"]) rfl qP qP qP) (jg (qO 0)) (λ C fp s H=>(qH 0 (show(["part"]:List U1).Nodup by decide+kernel))) (λ C fp s H=>(f6 (ai 0) T.Term.cl G hr qQ)))) (K1 aw JS))) rfl) (aE (gW (ai 0) (aC cK aw (eH (u5 rfl) rfl T.z_sum uM (qI (eX rfl (aD.plain (N:=["part"]) rfl qP qP qP) (jg (qO 0)) (λ C fp s H=>(qH 0 (show(["part"]:List U1).Nodup by decide+kernel))) (λ C fp s H=>(f6 (ai 0) T.Term.cl I hr qQ)))))) rfl) (aN (gW (ai 0) (qF J hr (qK (ai 1) (ai 2) (fg ji rfl T.iB iy (qI (eX rfl (aD.plain (N:=["part"]) rfl qP qP qP) (jg (qO 0)) (λ C fp s H=>(qH 0 (show(["part"]:List U1).Nodup by decide+kernel))) (λ C fp s H=>(f6 (ai 0) T.Term.cl B hr qQ))))))) rfl))))))),?_⟩;walk_at "s 6 z";refine⟨Ct,n,_,hx,T.Term.cl,T.n_Term_form,gj rfl,?_⟩;walk_at "n z1";refine⟨Ct,n,_,bu,T.Term.cl,T.n_Term_label,gj rfl,?_⟩;walk_at "n z2";have S1:SX x H (ar (ar H x (.ins Ct n (aq "form" (.str f.s) []))) x (.ins Ct n (aq "label" (eV l) (aq "form" (.str f.s) [])))):=(SX.put _).trans (SX.put _);have X1:ar (ar H x (.ins Ct n (aq "form" (.str f.s) []))) x (.ins Ct n (aq "label" (eV l) (aq "form" (.str f.s) []))) x=some (.ins Ct n (aq "label" (eV l) (aq "form" (.str f.s) []))):=bu;generalize ar (ar H x (.ins Ct n (aq "form" (.str f.s) []))) x (.ins Ct n (aq "label" (eV l) (aq "form" (.str f.s) [])))=L at*;refine⟨us,.inl ⟨S1.sqL hx hp,λ c M=>?_⟩⟩;have nx:c≠x:=λ z=>bY X1 M z.symm;have s2:=dR M (.tup us);refine⟨Ct,n,_,s2 _ _ X1,T.Term.cl,T.n_Term_inner,gj rfl,?_⟩;have S2:SX x H (ar (ar L c (.tup us)) x (.ins Ct n (aq "inner" (.ref c) (aq "label" (eV l) (aq "form" (.str f.s) []))))):=S1.trans ((SX.of s2).trans (SX.put _));have X2:ar (ar L c (.tup us)) x (.ins Ct n (aq "inner" (.ref c) (aq "label" (eV l) (aq "form" (.str f.s) [])))) x=some (.ins Ct n (aq "inner" (.ref c) (aq "label" (eV l) (aq "form" (.str f.s) [])))):=bu;have I2:ar (ar L c (.tup us)) x (.ins Ct n (aq "inner" (.ref c) (aq "label" (eV l) (aq "form" (.str f.s) [])))) c=some (.tup us):=by rw[aU nx];exact bu
 clear s2 M X1 S1;generalize ar (ar L c (.tup us)) x (.ins Ct n (aq "inner" (.ref c) (aq "label" (eV l) (aq "form" (.str f.s) []))))=H2 at*;have S:us.length=ps.length:=hu.length;have U2:cU K Ct H2 us ps:=hu.kp (S2.kp hx);walk_at "n z3";refine⟨Ct,n,_,X2,T.Term.cl,T.n_Term_inner,.ref c,rfl,c,rfl,⟨_,ay.of I2⟩,λ D U=>?_⟩;refine kZ (ys:=us) none [] (λ j v H=>∃t,ps[j]?=some t/\v=.int ((t.depth:Nat):Int)) (λ ω ω ω ω h ω=>h) rfl U (by rw[RB];lia) (λ L s=>ay.of (s _ _ I2)) (λ i y hy L K' s k=>?_) (λ vs Ha Sa X lv Y=>?_)
 ·walk_at "r";obtain⟨t,ht,o⟩:=U2.at hy;have o:=o.kp (Kp.of s);obtain⟨a,O,R,a0,b0,c0,rfl,ha,ω⟩:=o.inv;exact⟨a,rfl,O,_,ha,rfl,_,t,rfl,o,k _ _ (ao.refl _) ⟨t,ht,rfl⟩⟩
 cases oX (g:=λ t:Tm=>V.int ((t.depth:Nat):Int)) (lv.trans S) Y;refine⟨D,rfl,ps.map λ t=>((t.depth:Nat):Int),by rw[i6];exact az.of X,λ m m0 m1=>?_⟩;cases JJ m0 m1;refine⟨Ct,n,_,Sa _ _ X2,T.Term.cl,T.n_Term_deep,gj rfl,?_⟩;have S3:SX x H2 (ar Ha x (.ins Ct n (aq "deep" (.int (1+((aO ps:Nat):Int))) (aq "inner" (.ref c) (aq "label" (eV l) (aq "form" (.str f.s) [])))))):=(SX.of Sa).trans (SX.put _);have X3:ar Ha x (.ins Ct n (aq "deep" (.int (1+((aO ps:Nat):Int))) (aq "inner" (.ref c) (aq "label" (eV l) (aq "form" (.str f.s) []))))) x=some (.ins Ct n (aq "deep" (.int (1+((aO ps:Nat):Int))) (aq "inner" (.ref c) (aq "label" (eV l) (aq "form" (.str f.s) []))))):=bu;clear X Y U Sa;generalize ar Ha x (.ins Ct n (aq "deep" (.int (1+((aO ps:Nat):Int))) (aq "inner" (.ref c) (aq "label" (eV l) (aq "form" (.str f.s) [])))))=H3 at*;have I3:=S3 _ _ nx I2;have U3:cU K Ct H3 us ps:=hu.kp ((S2.trans S3).kp hx);walk_at "n z4";refine⟨Ct,n,_,X3,T.Term.cl,T.n_Term_inner,.ref c,rfl,c,rfl,⟨_,ay.of I3⟩,λ D U=>?_⟩;refine kZ (ys:=us) none [] (λ j v H=>∃t,ps[j]?=some t/\v=.int ((t.size:Nat):Int)) (λ ω ω ω ω h ω=>h) rfl U (by rw[RB];lia) (λ L s=>ay.of (s _ _ I3)) (λ i y hy L K' s k=>?_) (λ vs Hb Sb X lv Y=>?_)
 ·walk_at "r";obtain⟨t,ht,o⟩:=U3.at hy;have o:=o.kp (Kp.of s);obtain⟨a,O,R,a0,b0,c0,rfl,ha,ω⟩:=o.inv;exact⟨a,rfl,O,_,ha,rfl,_,t,rfl,o,k _ _ (ao.refl _) ⟨t,ht,rfl⟩⟩
 cases oX (g:=λ t:Tm=>V.int ((t.size:Nat):Int)) (lv.trans S) Y;refine⟨D,rfl,ps.map (λ t=>((t.size:Nat):Int)),by rw[i6];exact az.of X,?_⟩;rw[uN];refine⟨Ct,n,_,Sb _ _ X3,T.Term.cl,T.n_Term_many,gj rfl,?_⟩;have S4:SX x H3 (ar Hb x (.ins Ct n (aq "many" (.int (1+((aG ps:Nat):Int))) (aq "deep" (.int (1+((aO ps:Nat):Int))) (aq "inner" (.ref c) (aq "label" (eV l) (aq "form" (.str f.s) []))))))):=(SX.of Sb).trans (SX.put _);have X4:ar Hb x (.ins Ct n (aq "many" (.int (1+((aG ps:Nat):Int))) (aq "deep" (.int (1+((aO ps:Nat):Int))) (aq "inner" (.ref c) (aq "label" (eV l) (aq "form" (.str f.s) [])))))) x=some (.ins Ct n (aq "many" (.int (1+((aG ps:Nat):Int))) (aq "deep" (.int (1+((aO ps:Nat):Int))) (aq "inner" (.ref c) (aq "label" (eV l) (aq "form" (.str f.s) [])))))):=bu;clear X Y U Sb;generalize ar Hb x (.ins Ct n (aq "many" (.int (1+((aG ps:Nat):Int))) (aq "deep" (.int (1+((aO ps:Nat):Int))) (aq "inner" (.ref c) (aq "label" (eV l) (aq "form" (.str f.s) []))))))=H4 at*;have I4:=S4 _ _ nx I3;have Z:SX x H H4:=S2.trans (S3.trans S4);have U4:cU K Ct H4 us ps:=hu.kp (Z.kp hx);walk_at "n z5";refine⟨Ct,n,_,X4,T.Term.cl,T.n_Term_inner,.ref c,rfl,c,rfl,⟨_,ay.of I4⟩,λ D U=>?_⟩;refine kZ (ys:=us) none [] (λ j v H=>∃t,ps[j]?=some t/\RT K H v t.dat) (λ j v L H2 ⟨t,a,b⟩ s=>⟨t,a,b.kp (mX s)⟩) rfl U (by rw[RB];lia) (λ L s=>ay.of (s _ _ I4)) (λ i y hy L K' s k=>?_) (λ vs Hc Sc X lv Y=>?_)
 ·walk_at "r";obtain⟨t,ht,o⟩:=U4.at hy;have o:=o.kp (Kp.of s);obtain⟨a,O,R,a0,b0,c0,rfl,ha,ω⟩:=o.inv;exact⟨a,rfl,O,_,ha,rfl,_,t,rfl,o,λ u e0=>k _ _ (ao.refl _) ⟨t,ht,e0⟩⟩
 have hd:=E1 (lv.trans S) Y;refine⟨D,rfl,vs,.inl ⟨az.of X,λ t5 h5=>?_⟩⟩;have s5:=dR h5 (.tup vs);refine⟨f,l,t5,vs,bO ps,rfl,ay.of bu,hd.same s5,by rw[mh];exact d0,by rw[mh];exact hl,λ r ws H6 s6 hr hw=>?_⟩;refine⟨Ct,n,_,s6 _ _ (s5 _ _ (Sc _ _ X4)),T.Term.cl,T.n_Term_shape,gj rfl,?_⟩;have S6:SX x H4 H6:=SX.of (Sc.trans (s5.trans s6));have X6:=S6;have S7:SX x H6 (ar H6 x (.ins Ct n (aq "shape" (.ref r) (aq "many" (.int (1+((aG ps:Nat):Int))) (aq "deep" (.int (1+((aO ps:Nat):Int))) (aq "inner" (.ref c) (aq "label" (eV l) (aq "form" (.str f.s) [])))))))):=SX.put _;have x6:=s6 _ _ (s5 _ _ (Sc _ _ X4));have k6:Kp H (ar H6 x (.ins Ct n (aq "shape" (.ref r) (aq "many" (.int (1+((aG ps:Nat):Int))) (aq "deep" (.int (1+((aO ps:Nat):Int))) (aq "inner" (.ref c) (aq "label" (eV l) (aq "form" (.str f.s) [])))))))):=(Z.trans (S6.trans S7)).kp hx;refine q _ (Z.trans (S6.trans S7)) ?_;have e:((aq "shape" (.ref r) (aq "many" (.int (1+((aG ps:Nat):Int))) (aq "deep" (.int (1+((aO ps:Nat):Int))) (aq "inner" (.ref c) (aq "label" (eV l) (aq "form" (.str f.s) [])))))):List (U1×V))=sE f l c r (1+aO ps) (1+aG ps):=by
  unfold sE;rw[uk,uk];rfl
 have x7:ar H6 x (.ins Ct n (aq "shape" (.ref r) (aq "many" (.int (1+((aG ps:Nat):Int))) (aq "deep" (.int (1+((aO ps:Nat):Int))) (aq "inner" (.ref c) (aq "label" (eV l) (aq "form" (.str f.s) []))))))) x=some (.ins Ct n (sE f l c r (1+aO ps) (1+aG ps))):=by rw[bu,e]
 refine .mk x7 (ay.of (S7 _ _ nx (S6 _ _ nx I4))) (hu.kp k6) (S7.sqT x6 hr) ?_;exact hw.kt (Kt.put _ x6 (λ ω z=>by cases z) (λ ω ω z=>by cases z))
open RR (aZ aA bT a_ av)
structure GC where
 g:V0
 tb:V0
 lp:Pos
 qn:U1
def iz(cg:GC)(H:Hp):Prop:=pj cg.tb cg.lp cg.qn H
variable{C g:V0}
theorem iz.sx{i:GC}{j:V0}{fs:List (U1×V)}(h:iz i H)(e:H g=some (.ins C j fs))(s:SX g H H'):iz i H':=by
 rcases h with h|⟨a,b,c,h,k,t,q⟩
 ·exact .inl (s _ _ (λ z=>by rw[z,e]at h;cases h) h)
 ·exact .inr ⟨a,b,c,s _ _ (λ z=>by rw[z,e]at h;cases h) h,k,t,s _ _ (λ z=>by rw[z,e]at q;cases q) q⟩
theorem iz.same{e:GC}(h:iz e H)(s:ao H H'):iz e H':=by
 rcases h with h|⟨a,b,c,h,k,t,q⟩
 ·exact .inl (s _ _ h)
 ·exact .inr ⟨a,b,c,s _ _ h,k,t,s _ _ q⟩
structure b_(K:X0)(cg:GC)(H:Hp)(g:V0)(ws:List U1)(n:Nat):Prop where
 tb:iz cg H
 ex:∃dx ra,H g=some (.ins cg.g dx [("row",.ref ra),("gone",.int n)])/\ay K H ra (ws.map V.str)
 len:ws.length<=6000
 le:n<=ws.length
 wd:∀w∈ws,w.length<=6000
def BF(cb g:V0)(H:Hp)(E:XK):Prop:=∀a,SY g H a->E (.ref cb) none a
def To{α:Type}(r:aZ α)(p:α->Nat->Prop)(q:Prop):Prop:=match r with
 | .ok a n=>p a n
 | .bad=>q
 | .out=>False
variable{n:Nat}
theorem b_.same{K:X0}{i:GC}{ws:List U1}(h:b_ K i H g ws n)(s:ao H H'):b_ K i H' g ws n:=by
 obtain⟨t,⟨j,m,a,b⟩,c,d,e⟩:=h;exact⟨t.same s,⟨j,m,s _ _ a,ay.same b s⟩,c,d,e⟩
variable{E:XK}
theorem BF.same{cb:V0}(h:BF cb g H E)(s:SY g H H'):BF cb g H' E:=λ a c=>h a (s.trans c)
theorem BF.new{cb x:V0}{o:HO}(h:BF cb g H E)(n:H x=none):E (.ref cb) none (ar H x o):=h _ (.of λ b u e=>by
 rw[aU (bY e n)];exact e)
variable{m:Nat}
theorem b_.put{K:X0}{a:GC}{i c:V0}{ws:List U1}(h:H g=some (.ins a.g i [("row",.ref c),("gone",.int n)]))(r:ay K H c (ws.map V.str))(l:ws.length<=6000)(wd:∀w∈ws,w.length<=6000)(j:m<=ws.length)(u:iz a H):b_ K a (ar H g (.ins a.g i [("row",.ref c),("gone",.int m)])) g ws m:=
 ⟨u.sx h (SX.put _),⟨i,c,bu,ay.kt r ⟨λ b v e=>by rw[aU (λ z=>by rw[z,h]at e;cases e)];exact e,λ b o v e=>by rw[aU (λ z=>by rw[z,h]at e;cases e)];exact e⟩⟩,l,j,wd⟩
inductive Bt(cg:GC)(K:X0)(vs:List V)(H:Hp)(Q:VK):Prop
 |mk(x dx p:V0)(ws:List U1)(a1:vs=[.ref x,.ref p])(a2:H x=some (.ins cg.g dx []))(a3:az K H p (ws.map V.str))(a4:ws.length<=6000)(a5:(∀w∈ws,w.length<=6000))(a6:iz cg H)(a7:∀H',SX x H H'->b_ K cg H' x ws 0->Q .non H'):Bt cg K vs H Q
def Gk(cg:GC)(K:X0):Sp:=λ vs H Q ω=>Bt cg K vs H Q
inductive BO(cg:GC)(K:X0)(vs:List V)(H:Hp)(Q:VK):Prop
 |mk(g:V0)(ws:List U1)(n:Nat)(a1:vs=[.ref g])(a2:b_ K cg H g ws n)(a3:Q (.str (aA ws n)) H):BO cg K vs H Q
def nH(cg:GC)(K:X0):Sp:=λ vs H Q ω=>BO cg K vs H Q
inductive C5(cg:GC)(K:X0)(vs:List V)(H:Hp)(Q:VK):Prop
 |mk(g:V0)(ws:List U1)(n:Nat)(a1:vs=[.ref g])(a2:b_ K cg H g ws n)(a3:1<=n)(a4:Q (.str (ws.getD (n-1) "")) H):C5 cg K vs H Q
def Dc(cg:GC)(K:X0):Sp:=λ vs H Q ω=>C5 cg K vs H Q
def u9(cg:GC)(cb:V0)(K:X0):Sp:=λ vs H Q E=>∃(g:V0)(a:List U1)(n:Nat),vs=[.ref g]/\b_ K cg H g a n/\if aA a n="" then BF cb g H E else ∀c,SY g H c->b_ K cg c g a (n+1)->Q (.str (aA a n)) c
inductive BN(cg:GC)(K:X0)(vs:List V)(H:Hp)(Q:VK):Prop
 |mk(g:V0)(ws:List U1)(n:Nat)(x:U1)(a1:vs=[.ref g,.str x])(a2:b_ K cg H g ws n)(a3:x≠"")(a4:if aA ws n=x then ∀H',SY g H H'->b_ K cg H' g ws (n+1)->Q (.bl true) H' else Q (.bl false) H):BN cg K vs H Q
def nI(cg:GC)(K:X0):Sp:=λ vs H Q ω=>BN cg K vs H Q
def mC(cg:GC)(cb:V0)(K:X0):Sp:=λ vs H Q E=>∃(g:V0)(a:List U1)(n:Nat)(x:U1),vs=[.ref g,.str x]/\b_ K cg H g a n/\x≠""/\x.length<=100/\To (bT a x n) (λ ω m=>∀c,SY g H c->b_ K cg c g a m->Q .non c) (BF cb g H E)
def pd(cg:GC)(cb:V0)(K:X0):Sp:=λ vs H Q E=>∃(g:V0)(a:List U1)(n:Nat),vs=[.ref g]/\b_ K cg H g a n/\To (a_ a n) (λ x m=>∀c,SY g H c->b_ K cg c g a m->Q (.str x) c) (BF cb g H E)
def Co(cg:GC)(cb:V0)(K:X0):Sp:=λ vs H Q E=>∃(g:V0)(a:List U1)(n:Nat),vs=[.ref g]/\b_ K cg H g a n/\if aA a n="" then Q .non H else BF cb g H E
inductive Cm(vs:List V)(H:Hp)(Q:VK):Prop
 |mk(x:U1)(a1:vs=[.str x])(a2:x.length<=6000)(a3:∀H',ao H H'->Q (.bl (av x)) H'):Cm vs H Q
def vv:Sp:=λ vs H Q ω=>Cm vs H Q
theorem zN{ws:List U1}(h:n<ws.length):∃x,ws[n]?=some x/\aA ws n=x:=⟨ws[n],dc h,by unfold RR.aA;rw[hJ,dc h];rfl⟩
theorem B3{ws:List U1}(h:¬n<ws.length):aA ws n="":=by unfold RR.aA;rw[hJ,rO (lK h)];rfl
theorem b_.wl{K:X0}{c:GC}{ws:List U1}(h:b_ K c H g ws n):(aA ws n).length<=6000:=by
 by_cases z:n<ws.length
 ·obtain⟨x,a,b⟩:=zN z;rw[b];exact h.wd _ (kP a)
 ·rw[B3 z];exact dj _
theorem L_(T:∅):aX P w K mg base 1 aa "__init__" ["self","all_words"] (Gk ⟨aa,C_tb,LP,LQ⟩ K):=by
 walk_at "m m_Guest___init__ OQ 2"
 obtain⟨x,g,p,a,rfl,i,v,hl,y,j,q⟩:=h;refine⟨_,(aE (gW (ai 0) (fg ji rfl T.iB iy (qI (ai 1))) rfl) (aN (gW (ai 0) aw rfl))),?_⟩;walk_at "r";refine⟨_,.inl ⟨v,λ l m=>?_⟩⟩;have c:=dR m (.tup (a.map V.str));have u:ar H l (.tup (a.map V.str)) l=some (.tup (a.map V.str)):=bu;generalize ar H l (.tup (a.map V.str))=D at*;refine⟨aa,g,_,c _ _ i,T.Guest.cl,T.n_Guest_row,gj rfl,⟨aa,g,_,bu,T.Guest.cl,T.n_Guest_gone,gj rfl,?_⟩⟩;have C:l≠x:=λ z=>by rw[z,c _ _ i]at u;cases u
 rw[yW];exact q _ (λ b o n e=>by rw[aU n];exact c _ _ e) ⟨(j.same c).sx (c _ _ i) (SX.put _),⟨g,l,bu,ay.of (by rw[aU C];exact u)⟩,hl,dj _,y⟩
theorem vA(T:∅):aX P w K mg base 1 aa "ahead" ["self"] (nH ⟨aa,C_tb,LP,LQ⟩ K):=by
 walk_at "m m_Guest_ahead OL 1"
 obtain⟨g,o,n,rfl,u,q⟩:=h;obtain⟨v,⟨c,j,i,m⟩,y,C,D⟩:=u;refine⟨_,(aE (bP (qM nh (qO 0) (qL T.z_len (qI (qO 0)))) (aN (bp (qC K (qO 0) (qO 0)))) bW) (aN (bp aK))),?_⟩;walk_at "r";refine⟨aa,c,_,i,T.Guest.cl,T.n_Guest_gone,_,rfl,⟨aa,c,_,i,T.Guest.cl,T.n_Guest_row,_,rfl,j,rfl,_,.inr m,_,rfl,ax (λ e=>?_) λ e=>?_⟩⟩
 ·rw[bB]at e;obtain⟨x,a,b⟩:=zN (pO.mp e);refine⟨aa,c,_,i,T.Guest.cl,T.n_Guest_row,_,rfl,⟨aa,c,_,i,T.Guest.cl,T.n_Guest_gone,_,rfl,j,rfl,_,rfl,⟨_,m,_,gB (by rw[eK,a];rfl),?_⟩⟩⟩;rw[<-b];exact q
 ·rw[bB]at e;rw[B3 (λ z=>e (pO.mpr z))]at q;exact q
theorem N3(T:∅):aX P w K mg base 1 aa "behind" ["self"] (Dc ⟨aa,C_tb,LP,LQ⟩ K):=by
 walk_at "m m_Guest_behind OS 1"
 obtain⟨g,ws,n,rfl,i,o,q⟩:=h;obtain⟨u,⟨c,j,e,m⟩,v,y,z⟩:=i;refine⟨_,(aN (bp (qC K (qO 0) (aC EH (qO 0) aw)))),?_⟩;walk_at "r";obtain⟨x,a,b⟩:=zN (ws:=ws) (n:=n-1) (by omega);refine⟨aa,c,_,e,T.Guest.cl,T.n_Guest_row,_,rfl,⟨aa,c,_,e,T.Guest.cl,T.n_Guest_gone,_,rfl,_,rfl,j,rfl,⟨_,m,.str x,?_,?_⟩⟩⟩
 ·rw[show((n:Nat):Int)-1=((n-1:Nat):Int)by omega];exact gB (by rw[eK,a];rfl)
 ·rw[<-b];exact q
theorem BH(T:∅)(a:aX P w K mg base 1 aa "ahead" ["self"] (nH ⟨aa,C_tb,LP,LQ⟩ K)):bK P w K mg base 2 aa "take" ["self"] (u9 ⟨aa,C_tb,LP,LQ⟩ ae K):=by
 walk_at "y m_Guest_take fT 1"
 obtain⟨g,j,n,rfl,u,q⟩:=h;have m:=u;obtain⟨y,⟨o,J,c,C⟩,D,L,G⟩:=u;refine⟨_,(aE (qG 1 fT.nd (f6 (ai 0) T.Guest.cl a hr qS)) (aE (bP (qM dy (ai 1) aK) (aN (jE T.x_BadForm hr rfl (qI aK))) bW) (aE (Dp (ai 0) aw FT) (aN (bp (ai 1)))))),?_⟩;walk_at "r";refine⟨o,_,c,rfl,⟨g,j,n,rfl,m,rfl,ax (λ e=>?_) λ e=>?_⟩⟩
 ·rw[UL (V.str.inj e)]at q;exact λ x I=>q.new I
 ·have v:aA j n≠"":=λ z=>e (by rw[z]);rw[UK v]at q;have hl:=RR.dn v;exact⟨aa,o,_,c,T.Guest.cl,T.n_Guest_gone,_,rfl,_,rfl,⟨o,_,c,gj rfl,q _ (SY.put _) (b_.put c C D G hl y)⟩⟩
theorem vw(T:∅)(a:aX P w K mg base 1 aa "ahead" ["self"] (nH ⟨aa,C_tb,LP,LQ⟩ K)):aX P w K mg base 2 aa "takes" ["self","word"] (nI ⟨aa,C_tb,LP,LQ⟩ K):=by
 walk_at "m m_Guest_takes OM 2"
 obtain⟨g,ws,n,x,rfl,m,o,q⟩:=h;have i:=m;obtain⟨u,⟨j,G,c,v⟩,C,I,D⟩:=m;refine⟨_,(aE (bP (qM As (f6 (ai 0) T.Guest.cl a hr qS) (ai 1)) (aN (bp qz)) bW) (aE (Dp (ai 0) aw FT) (aN (bp qz)))),?_⟩;walk_at "r";refine⟨j,_,c,rfl,⟨g,ws,n,rfl,i,rfl,ax (λ e=>?_) λ e=>?_⟩⟩
 ·rw[UK (λ z=>e (by rw[z]))]at q;exact q
 ·have e:aA ws n=x:=uo λ z=>e λ y=>z (V.str.inj y);rw[UL e]at q;have hl:=RR.dn (ws:=ws) (n:=n) (by rw[e];exact o);exact⟨aa,j,_,c,T.Guest.cl,T.n_Guest_gone,_,rfl,_,rfl,⟨j,_,c,gj rfl,q _ (SY.put _) (b_.put c v C D hl u)⟩⟩
theorem zp(T:∅)(a:aX P w K mg base 2 aa "takes" ["self","word"] (nI ⟨aa,C_tb,LP,LQ⟩ K)):bK P w K mg base 3 aa "need" ["self","word"] (mC ⟨aa,C_tb,LP,LQ⟩ ae K):=by
 walk_at "y m_Guest_need OC 2"
 obtain⟨g,j,n,x,rfl,m,c,hl,q⟩:=h;have i:=m;obtain⟨I,⟨u,J,v,L⟩,M,N,O⟩:=m;refine⟨_,(aN (bP (pX (fq (jh (ai 0) T.Guest.cl a hr qS (qI (ai 1))))) (aN (jE T.x_BadForm hr rfl (qI (zc (oY aK (oY (AH (ai 1)) AS)))))) bW)),?_⟩;walk_at "r";unfold RR.bT at q;refine⟨u,_,v,rfl,⟨g,j,n,x,rfl,i,c,ax (λ e=>?_) λ e=>?_⟩⟩
 ·rw[UL e]at q;exact λ y C D=>⟨_,rfl,ax (λ z=>by cases z) λ ω=>q y C D⟩
 ·rw[UK e]at q;have G:(So++("missing: ":U1)).length<=16777216:=by decide+kernel
  have o:(So++("missing: ":U1)++x).length<=16777216:=by
   rw[<-K10.aM,K10.bE,bX,K10.aM,K10.aM];have:(So++("missing: ":U1)).length=9:=by decide+kernel
   omega
  exact⟨_,rfl,ax (λ ω=>⟨G,.inr ⟨by omega,o,o,λ x c=>BF.new q c⟩⟩) λ z=>UM rfl z⟩
theorem Ca(T:∅)(a:aX P w K mg base 1 aa "ahead" ["self"] (nH ⟨aa,C_tb,LP,LQ⟩ K))(c:bK P w K mg base 2 aa "take" ["self"] (u9 ⟨aa,C_tb,LP,LQ⟩ ae K))(i:bJ P w K mg base 2 "is_name" ["word"] vv):bK P w K mg base 3 aa "need_name" ["self"] (pd ⟨aa,C_tb,LP,LQ⟩ ae K):=by
 walk_at "y m_Guest_need_name OU 1"
 obtain⟨g,m,n,rfl,u,q⟩:=h;have j:=u;obtain⟨J,⟨v,L,y,M⟩,N,O,R⟩:=u;refine⟨_,(aE (bP (pX (fq (qF i hr (qI (f6 (ai 0) T.Guest.cl a hr qS))))) (aN (jE T.x_BadForm hr rfl (qI aK))) bW) (aN (bp (jF (ai 0) T.Guest.cl c hr qS)))),?_⟩;walk_at "r";unfold RR.a_ at q;refine⟨v,_,y,rfl,⟨g,m,n,rfl,j,⟨_,rfl,j.wl,λ S o=>⟨_,rfl,ax (λ e=>?_) λ e=>?_⟩⟩⟩⟩
 ·rw[UK (by rw[e];exact dO)]at q;exact λ x C=>(BF.same q (SY.of o)).new C
 ·have e:av (aA m n)=true:=Bool.not_eq_false _▸e;rw[UL e]at q;refine⟨v,_,o _ _ y,rfl,⟨g,m,n,rfl,j.same o,?_⟩⟩;rw[UK (λ z=>by rw[z,RR.gy]at e;cases e)];exact λ D G I=>q D ((SY.of o).trans G) I
theorem Nd(T:∅)(a:aX P w K mg base 1 aa "ahead" ["self"] (nH ⟨aa,C_tb,LP,LQ⟩ K)):bK P w K mg base 2 aa "need_end" ["self"] (Co ⟨aa,C_tb,LP,LQ⟩ ae K):=by
 walk_at "y m_Guest_need_end OO 1"
 obtain⟨g,i,n,rfl,j,q⟩:=h;have c:=j;obtain⟨v,⟨m,C,o,D⟩,G,I,J⟩:=j;refine⟨_,(aN (bP (qM As (f6 (ai 0) T.Guest.cl a hr qS) aK) (aN (jE T.x_BadForm hr rfl (qI aK))) bW)),?_⟩;walk_at "r";refine⟨m,_,o,rfl,⟨g,i,n,rfl,c,rfl,ax (λ e=>?_) λ e=>?_⟩⟩
 ·rw[UK (λ z=>e (by rw[z]))]at q;exact λ x u=>q.new u
 ·rw[UL (uo λ z=>e λ y=>z (V.str.inj y))]at q;exact q
open RR (rd dE cM pL jt js cq df dM bC eF b9 dh cf)
theorem To.bind{α c:Type}{a:aZ α}{f:α->Nat->aZ c}{p:c->Nat->Prop}{q:Prop}(h:To (a.bind f) p q):To a (λ x m=>To (f x m) p q) q:=by
 cases a<;>exact h
theorem To.mono{α:Type}{a:aZ α}{p c:α->Nat->Prop}{q q':Prop}(h:To a p q)(e:∀x m,a=.ok x m->p x m->c x m)(g:q->q'):To a c q':=by
 cases a with
 |ok x m=>exact e x m rfl h
 |bad=>exact g h
 |out=>exact h
def iA(K:X0)(cg:GC)(cb ct g:V0)(ws:List U1)(H:Hp)(Q:VK)(E:XK)(r:aZ Tm):Prop:=To r (λ t m=>∀v a,SY g H a->b_ K cg a g ws m->TO K ct a v t->Q v a) (BF cb g H E)
theorem b_.meth{K:X0}{e:GC}{ws:List U1}(h:b_ K e H g ws n):∃c i,H g=some (.ins e.g c [("row",i),("gone",.int n)]):=let⟨_,⟨c,j,a,_⟩,_,_,_⟩:=h;⟨c,_,a⟩
theorem b_.kq{K:X0}{c:GC}{ws:List U1}(h:b_ K c H g ws n)(s:SY g H H'):Kq H H':=let⟨_,_,a⟩:=h.meth;Kq.sy s a
theorem bG{H'':Hp}(a:SY g H H')(b:SY g H' H''):SY g H H'':=a.trans b
theorem Cn(h:m<=1000):((m:Int)).natAbs.log2<1920:=by
 rw[Int.natAbs_natCast];by_cases a:m=0
 ·rw[a];decide
 ·rw[rR a];exact pR h (dv (by decide:1000<2^10) (Nat.pow_le_pow_right qS qS))
theorem On(h:m<=1000):(Rx (toString (m:Int))).length<=2000:=by
 have e:=int_text_length_le (a:=(m:Int)) (k:=1920) qS (Cn h);rw[ofString_length];lia
def my(cg:GC)(cb ct:V0)(K:X0)(k:Nat):Sp:=λ vs H Q E=>∃(g:V0)(c:List U1)(n a low deep:Nat),vs=[.ref g,.int a,.int low,.int deep]/\b_ K cg H g c n/\1<=a/\1<=low/\iA K cg cb ct g c H Q E ((rd c k).T a low deep n)
def Et(cg:GC)(cb ct:V0)(K:X0)(k:Nat):Sp:=λ vs H Q E=>∃(g:V0)(a:List U1)(n deep:Nat),vs=[.ref g,.int deep]/\b_ K cg H g a n/\iA K cg cb ct g a H Q E (pL a (rd a k) deep n)
def Fj(cg:GC)(cb ct:V0)(K:X0)(k:Nat):Sp:=λ vs H Q E=>∃(g:V0)(a:List U1)(n low deep:Nat),vs=[.ref g,.int low,.int deep]/\b_ K cg H g a n/\1<=low/\iA K cg cb ct g a H Q E (jt a (rd a k) low deep n)
def zL(cg:GC)(cb:V0)(K:X0):Sp:=λ vs H Q E=>∃(g:V0)(a:List U1)(n:Nat),vs=[.ref g]/\b_ K cg H g a n/\To (dE a n) (λ x m=>∀c,SY g H c->b_ K cg c g a m->Q (.str x) c) (BF cb g H E)
def zw(cg:GC)(cb:V0)(K:X0):Sp:=λ vs H Q E=>∃(g:V0)(c:List U1)(n:Nat),vs=[.ref g]/\b_ K cg H g c n/\To (cM c n) (λ x m=>∀v a,SY g H a->b_ K cg a g c m->RT K a v (.tuple [.str x.1,.str x.2])->Q v a) (BF cb g H E)
def tD(cb:V0)(K:X0):Sp:=λ vs H Q E=>∃(l:V0)(a:List V)(m:Nat),vs=[.ref l,.int m]/\H l=some (.lst a)/\m<=1000/\if m<a.length then(∀c,ao H c->E (.ref cb) none c)else Q .non H
variable{Q:V0->Hp->Prop}
theorem kY{K:X0}{ct:V0}{c:Hp}{p:V0}{us:List V}{f:Fm}{l:Lb}{ps:List Tm}(m:az K c p us)(u:cU K ct c us ps)(y:gq f l ps.length)(hl:ps.length<=20000)(q:∀x H',c x=none->ao c H'->TO K ct H' (.ref x) (.mk f l ps)->Q x H'):∀x b:V0,c x=none->c b=none->¬b=x->kD ct K [.ref x,.str f.s,eV l,.ref p] (ar (ar c b (.own x)) x (.ins ct b [])) (λ v g=>v=.non/\Q x g) E0:=λ x b i z n=>by
 have j:ao c (ar (ar c b (.own x)) x (.ins ct b [])):=λ a o e=>by
  rw[aU (bY e i),aU (bY e z)];exact e
 exact⟨x,b,p,f,l,us,ps,rfl,bu,az.same m j,u.kp (Kp.of j),y,hl,λ H' A t=>⟨rfl,q x H' i (λ a o e=>A _ _ (bY e i) (j _ _ e)) t⟩⟩
theorem MA(T:∅)(a:aX P w K mg base 2 aa "takes" ["self","word"] (nI ⟨aa,C_tb,LP,LQ⟩ K))(c:bK P w K mg base 3 aa "need_name" ["self"] (pd ⟨aa,C_tb,LP,LQ⟩ ae K)):aT P w K mg base 4 "read_kind" ["guest"] (zL ⟨aa,C_tb,LP,LQ⟩ ae K):=by
 walk_at "x QI Ow 1"
 obtain⟨g,i,n,rfl,j,q⟩:=h;obtain⟨m,y,o⟩:=j.meth;refine⟨_,(aE (bP (fq (jh (ai 0) T.Guest.cl a hr qS (qI aK))) (aN (bp aK)) bW) (aE (bP (fq (jh (ai 0) T.Guest.cl a hr qS (qI aK))) (aN (bp aK)) bW) (aN (bp (jF (ai 0) T.Guest.cl c hr qS))))),?_⟩;walk_at "r";unfold RR.dE at q;refine⟨m,_,o,rfl,⟨g,i,n,_,rfl,j,qP,ax (λ e=>?_) λ e=>?_⟩⟩
 ·rw[UL e]at q;exact λ u v x=>⟨_,rfl,ax (λ ω=>q u v x) λ z=>UM rfl z⟩
 rw[UK e]at q;refine⟨_,rfl,ax (λ z=>by cases z) λ ω=>⟨m,_,o,rfl,⟨g,i,n,_,rfl,j,qP,ax (λ e=>?_) λ e=>?_⟩⟩⟩
 ·rw[UL e]at q;exact λ u v x=>⟨_,rfl,ax (λ ω=>q u v x) λ z=>UM rfl z⟩
 rw[UK e]at q;exact⟨_,rfl,ax (λ z=>by cases z) λ ω=>⟨m,_,o,rfl,⟨g,i,n,rfl,j,q⟩⟩⟩
theorem MM(T:∅)(a:bK P w K mg base 3 aa "need_name" ["self"] (pd ⟨aa,C_tb,LP,LQ⟩ ae K))(c:aT P w K mg base 4 "read_kind" ["guest"] (zL ⟨aa,C_tb,LP,LQ⟩ ae K)):aT P w K mg base 5 "read_pair" ["guest"] (zw ⟨aa,C_tb,LP,LQ⟩ ae K):=by
 walk_at "x DU Jn 1"
 obtain⟨g,e,n,rfl,o,q⟩:=h;obtain⟨y,L,z⟩:=o.meth;refine⟨_,(aE (qG 1 Jn.nd (jF (ai 0) T.Guest.cl a hr qS)) (aN (bp (cH (qJ (ai 1) (dH c hr qS rfl (qI (ai 0)))))))),?_⟩;walk_at "r";refine⟨y,_,z,rfl,⟨g,e,n,rfl,o,To.mono (To.bind q) (λ x m ω q M u C=>⟨g,e,m,rfl,C,To.mono (To.bind q) (λ k j ω q N D G=>aS.of λ O I R v J=>?_) λ b=>b.same u⟩) λ b=>b⟩⟩;exact q _ I (bG (bG u D) (SY.of v)) (G.same v) (.tup (ay.of J) (.cons (.str _) (.cons (.str _) .nil)))
theorem Fz(T:∅):aT P w K mg base 1 "need_few" ["found","most"] (tD ae K):=by
 walk_at "x QY OA 2"
 obtain⟨l,y,m,rfl,hl,c,q⟩:=h;refine⟨_,(aN (bP (qM iP (qL T.z_len (qI (ai 0))) (ai 1)) (aN (jE T.x_BadForm hr rfl (qI (zc (oY aK (oY (AH (ai 1)) (oY aK AS))))))) bW)),?_⟩;walk_at "r";refine⟨_,.inl (az.of hl),ax (λ e=>?_) λ e=>?_⟩
 ·rw[UL (pO.mp e)]at q;have a:(So++("more than ":U1)).length=10:=by decide+kernel
  have j:(" of a sort":U1).length=10:=by decide+kernel
  have C:=On c;have o:(So++("more than ":U1)++Rx (toString ((m:Nat):Int))).length<=16777216:=by
   rw[<-K10.aM,K10.bE,bX,K10.aM,K10.aM,a];lia
  have i:(So++("more than ":U1)++Rx (toString ((m:Nat):Int))++(" of a sort":U1)).length<=16777216:=by
   rw[<-K10.aM,K10.bE,bX,K10.bE,bX,K10.aM,K10.aM,K10.aM,a,j];lia
  exact⟨by rw[a];decide,.inl ⟨Cn c,o,i,i,λ x u=>q _ (dR u _)⟩⟩
 ·rw[UK (λ z=>e (pO.mpr z))]at q;exact q
theorem Kn(T:∅){k:Nat}(c:bK P w K mg base 3 aa "need" ["self","word"] (mC ⟨aa,C_tb,LP,LQ⟩ ae K))(a:aT P w K mg base (8*k+8) "read_term" ["guest","least","lowest","deep"] (my ⟨aa,C_tb,LP,LQ⟩ ae Ct K k))(e:aX P w K mg base 2 Ct "__init__" ["self","form","label","parts"] (kD Ct K)):aT P w K mg base (8*k+9) "read_if" ["guest","deep"] (Et ⟨aa,C_tb,LP,LQ⟩ ae Ct K k):=by
 walk_at "x QT Ai 2"
 obtain⟨g,j,n,deep,rfl,X,q⟩:=h;refine⟨_,(aE (qG 2 Ai.nd (dH a hr qS rfl (dq (ai 0) (qK (eJ T.c_WEAKEST rfl) (eJ T.c_WEAKEST rfl) (aC cK (ai 1) aw))))) (aE (dS (jC (ai 0) T.Guest.cl c hr qS (qI aK))) (aE (qG 3 Ai.nd (dH a hr qS rfl (dq (ai 0) (qK (eJ T.c_WEAKEST rfl) (eJ T.c_WEAKEST rfl) (aC cK (ai 1) aw))))) (aE (dS (jC (ai 0) T.Guest.cl c hr qS (qI aK))) (aE (qG 4 Ai.nd (dH a hr qS rfl (dq (ai 0) (qK (eJ T.c_ABOVE_WEAKEST rfl) (eJ T.c_ABOVE_WEAKEST rfl) (aC cK (ai 1) aw))))) (aN (bp (ie T.Term e hr qS rfl (qK aK p_ (cJ (qK (ai 2) (ai 3) (ai 4)))))))))))),?_⟩;walk_at "r";unfold RR.pL at q;refine⟨g,j,n,1,1,deep+1,rfl,X,aQ _,aQ _,To.mono (To.bind q) (λ t1 Y ω q v1 H1 C o Z=>?_) λ b=>b⟩;obtain⟨u,rv,v⟩:=o.meth;refine⟨u,_,v,rfl,⟨g,j,Y,_,rfl,o,qP,qP,To.mono (To.bind q) (λ ω m2 ω q H2 D G=>?_) λ b=>b.same C⟩⟩;have I:=bG C D;refine⟨g,j,m2,1,1,deep+1,rfl,G,aQ _,aQ _,To.mono (To.bind q) (λ t2 m3 ω q v2 H3 J y o3=>?_) λ b=>b.same I⟩;obtain⟨u,rv,z⟩:=y.meth;have L:=bG I J;refine⟨u,_,z,rfl,⟨g,j,m3,_,rfl,y,qP,qP,To.mono (To.bind q) (λ ω m4 ω q H4 M N=>?_) λ b=>b.same L⟩⟩;have O:=bG L M;refine⟨g,j,m4,2,2,deep+1,rfl,N,qQ,qQ,To.mono (To.bind q) (λ t3 m5 ω q v3 H5 R g5 o5=>?_) λ b=>b.same O⟩;have S5:=bG O R;refine aS.of λ p6 H6 h6 m e6=>?_;have S:=((y.kq M).trans (N.kq R)).trans (Kq.of m);have k1:=((o.kq D).trans (G.kq J)).trans S;exact kY (f:=.iff) (l:=.non) (az.of e6) (.cons (Z.kq k1) (.cons (o3.kq S) (.cons (o5.kp (Kp.of m)) .nil))) rfl (show 3<=20000 by decide) λ x H7 ω U t7=>q _ H7 (bG S5 (SY.of (m.trans U))) ((g5.same m).same U) t7
theorem K0(T:∅){k:Nat}(c:bK P w K mg base 3 aa "need_name" ["self"] (pd ⟨aa,C_tb,LP,LQ⟩ ae K))(a:bK P w K mg base 3 aa "need" ["self","word"] (mC ⟨aa,C_tb,LP,LQ⟩ ae K))(e:aT P w K mg base (8*k+8) "read_term" ["guest","least","lowest","deep"] (my ⟨aa,C_tb,LP,LQ⟩ ae Ct K k))(j:aX P w K mg base 2 Ct "__init__" ["self","form","label","parts"] (kD Ct K)):aT P w K mg base (8*k+9) "read_let" ["guest","lowest","deep"] (Fj ⟨aa,C_tb,LP,LQ⟩ ae Ct K k):=by
 walk_at "x QX DW 3"
 obtain⟨g,o,n,low,deep,rfl,D,m,q⟩:=h;refine⟨_,(aE (qG 3 DW.nd (jF (ai 0) T.Guest.cl c hr qS)) (aE (dS (jC (ai 0) T.Guest.cl a hr qS (qI aK))) (aE (qG 4 DW.nd (dH e hr qS rfl (dq (ai 0) (qK (eJ T.c_WEAKEST rfl) (eJ T.c_WEAKEST rfl) (aC cK (ai 2) aw))))) (aE (dS (jC (ai 0) T.Guest.cl a hr qS (qI aK))) (aN (bp (ie T.Term j hr qS rfl (qK aK (ai 3) (cJ (qJ (ai 4) (dH e hr qS rfl (dq (ai 0) (qK (ai 1) (ai 1) (aC cK (ai 2) aw)))))))))))))),?_⟩;walk_at "r";unfold RR.jt at q;obtain⟨u,G,X⟩:=D.meth;refine⟨u,_,X,rfl,⟨g,o,n,rfl,D,To.mono (To.bind q) (λ x Y ω q H1 I J=>?_) λ b=>b⟩⟩;obtain⟨u,G,y⟩:=J.meth;refine⟨u,_,y,rfl,⟨g,o,Y,_,rfl,J,qP,qP,To.mono (To.bind q) (λ ω Z ω q H2 s2 g2=>?_) λ b=>b.same I⟩⟩;have L:=bG I s2;refine⟨g,o,Z,1,1,deep+1,rfl,g2,aQ _,aQ _,To.mono (To.bind q) (λ t2 m3 ω q v2 H3 s3 z o3=>?_) λ b=>b.same L⟩;obtain⟨u,G,C⟩:=z.meth;have M:=bG L s3;refine⟨u,_,C,rfl,⟨g,o,m3,_,rfl,z,qP,qP,To.mono (To.bind q) (λ ω m4 ω q H4 N O=>?_) λ b=>b.same M⟩⟩;have R:=bG M N;refine⟨g,o,m4,low,low,deep+1,rfl,O,m,m,To.mono (To.bind q) (λ t3 m5 ω q v3 H5 S g5 o5=>?_) λ b=>b.same R⟩;have S5:=bG R S;refine aS.of λ p6 H6 h6 v e6=>?_;have k3:=((z.kq N).trans (O.kq S)).trans (Kq.of v);exact kY (f:=.lt) (l:=.str x) (az.of e6) (.cons (o3.kq k3) (.cons (o5.kp (Kp.of v)) .nil)) rfl (show 2<=20000 by decide) λ x H7 ω U t7=>q _ H7 (bG S5 (SY.of (v.trans U))) ((g5.same v).same U) t7
open RR (aL sZ gz)
def vc(cg:GC)(cb ct:V0)(K:X0)(k:Nat):Sp:=λ vs H Q E=>∃(g:V0)(a:List U1)(n low deep:Nat),vs=[.ref g,.int low,.int deep]/\b_ K cg H g a n/\1<=low/\iA K cg cb ct g a H Q E ((rd a k).Pt low deep n)
def F9(cg:GC)(cb ct:V0)(K:X0)(k:Nat):Sp:=λ vs H Q E=>∃(g:V0)(a:List U1)(n deep:Nat),vs=[.ref g,.int deep]/\b_ K cg H g a n/\iA K cg cb ct g a H Q E (eF a (rd a k) deep n)
def Ac(cg:GC)(cb ct:V0)(K:X0)(k:Nat):Sp:=λ vs H Q E=>∃(g:V0)(a:List U1)(n deep:Nat),vs=[.ref g,.int deep]/\b_ K cg H g a n/\iA K cg cb ct g a H Q E (bC a (rd a k) deep n)
def Fb(cg:GC)(cb ct:V0)(K:X0)(k:Nat):Sp:=λ vs H Q E=>∃(g:V0)(a:List U1)(n deep:Nat),vs=[.ref g,.int deep]/\b_ K cg H g a n/\iA K cg cb ct g a H Q E (js a (rd a k) deep n)
def vz(cg:GC)(cb ct:V0)(K:X0)(k:Nat):Sp:=λ vs H Q E=>∃(g:V0)(c:List U1)(n deep:Nat),vs=[.ref g,.int deep]/\b_ K cg H g c n/\To (b9 c (rd c k) deep n) (λ ts m=>∀l us a,SY g H a->H l=none->b_ K cg a g c m->a l=some (.lst us)->cU K ct a us ts->Q (.ref l) a) (BF cb g H E)
theorem KZ{f:Fm}(h:f≠.field):f.s≠("field":U1):=by
 cases f<;>first|exact UM rfl h|decide+kernel
theorem zl{K:X0}{a:GC}{cb ct:V0}{ws:List U1}{c:Hp}{Q:VK}{r:aZ Tm}(h:iA K a cb ct g ws H Q E r)(s:SY g H c):iA K a cb ct g ws c Q E r:=To.mono h (λ ω ω ω q v e i j m=>q v e (s.trans i) j m) λ b=>b.same s
def DH(K:X0)(cg:GC)(cb ct g:V0)(ws:List U1)(H:Hp)(Q:VK)(E:XK)(k deep j:Nat)(σ:St)(H':Hp):Prop:=∃v t m nm,σ=[some (V.ref g),some (V.int deep),some v,nm]/\SY g H H'/\b_ K cg H' g ws m/\TO K ct H' v t/\iA K cg cb ct g ws H Q E (dM ws (rd ws k) deep j t m)
def wN(K:X0)(cg:GC)(cb ct g:V0)(ws:List U1)(H:Hp)(Q:VK)(E:XK)(k least low deep j:Nat)(σ:St)(H':Hp):Prop:=∃v t m a c,σ=[some (V.ref g),some (V.int least),some (V.int low),some (V.int deep),some v,a,c]/\SY g H H'/\b_ K cg H' g ws m/\TO K ct H' v t/\iA K cg cb ct g ws H Q E (df ws (rd ws k) least low deep j t m)
theorem B7(x:U1):(cD tM (Sum.inr x)).getD (.int 0)=.int (aL x):=by
 by_cases a:x=";"
 ·subst a;decide+kernel
 by_cases c:x="<"
 ·subst c;decide+kernel
 by_cases e:x="="
 ·subst e;decide+kernel
 by_cases g:x="+"
 ·subst g;decide+kernel
 by_cases i:x="-"
 ·subst i;decide+kernel
 by_cases j:x="*"
 ·subst j;decide+kernel
 by_cases m:x="/"
 ·subst m;decide+kernel
 unfold RR.aL;rw[UK a,UK c,UK e,UK g,UK i,UK j,UK m];unfold tM;rw[kC (λ z=>a (Sum.inr.inj z).symm),kC (λ z=>c (Sum.inr.inj z).symm),kC (λ z=>e (Sum.inr.inj z).symm),kC (λ z=>g (Sum.inr.inj z).symm),kC (λ z=>i (Sum.inr.inj z).symm),kC (λ z=>j (Sum.inr.inj z).symm),kC (λ z=>m (Sum.inr.inj z).symm)];rfl
theorem NY{x:U1}(h:1<=aL x):cD tM (Sum.inr x)=some (.int (aL x)):=by
 have e:=B7 x;cases z:cD tM (Sum.inr x)with
 |some v=>rw[z]at e;exact congrArg some e
 |none=>
  rw[z]at e;have:(0:Int)=(aL x:Int):=V.int.inj e;lia
theorem E7(a:U1):iM (.str a) [.str "<",.str "="]=gz a:=by
 unfold RR.gz;by_cases h:a="<"
 ·subst h;decide+kernel
 by_cases c:a="="
 ·subst c;decide+kernel
 rw[beq_eq_false_iff_ne.mpr h,beq_eq_false_iff_ne.mpr c];show((("<":U1)==a)||((("=":U1)==a)||false))=false;rw[beq_eq_false_iff_ne.mpr (Ne.symm h),beq_eq_false_iff_ne.mpr (Ne.symm c)];rfl
theorem KR(T:∅){k:Nat}(j:aX P w K mg base 1 aa "behind" ["self"] (Dc ⟨aa,C_tb,LP,LQ⟩ K))(D:bK P w K mg base 3 aa "need" ["self","word"] (mC ⟨aa,C_tb,LP,LQ⟩ ae K))(C:aT P w K mg base (8*k+13) "read_pointed" ["guest","deep"] (Ac ⟨aa,C_tb,LP,LQ⟩ ae Ct K k))(I:aT P w K mg base (8*k+8) "read_term" ["guest","least","lowest","deep"] (my ⟨aa,C_tb,LP,LQ⟩ ae Ct K k))(G:aX P w K mg base 1 Ct "parts" ["self"] (CK Ct K))(c:aX P w K mg base 2 Ct "__init__" ["self","form","label","parts"] (kD Ct K)):aT P w K mg base (8*k+14) "read_set" ["guest","deep"] (Fb ⟨aa,C_tb,LP,LQ⟩ ae Ct K k):=by
 walk_at "x QW DV 2"
 obtain⟨g,L,n,deep,rfl,hg,q⟩:=h;refine⟨_,(aE (qG 2 DV.nd (dH C hr qS rfl (qJ (ai 0) (ai 1)))) (aE (bP (PW.pt (xA (qM As (qO 2) aK) (uP (qM dy (f6 (ai 0) T.Guest.cl j hr qS) aK)))) (aN (jE T.x_BadForm hr rfl (qI aK))) bW) (aE (dS (jC (ai 0) T.Guest.cl D hr qS (qI aK))) (aE (qG 3 DV.nd (dH I hr qS rfl (dq (ai 0) (qK (eJ T.c_ABOVE_WEAKEST rfl) (eJ T.c_ABOVE_WEAKEST rfl) (aC cK (ai 1) aw))))) (aN (bp (ie T.Term c hr qS rfl (qK aK (qO 2) (aC iQ (f6 (ai 2) T.Term.cl G hr qS) (cJ (qI (ai 3)))))))))))),?_⟩;walk_at "r";unfold RR.js at q;refine⟨g,L,n,deep,rfl,hg,To.mono (To.bind q) (λ t m et q v H1 N O o1=>?_) λ b=>b⟩;obtain⟨f,l,ps⟩:=t;have U:=o1;cases o1 with
 |@mk a X a0 sh _ _ _ us zs Y t2 t3 t4 t5=>
 obtain⟨q1,q2,q3⟩:=RR.da (RR.dX L k) deep n _ _ et;refine⟨a,rfl,⟨Ct,X,_,Y,T.Term.cl,T.n_Term_form,_,rfl,rfl,ax (λ e=>?_) λ e=>?_⟩⟩
 ·have nf:f≠.field:=λ z=>e (by rw[z];rfl);have q:BF ae g H E:=by
   cases f<;>first|exact UM rfl nf|exact q
  exact λ x Z=>(q.same N).new Z
 have hf:f=.field:=uo λ z=>e λ y=>KZ z (V.str.inj y);subst hf;obtain⟨gx,rv,h1⟩:=O.meth;refine⟨gx,_,h1,rfl,⟨g,L,m,rfl,O,by rw[RR.pJ]at q3;lia,rfl,ax (λ e=>?_) λ e=>?_⟩⟩
 ·have q:BF ae g H E:=by
   have q:=show To (if L.getD (m-1) ""=")" then(aZ.bad:aZ Tm)else _) _ _ from q
   rw[UL (V.str.inj e)]at q;exact q
  exact λ x Z=>(q.same N).new Z
 have q:=show To (if L.getD (m-1) ""=")" then aZ.bad else _) _ _ from q
 rw[UK (λ z=>e (by rw[z]))]at q;refine⟨gx,_,h1,rfl,⟨g,L,m,_,rfl,O,qP,qP,To.mono (To.bind q) (λ ω m2 ω q H2 s2 g2=>?_) λ b=>b.same N⟩⟩;have S2:=bG N s2;refine⟨g,L,m2,2,2,deep+1,rfl,g2,qQ,qQ,To.mono (To.bind q) (λ u m3 ω q v3 H3 s3 g3 o3=>?_) λ b=>b.same S2⟩;have S3:=bG S2 s3;have k3:=(O.kq s2).trans (g2.kq s3);have M:=U.kq k3;refine⟨a,rfl,⟨Ct,X,_,k3.i _ _ _ _ _ _ zG Y,T.Term.cl,T.n_Term_label,_,rfl,a,rfl,⟨X,_,k3.i _ _ _ _ _ _ zG Y,rfl,⟨_,_,rfl,M,λ R us4 h4 J=>?_⟩⟩⟩⟩;have J:cU K Ct H3 us4 ps:=J;have s4:=dR h4 (.lst us4);have e4:ar H3 R (.lst us4) R=some (.lst us4):=bu;generalize ar H3 R (.lst us4)=H4 at*;have lu:=J.length;have lp:ps.length=1:=by
  cases q2 with
  |mk o _=>cases l<;>first|exact o.elim|exact o
 refine aS.of λ p5 H5 h5 s5 e5=>⟨R,rfl,_,s5 _ _ e4,_,e5,(show us4.length+1<=16777216 by rw[lu,lp];decide),aS.of λ p6 H6 h6 s6 e6=>?_⟩;have S:=s4.trans (s5.trans s6);refine kY (f:=.set) (l:=l) (az.of e6) (cU.app (J.kp (Kp.of S)) (.cons (o3.kp (Kp.of S)) .nil)) ?_ (show(ps++[u]).length<=20000 by rw[bX,lp];show 1+1<=_;decide) λ x H7 ω s7 t7=>q _ H7 (bG S3 (SY.of (S.trans s7))) ((g3.same S).same s7) t7;rw[bX,lp];cases q2 with
 |mk o _=>cases l<;>first|exact o.elim|rfl
theorem Mu(T:∅){k:Nat}(a:aX P w K mg base 2 aa "takes" ["self","word"] (nI ⟨aa,C_tb,LP,LQ⟩ K))(j:aT P w K mg base (8*k+7) "read_part" ["guest","lowest","deep"] (vc ⟨aa,C_tb,LP,LQ⟩ ae Ct K k))(y:aT P w K mg base (8*k+9) "read_if" ["guest","deep"] (Et ⟨aa,C_tb,LP,LQ⟩ ae Ct K k))(o:aT P w K mg base (8*k+9) "read_let" ["guest","lowest","deep"] (Fj ⟨aa,C_tb,LP,LQ⟩ ae Ct K k))(u:aT P w K mg base (8*k+14) "read_set" ["guest","deep"] (Fb ⟨aa,C_tb,LP,LQ⟩ ae Ct K k))(i:aT P w K mg base (8*k+13) "read_pointed" ["guest","deep"] (Ac ⟨aa,C_tb,LP,LQ⟩ ae Ct K k))(c:aX P w K mg base 2 Ct "__init__" ["self","form","label","parts"] (kD Ct K)):aT P w K mg base (8*k+15) "read_part" ["guest","lowest","deep"] (vc ⟨aa,C_tb,LP,LQ⟩ ae Ct K (k+1)):=by
 walk_at "x Jk HE 3"
 obtain⟨g,C,n,low,deep,rfl,J,D,q⟩:=h;refine⟨_,(aE (bP (qM iP (ai 2) (eJ T.c_MOST_DEEP rfl)) (aN (jE T.x_BadForm hr rfl (qI aK))) bW) (aE (bP (fq (jh (ai 0) T.Guest.cl a hr qS (qI aK))) (aN (bp (ie T.Term c hr qS rfl (qK aK p_ (cJ (qI (dH j hr qS rfl (qK (ai 0) (ai 1) (aC cK (ai 2) aw))))))))) bW) (aE (bP (fq (jh (ai 0) T.Guest.cl a hr qS (qI aK))) (aN (bp (dH y hr qS rfl (qJ (ai 0) (ai 2))))) bW) (aE (bP (fq (jh (ai 0) T.Guest.cl a hr qS (qI aK))) (aN (bp (dH o hr qS rfl (qK (ai 0) (ai 1) (ai 2))))) bW) (aE (bP (fq (jh (ai 0) T.Guest.cl a hr qS (qI aK))) (aN (bp (dH u hr qS rfl (qJ (ai 0) (ai 2))))) bW) (aN (bp (dH i hr qS rfl (qJ (ai 0) (ai 2)))))))))),?_⟩;walk_at "r";have q:iA K ⟨aa,C_tb,LP,LQ⟩ ae Ct g C H Q E (cq C (rd C k) low deep n):=q;unfold RR.cq at q;obtain⟨L,rv,M⟩:=J.meth;refine ax (λ e=>?_) λ e=>?_
 ·rw[UL (pO.mp e)]at q;exact λ x S=>BF.new q S
 rw[UK (λ z=>e (pO.mpr z))]at q;refine⟨L,_,M,rfl,⟨g,C,n,_,rfl,J,qP,ax (λ e=>?_) λ e=>?_⟩⟩
 ·rw[UL e]at q;refine λ N G I=>⟨_,rfl,ax (λ ω=>?_) λ z=>UM rfl z⟩;refine⟨g,C,n+1,low,deep+1,rfl,I,D,To.mono (To.bind q) (λ t m ω q v H2 U X Y=>?_) λ b=>b.same G⟩;refine aS.of λ p3 H3 h3 O Z=>?_;exact kY (f:=.nt) (l:=.non) (az.of Z) (.cons (Y.kp (Kp.of O)) .nil) rfl (show 1<=20000 by decide) λ x H4 ω R t4=>q _ H4 (bG (bG G U) (SY.of (O.trans R))) ((X.same O).same R) t4
 rw[UK e]at q;refine⟨_,rfl,ax (λ z=>by cases z) λ ω=>⟨L,_,M,rfl,⟨g,C,n,_,rfl,J,qP,ax (λ e=>?_) λ e=>?_⟩⟩⟩
 ·rw[UL e]at q;exact λ N G I=>⟨_,rfl,ax (λ ω=>⟨g,C,n+1,deep,rfl,I,zl q G⟩) λ z=>UM rfl z⟩
 rw[UK e]at q;refine⟨_,rfl,ax (λ z=>by cases z) λ ω=>⟨L,_,M,rfl,⟨g,C,n,_,rfl,J,qP,ax (λ e=>?_) λ e=>?_⟩⟩⟩
 ·rw[UL e]at q;exact λ N G I=>⟨_,rfl,ax (λ ω=>⟨g,C,n+1,low,deep,rfl,I,D,zl q G⟩) λ z=>UM rfl z⟩
 rw[UK e]at q;refine⟨_,rfl,ax (λ z=>by cases z) λ ω=>⟨L,_,M,rfl,⟨g,C,n,_,rfl,J,qP,ax (λ e=>?_) λ e=>?_⟩⟩⟩
 ·rw[UL e]at q;exact λ N G I=>⟨_,rfl,ax (λ ω=>⟨g,C,n+1,deep,rfl,I,zl q G⟩) λ z=>UM rfl z⟩
 rw[UK e]at q;exact⟨_,rfl,ax (λ z=>by cases z) λ ω=>⟨g,C,n,deep,rfl,J,q⟩⟩
theorem Hm(T:∅){k:Nat}(o:aX P w K mg base 2 aa "takes" ["self","word"] (nI ⟨aa,C_tb,LP,LQ⟩ K))(u:aX P w K mg base 1 aa "ahead" ["self"] (nH ⟨aa,C_tb,LP,LQ⟩ K))(c:bK P w K mg base 3 aa "need_name" ["self"] (pd ⟨aa,C_tb,LP,LQ⟩ ae K))(C:aT P w K mg base (8*k+11) "read_terms" ["guest","deep"] (vz ⟨aa,C_tb,LP,LQ⟩ ae Ct K k))(D:aT P w K mg base (8*k+12) "read_one" ["guest","deep"] (F9 ⟨aa,C_tb,LP,LQ⟩ ae Ct K k))(a:aX P w K mg base 2 Ct "__init__" ["self","form","label","parts"] (kD Ct K)):aT P w K mg base (8*k+13) "read_pointed" ["guest","deep"] (Ac ⟨aa,C_tb,LP,LQ⟩ ae Ct K k):=by
 walk_at "x Q1 wZ 2"
 obtain⟨g,G,n,deep,rfl,hg,q⟩:=h;refine⟨_,(aE (qG 2 wZ.nd (dH D hr qS rfl (qJ (ai 0) (ai 1)))) (aE (nF (nK rfl rfl) (fq (jh (ai 0) T.Guest.cl o hr qS (qI aK))) (aE (qG 3 wZ.nd (jF (ai 0) T.Guest.cl c hr qS)) (aN (bP (qM dy (f6 (ai 0) T.Guest.cl u hr qS) aK) (aN (qG 2 wZ.nd (ie T.Term a hr qS rfl (qK aK (ai 3) (aC iQ (cJ (qI (ai 2))) (dH C hr qS rfl (qJ (ai 0) (aC cK (ai 1) aw)))))))) (aN (qG 2 wZ.nd (ie T.Term a hr qS rfl (qK aK (ai 3) (cJ (qI (ai 2))))))))))) (aN (bp (ai 2))))),?_⟩;walk_at "r";unfold RR.bC at q;refine⟨g,G,n,deep,rfl,hg,To.mono (To.bind q) (λ t m et q v H1 O J R=>?_) λ b=>b⟩;refine⟨DH K ⟨aa,C_tb,LP,LQ⟩ ae Ct g G H Q E k deep,⟨_,v,t,m,none,rfl,O,J,R,q⟩,?_⟩;rintro j σ H' ⟨v,t,m,nm,rfl,O,J,R,q⟩;cases j with
 |zero=>exact q.elim
 |succ j=>
 obtain⟨L,rv,h1⟩:=J.meth;walk_at "r";unfold RR.dM at q;refine⟨L,_,h1,rfl,⟨g,G,m,_,rfl,J,qP,ax (λ e=>?_) λ e=>?_⟩⟩
 ·rw[UL e]at q;refine λ H2 s2 U=>⟨_,rfl,ax (λ ω=>?_) λ z=>UM rfl z⟩;refine⟨DH K ⟨aa,C_tb,LP,LQ⟩ ae Ct g G H Q E k deep j,λ ω ω z=>⟨j,iH _,z⟩,?_⟩;obtain⟨L,rv,h2⟩:=U.meth;have S2:=bG O s2;refine⟨L,_,h2,rfl,⟨g,G,m+1,rfl,U,To.mono (To.bind q) (λ x X ω q H3 s3 M=>?_) λ b=>b.same S2⟩⟩;obtain⟨L,rv,h3⟩:=M.meth;have Y:=bG S2 s3;have o3:=(R.kq (J.kq s2)).kq (U.kq s3);refine⟨L,_,h3,rfl,⟨g,G,X,rfl,M,rfl,ax (λ e=>?_) λ e=>?_⟩⟩
  ·rw[UL (V.str.inj e)]at q;refine aS.of λ p4 H4 h4 I Z=>⟨g,G,X,deep+1,rfl,M.same I,To.mono (To.bind q) (λ ts m5 et q l5 us H5 s5 h5 g5 e5 o5=>?_) λ b=>b.same (bG Y (SY.of I))⟩;have n4:p4≠g:=nq h3 h4;obtain⟨ω,ω,ω,r4⟩:=RR.cz (RR.dX G k) _ _ _ _ et;have lu:=o5.length;refine⟨l5,rfl,_,s5.lst n4 Z,_,e5,(show 1+us.length<=16777216 by lia),aS.of λ p6 H6 h6 S e6=>?_⟩;have k4:=(Kq.of I).trans (((M.same I).kq s5).trans (Kq.of S));refine kY (f:=.call) (l:=.str x) (az.of e6) (.cons (o3.kq k4) (o5.kp (Kp.of S))) (show 1<=ts.length+1 by lia) (show ts.length+1<=20000 by lia) λ y H7 ω N t7=>⟨_,_,m5,_,rfl,bG Y (bG (SY.of I) (bG s5 (SY.of (S.trans N)))),(g5.same S).same N,t7,q⟩
  ·rw[UK (λ z=>e (by rw[z]))]at q;refine aS.of λ p4 H4 h4 I Z=>?_;exact kY (f:=.field) (l:=.str x) (az.of Z) (.cons (o3.kp (Kp.of I)) .nil) rfl (show 1<=20000 by decide) λ y H7 ω N t7=>⟨_,_,X,_,rfl,bG Y (SY.of (I.trans N)),(M.same I).same N,t7,q⟩
 ·rw[UK e]at q;exact⟨_,rfl,ax (λ z=>by cases z) λ ω=>q _ _ O J R⟩
theorem Md(T:∅){k:Nat}(o:aX P w K mg base 1 aa "ahead" ["self"] (nH ⟨aa,C_tb,LP,LQ⟩ K))(G:bK P w K mg base 2 aa "take" ["self"] (u9 ⟨aa,C_tb,LP,LQ⟩ ae K))(I:aT P w K mg base (8*k+15) "read_part" ["guest","lowest","deep"] (vc ⟨aa,C_tb,LP,LQ⟩ ae Ct K (k+1)))(C:aT P w K mg base (8*k+8) "read_term" ["guest","least","lowest","deep"] (my ⟨aa,C_tb,LP,LQ⟩ ae Ct K k))(D:aX P w K mg base 2 Ct "__init__" ["self","form","label","parts"] (kD Ct K)):aT P w K mg base (8*k+16) "read_term" ["guest","least","lowest","deep"] (my ⟨aa,C_tb,LP,LQ⟩ ae Ct K (k+1)):=by
 walk_at "x Jl qq 4"
 obtain⟨g,y,n,a,low,deep,rfl,hg,b0,J,q⟩:=h;refine⟨_,(aE (qG 4 qq.nd (dH I hr qS rfl (qK (ai 0) (ai 2) (ai 3)))) (aE (nF (nK rfl rfl) (qM Ij (Ly T.d_STRENGTHS (Ap hr) (eJ T.c_STRENGTHS rfl) (f6 (ai 0) T.Guest.cl o hr qS) aw ⟨rfl,rfl,rfl,rfl⟩) (ai 1)) (aE (qG 5 qq.nd (jF (ai 0) T.Guest.cl G hr qS)) (aE (bP (qM dy (ai 5) aK) (aN (qG 6 qq.nd (dH C hr qS rfl (dq (ai 0) (qK (eJ T.c_WEAKEST rfl) (ai 2) (aC cK (ai 3) aw)))))) (aN (qG 6 qq.nd (dH C hr qS rfl (dq (ai 0) (qK (aC cK (Fs T.d_STRENGTHS (eJ T.c_STRENGTHS rfl) (ai 5) (λ ω ω=>rfl)) aw) (ai 2) (aC cK (ai 3) aw))))))) (aE (qG 4 qq.nd (ie T.Term D hr qS rfl (qK aK (ai 5) (cJ (qJ (ai 4) (ai 6)))))) (aN (bP (PW.pt (sQ (mi (r:=lF K false) nG (ai 5) (cH (qJ aK aK)) (by with_unfolding_all rfl)) (tE (mi (r:=lF K false) nG (f6 (ai 0) T.Guest.cl o hr qS) (cH (qJ aK aK)) (by with_unfolding_all rfl))))) (aN (jE T.x_BadForm hr rfl (qI aK))) bW)))))) (aN (bp (ai 4))))),?_⟩;walk_at "r";have q:iA K ⟨aa,C_tb,LP,LQ⟩ ae Ct g y H Q E ((cq y (rd y k) low deep n).bind λ t m=>df y (rd y k) a low deep (y.length+1) t m):=q;refine⟨g,y,n,low,deep,rfl,hg,J,To.mono (To.bind q) (λ t m et q v H1 s1 O o1=>?_) λ b=>b⟩;refine⟨wN K ⟨aa,C_tb,LP,LQ⟩ ae Ct g y H Q E k a low deep,⟨_,v,t,m,none,none,rfl,s1,O,o1,q⟩,?_⟩;rintro j σ H' ⟨v,t,m,sg,rt,rfl,s1,O,o1,q⟩;cases j with
 |zero=>exact q.elim
 |succ j=>
 obtain⟨gx,rv,h1⟩:=O.meth;walk_at "r";unfold RR.df at q;refine⟨gx,_,h1,rfl,⟨g,y,m,rfl,O,.inr (aA y m),rfl,?_⟩⟩;rw[B7];refine⟨_,rfl,ax (λ e=>?_) λ e=>?_⟩
 ·rw[UL (Int.ofNat_le.mp e)]at q;have R:1<=aL (aA y m):=bR b0 (Int.ofNat_le.mp e);have ne:aA y m≠"":=λ z=>by rw[z,RR.jY]at R;cases R
  refine⟨wN K ⟨aa,C_tb,LP,LQ⟩ ae Ct g y H Q E k a low deep j,λ ω ω z=>⟨j,iH _,z⟩,⟨gx,_,h1,rfl,⟨g,y,m,rfl,O,?_⟩⟩⟩;rw[UK ne];intro H2 s2 g2;have S2:=bG s1 s2;have fin:∀{v3:V}{X H4 Y H6:Hp}{u:Tm}{L:Nat}{x:V0},iA K ⟨aa,C_tb,LP,LQ⟩ ae Ct g y H Q E (if(gz (aA y m)&&gz (aA y L))=true then .bad else df y (rd y k) a low deep j (.mk .two (.str (aA y m)) [t,u]) L)->SY g H2 X->b_ K ⟨aa,C_tb,LP,LQ⟩ X g y L->ao X H4->ao H4 Y->ao Y H6->TO K Ct Y (.ref x) (.mk .two (.str (aA y m)) [t,u])->
    if iM (V.str (aA y m)) [V.str (Rx "<"),V.str (Rx "=")]=true then
     xJ aa (Rx "ahead") g H6 (nH ⟨aa,C_tb,LP,LQ⟩ K [V.ref g] H6 (λ a0 e=>aS e (HO.tup [V.str (Rx "<"),V.str (Rx "=")]) λ p c=>∃ M,(az K c p M\/ay K c p M)/\je a0=true/\M.all je=true /\ if iM a0 M=true then ∀ (x:V0),c x=none->E (RA ae) none (ar c x (dG x ae none))
      else wN K ⟨aa,C_tb,LP,LQ⟩ ae Ct g y H Q E k a low deep j [some (V.ref g),some (V.int a),some (V.int low),some (V.int deep),some (V.ref x),some (V.str (aA y m)),some v3] c) E0)
    else wN K ⟨aa,C_tb,LP,LQ⟩ ae Ct g y H Q E k a low deep j [some (V.ref g),some (V.int a),some (V.int low),some (V.int deep),some (V.ref x),some (V.str (aA y m)),some v3] H6:=λ{v3 X H4 Y H6 u L x} q S g3 N s5 U Z=>by
   have S6:=N.trans (s5.trans U);have g6:=g3.same S6;have SS:=bG (bG S2 S) (SY.of S6);rw[E7];refine ax (λ e=>?_) λ e=>?_
   ·rw[e,Bool.true_and]at q;obtain⟨gx,rv,h6⟩:=g6.meth;refine⟨gx,_,h6,rfl,⟨g,y,L,rfl,g6,aS.of λ p7 H7 h7 s7 e7=>⟨_,.inr (ay.of e7),rfl,rfl,?_⟩⟩⟩;rw[E7];refine ax (λ e=>?_) λ e=>?_
    ·rw[UL e]at q;exact λ x hx=>(BF.same q (bG SS (SY.of s7))).new hx
    ·rw[UK e]at q;exact⟨_,_,L,_,_,rfl,bG SS (SY.of s7),g6.same s7,(Z.kp (Kp.of U)).kp (Kp.of s7),q⟩
   ·rw[UK (λ z=>e (pQ.mp z).1)]at q;exact⟨_,_,L,_,_,rfl,SS,g6,Z.kp (Kp.of U),q⟩
  refine⟨rfl,ax (λ e=>?_) λ e=>?_⟩
  ·rw[UL (V.str.inj e)]at q;refine⟨g,y,m+1,1,low,deep+1,rfl,g2,aQ _,J,To.mono (To.bind q) (λ u L ω q v3 X S g3 o3=>aS.of λ p4 H4 h4 N e4=>kY (f:=.two) (l:=.str (aA y m)) (az.of e4) (.cons (((o1.kq (O.kq s2)).kq (g2.kq S)).kp (Kp.of N)) (.cons (o3.kp (Kp.of N)) .nil)) rfl (show 2<=20000 by decide) λ x Y h5 s5 Z=>aS.of λ p6 H6 h6 U e6=>⟨_,.inr (ay.of e6),rfl,rfl,?_⟩) λ b=>b.same S2⟩;exact fin q S g3 N s5 U Z
  ·rw[UK (λ z=>e (by rw[z]))]at q;refine⟨.inr (aA y m),rfl,_,NY R,_,rfl,g,y,m+1,aL (aA y m)+1,low,deep+1,rfl,g2,mS (dj _),J,To.mono (To.bind q) (λ u L ω q v3 X S g3 o3=>aS.of λ p4 H4 h4 N e4=>kY (f:=.two) (l:=.str (aA y m)) (az.of e4) (.cons (((o1.kq (O.kq s2)).kq (g2.kq S)).kp (Kp.of N)) (.cons (o3.kp (Kp.of N)) .nil)) rfl (show 2<=20000 by decide) λ x Y h5 s5 Z=>aS.of λ p6 H6 h6 U e6=>⟨_,.inr (ay.of e6),rfl,rfl,?_⟩) λ b=>b.same S2⟩;exact fin q S g3 N s5 U Z
 ·rw[UK (λ z=>e (Int.ofNat_le.mpr z))]at q;exact q _ _ s1 O o1
open K10 (bD)
inductive GQ(vs:List V)(H:Hp)(Q:VK):Prop
 |mk(x:U1)(a1:vs=[.str x])(a2:x.length<=6000)(a3:∀H',ao H H'->Q (.bl (bD x.cps.toList)) H'):GQ vs H Q
def zH:Sp:=λ vs H Q ω=>GQ vs H Q
theorem Kz(T:∅){k:Nat}(D:bK P w K mg base 2 aa "take" ["self"] (u9 ⟨aa,C_tb,LP,LQ⟩ ae K))(u:bK P w K mg base 3 aa "need" ["self","word"] (mC ⟨aa,C_tb,LP,LQ⟩ ae K))(o:bK P w K mg base 3 aa "need_name" ["self"] (pd ⟨aa,C_tb,LP,LQ⟩ ae K))(G:bJ P w K mg base 2 "is_number" ["word"] zH)(L:bJ P w K mg base 2 "is_name" ["word"] vv)(C:aT P w K mg base (8*k+11) "read_terms" ["guest","deep"] (vz ⟨aa,C_tb,LP,LQ⟩ ae Ct K k))(I:aT P w K mg base (8*k+8) "read_term" ["guest","least","lowest","deep"] (my ⟨aa,C_tb,LP,LQ⟩ ae Ct K k))(a:aX P w K mg base 2 Ct "__init__" ["self","form","label","parts"] (kD Ct K)):aT P w K mg base (8*k+12) "read_one" ["guest","deep"] (F9 ⟨aa,C_tb,LP,LQ⟩ ae Ct K k):=by
 walk_at "x QV wW 2"
 obtain⟨g,J,n,deep,rfl,hg,q⟩:=h;refine⟨_,(aE (qG 2 wW.nd (jF (ai 0) T.Guest.cl D hr qS)) (aE (bP (fq (qF G hr (qI (ai 2)))) (aN (bp (ie T.Term a hr qS rfl (qK aK (fg (r:=Ay) NO rfl T.z_int nz (qI (ai 2))) (cJ ix))))) bW) (aE (bP (Jp (Kd T.d_TRUTHS (ai 2) (eJ T.c_TRUTHS rfl)) (by with_unfolding_all rfl)) (aN (bp (ie T.Term a hr qS rfl (qK aK (Fs T.d_TRUTHS (eJ T.c_TRUTHS rfl) (ai 2) (λ ω ω=>rfl)) (cJ ix))))) bW) (aE (bP (fq (qF L hr (qI (ai 2)))) (aN (bp (ie T.Term a hr qS rfl (qK aK (ai 2) (cJ ix))))) bW) (aE (bP (qM dy (ai 2) aK) (aN (bp (ie T.Term a hr qS rfl (qK aK p_ (cJ ix))))) bW) (aE (bP (qM dy (ai 2) aK) (aE (qG 3 wW.nd (jF (ai 0) T.Guest.cl o hr qS)) (aN (bp (ie T.Term a hr qS rfl (qK aK (ai 3) (dH C hr qS rfl (qJ (ai 0) (aC cK (ai 1) aw)))))))) bW) (aE (bP (qM dy (ai 2) aK) (aE (dS (jC (ai 0) T.Guest.cl u hr qS (qI aK))) (aE (qG 3 wW.nd (jF (ai 0) T.Guest.cl o hr qS)) (aN (bp (ie T.Term a hr qS rfl (qK aK (ai 3) (dH C hr qS rfl (qJ (ai 0) (aC cK (ai 1) aw))))))))) bW) (aE (bP (qM dy (ai 2) aK) (aE (qG 4 wW.nd (dH I hr qS rfl (dq (ai 0) (qK (eJ T.c_WEAKEST rfl) (eJ T.c_WEAKEST rfl) (ai 1))))) (aE (dS (jC (ai 0) T.Guest.cl u hr qS (qI aK))) (aN (bp (ai 4))))) bW) (aN (jE T.x_BadForm hr rfl (qI aK))))))))))),?_⟩;walk_at "r";unfold RR.eF at q;obtain⟨R,rv,h1⟩:=hg.meth;refine⟨R,_,h1,rfl,⟨g,J,n,rfl,hg,?_⟩⟩;by_cases e0:aA J n=""
 ·rw[UL e0]at q ⊢;exact q
 rw[UK e0]at q ⊢;intro H1 s1 g1;generalize hx:aA J n=x at*;have a0:x.length<=6000:=by rw[<-hx];exact hg.wl
 have leaf:∀{f:Fm}{l:Lb}{H2:Hp},ao H1 H2->gq f l 0->iA K ⟨aa,C_tb,LP,LQ⟩ ae Ct g J H Q E (.ok (.mk f l []) (n+1))->aS H2 (.lst []) λ p c=>∀x b:V0,c x=none->c b=none->¬b=x->kD Ct K [.ref x,.str f.s,eV l,.ref p] (ar (ar c b (.own x)) x (.ins Ct b [])) (λ v g=>v=.non/\Q (.ref x) g) E0:=λ{f l H2} S ho q=>aS.of λ p3 H3 h3 s3 e3=>kY (f:=f) (l:=l) (az.of e3) .nil ho (dj _) λ y O ω U t4=>q _ O (bG s1 (SY.of (S.trans (s3.trans U)))) (g1.same (S.trans (s3.trans U))) t4;refine⟨x,rfl,a0,λ H2 S=>⟨_,rfl,ax (λ e=>?_) λ e=>?_⟩⟩
 ·rw[UL e]at q;obtain⟨t1,t2⟩:=MP e;exact⟨x,rfl,_,t1,t2,leaf (f:=.number) (l:=.int (sZ x)) S rfl q⟩
 rw[UK e]at q;refine⟨.inr x,rfl,?_⟩;by_cases ey:x="yes"
 ·rw[UL ey]at q;subst ey;exact ax (λ ω=>⟨.inr _,rfl,_,(rfl:cD tF (Sum.inr ("yes":U1))=some (.bl true)),leaf (f:=.truth) (l:=.bl true) S rfl q⟩) λ z=>UM qP z
 rw[UK ey]at q;by_cases en:x="no"
 ·rw[UL en]at q;subst en;exact ax (λ ω=>⟨.inr _,rfl,_,(rfl:cD tF (Sum.inr ("no":U1))=some (.bl false)),leaf (f:=.truth) (l:=.bl false) S rfl q⟩) λ z=>UM qP z
 rw[UK en]at q;have vt:cD tF (Sum.inr x)=none:=by
  unfold tF;rw[kC (λ z=>ey (Sum.inr.inj z).symm),kC (λ z=>en (Sum.inr.inj z).symm)];rfl
 rw[vt];refine ax (λ z=>by cases z) λ ω=>⟨x,rfl,a0,λ H3 s3=>⟨_,rfl,ax (λ e=>?_) λ e=>?_⟩⟩
 ·rw[UL e]at q;exact leaf (f:=.name) (l:=.str x) (S.trans s3) rfl q
 rw[UK e]at q;have Z:=S.trans s3;refine⟨rfl,ax (λ e=>?_) λ e=>?_⟩
 ·rw[UL (V.str.inj e)]at q;exact leaf (f:=.self) (l:=.non) Z rfl q
 rw[UK (λ z=>e (by rw[z]))]at q;have g3:=g1.same Z;have S3:=bG s1 (SY.of Z);obtain⟨R,rv,h3⟩:=g3.meth;have X:∀{f:Fm}{y:U1}{m:Nat}{O:Hp},(∀n,gq f (.str y) n)->SY g H O->b_ K ⟨aa,C_tb,LP,LQ⟩ O g J m->iA K ⟨aa,C_tb,LP,LQ⟩ ae Ct g J H Q E ((b9 J (rd J k) (deep+1) m).bind λ ps j=>.ok (.mk f (.str y) ps) j)->vz ⟨aa,C_tb,LP,LQ⟩ ae Ct K k [V.ref g,V.int (deep+1)] O (λ b0 e=>∀(M b:V0),e M=none->e b=none->¬b=M->kD Ct K [V.ref M,V.str f.s,V.str y,b0] (ar (ar e b (HO.own M)) M (HO.ins Ct b [])) (λ v g=>v=V.non/\Q (V.ref M) g) E0) E:=λ{f y m O} ho Y N q=>by
  refine⟨g,J,m,deep+1,rfl,N,To.mono (To.bind q) (λ ts m5 et q l5 us H5 s5 h5 g5 e5 o5=>?_) λ b=>b.same Y⟩;obtain⟨ω,ω,ω,r4⟩:=RR.cz (RR.dX J k) _ _ _ _ et;exact kY (f:=f) (l:=.str y) (az.of e5) o5 (ho _) (bR r4 qS) λ y H7 ω s7 t7=>q _ H7 (bG Y (bG s5 (SY.of s7))) (g5.same s7) t7
 refine⟨rfl,ax (λ e=>?_) λ e=>?_⟩
 ·rw[UL (V.str.inj e)]at q;exact⟨R,_,h3,rfl,⟨g,J,n+1,rfl,g3,To.mono (To.bind q) (λ y m ω q O U N=>X (f:=.new) (λ ω=>trivial) (bG S3 U) N q) λ b=>b.same S3⟩⟩
 rw[UK (λ z=>e (by rw[z]))]at q;refine⟨rfl,ax (λ e=>?_) λ e=>?_⟩
 ·rw[UL (V.str.inj e)]at q;refine⟨R,_,h3,rfl,⟨g,J,n+1,_,rfl,g3,qP,qP,To.mono (To.bind q) (λ ω m ω q O U N=>?_) λ b=>b.same S3⟩⟩;obtain⟨R,rv,h4⟩:=N.meth;have Y:=bG S3 U;exact⟨R,_,h4,rfl,⟨g,J,m,rfl,N,To.mono (To.bind q) (λ y m ω q H5 s5 g5=>X (f:=.elder) (λ ω=>trivial) (bG Y s5) g5 q) λ b=>b.same Y⟩⟩
 rw[UK (λ z=>e (by rw[z]))]at q;refine⟨rfl,ax (λ e=>?_) λ e=>?_⟩
 ·rw[UL (V.str.inj e)]at q;refine⟨g,J,n+1,1,1,deep,rfl,g3,aQ _,aQ _,To.mono (To.bind q) (λ t m ω q v O U N o4=>?_) λ b=>b.same S3⟩;obtain⟨R,rv,h4⟩:=N.meth;have Y:=bG S3 U;exact⟨R,_,h4,rfl,⟨g,J,m,_,rfl,N,qP,qP,To.mono (To.bind q) (λ ω m ω q H5 s5 g5=>q _ H5 (bG Y s5) g5 (o4.kq (N.kq s5))) λ b=>b.same Y⟩⟩
 rw[UK (λ z=>e (by rw[z]))]at q;exact λ x hx=>(BF.same q S3).new hx
def Cs(cs:List (V0×(M1->Prop)))(H:Hp):Prop:=∀p∈cs,H p.1=some (.ext p.2)
theorem Cs.sy{a:List (V0×(M1->Prop))}{i:V0}{fs:List (U1×V)}(h:Cs a H)(s:SY g H H')(e:H g=some (.ins C i fs)):Cs a H':=λ p c=>s.k _ _ (λ z=>by have:=h p c;rw[z,e]at this;cases this) (λ ω z=>by cases z) (h p c)
variable{xs:List V}
theorem Cs.sxl{a:List (V0×(M1->Prop))}{l:V0}(h:Cs a H)(s:SX l H H')(e:H l=some (.lst xs)):Cs a H':=λ p c=>s _ _ (λ z=>by have:=h p c;rw[z,e]at this;cases this) (h p c)
theorem Cs.same{a:List (V0×(M1->Prop))}(h:Cs a H)(s:ao H H'):Cs a H':=λ p c=>s _ _ (h p c)
def FB(K:X0)(cg:GC)(cb g:V0)(ws:List U1)(cs:List (V0×(M1->Prop))){α:Type}(item:Nat->aZ α)(R:Hp->V->α->Prop):Sp:=λ vs H Q E=>∃n,vs=[.ref g]/\b_ K cg H g ws n/\Cs cs H/\To (item n) (λ x m=>∀v a,SY g H a->b_ K cg a g ws m->R a v x->Q v a) (BF cb g H E)
def zt(P:Program)(w:V1)(mg:U1->Option Y1)(base:M1)(cg:GC)(cb:V0)(K:X0)(j:Nat):Sp:=λ vs H Q E=>∃(e:Type)(g f:V0)(c:List U1)(n:Nat)(item:Nat->aZ e)(R:Hp->V->e->Prop)(i:List (V0×(M1->Prop))),vs=[.ref g,.ref f]/\b_ K cg H g c n/\Cs i H/\cT P w K mg base j f (FB K cg cb g c i item R)/\(∀H a v x,Kq H a->R H v x->R a v x)/\(∀n x m,item n=.ok x m->n<m)/\To (dh c item n) (λ o m=>∀l us a,SY g H a->H l=none->b_ K cg a g c m->a l=some (.lst us)->A2 (R a) us o->Q (.ref l) a) (BF cb g H E)
def DY(K:X0)(cg:GC)(cb g f l:V0)(ws:List U1)(cs:List (V0×(M1->Prop))){α:Type}(item:Nat->aZ α)(R:Hp->V->α->Prop)(H:Hp)(Q:VK)(E:XK)(j:Nat)(σ:St)(H':Hp):Prop:=∃us a m,σ=[some (V.ref g),some (V.ref f),some (V.ref l)]/\SY g H H'/\b_ K cg H' g ws m/\Cs cs H'/\H' l=some (.lst us)/\A2 (R H') us a/\a.length<=m/\To (cf ws item j a m) (λ a m=>∀l us H',SY g H H'->H l=none->b_ K cg H' g ws m->H' l=some (.lst us)->A2 (R H') us a->Q (.ref l) H') (BF cb g H E)
theorem b_.lst{K:X0}{i:GC}{g l:V0}{H H':Hp}{ws:List U1}{n:Nat}{xs:List V}(h:b_ K i H g ws n)(e:H l=some (.lst xs))(s:SX l H H'):b_ K i H' g ws n:=by
 obtain⟨t,⟨j,m,a,b⟩,c,d,f⟩:=h;refine⟨?_,⟨j,m,s _ _ (λ z=>by rw[z,e]at a;cases a) a,ay.kt b (Kq.sxl s e).kt⟩,c,d,f⟩;rcases t with t|⟨a,b,c,t,k,o,q⟩
 ·exact .inl (s _ _ (λ z=>by rw[z,e]at t;cases t) t)
 ·exact .inr ⟨a,b,c,s _ _ (λ z=>by rw[z,e]at t;cases t) t,k,o,s _ _ (λ z=>by rw[z,e]at q;cases q) q⟩
theorem Gh(T:∅){j:Nat}(hj:3<=j)(o:bK P w K mg base 3 aa "need" ["self","word"] (mC ⟨aa,C_tb,LP,LQ⟩ ae K))(c:aX P w K mg base 2 aa "takes" ["self","word"] (nI ⟨aa,C_tb,LP,LQ⟩ K)):aT P w K mg base (j+1) "read_list" ["guest","read_item"] (zt P w mg base ⟨aa,C_tb,LP,LQ⟩ ae K j):=by
 walk_at "x QH Jm 2"
 obtain⟨α,g,f,C,n,item,R,cs,rfl,hg,a0,hi,Y,M,q⟩:=h;refine⟨_,(aE (dS (jC (ai 0) T.Guest.cl o hr qS (qI aK))) (aE (qG 2 Jm.nd (cJ ix)) (aE (bP (fq (jh (ai 0) T.Guest.cl c hr qS (qI aK))) (aN (bp (ai 2))) bW) (aE (dS (gM i4 jL jK jG (ai 2) (qI (Bw hr (ai 1) (qI (ai 0)))))) (aE (nF (nK rfl rfl) (fq (jh (ai 0) T.Guest.cl c hr qS (qI aK))) (aN (dS (gM i4 jL jK jG (ai 2) (qI (Bw hr (ai 1) (qI (ai 0)))))))) (aE (dS (jC (ai 0) T.Guest.cl o hr qS (qI aK))) (aN (bp (ai 2))))))))),?_⟩;walk_at "r";unfold RR.dh at q;obtain⟨G,rv,h0⟩:=hg.meth;refine⟨G,_,h0,rfl,⟨g,C,n,_,rfl,hg,qP,qP,To.mono (To.bind q) (λ ω m e1 q H1 s1 g1=>aS.of λ u H2 h2 s2 N=>?_) λ b=>b⟩⟩;have g2:=g1.same s2;have O:=(a0.sy s1 h0).same s2;obtain⟨G,rv,D⟩:=g2.meth;have S2:=bG s1 (SY.of s2);have I:u≠g:=λ z=>by rw[z,D]at N;cases N
 have free:H u=none:=s1.free I h2;refine⟨G,_,D,rfl,⟨g,C,m,_,rfl,g2,qP,ax (λ e=>?_) λ e=>?_⟩⟩
 ·rw[UL e]at q;exact λ J L g3=>⟨_,rfl,ax (λ ω=>q _ _ J (bG S2 L) free g3 (L.lst I N) .nil) λ z=>UM rfl z⟩
 rw[UK e]at q;refine⟨_,rfl,ax (λ z=>by cases z) λ ω=>?_⟩;refine⟨.inl ⟨rfl,_,az.of N⟩,_,hi,m,rfl,g2,O,To.mono (To.bind q) (λ a m3 ea q S J L g3 r3=>?_) λ b=>b.same S2⟩;have S3:=bG S2 L;have Z:=L.lst I N;have v:SX u J (ar J u (.lst ([]++[S]))):=SX.put _;have e4:ar J u (.lst ([]++[S])) u=some (.lst ([]++[S])):=bu;refine⟨_,Z,qQ,?_⟩;generalize ar J u (.lst ([]++[S]))=H4 at*;have l1:1<=m3:=pR (dj _) (M _ _ _ ea);refine⟨DY K ⟨aa,C_tb,LP,LQ⟩ ae g f u C cs item R H Q E,⟨_,[S],[a],m3,rfl,?_,g3.lst Z v,(O.sy L D).sxl v Z,e4,.cons (Y _ _ _ _ (Kq.sxl v Z) r3) .nil,l1,q⟩,?_⟩
 ·exact S3.side free v
 rintro i σ H5 ⟨us,xs,m5,rfl,s5,U,X,e5,r5,l5,q⟩;cases i with
 |zero=>exact q.elim
 |succ i=>
 obtain⟨G,rv,h5⟩:=U.meth;walk_at "r";unfold RR.cf at q;refine⟨G,_,h5,rfl,⟨g,C,m5,_,rfl,U,qP,ax (λ e=>?_) λ e=>?_⟩⟩
 ·rw[UL e]at q;refine λ H6 y g6=>⟨_,rfl,ax (λ ω=>⟨DY K ⟨aa,C_tb,LP,LQ⟩ ae g f u C cs item R H Q E i,λ ω ω z=>⟨i,iH _,z⟩,.inl ⟨rfl,_,az.of (y.lst I e5)⟩,_,hi,m5+1,rfl,g6,X.sy y h5,To.mono (To.bind q) (λ b m7 eb q v7 H7 s7 g7 r7=>?_) λ b=>b.same (bG s5 y)⟩) λ z=>UM rfl z⟩;have S7:=bG y s7;have e7:=S7.lst I e5;have x:SX u H7 (ar H7 u (.lst (us++[v7]))):=SX.put _;have e8:ar H7 u (.lst (us++[v7])) u=some (.lst (us++[v7])):=bu;have lu:=r5.len;have l7:=M _ _ _ eb;have b0:=bR g7.le g7.len;refine⟨_,e7,qR,?_⟩;generalize ar H7 u (.lst (us++[v7]))=H8 at*;have k8:=Kq.sxl x e7;exact⟨_,xs++[b],m7,rfl,(bG s5 S7).side free x,g7.lst e7 x,(X.sy S7 h5).sxl x e7,e8,A2.snoc (r5.mono λ ω ω r=>Y _ _ _ _ ((U.kq S7).trans k8) r) (Y _ _ _ _ k8 r7),by rw[bX];show xs.length+1<=m7;lia,q⟩
 ·rw[UK e]at q;exact⟨_,rfl,ax (λ z=>by cases z) λ ω=>⟨G,_,h5,rfl,⟨g,C,m5,_,rfl,U,qP,qP,To.mono (To.bind q) (λ ω m6 ω q H6 y g6=>q _ _ H6 (bG s5 y) free g6 (y.lst I e5) (r5.mono λ ω ω r=>Y _ _ _ _ (U.kq y) r)) λ b=>b.same s5⟩⟩⟩
theorem JQ{K:X0}:∀{us:List V}{ts:List Tm},A2 (λ v t=>TO K C H v t) us ts->cU K C H us ts:=λ h=>by
 induction h with
 |nil=>exact .nil
 |cons a _ ih=>exact .cons a ih
theorem b_.sya{K:X0}{i:GC}{ws:List U1}(h:b_ K i H g ws n)(s:∀g,SY g H H')(t:iz i H'):b_ K i H' g ws n:=by
 obtain⟨ω,⟨j,m,a,b⟩,c,d,e⟩:=h;have k:∀{b:V0}{o:HO},(∀ps,o≠.tbl ps)->H b=some o->H' b=some o:=λ{b o} n e=>(s (b+1)).k _ _ (dY (iH _)) n e;exact⟨t,⟨j,m,k (λ ω z=>by cases z) a,ay.kt b ⟨λ b u e=>k (λ ω z=>by cases z) e,λ b o u e=>k (λ ω z=>by cases z) e⟩⟩,c,d,e⟩
theorem M3(T:∅){k:Nat}{c:V0}(hF:xT K mg "read_terms" la c)(hC:dD K c C_tb)(M:LP=⟨261,29,261,79⟩)(N:LQ=(("read_terms":U1)++".<locals>.")++"<lambda>")(J:K.In base)(hB:iW mg base)(o:∀j,K.In j->iW mg j->aT P w K mg j (8*k+8) "read_term" ["guest","least","lowest","deep"] (my ⟨aa,C_tb,LP,LQ⟩ ae Ct K k))(C:∀j,K.In j->iW mg j->aT P w K mg j (8*k+10) "read_list" ["guest","read_item"] (zt P w mg j ⟨aa,C_tb,LP,LQ⟩ ae K (8*k+9)))(D:aT P w K mg base 1 "need_few" ["found","most"] (tD ae K)):aT P w K mg base (8*k+11) "read_terms" ["guest","deep"] (vz ⟨aa,C_tb,LP,LQ⟩ ae Ct K k):=by
 refine aT.ofC hF DT (λ ω ω ω ω ω ω us hl=>el2 us hl λ ω ω=>rfl) (λ vs H Q E h=>?_) (λ f A outer s H vs Q E hr h=>?_)
 ·obtain⟨g,I,n,deep,rfl,ω⟩:=h;rfl
 obtain⟨g,I,n,deep,rfl,L,q⟩:=h;refine⟨_,(aE (qG 2 DT.nd (Lg (i:=1) (ca:=s.heap.objs.size+1) C J hr qS rfl (ai 0) hB rfl (hC.hd J) rfl rfl rfl rfl rfl rfl rfl rfl)) (aE (dS (dH D hr qS rfl (qJ (ai 2) (eJ T.c_MOST_TERMS rfl)))) (aN (bp (ai 2))))),?_⟩;walk_at "r";subst M N;refine⟨L.tb,λ U ca X a0 pm u j H2 sy O R md ba Y G ru=>?_⟩;have g2:=L.sya sy O;have it:cT P w K mg j (8*k+9) U (FB K ⟨aa,C_tb,⟨261,29,261,79⟩,(("read_terms":U1)++".<locals>.")++"<lambda>"⟩ ae g I [(X,λ h=>∃Z vs t,h.get? X=some Z/\Z.data=.fields vs/\vs[1]?=some (.str ((("read_terms":U1)++".<locals>.")++"<lambda>") t))] (λ m=>(rd I k).T 1 1 deep m) λ H v t=>TO K Ct H v t):=by
  refine⟨_,["one"],JW (y:="one") (z:="deep") (v:=.int deep) (k:=8*k+8) ?_ Y G ru (λ vs H Q E h=>?_) (λ vs H Q E h=>?_) (λ A outer s H v0 Q E hr h=>?_),?_,⟨_,_,_,_,Y⟩⟩
  ·exact⟨rfl,qP,rfl,rfl,λ x hx=>(show ∀p∈_,p.2=RU->p.1=("deep":U1)by decide+kernel) _ (qp hx) rfl,rfl,rfl⟩
  ·obtain⟨n,ω,ω,S,ω⟩:=h;exact⟨_,S _ (dN.mpr rfl),λ h x=>x⟩
  ·obtain⟨n,rfl,ω⟩:=h;rfl
  ·obtain⟨n,e,L,ω,q⟩:=h;refine⟨_,dH (o j md.kin ba) hr qR rfl (dq (ai 0) (qK (eJ T.c_WEAKEST rfl) (eJ T.c_WEAKEST rfl) (ai 1))),?_⟩;walk_at "r";exact⟨g,I,n,1,1,deep,by rw[List.head_eq_of_cons_eq e];rfl,L,aQ _,aQ _,q⟩
  ·intro s us _ hl;match us,hl with
   |[a],_=>exact .of_eq rfl
 unfold RR.b9 at q;refine⟨Tm,g,U,I,n,_,_,_,rfl,g2,λ p hp=>?_,it,λ H H' v x k h=>h.kq k,λ n x m e=>?_,To.mono (To.bind q) (λ ts m et q l us H3 s3 h3 g3 e3 o3=>?_) λ b=>b.same (sy g)⟩
 ·rw[dN.mp hp];exact R
 ·have:=((RR.dX I k).T 1 1 deep n (aQ _) (aQ _) x m e).2.2;obtain⟨f,l,ps⟩:=x;rw[RR.pJ]at this;lia
 ·have lu:=o3.len;refine⟨l,us,8,rfl,e3,qQ,ax (λ e=>?_) λ e=>?_⟩
  ·rw[UL (by rw[<-lu];exact e)]at q;exact λ H4 s4=>q H4 (bG (bG (sy g) s3) (SY.of s4))
  ·rw[UK (by rw[<-lu];exact e)]at q;exact q _ _ H3 (bG (sy g) s3) ((sy (l+1)).free (dY (iH _)) h3) g3 e3 (JQ o3)
theorem Ga(T:∅){c:V0}(M:xT K mg "read_terms" la c)(N:dD K c C_tb)(m:LP=⟨261,29,261,79⟩)(o:LQ=(("read_terms":U1)++".<locals>.")++"<lambda>")(e:∀base,bJ P w K mg base 2 "is_number" ["word"] zH)(a:∀base,bJ P w K mg base 2 "is_name" ["word"] vv):∀k base,K.In base->iW mg base->aT P w K mg base (8*k+8) "read_term" ["guest","least","lowest","deep"] (my ⟨aa,C_tb,LP,LQ⟩ ae Ct K k)/\aT P w K mg base (8*k+7) "read_part" ["guest","lowest","deep"] (vc ⟨aa,C_tb,LP,LQ⟩ ae Ct K k)
 |0,base,_,_=>by
  constructor
  ·refine aT.of T.Jl qq (λ ω ω ω ω ω ω us hl=>el4 us hl λ ω ω ω ω=>rfl) (λ vs H Q E h=>?_) (λ f cdv A outer s H vs Q E hr h=>?_)
   ·obtain⟨g,C,n,i,low,deep,rfl,ω⟩:=h;rfl
   ·obtain⟨g,C,n,i,low,deep,rfl,ω,ω,ω,q⟩:=h;exact q.elim
  ·refine aT.of T.Jk HE (λ ω ω ω ω ω ω us hl=>el3 us hl λ ω ω ω=>rfl) (λ vs H Q E h=>?_) (λ f cdv A outer s H vs Q E hr h=>?_)
   ·obtain⟨g,C,n,low,deep,rfl,ω⟩:=h;rfl
   ·obtain⟨g,C,n,low,deep,rfl,ω,ω,q⟩:=h;exact q.elim
 |k+1,base,D,hB=>by
  have G:=Ga T M N m o e a k;have j:=LN (base:=base) T (Mz T) (BR T) (BP T) (Gn T);have u:=vA (base:=base) (C_tb:=C_tb) (LP:=LP) (LQ:=LQ) T;have U:=N3 (base:=base) (C_tb:=C_tb) (LP:=LP) (LQ:=LQ) T;have I:=BH T u;have J:=vw T u;have z:=zp T J;have L:=Ca T u I (a base);have v:=(G base D hB).1;have x:=M3 (P:=P) (w:=w) T M N m o D hB (λ b O R=>(G b O R).1) (λ b O R=>Gh (base:=b) T qR (zp T (vw T (vA T))) (vw T (vA T))) (Fz T);have X:=Kz T I z L (e base) (a base) x v j;have S:=Hm T J u L x X j;have Y:=KR T U z S v (Oi T) j;have y:=Mu T J (G base D hB).2 (Kn T z v j) (K0 T L z v j) Y S j;exact⟨Md T u I y v j,y⟩
def pD(p:U1×U1):PyData:=.tuple [.str p.1,.str p.2]
inductive Gu(K:X0)(vs:List V)(H:Hp)(Q:VK):Prop
 |mk(pa:V0)(xs:List V)(ps:List (U1×U1))(a1:vs=[.ref pa])(a2:az K H pa xs)(a3:bM K H xs (ps.map pD))(a4:ps.length<=20000)(a5:∀r H',ao H H'->RT K H' (.ref r) (ic ps)->Q (.ref r) H'):Gu K vs H Q
def zr(K:X0):Sp:=λ vs H Q ω=>Gu K vs H Q
inductive GL(c:CS)(K:X0)(vs:List V)(H:Hp)(Q:VK):Prop
 |mk(x dx pa:V0)(xs:List V)(bv:V)(d:Wd)(a1:vs=[.ref x,.str d.name,.ref pa,.str d.kind,bv])(a2:H x=some (.ins c.word dx []))(a3:az K H pa xs)(a4:bM K H xs (d.params.map pD))(a5:d.params.length<=20000)(a6:TO K c.term H bv d.body)(a7:∀H',SX x H H'->eP K c H' (.ref x) d->Q .non H'):GL c K vs H Q
def zA(c:CS)(K:X0):Sp:=λ vs H Q ω=>GL c K vs H Q
inductive Gq(c:CS)(K:X0)(vs:List V)(H:Hp)(Q:VK):Prop
 |mk(x dx wl fa:V0)(fx:List V)(ws:List V)(d:Hs)(a1:vs=[.ref x,.str d.name,oS d.elder,.ref fa,.ref wl])(a2:H x=some (.ins c.house dx []))(a3:az K H fa fx)(a4:bM K H fx (d.fields.map pD))(a5:d.fields.length<=20000)(a6:az K H wl ws)(a7:A2 (eP K c H) ws d.words)(a8:∀H',SX x H H'->gC K c H' (.ref x) d->Q .non H'):Gq c K vs H Q
def zq(c:CS)(K:X0):Sp:=λ vs H Q ω=>Gq c K vs H Q
inductive BJ(c:CS)(K:X0)(vs:List V)(H:Hp)(Q:VK):Prop
 |mk(x dx hl:V0)(mv:V)(hs:List V)(d:Pg)(a1:vs=[.ref x,.ref hl,mv])(a2:H x=some (.ins c.program dx []))(a3:az K H hl hs)(a4:A2 (gC K c H) hs d.houses)(a5:eP K c H mv d.main)(a6:∀H',SX x H H'->kH K c H' (.ref x) d->Q .non H'):BJ c K vs H Q
def zC(c:CS)(K:X0):Sp:=λ vs H Q ω=>BJ c K vs H Q
theorem SX.ktf{x c:V0}{fs:List (U1×V)}(s:SX x H H')(a:H x=some (.ins C c fs)):Kt H H':=
 ⟨λ b e h=>s b _ (λ z=>by rw[z,a]at h;cases h) h,λ b o e h=>s b _ (λ z=>by rw[z,a]at h;cases h) h⟩
theorem eP.kp{K:X0}{c:CS}{v:V}{d:Wd}(h:eP K c H v d)(k:Kp H H'):eP K c H' v d:=by
 cases h with
 |mk a b t=>exact .mk (k.i _ _ _ _ _ a) (b.kp k) (t.kp k)
theorem gC.kp{K:X0}{c:CS}{v:V}{d:Hs}(h:gC K c H v d)(k:Kp H H'):gC K c H' v d:=by
 cases h with
 |mk a b q t=>exact .mk (k.i _ _ _ _ _ a) (b.kp k) (ay.kp q k) (t.mono λ ω ω r=>eP.kp r k)
theorem yR{α:Type}{K:X0}(f:α->PyData):∀{ts:List α}{vs:List V},vs.length=ts.length->(∀(j:Nat) v,vs[j]?=some v->∃t,ts[j]?=some t/\RT K H v (f t))->bM K H vs (ts.map f):=λ{ts vs} hl h=>by
 have z:A2 (λ v t=>RT K H v (f t)) vs ts:=A2.of hl h;clear hl h;induction z with
 |nil=>exact .nil
 |cons a _ ih=>exact .cons a ih
theorem LZ(T:∅):bJ P w K mg base 1 "pairs_of" ["pairs"] (zr K):=by
 walk_at "h QD Oy 1"
 obtain⟨G,c,ps,rfl,n,o,hl,q⟩:=h;have I:c.length=ps.length:=by rw[o.length,bB]
 refine⟨_,(aN (bp (fg ji rfl T.iB iy (qI (eX rfl (aD.plain (N:=["pair"]) rfl qP qP qP) (jR (ai 0)) (λ C J s H=>(qH 0 (show(["pair"]:List U1).Nodup by decide+kernel))) (λ C J s H=>(fg (r:=Es K) ji rfl T.iB iy (qI (ai 0))))))))),?_⟩;walk_at "r";refine⟨⟨_,n⟩,λ D L=>?_⟩;refine k_ (ys:=c) none [] (λ j v H=>∃p,ps[j]?=some p/\RT K H v (.tuple [.str p.1,.str p.2])) (λ j v u Y ⟨t,a,b⟩ s=>⟨t,a,b.kp (mX s)⟩) rfl L (by rw[RB];lia) (λ u s=>az.same n s) (λ i y M u Z s k=>?_) (λ vs Hc Sc O R S=>?_)
 ·walk_at "r";obtain⟨d,hd,e⟩:=o.at M;rw[eK]at hd;obtain⟨p,g,rfl⟩:=iJ.mp hd;obtain⟨a,U,rfl,x,m⟩:=e.tup_inv;exact⟨a,rfl,U,.inr ⟨ay.same x s,k _ _ (ao.refl _) ⟨p,g,.tup (ay.same x s) (m.same s)⟩⟩⟩
 refine⟨D,rfl,vs,.inl ⟨az.of O,λ t5 X=>?_⟩⟩;have z:=dR X (.tup vs);refine q _ _ (Sc.trans z) (.tup (ay.of bu) ?_);refine bM.same ?_ z;exact yR pD (R.trans I) S
theorem LO(T:∅)(a:bJ P w K mg base 1 "pairs_of" ["pairs"] (zr K)):aX P w K mg base 2 Cw "__init__" ["self","name","params","kind","body"] (zA (CS.mk Ct Cw Ch Cp aa aa aa aa B) K):=by
 walk_at "m m_Word___init__ OT 5"
 obtain⟨x,c,m,n,o,d,rfl,e,C,g,hl,D,q⟩:=h;refine⟨_,(aE (gW (ai 0) (ai 1) rfl) (aE (gW (ai 0) (qF a hr (qI (ai 2))) rfl) (aE (gW (ai 0) (ai 3) rfl) (aN (gW (ai 0) (ai 4) rfl))))),?_⟩;walk_at "s 4 z";refine⟨Cw,c,_,e,T.Word.cl,T.n_Word_name,gj rfl,?_⟩;walk_at "n z1";have i:SX x H (ar H x (.ins Cw c (aq "name" (.str d.name) []))):=SX.put _;have G:ar H x (.ins Cw c (aq "name" (.str d.name) [])) x=some (.ins Cw c (aq "name" (.str d.name) [])):=bu;generalize ar H x (.ins Cw c (aq "name" (.str d.name) []))=J at*;refine⟨m,n,d.params,rfl,i.sqL e C,g.kp (i.kp e),hl,λ r I u j=>?_⟩;have v:=u _ _ G;refine⟨Cw,c,_,v,T.Word.cl,T.n_Word_params,gj rfl,?_⟩;walk_at "n z2";refine⟨Cw,c,_,bu,T.Word.cl,T.n_Word_kind,gj rfl,?_⟩;walk_at "n z3";refine⟨Cw,c,_,bu,T.Word.cl,T.n_Word_body,gj rfl,?_⟩;have y:SX x I _:=(SX.put (.ins Cw c (aq "params" (.ref r) (aq "name" (.str d.name) [])))).trans ((SX.put (.ins Cw c (aq "kind" (.str d.kind) (aq "params" (.ref r) (aq "name" (.str d.name) []))))).trans (SX.put (.ins Cw c (aq "body" o (aq "kind" (.str d.kind) (aq "params" (.ref r) (aq "name" (.str d.name) [])))))));have z:=i.trans ((SX.of u).trans y);exact q _ z (.mk (bu) (j.kt (SX.ktf y v)) (D.kp (z.kp e)))
theorem MT(T:∅)(a:bJ P w K mg base 1 "pairs_of" ["pairs"] (zr K)):aX P w K mg base 2 Ch "__init__" ["self","name","elder","own_fields","own_words"] (zq (CS.mk Ct Cw Ch Cp aa aa aa aa B) K):=by
 walk_at "m m_House___init__ OP 5"
 obtain⟨x,c,wl,v,y,m,d,rfl,e,O,n,hl,R,S,q⟩:=h;refine⟨_,(aE (gW (ai 0) (ai 1) rfl) (aE (gW (ai 0) (ai 2) rfl) (aE (gW (ai 0) (qF a hr (qI (ai 3))) rfl) (aN (gW (ai 0) (fg ji rfl T.iB iy (qI (ai 4))) rfl))))),?_⟩;walk_at "s 4 z";refine⟨Ch,c,_,e,T.House.cl,T.n_House_name,gj rfl,?_⟩;walk_at "n z1";refine⟨Ch,c,_,bu,T.House.cl,T.n_House_elder,gj rfl,?_⟩;walk_at "n z2";have o:SX x H (ar (ar H x (.ins Ch c (aq "name" (.str d.name) []))) x (.ins Ch c (aq "elder" (oS d.elder) (aq "name" (.str d.name) [])))):=(SX.put _).trans (SX.put _);have U:ar (ar H x (.ins Ch c (aq "name" (.str d.name) []))) x (.ins Ch c (aq "elder" (oS d.elder) (aq "name" (.str d.name) []))) x=some (.ins Ch c (aq "elder" (oS d.elder) (aq "name" (.str d.name) []))):=bu;generalize ar (ar H x (.ins Ch c (aq "name" (.str d.name) []))) x (.ins Ch c (aq "elder" (oS d.elder) (aq "name" (.str d.name) [])))=Z at*;refine⟨v,y,d.fields,rfl,o.sqL e O,n.kp (o.kp e),hl,λ r j C u=>?_⟩;have D:=C _ _ U;refine⟨Ch,c,_,D,T.House.cl,T.n_House_own_fields,gj rfl,?_⟩;walk_at "n z3";have G:SX x j (ar j x (.ins Ch c (aq "own_fields" (.ref r) (aq "elder" (oS d.elder) (aq "name" (.str d.name) []))))):=SX.put _;have I:ar j x (.ins Ch c (aq "own_fields" (.ref r) (aq "elder" (oS d.elder) (aq "name" (.str d.name) [])))) x=some (.ins Ch c (aq "own_fields" (.ref r) (aq "elder" (oS d.elder) (aq "name" (.str d.name) [])))):=bu;generalize ar j x (.ins Ch c (aq "own_fields" (.ref r) (aq "elder" (oS d.elder) (aq "name" (.str d.name) []))))=H3 at*;have g:=o.trans ((SX.of C).trans G);refine⟨m,.inl ⟨g.sqL e R,λ J i=>?_⟩⟩;have L:=dR i (.tup m);have X:=L _ _ I;have Y:J≠x:=λ z=>bY I i z.symm;refine⟨Ch,c,_,X,T.House.cl,T.n_House_own_words,gj rfl,?_⟩;have M:=(SX.of (x:=x) L).trans (SX.put (.ins Ch c (aq "own_words" (.ref J) (aq "own_fields" (.ref r) (aq "elder" (oS d.elder) (aq "name" (.str d.name) []))))));have N:=g.trans M;refine q _ N (.mk bu (u.kt (SX.ktf (G.trans M) D)) (ay.of (by rw[aU Y];exact bu)) (S.mono λ ω ω r=>eP.kp r (N.kp e)))
theorem MQ(T:∅):aX P w K mg base 1 Cp "__init__" ["self","all_houses","main"] (zC (CS.mk Ct Cw Ch Cp aa aa aa aa B) K):=by
 walk_at "m m_Program___init__ OW 3"
 obtain⟨x,a,hl,m,g,d,rfl,e,u,v,y,q⟩:=h;refine⟨_,(aE (gW (ai 0) (fg ji rfl T.iB iy (qI (ai 1))) rfl) (aN (gW (ai 0) (ai 2) rfl))),?_⟩;walk_at "s 2 z";refine⟨g,.inl ⟨u,λ i c=>?_⟩⟩;have n:=dR c (.tup g);have o:i≠x:=λ z=>bY e c z.symm;refine⟨Cp,a,_,n _ _ e,T.Program.cl,T.n_Program_all_houses,gj rfl,?_⟩;walk_at "n z1";refine⟨Cp,a,_,bu,T.Program.cl,T.n_Program_main,gj rfl,?_⟩;have j:=(SX.of (x:=x) n).trans ((SX.put (.ins Cp a (aq "all_houses" (.ref i) []))).trans (SX.put (.ins Cp a (aq "main" m (aq "all_houses" (.ref i) [])))));exact q _ j (.mk bu (ay.of (by rw[aU o,aU o];exact bu)) (v.mono λ ω ω r=>gC.kp r (j.kp e)) (eP.kp y (j.kp e)))
open RR (c8 bQ b8 j8 dz cx)
def IV(K:X0)(c:CS)(cg:GC)(cb g:V0)(ws:List U1)(H:Hp)(Q:VK)(E:XK)(r:aZ Wd):Prop:=To r (λ d m=>∀v a,SY g H a->b_ K cg a g ws m->eP K c a v d->Q v a) (BF cb g H E)
def zi(c:CS)(cg:GC)(cb:V0)(K:X0)(k:Nat):Sp:=λ vs H Q E=>∃(g:V0)(a:List U1)(n:Nat)(name:U1),vs=[.ref g,.str name]/\b_ K cg H g a n/\IV K c cg cb g a H Q E (c8 a k name n)
theorem EZ{K:X0}:∀{us:List V}{ts:List (U1×U1)},A2 (λ v t=>RT K H v (pD t)) us ts->bM K H us (ts.map pD):=λ h=>by
 induction h with
 |nil=>exact .nil
 |cons a _ ih=>exact .cons a ih
theorem Ls{K:X0}{j:CS}{c:Hp}{u:V0}{y:V}{d:Wd}(z:az K c u xs)(A:bM K c xs (d.params.map pD))(hl:d.params.length<=20000)(C:TO K j.term c y d.body)(q:∀x H',c x=none->ao c H'->eP K j H' (.ref x) d->Q x H'):∀x b:V0,c x=none->c b=none->¬b=x->zA j K [.ref x,.str d.name,.ref u,.str d.kind,y] (ar (ar c b (.own x)) x (.ins j.word b [])) (λ v g=>v=.non/\Q x g) E0:=λ x b i D n=>by
 have m:ao c (ar (ar c b (.own x)) x (.ins j.word b [])):=λ a o e=>by
  rw[aU (bY e i),aU (bY e D)];exact e
 exact⟨x,b,u,xs,y,d,rfl,bu,az.same z m,A.same m,hl,C.kp (Kp.of m),λ H' E t=>⟨rfl,q x H' i (λ a o e=>E _ _ (bY e i) (m _ _ e)) t⟩⟩
theorem tI{ws:List U1}{x:U1×U1}(h:cM ws n=.ok x m):n<m:=by
 unfold RR.cM at h;obtain⟨a,i,e,h⟩:=RR.au h;obtain⟨g,o,u,v⟩:=RR.bj e;obtain⟨b,j,c,h⟩:=RR.au h;cases h;unfold RR.dE at c;split at c
 ·cases c;lia
 split at c
 ·cases c;lia
 ·obtain⟨g,o,u,v⟩:=RR.bj c;lia
theorem L8(T:∅){k:Nat}(hK:K.In base)(o:aT P w K mg base 5 "read_pair" ["guest"] (zw ⟨aa,C_tb,LP,LQ⟩ ae K))(u:aT P w K mg base 6 "read_list" ["guest","read_item"] (zt P w mg base ⟨aa,C_tb,LP,LQ⟩ ae K 5))(G:aT P w K mg base 1 "need_few" ["found","most"] (tD ae K))(C:aT P w K mg base 4 "read_kind" ["guest"] (zL ⟨aa,C_tb,LP,LQ⟩ ae K))(c:bK P w K mg base 3 aa "need" ["self","word"] (mC ⟨aa,C_tb,LP,LQ⟩ ae K))(D:aT P w K mg base (8*k+8) "read_term" ["guest","least","lowest","deep"] (my ⟨aa,C_tb,LP,LQ⟩ ae Ct K k))(a:aX P w K mg base 2 Cw "__init__" ["self","name","params","kind","body"] (zA (CS.mk Ct Cw Ch Cp aa aa aa aa B) K)):aT P w K mg base (8*k+9) "read_word" ["guest","name"] (zi (CS.mk Ct Cw Ch Cp aa aa aa aa B) ⟨aa,C_tb,LP,LQ⟩ ae K k):=by
 walk_at "x QJ DM 2"
 obtain⟨g,I,n,name,rfl,M,q⟩:=h;refine⟨_,(aE (qG 2 DM.nd (dH u hr qS rfl (qJ (ai 0) (JG T.DU rfl)))) (aE (dS (dH G hr qS rfl (qJ (ai 2) (eJ T.c_MOST_PARAMS rfl)))) (aE (qG 3 DM.nd (dH C hr qS rfl (qI (ai 0)))) (aE (dS (jC (ai 0) T.Guest.cl c hr qS (qI aK))) (aN (bp (ie T.Word a hr qS rfl (dq (ai 1) (qK (ai 2) (ai 3) (dH D hr qS rfl (dq (ai 0) (qK (eJ T.c_WEAKEST rfl) (eJ T.c_WEAKEST rfl) aw)))))))))))),?_⟩;walk_at "r";intro f2 m2;obtain⟨f',m',it⟩:=o.item T.DU hK;cases m'.symm.trans m2;unfold RR.c8 at q;refine⟨U1×U1,g,_,I,n,cM I,λ H v x=>RT K H v (pD x),[],rfl,M,λ p hp=>(nomatch hp),it.imp (λ vs H Q E h=>?_),λ H H' v x k h=>h.kt k.kt,λ n x m e=>tI e,To.mono (To.bind q) (λ ps i ω q l us H1 N h1 O L Z=>?_) λ b=>b⟩
 ·obtain⟨n,rfl,M,ω,q⟩:=h;exact⟨g,I,n,rfl,M,q⟩
 have R:=Z.len;refine⟨l,us,4,rfl,L,qQ,ax (λ e=>?_) λ e=>?_⟩
 ·rw[UL (by rw[<-R];exact e)]at q;exact λ H2 J=>q H2 (bG N (SY.of J))
 rw[UK (by rw[<-R];exact e)]at q;refine⟨g,I,i,rfl,O,To.mono (To.bind q) (λ kd j ω q H2 J S=>?_) λ b=>b.same N⟩;obtain⟨gx,rv,h2⟩:=S.meth;have S2:=bG N J;refine⟨gx,_,h2,rfl,⟨g,I,j,_,rfl,S,qP,qP,To.mono (To.bind q) (λ ω j' ω q H3 U g3=>?_) λ b=>b.same S2⟩⟩;have S3:=bG S2 U;refine⟨g,I,j',1,1,1,rfl,g3,aQ _,aQ _,To.mono (To.bind q) (λ t m ω q v H4 X g4 o4=>?_) λ b=>b.same S3⟩;have n1:l≠g:=λ z=>by obtain⟨ω,ω,y⟩:=O.meth;rw[z,y]at L;cases L
 have Y:=bG J (bG U X);have k4:=(O.kq J).trans ((S.kq U).trans (g3.kq X));exact Ls (d:=⟨name,ps,kd,t⟩) (az.of (Y.lst n1 L)) (bM.kt k4.kt (EZ Z)) (bR (lK (by rw[<-R];exact e)) qS) o4 λ x H5 ω s5 w5=>q _ H5 (bG S3 (bG X (SY.of s5))) (g4.same s5) w5
def nO(K:X0)(c:CS)(cg:GC)(cb g:V0)(ws:List U1)(H:Hp)(Q:VK)(E:XK)(r:aZ Hs):Prop:=To r (λ d m=>∀v a,SY g H a->b_ K cg a g ws m->gC K c a v d->Q v a) (BF cb g H E)
def BM(c:CS)(cg:GC)(cb:V0)(K:X0)(k:Nat):Sp:=λ vs H Q E=>∃(g:V0)(a:List U1)(n:Nat),vs=[.ref g]/\b_ K cg H g a n/\nO K c cg cb g a H Q E (dz a k n)
def AX(K:X0)(cg:GC)(g l:V0)(ws:List U1){α:Type}(R:Hp->V->α->Prop)(H:Hp)(σ0:St)(Ex:Hp->Prop)(F:Nat->List α->Nat->Prop)(j:Nat)(σ:St)(H':Hp):Prop:=∃us a m,σ=σ0/\SY g H H'/\b_ K cg H' g ws m/\Ex H'/\H' l=some (.lst us)/\A2 (R H') us a/\a.length<=m/\F j a m
theorem To.bnd{α c:Type}{a:aZ α}{f:α->Nat->aZ c}{p:c->Nat->Prop}{q:Prop}(h:To a (λ x m=>To (f x m) p q) q):To (a.bind f) p q:=by
 cases a<;>exact h
theorem GT{ws:List U1}:∀{k:Nat}{xs ys:List (U1×U1)}{n m:Nat},cf ws (cM ws) k xs n=.ok ys m->n<m
 |0,_,_,_,_,h=>by cases h
 |k+1,xs,ys,n,m,h=>by
  unfold RR.cf at h;split at h
  ·obtain⟨y,b,a,h⟩:=RR.au h;have:=tI a;have:=GT h;lia
  ·obtain⟨ω,b,a,h⟩:=RR.au h;obtain⟨c,e⟩:=RR.bS qP a;cases h;lia
theorem ME{ws:List U1}{x:U1}(h:dE ws n=.ok x m):n<m:=by
 unfold RR.dE at h;split at h
 ·cases h;lia
 split at h
 ·cases h;lia
 ·obtain⟨a,c,e,g⟩:=RR.bj h;lia
theorem LU{K:X0}{j:CS}{c:Hp}{u wl:V0}{y ws:List V}{d:Hs}(A:az K c u y)(C:bM K c y (d.fields.map pD))(hl:d.fields.length<=20000)(D:az K c wl ws)(z:A2 (eP K j c) ws d.words)(q:∀x H',c x=none->ao c H'->gC K j H' (.ref x) d->Q x H'):∀x b:V0,c x=none->c b=none->¬b=x->zq j K [.ref x,.str d.name,oS d.elder,.ref u,.ref wl] (ar (ar c b (.own x)) x (.ins j.house b [])) (λ v g=>v=.non/\Q x g) E0:=λ x b i E n=>by
 have m:ao c (ar (ar c b (.own x)) x (.ins j.house b [])):=λ a o e=>by
  rw[aU (bY e i),aU (bY e E)];exact e
 exact⟨x,b,wl,u,y,ws,d,rfl,bu,az.same A m,C.same m,hl,az.same D m,z.mono λ ω ω r=>eP.kp r (Kp.of m),λ H' G t=>⟨rfl,q x H' i (λ a o e=>G _ _ (bY e i) (m _ _ e)) t⟩⟩
theorem Gy{ws:List U1}{k:Nat}{x:U1}{d:Wd}(h:c8 ws k x n=.ok d m):n<m:=by
 unfold RR.c8 at h;obtain⟨ps,i,c,h⟩:=RR.au h;unfold RR.dh at c;obtain⟨ω,a,g,c⟩:=RR.au c;obtain⟨z,A⟩:=RR.bS qP g;have C:n<i:=by
  split at c
  ·cases c;lia
  ·obtain⟨y,b,e,c⟩:=RR.au c;have:=tI e;have:=GT c;lia
 split at h
 ·cases h
 obtain⟨D,j,e,h⟩:=RR.au h;have:=ME e;obtain⟨ω,o,u,h⟩:=RR.au h;obtain⟨E,G⟩:=RR.bS qP u;obtain⟨t,H,v,h⟩:=RR.au h;have:=((RR.dX ws k).T 1 1 1 o (aQ _) (aQ _) _ _ v).2.2;cases h;lia
theorem NK(T:∅){k:Nat}(a:bK P w K mg base 3 aa "need_name" ["self"] (pd ⟨aa,C_tb,LP,LQ⟩ ae K))(c:aX P w K mg base 2 aa "takes" ["self","word"] (nI ⟨aa,C_tb,LP,LQ⟩ K))(u:bK P w K mg base 3 aa "need" ["self","word"] (mC ⟨aa,C_tb,LP,LQ⟩ ae K))(I:aT P w K mg base 5 "read_pair" ["guest"] (zw ⟨aa,C_tb,LP,LQ⟩ ae K))(D:aT P w K mg base 1 "need_few" ["found","most"] (tD ae K))(J:aT P w K mg base (8*k+9) "read_word" ["guest","name"] (zi (CS.mk Ct Cw Ch Cp aa aa aa aa B) ⟨aa,C_tb,LP,LQ⟩ ae K k))(C:aX P w K mg base 2 Ch "__init__" ["self","name","elder","own_fields","own_words"] (zq (CS.mk Ct Cw Ch Cp aa aa aa aa B) K)):aT P w K mg base (8*k+10) "read_house" ["guest"] (BM (CS.mk Ct Cw Ch Cp aa aa aa aa B) ⟨aa,C_tb,LP,LQ⟩ ae K k):=by
 walk_at "x QP tY 1"
 obtain⟨g,o,n,rfl,hg,q⟩:=h;refine⟨_,(aE (qG 1 tY.nd (jF (ai 0) T.Guest.cl a hr qS)) (aE (qG 2 tY.nd p_) (aE (bP (fq (jh (ai 0) T.Guest.cl c hr qS (qI aK))) (aN (qG 2 tY.nd (jF (ai 0) T.Guest.cl a hr qS))) bW) (aE (dS (jC (ai 0) T.Guest.cl u hr qS (qI aK))) (aE (qG 3 tY.nd (cJ ix)) (aE (nF (nK rfl rfl) (fq (jh (ai 0) T.Guest.cl c hr qS (qI aK))) (aN (dS (gM i4 jL jK jG (ai 3) (qI (dH I hr qS rfl (qI (ai 0)))))))) (aE (dS (dH D hr qS rfl (qJ (ai 3) (eJ T.c_MOST_FIELDS rfl)))) (aE (qG 4 tY.nd (cJ ix)) (aE (nF (nK rfl rfl) (fq (jh (ai 0) T.Guest.cl c hr qS (qI aK))) (aN (dS (gM i4 jL jK jG (ai 4) (qI (dH J hr qS rfl (qJ (ai 0) (jF (ai 0) T.Guest.cl a hr qS)))))))) (aE (dS (dH D hr qS rfl (qJ (ai 4) (eJ T.c_MOST_WORDS rfl)))) (aE (dS (jC (ai 0) T.Guest.cl u hr qS (qI aK))) (aN (bp (ie T.House C hr qS rfl (dq (ai 1) (qK (ai 2) (ai 3) (ai 4))))))))))))))))),?_⟩;refine HP λ uz11 huz11 uz10 huz10 uz9 huz9 uz8 huz8 uz7 huz7 uz6 huz6 uz5 huz5 uz4 huz4 uz3 huz3 uz2 huz2 uz1 huz1=>?_;walk_at "r";unfold RR.dz at q;obtain⟨L,rv,h0⟩:=hg.meth;refine⟨L,_,h0,rfl,⟨g,o,n,rfl,hg,To.mono (To.bind q) (λ x i ω q H1 s1 g1=>?_) λ b=>b⟩⟩;walk_at "n z1";walk_at "n z2";have g0:∀(S:Option U1)(j:Nat)(H2:Hp),SY g H H2->b_ K ⟨aa,C_tb,LP,LQ⟩ H2 g o j->nO K (CS.mk Ct Cw Ch Cp aa aa aa aa B) ⟨aa,C_tb,LP,LQ⟩ ae g o H Q E ((bT o "{" j).bind λ ω i=>(bQ o (o.length+1) [] i).bind λ fs j=>if 4<fs.length then .bad else(b8 o k (o.length+1) [] j).bind λ G j=>if 8<G.length then .bad else(bT o "}" j).bind λ ω m=>.ok ⟨x,S,fs,G⟩ m)->uz3 {nx:=λ x H'=>Q V.non H',rt:=Q} [some (V.ref g),some (V.str x),some (oS S),none,none] H2:=by
  intro S j H2 S2 g2 q;walk_at "n z3";obtain⟨L,rv,h2⟩:=g2.meth;refine⟨L,_,h2,rfl,⟨g,o,j,_,rfl,g2,qP,qP,To.mono (To.bind q) (λ ω m ω q H3 s3 g3=>?_) λ b=>b.same S2⟩⟩;have S3:=bG S2 s3;walk_at "n z4";refine aS.of λ p4 H4 h4 s4 e4=>?_;have g4:=g3.same s4;have S4:=bG S3 (SY.of s4);obtain⟨L,rv,k0⟩:=g4.meth;have n4:p4≠g:=λ z=>by rw[z,k0]at e4;cases e4
  have l0:H p4=none:=S3.free n4 h4;walk_at "n z5";refine⟨AX K ⟨aa,C_tb,LP,LQ⟩ g p4 o (λ H v t=>RT K H v (pD t)) H [some (V.ref g),some (V.str x),some (oS S),some (V.ref p4),none] (λ ω=>True) λ j N m=>nO K (CS.mk Ct Cw Ch Cp aa aa aa aa B) ⟨aa,C_tb,LP,LQ⟩ ae g o H Q E ((bQ o j N m).bind λ fs j=>if 4<fs.length then .bad else(b8 o k (o.length+1) [] j).bind λ G j=>if 8<G.length then .bad else(bT o "}" j).bind λ ω m=>.ok ⟨x,S,fs,G⟩ m),⟨_,[],[],m,rfl,S4,g4,trivial,e4,.nil,dj _,q⟩,?_⟩;rintro jj σ H5 ⟨us,N,m5,rfl,S5,g5,_,e5,r5,l5,q⟩;cases jj with
  |zero=>exact q.elim
  |succ jj=>
  obtain⟨L,rv,h5⟩:=g5.meth;walk_at "r";unfold RR.bQ at q;refine⟨L,_,h5,rfl,⟨g,o,m5,_,rfl,g5,qP,ax (λ e=>?_) λ e=>?_⟩⟩
  ·rw[UL e]at q;refine λ H6 U g6=>⟨_,rfl,ax (λ ω=>⟨_,λ ω ω z=>⟨jj,iH _,z⟩,.inl ⟨rfl,_,az.of (U.lst n4 e5)⟩,g,o,m5+1,rfl,g6,To.mono (To.bind (To.bind q)) (λ b m7 eb q v7 H7 s7 X r7=>?_) λ b=>b.same (bG S5 U)⟩) λ z=>UM rfl z⟩;have Y:=bG U s7;have e7:=Y.lst n4 e5;have c0:SX p4 H7 (ar H7 p4 (.lst (us++[v7]))):=SX.put _;have e8:ar H7 p4 (.lst (us++[v7])) p4=some (.lst (us++[v7])):=bu;have lu:=r5.len;have l7:=tI eb;have t0:=bR X.le X.len;refine⟨_,e7,qR,?_⟩;generalize ar H7 p4 (.lst (us++[v7]))=H8 at*;have k8:=Kq.sxl c0 e7;exact⟨_,N++[b],m7,rfl,(bG S5 Y).side l0 c0,X.lst e7 c0,trivial,e8,A2.snoc (r5.mono λ ω ω r=>r.kt ((g5.kq Y).trans k8).kt) (r7.kt k8.kt),by rw[bX];show N.length+1<=m7;lia,To.bnd q⟩
  rw[UK e]at q;refine⟨_,rfl,ax (λ z=>by cases z) λ ω=>?_⟩;have q:=show nO K (CS.mk Ct Cw Ch Cp aa aa aa aa B) ⟨aa,C_tb,LP,LQ⟩ ae g o H Q E (if 4<N.length then .bad else(b8 o k (o.length+1) [] m5).bind λ G j=>if 8<G.length then .bad else(bT o "}" j).bind λ ω m=>.ok ⟨x,S,N,G⟩ m)from q
  have lu:=r5.len;walk_at "n z6";refine⟨p4,us,4,rfl,e5,qQ,ax (λ e=>?_) λ e=>?_⟩
  ·rw[UL (by rw[<-lu];exact e)]at q;exact λ H6 U=>q H6 (bG S5 (SY.of U))
  rw[UK (by rw[<-lu];exact e)]at q;have lf:N.length<=4:=lK (by rw[<-lu];exact e);walk_at "n z7";refine aS.of λ O H6 h6 U e6=>?_;have g6:=g5.same U;have S6:=bG S5 (SY.of U);obtain⟨L,rv,m0⟩:=g6.meth;have n6:O≠g:=λ z=>by rw[z,m0]at e6;cases e6
  have n0:O≠p4:=nq e5 h6;have o0:H O=none:=S5.free n6 h6;walk_at "n z8";refine⟨AX K ⟨aa,C_tb,LP,LQ⟩ g O o (λ H v t=>eP K (CS.mk Ct Cw Ch Cp aa aa aa aa B) H v t) H [some (V.ref g),some (V.str x),some (oS S),some (V.ref p4),some (V.ref O)] (λ H'=>H' p4=some (.lst us)/\bM K H' us (N.map pD)) λ j ys m=>(nO K (CS.mk Ct Cw Ch Cp aa aa aa aa B) ⟨aa,C_tb,LP,LQ⟩ ae g o H Q E ((b8 o k j ys m).bind λ G j=>if 8<G.length then .bad else(bT o "}" j).bind λ ω m=>.ok ⟨x,S,N,G⟩ m)),⟨_,[],[],m5,rfl,S6,g6,⟨U _ _ e5,(EZ r5).same U⟩,e6,.nil,dj _,q⟩,?_⟩;rintro jj σ H7 ⟨vs,ys,m7,rfl,Y,X,⟨x1,x2⟩,e7,r7,l7,q⟩;cases jj with
  |zero=>exact q.elim
  |succ jj=>
  obtain⟨L,rv,h7⟩:=X.meth;walk_at "r";unfold RR.b8 at q;refine⟨L,_,h7,rfl,⟨g,o,m7,_,rfl,X,qP,ax (λ e=>?_) λ e=>?_⟩⟩
  ·rw[UL e]at q;refine λ H8 R g8=>⟨_,rfl,ax (λ ω=>?_) λ z=>UM rfl z⟩;obtain⟨L,rv,h8⟩:=g8.meth;refine⟨_,λ ω ω z=>⟨jj,iH _,z⟩,.inl ⟨rfl,_,az.of (R.lst n6 e7)⟩,⟨L,_,h8,rfl,⟨g,o,m7+1,rfl,g8,To.mono (To.bind (To.bind q)) (λ y m9 ey q H9 s9 g9=>?_) λ b=>b.same (bG Y R)⟩⟩⟩;have S9:=bG R s9;obtain⟨y1,y2,y3,y4⟩:=RR.bj ey;refine⟨g,o,m9,y,rfl,g9,To.mono (To.bind q) (λ d i0 ed q Z a0 p0 d0 q0=>?_) λ b=>b.same (bG Y S9)⟩;have b0:=bG S9 p0;have e0:=b0.lst n6 e7;have M:SX O a0 (ar a0 O (.lst (vs++[Z]))):=SX.put _;have r0:ar a0 O (.lst (vs++[Z])) O=some (.lst (vs++[Z])):=bu;have f0:=r7.len;have u0:=Gy ed;have s0:=bR d0.le d0.len;refine⟨_,e0,qR,?_⟩;generalize ar a0 O (.lst (vs++[Z]))=v0 at*;have j0:=Kq.sxl M e0;have kk:=(X.kq b0).trans j0;exact⟨_,ys++[d],i0,rfl,(bG Y b0).side o0 M,d0.lst e0 M,⟨M _ _ (Ne.symm n0) (b0.lst n4 x1),x2.kt kk.kt⟩,r0,A2.snoc (r7.mono λ ω ω r=>r.kq kk) (q0.kq j0),by rw[bX];show ys.length+1<=i0;lia,To.bnd q⟩
  rw[UK e]at q;refine⟨_,rfl,ax (λ z=>by cases z) λ ω=>?_⟩;have q:=show nO K (CS.mk Ct Cw Ch Cp aa aa aa aa B) ⟨aa,C_tb,LP,LQ⟩ ae g o H Q E (if 8<ys.length then .bad else(bT o "}" m7).bind λ ω m=>.ok ⟨x,S,N,ys⟩ m)from q
  have f0:=r7.len;walk_at "n z9";refine⟨O,vs,8,rfl,e7,qQ,ax (λ e=>?_) λ e=>?_⟩
  ·rw[UL (by rw[<-f0];exact e)]at q;exact λ H8 R=>q H8 (bG Y (SY.of R))
  rw[UK (by rw[<-f0];exact e)]at q;walk_at "n z10";refine⟨L,_,h7,rfl,⟨g,o,m7,_,rfl,X,qP,qP,To.mono (To.bind q) (λ ω m8 ω q H8 R g8=>?_) λ b=>b.same Y⟩⟩;walk_at "n z11";exact LU (d:=⟨x,S,N,ys⟩) (az.of (R.lst n4 x1)) (x2.kt (X.kq R).kt) (bR lf qS) (az.of (R.lst n6 e7)) (r7.mono λ ω ω r=>r.kq (X.kq R)) λ y H9 ω s9 t9=>q _ H9 (bG Y (bG R (SY.of s9))) (g8.same s9) t9
 obtain⟨L,rv,h1⟩:=g1.meth;refine⟨L,_,h1,rfl,⟨g,o,i,_,rfl,g1,qP,ax (λ e=>?_) λ e=>?_⟩⟩
 ·have q:nO K (CS.mk Ct Cw Ch Cp aa aa aa aa B) ⟨aa,C_tb,LP,LQ⟩ ae g o H Q E ((j8 o i).bind _):=q;unfold RR.j8 at q;rw[UL e]at q;refine λ H2 s2 g2=>⟨_,rfl,ax (λ ω=>?_) λ z=>UM rfl z⟩;obtain⟨L,rv,h2⟩:=g2.meth;exact⟨L,_,h2,rfl,⟨g,o,i+1,rfl,g2,To.mono (To.bind (To.bind q)) (λ y m ω q H3 s3 g3=>g0 (some y) m H3 (bG (bG s1 s2) s3) g3 q) λ b=>b.same (bG s1 s2)⟩⟩
 ·have q:nO K (CS.mk Ct Cw Ch Cp aa aa aa aa B) ⟨aa,C_tb,LP,LQ⟩ ae g o H Q E ((j8 o i).bind _):=q;unfold RR.j8 at q;rw[UK e]at q;exact⟨_,rfl,ax (λ z=>by cases z) λ ω=>g0 none i H1 s1 g1 q⟩
open RR (bz bb)
def GA(cb:V0)(K:X0):Sp:=λ vs H Q E=>∃(l:V0)(a:List U1),vs=[.ref l]/\H l=some (.lst (a.map V.str))/\a.length<=6000/\if bz a 0=false then(∀c,ao H c->E (.ref cb) none c)else Q .non H
inductive CP(c:CS)(K:X0)(vs:List V)(H:Hp)(Q:VK):Prop
 |mk(v:V)(p:Pg)(a1:vs=[v])(a2:kH K c H v p)(a3:(bb p).length<=20000)(a4:∀l us H',ao H H'->H l=none->H' l=some (.lst us)->cU K c.term H' us (bb p)->Q (.ref l) H'):CP c K vs H Q
def CQ(c:CS)(K:X0):Sp:=λ vs H Q ω=>CP c K vs H Q
def CW(c:CS)(cb:V0)(K:X0):Sp:=λ vs H Q E=>∃(v:V)(p:Pg),vs=[v]/\kH K c H v p/\(bb p).length<=20000/\(if((bb p).any λ b=>decide (14<b.depth))=true then(∀a,ao H a->E (.ref cb) none a)else if 400<aG (bb p)then(∀a,ao H a->E (.ref cb) none a)else ∀a,ao H a->Q .non a)
def DJ(E:XK)(cb l:V0)(ws:List U1)(H:Hp)(Q:VK)(i:Nat)(σ:St)(H':Hp):Prop:=H'=H/\∃(o:Int)(w:Option V),σ=[some (V.ref l),some (V.int o),w]/\if bz (ws.drop i) o=false then(∀H',ao H H'->E (.ref cb) none H')else Q .non H
theorem KW{α:Type}{ws:List α}{i:Nat}{x:α}(h:ws[i]?=some x):ws.drop i=x::ws.drop (i+1):=by
 obtain⟨a,c⟩:=gm.mp h;rw[ym a,c]
def Os(K:X0)(ct a l:V0)(hs:List Hs)(H:Hp)(i:Nat)(σ:St)(H':Hp):Prop:=∃us w,σ=[some (V.ref a),some (V.ref l),w]/\ao H H'/\H' l=some (.lst us)/\cU K ct H' us ((hs.take i).flatMap λ h=>h.words.map (·.body))
theorem SX.kpl'{x:V0}(s:SX x H H')(a:H x=some (.lst xs)):Kp H H':=
 ⟨λ b xs e=>s _ _ (λ z=>by rw[z,a]at e;cases e) e,λ b o xs e=>s _ _ (λ z=>by rw[z,a]at e;cases e) e,λ b C c f fs e=>s _ _ (λ z=>by rw[z,a]at e;cases e) e⟩
theorem La{K:X0}:∀{ws:List Wd}{vs:List V},vs.length=ws.length->(∀(j:Nat) v,vs[j]?=some v->∃w,ws[j]?=some w/\TO K C H v w.body)->cU K C H vs (ws.map (·.body)):=λ{ts vs} hl h=>by
 have z:A2 (λ v (w:Wd)=>TO K C H v w.body) vs ts:=A2.of hl h;clear hl h;induction z with
 |nil=>exact .nil
 |cons a _ ih=>exact .cons a ih
theorem AM{α:Type}(f:α->V):∀{ts:List α}{vs:List V},vs.length=ts.length->(∀(j:Nat) v,vs[j]?=some v->∃t,ts[j]?=some t/\v=f t)->vs=ts.map f:=λ{ts vs} hl h=>by
 have z:A2 (λ v t=>v=f t) vs ts:=A2.of hl h;clear hl h;induction z with
 |nil=>exact rfl
 |cons a _ ih=>exact by rw[dJ,a,ih]
theorem CL:∀(ts:List Tm),(ts.map λ t=>((t.size:Nat):Int)).sum=((aG ts:Nat):Int)
 |[]=>rfl
 |t::ts=>by
  rw[dJ,lJ,CL ts];show _=(((t.size+aG ts:Nat)):Int);lia
theorem MF(T:∅):aT P w K mg base 1 "need_few_open" ["row"] (GA ae K):=by
 walk_at "x Q4 w6 1"
 obtain⟨l,c,rfl,hl,v,q⟩:=h;refine⟨_,(aE (qG 1 w6.nd aw) (aN (nj (nK rfl rfl) rfl (jR (ai 0)) (qH 2 w6.nd) (aE (bP (qM dy (ai 2) aK) (aN (sS (i:=1) w6.nd rfl (Or.inl rfl) aw uL)) (aN (bP (qM dy (ai 2) aK) (aN (sS (i:=1) w6.nd rfl (Or.inl rfl) aw J2)) bW))) (aN (bP (qM iP (ai 1) (eJ T.c_MOST_OPEN rfl)) (aN (jE T.x_BadForm hr rfl (qI aK))) bW)))))),?_⟩;walk_at "r";refine⟨⟨_,az.of hl⟩,Ng (c.map V.str) (DJ E ae l c H Q) ⟨rfl,0,none,rfl,q⟩ (λ i m H' ω h=>by rw[h.1];exact az.of hl) (λ i y m H' n h=>?_) (λ m H' h=>?_)⟩
 ·obtain⟨rfl,o,w,rfl,q⟩:=h;rw[eK]at n;obtain⟨x,g,rfl⟩:=iJ.mp n;rw[KW g]at q;unfold RR.bz at q;dsimp only at q;walk_at "r";have go:∀a:Int,(if(if 14<a then false else bz (c.drop (i+1)) a)=false then(∀u,ao H' u->E (.ref ae) none u)else Q .non H')->if 14<a then ∀(x:V0),H' x=none->E (RA ae) none (ar H' x (dG x ae none))else DJ E ae l c H' Q (i+1) [some (V.ref l),some (V.int a),some (V.str x)] H':=λ a q=>by
   refine ax (λ e=>?_) λ e=>?_
   ·rw[UL e,UL rfl]at q;exact λ x g=>q _ (dR g _)
   ·rw[UK e]at q;exact⟨rfl,a,_,rfl,q⟩
  refine ax (λ e=>?_) λ e=>ax (λ j=>?_) λ j=>?_
  ·rw[UL e]at q;exact go _ q
  ·rw[UK e,UL j]at q;exact go _ q
  ·rw[UK e,UK j]at q;exact go _ q
 ·obtain⟨rfl,o,w,rfl,q⟩:=h;rw[bB,List.drop_length]at q;exact q
theorem Nc(T:∅):aX P w K mg base 1 Cp "bodies" ["self"] (CQ (CS.mk Ct Cw Ch Cp aa aa aa aa B) K):=by
 walk_at "m m_Program_bodies c7 1"
 obtain⟨v,p,rfl,hp,hl,q⟩:=h;cases hp with
 |@mk a U ht hs mv p X Y Z p4=>
 refine⟨_,(aE (qG 1 c7.nd (cJ ix)) (aE (nj Sj rfl (jg (qO 0)) (qH 2 c7.nd) (aN (dS (gM i4 PySem.F.slot_list_extend PySem.F.type_list_extend Nn (ai 1) (qI (eX rfl (aD.plain (N:=["word"]) rfl qP qP qP) (jg (qO 2)) (λ C fp s H=>(qH 0 (show(["word"]:List U1).Nodup by decide+kernel))) (λ C fp s H=>(show PE _ _ (xr K _ "body")from qc (ai 0) rfl)))))))) (aE (dS (gM i4 jL jK jG (ai 1) (qI (qc (qO 0) rfl)))) (aN (bp (ai 1)))))),?_⟩;walk_at "s 4 z";refine aS.of λ l1 u c x e1=>?_;walk_at "n z1";refine⟨Cp,U,_,x _ _ X,T.Program.cl,T.n_Program_all_houses,_,rfl,ht,rfl,⟨_,ay.same Y x⟩,tJ hs (Os K Ct a l1 p.houses H) ⟨[],none,rfl,x,e1,.nil⟩ (λ i σ n ω h=>?_) (λ i y σ n G h=>?_) (λ σ n h=>?_)⟩
 ·obtain⟨us,w,rfl,S,ω⟩:=h;exact ay.same Y S
 ·obtain⟨us,w,rfl,S,e,t⟩:=h;obtain⟨d,hd,hO⟩:=Z.at G;cases hO with
  |@mk ha hx ft wt zs _ o1 o2 o3 o4=>
  walk_at "r";have hi:=(gm.mp hd).1;have g:(p.houses.take (i+1)).flatMap (λ h=>h.words.map (·.body))=((p.houses.take i).flatMap λ h=>h.words.map (·.body))++d.words.map (·.body):=by
   rw[List.take_succ,hd,yl];show _++(d.words.map (·.body)++[])=_;rw[eu]
  have a0:us.length+d.words.length<=20000:=by
   have c:(bb p).length=((p.houses.flatMap λ h=>h.words.map (·.body))++[p.main.body]).length:=rfl;have h2:p.houses.flatMap (λ h=>h.words.map (·.body))=(p.houses.take (i+1)).flatMap (λ h=>h.words.map (·.body))++(p.houses.drop (i+1)).flatMap (λ h=>h.words.map (·.body)):=by
    rw[<-yl,pN]
   rw[bX,h2,g,bX,bX,bB]at c;have:=t.length;lia
  refine⟨.inl ⟨rfl,_,az.of e⟩,⟨Ch,hx,_,S _ _ o1,T.House.cl,T.n_House_own_words,_,rfl,wt,rfl,⟨_,ay.same o3 S⟩,λ D I=>?_⟩⟩;have lz:=o4.len;refine kZ (ys:=zs) none [] (λ j v H=>∃w,d.words[j]?=some w/\TO K Ct H v w.body) (λ j v u H2 ⟨t,a,b⟩ s=>⟨t,a,b.kp (mX s)⟩) rfl I (by rw[RB];lia) (λ u s=>ay.same o3 (S.trans s)) (λ j y G u K' s k=>?_) (λ vs Hc Sc hv lv hR=>?_)
  ·walk_at "r";obtain⟨wd,J,hW⟩:=o4.at G;cases hW with
   |@mk L M pt bv _ O w2 R=>
    exact⟨L,rfl,⟨Cw,M,_,s _ _ (S _ _ O),T.Word.cl,T.n_Word_body,_,rfl,k _ _ (ao.refl _) ⟨wd,J,(R.kp (Kp.of S)).kp (Kp.of s)⟩⟩⟩
  ·have e2:=Sc _ _ e;have nD:D≠l1:=λ z=>by rw[z,e]at I;cases I
   refine⟨D,rfl,us,e2,vs,hv,qR,?_⟩;have sx:SX l1 Hc (ar Hc l1 (.lst (us++vs))):=SX.put _;have m:=SX.kpl' sx e2;refine⟨us++vs,_,rfl,λ b o q=>by rw[aU (λ z=>by rw[z,c]at q;cases q)];exact Sc _ _ (S _ _ q),bu,?_⟩;rw[g];exact cU.app ((t.kp (Kp.of Sc)).kp m) ((La (lv.trans lz) hR).kp m)
 ·obtain⟨us,w,rfl,S,e,t⟩:=h;show uz2 _ _ _;walk_at "n z2";have lh:=Z.len;rw[lh,j_]at t;have l2:=t.length;have l3:(bb p).length=((p.houses.flatMap λ h=>h.words.map (·.body))++[p.main.body]).length:=rfl;rw[bX]at l3;cases p4 with
  |@mk L M pt bv _ O w2 R=>
  refine⟨.inl ⟨rfl,_,az.of e⟩,⟨Cp,U,_,S _ _ X,T.Program.cl,T.n_Program_main,_,rfl,L,rfl,⟨Cw,M,_,S _ _ O,T.Word.cl,T.n_Word_body,_,rfl,us,e,qR,?_⟩⟩⟩;walk_at "n z3";have sx:SX l1 n (ar n l1 (.lst (us++[bv]))):=SX.put _;have m:=SX.kpl' sx e;exact q l1 _ _ (λ b o q=>by rw[aU (λ z=>by rw[z,c]at q;cases q)];exact S _ _ q) c bu (cU.app (t.kp m) (.cons ((R.kp (Kp.of S)).kp m) .nil))
theorem NT(T:∅)(c:aX P w K mg base 1 Cp "bodies" ["self"] (CQ (CS.mk Ct Cw Ch Cp aa aa aa aa B) K))(m:aX P w K mg base 1 Ct "depth" ["self"] (zZ Ct K))(n:aX P w K mg base 1 Ct "size" ["self"] (zu Ct K)):aT P w K mg base 2 "need_bounds" ["program"] (CW (CS.mk Ct Cw Ch Cp aa aa aa aa B) ae K):=by
 walk_at "x QR OK 1"
 obtain⟨v,p,rfl,hp,hl,q⟩:=h;have u:=hp;cases hp with
 |@mk a dx G hs mv p p1 p2 p3 p4=>
 refine⟨_,(aE (bP (fq (eH (r:=Aw K) (LH rfl) rfl T.z_any IK (qI (eX rfl (aD.plain (N:=["body"]) rfl qP qP qP) (jR (f6 (ai 0) T.Program.cl c hr qS)) (λ C L s H=>(qH 0 (show(["body"]:List U1).Nodup by decide+kernel))) (λ C L s H=>(fC iP (f6 (ai 0) T.Term.cl m hr qS) (eJ T.c_MOST_DEEP rfl) (iu _))))))) (aN (jE T.x_BadForm hr rfl (qI aK))) bW) (aN (bP (qM iP (eH (u5 rfl) rfl T.z_sum uM (qI (eX rfl (aD.plain (N:=["body"]) rfl qP qP qP) (jR (f6 (ai 0) T.Program.cl c hr qS)) (λ C L s H=>(qH 0 (show(["body"]:List U1).Nodup by decide+kernel))) (λ C L s H=>(f6 (ai 0) T.Term.cl n hr qS))))) (eJ T.c_MOST_SIZE rfl)) (aN (jE T.x_BadForm hr rfl (qI aK))) bW))),?_⟩;walk_at "r";refine⟨dx,_,p1,rfl,⟨_,p,rfl,u,hl,λ l us I s1 h1 e1 o1=>⟨l,rfl,⟨_,az.of e1⟩,λ D M=>?_⟩⟩⟩;have O:=o1.length;refine k_ (ys:=us) none [] (λ j v H=>∃t,(bb p)[j]?=some t/\v=V.bl (decide ((14:Int)<(t.depth:Nat)))) (λ j v I R h s=>h) rfl M (by rw[RB];lia) (λ I s=>az.same (az.of e1) s) (λ j y S R K' s k=>?_) (λ vs Hc Sc U X Y=>?_)
 ·obtain⟨t,G,z⟩:=o1.at S;have Z:=(z.kp (Kp.of s));have o:=Z;cases z with
  |@mk ta tx a0 sh _ _ _ z1 z2 t1 t2 t3 t4 t5=>
  walk_at "r";exact⟨tx,_,s _ _ t1,rfl,⟨_,_,rfl,o,_,rfl,k _ _ (ao.refl _) ⟨_,G,rfl⟩⟩⟩
 have ev:vs=((bb p).map λ t=>decide ((14:Int)<(t.depth:Nat))).map V.bl:=by
  rw[i6];exact AM _ (X.trans O) Y
 have ea:((bb p).map λ t=>decide ((14:Int)<(t.depth:Nat))).any id=(bb p).any λ b=>decide (14<b.depth):=by
  rw[List.any_map];refine congrArg (λ g=>(bb p).any g) (funext λ t=>?_);show decide ((14:Int)<(t.depth:Nat))=decide (14<t.depth);exact decide_eq_decide.mpr qR
 refine⟨D,rfl,_,az.of (ev▸U),?_⟩;rw[ea];have J:=s1.trans Sc;refine ax (λ e=>?_) λ e=>?_
 ·rw[UL e]at q;exact λ x hx=>q _ (J.trans (dR hx _))
 rw[UK e]at q;refine⟨dx,_,J _ _ p1,rfl,⟨_,p,rfl,u.same J,hl,λ l us H3 s3 h3 e3 o3=>⟨l,rfl,⟨_,az.of e3⟩,λ D M=>?_⟩⟩⟩;have O:=o3.length;refine k_ (ys:=us) none [] (λ j v H=>∃t,(bb p)[j]?=some t/\v=V.int (t.size:Nat)) (λ j v I R h s=>h) rfl M (by rw[RB];lia) (λ I s=>az.same (az.of e3) s) (λ j y S R K' s k=>?_) (λ vs Hd Sd U X Y=>?_)
 ·obtain⟨t,G,z⟩:=o3.at S;have o:=(z.kp (Kp.of s));cases z with
  |@mk ta tx a0 sh _ _ _ z1 z2 t1 t2 t3 t4 t5=>
  walk_at "r";exact⟨tx,_,s _ _ t1,rfl,⟨_,_,rfl,o,k _ _ (ao.refl _) ⟨_,G,rfl⟩⟩⟩
 have ev:vs=((bb p).map λ t=>((t.size:Nat):Int)).map V.int:=by
  rw[i6];exact AM _ (X.trans O) Y
 refine⟨D,rfl,_,az.of (ev▸U),?_⟩;rw[CL];have S3:=J.trans (s3.trans Sd);refine ax (λ e=>?_) λ e=>?_
 ·rw[UL qR]at q;exact λ x hx=>q _ (S3.trans (dR hx _))
 ·rw[UK qR]at q;exact q _ S3
end K16
end
end
section
namespace K10
open PySem L2
seal L2.PE L2.PA L2.PT L2.PS L2.fy L2.PG L2.lg L2.PI L2.PW
abbrev D5:RH:=K16.xb
abbrev Ee:RH:=K16.xa
abbrev ED:RH:=K16.wU
abbrev FM:RH:=K16.w_
abbrev Er:RH:=K16.w9
abbrev Bv:RH:=K16.wY
abbrev FW:RH:=K16.wV
abbrev GO:RH:=K16.wX
def bN:List U1:=["house","of","has","can","main","let","in","if","then","else","new","self","elder","set","not","yes","no","number","truth"]
structure Txt(K:X0)(mg:U1->Option Y1):Prop where
 figures:∃t,mg "FIGURES"=some (.str "0123456789" t)
 small:∃t,mg "SMALL_LETTERS"=some (.str "abcdefghijklmnopqrstuvwxyz" t)
 great:∃t,mg "GREAT_LETTERS"=some (.str "ABCDEFGHIJKLMNOPQRSTUVWXYZ" t)
 gaps:∃t,mg "GAPS"=some (.str " \t\n" t)
 signs:∃t,mg "SIGNS"=some (.str "(){},.;=+-*/<" t)
 longText:∃t,mg "LONGEST_TEXT"=some (.int 6000 t)
 longNumber:∃t,mg "LONGEST_NUMBER"=some (.int 9 t)
 longName:∃t,mg "LONGEST_NAME"=some (.int 8 t)
 toldW:∃a,mg "TOLD_WORDS"=some (.ref a)/\∀H,ay K H a (bN.map V.str)
 len:mg "len"=none
 all:mg "all"=none
theorem Ab:aV "0123456789"=cG:=by decide+kernel
theorem zY:aV "abcdefghijklmnopqrstuvwxyz"=bA:=by decide+kernel
theorem Oc:aV "ABCDEFGHIJKLMNOPQRSTUVWXYZ"=iO:=by decide+kernel
theorem Mh:aV " \t\n"=gaps:=by decide+kernel
theorem NH:aV "(){},.;=+-*/<"=gZ:=by decide+kernel
theorem mo{x:U1}{l:Tx}(h:aV x=l)(c:Nat):(!(Builtin.Str.occurrences x ⟨#[c]⟩ 0 x.length 1).isEmpty)=l.contains c:=by
 rw[StrLaws.found_one,show x.cps.toList=l from h];simp
variable{X:Cx}
theorem lZ{x z:U1}{t:Tok}{pos:Pos}(a:Gl X x)(c:X.mg x=some (.str z t))(hd:(x==("__debug__":U1))=false:=by decide):PE X (.Name x pos) (tC (.str z)):=tw (v:=.str z) a c ⟨t,rfl⟩ hd
variable{i:Int}
theorem Au{x:U1}{t:Tok}{pos:Pos}(a:Gl X x)(c:X.mg x=some (.int i t))(hd:(x==("__debug__":U1))=false:=by decide):PE X (.Name x pos) (tC (.int i)):=tw (v:=.int i) a c ⟨t,rfl⟩ hd
theorem Ik{x:U1}{a:V0}{pos:Pos}(c:Gl X x)(e:X.mg x=some (.ref a))(hd:(x==("__debug__":U1))=false:=by decide):PE X (.Name x pos) (tC (.ref a)):=tw (v:=.ref a) c e rfl hd
section
variable{P:Program}{w:V1}{K:X0}{mg:U1->Option Y1}{base:M1}
def BX:Sp:=λ vs H Q ω=>∃c:Nat,vs=[.str ⟨#[c]⟩]/\Q (.bl (bF c)) H
theorem Ol:bL ["sign"] ["sign"] (bg Bv):=by walk_at "c"
theorem hV{f:V0}{e:RN}(F:fD K "is_row_sign" "is_row_sign" Bv f e)(T:Txt K mg):bc P w K mg base eE 1 f e ["sign"] BX:=by
 refine F.ok Ol (λ vs H Q E h=>?_) (λ cdv A outer s H vs Q E hr h=>?_)
 ·obtain⟨c,rfl,ω⟩:=h;rfl
 obtain⟨c,rfl,q⟩:=h;obtain⟨n,i⟩:=T.small;obtain⟨o,j⟩:=T.figures;obtain⟨u,m⟩:=T.great;refine⟨_,aN (bp (ud (fC mq (pv 0) (lZ rfl i) (by with_unfolding_all rfl)) (ud (fC mq (pv 0) (lZ rfl j) (by with_unfolding_all rfl)) (oU (fC mq (pv 0) (lZ rfl m) (by with_unfolding_all rfl)))))),?_⟩;refine⟨_,rfl,_,_,rfl,rfl,_,rfl,?_⟩;rw[mo zY];unfold bF at q;cases a:bA.contains c with
 |true=>rw[a]at q;exact cp q
 |false=>
  refine cS ⟨_,rfl,_,_,rfl,rfl,_,rfl,?_⟩;rw[mo Ab];cases g:cG.contains c with
  |true=>rw[a,g]at q;exact cp q
  |false=>
   refine cS ⟨_,rfl,_,_,rfl,rfl,?_⟩;rw[mo Oc];rw[a,g]at q;exact q
def EG:Sp:=λ vs H Q ω=>∃x:U1,vs=[.str x]/\Q (.bl (bN.contains x)) H
theorem J3:bL ["word"] ["word"] (bg D5):=by walk_at "c"
theorem fO(x:U1):∀l:List U1,iM (.str x) (l.map V.str)=l.contains x
 |[]=>rfl
 |y::r=>by
  have a:=fO x r;unfold iM at a ⊢;rw[dJ,rV,a,uq];show((y==x)||r.contains x)=((x==y)||r.contains x);rw[show(y==x)=(x==y)from BEq.comm]
theorem CH:∀l:List U1,(l.map V.str).all je=true
 |[]=>rfl
 |_::r=>by rw[dJ,oA,CH r];rfl
theorem gI{f:V0}{e:RN}(F:fD K "is_told" "is_told" D5 f e)(T:Txt K mg):bc P w K mg base eE 1 f e ["word"] EG:=by
 refine F.ok J3 (λ vs H Q E h=>?_) (λ cdv A outer s H vs Q E hr h=>?_)
 ·obtain⟨c,rfl,ω⟩:=h;rfl
 obtain⟨x,rfl,q⟩:=h;obtain⟨a,g,i⟩:=T.toldW;refine⟨_,aN (bp (fC nG (pv 0) (Ik rfl g) (by with_unfolding_all rfl))),?_⟩;refine⟨_,rfl,a,_,rfl,.inr (i H),rfl,CH bN,?_⟩;show Q (.bl (iM (.str x) (bN.map V.str))) H;rw[fO];exact q
def iZ(f:Tx->Bool):Sp:=λ vs H Q ω=>∃x:U1,vs=[.str x]/\x.length<=Ru/\∀a,ao H a->Q (.bl (f (aV x))) a
theorem zF{H:Hp}{p:V0}(h:H p=none)(o:HO):ao H (ar H p o):=λ b u q=>by rw[aU (bY q h)];exact q
theorem zM:aV "0"=[48]:=by decide+kernel
theorem Ki(c:Nat)(y:U1)(d:Nat)(a:aV y=[d]):decide (V.str ⟨#[c]⟩=V.str y)=decide (c=d):=by
 have e:y=⟨#[d]⟩:=dB a;rw[e];by_cases h:c=d
 ·rw[h];simp
 ·have g:¬(V.str ⟨#[c]⟩=V.str ⟨#[d]⟩):=λ z=>h (by injection z with z;injection z with z;simpa using z);rw[UN h,UN g]
theorem Da(l:Tx)(p:Nat->Bool):(l.map p).all id=l.all p:=by
 induction l with
 |nil=>rfl
 |cons c r a=>rw[dJ,oA,oA,a];rfl
theorem MJ:bL ["word"] ["word"] (bg FW):=by walk_at "c"
theorem gn{f:V0}{n:RN}(F:fD K "is_number" "is_number" FW f n)(T:Txt K mg):bc P w K mg base eE 1 f n ["word"] (iZ bD):=by
 refine F.ok MJ (λ vs H Q E h=>?_) (λ cdv A outer s H vs Q E hr h=>?_)
 ·obtain⟨x,rfl,ω⟩:=h;rfl
 obtain⟨x,rfl,m,q⟩:=h;obtain⟨L,B⟩:=T.longNumber;obtain⟨M,G⟩:=T.figures;refine⟨_,aE (bP (pX (GN xm xm aw (eH nJ rfl T.len Td (qI (pv 0))) (Au rfl B))) (aN (bp qz)) bW) (aE (bP (qM dy (gT jf (pv 0) aw (λ ω ω=>rfl)) aK) (aN (bp (fC dy (pv 0) aK (iu _)))) bW) (aN (bp (eH (zy rfl) rfl T.all PyProof.Rows.boot_all (qI (eX rfl (aD.plain (N:=["sign"]) rfl qP qP qP) (Ez (pv 0)) (λ C I s H=>y8 (i:=0) (show(["sign"]:List U1).Nodup by decide+kernel) rfl (Or.inl rfl)) (λ C I s H=>fC mq (pv 0) (lZ rfl G) (by with_unfolding_all rfl)))))))),?_⟩;refine⟨_,rfl,_,rfl,m,_,_,rfl,rfl,_,rfl,?_⟩;have a:=aM x;by_cases o:(1:Int)<=(x.length:Int)
 ·rw[UO o];refine cp ⟨_,_,rfl,rfl,_,rfl,?_⟩;by_cases u:(x.length:Int)<=9
  ·rw[UO u];refine cS ?_;obtain⟨c,r,e⟩:∃c r,aV x=c::r:=by
    cases e:aV x with
    |nil=>rw[e]at a;simp at a;lia
    |cons c r=>exact⟨c,r,rfl⟩
   have hr:r.length<=8:=by rw[e]at a;simp at a;lia
   have v:bD (aV x)=(if c=48 then r.isEmpty else(c::r).all λ y=>cG.contains y):=by rw[e];simp[bD,hr]
   refine⟨_,rfl,x,0,c,rfl,rfl,m,by show dQ (aV x) ((0:Nat):Int)=some c;exact gB (by rw[e];rfl),rfl,_,rfl,?_⟩;rw[Ki c "0" 48 zM];by_cases g:c=48
   ·rw[UO g];refine cp ⟨_,rfl,rfl,?_⟩;have j:decide (V.str x=V.str "0")=bD (aV x):=by
     rw[v,UL g];cases r with
     |nil=>
      have:x="0":=dB (by rw[e,zM,g]);rw[this];simp
     |cons d r=>
      have:¬V.str x=V.str "0":=λ z=>by
       injection z with z
       rw[z,zM]at e;cases e
      rw[UN this];rfl
    rw[j];exact q H (ao.refl H)
   ·rw[UN g];refine cS ⟨_,rfl,_,rfl,λ D J=>Dw none [] (λ c=>.bl (cG.contains c)) rfl (λ c ω l K k=>⟨_,rfl,_,_,rfl,rfl,by rw[mo Ab];exact k⟩) m ?_⟩;refine⟨D,(aV x).map λ c=>cG.contains c,rfl,az.of (by rw[bu,i6];rfl),?_⟩;rw[Da];have:=q _ (zF J (.lst (x.cps.toList.map λ c=>V.bl (cG.contains c))));rw[v,UK g,<-e]at this;exact this
  ·rw[UN u];refine cp ?_;have j:bD (aV x)=false:=by
    cases e:aV x with
    |nil=>rfl
    |cons c r=>
     have:¬r.length<=8:=by rw[e]at a;simp at a;lia
     simp[bD,this]
   have:=q H (ao.refl H);rw[j]at this;exact this
 ·rw[UN o];refine cS ⟨_,rfl,cp ?_⟩;have j:aV x=[]:=List.eq_nil_of_length_eq_zero qR;have:=q H (ao.refl H);rw[j]at this;exact this
theorem M7:bL ["word"] ["word"] (bg GO):=by walk_at "c"
theorem fc{f:V0}{m:RN}(F:fD K "is_name_row" "is_name_row" GO f m)(T:Txt K mg):bc P w K mg base eE 1 f m ["word"] (iZ cE):=by
 refine F.ok M7 (λ vs H Q E h=>?_) (λ cdv A outer s H vs Q E hr h=>?_)
 ·obtain⟨x,rfl,ω⟩:=h;rfl
 obtain⟨x,rfl,g,q⟩:=h;obtain⟨M,G⟩:=T.longName;obtain⟨O,I⟩:=T.figures;obtain⟨R,n⟩:=T.small;refine⟨_,aE (bP (pX (GN xm xm aw (eH nJ rfl T.len Td (qI (pv 0))) (Au rfl G))) (aN (bp qz)) bW) (aN (bp (xO (fC mq (gT jf (pv 0) aw (λ ω ω=>rfl)) (lZ rfl n) (by with_unfolding_all rfl)) (oU (eH (zy rfl) rfl T.all PyProof.Rows.boot_all (qI (eX rfl (aD.plain (N:=["sign"]) rfl qP qP qP) (Ez (pv 0)) (λ C J s H=>y8 (i:=0) (show(["sign"]:List U1).Nodup by decide+kernel) rfl (Or.inl rfl)) (λ C J s H=>ud (fC mq (pv 0) (lZ rfl n) (by with_unfolding_all rfl)) (oU (fC mq (pv 0) (lZ rfl I) (by with_unfolding_all rfl))))))))))),?_⟩;refine⟨_,rfl,_,rfl,g,_,_,rfl,rfl,_,rfl,?_⟩;have a:=aM x;by_cases o:(1:Int)<=(x.length:Int)
 ·rw[UO o];refine cp ⟨_,_,rfl,rfl,_,rfl,?_⟩;by_cases u:(x.length:Int)<=8
  ·rw[UO u];refine cS ?_;obtain⟨c,r,e⟩:∃c r,aV x=c::r:=by
    cases e:aV x with
    |nil=>rw[e]at a;simp at a;lia
    |cons c r=>exact⟨c,r,rfl⟩
   have hr:r.length<=7:=by rw[e]at a;simp at a;lia
   have v:cE (aV x)=(bA.contains c&&(c::r).all λ y=>bA.contains y||cG.contains y):=by rw[e];simp[cE,hr]
   refine⟨_,rfl,x,0,c,rfl,rfl,g,by show dQ (aV x) ((0:Nat):Int)=some c;exact gB (by rw[e];rfl),_,_,rfl,rfl,_,rfl,?_⟩;rw[mo zY];cases z:bA.contains c with
   |false=>
    refine cS ?_;have:=q H (ao.refl H);rw[v,z]at this;exact this
   |true=>
    refine cp ⟨_,rfl,_,rfl,λ D L=>Dw none [] (λ c=>.bl (bA.contains c||cG.contains c)) rfl (λ c ω l K k=>⟨_,rfl,_,_,rfl,rfl,_,rfl,?_⟩) g ?_⟩
    ·rw[mo zY];cases B:bA.contains c with
     |true=>rw[B]at k;exact cp k
     |false=>
      refine cS ⟨_,rfl,_,_,rfl,rfl,?_⟩;rw[mo Ab];rw[B]at k;exact k
    ·refine⟨D,(aV x).map λ c=>bA.contains c||cG.contains c,rfl,az.of (by rw[bu,i6];rfl),?_⟩;rw[Da];have:=q _ (zF L (.lst (x.cps.toList.map λ c=>V.bl (bA.contains c||cG.contains c))));rw[v,z,Bool.true_and,<-e]at this;exact this
  ·rw[UN u];refine cp ?_;have j:cE (aV x)=false:=by
    cases e:aV x with
    |nil=>rfl
    |cons c r=>
     have:¬r.length<=7:=by rw[e]at a;simp at a;lia
     simp[cE,this]
   have:=q H (ao.refl H);rw[j]at this;exact this
 ·rw[UN o];refine cS ⟨_,rfl,cp ?_⟩;have j:aV x=[]:=List.eq_nil_of_length_eq_zero qR;have:=q H (ao.refl H);rw[j]at this;exact this
def jZ:Sp:=λ vs H Q ω=>∃x:U1,vs=[.str x]/\x.length<=Ru/\∀a,ao H a->Q (.bl (cE (aV x)&&!bN.contains x)) a
theorem JT:bL ["word"] ["word"] (bg Ee):=by walk_at "c"
theorem gJ{f a c:V0}{e g i:RN}(F:fD K "is_name" "is_name" Ee f e)(o:bc P w K mg base eE 1 a g ["word"] (iZ cE))(b1:Binds K g ["word"] [])(k1:RM K (.ref a)=true)(u:mg "is_name_row"=some (.ref a))(v:bc P w K mg base eE 1 c i ["word"] EG)(y:Binds K i ["word"] [])(k2:RM K (.ref c)=true)(z:mg "is_told"=some (.ref c)):bc P w K mg base eE 2 f e ["word"] jZ:=by
 refine F.ok JT (λ vs H Q E h=>?_) (λ cdv A outer s H vs Q E hr h=>?_)
 ·obtain⟨x,rfl,ω⟩:=h;rfl
 obtain⟨x,rfl,B,q⟩:=h;refine⟨_,aN (bp (xO (mj o hr rfl u k1 b1 .nil kS (qI (pv 0))) (oU (JU (mj v hr rfl z k2 y .nil kS (qI (pv 0))))))),?_⟩;refine⟨_,rfl,x,rfl,B,λ j m=>⟨_,rfl,?_⟩⟩;cases n:cE (aV x)with
 |false=>
  refine cS ?_;have:=q j m;rw[n]at this;exact this
 |true=>
  refine cp ⟨_,rfl,x,rfl,_,rfl,?_⟩;have:=q j m;rw[n]at this;exact this
def FL:Sp:=λ vs H Q ω=>∃(x:U1)(k:Nat),vs=[.str x,.int k]/\k<=x.length/\x.length<=100000/\∀y:U1,aV y=((aV x).drop k).takeWhile bF->Q (.str y) H
theorem gF:bL ["text","at","end"] ["text","at"] (bg Er):=by walk_at "c"
theorem ND(l:Tx)(n:Nat)(h:n<=l.length)(a:(l.take n).all bF=true)(e:∀c,l[n]?=some c->bF c=false):l.takeWhile bF=l.take n:=by
 induction l generalizing n with
 |nil=>simp
 |cons c r g=>
  cases n with
  |zero=>
   have:=e c rfl;rw[j9,UK (by rw[this];exact dO)];rfl
  |succ n=>
   rw[List.take_succ_cons,oA,fV]at a;rw[j9,UL a.1,List.take_succ_cons,g n (by simpa using h) a.2 (λ d hd=>e d (by simpa using hd))]
theorem Cg{c:TT}{n:TS}{D:bU}{a:St}{H:Hp}(i:St->Hp->Prop)(j:St->Hp->Nat)(v:i a H)(x:∀a H,i a H->c a H λ b o=>if b=true then ∃N:St->Hp->Prop,(∀g H',N g H'->∃u,u<j a H/\(u=j g H'/\i g H'))/\n {D with nx:=N,ct:=N,bk:=D.nx} a o else D.nx a o):EW c n D a H:=
 ⟨λ m a H=>m=j a H/\i a H,⟨_,rfl,v⟩,λ m a H ⟨e,p⟩=>by subst e;exact x a H p⟩
theorem jx{f B:V0}{G I:RN}(F:fD K "row_at" "row_at" Er f G)(T:Txt K mg)(O:bc P w K mg base eE 1 B I ["sign"] BX)(b1:Binds K I ["sign"] [])(k1:RM K (.ref B)=true)(R:mg "is_row_sign"=some (.ref B)):bc P w K mg base eE 2 f G ["text","at"] FL:=by
 refine F.ok gF (λ vs H Q E h=>?_) (λ cdv A outer s H vs Q E hr h=>?_)
 ·obtain⟨x,k,rfl,ω⟩:=h;rfl
 obtain⟨x,k,rfl,S,U,q⟩:=h;have g:x.length<=Ru:=bR U qQ;have J:=aM x;refine⟨_,aE (qG 2 gF.nd (pv 1)) (aE (nF Sj (PW.pt (sQ (qM nh (pv 2) (eH nJ rfl T.len Td (qI (pv 0)))) (tE (fq (mj O hr rfl R k1 b1 .nil kS (qI (gT jf (pv 0) (pv 2) (λ ω ω=>rfl)))))))) (aN (sS (i:=2) gF.nd rfl (Or.inl rfl) aw uL))) (aN (bp (kz IP (pv 0) (ib (pv 1)) (ib (pv 2)))))),?_⟩;refine⟨_,rfl,?_⟩;have fin:∀n:Nat,k<=n->n<=x.length->(((aV x).drop k).take (n-k)).all bF=true->(∀c,(aV x)[n]?=some c->bF c=false)->aV (UG x (some (k:Int)) (some (n:Int)))=((aV x).drop k).takeWhile bF:=λ n v y o X=>by
  rw[Ni x v y];refine(ND _ (n-k) ?_ o λ c j=>X c ?_).symm
  ·rw[i8];lia
  ·rw[yk,show k+(n-k)=n by lia]at j;exact j
 let L:St->Hp->Prop:=λ z M=>M=H/\∃n:Nat,z=[some (.str x),some (.int k),some (.int n)]/\k<=n/\n<=x.length/\(((aV x).drop k).take (n-k)).all bF=true;let N:St->Hp->Nat:=λ z ω=>match z with|[_,_,some (.int n)]=>(x.length-n.toNat)|_=>0
 refine Cg L N ⟨rfl,k,rfl,aQ _,S,by simp⟩ ?_;rintro z M ⟨rfl,n,rfl,v,y,o⟩;refine⟨_,rfl,_,rfl,_,rfl,g,_,_,rfl,rfl,_,rfl,?_⟩;by_cases u:(n:Int)<(x.length:Int)
 ·rw[UO u];have C:n<(aV x).length:=by lia
  refine cp ⟨_,rfl,_,rfl,x,n,(aV x)[n],rfl,rfl,g,gB (dc C),(aV x)[n],rfl,_,rfl,?_⟩;cases hr:bF (aV x)[n]with
  |false=>
   refine cS ⟨_,rfl,_,rfl,_,rfl,_,rfl,_,rfl,x,rfl,g,q _ (fin n v y o λ c j=>?_)⟩;rw[dc C]at j;cases j;exact hr
  |true=>
   refine cp ⟨λ m D=>L m D/\N m D<x.length-n,λ m D ⟨a,b⟩=>⟨_,b,rfl,a⟩,?_⟩;refine⟨_,rfl,_,_,rfl,rfl,⟨rfl,n+1,rfl,qR,qR,?_⟩,?_⟩
   ·have e:((aV x).drop k).take (n+1-k)=((aV x).drop k).take (n-k)++[(aV x)[n]]:=by
     rw[show n+1-k=(n-k)+1 by lia,oz,yk,show k+(n-k)=n by lia,dc C];rfl
    rw[e,List.all_append,o,oA,hr];rfl
   ·show x.length-((n:Int)+1).toNat<x.length-n;lia
 ·rw[UN u];refine cS (cS ⟨_,rfl,_,rfl,_,rfl,_,rfl,_,rfl,x,rfl,g,q _ (fin n v y o λ c j=>?_)⟩);have:=(gm.mp j).1;lia
end
abbrev x_:RH:=K16.top 2
abbrev f_:RH:=fR x_ 0
structure qE(K:X0)(mg:U1->Option Y1)(Hc B f:V0):Prop where
 mH:mg "HouseError"=some (.ref Hc)
 mB:mg "BadWords"=some (.ref B)
 sup:tO K Hc
 xH:gY K Hc none=true
 xB:gY K B (some f)=true
 cls:ph K B
 no:aY K B "at"
 kp:RM K (.ref B)=true
 fn:W.isFn K (.ref f)=true
 sub:SM K B (.ref Hc)=some true
 isi:mg "isinstance"=none
 str:mg "str"=none
section
variable{P:Program}{w:V1}{K:X0}{mg:U1->Option Y1}{base:M1}
def fE(K:X0)(B:V0):Sp:=λ vs H Q ω=>∃x i,vs=[.ref x,.int i]/\H x=some (dA x B none)/\0<=i/\i<2^64/\∀a,H a=none->Q .non (ar (ar H x (dA x B (some a))) a (.xd [("at",.int i)]))
theorem JI:bL ["self","at"] ["self","at"] (bg f_):=by walk_at "c"
theorem CV(c:0<=i)(h:i<2^64):i.natAbs.log2<64:=by
 by_cases a:i.natAbs=0
 ·rw[a];decide
 ·rw[rR a];omega
theorem N8(c:0<=i)(h:i<2^64):(Rx (toString i)).length<=100:=by
 have e:=int_text_length_le (a:=i) (k:=64) qQ (CV c h);rw[ofString_length];omega
theorem lP{f n B:V0}{e:RN}(F:fD K "__init__" "BadWords.__init__" f_ f e)(D:qE K mg n B f):bc P w K mg base eE 1 f e ["self","at"] (fE K B):=by
 refine F.ok JI (λ vs H Q E h=>?_) (λ cdv A outer s H vs Q E hr h=>?_)
 ·obtain⟨x,i,rfl,ω⟩:=h;rfl
 obtain⟨x,i,rfl,g,j,m,q⟩:=h;refine⟨_,aE (dS (L5 D.sup rfl D.mH (qJ (pv 0) (zc (oY aK (oY (AH (pv 1)) AS)))))) (aN (KN (pv 0) (pv 1) rfl)),?_⟩;have hl:=N8 j m;refine⟨.ref x,rfl,_,rfl,qQ,.int i,rfl,.inl ⟨i,rfl,dv (CV j m) qQ,?_⟩⟩;have o:∀z:U1,(So++z).length=z.length:=λ z=>by rw[<-aM,<-aM,bE];rfl
 have a:(So++("no word of the language at ":U1)++Rx (toString i)).length<=Ru:=by
  rw[<-aM,bE,bX,aM,aM,o,RB];have:("no word of the language at ":U1).length=27:=by decide
  omega
 refine⟨_,rfl,a,a,x,B,some f,none,_,rfl,g,D.xB,(by show 1<=Ru;decide),?_⟩;exact⟨.int i,rfl,.ref x,rfl,x,B,rfl,g,D.cls,D.no,λ u c=>q u c⟩
def jU(H:Hp)(B:V0)(k:Nat)(E:XK):Prop:=∀a c,ao H a->a c=some (.xd [("at",.int k)])->E (.ref B) (some c) a
theorem u7{H:Hp}{B x:V0}{k:Nat}{E:XK}(h:jU H B k E)(u:k<2^64)(m:H x=none):fE K B [.ref x,.int k] (ar H x (dA x B none)) (λ v j=>v=.non/\∃e,j x=some (dA x B e)/\E (.ref B) e (ar j x (dG x B e))) E0:=by
 refine ⟨x,k,rfl,bu,by omega,by omega,λ dx a=>⟨rfl,some dx,?_,h _ dx (λ b o q=>?_) ?_⟩⟩;all_goals
  have g:dx≠x:=λ z=>by rw[z,bu]at a;cases a
  have c:H dx=none:=by rw[aU g]at a;exact a
 ·rw[aU (Ne.symm g),bu]
 ·have i:b≠x:=bY q m;have n:b≠dx:=bY q c;rw[aU i,aU n,aU i,aU i];exact q
 ·rw[aU g,bu]
abbrev jy(l:Tx):U1:=⟨l.toArray⟩
def GP(B:V0):Sp:=λ vs H Q E=>∃(x:U1)(k:Nat),vs=[.str x,.int k]/\x.length<=100000/\∃c r,(aV x).drop k=c::r/\
  (if (bD ((c::r).takeWhile bF) || cE ((c::r).takeWhile bF))=true then ∀ a,ao H a->Q (.str (jy ((c::r).takeWhile bF))) a
   else if bF c=false/\gZ.contains c=true then ∀a,ao H a->Q (.str (jy [c])) a else jU H B k E)
theorem g_:bL ["text","at","row"] ["text","at"] (bg FM):=by walk_at "c"
theorem jU.mono{H H':Hp}{B:V0}{k:Nat}{E:XK}(h:jU H B k E)(s:ao H H'):jU H' B k E:=λ a c e q=>h a c (s.trans e) q
theorem Aa(c:Nat)(r:Tx):(c::r).takeWhile bF=[]↔bF c=false:=by
 rw[j9];cases bF c<;>simp
theorem iL{f Hc B N I J L:V0}{O R S U X:RN}(F:fD K "word_at" "word_at" FM f O)(T:Txt K mg)(D:qE K mg Hc B N)(GI:bc P w K mg base eE 1 N R ["self","at"] (fE K B))(bi:Binds K R ["self","at"] [])(G1:bc P w K mg base eE 2 I S ["text","at"] FL)(b1:Binds K S ["text","at"] [])(k1:RM K (.ref I)=true)(m1:mg "row_at"=some (.ref I))(G2:bc P w K mg base eE 1 J U ["word"] (iZ bD))(b2:Binds K U ["word"] [])(k2:RM K (.ref J)=true)(m2:mg "is_number"=some (.ref J))(G3:bc P w K mg base eE 1 L X ["word"] (iZ cE))(b3:Binds K X ["word"] [])(k3:RM K (.ref L)=true)(m3:mg "is_name_row"=some (.ref L)):bc P w K mg base (f7 P w) 3 f O ["text","at"] (GP B):=by
 refine F.okX g_ (λ vs H Q E h=>?_) (λ cdv A outer s H vs Q E hr h=>?_)
 ·obtain⟨x,k,rfl,ω⟩:=h;rfl
 obtain⟨x,k,rfl,Y,c,r,a,h⟩:=h;obtain⟨t1,M⟩:=T.signs;have n:bw 1 _:=hr.mono qQ;have hk:k<x.length:=by
  have:=congrArg rW a;rw[i8,aM]at this;simp at this;omega
 have o:x.length<=Ru:=bR Y qQ;have u:dQ (aV x) ((k:Nat):Int)=some c:=gB (by
  have:((aV x).drop k)[0]?=some c:=by rw[a];rfl
  rw[yk]at this;simpa using this)
 refine⟨_,aE (qG 2 g_.nd (mj G1 hr rfl m1 k1 b1 .nil kS (qJ (pv 0) (pv 1)))) (aE (bP (PW.pt (xA (fq (mj G2 n rfl m2 k2 b2 .nil kS (qI (pv 2)))) (uP (fq (mj G3 n rfl m3 k3 b3 .nil kS (qI (pv 2))))))) (aN (bp (pv 2))) bW) (aE (bP (PW.pt (sQ (qM dy (pv 2) aK) (tE (mi mq (gT jf (pv 0) (pv 1) (λ ω ω=>rfl)) (lZ rfl M) (by with_unfolding_all rfl))))) (aN (bp (gT jf (pv 0) (pv 1) (λ ω ω=>rfl)))) bW) (aN (BE D.xB D.kp D.fn GI hr bi rfl D.mB (qI (pv 1)))))),?_⟩;refine⟨_,rfl,_,rfl,x,k,rfl,by omega,Y,λ y g=>?_⟩;rw[a]at g;have j:y=jy ((c::r).takeWhile bF):=dB g;have e:y.length<=Ru:=by
  rw[<-aM,g];refine bR (yn bF).length_le ?_;have:=congrArg rW a;rw[i8,aM]at this;omega
 refine⟨_,rfl,y,rfl,e,λ H1 v=>⟨_,rfl,?_⟩⟩;rw[g];cases Z:bD ((c::r).takeWhile bF)with
 |true=>
  rw[Z,Bool.true_or,UL rfl]at h;refine cp (cp ⟨_,rfl,?_⟩);rw[j];exact h H1 v
 |false=>
  refine cS ⟨_,rfl,y,rfl,e,λ H2 G=>⟨_,rfl,?_⟩⟩;rw[g];cases hm:cE ((c::r).takeWhile bF)with
  |true=>
   rw[hm,mQ,UL rfl]at h;refine cp ⟨_,rfl,?_⟩;rw[j];exact h H2 (v.trans G)
  |false=>
   rw[Z,hm,Bool.or_false,UK dO]at h;refine cS ⟨_,rfl,rfl,_,rfl,?_⟩;have e0:decide (V.str y=V.str "")=!bF c:=by
    cases C:bF c with
    |true=>
     refine UN λ z=>?_;injection z with z
     rw[z]at g;have:=(Aa c r).mp (by rw[<-g];decide+kernel);rw[C]at this;cases this
    |false=>
     refine UO ?_;rw[j,(Aa c r).mpr C];rfl
   rw[e0];cases C:bF c with
   |true=>
    rw[UK (by rw[C];simp)]at h;refine cS (cS ⟨_,rfl,(show 1<=Ru by decide),λ x' m=>u7 (h.mono (v.trans G)) (by omega) m⟩)
   |false=>
    refine cp ⟨_,rfl,_,rfl,x,k,c,rfl,rfl,o,u,_,_,rfl,rfl,_,rfl,?_⟩;rw[mo NH];cases hs:gZ.contains c with
    |true=>
     rw[UL ⟨C,hs⟩]at h;exact cp ⟨_,rfl,_,rfl,x,k,c,rfl,rfl,o,u,h H2 (v.trans G)⟩
    |false=>
     rw[UK (by rw[hs];simp)]at h;exact cS ⟨_,rfl,(show 1<=Ru by decide),λ x' m=>u7 (h.mono (v.trans G)) (by omega) m⟩
abbrev vT(l:Tx):V:=.str (jy l)
def HW(B:V0)(H:Hp)(Q:VK)(E:XK):aZ->Prop
 | .ok c=>∀a p,H p=none->ao H a->a p=some (.lst (c.map vT))->Q (.ref p) a
 | .error k=>jU H B k E
def Lr(K:X0)(B:V0):Sp:=λ vs H Q E=>(∃x:U1,vs=[.str x]/\x.length<=1000000/\(if x.length<=6000 then HW B H Q E (cu (aV x) 0)else jU H B 0 E))\/
 (∃v t,vs=[v]/\d_ K H v t/\S_ K t (.type "str")=some false/\jU H B 0 E)
theorem dW:bL ["text","cut","at","word"] ["text"] (bg ED):=by walk_at "c"
theorem Ml(l:Tx):l.drop (l.takeWhile bF).length=l.dropWhile bF:=by
 have h:=Hw l;have:l.drop (l.takeWhile bF).length=(l.takeWhile bF++l.dropWhile bF).drop (l.takeWhile bF).length:=by rw[h]
 rw[this,List.drop_left]
theorem kc{f Hc B fi Z:V0}{fd di d1:RN}(F:fD K "words" "words" ED f fd)(T:Txt K mg)(D:qE K mg Hc B fi)(GI:bc P w K mg base eE 1 fi di ["self","at"] (fE K B))(bi:Binds K di ["self","at"] [])(G1:bc P w K mg base (f7 P w) 3 Z d1 ["text","at"] (GP B))(b1:Binds K d1 ["text","at"] [])(k1:RM K (.ref Z)=true)(m1:mg "word_at"=some (.ref Z)):bc P w K mg base (f7 P w) 4 f fd ["text"] (Lr K B):=by
 refine F.okX dW (λ vs H Q E h=>?_) (λ cdv A outer s H vs Q E hr h=>?_)
 ·rcases h with⟨x,rfl,_⟩|⟨v,t,rfl,_⟩<;>rfl
 obtain⟨t1,lt⟩:=T.longText;obtain⟨t2,gp⟩:=T.gaps;have a0:bw 2 _:=hr.mono qQ;refine⟨_,aE (bP (PW.pt (xA (pX (fq (eH Mp rfl D.isi PyProof.Rows.boot_isinstance (qJ (pv 0) (yZ (v:=.ty "str") rfl D.str PyProof.Rows.boot_str rfl))))) (uP (qM iP (eH nJ rfl T.len Td (qI (pv 0))) (Au rfl lt))))) (aN (BE D.xB D.kp D.fn GI a0 bi rfl D.mB (qI aw))) bW) (aE (qG 1 dW.nd (cJ ix)) (aE (qG 2 dW.nd aw) (aE (nF (nK rfl rfl) (qM nh (pv 2) (eH nJ rfl T.len Td (qI (pv 0)))) (aN (bP (mi mq (gT jf (pv 0) (pv 2) (λ ω ω=>rfl)) (lZ rfl gp) (by with_unfolding_all rfl)) (aN (sS (i:=2) dW.nd rfl (Or.inl rfl) aw uL)) (aE (qG 3 dW.nd (mj G1 hr rfl m1 k1 b1 .nil (bx.passes λ ω ω ω ω q=>q) (qJ (pv 0) (pv 2)))) (aE (dS (gM i4 jL jK jG (pv 1) (qI (pv 3)))) (aN (sS (i:=2) dW.nd rfl (Or.inl rfl) (eH nJ rfl T.len Td (qI (pv 3))) uL))))))) (aN (bp (pv 1)))))),?_⟩;rcases h with⟨x,rfl,hz,h⟩|⟨v,t,rfl,ty,kt,h⟩
 ·have G:x.length<=Ru:=bR hz qQ;have d0:=aM x;refine⟨_,rfl,_,_,_,_,_,rfl,rfl,.str x,BI,_,rfl,?_⟩;refine cS ⟨_,rfl,_,rfl,G,_,_,rfl,rfl,_,rfl,?_⟩;by_cases hl:x.length<=6000
  ·rw[UL hl]at h;rw[UN (show ¬(6000:Int)<(x.length:Int)by omega)];refine cS ⟨qQ,λ p hp=>?_⟩;let Pv:St->Hp->Prop:=λ X L=>∃(n:Nat)(C:List Tx)(wd:Option V),X=[some (.str x),some (.ref p),some (.int n),wd]/\L p=some (.lst (C.map vT))/\ao H L/\n<=x.length/\C.length<=n/\cu (aV x) 0=pre C (cu ((aV x).drop n) n);let μ:St->Hp->Nat:=λ X ω=>match X with|[_,_,some (.int n),_]=>(x.length-n.toNat)|_=>0
   refine Cg Pv μ ⟨0,[],none,rfl,bu,zF hp _,dj _,dj _,by rw[Kc];rfl⟩ ?_;rintro X L ⟨n,C,wd,rfl,hd,M,hn,f0,e⟩;refine⟨_,rfl,_,rfl,x,rfl,G,_,_,rfl,rfl,_,rfl,?_⟩;by_cases N:(n:Int)<(x.length:Int)
   ·rw[UO N];have O:n<(aV x).length:=by omega
    have m:(aV x).drop n=(aV x)[n]::(aV x).drop (n+1):=ym O;generalize hcc:(aV x)[n]=c at m;have b0:dQ (aV x) ((n:Nat):Int)=some c:=gB (by rw[dc O,hcc]);refine cp ⟨λ g H2=>Pv g H2/\μ g H2<x.length-n,λ g H2 ⟨a,b⟩=>⟨_,b,rfl,a⟩,?_⟩;refine⟨_,rfl,_,rfl,x,n,c,rfl,rfl,G,b0,_,_,rfl,rfl,_,rfl,?_⟩;rw[mo Mh];rw[m,cu]at e;cases hg:gaps.contains c with
    |true=>
     rw[UL hg]at e;refine cp ⟨_,rfl,_,_,rfl,rfl,⟨n+1,C,wd,rfl,hd,M,by omega,by omega,e⟩,?_⟩;show x.length-((n:Int)+1).toNat<x.length-n;omega
    |false=>
     rw[UK (by rw[hg];exact dO)]at e;refine cS ⟨_,rfl,_,rfl,x,n,rfl,bR hl qQ,c,(aV x).drop (n+1),m,?_⟩;have R:((aV x).drop (n+1)).length=x.length-(n+1):=by rw[i8,aM]
     have go:∀(row:Tx)(H2:Hp),ao L H2->row≠[]->row.length<=x.length-n->cu (aV x) 0=pre (C++[row]) (cu ((aV x).drop (n+row.length)) (n+row.length))->
       aJ (An (xW K "list" yV (jX 1) (jO (jX 3) eQ))) (oi 2 (rq (λ xs H Q=>∃z:U1,xs=[.str z]/\z.length<=Ru/\Q (.int z.length) H) (jO (jX 3) eQ)) (uF λ i j=>i+j)) {nx:=λ g H2=>Pv g H2/\μ g H2<x.length-n,rt:=Q,bk:=λ ω ω=>False,ct:=λ ω ω=>False} [some (.str x),some (.ref p),some (.int n),some (vT row)] H2:=λ row H2 J u g0 c0=>by
      have S:=J _ _ hd;have rl:(jy row).length=row.length:=by rw[<-aM]
      refine⟨_,rfl,.inl ⟨rfl,_,az.of S⟩,_,rfl,p,_,_,rfl,rfl,S,by rw[bB,RB];omega,?_⟩;refine⟨_,rfl,_,rfl,_,rfl,by rw[rl,RB];omega,_,_,rfl,rfl,⟨n+row.length,C++[row],some (vT row),?_,?_,?_,by omega,?_,c0⟩,?_⟩
      ·rw[rl];rfl
      ·rw[bu,eZ];rfl
      ·intro b o q;rw[aU (bY q hp)];exact J _ _ (M _ _ q)
      ·have:0<row.length:=mR.mpr u;rw[bX];show C.length+1<=_;omega
      ·have:0<row.length:=mR.mpr u;show x.length-((n:Int)+((jy row).length:Int)).toNat<x.length-n;rw[rl];omega
     generalize hdr:(aV x).drop (n+1)=r at m e R;cases Y:(bD ((c::r).takeWhile bF)||cE ((c::r).takeWhile bF))with
     |true=>
      rw[UL rfl];have u:(c::r).takeWhile bF≠[]:=λ z=>by rw[z]at Y;exact UM Y qQ
      have y:bF c=true:=by
       cases q:bF c with
       |true=>rfl
       |false=>exact UM ((Aa c r).mpr q) u
      rw[UL y,Y,UL rfl,Fg]at e;refine λ H2 J=>go _ H2 J u ?_ ?_
      ·refine bR (yn bF).length_le ?_;show r.length+1<=_;omega
      ·rw[e,<-um,m,Ml,mM,UL y]
     |false=>
      rw[UK dO];cases y:bF c with
      |true=>
       rw[UK (by simp)];rw[UL y,Y,UK dO]at e;rw[e]at h;exact jU.mono h M
      |false=>
       rw[UK (by rw[y];exact dO)]at e;cases U:gZ.contains c with
       |true=>
        rw[UL ⟨rfl,rfl⟩];rw[UL U,Fg]at e;refine λ H2 J=>go [c] H2 J (by simp) (by show 1<=_;omega) ?_;rw[e];show _=pre (C++[[c]]) (cu ((aV x).drop (n+1)) (n+1));rw[hdr]
       |false=>
        rw[UK (by simp)];rw[UK (by rw[U];exact dO)]at e;rw[e]at h;exact jU.mono h M
   ·rw[UN N];refine cS ⟨_,rfl,?_⟩;have e0:(aV x).drop n=[]:=List.drop_eq_nil_of_le (by omega);rw[e0,cu]at e;rw[e]at h;refine h L p hp M ?_;rw[eu];exact hd
  ·rw[UK hl]at h;rw[UO (show(6000:Int)<(x.length:Int)by omega)];exact cp ⟨(show 1<=Ru by decide),λ x' I=>u7 h qQ I⟩
 ·refine⟨v,rfl,_,_,_,_,_,rfl,rfl,ty,kt,_,rfl,?_⟩;exact cp (cp ⟨(show 1<=Ru by decide),λ x' I=>u7 h qQ I⟩)
end
end K10
end
section
open PySem L2 TM WK
section
namespace K16
open P15 (Lb Fm Tm bO ig gq Ok aO aG fe iD)
open PW (Wd Hs Pg mJ Look qo tL jJ DC)
seal L2.PE L2.PA L2.PT L2.PS L2.fy L2.PG L2.lg L2.PI L2.PW
open RR (aZ aA bT a_ av rd dE cM c8 bQ b8 j8 dz cx gb fG bz bb)
structure xU(x:U1)(ws:List U1):Prop where
 len:x.length<=6000
 cut:∃tx,K10.cu (K10.aV x) 0=.ok tx/\ws=tx.map λ l=>(⟨l.toArray⟩:U1)
 few:ws.length<=6000
 wd:∀w∈ws,w.length<=6000
def Do(cw:V0):Sp:=λ vs H Q E=>(∃(x:U1)(c:List U1),vs=[.str x]/\xU x c/\∀a p,H p=none->ao H a->a p=some (.lst (c.map V.str))->Q (.ref p) a)\/∃x:U1,vs=[.str x]/\6000<x.length/\x.length<=1000000/\K10.jU H cw 0 E
def F8(c:CS)(cg:GC)(cb cw:V0)(K:X0)(k:Nat):Sp:=λ vs H Q E=>(∃(x:U1)(e:List U1),vs=[.str x]/\xU x e/\iz cg H/\To (gb e k) (λ p ω=>∀v a,(∀g,SY g H a)->iz cg a->kH K c a v p->Q v a) (∀a,(∀g,SY g H a)->E (.ref cb) none a))\/∃x:U1,vs=[.str x]/\6000<x.length/\x.length<=1000000/\K10.jU H cw 0 E
variable{H' H:Hp}
theorem sV{g:V0}(s:SY g H H')(h:H g=none):∀g',SY g' H H':=λ g'=>⟨λ b o ω t e=>s.k _ _ (bY e h) t e,λ b ps ω e=>s.t _ _ (bY e h) e⟩
theorem C_{ws:List U1}:∀{k:Nat}{xs ys:List (U1×U1)}{n m:Nat},bQ ws k xs n=.ok ys m->n<=m
 |0,_,_,_,_,h=>by cases h
 |k+1,xs,ys,n,m,h=>by
  unfold RR.bQ at h;split at h
  ·obtain⟨y,b,a,h⟩:=RR.au h;have:=tI a;have:=C_ h;lia
  ·cases h;lia
theorem CO{ws:List U1}{kf:Nat}:∀{k:Nat}{xs ys:List Wd}{n m:Nat},b8 ws kf k xs n=.ok ys m->n+ys.length<=m+xs.length
 |0,_,_,_,_,h=>by cases h
 |k+1,xs,ys,n,m,h=>by
  unfold RR.b8 at h;split at h
  ·obtain⟨y,b,a,h⟩:=RR.au h;obtain⟨g,i,j,o⟩:=RR.bj a;obtain⟨d,c,e,h⟩:=RR.au h;have:=Gy e;have:=CO h;rw[bX]at this;have:(1:Nat)=[d].length:=rfl;lia
  ·cases h;lia
variable{n m:Nat}
theorem Nj{ws:List U1}{k:Nat}{d:Hs}(h:dz ws k n=.ok d m):n+d.words.length<m:=by
 unfold RR.dz at h;obtain⟨x,i,e,h⟩:=RR.au h;obtain⟨g,o,u,v⟩:=RR.bj e;obtain⟨D,i2,a,h⟩:=RR.au h;have E:i<=i2:=by
  unfold RR.j8 at a;split at a
  ·obtain⟨y,j,c,a⟩:=RR.au a;obtain⟨g,o,u,v⟩:=RR.bj c;cases a;lia
  ·cases a;lia
 obtain⟨ω,G,c,h⟩:=RR.au h;obtain⟨H,I⟩:=RR.bS qP c;obtain⟨fs,J,z,h⟩:=RR.au h;have L:=C_ z;split at h
 ·cases h
 obtain⟨wd,M,A,h⟩:=RR.au h;have N:=CO A;have O:([]:List Wd).length=0:=rfl;split at h
 ·cases h
 obtain⟨ω,Q,C,h⟩:=RR.au h;obtain⟨R,S⟩:=RR.bS qP C;cases h;show n+wd.length<_;lia
theorem NA{ws:List U1}{k:Nat}{x:U1}{d:Wd}(h:c8 ws k x n=.ok d m):d.params.length<=4:=by
 unfold RR.c8 at h;obtain⟨ps,i,a,h⟩:=RR.au h;split at h
 ·cases h
 rename_i e;obtain⟨c,j,g,h⟩:=RR.au h;obtain⟨ω,o,u,h⟩:=RR.au h;obtain⟨t,v,y,h⟩:=RR.au h;cases h;exact lK e
theorem KJ{K:X0}{j:CS}{c:Hp}{hl:V0}{u:List V}{y:V}{d:Pg}{Q:V0->Hp->Prop}(z:az K c hl u)(A:A2 (gC K j c) u d.houses)(C:eP K j c y d.main)(q:∀x H',c x=none->ao c H'->kH K j H' (.ref x) d->Q x H'):∀x b:V0,c x=none->c b=none->¬b=x->zC j K [.ref x,.ref hl,y] (ar (ar c b (.own x)) x (.ins j.program b [])) (λ v g=>v=.non/\Q x g) E0:=λ x b i D n=>by
 have m:ao c (ar (ar c b (.own x)) x (.ins j.program b [])):=λ a o e=>by
  rw[aU (bY e i),aU (bY e D)];exact e
 exact⟨x,b,hl,y,u,d,rfl,bu,az.same z m,A.mono λ ω ω r=>gC.kp r (Kp.of m),eP.kp C (Kp.of m),λ H' E t=>⟨rfl,q x H' i (λ a o e=>E _ _ (bY e i) (m _ _ e)) t⟩⟩
theorem MN(T:∅){k:Nat}{cw:V0}(Z:aT P w K mg base 5 "words" ["text"] (Do cw))(I:aT P w K mg base 1 "need_few_open" ["row"] (GA ae K))(u:aX P w K mg base 1 aa "__init__" ["self","all_words"] (Gk ⟨aa,C_tb,LP,LQ⟩ K))(J:aX P w K mg base 2 aa "takes" ["self","word"] (nI ⟨aa,C_tb,LP,LQ⟩ K))(M:aT P w K mg base (8*k+10) "read_house" ["guest"] (BM (CS.mk Ct Cw Ch Cp aa aa aa aa B) ⟨aa,C_tb,LP,LQ⟩ ae K k))(S:aT P w K mg base 1 "need_few" ["found","most"] (tD ae K))(O:bK P w K mg base 3 aa "need" ["self","word"] (mC ⟨aa,C_tb,LP,LQ⟩ ae K))(R:aT P w K mg base (8*k+9) "read_word" ["guest","name"] (zi (CS.mk Ct Cw Ch Cp aa aa aa aa B) ⟨aa,C_tb,LP,LQ⟩ ae K k))(G:bK P w K mg base 2 aa "need_end" ["self"] (Co ⟨aa,C_tb,LP,LQ⟩ ae K))(c:aX P w K mg base 1 Cp "__init__" ["self","all_houses","main"] (zC (CS.mk Ct Cw Ch Cp aa aa aa aa B) K))(L:aT P w K mg base 2 "need_bounds" ["program"] (CW (CS.mk Ct Cw Ch Cp aa aa aa aa B) ae K)):aT P w K mg base (8*k+11) "read" ["text"] (F8 (CS.mk Ct Cw Ch Cp aa aa aa aa B) ⟨aa,C_tb,LP,LQ⟩ ae cw K k):=by
 refine aT.of T.f_read qr (λ ω ω ω ω ω ω us hl=>el1 us hl λ ω=>rfl) (λ vs H Q E h=>?_) (λ f cdv A outer s H vs Q E hr h=>?_)
 ·rcases h with⟨x,X,rfl,_⟩|⟨x,rfl,_⟩<;>rfl
 refine⟨_,(aE (qG 1 qr.nd (dH Z hr qS rfl (qI (ai 0)))) (aE (dS (dH I hr qS rfl (qI (ai 1)))) (aE (qG 2 qr.nd (ie T.Guest u hr qS rfl (qI (ai 1)))) (aE (qG 3 qr.nd (cJ ix)) (aE (nF (nK rfl rfl) (fq (jh (ai 2) T.Guest.cl J hr qS (qI aK))) (aN (dS (gM i4 jL jK jG (ai 3) (qI (dH M hr qS rfl (qI (ai 2)))))))) (aE (dS (dH S hr qS rfl (qJ (ai 3) (eJ T.c_MOST_HOUSES rfl)))) (aE (dS (jC (ai 2) T.Guest.cl O hr qS (qI aK))) (aE (qG 4 qr.nd (dH R hr qS rfl (qJ (ai 2) aK))) (aE (dS (jF (ai 2) T.Guest.cl G hr qS)) (aE (bP (pX (fq (eH (zy rfl) rfl T.z_all Jv (qI (eX rfl (aD.plain (N:=["name","kind"]) rfl qP qP qP) (jg (qO 4)) (λ C fp s H=>(show PG _ _ (Ar K 2 _)from kv (n:=2) rfl (eW (qH 0 (show(["name","kind"]:List U1).Nodup by decide+kernel)) (eW (qH 1 (show(["name","kind"]:List U1).Nodup by decide+kernel)) ku)))) (λ C fp s H=>(fC dy (ai 1) aK (iu _)))))))) (aN (jE T.x_BadForm hr rfl (qI aK))) bW) (aE (qG 5 qr.nd (ie T.Program c hr qS rfl (qJ (ai 3) (ai 4)))) (aE (dS (dH L hr qS rfl (qI (ai 5)))) (aN (bp (ai 5))))))))))))))),?_⟩;refine Av λ uz12 huz12 uz11 huz11 uz10 huz10 uz9 huz9 uz8 huz8 uz7 huz7 uz6 huz6 uz5 huz5 uz4 huz4 uz3 huz3 uz2 huz2 uz1 huz1=>?_;walk_at "r";rcases h with⟨x,X,rfl,hc,tb,q⟩|⟨x,rfl,l1,l2,q⟩
 case inr=>exact .inr ⟨x,rfl,l1,l2,q⟩
 unfold RR.gb at q;refine .inl ⟨x,X,rfl,hc,λ H1 p1 h1 s1 e1=>?_⟩;walk_at "n z1";refine⟨p1,X,rfl,e1,hc.few,ax (λ e=>?_) λ e=>?_⟩
 ·rw[UL e]at q;exact λ H2 s2=>q H2 λ g=>SY.of (s1.trans s2)
 rw[UK e]at q;walk_at "n z2";intro g dx e0 j0 nd;have s2:ao H1 (ar (ar H1 dx (HO.own g)) g (HO.ins aa dx [])):=λ a o e=>by
  rw[aU (bY e e0),aU (bY e j0)];exact e
 have c0:H g=none:=by
  cases z:H g with
  |none=>rfl
  |some o=>rw[s1 _ _ z]at e0;cases e0
 refine⟨g,dx,p1,X,rfl,bu,az.same (az.of e1) s2,hc.few,hc.wd,(tb.same s1).same s2,λ H3 k0 g3=>⟨rfl,?_⟩⟩;have S3:SY g H H3:=(SY.of (s1.trans s2)).trans (SY.ofx k0);have bf:(∀Y,(∀g,SY g H Y)->E (.ref ae) none Y)->BF ae g H E:=λ b Y s=>b Y (sV s c0);walk_at "n z3";refine aS.of λ p4 H4 h4 s4 e4=>?_;have g4:=g3.same s4;have S4:=bG S3 (SY.of s4);obtain⟨gx,rv,l0⟩:=g4.meth;have n4:p4≠g:=λ z=>by rw[z,l0]at e4;cases e4
 have m0:H p4=none:=S3.free n4 h4;walk_at "n z4";refine⟨AX K ⟨aa,C_tb,LP,LQ⟩ g p4 X (λ H v t=>gC K (CS.mk Ct Cw Ch Cp aa aa aa aa B) H v t) H [some (V.str x),some (V.ref p1),some (V.ref g),some (V.ref p4),none,none] (λ ω=>True) λ j (xs:List Hs) m=>(xs.flatMap λ h=>h.words.map Wd.body).length<=m/\To ((cx X k j xs m).bind (fG X k)) (λ p ω=>∀v Y,(∀g,SY g H Y)->iz ⟨aa,C_tb,LP,LQ⟩ Y->kH K (CS.mk Ct Cw Ch Cp aa aa aa aa B) Y v p->Q v Y) (∀Y,(∀g,SY g H Y)->E (.ref ae) none Y),⟨_,[],[],0,rfl,S4,g4,trivial,e4,.nil,dj _,dj _,q⟩,?_⟩;rintro jj σ H5 ⟨us,xs,m5,rfl,S5,g5,_,e5,r5,l5,lw,q⟩;cases jj with
 |zero=>exact q.elim
 |succ jj=>
 obtain⟨gx,rv,h5⟩:=g5.meth;walk_at "r";unfold RR.cx at q;refine⟨gx,_,h5,rfl,⟨g,X,m5,_,rfl,g5,qP,ax (λ e=>?_) λ e=>?_⟩⟩
 ·rw[UL e]at q;refine λ H6 s6 g6=>⟨_,rfl,ax (λ ω=>⟨_,λ ω ω z=>⟨jj,iH _,z⟩,.inl ⟨rfl,_,az.of (s6.lst n4 e5)⟩,g,X,m5+1,rfl,g6,To.mono (To.bind (To.bind q)) (λ b m7 eb q v7 H7 s7 g7 r7=>?_) λ b=>(bf b).same (bG S5 s6)⟩) λ z=>UM rfl z⟩;have S7:=bG s6 s7;have e7:=S7.lst n4 e5;have f0:SX p4 H7 (ar H7 p4 (.lst (us++[v7]))):=SX.put _;have e8:ar H7 p4 (.lst (us++[v7])) p4=some (.lst (us++[v7])):=bu;have lu:=r5.len;have l7:=Nj eb;have t0:=bR g7.le g7.len;refine⟨_,e7,qR,?_⟩;generalize ar H7 p4 (.lst (us++[v7]))=H8 at*;have k8:=Kq.sxl f0 e7;exact⟨_,xs++[b],m7,rfl,(bG S5 S7).side m0 f0,g7.lst e7 f0,trivial,e8,A2.snoc (r5.mono λ ω ω r=>r.kq ((g5.kq S7).trans k8)) (r7.kq k8),by rw[bX];show xs.length+1<=m7;lia,by rw[yl,bX];show _+(b.words.map Wd.body++[]).length<=m7;rw[eu,bB];lia,To.bnd q⟩
 rw[UK e]at q;refine⟨_,rfl,ax (λ z=>by cases z) λ ω=>?_⟩;have q:=show To (fG X k xs m5) _ _ from q
 unfold RR.fG at q;have lu:=r5.len;walk_at "n z5";refine⟨p4,us,12,rfl,e5,qQ,ax (λ e=>?_) λ e=>?_⟩
 ·rw[UL (by rw[<-lu];exact e)]at q;exact λ H6 s6=>q H6 (sV (bG S5 (SY.of s6)) c0)
 rw[UK (by rw[<-lu];exact e)]at q;have lf:xs.length<=12:=lK (by rw[<-lu];exact e);walk_at "n z6";refine⟨gx,_,h5,rfl,⟨g,X,m5,_,rfl,g5,qP,qP,To.mono (To.bind q) (λ ω m6 ω q H6 s6 g6=>?_) λ b=>(bf b).same S5⟩⟩;have S6:=bG S5 s6;walk_at "n z7";refine⟨g,X,m6,_,rfl,g6,To.mono (To.bind q) (λ mn m7 em q v7 H7 s7 g7 o7=>?_) λ b=>(bf b).same S6⟩;have S7:=bG S6 s7;obtain⟨gx,rv,h7⟩:=g7.meth;walk_at "n z8";refine⟨gx,_,h7,rfl,⟨g,X,m7,rfl,g7,?_⟩⟩;by_cases ee:aA X m7=""
 ·rw[UL ee];rw[UK (λ z=>z ee)]at q;walk_at "n z9";have n0:=o7;cases o7 with
  |@mk wa wx pt bv _ w1 w2 w3=>
  obtain⟨u0,zs,ez,hz,g0⟩:=w2.tup_inv;cases ez;have lz:zs.length=mn.params.length:=by rw[g0.length,bB]
  have lp:mn.params.length<=4:=NA em;refine⟨wa,rfl,⟨Cw,wx,_,w1,T.Word.cl,T.n_Word_params,_,rfl,pt,rfl,⟨_,hz⟩,λ D hD=>?_⟩⟩;refine Hu (ys:=zs) (λ σ=>∃a b,σ=[a,b]) (λ j v H=>∃t,mn.params[j]?=some t/\v=V.bl (decide (t.2="number"))) (λ j v H1 H2 h s=>h) ⟨none,none,rfl⟩ hD (by rw[RB];lia) (λ H1 s=>ay.same hz s) (λ j y σ hy o0 H8 K' s8 k8=>?_) (λ vs Hc Sc hv lv hR=>?_)
  ·obtain⟨a0,b0,rfl⟩:=o0;obtain⟨d,hd,p0⟩:=g0.at hy;rw[eK]at hd;obtain⟨p,q0,rfl⟩:=iJ.mp hd;obtain⟨pa,ys,rfl,r0,s0⟩:=p0.tup_inv;cases s0 with
   |cons c1 c2=>
   cases c2 with
   |cons c2 c3=>
   cases c3;cases c1;cases c2;walk_at "r";refine⟨_,ay.same r0 s8,rfl,⟨_,_,rfl,⟨_,_,rfl,rfl,rfl,k8 _ _ _ ⟨_,_,rfl⟩ (ao.refl _) ⟨p,q0,?_⟩⟩⟩⟩;exact congrArg V.bl (decide_eq_decide.mpr ⟨V.str.inj,congrArg V.str⟩)
  have ev:vs=(mn.params.map λ t:U1×U1=>decide (t.2=("number":U1))).map V.bl:=by
   rw[i6];exact AM _ (lv.trans lz) hR
  refine⟨D,rfl,_,az.of (ev▸hv),?_⟩;rw[show(mn.params.map λ t:U1×U1=>decide (t.2=("number":U1))).all id=mn.params.all λ p=>decide (p.2=("number":U1))by rw[List.all_map];rfl];have h0:=bG S7 (SY.of Sc);have gc:=g7.same Sc;refine ax (λ e=>?_) λ e=>?_
  ·rw[UL e]at q;exact λ x hx=>((bf q).same h0).new hx
  rw[UK e]at q;walk_at "n z10";have i0:=bG s6 s7;have k5:=((g5.kq i0).trans (Kq.of Sc));refine KJ (d:=⟨xs,mn⟩) (az.of (Sc _ _ (i0.lst n4 e5))) (r5.mono λ ω ω r=>r.kq k5) (eP.kq (Kq.of Sc) n0) λ y H9 ω s9 t9=>?_;walk_at "n z11";have lb:(bb ⟨xs,mn⟩).length<=20000:=by
   show((xs.flatMap λ h=>h.words.map Wd.body)++[mn.body]).length<=20000;rw[bX];have:=bR g5.le g5.len;show _+1<=_;lia
  have S9:=bG h0 (SY.of s9);refine⟨_,⟨xs,mn⟩,rfl,t9,lb,ax (λ e=>?_) λ e=>?_⟩
  ·rw[UL e]at q;exact λ d0 U=>q d0 (sV (bG S9 (SY.of U)) c0)
  rw[UK e]at q;refine ax (λ e=>?_) λ e=>?_
  ·rw[UL e]at q;exact λ d0 U=>q d0 (sV (bG S9 (SY.of U)) c0)
  rw[UK e]at q;intro d0 U;walk_at "n z12";exact q _ d0 (sV (bG S9 (SY.of U)) c0) ((gc.same s9).same U).tb (t9.same U)
 ·rw[UK ee];rw[UL ee]at q;exact(bf q).same S7
theorem Ep{P:Program}{w:V1}{K:X0}{mg:U1->Option Y1}{base:M1}{x:U1}{st:RH}{k:Nat}{ps:List U1}{sp sp':Sp}(F:Fn K mg x st)(e:∀(kV c g:Y1)(j:Option V0)(cdv ct:Y1)(us:List Y1),us.length=ps.length->Tv (SK x x (gO st) (fh st) (bg st) .none kV c g j cdv ct) ⟨us,[]⟩=pure (ps.zip us))(ok:∀f a,fD K x x st f a->bc P w K mg base eE k f a ps sp)(i:∀vs H Q E,sp' vs H Q E->sp vs H Q E):bJ P w K mg base k x ps sp':=by
 obtain⟨f,a,F,m⟩:=F.ex;exact⟨f,a,(ok f a F).imp i,F.binds e,F.kp,m⟩
theorem gK(T:∅):K10.Txt K mg:=by
 have s:∀{x y:U1},eY mg x (.str y)->∃t,mg x=some (.str y t):=λ c=>by
  obtain⟨u,m,t,rfl⟩:=c.ex;exact⟨t,m⟩
 have n:∀{x:U1}{y:Int},eY mg x (.int y)->∃t,mg x=some (.int y t):=λ c=>by
  obtain⟨u,m,t,rfl⟩:=c.ex;exact⟨t,m⟩
 refine⟨s T.c_FIGURES,s T.c_SMALL_LETTERS,s T.c_GREAT_LETTERS,s T.c_GAPS,s T.c_SIGNS,n T.c_LONGEST_TEXT,n T.c_LONGEST_NUMBER,n T.c_LONGEST_NAME,?_,T.z_len,T.z_all⟩;obtain⟨u,m,r⟩:=T.c_TOLD_WORDS.ex;cases r;refine⟨_,m,λ H=>?_⟩;exact T.t_TOLD_WORDS H
theorem pY{x:U1}{st:RH}{k:Nat}{ps:List U1}{sp:Sp}(F:Fn K mg x st)(e:∀(kV c g:Y1)(i:Option V0)(cdv ct:Y1)(us:List Y1),us.length=ps.length->Tv (SK x x (gO st) (fh st) (bg st) .none kV c g i cdv ct) ⟨us,[]⟩=pure (ps.zip us))(ok:∀f a,fD K x x st f a->bc P w K mg base eE k f a ps sp):∃f a,bc P w K mg base eE k f a ps sp/\Binds K a ps []/\RM K (.ref f)=true/\mg x=some (.ref f):=by
 obtain⟨f,a,F,m⟩:=F.ex;exact⟨f,a,ok f a F,F.binds e,F.kp,m⟩
theorem Mi(T:∅):bJ P w K mg base 2 "is_number" ["word"] zH:=by
 refine(Ep (sp:=K10.iZ K10.bD) (k:=1) (ps:=["word"]) T.DP (λ ω ω ω ω ω ω us hl=>el1 us hl λ ω=>rfl) (λ f a F=>K10.gn F (gK T)) λ vs H Q E h=>?_).mono qS;obtain⟨x,rfl,hl,q⟩:=h;exact⟨x,rfl,bR hl qS,q⟩
theorem M8(T:∅):bJ P w K mg base 2 "is_name" ["word"] vv:=by
 obtain⟨o,u,c,b1,e,g⟩:=pY (P:=P) (w:=w) (base:=base) (ps:=["word"]) T.DS (λ ω ω ω ω ω ω us hl=>el1 us hl λ ω=>rfl) λ f a F=>K10.fc F (gK T);obtain⟨v,y,i,j,m,n⟩:=pY (P:=P) (w:=w) (base:=base) (ps:=["word"]) T.Jh (λ ω ω ω ω ω ω us hl=>el1 us hl λ ω=>rfl) λ f a F=>K10.gI F (gK T);refine Ep (sp:=K10.jZ) (k:=2) (ps:=["word"]) T.Jg (λ ω ω ω ω ω ω us hl=>el1 us hl λ ω=>rfl) (λ f a F=>K10.gJ F c b1 e g i j m n) λ vs H Q E h=>?_;obtain⟨x,rfl,hl,q⟩:=h;exact⟨x,rfl,bR hl qS,q⟩
theorem NL(T:∅){u a m:V0}{n:RN}(D:K10.qE K mg u a m)(GI:bc P w K mg base eE 1 m n ["self","at"] (K10.fE K a))(o:Binds K n ["self","at"] []):aT P w K mg base 5 "words" ["text"] (Do a):=by
 obtain⟨g1,d1,v,b1,y,z⟩:=pY (P:=P) (w:=w) (base:=base) (ps:=["word"]) T.DS (λ ω ω ω ω ω ω us hl=>el1 us hl λ ω=>rfl) λ f c F=>K10.fc F (gK T);obtain⟨g2,d2,A,C,G,I⟩:=pY (P:=P) (w:=w) (base:=base) (ps:=["word"]) T.DP (λ ω ω ω ω ω ω us hl=>el1 us hl λ ω=>rfl) λ f c F=>K10.gn F (gK T);obtain⟨g3,d3,J,L,M,N⟩:=pY (P:=P) (w:=w) (base:=base) (ps:=["sign"]) T.Jb (λ ω ω ω ω ω ω us hl=>el1 us hl λ ω=>rfl) λ f c F=>K10.hV F (gK T);obtain⟨g4,d4,O,R,S,U⟩:=pY (P:=P) (w:=w) (base:=base) (ps:=["text","at"]) T.Je (λ ω ω ω ω ω ω us hl=>el2 us hl λ ω ω=>rfl) λ f c F=>K10.jx F (gK T) J L M N;obtain⟨f5,d5,g,X⟩:=T.Jf.ex;have Y:=K10.iL (P:=P) (w:=w) (base:=base) g (gK T) D GI o O R S U A C G I v b1 y z;obtain⟨Z,d6,i,m6⟩:=T.Jd.ex;have G6:=K10.kc (P:=P) (w:=w) (base:=base) i (gK T) D GI o Y (g.binds (ps:=["text","at"]) (λ ω ω ω ω ω ω us hl=>el2 us hl λ ω ω=>rfl)) g.kp X;refine⟨Z,d6,(G6.mono qS).imp λ vs H Q E h=>?_,i.binds (ps:=["text"]) (λ ω ω ω ω ω ω us hl=>el1 us hl λ ω=>rfl),i.kp,m6⟩;rcases h with⟨x,ws,rfl,j,q⟩|⟨x,rfl,l1,l2,q⟩
 case inr=>exact .inl ⟨x,rfl,l2,by rw[UK (Nat.not_le_of_lt l1)];exact q⟩
 obtain⟨tx,e1,e2⟩:=j.cut;refine .inl ⟨x,rfl,bR j.len qS,?_⟩;rw[UL j.len,e1];intro H' p h1 s1 e;refine q H' p h1 s1 ?_;rw[e2,i6];exact e
inductive E9(K:X0)(vs:List V)(H:Hp)(Q:VK):Prop
 |mk(a:V0)(ns:List Int)(k:Nat)(a1:vs=[.ref a,.int (k:Int)])(a2:az K H a (ns.map V.int))(a3:∀c,Q (.int c) H):E9 K vs H Q
def za(K:X0):Sp:=λ vs H Q ω=>E9 K vs H Q
inductive BD(vs:List V)(H:Hp)(Q:VK):Prop
 |mk(c k:Int)(a1:vs=[.int c,.int k])(a2:0<=k)(a3:k<=100000)(a4:∀r,0<=r->Q (.int r) H):BD vs H Q
def vb:Sp:=λ vs H Q ω=>BD vs H Q
def lf(c:Nat):Bool:=K10.bA.contains c||K10.cG.contains c
structure eC(n:Nat)(x:U1):Prop where
 ok:x.cps.all lf=true
 sz:x.cps.size<=n
def iC(x:U1):Prop:=∃c r,K10.aV x=c::r/\K10.bA.contains c=true
theorem eC.app{a b:Nat}{x y:U1}(h:eC a x)(k:eC b y):eC (a+b) (x++y):=by
 refine⟨?_,?_⟩
 ·show(x.cps++y.cps).all _=true;rw[Array.all_append,fV];exact⟨h.ok,k.ok⟩
 ·show(x.cps++y.cps).size<=_;rw[Array.size_append];exact Nat.add_le_add h.sz k.sz
theorem eC.mono{a b:Nat}{x:U1}(h:eC a x)(l:a<=b):eC b x:=⟨h.ok,bR h.sz l⟩
variable{c:Nat}
theorem eC.one(h:lf c=true):eC 1 ⟨#[c]⟩:=⟨by show(#[c]:Array Nat).all _=true;simp[h],aQ _⟩
theorem iC.app{x:U1}(h:iC x)(y:U1):iC (x++y):=by
 obtain⟨c,r,e,s⟩:=h;exact⟨c,r++K10.aV y,by rw[K10.bE,e];rfl,s⟩
theorem iC.one(h:K10.bA.contains c=true):iC ⟨#[c]⟩:=⟨c,[],rfl,h⟩
noncomputable def bN:List U1:=Txt.split (Rx "house of has can main let in if then else new self elder set not yes no number truth") (Rx " ")
noncomputable def lets:U1:=Rx "abcdefghijklmnopqrstuvwxyz0123456789"
theorem Lk:bN=RR.bN:=by decide+kernel
theorem zo:lets.cps.toList.length=36:=by decide+kernel
theorem BA:lets.cps.toList.all lf=true:=by decide+kernel
theorem KP:(lets.cps.toList.take 26).all (λ c=>K10.bA.contains c)=true:=by decide+kernel
theorem AG{i:Int}(e:0<=i)(g:i<36):∃c,dQ lets.cps.toList i=some c/\eC 1 ⟨#[c]⟩:=by
 obtain⟨n,rfl⟩:=kM e;have a:n<lets.cps.toList.length:=by rw[zo];lia
 exact⟨_,gB (dc a),eC.one (i7.mp BA _ (ju a))⟩
theorem AF{i:Int}(e:0<=i)(j:i<26):∃c,dQ lets.cps.toList i=some c/\eC 1 ⟨#[c]⟩/\iC ⟨#[c]⟩:=by
 obtain⟨n,rfl⟩:=kM e;have a:n<lets.cps.toList.length:=by rw[zo];lia
 have g:lets.cps.toList[n]∈lets.cps.toList.take 26:=List.mem_take_iff_getElem.mpr ⟨n,by rw[zo];lia,rfl⟩;exact⟨_,gB (dc a),eC.one (i7.mp BA _ (ju a)),iC.one (i7.mp KP _ g)⟩
theorem LY:bN.length=19:=by decide+kernel
theorem LD:bN.all (λ x=>x.cps.all lf&&decide (x.cps.size<=6)&&(match K10.aV x with|[]=>false|c::_=>K10.bA.contains c))=true:=by decide+kernel
theorem Nh:(bN.map V.str).all je=true:=by
 rw[List.all_map];exact i7.mpr λ ω ω=>rfl
theorem K4{i:Int}(j:0<=i)(m:i<19):∃x,dQ (bN.map V.str) i=some (.str x)/\eC 6 x/\iC x:=by
 obtain⟨n,rfl⟩:=kM j;have g:n<bN.length:=by rw[LY];lia
 have h:=i7.mp LD _ (ju g);rw[fV,fV]at h;refine⟨bN[n],gB (by rw[eK,dc g];rfl),⟨h.1.1,UP h.1.2⟩,?_⟩;have a:=h.2;cases e:K10.aV bN[n]with
 |nil=>rw[e]at a;cases a
 |cons c r=>rw[e]at a;exact⟨c,r,e,a⟩
theorem KU{i:Nat}(h:i<n):iq n (i:Int)=some i:=by
 unfold iq;rw[UL qR,UL qR,lH]
theorem FD{x:U1}(h:eC 8 x)(i:iC x)(n:RR.bN.contains x=false):RR.av x=true:=by
 unfold RR.av;rw[n];obtain⟨c,r,e,s⟩:=i;have l:=h.sz;have o:(K10.aV x).all lf=true:=by have:=h.ok;rw[<-Array.all_toList]at this;exact this
 have l:(K10.aV x).length<=8:=by rw[K10.aM];exact l
 have g:K10.cE (K10.aV x)=true:=by
  rw[e]at o l ⊢;simp only[cj]at l;show(decide (r.length<=7)&&(K10.bA.contains c&&(c::r).all λ x=>K10.bA.contains x||K10.cG.contains x))=true;rw[s,UO (show r.length<=7 by lia)];exact o
 show(K10.cE (K10.aV x)&&!false)=true;rw[g];rfl
theorem L4:∀y∈RR.bN,∀c∈K10.aV y,c≠48:=by decide+kernel
theorem KY:∀y∈RR.bN,y.cps.size<=6:=by decide+kernel
theorem Mf{x:U1}(h:eC 8 x)(i:iC x):RR.av (x++Txt.mul (Rx "0") (if iM (V.str x) (bN.map V.str)=true then 1 else 0))=true:=by
 rw[K10.fO,Lk];cases c:RR.bN.contains x with
 |false=>
  rw[UK qS];have e:x++Txt.mul (Rx "0") 0=x:=by
   refine K10.dB ?_;rw[K10.bE,show K10.aV (Txt.mul (Rx "0") 0)=[]by decide+kernel,eu]
  rw[e];exact FD h i c
 |true=>
  rw[UL rfl];have z:Txt.mul (Rx "0") 1="0":=by decide+kernel
  rw[z];have g:=mO.mp c;have j:x.cps.size<=6:=KY x g;refine FD ⟨?_,?_⟩ (i.app _) ?_
  ·have a:=(h.app (b:=1) (y:="0") ⟨qP,qP⟩).ok;exact a
  ·show(x.cps++("0":U1).cps).size<=8;rw[Array.size_append];have:("0":U1).cps.size=1:=by decide+kernel
   lia
  ·cases hd:RR.bN.contains (x++"0")with
   |false=>rfl
   |true=>
    exact(L4 _ (mO.mp hd) 48 (by rw[K10.bE];exact i_ _ qP) rfl).elim
theorem Gx{xs:List U1}{hi:Option Int}(h:1<=xs.length):∃ys:List U1,cY (xs.map V.str) (some 1) hi=ys.map V.str/\(∀y∈ys,y∈xs)/\ys.length+1<=xs.length:=by
 unfold cY;have e:HT.bV (xs.map V.str).length 0 (some 1)=1:=by
  show(if(1:Int)<0 then((1:Int)+((xs.map V.str).length:Int)).toNat else min (1:Int).toNat (xs.map V.str).length)=1;rw[UK qS,bB];show min 1 xs.length=1;lia
 rw[e,<-List.map_drop,<-List.map_take];exact⟨_,rfl,λ y h=>uj (List.mem_of_mem_take h),by rw[ka,i8];lia⟩
theorem AK:∀{ys:List U1},(∀y∈ys,eC 1 y)->(ys.map (·.length)).sum<=ys.length
 |[],_=>aQ _
 |y::ys,h=>by
  rw[dJ,lJ,cj];have a:=(h y cy).sz;have b:=AK λ z e=>h z (cV _ e);have c:y.length=y.cps.size:=rfl;lia
theorem u3{p:U1->Prop}:∀{vs:List V},vs.length=n->(∀(j:Nat) v,vs[j]?=some v->∃x,v=.str x/\p x)->∃xs:List U1,vs=xs.map V.str/\xs.length=n/\∀x∈xs,p x:=by
 intro vs hl h;induction vs generalizing n with
 |nil=>exact⟨[],rfl,hl,λ ω h=>by cases h⟩
 |cons v vs c=>
  obtain⟨x,rfl,g⟩:=h 0 v rfl;obtain⟨xs,rfl,a,i⟩:=c (n:=vs.length) rfl λ j v m=>h (j+1) v m;exact⟨x::xs,rfl,by rw[<-hl];exact congrArg (·+1) a,λ y o=>(de.mp o).elim (λ e=>e▸g) (i y)⟩
theorem eC.join:∀{ys:List U1},(∀y∈ys,eC 1 y)->eC ys.length (RS (Rx "") ys):=by
 intro ys h;rw[show RS (Rx "") ys=Str.join (Rx "") ys from StrLaws.glued_eq_join _ _];induction ys with
 |nil=>exact⟨qP,qP⟩
 |cons x r a=>
  cases r with
  |nil=>exact h x cy
  |cons y r=>
   have c:=((h x cy).app (⟨qP,qP⟩:eC 0 (Rx ""))).app (a λ z e=>h z (cV _ e));exact c.mono (by simp only[cj];lia)
theorem LC{ys:List U1}(h:iC ⟨#[c]⟩):iC (RS (Rx "") (⟨#[c]⟩::ys)):=by
 obtain⟨a,r,e,s⟩:=h;exact⟨a,_,by rw[K10.ki,dJ,mV,e];rfl,s⟩
inductive Fu(vs:List V)(H:Hp)(Q:VK):Prop
 |mk(k:Nat)(sh:Int)(a1:vs=[.int (k:Int),.int sh])(a2:k<12)(a3:∀x H',ao H H'->RR.av x=true->Q (.str x) H'):Fu vs H Q
def oZ:Sp:=λ vs H Q ω=>Fu vs H Q
theorem Lj(T:∅):bJ P w K mg base 1 "_law_cell_at" ["_law_script","_law_k"] (za K):=by
 walk_at "h QZ OR 2"
 obtain⟨a,c,k,rfl,e,q⟩:=h;refine⟨_,(aE (bP (qM nh (ai 1) (qL T.z_len (qI (ai 0)))) (aN (bp (qD K (ai 0) (ai 1)))) bW) (aN (bp aw))),?_⟩;walk_at "r";refine⟨_,.inl e,ax (λ h=>?_) λ ω=>q _⟩;rw[bB]at h;have g:k<c.length:=by lia
 exact⟨_,e,_,gB (show(c.map V.int)[k]?=some (.int c[k])by rw[eK,dc g];rfl),q _⟩
theorem L9(T:∅):bJ P w K mg base 1 "_law_mixed" ["_law_cell","_law_k"] vb:=by
 walk_at "h QO OE 2"
 obtain⟨c,k,rfl,a,e,q⟩:=h;refine⟨_,(aN (bp (aC d9 (aC cB (aC me (aC cK (aC cK (aC cB (aC me (ai 0) aw) aw) (aC me (aC me aw (ai 1)) (ai 1))) (aC me aw (ai 1))) aw) aw) aw))),?_⟩;walk_at "r";exact⟨.inr ⟨qR,qR⟩,q _ (Int.ediv_nonneg (rM _ qS) qS)⟩
theorem gJ(T:∅):bJ P w K mg base 1 "_law_name" ["_law_k","_law_shift"] oZ:=by
  refine bJ.of T.IX jS (λ ω ω ω ω ω ω us hl=>el2 us hl λ ω ω=>rfl) (λ vs H Q E h=>?_) (λ f cdv A outer s H vs Q E hr h=>?_)
  · obtain⟨k,m,rfl,ω⟩:=h;rfl
  obtain⟨k,m,rfl,hk,q⟩:=h;refine⟨_,(aE (nB (i:=2) jS.nd rfl (Or.inr rfl) aK) (aE (qG 3 jS.nd (gM pM PySem.F.slot_str_split PySem.F.type_str_split L7 aK (qI aK))) (aE (vQ rfl jS.nd (i:=4) rfl rfl (aD.of (N:=["_law_j","_law_letters","_law_shift"]) (nl:=[none,some 2,some 1]) (cl:=[("_law_shift",s.heap.objs.size+1),("_law_letters",s.heap.objs.size+2)]) rfl qP qP rfl (lE rfl rfl) (nm:=["_law_shift","_law_letters"]) rfl qP rfl (λ i hi j hj=>by
            match i,hi with
            | 0,_=>cases hj
             |1,_=>cases hj;exact⟨_,rfl,rfl,rfl,.inl rfl⟩
             |2,_=>cases hj;exact⟨_,rfl,rfl,rfl,.inl rfl⟩
            )) (mu rfl T.mG (qI aw)) (λ C fp s H=>(qH 0 (show(["_law_j","_law_letters","_law_shift"]:List U1).Nodup by decide+kernel))) (λ C fp s H=>(gT jf (ai 1) (aC cB (aC cK (aC d9 (ai 2) aw) (aC me aw (ai 0))) aw) (λ ω ω=>rfl)))) (aE (qG 5 jS.nd (aC cK aw (aC cB (aC d9 (ai 1) aw) aw))) (aE (qG 6 jS.nd (qD K (cJ (qK (aC cB (aC d9 (ai 1) aw) (ai 5)) aw (aC EH (ai 5) aw))) (aC cB (ai 1) aw))) (aE (nr (gT jf (ai 2) (aC cB (aC cK (aC d9 (ai 1) aw) (ai 0)) aw) (λ ω ω=>rfl)) (JF (ai 4) (ai 6) M9)) (aE (qG 7 jS.nd (gT jf (ai 2) (aC cB (aC cK (aC d9 (ai 1) aw) (aC me (ai 0) (fg o_ rfl T.z_int nz (qI (fC dy (aC cB (ai 1) aw) aw (iu _)))))) aw) (λ ω ω=>rfl))) (aE (qG 8 jS.nd (aC cZ (ai 7) (gM pM rL rK tj aK (qI (kz (r:=hG K) qb (ai 4) (ib aw) (ib (ai 5))))))) (aE (qG 9 jS.nd (qD K (ai 3) (aC cB (aC cK (aC d9 (ai 1) aw) (ai 0)) aw))) (aE (bP (qM dy (aC cB (ai 1) aw) aw) (aN (qG 8 jS.nd (aC cZ (ai 9) (gT jf (ai 2) (aC cB (aC cK (aC d9 (ai 1) aw) (ai 0)) aw) (λ ω ω=>rfl))))) bW) (aE (bP (qM dy (aC cB (ai 1) aw) aw) (aN (qG 8 jS.nd (aC cZ (gT jf (ai 2) (aC cB (aC cK (aC d9 (ai 1) aw) (ai 0)) aw) (λ ω ω=>rfl)) (ai 9)))) bW) (aE (bP (qM dy (aC cB (ai 1) aw) aw) (aN (qG 8 jS.nd (gM pM rL rK tj aK (qI (aC iQ (cJ (qI (gT jf (ai 2) (aC cB (aC d9 (ai 1) aw) aw) (λ ω ω=>rfl)))) (kz (r:=hG K) qb (ai 4) (ib aw) (ib (aC cK aw (aC cB (ai 0) aw))))))))) bW) (aN (bp (aC cZ (ai 8) (aC N_ aK (fg o_ rfl T.z_int nz (qI (fC (r:=lF K false) nG (ai 8) (ai 3) (by with_unfolding_all rfl)))))))))))))))))))),?_⟩
  refine Av λ uz12 huz12 uz11 huz11 uz10 huz10 uz9 huz9 uz8 huz8 uz7 huz7 uz6 huz6 uz5 huz5 uz4 huz4 uz3 huz3 uz2 huz2 uz1 huz1=>?_;walk_at "r";walk_at "n z1";refine⟨rfl,_,_,rfl,rfl,rfl,by rw[RB];decide+kernel,by rw[RB];decide+kernel,?_⟩;intro G h1;rw[show Txt.split (Rx "house of has can main let in if then else new self elder set not yes no number truth") (Rx " ")=bN from rfl];have s1:=dR h1 (.lst (bN.map V.str));have e1:ar H G (.lst (bN.map V.str)) G=some (.lst (bN.map V.str)):=bu;generalize ar H G (.lst (bN.map V.str))=H1 at*;walk_at "n z2";intro D hD;refine o9 none [some (.str lets),some (.int m)] (λ j v H=>∃x,v=.str x/\eC 1 x) (λ ω ω ω ω h ω=>h) rfl hD (by rw[RB];decide) (λ i hi H1 K' s k=>?_) (λ vs H2 s2 I hl hR=>?_)
  · walk_at "r";obtain⟨c,hc,so⟩:=AG (i:=(m/7+5*(i:Int))%36) qR qR;exact⟨qP,c,hc,k _ _ (ao.refl _) ⟨_,rfl,so⟩⟩
  obtain⟨xs,rfl,lx,hx⟩:=u3 hl hR;walk_at "n z3";obtain⟨n,en,n1,n8⟩:∃n:Nat,1+m/5%8=(n:Int)/\1<=n/\n<=8:=⟨(1+m/5%8).toNat,qR,qR,qR⟩;rw[en];walk_at "n z4";refine⟨qR,?_⟩;refine aS.of λ p3 H3 h3 s3 e3=>?_;obtain⟨g,c0,m0⟩:∃g:Nat,dQ [V.int (m/40%(n:Int)),V.int 0,V.int ((n:Int)-1)] (m%3)=some (.int (g:Int))/\g<8:=by
    have h3:m%3=0\/m%3=1\/m%3=2:=by lia
    rcases h3 with e|e|e
    · have a:=rM (m/40) (show(n:Int)≠0 by lia);have b:=yj (m/40) (show(0:Int)<n by lia);refine⟨(m/40%(n:Int)).toNat,?_,qR⟩;rw[e,Int.toNat_of_nonneg a];rfl
    · exact⟨0,by rw[e];rfl,qQ⟩
    · refine⟨n-1,?_,qR⟩;rw[e,show((n-1:Nat):Int)=(n:Int)-1 by lia];rfl
  refine⟨_,az.of e3,_,c0,?_⟩;have d0:=s3 _ _ I;walk_at "n z5";obtain⟨c5,e0,f0⟩:=AG (i:=(m/11+(k:Int))%36) qR qR;refine⟨qP,c5,e0,_,d0,g,KU (by rw[bB];lia),?_⟩;have em:(xs.map V.str).set g (V.str ⟨#[c5]⟩)=(xs.set g ⟨#[c5]⟩).map V.str:=by rw[List.map_set]
  rw[em];have g0:∀x∈xs.set g ⟨#[c5]⟩,eC 1 x:=λ x h=>(List.mem_or_eq_of_mem_set h).elim (hx x) λ e=>e▸f0;have n0:(xs.set g ⟨#[c5]⟩).length=8:=by rw[List.length_set];exact lx
  generalize xs.set g ⟨#[c5]⟩=u at*;have nD:H D=none:=s1.free hD;have h0:G≠D:=bY e1 hD;have S4:ao H (ar H3 D (.lst (u.map V.str))):=λ b o hb=>by rw[aU (bY hb nD)];exact(s1.trans (s2.trans s3)) _ _ hb
  have a0:ar H3 D (.lst (u.map V.str)) D=some (.lst (u.map V.str)):=bu;have e4:ar H3 D (.lst (u.map V.str)) G=some (.lst (bN.map V.str)):=by rw[aU h0];exact(s2.trans s3) _ _ e1
  clear em c0 f0 e0 d0 I hx lx e3 s3 hR hl s2 s1 e1;generalize ar H3 D (.lst (u.map V.str))=H4 at*;walk_at "n z6";obtain⟨c6,i0,j0,k0⟩:=AF (i:=(m/7+(k:Int)*(if m%3=1 then 1 else 0))%26) (rM _ qS) (yj _ qS);refine .inr ⟨.inl ⟨qR,qR⟩,qP,c6,i0,?_⟩;have l0:∀(nm:U1) H',ao H H'->H' D=some (.lst (u.map V.str))->H' G=some (.lst (bN.map V.str))->eC 8 nm->iC nm->uz8 {nx:=λ x H'=>Q V.non H',rt:=Q} [some (V.int (k:Int)),some (V.int m),some (V.str lets),some (V.ref G),some (V.ref D),some (V.int (n:Int)),some (V.int (g:Int)),some (V.str ⟨#[c6]⟩),some (V.str nm),none] H':=by
    clear S4 a0 e4;intro nm H' S I z L hi;obtain⟨wd,hw,sw,iw⟩:=K4 (i:=(m/25+(k:Int))%19) qR qR;have U:∀(nm:U1) H',ao H H'->H' G=some (.lst (bN.map V.str))->eC 8 nm->iC nm->uz12 {nx:=λ x H'=>Q V.non H',rt:=Q} [some (V.int (k:Int)),some (V.int m),some (V.str lets),some (V.ref G),some (V.ref D),some (V.int (n:Int)),some (V.int (g:Int)),some (V.str ⟨#[c6]⟩),some (V.str nm),some (V.str wd)] H':=by
      clear z I S L hi;intro nm H' S z L hi;walk_at "n z12";refine⟨_,.inl (az.of z),rfl,Nh,.inr ⟨_,_,rfl,rfl,?_,?_,?_,_,rfl,?_,q _ H' S ?_⟩⟩
      · split<;>decide
      · split<;>decide
      · rw[RB];split<;>decide+kernel
      · have:=L.sz;have c:nm.length=nm.cps.size:=rfl;have d:(Txt.mul (Rx "0") (if iM (V.str nm) (bN.map V.str)=true then 1 else 0)).length<=1:=by split<;>decide+kernel
        lia
      · exact Mf L hi
    have X:∀(nm:U1) H',ao H H'->H' D=some (.lst (u.map V.str))->H' G=some (.lst (bN.map V.str))->eC 8 nm->iC nm->uz11 {nx:=λ x H'=>Q V.non H',rt:=Q} [some (V.int (k:Int)),some (V.int m),some (V.str lets),some (V.ref G),some (V.ref D),some (V.int (n:Int)),some (V.int (g:Int)),some (V.str ⟨#[c6]⟩),some (V.str nm),some (V.str wd)] H':=by
      clear z I S L hi;intro nm H' S I z L hi;walk_at "n z11";refine ax (λ ω=>?_) (λ ω=>U nm H' S z L hi);obtain⟨R,M,O,b0⟩:=AF (i:=m/7%26) qR qR;refine⟨rfl,qP,R,M,?_⟩;refine aS.of λ p6 H6 h6 s6 e6=>?_;refine⟨_,az.of (s6 _ _ I),?_⟩;obtain⟨Y,ey,hy,ly⟩:=Gx (xs:=u) (hi:=some (1+(k:Int)%8)) qR;rw[ey];refine aS.of λ p7 H7 h7 s7 e7=>?_;refine⟨_,s7 _ _ e6,_,e7,by rw[bB];show 1+Y.length<=_;lia,?_⟩;refine aS.of λ p8 H8 h8 s8 e8=>?_;have J:∀y∈(⟨#[R]⟩::Y:List U1),eC 1 y:=λ y h=>(de.mp h).elim (λ e=>e▸O) λ h=>g0 y (hy y h);refine⟨_,p8,⟨#[R]⟩::Y,rfl,rfl,az.of e8,?_,U _ H8 (S.trans (s6.trans (s7.trans s8))) ((s6.trans (s7.trans s8)) _ _ z) ((eC.join J).mono (by rw[cj];lia)) (LC b0)⟩;have:=AK J;rw[show(Rx "").length=0 by decide+kernel];rw[cj]at this ⊢;lia
    have Z:∀(nm:U1) H',ao H H'->H' D=some (.lst (u.map V.str))->H' G=some (.lst (bN.map V.str))->eC 8 nm->iC nm->uz10 {nx:=λ x H'=>Q V.non H',rt:=Q} [some (V.int (k:Int)),some (V.int m),some (V.str lets),some (V.ref G),some (V.ref D),some (V.int (n:Int)),some (V.int (g:Int)),some (V.str ⟨#[c6]⟩),some (V.str nm),some (V.str wd)] H':=by
      clear z I S L hi;intro nm H' S I z L hi;walk_at "n z10";refine ax (λ ω=>?_) (λ ω=>X nm H' S I z L hi);obtain⟨R,M,O,b0⟩:=AF (i:=(m/7+(k:Int))%26) qR qR;refine⟨qP,R,M,?_,X _ H' S I z ((O.app sw).mono qS) (b0.app _)⟩;have:=sw.sz;have c:wd.length=wd.cps.size:=rfl;have d:(⟨#[R]⟩:U1).length=1:=rfl;lia
    walk_at "n z8";refine⟨_,az.of z,_,hw,?_⟩;walk_at "n z9";refine ax (λ ω=>?_) (λ ω=>Z nm H' S I z L hi);obtain⟨R,M,O⟩:=AG (i:=(m/7+(k:Int))%36) qR qR;refine⟨qP,R,M,?_,Z _ H' S I z ((sw.app O).mono qS) (iw.app _)⟩;have:=sw.sz;have c:wd.length=wd.cps.size:=rfl;have d:(⟨#[R]⟩:U1).length=1:=rfl;lia
  walk_at "n z7";obtain⟨Y,ey,hy,ly⟩:=Gx (xs:=u) (hi:=some (n:Int)) qR;refine⟨rfl,_,az.of a0,?_⟩;rw[ey];refine aS.of λ p5 H5 h5 s5 e5=>?_;have J:∀y∈Y,eC 1 y:=λ y h=>g0 y (hy y h);refine⟨_,p5,Y,rfl,rfl,az.of e5,?_,_,rfl,?_,l0 _ H5 (S4.trans s5) (s5 _ _ a0) (s5 _ _ e4) ((j0.app (eC.join J)).mono qR) (k0.app _)⟩
  · have:=AK J;rw[show(Rx "").length=0 by decide+kernel];lia
  · have:=(eC.join J).sz;have c:(RS (Rx "") Y).length=(RS (Rx "") Y).cps.size:=rfl;have d:(⟨#[c6]⟩:U1).length=1:=rfl;lia
noncomputable def mI:Fm->Lb->Prop
 | .two,.str s=>s∈RR.iF
 | .number,.int i=>0<=i/\i<10^9
 | .two,_=>False
 | .number,_=>False
 |_,.str x=>RR.av x=true
 |_,_=>True
inductive Good:Tm->Prop
 |mk{f:Fm}{l:Lb}{ps:List Tm}:gq f l ps.length->mI f l->ps.length<=8->(∀p∈ps,Good p)->Good (.mk f l ps)
theorem l_(c:Int):∃n:Nat,c%12=(n:Int)/\n<12:=⟨(c%12).toNat,qR,qR⟩
inductive FP(K:X0)(vs:List V)(H:Hp)(Q:VK):Prop
 |mk(c sh:Int)(a1:vs=[.int c,.int sh])(a2:0<=c)(a3:∀v f l H',ao H H'->RT K H' v (Tm.mk f l []).dat->Good (.mk f l [])->Q v H'):FP K vs H Q
def yY(K:X0):Sp:=λ vs H Q ω=>FP K vs H Q
theorem Lh(T:∅)(a:bJ P w K mg base 1 "_law_name" ["_law_k","_law_shift"] oZ):bJ P w K mg base 2 "_law_atom" ["_law_cell","_law_shift"] (yY K):=by
 walk_at "h QG Ox 2"
 obtain⟨c,I,rfl,c0,q⟩:=h;refine⟨_,(aE (bP (qM dy (aC cB (ai 0) aw) aw) (aN (bp (cH (qJ aK (qD K (cJ (qJ (aC cB (aC d9 (ai 0) aw) aw) (aC cB (aC d9 (ai 0) aw) aw))) (aC cB (aC d9 (ai 0) aw) aw)))))) bW) (aE (bP (qM dy (aC cB (ai 0) aw) aw) (aN (bp (qD K (cJ (qK (cH (qI aK)) (cH (qJ aK qz)) (cH (qJ aK qz)))) (aC cB (aC d9 (ai 0) aw) aw)))) bW) (aN (bp (cH (qJ aK (qF a hr (qJ (aC cB (aC d9 (ai 0) aw) aw) (ai 1))))))))),?_⟩;walk_at "r";refine ax (λ ω=>?_) (λ ω=>?_)
 ·skip
  refine aS.of λ N J O m z=>?_;obtain⟨i,R,U⟩:∃i:Int,dQ [V.int (c/4%10),V.int (c/4%1000000000)] (c/40%2)=some (.int i)/\0<=i/\i<10^9:=by
   have u:c/40%2=0\/c/40%2=1:=by lia
   rcases u with e|e
   ·exact⟨c/4%10,by rw[e];rfl,qR,qR⟩
   ·exact⟨c/4%1000000000,by rw[e];rfl,qR,qR⟩
  refine⟨_,az.of z,_,R,?_⟩;refine aS.of λ L v u j o=>?_;exact q _ .number (.int i) v (m.trans j) (.tup (ay.of o) (.cons (.str _) (.cons (.int i) .nil))) (.mk rfl U qS λ p g=>by cases g)
 refine ax (λ ω=>?_) (λ ω=>?_)
 ·skip
  refine aS.of λ N J O m z=>?_;refine aS.of λ L v u j o=>?_;refine aS.of λ p3 H3 M C X=>?_;refine aS.of λ p4 D h4 y G=>?_;have S:=m.trans (j.trans (C.trans y));have M:c/4%3=0\/c/4%3=1\/c/4%3=2:=by lia
  rcases M with e|e|e
  ·rw[e];exact⟨_,az.of G,_,fM,q _ .self .non D S (.tup (ay.of ((j.trans (C.trans y)) _ _ z)) (.cons (.str _) .nil)) (.mk rfl trivial qS λ p g=>by cases g)⟩
  ·rw[e];exact⟨_,az.of G,_,fL,q _ .truth (.bl true) D S (.tup (ay.of ((C.trans y) _ _ o)) (.cons (.str _) (.cons (.bl _) .nil))) (.mk rfl trivial qS λ p g=>by cases g)⟩
  ·rw[e];exact⟨_,az.of G,_,kQ,q _ .truth (.bl false) D S (.tup (ay.of (y _ _ X)) (.cons (.str _) (.cons (.bl _) .nil))) (.mk rfl trivial qS λ p g=>by cases g)⟩
 obtain⟨n,Y,Z⟩:=l_ (c/4);rw[Y];refine⟨n,I,rfl,Z,λ x J m so=>?_⟩;refine aS.of λ L v u j o=>?_;exact q _ .name (.str x) v (m.trans j) (.tup (ay.of o) (.cons (.str _) (.cons (.str x) .nil))) (.mk rfl so qS λ p g=>by cases g)
theorem K2{α:Type}{xs:List α}{y:α}:(xs++[y])[(xs++[y]).length-1]?=some y:=by simp
inductive PV(K:X0)(H:Hp):V->Tm×Nat->Prop
 |mk{a:V0}{u:V}{e:Tm×Nat}:ay K H a [u,.int (e.2:Int)]->RT K H u e.1.dat->PV K H (.ref a) e
theorem PV.kt{K:X0}{v:V}{e:Tm×Nat}(h:PV K H v e)(k:Kt H H'):PV K H' v e:=by
 cases h with
 |mk a b=>exact .mk (ay.kt a k) (b.kt k)
theorem ko{α c:Type}{R e:α->c->Prop}(i:∀a b,R a b->e a b):∀{xs:List α}{ys:List c},R1 R xs ys->R1 e xs ys:=λ h=>by
 induction h with
 |nil=>exact .nil
 |cons a _ ih=>exact .cons (i _ _ a) ih
theorem ET{α g:Type}{R:α->g->Prop}:∀{xs c:List α}{ys e:List g},R1 R xs ys->R1 R c e->R1 R (xs++c) (ys++e):=λ h g=>by
 induction h with
 |nil=>exact g
 |cons a _ ih=>exact .cons a ih
theorem xl{α c:Type}{R:α->c->Prop}:∀{xs:List α}{ys:List c}{i:Nat}{x:α},R1 R xs ys->xs[i]?=some x->∃y,ys[i]?=some y/\R x y
 |_,_,0,_,.cons a _,h=>by cases h;exact⟨_,rfl,a⟩
 |_,_,i+1,_,.cons _ b,h=>by have:=xl (i:=i) b h;exact this
theorem nk{α a:Type}{R:α->a->Prop}:∀{xs:List α}{ys:List a},R1 R xs ys->xs.length=ys.length:=λ h=>by
 induction h with
 |nil=>rfl
 |cons _ _ ih=>exact congrArg (·+1) ih
inductive Gm(K:X0)(vs:List V)(H:Hp)(Q:VK):Prop
 |mk(sp:V0)(many:Nat)(A B:List V)(bs:List (Tm×Nat))(a1:vs=[.ref sp,.int (many:Int)])(a2:H sp=some (.lst (A++B)))(a3:R1 (PV K H) B bs)(a4:B.length=min many (A++B).length)(a5:(A++B).length<=1000)(a6:∀r tp us mx H',SX sp H H'->H' sp=some (.lst A)->ay K H' r [.ref tp,.int ((mx:Nat):Int)]->ay K H' tp us->bM K H' us (bO (bs.map (·.1)))->(∀e∈bs,e.2<=mx)->(∀M,(∀e∈bs,e.2<=M)->mx<=M)->Q (.ref r) H'):Gm K vs H Q
def u6(K:X0):Sp:=λ vs H Q ω=>Gm K vs H Q
theorem LS(T:∅):bJ P w K mg base 1 "_law_taken" ["_law_stack","_law_many"] (u6 K):=by
  refine bJ.of T.I_ Aj (λ ω ω ω ω ω ω us hl=>el2 us hl λ ω ω=>rfl) (λ vs H Q E h=>?_) (λ f cdv A outer s H vs Q E hr h=>?_)
  · obtain⟨sp,u,A,B,bs,rfl,ω⟩:=h;rfl
  obtain⟨sp,u,A',B,bs,rfl,Y,hB,d0,hl,q⟩:=h;refine⟨_,(aE (vQ rfl Aj.nd (i:=2) rfl rfl (aD.of (N:=["_law_k","_law_stack"]) (nl:=[none,some 0]) (cl:=[("_law_stack",s.heap.objs.size+1)]) rfl qP qP rfl (om rfl) (nm:=["_law_stack"]) rfl qP rfl (λ i hi j Z=>by
            match i,hi with
            | 0,_=>cases Z
             |1,_=>cases Z;exact⟨_,rfl,rfl,rfl,.inl rfl⟩
            )) (mu rfl T.mG (qI (eH (zQ rfl) rfl T.z_min AI (qJ (ai 1) (qL T.z_len (qI (ai 0))))))) (λ C fp s H=>(qH 0 (show(["_law_k","_law_stack"]:List U1).Nodup by decide+kernel))) (λ C fp s H=>(show PE _ _ (oh K "list" oq _)from JR i4 PySem.F.slot_list_pop PySem.F.type_list_pop Kx (ai 1)))) (aE (qG 2 Aj.nd (K8 (ai 2) (ib qN))) (aN (bp (cH (qJ (fg ji rfl T.iB iy (qI (eX rfl (aD.plain (N:=["_law_pair"]) rfl qP qP qP) (jR (ai 2)) (λ C fp s H=>(qH 0 (show(["_law_pair"]:List U1).Nodup by decide+kernel))) (λ C fp s H=>(qA K 0))))) (eH (r:=uc K) (zP rfl) rfl T.z_max xD (qI (aC iQ (eX rfl (aD.plain (N:=["_law_pair"]) rfl qP qP qP) (jR (ai 2)) (λ C fp s H=>(qH 0 (show(["_law_pair"]:List U1).Nodup by decide+kernel))) (λ C fp s H=>(qA K 0))) (cJ (qI aw))))))))))),?_⟩
  walk_at "s 3 z";have en:(if((A'++B).length:Int)<(u:Int)then((A'++B).length:Int)else(u:Int)).toNat=B.length:=by
    rw[d0];split<;>lia
  refine⟨_,.inl (az.of Y),?_,?_,λ D hD=>?_⟩
  · split<;>lia
  · split<;>lia
  rw[en];have J:D≠sp:=λ z=>bY Y hD z.symm;have y0:B.length<=1000:=by rw[bX]at hl;lia
  refine Lz (n:=B.length) none [some (.ref sp)] (λ ω ω=>True) (λ j vs H4=>H4 sp=some (.lst (A'++B.take (B.length-j)))/\vs=(B.drop (B.length-j)).reverse/\∀b o,b≠sp->b≠D->H b=some o->H4 b=some o) rfl (by rw[RB];lia) ⟨?_,?_,λ b o ω U h=>?_⟩ (λ j vs H4 Z hW=>?_) (λ vs H4 hW=>?_) (λ j x vs H4 K' Z ω hW G k=>?_) (λ vs H4 hW G hl=>?_)
  · rw[aU J.symm,Nat.sub_zero,j_];exact Y
  · rw[Nat.sub_zero,List.drop_length];rfl
  · rw[aU U];exact h
  · exact⟨Z,λ x H2 hy=>⟨hy.1,trivial⟩⟩
  · exact aQ _
  · obtain⟨L,rfl,g3⟩:=hW;obtain⟨m,em⟩:∃m,B.length-j=m+1:=⟨B.length-j-1,qR⟩;have a0:B.length-(j+1)=m:=by lia
    have X:m<B.length:=by lia
    rw[em]at L G k;rw[Bc X,<-eU]at L;walk_at "r";refine⟨.inl ⟨rfl,_,az.of L⟩,_,L,B[m],K2,?_⟩;rw[List.dropLast_concat];refine k _ _ (by rw[aU J];exact G) ⟨?_,?_,λ b o U b0 h=>?_⟩
    · rw[aU J.symm,a0];exact bu
    · rw[a0,ym X,uA]
    · rw[aU b0,aU U];exact g3 b o U b0 h
  obtain⟨L,rfl,g3⟩:=hW;rw[Nat.sub_self,List.take_zero,eu]at L;rw[Nat.sub_self,List.drop_zero]at G;have e0:Kt H H4:=⟨λ b xs e=>g3 b _ (λ z=>by rw[z,Y]at e;cases e) (λ z=>by rw[z,hD]at e;cases e) e,λ b o xs e=>g3 b _ (λ z=>by rw[z,Y]at e;cases e) (λ z=>by rw[z,hD]at e;cases e) e⟩;have f0:SX sp H H4:=λ b o U h=>g3 b o U (bY h hD) h;have g0:=ko (λ ω ω h=>h.kt e0) hB;clear hB;walk_at "n z1";refine⟨_,az.of G,λ l5 h0=>?_⟩;rw[List.reverse_reverse];have s5:=dR h0 (.lst B);have e5:ar H4 l5 (.lst B) l5=some (.lst B):=bu;generalize ar H4 l5 (.lst B)=H5 at*;have O:=ko (λ ω ω h=>PV.kt h (Kp.of s5).kt) g0;walk_at "n z2";have c0:B.length=bs.length:=nk O;refine⟨⟨_,az.of e5⟩,λ D6 i0=>?_⟩;refine k_ (ys:=B) none [] (λ j v H=>∃t,(bs.map (·.1))[j]?=some t/\RT K H v t.dat) (λ j v H1 H2 ⟨t,a,b⟩ s=>⟨t,a,b.kp (mX s)⟩) rfl i0 (by rw[RB];lia) (λ H1 s=>az.of (s _ _ e5)) (λ i y hy H1 K' s k=>?_) (λ c H6 s6 j0 k0 l0=>?_)
  · obtain⟨e,R,ai⟩:=xl O hy;cases ai.kt (Kp.of s).kt with
    |mk a b=>
      walk_at "r";exact⟨_,a,_,fM,k _ _ (ao.refl _) ⟨e.1,by rw[eK,R];rfl,b⟩⟩
  have n0:=E1 (by rw[k0,c0,bB]) l0;refine⟨D6,rfl,c,.inl ⟨az.of j0,λ t7 h7=>?_⟩⟩;have s7:=dR h7 (.tup c);have e7:ar H6 t7 (.tup c) t7=some (.tup c):=bu;generalize ar H6 t7 (.tup c)=H7 at*;have I:=s6.trans s7;refine⟨⟨_,az.of (I _ _ e5)⟩,λ D8 o0=>?_⟩;refine k_ (ys:=B) none [] (λ j v H=>∃e,bs[j]?=some e/\v=.int ((e.2:Nat):Int)) (λ ω ω ω ω h ω=>h) rfl o0 (by rw[RB];lia) (λ H1 s=>az.of (s _ _ (I _ _ e5))) (λ i y hy H1 K' s k=>?_) (λ z0 H8 s8 p0 q0 r0=>?_)
  · obtain⟨e,R,ai⟩:=xl O hy;cases ai.kt (Kp.of (I.trans s)).kt with
    |mk a b=>
      walk_at "r";exact⟨_,a,_,fL,k _ _ (ao.refl _) ⟨e,R,rfl⟩⟩
  cases oX (g:=λ e:Tm×Nat=>V.int ((e.2:Nat):Int)) (q0.trans c0) r0;refine aS.of λ p9 H9 h9 s9 e9=>?_;refine⟨D8,rfl,_,s9 _ _ p0,_,e9,by rw[bB];show bs.length+1<=_;lia,?_⟩;refine aS.of λ A0 B0 C0 s0 t0=>?_;refine⟨(bs.map λ e=>((e.2:Nat):Int))++[0],by rw[eZ,i6];exact az.of t0,by simp,λ m X=>?_⟩;have m0:0<=m:=X.2 0 (by simp);obtain⟨mx,rfl⟩:=kM m0;refine aS.of λ u0 v0 D0 w0 x0=>?_;have S:=s8.trans (s9.trans (s0.trans w0));refine q u0 t7 c mx v0 (f0.trans (SX.of (s5.trans (I.trans S)))) ((s5.trans (I.trans S)) _ _ L) (ay.of x0) (ay.of (S _ _ e7)) (n0.same (s7.trans S)) (λ e R=>?_) (λ M hM=>?_)
  · have:=X.2 _ (lM _ (eO.mpr ⟨e,R,rfl⟩));lia
  · rcases hU.mp X.1 with h|h
    · obtain⟨e,R,ee⟩:=eO.mp h;have:=hM e R;lia
    · have:=dN.mp h;lia
theorem xZ:∀c∈(Rx "+-*/<=;").cps.toList,(⟨#[c]⟩:U1)∈RR.iF:=by decide+kernel
theorem ql{K:X0}{sp:V0}{S:List V}{es:List (Tm×Nat)}{many:Nat}{Q:VK}{E:XK}(x:H sp=some (.lst S))(u:R1 (PV K H) S es)(hl:es.length<=1000)(O:many<=9)(y:∀e∈es.drop (es.length-9),e.2<=13)(v:∀e∈es,Good e.1/\e.1.depth<=e.2)(k:∀r m us g A B z bs H',SX sp H H'->H' sp=some (.lst A)->S=A++B->es=z++bs->A.length=z.length->bs.length=min many es.length->ay K H' r [.ref m,.int ((g:Nat):Int)]->ay K H' m us->bM K H' us (bO (bs.map (·.1)))->g<=13->aO (bs.map (·.1))<=g->(∀t∈bs.map (·.1),Good t)->Q (.ref r) H'):u6 K [.ref sp,.int (many:Int)] H Q E:=by
 have o:=nk u;obtain⟨n,D⟩:∃n,es.length-min many es.length=n:=⟨_,rfl⟩;have i:S=S.take n++S.drop n:=(pN _ _).symm;have C:es=es.take n++es.drop n:=(pN _ _).symm;have hd:R1 (PV K H) (S.drop n) (es.drop n):=by
  clear i C D y v k x;induction n generalizing S es with
  |zero=>exact u
  |succ n G=>
   cases u with
   |nil=>exact .nil
   |cons a b=>exact G b (by simp at hl;lia) (by simpa using o)
 have j:(es.drop n).length=min many es.length:=by rw[i8];lia
 refine⟨sp,many,S.take n,S.drop n,es.drop n,rfl,by rw[<-i];exact x,hd,by rw[<-i,nk hd,j,o],by rw[<-i,o];exact hl,λ r m us g H' sx I hr J L M N=>?_⟩;refine k r m us g _ _ (es.take n) (es.drop n) H' sx I i C (by rw[ka,ka,o]) j hr J L (N 13 λ e c=>y e ?_) (tu λ t h=>?_) (λ t h=>?_)
 ·have:es.drop n=(es.drop (es.length-9)).drop (n-(es.length-9)):=by rw[um];congr 1;lia
  rw[this]at c;exact uj c
 ·obtain⟨e,c,rfl⟩:=eO.mp h;exact bR (v e (uj c)).2 (M e c)
 ·obtain⟨e,c,rfl⟩:=eO.mp h;exact(v e (uj c)).1
inductive FU(K:X0)(vs:List V)(H:Hp)(Q:VK):Prop
 |mk(sp:V0)(c sh:Int)(S:List V)(es:List (Tm×Nat))(a1:vs=[.ref sp,.int c,.int sh])(a2:0<=c)(a3:H sp=some (.lst S))(a4:R1 (PV K H) S es)(a5:1<=es.length)(a6:es.length<=1000)(a7:(∀e∈es.drop (es.length-9),e.2<=13))(a8:(∀e∈es,Good e.1/\e.1.depth<=e.2))(a9:∀v t m A B as bs H',SX sp H H'->H' sp=some (.lst A)->S=A++B->es=as++bs->A.length=as.length->PV K H' v (t,m)->Good t->t.depth<=m->m<=14->t.size=1+aG (bs.map (·.1))->Q v H'):FU K vs H Q
def tm(K:X0):Sp:=λ vs H Q ω=>FU K vs H Q
theorem LV(T:∅)(g:bJ P w K mg base 1 "_law_name" ["_law_k","_law_shift"] oZ)(a:bJ P w K mg base 1 "_law_taken" ["_law_stack","_law_many"] (u6 K)):bJ P w K mg base 2 "_law_about" ["_law_stack","_law_cell","_law_shift"] (tm K):=by
 walk_at "h QN nQ 3"
 obtain⟨sp,c,sh,S,es,rfl,c0,hS,hp,l1,hl,hn,hg,q⟩:=h;refine⟨_,(aE (qG 3 nQ.nd (qF g hr (qJ (aC cB (aC d9 (ai 1) aw) aw) (ai 2)))) (aE (bP (qM dy (aC cB (ai 1) aw) aw) (aE (nr (qF a hr (qJ (ai 0) aw)) (kv (n:=2) rfl (eW (qH 4 nQ.nd) (eW (qH 5 nQ.nd) ku)))) (aN (bp (cH (qJ (cH (qK aK (qA K 4) (ai 3))) (aC cK (ai 5) aw)))))) bW) (aE (qG 6 nQ.nd (qD K (cJ (dq aw (dq aw (dq aw (dq aw (dq aw (qK aw aw aw))))))) (aC cB (aC d9 (ai 1) aw) aw))) (aE (bP (qM dy (aC cB (ai 1) aw) aw) (aE (nr (qF a hr (qJ (ai 0) (aC cK (eH (zQ rfl) rfl T.z_min AI (qJ (ai 6) aw)) aw))) (kv (n:=2) rfl (eW (qH 4 nQ.nd) (eW (qH 5 nQ.nd) ku)))) (aN (bp (cH (qJ (cH (dq aK (qK (qA K 4) (ai 3) (kz (r:=j7 K) uX (ai 4) (ib aw) qe)))) (aC cK (ai 5) aw)))))) bW) (aE (nr (qF a hr (qJ (ai 0) (ai 6))) (kv (n:=2) rfl (eW (qH 4 nQ.nd) (eW (qH 5 nQ.nd) ku)))) (aN (bp (cH (qJ (cH (qK (qD K (cJ (qJ aK aK)) (aC cB (ai 1) aw)) (ai 3) (ai 4))) (aC cK (ai 5) aw)))))))))),?_⟩;walk_at "s 6 z";obtain⟨n,en,Z⟩:=l_ (c/4);rw[en];refine⟨n,sh,rfl,Z,λ x H1 s1 so=>?_⟩;have y:∀{A B:List V}{G bs:List (Tm×Nat)}{I J:Hp}{C:Nat}{fm:Fm}{lb:Lb}{p:V0},SX sp H1 I->I sp=some (.lst A)->S=A++B->es=G++bs->A.length=G.length->C<=13->aO (bs.map (·.1))<=C->(∀t∈bs.map (·.1),Good t)->(bs.map (·.1)).length<=8->ao I J->gq fm lb (bs.map (·.1)).length->mI fm lb->RT K J (.ref p) (Tm.mk fm lb (bs.map (·.1))).dat->aS J (.tup [.ref p,.int ((C:Int)+1)]) λ p H4=>Q (.ref p) H4:=by
  intro A B G bs I J C fm lb p sx L M N O o v j h8 s3 ok lo rt;refine aS.of λ p4 H4 h4 z e4=>?_;refine q _ (.mk fm lb (bs.map (·.1))) (C+1) A B G bs H4 ((SX.of s1).trans (sx.trans (SX.of (s3.trans z)))) ((s3.trans z) _ _ L) M N O (.mk (ay.of e4) (rt.same z)) (.mk ok lo h8 j) ?_ qR rfl;show 1+aO (bs.map (·.1))<=C+1;lia
 have a0:=s1 _ _ hS;have b0:R1 (PV K H1) S es:=ko (λ ω ω h=>h.kt (Kp.of s1).kt) hp;walk_at "n z1";refine ax (λ ω=>?_) (λ ω=>?_)
 ·refine ql (many:=1) a0 b0 hl qS hn hg λ r tp us C A B G bs I sx L M N O R hr Y hu o v j=>⟨r,rfl,_,hr,rfl,_,_,rfl,_,_,rfl,rfl,tp,rfl,?_⟩;obtain⟨e,rfl⟩:∃e,bs=[e]:=rJ.mp qR;obtain⟨u,r0,rfl,U,f0⟩:=hu.inv;cases f0.nil_inv;refine⟨_,Y,_,fM,?_⟩;refine aS.of λ p3 J h3 s3 e3=>?_;exact⟨_,rfl,y sx L M N O o v j (by rw[bB];lia) s3 (fm:=.field) (lb:=.str x) rfl so (.tup (ay.of e3) (.cons (.str _) (.cons (U.same s3) (.cons (.str x) .nil))))⟩
 walk_at "n z2";refine aS.of λ p2 I h2 s2 e2=>?_;obtain⟨m,hm,m8⟩:∃m:Nat,dQ [V.int 0,V.int 1,V.int 2,V.int 3,V.int 8,V.int 1,V.int 2,V.int 5] (c/48%8)=some (.int (m:Int))/\m<=8:=by
  obtain⟨k,ek,hk⟩:∃k:Nat,c/48%8=(k:Int)/\k<8:=⟨(c/48%8).toNat,qR,qR⟩;rw[ek];have:k=0\/k=1\/k=2\/k=3\/k=4\/k=5\/k=6\/k=7:=by lia
  rcases this with rfl|rfl|rfl|rfl|rfl|rfl|rfl|rfl
  ·exact⟨0,rfl,qQ⟩
  ·exact⟨1,rfl,qQ⟩
  ·exact⟨2,rfl,qQ⟩
  ·exact⟨3,rfl,qQ⟩
  ·exact⟨8,rfl,qQ⟩
  ·exact⟨1,rfl,qQ⟩
  ·exact⟨2,rfl,qQ⟩
  ·exact⟨5,rfl,qQ⟩
 refine⟨_,az.of e2,_,hm,?_⟩;have d0:=s2 _ _ a0;have e0:R1 (PV K I) S es:=ko (λ ω ω h=>h.kt (Kp.of s2).kt) b0;walk_at "n z3";refine ax (λ ω=>?_) (λ k0=>?_)
 ·obtain⟨m2,g0,h0⟩:∃m2:Nat,(if(7:Int)<(m:Int)then 7 else(m:Int))+1=(m2:Int)/\1<=m2/\m2<=9:=by
   by_cases h7:(7:Int)<(m:Int)
   ·rw[UL h7];exact⟨8,rfl,qQ,qQ⟩
   ·rw[UK h7];exact⟨m+1,rfl,qR,qR⟩
  rw[g0];refine ql (many:=m2) d0 e0 hl h0.2 hn hg λ r tp us C A B G bs J sx L M N O R hr Y hu o v j=>⟨r,rfl,_,hr,rfl,_,_,rfl,_,_,rfl,rfl,tp,rfl,?_⟩;obtain⟨e,bs,rfl⟩:∃e r,bs=e::r:=by
   cases bs with
   |nil=>simp at R;lia
   |cons e r=>exact⟨e,r,rfl⟩
  obtain⟨u,ur,rfl,U,i0⟩:=hu.inv;refine⟨_,Y,_,fM,?_⟩;refine⟨tp,_,rfl,Y,λ p4 H4 z h4=>?_⟩;rw[lW]at h4;refine aS.of λ p5 H5 h5 D e5=>?_;exact⟨_,rfl,y ((SX.of s2).trans sx) L M N O o v j (by rw[bB];lia) (z.trans D) (fm:=.call) (lb:=.str x) (mS (dj _)) so (.tup (ay.of e5) (.cons (.str _) (.cons (U.same (z.trans D)) (.cons (.str x) (.cons (.tup (h4.same D) (i0.same (z.trans D))) .nil)))))⟩
 walk_at "n z4";refine ql (many:=m) d0 e0 hl qR hn hg λ r tp us C A B G bs J sx L M N O R hr Y hu o v j=>⟨r,rfl,_,hr,rfl,_,_,rfl,_,_,rfl,rfl,?_⟩;walk_at "n z5";refine aS.of λ p4 H4 h4 z e4=>?_;have c4:c%4=0\/c%4=1:=by
  have:=rM c (show(4:Int)≠0 by decide);lia
 obtain⟨fm,j0,X⟩:∃fm:Fm,dQ [V.str (Rx "new"),V.str (Rx "elder")] (c%4)=some (.str fm.s)/\sd fm=true:=by
  rcases c4 with e|e
  ·exact⟨.new,by rw[e];rfl,rfl⟩
  ·exact⟨.elder,by rw[e];rfl,rfl⟩
 refine⟨_,az.of e4,_,j0,?_⟩;refine aS.of λ p5 H5 h5 D e5=>?_;refine y ((SX.of s2).trans sx) L M N O o v j (by rw[bB];lia) (z.trans D) (fm:=fm) (lb:=.str x) (by cases fm<;>first|exact trivial|cases X) (by cases fm<;>first|exact so|cases X) ?_;refine .tup (ay.of e5) ?_;rw[xY X];exact .cons (.str _) (.cons (.str x) (.cons (.tup (Y.same (z.trans D)) (hu.same (z.trans D))) .nil))
theorem NB(T:∅)(o:bJ P w K mg base 1 "_law_name" ["_law_k","_law_shift"] oZ)(a:bJ P w K mg base 1 "_law_taken" ["_law_stack","_law_many"] (u6 K)):bJ P w K mg base 2 "_law_joined" ["_law_stack","_law_cell","_law_shift"] (tm K):=by
 walk_at "h QQ pA 3"
 obtain⟨sp,c,sh,S,es,rfl,c0,hS,hp,l1,hl,hn,hg,q⟩:=h;refine⟨_,(aE (qG 3 pA.nd (qF o hr (qJ (aC cB (aC d9 (ai 1) aw) aw) (ai 2)))) (aE (bP (PW.pt (sQ (qM dy (aC cB (ai 1) aw) aw) (tE (qM iP (qL T.z_len (qI (ai 0))) aw)))) (aE (nr (qF a hr (qJ (ai 0) aw)) (kv (n:=2) rfl (eW (qH 4 pA.nd) (eW (qH 5 pA.nd) ku)))) (aN (bp (cH (qJ (aC (r:=oR K) qf (cH (qI aK)) (ai 4)) (aC cK (ai 5) aw)))))) bW) (aE (bP (qM dy (aC cB (ai 1) aw) aw) (aE (nr (qF a hr (qJ (ai 0) aw)) (kv (n:=2) rfl (eW (qH 4 pA.nd) (eW (qH 5 pA.nd) ku)))) (aN (bp (cH (qJ (cH (qJ aK (qA K 4))) (aC cK (ai 5) aw)))))) bW) (aE (nr (qF a hr (qJ (ai 0) aw)) (kv (n:=2) rfl (eW (qH 4 pA.nd) (eW (qH 5 pA.nd) ku)))) (aE (bP (qM nh (qL T.z_len (qI (ai 4))) aw) (aN (bp (cH (qJ (cH (qJ aK (qA K 4))) (aC cK (ai 5) aw))))) bW) (aE (bP (qM dy (aC cB (ai 1) aw) aw) (aN (bp (cH (qJ (aC (r:=oR K) qf (cH (qJ aK (ai 3))) (ai 4)) (aC cK (ai 5) aw))))) bW) (aE (bP (qM dy (aC cB (ai 1) aw) aw) (aN (bp (cH (qJ (cH (dq aK (qK (qA K 4) (ai 3) (qA K 4)))) (aC cK (ai 5) aw))))) bW) (aN (bp (cH (qJ (aC (r:=oR K) qf (cH (qJ aK (gT jf aK (aC cB (aC d9 (ai 1) aw) aw) (λ ω ω=>rfl)))) (ai 4)) (aC cK (ai 5) aw)))))))))))),?_⟩;walk_at "s 8 z";obtain⟨n,en,d0⟩:=l_ (c/7);rw[en];refine⟨n,sh,rfl,d0,λ x H1 s1 so=>?_⟩;have m:∀{A B:List V}{Y bs:List (Tm×Nat)}{Z I:Hp}{R:Nat}{fm:Fm}{lb:Lb}{p:V0},SX sp H1 Z->Z sp=some (.lst A)->S=A++B->es=Y++bs->A.length=Y.length->R<=13->aO (bs.map (·.1))<=R->(∀t∈bs.map (·.1),Good t)->(bs.map (·.1)).length<=8->ao Z I->gq fm lb (bs.map (·.1)).length->mI fm lb->RT K I (.ref p) (Tm.mk fm lb (bs.map (·.1))).dat->aS I (.tup [.ref p,.int ((R:Int)+1)]) λ p H4=>Q (.ref p) H4:=by
  intro A B Y bs Z I R fm lb p sx J L M N v y j h8 g ok lo rt;refine aS.of λ p4 H4 h4 z e4=>?_;refine q _ (.mk fm lb (bs.map (·.1))) (R+1) A B Y bs H4 ((SX.of s1).trans (sx.trans (SX.of (g.trans z)))) ((g.trans z) _ _ J) L M N (.mk (ay.of e4) (rt.same z)) (.mk ok lo h8 j) ?_ qR rfl;show 1+aO (bs.map (·.1))<=R+1;lia
 have U:=s1 _ _ hS;have a0:R1 (PV K H1) S es:=ko (λ ω ω h=>h.kt (Kp.of s1).kt) hp;have e0:uz2 {nx:=λ x H'=>Q V.non H',rt:=Q} [some (V.ref sp),some (V.int c),some (V.int sh),some (V.str x),none,none] H1:=by
  have g0:uz3 {nx:=λ x H'=>Q V.non H',rt:=Q} [some (V.ref sp),some (V.int c),some (V.int sh),some (V.str x),none,none] H1:=by
   walk_at "n z3";refine ql (many:=2) U a0 hl qS hn hg λ r tp us R A B Y bs Z sx J L M N f0 hr O C v y j=>⟨r,rfl,_,hr,rfl,_,_,rfl,_,_,rfl,rfl,?_⟩;walk_at "n z4";refine⟨_,.inr O,ax (λ h2=>?_) (λ h2=>?_)⟩
   ·obtain⟨e,rfl⟩:∃e,bs=[e]:=rJ.mp (by have:=C.length;rw[mh,bB]at this;lia);obtain⟨u,r0,rfl,D,b0⟩:=C.inv;cases b0.nil_inv;refine⟨_,O,_,fM,?_⟩;refine aS.of λ p3 I h3 g G=>?_;exact m sx J L M N v y j (by rw[bB];lia) g (fm:=.nt) (lb:=.non) rfl trivial (.tup (ay.of G) (.cons (.str _) (.cons (D.same g) .nil)))
   have X:bs.length=2:=by
    have:=C.length;rw[mh,bB]at this;lia
   have ul:us.length=2:=by rw[C.length,mh,bB];exact X
   walk_at "n z5";refine ax (λ ω=>?_) (λ ω=>?_)
   ·skip
    refine aS.of λ p3 I h3 g G=>?_;refine⟨_,_,_,_,rfl,rfl,ay.of G,O.same g,by rw[RB,ul];show 2+2<=16777216;decide,λ p4 H4 z h4=>?_⟩;exact m sx J L M N v y j (by rw[bB];lia) (g.trans z) (fm:=.lt) (lb:=.str x) (by rw[bB];exact X) so (.tup h4 (.cons (.str _) (.cons (.str x) (C.same (g.trans z)))))
   walk_at "n z6";refine ax (λ ω=>?_) (λ ω=>?_)
   ·obtain⟨a1,a2,rfl⟩:∃a1 a2,bs=[a1,a2]:=by match bs,X with|[a1,a2],_=>exact⟨a1,a2,rfl⟩
    obtain⟨u1,r1,rfl,D,h0⟩:=C.inv;obtain⟨u2,r2,rfl,i0,j0⟩:=h0.inv;cases j0.nil_inv;refine⟨_,O,_,fM,_,O,_,fL,?_⟩;refine aS.of λ p3 I h3 g G=>?_;exact m sx J L M N v y j (by rw[bB];lia) g (fm:=.set) (lb:=.str x) rfl so (.tup (ay.of G) (.cons (.str _) (.cons (D.same g) (.cons (.str x) (.cons (i0.same g) .nil)))))
   walk_at "n z7";obtain⟨sg,k0,l0⟩:∃sg,dQ (Rx "+-*/<=;").cps.toList (c/7%7)=some sg/\(⟨#[sg]⟩:U1)∈RR.iF:=by
    obtain⟨k,ek,hk⟩:∃k:Nat,c/7%7=(k:Int)/\k<7:=⟨(c/7%7).toNat,qR,qR⟩;have hn:k<(Rx "+-*/<=;").cps.toList.length:=by rw[show(Rx "+-*/<=;").cps.toList.length=7 by decide+kernel];exact hk
    rw[ek];exact⟨_,gB (dc hn),xZ _ (ju hn)⟩
   refine⟨qP,sg,k0,?_⟩;refine aS.of λ p3 I h3 g G=>?_;refine⟨_,_,_,_,rfl,rfl,ay.of G,O.same g,by rw[RB,ul];show 2+2<=16777216;decide,λ p4 H4 z h4=>?_⟩;exact m sx J L M N v y j (by rw[bB];lia) (g.trans z) (fm:=.two) (lb:=.str ⟨#[sg]⟩) (by rw[bB];exact X) l0 (.tup h4 (.cons (.str _) (.cons (.str _) (C.same (g.trans z)))))
  walk_at "n z2";refine ax (λ ω=>?_) (λ ω=>g0);refine ql (many:=1) U a0 hl qS hn hg λ r tp us R A B Y bs Z sx J L M N f0 hr O C v y j=>⟨r,rfl,_,hr,rfl,_,_,rfl,_,_,rfl,rfl,tp,rfl,?_⟩;obtain⟨e,rfl⟩:∃e,bs=[e]:=rJ.mp qR;obtain⟨u,r0,rfl,D,b0⟩:=C.inv;cases b0.nil_inv;refine⟨_,O,_,fM,?_⟩;refine aS.of λ p3 I h3 g G=>?_;exact⟨_,rfl,m sx J L M N v y j (by rw[bB];lia) g (fm:=.nt) (lb:=.non) rfl trivial (.tup (ay.of G) (.cons (.str _) (.cons (D.same g) .nil)))⟩
 walk_at "n z1";refine ax (λ ω=>?_) (λ ω=>e0);refine⟨_,.inl (az.of U),ax (λ h3=>?_) (λ ω=>e0)⟩;refine ql (many:=3) U a0 hl qS hn hg λ r tp us R A B Y bs Z sx J L M N f0 hr O C v y j=>⟨r,rfl,_,hr,rfl,_,_,rfl,_,_,rfl,rfl,?_⟩;have m0:bs.length=3:=by
  have:=nk hp;lia
 refine aS.of λ p3 I h3 g G=>?_;refine⟨_,_,_,_,rfl,rfl,ay.of G,O.same g,?_,λ p4 H4 z h4=>?_⟩
 ·rw[RB,C.length,mh,bB];show 1+bs.length<=_;lia
 refine⟨_,rfl,m sx J L M N v y j (by rw[bB];lia) (g.trans z) (fm:=.iff) (lb:=.non) (by rw[bB];exact m0) trivial (.tup h4 (.cons (.str _) (C.same (g.trans z))))⟩
inductive FJ(K:X0)(vs:List V)(H:Hp)(Q:VK):Prop
 |mk(a:V0)(sh:Int)(ns:List Int)(a1:vs=[.ref a,.int sh])(a2:az K H a (ns.map V.int))(a3:ns.length<=40)(a4:∀v t H',ao H H'->RT K H' v t.dat->Good t->t.depth<=14->t.size<=ns.length+1->Q v H'):FJ K vs H Q
def yP(K:X0):Sp:=λ vs H Q ω=>FJ K vs H Q
theorem Mo(xs:List V)(v:V):cY (xs++[v]) none (some (-1))=xs:=by
 have e:HT.bV (xs++[v]).length (xs++[v]).length (some (-1))=xs.length:=by
  show(if(-1:Int)<0 then(-1+(((xs++[v]).length:Nat):Int)).toNat else min (-1:Int).toNat (xs++[v]).length)=_;rw[UL qS,bX];show(-1+((xs.length+1:Nat):Int)).toNat=_;lia
 unfold cY;rw[e];show((xs++[v]).drop 0).take (xs.length-0)=xs;simp
theorem Nz(xs:List V):cY xs (some (-9)) none=xs.drop (xs.length-9):=by
 have e:HT.bV xs.length 0 (some (-9))=xs.length-9:=by
  show(if(-9:Int)<0 then(-9+((xs.length:Nat):Int)).toNat else min (-9:Int).toNat xs.length)=_;rw[UL qS];lia
 unfold cY;rw[e,HT.j4,List.take_of_length_le (by rw[i8];lia)]
theorem zf{α e:Type}{R:α->e->Prop}:∀{ys:List e}{y:e}{xs:List α},R1 R xs (ys++[y])->∃c x,xs=c++[x]/\R1 R c ys/\R x y
 |[],y,_,.cons a .nil=>⟨[],_,rfl,.nil,a⟩
 |z::ys,y,_,.cons a b=>by
  obtain⟨c,x,rfl,h,r⟩:=zf b;exact⟨_::c,x,rfl,.cons a h,r⟩
theorem GV{α g:Type}{R:α->g->Prop}:∀{A B:List α}{c bs:List g},A.length=c.length->R1 R (A++B) (c++bs)->R1 R A c
 |[],_,[],_,_,_=>.nil
 |_::A,B,_::c,bs,e,.cons a b=>.cons a (GV (Nat.succ.inj e) b)
theorem Ft{α a:Type}{R:α->a->Prop}:∀(n:Nat){xs:List α}{ys:List a},R1 R xs ys->R1 R (xs.drop n) (ys.drop n)
 |0,_,_,h=>h
 |_+1,_,_,.nil=>.nil
 |n+1,_,_,.cons _ b=>Ft n b
noncomputable def TI(K:X0)(H:Hp)(a:V0)(sh:Int)(i:Nat)(σ:St)(H':Hp):Prop:=∃g S c j m,ao H H'/\H' g=some (.lst S)/\H g=none/\R1 (PV K H') S c/\1<=c.length/\c.length<=i+1/\(∀e∈c,Good e.1/\e.1.depth<=e.2)/\(∀e∈c,e.2<=14)/\aG (c.map (·.1))<=i+1/\σ=[some (.ref a),some (.int sh),some (.ref g),j,m]
theorem KS(T:∅)(I:bJ P w K mg base 1 "_law_mixed" ["_law_cell","_law_k"] vb)(m:bJ P w K mg base 2 "_law_atom" ["_law_cell","_law_shift"] (yY K))(J:bJ P w K mg base 2 "_law_about" ["_law_stack","_law_cell","_law_shift"] (tm K))(G:bJ P w K mg base 2 "_law_joined" ["_law_stack","_law_cell","_law_shift"] (tm K)):bJ P w K mg base 3 "_law_term" ["_law_cells","_law_shift"] (yP K):=by
 walk_at "h QF tW 2"
 obtain⟨a,L,ns,rfl,ha,hl,q⟩:=h;refine⟨_,(aE (qG 2 tW.nd (cJ (qI (cH (qJ (qF m hr (qJ aw (ai 1))) aw))))) (aE (nj Sj rfl (KQ rfl T.IY Hq (qI (ai 0))) (kv (n:=2) rfl (eW (qH 3 tW.nd) (eW (qH 4 tW.nd) ku))) (aE (qG 4 tW.nd (qF I hr (qJ (ai 4) (ai 3)))) (aE (bP (PW.pt (xA (qM nh (aC cB (ai 4) aw) aw) (uP (qM iP (qL T.z_len (qI (Lx rfl (aD.plain (N:=["_law_pair"]) rfl qP qP qP) (jR (kz (r:=hG K) qb (ai 2) (ib qN) qe)) (λ C fp s H=>(qH 0 (show(["_law_pair"]:List U1).Nodup by decide+kernel))) (λ C fp s H=>(qM iP (qA K 0) aw)) (λ C fp s H=>(ai 0))))) aw)))) (aN (dS (gM i4 jL jK jG (ai 2) (qI (cH (qJ (qF m hr (qJ (aC d9 (ai 4) aw) (ai 1))) aw)))))) (aN (bP (qM dy (aC cB (ai 4) aw) aw) (aN (dS (gM i4 jL jK jG (ai 2) (qI (qF J hr (qK (ai 2) (aC d9 (ai 4) aw) (ai 1))))))) (aN (dS (gM i4 jL jK jG (ai 2) (qI (qF G hr (qK (ai 2) (aC d9 (ai 4) aw) (ai 1)))))))))) (aN (bP (qM iP (qC K (qD K (ai 2) qN) aw) aw) (aN (qG 2 tW.nd (aC iQ (cJ (qI (cH (qJ (qC K (qD K (ai 2) qN) aw) aw)))) (kz (r:=hG K) qb (ai 2) qe (ib qN))))) bW))))) (aN (bp (qC K (qD K (ai 2) qN) aw))))),?_⟩;walk_at "s 3 z";refine⟨0,L,rfl,Int.le_refl _,λ v f0 l0 H1 s1 hv gv=>?_⟩;refine aS.of λ p2 H2 h2 s2 e2=>?_;refine aS.of λ p3 H3 h3 s3 e3=>?_;walk_at "n z1";have S3:=s1.trans (s2.trans s3);refine⟨⟨_,ha.same S3⟩,NF (ns.map V.int) (TI K H a L) ?_ (λ i σ Y ω h=>?_) (λ i x t σ Y hx ht h=>?_) (λ σ Y h=>?_)⟩
 ·refine⟨p3,[.ref p2],[(.mk f0 l0 [],1)],none,none,S3,e3,(s1.trans s2).free h3,.cons (.mk (ay.of (s3 _ _ e2)) (hv.same (s2.trans s3))) .nil,aQ _,aQ _,λ e g=>?_,λ e g=>?_,aQ _,rfl⟩
  ·cases dN.mp g;exact⟨gv,aQ _⟩
  ·cases dN.mp g;show 1<=14;decide
 ·obtain⟨O,S,es,o3,o4,S',ω⟩:=h;exact ha.same S'
 ·obtain⟨O,S,es,o3,o4,S',hs,n0,hp,l1,l2,hg,c0,d0,rfl⟩:=h;rw[eK]at hx;obtain⟨c,hc,rfl⟩:=iJ.mp hx;have hi:i<40:=by
   have:=(gm.mp hc).1;lia
  have s4:=dR ht (.tup [.int (i:Int),.int c]);have e4:ar Y t (.tup [.int (i:Int),.int c]) t=some (.tup [.int (i:Int),.int c]):=bu;generalize ar Y t (.tup [.int (i:Int),.int c])=H4 at*;refine⟨t,rfl,_,ay.of e4,rfl,⟨_,_,rfl,⟨_,_,rfl,⟨rfl,?_⟩⟩⟩⟩;walk_at "s 3 y";refine⟨c,i,rfl,qR,qR,λ r r0=>?_⟩;have R:=s4 _ _ hs;have e0:R1 (PV K H4) S es:=ko (λ ω ω h=>h.kt (Kp.of s4).kt) hp;have t0:∀S2 as X Z H5,ao H H5->H5 O=some (.lst S2)->R1 (PV K H5) S2 (as++[(X,Z)])->(as++[(X,Z)]).length<=i+2->(∀e∈as++[(X,Z)],Good e.1/\e.1.depth<=e.2)->(∀e∈as++[(X,Z)],e.2<=14)->aG ((as++[(X,Z)]).map (·.1))<=i+2->
    uy2 {nx:=TI K H a L (i+1),rt:=Q,ct:=TI K H a L (i+1),bk:=uz2 {nx:=λ x Y=>Q V.non Y,rt:=Q}} [some (.ref a),some (.int L),some (.ref O),some (.int (i:Int)),some (.int r)] H5:=by
   intro S2 as X Z H5 S5 g0 u0 l5 m0 a0 k0;walk_at "n y2";obtain⟨Sa,v2,rfl,o0,p0⟩:=zf u0;cases p0 with
   |mk q1 q2=>
    refine⟨_,az.of g0,_,qj _ _,_,rfl,_,q1,_,fL,_,rfl,?_⟩;refine ax (λ w0=>?_) (λ w0=>⟨O,_,_,_,_,S5,g0,n0,u0,by rw[bX];exact Nat.le_add_left _ _,l5,m0,a0,k0,rfl⟩);refine⟨_,az.of g0,_,qj _ _,_,rfl,_,q1,_,fM,?_⟩;refine aS.of λ p6 H6 h6 U e6=>?_;refine aS.of λ p7 H7 h7 s7 e7=>?_;refine⟨_,az.of ((U.trans s7) _ _ g0),?_⟩;rw[Mo];refine aS.of λ p8 H8 h8 s8 e8=>?_;have D0:Sa.length=as.length:=nk o0;refine⟨_,s8 _ _ e7,_,e8,by rw[bX]at l5;show 1+Sa.length<=_;lia,?_⟩;refine aS.of λ p9 H9 h9 s9 e9=>?_;have q0:=U.trans (s7.trans (s8.trans s9));refine⟨p9,_,(X,14)::as,_,_,S5.trans q0,e9,(S5.trans (U.trans (s7.trans s8))).free h9,.cons (.mk (ay.of ((s7.trans (s8.trans s9)) _ _ e6)) (q2.same q0)) (ko (λ ω ω h=>h.kt (Kp.of q0).kt) o0),mS (dj _),?_,λ e g=>?_,λ e g=>?_,?_,rfl⟩
    ·rw[bX]at l5;exact l5
    ·rcases de.mp g with rfl|g
     ·have:=m0 (X,Z) (by simp);have s0:=a0 (X,Z) (by simp);exact⟨this.1,bR this.2 s0⟩
     ·exact m0 e (lM _ g)
    ·rcases de.mp g with rfl|g
     ·exact aQ _
     ·exact a0 e (lM _ g)
    ·rw[eZ,mw]at k0;rw[dJ];show X.size+aG (as.map (·.1))<=_;have:aG ([(X,Z)].map (·.1))=X.size:=Nat.add_zero _;lia
  have x0:∀{H5:Hp}{f1:Fm}{l1:Lb}{u:V},ao H4 H5->RT K H5 u (Tm.mk f1 l1 []).dat->Good (.mk f1 l1 [])->aS H5 (.tup [u,.int 1]) λ p H2=>∃x,H2 O=some (.lst x)/\x.length<16777216/\uy2 {nx:=TI K H a L (i+1),rt:=Q,ct:=TI K H a L (i+1),bk:=uz2 {nx:=λ x Y=>Q V.non Y,rt:=Q}} [some (.ref a),some (.int L),some (.ref O),some (.int (i:Int)),some (.int r)] (ar H2 O (.lst (x++[.ref p]))):=by
   intro H5 f1 l1 u M hu gu;refine aS.of λ p6 H6 h6 U e6=>?_;have lS:=nk hp;have i0:=(M.trans U) _ _ R;have k6:Kt H4 (ar H6 O (.lst (S++[.ref p6]))):=((Kp.of (M.trans U)).trans (Kp.lst _ i0)).kt;refine⟨S,i0,qR,t0 _ es (.mk f1 l1 []) 1 _ (λ b o hb=>?_) bu (ET (ko (λ ω ω h=>h.kt k6) e0) (.cons (.mk (ay.kp (ay.of e6) (Kp.lst _ i0)) ((hu.same U).kp (Kp.lst _ i0))) .nil)) ?_ (λ e g=>?_) (λ e g=>?_) ?_⟩
   ·rw[aU (bY hb n0)];exact(S'.trans (s4.trans (M.trans U))) _ _ hb
   ·rw[bX];exact mS l2
   ·rcases hU.mp g with g|g
    ·exact hg e g
    ·cases dN.mp g;exact⟨gu,aQ _⟩
   ·rcases hU.mp g with g|g
    ·exact c0 e g
    ·cases dN.mp g;show 1<=14;decide
   ·rw[eZ,mw];show _+1<=i+2;lia
  have v0:∀{H5:Hp}{Q':VK},ao H4 H5->(∀e∈es.drop (es.length-9),e.2<=13)->(∀v H1 A,H1 O=some (.lst A)->uy2 {nx:=TI K H a L (i+1),rt:=Q,ct:=TI K H a L (i+1),bk:=uz2 {nx:=λ x Y=>Q V.non Y,rt:=Q}} [some (.ref a),some (.int L),some (.ref O),some (.int (i:Int)),some (.int r)] (ar H1 O (.lst (A++[v])))->A.length<16777216->Q' v H1)->tm K [V.ref O,V.int (r/5),V.int L] H5 Q' E0:=by
   intro H5 Q' M j0 k;have lS:=nk hp;refine⟨O,r/5,L,S,es,rfl,Int.ediv_nonneg r0 qS,M _ _ R,ko (λ ω ω h=>h.kt (Kp.of M).kt) e0,l1,qR,j0,hg,λ v2 X Z A B as bs H6 sx hA eS ee el ai gt dt s0 sz=>?_⟩;have lA:A.length<=S.length:=by rw[eS,bX];lia
   have kA:=Kp.lst (.lst (A++[v2])) hA;have y0:Kt H5 H6:=(SX.kpl' sx (M _ _ R)).kt;have z0:R1 (PV K H5) A as:=GV el (by rw[<-eS,<-ee];exact ko (λ ω ω h=>h.kt (Kp.of M).kt) e0);refine k v2 H6 A hA (t0 _ as X Z _ (λ b o hb=>?_) bu (ET (ko (λ ω ω h=>(h.kt y0).kt kA.kt) z0) (.cons (ai.kt kA.kt) .nil)) ?_ (λ e g=>?_) (λ e g=>?_) ?_) qR
   ·rw[aU (bY hb n0)];exact sx _ _ (bY hb n0) ((S'.trans (s4.trans M)) _ _ hb)
   ·rw[bX,<-el];show A.length+1<=i+2;lia
   ·rcases hU.mp g with g|g
    ·exact hg e (by rw[ee];exact lM _ g)
    ·cases dN.mp g;exact⟨gt,dt⟩
   ·rcases hU.mp g with g|g
    ·exact c0 e (by rw[ee];exact lM _ g)
    ·cases dN.mp g;exact s0
   ·rw[ee,eZ,mw]at d0;rw[eZ,mw];have:aG ([(X,Z)].map (·.1))=X.size:=Nat.add_zero _;lia
  walk_at "n y1";have b0:∀{H5:Hp}{Q':VK},ao H4 H5->(∀u H6,(aS H6 (.tup [u,.int 1]) λ p H2=>∃x,H2 O=some (.lst x)/\x.length<16777216/\uy2 {nx:=TI K H a L (i+1),rt:=Q,ct:=TI K H a L (i+1),bk:=uz2 {nx:=λ x Y=>Q V.non Y,rt:=Q}} [some (.ref a),some (.int L),some (.ref O),some (.int (i:Int)),some (.int r)] (ar H2 O (.lst (x++[.ref p]))))->Q' u H6)->yY K [V.int (r/5),V.int L] H5 Q' E0:=by
   intro H5 Q' M k;exact⟨r/5,L,rfl,Int.ediv_nonneg r0 qS,λ u f1 l1 H6 U hu gu=>k u H6 (x0 (M.trans U) hu gu)⟩
  refine ax (λ ω=>?_) (λ ω=>?_)
  ·exact⟨.inl ⟨rfl,_,az.of R⟩,b0 (ao.refl _) λ u H6 h=>h⟩
  refine⟨_,az.of R,?_⟩;rw[Nz];refine aS.of λ p5 H5 h5 M e5=>?_;refine⟨⟨_,az.of e5⟩,λ D hD=>?_⟩;have lS:=nk hp;have A0:=Ft (S.length-9) e0;refine Og (ys:=S.drop (S.length-9)) none [] (λ j=>decide (13<((es.drop (S.length-9)).getD j (.mk .self .non [],0)).2)) rfl hD (by rw[RB,i8];lia) (λ H1 s=>az.of (s _ _ e5)) (λ j y hy H1 K' s k=>?_) (λ zs H6 U hz f1 f2=>?_)
  ·obtain⟨e,g,ai⟩:=xl A0 hy;cases ai.kt (Kp.of (M.trans s)).kt with
   |mk q1 q2=>
    walk_at "r";refine⟨_,q1,_,fL,_,rfl,?_⟩;have:=k H1 (ao.refl _);rw[hJ,g]at this;have ed:decide ((13:Int)<((e.2:Nat):Int))=decide (13<e.2):=by rw[decide_eq_decide];lia
    rw[ed];exact this
  refine⟨D,rfl,zs,.inl (az.of hz),?_⟩;refine ax (λ h0=>?_) (λ h0=>?_)
  ·exact⟨.inl ⟨rfl,_,az.of ((M.trans U) _ _ R)⟩,b0 (M.trans U) λ u H6 h=>h⟩
  have B0:zs=[]:=by
   cases zs with
   |nil=>rfl
   |cons z zs=>exact UM (by simp) h0
  have j0:∀e∈es.drop (es.length-9),e.2<=13:=λ e g=>by
   obtain⟨j,hj,ej⟩:=uv g;rw[<-lS]at hj;have C0:j<(es.drop (S.length-9)).length:=hj;have ff:=f1 B0 j (by rw[i8]at hj ⊢;lia);rw[hJ,dc C0]at ff;have ff:=of_decide_eq_false ff;have e2:(es.drop (S.length-9))[j]=e:=by
    rw[<-ej];congr 1;rw[lS]
   rw[<-e2];exact lK ff
  refine ax (λ ω=>?_) (λ ω=>?_)
  ·exact⟨.inl ⟨rfl,_,az.of ((M.trans U) _ _ R)⟩,v0 (M.trans U) j0 λ v H1 A hA h hl=>⟨A,hA,hl,h⟩⟩
  ·exact⟨.inl ⟨rfl,_,az.of ((M.trans U) _ _ R)⟩,v0 (M.trans U) j0 λ v H1 A hA h hl=>⟨A,hA,hl,h⟩⟩
 ·obtain⟨O,S,es,o3,o4,S',hs,n0,hp,l1,l2,hg,c0,d0,rfl⟩:=h;walk_at "n z2";obtain⟨as,e,rfl,_⟩:∃as e,es=as++[e]/\as.length=es.length-1:=⟨es.dropLast,es.getLast (by intro z;rw[z]at l1;cases l1),(List.dropLast_concat_getLast _).symm,by rw[List.length_dropLast]⟩;obtain⟨Sa,v2,rfl,o0,p0⟩:=zf hp;cases p0 with
  |mk q1 q2=>
   have ge:=hg e (by simp);refine⟨_,az.of hs,_,qj _ _,_,rfl,_,q1,_,fM,q _ e.1 Y S' q2 ge.1 (bR ge.2 (c0 e (by simp))) ?_⟩;rw[eZ,mw]at d0;have:aG ([e].map (·.1))=e.1.size:=Nat.add_zero _;rw[bB]at d0;lia
open RR (gQ eD)
inductive B6(K:X0)(vs:List V)(H:Hp)(Q:VK):Prop
 |mk(c:Nat)(sh:Int)(kl:V0)(ks:List U1)(a1:vs=[.int c,.int sh,.ref kl])(a2:az K H kl (ks.map V.str))(a3:ks≠[])(a4:ks.length<=100)(a5:∀v ps H',ao H H'->RT K H' v (ic ps)->ps.length<=4->(∀p∈ps,av p.1=true/\p.2∈ks)->Q v H'):B6 K vs H Q
def zX(K:X0):Sp:=λ vs H Q ω=>B6 K vs H Q
theorem pZ{α:Type}{l:List α}(h:l≠[])(z:Int){m:Int}(g:m=(l.length:Int)):∃x∈l,dQ l (z%m)=some x:=by
 have hl:=mR.mpr h;have a:=rM z (show m≠0 by lia);have b:=yj z (show 0<m by lia);obtain⟨k,e⟩:=kM a;have c:k<l.length:=by lia
 rw[e];exact⟨l[k],ju c,gB (dc c)⟩
theorem zj(s:km H H'):Kt H H':=⟨λ b a e=>s _ _ (λ ω z=>by cases z) e,λ b o a e=>s _ _ (λ ω z=>by cases z) e⟩
theorem fK{K:X0}{R:U1×U1->Prop}:∀{vs:List V},(∀(j:Nat) v,vs[j]?=some v->∃p:U1×U1,R p/\RT K H v (.tuple [.str p.1,.str p.2]))->∃ps:List (U1×U1),ps.length=vs.length/\(∀p∈ps,R p)/\bM K H vs (ps.map λ p=>.tuple [.str p.1,.str p.2])
 |[],_=>⟨[],rfl,λ p e=>(i5 e).elim,.nil⟩
 |v::vs,h=>by
  obtain⟨p,e,r⟩:=h 0 v rfl;obtain⟨ps,a,b,c⟩:=fK (vs:=vs) λ j v g=>h (j+1) v g;exact⟨p::ps,by rw[cj,cj,a],λ q i=>(de.mp i).elim (λ z=>z▸e) (b q),.cons r c⟩
theorem Nv(T:∅)(e:bJ P w K mg base 1 "_law_name" ["_law_k","_law_shift"] oZ):bJ P w K mg base 2 "_law_params" ["_law_cell","_law_shift","_law_kinds"] (zX K):=by
  refine bJ.of T.Ja DX (λ ω ω ω ω ω ω us hl=>el3 us hl λ ω ω ω=>rfl) (λ vs H Q E h=>?_) (λ f cdv A outer s H vs Q E hr h=>?_)
  · obtain⟨c,sh,L,o,rfl,ω⟩:=h;rfl
  obtain⟨c,sh,L,o,rfl,hk,k0,b0,q⟩:=h;refine⟨_,(aE (nB (i:=3) DX.nd rfl (Or.inr rfl) (eX rfl (aD.of (N:=["_law_k","_law_cell","_law_shift"]) (nl:=[none,some 0,some 1]) (cl:=[("_law_shift",s.heap.objs.size+2),("_law_cell",s.heap.objs.size+1)]) rfl qP qP rfl (lE rfl rfl) (nm:=["_law_shift","_law_cell"]) rfl qP rfl (λ i y j g=>by
            match i,y with
            | 0,_=>cases g
             |1,_=>cases g;exact⟨_,rfl,rfl,rfl,.inl rfl⟩
             |2,_=>cases g;exact⟨_,rfl,rfl,rfl,.inl rfl⟩
            )) (mu rfl T.mG (qI (aC cB (ai 0) aw))) (λ C M s H=>(qH 0 (show(["_law_k","_law_cell","_law_shift"]:List U1).Nodup by decide+kernel))) (λ C M s H=>(qF e hr (qJ (aC cB (aC cK (aC d9 (ai 1) aw) (ai 0)) aw) (ai 2)))))) (aN (bp (fg ji rfl T.iB iy (qI (eX rfl (aD.of (N:=["_law_k","_law_cell","_law_kinds","_law_names"]) (nl:=[none,some 0,some 2,some 3]) (cl:=[("_law_names",s.heap.objs.size+4),("_law_kinds",s.heap.objs.size+3),("_law_cell",s.heap.objs.size+1)]) rfl qP qP rfl (oj rfl rfl rfl) (nm:=["_law_names","_law_kinds","_law_cell"]) rfl qP rfl (λ i y j g=>by
            match i,y with
            | 0,_=>cases g
             |1,_=>cases g;exact⟨_,rfl,rfl,rfl,.inl rfl⟩
             |2,_=>cases g;exact⟨_,rfl,rfl,rfl,.inl rfl⟩
             |3,_=>cases g;exact⟨_,rfl,rfl,rfl,.inl rfl⟩
            )) (mu rfl T.mG (qI (aC cB (ai 0) aw))) (λ C M s H=>(qH 0 (show(["_law_k","_law_cell","_law_kinds","_law_names"]:List U1).Nodup by decide+kernel))) (λ C M s H=>(cH (qJ (qD K (ai 3) (ai 0)) (qD K (ai 2) (aC cB (aC Gz (ai 1) (aC cK aw (ai 0))) (eH (r:=ow K) Np rfl T.z_len xN (qI (ai 2)))))))))))))),?_⟩
  walk_at "s 2 z";obtain⟨m,em,hm⟩:∃m:Nat,(c:Int)%5=m/\m<=4:=⟨c%5,qR,qR⟩;rw[em];refine⟨qR,qR,λ nl h1=>?_⟩;rw[lH];refine o9 none _ (λ j v H'=>∃x,v=V.str x/\av x=true) (λ j v O I a ω=>a) rfl h1 (by rw[RB];lia) (λ i y O K' R S=>?_) λ ns O R e1 ln U=>?_
  · walk_at "r";obtain⟨n,en,hn⟩:=l_ ((c:Int)/5+i);refine⟨c,rfl,n,sh,by rw[en],hn,λ x I u X=>S _ _ u ⟨x,rfl,X⟩⟩
  obtain⟨J,rfl,lx,X⟩:=u3 ln U;walk_at "n z1";rw[em];refine⟨qR,qR,λ pl h2=>?_⟩;rw[lH];have Y:=az.same hk R;refine o9 none _ (λ j v H'=>∃p:U1×U1,(av p.1=true/\p.2∈o)/\RT K H' v (.tuple [.str p.1,.str p.2])) (λ j v O I ⟨p,a,b⟩ s=>⟨p,a,b.kt (zj s)⟩) rfl h2 (by rw[RB];lia) (λ i y I K' u S=>?_) λ vs I u e2 lv hv=>?_
  · walk_at "r";have z:i<J.length:=by lia
    obtain⟨kd,Z,a0⟩:=pZ (l:=o.map V.str) (by simpa using k0) ((c:Int).fdiv (7+i)) (m:=(o.length:Int)) (by rw[bB]);obtain⟨kd,D,rfl⟩:=eO.mp Z;have l0:=mR.mpr k0;have G:=az.same Y u;have ei:(o.map V.str).length=o.length:=bB ..;refine⟨nl,rfl,⟨_,az.of (u _ _ e1),_,gB (show(J.map V.str)[i]?=some (V.str J[i])by rw[eK,dc z];rfl),c,rfl,qR,qR,qR,L,rfl,_,.inl G,by rw[ei];lia,L,rfl,⟨_,G,_,by rw[ei];exact a0,aS.of λ p3 H3 h3 s3 e3=>?_⟩⟩⟩;exact S _ _ s3 ⟨(J[i],kd),⟨X _ (ju z),D⟩,.tup (ay.of e3) (.cons (.str _) (.cons (.str _) .nil))⟩
  obtain⟨ps,lp,hp,rp⟩:=fK hv;refine⟨pl,rfl,_,.inl ⟨az.of e2,λ l hl=>?_⟩⟩;exact q _ ps _ (R.trans (u.trans (dR hl _))) (.tup (ay.of bu) (rp.same (dR hl _))) qR hp
structure wM(d:Wd):Prop where
 nm:av d.name=true
 ps:∀p∈d.params,eD p
 p4:d.params.length<=4
 kd:gQ d.kind
 bd:Good d.body
 dp:d.body.depth<=14
 sz:d.body.size<=8
structure nR(h:Hs)(most:Nat):Prop where
 nm:av h.name=true
 el:∀y,h.elder=some y->av y=true
 fl:∀p∈h.fields,eD p
 f4:h.fields.length<=4
 wd:∀d∈h.words,wM d
 wl:h.words.length<=most
inductive GB(K:X0)(vs:List V)(H:Hp)(Q:VK):Prop
 |mk(sc:V0)(ns:List Int)(k:Nat)(sh:Int)(most:Nat)(a1:vs=[.ref sc,.int k,.int sh,.int most])(a2:az K H sc (ns.map V.int))(a3:ns.length<=63)(a4:k<=20)(a5:most<=8)(a6:∀v h H',ao H H'->RT K H' v (jB h)->nR h most->Q v H'):GB K vs H Q
def zE(K:X0):Sp:=λ vs H Q ω=>GB K vs H Q
theorem Mr(c:List Int)(a:Nat){lo hi:Int}(hl:lo=(a:Int))(g:hi=((a+7:Nat):Int)):∃e:List Int,cY (c.map V.int) (some lo) (some hi)=e.map V.int/\e.length<=7:=by
 subst hl g;unfold cY;rw[<-List.map_drop,<-List.map_take];refine⟨_,rfl,?_⟩;rw[ka,i8];have i:HT.bV (c.map V.int).length 0 (some (a:Int))=min a c.length:=by
  show(if(a:Int)<0 then((a:Int)+((c.map V.int).length:Int)).toNat else min (a:Int).toNat (c.map V.int).length)=_;rw[UK qR,bB];rfl
 have j:HT.bV (c.map V.int).length (c.map V.int).length (some ((a+7:Nat):Int))=min (a+7) c.length:=by
  show(if((a+7:Nat):Int)<0 then(((a+7:Nat):Int)+((c.map V.int).length:Int)).toNat else min ((a+7:Nat):Int).toNat (c.map V.int).length)=_;rw[UK qR,bB];rfl
 rw[i,j];lia
inductive HI(K:X0)(H H0:Hp)(tl:V0)(s0:St)(i:Nat)(σ:St)(H':Hp):Prop
 |mk(sm:ao H H')(sx:SX tl H0 H')(vs:List V)(ds:List Wd)(h1:H' tl=some (.lst vs))(rt:bM K H' vs (ds.map kT))(g:∀d∈ds,wM d)(l:ds.length=i)(a b c d:Option V)(es:σ=s0++[a,b,c,d]):HI K H H0 tl s0 i σ H'
theorem LJ(T:∅)(G:bJ P w K mg base 1 "_law_cell_at" ["_law_script","_law_k"] (za K))(D:bJ P w K mg base 1 "_law_mixed" ["_law_cell","_law_k"] vb)(u:bJ P w K mg base 1 "_law_name" ["_law_k","_law_shift"] oZ)(I:bJ P w K mg base 2 "_law_params" ["_law_cell","_law_shift","_law_kinds"] (zX K))(J:bJ P w K mg base 3 "_law_term" ["_law_cells","_law_shift"] (yP K)):bJ P w K mg base 4 "_law_house" ["_law_script","_law_k","_law_shift","_law_most"] (zE K):=by
  refine bJ.of T.IZ kJ (λ ω ω ω ω ω ω us hl=>el4 us hl λ ω ω ω ω=>rfl) (λ vs H Q E h=>?_) (λ f cdv A outer s H vs Q E hr h=>?_)
  · obtain⟨sc,ns,k,sh,most,rfl,ω⟩:=h;rfl
  obtain⟨sc,ns,k,sh,most,rfl,n0,hn,hk,hm,q⟩:=h;refine⟨_,(aE (nB (i:=4) kJ.nd rfl (Or.inr rfl) (qF D hr (qJ (qF G hr (qJ (ai 0) aw)) (aC cK aw (ai 1))))) (aE (nB (i:=5) kJ.nd rfl (Or.inr rfl) (aC iQ (cJ (qJ aK aK)) (eX rfl (aD.of (N:=["_law_j","_law_shift"]) (nl:=[none,some 2]) (cl:=[("_law_shift",s.heap.objs.size+1)]) rfl qP qP rfl (om rfl) (nm:=["_law_shift"]) rfl qP rfl (λ i hi j U=>by
            match i,hi with
            | 0,_=>cases U
             |1,_=>cases U;exact⟨_,rfl,rfl,rfl,.inl rfl⟩
            )) (mu rfl T.mG (qI aw)) (λ C fp s H=>(qH 0 (show(["_law_j","_law_shift"]:List U1).Nodup by decide+kernel))) (λ C fp s H=>(qF u hr (qJ (ai 0) (ai 1))))))) (aE (qG 6 kJ.nd (qD K (cJ (qJ p_ (qF u hr (qJ (aC cB (aC d9 (ai 4) aw) aw) (ai 2))))) (aC cB (ai 4) aw))) (aE (nB (i:=7) kJ.nd rfl (Or.inr rfl) (eX rfl (aD.of (N:=["_law_j","_law_cell","_law_shift"]) (nl:=[none,some 4,some 2]) (cl:=[("_law_shift",s.heap.objs.size+1),("_law_cell",s.heap.objs.size+2)]) rfl qP qP rfl (lE rfl rfl) (nm:=["_law_shift","_law_cell"]) rfl qP rfl (λ i hi j U=>by
            match i,hi with
            | 0,_=>cases U
             |1,_=>cases U;exact⟨_,rfl,rfl,rfl,.inl rfl⟩
             |2,_=>cases U;exact⟨_,rfl,rfl,rfl,.inl rfl⟩
            )) (mu rfl T.mG (qI (aC cB (aC d9 (ai 4) aw) aw))) (λ C fp s H=>(qH 0 (show(["_law_j","_law_cell","_law_shift"]:List U1).Nodup by decide+kernel))) (λ C fp s H=>(qF u hr (qJ (aC cB (aC cK (aC d9 (ai 1) aw) (ai 0)) aw) (ai 2)))))) (aE (vQ rfl kJ.nd (i:=8) rfl rfl (aD.of (N:=["_law_j","_law_cell","_law_kinds","_law_names"]) (nl:=[none,some 4,some 5,some 7]) (cl:=[("_law_names",s.heap.objs.size+4),("_law_kinds",s.heap.objs.size+3),("_law_cell",s.heap.objs.size+2)]) rfl qP qP rfl (oj rfl rfl rfl) (nm:=["_law_names","_law_kinds","_law_cell"]) rfl qP rfl (λ i hi j U=>by
            match i,hi with
            | 0,_=>cases U
             |1,_=>cases U;exact⟨_,rfl,rfl,rfl,.inl rfl⟩
             |2,_=>cases U;exact⟨_,rfl,rfl,rfl,.inl rfl⟩
             |3,_=>cases U;exact⟨_,rfl,rfl,rfl,.inl rfl⟩
            )) (mu rfl T.mG (qI (qL T.z_len (qI (ai 7))))) (λ C fp s H=>(qH 0 (show(["_law_j","_law_cell","_law_kinds","_law_names"]:List U1).Nodup by decide+kernel))) (λ C fp s H=>(cH (qJ (qD K (ai 3) (ai 0)) (qD K (ai 2) (aC cB (aC Gz (ai 1) (aC cK aw (ai 0))) aw)))))) (aE (qG 9 kJ.nd (cJ ix)) (aE (nj Sj rfl (mu rfl T.mG (qI (eH (zQ rfl) rfl T.z_min AI (qJ (qD K (cJ (dq aw (dq aw (dq aw (qK aw aw aw))))) (aC cB (aC d9 (ai 4) aw) aw)) (ai 3))))) (qH 10 kJ.nd) (aE (qG 11 kJ.nd (qF D hr (qJ (ai 4) (ai 10)))) (aE (qG 12 kJ.nd (qF I hr (qK (aC d9 (ai 11) aw) (ai 2) (ai 5)))) (aE (qG 13 kJ.nd (qF J hr (qJ (kz (r:=hG K) qb (ai 0) (ib (aC cK (aC cK aw (aC me aw (ai 1))) (ai 10))) (ib (aC cK (aC cK aw (aC me aw (ai 1))) (ai 10)))) (aC cK (ai 2) (ai 10))))) (aN (dS (gM i4 jL jK jG (ai 9) (qI (cH (dq (qF u hr (qJ (aC cB (ai 11) aw) (ai 2))) (qK (ai 12) (qD K (ai 5) (aC cB (aC d9 (ai 11) aw) aw)) (ai 13)))))))))))) (aN (bp (cH (dq (qF u hr (qJ (aC cB (aC d9 (ai 4) aw) aw) (ai 2))) (qK (ai 6) (fg ji rfl T.iB iy (qI (ai 8))) (fg ji rfl T.iB iy (qI (ai 9))))))))))))))),?_⟩
  walk_at "s 8 z";refine⟨sc,ns,1,rfl,n0,λ c1=>⟨c1,_,rfl,qR,qR,λ r r0=>?_⟩⟩;obtain⟨c,rfl⟩:=kM r0;walk_at "n z1";refine aS.of λ k0 G0 g0 B0 e0=>λ kx h1=>?_;refine o9 none _ (λ j v H'=>∃x,v=V.str x/\av x=true) (λ j v H1 H2 a ω=>a) rfl h1 (by rw[RB];lia) (λ i hi H1 K' s1 kk=>?_) λ u1 H1 s1 e1 ln o0=>?_
  · walk_at "r";exact⟨i,sh,rfl,qR,λ x H2 s2 hx=>kk _ _ s2 ⟨x,rfl,hx⟩⟩
  obtain⟨kn,rfl,lx,hx⟩:=u3 ln o0;refine⟨kx,rfl,_,s1 _ _ e0,_,e1,by rw[bB];show 2+_<=_;lia,aS.of λ kl H2 h2 s2 e2=>?_⟩;have S2:ao H H2:=B0.trans (s1.trans s2);obtain⟨S,p0,O,d0⟩:∃S:List U1,([V.str "number",V.str "truth"]++kn.map V.str)=S.map V.str/\S.length=5/\∀x∈S,gQ x:=by
    refine⟨"number"::"truth"::kn,rfl,by simp only[cj];lia,λ x h=>?_⟩;rcases(de.mp h)with rfl|h
    · exact .inl rfl
    · rcases de.mp h with rfl|h
      · exact .inr (.inl rfl)
      · exact .inr (.inr (hx x h))
  have e2:H2 kl=some (.lst (S.map V.str)):=by rw[<-p0];exact e2
  clear p0 e1 o0 ln e0 hx lx;walk_at "n z2";obtain⟨n3,C0,D0⟩:=l_ ((c:Int)/3);rw[C0];refine⟨n3,sh,rfl,D0,λ xe H3 s3 he=>aS.of λ pe H4 h4 s4 e4=>?_⟩;obtain⟨el,I0,J0⟩:∃el:Option U1,dQ [V.non,V.str xe] ((c:Int)%2)=some (oS el)/\∀y,el=some y->av y=true:=by
    rcases(show(c:Int)%2=0\/(c:Int)%2=1 by lia)with z|z
    · exact⟨none,by rw[z];rfl,λ y h=>by cases h⟩
    · exact⟨some xe,by rw[z];rfl,λ y h=>by cases h;exact he⟩
  refine⟨_,az.of e4,_,I0,?_⟩;have S4:ao H2 H4:=s3.trans s4;walk_at "n z3";obtain⟨m,em,v1⟩:∃m:Nat,(c:Int)/2%5=m/\m<=4:=⟨c/2%5,qR,qR⟩;rw[em];refine⟨qR,qR,λ nl h5=>?_⟩;rw[lH];refine o9 none _ (λ j v H'=>∃x,v=V.str x/\av x=true) (λ j v H1 H2 a ω=>a) rfl h5 (by rw[RB];lia) (λ i hi H1 K' s1 kk=>?_) λ nv H5 s5 e5 L0 M0=>?_
  · walk_at "r";obtain⟨n,en,hn⟩:=l_ ((c:Int)/7+i);exact⟨c,rfl,n,sh,by rw[en],hn,λ x H2 s2 hx=>kk _ _ s2 ⟨x,rfl,hx⟩⟩
  obtain⟨xs,rfl,lx,hx⟩:=u3 L0 M0;have k5:H5 kl=some (.lst (S.map V.str)):=s5 _ _ (S4 _ _ e2);walk_at "n z4";refine⟨_,.inl (az.of e5),?_⟩;rw[bB,lx,lH];refine⟨qR,qR,λ fl h6=>?_⟩;refine o9 none _ (λ j v H'=>∃p:U1×U1,eD p/\RT K H' v (.tuple [.str p.1,.str p.2])) (λ j v H1 H2 ⟨p,a,b⟩ s=>⟨p,a,b.kt (zj s)⟩) rfl h6 (by rw[RB];lia) (λ i hi H6 K' s6 kk=>?_) λ fv H6 s6 e6 w1 hf=>?_
  · walk_at "r";have q0:i<xs.length:=by lia
    obtain⟨kd,f0,h0⟩:=pZ (l:=S.map V.str) (by intro z;rw[List.map_eq_nil_iff]at z;rw[z]at O;cases O) ((c:Int).fdiv (11+i)) (m:=5) (by rw[bB,O];rfl);obtain⟨kd,X,rfl⟩:=eO.mp f0;refine⟨nl,rfl,⟨_,az.of (s6 _ _ e5),_,gB (show(xs.map V.str)[i]?=some (V.str xs[i])by rw[eK,dc q0];rfl),?_⟩⟩;refine⟨c,rfl,qR,qR,qR,kl,rfl,⟨_,az.of (s6 _ _ k5),_,h0,aS.of λ p3 H3 h3 s3 e3=>?_⟩⟩;exact kk _ _ s3 ⟨(xs[i],kd),⟨hx _ (ju q0),d0 kd X⟩,.tup (ay.of e3) (.cons (.str _) (.cons (.str _) .nil))⟩
  obtain⟨fs,x1,N0,O0⟩:=fK hf;walk_at "n z5";refine aS.of λ tl H7 h7 s7 e7=>?_;have S7:ao H H7:=S2.trans (S4.trans (s5.trans (s6.trans s7)));have k7:H7 kl=some (.lst (S.map V.str)):=s7 _ _ (s6 _ _ k5);walk_at "n z6";have Q0:kl≠tl:=λ z=>by rw[<-z,s6 _ _ k5]at h7;cases h7
  have R0:fl≠tl:=λ z=>by rw[<-z,e6]at h7;cases h7
  have c0:S≠[]:=λ z=>by rw[z]at O;cases O
  refine aS.of λ pm H8 h8 s8 e8=>?_;obtain⟨vm,s0,S0⟩:=pZ (l:=[V.int 0,V.int 1,V.int 1,V.int 2,V.int 3,V.int 8]) nofun ((c:Int)/10) (m:=6) rfl;obtain⟨m2,rfl,y1⟩:∃m2:Nat,vm=V.int m2/\m2<=8:=by
    simp only[de,i5,or_false]at s0;rcases s0 with rfl|rfl|rfl|rfl|rfl|rfl
    · exact⟨0,rfl,qR⟩
    · exact⟨1,rfl,qR⟩
    · exact⟨1,rfl,qR⟩
    · exact⟨2,rfl,qR⟩
    · exact⟨3,rfl,qR⟩
    · exact⟨8,rfl,qR⟩
  obtain⟨m3,T0,z1⟩:∃m3:Nat,(if(most:Int)<(m2:Int)then(most:Int)else(m2:Int))=m3/\m3<=most:=by
    split
    · exact⟨most,rfl,aQ _⟩
    · exact⟨m2,rfl,qR⟩
  refine⟨_,az.of e8,_,S0,_,rfl,?_⟩;rw[T0,lH];refine⟨qR,qR,NS (HI K H H8 tl [some (V.ref sc),some (V.int k),some (V.int sh),some (V.int most),some (V.int c),some (V.ref kl),some (oS el),some (V.ref nl),some (V.ref fl),some (V.ref tl)]) ⟨S7.trans s8,SX.of (ao.refl _),[],[],s8 _ _ e7,.nil,λ d hd=>(i5 hd).elim,rfl,_,_,_,_,rfl⟩ (λ i σ H9 hi h=>?_) λ σ H9 h=>?_⟩
  · obtain⟨sm,sx,vs,ds,f1,rt,g,l,a,b,c',d,rfl⟩:=h;walk_at "r";have k9:H9 kl=some (.lst (S.map V.str)):=sx _ _ Q0 (s8 _ _ k7);refine⟨c,i,rfl,qR,qR,λ r r0=>?_⟩;obtain⟨n,rfl⟩:=kM r0;refine⟨_,rfl,n/12,sh,kl,S,rfl,az.of k9,c0,qR,λ vp ps i0 R rp lp hp=>?_⟩;obtain⟨ms,U0,A1⟩:=Mr ns (3+7*k+i) (lo:=3+7*(k:Int)+i) (hi:=10+7*(k:Int)+i) qR qR;refine⟨_,az.same n0 (sm.trans R),?_⟩;rw[U0];refine aS.of λ pc j0 t0 Y l0=>⟨pc,sh+i,ms,rfl,az.of l0,qR,λ vt t Y0 Z u0 gd dp sz=>?_⟩;have v0:=R.trans (Y.trans Z);obtain⟨Z0,w0,x0⟩:=l_ (n:Int);refine⟨.inl ⟨rfl,_,az.of (v0 _ _ f1)⟩,n,rfl,Z0,sh,by rw[w0],x0,λ xw a1 L d1=>?_⟩;have M:=v0.trans L;obtain⟨kd,f0,h0⟩:=pZ (l:=S.map V.str) (by simpa using c0) ((n:Int)/5) (m:=5) (by rw[bB,O];rfl);obtain⟨kd,X,rfl⟩:=eO.mp f0;have lv:=rt.length;rw[bB]at lv;refine⟨n,rfl,⟨_,az.of (M _ _ k9),_,h0,aS.of λ pw m0 B1 a0 g1=>⟨vs,a0 _ _ (M _ _ f1),qR,?_⟩⟩⟩;have b0:=M.trans a0;have i1:=b0 _ _ f1;have kt:Kt m0 (ar m0 tl (.lst (vs++[.ref pw]))):=Kt.put _ i1 (λ ω z=>by cases z) (λ ω ω z=>by cases z);have j1:H tl=none:=by
      cases hz:H tl with
      |none=>rfl
      |some o=>
        have:=s6 _ _ (s5 _ _ (S4 _ _ (S2 _ _ hz)));rw[h7]at this;cases this
    have k1:ao H (ar m0 tl (.lst (vs++[.ref pw]))):=λ b o e=>by rw[aU (λ z=>by rw[z,j1]at e;cases e)];exact(sm.trans b0) b o e
    refine⟨k1,(sx.trans (SX.of b0)).trans (SX.put _),vs++[.ref pw],ds++[⟨xw,ps,kd,t⟩],bu,?_,λ d hd=>?_,by rw[bX];show ds.length+1=_;lia,_,_,_,_,rfl⟩
    · rw[eZ];refine((rt.same b0).app (.cons (.tup (ay.of g1) (.cons (.str _) (.cons (rp.same (Y.trans (Z.trans (L.trans a0)))) (.cons (.str _) (.cons (u0.same (L.trans a0)) .nil))))) .nil)).kt kt
    · rcases hU.mp hd with z|z
      · exact g d z
      · rw[dN.mp z];exact⟨d1,λ p y0=>⟨(hp p y0).1,d0 _ (hp p y0).2⟩,lp,d0 kd X,gd,dp,by show t.size<=8;lia⟩
  · obtain⟨sm,sx,vs,ds,f1,rt,g,l,a,b,c',d,rfl⟩:=h;walk_at "n z7";obtain⟨m1,z0,A0⟩:=l_ ((c:Int)/13);rw[z0];refine⟨m1,sh,rfl,A0,λ xh i0 R n1=>?_⟩;have f9:H9 fl=some (.lst fv):=sx _ _ R0 (s8 _ _ (s7 _ _ e6));have o1:bM K H9 fv (fs.map λ p=>.tuple [.str p.1,.str p.2]):=(O0.same (s7.trans s8)).kt ⟨λ b zs e=>sx _ _ (λ z=>by rw[z]at e;rw[s8 _ _ e7]at e;cases e) e,λ b o zs e=>sx _ _ (λ z=>by rw[z]at e;rw[s8 _ _ e7]at e;cases e) e⟩;refine⟨fv,.inl ⟨az.of (R _ _ f9),λ l1 t0=>?_⟩⟩;have Y:=dR t0 (.tup fv);have l0:ar i0 l1 (.tup fv) l1=some (.tup fv):=bu;generalize ar i0 l1 (.tup fv)=j0 at*;refine⟨vs,.inl ⟨az.of (Y _ _ (R _ _ f1)),λ l2 p1=>?_⟩⟩;have Z:=dR p1 (.tup vs);have q1:ar j0 l2 (.tup vs) l2=some (.tup vs):=bu;generalize ar j0 l2 (.tup vs)=Y0 at*;refine aS.of λ pr a1 C1 L t1=>?_;have M:=R.trans (Y.trans (Z.trans L));refine q _ ⟨xh,el,fs,ds⟩ _ (sm.trans M) (.tup (ay.of t1) (.cons (.str _) (.cons ?_ (.cons (.tup (ay.of (L _ _ (Z _ _ l0))) (o1.same M)) (.cons (.tup (ay.of (L _ _ q1)) (rt.same M)) .nil))))) ⟨n1,J0,N0,by show fs.length<=4;lia,g,by show ds.length<=most;lia⟩;cases el with
    |none=>exact .non
    |some y=>exact .str y
structure tV(p:Pg):Prop where
 hs:∀h∈p.houses,nR h 8
 h12:p.houses.length<=12
 mn:p.main.name="main"
 ps:∀q∈p.main.params,av q.1=true/\q.2="number"
 p4:p.main.params.length<=4
 kd:gQ p.main.kind
 bd:Good p.main.body
 dp:p.main.body.depth<=14
 sz:aG (RR.bb p)<=400
inductive Dn(K:X0)(vs:List V)(H:Hp)(Q:VK):Prop
 |mk(sc:V0)(ns:List Int)(a1:vs=[.ref sc])(a2:az K H sc (ns.map V.int))(a3:ns.length<=63)(a4:∀v p H',ao H H'->RT K H' v (kU p)->tV p->Q v H'):Dn K vs H Q
def Dk(K:X0):Sp:=λ vs H Q ω=>Dn K vs H Q
theorem J4(c:List Int)(a b:Nat){lo hi:Int}(hl:lo=(a:Int))(g:hi=(b:Int)):∃e:List Int,cY (c.map V.int) (some lo) (some hi)=e.map V.int/\e.length<=b-a:=by
 subst hl g;unfold cY;rw[<-List.map_drop,<-List.map_take];refine⟨_,rfl,?_⟩;rw[ka,i8];have i:HT.bV (c.map V.int).length 0 (some (a:Int))=min a c.length:=by
  show(if(a:Int)<0 then((a:Int)+((c.map V.int).length:Int)).toNat else min (a:Int).toNat (c.map V.int).length)=_;rw[UK (by omega),bB];rfl
 have j:HT.bV (c.map V.int).length (c.map V.int).length (some (b:Int))=min b c.length:=by
  show(if(b:Int)<0 then((b:Int)+((c.map V.int).length:Int)).toNat else min (b:Int).toNat (c.map V.int).length)=_;rw[UK (by omega),bB];rfl
 rw[i,j];omega
theorem BV{K:X0}:∀{vs:List V},(∀(j:Nat) v,vs[j]?=some v->∃h:Hs,nR h m/\RT K H v (jB h))->∃e:List Hs,e.length=vs.length/\(∀h∈e,nR h m)/\bM K H vs (e.map jB)
 |[],_=>⟨[],rfl,λ p g=>(i5 g).elim,.nil⟩
 |v::vs,h=>by
  obtain⟨p,g,r⟩:=h 0 v rfl;obtain⟨ps,a,b,c⟩:=BV (vs:=vs) λ j v i=>h (j+1) v i;exact⟨p::ps,by rw[cj,cj,a],λ q n=>(de.mp n).elim (λ z=>z▸g) (b q),.cons r c⟩
theorem Dg:∀{j:List Hs}(t:Tm),(∀h∈j,nR h m)->aG ((j.flatMap λ h=>h.words.map (·.body))++[t])<=j.length*(m*8)+t.size
 |[],t,_=>by show t.size+0<=_;omega
 |h::j,t,g=>by
  have a:=Dg t λ x n=>g x (cV _ n);have o:=g h cy;have b:∀(i:List Wd),(∀d∈i,wM d)->aG (i.map (·.body))<=i.length*8:=by
   intro i;induction i with
   |nil=>exact λ ω=>aQ _
   |cons d i u=>
    intro z;show d.body.size+aG (i.map (·.body))<=(i.length+1)*8;have:=u λ x n=>z x (cV _ n);have:=(z d cy).sz;omega
  have c:=b h.words o.wd;have e:=o.wl;rw[List.flatMap_cons,eU,TM.mw];have v:=Nat.mul_le_mul_right 8 e;rw[cj,Nat.add_mul,Nat.one_mul];omega
theorem Om(T:∅)(e:bJ P w K mg base 1 "_law_cell_at" ["_law_script","_law_k"] (za K))(n:bJ P w K mg base 1 "_law_mixed" ["_law_cell","_law_k"] vb)(y:bJ P w K mg base 1 "_law_name" ["_law_k","_law_shift"] oZ)(g:bJ P w K mg base 2 "_law_params" ["_law_cell","_law_shift","_law_kinds"] (zX K))(D:bJ P w K mg base 3 "_law_term" ["_law_cells","_law_shift"] (yP K))(o:bJ P w K mg base 4 "_law_house" ["_law_script","_law_k","_law_shift","_law_most"] (zE K)):bJ P w K mg base 5 "_law_program" ["_law_script"] (Dk K):=by
  refine bJ.of T.Jc pz (λ ω ω ω ω ω ω us hl=>el1 us hl λ ω=>rfl) (λ vs H Q E h=>?_) (λ f cdv A outer s H vs Q E hr h=>?_)
  · obtain⟨X,Y,rfl,ω⟩:=h;rfl
  obtain⟨X,Y,rfl,J,hn,q⟩:=h;refine⟨_,(aE (nB (i:=1) pz.nd rfl (Or.inr rfl) (qF e hr (qJ (ai 0) aw))) (aE (nB (i:=2) pz.nd rfl (Or.inr rfl) (qD K (cJ (dq aw (dq aw (dq aw (dq aw (qK aw aw aw)))))) (aC cB (qF e hr (qJ (ai 0) aw)) aw))) (aE (vQ rfl pz.nd (i:=3) rfl rfl (aD.of (N:=["_law_k","_law_many","_law_script","_law_shift"]) (nl:=[none,some 2,some 0,some 1]) (cl:=[("_law_shift",s.heap.objs.size+2),("_law_script",s.heap.objs.size+1),("_law_many",s.heap.objs.size+3)]) rfl qP qP rfl (oj rfl rfl rfl) (nm:=["_law_shift","_law_script","_law_many"]) rfl qP rfl (λ i hi j hj=>by
            match i,hi with
            | 0,_=>cases hj
             |1,_=>cases hj;exact⟨_,rfl,rfl,rfl,.inl rfl⟩
             |2,_=>cases hj;exact⟨_,rfl,rfl,rfl,.inl rfl⟩
             |3,_=>cases hj;exact⟨_,rfl,rfl,rfl,.inl rfl⟩
            )) (mu rfl T.mG (qI (ai 2))) (λ C fp s H=>(qH 0 (show(["_law_k","_law_many","_law_script","_law_shift"]:List U1).Nodup by decide+kernel))) (λ C fp s H=>(qF o hr (dq (ai 2) (qK (ai 0) (ai 3) (qD K (cJ (qJ aw aw)) (aC d9 (ai 1) aw))))))) (aE (qG 4 pz.nd (qF n hr (qJ (qF e hr (qJ (ai 0) aw)) aw))) (aE (qG 5 pz.nd (qD K (cJ (qK aK aK (qF y hr (qJ (aC cB (ai 4) aw) (ai 1))))) (aC cB (aC d9 (ai 4) aw) aw))) (aE (qG 6 pz.nd (qF g hr (qK (aC d9 (ai 4) aw) (ai 1) (cJ (qI aK))))) (aN (bp (cH (qJ (fg ji rfl T.iB iy (qI (ai 3))) (cH (qK (ai 6) (ai 5) (qF D hr (qJ (kz (r:=hG K) qb (ai 0) (ib aw) (ib aw)) (ai 1))))))))))))))),?_⟩
  walk_at "s 7 z";refine⟨X,Y,0,rfl,J,λ Z=>?_⟩;walk_at "n z1";refine aS.of λ p1 H1 h1 s1 e1=>⟨X,Y,1,rfl,az.same J s1,λ c1=>?_⟩;obtain⟨vm,a0,e0⟩:=pZ (l:=[V.int 0,V.int 1,V.int 2,V.int 3,V.int 1,V.int 2,V.int 12]) nofun c1 (m:=7) rfl;obtain⟨L,rfl,f0⟩:∃L:Nat,vm=V.int L/\(L<=3\/L=12):=by
    simp only[de,i5,or_false]at a0;rcases a0 with rfl|rfl|rfl|rfl|rfl|rfl|rfl
    · exact⟨0,rfl,by omega⟩
    · exact⟨1,rfl,by omega⟩
    · exact⟨2,rfl,by omega⟩
    · exact⟨3,rfl,by omega⟩
    · exact⟨1,rfl,by omega⟩
    · exact⟨2,rfl,by omega⟩
    · exact⟨12,rfl,by omega⟩
  refine⟨c1,rfl,⟨_,az.of e1,_,e0,?_⟩⟩;obtain⟨u,O,R⟩:∃u:Nat,dQ [V.int 8,V.int 1] ((L:Int)/12)=some (V.int u)/\(L<=3/\u=8\/L=12/\u=1):=by
    rcases f0 with z|z
    · have:(L:Int)/12=0:=by omega
      exact⟨8,by rw[this];rfl,.inl ⟨z,rfl⟩⟩
    · have:(L:Int)/12=1:=by omega
      exact⟨1,by rw[this];rfl,.inr ⟨z,rfl⟩⟩
  walk_at "n z2";rw[lH];refine⟨by omega,by omega,λ hl h2=>?_⟩;refine o9 none _ (λ j v H'=>∃h:Hs,nR h u/\RT K H' v (jB h)) (λ j v H1 H2 ⟨p,a,b⟩ s=>⟨p,a,b.kt (zj s)⟩) rfl h2 (by rw[RB];omega) (λ i hi H2 K' s2 kk=>?_) λ hv H2 s2 e2 lh hh=>?_
  · walk_at "r";refine(λ z=>z:aS H2 (HO.lst [V.int 8,V.int 1]) (λ p H2=>∃b0,V.int (L:Int)=V.int b0/\xP K p (b0/12) H2 λ x H1=>zE K [V.ref X,V.int i,V.int Z,x] H1 K' E0)->_) ?_;refine aS.of λ p3 H3 h3 s3 e3=>⟨L,rfl,⟨_,az.of e3,_,O,X,Y,i,Z,u,rfl,az.same J (s1.trans (s2.trans s3)),hn,by omega,by omega,λ v h H4 s4 rv gh=>kk _ _ (s3.trans s4) ⟨h,gh,rv⟩⟩⟩
  obtain⟨hs,lhs,G,rhs⟩:=BV hh;walk_at "n z3";refine⟨X,Y,2,rfl,az.same J (s1.trans s2),λ c2=>⟨c2,3,rfl,by omega,by omega,λ r r0=>?_⟩⟩;obtain⟨c,rfl⟩:=kM r0;walk_at "n z4";obtain⟨n4,g0,h0⟩:=l_ (c:Int);rw[g0];refine⟨n4,Z,rfl,h0,λ xk H3 s3 i0=>aS.of λ p4 H4 h4 s4 e4=>?_⟩;obtain⟨vk,c0,j0⟩:=pZ (l:=[V.str "number",V.str "truth",V.str xk]) nofun ((c:Int)/12) (m:=3) rfl;obtain⟨kd,rfl,k0⟩:∃kd,vk=V.str kd/\gQ kd:=by
    simp only[de,i5,or_false]at c0;rcases c0 with rfl|rfl|rfl
    · exact⟨_,rfl,.inl rfl⟩
    · exact⟨_,rfl,.inr (.inl rfl)⟩
    · exact⟨_,rfl,.inr (.inr i0)⟩
  refine⟨_,az.of e4,_,j0,?_⟩;walk_at "n z5";refine aS.of λ p5 H5 h5 s5 e5=>⟨c/36,Z,p5,["number"],rfl,az.of e5,nofun,qQ,λ vp ps H6 s6 rp lp hp=>?_⟩;have S6:=s3.trans (s4.trans (s5.trans s6));walk_at "n z6";refine⟨hv,.inl ⟨az.of (S6 _ _ e2),λ ht h7=>?_⟩⟩;have s7:=dR h7 (.tup hv);have e7:ar H6 ht (.tup hv) ht=some (.tup hv):=bu;generalize ar H6 ht (.tup hv)=H7 at*;obtain⟨ms,l0,p0⟩:=J4 Y 3 40 (lo:=3) (hi:=40) rfl rfl;refine⟨_,az.same J (s1.trans (s2.trans (S6.trans s7))),?_⟩;rw[l0];refine aS.of λ pc H8 h8 s8 e8=>⟨pc,Z,ms,rfl,az.of e8,by omega,λ vt t H9 s9 rt gd dp sz=>aS.of λ pa q0 s0 S m0=>aS.of λ pb t0 u0 M n0=>?_⟩;have U:=s7.trans (s8.trans (s9.trans (S.trans M)));have o0:∀h∈hs,nR h 8:=λ h I=>⟨(G h I).nm,(G h I).el,(G h I).fl,(G h I).f4,(G h I).wd,bR (G h I).wl (by omega)⟩;have sb:=Dg t G;refine q _ ⟨hs,⟨"main",ps,kd,t⟩⟩ _ (s1.trans (s2.trans (S6.trans U))) (.tup (ay.of n0) (.cons (.tup (ay.of ((s8.trans (s9.trans (S.trans M))) _ _ e7)) (rhs.same (S6.trans U))) (.cons (.tup (ay.of (M _ _ m0)) (.cons (rp.same U) (.cons (.str _) (.cons (rt.same (S.trans M)) .nil)))) .nil))) ⟨o0,by show hs.length<=12;omega,rfl,λ p' d0=>⟨(hp p' d0).1,dN.mp (hp p' d0).2⟩,lp,k0,gd,dp,?_⟩;show aG ((hs.flatMap λ h=>h.words.map (·.body))++[t])<=400;rcases R with⟨z1,z2⟩|⟨z1,z2⟩
  · subst z2;omega
  · subst z2;omega
open RR (Tn Tb TR nM)
inductive Gi(K:X0)(vs:List V)(H:Hp)(Q:VK):Prop
 |mk(v:V)(t:Tm)(a1:vs=[v])(a2:RT K H v t.dat)(a3:Good t)(a4:∀H',ao H H'->Q (.int (RR.fA t:Nat)) H'):Gi K vs H Q
def zI(K:X0):Sp:=λ vs H Q ω=>Gi K vs H Q
theorem zJ{f:Fm}{l:Lb}{ps:List Tm}(h:gq f l ps.length):∃r,ig f l (bO ps)=.str f.s::r:=by
 have a:∀{n:Nat},ps.length=n+1->∃p q,bO ps=p::q:=λ{n} e=>by
  cases ps with
  |nil=>cases e
  |cons p q=>exact⟨_,_,rfl⟩
 cases f
 case call=>
  cases l<;>try exact h.elim
  have h:1<=ps.length:=h;obtain⟨p,q,e⟩:=a (n:=ps.length-1) qR;rw[e];exact⟨_,rfl⟩
 case field=>
  cases l<;>try exact h.elim
  have h:ps.length=1:=h;obtain⟨p,q,e⟩:=a (n:=0) h;rw[e];exact⟨_,rfl⟩
 case set=>
  cases l<;>try exact h.elim
  have h:ps.length=2:=h;obtain⟨p,q,e⟩:=a (n:=1) h;rw[e];exact⟨_,rfl⟩
 all_goals exact⟨_,rfl⟩
def Bg:List (bZ×V):=[(.inr ";",.int 1),(.inr "<",.int 2),(.inr "=",.int 2),(.inr "+",.int 3),(.inr "-",.int 3)]
def Bf:List (bZ×V):=[(.inr "if",.int 2),(.inr "let",.int 1),(.inr "set",.int 2),(.inr "not",.int 5)]
theorem Js:∀s∈RR.iF,(cD (nA [] Bg) (.inr s)).getD (V.int 4)=.int (RR.aL s:Nat):=by decide+kernel
def pF:Fm->Nat
 | .iff=>2| .lt=>1| .set=>2| .nt=>5|_=>6
theorem II(f:Fm):(cD (nA [] Bf) (.inr f.s)).getD (V.int 6)=.int (pF f:Nat):=by cases f<;>decide+kernel
theorem Ed{f:Fm}(h:f≠.two)(l:Lb)(ps:List Tm):RR.fA (.mk f l ps)=pF f:=by
 cases f
 case two=>exact(h rfl).elim
 all_goals rfl
theorem IE{f:Fm}(h:f.s="two"):f=.two:=by
 cases f
 case two=>rfl
 all_goals exact UM h qP
theorem LF(T:∅):bJ P w K mg base 1 "_law_power" ["_law_term_here"] (zI K):=by
 walk_at "h QM OJ 1"
 obtain⟨v,t,rfl,n,D,q⟩:=h;refine⟨_,(aE (bP (qM dy (qA K 0) aK) (aN (bp (Gg (Ap hr) (FE (mf aK aw (mf aK aw (mf aK aw (mf aK aw (mf aK aw Fq))))) rfl rfl (by exact List.cons_ne_nil _ _) qS) (qA K 0) aw ⟨rfl,rfl,rfl,rfl⟩))) bW) (aN (bp (Gg (Ap hr) (FE (mf aK aw (mf aK aw (mf aK aw (mf aK aw Fq)))) rfl rfl (by exact List.cons_ne_nil _ _) qS) (qA K 0) aw ⟨rfl,rfl,rfl,rfl⟩)))),?_⟩;walk_at "r";obtain⟨u,l,ps⟩:=t;cases D with
 |mk ok G U X=>
 obtain⟨r,I⟩:=zJ ok;have n:RT K H v (.tuple (ig u l (bO ps))):=by rw[Tm.dat]at n;exact n
 obtain⟨a,Y,rfl,x,y⟩:=n.tup_inv;have c:=y;rw[I]at y;obtain⟨Z,J,rfl,L,M⟩:=y.inv;obtain rfl:=L.str_inv;refine⟨a,rfl,⟨_,x,_,fM,rfl,ax (λ e=>?_) λ e=>?_⟩⟩
 ·have e:u.s="two":=by injection e
  obtain rfl:=IE e;obtain⟨sg,rfl⟩:∃sg,l=.str sg:=by cases l<;>first|exact⟨_,rfl⟩|exact ok.elim
  have N:sg∈RR.iF:=G;have c:bM K H (V.str Fm.two.s::J) (.str "two"::.str sg::bO ps):=c;obtain⟨w0,wr,O,ω,i⟩:=c.inv;cases O;obtain⟨w1,R,rfl,i,ω⟩:=i.inv;obtain rfl:=i.str_inv;refine aS.of λ p S C j m=>⟨m,Bg,rfl,qQ,.inl ⟨_,.inl bu⟩,a,rfl,⟨_,ay.kt (ay.same x j) (Kt.put _ m (λ ω z=>by cases z) (λ ω ω z=>by cases z)),_,fL,_,iV.k (k:=.inr sg) bu,?_⟩⟩;rw[Js sg N];refine q _ λ b o g=>?_;rw[aU (λ z=>by rw[z,C]at g;cases g)];exact j _ _ g
 ·have e:u≠.two:=λ z=>e (by rw[z];rfl);refine aS.of λ p S i j m=>⟨m,Bf,rfl,qQ,.inl ⟨_,.inl bu⟩,a,rfl,⟨_,ay.kt (ay.same x j) (Kt.put _ m (λ ω z=>by cases z) (λ ω ω z=>by cases z)),_,fM,_,iV.k (k:=.inr u.s) bu,?_⟩⟩;rw[II,<-Ed e l ps];refine q _ λ b o g=>?_;rw[aU (λ z=>by rw[z,i]at g;cases g)];exact j _ _ g
inductive Gb(K:X0)(d:Nat)(vs:List V)(H:Hp)(Q:VK):Prop
 |mk(v:V)(t:Tm)(L:Nat)(a1:vs=[v,.int L])(a2:RT K H v t.dat)(a3:Good t)(a4:t.depth<=d)(a5:t.size<=400)(a6:1<=L)(a7:L<=6)(a8:∀x H',ao H H'->Tb L t x->(L<=RR.fA t->Tn t x)->Q (.str x) H'):Gb K d vs H Q
def qi(K:X0)(d:Nat):Sp:=λ vs H Q ω=>Gb K d vs H Q
inductive Gv(K:X0)(d:Nat)(vs:List V)(H:Hp)(Q:VK):Prop
 |mk(v:V)(t:Tm)(a1:vs=[v,.int (RR.fA t:Nat)])(a2:RT K H v t.dat)(a3:Good t)(a4:t.depth<=d)(a5:t.size<=400)(a6:∀x H',ao H H'->Tn t x->Q (.str x) H'):Gv K d vs H Q
def Gc(K:X0)(d:Nat):Sp:=λ vs H Q ω=>Gv K d vs H Q
inductive Fw(K:X0)(d:Nat)(vs:List V)(H:Hp)(Q:VK):Prop
 |mk(a:V0)(us:List V)(ts:List Tm)(a1:vs=[.ref a])(a2:ay K H a us)(a3:bM K H us (bO ts))(a4:(∀t∈ts,Good t/\t.depth<=d/\t.size<=400))(a5:ts.length<=8)(a6:aG ts<=400)(a7:∀x H',ao H H'->TR ts x->Q (.str x) H'):Fw K d vs H Q
def Fi(K:X0)(d:Nat):Sp:=λ vs H Q ω=>Fw K d vs H Q
def sG(x:U1):Option Fm:=if x="number" then some .number else if x="truth" then some .truth else if x="name" then some .name else if x="self" then some .self else if x="not" then some .nt else if x="if" then some .iff else if x="two" then some .two else if x="let" then some .lt else if x="new" then some .new else if x="elder" then some .elder else if x="call" then some .call else if x="field" then some .field else if x="set" then some .set else none
theorem EL(f:Fm):sG f.s=some f:=by cases f<;>(unfold sG;with_unfolding_all rfl)
theorem lY{f g:Fm}(h:f.s=g.s):f=g:=by
 have a:=EL f;rw[h,EL g]at a;injection a with a
 exact a.symm
variable{t:Tm}
theorem zx(h:Good t):1<=RR.fA t/\RR.fA t<=6:=by
 cases h with
 |@mk f l ps ok a g i=>
  by_cases e:f=.two
  ·subst e;obtain⟨sg,rfl⟩:∃sg,l=.str sg:=by cases l<;>first|exact⟨_,rfl⟩|exact ok.elim
   have c:sg∈RR.iF:=a;have:∀s∈RR.iF,1<=RR.aL s/\RR.aL s<=6:=by decide+kernel
   exact this sg c
  ·rw[Ed e];cases f<;>decide
theorem tK{ts:List Tm}(h:t∈ts):t.size<=aG ts:=by
 induction ts with
 |nil=>exact(i5 h).elim
 |cons y r a=>
  show t.size<=y.size+aG r;rcases(de.mp h)with rfl|h
  ·lia
  ·have:=a h;lia
theorem uK{x:U1}(h:Tn t x):x.length<=40*t.size:=by obtain⟨u,i,w,l⟩:=h;exact l
theorem AJ{ts:List Tm}{x:U1}(h:TR ts x):x.length<=40*aG ts+2*ts.length+2:=by obtain⟨ps,e,i,w,b,l⟩:=h;exact l
theorem jQ{L:Nat}{x:U1}(h:Tb L t x):x.length<=40*t.size+2:=by obtain⟨u,i,w,l⟩:=h;exact l
theorem Em:∀{ts:List Tm}{vs:List V},vs.length=ts.length->(∀(j:Nat) v,vs[j]?=some v->∃t x,ts[j]?=some t/\v=.str x/\Tn t x)->∃xs:List U1,vs=xs.map V.str/\nM ts xs/\(xs.map (·.length)).sum<=40*aG ts
 |[],[],_,_=>⟨[],rfl,.nil,aQ _⟩
 |t::ts,v::vs,hl,h=>by
  obtain⟨m,x,e,rfl,g⟩:=h 0 v rfl;cases e;obtain⟨xs,a,b,c⟩:=Em (ts:=ts) (vs:=vs) (by simpa using hl) λ j v i=>h (j+1) v i;refine⟨x::xs,by rw[a];rfl,.cons g b,?_⟩;have:=uK g;show x.length+(xs.map (·.length)).sum<=40*(t.size+aG ts);lia
 |[],_::_,h,_=>by cases h
 |_::_,[],h,_=>by cases h
theorem oH{α:Type}{xs:List α}(h:xs.length=2):∃a b,xs=[a,b]:=by
 match xs,h with
 |[a,b],_=>exact⟨a,b,rfl⟩
theorem yB{α:Type}{xs:List α}(h:xs.length=3):∃a b c,xs=[a,b,c]:=by
 match xs,h with
 |[a,b,c],_=>exact⟨a,b,c,rfl⟩
theorem LX(h:m<10^9):(m:Int).natAbs.log2<1920:=by
 rw[Int.natAbs_natCast];rcases Nat.eq_zero_or_pos m with rfl|a
 ·decide
 ·exact dv ((rR qR).mpr (dv h qS:m<2^30)) qS
theorem Lq{K:X0}{v:V}{b:Bool}(h:RT K H v (.bool b)):v=.bl b:=by cases h;rfl
theorem Kr{K:X0}{v:V}{i:Int}(h:RT K H v (.int i)):v=.int i:=by cases h;rfl
theorem HQ:∀x∈RR.iF,x.length<=9/\1<=RR.ke (RR.aL x)/\RR.ke (RR.aL x)<=6/\1<=RR.j6 (RR.aL x)/\RR.j6 (RR.aL x)<=6:=by decide+kernel
theorem Ll(n:Nat):((n:Int)+if(n:Int)<3 then 1 else 0)=((RR.ke n:Nat):Int):=by unfold RR.ke;split<;>split<;>lia
theorem KH(n:Nat):((n:Int)+if 1<(n:Int)then 1 else 0)=((RR.j6 n:Nat):Int):=by unfold RR.j6;split<;>split<;>lia
theorem K5(T:∅){d k:Nat}(c:bJ P w K mg base k "_law_bare" ["_law_term_here","_law_least"] (qi K d)):bJ P w K mg base (k+1) "_law_row" ["_law_terms"] (Fi K d):=by
 walk_at "h QU Ov 1"
 obtain⟨a,us,ts,rfl,u,z,g,l8,sz,q⟩:=h;refine⟨_,(aN (bp (aC cZ (aC cZ aK (gM pM rL rK tj aK (qI (eX rfl (aD.plain (N:=["_law_term_here"]) rfl qP qP qP) (jg (ai 0)) (λ C O s H=>(qH 0 (show(["_law_term_here"]:List U1).Nodup by decide+kernel))) (λ C O s H=>(qF c hr (qJ (ai 0) aw))))))) aK))),?_⟩;walk_at "r";have R:us.length=ts.length:=by rw[z.length,mh]
 refine⟨rfl,⟨_,u⟩,λ D S=>kZ none _ (λ j v H'=>∃t x,ts[j]?=some t/\v=V.str x/\Tn t x) (λ ω ω ω ω h ω=>h) rfl S (by rw[RB];lia) (λ G m=>ay.same u m) (λ i y U G K' m X=>?_) λ vs G m Y I Z=>?_⟩
 ·obtain⟨d',n,ry⟩:=z.at U;obtain⟨t,J,rfl⟩:=zh n;obtain⟨L,dp,o⟩:=g t (kP J);walk_at "r";exact⟨y,t,1,rfl,ry.same m,L,dp,o,qR,qR,λ x H2 s2 tb tn=>X _ _ s2 ⟨t,x,J,rfl,tn (zx L).1⟩⟩
 ·obtain⟨M,rfl,tl,sm⟩:=Em (by rw[I,R]) Z;have k1:(", ":U1).length=2:=by decide+kernel
  have k2:("(":U1).length=1:=by decide+kernel
  have k3:(")":U1).length=1:=by decide+kernel
  have lx:M.length=ts.length:=by rw[bB]at I;lia
  have tr:=RR.mL tl;obtain⟨ps,e,i,w',b,l⟩:=tr;rw[RR.aj,RR.aj,k2,k3]at l;refine⟨_,_,M,rfl,rfl,az.of Y,by rw[k1];lia,_,rfl,qR,by rw[RR.aj];lia,q _ _ m (RR.mL tl)⟩
theorem Nt(T:∅){d k:Nat}(n:bJ P w K mg base k "_law_bare" ["_law_term_here","_law_least"] (qi K d))(C:bJ P w K mg base (k+1) "_law_row" ["_law_terms"] (Fi K d)):bJ P w K mg base (k+2) "_law_inner" ["_law_term_here","_law_power_here"] (Gc K (d+1)):=by
 walk_at "h QL tX 2"
 obtain⟨v,t,rfl,rt,gd,dp,sz,q⟩:=h;refine⟨_,(aE (qG 2 tX.nd (qA K 0)) (aE (bP (qM dy (ai 2) aK) (aN (bp (qD K (cJ (qJ aK aK)) (fg o_ rfl T.z_int nz (qI (qA K 0)))))) bW) (aE (bP (mi (r:=lF K false) nG (ai 2) (cH (qK aK aK aK)) (by with_unfolding_all rfl)) (aN (bp (fg (r:=iR) CN rfl T.z_str E5 (qI (qC K (ai 0) qN))))) bW) (aE (bP (qM dy (ai 2) aK) (aN (bp (aC cZ (aC cZ aK (qA K 0)) (qF C hr (qI (qA K 0)))))) bW) (aE (bP (qM dy (ai 2) aK) (aN (bp (aC cZ (aC cZ (aC cZ aK (qA K 0)) aK) (qF C hr (qI (qA K 0)))))) bW) (aE (bP (qM dy (ai 2) aK) (aN (bp (aC cZ (aC cZ (qF n hr (qJ (qA K 0) aw)) aK) (qA K 0)))) bW) (aE (bP (qM dy (ai 2) aK) (aN (bp (aC cZ (aC cZ (aC cZ (qF n hr (qJ (qA K 0) aw)) aK) (qA K 0)) (qF C hr (qI (qA K 0)))))) bW) (aE (bP (qM dy (ai 2) aK) (aN (bp (aC cZ aK (qF n hr (qJ (qA K 0) aw))))) bW) (aE (bP (qM dy (ai 2) aK) (aE (qG 3 tX.nd (qF n hr (qJ (qA K 0) (aC cK (ai 1) (fg o_ rfl T.z_int nz (qI (fC nh (ai 1) aw (iu _)))))))) (aN (bp (aC cZ (aC cZ (aC cZ (aC cZ (ai 3) aK) (qA K 0)) aK) (qF n hr (qJ (qA K 0) (aC cK (ai 1) (fg o_ rfl T.z_int nz (qI (fC iP (ai 1) aw (iu _))))))))))) bW) (aE (bP (qM dy (ai 2) aK) (aE (qG 4 tX.nd (aC cZ (aC cZ (aC cZ aK (qF n hr (qJ (qA K 0) aw))) aK) (qA K 0))) (aN (bp (aC cZ (aC cZ (ai 4) aK) (qF n hr (qJ (qA K 0) aw)))))) bW) (aE (bP (qM dy (ai 2) aK) (aE (qG 5 tX.nd (aC cZ (aC cZ (aC cZ aK (qA K 0)) aK) (qF n hr (qJ (qA K 0) aw)))) (aN (bp (aC cZ (aC cZ (ai 5) aK) (qF n hr (qJ (qA K 0) aw)))))) bW) (aE (qG 5 tX.nd (aC cZ (aC cZ (aC cZ aK (qF n hr (qJ (qA K 0) aw))) aK) (qF n hr (qJ (qA K 0) aw)))) (aN (bp (aC cZ (aC cZ (ai 5) aK) (qF n hr (qJ (qA K 0) aw))))))))))))))))),?_⟩;refine Av λ uz12 huz12 uz11 huz11 uz10 huz10 uz9 huz9 uz8 huz8 uz7 huz7 uz6 huz6 uz5 huz5 uz4 huz4 uz3 huz3 uz2 huz2 uz1 huz1=>?_;walk_at "r";obtain⟨f',l,ps⟩:=t;have e0:1+aO ps<=d+1:=by rw[<-RR.uH (f:=f') (l:=l)];exact dp
 have c0:1+aG ps<=400:=by rw[<-RR.uf (f:=f') (l:=l)];exact sz
 have f0:=gd;cases gd with
 |mk ok lb l8 gs=>
 have G:∀p∈ps,Good p/\p.depth<=d/\p.size<=400:=λ p hp=>⟨gs p hp,by have:=RR.dP hp;lia,by have:=tK hp;lia⟩;obtain⟨r,er⟩:=zJ ok;have rt:RT K H v (.tuple (ig f' l (bO ps))):=by rw[Tm.dat]at rt;exact rt
 obtain⟨a,xs,rfl,sq,rs⟩:=rt.tup_inv;have a0:=rs;rw[er]at rs;obtain⟨v0,Y,rfl,h0,g0⟩:=rs.inv;obtain rfl:=h0.str_inv;refine⟨a,rfl,⟨_,sq,_,fM,?_⟩⟩;walk_at "n z1";refine ax (λ e=>?_) λ n1=>?_
 ·obtain rfl:=lY (g:=.truth) e;obtain⟨b,rfl⟩:∃b,l=.bl b:=by cases l<;>first|exact⟨_,rfl⟩|exact ok.elim
  have M:ps.length=0:=ok;obtain rfl:=ui.mp M;have o:bM K H (V.str Fm.truth.s::Y) [.str "truth",.bool b]:=a0;obtain⟨ω,ω,I,ω,r1⟩:=o.inv;cases I;obtain⟨S,wr,rfl,J,N⟩:=r1.inv;obtain rfl:=Lq J;refine aS.of λ p1 H1 h1 O e1=>⟨_,ay.same sq O,_,fL,.inr ⟨b,rfl,?_⟩⟩;cases b with
  |true=>exact⟨_,az.of e1,_,fL,q _ _ O RR.nV⟩
  |false=>exact⟨_,az.of e1,_,fM,q _ _ O RR.qU⟩
 walk_at "n z2";refine aS.of λ p1 H1 h1 O e1=>⟨_,.inr (ay.of e1),rfl,rfl,ax (λ e=>?_) λ n2=>?_⟩
 ·have hf:f'=.number\/f'=.name\/f'=.self:=by
   cases f'<;>first|exact .inl rfl|exact .inr (.inl rfl)|exact .inr (.inr rfl)|exact UM e qS
  rcases hf with rfl|rfl|rfl
  ·obtain⟨i,rfl⟩:∃i,l=.int i:=by cases l<;>first|exact⟨_,rfl⟩|exact ok.elim
   have M:ps.length=0:=ok;obtain rfl:=ui.mp M;have o:bM K H (V.str Fm.number.s::Y) [.str "number",.int i]:=a0;obtain⟨ω,ω,I,ω,r1⟩:=o.inv;cases I;obtain⟨S,wr,rfl,J,N⟩:=r1.inv;obtain rfl:=Kr J;cases N;obtain⟨b1,b2⟩:0<=i/\i<10^9:=lb;obtain⟨m,rfl⟩:=kM b1;have b3:m<10^9:=by lia
   exact⟨_,ay.same sq O,_,qj [_] _,.int _ rfl (LX b3) (q _ _ O (RR.nY b3))⟩
  ·obtain⟨x,rfl⟩:∃x,l=.str x:=by cases l<;>first|exact⟨_,rfl⟩|exact ok.elim
   have L:av x=true:=lb;have M:ps.length=0:=ok;obtain rfl:=ui.mp M;have o:bM K H (V.str Fm.name.s::Y) [.str "name",.str x]:=a0;obtain⟨ω,ω,I,ω,r1⟩:=o.inv;cases I;obtain⟨S,wr,rfl,J,N⟩:=r1.inv;obtain rfl:=J.str_inv;cases N;exact⟨_,ay.same sq O,_,qj [_] _,.str _ rfl (q _ _ O (RR.ll L))⟩
  ·obtain rfl:l=.non:=by cases l<;>first|rfl|exact ok.elim
   have M:ps.length=0:=ok;obtain rfl:=ui.mp M;have o:bM K H (V.str Fm.self.s::Y) [.str "self"]:=a0;obtain⟨ω,ω,I,ω,r1⟩:=o.inv;cases I;cases r1;exact⟨_,ay.same sq O,_,qj [] _,.str _ rfl (q _ _ O RR.lj)⟩
 have u:=ay.same sq O;have o:=a0.same O;walk_at "n z3";refine ax (λ e=>?_) λ n3=>?_
 ·obtain rfl:=lY (g:=.new) e;obtain⟨x,rfl⟩:∃x,l=.str x:=by cases l<;>first|exact⟨_,rfl⟩|exact ok.elim
  have L:av x=true:=lb;have nl:=(RR.eA L).len;have k1:("new ":U1).length=4:=by decide+kernel
  have o:bM K H1 (V.str Fm.new.s::Y) [.str "new",.str x,.tuple (bO ps)]:=o;obtain⟨ω,ω,I,ω,r1⟩:=o.inv;cases I;obtain⟨S,wr,rfl,J,N⟩:=r1.inv;obtain rfl:=J.str_inv;obtain⟨w2,U,rfl,X,Z⟩:=N.inv;obtain⟨b,us,rfl,sb,rb⟩:=X.tup_inv;refine⟨_,u,_,fL,x,rfl,qR,⟨_,u,_,kQ,b,us,ps,rfl,sb,rb,G,l8,qR,λ y H2 D tr=>?_⟩⟩;have ly:=AJ tr;exact⟨y,rfl,by rw[RR.aj];lia,q _ _ (O.trans D) (RR.n_ L tr l8)⟩
 walk_at "n z4";refine ax (λ e=>?_) λ n4=>?_
 ·obtain rfl:=lY (g:=.elder) e;obtain⟨x,rfl⟩:∃x,l=.str x:=by cases l<;>first|exact⟨_,rfl⟩|exact ok.elim
  have L:av x=true:=lb;have nl:=(RR.eA L).len;have k1:("elder.":U1).length=6:=by decide+kernel
  have k2:(" ":U1).length=1:=by decide+kernel
  have o:bM K H1 (V.str Fm.elder.s::Y) [.str "elder",.str x,.tuple (bO ps)]:=o;obtain⟨ω,ω,I,ω,r1⟩:=o.inv;cases I;obtain⟨S,wr,rfl,J,N⟩:=r1.inv;obtain rfl:=J.str_inv;obtain⟨w2,U,rfl,X,Z⟩:=N.inv;obtain⟨b,us,rfl,sb,rb⟩:=X.tup_inv;refine⟨_,u,_,fL,x,rfl,qR,by rw[RR.aj];lia,⟨_,u,_,kQ,b,us,ps,rfl,sb,rb,G,l8,qR,λ y H2 D tr=>?_⟩⟩;have ly:=AJ tr;exact⟨y,rfl,by rw[RR.aj,RR.aj];lia,q _ _ (O.trans D) (RR.jW L tr l8)⟩
 walk_at "n z5";refine ax (λ e=>?_) λ n5=>?_
 ·obtain rfl:=lY (g:=.field) e;obtain⟨x,rfl⟩:∃x,l=.str x:=by cases l<;>first|exact⟨_,rfl⟩|exact ok.elim
  have L:av x=true:=lb;have nl:=(RR.eA L).len;have k1:(".":U1).length=1:=by decide+kernel
  have M:ps.length=1:=ok;obtain⟨p,rfl⟩:=rJ.mp M;have o:bM K H1 (V.str Fm.field.s::Y) [.str "field",p.dat,.str x]:=o;obtain⟨ω,ω,I,ω,r1⟩:=o.inv;cases I;obtain⟨S,wr,rfl,J,N⟩:=r1.inv;obtain⟨w2,U,rfl,X,Z⟩:=N.inv;obtain rfl:=X.str_inv;obtain⟨g1,g2,g3⟩:=G p cy;refine⟨_,u,_,fL,S,p,6,rfl,J,g1,g2,g3,qR,qR,λ y H2 D R ω=>?_⟩;have ly:=jQ R;exact⟨y,rfl,qR,⟨_,ay.same u D,_,kQ,x,rfl,by rw[RR.aj];lia,q _ _ (O.trans D) (RR.jV L R)⟩⟩
 walk_at "n z6";refine ax (λ e=>?_) λ n6=>?_
 ·obtain rfl:=lY (g:=.call) e;obtain⟨x,rfl⟩:∃x,l=.str x:=by cases l<;>first|exact⟨_,rfl⟩|exact ok.elim
  have L:av x=true:=lb;have nl:=(RR.eA L).len;have k1:(" . ":U1).length=3:=by decide+kernel
  have M:1<=ps.length:=ok;obtain⟨p,ps,rfl⟩:∃p r,ps=p::r:=by
   cases ps with
   |nil=>simp at M
   |cons p r=>exact⟨p,r,rfl⟩
  have o:bM K H1 (V.str Fm.call.s::Y) [.str "call",p.dat,.str x,.tuple (bO ps)]:=o;obtain⟨ω,ω,I,ω,r1⟩:=o.inv;cases I;obtain⟨S,wr,rfl,J,N⟩:=r1.inv;obtain⟨w2,U,rfl,X,Z⟩:=N.inv;obtain rfl:=X.str_inv;obtain⟨w3,b0,rfl,q3,r4⟩:=Z.inv;obtain⟨b,us,rfl,sb,rb⟩:=q3.tup_inv;obtain⟨g1,g2,g3⟩:=G p cy;have l9:ps.length<=8:=by simp only[cj]at l8;lia
  have i0:1+(p.size+aG ps)<=400:=c0;refine⟨_,u,_,fL,S,p,6,rfl,J,g1,g2,g3,qR,qR,λ y H2 D R ω=>?_⟩;have ly:=jQ R;refine⟨y,rfl,qR,⟨_,ay.same u D,_,kQ,x,rfl,by rw[RR.aj];lia,⟨_,ay.same u D,_,gB (j:=3) rfl,b,us,ps,rfl,ay.same sb D,rb.same D,λ z hz=>G z (cV _ hz),l9,qR,λ z H3 s3 tr=>?_⟩⟩⟩;have lz:=AJ tr;exact⟨z,rfl,by rw[RR.aj,RR.aj];lia,q _ _ (O.trans (D.trans s3)) (RR.lr L R tr l9)⟩
 walk_at "n z7";refine ax (λ e=>?_) λ n7=>?_
 ·obtain rfl:=lY (g:=.nt) e;have k1:("not ":U1).length=4:=by decide+kernel
  obtain rfl:l=.non:=by cases l<;>first|rfl|exact ok.elim
  have M:ps.length=1:=ok;obtain⟨p,rfl⟩:=rJ.mp M;have o:bM K H1 (V.str Fm.nt.s::Y) [.str "not",p.dat]:=o;obtain⟨ω,ω,I,ω,r1⟩:=o.inv;cases I;obtain⟨S,wr,rfl,J,N⟩:=r1.inv;obtain⟨g1,g2,g3⟩:=G p cy;refine⟨_,u,_,fL,S,p,5,rfl,J,g1,g2,g3,qR,qR,λ y H2 D R ω=>?_⟩;have ly:=jQ R;exact⟨y,rfl,qR,q _ _ (O.trans D) (RR.nZ R)⟩
 walk_at "n z8";refine ax (λ e=>?_) λ n8=>?_
 ·obtain rfl:=lY (g:=.two) e;obtain⟨x,rfl⟩:∃x,l=.str x:=by cases l<;>first|exact⟨_,rfl⟩|exact ok.elim
  have L:x∈RR.iF:=lb;obtain⟨nl,g1,g2,g3,g4⟩:=HQ x L;have k1:(" ":U1).length=1:=by decide+kernel
  have M:ps.length=2:=ok;obtain⟨p,r,rfl⟩:=oH M;have o:bM K H1 (V.str Fm.two.s::Y) [.str "two",.str x,p.dat,r.dat]:=o;obtain⟨ω,ω,I,ω,r1⟩:=o.inv;cases I;obtain⟨S,wr,rfl,J,N⟩:=r1.inv;obtain rfl:=J.str_inv;obtain⟨w2,U,rfl,X,Z⟩:=N.inv;obtain⟨w3,b0,rfl,q3,r4⟩:=Z.inv;obtain⟨i1,i2,i3⟩:=G p cy;obtain⟨j1,j2,j3⟩:=G r (cV _ cy);refine⟨_,u,_,kQ,.inr ⟨w2,p,RR.ke (RR.aL x),by rw[<-Ll];rfl,X,i1,i2,i3,g1,g2,λ y H2 D R ω=>?_⟩⟩;have ly:=jQ R;refine⟨y,rfl,qR,⟨_,ay.same u D,_,fL,x,rfl,by rw[RR.aj];lia,by rw[RR.aj,RR.aj];lia,⟨_,ay.same u D,_,gB (j:=3) rfl,.inr ⟨w3,r,RR.j6 (RR.aL x),by rw[<-KH];rfl,q3.same D,j1,j2,j3,g3,g4,λ z H3 s3 tc ω=>?_⟩⟩⟩⟩;have lz:=jQ tc;exact⟨z,rfl,by rw[RR.aj,RR.aj,RR.aj];lia,q _ _ (O.trans (D.trans s3)) (RR.nW L R tc)⟩
 walk_at "n z9";refine ax (λ e=>?_) λ n9=>?_
 ·obtain rfl:=lY (g:=.set) e;obtain⟨x,rfl⟩:∃x,l=.str x:=by cases l<;>first|exact⟨_,rfl⟩|exact ok.elim
  have L:av x=true:=lb;have nl:=(RR.eA L).len;have k1:("set ":U1).length=4:=by decide+kernel
  have k2:(".":U1).length=1:=by decide+kernel
  have k3:(" =\t":U1).length=3:=by decide+kernel
  have M:ps.length=2:=ok;obtain⟨p,r,rfl⟩:=oH M;have o:bM K H1 (V.str Fm.set.s::Y) [.str "set",p.dat,.str x,r.dat]:=o;obtain⟨ω,ω,I,ω,r1⟩:=o.inv;cases I;obtain⟨S,wr,rfl,J,N⟩:=r1.inv;obtain⟨w2,U,rfl,X,Z⟩:=N.inv;obtain rfl:=X.str_inv;obtain⟨w3,b0,rfl,q3,r4⟩:=Z.inv;obtain⟨i1,i2,i3⟩:=G p cy;obtain⟨j1,j2,j3⟩:=G r (cV _ cy);refine⟨_,u,_,fL,S,p,6,rfl,J,i1,i2,i3,qR,qR,λ y H2 D R ω=>?_⟩;have ly:=jQ R;refine⟨y,rfl,qR,by rw[RR.aj];lia,⟨_,ay.same u D,_,kQ,x,rfl,by rw[RR.aj,RR.aj];lia,by rw[RR.aj,RR.aj,RR.aj];lia,⟨_,ay.same u D,_,gB (j:=3) rfl,w3,r,2,rfl,q3.same D,j1,j2,j3,qR,qR,λ z H3 s3 tc ω=>?_⟩⟩⟩;have lz:=jQ tc;exact⟨z,rfl,by rw[RR.aj,RR.aj,RR.aj,RR.aj];lia,q _ _ (O.trans (D.trans s3)) (RR.nX L R tc)⟩
 walk_at "n z10";refine ax (λ e=>?_) λ d0=>?_
 ·obtain rfl:=lY (g:=.lt) e;obtain⟨x,rfl⟩:∃x,l=.str x:=by cases l<;>first|exact⟨_,rfl⟩|exact ok.elim
  have L:av x=true:=lb;have nl:=(RR.eA L).len;have k1:("let ":U1).length=4:=by decide+kernel
  have k2:(" = ":U1).length=3:=by decide+kernel
  have k3:("\nin ":U1).length=4:=by decide+kernel
  have M:ps.length=2:=ok;obtain⟨p,r,rfl⟩:=oH M;have o:bM K H1 (V.str Fm.lt.s::Y) [.str "let",.str x,p.dat,r.dat]:=o;obtain⟨ω,ω,I,ω,r1⟩:=o.inv;cases I;obtain⟨S,wr,rfl,J,N⟩:=r1.inv;obtain rfl:=J.str_inv;obtain⟨w2,U,rfl,X,Z⟩:=N.inv;obtain⟨w3,b0,rfl,q3,r4⟩:=Z.inv;obtain⟨i1,i2,i3⟩:=G p cy;obtain⟨j1,j2,j3⟩:=G r (cV _ cy);refine⟨_,u,_,fL,x,rfl,qR,by rw[RR.aj];lia,⟨_,u,_,kQ,w2,p,1,rfl,X,i1,i2,i3,qR,qR,λ y H2 D R ω=>?_⟩⟩;have ly:=jQ R;refine⟨y,rfl,by rw[RR.aj,RR.aj];lia,by rw[RR.aj,RR.aj,RR.aj];lia,⟨_,ay.same u D,_,gB (j:=3) rfl,w3,r,1,rfl,q3.same D,j1,j2,j3,qR,qR,λ z H3 s3 tc ω=>?_⟩⟩;have lz:=jQ tc;exact⟨z,rfl,by rw[RR.aj,RR.aj,RR.aj,RR.aj];lia,q _ _ (O.trans (D.trans s3)) (RR.oe L R tc)⟩
 walk_at "n z11";obtain rfl:f'=.iff:=by
  cases f'<;>first|rfl|exact UM rfl n1|exact UM rfl n3|exact UM rfl n4|exact UM rfl n5|exact UM rfl n6|exact UM rfl n7|exact UM rfl n8|exact UM rfl n9|exact UM rfl d0|exact UM qS n2
 obtain rfl:l=.non:=by cases l<;>first|rfl|exact ok.elim
 have k1:("if ":U1).length=3:=by decide+kernel
 have k2:(" then ":U1).length=6:=by decide+kernel
 have k3:("\nelse ":U1).length=6:=by decide+kernel
 have M:ps.length=3:=ok;obtain⟨p,r,c,rfl⟩:=yB M;have o:bM K H1 (V.str Fm.iff.s::Y) [.str "if",p.dat,r.dat,c.dat]:=o;obtain⟨ω,ω,I,ω,r1⟩:=o.inv;cases I;obtain⟨S,wr,rfl,J,N⟩:=r1.inv;obtain⟨w2,U,rfl,X,Z⟩:=N.inv;obtain⟨w3,b0,rfl,q3,r4⟩:=Z.inv;obtain⟨i1,i2,i3⟩:=G p cy;obtain⟨j1,j2,j3⟩:=G r (cV _ cy);obtain⟨m1,m2,m3⟩:=G c (cV _ (cV _ cy));refine⟨_,u,_,fL,S,p,1,rfl,J,i1,i2,i3,qR,qR,λ y H2 D R ω=>?_⟩;have ly:=jQ R;refine⟨y,rfl,qR,by rw[RR.aj];lia,⟨_,ay.same u D,_,kQ,w2,r,1,rfl,X.same D,j1,j2,j3,qR,qR,λ z H3 s3 tc ω=>?_⟩⟩;have lz:=jQ tc;refine⟨z,rfl,by rw[RR.aj,RR.aj];lia,?_⟩;walk_at "n z12";refine⟨by rw[RR.aj,RR.aj,RR.aj];lia,⟨_,ay.same u (D.trans s3),_,gB (j:=3) rfl,w3,c,2,rfl,q3.same (D.trans s3),m1,m2,m3,qR,qR,λ x H4 s4 td ω=>?_⟩⟩;have lx:=jQ td;exact⟨x,rfl,by rw[RR.aj,RR.aj,RR.aj,RR.aj];lia,q _ _ (O.trans (D.trans (s3.trans s4))) (RR.qV R tc td)⟩
theorem MC(T:∅){d k:Nat}(c:bJ P w K mg base 1 "_law_power" ["_law_term_here"] (zI K))(a:bJ P w K mg base (k+1) "_law_inner" ["_law_term_here","_law_power_here"] (Gc K d)):bJ P w K mg base (k+2) "_law_bare" ["_law_term_here","_law_least"] (qi K d):=by
 walk_at "h Q3 Ji 2"
 obtain⟨v,t,L,rfl,m,n,u,sz,y,C,q⟩:=h;refine⟨_,(aE (qG 2 Ji.nd (qF c hr (qI (ai 0)))) (aE (bP (qM nh (ai 2) (ai 1)) (aN (bp (aC cZ (aC cZ aK (qF a hr (qJ (ai 0) (ai 2)))) aK))) bW) (aN (bp (qF a hr (qJ (ai 0) (ai 2))))))),?_⟩;walk_at "r";have G:("(":U1).length=1:=by decide+kernel
 have I:(")":U1).length=1:=by decide+kernel
 refine⟨v,t,rfl,m,n,λ J j=>⟨_,rfl,ax (λ e=>?_) λ e=>?_⟩⟩
 ·refine⟨v,t,rfl,m.same j,n,u,sz,λ x D o g=>?_⟩;have:=uK g;exact⟨x,rfl,qR,by rw[RR.aj];lia,q _ _ (j.trans o) (RR.qX g qR y C) λ z=>UM z qR⟩
 ·exact⟨v,t,rfl,m.same j,n,u,sz,λ x D o g=>q _ _ (j.trans o) (RR.qW g qR y) λ ω=>g⟩
inductive GH(K:X0)(vs:List V)(H:Hp)(Q:VK):Prop
 |mk(v:V)(ps:List (U1×U1))(a1:vs=[v])(a2:RT K H v (ic ps))(a3:ps.length<=4)(a4:(∀p∈ps,eD p))(a5:∀H',ao H H'->Q (.str ("("++Te ", " (ps.map RR.fb)++")")) H'):GH K vs H Q
def Gp(K:X0):Sp:=λ vs H Q ω=>GH K vs H Q
variable{vs:List V}
theorem FR{α:Type}{ps:List α}{g:α->U1}(l:vs.length=ps.length)(h:∀(j:Nat) v,vs[j]?=some v->∃p,ps[j]?=some p/\v=.str (g p)):vs=(ps.map g).map V.str:=by
 apply List.ext_getElem?;intro j;rw[eK,eK];rcases a:vs[j]? with _|v
 ·rw[rO (by have:=List.getElem?_eq_none_iff.mp a;lia)];rfl
 ·obtain⟨p,c,rfl⟩:=h j v a;rw[c];rfl
theorem yX:∀{α:List U1},(∀x∈α,x.length<=c)->(α.map (·.length)).sum<=c*α.length
 |[],_=>by simp
 |x::r,h=>by
  have a:=h x cy;have b:=yX λ y e=>h y (cV _ e);simp only[dJ,lJ,cj,Nat.mul_add];lia
theorem nC{K:X0}{us:List V}{ps:List (U1×U1)}{i:Nat}{y:V}(c:bM K H us (ps.map λ p=>.tuple [.str p.1,.str p.2]))(e:us[i]?=some y):∃p,ps[i]?=some p/\∃b,y=.ref b/\ay K H b [.str p.1,.str p.2]:=by
 obtain⟨d,hd,r⟩:=c.at e;rw[eK]at hd;rcases a:ps[i]? with _|p
 ·rw[a]at hd;cases hd
 ·rw[a]at hd;cases hd;obtain⟨b,x,rfl,g,j⟩:=r.tup_inv;obtain⟨z,A,rfl,m,n⟩:=j.inv;obtain rfl:=m.str_inv;obtain⟨C,o,rfl,u,v⟩:=n.inv;obtain rfl:=u.str_inv;obtain rfl:=v.nil_inv;exact⟨p,rfl,b,rfl,g⟩
theorem MW(T:∅):bJ P w K mg base 1 "_law_bare" ["_law_term_here","_law_least"] (qi K 0):=by
 walk_at "h Q3 Ji 2"
 obtain⟨v,t,L,rfl,c,e,a,ω⟩:=h;cases t;exact UM a (by show ¬1+_<=0;lia)
theorem ze(T:∅)(a:bJ P w K mg base 1 "_law_power" ["_law_term_here"] (zI K)):∀d,bJ P w K mg base (3*d+1) "_law_bare" ["_law_term_here","_law_least"] (qi K d)
 |0=>MW T
 |d+1=>MC T (k:=3*d+2) a (Nt T (ze T a d) (K5 T (ze T a d)))
theorem MD(T:∅):bJ P w K mg base 1 "_law_params_text" ["_law_params_here"] (Gp K):=by
 walk_at "h Q5 OV 1"
 obtain⟨v,ps,rfl,m,G,ok,q⟩:=h;refine⟨_,(aN (bp (aC cZ (aC cZ aK (gM pM rL rK tj aK (qI (eX rfl (aD.plain (N:=["_law_param"]) rfl qP qP qP) (jg (ai 0)) (λ C I s H=>(qH 0 (show(["_law_param"]:List U1).Nodup by decide+kernel))) (λ C I s H=>(aC cZ (aC cZ (qA K 0) aK) (qA K 0))))))) aK))),?_⟩;walk_at "r";have m:RT K H v (.tuple (ps.map λ p=>.tuple [.str p.1,.str p.2])):=m;obtain⟨a,us,rfl,n,u⟩:=m.tup_inv;have J:us.length=ps.length:=by rw[u.length,bB]
 have L:(", ":U1).length=2:=by decide+kernel
 have k2:("(":U1).length=1:=by decide+kernel
 have k3:(")":U1).length=1:=by decide+kernel
 have k4:(" ":U1).length=1:=by decide+kernel
 refine⟨rfl,a,rfl,⟨_,n⟩,λ D M=>kZ none _ (λ j v ω=>∃p,ps[j]?=some p/\v=V.str (RR.fb p)) (λ ω ω ω ω h ω=>h) rfl M (by rw[RB];lia) (λ z c=>ay.same n c) (λ i y O z K' c R=>?_) λ vs z c S U X=>?_⟩
 ·obtain⟨p,g,b,rfl,Y⟩:=nC u O;have o:=ok p (kP g);have Z:=(RR.eA o.n).len;have n2:=RR.c9 o.k;have e:=ay.same Y c;walk_at "r";exact⟨_,e,_,fM,_,rfl,qR,⟨_,e,_,fL,_,rfl,by rw[RR.aj];lia,R _ _ (.refl _) ⟨p,g,rfl⟩⟩⟩
 ·obtain rfl:=FR (by rw[U,J]) X;have sm:((ps.map RR.fb).map (·.length)).sum<=20*(ps.map RR.fb).length:=yX λ x hx=>by
   obtain⟨p,g,rfl⟩:=eO.mp hx;have o:=ok p g;have Z:=(RR.eA o.n).len;have n2:=RR.c9 o.k;show(p.1++" "++p.2).length<=20;rw[RR.aj,RR.aj];lia
  rw[bB]at sm;have jl:(Te ", " (ps.map RR.fb)).length<=100:=by
   cases ps with
   |nil=>decide+kernel
   |cons p r=>
    have:=(RR.gD r p ok).2;simp only[cj]at G;lia
  refine⟨_,_,_,rfl,rfl,az.of S,by rw[L,bB];lia,_,rfl,qR,by rw[RR.aj];lia,q _ c⟩
inductive Gf(K:X0)(vs:List V)(H:Hp)(Q:VK):Prop
 |mk(v:V)(p:Pg)(a1:vs=[v])(a2:RT K H v (kU p))(a3:tV p)(a4:∀x hs mb H',ao H H'->RR.tU hs mb->p=⟨hs.map RR.Hb.h,mb.1⟩->RR.WW x (RR.jw hs mb)->x.length<=1000000->Q (.str x) H'):Gf K vs H Q
def GG(K:X0):Sp:=λ vs H Q ω=>Gf K vs H Q
def tl(xs:List U1):Nat:=(xs.map (·.length)).sum+xs.length
theorem oV(xs ys:List U1):tl (xs++ys)=tl xs+tl ys:=by
 unfold tl;rw[eZ,List.sum_append,bX];lia
theorem Cf:∀(hs:List RR.Hb)(b:RR.Hb),RR.cX (hs++[b])=RR.cX hs++("house":U1)::RR.iN b
 |[],b=>by show("house":U1)::(RR.iN b++[])=_;rw[eu];rfl
 |h::r,b=>by
  show("house":U1)::(RR.iN h++RR.cX (r++[b]))=("house":U1)::(RR.iN h++RR.cX r)++_;rw[Cf r b,ip,eU]
theorem CI:∀(hs:List RR.Wb)(b:RR.Wb),RR.c_ (hs++[b])=RR.c_ hs++("can":U1)::b.1.name::RR.gE b
 |[],b=>by show("can":U1)::b.1.name::(RR.gE b++[])=_;rw[eu];rfl
 |h::r,b=>by
  show("can":U1)::h.1.name::(RR.gE h++RR.c_ (r++[b]))=("can":U1)::h.1.name::(RR.gE h++RR.c_ r)++_;rw[CI r b,ip,ip,eU]
def IU(H0:Hp)(v:V)(hs:List Hs):Nat->St->Hp->Prop:=λ i σ H'=>∃(r:V0)(xs:List U1)(bs:List RR.Hb),ao H0 H'/\H0 r=none/\H' r=some (.lst (xs.map V.str))/\RR.Rw xs (RR.cX bs)/\(∀b∈bs,RR.jI b)/\bs.map RR.Hb.h=hs.take i/\tl xs<=6000*i/\∃o1 o2 o3 o4 o5 o6 o7 o8,σ=[some v,some (.ref r),o1,o2,o3,o4,o5,o6,o7,o8]
def IT(H0:Hp)(f:V0->Option V->Option V->Option V->Option V->St)(u0:RR.W)(c0:Nat)(ds:List Wd):Nat->St->Hp->Prop:=λ j σ H'=>∃(r:V0)(xs:List U1)(bs:List RR.Wb),ao H0 H'/\H0 r=none/\H' r=some (.lst (xs.map V.str))/\RR.Rw xs (u0++RR.c_ bs)/\(∀b∈bs,RR.mE b)/\bs.map (·.1)=ds.take j/\tl xs<=c0+600*j/\∃o1 o2 o3 o4,σ=f r o1 o2 o3 o4
def jz:Option U1->List U1
 |none=>[]
 |some y=>["of",y]
theorem JD{K:X0}{v2:V}{e:Option U1}(el:∀y,e=some y->av y=true)(c2:RT K H v2 (oD e)):∃(sx:U1)(m:Nat),(∀(H:Hp)(Q:VK),Q (.str sx) H->iR [v2] H Q)/\(if ¬v2=V.non then(1:Int)else 0)=(m:Nat)/\m<=1/\(e_ m [V.str (Rx "of"),V.str sx]).flatten=(jz e).map V.str:=by
 cases e with
 |none=>cases c2;exact⟨_,0,λ H Q q=>.non rfl q,rfl,qR,rfl⟩
 |some y=>cases c2;exact⟨y,1,λ H Q q=>.str _ rfl q,rfl,qR,rfl⟩
theorem HZ{n:U1}{e:Option U1}{fs:List (U1×U1)}{xs:List U1}{u:RR.W}(nm:av n=true)(el:∀y,e=some y->av y=true)(fl:∀p∈fs,eD p)(h:RR.Rw xs u):RR.Rw (xs++[("house":U1),n]++jz e++[("{":U1)]++fs.map λ p:U1×U1=>"has "++p.1++" "++p.2) (u++("house":U1)::n::(RR.lQ e++("{":U1)::RR.eG fs)):=by
 have o:RR.Rw (jz e) (RR.lQ e):=by
  cases e with
  |none=>exact .nil
  |some y=>exact RR.Rw.cons (RR.lw (x:="of") 3 qP) (RR.Rw.one (RR.eA (el y rfl)).ww)
 have a:=(((h.app (RR.Rw.cons (RR.lw (x:="house") 3 qP) (RR.Rw.one (RR.eA nm).ww))).app o).app (RR.Rw.one (RR.lw (x:="{") 3 qP))).app (RR.j5 fl);simp only[eU,ip,mU]at a ⊢;exact a
theorem Ip{n:U1}{e:Option U1}(nm:av n=true)(el:∀y,e=some y->av y=true):tl [("house":U1),n]+tl (jz e)<=100:=by
 have k1:("house":U1).length=5:=by decide+kernel
 have k2:("of":U1).length=2:=by decide+kernel
 have a:=(RR.eA nm).len;cases e with
 |none=>simp only[tl,jz,dJ,mT,lJ,uh,cj,iG];lia
 |some y=>
  have b:=(RR.eA (el y rfl)).len;simp only[tl,jz,dJ,mT,lJ,uh,cj,iG];lia
theorem Kv{fs:List (U1×U1)}(fl:∀p∈fs,eD p):tl (fs.map λ p:U1×U1=>"has "++p.1++" "++p.2)<=40*fs.length:=by
 have:=yX (c:=30) (α:=fs.map λ p:U1×U1=>"has "++p.1++" "++p.2) λ x hx=>by
  obtain⟨p,hp,rfl⟩:=eO.mp hx;have o:=fl p hp;have n1:=(RR.eA o.n).len;have n2:=RR.c9 o.k;have k1:("has ":U1).length=4:=by decide+kernel
  have k2:(" ":U1).length=1:=by decide+kernel
  rw[RR.aj,RR.aj,RR.aj];lia
 unfold tl;rw[bB]at this ⊢;lia
theorem F7{ps:List (U1×U1)}(l4:ps.length<=4)(ok:∀p∈ps,eD p):("("++Te ", " (ps.map RR.fb)++")").length<=102:=by
 have k2:("(":U1).length=1:=by decide+kernel
 have k3:(")":U1).length=1:=by decide+kernel
 rw[RR.aj,RR.aj];cases ps with
 |nil=>
  have:(Te ", " (([]:List (U1×U1)).map RR.fb)).length=0:=by decide+kernel
  lia
 |cons p r=>
  have:=(RR.gD r p ok).2;simp only[cj]at l4;lia
theorem IA{d:Wd}{x:U1}(nm:av d.name=true)(ps:∀p∈d.params,eD p)(kd:gQ d.kind)(l4:d.params.length<=4):tl (RR.iY d x)<=x.length+200:=by
 have k1:("can":U1).length=3:=by decide+kernel
 have k2:("=":U1).length=1:=by decide+kernel
 have a:=(RR.eA nm).len;have b:=RR.c9 kd;have c:=F7 l4 ps;simp only[tl,RR.iY,dJ,mT,lJ,uh,cj,iG];lia
theorem Io{d:Wd}{x:U1}(ps:∀p∈d.params,eD p)(kd:gQ d.kind)(l4:d.params.length<=4):tl (RR.gw d x)<=x.length+200:=by
 have k1:("main":U1).length=4:=by decide+kernel
 have k2:("=":U1).length=1:=by decide+kernel
 have b:=RR.c9 kd;have c:=F7 l4 ps;simp only[tl,RR.gw,dJ,mT,lJ,uh,cj,iG];lia
theorem zk(p:Pg):p.main.body∈RR.bb p:=by unfold RR.bb;simp
theorem Fd:∀xs:List U1,(Te " " xs).length<=tl xs
 |[]=>by rw[RR.join_nil];exact dj _
 |[x]=>by rw[RR.join_one];show x.length<=x.length+0+1;lia
 |x::y::r=>by
  have k1:(" ":U1).length=1:=by decide+kernel
  have a:=Fd (y::r);rw[RR.dm,RR.aj,RR.aj];have:tl (x::y::r)=x.length+1+tl (y::r):=by
   simp only[tl,dJ,lJ,cj];lia
  lia
theorem MO{xs:List U1}{u:RR.W}(h:RR.Rw xs u)(n:xs≠[]):RR.WW (Te " " xs) u:=by
 cases h with
 |nil=>exact(n rfl).elim
 |cons a b=>exact RR.iX a b
theorem Iq{g:TG}{y:V}{σ:St}{tb:TS}{D:bU}(h:∀t,t=tb->g y σ H λ σ2 H2=>t D σ2 H2):g y σ H λ σ2 H2=>tb D σ2 H2:=h tb rfl
theorem L6(T:∅)(DN:bJ P w K mg base 1 "_law_params_text" ["_law_params_here"] (Gp K))(DO:bJ P w K mg base 43 "_law_bare" ["_law_term_here","_law_least"] (qi K 14)):bJ P w K mg base 44 "_law_shown" ["_law_program_here"] (GG K):=by
 walk_at "h QK iT 1"
 obtain⟨v,p,rfl,rt,pg,q⟩:=h;refine⟨_,(aE (qG 1 iT.nd (cJ ix)) (aE (nj Sj rfl (jg (qA K 0)) (kv (n:=4) rfl (eW (qH 2 iT.nd) (eW (qH 3 iT.nd) (eW (qH 4 iT.nd) (eW (qH 5 iT.nd) ku))))) (aE (qG 1 iT.nd (aC iQ (aC iQ (ai 1) (cJ (qJ aK (ai 2)))) (aC EJ (cJ (qJ aK (fg (r:=iR) CN rfl T.z_str E5 (qI (ai 3))))) (fg o_ rfl T.z_int nz (qI (fC Lv (ai 3) p_ (iu _))))))) (aE (qG 1 iT.nd (aC iQ (aC iQ (ai 1) (cJ (qI aK))) (eX rfl (aD.plain (N:=["_law_field"]) rfl qP qP qP) (jg (ai 4)) (λ C fp s H=>(qH 0 (show(["_law_field"]:List U1).Nodup by decide+kernel))) (λ C fp s H=>(aC cZ (aC cZ (aC cZ aK (qA K 0)) aK) (qA K 0)))))) (aE (nj Sj rfl (jg (ai 5)) (kv (n:=4) rfl (eW (qH 6 iT.nd) (eW (qH 7 iT.nd) (eW (qH 8 iT.nd) (eW (qH 9 iT.nd) ku))))) (aN (qG 1 iT.nd (aC iQ (ai 1) (cJ (dq aK (dq (ai 6) (dq (qF DN hr (qI (ai 7))) (qK (ai 8) aK (qF DO hr (qJ (ai 9) aw))))))))))) (aN (dS (gM i4 jL jK jG (ai 1) (qI aK)))))))) (aE (nr (qA K 0) (kv (n:=3) rfl (eW (qH 7 iT.nd) (eW (qH 8 iT.nd) (eW (qH 9 iT.nd) ku))))) (aN (bp (gM pM rL rK tj aK (qI (aC iQ (ai 1) (cJ (dq aK (dq (qF DN hr (qI (ai 7))) (qK (ai 8) aK (qF DO hr (qJ (ai 9) aw)))))))))))))),?_⟩;walk_at "s 4 z";refine aS.of λ p1 H1 h1 s1 e1=>?_;walk_at "n z1";have rt:RT K H v (.tuple [.tuple (p.houses.map jB),.tuple [ic p.main.params,.str p.main.kind,p.main.body.dat]]):=rt;obtain⟨a,us,rfl,sq,rs⟩:=rt.tup_inv;obtain⟨w1,wr,rfl,q1,r2⟩:=rs.inv;obtain⟨w2,wr2,rfl,q2,r3⟩:=r2.inv;obtain⟨ha,hv,rfl,sh,rh⟩:=q1.tup_inv;have lh:hv.length=p.houses.length:=by rw[rh.length,bB]
 have l12:=pg.h12;refine⟨a,rfl,⟨_,ay.same sq s1,_,fM,ha,rfl,⟨_,ay.same sh s1⟩,tJ hv (IU H (.ref a) p.houses) ⟨p1,[],[],s1,h1,e1,.nil,(λ b hb=>by cases hb),rfl,aQ _,_,_,_,_,_,_,_,_,rfl⟩ (λ i σ H' ω h=>?_) (λ i y σ H' hy h=>?_) λ σ H' h=>?_⟩⟩
 ·obtain⟨r,xs,bs,sm,ω⟩:=h;exact ay.same sh sm
 ·obtain⟨r,xs,bs,sm,hr0,er,rw0,ok,eb,lt,o1,o2,o3,o4,o5,o6,o7,o8,rfl⟩:=h;obtain⟨d,hd,ry⟩:=rh.at hy;rw[eK]at hd;have il:i<p.houses.length:=by have:=(gm.mp hy).1;lia
  rw[dc il]at hd;cases hd;have hg:=pg.hs _ (ju il);generalize eh:p.houses[i]=h at hg ry;have ry:RT K H y (.tuple [.str h.name,oD h.elder,ic h.fields,.tuple (h.words.map kT)]):=ry;obtain⟨b,xs4,rfl,s4,r4⟩:=ry.tup_inv;obtain⟨v1,vr1,rfl,c1,r5⟩:=r4.inv;obtain rfl:=c1.str_inv;obtain⟨v2,vr2,rfl,c2,r6⟩:=r5.inv;obtain⟨v3,vr3,rfl,c3,r7⟩:=r6.inv;obtain⟨v4,vr4,rfl,c4,r8⟩:=r7.inv;obtain rfl:=r8.nil_inv;have lxs:xs.length<=72000:=by unfold tl at lt;lia
  refine Iq λ tb htb=>?_;walk_at "r";refine⟨_,ay.same s4 sm,rfl,?_⟩;walk_at "r";refine⟨_,_,rfl,⟨_,_,rfl,⟨_,_,rfl,⟨_,_,rfl,rfl,?_⟩⟩⟩⟩;subst htb;walk_at "s 4 y";refine aS.of λ p2 H2 h2 s2 e2=>⟨_,s2 _ _ er,_,e2,?_,aS.of λ p3 H3 h3 s3 e3=>?_⟩
  ·rw[bB];show _+2<=_;lia
  obtain⟨sx,m,st,em,hm,fl⟩:=JD hg.el c2;refine st _ _ (aS.of λ p4 H4 h4 s4' e4=>.inr ⟨_,e4,?_⟩);rw[em];refine⟨qR,qR,by rw[lH];show 2*m<=_;lia,λ p5 h5=>?_⟩;rw[lH,fl];have s5:ao H4 (ar H4 p5 (.lst ((jz h.elder).map V.str))):=dR h5 _;have e5:(ar H4 p5 (.lst ((jz h.elder).map V.str))) p5=some (.lst ((jz h.elder).map V.str)):=bu;generalize ar H4 p5 (.lst ((jz h.elder).map V.str))=H5 at*;have lof:(jz h.elder).length<=2:=by cases h.elder<;>(first|exact dj _|exact aQ _)
  refine⟨_,s5 _ _ (s4' _ _ e3),_,e5,by rw[bX,bB,bB];show _+2+_<=_;lia,aS.of λ p6 H6 h6 s6 e6=>?_⟩;walk_at "n y1";refine aS.of λ p7 H7 h7 s7 e7=>⟨_,s7 _ _ e6,_,e7,by rw[bX,bX,bB,bB];show _+2+_+1<=_;lia,aS.of λ p8 H8 h8 s8 e8=>?_⟩;have S8:ao H' H8:=s2.trans (s3.trans (s4'.trans (s5.trans (s6.trans (s7.trans s8)))));have e8:H8 p8=some (.lst ((xs++[("house":U1),h.name]++jz h.elder++[("{":U1)]).map V.str)):=by rw[e8];simp only[eZ];rfl
  clear e7 e6 e5 e4 e3 e2;have c3:RT K H v3 (.tuple (h.fields.map λ p=>.tuple [.str p.1,.str p.2])):=c3;obtain⟨fa,fv,rfl,sf,rf⟩:=c3.tup_inv;have lf:fv.length=h.fields.length:=by rw[rf.length,bB]
  have f4:=hg.f4;refine⟨fa,rfl,⟨_,ay.same sf (sm.trans S8)⟩,λ D hD=>kZ none _ (λ j v ω=>∃p,h.fields[j]?=some p/\v=V.str ("has "++p.1++" "++p.2)) (λ ω ω ω ω h ω=>h) rfl hD (by rw[RB];lia) (λ H1 s1=>ay.same sf (sm.trans (S8.trans s1))) (λ j y hy H1 K' s1 kk=>?_) λ vs H9 s9 e9 lv hv9=>?_⟩
  ·obtain⟨p,hp,b,rfl,sb⟩:=nC rf hy;have o:=hg.fl p (kP hp);have n1:=(RR.eA o.n).len;have n2:=RR.c9 o.k;have k1:("has ":U1).length=4:=by decide+kernel
   have k2:(" ":U1).length=1:=by decide+kernel
   have sb1:=ay.same sb (sm.trans (S8.trans s1));walk_at "r";exact⟨_,sb1,_,fM,_,rfl,qR,by rw[RR.aj];lia,⟨_,sb1,_,fL,_,rfl,by rw[RR.aj,RR.aj];lia,kk _ _ (.refl _) ⟨p,hp,rfl⟩⟩⟩
  obtain rfl:=FR (by rw[lv,lf]) hv9;refine⟨_,rfl,_,s9 _ _ e8,_,e9,by simp only[bX,bB,cj,iG];lia,aS.of λ p10 H10 h10 s10 e10=>?_⟩;walk_at "n y2";have S10:ao H' H10:=S8.trans (s9.trans s10);have e10:H10 p10=some (.lst ((xs++[("house":U1),h.name]++jz h.elder++[("{":U1)]++h.fields.map λ p:U1×U1=>"has "++p.1++" "++p.2).map V.str)):=by rw[e10];simp only[eZ]
  have h10':H p10=none:=ao.free (sm.trans (S8.trans s9)) h10;obtain⟨wa,wv,rfl,sw,rw_⟩:=c4.tup_inv;have lw:wv.length=h.words.length:=by rw[rw_.length,bB]
  have w8:=hg.wl;refine⟨wa,rfl,⟨_,ay.same sw (sm.trans S10)⟩,?_⟩;refine tJ wv (IT H (λ r o1 o2 o3 o4=>[some (V.ref a),some (.ref r),some (.str h.name),some v2,some (.ref fa),some (.ref wa),o1,o2,o3,o4]) (RR.cX bs++("house":U1)::h.name::(RR.lQ h.elder++("{":U1)::RR.eG h.fields)) (6000*i+800) h.words) ⟨p10,_,[],sm.trans S10,h10',e10,?_,(λ b hb=>by cases hb),rfl,?_,_,_,_,_,rfl⟩ (λ j σ H11 ω hI=>?_) (λ j y σ H11 hy hI=>?_) λ σ H11 hI=>?_
  ·rw[show RR.c_ []=[]from rfl,eu];exact HZ hg.nm hg.el hg.fl rw0
  ·rw[oV,oV,oV,oV,Nat.mul_zero,Nat.add_zero];have a1:=Ip hg.nm hg.el;have a2:=Kv hg.fl;have a3:tl [("{":U1)]=2:=by decide+kernel
   lia
  ·obtain⟨r',xs',bs',sm',ω⟩:=hI;exact ay.same sw sm'
  ·obtain⟨r',xs',bs',sm',hr',er',rw',ok',eb',lt',o1,o2,o3,o4,rfl⟩:=hI;obtain⟨d,hd,ry⟩:=rw_.at hy;rw[eK]at hd;have jl:j<h.words.length:=by have:=(gm.mp hy).1;lia
   rw[dc jl]at hd;cases hd;have wg:=hg.wd _ (ju jl);generalize ew:h.words[j]=d at wg ry;have ry:RT K H y (.tuple [.str d.name,ic d.params,.str d.kind,d.body.dat]):=ry;obtain⟨b,xs4,rfl,s4,r4⟩:=ry.tup_inv;obtain⟨v1,vr1,rfl,c1,r5⟩:=r4.inv;obtain rfl:=c1.str_inv;obtain⟨v2',vr2,rfl,c2',r6⟩:=r5.inv;obtain⟨v3',vr3,rfl,c3',r7⟩:=r6.inv;obtain rfl:=c3'.str_inv;obtain⟨v4',vr4,rfl,c4',r8⟩:=r7.inv;obtain rfl:=r8.nil_inv;have lxs':xs'.length<=100000:=by unfold tl at lt';lia
   walk_at "r";refine⟨_,ay.same s4 sm',rfl,⟨_,_,rfl,⟨_,_,rfl,⟨_,_,rfl,⟨_,_,rfl,rfl,?_⟩⟩⟩⟩⟩;refine⟨v2',d.params,rfl,c2'.same sm',wg.p4,wg.ps,λ H12 s12=>⟨v4',d.body,1,rfl,c4'.same (sm'.trans s12),wg.bd,wg.dp,by have:=wg.sz;lia,qR,qR,λ x H13 s13 tb tn=>?_⟩⟩;have tn:=tn (zx wg.bd).1;have lx:=uK tn;have sz8:=wg.sz;obtain⟨u,i',w',ω⟩:=tn;refine aS.of λ p14 H14 h14 s14 e14=>⟨_,s14 _ _ (s13 _ _ (s12 _ _ er')),_,e14,by rw[bB];show _+6<=_;lia,aS.of λ p15 H15 h15 s15 e15=>?_⟩;have S14:=sm'.trans (s12.trans (s13.trans s14));refine⟨p15,xs'++RR.iY d x,bs'++[(d,u)],S14.trans s15,ao.free S14 h15,by rw[e15,eZ];rfl,?_,λ b hb=>?_,?_,?_,_,_,_,_,rfl⟩
   ·rw[CI,<-eU];exact rw'.app (RR.rB (b:=(d,u)) wg.nm wg.ps wg.kd w')
   ·rcases(hU.mp hb)with hb|hb
    ·exact ok' b hb
    ·obtain rfl:=(dN.mp hb);exact⟨wg.nm,wg.ps,wg.p4,wg.kd,i',wg.dp⟩
   ·rw[eZ,eb',oz,dc jl,ew];rfl
   ·rw[oV];have:=IA (x:=x) wg.nm wg.ps wg.kd wg.p4;lia
  ·obtain⟨r',xs',bs',sm',hr',er',rw',ok',eb',lt',o1,o2,o3,o4,rfl⟩:=hI;have lxs':xs'.length<=100000:=by unfold tl at lt';lia
   walk_at "n y3";refine⟨.inl ⟨rfl,_,az.of er'⟩,_,er',by rw[bB];lia,r',xs'++[("}":U1)],bs++[⟨h.name,h.elder,h.fields,bs'⟩],λ c o hc=>?_,hr',by rw[bu,eZ];rfl,?_,λ b hb=>?_,?_,?_,_,_,_,_,_,_,_,_,rfl⟩
   ·rw[aU λ z=>by rw[z,hr']at hc;cases hc];exact sm' c o hc
   ·rw[Cf];have:=rw'.app (RR.Rw.one (RR.lw (x:="}") 3 qP));simp only[eU,ip]at this ⊢;exact this
   ·rcases(hU.mp hb)with hb|hb
    ·exact ok b hb
    ·obtain rfl:=(dN.mp hb);refine⟨hg.nm,hg.el,hg.fl,hg.f4,ok',?_⟩;have:=congrArg rW eb';rw[bB,ka]at this;show bs'.length<=8;lia
   ·rw[eZ,eb,oz,dc il,eh];show _++[RR.Hb.h ⟨h.name,h.elder,h.fields,bs'⟩]=_;unfold RR.Hb.h;rw[eb',lw,j_];rfl
   ·rw[oV,show tl [("}":U1)]=2 by decide+kernel];lia
 ·obtain⟨r,xs,bs,sm,hr0,er,rw0,ok,eb,lt,o1,o2,o3,o4,o5,o6,o7,o8,rfl⟩:=h;walk_at "n z2";have q2:RT K H w2 (.tuple [ic p.main.params,.str p.main.kind,p.main.body.dat]):=q2;obtain⟨b,xs4,rfl,s4,r4⟩:=q2.tup_inv;obtain⟨v1,vr1,rfl,c1,r5⟩:=r4.inv;obtain⟨v2,vr2,rfl,c2,r6⟩:=r5.inv;obtain rfl:=c2.str_inv;obtain⟨v3,vr3,rfl,c3,r7⟩:=r6.inv;obtain rfl:=r7.nil_inv;have lxs:xs.length<=72000:=by unfold tl at lt;lia
  refine⟨_,ay.same sq sm,_,fL,b,rfl,⟨_,ay.same s4 sm,rfl,⟨_,_,rfl,⟨_,_,rfl,⟨_,_,rfl,rfl,?_⟩⟩⟩⟩⟩;walk_at "n z3";have mp:∀q∈p.main.params,eD q:=λ q hq=>⟨(pg.ps q hq).1,.inl (pg.ps q hq).2⟩;have msz:p.main.body.size<=400:=bR (tK (zk p)) pg.sz;refine⟨rfl,v1,p.main.params,rfl,c1.same sm,pg.p4,mp,λ H12 s12=>⟨v3,p.main.body,1,rfl,c3.same (sm.trans s12),pg.bd,pg.dp,msz,qR,qR,λ x H13 s13 tb tn=>?_⟩⟩;have tn:=tn (zx pg.bd).1;have lx:=uK tn;obtain⟨u,i',w',ω⟩:=tn;refine aS.of λ p14 H14 h14 s14 e14=>⟨_,s14 _ _ (s13 _ _ (s12 _ _ er)),_,e14,by rw[bB];show _+5<=_;lia,aS.of λ p15 H15 h15 s15 e15=>?_⟩;have S15:=sm.trans (s12.trans (s13.trans (s14.trans s15)));have k1:(" ":U1).length=1:=by decide+kernel
  have e15:H15 p15=some (.lst ((xs++RR.gw p.main x).map V.str)):=by rw[e15,eZ];rfl
  have tt:tl (xs++RR.gw p.main x)<=100000:=by
   rw[oV];have:=Io (x:=x) mp pg.kd pg.p4;lia
  have rr:=rw0.app (RR.rC (b:=(p.main,u)) mp pg.kd w');have jl:=Fd (xs++RR.gw p.main x);refine⟨_,_,_,rfl,rfl,az.of e15,by rw[k1];unfold tl at tt;lia,q _ bs (p.main,u) _ S15 ⟨ok,?_,pg.mn,pg.ps,pg.p4,pg.kd,i',pg.dp,?_⟩ ?_ ?_ qR⟩
  ·have:=congrArg rW eb;rw[bB,ka]at this;lia
  ·rw[eb,lh,j_];exact pg.sz
  ·rw[eb,lh,j_]
  ·exact MO rr (by cases xs<;>exact nofun)
theorem AL{x:U1}(h:av x=true):Uy x=true:=by
 obtain⟨a,i⟩:=RR.hX h;have all:∀c∈x.cps.toList,c<0x110000:=by
  intro c g;cases e:K10.aV x with
  |nil=>rw[e]at a;cases a
  |cons d r=>
   rw[e]at a;unfold K10.cE at a;rw[fV,fV]at a;have:=i7.mp a.2.2 c (by rw[<-e];exact g);rcases kN.mp this with z|z
   ·exact(by decide+kernel:∀c∈K10.bA,c<0x110000) c (mO.mp z)
   ·exact(by decide+kernel:∀c∈K10.cG,c<0x110000) c (mO.mp z)
 unfold Uy;rw[<-Array.all_toList];exact i7.mpr λ c g=>UO (all c g)
theorem EN:∀x∈RR.iF,Uy x=true/\x.cps.size<=60:=by decide+kernel
theorem sR(f:Fm){k:Nat}:bq k 6 (.str f.s):=bq.str (by cases f<;>decide+kernel) (by cases f<;>decide+kernel)
theorem xK{f:Fm}{l:Lb}(o:gq f l n)(h:mI f l){k:Nat}:bq k 60 l.d:=by
 cases l with
 |non=>exact bq.none
 |bl b=>exact bq.bool
 |int i=>
  cases f<;>first|exact o.elim|skip
  obtain⟨b1,a⟩:0<=i/\i<10^9:=h;exact bq.int qR
 |str x=>
  by_cases z:f=.two
  ·subst z;have h:x∈RR.iF:=h;exact bq.str (EN x h).1 (EN x h).2
  ·have h:av x=true:=by cases f<;>first|exact h|exact o.elim|exact UM rfl z
   exact bq.str (AL h) (bR (RR.eA h).len qS)
theorem zD(t:Tm):1<=t.size:=by
 cases t;exact Nat.le_add_right _ _
theorem uY{k:Nat}:∀{ts:List Tm},(∀t∈ts,bq (2*t.depth) (100*t.size-1) t.dat)->2*aO ts<=k->ck k (100*aG ts) (bO ts)
 |[],_,_=>.nil
 |t::ts,h,c=>by
  have e:2*max t.depth (aO ts)<=k:=c;have i:=Nat.le_max_left t.depth (aO ts);have j:=Nat.le_max_right t.depth (aO ts);refine .cons (a:=100*t.size-1) (b:=100*aG ts) ((h t cy).mono qR (aQ _)) (uY (λ u g=>h u (cV _ g)) qR) ?_;show _<=100*(t.size+aG ts);have:=zD t;lia
theorem u4(h:Good t):bq (2*t.depth) (100*t.size-1) t.dat:=by
 induction h with
 |@mk f l ps ok m y A o=>
  have w:ck (2*aO ps+1) (100*aG ps+80) (ig f l (bO ps)):=by
   have g:=uY (k:=2*aO ps) o (aQ _);by_cases c:f=.call\/si f=true
   ·obtain⟨p,qs,rfl⟩:∃p qs,ps=p::qs:=by
     cases ps with
     |cons p qs=>exact⟨p,qs,rfl⟩
     |nil=>
      obtain⟨d,r,e⟩:=yQ (ds:=[]) ok c;cases e
    have B:p.depth<=aO (p::qs):=Nat.le_max_left _ _;have C:aO qs<=aO (p::qs):=Nat.le_max_right _ _;have i:=o p cy;have j:=uY (k:=2*aO (p::qs)) (ts:=qs) (λ t x=>o t (cV _ x)) qR;have D:aG (p::qs)=p.size+aG qs:=rfl;have E:=zD p;rcases c with rfl|c
    ·show ck _ _ [.str Fm.call.s,p.dat,l.d,.tuple (bO qs)];exact .cons (sR .call) (.cons (a:=100*p.size-1) (b:=100*aG qs+70) (i.mono qR (aQ _)) (.cons (xK ok m) (.cons (b:=0) (n:=100*aG qs+1) (bq.tup j) .nil (aQ _)) qR) (aQ _)) qR
    ·show ck _ _ (ig f l (p.dat::bO qs));rw[A8 c];exact .cons (sR f) (.cons (a:=100*p.size-1) (b:=100*aG qs+70) (i.mono qR (aQ _)) (.cons (xK ok m) (j.mono qR (aQ _)) qR) (aQ _)) qR
   ·by_cases u:uE f=true
    ·rw[A9 u];exact .cons (sR f) (g.mono qR (aQ _)) qR
    by_cases v:sd f=true
    ·rw[xY v];exact .cons (b:=100*aG ps+70) (sR f) (.cons (b:=100*aG ps+1) (xK ok m) (.cons (b:=0) (bq.tup g) .nil (aQ _)) qR) qR
    rw[A7 u v (λ z=>c (.inl z)) (λ z=>c (.inr z))];exact .cons (b:=100*aG ps+70) (sR f) (.cons (xK ok m) (g.mono qR (aQ _)) qR) qR
  refine(bq.tup w).mono ?_ ?_
  ·show 2*aO ps+1+1<=2*(1+aO ps);lia
  ·show 100*aG ps+80<=100*(1+aG ps)-1;lia
inductive Pt
 |at(l:Lb)
 |one(t:Tm)
 |row(ts:List Tm)
noncomputable def Pt.d:Pt->PyData
 | .at l=>l.d
 | .one t=>t.dat
 | .row ts=>.tuple (bO ts)
def Pt.ts:Pt->List Tm
 | .at _=>[]
 | .one t=>[t]
 | .row ts=>ts
theorem Jy{f:Fm}{l:Lb}{ps:List Tm}(h:gq f l ps.length):∃qs:List Pt,ig f l (bO ps)=.str f.s::qs.map Pt.d/\(qs.map Pt.ts).flatten=ps/\qs.length<=ps.length+2:=by
 have all:∀ps:List Tm,(ps.map Pt.one).map Pt.d=bO ps/\((ps.map Pt.one).map Pt.ts).flatten=ps:=by
  intro ps;induction ps with
  |nil=>exact⟨rfl,rfl⟩
  |cons p r ih=>exact⟨by show p.dat::_=p.dat::_;rw[ih.1],congrArg (p::·) ih.2⟩
 have cs:∀ps:List Tm,1<=ps.length->∃p r,ps=p::r:=λ ps h=>by
  cases ps with
  |nil=>cases h
  |cons p r=>exact⟨p,r,rfl⟩
 cases f
 case self=>exact⟨ps.map .one,by rw[(all ps).1];rfl,(all ps).2,by rw[bB];lia⟩
 case nt=>exact⟨ps.map .one,by rw[(all ps).1];rfl,(all ps).2,by rw[bB];lia⟩
 case iff=>exact⟨ps.map .one,by rw[(all ps).1];rfl,(all ps).2,by rw[bB];lia⟩
 case new=>exact⟨[.at l,.row ps],rfl,by show ps++[]=ps;rw[eu],by simp⟩
 case elder=>exact⟨[.at l,.row ps],rfl,by show ps++[]=ps;rw[eu],by simp⟩
 case call=>
  obtain⟨p,r,rfl⟩:=cs ps (by cases l<;>first|exact h|exact h.elim);exact⟨[.one p,.at l,.row r],rfl,by show p::(r++[])=_;rw[eu],by simp⟩
 case field=>
  obtain⟨p,r,rfl⟩:=cs ps (by cases l<;>first|exact pS (Eq.symm h)|exact h.elim);exact⟨.one p::.at l::r.map .one,by show _=PyData.str _::p.dat::l.d::_;rw[(all r).1];rfl,congrArg (p::·) (all r).2,by simp⟩
 case set=>
  obtain⟨p,r,rfl⟩:=cs ps (by cases l<;>first|(have h:ps.length=2:=h;lia)|exact h.elim);exact⟨.one p::.at l::r.map .one,by show _=PyData.str _::p.dat::l.d::_;rw[(all r).1];rfl,congrArg (p::·) (all r).2,by simp⟩
 all_goals exact⟨.at l::ps.map .one,by show _=PyData.str _::l.d::_;rw[(all ps).1];rfl,(all ps).2,by simp⟩
inductive FY(K:X0)(n:Nat)(vs:List V)(H:Hp)(Q:VK):Prop
 |mk(v:V)(t:Tm)(a1:vs=[v])(a2:RT K H v t.dat)(a3:Good t)(a4:t.depth<=n)(a5:t.depth<=14)(a6:t.size<=400)(a7:∀r H',ao H H'->ay K H' r [.int ((t.depth:Nat):Int),.int ((t.size:Nat):Int)]->Q (.ref r) H'):FY K n vs H Q
def yO(K:X0)(n:Nat):Sp:=λ vs H Q ω=>FY K n vs H Q
noncomputable def mp(t:Tm):List V:=[.int ((t.depth:Nat):Int),.int ((t.size:Nat):Int)]
inductive Ms(K:X0)(H:Hp):List V->List Tm->Prop
 |nil:Ms K H [] []
 |cons{b:V0}{t:Tm}{vs:List V}{ts:List Tm}:ay K H b (mp t)->Ms K H vs ts->Ms K H (.ref b::vs) (t::ts)
theorem Ms.same{K:X0}{ts:List Tm}(h:Ms K H vs ts)(s:ao H H'):Ms K H' vs ts:=by
 induction h with
 |nil=>exact .nil
 |cons a _ ih=>exact .cons (ay.same a s) ih
theorem Ms.app{K:X0}{us:List V}{ts rs:List Tm}(h:Ms K H vs ts)(g:Ms K H us rs):Ms K H (vs++us) (ts++rs):=by
 induction h with
 |nil=>exact g
 |cons a _ ih=>exact .cons a ih
theorem Ms.len{K:X0}{ts:List Tm}(h:Ms K H vs ts):vs.length=ts.length:=by
 induction h with
 |nil=>rfl
 |cons a _ ih=>exact congrArg (·+1) ih
theorem Am{K:X0}:∀{ts:List Tm}{vs:List V},vs.length=ts.length->(∀(j:Nat) v,vs[j]?=some v->∃t b,ts[j]?=some t/\v=.ref b/\ay K H b (mp t))->Ms K H vs ts
 |[],[],_,_=>.nil
 |t::ts,v::vs,hl,h=>by
  obtain⟨t',b,e,rfl,hb⟩:=h 0 v rfl;cases e;exact .cons hb (Am (by simpa using hl) λ j v hv=>h (j+1) v hv)
 |[],_::_,h,_=>by cases h
 |_::_,[],h,_=>by cases h
theorem Ms.at{K:X0}{ts:List Tm}(h:Ms K H vs ts):∀{j:Nat}{y:V},vs[j]?=some y->∃t b,ts[j]?=some t/\y=.ref b/\ay K H b (mp t):=by
 induction h with
 |nil=>intro j y hy;cases hy
 |cons a _ ih=>
  intro j y hy;cases j with
  |zero=>cases hy;exact⟨_,_,rfl,rfl,a⟩
  |succ j=>exact ih hy
def MI(K:X0)(H0:Hp)(v:V)(qs:List Pt):Nat->St->Hp->Prop:=λ i σ H'=>∃(r:V0)(vs:List V),ao H0 H'/\H' r=some (.lst vs)/\Ms K H' vs ((qs.take i).map Pt.ts).flatten/\∃o1 o2,σ=[some v,some (.ref r),o1,o2]
theorem Mx(h:Good t)(hd:t.depth<=14):SeqAt.shaped t.dat=true:=pQ.mpr ⟨(u4 h).lay,UO (bR (u4 h).dep qR)⟩
theorem KF(T:∅):∀n,bJ P w K mg base (n+1) "_law_measured" ["_law_term_here"] (yO K n):=by
 intro n;induction n with
 |zero=>
  refine bJ.of T.DL pB (λ ω ω ω ω ω ω us hl=>el1 us hl λ ω=>rfl) (λ vs H Q E h=>?_) (λ f cdv A outer s H vs Q E hr h=>?_)
  ·obtain⟨v,t,rfl,ω⟩:=h;rfl
  obtain⟨v,t,rfl,hv,gt,tn,ω⟩:=h;cases t;exact UM tn (by show ¬1+_<=0;lia)
 |succ n ih=>
  have Jj:=ih;refine bJ.of T.DL pB (λ ω ω ω ω ω ω us hl=>el1 us hl λ ω=>rfl) (λ vs H Q E h=>?_) (λ f cdv A outer s H vs Q E hr h=>?_)
  ·obtain⟨v,t,rfl,ω⟩:=h;rfl
  obtain⟨v,t,rfl,hv,gt,tn,td,ts,q⟩:=h;refine⟨_,(aE (qG 1 pB.nd (cJ ix)) (aE (nj Sj rfl (jg (kz (r:=j7 K) uX (ai 0) (ib aw) qe)) (qH 2 pB.nd) (aE (qG 3 pB.nd (aC EJ (cJ (qI (ai 2))) (fg o_ rfl T.z_int nz (qI (xO (eH (r:=xi K) Cr rfl T.DQ DA (qJ (ai 2) (yZ (v:=.ty "tuple") rfl T.iB iy rfl))) (oU (fC (r:=ou K) (Jz hr.units) (ai 2) (cH ix) (iu _)))))))) (aE (bP (PW.pt (sQ (qM (r:=ot K) (Jx hr.units) (ai 3) (cJ ix)) (tE (fq (eH (r:=xi K) Cr rfl T.DQ DA (qJ (gT (r:=yh K) Eu (ai 2) aw (λ ω ω=>rfl)) (yZ (v:=.ty "tuple") rfl T.iB iy rfl))))))) (aN (qG 3 pB.nd (fg Ds rfl T.DK FG (qI (ai 2))))) bW) (aN (qG 1 pB.nd (aC iQ (ai 1) (eX rfl (aD.plain (N:=["_law_one"]) rfl qP qP qP) (jR (ai 3)) (λ C fp s H=>(qH 0 (show(["_law_one"]:List U1).Nodup by decide+kernel))) (λ C fp s H=>(qF Jj hr (qI (ai 0))))))))))) (aN (bp (cH (qJ (aC cK aw (eH (r:=uc K) (zP rfl) rfl T.z_max xD (qI (aC iQ (eX rfl (aD.plain (N:=["_law_row_here"]) rfl qP qP qP) (jR (ai 1)) (λ C fp s H=>(qH 0 (show(["_law_row_here"]:List U1).Nodup by decide+kernel))) (λ C fp s H=>(qA K 0))) (cJ (qI aw)))))) (aC cK aw (eH (u5 rfl) rfl T.z_sum uM (qI (eX rfl (aD.plain (N:=["_law_row_here"]) rfl qP qP qP) (jR (ai 1)) (λ C fp s H=>(qH 0 (show(["_law_row_here"]:List U1).Nodup by decide+kernel))) (λ C fp s H=>(qA K 0)))))))))))),?_⟩;walk_at "s 3 z";refine aS.of λ p1 H1 h1 s1 e1=>?_;walk_at "n z1";obtain⟨f',l,ps⟩:=t;cases gt with
  |mk ok lb l8 gs=>
  obtain⟨qs,eq,ef,lq⟩:=Jy ok;have hv:RT K H v (.tuple (ig f' l (bO ps))):=by rw[Tm.dat]at hv;exact hv
  rw[eq]at hv;obtain⟨a,xs,rfl,sq,rs⟩:=hv.tup_inv;obtain⟨v0,us,rfl,ω,rs⟩:=rs.inv;have lu:us.length=qs.length:=by rw[rs.length,bB]
  refine⟨a,_,rfl,ay.same sq s1,λ p2 H2 s2 sq2=>?_⟩;rw[lW]at sq2;refine⟨p2,rfl,⟨_,sq2⟩,tJ us (MI K H2 (.ref a) qs) ⟨p1,[],.refl _,s2 _ _ e1,.nil,_,_,rfl⟩ (λ i σ H' ω h=>?_) (λ i y σ H' hy h=>?_) λ σ H' h=>?_⟩
  ·obtain⟨r,vs,sm,ω⟩:=h;exact ay.same sq2 sm
  ·obtain⟨r,vs,sm,er,ms,o1,o2,rfl⟩:=h;obtain⟨d,hd,ry⟩:=rs.at hy;rw[eK]at hd;have il:i<qs.length:=by have:=(gm.mp hy).1;lia
   rw[dc il]at hd;cases hd;have mem:qs[i]∈qs:=ju il;generalize eqi:qs[i]=pt at ry mem;have kid:∀p∈pt.ts,p∈ps:=λ p hp=>by rw[<-ef];exact List.mem_flatten.mpr ⟨_,eO.mpr ⟨pt,mem,rfl⟩,hp⟩
   have td':1+aO ps<=14:=td;have tn':1+aO ps<=n+1:=tn;have ts':1+aG ps<=400:=ts;have lps:pt.ts.length<=8:=by
    have a:=(List.sublist_flatten_of_mem (eO.mpr ⟨pt,mem,rfl⟩:pt.ts∈qs.map Pt.ts)).length_le;rw[ef]at a;lia
   have lvs:vs.length<=8:=by
    have a:=ms.len;have b:((qs.take i).map Pt.ts).flatten.length<=((qs.map Pt.ts).flatten).length:=by
     rw[<-pN i qs,eZ,yi,bX,pN];lia
    rw[ef]at b;lia
   have fin:∀(l:V0)(us':List V)(H4:Hp),ao H' H4->H4 l=some (.lst us')->bM K H4 us' (bO pt.ts)->(∃xs,az K H4 l xs)/\∀D,H4 D=none->jd (jT K l) (gU 0) ir (qB (yO K n) [] E0 (jO (oM 0) eQ)) D (λ y_1 H2_2=>∃x,y_1=V.ref x/\∃x_1,H2_2 r=some (HO.lst x_1)/\∃x_2,H2_2 x=some (HO.lst x_2)/\x_1.length+x_2.length<=16777216/\aS H2_2 (HO.lst (x_1++x_2)) λ p H2_3=>MI K H2 (V.ref a) qs (i+1) [some (V.ref a),some (V.ref p),some y,some (V.ref l)] H2_3) (fS [none] [some (V.ref a),some (V.ref r),some y,some (V.ref l)]) (ar H4 D (HO.lst [])):=by
    intro l us' H4 s4 e4 r4;have lu':us'.length=pt.ts.length:=by rw[r4.length,mh]
    refine⟨⟨_,az.of e4⟩,λ D hD=>k_ (ys:=us') none [] (λ j v H=>∃t b,pt.ts[j]?=some t/\v=.ref b/\ay K H b (mp t)) (λ j v H1 H2 ⟨p,a,x,y,z⟩ s=>⟨p,a,x,y,ay.kp z (mX s)⟩) rfl hD (by rw[RB];lia) (λ H2 s=>az.of (s _ _ e4)) (λ j y hy H5 K' s5 k=>?_) (λ vs6 H6 s6 hv6 lv6 hR6=>?_)⟩
    ·obtain⟨d,hd,hr'⟩:=r4.at hy;obtain⟨p,hp,rfl⟩:=zh hd;have hm:=kid p (kP hp);have a1:=qg hm;have a2:=tK hm;walk_at "r";exact⟨y,p,rfl,hr'.same s5,gs p hm,qR,qR,qR,λ r H3 s3 hr3=>k _ _ s3 ⟨p,r,hp,rfl,hr3⟩⟩
    ·have ms6:=Am (lv6.trans lu') hR6;refine⟨D,rfl,_,s6 _ _ (s4 _ _ er),_,hv6,by have:=ms6.len;lia,aS.of λ p7 H7 h7 s7 e7=>⟨p7,_,sm.trans (s4.trans (s6.trans s7)),e7,?_,_,_,rfl⟩⟩;rw[oz,dc il,eqi,eZ,yi];have e:(List.map Pt.ts (Option.toList (some pt))).flatten=pt.ts:=eu _;rw[e];exact(ms.same (s4.trans (s6.trans s7))).app (ms6.same s7)
   walk_at "r";cases pt with
   |«at» l'=>
    have ny:AN y=true:=by
     have ry:RT K H y l'.d:=ry;cases l'<;>cases ry<;>rfl
    refine aS.of λ p3 H3 h3 s3 e3=>.inr ⟨ny,.inr ⟨_,e3,dj _,λ p4 h4=>?_⟩⟩;have s4:ao H3 (ar H3 p4 (.lst ([]:List (List V)).flatten)):=dR h4 _;have e4:(ar H3 p4 (.lst ([]:List (List V)).flatten)) p4=some (.lst ([]:List V)):=bu;generalize ar H3 p4 (.lst ([]:List (List V)).flatten)=H4 at*;refine aS.of λ p5 H5 h5 s5 e5=>⟨[],az.of (s5 _ _ e4),az.of e5,ax (λ e=>UM e qS) λ ω=>fin p4 [] H5 (s3.trans (s4.trans s5)) (s5 _ _ e4) .nil⟩
   |one t=>
    have gt:Good t:=gs t (kid t cy);have a1:=qg (kid t cy);have shp:SeqAt.shaped t.dat=true:=Mx gt qR;have ry:RT K H y t.dat:=ry;obtain⟨f1,l1,ps1⟩:=t;obtain⟨r1,er1⟩:=zJ (by cases gt with|mk o _ _ _=>exact o:gq f1 l1 ps1.length);have ed:(Tm.mk f1 l1 ps1).dat=.tuple (.str f1.s::r1):=by rw[Tm.dat,er1]
    have ry':=ry;rw[ed]at ry';obtain⟨b,xs1,rfl,sb,rb⟩:=ry'.tup_inv;obtain⟨w0,wr,rfl,q0,ω⟩:=rb.inv;obtain rfl:=q0.str_inv;refine aS.of λ p3 H3 h3 s3 e3=>.inl ⟨b,rfl,_,ay.same sb (s1.trans (s2.trans (sm.trans s3))),aS.of λ p4 H4 h4 s4 e4=>⟨_,(ry.same (s1.trans (s2.trans (sm.trans (s3.trans s4))))).rd,.tuple [],.tup (ay.of e4) .nil,shp,qP,.inr ?_⟩⟩;have ev:(Tm.mk f1 l1 ps1).dat.eqv (.tuple [])=false:=by rw[ed];rfl
    rw[UL ev];refine⟨_,s4 _ _ e3,qQ,qQ,by show 1*1<=_;decide,λ p5 h5=>?_⟩;have s5:ao H4 (ar H4 p5 (.lst (e_ (kO 1) [V.ref b]).flatten)):=dR h5 _;have e5:(ar H4 p5 (.lst (e_ (kO 1) [V.ref b]).flatten)) p5=some (.lst [V.ref b]):=bu;generalize ar H4 p5 (.lst (e_ (kO 1) [V.ref b]).flatten)=H5 at*;refine aS.of λ p6 H6 h6 s6 e6=>⟨_,az.of (s6 _ _ e5),az.of e6,ax (λ ω=>?_) λ e=>UM rfl e⟩;have S6:ao H' H6:=s3.trans (s4.trans (s5.trans s6));have S:ao H H6:=s1.trans (s2.trans (sm.trans S6));exact .inr (.inl ⟨b,_,0,_,rfl,rfl,ay.same sb S,fM,.inr ⟨rfl,fin p5 _ H6 S6 (s6 _ _ e5) (.cons (ry.same S) .nil)⟩⟩)
   |row ts'=>
    have ry:RT K H y (.tuple (bO ts')):=ry;have md:2*aO ts'<=28:=by
     have:=tu (n:=14) (ts:=ts') λ t ht=>bR (qg (kid t ht)) qR;lia
    have shp:SeqAt.shaped (.tuple (bO ts'))=true:=(bq.tup (uY (k:=28) (ts:=ts') (λ t ht=>u4 (gs t (kid t ht))) md)).shaped qR;have ry':=ry;obtain⟨b,us',rfl,sb,rb⟩:=ry'.tup_inv;refine aS.of λ p3 H3 h3 s3 e3=>.inl ⟨b,rfl,_,ay.same sb (s1.trans (s2.trans (sm.trans s3))),aS.of λ p4 H4 h4 s4 e4=>⟨_,(ry.same (s1.trans (s2.trans (sm.trans (s3.trans s4))))).rd,.tuple [],.tup (ay.of e4) .nil,shp,qP,.inr ?_⟩⟩;cases ts' with
    |nil=>
     obtain rfl:=rb.nil_inv;have ev:¬(TN (.tuple (bO [])) (.tuple [])=false):=by decide+kernel
     rw[UK ev];refine⟨_,s4 _ _ e3,qQ,qQ,by show 1*0<=_;decide,λ p5 h5=>?_⟩;have s5:ao H4 (ar H4 p5 (.lst (e_ (kO 0) [V.ref b]).flatten)):=dR h5 _;have e5:(ar H4 p5 (.lst (e_ (kO 0) [V.ref b]).flatten)) p5=some (.lst []):=bu;generalize ar H4 p5 (.lst (e_ (kO 0) [V.ref b]).flatten)=H5 at*;exact aS.of λ p6 H6 h6 s6 e6=>⟨[],az.of (s6 _ _ e5),az.of e6,ax (λ e=>UM e qS) λ ω=>fin p5 [] H6 (s3.trans (s4.trans (s5.trans s6))) (s6 _ _ e5) .nil⟩
    |cons t rs'=>
     have ev:TN (.tuple (bO (t::rs'))) (.tuple [])=false:=rfl;rw[UL ev];refine⟨_,s4 _ _ e3,qQ,qQ,by show 1*1<=_;decide,λ p5 h5=>?_⟩;have s5:ao H4 (ar H4 p5 (.lst (e_ (kO 1) [V.ref b]).flatten)):=dR h5 _;have e5:(ar H4 p5 (.lst (e_ (kO 1) [V.ref b]).flatten)) p5=some (.lst [V.ref b]):=bu;generalize ar H4 p5 (.lst (e_ (kO 1) [V.ref b]).flatten)=H5 at*;refine aS.of λ p6 H6 h6 s6 e6=>⟨_,az.of (s6 _ _ e5),az.of e6,ax (λ ω=>?_) λ e=>UM rfl e⟩;have S6:ao H' H6:=s3.trans (s4.trans (s5.trans s6));have S:ao H H6:=s1.trans (s2.trans (sm.trans S6));obtain⟨w0,wr,rfl,q0,ω⟩:=rb.inv;have q0':=q0;obtain⟨f1,l1,ps1⟩:=t;rw[Tm.dat]at q0';obtain⟨b0,xs0,rfl,sb0,ω⟩:=q0'.tup_inv;refine .inr (.inl ⟨b,_,0,_,rfl,rfl,ay.same sb S,fM,.inl ⟨b0,rfl,_,ay.same sb0 S,b,rfl,_,.inr (ay.same sb S),λ l7 h7=>?_⟩⟩);exact fin l7 _ _ (S6.trans (dR h7 _)) bu (rb.same (S.trans (dR h7 _)))
  ·obtain⟨r,vs,sm,er,ms,o1,o2,rfl⟩:=h;rw[lu,j_,ef]at ms;walk_at "n z2";have lv:=ms.len;have td':1+aO ps<=14:=td;refine⟨⟨_,az.of er⟩,λ D3 hD3=>?_⟩;refine k_ (ys:=vs) none [] (λ j v H=>∃p,ps[j]?=some p/\v=.int ((p.depth:Nat):Int)) (λ ω ω ω ω h ω=>h) rfl hD3 (by rw[RB];lia) (λ H3 s=>az.of (s _ _ er)) (λ i y hy H3 K' s k=>?_) (λ vs3 H3 s3 hv3 lv3 hR3=>?_)
   ·obtain⟨p,b,hp,rfl,hq⟩:=ms.at hy;walk_at "r";exact⟨_,ay.same hq s,_,fM,k _ _ (ao.refl _) ⟨p,hp,rfl⟩⟩
   cases oX (g:=λ p:Tm=>V.int ((p.depth:Nat):Int)) (lv3.trans lv) hR3;refine aS.of λ p4 H4 h4 s4 e4=>⟨D3,rfl,_,s4 _ _ hv3,_,e4,by rw[bB];show ps.length+1<=_;lia,aS.of λ p5 H5 h5 s5 e5=>?_⟩;refine⟨(ps.map λ p=>((p.depth:Nat):Int))++[0],by rw[eZ,i6];exact az.of e5,by simp,λ m hm=>?_⟩;have em:m=((aO ps:Nat):Int):=by
    have a:((aO ps:Nat):Int)<=m:=by
     have m0:0<=m:=hm.2 0 (by simp);obtain⟨mx,rfl⟩:=kM m0;have:aO ps<=mx:=tu λ p hp=>by
      have:=hm.2 _ (lM _ (eO.mpr ⟨p,hp,rfl⟩));lia
     lia
    have b:m<=((aO ps:Nat):Int):=by
     rcases hU.mp hm.1 with h|h
     ·obtain⟨p,hp,rfl⟩:=eO.mp h;have:=qg hp;lia
     ·have:=dN.mp h;lia
    lia
   subst em;have S25:=s3.trans (s4.trans s5);refine⟨⟨_,az.of (S25 _ _ er)⟩,λ D6 hD6=>?_⟩;refine k_ (ys:=vs) none [] (λ j v H=>∃p,ps[j]?=some p/\v=.int ((p.size:Nat):Int)) (λ ω ω ω ω h ω=>h) rfl hD6 (by rw[RB];lia) (λ H3 s=>az.of (s _ _ (S25 _ _ er))) (λ i y hy H3 K' s k=>?_) (λ vs6 H6 s6 hv6 lv6 hR6=>?_)
   ·obtain⟨p,b,hp,rfl,hq⟩:=ms.at hy;walk_at "r";exact⟨_,ay.same hq (S25.trans s),_,fL,k _ _ (ao.refl _) ⟨p,hp,rfl⟩⟩
   cases oX (g:=λ p:Tm=>V.int ((p.size:Nat):Int)) (lv6.trans lv) hR6;refine⟨D6,rfl,ps.map (λ p=>((p.size:Nat):Int)),by rw[i6];exact az.of hv6,?_⟩;rw[uN];refine aS.of λ p7 H7 h7 s7 e7=>q p7 H7 (s1.trans (s2.trans (sm.trans (S25.trans (s6.trans s7))))) ?_;have e:([.int (((Tm.mk f' l ps).depth:Nat):Int),.int (((Tm.mk f' l ps).size:Nat):Int)]:List V)=[.int (1+((aO ps:Nat):Int)),.int (1+((aG ps:Nat):Int))]:=by
    show[V.int ((1+aO ps:Nat):Int),V.int ((1+aG ps:Nat):Int)]=_;rw[uk,uk];rfl
   rw[e];exact ay.of e7
inductive Bu(K:X0)(vs:List V)(H:Hp)(Q:VK):Prop
 |mk(v:V)(p:Pg)(x:U1)(a1:vs=[v,.str x])(a2:RT K H v (kU p))(a3:tV p)(a4:x.length<=6000)(a5:∀H',ao H H'->Q (.bl false) H'):Bu K vs H Q
def Gs(K:X0):Sp:=λ vs H Q ω=>Bu K vs H Q
noncomputable def hB(hs:List Hs):List Tm:=(hs.map λ h=>h.words.map Wd.body).flatten
theorem zB:∀ts:List Tm,ts.length<=aG ts
 |[]=>aQ _
 |t::ts=>by
  have a:=zB ts;have b:=zD t;show ts.length+1<=t.size+aG ts;lia
theorem EV(xs ys:List Hs):hB (xs++ys)=hB xs++hB ys:=by
 unfold hB;rw[eZ,yi]
theorem sA(p:Pg)(i:Nat):aG (p.main.body::hB (p.houses.take i))<=aG (RR.bb p):=by
 have e:RR.bb p=hB p.houses++[p.main.body]:=rfl;have a:hB p.houses=hB (p.houses.take i)++hB (p.houses.drop i):=by rw[<-EV,pN]
 rw[e,a,TM.mw,TM.mw];show p.main.body.size+_<=_+(p.main.body.size+0);lia
theorem yD{p:Pg}(g:tV p)(h:t∈p.main.body::hB p.houses):t.depth<=14:=by
 rcases(de.mp h)with rfl|h
 ·exact g.dp
 ·obtain⟨l,hl,a⟩:=List.mem_flatten.mp h;obtain⟨u,c,rfl⟩:=eO.mp hl;obtain⟨d,hd,rfl⟩:=eO.mp a;exact((g.hs u c).wd d hd).dp
def GI(K:X0)(H0:Hp)(v:V)(x:U1)(p:Pg):Nat->St->Hp->Prop:=λ i c a=>∃(r:V0)(vs:List V),ao H0 a/\a r=some (.lst vs)/\Ms K a vs (p.main.body::hB (p.houses.take i))/\∃o,c=[some v,some (.str x),some (.ref r),o]
theorem Mn(T:∅)(c:bJ P w K mg base 15 "_law_measured" ["_law_term_here"] (yO K 14)):bJ P w K mg base 16 "_law_is_great" ["_law_program_here","_law_text"] (Gs K):=by
 walk_at "h Q2 Ak 2"
 obtain⟨v,p,x,rfl,rt,n,lx,q⟩:=h;refine⟨_,(aE (qG 2 Ak.nd (cJ (qI (qF c hr (qI (gT (r:=yh K) Eu (qA K 0) aw (λ ω ω=>rfl))))))) (aE (nj Sj rfl (EY (qA K 0)) (qH 3 Ak.nd) (aN (qG 2 Ak.nd (aC iQ (ai 2) (eX rfl (aD.plain (N:=["_law_word"]) rfl qP qP qP) (EY (qA K 3)) (λ C fp s H=>(qH 0 (show(["_law_word"]:List U1).Nodup by decide+kernel))) (λ C fp s H=>(qF c hr (qI (qA K 0))))))))) (aN (bp (ud (fC iP (eH nJ rfl T.z_len xN (qI (ai 1))) aw (iu _)) (ud (fC iP (eH (u5 rfl) rfl T.z_sum uM (qI (eX rfl (aD.plain (N:=["_law_row_here"]) rfl qP qP qP) (jR (ai 2)) (λ C fp s H=>(qH 0 (show(["_law_row_here"]:List U1).Nodup by decide+kernel))) (λ C fp s H=>(qA K 0))))) aw (iu _)) (oU (fC iP (eH (r:=uc K) (zP rfl) rfl T.z_max xD (qI (eX rfl (aD.plain (N:=["_law_row_here"]) rfl qP qP qP) (jR (ai 2)) (λ C fp s H=>(qH 0 (show(["_law_row_here"]:List U1).Nodup by decide+kernel))) (λ C fp s H=>(qA K 0))))) aw (iu _))))))))),?_⟩;walk_at "s 3 z";have rt:RT K H v (.tuple [.tuple (p.houses.map jB),.tuple [ic p.main.params,.str p.main.kind,p.main.body.dat]]):=rt;obtain⟨a,us,rfl,sq,rs⟩:=rt.tup_inv;obtain⟨w1,wr,rfl,q1,r2⟩:=rs.inv;obtain⟨w2,m0,rfl,q2,r3⟩:=r2.inv;obtain⟨ha,hv,rfl,sh,rh⟩:=q1.tup_inv;have lh:hv.length=p.houses.length:=by rw[rh.length,bB]
 have n0:=n.h12;obtain⟨b,o0,rfl,s4,r4⟩:=q2.tup_inv;obtain⟨v1,p0,rfl,c1,r5⟩:=r4.inv;obtain⟨v2,q0,rfl,c2,r6⟩:=r5.inv;obtain⟨v3,s0,rfl,c3,r7⟩:=r6.inv;have b0:p.main.body.size<=400:=bR (tK (zk p)) n.sz;refine⟨a,rfl,⟨_,sq,_,fL,.inr (.inl ⟨b,_,2,_,rfl,rfl,s4,kQ,v3,p.main.body,rfl,c3,n.bd,n.dp,n.dp,b0,λ r0 H1 s1 sr=>aS.of λ p2 H2 h2 s2 e2=>?_⟩)⟩⟩;walk_at "n z1";have S2:ao H H2:=s1.trans s2;refine⟨_,ay.same sq S2,_,fM,ha,rfl,.inr ⟨_,ay.same sh S2,tJ hv (GI K H2 (.ref a) x p) ⟨p2,_,.refl _,e2,.cons (ay.same sr s2) .nil,_,rfl⟩ (λ i σ H' ω h=>?_) (λ i y σ H' L h=>?_) λ σ H' h=>?_⟩⟩
 ·obtain⟨r,vs,Y,ω⟩:=h;exact ay.same sh (S2.trans Y)
 ·obtain⟨r,vs,Y,Z,M,o,rfl⟩:=h;obtain⟨d,hd,ry⟩:=rh.at L;rw[eK]at hd;obtain⟨h,hh,rfl⟩:=iJ.mp hd;have hg:=n.hs h (kP hh);have ry:RT K H y (.tuple [.str h.name,oD h.elder,ic h.fields,.tuple (h.words.map kT)]):=ry;obtain⟨b',ys,rfl,sb,G⟩:=ry.tup_inv;obtain⟨y0,t0,rfl,d0,G⟩:=G.inv;obtain⟨y1,u0,rfl,d1,G⟩:=G.inv;obtain⟨y2,v0,rfl,d2,G⟩:=G.inv;obtain⟨y3,w0,rfl,d3,G⟩:=G.inv;obtain⟨wa,wv,rfl,sw,a0⟩:=d3.tup_inv;have lw:wv.length=h.words.length:=by rw[a0.length,bB]
  have w8:=hg.wl;have S':=S2.trans Y;have x0:=M.len;have b1:=zB (p.main.body::hB (p.houses.take i));have b2:=sA p i;have b3:=n.sz;walk_at "r";refine⟨_,ay.same sb S',_,Bj,wa,rfl,.inr ⟨_,ay.same sw S',λ D hD=>?_⟩⟩;refine kZ (ys:=wv) none [] (λ j v H=>∃t b,(h.words.map Wd.body)[j]?=some t/\v=.ref b/\ay K H b (mp t)) (λ j v H1 H2 ⟨p,a,x,y,z⟩ s=>⟨p,a,x,y,ay.kp z (mX s)⟩) rfl hD (by rw[RB];lia) (λ H3 s=>ay.same sw (S'.trans s)) (λ j y L H5 K' s5 k=>?_) (λ c0 H6 I O R S=>?_)
  ·obtain⟨d,hd,U⟩:=a0.at L;rw[eK]at hd;obtain⟨u,hu,rfl⟩:=iJ.mp hd;have ug:=hg.wd u (kP hu);have U:RT K H y (.tuple [.str u.name,ic u.params,.str u.kind,u.body.dat]):=U;obtain⟨A0,zs,rfl,su,J⟩:=U.tup_inv;obtain⟨z0,B0,rfl,ω,J⟩:=J.inv;obtain⟨z1,C0,rfl,ω,J⟩:=J.inv;obtain⟨z2,D0,rfl,ω,J⟩:=J.inv;obtain⟨z3,G0,rfl,e0,J⟩:=J.inv;have I0:=ug.sz;walk_at "r";exact⟨_,ay.same su (S'.trans s5),_,Bj,z3,u.body,rfl,e0.same (S'.trans s5),ug.bd,ug.dp,ug.dp,qR,λ r H3 s3 f0=>k _ _ s3 ⟨u.body,r,by rw[eK,hu];rfl,rfl,f0⟩⟩
  ·have g0:=Am (ts:=h.words.map Wd.body) (R.trans (by rw[lw,bB])) S;refine⟨D,rfl,_,I _ _ Z,_,O,qR,aS.of λ p7 H7 h7 s7 e7=>⟨p7,_,Y.trans (I.trans s7),e7,?_,_,rfl⟩⟩;have e:hB (p.houses.take (i+1))=hB (p.houses.take i)++h.words.map Wd.body:=by
    rw[oz,hh,EV];show _++(h.words.map Wd.body++[])=_;rw[eu]
   rw[e];exact(M.same (I.trans s7)).app (g0.same s7)
 ·obtain⟨r,vs,Y,Z,M,o,rfl⟩:=h;rw[lh,j_]at M;have b1:=zB (p.main.body::hB p.houses);have b2:=sA p p.houses.length;rw[j_]at b2;have b3:=n.sz;have lv:=M.len;walk_at "n z2";refine⟨qR,ax (λ z=>UM z qR) λ ω=>⟨⟨_,az.of Z⟩,λ D6 h0=>?_⟩⟩;refine k_ (ys:=vs) none [] (λ j v H=>∃q,(p.main.body::hB p.houses)[j]?=some q/\v=.int ((q.size:Nat):Int)) (λ ω ω ω ω h ω=>h) rfl h0 (by rw[RB];lia) (λ H3 s=>az.of (s _ _ Z)) (λ i y L H3 K' s k=>?_) (λ c0 H6 I O R S=>?_)
  ·obtain⟨q,b,X,rfl,hq⟩:=M.at L;walk_at "r";exact⟨_,ay.same hq s,_,fL,k _ _ (ao.refl _) ⟨q,X,rfl⟩⟩
  cases oX (g:=λ p:Tm=>V.int ((p.size:Nat):Int)) (R.trans lv) S;refine⟨D6,rfl,(p.main.body::hB p.houses).map (λ p=>((p.size:Nat):Int)),by rw[i6];exact az.of O,?_⟩;rw[uN];refine ax (λ z=>UM z qR) λ ω=>⟨⟨_,az.of (I _ _ Z)⟩,λ D3 i0=>?_⟩;refine k_ (ys:=vs) none [] (λ j v H=>∃q,(p.main.body::hB p.houses)[j]?=some q/\v=.int ((q.depth:Nat):Int)) (λ ω ω ω ω h ω=>h) rfl i0 (by rw[RB];lia) (λ H3 s=>az.of (s _ _ (I _ _ Z))) (λ i y L H3 K' s k=>?_) (λ J0 H3 s3 j0 k0 l0=>?_)
  ·obtain⟨q,b,X,rfl,hq⟩:=M.at L;walk_at "r";exact⟨_,ay.same hq (I.trans s),_,fM,k _ _ (ao.refl _) ⟨q,X,rfl⟩⟩
  cases oX (g:=λ p:Tm=>V.int ((p.depth:Nat):Int)) (k0.trans lv) l0;refine⟨D3,rfl,(p.main.body::hB p.houses).map (λ p=>((p.depth:Nat):Int)),by rw[i6];exact az.of j0,by simp,λ m hm=>?_⟩;have em:¬(14<m):=by
   obtain⟨t,ht,rfl⟩:=eO.mp hm.1;have:=yD n ht;lia
  rw[UN em];exact q _ (S2.trans (Y.trans (I.trans s3)))
theorem Ig{K:X0}:∀(o:Option U1),RT K H (oS o) (oD o)
 |none=>.non
 |some s=>.str s
inductive BS(c:CS)(K:X0)(vs:List V)(H:Hp)(Q:VK):Prop
 |mk(v:V)(d:Wd)(a1:vs=[v])(a2:eP K c H v d)(a3:∀u H',ao H H'->RT K H' u (kT d)->Q u H'):BS c K vs H Q
def CM(c:CS)(K:X0):Sp:=λ vs H Q ω=>BS c K vs H Q
inductive CU(c:CS)(K:X0)(vs:List V)(H:Hp)(Q:VK):Prop
 |mk(v:V)(d:Hs)(a1:vs=[v])(a2:gC K c H v d)(a3:d.words.length<=100)(a4:∀u H',ao H H'->RT K H' u (jB d)->Q u H'):CU c K vs H Q
def CJ(c:CS)(K:X0):Sp:=λ vs H Q ω=>CU c K vs H Q
inductive Cj(c:CS)(K:X0)(vs:List V)(H:Hp)(Q:VK):Prop
 |mk(v:V)(d:Pg)(a1:vs=[v])(a2:kH K c H v d)(a3:d.houses.length<=100)(a4:(∀h∈d.houses,h.words.length<=100))(a5:∀u H',ao H H'->RT K H' u (kU d)->Q u H'):Cj c K vs H Q
def CT(c:CS)(K:X0):Sp:=λ vs H Q ω=>Cj c K vs H Q
theorem Oj(T:∅)(a:aX P w K mg base 1 Ct "plain" ["self"] (vx Ct K)):aX P w K mg base 2 Cw "plain" ["self"] (CM (CS.mk Ct Cw Ch Cp aa aa aa aa B) K):=by
 walk_at "m m_Word_plain OI 1"
 obtain⟨v,d,rfl,n,q⟩:=h;refine⟨_,(aN (bp (cH (dq (qO 0) (qK (qO 0) (qO 0) (f6 (qO 0) T.Term.cl a hr qS)))))),?_⟩;cases n with
 |mk c o j=>
  obtain⟨m,e,x,G,y,z,rfl,g,ω⟩:=j.inv;walk_at "r";exact⟨Cw,_,_,c,T.Word.cl,T.n_Word_name,_,rfl,Cw,_,_,c,T.Word.cl,T.n_Word_params,_,rfl,Cw,_,_,c,T.Word.cl,T.n_Word_kind,_,rfl,Cw,_,_,c,T.Word.cl,T.n_Word_body,_,rfl,m,rfl,e,_,g,rfl,.ref m,d.body,rfl,j,λ u C=>aS.of λ I J L i D=>q _ _ i (.tup (ay.of D) (.cons (.str _) (.cons (o.same i) (.cons (.str _) (.cons (C.same i) .nil)))))⟩
theorem Nk(T:∅)(c:aX P w K mg base 2 Cw "plain" ["self"] (CM (CS.mk Ct Cw Ch Cp aa aa aa aa B) K)):aX P w K mg base 3 Ch "plain" ["self"] (CJ (CS.mk Ct Cw Ch Cp aa aa aa aa B) K):=by
 walk_at "m m_House_plain fF 1"
 obtain⟨v,d,rfl,g,hl,q⟩:=h;refine⟨_,(aE (qG 1 fF.nd (fg ji rfl T.iB iy (qI (eX rfl (aD.plain (N:=["word"]) rfl qP qP qP) (jg (qO 0)) (λ C R s H=>(qH 0 (show(["word"]:List U1).Nodup by decide+kernel))) (λ C R s H=>(f6 (ai 0) T.Word.cl c hr qS)))))) (aN (bp (cH (dq (qO 0) (qK (qO 0) (qO 0) (ai 1))))))),?_⟩;cases g with
 |mk I S J L=>
  have U:=L.len;walk_at "s 2 z";refine⟨Ch,_,_,I,T.House.cl,T.n_House_own_words,_,rfl,_,rfl,⟨_,J⟩,λ D X=>?_⟩;refine kZ (ys:=_) none [] (λ j v H=>∃t,d.words[j]?=some t/\RT K H v (kT t)) (λ j v M Y ⟨t,a,b⟩ s=>⟨t,a,b.kp (mX s)⟩) rfl X (by rw[RB];lia) (λ M s=>ay.same J s) (λ i y Z M K' s k=>?_) (λ vs n Sc hv lv hR=>?_)
  ·obtain⟨t,ht,g⟩:=L.at Z;have g:=g.same s;walk_at "r";have o:=g;cases g with
   |mk k1 k2 k3=>exact⟨_,rfl,_,_,k1,rfl,_,t,rfl,o,λ u Y s2 ru=>k _ _ s2 ⟨t,ht,ru⟩⟩
  refine⟨D,rfl,vs,.inl ⟨az.of hv,λ x h5=>?_⟩⟩;have O:=dR h5 (.tup vs);have e5:ar n x (.tup vs) x=some (.tup vs):=bu;generalize ar n x (.tup vs)=H5 at*;have z:=Sc.trans O;have G:bM K n vs (d.words.map kT):=yR kT (lv.trans U) hR;have e:=z _ _ I;walk_at "n z1";exact⟨Ch,_,_,e,T.House.cl,T.n_House_name,_,rfl,Ch,_,_,e,T.House.cl,T.n_House_elder,_,rfl,Ch,_,_,e,T.House.cl,T.n_House_own_fields,_,rfl,aS.of λ p6 H6 h6 m e6=>q _ _ (z.trans m) (.tup (ay.of e6) (.cons (.str _) (.cons (Ig _) (.cons (S.same (z.trans m)) (.cons (.tup (ay.of (m _ _ e5)) (G.same (O.trans m))) .nil)))))⟩
theorem Nm(T:∅)(e:aX P w K mg base 1 Ct "plain" ["self"] (vx Ct K))(c:aX P w K mg base 3 Ch "plain" ["self"] (CJ (CS.mk Ct Cw Ch Cp aa aa aa aa B) K)):aX P w K mg base 4 Cp "plain" ["self"] (CT (CS.mk Ct Cw Ch Cp aa aa aa aa B) K):=by
 walk_at "m m_Program_plain eR 1"
 obtain⟨v,d,rfl,m,hl,z,q⟩:=h;refine⟨_,(aE (qG 1 eR.nd (fg ji rfl T.iB iy (qI (eX rfl (aD.plain (N:=["house"]) rfl qP qP qP) (jg (qO 0)) (λ C fp s H=>(qH 0 (show(["house"]:List U1).Nodup by decide+kernel))) (λ C fp s H=>(f6 (ai 0) T.House.cl c hr qS)))))) (aN (bp (cH (qJ (ai 1) (cH (qK (qc (qO 0) rfl) (qc (qO 0) rfl) (f6 (qc (qO 0) rfl) T.Term.cl e hr qS)))))))),?_⟩;cases m with
 |mk Y Z f3 f4=>
  have l3:=f3.len;walk_at "s 2 z";refine⟨Cp,_,_,Y,T.Program.cl,T.n_Program_all_houses,_,rfl,_,rfl,⟨_,Z⟩,λ D hD=>?_⟩;refine kZ (ys:=_) none [] (λ j v H=>∃t,d.houses[j]?=some t/\RT K H v (jB t)) (λ j v H1 H2 ⟨t,a,b⟩ s=>⟨t,a,b.kp (mX s)⟩) rfl hD (by rw[RB];lia) (λ H1 s=>ay.same Z s) (λ i y hy H1 K' s k=>?_) (λ vs G Sc hv lv hR=>?_)
  ·obtain⟨t,ht,m⟩:=f3.at hy;have m:=m.same s;have o:=z t (kP ht);walk_at "r";have I:=m;cases m with
   |mk k1 k2 k3 k4=>exact⟨_,rfl,_,_,k1,rfl,_,t,rfl,I,o,λ u H2 s2 J=>k _ _ s2 ⟨t,ht,J⟩⟩
  refine⟨D,rfl,vs,.inl ⟨az.of hv,λ L h5=>?_⟩⟩;have s5:=dR h5 (.tup vs);have e5:ar G L (.tup vs) L=some (.tup vs):=bu;generalize ar G L (.tup vs)=H5 at*;have M:=Sc.trans s5;have O:bM K G vs (d.houses.map jB):=yR jB (lv.trans l3) hR;have g:=M _ _ Y;have R:=f4.same M;cases R with
  |mk S m2 m3=>
   obtain⟨ba,U,a0,sh,b0,c0,rfl,X,ω⟩:=m3.inv;walk_at "n z1";exact⟨Cp,_,_,g,T.Program.cl,T.n_Program_main,_,rfl,_,rfl,Cw,_,_,S,T.Word.cl,T.n_Word_params,_,rfl,Cp,_,_,g,T.Program.cl,T.n_Program_main,_,rfl,_,rfl,Cw,_,_,S,T.Word.cl,T.n_Word_kind,_,rfl,Cp,_,_,g,T.Program.cl,T.n_Program_main,_,rfl,_,rfl,Cw,_,_,S,T.Word.cl,T.n_Word_body,_,rfl,ba,rfl,U,_,X,rfl,.ref ba,d.main.body,rfl,m3,λ u J=>aS.of λ p6 H6 h6 x e6=>aS.of λ p7 H7 h7 n e7=>q _ _ (M.trans (x.trans n)) (.tup (ay.of e7) (.cons (.tup (ay.of ((x.trans n) _ _ e5)) (O.same (s5.trans (x.trans n)))) (.cons (.tup (ay.of (n _ _ e6)) (.cons (m2.same (x.trans n)) (.cons (.str _) (.cons (J.same (x.trans n)) .nil)))) .nil)))⟩
structure XB(K:X0)(mg:U1->Option Y1)(cb cw:V0):Prop where
 xB:gY K cb none=true
 nf:SM K cw (.ref cb)=some false
 sub:SM K cw (.ref cw)=some true
theorem sN:∀ws:List U1,ws=(ws.map K10.aV).map λ l=>(⟨l.toArray⟩:U1)
 |[]=>rfl
 |⟨x⟩::ws=>by
  rw[dJ,dJ,<-sN ws]
theorem JC{x:U1}{ws:List U1}(h:RR.WW x ws)(l:x.length<=6000):xU x ws:=by
 obtain⟨a,b⟩:=K10.fB _ _ _ _ (aQ _) (h 0);rw[K10.aM,bB]at a;rw[K10.aM]at b;exact⟨l,⟨_,h 0,sN ws⟩,bR a l,λ w c=>by rw[<-K10.aM];exact bR (b _ (rN c)) l⟩
theorem HU(s:∀g,SY g H H'):Kt H H':=⟨λ b a e=>(s (b+1)).k _ _ (dY (iH _)) (λ ω z=>by cases z) e,λ b o a e=>(s (b+1)).k _ _ (dY (iH _)) (λ ω z=>by cases z) e⟩
theorem Hf{c H2:Hp}(k:Kt H c)(s:ao c H2):Kt H H2:=⟨λ b a e=>s _ _ (k.1 b a e),λ b o a e=>s _ _ (k.2 b o a e)⟩
inductive Fe(cg:GC)(K:X0)(vs:List V)(H:Hp)(Q:VK):Prop
 |mk(x:U1)(a1:vs=[.str x])(a2:iz cg H)(a3:((∃ws p m,xU x ws/\gb ws 28=.ok p m/\p.houses.length<=100/\(∀h∈p.houses,h.words.length<=100)/\∀v H',Kt H H'->iz cg H'->RT K H' v (kU p)->Q v H')\/(6000<x.length/\x.length<=1000000/\∀r H',ao H H'->H' r=some (.lst [.str "words",.int 0])->Q (.ref r) H'))):Fe cg K vs H Q
def F_(cg:GC)(K:X0):Sp:=λ vs H Q ω=>Fe cg K vs H Q
theorem zb{x:U1}(h:gQ x){k:Nat}:bq k 60 (.str x):=by
 rcases h with rfl|rfl|h
 ·exact bq.str qP qP
 ·exact bq.str qP qP
 ·exact bq.str (AL h) (bR (RR.eA h).len qS)
theorem uU{x:U1}(h:av x=true){k:Nat}:bq k 60 (.str x):=bq.str (AL h) (bR (RR.eA h).len qS)
theorem y_{ps:List (U1×U1)}(h:∀p∈ps,eD p)(l:ps.length<=4){k:Nat}:bq (k+2) 600 (ic ps):=by
 have:=ck.of (k:=k+1) (n:=122) (ds:=ps.map λ p=>PyData.tuple [.str p.1,.str p.2]) λ d hd=>by
  obtain⟨p,a,rfl⟩:=eO.mp hd;exact bq.tup (.cons (b:=61) (uU (h p a).1) (.cons (b:=0) (zb (h p a).2) .nil (aQ _)) qS)
 rw[bB]at this;exact bq.tup (this.mono (aQ _) qR)
theorem FH(g:Good t)(d:t.depth<=14){k:Nat}:bq (k+28) (100*t.size) t.dat:=(u4 g).mono qR qR
theorem Le{d:Wd}(g:wM d):bq 29 2000 (kT d):=by
 have z:=g.sz;exact bq.tup (.cons (b:=1900) (uU g.nm) (.cons (b:=1200) (y_ (k:=26) g.ps g.p4) (.cons (b:=1000) (zb g.kd) (.cons (b:=0) (FH (k:=0) g.bd g.dp) .nil qR) qR) qR) qR)
theorem K3{h:Hs}(g:nR h 8):bq 31 18000 (jB h):=by
 have w:=ck.of (k:=29) (n:=2000) (ds:=h.words.map kT) λ d hd=>by
  obtain⟨p,c,rfl⟩:=eO.mp hd;exact Le (g.wd p c)
 rw[bB]at w;have l:=g.wl;have e:bq 30 60 (oD h.elder):=by
  cases z:h.elder with
  |none=>exact bq.none
  |some y=>exact uU (g.el y z)
 exact bq.tup (.cons (b:=17800) (uU g.nm) (.cons (b:=17700) e (.cons (b:=17000) (y_ (k:=28) g.fl g.f4) (.cons (a:=16100) (b:=0) ((bq.tup w).mono qR qR) .nil qR) qR) qR) qR)
theorem KM{p:Pg}(g:tV p):bq 33 300000 (kU p):=by
 have w:=ck.of (k:=31) (n:=18000) (ds:=p.houses.map jB) λ d hd=>by
  obtain⟨h,e,rfl⟩:=eO.mp hd;exact K3 (g.hs h e)
 rw[bB]at w;have l:=g.h12;have i:p.main.body.size<=400:=bR (tK (zk p)) g.sz;have mp:∀q∈p.main.params,eD q:=λ q c=>⟨(g.ps q c).1,.inl (g.ps q c).2⟩;have m:bq 32 41000 (.tuple [ic p.main.params,.str p.main.kind,p.main.body.dat]):=bq.tup (.cons (b:=40300) (y_ (k:=29) mp g.p4) (.cons (b:=40001) (zb g.kd) (.cons (b:=0) (FH (k:=3) g.bd g.dp) .nil qR) qR) qR);exact bq.tup (.cons (a:=220000) (b:=41001) ((bq.tup w).mono qR qR) (.cons (b:=0) m .nil qR) qR)
theorem gI(T:∅){S B' U:V0}(D:K10.qE K mg S B' U)(X:XB K mg ae B')(g:aT P w K mg base 235 "read" ["text"] (F8 (CS.mk Ct Cw Ch Cp aa aa aa aa B) ⟨aa,C_tb,LP,LQ⟩ ae B' K 28))(c:aX P w K mg base 4 Cp "plain" ["self"] (CT (CS.mk Ct Cw Ch Cp aa aa aa aa B) K)):bJ P w K mg base 236 "_law_told" ["_law_text"] (F_ ⟨aa,C_tb,LP,LQ⟩ K):=by
 obtain⟨fr,Y,Z,br,kr,mr⟩:=g.ex;refine bJ.of T.IW DR (λ ω ω ω ω ω ω us hl=>el1 us hl λ ω=>rfl) (λ vs H Q E h=>?_) (λ f cdv A outer s H vs Q E hr h=>?_)
 ·obtain⟨x,rfl,ω⟩:=h;rfl
 obtain⟨x,rfl,tb,h⟩:=h;refine⟨_,(aN (Lu (i:=1) rfl rfl X.xB rfl T.x_BadForm.mgC D.xB rfl D.mB DR.nd rfl rfl (λ l E'=>aN (bp (f6 (ML (E:=E') Z (hr.mono qR) rfl mr kr br (qI (ai 0))) T.Program.cl c hr qR))) (λ a=>aN (bp (cJ (qI aK)))) (λ a=>aN (bp (cJ (qJ aK (K9 (ai 1) rfl))))))),?_⟩;refine⟨λ σ cl y j=>cl=.ref B'/\(∃M N,σ=[M,N])/\∃(n:V0),y=some n/\ao H j/\j n=some (.xd [("at",.int 0)])/\∀r j,ao H j->j r=some (.lst [.str "words",.int 0])->Q (.ref r) j,?_,?_⟩
 ·walk_at "r";rcases h with⟨ws,p,m,hc,e,z,G,q⟩|⟨z,G,q⟩
  ·refine .inl ⟨x,ws,rfl,hc,tb,?_⟩;rw[e];show ∀v j,_->_->_->_;intro vp a0 sy o O;have I:=O;cases O with
   |mk p1 p2 R p4=>
    exact⟨_,rfl,⟨_,_,p1,rfl,_,p,rfl,I,z,G,λ fu J u rf=>q fu J (Hf (HU sy) u) (o.same u) rf⟩⟩
  ·exact .inr ⟨x,rfl,z,G,λ j n L y=>⟨rfl,⟨_,rfl⟩,n,rfl,L,y,q⟩⟩
 ·rintro b0 a C y j hl ⟨ec,⟨M,N,rfl⟩,n,rfl,L,hd,q⟩ hx;obtain rfl:C=B':=by injection ec
  refine⟨⟨_,D.xB⟩,.inr ⟨X.nf,X.sub,?_⟩⟩;walk_at "r";exact⟨a,C,n,_,.int 0,rfl,hx,hd,D.cls,D.no,rfl,aS.of λ R H3 h3 s3 e3=>q R H3 (L.trans s3) e3⟩
inductive Gw(cg:GC)(K:X0)(vs:List V)(H:Hp)(Q:VK):Prop
 |mk(a:V0)(ns:List Int)(a1:vs=[.ref a])(a2:az K H a (ns.map V.int))(a3:ns.length<=63)(a4:iz cg H)(a5:∀H',Q (.bl true) H'):Gw cg K vs H Q
def MX(cg:GC)(K:X0):Sp:=λ vs H Q ω=>Gw cg K vs H Q
theorem AQ{K:X0}{v:V}{p:Pg}(h:RT K H v (kU p)):∃a,v=.ref a:=by
 unfold kU at h;obtain⟨a,ω,rfl,ω⟩:=h.tup_inv;exact⟨a,rfl⟩
theorem Mq(T:∅)(j:bJ P w K mg base 5 "_law_program" ["_law_script"] (Dk K))(m:bJ P w K mg base 44 "_law_shown" ["_law_program_here"] (GG K))(g:bJ P w K mg base 16 "_law_is_great" ["_law_program_here","_law_text"] (Gs K))(e:bJ P w K mg base 236 "_law_told" ["_law_text"] (F_ ⟨aa,C_tb,LP,LQ⟩ K)){f:V0}{Y:RN}(F:fD K "law" "law" qt f Y):bc P w K mg base eE 237 f Y ["_law_script"] (MX ⟨aa,C_tb,LP,LQ⟩ K):=by
 refine F.ok wR (λ vs H Q E h=>?_) (λ cdv A outer s H vs Q E hr h=>?_)
 ·obtain⟨a,Z,rfl,ω⟩:=h;rfl
 obtain⟨sc,Z,rfl,S,hn,tb,q⟩:=h;refine⟨_,(aE (qG 1 wR.nd (qF j hr (qI (ai 0)))) (aE (qG 2 wR.nd (qF m hr (qI (ai 1)))) (aE (qG 3 wR.nd (qF e hr (qI (ai 2)))) (aE (bP (qM iP (eH nJ rfl T.z_len xN (qI (ai 2))) aw) (aN (bp (fC (r:=lG K) (EM hr.units) (ai 3) (cJ (qJ aK aw)) (iu _)))) bW) (aE (bP (fq (qF g hr (qJ (ai 1) (ai 2)))) (aN (bp (fC (r:=lG K) (EM hr.units) (ai 3) (cJ (qI aK)) (iu _)))) bW) (aN (bp (xO (fC dy (eH (r:=AO K) (De hr.gd hr.units) rfl T.wQ uT (qI (ai 3))) (eH (r:=xE K) (C7 hr.gd hr.units) rfl T.wQ uT (qI (ai 1))) (iu _)) (oU (fC dy (eH (r:=AO K) (De hr.gd hr.units) rfl T.wQ uT (qI (qF e hr (qI (ai 2))))) (eH (r:=xE K) (C7 hr.gd hr.units) rfl T.wQ uT (qI (ai 1))) (iu _))))))))))),?_⟩;walk_at "s 6 z";refine⟨sc,Z,rfl,S,hn,λ v p H1 s1 rv D=>?_⟩;walk_at "n z1";refine⟨v,p,rfl,rv,D,λ x L M H2 s2 po ep ww lx=>?_⟩;have rd:=RR.lN (kf:=28) po qS;rw[<-ep]at rd;have G:=rv.same s2;have I:=tb.same (s1.trans s2);obtain⟨va,rfl⟩:=AQ G;have y:=KM D;obtain⟨d,hd⟩:∃d,d=kU p:=⟨_,rfl⟩;rw[<-hd]at y;have n:∀{H':Hp}{u:V},RT K H' u (kU p)->dZ K H' u d:=λ h=>hd▸h.rd;have c0:x.length<=16777216:=bR lx qS;have c1:x.length<=6000->¬((6000:Int)<(x.length:Int)):=λ z=>by lia
 have c2:¬x.length<=6000->(6000:Int)<(x.length:Int):=λ z=>by lia
 have N:=y.sho;have O:=PyData.hasDict_of_canLay _ y.lay;have R:=bR y.dep (show 33<=60 by decide);have U:d.shown.length<=Ru:=by
  have a:=PyData.shown_le 30 qS _ y.leaf;have b:=y.wt;rw[RB];lia
 have f5:d.shown.length<=16777216:=by rw[<-RB];exact U
 have l1:p.houses.length<=100:=bR D.h12 qS;have l2:∀h∈p.houses,h.words.length<=100:=λ h hh=>bR (D.hs h hh).wl qS;walk_at "n z2";by_cases c:x.length<=6000
 ·have ct:=JC ww c;refine⟨x,rfl,I,.inl ⟨RR.jw L M,p,(RR.jw L M).length,ct,rd,l1,l2,λ u H3 k3 X ru=>?_⟩⟩;obtain⟨ua,rfl⟩:=AQ ru;have o:=G.kt k3;walk_at "n z3";refine⟨c0,ax (λ z=>UM z (c1 c)) λ ω=>?_⟩;walk_at "n z4";refine⟨.ref va,p,x,rfl,o,D,c,λ H4 C=>?_⟩;walk_at "n z5";refine⟨_,_,rfl,trivial,n (ru.same C),N,O,R,U,?_⟩;refine⟨_,n (o.same C),N,O,R,f5,D7,?_⟩;refine(λ{sx:U1} {A B:Prop} (h:A)=>(by rw[UL rfl];exact h:if V.str sx=V.str sx then A else B)) ?_;refine⟨x,rfl,X.same C,.inl ⟨RR.jw L M,p,(RR.jw L M).length,ct,rd,l1,l2,λ u2 H5 k5 a0 J=>?_⟩⟩;obtain⟨ub,rfl⟩:=AQ J;refine⟨_,_,rfl,trivial,n J,N,O,R,U,?_⟩;refine⟨_,n ((o.same C).kt k5),N,O,R,f5,D7,?_⟩;refine(λ{sx:U1} (h:Q (.bl true) H5)=>(by rw[UO rfl];exact h:Q (.bl (decide (V.str sx=V.str sx))) H5)) (q _)
 ·refine⟨x,rfl,I,.inr ⟨Nat.lt_of_not_le c,lx,λ r H3 s3 er=>?_⟩⟩;walk_at "n z3";refine⟨c0,ax (λ ω=>aS.of λ p4 H4 h4 C e4=>⟨.list [.str "words",.int 0],.lst (az.of (C _ _ er)) (.cons (.str _) (.cons (.int _) .nil)),.list [.str "words",.int 0],.lst (az.of e4) (.cons (.str _) (.cons (.int _) .nil)),qP,qP,?_⟩) λ z=>UM (c2 c) z⟩;rw[show TN (.list [.str "words",.int 0]) (.list [.str "words",.int 0])=true by decide+kernel];exact q _
inductive E2(tb:V0)(K:X0)(vs:List V)(H:Hp)(Q:VK):Prop
 |mk(a:V0)(ns:List Int)(a1:vs=[.ref a])(a2:az K H a (ns.map V.int))(a3:ns.length<=63)(a4:H tb=some (.tbl #[]))(a5:∀H',Q (.bl true) H'):E2 tb K vs H Q
def iE(tb:V0)(K:X0):Sp:=λ vs H Q ω=>E2 tb K vs H Q
theorem jn{e:V0}{K:X0}{a:V0}{c:List Int}(hl:c.length<=63)(g:H e=some (.tbl #[]))(i:az K H a (c.map V.int)):iE e K [.ref a] H (λ v ω=>v=.bl true) λ ω ω ω=>False:=⟨a,c,rfl,i,hl,g,λ ω=>rfl⟩
structure Ex(K:X0)(mg:U1->Option Y1)(aF aP Hc B' fi c:V0):Prop where
 mF:mg "BadForm"=some (.ref aF)
 mP:mg "Program"=some (.ref aP)
 D:K10.qE K mg Hc B' fi
 I:∃di,fD K "__init__" "BadWords.__init__" K10.f_ fi di
 X:XB K mg aF B'
 F:xT K mg "read_terms" la c
theorem sH{K:X0}{mg:U1->Option Y1}{h:M1}{j D e a g c rt:V0}{E m kV H I ct i n o u v:Y1}{od od' J x:Option V0}{L y:Array (Option Y1)}(X:K.In h)(G:h.Ns RE mg)(z:Tt K RE "BadForm"=some (some (.ref j)))(A:Tt K RE "Program"=some (some (.ref D)))(M:Tt K RE "HouseError"=some (some (.ref e)))(N:Tt K RE "BadWords"=some (some (.ref a)))(O:Tt K RE "read_terms"=some (some (.ref rt)))(Q:K.lookup rt=some ⟨E,od,.func (SK "read_terms" "read_terms" (gO la) (fh la) (bg la) .none kV H I J (.ref c) ct),L⟩)(R:T_ K (.ref c) "read_terms"=true)(S:RM K (.ref rt)=true)(fI:RV K (.ref a) "__init__"=some (some (.ref g)))(T:K.lookup g=some ⟨m,od',.func (SK "__init__" "BadWords.__init__" (gO K10.f_) (fh K10.f_) (bg K10.f_) .none n o u x i v),y⟩)(U:T_ K i "BadWords.__init__"=true)(Y:RM K (.ref g)=true)(Z:W.isFn K (.ref g)=true)(z1:Tt K RE "isinstance"=some none)(z2:Tt K RE "str"=some none)(s1:Uc K (.ref e) "__getattribute__"=some (some (.builtin "type.__getattribute__")))(s2:W.readsIn K e (.type "type")=true)(s3:W.findCls K (.ref e) (.type "type") "__init__"=some (.val (.builtin "ValueError.__init__")))(xH:gY K e none=true)(xB:gY K a (some g)=true)(xF:gY K j none=true)(q1:RV K (.ref a) "__setattr__"=some (some (.builtin "object.__setattr__")))(q2:W.valueOver K a=true)(q3:TY K a=true)(q4:RV K (.ref a) "__getattribute__"=some (some (.builtin "BaseException.__getattribute__")))(q5:RV K (.ref a) "__getattr__"=some none)(q6:SM K a (.type "BaseException")=some true)(q7:RV K (.ref a) "__class__"=some (some (.builtin "object.__class__")))(q8:Uc K (.builtin "object.__class__") "__get__"=some (some (.builtin "getset_descriptor.__get__")))(q9:W.takesIn K (.builtin "object.__class__")=some true)(C:SM K a (.type "object")=some true)(no:RV K (.ref a) "at"=some none)(kB:RM K (.ref a)=true)(sub:SM K a (.ref e)=some true)(nf:SM K a (.ref j)=some false)(sw:SM K a (.ref a)=some true):Ex K mg j D e a g c:=
  ⟨TX X G z,TX X G A,⟨TX X G M,TX X G N,⟨s1,s2,s3⟩,xH,xB,⟨q1,q2,q3,q4,q5,q6,q7,q8,q9,C⟩,no,kB,Z,sub,RQ X G z1,RQ X G z2⟩,⟨_,uO T U Y⟩,⟨xF,nf,sw⟩,⟨rt,E,od,kV,H,I,J,ct,L,Q,R,S,TX X G O⟩⟩
theorem oG(T:∅){O R S U Y c:V0}(E:Ex K mg O R S U Y c)(Z:dD K c C_tb)(x:K.In base)(hB:iW mg base){f:V0}{y:RN}(F:fD K "law" "law" qt f y):bc P w K mg base eE 237 f y ["_law_script"] (iE C_tb K):=by
 obtain⟨mF,mP,D,⟨di,I⟩,X,FC⟩:=E;cases T.x_BadForm.mgC.symm.trans mF;cases T.Program.mgC.symm.trans mP;have gi:=L_ (P:=P) (w:=w) (base:=base) (C_tb:=C_tb) (LP:=⟨261,29,261,79⟩) (LQ:=(("read_terms":U1)++".<locals>.")++"<lambda>") T;have m:=vA (P:=P) (w:=w) (base:=base) (C_tb:=C_tb) (LP:=⟨261,29,261,79⟩) (LQ:=(("read_terms":U1)++".<locals>.")++"<lambda>") T;have gt:=BH T m;have g:=vw T m;have n:=zp T g;have nm:=λ base=>M8 (P:=P) (w:=w) (base:=base) T;have o:=Ca T m gt (nm base);have ge:=Nd T m;have z:=MA T g o;have A:=MM T o z;have u:=Fz (P:=P) (w:=w) (base:=base) T;have rt:=(Ga T FC Z rfl rfl (λ base=>Mi T) nm 28 base x hB).1;have rl:=Gh (j:=5) T qS n g;have C:=LZ (P:=P) (w:=w) (base:=base) T;have i:=L8 T x A rl u z n rt (LO (B:=λ ω=>none) T C);have rh:=NK T o g n A u i (MT T C);have bo:=Nc (P:=P) (w:=w) (base:=base) (B:=λ ω=>none) T;have td:=BP (P:=P) (w:=w) (base:=base) T;have ts:=Gn (P:=P) (w:=w) (base:=base) T;have nb:=NT T bo td ts;have wd:=NL T D (K10.lP (P:=P) (w:=w) (base:=base) I D) (I.binds λ ω ω ω ω ω ω us hl=>match us,hl with|[_,_],_=>rfl);have rr:=MN T wd (MF T) gi g rh u n i ge (MQ T) nb;have G:=Lj (P:=P) (w:=w) (base:=base) T;have v:=L9 (P:=P) (w:=w) (base:=base) T;have e:=gJ (P:=P) (w:=w) (base:=base) T;have J:=LS (P:=P) (w:=w) (base:=base) T;have L:=KS T v (Lh T e) (LV T e J) (NB T e J);have M:=Nv T e;have lp:=Om T G v e M L (LJ T G v e M L);have sh:=L6 T (MD (P:=P) (w:=w) (base:=base) T) (ze T (LF T) 14);have gr:=Mn T (KF (P:=P) (w:=w) (base:=base) T 14);have N:=BR (P:=P) (w:=w) (base:=base) T;have pp:=Nm (B:=λ ω=>none) T N (Nk T (Oj T N));refine(Mq T lp sh gr (gI T D X rr pp) F).imp λ vs H Q E h=>?_;obtain⟨a,ns,rfl,h1,h2,h3,h4⟩:=h;exact⟨a,ns,rfl,h1,h2,.inl h3,h4⟩
end K16
end
end
section
namespace K16
open PySem L2
theorem Bh:∀P,(KB P).lookup 388=none:=λ ω=>by kernel_rfl
theorem Bi:∀P,L2.dD (KB P) 392 388:=λ ω=>⟨none,#[(.str "read_terms" 757),(.str "read_terms" 758),(.str "/claim/cut.py" 759),(.int (260) 0),(.int (2) 0),(.int (0) 0),(.int (0) 0),(.int (3) 0),(.ref 387),(.bool true),(.int (181) 0),(.ref 388),.none,(.ref 389),(.ref 390),(.ref 391),(.int (764) 0),(.int (260) 0),(.str "/claim/cut.py" 765)],#[],"/claim/cut.py",765,3,0,true,181,0,by kernel_rfl,rfl,rfl,rfl,rfl,rfl,rfl,qQ⟩
end K16
end
open PySem PySem.W PyProof.Rows
set_option maxRecDepth 100000 in
set_option maxHeartbeats 0 in
theorem PySem.Challenge.cw_elderhouse_k16_whole_few_brackets_holds : PySem.Challenge.rw_elderhouse_k16_whole_few_brackets.Holds := by
 w_on
 refine holds_law K16.G4 λ said=>?_
 refine holds_open (q:=K16.qv) (loose:=["TRUTHS","STRENGTHS"]) (Xt:=λ s=>xlAt K16.qv [] s&&recOk (RowW.records K16.rv) s) (XP:=XL K16.qv []) (Yf:=Hook.obs (kHook K16.KK K16.KA K16.dk)) (Ya:=Hook.val (kHook K16.KK K16.KA K16.dk)) (YP:=Hook.says (kHook K16.KK K16.KA K16.dk)) (N:=8220) K16.left (Hook.of (kHook K16.KK K16.KA K16.dk)) (Hook.keeps (kHook K16.KK K16.KA K16.dk)) (λ s e=>xl_of s (pQ.mp e).1) XL.keeps (by rfl) (by rfl) (by rfl) (λ s e=>recFacts_of (pQ.mp e).2) (by rfl) said qP ⟨rfl,rfl,rfl,rfl,rfl,qP⟩ ?hw ?hc
 case hw=>w_witness2
 refine L2.L3 (l:=rw0) (n:=63) (k:=237) (x:="_law_script") (c:=392) (T0:=388) (K:=K16.KB) (CX:=λ ω=>L2.eE) (sp:=λ w=>K16.iE 388 (K16.KB w.params)) rfl qQ rfl ⟨rfl,qQ,qQ,rfl⟩ (λ w h Y=>L2.K7 (W.kIn_of Y) (K16.Bh w.params)) (λ w=>K16.Bh w.params) (λ w=>K16.Bi w.params) ?F ?S (λ ω ω ω ω ω z=>z)
 case F=>
  intro w mg fa h KX G hmg
  k_fill
  have T:∃aa Ct Cw Ch Cp ae ah ak ag,K16.Txt (rw0.prog) w (L2.xf KX) mg aa Ct Cw Ch Cp ae ah ak ag:=by
   dsimp only[L2.xf]
   refine' ⟨_,_,_,_,_,_,_,_,_,K16.Txt.mk (RQ KX G ?x0) (RQ KX G ?x1) (RQ KX G ?x2) (RQ KX G ?x3) (RQ KX G ?x4) (RQ KX G ?x5) (RQ KX G ?x6) (RQ KX G ?x7) (RQ KX G ?x8) (RQ KX G ?x9) (RQ KX G ?x10) (RQ KX G ?x11) (RQ KX G ?x12) (RQ KX G ?x13) (L2.jD KX G ?x14) (L2.tq KX G ?x15) (L2.tq KX G ?x16) (L2.tq KX G ?x17) (L2.jD KX G ?x18) (L2.jD KX G ?x19) (L2.jD KX G ?x20) (L2.jD KX G ?x21) (L2.jD KX G ?x22) (L2.jD KX G ?x23) (L2.jD KX G ?x24) (L2.jD KX G ?x25) (L2.jD KX G ?x26) (L2.jD KX G ?x27) (L2.jD KX G ?x28) (L2.tq KX G ?x29) (L2.tq KX G ?x30) (L2.jD KX G ?x31) (L2.yU KX G ?x32) (L2.GK ?x33 ?x34 ?x35 ?x36 qQ ?x37) (L2.yU KX G ?x38) (L2.GK ?x39 ?x40 ?x41 ?x42 qQ ?x43) (L2.yU KX G ?x44) (L2.K_ ?x45 ?x46 ?x47 ?sz_TOLD_WORDS ?x48) (L2.cL KX G ?x49 ?x50 ?x51 ?x52) (L2.cL KX G ?x53 ?x54 ?x55 ?x56) (L2.cL KX G ?x57 ?x58 ?x59 ?x60) (L2.cL KX G ?x61 ?x62 ?x63 ?x64) (L2.cL KX G ?x65 ?x66 ?x67 ?x68) (L2.cL KX G ?x69 ?x70 ?x71 ?x72) (L2.cL KX G ?x73 ?x74 ?x75 ?x76) (L2.cL KX G ?x77 ?x78 ?x79 ?x80) (L2.cL KX G ?x81 ?x82 ?x83 ?x84) (L2.cL KX G ?x85 ?x86 ?x87 ?x88) (L2.cL KX G ?x89 ?x90 ?x91 ?x92) (L2.cL KX G ?x93 ?x94 ?x95 ?x96) (L2.cL KX G ?x97 ?x98 ?x99 ?x100) (L2.cL KX G ?x101 ?x102 ?x103 ?x104) (L2.cL KX G ?x105 ?x106 ?x107 ?x108) (L2.cL KX G ?x109 ?x110 ?x111 ?x112) (L2.cL KX G ?x113 ?x114 ?x115 ?x116) (L2.cL KX G ?x117 ?x118 ?x119 ?x120) (L2.cL KX G ?x121 ?x122 ?x123 ?x124) (L2.cL KX G ?x125 ?x126 ?x127 ?x128) (L2.cL KX G ?x129 ?x130 ?x131 ?x132) (L2.cL KX G ?x133 ?x134 ?x135 ?x136) (L2.cL KX G ?x137 ?x138 ?x139 ?x140) (L2.cL KX G ?x141 ?x142 ?x143 ?x144) (L2.cL KX G ?x145 ?x146 ?x147 ?x148) (L2.cL KX G ?x149 ?x150 ?x151 ?x152) (L2.cL KX G ?x153 ?x154 ?x155 ?x156) (L2.cL KX G ?x157 ?x158 ?x159 ?x160) (L2.cL KX G ?x161 ?x162 ?x163 ?x164) (L2.cL KX G ?x165 ?x166 ?x167 ?x168) (L2.cL KX G ?x169 ?x170 ?x171 ?x172) (L2.cL KX G ?x173 ?x174 ?x175 ?x176) (L2.cL KX G ?x177 ?x178 ?x179 ?x180) (L2.cL KX G ?x181 ?x182 ?x183 ?x184) (L2.cL KX G ?x185 ?x186 ?x187 ?x188) (L2.cL KX G ?x189 ?x190 ?x191 ?x192) (L2.cL KX G ?x193 ?x194 ?x195 ?x196) (L2.cL KX G ?x197 ?x198 ?x199 ?x200) (L2.cL KX G ?x201 ?x202 ?x203 ?x204) (L2.cL KX G ?x205 ?x206 ?x207 ?x208) (L2.cL KX G ?x209 ?x210 ?x211 ?x212) (L2.cL KX G ?x213 ?x214 ?x215 ?x216) (L2.cL KX G ?x217 ?x218 ?x219 ?x220) (L2.cL KX G ?x221 ?x222 ?x223 ?x224) (L2.cL KX G ?x225 ?x226 ?x227 ?x228) (L2.cL KX G ?x229 ?x230 ?x231 ?x232) (L2.cL KX G ?x233 ?x234 ?x235 ?x236) (L2.cL KX G ?x237 ?x238 ?x239 ?x240) (L2.sT KX G ?x241 ?pg_Guest ?hd_Guest ?po_Guest ?sa_Guest ?mk_Guest ?kp_Guest) (L2.gX ?x242) (L2.gX ?x243) (L2.sT KX G ?x244 ?pg_Term ?hd_Term ?po_Term ?sa_Term ?mk_Term ?kp_Term) (L2.gX ?x245) (L2.gX ?x246) (L2.gX ?x247) (L2.gX ?x248) (L2.gX ?x249) (L2.gX ?x250) (L2.sT KX G ?x251 ?pg_Word ?hd_Word ?po_Word ?sa_Word ?mk_Word ?kp_Word) (L2.gX ?x252) (L2.gX ?x253) (L2.gX ?x254) (L2.gX ?x255) (L2.sT KX G ?x256 ?pg_House ?hd_House ?po_House ?sa_House ?mk_House ?kp_House) (L2.gX ?x257) (L2.gX ?x258) (L2.gX ?x259) (L2.gX ?x260) (L2.sT KX G ?x261 ?pg_Program ?hd_Program ?po_Program ?sa_Program ?mk_Program ?kp_Program) (L2.gX ?x262) (L2.gX ?x263) (L2.IJ KX G ?x264 ?x265 ?kp_BadForm) (L2.gA ?x266 ?x267 ?x268 ?x269 ?x270) (L2.gA ?x271 ?x272 ?x273 ?x274 ?x275) (L2.gA ?x276 ?x277 ?x278 ?x279 ?x280) (L2.gA ?x281 ?x282 ?x283 ?x284 ?x285) (L2.gA ?x286 ?x287 ?x288 ?x289 ?x290) (L2.gA ?x291 ?x292 ?x293 ?x294 ?x295) (L2.gA ?x296 ?x297 ?x298 ?x299 ?x300) (L2.gA ?x301 ?x302 ?x303 ?x304 ?x305) (L2.gA ?x306 ?x307 ?x308 ?x309 ?x310) (L2.gA ?x311 ?x312 ?x313 ?x314 ?x315) (L2.gA ?x316 ?x317 ?x318 ?x319 ?x320) (L2.gA ?x321 ?x322 ?x323 ?x324 ?x325) (L2.gA ?x326 ?x327 ?x328 ?x329 ?x330) (L2.gA ?x331 ?x332 ?x333 ?x334 ?x335) (L2.gA ?x336 ?x337 ?x338 ?x339 ?x340) (L2.gA ?x341 ?x342 ?x343 ?x344 ?x345) (L2.gA ?x346 ?x347 ?x348 ?x349 ?x350) (L2.gA ?x351 ?x352 ?x353 ?x354 ?x355) (L2.gA ?x356 ?x357 ?x358 ?x359 ?x360) (L2.gA ?x361 ?x362 ?x363 ?x364 ?x365)⟩
   (case x0|x1|x2|x3|x4|x5|x6|x7|x8|x9|x10|x11|x12|x13|x14|x15|x16|x17|x18|x19|x20|x21|x22|x23|x24|x25|x26|x27|x28|x29|x30|x31|x32|x33=>k_is);(case x34=>exact⟨rfl,rfl,rfl⟩);(case x35=>exact rfl);(case x36=>exact .cons rfl rfl ⟨_,rfl⟩ (.cons rfl rfl ⟨_,rfl⟩ (.cons rfl rfl ⟨_,rfl⟩ (.cons rfl rfl ⟨_,rfl⟩ (.cons rfl rfl ⟨_,rfl⟩ (.cons rfl rfl ⟨_,rfl⟩ (.cons rfl rfl ⟨_,rfl⟩ (.nil))))))));(case x37=>exact rfl);(case x38|x39=>k_is);(case x40=>exact⟨rfl,rfl,rfl⟩);(case x41=>exact rfl);(case x42=>exact .cons rfl rfl rfl (.cons rfl rfl rfl (.nil)));(case x43=>exact rfl);(case x44|x45=>k_is);(case x46=>first|exact rfl|exact⟨rfl,rfl⟩);(case x47=>exact rfl);(case sz_TOLD_WORDS=>decide);(case x48=>exact .cons ⟨_,rfl⟩ (.cons ⟨_,rfl⟩ (.cons ⟨_,rfl⟩ (.cons ⟨_,rfl⟩ (.cons ⟨_,rfl⟩ (.cons ⟨_,rfl⟩ (.cons ⟨_,rfl⟩ (.cons ⟨_,rfl⟩ (.cons ⟨_,rfl⟩ (.cons ⟨_,rfl⟩ (.cons ⟨_,rfl⟩ (.cons ⟨_,rfl⟩ (.cons ⟨_,rfl⟩ (.cons ⟨_,rfl⟩ (.cons ⟨_,rfl⟩ (.cons ⟨_,rfl⟩ (.cons ⟨_,rfl⟩ (.cons ⟨_,rfl⟩ (.cons ⟨_,rfl⟩ (.nil))))))))))))))))))));(case x49|x50|x51|x52|x53|x54|x55|x56|x57|x58|x59|x60|x61|x62|x63|x64|x65|x66|x67|x68|x69|x70|x71|x72|x73|x74|x75|x76|x77|x78|x79|x80|x81|x82|x83|x84|x85|x86|x87|x88|x89|x90|x91|x92|x93|x94|x95|x96|x97|x98|x99|x100|x101|x102|x103|x104|x105|x106|x107|x108|x109|x110|x111|x112|x113|x114|x115|x116|x117|x118|x119|x120|x121|x122|x123|x124|x125|x126|x127|x128|x129|x130|x131|x132|x133|x134|x135|x136|x137|x138|x139|x140|x141|x142|x143|x144|x145|x146|x147|x148|x149|x150|x151|x152|x153|x154|x155|x156|x157|x158|x159|x160|x161|x162|x163|x164|x165|x166|x167|x168|x169|x170|x171|x172|x173|x174|x175|x176|x177|x178|x179|x180|x181|x182|x183|x184|x185|x186|x187|x188|x189|x190|x191|x192|x193|x194|x195|x196|x197|x198|x199|x200|x201|x202|x203|x204|x205|x206|x207|x208|x209|x210|x211|x212|x213|x214|x215|x216|x217|x218|x219|x220|x221|x222|x223|x224|x225|x226|x227|x228|x229|x230|x231|x232|x233|x234|x235|x236|x237|x238|x239|x240|x241|pg_Guest|hd_Guest|po_Guest|sa_Guest|mk_Guest|kp_Guest|x242|x243|x244|pg_Term|hd_Term|po_Term|sa_Term|mk_Term|kp_Term|x245|x246|x247|x248|x249|x250|x251|pg_Word|hd_Word|po_Word|sa_Word|mk_Word|kp_Word|x252|x253|x254|x255|x256|pg_House|hd_House|po_House|sa_House|mk_House|kp_House|x257|x258|x259|x260|x261|pg_Program|hd_Program|po_Program|sa_Program|mk_Program|kp_Program|x262|x263|x264=>k_is);(case x265=>kernel_rfl);(case kp_BadForm|x266|x267|x268|x269|x270|x271|x272|x273|x274|x275|x276|x277|x278|x279|x280|x281|x282|x283|x284|x285|x286|x287|x288|x289|x290|x291|x292|x293|x294|x295|x296|x297|x298|x299|x300|x301|x302|x303|x304|x305|x306|x307|x308|x309|x310|x311|x312|x313|x314|x315|x316|x317|x318|x319|x320|x321|x322|x323|x324|x325|x326|x327|x328|x329|x330|x331|x332|x333|x334|x335|x336|x337|x338|x339|x340|x341|x342|x343|x344|x345|x346|x347|x348|x349|x350|x351|x352|x353|x354|x355|x356|x357|x358|x359|x360|x361|x362|x363|x364|x365=>k_is)
  obtain⟨aa,Ct,Cw,Ch,Cp,ae,ah,ak,ag,T⟩:=T
  have E:∃aF aP Hc B' fi,K16.Ex (L2.xf KX) mg aF aP Hc B' fi 392:=by
   dsimp only[L2.xf]
   refine' ⟨_,_,_,_,_,K16.sH KX G ?aF0 ?aP0 ?aH ?aB ?aR ?lR ?cR ?kR ?fI ?lI ?cI ?kI ?iI ?z1 ?z2 ?s1 ?s2 ?s3 ?xH ?xB ?xF ?q1 ?q2 ?q3 ?q4 ?q5 ?q6 ?q7 ?q8 ?q9 ?q10 ?no ?kB ?sub ?nf ?sw⟩
   (case aF0|aP0|aH|aB|aR|lR|cR|kR|fI|lI|cI|kI|iI|z1|z2|s1|s2|s3=>k_is);(case xH=>kernel_rfl);(case xB=>kernel_rfl);(case xF=>kernel_rfl);(case q1=>k_is);(case q2=>kernel_rfl);(case q3|q4|q5|q6|q7|q8|q9|q10|no|kB|sub|nf|sw=>k_is)
  obtain⟨aF,aP,Hc,B',fi,E⟩:=E
  exact L2.MR T.f_law hmg (λ ω ω ω ω ω ω ω=>rfl) λ f fd base hK hB F=>K16.oG T E (K16.Bi _) hK hB F
 case S=>exact λ w H a ns hl ht hS=>K16.jn hl ht hS
