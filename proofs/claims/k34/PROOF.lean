import PyProof.Rows.All
import Wide.All
import OpenK.AllK
import Wide.FinOn
import Lean
import PySem.Challenge.RW_elderhouse_k34_words_put_otherwise
open PySem renaming wpAny_bind->Qf,wpAny_pure->Qh,sizeLine->Qj,sizeLine_eq->Qk,starEach->Ql,wpAny->Qm,model->Qn,mainGlobals->Qu,bootBuiltins->Qv,Stmt->Qw,eval->QA,wpAny_holding->QC,backTo->QF,wpAny_mono->QI,rawInt->QJ,wpAny_Call_Name_kw->QK,wpAny_standAt->QO,wpAny_newObj_type->QS,mem_of_lookup->QT,keywordEach->QU,codeAny_builtin->QV,plainId_quiet->QX,treeTable->Q3,standAt->Q4,wpAny_truthy_bool->Q5,foldedSetIterable->Q6,wpAny_loadPart_at->Q7,importedModules->Q8,wpAny_updateSeq->Q9,FuncData->Q_,compareOp->Rb,Scope->Rf,wpAny_passesOwn->Rk,letOwnedTupleGo->Rl,codeAny->Rm,codeAny_mono->Rn,wpAny_field->Ro,sysModules->Rp,binaryOp->Rt,wpAny_getItem_str_slice->Rv,OsState->RA,holding->RB,assignEach->RC,wpAny_call->RD,call_meets->RF,wpAny_execs_nil->RH,backToKw->RL,attributeBase->RM,wpAny_pyIter_list->RN,wpAny_tryCatch->RP,excClassObj->RQ,codeAny_call_builtin->RR,getMethod->RS,wpAny_typeOf->RU,wpAny_isSubtype_exc->RX,bindArgs->RY,getattributeRaised->R7,sliceBounds->R8,noteFrame->R_,wpAny_letGo->Sd,assign->Se,pyNext->Sf,plainObj_wpAny_Assign_Attribute->Sg,builtinsNs->Sj,swapsWith->Sk,typeLookup->So,callWith->Su,NameKind->Sv,wpAny_pyIter_revIter->Sy,wpAny_ite_split->SA,post_val_or_str->SD,getItem->SI,Arguments->SK,wpAny_evalAll_cons->SO,tupleKind_room_in1->SR,wpAny_seqItems->SS,wpAny_rule->SU,wpAny_setField->SW,wpAny_evalAll_nil->Ta,argBest->Tb,behindInMarks->Td,wpAny_attempt->Tf,wpAny_eqBool_int->Ti,tupleKind->Tj,cellsFrom->Tn,noFill_tuple_add->To,compTurn->Tp,compPost->Tq,IsPart->Tw,closureFor->Tz,Builtin->TC,ExcBaseFacts->TK,cLine->TL,GenState->TN,getAttr?->TU,callerA->TV,valueAt->TX,updateSeq->TY,Result->T4
open PySem.Heap renaming get?_push_of_some->Qg,lt_size->Qi,get?_push_size->Qo,get?_update_other->Qr,get?_update_self->Qy,size_push->QE,get?_update_ne->SF,SameBut->Tu
open PySem.Str renaming ofString->Qp,empty->Sl
open PySem.Value renaming ref->Qq,none->Qz,builtin->QY,type->Rg,int->Rj,bool->SN,str->Th
open PySem.PassesOwn renaming never->Qs
open PySem.PyData renaming keyHash->Qt,eqv->RG,eqvAll->Tg
open PyProof.Rows renaming callWith_type1->Qx,seqObj->QD,slot_tuple_getitem->QW,callWith_kw->R3,ksk_rest->Sh,envOfC->Sn,get?_update_seq->SE,AllBare->SG,listUpdate_at->Te,IsTup->T3
open PySem.Obj renaming mapSeq->QB,mapFields->R4
open PySem.W renaming mg_none_of->QG,findIn->QM,kitOne->QN,keepIn->QR,boot_heap->QZ,kia_one->Ru,emptyDict->Ry,fnOf->Rz,behindTheImports->R5,topFrame->R6,instObj->Si,nsIn->Sq,kla_obj->Sr,hasDictIn->Ss,methodCall_KW->Sz,callWith_K->SH,mg_of->SJ,codeIn->SQ,specialIn->SY,mroIn->S_,namesBound->Ts,kHook->Tt,plainGet->Tv,topRun->TQ,isFn->TR
open PySem.NameKind renaming free->QH,cell->QQ
open PySem.Around renaming under_plainId->QL
open PySem.Builtin.List renaming listTooLong->QP,listExtendWith->Ra
open PySem.F renaming plain_max_loop->Rc,plain_extend_loop->Rr,entry_max_loop->Tr
open PySem.Calls renaming spliced_cons->Rh,callWith_builtin->RE,spliced_nil->RO,evalArgs_plain->Sw
open PySem.Builtin.Slice renaming slicePlaces->Ri,sliceAdjust->RV
open PySem.Builtin.Tuple renaming tupleExact->Rq
open PySem.Builtin.Dict renaming updateFrom->Rx
open PySem.Heap.SameBut renaming update->RW
open PySem.W.RowW renaming records->SM
open PySem.Code renaming quiet_builtin->SV
open PySem.Paired renaming length->Tc
open PySem.Txt renaming slice_le->TH,slice->TZ
theorem T5{c:Prop}{h:Decidable c}(x:¬c){α:Sort _}{t e:α}:ite c t e=e:=if_neg x
theorem T6{c:Prop}{h:Decidable c}(x:c){α:Sort _}{t e:α}:ite c t e=t:=if_pos x
theorem T7{a b:Prop}(x:a)(y:¬a):b:=absurd x y
theorem T8{p:Prop}[h:Decidable p](x:¬p):decide p=false:=decide_eq_false x
theorem T9{p:Prop}[h:Decidable p](x:p):decide p=true:=decide_eq_true x
set_option Elab.async false
set_option linter.all false
set_option maxRecDepth 100000
set_option compiler.extract_closed false
set_option maxHeartbeats 4000000
open PySem.W renaming Frag→X0
open PySem renaming Addr→V0,Value→V1,Shared→M1,Str→V2,World→Y3,Heap→Z3,Around→V3
open PySem.Challenge renaming pw_elderhouse_k34_words_put_otherwise→pw0,rw_elderhouse_k34_words_put_otherwise→rw0
open List renaming length_map→aA,getElem?_eq_getElem→aV,getElem?_map→a_,length_append→bB,mem_cons→bH,getElem?_eq_some_iff→bG,size_toArray→bF,mem_map→bE,mem_of_getElem?→bN,range→bU,mem_singleton→cu,length_take→cJ,getD_eq_getElem?_getD→c6,replicate→c9,mem_cons_of_mem→dz,mem_append→dy,length_cons→dv,map_map→dH,mem_cons_self→dR,toArray→dQ,mem_append_right→dY,map_append→ew,map_cons→eP,mem_range→eV,length_range→eU,getElem?_of_mem→eS,lookup_cons→fe,append_nil→gD,length→gB,length_drop→gA,getElem_mem→gQ,getElem?_eq_none→ic,not_mem_nil→h_,lookup→iG,mem_map_of_mem→iF,append_assoc→iX,length_set→iW,take_of_length_le→iU,getElem?_range→jk,drop_eq_getElem_cons→jj,getElem?_append_right→jF,getElem?_append_left→jE,length_singleton→jD,reverse_cons→j7,getElem?_set_self→j6,flatten_cons→jY,mem_of_mem_take→jX,map→jW,drop_length→jV,length_reverse→kR,take_succ→lZ,nodup_cons→lX,replicate_succ→lW,take_succ_eq_append_getElem→lT,ext_getElem?→lS,findSome?_cons→lR,mem_append_left→nM,getElem?_set_ne→nL,length_replicate→nJ,find?_cons→nI,set_cons_zero→nG,drop_zero→nC,map_take→nz,mem_filter→pL,getElem?_replicate→pJ,any_cons→pI,map_nil→pH,length_nil→pD,length_eq_zero_iff→sf,take_append_drop→se,all_eq_true→r_,take_length→r6,length_pos_iff→rY,getLast?_concat→rX,mem_or_eq_of_mem_set→rW,nodup_range→rV,dropLast_concat→rT,drop_of_length_le→rR,map_set→rQ,getElem_map→rP,filterMap_cons→vO,getElem?_take_of_lt→vN,length_filter_le→vJ,filter_append→vI,contains_cons→vF,mem_of_mem_drop→vE,exists_of_findSome?_eq_some→vD,getElem?_eq_none_iff→vw
open Nat renaming le_refl→aS,zero_le→bJ,ne_of_lt→bY,le_trans→cb,lt_of_lt_of_le→cK,lt_irrefl→fu,mod_lt→fQ,lt_of_sub_eq_succ→fZ,ne_of_gt→gC,le_succ→ie,not_lt→iV,le_of_lt→jm,lt_succ_self→jl,le_of_eq→lY,succ_ne_self→lV,lt_succ_of_lt→lU,le_add_right→nF,not_lt_zero→nE,zero_add→nA,lt_of_le_of_lt→pG,lt_trans→pC,sub_zero→pA,le_succ_of_le→pz,min_eq_left→rZ,succ_le_succ→rS,sub_eq_zero_iff_le→vG
open Option renaming map_eq_some_iff→c_,bind_some→nO,map_some→pM
open Option.some renaming inj→dG
open Bool renaming false_ne_true→dI,and_eq_true→jZ,eq_iff_iff→nK,false_and→pK,false_eq_true→pF,true_and→pw,not_eq_false→pv,and_eq_true_iff→vC
open PySem.F renaming plainAttrs_list→eu,slot_list_append→fY,type_list_append→fX,slot_tuple_add→vM,entry_tuple_add→vL,args_tuple_add_2→vK,slot_dict_get→vH,plainAttrs_str→vA,slot_str_join→vz,type_str_join→vx
open Int renaming toNat_natCast→gf,natCast_add→gP,zero_add→pE,emod_lt_of_pos→vB
open Array renaming length_toList→j5,toList_push→pB,getElem?_eq_some_iff→px
open Nat.succ renaming inj→nB
open Classical renaming byContradiction→vv
local macro_rules | `(tactic| walk_at "r") => do let f : String -> Lean.MacroM (Array (Lean.TSyntax ``Lean.Parser.Tactic.simpLemma)) := λ s => (do let v <-(s.splitOn " ").toArray.filterM λ n => do { let r <-Lean.Macro.resolveGlobalName n.toName; return !r.isEmpty }; v.mapM λ n => `(Lean.Parser.Tactic.simpLemma| $(Lean.mkIdent n.toName):term)); let a <-f "Pt OM N_ Nm Nv OH OE P0 N6 N9 Oz NX Ou P1 Pz Oh PB Oo P5 P2 Pu PV Oj OJ Py Nw OG Nb Nz Ov NM Nl Og OI NO N4 Nk N8 Nr Oi OD PL PH NU ON Nu Oy Nt N7 OF N3 Od NQ NI Ni NR Nd NH NJ Oq OL Oa OP PD OO NS PX Ol NL Ow Oe OK Nq OC Om NG Nn NK PY PZ NW P_ Np Ox NZ PR N5 NY PM Oc Ot P4 PC Pw OA NV Ny OB List.getElem?_cons_zero List.getElem?_cons_succ List.set_cons_zero List.set_cons_succ Nat.reduceAdd Nat.reduceSub List.cons_append List.nil_append L2.iK List.map_cons List.map_nil List.length_cons List.length_nil List.replicate NT Px Of PF"; let b <-f "tPairs_n tPairs_c exists_eq_left' exists_eq_left exists_and_left exists_eq_right exists_eq_right' V.int.injEq V.str.injEq V.bl.injEq V.ref.injEq Option.some.injEq List.cons.injEq and_true true_and decide_eq_true_eq Bool.not_eq_true' decide_eq_false_iff_not reduceCtorEq Nc Nj NF ND Nh M8 NC Ng Nf NB Na M9 M_ NA List.append_nil Nat.zero_add Qb Qc PU P7 P6 cL eB exists_const if_true if_false ite_true ite_false Bool.false_eq_true decide_true decide_false Bool.not_true Bool.not_false Bool.true_eq_false MM yX nu FN or_true true_or and_self and_assoc sizeLine_eq Nat.reduceLeDiff Nat.reduceLT Nat.reducePow Nat.reduceMul Int.reducePow Int.reduceLE Int.reduceLT Int.reduceToNat Int.reduceAbs Int.reduceNeg Int.reduceAdd Int.reduceSub Int.reduceMul ne_eq not_false_eq_true not_true_eq_false Int.zero_add"; `(tactic| ((try dsimp only [$a,*]); (try simp (config := { maxSteps := 10000000 }) only [$a,*,$b,*])))
set_option hygiene false in
local macro_rules|`(s!$i)=>match i.raw[0].isInterpolatedStrLit? with|some "a"=>`(CS.mk Ct Cw Ch Cp Cl Cs Cq Ck B)|some "b"=>`((aj "deep" (.int (1+((bW ps:Nat):Int))) (aj "inner" (.ref c) (aj "label" (dS l) (aj "form" (.str f.s) [])))))|some "c"=>`(Qn X.prog X.w)|some "d"=>`((s2.heap.push {cls:=.type "list",dict:=none,data:=.seq ([]:List V1).toArray}))|some "e"=>`(⟨_,rfl,rfl,rfl,.inl rfl⟩)|some "f"=>`(({s with heap:=s.heap.push {cls:=.type "dict",data:=.dict #[]}}:M1))|some "g"=>`(.ListComp elt [⟨tg,iter,ifs,0⟩] scope pos)|some "h"=>`(s.heap.push {cls:=.type "list_iterator",data:=.fields #[.ref l,.int 0 0]})|some "i"=>`(aj "name" (.str d.name) [])|some "j"=>`((λ C fp s H=>(qH 0 (show(["_law_row"]:List V2).Nodup by decide+kernel))))|some "k"=>`(by with_unfolding_all rfl)|some "l"=>`(.ListComp elt [⟨tg,iter,[],0⟩] scope pos)|some "m"=>`((s!"d".push {cls:=.type "dict",data:=.dict #[]}).push {cls:=.type "cell",data:=.cell none})|some "n"=>`(by simp)|some "o"=>`(Qn prog w)|some "p"=>`((x==("__debug__":V2)))|_=>Lean.Macro.throwUnsupported
set_option hygiene false in
local macro_rules|`(tactic|walk_at $s:str)=>do let i:=fun(x:String)=>Lean.mkIdent x.toName;let g:=fun(o f c n:String)=>`(tactic|refine $(i o) $(i ("T."++f)) $(i c) (fun _ _ _ _ _ _ us hl=>$(i ("el"++n)) us hl (by intros;rfl)) (fun vs H Q E h=>by repeat(first|(cases h;subst_vars;rfl)|obtain⟨_,h⟩:=h)) fun f cdv A outer s H vs Q E hr h=>?_);match s.getString.splitOn " " with|["h",f,c,n]=>g "aO.of" f c n|["m",f,c,n]=>g "aT.of" f c n|["x",f,c,n]=>g "b_.of" f c n|["y",f,c,n]=>g "HasMX.of" f c n|["c"]=>`(tactic|exact⟨rfl,rfl,rfl,qP,rfl,qP,qP⟩)|["s",n,x]=>let k:=n.toNat!;let a:=((List.range (k-1)).flatMap fun j=>[i (s!"u{x}{k-1-j}"),i (s!"hu{x}{k-1-j}")]).toArray;`(tactic|(refine $(i ("seq"++n)) fun $a* =>?_;walk_at "r"))|["n",x]=>`(tactic|(subst $(i ("hu"++x));walk_at "r"))|_=>Lean.Macro.throwUnsupported
set_option hygiene false in
local macro_rules|`(∅)=>`(Txt K mg Cl Ct Cw Ch Cp Uh9)
theorem qP{p:Prop}(h:p:=by decide+kernel):p:=h
theorem qQ{p:Prop}(h:p:=by decide):p:=h
theorem qR{p:Prop}(h:p:=by lia):p:=h
theorem qS{p:Prop}(h:p:=by first|decide|lia):p:=h
section
namespace L2
open PySem
def eG(s:Qw)(j:Nat):Qw:=match s with
 | .ClassDef _ _ _ body _ _ _ _ _ _ _=>body.getD j (.Pass ⟨0,0,0,0⟩)
 |_=>.Pass ⟨0,0,0,0⟩
def fS(s:Qw):SK:=match s with
 | .FunctionDef _ a _ _ _ _ _ _ _ _=>a
 |_=>{posonlyargs:=[],args:=[],vararg:=none,kwonlyargs:=[],kw_defaults:=[],kwarg:=none,defaults:=[]}
def eJ(s:Qw):List Qw:=match s with
 | .FunctionDef _ _ b _ _ _ _ _ _ _=>b
 |_=>[]
def aR(s:Qw):Rf:=match s with
 | .FunctionDef _ _ _ _ _ _ sc _ _ _=>sc
 |_=>{kind:=.function,names:=[],isGenerator:=false,isCoroutine:=false}
end L2
namespace K34
open PySem L2
section
local macro_rules | `(tactic| walk_at $k:str) => do let s := "_wall __name__ elderhouse.errors HouseError ValueError BadWords __init__ BadForm BadName BadKind BadInput elderhouse.houses Hall houses elders younger fields place found head found_word elderhouse.kinds NO_HOUSES number truth is_house fits nearest elderhouse.checking kinds_of need_like_elders kinds_in body_kinds term_kinds bound_ahead own_kind need two_kind if_kind field_kind call_kind all_fit elderhouse.terms Term plain parts depth size shape_of Word House Program bodies pairs_of elderhouse.building program_of house_of word_of term_of all_within parts_of label_of law_elderhouse_k34_words_put_otherwise _law_drawn _law_name _law_order _law_elders_drawn _law_kind _law_fields _law_params _law_heads _law_rows _law_ups _law_all_fields _law_found _law_fit _law_near _law_all_fit _law_kinds _law_same _law_refused _law_other_head _law_put_otherwise _law_body _law_plain_by _law_due law"; let ns := (s.splitOn " ").toArray; let xs := (Array.range ns.size).map λ i => Lean.mkIdent (Lean.Name.mkSimple s!"x{i}"); let C <-ns.mapM λ n => do { let c : Array Lean.Term <-n.toList.toArray.mapM λ k => `(nat_lit $(Lean.Syntax.mkNumLit (toString k.toNat))); `(Str.mk (Array.mk [$c,*])) }; match k.getString with | "t1" => do { let r <-(ns.zip xs).mapM λ (n, x) => `(tactic| generalize Str.ofString $(Lean.Syntax.mkStrLit n) = $x); `(tactic| (($[$r]*); exact $(Lean.mkIdent `hR) $xs*)) } | "t2" => `(tactic| exact Subtype.val $(Lean.mkIdent `Fx) $C*) | "t3" => do { let E <-(ns.zip C).mapM λ (n, c) => do { let d : Array Lean.Term <-n.toList.toArray.mapM λ k => `(Char.ofNat (nat_lit $(Lean.Syntax.mkNumLit (toString k.toNat)))); `((W.Fast.ofString_ofList [$d,*] : Str.ofString $(Lean.Syntax.mkStrLit n) = $c)) }; let a <-E.toList.tail!.foldlM (λ a e => `(congr $a $e)) (<-`(congrArg (Subtype.val $(Lean.mkIdent `Fx)) $(E[0]!))); let L <-ns.mapM λ n => `(Str.ofString $(Lean.Syntax.mkStrLit n)); `(tactic| exact Eq.trans (b := Subtype.val $(Lean.mkIdent `Fx) $L*) rfl $a) } | _ => Lean.Macro.throwUnsupported
noncomputable def Fx:{F:V2->V2->V2->V2->V2->V2->V2->V2->V2->V2->V2->V2->V2->V2->V2->V2->V2->V2->V2->V2->V2->V2->V2->V2->V2->V2->V2->V2->V2->V2->V2->V2->V2->V2->V2->V2->V2->V2->V2->V2->V2->V2->V2->V2->V2->V2->V2->V2->V2->V2->V2->V2->V2->V2->V2->V2->V2->V2->V2->V2->V2->V2->V2->V2->V2->V2->V2->V2->V2->V2->V2->V2->V2->V2->V2->V2->V2->V2->V2->V2->V2->V2->V2->V2->V2->V2->V2->Program//∀R:Program->Prop,(∀x0 x1 x2 x3 x4 x5 x6 x7 x8 x9 x10 x11 x12 x13 x14 x15 x16 x17 x18 x19 x20 x21 x22 x23 x24 x25 x26 x27 x28 x29 x30 x31 x32 x33 x34 x35 x36 x37 x38 x39 x40 x41 x42 x43 x44 x45 x46 x47 x48 x49 x50 x51 x52 x53 x54 x55 x56 x57 x58 x59 x60 x61 x62 x63 x64 x65 x66 x67 x68 x69 x70 x71 x72 x73 x74 x75 x76 x77 x78 x79 x80 x81 x82 x83 x84 x85 x86:V2,R (F x0 x1 x2 x3 x4 x5 x6 x7 x8 x9 x10 x11 x12 x13 x14 x15 x16 x17 x18 x19 x20 x21 x22 x23 x24 x25 x26 x27 x28 x29 x30 x31 x32 x33 x34 x35 x36 x37 x38 x39 x40 x41 x42 x43 x44 x45 x46 x47 x48 x49 x50 x51 x52 x53 x54 x55 x56 x57 x58 x59 x60 x61 x62 x63 x64 x65 x66 x67 x68 x69 x70 x71 x72 x73 x74 x75 x76 x77 x78 x79 x80 x81 x82 x83 x84 x85 x86))->R pw0}:=by
 refine⟨?F,?h⟩
 case h=>
  intro R hR;delta pw0;walk_at "t1"
noncomputable def _root_.PySem.W.Fast.tw13364964061998724363:Program:=by
 walk_at "t2"
theorem _root_.PySem.W.Fast.te13364964061998724363:pw0=W.Fast.tw13364964061998724363:=by
 delta W.Fast.tw13364964061998724363;walk_at "t3"
end
def top(i:Nat):Qw:=pw0.main.body.getD i (.Pass ⟨0,0,0,0⟩)
abbrev tq:Qw:=top 12
abbrev sv:Qw:=top 13
abbrev tu:Qw:=top 16
abbrev uw:Qw:=top 17
abbrev sZ:Qw:=top 18
abbrev t6:Qw:=top 19
abbrev tX:Qw:=top 20
abbrev uD:Qw:=top 21
abbrev s_:Qw:=top 22
abbrev ve:Qw:=top 23
abbrev uc:Qw:=top 27
abbrev tP:Qw:=top 28
abbrev tD:Qw:=top 31
abbrev tJ:Qw:=top 35
abbrev tU:Qw:=top 37
abbrev tG:Qw:=top 38
abbrev tM:Qw:=top 39
abbrev tK:Qw:=top 40
abbrev tW:Qw:=top 41
abbrev tE:Qw:=top 42
abbrev tI:Qw:=top 43
abbrev uo:Qw:=top 45
abbrev uf:Qw:=top 46
abbrev m9:Qw:=top 47
abbrev uy:Qw:=top 48
abbrev ud:Qw:=top 49
abbrev ub:Qw:=top 50
abbrev uC:Qw:=top 51
abbrev tR:Qw:=top 52
abbrev ug:Qw:=top 53
abbrev tw:Qw:=top 54
abbrev t9:Qw:=top 56
abbrev tm:Qw:=top 57
abbrev t_:Qw:=top 60
abbrev uk:Qw:=top 61
abbrev uE:Qw:=top 62
abbrev uu:Qw:=top 63
abbrev m_:Qw:=top 64
abbrev uj:Qw:=top 65
abbrev uI:Qw:=top 66
abbrev tH:Qw:=top 67
abbrev oA:Qw:=top 68
abbrev uK:Qw:=eG (top 9) 0
abbrev uB:Qw:=eG (top 9) 2
abbrev yc:Qw:=eG (top 9) 4
abbrev xZ:Qw:=eG (top 9) 5
abbrev tY:Qw:=eG (top 9) 6
abbrev ue:Qw:=eG (top 9) 7
abbrev uv:Qw:=eG (top 9) 8
abbrev uG:Qw:=eG (top 30) 0
abbrev t7:Qw:=eG (top 30) 1
abbrev tZ:Qw:=eG (top 30) 2
abbrev tV:Qw:=eG (top 30) 3
abbrev uh:Qw:=eG (top 30) 4
abbrev uH:Qw:=eG (top 32) 0
abbrev um:Qw:=eG (top 32) 1
abbrev uq:Qw:=eG (top 33) 0
abbrev uz:Qw:=eG (top 33) 1
abbrev ux:Qw:=eG (top 34) 0
abbrev uJ:Qw:=eG (top 34) 1
noncomputable def rv:W.RowW:=W.OpenRow.toRowW (W.OpenLaw.row rw0)
noncomputable def qv:Program:={pw0 with main:={pw0.main with body:=[top 0,top 2,top 3,top 4,top 5,top 6,top 7,top 9,top 11,top 12,top 13,top 14,top 16,top 17,top 18,top 19,top 20,top 21,top 22,top 23,top 24,top 25,top 26,top 27,top 28,top 30,top 31,top 32,top 33,top 34,top 35,top 37,top 38,top 39,top 40,top 41,top 42,top 43,top 45,top 46,top 47,top 48,top 49,top 50,top 51,top 52,top 53,top 54,top 55,top 56,top 57,top 58,top 59,top 60,top 61,top 62,top 63,top 64,top 65,top 66,top 67,top 68]}}
abbrev ur:Qw:=top 55
abbrev ui:Qw:=top 58
abbrev uF:Qw:=top 59
abbrev DR:Qw:=top 0
abbrev BE:Qw:=eG (top 3) 0
abbrev BH:Qw:=eG (top 5) 0
abbrev BG:Qw:=eG (top 6) 0
abbrev iE:Qw:=eG (top 6) 0
abbrev BC:Qw:=eG (top 9) 1
abbrev BD:Qw:=eG (top 9) 3
abbrev Aq:Qw:=top 14
abbrev Bv:Qw:=top 24
abbrev Av:Qw:=top 25
abbrev Bw:Qw:=top 26
abbrev BF:Qw:=eG (top 34) 2
noncomputable def cO(x y:V2)(n:Nat)(l a b:Int)(r:Nat)(d:Nat):Obj:=⟨.type "code",none,.fields #[.str x n,.str y (n+1),.str "/claim/cut.py" (n+2),.int l 0,.int a 0,.int 0 0,.int 0 0,.int b 0,.ref r,.bool true,.int 181 0,.ref (r+1),.none,.ref (r+2),.ref (r+3),.ref (r+4),.int d 0,.int l 0,.str "/claim/cut.py" (d+1)],#[]⟩
noncomputable def fU(x y:V2)(s:Qw)(m:V2)(t c:Nat):Obj:=⟨.type "function",none,.func (Rz x y (L2.fS s) (L2.eJ s) (L2.aR s) .none .none .none (.str m t) none (.ref c) .none),#[]⟩
noncomputable def eT:Obj:=⟨.type "tuple",none,.seq #[] 0,#[]⟩
noncomputable def kE(P:PySem.Params)(x:V2)(t:Nat)(v:V1):DictEntry:=⟨Qt P x,.str x t,v⟩
noncomputable def fB(x:V2)(s:Qw)(c:Nat):Obj:=fU x x s "law_elderhouse_k34_words_put_otherwise" 840 c
noncomputable def i3(x y:V2)(s:Qw)(c:Nat):Obj:=fU x y s "elderhouse.terms" 580 c
noncomputable def zg(x:V2)(s:Qw)(c:Nat):Obj:=fU x x s "elderhouse.terms" 580 c
noncomputable def iH(x:V2)(s:Qw)(c:Nat):Obj:=fU x x s "elderhouse.checking" 451 c
noncomputable def kb(x y:V2)(s:Qw)(c:Nat):Obj:=fU x y s "elderhouse.houses" 321 c
noncomputable def mi(x:V2)(s:Qw)(c:Nat):Obj:=fU x x s "elderhouse.building" 783 c
noncomputable def v8(x y:V2)(s:Qw)(c:Nat):Obj:=fU x y s "elderhouse.errors" 194 c
noncomputable def v9(x:V2)(s:Qw)(c:Nat):Obj:=fU x x s "elderhouse.kinds" 420 c
noncomputable def tS:List V2->Nat->List V1
 |[],_=>[]
 |x::xs,n=>.str x n::tS xs (n+1)
noncomputable def tT(l:List V2)(n:Nat):Obj:=⟨.type "tuple",none,.seq (tS l n).toArray 0,#[]⟩
noncomputable def cQ(x:V2)(n:Nat)(l a:Int)(r d:Nat):Obj:=cO x x n l a 3 r d
noncomputable def cP(x y:V2)(n:Nat)(l a:Int)(r:Nat):Obj:=⟨.type "code",none,.fields #[.str x n,.str y (n+1),.str "/claim/cut.py" (n+2),.int l 0,.int a 0,.int 0 0,.int 0 0,.int 3 0,.ref r,.bool true,.int 181 0,.ref (r+1),.none,.none,.none,.ref (r+2),.int ((n+3:Nat):Int) 0,.int l 0,.str "/claim/cut.py" (n+4)],#[]⟩
noncomputable def KB(P:PySem.Params):X0:=
(nat_lit 2,Function.const (("a":V2)≠"b") (⟨.none,none,(.dict #[] 0),#[]⟩:Obj) qQ)::
(nat_lit 3,⟨.type "dict",none,.dict #[kE P "__name__" 165 (.str "law_elderhouse_k34_words_put_otherwise" 840),kE P "__doc__" 166 .none,kE P "__package__" 167 .none,kE P "__loader__" 168 (.builtin "__main__.__loader__#opaque"),kE P "__spec__" 169 .none,kE P "__annotations__" 170 (.ref 6),kE P "__builtins__" 171 (.ref 4),kE P "__file__" 173 (.str "/claim/cut.py" 172),kE P "__cached__" 174 .none,kE P "_wall" 193 (.ref 21),kE P "HouseError" 213 (.ref 31),kE P "BadWords" 238 (.ref 51),kE P "BadForm" 254 (.ref 63),kE P "BadName" 279 (.ref 82),kE P "BadKind" 304 (.ref 101),kE P "BadInput" 320 (.ref 113),kE P "Hall" 419 (.ref 182),kE P "NO_HOUSES" 424 (.ref 187),kE P "is_house" 431 (.ref 194),kE P "fits" 440 (.ref 201),kE P "nearest" 450 (.ref 208),kE P "kinds_of" 463 (.ref 215),kE P "need_like_elders" 475 (.ref 222),kE P "kinds_in" 481 (.ref 227),kE P "body_kinds" 491 (.ref 234),kE P "term_kinds" 505 (.ref 241),kE P "bound_ahead" 515 (.ref 248),kE P "own_kind" 526 (.ref 255),kE P "need" 534 (.ref 262),kE P "two_kind" 543 (.ref 269),kE P "if_kind" 552 (.ref 276),kE P "field_kind" 561 (.ref 283),kE P "call_kind" 573 (.ref 290),kE P "all_fit" 579 (.ref 295),kE P "Term" 641 (.ref 338),kE P "shape_of" 650 (.ref 349),kE P "Word" 692 (.ref 373),kE P "House" 733 (.ref 399),kE P "Program" 776 (.ref 430),kE P "pairs_of" 782 (.ref 439),kE P "program_of" 790 (.ref 444),kE P "house_of" 796 (.ref 449),kE P "word_of" 807 (.ref 456),kE P "term_of" 813 (.ref 461),kE P "all_within" 823 (.ref 468),kE P "parts_of" 831 (.ref 475),kE P "label_of" 839 (.ref 482),kE P "_law_drawn" 850 (.ref 489),kE P "_law_name" 856 (.ref 494),kE P "_law_order" 865 (.ref 501),kE P "_law_elders_drawn" 876 (.ref 508),kE P "_law_kind" 884 (.ref 515),kE P "_law_fields" 899 (.ref 522),kE P "_law_params" 905 (.ref 527),kE P "_law_heads" 920 (.ref 534),kE P "_law_rows" 926 (.ref 539),kE P "_law_ups" 932 (.ref 544),kE P "_law_all_fields" 943 (.ref 551),kE P "_law_found" 949 (.ref 556),kE P "_law_fit" 955 (.ref 561),kE P "_law_near" 961 (.ref 566),kE P "_law_all_fit" 967 (.ref 571),kE P "_law_kinds" 974 (.ref 578),kE P "_law_same" 980 (.ref 583),kE P "_law_refused" 990 (.ref 590),kE P "_law_other_head" 996 (.ref 595),kE P "_law_put_otherwise" 1002 (.ref 600),kE P "_law_body" 1008 (.ref 605),kE P "_law_plain_by" 1024 (.ref 612),kE P "_law_due" 1030 (.ref 617),kE P "law" 1036 (.ref 622)] 71,#[]⟩)::
(nat_lit 15,eT)::
(nat_lit 17,tT ["k"] 190)::
(nat_lit 18,eT)::
(nat_lit 20,cQ "_wall" 187 1 1 15 191)::
(nat_lit 21,fU "_wall" "_wall" DR "__main__" 164 20)::
(nat_lit 22,⟨.type "tuple",none,.seq #[(.type "ValueError")] 0,#[]⟩)::
(nat_lit 29,eT)::
(nat_lit 30,⟨(.type "dict"),none,(.dict #[kE P "__module__" 203 (.str "elderhouse.errors" 194),⟨Qt P "__firstlineno__",.str "__firstlineno__" 207,.int 5 206⟩,kE P "__static_attributes__" 208 (.ref 29),kE P "__weakref__" 210 (.ref 32),kE P "__doc__" 211 .none] 3),#[]⟩)::
(nat_lit 31,⟨(.type "type"),none,(.cls ⟨"HouseError",[(.type "ValueError")],[.ref 31,(.type "ValueError"),(.type "Exception"),(.type "BaseException"),(.type "object")],30,"HouseError",true,[],[.ref 51,.ref 63,.ref 82,.ref 101,.ref 113],false,none,false⟩),#[(some (.ref 22)),none,(some (.str "HouseError" 196)),(some (.str "HouseError" 204)),(some (.builtin "ValueError.__new__")),(some (.bool true))]⟩)::
(nat_lit 32,⟨.type "getset_descriptor",none,.fields #[.str "__weakref__" 209,.ref 31,.builtin "ExceptionGroup.__weakref__",.none],#[]⟩)::
(nat_lit 35,⟨.type "tuple",none,.seq #[.ref 31] 0,#[]⟩)::
(nat_lit 42,eT)::
(nat_lit 44,tT ["self","at"] 229)::
(nat_lit 45,eT)::
(nat_lit 47,cO "__init__" "BadWords.__init__" 226 9 2 3 42 231)::
(nat_lit 48,v8 "__init__" "BadWords.__init__" BE 47)::
(nat_lit 49,tT ["at"] 234)::
(nat_lit 50,⟨(.type "dict"),none,(.dict #[kE P "__module__" 221 (.str "elderhouse.errors" 194),⟨Qt P "__firstlineno__",.str "__firstlineno__" 225,.int 7 224⟩,kE P "__init__" 233 (.ref 48),kE P "__static_attributes__" 235 (.ref 49),kE P "__doc__" 236 .none] 2),#[]⟩)::
(nat_lit 51,⟨(.type "type"),none,(.cls ⟨"BadWords",[.ref 31],[.ref 51,.ref 31,(.type "ValueError"),(.type "Exception"),(.type "BaseException"),(.type "object")],50,"BadWords",true,[],[],false,none,false⟩),#[(some (.ref 35)),none,(some (.str "BadWords" 214)),(some (.str "BadWords" 222)),(some (.builtin "ValueError.__new__")),(some (.bool true))]⟩)::
(nat_lit 54,⟨.type "tuple",none,.seq #[.ref 31] 0,#[]⟩)::
(nat_lit 61,eT)::
(nat_lit 62,⟨(.type "dict"),none,(.dict #[kE P "__module__" 246 (.str "elderhouse.errors" 194),⟨Qt P "__firstlineno__",.str "__firstlineno__" 250,.int 12 249⟩,kE P "__static_attributes__" 251 (.ref 61),kE P "__doc__" 252 .none] 2),#[]⟩)::
(nat_lit 63,⟨(.type "type"),none,(.cls ⟨"BadForm",[.ref 31],[.ref 63,.ref 31,(.type "ValueError"),(.type "Exception"),(.type "BaseException"),(.type "object")],62,"BadForm",true,[],[],false,none,false⟩),#[(some (.ref 54)),none,(some (.str "BadForm" 239)),(some (.str "BadForm" 247)),(some (.builtin "ValueError.__new__")),(some (.bool true))]⟩)::
(nat_lit 66,⟨.type "tuple",none,.seq #[.ref 31] 0,#[]⟩)::
(nat_lit 73,eT)::
(nat_lit 75,tT ["self","word"] 270)::
(nat_lit 76,eT)::
(nat_lit 78,cO "__init__" "BadName.__init__" 267 16 2 3 73 272)::
(nat_lit 79,v8 "__init__" "BadName.__init__" BH 78)::
(nat_lit 80,tT ["word"] 275)::
(nat_lit 81,⟨(.type "dict"),none,(.dict #[kE P "__module__" 262 (.str "elderhouse.errors" 194),⟨Qt P "__firstlineno__",.str "__firstlineno__" 266,.int 14 265⟩,kE P "__init__" 274 (.ref 79),kE P "__static_attributes__" 276 (.ref 80),kE P "__doc__" 277 .none] 2),#[]⟩)::
(nat_lit 82,⟨(.type "type"),none,(.cls ⟨"BadName",[.ref 31],[.ref 82,.ref 31,(.type "ValueError"),(.type "Exception"),(.type "BaseException"),(.type "object")],81,"BadName",true,[],[],false,none,false⟩),#[(some (.ref 66)),none,(some (.str "BadName" 255)),(some (.str "BadName" 263)),(some (.builtin "ValueError.__new__")),(some (.bool true))]⟩)::
(nat_lit 85,⟨.type "tuple",none,.seq #[.ref 31] 0,#[]⟩)::
(nat_lit 92,eT)::
(nat_lit 94,tT ["self","word"] 295)::
(nat_lit 95,eT)::
(nat_lit 97,cO "__init__" "BadKind.__init__" 292 21 2 3 92 297)::
(nat_lit 98,v8 "__init__" "BadKind.__init__" BG 97)::
(nat_lit 99,tT ["word"] 300)::
(nat_lit 100,⟨(.type "dict"),none,(.dict #[kE P "__module__" 287 (.str "elderhouse.errors" 194),⟨Qt P "__firstlineno__",.str "__firstlineno__" 291,.int 19 290⟩,kE P "__init__" 299 (.ref 98),kE P "__static_attributes__" 301 (.ref 99),kE P "__doc__" 302 .none] 2),#[]⟩)::
(nat_lit 101,⟨(.type "type"),none,(.cls ⟨"BadKind",[.ref 31],[.ref 101,.ref 31,(.type "ValueError"),(.type "Exception"),(.type "BaseException"),(.type "object")],100,"BadKind",true,[],[],false,none,false⟩),#[(some (.ref 85)),none,(some (.str "BadKind" 280)),(some (.str "BadKind" 288)),(some (.builtin "ValueError.__new__")),(some (.bool true))]⟩)::
(nat_lit 104,⟨.type "tuple",none,.seq #[.ref 31] 0,#[]⟩)::
(nat_lit 111,eT)::
(nat_lit 112,⟨(.type "dict"),none,(.dict #[kE P "__module__" 312 (.str "elderhouse.errors" 194),⟨Qt P "__firstlineno__",.str "__firstlineno__" 316,.int 24 315⟩,kE P "__static_attributes__" 317 (.ref 111),kE P "__doc__" 318 .none] 2),#[]⟩)::
(nat_lit 113,⟨(.type "type"),none,(.cls ⟨"BadInput",[.ref 31],[.ref 113,.ref 31,(.type "ValueError"),(.type "Exception"),(.type "BaseException"),(.type "object")],112,"BadInput",true,[],[],false,none,false⟩),#[(some (.ref 104)),none,(some (.str "BadInput" 305)),(some (.str "BadInput" 313)),(some (.builtin "ValueError.__new__")),(some (.bool true))]⟩)::
(nat_lit 123,eT)::
(nat_lit 126,cP "__init__" "Hall.__init__" 335 29 2 123)::
(nat_lit 127,kb "__init__" "Hall.__init__" uK 126)::
(nat_lit 128,eT)::
(nat_lit 130,tT ["self"] 344)::
(nat_lit 131,eT)::
(nat_lit 133,cO "houses" "Hall.houses" 341 35 1 3 128 345)::
(nat_lit 134,kb "houses" "Hall.houses" BC 133)::
(nat_lit 135,eT)::
(nat_lit 137,tT ["self","house","nearest_first","one"] 351)::
(nat_lit 138,eT)::
(nat_lit 140,cO "elders" "Hall.elders" 348 38 2 3 135 355)::
(nat_lit 141,kb "elders" "Hall.elders" uB 140)::
(nat_lit 142,eT)::
(nat_lit 144,tT ["self","house"] 361)::
(nat_lit 145,eT)::
(nat_lit 147,cO "younger" "Hall.younger" 358 46 2 3 142 363)::
(nat_lit 148,kb "younger" "Hall.younger" BD 147)::
(nat_lit 149,eT)::
(nat_lit 151,tT ["self","house","all_fields","one"] 369)::
(nat_lit 152,eT)::
(nat_lit 154,cO "fields" "Hall.fields" 366 49 2 3 149 373)::
(nat_lit 155,kb "fields" "Hall.fields" yc 154)::
(nat_lit 156,eT)::
(nat_lit 159,cP "place" "Hall.place" 376 55 3 156)::
(nat_lit 160,kb "place" "Hall.place" xZ 159)::
(nat_lit 161,eT)::
(nat_lit 164,cP "found" "Hall.found" 382 61 3 161)::
(nat_lit 165,kb "found" "Hall.found" tY 164)::
(nat_lit 166,eT)::
(nat_lit 168,tT ["self","house","word","own"] 391)::
(nat_lit 169,eT)::
(nat_lit 171,cO "head" "Hall.head" 388 68 3 3 166 395)::
(nat_lit 172,kb "head" "Hall.head" ue 171)::
(nat_lit 173,eT)::
(nat_lit 175,tT ["self","house","word","where","name","number"] 401)::
(nat_lit 176,eT)::
(nat_lit 178,cO "found_word" "Hall.found_word" 398 74 3 3 173 407)::
(nat_lit 179,kb "found_word" "Hall.found_word" uv 178)::
(nat_lit 180,tT ["by_name","in_order"] 410)::
(nat_lit 181,⟨(.type "dict"),none,(.dict #[kE P "__module__" 330 (.str "elderhouse.houses" 321),⟨Qt P "__firstlineno__",.str "__firstlineno__" 334,.int 27 333⟩,kE P "__init__" 340 (.ref 127),kE P "houses" 347 (.ref 134),kE P "elders" 357 (.ref 141),kE P "younger" 365 (.ref 148),kE P "fields" 375 (.ref 155),kE P "place" 381 (.ref 160),kE P "found" 387 (.ref 165),kE P "head" 397 (.ref 172),kE P "found_word" 409 (.ref 179),kE P "__static_attributes__" 412 (.ref 180),kE P "__dict__" 414 (.ref 183),kE P "__weakref__" 416 (.ref 184),kE P "__doc__" 417 .none] 4),#[]⟩)::
(nat_lit 182,⟨(.type "type"),none,(.cls ⟨"Hall",[(.type "object")],[.ref 182,(.type "object")],181,"Hall",true,[],[],false,none,false⟩),#[none,none,(some (.str "Hall" 323)),(some (.str "Hall" 331)),(some (.builtin "object.__new__")),(some (.bool true))]⟩)::
(nat_lit 183,⟨.type "getset_descriptor",none,.fields #[.str "__dict__" 413,.ref 182,.builtin "function.__dict__",.builtin "function.__dict__#set"],#[]⟩)::
(nat_lit 184,⟨.type "getset_descriptor",none,.fields #[.str "__weakref__" 415,.ref 182,.builtin "ExceptionGroup.__weakref__",.none],#[]⟩)::
(nat_lit 187,tT ["number","truth"] 422)::
(nat_lit 188,eT)::
(nat_lit 190,tT ["kind"] 428)::
(nat_lit 191,eT)::
(nat_lit 193,cQ "is_house" 425 82 1 188 429)::
(nat_lit 194,v9 "is_house" tq 193)::
(nat_lit 195,eT)::
(nat_lit 197,tT ["hall","one","other"] 435)::
(nat_lit 198,eT)::
(nat_lit 200,cQ "fits" 432 84 3 195 438)::
(nat_lit 201,v9 "fits" sv 200)::
(nat_lit 202,eT)::
(nat_lit 204,tT ["hall","one","other","common"] 444)::
(nat_lit 205,eT)::
(nat_lit 207,cQ "nearest" 441 88 3 202 448)::
(nat_lit 208,v9 "nearest" Aq 207)::
(nat_lit 209,eT)::
(nat_lit 211,tT ["program","hall","told","house","word"] 456)::
(nat_lit 212,eT)::
(nat_lit 214,cQ "kinds_of" 453 98 1 209 461)::
(nat_lit 215,iH "kinds_of" tu 214)::
(nat_lit 216,eT)::
(nat_lit 218,tT ["hall","house","word","head","params","kind"] 467)::
(nat_lit 219,eT)::
(nat_lit 221,cQ "need_like_elders" 464 107 3 216 473)::
(nat_lit 222,iH "need_like_elders" uw 221)::
(nat_lit 223,eT)::
(nat_lit 226,cP "kinds_in" "kinds_in" 476 116 1 223)::
(nat_lit 227,iH "kinds_in" sZ 226)::
(nat_lit 228,eT)::
(nat_lit 230,tT ["hall","house","word","told"] 485)::
(nat_lit 231,eT)::
(nat_lit 233,cQ "body_kinds" 482 118 3 228 489)::
(nat_lit 234,iH "body_kinds" t6 233)::
(nat_lit 235,eT)::
(nat_lit 237,tT ["hall","house","term","bound","firsts","told","part","inner"] 495)::
(nat_lit 238,eT)::
(nat_lit 240,cQ "term_kinds" 492 123 4 235 503)::
(nat_lit 241,iH "term_kinds" tX 240)::
(nat_lit 242,eT)::
(nat_lit 244,tT ["term","firsts","bound","more"] 509)::
(nat_lit 245,eT)::
(nat_lit 247,cQ "bound_ahead" 506 131 3 242 513)::
(nat_lit 248,iH "bound_ahead" uD 247)::
(nat_lit 249,eT)::
(nat_lit 251,tT ["hall","house","term","bound","parts"] 519)::
(nat_lit 252,eT)::
(nat_lit 254,cQ "own_kind" 516 137 5 249 524)::
(nat_lit 255,iH "own_kind" s_ 254)::
(nat_lit 256,eT)::
(nat_lit 258,tT ["word","holds"] 530)::
(nat_lit 259,eT)::
(nat_lit 261,cQ "need" 527 164 2 256 532)::
(nat_lit 262,iH "need" ve 261)::
(nat_lit 263,eT)::
(nat_lit 265,tT ["sign","one","other"] 538)::
(nat_lit 266,eT)::
(nat_lit 268,cQ "two_kind" 535 167 3 263 541)::
(nat_lit 269,iH "two_kind" Bv 268)::
(nat_lit 270,eT)::
(nat_lit 272,tT ["hall","parts","common"] 547)::
(nat_lit 273,eT)::
(nat_lit 275,cQ "if_kind" 544 177 2 270 550)::
(nat_lit 276,iH "if_kind" Av 275)::
(nat_lit 277,eT)::
(nat_lit 279,tT ["hall","kind","field"] 556)::
(nat_lit 280,eT)::
(nat_lit 282,cQ "field_kind" 553 181 3 277 559)::
(nat_lit 283,iH "field_kind" Bw 282)::
(nat_lit 284,eT)::
(nat_lit 286,tT ["hall","kind","word","terms","params","told"] 565)::
(nat_lit 287,eT)::
(nat_lit 289,cQ "call_kind" 562 184 4 284 571)::
(nat_lit 290,iH "call_kind" uc 289)::
(nat_lit 291,eT)::
(nat_lit 294,cP "all_fit" "all_fit" 574 189 3 291)::
(nat_lit 295,iH "all_fit" tP 294)::
(nat_lit 303,eT)::
(nat_lit 306,cP "__init__" "Term.__init__" 594 197 4 303)::
(nat_lit 307,i3 "__init__" "Term.__init__" uG 306)::
(nat_lit 308,eT)::
(nat_lit 310,tT ["self"] 603)::
(nat_lit 311,eT)::
(nat_lit 313,cO "plain" "Term.plain" 600 205 1 3 308 604)::
(nat_lit 314,i3 "plain" "Term.plain" t7 313)::
(nat_lit 315,eT)::
(nat_lit 317,tT ["self"] 610)::
(nat_lit 318,eT)::
(nat_lit 320,cO "parts" "Term.parts" 607 208 1 3 315 611)::
(nat_lit 321,i3 "parts" "Term.parts" tZ 320)::
(nat_lit 322,eT)::
(nat_lit 324,tT ["self"] 617)::
(nat_lit 325,eT)::
(nat_lit 327,cO "depth" "Term.depth" 614 211 1 3 322 618)::
(nat_lit 328,i3 "depth" "Term.depth" tV 327)::
(nat_lit 329,eT)::
(nat_lit 331,tT ["self"] 624)::
(nat_lit 332,eT)::
(nat_lit 334,cO "size" "Term.size" 621 214 1 3 329 625)::
(nat_lit 335,i3 "size" "Term.size" uh 334)::
(nat_lit 336,tT ["deep","form","inner","label","many","shape"] 628)::
(nat_lit 337,⟨(.type "dict"),none,(.dict #[kE P "__module__" 589 (.str "elderhouse.terms" 580),⟨Qt P "__firstlineno__",.str "__firstlineno__" 593,.int 195 592⟩,kE P "__init__" 599 (.ref 307),kE P "plain" 606 (.ref 314),kE P "parts" 613 (.ref 321),kE P "depth" 620 (.ref 328),kE P "size" 627 (.ref 335),kE P "__static_attributes__" 634 (.ref 336),kE P "__dict__" 636 (.ref 339),kE P "__weakref__" 638 (.ref 340),kE P "__doc__" 639 .none] 4),#[]⟩)::
(nat_lit 338,⟨(.type "type"),none,(.cls ⟨"Term",[(.type "object")],[.ref 338,(.type "object")],337,"Term",true,[],[],false,none,false⟩),#[none,none,(some (.str "Term" 582)),(some (.str "Term" 590)),(some (.builtin "object.__new__")),(some (.bool true))]⟩)::
(nat_lit 339,⟨.type "getset_descriptor",none,.fields #[.str "__dict__" 635,.ref 338,.builtin "function.__dict__",.builtin "function.__dict__#set"],#[]⟩)::
(nat_lit 340,⟨.type "getset_descriptor",none,.fields #[.str "__weakref__" 637,.ref 338,.builtin "ExceptionGroup.__weakref__",.none],#[]⟩)::
(nat_lit 343,eT)::
(nat_lit 345,tT ["form","label","parts"] 645)::
(nat_lit 346,eT)::
(nat_lit 348,cQ "shape_of" 642 216 3 343 648)::
(nat_lit 349,zg "shape_of" tD 348)::
(nat_lit 357,eT)::
(nat_lit 359,tT ["self","name","params","kind","body"] 666)::
(nat_lit 360,eT)::
(nat_lit 362,cO "__init__" "Word.__init__" 663 228 5 3 357 671)::
(nat_lit 363,i3 "__init__" "Word.__init__" uH 362)::
(nat_lit 364,eT)::
(nat_lit 366,tT ["self"] 677)::
(nat_lit 367,eT)::
(nat_lit 369,cO "plain" "Word.plain" 674 234 1 3 364 678)::
(nat_lit 370,i3 "plain" "Word.plain" um 369)::
(nat_lit 371,tT ["body","kind","name","params"] 681)::
(nat_lit 372,⟨(.type "dict"),none,(.dict #[kE P "__module__" 658 (.str "elderhouse.terms" 580),⟨Qt P "__firstlineno__",.str "__firstlineno__" 662,.int 226 661⟩,kE P "__init__" 673 (.ref 363),kE P "plain" 680 (.ref 370),kE P "__static_attributes__" 685 (.ref 371),kE P "__dict__" 687 (.ref 374),kE P "__weakref__" 689 (.ref 375),kE P "__doc__" 690 .none] 4),#[]⟩)::
(nat_lit 373,⟨(.type "type"),none,(.cls ⟨"Word",[(.type "object")],[.ref 373,(.type "object")],372,"Word",true,[],[],false,none,false⟩),#[none,none,(some (.str "Word" 651)),(some (.str "Word" 659)),(some (.builtin "object.__new__")),(some (.bool true))]⟩)::
(nat_lit 374,⟨.type "getset_descriptor",none,.fields #[.str "__dict__" 686,.ref 373,.builtin "function.__dict__",.builtin "function.__dict__#set"],#[]⟩)::
(nat_lit 375,⟨.type "getset_descriptor",none,.fields #[.str "__weakref__" 688,.ref 373,.builtin "ExceptionGroup.__weakref__",.none],#[]⟩)::
(nat_lit 385,eT)::
(nat_lit 387,tT ["self","name","elder","own_fields","own_words"] 708)::
(nat_lit 388,eT)::
(nat_lit 390,cO "__init__" "House.__init__" 705 238 5 3 385 713)::
(nat_lit 391,i3 "__init__" "House.__init__" uq 390)::
(nat_lit 392,eT)::
(nat_lit 395,cP "plain" "House.plain" 716 244 1 392)::
(nat_lit 396,i3 "plain" "House.plain" uz 395)::
(nat_lit 397,tT ["elder","name","own_fields","own_words"] 722)::
(nat_lit 398,⟨(.type "dict"),none,(.dict #[kE P "__module__" 700 (.str "elderhouse.terms" 580),⟨Qt P "__firstlineno__",.str "__firstlineno__" 704,.int 236 703⟩,kE P "__init__" 715 (.ref 391),kE P "plain" 721 (.ref 396),kE P "__static_attributes__" 726 (.ref 397),kE P "__dict__" 728 (.ref 400),kE P "__weakref__" 730 (.ref 401),kE P "__doc__" 731 .none] 4),#[]⟩)::
(nat_lit 399,⟨(.type "type"),none,(.cls ⟨"House",[(.type "object")],[.ref 399,(.type "object")],398,"House",true,[],[],false,none,false⟩),#[none,none,(some (.str "House" 693)),(some (.str "House" 701)),(some (.builtin "object.__new__")),(some (.bool true))]⟩)::
(nat_lit 400,⟨.type "getset_descriptor",none,.fields #[.str "__dict__" 727,.ref 399,.builtin "function.__dict__",.builtin "function.__dict__#set"],#[]⟩)::
(nat_lit 401,⟨.type "getset_descriptor",none,.fields #[.str "__weakref__" 729,.ref 399,.builtin "ExceptionGroup.__weakref__",.none],#[]⟩)::
(nat_lit 411,eT)::
(nat_lit 413,tT ["self","all_houses","main"] 749)::
(nat_lit 414,eT)::
(nat_lit 416,cO "__init__" "Program.__init__" 746 249 3 3 411 752)::
(nat_lit 417,i3 "__init__" "Program.__init__" ux 416)::
(nat_lit 418,eT)::
(nat_lit 421,cP "plain" "Program.plain" 755 253 1 418)::
(nat_lit 422,i3 "plain" "Program.plain" uJ 421)::
(nat_lit 423,eT)::
(nat_lit 426,cP "bodies" "Program.bodies" 761 257 1 423)::
(nat_lit 427,i3 "bodies" "Program.bodies" BF 426)::
(nat_lit 428,tT ["all_houses","main"] 767)::
(nat_lit 429,⟨(.type "dict"),none,(.dict #[kE P "__module__" 741 (.str "elderhouse.terms" 580),⟨Qt P "__firstlineno__",.str "__firstlineno__" 745,.int 247 744⟩,kE P "__init__" 754 (.ref 417),kE P "plain" 760 (.ref 422),kE P "bodies" 766 (.ref 427),kE P "__static_attributes__" 769 (.ref 428),kE P "__dict__" 771 (.ref 431),kE P "__weakref__" 773 (.ref 432),kE P "__doc__" 774 .none] 4),#[]⟩)::
(nat_lit 430,⟨(.type "type"),none,(.cls ⟨"Program",[(.type "object")],[.ref 430,(.type "object")],429,"Program",true,[],[],false,none,false⟩),#[none,none,(some (.str "Program" 734)),(some (.str "Program" 742)),(some (.builtin "object.__new__")),(some (.bool true))]⟩)::
(nat_lit 431,⟨.type "getset_descriptor",none,.fields #[.str "__dict__" 770,.ref 430,.builtin "function.__dict__",.builtin "function.__dict__#set"],#[]⟩)::
(nat_lit 432,⟨.type "getset_descriptor",none,.fields #[.str "__weakref__" 772,.ref 430,.builtin "ExceptionGroup.__weakref__",.none],#[]⟩)::
(nat_lit 435,eT)::
(nat_lit 438,cP "pairs_of" "pairs_of" 777 263 1 435)::
(nat_lit 439,zg "pairs_of" tJ 438)::
(nat_lit 440,eT)::
(nat_lit 443,cP "program_of" "program_of" 785 266 1 440)::
(nat_lit 444,mi "program_of" tU 443)::
(nat_lit 445,eT)::
(nat_lit 448,cP "house_of" "house_of" 791 270 1 445)::
(nat_lit 449,mi "house_of" tG 448)::
(nat_lit 450,eT)::
(nat_lit 452,tT ["plain","name","params","kind","body"] 800)::
(nat_lit 453,eT)::
(nat_lit 455,cQ "word_of" 797 273 1 450 805)::
(nat_lit 456,mi "word_of" tM 455)::
(nat_lit 457,eT)::
(nat_lit 460,cP "term_of" "term_of" 808 276 1 457)::
(nat_lit 461,mi "term_of" tK 460)::
(nat_lit 462,eT)::
(nat_lit 464,tT ["plain","found","waiting","one"] 817)::
(nat_lit 465,eT)::
(nat_lit 467,cQ "all_within" 814 282 1 462 821)::
(nat_lit 468,mi "all_within" tW 467)::
(nat_lit 469,eT)::
(nat_lit 471,tT ["plain","form"] 827)::
(nat_lit 472,eT)::
(nat_lit 474,cQ "parts_of" 824 290 1 469 829)::
(nat_lit 475,mi "parts_of" tE 474)::
(nat_lit 476,eT)::
(nat_lit 478,tT ["plain","form"] 835)::
(nat_lit 479,eT)::
(nat_lit 481,cQ "label_of" 832 303 1 476 837)::
(nat_lit 482,mi "label_of" tI 481)::
(nat_lit 483,eT)::
(nat_lit 485,tT ["_law_script","_law_k","_law_cell"] 845)::
(nat_lit 486,eT)::
(nat_lit 488,cQ "_law_drawn" 842 311 2 483 848)::
(nat_lit 489,fB "_law_drawn" uo 488)::
(nat_lit 490,eT)::
(nat_lit 493,cP "_law_name" "_law_name" 851 316 2 490)::
(nat_lit 494,fB "_law_name" uf 493)::
(nat_lit 495,eT)::
(nat_lit 497,tT ["_law_script","_law_many"] 860)::
(nat_lit 498,tT ["_law_script"] 862)::
(nat_lit 500,cQ "_law_order" 857 336 2 495 863)::
(nat_lit 501,fB "_law_order" m9 500)::
(nat_lit 502,eT)::
(nat_lit 504,tT ["_law_script","_law_order_here","_law_found_here","_law_place","_law_number"] 869)::
(nat_lit 505,eT)::
(nat_lit 507,cQ "_law_elders_drawn" 866 338 2 502 874)::
(nat_lit 508,fB "_law_elders_drawn" uy 507)::
(nat_lit 509,eT)::
(nat_lit 511,tT ["_law_number","_law_names"] 880)::
(nat_lit 512,eT)::
(nat_lit 514,cQ "_law_kind" 877 347 2 509 882)::
(nat_lit 515,fB "_law_kind" ud 514)::
(nat_lit 516,eT)::
(nat_lit 518,tT ["_law_script","_law_j","_law_taken","_law_pool","_law_names","_law_number","_law_found_here","_law_k","_law_name_here"] 888)::
(nat_lit 519,eT)::
(nat_lit 521,cQ "_law_fields" 885 349 5 516 897)::
(nat_lit 522,fB "_law_fields" ub 521)::
(nat_lit 523,eT)::
(nat_lit 526,cP "_law_params" "_law_params" 900 357 3 523)::
(nat_lit 527,fB "_law_params" uC 526)::
(nat_lit 528,eT)::
(nat_lit 530,tT ["_law_script","_law_j","_law_pools","_law_names","_law_number","_law_found_here","_law_k","_law_more","_law_word"] 909)::
(nat_lit 531,eT)::
(nat_lit 533,cQ "_law_heads" 906 360 4 528 918)::
(nat_lit 534,fB "_law_heads" tR 533)::
(nat_lit 535,eT)::
(nat_lit 538,cP "_law_rows" "_law_rows" 921 368 1 535)::
(nat_lit 539,fB "_law_rows" ug 538)::
(nat_lit 540,eT)::
(nat_lit 543,cP "_law_ups" "_law_ups" 927 387 2 540)::
(nat_lit 544,fB "_law_ups" tw 543)::
(nat_lit 552,eT)::
(nat_lit 555,cP "_law_found" "_law_found" 944 401 3 552)::
(nat_lit 556,fB "_law_found" t9 555)::
(nat_lit 557,eT)::
(nat_lit 560,cP "_law_fit" "_law_fit" 950 408 3 557)::
(nat_lit 561,fB "_law_fit" tm 560)::
(nat_lit 572,eT)::
(nat_lit 574,tT ["_law_program"] 971)::
(nat_lit 575,eT)::
(nat_lit 577,cQ "_law_kinds" 968 419 1 572 972)::
(nat_lit 578,fB "_law_kinds" t_ 577)::
(nat_lit 579,eT)::
(nat_lit 582,cP "_law_same" "_law_same" 975 424 3 579)::
(nat_lit 583,fB "_law_same" uk 582)::
(nat_lit 584,eT)::
(nat_lit 586,tT ["_law_program","_law_due_here","e","_law_others"] 984)::
(nat_lit 587,eT)::
(nat_lit 589,cQ "_law_refused" 981 435 2 584 988)::
(nat_lit 590,fB "_law_refused" uE 589)::
(nat_lit 591,eT)::
(nat_lit 594,cP "_law_other_head" "_law_other_head" 991 444 6 591)::
(nat_lit 595,fB "_law_other_head" uu 594)::
(nat_lit 596,eT)::
(nat_lit 599,cP "_law_put_otherwise" "_law_put_otherwise" 997 462 3 596)::
(nat_lit 600,fB "_law_put_otherwise" m_ 599)::
(nat_lit 601,eT)::
(nat_lit 604,cP "_law_body" "_law_body" 1003 474 2 601)::
(nat_lit 605,fB "_law_body" uj 604)::
(nat_lit 606,eT)::
(nat_lit 608,tT ["_law_rows_here","_law_odd","_law_houses","_law_at","_law_name_here","_law_elder","_law_fields_here","_law_heads_here","_law_told","_law_head"] 1012)::
(nat_lit 609,eT)::
(nat_lit 611,cQ "_law_plain_by" 1009 483 2 606 1022)::
(nat_lit 612,fB "_law_plain_by" uI 611)::
(nat_lit 613,eT)::
(nat_lit 616,cP "_law_due" "_law_due" 1025 493 2 613)::
(nat_lit 617,fB "_law_due" tH 616)::
(nat_lit 618,eT)::
(nat_lit 621,cP "law" "law" 1031 508 1 618)::
(nat_lit 622,fB "law" oA 621)::[]
noncomputable def KK(P:PySem.Params):X0:=(nat_lit 496,⟨.none,none,.fields #[],#[]⟩)::(nat_lit 597,⟨.none,none,.fields #[],#[]⟩)::KB P
noncomputable def KA:List V0:=[496,597,2,3,15,17,18,20,21,22,29,30,31,32,35,42,44,45,47,48,49,50,51,54,61,62,63,66,73,75,76,78,79,80,81,82,85,92,94,95,97,98,99,100,101,104,111,112,113,123,126,127,128,130,131,133,134,135,137,138,140,141,142,144,145,147,148,149,151,152,154,155,156,159,160,161,164,165,166,168,169,171,172,173,175,176,178,179,180,181,182,183,184,187,188,190,191,193,194,195,197,198,200,201,202,204,205,207,208,209,211,212,214,215,216,218,219,221,222,223,226,227,228,230,231,233,234,235,237,238,240,241,242,244,245,247,248,249,251,252,254,255,256,258,259,261,262,263,265,266,268,269,270,272,273,275,276,277,279,280,282,283,284,286,287,289,290,291,294,295,303,306,307,308,310,311,313,314,315,317,318,320,321,322,324,325,327,328,329,331,332,334,335,336,337,338,339,340,343,345,346,348,349,357,359,360,362,363,364,366,367,369,370,371,372,373,374,375,385,387,388,390,391,392,395,396,397,398,399,400,401,411,413,414,416,417,418,421,422,423,426,427,428,429,430,431,432,435,438,439,440,443,444,445,448,449,450,452,453,455,456,457,460,461,462,464,465,467,468,469,471,472,474,475,476,478,479,481,482,483,485,486,488,489,490,493,494,495,497,498,500,501,502,504,505,507,508,509,511,512,514,515,516,518,519,521,522,523,526,527,528,530,531,533,534,535,538,539,540,543,544,552,555,556,557,560,561,572,574,575,577,578,579,582,583,584,586,587,589,590,591,594,595,596,599,600,601,604,605,606,608,609,611,612,613,616,617,618,621,622]
theorem cx:∀P,KA=(KK P).map (·.1):=λ ω=>by kernel_rfl
theorem Ia{p q:Program}{loose:List V2}{Xt:M1->Bool}{α:Type}{Yf:M1->α}{Ya:Y3->α}{N:Nat}{H₀:Params->Z3}{gs₀:Array TN}{d₀:Drawn}{k₀ m₀ M:Nat}{ann:Option V1}(op:∀w:Y3,(W.fencedOpening Q3 p w N).map (λ s=>(s.heap,s.gens,s.drawn,s.toks))=some (H₀ w.params,gs₀,d₀,k₀))(sz:∀w:Y3,((H₀ w.params).isNs Qu&&gs₀.size==0)=true/\(H₀ w.params).objs.size=m₀/\(H₀ w.params).nsMap Qu "__annotations__"=ann)(le:M<=N)(ex:∀(w:Y3)(os:RA),∃s,TQ Q3 p w m₀ ann M ⟨H₀ w.params,gs₀,d₀,k₀,os⟩ (W.topStub p)=some s/\(W.staticsOk (Q8 p.main.body) (H₀ w.params) s.heap&&Ts p s.heap&&W.gensDone s&&W.laidKept (H₀ w.params) s.heap)=true/\W.openSeen q loose (Q8 p.main.body) Xt true s=W.openGood q loose/\Yf s=Ya w):W.LeftO p q loose Xt Yf Ya N:=by
 intro w;obtain⟨⟨hh,gg,dr,tk,os⟩,e1,e2⟩:=c_.mp (op w);simp only[Prod.mk.injEq]at e2;obtain⟨a1,a2,a3,a4⟩:=e2;subst a1 a2 a3 a4;obtain⟨z1,z2,z3⟩:=sz w;obtain⟨s,hr,b1,b2,b3⟩:=ex w os;have hr:=W.topRun_mono (N-M) _ _ _ _ hr;rw[Nat.add_sub_of_le le]at hr;have ht:W.topFrom Q3 p w N ⟨H₀ w.params,gg,dr,tk,os⟩=some s:=by
  unfold W.topFrom;simp only[z1,z2,z3,hr,nO,b1]
 unfold W.openEnds;rw[e1,nO,ht,pM,b2,b3]
theorem zz:(pw0.main.body.isEmpty==false)=true:=by k_qdec
noncomputable def eN(p:Program):Env:={scope:=p.main.scope,locals:=mainNs,globals:=mainNs,cells:=[],code:=.ref 13,frame:=some 14}
noncomputable def cN(p:Program):Code:=.body (R5 p) (eN p)
def po:Pos:=⟨0,0,0,0⟩
def pf:Pos:=⟨508,0,529,87⟩
def an:Option V1:=some (.ref 6)
noncomputable def Y0(w:Y3)(os:RA):M1:=⟨QZ w.params,Array.mk [],W.boot_drawn,W.boot_toks,os⟩
noncomputable def Sa(p:Program)(w:Y3)(os:RA):M1:=match W.topGo Q3 p w 11 an 12 (Y0 w os) (W.topStub p)with
 |some (s,_)=>s
 |none=>Y0 w os
def vQ:List Obj->Nat->W.BT->W.BT
 |[],_,t=>t
 |o::l,n,t=>vQ l (n+1) (t.ins n o)
noncomputable def TB(p:Program)(w:Y3)(os:RA):W.SharedT:=⟨vQ (Sa p w os).heap.objs.toList 0 .nil,15,(Sa p w os).heap.life,(Sa p w os).gens,(Sa p w os).drawn,(Sa p w os).toks,os⟩
theorem r1(w:Y3)(os:RA):W.topGo Q3 pw0 w 11 an 12 (Y0 w os) (W.topStub pw0)=some (Sa pw0 w os,⟨denote Q3 (cN pw0),cN pw0,po,[R6 po]⟩):=by
 kernel_rfl
theorem r2(w:Y3)(os:RA):W.segRun Q3 pw0 w 11 an 1 1 (Sa pw0 w os) (W.blockOf (R5 pw0) (eN pw0) (cN pw0) po [R6 po])=some (.next,Sa pw0 w os,cN pw0,po):=by
 kernel_rfl
theorem r3(w:Y3)(os:RA):(TB pw0 w os).abs=Sa pw0 w os:=by
 kernel_rfl
noncomputable def e0:Obj:=⟨.none,none,.fields #[],#[]⟩
noncomputable def et:Obj:=⟨.type "tuple",none,.seq #[] 0,#[]⟩
noncomputable def ky(P:Params)(x:V2)(t:Nat)(v:V1):DictEntry:=⟨Qt P x,.str x t,v⟩
noncomputable def fz(x y:V2)(s:Qw):Obj:=⟨.none,none,.func {name:=x,qualname:=y,params:=L2.fS s,body:=.stmts (L2.eJ s),scope:=L2.aR s,globals:=0,closure:=[],defaults:=.none,kwdefaults:=.none},#[]⟩
noncomputable def bi(x:String)(v:V1):Obj:=⟨.type "builtin_function_or_method",none,.fields #[.builtin x,v],#[]⟩
noncomputable def fr(a b:Nat)(x:V2)(t:Nat):Obj:=⟨.type "frame",none,.plain,#[some (.ref a),some (.ref 3),some (.ref b),none,some (.str x t),none,some (.ref 0)]⟩
noncomputable def su(a:Nat):Obj:=⟨.type "super",none,.fields #[.ref a,.ref a,.ref a],#[]⟩
noncomputable def bo(P:Params)(i:Nat):Obj:=(QZ P).objs.toList.getD i e0
noncomputable def RZ(P:Params):List (V0×Obj):=[
(0,bo P 0),
(1,⟨(.type "dict"),none,(.dict #[ky P "builtins" 162 (.ref 4),ky P "__main__" 163 (.ref 5)] 2),#[]⟩),
(4,⟨(.type "module"),(some 0),.plain,#[]⟩),
(5,⟨(.type "module"),(some 3),.plain,#[]⟩),
(6,⟨(.type "dict"),none,(.dict #[] 0),#[]⟩),
(7,et),
(8,e0),
(9,⟨(.type "code"),none,(.fields #[.str "<module>" 176,.str "<module>" 177,.str "/claim/cut.py" 178,.int 1 0,.int 0 0,.int 0 0,.int 0 0,.int 0 0,.ref 7,.bool false,.int 175 0,.ref 8,.none,.none,.none,.none,.int 179 0,.int 1 0,.str "/claim/cut.py" 180]),#[]⟩),
(10,fr 9 3 "__main__" 164),
(11,et),
(12,⟨.none,none,(.fields #[.int 1 0,.int 0 0,.ref 20,.int 5 0,.int 0 0,.ref 27,.int 7 0,.int 0 0,.ref 40,.int 12 0,.int 0 0,.ref 59,.int 14 0,.int 0 0,.ref 71,.int 19 0,.int 0 0,.ref 90,.int 24 0,.int 0 0,.ref 109,.int 27 0,.int 0 0,.ref 121,.int 82 0,.int 0 0,.ref 193,.int 84 0,.int 0 0,.ref 200,.int 88 0,.int 0 0,.ref 207,.int 98 0,.int 0 0,.ref 214,.int 107 0,.int 0 0,.ref 221,.int 116 0,.int 0 0,.ref 226,.int 118 0,.int 0 0,.ref 233,.int 123 0,.int 0 0,.ref 240,.int 131 0,.int 0 0,.ref 247,.int 137 0,.int 0 0,.ref 254,.int 164 0,.int 0 0,.ref 261,.int 167 0,.int 0 0,.ref 268,.int 177 0,.int 0 0,.ref 275,.int 181 0,.int 0 0,.ref 282,.int 184 0,.int 0 0,.ref 289,.int 189 0,.int 0 0,.ref 294,.int 195 0,.int 0 0,.ref 301,.int 216 0,.int 0 0,.ref 348,.int 226 0,.int 0 0,.ref 355,.int 236 0,.int 0 0,.ref 383,.int 247 0,.int 0 0,.ref 409,.int 263 0,.int 0 0,.ref 438,.int 266 0,.int 0 0,.ref 443,.int 270 0,.int 0 0,.ref 448,.int 273 0,.int 0 0,.ref 455,.int 276 0,.int 0 0,.ref 460,.int 282 0,.int 0 0,.ref 467,.int 290 0,.int 0 0,.ref 474,.int 303 0,.int 0 0,.ref 481,.int 311 0,.int 0 0,.ref 488,.int 316 0,.int 0 0,.ref 493,.int 336 0,.int 0 0,.ref 500,.int 338 0,.int 0 0,.ref 507,.int 347 0,.int 0 0,.ref 514,.int 349 0,.int 0 0,.ref 521,.int 357 0,.int 0 0,.ref 526,.int 360 0,.int 0 0,.ref 533,.int 368 0,.int 0 0,.ref 538,.int 387 0,.int 0 0,.ref 543,.int 394 0,.int 0 0,.ref 550,.int 401 0,.int 0 0,.ref 555,.int 408 0,.int 0 0,.ref 560,.int 410 0,.int 0 0,.ref 565,.int 416 0,.int 0 0,.ref 570,.int 419 0,.int 0 0,.ref 577,.int 424 0,.int 0 0,.ref 582,.int 435 0,.int 0 0,.ref 589,.int 444 0,.int 0 0,.ref 594,.int 462 0,.int 0 0,.ref 599,.int 474 0,.int 0 0,.ref 604,.int 483 0,.int 0 0,.ref 611,.int 493 0,.int 0 0,.ref 616,.int 508 0,.int 0 0,.ref 621]),#[]⟩),
(13,⟨(.type "code"),none,(.fields #[.str "<module>" 182,.str "<module>" 183,.str "/claim/cut.py" 184,.int 1 0,.int 0 0,.int 0 0,.int 0 0,.int 0 0,.ref 11,.bool false,.int 181 0,.ref 12,.none,.none,.none,.none,.int 185 0,.int 1 0,.str "/claim/cut.py" 186]),#[]⟩),
(14,fr 13 3 "__main__" 164),
(16,e0),
(19,fz "_wall" "_wall" DR),
(23,bi "type.__prepare__" (.type "type")),
(24,⟨(.type "dict"),none,(.dict #[ky P "__module__" 203 (.str "elderhouse.errors" 194),ky P "__qualname__" 205 (.str "HouseError" 204),⟨Qt P "__firstlineno__",.str "__firstlineno__" 207,.int 5 206⟩,ky P "__static_attributes__" 208 (.ref 29)] 4),#[]⟩),
(25,et),
(26,e0),
(27,⟨(.type "code"),none,(.fields #[.str "HouseError" 198,.str "HouseError" 199,.str "/claim/cut.py" 200,.int 5 0,.int 0 0,.int 0 0,.int 0 0,.int 0 0,.ref 25,.bool false,.int 181 0,.ref 26,.none,.none,.none,.none,.int 201 0,.int 5 0,.str "/claim/cut.py" 202]),#[]⟩),
(28,fr 27 24 "elderhouse.errors" 194),
(33,su 31),
(34,bi "object.__init_subclass__" (.ref 31)),
(36,bi "type.__prepare__" (.type "type")),
(37,⟨(.type "dict"),none,(.dict #[ky P "__module__" 221 (.str "elderhouse.errors" 194),ky P "__qualname__" 223 (.str "BadWords" 222),⟨Qt P "__firstlineno__",.str "__firstlineno__" 225,.int 7 224⟩,ky P "__init__" 233 (.ref 48),ky P "__static_attributes__" 235 (.ref 49)] 5),#[]⟩),
(38,et),
(39,⟨.none,none,(.fields #[.int 9 0,.int 4 0,.ref 47]),#[]⟩),
(40,⟨(.type "code"),none,(.fields #[.str "BadWords" 216,.str "BadWords" 217,.str "/claim/cut.py" 218,.int 7 0,.int 0 0,.int 0 0,.int 0 0,.int 0 0,.ref 38,.bool false,.int 181 0,.ref 39,.none,.none,.none,.none,.int 219 0,.int 7 0,.str "/claim/cut.py" 220]),#[]⟩),
(41,fr 40 37 "elderhouse.errors" 194),
(43,e0),
(46,fz "__init__" "BadWords.__init__" BE),
(52,su 51),
(53,bi "object.__init_subclass__" (.ref 51)),
(55,bi "type.__prepare__" (.type "type")),
(56,⟨(.type "dict"),none,(.dict #[ky P "__module__" 246 (.str "elderhouse.errors" 194),ky P "__qualname__" 248 (.str "BadForm" 247),⟨Qt P "__firstlineno__",.str "__firstlineno__" 250,.int 12 249⟩,ky P "__static_attributes__" 251 (.ref 61)] 4),#[]⟩),
(57,et),
(58,e0),
(59,⟨(.type "code"),none,(.fields #[.str "BadForm" 241,.str "BadForm" 242,.str "/claim/cut.py" 243,.int 12 0,.int 0 0,.int 0 0,.int 0 0,.int 0 0,.ref 57,.bool false,.int 181 0,.ref 58,.none,.none,.none,.none,.int 244 0,.int 12 0,.str "/claim/cut.py" 245]),#[]⟩),
(60,fr 59 56 "elderhouse.errors" 194),
(64,su 63),
(65,bi "object.__init_subclass__" (.ref 63)),
(67,bi "type.__prepare__" (.type "type")),
(68,⟨(.type "dict"),none,(.dict #[ky P "__module__" 262 (.str "elderhouse.errors" 194),ky P "__qualname__" 264 (.str "BadName" 263),⟨Qt P "__firstlineno__",.str "__firstlineno__" 266,.int 14 265⟩,ky P "__init__" 274 (.ref 79),ky P "__static_attributes__" 276 (.ref 80)] 5),#[]⟩),
(69,et),
(70,⟨.none,none,(.fields #[.int 16 0,.int 4 0,.ref 78]),#[]⟩),
(71,⟨(.type "code"),none,(.fields #[.str "BadName" 257,.str "BadName" 258,.str "/claim/cut.py" 259,.int 14 0,.int 0 0,.int 0 0,.int 0 0,.int 0 0,.ref 69,.bool false,.int 181 0,.ref 70,.none,.none,.none,.none,.int 260 0,.int 14 0,.str "/claim/cut.py" 261]),#[]⟩),
(72,fr 71 68 "elderhouse.errors" 194),
(74,e0),
(77,fz "__init__" "BadName.__init__" BH),
(83,su 82),
(84,bi "object.__init_subclass__" (.ref 82)),
(86,bi "type.__prepare__" (.type "type")),
(87,⟨(.type "dict"),none,(.dict #[ky P "__module__" 287 (.str "elderhouse.errors" 194),ky P "__qualname__" 289 (.str "BadKind" 288),⟨Qt P "__firstlineno__",.str "__firstlineno__" 291,.int 19 290⟩,ky P "__init__" 299 (.ref 98),ky P "__static_attributes__" 301 (.ref 99)] 5),#[]⟩),
(88,et),
(89,⟨.none,none,(.fields #[.int 21 0,.int 4 0,.ref 97]),#[]⟩),
(90,⟨(.type "code"),none,(.fields #[.str "BadKind" 282,.str "BadKind" 283,.str "/claim/cut.py" 284,.int 19 0,.int 0 0,.int 0 0,.int 0 0,.int 0 0,.ref 88,.bool false,.int 181 0,.ref 89,.none,.none,.none,.none,.int 285 0,.int 19 0,.str "/claim/cut.py" 286]),#[]⟩),
(91,fr 90 87 "elderhouse.errors" 194),
(93,e0),
(96,fz "__init__" "BadKind.__init__" BG),
(102,su 101),
(103,bi "object.__init_subclass__" (.ref 101)),
(105,bi "type.__prepare__" (.type "type")),
(106,⟨(.type "dict"),none,(.dict #[ky P "__module__" 312 (.str "elderhouse.errors" 194),ky P "__qualname__" 314 (.str "BadInput" 313),⟨Qt P "__firstlineno__",.str "__firstlineno__" 316,.int 24 315⟩,ky P "__static_attributes__" 317 (.ref 111)] 4),#[]⟩),
(107,et),
(108,e0),
(109,⟨(.type "code"),none,(.fields #[.str "BadInput" 307,.str "BadInput" 308,.str "/claim/cut.py" 309,.int 24 0,.int 0 0,.int 0 0,.int 0 0,.int 0 0,.ref 107,.bool false,.int 181 0,.ref 108,.none,.none,.none,.none,.int 310 0,.int 24 0,.str "/claim/cut.py" 311]),#[]⟩),
(110,fr 109 106 "elderhouse.errors" 194),
(114,su 113),
(115,bi "object.__init_subclass__" (.ref 113)),
(116,et),
(117,bi "type.__prepare__" (.type "type")),
(118,⟨(.type "dict"),none,(.dict #[ky P "__module__" 330 (.str "elderhouse.houses" 321),ky P "__qualname__" 332 (.str "Hall" 331),⟨Qt P "__firstlineno__",.str "__firstlineno__" 334,.int 27 333⟩,ky P "__init__" 340 (.ref 127),ky P "houses" 347 (.ref 134),ky P "elders" 357 (.ref 141),ky P "younger" 365 (.ref 148),ky P "fields" 375 (.ref 155),ky P "place" 381 (.ref 160),ky P "found" 387 (.ref 165),ky P "head" 397 (.ref 172),ky P "found_word" 409 (.ref 179),ky P "__static_attributes__" 412 (.ref 180)] 13),#[]⟩),
(119,et),
(120,⟨.none,none,(.fields #[.int 29 0,.int 4 0,.ref 126,.int 35 0,.int 4 0,.ref 133,.int 38 0,.int 4 0,.ref 140,.int 46 0,.int 4 0,.ref 147,.int 49 0,.int 4 0,.ref 154,.int 55 0,.int 4 0,.ref 159,.int 61 0,.int 4 0,.ref 164,.int 68 0,.int 4 0,.ref 171,.int 74 0,.int 4 0,.ref 178]),#[]⟩),
(121,⟨(.type "code"),none,(.fields #[.str "Hall" 325,.str "Hall" 326,.str "/claim/cut.py" 327,.int 27 0,.int 0 0,.int 0 0,.int 0 0,.int 0 0,.ref 119,.bool false,.int 181 0,.ref 120,.none,.none,.none,.none,.int 328 0,.int 27 0,.str "/claim/cut.py" 329]),#[]⟩),
(122,fr 121 118 "elderhouse.houses" 321),
(124,e0),
(125,fz "__init__" "Hall.__init__" uK),
(129,e0),
(132,fz "houses" "Hall.houses" BC),
(136,e0),
(139,fz "elders" "Hall.elders" uB),
(143,e0),
(146,fz "younger" "Hall.younger" BD),
(150,e0),
(153,fz "fields" "Hall.fields" yc),
(157,e0),
(158,fz "place" "Hall.place" xZ),
(162,e0),
(163,fz "found" "Hall.found" tY),
(167,e0),
(170,fz "head" "Hall.head" ue),
(174,e0),
(177,fz "found_word" "Hall.found_word" uv),
(185,su 182),
(186,bi "object.__init_subclass__" (.ref 182)),
(189,e0),
(192,fz "is_house" "is_house" tq),
(196,e0),
(199,fz "fits" "fits" sv),
(203,e0),
(206,fz "nearest" "nearest" Aq),
(210,e0),
(213,fz "kinds_of" "kinds_of" tu),
(217,e0),
(220,fz "need_like_elders" "need_like_elders" uw),
(224,e0),
(225,fz "kinds_in" "kinds_in" sZ),
(229,e0),
(232,fz "body_kinds" "body_kinds" t6),
(236,e0),
(239,fz "term_kinds" "term_kinds" tX),
(243,e0),
(246,fz "bound_ahead" "bound_ahead" uD),
(250,e0),
(253,fz "own_kind" "own_kind" s_),
(257,e0),
(260,fz "need" "need" ve),
(264,e0),
(267,fz "two_kind" "two_kind" Bv),
(271,e0),
(274,fz "if_kind" "if_kind" Av),
(278,e0),
(281,fz "field_kind" "field_kind" Bw),
(285,e0),
(288,fz "call_kind" "call_kind" uc),
(292,e0),
(293,fz "all_fit" "all_fit" tP),
(296,et),
(297,bi "type.__prepare__" (.type "type")),
(298,⟨(.type "dict"),none,(.dict #[ky P "__module__" 589 (.str "elderhouse.terms" 580),ky P "__qualname__" 591 (.str "Term" 590),⟨Qt P "__firstlineno__",.str "__firstlineno__" 593,.int 195 592⟩,ky P "__init__" 599 (.ref 307),ky P "plain" 606 (.ref 314),ky P "parts" 613 (.ref 321),ky P "depth" 620 (.ref 328),ky P "size" 627 (.ref 335),ky P "__static_attributes__" 634 (.ref 336)] 9),#[]⟩),
(299,et),
(300,⟨.none,none,(.fields #[.int 197 0,.int 4 0,.ref 306,.int 205 0,.int 4 0,.ref 313,.int 208 0,.int 4 0,.ref 320,.int 211 0,.int 4 0,.ref 327,.int 214 0,.int 4 0,.ref 334]),#[]⟩),
(301,⟨(.type "code"),none,(.fields #[.str "Term" 584,.str "Term" 585,.str "/claim/cut.py" 586,.int 195 0,.int 0 0,.int 0 0,.int 0 0,.int 0 0,.ref 299,.bool false,.int 181 0,.ref 300,.none,.none,.none,.none,.int 587 0,.int 195 0,.str "/claim/cut.py" 588]),#[]⟩),
(302,fr 301 298 "elderhouse.terms" 580),
(304,e0),
(305,fz "__init__" "Term.__init__" uG),
(309,e0),
(312,fz "plain" "Term.plain" t7),
(316,e0),
(319,fz "parts" "Term.parts" tZ),
(323,e0),
(326,fz "depth" "Term.depth" tV),
(330,e0),
(333,fz "size" "Term.size" uh),
(341,su 338),
(342,bi "object.__init_subclass__" (.ref 338)),
(344,e0),
(347,fz "shape_of" "shape_of" tD),
(350,et),
(351,bi "type.__prepare__" (.type "type")),
(352,⟨(.type "dict"),none,(.dict #[ky P "__module__" 658 (.str "elderhouse.terms" 580),ky P "__qualname__" 660 (.str "Word" 659),⟨Qt P "__firstlineno__",.str "__firstlineno__" 662,.int 226 661⟩,ky P "__init__" 673 (.ref 363),ky P "plain" 680 (.ref 370),ky P "__static_attributes__" 685 (.ref 371)] 6),#[]⟩),
(353,et),
(354,⟨.none,none,(.fields #[.int 228 0,.int 4 0,.ref 362,.int 234 0,.int 4 0,.ref 369]),#[]⟩),
(355,⟨(.type "code"),none,(.fields #[.str "Word" 653,.str "Word" 654,.str "/claim/cut.py" 655,.int 226 0,.int 0 0,.int 0 0,.int 0 0,.int 0 0,.ref 353,.bool false,.int 181 0,.ref 354,.none,.none,.none,.none,.int 656 0,.int 226 0,.str "/claim/cut.py" 657]),#[]⟩),
(356,fr 355 352 "elderhouse.terms" 580),
(358,e0),
(361,fz "__init__" "Word.__init__" uH),
(365,e0),
(368,fz "plain" "Word.plain" um),
(376,su 373),
(377,bi "object.__init_subclass__" (.ref 373)),
(378,et),
(379,bi "type.__prepare__" (.type "type")),
(380,⟨(.type "dict"),none,(.dict #[ky P "__module__" 700 (.str "elderhouse.terms" 580),ky P "__qualname__" 702 (.str "House" 701),⟨Qt P "__firstlineno__",.str "__firstlineno__" 704,.int 236 703⟩,ky P "__init__" 715 (.ref 391),ky P "plain" 721 (.ref 396),ky P "__static_attributes__" 726 (.ref 397)] 6),#[]⟩),
(381,et),
(382,⟨.none,none,(.fields #[.int 238 0,.int 4 0,.ref 390,.int 244 0,.int 4 0,.ref 395]),#[]⟩),
(383,⟨(.type "code"),none,(.fields #[.str "House" 695,.str "House" 696,.str "/claim/cut.py" 697,.int 236 0,.int 0 0,.int 0 0,.int 0 0,.int 0 0,.ref 381,.bool false,.int 181 0,.ref 382,.none,.none,.none,.none,.int 698 0,.int 236 0,.str "/claim/cut.py" 699]),#[]⟩),
(384,fr 383 380 "elderhouse.terms" 580),
(386,e0),
(389,fz "__init__" "House.__init__" uq),
(393,e0),
(394,fz "plain" "House.plain" uz),
(402,su 399),
(403,bi "object.__init_subclass__" (.ref 399)),
(404,et),
(405,bi "type.__prepare__" (.type "type")),
(406,⟨(.type "dict"),none,(.dict #[ky P "__module__" 741 (.str "elderhouse.terms" 580),ky P "__qualname__" 743 (.str "Program" 742),⟨Qt P "__firstlineno__",.str "__firstlineno__" 745,.int 247 744⟩,ky P "__init__" 754 (.ref 417),ky P "plain" 760 (.ref 422),ky P "bodies" 766 (.ref 427),ky P "__static_attributes__" 769 (.ref 428)] 7),#[]⟩),
(407,et),
(408,⟨.none,none,(.fields #[.int 249 0,.int 4 0,.ref 416,.int 253 0,.int 4 0,.ref 421,.int 257 0,.int 4 0,.ref 426]),#[]⟩),
(409,⟨(.type "code"),none,(.fields #[.str "Program" 736,.str "Program" 737,.str "/claim/cut.py" 738,.int 247 0,.int 0 0,.int 0 0,.int 0 0,.int 0 0,.ref 407,.bool false,.int 181 0,.ref 408,.none,.none,.none,.none,.int 739 0,.int 247 0,.str "/claim/cut.py" 740]),#[]⟩),
(410,fr 409 406 "elderhouse.terms" 580),
(412,e0),
(415,fz "__init__" "Program.__init__" ux),
(419,e0),
(420,fz "plain" "Program.plain" uJ),
(424,e0),
(425,fz "bodies" "Program.bodies" BF),
(433,su 430),
(434,bi "object.__init_subclass__" (.ref 430)),
(436,e0),
(437,fz "pairs_of" "pairs_of" tJ),
(441,e0),
(442,fz "program_of" "program_of" tU),
(446,e0),
(447,fz "house_of" "house_of" tG),
(451,e0),
(454,fz "word_of" "word_of" tM),
(458,e0),
(459,fz "term_of" "term_of" tK),
(463,e0),
(466,fz "all_within" "all_within" tW),
(470,e0),
(473,fz "parts_of" "parts_of" tE),
(477,e0),
(480,fz "label_of" "label_of" tI),
(484,e0),
(487,fz "_law_drawn" "_law_drawn" uo),
(491,e0),
(492,fz "_law_name" "_law_name" uf),
(496,e0),
(499,fz "_law_order" "_law_order" m9),
(503,e0),
(506,fz "_law_elders_drawn" "_law_elders_drawn" uy),
(510,e0),
(513,fz "_law_kind" "_law_kind" ud),
(517,e0),
(520,fz "_law_fields" "_law_fields" ub),
(524,e0),
(525,fz "_law_params" "_law_params" uC),
(529,e0),
(532,fz "_law_heads" "_law_heads" tR),
(536,e0),
(537,fz "_law_rows" "_law_rows" ug),
(541,e0),
(542,fz "_law_ups" "_law_ups" tw),
(545,et),
(546,e0),
(547,⟨(.type "tuple"),none,(.seq #[.str "_law_rows_here" 936,.str "_law_name_here" 937,.str "_law_found_here" 938,.str "_law_one" 939,.str "_law_row" 940] 0),#[]⟩),
(548,et),
(549,fz "_law_all_fields" "_law_all_fields" ur),
(550,⟨(.type "code"),none,(.fields #[.str "_law_all_fields" 933,.str "_law_all_fields" 934,.str "/claim/cut.py" 935,.int 394 0,.int 2 0,.int 0 0,.int 0 0,.int 3 0,.ref 545,.bool true,.int 181 0,.ref 546,.none,.ref 547,.ref 548,.ref 549,.int 941 0,.int 394 0,.str "/claim/cut.py" 942]),#[]⟩),
(551,⟨(.type "function"),none,(.func (Rz "_law_all_fields" "_law_all_fields" (L2.fS ur) (L2.eJ ur) (L2.aR ur) .none .none .none (.str "law_elderhouse_k34_words_put_otherwise" 840) none (.ref 550) .none)),#[]⟩),
(553,e0),
(554,fz "_law_found" "_law_found" t9),
(558,e0),
(559,fz "_law_fit" "_law_fit" tm),
(562,et),
(563,e0),
(564,fz "_law_near" "_law_near" ui),
(565,⟨(.type "code"),none,(.fields #[.str "_law_near" 956,.str "_law_near" 957,.str "/claim/cut.py" 958,.int 410 0,.int 3 0,.int 0 0,.int 0 0,.int 3 0,.ref 562,.bool true,.int 181 0,.ref 563,.none,.none,.none,.ref 564,.int 959 0,.int 410 0,.str "/claim/cut.py" 960]),#[]⟩),
(566,⟨(.type "function"),none,(.func (Rz "_law_near" "_law_near" (L2.fS ui) (L2.eJ ui) (L2.aR ui) .none .none .none (.str "law_elderhouse_k34_words_put_otherwise" 840) none (.ref 565) .none)),#[]⟩),
(567,et),
(568,e0),
(569,fz "_law_all_fit" "_law_all_fit" uF),
(570,⟨(.type "code"),none,(.fields #[.str "_law_all_fit" 962,.str "_law_all_fit" 963,.str "/claim/cut.py" 964,.int 416 0,.int 3 0,.int 0 0,.int 0 0,.int 3 0,.ref 567,.bool true,.int 181 0,.ref 568,.none,.none,.none,.ref 569,.int 965 0,.int 416 0,.str "/claim/cut.py" 966]),#[]⟩),
(571,⟨(.type "function"),none,(.func (Rz "_law_all_fit" "_law_all_fit" (L2.fS uF) (L2.eJ uF) (L2.aR uF) .none .none .none (.str "law_elderhouse_k34_words_put_otherwise" 840) none (.ref 570) .none)),#[]⟩),
(573,e0),
(576,fz "_law_kinds" "_law_kinds" t_),
(580,e0),
(581,fz "_law_same" "_law_same" uk),
(585,e0),
(588,fz "_law_refused" "_law_refused" uE),
(592,e0),
(593,fz "_law_other_head" "_law_other_head" uu),
(597,e0),
(598,fz "_law_put_otherwise" "_law_put_otherwise" m_),
(602,e0),
(603,fz "_law_body" "_law_body" uj),
(607,e0),
(610,fz "_law_plain_by" "_law_plain_by" uI),
(614,e0),
(615,fz "_law_due" "_law_due" tH),
(619,e0),
(620,fz "law" "law" oA)]
def pP:Nat->List (V0×Obj)->List (V0×Obj)->List Obj
 |0,_,_=>[]
 |n+1,(a,x)::l,(b,y)::r=>match Nat.blt a b with
  |true=>x::pP n l ((b,y)::r)
  |false=>y::pP n ((a,x)::l) r
 |n+1,[],(_,y)::r=>y::pP n [] r
 |n+1,(_,x)::l,[]=>x::pP n l []
 |_+1,[],[]=>[]
noncomputable def TF(p:Program)(w:Y3)(os:RA):W.SharedT:=⟨vQ (pP 623 (RZ w.params) (KB w.params)) 0 .nil,623,(Sa p w os).heap.life,Array.mk [],W.boot_drawn,1037,os⟩
theorem b0(w:Y3)(os:RA):W.segRunT Q3 pw0 w 11 an 1 4526 (TB pw0 w os) (W.piecesOf (R5 pw0) (eN pw0) (cN pw0) po [R6 po])=some (.next,(TF pw0 w os),cN pw0,pf):=by
 unfold TF TB Sa;rw[W.Fast.te10110043849684766642,W.Fast.te15667345088766844465,W.Fast.te13364964061998724363];kernel_rfl
theorem b1(w:Y3)(os:RA):(TQ Q3 pw0 w 11 an 2 (TF pw0 w os).abs (W.restOf [] (eN pw0) (cN pw0) pf [R6 po])).map (λ s=>(W.staticsOk (Q8 pw0.main.body) (QZ w.params) s.heap&&Ts pw0 s.heap&&W.gensDone s&&W.laidKept (QZ w.params) s.heap))=some true:=by
 kernel_rfl
theorem b2(w:Y3)(os:RA):(TQ Q3 pw0 w 11 an 2 (TF pw0 w os).abs (W.restOf [] (eN pw0) (cN pw0) pf [R6 po])).map (λ s=>W.openSeen qv [] (Q8 pw0.main.body) (λ s=>W.xlAt qv [] s&&W.recOk (SM rv) s) true s)=some (W.openGood qv []):=by
 kernel_rfl
theorem b3(w:Y3)(os:RA):(TQ Q3 pw0 w 11 an 2 (TF pw0 w os).abs (W.restOf [] (eN pw0) (cN pw0) pf [R6 po])).map (λ s=>W.Hook.obs (Tt KK KA cx) s)=some (W.Hook.val (Tt KK KA cx) w):=by
 kernel_rfl
theorem b4(w:Y3)(os:RA):∃T s,W.segRunT Q3 pw0 w 11 an 1 4526 (TB pw0 w os) (W.piecesOf (R5 pw0) (eN pw0) (cN pw0) po [R6 po])=some (.next,T,cN pw0,pf)/\TQ Q3 pw0 w 11 an 2 T.abs (W.restOf [] (eN pw0) (cN pw0) pf [R6 po])=some s/\(W.staticsOk (Q8 pw0.main.body) (QZ w.params) s.heap&&Ts pw0 s.heap&&W.gensDone s&&W.laidKept (QZ w.params) s.heap)=true/\W.openSeen qv [] (Q8 pw0.main.body) (λ s=>W.xlAt qv [] s&&W.recOk (SM rv) s) true s=W.openGood qv []/\W.Hook.obs (Tt KK KA cx) s=W.Hook.val (Tt KK KA cx) w:=by
 obtain⟨s,hs,y1⟩:=c_.mp (b1 w os);obtain⟨s2,cT,y2⟩:=c_.mp (b2 w os);obtain⟨s3,hs3,y3⟩:=c_.mp (b3 w os);cases dG (hs.symm.trans cT);cases dG (hs.symm.trans hs3);exact⟨TF pw0 w os,s,b0 w os,hs,y1,y2,y3⟩
theorem r7(w:Y3)(os:RA):∃s,TQ Q3 pw0 w 11 an (12+(1+(4526+2))) (Y0 w os) (W.topStub pw0)=some s/\(W.staticsOk (Q8 pw0.main.body) (QZ w.params) s.heap&&Ts pw0 s.heap&&W.gensDone s&&W.laidKept (QZ w.params) s.heap)=true/\W.openSeen qv [] (Q8 pw0.main.body) (λ s=>W.xlAt qv [] s&&W.recOk (SM rv) s) true s=W.openGood qv []/\W.Hook.obs (Tt KK KA cx) s=W.Hook.val (Tt KK KA cx) w:=by
 obtain⟨T,s,h1,h2,h3,h4,h5⟩:=b4 w os;refine⟨s,W.go_top (r1 w os) (W.piece_block (r2 w os) ?_),h3,h4,h5⟩;have h6:=W.segRun_of h1;rw[r3]at h6;have h7:=W.piece_app (rest:=[]) h6 h2;rw[gD]at h7;exact h7
theorem r8:∀w:Y3,((QZ w.params).isNs Qu&&(Array.mk ([]:List TN)).size==0)=true/\(QZ w.params).objs.size=11/\(QZ w.params).nsMap Qu "__annotations__"=an:=by
 intro w;exact⟨by kernel_rfl,by kernel_rfl,by kernel_rfl⟩
theorem r9:∀w:Y3,(W.fencedOpening Q3 pw0 w 9176).map (λ s=>(s.heap,s.gens,s.drawn,s.toks))=some (QZ w.params,Array.mk [],W.boot_drawn,W.boot_toks):=W.boot_open rfl rfl λ s=>rfl
theorem left:W.LeftO pw0 qv [] (λ s=>W.xlAt qv [] s&&W.recOk (SM rv) s) (W.Hook.obs (Tt KK KA cx)) (W.Hook.val (Tt KK KA cx)) 9176:=Ia r9 r8 qQ r7
theorem EK:rw0.wellSaid=true:=by
 kernel_rfl
end K34
end
section
namespace P15
open PySem
inductive Lb|non|int(i:Int)|bl(b:Bool)|str(x:V2)
noncomputable def Lb.d:Lb->PyData
 | .non=>.none| .int i=>.int i| .bl b=>.bool b| .str x=>.str x
inductive Fm|number|truth|name|self|nt|iff|two|lt|new|elder|call|field|set
noncomputable def Fm.s:Fm->V2
 | .number=>"number"| .truth=>"truth"| .name=>"name"| .self=>"self"| .nt=>"not"| .iff=>"if"| .two=>"two"| .lt=>"let"| .new=>"new"| .elder=>"elder"| .call=>"call"| .field=>"field"| .set=>"set"
inductive Tm|mk(f:Fm)(l:Lb)(ps:List Tm)
noncomputable def Tm.f:Tm->Fm| .mk f _ _=>f
noncomputable def Tm.l:Tm->Lb| .mk _ l _=>l
noncomputable def Tm.ps:Tm->List Tm| .mk _ _ ps=>ps
noncomputable def gu(f:Fm)(l:Lb)(ps:List PyData):List PyData:=match f with
 | .self| .nt| .iff=>.str f.s::ps
 | .new| .elder=>[.str f.s,l.d,.tuple ps]
 | .call=>match ps with
  |p::b=>[.str f.s,p,l.d,.tuple b]
  |[]=>[]
 | .field| .set=>match ps with
  |p::b=>.str f.s::p::l.d::b
  |[]=>[]
 |_=>.str f.s::l.d::ps
mutual
noncomputable def Tm.dat:Tm->PyData
 | .mk f l ps=>.tuple (gu f l (bO ps))
noncomputable def bO:List Tm->List PyData
 |[]=>[]
 |t::b=>t.dat::bO b
end
mutual
noncomputable def Tm.depth:Tm->Nat
 | .mk _ _ ps=>1+bW ps
noncomputable def bW:List Tm->Nat
 |[]=>0
 |t::b=>max t.depth (bW b)
end
mutual
noncomputable def Tm.size:Tm->Nat
 | .mk _ _ ps=>1+cW ps
noncomputable def cW:List Tm->Nat
 |[]=>0
 |t::b=>t.size+cW b
end
noncomputable def ig:Fm->Lb->Nat->Prop
 | .number,.int _,n=>n=0
 | .truth,.bl _,n=>n=0
 | .name,.str _,n=>n=0
 | .self,.non,n=>n=0
 | .nt,.non,n=>n=1
 | .iff,.non,n=>n=3
 | .two,.str _,n=>n=2
 | .lt,.str _,n=>n=2
 | .new,.str _,_=>True
 | .elder,.str _,_=>True
 | .call,.str _,n=>1<=n
 | .field,.str _,n=>n=1
 | .set,.str _,n=>n=2
 |_,_,_=>False
inductive Ok:Tm->Prop
 |mk{f:Fm}{l:Lb}{ps:List Tm}:ig f l ps.length->(∀p∈ps,Ok p)->Ok (.mk f l ps)
mutual
noncomputable def Tm.flat:Tm->List Tm
 | .mk f l ps=>.mk f l ps::aU ps
noncomputable def aU:List Tm->List Tm
 |[]=>[]
 |t::b=>aU b++t.flat
end
theorem tO:∀(xs ys:List Tm),aU (xs++ys)=aU ys++aU xs
 |[],ys=>by show aU ys=_++[];rw[gD]
 |x::xs,ys=>by show aU (xs++ys)++x.flat=_++(aU xs++x.flat);rw[tO xs ys,iX]
inductive cG:List Tm->List Tm->Prop
 |nil:cG [] []
 |snoc{w C:List Tm}{t:Tm}:cG w (C++t.ps)->cG (w++[t]) (C++[t])
mutual
theorem cG.flat:∀(t:Tm){w B:List Tm},cG w B->cG (w++t.flat.reverse) (B++[t])
 | .mk f l ps,w,B,h=>by
  have b:=cG.flats ps h;have e:w++(Tm.mk f l ps).flat.reverse=w++(aU ps).reverse++[Tm.mk f l ps]:=by
   show w++(Tm.mk f l ps::aU ps).reverse=_;rw[j7,iX]
  rw[e];exact .snoc b
theorem cG.flats:∀(ts:List Tm){w B:List Tm},cG w B->cG (w++(aU ts).reverse) (B++ts)
 |[],w,B,h=>by
  show cG (w++[]) (B++[]);rw[gD,gD];exact h
 |t::ts,w,B,h=>by
  have b:=cG.flats ts (cG.flat t h);show cG (w++(aU ts++t.flat).reverse) _;rw[List.reverse_append,<-iX];rw[iX B]at b;exact b
end
theorem cG.inv{w S:List Tm}{x:Tm}(h:cG (w++[x]) S):∃C,S=C++[x]/\cG w (C++x.ps):=by
 generalize e:w++[x]=u at h;cases h with
 |nil=>cases w<;>cases e
 |snoc b=>
  obtain⟨rfl,c⟩:=List.append_inj' e rfl;cases c;exact⟨_,rfl,b⟩
theorem cG.nil_inv{S:List Tm}(h:cG [] S):S=[]:=by
 generalize e:([]:List Tm)=u at h;cases h with
 |nil=>rfl
 |snoc _=>exact T7 e.symm s!"n"
theorem wz{w:List Tm}{n:Nat}(e:w.length=n+1):∃b x,w=b++[x]/\b.length=n:=
 ⟨w.dropLast,w.getLast (by intro z;rw[z]at e;cases e),(List.dropLast_concat_getLast _).symm,by rw[List.length_dropLast,e];rfl⟩
theorem cG.det:∀{n:Nat}{w S b:List Tm},w.length=n->cG w S->cG w b->S=b
 |0,w,S,b,e,h,c=>by
  cases sf.mp e;rw[h.nil_inv,c.nil_inv]
 |n+1,w,S,b,e,h,c=>by
  obtain⟨w,x,rfl,g⟩:=wz e;obtain⟨C,rfl,i⟩:=h.inv;obtain⟨m,rfl,j⟩:=c.inv;rw[List.append_cancel_right (cG.det g i j)]
theorem cG.pre{u:List Tm}:∀{n:Nat}{v S:List Tm},v.length=n->cG (u++v) S->∃b,cG u b
 |0,v,S,e,h=>by
  cases sf.mp e;rw[gD]at h;exact⟨S,h⟩
 |n+1,v,S,e,h=>by
  obtain⟨v,x,rfl,c⟩:=wz e;rw[<-iX]at h;obtain⟨C,ω,g⟩:=h.inv;exact cG.pre c g
theorem cG.next{w S c:List Tm}{i:Nat}{x:Tm}(h:cG w S)(hi:w[i]?=some x)(h':cG (w.take i) c):∃C,c=C++x.ps/\cG (w.take (i+1)) (C++[x]):=by
 have e:w.take (i+1)=w.take i++[x]:=by
  rw[lZ,hi];rfl
 obtain⟨j,b⟩:=cG.pre (u:=w.take (i+1)) (v:=w.drop (i+1)) rfl (by rw[se];exact h);rw[e]at b ⊢;obtain⟨C,rfl,g⟩:=b.inv;exact⟨C,cG.det rfl h' g,b⟩
end P15
end
section
namespace L2
open PySem PySem.Spec PyProof.Rows
abbrev bD:=Sum Int V2
def oI:bD->V1->Bool
 | .inl k,v=>Value.isInt k v
 | .inr x,v=>Value.isStrOf x v
def vR(w:Y3):bD->Int
 | .inl k=>hashInt k
 | .inr x=>hashStr w x
theorem kC:∀{k:bD}{v:V1},oI k v=true->(∃i t,k=Sum.inl i/\v=Rj i t)\/(∃x t,k=Sum.inr x/\v=Th x t)
 | .inl i,v,h=>by
  obtain⟨t,e⟩:=Value.isInt_shape (k:=i) (v:=v) h;exact .inl ⟨i,t,rfl,e⟩
 | .inr x,v,h=>by
  obtain⟨t,e⟩:=Value.isStrOf_shape (x:=x) (v:=v) h;exact .inr ⟨x,t,rfl,e⟩
theorem Ld(i:Int)(t:Tok):oI (.inl i) (.int i t)=true:=by simp[oI,Value.isInt]
theorem K9(x:V2)(t:Tok):oI (.inr x) (.str x t)=true:=by simp[oI,Value.isStrOf]
theorem HR(a b:Int):decide ((Sum.inl a:bD)=Sum.inl b)=(a==b):=by
 by_cases e:a=b
 ·subst e;simp
 ·have h:¬(Sum.inl a:bD)=Sum.inl b:=λ q=>e (Sum.inl.inj q);rw[T8 h];exact(beq_eq_false_iff_ne.mpr e).symm
theorem HY(a b:V2):decide ((Sum.inr a:bD)=Sum.inr b)=decide (a=b):=by
 by_cases e:a=b
 ·subst e;simp
 ·have h:¬(Sum.inr a:bD)=Sum.inr b:=λ q=>e (Sum.inr.inj q);rw[T8 h,T8 e]
theorem GY(a:Int)(b:V2):decide ((Sum.inl a:bD)=Sum.inr b)=false:=T8 (λ q=>nomatch q)
theorem HK(a:V2)(b:Int):decide ((Sum.inr a:bD)=Sum.inl b)=false:=T8 (λ q=>nomatch q)
def fE(prog:Program)(w:Y3):PySem.KeyKind prog w bD where
 is:=oI
 hash:=vR w
 inj:=λ v a b ha hb=>by
  rcases kC ha with⟨i,t,rfl,rfl⟩|⟨x,t,rfl,rfl⟩
  ·rcases kC hb with⟨j,u,rfl,e⟩|⟨y,u,rfl,e⟩
   ·injection e with e1 _;rw[e1]
   ·exact nomatch e
  ·rcases kC hb with⟨j,u,rfl,e⟩|⟨y,u,rfl,e⟩
   ·exact nomatch e
   ·injection e with e1 _;rw[e1]
 byValue:=λ k v h=>by
  rcases kC h with⟨i,t,rfl,rfl⟩|⟨x,t,rfl,rfl⟩<;>rfl
 pyHash:=λ hv h=>by
  rcases kC hv with⟨i,t,rfl,rfl⟩|⟨x,t,rfl,rfl⟩
  ·exact wpAny_pyHash_int h
  ·exact wpAny_pyHash_str h
 eqBool:=λ hu hv h=>by
  rcases kC hu with⟨i,t,rfl,rfl⟩|⟨x,t,rfl,rfl⟩
  ·rcases kC hv with⟨j,u,rfl,rfl⟩|⟨y,u,rfl,rfl⟩
   ·rw[HR]at h;exact Ti h
   ·rw[GY]at h;exact SeqAt.EqAt.int_str i t y u _ _ _ _ h
  ·rcases kC hv with⟨j,u,rfl,rfl⟩|⟨y,u,rfl,rfl⟩
   ·rw[HK]at h;exact SeqAt.EqAt.str_int x t j u _ _ _ _ h
   ·rw[HY]at h;exact wpAny_eqBool_str h
 «strs»:=λ k x t v h=>by
  rcases kC h with⟨i,u,rfl,e⟩|⟨y,u,rfl,e⟩
  ·exact nomatch e
  ·injection e with e1 _
   subst e1;cases v<;>rfl
theorem E_(prog:Program)(w:Y3)(i:Int)(t:Tok):(fE prog w).is (.inl i) (.int i t)=true:=Ld i t
theorem Fb(prog:Program)(w:Y3)(x:V2)(t:Tok):(fE prog w).is (.inr x) (.str x t)=true:=K9 x t
end L2
namespace L2
open PySem PySem.Spec PyProof.Rows
inductive V where
 |non|bl(b:Bool)|int(i:Int)|str(x:V2)|byt(b:Array UInt8)|flt(b:UInt64)|ref(a:V0)|ty(n:String)
 deriving DecidableEq
def RelV:V->V1->Prop
 | .non,u=>u=Qz
 | .bl b,u=>u=SN b
 | .int i,u=>∃t,u=Rj i t
 | .str x,u=>∃t,u=Th x t
 | .byt b,u=>∃t,u=Value.bytes b t
 | .flt b,u=>∃t,u=Value.float b t
 | .ref a,u=>u=Qq a
 | .ty n,u=>u=Rg n
abbrev ax:List V->List V1->Prop:=Paired RelV
theorem ax.length{xs:List V}{us:List V1}(r:ax xs us):xs.length=us.length:=Tc r
theorem ax.get:∀{xs:List V}{us:List V1}{i:Nat}{x:V},ax xs us->xs[i]?=some x->∃u,us[i]?=some u/\RelV x u
 |_,_,_,_,.nil,e=>by simp at e
 |_,_,0,_,.cons r _,e=>by simp at e;subst e;exact⟨_,rfl,r⟩
 |_,_,i+1,x,.cons _ t,e=>by
  obtain⟨u,h1,h2⟩:=ax.get (i:=i) (x:=x) t (by simpa using e);exact⟨u,by simpa using h1,h2⟩
theorem ax.set{x:V}{u:V1}(r:RelV x u):∀{xs:List V}{us:List V1}(i:Nat),ax xs us->ax (xs.set i x) (us.set i u)
 |_,_,_,.nil=>.nil
 |_,_,0,.cons _ t=>.cons r t
 |_,_,i+1,.cons q t=>.cons q (ax.set r i t)
theorem ax.append:∀{xs ys:List V}{us i:List V1},ax xs us->ax ys i->ax (xs++ys) (us++i)
 |_,_,_,_,.nil,s=>s
 |_,_,_,_,.cons r t,s=>.cons r (ax.append t s)
theorem ax.take:∀{xs:List V}{us:List V1}(n:Nat),ax xs us->ax (xs.take n) (us.take n)
 |_,_,0,_=>.nil
 |_,_,_+1,.nil=>.nil
 |_,_,n+1,.cons r t=>.cons r (ax.take n t)
theorem ax.drop:∀{xs:List V}{us:List V1}(n:Nat),ax xs us->ax (xs.drop n) (us.drop n)
 |_,_,0,r=>r
 |_,_,_+1,.nil=>.nil
 |_,_,n+1,.cons _ t=>ax.drop n t
def cy:Option V->Option V1->Prop
 |some v,some u=>RelV v u
 |none,none=>True
 |_,_=>False
def KV{κ:Type}:List (κ×V)->List (κ×V1)->Prop:=Paired λ(p:κ×V) (q:κ×V1)=>p.1=q.1/\RelV p.2 q.2
def kV:bD->V
 | .inl i=>.int i
 | .inr x=>.str x
inductive HO where
 |lst(xs:List V)
 |tup(xs:List V)
 |dK(kvs:List (bD×V))|dT(kvs:List (List bD×V))
 |set(S:Int->Bool)(n:Nat)
 |ins(C dx:V0)(fs:List (V2×V))
 |own(x:V0)
 |xd(fs:List (V2×V))
 |met(f x:V0)
 |rng(lo hi:Int)
 |frz(o:Obj)(u:HO)
 |tbl(ps:Array V1)
 |ext(φ:Z3->Prop)
abbrev Hp:=V0->Option HO
def ag(H:Hp)(a:V0)(o:HO):Hp:=λ b=>if b=a then some o else H b
variable{H:Hp}{o:HO}
theorem aG{a:V0}:ag H a o a=some o:=by unfold ag;rw[T6 rfl]
variable{b:V0}
theorem aD{a:V0}(h:b≠a):ag H a o b=H b:=by unfold ag;rw[T5 h]
theorem IV{a:V0}{u:HO}:ag (ag H a o) a u=ag H a u:=by
 funext b;unfold ag;split<;>rfl
theorem jt{a:V0}{u:HO}(h:H a=some o)(h':H b=some u)(d:o≠u):a≠b:=by
 intro e;subst e;rw[h]at h';exact d (dG h')
theorem bS{a:V0}(h:H a=some o)(h':H b=none):a≠b:=by
 intro e;subst e;rw[h]at h';cases h'
theorem sr{h:Z3}{xs:Array V1}{n:Nat}:∀o,(h.push {cls:=.type "tuple",data:=.seq xs n}).get? h.objs.size=some o->o.dict=none:=λ o q=>by
 rw[Qo _ rfl]at q;cases q;rfl
section
variable(P:Program)(w:Y3)
def aQ(H:Hp)(h:Z3)(a:V0):HO->Prop
 | .lst xs=>xs.length<=Qj/\∃(i:List V1)(n:Nat),ax xs i/\h.get? a=some {cls:=.type "list",data:=.seq i.toArray n}
 | .tup xs=>(xs.length<=Qj/\∀o,h.get? a=some o->o.dict=none)/\∃i:List V1,ax xs i/\T3 h a i.toArray
 | .dK j=>j.length<=Qj/\(a==Rp)=false/\∃vs,KV j vs/\h.DictOf (fE P w) a vs
 | .dT j=>j.length<=Qj/\(a==Rp)=false/\∃xs:List (List bD×V0×V1),
   Paired (λ(p:List bD×V) (q:List bD×V0×V1)=>p.1=q.1/\H q.2.1=some (.tup (p.1.map kV))/\RelV p.2 q.2.2) j xs/\
   ∃o es z,h.get? a=some o/\o.ExactDict/\o.data=.dict es z/\es.toList=xs.map (entryOfKey (Tj (fE P w)))/\(xs.map (·.1)).Nodup
 | .set S n=>h.SetOf (intKind P w) a S n
 | .ins C dx fs=>H dx=some (.own a)/\fs.length<=1000/\dx≠a/\h.get? a=some (Si C dx)/\
   ∃mA,h.Ns1 dx mA/\(∀f,cy (fs.lookup f) (mA f))/\PySem.Within mA (fs.map (·.1))
 | .own _=>∃o,h.get? a=some o
 | .xd fs=>∃mA,h.Ns1 a mA/\∀f,cy (fs.lookup f) (mA f)
 | .rng lo hi=>∃t u v,h.get? a=some {cls:=.type "range",data:=.fields #[.int lo t,.int hi u,.int 1 v]}
 | .frz o u=>h.get? a=some o/\aQ H h a u
 | .tbl ps=>h.get? a=some {cls:=.none,data:=.fields ps}
 | .met f x=>h.get? a=some (W.methodObj (.ref f) (.ref x))
 | .ext y=>y h/\(∃o,h.get? a=some o)/\∀h1 h2:Z3,y h1->(∀o,h1.get? a=some o->h2.get? a=some o)->y h2
def cV(H:Hp)(h:Z3):Prop:=∀a o,H a=some o->aQ P w H h a o
end
section
variable{P:Program}{w:Y3}{H H':Hp}{h h':Z3}{a:V0}{o:HO}
theorem aQ.lt(x:aQ P w H h a o):a<h.objs.size:=by
 cases o with
 |lst xs=>obtain⟨ω,ω,ω,ω,e⟩:=x;exact Qi e
 |tup xs=>obtain⟨ω,ω,ω,p⟩:=x;exact p.lt
 |dK i=>obtain⟨ω,ω,ω,ω,o,ω,ω,e,ω⟩:=x;exact Qi e
 |dT i=>obtain⟨ω,ω,ω,ω,o,ω,ω,e,ω⟩:=x;exact Qi e
 |set S n=>obtain⟨o,ω,ω,ω,e,ω⟩:=x;exact Qi e
 |ins C dx fs=>obtain⟨ω,ω,ω,e,ω⟩:=x;exact Qi e
 |own y=>obtain⟨ω,e⟩:=x;exact Qi e
 |xd fs=>obtain⟨ω,⟨ω,ω,ω,e,ω⟩,ω⟩:=x;exact Qi e
 |rng lo hi=>obtain⟨ω,ω,ω,e⟩:=x;exact Qi e
 |frz j u=>obtain⟨e,ω⟩:=x;exact Qi e
 |tbl ps=>exact Qi (show h.get? a=some _ from x)
 |met f y=>exact Qi (show h.get? a=some _ from x)
 |ext q=>obtain⟨ω,⟨ω,e⟩,ω⟩:=x;exact Qi e
theorem Paired.mapP{j n:Type}{F G:j->n->Prop}:∀{i:List j}{l₂:List n},Paired F i l₂->(∀a b,F a b->G a b)->Paired G i l₂:=λ h f=>by
 induction h with
 |nil=>exact .nil
 |cons r _ q=>exact .cons (f _ _ r) q
theorem aQ.stay(x:aQ P w H h a o)(k:∀b u,(b=a\/H b=some (.own a))->h.get? b=some u->h'.get? b=some u)(I:∀b,H b=some (.own a)->H' b=some (.own a))(J:∀b xs,H b=some (.tup xs)->H' b=some (.tup xs)):aQ P w H' h' a o:=by
 induction o with
 |lst xs=>obtain⟨z,B,n,r,e⟩:=x;exact⟨z,B,n,r,k _ _ (.inl rfl) e⟩
 |tup xs=>obtain⟨z,B,r,i,e,c⟩:=x;exact⟨⟨z.1,λ o q=>by rw[k _ _ (.inl rfl) e]at q;cases q;exact z.2 _ e⟩,B,r,i,k _ _ (.inl rfl) e,c⟩
 |dK D=>obtain⟨z,y,vs,r,i,es,j,e,c⟩:=x;exact⟨z,y,vs,r,i,es,j,k _ _ (.inl rfl) e,c⟩
 |dT D=>
  obtain⟨z,y,xs,r,i,es,j,e,c⟩:=x;exact⟨z,y,xs,Paired.mapP r λ p q z=>⟨z.1,J _ _ z.2.1,z.2.2⟩,i,es,j,k _ _ (.inl rfl) e,c⟩
 |set S n=>obtain⟨i,es,j,t,e,c⟩:=x;exact⟨i,es,j,t,k _ _ (.inl rfl) e,c⟩
 |ins C dx fs=>
  obtain⟨d,z,L,e,mA,⟨G,es,j,M,c⟩,r⟩:=x;exact⟨I _ d,z,L,k _ _ (.inl rfl) e,mA,⟨G,es,j,k _ _ (.inr d) M,c⟩,r⟩
 |own y=>obtain⟨i,e⟩:=x;exact⟨i,k _ _ (.inl rfl) e⟩
 |xd fs=>obtain⟨mA,⟨G,es,j,e,c⟩,r⟩:=x;exact⟨mA,⟨G,es,j,k _ _ (.inl rfl) e,c⟩,r⟩
 |rng lo hi=>obtain⟨t,u,v,e⟩:=x;exact⟨t,u,v,k _ _ (.inl rfl) e⟩
 |frz i u N=>obtain⟨e,q⟩:=x;exact⟨k _ _ (.inl rfl) e,N q⟩
 |tbl ps=>
  have e:h.get? a=some {cls:=.none,data:=.fields ps}:=x;show h'.get? a=some {cls:=.none,data:=.fields ps};exact k a _ (.inl rfl) e
 |met f y=>
  have e:h.get? a=some (W.methodObj (.ref f) (.ref y)):=x;show h'.get? a=some (W.methodObj (.ref f) (.ref y));exact k a _ (.inl rfl) e
 |ext O=>obtain⟨p,⟨o,e⟩,st⟩:=x;exact⟨st _ _ p λ o q=>k _ _ (.inl rfl) q,⟨o,k _ _ (.inl rfl) e⟩,st⟩
theorem cV.lt(x:cV P w H h)(e:H a=some o):a<h.objs.size:=(x a o e).lt
theorem cV.fresh(x:cV P w H h)(e:h.objs.size<=a):H a=none:=by
 cases q:H a with
 |none=>rfl
 |some u=>exact T7 (cK (x.lt q) e) (fu _)
theorem cV.kept(x:cV P w H h)(k:∀b u,h.get? b=some u->h'.get? b=some u):cV P w H h':=λ a o e=>
 (x a o e).stay (λ b u ω q=>k b u q) (λ ω q=>q) λ ω ω q=>q
theorem cV.laid(x:cV P w H h)(k:∀b u,h.get? b=some u->h'.get? b=some u)(n:h.objs.size<=a)(new:aQ P w (ag H a o) h' a o):cV P w (ag H a o) h':=λ b u e=>by
 have i:=x.fresh n;by_cases j:b=a
 ·subst j;rw[aG]at e;cases e;exact new
 ·rw[aD j]at e;exact(x b u e).stay (λ c v ω q=>k c v q) (λ c q=>by rw[aD (bS q i)];exact q) λ c xs q=>by rw[aD (bS q i)];exact q
end
def Rd(H:Hp)(a:V0)(u:HO):Prop:=H a=some u\/∃o,H a=some (.frz o u)
theorem Rd.ok{P:Program}{w:Y3}{H:Hp}{h:Z3}{a:V0}{u:HO}(r:Rd H a u)(x:cV P w H h):aQ P w H h a u:=by
 rcases r with r|⟨o,r⟩
 ·exact x a u r
 ·obtain⟨ω,q⟩:=x a _ r;exact q
def ri:Option HO->Prop
 |some (.lst _)=>True
 |some (.dK _)=>True
 |some (.dT _)=>True
 |some (.set _ _)=>True
 |some (.ins _ _ _)=>True
 |some (.ext _)=>True
 |_=>False
section
variable{P:Program}{w:Y3}{H:Hp}{h h':Z3}{x e:V0}{o':HO}
theorem cV.write(ok:cV P w H h)(B:ri (H x))(J:e=x\/H e=some (.own x))(k:∀b u,b≠e->h.get? b=some u->h'.get? b=some u)(I:∃u,h'.get? e=some u)(new:aQ P w (ag H x o') h' x o'):cV P w (ag H x o') h':=λ b u q=>by
 have j:∀c y,H c=some (.own y)->c≠x:=λ c y r z=>by subst z;rw[r]at B;exact B
 have n:∀c xs,H c=some (.tup xs)->c≠x:=λ c xs r z=>by subst z;rw[r]at B;exact B
 by_cases D:b=x
 ·subst D;rw[aG]at q;cases q;exact new
 ·rw[aD D]at q;by_cases i:b=e
  ·have L:H b=some (.own x):=by
    rcases J with z|z
    ·exact T7 (i.trans z) D
    ·rw[i];exact z
   rw[q]at L;cases L;obtain⟨v,M⟩:=I;exact⟨v,by rw[i];exact M⟩
  ·refine(ok b u q).stay (λ c v G r=>k c v ?_ r) (λ c r=>by rw[aD (j c b r)];exact r) λ c xs r=>by rw[aD (n c xs r)];exact r
   rcases G with rfl|G
   ·exact i
   ·rintro rfl;rcases J with z|z
    ·exact j c b G z
    ·rw[G]at z;cases z;exact D rfl
end
structure Un(fs ex:List V0)(H H':Hp)(h h':Z3):Prop where
 keep:∀b o,h.get? b=some o->H b=none->b∉fs->b∉ex->h'.get? b=some o
 slot:∀b o,h.get? b=some o->H b=none->b∈fs->b∉ex->∃sl,h'.get? b=some {o with slots:=sl}
 free:∀b o,h.get? b=some o->H b=none->b∉ex->H' b=none
 there:∀b o,h.get? b=some o->b∉ex->∃o',h'.get? b=some o'
 tups:∀b xs,H b=some (.tup xs)->H' b=some (.tup xs)
 frzs:∀b o u,H b=some (.frz o u)->H' b=some (.frz o u)
 tbls:∀b ps,H b=some (.tbl ps)->∃more,H' b=some (.tbl (ps++more))
section
variable{fs fs' ex ex':List V0}{H H1 H2:Hp}{h h1 h2 h':Z3}{a x e:V0}{o:HO}
theorem Un.any(u:Un fs ex H H1 h h1){i:Obj}(q:h.get? b=some i)(n:H b=none)(j:b∉ex):∃z,h1.get? b=some {i with slots:=z}:=by
 by_cases y:b∈fs
 ·exact u.slot b i q n y j
 ·exact⟨i.slots,u.keep b i q n y j⟩
theorem Un.kept(k:∀b u,h.get? b=some u->h'.get? b=some u):Un fs ex H H h h':=
 ⟨λ b i q ω ω ω=>k b i q,λ b i q ω ω ω=>⟨i.slots,k b i q⟩,λ ω ω ω n ω=>n,λ b i q ω=>⟨i,k b i q⟩,λ ω ω q=>q,λ ω ω ω q=>q,λ ω ps q=>⟨#[],by rw[q];simp⟩⟩
theorem Un.refl:Un fs ex H H h h:=Un.kept λ ω ω q=>q
theorem Un.laid(k:∀b u,h.get? b=some u->h'.get? b=some u)(j:h.objs.size<=a)(i:H a=none):Un fs ex H (ag H a o) h h' where
 keep:=λ b u q ω ω ω=>k b u q
 slot:=λ b u q ω ω ω=>⟨u.slots,k b u q⟩
 free:=λ b u q n ω=>by rw[aD (bY (cK (Qi q) j))];exact n
 there:=λ b u q ω=>⟨u,k b u q⟩
 tups:=λ b xs q=>by rw[aD (bS q i)];exact q
 frzs:=λ b u xs q=>by rw[aD (bS q i)];exact q
 tbls:=λ b ps q=>⟨#[],by rw[aD (bS q i),q];simp⟩
theorem Un.write(j:ri (H x))(I:e=x\/H e=some (.own x))(k:∀b u,b≠e->h.get? b=some u->h'.get? b=some u)(y:∃u,h'.get? e=some u):Un fs ex H (ag H x o) h h':=by
 have D:∀b,H b=none->b≠x:=λ b n z=>by subst z;rw[n]at j;exact j
 have G:∀b,H b=none->b≠e:=λ b n z=>by
  subst z;rcases I with r|r
  ·exact D b n r
  ·rw[n]at r;cases r
 have B:∀b u,H b=some u->¬ri (some u)->b≠x:=λ b u q nm z=>by subst z;rw[q]at j;exact nm j
 refine⟨λ b u q n ω ω=>k b u (G b n) q,λ b u q n ω ω=>⟨u.slots,k b u (G b n) q⟩,λ b u q n ω=>by rw[aD (D b n)];exact n,λ b u q ω=>?_,
  λ b xs q=>by rw[aD (B b _ q λ z=>z)];exact q,λ b u xs q=>by rw[aD (B b _ q λ z=>z)];exact q,λ b ps q=>⟨#[],by rw[aD (B b _ q λ z=>z),q];simp⟩⟩
 by_cases i:b=e
 ·subst i;exact y
 ·exact⟨u,k b u i q⟩
end
def rK(h:Z3)(H:Hp):List V0:=(bU h.objs.size).filter λ a=>(H a).isSome
def fA(h:Z3)(H:Hp):Z3:=W.hideAll h (rK h H)
theorem LL(h:Z3)(H:Hp):(fA h H).objs.size=h.objs.size:=W.hideAll_size _ _
theorem Kf{h:Z3}{o:Obj}(e:h.get? b=some o)(n:H b=none):(fA h H).get? b=some o:=
 W.hideAll_get _ e λ i=>by
  have q:(H b).isSome=true:=(pL.mp i).2;rw[n]at q;simp at q
theorem IE{h:Z3}{o:Obj}(e:(fA h H).get? b=some o):h.get? b=some o/\H b=none:=by
 have i:h.get? b=some o:=W.of_hideAll (rK h H) e;refine⟨i,?_⟩;cases q:H b with
 |none=>rfl
 |some x=>
  have j:b∈rK h H:=pL.mpr ⟨eV.mpr (Qi i),by simp[q]⟩;have z:(fA h H).get? b=none:=W.hideAll_none (rK h H) j;rw[z]at e;cases e
def Hy(g h:Z3)(L:V0):List (V0×Obj):=(bU h.objs.size).filterMap λ a=>if a=L\/(g.get? a).isSome=true then none else(h.get? a).map λ o=>(a,o)
def rest(g h:Z3)(L d:V0):List (V0×Obj):=(Hy g h L).filter λ p=>decide (p.1≠d)
end L2
namespace L2
open PySem PySem.Spec PyProof.Rows
structure Mod(K:X0)(mg:V2->Option V1)(base:Z3):Prop where
 kin:K.In base
 glob:base.Ns Qu mg
 blt:∃mb,base.Ns Sj mb/\∀x:V2,x≠"__name__"->mb x=Qv x
 nolimit:base.NoLimit
structure Cx where
 prog:Program
 w:Y3
 K:X0
 mg:V2->Option V1
 base:Z3
 A:V3
 N:List V2
 s₀:M1
 H₀:Hp
 env:Env
 outer:List Env
 stack:List Env
 ex:List V0
 fn:V2->Bool
 calm:Bool
 pn:List (V0×Obj)
 xe:V1->M1->Prop
def fJ(l:List Env):List V0:=l.filterMap (·.frame)
abbrev Cx.fs(X:Cx):List V0:=fJ X.outer
def m5(sc:Rf)(x:V2):Prop:=sc.names.lookup x=some .local\/sc.names.lookup x=some .cell\/sc.names.lookup x=some .free
def Loc(sc:Rf)(x:V2):Prop:=sc.names.lookup x=some .local\/sc.names.lookup x=some .cell
def Look(env:Env)(h:Z3)(m:V2->Option V1)(x:V2)(u:V1):Prop:=
 (env.kindOf x=some .local/\m x=some u)\/((env.kindOf x=some .cell\/env.kindOf x=some .free)/\∃c,env.cells.lookup x=some c/\h.IsCell c (some u))
structure Cx.Ok(X:Cx):Prop where
 mod:Mod X.K X.mg X.base
 kind:X.env.scope.kind=.function
 glob:X.env.globals=Qu
 blt:X.env.builtins=Sj
 above:X.s₀.heap.objs.size<=X.env.locals
 inj:∀x y c,X.env.cells.lookup x=some c->X.env.cells.lookup y=some c->x=y
 has:∀x,(X.env.kindOf x=some .cell\/X.env.kindOf x=some .free)->∃c,X.env.cells.lookup x=some c
 cab:∀x c,X.fn x=true->X.env.cells.lookup x=some c->X.s₀.heap.objs.size<=c
 hd:X.calm=true->X.A.handled=none
 frames:X.A.frames=some X.stack
 stk:X.stack=X.outer\/(X.stack=X.env::X.outer/\X.env.frame=some X.env.locals)
 exf:∀b∈X.ex,b≠X.env.locals/\∀x c,X.env.cells.lookup x=some c->c≠b
 bs:∀b o,X.base.get? b=some o->X.s₀.heap.get? b=some o/\X.H₀ b=none
 bsz:X.base.objs.size<=X.s₀.heap.objs.size
 noex:∀b o,X.base.get? b=some o->b∉X.ex
 exfs:∀b∈X.ex,b∉X.fs
 funs:X.s₀.heap.FunFrames X.base X.outer
 frf:∀b∈X.fs,X.H₀ b=none
structure Inv(X:Cx)(aa:List (V0×Obj))(σ:List (Option V))(H:Hp)(s:M1):Prop where
 ok:X.Ok
 os:s.os=X.s₀.os
 bare:SG s.gens
 base:Un X.fs X.ex X.H₀ H X.s₀.heap s.heap
 loc:∃m,s.heap.Ns X.env.locals m/\∀(i:Nat)(x:V2)(v:V),X.N[i]?=some x->σ[i]?=some (some v)->m5 X.env.scope x->∃u,RelV v u/\Look X.env s.heap m x u
 cell:∀x c,X.env.cells.lookup x=some c->∃v,s.heap.IsCell c v
 free:H X.env.locals=none
 freeC:∀x c,X.env.cells.lookup x=some c->H c=none
 pin:∀p∈X.pn++aa,s.heap.get? p.1=some p.2/\H p.1=none/\p.1≠X.env.locals/\p.1∉X.fs/\∀v,p.2.data≠.cell v
 hok:cV X.prog X.w H s.heap
 len:σ.length=X.N.length
section
variable{X:Cx}{aa:List (V0×Obj)}{σ:List (Option V)}{H H':Hp}{s:M1}{h':Z3}
theorem Cx.Ok.nofr(ok:X.Ok){b:V0}{o:Obj}(e:X.base.get? b=some o):b∉X.fs:=λ i=>by
 have:=(ok.funs.mem i).1;rw[e]at this;cases this
theorem Inv.bs(I:Inv X aa σ H s):∀b o,X.base.get? b=some o->s.heap.get? b=some o/\H b=none:=λ b o e=>
 ⟨I.base.keep b o (I.ok.bs b o e).1 (I.ok.bs b o e).2 (I.ok.nofr e) (I.ok.noex b o e),I.base.free b o (I.ok.bs b o e).1 (I.ok.bs b o e).2 (I.ok.noex b o e)⟩
theorem Inv.bk(I:Inv X aa σ H s):∀b o,X.base.get? b=some o->s.heap.get? b=some o:=λ b o e=>(I.bs b o e).1
theorem Inv.mod(I:Inv X aa σ H s):Mod X.K X.mg X.base:=I.ok.mod
theorem Inv.kIn(I:Inv X aa σ H s):X.K.In s.heap:=I.ok.mod.kin.keeps I.bk
theorem Inv.nolimit(I:Inv X aa σ H s):s.heap.NoLimit:=I.ok.mod.nolimit.keeps I.bk
theorem Inv.lt(I:Inv X aa σ H s):X.env.locals<s.heap.objs.size:=let⟨_,i,_⟩:=I.loc;i.lt
theorem Inv.sz(I:Inv X aa σ H s):X.s₀.heap.objs.size<=s.heap.objs.size:=cb I.ok.above (jm I.lt)
theorem Inv.nofs(I:Inv X aa σ H s){a:V0}(h:s.heap.objs.size<=a):a∉X.fs:=λ i=>by
 obtain⟨ω,o,j,ω⟩:=I.ok.funs.mem i;exact T7 (cK (Qi j) (cb I.sz h)) (fu _)
theorem Inv.cne(I:Inv X aa σ H s):∀x c,X.env.cells.lookup x=some c->c≠X.env.locals:=λ x c e z=>by
 obtain⟨v,o,n,hd⟩:=I.cell x c e;obtain⟨m,⟨o',es,q,i,j,ω⟩,ω⟩:=I.loc;rw[z,i]at n;cases n;rw[j]at hd;cases hd
theorem Inv.funs(I:Inv X aa σ H s):s.heap.FunFrames X.base X.outer:=by
 have all:∀(l:List Env),(∀b∈fJ l,b∈X.fs)->X.s₀.heap.FunFrames X.base l->s.heap.FunFrames X.base l:=by
  intro l;induction l with
  |nil=>intro _ _;trivial
  |cons y r B=>
   intro q hl;obtain⟨D,⟨L,o,i,G,J,hd⟩,hr⟩:=hl;have j:L∈X.fs:=q L (by unfold fJ;rw[vO,i];exact dR);obtain⟨M,e⟩:=I.base.slot L o J (I.ok.frf L j) j λ z=>I.ok.exfs L z j;exact⟨D,⟨L,_,i,G,e,hd⟩,B (λ b n=>q b (by unfold fJ;rw[vO,i];exact dz _ n)) hr⟩
 exact all X.outer (λ ω n=>n) I.ok.funs
theorem Inv.stack(I:Inv X aa σ H s):s.heap.FunFrames X.base X.stack:=by
 rcases I.ok.stk with e|⟨e,i⟩
 ·rw[e];exact I.funs
 ·rw[e];obtain⟨m,j,ω⟩:=I.loc;refine .cons (by rw[I.ok.kind];decide) i j ?_ I.funs;exact Heap.get?_none_of_le (cb I.ok.bsz I.ok.above)
theorem Inv.stkSub(I:Inv X aa σ H s):∀b∈fJ X.stack,b∈X.env.locals::X.fs:=λ b i=>by
 rcases I.ok.stk with e|⟨e,j⟩
 ·rw[e]at i;exact dz _ i
 ·rw[e]at i;unfold fJ at i;rw[vO,j]at i;exact i
theorem Inv.stkFree(I:Inv X aa σ H s):∀b∈fJ X.stack,H b=none:=λ b i=>by
 rcases bH.mp (I.stkSub b i)with e|i
 ·rw[e];exact I.free
 ·obtain⟨ω,o,j,ω⟩:=I.ok.funs.mem i;exact I.base.free b o j (I.ok.frf b i) λ z=>I.ok.exfs b z i
theorem Inv.step{g':Array TN}{t':Nat}{d':Drawn}{ch:List V0}(I:Inv X aa σ H s)(y:∀b∈ch,(b∈X.ex\/X.s₀.heap.objs.size<=b)/\b≠X.env.locals/\(∀x c,X.env.cells.lookup x=some c->c≠b)/\∀p∈X.pn++aa,p.1≠b)(B:∀b o,b≠X.env.locals->b∉X.fs->b∉ch->s.heap.get? b=some o->H b=none->h'.get? b=some o)(M:∀b o,b≠X.env.locals->b∈X.fs->b∉ch->s.heap.get? b=some o->H b=none->∃sl,h'.get? b=some {o with slots:=sl})(free:∀b o,b∉ch->s.heap.get? b=some o->H b=none->H' b=none)(there:∀b o,b∉ch->s.heap.get? b=some o->∃o',h'.get? b=some o')(R:∀b xs,H b=some (.tup xs)->H' b=some (.tup xs))(S:∀b o u,H b=some (.frz o u)->H' b=some (.frz o u))(U:∀b ps,H b=some (.tbl ps)->∃more,H' b=some (.tbl (ps++more)))(ns:∀m,s.heap.Ns X.env.locals m->h'.Ns X.env.locals m)(a0:cV X.prog X.w H' h')(hg:SG g'):Inv X aa σ H' {s with heap:=h',gens:=g',drawn:=d',toks:=t'}:=by
 have Y:∀b o,X.s₀.heap.get? b=some o->b≠X.env.locals:=λ b o e=>bY (cK (Qi e) I.ok.above);have J:∀b o,X.s₀.heap.get? b=some o->b∉X.ex->b∉ch:=λ b o e j N=>by
  rcases(y b N).1 with z|z
  ·exact j z
  ·exact T7 (cK (Qi e) z) (fu _)
 have D:∀x c,X.env.cells.lookup x=some c->∀v,s.heap.IsCell c v->h'.IsCell c v:=λ x c e v ⟨o,O,hd⟩=>by
  have G:c∉ch:=λ z=>(y c z).2.2.1 x c e rfl;by_cases hc:c∈X.fs
  ·obtain⟨sl,q⟩:=M c o (I.cne x c e) hc G O (I.freeC x c e);exact⟨_,q,hd⟩
  ·exact⟨o,B c o (I.cne x c e) hc G O (I.freeC x c e),hd⟩
 refine⟨I.ok,I.os,hg,⟨λ b o e n N j=>?_,λ b o e n N j=>?_,λ b o e n j=>?_,λ b o e j=>?_,λ b xs e=>R b xs (I.base.tups b xs e),λ b o xs e=>S b o xs (I.base.frzs b o xs e),λ b ps e=>?_⟩,?_,λ x c e=>?_,?_,λ x c e=>?_,λ p hp=>?_,a0,I.len⟩
 ·exact B b o (Y b o e) N (J b o e j) (I.base.keep b o e n N j) (I.base.free b o e n j)
 ·obtain⟨sl,L⟩:=I.base.slot b o e n N j;obtain⟨b0,Z⟩:=M b _ (Y b o e) N (J b o e j) L (I.base.free b o e n j);exact⟨b0,Z⟩
 ·obtain⟨o',L⟩:=I.base.there b o e j;exact free b o' (J b o e j) L (I.base.free b o e n j)
 ·obtain⟨o',L⟩:=I.base.there b o e j;exact there b o' (J b o e j) L
 ·obtain⟨m1,L⟩:=I.base.tbls b ps e;obtain⟨m2,Z⟩:=U b _ L;exact⟨m1++m2,by rw[Z,Array.append_assoc]⟩
 ·obtain⟨m,hn,hl⟩:=I.loc;refine⟨m,ns m hn,λ i x v L Z e3=>?_⟩;obtain⟨u,r,l⟩:=hl i x v L Z e3;refine⟨u,r,?_⟩;rcases l with l|⟨k,c,e,z⟩
  ·exact .inl l
  ·exact .inr ⟨k,c,e,D x c e _ z⟩
 ·obtain⟨v,z⟩:=I.cell x c e;exact⟨v,D x c e v z⟩
 ·obtain⟨m,⟨o,ω,ω,O,ω⟩,ω⟩:=I.loc;exact free _ o (λ z=>(y _ z).2.1 rfl) O I.free
 ·obtain⟨v,o,O,hd⟩:=I.cell x c e;exact free c o (λ z=>(y c z).2.2.1 x c e rfl) O (I.freeC x c e)
 ·obtain⟨e,n,ne,nf,d⟩:=I.pin p hp;have G:p.1∉ch:=λ z=>(y p.1 z).2.2.2 p hp rfl;exact⟨B p.1 p.2 ne nf G e n,free p.1 p.2 G e n,ne,nf,d⟩
theorem Inv.un{t':Nat}(I:Inv X aa σ H s)(u:Un X.fs [] H H' s.heap h')(j:cV X.prog X.w H' h'):Inv X aa σ H' {s with heap:=h',toks:=t'}:=by
 obtain⟨m,⟨o,es,M,D,r⟩,ω⟩:=id I.loc;obtain⟨N,G⟩:=u.any D I.free s!"n";exact I.step (g':=s.gens) (d':=s.drawn) (ch:=[]) (λ ω z=>nomatch z) (λ b o ω q ω e n=>u.keep b o e n q s!"n") (λ b o ω q ω e n=>u.slot b o e n q s!"n") (λ b o ω e n=>u.free b o e n s!"n") (λ b o ω e=>u.there b o e s!"n") u.tups u.frzs u.tbls (λ O J=>by
  obtain⟨o',y,B,i,L⟩:=J;rw[D]at i;cases i;exact⟨_,y,B,G,L⟩) j I.bare
theorem Inv.call{g':Array TN}{t':Nat}{d':Drawn}{ch:List V0}(I:Inv X aa σ H s)(u:Un (fJ X.stack) ch H H' s.heap h')(y:cV X.prog X.w H' h')(L:SG g')(j:∀b∈ch,(b∈X.ex\/X.s₀.heap.objs.size<=b)/\b≠X.env.locals/\(∀x c,X.env.cells.lookup x=some c->c≠b)/\∀p∈X.pn++aa,p.1≠b):Inv X aa σ H' {s with heap:=h',gens:=g',drawn:=d',toks:=t'}:=by
 obtain⟨m,⟨o,es,R,J,r⟩,ω⟩:=id I.loc;obtain⟨S,B⟩:=u.any J I.free λ z=>(j _ z).2.1 rfl;exact I.step (ch:=ch) j (λ b o B M i e n=>u.keep b o e n (λ z=>(bH.mp (I.stkSub b z)).elim B M) i) (λ b o ω ω i e n=>u.any e n i) (λ b o i e n=>u.free b o e n i) (λ b o i e=>u.there b o e i) u.tups u.frzs u.tbls (λ U N=>by
  obtain⟨o',D,G,q,O⟩:=N;rw[J]at q;cases q;exact⟨_,D,G,B,O⟩) y L
theorem Inv.turned{t':Nat}{it:V0}(I:Inv X aa σ H s)(k:∀b o,b≠it->s.heap.get? b=some o->h'.get? b=some o)(B:H it=none)(y:it≠X.env.locals)(h1:it∈X.ex\/X.s₀.heap.objs.size<=it)(h2:∀x c,X.env.cells.lookup x=some c->c≠it)(D:∀p∈X.pn++aa,p.1≠it):Inv X aa σ H {s with heap:=h',toks:=t'}:=by
 have j:∀b u,H b=some u->b≠it:=λ b u e z=>by rw[z,B]at e;cases e
 refine I.step (g':=s.gens) (d':=s.drawn) (ch:=[it]) (λ b G=>?_) (λ b o ω ω i e ω=>k b o (λ z=>i (by simp [z])) e) (λ b o ω ω i e ω=>⟨o.slots,k b o (λ z=>i (by simp [z])) e⟩) (λ ω ω ω ω n=>n)
  (λ b o i e=>⟨o,k b o (λ z=>i (by simp[z])) e⟩) (λ ω ω e=>e) (λ ω ω ω e=>e) (λ b ps e=>⟨#[],by rw[e];simp⟩) (λ m J=>?_) (λ b u e=>?_) I.bare
 ·have e:b=it:=by simpa using G
  subst e;exact⟨h1,y,h2,D⟩
 ·obtain⟨o,es,L,M,r⟩:=J;exact⟨o,es,L,k _ o (Ne.symm y) M,r⟩
 ·refine(I.hok b u e).stay (λ c v i q=>k c v ?_ q) (λ ω q=>q) λ ω ω q=>q;rcases i with z|z
  ·rw[z];exact j b u e
  ·exact j c _ z
theorem Inv.tok(I:Inv X aa σ H s)(t:Nat):Inv X aa σ H {s with toks:=t}:=I.un (h':=s.heap) (t':=t) Un.refl I.hok
theorem Inv.kept{t':Nat}(I:Inv X aa σ H s)(k:∀b u,s.heap.get? b=some u->h'.get? b=some u):Inv X aa σ H {s with heap:=h',toks:=t'}:=I.un (Un.kept k) (I.hok.kept k)
theorem Inv.laid{a:V0}{o:HO}{t':Nat}(I:Inv X aa σ H s)(k:∀b u,s.heap.get? b=some u->h'.get? b=some u)(i:s.heap.objs.size<=a)(new:aQ X.prog X.w (ag H a o) h' a o):Inv X aa σ (ag H a o) {s with heap:=h',toks:=t'}:=I.un (Un.laid k i (I.hok.fresh i)) (I.hok.laid k i new)
theorem Inv.write{x e:V0}{o:HO}{t':Nat}(I:Inv X aa σ H s)(j:ri (H x))(n:e=x\/H e=some (.own x))(k:∀b u,b≠e->s.heap.get? b=some u->h'.get? b=some u)(i:∃u,h'.get? e=some u)(new:aQ X.prog X.w (ag H x o) h' x o):Inv X aa σ (ag H x o) {s with heap:=h',toks:=t'}:=I.un (Un.write j n k i) (I.hok.write j n k i new)
theorem Inv.pins_of{i:List (V0×Obj)}(I:Inv X aa σ H s)(h:∀p∈i,s.heap.get? p.1=some p.2/\H p.1=none/\p.1≠X.env.locals/\p.1∉X.fs/\∀v,p.2.data≠.cell v):Inv X i σ H s:=
 ⟨I.ok,I.os,I.bare,I.base,I.loc,I.cell,I.free,I.freeC,λ p j=>(dy.mp j).elim (λ z=>I.pin p (nM _ z)) (h p),I.hok,I.len⟩
theorem xi{N:List V2}(n:N.Nodup){i j:Nat}{x:V2}(a:N[i]?=some x)(b:N[j]?=some x):i=j:=by
 obtain⟨h1,q⟩:=bG.mp a;obtain⟨h2,y⟩:=bG.mp b;exact(List.getElem_inj n).mp (q.trans y.symm)
theorem xT{M:Model}{A:V3}{E:V1->M1->Prop}{i:Nat}{x:V2}{v:V}{u:V1}{Q:Unit->M1->Prop}(I:Inv X aa σ H s)(hN:X.N.Nodup)(hi:X.N[i]?=some x)(L:Loc X.env.scope x)(r:RelV v u)(h:∀s',Inv X aa (σ.set i (some v)) H s'->(∃a,Tu a s.heap s'.heap/\(a=X.env.locals\/X.env.cells.lookup x=some a))->Q () s')(hf:X.fn x=true\/X.env.scope.names.lookup x=some .local:=by first|exact .inl rfl|exact .inr rfl|assumption):Qm M A (storeName X.env x u) Q E s:=by
 obtain⟨m,hn,hl⟩:=id I.loc;have a0:(X.env.scope.kind==.class||(X.env.scope.kind==.module&&X.env.locals !=X.env.globals))=false:=by rw[I.ok.kind];rfl
 have R:i<σ.length:=by rw[I.len];exact(bG.mp hi).1
 have cne:=I.cne;have D:∀{a:V0}{h':Z3},(∃o,s.heap.get? a=some o/\H a=none)->Tu a s.heap h'->cV X.prog X.w H h':=λ{a h'} ha B b ob e=>by
  obtain⟨ω,ω,N⟩:=ha;refine(I.hok b ob e).stay (λ c w' J q=>(B.2 c ?_).trans q) (λ ω q=>q) λ ω ω q=>q;rintro rfl;rcases J with rfl|J
  ·rw[N]at e;cases e
  ·rw[N]at J;cases J
 rcases L with S|S
 ·refine wpAny_storeName_local S hn (λ h' f0 B=>?_) a0;obtain⟨oL,ω,ω,g0,ω⟩:=id hn;refine h _ ⟨I.ok,I.os,I.bare,⟨λ b o e n U L=>?_,λ b o e n U L=>?_,I.base.free,λ b o e L=>?_,I.base.tups,I.base.frzs,I.base.tbls⟩,⟨_,f0,λ j y v' G O e3=>?_⟩,λ y c e=>?_,I.free,I.freeC,λ p hp=>?_,D ⟨oL,g0,I.free⟩ B,by simpa using I.len⟩ ⟨_,B,.inl rfl⟩
  ·exact(B.2 b (bY (cK (Qi e) I.ok.above))).trans (I.base.keep b o e n U L)
  ·obtain⟨sl,G⟩:=I.base.slot b o e n U L;exact⟨sl,(B.2 b (bY (cK (Qi e) I.ok.above))).trans G⟩
  ·obtain⟨o',G⟩:=I.base.there b o e L;exact⟨o',(B.2 b (bY (cK (Qi e) I.ok.above))).trans G⟩
  ·by_cases Y:j=i
   ·subst Y;rw[hi]at G;cases G;rw[j6 R]at O;cases O;exact⟨u,r,.inl ⟨S,by simp⟩⟩
   ·rw[nL (Ne.symm Y)]at O;obtain⟨u',r',q⟩:=hl j y v' G O e3;refine⟨u',r',?_⟩;rcases q with⟨k,e⟩|⟨k,c,e,z⟩
    ·refine .inl ⟨k,?_⟩;have:y≠x:=λ e=>Y (xi hN G (e▸hi));simp[this,e]
    ·exact .inr ⟨k,c,e,z.sameBut B (cne y c e)⟩
  ·obtain⟨w',z⟩:=I.cell y c e;exact⟨w',z.sameBut B (cne y c e)⟩
  ·obtain⟨e,n,ne,nf,d⟩:=I.pin p hp;exact⟨(B.2 p.1 ne).trans e,n,ne,nf,d⟩
 ·have Z:X.fn x=true:=by
   rcases hf with z|z
   ·exact z
   ·rw[z]at S;cases S
  obtain⟨c,J⟩:=I.ok.has x (.inl S);obtain⟨w',z⟩:=I.cell x c J;refine wpAny_storeName_cell I.ok.kind S J z (λ h' b0 B=>?_);obtain⟨oc,c0,d0⟩:=id z;refine h {s with heap:=h'} ⟨I.ok,I.os,I.bare,⟨λ b o e n U L=>?_,λ b o e n U L=>?_,I.base.free,λ b o e L=>?_,I.base.tups,I.base.frzs,I.base.tbls⟩,⟨m,hn.sameBut B (Ne.symm (cne x c J)),λ j y v' G O e3=>?_⟩,λ y c' e=>?_,I.free,I.freeC,λ p hp=>?_,D ⟨oc,c0,I.freeC x c J⟩ B,by simpa using I.len⟩ ⟨c,B,.inr J⟩
  ·exact(B.2 b (bY (cK (Qi e) (I.ok.cab x c Z J)))).trans (I.base.keep b o e n U L)
  ·obtain⟨sl,G⟩:=I.base.slot b o e n U L;exact⟨sl,(B.2 b (bY (cK (Qi e) (I.ok.cab x c Z J)))).trans G⟩
  ·obtain⟨o',G⟩:=I.base.there b o e L;exact⟨o',(B.2 b (bY (cK (Qi e) (I.ok.cab x c Z J)))).trans G⟩
  ·by_cases Y:j=i
   ·subst Y;rw[hi]at G;cases G;rw[j6 R]at O;cases O;exact⟨u,r,.inr ⟨.inl S,c,J,b0⟩⟩
   ·rw[nL (Ne.symm Y)]at O;obtain⟨u',r',q⟩:=hl j y v' G O e3;refine⟨u',r',?_⟩;rcases q with q|⟨k,c',e,z'⟩
    ·exact .inl q
    ·refine .inr ⟨k,c',e,z'.sameBut B ?_⟩;rintro rfl;exact Y (xi hN G (I.ok.inj _ _ _ e J▸hi))
  ·by_cases e0:c'=c
   ·subst e0;exact⟨_,b0⟩
   ·obtain⟨w2,z2⟩:=I.cell y c' e;exact⟨w2,z2.sameBut B e0⟩
  ·obtain⟨e,n,ne,nf,d⟩:=I.pin p hp;refine⟨(B.2 p.1 ?_).trans e,n,ne,nf,d⟩;intro q;rw[q,c0]at e;have q':oc=p.2:=dG e;exact d w' (by rw[<-q'];exact d0)
theorem wV{M:Model}{A:V3}{E:V1->M1->Prop}{i:Nat}{x:V2}{v:V}{u:V1}{Q:Unit->M1->Prop}(I:Inv X aa σ H s)(j:X.N.Nodup)(hi:X.N[i]?=some x)(n:Loc X.env.scope x)(r:RelV v u)(h:∀s',Inv X aa (σ.set i (some v)) H s'->Q () s')(q:X.fn x=true\/X.env.scope.names.lookup x=some .local:=by first|exact .inl rfl|exact .inr rfl|assumption):Qm M A (storeName X.env x u) Q E s:=
 xT I j hi n r (λ s' y ω=>h s' y) q
theorem Inv.call'{s':M1}{ch:List V0}(I:Inv X aa σ H s)(n:s'.os=s.os)(u:Un (fJ X.stack) ch H H' s.heap s'.heap)(i:cV X.prog X.w H' s'.heap)(q:SG s'.gens)(j:∀b∈ch,(b∈X.ex\/X.s₀.heap.objs.size<=b)/\b≠X.env.locals/\(∀x c,X.env.cells.lookup x=some c->c≠b)/\∀p∈X.pn++aa,p.1≠b):Inv X aa σ H' s':=by
 obtain⟨h',g',d',t',o'⟩:=s';have e:o'=s.os:=n;subst e;exact I.call (g':=g') (t':=t') (d':=d') u i q j
end
abbrev XK:=V1->Option V0->Hp->Prop
abbrev St:=List (Option V)
abbrev VK:=V->Hp->Prop
abbrev TE:=St->Hp->VK->Prop
abbrev TT:=St->Hp->(Bool->Hp->Prop)->Prop
abbrev TA:=St->Hp->(List V->Hp->Prop)->Prop
structure bc where
 nx:St->Hp->Prop
 rt:VK
 bk:St->Hp->Prop:=λ ω ω=>False
 ct:St->Hp->Prop:=λ ω ω=>False
abbrev TS:=bc->St->Hp->Prop
def EP(X:Cx)(aa:List (V0×Obj))(σ:St)(Q:VK)(u:V1)(s':M1):Prop:=∃v H',Inv X aa σ H' s'/\RelV v u/\Q v H'
def TP(X:Cx)(aa:List (V0×Obj))(σ:St)(Q:Bool->Hp->Prop)(b:Bool)(s':M1):Prop:=∃H',Inv X aa σ H' s'/\Q b H'
def AP(X:Cx)(aa:List (V0×Obj))(σ:St)(Q:List V->Hp->Prop)(us:List V1)(s':M1):Prop:=∃vs H',Inv X aa σ H' s'/\ax vs us/\Q vs H'
def SP(X:Cx)(aa:List (V0×Obj))(D:bc)(f:Flow)(s':M1):Prop:=
 match f with
 | .next=>∃i H',Inv X aa i H' s'/\D.nx i H'
 | .brk=>∃i H',Inv X aa i H' s'/\D.bk i H'
 | .cont=>∃i H',Inv X aa i H' s'/\D.ct i H'
 | .ret u=>∃v i H',Inv X aa i H' s'/\RelV v u/\D.rt v H'
def PE(X:Cx)(e:Expr)(t:TE):Prop:=
 ∀(aa:List (V0×Obj))(s:M1)(σ:St)(H:Hp)(Q:VK),Inv X aa σ H s->t σ H Q->Qm s!"c" X.A (QA e X.env) (EP X aa σ Q) X.xe s
def PT(X:Cx)(e:Expr)(t:TT):Prop:=
 ∀(aa:List (V0×Obj))(s:M1)(σ:St)(H:Hp)(Q:Bool->Hp->Prop),Inv X aa σ H s->t σ H Q->Qm s!"c" X.A (isTrue e X.env (QA e X.env)) (TP X aa σ Q) X.xe s
def PW(X:Cx)(e:Expr)(t:TT):Prop:=
 ∀(i:Sem V1)(aa:List (V0×Obj))(s:M1)(σ:St)(H:Hp)(Q:Bool->Hp->Prop),Inv X aa σ H s->t σ H Q->Qm s!"c" X.A (isTrue e X.env i) (TP X aa σ Q) X.xe s
theorem PW.pt{X:Cx}{e:Expr}{t:TT}(h:PW X e t):PT X e t:=h _
def PA(X:Cx)(es:List Expr)(t:TA):Prop:=
 ∀(pos:Pos)(aa:List (V0×Obj))(s:M1)(σ:St)(H:Hp)(Q:List V->Hp->Prop),Inv X aa σ H s->t σ H Q->Qm s!"c" X.A (spliced (QF pos (Ql es X.env))) (AP X aa σ Q) X.xe s
def PS(X:Cx)(st:Qw)(t:TS):Prop:=
 ∀(aa:List (V0×Obj))(s:M1)(σ:St)(H:Hp)(D:bc),Inv X aa σ H s->t D σ H->Qm s!"c" X.A (exec st X.env) (SP X aa D) X.xe s
def fb(X:Cx)(st:List Qw)(t:TS):Prop:=
 ∀(aa:List (V0×Obj))(s:M1)(σ:St)(H:Hp)(D:bc),Inv X aa σ H s->t D σ H->Qm s!"c" X.A (execs st X.env) (SP X aa D) X.xe s
theorem aM{i:Type}{t:Sem i}{Q Q':i->M1->Prop}{M:Model}{A:V3}{E:V1->M1->Prop}{s:M1}(h:Qm M A t Q E s)(j:∀a s,Q a s->Q' a s):Qm M A t Q' E s:=QI h j λ ω ω x=>x
end L2
namespace L2
open PySem PySem.Spec PyProof.Rows
section
variable{X:Cx}
def oN(i:Nat):TE:=λ σ H Q=>∃v,σ[i]?=some (some v)/\Q v H
def tC(v:V):TE:=λ ω H Q=>Q v H
theorem HW{i:Nat}{x:V2}{pos:Pos}(z:X.N[i]?=some x)(B:m5 X.env.scope x)(hd:s!"p"=false:=by decide)(q:(x==("__classdict__":V2))=false:=by decide):PE X (.Name x pos) (oN i):=by
 intro aa s σ H Q I h;obtain⟨v,e,h⟩:=h;obtain⟨m,D,hl⟩:=I.loc;obtain⟨u,r,l⟩:=hl i x v z e B;have fin:EP X aa σ Q u s:=⟨v,H,I,r,h⟩;rcases l with⟨n,G⟩|⟨n,c,y,j⟩
 ·exact wpAny_Name (wpAny_loadName_local I.ok.kind n D G fin) hd
 ·rcases n with n|n
  ·exact wpAny_Name (wpAny_loadName_cell I.ok.kind n y j fin) hd
  ·exact wpAny_Name (wpAny_loadName_free I.ok.kind n y j fin q) hd
theorem az{i j pos}:PE X (.Constant (.int i) j pos) (tC (.int i)):=λ ω ω ω H ω I h=>wpAny_Constant_int ⟨.int i,H,I.tok _,⟨_,rfl⟩,h⟩
theorem jG{b j pos}:PE X (.Constant (.bool b) j pos) (tC (.bl b)):=λ ω ω ω H ω I h=>Constant_bool ⟨.bl b,H,I,rfl,h⟩
theorem fj{j pos}:PE X (.Constant .none j pos) (tC .non):=λ ω ω ω H ω I h=>Constant_none ⟨.non,H,I,rfl,h⟩
theorem aX{x j pos}:PE X (.Constant (.str x) j pos) (tC (.str x)):=λ ω ω ω H ω I h=>Calls.Constant_str ⟨.str x,H,I.tok _,⟨_,rfl⟩,h⟩
def Gl(X:Cx)(x:V2):Prop:=X.env.kindOf x=some .globalImplicit
theorem mM{E:V1->M1->Prop}{aa:List (V0×Obj)}{s:M1}{σ:St}{H:Hp}{x:V2}{u:V1}{pos:Pos}{Q:V1->M1->Prop}(I:Inv X aa σ H s)(i:Gl X x)(j:X.mg x=some u)(h:Q u s)(hd:s!"p"=false:=by decide):Qm s!"c" X.A (QA (.Name x pos) X.env) Q E s:=
 Calls.Name_function_global I.ok.kind i (Calls.loadGlobal_global (by rw[I.ok.glob];exact I.mod.glob.keeps I.bk) j h) hd
theorem ip{E:V1->M1->Prop}{aa:List (V0×Obj)}{s:M1}{σ:St}{H:Hp}{x:V2}{u:V1}{pos:Pos}{Q:V1->M1->Prop}(I:Inv X aa σ H s)(i:Gl X x)(j:X.mg x=none)(n:Qv x=some u)(h:Q u s)(q:x≠"__name__":=by decide)(hd:s!"p"=false:=by decide):Qm s!"c" X.A (QA (.Name x pos) X.env) Q E s:=by
 obtain⟨y,h1,h2⟩:=I.mod.blt;exact Calls.Name_function_global I.ok.kind i (Calls.loadGlobal_builtin (by rw[I.ok.glob];exact I.mod.glob.keeps I.bk) j (by rw[I.ok.blt];exact h1.keeps I.bk) ((h2 x q).trans n) h) hd
theorem DM{x:V2}{v:V}{u:V1}{pos:Pos}(i:Gl X x)(j:X.mg x=some u)(r:RelV v u)(hd:s!"p"=false:=by decide):PE X (.Name x pos) (tC v):=
 λ ω ω ω H ω I h=>mM I i j ⟨v,H,I,r,h⟩ hd
theorem qr{x:V2}{v:V}{u:V1}{pos:Pos}(i:Gl X x)(j:X.mg x=none)(n:Qv x=some u)(r:RelV v u)(q:x≠"__name__":=by decide)(hd:s!"p"=false:=by decide):PE X (.Name x pos) (tC v):=
 λ ω ω ω H ω I h=>ip I i j n ⟨v,H,I,r,h⟩ q hd
variable{a b:Expr}{ta tb:TE}{pos:Pos}
def tB(t:TE):TT:=λ σ H Q=>t σ H λ x H1=>∃c,x=.bl c/\Q c H1
theorem i6{e:Expr}{t:TE}(h:PE X e t)(n:∀i,isTrue e X.env i=(do let v<-i;Q4 e.pos;RB [v] (truthy v)):=by intro _;rfl):PT X e (tB t):=by
 intro aa s σ H Q I y;refine isTrue_plain (aM (h aa s σ H _ I y) λ v G j=>?_) (n _);obtain⟨x,H1,z,B,D⟩:=j;obtain⟨d,rfl,q⟩:=D;cases B;exact Q5 ⟨H1,z,q⟩
variable{tA tB':TT}{rest:List Expr}
def oX(t u:TT):TT:=λ σ H Q=>t σ H λ c H1=>if c=true then u σ H1 Q else Q false H1
def yZ(t u:TT):TT:=λ σ H Q=>t σ H λ c H1=>if c=true then Q true H1 else u σ H1 Q
def oT(t:TT):TT:=λ σ H Q=>t σ H λ c H1=>Q (!c) H1
theorem mQ(i:PT X a tA):PW X (.BoolOp .And [a] pos) tA:=by
 intro j aa s σ H Q I h;refine isTrue_and (aM (i aa s σ H Q I h) λ c n e=>?_);cases c with
 |true=>exact isTrue_and_nil e
 |false=>exact e
theorem qp(i:PT X a tA):PW X (.BoolOp .Or [a] pos) tA:=by
 intro j aa s σ H Q I h;refine isTrue_or (aM (i aa s σ H Q I h) λ c n e=>?_);cases c with
 |false=>exact isTrue_or_nil e
 |true=>exact e
theorem kZ(q:PT X a tA)(y:PW X (.BoolOp .And (b::rest) pos) tB'):PW X (.BoolOp .And (a::b::rest) pos) (oX tA tB'):=by
 intro z aa s σ H Q I h;refine isTrue_and (aM (q aa s σ H _ I h) λ c B i=>?_);obtain⟨H1,j,n⟩:=i;cases c with
 |true=>exact y z aa B σ H1 Q j n
 |false=>exact⟨H1,j,n⟩
theorem oF(q:PT X a tA)(y:PW X (.BoolOp .Or (b::rest) pos) tB'):PW X (.BoolOp .Or (a::b::rest) pos) (yZ tA tB'):=by
 intro z aa s σ H Q I h;refine isTrue_or (aM (q aa s σ H _ I h) λ c B i=>?_);obtain⟨H1,j,n⟩:=i;cases c with
 |true=>exact⟨H1,j,n⟩
 |false=>exact y z aa B σ H1 Q j n
theorem ko(i:PT X a tA):PT X (.UnaryOp .Not a pos) (oT tA):=by
 intro aa s σ H Q I h;exact isTrue_not (i aa s σ H (λ c H1=>Q (!c) H1) I h)
def Ca(ta tb:TE):TE:=λ σ H Q=>ta σ H λ x H1=>∃c,x=.bl c/\if c=true then tb σ H1 Q else Q (.bl false) H1
def oR(ta tb:TE):TE:=λ σ H Q=>ta σ H λ x H1=>∃c,x=.bl c/\if c=true then Q (.bl true) H1 else tb σ H1 Q
theorem qi{op}{t:TE}(h:PE X a t):PE X (.BoolOp op [a] pos) t:=λ aa s σ H Q I i=>BoolOp_one (h aa s σ H Q I i)
theorem mJ(q:PE X a ta)(y:PE X (.BoolOp .And (b::rest) pos) tb):PE X (.BoolOp .And (a::b::rest) pos) (Ca ta tb):=by
 intro aa s σ H Q I h;refine BoolOp_and (aM (q aa s σ H _ I h) λ v z j=>?_);obtain⟨x,H1,n,B,i⟩:=j;obtain⟨c,rfl,i⟩:=i;cases B;refine Q5 ?_;cases c with
 |true=>exact y aa z σ H1 Q n i
 |false=>exact⟨.bl false,H1,n,rfl,i⟩
theorem Ga(q:PE X a ta)(y:PE X (.BoolOp .Or (b::rest) pos) tb):PE X (.BoolOp .Or (a::b::rest) pos) (oR ta tb):=by
 intro aa s σ H Q I h;refine BoolOp_or (aM (q aa s σ H _ I h) λ v z j=>?_);obtain⟨x,H1,n,B,i⟩:=j;obtain⟨c,rfl,i⟩:=i;cases B;refine Q5 ?_;cases c with
 |false=>exact y aa z σ H1 Q n i
 |true=>exact⟨.bl true,H1,n,rfl,i⟩
def y4(t:TT)(ta tb:TE):TE:=λ σ H Q=>t σ H λ c H1=>if c=true then ta σ H1 Q else tb σ H1 Q
theorem wR{c:Expr}(y:PT X c tA)(z:PE X a ta)(B:PE X b tb):PE X (.IfExp c a b pos) (y4 tA ta tb):=by
 intro aa s σ H Q I h;refine wpAny_IfExp (aM (y aa s σ H _ I h) λ d j i=>?_);obtain⟨H1,n,q⟩:=i;cases d with
 |true=>exact z aa j σ H1 Q n q
 |false=>exact B aa j σ H1 Q n q
end
end L2
namespace L2
open PySem PySem.Spec PyProof.Rows
def ai(K:X0)(H:Hp)(a:V0)(xs:List V):Prop:=
 Rd H a (.lst xs)\/
  ∃(o:Obj)(i:Array V1)(n:Nat),K.lookup a=some o/\o.cls=.type "list"/\o.dict=none/\o.data=.seq i n/\i.size<=Qj/\ax xs i.toList
def ao(K:X0)(H:Hp)(a:V0)(xs:List V):Prop:=
 Rd H a (.tup xs)\/
  ∃(o:Obj)(i:Array V1)(n:Nat),K.lookup a=some o/\(o.cls=.type "tuple"/\o.dict=none)/\o.data=.seq i n/\i.size<=Qj/\ax xs i.toList
def wg:V1->Option V
 | .none=>some .non
 | .bool b=>some (.bl b)
 | .int i _=>some (.int i)
 | .str x _=>some (.str x)
 | .bytes b _=>some (.byt b)
 | .float b _=>some (.flt b)
 | .ref a=>some (.ref a)
 | .type n=>some (.ty n)
 |_=>none
theorem RelV.abs{x:V}{u:V1}(r:RelV x u):wg u=some x:=by
 cases x with
 |non=>cases r;rfl
 |bl _=>cases r;rfl
 |int _=>obtain⟨t,rfl⟩:=r;rfl
 |str _=>obtain⟨t,rfl⟩:=r;rfl
 |byt _=>obtain⟨t,rfl⟩:=r;rfl
 |flt _=>obtain⟨t,rfl⟩:=r;rfl
 |ref _=>cases r;rfl
 |ty _=>cases r;rfl
theorem RelV.inj{x y:V}{u:V1}(r:RelV x u)(q:RelV y u):x=y:=dG (r.abs.symm.trans q.abs)
theorem ax.inj:∀{xs ys:List V}{us:List V1},ax xs us->ax ys us->xs=ys
 |_,_,_,.nil,.nil=>rfl
 |_,_,_,.cons r t,.cons i j=>by rw[r.inj i,ax.inj t j]
section
variable{X:Cx}{aa:List (V0×Obj)}{σ:St}{H:Hp}{s:M1}{a:V0}{xs ys:List V}
theorem ai.of{K:X0}(h:H a=some (.lst xs)):ai K H a xs:=.inl (.inl h)
theorem ao.of{K:X0}(h:H a=some (.tup xs)):ao K H a xs:=.inl (.inl h)
theorem Inv.list(I:Inv X aa σ H s)(h:ai X.K H a xs):∃its:List V1,ax xs its/\PlainL s.heap a its.toArray/\xs.length<=Qj:=by
 rcases h with h|⟨o,its,n,i,j,hd,q,y,r⟩
 ·obtain⟨z,its,n,r,e⟩:=h.ok I.hok;exact⟨its,r,⟨_,n,e,rfl,rfl,rfl⟩,z⟩
 ·refine⟨its.toList,r,⟨o,n,I.kIn a o i,j,hd,by simpa using q⟩,?_⟩;have e:=r.length;simp only[j5]at e;lia
theorem Inv.tuple(I:Inv X aa σ H s)(h:ao X.K H a xs):∃its:List V1,ax xs its/\T3 s.heap a its.toArray/\xs.length<=Qj:=by
 rcases h with h|⟨o,its,n,i,j,q,y,r⟩
 ·obtain⟨z,its,r,p⟩:=h.ok I.hok;exact⟨its,r,p,z.1⟩
 ·refine⟨its.toList,r,⟨o,I.kIn a o i,j.1,n,by simpa using q⟩,?_⟩;have e:=r.length;simp only[j5]at e;lia
theorem Inv.list_inj(I:Inv X aa σ H s)(h:ai X.K H a xs)(h':ai X.K H a ys):xs=ys:=by
 obtain⟨i,r,⟨o,n,e,ω,ω,d⟩,ω⟩:=I.list h;obtain⟨its',y,⟨o',z,j,ω,ω,q⟩,ω⟩:=I.list h';rw[e]at j;cases j;rw[d]at q;injection q with d1 _
 have:i=its':=by simpa using congrArg Array.toList d1
 subst this;exact r.inj y
theorem Inv.tuple_inj(I:Inv X aa σ H s)(h:ao X.K H a xs)(h':ao X.K H a ys):xs=ys:=by
 obtain⟨i,r,⟨o,e,ω,n,d⟩,ω⟩:=I.tuple h;obtain⟨its',y,⟨o',j,ω,z,q⟩,ω⟩:=I.tuple h';rw[e]at j;cases j;rw[d]at q;injection q with d1 _
 have:i=its':=by simpa using congrArg Array.toList d1
 subst this;exact r.inj y
end
abbrev Cx.wish(X:Cx)(E:V1->M1->Prop):Cx:={X with xe:=E}
abbrev Cx.nox(X:Cx):Cx:=X.wish λ ω ω=>False
variable{X:Cx}
theorem Cx.Ok.wish(ok:X.Ok)(E:V1->M1->Prop):(X.wish E).Ok:=
 ⟨ok.mod,ok.kind,ok.glob,ok.blt,ok.above,ok.inj,ok.has,ok.cab,ok.hd,ok.frames,ok.stk,ok.exf,ok.bs,ok.bsz,ok.noex,ok.exfs,ok.funs,ok.frf⟩
theorem Cx.Ok.unwish{E:V1->M1->Prop}(ok:(X.wish E).Ok):X.Ok:=
 ⟨ok.mod,ok.kind,ok.glob,ok.blt,ok.above,ok.inj,ok.has,ok.cab,ok.hd,ok.frames,ok.stk,ok.exf,ok.bs,ok.bsz,ok.noex,ok.exfs,ok.funs,ok.frf⟩
section
variable{X:Cx}{aa:List (V0×Obj)}{σ:St}{H:Hp}{s:M1}{E:V1->M1->Prop}
theorem Inv.wish(I:Inv X aa σ H s)(E:V1->M1->Prop):Inv (X.wish E) aa σ H s:=⟨I.ok.wish E,I.os,I.bare,I.base,I.loc,I.cell,I.free,I.freeC,I.pin,I.hok,I.len⟩
theorem Inv.unwish(I:Inv (X.wish E) aa σ H s):Inv X aa σ H s:=⟨I.ok.unwish,I.os,I.bare,I.base,I.loc,I.cell,I.free,I.freeC,I.pin,I.hok,I.len⟩
theorem SP.unwish{D:bc}{f:Flow}{s':M1}(h:SP (X.wish E) aa D f s'):SP X aa D f s':=by
 cases f with
 |next=>obtain⟨σ',H',I,q⟩:=h;exact⟨σ',H',I.unwish,q⟩
 |brk=>obtain⟨σ',H',I,q⟩:=h;exact⟨σ',H',I.unwish,q⟩
 |cont=>obtain⟨σ',H',I,q⟩:=h;exact⟨σ',H',I.unwish,q⟩
 |ret u=>obtain⟨v,σ',H',I,r,q⟩:=h;exact⟨v,σ',H',I.unwish,r,q⟩
theorem fb.nox{st:List Qw}{t:TS}(h:fb X.nox st t):fb X st t:=λ aa s σ H D I i=>
 QI (h aa s σ H D (I.wish _) i) (λ ω ω q=>q.unwish) λ ω ω z=>False.elim z
end
section
variable{X:Cx}{st:Qw}{rest:List Qw}{t u:TS}{e:Expr}{te:TE}{pos:Pos}
def uY:TS:=λ D σ H=>D.nx σ H
def ar(t u:TS):TS:=λ D σ H=>t {D with nx:=u D} σ H
theorem bL:fb X [] uY:=λ ω ω σ H ω I h=>RH ⟨σ,H,I,h⟩
theorem aw(h1:PS X st t)(h2:fb X rest u):fb X (st::rest) (ar t u):=by
 intro aa s σ H D I h;refine wpAny_execs_cons (aM (h1 aa s σ H {D with nx:=u D} I h) λ f s1 q=>?_);cases f with
 |next=>
  obtain⟨σ',H',I',q⟩:=q;exact h2 aa s1 σ' H' D I' q
 |ret v=>exact q
 |brk=>exact q
 |cont=>exact q
theorem aC(h1:PS X st t):fb X [st] t:=by
 intro aa s σ H D I h;refine wpAny_execs_cons (aM (h1 aa s σ H D I h) λ f s1 q=>?_);cases f with
 |next=>exact RH q
 |ret v=>exact q
 |brk=>exact q
 |cont=>exact q
theorem Inv.quiet{aa:List (V0×Obj)}{σ:St}{H:Hp}{s:M1}(I:Inv X aa σ H s):interactive X.env=false:=by simp[interactive,I.ok.kind]
def Cz(te:TE):TS:=λ D σ H=>te σ H λ ω H1=>D.nx σ H1
theorem d8(i:PE X e te)(hs:Sk e none pos.line X.env=pure false:=by rfl):PS X (.Expr e pos) (Cz te):=by
 intro aa s σ H D I h;exact wpAny_Expr_any (aM (i aa s σ H _ I h) λ v q ⟨x,H1,j,y,n⟩=>⟨σ,H1,j,n⟩) I.quiet hs
def oQ(te:TE):TS:=λ D σ H=>te σ H D.rt
theorem aY(i:PE X e te):PS X (.Return (some e) pos) (oQ te):=by
 intro aa s σ H D I h;exact wpAny_Return_some (aM (i aa s σ H _ I h) λ v y ⟨x,H1,j,n,q⟩=>⟨x,σ,H1,j,n,q⟩)
def BY:TS:=λ D ω H=>D.rt .non H
theorem DY:PS X (.Return none pos) BY:=λ ω ω σ H ω I h=>wpAny_Return_none ⟨.non,σ,H,I,rfl,h⟩
def jg(c:TT)(t u:TS):TS:=λ D σ H=>c σ H λ b H1=>if b=true then t D σ H1 else u D σ H1
theorem bu{c:Expr}{a b:List Qw}{tc:TT}(y:PT X c tc)(z:fb X a t)(B:fb X b u):PS X (.If c a b pos) (jg tc t u):=by
 intro aa s σ H D I h;refine wpAny_If (aM (y aa s σ H _ I h) λ d j i=>?_);obtain⟨H1,n,q⟩:=i;cases d with
 |true=>exact z aa j σ H1 D n q
 |false=>exact B aa j σ H1 D n q
def CT:TS:=λ ω ω ω=>False
theorem i8:PS X st CT:=λ ω ω ω ω ω ω h=>h.elim
end
abbrev TG:=V->St->Hp->(St->Hp->Prop)->Prop
abbrev gJ:=List V->St->Hp->(St->Hp->Prop)->Prop
def PG(X:Cx)(target:Expr)(t:TG):Prop:=
 ∀(aa:List (V0×Obj))(s:M1)(σ:St)(H:Hp)(v:V)(u:V1)(Q:St->Hp->Prop),Inv X aa σ H s->RelV v u->t v σ H Q->
  Qm s!"c" X.A (Se target X.env u) (λ ω s'=>∃i H',Inv X aa i H' s'/\Q i H') X.xe s
def kG(X:Cx)(ts:List Expr)(t:gJ):Prop:=
 ∀(aa:List (V0×Obj))(s:M1)(σ:St)(H:Hp)(vs:List V)(us:List V1)(Q:St->Hp->Prop),Inv X aa σ H s->ax vs us->t vs σ H Q->
  Qm s!"c" X.A (assignInOrder ((RC ts X.env).map (·.2)) us) (λ ω s'=>∃i H',Inv X aa i H' s'/\Q i H') X.xe s
abbrev jx:=V->V->V->Hp->(Hp->Prop)->Prop
def m8(X:Cx)(t:jx):Prop:=
 ∀(aa:List (V0×Obj))(s:M1)(σ:St)(H:Hp)(o i v:V)(j n u:V1)(Q:Hp->Prop),Inv X aa σ H s->RelV o j->RelV i n->RelV v u->t o i v H Q->
  Qm s!"c" X.A (setItem j n u) (λ ω s'=>∃H',Inv X aa σ H' s'/\Q H') X.xe s
section
variable{X:Cx}{pos:Pos}
def fg(i:Nat):TG:=λ v σ H Q=>Q (σ.set i (some v)) H
theorem wh{i:Nat}{x:V2}(j:X.N.Nodup)(hi:X.N[i]?=some x)(n:Loc X.env.scope x)(q:X.fn x=true\/X.env.scope.names.lookup x=some .local:=by first|exact .inl rfl|exact .inr rfl|assumption):PG X (.Name x pos) (fg i):=by
 intro aa s σ H v u Q I r h;exact wpAny_assign_Name (wV I j hi n r (λ s' y=>⟨_,H,y,h⟩) q)
def qe:gJ:=λ vs σ H Q=>vs=[]/\Q σ H
def Cg(t:TG)(u:gJ):gJ:=λ vs σ H Q=>∃v r,vs=v::r/\t v σ H λ i H'=>u r i H' Q
theorem i9:kG X [] qe:=by
 intro aa s σ H vs us Q I r h;obtain⟨e,h⟩:=h;subst e;cases r;exact assignInOrder_nil ⟨σ,H,I,h⟩
theorem J_{e:Expr}{es:List Expr}{t:TG}{u:gJ}(h1:PG X e t)(h2:kG X es u)(hs:(RC (e::es) X.env).map (·.2)=Se e X.env::(RC es X.env).map (·.2):=by rfl):kG X (e::es) (Cg t u):=by
 intro aa s σ H vs us Q I r h;obtain⟨v,D,n,h⟩:=h;subst n;cases r with
 |cons r q=>
  rw[hs];refine assignInOrder_cons (aM (h1 aa s σ H _ _ _ I r h) λ ω y i=>?_);obtain⟨j,H1,z,B⟩:=i;exact h2 aa y j H1 _ _ Q z q B
def qc(K:X0)(n:Nat)(t:gJ):TG:=λ v σ H Q=>∃a xs,v=.ref a/\ao K H a xs/\xs.length=n/\t xs σ H Q
theorem HS{es:List Expr}{k:Nat}{t:gJ}{n:Nat}(y:X.calm=true)(h:kG X es t)(z:(RC es X.env).length=n:=by rfl)(i:(RC es X.env).findIdx? (·.1)=none:=by rfl):PG X (.Tuple es k pos) (qc X.K n t):=by
 intro aa s σ H v u Q I r j;obtain⟨a,xs,B,D,hl,j⟩:=j;subst B;cases r;obtain⟨G,q,J,N⟩:=I.tuple D;refine assign_Tuple_tuple (I.ok.hd y) J (by simp[z,<-hl,q.length]) i λ h' L=>?_;have M:Inv X aa σ H {s with heap:=h'}:=I.kept (t':=s.toks) λ b o e=>L b o (bY (Qi e)) e;exact h aa _ σ H xs _ Q M (by simpa using q) j
def qd(to ti:TE)(t:jx):TG:=λ v σ H Q=>to σ H λ o H1=>ti σ H1 λ i H2=>t o i v H2 λ j=>Q σ j
theorem mD{o i:Expr}{to z:TE}{t:jx}(B:PE X o to)(hi:PE X i z)(hs:m8 X t)(D:∀v,Se (.Subscript o i pos) X.env v=(do
   let n<-RB [v] (QA o X.env);let q<-RB [v,n] (QA i X.env)
   Q4 pos
   RB [v,n,q] (setItem n q v)
   release [v,n,q] []):=by intro _;rfl):PG X (.Subscript o i pos) (qd to z t):=by
 intro aa s σ H v u Q I r h;rw[D];refine Qf (QC (aM (B aa s σ H _ I h) λ n G j=>?_));obtain⟨x,H1,J,L,M⟩:=j;refine Qf (QC (aM (hi aa G σ H1 _ J M) λ q N j=>?_));obtain⟨y,H2,O,R,S⟩:=j;refine Qf (QO (Qf (QC (aM (hs aa N σ H2 x y v n q u _ O L R r S) λ ω s3 j=>?_))));obtain⟨U,Y,Z⟩:=j;exact wpAny_release ⟨σ,U,Y,Z⟩
def jR(te:TE)(g:TG):TS:=λ D σ H=>te σ H λ x H1=>g x σ H1 D.nx
theorem iq{tg e:Expr}{te:TE}{g:TG}(j:PE X e te)(n:PG X tg g)(hs:swapsWithSole [tg] e pos.line X.env=pure false:=by rfl)(y:swappedStores [tg] e X.env=pure none:=by rfl)(h1:(RC [tg] X.env).map (·.2)=[Se tg X.env]:=by rfl):PS X (.Assign [tg] e pos) (jR te g):=by
 intro aa s σ H D I h;refine wpAny_Assign_stores (aM (j aa s σ H _ I h) λ v z i=>?_) hs y;obtain⟨x,H1,B,G,J⟩:=i;rw[h1];exact aM (n aa z σ H1 x v _ B G J) λ ω L q=>q
theorem jH{i:Nat}{x:V2}{e:Expr}{te:TE}{pos':Pos}(n:X.N.Nodup)(hi:X.N[i]?=some x)(q:Loc X.env.scope x)(z:PE X e te)(hs:Sk e (some (.Name x pos')) pos.line X.env=pure false:=by rfl)(B:X.fn x=true\/X.env.scope.names.lookup x=some .local:=by first|exact .inl rfl|exact .inr rfl|assumption):PS X (.Assign [.Name x pos'] e pos) (jR te (fg i)):=by
 intro aa s σ H D I h;refine wpAny_Assign_Name (aM (z aa s σ H _ I h) λ v N j=>?_) hs;obtain⟨y,H1,G,J,L⟩:=j;exact wV G n hi q J (λ O M=>⟨_,H1,M,L⟩) B
end
section
variable{X:Cx}{pos:Pos}
def CK(c:TT)(tb:TS):TS:=λ D σ H=>∃W:Nat->St->Hp->Prop,(∃m,W m σ H)/\∀m σ H,W m σ H->
 c σ H λ b H1=>if b=true then ∃N:St->Hp->Prop,(∀i H',N i H'->∃j,j<m/\W j i H')/\tb {D with nx:=N,ct:=N,bk:=D.nx} σ H1 else D.nx σ H1
theorem xj{c:Expr}{body:List Qw}{tc:TT}{tb:TS}(hp:PassesOwn s!"c" X.A X.env X.xe)(hc:PT X c tc)(hb:fb X body tb):PS X (.While c body [] pos) (CK tc tb):=by
 intro aa s σ H D I h;obtain⟨W,⟨m0,w0⟩,turn⟩:=h;refine wpAny_While (codeAny_whileLoop (λ n s'=>∃σ' H',Inv X aa σ' H' s'/\W n σ' H') ?_ m0 ⟨σ,H,I,w0⟩);rintro n s1 ⟨σ1,H1,I1,w1⟩;refine Rk hp (aM (hc aa s1 σ1 H1 _ I1 (turn n σ1 H1 w1)) λ b s2 hz_=>?_);obtain⟨H2,I2,q2⟩:=hz_;cases b with
 |true=>
  obtain⟨N,hN,q2⟩:=q2;rw[T6 rfl];refine Rk hp (aM (hb aa s2 σ1 H2 _ I2 q2) λ f s3 q3=>?_);cases f with
  |next=>
   obtain⟨σ3,H3,I3,n3⟩:=q3;obtain⟨m',hm,w3⟩:=hN σ3 H3 n3;exact⟨m',hm,σ3,H3,I3,w3⟩
  |cont=>
   obtain⟨σ3,H3,I3,n3⟩:=q3;obtain⟨m',hm,w3⟩:=hN σ3 H3 n3;exact⟨m',hm,σ3,H3,I3,w3⟩
  |brk=>exact q3
  |ret v=>exact q3
 |false=>
  rw[T5 dI];exact RH ⟨σ1,H2,I2,q2⟩
end
structure It where
 go:Nat->Hp->Prop
 yld:Nat->Hp->V->Hp->Prop
 stop:Nat->Hp->Prop
def cz(X:Cx)(aa:List (V0×Obj))(H:Hp)(b:V0):Prop:=
 H b=none/\b≠X.env.locals/\b∉X.fs/\(b∈X.ex\/X.s₀.heap.objs.size<=b)/\(∀x c,X.env.cells.lookup x=some c->c≠b)/\∀p∈X.pn++aa,p.1≠b
theorem Inv.fpOk{aa:List (V0×Obj)}{σ:St}{H H':Hp}{s:M1}{b:V0}(I:Inv X aa σ H s)(i:s.heap.objs.size<=b)(j:H' b=none):cz X aa H' b:=by
 refine⟨j,gC (cK I.lt i),I.nofs i,.inr (cb I.sz i),λ x c e z=>?_,λ p n z=>?_⟩
 ·obtain⟨v,q⟩:=I.cell x c e;exact T7 (cK q.lt (by rw[z];exact i)) (fu _)
 ·exact T7 (cK (Qi (I.pin p n).1) (by rw[z];exact i)) (fu _)
structure g_(P:Program)(w:Y3)(K:X0)(tg:Expr)(J:It)(fp:List V0)(it:V0)(tn:Nat->Z3->Prop):Prop where
 mem:it∈fp
 obj:∀i h,tn i h->∀b∈fp,∃o,h.get? b=some o/\∀v,o.data≠.cell v
 keep:∀i h h',tn i h->(∀b∈fp,∀o,h.get? b=some o->h'.get? b=some o)->tn i h'
 item:∀(X:Cx),X.prog=P->X.w=w->X.K=K->X.calm=true->∀(i:Nat)(aa:List (V0×Obj))(s:M1)(σ:St)(H:Hp)(E:V1->M1->Prop),Inv X aa σ H s->(∀b∈fp,cz X aa H b)->tn i s.heap->J.go i H->
  Qm (Qn P w) X.A (Sf (.ref it)) (λ r s1=>∃u,r=some u/\Qm (Qn P w) X.A (Rl tg (.ref it) u) (λ ω s2=>∃x H',Inv X aa σ H' s2/\RelV x u/\J.yld i H x H'/\tn (i+1) s2.heap/\∀b∈fp,H' b=none) E s1) E s
 done:∀(X:Cx),X.prog=P->X.w=w->X.K=K->X.calm=true->∀(i:Nat)(aa:List (V0×Obj))(s:M1)(σ:St)(H:Hp)(E:V1->M1->Prop),Inv X aa σ H s->(∀b∈fp,cz X aa H b)->tn i s.heap->J.stop i H->
  Qm (Qn P w) X.A (Sf (.ref it)) (λ r s1=>r=none/\Inv X aa σ H s1) E s
 self:∀(A:V3)(i:Nat)(s:M1)(Q:V1->M1->Prop)(E:V1->M1->Prop),tn i s.heap->Q (.ref it) s->Qm (Qn P w) A (pyIter (.ref it)) Q E s
abbrev TI:=St->Hp->(It->Hp->Prop)->Prop
def BK(X:Cx)(aa:List (V0×Obj))(σ:St)(tg:Expr)(R:It->Hp->Prop)(itv:V1)(s2:M1):Prop:=
 ∃(i:V0)(j:List V0)(n:Nat->Z3->Prop)(J:It)(H':Hp),itv=.ref i/\Inv X aa σ H' s2/\g_ X.prog X.w X.K tg J j i n/\n 0 s2.heap/\(∀b∈j,cz X aa H' b)/\R J H'
def PI(X:Cx)(tg iter:Expr)(wi:TI):Prop:=
 ∀(aa:List (V0×Obj))(s:M1)(σ:St)(H:Hp)(R:It->Hp->Prop),Inv X aa σ H s->wi σ H R->
  Qm s!"c" X.A (QA iter X.env) (λ v i=>Qm s!"c" X.A (pyIter v) (BK X aa σ tg R) X.xe i) X.xe s
variable{tg:Expr}
theorem u6{M:Model}{A:V3}{E:V1->M1->Prop}{s:M1}{it:V0}{u:V1}{o:Obj}{n:String}{vs:Array V1}{Q:Unit->M1->Prop}(j:s.heap.get? it=some o)(q:o.cls=.type n)(hd:o.data=.fields vs)(y:["enumerate","zip","dict_itemiterator","dict_reverseitemiterator","odict_iterator","itertools.zip_longest","itertools.pairwise"].contains n=false)(i:Q () s):Qm M A (Rl tg (.ref it) u) Q E s:=by
  unfold Rl;cases tg <;> first
    |exact Qh i
    | (cases u <;> first
        |exact Qh i
        | (refine Qf (wpAny_load j ?_)
           rw[q,hd];show Qm M A (if(["enumerate","zip","dict_itemiterator","dict_reverseitemiterator","odict_iterator","itertools.zip_longest","itertools.pairwise"].contains n&&vs[0]?==some (QJ _))=true then _ else _) Q E s;rw[T5 (by intro h;rw[y,pK]at h;cases h)];exact Qh i))
def je(K:X0)(a:V0):It:=
 ⟨λ i H=>∃xs x,ai K H a xs/\xs[i]?=some x,λ i H x H'=>H'=H/\∀xs,ai K H a xs->xs[i]?=some x,λ i H=>∃xs,ai K H a xs/\xs.length<=i⟩
def kP(K:X0)(a:V0):It:=
 ⟨λ i H=>∃xs x,ao K H a xs/\xs[i]?=some x,λ i H x H'=>H'=H/\∀xs,ao K H a xs->xs[i]?=some x,λ i H=>∃xs,ao K H a xs/\xs.length<=i⟩
def jd(lo:Int)(n:Nat):It:=⟨λ i ω=>i<n,λ i H x H'=>H'=H/\x=.int (lo+i),λ i ω=>n<=i⟩
variable{P:Program}{K:X0}
theorem Le{w:Y3}(a it:V0):g_ P w K tg (je K a) [it] it (λ i h=>h.IsListIter it a i)where
 mem:=by simp
 obj:=λ i h st b j=>by
  have e:b=it:=by simpa using j
  subst e;obtain⟨o,e,c,d⟩:=st;exact⟨o,e,λ v z=>by rw[d]at z;cases z⟩
 keep:=λ i h h' st k=>st.at λ o e=>k it s!"n" o e
 item:=by
  intro X B D G Z i aa s σ H E I q st J;subst B D G;obtain⟨xs,x,y,L⟩:=J;obtain⟨M,N,p,hz⟩:=I.list y;obtain⟨u,hu,ru⟩:=N.get L;obtain⟨O,R,f2,S,U,Y⟩:=q it s!"n";refine wpAny_pyNext_list_item st p.isList (x:=u) (by simpa using hu) λ h' n sb=>?_;have I1:Inv X aa σ H {s with heap:=h'}:=I.turned (t':=s.toks) (λ b o j e=>(sb.2 b j).trans e) O R S U Y;obtain⟨o,e,c,d⟩:=id n;exact⟨u,rfl,u6 (s:={s with heap:=h'}) e c d qQ ⟨x,H,I1,ru,⟨rfl,λ ys hy=>by rw[I.list_inj hy y];exact L⟩,n,λ b j=>(q b j).1⟩⟩
 done:=by
  intro X B D G Z i aa s σ H E I q st J;subst B D G;obtain⟨xs,y,L⟩:=J;obtain⟨M,N,p,hz⟩:=I.list y;obtain⟨O,R,f2,S,U,Y⟩:=q it s!"n";have hl:=N.length;exact wpAny_pyNext_list_end (I.ok.hd Z) st p.isList (by simp;lia) λ h' eb=>⟨rfl,I.turned (t':=s.toks) (λ b o j e=>eb b o j e) O R S U Y⟩
 self:=λ ω ω ω ω ω st h=>wpAny_pyIter_listiter st h
theorem Mz{w:Y3}(a it:V0):g_ P w K tg (kP K a) [it] it (λ i h=>h.IsTupleIter it a i)where
 mem:=by simp
 obj:=λ i h st b j=>by
  have e:b=it:=by simpa using j
  subst e;obtain⟨o,e,c,d⟩:=st;exact⟨o,e,λ v z=>by rw[d]at z;cases z⟩
 keep:=λ i h h' st k=>st.at λ o e=>k it s!"n" o e
 item:=by
  intro X D G J Z i aa s σ H E I y st L;subst D G J;obtain⟨xs,x,B,M⟩:=L;obtain⟨n,N,p,hz⟩:=I.tuple B;obtain⟨u,hu,ru⟩:=N.get M;obtain⟨O,R,f2,S,U,Y⟩:=y it s!"n";refine wpAny_pyNext_tuple_item st (show s.heap.IsTuple a n.toArray from p) (x:=u) (by simpa using hu) λ h' q sb=>?_;have I1:Inv X aa σ H {s with heap:=h'}:=I.turned (t':=s.toks) (λ b o j e=>(sb.2 b j).trans e) O R S U Y;obtain⟨o,e,c,d⟩:=id q;exact⟨u,rfl,u6 (s:={s with heap:=h'}) e c d qQ ⟨x,H,I1,ru,⟨rfl,λ ys hy=>by rw[I.tuple_inj hy B];exact M⟩,q,λ b j=>(y b j).1⟩⟩
 done:=by
  intro X D G J Z i aa s σ H E I y st L;subst D G J;obtain⟨xs,B,M⟩:=L;obtain⟨n,N,p,hz⟩:=I.tuple B;obtain⟨O,R,f2,S,U,Y⟩:=y it s!"n";have hl:=N.length;exact wpAny_pyNext_tuple_end (I.ok.hd Z) st (show s.heap.IsTuple a n.toArray from p) (by simp;lia) λ h' eb=>⟨rfl,I.turned (t':=s.toks) (λ b o j e=>eb b o j e) O R S U Y⟩
 self:=λ ω ω ω ω ω st h=>wpAny_pyIter_tupleiter st h
theorem Mg{w:Y3}(it:V0)(lo:Int)(n:Nat):g_ P w K tg (jd lo n) [it] it (λ i h=>IsRangeIter h it (lo+(i:Nat)*1) ((n:Int)-(i:Nat)) 1)where
 mem:=by simp
 obj:=λ i h st b j=>by
  have e:b=it:=by simpa using j
  subst e;exact⟨_,st,λ v z=>by
   have U:Data.fields _=Data.cell v:=z;cases U⟩
 keep:=λ i h h' st k=>k it s!"n" _ st
 item:=by
  intro X B D G J i aa s σ H E I y st L;subst B D G;obtain⟨M,N,Y,O,R,S⟩:=y it s!"n";have W:=Walks.range (prog:=X.prog) (w:=X.w) (I.ok.hd J) it lo 1 n;refine W.item i s _ _ L st λ v h' tk Z q kk=>?_;obtain⟨t,rfl⟩:=Z;have I1:Inv X aa σ H {s with heap:=h',toks:=tk}:=I.turned (λ b o j e=>kk b o (by simpa using j) e) M N O R S;refine⟨_,rfl,u6 (s:={s with heap:=h',toks:=tk}) (n:="range_iterator") q rfl rfl qQ ⟨.int (lo+i),H,I1,⟨t,?_⟩,⟨rfl,rfl⟩,q,λ b j=>(y b j).1⟩⟩;rw[Int.mul_one]
 done:=by
  intro X B D G J i aa s σ H E I y st L;subst B D G;obtain⟨M,N,Y,O,R,S⟩:=y it s!"n";exact wpAny_pyNext_range_end (I.ok.hd J) st (by have:n<=i:=L;lia) λ h' eb=>⟨rfl,I.turned (t':=s.toks) (λ b o j e=>eb b o j e) M N O R S⟩
 self:=λ ω ω ω ω ω st h=>wpAny_pyIter_rangeiter st h
end L2
namespace L2
open PySem PySem.Spec PyProof.Rows
section
variable{X:Cx}{tg:Expr}
def Ci(K:X0)(tl:TE):TI:=λ σ H R=>tl σ H λ x H1=>∃a,x=.ref a/\(∃xs,ai K H1 a xs)/\R (je K a) H1
def qa(K:X0)(tl:TE):TI:=λ σ H R=>tl σ H λ x H1=>∃a,x=.ref a/\(∃xs,ao K H1 a xs)/\R (kP K a) H1
theorem eH{l:Expr}{tl:TE}(hl:PE X l tl):PI X tg l (Ci X.K tl):=by
 intro aa s σ H R I h;refine aM (hl aa s σ H _ I h) λ v i n=>?_;obtain⟨x,H1,j,y,z⟩:=n;obtain⟨a,e,⟨xs,B⟩,q⟩:=z;subst e;cases y;obtain⟨D,J,p,L⟩:=j.list B;refine RN p.isList ?_;refine⟨i.heap.objs.size,[i.heap.objs.size],_,_,H1,rfl,j.kept (t':=i.toks) λ b o e=>Qg _ e,Le a _,⟨_,Qo _ rfl,rfl,rfl⟩,λ b G=>?_,q⟩;have e:b=i.heap.objs.size:=by simpa using G
 subst e;exact j.fpOk (aS _) (j.hok.fresh (aS _))
theorem eY{l:Expr}{tl:TE}(hl:PE X l tl):PI X tg l (qa X.K tl):=by
 intro aa s σ H R I h;refine aM (hl aa s σ H _ I h) λ v i n=>?_;obtain⟨x,H1,j,z,B⟩:=n;obtain⟨a,e,⟨xs,D⟩,q⟩:=B;subst e;cases z;obtain⟨y,J,p,L⟩:=j.tuple D;refine wpAny_pyIter_tuple (show i.heap.IsTuple a y.toArray from p) ?_;refine⟨i.heap.objs.size,[i.heap.objs.size],_,_,H1,rfl,j.kept (t':=i.toks) λ b o e=>Qg _ e,Mz a _,⟨_,Qo _ rfl,rfl,rfl⟩,λ b G=>?_,q⟩;have e:b=i.heap.objs.size:=by simpa using G
 subst e;exact j.fpOk (aS _) (j.hok.fresh (aS _))
theorem Eg{aa:List (V0×Obj)}{σ:St}{H:Hp}{s:M1}{R:It->Hp->Prop}{E:V1->M1->Prop}{lo hi:Int}{t u v:Tok}{tk:Nat}(I:Inv X aa σ H s)(h1:-(2^62)<=lo)(h2:lo<2^62)(j:-(2^62)<=hi)(n:hi<2^62)(q:R (jd lo (hi-lo).toNat) H):Qm s!"c" X.A (pyIter (.ref s.heap.objs.size)) (BK X aa σ tg R) E {s with heap:=s.heap.push {cls:=.type "range",data:=.fields #[.int lo t,.int hi u,.int 1 v]},toks:=tk}:=by
 refine wpAny_pyIter_range (IsRange.new ..) (small_one h1 h2 j n) ?_;have i:Inv X aa σ H {s with heap:=s.heap.push {cls:=.type "range",data:=.fields #[.int lo t,.int hi u,.int 1 v]},toks:=tk}:=I.kept λ b o e=>Qg _ e;refine⟨(s.heap.push {cls:=.type "range",data:=.fields #[.int lo t,.int hi u,.int 1 v]}).objs.size,[(s.heap.push {cls:=.type "range",data:=.fields #[.int lo t,.int hi u,.int 1 v]}).objs.size],_,_,H,rfl,i.kept (t':=tk) λ b o e=>Qg _ e,Mg _ lo (hi-lo).toNat,?_,λ b y=>?_,q⟩
 ·have z:lo+((0:Nat):Int)*1=lo:=by simp
  have B:(((hi-lo).toNat:Nat):Int)-((0:Nat):Int)=Builtin.Range.rangeSize lo hi 1:=by rw[rangeSize_one];split<;>lia
  show IsRangeIter _ _ (lo+((0:Nat):Int)*1) ((((hi-lo).toNat:Nat):Int)-((0:Nat):Int)) 1;rw[z,B];exact Qo _ rfl
 ·have e:b=(s.heap.push {cls:=.type "range",data:=.fields #[.int lo t,.int hi u,.int 1 v]}).objs.size:=by simpa using y
  subst e;exact i.fpOk (aS _) (i.hok.fresh (aS _))
def Cj(ta:TA):TI:=λ σ H R=>ta σ H λ vs H1=>∃j:Int,vs=[.int j]/\-(2^62)<=j/\j<2^62/\R (jd 0 j.toNat) H1
def B4(ta:TA):TI:=λ σ H R=>ta σ H λ vs H1=>∃i j:Int,vs=[.int i,.int j]/\(-(2^62)<=i/\i<2^62/\-(2^62)<=j/\j<2^62)/\R (jd i (j-i).toNat) H1
theorem iM{a:Expr}{ta:TA}{p pos:Pos}(y:Gl X "range")(z:X.mg "range"=none)(B:PA X [a] ta)(hs:Ql [a] X.env=[(false,QA a X.env)]:=by rfl):PI X tg (.Call (.Name "range" p) [a] [] pos) (Cj ta):=by
 intro aa s σ H R I h;refine Call_ (ip I y z boot_range (Qx (aM (B pos aa s σ H _ I h) λ us M i=>?_) hs rfl));obtain⟨vs,H1,D,G,n⟩:=i;obtain⟨j,e,n,J,q⟩:=n;subst e;cases G with
 |cons r L=>
  cases L;obtain⟨t,rfl⟩:=r;exact call_range_1 (Eg D qR qR n J (by simpa using q))
theorem Mn{a b:Expr}{ta:TA}{p pos:Pos}(B:Gl X "range")(D:X.mg "range"=none)(G:PA X [a,b] ta)(hs:Ql [a,b] X.env=[(false,QA a X.env),(false,QA b X.env)]:=by rfl)(cT:Ql [b] X.env=[(false,QA b X.env)]:=by rfl):PI X tg (.Call (.Name "range" p) [a,b] [] pos) (B4 ta):=by
 intro aa s σ H R I h;refine Call_ (ip I B D boot_range (Qx (aM (G pos aa s σ H _ I h) λ us U n=>?_) (by rw[hs,cT]) (by rw[cT];rfl)));obtain⟨vs,H1,J,L,y⟩:=n;obtain⟨i,j,e,⟨y,M,N,O⟩,q⟩:=y;subst e;cases L with
 |cons r z=>
  cases z with
  |cons S z=>
   cases z;obtain⟨t,rfl⟩:=r;obtain⟨Y,rfl⟩:=S;exact call_range_2 (Eg J y M N O q)
def oW(wi:TI)(g:TG)(tb:TS):TS:=λ D σ H=>wi σ H λ J H1=>∃W:Nat->Nat->St->Hp->Prop,(∃m,W 0 m σ H1)/\∀i m σ H,W i m σ H->
 (J.stop i H/\D.nx σ H)\/(J.go i H/\∃N:St->Hp->Prop,(∀j H',N j H'->∃q,q<m/\W (i+1) q j H')/\∀x H',J.yld i H x H'->g x σ H' λ n H2=>tb {D with nx:=N,ct:=N,bk:=D.nx} n H2)
def nV(fp:List V0)(h:Z3):List (V0×Obj):=fp.filterMap λ b=>(h.get? b).map λ o=>(b,o)
theorem oh{i:List V0}{h:Z3}{b:V0}{o:Obj}(j:b∈i)(e:h.get? b=some o):(b,o)∈nV i h:=List.mem_filterMap.mpr ⟨b,j,by rw[e];rfl⟩
theorem LW{i:List V0}{h:Z3}{p:V0×Obj}(j:p∈nV i h):p.1∈i/\h.get? p.1=some p.2:=by
 obtain⟨b,n,e⟩:=List.mem_filterMap.mp j;cases q:h.get? b with
 |none=>rw[q]at e;cases e
 |some o=>
  rw[q]at e;have y:(b,o)=p:=dG e;subst y;exact⟨n,q⟩
theorem Inv.pinned{aa:List (V0×Obj)}{σ:St}{H:Hp}{s:M1}{i:List V0}(I:Inv X aa σ H s)(q:∀b∈i,cz X aa H b)(y:∀b∈i,∃o,s.heap.get? b=some o/\∀v,o.data≠.cell v):Inv X (aa++nV i s.heap) σ H s:=
 I.pins_of λ p B=>(dy.mp B).elim (λ z=>I.pin p (dY _ z)) λ z=>by
  obtain⟨j,e⟩:=LW z;obtain⟨D,G,J,ω⟩:=q p.1 j;obtain⟨o,n,d⟩:=y p.1 j;rw[e]at n;cases n;exact⟨e,D,G,J,d⟩
theorem Inv.unpinned{aa pl:List (V0×Obj)}{σ:St}{H:Hp}{s:M1}(I:Inv X (aa++pl) σ H s):Inv X aa σ H s:=I.pins_of λ p i=>I.pin p (dY _ (nM _ i))
theorem eZ{iter:Expr}{body:List Qw}{wi:TI}{g:TG}{tb:TS}{pos:Pos}(hp:PassesOwn s!"c" X.A X.env X.xe)(hc:X.calm=true)(hi:PI X tg iter wi)(hg:PG X tg g)(hb:fb X body tb)(hs:∀x,Q6 iter X.env x=pure x:=by intro _;rfl):PS X (.For tg iter body [] pos) (oW wi g tb):=by
 intro aa s σ H D I h;refine wpAny_For (aM (hi aa s σ H _ I h) λ v s1 h1=>aM h1 λ itv s2 h2=>?_) hs;obtain⟨it,fp,tn,J,H2,e,I2,T,st2,f2,W,⟨m0,w0⟩,turn⟩:=h2;subst e
 --what stays true of the iterator's objects through the loop
 have stat:∀{H':Hp},(∀b∈fp,H' b=none)->∀b∈fp,cz X aa H' b:=λ hn b hb=>⟨hn b hb,(f2 b hb).2⟩;refine codeAny_forLoop_any (λ n s'=>∃i σ' H',Inv X aa σ' H' s'/\tn i s'.heap/\(∀b∈fp,H' b=none)/\W i n σ' H') ?_ m0 ⟨0,σ,H2,I2,st2,λ b hb=>(f2 b hb).1,w0⟩;rintro n s3 ⟨i,σ3,H3,I3,st3,fr3,w3⟩;rcases turn i n σ3 H3 w3 with⟨stop,qn⟩|⟨go,N,hN,step⟩
 ·refine Rk hp (aM (T.done X rfl rfl rfl hc i aa s3 σ3 H3 X.xe I3 (stat fr3) st3 stop) λ r s4 hz_=>?_);obtain⟨hr,I4⟩:=hz_;subst hr;exact RH ⟨σ3,H3,I4,qn⟩
 ·refine Rk hp (aM (T.item X rfl rfl rfl hc i aa s3 σ3 H3 X.xe I3 (stat fr3) st3 go) λ r s4 hz_=>?_);obtain⟨u,hr,h4⟩:=hz_;subst hr;refine Rk hp (aM h4 λ ω s5 hz_=>?_);obtain⟨x,H5,I5,r5,y5,st5,fr5⟩:=hz_;have I5':=I5.pinned (stat fr5) (T.obj _ _ st5);refine Rk hp (aM (hg _ s5 σ3 H5 x u _ I5' r5 (step x H5 y5)) λ ω s6 hz_=>?_);obtain⟨σ6,H6,I6,q6⟩:=hz_;refine Rk hp (aM (hb _ s6 σ6 H6 _ I6 q6) λ f s7 q7=>?_);have again:∀{σ7:St}{H7:Hp},Inv X (aa++nV fp s5.heap) σ7 H7 s7->N σ7 H7->∃m,m<n/\∃i σ' H',Inv X aa σ' H' s7/\tn i s7.heap/\(∀b∈fp,H' b=none)/\W i m σ' H':=λ{σ7 H7} I7 n7=>by
   obtain⟨m',hm,w7⟩:=hN σ7 H7 n7;refine⟨m',hm,i+1,σ7,H7,I7.unpinned,T.keep _ _ _ st5 λ b hb o e=>(I7.pin (b,o) (dY _ (dY _ (oh hb e)))).1,λ b hb=>?_,w7⟩;obtain⟨o,e,d⟩:=T.obj _ _ st5 b hb;exact(I7.pin (b,o) (dY _ (dY _ (oh hb e)))).2.1
  cases f with
  |next=>obtain⟨σ7,H7,I7,n7⟩:=q7;exact again I7 n7
  |cont=>obtain⟨σ7,H7,I7,n7⟩:=q7;exact again I7 n7
  |brk=>obtain⟨σ7,H7,I7,q7⟩:=q7;exact⟨σ7,H7,I7.unpinned,q7⟩
  |ret v=>obtain⟨x7,σ7,H7,I7,r7,q7⟩:=q7;exact⟨x7,σ7,H7,I7.unpinned,r7,q7⟩
end
variable{σ:St}{H:Hp}{D:bc}{g:TG}
theorem KY{K:X0}{a:V0}{xs:List V}{tb:TS}(j:Nat->St->Hp->Prop)(I:j 0 σ H)(hl:∀i σ H,i<=xs.length->j i σ H->ai K H a xs)(hs:∀i x σ H,xs[i]?=some x->j i σ H->g x σ H λ n H2=>tb {D with nx:=j (i+1),ct:=j (i+1),bk:=D.nx} n H2)(hd:∀σ H,j xs.length σ H->D.nx σ H):∃W:Nat->Nat->St->Hp->Prop,(∃m,W 0 m σ H)/\∀i m σ H,W i m σ H->((je K a).stop i H/\D.nx σ H)\/((je K a).go i H/\∃N:St->Hp->Prop,(∀z H',N z H'->∃G,G<m/\W (i+1) G z H')/\∀x H',(je K a).yld i H x H'->g x σ H' λ n H2=>tb {D with nx:=N,ct:=N,bk:=D.nx} n H2):=by
 refine⟨λ i m σ H=>m=xs.length-i/\i<=xs.length/\j i σ H,⟨xs.length,by simp,bJ _,I⟩,?_⟩;rintro i m σ H ⟨rfl,hi,p⟩;have q:=hl i σ H hi p;by_cases B:i<xs.length
 ·refine .inr ⟨⟨xs,xs[i],q,by simp[B]⟩,j (i+1),λ z H' J=>⟨xs.length-(i+1),qR,rfl,B,J⟩,λ x H' y=>?_⟩;obtain⟨e,y⟩:=y;subst e;exact hs i x σ _ (y xs q) p
 ·have e:i=xs.length:=by lia
  subst e;exact .inl ⟨⟨xs,q,aS _⟩,hd σ H p⟩
theorem HE{K:X0}{a:V0}{xs:List V}{tb:TS}(j:Nat->St->Hp->Prop)(I:j 0 σ H)(hl:∀i σ H,i<=xs.length->j i σ H->ao K H a xs)(hs:∀i x σ H,xs[i]?=some x->j i σ H->g x σ H λ n H2=>tb {D with nx:=j (i+1),ct:=j (i+1),bk:=D.nx} n H2)(hd:∀σ H,j xs.length σ H->D.nx σ H):∃W:Nat->Nat->St->Hp->Prop,(∃m,W 0 m σ H)/\∀i m σ H,W i m σ H->((kP K a).stop i H/\D.nx σ H)\/((kP K a).go i H/\∃N:St->Hp->Prop,(∀z H',N z H'->∃G,G<m/\W (i+1) G z H')/\∀x H',(kP K a).yld i H x H'->g x σ H' λ n H2=>tb {D with nx:=N,ct:=N,bk:=D.nx} n H2):=by
 refine⟨λ i m σ H=>m=xs.length-i/\i<=xs.length/\j i σ H,⟨xs.length,by simp,bJ _,I⟩,?_⟩;rintro i m σ H ⟨rfl,hi,p⟩;have q:=hl i σ H hi p;by_cases B:i<xs.length
 ·refine .inr ⟨⟨xs,xs[i],q,by simp[B]⟩,j (i+1),λ z H' J=>⟨xs.length-(i+1),qR,rfl,B,J⟩,λ x H' y=>?_⟩;obtain⟨e,y⟩:=y;subst e;exact hs i x σ _ (y xs q) p
 ·have e:i=xs.length:=by lia
  subst e;exact .inl ⟨⟨xs,q,aS _⟩,hd σ H p⟩
theorem LA{lo:Int}{n:Nat}{tb:TS}(j:Nat->St->Hp->Prop)(I:j 0 σ H)(hs:∀i σ H,i<n->j i σ H->g (.int (lo+i)) σ H λ q H2=>tb {D with nx:=j (i+1),ct:=j (i+1),bk:=D.nx} q H2)(hd:∀σ H,j n σ H->D.nx σ H):∃W:Nat->Nat->St->Hp->Prop,(∃m,W 0 m σ H)/\∀i m σ H,W i m σ H->((jd lo n).stop i H/\D.nx σ H)\/((jd lo n).go i H/\∃N:St->Hp->Prop,(∀z H',N z H'->∃G,G<m/\W (i+1) G z H')/\∀x H',(jd lo n).yld i H x H'->g x σ H' λ q H2=>tb {D with nx:=N,ct:=N,bk:=D.nx} q H2):=by
 refine⟨λ i m σ H=>m=n-i/\i<=n/\j i σ H,⟨n,by simp,bJ _,I⟩,?_⟩;rintro i m σ H ⟨rfl,hi,p⟩;by_cases B:i<n
 ·refine .inr ⟨B,j (i+1),λ z H' J=>⟨n-(i+1),qR,rfl,B,J⟩,λ x H' y=>?_⟩;obtain⟨e,y⟩:=y;subst e y;exact hs i σ _ B p
 ·have e:i=n:=by lia
  subst e;exact .inl ⟨aS _,hd σ H p⟩
end L2
namespace L2
open PySem PySem.Spec PyProof.Rows
abbrev R2:=V->V->Hp->VK->Prop
def dP(X:Cx)(f:V1->V1->Sem V1)(r:R2):Prop:=
 ∀(aa:List (V0×Obj))(s:M1)(σ:St)(H:Hp)(x y:V)(v u:V1)(Q:VK),Inv X aa σ H s->RelV x v->RelV y u->r x y H Q->
  Qm s!"c" X.A (f v u) (EP X aa σ Q) X.xe s
def ye(X:Cx)(f:V1->Sem V1)(r:V->Hp->VK->Prop):Prop:=
 ∀(aa:List (V0×Obj))(s:M1)(σ:St)(H:Hp)(x:V)(v:V1)(Q:VK),Inv X aa σ H s->RelV x v->r x H Q->
  Qm s!"c" X.A (f v) (EP X aa σ Q) X.xe s
def il(X:Cx)(f:V1)(r:List V->Hp->VK->Prop):Prop:=
 ∀(aa:List (V0×Obj))(s:M1)(σ:St)(H:Hp)(xs:List V)(us:List V1)(Q:VK),Inv X aa σ H s->ax xs us->r xs H Q->
  Qm s!"c" X.A (call f us) (EP X aa σ Q) X.xe s
def yg(X:Cx)(r:V->Hp->(Bool->Hp->Prop)->Prop):Prop:=
 ∀(aa:List (V0×Obj))(s:M1)(σ:St)(H:Hp)(x:V)(v:V1)(Q:Bool->Hp->Prop),Inv X aa σ H s->RelV x v->r x H Q->
  Qm s!"c" X.A (truthy v) (TP X aa σ Q) X.xe s
def jf(r:R2)(ta tb:TE):TE:=λ σ H Q=>ta σ H λ x H1=>tb σ H1 λ y H2=>r x y H2 Q
def vm(r:V->Hp->VK->Prop)(ta:TE):TE:=λ σ H Q=>ta σ H λ x H1=>r x H1 Q
def rI(C:Int->Int->Prop)(g:Int->Int->V):R2:=λ x y H Q=>∃i j,x=.int i/\y=.int j/\C i j/\Q (g i j) H
def ny(g:Int->Int->V):R2:=λ x y H Q=>∃i j,x=.int i/\y=.int j/\Q (g i j) H
def rU(g:Int->V):V->Hp->VK->Prop:=λ x H Q=>∃i,x=.int i/\Q (g i) H
section
variable{X:Cx}{a b c:Expr}{ta tb tc:TE}{pos:Pos}
theorem mm(z:PE X a ta)(B:PE X b tb){aa:List (V0×Obj)}{s:M1}{σ:St}{H:Hp}{R:V->V->Hp->Prop}(I:Inv X aa σ H s)(h:ta σ H λ x H1=>tb σ H1 λ y H2=>R x y H2){Q:V1->M1->Prop}{f:V1->V1->Sem V1}(D:∀v u q x y H2,Inv X aa σ H2 q->RelV x v->RelV y u->R x y H2->Qm s!"c" X.A (f v u) Q X.xe q):Qm s!"c" X.A (QA a X.env) (λ v j=>Qm s!"c" X.A (QA b X.env) (λ u n=>Qm s!"c" X.A (f v u) Q X.xe n) X.xe j) X.xe s:=by
 refine aM (z aa s σ H _ I h) λ v G i=>?_;obtain⟨x,H1,J,L,M⟩:=i;refine aM (B aa G σ H1 _ J M) λ u q i=>?_;obtain⟨y,H2,N,O,S⟩:=i;exact D v u q x y H2 N L O S
theorem aB{op:Operator}{r:R2}(i:dP X (Rt op) r)(j:PE X a ta)(n:PE X b tb):PE X (.BinOp a op b pos) (jf r ta tb):=by
 intro aa s σ H Q I h;exact wpAny_BinOp (mm j n I h λ v u z x y H2 B D G q=>i aa z σ H2 x y v u Q B D G q)
theorem FR{op:UnaryOp}{r:V->Hp->VK->Prop}(i:ye X (unaryOp op) r)(j:PE X a ta):PE X (.UnaryOp op a pos) (vm r ta):=by
 intro aa s σ H Q I h;exact UnaryOp_ (aM (j aa s σ H _ I h) λ v n ⟨x,H1,q,y,z⟩=>i aa n σ H1 x v Q q y z)
theorem si{f:V1->V1->Sem V1}{C:Int->Int->Prop}{g:Int->Int->Int}(n:∀(i j:Int)(t u:Tok)(s:M1)(Q:V1->M1->Prop)(E:V1->M1->Prop),C i j->Q (.int (g i j) s.toks) {s with toks:=s.toks+1}->Qm s!"c" X.A (f (.int i t) (.int j u)) Q E s):dP X f (rI C λ i j=>.int (g i j)):=by
 intro aa s σ H x y v u Q I z B h;obtain⟨i,j,rfl,rfl,D,q⟩:=h;obtain⟨t,rfl⟩:=z;obtain⟨G,rfl⟩:=B;exact n i j t G s _ _ D ⟨.int (g i j),H,I.tok _,⟨_,rfl⟩,q⟩
theorem pN{f:V1->V1->Sem V1}{g:Int->Int->Int}(n:∀(i j:Int)(t u:Tok)(s:M1)(Q:V1->M1->Prop)(E:V1->M1->Prop),Q (.int (g i j) s.toks) {s with toks:=s.toks+1}->Qm s!"c" X.A (f (.int i t) (.int j u)) Q E s):dP X f (ny λ i j=>.int (g i j)):=by
 intro aa s σ H x y v u Q I z B h;obtain⟨i,j,rfl,rfl,q⟩:=h;obtain⟨t,rfl⟩:=z;obtain⟨D,rfl⟩:=B;exact n i j t D s _ _ ⟨.int (g i j),H,I.tok _,⟨_,rfl⟩,q⟩
theorem vP{f:V1->V1->Sem V1}{g:Int->Int->Bool}(n:∀(i j:Int)(t u:Tok)(s:M1)(Q:V1->M1->Prop)(E:V1->M1->Prop),Q (.bool (g i j)) s->Qm s!"c" X.A (f (.int i t) (.int j u)) Q E s):dP X f (ny λ i j=>.bl (g i j)):=by
 intro aa s σ H x y v u Q I z B h;obtain⟨i,j,rfl,rfl,q⟩:=h;obtain⟨t,rfl⟩:=z;obtain⟨D,rfl⟩:=B;exact n i j t D s _ _ ⟨.bl (g i j),H,I,rfl,q⟩
def yX(i j:Int):Prop:=0<j/\j<1073741824
def MM(i j:Int):Prop:=0<=j/\j<=1000000/\i.natAbs<2^64
def nu(i j:Int):Prop:=(-(2^64)<i/\i<2^64)\/(-(2^64)<j/\j<2^64)
theorem nu.ok{i j:Int}(h:nu i j):IntMulOk i j:=by
 rcases h with⟨h1,h2⟩|⟨h1,h2⟩
 ·exact .of_left (intBits_le_64 h1 h2)
 ·exact .of_right (intBits_le_64 h1 h2)
theorem cU:dP X (Rt .Add) (ny λ i j=>.int (i+j)):=pN λ ω ω ω ω ω ω ω q=>add_int q
theorem Hi:dP X (Rt .Sub) (ny λ i j=>.int (i-j)):=pN λ ω ω ω ω ω ω ω q=>sub_int q
theorem gW:dP X (Rt .Mult) (rI nu λ i j=>.int (i*j)):=si λ ω ω ω ω ω ω ω n q=>mul_int q n.ok
theorem ee:dP X (Rt .FloorDiv) (rI yX λ i j=>.int (i/j)):=si λ i j ω ω ω ω ω n q=>by
 have h1:(0:Int)<j:=n.1;have h2:j<1073741824:=n.2;exact floordiv_int qR (by rw[Int.fdiv_eq_ediv_of_nonneg i qR];exact q) (.inl (PyProof.noPylong_small qR))
theorem cc:dP X (Rt .Mod) (rI (λ ω j=>0<j) λ i j=>.int (i%j)):=si λ i j ω ω ω ω ω n q=>by
 have h1:(0:Int)<j:=n;exact mod_int' qR (by rw[Int.fmod_eq_emod_of_nonneg i qR];exact q)
theorem EL{f:V1->Sem V1}{g:Int->Int}(j:∀(i:Int)(t:Tok)(s:M1)(Q:V1->M1->Prop)(E:V1->M1->Prop),Q (.int (g i) s.toks) {s with toks:=s.toks+1}->Qm s!"c" X.A (f (.int i t)) Q E s):ye X f (rU λ i=>.int (g i)):=by
 intro aa s σ H x v Q I n h;obtain⟨i,rfl,q⟩:=h;obtain⟨t,rfl⟩:=n;exact j i t s _ _ ⟨.int (g i),H,I.tok _,⟨_,rfl⟩,q⟩
theorem G8:ye X (unaryOp .USub) (rU λ i=>.int (-i)):=EL λ ω ω ω ω ω q=>neg_int q
end
def cS:V->V->Bool
 | .non,.non=>true| .non,.int _=>true| .int _,.non=>true| .non,.bl _=>true| .bl _,.non=>true| .non,.str _=>true| .str _,.non=>true
 | .int _,.int _=>true| .bl _,.bl _=>true| .str _,.str _=>true| .byt _,.byt _=>true
 | .int _,.str _=>true| .str _,.int _=>true| .bl _,.str _=>true| .str _,.bl _=>true
 |_,_=>false
def rO:R2:=λ x y H Q=>cS x y=true/\Q (.bl (decide (x=y))) H
def y9:R2:=λ x y H Q=>cS x y=true/\Q (.bl (!decide (x=y))) H
theorem Dq{i j:Int}:decide (V.int i=V.int j)=(i==j):=by
 rw[nK];simp
theorem Dc{i j:Bool}:decide (V.bl i=V.bl j)=(i==j):=by
 rw[nK];simp
theorem DX{i j:V2}:decide (V.str i=V.str j)=(i==j):=by
 rw[nK];simp
theorem DB{i j:Array UInt8}:decide (V.byt i=V.byt j)=(i.toList==j.toList):=by
 rw[nK];cases i;cases j;simp
section
variable{X:Cx}{a b c:Expr}{ta tb tc:TE}{pos:Pos}
theorem dB{aa:List (V0×Obj)}{σ:St}{H:Hp}{s:M1}{Q:VK}{k i:Bool}(I:Inv X aa σ H s)(q:Q (.bl k) H)(e:k=i):EP X aa σ Q (.bool i) s:=by
 subst e;exact⟨.bl k,H,I,rfl,q⟩
theorem cM:dP X (Rb .Eq) rO:=by
 intro aa s σ H x y v u Q I D n h;obtain⟨B,q⟩:=h;cases x with
 |non=>
  cases D;cases y with
  |non=>cases n;exact PySem.EqNone.eq_none_none (dB I q s!"n")
  |bl j=>cases n;exact PySem.EqNone.eq_none_bool (dB I q s!"n")
  |int j=>obtain⟨z,rfl⟩:=n;exact PySem.EqNone.eq_none_int (dB I q s!"n")
  |str j=>obtain⟨z,rfl⟩:=n;exact PySem.EqNone.eq_none_str (dB I q s!"n")
  |_=>exact T7 (show false=true from B) dI
 |bl i=>
  cases D;cases y with
  |non=>cases n;exact PySem.EqNone.eq_bool_none (dB I q s!"n")
  |bl j=>cases n;exact eq_bool (dB I q Dc)
  |str j=>obtain⟨z,rfl⟩:=n;exact PySem.EqMixed.eq_bool_str (dB I q s!"n")
  |_=>exact T7 (show false=true from B) dI
 |int i=>
  obtain⟨t,rfl⟩:=D;cases y with
  |non=>cases n;exact PySem.EqNone.eq_int_none (dB I q s!"n")
  |int j=>obtain⟨z,rfl⟩:=n;exact eq_int (dB I q Dq)
  |str j=>obtain⟨z,rfl⟩:=n;exact PySem.EqMixed.eq_int_str (dB I q s!"n")
  |_=>exact T7 (show false=true from B) dI
 |str i=>
  obtain⟨t,rfl⟩:=D;cases y with
  |non=>cases n;exact PySem.EqNone.eq_str_none (dB I q s!"n")
  |bl j=>cases n;exact PySem.EqMixed.eq_str_bool (dB I q s!"n")
  |int j=>obtain⟨z,rfl⟩:=n;exact PySem.EqMixed.eq_str_int (dB I q s!"n")
  |str j=>obtain⟨z,rfl⟩:=n;exact eq_str (dB I q DX)
  |_=>exact T7 (show false=true from B) dI
 |byt i=>
  obtain⟨t,rfl⟩:=D;cases y with
  |byt j=>obtain⟨z,rfl⟩:=n;exact W.eq_bytes (dB I q DB)
  |_=>exact T7 (show false=true from B) dI
 |_=>cases y<;>exact T7 (show false=true from B) dI
theorem yu:dP X (Rb .NotEq) y9:=by
 intro aa s σ H x y v u Q I D n h;obtain⟨B,q⟩:=h;cases x with
 |non=>
  cases D;cases y with
  |non=>cases n;exact PySem.EqNone.ne_none_none (dB I q s!"n")
  |bl j=>cases n;exact PySem.EqNone.ne_none_bool (dB I q s!"n")
  |int j=>obtain⟨z,rfl⟩:=n;exact PySem.EqNone.ne_none_int (dB I q s!"n")
  |str j=>obtain⟨z,rfl⟩:=n;exact PySem.EqNone.ne_none_str (dB I q s!"n")
  |_=>exact T7 (show false=true from B) dI
 |bl i=>
  cases D;cases y with
  |non=>cases n;exact PySem.EqNone.ne_bool_none (dB I q s!"n")
  |bl j=>cases n;exact ne_bool (dB I q (congrArg not Dc))
  |str j=>obtain⟨z,rfl⟩:=n;exact PySem.EqMixed.ne_bool_str (dB I q s!"n")
  |_=>exact T7 (show false=true from B) dI
 |int i=>
  obtain⟨t,rfl⟩:=D;cases y with
  |non=>cases n;exact PySem.EqNone.ne_int_none (dB I q s!"n")
  |int j=>obtain⟨z,rfl⟩:=n;exact ne_int (dB I q (congrArg not Dq))
  |str j=>obtain⟨z,rfl⟩:=n;exact PySem.EqMixed.ne_int_str (dB I q s!"n")
  |_=>exact T7 (show false=true from B) dI
 |str i=>
  obtain⟨t,rfl⟩:=D;cases y with
  |non=>cases n;exact PySem.EqNone.ne_str_none (dB I q s!"n")
  |bl j=>cases n;exact PySem.EqMixed.ne_str_bool (dB I q s!"n")
  |int j=>obtain⟨z,rfl⟩:=n;exact PySem.EqMixed.ne_str_int (dB I q s!"n")
  |str j=>obtain⟨z,rfl⟩:=n;exact ne_str (dB I q (congrArg not DX))
  |_=>exact T7 (show false=true from B) dI
 |byt i=>
  obtain⟨t,rfl⟩:=D;cases y with
  |byt j=>obtain⟨z,rfl⟩:=n;exact W.ne_bytes (dB I q (congrArg not DB))
  |_=>exact T7 (show false=true from B) dI
 |_=>cases y<;>exact T7 (show false=true from B) dI
theorem yv:dP X (Rb .Gt) (ny λ i j=>.bl (decide (j<i))):=vP λ ω ω ω ω ω ω ω q=>gt_int q
theorem mG:dP X (Rb .Is) (λ x y H Q=>y=.non/\Q (.bl (decide (x=.non))) H):=by
 intro aa s σ H x y v u Q I i j h;obtain ⟨rfl,q⟩:=h;cases j;refine is_none_gen (dB I q ?_);cases x <;> first
  |(cases i;rfl)
  |(obtain⟨t,rfl⟩:=i;rfl)
theorem qs:dP X (Rb .IsNot) (λ x y H Q=>y=.non/\Q (.bl (!decide (x=.non))) H):=by
 intro aa s σ H x y v u Q I i j h;obtain ⟨rfl,q⟩:=h;cases j;refine isnot_none_gen (dB I q ?_);cases x <;> first
  |(cases i;rfl)
  |(obtain⟨t,rfl⟩:=i;rfl)
theorem kr(b:Expr){op:CmpOp}(h:op≠.In:=by decide)(h2:op≠.NotIn:=by decide):Td op b=false:=by
 have i:(op==CmpOp.In)=false:=by cases op<;>first|rfl|exact T7 rfl h
 have j:(op==CmpOp.NotIn)=false:=by cases op<;>first|rfl|exact T7 rfl h2
 cases b<;>simp[Td,i,j]
theorem ja{op:CmpOp}{r:R2}(i:dP X (Rb op) r)(j:PE X a ta)(n:PE X b tb)(z:Td op b=false):PE X (.Compare a [op] [b] pos) (jf r ta tb):=by
 intro aa s σ H Q I h;exact wpAny_Compare1 (mm j n I h λ v u B x y H2 D G J q=>i aa B σ H2 x y v u Q D G J q) z
def rB(t:TE):TT:=λ σ H Q=>t σ H λ x H'=>∃k,x=.bl k/\Q k H'
theorem iu{op:CmpOp}{r:R2}(i:dP X (Rb op) r)(j:PE X a ta)(n:PE X b tb)(q:Td op b=false):PT X (.Compare a [op] [b] pos) (rB (jf r ta tb)):=by
 intro aa s σ H Q I h;refine wpAny_isTrue_Compare1 (aM (j aa s σ H _ I h) λ v B ⟨x,H1,D,G,J⟩=>aM (n aa B σ H1 _ D J) λ u L ⟨y,H2,M,N,O⟩=>aM (i aa L σ H2 x y v u _ M G N O) λ c Z ⟨z,R,S,U,k,e,Y⟩=>?_) q;subst e;cases U;exact Q5 ⟨R,S,Y⟩
def yf(K:X0)(x:V)(H:Hp)(k:Bool):Prop:=
 match x with
 | .non=>k=false
 | .bl b=>k=b
 | .int i=>k=(i !=0)
 | .str y=>y.length<=Qj/\k=((y.length:Int)!=0)
 | .byt y=>y.size<=Qj/\k=((y.size:Int)!=0)
 | .ref p=>(∃xs,ai K H p xs/\k=!xs.isEmpty)\/(∃xs,ao K H p xs/\k=!xs.isEmpty)\/∃j,H p=some (.dK j)/\k=!j.isEmpty
 |_=>False
theorem Mf{i:Type}{kvs:List (i×V)}{vs:List (i×V1)}(r:KV kvs vs):(!vs.isEmpty)=!kvs.isEmpty:=by
 cases r<;>rfl
theorem Br{xs:List V}{its:List V1}(r:ax xs its):(!its.toArray.isEmpty)=!xs.isEmpty:=by
 cases r<;>simp
theorem mE:(Qj:Nat)<2^63:=by rw[Qk];decide
theorem Hf:yg X (λ x H Q=>∃k,yf X.K x H k/\Q k H):=by
 intro aa s σ H x v Q I B h;obtain⟨k,e,q⟩:=h;have hl:=mE;have O:Qj=16777216:=Qk;cases x with
 |non=>
  cases B;have j:k=false:=e;subst j;exact truthy_none ⟨H,I,q⟩
 |bl b=>
  cases B;have j:k=b:=e;subst j;exact Q5 ⟨H,I,q⟩
 |int i=>
  obtain⟨t,rfl⟩:=B;have j:k=(i !=0):=e;subst j;exact PySem.P.truthy_int ⟨H,I,q⟩
 |str y=>
  obtain⟨t,rfl⟩:=B;obtain⟨M,j⟩:y.length<=Qj/\k=((y.length:Int)!=0):=e;subst j;exact PySem.P.truthy_str qR ⟨H,I.tok _,q⟩
 |byt y=>
  obtain⟨t,rfl⟩:=B;obtain⟨M,j⟩:y.size<=Qj/\k=((y.size:Int)!=0):=e;subst j;exact W.truthy_bytes qR ⟨H,I.tok _,q⟩
 |ref p=>
  cases B;have j:(∃xs,ai X.K H p xs/\k=!xs.isEmpty)\/(∃xs,ao X.K H p xs/\k=!xs.isEmpty)\/∃n,H p=some (.dK n)/\k=!n.isEmpty:=e;rcases j with⟨xs,D,j⟩|⟨xs,D,j⟩|⟨n,D,j⟩
  ·subst j;obtain⟨G,r,J,L⟩:=I.list D;have z:=r.length;exact wpAny_truthy_list J.isList (by simp only[bF];lia) ⟨H,I.tok _,by rw[Br r];exact q⟩
  ·subst j;obtain⟨G,r,J,L⟩:=I.tuple D;have z:=r.length;exact truthy_tuple J (by simp only[bF];lia) ⟨H,I.tok _,by rw[Br r];exact q⟩
  ·subst j;obtain⟨L,N,vs,r,m⟩:n.length<=Qj/\(p==Rp)=false/\∃vs,KV n vs/\s.heap.DictOf (fE X.prog X.w) p vs:=I.hok p _ D;have z:n.length=vs.length:=Tc r;exact wpAny_truthy_dict N m qR ⟨H,I.tok _,by rw[Mf r];exact q⟩
 |_=>exact(show False from e).elim
theorem xR:dP X (Rt .Add) (λ x y H Q=>∃i j,x=.str i/\y=.str j/\i.length+j.length<=Qj/\Q (.str (i++j)) H):=by
 intro aa s σ H x y v u Q I n z h;obtain⟨i,j,rfl,rfl,B,q⟩:=h;obtain⟨t,rfl⟩:=n;obtain⟨D,rfl⟩:=z;exact add_str (λ D tk=>⟨.str (i++j),H,I.tok _,⟨_,rfl⟩,q⟩) B
theorem kX{x:V}{us:List V1}(r:ax [x] us):∃u,us=[u]/\RelV x u:=by
 cases r with
 |cons i j=>cases j;exact⟨_,rfl,i⟩
theorem Ac:il X (.type "int") (λ xs H Q=>(∃i,xs=[.int i]/\Q (.int i) H)\/∃k,xs=[.bl k]/\Q (.int (if k then 1 else 0)) H):=by
 intro aa s σ H xs us Q I r h;rcases h with⟨i,rfl,q⟩|⟨k,rfl,q⟩
 ·obtain⟨u,rfl,t,rfl⟩:=kX r;exact call_int_int ⟨.int i,H,I,⟨_,rfl⟩,q⟩
 ·obtain⟨u,rfl,j⟩:=kX r;cases j;exact call_int_bool ⟨.int (if k then 1 else 0),H,I.tok _,⟨_,rfl⟩,q⟩
theorem Fo:il X (.type "str") (λ xs H Q=>∃i,xs=[.int i]/\i.natAbs.log2<1920/\Q (.str (toString i)) H):=by
 intro aa s σ H xs us Q I r h;obtain⟨i,rfl,j,q⟩:=h;obtain⟨u,rfl,t,rfl⟩:=kX r;exact PySem.P.str_of_int j ⟨.str _,H,I.tok _,⟨_,rfl⟩,q⟩
end
end L2
namespace L2
open PySem PySem.Spec PyProof.Rows
structure hG(h:Z3)(x dx C:V0)(mA:V2->Option V1):Prop where
 obj:h.get? x=some (Si C dx)
 ns:h.Ns1 dx mA
 ne:dx≠x
theorem AM{h:Z3}{dx:V0}{mA:V2->Option V1}(n:h.Ns1 dx mA):∃od,h.get? dx=some od/\∀name,W.lookIn name od=some (mA name):=by
 obtain⟨o,es,J,j,hd,B,ω,D⟩:=n;refine⟨o,j,λ name=>?_⟩;have e:=D name;unfold nsFind findBy at e;rw[<-Array.find?_toList]at e;unfold W.lookIn;rw[hd];dsimp only;split
 ·rename_i y q;rw[q]at e;exact congrArg some e
 ·rename_i q;rw[q]at e;have a:es.toList.any (·.refKey)=false:=by
   rw[List.any_eq_false];intro y G;obtain⟨z,t,i⟩:=B y (Array.mem_toList_iff.mp G);simp[DictEntry.refKey,i]
  have I:¬es.toList.any (·.refKey)=true:=by rw[a];exact dI
  rw[T5 I];exact congrArg some e
theorem hG.look{h:Z3}{x dx C:V0}{mA:V2->Option V1}(I:hG h x dx C mA):∃od,W.InstAt h x (Si C dx) C (some od)/\∀name,W.lookIn name od=some (mA name):=
 let⟨od,i,hl⟩:=AM I.ns
 ⟨od,⟨I.obj,rfl,rfl,i⟩,hl⟩
section
variable{prog:Program}{w:Y3}{A:V3}{E:V1->M1->Prop}{s:M1}{K:X0}{x dx C f:V0}{mA:V2->Option V1}{name:V2}{v:V1}
theorem Ij{i:Bool}{Q:V1->M1->Prop}(X:K.In s.heap)(I:hG s.heap x dx C mA)(n:Tv K C name=true)(q:Ss K C=true)(y:QM K (.ref C) name=some none)(z:mA name=some v)(j:W.handedIn v=true)(h:Q v {s with toks:=s.toks+1}):Qm s!"o" A (getAttr (.ref x) name i) Q E s:=by
 obtain⟨B,J,hl⟩:=I.look;exact W.get_value X J (W.plainGet_of n).1 (W.findObj_own q y rfl (by rw[hl,z])) j h
theorem Kr{pl:Sem Bool}{Q:V1×List V1->M1->Prop}(X:K.In s.heap)(I:hG s.heap x dx C mA)(i:Tv K C name=true)(j:QM K (.ref C) name=some (some (.ref f)))(n:TR K (.ref f)=true)(q:mA name=none)(h:Q (.ref f,[.ref x]) s):Qm s!"o" A (RS (.ref x) name pl) Q E s:=by
 obtain⟨y,J,hl⟩:=I.look;exact W.method_fn X J (W.plainGet_of i).1 (W.plainGet_of i).2 j (beq_iff_eq.mp n) (by show(W.lookIn name y).map (·.isSome)=some false;rw[hl,q];rfl) h
theorem IK{ns:List V2}{Q:Unit->M1->Prop}(X:K.In s.heap)(I:hG s.heap x dx C mA)(hs:QM K (.ref C) "__setattr__"=some (some (.builtin "object.__setattr__")))(z:W.plainOver K C=true)(B:W.takerIn K C name=some none)(D:Ss K C=true)(G:PySem.Within mA ns)(hsz:ns.length<=Qj)(h:∀h',hG h' x dx C (λ y=>if y=name then some v else mA y)->Tu dx s.heap h'->Q () {s with heap:=h',toks:=s.toks+2}):Qm s!"o" A (setAttr (.ref x) name v) Q E s:=by
 obtain⟨R,J,hl⟩:=I.look;refine W.set_plain X J hs (W.osa_open (s:={s with toks:=s.toks+1}) (r:=none) X J z B λ b=>?_);obtain⟨S,L,j⟩:=W.any_some D;have M:s.heap.get? x=some ⟨.ref C,some dx,.plain,#[]⟩:=I.obj;refine Qf (Qh (Qf (Qf (wpAny_loadPart M (Qf (W.Looks.here (s:={s with toks:=s.toks+1}) (W.looks_clsIn X L) ?_))))));rw[j];refine Qh (a:=some dx) (Qf (Qh (Qf ?_)));refine wpAny_nsSet1 (s:={s with toks:=s.toks+1}) I.ns λ h' i cT=>?_;obtain⟨oD,N,O,n,gE,q⟩:=i.count (PySem.Within.cons name v G);refine Qf (wpAny_lookBehind n (by rw[gE];exact pastItsLine_dict (cb q (by rw[dv];lia))) ?_);exact Qh (h _ ⟨(cT.2 _ (Ne.symm I.ne)).trans I.obj,i,I.ne⟩ cT)
theorem JO{R:T4->M1->Prop}{vs:List V1}{kw:List (V2×V1)}(X:K.In s.heap)(i:W.makesIn K C=true)(hi:QM K (.ref C) "__init__"=some (some (.ref f)))(j:W.typeIn K (.ref f)=some (.type "function"))(h:Rm s!"o" (A.under (.builtin "type.__call__" ⟨.ref C::vs,kw⟩)) (.call (.ref f) ⟨.ref (s.heap.objs.size+1)::vs,kw⟩) (W.InitBack (s.heap.objs.size+1) R) {s with heap:=(s.heap.push Ry).push (Si C s.heap.objs.size)}):Rm s!"o" A (.call (.ref C) ⟨vs,kw⟩) R s:=by
 obtain⟨n,g,d,t,q⟩:=s;exact W.make_core (W.makes_of X i) (W.looks_findIn X hi) (λ self=>W.bind_fn X self j) (.inl rfl) h
end
def aj(f:V2)(v:V):List (V2×V)->List (V2×V)
 |[]=>[(f,v)]
 |(g,x)::r=>if g=f then(g,v)::r else(g,x)::aj f v r
theorem A4(f g:V2)(v:V):∀fs:List (V2×V),(aj f v fs).lookup g=if g=f then some v else fs.lookup g
 |[]=>by
  show iG g [(f,v)]=_;by_cases h:g=f
  ·have i:(g==f)=true:=beq_iff_eq.mpr h;simp only[iG,i,T6 h]
  ·have i:(g==f)=false:=beq_eq_false_iff_ne.mpr h;simp only[iG,i,T5 h]
 |(k,x)::r=>by
  have n:=A4 f g v r;rw[show aj f v ((k,x)::r)=(if k=f then(k,v)::r else(k,x)::aj f v r)from rfl];by_cases j:k=f
  ·rw[T6 j];by_cases h:g=k
   ·have i:(g==k)=true:=beq_iff_eq.mpr h;simp only[iG,i,T6 (h.trans j)]
   ·have i:(g==k)=false:=beq_eq_false_iff_ne.mpr h;simp only[iG,i,T5 (λ e:g=f=>h (e.trans j.symm))]
  ·rw[T5 j];by_cases h:g=k
   ·have i:(g==k)=true:=beq_iff_eq.mpr h;simp only[iG,i,T5 (λ e:g=f=>j (h.symm.trans e))]
   ·have i:(g==k)=false:=beq_eq_false_iff_ne.mpr h;simp only[iG,i];exact n
theorem xU(f:V2)(v:V):∀fs:List (V2×V),f∈(aj f v fs).map (·.1)/\∀g,g∈fs.map (·.1)->g∈(aj f v fs).map (·.1)
 |[]=>⟨by simp[aj],λ g h=>by simp at h⟩
 |(k,x)::r=>by
  obtain⟨j,n⟩:=xU f v r;rw[show aj f v ((k,x)::r)=(if k=f then(k,v)::r else(k,x)::aj f v r)from rfl];by_cases i:k=f
  ·rw[T6 i];subst i;exact⟨by simp,λ g h=>by simpa using h⟩
  ·rw[T5 i];refine⟨?_,λ g h=>?_⟩
   ·rw[eP];exact dz _ j
   ·rw[eP]at h ⊢;rcases bH.mp h with e|e
    ·exact bH.mpr (.inl e)
    ·exact dz _ (n g e)
theorem A3(f:V2)(v:V):∀fs:List (V2×V),(aj f v fs).length<=fs.length+1
 |[]=>by simp[aj]
 |(k,x)::r=>by
  have j:=A3 f v r;rw[show aj f v ((k,x)::r)=(if k=f then(k,v)::r else(k,x)::aj f v r)from rfl];by_cases i:k=f
  ·rw[T6 i,dv,dv];lia
  ·rw[T5 i,dv,dv];lia
theorem cy.some_of{v:V}{o:Option V1}(r:cy (some v) o):∃u,o=some u/\RelV v u:=by
 cases o with
 |none=>exact(show False from r).elim
 |some u=>exact⟨u,rfl,r⟩
theorem cy.none_of{o:Option V1}(r:cy none o):o=none:=by
 cases o with
 |none=>rfl
 |some u=>exact(show False from r).elim
theorem Af{v:V}{u:V1}(r:RelV v u):W.handedIn u=true:=by
 cases v with
 |non=>cases(show u=Qz from r);rfl
 |bl b=>cases(show u=SN b from r);rfl
 |int i=>obtain⟨t,e⟩:=(show ∃t,u=Rj i t from r);cases e;rfl
 |str x=>obtain⟨t,e⟩:=(show ∃t,u=Th x t from r);cases e;rfl
 |byt b=>obtain⟨t,e⟩:=(show ∃t,u=Value.bytes b t from r);cases e;rfl
 |flt b=>obtain⟨t,e⟩:=(show ∃t,u=Value.float b t from r);cases e;rfl
 |ref a=>cases(show u=Qq a from r);rfl
 |ty n=>cases(show u=Rg n from r);rfl
section
variable{P:Program}{w:Y3}{H H':Hp}{h h':Z3}{a C dx:V0}{fs fs':List (V2×V)}
theorem sL(i:cV P w H h)(e:H a=some (.ins C dx fs)):∃mA,hG h a dx C mA/\(∀f,cy (fs.lookup f) (mA f))/\PySem.Within mA (fs.map (·.1))/\fs.length<=1000/\H dx=some (.own a):=by
 obtain⟨d,z,j,y,mA,n,r,q⟩:=(show aQ P w H h a (.ins C dx fs)from i a _ e);exact⟨mA,⟨y,n,j⟩,r,q,z,d⟩
end
structure gL(K:X0)(C:V0):Prop where
 pg:Tv K C Sl=true
 hd:Ss K C=true
 po:W.plainOver K C=true
 sa:QM K (.ref C) "__setattr__"=some (some (.builtin "object.__setattr__"))
theorem gL.get{K:X0}{C:V0}(c:gL K C)(f:V2):Tv K C f=true:=c.pg
def aK(K:X0)(C:V0)(f:V2):Prop:=QM K (.ref C) f=some none
theorem aK.taker{K:X0}{C:V0}{f:V2}(n:aK K C f):W.takerIn K C f=some none:=by
 unfold W.takerIn;rw[show QM K (.ref C) f=some none from n];rfl
structure iS(K:X0)(C:V0)(m:V2)(f:V0):Prop where
 at_:QM K (.ref C) m=some (some (.ref f))
 fn:TR K (.ref f)=true
 kp:QR K (.ref f)=true
section
variable{X:Cx}{aa:List (V0×Obj)}{σ:St}{H:Hp}{s:M1}{a C dx:V0}{fs:List (V2×V)}{f:V2}{v:V}{A:V3}{E:V1->M1->Prop}
theorem Mj{b:Bool}{Q:V1->M1->Prop}(I:Inv X aa σ H s)(e:H a=some (.ins C dx fs))(c:gL X.K C)(n:aK X.K C f)(l:fs.lookup f=some v)(h:∀u s',Inv X aa σ H s'->RelV v u->Q u s'):Qm s!"c" A (getAttr (.ref a) f b) Q E s:=by
 obtain⟨mA,O,r,ω,ω,ω⟩:=sL I.hok e;obtain⟨u,j,i⟩:=cy.some_of (v:=v) (o:=mA f) (by rw[<-l];exact r f);exact Ij I.kIn O (c.get f) c.hd n j (Af i) (h u _ (I.tok _) i)
theorem xO{m:V2}{g:V0}{pl:Sem Bool}{Q:V1×List V1->M1->Prop}(I:Inv X aa σ H s)(e:H a=some (.ins C dx fs))(c:gL X.K C)(k:iS X.K C m g)(l:fs.lookup m=none)(h:Q (.ref g,[.ref a]) s):Qm s!"c" A (RS (.ref a) m pl) Q E s:=by
 obtain⟨mA,O,r,ω,ω,ω⟩:=sL I.hok e;have i:mA m=none:=cy.none_of (by rw[<-l];exact r m);exact Kr I.kIn O (c.get m) k.at_ k.fn i h
theorem MD{y:V}{u:V1}{Q:Unit->M1->Prop}(I:Inv X aa σ H s)(e:H a=some (.ins C dx fs))(c:gL X.K C)(n:aK X.K C f)(hl:fs.length<1000)(D:RelV y u)(h:∀s',Inv X aa σ (ag H a (.ins C dx (aj f y fs))) s'->Q () s'):Qm s!"c" A (setAttr (.ref a) f u) Q E s:=by
 obtain⟨mA,O,r,j,ω,B⟩:=sL I.hok e;have G:(fs.map (·.1)).length<=Qj:=by rw[aA,Qk];lia
 refine IK I.kIn O c.sa c.po n.taker c.hd j G λ h' i J=>h _ ?_;have hd:∃o,h'.get? dx=some o:=let⟨o,_,_,L,_⟩:=i.ns;⟨o,L⟩;refine I.write (x:=a) (e:=dx) (by rw[e];exact True.intro) (.inr B) (λ b q M z=>(J.2 b M).trans z) hd ?_;refine⟨by rw[aD O.ne];exact B,?_,O.ne,i.obj,_,i.ns,λ g=>?_,λ g N=>?_⟩
 ·have:=A3 f y fs;lia
 ·show cy ((aj f y fs).lookup g) (if g=f then some u else mA g);rw[A4];by_cases q:g=f
  ·rw[T6 q,T6 q];exact D
  ·rw[T5 q,T5 q];exact r g
 ·by_cases q:g=f
  ·rw[q];exact(xU f y fs).1
  ·refine(xU f y fs).2 g (j g λ z=>N ?_);show(if g=f then some u else mA g)=none;rw[T5 q];exact z
theorem Inv.made(I:Inv X aa σ H s):Inv X aa σ (ag (ag H s.heap.objs.size (.own (s.heap.objs.size+1))) (s.heap.objs.size+1) (.ins C s.heap.objs.size [])) {s with heap:=(s.heap.push Ry).push (Si C s.heap.objs.size)}:=by
 have i:(s.heap.push Ry).get? s.heap.objs.size=some Ry:=Qo s.heap rfl;have n:((s.heap.push Ry).push (Si C s.heap.objs.size)).get? (s.heap.objs.size+1)=some (Si C s.heap.objs.size):=by
  have:=Qo (s.heap.push Ry) (o:=Si C s.heap.objs.size) rfl
  rwa [QE]at this
 have z:(s.heap.push Ry).Ns s.heap.objs.size (λ ω=>none):=⟨Ry,#[],_,i,rfl,(λ e B=>T7 B s!"n"),λ ω=>rfl⟩;have D:=I.laid (a:=s.heap.objs.size) (o:=.own (s.heap.objs.size+1)) (h':=s.heap.push Ry) (t':=s.toks) (λ b u q=>Qg _ q) (aS _) ⟨_,i⟩;refine D.laid (a:=s.heap.objs.size+1) (o:=.ins C s.heap.objs.size []) (t':=s.toks) (λ b u q=>Qg _ q) (lY (QE _ _)) ?_;have j:s.heap.objs.size≠s.heap.objs.size+1:=bY (jl _);refine⟨by rw[aD j,aG],bJ _,j,n,λ ω=>none,(Heap.Ns1.of_empty z).at λ o q=>Qg _ q,λ ω=>True.intro,λ y G=>T7 rfl G⟩
theorem DW{prog:Program}{w:Y3}{env:Env}{e:Expr}{f:V2}{pos:Pos}{s:M1}{Q:V1->M1->Prop}(j:RM e f env (QA e env)=QA e env)(h:Qm s!"o" A (QA e env) (λ o i=>Qm s!"o" A (getAttr o f true) Q E i) E s):Qm s!"o" A (QA (.Attribute e f pos) env) Q E s:=
 Attribute_any_ h (by rw[arm_eval_Attribute,j])
end
section
variable{X:Cx}{o e value:Expr}{f:V2}{pos pos' tpos:Pos}{ta tv:TE}
theorem Qa{pl:Sem Bool}{m:V2}{apos:Pos}{args:List Expr}{aa:List (V0×Obj)}{s:M1}{σ:St}{H:Hp}{Q:V1->M1->Prop}{te:TE}(z:PE X e te)(I:Inv X aa σ H s)(h:te σ H λ x H1=>∃a C dx fs g,x=.ref a/\H1 a=some (.ins C dx fs)/\gL X.K C/\iS X.K C m g/\fs.lookup m=none/\∀i,Inv X aa σ H1 i->Qm s!"c" X.A (Su pos (.ref g) [.ref a] (QF pos (Ql args X.env)) (RL pos (QU [] X.env))) Q X.xe i)(B:QA (.Call (.Attribute e m apos) args [] pos) X.env=(do
   let n<-QA e X.env
   Q4 apos.atName
   let(f,first)<-RB [n] (RS n m pl)
   Su pos f first (QF pos (Ql args X.env)) (RL pos (QU [] X.env)))):Qm s!"c" X.A (QA (.Call (.Attribute e m apos) args [] pos) X.env) Q X.xe s:=by
 refine Sz (pl:=pl) (aM (z aa s σ H _ I h) λ u i j=>?_) B;obtain⟨x,H1,y,D,a,C,dx,fs,g,ex,G,c,k,l,q⟩:=j;subst ex;obtain rfl:u=Qq a:=D;exact xO y G c k l (q i y)
end
section
variable{X:Cx}{aa:List (V0×Obj)}{σ:St}{H:Hp}{s:M1}{A:V3}{E:V1->M1->Prop}{Q:V1->M1->Prop}{c:V1}{b:Bool}
inductive dD(K:X0)(H:Hp):V->V1->Prop where
 |non:dD K H .non (.type "NoneType")
 |bl(x:Bool):dD K H (.bl x) (.type "bool")
 |int(i:Int):dD K H (.int i) (.type "int")
 |str(x:V2):dD K H (.str x) (.type "str")
 |flt(x:UInt64):dD K H (.flt x) (.type "float")
 |lst{a:V0}{xs:List V}(e:H a=some (.lst xs)):dD K H (.ref a) (.type "list")
 |frz{a:V0}{o:Obj}{xs:List V}(e:H a=some (.frz o (.lst xs))):dD K H (.ref a) (.type "list")
 |tup{a:V0}{xs:List V}(e:H a=some (.tup xs)):dD K H (.ref a) (.type "tuple")
 |dK{a:V0}{kvs:List (bD×V)}(e:H a=some (.dK kvs)):dD K H (.ref a) (.type "dict")
 |dT{a:V0}{kvs:List (List bD×V)}(e:H a=some (.dT kvs)):dD K H (.ref a) (.type "dict")
 |ins{a C dx:V0}{fs:List (V2×V)}(e:H a=some (.ins C dx fs))(cl:gL K C)(ha:QM K (.ref C) "__class__"=some (some (.builtin "object.__class__")))
   (hn:SY K (.builtin "object.__class__") "__get__"=some (some (.builtin "getset_descriptor.__get__"))) (htk:W.takesIn K (.builtin "object.__class__")=some true)
   (hm:S_ K C (.type "object")=some true):dD K H (.ref a) (.ref C)
theorem K8{x:V}{u t:V1}(I:Inv X aa σ H s)(j:RelV x u)(ty:dD X.K H x t)(e:QN X.K t c=some b)(h:∀tk,Q (.bool b) {s with toks:=tk}):Qm s!"c" A (call (.builtin "isinstance") [u,c]) Q E s:=by
 cases ty with
 |non=>cases(show u=Qz from j);exact Ru W.kitx_none I.kIn True.intro e (λ z=>nomatch z) h
 |bl y=>cases(show u=SN y from j);exact Ru W.kitx_bool I.kIn True.intro e (λ z=>nomatch z) h
 |int i=>obtain⟨t,q⟩:=(show ∃t,u=Rj i t from j);cases q;exact Ru W.kitx_int I.kIn True.intro e (λ z=>nomatch z) h
 |str y=>obtain⟨t,q⟩:=(show ∃t,u=Th y t from j);cases q;exact Ru W.kitx_str I.kIn True.intro e (λ z=>nomatch z) h
 |flt y=>obtain⟨t,q⟩:=(show ∃t,u=Value.float y t from j);cases q;exact Ru W.kitx_float I.kIn True.intro e (λ z=>nomatch z) h
 |@lst a xs B=>
  cases(show u=Qq a from j);obtain⟨ω,ω,n,ω,h1⟩:=(show aQ X.prog X.w H s.heap a (.lst xs)from I.hok a _ B);exact Ru W.kitx_list I.kIn ⟨_,h1,rfl⟩ e (λ z=>nomatch z) h
 |@frz a M xs B=>
  cases(show u=Qq a from j);obtain⟨ω,ω,ω,n,ω,h1⟩:=(show aQ X.prog X.w H s.heap a (.frz M (.lst xs))from I.hok a _ B);exact Ru W.kitx_list I.kIn ⟨_,h1,rfl⟩ e (λ z=>nomatch z) h
 |@tup a xs B=>
  cases(show u=Qq a from j);obtain⟨ω,ω,ω,p⟩:=(show aQ X.prog X.w H s.heap a (.tup xs)from I.hok a _ B);obtain⟨o,h1,h2,ω⟩:=p;exact Ru W.kitx_tuple I.kIn ⟨o,h1,h2⟩ e (λ z=>nomatch z) h
 |@dK a D B=>
  cases(show u=Qq a from j);obtain⟨ω,ω,vs,ω,p⟩:=(show aQ X.prog X.w H s.heap a (.dK D)from I.hok a _ B);obtain⟨o,es,N,h1,h2,ω⟩:=p;exact Ru W.kitx_dict I.kIn ⟨o,h1,h2.1⟩ e (λ z=>nomatch z) h
 |@dT a D B=>
  cases(show u=Qq a from j);obtain⟨ω,ω,xs,ω,o,es,N,h1,h2,ω⟩:=(show aQ X.prog X.w H s.heap a (.dT D)from I.hok a _ B);exact Ru W.kitx_dict I.kIn ⟨o,h1,h2.1⟩ e (λ z=>nomatch z) h
 |@ins a C dx fs B L R S G U=>
  cases(show u=Qq a from j);obtain⟨mA,O,ω⟩:=sL I.hok B;obtain⟨Y,J,ω⟩:=O.look;exact Ru (W.kitx_own (L.get _) L.hd R S G U) I.kIn J e (λ z=>nomatch z) h
end
end L2
namespace L2
open PySem PySem.Spec PyProof.Rows
structure aP(k:Nat)(A:V3):Prop where
 hd:A.handled=none
 dp:A.depth+2*k+5<recursionLimit
 un:A.units+16*k+200<TL
 gd:A.guards=some []
theorem aP.mono{j k:Nat}{A:V3}(r:aP k A)(h:j<=k):aP j A:=⟨r.hd,by have:=r.dp;lia,by have:=r.un;lia,r.gd⟩
theorem aP.deeper{k:Nat}{A:V3}(r:aP (k+1) A)(env:Env):aP k (A.deeper env):=
 ⟨r.hd,by have:=r.dp;show A.depth+1+2*k+5<_;lia,by have:=r.un;show A.units+3+16*k+200<_;lia,r.gd⟩
theorem aP.in1{k:Nat}{A:V3}(r:aP (k+1) A):aP k A.in1:=
 ⟨r.hd,by have:=r.dp;show A.depth+2*k+5<_;lia,by have:=r.un;show A.units+1+16*k+200<_;lia,r.gd⟩
theorem MG{A:V3}{C:V0}{us:List V1}{kw:List (V2×V1)}:(A.under (.builtin "type.__call__" ⟨.ref C::us,kw⟩)).depth=A.depth+1:=by
 first|rfl|simp[Around.under,Code.weight,Code.isCreation,Code.isGuard,Code.isCaller,Code.frames,Code.isFrame,guardIds]
theorem MB{A:V3}{C:V0}{us:List V1}{kw:List (V2×V1)}:(A.under (.builtin "type.__call__" ⟨.ref C::us,kw⟩)).units=A.units+1:=by
 first|rfl|simp[Around.under,Code.cUnits,Code.frames,Code.isFrame]
theorem aP.make{k:Nat}{A:V3}(r:aP (k+1) A)(C:V0)(us:List V1)(kw:List (V2×V1)):aP k (A.under (.builtin "type.__call__" ⟨.ref C::us,kw⟩)):=
 ⟨r.hd,by have:=r.dp;rw[MG];lia,by have:=r.un;rw[MB];lia,r.gd⟩
theorem aP.depth{k:Nat}{A:V3}(r:aP k A):A.depth<recursionLimit:=by have:=r.dp;lia
theorem aP.units{k:Nat}{A:V3}(r:aP k A):A.units+64<TL:=by have:=r.un;lia
def fM:TA:=λ ω H Q=>Q [] H
def kj(ta:TE)(tr:TA):TA:=λ σ H Q=>ta σ H λ x H1=>tr σ H1 λ xs H2=>Q (x::xs) H2
section
variable{X:Cx}{e:Expr}{es:List Expr}{te:TE}{t:TA}{pos:Pos}
theorem dO:PA X [] fM:=λ ω ω ω ω H Q I h=>RO ⟨[],H,I,.nil,h⟩
theorem cg(j:PE X e te)(hr:PA X es t)(hs:Ql (e::es) X.env=(false,QA e X.env)::Ql es X.env:=by rfl):PA X (e::es) (kj te t):=by
 intro pos aa s σ H Q I h;rw[hs];show Qm _ _ (spliced ((false,QA e X.env)::QF pos (Ql es X.env))) _ _ s;refine Rh (aM (j aa s σ H _ I h) λ u n i=>?_);obtain⟨x,H1,q,y,z⟩:=i;exact aM (hr pos aa n σ H1 _ q z) λ us J ⟨xs,H2,B,D,G⟩=>⟨x::xs,H2,B,.cons y D,G⟩
def oO(t:TA):TE:=λ σ H Q=>t σ H λ xs H1=>xs.length<=Qj/\∀p,H1 p=none->Q (.ref p) (ag H1 p (.tup xs))
def oU(t:TA):TE:=λ σ H Q=>t σ H λ xs H1=>xs.length<=Qj/\∀p,H1 p=none->Q (.ref p) (ag H1 p (.lst xs))
theorem bz{n}(h:PA X es t):PE X (.Tuple es n pos) (oO t):=by
 intro aa s σ H Q I y;refine wpAny_Tuple_spliced (aM (h pos aa s σ H _ I y) λ us i ⟨xs,H1,j,r,z,q⟩=>⟨by rw[<-r.length];exact z,?_⟩);have B:H1 i.heap.objs.size=none:=j.hok.fresh (aS _);refine⟨.ref i.heap.objs.size,ag H1 i.heap.objs.size (.tup xs),j.laid (t':=i.toks) (λ b u e=>Qg _ e) (aS _) ?_,rfl,q _ B⟩;exact⟨⟨z,sr⟩,us,r,⟨_,Qo _ rfl,rfl,_,rfl⟩⟩
theorem bK(h:PA X es t):PE X (.List es pos) (oU t):=by
 intro aa s σ H Q I n;refine wpAny_List_spliced (aM (h pos aa s σ H _ I n) λ us i ⟨xs,H1,j,r,z,q⟩=>⟨by rw[<-r.length];exact z,?_⟩);have y:H1 i.heap.objs.size=none:=j.hok.fresh (aS _);refine⟨.ref i.heap.objs.size,ag H1 i.heap.objs.size (.lst xs),j.laid (t':=i.toks) (λ b u e=>Qg _ e) (aS _) ?_,rfl,q _ y⟩;exact⟨z,us,0,r,Qo _ rfl⟩
end
abbrev Sp:=List V->Hp->VK->XK->Prop
abbrev iA:=List Env->Hp->M1->XK->V1->M1->Prop
structure hU(P:Program)(w:Y3)(K:X0)(mg:V2->Option V1)(base:Z3)(A:V3)(outer:List Env)(s:M1)(H:Hp):Prop where
 frames:A.frames=some outer
 mod:Mod K mg base
 bs:∀b o,base.get? b=some o->s.heap.get? b=some o/\H b=none
 bsz:base.objs.size<=s.heap.objs.size
 funs:s.heap.FunFrames base outer
 frf:∀b∈fJ outer,H b=none
 hok:cV P w H s.heap
 bare:SG s.gens
def CE(outer:List Env)(P:Program)(w:Y3)(H:Hp)(s:M1)(Q:VK)(u:V1)(s':M1):Prop:=
 ∃v H',s'.os=s.os/\SG s'.gens/\Un (fJ outer) [] H H' s.heap s'.heap/\cV P w H' s'.heap/\RelV v u/\Q v H'
def CR(CX:iA)(outer:List Env)(P:Program)(w:Y3)(H:Hp)(s:M1)(Q:VK)(E:XK)(r:T4)(s':M1):Prop:=
 match r with
 | .ok (.ret u)=>CE outer P w H s Q u s'
 | .ok _=>False
 | .error e=>CX outer H s E e s'
structure cj(P:Program)(w:Y3)(K:X0)(mg:V2->Option V1)(base:Z3)(CX:iA)(k:Nat)(f:V0)(fd:Q_)(ps:List V2)(sp:Sp):Prop where
 len:∀vs H Q E,sp vs H Q E->vs.length=ps.length
 run:∀(A:V3)(outer:List Env)(s:M1)(H:Hp)(args:Args)(us:List V1)(vs:List V)(Q:VK)(E:XK),aP k A->hU P w K mg base A outer s H->BindsTo s fd args (ps.zip us)->ax vs us->sp vs H Q E->
  Rm (Qn P w) A (.call (.ref f) args) (CR CX outer P w H s Q E) s
variable{P:Program}{K:X0}{outer:List Env}{H:Hp}
theorem hU.make{w:Y3}{mg:V2->Option V1}{base:Z3}{A:V3}{s:M1}(e:hU P w K mg base A outer s H)(C:V0)(us:List V1)(kw:List (V2×V1)):hU P w K mg base (A.under (.builtin "type.__call__" ⟨.ref C::us,kw⟩)) outer s H:=⟨by first|exact e.frames|(simpa[Around.under,Code.envs,Code.isFrame,pushEnvs]using e.frames),e.mod,e.bs,e.bsz,e.funs,e.frf,e.hok,e.bare⟩
section
variable{X:Cx}{aa:List (V0×Obj)}{σ:St}{H:Hp}{s s':M1}
theorem Inv.env0(I:Inv X aa σ H s):hU X.prog X.w X.K X.mg X.base X.A X.stack s H:=
 ⟨I.ok.frames,I.ok.mod,I.bs,cb I.ok.bsz I.sz,I.stack,I.stkFree,I.hok,I.bare⟩
theorem Inv.after{Q:VK}{u:V1}(I:Inv X aa σ H s)(h:CE X.stack X.prog X.w H s Q u s'):EP X aa σ Q u s':=by
 obtain⟨v,H',y,i,un,j,r,q⟩:=h;obtain⟨B,g,d,t,n⟩:=s';obtain rfl:n=s.os:=y;exact⟨v,H',I.call (h':=B) (g':=g) (d':=d) (t':=t) (ch:=[]) un j i (λ b z=>T7 z s!"n"),r,q⟩
end
def rG(sp:Sp)(dvs:List V)(E:XK)(t:TA):TE:=λ σ H Q=>t σ H λ vs H1=>sp (vs++dvs) H1 Q E
def rA(C:V0)(m:V2)(sp:Sp)(dvs:List V)(E:XK)(ta:TE)(t:TA):TE:=λ σ H Q=>ta σ H λ x H1=>∃a dx fs,x=.ref a/\H1 a=some (.ins C dx fs)/\fs.lookup m=none/\
 t σ H1 λ vs H2=>sp (x::(vs++dvs)) H2 Q E
def yz(C:V0)(sp:Sp)(dvs:List V)(E:XK)(t:TA):TE:=λ σ H Q=>t σ H λ vs H1=>∀x dx,H1 x=none->H1 dx=none->dx≠x->
 sp (.ref x::(vs++dvs)) (ag (ag H1 dx (.own x)) x (.ins C dx [])) (λ v H2=>v=.non/\Q (.ref x) H2) E
def Binds(K:X0)(fd:Q_)(ps:List V2)(ds:List V1):Prop:=
 ∀(s:M1)(us:List V1),K.In s.heap->(us++ds).length=ps.length->BindsTo s fd ⟨us,[]⟩ (ps.zip (us++ds))
theorem Binds.all{fd:Q_}{ps:List V2}(h:∀us:List V1,us.length=ps.length->RY fd ⟨us,[]⟩=pure (ps.zip us)):Binds K fd ps []:=λ s us ω hl=>by
 rw[gD]at hl ⊢;exact .of_eq (h us hl)
def lq(CX:iA)(X:Cx)(E:XK):Prop:=∀(aa:List (V0×Obj))(σ:St)(H:Hp)(s:M1)(e:V1)(s':M1),Inv X aa σ H s->CX X.stack H s E e s'->X.xe e s'
section
variable{X:Cx}{CX:iA}{k:Nat}{f C:V0}{fd:Q_}{ps:List V2}{sp:Sp}{dvs:List V}{ds:List V1}{E:XK}{x m:V2}{p pos apos:Pos}{e o:Expr}{es:List Expr}{ta:TE}{t:TA}
theorem yC{aa:List (V0×Obj)}{σ:St}{s:M1}{Q:VK}{us:List V1}{vs:List V}(F:cj X.prog X.w X.K X.mg X.base CX k f fd ps sp)(hr:aP k X.A)(hb:Binds X.K fd ps ds)(hd:ax dvs ds)(hx:lq CX X E)(I:Inv X aa σ H s)(r:ax vs us)(h:sp (vs++dvs) H Q E):Qm s!"c" X.A (call (.ref f) us) (EP X aa σ Q) X.xe s:=by
 have r2:ax (vs++dvs) (us++ds):=r.append hd;have hl:(us++ds).length=ps.length:=by rw[<-r2.length];exact F.len _ _ _ _ h
 refine RD (Rn (F.run X.A X.stack s H ⟨us,[]⟩ (us++ds) (vs++dvs) Q E hr I.env0 (hb s us I.kIn hl) r2 h) λ r s' hq=>?_);cases r with
 |error e=>exact hx aa σ H s e s' I hq
 |ok fl=>
  cases fl with
  |ret u=>exact I.after hq
  |next=>exact False.elim hq
  |brk=>exact False.elim hq
  |cont=>exact False.elim hq
theorem D4(F:cj X.prog X.w X.K X.mg X.base CX k f fd ps sp)(hr:aP k X.A)(y:Gl X x)(z:X.mg x=some (.ref f))(B:QR X.K (.ref f)=true)(D:Binds X.K fd ps ds)(hd:ax dvs ds)(G:lq CX X E)(J:PA X (e::es) t)(i:s!"p"=false:=by decide)(L:Ql (e::es) X.env=(false,QA e X.env)::Ql es X.env:=by rfl)(j:(QF pos (Ql es X.env)).any (·.1)=false:=by rfl):PE X (.Call (.Name x p) (e::es) [] pos) (rG sp dvs E t):=by
 intro aa s σ H Q I h;refine QK (mM I y z ?_ i);refine SH (h₀:=X.base) I.ok.mod.kin B (aM (J pos aa s σ H _ I h) λ us M ⟨vs,H1,n,r,q⟩=>⟨n.kIn,?_⟩) L j;exact yC F hr D hd G n r q
theorem Il{pl:Sem Bool}(G:PE X o ta)(c:gL X.K C)(y:iS X.K C m f)(F:cj X.prog X.w X.K X.mg X.base CX k f fd ps sp)(hr:aP k X.A)(J:Binds X.K fd ps ds)(hd:ax dvs ds)(L:lq CX X E)(M:PA X (e::es) t)(i:Ql (e::es) X.env=(false,QA e X.env)::Ql es X.env:=by rfl)(j:(QF pos (Ql es X.env)).any (·.1)=false:=by rfl)(N:QA (.Call (.Attribute o m apos) (e::es) [] pos) X.env=(do
   let z<-QA o X.env
   Q4 apos.atName
   let(f,first)<-RB [z] (RS z m pl)
   Su pos f first (QF pos (Ql (e::es) X.env)) (RL pos (QU [] X.env))):=by rfl):PE X (.Call (.Attribute o m apos) (e::es) [] pos) (rA C m sp dvs E ta t):=by
 intro aa s σ H Q I h;refine Sz (pl:=pl) (aM (G aa s σ H _ I h) λ u O n=>?_) N;obtain⟨x,H1,B,R,a,dx,fs,ex,S,l,q⟩:=n;subst ex;obtain rfl:u=Qq a:=R;refine xO B S c y l ?_;refine SH (first:=[.ref a]) (h₀:=X.base) I.ok.mod.kin y.kp (aM (M pos aa O σ H1 _ B q) λ us Y ⟨vs,H2,D,r,U⟩=>⟨D.kIn,?_⟩) i j;exact yC (us:=.ref a::us) (vs:=.ref a::vs) F hr J hd L D (.cons rfl r) U
theorem KW{pl:Sem Bool}(z:PE X o ta)(c:gL X.K C)(n:iS X.K C m f)(F:cj X.prog X.w X.K X.mg X.base CX k f fd ps sp)(hr:aP k X.A)(B:Binds X.K fd ps ds)(hd:ax dvs ds)(D:lq CX X E)(G:QA (.Call (.Attribute o m apos) [] [] pos) X.env=(do
   let y<-QA o X.env
   Q4 apos.atName
   let(f,first)<-RB [y] (RS y m pl)
   Su pos f first (QF pos (Ql [] X.env)) (RL pos (QU [] X.env))):=by rfl):PE X (.Call (.Attribute o m apos) [] [] pos) (rA C m sp dvs E ta fM):=by
 intro aa s σ H Q I h;refine Sz (pl:=pl) (aM (z aa s σ H _ I h) λ u M i=>?_) G;obtain⟨x,H1,j,J,a,dx,fs,ex,L,l,q⟩:=i;subst ex;obtain rfl:u=Qq a:=J;refine xO j L c n l ?_;exact W.callWith_K0 (first:=[.ref a]) j.kIn n.kp (yC (us:=[.ref a]) (vs:=[.ref a]) F hr B hd D j (.cons rfl .nil) q)
structure Mk(K:X0)(C f:V0):Prop where
 makes:W.makesIn K C=true
 init:QM K (.ref C) "__init__"=some (some (.ref f))
 fn:TR K (.ref f)=true
 kp:QR K (.ref C)=true
theorem Ki{aa:List (V0×Obj)}{σ:St}{s:M1}{Q:VK}{us:List V1}{vs:List V}(M:Mk X.K C f)(F:cj X.prog X.w X.K X.mg X.base CX k f fd ps sp)(hr:aP (k+1) X.A)(hb:Binds X.K fd ps ds)(hd:ax dvs ds)(hx:lq CX X E)(I:Inv X aa σ H s)(r:ax vs us)(h:∀x dx,H x=none->H dx=none->dx≠x->sp (.ref x::(vs++dvs)) (ag (ag H dx (.own x)) x (.ins C dx [])) (λ v H2=>v=.non/\Q (.ref x) H2) E):Qm s!"c" X.A (call (.ref C) us) (EP X aa σ Q) X.xe s:=by
 have hq:=h (s.heap.objs.size+1) s.heap.objs.size (I.hok.fresh (ie _)) (I.hok.fresh (aS _)) (bY (jl _));have I2:=Inv.made (C:=C) I;have r2:ax (V.ref (s.heap.objs.size+1)::(vs++dvs)) (Qq (s.heap.objs.size+1)::(us++ds)):=.cons rfl (r.append hd);have hl:(Qq (s.heap.objs.size+1)::us++ds).length=ps.length:=by
  have e:=r2.length;rw[F.len _ _ _ _ hq]at e;exact e.symm
 refine RD (JO (f:=f) I.kIn M.makes M.init (beq_iff_eq.mp M.fn) (Rn (F.run _ X.stack _ _ ⟨Qq (s.heap.objs.size+1)::us,[]⟩ (Qq (s.heap.objs.size+1)::(us++ds)) _ _ E (hr.make C us []) (I2.env0.make C us []) (hb _ (Qq (s.heap.objs.size+1)::us) I2.kIn hl) r2 hq) λ r s' hq'=>?_));cases r with
 |error e=>exact hx aa σ _ _ e s' I2 hq'
 |ok fl=>
  cases fl with
  |ret u=>
   obtain⟨v,H',I3,rv,ev,q3⟩:=I2.after hq';subst ev;exact⟨rv,⟨V.ref (s.heap.objs.size+1),H',I3,rfl,q3⟩⟩
  |next=>exact False.elim hq'
  |brk=>exact False.elim hq'
  |cont=>exact False.elim hq'
theorem Hz(M:Mk X.K C f)(F:cj X.prog X.w X.K X.mg X.base CX k f fd ps sp)(hr:aP (k+1) X.A)(y:Gl X x)(z:X.mg x=some (.ref C))(B:Binds X.K fd ps ds)(hd:ax dvs ds)(D:lq CX X E)(G:PA X (e::es) t)(i:s!"p"=false:=by decide)(J:Ql (e::es) X.env=(false,QA e X.env)::Ql es X.env:=by rfl)(j:(QF pos (Ql es X.env)).any (·.1)=false:=by rfl):PE X (.Call (.Name x p) (e::es) [] pos) (yz C sp dvs E t):=by
 intro aa s σ H Q I h;refine QK (mM I y z ?_ i);refine SH (h₀:=X.base) I.ok.mod.kin M.kp (aM (G pos aa s σ H _ I h) λ us L ⟨vs,H1,n,r,q⟩=>⟨n.kIn,?_⟩) J j;exact Ki M F hr B hd D n r q
end
def PK(X:Cx)(kws:List Keyword)(t:TA):Prop:=
 ∀(pos:Pos)(aa:List (V0×Obj))(s:M1)(σ:St)(H:Hp)(Q:List V->Hp->Prop),Inv X aa σ H s->t σ H Q->Qm s!"c" X.A (evalAll ((RL pos (QU kws X.env)).map (·.2))) (AP X aa σ Q) X.xe s
section
variable{X:Cx}{CX:iA}{k:Nat}{f C:V0}{fd:Q_}{ps ks:List V2}{sp:Sp}{E:XK}{x m:V2}{p pos apos kpos:Pos}{e o:Expr}{es:List Expr}{kws:List Keyword}{te ta:TE}{t tk:TA}{nm:Option V2}
theorem HV:PK X [] fM:=λ ω ω ω ω H Q I h=>Ta ⟨[],H,I,.nil,h⟩
theorem Jg(i:PE X e te)(hr:PK X kws t):PK X (⟨nm,e,kpos⟩::kws) (kj te t):=by
 intro pos aa s σ H Q I h;show Qm _ _ (evalAll ((do let v<-QA e X.env;Q4 pos;pure v)::(RL pos (QU kws X.env)).map (·.2))) _ _ s;refine SO (Qf (aM (i aa s σ H _ I h) λ u j ⟨x,H1,n,q,y⟩=>Qf (QO (Qh ?_))));exact aM (hr pos aa j σ H1 _ n y) λ us G ⟨xs,H2,z,B,D⟩=>⟨x::xs,H2,z,.cons q B,D⟩
variable{g:List V1->List V1->List V1}{gV:List V->List V->List V}
end
structure bj(N P:List V2)(sc:Rf):Prop where
 kind:sc.kind=.function
 co:sc.isCoroutine=false
 gen:sc.isGenerator=false
 nd:N.Nodup
 pre:N.take P.length=P
 par:∀x∈P,sc.names.lookup x=some .local\/sc.names.lookup x=some .cell
 nofree:∀y∈sc.names,y.2≠.free
theorem AD{i:V2->Option Sv}{x:V2}:∀{binds:List (V2×V1)}{m:V2->Option V1},(∀v,(x,v)∉binds)->bindL i binds m x=m x
 |[],_,_=>rfl
 |(n,v)::r,m,h=>by
  unfold bindL;rw[AD λ w j=>h w (dz _ j)];split
  ·have:x≠n:=by rintro rfl;exact h v dR
   simp[this]
  ·rfl
theorem AN{i:V2->Option Sv}{x:V2}:∀{binds:List (V2×V1)}{m:V2->Option V1},(∀v,(x,v)∉binds)->bindC i binds m x=m x
 |[],_,_=>rfl
 |(n,v)::r,m,h=>by
  unfold bindC;rw[AN λ w j=>h w (dz _ j)];split
  ·rfl
  ·have:x≠n:=by rintro rfl;exact h v dR
   simp[this]
theorem AE{j:V2->Option Sv}{x:V2}{v:V1}:∀{P:List V2}{vs:List V1}{i:Nat}{m:V2->Option V1},P.Nodup->P[i]?=some x->vs[i]?=some v->j x=some .local->bindL j (P.zip vs) m x=some v
 |[],_,_,_,_,h,_,_=>by simp at h
 |_::_,[],_,_,_,_,h,_=>by simp at h
 |p::P,w::vs,0,m,n,h1,h2,q=>by
  simp at h1 h2;subst h1;subst h2;show bindL j ((p,w)::P.zip vs) m p=_;unfold bindL;rw[AD λ v y=>(lX.mp n).1 (List.of_mem_zip y).1,T6 q];simp
 |p::P,w::vs,i+1,m,n,h1,h2,q=>by
  show bindL j ((p,w)::P.zip vs) m x=_;unfold bindL;exact AE (i:=i) (lX.mp n).2 (by simpa using h1) (by simpa using h2) q
theorem AY{j:V2->Option Sv}{x:V2}{v:V1}:∀{P:List V2}{vs:List V1}{i:Nat}{m:V2->Option V1},P.Nodup->P[i]?=some x->vs[i]?=some v->j x≠some .local->bindC j (P.zip vs) m x=some v
 |[],_,_,_,_,h,_,_=>by simp at h
 |_::_,[],_,_,_,_,h,_=>by simp at h
 |p::P,w::vs,0,m,n,h1,h2,q=>by
  simp at h1 h2;subst h1;subst h2;show bindC j ((p,w)::P.zip vs) m p=_;unfold bindC;rw[AN λ v y=>(lX.mp n).1 (List.of_mem_zip y).1,T5 q];simp
 |p::P,w::vs,i+1,m,n,h1,h2,q=>by
  show bindC j ((p,w)::P.zip vs) m x=_;unfold bindC;exact AY (i:=i) (lX.mp n).2 (by simpa using h1) (by simpa using h2) q
def iK(N:List V2)(vs:List V):St:=vs.map some++c9 (N.length-vs.length) none
def dC(CX:iA)(P:Program)(w:Y3)(K:X0)(mg:V2->Option V1)(base:Z3)(N:List V2)(qual:V2)(scope:Rf)(f:V0)(cd:V1)(A:V3)(outer:List Env)(s:M1)(H:Hp)(E:XK):Cx where
 prog:=P
 w:=w
 K:=K
 mg:=mg
 base:=base
 A:=A.deeper (Sn qual scope s.heap.objs.size f cd)
 N:=N
 s₀:=s
 H₀:=H
 env:=Sn qual scope s.heap.objs.size f cd
 outer:=outer
 stack:=Sn qual scope s.heap.objs.size f cd::outer
 ex:=[]
 calm:=true
 fn:=λ ω=>true
 pn:=[]
 xe:=λ e s'=>Qm (Qn P w) (A.deeper (Sn qual scope s.heap.objs.size f cd)) (leaving (Sn qual scope s.heap.objs.size f cd) e) (λ ω i=>CX outer H s E e i) (λ j i=>CX outer H s E j i) s'
theorem zA{i:Rf}{n:Nat}{x:V2}(h:i.names.lookup x=some .cell):∃c,(Tn n i.names []).lookup x=some c:=by
 have q:=W.cellsFrom_some i.names n [] (.inl h);exact Option.isSome_iff_exists.mp q
theorem LS{CX:iA}{w:Y3}{mg:V2->Option V1}{base:Z3}{N ps:List V2}{qual:V2}{scope:Rf}{f:V0}{J:V1}{A:V3}{s s1:M1}{E:XK}{us:List V1}{vs:List V}(S:bj N ps scope)(hd:A.handled=none)(j:hU P w K mg base A outer s H)(hl:vs.length=ps.length)(r:ax vs us)(x:InCallC s s.heap.objs.size (bindL (Sn qual scope s.heap.objs.size f J).kindOf (ps.zip us) λ ω=>none) (Tn (s.heap.objs.size+1) scope.names []) (bindC (Sn qual scope s.heap.objs.size f J).kindOf (ps.zip us) λ ω=>none) s1):Inv (dC CX P w K mg base N qual scope f J A outer s H E) [] (iK N vs) H s1:=by
 have O:ps.length<=N.length:=by have:=congrArg gB S.pre;rw[cJ]at this;lia
 obtain⟨h1,tk,rfl,L⟩:=x.done;have B:∀b:V0,b∉(dC CX P w K mg base N qual scope f J A outer s H E).ex:=λ b z=>T7 (show b∈([]:List V0)from z) s!"n";refine⟨⟨j.mod,S.kind,rfl,rfl,aS _,λ y z c h1 h2=>?_,λ y D=>?_,λ y c ω h=>?_,λ ω=>hd,Around.frames_deeper j.frames,.inr ⟨rfl,rfl⟩,λ b z=>T7 z (B b),j.bs,j.bsz,λ b ω ω=>B b,λ b z=>T7 z (B b),j.funs,j.frf⟩,rfl,j.bare,Un.kept L,⟨_,x.toInCall.ns,λ i y v h1 h2 Y=>?_⟩,λ y c h=>⟨_,x.cell y c h⟩,j.hok.fresh (aS _),λ y c h=>?_,λ p G=>T7 (show p∈([]:List (V0×Obj))from G) s!"n",j.hok.kept L,?_⟩
 ·exact name_of_addr x.apart (QT h1) (QT h2)
 ·have D:scope.names.lookup y=some .cell\/scope.names.lookup y=some .free:=D;rcases D with D|D
  ·exact zA D
  ·exact T7 rfl (S.nofree _ (QT D))
 ·exact jm (x.above y c (QT h))
 ·have hi:i<vs.length:=by
   unfold iK at h2;by_cases hi:i<vs.length
   ·exact hi
   ·rw[jF (by simpa using hi)]at h2;rw[pJ]at h2;split at h2<;>cases h2
  have R:vs[i]?=some v:=by
   unfold iK at h2;rw[jE (by simpa using hi),a_]at h2;cases e:vs[i]? with
   |none=>rw[e]at h2;cases h2
   |some a=>rw[e]at h2;cases h2;rfl
  obtain⟨u,M,U⟩:=r.get R;have G:ps[i]?=some y:=by
   rw[<-S.pre,vN qR];exact h1
  have I:ps.Nodup:=by rw[<-S.pre];exact S.nd.sublist (List.take_sublist _ _)
  refine⟨u,U,?_⟩;rcases S.par y (bN G)with k|k
  ·exact .inl ⟨k,AE I G M k⟩
  ·obtain⟨c,e⟩:=zA (n:=s.heap.objs.size+1) k;refine .inr ⟨.inl k,c,e,?_⟩;have q:=x.cell y c e;rw[AY I G M (by show scope.names.lookup y≠_;rw[k];decide)]at q;exact q
 ·exact j.hok.fresh (jm (x.above y c (QT h)))
 ·unfold iK;show _=N.length;rw[bB,aA,nJ];lia
theorem yq{CX:iA}{w:Y3}{mg:V2->Option V1}{base:Z3}{k:Nat}{f:V0}{name qual:V2}{params:SK}{body:List Qw}{scope:Rf}{dV kV doc pm cdv ct oc:V1}{an od:Option V0}{osl:Array (Option V1)}{N ps:List V2}{sp:Sp}(lk:K.lookup f=some ⟨oc,od,.func (Rz name qual params body scope dV kV doc pm an cdv ct),osl⟩)(hcd:SQ K cdv qual=true)(S:bj N ps scope)(len:∀vs H Q E,sp vs H Q E->vs.length=ps.length)(hbody:∀(A:V3)(outer:List Env)(s:M1)(H:Hp)(vs:List V)(Q:VK)(E:XK),aP k (A.deeper (Sn qual scope s.heap.objs.size f cdv))->sp vs H Q E->∃t,fb (dC CX P w K mg base N qual scope f cdv A outer s H E) body t/\t {nx:=λ ω H'=>Q .non H',rt:=Q} (iK N vs) H):cj P w K mg base CX (k+1) f (Rz name qual params body scope dV kV doc pm an cdv ct) ps sp:=by
 refine⟨len,λ A outer s H args us vs Q E hr e0 hb r hsp=>?_⟩;have hl:=len _ _ _ _ hsp;have KX:K.In s.heap:=e0.mod.kin.keeps λ b o e=>(e0.bs b o e).1;have lim:s.heap.NoLimit:=e0.mod.nolimit.keeps λ b o e=>(e0.bs b o e).1;have hkind:∀y∈ps.zip us,scope.names.lookup y.1=some .local\/(scope.names.lookup y.1=some .cell/\((Tn (s.heap.objs.size+1) scope.names []).lookup y.1).isSome=true):=λ⟨n,v⟩ hy=>by
  rcases S.par n (List.of_mem_zip hy).1 with q|q
  ·exact .inl q
  ·exact .inr ⟨q,W.cellsFrom_some _ _ _ (.inl q)⟩
 refine codeAny_call_function hr.depth (KX _ _ lk) rfl S.co S.gen rfl (W.codeRec_of KX hcd) (hb _ _ _ _ ?_);refine wpAny_newFunctionEnv_cells S.kind hkind λ env he s1 x=>?_;subst he;refine⟨lim.keeps x.toInCall.keep,codeAny_func ?_⟩;obtain⟨t,ht,hq⟩:=hbody A outer s H vs Q E (hr.deeper _) hsp;have I:Inv (dC CX P w K mg base N qual scope f cdv A outer s H E) [] (iK N vs) H s1:=LS S hr.hd e0 hl r x;refine QI (ht [] s1 (iK N vs) H _ I hq) (λ fl s' hs=>?_) λ e s' hs=>hs;have fin:∀{σ':St}{H':Hp}{v:V}{u:V1},Inv (dC CX P w K mg base N qual scope f cdv A outer s H E) [] σ' H' s'->RelV v u->Q v H'->CE outer P w H s Q u s':=
  λ{σ' H' v u} J rv q=>⟨v,H',J.os,J.bare,J.base,J.hok,rv,q⟩
 cases fl with
 |ret u=>
  obtain⟨v,σ',H',J,rv,q⟩:=hs;exact fin J rv q
 |next=>
  obtain⟨σ',H',J,q⟩:=hs;exact fin (v:=V.non) (u:=Qz) J rfl q
 |brk=>
  obtain⟨ω,ω,ω,q⟩:=hs;exact False.elim q
 |cont=>
  obtain⟨ω,ω,ω,q⟩:=hs;exact False.elim q
end L2
namespace L2
open PySem PySem.Spec PyProof.Rows
section
variable{X:Cx}{x:V2}{p pos:Pos}{e:Expr}{es:List Expr}{t:TA}{id T:String}{r:List V->Hp->VK->Prop}
def rL(r:List V->Hp->VK->Prop)(t:TA):TE:=λ σ H Q=>t σ H λ vs H1=>r vs H1 Q
theorem gI(n:il X (.builtin id) r)(q:Gl X x)(y:X.mg x=none)(z:Qv x=some (.builtin id))(B:PA X (e::es) t)(D:x≠"__name__":=by decide)(i:s!"p"=false:=by decide)(G:Ql (e::es) X.env=(false,QA e X.env)::Ql es X.env:=by rfl)(j:(QF pos (Ql es X.env)).any (·.1)=false:=by rfl):PE X (.Call (.Name x p) (e::es) [] pos) (rL r t):=by
 intro aa s σ H Q I h;refine QK (ip I q y z ?_ D i);exact PyProof.Rows.callWith_builtin1 (aM (B pos aa s σ H _ I h) λ us J ⟨vs,H1,L,M,N⟩=>n aa J σ H1 vs us Q L M N) G j
theorem d7(n:il X (.type T) r)(q:Gl X x)(y:X.mg x=none)(z:Qv x=some (.type T))(B:PA X (e::es) t)(D:x≠"__name__":=by decide)(i:s!"p"=false:=by decide)(G:Ql (e::es) X.env=(false,QA e X.env)::Ql es X.env:=by rfl)(j:(QF pos (Ql es X.env)).any (·.1)=false:=by rfl):PE X (.Call (.Name x p) (e::es) [] pos) (rL r t):=by
 intro aa s σ H Q I h;refine QK (ip I q y z ?_ D i);exact Qx (aM (B pos aa s σ H _ I h) λ us J ⟨vs,H1,L,M,N⟩=>n aa J σ H1 vs us Q L M N) G j
end
end L2
namespace HT
open PySem PyProof.Rows
section
open PySem.SeqAt
open PySem.AutoSeq1 (wpAny_loadPart')
open PySem.MeetsSeq PySem.MeetsSeq2 PySem.MeetsSeq3
end
section
variable{prog:Program}{w:Y3}{A:V3}{E:V1->M1->Prop}{s:M1}
theorem kf{t b:V0}{vs i:List V1}{Q:V1->M1->Prop}(S:T3 s.heap t vs.toArray)(U:T3 s.heap b i.toArray)(J:vs≠[])(h1:i=[]->Q (.ref t) s)(h2:i≠[]->Q (.ref s.heap.objs.size) {s with heap:=s.heap.push {cls:=.type "tuple",data:=.seq (vs++i).toArray}})(hsz:vs.length+i.length<=Qj):Qm s!"o" A (Rt .Add (.ref t) (.ref b)) Q E s:=by
 obtain⟨⟨cls,L,data,M⟩,D,N,n,hd⟩:=id S;obtain⟨⟨O,q,I,y⟩,j,z,R,B⟩:=id U;simp only at N hd z B;subst N hd z B;have e:vs.toArray++i.toArray=(vs++i).toArray:=by simp
 by_cases G:i=[]
 ·exact concat_meets ⟨_,D,rfl⟩ ⟨_,j,rfl⟩ To seq_tuple_add vM vL (vK _ _)
   (tuple_addW1 t b vs.toArray i.toArray n R L q M y (by simpa using J) (by simp[G])) ⟨D,j,h1 G⟩
 ·refine concat_meets ⟨_,D,rfl⟩ ⟨_,j,rfl⟩ To seq_tuple_add vM vL (vK _ _)
   (tuple_addW2 t b vs.toArray i.toArray n R L q M y (by simpa using J) (by simpa using G) (by rw[bF,bF];exact hsz)) ⟨D,j,?_⟩
  rw[e];exact h2 G
def bf(n d:Nat):Option Int->Nat
 |none=>d
 |some v=>if v<0 then(v+(n:Int)).toNat else min v.toNat n
theorem jh(n d:Nat):bf n d none=d:=rfl
theorem fP(n d k:Nat):bf n d (some (k:Int))=min k n:=by
 show(if(k:Int)<0 then((k:Int)+(n:Int)).toNat else min (k:Int).toNat n)=min k n;rw[T5 qR,gf]
theorem G_(n d:Nat)(hd:d<=n)(o:Option Int):bf n d o<=n:=by
 cases o with
 |none=>exact hd
 |some v=>
  show(if v<0 then(v+(n:Int)).toNat else min v.toNat n)<=n;by_cases i:v<0
  ·rw[T6 i];lia
  ·rw[T5 i];exact Nat.min_le_right _ _
theorem DE(v:Int)(n d:Nat):(if v<0 then max (v+(n:Int)) 0 else min v (n:Int))=((bf n d (some v):Nat):Int):=by
 show(if v<0 then max (v+(n:Int)) 0 else min v (n:Int))=(((if v<0 then(v+(n:Int)).toNat else min v.toNat n):Nat):Int);by_cases i:v<0
 ·simp only[T6 i];lia
 ·simp only[T5 i];lia
theorem Mw(lo hi:Option Int)(n:Nat):RV lo hi 1 (n:Int)=(((bf n 0 lo:Nat):Int),((bf n n hi:Nat):Int)):=by
 have h1:¬((1:Int)<0):=by lia
 unfold RV;simp only[h1,if_false];refine Prod.ext ?_ ?_
 ·cases lo with
  |none=>rfl
  |some v=>exact DE v n 0
 ·cases hi with
  |none=>rfl
  |some v=>exact DE v n n
theorem L9(i j:Nat):Ri (i:Int) (j:Int) 1=j-i:=by
 unfold Ri;have h1:(1:Int)>0:=by lia
 simp only[h1,if_true,Int.ediv_one];split<;>lia
theorem Bu{v:V1}{o:Option Int}{Q:Option Int->M1->Prop}(p:Tw v o)(h:Q o s):Qm s!"o" A (Builtin.Slice.slicePartIndex v) Q E s:=by
 cases p with
 |none=>exact slicePart_none h
 |int i t=>exact slicePart_int h
theorem BB{z:V0}{q y:V1}{lo hi:Option Int}{n:Nat}{Q:Int×Int×Nat->M1->Prop}(hs:s.heap.IsSliceOf z q y .none)(pl:Tw q lo)(B:Tw y hi)(h:Q (((bf n 0 lo:Nat):Int),1,bf n n hi-bf n 0 lo) s):Qm s!"o" A (Builtin.Slice.sliceApplied (.ref z) (pure (n:Int))) Q E s:=by
 obtain⟨G,i,D,j⟩:=id hs;unfold Builtin.Slice.sliceApplied Builtin.Slice.sliceFields;refine Qf (Qf (Ro i j (x:=q) rfl (Qf (Ro i j (x:=y) rfl (Qf (Ro i j (x:=.none) rfl (Qh ?_)))))));refine Qf (slicePart_none ?_);show Qm _ _ (if((1:Int)==0)=true then _ else _) _ _ s;rw[T5 qQ];refine Qf (Bu pl (Qf (Bu B (Qf (Qh ?_)))));show Qm _ _ (match RV lo hi 1 (n:Int)with|(lo,hi)=>pure (lo,(1:Int),Ri lo hi 1)) _ _ s;rw[Mw lo hi n];show Qm _ _ (pure (((bf n 0 lo:Nat):Int),(1:Int),Ri ((bf n 0 lo:Nat):Int) ((bf n n hi:Nat):Int) 1)) _ _ s;rw[L9];exact Qh h
theorem KS(xs:Array V1)(i k:Nat):((bU k).filterMap λ(m:Nat)=>xs[((i:Int)+(m:Int)*1).toNat]?).toArray=((xs.toList.drop i).take k).toArray:=by
 have e:(λ(m:Nat)=>xs[((i:Int)+(m:Int)*1).toNat]?)=λ m=>xs[i+m]?:=by
  funext m;have:((i:Int)+(m:Int)*1).toNat=i+m:=by lia
  rw[this]
 rw[e];have:=pick_run xs i k;rw[List.filterMap_map]at this;have j:((λ x=>xs[x]?)∘λ x=>i+x)=λ m=>xs[i+m]?:=rfl;rw[j]at this;rw[this]
theorem dJ{t n:V0}{items:Array V1}{G I:V1}{lo hi:Option Int}{Q:V1->M1->Prop}(j:T3 s.heap t items)(hs:s.heap.IsSliceOf n G I .none)(pl:Tw G lo)(J:Tw I hi)(L:¬(bf items.size 0 lo=0/\bf items.size items.size hi=items.size))(h:Q (.ref s.heap.objs.size) {s with heap:=s.heap.push {cls:=.type "tuple",data:=.seq ((items.toList.drop (bf items.size 0 lo)).take (bf items.size items.size hi-bf items.size 0 lo)).toArray}})(hsz:items.size<=Qj):Qm s!"o" A (SI (.ref t) (.ref n)) Q E s:=by
 have i:sizeOk (.seq ((items.toList.drop (bf items.size 0 lo)).take (bf items.size items.size hi-bf items.size 0 lo)).toArray):=by
  show((items.toList.drop (bf items.size 0 lo)).take (bf items.size items.size hi-bf items.size 0 lo)).toArray.size<=Qj;rw[bF,cJ,gA,j5];lia
 have O:bf items.size items.size hi<=items.size:=G_ _ _ (aS _) hi;obtain⟨M,y,z,N⟩:=id hs;have B:s.TypeIs (.ref n) "slice":=⟨M,y,z⟩;unfold SI;try with_reducible refine QC ?_
 first|refine Qf (Qh ?_)|skip
 refine Qf (wpAny_sequenceKey j.typeIs qQ ?_);refine Qf (wpAny_callSpecial?_slot (name:=Qp "__getitem__") j.typeIs QW (wpAny_call_entry QW j.typeIs entry_tuple_getitem ?_ (args_tuple_getitem _ _)));show Qm _ _ (Builtin.Tuple.tupleItemsOf (.ref t)>>=_) _ _ s;refine Qf (tupleItemsOf_ j ?_);refine Qf (RU B ?_);rw[T6 qQ];refine Qf (BB hs pl J ?_);have D:¬((((bf items.size 0 lo:Nat):Int)==0&&(1:Int)==1&&(bf items.size items.size hi-bf items.size 0 lo)==items.size)=true):=by
  intro q;rw[jZ,jZ]at q;have R:((bf items.size 0 lo:Nat):Int)=0:=eq_of_beq q.1.1;have S:bf items.size items.size hi-bf items.size 0 lo=items.size:=eq_of_beq q.2;exact L ⟨qR,qR⟩
 show Qm _ _ (if (((bf items.size 0 lo:Nat):Int) == 0&&(1:Int) == 1&&(bf items.size items.size hi - bf items.size 0 lo) == items.size)=true then _ else _) _ _ s;rw [T5 D,KS];first
  |exact Qf (m:=Rq _) (QS (Qh ⟨_,rfl,Qh h⟩) i)
  |exact Qf (m:=Rq _) (QS (Qf (Qh (Qh ⟨_,rfl,Qh h⟩))) i)
  |exact Qf (Qf (m:=Rq _) (QS (Qh (Qh ⟨_,rfl,Qh h⟩)) i))
  |exact Qf (Qf (m:=Rq _) (QS (Qh ⟨_,rfl,Qh h⟩) i))
end
end HT
namespace L2
open PySem PySem.Spec PyProof.Rows
abbrev TO:=St->Hp->(Option Int->Hp->Prop)->Prop
def PO(X:Cx)(e:Option Expr)(t:TO):Prop:=
 ∀(aa:List (V0×Obj))(s:M1)(σ:St)(H:Hp)(Q:Option Int->Hp->Prop),Inv X aa σ H s->t σ H Q->
  Qm s!"c" X.A (evalPart e X.env) (λ u s'=>∃o H',Inv X aa σ H' s'/\Tw u o/\Q o H') X.xe s
def Dg:TO:=λ ω H Q=>Q none H
def B_(t:TE):TO:=λ σ H Q=>t σ H λ x H1=>∃i,x=.int i/\Q (some i) H1
section
variable{X:Cx}{e:Expr}{te:TE}{lo hi:Option Expr}{tl th:TO}{pos p2:Pos}
theorem gX:PO X none Dg:=by
 intro aa s σ H Q I h;rw[evalPart_none];exact Qh ⟨none,H,I,.none,h⟩
theorem gY(h:PE X e te):PO X (some e) (B_ te):=by
 intro aa s σ H Q I n;rw[evalPart_some];refine aM (h aa s σ H _ I n) λ u D j=>?_;obtain⟨x,H1,y,z,B⟩:=j;obtain⟨i,rfl,q⟩:=B;obtain⟨t,rfl⟩:=z;exact⟨some i,H1,y,.int i t,q⟩
def qZ(X:Cx)(r:V->Option Int->Option Int->Hp->VK->Prop):Prop:=
 ∀(aa:List (V0×Obj))(s:M1)(σ:St)(H:Hp)(x:V)(v i j:V1)(lo hi:Option Int)(n:V0)(Q:VK),Inv X aa σ H s->RelV x v->s.heap.IsSliceOf n i j .none->Tw i lo->Tw j hi->r x lo hi H Q->
  ∃T id,So (.type T) "__getitem__"=pure (some (.builtin id))/\s.TypeIs v T/\Qm s!"c" X.A (SI v (.ref n)) (EP X aa σ Q) X.xe s
def yY(r:V->Option Int->Option Int->Hp->VK->Prop)(te:TE)(tl th:TO):TE:=λ σ H Q=>te σ H λ x H1=>tl σ H1 λ l H2=>th σ H2 λ u i=>r x l u i Q
theorem g8{r:V->Option Int->Option Int->Hp->VK->Prop}(hr:qZ X r)(B:PE X e te)(hl:PO X lo tl)(D:PO X hi th):PE X (.Subscript e (.Slice lo hi none p2) pos) (yY r te tl th):=by
 intro aa s σ H Q I h;refine Subscript_ (aM (B aa s σ H _ I h) λ v G j=>?_);obtain⟨x,H1,J,L,M⟩:=j;refine wpAny_Slice (aM (hl aa G σ H1 _ J M) λ n N ⟨l,H2,O,R,S⟩=>aM (D aa N σ H2 _ O S) λ y i j=>?_);obtain⟨u,z,U,Y,Z⟩:=j;rw[evalPart_none];refine Qh ?_;have I4:Inv X aa σ z {i with heap:=i.heap.push {cls:=.type "slice",data:=.fields #[n,y,.none]}}:=U.kept (t':=i.toks) λ b ob q=>Qg _ q;obtain⟨T,id,hT,ht,hg⟩:=hr aa {i with heap:=i.heap.push {cls:=.type "slice",data:=.fields #[n,y,.none]}} σ z x v n y l u i.heap.objs.size Q I4 L (Heap.IsSliceOf.new ..) R Y Z;show Qm s!"c" X.A (subscriptTail e (.Slice lo hi none p2) v (.ref i.heap.objs.size)) (EP X aa σ Q) X.xe {i with heap:=i.heap.push {cls:=.type "slice",data:=.fields #[n,y,.none]}};exact tail_any (ops:=[.ref i.heap.objs.size,v]) ht hT hg s!"k"
def bP(xs:List V)(lo hi:Option Int):List V:=(xs.drop (HT.bf xs.length 0 lo)).take (HT.bf xs.length xs.length hi-HT.bf xs.length 0 lo)
theorem A7(xs:List V)(lo hi:Option Int):(bP xs lo hi).length<=xs.length:=by
 unfold bP;rw[cJ,gA];lia
def o_(K:X0):V->Option Int->Option Int->Hp->VK->Prop:=λ x lo hi H Q=>∃a xs,x=.ref a/\ao K H a xs/\
 ¬(HT.bf xs.length 0 lo=0/\HT.bf xs.length xs.length hi=xs.length)/\∀p,H p=none->Q (.ref p) (ag H p (.tup (bP xs lo hi)))
theorem Ho:qZ X (o_ X.K):=by
 intro aa s σ H x v M N lo hi O Q I z B D G h;obtain⟨a,xs,rfl,J,L,q⟩:=h;cases z;obtain⟨j,r,n,y⟩:=I.tuple J;have i:j.toArray.size=xs.length:=by rw[bF];exact r.length.symm
 refine⟨"tuple",_,PyProof.Rows.slot_tuple_getitem.lookup,n.typeIs,?_⟩;refine HT.dJ n B D G (by rw[i];exact L) ?_ (by rw[i];exact y);rw[i];refine⟨.ref s.heap.objs.size,_,I.laid (t':=s.toks) (o:=.tup (bP xs lo hi)) (λ b R q=>Qg _ q) (aS _) ?_,rfl,q _ (I.hok.fresh (aS _))⟩;exact⟨⟨cb (A7 xs lo hi) y,sr⟩,_,(r.drop (HT.bf xs.length 0 lo)).take (HT.bf xs.length xs.length hi-HT.bf xs.length 0 lo),IsTup.new _ _⟩
def Co(K:X0):R2:=λ x y H Q=>∃a b xs ys,x=.ref a/\y=.ref b/\ao K H a xs/\ao K H b ys/\xs≠[]/\xs.length+ys.length<=Qj/\
 (ys=[]->Q (.ref a) H)/\(ys≠[]->∀p,H p=none->Q (.ref p) (ag H p (.tup (xs++ys))))
theorem ax.nil_iff{xs:List V}{us:List V1}(r:ax xs us):us=[]↔xs=[]:=by
 cases r with
 |nil=>simp
 |cons _ _=>simp
theorem IM:dP X (Rt .Add) (Co X.K):=by
 intro aa s σ H x y v u Q I D G h;obtain⟨a,b,xs,ys,rfl,rfl,J,L,M,n,N,O⟩:=h;cases D;cases G;obtain⟨R,j,S,ω⟩:=I.tuple J;obtain⟨B,i,p2,ω⟩:=I.tuple L;refine HT.kf S p2 (λ z=>M (j.nil_iff.mp z)) (λ z=>⟨.ref a,H,I,rfl,N (i.nil_iff.mp z)⟩) (λ z=>?_) (by rw[<-j.length,<-i.length];exact n);refine⟨.ref s.heap.objs.size,_,I.laid (t':=s.toks) (o:=.tup (xs++ys)) (λ b U q=>Qg _ q) (aS _) ?_,rfl,O (λ w=>z (i.nil_iff.mpr w)) _ (I.hok.fresh (aS _))⟩;exact⟨⟨by rw[bB];exact n,sr⟩,_,j.append i,IsTup.new _ _⟩
end
end L2
namespace L2
open PySem PySem.Spec PyProof.Rows
def gi(n:Nat)(i:Int):Option Nat:=if 0<=i then(if i<n then some i.toNat else none)else if -(n:Int)<=i then some (i+n).toNat else none
def c7{α:Type}(xs:List α)(i:Int):Option α:=(gi xs.length i).bind λ j=>xs[j]?
theorem DV{n:Nat}{i:Int}{j:Nat}(h:gi n i=some j):seqIndex? i n=some j/\j<n/\-(n:Int)<=i/\i<n:=by
 unfold gi at h;by_cases q:0<=i
 ·rw[T6 q]at h;by_cases h1:i<n
  ·rw[T6 h1]at h;have e:i.toNat=j:=dG h;exact⟨by rw[seqIndex_of q h1,e],qR,qR,h1⟩
  ·rw[T5 h1]at h;cases h
 ·rw[T5 q]at h;by_cases h1:-(n:Int)<=i
  ·rw[T6 h1]at h;have e:(i+n).toNat=j:=dG h;exact⟨by rw[seqIndex_neg qR h1,e],qR,h1,qR⟩
  ·rw[T5 h1]at h;cases h
theorem wI{n:Type}{xs:List n}{i:Int}{v:n}(h:c7 xs i=some v):∃j,seqIndex? i xs.length=some j/\xs[j]?=some v/\j<xs.length/\-(xs.length:Int)<=i/\i<xs.length:=by
 unfold c7 at h;cases e:gi xs.length i with
 |none=>rw[e]at h;cases h
 |some j=>
  rw[e]at h;obtain⟨h1,h2,q,y⟩:=DV e;exact⟨j,h1,h,h2,q,y⟩
theorem eI{i:Type}{xs:List i}{j:Nat}{v:i}(h:xs[j]?=some v):c7 xs (j:Int)=some v:=by
 have n:j<xs.length:=(bG.mp h).1;have e:gi xs.length (j:Int)=some j:=by
  unfold gi;rw[T6 qR,T6 qR];simp
 unfold c7;rw[e];exact h
theorem w6{i:Type}(xs:List i)(v:i):c7 (xs++[v]) (-1)=some v:=by
 have hl:(xs++[v]).length=xs.length+1:=by simp
 have e:gi (xs++[v]).length (-1)=some xs.length:=by
  unfold gi;rw[hl,T5 qQ,T6 qR];congr 1;lia
 unfold c7;rw[e];show(xs++[v])[xs.length]?=some v;simp
def wN(b:Expr):Prop:=∀o i,subscripted b false o i=operate [o,i] (SI o i)
def kO(X:Cx)(r:R2):Prop:=
 ∀(value i:Expr)(aa:List (V0×Obj))(s:M1)(σ:St)(H:Hp)(x y:V)(v u:V1)(Q:VK),Inv X aa σ H s->RelV x v->RelV y u->r x y H Q->
  subscripted i false v u=operate [v,u] (SI v u)->Qm s!"c" X.A (subscriptTail value i v u) (EP X aa σ Q) X.xe s
def yp(X:Cx)(id:String)(r:V->List V->Hp->VK->Prop):Prop:=
 ∀(aa:List (V0×Obj))(s:M1)(σ:St)(H:Hp)(x:V)(xs:List V)(v:V1)(us:List V1)(Q:VK),Inv X aa σ H s->RelV x v->ax xs us->r x xs H Q->
  Qm s!"c" X.A (call (.builtin id) (v::us)) (EP X aa σ Q) X.xe s
section
variable{X:Cx}{a b:Expr}{ta tb:TE}{pos:Pos}
theorem kY{r:R2}(hr:kO X r)(i:PE X a ta)(j:PE X b tb)(hs:wN b):PE X (.Subscript a b pos) (jf r ta tb):=by
 intro aa s σ H Q I h;exact Subscript_ (mm i j I h λ v u n x y H2 z B D q=>hr a b aa n σ H2 x y v u Q z B D q (hs _ _))
def pk(K:X0):R2:=λ x y H Q=>∃p xs i v,x=.ref p/\y=.int i/\ai K H p xs/\c7 xs i=some v/\Q v H
def ph(K:X0):R2:=λ x y H Q=>∃p xs i v,x=.ref p/\y=.int i/\ao K H p xs/\c7 xs i=some v/\Q v H
def pj:R2:=λ x y H Q=>∃z i c,x=.str z/\y=.int i/\z.length<=Qj/\c7 z.cps.toList i=some c/\Q (.str ⟨#[c]⟩) H
theorem Ii:kO X (pk X.K):=by
 intro value n aa s σ H x y v u Q I O R h L;obtain⟨p,xs,i,z,rfl,rfl,S,U,q⟩:=h;cases O;obtain⟨t,rfl⟩:=R;obtain⟨B,r,D,hz⟩:=I.list S;obtain⟨j,h1,h2,h3,Y,Z⟩:=wI U;obtain⟨w,M,G⟩:=r.get h2;have hl:=r.length;have hn:=mE;have fin:EP X aa σ Q w s:=⟨z,H,I,G,q⟩;by_cases N:0<=i
 ·have J:i.toNat=j:=by
   rw[seqIndex_of N Z]at h1;exact dG h1
  exact item_listR D.isList N qR (by rw[J];simpa using M) fin L
 ·have J:(i+(B.toArray.size:Int)).toNat=j:=by
   rw[seqIndex_neg qR Y]at h1;rw[bF,<-hl];exact dG h1
  exact subscriptTail_builtinR (x:=w) D.isList.typeIs slot_list_getitem.lookup
   (wpAny_getItem_list_neg (Q:=λ r s'=>r=w/\EP X aa σ Q r s') D.isList qR (by rw[bF]<;>lia) qR (by rw[J];simpa using M) ⟨rfl,fin⟩) L
theorem Ht:kO X (ph X.K):=by
 intro value n aa s σ H x y v u Q I G J h L;obtain ⟨p,xs,i,z,rfl,rfl,M,N,q⟩:=h;cases G;obtain ⟨t,rfl⟩:=J;obtain ⟨O,r,D,S⟩:=I.tuple M;obtain ⟨j,h1,h2,U,Y,Z⟩:=wI N;obtain ⟨w,R,B⟩:=r.get h2;have hl:=r.length;have hn:=mE;have fin:EP X aa σ Q w s:=⟨z,H,I,B,q⟩;exact subscriptTail_builtinR (x:=w) D.typeIs slot_tuple_getitem.lookup
  (getItem_tuple (j:=j) (Q:=λ r s'=>r=w/\EP X aa σ Q r s') D qR qR (by rw[bF,<-hl];exact h1) (by simpa using R) ⟨rfl,fin⟩) L
theorem ql:kO X pj:=by
 intro value n aa s σ H x y v u Q I B D h G;obtain⟨z,i,c,rfl,rfl,R,J,q⟩:=h;obtain⟨t,rfl⟩:=B;obtain⟨S,rfl⟩:=D;obtain⟨j,h1,h2,U,L,M⟩:=wI J;have hl:z.cps.toList.length=z.length:=by simp[Str.length]
 rw[hl]at h1 L M;have Y:=mE;exact tail_any (typeIs_str s z t) slot_str_getitem.lookup (getItem_str (c:=c) (by
  have N:decide (i< -(2^63:Int))=false:=T8 qR;have O:decide (i>=2^63)=false:=T8 qR;rw[N,O,Bool.or_false]) (by rw[h1];simpa using h2) ⟨.str ⟨#[c]⟩,H,I.tok _,⟨_,rfl⟩,q⟩) G
theorem L4(its:List V1)(n j:Nat)(u:V1):QB (·.setIfInBounds j u) {cls:=.type "list",data:=.seq its.toArray n}={cls:=.type "list",data:=.seq (its.set j u).toArray n}:=by
 simp[QB]
theorem Inv.lst{aa:List (V0×Obj)}{σ:St}{H:Hp}{s:M1}{p:V0}{xs:List V}(I:Inv X aa σ H s)(h:H p=some (.lst xs)):∃(its:List V1)(n:Nat),ax xs its/\s.heap.get? p=some {cls:=.type "list",data:=.seq its.toArray n}/\xs.length<=Qj:=by
 obtain⟨z,its,n,r,e⟩:=I.hok p _ h;exact⟨its,n,r,e,z⟩
theorem Inv.lstUpd{aa:List (V0×Obj)}{σ:St}{H:Hp}{s:M1}{p:V0}{xs ys:List V}{its its':List V1}{n i:Nat}{f:Obj->Obj}(I:Inv X aa σ H s)(h:H p=some (.lst xs))(y:s.heap.get? p=some {cls:=.type "list",data:=.seq its.toArray n})(j:f {cls:=.type "list",data:=.seq its.toArray n}={cls:=.type "list",data:=.seq its'.toArray i})(r:ax ys its')(hz:ys.length<=Qj)(t:Nat):Inv X aa σ (ag H p (.lst ys)) {s with heap:=s.heap.update p f,toks:=t}:=by
 have e:(s.heap.update p f).get? p=some {cls:=.type "list",data:=.seq its'.toArray i}:=by
  rw[Qy f y (by rw[j]<;>rfl),j]
 refine I.write (x:=p) (e:=p) (by rw[h];trivial) (.inl rfl) (λ b u z q=>(Qr _ _ (Ne.symm z)).trans q) ⟨_,e⟩ ?_;exact⟨hz,its',i,r,e⟩
def Ce:V->V->V->Hp->(Hp->Prop)->Prop:=λ o i v H Q=>∃p xs k j,o=.ref p/\i=.int k/\H p=some (.lst xs)/\gi xs.length k=some j/\Q (ag H p (.lst (xs.set j v)))
theorem Ks:m8 X Ce:=by
 intro aa s σ H o i v Y Z u Q I N O R h;obtain⟨p,xs,k,j,rfl,rfl,D,S,q⟩:=h;cases N;obtain⟨t,rfl⟩:=O;obtain⟨y,n,r,z,U⟩:=I.lst D;obtain⟨h1,h2,G,J⟩:=DV S;have hl:=r.length;have hn:=mE;have L:Inv X aa σ (ag H p (.lst (xs.set j v))) {s with heap:=s.heap.update p (QB (·.setIfInBounds j u))}:=
  I.lstUpd D z (L4 y n j u) (r.set R j) (by rw[iW];exact U) s.toks
 by_cases M:0<=k
 ·have B:k.toNat=j:=by
   rw[seqIndex_of M J]at h1;exact dG h1
  exact W.ki_setAt z M qR (by rw[bF,<-hl];exact J) (by rw[B];exact⟨_,L,q⟩)
 ·have B:(k+(y.toArray.size:Int)).toNat=j:=by
   rw[seqIndex_neg qR G]at h1;rw[bF,<-hl];exact dG h1
  exact W.ki_setBack z qR (by rw[bF,<-hl];exact G) qR (by rw[B];exact⟨_,L,q⟩)
theorem Fj(lo hi:Option Int)(n:Nat):(R8 lo hi none n).1=((HT.bf n 0 lo:Nat):Int)/\(R8 lo hi none n).2.1=((HT.bf n n hi:Nat):Int)/\(R8 lo hi none n).2.2=1:=by
 refine⟨?_,?_,rfl⟩
 ·cases lo with
  |none=>simp[R8,HT.bf]
  |some i=>
   simp only[R8,HT.bf,Option.getD_none,show(1:Int)>0 by decide,if_true];by_cases h:i<0
   ·simp only[h,if_true]<;>lia
   ·simp only[h,if_false]<;>lia
 ·cases hi with
  |none=>simp[R8,HT.bf]
  |some i=>
   simp only[R8,HT.bf,Option.getD_none,show(1:Int)>0 by decide,if_true];by_cases h:i<0
   ·simp only[h,if_true]<;>lia
   ·simp only[h,if_false]<;>lia
theorem Fz(its:List V1)(lo hi:Option Int):slicePick its.toArray lo hi none=((its.drop (HT.bf its.length 0 lo)).take (HT.bf its.length its.length hi-HT.bf its.length 0 lo)).toArray:=by
 obtain⟨h1,h2,i⟩:=Fj lo hi its.toArray.size;unfold slicePick;rw[h1,h2,i];simp only[sliceRange_one,pick_run,bF]<;>rfl
def fq(K:X0):V->Option Int->Option Int->Hp->VK->Prop:=λ x lo hi H Q=>∃a xs,x=.ref a/\ai K H a xs/\∀p,H p=none->Q (.ref p) (ag H p (.lst (bP xs lo hi)))
theorem lr:qZ X (fq X.K):=by
 intro aa s σ H x v L M lo hi N Q I n y z B h;obtain⟨a,xs,rfl,D,q⟩:=h;cases n;obtain⟨G,r,j,J⟩:=I.list D;have i:=r.length;refine⟨"list",_,slot_list_getitem.lookup,j.isList.typeIs,?_⟩;refine wpAny_getItem_list_slice j.isList y z B .none s!"n" ?_ (by rw[bF]<;>lia);rw[Fz,<-i];refine⟨.ref s.heap.objs.size,_,I.laid (t':=s.toks) (o:=.lst (bP xs lo hi)) (λ b O q=>Qg _ q) (aS _) ?_,rfl,q _ (I.hok.fresh (aS _))⟩;exact⟨cb (A7 xs lo hi) J,_,0,(r.drop (HT.bf xs.length 0 lo)).take (HT.bf xs.length xs.length hi-HT.bf xs.length 0 lo),Qo _ rfl⟩
def i4:V->Bool
 | .non=>true
 | .bl _=>true
 | .int _=>true
 | .str _=>true
 |_=>false
def gS:V->V->Bool
 | .non,.non=>true
 | .bl a,.bl b=>a==b
 | .bl a,.int b=>(if a then 1 else 0)==b
 | .int a,.bl b=>a==(if b then 1 else 0)
 | .int a,.int b=>a==b
 | .str a,.str b=>a==b
 |_,_=>false
theorem GV{A:V3}{s:M1}{y x:V}{u v:V1}(n:RelV y u)(i:RelV x v)(z:i4 y=true)(q:i4 x=true):SeqAt.EqAt A s u v (gS y x):=by
 cases y with
 |non=>
  cases n;cases x with
  |non=>cases i;exact SeqAt.EqAt.same _
  |bl b=>cases i;exact SeqAt.EqAt.none_bool b
  |int b=>obtain⟨t,rfl⟩:=i;exact SeqAt.EqAt.none_int b t
  |str b=>obtain⟨t,rfl⟩:=i;exact SeqAt.EqAt.none_str b t
  |_=>exact T7 (show false=true from q) dI
 |bl a=>
  cases n;cases x with
  |non=>cases i;exact SeqAt.EqAt.bool_none a
  |bl b=>cases i;exact SeqAt.EqAt.bool_bool a b
  |int b=>obtain⟨t,rfl⟩:=i;exact SeqAt.EqAt.bool_int a b t
  |str b=>obtain⟨t,rfl⟩:=i;exact SeqAt.EqAt.bool_str a b t
  |_=>exact T7 (show false=true from q) dI
 |int a=>
  obtain⟨j,rfl⟩:=n;cases x with
  |non=>cases i;exact SeqAt.EqAt.int_none a j
  |bl b=>cases i;exact SeqAt.EqAt.int_bool a j b
  |int b=>obtain⟨t,rfl⟩:=i;exact SeqAt.EqAt.int_int a j b t
  |str b=>obtain⟨t,rfl⟩:=i;exact SeqAt.EqAt.int_str a j b t
  |_=>exact T7 (show false=true from q) dI
 |str a=>
  obtain⟨j,rfl⟩:=n;cases x with
  |non=>cases i;exact SeqAt.EqAt.str_none a j
  |bl b=>cases i;exact SeqAt.EqAt.str_bool a j b
  |int b=>obtain⟨t,rfl⟩:=i;exact SeqAt.EqAt.str_int a j b t
  |str b=>obtain⟨t,rfl⟩:=i;exact SeqAt.EqAt.str_str a j b t
  |_=>exact T7 (show false=true from q) dI
 |_=>exact T7 (show false=true from z) dI
def gn(x:V)(u:V1):Bool:=match u with
 | .none=>gS .non x
 | .bool b=>gS (.bl b) x
 | .int i _=>gS (.int i) x
 | .str z _=>gS (.str z) x
 |_=>false
theorem yQ{x y:V}{u:V1}(r:RelV y u)(f:i4 y=true):gn x u=gS y x:=by
 cases y with
 |non=>cases r;rfl
 |bl b=>cases r;rfl
 |int i=>obtain⟨t,rfl⟩:=r;rfl
 |str z=>obtain⟨t,rfl⟩:=r;rfl
 |_=>exact T7 (show false=true from f) dI
theorem qw{x:V}:∀{xs:List V}{us:List V1},ax xs us->xs.all i4=true->us.any (gn x)=xs.any λ y=>gS y x
 |_,_,.nil,_=>rfl
 |y::xs,u::us,.cons r t,f=>by
  rw[List.all_cons,jZ]at f;rw[pI,pI,yQ r f.1,qw t f.2]
theorem oe{A:V3}{s:M1}{x:V}{v:V1}(j:RelV x v)(n:i4 x=true):∀{xs:List V}{us:List V1},ax xs us->xs.all i4=true->∀u∈us,SeqAt.EqAt A s u v (gn x u)
 |_,_,.nil,_=>λ u i=>by cases i
 |y::xs,u::us,.cons r t,f=>λ q i=>by
  rw[List.all_cons,jZ]at f;rcases bH.mp i with rfl|i
  ·rw[yQ r f.1];exact GV r j f.1 n
  ·exact oe j n t f.2 q i
def ij(x:V)(xs:List V):Bool:=xs.any λ y=>gS y x
def fH(K:X0)(neg:Bool):R2:=λ x y H Q=>∃p xs,y=.ref p/\(ai K H p xs\/ao K H p xs)/\i4 x=true/\xs.all i4=true/\Q (.bl (if neg then !ij x xs else ij x xs)) H
theorem g9:dP X (Rb .In) (fH X.K false):=by
 intro aa s σ H x y v u Q I B G h;obtain⟨p,xs,rfl,j,D,fs,q⟩:=h;cases G;rcases j with j|j
 ·obtain⟨i,r,n,J⟩:=I.list j;refine SeqAt.in_listAt (gn x) n.isList (λ w z=>oe B D r fs w (by simpa using z)) ⟨.bl _,H,I,rfl,?_⟩;rw[show i.toArray.any (gn x)=i.any (gn x)by simp,qw r fs];exact q
 ·obtain⟨i,r,n,J⟩:=I.tuple j;refine SeqAt.in_tupleAt (gn x) n (λ w z=>oe B D r fs w (by simpa using z)) ⟨.bl _,H,I,rfl,?_⟩;rw[show i.toArray.any (gn x)=i.any (gn x)by simp,qw r fs];exact q
theorem Bz:dP X (Rb .NotIn) (fH X.K true):=by
 intro aa s σ H x y v u Q I B G h;obtain⟨p,xs,rfl,j,D,fs,q⟩:=h;cases G;rcases j with j|j
 ·obtain⟨i,r,n,J⟩:=I.list j;refine SeqAt.notIn_listAt (gn x) n.isList (λ w z=>oe B D r fs w (by simpa using z)) ⟨.bl _,H,I,rfl,?_⟩;rw[show i.toArray.any (gn x)=i.any (gn x)by simp,qw r fs];exact q
 ·obtain⟨i,r,n,J⟩:=I.tuple j;refine SeqAt.notIn_tupleAt (gn x) n (λ w z=>oe B D r fs w (by simpa using z)) ⟨.bl _,H,I,rfl,?_⟩;rw[show i.toArray.any (gn x)=i.any (gn x)by simp,qw r fs];exact q
theorem BA:il X (.builtin "len") (λ xs H Q=>∃p ys,xs=[.ref p]/\(ai X.K H p ys\/ao X.K H p ys)/\Q (.int ys.length) H):=by
 intro aa s σ H xs us Q I r h;obtain⟨p,ys,rfl,j,q⟩:=h;obtain⟨u,rfl,B⟩:=kX r;cases B;have G:=mE;rcases j with j|j
 ·obtain⟨n,y,z,D⟩:=I.list j;have i:=y.length;exact Calls.call_len_list z.isList (by simp only[bF]<;>lia) ⟨.int ys.length,H,I.tok _,⟨s.toks+1,by rw[bF,i]⟩,q⟩
 ·obtain⟨n,y,z,D⟩:=I.tuple j;have i:=y.length;exact len_tuple z (by simp only[bF]<;>lia) ⟨.int ys.length,H,I.tok _,⟨s.toks+1,by rw[bF,i]⟩,q⟩
theorem qX:il X (.type "list") (λ xs H Q=>∃p ys,xs=[.ref p]/\(ai X.K H p ys\/ao X.K H p ys)/\∀l,H l=none->Q (.ref l) (ag H l (.lst ys))):=by
 intro aa s σ H xs us Q I r h;obtain⟨p,ys,rfl,z,q⟩:=h;obtain⟨u,rfl,M⟩:=kX r;cases M;have fin:∀(i:List V1),ax ys i->ys.length<=Qj->∀(h':Z3)(j:Nat),(∀b o',s.heap.get? b=some o'->h'.get? b=some o')->
   h'.get? s.heap.objs.size=some {cls:=.type "list",dict:=none,data:=.seq i.toArray j,slots:=#[]}->EP X aa σ Q (.ref s.heap.objs.size) {s with heap:=h'}:=λ i y B h' j kp e=>
  ⟨.ref s.heap.objs.size,_,I.laid (t':=s.toks) kp (aS _) (show aQ X.prog X.w _ h' _ (.lst ys)from⟨B,i,j,y,e⟩),rfl,q _ (I.hok.fresh (aS _))⟩
 rcases z with z|z
 ·obtain⟨i,y,G,B⟩:=I.list z;have D:=y.length;obtain⟨o,J,L,n,hd⟩:=G.isList;exact call_list_seq p (.inl rfl) J L hd (λ h' j kp e=>fin i y B h' j kp e) (by simp only[bF]<;>lia)
 ·obtain⟨i,y,G,B⟩:=I.tuple z;have D:=y.length;obtain⟨o,J,L,n,hd⟩:=G;exact call_list_seq p (.inr rfl) J L hd (λ h' j kp e=>fin i y B h' j kp e) (by simp only[bF]<;>lia)
theorem gG:il X (.type "tuple") (λ xs H Q=>∃p ys,xs=[.ref p]/\((ai X.K H p ys/\∀l,H l=none->Q (.ref l) (ag H l (.tup ys)))\/(ao X.K H p ys/\Q (.ref p) H))):=by
 intro aa s σ H xs us Q I r h;obtain⟨p,ys,rfl,h⟩:=h;obtain⟨u,rfl,G⟩:=kX r;cases G;rcases h with⟨j,q⟩|⟨j,q⟩
 ·obtain⟨i,n,y,z⟩:=I.list j;have B:=n.length;refine call_tuple_list y.isList (λ h' kp=>?_) (by simp only[bF]<;>lia);have D:Inv X aa σ H {s with heap:=h'}:=I.kept (t':=s.toks) kp;have J:Inv X aa σ (ag H h'.objs.size (.tup ys)) {s with heap:=h'.push {cls:=.type "tuple",data:=.seq i.toArray}}:=
   D.laid (t':=s.toks) (λ b o e=>Qg _ e) (aS _) (show aQ X.prog X.w _ _ _ (.tup ys)from⟨⟨z,sr⟩,i,n,IsTup.new _ _⟩)
  exact⟨.ref h'.objs.size,_,J,rfl,q _ (D.hok.fresh (aS _))⟩
 ·obtain⟨i,n,y,z⟩:=I.tuple j;exact call_tuple_same y ⟨.ref p,H,I,rfl,q⟩
def nv(K:X0)(T:String)(x:V)(H:Hp):Prop:=match x with
 | .str _=>T="str"
 | .int _=>T="int"
 | .ref p=>(T="list"/\∃xs,ai K H p xs)\/(T="tuple"/\∃o,K.lookup p=some o/\o.cls=.type "tuple"/\o.dict=none)\/
   (T="dict"/\((∃i,H p=some (.dK i))\/∃i,H p=some (.dT i)))\/(T="set"/\∃S n,H p=some (.set S n))
 |_=>False
theorem CQ{aa:List (V0×Obj)}{σ:St}{H:Hp}{s:M1}{T:String}{x:V}{v:V1}(I:Inv X aa σ H s)(r:RelV x v)(ty:nv X.K T x H):s.TypeIs v T/\∀a,v=.ref a->∃B,s.heap.get? a=some B/\B.dict=none:=by
 cases x with
 |str z=>
  obtain⟨t,rfl⟩:=r;cases(show T="str" from ty);exact⟨typeIs_str s z t,λ ω e=>nomatch e⟩
 |int i=>
  obtain⟨t,rfl⟩:=r;cases(show T="int" from ty);exact⟨typeIs_int s i t,λ ω e=>nomatch e⟩
 |ref p=>
  cases r;rcases ty with⟨rfl,xs,G⟩|⟨rfl,o,j,J,hd⟩|⟨rfl,j⟩|⟨rfl,S,n,j⟩
  ·obtain⟨L,ω,D,ω⟩:=I.list G;refine⟨D.isList.typeIs,λ a e=>?_⟩;cases e;obtain⟨o,n,e,c,hd,ω⟩:=D;exact⟨o,e,hd⟩
  ·refine⟨⟨o,I.kIn p o j,J⟩,λ a e=>?_⟩;cases e;exact⟨o,I.kIn _ o j,hd⟩
  ·have z:∃o,s.heap.get? p=some o/\o.ExactDict:=by
    rcases j with⟨q,j⟩|⟨q,j⟩
    ·obtain⟨ω,ω,ω,ω,o,ω,ω,e,ex,ω⟩:=I.hok p _ j;exact⟨o,e,ex⟩
    ·obtain⟨ω,ω,ω,ω,o,ω,ω,e,ex,ω⟩:=I.hok p _ j;exact⟨o,e,ex⟩
   obtain⟨o,e,ex⟩:=z;refine⟨⟨o,e,ex.1⟩,λ a y=>?_⟩;cases y;exact⟨o,e,ex.2.1⟩
  ·obtain⟨o,ω,ω,ω,e,ex,ω⟩:=I.hok p _ j;refine⟨⟨o,e,ex.1⟩,λ a y=>?_⟩;cases y;exact⟨o,e,ex.2.1⟩
 |_=>exact False.elim ty
def lO(K:X0)(T:String)(r:V->List V->Hp->VK->Prop)(to:TE):TE:=λ σ H Q=>to σ H λ x H1=>nv K T x H1/\r x [] H1 Q
def y6(K:X0)(T:String)(r:V->List V->Hp->VK->Prop)(to:TE)(t:TA):TE:=λ σ H Q=>to σ H λ x H1=>nv K T x H1/\t σ H1 λ xs H2=>r x xs H2 Q
variable{o e:Expr}{es:List Expr}{to:TE}{t:TA}{name:V2}{apos cpos:Pos}{T id:String}{r:V->List V->Hp->VK->Prop}
theorem yO(D:PlainAttrs T)(n:Slot T name id)(q:typeOf (.builtin id)=pure (.type "method_descriptor"))(G:yp X id r)(J:PE X o to)(i:RM o name X.env (QA o X.env)=QA o X.env:=by rfl)(j:(apos.endLine==cpos.line)=true:=by rfl):PE X (.Call (.Attribute o name apos) [] [] cpos) (lO X.K T r to):=by
 intro aa s σ H Q I h;refine wpAny_Call_method0_late i j (aM (J aa s σ H _ I h) λ v L y=>?_);obtain⟨x,H1,z,B,ty,M⟩:=y;obtain⟨h1,h2⟩:=CQ z B ty;exact⟨T,id,D,n,q,h1,h2,RE rfl (PySem.evalArgs_none (G aa L σ H1 x [] v [] Q z B .nil M))⟩
theorem eE(L:PlainAttrs T)(q:Slot T name id)(z:typeOf (.builtin id)=pure (.type "method_descriptor"))(M:yp X id r)(N:PE X o to)(O:PA X (e::es) t)(j:RM o name X.env (QA o X.env)=QA o X.env:=by rfl)(y:((QF cpos (Ql (e::es) X.env)).all (λ x=>!x.1)&&(RL cpos (QU [] X.env)).all (λ x=>x.1.isSome)&&decide ((e::es).length+([]:List Keyword).length+(if([]:List Keyword).isEmpty then 0 else 1)<30))=true:=by rfl)(n:(apos.endLine==cpos.line)=true:=by rfl)(hs:Ql (e::es) X.env=(false,QA e X.env)::Ql es X.env:=by rfl)(i:(QF cpos (Ql es X.env)).any (·.1)=false:=by rfl):PE X (.Call (.Attribute o name apos) (e::es) [] cpos) (y6 X.K T r to t):=by
 intro aa s σ H Q I h;refine wpAny_Call_method_late j y n rfl (aM (N aa s σ H _ I h) λ v R B=>?_);obtain⟨x,H1,D,G,ty,S⟩:=B;obtain⟨h1,h2⟩:=CQ D G ty;refine⟨T,id,L,q,z,h1,h2,?_⟩;have J:=O cpos aa R σ H1 _ D S;rw[hs]at J ⊢;refine RE (by show(false||(QF cpos (Ql es X.env)).any (·.1))=false;rw[i]<;>rfl) (Sw ?_);exact aM J λ us U ⟨vs,H2,Y,Z,q2⟩=>M aa U σ H2 x vs v us Q Y G Z q2
end
end L2
namespace L2
open PySem PySem.Spec PyProof.Rows
def oz(X:Cx)(id:String)(r:V->List V->Hp->VK->Prop):Prop:=
 ∀(aa:List (V0×Obj))(s:M1)(σ:St)(H:Hp)(x:V)(xs:List V)(v:V1)(us:List V1)(Q:VK),Inv X aa σ H s->RelV x v->ax xs us->r x xs H Q->
  Qm s!"c" X.A (call (.builtin id) (v::us)) (EP X aa σ Q) X.xe s
theorem ax.one:∀{x:V}{us:List V1},ax [x] us->∃u,us=[u]/\RelV x u:=λ h=>by
 cases h with
 |cons r h=>cases h;exact⟨_,rfl,r⟩
theorem ax.two:∀{x y:V}{us:List V1},ax [x,y] us->∃u v,us=[u,v]/\RelV x u/\RelV y v:=λ h=>by
 cases h with
 |cons r h=>
  cases h with
  |cons q h=>cases h;exact⟨_,_,rfl,r,q⟩
theorem ax.zero:∀{us:List V1},ax [] us->us=[]
 |_,.nil=>rfl
variable{xs:List V}
theorem ax.dropLast{us:List V1}(h:ax xs us):ax xs.dropLast us.dropLast:=by
 induction h with
 |nil=>exact .nil
 |cons r t i=>
  cases t with
  |nil=>exact .nil
  |cons q j=>exact .cons r i
theorem ax.reverse{us:List V1}(h:ax xs us):ax xs.reverse us.reverse:=by
 induction h with
 |nil=>exact .nil
 |cons r t i=>rw[j7,j7];exact ax.append i (.cons r .nil)
theorem ax.rep{us:List V1}(h:ax xs us):∀k:Nat,ax (c9 k xs).flatten (c9 k us).flatten
 |0=>.nil
 |k+1=>by
  rw[lW,lW,jY,jY];exact ax.append h (ax.rep h k)
theorem Me{i:Type}(l:List i):l.eraseIdx (l.length-1)=l.dropLast:=by
 induction l with
 |nil=>rfl
 |cons a r j=>
  cases r with
  |nil=>rfl
  |cons b r=>
   have e:(a::b::r).length-1=((b::r).length-1)+1:=by
    have h1:(a::b::r).length=r.length+2:=rfl;have h2:(b::r).length=r.length+1:=rfl;lia
   rw[e,List.eraseIdx_cons_succ,j];all_goals rfl
theorem AK(its:List V1):∀(k:Nat)(i:List V1),List.foldl (λ j n=>j++n) i.toArray (c9 k its.toArray)=(i++(c9 k its).flatten).toArray
 |0,i=>by simp
 |k+1,i=>by
  have e:i.toArray++its.toArray=(i++its).toArray:=by simp
  have q:(i++its)++(c9 k its).flatten=i++(c9 (k+1) its).flatten:=by
   rw[lW,jY,iX]
  rw[<-q,<-AK its k (i++its),<-e,lW,List.foldl_cons]
section
variable{X:Cx}{aa:List (V0×Obj)}{σ:St}{H:Hp}{s:M1}{l b:V0}{xs ys zs:List V}
theorem Inv.lset{its its':List V1}{n:Nat}{f:Array V1->Array V1}{t':Nat}(I:Inv X aa σ H s)(i:H l=some (.lst xs))(e:s.heap.get? l=some {cls:=.type "list",data:=.seq its.toArray n})(j:f its.toArray=its'.toArray)(y:ax ys its')(hz:ys.length<=Qj):Inv X aa σ (ag H l (.lst ys)) {s with heap:=s.heap.update l (QB f),toks:=t'}:=by
 have q:=PySem.IsL.update e f;rw[j]at q;refine I.write (x:=l) (e:=l) (by rw[i];exact trivial) (.inl rfl) (λ D u z B=>(Qr s.heap (QB f) (Ne.symm z)).trans B) ⟨_,q⟩ ?_;exact⟨hz,its',_,y,q⟩
theorem Inv.lnew{its:List V1}{t':Nat}(I:Inv X aa σ H s)(i:ax ys its)(hz:ys.length<=Qj):Inv X aa σ (ag H s.heap.objs.size (.lst ys)) {s with heap:=s.heap.push {cls:=.type "list",data:=.seq its.toArray},toks:=t'}:=
 I.laid (λ ω ω q=>Qg _ q) (aS _) ⟨hz,its,0,i,Qo _ rfl⟩
theorem Inv.fresh(I:Inv X aa σ H s):H s.heap.objs.size=none:=I.hok.fresh (aS _)
theorem Inv.lstM(I:Inv X aa σ H s)(i:H l=some (.lst xs)):xs.length<=Qj/\∃(its:List V1)(n:Nat),ax xs its/\xs.length=its.length/\s.heap.get? l=some {cls:=.type "list",data:=.seq its.toArray n}:=by
 obtain⟨z,its,n,r,e⟩:=I.hok l _ i;exact⟨z,its,n,r,r.length,e⟩
theorem w_{n:Nat}(h:n<=Qj):QP n=false:=by
 unfold QP;exact T8 qR
end
section
variable{X:Cx}
def De:V->List V->Hp->VK->Prop:=λ x vs H Q=>∃l xs y,x=.ref l/\vs=[y]/\H l=some (.lst xs)/\xs.length<Qj/\Q .non (ag H l (.lst (xs++[y])))
theorem fK:oz X "list.append" De:=by
 intro aa s σ H x vs v us Q I B D h;obtain⟨l,xs,y,rfl,rfl,j,J,q⟩:=h;cases B;obtain⟨u,rfl,G⟩:=D.one;obtain⟨z,i,n,r,hl,e⟩:=I.lstM j;refine RF F.slot_list_append ⟨_,e,rfl⟩ F.entry_list_append (F.args_list_append_2 _ _) (PySem.list_append l i.toArray n u (by rw[bF];lia)) ⟨e,?_⟩;refine⟨.non,_,I.lset (its':=i++[u]) j e s!"n" (r.append (.cons G .nil)) ?_,rfl,q⟩;rw[bB,jD];lia
def Dk:V->List V->Hp->VK->Prop:=λ x vs H Q=>∃l b xs zs,x=.ref l/\vs=[.ref b]/\H l=some (.lst xs)/\H b=some (.lst zs)/\xs.length+zs.length<=Qj/\Q .non (ag H l (.lst (xs++zs)))
theorem Lf:oz X "list.extend" Dk:=by
 intro aa s σ H x vs v us Q I G J h;obtain⟨l,b,xs,zs,rfl,rfl,D,L,U,q⟩:=h;cases G;obtain⟨u,rfl,M⟩:=J.one;cases M;obtain⟨z,j,n,r,hl,e⟩:=I.lstM D;obtain⟨Y,i,N,O,R,S⟩:=I.lstM L;have B:j.toArray.size+i.toArray.size<=Qj:=by rw[bF,bF];lia
 have y:¬(!j.toArray.isEmpty&&QP (j.toArray.size+i.toArray.size))=true:=by
  rw[w_ B,Bool.and_false];exact dI
 refine RF F.slot_list_extend ⟨_,e,rfl⟩ F.entry_list_extend (F.args_list_extend_2 _ _)
  (AutoSeq1.list_extend_list_list_0 l j.toArray n b i.toArray N y (by rw[bF];lia) qR) ⟨e,S,?_⟩
 refine⟨.non,_,I.lset (its':=j++i) D e s!"n" (r.append O) ?_,rfl,q⟩;rw[bB];lia
def lQ:V->List V->Hp->VK->Prop:=λ x vs H Q=>∃l xs y,x=.ref l/\vs=[]/\H l=some (.lst xs)/\xs[xs.length-1]?=some y/\Q y (ag H l (.lst xs.dropLast))
theorem CV:oz X "list.pop" lQ:=by
 intro aa s σ H x vs v us Q I G J h;obtain⟨l,xs,y,rfl,rfl,D,L,q⟩:=h;cases G;have j:=J.zero;subst j;obtain⟨z,i,n,r,hl,e⟩:=I.lstM D;obtain⟨u,M,N⟩:=r.get L;have B:i.toArray[i.toArray.size-1]?=some u:=by
  show i.toArray[i.length-1]?=some u;rw[<-Array.getElem?_toList,<-hl];exact M
 refine RF F.slot_list_pop ⟨_,e,rfl⟩ F.entry_list_pop (F.args_list_pop_1 _) (MeetsSeq.list_pop_last l i.toArray n u B (by rw[bF];lia)) ⟨e,?_⟩;refine⟨y,_,I.lset (its':=i.dropLast) D e ?_ r.dropLast ?_,N,q⟩
 ·show i.toArray.eraseIdxIfInBounds (i.toArray.size-1)=i.dropLast.toArray;rw[bF,List.eraseIdxIfInBounds_toArray,Me]
 ·rw[List.length_dropLast];lia
def zB:V->List V->Hp->VK->Prop:=λ x vs H Q=>∃l xs,x=.ref l/\vs=[]/\H l=some (.lst xs)/\Q .non (ag H l (.lst xs.reverse))
theorem MJ:oz X "list.reverse" zB:=by
 intro aa s σ H x vs v us Q I B D h;obtain⟨l,xs,rfl,rfl,y,q⟩:=h;cases B;have j:=D.zero;subst j;obtain⟨z,i,n,r,hl,e⟩:=I.lstM y;refine RF F.slot_list_reverse ⟨_,e,rfl⟩ F.entry_list_reverse (F.args_list_reverse_1 _) (AutoSeq1.list_reverse_list_0 l i.toArray n (by rw[bF];lia)) ⟨e,?_⟩;refine⟨.non,_,I.lset (its':=i.reverse) y e s!"n" r.reverse ?_,rfl,q⟩;rw[kR];lia
def pq:R2:=λ x y H Q=>∃l b xs zs,x=.ref l/\y=.ref b/\H l=some (.lst xs)/\H b=some (.lst zs)/\xs.length+zs.length<=Qj/\∀p,H p=none->Q (.ref p) (ag H p (.lst (xs++zs)))
theorem gF:dP X (Rt .Add) pq:=by
 intro aa s σ H x y v u Q I B D h;obtain⟨l,b,xs,zs,rfl,rfl,G,J,R,q⟩:=h;cases B;cases D;obtain⟨z,j,n,r,hl,e⟩:=I.lstM G;obtain⟨S,i,U,L,M,N⟩:=I.lstM J;refine PySem.P.add_list e N ?_ (by rw[bF,bF];lia);have O:j.toArray++i.toArray=(j++i).toArray:=by simp
 rw[O];exact⟨.ref _,_,I.lnew (t':=s.toks) (r.append L) (by rw[bB];lia),rfl,q _ I.fresh⟩
def pe:R2:=λ x y H Q=>∃l k xs,x=.ref l/\y=.int k/\H l=some (.lst xs)/\-(2^63)<=k/\k<2^63/\xs.length*k.toNat<=Qj/\
 ∀p,H p=none->Q (.ref p) (ag H p (.lst (c9 k.toNat xs).flatten))
theorem Ja{i:Type}(xs:List i)(k:Nat):(c9 k xs).flatten.length=k*xs.length:=by
 induction k with
 |zero=>simp
 |succ k j=>rw[lW,jY,bB,j,Nat.succ_mul,Nat.add_comm]
theorem yH:dP X (Rt .Mult) pe:=by
 intro aa s σ H x y v u Q I O R h;obtain⟨l,k,xs,rfl,rfl,S,h1,h2,N,q⟩:=h;cases O;obtain⟨t,rfl⟩:=R;obtain⟨z,i,n,r,hl,e⟩:=I.lstM S;have B:i.toArray.size*k.toNat<=Qj:=by rw[bF,<-hl];exact N
 have D:¬i.toArray.size*k.toNat>(2^63-1)/8:=by
  have:(Qj:Nat)<=(2^63-1)/8:=by decide
  lia
 have G:¬(!Builtin.List.listFitsIndex k)=true:=by
  rw[fitsIndex_both h1 h2];exact dI
 have j:¬QP (i.toArray.size*k.toNat)=true:=by
  rw[w_ B];exact dI
 have J:List.foldl (λ L M=>L++M) #[] (c9 (if i.toArray.isEmpty=true then 0 else k.toNat) i.toArray)=(c9 k.toNat i).flatten.toArray:=by
  have Y:∀m:Nat,List.foldl (λ L M=>L++M) #[] (c9 m i.toArray)=(c9 m i).flatten.toArray:=λ m=>by
   have:=AK i m [];rw[List.nil_append]at this;exact this
  rw[Y];cases i with
  |nil=>simp
  |cons a Z=>rw[T5 s!"n"]
 refine wpAny_binaryOp_repeat_ref (T:="list") (U:="int") qQ ⟨_,e,rfl⟩ (λ s'=>typeIs_int s' k t) noFill_list_mul F.fills_int_mul F.slot_int_rmul repeat_list F.slot_int_index.lookup
  (RF F.slot_int_rmul (typeIs_int s k t) F.entry_int_rmul (F.args_int_rmul_2 _ _) (int___rmul___int_list k t l i.toArray n) ⟨e,rfl,⟨_,e,rfl⟩,RF F.slot_list_mul ⟨_,e,rfl⟩ F.entry_list_mul (F.args_list_mul_2 _ _) (AutoListH.list___mul___list_int_3 l i.toArray n k t G D j) ⟨e,?_⟩⟩)
 rw[J];exact⟨.ref _,_,I.lnew (t':=s.toks) (r.rep k.toNat) (by rw[Ja,Nat.mul_comm];exact N),rfl,q _ I.fresh⟩
end
section
variable{prog:Program}{w:Y3}{A:V3}{E:V1->M1->Prop}{s:M1}
set_option maxRecDepth 100000 in
end
end L2
namespace Att
open PySem PySem.W PySem.Calls PyProof.Rows
theorem FA{P:Params}{h:Z3}:∀(ns:List Int)(vs:List V1),WellAll P h vs (ns.map WData.int)->IntsAre vs ns:=by
 intro ns;induction ns with
 |nil=>
  intro vs w;rw[pH]at w;cases w;exact .nil
 |cons n ns i=>
  intro vs w;rw[eP]at w;cases w with
  |cons a b=>
   cases a;exact .cons _ _ (i _ b)
theorem Ms{l:OpenLaw}{n:Nat}(L:l.most=some n){P:Params}{h:Z3}{args:List WData}{i:List V1}(j:l.row.toRowW.claim.pre args=true)(G:WellAll P h i args):∃a vs ns,i=[Qq a]/\args=[WData.list (ns.map WData.int)]/\h.get? a=some {cls:=.type "list",data:=.seq vs.toArray}/\IntsAre vs ns/\ns.length<=n:=by
 have I:WShape.hasAll [] args [.list .int]=true:=(pre_splitW j).1;have J:l.pre.holds [] {args:=args}=true:=(pre_splitW j).2;obtain⟨d,r,rfl,h1,h2⟩:=hasAllW_cons I;obtain rfl:=hasAllW_nil h2;obtain⟨xs,rfl,M⟩:=hasW_list h1;obtain⟨ns,rfl⟩:=items_int M;have y:ns.length<=n:=by
  unfold OpenLaw.pre at J;have B:(WTm.not (.lt (.lit (.int (n:Int))) (.len (.arg 0)))).holds [] {args:=[.list (ns.map .int)]}=true:=by
   have B:=(holds_andW J).1;rw[L]at B;exact B
  have D:=condW_of B (w_not (w_lt w_lit (w_len_list (w_arg rfl))));rw[aA]at D;refine Nat.le_of_not_lt λ q=>?_;have N:(n:Int)<((ns.length:Nat):Int):=by lia
  first
   |(rw[T9 N]at D;exact T7 D qQ)
   |(simp at D;lia)
 cases G with
 |cons O R=>
  cases R;cases O with
  |list S z=>exact⟨_,_,ns,rfl,rfl,S,FA ns _ z,y⟩
theorem LY(l:OpenLaw)(args:List WData):l.row.toRowW.claim.post args (.bool true) args=true:=
 postW_of (r:=l.row.toRowW) (X:=(true == true))
  (show WShape.has [] (.bool true) .bool=true by first|rfl|decide|simp[WShape.has,WShape.arms,WShape.armsAll])
  (show(WTm.eq .res (.lit (.bool true))).value [] {args:=args,res:=some (.bool true),after:=args}=some (.bool (true==true))from w_eq_bool (w_res rfl) w_lit) rfl
theorem gp{l:OpenLaw}{n:Nat}{q:Program}{j:List V2}{Z:(V2->Option V1)->Z3->Prop}{YP:Y3->Z3->Prop}{d:DefRec}(hn:l.most=some n)(M:d.params.defaults=[])(call:∀(w:Y3)(s₀ i:M1)(mg N:V2->Option V1)(B:V0)(o:Obj)(O L y:V1)(a:V0)(vs:List V1)(ns:List Int),Ground q j [] Z w s₀ mg N i.heap->YP w i.heap->i.heap.get? B=some o->o.data=.func (docDef d.name d.params d.body d.scope O L y)->i.heap.CodeRec L d.name->mg d.name=some (.ref B)->i.heap.get? a=some {cls:=.type "list",data:=.seq vs.toArray}->IntsAre vs ns->ns.length<=n->i.gens=#[]->Rm (Qn l.prog w) TV (.call (.ref B) ⟨[.ref a],[]⟩) (λ r s'=>r=.ok (.ret (.bool true))/\OldK i.heap s'.heap/\s'.os=i.os/\SG s'.gens) i):WalkO q j Z YP l.row.toRowW d [] (λ f vs=>PySem.call f vs):=by
 intro w s₀ i mg N G Y B o O L y dV kV ho hd R hD S hg args a0 as D b0 c0 U d0;obtain rfl:dV=.none:=Dflts.none hD M;obtain rfl:kV=.none:=Dflts.noKw hD;obtain⟨a,vs,ns,rfl,rfl,I,z,J⟩:=Ms hn D U;refine enter_call (Rn (call w s₀ i mg N B o O L y a vs ns G Y ho (fd_plain hd) R S I z J hg) λ r s' hq=>?_);obtain⟨rfl,h2,h3,h4⟩:=hq;exact⟨.inl ⟨.bool true,.bool true,[],rfl,λ ω=>rfl,.bool true,LY l _,λ ω=>⟨List.Pairwise.nil,λ ω hm=>(nomatch hm)⟩⟩,h2,h3,h4⟩
section
variable{prog:Program}{w:Y3}{A:V3}{E:V1->M1->Prop}{s:M1}{K:Frag}
def NP(h:Z3)(L d:V0):List (V0×Obj):=(bU h.objs.size).filterMap λ a=>if a=L\/a=d then none else(h.get? a).map λ o=>(a,o)
end
end Att
namespace L2
open PySem PySem.Spec PyProof.Rows
theorem AQ:∀{vs:List V1}{ns:List Int},IntsAre vs ns->ax (ns.map V.int) vs
 |_,_,.nil=>.nil
 |_,_,.cons n t h=>.cons ⟨t,rfl⟩ (AQ h)
end L2
namespace L2
open PySem PySem.Spec PyProof.Rows
abbrev lK{K:X0}{h:Z3}(_:K.In h):X0:=K
end L2
namespace L2
open PySem PySem.Spec PyProof.Rows
abbrev hZ:iA:=λ ω ω ω ω ω ω=>False
abbrev E0:XK:=λ ω ω ω=>False
theorem uZ{X:Cx}:lq hZ X E0:=λ ω ω ω ω ω ω ω h=>h.elim
structure iz(K:X0)(x qual:V2)(st:Qw)(f:V0)(fd:Q_):Prop where
 ex:∃(oc:V1)(od:Option V0)(kV doc pm:V1)(an:Option V0)(cdv ct:V1)(osl:Array (Option V1)),
  fd=Rz x qual (fS st) (eJ st) (aR st) .none kV doc pm an cdv ct/\K.lookup f=some ⟨oc,od,.func fd,osl⟩/\SQ K cdv qual=true
 kp:QR K (.ref f)=true
section
variable{P:Program}{w:Y3}{K:X0}{mg:V2->Option V1}{base:Z3}
theorem iz.ok{x qual:V2}{st:Qw}{f:V0}{fd:Q_}{N ps:List V2}{k:Nat}{sp:Sp}(F:iz K x qual st f fd)(S:bj N ps (aR st))(len:∀vs H Q E,sp vs H Q E->vs.length=ps.length)(i:∀(cdv:V1)(A:V3)(outer:List Env)(s:M1)(H:Hp)(vs:List V)(Q:VK)(E:XK),aP k (A.deeper (Sn qual (aR st) s.heap.objs.size f cdv))->sp vs H Q E->∃t,fb (dC hZ P w K mg base N qual (aR st) f cdv A outer s H E).nox (eJ st) t/\t {nx:=λ ω H'=>Q .non H',rt:=Q} (iK N vs) H):cj P w K mg base hZ (k+1) f fd ps sp:=by
 obtain⟨D,G,kV,y,I,J,cdv,L,z,rfl,B,j⟩:=F.ex;refine yq B j S len λ A outer s H vs Q E hr n=>?_;obtain⟨t,h,q⟩:=i cdv A outer s H vs Q E hr n;exact⟨t,h.nox,q⟩
theorem iz.binds{x qual:V2}{st:Qw}{f:V0}{fd:Q_}{ps:List V2}(F:iz K x qual st f fd)(h:∀(kV i j:V1)(n:Option V0)(cdv ct:V1)(us:List V1),us.length=ps.length->RY (Rz x qual (fS st) (eJ st) (aR st) .none kV i j n cdv ct) ⟨us,[]⟩=pure (ps.zip us)):Binds K fd ps []:=by
 obtain⟨z,B,kV,i,j,n,cdv,ct,q,rfl,D,y⟩:=F.ex;exact .all (h kV i j n cdv ct)
theorem yG{x qual:V2}{st:Qw}{f:V0}{y:V1}{od n:Option V0}{j:Array (Option V1)}{kV i q cdv ct:V1}(l:K.lookup f=some ⟨y,od,.func (Rz x qual (fS st) (eJ st) (aR st) .none kV i q n cdv ct),j⟩)(c:SQ K cdv qual=true)(k:QR K (.ref f)=true):iz K x qual st f (Rz x qual (fS st) (eJ st) (aR st) .none kV i q n cdv ct):=⟨⟨y,od,kV,i,q,n,cdv,ct,j,rfl,l,c⟩,k⟩
end
theorem mB{A:V3}{k:Nat}(hr:aP k A):A.units+1<TL:=pG (Nat.add_le_add_left (by decide:1<=64) _) hr.units
theorem vS{A B:Prop}(h:B):if false=true then A else B:=by
 rw[T5 dI];exact h
theorem jo{A B:Prop}(h:A):if true=true then A else B:=by
 rw[T6 rfl];exact h
theorem ay{c A B:Prop}[Decidable c](h1:c->A)(h2:¬c->B):if c then A else B:=by
 by_cases h:c
 ·rw[T6 h];exact h1 h
 ·rw[T5 h];exact h2 h
def af(H H':Hp):Prop:=∀b o,H b=some o->H' b=some o
theorem af.refl(H:Hp):af H H:=λ ω ω h=>h
theorem af.trans{H H1 H2:Hp}(a:af H H1)(b:af H1 H2):af H H2:=λ c o h=>b c o (a c o h)
theorem af.free{H H':Hp}(e:af H H'){l:V0}(h:H' l=Option.none):H l=Option.none:=by
 cases q:H l with
 |none=>rfl
 |some o=>
  rw[e l o q]at h;cases h
theorem af.seq{K:X0}{H H':Hp}{a:V0}{xs:List V}(e:af H H')(h:ai K H a xs):ai K H' a xs:=by
 rcases h with(h|⟨o,h⟩)|h
 ·exact .inl (.inl (e _ _ h))
 ·exact .inl (.inr ⟨o,e _ _ h⟩)
 ·exact .inr h
end L2
end
section
namespace L2
open PySem PySem.Spec PyProof.Rows PySem.SeqAt
mutual
inductive dm(K:X0)(H:Hp):V->PyData->Prop
 |non:dm K H .non .none
 |bl(b:Bool):dm K H (.bl b) (.bool b)
 |int(i:Int):dm K H (.int i) (.int i)
 |str(x:V2):dm K H (.str x) (.str x)
 |lst{a:V0}{xs:List V}{ds:List PyData}:ai K H a xs->cH K H xs ds->dm K H (.ref a) (.list ds)
 |tup{a:V0}{xs:List V}{ds:List PyData}:ao K H a xs->cH K H xs ds->dm K H (.ref a) (.tuple ds)
inductive cH(K:X0)(H:Hp):List V->List PyData->Prop
 |nil:cH K H [] []
 |cons{x:V}{xs:List V}{d:PyData}{ds:List PyData}:dm K H x d->cH K H xs ds->cH K H (x::xs) (d::ds)
end
section
variable{X:Cx}{aa:List (V0×Obj)}{σ:St}{H:Hp}{s:M1}
mutual
theorem dm.reads(I:Inv X aa σ H s):∀{x:V}{d:PyData}{v:V1},dm X.K H x d->RelV x v->∃c,Reads s.heap v d c
 |_,_,_,.non,r=>by cases(show _=Qz from r);exact⟨_,.none⟩
 |_,_,_,.bl b,r=>by cases(show _=SN b from r);exact⟨_,.bool b⟩
 |_,_,_,.int i,r=>by obtain⟨t,e⟩:=(show ∃t,_=Rj i t from r);subst e;exact⟨_,.int i t⟩
 |_,_,_,.str x,r=>by obtain⟨t,e⟩:=(show ∃t,_=Th x t from r);subst e;exact⟨_,.str x t⟩
 |_,_,_,.lst (a:=a) g h,r=>by
  cases(show _=Qq a from r);obtain⟨j,m,p,ω⟩:=I.list g;obtain⟨c,q⟩:=cH.reads I h m;obtain⟨o,u,w,n,hd⟩:=p.isList;exact⟨_,.list u w hd (by simpa using q)⟩
 |_,_,_,.tup (a:=a) g h,r=>by
  cases(show _=Qq a from r);obtain⟨j,m,p,ω⟩:=I.tuple g;obtain⟨c,q⟩:=cH.reads I h m;obtain⟨o,u,w,n,hd⟩:=p;exact⟨_,.tuple u w hd (by simpa using q)⟩
theorem cH.reads(I:Inv X aa σ H s):∀{xs:List V}{b:List PyData}{vs:List V1},cH X.K H xs b->ax xs vs->∃c,ReadsAll s.heap vs b c
 |_,_,_,.nil,.nil=>⟨_,.nil⟩
 |_,_,_,.cons hd e,.cons r g=>by
  obtain⟨c,h⟩:=dm.reads I hd r;obtain⟨bs,i⟩:=cH.reads I e g;exact⟨_,.cons h i⟩
end
def jU(K:X0):R2:=λ x y H Q=>∃d e,dm K H x d/\dm K H y e/\shaped d=true/\shaped e=true/\Q (.bl (RG d e)) H
def gO(K:X0):R2:=λ x y H Q=>∃d e,dm K H x d/\dm K H y e/\shaped d=true/\shaped e=true/\Q (.bl (!RG d e)) H
theorem CL(b:X.A.units+64<TL):dP X (Rb .Eq) (jU X.K):=by
 intro aa s σ H x y v u Q I c g h;obtain⟨d,e,hd,i,j,m,q⟩:=h;obtain⟨p,n⟩:=dm.reads I hd c;obtain⟨bs,o⟩:=dm.reads I i g;exact eq_dataH n o j m b ⟨.bl _,H,I,rfl,q⟩
theorem qo(b:X.A.units+64<TL):dP X (Rb .NotEq) (gO X.K):=by
 intro aa s σ H x y v u Q I c g h;obtain⟨d,e,hd,i,j,m,q⟩:=h;obtain⟨p,n⟩:=dm.reads I hd c;obtain⟨bs,o⟩:=dm.reads I i g;exact ne_dataH n o j m b ⟨.bl _,H,I,rfl,q⟩
end
theorem K3{K:X0}{H H':Hp}{a:V0}{xs:List V}(h:ao K H a xs)(e:af H H'):ao K H' a xs:=by
 rcases h with(h|⟨o,h⟩)|h
 ·exact .inl (.inl (e _ _ h))
 ·exact .inl (.inr ⟨o,e _ _ h⟩)
 ·exact .inr h
mutual
theorem dm.same{K:X0}{H H':Hp}(e:af H H'):∀{v:V}{d:PyData},dm K H v d->dm K H' v d
 |_,_,.non=>.non
 |_,_,.bl b=>.bl b
 |_,_,.int i=>.int i
 |_,_,.str x=>.str x
 |_,_,.lst c g=>.lst (e.seq c) (cH.same e g)
 |_,_,.tup c g=>.tup (K3 c e) (cH.same e g)
theorem cH.same{K:X0}{H H':Hp}(e:af H H'):∀{v:List V}{d:List PyData},cH K H v d->cH K H' v d
 |_,_,.nil=>.nil
 |_,_,.cons h b=>.cons (dm.same e h) (cH.same e b)
end
end L2
end
section
namespace L2
open PySem PySem.Spec PyProof.Rows
def Cx.block(X:Cx)(N:List V2)(scope:Rf)(cl:List (V2×V0))(C:V0)(fp:List V0)(s:M1)(H:Hp):Cx:=
 {X with N:=N,s₀:=s,H₀:=H,env:=compEnvC scope cl C X.env,outer:=X.stack,stack:=X.stack,ex:=fp,fn:=λ ω=>false,pn:=[],xe:=λ ω ω=>False}
structure ak(X:Cx)(N:List V2)(nl:List (Option Nat))(scope:Rf)(cl:List (V2×V0)):Prop where
 kind:scope.kind=.function
 nocell:∀y∈scope.names,y.2≠.cell
 names:∀y∈scope.names,y.2=.local->scope.names.lookup y.1=some .local
 clos:Tz scope X.env=pure cl
 sub:∀y c,cl.lookup y=some c->X.env.cells.lookup y=some c
 has:∀y,scope.names.lookup y=some .free->∃c,cl.lookup y=some c
 len:nl.length=N.length
 seen:∀(i j:Nat)(y:V2),N[i]?=some y->nl[i]?=some (some j)->X.N[j]?=some y/\scope.names.lookup y=some .free/\(X.env.scope.names.lookup y=some .cell\/X.env.scope.names.lookup y=some .free)
def bT(nl:List (Option Nat))(σ:St):St:=nl.map λ o=>match o with
 |none=>none
 |some j=>(σ[j]?).join
theorem mZ{x:V2}{k:Sv}:∀{l:List (V2×Sv)},l.lookup x=some k->(x,k)∈l
 |[],h=>by simp at h
 |(n,q)::r,h=>by
  rw[fe]at h;cases e:x==n with
  |true=>
   rw[e]at h;have:q=k:=by simpa using h
   have b:x=n:=by simpa using e
   rw[this,b];exact dR
  |false=>
   rw[e]at h;exact dz _ (mZ h)
theorem qW{env:Env}{x:V2}{k:Sv}:∀{l:List (V2×Sv)},(l.map λ(n,k)=>if(k==QH&&env.scope.kind==.function&&env.kindOf n==some .cell)then(n,QQ)else(n,k)).lookup x=some k->(l.lookup x=some k\/(k=.cell/\l.lookup x=some .free))
 |[],h=>by simp at h
 |(n,q)::r,h=>by
  rw[eP]at h;cases e:x==n with
  |true=>
   by_cases b:(q==QH&&env.scope.kind==.function&&env.kindOf n==some .cell)=true
   ·simp only[b,if_true,fe,e]at h;have c:q=.free:=by
     rw[jZ,jZ]at b;simpa using b.1.1
    refine .inr ⟨(by simpa using h.symm),?_⟩;rw[fe,e,c]
   ·change iG x ((if(q==QH&&env.scope.kind==.function&&env.kindOf n==some .cell)=true then(n,QQ)else(n,q))::_)=some k at h;rw[T5 b,fe,e]at h;refine .inl ?_;rw[fe,e];exact h
  |false=>
   have i:(r.map λ(n,k)=>if(k==QH&&env.scope.kind==.function&&env.kindOf n==some .cell)then(n,QQ)else(n,k)).lookup x=some k:=by
    by_cases b:(q==QH&&env.scope.kind==.function&&env.kindOf n==some .cell)=true
    ·simpa only[b,if_true,fe,e]using h
    ·simpa only[b,fe,e,if_false,pF]using h
   have j:=qW (env:=env) i;rw[fe,e];exact j
theorem xY{env:Env}{x:V2}:∀{l:List (V2×Sv)},l.lookup x=some .free->(l.map λ(n,k)=>if(k==QH&&env.scope.kind==.function&&env.kindOf n==some .cell)then(n,QQ)else(n,k)).lookup x=some .cell\/(l.map λ(n,k)=>if(k==QH&&env.scope.kind==.function&&env.kindOf n==some .cell)then(n,QQ)else(n,k)).lookup x=some .free
 |[],h=>by simp at h
 |(n,q)::r,h=>by
  rw[eP];cases e:x==n with
  |true=>
   rw[fe,e]at h;have i:q=.free:=by simpa using h
   by_cases b:(q==QH&&env.scope.kind==.function&&env.kindOf n==some .cell)=true
   ·left;simp only[b,if_true,fe,e]
   ·right;change iG x ((if(q==QH&&env.scope.kind==.function&&env.kindOf n==some .cell)=true then(n,QQ)else(n,q))::_)=some .free;rw[T5 b,fe,e,i]
  |false=>
   rw[fe,e]at h;have c:=xY (env:=env) (l:=r) h;by_cases b:(q==QH&&env.scope.kind==.function&&env.kindOf n==some .cell)=true
   ·simpa only[b,if_true,fe,e]using c
   ·simpa only[b,fe,e,if_false,pF]using c
section
variable{X:Cx}{aa:List (V0×Obj)}{σ:St}{H:Hp}{s:M1}{N:List V2}{nl:List (Option Nat)}{scope:Rf}{cl:List (V2×V0)}{fp:List V0}
theorem LM(I:Inv X aa σ H s)(B:ak X N nl scope cl)(j:∀b∈fp,cz X aa H b)(m:∀b∈fp,b<s.heap.objs.size){C:V0}(u:s.heap.objs.size<=C):(X.block N scope cl C fp s H).Ok:=by
 have p:∀b∈fJ X.stack,b=X.env.locals\/b∈X.fs:=λ b i=>bH.mp (I.stkSub b i);refine⟨I.ok.mod,B.kind,I.ok.glob,I.ok.blt,u,λ x y c v w=>I.ok.inj x y c (B.sub x c v) (B.sub y c w),λ x A=>?_,λ x c h=>(nomatch h),I.ok.hd,I.ok.frames,.inl rfl,λ b i=>⟨?_,λ x c e=>?_⟩,I.bs,cb I.ok.bsz I.sz,λ b o e i=>?_,λ b i D=>?_,I.stack,I.stkFree⟩
 ·have r:(scope.names.map λ(n,k)=>if(k==QH&&X.env.scope.kind==.function&&X.env.kindOf n==some .cell)then(n,QQ)else(n,k)).lookup x=some .cell\/
    (scope.names.map λ(n,k)=>if(k==QH&&X.env.scope.kind==.function&&X.env.kindOf n==some .cell)then(n,QQ)else(n,k)).lookup x=some .free:=A
  rcases r with q|q
  ·rcases qW q with z|⟨_,z⟩
   ·exact T7 rfl (B.nocell _ (mZ z))
   ·exact B.has x z
  ·rcases qW q with z|⟨z,_⟩
   ·exact B.has x z
   ·cases z
 ·exact bY (cK (m b i) u)
 ·exact(j b i).2.2.2.2.1 x c (B.sub x c e)
 ·rcases(j b i).2.2.2.1 with z|z
  ·exact I.ok.noex b o e z
  ·exact T7 (cK (Qi (I.ok.bs b o e).1) z) (fu _)
 ·rcases p b D with z|z
  ·exact(j b i).2.1 z
  ·exact(j b i).2.2.1 z
theorem w4{i:Nat}{v:V}(h:(bT nl σ)[i]?=some (some v)):∃j,nl[i]?=some (some j)/\σ[j]?=some (some v):=by
 unfold bT at h;rw[a_]at h;cases e:nl[i]? with
 |none=>rw[e]at h;cases h
 |some o=>
  rw[e]at h;cases o with
  |none=>cases h
  |some j=>
   refine⟨j,rfl,?_⟩;have b:(σ[j]?).join=some v:=by simpa using h
   cases q:σ[j]? with
   |none=>rw[q]at b;cases b
   |some c=>
    rw[q]at b;have:c=some v:=by simpa using b
    rw[this]
theorem Fg(I:Inv X aa σ H s)(B:ak X N nl scope cl)(T:∀b∈fp,cz X aa H b)(J:∀b∈fp,b<s.heap.objs.size){C D:V0}(w:D=s.heap.objs.size)(K:C=s.heap.objs.size+1){E:Z3}{tk:Nat}{m:V2->Option V1}{n:Nat}(G:∀b o,s.heap.get? b=some o->E.get? b=some o)(hl:E.get? D=some {cls:=.type "list",data:=.seq ([]:List V1).toArray n})(U:E.Ns C m):Inv (X.block N scope cl C fp s H) [] (bT nl σ) (ag H D (.lst [])) {s with heap:=E,toks:=tk}:=by
 have L:H D=none:=I.hok.fresh (by rw[w];exact aS _);have M:C≠D:=by rw[K,w];exact lV _
 have O:H C=none:=I.hok.fresh (by rw[K];exact ie _);have h:∀y c,cl.lookup y=some c->c≠D:=λ y c e z=>by
  obtain⟨v,q⟩:=I.cell y c (B.sub y c e);exact T7 q.lt (by rw[z,w];exact fu _)
 refine⟨LM I B T J (by rw[K];exact ie _),rfl,I.bare,Un.laid G (by rw[w];exact aS _) L,⟨m,U,λ i y v Y Z ω=>?_⟩,λ y c e=>?_,?_,λ y c e=>?_,λ p hp=>T7 hp (by simp[Cx.block]),?_,?_⟩
 ·obtain⟨j,hj,hv⟩:=w4 Z;obtain⟨x1,R,S⟩:=B.seen i j y Y hj;obtain⟨m0,a0,P⟩:=I.loc;obtain⟨u,r,l⟩:=P j y v x1 hv (.inr S);refine⟨u,r,?_⟩;rcases l with⟨Q,_⟩|⟨_,c,hc,z⟩
  ·have x:X.env.scope.names.lookup y=some .local:=Q;rcases S with q|q<;>(rw[x]at q;cases q)
  ·refine .inr ⟨xY R,c,?_,z.keeps G⟩;obtain⟨c',A⟩:=B.has y R;have q:=B.sub y c' A;rw[hc]at q;cases q;exact A
 ·obtain⟨v,q⟩:=I.cell y c (B.sub y c e);exact⟨v,q.keeps G⟩
 ·show(ag H D (.lst [])) C=none;rw[aD M];exact O
 ·rw[aD (h y c e)];exact I.freeC y c (B.sub y c e)
 ·exact I.hok.laid G (by rw[w];exact aS _) ⟨bJ _,[],n,.nil,hl⟩
 ·show(bT nl σ).length=N.length;unfold bT;rw[aA,B.len]
theorem AG{C:V0}{w:St}{H':Hp}{p:M1}{h2:Z3}(I:Inv X aa σ H s)(A:∀b∈fp,cz X aa H b)(B:s.heap.objs.size<=C)(J:Inv (X.block N scope cl C fp s H) [] w H' p)(r:∀b o,b≠C->p.heap.get? b=some o->h2.get? b=some o):Inv X aa σ H' {p with heap:=h2}:=by
 obtain⟨R,g,d,t,D⟩:=p;have E:D=s.os:=J.os;subst E;have h:H' C=none:=J.free;have u:=J.base;have x:∀b o,s.heap.get? b=some o->b≠C:=λ b o e=>bY (cK (Qi e) B);have G:Un (fJ X.stack) fp H H' s.heap h2:=
  ⟨λ b o e n i j=>r b o (x b o e) (u.keep b o e n i j),λ b o e n i j=>(let⟨K,q⟩:=u.slot b o e n i j;⟨K,r b _ (x b o e) q⟩),u.free,λ b o e j=>(let⟨y,q⟩:=u.there b o e j;⟨y,r b y (x b o e) q⟩),u.tups,u.frzs,u.tbls⟩
 have m:cV X.prog X.w H' h2:=λ b o e=>(J.hok b o e).stay (λ c v L q=>r c v (λ z=>by
  subst z;rcases L with z|z
  ·rw[<-z,h]at e;cases e
  ·rw[h]at z;cases z) q) (λ ω q=>q) λ ω ω q=>q
 have z:=I.call (h':=h2) (g':=g) (d':=d) (t':=t) (ch:=fp) G m J.bare λ b i=>(let⟨_,M,_,O,P,Q⟩:=A b i;⟨O,M,P,Q⟩);exact z
end
def PQ(X:Cx)(tst:Env->Sem Bool)(t:TT):Prop:=
 ∀(aa:List (V0×Obj))(s:M1)(σ:St)(H:Hp)(Q:Bool->Hp->Prop),Inv X aa σ H s->t σ H Q->Qm s!"c" X.A (tst X.env) (TP X aa σ Q) X.xe s
def fh:TT:=λ ω H Q=>Q true H
variable{X:Cx}
theorem wj:PQ X (λ ω=>pure true) fh:=λ ω ω ω H ω I h=>Qh ⟨H,I,h⟩
variable{c:Expr}
theorem G5{t:TT}(h:PT X c t):PQ X (λ env=>isTrue c env (QA c env)) t:=h
def gr(J:It)(g:TG)(tc:TT)(te:TE)(D:V0)(Q:VK)(σ0:St)(H0:Hp):Prop:=∃W:Nat->Nat->St->Hp->Prop,(∃m,W 0 m σ0 H0)/\∀i m e h,W i m e h->
 (J.stop i h/\Q (.ref D) h)\/(J.go i h/\∃N:St->Hp->Prop,(∀j n,N j n->∃p,p<m/\W (i+1) p j n)/\∀x n,J.yld i h x n->g x e n λ c u=>tc c u λ b q=>if b=true then te c q λ v r=>∃o,r D=some (.lst o)/\o.length<Qj/\N c (ag r D (.lst (o++[v])))else N c q)
def mr(wi:TI)(nl:List (Option Nat))(g:TG)(tc:TT)(te:TE):TE:=λ σ H Q=>wi σ H λ J b=>∀D,b D=none->gr J g tc te D Q (bT nl σ) (ag b D (.lst []))
theorem xy{N:List V2}{nl:List (Option Nat)}{scope:Rf}{cl:List (V2×V0)}{elt tg iter:Expr}{ifs:List Expr}{pos:Pos}{wi:TI}{g:TG}{tst:Env->Sem Bool}{tc:TT}{te:TE}(hcalm:X.calm=true)(B:ak X N nl scope cl)(hi:PI X tg iter wi)(hg:∀C fp s H,PG (X.block N scope cl C fp s H) tg g)(ht:∀C fp s H,PQ (X.block N scope cl C fp s H) tst tc)(he:∀C fp s H,PE (X.block N scope cl C fp s H) elt te)(hturn:∀(it acc:V1)(env:Env),Tp s!"g" 0 it acc env=(do
   Q4 iter.pos
   match<-Sf it with
   |none=>pure (.done .next)
   |some v=>
    Rl tg it v
    Se tg env v
    let ok<-tst env
    if ok then(do
     (do let x<-QA elt env;let _<-call (.builtin "list.append") [acc,x];pure ())
     again (.compLoop s!"g" 0 it acc env))
    else again (.compLoop s!"g" 0 it acc env))) (hs:∀x,Q6 iter X.env x=pure x) {aa:List (V0×Obj)} {s:M1} {σ:St} {H:Hp} {Q:VK} (I:Inv X aa σ H s) (h:mr wi nl g tc te σ H Q) {use:Option (V1->Sem Unit)} {Q':V1->M1->Prop} (hpost:∀(D C:V0) (s' s2:M1) (fp:List V0) (σ':St) (H' H2:Hp),Inv X aa σ H2 s2->(∀b∈fp,cz X aa H2 b)->s2.heap.objs.size<=C->Inv (X.block N scope cl C fp s2 H2) [] σ' H' s'->Q (.ref D) H'->Tq s!"c" X.A X.xe use Q' (.ref D) C (.ok .next) s') (hpos:Pos):Qm s!"c" X.A (comprehension s!"g" scope X.env hpos (newList []) false (QA iter X.env) use) Q' X.xe s:=by
 refine wpAny_comprehension_free (use:=use) rfl hs B.clos B.kind B.names ?_;refine aM (hi aa s σ H _ I h) λ v s1 h1=>aM h1 λ itv s2 h2=>?_;obtain⟨it,fp,tn,J,H2,e,I2,T,st2,f2,q⟩:=h2;subst e;have hob:∀b∈fp,b<s2.heap.objs.size:=λ b hb=>(let⟨o,e,_⟩:=T.obj 0 _ st2 b hb;Qi e);refine QS (wpAny_newFunctionEnv B.nocell (by intro y hy;simp at hy) (λ h1 hns hsb=>?_) B.kind);dsimp only at hns hsb ⊢;generalize hD:s2.heap.objs.size=D at hns hsb ⊢;have hC:s!"d".objs.size=s2.heap.objs.size+1:=by rw[QE]
 generalize hC':s!"d".objs.size=C at hns hsb hC ⊢;have hDC:D≠C:=by rw[hC,<-hD];exact(lV _).symm
 have lt_ne:∀b,b<s2.heap.objs.size->b≠C:=λ b hb=>by rw[hC];exact bY (lU hb)
 have old:∀b o,s2.heap.get? b=some o->h1.get? b=some o:=λ b o e=>
  hsb.extBut b o (lt_ne b (Qi e)) (Qg _ (Qg _ e))
 have hl:h1.get? D=some {cls:=.type "list",data:=.seq ([]:List V1).toArray 0}:=by
  refine hsb.extBut D _ hDC (Qg _ ?_);rw[<-hD];exact Qo _ rfl
 have fresh:H2 D=none:=I2.hok.fresh (by rw[hD];exact aS _);obtain⟨W,⟨m0,w0⟩,turn⟩:=q D fresh;have hCle:s2.heap.objs.size<=C:=by rw[hC];exact ie _
 have stat:∀{H':Hp},(∀b∈fp,H' b=none)->∀b∈fp,cz (X.block N scope cl C fp s2 H2) [] H' b:=λ hn b hb=>by
  obtain⟨ω,f1,f2',f3,f4,f5⟩:=f2 b hb;refine⟨hn b hb,lt_ne b (hob b hb),λ z=>?_,.inl hb,λ x c e=>f4 x c (B.sub x c e),λ p hp=>T7 hp (by simp[Cx.block])⟩;rcases bH.mp (I2.stkSub b z)with z|z
  ·exact f1 z
  ·exact f2' z
 have main:∀s4:M1,(∃tk,s4={s2 with heap:=h1,toks:=tk})->
   Rm s!"c" X.A (.compLoop s!"g" 0 (.ref it) (.ref D) (X.block N scope cl C fp s2 H2).env) (Tq s!"c" X.A X.xe use Q' (.ref D) C) s4:=by
  rintro s4 ⟨tk,rfl⟩;have I3:Inv (X.block N scope cl C fp s2 H2) [] (bT nl σ) (ag H2 D (.lst [])) { s2 with heap:=h1,toks:=tk }:=Fg I2 B f2 hob hD.symm hC old hl hns;refine codeAny_loop rfl (λ n s'=>∃ i σ' H',Inv (X.block N scope cl C fp s2 H2) [] σ' H' s'/\tn i s'.heap/\(∀ b∈fp,H' b=none)/\W i n σ' H') (λ n s5 hI=>?_) m0
   ⟨0,bT nl σ,_,I3,T.keep 0 _ _ st2 λ b hb o e=>old b o e,λ b hb=>by rw[aD (λ z=>T7 (hob b hb) (by rw[z,<-hD];exact fu _))];exact(f2 b hb).1,w0⟩
  show Qm _ X.A ((Tp s!"g" 0 (.ref it) (.ref D) (X.block N scope cl C fp s2 H2).env).onRaise (λ x=>do R_ x (X.block N scope cl C fp s2 H2).env;theTreesLotGoes x)) _ _ s5;refine wpAny_noted ?_;rw[hturn];obtain⟨i,σ5,H5,I5,st5,fr5,w5⟩:=hI;have quiet:∀{α:Type}{t:Sem α}{R:α->M1->Prop}{E':V1->M1->Prop}{s':M1},Qm s!"c" X.A t R (λ ω ω=>False) s'->Qm s!"c" X.A t R E' s':=λ hw=>QI hw (λ ω ω z=>z) λ ω ω z=>z.elim;refine Qf (QO ?_);rcases turn i n σ5 H5 w5 with⟨stop,qn⟩|⟨go,Nx,hN,step⟩
  ·refine Qf (quiet (aM (T.done (X.block N scope cl C fp s2 H2) rfl rfl rfl hcalm i [] s5 σ5 H5 (λ ω ω=>False) I5 (stat fr5) st5 stop) λ r s6 hz_=>?_));obtain⟨hr,I6⟩:=hz_;subst hr;exact quiet (Qh (hpost D C s6 s2 fp σ5 H5 H2 I2 f2 hCle I6 qn))
  ·refine Qf (quiet (aM (T.item (X.block N scope cl C fp s2 H2) rfl rfl rfl hcalm i [] s5 σ5 H5 (λ ω ω=>False) I5 (stat fr5) st5 go) λ r s6 hz_=>?_));obtain⟨u,hr,h6⟩:=hz_;subst hr;refine Qf (quiet (aM h6 λ ω s7 hz_=>?_));obtain⟨x,H7,I7,r7,y7,st7,fr7⟩:=hz_;have I7':=I7.pinned (stat fr7) (T.obj _ _ st7);have again':∀{σ8:St}{H8:Hp}{s8:M1},Inv (X.block N scope cl C fp s2 H2) ([]++nV fp s7.heap) σ8 H8 s8->Nx σ8 H8->∃m,m<n/\∃i σ' H',Inv (X.block N scope cl C fp s2 H2) [] σ' H' s8/\tn i s8.heap/\(∀b∈fp,H' b=none)/\W i m σ' H':=λ{σ8 H8 s8} I8 n8=>by
    obtain⟨m',hm,w8⟩:=hN σ8 H8 n8;refine⟨m',hm,i+1,σ8,H8,I8.unpinned,T.keep _ _ _ st7 λ b hb o e=>(I8.pin (b,o) (dY _ (dY _ (oh hb e)))).1,λ b hb=>?_,w8⟩;obtain⟨o,e,ω⟩:=T.obj _ _ st7 b hb;exact(I8.pin (b,o) (dY _ (dY _ (oh hb e)))).2.1
   refine Qf (quiet (aM (hg C fp s2 H2 _ s7 σ5 H7 x u _ I7' r7 (step x H7 y7)) λ ω s8 hz_=>?_));obtain⟨σ8,H8,I8,q8⟩:=hz_;refine Qf (quiet (aM (ht C fp s2 H2 _ s8 σ8 H8 _ I8 q8) λ b s9 hz_=>?_));obtain⟨H9,I9,q9⟩:=hz_;cases b with
   |false=>exact quiet (Qh ⟨rfl,again' I9 q9⟩)
   |true=>
    refine Qf (Qf (quiet (aM (he C fp s2 H2 _ s9 σ8 H9 _ I9 q9) λ vy s10 hz_=>?_)));obtain⟨y,H10,I10,r10,xs,e10,z10,n10⟩:=hz_;refine Qf (quiet (aM (fK _ s10 σ8 H10 (.ref D) [y] (.ref D) [vy] (λ ω H'=>Nx σ8 H') I10 rfl (.cons r10 .nil) ⟨D,xs,y,rfl,rfl,e10,z10,n10⟩) λ ω s11 hz_=>?_));obtain⟨ω,H11,I11,ω,q11⟩:=hz_;exact Qh (Qh ⟨rfl,again' I11 q11⟩)
 exact codeAny_compStart_list (main _ ⟨_,rfl⟩) (T.self _ 0 _ _ _ (T.keep 0 _ _ st2 λ b hb o e=>old b o e) (main _ ⟨_,rfl⟩))
section
variable{X:Cx}{N:List V2}{nl:List (Option Nat)}{scope:Rf}{cl:List (V2×V0)}{elt tg iter:Expr}{pos:Pos}{wi:TI}{g:TG}{tc:TT}{te:TE}
theorem wU(it b:V1)(env:Env):Tp s!"l" 0 it b env=(do
   Q4 iter.pos
   match<-Sf it with
   |none=>pure (.done .next)
   |some v=>
    Rl tg it v
    Se tg env v
    let ok<-(λ ω=>pure true:Env->Sem Bool) env
    if ok then(do
     (do let x<-QA elt env;let _<-call (.builtin "list.append") [b,x];pure ())
     again (.compLoop s!"l" 0 it b env))
    else again (.compLoop s!"l" 0 it b env)):=by rfl
theorem Kc(it b:V1)(env:Env):Tp (.ListComp elt [⟨tg,iter,[c],0⟩] scope pos) 0 it b env=(do
   Q4 iter.pos
   match<-Sf it with
   |none=>pure (.done .next)
   |some v=>
    Rl tg it v
    Se tg env v
    let ok<-(λ env=>isTrue c env (QA c env):Env->Sem Bool) env
    if ok then(do
     (do let x<-QA elt env;let _<-call (.builtin "list.append") [b,x];pure ())
     again (.compLoop (.ListComp elt [⟨tg,iter,[c],0⟩] scope pos) 0 it b env))
    else again (.compLoop (.ListComp elt [⟨tg,iter,[c],0⟩] scope pos) 0 it b env)):=by
 unfold Tp;simp;rfl
theorem Ay{aa:List (V0×Obj)}{σ:St}{Q:VK}(D C:V0)(s' c:M1)(fp:List V0)(h:St)(H' i:Hp)(j:Inv X aa σ i c)(n:∀b∈fp,cz X aa i b)(p:c.heap.objs.size<=C)(J:Inv (X.block N scope cl C fp c i) [] h H' s')(q:Q (.ref D) H'):Tq s!"c" X.A X.xe none (EP X aa σ Q) (.ref D) C (.ok .next) s':=by
 obtain⟨m,r,ω⟩:=J.loc;exact⟨m,r,λ w u=>⟨.ref D,H',AG j n p J λ b o v e=>u.extBut b o v e,rfl,q⟩⟩
theorem eF(b:X.calm=true)(B:ak X N nl scope cl)(hi:PI X tg iter wi)(c:∀C fp s H,PG (X.block N scope cl C fp s H) tg g)(e:∀C fp s H,PE (X.block N scope cl C fp s H) elt te)(hs:∀x,Q6 iter X.env x=pure x:=by intro _;rfl):PE X s!"l" (mr wi nl g fh te):=by
 intro aa s σ H Q I h;rw[eval_ListComp];exact xy (tst:=λ ω=>pure true) b B hi c (λ ω ω ω ω=>wj) e wU hs I h Ay _
theorem n9(b:X.calm=true)(B:ak X N nl scope cl)(hi:PI X tg iter wi)(i:∀C fp s H,PG (X.block N scope cl C fp s H) tg g)(j:∀C fp s H,PT (X.block N scope cl C fp s H) c tc)(m:∀C fp s H,PE (X.block N scope cl C fp s H) elt te)(hs:∀x,Q6 iter X.env x=pure x:=by intro _;rfl):PE X (.ListComp elt [⟨tg,iter,[c],0⟩] scope pos) (mr wi nl g tc te):=by
 intro aa s σ H Q I h;rw[eval_ListComp];exact xy (tst:=λ e=>isTrue c e (QA c e)) b B hi i (λ C fp s H=>G5 (j C fp s H)) m Kc hs I h Ay _
end
end L2
end
section
namespace L2
open PySem PySem.Spec PyProof.Rows
def Qd(x:V2):It:=⟨λ i ω=>i<x.cps.size,λ i H v b=>b=H/\∃c,x.cps[i]?=some c/\v=.str ⟨#[c]⟩,λ i ω=>i=x.cps.size⟩
def vh(K:X0)(l:V0):It:=
 ⟨λ i H=>∃b x,ai K H l b/\b[i]?=some x,λ i H v c=>∃t x,v=.ref t/\H t=none/\c=ag H t (.tup [.int i,x])/\∀b,ai K H l b->b[i]?=some x,λ i H=>∃b,ai K H l b/\b.length<=i⟩
theorem Mo{P:Program}{w:Y3}{K:X0}{R:List Expr}{x1:Nat}{S:Pos}(l e it:V0)(T:e≠it):g_ P w K (.Tuple R x1 S) (vh K l) [e,it] e (λ i h=>(∃y,IsEnum h e it i y)/\h.IsListIter it l i)where
 mem:=by simp
 obj:=λ i h C b g=>by
  obtain⟨⟨y,L⟩,o,O,c,d⟩:=C;rcases bH.mp g with z|z
  ·subst z;exact⟨_,L,λ v q=>by cases q⟩
  ·have U:b=it:=by simpa using z
   subst U;exact⟨o,O,λ v q=>by rw[d]at q;cases q⟩
 keep:=λ i h h' C k=>⟨let⟨y,q⟩:=C.1;⟨y,k e s!"n" _ q⟩,C.2.at λ o q=>k it s!"n" o q⟩
 item:=by
  intro X hP hw hK hc i G s σ H E I hf C hg;subst hP hw hK;obtain⟨xs,x,hq,hx⟩:=hg;obtain⟨a0,rv,p,hz⟩:=I.list hq;obtain⟨u,hu,ru⟩:=rv.get hx;obtain⟨⟨y,L⟩,O⟩:=C;have M:=hf e s!"n";have N:=hf it s!"n";refine wpAny_pyNext_enum_item L O p.isList (x:=u) (by simpa using hu) T λ h' eo b0 ht d0 kk=>?_;refine⟨_,rfl,wpAny_letOwnedTupleGo_enum eo λ h2 en sb=>?_⟩;have c0:s.heap.objs.size≠e:=gC (Qi L);have Y:∀b o,b≠e->b≠it->s.heap.get? b=some o->h2.get? b=some o:=λ b o h1 h3 q=>sb.extBut b o h1 (kk b o h1 h3 q);have fresh:H s.heap.objs.size=none:=I.hok.fresh (aS _);have B:∀b o,s.heap.get? b=some o->b≠s.heap.objs.size:=λ b o q=>bY (Qi q);have Z:∀b o,H b=some o->b≠e/\b≠it:=λ b o q=>⟨bS q M.1,bS q N.1⟩;have J:h2.get? s.heap.objs.size=some {cls:=.type "tuple",data:=.seq #[.int i s.toks,u]}:=sb.extBut _ _ c0 ht;have j:∀b,b∉[e,it]->b≠e/\b≠it:=λ b g=>⟨λ z=>g (by simp[z]),λ z=>g (by simp[z])⟩;have I2:Inv X G σ (ag H s.heap.objs.size (.tup [.int i,x])) {s with heap:=h2,toks:=s.toks+1}:=by
   refine I.step (g':=s.gens) (d':=s.drawn) (ch:=[e,it]) (λ b g=>?_) (λ b o ω ω g q ω=>Y b o (j b g).1 (j b g).2 q) (λ b o ω ω g q ω=>⟨o.slots,Y b o (j b g).1 (j b g).2 q⟩)
    (λ b o ω q n=>by rw[aD (B b o q)];exact n) (λ b o g q=>⟨o,Y b o (j b g).1 (j b g).2 q⟩) (λ b ys q=>by rw[aD (bS q fresh)];exact q) (λ b o ys q=>by rw[aD (bS q fresh)];exact q)
    (λ b ps q=>⟨#[],by rw[aD (bS q fresh),q];simp⟩) (λ m hm=>hm.at' λ o q=>Y _ o M.2.1.symm N.2.1.symm q) (λ b o q=>?_) I.bare
   ·rcases bH.mp g with z|z
    ·subst z;exact⟨M.2.2.2.1,M.2.1,M.2.2.2.2.1,M.2.2.2.2.2⟩
    ·have U:b=it:=by simpa using z
     subst U;exact⟨N.2.2.2.1,N.2.1,N.2.2.2.2.1,N.2.2.2.2.2⟩
   ·by_cases g:b=s.heap.objs.size
    ·subst g;rw[aG]at q;cases q;exact⟨⟨by show 2<=Qj;decide,λ o q=>by rw[J]at q;cases q;rfl⟩,[.int i s.toks,u],.cons ⟨_,rfl⟩ (.cons ru .nil),⟨_,J,rfl,_,rfl⟩⟩
    ·rw[aD g]at q;refine(I.hok b o q).stay (λ c v hc r=>?_) (λ c r=>by rw[aD (bS r fresh)];exact r) λ c ys r=>by rw[aD (bS r fresh)];exact r
     have D:∃o',H c=some o':=by
      rcases hc with z|z
      ·exact⟨o,by rw[z];exact q⟩
      ·exact⟨_,z⟩
     obtain⟨o',D⟩:=D;exact Y c v (Z c o' D).1 (Z c o' D).2 r
  refine⟨.ref s.heap.objs.size,_,I2,rfl,⟨_,x,rfl,fresh,rfl,λ ys hy=>by rw[I.list_inj hy hq];exact hx⟩,⟨⟨u,?_⟩,b0.extBut sb.extBut T.symm⟩,λ b g=>?_⟩
  ·have e1:((i+1:Nat):Int)=(i:Int)+1:=by lia
   rw[e1];exact en
  ·rcases bH.mp g with z|z
   ·subst z;rw[aD (B _ _ L)];exact M.1
   ·have U:b=it:=by simpa using z
    subst U;obtain⟨o,s3,ω⟩:=O;rw[aD (B _ _ s3)];exact N.1
 done:=by
  intro X hP hw hK hc i G s σ H E I hf C hg;subst hP hw hK;obtain⟨xs,hq,hx⟩:=hg;obtain⟨a0,rv,p,hz⟩:=I.list hq;obtain⟨⟨y,L⟩,O⟩:=C;obtain⟨f0,f1,f2,f3,f4,f5⟩:=hf it s!"n";have hl:=rv.length;exact wpAny_pyNext_enum_end (I.ok.hd hc) L O p.isList (by simp;lia) λ h' eb=>⟨rfl,I.turned (t':=s.toks) (λ b o g q=>eb b o g q) f0 f1 f3 f4 f5⟩
 self:=λ A i s Q E C h=>(let⟨y,q⟩:=C.1;wpAny_pyIter_enum q h)
section
variable{X:Cx}
def B7(K:X0)(ta:TA):TI:=λ c H R=>ta c H λ vs b=>∃a,vs=[.ref a]/\(∃e,ai K b a e)/\R (vh K a) b
theorem Jb{g:List Expr}{y:Nat}{i:Pos}{a:Expr}{w:TA}{p j:Pos}(A:Gl X "enumerate")(B:X.mg "enumerate"=none)(r:Qv "enumerate"=some (.type "enumerate"))(C:PA X [a] w)(hs:Ql [a] X.env=[(false,QA a X.env)]:=by rfl):PI X (.Tuple g y i) (.Call (.Name "enumerate" p) [a] [] j) (B7 X.K w):=by
 intro m s D H R I h;refine Call_ (ip I A B r (Qx (aM (C j m s D H _ I h) λ us c v=>?_) hs rfl));obtain⟨vs,E,o,G,J⟩:=v;obtain⟨l,e,⟨T,K⟩,q⟩:=J;subst e;obtain⟨u,rfl,L⟩:=G.one;cases L;obtain⟨M,U,N,Y⟩:=o.list K;refine call_enumerate_list N.isList λ Z x O P Q=>wpAny_pyIter_enum x ?_;refine⟨c.heap.objs.size+1,[c.heap.objs.size+1,c.heap.objs.size],_,_,E,rfl,o.kept (t':=c.toks) Q,Mo l _ _ (lV _),⟨⟨_,x⟩,O⟩,λ b r=>?_,q⟩;have n:c.heap.objs.size<=b:=by
  rcases bH.mp r with z|z
  ·rw[z];exact ie _
  ·have S:b=c.heap.objs.size:=by simpa using z
   rw[S];exact aS _
 exact o.fpOk n (o.hok.fresh n)
end
end L2
namespace L2
open PySem PySem.Spec PyProof.Rows
theorem Fw(ys:List Bool):(bU ys.length).all (λ i=>ys.getD i false)=ys.all id:=by
 rw[nK,r_,r_];constructor
 ·intro h y g;obtain⟨i,c,e⟩:=List.getElem_of_mem g;have:=h i (eV.mpr c);rw[c6,aV c]at this;rw[<-e];exact this
 ·intro h i c;have b:=eV.mp c;rw[c6,aV b];exact h _ (gQ b)
theorem Jz{X:Cx}(D:X.calm=true):il X (.builtin "all") (λ xs H Q=>∃(p:V0)(ys:List Bool),xs=[.ref p]/\ai X.K H p (ys.map V.bl)/\Q (.bl (ys.all id)) H):=by
 intro w s O H xs us Q I r h;obtain⟨p,ys,rfl,E,q⟩:=h;obtain⟨u,rfl,G⟩:=r.one;cases G;obtain⟨c,y,m,P⟩:=I.list E;obtain⟨o,J,ω,ω,ω⟩:=id m.isList;have n:p≠s.heap.objs.size:=bY (Qi J);have hl:=y.length;rw[aA]at hl;refine call_all_walk (RN m.isList ?_);refine⟨s.heap.objs.size,_,_,_,_,_,λ i=>ys.getD i false,rfl,Walks.list (A:=X.A.in1) (show X.A.in1.handled=none from I.ok.hd D) _ p n c.toArray,⟨⟨_,Qo _ rfl,rfl,rfl⟩,m.isList.at λ o e=>Qg _ e⟩,λ i v R S T K g=>?_,λ U Y L=>?_⟩
 ·have j:c[i]?=some v:=by simpa using K
  have B:i<ys.length:=by
   have:=(bG.mp j).1;lia
  obtain⟨Z,C,M⟩:=y.get (i:=i) (x:=V.bl ys[i]) (by rw[a_,aV B];rfl);rw[j]at C;cases C;cases(show _=SN ys[i]from M);refine Q5 ?_;dsimp only at g;rw[c6,aV B]at g;exact g
 ·have e:(bU c.toArray.size).all (λ i=>ys.getD i false)=ys.all id:=by
   rw[bF,<-hl];exact Fw ys
  refine⟨.bl (ys.all id),H,I.kept λ b o e=>L b o (λ z=>?_) (Qg _ e),by rw[e];rfl,q⟩;have N:b=s.heap.objs.size:=by simpa using z
  exact T7 (Qi e) (by rw[N];exact fu _)
end L2
end
section
namespace L2
open PySem PySem.Spec PyProof.Rows
theorem ak.plain{X:Cx}{N:List V2}{scope:Rf}(kind:scope.kind=.function)(nocell:∀y∈scope.names,y.2≠.cell)(names:∀y∈scope.names,y.2=.local->scope.names.lookup y.1=some .local)(b:∀y∈scope.names,y.2≠.free):ak X N (N.map λ ω=>none) scope []where
 kind:=kind
 nocell:=nocell
 names:=names
 clos:=closureFor_none b
 sub:=λ y c h=>by simp at h
 has:=λ y h=>T7 rfl (b _ (mZ h))
 len:=by simp
 seen:=λ i j y ω h=>by
  rw[a_]at h;cases q:N[i]? with
  |none=>rw[q]at h;cases h
  |some z=>rw[q]at h;cases h
variable{Q:VK}{H:Hp}
theorem Ls{J:It}{g:TG}{C:TT}{E:TE}{D:V0}{r:St}(ys:List V)(p:V->Bool)(f:V->V)(j:St->Prop)(n:V->St->Prop)(L:j r)(z:∀i l,i<ys.length->J.go i (ag H D (.lst l)))(o:∀l,J.stop ys.length (ag H D (.lst l)))(M:∀i l x H',i<ys.length->J.yld i (ag H D (.lst l)) x H'->H'=ag H D (.lst l)/\ys[i]?=some x)(N:∀x∈ys,∀c H' K,j c->(∀h,j h->n x h->K h H')->g x c H' K)(O:∀x∈ys,∀c l K,n x c->K (p x) (ag H D (.lst l))->C c (ag H D (.lst l)) K)(P:∀x∈ys,p x=true->∀c l K,n x c->K (f x) (ag H D (.lst l))->E c (ag H D (.lst l)) K)(hz:ys.length<=Qj)(R:Q (.ref D) (ag H D (.lst ((ys.filter p).map f)))):gr J g C E D Q r (ag H D (.lst [])):=by
 refine⟨λ i m c H'=>m=ys.length-i/\i<=ys.length/\j c/\H'=ag H D (.lst (((ys.take i).filter p).map f)),⟨ys.length,by simp,bJ _,L,by simp⟩,?_⟩;rintro i m c H' ⟨rfl,X,S,rfl⟩;by_cases q:i<ys.length
 ·refine .inr ⟨z i _ q,λ u y=>j u/\y=ag H D (.lst (((ys.take (i+1)).filter p).map f)),λ u y ⟨a,b⟩=>⟨ys.length-(i+1),qR,rfl,q,a,b⟩,λ x y T=>?_⟩;obtain⟨U,v⟩:=M i _ x y q T;subst U;have A:x∈ys:=bN v;have G:ys.take (i+1)=ys.take i++[x]:=by rw[List.take_add_one,v];rfl
  refine N x A c _ _ S λ h w I=>O x A h _ _ I ?_;cases B:p x with
  |true=>
   refine jo (P x A B h _ _ I ⟨_,aG,?_,w,?_⟩)
   ·rw[aA];have Y:=vJ p (ys.take i);have Z:(ys.take i).length=i:=by rw[cJ];lia
    lia
   ·rw[IV,G,vI,ew];simp[B]
  |false=>
   refine vS ⟨w,?_⟩;rw[G,vI,ew];simp[B]
 ·have e:i=ys.length:=by lia
  subst e;refine .inl ⟨o _,?_⟩;rw[r6];exact R
theorem ak.of{X:Cx}{N:List V2}{nl:List (Option Nat)}{scope:Rf}{cl:List (V2×V0)}(kind:scope.kind=.function)(nocell:∀y∈scope.names,y.2≠.cell)(names:∀y∈scope.names,y.2=.local->scope.names.lookup y.1=some .local)(clos:Tz scope X.env=pure cl)(sub:∀p∈cl,X.env.cells.lookup p.1=some p.2){nm:List V2}(g:cl.map (·.1)=nm)(has:∀y∈scope.names,y.2=.free->y.1∈nm)(len:nl.length=N.length)(seen:∀i<nl.length,∀j,nl[i]?=some (some j)->∃y,N[i]?=some y/\X.N[j]?=some y/\scope.names.lookup y=some .free/\(X.env.scope.names.lookup y=some .cell\/X.env.scope.names.lookup y=some .free)):ak X N nl scope cl where
 kind:=kind
 nocell:=nocell
 names:=names
 clos:=clos
 sub:=λ y c h=>sub (y,c) (QT h)
 has:=λ y h=>by
  have m:=has _ (mZ h) rfl;rw[<-g]at m;cases q:cl.lookup y with
  |some c=>exact⟨c,rfl⟩
  |none=>
   obtain⟨p,o,e⟩:=bE.mp m;have:=List.lookup_eq_none_iff.mp q p o;simp[e]at this
 len:=len
 seen:=λ i j y r n=>by
  obtain⟨z,a,b,c,d⟩:=seen i (bG.mp n).1 j n;rw[r]at a;cases a;exact⟨b,c,d⟩
variable{env:Env}
theorem ei{x:V2}{a:V0}(h:env.cells.lookup x=some a):∀p∈[(x,a)],env.cells.lookup p.1=some p.2:=λ p b=>by
 rcases bH.mp b with e|b
 ·subst e;exact h
 ·cases b
theorem iC{x y:V2}{a b:V0}(h:env.cells.lookup x=some a)(h':env.cells.lookup y=some b):∀p∈[(x,a),(y,b)],env.cells.lookup p.1=some p.2:=λ p c=>by
 rcases bH.mp c with e|c
 ·subst e;exact h
 ·exact ei h' p c
variable{c:St}
theorem xI{p:TE}{D:V0}{n:Nat}(q:Option V)(rest:St)(f:Nat->V)(r:c=q::rest)(u:∀i,i<n->∀l K,K (f i) (ag H D (.lst l))->p (some (.int i)::rest) (ag H D (.lst l)) K)(hz:n<=Qj)(w:Q (.ref D) (ag H D (.lst ((bU n).map f)))):gr (jd 0 n) (fg 0) fh p D Q c (ag H D (.lst [])):=by
 have y:∀i:Nat,(match(V.int (i:Int):V)with| .int x=>x.toNat|_=>0)=i:=λ i=>by simp
 refine Ls ((bU n).map λ i:Nat=>V.int i) (λ ω=>true) (λ v=>f (match v with | .int x=>x.toNat | _=>0)) (λ b=>∃ v,b=v::rest) (λ x b=>b=some x::rest) ⟨q,r⟩
  (λ i l h=>?_) (λ l=>?_) (λ i l x z j h=>?_) (λ x ω b z K m e=>?_) (λ x o b l K m e=>e) (λ x o A b l K m e=>?_) ?_ ?_
 ·rw[aA,eU]at h;exact h
 ·show n<=_;rw[aA,eU];exact aS _
 ·obtain⟨rfl,o⟩:=h;refine⟨rfl,?_⟩;rw[aA,eU]at j;rw[a_,jk j,o,pE];rfl
 ·obtain⟨v,rfl⟩:=m;exact e _ ⟨_,rfl⟩ rfl
 ·obtain⟨i,j,rfl⟩:=bE.mp o;rw[m];have:=u i (eV.mp j) l K;refine this ?_;have g:=e;simp only[gf]at g;exact g
 ·rw[aA,eU];exact hz
 ·rw[List.filter_eq_self.mpr λ ω ω=>rfl,dH];have:((λ v=>f (match v with| .int x=>x.toNat|_=>0))∘λ i:Nat=>V.int i)=f:=by
   funext i;simp
  rw[this];exact w
open PySem.SeqAt
structure GJ(k n:Nat)(d:PyData):Prop where
 lay:d.canLay0=true
 sho:d.showable=true
 j_:d.leavesShort 30=true
 dep:d.depth<=k
 wt:d.weight<=n
theorem oZ{x y z:V2}{a b c:V0}(h:env.cells.lookup x=some a)(h':env.cells.lookup y=some b)(g:env.cells.lookup z=some c):∀p∈[(x,a),(y,b),(z,c)],env.cells.lookup p.1=some p.2:=λ p i=>by
 rcases bH.mp i with e|i
 ·subst e;exact h
 ·exact iC h' g p i
theorem OG{i:Nat}{b:St}:oN i b H Q=(∃v,b[i]?=some (some v)/\Q v H):=rfl
theorem Nb{v:V}{b:St}:tC v b H Q=(Q v H):=rfl
theorem Nz{t:TE}{b:St}{Q:Bool->Hp->Prop}:tB t b H Q=(t b H λ x e=>∃c,x=.bl c/\Q c e):=rfl
theorem Ov{t u:TT}{b:St}{Q:Bool->Hp->Prop}:oX t u b H Q=(t b H λ c e=>if c=true then u b e Q else Q false e):=rfl
theorem NM{t u:TT}{b:St}{Q:Bool->Hp->Prop}:yZ t u b H Q=(t b H λ c e=>if c=true then Q true e else u b e Q):=rfl
theorem Nl{t:TT}{b:St}{Q:Bool->Hp->Prop}:oT t b H Q=(t b H λ c e=>Q (!c) e):=rfl
theorem Og{e tb:TE}{b:St}:Ca e tb b H Q=(e b H λ x g=>∃c,x=.bl c/\if c=true then tb b g Q else Q (.bl false) g):=rfl
theorem OI{e tb:TE}{b:St}:oR e tb b H Q=(e b H λ x g=>∃c,x=.bl c/\if c=true then Q (.bl true) g else tb b g Q):=rfl
theorem NO{t:TT}{e tb:TE}{b:St}:y4 t e tb b H Q=(t b H λ c g=>if c=true then e b g Q else tb b g Q):=rfl
theorem N4{D:bc}{b:St}:uY D b H=(D.nx b H):=rfl
theorem Nk{t u:TS}{D:bc}{b:St}:ar t u D b H=(t {D with nx:=u D} b H):=rfl
theorem N8{c:TE}{D:bc}{b:St}:Cz c D b H=(c b H λ ω e=>D.nx b e):=rfl
theorem Nr{b:TE}{D:bc}:oQ b D c H=(b c H D.rt):=rfl
theorem Oi{D:bc}{b:St}:BY D b H=(D.rt .non H):=rfl
theorem OD{c:TT}{t u:TS}{D:bc}{e:St}:jg c t u D e H=(c e H λ b g=>if b=true then t D e g else u D e g):=rfl
theorem PL{b:bc}{e:Hp}:CT b c e=(False):=rfl
theorem PH{i:Nat}{v:V}{b:St}{Q:St->Hp->Prop}:fg i v b H Q=(Q (b.set i (some v)) H):=rfl
variable{vs:List V}
theorem NU{b:St}{Q:St->Hp->Prop}:qe vs b H Q=(vs=[]/\Q b H):=rfl
theorem ON{t:TG}{u:gJ}{Q:St->Hp->Prop}:Cg t u vs c H Q=(∃v r,vs=v::r/\t v c H λ b H'=>u r b H' Q):=rfl
variable{K:X0}
theorem Nu{n:Nat}{t:gJ}{v:V}{b:St}{Q:St->Hp->Prop}:qc K n t v b H Q=(∃a xs,v=.ref a/\ao K H a xs/\xs.length=n/\t xs b H Q):=rfl
theorem Oy{to c:TE}{t:jx}{v:V}{b:St}{Q:St->Hp->Prop}:qd to c t v b H Q=(to b H λ o e=>c b e λ i g=>t o i v g λ h=>Q b h):=rfl
theorem Nt{c:TE}{g:TG}{D:bc}{b:St}:jR c g D b H=(c b H λ x e=>g x b e D.nx):=rfl
variable{R:It->Hp->Prop}
theorem N7{b:TE}:Ci K b c H R=(b c H λ x e=>∃a,x=.ref a/\(∃xs,ai K e a xs)/\R (je K a) e):=rfl
theorem OF{b:TE}:qa K b c H R=(b c H λ x e=>∃a,x=.ref a/\(∃xs,ao K e a xs)/\R (kP K a) e):=rfl
theorem N3{b:TA}:Cj b c H R=(b c H λ vs e=>∃j:Int,vs=[.int j]/\-(2^62)<=j/\j<2^62/\R (jd 0 j.toNat) e):=rfl
theorem Od{b:TA}:B4 b c H R=(b c H λ vs e=>∃i j:Int,vs=[.int i,.int j]/\(-(2^62)<=i/\i<2^62/\-(2^62)<=j/\j<2^62)/\R (jd i (j-i).toNat) e):=rfl
theorem NQ{r:R2}{c tb:TE}{b:St}:jf r c tb b H Q=(c b H λ x e=>tb b e λ y g=>r x y g Q):=rfl
theorem NI{r:V->Hp->VK->Prop}{b:TE}:vm r b c H Q=(b c H λ x e=>r x e Q):=rfl
variable{x:V}
theorem Ni{C:Int->Int->Prop}{g:Int->Int->V}{y:V}:rI C g x y H Q=(∃i j,x=.int i/\y=.int j/\C i j/\Q (g i j) H):=rfl
theorem NR{g:Int->Int->V}{y:V}:ny g x y H Q=(∃i j,x=.int i/\y=.int j/\Q (g i j) H):=rfl
theorem Nd{g:Int->V}:rU g x H Q=(∃i,x=.int i/\Q (g i) H):=rfl
theorem NH{y:V}:rO x y H Q=(cS x y=true/\Q (.bl (decide (x=y))) H):=rfl
theorem NJ{y:V}:y9 x y H Q=(cS x y=true/\Q (.bl (!decide (x=y))) H):=rfl
theorem Oq{t:TE}{b:St}{Q:Bool->Hp->Prop}:rB t b H Q=(t b H λ x H'=>∃k,x=.bl k/\Q k H'):=rfl
theorem OL{b:St}{Q:List V->Hp->Prop}:fM b H Q=(Q [] H):=rfl
theorem Oa{c:TE}{e:TA}{b:St}{Q:List V->Hp->Prop}:kj c e b H Q=(c b H λ x g=>e b g λ xs h=>Q (x::xs) h):=rfl
variable{E:XK}
theorem OP{sp:Sp}{b:List V}{t:TA}:rG sp b E t c H Q=(t c H λ vs e=>sp (vs++b) e Q E):=rfl
variable{C:V0}
theorem PD{m:V2}{sp:Sp}{b:List V}{e:TE}{t:TA}:rA C m sp b E e t c H Q=(e c H λ x g=>∃a h fs,x=.ref a/\g a=some (.ins C h fs)/\fs.lookup m=none/\t c g λ vs i=>sp (x::(vs++b)) i Q E):=rfl
theorem OO{sp:Sp}{b:List V}{t:TA}{g:St}:yz C sp b E t g H Q=(t g H λ vs e=>∀x c,e x=none->e c=none->c≠x->sp (.ref x::(vs++b)) (ag (ag e c (.own x)) x (.ins C c [])) (λ v h=>v=.non/\Q (.ref x) h) E):=rfl
theorem NS{r:List V->Hp->VK->Prop}{t:TA}{b:St}:rL r t b H Q=(t b H λ vs c=>r vs c Q):=rfl
theorem PX{b:St}{Q:Option Int->Hp->Prop}:Dg b H Q=(Q none H):=rfl
theorem Ol{t:TE}{b:St}{Q:Option Int->Hp->Prop}:B_ t b H Q=(t b H λ x c=>∃i,x=.int i/\Q (some i) c):=rfl
theorem NL{r:V->Option Int->Option Int->Hp->VK->Prop}{c:TE}{e g:TO}{b:St}:yY r c e g b H Q=(c b H λ x h=>e b h λ l i=>g b i λ u j=>r x l u j Q):=rfl
variable{lo hi:Option Int}
theorem Ow:o_ K x lo hi H Q=(∃a xs,x=.ref a/\ao K H a xs/\¬(HT.bf xs.length 0 lo=0/\HT.bf xs.length xs.length hi=xs.length)/\∀p,H p=none->Q (.ref p) (ag H p (.tup (bP xs lo hi)))):=rfl
theorem Oe{y:V}:Co K x y H Q=(∃a b xs ys,x=.ref a/\y=.ref b/\ao K H a xs/\ao K H b ys/\xs≠[]/\xs.length+ys.length<=Qj/\(ys=[]->Q (.ref a) H)/\(ys≠[]->∀p,H p=none->Q (.ref p) (ag H p (.tup (xs++ys))))):=rfl
theorem OK{y:V}:pk K x y H Q=(∃p xs i v,x=.ref p/\y=.int i/\ai K H p xs/\c7 xs i=some v/\Q v H):=rfl
theorem Nq{y:V}:ph K x y H Q=(∃p xs i v,x=.ref p/\y=.int i/\ao K H p xs/\c7 xs i=some v/\Q v H):=rfl
theorem OC{y:V}:pj x y H Q=(∃z i c,x=.str z/\y=.int i/\z.length<=Qj/\c7 z.cps.toList i=some c/\Q (.str ⟨#[c]⟩) H):=rfl
theorem Om{o:V}{i:V}{v:V}{Q:(Hp->Prop)}:Ce o i v H Q=(∃p xs k j,o=.ref p/\i=.int k/\H p=some (.lst xs)/\gi xs.length k=some j/\Q (ag H p (.lst (xs.set j v)))):=rfl
theorem NG{b:Bool}{y:V}:fH K b x y H Q=(∃p xs,y=.ref p/\(ai K H p xs\/ao K H p xs)/\i4 x=true/\xs.all i4=true/\Q (.bl (if b then !ij x xs else ij x xs)) H):=rfl
theorem Nn{T:String}{r:V->List V->Hp->VK->Prop}{to:TE}{b:St}:lO K T r to b H Q=(to b H λ x c=>nv K T x c/\r x [] c Q):=rfl
theorem NK{T:String}{r:V->List V->Hp->VK->Prop}{to:TE}{t:TA}{b:St}:y6 K T r to t b H Q=(to b H λ x c=>nv K T x c/\t b c λ xs e=>r x xs e Q):=rfl
theorem PY:De x vs H Q=(∃l xs y,x=.ref l/\vs=[y]/\H l=some (.lst xs)/\xs.length<Qj/\Q .non (ag H l (.lst (xs++[y])))):=rfl
theorem PZ:Dk x vs H Q=(∃l b xs c,x=.ref l/\vs=[.ref b]/\H l=some (.lst xs)/\H b=some (.lst c)/\xs.length+c.length<=Qj/\Q .non (ag H l (.lst (xs++c)))):=rfl
theorem NW:lQ x vs H Q=(∃l xs y,x=.ref l/\vs=[]/\H l=some (.lst xs)/\xs[xs.length-1]?=some y/\Q y (ag H l (.lst xs.dropLast))):=rfl
theorem P_:zB x vs H Q=(∃l xs,x=.ref l/\vs=[]/\H l=some (.lst xs)/\Q .non (ag H l (.lst xs.reverse))):=rfl
theorem Np{y:V}:pe x y H Q=(∃l k xs,x=.ref l/\y=.int k/\H l=some (.lst xs)/\-(2^63)<=k/\k<2^63/\xs.length*k.toNat<=Qj/\∀p,H p=none->Q (.ref p) (ag H p (.lst (c9 k.toNat xs).flatten))):=rfl
def oH(J:It)(g:TG)(tb:TS)(D:bc)(σ:St)(H:Hp):Prop:=∃W:Nat->Nat->St->Hp->Prop,(∃m,W 0 m σ H)/\∀i m σ H,W i m σ H->
 (J.stop i H/\D.nx σ H)\/(J.go i H/\∃N:St->Hp->Prop,(∀b c,N b c->∃h,h<m/\W (i+1) h b c)/\∀x c,J.yld i H x c->g x σ c λ e j=>tb {D with nx:=N,ct:=N,bk:=D.nx} e j)
theorem Ox{c:TI}{g:TG}{tb:TS}{D:bc}{b:St}:oW c g tb D b H=c b H λ J H1=>oH J g tb D b H1:=rfl
section
variable{κ:Type}[DecidableEq κ]
def bg(kvs:List (κ×V))(k:κ):Option V:=(kvs.find? λ b=>decide (b.1=k)).map (·.2)
def bV(kvs:List (κ×V))(k:κ)(v:V):List (κ×V):=
 if(kvs.any λ b=>decide (b.1=k))=true then kvs.map (λ b=>if b.1=k then(b.1,v)else b)else kvs++[(k,v)]
theorem i7{p:κ×V}{r:List (κ×V)}{k:κ}(e:p.1=k):bg (p::r) k=some p.2:=by simp[bg,nI,e]
theorem iL{p:κ×V}{r:List (κ×V)}{k:κ}(e:¬p.1=k):bg (p::r) k=bg r k:=by simp[bg,nI,e]
theorem qu(k:κ):∀kvs:List (κ×V),(kvs.any λ b=>decide (b.1=k))=(bg kvs k).isSome
 |[]=>rfl
 |p::r=>by
  rw[pI];by_cases e:p.1=k
  ·simp only[i7 e,T9 e,Bool.true_or,Option.isSome_some]
  ·rw[iL e,T8 e,Bool.false_or];exact qu k r
theorem zp(k j:κ)(y:V):∀kvs:List (κ×V),bg (kvs.map λ b=>if b.1=k then(b.1,y)else b) j=(bg kvs j).map λ x=>if j=k then y else x
 |[]=>rfl
 |p::r=>by
  have c:=zp k j y r;rw[eP];by_cases h:p.1=k
  ·rw[T6 h];by_cases e:p.1=j
   ·rw[i7 (p:=(p.1,y)) e,i7 e,pM,T6 (e.symm.trans h)]
   ·rw[iL (p:=(p.1,y)) e,iL e,c]
  ·rw[T5 h];by_cases e:p.1=j
   ·rw[i7 (p:=p) e,i7 e,pM,T5 (λ z=>h (e.trans z))]
   ·rw[iL (p:=p) e,iL e,c]
theorem Am(k j:κ)(y:V):∀kvs:List (κ×V),bg kvs k=none->bg (kvs++[(k,y)]) j=if j=k then some y else bg kvs j
 |[],_=>by
  by_cases e:k=j
  ·rw[T6 e.symm];exact i7 (p:=(k,y)) e
  ·rw[T5 (λ z=>e z.symm)];exact iL (p:=(k,y)) e
 |p::r,b=>by
  rw[List.cons_append];have c:¬p.1=k:=λ z=>by rw[i7 z]at b;cases b
  rw[iL c]at b;have g:=Am k j y r b;by_cases e:p.1=j
  ·rw[i7 e,i7 e,T5 (λ z=>c (e.trans z))]
  ·rw[iL e,iL e,g]
theorem xk(kvs:List (κ×V))(k j:κ)(y:V):bg (bV kvs k y) j=if j=k then some y else bg kvs j:=by
 unfold bV;by_cases a:(kvs.any λ b=>decide (b.1=k))=true
 ·rw[T6 a,zp];rw[qu]at a;by_cases e:j=k
  ·obtain⟨x,c⟩:=Option.isSome_iff_exists.mp a;rw[T6 e,e,c,pM,T6 rfl]
  ·rw[T5 e];cases bg kvs j with
   |none=>rfl
   |some x=>rw[pM,T5 e]
 ·rw[T5 a];refine Am k j y kvs ?_;rw[qu]at a;cases q:bg kvs k with
  |none=>rfl
  |some x=>rw[q]at a;exact(a rfl).elim
theorem x_(kvs:List (κ×V))(k:κ)(v:V):(bV kvs k v).length<=kvs.length+1:=by
 unfold bV;split
 ·rw[aA];lia
 ·rw[bB,dv,pD];lia
theorem Kq{kvs:List (κ×V)}{k:κ}(v:V)(h:bg kvs k=none):bV kvs k v=kvs++[(k,v)]:=by
 unfold bV;rw[qu,h];exact T5 qQ
theorem cy.isSome_eq{o:Option V}{u:Option V1}(r:cy o u):o.isSome=u.isSome:=by
 cases o with
 |none=>cases u with
  |none=>rfl
  |some _=>exact(show False from r).elim
 |some _=>cases u with
  |none=>exact(show False from r).elim
  |some _=>rfl
theorem cy.getD{o:Option V}{u:Option V1}{d:V}{d':V1}(r:cy o u)(rd:RelV d d'):RelV (o.getD d) (u.getD d'):=by
 cases o with
 |none=>cases u with
  |none=>exact rd
  |some _=>exact(show False from r).elim
 |some _=>cases u with
  |none=>exact(show False from r).elim
  |some _=>exact r
theorem KV.val{kvs:List (κ×V)}{vs:List (κ×V1)}(r:KV kvs vs)(k:κ):cy (bg kvs k) (TX vs k):=by
 unfold KV at r;induction r with
 |nil=>exact True.intro
 |@cons p q ps c h t m=>
  obtain⟨j,n⟩:=h;by_cases e:p.1=k
  ·have g:q.1=k:=j.symm.trans e;have b:TX (q::c) k=some q.2:=by simp[TX,nI,g]
   rw[i7 e,b];exact n
  ·have g:¬q.1=k:=λ z=>e (j.trans z);have b:TX (q::c) k=TX c k:=by simp[TX,nI,g]
   rw[iL e,b];exact m
theorem KV.any{kvs:List (κ×V)}{vs:List (κ×V1)}(r:KV kvs vs)(k:κ):(kvs.any λ b=>decide (b.1=k))=vs.any λ b=>decide (b.1=k):=by
 unfold KV at r;induction r with
 |nil=>rfl
 |cons h t c=>rw[pI,pI,c,h.1]
theorem KV.repl{kvs:List (κ×V)}{vs:List (κ×V1)}(r:KV kvs vs)(k:κ){y:V}{u:V1}(g:RelV y u):KV (kvs.map λ b=>if b.1=k then(b.1,y)else b) (vs.map λ b=>if b.1=k then(b.1,u)else b):=by
 unfold KV at r ⊢;induction r with
 |nil=>exact .nil
 |@cons p q ps n h t j=>
  rw[eP,eP];refine .cons ?_ j;obtain⟨c,m⟩:=h;by_cases e:p.1=k
  ·rw[T6 e,T6 (c.symm.trans e)];exact⟨c,g⟩
  ·rw[T5 e,T5 (λ z=>e (c.trans z))];exact⟨c,m⟩
theorem KV.put{kvs:List (κ×V)}{vs:List (κ×V1)}(r:KV kvs vs)(k:κ){y:V}{u:V1}(b:RelV y u):KV (bV kvs k y) (stored vs k u):=by
 unfold bV stored;rw[r.any k];by_cases e:(vs.any λ c=>decide (c.1=k))=true
 ·rw[T6 e,T6 e];exact r.repl k b
 ·rw[T5 e,T5 e];exact Paired.snoc r ⟨rfl,b⟩
theorem KV.length{kvs:List (κ×V)}{vs:List (κ×V1)}(r:KV kvs vs):kvs.length=vs.length:=Tc r
end
variable{P:Program}
theorem oG{w:Y3}{k:bD}{u:V1}(r:RelV (kV k) u):(fE P w).is k u=true:=by
 cases k with
 |inl i=>obtain⟨t,e⟩:=(show ∃t,u=Rj i t from r);subst e;exact E_ P w i t
 |inr x=>obtain⟨t,e⟩:=(show ∃t,u=Th x t from r);subst e;exact Fb P w x t
theorem Ax{w:Y3}:∀{ks:List bD}{us:List V1},ax (ks.map kV) us->ItemsAre (fE P w) ks us
 |[],_,r=>by rw[pH]at r;cases r;exact .nil
 |k::ks,_,r=>by
  rw[eP]at r;cases r with
  |cons h t=>exact .cons (oG h) (Ax t)
abbrev KT(H:Hp):List (List bD×V)->List (List bD×V0×V1)->Prop:=Paired λ p q=>p.1=q.1/\H q.2.1=some (.tup (p.1.map kV))/\RelV p.2 q.2.2
variable{kvs:List (List bD×V)}
theorem KT.val{xs:List (List bD×V0×V1)}(r:KT H kvs xs)(k:List bD):cy (bg kvs k) ((atKey xs k).map (·.2)):=by
 induction r with
 |nil=>exact True.intro
 |@cons p q ps c h t m=>
  obtain⟨j,ω,n⟩:=h;by_cases e:p.1=k
  ·have g:q.1=k:=j.symm.trans e;have b:atKey (q::c) k=some q.2:=by simp[atKey,nI,g]
   rw[i7 e,b];exact n
  ·have g:¬q.1=k:=λ z=>e (j.trans z);have b:atKey (q::c) k=atKey c k:=by simp[atKey,nI,g]
   rw[iL e,b];exact m
theorem KT.repl{xs:List (List bD×V0×V1)}(r:KT H kvs xs)(k:List bD){y:V}{u:V1}(j:RelV y u):KT H (kvs.map λ c=>if c.1=k then(c.1,y)else c) (xs.map (putAt k u)):=by
 induction r with
 |nil=>exact .nil
 |@cons p q ps x h t m=>
  rw[eP,eP];refine .cons ?_ m;obtain⟨b,g,n⟩:=h;unfold putAt;by_cases e:p.1=k
  ·rw[T6 e,T6 (b.symm.trans e)];exact⟨b,g,j⟩
  ·rw[T5 e,T5 (λ z=>e (b.trans z))];exact⟨b,g,n⟩
theorem KT.put{xs:List (List bD×V0×V1)}(r:KT H kvs xs)(k:List bD){b:V0}{y:V}{u:V1}(g:H b=some (.tup (k.map kV)))(c:RelV y u):KT H (bV kvs k y) (storedH xs k b u):=by
 have e:(kvs.any λ j=>decide (j.1=k))=(atKey xs k).isSome:=by
  rw[qu,(r.val k).isSome_eq,Option.isSome_map]
 unfold bV storedH;rw[e];by_cases q:(atKey xs k).isSome=true
 ·rw[T6 q,T6 q];exact r.repl k c
 ·rw[T5 q,T5 q];exact Paired.snoc r ⟨rfl,g,c⟩
variable{H':Hp}
theorem KT.keeps{xs:List (List bD×V0×V1)}(r:KT H kvs xs)(c:∀b ys,H b=some (.tup ys)->H' b=some (.tup ys)):KT H' kvs xs:=
 Paired.mapP r λ ω ω z=>⟨z.1,c _ _ z.2.1,z.2.2⟩
section
variable{P:Program}{w:Y3}{H:Hp}{h:Z3}{a:V0}
theorem Cm{u:HO}(ok:cV P w H h)(e:Rd H a u):aQ P w H h a u:=e.ok ok
theorem rC{kvs:List (bD×V)}(ok:cV P w H h)(e:Rd H a (.dK kvs)):kvs.length<=Qj/\(a==Rp)=false/\∃vs,KV kvs vs/\h.DictOf (fE P w) a vs:=
 show aQ P w H h a (.dK kvs)from Cm ok e
theorem F0{kvs:List (bD×V)}(ok:cV P w H h)(e:H a=some (.dK kvs)):kvs.length<=Qj/\(a==Rp)=false/\∃vs,KV kvs vs/\h.DictOf (fE P w) a vs:=rC ok (.inl e)
theorem sA{ks:List bD}(ok:cV P w H h)(e:H a=some (.tup (ks.map kV))):(Tj (fE P w)).is h ks a:=by
 obtain⟨ω,b,r,o,c,g,n,j⟩:=(show aQ P w H h a (.tup (ks.map kV))from ok a _ e);exact⟨o,b.toArray,n,c,g,j,by simpa using Ax r⟩
theorem rD(ok:cV P w H h)(e:Rd H a (.dT kvs)):kvs.length<=Qj/\(a==Rp)=false/\∃xs,KT H kvs xs/\h.DictOfH (Tj (fE P w)) a xs:=by
 obtain⟨z,y,xs,r,o,g,j,n,B,C,D,G⟩:=(show aQ P w H h a (.dT kvs)from Cm ok e);refine⟨z,y,xs,r,o,g,j,n,B,C,D,λ x b=>?_,G⟩;have all:∀{l:List (List bD×V)}{m:List (List bD×V0×V1)},KT H l m->∀x∈m,(Tj (fE P w)).is h x.1 x.2.1:=by
  intro l m q;induction q with
  |nil=>intro x b;exact nomatch b
  |@cons p q ps J c t I=>
   intro x b;rcases bH.mp b with e|b
   ·subst e;exact sA ok (by rw[<-c.1];exact c.2.1)
   ·exact I x b
 exact all r x b
theorem FY(ok:cV P w H h)(e:H a=some (.dT kvs)):kvs.length<=Qj/\(a==Rp)=false/\∃xs,KT H kvs xs/\h.DictOfH (Tj (fE P w)) a xs:=rD ok (.inl e)
end
def cZ(H:Hp)(a:V0)(y:V)(r:Option V):Prop:=
 (∃kvs k,Rd H a (.dK kvs)/\y=kV k/\r=bg kvs k)\/∃kvs k b,Rd H a (.dT kvs)/\y=.ref b/\H b=some (.tup (k.map kV))/\r=bg kvs k
def gz(H:Hp)(a:V0)(y v:V)(H':Hp):Prop:=
 (∃kvs k,H a=some (.dK kvs)/\y=kV k/\kvs.length<Qj/\H'=ag H a (.dK (bV kvs k v)))\/
 ∃kvs k b,H a=some (.dT kvs)/\y=.ref b/\H b=some (.tup (k.map kV))/\kvs.length<Qj/\H'=ag H a (.dT (bV kvs k v))
theorem cZ.k{a:V0}{kvs:List (bD×V)}{k:bD}(e:H a=some (.dK kvs)):cZ H a (kV k) (bg kvs k):=.inl ⟨kvs,k,.inl e,rfl,rfl⟩
theorem gz.k{a:V0}{kvs:List (bD×V)}{k:bD}{v:V}(e:H a=some (.dK kvs))(hl:kvs.length<Qj):gz H a (kV k) v (ag H a (.dK (bV kvs k v))):=.inl ⟨kvs,k,e,rfl,hl,rfl⟩
section
variable{X:Cx}{aa:List (V0×Obj)}{σ:St}{H:Hp}{s:M1}{a:V0}{y v:V}{u r:V1}{o:Option V}{A:V3}{E:V1->M1->Prop}
theorem Inv.big(I:Inv X aa σ H s):Rp<s.heap.objs.size:=by
 have h:Qu<s.heap.objs.size:=(I.mod.glob.keeps I.bk).lt;exact pC qQ h
theorem Lh{Q:V1->M1->Prop}(G:A.units+1<TL)(I:Inv X aa σ H s)(g:cZ H a y (some v))(C:RelV y u)(h:∀m D,Inv X aa σ H D->RelV v m->Q m D):Qm s!"c" A (SI (.ref a) u) Q E s:=by
 rcases g with⟨kvs,k,e,n,l⟩|⟨kvs,k,b,e,n,J,l⟩
 ·subst n;obtain⟨z,hd,vs,c,q⟩:=rC I.hok e;obtain⟨m,x,j⟩:=cy.some_of (v:=v) (o:=TX vs k) (by rw[l];exact c.val k);exact wpAny_getItem_of (oG C) q.mapOf x (h m _ (I.tok _) j)
 ·subst n;cases(show u=Qq b from C);obtain⟨z,hd,K,c,q⟩:=rD I.hok e;obtain⟨m,x,j⟩:=cy.some_of (v:=v) (o:=(atKey K k).map (·.2)) (by rw[l];exact c.val k);obtain⟨p,L,B⟩:=c_.mp x;refine wpAny_getItem_heap (SR G) (sA I.hok J) q L ?_;rw[B];exact h m _ (I.tok _) j
theorem DU{h':Z3}{t':Nat}{c:HO}(I:Inv X aa σ H s)(g:ri (H a))(hs:Tu a s.heap h')(j:∃q,h'.get? a=some q)(new:aQ X.prog X.w (ag H a c) h' a c):Inv X aa σ (ag H a c) {s with heap:=h',toks:=t'}:=
 I.write (x:=a) (e:=a) g (.inl rfl) (λ b q m z=>(hs.2 b m).trans z) j new
theorem yJ{w:Y3}{h':Z3}{kvs:List (bD×V)}{vs:List (bD×V1)}(z:kvs.length<=Qj)(hd:(a==Rp)=false)(b:KV kvs vs)(dd:h'.DictOf (fE P w) a vs):aQ P w H' h' a (.dK kvs):=⟨z,hd,vs,b,dd⟩
theorem K7{Q:Unit->M1->Prop}(O:A.units+1<TL)(I:Inv X aa σ H s)(g:gz H a y v H')(G:RelV y u)(J:RelV v r)(h:∀K,Inv X aa σ H' K->Q () K):Qm s!"c" A (setItem (.ref a) u r) Q E s:=by
 rcases g with⟨kvs,k,e,p,l,x⟩|⟨kvs,k,b,e,p,L,l,x⟩
 ·subst p x;obtain⟨z,hd,vs,j,B⟩:=F0 I.hok e;have C:vs.length<=Qj:=by rw[<-j.length];exact z
  have hl:(bV kvs k v).length<=Qj:=by have:=x_ kvs k v;lia
  refine wpAny_setItem_pairs (hsz:=C) (oG G) B λ M m D=>h _ ?_;have R:∃q,M.get? a=some q:=let⟨q,_,_,n,_⟩:=m;⟨q,n⟩;exact DU I (by rw[e];exact True.intro) D R (yJ hl hd (j.put k J) m)
 ·subst p x;cases(show u=Qq b from G);obtain⟨z,hd,S,j,B⟩:=FY I.hok e;have C:S.length<=Qj:=by rw[<-Tc j];exact z
  have hl:(bV kvs k v).length<=Qj:=by have:=x_ kvs k v;lia
  refine wpAny_setItem_heap (hsz:=C) (SR O) (sA I.hok L) B λ M m D=>h _ ?_;obtain⟨q,T,U,n,Y,Z,h4,ω,h5⟩:=m;refine DU I (by rw[e];exact True.intro) D ⟨q,n⟩ ⟨hl,hd,_,(j.put k L J).keeps λ c ys N=>?_,q,T,U,n,Y,Z,h4,h5⟩;rw[aD (jt N e (λ z=>nomatch z))];exact N
end
def nc(i:Expr):Prop:=∀b c,subscripted i false b c=operate [b,c] (SI b c)
theorem IQ{prog:Program}{w:Y3}{A:V3}{E:V1->M1->Prop}{s:M1}{value b:Expr}{pos:Pos}{T id:String}{Q:V1->M1->Prop}(hl:So (.type T) "__getitem__"=pure (some (.builtin id)))(hs:nc b)(h:Qm s!"o" A (QA value env) (λ o g=>Qm s!"o" A (QA b env) (λ i s₂=>s₂.TypeIs o T/\Qm s!"o" A (SI o i) Q E s₂) E g) E s):Qm s!"o" A (QA (.Subscript value b pos) env) Q E s:=by
 refine Subscript_ (QI h (λ o g m=>QI m (λ i s₂ c=>?_) λ ω ω x=>x) λ ω ω x=>x);obtain⟨p,c⟩:=c;unfold subscriptTail;refine Qf ?_;rw[getitemInPython_of_ne p.not_modules];refine Qf (wpAny_specialOf p hl ?_);have fin:Qm s!"o" A (subscripted b false o i) (λ r j=>Qm s!"o" A (letTemporaryGo value o r>>=λ ω=>pure r) Q E j) E s₂:=by
  rw[hs o i];exact wpAny_operating (QI c (λ r j n=>Qf (wpAny_letTemporaryGo (Qh n))) λ ω ω x=>x)
 first
  |exact Qh (Qf fin)
  |exact Qf (Qh (Qf fin))
  |exact Qf fin
variable{aa:List (V0×Obj)}
theorem Ff{X:Cx}{σ:St}{s:M1}{a:V0}{y:V}{o:Option V}(I:Inv X aa σ H s)(g:cZ H a y o):s.TypeIs (.ref a) "dict":=by
 rcases g with⟨kvs,k,e,_,_⟩|⟨kvs,k,b,e,_,_,_⟩
 ·obtain⟨ω,ω,vs,ω,c⟩:=rC I.hok e;exact c.typeIs
 ·obtain⟨ω,ω,j,ω,c⟩:=rD I.hok e;exact c.typeIs
def rE(td ty:TE):TE:=λ σ H Q=>td σ H λ x c=>ty σ c λ y b=>∃a v,x=.ref a/\cZ b a y (some v)/\Q v b
def Cb(td ty tv:TE):TS:=λ D σ H=>tv σ H λ v c=>td σ c λ x g=>ty σ g λ y j=>∃a b,x=.ref a/\gz j a y v b/\D.nx σ b
section
variable{X:Cx}{o i e value:Expr}{pos pos' tpos:Pos}{td ty tv:TE}
theorem Du(m:X.A.units+1<TL)(n:PE X o td)(hi:PE X i ty)(hs:nc i):PE X (.Subscript o i pos) (rE td ty):=by
 intro aa s σ H Q I h;refine IQ PySem.F.slot_dict_getitem.lookup hs (aM (n aa s σ H _ I h) λ u p ⟨x,q,z,B,C⟩=>aM (hi aa p σ q _ z C) λ L M b=>?_);obtain⟨y,D,j,G,a,v,ex,g,J⟩:=b;subst ex;obtain rfl:u=Qq a:=B;exact⟨Ff j g,Lh m j g G λ N O K c=>⟨v,D,K,c,J⟩⟩
theorem wB(c:X.A.units+1<TL)(j:PE X o td)(hi:PE X i ty)(m:PE X value tv)(hs:Sk value (some (.Subscript o i pos')) pos.line X.env=pure false):PS X (.Assign [.Subscript o i pos'] value pos) (Cb td ty tv):=by
 intro aa s σ H D I h;refine wpAny_Assign_Subscript (aM (m aa s σ H _ I h) λ r n ⟨v,p,q,z,B⟩=>aM (j aa n σ p _ q B) λ u C ⟨x,G,J,K,L⟩=>aM (hi aa C σ G _ J L) λ S T b=>?_) hs;obtain⟨y,U,M,N,a,O,ex,g,Q⟩:=b;subst ex;obtain rfl:u=Qq a:=K;exact K7 c M g N z λ Y R=>⟨σ,O,R,Q⟩
end
theorem Ko{w:Y3}(h:Z3)(b:Rp<h.objs.size):aQ P w H (h.push {cls:=.type "dict",data:=.dict #[]}) h.objs.size (.dK []):=
 ⟨bJ _,beq_eq_false_iff_ne.mpr (Ne.symm (bY b)),[],.nil,Heap.DictOf.new h⟩
def C8:TE:=λ ω H Q=>∀p,H p=none->Q (.ref p) (ag H p (.dK []))
section
variable{X:Cx}{pos:Pos}
theorem sT:PE X (.Dict [] [] pos) C8:=λ aa s σ H Q I h=>
 wpAny_Dict_empty ⟨.ref s.heap.objs.size,_,I.laid (a:=s.heap.objs.size) (o:=.dK []) (t':=s.toks) (λ ω ω q=>Qg _ q) (aS _) (Ko s.heap I.big),rfl,h _ (I.hok.fresh (aS _))⟩
end
structure M2(X:Cx)(o:Expr)(m:V2)(apos:Pos)(e f:Expr)(cpos:Pos):Prop where
 base:RM o m X.env (QA o X.env)=QA o X.env
 few:((QF cpos (Ql [e,f] X.env)).all (λ x=>!x.1)&&(RL cpos (QU [] X.env)).all (λ x=>x.1.isSome)&&decide (([e,f]:List Expr).length+([]:List Keyword).length+(if([]:List Keyword).isEmpty then 0 else 1)<30))=true
 line:(apos.endLine==cpos.line)=true
 trees:QF cpos (Ql [e,f] X.env)=[(false,QA e X.env),(false,QA f X.env)]
def yT(H:Hp)(a:V0):Prop:=(∃kvs,Rd H a (.dK kvs))\/∃kvs,Rd H a (.dT kvs)
theorem HN{X:Cx}{σ:St}{s:M1}{a:V0}(I:Inv X aa σ H s)(d:yT H a):s.TypeIs (.ref a) "dict"/\(∀b,Qq a=.ref b->∃c,s.heap.get? b=some c/\c.dict=none)/\(a==Rp)=false:=by
 rcases d with⟨kvs,e⟩|⟨kvs,e⟩
 ·obtain⟨ω,hd,vs,ω,g⟩:=rC I.hok e;refine⟨g.typeIs,λ b q=>?_,hd⟩;cases q;obtain⟨c,ω,ω,j,m,ω⟩:=g;exact⟨c,j,m.2.1⟩
 ·obtain⟨ω,hd,n,ω,g⟩:=rD I.hok e;refine⟨g.typeIs,λ b q=>?_,hd⟩;cases q;obtain⟨c,ω,ω,j,m,ω⟩:=g;exact⟨c,j,m.2.1⟩
section
variable{X:Cx}{aa:List (V0×Obj)}{σ:St}{H:Hp}{s:M1}{a:V0}{y d:V}{u r:V1}{o:Option V}{A:V3}{E:V1->M1->Prop}
theorem G6{Q:V1->M1->Prop}(x:A.units+1<TL)(I:Inv X aa σ H s)(g:cZ H a y o)(n:RelV y u)(rd:RelV d r)(h:∀p q,Inv X aa σ H q->RelV (o.getD d) p->Q p q):Qm s!"c" A (call (.builtin "dict.get") [.ref a,u,r]) Q E s:=by
 rcases g with⟨kvs,k,e,m,l⟩|⟨kvs,k,b,e,m,B,l⟩
 ·subst m;obtain⟨z,hd,vs,c,j⟩:=rC I.hok e;refine call_meetsIn vH j.typeIs PySem.F.entry_dict_get (PySem.F.args_dict_get_3 _ _ _) (meets_dict_get_default (fE X.prog X.w) a (oG n) hd r) ⟨_,j.mapOf,h _ _ (I.tok _) ?_⟩;rw[l];exact(c.val k).getD rd
 ·subst m;cases(show u=Qq b from n);obtain⟨z,hd,C,c,j⟩:=rD I.hok e;refine call_meetsIn vH j.typeIs PySem.F.entry_dict_get (PySem.F.args_dict_get_3 _ _ _) (meetsH_dict_get_default (Tj (fE X.prog X.w)) a b hd r) ⟨SR x,k,C,sA I.hok B,j,h _ _ (I.tok _) ?_⟩;rw[l];exact(c.val k).getD rd
end
def Dd(td ty tx:TE):TE:=λ σ H Q=>td σ H λ x b=>∃a,x=.ref a/\yT b a/\ty σ b λ y g=>tx σ g λ z c=>∃o,cZ c a y o/\Q (o.getD z) c
section
variable{X:Cx}{o e f:Expr}{apos cpos:Pos}{td ty tx:TE}
theorem Ef(n:X.A.units+1<TL)(p:PE X o td)(q:PE X e ty)(B:PE X f tx)(m:M2 X o "get" apos e f cpos):PE X (.Call (.Attribute o "get" apos) [e,f] [] cpos) (Dd td ty tx):=by
 intro aa s σ H Q I h;refine wpAny_Call_method m.base m.few m.line PySem.F.plainAttrs_dict vH PySem.F.type_dict_get (aM (p aa s σ H _ I h) λ u C b=>?_);obtain⟨x,D,j,G,a,ex,d,J⟩:=b;subst ex;obtain rfl:u=Qq a:=G;obtain⟨K,L,ω⟩:=HN j d;refine⟨K,L,?_⟩;rw[m.trees];refine RE rfl (Sw (Rh (aM (q aa C σ D _ j J) λ iv M ⟨y,N,O,R,S⟩=>Rh (aM (B aa M σ N _ O S) λ fv s3 ⟨z,T,U,Y,ov,g,Z⟩=>RO ?_))));exact G6 n U g R Y λ w' s4 I4 c=>⟨_,T,I4,c,Z⟩
end
theorem Oh{c ty:TE}{b:St}:rE c ty b H Q=(c b H λ x g=>ty b g λ y e=>∃a v,x=.ref a/\cZ e a y (some v)/\Q v e):=rfl
theorem Oo{c ty e:TE}{D:bc}{b:St}:Cb c ty e D b H=(e b H λ v h=>c b h λ x i=>ty b i λ y j=>∃a g,x=.ref a/\gz j a y v g/\D.nx b g):=rfl
theorem P5{b:St}:C8 b H Q=(∀p,H p=none->Q (.ref p) (ag H p (.dK []))):=rfl
theorem PB{c ty e:TE}{b:St}:Dd c ty e b H Q=(c b H λ x g=>∃a,x=.ref a/\yT g a/\ty b g λ y i=>e b i λ z h=>∃o,cZ h a y o/\Q (o.getD z) h):=rfl
def ke:V->Option V1
 | .ty n=>some (.type n)
 | .ref a=>some (.ref a)
 |_=>none
theorem zJ{c:V}{cv u:V1}(h:ke c=some cv)(r:RelV c u):u=cv:=by
 cases c with
 |ty n=>cases h;exact r
 |ref a=>cases h;exact r
 |_=>cases h
def dX(K:X0):List V->Hp->VK->Prop:=λ g H Q=>∃x c e t b,g=[x,c]/\ke c=some e/\dD K H x t/\QN K t e=some b/\Q (.bl b) H
section
variable{X:Cx}
theorem sY:il X (.builtin "isinstance") (dX X.K):=by
 intro g s p H r us Q I i h;obtain⟨x,c,w,t,b,rfl,j,ty,e,q⟩:=h;obtain⟨u,v,rfl,m,n⟩:=i.two;rw[zJ j n];exact K8 I m ty e λ o=>⟨.bl b,H,I.tok o,rfl,q⟩
end
section
variable{K:X0}
theorem sX{t:V1}:QN K t t=some true:=by
 unfold QN;rw[T6 s!"n"]
theorem Fh:QN K (.type "int") (.type "bool")=some false:=by with_unfolding_all rfl
end
structure Fn(K:X0)(mg:V2->Option V1)(x:V2)(st:Qw):Prop where
 ex:∃f fd,iz K x x st f fd/\mg x=some (.ref f)
structure aO(P:Program)(w:Y3)(K:X0)(mg:V2->Option V1)(base:Z3)(k:Nat)(x:V2)(ps:List V2)(sp:Sp):Prop where
 ex:∃f fd,cj P w K mg base hZ k f fd ps sp/\Binds K fd ps []/\QR K (.ref f)=true/\mg x=some (.ref f)
structure yW(mg:V2->Option V1)(x:V2)(v:V):Prop where
 ex:∃u,mg x=some u/\RelV v u
section
variable{P:Program}{w:Y3}{K:X0}{mg:V2->Option V1}{base:Z3}
theorem cp{h:Z3}{x:V2}{st:Qw}{f:V0}{i:V1}{od m:Option V0}{b:Array (Option V1)}{kV g n cdv ct:V1}(X:K.In h)(G:h.Ns Qu mg)(a:Sq K Qu x=some (some (.ref f)))(l:K.lookup f=some ⟨i,od,.func (Rz x x (fS st) (eJ st) (aR st) .none kV g n m cdv ct),b⟩)(c:SQ K cdv x=true)(k:QR K (.ref f)=true):Fn K mg x st:=
 ⟨f,_,yG l c k,SJ X G a⟩
theorem HB{h:Z3}{x:V2}{a:V0}(X:K.In h)(G:h.Ns Qu mg)(e:Sq K Qu x=some (some (.ref a))):yW mg x (.ref a):=⟨_,SJ X G e,rfl⟩
theorem aO.of{x:V2}{st:Qw}{N ps:List V2}{k:Nat}{sp:Sp}(F:Fn K mg x st)(S:bj N ps (aR st))(g:∀(kV c h:V1)(i:Option V0)(cdv ct:V1)(us:List V1),us.length=ps.length->RY (Rz x x (fS st) (eJ st) (aR st) .none kV c h i cdv ct) ⟨us,[]⟩=pure (ps.zip us))(len:∀vs H Q E,sp vs H Q E->vs.length=ps.length)(b:∀(f:V0)(cdv:V1)(A:V3)(outer:List Env)(s:M1)(H:Hp)(vs:List V)(Q:VK)(E:XK),aP k (A.deeper (Sn x (aR st) s.heap.objs.size f cdv))->sp vs H Q E->∃t,fb (dC hZ P w K mg base N x (aR st) f cdv A outer s H E).nox (eJ st) t/\t {nx:=λ ω H'=>Q .non H',rt:=Q} (iK N vs) H):aO P w K mg base (k+1) x ps sp:=by
 obtain⟨f,n,F,m⟩:=F.ex;exact⟨f,n,F.ok S len λ cdv=>b f cdv,F.binds g,F.kp,m⟩
end
section
variable{X:Cx}{x:V2}{ps:List V2}{sp:Sp}{k j:Nat}{e:Expr}{es:List Expr}{t:TA}{p pos:Pos}{v:V}
theorem bq(h:aO X.prog X.w X.K X.mg X.base k x ps sp)(hr:aP j X.A)(i:k<=j)(n:Gl X x)(o:PA X (e::es) t)(c:s!"p"=false:=by decide)(q:Ql (e::es) X.env=(false,QA e X.env)::Ql es X.env:=by rfl)(g:(QF pos (Ql es X.env)).any (·.1)=false:=by rfl):PE X (.Call (.Name x p) (e::es) [] pos) (rG sp [] E0 t):=by
 obtain⟨f,r,F,b,kp,m⟩:=h.ex;exact D4 F (hr.mono i) n m kp b .nil uZ o c q g
theorem Hr(h:yW X.mg x v)(b:Gl X x)(hd:s!"p"=false:=by decide):PE X (.Name x pos) (tC v):=by
 obtain⟨u,m,r⟩:=h.ex;exact DM b m r hd
def FN(i j:Int):Prop:=j≠0/\-(2^64)<j/\j<2^64
theorem Kh:dP X (Rt .FloorDiv) (rI FN λ i j=>.int (i.fdiv j)):=si λ i j ω ω ω ω ω b q=>floordiv_int b.1 q (.inl (PyProof.noPylong_of_log2 (by
 have h:j.natAbs<2^64:=by have:=b.2;omega
 have:=(Nat.log2_lt (by have:=b.1;omega)).mpr h;omega)))
end
theorem bM{p:V0}(h:H p=none)(o:HO):af H (ag H p o):=λ b u q=>by rw[aD (bS q h)];exact q
theorem kA{a:V0}{g:TG}{tb:TS}{D:bc}{h:St}(xs:List V)(j:Nat->St->Hp->Prop)(n:j 0 h H)(hl:∀i h H,i<=xs.length->j i h H->ai K H a xs)(hs:∀i x h H,xs[i]?=some x->j i h H->g x h H λ m o=>tb {D with nx:=j (i+1),ct:=j (i+1),bk:=D.nx} m o)(hd:∀h H,j xs.length h H->D.nx h H):oH (je K a) g tb D h H:=
 KY j n hl hs hd
theorem mS{a:V0}{g:TG}{tb:TS}{D:bc}{h:St}(xs:List V)(j:Nat->St->Hp->Prop)(n:j 0 h H)(hl:∀i h H,i<=xs.length->j i h H->ao K H a xs)(hs:∀i x h H,xs[i]?=some x->j i h H->g x h H λ m o=>tb {D with nx:=j (i+1),ct:=j (i+1),bk:=D.nx} m o)(hd:∀h H,j xs.length h H->D.nx h H):oH (kP K a) g tb D h H:=
 HE j n hl hs hd
theorem qU{lo:Int}{n:Nat}{g:TG}{tb:TS}{D:bc}{h:St}(j:Nat->St->Hp->Prop)(o:j 0 h H)(hs:∀i h H,i<n->j i h H->g (.int (lo+i)) h H λ m p=>tb {D with nx:=j (i+1),ct:=j (i+1),bk:=D.nx} m p)(hd:∀h H,j n h H->D.nx h H):oH (jd lo n) g tb D h H:=
 LA j o hs hd
variable{xs:List V}
theorem ai.same{a:V0}(h:ai K H a xs)(s:af H H'):ai K H' a xs:=s.seq h
theorem ao.same{a:V0}(h:ao K H a xs)(e:af H H'):ao K H' a xs:=by
 rcases h with(h|⟨o,h⟩)|h
 ·exact .inl (.inl (e _ _ h))
 ·exact .inl (.inr ⟨o,e _ _ h⟩)
 ·exact .inr h
section
variable{K:X0}{H:Hp}{Q:VK}{i:Int}{b:Bool}{x:V2}
theorem qt{v:V}{n:String}{t:V1}{k:Bool}(m:∀t',dD K H v t'->t'=t)(o:dD K H v t)(g:QN K t (.type n)=some k):dX K [v,.ty n] H Q=Q (.bl k) H:=by
 refine propext ⟨λ h=>?_,λ h=>⟨_,_,_,_,_,rfl,rfl,o,g,h⟩⟩;obtain⟨x,c,r,t',u,e,p,ty,j,q⟩:=h;cases e;cases p;rw[m _ ty,g]at j;cases j;exact q
theorem Qb:dX K [.int i,.ty "int"] H Q=Q (.bl true) H:=qt (λ ω h=>by cases h;rfl) (.int i) sX
theorem Qc:dX K [.int i,.ty "bool"] H Q=Q (.bl false) H:=qt (λ ω h=>by cases h;rfl) (.int i) Fh
theorem Fi:QN K (.type "bool") (.type "int")=some true:=by with_unfolding_all rfl
theorem PU:dX K [.bl b,.ty "int"] H Q=Q (.bl true) H:=qt (λ ω h=>by cases h;rfl) (.bl b) Fi
theorem P7:dX K [.bl b,.ty "bool"] H Q=Q (.bl true) H:=qt (λ ω h=>by cases h;rfl) (.bl b) sX
theorem P6:dX K [.str x,.ty "str"] H Q=Q (.bl true) H:=qt (λ ω h=>by cases h;rfl) (.str x) sX
theorem Dx{a:V0}(h:H a=some (.lst xs))(q:Q (.bl true) H):dX K [.ref a,.ty "list"] H Q:=⟨_,_,_,_,_,rfl,rfl,.lst h,sX,q⟩
end
theorem cL{g:Type}{x:g}{xs:List g}:c7 (x::xs) 0=some x:=by simp[c7,gi]
theorem eB{g:Type}{x y:g}{xs:List g}:c7 (x::y::xs) 1=some y:=by
 have:((1:Int)<(xs.length:Int)+1+1):=by lia
 simp[c7,gi,this]
theorem NT{CX:iA}{w:Y3}{mg:V2->Option V1}{base:Z3}{N:List V2}{qual:V2}{scope:Rf}{f:V0}{g:V1}{A:V3}{outer:List Env}{s:M1}:(dC CX P w K mg base N qual scope f g A outer s H E).K=K:=rfl
theorem yM:Qv "len"=some (.builtin "len"):=by decide+kernel
theorem HP:Qv "max"=some (.builtin "max"):=by decide+kernel
theorem CA:Qv "sum"=some (.builtin "sum"):=by decide+kernel
theorem He:Qv "all"=some (.builtin "all"):=by decide+kernel
theorem jM:Qv "isinstance"=some (.builtin "isinstance"):=by decide+kernel
theorem CU:Qv "int"=some (.type "int"):=by decide+kernel
theorem yD:Qv "str"=some (.type "str"):=by decide+kernel
theorem mL:Qv "list"=some (.type "list"):=by decide+kernel
theorem gH:Qv "tuple"=some (.type "tuple"):=by decide+kernel
theorem wO:Qv "dict"=some (.type "dict"):=by decide+kernel
theorem Fc:Qv "reversed"=some (.type "reversed"):=by decide+kernel
theorem E7:Qv "enumerate"=some (.type "enumerate"):=by decide+kernel
section
variable{a c:Int}{b e:Bool}{x y:V2}
theorem Nc:cS (.non) (.non)=true:=rfl
theorem Nj:cS (.non) (.int a)=true:=rfl
theorem NF:cS (.int a) (.non)=true:=rfl
theorem ND:cS (.non) (.bl b)=true:=rfl
theorem Nh:cS (.bl b) (.non)=true:=rfl
theorem M8:cS (.non) (.str x)=true:=rfl
theorem NC:cS (.str x) (.non)=true:=rfl
theorem Ng:cS (.int a) (.int c)=true:=rfl
theorem Nf:cS (.bl b) (.bl e)=true:=rfl
theorem NB:cS (.str x) (.str y)=true:=rfl
theorem Na:cS (.int a) (.str x)=true:=rfl
theorem M9:cS (.str x) (.int a)=true:=rfl
theorem M_:cS (.bl b) (.str x)=true:=rfl
theorem NA:cS (.str x) (.bl b)=true:=rfl
end
def i5(H H':Hp):Prop:=∀b o,(∀c,o≠.lst c)->H b=some o->H' b=some o
theorem qy{I:TE}{D:V0}{n:Nat}{y:St}(J:Option V)(rest:St)(R:Nat->V->Hp->Prop)(mono:∀j v r g,R j v r->i5 r g->R j v g)(S:y=J::rest)(K:H D=none)(hz:n<=Qj)(T:∀i,i<n->∀r (L:VK),af H r->(∀v g,af r g->R i v g->L v g)->I (some (.int i)::rest) r L)(U:∀vs H',af H H'->H' D=some (.lst vs)->vs.length=n->(∀j v,vs[j]?=some v->R j v H')->Q (.ref D) H'):gr (jd 0 n) (fg 0) fh I D Q y (ag H D (.lst [])):=by
 refine⟨λ i m A H'=>m=n-i/\i<=n/\(∃v,A=v::rest)/\af H H'/\∃vs,H' D=some (.lst vs)/\vs.length=i/\∀j v,vs[j]?=some v->R j v H',⟨n,by simp,bJ _,⟨J,S⟩,bM K _,[],aG,rfl,λ j v h=>by simp at h⟩,?_⟩;rintro i m A H' ⟨rfl,hi,⟨v,rfl⟩,C,vs,M,hl,hr⟩;by_cases q:i<n
 ·refine .inr ⟨q,λ B g=>(∃v,B=v::rest)/\af H g/\∃vs,g D=some (.lst vs)/\vs.length=i+1/\∀j v,vs[j]?=some v->R j v g,λ B g ⟨a,b,c⟩=>⟨n-(i+1),qR,rfl,q,a,b,c⟩,λ x g X=>?_⟩;obtain⟨Y,Z⟩:=X;subst Y Z;unfold fg fh;rw[nG,pE];refine jo (T i q g _ C λ v N E hR=>?_);have O:=E _ _ M;have P:i5 N (ag N D (.lst (vs++[v]))):=λ b o ho p=>by
   rw[aD (λ z=>by rw[z,O]at p;cases p;exact ho _ rfl)];exact p
  refine⟨vs,O,qR,⟨_,rfl⟩,λ b o p=>?_,_,aG,by rw[bB,hl];rfl,λ j u w=>?_⟩
  ·rw[aD (bS p K)];exact E _ _ (C _ _ p)
  ·by_cases G:j<vs.length
   ·rw[jE G]at w;exact mono j u _ _ (mono j u _ _ (hr j u w) λ b o ω p=>E b o p) P
   ·rw[jF qR]at w;have ej:j-vs.length=0:=by
     have:=(bG.mp w).1;simp at this;lia
    rw[ej]at w;cases w;have:j=i:=by lia
    subst this;exact mono _ _ _ _ hR P
 ·have e:i=n:=by lia
  subst e;exact .inl ⟨aS _,U vs H' C M hl hr⟩
variable{ys:List V}
theorem Bs{J:It}{I:TE}{D:V0}{w:St}(K:Option V)(rest:St)(R:Nat->V->Hp->Prop)(mono:∀j v n g,R j v n->i5 n g->R j v g)(T:w=K::rest)(L:H D=none)(hz:ys.length<=Qj)(U:∀i n,af H n->i<ys.length->J.go i n)(X:∀i n x g,af H n->J.yld i n x g->g=n/\ys[i]?=some x)(Y:∀n,af H n->J.stop ys.length n)(Z:∀i y,ys[i]?=some y->∀n (M:VK),af H n->(∀v g,af n g->R i v g->M v g)->I (some y::rest) n M)(hQ:∀vs H',af H H'->H' D=some (.lst vs)->vs.length=ys.length->(∀j v,vs[j]?=some v->R j v H')->Q (.ref D) H'):gr J (fg 0) fh I D Q w (ag H D (.lst [])):=by
 refine⟨λ i m A H'=>m=ys.length-i/\i<=ys.length/\(∃v,A=v::rest)/\af H H'/\∃vs,H' D=some (.lst vs)/\vs.length=i/\∀j v,vs[j]?=some v->R j v H',⟨ys.length,by simp,bJ _,⟨K,T⟩,bM L _,[],aG,rfl,λ j v h=>by simp at h⟩,?_⟩;rintro i m A H' ⟨rfl,hi,⟨v,rfl⟩,q,vs,N,hl,hr⟩;by_cases B:i<ys.length
 ·refine .inr ⟨U i H' q B,λ C g=>(∃v,C=v::rest)/\af H g/\∃vs,g D=some (.lst vs)/\vs.length=i+1/\∀j v,vs[j]?=some v->R j v g,λ C g ⟨a,b,c⟩=>⟨ys.length-(i+1),qR,rfl,B,a,b,c⟩,λ x g hx=>?_⟩;obtain⟨e1,e2⟩:=X i H' x g q hx;subst e1;unfold fg fh;rw[nG];refine jo (Z i x e2 g _ q λ v O E hR=>?_);have P:=E _ _ N;have S:i5 O (ag O D (.lst (vs++[v]))):=λ b o ho p=>by
   rw[aD (λ z=>by rw[z,P]at p;cases p;exact ho _ rfl)];exact p
  refine⟨vs,P,qR,⟨_,rfl⟩,λ b o p=>?_,_,aG,by rw[bB,hl];rfl,λ j u r=>?_⟩
  ·rw[aD (bS p L)];exact E _ _ (q _ _ p)
  ·by_cases G:j<vs.length
   ·rw[jE G]at r;exact mono j u _ _ (mono j u _ _ (hr j u r) λ b o ω p=>E b o p) S
   ·rw[jF qR]at r;have ej:j-vs.length=0:=by
     have:=(bG.mp r).1;simp at this;lia
    rw[ej]at r;cases r;have:j=i:=by lia
    subst this;exact mono _ _ _ _ hR S
 ·have e:i=ys.length:=by lia
  subst e;exact .inl ⟨Y _ q,hQ vs H' q N hl hr⟩
theorem iy{a:V0}{m:TE}{D:V0}{e:St}(n:Option V)(rest:St)(R:Nat->V->Hp->Prop)(mono:∀j v b c,R j v b->i5 b c->R j v c)(p:e=n::rest)(q:H D=none)(hz:ys.length<=Qj)(g:∀b,af H b->ao K b a ys)(r:∀i y,ys[i]?=some y->∀b (o:VK),af H b->(∀v c,af b c->R i v c->o v c)->m (some y::rest) b o)(u:∀vs H',af H H'->H' D=some (.lst vs)->vs.length=ys.length->(∀j v,vs[j]?=some v->R j v H')->Q (.ref D) H'):gr (kP K a) (fg 0) fh m D Q e (ag H D (.lst [])):=
 Bs n rest R mono p q hz (λ i b s h=>⟨ys,ys[i],g b s,aV h⟩) (λ i b x c s h=>⟨h.1,h.2 ys (g b s)⟩) (λ b s=>⟨ys,g b s,aS _⟩) r u
theorem mX{a:V0}{m:TE}{D:V0}{e:St}(n:Option V)(rest:St)(R:Nat->V->Hp->Prop)(mono:∀j v b c,R j v b->i5 b c->R j v c)(p:e=n::rest)(q:H D=none)(hz:ys.length<=Qj)(g:∀b,af H b->ai K b a ys)(r:∀i y,ys[i]?=some y->∀b (o:VK),af H b->(∀v c,af b c->R i v c->o v c)->m (some y::rest) b o)(u:∀vs H',af H H'->H' D=some (.lst vs)->vs.length=ys.length->(∀j v,vs[j]?=some v->R j v H')->Q (.ref D) H'):gr (je K a) (fg 0) fh m D Q e (ag H D (.lst [])):=
 Bs n rest R mono p q hz (λ i b s h=>⟨ys,ys[i],g b s,aV h⟩) (λ i b x c s h=>⟨h.1,h.2 ys (g b s)⟩) (λ b s=>⟨ys,g b s,aS _⟩) r u
def vi(K:X0):Prop:=True
def Ob(H:Hp)(a:V0)(o:HO):Prop:=H a=some o
section
variable{K:X0}{H H' H1 H2:Hp}{a b p:V0}{o u:HO}{xs ys:List V}
theorem FJ:Ob H a o=(H a=some o):=rfl
grind_pattern FJ=>Ob H a o
theorem Ob.new:Ob (ag H p o) p o:=aG
grind_pattern Ob.new=>ag H p o
theorem Ob.same(h:Ob H a o)(s:af H H'):Ob H' a o:=s _ _ h
grind_pattern Ob.same=>Ob H a o,af H H'
theorem vV(h:H p=none):af H (ag H p o):=bM h o
grind_pattern vV=>ag H p o
theorem vW(h:af H H1)(h':af H1 H2):af H H2:=h.trans h'
grind_pattern vW=>af H H1,af H1 H2
theorem vX(h:ao K H a xs)(s:af H H'):ao K H' a xs:=h.same s
grind_pattern vX=>ao K H a xs,af H H'
theorem vY(h:ai K H a xs)(s:af H H'):ai K H' a xs:=h.same s
grind_pattern vY=>ai K H a xs,af H H'
theorem vZ(k:vi K)(h:Ob H a (.tup xs)):ao K H a xs:=ao.of h
grind_pattern vZ=>vi K,Ob H a (.tup xs)
theorem v7(k:vi K)(h:Ob H a (.lst xs)):ai K H a xs:=ai.of h
grind_pattern v7=>vi K,Ob H a (.lst xs)
end
section
variable{α:Type}{x y z u v:α}{xs:List α}
theorem pW:c7 (x::y::z::xs) 2=some z:=by
 have:((2:Int)<(xs.length:Int)+1+1+1):=by lia
 simp[c7,gi,this]
theorem nQ:c7 (x::y::z::u::xs) 3=some u:=by
 have:((3:Int)<(xs.length:Int)+1+1+1+1):=by lia
 simp[c7,gi,this]
end
structure mq(K:X0)(mg:V2->Option V1)(cn:V2)(C:V0):Prop where
 mgC:mg cn=some (.ref C)
 cl:gL K C
 mks:W.makesIn K C=true
 kp:QR K (.ref C)=true
structure fL(K:X0)(C:V0)(m qual:V2)(st:Qw):Prop where
 ex:∃f fd,iz K m qual st f fd/\iS K C m f
structure aT(P:Program)(w:Y3)(K:X0)(mg:V2->Option V1)(base:Z3)(k:Nat)(C:V0)(m:V2)(ps:List V2)(sp:Sp):Prop where
 ex:∃f fd,cj P w K mg base hZ k f fd ps sp/\Binds K fd ps []/\iS K C m f
section
variable{P:Program}{w:Y3}{K:X0}{mg:V2->Option V1}{base:Z3}
theorem qm{h:Z3}{b:V2}(X:K.In h)(G:h.Ns Qu mg)(a:Sq K Qu b=some (some (.ref C)))(c:Tv K C Sl=true)(hd:Ss K C=true)(g:W.plainOver K C=true)(i:QM K (.ref C) "__setattr__"=some (some (.builtin "object.__setattr__")))(mk:W.makesIn K C=true)(kp:QR K (.ref C)=true):mq K mg b C:=⟨SJ X G a,⟨c,hd,g,i⟩,mk,kp⟩
theorem gc{f:V2}(h:QM K (.ref C) f=some none):aK K C f:=h
theorem gb{m qual:V2}{st:Qw}{f:V0}{h:V1}{od n:Option V0}{b:Array (Option V1)}{kV g q cdv ct:V1}(a:QM K (.ref C) m=some (some (.ref f)))(i:TR K (.ref f)=true)(l:K.lookup f=some ⟨h,od,.func (Rz m qual (fS st) (eJ st) (aR st) .none kV g q n cdv ct),b⟩)(c:SQ K cdv qual=true)(k:QR K (.ref f)=true):fL K C m qual st:=
 ⟨f,_,yG l c k,⟨a,i,k⟩⟩
theorem aT.of{m qual:V2}{st:Qw}{N ps:List V2}{k:Nat}{sp:Sp}(F:fL K C m qual st)(S:bj N ps (aR st))(g:∀(kV c h:V1)(i:Option V0)(cdv ct:V1)(us:List V1),us.length=ps.length->RY (Rz m qual (fS st) (eJ st) (aR st) .none kV c h i cdv ct) ⟨us,[]⟩=pure (ps.zip us))(len:∀vs H Q E,sp vs H Q E->vs.length=ps.length)(b:∀(f:V0)(cdv:V1)(A:V3)(outer:List Env)(s:M1)(H:Hp)(vs:List V)(Q:VK)(E:XK),aP k (A.deeper (Sn qual (aR st) s.heap.objs.size f cdv))->sp vs H Q E->∃t,fb (dC hZ P w K mg base N qual (aR st) f cdv A outer s H E).nox (eJ st) t/\t {nx:=λ ω H'=>Q .non H',rt:=Q} (iK N vs) H):aT P w K mg base (k+1) C m ps sp:=by
 obtain⟨f,n,F,q⟩:=F.ex;exact⟨f,n,F.ok S len λ cdv=>b f cdv,F.binds g,q⟩
end
section
variable{X:Cx}{x m:V2}{ps:List V2}{sp:Sp}{k j:Nat}{C:V0}{o e:Expr}{es:List Expr}{ta:TE}{t:TA}{p pos apos:Pos}
theorem Iw{pl:Sem Bool}(q:PE X o ta)(c:gL X.K C)(h:aT X.prog X.w X.K X.mg X.base k C m ps sp)(hr:aP j X.A)(r:k<=j)(u:PA X (e::es) t)(g:Ql (e::es) X.env=(false,QA e X.env)::Ql es X.env:=by rfl)(i:(QF pos (Ql es X.env)).any (·.1)=false:=by rfl)(v:QA (.Call (.Attribute o m apos) (e::es) [] pos) X.env=(do
   let n<-QA o X.env
   Q4 apos.atName
   let(f,first)<-RB [n] (RS n m pl)
   Su pos f first (QF pos (Ql (e::es) X.env)) (RL pos (QU [] X.env))):=by rfl):PE X (.Call (.Attribute o m apos) (e::es) [] pos) (rA C m sp [] E0 ta t):=by
 obtain⟨f,z,F,b,y⟩:=h.ex;exact Il q c y F (hr.mono r) b .nil uZ u g i v
theorem Ku{pl:Sem Bool}(i:PE X o ta)(c:gL X.K C)(h:aT X.prog X.w X.K X.mg X.base k C m ps sp)(hr:aP j X.A)(n:k<=j)(q:QA (.Call (.Attribute o m apos) [] [] pos) X.env=(do
   let g<-QA o X.env
   Q4 apos.atName
   let(f,first)<-RB [g] (RS g m pl)
   Su pos f first (QF pos (Ql [] X.env)) (RL pos (QU [] X.env))):=by rfl):PE X (.Call (.Attribute o m apos) [] [] pos) (rA C m sp [] E0 ta fM):=by
 obtain⟨f,u,F,b,r⟩:=h.ex;exact KW i c r F (hr.mono n) b .nil uZ q
theorem qj(c:mq X.K X.mg x C)(h:aT X.prog X.w X.K X.mg X.base k C "__init__" ps sp)(hr:aP j X.A)(q:k+1<=j)(r:Gl X x)(u:PA X (e::es) t)(g:s!"p"=false:=by decide)(v:Ql (e::es) X.env=(false,QA e X.env)::Ql es X.env:=by rfl)(i:(QF pos (Ql es X.env)).any (·.1)=false:=by rfl):PE X (.Call (.Name x p) (e::es) [] pos) (yz C sp [] E0 t):=by
 obtain⟨f,y,F,b,n⟩:=h.ex;exact Hz ⟨c.mks,n.at_,n.fn,c.kp⟩ F (hr.mono q) r c.mgC b .nil uZ u g v i
end
def mono(t:TE):TE:=λ g H Q=>∃b:VK,t g H b/\∀v c,b v c->Q v c
section
variable{X:Cx}{o e value:Expr}{f:V2}{pos pos' tpos:Pos}{ta tv:TE}
theorem PE.mono{t:TE}(h:PE X e t):PE X e (mono t):=λ b s c H Q I ⟨g,n,i⟩=>aM (h b s c H g I n) λ u w ⟨x,p,v,r,q⟩=>⟨x,p,v,r,i _ _ q⟩
def gh(o:Option (Option V))(R:V->Prop):Prop:=match o with
 |some (some v)=>R v
 |_=>False
theorem PR{v:V}{R:V->Prop}:gh (some (some v)) R=R v:=rfl
def iJ(i:Nat):TE:=λ b H Q=>gh b[i]? λ v=>Q v H
theorem NZ{i:Nat}{b:St}:iJ i b H Q=gh b[i]? λ v=>Q v H:=rfl
theorem Io{o:Option (Option V)}{R:V->Prop}(h:gh o R):∃v,o=some (some v)/\R v:=by
 unfold gh at h;split at h
 ·exact⟨_,rfl,h⟩
 ·cases h
theorem Hw{i:Nat}{x:V2}(g:X.N[i]?=some x)(n:m5 X.env.scope x)(hd:s!"p"=false:=by decide)(c:(x==("__classdict__":V2))=false:=by decide):PE X (.Name x pos) (iJ i):=
 λ b s p H Q I h=>HW g n hd c b s p H Q I (Io h)
theorem ae(i:Nat){x:V2}(c:X.N[i]?=some x:=by rfl)(g:m5 X.env.scope x:=by first|exact Or.inl rfl|exact Or.inr (Or.inl rfl)|exact Or.inr (Or.inr rfl))(hd:s!"p"=false:=by decide)(b:(x==("__classdict__":V2))=false:=by decide):PE X (.Name x pos) (iJ i):=Hw c g hd b
inductive nr(K:X0)(f:V2)(a:V0)(H:Hp)(Q:VK):Prop
 |mk(C dx:V0)(fs:List (V2×V))(h:H a=some (.ins C dx fs))(cl:gL K C)(n:aK K C f)(v:V)(l:fs.lookup f=some v)(q:Q v H):nr K f a H Q
def mw(K:X0)(ta:TE)(f:V2):TE:=λ b H Q=>ta b H λ x c=>∃a,x=.ref a/\nr K f a c Q
theorem N5{b:St}:mw K ta f b H Q=ta b H λ x c=>∃a,x=.ref a/\nr K f a c Q:=rfl
theorem jI(i:PE X e ta)(p:RM e f X.env (QA e X.env)=QA e X.env):PE X (.Attribute e f pos) (mw X.K ta f):=by
 intro b s r H Q I h;refine DW p (aM (i b s r H _ I h) λ u E g=>?_);obtain⟨x,w,y,z,a,ex,g⟩:=g;obtain⟨C,G,fs,A,c,n,v,l,q⟩:=g;subst ex;cases(show u=Qq a from z);exact Mj y A c n l λ J K B D=>⟨v,w,B,D,q⟩
inductive m6(K:X0)(f:V2)(a:V0)(H:Hp)(R:V0->V0->List (V2×V)->Prop):Prop
 |mk(C dx:V0)(fs:List (V2×V))(h:H a=some (.ins C dx fs))(cl:gL K C)(n:aK K C f)(l:fs.length<1000)(r:R C dx fs):m6 K f a H R
def B3(K:X0)(ta tv:TE)(f:V2):TS:=λ D b H=>tv b H λ y g=>ta b g λ x c=>∃a,x=.ref a/\m6 K f a c λ C h fs=>D.nx b (ag c a (.ins C h (aj f y fs)))
theorem NY{D:bc}{b:St}:B3 K ta tv f D b H=tv b H λ y g=>ta b g λ x c=>∃a,x=.ref a/\m6 K f a c λ C h fs=>D.nx b (ag c a (.ins C h (aj f y fs))):=rfl
theorem f9(p:PE X o ta)(r:PE X value tv)(hs:Sk value (some (.Attribute o f pos')) pos.line X.env=pure false):PS X (.Assign [.Attribute o f pos'] value pos) (B3 X.K ta tv f):=by
 intro b s g H D I h;refine Sg (aM (r b s g H _ I h) λ u v ⟨y,w,z,A,q⟩=>aM (p b v g w _ z q) λ B M i=>?_) hs;obtain⟨x,N,E,G,a,ex,i⟩:=i;obtain⟨C,O,fs,J,c,n,l,K⟩:=i;subst ex;cases(show B=Qq a from G);exact MD E J c n l A λ P L=>⟨g,_,L,K⟩
inductive yF(C:V0)(m:V2)(a:V0)(H:Hp)(R:Prop):Prop
 |mk(dx:V0)(fs:List (V2×V))(h:H a=some (.ins C dx fs))(l:fs.lookup m=none)(r:R):yF C m a H R
def yI(C:V0)(m:V2)(sp:Sp)(dvs:List V)(E:XK)(ta:TE)(t:TA):TE:=λ b H Q=>ta b H λ x c=>∃a,x=.ref a/\yF C m a c (t b c λ vs g=>sp (x::(vs++dvs)) g Q E)
theorem PM{C:V0}{m:V2}{sp:Sp}{b:List V}{t:TA}:yI C m sp b E ta t c H Q=ta c H λ x g=>∃a,x=.ref a/\yF C m a g (t c g λ vs h=>sp (x::(vs++b)) h Q E):=rfl
variable{C:V0}{m:V2}{ps:List V2}{sp:Sp}{k j:Nat}{es:List Expr}{t:TA}{apos:Pos}
theorem mU{pl:Sem Bool}(p:PE X o ta)(c:gL X.K C)(h:aT X.prog X.w X.K X.mg X.base k C m ps sp)(hr:aP j X.A)(q:k<=j)(u:PA X (e::es) t)(g:Ql (e::es) X.env=(false,QA e X.env)::Ql es X.env:=by rfl)(i:(QF pos (Ql es X.env)).any (·.1)=false:=by rfl)(v:QA (.Call (.Attribute o m apos) (e::es) [] pos) X.env=(do
   let n<-QA o X.env
   Q4 apos.atName
   let(f,first)<-RB [n] (RS n m pl)
   Su pos f first (QF pos (Ql (e::es) X.env)) (RL pos (QU [] X.env))):=by rfl):PE X (.Call (.Attribute o m apos) (e::es) [] pos) (yI C m sp [] E0 ta t):=
 λ b s w H Q I x=>Iw p.mono c h hr q u g i v b s w H Q I ⟨_,x,λ _ _ ⟨a,e,y,fs,h,l,r⟩=>⟨a,y,fs,e,h,l,r⟩⟩
theorem jK{pl:Sem Bool}(i:PE X o ta)(c:gL X.K C)(h:aT X.prog X.w X.K X.mg X.base k C m ps sp)(hr:aP j X.A)(n:k<=j)(p:QA (.Call (.Attribute o m apos) [] [] pos) X.env=(do
   let g<-QA o X.env
   Q4 apos.atName
   let(f,first)<-RB [g] (RS g m pl)
   Su pos f first (QF pos (Ql [] X.env)) (RL pos (QU [] X.env))):=by rfl):PE X (.Call (.Attribute o m apos) [] [] pos) (yI C m sp [] E0 ta fM):=
 λ b s q H Q I u=>Ku i.mono c h hr n p b s q H Q I ⟨_,u,λ _ _ ⟨a,e,v,fs,h,l,r⟩=>⟨a,v,fs,e,h,l,r⟩⟩
inductive yR(K:X0)(p:V0)(i:Int)(H:Hp)(Q:VK):Prop
 |mk(xs:List V)(h:ao K H p xs)(v:V)(l:c7 xs i=some v)(q:Q v H):yR K p i H Q
inductive yS(K:X0)(p:V0)(i:Int)(H:Hp)(Q:VK):Prop
 |mk(xs:List V)(h:ai K H p xs)(v:V)(l:c7 xs i=some v)(q:Q v H):yS K p i H Q
def oB(K:X0):R2:=λ x y H Q=>∃p,x=.ref p/\∃i,y=.int i/\yR K p i H Q
def uT(K:X0):R2:=λ x y H Q=>∃p,x=.ref p/\∃i,y=.int i/\yS K p i H Q
theorem Oc{y:V}:oB K x y H Q=∃p,x=.ref p/\∃i,y=.int i/\yR K p i H Q:=rfl
theorem Ot{y:V}:uT K x y H Q=∃p,x=.ref p/\∃i,y=.int i/\yS K p i H Q:=rfl
theorem Dv:kO X (oB X.K):=λ value b c s g H x y v u Q I n r ⟨p,w,i,A,B,h,z,l,q⟩ D=>Ht value b c s g H x y v u Q I n r ⟨p,B,i,z,w,A,h,l,q⟩ D
theorem Kd:kO X (uT X.K):=λ value b c s g H x y v u Q I n r ⟨p,w,i,A,B,h,z,l,q⟩ D=>Ii value b c s g H x y v u Q I n r ⟨p,B,i,z,w,A,h,l,q⟩ D
inductive kD(p:V0)(k:Int)(H:Hp)(R:List V->Nat->Prop):Prop
 |mk(xs:List V)(h:H p=some (.lst xs))(j:Nat)(l:gi xs.length k=some j)(r:R xs j):kD p k H R
def CH:jx:=λ o i v H Q=>∃p,o=.ref p/\∃k,i=.int k/\kD p k H λ b j=>Q (ag H p (.lst (b.set j v)))
theorem P4{o i v:V}{Q:Hp->Prop}:CH o i v H Q=∃p,o=.ref p/\∃k,i=.int k/\kD p k H λ xs j=>Q (ag H p (.lst (xs.set j v))):=rfl
theorem mR:m8 X CH:=λ b s c H o i v g n u Q I r w x ⟨p,y,k,z,A,h,j,l,q⟩=>Ks b s c H o i v g n u Q I r w x ⟨p,A,k,j,y,z,h,l,q⟩
inductive nj(vs:List V)(R:V->List V->Prop):Prop
 |mk(v:V)(r:List V)(e:vs=v::r)(q:R v r):nj vs R
inductive yr(K:X0)(a:V0)(n:Nat)(H:Hp)(R:List V->Prop):Prop
 |mk(xs:List V)(h:ao K H a xs)(l:xs.length=n)(q:R xs):yr K a n H R
def u7(K:X0)(n:Nat)(t:gJ):TG:=λ v b H Q=>∃a,v=.ref a/\yr K a n H λ c=>t c b H Q
theorem PC{n:Nat}{t:gJ}{v:V}{b:St}{Q:St->Hp->Prop}:u7 K n t v b H Q=∃a,v=.ref a/\yr K a n H λ xs=>t xs b H Q:=rfl
def C_(t:TG)(u:gJ):gJ:=λ vs c H Q=>nj vs λ v r=>t v c H λ b g=>u r b g Q
theorem Pw{t:TG}{u:gJ}{Q:St->Hp->Prop}:C_ t u vs c H Q=nj vs λ v r=>t v c H λ b H'=>u r b H' Q:=rfl
theorem dA{e:Expr}{es:List Expr}{t:TG}{u:gJ}(c:PG X e t)(h2:kG X es u)(hs:(RC (e::es) X.env).map (·.2)=Se e X.env::(RC es X.env).map (·.2):=by rfl):kG X (e::es) (C_ t u):=
 λ b s g H vs us Q I r ⟨v,w,e,q⟩=>J_ c h2 hs b s g H vs us Q I r ⟨v,w,e,q⟩
theorem i_{es:List Expr}{k:Nat}{t:gJ}{n:Nat}(g:X.calm=true)(h:kG X es t)(i:(RC es X.env).length=n:=by rfl)(c:(RC es X.env).findIdx? (·.1)=none:=by rfl):PG X (.Tuple es k pos) (u7 X.K n t):=
 λ b s p H v u Q I r ⟨a,e,w,x,l,q⟩=>HS g h i c b s p H v u Q I r ⟨a,w,e,x,l,q⟩
end
@[elab_as_elim] theorem el0 {α:Type} {motive:List α->Prop} (us:List α) (h:us.length=0) (k:motive []):motive us:=match us,h with|[],_=>k
@[elab_as_elim] theorem el1 {α:Type} {motive:List α->Prop} (us:List α) (h:us.length=1) (k:∀a:α,motive [a]):motive us:=match us,h with|[a],_=>k a
@[elab_as_elim] theorem el2 {α:Type} {motive:List α->Prop} (us:List α) (h:us.length=2) (k:∀a b:α,motive [a,b]):motive us:=match us,h with|[a,b],_=>k a b
@[elab_as_elim] theorem el3 {α:Type} {motive:List α->Prop} (us:List α) (h:us.length=3) (k:∀a b c:α,motive [a,b,c]):motive us:=match us,h with|[a,b,c],_=>k a b c
@[elab_as_elim] theorem el4 {α:Type} {motive:List α->Prop} (us:List α) (h:us.length=4) (k:∀a b c d:α,motive [a,b,c,d]):motive us:=match us,h with|[a,b,c,d],_=>k a b c d
@[elab_as_elim] theorem el5 {α:Type} {motive:List α->Prop} (us:List α) (h:us.length=5) (k:∀a b c d e:α,motive [a,b,c,d,e]):motive us:=match us,h with|[a,b,c,d,e],_=>k a b c d e
@[elab_as_elim] theorem el6 {α:Type} {motive:List α->Prop} (us:List α) (h:us.length=6) (k:∀a b c d e f:α,motive [a,b,c,d,e,f]):motive us:=match us,h with|[a,b,c,d,e,f],_=>k a b c d e f
@[elab_as_elim] theorem el7 {α:Type} {motive:List α->Prop} (us:List α) (h:us.length=7) (k:∀a b c d e f g:α,motive [a,b,c,d,e,f,g]):motive us:=match us,h with|[a,b,c,d,e,f,g],_=>k a b c d e f g
theorem seq2{b c:TS}{D:bc}{g:St}(h:∀i,i=c->b {D with nx:=i D} g H):(ar b c) D g H:=h _ rfl
theorem seq3{b c g:TS}{D:bc}{i:St}(h:∀n,n=g->∀p,p=ar c n->b {D with nx:=p D} i H):(ar b (ar c g)) D i H:=h _ rfl _ rfl
theorem seq4{b c g i:TS}{D:bc}{n:St}(h:∀p,p=i->∀q,q=ar g p->∀r,r=ar c q->b {D with nx:=r D} n H):(ar b (ar c (ar g i))) D n H:=h _ rfl _ rfl _ rfl
theorem seq5{b c g i n:TS}{D:bc}{p:St}(h:∀q,q=n->∀r,r=ar i q->∀u,u=ar g r->∀v,v=ar c u->b {D with nx:=v D} p H):(ar b (ar c (ar g (ar i n)))) D p H:=h _ rfl _ rfl _ rfl _ rfl
theorem seq6{b c g i n p:TS}{D:bc}{q:St}(h:∀r,r=p->∀u,u=ar n r->∀v,v=ar i u->∀w,w=ar g v->∀x,x=ar c w->b {D with nx:=x D} q H):(ar b (ar c (ar g (ar i (ar n p))))) D q H:=h _ rfl _ rfl _ rfl _ rfl _ rfl
theorem seq7{b c g i n p q:TS}{D:bc}{r:St}(h:∀u,u=q->∀v,v=ar p u->∀w,w=ar n v->∀x,x=ar i w->∀y,y=ar g x->∀z,z=ar c y->b {D with nx:=z D} r H):(ar b (ar c (ar g (ar i (ar n (ar p q)))))) D r H:=h _ rfl _ rfl _ rfl _ rfl _ rfl _ rfl
theorem seq9{b c g i n p q r u:TS}{D:bc}{v:St}(h:∀w,w=u->∀x,x=ar r w->∀y,y=ar q x->∀z,z=ar p y->∀A,A=ar n z->∀B,B=ar i A->∀E,E=ar g B->∀G,G=ar c E->b {D with nx:=G D} v H):(ar b (ar c (ar g (ar i (ar n (ar p (ar q (ar r u)))))))) D v H:=h _ rfl _ rfl _ rfl _ rfl _ rfl _ rfl _ rfl _ rfl
theorem FP{p q r u v w x y z b c g:TS}{D:bc}{A:St}(h:∀i,i=g->∀n,n=ar c i->∀B,B=ar b n->∀E,E=ar z B->∀G,G=ar y E->∀I,I=ar x G->∀J,J=ar w I->∀K,K=ar v J->∀L,L=ar u K->∀M,M=ar r L->∀N,N=ar q M->p {D with nx:=N D} A H):(ar p (ar q (ar r (ar u (ar v (ar w (ar x (ar y (ar z (ar b (ar c g))))))))))) D A H:=h _ rfl _ rfl _ rfl _ rfl _ rfl _ rfl _ rfl _ rfl _ rfl _ rfl _ rfl
theorem FL{r u v w x y z A B b c g i:TS}{D:bc}{E:St}(h:∀n,n=i->∀p,p=ar g n->∀q,q=ar c p->∀G,G=ar b q->∀I,I=ar B G->∀J,J=ar A I->∀K,K=ar z J->∀L,L=ar y K->∀M,M=ar x L->∀N,N=ar w M->∀O,O=ar v N->∀P,P=ar u O->r {D with nx:=P D} E H):(ar r (ar u (ar v (ar w (ar x (ar y (ar z (ar A (ar B (ar b (ar c (ar g i)))))))))))) D E H:=h _ rfl _ rfl _ rfl _ rfl _ rfl _ rfl _ rfl _ rfl _ rfl _ rfl _ rfl _ rfl
def aE(H:Hp)(o:HO)(R:V0->Hp->Prop):Prop:=∀p,H p=none->R p (ag H p o)
theorem aE.of{o:HO}{R:V0->Hp->Prop}(h:∀p H',H p=none->af H H'->H' p=some o->R p H'):aE H o R:=λ p b=>h p _ b (bM b o) aG
theorem OA{t:TA}{b:St}:oO t b H Q=(t b H λ xs c=>xs.length<=Qj/\aE c (.tup xs) λ p g=>Q (.ref p) g):=rfl
theorem NV{t:TA}{b:St}:oU t b H Q=(t b H λ xs c=>xs.length<=Qj/\aE c (.lst xs) λ p g=>Q (.ref p) g):=rfl
theorem Ny:fq K x lo hi H Q=(∃a xs,x=.ref a/\ai K H a xs/\aE H (.lst (bP xs lo hi)) λ p b=>Q (.ref p) b):=rfl
theorem OB{y:V}:pq x y H Q=(∃l b xs c,x=.ref l/\y=.ref b/\H l=some (.lst xs)/\H b=some (.lst c)/\xs.length+c.length<=Qj/\aE H (.lst (xs++c)) λ p g=>Q (.ref p) g):=rfl
theorem qA(K)(i:Nat){x:V2}(hN:X.N[i]?=some x:=by rfl)(hv:m5 X.env.scope x:=by first|exact Or.inl rfl|exact Or.inr (Or.inl rfl)|exact Or.inr (Or.inr rfl))(hd:s!"p"=false:=by decide)(hc:(x==("__classdict__":V2))=false:=by decide)(h:kO X (oB K):=by exact Dv):PE X (.Subscript (.Name x p) (.Constant (.int j) l p2) p3) (jf (oB K) (iJ i) (tC (.int j))):=kY h (ae i hN hv hd hc) az (λ ω ω=>rfl)
theorem qB{k:Nat}(hr:aP k X.A)(i:Nat){x:V2}(hN:X.N[i]?=some x:=by rfl)(hv:m5 X.env.scope x:=by first|exact Or.inl rfl|exact Or.inr (Or.inl rfl)|exact Or.inr (Or.inr rfl))(hd:s!"p"=false:=by decide)(hc:(x==("__classdict__":V2))=false:=by decide):PE X (.Subscript (.Name x p) (.Constant (.str y) l p2) p3) (rE (iJ i) (tC (.str y))):=Du (mB hr) (ae i hN hv hd hc) aX (λ ω ω=>rfl)
theorem qC(K)(ha:PE X a ta)(hb:PE X b tb)(h:kO X (oB K):=by exact Dv)(hs:wN b:=by exact λ ω ω=>rfl):PE X (.Subscript a b pos) (jf (oB K) ta tb):=kY h ha hb hs
theorem qD(K)(ha:PE X a ta)(hb:PE X b tb)(h:kO X (uT K):=by exact Kd)(hs:wN b:=by exact λ ω ω=>rfl):PE X (.Subscript a b pos) (jf (uT K) ta tb):=kY h ha hb hs
theorem qE{k:Nat}(hr:aP k X.A)(ho:PE X o td)(hi:PE X i ty)(hs:nc i:=by exact λ ω ω=>rfl):PE X (.Subscript o i pos) (rE td ty):=Du (mB hr) ho hi hs
theorem qF{x:V2}(h:aO X.prog X.w X.K X.mg X.base k x ps sp)(hr:aP j X.A)(ha:PA X (e::es) t)(hk:k<=j:=by first|decide|lia)(hg:Gl X x:=by exact rfl)(hd:s!"p"=false:=by decide)(he:Ql (e::es) X.env=(false,QA e X.env)::Ql es X.env:=by rfl)(hl:(QF pos (Ql es X.env)).any (·.1)=false:=by rfl):PE X (.Call (.Name x p) (e::es) [] pos) (rG sp [] E0 t):=bq h hr hk hg ha hd he hl
theorem qG(i:Nat){x:V2}{e:Expr}{te:TE}{pos':Pos}(hN:X.N.Nodup)(he:PE X e te)(hi:X.N[i]?=some x:=by exact rfl)(hx:Loc X.env.scope x:=by exact Or.inl rfl)(hs:Sk e (some (.Name x pos')) pos.line X.env=pure false:=by rfl)(hf:X.fn x=true\/X.env.scope.names.lookup x=some .local:=by first|exact .inl rfl|exact .inr rfl|assumption):PS X (.Assign [.Name x pos'] e pos) (jR te (fg i)):=jH hN hi hx he hs hf
theorem qH(i:Nat){x:V2}(hN:X.N.Nodup)(hi:X.N[i]?=some x:=by exact rfl)(hx:Loc X.env.scope x:=by exact Or.inl rfl)(hf:X.fn x=true\/X.env.scope.names.lookup x=some .local:=by first|exact .inl rfl|exact .inr rfl|assumption):PG X (.Name x pos) (fg i):=wh hN hi hx hf
theorem qI(a:PE X e te)(h:Ql [e] X.env=(false,QA e X.env)::Ql [] X.env:=by rfl):PA X [e] (kj te fM):=cg a dO h
theorem qJ(a:PE X e te)(b:PE X f tf)(h:Ql [e,f] X.env=(false,QA e X.env)::Ql [f] X.env:=by rfl)(h2:Ql [f] X.env=(false,QA f X.env)::Ql [] X.env:=by rfl):PA X [e,f] (kj te (kj tf fM)):=cg a (qI b h2) h
theorem qK(a:PE X e te)(b:PE X f tf)(c:PE X g tg)(h:Ql [e,f,g] X.env=(false,QA e X.env)::Ql [f,g] X.env:=by rfl)(h2:Ql [f,g] X.env=(false,QA f X.env)::Ql [g] X.env:=by rfl)(h3:Ql [g] X.env=(false,QA g X.env)::Ql [] X.env:=by rfl):PA X [e,f,g] (kj te (kj tf (kj tg fM))):=cg a (qJ b c h2 h3) h
theorem qL(hm:X.mg "len"=none)(ha:PA X (e::es) t)(hg:Gl X "len":=by exact rfl)(he:Ql (e::es) X.env=(false,QA e X.env)::Ql es X.env:=by rfl)(hl:(QF pos (Ql es X.env)).any (·.1)=false:=by rfl):PE X (.Call (.Name "len" p) (e::es) [] pos) (rL (λ xs H Q=>∃p ys,xs=[.ref p]/\(ai X.K H p ys\/ao X.K H p ys)/\Q (.int ys.length) H) t):=gI BA hg hm yM ha (G:=he) (j:=hl)
theorem qM{op:CmpOp}{r:R2}(ho:dP X (Rb op) r)(ha:PE X a ta)(hb:PE X b tb)(h:op≠.In:=by decide)(h2:op≠.NotIn:=by decide):PT X (.Compare a [op] [b] pos) (rB (jf r ta tb)):=iu ho ha hb (kr _ h h2)
theorem qN{i j p pos}:PE X (.UnaryOp .USub (.Constant (.int i) j p) pos) (vm (rU λ i=>.int (-i)) (tC (.int i))):=FR G8 az
theorem qO(i:Nat){x f:V2}(hN:X.N[i]?=some x:=by rfl)(hv:m5 X.env.scope x:=by first|exact Or.inl rfl|exact Or.inr (Or.inl rfl)|exact Or.inr (Or.inr rfl))(hd:s!"p"=false:=by decide)(hc:(x==("__classdict__":V2))=false:=by decide)(hb:RM (.Name x p) f X.env (QA (.Name x p) X.env)=QA (.Name x p) X.env:=by exact rfl):PE X (.Attribute (.Name x p) f pos) (mw X.K (iJ i) f):=jI (ae i hN hv hd hc) hb
end L2
end
section
namespace TM
open PySem L2 P15
structure Kp(H H':Hp):Prop where
 t:∀b xs,H b=some (.tup xs)->H' b=some (.tup xs)
 z:∀b o xs,H b=some (.frz o (.tup xs))->H' b=some (.frz o (.tup xs))
 i:∀b C dx f fs,H b=some (.ins C dx (f::fs))->H' b=some (.ins C dx (f::fs))
variable{H' H:Hp}
theorem Kp.trans{H'':Hp}(a:Kp H H')(b:Kp H' H''):Kp H H'':=⟨λ ω ω h=>b.t _ _ (a.t _ _ h),λ ω ω ω h=>b.z _ _ _ (a.z _ _ _ h),λ ω ω ω ω ω h=>b.i _ _ _ _ _ (a.i _ _ _ _ _ h)⟩
theorem Kp.of(s:af H H'):Kp H H':=⟨λ ω ω h=>s _ _ h,λ ω ω ω h=>s _ _ h,λ ω ω ω ω ω h=>s _ _ h⟩
theorem Kp.put{a:V0}{u:HO}(o:HO)(h:H a=some u)(g:∀xs,u≠.tup xs)(i:∀o xs,u≠.frz o (.tup xs))(j:∀C c f fs,u≠.ins C c (f::fs)):Kp H (ag H a o):=by
 refine⟨λ b xs e=>?_,λ b o xs e=>?_,λ b C c f fs e=>?_⟩
 ·rw[aD (λ z=>by rw[z,h]at e;cases e;exact g _ rfl)];exact e
 ·rw[aD (λ z=>by rw[z,h]at e;cases e;exact i _ _ rfl)];exact e
 ·rw[aD (λ z=>by rw[z,h]at e;cases e;exact j _ _ _ _ rfl)];exact e
theorem Kp.lst{H:Hp}{a:V0}{xs:List V}(o:HO)(h:H a=some (.lst xs)):Kp H (ag H a o):=Kp.put o h (λ ω z=>by cases z) (λ ω ω z=>by cases z) (λ ω ω ω ω z=>by cases z)
structure Kt(H H':Hp):Prop where
 t:∀b xs,H b=some (.tup xs)->H' b=some (.tup xs)
 z:∀b o xs,H b=some (.frz o (.tup xs))->H' b=some (.frz o (.tup xs))
theorem Kp.kt(k:Kp H H'):Kt H H':=⟨k.t,k.z⟩
theorem Kt.put{a:V0}{u:HO}(o:HO)(h:H a=some u)(c:∀xs,u≠.tup xs)(g:∀o xs,u≠.frz o (.tup xs)):Kt H (ag H a o):=by
 refine⟨λ b xs e=>?_,λ b o xs e=>?_⟩
 ·rw[aD (λ z=>by rw[z,h]at e;cases e;exact c _ rfl)];exact e
 ·rw[aD (λ z=>by rw[z,h]at e;cases e;exact g _ _ rfl)];exact e
variable{xs:List V}{K:X0}
theorem ao.kt{a:V0}(h:ao K H a xs)(k:Kt H H'):ao K H' a xs:=by
 rcases h with(h|⟨o,h⟩)|h
 ·exact .inl (.inl (k.t _ _ h))
 ·exact .inl (.inr ⟨o,k.z _ _ _ h⟩)
 ·exact .inr h
theorem ao.kp{a:V0}(h:ao K H a xs)(k:Kp H H'):ao K H' a xs:=ao.kt h k.kt
mutual
inductive RT(K:X0)(H:Hp):V->PyData->Prop
 |non:RT K H .non .none
 |bl(b:Bool):RT K H (.bl b) (.bool b)
 |int(i:Int):RT K H (.int i) (.int i)
 |str(x:V2):RT K H (.str x) (.str x)
 |tup{a:V0}{xs:List V}{ds:List PyData}:ao K H a xs->bb K H xs ds->RT K H (.ref a) (.tuple ds)
inductive bb(K:X0)(H:Hp):List V->List PyData->Prop
 |nil:bb K H [] []
 |cons{v:V}{vs:List V}{d:PyData}{ds:List PyData}:RT K H v d->bb K H vs ds->bb K H (v::vs) (d::ds)
end
section
variable{K:X0}{H H':Hp}
mutual
theorem RT.rd:∀{v:V}{d:PyData},RT K H v d->dm K H v d
 |_,_,.non=>.non
 |_,_,.bl b=>.bl b
 |_,_,.int i=>.int i
 |_,_,.str x=>.str x
 |_,_,.tup c e=>.tup c (bb.rd e)
theorem bb.rd:∀{vs:List V}{b:List PyData},bb K H vs b->cH K H vs b
 |_,_,.nil=>.nil
 |_,_,.cons h c=>.cons (RT.rd h) (bb.rd c)
end
mutual
theorem RT.kt(k:Kt H H'):∀{v:V}{d:PyData},RT K H v d->RT K H' v d
 |_,_,.non=>.non
 |_,_,.bl b=>.bl b
 |_,_,.int i=>.int i
 |_,_,.str x=>.str x
 |_,_,.tup c e=>.tup (ao.kt c k) (bb.kt k e)
theorem bb.kt(k:Kt H H'):∀{vs:List V}{b:List PyData},bb K H vs b->bb K H' vs b
 |_,_,.nil=>.nil
 |_,_,.cons h c=>.cons (RT.kt k h) (bb.kt k c)
end
theorem RT.kp{v:V}{d:PyData}(k:Kp H H')(h:RT K H v d):RT K H' v d:=h.kt k.kt
theorem bb.kp{vs:List V}{ds:List PyData}(k:Kp H H')(h:bb K H vs ds):bb K H' vs ds:=h.kt k.kt
theorem RT.same{v:V}{d:PyData}(h:RT K H v d)(s:af H H'):RT K H' v d:=h.kp (Kp.of s)
theorem bb.same{vs:List V}{ds:List PyData}(h:bb K H vs ds)(s:af H H'):bb K H' vs ds:=h.kp (Kp.of s)
theorem RT.str_inv{v:V}{x:V2}(h:RT K H v (.str x)):v=.str x:=by cases h;rfl
theorem RT.tup_inv{v:V}{ds:List PyData}(h:RT K H v (.tuple ds)):∃a xs,v=.ref a/\ao K H a xs/\bb K H xs ds:=by
 cases h with
 |tup a b=>exact⟨_,_,rfl,a,b⟩
theorem bb.inv{vs:List V}{d:PyData}{ds:List PyData}(h:bb K H vs (d::ds)):∃v r,vs=v::r/\RT K H v d/\bb K H r ds:=by
 cases h with
 |cons a b=>exact⟨_,_,rfl,a,b⟩
theorem bb.nil_inv{vs:List V}(h:bb K H vs []):vs=[]:=by cases h;rfl
theorem bb.length:∀{vs:List V}{b:List PyData},bb K H vs b->vs.length=b.length
 |_,_,.nil=>rfl
 |_,_,.cons _ c=>congrArg (·+1) (bb.length c)
theorem bb.app:∀{xs ys:List V}{c es:List PyData},bb K H xs c->bb K H ys es->bb K H (xs++ys) (c++es)
 |_,_,_,_,.nil,h=>h
 |_,_,_,_,.cons a b,h=>.cons a (bb.app b h)
theorem bb.at:∀{vs:List V}{c:List PyData}{i:Nat}{v:V},bb K H vs c->vs[i]?=some v->∃d,c[i]?=some d/\RT K H v d
 |_,_,0,_,.cons a _,h=>by cases h;exact⟨_,rfl,a⟩
 |_,_,i+1,_,.cons _ b,h=>by have:=bb.at (i:=i) b h;exact this
end
noncomputable def dS:Lb->V
 | .non=>.non| .int i=>.int i| .bl b=>.bl b| .str x=>.str x
theorem uV:∀l:Lb,RT K H (dS l) l.d
 | .non=>.non| .int i=>.int i| .bl b=>.bl b| .str x=>.str x
theorem C4{v:V}:∀{l:Lb},RT K H v l.d->v=dS l
 | .non,h=>by cases h;rfl
 | .int i,h=>by cases h;rfl
 | .bl b,h=>by cases h;rfl
 | .str x,h=>by cases h;rfl
theorem ir:∀ts:List Tm,(bO ts).length=ts.length
 |[]=>rfl
 |_::ts=>congrArg (·+1) (ir ts)
theorem n_:∀xs ys:List Tm,bO (xs++ys)=bO xs++bO ys
 |[],_=>rfl
 |x::xs,ys=>congrArg (x.dat::·) (n_ xs ys)
theorem Dw:∀{ts:List Tm}{i:Nat}{d:PyData},(bO ts)[i]?=some d->∃t,ts[i]?=some t/\d=t.dat
 |t::ts,0,d,h=>by cases h;exact⟨t,rfl,rfl⟩
 |t::ts,i+1,d,h=>by have:=Dw (ts:=ts) (i:=i) h;exact this
noncomputable def qf(f:Fm)(l:Lb)(inn sh:V0)(d m:Nat):List (V2×V):=[("form",.str f.s),("label",dS l),("inner",.ref inn),("deep",.int d),("many",.int m),("shape",.ref sh)]
mutual
inductive TO(K:X0)(C:V0)(H:Hp):V->Tm->Prop
 |mk{a dx inn sh:V0}{f:Fm}{l:Lb}{ps:List Tm}{vs ws:List V}:H a=some (.ins C dx (qf f l inn sh (1+bW ps) (1+cW ps)))->ao K H inn vs->cE K C H vs ps->ao K H sh ws->bb K H ws (gu f l (bO ps))->TO K C H (.ref a) (.mk f l ps)
inductive cE(K:X0)(C:V0)(H:Hp):List V->List Tm->Prop
 |nil:cE K C H [] []
 |cons{v:V}{vs:List V}{t:Tm}{ts:List Tm}:TO K C H v t->cE K C H vs ts->cE K C H (v::vs) (t::ts)
end
section
variable{K:X0}{C:V0}{H H':Hp}
mutual
theorem TO.kp(k:Kp H H'):∀{v:V}{t:Tm},TO K C H v t->TO K C H' v t
 |_,_,.mk a b c d e=>.mk (k.i _ _ _ _ _ a) (ao.kp b k) (cE.kp k c) (ao.kp d k) (e.kp k)
theorem cE.kp(k:Kp H H'):∀{vs:List V}{ts:List Tm},cE K C H vs ts->cE K C H' vs ts
 |_,_,.nil=>.nil
 |_,_,.cons h b=>.cons (TO.kp k h) (cE.kp k b)
end
theorem TO.inv{v:V}{t:Tm}(h:TO K C H v t):∃a m g i vs j,v=.ref a/\H a=some (.ins C m (qf t.f t.l g i t.depth t.size))/\ao K H g vs/\cE K C H vs t.ps/\ao K H i j/\bb K H j (gu t.f t.l (bO t.ps)):=by
 cases h with
 |mk a b c d e=>exact⟨_,_,_,_,_,_,rfl,a,b,c,d,e⟩
theorem cE.length:∀{vs:List V}{ts:List Tm},cE K C H vs ts->vs.length=ts.length
 |_,_,.nil=>rfl
 |_,_,.cons _ b=>congrArg (·+1) (cE.length b)
theorem cE.app:∀{xs ys:List V}{ts us:List Tm},cE K C H xs ts->cE K C H ys us->cE K C H (xs++ys) (ts++us)
 |_,_,_,_,.nil,h=>h
 |_,_,_,_,.cons a b,h=>.cons a (cE.app b h)
theorem cE.split:∀{ts us:List Tm}{vs:List V},cE K C H vs (ts++us)->∃xs ys,vs=xs++ys/\cE K C H xs ts/\cE K C H ys us
 |[],us,vs,h=>⟨[],vs,rfl,.nil,h⟩
 |t::ts,us,_,.cons a b=>by
  obtain⟨xs,ys,rfl,c,e⟩:=cE.split b;exact⟨_::xs,ys,rfl,.cons a c,e⟩
theorem cE.at:∀{vs:List V}{ts:List Tm}{i:Nat}{v:V},cE K C H vs ts->vs[i]?=some v->∃t,ts[i]?=some t/\TO K C H v t
 |_,_,0,_,.cons a _,h=>by cases h;exact⟨_,rfl,a⟩
 |_,_,i+1,_,.cons _ b,h=>by have:=cE.at (i:=i) b h;exact this
end
def SX(x:V0)(H H':Hp):Prop:=∀b o,b≠x->H b=some o->H' b=some o
theorem nq{a b:V0}{x y:Option HO}(h:H a=x)(q:H b=y)(n:x≠y:=by(intro z;cases z)):b≠a:=λ z=>n (by rw[<-h,<-q,z])
variable{x:V0}
theorem SX.of(s:af H H'):SX x H H':=λ b o ω h=>s b o h
theorem SX.trans{H'':Hp}(a:SX x H H')(b:SX x H' H''):SX x H H'':=λ c o n h=>b c o n (a c o n h)
theorem SX.put(o:HO):SX x H (ag H x o):=λ b u n h=>by rw[aD n];exact h
theorem SX.kp{C e:V0}(s:SX x H H')(c:H x=some (.ins C e [])):Kp H H':=
 ⟨λ b g h=>s b _ (λ z=>by rw[z,c]at h;cases h) h,λ b o g h=>s b _ (λ z=>by rw[z,c]at h;cases h) h,λ b C e f fs h=>s b _ (λ z=>by rw[z,c]at h;cases h) h⟩
theorem SX.sqL{C c a:V0}{fs:List (V2×V)}(s:SX x H H')(b:H x=some (.ins C c fs))(h:ai K H a xs):ai K H' a xs:=by
 rcases h with(h|⟨o,h⟩)|h
 ·exact .inl (.inl (s _ _ (λ z=>by rw[z,b]at h;cases h) h))
 ·exact .inl (.inr ⟨o,s _ _ (λ z=>by rw[z,b]at h;cases h) h⟩)
 ·exact .inr h
theorem SX.sqT{C c a:V0}{fs:List (V2×V)}(s:SX x H H')(b:H x=some (.ins C c fs))(h:ao K H a xs):ao K H' a xs:=by
 rcases h with(h|⟨o,h⟩)|h
 ·exact .inl (.inl (s _ _ (λ z=>by rw[z,b]at h;cases h) h))
 ·exact .inl (.inr ⟨o,s _ _ (λ z=>by rw[z,b]at h;cases h) h⟩)
 ·exact .inr h
theorem DH:∀{ts:List Tm}{t:Tm},t∈ts->t.depth<=bW ts
 |u::ts,t,h=>by
  show t.depth<=max u.depth (bW ts);rcases(bH.mp h)with rfl|h
  ·exact Nat.le_max_left _ _
  ·exact cb (DH h) (Nat.le_max_right _ _)
theorem Dt{n:Nat}:∀{ts:List Tm},(∀t∈ts,t.depth<=n)->bW ts<=n
 |[],_=>bJ _
 |t::ts,h=>Nat.max_le.mpr ⟨h t dR,Dt λ u b=>h u (dz _ b)⟩
end TM
end
section
namespace L2
open PySem
structure oE(P:Program)(w:Y3)(A:V3)(it Z:V0)(n:Nat)(St:Nat->Array V1->M1->Prop)(Fin:Array V1->M1->Prop):Prop where
 item:∀(i:Nat)(acc:Array V1)(s:M1)(Q:Option V1->M1->Prop)(E:V1->M1->Prop),i<n->St i acc s->(∀v s',St (i+1) (acc.push v) s'->(∀o,s.heap.get? Z=some o->s'.heap.get? Z=some o)->Q (some v) s')->Qm (Qn P w) A (Sf (.ref it)) Q E s
 done:∀(acc:Array V1)(s:M1)(Q:Option V1->M1->Prop)(E:V1->M1->Prop),St n acc s->(∀s',Fin acc s'->(∀o,s.heap.get? Z=some o->s'.heap.get? Z=some o)->Q none s')->Qm (Qn P w) A (Sf (.ref it)) Q E s
 size:∀i acc s,St i acc s->acc.size=i
 frame:∀i acc s h',St i acc s->(∀b o,b≠Z->s.heap.get? b=some o->h'.get? b=some o)->h'.objs.size=s.heap.objs.size->St i acc {s with heap:=h'}
section
variable{P:Program}{w:Y3}{B:V3}{E:V1->M1->Prop}{s:M1}{it Z:V0}{n:Nat}{St:Nat->Array V1->M1->Prop}{Fin:Array V1->M1->Prop}{R:T4->M1->Prop}
theorem LX(W:oE P w B.in1 it Z n St Fin)(I:n<=Qj)(res:V1):∀(k i:Nat)(s:M1)(h:Array V1)(c:Nat),n-i=k->i<=n->St i h s->s.heap.get? Z=some {cls:=.type "list",dict:=none,data:=.seq h c,slots:=#[]}->(∀m j C,Fin j m->m.heap.get? Z=some {cls:=.type "list",dict:=none,data:=.seq j C,slots:=#[]}->j.size=n->R (.ok (.ret res)) m)->Rm (Qn P w) B (.builtin "list.extend.loop" ⟨[.ref Z,.ref it,res],[]⟩) R s:=by
 intro k;induction k with
 |zero=>
  intro i s h c x y p g q;have D:i=n:=Nat.le_antisymm y (vG.mp x);subst D;refine QV F.entry_extend_loop ?_;rw[QL Rr ⟨[.ref Z,.ref it,res],[]⟩];show Qm (Qn P w) B.in1 (Sf (.ref it)>>=_) _ _ s;refine Qf (W.done h s _ _ p λ m f r=>Qh ?_);exact q m h c f (r _ g) (W.size _ _ _ p)
 |succ k G=>
  intro i s h c x y p g q;have lt:i<n:=by lia
  refine QV F.entry_extend_loop ?_;rw[QL Rr ⟨[.ref Z,.ref it,res],[]⟩];show Qm (Qn P w) B.in1 (Sf (.ref it)>>=_) _ _ s;refine Qf (W.item i h s _ _ lt p λ v J u r=>?_);have z:=r _ g;have A:=W.size _ _ _ p;show Qm (Qn P w) B.in1 (TY Z (·.push v)>>=_) _ _ _;refine Qf ?_;refine Q9 z rfl (Qh ⟨QX Rr ⟨[.ref Z,.ref it,res],[]⟩,G (i+1) _ (h.push v) _ qR lt (W.frame _ _ _ _ u (λ b o H e=>?_) (by simp[Heap.update])) (Qy _ z rfl) q⟩) (by rw[A];lia) (by show(h.push v).size<=Qj+1;rw[Array.size_push,A];lia);exact(Qr _ _ (Ne.symm H)).trans e
def BZ(P:Program)(w:Y3)(it:V0)(St:M1->Prop):Prop:=∀(A:V3)(s:M1)(Q:Bool->M1->Prop)(E:V1->M1->Prop),St s->(∀b,Q b s)->Qm (Qn P w) A (Builtin.List.listLengthHint (.ref it)) Q E s
theorem Lv{T:String}{Q:V1->M1->Prop}(I:∀s,St 0 #[] s->s.TypeIs (.ref it) T)(J:(Rg T==Rg "list")=false)(h2:(Rg T==Rg "tuple")=false)(v:s.heap.objs.size≠it)(W:oE P w B.in1.in1 it s.heap.objs.size n St Fin)(hs:∀(A:V3)(s:M1)(Q:V1->M1->Prop)(E:V1->M1->Prop),St 0 #[] s->Q (.ref it) s->Qm (Qn P w) A (pyIter (.ref it)) Q E s)(K:BZ P w it (St 0 #[]))(st:St 0 #[] {s with heap:=s.heap.push {cls:=.type "list",data:=.seq #[]}})(L:∀x j c,Fin j x->x.heap.get? s.heap.objs.size=some {cls:=.type "list",dict:=none,data:=.seq j c,slots:=#[]}->j.size=n->Q (.ref s.heap.objs.size) x)(M:n<=Qj):Qm (Qn P w) B (call (.type "list") [.ref it]) Q E s:=by
 refine callType_codes (Q₁:=λ o i=>o=.ref s.heap.objs.size/\i={s with heap:=s.heap.push {cls:=.type "list",data:=.seq #[]}}) F.called_list (F.typeCall_list_1 _) F.entry_list_init (code_list_new _ ⟨rfl,rfl⟩) λ o i e=>?_;obtain⟨rfl,rfl⟩:=e;have u:({s with heap:=s.heap.push {cls:=.type "list",data:=.seq #[]}}:M1).heap.get? s.heap.objs.size=some {cls:=.type "list",data:=.seq #[]}:=Qo _ rfl;generalize({s with heap:=s.heap.push {cls:=.type "list",data:=.seq #[]}}:M1)=i at*;generalize s.heap.objs.size=Z at*;refine⟨⟨_,u,rfl⟩,F.args_list_init_2 _ _,?_⟩;have m:∀(h:Z3)(c:Nat),(∀b o,b≠Z->i.heap.get? b=some o->h.get? b=some o)->h.objs.size=i.heap.objs.size->h.get? Z=some {cls:=.type "list",data:=.seq #[] c}->Rm (Qn P w) B.in1 (.builtin "list.extend.loop" ⟨[.ref Z,.ref it,.none],[]⟩) (wants (λ r y=>r=.none/\Q (.ref Z) y) E) {i with heap:=h}:=by
  intro h c k N g;exact LX W M .none n 0 _ #[] c rfl (bJ _) (W.frame _ _ _ _ st k N) g λ y j O f p S=>⟨rfl,L y j O f p S⟩
 show Qm (Qn P w) B.in1.in1 (do let z<-Builtin.List.listItems (.ref Z);Builtin.List.listUpdate (.ref Z) (λ ω=>#[]);letGo z.toList.reverse;Ra (.ref Z) (.ref it) .none) _ _ i;refine Qf ?_;unfold Builtin.List.listItems;refine Qf (SS u rfl (Qh ?_));show Qm (Qn P w) B.in1.in1 (TY Z (λ ω=>#[])>>=λ ω=>letGo (#[]:Array V1).toList.reverse>>=λ ω=>Ra (.ref Z) (.ref it) .none) _ _ i;refine Qf (Q9 u rfl (Qf (Sd ?_)));have p:=Qy (QB (λ ω=>(#[]:Array V1))) u rfl;have C:∀b o,b≠Z->i.heap.get? b=some o->(i.heap.update Z (QB (λ ω=>(#[]:Array V1)))).get? b=some o:=λ b o q e=>(Qr _ _ (Ne.symm q)).trans e;have D:(i.heap.update Z (QB (λ ω=>(#[]:Array V1)))).objs.size=i.heap.objs.size:=by simp[Heap.update]
 generalize i.heap.update Z (QB (λ ω=>(#[]:Array V1)))=h2 at*;have G:St 0 #[] {i with heap:=h2}:=W.frame _ _ _ _ st C D;unfold Ra;refine Qf (RU (I _ G) ?_);rw[show Builtin.List.listSameRef (.ref Z) (.ref it)=false by simp[Builtin.List.listSameRef,v],J,‹(Rg T==Rg "tuple")=false›];refine Qf (hs _ _ _ _ G ?_);refine Qf (QC (K _ _ _ _ G λ b=>?_));refine SA (λ ω=>?_) (λ ω=>Qh ⟨QX Rr ⟨[.ref Z,.ref it,.none],[]⟩,m h2 _ C D p⟩);refine Qf (SU (Qf ?_));show Qm (Qn P w) B.in1.in1 (TY Z (·.push .none)>>=λ ω=>TY Z (·.pop)) _ _ _;refine Qf (Q9 p rfl ?_);have H:=Qy (QB (·.push Qz)) p rfl;refine Q9 (hz:=by seq_fits) H rfl ?_;have U:=Qy (QB (·.pop)) H rfl;refine Qh ⟨QX Rr ⟨[.ref Z,.ref it,.none],[]⟩,m _ _ (λ b o q e=>?_) (by simpa[Heap.update]using D) U⟩;exact(Qr _ _ (Ne.symm q)).trans ((Qr _ _ (Ne.symm q)).trans (C b o q e))
end
open PySem.Spec PyProof.Rows
theorem Ma:So (.type "list_reverseiterator") "__len__"=pure none:=by rw[typeLookup_type,builtinLookup_eq_fast];kernel_rfl
theorem Jo:So (.type "list_reverseiterator") "__length_hint__"=pure (some (.builtin "list_reverseiterator.__length_hint__")):=by rw[typeLookup_type,builtinLookup_eq_fast];kernel_rfl
variable{P:Program}
theorem JG{w:Y3}{it:V0}{St:M1->Prop}(c:∀s,St s->s.TypeIs (.ref it) "list_reverseiterator"):BZ P w it St:=by
 intro A s Q E e q;unfold Builtin.List.listLengthHint;refine Qf (wpAny_specialOf (c s e) Ma ?_);show Qm (Qn P w) A (specialOf (Qq it) (Qp "__length_hint__")>>=_) _ _ _;refine Qf (wpAny_specialOf (c s e) Jo ?_);generalize hi0:("list_reverseiterator.__length_hint__":String)=g
 wp_delta
 rw[show splitId g=some ("list_reverseiterator","__length_hint__")from by subst hi0;decide+kernel];subst hi0;refine Qf (wpAny_isInstance (T:="list_reverseiterator") (b:=true) (c s e) (by rw[isSubtype_type];kernel_rfl) ?_);refine SA (λ z=>T7 z qQ) (λ ω=>?_);refine SA (λ ω=>?_) (λ z=>T7 rfl z);exact SA (λ z=>T7 z qP) (λ ω=>Qh (q _))
def vg(K:X0)(l:V0)(n:Nat):It:=
 ⟨λ i H=>i<n/\∃b,ai K H l b/\b.length=n,λ i H v c=>c=H/\∀b,ai K H l b->b[n-1-i]?=some v,λ i ω=>i=n⟩
variable{K:X0}
theorem JF{w:Y3}{tg:Expr}(l it:V0)(n:Nat):g_ P w K tg (vg K l n) [it] it (λ i h=>h.IsRevIter it l ((n:Int)-1-(i:Int)))where
 mem:=by simp
 obj:=λ i h j b q=>by
  cases cu.mp q;obtain⟨o,e,c,d⟩:=j;exact⟨o,e,λ v z=>by rw[d]at z;cases z⟩
 keep:=λ i h y j k=>j.at λ o e=>k it (cu.mpr rfl) o e
 item:=by
  intro X B C D Q i m s R H E I A j G;subst B C D;obtain⟨hi,S,T,hn⟩:=G;obtain⟨Y,Z,p,hz⟩:=I.list T;have U:S[n-1-i]?=some (S[n-1-i]'(by lia)):=aV qR;obtain⟨u,hu,ru⟩:=Z.get U;obtain⟨J,L,f2,M,N,O⟩:=A it (cu.mpr rfl);have e0:(n:Int)-1-(i:Int)=((n-1-i:Nat):Int):=by lia
  have e2:((n-1-i:Nat):Int)-1=(n:Int)-1-((i+1:Nat):Int):=by lia
  have g:=j;rw[e0]at g;refine wpAny_pyNext_rev_item g p.isList (x:=u) (by simpa using hu) λ y r sb=>?_;have I1:Inv X m R H {s with heap:=y}:=I.turned (t':=s.toks) (λ b o q e=>(sb.2 b q).trans e) J L M N O;rw[e2]at r;obtain⟨o,e,c,d⟩:=id r;exact⟨u,rfl,u6 (s:={s with heap:=y}) e c d qQ ⟨_,H,I1,ru,⟨rfl,λ ys hy=>by rw[I.list_inj hy T];exact U⟩,r,λ b q=>(A b q).1⟩⟩
 done:=by
  intro X B C D Q i m s R H E I A j G;subst B C D;cases(show i=n from G);obtain⟨J,L,f2,M,N,O⟩:=A it (cu.mpr rfl);have g:=j;rw[show(n:Int)-1-(n:Int)=-1 by lia]at g;exact wpAny_pyNext_rev_end (I.ok.hd Q) g λ y eb=>⟨rfl,I.turned (t':=s.toks) (λ b o q e=>eb b o q e) J L M N O⟩
 self:=λ ω ω ω ω ω j h=>Sy j h
section
variable{X:Cx}{tg:Expr}
def qb(K:X0)(ta:TA):TI:=λ e H R=>ta e H λ vs b=>∃a c,vs=[.ref a]/\ai K b a c/\R (vg K a c.length) b
theorem Oz{b:TA}{c:St}{H:Hp}{R:It->Hp->Prop}:qb K b c H R=b c H λ vs H1=>∃a xs,vs=[.ref a]/\ai K H1 a xs/\R (vg K a xs.length) H1:=rfl
theorem Hk{a:Expr}{w:TA}{p c:Pos}(y:Gl X "reversed")(z:X.mg "reversed"=none)(r:Qv "reversed"=some (.type "reversed"))(A:PA X [a] w)(hs:Ql [a] X.env=[(false,QA a X.env)]:=by rfl):PI X tg (.Call (.Name "reversed" p) [a] [] c) (qb X.K w):=by
 intro g s B H R I h;refine Call_ (ip I y z r (Qx (aM (A c g s B H _ I h) λ us m v=>?_) hs rfl));obtain⟨vs,C,n,D,E⟩:=v;obtain⟨l,x,e,G,q⟩:=E;subst e;obtain⟨u,rfl,J⟩:=D.one;cases J;obtain⟨j,K,L,M⟩:=n.list G;have hl:=K.length;refine call_reversed_list L.isList (Sy (it:=m.heap.objs.size) (l:=l) (i:=(j.toArray.size:Int)-1) ⟨_,Qo _ rfl,rfl,rfl⟩ ?_);refine⟨m.heap.objs.size,[m.heap.objs.size],_,_,C,rfl,n.kept (t':=m.toks) λ b o e=>Qg _ e,JF l _ x.length,?_,λ b r=>?_,q⟩
 ·rw[show(x.length:Int)-1-((0:Nat):Int)=(j.toArray.size:Int)-1 by rw[bF];lia];exact⟨_,Qo _ rfl,rfl,rfl⟩
 ·cases cu.mp r;exact n.fpOk (aS _) (n.hok.fresh (aS _))
def Cr(K:X0)(ta:TA):TE:=λ e H Q=>ta e H λ vs b=>∃a c,vs=[.ref a]/\ai K b a c/\∀l,b l=none->Q (.ref l) (ag b l (.lst c.reverse))
theorem N9{c:TA}{e:St}{H:Hp}{Q:VK}:Cr K c e H Q=c e H λ vs b=>∃a xs,vs=[.ref a]/\ai K b a xs/\∀l,b l=none->Q (.ref l) (ag b l (.lst xs.reverse)):=rfl
theorem Lp{w:Y3}{A:V3}(B:A.handled=none){it Z l:V0}{its:List V1}(j:M1)(hl:j.heap.IsList l its.toArray)(hi:j.heap.objs.size<=it)(C:j.heap.objs.size<=Z)(m:Z≠it):oE P w A it Z its.length (λ i c r=>∃h' tk,r={j with heap:=h',toks:=tk}/\h'.IsRevIter it l ((its.length:Int)-1-(i:Int))/\(∀b o,j.heap.get? b=some o->h'.get? b=some o)/\c.toList=its.reverse.take i/\i<=its.length) (λ c r=>∃h' tk,r={j with heap:=h',toks:=tk}/\(∀b o,j.heap.get? b=some o->h'.get? b=some o)/\c.toList=its.reverse)where
 item:=by
  rintro i c s Q E g ⟨h',tk,rfl,h,k,n,_⟩ q;have D:(its.length:Int)-1-(i:Int)=((its.length-1-i:Nat):Int):=by lia
  have G:((its.length-1-i:Nat):Int)-1=(its.length:Int)-1-((i+1:Nat):Int):=by lia
  rw[D]at h;have H:its.toArray[its.length-1-i]?=some (its[its.length-1-i]'(by lia)):=by simp
  refine wpAny_pyNext_rev_item h (hl.at λ o e=>k _ o e) H λ p u v=>q _ _ ⟨p,tk,rfl,by rw[<-G];exact u,λ b o e=>(v.2 b λ z=>?_).trans (k b o e),?_,g⟩ λ o e=>(v.2 Z m).trans e
  ·exact T7 (Qi e) (by rw[z];exact iV.mpr hi)
  ·rw[pB,n,lZ,List.getElem?_reverse g,aV qR];rfl
 done:=by
  rintro c s Q E ⟨h',tk,rfl,h,k,n,_⟩ q;rw[show(its.length:Int)-1-(its.length:Int)=-1 by lia]at h;refine wpAny_pyNext_rev_end B h λ p x=>q _ ⟨p,tk,rfl,λ b o e=>x b o (λ z=>?_) (k b o e),?_⟩ λ o e=>x Z o m e
  ·exact T7 (Qi e) (by rw[z];exact iV.mpr hi)
  ·rw[n,iU (by rw[kR];exact aS _)]
 size:=by
  rintro i c s ⟨h',tk,rfl,h,k,n,g⟩;rw[<-j5,n,cJ,kR];exact rZ g
 frame:=by
  rintro i c s p ⟨h',tk,rfl,h,k,n,g⟩ y _;exact⟨p,tk,rfl,h.at λ o e=>y it o (Ne.symm m) e,λ b o e=>y b o (λ z=>T7 (Qi e) (by rw[z];exact iV.mpr C)) (k b o e),n,g⟩
theorem Ir{m:Expr}{R:TA}{p C v i:Pos}(Y:X.calm=true)(Z:Gl X "list")(K:Gl X "reversed")(hm:X.mg "list"=none)(L:X.mg "reversed"=none)(ha:PA X [m] R)(hs:Ql [m] X.env=[(false,QA m X.env)]:=by rfl)(cT:Ql [.Call (.Name "reversed" C) [m] [] i] X.env=[(false,QA (.Call (.Name "reversed" C) [m] [] i) X.env)]:=by rfl):PE X (.Call (.Name "list" p) [.Call (.Name "reversed" C) [m] [] i] [] v) (Cr X.K R):=by
 intro w s σ H Q I h;refine Call_ (ip I Z hm rfl (Qx ?_ cT rfl));rw[cT];show Qm s!"c" X.A (spliced ((false,QA (.Call (.Name "reversed" C) [m] [] i) X.env)::QF v [])) _ _ s;refine Rh ?_;refine Call_ (ip I K L rfl (Qx (aM (ha i w s σ H _ I h) λ us r D=>?_) hs rfl));obtain⟨vs,H1,E,r1,l,S,rfl,hq,q⟩:=D;obtain⟨u,rfl,ru⟩:=r1.one;cases ru;obtain⟨j,U,M,D⟩:=E.list hq;have hl:=U.length;obtain⟨ol,gl,ω⟩:=id M.isList;refine call_reversed_list M.isList (RO ?_);have x:(r.heap.push (revObj l ((j.toArray.size:Int)-1))).objs.size=r.heap.objs.size+1:=QE ..;have g0:∀o,((r.heap.push (revObj l ((j.toArray.size:Int)-1))).push o).IsRevIter r.heap.objs.size l ((j.length:Int)-1-((0:Nat):Int)):=λ o=>by
  rw[show(j.length:Int)-1-((0:Nat):Int)=(j.toArray.size:Int)-1 by rw[bF];lia];exact⟨_,Qg _ (Qo _ rfl),rfl,rfl⟩
 refine Lv (n:=j.length) (T:="list_reverseiterator") (λ N z=>?_) qQ qQ (by rw [x]; exact lV _)
  (Lp (show X.A.in1.in1.handled=none from E.ok.hd Y) (it:=r.heap.objs.size) (l:=l) r M.isList (aS _) (by rw[x];exact ie _) (by rw[x];exact lV _)) (λ A N Q' E' z O=>?_) (JG λ N z=>?_)
  ⟨_,_,rfl,g0 _,λ b o e=>Qg _ (Qg _ e),rfl,bJ _⟩ (λ N P c fin g sz=>?_) (by rw[<-hl];exact D)
 ·obtain⟨G,J,rfl,y,ω⟩:=z;exact y.typeIs
 ·obtain⟨G,J,rfl,y,ω⟩:=z;exact Sy y O
 ·obtain⟨G,J,rfl,y,ω⟩:=z;exact y.typeIs
 ·obtain⟨G,J,rfl,k,ea⟩:=fin;have B:P=j.reverse.toArray:=by rw[<-ea]
  subst B;refine⟨.ref _,ag H1 _ (.lst S.reverse),E.laid (t':=J) k (by rw[x];exact ie _) (show aQ X.prog X.w _ G _ (.lst S.reverse)from⟨by rw[kR];exact D,j.reverse,c,U.reverse,g⟩),rfl,q _ (E.hok.fresh (by rw[x];exact ie _))⟩
end
variable{X:Cx}{H:Hp}
theorem Inv.grow{aa:List (V0×Obj)}{σ:St}{H':Hp}{s:M1}{h':Z3}{t':Nat}{ch:List V0}(I:Inv X aa σ H s)(i:∀b∈ch,cz X aa H b)(k:∀b o,b∉ch->s.heap.get? b=some o->h'.get? b=some o)(g:∀b o,H b=some o->H' b=some o)(new:∀b o,H b=none->H' b=some o->(s.heap.objs.size<=b\/b∈ch)/\aQ X.prog X.w H' h' b o):Inv X aa σ H' {s with heap:=h',toks:=t'}:=by
 have p:∀ b o,H b=some o->b∉ch:=λ b o e z=>bS e (i b z).1 rfl;refine I.step (g':=s.gens) (d':=s.drawn) (ch:=ch) (λ b h=>?_) (λ b o ω ω h e ω=>k b o h e) (λ b o ω ω h e ω=>⟨o.slots,k b o h e⟩) (λ b o h e n=>?_) (λ b o h e=>⟨o,k b o h e⟩) (λ b ys e=>g b _ e) (λ b o ys e=>g b _ e)
  (λ b ps e=>⟨#[],by rw[g b _ e];simp⟩) (λ m u=>u.at' λ o q=>k _ o (λ z=>(i _ z).2.1 rfl) q) (λ b o q=>?_) I.bare
 ·obtain⟨J,x,K,y,B,C⟩:=i b h;exact⟨y,x,B,C⟩
 ·cases D:H' b with
  |none=>rfl
  |some o'=>
   rcases(new b o' n D).1 with z|z
   ·exact T7 (Qi e) (iV.mpr z)
   ·exact T7 z h
 ·cases e:H b with
  |none=>exact(new b o e q).2
  |some o'=>
   have:=g b o' e;rw[q]at this;cases this;refine(I.hok b o e).stay (λ c v G r=>?_) (λ c r=>g c _ r) λ c ys r=>g c _ r;have j:∃o',H c=some o':=by
    rcases G with z|z
    ·exact⟨o,by rw[z];exact e⟩
    ·exact⟨_,z⟩
   obtain⟨o',j⟩:=j;exact k c v (p c o' j) r
theorem apart{n a b:Nat}(h:a≠b):n+a≠n+b:=λ e=>h (Nat.add_left_cancel e)
theorem vc{n a:Nat}(h:0<a):n≠n+a:=bY (Nat.lt_add_of_pos_right h)
theorem nT{l n a:Nat}(h:l<n):l≠n+a:=bY (cK h (nF _ _))
theorem EJ{n l1 l2:Nat}(b:l1<n)(h2:l2<n):ZipApart (n+4) (n+2) (n+3) n (n+1) l1 l2:=
 ⟨apart qQ,apart qQ,vc qQ,apart qQ,apart qQ,(vc qQ).symm,apart qQ,(vc qQ).symm,apart qQ,vc qQ,nT b,nT b,bY b,nT b,nT h2,nT h2,bY h2,nT h2⟩
theorem A9(ys:List Int):∀n,n<=ys.length->preSum (λ i=>ys.getD i 0) n=(ys.take n).sum
 |0,_=>by simp[preSum]
 |n+1,h=>by
  rw[preSum,A9 ys n qR,lT qR,List.sum_append];simp[c6,aV (show n<ys.length by lia)]
theorem zP(D:X.calm=true):il X (.builtin "sum") (λ xs H Q=>∃(p:V0)(ys:List Int),xs=[.ref p]/\ai X.K H p (ys.map V.int)/\Q (.int ys.sum) H):=by
 intro n s O H xs us Q I r h;obtain⟨p,ys,rfl,E,q⟩:=h;obtain⟨u,rfl,G⟩:=r.one;cases G;obtain⟨c,w,j,P⟩:=I.list E;obtain⟨o,y,ω,ω,ω⟩:=id j.isList;have m:p≠s.heap.objs.size:=bY (Qi y);have hl:=w.length;rw[aA]at hl;refine call_sum_walkG (RN j.isList ?_);refine⟨s.heap.objs.size,_,_,_,_,_,λ i=>ys.getD i 0,rfl,Walks.list (A:=X.A.in1) (show X.A.in1.handled=none from I.ok.hd D) _ p m c.toArray,⟨⟨_,Qo _ rfl,rfl,rfl⟩,j.isList.at λ o e=>Qg _ e⟩,λ b J=>?_,λ i v K=>?_,λ R S T L=>?_⟩
 ·have lt:p<s.heap.objs.size:=Qi y;have e:b=s.heap.objs.size\/b=p:=by simpa using J
  show b<(s.heap.objs.push _).size;rw[Array.size_push];rcases e with e|e
  ·rw[e];exact jl _
  ·rw[e];exact lU lt
 ·have g:c[i]?=some v:=by simpa using K
  have B:i<ys.length:=by
   have:=(bG.mp g).1;lia
  obtain⟨U,C,M⟩:=w.get (i:=i) (x:=V.int ys[i]) (by rw[a_,aV B];rfl);rw[g]at C;cases C;obtain⟨t,rfl⟩:=(show ∃t,_=Rj ys[i] t from M);exact⟨t,by simp[c6,aV B]⟩
 ·have e:preSum (λ i=>ys.getD i 0) c.toArray.size=ys.sum:=by
   rw[bF,<-hl,A9 ys _ (aS _),r6]
  refine⟨.int ys.sum,H,I.kept λ b o e=>L b o (λ z=>?_) (Qg _ e),by rw[e];exact⟨_,rfl⟩,q⟩;have N:b=s.heap.objs.size:=by simpa using z
  exact T7 (Qi e) (by rw[N];exact fu _)
section
variable{P:Program}{w:Y3}{B:V3}{R:T4->M1->Prop}{it:V0}{fp wr:List V0}{n:Nat}{Y:Nat->V1->Prop}{St:Nat->Z3->Prop}
theorem sU:(toString "max"++toString ".loop":String)="max.loop":=by decide
theorem KI(kw:List (V2×V1))(W:Walks P w B.in1 it fp wr n Y St)(r:Nat->Nat->Bool)(hc:CmpOf P w B.in1 .Gt Y r)(Z:V0)(N:Z∉fp):∀(k j:Nat)(s:M1)(u:V1)(c:Nat),n-(j+1)=k->j+1<=n->St (j+1) s.heap->Y (Tb r j) u->s.heap.get? Z=some {cls:=.type "list",dict:=none,data:=.seq #[u,u] c,slots:=#[]}->(∀v h' tk,Y (Tb r (n-1)) v->(∀b o,b∉wr->b≠Z->s.heap.get? b=some o->h'.get? b=some o)->R (.ok (.ret v)) {s with heap:=h',toks:=tk})->Rm (Qn P w) B (.builtin "max.loop" ⟨[.ref it,.none,.ref Z],kw⟩) R s:=by
 have y:Z∉wr:=λ z=>N (W.sub _ z);intro k;induction k with
 |zero=>
  intro j s u c O Q I H C q;have S:j+1=n:=Nat.le_antisymm Q (vG.mp O);refine QV Tr ?_;rw[QL Rc ⟨[.ref it,.none,.ref Z],kw⟩];show Qm (Qn P w) B.in1 (seqItems? (.ref Z)>>=_) _ _ s;refine Qf (SS C rfl ?_);show Qm (Qn P w) B.in1 (tryCatch (Sf (.ref it)) _>>=_) _ _ s;refine Qf (RP (W.done s _ _ (S▸I) λ h1 tk x=>?_));have h:=x Z _ y C;show Qm (Qn P w) B.in1 (TY Z (λ ω=>#[])>>=_) _ _ _;refine Qf (Q9 h rfl (Qf (Sd (Qh ?_))));exact q u _ tk (by rw[<-S];exact H) λ b o hb g e=>(Qr _ _ (Ne.symm g)).trans (x b o hb e)
 |succ k T=>
  intro j s u c O Q I H C q;have lt:j+1<n:=by omega
  refine QV Tr ?_;rw[QL Rc ⟨[.ref it,.none,.ref Z],kw⟩];show Qm (Qn P w) B.in1 (seqItems? (.ref Z)>>=_) _ _ s;refine Qf (SS C rfl ?_);show Qm (Qn P w) B.in1 (tryCatch (Sf (.ref it)) _>>=_) _ _ s;refine Qf (RP (W.item (j+1) s _ _ lt I λ v h1 tk U D x=>?_));have h:=x Z _ y C;show Qm (Qn P w) B.in1 (tryCatch (RB [v,v] (richCompare .Gt v u>>=_)) _>>=_) _ _ _;refine Qf (RP (QC (Qf (hc (j+1) (Tb r j) v u _ _ _ U H ?_))));refine Qf (QC (Q5 (Qf (Sd (Qh ?_)))));cases G:r (j+1) (Tb r j)with
  |true=>
   rw[T6 rfl];refine Qf (Q9 h rfl (Qf (Sd ?_)));rw[sU];refine Qh ⟨QX Rc ⟨[.ref it,.none,.ref Z],kw⟩,T (j+1) _ v _ (by omega) lt (W.frame _ _ _ D λ b J o e=>?_) (by rw[Tb,G,T6 rfl];exact U) (Qy _ h rfl) λ K L m p M=>?_⟩
   ·exact(Qr _ _ (λ z:Z=b=>N (z▸J))).trans e
   ·exact q K L m p λ b o i g e=>M b o i g ((Qr _ _ (Ne.symm g)).trans (x b o i e))
  |false=>
   rw[T5 dI];refine Qf (Sd ?_);rw[sU];refine Qh ⟨QX Rc ⟨[.ref it,.none,.ref Z],kw⟩,T (j+1) _ u c (by omega) lt D (by rw[Tb,G,T5 dI];exact H) h λ K L m p M=>?_⟩;exact q K L m p λ b o i g e=>M b o i g (x b o i e)
end
theorem Lw(a d:V1):argsOk "max" ⟨[a],[(Qp "default",d)]⟩:=by unfold argsOk;kernel_rfl
section
variable{P:Program}{w:Y3}{A:V3}{E:V1->M1->Prop}{s:M1}
def rq(ys:List Int)(m:Int):Prop:=m∈ys/\∀a∈ys,a<=m
theorem Kb{ys:List Int}(h:0<ys.length):rq ys (ys.getD (Tb (λ i j=>decide (ys.getD i 0>ys.getD j 0)) (ys.length-1)) 0):=by
 obtain⟨a,b⟩:=argBest_gt (λ i=>ys.getD i 0) (ys.length-1);refine⟨?_,λ x c=>?_⟩
 ·have lt:Tb (λ i j=>decide (ys.getD i 0>ys.getD j 0)) (ys.length-1)<ys.length:=by omega
  rw[c6,aV lt];exact gQ lt
 ·obtain⟨j,g,e⟩:=List.getElem_of_mem c;have:=b j (by omega);rw[c6,aV g]at this;rw[<-e];exact this
theorem Lq{l it:V0}{its:List V1}{ys:List Int}(c:A.handled=none)(hl:ys.length=its.length)(e:∀(i:Nat)(v:V1),its[i]?=some v->∃t,v=Rj (ys.getD i 0) t)(b:l≠it):Walks P w A it [it,l] [it] its.toArray.size (λ i v=>its.toArray[i]?=some v) (λ i h=>h.IsListIter it l i/\h.IsList l its.toArray)/\CmpOf P w A .Gt (λ i v=>its.toArray[i]?=some v) (λ i j=>decide (ys.getD i 0>ys.getD j 0)):=
 ⟨Walks.list c it l b its.toArray,CmpOf.ints_gt (λ i=>ys.getD i 0) λ i v h=>e i v (by simpa using h)⟩
theorem JH{l:V0}{its:List V1}{ys:List Int}{d:V1}{Q:V1->M1->Prop}(T:A.handled=none)(pl:s.heap.IsList l its.toArray)(c:ys.length=its.length)(G:∀(i:Nat)(v:V1),its[i]?=some v->∃t,v=Rj (ys.getD i 0) t)(q:∀v h' tk,(ys=[]->v=d)->(ys≠[]->∃m t,v=.int m t/\rq ys m)->(∀b o,s.heap.get? b=some o->h'.get? b=some o)->Q v {s with heap:=h',toks:=tk}):Qm (Qn P w) A (call (.builtin "max") [.ref l] [(Qp "default",d)]) Q E s:=by
 obtain⟨ol,U,ω⟩:=id pl;have H:l<s.heap.objs.size:=Qi U;refine PyProof.Rows.kmk_tree PySem.F.kind_max PySem.F.plain_max PySem.F.entry_max (Lw _ _) ?_;show Qm (Qn P w) A.in1 (Builtin.Builtins.bindParams "max" ["key","default"] 0 ⟨[],[(Qp "default",d)]⟩>>=_) _ _ s;refine Qf (wpAny_of_eq (show Builtin.Builtins.bindParams "max" ["key","default"] 0 ⟨[],[(Qp "default",d)]⟩=pure [none,some d]from rfl) (Qf (Qh ?_)));refine Qf (RN pl (Qf (QS ?_)));rw[sU];have I:(s!"h".push {cls:=.type "list",data:=.seq #[]}).IsListIter s.heap.objs.size l 0:=⟨_,Qg _ (Qo _ rfl),rfl,rfl⟩;have J:(s!"h".push {cls:=.type "list",data:=.seq #[]}).IsList l its.toArray:=pl.at λ o e=>Qg _ (Qg _ e);have K:(s!"h".push {cls:=.type "list",data:=.seq #[]}).get? (s.heap.objs.size+1)=some {cls:=.type "list",dict:=none,data:=.seq #[] 0,slots:=#[]}:=by
  rw[show s.heap.objs.size+1=s!"h".objs.size from(QE ..).symm];exact Qo _ rfl
 have L:∀b o,s.heap.get? b=some o->(s!"h".push {cls:=.type "list",data:=.seq #[]}).get? b=some o:=λ b o e=>Qg _ (Qg _ e);rw[show s!"h".objs.size=s.heap.objs.size+1 from QE ..];generalize s!"h".push {cls:=.type "list",data:=.seq #[]}=h3 at*;refine Qh ⟨QX Rc _,?_⟩;obtain⟨W,Z⟩:=Lq (P:=P) (w:=w) (A:=A.in1) (it:=s.heap.objs.size) (l:=l) (its:=its) (ys:=ys) T c G (bY H);have x:s.heap.objs.size+1∉[s.heap.objs.size,l]:=λ z=>by
  rcases bH.mp z with z|z
  ·omega
  ·exact T7 H (by rw[<-cu.mp z];exact iV.mpr (ie _))
 refine QV Tr ?_;rw[QL Rc _];show Qm (Qn P w) A.in1 (seqItems? (.ref (s.heap.objs.size+1))>>=_) _ _ _;refine Qf (SS K rfl ?_);show Qm (Qn P w) A.in1 (tryCatch (Sf (.ref s.heap.objs.size)) _>>=_) _ _ _;by_cases g:ys=[]
 ·have p:its.toArray.size=0:=by rw[bF,<-c,g];rfl
  have st:(λ i (h:Z3)=>h.IsListIter s.heap.objs.size l i/\h.IsList l its.toArray) its.toArray.size h3:=by rw[p];exact⟨I,J⟩
  refine Qf (RP (W.done _ _ _ st λ M tk r=>?_));refine Qf (SU (Qh ?_));exact q d M tk (λ ω=>rfl) (λ z=>T7 g z) λ b o e=>r b o (λ z=>T7 (Qi e) (by rw[cu.mp z];exact fu _)) (L b o e)
 ·have N:0<ys.length:=rY.mpr g;have p:0<its.toArray.size:=by rw[bF,<-c];exact N
  refine Qf (RP (W.item 0 _ _ _ p ⟨I,J⟩ λ v M tk y C r=>?_));have O:=r _ _ (λ z=>x (bH.mpr (.inl (cu.mp z)))) K;refine Qf (Qh (Qf (Q9 O rfl ?_)));rw[sU];refine Qh ⟨QX Rc _,KI _ W _ Z _ x (its.toArray.size-1) 0 _ v _ rfl p (W.frame _ _ _ C λ b hb o e=>?_) y (Qy _ O rfl) λ u h5 D hu k5=>?_⟩
  ·exact(Qr _ _ (λ z:s.heap.objs.size+1=b=>x (z▸hb))).trans e
  ·obtain⟨t,rfl⟩:=G (Tb (λ i j=>decide (ys.getD i 0>ys.getD j 0)) (its.toArray.size-1)) _ (by rw[<-List.getElem?_toArray];exact hu);refine q _ h5 D (λ z=>T7 z g) (λ ω=>⟨_,t,rfl,?_⟩) λ b o e=>?_
   ·have:=Kb N;rw[bF,<-c];exact this
   ·have lt:=Qi e;have S:b∉[s.heap.objs.size]:=λ z=>T7 lt (by rw[cu.mp z];exact fu _);exact k5 b o S (bY (lU lt)) ((Qr _ _ (gC (lU lt))).trans (r b o S (L b o e)))
end
section
variable{X:Cx}
theorem KR{its:List V1}{ys:List Int}(b:ax (ys.map V.int) its):ys.length=its.length/\∀(i:Nat)(v:V1),its[i]?=some v->∃t,v=Rj (ys.getD i 0) t:=by
 have hl:=b.length;rw[aA]at hl;refine⟨hl,λ i v h=>?_⟩;have c:i<ys.length:=by rw[hl];exact(bG.mp h).1
 obtain⟨u,e,r⟩:=b.get (i:=i) (x:=V.int ys[i]) (by rw[a_,aV c];rfl);rw[h]at e;cases e;obtain⟨t,rfl⟩:=(show ∃t,_=Rj ys[i] t from r);exact⟨t,by rw[c6,aV c];rfl⟩
def Cf(K:X0)(t tk:TA):TE:=λ c H Q=>t c H λ vs g=>tk c g λ h e=>∃(p:V0)(b:List Int)(d:Int),vs=[.ref p]/\h=[.int d]/\ai K e p (b.map V.int)/\∀m,(b=[]->m=d)->(b≠[]->rq b m)->Q (.int m) e
theorem Ou{t tk:TA}{b:St}{Q:VK}:Cf K t tk b H Q=t b H λ vs c=>tk b c λ e H2=>∃(p:V0)(ys:List Int)(d:Int),vs=[.ref p]/\e=[.int d]/\ai K H2 p (ys.map V.int)/\∀m,(ys=[]->m=d)->(ys≠[]->rq ys m)->Q (.int m) H2:=rfl
theorem HF{e r:Expr}{t tk:TA}{p b kp:Pos}(D:X.calm=true)(G:Gl X "max")(J:X.mg "max"=none)(K:Qv "max"=some (.builtin "max"))(L:PA X [e] t)(M:PK X [⟨some "default",r,kp⟩] tk)(N:QF b (Ql [e] X.env)=(false,QA e X.env)::QF b (Ql [] X.env):=by rfl)(j:(QF b (Ql [e] X.env)).any (·.1)=false:=by rfl)(O:("max":V2)≠"__name__":=by decide)(o:(("max":V2)==("__debug__":V2))=false:=by decide):PE X (.Call (.Name "max" p) [e] [⟨some "default",r,kp⟩] b) (Cf X.K t tk):=by
 intro c s x H Q I h;refine QK (ip I G J K ?_ O o);refine R3 (aM (L b c s x H _ I h) λ us S ⟨vs,T,U,Z,q1⟩=>aM (M b c S x T _ U q1) λ ws s2 y=>?_) N j rfl rfl;obtain⟨zs,C,g,r2,l,ys,d,rfl,rfl,hq,q⟩:=y;obtain⟨u,rfl,ru⟩:=Z.one;cases ru;obtain⟨z,rfl,rz⟩:=r2.one;obtain⟨a0,rv,pl,y⟩:=g.list hq;obtain⟨hl,hv⟩:=KR rv;refine JH (g.ok.hd D) pl.isList hl hv λ v h' tk hd hx k=>?_;obtain⟨tz,rfl⟩:=(show ∃t,z=Rj d t from rz);by_cases i:ys=[]
 ·cases hd i;exact⟨.int d,C,g.kept k,⟨_,rfl⟩,q d (λ ω=>rfl) λ z=>T7 i z⟩
 ·obtain⟨m,t,rfl,im⟩:=hx i;exact⟨.int m,C,g.kept k,⟨_,rfl⟩,q m (λ z=>T7 z i) λ ω=>im⟩
end
open PySem.SeqAt
def ji(K:X0):R2:=λ x y H Q=>∃a c b,x=.ref a/\y=.ref b/\ai K H a c/\ai K H b []/\Q (.bl (!c.isEmpty)) H
def jT(K:X0):R2:=λ x y H Q=>∃a c b,x=.ref a/\y=.ref b/\ai K H a c/\ai K H b []/\Q (.bl c.isEmpty) H
variable{Q:VK}{x:V}
theorem OH{y:V}:ji K x y H Q=∃a xs b,x=.ref a/\y=.ref b/\ai K H a xs/\ai K H b []/\Q (.bl (!xs.isEmpty)) H:=rfl
theorem OE{y:V}:jT K x y H Q=∃a xs b,x=.ref a/\y=.ref b/\ai K H a xs/\ai K H b []/\Q (.bl xs.isEmpty) H:=rfl
section
variable{X:Cx}
theorem yP(i:X.A.units+64<TL):dP X (Rb .NotEq) (ji X.K):=by
 intro m s D H x y v u Q I w z h;obtain⟨a,n,b,rfl,rfl,A,B,q⟩:=h;cases w;cases z;obtain⟨C,o,p,ω⟩:=I.list A;obtain⟨r,g,c,ω⟩:=I.list B;cases g.zero;cases n with
 |nil=>
  cases o.zero;exact RcNeAt.lists (e:=λ ω=>true) p.isList c.isList rfl (pG (nF _ _) i) (λ j h=>T7 h (nE _)) X.prog X.w X.xe _ ⟨.bl false,H,I,rfl,q⟩
 |cons x n=>
  have hl:=o.length;refine RcNeAt.lists_lengths p.isList c.isList ?_ (pG (nF _ _) i) X.prog X.w X.xe _ ⟨.bl true,H,I,rfl,q⟩;rw[bF,<-hl];rfl
theorem CW(i:X.A.units+64<TL):dP X (Rb .Eq) (jT X.K):=by
 intro m s D H x y v u Q I w z h;obtain⟨a,n,b,rfl,rfl,A,B,q⟩:=h;cases w;cases z;obtain⟨C,o,p,ω⟩:=I.list A;obtain⟨r,g,c,ω⟩:=I.list B;cases g.zero;cases n with
 |nil=>
  cases o.zero;exact RcAt.lists (e:=λ ω=>true) p.isList c.isList rfl (pG (nF _ _) i) (λ j h=>T7 h (nE _)) X.prog X.w X.xe _ ⟨.bl true,H,I,rfl,q⟩
 |cons x n=>
  have hl:=o.length;refine RcAt.lists_lengths p.isList c.isList ?_ (pG (nF _ _) i) X.prog X.w X.xe _ ⟨.bl false,H,I,rfl,q⟩;rw[bF,<-hl];rfl
end
theorem wW{J:It}{y:TE}{z:Hp}{D:V0}{n:Nat}{o:St}(A:Option V)(rest:St)(B:Nat->V->Prop)(W:Nat->List V->Hp->Prop)(G:o=A::rest)(hz:n<=Qj)(I:W 0 [] (ag z D (.lst [])))(u:∀i vs H,i<n->W i vs H->J.go i H/\∀x c,J.yld i H x c->c=H/\B i x)(g:∀vs H,W n vs H->J.stop n H)(K:∀i x vs H (C:VK),i<n->B i x->W i vs H->H D=some (.lst vs)->(∀v c,c D=some (.lst vs)->W (i+1) (vs++[v]) (ag c D (.lst (vs++[v])))->C v c)->y (some x::rest) H C)(L:∀vs H,W n vs H->H D=some (.lst vs)->vs.length=n->Q (.ref D) H):gr J (fg 0) fh y D Q o (ag z D (.lst [])):=by
 refine⟨λ i m p j=>m=n-i/\i<=n/\(∃v,p=v::rest)/\∃vs,j D=some (.lst vs)/\vs.length=i/\W i vs j,⟨n,by simp,bJ _,⟨A,G⟩,[],aG,rfl,I⟩,?_⟩;rintro i m p j ⟨rfl,S,⟨v,rfl⟩,vs,E,hl,r⟩;by_cases h:i<n
 ·obtain⟨go,M⟩:=u i vs j h r;refine .inr ⟨go,λ q c=>(∃v,q=v::rest)/\∃vs,c D=some (.lst vs)/\vs.length=i+1/\W (i+1) vs c,λ q c ⟨a,b⟩=>⟨n-(i+1),qR,rfl,h,a,b⟩,λ x c N=>?_⟩;obtain⟨O,P⟩:=M x c N;subst O;unfold fg fh;rw[nG];refine jo (K i x vs _ _ h P r E λ v T R w=>?_);exact⟨vs,R,qR,⟨_,rfl⟩,_,aG,by rw[bB,hl];rfl,w⟩
 ·have e:i=n:=by lia
  subst e;exact .inl ⟨g vs j r,L vs j r E hl⟩
def u4(K:X0)(ta:TE):TT:=λ e H Q=>ta e H λ x b=>∃a c,x=.ref a/\ai K b a c/\Q (!c.isEmpty) b
theorem N6{b:TE}{c:St}{Q:Bool->Hp->Prop}:u4 K b c H Q=b c H λ x H1=>∃a xs,x=.ref a/\ai K H1 a xs/\Q (!xs.isEmpty) H1:=rfl
theorem Ic{a:Expr}{e:TE}(i:PE X a e)(j:∀b,isTrue a X.env b=(do let v<-b;Q4 a.pos;RB [v] (truthy v))):PT X a (u4 X.K e):=by
 intro c s g H Q I h;refine isTrue_plain (aM (i c s g H _ I h) λ v m n=>?_) (j _);obtain⟨x,o,p,r,a,u,rfl,w,q⟩:=n;exact Hf c m g o _ v Q p r ⟨_,.inl ⟨u,w,rfl⟩,q⟩
theorem II{c:TT}{tb:TS}{D:bc}{e:St}(j:Nat->St->Hp->Prop){o:Nat}(r:j o e H)(hs:∀m e H,j m e H->c e H λ b i=>if b=true then tb {D with nx:=λ g H'=>∃n,n<m/\j n g H',ct:=λ g H'=>∃n,n<m/\j n g H',bk:=D.nx} e i else D.nx e i)(mono:∀e H Q Q',(∀b i,Q b i->Q' b i)->c e H Q->c e H Q'):CK c tb D e H:=by
 refine⟨j,⟨o,r⟩,λ m e H p=>mono e H _ _ (λ b i q=>?_) (hs m e H p)⟩;cases b with
 |true=>exact⟨_,λ g H' h=>h,q⟩
 |false=>exact q
theorem Lr{o:Option (Option V)}{R R':V->Prop}(i:∀v,R v->R' v)(h:gh o R):gh o R':=by
 unfold gh at h ⊢;split at h
 ·exact i _ h
 ·cases h
theorem LU{i:Nat}(c:St)(H:Hp)(Q Q':Bool->Hp->Prop)(j:∀b g,Q b g->Q' b g)(h:u4 K (iJ i) c H Q):u4 K (iJ i) c H Q':=Lr (λ v ⟨a,m,e,n,q⟩=>⟨a,m,e,n,j _ _ q⟩) h
theorem IC(l:V0)(xs:Array V1)(n:Nat)(b:V0)(ys:Array V1)(m:Nat)(dd:Option V0)(i:Array (Option V1))(p:¬(!xs.isEmpty&&QP (xs.size+ys.size))=true)(j:xs.size<=Qj)(h2:xs.size+ys.size<=Qj+1):Meets (TC.«list.extend» ⟨[.ref l,.ref b],[]⟩) (λ ω R s=>s.heap.get? l=some {cls:=.type "list",dict:=none,data:=.seq xs n,slots:=#[]}/\s.heap.get? b=some {cls:=.type "tuple",dict:=dd,data:=.seq ys m,slots:=i}/\R (.ok (.ret Qz)) {s with heap:=s.heap.update l (QB λ x=>x++ys),toks:=s.toks}):=by
 refine .of_wp λ e w A R s h=>?_;obtain⟨q,g,d,r,u⟩:=s;obtain⟨hl,o,h⟩:=h;have v:=AutoSeq1.sub_tuple_tuple;have y:=AutoSeq1.sub_list_list;have z:=AutoSeq1.sub_tuple_list;have B:=AutoSeq1.sub_list_tuple;have c:(xs++ys).size<=Qj+1:=by rw[Array.size_append];exact h2
 wp_walk using(Q9 hl rfl (hz:=j) (_hz':=c)),wpAny_loadPart' hl,wpAny_loadPart' o
 exact⟨_,rfl,h⟩
def wX(K:X0):V->List V->Hp->VK->Prop:=λ x vs H Q=>∃l b c e,x=.ref l/\vs=[.ref b]/\H l=some (.lst c)/\ao K H b e/\c.length+e.length<=Qj/\Q .non (ag H l (.lst (c++e)))
theorem P0{vs:List V}:wX K x vs H Q=∃l b xs c,x=.ref l/\vs=[.ref b]/\H l=some (.lst xs)/\ao K H b c/\xs.length+c.length<=Qj/\Q .non (ag H l (.lst (xs++c))):=rfl
theorem MA:oz X "list.extend" (wX X.K):=by
 intro o s O H x vs v us Q I y A h;obtain⟨l,b,P,R,rfl,rfl,p,B,S,q⟩:=h;cases y;obtain⟨u,rfl,C⟩:=A.one;cases C;obtain⟨z,g,n,r,hl,e⟩:=I.lstM p;obtain⟨c,w,j,T⟩:=I.tuple B;obtain⟨⟨U,D,Y,E⟩,G,J,K,L⟩:=id j;cases J;cases L;have M:=w.length;have N:=r.length;have m:g.toArray.size+c.toArray.size<=Qj:=by rw[bF,bF];lia
 have i:¬(!g.toArray.isEmpty&&QP (g.toArray.size+c.toArray.size))=true:=by
  rw[w_ m,Bool.and_false];exact dI
 refine RF F.slot_list_extend ⟨_,e,rfl⟩ F.entry_list_extend (F.args_list_extend_2 _ _) (IC l g.toArray n b c.toArray K D E i (by rw[bF];lia) qR) ⟨e,G,?_⟩;refine⟨.non,_,I.lset (its':=g++c) p e s!"n" (r.append w) ?_,rfl,q⟩;rw[bB];lia
open AutoSeq1 (wpAny_loadPart')
section
variable{X:Cx}
def ki(K:X0):R2:=λ x y H Q=>∃a b c e,x=.ref a/\y=.ref b/\ao K H a c/\ao K H b e/\c.length+e.length<=Qj/\∀p g,af H g->ao K g p (c++e)->Q (.ref p) g
theorem Jy{prog:Program}{w:Y3}{A:V3}{E:V1->M1->Prop}{s:M1}{t b:V0}{o:List V1}{Q:V1->M1->Prop}(v:T3 s.heap t #[])(x:T3 s.heap b o.toArray)(h:Q (.ref b) s):Qm s!"o" A (Rt .Add (.ref t) (.ref b)) Q E s:=by
 obtain ⟨⟨y,z,p,B⟩,q,r,n,hd⟩:=id v;obtain ⟨⟨u,i,j,m⟩,c,e,C,g⟩:=id x;simp only at r hd e g;subst r hd e g;exact concat_meets ⟨_,q,rfl⟩ ⟨_,c,rfl⟩ To seq_tuple_add vM vL (vK _ _)
  (tuple_addW0 t b #[] o.toArray n C z i B m s!"n") ⟨q,c,h⟩
theorem lA:dP X (Rt .Add) (ki X.K):=by
 intro g s J H x y v u Q I n z h;obtain⟨a,b,B,K,rfl,rfl,i,j,L,q⟩:=h;by_cases C:B=[]
 ·subst C;obtain rfl:v=Qq a:=n;obtain rfl:u=Qq b:=z;obtain⟨M,r,N,ω⟩:=I.tuple i;obtain⟨D,P,m,ω⟩:=I.tuple j;cases r;exact Jy N m ⟨.ref b,H,I,rfl,q b H (af.refl H) (by simpa using j)⟩
 ·refine IM g s J H _ _ v u Q I n z ⟨a,b,B,K,rfl,rfl,i,j,C,L,λ e=>?_,λ e p O=>?_⟩
  ·subst e;exact q a H (af.refl H) (by simpa using i)
  ·exact q p _ (λ c o G=>by rw[aD (bS G O)];exact G) (ao.of aG)
end
open HT
section
variable{prog:Program}{w:Y3}{A:V3}{E:V1->M1->Prop}{s:M1}
theorem FE{t e:V0}{items:Array V1}{m n:V1}{lo hi:Option Int}{Q:V1->M1->Prop}(b:T3 s.heap t items)(hs:s.heap.IsSliceOf e m n .none)(pl:Tw m lo)(p:Tw n hi)(o:bf items.size 0 lo=0/\bf items.size items.size hi=items.size)(h:Q (.ref t) s):Qm s!"o" A (SI (.ref t) (.ref e)) Q E s:=by
 obtain⟨q,g,i,r⟩:=id hs;have j:s.TypeIs (.ref e) "slice":=⟨q,g,i⟩;unfold SI;try with_reducible refine QC ?_
 first|refine Qf (Qh ?_)|skip
 refine Qf (wpAny_sequenceKey b.typeIs qQ ?_);refine Qf (wpAny_callSpecial?_slot (name:=Qp "__getitem__") b.typeIs QW (wpAny_call_entry QW b.typeIs entry_tuple_getitem ?_ (args_tuple_getitem _ _)));show Qm _ _ (Builtin.Tuple.tupleItemsOf (.ref t)>>=_) _ _ s;refine Qf (tupleItemsOf_ b ?_);refine Qf (RU j ?_);rw[T6 qQ];refine Qf (BB hs pl p ?_);have c:(((bf items.size 0 lo:Nat):Int)==0&&(1:Int)==1&&(bf items.size items.size hi-bf items.size 0 lo)==items.size)=true:=by
  rw[o.1,o.2];simp
 show Qm _ _ (if (((bf items.size 0 lo:Nat):Int) == 0&&(1:Int) == 1&&(bf items.size items.size hi - bf items.size 0 lo) == items.size)=true then _ else _) _ _ s;rw [T6 c];refine Qf ?_;show Qm _ _ ((typeOf (.ref t)) >>= _) _ _ s;refine Qf (RU b.typeIs (Qh ?_));rw [T6 qQ];first
  |exact Qf (SU (Qh ⟨_,rfl,Qh h⟩))
  |exact Qf (Qh (Qh ⟨_,rfl,Qh h⟩))
  |exact Qh ⟨_,rfl,Qh h⟩
end
section
variable{X:Cx}
def gN(K:X0):V->Option Int->Option Int->Hp->VK->Prop:=λ x e g H Q=>∃a c,x=.ref a/\ao K H a c/\∀p b,af H b->ao K b p (bP c e g)->Q (.ref p) b
theorem nW:qZ X (gN X.K):=by
 intro b s J H x v K L j m M Q I y z B C h;obtain⟨a,xs,rfl,n,q⟩:=h;by_cases i:HT.bf xs.length 0 j=0/\HT.bf xs.length xs.length m=xs.length
 ·obtain rfl:v=Qq a:=y;obtain⟨u,r,D,O⟩:=I.tuple n;have g:u.toArray.size=xs.length:=by rw[bF];exact r.length.symm
  refine⟨"tuple",_,PyProof.Rows.slot_tuple_getitem.lookup,D.typeIs,?_⟩;refine FE D z B C (by rw[g];exact i) ⟨.ref a,H,I,rfl,q a H (af.refl H) ?_⟩;have e:bP xs j m=xs:=by
   unfold bP;rw[i.1,i.2,nC,pA,r6]
  rw[e];exact n
 ·exact Ho b s J H _ v K L j m M Q I y z B C ⟨a,xs,rfl,n,i,λ p N=>q p _ (λ c o G=>by rw[aD (bS G N)];exact G) (ao.of aG)⟩
end
def CG(K:X0):List V->Hp->VK->Prop:=λ c H Q=>∃p b,c=[V.ref p]/\((ai K H p b/\∀(l:V0),H l=none->Q (V.ref l) (ag H l (HO.tup b)))\/(ao K H p b/\Q (V.ref p) H))
theorem Pt{xs:List V}:CG K xs H Q=(∃p ys,xs=[V.ref p]/\((ai K H p ys/\∀(l:V0),H l=none->Q (V.ref l) (ag H l (HO.tup ys)))\/(ao K H p ys/\Q (V.ref p) H))):=rfl
def G9(K:X0):List V->Hp->VK->Prop:=λ c H Q=>∃p b,c=[V.ref p]/\(ai K H p b\/ao K H p b)/\∀(l:V0),H l=none->Q (V.ref l) (ag H l (HO.lst b))
section
variable{X:Cx}
def vu:V->Option Int->Option Int->Hp->VK->Prop:=λ x b c H Q=>∃z,x=.str z/\z.length<=Qj/\Q (.str (TZ z b c)) H
theorem Hl:qZ X vu:=by
 intro b s p H x v B C r w D Q I y c A n h;obtain⟨z,rfl,e,q⟩:=h;obtain⟨t,rfl⟩:=y;have fin:∀g k,EP X b p Q (.str (TZ z r w) g) {s with toks:=k}:=λ g k=>⟨.str _,H,I.tok k,⟨g,rfl⟩,q⟩;refine⟨"str",_,F.slot_str_getitem.lookup,typeIs_str _ _ _,?_⟩;cases A with
 |none=>
  cases n with
  |none=>exact Rv (l:=none) (u:=none) (st:=none) c rfl (SD ⟨cb (TH z _ _) e,fin⟩)
  |int j m=>exact Rv (l:=none) (u:=some (j,m)) (st:=none) c rfl (SD ⟨cb (TH z _ _) e,fin⟩)
 |int i o=>
  cases n with
  |none=>exact Rv (l:=some (i,o)) (u:=none) (st:=none) c rfl (SD ⟨cb (TH z _ _) e,fin⟩)
  |int j m=>exact Rv (l:=some (i,o)) (u:=some (j,m)) (st:=none) c rfl (SD ⟨cb (TH z _ _) e,fin⟩)
theorem Bj:∀{ys:List V2}{us:List V1},ax (ys.map V.str) us->StrsAre us ys
 |[],_,.nil=>.nil
 |y::r,_,.cons h t=>by
  obtain⟨b,rfl⟩:=h;exact .cons y b (Bj t)
def B6(K:X0):V->List V->Hp->VK->Prop:=λ x vs H Q=>∃z p b,x=.str z/\vs=[.ref p]/\ai K H p (b.map V.str)/\(b.map (·.length)).sum+b.length*z.length<=16777216/\Q (.str (Txt.join z b)) H
theorem wF:yp X "str.join" (B6 X.K):=by
 intro b s o H x vs v us Q I c e h;obtain⟨z,p,w,rfl,rfl,g,hl,q⟩:=h;obtain⟨t,rfl⟩:=c;obtain⟨u,rfl,i⟩:=e.one;cases i;obtain⟨j,r,m,ω⟩:=I.list g;exact join_list m.isList (by simpa using Bj r) hl λ n k=>⟨.str _,H,I.tok k,⟨n,rfl⟩,q⟩
end
section
variable{X:Cx}{N:List V2}{nl:List (Option Nat)}{scope:Rf}{cl:List (V2×V0)}{elt tg iter:Expr}{pos pos' spos:Pos}{wi:TI}{g:TG}{tc:TT}{te:TE}{i:Nat}{x:V2}
theorem Ly{h:List (V0×Obj)}{A:St}{L:bc}(P:X.N.Nodup)(hi:X.N[i]?=some x)(M:X.env.scope.names.lookup x=some .local)(D C:V0)(s' u:M1)(O:List V0)(B:St)(H' E:Hp)(j:Inv X h A E u)(Q:∀b∈O,cz X h E b)(G:u.heap.objs.size<=C)(J:Inv (X.block N scope cl C O u E) [] B H' s')(q:L.nx (A.set i (some (.ref D))) H'):Tq s!"c" X.A X.xe (some (Se (.Name x pos') X.env)) (λ ω R=>SP X h L .next R) (.ref D) C (.ok .next) s':=by
 have S:Inv X h A H' s':=AG (h2:=s'.heap) j Q G J λ b o ω e=>e;have w:∀b o,u.heap.get? b=some o->b≠C:=λ b o e=>bY (cK (Qi e) G);have n:C≠X.env.locals:=λ z=>by
  obtain⟨m,⟨o,ω,ω,r,ω⟩,ω⟩:=j.loc;exact w _ o r z.symm
 obtain⟨m,T,ω⟩:=J.loc;show Qm _ _ (Se (.Name x pos') X.env (.ref D)) _ _ _;have e:Se (.Name x pos') X.env (.ref D)=(do Q4 pos';bindName X.env x (.ref D)):=by rfl
 rw[e];refine Qf (QO (wpAny_bindName ?_));refine xT (v:=.ref D) S P hi (.inl M) rfl (λ U Y H=>?_) (.inr M);obtain⟨a,Z,ha⟩:=H;have I:C≠a:=by
  rcases ha with z|z
  ·rw[z];exact n
  ·obtain⟨v,o,r,ω⟩:=j.cell x a z;exact λ z2=>w a o r z2.symm
 refine⟨m,T.sameBut Z I,λ h' K=>⟨_,H',?_,q⟩⟩;refine Y.turned (t':=U.toks) (it:=C) (λ b o hb e=>K.extBut b o hb e) J.free n (.inr (cb j.sz G)) (λ y c e z=>?_) λ p hp z=>?_
 ·obtain⟨v,o,r,ω⟩:=j.cell y c e;exact w c o r z
 ·exact w p.1 _ (j.pin p hp).1 z
def yt(i:Nat)(t:TE):TS:=λ D b H=>t b H λ v c=>D.nx (b.set i (some v)) c
theorem jL(b:X.calm=true)(r:X.N.Nodup)(hi:X.N[i]?=some x)(u:X.env.scope.names.lookup x=some .local)(B:ak X N nl scope cl)(j:PI X tg iter wi)(w:∀C c s H,PG (X.block N scope cl C c s H) tg g)(y:∀C c s H,PE (X.block N scope cl C c s H) elt te)(hs:∀x,Q6 iter X.env x=pure x:=by intro _;rfl)(m:Sk s!"l" (some (.Name x pos')) spos.line X.env=pure true:=by rfl):PS X (.Assign [.Name x pos'] s!"l" spos) (yt i (mr wi nl g fh te)):=by
 intro e s A H D I h;rw[exec_Assign_Name_used _ _ _ _ m];refine Qf (QO (Qf ?_));show Qm _ _ (evalThenUse s!"l" X.env _) _ _ _;unfold evalThenUse;refine Qf ?_;exact aM (xy (Q:=λ v n=>D.nx (A.set i (some v)) n) (tst:=λ ω=>pure true) (Q':=λ ω p=>SP X e D .next p) b B j w (λ ω ω ω ω=>wj) y wU hs I h (λ E C G K c o n L M O P J q=>Ly r hi u E C G K c o n L M O P J q) _) λ ω p z=>Qh (Qh z)
end
theorem OM{c:TI}{nl:List (Option Nat)}{g:TG}{e:TT}{h:TE}{b:St}:mr c nl g e h b H Q=(c b H λ J i=>∀D,i D=none->gr J g e h D Q (bT nl b) (ag i D (.lst []))):=rfl
theorem N_{i:Nat}{t:TE}{D:bc}{b:St}:yt i t D b H=(t b H λ v H'=>D.nx (b.set i (some v)) H'):=rfl
theorem Nm{y:V}:jU K x y H Q=(∃d e,dm K H x d/\dm K H y e/\shaped d=true/\shaped e=true/\Q (.bl (RG d e)) H):=rfl
theorem Nv{y:V}:gO K x y H Q=(∃d e,dm K H x d/\dm K H y e/\shaped d=true/\shaped e=true/\Q (.bl (!RG d e)) H):=rfl
theorem NX{b:TA}{c:St}{R:It->Hp->Prop}:B7 K b c H R=(b c H λ vs e=>∃a,vs=[.ref a]/\(∃xs,ai K e a xs)/\R (vh K a) e):=rfl
end L2
end
section
namespace PW
open PySem P15
inductive Vl|int(i:Int)|bl(b:Bool)|thing(n:Nat)
structure Wd where
 name:V2
 params:List (V2×V2)
 kind:V2
 body:Tm
structure Hs where
 name:V2
 elder:Option V2
 fields:List (V2×V2)
 words:List Wd
structure Pg where
 houses:List Hs
 main:Wd
structure Sc where
 house:Option V2
 own:Option Vl
 bound:List (V2×Vl)
inductive Wt|walk(t:Tm)(s:Sc)|choose(t:Tm)(s:Sc)|finish(t:Tm)(s:Sc)|leave
structure Ws where
 wait:List Wt
 known:List Vl
 made:List (V2×List Vl)
 counted:Nat
 within:Nat
 ended:Option (List V2)
def gv{α:Type}(xs:List α)(x:α)(i:Nat):Prop:=xs[i]?=some x/\∀j,j<i->xs[j]?≠some x
def Look(P:Pg)(h:V2)(H:Hs):Prop:=H∈P.houses/\H.name=h
inductive aL(P:Pg):V2->List V2->Prop
 |top{h:V2}{H:Hs}:Look P h H->H.elder=none->aL P h []
 |up{h e:V2}{H:Hs}{es:List V2}:Look P h H->H.elder=some e->aL P e es->aL P h (e::es)
inductive lG(P:Pg)(w:V2):List V2->V2->Nat->Wd->Prop
 |here{h:V2}{H:Hs}{es:List V2}{i:Nat}{d:Wd}:Look P h H->gv (H.words.map Wd.name) w i->H.words[i]?=some d->lG P w (h::es) h i d
 |there{h h':V2}{H:Hs}{es:List V2}{i:Nat}{d:Wd}:Look P h H->w∉H.words.map Wd.name->lG P w es h' i d->lG P w (h::es) h' i d
inductive cm(P:Pg):List V2->List (V2×V2)->Prop
 |nil:cm P [] []
 |cons{h:V2}{H:Hs}{l:List V2}{fs:List (V2×V2)}:Look P h H->cm P l fs->cm P (h::l) (H.fields++fs)
def oq(P:Pg)(h f:V2)(j:Nat):Prop:=∃e fs,aL P h e/\e.length<=100/\cm P (h::e).reverse fs/\fs.length<=100/\gv (fs.map Prod.fst) f j
def j8(k:V2)(v:Vl)(b:List (V2×Vl)):List (V2×Vl):=if(b.any λ p=>decide (p.1=k))=true then b.map (λ p=>if p.1=k then(p.1,v)else p)else b++[(k,v)]
def uM:List (V2×Vl)->List (V2×Vl)->List (V2×Vl)
 |b,[]=>b
 |b,(k,v)::r=>uM (j8 k v b) r
def mh(k:V2)(b:List (V2×Vl)):Option Vl:=(b.find? λ p=>decide (p.1=k)).map (·.2)
inductive mY(P:Pg)(most:Nat)(h wd:V2)(x:Vl)(vs:List Vl):Ws->Ws->Prop
 |dry{W k m c w}:most<=c->mY P most h wd x vs ⟨W,k,m,c,w,none⟩ ⟨W,k,m,c,w,some ["dry"]⟩
 |EX{W k m c w}:c<most->40<=w->mY P most h wd x vs ⟨W,k,m,c,w,none⟩ ⟨W,k,m,c+1,w,some ["deep"]⟩
 |go{W k m c w es h' i d}:c<most->w<40->aL P h es->es.length<=100->lG P wd (h::es) h' i d->d.params.length<=100->mY P most h wd x vs ⟨W,k,m,c,w,none⟩ ⟨.walk d.body ⟨some h',some x,uM [] ((d.params.map Prod.fst).zip vs)⟩::.leave::W,k,m,c+1,w+1,none⟩
def Bd(n:Int):Prop:=-1000000000000000<=n/\n<=1000000000000000
inductive jN:V2->Vl->Vl->Option Vl->List V2->Prop
 |add{a b:Int}:Bd a->Bd b->Bd (a+b)->jN "+" (.int a) (.int b) (some (.int (a+b))) []
 |sub{a b:Int}:Bd a->Bd b->Bd (a-b)->jN "-" (.int a) (.int b) (some (.int (a-b))) []
 |mul{a b:Int}:Bd a->Bd b->Bd (a*b)->jN "*" (.int a) (.int b) (some (.int (a*b))) []
 |great{a b:Int}:Bd a->Bd b->¬Bd (a*b)->jN "*" (.int a) (.int b) none ["refused","great"]
 |nought{a:Int}:Bd a->jN "/" (.int a) (.int 0) none ["refused","nought"]
 |less{a b:Int}:Bd a->Bd b->jN "<" (.int a) (.int b) (some (.bl (decide (a<b)))) []
def uL:Fm->Lb->Prop
 | .iff,_=>True
 | .lt,_=>True
 | .two,.str s=>s=";"
 |_,_=>False
def j_:Fm->Prop
 | .number| .truth| .name| .self=>True
 |_=>False
inductive Step(P:Pg)(most:Nat):Ws->Ws->Prop
 |num{W k m c w s i}:Step P most ⟨.walk (.mk .number (.int i) []) s::W,k,m,c,w,none⟩ ⟨W,.int i::k,m,c,w,none⟩
 |tru{W k m c w s b}:Step P most ⟨.walk (.mk .truth (.bl b) []) s::W,k,m,c,w,none⟩ ⟨W,.bl b::k,m,c,w,none⟩
 |name{W k m c w s x v}:mh x s.bound=some v->Step P most ⟨.walk (.mk .name (.str x) []) s::W,k,m,c,w,none⟩ ⟨W,v::k,m,c,w,none⟩
 |self{W k m c w s v}:s.own=some v->Step P most ⟨.walk (.mk .self .non []) s::W,k,m,c,w,none⟩ ⟨W,v::k,m,c,w,none⟩
 |cho{W k m c w s f l p ps}:uL f l->ps.length<=10->Step P most ⟨.walk (.mk f l (p::ps)) s::W,k,m,c,w,none⟩ ⟨.walk p s::.choose (.mk f l (p::ps)) s::W,k,m,c,w,none⟩
 |fin{W k m c w s f l ps}:¬uL f l->¬j_ f->ps.length<=10->Step P most ⟨.walk (.mk f l ps) s::W,k,m,c,w,none⟩ ⟨ps.map (Wt.walk · s)++.finish (.mk f l ps) s::W,k,m,c,w,none⟩
 |lt{W k m c w s x p q v}:s.bound.length<=100->Step P most ⟨.choose (.mk .lt (.str x) [p,q]) s::W,v::k,m,c,w,none⟩ ⟨.walk q ⟨s.house,s.own,j8 x v s.bound⟩::W,k,m,c,w,none⟩
 |iff{W k m c w s p q r b}:Step P most ⟨.choose (.mk .iff .non [p,q,r]) s::W,.bl b::k,m,c,w,none⟩ ⟨.walk (if b then q else r) s::W,k,m,c,w,none⟩
 |seq{W k m c w s p q v}:Step P most ⟨.choose (.mk .two (.str ";") [p,q]) s::W,v::k,m,c,w,none⟩ ⟨.walk q s::W,k,m,c,w,none⟩
 |two{W k m c w s g p q a b v e}:jN g a b (some v) e->Step P most ⟨.finish (.mk .two (.str g) [p,q]) s::W,b::a::k,m,c,w,none⟩ ⟨W,v::k,m,c,w,none⟩
 |refuse{W k m c w s g p q a b e}:jN g a b none e->Step P most ⟨.finish (.mk .two (.str g) [p,q]) s::W,b::a::k,m,c,w,none⟩ ⟨W,k,m,c,w,some e⟩
 |new{W k m c w s h ps vs}:vs.length=ps.length->ps.length<=10->Step P most ⟨.finish (.mk .new (.str h) ps) s::W,vs.reverse++k,m,c,w,none⟩ ⟨W,.thing m.length::k,m++[(h,vs)],c,w,none⟩
 |field{W k m c w s f p n h inn j v}:m[n]?=some (h,inn)->oq P h f j->inn[j]?=some v->Step P most ⟨.finish (.mk .field (.str f) [p]) s::W,.thing n::k,m,c,w,none⟩ ⟨W,v::k,m,c,w,none⟩
 |set{W k m c w s f p q n h inn j v}:m[n]?=some (h,inn)->oq P h f j->j<inn.length->Step P most ⟨.finish (.mk .set (.str f) [p,q]) s::W,v::.thing n::k,m,c,w,none⟩ ⟨W,v::k,m.set n (h,inn.set j v),c,w,none⟩
 |call{W k m c w s f ps vs n h inn S}:vs.length+1=ps.length->ps.length<=10->m[n]?=some (h,inn)->mY P most h f (.thing n) vs ⟨W,k,m,c,w,none⟩ S->Step P most ⟨.finish (.mk .call (.str f) ps) s::W,vs.reverse++.thing n::k,m,c,w,none⟩ S
 |elder{W k m c w s f ps vs h e es v S}:vs.length=ps.length->ps.length<=10->s.house=some h->s.own=some v->aL P h (e::es)->es.length<100->mY P most e f v vs ⟨W,k,m,c,w,none⟩ S->Step P most ⟨.finish (.mk .elder (.str f) ps) s::W,vs.reverse++k,m,c,w,none⟩ S
 |leave{W k m c w}:Step P most ⟨.leave::W,k,m,c,w+1,none⟩ ⟨W,k,m,c,w,none⟩
inductive qV(P:Pg)(most:Nat):Nat->Ws->Ws->Prop
 |refl{S}:qV P most 0 S S
 |step{n S S' S''}:Step P most S S'->qV P most n S' S''->qV P most (n+1) S S''
end PW
end
section
namespace WK
open PySem L2 P15 TM PW
inductive A2{α β:Type}(R:α->β->Prop):List α->List β->Prop
 |nil:A2 R [] []
 |cons{a:α}{b:β}{as:List α}{bs:List β}:R a b->A2 R as bs->A2 R (a::as) (b::bs)
section
variable{α β:Type}{R R':α->β->Prop}
theorem A2.len:∀{b:List α}{bs:List β},A2 R b bs->b.length=bs.length:=λ h=>by
 induction h with
 |nil=>rfl
 |cons _ _ e=>exact congrArg (·+1) e
theorem A2.monoM:∀{e:List α}{bs:List β},A2 R e bs->(∀a b,a∈e->R a b->R' a b)->A2 R' e bs:=λ h f=>by
 induction h with
 |nil=>exact .nil
 |cons a _ g=>exact .cons (f _ _ dR a) (g λ a b m=>f a b (dz _ m))
theorem A2.mono{e:List α}{bs:List β}(h:A2 R e bs)(f:∀a b,R a b->R' a b):A2 R' e bs:=h.monoM λ a b ω=>f a b
theorem A2.app:∀{i b:List α}{bs e:List β},A2 R i bs->A2 R b e->A2 R (i++b) (bs++e):=λ h g=>by
 induction h with
 |nil=>exact g
 |cons a _ j=>exact .cons a j
theorem A2.snoc{e:List α}{bs:List β}{a:α}{b:β}(h:A2 R e bs)(r:R a b):A2 R (e++[a]) (bs++[b]):=h.app (.cons r .nil)
theorem A2.at:∀{e:List α}{bs:List β}{i:Nat}{a:α},A2 R e bs->e[i]?=some a->∃b,bs[i]?=some b/\R a b
 |_,_,0,_,.cons r _,h=>by cases h;exact⟨_,rfl,r⟩
 |_,_,i+1,_,.cons _ t,h=>t.at (i:=i) h
theorem A2.to:∀{e:List α}{bs:List β}{i:Nat}{b:β},A2 R e bs->bs[i]?=some b->∃a,e[i]?=some a/\R a b
 |_,_,0,_,.cons r _,h=>by cases h;exact⟨_,rfl,r⟩
 |_,_,i+1,_,.cons _ t,h=>t.to (i:=i) h
theorem A2.of:∀{g:List α}{bs:List β},g.length=bs.length->(∀(j:Nat) a,g[j]?=some a->∃b,bs[j]?=some b/\R a b)->A2 R g bs
 |[],[],_,_=>.nil
 |a::g,b::bs,e,h=>by
  obtain⟨o,i,r⟩:=h 0 a rfl;cases i;exact .cons r (A2.of (nB e) λ j m n=>h (j+1) m n)
end
structure CS where
 term:V0
 word:V0
 house:V0
 program:V0
 hall:V0
 scope:V0
 waits:V0
 walk:V0
 bs:Hp
structure Kw(C:V0)(H H':Hp):Prop where
 t:∀b xs,H b=some (.tup xs)->H' b=some (.tup xs)
 z:∀b o xs,H b=some (.frz o (.tup xs))->H' b=some (.frz o (.tup xs))
 i:∀b D dx f fs,D≠C->H b=some (.ins D dx (f::fs))->H' b=some (.ins D dx (f::fs))
 d:∀b kvs,H b=some (.dK kvs)->H' b=some (.dK kvs)
section
variable{C:V0}{H H' H'':Hp}{K:X0}
theorem Kw.kt(k:Kw C H H'):Kt H H':=⟨k.t,k.z⟩
theorem gZ{g:Hp}{x:V0}(s:af H g)(h:SX x g H')(n:H x=none):af H H':=λ b o e=>h b o (bS e n) (s b o e)
mutual
theorem TO.kw{D:V0}(n:D≠C)(k:Kw C H H'):∀{v:V}{t:Tm},TO K D H v t->TO K D H' v t
 |_,_,.mk a b c d e=>.mk (k.i _ _ _ _ _ n a) (ao.kt b k.kt) (cE.kw n k c) (ao.kt d k.kt) (e.kt k.kt)
theorem cE.kw{D:V0}(n:D≠C)(k:Kw C H H'):∀{vs:List V}{ts:List Tm},cE K D H vs ts->cE K D H' vs ts
 |_,_,.nil=>.nil
 |_,_,.cons h b=>.cons (TO.kw n k h) (cE.kw n k b)
end
end
noncomputable def oS:Option V2->V
 |none=>.non
 |some s=>.str s
noncomputable def pairsD(ps:List (V2×V2)):PyData:=.tuple (ps.map λ p=>.tuple [.str p.1,.str p.2])
noncomputable def kq(d:Wd):PyData:=.tuple [.str d.name,pairsD d.params,.str d.kind,d.body.dat]
noncomputable def oD:Option V2->PyData
 |none=>.none
 |some s=>.str s
noncomputable def km(h:Hs):PyData:=.tuple [.str h.name,oD h.elder,pairsD h.fields,.tuple (h.words.map kq)]
noncomputable def k9(P:Pg):PyData:=.tuple [.tuple (P.houses.map km),.tuple [pairsD P.main.params,.str P.main.kind,P.main.body.dat]]
inductive e_(K:X0)(c:CS)(H:Hp):V->Wd->Prop
 |mk{a dx pt:V0}{bv:V}{d:Wd}:H a=some (.ins c.word dx [("name",.str d.name),("params",.ref pt),("kind",.str d.kind),("body",bv)])->RT K H (.ref pt) (pairsD d.params)->TO K c.term H bv d.body->e_ K c H (.ref a) d
inductive eQ(K:X0)(c:CS)(H:Hp):V->Hs->Prop
 |mk{a dx ft wt:V0}{ws:List V}{h:Hs}:H a=some (.ins c.house dx [("name",.str h.name),("elder",oS h.elder),("own_fields",.ref ft),("own_words",.ref wt)])->RT K H (.ref ft) (pairsD h.fields)->ao K H wt ws->A2 (e_ K c H) ws h.words->eQ K c H (.ref a) h
inductive iP(K:X0)(c:CS)(H:Hp):V->Pg->Prop
 |mk{a dx ht:V0}{hs:List V}{mv:V}{P:Pg}:H a=some (.ins c.program dx [("all_houses",.ref ht),("main",mv)])->ao K H ht hs->A2 (eQ K c H) hs P.houses->e_ K c H mv P.main->iP K c H (.ref a) P
structure iN(d:Wd):Prop where
 ok:P15.Ok d.body
 fl:d.body.flat.length<=100
 pl:d.params.length<=100
structure kQ(h:Hs):Prop where
 wd:∀d∈h.words,iN d
 fl:h.fields.length<=100
 wl:h.words.length<=100
structure lL(P:Pg):Prop where
 nd:(P.houses.map Hs.name).Nodup
 hs:∀h∈P.houses,kQ h
inductive gw(K:X0)(c:CS)(H:Hp):V->Pg->Prop
 |mk{a dx io d:V0}{kvs:List (bD×V)}{P:Pg}:H a=some (.ins c.hall dx [("in_order",.ref io),("by_name",.ref d)])->H d=some (.dK kvs)->A2 (λ kv h=>kv.1=.inr h.name/\eQ K c H kv.2 h) kvs P.houses->lL P->gw K c H (.ref a) P
section
variable{K:X0}{H H':Hp}{c:CS}
theorem e_.same{v:V}{d:Wd}(h:e_ K c H v d)(s:af H H'):e_ K c H' v d:=by
 cases h with
 |mk a b t=>exact .mk (s _ _ a) (b.same s) (t.kp (Kp.of s))
theorem eQ.same{v:V}{d:Hs}(h:eQ K c H v d)(s:af H H'):eQ K c H' v d:=by
 cases h with
 |mk a b q t=>exact .mk (s _ _ a) (b.same s) (ao.kp q (Kp.of s)) (t.mono λ ω ω r=>r.same s)
theorem iP.same{v:V}{d:Pg}(h:iP K c H v d)(s:af H H'):iP K c H' v d:=by
 cases h with
 |mk a q t m=>exact .mk (s _ _ a) (ao.kp q (Kp.of s)) (t.mono λ ω ω r=>r.same s) (m.same s)
theorem gw.same{v:V}{P:Pg}(h:gw K c H v P)(s:af H H'):gw K c H' v P:=by
 cases h with
 |mk a d r n=>exact .mk (s _ _ a) (s _ _ d) (r.mono λ ω ω r=>⟨r.1,r.2.same s⟩) n
theorem vl{hs:List Hs}:(hs.map Hs.name).Nodup->∀a b,a∈hs->b∈hs->a.name=b.name->a=b:=by
 induction hs with
 |nil=>intro _ a b h;cases h
 |cons x r o=>
  intro n a b p q e;rw[eP,lX]at n;rcases bH.mp p with j|g<;>rcases bH.mp q with m|i
  ·rw[j,m]
  ·exact T7 (by rw[<-j,e];exact iF i) n.1
  ·exact T7 (by rw[<-m,<-e];exact iF g) n.1
  ·exact o n.2 a b g i e
theorem JR{hs:List Hs}{kvs:List (bD×V)}(r:A2 (λ i h=>i.1=.inr h.name/\eQ K c H i.2 h) kvs hs)(n:(hs.map Hs.name).Nodup){x:Hs}(b:x∈hs):∃v,bg kvs (.inr x.name)=some v/\eQ K c H v x:=by
 induction r with
 |nil=>cases b
 |@cons p q m bs e _ j=>
  rw[eP,lX]at n;by_cases g:q.name=x.name
  ·rcases bH.mp b with rfl|b
   ·exact⟨p.2,i7 e.1,e.2⟩
   ·exact T7 (g▸iF b) n.1
  ·rcases bH.mp b with rfl|b
   ·exact T7 rfl g
   ·rw[iL (by rw[e.1];exact λ z=>g (Sum.inr.inj z))];exact j n.2 b
end
noncomputable def MN(hl wA ml:V0)(most c w:Nat)(ev:V):List (V2×V):=[("hall",.ref hl),("most",.int most),("waits",.ref wA),("made",.ref ml),("counted",.int c),("within",.int w),("ended",ev)]
structure Ad where
 dx:V0
 hl:V0
 wA:V0
 dw:V0
 wl:V0
 kl:V0
 ml:V0
 ev:V
 ws:List V
 ks:List V
 mz:List (V×V0)
end WK
end
section
namespace L2
open PySem PySem.Spec PyProof.Rows
theorem A8:entryFor table "dict.update.loop"=some TC.«dict.update.loop»:=entryFor_of_tree (by kernel_rfl)
theorem qz:plainId "dict.update.loop"=true:=by decide+kernel
def eX(ks:Nat->bD)(ys:Nat->V):Nat->List (bD×V)
 |0=>[]
 |i+1=>bV (eX ks ys i) (ks i) (ys i)
theorem sN(ks:Nat->bD)(ys:Nat->V):∀i,(eX ks ys i).length<=i
 |0=>aS _
 |i+1=>by
  have:=x_ (eX ks ys i) (ks i) (ys i);have:=sN ks ys i;show(bV _ _ _).length<=_;omega
section
variable{P:Program}{w:Y3}{B:V3}{E:V1->M1->Prop}{it Z:V0}{n:Nat}{St:Nat->Array V1->M1->Prop}{Fin:Array V1->M1->Prop}{R:T4->M1->Prop}
theorem Ag(W:oE P w B.in1 it Z n St Fin)(fr:∀(i:Nat)(c:Array V1)(s:M1)(h':Z3)(t:Nat),St i c s->(∀b o,b≠Z->s.heap.get? b=some o->h'.get? b=some o)->s.heap.objs.size<=h'.objs.size->St i c {s with heap:=h',toks:=t})(ks:Nat->bD)(ys:Nat->V)(N:∀(i:Nat)(c:Array V1)(v:V1)(s:M1),i<n->St (i+1) (c.push v) s->∃T j h o m,v=.ref T/\s.heap.get? T=some o/\o.cls=.type "tuple"/\o.data=.seq #[j,h] m/\(fE P w).is (ks i) j=true/\RelV (ys i) h)(O:n<=Qj)(res:V1):∀(k i:Nat)(s:M1)(c:Array V1)(vs:List (bD×V1)),n-i=k->i<=n->St i c s->KV (eX ks ys i) vs->s.heap.DictOf (fE P w) Z vs->(∀p r u,Fin r p->KV (eX ks ys n) u->p.heap.DictOf (fE P w) Z u->R (.ok (.ret res)) p)->Rm (Qn P w) B (.builtin "dict.update.loop" ⟨[.ref Z,.ref it,QJ i,res],[]⟩) R s:=by
 intro k;induction k with
 |zero=>
  intro i s c vs J C D A g q;have Q:i=n:=Nat.le_antisymm C (vG.mp J);subst Q;refine QV A8 ?_;rw[QL qz ⟨[.ref Z,.ref it,QJ i,res],[]⟩];show Qm (Qn P w) B.in1 (Sf (.ref it)>>=_) _ _ s;refine Qf (W.done c s _ _ D λ p f G=>?_);show Qm _ _ (Builtin.Dict.addKeywords Z []>>=_) _ _ _;exact Qf (Qh (Qh (q p c vs f A (g.at G))))
 |succ k S=>
  intro i s c vs J C D A g q;have lt:i<n:=by omega
  refine QV A8 ?_;rw[QL qz ⟨[.ref Z,.ref it,QJ i,res],[]⟩];show Qm (Qn P w) B.in1 (Sf (.ref it)>>=_) _ _ s;refine Qf (W.item i c s _ _ lt D λ v K x G=>?_);obtain⟨T,j,h,⟨oc,U,X,Y⟩,m,rfl,L,y,z,H,I⟩:=N i c v K lt x;dsimp only at y z;subst y z;have g1:=g.at G;dsimp only;refine Qf (QC (Qf (RP ?_)));unfold Builtin.Dict.pairItems;refine Qf (RU (T:="tuple") ⟨_,L,rfl⟩ ?_);have e0:(Rg "tuple"==Rg "list"||Rg "tuple"==Rg "tuple")=true:=by decide
  rw[T6 e0];unfold seqItems?;refine Qf (Qf (wpAny_load L (Qh ?_)));refine Qh ?_;show Qm (Qn P w) B.in1 (RB [j,h] (dictSet Z j h)) _ _ _;have hl:vs.length<=Qj:=by
   rw[<-A.length];exact cb (sN ks ys i) (cb C O)
  refine QC (wpAny_dictSet_pairs (hsz:=hl) H g1 λ h' dd M=>?_);refine Qh ⟨QX qz ⟨[.ref Z,.ref it,QJ ((i:Int)+1),res],[]⟩,?_⟩;exact S (i+1) _ (c.push (.ref T)) (stored vs (ks i) h) (by omega) lt (fr (i+1) _ K h' _ x (λ b o hb e=>(M.2 b hb).trans e) (lY M.1.symm)) (KV.put A (ks i) I) dd q
end
noncomputable def EH(ks:List V2)(ys:List V):List (bD×V):=eX (λ i=>.inr (ks.getD i "")) (λ i=>ys.getD i .non) (min ks.length ys.length)
section
variable{X:Cx}{aa:List (V0×Obj)}{σ:St}{H1:Hp}{s1:M1}{l1 l2:V0}{xs ys:List V}
def CF:V->List V->Hp->VK->Prop:=λ x vs H Q=>∃(l:V0)(b:List V2)(k:V2)(j:Nat),x=.ref l/\vs=[.str k]/\H l=some (.lst (b.map V.str))/\b[j]?=some k/\(∀i,i<j->b[i]?≠some k)/\Q (.int j) H
theorem Pz{x:V}{vs:List V}{H:Hp}{Q:VK}:CF x vs H Q=∃(l:V0)(ks:List V2)(k:V2)(j:Nat),x=.ref l/\vs=[.str k]/\H l=some (.lst (ks.map V.str))/\ks[j]?=some k/\(∀i,i<j->ks[i]?≠some k)/\Q (.int j) H:=rfl
theorem oj:∀ks:List V2,(ks.map V.str).all i4=true
 |[]=>rfl
 |_::ks=>by rw[eP,List.all_cons,oj ks];rfl
theorem Es:oz X "list.index" CF:=by
 intro aa s σ H x vs v us Q I P R h;obtain⟨l,A,k,j,rfl,rfl,S,M,G,q⟩:=h;cases P;obtain⟨u,rfl,T⟩:=R.one;obtain⟨z,c,n,r,hl,e⟩:=I.lstM S;have Y:=mE;have B:j<c.length:=by
  rw[<-hl,aA];exact(bG.mp M).1
 have C:∀(m:Nat)(E:m<c.toArray.size),∃D,A[m]?=some D/\gn (.str k) c.toArray[m]=gS (.str D) (.str k):=λ m E=>by
  have p:m<c.length:=by simpa using E
  have N:m<A.length:=by rw[<-hl,aA]at p;exact p
  obtain⟨w,O,J⟩:=r.get (i:=m) (x:=.str A[m]) (by rw[a_,aV N];rfl);refine⟨A[m],aV N,?_⟩;have:c.toArray[m]=w:=by
   rw[aV p]at O;simpa using O
  rw[this,yQ J rfl]
 refine RF F.slot_list_index ⟨_,e,rfl⟩ F.entry_list_index (F.args_list_index_2 _ _) (SeqAt.list_indexAt l c.toArray n none #[] u (gn (.str k)) j (by simpa using B) qR ?_ ?_) ⟨e,λ y U=>oe T rfl r (oj A) y (by simpa using U),?_⟩
 ·obtain⟨D,g,K⟩:=C j (by simpa using B);rw[K];rw[M]at g;cases g;simp[gS]
 ·intro m E L;obtain⟨D,g,K⟩:=C m E;rw[K];have:=G m L;rw[g]at this;have:D≠k:=λ z=>this (by rw[z]);simp[gS,this]
 ·exact⟨.int j,H,I.kept (t':=s.toks+1) (λ b o e=>e),⟨_,rfl⟩,q⟩
end
variable{X:Cx}
def jC(mg:V2->Option V1)(base:Z3):Prop:=∃b o,mg "__builtins__"=some (.ref b)/\b≠Sj/\b≠Qu/\base.get? b=some o/\o.cls=.type "module"/\o.dict=some Sj/\o.data=.plain
section
variable{X:Cx}{aa:List (V0×Obj)}{σ:List (Option V)}{H:Hp}{s:M1}
theorem Inv.grown{P:V0}{ps more:Array V1}{h':Z3}{tk:Nat}(I:Inv X aa σ H s)(h:H P=some (.tbl ps))(k:∀b o,b≠P->s.heap.get? b=some o->h'.get? b=some o)(j:h'.get? P=some {cls:=.none,data:=.fields (ps++more)}):Inv X aa σ (ag H P (.tbl (ps++more))) {s with heap:=h',toks:=tk}:=by
 have i:∀b,H b=none->b≠P:=λ b n z=>by rw[z,h]at n;cases n
 refine I.step (g':=s.gens) (d':=s.drawn) (ch:=[]) (λ ω z=>nomatch z) (λ b o ω ω ω e n=>k b o (i b n) e) (λ b o ω ω ω e n=>⟨o.slots,k b o (i b n) e⟩) (λ b o ω ω n=>by rw [aD (i b n)]; exact n) (λ b o ω e=>?_)
  (λ b p e=>by rw[aD (jt e h (λ z=>by cases z))];exact e) (λ b o u e=>by rw[aD (jt e h (λ z=>by cases z))];exact e) (λ b E e=>?_) (λ m w=>?_) (λ b u e=>?_) I.bare
 ·by_cases g:b=P
  ·exact⟨_,g▸j⟩
  ·exact⟨o,k b o g e⟩
 ·by_cases g:b=P
  ·subst g;rw[h]at e;cases e;exact⟨more,aG⟩
  ·exact⟨#[],by rw[aD g,e];simp⟩
 ·obtain⟨o,x,B,C,r⟩:=w;exact⟨o,x,B,k _ o (i _ I.free) C,r⟩
 ·by_cases g:b=P
  ·subst g;rw[aG]at e;cases e;exact j
  ·rw[aD g]at e;refine(I.hok b u e).stay (λ c v D q=>k c v ?_ q) (λ c q=>?_) λ c p q=>?_
   ·rcases D with z|z
    ·rw[z];exact g
    ·exact jt z h (λ z=>by cases z)
   ·rw[aD (jt q h (λ z=>by cases z))];exact q
   ·rw[aD (jt q h (λ z=>by cases z))];exact q
theorem Inv.pin1{p:V0×Obj}(I:Inv X aa σ H s)(h:s.heap.get? p.1=some p.2)(e:H p.1=none)(hl:X.s₀.heap.objs.size<=p.1)(g:p.1≠X.env.locals)(hd:∀v,p.2.data≠.cell v):Inv X (p::aa) σ H s:=by
 refine I.pins_of λ q b=>?_;rcases bH.mp b with rfl|b
 ·exact⟨h,e,g,λ z=>by
   obtain⟨ω,o,i,ω⟩:=I.ok.funs.mem z;exact T7 (cK (Qi i) hl) (fu _),hd⟩
 ·exact I.pin q (dY _ b)
theorem zy{g:SK}{i:Expr}{scope:Rf}{m:Pos}{c P:V0}{ps:Array V1}{j:List (V2×V0)}{Q:V1->M1->Prop}{E:V1->M1->Prop}(I:Inv X aa σ H s)(L:jC X.mg X.base)(r:X.env.code=.ref c)(C:W.CodeHd X.base c P)(M:H P=some (.tbl ps))(ht:TriplesOk ps.toList)(O:codeAmong m ps.toList=none)(R:Tz scope X.env=pure j)(w:defaultsOf g X.env=([],[]))(h:∀f c' K q pm vs t Z,(K:Obj).data=.fields vs->vs[1]?=some (.str (X.env.qual++"<lambda>") t)->Inv X ((f,Sr "<lambda>" (X.env.qual++"<lambda>") g i scope j pm c' q)::(c',K)::aa) σ (ag H P (.tbl (ps++#[QJ m.line,QJ m.col,.ref c']))) Z->Q (.ref f) Z):Qm s!"c" X.A (QA (.Lambda g i scope m) X.env) Q E s:=by
 obtain⟨bm,o,b1,b2,b3,b4,b5,b6,b7⟩:=L;have x:s.heap.get? P=some (W.tabObj ps):=I.hok P _ M;have hg:s.heap.Ns Qu X.mg:=I.mod.glob.keeps I.bk;have nP:∀b B,X.base.get? b=some B->b≠P:=λ b B e z=>by
  have:=(I.bs b B e).2;rw[z,M]at this;cases this
 have S:Qu≠P:=by
  obtain⟨og,es,ep,e,ω⟩:=I.mod.glob;exact nP _ _ e
 refine W.kla_eval w (W.kla_makeFunction (mg:=X.mg) R I.ok.glob hg r (C.keeps I.bk) x ht O S ⟨bm,o,b1,b2,b3,nP _ _ b4,I.bk _ _ b4,b5,b6,b7⟩ λ c' q T tk hx n u D G=>?_);obtain⟨a0,K,vs,t,e2,U,hd,hv⟩:=D;cases e2;have cP:c'≠P:=λ z=>by
  have:=Qi x;rw[z]at n;exact T7 this (iV.mpr n)
 have Y:P<T.objs.size:=Qi G;have I1:Inv X aa σ (ag H P (.tbl (ps++#[QJ m.line,QJ m.col,.ref c']))) {s with heap:=T.push (Sr "<lambda>" (X.env.qual++"<lambda>") g i scope j ((X.mg "__name__").getD .none) c' q),toks:=tk}:=
  I.grown M (λ b B L e=>Qg _ (hx b B L e)) (Qg _ G)
 have J:X.s₀.heap.objs.size<=c':=cb I.sz n;have hL:X.env.locals<c':=cK I.lt n;have I2:=I1.pin1 (p:=(c',K)) (Qg _ U) (by rw[aD cP];exact I.hok.fresh n) J (gC hL) (λ v z=>by rw[hd]at z;cases z);have I3:=I2.pin1 (p:=(T.objs.size,Sr "<lambda>" (X.env.qual++"<lambda>") g i scope j ((X.mg "__name__").getD .none) c' q)) (Qo _ rfl) (by rw[aD (gC Y)];exact I.hok.fresh (cb n (jm u))) (cb J (jm u)) (gC (pC hL u)) (λ v z=>by cases z);exact h _ _ _ _ _ _ _ _ hd hv I3
end
def Cx.lam(X:Cx)(A:V3)(N:List V2)(qual:V2)(scope:Rf)(cl:List (V2×V0))(f c:V0)(s:M1)(H:Hp):Cx:=
 {X with A:=A.deeper (W.envX qual scope s.heap.objs.size f (.ref c) cl),N:=N,s₀:=s,H₀:=H,env:=W.envX qual scope s.heap.objs.size f (.ref c) cl,outer:=X.stack,stack:=W.envX qual scope s.heap.objs.size f (.ref c) cl::X.stack,ex:=[],fn:=λ ω=>false,calm:=true,pn:=[],xe:=λ ω ω=>False}
section
variable{X:Cx}{aa:List (V0×Obj)}{σ:St}{H:Hp}{s:M1}{A:V3}{N:List V2}{nl:List (Option Nat)}{qual y:V2}{scope:Rf}{cl:List (V2×V0)}{f c:V0}
theorem LK{n:Z3}{tk:Nat}{u:V1}{v:V}(I:Inv X aa σ H s)(B:ak X (y::N) (none::nl) scope cl)(O:scope.names.lookup y=some .local)(hN:∀z∈N,z≠y)(P:A.frames=some X.stack)(Q:A.handled=none)(R:RelV v u)(D:∀b o,s.heap.get? b=some o->n.get? b=some o)(S:n.Ns s.heap.objs.size (λ z=>[(y,u)].reverse.lookup z)):Inv (X.lam A (y::N) qual scope cl f c s H) [] (some v::bT nl σ) H {s with heap:=n,toks:=tk}:=by
 have g:∀b:V0,b∉(X.lam A (y::N) qual scope cl f c s H).ex:=λ b z=>T7 (show b∈([]:List V0)from z) s!"n";refine⟨⟨I.ok.mod,B.kind,rfl,rfl,aS _,λ x z c n T=>I.ok.inj x z c (B.sub x c n) (B.sub z c T),λ x G=>?_,λ x c h=>(nomatch h),λ ω=>Q,Around.frames_deeper P,.inr ⟨rfl,rfl⟩,λ b z=>T7 z (g b),I.bs,cb I.ok.bsz I.sz,λ b ω ω=>g b,λ b z=>T7 z (g b),I.stack,I.stkFree⟩,rfl,I.bare,Un.kept D,⟨_,S,λ i x v' E m e3=>?_⟩,λ x c e=>?_,I.hok.fresh (aS _),λ x c e=>I.freeC x c (B.sub x c e),λ p U=>T7 (show p∈([]:List (V0×Obj))from U) s!"n",I.hok.kept D,?_⟩
 ·have G:scope.names.lookup x=some .cell\/scope.names.lookup x=some .free:=G;rcases G with q|q
  ·exact T7 rfl (B.nocell _ (mZ q))
  ·exact B.has x q
 ·cases i with
  |zero=>
   have E:y=x:=dG E;have m:v=v':=dG (dG m);subst E m;refine⟨u,R,.inl ⟨O,?_⟩⟩;show iG y [(y,u)]=some u;rw[fe,beq_self_eq_true]
  |succ i=>
   have m:(bT nl σ)[i]?=some (some v'):=m;obtain⟨j,Y,Z⟩:=w4 m;obtain⟨x1,L,M⟩:=B.seen (i+1) j x E Y;obtain⟨m0,a0,J⟩:=I.loc;obtain⟨u',r,l⟩:=J j x v' x1 Z (.inr M);refine⟨u',r,?_⟩;rcases l with⟨K,_⟩|⟨_,c,hc,z⟩
   ·have w:X.env.scope.names.lookup x=some .local:=K;rcases M with q|q<;>(rw[w]at q;cases q)
   ·refine .inr ⟨.inr L,c,?_,z.keeps D⟩;obtain⟨c',C⟩:=B.has x L;have q:=B.sub x c' C;rw[hc]at q;cases q;exact C
 ·obtain⟨v,q⟩:=I.cell x c (B.sub x c e);exact⟨v,q.keeps D⟩
 ·show(some v::bT nl σ).length=(y::N).length;have:=B.len;rw[dv,dv]at this ⊢;unfold bT;rw[aA];exact this
theorem I_{g:SK}{nm:V2}{i:Expr}{L j:V1}{w:Obj}{vs:Array V1}{t:Tok}{M:TE}{Q:VK}{u:V1}{v:V}(I:Inv X aa σ H s)(B:ak X (y::N) (none::nl) scope cl)(O:scope.names.lookup y=some .local)(S:∀z∈N,z≠y)(T:A.frames=some X.stack)(U:A.handled=none)(hd:A.depth<recursionLimit)(Y:(f,Sr nm qual g i scope cl L c j)∈aa)(Z:(c,w)∈aa)(x:w.data=.fields vs)(hv:vs[1]?=some (.str qual t))(C:scope.isCoroutine=false)(m:scope.isGenerator=false)(hb:RY (W.kla_fn nm qual g i scope cl L (.ref c) j) ⟨[u],[]⟩=pure [(y,u)])(he:PE (X.lam A (y::N) qual scope cl f c s H) i M)(rv:RelV v u)(h:M (some v::bT nl σ) H Q):Qm s!"c" A (call (.ref f) [u]) (EP X aa σ Q) (λ ω ω=>False) s:=by
 have pf:=I.pin _ (dY _ Y);have pc:=I.pin _ (dY _ Z);refine RD (Rn (R:=λ r D=>∃n,r=.ok (.ret n)/\EP X aa σ Q n D) (W.kla_callFunE hd pf.1 rfl C m rfl ⟨c,w,vs,t,rfl,pc.1,x,hv⟩ ?_) λ r D p=>?_)
 ·rw[hb];refine Qh (wpAny_newFunctionEnv B.nocell (λ z hz=>?_) (λ h1 E G=>?_) B.kind)
  ·cases cu.mp hz;exact O
  have P:∀b o,s.heap.get? b=some o->h1.get? b=some o:=λ b o e=>G.extBut b o (bY (Qi e)) (Qg _ e);refine⟨I.nolimit.keeps P,W.kla_codeExpr (QI (he [] _ _ H Q (LK I B O S T U rv P E) h) (λ n D p=>?_) λ ω ω hF=>hF.elim)⟩;obtain⟨v',H',J,K,q⟩:=p;refine⟨n,rfl,?_⟩;exact I.after ⟨v',H',J.os,J.bare,J.base,J.hok,K,q⟩
 ·obtain⟨n,rfl,p⟩:=p;exact p
end
end L2
end
section
namespace L2
open PySem PySem.Spec PySem.Calls PyProof.Rows
def bh{α:Type}(n:Nat)(Q:α->Prop):W.KasT α->Prop
 | .ret a=>Q a
 | .ask i j k=>i<n/\j<n/\∀b,bh n Q (k b)
variable{n:Nat}
theorem bh.bind{c g:Type}{Q:c->Prop}{R:g->Prop}{f:c->W.KasT g}:∀{t:W.KasT c},bh n Q t->(∀a,Q a->bh n R (f a))->bh n R (t.bind f)
 | .ret a,h,k=>k a h
 | .ask i j t,h,k=>⟨h.1,h.2.1,λ b=>bh.bind (h.2.2 b) k⟩
def Pm(n:Nat)(p:Array Nat):Prop:=p.toList.Perm (bU n)
section
variable{n:Nat}{p:Array Nat}
theorem Pm.lt(h:Pm n p)(b:0<n)(i:Nat):p.getD i 0<n:=by
 rw[Array.getD_eq_getD_getElem?];cases e:p[i]? with
 |none=>exact b
 |some x=>
  have c:x∈p.toList:=by
   rw[Array.mem_toList_iff];exact Array.mem_of_getElem? e
  exact eV.mp (h.mem_iff.mp c)
theorem Pm.rev(h:Pm n p)(i j:Nat):Pm n (W.kas_rev p i j):=((Array.perm_iff_toList_perm.mp (mirror_perm p i j _))).trans h
theorem Pm.bub(h:Pm n p)(i j:Nat):Pm n (bubble p i j):=((Array.perm_iff_toList_perm.mp (bubble_perm p i j))).trans h
theorem yK(h:Pm n p)(c:0<n):∀f m,bh n (λ ω=>True) (W.kas_asc p f m)
 |0,_=>trivial
 |f+1,m=>⟨h.lt c _,h.lt c _,λ b=>by
  cases b
  ·exact yK h c f (m+1)
  ·exact trivial⟩
theorem sD(c:0<n):∀f (p:Array Nat) m q,Pm n p->bh n (λ r:Array Nat×Nat×Nat=>Pm n r.1) (W.kas_desc f p m q)
 |0,_,_,_,h=>h
 |f+1,p,m,q,h=>⟨h.lt c _,h.lt c _,λ b=>by
  cases b
  ·exact⟨h.lt c _,h.lt c _,λ d=>by
    cases d
    ·exact sD c f p (m+1) (q+1) h
    ·exact h⟩
  ·show bh n _ (if q>0 then _ else _);split
   ·exact sD c f _ _ _ (h.rev _ _)
   ·exact sD c f _ _ _ h⟩
theorem zR(c:0<n)(a b:Nat)(h:Pm n p):bh n (λ r:Nat×Array Nat=>Pm n r.2) (W.kas_tail3 a b p):=
 bh.bind (yK (h.rev 0 a) c _ _) λ ω ω=>h.rev 0 a
theorem A5(c:0<n)(a b:Nat)(h:Pm n p):bh n (λ r:Nat×Array Nat=>Pm n r.2) (W.kas_descPart a b p):=by
 refine bh.bind (sD c _ _ _ _ h) λ r hr=>?_;split
 ·exact zR c _ _ (hr.rev _ _)
 ·exact zR c _ _ hr
theorem K4(c:0<n)(m:Nat)(h:Pm n p):bh n (λ r:Nat×Array Nat=>Pm n r.2) (W.kas_count m p):=by
 refine bh.bind (yK h c _ _) λ k ω=>?_;split
 ·exact h
 split
 ·exact⟨h.lt c _,h.lt c _,λ b=>by
   cases b
   ·exact A5 c _ _ (h.rev _ _)
   ·exact h⟩
 ·exact A5 c _ _ h
theorem w9(h:Pm n p)(c:0<n)(k:Nat):∀f l r,bh n (λ ω=>True) (W.kas_place p k f l r)
 |0,_,_=>trivial
 |f+1,l,r=>by
  show bh n _ (if l>=r then _ else _);split
  ·exact trivial
  ·exact⟨h.lt c _,h.lt c _,λ b=>by
    cases b
    ·exact w9 h c k f _ _
    ·exact w9 h c k f _ _⟩
theorem CI(b:0<n):∀f (p:Array Nat) k,Pm n p->bh n (Pm n) (W.kas_bin f p k)
 |0,_,_,h=>h
 |f+1,p,k,h=>bh.bind (w9 h b k _ _ _) λ l ω=>CI b f _ _ (h.bub _ _)
theorem HI(b:0<n):bh n (Pm n) (W.kas_sort n):=by
 refine bh.bind (K4 b n (show Pm n (dQ (bU n))from List.Perm.refl _)) λ r hr=>?_;split
 ·exact CI b _ _ _ hr
 ·exact hr
end
theorem En{g:Type}{c:Nat->Nat->(Bool->M1->Prop)->M1->Prop}{St:M1->Prop}{Q:g->Prop}{G:g->M1->Prop}(r:∀i j C s,i<n->j<n->St s->(∀b m,St m->C b m)->c i j C s)(u:∀a s,Q a->St s->G a s):∀{t:W.KasT g}{s:M1},bh n Q t->St s->t.kasWp c G s
 | .ret a,s,h,o=>u a s h o
 | .ask i j k,s,h,o=>r i j _ s h.1 h.2.1 o λ b m q=>En r u (h.2.2 b) q
def n6(h:Z3)(v:V1):Prop:=∃x o n i j t u,v=.ref x/\h.get? x=some o/\o.cls=.type "tuple"/\o.data=.seq #[.int i t,.int j u] n
section
variable{prog:Program}{w:Y3}{A:V3}{E:V1->M1->Prop}{s:M1}
theorem HG{v b:V1}{Q:Bool->M1->Prop}(g:n6 s.heap v)(o:n6 s.heap b)(h:∀c,Q c s):Qm s!"o" A (keyLt' (tuples' true) v b) Q E s:=by
 obtain⟨x,B,n,i,j,t,u,rfl,e1,ω,q⟩:=g;obtain⟨y,C,m,D,G,I,J,rfl,r,ω,z⟩:=o;refine W.kat_lt e1 q r z (W.kat_cons (Ti (W.kat_go (λ ω=>W.kat_yes (W.kat_cons (Ti (W.kat_go (λ ω=>W.kat_yes (W.kat_nil (h _))) λ ω=>W.kat_no ?_)))) λ ω=>W.kat_no ?_)))
 ·show Qm _ _ (oneLt' false _ _) _ _ _;refine W.kat_one _ _ (lt_int ?_);exact h _
 ·show Qm _ _ (oneLt' true _ _) _ _ _;exact oneLt_int (h _)
theorem A_{h:Z3}:∀{ks:List V1},(∀v∈ks,n6 h v)->∃fs,W.KatTups h ks fs/\fs.length=ks.length/\∀f∈fs,∃i t,f=.int i t
 |[],_=>⟨[],trivial,rfl,λ f g=>by cases g⟩
 |v::ks,m=>by
  obtain⟨fs,a,b,c⟩:=A_ (ks:=ks) λ v h=>m v (dz _ h);obtain⟨x,o,n,i,j,t,u,rfl,e,q,d⟩:=m v dR;exact⟨.int i t::fs,W.KatTups.cons e q d rfl a,by rw[dv,dv,b],λ f g=>by
   rcases bH.mp g with rfl|g
   ·exact⟨i,t,rfl⟩
   ·exact c f g⟩
theorem MI{ks:List V1}{Q:SortKind->M1->Prop}(g:∀v∈ks,n6 s.heap v)(m:0<ks.length)(h:Q (tuples' true) s):Qm s!"o" A (keyKind' ks.toArray) Q E s:=by
 obtain⟨fs,a,b,c⟩:=A_ g;refine W.kat_kind (T:=.type "int") a qR (λ f j=>?_) rfl h;obtain⟨i,t,rfl⟩:=c f j;exact .now
end
structure jA(κ:SortKind)(KP:Z3->V1->Prop):Prop where
 kind:∀{prog:Program}{w:Y3}{A:V3}{E:V1->M1->Prop}{s:M1}{ks:List V1}{Q:SortKind->M1->Prop},(∀v∈ks,KP s.heap v)->2<=ks.length->Q κ s->Qm s!"o" A (keyKind' ks.toArray) Q E s
 lt:∀{prog:Program}{w:Y3}{A:V3}{E:V1->M1->Prop}{s:M1}{v v':V1}{Q:Bool->M1->Prop},KP s.heap v->KP s.heap v'->(∀c,Q c s)->Qm s!"o" A (keyLt' κ v v') Q E s
theorem LC:jA (tuples' true) n6:=⟨λ h l q=>MI h qR q,HG⟩
theorem Ib{ks:List V1}:(∀v∈ks,∃i t,v=Rj i t)->∃kz,IntsAre ks kz:=by
 induction ks with
 |nil=>exact λ ω=>⟨[],.nil⟩
 |cons k ks b=>
  intro h;obtain⟨i,t,rfl⟩:=h k dR;obtain⟨kz,c⟩:=b λ v g=>h v (dz _ g);exact⟨i::kz,.cons i t c⟩
theorem Ka:jA oneType' (λ ω v=>∃i t,v=.int i t):=⟨λ h l q=>by
 obtain⟨g,b⟩:=Ib h;rw[ksk_kind (keys:=dQ _) (by rw[List.toList_toArray];exact b) (by rw[bF];exact l)];exact Qh q,λ⟨i,t,e⟩ ⟨j,u,c⟩ h=>by subst e c;exact W.kat_lt_int (h _)⟩
section
variable{prog:Program}{w:Y3}{A:V3}{E:V1->M1->Prop}{s:M1}{a kS:V0}{ks vs:List V1}{e e1:Nat}{P:PySem.Fin->M1->Prop}{κ:SortKind}{KP:Z3->V1->Prop}
theorem CM{st:SortSt}{out:List V1}(x:s.heap.get? kS=some (QD "list" (dQ ks) e))(B:s.heap.get? a=some (QD "list" #[] e1))(i:kS≠a)(j:(arrOf st).map (·.2)=dQ out)(hz:out.length<64)(C:ks.length<64)(D:failedOf st=none)(h:∀h' c m,(∀b o,b≠kS->b≠a->s.heap.get? b=some o->h'.get? b=some o)->h'.get? kS=some (QD "list" #[] c)->h'.get? a=some (QD "list" (dQ out) m)->P (.done (.ret .none)) {s with heap:=h'}):Qm s!"o" A (PyProof.Rows.ksk_tail a false e1 (.ref kS) st) P E s:=by
 have y:=RW s.heap kS (QB λ ω=>(#[]:Array V1));obtain⟨r,u⟩:∃r,(s.heap.update kS (QB λ ω=>(#[]:Array V1))).get? kS=some (QD "list" #[] r):=⟨_,SE x λ ω=>#[]⟩;have g:(s.heap.update kS (QB λ ω=>(#[]:Array V1))).get? a=some (QD "list" #[] e1):=(y.2 a i.symm).trans B;have z:=RW (s.heap.update kS (QB λ ω=>(#[]:Array V1))) a (QB λ ω=>dQ out);obtain⟨m,v⟩:∃m,((s.heap.update kS (QB λ ω=>(#[]:Array V1))).update a (QB λ ω=>dQ out)).get? a=some (QD "list" (dQ out) m):=⟨_,SE g λ ω=>dQ out⟩;unfold PyProof.Rows.ksk_tail;try dsimp only
 rw[j];simp only[pF,if_false];refine Qf (Te x rfl ?_ (by rw[bF,Qk];lia) (bJ _));refine Qf (Sd ?_);refine Qf (seqEpoch_at g rfl ?_);refine Qf (Te g rfl ?_ (bJ _) (by rw[bF,Qk];lia));rw[D];simp only[bne_self_eq_false,pF,if_false];exact Qh (h _ r m (λ b o G I q=>(z.2 b I).trans ((y.2 b G).trans q)) ((z.2 kS i).trans u) v)
theorem FX(S:jA κ KP)(hl:ks.length=vs.length)(r:vs.length<64)(M:s.heap.get? kS=some (QD "list" (dQ ks) e))(N:s.heap.get? a=some (QD "list" #[] e1))(v:kS≠a)(y:∀k∈ks,KP s.heap k)(h:∀p h' tk c z,Pm vs.length p->(∀b o,b≠kS->b≠a->s.heap.get? b=some o->h'.get? b=some o)->h'.get? kS=some (QD "list" #[] c)->h'.get? a=some (QD "list" (dQ (p.toList.map λ i=>vs.getD i Qz)) z)->P (.done (.ret .none)) {s with heap:=h',toks:=tk}):Qm s!"o" A (PyProof.Rows.ksk_end a false vs.toArray e1 (.ref kS) (dQ ks)) P E s:=by
 unfold PyProof.Rows.ksk_end;try dsimp only
 simp only[pF,if_false];by_cases O:vs.length<2
 ·have m:vs.toArray.size<2:=by rw[bF];exact O
  rw[T6 m,T6 m];refine Qf (Qh (Qf (Qh ?_)));have T:(((dQ ks).zip vs.toArray).map (·.2))=dQ vs:=by
   apply Array.toList_inj.mp;simp;exact List.map_snd_zip qR
  refine CM (out:=vs) M N v T r qR rfl λ h' c z B D G=>?_;refine h (dQ (bU vs.length)) h' s.toks c z (List.Perm.refl _) B D ?_;rw[G];have:(bU vs.length).map (λ i=>vs.getD i Qz)=vs:=by
   refine lS λ i=>?_;rw[a_];by_cases u:i<vs.length
   ·rw[jk u,aV u];show some (vs.getD i Qz)=_;rw[c6,aV u];rfl
   ·rw[ic (by rw[eU];lia),ic qR];rfl
  rw[this]
 ·have m:¬vs.toArray.size<2:=by rw[bF];exact O
  rw[T5 m,T5 m];refine Qf (S.kind y qR ?_);have go:(W.kas_sort vs.length).kasWp (W.kas_ask prog w A κ ks) (λ p g=>Pm vs.length p/\g.heap=s.heap/\∃tk,g={s with toks:=tk}) s:=by
   refine En (n:=vs.length) (St:=λ g=>g.heap=s.heap/\∃tk,g={s with toks:=tk}) (Q:=Pm vs.length) (λ i j C g u U I Y=>?_) (λ p g y I=>⟨y,I⟩) (HI qR) ⟨rfl,_,rfl⟩;obtain⟨ω,tk,rfl⟩:=I;have R:∀i,i<vs.length->ks.getD i Qz∈ks:=λ i u=>by
    rw[c6,aV qR];exact gQ _
   refine S.lt (s:={s with toks:=tk}) (y _ (R i u)) (y _ (R j U)) λ b=>?_;exact Y b _ ⟨rfl,tk,rfl⟩
  refine Qf (QI (W.kat_run (Q:=λ q g=>∃p:Array Nat,p.size=vs.length/\arrOf q=p.map (W.kas_item ((dQ ks).zip vs.toArray))/\failedOf q=none/\(Pm vs.length p/\g.heap=s.heap/\∃tk,g={s with toks:=tk})) hl qR r (λ Z q g a1 a2 a3 a4=>⟨Z,a1,a2,a3,a4⟩) go) ?_ λ ω ω x=>x);rintro⟨⟨⟩,q⟩ g ⟨p,J,K,hf,L,_,tk,rfl⟩;try dsimp only
  exact CM (s:={s with toks:=tk}) M N v (W.kat_snds hl K) (by rw[aA,j5,J];exact r) qR hf λ h' c z B D G=>h p h' tk c z L B D G
theorem Hv(S:jA κ KP){R:List V1->M1->Prop}{f:V1}(h64:vs.length<64)(hka:kS≠a)(nk0:s.heap.get? kS=some (QD "list" #[] 0))(na0:s.heap.get? a=some (QD "list" #[] e1))(r0:R [] s)(turn:∀(ks:List V1)(v:V1)(s:M1)(e:Nat),vs[ks.length]?=some v->R ks s->s.heap.get? kS=some (QD "list" (dQ ks) e)->s.heap.get? a=some (QD "list" #[] e1)->Qm s!"o" A (call f [v]) (λ k s'=>s'.heap.get? kS=some (QD "list" (dQ ks) e)/\s'.heap.get? a=some (QD "list" #[] e1)/\∀h' c,(∀b o,b≠kS->s'.heap.get? b=some o->h'.get? b=some o)->h'.get? kS=some (QD "list" (dQ (ks++[k])) c)->R (ks++[k]) {s' with heap:=h'}) (λ ω ω=>False) s)(hp:∀ks s,R ks s->∀k∈ks,KP s.heap k)(h:∀ks (s:M1) e p h' tk c c2,ks.length=vs.length->R ks s->s.heap.get? kS=some (QD "list" (dQ ks) e)->s.heap.get? a=some (QD "list" #[] e1)->Pm vs.length p->(∀b o,b≠kS->b≠a->s.heap.get? b=some o->h'.get? b=some o)->h'.get? kS=some (QD "list" #[] c)->h'.get? a=some (QD "list" (dQ (p.toList.map λ i=>vs.getD i Qz)) c2)->P (.done (.ret .none)) {s with heap:=h',toks:=tk}):Qm s!"o" A (Sh a f false vs.toArray e1 (.ref kS)) P E s:=by
 unfold Sh;refine Qf (SU ?_);first
  |rw[List.forIn_toArray]
  |(rw[<-Array.forIn_toList];simp only[List.toList_toArray])
  |rw[<-Array.forIn_toList]
 refine Qf (ksk_fold (λ i s'=>∃ks e,ks.length=i/\R ks s'/\s'.heap.get? kS=some (QD "list" (dQ ks) e)/\s'.heap.get? a=some (QD "list" #[] e1)) vs 0 s ⟨[],0,rfl,r0,nk0,na0⟩ ?step ?done)
 case step=>
  rintro j x s' hx ⟨ks,e,hl,hR,nk,na⟩;rw[nA]at hl;subst hl;have hj:ks.length<vs.length:=(bG.mp hx).1;refine Qf (Tf (QI (turn ks x s' e hx hR nk na) (λ k s'' he=>?_) λ ω ω hF=>hF.elim));obtain⟨nk2,na2,hR2⟩:=he;try dsimp only
  have s1:=(RW s''.heap kS (QB (·.push k)));have ea:(dQ ks).push k=dQ (ks++[k]):=by simp
  obtain⟨c2,hc2⟩:∃c2,(s''.heap.update kS (QB (·.push k))).get? kS=some (QD "list" (dQ (ks++[k])) c2):=⟨_,by rw[<-ea];exact SE nk2 (·.push k)⟩;refine Qf (Te nk2 rfl ?_ (by rw[bF,Qk];lia) (cb (lY (Array.size_push ..)) (by rw[bF,Qk];lia)));refine Qh ⟨rfl,ks++[k],c2,by rw[bB];simp,hR2 _ c2 (λ b o hb q=>(s1.2 b hb).trans q) hc2,hc2,(s1.2 a hka.symm).trans na2⟩
 case done=>
  rintro s' ⟨ks,e,hl,hR,nk,na⟩;rw[nA]at hl;try dsimp only
  refine Qf (listItems_at nk rfl ?_);exact FX S hl h64 nk na hka (hp ks s' hR) λ p h' tk c c2 x1 x2 x3 x4=>h ks s' e p h' tk c c2 hl hR nk na x1 x2 x3 x4
end
section
variable{prog:Program}{w:Y3}{A:V3}{E:V1->M1->Prop}{s:M1}
def rJ(s:M1)(a c:Int)(n:Nat)(q:T4)(s':M1):Prop:=∃h j g m,q=.ok (.ret (.ref s.heap.objs.size))/\s'={s with heap:=h,toks:=j}/\(∀b o,s.heap.get? b=some o->h.get? b=some o)/\h.get? s.heap.objs.size=some {cls:=.type "list",dict:=none,data:=.seq g m,slots:=#[]}/\ItemsOf (λ i v=>∃t,v=.int (a+i*c) t) g n
theorem Fv{r:V0}{a b c:Int}{t u v:Tok}{Q:List V1->M1->Prop}(D:A.handled=none)(hr:IsRange s.heap r a b c t u v)(m:Builtin.Range.small a b c=true)(G:Builtin.Range.rangeSize a b c=n)(x:n<=2^24)(h:∀h' tk g,s.heap.objs.size<h'.objs.size->(∀b o,s.heap.get? b=some o->h'.get? b=some o)->ItemsOf (λ i v=>∃t,v=.int (a+i*c) t) g n->Q g.toList {s with heap:=h',toks:=tk}):Qm s!"o" A (collect (.ref r)) Q E s:=by
 have z:Rm s!"o" A (.builtin "proto.collect" ⟨[.ref r],[]⟩) (rJ s a c n) s:=by
  refine QV entry_proto_collect' ?_;show Qm _ _ (do again (.builtin "list.__iadd__" ⟨[<-newList [],.ref r],[]⟩)) _ _ s;refine Qf (wpAny_newList (Qh ⟨SV _ qP,QV entry_list_iadd' ?_⟩));show Qm _ _ (Ra (.ref s.heap.objs.size) (.ref r) (.ref s.heap.objs.size)) _ _ {s with heap:=s.heap.push (QD "list" #[] 0)};rw[QL F.plain_list_iadd _];exact wpAny_extend_range (R:=rJ s a c n) (s:={s with heap:=s.heap.push (QD "list" #[] 0)}) D (Qg _ hr) m G x _ _ 0 (Qo _ rfl) λ h' tk g C B y j=>
   ⟨h',tk,g,C,rfl,rfl,λ b o e=>B b o (bY (Qi e)) (Qg _ e),y,j⟩
 unfold collect;refine Qf (wpAny_runValue (Rn z λ q K I=>?_));obtain⟨h',tk,g,C,rfl,rfl,B,y,j⟩:=I;show Qm s!"o" A (do
   let o<-load s.heap.objs.size;match o.data with
   | .seq J _=>pure J.toList
   |_=>unsupported "internal:collect") Q E {s with heap:=h',toks:=tk}
 refine Qf (wpAny_load y ?_);exact Qh (h h' tk g (Qi y) B j)
theorem KO{r f:V0}{g:List V1->Prop}{Q:V1->M1->Prop}(z:n<64)(i:∀(E:V1->M1->Prop)(R:List V1->M1->Prop),(∀h' tk vs,s.heap.objs.size<h'.objs.size->(∀b o,s.heap.get? b=some o->h'.get? b=some o)->vs.length=n->g vs->R vs {s with heap:=h',toks:=tk})->Qm s!"o" A.in1 (collect (.ref r)) R E s)(h:∀(vs:List V1)(a kS:V0)(e1:Nat)(c:Z3)(tk:Nat),vs.length=n->g vs->(∀b o,s.heap.get? b=some o->c.get? b=some o)->s.heap.objs.size<=a->a<kS->c.get? kS=some (QD "list" #[] 0)->c.get? a=some (QD "list" #[] e1)->Qm s!"o" A.in1.in1 (Sh a (.ref f) false vs.toArray e1 (.ref kS)) (λ fin x=>fin=.done (.ret .none)/\Q (.ref a) x) (λ ω ω=>False) {s with heap:=c,toks:=tk}):Qm s!"o" A (call (.builtin "sorted") [.ref r] [(Qp "key",.ref f)]) Q E s:=by
 refine call_function_entry_kw kind_sorted plain_sorted entry_sorted (PyProof.Rows.ksk_s1 _ _) ?_;unfold TC.«sorted»;refine Qf (m:=checkCount "sorted" 1 1 _) (Qh ?_);refine Qf (i _ _ λ c tk vs B C j D=>?_);refine Qf (wpAny_newList ?_ (by rw[Qk];lia));show Qm _ _ _ _ _ {s with heap:=c.push (QD "list" vs.toArray 0),toks:=tk};have u:(c.push (QD "list" vs.toArray 0)).get? c.objs.size=some (QD "list" vs.toArray 0):=Qo _ rfl;refine Qf (QC (wpAny_call_entry_kw slot_list_sort ⟨_,u,rfl⟩ entry_list_sort ?body (PyProof.Rows.ksk_l1 _ _)))
 case body=>
  show Qm s!"o" A.in1.in1 (TC.«list.sort» ⟨[.ref c.objs.size],[(Qp "key",.ref f)]⟩) _ _ _;rw[PyProof.Rows.ksk_t1];unfold PyProof.Rows.ksk_tree;have G:=RW (c.push (QD "list" vs.toArray 0)) c.objs.size (QB λ ω=>(#[]:Array V1));obtain⟨e1,q⟩:∃e1,((c.push (QD "list" vs.toArray 0)).update c.objs.size (QB λ ω=>(#[]:Array V1))).get? c.objs.size=some (QD "list" #[] e1):=⟨_,SE u λ ω=>#[]⟩;refine Qf (listItems_at u rfl ?_);refine Qf (Te u rfl ?_ (by rw[bF,Qk];lia) (bJ _));refine Qf (seqEpoch_at q rfl ?_);refine Qf (wpAny_newTuple ?_ (by show vs.length<=_;rw[Qk];lia));refine Qf (wpAny_newList ?_ (bJ _));refine QC ?_;have sz:(c.push (QD "list" vs.toArray 0)).objs.size=c.objs.size+1:=QE ..;refine QI (h vs c.objs.size ((((c.push (QD "list" vs.toArray 0)).update c.objs.size (QB λ ω=>(#[]:Array V1))).push (QD "tuple" vs.toArray 0)).objs.size) e1 ((((c.push (QD "list" vs.toArray 0)).update c.objs.size (QB λ ω=>(#[]:Array V1))).push (QD "tuple" vs.toArray 0)).push (QD "list" #[] 0)) tk j D (λ b o e=>?_) ?_ ?_ (Qo _ rfl) (Qg _ (Qg _ q))) (λ fin x v=>?_) λ ω ω I=>I.elim
  ·have y:=C b o e;have lt:=Qi y;exact Qg _ (Qg _ ((G.2 b (bY lt)).trans (Qg _ y)))
  ·exact jm B
  ·rw[QE,Heap.size_update,sz];exact lU (jl _)
  ·obtain⟨rfl,v⟩:=v;exact⟨_,rfl,Qh ⟨_,rfl,v⟩⟩
end
def bI(K:X0)(c P:V0):Prop:=∃i vs j g m b o nS h q,K.lookup c=some ⟨.type "code",i,.fields vs,j⟩/\vs[11]?=some (.ref P)/\vs.getD 11 .none=.ref P/\vs.getD 18 .none=.str g m/\vs.getD 7 .none=.int b o/\vs.getD 9 .none=.bool nS/\vs.getD 10 .none=.int h q/\c≠P
variable{c P:V0}{K:X0}
theorem bI.hd{h:Z3}(x:bI K c P)(X:K.In h):W.CodeHd h c P:=by
 obtain⟨D,vs,G,g,j,b,m,nS,i,o,e,r⟩:=x;obtain⟨q,u,v,y,z,B,C⟩:=r;exact⟨_,vs,g,j,b,m,nS,i,o,X _ _ e,rfl,rfl,q,u,v,y,z,B,C⟩
def CZ(P:V0)(nl:List (Option Nat))(ta:TA)(te:TE):TE:=λ σ H Q=>ta σ H λ vs g=>∃n:Nat,vs=[.int (n:Int)]/\n<64/\g P=some (.tbl #[])/\∀ps,
 (∀i c,i<n->af (ag g P (.tbl ps)) c->te (some (.int ((i:Nat):Int))::bT nl σ) c λ v h=>af c h/\∃(t:V0)(a b:Int),v=.ref t/\h t=some (.tup [.int a,.int b]))/\
 ∀c l (p:List Nat),af (ag g P (.tbl ps)) c->c l=none->p.Perm (bU n)->Q (.ref l) (ag c l (.lst (p.map λ i=>V.int ((i:Nat):Int))))
variable{σ:St}{nl:List (Option Nat)}{H:Hp}{Q:VK}
theorem P2{h:TA}{j:TE}:CZ P nl h j σ H Q=h σ H λ vs g=>∃n:Nat,vs=[.int (n:Int)]/\n<64/\g P=some (.tbl #[])/\∀ps,(∀i c,i<n->af (ag g P (.tbl ps)) c->j (some (.int ((i:Nat):Int))::bT nl σ) c λ v m=>af c m/\∃(t:V0)(a b:Int),v=.ref t/\m t=some (.tup [.int a,.int b]))/\∀c l (p:List Nat),af (ag g P (.tbl ps)) c->c l=none->p.Perm (bU n)->Q (.ref l) (ag c l (.lst (p.map λ i=>V.int ((i:Nat):Int)))):=rfl
theorem Jd{P:Program}{w:Y3}{h:Z3}{t:V0}{a b:Int}(ok:cV P w H h)(e:H t=some (.tup [.int a,.int b])):n6 h (.ref t):=by
 obtain⟨ω,c,r,o,g,i,n,j⟩:=(show aQ P w H h t (.tup _)from ok t _ e);cases r with
 |cons m r=>
  cases r with
  |cons q r=>
   cases r;obtain⟨u,rfl⟩:=m;obtain⟨v,rfl⟩:=q;exact⟨t,o,n,a,b,u,v,rfl,g,i,j⟩
section
variable{X:Cx}{aa:List (V0×Obj)}{σ:St}{H:Hp}{s:M1}
theorem Inv.filled{a kS:V0}{h':Z3}{tk c:Nat}{xs:List V}{its:List V1}(I:Inv X aa σ H s)(y:H a=none)(B:H kS=none)(C:X.s₀.heap.objs.size<=a)(D:X.s₀.heap.objs.size<=kS)(K:a≠X.env.locals)(j:kS≠X.env.locals)(L:∀x c,X.env.cells.lookup x=some c->c≠a/\c≠kS)(M:∀p∈X.pn++aa,p.1≠a/\p.1≠kS)(k:∀b o,b≠kS->b≠a->s.heap.get? b=some o->h'.get? b=some o)(N:h'.get? a=some {cls:=.type "list",data:=.seq its.toArray c})(G:ax xs its)(hz:xs.length<=Qj):Inv X aa σ (ag H a (.lst xs)) {s with heap:=h',toks:=tk}:=by
 have i:∀ b,b∉[a,kS]->b≠a/\b≠kS:=λ b g=>⟨λ z=>g (by simp [z]),λ z=>g (by simp [z])⟩;have h:∀ b u,H b=some u->b≠a/\b≠kS:=λ b u e=>⟨bS e y,bS e B⟩;refine I.step (g':=s.gens) (d':=s.drawn) (ch:=[a,kS]) (λ b g=>?_) (λ b o ω ω g e n=>k b o (i b g).2 (i b g).1 e) (λ b o ω ω g e n=>⟨o.slots,k b o (i b g).2 (i b g).1 e⟩) (λ b o g ω n=>by rw [aD (i b g).1]; exact n) (λ b o g e=>⟨o,k b o (i b g).2 (i b g).1 e⟩)
  (λ b xs e=>by rw[aD (h b _ e).1];exact e) (λ b o u e=>by rw[aD (h b _ e).1];exact e) (λ b ps e=>⟨#[],by rw[aD (h b _ e).1,e];simp⟩) (λ m O=>?_) (λ b u e=>?_) I.bare
 ·rcases bH.mp g with rfl|g
  ·exact⟨.inr C,K,λ x c e=>(L x c e).1,λ p J=>(M p J).1⟩
  ·cases cu.mp g;exact⟨.inr D,j,λ x c e=>(L x c e).2,λ p J=>(M p J).2⟩
 ·obtain⟨o,Q,R,S,r⟩:=O;exact⟨o,Q,R,k _ o (Ne.symm j) (Ne.symm K) S,r⟩
 ·by_cases g:b=a
  ·subst g;rw[aG]at e;cases e;exact⟨hz,its,c,G,N⟩
  ·rw[aD g]at e;refine(I.hok b u e).stay (λ d v hd q=>?_) (λ d q=>by rw[aD (h d _ q).1];exact q) λ d xs q=>by rw[aD (h d _ q).1];exact q
   rcases hd with z|z
   ·rw[z]at q ⊢;exact k _ v (h b u e).2 (h b u e).1 q
   ·exact k _ v (h d _ z).2 (h d _ z).1 q
end
variable{xs:List V}
theorem Di{us:List V1}{i:Nat}{x:V}{u:V1}(h:ax xs us)(b:xs[i]?=some x)(c:us[i]?=some u):RelV x u:=by
 obtain⟨ω,e,r⟩:=h.get b;cases c.symm.trans e;exact r
theorem IS:∀{us:List V1},xs.length=us.length->(∀(i:Nat) x u,xs[i]?=some x->us[i]?=some u->RelV x u)->ax xs us:=by
 induction xs with
 |nil=>intro us h _;cases us with|nil=>exact .nil|cons=>cases h
 |cons x xs b=>
  intro us h k;cases us with
  |nil=>cases h
  |cons u us=>exact .cons (k 0 x u rfl rfl) (b (nB h) λ i=>k (i+1))
theorem Ig{vs:List V1}(b:ax xs vs):∀{l:List Nat},(∀i∈l,i<vs.length)->ax (l.map λ i=>xs.getD i .non) (l.map λ i=>vs.getD i Qz):=λ{l}=>by
 induction l with
 |nil=>exact λ ω=>.nil
 |cons i l g=>
  intro h;have lt:=h i dR;have c:i<xs.length:=by rw[b.length];exact lt
  refine .cons ?_ (g λ j m=>h j (dz _ m));show RelV (xs.getD i .non) (vs.getD i Qz);rw[c6,aV c,c6,aV lt];exact Di b (aV c) (aV lt)
section
variable{X:Cx}
theorem Aa{κ:SortKind}{KP:Z3->V1->Prop}(S:jA κ KP){KV:V->Hp->Prop}(h0:∀{H h v u},cV X.prog X.w H h->KV v H->RelV v u->KP h u)(i0:∀{v H H'},KV v H->af H H'->KV v H'){te:TE}{g:SK}{j:Expr}{scope:Rf}{cl:List (V2×V0)}{N:List V2}{y:V2}{k:Nat}{r f D:V0}{oc:Obj}{G pm:V1}{fv:Array V1}{tt:Tok}{aa:List (V0×Obj)}{H2:Hp}{s3:M1}(O:X.calm=true)(hr:aP k X.A)(q0:3<=k)(B:ak X (y::N) (none::nl) scope cl)(hy:scope.names.lookup y=some .local)(hN:∀z∈N,z≠y)(j0:scope.isCoroutine=false)(a0:scope.isGenerator=false)(T:∀(qual:V2)(pm:V1)(D:V0)(G u:V1),RY (W.kla_fn "<lambda>" qual g j scope cl pm (.ref D) G) ⟨[u],[]⟩=pure [(y,u)])(he:∀f D s H,PE (X.lam X.A.in1.in1 (y::N) (X.env.qual++"<lambda>") scope cl f D s H) j te)(hd:(oc:Obj).data=.fields fv)(hv:fv[1]?=some (.str (X.env.qual++"<lambda>") tt))(M:Inv X ((f,Sr "<lambda>" (X.env.qual++"<lambda>") g j scope cl pm D G)::(D,oc)::aa) σ H2 s3)(hn:xs.length<64)(b0:∀(E:V1->M1->Prop)(R:List V1->M1->Prop),(∀h' tk vs,s3.heap.objs.size<h'.objs.size->(∀b o,s3.heap.get? b=some o->h'.get? b=some o)->vs.length=xs.length->ax xs vs->R vs {s3 with heap:=h',toks:=tk})->Qm s!"c" X.A.in1 (collect (.ref r)) R E s3)(q1:∀(i:Nat) v m,xs[i]?=some v->af H2 m->te (some v::bT nl σ) m λ v H4=>af m H4/\KV v H4)(q2:∀m l (p:List Nat),af H2 m->m l=none->p.Perm (bU xs.length)->Q (.ref l) (ag m l (.lst (p.map λ i=>xs.getD i .non)))){E:V1->M1->Prop}:Qm s!"c" X.A (call (.builtin "sorted") [.ref r] [(Qp "key",.ref f)]) (EP X aa σ Q) E s3:=by
 refine KO hn b0 λ vs a kS e1 h1 tk hl hi k1 C I nk na=>?_;have I4:=M.kept (t':=tk) k1;have k0:kS≠a:=gC I;have U:X.s₀.heap.objs.size<=a:=cb M.sz C;have Y:X.s₀.heap.objs.size<=kS:=cb U (jm I);have La:a≠X.env.locals:=gC (cK M.lt C);have Lk:kS≠X.env.locals:=gC (cK M.lt (cb C (jm I)));have pl:∀q∈X.pn++((f,Sr "<lambda>" (X.env.qual++"<lambda>") g j scope cl pm D G)::(D,oc)::aa),q.1≠a/\q.1≠kS:=λ q hq=>by
  have lt:=cK (Qi (M.pin q hq).1) C;exact⟨bY lt,bY (pC lt I)⟩
 have cn:∀x c,X.env.cells.lookup x=some c->c≠a/\c≠kS:=λ x c e=>by
  obtain⟨v,o,ho,ω⟩:=M.cell x c e;have lt:=cK (Qi ho) C;exact⟨bY lt,bY (pC lt I)⟩
 generalize hPN:((f,Sr "<lambda>" (X.env.qual++"<lambda>") g j scope cl pm D G)::(D,oc)::aa)=PN at*;refine Hv S (R:=λ ks s'=>∃m,Inv X PN σ m s'/\af H2 m/\m a=none/\m kS=none/\∀k∈ks,∃v,RelV v k/\KV v m) qR k0 nk na ⟨H2,I4,af.refl _,M.hok.fresh C,M.hok.fresh (cb C (jm I)),λ k K=>by cases K⟩ (λ ks v s' e c0 hR d0 e0=>?_) (λ ks s' hR k K=>?_) (λ ks s' e pp h' l0 c1 c2 r0 hR d0 e0 Z kk s0 m0=>?_)
 ·obtain⟨m,J,sH,n1,n2,L⟩:=hR;have n0:ks.length<xs.length:=by rw[<-hl];exact(bG.mp c0).1
  have f0:=aV n0;have o0:=Di hi f0 c0;have J1:=J.pin1 (p:=(a,QD "list" #[] e1)) e0 n1 U La (λ v z=>by cases z);have J2:=J1.pin1 (p:=(kS,QD "list" (dQ ks) e)) d0 n2 Y Lk (λ v z=>by cases z);have mf:(f,Sr "<lambda>" (X.env.qual++"<lambda>") g j scope cl pm D G)∈(kS,QD "list" (dQ ks) e)::(a,QD "list" #[] e1)::PN:=by rw[<-hPN];simp
  have mc:(D,oc)∈(kS,QD "list" (dQ ks) e)::(a,QD "list" #[] e1)::PN:=by rw[<-hPN];simp
  refine QI (I_ (A:=X.A.in1.in1) (v:=xs[ks.length]) J2 B hy hN J.ok.frames (J.ok.hd O) (by have:=hr.dp;show X.A.depth<_;lia) mf mc hd hv j0 a0 (T _ _ _ _ _) (he f D s' m) o0 (q1 ks.length _ m f0 sH)) (λ k s4 hq=>?_) λ ω ω hF=>hF;obtain⟨v',H4,J4,p0,g0,e4⟩:=hq;have p1:=J4.pin _ (dY _ dR);have p2:=J4.pin _ (dY _ (dz _ dR));refine⟨p1.1,p2.1,λ h' c5 kk t0=>⟨H4,?_,sH.trans g0,p2.2.1,p1.2.1,λ k K=>?_⟩⟩
  ·have J5:Inv X PN σ H4 s4:=J4.pins_of λ p hp=>J4.pin p (dY _ (dz _ (dz _ hp)));exact J5.turned (t':=s4.toks) kk p1.2.1 Lk (.inr Y) (λ x c e=>(cn x c e).2) (λ p hp=>(pl p hp).2)
  ·rcases dy.mp K with K|K
   ·obtain⟨v5,r5,e5⟩:=L k K;exact⟨v5,r5,i0 e5 g0⟩
   ·cases cu.mp K;exact⟨v',p0,e4⟩
 ·obtain⟨m,J,sH,n1,n2,L⟩:=hR;obtain⟨v,rv,e⟩:=L k K;exact h0 J.hok e rv
 ·obtain⟨m,J,sH,n1,n2,L⟩:=hR;refine⟨rfl,.ref a,_,?_,rfl,q2 m a pp.toList sH n1 (by rw[<-hl];exact Z)⟩;have lt:∀i∈pp.toList,i<vs.length:=λ i hi=>eV.mp (Z.mem_iff.mp hi);have J6:=J.filled (c:=c2) (tk:=l0) (xs:=pp.toList.map λ i=>xs.getD i .non) (its:=pp.toList.map λ i=>vs.getD i Qz) n1 n2 U Y La Lk cn pl kk m0 (Ig hi lt) (by rw[aA,Z.length_eq,eU,Qk];lia);exact J6.pins_of λ p hp=>J6.pin p (dY _ (by rw[<-hPN];exact dz _ (dz _ hp)))
theorem Jp{O:Expr}{ta:TA}{te:TE}{p p2 J D kp m:Pos}{g:SK}{G:Expr}{scope:Rf}{cl:List (V2×V0)}{N:List V2}{y:V2}{k:Nat}(K:X.calm=true)(hr:aP k X.A)(c0:3<=k)(hb:jC X.mg X.base)(S:X.env.code=.ref c)(C:bI X.K c P)(hg:Gl X "sorted")(d0:Gl X "range")(hm:X.mg "sorted"=none)(e0:X.mg "range"=none)(f0:Qv "sorted"=some (.builtin "sorted"))(ha:PA X [O] ta)(B:ak X (y::N) (none::nl) scope cl)(hy:scope.names.lookup y=some .local)(hN:∀z∈N,z≠y)(Y:defaultsOf g X.env=([],[]))(g0:scope.isCoroutine=false)(Z:scope.isGenerator=false)(T:∀(qual:V2)(pm:V1)(U:V0)(a0 u:V1),RY (W.kla_fn "<lambda>" qual g G scope cl pm (.ref U) a0) ⟨[u],[]⟩=pure [(y,u)])(he:∀f U s H,PE (X.lam X.A.in1.in1 (y::N) (X.env.qual++"<lambda>") scope cl f U s H) G te)(hs:Ql [O] X.env=[(false,QA O X.env)]:=by rfl)(cT:QF J (Ql [.Call (.Name "range" p2) [O] [] D] X.env)=(false,QA (.Call (.Name "range" p2) [O] [] D) X.env)::QF J (Ql [] X.env):=by rfl)(h0:(QF J (Ql [.Call (.Name "range" p2) [O] [] D] X.env)).any (·.1)=false:=by rfl):PE X (.Call (.Name "sorted" p) [.Call (.Name "range" p2) [O] [] D] [⟨some "key",.Lambda g G scope m,kp⟩] J) (CZ P nl ta te):=by
 intro aa s σ H Q I h;refine QK (ip I hg hm f0 ?_ qQ qQ);refine R3 ?_ cT h0 rfl rfl;rw[cT];refine Rh ?_;refine Call_ (ip I d0 e0 boot_range (Qx (aM (ha D aa s σ H _ I h) λ us L hz=>?_) hs rfl));obtain⟨vs,H1,I1,r1,n,rfl,hn,hP,q⟩:=hz;obtain⟨u,rfl,ru⟩:=r1.one;obtain⟨t,rfl⟩:=ru;refine call_range_1 (RO ?_);have I2:Inv X ((L.heap.objs.size,{cls:=.type "range",data:=.fields #[.int 0 L.toks,.int (n:Int) t,.int 1 (L.toks+1)]})::aa) σ H1 {L with heap:=L.heap.push {cls:=.type "range",data:=.fields #[.int 0 L.toks,.int (n:Int) t,.int 1 (L.toks+1)]},toks:=L.toks+1+1}:=
  (I1.kept (t':=L.toks+1+1) λ b o e=>Qg _ e).pin1 (Qo _ rfl) (I1.hok.fresh (aS _)) I1.sz (gC I1.lt) (λ v z=>by cases z)
 generalize hr0:L.heap.objs.size=r at*;show Qm _ _ (evalAll [(do let v<-QA (.Lambda g G scope m) X.env;Q4 J;pure v)]) _ _ _;refine SO (Qf (zy I2 hb S (C.hd I2.mod.kin) hP trivial rfl B.clos Y λ f U oc a0 pm vs tt s3 hd hv I3=>Qf (QO (Qh (Ta ?_)))));show Qm _ _ (call (.builtin "sorted") [.ref r] [(Qp "key",.ref f)]) _ _ s3;obtain⟨q1,q2⟩:=q (#[]++#[QJ m.line,QJ m.col,.ref U]);generalize ag H1 P (.tbl (#[]++#[QJ m.line,QJ m.col,.ref U]))=H2 at*;have pr:=I3.pin _ (dY _ (dz _ (dz _ dR)));refine QI (Aa LC (KV:=λ v H=>∃(t:V0)(a b:Int),v=.ref t/\H t=some (.tup [.int a,.int b])) (xs:=(bU n).map λ i=>V.int ((i:Nat):Int)) (λ ok ⟨t,a,b,e,h⟩ r=>?_) (λ⟨t,a,b,e,h⟩ s=>⟨t,a,b,e,s _ _ h⟩) K hr c0 B hy hN g0 Z T he hd hv I3 (by rw[aA,eU];exact hn) (λ E R hR=>?_) (λ i v H3 hi sH=>?_) λ H3 l p sH hl hp=>?_) (λ v s4 ⟨x,H4,I4,z⟩=>⟨x,H4,I4.pins_of λ p hp=>I4.pin p (dY _ (dz _ hp)),z⟩) λ ω ω z=>z
 ·subst e;cases(show _=Qq t from r);exact Jd ok h
 ·refine Fv (n:=n) (A:=X.A.in1) (I3.ok.hd K) pr.1 (small_one qR qR qR qR) (by rw[rangeSize_one];split<;>lia) qR λ h1 tk b0 k0 k1 M=>?_;have la:b0.toList.length=n:=by rw[j5];exact M.1
  refine hR h1 tk b0.toList k0 k1 (by rw[la,aA,eU]) (IS (by rw[la,aA,eU]) λ i x u hx hu=>?_);rw[Array.getElem?_toList]at hu;obtain⟨t,rfl⟩:=M.2 i u hu;rw[a_]at hx;obtain⟨j,hj,rfl⟩:=c_.mp hx;rw[bG]at hj;obtain⟨ω,rfl⟩:=hj;rw[List.getElem_range];exact⟨t,by rw[pE,Int.mul_one]⟩
 ·rw[a_]at hi;obtain⟨j,hj,rfl⟩:=c_.mp hi;exact q1 j H3 (by have:=eV.mp (bN hj);exact this) sH
 ·rw[aA,eU]at hp;rw[show(p.map λ i=>((bU n).map λ i=>V.int ((i:Nat):Int)).getD i .non)=p.map λ i=>V.int ((i:Nat):Int)from List.map_congr_left λ i hi=>by
   rw[c6,a_,jk (eV.mp (hp.mem_iff.mp hi))];rfl]
  exact q2 H3 l p sH hl hp
def CB(P:V0)(nl:List (Option Nat))(ta:TE)(te:TE):TE:=λ σ H Q=>ta σ H λ v g=>∃(r:V0)(c:List V),v=.ref r/\g r=some (.lst c)/\c.length<64/\g P=some (.tbl #[])/\∀ps,
 (∀(i:Nat) x b,c[i]?=some x->af (ag g P (.tbl ps)) b->te (some x::bT nl σ) b λ v h=>af b h/\∃i,v=.int i)/\
 ∀b l (p:List Nat),af (ag g P (.tbl ps)) b->b l=none->p.Perm (bU c.length)->Q (.ref l) (ag b l (.lst (p.map λ i=>c.getD i .non)))
theorem Pu{g:TE}{h:TE}:CB P nl g h σ H Q=g σ H λ v c=>∃(r:V0)(xs:List V),v=.ref r/\c r=some (.lst xs)/\xs.length<64/\c P=some (.tbl #[])/\∀ps,(∀(i:Nat) x b,xs[i]?=some x->af (ag c P (.tbl ps)) b->h (some x::bT nl σ) b λ v j=>af b j/\∃i,v=.int i)/\∀b l (p:List Nat),af (ag c P (.tbl ps)) b->b l=none->p.Perm (bU xs.length)->Q (.ref l) (ag b l (.lst (p.map λ i=>xs.getD i .non))):=rfl
theorem Jv{M:Expr}{ta te:TE}{p x kp g:Pos}{j:SK}{m:Expr}{scope:Rf}{cl:List (V2×V0)}{N:List V2}{y:V2}{k:Nat}(D:X.calm=true)(hr:aP k X.A)(Y:3<=k)(hb:jC X.mg X.base)(G:X.env.code=.ref c)(C:bI X.K c P)(hg:Gl X "sorted")(hm:X.mg "sorted"=none)(Z:Qv "sorted"=some (.builtin "sorted"))(ha:PE X M ta)(B:ak X (y::N) (none::nl) scope cl)(hy:scope.names.lookup y=some .local)(hN:∀z∈N,z≠y)(O:defaultsOf j X.env=([],[]))(a0:scope.isCoroutine=false)(S:scope.isGenerator=false)(J:∀(qual:V2)(pm:V1)(K:V0)(T u:V1),RY (W.kla_fn "<lambda>" qual j m scope cl pm (.ref K) T) ⟨[u],[]⟩=pure [(y,u)])(he:∀f K s H,PE (X.lam X.A.in1.in1 (y::N) (X.env.qual++"<lambda>") scope cl f K s H) m te)(cT:QF x (Ql [M] X.env)=(false,QA M X.env)::QF x (Ql [] X.env):=by rfl)(b0:(QF x (Ql [M] X.env)).any (·.1)=false:=by rfl):PE X (.Call (.Name "sorted" p) [M] [⟨some "key",.Lambda j m scope g,kp⟩] x) (CB P nl ta te):=by
 intro aa s σ H Q I h;refine QK (ip I hg hm Z ?_ qQ qQ);refine R3 ?_ cT b0 rfl rfl;rw[cT];refine Rh (aM (ha aa s σ H _ I h) λ u s1 hz=>RO ?_);obtain⟨v,H1,I1,ru,r,xs,rfl,hx,hn,hP,q⟩:=hz;cases(show u=Qq r from ru);show Qm _ _ (evalAll [(do let v<-QA (.Lambda j m scope g) X.env;Q4 x;pure v)]) _ _ _;refine SO (Qf (zy I1 hb G (C.hd I1.mod.kin) hP trivial rfl B.clos O λ f K oc T pm vs tt s3 hd hv I3=>Qf (QO (Qh (Ta ?_)))));show Qm _ _ (call (.builtin "sorted") [.ref r] [(Qp "key",.ref f)]) _ _ s3;obtain⟨q1,q2⟩:=q (#[]++#[QJ g.line,QJ g.col,.ref K]);have c0:ag H1 P (.tbl (#[]++#[QJ g.line,QJ g.col,.ref K])) r=some (.lst xs):=by rw[aD (λ z=>by rw[z,hP]at hx;cases hx)];exact hx
 generalize ag H1 P (.tbl (#[]++#[QJ g.line,QJ g.col,.ref K]))=H2 at*;refine Aa Ka (KV:=λ v H=>∃i,v=.int i) (λ ok ⟨i,e⟩ r=>by subst e;obtain⟨t,e⟩:=r;exact⟨i,t,e⟩) (λ h s=>h) D hr Y B hy hN a0 S J he hd hv I3 hn (λ E R hR=>?_) q1 q2;obtain⟨hz,U,n,L,ea⟩:=(show aQ X.prog X.w H2 s3.heap r (.lst xs)from I3.hok r _ c0);refine collect_list (vs:=U) ⟨_,ea,rfl,n,rfl⟩ (hR _ s3.toks U ?_ (λ b o e=>?_) L.length.symm L) (by rw[<-L.length];exact hz)
 ·rw[Heap.size_update,QE];exact jl _
 ·have lt:=Qi e;rw[SF _ _ _ _ (bY lt)];exact Qg _ e
end
structure lM(K:X0)(mg:V2->Option V1)(x:V2)(st:Qw)(T0:V0):Prop where
 ex:∃(f:V0)(oc:V1)(od:Option V0)(kV doc pm:V1)(an:Option V0)(c:V0)(ct:V1)(osl:Array (Option V1)),K.lookup f=some ⟨oc,od,.func (Rz x x (fS st) (eJ st) (aR st) .none kV doc pm an (.ref c) ct),osl⟩/\SQ K (.ref c) x=true/\bI K c T0/\QR K (.ref f)=true/\mg x=some (.ref f)
theorem CP{mg:V2->Option V1}{h:Z3}{x:V2}{st:Qw}{T0 f:V0}{oc:V1}{od an:Option V0}{osl:Array (Option V1)}{kV doc pm ct:V1}(X:K.In h)(G:h.Ns Qu mg)(a:Sq K Qu x=some (some (.ref f)))(l:K.lookup f=some ⟨oc,od,.func (Rz x x (fS st) (eJ st) (aR st) .none kV doc pm an (.ref c) ct),osl⟩)(ci:SQ K (.ref c) x=true)(k:QR K (.ref f)=true)(C:bI K c T0):lM K mg x st T0:=
 ⟨f,oc,od,kV,doc,pm,an,c,ct,osl,l,ci,C,k,SJ X G a⟩
theorem aO.ofT{P:Program}{w:Y3}{mg:V2->Option V1}{base:Z3}{x:V2}{st:Qw}{T0:V0}{N ps:List V2}{k:Nat}{sp:Sp}(F:lM K mg x st T0)(S:bj N ps (aR st))(hb:∀(kV doc pm:V1)(an:Option V0)(cdv ct:V1)(us:List V1),us.length=ps.length->RY (Rz x x (fS st) (eJ st) (aR st) .none kV doc pm an cdv ct) ⟨us,[]⟩=pure (ps.zip us))(len:∀vs H Q E,sp vs H Q E->vs.length=ps.length)(hbody:∀(f c:V0)(A:V3)(outer:List Env)(s:M1)(H:Hp)(vs:List V)(Q:VK)(E:XK),bI K c T0->aP k (A.deeper (Sn x (aR st) s.heap.objs.size f (.ref c)))->sp vs H Q E->∃t,fb (dC hZ P w K mg base N x (aR st) f (.ref c) A outer s H E).nox (eJ st) t/\t {nx:=λ ω H'=>Q .non H',rt:=Q} (iK N vs) H):aO P w K mg base (k+1) x ps sp:=by
 obtain⟨f,oc,od,kV,doc,pm,an,c,ct,osl,lk,ci,C,kp,m⟩:=F.ex;refine⟨f,_,yq lk ci S len λ A outer s H vs Q E hr hsp=>?_,.all (hb kV doc pm an (.ref c) ct),kp,m⟩;obtain⟨t,h,q⟩:=hbody f c A outer s H vs Q E C hr hsp;exact⟨t,h.nox,q⟩
def Cx.blockC(X:Cx)(N:List V2)(scope:Rf)(cl:List (V2×V0))(y:V2)(C:V0)(fp:List V0)(s:M1)(H:Hp):Cx:=
 {X with N:=N,s₀:=s,H₀:=H,env:=compEnvC scope ((y,C+1)::cl) C X.env,outer:=X.stack,stack:=X.stack,ex:=fp,fn:=λ x=>decide (x=y),pn:=[],xe:=λ ω ω=>False}
structure bA(X:Cx)(N:List V2)(nl:List (Option Nat))(scope:Rf)(cl:List (V2×V0))(y:V2):Prop where
 kind:scope.kind=.function
 one:∀x,scope.names.lookup x=some .cell->x=y
 isY:scope.names.lookup y=some .cell
 names:∀y∈scope.names,y.2=.local->scope.names.lookup y.1=some .local
 clos:Tz scope X.env=pure cl
 sub:∀y c,cl.lookup y=some c->X.env.cells.lookup y=some c
 has:∀y,scope.names.lookup y=some .free->∃c,cl.lookup y=some c
 len:nl.length=N.length
 seen:∀(i j:Nat)(y:V2),N[i]?=some y->nl[i]?=some (some j)->X.N[j]?=some y/\scope.names.lookup y=some .free/\(X.env.scope.names.lookup y=some .cell\/X.env.scope.names.lookup y=some .free)
 cells:∀C,Tn C scope.names cl=(y,C)::cl
 push:∀h:Z3,pushCells h scope.names=h.push {cls:=.type "cell",data:=.cell none}
variable{X:Cx}{C:V0}
theorem bA.of{N:List V2}{scope:Rf}{cl:List (V2×V0)}{y x:V2}(B:bA X N nl scope cl y)(e:((y,C)::cl).lookup x=some c):(x=y/\c=C)\/cl.lookup x=some c:=by
 rw[fe]at e;cases q:x==y with
 |true=>rw[q]at e;exact .inl ⟨by simpa using q,(dG e).symm⟩
 |false=>rw[q]at e;exact .inr e
theorem bA.mk'{N:List V2}{scope:Rf}{cl:List (V2×V0)}{y:V2}(kind:scope.kind=.function)(one:∀p∈scope.names,p.2=.cell->p.1=y)(isY:scope.names.lookup y=some .cell)(names:∀y∈scope.names,y.2=.local->scope.names.lookup y.1=some .local)(clos:Tz scope X.env=pure cl)(sub:∀p∈cl,X.env.cells.lookup p.1=some p.2){nm:List V2}(m:cl.map (·.1)=nm)(has:∀y∈scope.names,y.2=.free->y.1∈nm)(len:nl.length=N.length)(seen:∀i<nl.length,∀j,nl[i]?=some (some j)->∃y,N[i]?=some y/\X.N[j]?=some y/\scope.names.lookup y=some .free/\(X.env.scope.names.lookup y=some .cell\/X.env.scope.names.lookup y=some .free))(cells:∀C,Tn C scope.names cl=(y,C)::cl)(push:∀h:Z3,pushCells h scope.names=h.push {cls:=.type "cell",data:=.cell none}):bA X N nl scope cl y where
 kind:=kind
 one:=λ x h=>one _ (mZ h) rfl
 isY:=isY
 names:=names
 clos:=clos
 sub:=λ y c h=>sub (y,c) (QT h)
 has:=λ y h=>by
  have n:=has _ (mZ h) rfl;rw[<-m]at n;cases q:cl.lookup y with
  |some c=>exact⟨c,rfl⟩
  |none=>
   obtain⟨p,r,e⟩:=bE.mp n;have:=List.lookup_eq_none_iff.mp q p r;simp[e]at this
 len:=len
 seen:=λ i j y u o=>by
  obtain⟨z,a,b,c,d⟩:=seen i (bG.mp o).1 j o;rw[u]at a;cases a;exact⟨b,c,d⟩
 cells:=cells
 push:=push
theorem Dj{cl:List (V2×V0)}{x y:V2}(h:x≠y):((y,C)::cl).lookup x=cl.lookup x:=by
 rw[fe];cases q:x==y with
 |true=>exact T7 (by simpa using q) h
 |false=>rfl
variable{env:Env}
theorem Fe{M:Model}{A:V3}{E:V1->M1->Prop}{s:M1}{scope:Rf}{globals:V0}{cl:List (V2×V0)}{qual y:V2}{func:Option V0}{code:V1}{builtins:V0}{Q:Env->M1->Prop}(e:∀C,Tn C scope.names cl=(y,C)::cl)(j:∀h:Z3,pushCells h scope.names=h.push {cls:=.type "cell",data:=.cell none})(h:Q {scope:=scope,locals:=s.heap.objs.size,globals:=globals,cells:=(y,s.heap.objs.size+1)::cl,qual:=qual,func:=func,code:=env.code,frame:=env.frame,builtins:=env.builtins} {s with heap:=(s.heap.push {cls:=.type "dict",data:=.dict #[]}).push {cls:=.type "cell",data:=.cell none}}):Qm M A (newFunctionEnv scope globals cl [] qual func code (some env) builtins) Q E s:=by
 simp only[newFunctionEnv,Option.isSome_some,if_true];refine Qf (wpAny_alloc ?_);refine Qf (wpAny_layCells _ (λ name b cells=>by cases c:b==QQ<;>simp[c]) _ _ _ _ ?_);rw[e,j,show s!"f".heap.objs.size=s.heap.objs.size+1 from QE ..];rw[List.forIn_nil];exact(Qf (Qh (Qh h)))
section
variable{X:Cx}{aa:List (V0×Obj)}{σ:St}{H:Hp}{s:M1}{N:List V2}{nl:List (Option Nat)}{scope:Rf}{cl:List (V2×V0)}{fp:List V0}{y:V2}
theorem MK(I:Inv X aa σ H s)(B:bA X N nl scope cl y)(u:∀b∈fp,cz X aa H b)(p:∀b∈fp,b<s.heap.objs.size)(r:s.heap.objs.size<=C):(X.blockC N scope cl y C fp s H).Ok:=by
 have D:∀b∈fJ X.stack,b=X.env.locals\/b∈X.fs:=λ b j=>bH.mp (I.stkSub b j);have G:∀x c,cl.lookup x=some c->c≠C+1:=λ x c e z=>by
  obtain⟨v,o,J,ω⟩:=I.cell x c (B.sub x c e);have:=Qi J;rw[z]at this;exact T7 (cK this (pz r)) (fu _)
 refine⟨I.ok.mod,B.kind,I.ok.glob,I.ok.blt,r,λ x z c K L=>?_,λ x M=>?_,λ x c h e=>?_,I.ok.hd,I.ok.frames,.inl rfl,λ b j=>⟨?_,λ x c e=>?_⟩,I.bs,cb I.ok.bsz I.sz,λ b o e j=>?_,λ b j O=>?_,I.stack,I.stkFree⟩
 ·rcases B.of K with⟨rfl,w⟩|w<;>rcases B.of L with⟨rfl,A⟩|A
  ·rfl
  ·exact T7 w (G _ _ A)
  ·exact T7 A (G _ _ w)
  ·exact I.ok.inj x z c (B.sub x c w) (B.sub z c A)
 ·have E:(scope.names.map λ(n,k)=>if(k==QH&&X.env.scope.kind==.function&&X.env.kindOf n==some .cell)then(n,QQ)else(n,k)).lookup x=some .cell\/
    (scope.names.map λ(n,k)=>if(k==QH&&X.env.scope.kind==.function&&X.env.kindOf n==some .cell)then(n,QQ)else(n,k)).lookup x=some .free:=M
  have fr:scope.names.lookup x=some .free->∃c,((y,C+1)::cl).lookup x=some c:=λ z=>by
   have m:x≠y:=λ e=>by rw[e,B.isY]at z;cases z
   rw[Dj m];exact B.has x z
  rcases E with q|q
  ·rcases qW q with z|⟨_,z⟩
   ·have:=B.one x z;subst this;exact⟨C+1,by show iG x ((x,C+1)::cl)=_;rw[fe,beq_self_eq_true]⟩
   ·exact fr z
  ·rcases qW q with z|⟨z,_⟩
   ·exact fr z
   ·cases z
 ·have m:x=y:=of_decide_eq_true h;subst m;have P:((x,C+1)::cl).lookup x=some (C+1):=by rw[fe,beq_self_eq_true]
  have:c=C+1:=dG ((show((x,C+1)::cl).lookup x=some c from e).symm.trans P);rw[this];exact pz r
 ·exact bY (cK (p b j) r)
 ·rcases B.of e with⟨_,rfl⟩|e
  ·exact gC (cK (p b j) (pz r))
  ·exact(u b j).2.2.2.2.1 x c (B.sub x c e)
 ·rcases(u b j).2.2.2.1 with z|z
  ·exact I.ok.noex b o e z
  ·exact T7 (cK (Qi (I.ok.bs b o e).1) z) (fu _)
 ·rcases D b O with z|z
  ·exact(u b j).2.1 z
  ·exact(u b j).2.2.1 z
theorem Fu(I:Inv X aa σ H s)(B:bA X N nl scope cl y)(Z:∀b∈fp,cz X aa H b)(M:∀b∈fp,b<s.heap.objs.size){D:V0}(w:D=s.heap.objs.size)(A:C=s.heap.objs.size+1){E:Z3}{tk:Nat}{m:V2->Option V1}(K:∀b o,s.heap.get? b=some o->E.get? b=some o)(hl:E.get? D=some {cls:=.type "list",data:=.seq ([]:List V1).toArray n})(hn:E.Ns C m)(O:E.get? (C+1)=some {cls:=.type "cell",data:=.cell none}):Inv (X.blockC N scope cl y C fp s H) [] (bT nl σ) (ag H D (.lst [])) {s with heap:=E,toks:=tk}:=by
 have P:H D=none:=I.hok.fresh (by rw[w];exact aS _);have Q:C≠D:=by rw[A,w];exact lV _
 have R:H C=none:=I.hok.fresh (by rw[A];exact ie _);have h:∀y c,cl.lookup y=some c->c≠D:=λ y c e z=>by
  obtain⟨v,q⟩:=I.cell y c (B.sub y c e);exact T7 q.lt (by rw[z,w];exact fu _)
 refine⟨MK I B Z M (by rw[A];exact ie _),rfl,I.bare,Un.laid K (by rw[w];exact aS _) P,⟨m,hn,λ i x v e1 e2 ω=>?_⟩,λ x c e=>?_,?_,λ x c e=>?_,λ p hp=>T7 hp (by simp[Cx.blockC]),?_,?_⟩
 ·obtain⟨j,hj,hv⟩:=w4 e2;obtain⟨x1,L,Y⟩:=B.seen i j x e1 hj;obtain⟨m0,a0,S⟩:=I.loc;obtain⟨u,r,l⟩:=S j x v x1 hv (.inr Y);refine⟨u,r,?_⟩;rcases l with⟨T,_⟩|⟨_,c,hc,z⟩
  ·have G:X.env.scope.names.lookup x=some .local:=T;rcases Y with q|q<;>(rw[G]at q;cases q)
  ·refine .inr ⟨xY L,c,?_,z.keeps K⟩;obtain⟨c',J⟩:=B.has x L;have q:=B.sub x c' J;rw[hc]at q;cases q;have U:x≠y:=λ e=>by rw[e,B.isY]at L;cases L
   show((y,C+1)::cl).lookup x=some c;rw[Dj U];exact J
 ·rcases B.of e with⟨_,rfl⟩|e
  ·exact⟨none,_,O,rfl⟩
  ·obtain⟨v,q⟩:=I.cell x c (B.sub x c e);exact⟨v,q.keeps K⟩
 ·show(ag H D (.lst [])) C=none;rw[aD Q];exact R
 ·rcases B.of e with⟨_,rfl⟩|e
  ·rw[aD (by rw[A,w];exact gC (lU (jl _)))];exact I.hok.fresh (by rw[A];exact pz (ie _))
  ·rw[aD (h x c e)];exact I.freeC x c (B.sub x c e)
 ·exact I.hok.laid K (by rw[w];exact aS _) ⟨bJ _,[],n,.nil,hl⟩
 ·show(bT nl σ).length=N.length;unfold bT;rw[aA,B.len]
theorem MF{A:St}{H':Hp}{r:M1}{h2:Z3}(I:Inv X aa σ H s)(E:∀b∈fp,cz X aa H b)(G:s.heap.objs.size<=C)(J:Inv (X.blockC N scope cl y C fp s H) [] A H' r)(w:∀b o,b≠C->r.heap.get? b=some o->h2.get? b=some o):Inv X aa σ H' {r with heap:=h2}:=by
 obtain⟨U,g,d,t,K⟩:=r;have L:K=s.os:=J.os;subst L;have h:H' C=none:=J.free;have u:=J.base;have B:∀b o,s.heap.get? b=some o->b≠C:=λ b o e=>bY (cK (Qi e) G);have M:Un (fJ X.stack) fp H H' s.heap h2:=
  ⟨λ b o e n j m=>w b o (B b o e) (u.keep b o e n j m),λ b o e n j m=>(let⟨O,q⟩:=u.slot b o e n j m;⟨O,w b _ (B b o e) q⟩),u.free,λ b o e m=>(let⟨D,q⟩:=u.there b o e m;⟨D,w b D (B b o e) q⟩),u.tups,u.frzs,u.tbls⟩
 have p:cV X.prog X.w H' h2:=λ b o e=>(J.hok b o e).stay (λ c v P q=>w c v (λ z=>by
  subst z;rcases P with z|z
  ·rw[<-z,h]at e;cases e
  ·rw[h]at z;cases z) q) (λ ω q=>q) λ ω ω q=>q
 have z:=I.call (h':=h2) (g':=g) (d':=d) (t':=t) (ch:=fp) M p J.bare λ b j=>(let⟨_,Q,_,R,S,T⟩:=E b j;⟨R,Q,S,T⟩);exact z
end
theorem L5{y:V2}{N:List V2}{scope:Rf}{cl:List (V2×V0)}{elt tg iter:Expr}{ifs:List Expr}{pos:Pos}{wi:TI}{g:TG}{tst:Env->Sem Bool}{tc:TT}{te:TE}(hcalm:X.calm=true)(B:bA X N nl scope cl y)(hi:PI X tg iter wi)(hg:∀C fp s H,PG (X.blockC N scope cl y C fp s H) tg g)(ht:∀C fp s H,PQ (X.blockC N scope cl y C fp s H) tst tc)(he:∀C fp s H,PE (X.blockC N scope cl y C fp s H) elt te)(hturn:∀(it acc:V1)(env:Env),Tp s!"g" 0 it acc env=(do
   Q4 iter.pos
   match<-Sf it with
   |none=>pure (.done .next)
   |some v=>
    Rl tg it v
    Se tg env v
    let ok<-tst env
    if ok then(do
     (do let x<-QA elt env;let _<-call (.builtin "list.append") [acc,x];pure ())
     again (.compLoop s!"g" 0 it acc env))
    else again (.compLoop s!"g" 0 it acc env))) (hs:∀x,Q6 iter X.env x=pure x) {aa:List (V0×Obj)} {s:M1} {σ:St} {H:Hp} {Q:VK} (I:Inv X aa σ H s) (h:mr wi nl g tc te σ H Q) {use:Option (V1->Sem Unit)} {Q':V1->M1->Prop} (hpost:∀(D C:V0) (s' s2:M1) (fp:List V0) (σ':St) (H' H2:Hp),Inv X aa σ H2 s2->(∀b∈fp,cz X aa H2 b)->s2.heap.objs.size<=C->Inv (X.blockC N scope cl y C fp s2 H2) [] σ' H' s'->Q (.ref D) H'->Tq s!"c" X.A X.xe use Q' (.ref D) C (.ok .next) s') (hpos:Pos):Qm s!"c" X.A (comprehension s!"g" scope X.env hpos (newList []) false (QA iter X.env) use) Q' X.xe s:=by
 refine wpAny_comprehension_free (use:=use) rfl hs B.clos B.kind B.names ?_;refine aM (hi aa s σ H _ I h) λ v s1 h1=>aM h1 λ itv s2 h2=>?_;obtain⟨it,fp,tn,J,H2,e,I2,T,st2,f2,q⟩:=h2;subst e;have hob:∀b∈fp,b<s2.heap.objs.size:=λ b hb=>(let⟨o,e,_⟩:=T.obj 0 _ st2 b hb;Qi e);refine QS (Fe B.cells B.push ?_);dsimp only;generalize hD:s2.heap.objs.size=D;have hC:s!"d".objs.size=s2.heap.objs.size+1:=by rw[QE]
 have hns:s!"m".Ns s!"d".objs.size (λ ω=>none):=(Heap.Ns.new _ (.type "dict")).push _;have hcl:s!"m".get? (s!"d".objs.size+1)=some {cls:=.type "cell",data:=.cell none}:=by
  rw[<-QE _ {cls:=.type "dict",data:=.dict #[]}];exact Qo _ rfl
 have old:∀b o,s2.heap.get? b=some o->s!"m".get? b=some o:=λ b o e=>Qg _ (Qg _ (Qg _ e));have hl:s!"m".get? D=some {cls:=.type "list",data:=.seq ([]:List V1).toArray 0}:=by
  refine Qg _ (Qg _ ?_);rw[<-hD];exact Qo _ rfl
 generalize s!"m"=h1 at*;generalize hC':s!"d".objs.size=C at hns hcl hC ⊢;have hDC:D≠C:=by rw[hC,<-hD];exact(lV _).symm
 have lt_ne:∀b,b<s2.heap.objs.size->b≠C:=λ b hb=>by rw[hC];exact bY (lU hb)
 have fresh:H2 D=none:=I2.hok.fresh (by rw[hD];exact aS _);obtain⟨W,⟨m0,w0⟩,turn⟩:=q D fresh;have hCle:s2.heap.objs.size<=C:=by rw[hC];exact ie _
 have stat:∀{H':Hp},(∀b∈fp,H' b=none)->∀b∈fp,cz (X.blockC N scope cl y C fp s2 H2) [] H' b:=λ hn b hb=>by
  obtain⟨ω,f1,f2',f3,f4,f5⟩:=f2 b hb;refine⟨hn b hb,lt_ne b (hob b hb),λ z=>?_,.inl hb,λ x c e=>(by
   rcases B.of e with⟨_,rfl⟩|e
   ·exact gC (cK (hob b hb) (pz hCle))
   ·exact f4 x c (B.sub x c e)),λ p hp=>T7 hp (by simp[Cx.blockC])⟩
  rcases bH.mp (I2.stkSub b z)with z|z
  ·exact f1 z
  ·exact f2' z
 have main:∀s4:M1,(∃tk,s4={s2 with heap:=h1,toks:=tk})->
   Rm s!"c" X.A (.compLoop s!"g" 0 (.ref it) (.ref D) (X.blockC N scope cl y C fp s2 H2).env) (Tq s!"c" X.A X.xe use Q' (.ref D) C) s4:=by
  rintro s4 ⟨tk,rfl⟩;have I3:Inv (X.blockC N scope cl y C fp s2 H2) [] (bT nl σ) (ag H2 D (.lst [])) { s2 with heap:=h1,toks:=tk }:=Fu I2 B f2 hob hD.symm hC old hl hns hcl;refine codeAny_loop rfl (λ n s'=>∃ i σ' H',Inv (X.blockC N scope cl y C fp s2 H2) [] σ' H' s'/\tn i s'.heap/\(∀ b∈fp,H' b=none)/\W i n σ' H') (λ n s5 hI=>?_) m0
   ⟨0,bT nl σ,_,I3,T.keep 0 _ _ st2 λ b hb o e=>old b o e,λ b hb=>by rw[aD (λ z=>T7 (hob b hb) (by rw[z,<-hD];exact fu _))];exact(f2 b hb).1,w0⟩
  show Qm _ X.A ((Tp s!"g" 0 (.ref it) (.ref D) (X.blockC N scope cl y C fp s2 H2).env).onRaise (λ x=>do R_ x (X.blockC N scope cl y C fp s2 H2).env;theTreesLotGoes x)) _ _ s5;refine wpAny_noted ?_;rw[hturn];obtain⟨i,σ5,H5,I5,st5,fr5,w5⟩:=hI;have quiet:∀{α:Type}{t:Sem α}{R:α->M1->Prop}{E':V1->M1->Prop}{s':M1},Qm s!"c" X.A t R (λ ω ω=>False) s'->Qm s!"c" X.A t R E' s':=λ hw=>QI hw (λ ω ω z=>z) λ ω ω z=>z.elim;refine Qf (QO ?_);rcases turn i n σ5 H5 w5 with⟨stop,qn⟩|⟨go,Nx,hN,step⟩
  ·refine Qf (quiet (aM (T.done (X.blockC N scope cl y C fp s2 H2) rfl rfl rfl hcalm i [] s5 σ5 H5 (λ ω ω=>False) I5 (stat fr5) st5 stop) λ r s6 hz_=>?_));obtain⟨hr,I6⟩:=hz_;subst hr;exact quiet (Qh (hpost D C s6 s2 fp σ5 H5 H2 I2 f2 hCle I6 qn))
  ·refine Qf (quiet (aM (T.item (X.blockC N scope cl y C fp s2 H2) rfl rfl rfl hcalm i [] s5 σ5 H5 (λ ω ω=>False) I5 (stat fr5) st5 go) λ r s6 hz_=>?_));obtain⟨u,hr,h6⟩:=hz_;subst hr;refine Qf (quiet (aM h6 λ ω s7 hz_=>?_));obtain⟨x,H7,I7,r7,y7,st7,fr7⟩:=hz_;have I7':=I7.pinned (stat fr7) (T.obj _ _ st7);have again':∀{σ8:St}{H8:Hp}{s8:M1},Inv (X.blockC N scope cl y C fp s2 H2) ([]++nV fp s7.heap) σ8 H8 s8->Nx σ8 H8->∃m,m<n/\∃i σ' H',Inv (X.blockC N scope cl y C fp s2 H2) [] σ' H' s8/\tn i s8.heap/\(∀b∈fp,H' b=none)/\W i m σ' H':=λ{σ8 H8 s8} I8 n8=>by
    obtain⟨m',hm,w8⟩:=hN σ8 H8 n8;refine⟨m',hm,i+1,σ8,H8,I8.unpinned,T.keep _ _ _ st7 λ b hb o e=>(I8.pin (b,o) (dY _ (dY _ (oh hb e)))).1,λ b hb=>?_,w8⟩;obtain⟨o,e,ω⟩:=T.obj _ _ st7 b hb;exact(I8.pin (b,o) (dY _ (dY _ (oh hb e)))).2.1
   refine Qf (quiet (aM (hg C fp s2 H2 _ s7 σ5 H7 x u _ I7' r7 (step x H7 y7)) λ ω s8 hz_=>?_));obtain⟨σ8,H8,I8,q8⟩:=hz_;refine Qf (quiet (aM (ht C fp s2 H2 _ s8 σ8 H8 _ I8 q8) λ b s9 hz_=>?_));obtain⟨H9,I9,q9⟩:=hz_;cases b with
   |false=>exact quiet (Qh ⟨rfl,again' I9 q9⟩)
   |true=>
    refine Qf (Qf (quiet (aM (he C fp s2 H2 _ s9 σ8 H9 _ I9 q9) λ vy s10 hz_=>?_)));obtain⟨y,H10,I10,r10,xs,e10,z10,n10⟩:=hz_;refine Qf (quiet (aM (fK _ s10 σ8 H10 (.ref D) [y] (.ref D) [vy] (λ ω H'=>Nx σ8 H') I10 rfl (.cons r10 .nil) ⟨D,xs,y,rfl,rfl,e10,z10,n10⟩) λ ω s11 hz_=>?_));obtain⟨ω,H11,I11,ω,q11⟩:=hz_;exact Qh (Qh ⟨rfl,again' I11 q11⟩)
 exact codeAny_compStart_list (main _ ⟨_,rfl⟩) (T.self _ 0 _ _ _ (T.keep 0 _ _ st2 λ b hb o e=>old b o e) (main _ ⟨_,rfl⟩))
section
variable{X:Cx}{N:List V2}{nl:List (Option Nat)}{scope:Rf}{cl:List (V2×V0)}{y:V2}{elt tg iter:Expr}{pos pos' spos:Pos}{wi:TI}{g:TG}{tc:TT}{te:TE}{i:Nat}{x:V2}
theorem L3{aa:List (V0×Obj)}{K:bc}(M:X.N.Nodup)(hi:X.N[i]?=some x)(L:X.env.scope.names.lookup x=some .local)(D C:V0)(s' r:M1)(fp:List V0)(w:St)(H' A:Hp)(h:Inv X aa σ A r)(O:∀b∈fp,cz X aa A b)(B:r.heap.objs.size<=C)(J:Inv (X.blockC N scope cl y C fp r A) [] w H' s')(q:K.nx (σ.set i (some (.ref D))) H'):Tq s!"c" X.A X.xe (some (Se (.Name x pos') X.env)) (λ ω P=>SP X aa K .next P) (.ref D) C (.ok .next) s':=by
 have Q:Inv X aa σ H' s':=MF (h2:=s'.heap) h O B J λ b o ω e=>e;have u:∀b o,r.heap.get? b=some o->b≠C:=λ b o e=>bY (cK (Qi e) B);have j:C≠X.env.locals:=λ z=>by
  obtain⟨m,⟨o,ω,ω,n,ω⟩,ω⟩:=h.loc;exact u _ o n z.symm
 obtain⟨m,R,ω⟩:=J.loc;show Qm _ _ (Se (.Name x pos') X.env (.ref D)) _ _ _;have e:Se (.Name x pos') X.env (.ref D)=(do Q4 pos';bindName X.env x (.ref D)):=by rfl
 rw[e];refine Qf (QO (wpAny_bindName ?_));refine xT (v:=.ref D) Q M hi (.inl L) rfl (λ S T E=>?_) (.inr L);obtain⟨a,U,Y⟩:=E;have G:C≠a:=by
  rcases Y with z|z
  ·rw[z];exact j
  ·obtain⟨v,o,n,ω⟩:=h.cell x a z;exact λ Z=>u a o n Z.symm
 refine⟨m,R.sameBut U G,λ h' I=>⟨_,H',?_,q⟩⟩;refine T.turned (t':=S.toks) (it:=C) (λ b o hb e=>I.extBut b o hb e) J.free j (.inr (cb h.sz B)) (λ z0 c e z=>?_) λ p hp z=>?_
 ·obtain⟨v,o,n,ω⟩:=h.cell z0 c e;exact u c o n z
 ·exact u p.1 _ (h.pin p hp).1 z
theorem E3(b:X.calm=true)(o:X.N.Nodup)(hi:X.N[i]?=some x)(p:X.env.scope.names.lookup x=some .local)(B:bA X N nl scope cl y)(c:PI X tg iter wi)(r:∀C fp s H,PG (X.blockC N scope cl y C fp s H) tg g)(u:∀C fp s H,PE (X.blockC N scope cl y C fp s H) elt te)(hs:∀x,Q6 iter X.env x=pure x:=by intro _;rfl)(e:Sk s!"l" (some (.Name x pos')) spos.line X.env=pure true:=by rfl):PS X (.Assign [.Name x pos'] s!"l" spos) (yt i (mr wi nl g fh te)):=by
 intro aa s σ H D I h;rw[exec_Assign_Name_used _ _ _ _ e];refine Qf (QO (Qf ?_));show Qm _ _ (evalThenUse s!"l" X.env _) _ _ _;unfold evalThenUse;refine Qf ?_;exact aM (L5 (Q:=λ v j=>D.nx (σ.set i (some v)) j) (tst:=λ ω=>pure true) (Q':=λ ω n=>SP X aa D .next n) b B c r (λ ω ω ω ω=>wj) u wU hs I h (λ w C A E fp m j G K L M J q=>L3 o hi p w C A E fp m j G K L M J q) _) λ ω n z=>Qh (Qh z)
end
theorem oY{x:V2}{a:V0}{l:List (V2×V0)}(h:env.cells.lookup x=some a)(h':∀p∈l,env.cells.lookup p.1=some p.2):∀p∈(x,a)::l,env.cells.lookup p.1=some p.2:=λ p b=>by
 rcases bH.mp b with e|b
 ·subst e;exact h
 ·exact h' p b
theorem vq{x y z u:V2}{a b d:V0}(e:env.cells.lookup x=some a)(h2:env.cells.lookup y=some b)(h:env.cells.lookup z=some c)(j:env.cells.lookup u=some d):∀p∈[(x,a),(y,b),(z,c),(u,d)],env.cells.lookup p.1=some p.2:=oY e (oY h2 (iC h j))
end L2
end
section
namespace PySem
theorem Fp:So (.type "list") "keys"=pure none:=am_miss_of_fast qP
theorem L7{prog:Program}{w:Y3}{A:V3}{E:V1->M1->Prop}{s:M1}{a:V0}{o:Obj}{xs:Array V1}{k:Nat}{Q:Option V1->M1->Prop}(v:A.handled=none)(n:s.heap.get? a=some o)(p:o.cls=.type "list")(c:o.data=.seq xs k)(e:o.dict=none)(h:∀h' tk,(∀b u,s.heap.get? b=some u->h'.get? b=some u)->Q none {s with heap:=h',toks:=tk}):Qm s!"o" A (TU (.ref a) "keys") Q E s:=by
 obtain⟨x,y,q,m⟩:=o;dsimp only at p c e;subst p c e;obtain⟨z,g,d,tk,B⟩:=s;have r:∀i,(⟨z,g,d,i,B⟩:M1).TypeIs (.ref a) "list":=λ ω=>⟨_,n,rfl⟩;have C:=sub_AttributeError;have D:=F.slot_list_getattribute.lookup;have G:=F.slot_list_getattribute.bind (.ref a);have H:=am_list_getattr_none;unfold TU getAttrBy? getAttrBy;repeat (any_goals (first|assumption|exact r _|((with_reducible show Qm _ _ (call (QY "list.__getattribute__") _ _) _ _ _);refine RF F.slot_list_getattribute (r _) am_entry_list_getattribute (F.args_list_getattribute_2 _ _) (meets_getattribute_miss_list a xs k m "keys" _ Fp qP (by size_fits)) ⟨n,v,λ I i J j=>?_⟩)|wp_step))
 obtain⟨ty,K,L⟩:=j.there;show Qm _ _ (R7 _ _ _ _ _ _ _) _ _ _;unfold R7;repeat (any_goals (first|assumption|wp_step))
 exact h _ _ j.keeps
end PySem
namespace L2
open PySem PySem.Spec PyProof.Rows
def GL(s:M1)(it l:V0)(its:List V1)(i:Nat)(acc:Array V1)(s2:M1):Prop:=∃c e,s2={s with heap:=c,toks:=e}/\c.IsListIter it l i/\(∀b o,s.heap.get? b=some o->c.get? b=some o)/\acc.toList=its.take i/\i<=its.length
def rj(s:M1)(its:List V1)(acc:Array V1)(s2:M1):Prop:=∃e c,s2={s with heap:=e,toks:=c}/\(∀b o,s.heap.get? b=some o->e.get? b=some o)/\acc.toList=its
theorem Mm{P:Program}{w:Y3}{A:V3}(C:A.handled=none){it Z l:V0}{its:List V1}{s:M1}(hl:s.heap.IsList l its.toArray)(hi:s.heap.objs.size<=it)(D:s.heap.objs.size<=Z)(h:Z≠it):oE P w A it Z its.length (GL s it l its) (rj s its)where
 item:=by
  rintro i j r Q E c ⟨u,g,rfl,n,k,m,_⟩ q;have G:its.toArray[i]?=some its[i]:=by simp
  refine wpAny_pyNext_list_item n (hl.at λ o e=>k _ o e) G λ p v x=>q _ _ ⟨p,g,rfl,v,λ b o e=>(x.2 b λ z=>?_).trans (k b o e),?_,c⟩ λ o e=>(x.2 Z h).trans e
  ·exact T7 (Qi e) (by rw[z];exact iV.mpr hi)
  ·rw[pB,m,lT c]
 done:=by
  rintro j r Q E ⟨u,g,rfl,n,k,m,_⟩ q;refine wpAny_pyNext_list_end C n (hl.at λ o e=>k _ o e) s!"n" λ p y=>q _ ⟨p,g,rfl,λ b o e=>y b o (λ z=>?_) (k b o e),?_⟩ λ o e=>y Z o h e
  ·exact T7 (Qi e) (by rw[z];exact iV.mpr hi)
  ·rw[m,iU (aS _)]
 size:=by
  rintro i j r ⟨u,g,rfl,n,k,m,c⟩;rw[<-j5,m,cJ];exact rZ c
 frame:=by
  rintro i j r p ⟨u,g,rfl,n,k,m,c⟩ B _;exact⟨p,g,rfl,n.at λ o e=>B it o (Ne.symm h) e,λ b o e=>B b o (λ z=>T7 (Qi e) (by rw[z];exact iV.mpr D)) (k b o e),m,c⟩
noncomputable def f_(ks:List V2)(ys:List V):List (bD×V):=eX (λ i=>.inr (ks.getD i "")) (λ i=>ys.getD i .non) ks.length
def sC(K:X0):List V->Hp->VK->Prop:=λ g H Q=>∃(a:V0)(b:List V)(c:List V2)(e:List V),g=[.ref a]/\ai K H a b/\b.length=c.length/\(∀i t,b[i]?=some t->∃T,t=.ref T/\ao K H T [.str (c.getD i ""),e.getD i .non])/\∀d,H d=none->Q (.ref d) (ag H d (.dK (f_ c e)))
theorem P1{K:X0}{xs:List V}{H:Hp}{Q:VK}:sC K xs H Q=∃(a:V0)(ts:List V)(ks:List V2)(ys:List V),xs=[.ref a]/\ai K H a ts/\ts.length=ks.length/\(∀i t,ts[i]?=some t->∃T,t=.ref T/\ao K H T [.str (ks.getD i ""),ys.getD i .non])/\∀d,H d=none->Q (.ref d) (ag H d (.dK (f_ ks ys))):=rfl
theorem Be{X:Cx}(R:X.calm=true):il X (.type "dict") (sC X.K):=by
 intro S s σ H xs us Q I r h;obtain⟨a,ts,D,U,rfl,hq,lt,hp,q⟩:=h;obtain⟨u,rfl,ru⟩:=kX r;cases ru;obtain⟨j,J,Y,Z⟩:=I.list hq;have x:j.length=D.length:=by rw[<-J.length,lt]
 have y:=Y.isList;obtain⟨o,n0,g0,oc,K,L⟩:=Y;have a0:=Qi g0;refine callType_codes (Q₁:=λ ob sn=>ob=.ref s.heap.objs.size/\sn={s with heap:=s.heap.push {cls:=.type "dict",data:=.dict #[]}}) F.kt_called_dict (F.kt_typeCall_dict_1 _) F.entry_dict_init (kt_code_dict_new _ ⟨rfl,rfl⟩) ?_;rintro ob sn ⟨rfl,rfl⟩;have c:s!"f".heap.DictOf (fE X.prog X.w) s.heap.objs.size []:=Heap.DictOf.new s.heap;have es:s!"f".heap.objs.size=s.heap.objs.size+1:=QE ..;have g1:s!"f".heap.get? a=some o:=Qg _ g0;have k1:∀b u,s.heap.get? b=some u->s!"f".heap.get? b=some u:=λ b u e=>Qg _ e;refine⟨c.typeIs,F.args_dict_init_2 _ _,?_⟩;unfold TC.«dict.__init__»;refine Qf ?_;unfold Builtin.Dict.selfAndRest;refine Qf (wpAny_notOrdered_dict c.typeIs ?_);show Qm _ _ (pure (s.heap.objs.size,[Qq a])) _ _ _;refine Qh ?_;show Qm _ _ (Rx "dict.__init__" s.heap.objs.size (.ref a) [] .none) _ _ _;unfold Rx;refine Qf (RU (T:="list") ⟨_,g1,oc⟩ ?_);rw[T6 qQ];refine Qf (L7 (show X.A.in1.in1.handled=none from I.ok.hd R) g1 oc L K λ E M kp=>?_);have ls:s.heap.objs.size<E.objs.size:=by
  obtain⟨o2,ω,ω,N,ω⟩:=c;exact Qi (kp _ _ N)
 have k2:∀b u,s.heap.get? b=some u->E.get? b=some u:=λ b u e=>kp b u (k1 b u e);show Qm _ _ (rule _>>=_) _ _ _;refine Qf (SU (Qf (RN (y.at λ o e=>k2 _ o e) ?_)));refine Qh ⟨QX qz ⟨[.ref s.heap.objs.size,.ref E.objs.size,QJ 0,.none],[]⟩,?_⟩;have z:s.heap.objs.size≠E.objs.size:=bY ls;refine Ag (n:=j.length) (Mm (show X.A.in1.in1.handled=none from I.ok.hd R) y (jm ls) (aS _) z) (λ i A s2 h3 t3 w kz ω=>?_) (λ i=>.inr (D.getD i "")) (λ i=>U.getD i .non) (λ i A v s2 hi w=>?_) (by rw[<-J.length];exact Z) .none j.length 0 _ #[] [] rfl (bJ _) ⟨_,M,rfl,⟨_,Qo _ rfl,rfl,rfl⟩,λ b u e=>Qg _ (k2 b u e),rfl,bJ _⟩ .nil (c.at λ o e=>Qg _ (kp _ o e)) λ s2 A b0 fin kv g=>?_
 ·obtain⟨h4,p,rfl,w,k,G,B⟩:=w;exact⟨h3,t3,rfl,w.at λ o e=>kz _ o (Ne.symm z) e,λ b u e=>kz b u (bY (Qi e)) (k b u e),G,B⟩
 ·obtain⟨h4,p,rfl,w,k,G,B⟩:=w;have ev:v=j[i]:=by
   rw[pB,lT hi]at G;have:=congrArg List.getLast? G;simp only[rX]at this;exact dG this
  obtain⟨t,ht⟩:∃t,ts[i]?=some t:=⟨_,aV qR⟩;obtain⟨T,rfl,hT⟩:=hp i t ht;obtain⟨u2,C,O⟩:=J.get ht;rw[aV hi]at C;cases C;obtain⟨us,P,⟨ot,e1,e2,m,e3⟩,ω⟩:=I.tuple hT;obtain⟨w1,w2,rfl,r1,r2⟩:=P.two;refine⟨T,w1,w2,ot,m,ev.trans O,k _ _ e1,e2,e3,oG (k:=.inr (D.getD i "")) r1,r2⟩
 ·obtain⟨h4,p,rfl,k,ω⟩:=fin;refine⟨rfl,.ref _,ag H s.heap.objs.size (.dK (f_ D U)),I.laid (t':=p) k (aS _) (yJ ?_ (beq_false_of_ne (gC I.big)) ?_ g),rfl,q _ (I.hok.fresh (aS _))⟩
  ·exact cb (sN _ _ _) (by rw[<-lt];exact Z)
  ·rw[x]at kv;exact kv
end L2
end
section
namespace L2
open PySem PySem.Spec PyProof.Rows
def qY(K:X0)(a:V0)(xs:List V):Prop:=∀H:Hp,ao K H a xs
theorem Iv{K:X0}{a:V0}{o:Obj}{its:Array V1}{n:Nat}{xs:List V}(b:K.lookup a=some o)(c:o.cls=.type "tuple"/\o.dict=none)(hs:o.data=.seq its n)(hz:its.size<=Qj)(r:ax xs its.toList):qY K a xs:=λ ω=>.inr ⟨o,its,n,b,c,hs,hz,r⟩
end L2
end
section
namespace PySem.XO
open PySem
section
variable{prog:Program}{w:Y3}{A:V3}{E:V1->M1->Prop}{h:Z3}{g:Array TN}{d:Drawn}{t:Nat}{os:RA}
variable{nm q:V2}{C N:V0}{bs bm bmB:List V1}{hdct:Bool}{sn:List V2}{sub:List V1}{ab:Bool}{col:Option Bool}{dd:Option V0}{k0 k1 k2 k3 k5:Option V1}{B Bn newId nid initId pY:String}{bmN:List V1}
def eC(h:Z3)(C:V0)(rest:List V1):Z3:=
 (h.push {cls:=.type "tuple",data:=.seq rest.toArray}).push {cls:=.ref C,data:=.fields #[.ref h.objs.size,.none,.none,.none,.bool false,.none]}
theorem tF{rest:List V1}{b:V0}{o:Obj}(e:h.get? b=some o):(eC h C rest).get? b=some o:=Qg _ (Qg _ e)
theorem AI{rest:List V1}:(eC h C rest).get? (h.objs.size+1)=some {cls:=.ref C,data:=.fields #[.ref h.objs.size,.none,.none,.none,.bool false,.none]}:=by
 unfold eC
 heap_get
theorem Fq(Fn:TK Bn newId pY bmN)(hBn:bmB.contains (.type Bn)=true)(F:TK B nid initId bmB)(T:OwnTail h bmB bm){mN:V2->Option V1}{rest:List V1}{f:V0}{ofn:Obj}{Q:Fin->M1->Prop}(hC:h.get? C=some (RQ nm q C N bs bm hdct sn sub ab col dd k0 k1 k2 k3 k5 newId))(hn:h.Ns N mN)(hi:mN "__init__"=some (.ref f))(hf:h.get? f=some ofn)(hfc:ofn.cls=.type "function")(hq:Rm s!"o" A (.call (.ref f) ⟨.ref (h.objs.size+1)::rest,[]⟩) (λ r s'=>match r with| .ok (.ret v)=>v=.none/\Q (.done (.ret (.ref (h.objs.size+1)))) s'| .ok _=>False| .error x=>E x s') ⟨eC h C rest,g,d,t,os⟩)(hrest:rest.length<=Qj):Qm s!"o" A (TC.«type.__call__» ⟨.ref C::rest,[]⟩) Q E ⟨h,g,d,t,os⟩:=by
 repeat (first|with_reducible refine wpAny_madeBy_exc hC ?_|with_reducible refine Q7 hC ?_|wp_step)
 refine codeAny_call_builtin_code (SV _ Fn.quiet) (wpAny_check_new_subU Fn hBn T hC (codeAny_exc_new_subU Fn hBn F T hC ?_ hrest));have hC1:=tF (C:=C) (rest:=rest) hC;have hn1:(eC h C rest).Ns N mN:=hn.keeps λ b o e=>tF e;have self:=AI (h:=h) (C:=C) (rest:=rest);have hsub:(Qq C::bm).contains (.ref C)=true:=by simp
 have T1:OwnTail (eC h C rest) bmB bm:=T.keeps λ b o e=>tF e;change Qm _ _ _ _ _ ⟨eC h C rest,g,d,t,os⟩;unfold isInstance;repeat (first|with_reducible refine Q7 self ?_|(with_reducible refine RX hC1 ?_;rw[hsub])|wp_step)
 show Qm _ _ (So (.ref C) _) _ _ _;refine wpAny_typeLookup_tail hC1 hn1 T1 F.mroIs F.init.lookup ?_;rw[hi];refine QC (Qf (wpAny_bindSpecial_def (tF hf) hfc ?_));refine Qf (RD (Rn hq λ r s' hr=>?_));cases r with
 |error x=>exact hr
 |ok fl=>
  cases fl with
  |ret v=>
   obtain⟨rfl,hr⟩:=hr
   wp_walk
   exact hr
  |next=>exact hr.elim
  |brk=>exact hr.elim
  |cont=>exact hr.elim
theorem K6(Fn:TK Bn newId pY bmN)(i:bmB.contains (.type Bn)=true)(F:TK B nid initId bmB)(T:OwnTail h bmB bm){m:V2->Option V1}{rest:List V1}{f:V0}{c:Obj}{Q:V1->M1->Prop}(e:h.get? C=some (RQ nm q C N bs bm hdct sn sub ab col dd k0 k1 k2 k3 k5 newId))(o:h.Ns N m)(hi:m "__init__"=some (.ref f))(p:h.get? f=some c)(j:c.cls=.type "function")(u:Rm s!"o" (A.under (.builtin "type.__call__" ⟨.ref C::rest,[]⟩)) (.call (.ref f) ⟨.ref (h.objs.size+1)::rest,[]⟩) (λ r n=>match r with| .ok (.ret v)=>v=.none/\Q (.ref (h.objs.size+1)) n| .ok _=>False| .error x=>E x n) ⟨eC h C rest,g,d,t,os⟩)(b:rest.length<=Qj):Qm s!"o" A (call (.ref C) rest) Q E ⟨h,g,d,t,os⟩:=by
 have look:=tc_lookup;have y:=tc_bind (.ref C);have z:(⟨h,g,d,t,os⟩:M1).TypeIs (.ref C) "type":=⟨_,e,rfl⟩;refine RD (codeAny_of_tree ?_);change Qm _ _ (callAny (.ref C) _) _ _ _;repeat (any_goals (first|with_reducible refine Q7 e ?_|assumption|wp_step))
 refine⟨rfl,codeAny_call_builtin_at (SV _ qP) entry_typeCall (wpAny_check_type_call_sub e ?_)⟩;exact Fq Fn i F T e o hi p j u b
end
section
variable{M:Model}{A:V3}{E:V1->M1->Prop}{env:Env}{s:M1}
variable{nm q:V2}{C N:V0}{bs bm:List V1}{hdct:Bool}{sn:List V2}{sub:List V1}{ab:Bool}{col:Option Bool}{dd:Option V0}{k0 k1 k2 k3 k5:Option V1}{newId:String}
theorem LP{x:Sem V1}{Q:Flow->M1->Prop}(b:bm.contains (.type "BaseException")=true)(u:A.handled=none)(h:Qm M A x (λ v c=>∃e j vs m,v=.ref e/\c.heap.get? C=some (RQ nm q C N bs bm hdct sn sub ab col dd k0 k1 k2 k3 k5 newId)/\c.heap.get? e=some {cls:=.ref C,dict:=j,data:=.fields vs,slots:=m}/\vs[1]?=some .none/\E (.ref e) c) E s):Qm M A (raiseStmt env (some x) none) Q E s:=by
 have n:(Qq C::bm).contains (.type "BaseException")=true:=by rw[vF,b,Bool.or_true]
 unfold raiseStmt;refine Qf (QI h (λ v c y=>?_) λ ω ω z=>z);obtain⟨e,j,vs,m,rfl,D,G,o,H⟩:=y;obtain⟨r,g,d,I,os⟩:=c;have i:r.get? C=some (RQ nm q C N bs bm hdct sn sub ab col dd k0 k1 k2 k3 k5 newId):=D;have p:r.get? e=some {cls:=.ref C,dict:=j,data:=.fields vs,slots:=m}:=G;repeat (first|with_reducible refine Q7 p ?_|with_reducible refine Q7 i ?_|(with_reducible refine RX i ?_;rw[n])|wp_step)
 rw[o];refine Qh (wpAny_ite ?_);rw[T5 qQ];exact Qh (wpAny_raiseNew_none u H)
end
end PySem.XO
end
section
namespace PySem.W
open PySem PySem.Calls PyProof.Rows Builtin Builtin.ObjectAttr
section
variable{prog:Program}{w:Y3}{A:V3}{E:V1->M1->Prop}{s:M1}{K:Frag}{x C:V0}{ox:Obj}{od:Option Obj}{name:V2}{expr:Bool}{Q:V1->M1->Prop}
theorem xget_value{v:V1}(X:K.In s.heap)(I:InstAt s.heap x ox C od)(b:findIn K (.ref C) "__getattribute__"=some (some (.builtin "BaseException.__getattribute__")))(c:findIn K (.ref C) "__getattr__"=some none)(p:mroIn K C (.type "BaseException")=some true)(r:findObj K C od name=some (.value v))(u:handedIn v=true)(h:Q v {s with toks:=s.toks+1}):Qm s!"o" A (getAttr (.ref x) name expr) Q E s:=by
 obtain⟨e,g,d,t,y⟩:=s;have i:=I.type (M:=Qn prog w);have z:=looks_findIn (M:=Qn prog w) X b;have B:=looks_find (M:=Qn prog w) X I r;have D:Looks s!"o" e (hookBefore (.ref C)) none:=looks_hook (mc:=.ref C) X (by have q:onTheHeap (Qq C)=true:=rfl;rw[T6 q];exact c);have j:=F.excAttr_ValueError.ga.bind (.ref x);unfold getAttr getAttrBy;refine Qf (wpAny_mkText (QC (Qf (i.at (Qf (z.at ?_))))));have m:(onTheHeap (Qq C)&&QY "BaseException.__getattribute__"==QY "object.__getattribute__")=false:=by
  rw[show(QY "BaseException.__getattribute__"==QY "object.__getattribute__")=false by decide+kernel];rfl
 dsimp only;rw[T5 (by rw[m];exact dI)];unfold getAttrByItsOwn;refine Qf (D.at (Qf (Tf (QC ?_))));unfold callGetattribute;rw[T5 (by cases expr<;>decide)];unfold boundAndCalled;refine Qf (wpAny_of_eq j ?_);have G:Looks s!"o" e (isInstance (.ref x) (.type "BaseException")) true:=i.andThen (looks_mroIn X p);have n:builtinKind "BaseException.__getattribute__"=some .slot:=by decide+kernel
 have o:splitId "BaseException.__getattribute__"=some ("BaseException","__getattribute__"):=by decide+kernel
 refine RD ?_;refine RR F.excAttr_ValueError.ga.plain F.entry_bexc_ga ?_;have H:=F.args_bexc_ga (.ref x) (.str name t);refine @check_slot s!"o" _ _ ⟨e,g,d,t+1,y⟩ "BaseException.__getattribute__" "BaseException" "__getattribute__" (.ref x) [.str name t] [] _ n o G H ?_;refine Qf (Qh (Qf (Qh (Qf (i.at (Qf (B.at (Qh ?_))))))));show Qm _ _ (handedOut v) _ _ _;rw[handedOut_of u];exact Qh h
end
def oi:List V1->Bool
 |[.type a,.type b,.type c,.type d]=>a=="ValueError"&&b=="Exception"&&c=="BaseException"&&d=="object"
 | .ref _::r=>oi r
 |_=>false
theorem By(self:V1):∀{l:List V1},oi l=true->refuseLoop self "__setattr__" l=pure ()
 |[.type a,.type b,.type c,.type d],e=>by
  simp only[oi,jZ,beq_iff_eq]at e;obtain⟨⟨⟨rfl,rfl⟩,rfl⟩,rfl⟩:=e;exact PySem.F.store_ValueError.passes self
 | .ref c::r,e=>by rw[refuseLoop_ref];exact By self (by cases r<;>first|exact e|cases e)
theorem Ap:∀{l:List V1},oi l=true->l.contains (.type "object")=true
 |[.type a,.type b,.type c,.type d],e=>by
  simp only[oi,jZ,beq_iff_eq]at e;obtain⟨⟨⟨rfl,rfl⟩,rfl⟩,rfl⟩:=e;simp
 | .ref c::r,e=>by rw[vF,Ap (l:=r) (by cases r<;>first|exact e|cases e),Bool.or_true]
def valueOver(K:Frag)(C:V0):Bool:=(clsIn K C).any λ b=>oi b.mro
section
variable{prog:Program}{w:Y3}{A:V3}{E:V1->M1->Prop}{R:T4->M1->Prop}{s:M1}{K:Frag}{x C:V0}{ox:Obj}{od:Option Obj}
theorem LO{name:V2}{tk:Tok}{v:V1}(X:K.In s.heap)(I:InstAt s.heap x ox C od)(p:valueOver K C=true)(r:takerIn K C name=some none)(h:∀b,Qm s!"o" A.in1 (storeInOwnDict (.ref x) (.ref C) (.str name tk) name v b) (λ fin i=>match fin with| .done f=>R (.ok f) i| .again n=>n.quiet=true/\Rm s!"o" A n R i) (λ e i=>R (.error e) i) s):Rm s!"o" A (.call (.builtin "object.__setattr__") ⟨[.ref x,.str name tk,v],[]⟩) R s:=by
 have g:=PySem.F.store_object;obtain⟨m,o,j⟩:=any_some p;have u:m.mro.isEmpty=false:=by
  cases q:m.mro with
  |nil=>rw[q]at j;cases j
  |cons _ _=>rfl
 have sub:Looks s!"o" s.heap (isInstance (.ref x) (.type "object")) true:=I.type.andThen (looks_mroIn X (by unfold mroIn;rw[o,nO,T5 (by rw[u];decide),Ap j]));refine RR g.slot.plain g.entry (@check_slot s!"o" _ _ s "object.__setattr__" "object" "__setattr__" (.ref x) [.str name tk,v] [] _ g.kind g.split sub (g.args (.ref x) (.str name tk) v) ?_);obtain⟨c,y,hr⟩:=Option.bind_eq_some_iff.mp r;have z:Looks s!"o" s.heap (mroOf (.ref C)) m.mro:=(looks_clsIn X o).andThen .now;have taker:Looks s!"o" s.heap (storeTaker? c) none:=by
  cases c with
  |none=>exact .now
  |some a=>
   obtain⟨b,B,q⟩:=c_.mp hr;refine(looks_takesIn X B).andThen ?_;cases b with
   |true=>cases q
   |false=>exact .now
 rw[osa_eq,refuse_eq];refine Qf (Qf (I.type.here (Qf (z.here ?_))));rw[By _ j];exact Qh (Qf (I.type.here (Qf ((looks_findIn X y).here (Qf (taker.here (h _)))))))
theorem xset_new{name:V2}{v:V1}{Q:Unit->M1->Prop}{vs:Array V1}{j:Array (Option V1)}(X:K.In s.heap)(m:s.heap.get? x=some {cls:=.ref C,dict:=none,data:=.fields vs,slots:=j})(hs:findIn K (.ref C) "__setattr__"=some (some (.builtin "object.__setattr__")))(B:valueOver K C=true)(D:takerIn K C name=some none)(G:hasDictIn K C=true)(h:∀h',h'.Ns1 s.heap.objs.size (λ y=>if y=name then some v else none)->h'.get? x=some {cls:=.ref C,dict:=some s.heap.objs.size,data:=.fields vs,slots:=j}->(∀b o,b≠x->s.heap.get? b=some o->h'.get? b=some o)->Q () {s with heap:=h',toks:=s.toks+2}):Qm s!"o" A (setAttr (.ref x) name v) Q E s:=by
 have I:InstAt s.heap x {cls:=.ref C,dict:=none,data:=.fields vs,slots:=j} C none:=⟨m,rfl,rfl,True.intro⟩;refine set_plain X I hs (LO (s:={s with toks:=s.toks+1}) X I B D λ b=>?_);obtain⟨O,H,n⟩:=any_some G;have c:x≠s.heap.objs.size:=bY (Qi m);have g:(s.heap.push {cls:=.type "dict",data:=.dict #[]}).get? x=some {cls:=.ref C,dict:=none,data:=.fields vs,slots:=j}:=Qg _ m;refine Qf (Qh (Qf (Qf (wpAny_loadPart m (Qf (Looks.here (s:={s with toks:=s.toks+1}) (looks_clsIn X H) ?_))))));rw[n];change Qm s!"o" A.in1 (alloc {cls:=.type "dict",data:=.dict #[]}>>=λ d=>update x (λ o=>{o with dict:=some d})>>=λ ω=>dictMade (.ref C) x d) _ _ _;refine Qf (wpAny_alloc (Qf (wpAny_update g ?_)));have p:((s.heap.push {cls:=.type "dict",data:=.dict #[]}).update x λ o=>{o with dict:=some s.heap.objs.size}).get? s.heap.objs.size=some {cls:=.type "dict",data:=.dict #[]}:=
  (SF _ _ _ _ c.symm).trans (Heap.get?_push_at rfl rfl)
 have q:((s.heap.push {cls:=.type "dict",data:=.dict #[]}).update x λ o=>{o with dict:=some s.heap.objs.size}).Ns s.heap.objs.size (λ ω=>none):=
  ⟨_,#[],_,p,rfl,λ e J=>T7 J s!"n",λ ω=>rfl⟩
 refine Qh (a:=some s.heap.objs.size) ?_;show Qm _ _ (storeInDict s.heap.objs.size (.str name _) name v) _ _ _;unfold storeInDict newKeyGuard;refine Qf (Qh (Qf (wpAny_nsSet1 (Heap.Ns1.of_empty q) λ h' i z=>?_)));obtain⟨oD,L,M,r,gE,u⟩:=i.count (Within.cons name v Within.nil);refine Qf (wpAny_lookBehind r (by rw[gE];exact pastItsLine_dict (cb u (by rw[dv,pD,Qk];lia))) ?_);refine Qh (h h' i ?_ λ b o N e=>?_)
 ·exact(z.2 x c).trans (Qy _ g rfl)
 ·exact(z.2 b (bY (Qi e))).trans ((SF _ _ _ _ N).trans (Qg _ e))
end
section
variable{prog:Program}{w:Y3}{A:V3}{E:V1->M1->Prop}{s:M1}{K:Frag}{x C:V0}{ox:Obj}{od:Option Obj}{name:V2}
theorem Hn{Q:Option V1->M1->Prop}(X:K.In s.heap)(I:InstAt s.heap x ox C od)(c:findIn K (.ref C) "__getattribute__"=some (some (.builtin "BaseException.__getattribute__")))(e:findIn K (.ref C) "__getattr__"=some none)(r:mroIn K C (.type "BaseException")=some true)(u:findObj K C od "__class__"=some (.bind (.builtin "getset_descriptor.__get__") (.builtin "object.__class__")))(v:mroIn K C (.type "object")=some true)(h:Q (some (.ref C)) {s with toks:=s.toks+1}):Qm s!"o" A (TU (.ref x) "__class__") Q E s:=by
 obtain⟨b,g,d,t,p⟩:=s;have i:=I.type (M:=Qn prog w);have y:=looks_findIn (M:=Qn prog w) X c;have z:=looks_find (M:=Qn prog w) X I u;have B:Looks s!"o" b (hookBefore (.ref C)) none:=looks_hook (mc:=.ref C) X (by have q:onTheHeap (Qq C)=true:=rfl;rw[T6 q];exact e);have j:=F.excAttr_ValueError.ga.bind (.ref x);unfold TU getAttrBy? getAttrBy;refine Qf (wpAny_mkText (Qf (Tf (QC (Qf (i.at (Qf (y.at ?_))))))));have m:(onTheHeap (Qq C)&&QY "BaseException.__getattribute__"==QY "object.__getattribute__")=false:=by
  rw[show(QY "BaseException.__getattribute__"==QY "object.__getattribute__")=false by decide+kernel];rfl
 dsimp only;rw[T5 (by rw[m];exact dI)];unfold getAttrByItsOwn;refine Qf (B.at (Qf (Tf (QC ?_))));unfold callGetattribute;rw[T5 qQ];unfold boundAndCalled;refine Qf (wpAny_of_eq j ?_);have D:Looks s!"o" b (isInstance (.ref x) (.type "BaseException")) true:=i.andThen (looks_mroIn X r);have n:builtinKind "BaseException.__getattribute__"=some .slot:=by decide+kernel
 have o:splitId "BaseException.__getattribute__"=some ("BaseException","__getattribute__"):=by decide+kernel
 refine RD ?_;refine RR F.excAttr_ValueError.ga.plain F.entry_bexc_ga ?_;have G:=F.args_bexc_ga (.ref x) (.str "__class__" t);refine @check_slot s!"o" _ _ ⟨b,g,d,t+1,p⟩ "BaseException.__getattribute__" "BaseException" "__getattribute__" (.ref x) [.str "__class__" t] [] _ n o D G ?_;refine Qf (Qh (Qf (Qh (Qf (i.at (Qf (z.at ?_)))))));show Qm _ _ (RB [.builtin "object.__class__"] (call (.builtin "getset_descriptor.__get__") [.builtin "object.__class__",.ref x,.ref C])>>=ret) _ _ _;refine Qf (QC (RD (class_get (s:=⟨b,g,d,t+1,p⟩) (ox:=ox) (od:=od) X I v ?_)));refine Qh ?_;show Qm _ _ (handedOut (.ref C)) _ _ _;exact handed_on rfl (Qh h)
theorem kitx_exc(hdct:hasDictIn K C=true)(c:findIn K (.ref C) "__getattribute__"=some (some (.builtin "BaseException.__getattribute__")))(g:findIn K (.ref C) "__getattr__"=some none)(p:mroIn K C (.type "BaseException")=some true)(r:findIn K (.ref C) "__class__"=some (some (.builtin "object.__class__")))(u:specialIn K (.builtin "object.__class__") "__get__"=some (some (.builtin "getset_descriptor.__get__")))(i:takesIn K (.builtin "object.__class__")=some true)(v:mroIn K C (.type "object")=some true):KitX K (.ref x) (.ref C) (λ h=>∃ox od,InstAt h x ox C od)where
 ty:=λ _ _ _ ⟨_,_,I⟩=>I.type
 it:=λ ω ω X ω=>by
  obtain⟨o,b,ω⟩:=any_some hdct;unfold clsIn at b;split at b
  ·rename_i j;intro B D G H k q;unfold isType loadHead;exact Qf (wpAny_loadPart (k _ _ (X _ _ j)) (Qh q))
  ·cases b
 ne:=λ h tp J y n L X m=>by
  obtain⟨o,b,ω⟩:=any_some hdct;refine Bool.eq_false_iff.mpr λ q=>?_;have e:C=tp:=Value.ref.inj (beq_iff_eq.mp q);subst e;unfold clsIn at b;split at b
  ·rename_i j;have z:=(X _ _ j).symm.trans m;cases z
  ·cases b
 ca:=λ X ⟨ox,od,I⟩ k=>Hn X I c g p (by
  obtain⟨o,b,ω⟩:=any_some hdct;unfold findObj;rw[b,nO,r,nO];show(specialIn K (.builtin "object.__class__") "__get__").bind _=_;rw[u,nO];show(takesIn K (.builtin "object.__class__")).bind _=_;rw[i];rfl) v k
end
end PySem.W
end
section
namespace PySem.XF
open PySem
structure jw(fs ex:List V0)(a:V0)(h h':Z3):Prop where
 keep:∀b o,h.get? b=some o->b∉fs->b≠a->b∉ex->h'.get? b=some o
 slot:∀b o,h.get? b=some o->b∈fs->b≠a->b∉ex->∃sl,h'.get? b=some {o with slots:=sl}
def fV(h:Z3)(vs:Array V1)(T:V0)(fl:V1):Prop:=vs[1]?=some (.ref T)/\∃b c,h.get? T=some b/\b.data=.fields c/\c[3]?=some fl
section
variable{M:Model}{A:V3}{E:V1->M1->Prop}{s:M1}
theorem D7{base:Z3}{env:Env}{outer:List Env}{L e:V0}{cls c:V1}{p:Option V0}{vs:Array V1}{i:Array (Option V1)}{r:Bool}{Q:Unit->M1->Prop}(u:A.frames=some (env::outer))(hl:s.heap.FunFrames base (env::outer))(H:env.frame=some L)(z:s.heap.get? e=some {cls:=cls,dict:=p,data:=.fields vs,slots:=i})(hsz:1<vs.size)(I:∀h' j T,jw ((env::outer).filterMap (·.frame)) [] e s.heap h'->s.heap.objs.size<=T->h'.get? e=some {cls:=cls,dict:=p,data:=.fields j,slots:=i}->fV h' j T (QJ L)->Q () {s with heap:=h'}):Qm M A (do let a<-frameOf env;let pl<-entryPlaceOf L r;let b<-EntryCells.newEntry c a .none (QJ L) .none pl;setField (.ref e) 1 b) Q E s:=by
 have v:e∉(env::outer).filterMap (·.frame):=λ J=>by
  obtain⟨ω,o,B,w⟩:=hl.mem J;rw[z]at B;cases B;exact w vs rfl
 refine Qf (wpAny_frameOf_fun u hl H λ m g=>Qf (wpAny_entryPlaceOf λ pl n=>?_));unfold EntryCells.newEntry newFields;refine Qf (QS ?_ (n.sizeOk5 _ _ _ _ _));have C:m.get? e=some {cls:=cls,dict:=p,data:=.fields vs,slots:=i}:=(g.2.1 e v).trans z;generalize htr:({cls:=.type "traceback",dict:=none,data:=.fields ([c,.ref L,.none,QJ L,.none]++(if pl.isEmpty then c9 6 Qz else pl)).toArray}:Obj)=h;have D:(m.push h).get? e=_:=Qg h C;have x:m.objs.size≠e:=gC (Qi C);refine SW D rfl hsz (I _ (vs.setIfInBounds 1 (.ref m.objs.size)) m.objs.size ⟨λ b o e G y ω=>?_,λ b o e G y ω=>?_⟩ (lY g.1.symm) (Qy _ D rfl) ⟨by simp[hsz],h,([c,.ref L,.none,QJ L,.none]++(if pl.isEmpty then c9 6 Qz else pl)).toArray,?_,by rw[<-htr],?_⟩)
 ·rw[Qr _ _ (Ne.symm y)];exact Qg _ ((g.2.1 b G).trans e)
 ·obtain⟨i,q⟩:=g.2.2 b o e;refine⟨i,?_⟩;rw[Qr _ _ (Ne.symm y)];exact Qg _ q
 ·rw[Qr _ _ (Ne.symm x)];refine Qo _ ?_;rw[<-htr];rfl
 ·first|(simp;done)|(rcases n with rfl|⟨_,_,_,_,_,_,_,rfl⟩<;>simp)
theorem Mh{base:Z3}{env:Env}{outer:List Env}{L e:V0}{cls:V1}{g:Option V0}{vs:Array V1}{h:Array (Option V1)}{Q:Unit->M1->Prop}(c:A.frames=some (env::outer))(hl:s.heap.FunFrames base (env::outer))(i:env.frame=some L)(j:s.heap.get? e=some {cls:=cls,dict:=g,data:=.fields vs,slots:=h})(m:vs[1]?=some .none)(n:∀h' b T,jw ((env::outer).filterMap (·.frame)) [] e s.heap h'->s.heap.objs.size<=T->h'.get? e=some {cls:=cls,dict:=g,data:=.fields b,slots:=h}->fV h' b T (QJ L)->Q () {s with heap:=h'}):Qm M A (R_ (.ref e) env) Q E s:=by
 unfold R_;simp only[i];refine Qf (Ro j rfl m ?_);rw[T5 qQ];exact D7 c hl i j (px.mp m).1 n
theorem LN{base:Z3}{env:Env}{outer:List Env}{L e T0:V0}{cls:V1}{x:Option V0}{vs:Array V1}{y:Array (Option V1)}{Q:Unit->M1->Prop}(n:A.frames=some (env::outer))(hl:s.heap.FunFrames base (env::outer))(B:env.frame=some L)(C:s.heap.get? e=some {cls:=cls,dict:=x,data:=.fields vs,slots:=y})(p:fV s.heap vs T0 .none)(q:T0≠e)(I:∀h' g T,jw ((env::outer).filterMap (·.frame)) [T0] e s.heap h'->s.heap.objs.size<=T->h'.get? e=some {cls:=cls,dict:=x,data:=.fields g,slots:=y}->fV h' g T (QJ L)->Q () {s with heap:=h'}):Qm M A (R_ (.ref e) env) Q E s:=by
 obtain⟨D,R,J,r,h,G⟩:=p;unfold R_;simp only[B];refine Qf (Ro C rfl D ?_);rw[T6 (show(Qq T0 !=Qz)=true from by simp)];refine Qf (Ro r h G ?_);rw[T5 (show ¬((Qz==QJ L)=true)from by simp[QJ])];refine Qf (SW r h (px.mp G).1 ?_);have c:∀b,b≠T0->(s.heap.update T0 (R4 (·.setIfInBounds 3 Qz))).get? b=s.heap.get? b:=λ b i=>Qr _ _ (Ne.symm i);have m:∀b o,s.heap.get? b=some o->(∀K,o.data≠.fields K)->b≠T0:=λ b o i j z=>by
  rw[z,r]at i;cases i;exact j J h
 refine D7 (s:={ s with heap:=s.heap.update T0 (R4 (·.setIfInBounds 3 Qz)) }) n (hl.of_keeps λ b o i j=>⟨o,(c b (m b o i j)).trans i,rfl⟩) B
  ((c e (Ne.symm q)).trans C) (px.mp D).1 λ h' g T H N O P=>I h' g T ⟨λ b o e u v w=>?_,λ b o e u v w=>?_⟩ (cb (lY (by simp[Heap.update])) N) O P
 ·exact H.keep b o ((c b (by simpa using w)).trans e) u v s!"n"
 ·exact H.slot b o ((c b (by simpa using w)).trans e) u v s!"n"
theorem Lx{env:Env}{L e T:V0}{cls:V1}{g:Option V0}{vs:Array V1}{h:Array (Option V1)}{Q:Unit->M1->Prop}(i:env.frame=some L)(j:s.heap.get? e=some {cls:=cls,dict:=g,data:=.fields vs,slots:=h})(b:fV s.heap vs T (QJ L))(m:Q () s):Qm M A (R_ (.ref e) env) Q E s:=by
 obtain⟨n,q,r,o,c,p⟩:=b;unfold R_;simp only[i];refine Qf (Ro j rfl n ?_);rw[T6 (show(Qq T !=Qz)=true from by simp)];refine Qf (Ro o c p ?_);rw[T6 (show(QJ L==QJ L)=true from by simp)];exact Qh m
theorem Ju{e T:V0}{cls v:V1}{m:Option V0}{vs:Array V1}{p:Array (Option V1)}{fr:Option V0}{Q:Unit->M1->Prop}(q:s.heap.get? e=some {cls:=cls,dict:=m,data:=.fields vs,slots:=p})(i:fV s.heap vs T v)(j:T≠e)(w:∀h',jw [] [T] e s.heap h'->h'.get? e=some {cls:=cls,dict:=m,data:=.fields vs,slots:=p}->fV h' vs T (fr.elim .none λ f=>QJ f)->Q () {s with heap:=h'}):Qm M A (setFlight (.ref e) fr) Q E s:=by
 obtain⟨r,B,C,u,g,x⟩:=i;have h:=(px.mp x).1;have c:∀b,b≠T->(s.heap.update T (R4 (·.setIfInBounds 3 (fr.elim Qz λ f=>QJ f)))).get? b=s.heap.get? b:=λ b y=>Qr _ _ (Ne.symm y);unfold setFlight;refine Qf (Ro q rfl r ?_);rw[T6 (show(Qq T !=Qz)=true from by simp)];refine SW u g h (w _ ⟨λ b o e ω ω z=>(c b (by simpa using z)).trans e,λ b o ω n ω ω=>T7 n s!"n"⟩ ((c e (Ne.symm j)).trans q) ⟨r,_,_,Qy _ u (Obj.isFreed_of_fields (Obj.data_mapFields g _)),Obj.data_mapFields g _,by simp[h]⟩)
end
end PySem.XF
end
section
namespace L2
open PySem PySem.Spec PyProof.Rows PySem.XF
def cX(a C:V0)(ed:Option V0):HO:=.ext λ h=>∃vs b,h.get? a=some {cls:=.ref C,dict:=ed,data:=.fields vs,slots:=b}
variable{ed:Option V0}{C:V0}{H:Hp}
theorem DC{P:Program}{w:Y3}{h:Z3}{a:V0}{vs:Array V1}{b:Array (Option V1)}(e:h.get? a=some {cls:=.ref C,dict:=ed,data:=.fields vs,slots:=b}):aQ P w H h a (cX a C ed):=
 ⟨⟨vs,b,e⟩,⟨_,e⟩,λ c g ⟨vs,b,q⟩ k=>⟨vs,b,k _ q⟩⟩
structure nh(X:Cx)(aa:List (V0×Obj))(H:Hp)(a T:V0):Prop where
 new:X.s₀.heap.objs.size<=T
 pin:∀p∈X.pn++aa,p.1≠T
 free:H T=none
 ne:T≠a
def mu(X:Cx)(aa:List (V0×Obj))(H:Hp)(h:Z3)(a C:V0)(ed:Option V0)(fl:Option V1):Prop:=
 H a=some (cX a C ed)/\∃vs b,h.get? a=some {cls:=.ref C,dict:=ed,data:=.fields vs,slots:=b}/\match fl with
  |none=>vs[1]?=some .none
  |some f=>∃T,fV h vs T f/\nh X aa H a T
section
variable{X:Cx}{aa:List (V0×Obj)}{σ:St}{H:Hp}{s:M1}{a C:V0}{ed:Option V0}{E:V1->M1->Prop}
theorem Inv.lone(I:Inv X aa σ H s){T:V0}{h:Obj}{ts:Array V1}(n:nh X aa H a T)(i:s.heap.get? T=some h)(hd:h.data=.fields ts):(T∈X.ex\/X.s₀.heap.objs.size<=T)/\T≠X.env.locals/\(∀x c,X.env.cells.lookup x=some c->c≠T)/\∀p∈X.pn++aa,p.1≠T:=by
 refine⟨.inr n.new,λ z=>?_,λ x c e z=>?_,n.pin⟩
 ·obtain⟨m,⟨o,j,q,g,b,ω⟩,ω⟩:=I.loc;rw[<-z,i]at g;cases g;rw[hd]at b;cases b
 ·obtain⟨v,o,g,b⟩:=I.cell x c e;rw[z,i]at g;cases g;rw[hd]at b;cases b
theorem Inv.wake{h':Z3}{ex:List V0}{vs:Array V1}{J:Array (Option V1)}(I:Inv X aa σ H s)(m:H a=some (cX a C ed))(i:jw (fJ X.stack) ex a s.heap h')(L:h'.get? a=some {cls:=.ref C,dict:=ed,data:=.fields vs,slots:=J})(j:∀b∈ex,H b=none/\(b∈X.ex\/X.s₀.heap.objs.size<=b)/\b≠X.env.locals/\(∀x c,X.env.cells.lookup x=some c->c≠b)/\∀p∈X.pn++aa,p.1≠b):Inv X aa σ H {s with heap:=h'}:=by
 have M:∀b,H b=none->b≠a:=λ b n z=>by rw[z,m]at n;cases n
 have y:∀b o,H b=some o->b∉fJ X.stack:=λ b o q z=>by rw[I.stkFree b z]at q;cases q
 have A:∀b o,H b=some o->b∉ex:=λ b o q z=>by rw[(j b z).1]at q;cases q
 have there:∀b o,s.heap.get? b=some o->b∉ex->∃o',h'.get? b=some o':=λ b o q z=>by
  by_cases h:b=a
  ·rw[h];exact⟨_,L⟩
  ·by_cases N:b∈fJ X.stack
   ·obtain⟨J,r⟩:=i.slot b o q N h z;exact⟨_,r⟩
   ·exact⟨_,i.keep b o q N h z⟩
 refine I.call (g':=s.gens) (d':=s.drawn) (t':=s.toks) (ch:=ex) ⟨λ b o q n B D=>i.keep b o q B (M b n) D,λ b o q n B D=>i.slot b o q B (M b n) D,λ ω ω ω n ω=>n,there,λ ω ω q=>q,λ ω ω ω q=>q,λ ω ps q=>⟨#[],by simpa using q⟩⟩ (λ b u q=>?_) I.bare λ b O=>(j b O).2;by_cases h:b=a
 ·subst h;rw[m]at q;cases q;exact DC L
 ·refine(I.hok b u q).stay (λ c v g r=>?_) (λ ω r=>r) λ ω ω r=>r;have G:c≠a:=by
   rcases g with rfl|g
   ·exact h
   ·intro z;rw[z,m]at g;cases g
  have e:∃o,H c=some o:=by
   rcases g with rfl|g
   ·exact⟨_,q⟩
   ·exact⟨_,g⟩
  obtain⟨o,e⟩:=e;exact i.keep c v r (y c o e) G (A c o e)
def ED(X:Cx)(aa:List (V0×Obj))(H:Hp)(h:Z3)(a C:V0)(ed:Option V0):Prop:=
 mu X aa H h a C ed none\/mu X aa H h a C ed (some .none)\/mu X aa H h a C ed (some (QJ X.env.locals))
theorem zO(I:Inv X aa σ H s)(c:H a=some (cX a C ed)){T:V0}(b:s.heap.objs.size<=T):nh X aa H a T:=by
 refine⟨cb I.sz b,λ p e z=>?_,I.hok.fresh b,λ z=>?_⟩
 ·have:=Qi (I.pin p e).1;rw[z]at this;exact T7 (cK this b) (fu _)
 ·have:=I.hok.lt c;rw[<-z]at this;exact T7 (cK this b) (fu _)
theorem wJ{A:V3}{Q:Unit->M1->Prop}(I:Inv X aa σ H s)(x:A.frames=X.A.frames)(hs:X.stack=X.env::X.outer)(r:X.env.frame=some X.env.locals)(F:ED X aa H s.heap a C ed)(h:∀u,Inv X aa σ H u->mu X aa H u.heap a C ed (some (QJ X.env.locals))->Q () u):Qm s!"c" A (R_ (.ref a) X.env) Q E s:=by
 have m:A.frames=some (X.env::X.outer):=by rw[x,I.ok.frames,hs]
 have hl:s.heap.FunFrames X.base (X.env::X.outer):=by have:=I.stack;rw[hs]at this;exact this
 have n:(X.env::X.outer).filterMap (·.frame)=fJ X.stack:=by rw[hs];rfl
 rcases F with⟨e,vs,o,j,y⟩|⟨e,vs,o,j,T,tb,p⟩|⟨e,vs,o,j,T,tb,p⟩
 ·refine Mh m hl r j y λ B g T q v c i=>h _ (I.wake e (by rw[n]at q;exact q) c λ b z=>T7 z s!"n") ⟨e,g,o,c,T,i,zO I e v⟩
 ·refine LN m hl r j tb p.ne λ B g D q v c i=>h _ (I.wake e (by rw[n]at q;exact q) c λ b z=>?_) ⟨e,g,o,c,D,i,zO I e v⟩;obtain rfl:b=T:=by simpa using z
  obtain⟨ω,L,M,G,J,ω⟩:=tb;exact⟨p.free,I.lone p G J⟩
 ·exact Lx r j tb (h s I ⟨e,vs,o,j,T,tb,p⟩)
theorem tN{A:V3}{fr:Option V0}{r:V1}{Q:Unit->M1->Prop}(I:Inv X aa σ H s)(F:mu X aa H s.heap a C ed (some r))(h:∀g,Inv X aa σ H g->mu X aa H g.heap a C ed (some (fr.elim .none λ f=>QJ f))->Q () g):Qm s!"c" A (setFlight (.ref a) fr) Q E s:=by
 obtain⟨n,vs,u,v,T,tb,e⟩:=F;refine Ju v tb e.ne λ B p c i=>h _ (I.wake n ⟨λ b o q ω j m=>p.keep b o q s!"n" j m,λ b o q ω j m=>⟨o.slots,p.keep b o q s!"n" j m⟩⟩ c λ b z=>?_) ⟨n,vs,u,c,T,i,e⟩;obtain rfl:b=T:=by simpa using z
 obtain⟨ω,D,G,x,y,ω⟩:=tb;exact⟨e.free,I.lone e x y⟩
end
def bp(X:Cx)(E:St->XK)(e:V1)(s:M1):Prop:=∃a C ed σ H,e=.ref a/\Inv X [] σ H s/\ED X [] H s.heap a C ed/\E σ (.ref C) ed H
def jB(P:Program)(w:Y3):iA:=λ outer H s E e b=>∃a C ed c,e=.ref a/\b.os=s.os/\SG b.gens/\Un (fJ outer) [] H c s.heap b.heap/\cV P w c b.heap/\c a=some (cX a C ed)/\
 (∃vs g,b.heap.get? a=some {cls:=.ref C,dict:=ed,data:=.fields vs,slots:=g}/\∃T,fV b.heap vs T .none/\s.heap.objs.size<=T/\c T=none/\T≠a)/\E (.ref C) ed c
section
variable{X:Cx}{E:St->XK}
theorem yb(hs:X.stack=X.env::X.outer)(b:X.env.frame=some X.env.locals):PassesOwn s!"c" X.A X.env (bp X E):=by
 rintro e s ⟨a,C,ed,σ,H,rfl,I,F,q⟩;refine wJ I rfl hs b F λ p h i=>?_;obtain⟨j,vs,m,c,T,tb,n⟩:=i;refine Qf (Ro c rfl tb.1 ?_);rw[T5 (show ¬((Qq T==Qz)=true)from by simp)];refine tN h ⟨j,vs,m,c,T,tb,n⟩ λ r o g=>?_;rw[b]at g;exact⟨a,C,ed,σ,H,rfl,o,.inr (.inr g),q⟩
theorem AJ{aa:List (V0×Obj)}{σ:St}{s s':M1}{e:V1}{o:XK}(I:Inv X aa σ H s)(c:jB X.prog X.w X.stack H s o e s')(h:∀cl ed H',o cl ed H'->E σ cl ed H'):bp X E e s':=by
 obtain⟨a,C,ed,H',rfl,u,v,un,g,x,⟨vs,y,A,T,tb,r,i,j⟩,q⟩:=c;have B:Inv X aa σ H' s':=I.call' u un g v λ b z=>T7 z s!"n";have D:Inv X [] σ H' s':=B.pins_of λ p m=>T7 m s!"n";refine⟨a,C,ed,σ,H',rfl,D,.inr (.inl ⟨x,vs,y,A,T,tb,cb I.sz r,λ p m z=>?_,i,j⟩),h _ _ _ q⟩;have n:p∈X.pn:=by simpa using m
 have:=Qi (I.pin p (nM _ n)).1;rw[z]at this;exact T7 (cK this r) (fu _)
theorem bp.passes{E':XK}(h:∀σ cl ed H',E' cl ed H'->E σ cl ed H'):lq (jB X.prog X.w) (X.wish (bp X E)) E':=λ aa σ H s e b I c=>AJ I.unwish c λ ω ω ω q=>h _ _ _ _ q
end
section
variable{P:Program}{w:Y3}{K:X0}{mg:V2->Option V1}{base:Z3}
theorem JP{N:List V2}{qual:V2}{scope:Rf}{f:V0}{g:V1}{A:V3}{outer:List Env}{s:M1}{E:XK}{e:V1}{s':M1}(r:bp (dC (jB P w) P w K mg base N qual scope f g A outer s H E) (λ ω=>E) e s'):(dC (jB P w) P w K mg base N qual scope f g A outer s H E).xe e s':=by
 obtain⟨a,C,ed,σ,h,rfl,I,F,q⟩:=r;show Qm _ _ (leaving _ _) _ _ _;unfold leaving;refine Qf (wJ I rfl rfl rfl F λ u i j=>tN i j λ v b m=>?_);obtain⟨n,vs,o,p,T,tb,c⟩:=m;exact⟨a,C,ed,h,rfl,b.os,b.bare,b.base,b.hok,n,⟨vs,o,p,T,tb,c.new,c.free,c.ne⟩,q⟩
theorem iz.okX{x qual:V2}{st:Qw}{f:V0}{i:Q_}{N ps:List V2}{k:Nat}{sp:Sp}(F:iz K x qual st f i)(S:bj N ps (aR st))(len:∀vs H Q E,sp vs H Q E->vs.length=ps.length)(b:∀(cdv:V1)(A:V3)(outer:List Env)(s:M1)(H:Hp)(vs:List V)(Q:VK)(E:XK),aP k (A.deeper (Sn qual (aR st) s.heap.objs.size f cdv))->sp vs H Q E->∃t,fb ((dC (jB P w) P w K mg base N qual (aR st) f cdv A outer s H E).wish (bp (dC (jB P w) P w K mg base N qual (aR st) f cdv A outer s H E) λ ω=>E)) (eJ st) t/\t {nx:=λ ω H'=>Q .non H',rt:=Q} (iK N vs) H):cj P w K mg base (jB P w) (k+1) f i ps sp:=by
 obtain⟨u,v,kV,j,y,B,cdv,G,m,rfl,n,c⟩:=F.ex;refine yq n c S len λ A outer s H vs Q E hr g=>?_;obtain⟨t,h,q⟩:=b cdv A outer s H vs Q E hr g;refine⟨t,λ aa o σ p D I r=>QI (h aa o σ p D (I.wish _) r) (λ ω ω z=>z.unwish) λ e J z=>JP z,q⟩
end
open PySem.XO
abbrev we:List V1:=[.type "ValueError",.type "Exception",.type "BaseException",.type "object"]
def iB(K:X0)(C:V0)(ini:Option V0):Bool:=match K.lookup C with
 |some ⟨.type "type",_,.cls c,g⟩=>(match c.mro,g.toList with
  | .ref h::i,[_,_,_,_,some (.builtin n),_]=>h==C&&n=="ValueError.__new__"&&!c.hasDel&&W.tailIn K we i&&W.nsOkIn K c.ns&&Sq K c.ns "__init__"==some (ini.map .ref)
  |_,_=>false)
 |_=>false
theorem Mx{K:X0}{h:Z3}{N:V0}{mg:V2->Option V1}{n:V2}{v:V1}(X:K.In h)(G:h.Ns N mg)(e:Sq K N n=some (some v)):mg n=some v:=by
 obtain⟨o,es,r,g,hd,ω,i⟩:=G;unfold Sq at e;split at e
 ·rename_i c d j u w q;have:=X _ _ q;rw[g]at this;cases this;cases hd;split at e
  ·rename_i x m;cases e;rw[<-i];unfold nsFind findBy;rw[<-Array.find?_toList,m];rfl
  ·split at e<;>cases e
 ·cases e
theorem qx{K:X0}{h:Z3}{g:Option V0}(X:K.In h)(q:iB K C g=true):∃nm m N bs bm hdct sn sub ab col dd k0 k1 k2 k3 k5 u,K.lookup C=some (RQ nm m C N bs bm hdct sn sub ab col dd k0 k1 k2 k3 k5 "ValueError.__new__")/\h.Ns N u/\u "__init__"=g.map .ref/\OwnTail h we bm:=by
 unfold iB at q;split at q
 ·rename_i dd y v z;split at q
  ·rename_i J bm k0 k1 k2 k3 n k5 w x;simp only[jZ,beq_iff_eq,Bool.not_eq_true']at q;obtain⟨⟨⟨⟨⟨rfl,rfl⟩,c⟩,A⟩,i⟩,o⟩:=q;obtain⟨nm,bs,D,j,m,hd,sn,sub,ab,col,I⟩:=y;dsimp only at w c i o;subst w c;have r:v=#[k0,k1,k2,k3,some (.builtin "ValueError.__new__"),k5]:=by
    obtain⟨l⟩:=v;simp only at x;rw[x]
   subst r;have G:h.Ns j (h.nsMap j):=.of_isNs (W.isNs_of_in X i);refine⟨nm,m,j,bs,bm,hd,sn,sub,ab,col,dd,k0,k1,k2,k3,k5,h.nsMap j,z,G,?_,W.tail_of_in X A⟩;cases g with
   |none=>exact W.ns_none_of X G o
   |some f=>exact Mx X G o
  ·cases q
 ·cases q
theorem zU{h:Z3}{bm:List V1}(T:OwnTail h we bm):bm.contains (.type "BaseException")=true:=T.hasType qQ
theorem KN{a:V0}{o:HO}(h:H a=some o):ag H a o=H:=by
 funext b;unfold ag;split
 ·rename_i e;rw[e,h]
 ·rfl
def dN(a C:V0)(ed:Option V0):HO:=.ext λ h=>∃vs c,h.get? a=some {cls:=.ref C,dict:=ed,data:=.fields vs,slots:=c}/\vs[1]?=some .none
theorem wk{P:Program}{w:Y3}{h:Z3}{a:V0}{vs:Array V1}{c:Array (Option V1)}(e:h.get? a=some {cls:=.ref C,dict:=ed,data:=.fields vs,slots:=c})(n:vs[1]?=some .none):aQ P w H h a (dN a C ed):=
 ⟨⟨vs,c,e,n⟩,⟨_,e⟩,λ g i ⟨vs,c,q,n⟩ k=>⟨vs,c,k _ q,n⟩⟩
section
variable{X:Cx}{aa:List (V0×Obj)}{σ:St}{H:Hp}{s:M1}{a C:V0}{ed:Option V0}{E:V1->M1->Prop}
theorem Inv.newExc(I:Inv X aa σ H s)(h:H a=some (dN a C ed)):∃vs c,s.heap.get? a=some {cls:=.ref C,dict:=ed,data:=.fields vs,slots:=c}/\vs[1]?=some .none:=(I.hok a _ h).1
theorem Inv.anExc(I:Inv X aa σ H s)(h:H a=some (cX a C ed)):∃vs c,s.heap.get? a=some {cls:=.ref C,dict:=ed,data:=.fields vs,slots:=c}:=(I.hok a _ h).1
theorem Inv.ready(I:Inv X aa σ H s)(h:H a=some (dN a C ed)):Inv X aa σ (ag H a (cX a C ed)) s/\mu X aa (ag H a (cX a C ed)) s.heap a C ed none:=by
 obtain⟨vs,c,e,n⟩:=I.newExc h;refine⟨?_,aG,vs,c,e,n⟩;exact I.write (t':=s.toks) (h':=s.heap) (x:=a) (e:=a) (by rw[h];exact True.intro) (.inl rfl) (λ b u ω q=>q) ⟨_,e⟩ (DC e)
end
abbrev TJ:=V2->TE
def PJ(X:Cx)(es:List Expr)(t:TJ):Prop:=
 ∀(aa:List (V0×Obj))(s:M1)(σ:St)(H:Hp)(c:V2)(Q:VK),Inv X aa σ H s->t c σ H Q->Qm s!"c" X.A (joinParts c (evalEach es X.env)) (EP X aa σ Q) X.xe s
def F_:TJ:=λ c ω H Q=>c.length<=Qj/\Q (.str c) H
def Hu(te:TE)(tr:TJ):TJ:=λ c σ H Q=>te σ H λ x g=>∃z,x=.str z/\(c++z).length<=Qj/\tr (c++z) σ g Q
def vp(te:TE):TE:=λ σ H Q=>te σ H λ x c=>(∃i,x=.int i/\i.natAbs.log2<1920/\Q (.str (toString i)) c)\/(∃z:V2,x=.str z/\z.length<=Qj/\Q (.str z) c)
section
variable{X:Cx}{e v1 v2:Expr}{es:List Expr}{te:TE}{t:TJ}{pos:Pos}
theorem HJ:PJ X [] F_:=λ aa s σ H c Q I h=>joinParts_nil ⟨.str c,H,I.tok _,⟨_,rfl⟩,h.2⟩ h.1
theorem Ea(g:PE X e te)(hr:PJ X es t)(hs:evalEach (e::es) X.env=QA e X.env::evalEach es X.env:=by rfl):PJ X (e::es) (Hu te t):=by
 intro aa s σ H i Q I h;rw[hs];refine joinParts_cons (aM (g aa s σ H _ I h) λ u j c=>?_);obtain⟨x,m,n,o,z,ex,q,r⟩:=c;subst ex;obtain⟨v,rfl⟩:=o;exact⟨q,hr aa j σ m _ Q n r⟩
theorem Je(h:PJ X (v1::v2::es) t)(hs:evalEach (v1::v2::es) X.env=QA v1 X.env::QA v2 X.env::evalEach es X.env:=by rfl):PE X (.JoinedStr (v1::v2::es) pos) (t Sl):=by
 intro aa s σ H Q I q;refine JoinedStr_many ?_;have:=h aa s σ H Sl Q I q;rw[hs]at this;exact this
theorem GW(n:PE X e te):PE X (.FormattedValue e (-1) none pos) (vp te):=by
 intro aa s σ H Q I h;refine PyProof.Rows.FormattedValue_plain (aM (n aa s σ H _ I h) λ u A c=>?_);obtain⟨x,g,j,m,o⟩:=c;rcases o with⟨i,ex,r,q⟩|⟨z,ex,v,q⟩
 ·subst ex;obtain⟨w,rfl⟩:=m;exact formatField_int_small r ⟨.str _,g,j.tok _,⟨_,rfl⟩,q⟩
 ·subst ex;obtain⟨w,rfl⟩:=m;exact formatField_str (λ D y=>⟨.str _,g,j.tok _,⟨_,rfl⟩,q⟩) v
end
structure m4(K:X0)(B:V0):Prop where
 ga:SY K (.ref B) "__getattribute__"=some (some (.builtin "type.__getattribute__"))
 rd:W.readsIn K B (.type "type")=true
 ini:W.findCls K (.ref B) (.type "type") "__init__"=some (.val (.builtin "ValueError.__init__"))
def Hj(K:X0)(t:TA):TE:=λ σ H Q=>t σ H λ vs g=>∃x C c ed h,vs=.ref x::h/\g x=some (dN x C ed)/\iB K C c=true/\h.length<=Qj/\Q .non g
section
variable{X:Cx}{e:Expr}{es:List Expr}{te:TE}{t:TA}{pos apos p:Pos}{B:V0}{b:V2}
theorem L8{aa:List (V0×Obj)}{σ:St}{s:M1}{x:V0}{y:Option V0}{us:List V1}{Q:V1->M1->Prop}(I:Inv X aa σ H s)(z:H x=some (dN x C ed))(S:iB X.K C y=true)(hz:us.length<=Qj)(h:∀s',Inv X aa σ H s'->Q .none s'):Qm s!"c" X.A (call (.builtin "ValueError.__init__") (.ref x::us)) Q X.xe s:=by
 obtain⟨U,Y,N,bs,Z,i,sn,sub,ab,A,dd,k0,k1,k2,k3,k5,mN,lC,nN,hi,T⟩:=qx I.kIn S;have oC:=I.kIn _ _ lC;obtain⟨vs,L,ex,M⟩:=I.newExc z;have F:=PySem.F.excBase_ValueError;obtain⟨c,g,d,D,os⟩:=s;have G:c.get? C=some (RQ U Y C N bs Z i sn sub ab A dd k0 k1 k2 k3 k5 "ValueError.__new__"):=oC;have j:c.get? x=some {cls:=.ref C,dict:=ed,data:=.fields vs,slots:=L}:=ex;refine RD (RR F.init.plain F.initEntry (wpAny_check_init_subU F T G j rfl ?_));have m:0<vs.size:=pC (Nat.zero_lt_one) (px.mp M).1;unfold TC.«BaseException.__init__»;have w:(c.push {cls:=.type "tuple",data:=.seq us.toArray}).get? x=some {cls:=.ref C,dict:=ed,data:=.fields vs,slots:=L}:=Qg _ j
 wp_walk
 have J:Inv X aa σ H ⟨(c.push {cls:=.type "tuple",data:=.seq us.toArray}).update x (R4 (·.setIfInBounds 0 (.ref c.objs.size))),g,d,D,os⟩:=by
  have J1:=I.kept (t':=D) (h':=c.push {cls:=.type "tuple",data:=.seq us.toArray}) λ b u q=>Qg _ q;have O:=Qy (R4 (·.setIfInBounds 0 (.ref c.objs.size))) w rfl;have P:=J1.write (t':=D) (h':=(c.push {cls:=.type "tuple",data:=.seq us.toArray}).update x (R4 (·.setIfInBounds 0 (.ref c.objs.size)))) (x:=x) (e:=x) (o:=dN x C ed) (by rw[z];exact True.intro) (.inl rfl) (λ b u n q=>(Qr _ _ (Ne.symm n)).trans q) ⟨_,O⟩ (wk O (by show(vs.setIfInBounds 0 _)[1]?=_;rw[Array.getElem?_setIfInBounds_ne qQ];exact M));rw[KN z]at P;exact P
 rw[show vs[0]?=some vs[0]from Array.getElem?_eq_getElem m];refine Qh (Qf (SW w rfl m ?_));have fin:∀s',Inv X aa σ H s'->Qm s!"c" X.A.in1 (ret Qz) (λ fin s'=>match fin with
   | .done f=>(match(Except.ok f:T4)with| .ok (.ret v)=>Q v s'| .ok _=>False| .error e=>X.xe e s')
   | .again R=>R.quiet=true/\Rm s!"c" X.A R (λ r s'=>match r with| .ok (.ret v)=>Q v s'| .ok _=>False| .error e=>X.xe e s') s') (λ e s'=>X.xe e s') s':=λ s' K=>Qh (h s' K)
 split
 ·exact Sd (fin _ J)
 ·exact Qh (fin _ J)
theorem K1(c:m4 X.K B)(o:Gl X b)(u:X.mg b=some (.ref B))(v:PA X (e::es) t)(hd:(b==("__debug__":V2))=false:=by decide)(g:Ql (e::es) X.env=(false,QA e X.env)::Ql es X.env:=by rfl)(i:(QF pos (Ql es X.env)).any (·.1)=false:=by rfl){pl:Sem Bool}(w:QA (.Call (.Attribute (.Name b p) "__init__" apos) (e::es) [] pos) X.env=(do
   let m<-QA (.Name b p) X.env
   Q4 apos.atName
   let(f,first)<-RB [m] (RS m "__init__" pl)
   Su pos f first (QF pos (Ql (e::es) X.env)) (RL pos (QU [] X.env))):=by rfl):PE X (.Call (.Attribute (.Name b p) "__init__" apos) (e::es) [] pos) (Hj X.K t):=by
 intro aa s σ H Q I h;refine Sz (pl:=pl) (mM I o u ?_ hd) w;refine W.method_cls I.kIn c.ga (W.cls_value I.kIn c.rd c.ini rfl ?_);have y:=I.tok (s.toks+1);have n:=v pos aa _ σ H _ y h;rw[g]at n ⊢;refine RE (by show(false||(QF pos (Ql es X.env)).any (·.1))=false;rw[i]<;>rfl) (Sw ?_);refine aM n λ us P j=>?_;obtain⟨vs,z,A,D,x,C,G,ed,R,J,K,L,M,q⟩:=j;subst J;cases D with
 |cons r N=>
  obtain rfl:=(show _=Qq x from r);exact L8 A K L (by rw[<-N.length];exact M) λ S O=>⟨.non,z,O,rfl,q⟩
end
structure fT(K:X0)(C:V0):Prop where
 sa:QM K (.ref C) "__setattr__"=some (some (.builtin "object.__setattr__"))
 vo:W.valueOver K C=true
 hd:Ss K C=true
 ga:QM K (.ref C) "__getattribute__"=some (some (.builtin "BaseException.__getattribute__"))
 gk:QM K (.ref C) "__getattr__"=some none
 hB:S_ K C (.type "BaseException")=some true
 ha:QM K (.ref C) "__class__"=some (some (.builtin "object.__class__"))
 hn:SY K (.builtin "object.__class__") "__get__"=some (some (.builtin "getset_descriptor.__get__"))
 tk:W.takesIn K (.builtin "object.__class__")=some true
 hm:S_ K C (.type "object")=some true
def FQ(K:X0)(ta tv:TE)(f:V2):TS:=λ D b H=>tv b H λ y i=>ta b i λ x g=>∃a C,x=.ref a/\g a=some (dN a C none)/\fT K C/\aK K C f/\
 ∀h,g h=none->D.nx b (ag (ag g a (dN a C (some h))) h (.xd [(f,y)]))
def Cy(K:X0)(ta:TE)(f:V2):TE:=λ h H Q=>ta h H λ x b=>∃a C g fs v,x=.ref a/\b a=some (cX a C (some g))/\b g=some (.xd fs)/\fT K C/\aK K C f/\fs.lookup f=some v/\Q v b
section
variable{X:Cx}{o e value:Expr}{f:V2}{pos pos' tpos:Pos}{ta tv:TE}
theorem IX(Q:PE X o ta)(R:PE X value tv)(hs:Sk value (some (.Attribute o f pos')) pos.line X.env=pure false):PS X (.Assign [.Attribute o f pos'] value pos) (FQ X.K ta tv f):=by
 intro j s L H D I h;refine Sg (aM (R j s L H _ I h) λ u S ⟨y,T,U,Y,q⟩=>aM (Q j S L T _ U q) λ Z m M=>?_) hs;obtain⟨x,J,A,rx,a,C,ex,B,c,n,q2⟩:=M;subst ex;obtain rfl:Z=Qq a:=rx;obtain⟨vs,sl,ga,h1⟩:=A.newExc B;refine W.xset_new A.kIn ga c.sa c.vo n.taker c.hd λ h' ns G kp=>?_;have fr:J m.heap.objs.size=none:=A.hok.fresh (aS _);refine⟨L,_,?_,q2 _ fr⟩;have a0:m.heap.objs.size≠a:=λ z=>by rw[z,B]at fr;cases fr
 have N:∀b,J b=none->b≠a:=λ b n z=>by rw[z,B]at n;cases n
 have i:∀b o,J b=some o->(∀w,o≠.ext w)->ag (ag J a (dN a C (some m.heap.objs.size))) m.heap.objs.size (.xd [(f,y)]) b=some o:=λ b o q ne=>by
  rw[aD (bS q fr),aD]
  ·exact q
  ·rintro rfl;rw[B]at q;cases q;exact ne _ rfl
 refine A.un (t':=m.toks+2) (h':=h') ⟨λ b o q n ω ω=>kp b o (N b n) q,λ b o q n ω ω=>⟨o.slots,kp b o (N b n) q⟩,λ b o q n ω=>?_,λ b o q ω=>?_,λ b xs q=>i b _ q (λ w z=>nomatch z),λ b o u q=>i b _ q (λ w z=>nomatch z),λ b ps q=>⟨#[],by simpa using i b _ q (λ w z=>nomatch z)⟩⟩ λ b u q=>?_
 ·rw[aD (λ z=>by rw[z]at q;exact T7 (Qi q) (fu _)),aD (N b n)];exact n
 ·by_cases z:b=a
  ·rw[z];exact⟨_,G⟩
  ·exact⟨o,kp b o z q⟩
 ·by_cases z:b=m.heap.objs.size
  ·subst z;rw[aG]at q;cases q;refine⟨_,ns,λ g=>?_⟩;by_cases q:g=f
   ·have O:(g==f)=true:=beq_iff_eq.mpr q;simp only[iG,O,T6 q];exact Y
   ·have O:(g==f)=false:=beq_eq_false_iff_ne.mpr q;simp only[iG,O,T5 q];exact True.intro
  ·rw[aD z]at q;by_cases P:b=a
   ·subst P;rw[aG]at q;cases q;exact wk G h1
   ·rw[aD P]at q;refine(A.hok b u q).stay (λ c v K r=>kp c v ?_ r) (λ c r=>i c _ r (λ w z=>nomatch z)) λ c xs r=>i c _ r (λ w z=>nomatch z);rcases K with rfl|K
    ·exact P
    ·intro z;rw[z,B]at K;cases K
theorem Inv.instX{b:List (V0×Obj)}{j:St}{s:M1}{a i:V0}{fs:List (V2×V)}(I:Inv X b j H s)(m:H a=some (cX a C (some i)))(n:H i=some (.xd fs)):∃ox od,W.InstAt s.heap a ox C (some od)/\∃h:V2->Option V1,(∀name,W.lookIn name od=some (h name))/\∀g,cy (fs.lookup g) (h g):=by
 obtain⟨vs,w,q⟩:=I.anExc m;obtain⟨h,u,r⟩:=I.hok i _ n;obtain⟨od,v,hl⟩:=AM u;exact⟨_,od,⟨q,rfl,rfl,v⟩,h,hl,r⟩
theorem IY(m:PE X e ta)(w:RM e f X.env (QA e X.env)=QA e X.env):PE X (.Attribute e f pos) (Cy X.K ta f):=by
 intro b s y H Q I h;refine DW w (aM (m b s y H _ I h) λ u L g=>?_);obtain⟨x,z,i,A,a,C,M,fs,v,ex,B,D,c,n,l,q⟩:=g;subst ex;obtain rfl:u=Qq a:=A;obtain⟨N,O,J,G,hl,r⟩:=i.instX B D;obtain⟨u,K,j⟩:=cy.some_of (v:=v) (o:=G f) (by rw[<-l];exact r f);exact W.xget_value i.kIn J c.ga c.gk c.hB (W.findObj_own c.hd n rfl (by rw[hl,K])) (Af j) ⟨v,z,i.tok _,j,q⟩
theorem Ml{g:List (V0×Obj)}{j:St}{s:M1}{A:V3}{E:V1->M1->Prop}{Q:V1->M1->Prop}{cl:V1}{b:Bool}{a i:V0}{fs:List (V2×V)}(I:Inv X g j H s)(m:H a=some (cX a C (some i)))(n:H i=some (.xd fs))(c:fT X.K C)(e:QN X.K (.ref C) cl=some b)(h:∀tk,Q (.bool b) {s with toks:=tk}):Qm s!"c" A (call (.builtin "isinstance") [.ref a,cl]) Q E s:=by
 obtain⟨q,r,J,ω⟩:=I.instX m n;exact Ru (W.kitx_exc c.hd c.ga c.gk c.hB c.ha c.hn c.tk c.hm) I.kIn ⟨q,some r,J⟩ e (λ z=>nomatch z) h
end
def GU(C:V0)(sp:Sp)(E:St->XK)(t:TA):TS:=λ D g H=>t g H λ vs h=>vs.length<=Qj/\∀x,h x=none->
 sp (.ref x::vs) (ag h x (dN x C none)) (λ v i=>v=.non/\∃b,i x=some (dN x C b)/\E g (.ref C) b (ag i x (cX x C b))) E0
section
variable{X:Cx}{E:St->XK}{k:Nat}{f C:V0}{fd:Q_}{ps:List V2}{sp:Sp}{c:V2}{p cpos pos:Pos}{e:Expr}{es:List Expr}{t:TA}
theorem KD(hC:iB X.K C (some f)=true)(kp:QR X.K (.ref C)=true)(hfn:TR X.K (.ref f)=true)(F:cj X.prog X.w X.K X.mg X.base hZ k f fd ps sp)(hr:aP (k+1) X.A)(hb:Binds X.K fd ps [])(hg:Gl X c)(hm:X.mg c=some (.ref C))(ha:PA (X.wish (bp X E)) (e::es) t)(hd:(c==("__debug__":V2))=false:=by decide)(hst:Ql (e::es) X.env=(false,QA e X.env)::Ql es X.env:=by rfl)(hpl:(QF cpos (Ql es X.env)).any (·.1)=false:=by rfl):PS (X.wish (bp X E)) (.Raise (some (.Call (.Name c p) (e::es) [] cpos)) none pos) (GU C sp E t):=by
 intro aa s σ H D I h;obtain ⟨nm,qn,N,bs,bm,hdct,sn,sub,ab,col,dd,k0,k1,k2,k3,k5,mN,lC,nN,hi,T⟩:=qx I.kIn hC;rw [arm_exec_Raise];refine Qf (QO ?_);show Qm _ _ (raiseStmt X.env (some (do let v <-QA (.Call (.Name c p) (e::es) [] cpos) X.env; Q4 pos; pure v)) none) _ _ _;refine LP (C:=C) (nm:=nm) (q:=qn) (N:=N) (bs:=bs) (bm:=bm) (hdct:=hdct) (sn:=sn) (sub:=sub) (ab:=ab) (col:=col) (dd:=dd) (k0:=k0) (k1:=k1) (k2:=k2) (k3:=k3) (k5:=k5) (newId:="ValueError.__new__") (zU T) hr.hd
  (Qf (aM ?_ λ v s1 z=>Qf (QO (Qh z))))
 refine QK (mM I hg hm ?_ hd);refine SH (h₀:=X.base) I.ok.mod.kin kp (aM (ha cpos aa s σ H _ I h) λ us s1 ⟨vs,H1,I1,r,hz,q⟩=>⟨I1.kIn,?_⟩) hst hpl;obtain⟨nm',qn',N',bs',bm',hdct',sn',sub',ab',col',dd',k0',k1',k2',k3',k5',mN',lC',nN',hi',T'⟩:=qx I1.kIn hC;have FV:=PySem.F.excBase_ValueError;obtain⟨of,lf,hfc⟩:∃of,X.K.lookup f=some of/\of.cls=.type "function":=by
  have z:(X.K.lookup f).map (·.cls)=some (.type "function"):=beq_iff_eq.mp hfn;cases q:X.K.lookup f with
  |none=>rw[q]at z;cases z
  |some of=>rw[q]at z;exact⟨of,rfl,dG z⟩
 have hzu:us.length<=Qj:=by rw[<-r.length];exact hz
 obtain⟨hp,g,d,tk,os⟩:=s1;have fr:H1 (hp.objs.size+1)=none:=I1.hok.fresh (ie _);have e2:(eC hp C us).get? (hp.objs.size+1)=some {cls:=.ref C,data:=.fields #[.ref hp.objs.size,.none,.none,.none,.bool false,.none]}:=AI;have J1:=I1.kept (t':=tk) (h':=hp.push {cls:=.type "tuple",data:=.seq us.toArray}) λ b u q=>Qg _ q;have J:Inv (X.wish (bp X E)) aa σ (ag H1 (hp.objs.size+1) (dN (hp.objs.size+1) C none)) ⟨eC hp C us,g,d,tk,os⟩:=
  J1.laid (t':=tk) (h':=eC hp C us) (λ b u q=>Qg _ q) (lY (QE _ _)) (wk e2 rfl)
 have hq:=q (hp.objs.size+1) fr;have r2:ax (V.ref (hp.objs.size+1)::vs) (Qq (hp.objs.size+1)::us):=.cons rfl r;have hl:(Qq (hp.objs.size+1)::us++[]).length=ps.length:=by
  rw[gD,<-r2.length];exact F.len _ _ _ _ hq
 refine K6 (h:=hp) FV qQ FV T' (I1.kIn _ _ lC') nN' hi' (I1.kIn _ _ lf) hfc ?_ hzu;have bt:=hb ⟨eC hp C us,g,d,tk,os⟩ (Qq (hp.objs.size+1)::us) J.kIn hl;rw[gD]at bt;refine Rn (F.run _ X.stack _ _ ⟨Qq (hp.objs.size+1)::us,[]⟩ (Qq (hp.objs.size+1)::us) _ _ E0 (hr.make C us []) (J.env0.make C us []) bt r2 hq) λ r s' z=>?_;cases r with
 |error e=>exact z.elim
 |ok fl=>
  cases fl with
  |ret u=>
   obtain⟨v,H',I3,rv,ev,ed,hx,hE⟩:=J.after z;subst ev;obtain⟨vs3,sl3,ex3,h3⟩:=I3.newExc hx;obtain⟨I4,F4⟩:=I3.ready hx;refine⟨rv,_,ed,vs3,sl3,rfl,I3.kIn _ _ lC,ex3,h3,?_⟩;exact⟨_,C,ed,σ,_,rfl,I4.unwish.pins_of λ p hp=>T7 hp s!"n",.inl F4,hE⟩
  |next=>exact z.elim
  |brk=>exact z.elim
  |cont=>exact z.elim
end
theorem E9{M:Model}{A:V3}{E:V1->M1->Prop}{h:Z3}{g:Array TN}{d:Drawn}{t:Nat}{S:RA}{Q:Bool->M1->Prop}{e:V0}{T:Obj}{nm q:V2}{N:V0}{bs bm:List V1}{hdct:Bool}{sn:List V2}{sub:List V1}{ab:Bool}{col:Option Bool}{dd:Option V0}{k0 k1 k2 k3 k5:Option V1}{newId:String}{y Y:V2}{r Z:V0}{z j:List V1}{m:Bool}{D:List V2}{u:List V1}{G:Bool}{v:Option Bool}{I:Option V0}{J K L O P:Option V1}{c:String}{b:Bool}(hC:h.get? C=some (RQ nm q C N bs bm hdct sn sub ab col dd k0 k1 k2 k3 k5 newId))(he:h.get? e=some T)(w:T.cls=.ref C)(U:h.get? r=some (RQ y Y r Z z j m D u G v I J K L O P c))(o:j.contains (.type "BaseException")=true)(x:(Qq C::bm).contains (.ref r)=b)(hq:Q b ⟨h,g,d,t,S⟩):Qm M A (excMatches (.ref e) (.ref r)) Q E ⟨h,g,d,t,S⟩:=by
 have R:(Qq r::j).contains (.type "BaseException")=true:=by rw[vF,o,Bool.or_true]
 have f:=tc_notTuple;unfold excMatches;repeat (first|(with_reducible refine Q7 he ?_;rw[w])|with_reducible refine Q7 U ?_|(with_reducible refine RX U ?_;rw[R])|(with_reducible refine RX hC ?_;rw[x])|wp_step)
 cases b<;>(wp_walk;exact hq)
section
variable{X:Cx}{aa:List (V0×Obj)}{σ:St}{H:Hp}{s:M1}
abbrev Cx.pinned(X:Cx)(l:List (V0×Obj)):Cx:={X with pn:=l}
theorem Cx.Ok.pinned(ok:X.Ok)(l:List (V0×Obj)):(X.pinned l).Ok:=⟨ok.mod,ok.kind,ok.glob,ok.blt,ok.above,ok.inj,ok.has,ok.cab,ok.hd,ok.frames,ok.stk,ok.exf,ok.bs,ok.bsz,ok.noex,ok.exfs,ok.funs,ok.frf⟩
theorem Inv.borne(I:Inv X aa σ H s):Inv (X.pinned (X.pn++aa)) [] σ H s:=⟨I.ok.pinned _,I.os,I.bare,I.base,I.loc,I.cell,I.free,I.freeC,λ p c=>I.pin p (by simpa using c),I.hok,I.len⟩
theorem Inv.unborne(ok:X.Ok)(I:Inv (X.pinned (X.pn++aa)) [] σ H s):Inv X aa σ H s:=⟨ok,I.os,I.bare,I.base,I.loc,I.cell,I.free,I.freeC,λ p c=>I.pin p (by simpa using c),I.hok,I.len⟩
abbrev Cx.held(X:Cx)(e:V1):Cx:={X with A:=X.A.mark (some e),calm:=false}
theorem Inv.held(I:Inv X aa σ H s)(e:V1):Inv (X.held e) aa σ H s:=
 ⟨⟨I.ok.mod,I.ok.kind,I.ok.glob,I.ok.blt,I.ok.above,I.ok.inj,I.ok.has,I.ok.cab,(λ z=>nomatch z),I.ok.frames,I.ok.stk,I.ok.exf,I.ok.bs,I.ok.bsz,I.ok.noex,I.ok.exfs,I.ok.funs,I.ok.frf⟩,I.os,I.bare,I.base,I.loc,I.cell,I.free,I.freeC,I.pin,I.hok,I.len⟩
theorem Inv.unheld(ok:X.Ok){e:V1}(I:Inv (X.held e) aa σ H s):Inv X aa σ H s:=⟨ok,I.os,I.bare,I.base,I.loc,I.cell,I.free,I.freeC,I.pin,I.hok,I.len⟩
theorem sO{M:Model}{A:V3}{E:V1->M1->Prop}{i:Nat}{x:V2}{pos:Pos}{Q:Unit->M1->Prop}(I:Inv X aa σ H s)(U:X.N.Nodup)(hi:X.N[i]?=some x)(Y:X.env.scope.names.lookup x=some .local)(h:∀O,Inv X aa (σ.set i none) H O->Q () O):Qm M A (do bindName X.env x .none;unbindBehindTheSuite X.env x pos) Q E s:=by
 obtain⟨m,P,hl⟩:=id I.loc;have w:(X.env.scope.kind==.class||(X.env.scope.kind==.module&&X.env.locals !=X.env.globals))=false:=by rw[I.ok.kind];rfl
 have C:i<σ.length:=by rw[I.len];exact(bG.mp hi).1
 refine wpAny_nameGoes_keeps Y P w λ h' v K r=>?_;have I0:=I.tok (s.toks+1);obtain⟨oL,ω,ω,Z,ω⟩:=id P;have g:cV X.prog X.w H h':=λ b ob e=>by
  refine(I.hok b ob e).stay (λ c R G q=>(r.2 c ?_).trans q) (λ ω q=>q) λ ω ω q=>q;rintro rfl;rcases G with rfl|G
  ·rw[I.free]at e;cases e
  ·rw[I.free]at G;cases G
 refine h _ ⟨I.ok,I.os,I.bare,⟨λ b o e n L D=>?_,λ b o e n L D=>?_,I.base.free,λ b o e D=>?_,I.base.tups,I.base.frzs,I.base.tbls⟩,⟨_,K,λ j y v' u J e3=>?_⟩,λ y c e=>?_,I.free,I.freeC,λ p hp=>?_,g,by simpa using I.len⟩
 ·exact(r.2 b (bY (cK (Qi e) I.ok.above))).trans (I.base.keep b o e n L D)
 ·obtain⟨sl,u⟩:=I.base.slot b o e n L D;exact⟨sl,(r.2 b (bY (cK (Qi e) I.ok.above))).trans u⟩
 ·obtain⟨o',u⟩:=I.base.there b o e D;exact⟨o',(r.2 b (bY (cK (Qi e) I.ok.above))).trans u⟩
 ·by_cases N:j=i
  ·subst N;rw[j6 C]at J;cases J
  ·rw[nL (Ne.symm N)]at J;obtain⟨S,r',q⟩:=hl j y v' u J e3;refine⟨S,r',?_⟩;rcases q with⟨k,e⟩|⟨k,c,e,z⟩
   ·refine .inl ⟨k,?_⟩;have:y≠x:=λ e=>N (xi U u (e▸hi));show(if y=x then v else m y)=some S;rw[T5 this,e]
   ·exact .inr ⟨k,c,e,z.sameBut r (I.cne y c e)⟩
 ·obtain⟨R,z⟩:=I.cell y c e;exact⟨R,z.sameBut r (I.cne y c e)⟩
 ·obtain⟨e,n,T,nf,d⟩:=I.pin p hp;exact⟨(r.2 p.1 T).trans e,n,T,nf,d⟩
end
def vn(K:X0)(B:V0)(tb:(St->XK)->TS)(i:Nat)(ts:V0->TS):TS:=λ D σ H=>∃E:St->XK,tb E D σ H/\
 ∀e a C m h,e.length=σ.length->E e (.ref C) m h->h a=some (cX a C m)->(∃j,iB K C j=true)/\S_ K C (.ref B)=some true/\
  ts a {nx:=λ c g=>D.nx (c.set i none) g,rt:=D.rt,bk:=λ c g=>D.bk (c.set i none) g,ct:=λ c g=>D.ct (c.set i none) g} (e.set i (some (.ref a))) h
section
variable{X:Cx}{B:V0}{b n:V2}{p hpos pos:Pos}{body suite:List Qw}{hrest:List ExceptHandler}{b0:Qw}{i:Nat}{tb:(St->XK)->TS}{ts:V0->TS}
theorem Hg(hs:X.stack=X.env::X.outer)(hf:X.env.frame=some X.env.locals)(hB:iB X.K B none=true)(hg:Gl X b)(hm:X.mg b=some (.ref B))(hN:X.N.Nodup)(hi:X.N[i]?=some n)(hk:X.env.scope.names.lookup n=some .local)(hb:∀(l:List (V0×Obj))(E:St->XK),fb ((X.pinned l).wish (bp (X.pinned l) E)) body (tb E))(hsu:∀a,fb (X.held (.ref a)).nox (b0::suite) (ts a))(hd:(b==("__debug__":V2))=false:=by decide):PS X (.Try body (.ExceptHandler (some (.Name b p)) (some n) (b0::suite) hpos::hrest) [] [] pos) (vn X.K B tb i ts):=by
 intro aa s σ H D I h;obtain⟨E,h1,h2⟩:=h;have ok:=I.ok;refine wpAny_Try_except (QI (hb (X.pn++aa) E [] s σ H D ((I.borne).wish _) h1) (λ f s1 q=>?_) λ e s1 q=>?_)
 ·cases f with
  |next=>obtain⟨σ',H',I',q⟩:=q;exact RH ⟨σ',H',I'.unwish.unborne ok,q⟩
  |brk=>obtain⟨σ',H',I',q⟩:=q;exact⟨σ',H',I'.unwish.unborne ok,q⟩
  |cont=>obtain⟨σ',H',I',q⟩:=q;exact⟨σ',H',I'.unwish.unborne ok,q⟩
  |ret u=>obtain⟨v,σ',H',I',r,q⟩:=q;exact⟨v,σ',H',I'.unwish.unborne ok,r,q⟩
 obtain⟨a,C,ed,σ',H',rfl,I1,F1,q⟩:=q;have hx:H' a=some (cX a C ed):=by rcases F1 with F|F|F<;>exact F.1
 obtain⟨⟨ini,xC⟩,hsub,h3⟩:=h2 σ' a C ed H' (I1.len.trans I.len.symm) q hx;refine wJ (X:=X.pinned (X.pn++aa)) I1 rfl hs hf F1 λ s2 I2 F2=>tN (X:=X.pinned (X.pn++aa)) I2 F2 λ s3 I3 F3=>?_;refine wpAny_handleBy_cons (codeAny_handlers_test (mM (X:=(X.pinned (X.pn++aa)).held (.ref a)) (I3.held (.ref a)) hg hm ?_ hd)) (λ z=>nomatch z);obtain⟨nm,qn,N,bs,bm,hdct,sn,sub,ab,col,dd,k0,k1,k2,k3,k5,mN,lC,nN,ω,T⟩:=qx I3.kIn xC;obtain⟨nm',qn',N',bs',bm',hdct',sn',sub',ab',col',dd',k0',k1',k2',k3',k5',mN',lB,nN',ω,T'⟩:=qx I3.kIn hB;obtain⟨vs,sl,ea⟩:=I3.anExc hx;have hs3:(Qq C::bm).contains (.ref B)=true:=by
  unfold S_ W.clsIn at hsub;rw[show X.K.lookup C=_ from lC]at hsub;simpa using hsub
 obtain⟨hp,g,d,tk,os⟩:=s3;refine E9 (h:=hp) (I3.kIn _ _ lC) ea rfl (I3.kIn _ _ lB) (zU T') hs3 ?_;refine codeAny_handlers_suite_as (tN (X:=X.pinned (X.pn++aa)) I3 F3 λ s4 I4 F4=>?_);refine wV (X:=X.pinned (X.pn++aa)) (v:=.ref a) I4 hN hi (.inl hk) rfl (λ s5 I5=>?_) (.inr hk);have I6:Inv (X.held (.ref a)).nox aa (σ'.set i (some (.ref a))) H' s5:=(((I5.unborne (X:=X) ok).held (.ref a))).wish _;refine QI (hsu a aa s5 _ H' _ I6 h3) (λ f s6 z=>?_) λ ω ω z=>z.elim;cases f with
 |next=>
  obtain⟨σ2,H2,J,z⟩:=z;exact sO (J.unwish.unheld (X:=X) ok) hN hi hk λ s7 J7=>⟨_,H2,J7,z⟩
 |brk=>
  obtain⟨σ2,H2,J,z⟩:=z;exact sO (J.unwish.unheld (X:=X) ok) hN hi hk λ s7 J7=>⟨_,H2,J7,z⟩
 |cont=>
  obtain⟨σ2,H2,J,z⟩:=z;exact sO (J.unwish.unheld (X:=X) ok) hN hi hk λ s7 J7=>⟨_,H2,J7,z⟩
 |ret u=>
  obtain⟨v,σ2,H2,J,r,z⟩:=z;exact sO (J.unwish.unheld (X:=X) ok) hN hi hk λ s7 J7=>⟨v,_,H2,J7,r,z⟩
end
structure b_(P:Program)(w:Y3)(K:X0)(mg:V2->Option V1)(base:Z3)(k:Nat)(x:V2)(ps:List V2)(sp:Sp):Prop where
 ex:∃f fd,cj P w K mg base (jB P w) k f fd ps sp/\Binds K fd ps []/\QR K (.ref f)=true/\mg x=some (.ref f)
abbrev Cx.xx(X:Cx)(E:XK):Cx:=X.wish (bp X λ ω=>E)
section
variable{P:Program}{w:Y3}{K:X0}{mg:V2->Option V1}{base:Z3}
theorem b_.of{x:V2}{st:Qw}{N ps:List V2}{k:Nat}{sp:Sp}(F:Fn K mg x st)(S:bj N ps (aR st))(g:∀(kV c h:V1)(i:Option V0)(cdv ct:V1)(us:List V1),us.length=ps.length->RY (Rz x x (fS st) (eJ st) (aR st) .none kV c h i cdv ct) ⟨us,[]⟩=pure (ps.zip us))(len:∀vs H Q E,sp vs H Q E->vs.length=ps.length)(b:∀(f:V0)(cdv:V1)(A:V3)(outer:List Env)(s:M1)(H:Hp)(vs:List V)(Q:VK)(E:XK),aP k (A.deeper (Sn x (aR st) s.heap.objs.size f cdv))->sp vs H Q E->∃t,fb ((dC (jB P w) P w K mg base N x (aR st) f cdv A outer s H E).xx E) (eJ st) t/\t {nx:=λ ω H'=>Q .non H',rt:=Q} (iK N vs) H):b_ P w K mg base (k+1) x ps sp:=by
 obtain⟨f,n,F,m⟩:=F.ex;exact⟨f,n,F.okX S len λ cdv=>b f cdv,F.binds g,F.kp,m⟩
end
section
variable{X:Cx}{x m:V2}{ps:List V2}{sp:Sp}{k j:Nat}{C:V0}{o e:Expr}{es:List Expr}{ta:TE}{t:TA}{p pos apos cpos:Pos}{E:XK}
theorem jJ(h:b_ X.prog X.w X.K X.mg X.base k x ps sp)(hr:aP j X.A)(i:k<=j)(n:Gl X x)(r:PA (X.xx E) (e::es) t)(c:s!"p"=false:=by decide)(u:Ql (e::es) X.env=(false,QA e X.env)::Ql es X.env:=by rfl)(g:(QF pos (Ql es X.env)).any (·.1)=false:=by rfl):PE (X.xx E) (.Call (.Name x p) (e::es) [] pos) (rG sp [] E t):=by
 obtain⟨f,v,F,b,kp,m⟩:=h.ex;exact D4 F (hr.mono i) n m kp b .nil (bp.passes λ ω ω ω ω q=>q) r c u g
end
end L2
end
section
namespace PySem
theorem Fy:So (.type "tuple") "keys"=pure none:=am_miss_of_fast qP
theorem MH{prog:Program}{w:Y3}{A:V3}{E:V1->M1->Prop}{s:M1}{a:V0}{o:Obj}{xs:Array V1}{k:Nat}{Q:Option V1->M1->Prop}(v:A.handled=none)(n:s.heap.get? a=some o)(p:o.cls=.type "tuple")(c:o.data=.seq xs k)(e:o.dict=none)(h:∀h' tk,(∀b u,s.heap.get? b=some u->h'.get? b=some u)->Q none {s with heap:=h',toks:=tk}):Qm s!"o" A (TU (.ref a) "keys") Q E s:=by
 obtain⟨x,y,q,m⟩:=o;dsimp only at p c e;subst p c e;obtain⟨z,g,d,tk,B⟩:=s;have r:∀i,(⟨z,g,d,i,B⟩:M1).TypeIs (.ref a) "tuple":=λ ω=>⟨_,n,rfl⟩;have C:=sub_AttributeError;have D:=F.slot_tuple_getattribute.lookup;have G:=F.slot_tuple_getattribute.bind (.ref a);have H:=am_tuple_getattr_none;unfold TU getAttrBy? getAttrBy;repeat (any_goals (first|assumption|exact r _|((with_reducible show Qm _ _ (call (QY "tuple.__getattribute__") _ _) _ _ _);refine RF F.slot_tuple_getattribute (r _) am_entry_tuple_getattribute (F.args_tuple_getattribute_2 _ _) (meets_getattribute_miss_tuple a xs k m "keys" _ Fy qP (by size_fits)) ⟨n,v,λ I i J j=>?_⟩)|wp_step))
 obtain⟨ty,K,L⟩:=j.there;show Qm _ _ (R7 _ _ _ _ _ _ _) _ _ _;unfold R7;repeat (any_goals (first|assumption|wp_step))
 exact h _ _ j.keeps
end PySem
namespace L2
open PySem PySem.Spec PyProof.Rows
def Gd(s:M1)(it l:V0)(its:List V1)(i:Nat)(acc:Array V1)(s2:M1):Prop:=∃c e,s2={s with heap:=c,toks:=e}/\c.IsTupleIter it l i/\(∀b o,s.heap.get? b=some o->c.get? b=some o)/\acc.toList=its.take i/\i<=its.length
theorem IsTup.up{h h2:Z3}{a:V0}{xs:Array V1}(x:T3 h a xs)(k:∀b o,h.get? b=some o->h2.get? b=some o):h2.IsTuple a xs:=x.keeps k
theorem Lj{P:Program}{w:Y3}{A:V3}(C:A.handled=none){it Z l:V0}{its:List V1}{s:M1}(hl:T3 s.heap l its.toArray)(hi:s.heap.objs.size<=it)(D:s.heap.objs.size<=Z)(h:Z≠it):oE P w A it Z its.length (Gd s it l its) (rj s its)where
 item:=by
  rintro i j r Q E c ⟨u,g,rfl,n,k,m,_⟩ q;have G:its.toArray[i]?=some its[i]:=by simp
  refine wpAny_pyNext_tuple_item n (IsTup.up hl k) G λ p v x=>q _ _ ⟨p,g,rfl,v,λ b o e=>(x.2 b λ z=>?_).trans (k b o e),?_,c⟩ λ o e=>(x.2 Z h).trans e
  ·exact T7 (Qi e) (by rw[z];exact iV.mpr hi)
  ·rw[pB,m,lT c]
 done:=by
  rintro j r Q E ⟨u,g,rfl,n,k,m,_⟩ q;refine wpAny_pyNext_tuple_end C n (IsTup.up hl k) s!"n" λ p y=>q _ ⟨p,g,rfl,λ b o e=>y b o (λ z=>?_) (k b o e),?_⟩ λ o e=>y Z o h e
  ·exact T7 (Qi e) (by rw[z];exact iV.mpr hi)
  ·rw[m,iU (aS _)]
 size:=by
  rintro i j r ⟨u,g,rfl,n,k,m,c⟩;rw[<-j5,m,cJ];exact rZ c
 frame:=by
  rintro i j r p ⟨u,g,rfl,n,k,m,c⟩ B _;exact⟨p,g,rfl,n.at λ o e=>B it o (Ne.symm h) e,λ b o e=>B b o (λ z=>T7 (Qi e) (by rw[z];exact iV.mpr D)) (k b o e),m,c⟩
end L2
end
section
namespace L2
open PySem PySem.Spec PyProof.Rows
def yE(K:X0):List V->Hp->VK->Prop:=λ g H Q=>∃(a:V0)(b:List V)(c:List V2)(e:List V),g=[.ref a]/\ao K H a b/\b.length=c.length/\(∀i t,b[i]?=some t->∃T,t=.ref T/\ao K H T [.str (c.getD i ""),e.getD i .non])/\∀d,H d=none->Q (.ref d) (ag H d (.dK (f_ c e)))
variable{xs:List V}{K:X0}{H:Hp}{Q:VK}
theorem Py:yE K xs H Q=∃(a:V0)(ts:List V)(ks:List V2)(ys:List V),xs=[.ref a]/\ao K H a ts/\ts.length=ks.length/\(∀i t,ts[i]?=some t->∃T,t=.ref T/\ao K H T [.str (ks.getD i ""),ys.getD i .non])/\∀d,H d=none->Q (.ref d) (ag H d (.dK (f_ ks ys))):=rfl
theorem L6{X:Cx}(A:X.calm=true):il X (.type "dict") (yE X.K):=by
 intro c0 s σ H xs us Q I r h;obtain⟨a,R,N,ys,rfl,hq,lt,hp,q⟩:=h;obtain⟨u,rfl,ru⟩:=kX r;cases ru;obtain⟨c,B,x,o,C,y,D,p,S⟩:∃c,ax R c/\R.length<=Qj/\∃o C,s.heap.get? a=some o/\o.cls=.type "tuple"/\o.data=.seq c.toArray C/\o.dict=none:=by
  rcases hq with h|⟨o,c,n,hk,A,hs,x,r⟩
  ·obtain⟨⟨x,U⟩,c,B,o,y,D,C,p⟩:=h.ok I.hok;exact⟨c,B,x,o,C,y,D,p,U o y⟩
  ·exact⟨c.toList,r,by rw[r.length,j5];exact x,o,n,I.kIn a o hk,A.1,by rw[Array.toArray_toList];exact hs,A.2⟩
 have E:c.length=N.length:=by rw[<-B.length,lt]
 have G:T3 s.heap a c.toArray:=⟨o,y,D,C,p⟩;have d0:=Qi y;refine callType_codes (Q₁:=λ ob sn=>ob=.ref s.heap.objs.size/\sn={s with heap:=s.heap.push {cls:=.type "dict",data:=.dict #[]}}) F.kt_called_dict (F.kt_typeCall_dict_1 _) F.entry_dict_init (kt_code_dict_new _ ⟨rfl,rfl⟩) ?_;rintro ob sn ⟨rfl,rfl⟩;have j:s!"f".heap.DictOf (fE X.prog X.w) s.heap.objs.size []:=Heap.DictOf.new s.heap;have es:s!"f".heap.objs.size=s.heap.objs.size+1:=QE ..;have g1:s!"f".heap.get? a=some o:=Qg _ y;have k1:∀b u,s.heap.get? b=some u->s!"f".heap.get? b=some u:=λ b u e=>Qg _ e;refine⟨j.typeIs,F.args_dict_init_2 _ _,?_⟩;unfold TC.«dict.__init__»;refine Qf ?_;unfold Builtin.Dict.selfAndRest;refine Qf (wpAny_notOrdered_dict j.typeIs ?_);show Qm _ _ (pure (s.heap.objs.size,[Qq a])) _ _ _;refine Qh ?_;show Qm _ _ (Rx "dict.__init__" s.heap.objs.size (.ref a) [] .none) _ _ _;unfold Rx;refine Qf (RU (T:="tuple") ⟨_,g1,D⟩ ?_);rw[T6 qQ];refine Qf (MH (show X.A.in1.in1.handled=none from I.ok.hd A) g1 D p S λ O Y kp=>?_);have ls:s.heap.objs.size<O.objs.size:=by
  obtain⟨o2,ω,ω,Z,ω⟩:=j;exact Qi (kp _ _ Z)
 have k2:∀b u,s.heap.get? b=some u->O.get? b=some u:=λ b u e=>kp b u (k1 b u e);show Qm _ _ (rule _>>=_) _ _ _;refine Qf (SU (Qf (wpAny_pyIter_tuple (IsTup.up G k2) ?_)));refine Qh ⟨QX qz ⟨[.ref s.heap.objs.size,.ref O.objs.size,QJ 0,.none],[]⟩,?_⟩;have J:s.heap.objs.size≠O.objs.size:=bY ls;refine Ag (n:=c.length) (Lj (show X.A.in1.in1.handled=none from I.ok.hd A) G (jm ls) (aS _) J) (λ i K s2 h3 t3 z kz ω=>?_) (λ i=>.inr (N.getD i "")) (λ i=>ys.getD i .non) (λ i K v s2 hi z=>?_) (by rw[<-B.length];exact x) .none c.length 0 _ #[] [] rfl (bJ _) ⟨_,Y,rfl,⟨_,Qo _ rfl,rfl,rfl⟩,λ b u e=>Qg _ (k2 b u e),rfl,bJ _⟩ .nil (j.at λ o e=>Qg _ (kp _ o e)) λ s2 K e0 fin kv g=>?_
 ·obtain⟨h4,w,rfl,z,k,P,L⟩:=z;exact⟨h3,t3,rfl,z.at λ o e=>kz _ o (Ne.symm J) e,λ b u e=>kz b u (bY (Qi e)) (k b u e),P,L⟩
 ·obtain⟨h4,w,rfl,z,k,P,L⟩:=z;have ev:v=c[i]:=by
   rw[pB,lT hi]at P;have:=congrArg List.getLast? P;simp only[rX]at this;exact dG this
  obtain⟨t,ht⟩:∃t,R[i]?=some t:=⟨_,aV qR⟩;obtain⟨T,rfl,hT⟩:=hp i t ht;obtain⟨u2,M,a0⟩:=B.get ht;rw[aV hi]at M;cases M;obtain⟨us,b0,⟨ot,e1,e2,m,e3⟩,ω⟩:=I.tuple hT;obtain⟨w1,w2,rfl,r1,r2⟩:=b0.two;refine⟨T,w1,w2,ot,m,ev.trans a0,k _ _ e1,e2,e3,oG (k:=.inr (N.getD i "")) r1,r2⟩
 ·obtain⟨h4,w,rfl,k,ω⟩:=fin;refine⟨rfl,.ref _,ag H s.heap.objs.size (.dK (f_ N ys)),I.laid (t':=w) k (aS _) (yJ ?_ (beq_false_of_ne (gC I.big)) ?_ g),rfl,q _ (I.hok.fresh (aS _))⟩
  ·exact cb (sN _ _ _) (by rw[<-lt];exact x)
  ·rw[E]at kv;exact kv
variable{g:TG}{ys:List V}
theorem L_{J:It}{O:TE}{D:V0}{C:St}(E:St->Prop)(R:Nat->V->Hp->Prop)(mono:∀j v p n,R j v p->i5 p n->R j v n)(Z:E C)(P:H D=none)(hz:ys.length<=Qj)(j1:∀i p,af H p->i<ys.length->J.go i p)(j2:∀i p x n,af H p->J.yld i p x n->n=p/\ys[i]?=some x)(j3:∀p,af H p->J.stop ys.length p)(he:∀i y S,ys[i]?=some y->E S->∀p (T:St->VK),af H p->(∀q v n,E q->af p n->R i v n->T q v n)->g y S p λ q K=>O q K (T q))(hQ:∀vs H',af H H'->H' D=some (.lst vs)->vs.length=ys.length->(∀j v,vs[j]?=some v->R j v H')->Q (.ref D) H'):gr J g fh O D Q C (ag H D (.lst [])):=by
 refine⟨λ i m w H'=>m=ys.length-i/\i<=ys.length/\E w/\af H H'/\∃vs,H' D=some (.lst vs)/\vs.length=i/\∀j v,vs[j]?=some v->R j v H',⟨ys.length,by simp,bJ _,Z,bM P _,[],aG,rfl,λ j v h=>by simp at h⟩,?_⟩;rintro i m w H' ⟨rfl,hi,hS,A,vs,U,hl,hr⟩;by_cases G:i<ys.length
 ·refine .inr ⟨j1 i H' A G,λ I n=>E I/\af H n/\∃vs,n D=some (.lst vs)/\vs.length=i+1/\∀j v,vs[j]?=some v->R j v n,λ I n ⟨a,b,c⟩=>⟨ys.length-(i+1),qR,rfl,G,a,b,c⟩,λ x n hx=>?_⟩;obtain⟨e1,e2⟩:=j2 i H' x n A hx;subst e1;unfold fh;simp only[if_true];refine he i x w e2 hS n _ A λ q v K L M hR=>?_;have X:=M _ _ U;have Y:i5 K (ag K D (.lst (vs++[v]))):=λ b o ho r=>by
   rw[aD (λ z=>by rw[z,X]at r;cases r;exact ho _ rfl)];exact r
  refine⟨vs,X,qR,L,λ b o r=>?_,_,aG,by rw[bB,hl];rfl,λ j u B=>?_⟩
  ·rw[aD (bS r P)];exact M _ _ (A _ _ r)
  ·by_cases N:j<vs.length
   ·rw[jE N]at B;exact mono j u _ _ (mono j u _ _ (hr j u B) λ b o ω r=>M b o r) Y
   ·rw[jF qR]at B;have ej:j-vs.length=0:=by
     have:=(bG.mp B).1;simp at this;lia
    rw[ej]at B;cases B;have:j=i:=by lia
    subst this;exact mono _ _ _ _ hR Y
 ·have e:i=ys.length:=by lia
  subst e;exact .inl ⟨j3 _ A,hQ vs H' A U hl hr⟩
theorem EZ{a:V0}{p:TE}{D:V0}{m:St}(n:St->Prop)(R:Nat->V->Hp->Prop)(mono:∀j v b e,R j v b->i5 b e->R j v e)(u:n m)(w:H D=none)(hz:ys.length<=Qj)(o:∀b,af H b->ao K b a ys)(z:∀i y q,ys[i]?=some y->n q->∀b (r:St->VK),af H b->(∀c v e,n c->af b e->R i v e->r c v e)->g y q b λ c A=>p c A (r c))(B:∀vs H',af H H'->H' D=some (.lst vs)->vs.length=ys.length->(∀j v,vs[j]?=some v->R j v H')->Q (.ref D) H'):gr (kP K a) g fh p D Q m (ag H D (.lst [])):=
 L_ n R mono u w hz (λ i b s h=>⟨ys,ys[i],o b s,aV h⟩) (λ i b x e s h=>⟨h.1,h.2 ys (o b s)⟩) (λ b s=>⟨ys,o b s,aS _⟩) z B
def vf(K:X0)(l m:V0):It:=
 ⟨λ i H=>∃b c x y,ai K H l b/\ai K H m c/\b[i]?=some x/\c[i]?=some y,λ i H v e=>∃t x y,v=.ref t/\H t=none/\e=ag H t (.tup [x,y])/\(∀b,ai K H l b->b[i]?=some x)/\∀c,ai K H m c->c[i]?=some y,λ i H=>∃b c,ai K H l b/\ai K H m c/\(b.length<=i\/c.length<=i)⟩
def EY(z TI TO i1 i2 l m:V0)(i:Nat)(h:Z3):Prop:=IsZip h z TI TO .none/\IsPair h TI (.ref i1) (.ref i2)/\(∃a b,IsPair h TO a b)/\h.IsListIter i1 l i/\h.IsListIter i2 m i
theorem KH{P:Program}{w:Y3}{T:List Expr}{x1:Nat}{U:Pos}{z TI TO Y Z l m:V0}(D:ZipApart z TI TO Y Z l m):g_ P w K (.Tuple T x1 U) (vf K l m) [z,TI,TO,Y,Z] z (EY z TI TO Y Z l m)where
 mem:=by simp
 obj:=λ i h j b g=>by
  obtain⟨r,B,⟨a,c,J⟩,⟨o4,L,ω,d4⟩,o5,M,ω,d5⟩:=j;simp only[bH,h_,or_false]at g;rcases g with e|e|e|e|e<;>subst e
  ·exact⟨_,r,λ v q=>by cases q⟩
  ·exact⟨_,B,λ v q=>by cases q⟩
  ·exact⟨_,J,λ v q=>by cases q⟩
  ·exact⟨o4,L,λ v q=>by rw[d4]at q;cases q⟩
  ·exact⟨o5,M,λ v q=>by rw[d5]at q;cases q⟩
 keep:=λ i h h' j k=>by
  obtain⟨r,B,⟨a,c,J⟩,L,M⟩:=j;exact⟨k _ s!"n" _ r,k _ s!"n" _ B,⟨a,c,k _ s!"n" _ J⟩,L.at λ o q=>k _ s!"n" o q,M.at λ o q=>k _ s!"n" o q⟩
 item:=by
  intro X hP hw hK hc i N s σ H E I hf j hg;subst hP hw hK;obtain⟨xs,ys,x,y,C,G,hx,hy⟩:=hg;obtain⟨a0,rv,p,ω⟩:=I.list C;obtain⟨b0,R,p2,ω⟩:=I.list G;obtain⟨u,hu,ru⟩:=rv.get hx;obtain⟨v,hv,c0⟩:=R.get hy;obtain⟨r,B,⟨a,c,J⟩,L,M⟩:=j;refine wpAny_pyNext_zip_item D r B J L M p.isList p2.isList (x:=u) (y:=v) (by simpa using hu) (by simpa using hv) λ h' a1 a2 a3 a4 a5 a6 a7=>?_;refine⟨_,rfl,wpAny_letOwnedTupleGo_zip a1 λ h2 b1 S=>?_⟩;have fresh:H s.heap.objs.size=none:=I.hok.fresh (aS _);have lt:∀{b o},s.heap.get? b=some o->b≠s.heap.objs.size:=λ q=>bY (Qi q);have k2:∀b o,b∉[z,TI,TO,Y,Z]->s.heap.get? b=some o->h2.get? b=some o:=λ b o g q=>by
   simp only[bH,h_,or_false,not_or]at g;exact S.extBut b o g.1 (a7 b o g.1 g.2.2.1 g.2.2.2.1 g.2.2.2.2 q)
  have O:h2.get? s.heap.objs.size=some {cls:=.type "tuple",data:=.seq #[u,v]}:=S.extBut _ _ (lt r).symm a5;have I2:Inv X N σ (ag H s.heap.objs.size (.tup [x,y])) {s with heap:=h2,toks:=s.toks}:=
   I.grow hf k2 (λ b o e=>by rw[aD (bS e fresh)];exact e) λ b o n e=>by
    by_cases g:b=s.heap.objs.size
    ·subst g;rw[aG]at e;cases e;exact⟨.inl (aS _),⟨by show 2<=Qj;decide,λ o q=>by rw[O]at q;cases q;rfl⟩,[u,v],.cons ru (.cons c0 .nil),⟨_,O,rfl,_,rfl⟩⟩
    ·rw[aD g,n]at e;cases e
  refine⟨.ref s.heap.objs.size,_,I2,rfl,⟨_,x,y,rfl,fresh,rfl,λ zs hz=>by rw[I.list_inj hz C];exact hx,λ zs hz=>by rw[I.list_inj hz G];exact hy⟩,⟨b1,?_,⟨u,v,?_⟩,?_,?_⟩,λ b g=>?_⟩
  ·exact S.extBut _ _ D.TIz (a7 _ _ D.TIz D.TITO D.TIi1 D.TIi2 B)
  ·exact S.extBut _ _ D.TOz a2
  ·exact a3.extBut S.extBut D.i1z
  ·exact a4.extBut S.extBut D.i2z
  ·have h0:=(hf b g).1;have:b≠s.heap.objs.size:=by
    simp only[bH,h_,or_false]at g;obtain⟨o4,t4,ω⟩:=L;obtain⟨o5,t5,ω⟩:=M;rcases g with e|e|e|e|e<;>subst e
    ·exact lt r
    ·exact lt B
    ·exact lt J
    ·exact lt t4
    ·exact lt t5
   rw[aD this];exact h0
 done:=by
  intro X hP hw hK hc i N s σ H E I hf j hg;subst hP hw hK;obtain⟨xs,ys,C,G,hx⟩:=hg;obtain⟨a0,rv,p,ω⟩:=I.list C;obtain⟨b0,R,p2,ω⟩:=I.list G;obtain⟨r,B,⟨a,c,J⟩,L,M⟩:=j;have l1:=rv.length;have l2:=R.length;refine wpAny_pyNext_zip_end (I.ok.hd hc) D r B J L M p.isList p2.isList (by simp;lia) λ h' a7=>⟨rfl,?_⟩;exact I.grow (t':=s.toks) hf (λ b o g q=>by
   simp only[bH,h_,or_false,not_or]at g;exact a7 b o g.1 g.2.2.1 g.2.2.2.1 g.2.2.2.2 q) (λ ω ω e=>e) λ b o n e=>by rw[n]at e;cases e
 self:=λ A i s Q E j h=>wpAny_pyIter_zip j.1 h
section
variable{X:Cx}
def p_(K:X0)(ta:TA):TI:=λ e H R=>ta e H λ vs c=>∃a b,vs=[.ref a,.ref b]/\(∃g,ai K c a g)/\(∃h,ai K c b h)/\R (vf K a b) c
theorem OJ{c:TA}{e:St}{R:It->Hp->Prop}:p_ K c e H R=c e H λ vs H1=>∃a b,vs=[.ref a,.ref b]/\(∃xs,ai K H1 a xs)/\(∃ys,ai K H1 b ys)/\R (vf K a b) H1:=rfl
theorem G7{i:List Expr}{G:Nat}{j:Pos}{a b:Expr}{C:TA}{p g:Pos}(J:Gl X "zip")(K:X.mg "zip"=none)(L:PA X [a,b] C)(v:Qv "zip"=some (.type "zip"):=by decide+kernel)(M:Ql [a,b] X.env=(false,QA a X.env)::Ql [b] X.env:=by rfl)(w:(QF g (Ql [b] X.env)).any (·.1)=false:=by rfl):PI X (.Tuple i G j) (.Call (.Name "zip" p) [a,b] [] g) (p_ X.K C):=by
 intro n s N H R I h;refine Call_ (ip I J K v (Qx (aM (L g n s N H _ I h) λ us c O=>?_) M w));obtain⟨vs,P,o,Q,l,m,rfl,⟨xs,S⟩,⟨ys,x⟩,q⟩:=O;obtain⟨u1,u2,rfl,y,z⟩:=Q.two;cases y;cases z;obtain⟨T,rv,D,ω⟩:=o.list S;obtain⟨U,Y,r,ω⟩:=o.list x;obtain⟨o1,Z,ω⟩:=id D.isList;obtain⟨o2,g2,ω⟩:=id r.isList;refine call_zip_2 D.isList r.isList λ h' E A B j1 j2 es kk=>wpAny_pyIter_zip E ?_;refine⟨c.heap.objs.size+4,[c.heap.objs.size+4,c.heap.objs.size+2,c.heap.objs.size+3,c.heap.objs.size,c.heap.objs.size+1],_,_,P,rfl,o.kept (t':=c.toks) kk,KH (EJ (Qi Z) (Qi g2)),⟨E,A,⟨_,_,B⟩,j1,j2⟩,λ b v=>?_,q⟩;have u:c.heap.objs.size<=b:=by
  simp only[bH,h_,or_false]at v;rcases v with e|e|e|e|e<;>rw[e];all_goals first|exact nF _ _|exact aS _
 exact o.fpOk u (o.hok.fresh u)
end
theorem Kj{a b:V0}{U:TE}{D:V0}{E:St}(G:St->Prop)(R:Nat->V->Hp->Prop)(mono:∀j v p n,R j v p->i5 p n->R j v n)(e0:G E)(Y:H D=none)(hl:xs.length=ys.length)(hz:xs.length<=Qj)(P:∀p,af H p->ai K p a xs)(r:∀p,af H p->ai K p b ys)(he:∀i x y t Z,xs[i]?=some x->ys[i]?=some y->G Z->∀p (K':St->VK),af H p->p t=some (.tup [x,y])->(∀q v n,G q->af p n->R i v n->K' q v n)->g (.ref t) Z p λ q O=>U q O (K' q))(hQ:∀vs H',af H H'->H' D=some (.lst vs)->vs.length=xs.length->(∀j v,vs[j]?=some v->R j v H')->Q (.ref D) H'):gr (vf K a b) g fh U D Q E (ag H D (.lst [])):=by
 refine⟨λ i m A H'=>m=xs.length-i/\i<=xs.length/\G A/\af H H'/\∃vs,H' D=some (.lst vs)/\vs.length=i/\∀j v,vs[j]?=some v->R j v H',⟨xs.length,by simp,bJ _,e0,bM Y _,[],aG,rfl,λ j v h=>by simp at h⟩,?_⟩;rintro i m A H' ⟨rfl,hi,hS,w,vs,hv,I,hr⟩;by_cases J:i<xs.length
 ·refine .inr ⟨⟨xs,ys,xs[i],ys[i]'(by lia),P H' w,r H' w,aV J,aV qR⟩,λ L n=>G L/\af H n/\∃vs,n D=some (.lst vs)/\vs.length=i+1/\∀j v,vs[j]?=some v->R j v n,λ L n ⟨a,b,c⟩=>⟨xs.length-(i+1),qR,rfl,J,a,b,c⟩,λ x n hx=>?_⟩;obtain⟨t,M,N,rfl,ht,rfl,ex,ey⟩:=hx;have st:=bM ht (.tup [M,N]);have et:ag H' t (.tup [M,N]) t=some (.tup [M,N]):=aG;generalize ag H' t (.tup [M,N])=n at*;unfold fh;simp only[if_true];refine he i M N t A (ex _ (P H' w)) (ey _ (r H' w)) hS n _ (w.trans st) et λ q v O S s3 hR=>?_;have B:=st.trans s3;have h3:=B _ _ hv;have sn:i5 O (ag O D (.lst (vs++[v]))):=λ b o ho r=>by
   rw[aD (λ z=>by rw[z,h3]at r;cases r;exact ho _ rfl)];exact r
  refine⟨vs,h3,qR,S,λ b o r=>?_,_,aG,by rw[bB,I];rfl,λ j u C=>?_⟩
  ·rw[aD (bS r Y)];exact B _ _ (w _ _ r)
  ·by_cases T:j<vs.length
   ·rw[jE T]at C;exact mono j u _ _ (mono j u _ _ (hr j u C) λ b o ω r=>B b o r) sn
   ·rw[jF qR]at C;have ej:j-vs.length=0:=by
     have:=(bG.mp C).1;simp at this;lia
    rw[ej]at C;cases C;have:j=i:=by lia
    subst this;exact mono _ _ _ _ hR sn
 ·have e:i=xs.length:=by lia
  subst e;exact .inl ⟨⟨xs,ys,P _ w,r _ w,.inl (aS _)⟩,hQ vs H' w hv I hr⟩
def jS(K:X0):List V->Hp->VK->Prop:=λ c H Q=>∃p b,c=[.ref p]/\(ai K H p b\/ao K H p b)/\Q (.int b.length) H
theorem Nw:jS K xs H Q=∃p ys,xs=[.ref p]/\(ai K H p ys\/ao K H p ys)/\Q (.int ys.length) H:=rfl
theorem Aj{X:Cx}:il X (.builtin "len") (jS X.K):=BA
open PySem.XF PySem.XO
def B9(tb:(St->XK)->TS):TS:=λ D b H=>tb (λ ω ω ω ω=>False) D b H
variable{b:St}{D:bc}
theorem Oj{tb:(St->XK)->TS}:B9 tb D b H=tb (λ ω ω ω ω=>False) D b H:=rfl
section
variable{X:Cx}{pos:Pos}{body:List Qw}{h0:ExceptHandler}{hrest:List ExceptHandler}{tb:(St->XK)->TS}
theorem HH(hb:∀(l:List (V0×Obj))(E:St->XK),fb ((X.pinned l).wish (bp (X.pinned l) E)) body (tb E)):PS X (.Try body (h0::hrest) [] [] pos) (B9 tb):=by
 intro aa s σ H D I h1;have ok:=I.ok;refine wpAny_Try_except (QI (hb (X.pn++aa) _ [] s σ H D ((I.borne).wish _) h1) (λ f s1 q=>?_) λ e s1 q=>?_)
 ·cases f with
  |next=>obtain⟨σ',H',I',q⟩:=q;exact RH ⟨σ',H',I'.unwish.unborne ok,q⟩
  |brk=>obtain⟨σ',H',I',q⟩:=q;exact⟨σ',H',I'.unwish.unborne ok,q⟩
  |cont=>obtain⟨σ',H',I',q⟩:=q;exact⟨σ',H',I'.unwish.unborne ok,q⟩
  |ret u=>obtain⟨v,σ',H',I',r,q⟩:=q;exact⟨v,σ',H',I'.unwish.unborne ok,r,q⟩
 ·obtain⟨ω,ω,ω,ω,ω,ω,ω,ω,q⟩:=q;exact q.elim
end
def kU(K:X0):List V->Hp->VK->Prop:=λ h H Q=>∃a c e C g fs b,h=[.ref a,c]/\ke c=some e/\H a=some (cX a C (some g))/\H g=some (.xd fs)/\fT K C/\QN K (.ref C) e=some b/\Q (.bl b) H
section
variable{X:Cx}
theorem om:il X (.builtin "isinstance") (kU X.K):=by
 intro g s x H y us Q I i h;obtain⟨a,c,z,C,A,fs,b,rfl,j,m,n,o,e,q⟩:=h;obtain⟨u,v,rfl,p,r⟩:=i.two;rw[zJ j r];obtain rfl:u=Qq a:=p;exact Ml I m n o e λ w=>⟨.bl b,H,I.tok w,rfl,q⟩
end
theorem Of:kU K xs H Q=∃a c g C h fs b,xs=[.ref a,c]/\ke c=some g/\H a=some (cX a C (some h))/\H h=some (.xd fs)/\fT K C/\QN K (.ref C) g=some b/\Q (.bl b) H:=rfl
theorem PF{b:TE}{f:V2}{c:St}:Cy K b f c H Q=b c H λ x H1=>∃a C g fs v,x=.ref a/\H1 a=some (cX a C (some g))/\H1 g=some (.xd fs)/\fT K C/\aK K C f/\fs.lookup f=some v/\Q v H1:=rfl
def gM(H:Hp)(C:V0)(x:V2)(E:XK):Prop:=∀b c,af H b->b c=some (.xd [("word",.str x)])->E (.ref C) (some c) b
theorem gM.mono{H':Hp}{C:V0}{x:V2}{E:XK}(h:gM H C x E)(s:af H H'):gM H' C x E:=λ b c g q=>h b c (s.trans g) q
inductive DA(C:V0)(vs:List V)(H:Hp)(Q:VK):Prop
 |mk(x:V0)(z:V2)(a1:vs=[.ref x,.str z])(a2:H x=some (dN x C none))(a3:z.length<=1000)(a4:∀dx,H dx=none->Q .non (ag (ag H x (dN x C (some dx))) dx (.xd [("word",.str z)]))):DA C vs H Q
def Jt(C:V0):Sp:=λ vs H Q ω=>DA C vs H Q
structure XW(P:Program)(w:Y3)(K:X0)(mg:V2->Option V1)(base:Z3)(x:V2)(C:V0):Prop where
 mgC:mg x=some (.ref C)
 kp:QR K (.ref C)=true
 cls:fT K C
 no:aK K C "word"
 ini:∃f fd,iB K C (some f)=true/\TR K (.ref f)=true/\cj P w K mg base hZ 1 f fd ["self","word"] (Jt C)/\Binds K fd ["self","word"] []
def D8(C:V0)(E:XK)(te:TE):TS:=λ D b H=>te b H λ v c=>∃z,v=.str z/\z.length<=1000/\gM c C z E
theorem PV{C:V0}{E:XK}{te:TE}:D8 C E te D b H=te b H λ v c=>∃z,v=.str z/\z.length<=1000/\gM c C z E:=rfl
section
variable{X:Cx}{x:V2}{j:Nat}{C:V0}{e:Expr}{te:TE}{p pos cpos:Pos}{E:XK}
theorem xD(c:XW X.prog X.w X.K X.mg X.base x C)(hr:aP j X.A)(y:2<=j)(A:Gl X x)(B:PE (X.xx E) e te)(hd:s!"p"=false:=by decide)(i:Ql [e] X.env=(false,QA e X.env)::Ql [] X.env:=by rfl):PS (X.xx E) (.Raise (some (.Call (.Name x p) [e] [] cpos)) none pos) (D8 C E te):=by
 obtain ⟨f,P,G,r,F,J⟩:=c.ini;refine λ m s K H D I h=>KD (E:=λ ω=>E) G c.kp r F (hr.mono y) J A c.mgC (cg B.mono (id dO) i) hd i rfl m s K H D I ⟨_,h,?_⟩;rintro v L ⟨z,rfl,M,q⟩;refine ⟨(show 1<=Qj by decide),λ a N=>⟨a,z,rfl,aG,M,λ dx g=>⟨rfl,some dx,?_,q _ dx (λ b o e=>?_) ?_⟩⟩⟩;all_goals
  have u:dx≠a:=λ z=>by rw[z,aG]at g;cases g
  have n:L dx=none:=by rw[aD u]at g;exact g
 ·rw[aD (Ne.symm u),aG]
 ·have w:b≠a:=bS e N;have O:b≠dx:=bS e n;rw[aD w,aD O,aD w,aD w];exact e
 ·rw[aD u,aG]
end
theorem J9{a:V0}{tb:TS}(xs:List V)(c:Nat->St->Hp->Prop)(n:c 0 b H)(hl:∀i b H,i<=xs.length->c i b H->ai K H a xs)(hs:∀i x b H,xs.reverse[i]?=some x->c i b H->g x b H λ j o=>tb {D with nx:=c (i+1),ct:=c (i+1),bk:=D.nx} j o)(hd:∀b H,c xs.length b H->D.nx b H):oH (vg K a xs.length) g tb D b H:=by
 refine⟨λ i m b H=>m=xs.length-i/\i<=xs.length/\c i b H,⟨xs.length,by simp,bJ _,n⟩,?_⟩;rintro i m b H ⟨rfl,r,p⟩;have q:=hl i b H r p;by_cases h:i<xs.length
 ·refine .inr ⟨⟨h,xs,q,rfl⟩,c (i+1),λ u v w=>⟨xs.length-(i+1),by omega,rfl,h,w⟩,λ x v y=>?_⟩;obtain⟨e,y⟩:=y;subst e;exact hs i x b _ (by rw[List.getElem?_reverse h];exact y xs q) p
 ·have e:i=xs.length:=by omega
  subst e;exact .inl ⟨rfl,hd b H p⟩
theorem Lm{a:V0}{tb:TS}(xs:List V)(c:Nat->St->Hp->Prop)(n:c 0 b H)(hl:∀i b H,i<=xs.length->c i b H->ai K H a xs)(hs:∀i x t b H,xs[i]?=some x->H t=none->c i b H->g (.ref t) b (ag H t (.tup [.int i,x])) λ j o=>tb {D with nx:=c (i+1),ct:=c (i+1),bk:=D.nx} j o)(hd:∀b H,c xs.length b H->D.nx b H):oH (vh K a) g tb D b H:=by
 refine⟨λ i m b H=>m=xs.length-i/\i<=xs.length/\c i b H,⟨xs.length,by simp,bJ _,n⟩,?_⟩;rintro i m b H ⟨rfl,r,p⟩;have q:=hl i b H r p;by_cases h:i<xs.length
 ·refine .inr ⟨⟨xs,xs[i],q,aV h⟩,c (i+1),λ u v w=>⟨xs.length-(i+1),by omega,rfl,h,w⟩,λ x v y=>?_⟩;obtain⟨t,z,e,A,B,y⟩:=y;subst e B;exact hs i z t b _ (y xs q) A p
 ·have e:i=xs.length:=by omega
  subst e;exact .inl ⟨⟨xs,q,aS _⟩,hd b H p⟩
end L2
end
section
namespace P23
open PySem
def bR(l:List Nat):V2:=⟨l.toArray⟩
theorem Jj{a b:List Nat}(h:bR a=bR b):a=b:=by
 unfold bR at h;injection h with h
 simpa using congrArg Array.toList h
def bQ:List V2:=["house","of","has","can","main","let","in","if","then","else","new","self","elder","set","not","yes","no","number","truth"]
def dq:List (List Nat):=bQ.map λ x=>x.cps.toList
def f6(r:Nat):List Nat:=(bU 8).map λ j=>97+(r/64+5*j)%26
def gq(r:Nat):List Nat:=(bU 8).map λ j=>97+(r+3*j)%26
def cf(w r k:Nat):List Nat:=match w with
 |0=>((f6 r).set (r/8%(1+r%8)) (97+(r+k)%26)).take (1+r%8)
 |1=>(97+(r+k/8)%26)::(f6 r).take (k%8)
 |_=>(gq (r+k/8)).drop (k%8)++(gq (r+k/8)).take (k%8)
def cY(k:Nat):List Nat:=if k<10 then[48+k]else[48+k/10,48+k%10]
def d6(d:Nat):Nat:=if d=9 then 48 else 49+d
def gU(C k:Nat):List Nat:=
 if C%4=2 then dq.getD ((C/4+k)%19) []++[d6 ((C/4+k/19)%10)]
 else if bR (cf (C%4) (C/4) k)∈bQ then(cf (C%4) (C/4) k).take 1++cY k else cf (C%4) (C/4) k
def d_(C k:Nat):V2:=bR (gU C k)
variable{r:Nat}
theorem lE:(f6 r).length=8:=by unfold f6;simp
theorem mW:(gq r).length=8:=by unfold gq;simp
theorem Kx{w k:Nat}:∀c∈cf w r k,97<=c:=by
 have e:∀c∈f6 r,97<=c:=λ c b=>by
  obtain⟨j,ω,rfl⟩:=bE.mp b;omega
 have g:∀r,∀c∈gq r,97<=c:=λ r c b=>by
  obtain⟨j,ω,rfl⟩:=bE.mp b;omega
 intro c b;unfold cf at b;split at b
 ·rcases rW (jX b)with h|h
  ·exact e c h
  ·omega
 ·rcases bH.mp b with h|h
  ·omega
  ·exact e c (jX h)
 ·rcases dy.mp b with h|h
  ·exact g _ c (vE h)
  ·exact g _ c (jX h)
theorem CJ{w k:Nat}:cf w r k≠[]:=by
 unfold cf;split
 ·intro h;have:=(congrArg gB h);rw[cJ,iW,lE]at this;simp at this
 ·simp
 ·intro h;have:=(congrArg gB h);rw[bB,gA,cJ,mW]at this;simp at this;omega
theorem DZ{k:Nat}(e:k<100):∀c∈cY k,c<97:=by
 intro c b;unfold cY at b;split at b
 ·cases cu.mp b;omega
 ·rcases bH.mp b with h|h
  ·omega
  ·cases cu.mp h;omega
theorem IZ{k:Nat}:cY k≠[]:=by unfold cY;split<;>simp
theorem Km:∀i j:Fin 19,dq.getD i.1 []=dq.getD j.1 []->i=j:=by decide+kernel
open P15 PW
def gR:List V2->V2->Option Nat
 |[],_=>none
 |y::b,x=>if y=x then some 0 else(gR b x).map (·+1)
theorem yd:∀{xs:List V2}{x:V2},x∉xs->gR xs x=none
 |[],_,_=>rfl
 |y::b,x,h=>by
  simp only[bH,not_or]at h;unfold gR;rw[T5 (λ z=>h.1 z.symm),yd h.2];rfl
theorem qT:∀{xs:List V2}{x:V2},x∈xs->∃i,gR xs x=some i/\gv xs x i
 |y::ys,x,h=>by
  by_cases e:y=x
  ·exact⟨0,by unfold gR;rw[T6 e],by rw[<-e];rfl,λ j b=>T7 b (nE _)⟩
  ·have h:x∈ys:=by
    rcases bH.mp h with z|z
    ·exact T7 z.symm e
    ·exact z
   obtain⟨i,c,g,m⟩:=qT h;refine⟨i+1,by unfold gR;rw[T5 e,c];rfl,g,λ j b=>?_⟩;cases j with
   |zero=>exact λ z=>e (dG z)
   |succ j=>exact m j qR
variable{i:Nat}
theorem Bc{xs:List V2}{x:V2}(h:gR xs x=some i):x∈xs/\i<xs.length/\gv xs x i:=by
 by_cases m:x∈xs
 ·obtain⟨j,b,c⟩:=qT m;rw[h]at b;cases b;exact⟨m,(bG.mp c.1).1,c⟩
 ·rw[yd m]at h;cases h
inductive FO(G:Pg)(w:V2):List V2->Option (V2×Nat×Wd)->Prop
 |nil:FO G w [] none
 |here{h:V2}{X:Hs}{es:List V2}{i:Nat}{d:Wd}:Look G h X->gR (X.words.map Wd.name) w=some i->X.words[i]?=some d->FO G w (h::es) (some (h,i,d))
 |there{h:V2}{X:Hs}{es:List V2}{r:Option (V2×Nat×Wd)}:Look G h X->gR (X.words.map Wd.name) w=none->FO G w es r->FO G w (h::es) r
variable{G:Pg}
theorem FO.at{wd h:V2}{ls:List V2}{d:Wd}(f:FO G wd ls (some (h,i,d))):∃X,Look G h X/\X.words[i]?=some d:=by
 generalize e:some (h,i,d)=r at f;induction f with
 |nil=>cases e
 |here a b c=>cases e;exact⟨_,a,c⟩
 |there _ _ _ g=>exact g e
theorem cm.app{a b:List V2}{f g:List (V2×V2)}(x:cm G a f)(y:cm G b g):cm G (a++b) (f++g):=by
 induction x with
 |nil=>exact y
 |cons c _ e=>rw[iX];exact .cons c e
theorem cm.ex(m:Nat)(b:∀X∈G.houses,X.fields.length<=m):∀{ls:List V2},(∀x∈ls,∃X,Look G x X)->∃fs,cm G ls fs/\fs.length<=m*ls.length
 |[],_=>⟨[],.nil,bJ _⟩
 |x::ls,h=>by
  obtain⟨X,c⟩:=h x dR;obtain⟨fs,e,hl⟩:=cm.ex m b (ls:=ls) λ y g=>h y (dz _ g);refine⟨X.fields++fs,.cons c e,?_⟩;rw[bB,dv,Nat.mul_add,Nat.mul_one];have:=b X c.1;lia
theorem aL.look{h:V2}{es:List V2}(c:aL G h es):∀x∈h::es,∃X,Look G x X:=by
 induction c with
 |top l _=>intro x b;cases cu.mp b;exact⟨_,l⟩
 |up l _ _ e=>
  intro x b;rcases bH.mp b with z|z
  ·rw[z];exact⟨_,l⟩
  ·exact e x z
def bC(x:V2):Prop:=x.cps.all (·<0x110000)=true/\x.length<=100
def bX(ns:List V2)(k:V2):Prop:=k∈[("number":V2),"truth"]++ns++ns
theorem bX.sok{ns:List V2}{k:V2}(h:bX ns k)(b:∀x∈ns,bC x):bC k:=by
 rcases(dy.mp h)with h|h
 ·rcases dy.mp h with h|h
  ·rcases bH.mp h with e|h
   ·rw[e];exact⟨qP,qP⟩
   ·rcases bH.mp h with e|h
    ·rw[e];exact⟨qP,qP⟩
    ·cases h
  ·exact b k h
 ·exact b k h
theorem xJ{c:Type}{xs:List c}{x:c}(h:xs.Nodup)(n:x∉xs):(xs++[x]).Nodup:=by
 rw[List.nodup_append];exact⟨h,List.pairwise_singleton _ _,λ a g b i e=>n (by cases cu.mp i;exact e▸g)⟩
theorem f7{b:Type}{xs:List b}{j:Nat}{x:b}(n:xs.Nodup)(c:xs[i]?=some x)(h2:xs[j]?=some x):i=j:=
 (List.getElem?_inj (bG.mp c).1 n).mp (c.trans h2.symm)
structure fW(pool taken ns:List V2)(fs:List (V2×V2)):Prop where
 le:fs.length<=4
 nm:∀f∈fs,f.1∈pool/\f.1∉taken/\bX ns f.2
 nd:(fs.map Prod.fst).Nodup
structure u9(q1 q2 ns:List V2)(hs:List (V2×List (V2×V2)×V2)):Prop where
 le:hs.length<=8
 nm:∀h∈hs,h.1∈q1/\fW q2 [] ns h.2.1/\bX ns h.2.2
 nd:(hs.map Prod.fst).Nodup
structure Rw where
 name:V2
 elder:Option V2
 fields:List (V2×V2)
 heads:List (V2×List (V2×V2)×V2)
structure di(rs:List Rw):Prop where
 nd:(rs.map Rw.name).Nodup
 l1:1<=rs.length
 l12:rs.length<=12
 up:∃rk:Nat->Nat,∀j r e,rs[j]?=some r->r.elder=some e->rk j<12/\∃i r',rs[i]?=some r'/\r'.name=e/\rk i<rk j
 sm:∀r∈rs,r.fields.length<=4/\r.heads.length<=8/\∀h∈r.heads,h.2.1.length<=4
 so:∀r∈rs,bC r.name/\(∀f∈r.fields,bC f.1/\bC f.2)/\∀h∈r.heads,bC h.1/\bC h.2.2/\∀p∈h.2.1,bC p.1/\bC p.2
 kd:∀r∈rs,(∀f∈r.fields,bX (rs.map Rw.name) f.2)/\∀h∈r.heads,bX (rs.map Rw.name) h.2.2/\∀p∈h.2.1,bX (rs.map Rw.name) p.2
 dn:∀r∈rs,(r.fields.map Prod.fst).Nodup/\(r.heads.map Prod.fst).Nodup/\∀h∈r.heads,(h.2.1.map Prod.fst).Nodup
 fx:∃tk:Nat->List V2,∀j r,rs[j]?=some r->(∀f∈r.fields,f.1∈tk j)/\∀i r',rs[i]?=some r'->r.elder=some r'.name->∀x∈tk i,x∈tk j/\∀f∈r.fields,f.1≠x
def l8:Tm:=.mk .number (.int 0) []
def oM(h:V2×List (V2×V2)×V2):Wd:=⟨h.1,h.2.1,h.2.2,l8⟩
def jq(r:Rw):Hs:=⟨r.name,r.elder,r.fields,r.heads.map oM⟩
def da(rs:List Rw):Pg:=⟨rs.map jq,⟨"main",[],"number",l8⟩⟩
def ff(r:Rw):Rw:={r with elder:=none}
theorem xg{b:List Rw}{r:Rw}(h:r∈b):Look (da b) r.name (jq r):=⟨iF h,rfl⟩
theorem Eo(b:List Rw):(da b).houses.map Hs.name=b.map Rw.name:=by
 show(b.map jq).map Hs.name=_;rw[dH];rfl
theorem Ew{g:List Rw}{b:Nat->Nat}(up:∀j r e,g[j]?=some r->r.elder=some e->b j<12/\∃i c,g[i]?=some c/\c.name=e/\b i<b j):∀(n j:Nat) r,b j<n->g[j]?=some r->∃es,aL (da g) r.name es/\es.length<=b j
 |0,j,r,h,_=>T7 h (nE _)
 |n+1,j,r,h,hr=>by
  have m:=xg (bN hr);cases e:r.elder with
  |none=>exact⟨[],.top m e,bJ _⟩
  |some x=>
   obtain⟨ω,i,c,o,rfl,q⟩:=up j r x hr e;obtain⟨es,p,u⟩:=Ew up n i c qR o;exact⟨c.name::es,.up m e p,by rw[dv];lia⟩
structure yh(G:Pg)(r:Rw)(es:List V2)(fa:List (V2×V2)):Prop where
 ch:aL G r.name es
 fl:cm G (r.name::es).reverse (fa++r.fields)
 le:es.length<=12
 lf:fa.length<=52
 top:r.elder=none->es=[]/\fa=[]
 up:∀e,r.elder=some e->∃es',es=e::es'/\aL G e es'/\cm G (e::es').reverse fa
theorem yh.ex{b:List Rw}(ok:di b){r:Rw}(h:r∈b):∃es fa,yh (da b) r es fa:=by
 obtain⟨p,up⟩:=ok.up;obtain⟨j,q⟩:=eS h;have c:=xg h;have one:cm (da b) [r.name] r.fields:=by
  have:=cm.cons (P:=da b) c .nil;rw[gD]at this;exact this
 cases e:r.elder with
 |none=>exact⟨[],[],.top c e,one,by simp,by simp,λ ω=>⟨rfl,rfl⟩,λ x z=>by rw[e]at z;cases z⟩
 |some x=>
  obtain⟨hl,i,g,u,rfl,C⟩:=up j r x q e;obtain⟨es,m,D⟩:=Ew up (p i+1) i g (jl _) u;obtain⟨fa,o,v⟩:=cm.ex (G:=da b) 4 (λ X w=>by
   obtain⟨A,n,rfl⟩:=bE.mp w;exact(ok.sm A n).1) (ls:=(g.name::es).reverse) λ y B=>aL.look m y (List.mem_reverse.mp B)
  rw[kR,dv]at v;refine⟨g.name::es,fa,.up c e m,?_,by rw[dv];lia,qR,λ z=>(by rw[e]at z;cases z),λ y z=>?_⟩
  ·rw[j7];exact cm.app o one
  ·rw[e]at z;cases z;exact⟨es,rfl,m,o⟩
def gy(p:List Nat)(i:Nat)(es:List (Option Nat)):Prop:=∀j e,es[j]?=some (some e)->∃a b:Nat,a<b/\b<i/\p[b]?=some j/\p[a]?=some e
def ik(ns:List V2)(es:List (Option Nat))(fss:List (List (V2×V2)))(hs:Nat->List (V2×List (V2×V2)×V2))(j:Nat):Rw:=
 ⟨ns.getD j "",(es.getD j none).map λ e=>ns.getD e "",fss.getD j [],hs j⟩
def fF(es:List (Option Nat))(fss:List (List (V2×V2)))(tks:List (List V2))(j:Nat):Prop:=
 (∀f∈fss.getD j [],f.1∈tks.getD j [])/\∀e,es[j]?=some (some e)->∀x∈tks.getD e [],x∈tks.getD j []/\∀f∈fss.getD j [],f.1≠x
theorem mO{b:Type}{xs:List b}{j:Nat}{x d:b}(h:i≠j):(xs.set i x).getD j d=xs.getD j d:=by
 rw[c6,c6,nL h]
theorem wG{b:Type}{xs:List b}{x d:b}(h:i<xs.length):(xs.set i x).getD i d=x:=by
 rw[c6,j6 h];rfl
theorem iw{b:Type}{xs:List b}{d:b}(h:i<xs.length):xs.getD i d=xs[i]:=by
 rw[c6];rw[aV h];rfl
variable{p:List Nat}{es:List (Option Nat)}
theorem H_{m j:Nat}{n:List (List (V2×V2))}{o:List (List V2)}{T:List V2}(v:p.Perm (bU m))(w:gy p m es)(q:p[i]?=some j)(h:∀b,b<i->∀j,p[b]?=some j->fF es n o j):∀b,b<i->∀j',p[b]?=some j'->fF es n (o.set j T) j':=by
 have c:p.Nodup:=v.nodup_iff.mpr rV;intro b y j' g;have A:j≠j':=λ z=>by have:=f7 c g (z▸q);lia
 obtain⟨B,C⟩:=h b y j' g;unfold fF;rw[mO A];refine⟨B,λ e r x u=>?_⟩;rw[mO (λ z=>?_)]at u
 ·exact C e r x u
 ·obtain⟨a,G,H,I,D,E⟩:=w j' e r;have:=f7 c g D;have:=f7 c E (z▸q);lia
theorem Cn{m j e:Nat}(g:p.Perm (bU m))(n:gy p m es)(h:es[j]?=some (some e)):e<m/\j≠e:=by
 have c:p.Nodup:=g.nodup_iff.mpr rV;obtain⟨a,b,q,r,o,i⟩:=n j e h;refine⟨eV.mp (g.mem_iff.mp (bN i)),λ z=>?_⟩;have:=f7 c i (z▸o);lia
theorem HC{m j:Nat}{n:List (List (V2×V2))}{g:List (List V2)}{T:List V2}{fs:List (V2×V2)}(A:p.Perm (bU m))(C:gy p m es)(M:n.length=m)(lt:g.length=m)(w:p[i]?=some j)(h:∀b,b<i->∀j,p[b]?=some j->fF es n g j)(D:∀e,es[j]?=some (some e)->g.getD e []=T)(E:∀f∈fs,f.1∉T):∀b,b<i+1->∀j',p[b]?=some j'->fF es (n.set j fs) (g.set j (T++fs.map Prod.fst)) j':=by
 have o:p.Nodup:=A.nodup_iff.mpr rV;have G:j<m:=eV.mp (A.mem_iff.mp (bN w));have u:∀b,b<=i->∀j',p[b]?=some j'->∀e,es[j']?=some (some e)->j≠e:=λ b H j' c e q z=>by
  obtain⟨a,N,O,P,I,J⟩:=C j' e q;have:=f7 o c I;have:=f7 o J (z▸w);lia
 intro b H j' c;by_cases v:b=i
 ·subst v;have:j'=j:=dG (c.symm.trans w);subst this;unfold fF;rw[wG qR,wG qR];refine⟨λ f y=>dY _ (iF y),λ e q x r=>?_⟩;rw[mO (u b (aS _) j' c e q),D e q]at r;exact⟨nM _ r,λ f y z=>E f y (z▸r)⟩
 ·have B:j≠j':=λ z=>v (f7 o c (z▸w));obtain⟨K,L⟩:=h b qR j' c;unfold fF;rw[mO B,mO B];refine⟨K,λ e q x r=>?_⟩;rw[mO (u b qR j' c e q)]at r;exact L e q x r
theorem IP{ns:List V2}{n:List (List (V2×V2))}{hs:Nat->List (V2×List (V2×V2)×V2)}{C:List (List V2)}{m:Nat}{K Q R:List V2}(ln:ns.length=m)(le:es.length=m)(lf:n.length=m)(S:ns.Nodup)(v:p.Perm (bU m))(T:gy p m es)(Z:1<=m)(L:m<=12)(sn:∀x∈ns,bC x)(s0:∀x∈K,bC x)(s1:∀x∈Q,bC x)(s2:∀x∈R,bC x)(hf:∀fs∈n,fW K [] ns fs)(A:∀j,j<m->u9 Q R ns (hs j))(tk:∀b,b<m->∀j,p[b]?=some j->fF es n C j):di ((bU m).map (ik ns es n hs)):=by
 have lp:p.length=m:=by rw[v.length_eq,eU]
 have D:p.Nodup:=v.nodup_iff.mpr rV;have U:((bU m).map (ik ns es n hs)).map Rw.name=ns:=by
  rw[dH];refine lS λ j=>?_;by_cases g:j<m
  ·rw[a_,jk g,aV qR];show some (ns.getD j "")=_;rw[iw qR]
  ·rw[ic (by rw[aA,eU];lia),ic qR]
 have y:∀(j:Nat) r,((bU m).map (ik ns es n hs))[j]?=some r->j<m/\r=ik ns es n hs j:=λ j r h=>by
  rw[a_]at h;by_cases g:j<m
  ·rw[jk g]at h;cases h;exact⟨g,rfl⟩
  ·rw[ic (by rw[eU];lia)]at h;cases h
 have E:∀j x,(es.getD j none).map (λ e=>ns.getD e "")=some x->∃e,es[j]?=some (some e)/\ns.getD e ""=x:=λ j x u=>by
  rw[c6]at u;cases z:es[j]? with
  |none=>rw[z]at u;cases u
  |some o=>
   rw[z]at u;cases o with
   |none=>cases u
   |some i=>exact⟨i,rfl,dG u⟩
 have w:∀r∈(bU m).map (ik ns es n hs),∃j,j<m/\r=ik ns es n hs j:=λ r hr=>by
  obtain⟨j,g,rfl⟩:=bE.mp hr;exact⟨j,eV.mp g,rfl⟩
 have I:∀j,j<m->fW K [] ns (n.getD j []):=λ j g=>by
  rw[iw qR];exact hf _ (gQ _)
 refine⟨by rw[U];exact S,by rw[aA,eU];exact Z,by rw[aA,eU];exact L,⟨λ j=>p.idxOf j,λ j r e g u=>?_⟩,λ r hr=>?_,λ r hr=>?_,λ r hr=>?_,λ r hr=>?_,⟨λ j=>C.getD j [],λ j r g=>?_⟩⟩
 ·obtain⟨G,rfl⟩:=y j r g;obtain⟨i,z,B⟩:=E j e u;obtain⟨a,b,ab,bm,X,J⟩:=T j i z;obtain⟨M,N⟩:=bG.mp X;obtain⟨O,P⟩:=bG.mp J;have ib:p.idxOf j=b:=by rw[<-N];exact D.idxOf_getElem b M
  have ia:p.idxOf i=a:=by rw[<-P];exact D.idxOf_getElem a O
  have H:i<m:=eV.mp (v.mem_iff.mp (bN J));exact⟨by show p.idxOf j<12;lia,i,ik ns es n hs i,by rw[a_,jk H];rfl,B,by show p.idxOf i<p.idxOf j;lia⟩
 ·obtain⟨j,g,rfl⟩:=w r hr;exact⟨(I j g).le,(A j g).le,λ h q=>((A j g).nm h q).2.1.le⟩
 ·obtain⟨j,g,rfl⟩:=w r hr;refine⟨?_,λ f q=>?_,λ h q=>?_⟩
  ·show bC (ns.getD j "");rw[iw qR];exact sn _ (gQ _)
  ·obtain⟨a,ω,c⟩:=(I j g).nm f q;exact⟨s0 _ a,c.sok sn⟩
  ·obtain⟨a,b,c⟩:=(A j g).nm h q;refine⟨s1 _ a,c.sok sn,λ p v=>?_⟩;obtain⟨d,ω,e⟩:=b.nm p v;exact⟨s2 _ d,e.sok sn⟩
 ·rw[U];obtain⟨j,g,rfl⟩:=w r hr;refine⟨λ f q=>((I j g).nm f q).2.2,λ h q=>?_⟩;obtain⟨a,b,c⟩:=(A j g).nm h q;exact⟨c,λ p v=>(b.nm p v).2.2⟩
 ·obtain⟨j,g,rfl⟩:=w r hr;exact⟨(I j g).nd,(A j g).nd,λ h q=>((A j g).nm h q).2.1.nd⟩
 ·obtain⟨G,rfl⟩:=y j r g;obtain⟨b,Y⟩:=eS (v.mem_iff.mpr (eV.mpr G));obtain⟨h1,h2⟩:=tk b (by have:=(bG.mp Y).1;lia) j Y;refine⟨h1,λ i r' hi u x hx=>?_⟩;obtain⟨H,rfl⟩:=y i r' hi;obtain⟨e,z,B⟩:=E j _ u;obtain⟨a,b',ab,bm,X,J⟩:=T j e z;have a0:e<m:=eV.mp (v.mem_iff.mp (bN J));have B:ns.getD e ""=ns.getD i "":=B;rw[iw qR,iw qR]at B;have:e=i:=f7 S (aV qR) (by rw[B];exact aV qR);subst this;exact h2 e z x hx
theorem DK{s t:Nat}(hs:s<8)(e:t<8):((gq r).drop s++(gq r).take s)[t]?=some (97+(r+3*((s+t)%8))%26):=by
 have b:∀x,x<8->(gq r)[x]?=some (97+(r+3*x)%26):=λ x c=>by
  unfold gq;rw[a_,jk c];rfl
 by_cases h:t<8-s
 ·rw[jE (by rw[gA,mW];omega),List.getElem?_drop,b _ (by omega),show(s+t)%8=s+t by omega]
 ·rw[jF (by rw[gA,mW];omega),gA,mW,vN (by omega),b _ (by omega),show(s+t)%8=t-(8-s)by omega]
theorem JQ:∀k k':Fin 26,(∀t:Fin 8,(k.1/8+3*((k.1%8+t.1)%8))%26=(k'.1/8+3*((k'.1%8+t.1)%8))%26)->k=k':=by decide+kernel
theorem LD{w k k':Nat}(i:k<26)(b:k'<26)(h:cf w r k=cf w r k'):k=k':=by
 unfold cf at h;split at h
 ·have c:r/8%(1+r%8)<1+r%8:=fQ _ (by omega);have g:r/8%(1+r%8)<8:=by omega
  have e:=congrArg (λ l=>l[r/8%(1+r%8)]?) h;simp only[vN c]at e;rw[j6 (by rw[lE];exact g),j6 (by rw[lE];exact g)]at e;have e:=dG e;omega
 ·injection h with h1 h2
  have e:=congrArg gB h2;rw[cJ,cJ,lE]at e;omega
 ·have:=JQ ⟨k,i⟩ ⟨k',b⟩ λ t=>by
   have e:((gq (r+k/8)).drop (k%8)++(gq (r+k/8)).take (k%8))[t.1]?=((gq (r+k'/8)).drop (k'%8)++(gq (r+k'/8)).take (k'%8))[t.1]?:=by rw[h]
   rw[DK (fQ _ qQ) t.2,DK (fQ _ qQ) t.2]at e;have e:=dG e;show(k/8+3*((k%8+t.1)%8))%26=(k'/8+3*((k'%8+t.1)%8))%26;omega
  exact congrArg Fin.val this
theorem MC{k k':Nat}(c:k<26)(b:k'<26)(h:cY k=cY k'):k=k':=by
 unfold cY at h;split at h<;>split at h<;>simp at h<;>omega
theorem JC{d e:Nat}(hd:d<10)(b:e<10)(h:d6 d=d6 e):d=e:=by
 unfold d6 at h;split at h<;>split at h<;>omega
theorem ME{C k k':Nat}(o:k<26)(i:k'<26)(h:d_ C k=d_ C k'):k=k':=by
 have h:=Jj h;unfold gU at h;by_cases n:C%4=2
 ·rw[T6 n,T6 n]at h;have e:=congrArg List.dropLast h;rw[rT,rT]at e;have:=Km ⟨(C/4+k)%19,fQ _ qQ⟩ ⟨(C/4+k')%19,fQ _ qQ⟩ e;have:(C/4+k)%19=(C/4+k')%19:=congrArg Fin.val this;have p:=congrArg (λ l=>l.getLast?) h;simp only[rX]at p;have:=JC (fQ _ qQ) (fQ _ qQ) (dG p);omega
 rw[T5 n,T5 n]at h;have j:∀{a b:Nat},a<26->(cf (C%4) (C/4) a).take 1++cY a=cf (C%4) (C/4) b->False:=λ{a b} u e=>by
  obtain⟨c,l,m⟩:=List.exists_cons_of_ne_nil (IZ (k:=a));have q:c∈cf (C%4) (C/4) b:=by rw[<-e,m];simp
  have v:=Kx c q;have x:=DZ (k:=a) (by omega) c (by rw[m];exact dR);omega
 have g:∀a,((cf (C%4) (C/4) a).take 1).length=1:=λ a=>by
  rw[cJ];have:=rY.mpr (CJ (w:=C%4) (r:=C/4) (k:=a));omega
 split at h
 ·split at h
  ·exact MC o i (List.append_inj h (by rw[g,g])).2
  ·exact(j o h).elim
 ·split at h
  ·exact(j i h.symm).elim
  ·exact LD o i h
theorem zY{w k:Nat}:∀c∈cf w r k,c<128:=by
 have e:∀c∈f6 r,c<128:=λ c b=>by
  obtain⟨j,ω,rfl⟩:=bE.mp b;omega
 have g:∀r,∀c∈gq r,c<128:=λ r c b=>by
  obtain⟨j,ω,rfl⟩:=bE.mp b;omega
 intro c b;unfold cf at b;split at b
 ·rcases rW (jX b)with h|h
  ·exact e c h
  ·omega
 ·rcases bH.mp b with h|h
  ·omega
  ·exact e c (jX h)
 ·rcases dy.mp b with h|h
  ·exact g _ c (vE h)
  ·exact g _ c (jX h)
theorem Iz:∀l∈dq,∀c∈l,c<128:=by decide+kernel
theorem J3{C k:Nat}(g:k<26):∀c∈gU C k,c<128:=by
 intro c b;unfold gU at b;split at b
 ·rcases dy.mp b with h|h
  ·rw[c6]at h;cases e:dq[(C/4+k)%19]? with
   |none=>rw[e]at h;cases h
   |some l=>rw[e]at h;exact Iz l (bN e) c h
  ·cases cu.mp h;unfold d6;split<;>omega
 ·split at b
  ·rcases dy.mp b with h|h
   ·exact zY c (jX h)
   ·have:=DZ (k:=k) (by omega) c h;omega
  ·exact zY c b
theorem xm:∀l∈dq,l.length<=8:=by decide+kernel
theorem JT{C k:Nat}:(gU C k).length<=20:=by
 have hr:(cf (C%4) (C/4) k).length<=16:=by
  unfold cf;split
  ·rw[cJ,iW,lE];omega
  ·rw[dv,cJ,lE];omega
  ·rw[bB,gA,cJ,mW];omega
 unfold gU;split
 ·rw[bB,jD,c6];cases e:dq[(C/4+k)%19]? with
  |none=>exact Nat.le_add_left _ _
  |some l=>have:=xm l (bN e);show l.length+1<=20;omega
 ·split
  ·rw[bB,cJ];unfold cY;split<;>simp<;>omega
  ·omega
theorem Kz{C k:Nat}(b:k<26):bC (d_ C k):=by
 unfold bC d_ bR;refine⟨?_,show gB (gU C k)<=100 from cb JT qQ⟩;rw[List.all_toArray,r_];intro c e;have:=J3 b c e;exact T9 (by omega)
def lD(sc:List Int)(k:Nat):Int:=(sc.getD (k%sc.length) 0*(48271+2*(k:Int))+((k:Int)*k+1)*69621)%2147483647
def my(C:Nat):List V2:=(bU 26).map (d_ C)
theorem zE(C:Nat):(my C).length=26:=by unfold my;rw[aA,eU]
theorem xb(C m:Nat)(h:m<=26):((bU m).map (d_ C)).Nodup:=by
 refine List.pairwise_map.mpr ((List.pairwise_lt_range (n:=m)).imp_of_mem ?_);intro x y b c lt e;have b:=eV.mp b;have c:=eV.mp c;have:=ME (by omega) (by omega) e;omega
theorem xV(C m:Nat)(h:m<=26):∀x∈(bU m).map (d_ C),bC x:=λ x b=>by
 obtain⟨j,c,rfl⟩:=bE.mp b;exact Kz (by have:=eV.mp c;omega)
end P23
end
section
namespace K10
abbrev Tx:=List Nat
abbrev BJ:=Except Nat (List Tx)
def pre(ws:List Tx):BJ->BJ
 | .ok r=>.ok (ws++r)
 | .error k=>.error k
open PySem
abbrev gT(x:V2):Tx:=x.cps.toList
theorem mP(x:V2):(gT x).length=x.length:=by simp[gT,Str.length]
theorem wy(x y:V2):gT (x++y)=gT x++gT y:=by
 show(x.cps++y.cps).toList=_;rw[Array.toList_append]
theorem Bx(x:V2){b:Nat}(e:b<=x.length):gT (TZ x none (some (b:Int)))=(gT x).take b:=by
 have h:=StrLaws.sliceText_to (x:=x) (j:=(b:Int)) ⟨qR,by rw[show x.cps.toList.length=x.length from mP x];lia⟩;have c:TZ x none (some (b:Int))=StrLaws.sliceText x none (some (b:Int)):=rfl;rw[c,h];simp[gT]
theorem Bb:∀(ps:List V2)(b:Array Nat),(ps.foldl (λ b p=>b++Str.empty.cps++p.cps) b).toList=b.toList++(ps.map gT).flatten
 |[],b=>by simp
 |p::r,b=>by
  rw[List.foldl_cons,Bb r,eP,jY];simp[gT,Sl]
theorem zQ(ys:List V2):gT (Txt.join "" ys)=(ys.map gT).flatten:=by
 show((ys.drop 1).foldl (λ b p=>b++Str.empty.cps++p.cps) (ys.headD Sl).cps).toList=_;rw[Bb];cases ys with
 |nil=>rfl
 |cons y r=>simp[gT]
end K10
end
section
namespace P23
open PySem P15 PW
def NN:List V2:=[("number":V2),"truth"]
theorem Jf:∀x∈NN,x∈bQ/\∀c∈x.cps.toList,97<=c:=by decide+kernel
theorem HZ{d:Nat}(h:d<10):d6 d<97:=by unfold d6;split<;>lia
theorem KU{C k:Nat}(j:k<26):d_ C k∉NN:=λ m=>by
 obtain⟨e,b⟩:=Jf _ m;have b:∀c∈gU C k,97<=c:=λ c g=>b c (by show c∈(gU C k).toArray.toList;simpa using g);unfold d_ gU at e;unfold gU at b;split at b
 ·have:=b (d6 ((C/4+k/19)%10)) (dY _ dR);have:=HZ (d:=(C/4+k/19)%10) (fQ _ qQ);lia
 ·split at b
  ·have:∃c∈cY k,c<97:=by
    unfold cY;split
    ·exact⟨_,dR,qR⟩
    ·exact⟨_,dR,qR⟩
   obtain⟨c,g,lt⟩:=this;have:=b c (dY _ g);lia
  ·rename_i i h;rw[T5 i,T5 h]at e;exact h e
theorem LV(C m:Nat)(h:m<=26):∀x∈(bU m).map (d_ C),x∉NN:=λ x b=>by
 obtain⟨j,c,rfl⟩:=bE.mp b;exact KU (by have:=eV.mp c;lia)
def b9(up:V2->List V2)(a b:V2):Bool:=decide (a=b\/(a∉NN/\b∉NN/\b∈up a))
def EO(up:V2->List V2)(a b:V2):Option V2:=if a=b then some a else if a∈NN\/b∈NN then none else(a::up a).find? (b9 up b)
def dc(up:V2->List V2)(a b:V2):Bool:=decide (a=b\/b∈up a)
structure dh(rs:List Rw)(up:V2->List V2):Prop where
 ch:∀x∈rs.map Rw.name,aL (da rs) x (up x)/\(up x).length<=12
 no:∀x,x∉rs.map Rw.name->up x=[]
 nn:∀x∈rs.map Rw.name,x∉NN
section
variable{rs:List Rw}{up:V2->List V2}(ok:di rs)(u:dh rs up)
include ok u
theorem FF{a b:V2}(h:b∈up a):a∈rs.map Rw.name/\b∈rs.map Rw.name:=by
 have c:a∈rs.map Rw.name:=by
  by_cases z:a∈rs.map Rw.name
  ·exact z
  ·rw[u.no a z]at h;cases h
 obtain⟨X,e⟩:=aL.look (u.ch a c).1 b (dz _ h);exact⟨c,by rw[<-Eo];exact bE.mpr ⟨X,e.1,e.2⟩⟩
theorem Ie(a b:V2):b9 up a b=dc up a b:=by
 unfold b9 dc;refine decide_eq_decide.mpr ⟨λ h=>h.imp id (λ h=>h.2.2),λ h=>h.imp id (λ h=>?_)⟩;obtain⟨c,e⟩:=FF ok u h;exact⟨u.nn a c,u.nn b e,h⟩
end
end P23
end
section
namespace L2
open PySem PySem.Spec PyProof.Rows
theorem xM{K:X0}{a:V0}{B:TT}{Q:VK}{H:Hp}{D:V0}{ys:List V}{n:St}(C:Option V)(rest:St)(p:V->Bool)(L:n=C::rest)(E:H D=none)(hz:ys.length<=Qj)(M:∀j,af H j->ai K j a ys)(N:∀y∈ys,∀j (G:Bool->Hp->Prop),af H j->(∀h,af j h->G (p y) h)->B (some y::rest) j G)(O:∀H',af H H'->H' D=some (.lst (ys.filter p))->Q (.ref D) H'):gr (je K a) (fg 0) B (iJ 0) D Q n (ag H D (.lst [])):=by
 refine⟨λ i m q H'=>m=ys.length-i/\i<=ys.length/\(∃v,q=v::rest)/\af H H'/\H' D=some (.lst ((ys.take i).filter p)),⟨ys.length,by simp,bJ _,⟨C,L⟩,bM E _,aG⟩,?_⟩;rintro i m q H' ⟨rfl,T,⟨v,rfl⟩,r,w⟩;have z:=M H' r;by_cases g:i<ys.length
 ·refine .inr ⟨⟨ys,ys[i],z,aV g⟩,λ u h=>(∃v,u=v::rest)/\af H h/\h D=some (.lst ((ys.take (i+1)).filter p)),λ u h ⟨a,b,c⟩=>⟨ys.length-(i+1),qR,rfl,g,a,b,c⟩,λ x h P=>?_⟩;obtain⟨R,S⟩:=P;subst R;have ex:=S ys z;rw[aV g]at ex;cases ex;unfold fg;rw[nG];refine N _ (gQ g) h _ r λ U A=>?_;have I:=A _ _ w;rw[lT g,vI];cases e:p ys[i]with
  |true=>
   rw[T6 rfl];refine⟨_,I,?_,⟨_,rfl⟩,λ b o J=>?_,?_⟩
   ·have:=vJ p (ys.take i);rw[cJ]at this;lia
   ·rw[aD (bS J E)];exact A _ _ (r _ _ J)
   ·rw[aG,List.filter_cons,e];rfl
  |false=>
   rw[T5 qQ];refine⟨⟨_,rfl⟩,r.trans A,?_⟩;rw[I,List.filter_cons,e];simp
 ·have e:i=ys.length:=by lia
  subst e;rw[r6]at w;exact .inl ⟨⟨ys,z,aS _⟩,O H' r w⟩
end L2
namespace L2
open PySem PySem.Spec PyProof.Rows
theorem xr{K:X0}{a:V0}{I:TT}{Q:VK}{H:Hp}{D:V0}{ys:List V}{r:St}(J:Option V)(rest:St)(p:Nat->Bool)(T:r=J::rest)(L:H D=none)(hz:ys.length<=Qj)(U:∀q,af H q->ai K q a ys)(X:∀i y,ys[i]?=some y->∀q (M:Bool->Hp->Prop),af H q->(∀n,af q n->M (p i) n)->I (some y::rest) q M)(Y:∀g H',af H H'->H' D=some (.lst g)->(g=[]->∀i,i<ys.length->p i=false)->((∀i,i<ys.length->p i=false)->g=[])->Q (.ref D) H'):gr (je K a) (fg 0) I (iJ 0) D Q r (ag H D (.lst [])):=by
 refine⟨λ i m u H'=>m=ys.length-i/\i<=ys.length/\(∃v,u=v::rest)/\af H H'/\∃g,H' D=some (.lst g)/\g.length<=i/\(g=[]->∀j,j<i->p j=false)/\((∀j,j<i->p j=false)->g=[]),⟨ys.length,by simp,bJ _,⟨J,T⟩,bM L _,[],aG,aS _,λ ω j h=>T7 h (nE _),λ ω=>rfl⟩,?_⟩;rintro i m u H' ⟨rfl,hi,⟨v,rfl⟩,w,g,N,C,O,P⟩;have E:=U H' w;by_cases A:i<ys.length
 ·refine .inr ⟨⟨ys,ys[i],E,aV A⟩,λ B n=>(∃v,B=v::rest)/\af H n/\∃g,n D=some (.lst g)/\g.length<=i+1/\(g=[]->∀j,j<i+1->p j=false)/\((∀j,j<i+1->p j=false)->g=[]),λ B n ⟨a,b,c⟩=>⟨ys.length-(i+1),qR,rfl,A,a,b,c⟩,λ x n Z=>?_⟩;obtain⟨e1,e2⟩:=Z;subst e1;have ex:=e2 ys E;unfold fg;rw[nG];refine X i x ex n _ w λ H3 G=>?_;have R:=G _ _ N;cases e:p i with
  |true=>
   rw[T6 rfl];refine⟨_,R,qR,⟨_,rfl⟩,λ b o S=>?_,_,aG,by rw[bB];exact rS C,λ z=>T7 z s!"n",λ h=>?_⟩
   ·rw[aD (bS S L)];exact G _ _ (w _ _ S)
   ·rw[h i (jl _)]at e;cases e
  |false=>
   rw[T5 qQ];refine⟨⟨_,rfl⟩,w.trans G,g,R,qR,λ z j hj=>?_,λ h=>P λ j hj=>h j qR⟩;by_cases ej:j=i
   ·rw[ej];exact e
   ·exact O z j qR
 ·have e:i=ys.length:=by lia
  subst e;exact .inl ⟨⟨ys,E,aS _⟩,Y g H' w N O P⟩
end L2
end
section
namespace P23
open PySem P15
open PW (Wd Hs Pg gv Look aL lG cm oq)
def aJ(ps:List (V2×V2)):List V2:=ps.map Prod.snd
def eW(up:V2->List V2)(ks ws:List V2):Bool:=decide (ks.length=ws.length)&&(ks.zip ws).all λ p=>b9 up p.1 p.2
def ni(G:Pg)(up:V2->List V2)(x:V2):Prop:=x∉NN->aL G x (up x)/\(up x).length<=100
inductive fc(G:Pg)(up:V2->List V2)(hn:Option V2)(bd:List (V2×V2)):Tm->List V2->V2 ⊕ V2->Prop
 |num{i:Int}:fc G up hn bd (.mk .number (.int i) []) [] (.inr "number")
 |name{x k:V2}:(x,k)∈bd->fc G up hn bd (.mk .name (.str x) []) [] (.inr k)
 |self{h:V2}:hn=some h->fc G up hn bd (.mk .self .non []) [] (.inr h)
 |nt{p:Tm}{k:V2}:k≠"truth"->bC k->fc G up hn bd (.mk .nt .non [p]) [k] (.inl "not")
 |call{w h hh:V2}{ps:List Tm}{ks es:List V2}{i:Nat}{d:Wd}:h∉NN->aL G h es->es.length<=100->FO G w (h::es) (some (hh,i,d))->d.params.length<=100->w.length<=1000->ks.length<=100->(∀x∈ks,ni G up x)->
  fc G up hn bd (.mk .call (.str w) ps) (h::ks) (if eW up ks (aJ d.params)=true then .inr d.kind else .inl w)
def jb(G:Pg)(up:V2->List V2)(hn:Option V2)(bd:List (V2×V2)):Nat->Tm->V2 ⊕ List V2->Prop
 |0,_,_=>False
 |n+1,t,r=>∃b:List (V2×List V2),b.length=t.ps.length/\(∀(i:Nat)(p:Tm)(l:V2×List V2),t.ps[i]?=some p->b[i]?=some l->jb G up hn bd n p (.inr (l.1::l.2)))/\t.ps.length<=100/\(∀l∈b,l.2.length<=100)/\
  ∃o,fc G up hn bd t (b.map Prod.fst) o/\r=o.elim .inl λ k=>.inr (k::(b.map λ l=>l.1::l.2).flatten)
inductive iT(G:Pg)(up:V2->List V2)(hn:Option V2)(d:Wd):V2 ⊕ List V2->Prop
 |bad{x:V2}:jb G up hn d.params 2 d.body (.inl x)->iT G up hn d (.inl x)
 |ok{k:V2}{ks:List V2}:jb G up hn d.params 2 d.body (.inr (k::ks))->ni G up k->d.name.length<=1000->iT G up hn d (if b9 up k d.kind=true then .inr (k::ks)else .inl d.name)
inductive jc(G:Pg)(up:V2->List V2)(X:Hs)(d:Wd):Bool->Prop
 |top:X.elder=none->jc G up X d true
 |non{e:V2}{es:List V2}:X.elder=some e->aL G e es->es.length<=100->FO G d.name (e::es) none->jc G up X d true
 |som{e h:V2}{es:List V2}{i:Nat}{g:Wd}:X.elder=some e->aL G e es->es.length<=100->FO G d.name (e::es) (some (h,i,g))->g.params.length<=100->d.params.length<=100->(∀x∈aJ g.params,bC x)->(∀x∈aJ d.params,bC x)->ni G up d.kind->jc G up X d (decide (aJ g.params=aJ d.params)&&b9 up d.kind g.kind)
inductive ou(G:Pg)(up:V2->List V2)(X:Hs)(d:Wd):V2 ⊕ List V2->Prop
 |bad:jc G up X d false->d.name.length<=1000->ou G up X d (.inl d.name)
 |ok{r:V2 ⊕ List V2}:jc G up X d true->iT G up (some X.name) d r->ou G up X d r
inductive eK(G:Pg)(up:V2->List V2)(X:Hs):List Wd->List (List V2)->V2 ⊕ List (List V2)->Prop
 |nil{ks:List (List V2)}:eK G up X [] ks (.inr ks)
 |bad{d:Wd}{ds:List Wd}{ks:List (List V2)}{x:V2}:ou G up X d (.inl x)->eK G up X (d::ds) ks (.inl x)
 |ok{d:Wd}{ds:List Wd}{ks:List (List V2)}{k:List V2}{r:V2 ⊕ List (List V2)}:ou G up X d (.inr k)->eK G up X ds (ks++[k]) r->eK G up X (d::ds) ks r
inductive d9(G:Pg)(up:V2->List V2):List Hs->List (List V2)->V2 ⊕ List (List V2)->Prop
 |nil{ks:List (List V2)}:d9 G up [] ks (.inr ks)
 |bad{X:Hs}{Xs:List Hs}{ks:List (List V2)}{x:V2}:eK G up X X.words ks (.inl x)->d9 G up (X::Xs) ks (.inl x)
 |ok{X:Hs}{Xs:List Hs}{ks ks':List (List V2)}{r:V2 ⊕ List (List V2)}:eK G up X X.words ks (.inr ks')->d9 G up Xs ks' r->d9 G up (X::Xs) ks r
abbrev Hd:=V2×List (V2×V2)×V2
def c8(i:Int):Tm:=.mk .number (.int i) []
def yA(x:V2):Tm:=.mk .name (.str x) []
def cq:Tm:=.mk .self .non []
def args(h:Hd):List Tm:=h.2.1.map λ p=>yA p.1
def gs(h:Hd)(way:Int):Tm:=
 if way=1 then .mk .nt .non [c8 3]
 else if way=2 then .mk .call (.str h.1) (cq::(args h++[c8 1]))
 else if way=3 then c8 3
 else .mk .call (.str h.1) (cq::args h)
def fG(h:Hd)(way:Int):Wd:=⟨h.1,h.2.1,h.2.2,gs h way⟩
def cR(odd:Nat->Int):Nat->List Hd->List Wd
 |_,[]=>[]
 |n,h::b=>fG h (odd n)::cR odd (n+1) b
def cT(odd:Nat->Int)(n:Nat)(r:Rw):Hs:=⟨r.name,r.elder,r.fields,cR odd n r.heads⟩
def dZ(odd:Nat->Int):Nat->List Rw->List Hs
 |_,[]=>[]
 |n,r::b=>cT odd n r::dZ odd (n+r.heads.length) b
def bw(odd:Nat->Int)(rs:List Rw):Pg:=⟨dZ odd 0 rs,⟨"main",[],"number",c8 0⟩⟩
def js(rs:List Rw)(w x:V2):Option Hd:=rs.findSome? λ r=>r.heads.findSome? λ h=>if r.name=x/\h.1=w then some h else none
def dM(rs:List Rw)(w:V2)(ls:List V2):Option Hd:=ls.findSome? (js rs w)
def mx(rs:List Rw)(up:V2->List V2)(r:Rw)(w:V2):Option Hd:=r.elder.bind λ e=>dM rs w (e::up e)
def iY(rs:List Rw)(up:V2->List V2)(r:Rw)(h:Hd):Bool:=match mx rs up r h.1 with
 |none=>true
 |some g=>decide (aJ h.2.1=aJ g.2.1)&&dc up h.2.2 g.2.2
def fC(rs:List Rw)(up:V2->List V2)(r:Rw)(h:Hd)(way:Int):V2 ⊕ List V2:=
 if iY rs up r h=false then .inl h.1
 else if way=1 then .inl "not"
 else if way=2\/(way=3/\h.2.2≠"number")then .inl h.1
 else if way=3 then .inr ["number"]else .inr (h.2.2::r.name::aJ h.2.1)
def de(rs:List Rw)(up:V2->List V2)(odd:Nat->Int)(r:Rw):List Hd->List (List V2)->V2 ⊕ List (List V2)
 |[],b=>.inr b
 |h::c,b=>(fC rs up r h (odd b.length)).elim .inl λ k=>de rs up odd r c (b++[k])
def df(rs:List Rw)(up:V2->List V2)(odd:Nat->Int):List Rw->List (List V2)->V2 ⊕ List (List V2)
 |[],b=>.inr b
 |r::c,b=>(de rs up odd r r.heads b).elim .inl λ b=>df rs up odd c b
def mj(rs:List Rw)(up:V2->List V2)(odd:Nat->Int):V2 ⊕ List (List V2):=(df rs up odd rs []).elim .inl λ b=>.inr (b++[[("number":V2)]])
theorem xK(odd:Nat->Int)(hs:List Hd):∀n,(cR odd n hs).map Wd.name=hs.map Prod.fst:=by
 induction hs with
 |nil=>intro n;rfl
 |cons h hs b=>intro n;exact congrArg (h.1::·) (b (n+1))
theorem xG(odd:Nat->Int)(b:List Rw):∀n,(dZ odd n b).map Hs.name=b.map Rw.name:=by
 induction b with
 |nil=>intro n;rfl
 |cons r b c=>intro n;exact congrArg (r.name::·) (c _)
theorem sP(odd:Nat->Int)(hs:List Hd):∀n (i:Nat),(cR odd n hs)[i]?=hs[i]?.map λ h=>fG h (odd (n+i)):=by
 induction hs with
 |nil=>intro n i;rfl
 |cons h hs b=>
  intro n i;cases i with
  |zero=>rfl
  |succ i=>show(cR odd (n+1) hs)[i]?=_;rw[b];show _=hs[i]?.map _;congr 2;funext h;congr 2;lia
open WK
structure vj(ns:List V2)(h:Hd):Prop where
 le:h.2.1.length<=4
 nd:(h.2.1.map Prod.fst).Nodup
 so:bC h.1
 kd:bX ns h.2.2
 ps:∀p∈h.2.1,bC p.1/\bX ns p.2
structure eO(ns:List V2)(r r':Rw):Prop where
 nm:r'.name=r.name
 el:r'.elder=r.elder
 fs:r'.fields=r.fields
 le:r'.heads.length<=4
 nd:(r'.heads.map Prod.fst).Nodup
 hd:∀h∈r'.heads,vj ns h
theorem xF{ns:List V2}{c b:List Rw}(h:A2 (eO ns) c b):b.map Rw.name=c.map Rw.name:=by
 induction h with
 |nil=>rfl
 |cons a _ e=>exact(congrArg (·::_) a.nm).trans (congrArg (_::·) e)
theorem xQ{G j:Pg}(h:∀X∈G.houses,∃Y∈j.houses,Y.name=X.name/\Y.elder=X.elder){x:V2}{es:List V2}(c:aL G x es):aL j x es:=by
 induction c with
 |top l e=>
  obtain⟨Y,b,g,i⟩:=h _ l.1;exact .top ⟨b,g.trans l.2⟩ (i.trans e)
 |up l e _ m=>
  obtain⟨Y,b,g,i⟩:=h _ l.1;exact .up ⟨b,g.trans l.2⟩ (i.trans e) m
theorem A6{ns:List V2}{e b:List Rw}(h:A2 (eO ns) e b):∀X∈(da e).houses,∃Y∈(da b).houses,Y.name=X.name/\Y.elder=X.elder:=λ X g=>by
 obtain⟨r,hr,rfl⟩:=bE.mp g;obtain⟨i,j⟩:=eS hr;obtain⟨m,c,l⟩:=h.at j;exact⟨jq m,iF (bN c),l.nm,l.el⟩
theorem xl{c:List Rw}{w:V2}{ls:List V2}{g:Hd}(h:dM c w ls=some g):∃r∈c,g∈r.heads:=by
 obtain⟨x,ω,i⟩:=vD h;obtain⟨r,hr,b⟩:=vD i;obtain⟨m,j,e⟩:=vD b;split at e
 ·cases e;exact⟨r,hr,j⟩
 ·cases e
theorem Ji{ns:List V2}{i c:List Rw}{up:V2->List V2}(h:A2 (eO ns) i c)(u:dh i up):dh c up:=by
 have e:=xF h;refine⟨λ x g=>?_,λ x g=>u.no x (by rw[<-e];exact g),λ x g=>u.nn x (by rw[<-e];exact g)⟩;obtain⟨a,b⟩:=u.ch x (by rw[<-e];exact g);exact⟨xQ (A6 h) a,b⟩
end P23
end
section
namespace L2
open PySem PySem.Spec PyProof.Rows PySem.SeqAt
structure Lay(k:Nat)(d:PyData):Prop where
 lay:d.canLay0=true
 dep:d.depth<=k
structure dF(k:Nat)(ds:List PyData):Prop where
 lay:PyData.canLayAll0 ds=true
 dep:PyData.depthAll ds<=k
theorem Lay.int{k:Nat}{i:Int}:Lay k (.int i):=⟨rfl,bJ _⟩
theorem Lay.mono{k b:Nat}{d:PyData}(h:Lay k d)(l:k<=b):Lay b d:=⟨h.lay,cb h.dep l⟩
theorem dF.nil{k:Nat}:dF k []:=⟨rfl,bJ _⟩
theorem dF.cons{k:Nat}{d:PyData}{b:List PyData}(h:Lay k d)(hs:dF k b):dF k (d::b):=⟨by rw[PyData.canLayAll0,h.lay,hs.lay];rfl,by rw[PyData.depthAll];exact Nat.max_le.mpr ⟨h.dep,hs.dep⟩⟩
theorem Lay.tup{k:Nat}{b:List PyData}(h:dF k b):Lay (k+1) (.tuple b):=⟨by rw[PyData.canLay0];exact h.lay,by rw[PyData.depth];exact rS h.dep⟩
theorem Lay.lst{k:Nat}{b:List PyData}(h:dF k b):Lay (k+1) (.list b):=⟨by rw[PyData.canLay0];exact h.lay,by rw[PyData.depth];exact rS h.dep⟩
theorem Lay.shaped{k:Nat}{d:PyData}(h:Lay k d)(b:k<=64):PySem.SeqAt.shaped d=true:=vC.mpr ⟨h.lay,T9 (cb h.dep b)⟩
theorem Lay.eqv{k:Nat}{d:PyData}(h:Lay k d):RG d d=true:=eqv_refl d h.lay
theorem Lay.str{k:Nat}{x:V2}(h:P23.bC x):Lay k (.str x):=⟨by rw[PyData.canLay0];exact h.1,bJ _⟩
theorem Lay.non{k:Nat}:Lay k .none:=⟨rfl,bJ _⟩
theorem dF.of{k:Nat}:∀{b:List PyData},(∀d∈b,Lay k d)->dF k b
 |[],_=>.nil
 |d::b,h=>.cons (h d dR) (dF.of λ e c=>h e (dz _ c))
open PySem.XF PySem.XO
def C9(sp:Sp)(E:St->XK)(t:TA):TE:=λ b H Q=>t b H λ vs c=>sp (vs++[]) c Q (E b)
theorem Px{sp:Sp}{E:St->XK}{t:TA}{b:St}{H:Hp}{Q:VK}:C9 sp E t b H Q=t b H λ vs c=>sp (vs++[]) c Q (E b):=rfl
section
variable{X:Cx}{CX:iA}{k:Nat}{f:V0}{fd:Q_}{ps:List V2}{sp:Sp}{x:V2}{p pos:Pos}{e:Expr}{es:List Expr}{t:TA}
theorem Iu{c:List (V0×Obj)}{i:St}{H:Hp}{s:M1}{Q:VK}{us:List V1}{vs:List V}{E:XK}(F:cj X.prog X.w X.K X.mg X.base CX k f fd ps sp)(hr:aP k X.A)(m:Binds X.K fd ps [])(n:∀e g,CX X.stack H s E e g->X.xe e g)(I:Inv X c i H s)(r:ax vs us)(h:sp (vs++[]) H Q E):Qm s!"c" X.A (call (.ref f) us) (EP X c i Q) X.xe s:=by
 have j:ax (vs++[]) (us++[]):=r.append .nil;have o:(us++[]).length=ps.length:=by rw[<-j.length];exact F.len _ _ _ _ h
 refine RD (Rn (F.run X.A X.stack s H ⟨us,[]⟩ (us++[]) (vs++[]) Q E hr I.env0 (m s us I.kIn o) j h) λ z g b=>?_);match z,b with
 | .error e,b=>exact n e g b
 | .ok (.ret u),b=>exact I.after b
 | .ok .next,b=>exact b.elim
 | .ok .brk,b=>exact b.elim
 | .ok .cont,b=>exact b.elim
theorem zw{E:St->XK}(F:cj X.prog X.w X.K X.mg X.base (jB X.prog X.w) k f fd ps sp)(hr:aP k X.A)(m:Gl X x)(n:X.mg x=some (.ref f))(o:QR X.K (.ref f)=true)(u:Binds X.K fd ps [])(v:PA (X.wish (bp X E)) (e::es) t)(g:s!"p"=false:=by decide)(w:Ql (e::es) X.env=(false,QA e X.env)::Ql es X.env:=by rfl)(i:(QF pos (Ql es X.env)).any (·.1)=false:=by rfl):PE (X.wish (bp X E)) (.Call (.Name x p) (e::es) [] pos) (C9 sp E t):=by
 intro b s y H Q I h;refine QK (mM I m n ?_ g);refine SH (h₀:=X.base) I.ok.mod.kin o (aM (v pos b s y H _ I h) λ us z ⟨vs,A,j,r,q⟩=>⟨j.kIn,?_⟩) w i;exact Iu (X:=X.wish (bp X E)) (CX:=jB X.prog X.w) F hr u (λ e B c=>AJ j.unwish c λ ω ω ω q=>q) j r q
end
end L2
end
section
namespace P23
open PySem P15 WK
open PW (Wd Hs Pg gv Look aL lG cm oq)
theorem IT{rs rs':List Rw}(ok:di rs)(h:A2 (eO (rs.map Rw.name)) rs rs'):di rs':=by
 have e:=xF h;have l:=h.len;have A:∀x∈rs.map Rw.name,bC x:=λ x g=>by
  obtain⟨r,hr,rfl⟩:=bE.mp g;exact(ok.so r hr).1
 have m:∀r'∈rs',∃r∈rs,eO (rs.map Rw.name) r r':=λ r' hr=>by
  obtain⟨i,q⟩:=eS hr;obtain⟨r,c,b⟩:=h.to q;exact⟨r,bN c,b⟩
 refine⟨by rw[e];exact ok.nd,by rw[<-l];exact ok.l1,by rw[<-l];exact ok.l12,?_,λ r' hr=>?_,λ r' hr=>?_,λ r' hr=>?_,λ r' hr=>?_,?_⟩
 ·obtain⟨C,up⟩:=ok.up;refine⟨C,λ j r' x v w=>?_⟩;obtain⟨r,c,b⟩:=h.to v;obtain⟨D,i,B,E,G,H⟩:=up j r x c (b.el▸w);obtain⟨n,y,z⟩:=h.at E;exact⟨D,i,n,y,z.nm.trans G,H⟩
 ·obtain⟨r,c,b⟩:=m r' hr;exact⟨b.fs▸(ok.sm r c).1,cb b.le qQ,λ x g=>(b.hd x g).le⟩
 ·obtain⟨r,c,b⟩:=m r' hr;exact⟨b.nm▸(ok.so r c).1,b.fs▸(ok.so r c).2.1,λ x g=>⟨(b.hd x g).so,(b.hd x g).kd.sok A,λ p o=>⟨((b.hd x g).ps p o).1,((b.hd x g).ps p o).2.sok A⟩⟩⟩
 ·obtain⟨r,c,b⟩:=m r' hr;rw[e];exact⟨b.fs▸(ok.kd r c).1,λ x g=>⟨(b.hd x g).kd,λ p o=>((b.hd x g).ps p o).2⟩⟩
 ·obtain⟨r,c,b⟩:=m r' hr;exact⟨b.fs▸(ok.dn r c).1,b.nd,λ x g=>(b.hd x g).nd⟩
 ·obtain⟨I,J⟩:=ok.fx;refine⟨I,λ j r' v=>?_⟩;obtain⟨r,c,b⟩:=h.to v;obtain⟨K,L⟩:=J j r c;refine⟨b.fs▸K,λ i n q w=>?_⟩;obtain⟨B,y,z⟩:=h.to q;rw[b.fs];exact L i B y (by rw[<-b.el,w,z.nm])
theorem Js{rs:List Rw}(ok:di rs):di (rs.map ff):=by
 have e:(rs.map ff).map Rw.name=rs.map Rw.name:=by rw[dH];rfl
 refine⟨by rw[e];exact ok.nd,by rw[aA];exact ok.l1,by rw[aA];exact ok.l12,⟨λ ω=>0,λ j r x b g=>?_⟩,λ c hr=>?_,λ c hr=>?_,λ c hr=>?_,λ c hr=>?_,⟨λ j=>(rs[j]?.map λ r=>r.fields.map Prod.fst).getD [],λ j r b=>?_⟩⟩
 ·rw[a_]at b;obtain⟨ω,ω,rfl⟩:=c_.mp b;cases g
 ·obtain⟨r,h,rfl⟩:=bE.mp hr;exact ok.sm r h
 ·obtain⟨r,h,rfl⟩:=bE.mp hr;exact ok.so r h
 ·obtain⟨r,h,rfl⟩:=bE.mp hr;rw[e];exact ok.kd r h
 ·obtain⟨r,h,rfl⟩:=bE.mp hr;exact ok.dn r h
 ·rw[a_]at b;obtain⟨r,h,rfl⟩:=c_.mp b;refine⟨λ f m=>?_,λ i n ω z=>by cases z⟩;show f.1∈(rs[j]?.map λ r=>r.fields.map Prod.fst).getD [];rw[h];exact iF m
theorem JW{rs:List Rw}(b:∀x∈rs.map Rw.name,x∉NN):dh (rs.map ff) λ ω=>[]:=by
 have e:(rs.map ff).map Rw.name=rs.map Rw.name:=by rw[dH];rfl
 refine⟨λ x c=>?_,λ ω ω=>rfl,by rw[e];exact b⟩;obtain⟨r,hr,rfl⟩:=bE.mp c;obtain⟨g,ω,rfl⟩:=bE.mp hr;exact⟨.top (xg hr) rfl,bJ _⟩
theorem uX{rs:List Rw}(ok:di rs):∀r∈rs,∀e,r.elder=some e->e∈rs.map Rw.name:=λ r hr e b=>by
 obtain⟨h,up⟩:=ok.up;obtain⟨j,c⟩:=eS hr;obtain⟨ω,i,m,g,rfl,ω⟩:=up j r e c b;exact iF (bN g)
theorem Dp(odd:Nat->Int)(rs:List Rw):∀n (i:Nat) r,rs[i]?=some r->∃m,(dZ odd n rs)[i]?=some (cT odd m r):=by
 induction rs with
 |nil=>intro n i r h;cases h
 |cons q rs b=>
  intro n i r h;cases i with
  |zero=>cases h;exact⟨n,rfl⟩
  |succ i=>exact b (n+q.heads.length) i r h
theorem Em(odd:Nat->Int)(rs:List Rw)(n:Nat):(dZ odd n rs).length=rs.length:=by rw[<-aA (f:=Hs.name),xG,aA]
theorem sS(odd:Nat->Int)(hs:List Hd)(n:Nat):(cR odd n hs).length=hs.length:=by rw[<-aA (f:=Wd.name),xK,aA]
variable{odd:Nat->Int}
theorem yN{rs:List Rw}{X:Hs}(h:X∈(bw odd rs).houses):∃r∈rs,∃m,X=cT odd m r:=by
 obtain⟨i,b⟩:=eS h;have l:=(bG.mp b).1;have:i<rs.length:=by have:=Em odd rs 0;show i<_;rw[<-this];exact l
 obtain⟨m,c⟩:=Dp odd rs 0 i _ (aV this);exact⟨_,gQ this,m,dG (b.symm.trans c)⟩
variable{n:Nat}
theorem GZ{hs:List Hd}{d:Wd}(h:d∈cR odd n hs):∃x∈hs,∃way,d=fG x way:=by
 obtain⟨i,b⟩:=eS h;rw[sP]at b;obtain⟨x,c,rfl⟩:=c_.mp b;exact⟨x,bN c,_,rfl⟩
theorem B8{rs:List Rw}{r:Rw}(h:r∈rs):∃m,Look (bw odd rs) r.name (cT odd m r):=by
 obtain⟨i,b⟩:=eS h;obtain⟨m,c⟩:=Dp odd rs 0 i r b;exact⟨m,bN c,rfl⟩
theorem yL{rs:List Rw}{up:V2->List V2}(u:dh rs up){x:V2}(h:x∈rs.map Rw.name):aL (bw odd rs) x (up x)/\(up x).length<=100:=by
 obtain⟨a,b⟩:=u.ch x h;refine⟨xQ (λ X c=>?_) a,qR⟩;obtain⟨r,hr,rfl⟩:=bE.mp c;obtain⟨m,l⟩:=B8 (odd:=odd) hr;exact⟨_,l.1,rfl,rfl⟩
theorem l_{rs:List Rw}{up:V2->List V2}(u:dh rs up){x:V2}(h:bX (rs.map Rw.name) x):ni (bw odd rs) up x:=λ b=>by
 refine yL u ?_;rcases(dy.mp h)with h|h
 ·rcases dy.mp h with h|h
  ·exact T7 h b
  ·exact h
 ·exact h
theorem AH:∀{hs:List Hd}{w:V2}{i:Nat},gR (hs.map Prod.fst) w=some i->∃h,hs[i]?=some h/\hs.findSome? (λ h=>if h.1=w then some h else none)=some h
 |[],_,_,e=>by cases e
 |h::hs,w,i,e=>by
  have e:(if h.1=w then some 0 else(gR (hs.map Prod.fst) w).map (·+1))=some i:=e;by_cases q:h.1=w
  ·rw[T6 q]at e;cases e;exact⟨h,rfl,by rw[lR,T6 q]⟩
  ·rw[T5 q]at e;obtain⟨j,b,rfl⟩:=c_.mp e;obtain⟨g,c,m⟩:=AH b;exact⟨g,c,by rw[lR,T5 q];exact m⟩
theorem Eh:∀{hs:List Hd}{w:V2},gR (hs.map Prod.fst) w=none->hs.findSome? (λ h=>if h.1=w then some h else none)=none
 |[],_,_=>rfl
 |h::hs,w,e=>by
  have e:(if h.1=w then some 0 else(gR (hs.map Prod.fst) w).map (·+1))=none:=e;by_cases q:h.1=w
  ·rw[T6 q]at e;cases e
  ·rw[T5 q]at e;rw[lR,T5 q];exact Eh (Option.map_eq_none_iff.mp e)
theorem zm:∀{rs:List Rw}{r:Rw}{w:V2},(rs.map Rw.name).Nodup->r∈rs->js rs w r.name=r.heads.findSome? (λ h=>if h.1=w then some h else none)
 |q::rs,r,w,c,h=>by
  have c:q.name∉rs.map Rw.name/\(rs.map Rw.name).Nodup:=lX.mp c;have j:∀b:Rw,b.name≠r.name->(b.heads.findSome? λ h=>if b.name=r.name/\h.1=w then some h else none)=none:=λ b n=>List.findSome?_eq_none_iff.mpr λ x ω=>T5 λ z=>n z.1;unfold js;rw[lR];by_cases e:q.name=r.name
  ·have:q=r:=by
    rcases bH.mp h with z|z
    ·exact z.symm
    ·exact T7 (e▸iF z) c.1
   subst this;have m:(λ h:Hd=>if q.name=q.name/\h.1=w then some h else none)=λ h=>if h.1=w then some h else none:=by
    funext h;by_cases z:h.1=w
    ·rw[T6 z,T6 ⟨rfl,z⟩]
    ·rw[T5 z,T5 λ y=>z y.2]
   rw[m];cases o:q.heads.findSome? λ h=>if h.1=w then some h else none with
   |some g=>rfl
   |none=>
    show rs.findSome? _=none;refine List.findSome?_eq_none_iff.mpr λ b i=>j b λ z=>c.1 (z▸iF i)
  ·rw[j q e];refine zm c.2 ?_;rcases bH.mp h with z|z
   ·exact T7 (congrArg Rw.name z.symm) e
   ·exact z
theorem Cc{odd:Nat->Int}{rs:List Rw}(p:(rs.map Rw.name).Nodup)(w:V2):∀{ls:List V2},(∀x∈ls,x∈rs.map Rw.name)->(dM rs w ls=none/\FO (bw odd rs) w ls none)\/∃g x i c,dM rs w ls=some g/\FO (bw odd rs) w ls (some (x,i,fG g c))
 |[],_=>.inl ⟨rfl,.nil⟩
 |x::ls,h=>by
  obtain⟨r,hr,rfl⟩:=bE.mp (h x dR);obtain⟨m,n⟩:=B8 (odd:=odd) hr;have e:=zm (w:=w) p hr;have o:(cT odd m r).words.map Wd.name=r.heads.map Prod.fst:=xK odd r.heads m;cases j:gR (r.heads.map Prod.fst) w with
  |some i=>
   obtain⟨g,v,z⟩:=AH j;refine .inr ⟨g,_,i,odd (m+i),?_,.here n (by rw[o];exact j) ?_⟩
   ·unfold dM;rw[lR,e,z]
   ·show(cR odd m r.heads)[i]?=_;rw[sP,v];rfl
  |none=>
   have q:dM rs w (r.name::ls)=dM rs w ls:=by unfold dM;rw[lR,e,Eh j]
   rcases Cc (odd:=odd) p w λ y A=>h y (dz _ A)with⟨a,b⟩|⟨g,x,i,c,a,b⟩
   ·exact .inl ⟨q.trans a,.there n (by rw[o];exact j) b⟩
   ·exact .inr ⟨g,x,i,c,q.trans a,.there n (by rw[o];exact j) b⟩
variable{m:Nat}
theorem HU{rs:List Rw}{r:Rw}{h:Hd}{i:Nat}{ls:List V2}(b:Look (bw odd rs) r.name (cT odd m r))(c:(r.heads.map Prod.fst).Nodup)(hi:r.heads[i]?=some h):FO (bw odd rs) h.1 (r.name::ls) (some (r.name,i,fG h (odd (m+i)))):=by
 have e:(cT odd m r).words.map Wd.name=r.heads.map Prod.fst:=xK odd r.heads m;obtain⟨j,g,n⟩:=qT (iF (f:=Prod.fst) (bN hi));have:j=i:=f7 c n.1 (by rw[a_,hi];rfl);subst this;refine .here b (by rw[e];exact g) ?_;show(cR odd m r.heads)[j]?=_;rw[sP,hi];rfl
theorem JU{rs:List Rw}{up:V2->List V2}(u:dh rs up){e:V2}(c:e∈rs.map Rw.name):∀x∈e::up e,x∈rs.map Rw.name:=λ x g=>by
 obtain⟨X,b⟩:=aL.look (u.ch e c).1 x g;rw[<-Eo];exact bE.mpr ⟨X,b.1,b.2⟩
theorem uU:("number":V2)∈NN:=by decide
theorem Ej{rs:List Rw}{up:V2->List V2}{r:Rw}{hs:List Hd}:∀{ks ks':List (List V2)},de rs up odd r hs ks=.inr ks'->ks'.length=ks.length+hs.length:=by
 induction hs with
 |nil=>intro ks ks' e;cases e;rfl
 |cons h hs c=>
  intro ks ks' e;have e:(fC rs up r h (odd ks.length)).elim .inl (λ k=>de rs up odd r hs (ks++[k]))=.inr ks':=e;cases b:fC rs up r h (odd ks.length)with
  |inl x=>rw[b]at e;cases e
  |inr k=>
   rw[b]at e;have:=c (ks:=ks++[k]) e;rw[bB,jD]at this;rw[dv,this];lia
section
variable{odd:Nat->Int}{rs:List Rw}{up:V2->List V2}(ok:di rs)(u:dh rs up)
include ok u
theorem FG{r:Rw}(hr:r∈rs){h:Hd}(j:h∈r.heads)(m:Nat)(c:Int):jc (bw odd rs) up (cT odd m r) (fG h c) (iY rs up r h):=by
 have C:=(ok.kd r hr).2 h j;have sok:∀r∈rs,∀h∈r.heads,∀x∈aJ h.2.1,bC x:=λ r hr h j x D=>by
  obtain⟨p,E,rfl⟩:=bE.mp D;exact(((ok.so r hr).2.2 h j).2.2 p E).2
 unfold iY mx;cases w:r.elder with
 |none=>exact .top w
 |some e=>
  have n:=uX ok r hr e w;obtain⟨y,A⟩:=yL (odd:=odd) u n;rcases Cc (odd:=odd) ok.nd h.1 (JU u n)with⟨a,b⟩|⟨g,x,i,o,a,b⟩
  ·show jc _ _ _ _ (match dM rs h.1 (e::up e)with|none=>true|some g=>_);rw[a];exact .non w y A b
  ·show jc _ _ _ _ (match dM rs h.1 (e::up e)with|none=>true|some g=>_);rw[a];obtain⟨B,q,v⟩:=xl a;have H:=(ok.sm r hr).2.2 h j;have I:=(ok.sm B q).2.2 g v;have z:=jc.som (up:=up) (X:=cT odd m r) (d:=fG h c) w y A b (show g.2.1.length<=100 by lia) (show h.2.1.length<=100 by lia) (sok B q g v) (sok r hr h j) (l_ u C.1);have G:decide (aJ (fG g o).params=aJ (fG h c).params)=decide (aJ h.2.1=aJ g.2.1):=decide_eq_decide.mpr ⟨λ z=>z.symm,λ z=>z.symm⟩;rw[G,Ie ok u]at z;exact z
theorem vd{b:Option V2}{c:List (V2×V2)}{i:Int}:jb (bw odd rs) up b c (n+1) (c8 i) (.inr ["number"]):=
 ⟨[],rfl,(λ i p l h=>by cases h),bJ _,(λ l h=>by cases h),_,.num,rfl⟩
theorem JD{r:Rw}{h:Hd}{more:List Int}:∃ls:List (V2×List V2),ls=(r.name,[])::((aJ h.2.1).map (λ k=>(k,[]))++more.map λ ω=>(("number":V2),[]))/\ls.length=(cq::(args h++more.map c8)).length/\∀(i:Nat)(p:Tm)(l:V2×List V2),(cq::(args h++more.map c8))[i]?=some p->ls[i]?=some l->jb (bw odd rs) up (some r.name) h.2.1 (n+1) p (.inr (l.1::l.2)):=by
 refine⟨_,rfl,by simp[aJ,args],λ i p l c hl=>?_⟩;cases i with
 |zero=>
  cases c;cases hl;exact⟨[],rfl,(λ i p l h=>by cases h),bJ _,(λ l h=>by cases h),_,.self rfl,rfl⟩
 |succ i=>
  have c:(args h++more.map c8)[i]?=some p:=c;have hl:((aJ h.2.1).map (λ k=>(k,([]:List V2)))++more.map λ ω=>(("number":V2),[]))[i]?=some l:=hl;have g:(args h).length=h.2.1.length:=aA _;have ls:((aJ h.2.1).map (λ k=>(k,([]:List V2)))).length=h.2.1.length:=by rw[aA,aJ,aA]
  by_cases e:i<h.2.1.length
  ·rw[jE (by rw[g];exact e)]at c;rw[jE (by rw[ls];exact e)]at hl;unfold args at c;unfold aJ at hl;rw[a_,aV e]at c;rw[dH,a_,aV e]at hl;cases c;cases hl;exact⟨[],rfl,(λ i p l h=>by cases h),bJ _,(λ l h=>by cases h),_,.name (gQ e),rfl⟩
  ·rw[jF (by rw[g];lia),a_]at c;rw[jF (by rw[ls];lia),a_]at hl;obtain⟨a,ω,rfl⟩:=c_.mp c;obtain⟨b,ω,rfl⟩:=c_.mp hl;exact vd ok u
theorem Dy{r:Rw}(hr:r∈rs){h:Hd}{i:Nat}(hi:r.heads[i]?=some h)(lk:Look (bw odd rs) r.name (cT odd m r)){more:List Int}(hm:more.length<=1):jb (bw odd rs) up (some r.name) h.2.1 2 (.mk .call (.str h.1) (cq::(args h++more.map c8))) (if more=[]then .inr (h.2.2::r.name::aJ h.2.1)else .inl h.1):=by
 have hh:=bN hi;have kd:=(ok.kd r hr).2 h hh;have l4:=(ok.sm r hr).2.2 h hh;have nm:r.name∈rs.map Rw.name:=iF hr;obtain⟨c1,c2⟩:=yL (odd:=odd) u nm;obtain⟨ls,els,h1,h2⟩:=JD (odd:=odd) ok u (r:=r) (h:=h) (more:=more) (n:=0);have sl:=((ok.so r hr).2.2 h hh).1.2;have e1:ls.map Prod.fst=r.name::(aJ h.2.1++more.map λ ω=>("number":V2)):=by
  rw[els,eP,ew,dH,dH];show _::(jW _ _++_)=_;rw[show(Prod.fst∘λ k:V2=>(k,([]:List V2)))=id from rfl,List.map_id];rfl
 refine⟨ls,h1,h2,by show(cq::(args h++more.map c8)).length<=100;simp[args];lia,λ l hl=>?_,?_⟩
 ·rw[els]at hl;rcases bH.mp hl with rfl|hl
  ·exact bJ _
  ·rcases dy.mp hl with hl|hl<;>obtain⟨ω,ω,rfl⟩:=bE.mp hl<;>exact bJ _
 have own:∀b,eW up (aJ h.2.1++more.map λ ω=>("number":V2)) (aJ h.2.1)=b->fc (bw odd rs) up (some r.name) h.2.1 (.mk .call (.str h.1) (cq::(args h++more.map c8))) (ls.map Prod.fst) (if b=true then .inr h.2.2 else .inl h.1):=λ b hb=>by
  rw[e1,<-hb];have iY:((aJ h.2.1)++more.map λ ω=>("number":V2)).length<=100:=by simp[aJ];lia
  refine fc.call (d:=fG h (odd (m+i))) (u.nn _ nm) c1 c2 (HU lk ((ok.dn r hr).2.1) hi) (show h.2.1.length<=100 by lia) qR iY λ x hx=>?_;rcases(dy.mp hx)with hx|hx
  ·obtain⟨p,hp,rfl⟩:=bE.mp hx;exact l_ u (kd.2 p hp)
  ·obtain⟨ω,ω,rfl⟩:=bE.mp hx;exact λ z=>T7 uU z
 cases more with
 |nil=>
  refine⟨_,own true ?_,?_⟩
  ·rw[pH,gD];unfold eW;rw[T9 rfl,pw,r_];intro p hp;have:∀xs:List V2,∀p∈xs.zip xs,p.1=p.2:=λ xs=>by
    induction xs with
    |nil=>intro p hp;cases hp
    |cons x xs ih=>
     intro p hp;rcases bH.mp hp with rfl|hp
     ·rfl
     ·exact ih p hp
   exact T9 (.inl (this _ p hp))
  ·rw[T6 rfl,T6 rfl,els];show Sum.inr _=Sum.inr (_::_);rw[eP,jY,pH,gD,dH];have:∀xs:List V2,(xs.map ((λ l:V2×List V2=>l.1::l.2)∘λ k=>(k,[]))).flatten=xs:=λ xs=>by
    induction xs with
    |nil=>rfl
    |cons x xs ih=>rw[eP,jY,ih];rfl
   rw[this];rfl
 |cons a l=>
  refine⟨_,own false ?_,by rw[T5 (λ z=>by cases z),T5 s!"n"];rfl⟩;unfold eW;rw[T8 s!"n",pK]
theorem FZ{r:Rw}(hr:r∈rs){h:Hd}{i:Nat}(hi:r.heads[i]?=some h)(n:Look (bw odd rs) r.name (cT odd m r))(b:Int)(hl:iY rs up r h=true):iT (bw odd rs) up (some r.name) (fG h b) (fC rs up r h b):=by
 have o:=bN hi;have v:=(ok.kd r hr).2 h o;have w:=((ok.so r hr).2.2 h o).1.2;unfold fC;rw[T5 (by rw[hl];decide)];by_cases c:b=1
 ·rw[T6 c];refine .bad ?_;show jb _ _ _ _ _ (gs h b) _;unfold gs;rw[T6 c];refine⟨[("number",[])],rfl,λ i p l q hl=>?_,qQ,λ l hl=>?_,_,.nt (k:="number") qQ ⟨qP,qP⟩,rfl⟩
  ·cases i with
   |zero=>cases q;cases hl;exact vd ok u
   |succ i=>cases q
  ·rcases bH.mp hl with rfl|hl
   ·exact bJ _
   ·cases hl
 rw[T5 c];by_cases e:b=2
 ·rw[T6 (.inl e)];refine .bad ?_;show jb _ _ _ _ _ (gs h b) _;unfold gs;rw[T5 c,T6 e];exact Dy ok u hr hi n (more:=[1]) qQ
 by_cases g:b=3
 ·have z:iT (bw odd rs) up (some r.name) (fG h b) (if b9 up "number" h.2.2=true then .inr ["number"]else .inl h.1):=by
   refine .ok (d:=fG h b) ?_ (λ z=>T7 uU z) (show h.1.length<=1000 by lia);show jb _ _ _ _ _ (gs h b) _;unfold gs;rw[T5 c,T5 e,T6 g];exact vd ok u
  by_cases j:h.2.2="number"
  ·rw[T5 (λ z=>z.elim e λ z=>z.2 j),T6 g];rw[T6 (show b9 _ _ _=true from T9 (.inl j.symm))]at z;exact z
  ·rw[T6 (.inr ⟨g,j⟩)];rw[T5 (λ y=>(of_decide_eq_true y).elim (λ y=>j y.symm) λ y=>y.1 uU)]at z;exact z
 ·rw[T5 (λ z=>z.elim e λ z=>g z.1),T5 g];have z:iT (bw odd rs) up (some r.name) (fG h b) (if b9 up h.2.2 h.2.2=true then .inr (h.2.2::r.name::aJ h.2.1)else .inl h.1):=by
   refine .ok (d:=fG h b) ?_ (l_ u v.1) (show h.1.length<=1000 by lia);show jb _ _ _ _ _ (gs h b) _;unfold gs;rw[T5 c,T5 e,T5 g];have:=Dy ok u hr hi n (more:=[]) qQ;rw[pH,gD]at this;exact this
  rw[T6 (show b9 _ _ _=true from T9 (.inl rfl))]at z;exact z
theorem F9{r:Rw}(hr:r∈rs){h:Hd}{i:Nat}(hi:r.heads[i]?=some h)(g:Look (bw odd rs) r.name (cT odd m r))(b:Int):ou (bw odd rs) up (cT odd m r) (fG h b) (fC rs up r h b):=by
 have c:=bN hi;have j:=((ok.so r hr).2.2 h c).1.2;have l:=FG (odd:=odd) ok u hr c m b;cases e:iY rs up r h with
 |false=>
  rw[e]at l;have:fC rs up r h b=.inl h.1:=T6 e;rw[this];exact .bad l (show h.1.length<=1000 by lia)
 |true=>
  rw[e]at l;exact .ok l (FZ ok u hr hi g b e)
theorem Ip{r:Rw}(hr:r∈rs)(j:Look (bw odd rs) r.name (cT odd m r))(b:Nat):∀(n i:Nat)(ks:List (List V2)),r.heads.length-i=n->ks.length=b+i->eK (bw odd rs) up (cT odd m r) ((cR odd b r.heads).drop i) ks (de rs up odd r (r.heads.drop i) ks):=by
 intro n;induction n with
 |zero=>
  intro i ks o g;rw[rR (by rw[sS];lia),rR qR];exact .nil
 |succ n p=>
  intro i ks o g;have c:i<r.heads.length:=by lia
  have e:(cR odd b r.heads).drop i=fG r.heads[i] (odd ks.length)::(cR odd b r.heads).drop (i+1):=by
   rw[jj (by rw[sS];exact c)];congr 1;have:=sP odd r.heads b i;rw[aV (by rw[sS];exact c),aV c,<-g]at this;exact dG this
  rw[e,jj c];show eK _ _ _ _ _ ((fC rs up r r.heads[i] (odd ks.length)).elim .inl λ k=>de rs up odd r (r.heads.drop (i+1)) (ks++[k]));have z:=F9 (odd:=odd) ok u hr (aV c) j (odd ks.length);cases h:fC rs up r r.heads[i] (odd ks.length)with
  |inl x=>rw[h]at z;exact .bad z
  |inr k=>rw[h]at z;exact .ok z (p (i+1) (ks++[k]) qR (by rw[bB,jD,g];lia))
theorem Jc:∀(rest:List Rw)(n:Nat)(ks:List (List V2)),(∀r∈rest,r∈rs)->(∀X∈dZ odd n rest,X∈(bw odd rs).houses)->ks.length=n->d9 (bw odd rs) up (dZ odd n rest) ks (df rs up odd rest ks):=by
 intro rest;induction rest with
 |nil=>intro n ks _ _ _;exact .nil
 |cons r rest i=>
  intro n ks e g h;have j:Look (bw odd rs) r.name (cT odd n r):=⟨g _ dR,rfl⟩;have z:=Ip (odd:=odd) ok u (e r dR) j n _ 0 ks rfl h;rw[nC,nC]at z;show d9 _ _ (cT odd n r::dZ odd (n+r.heads.length) rest) _ ((de rs up odd r r.heads ks).elim .inl λ ks=>df rs up odd rest ks);cases b:de rs up odd r r.heads ks with
  |inl x=>rw[b]at z;exact .bad z
  |inr c=>rw[b]at z;exact .ok z (i _ c (λ r hr=>e r (dz _ hr)) (λ X m=>g X (dz _ m)) (by rw[Ej b,h]))
def Bk(k:List V2):Prop:=k.length<=1000/\∀x∈k,bC x
omit u in
theorem Hm{r:Rw}(hr:r∈rs){h:Hd}(c:h∈r.heads){g:Int}{k:List V2}(e:fC rs up r h g=.inr k):Bk k:=by
 have n:bC ("number":V2):=⟨qP,qP⟩;unfold fC at e;split at e
 ·cases e
 split at e
 ·cases e
 split at e
 ·cases e
 split at e
 ·cases e;exact⟨qQ,λ x b=>by cases cu.mp b;exact n⟩
 ·cases e;obtain⟨j,o,i⟩:=ok.so r hr;have l:=(ok.sm r hr).2.2 h c;refine⟨by simp[aJ];lia,λ x b=>?_⟩;rcases bH.mp b with rfl|b
  ·exact(i h c).2.1
  rcases bH.mp b with rfl|b
  ·exact j
  ·obtain⟨p,m,rfl⟩:=bE.mp b;exact((i h c).2.2 p m).2
omit u in
theorem IA{r:Rw}(hr:r∈rs):∀(hs:List Hd)(ks ks':List (List V2)),(∀h∈hs,h∈r.heads)->(∀k∈ks,Bk k)->de rs up odd r hs ks=.inr ks'->∀k∈ks',Bk k:=by
 intro hs;induction hs with
 |nil=>intro ks ks' _ c e;cases e;exact c
 |cons h hs j=>
  intro ks ks' i c e;have e:(fC rs up r h (odd ks.length)).elim .inl (λ k=>de rs up odd r hs (ks++[k]))=.inr ks':=e;cases g:fC rs up r h (odd ks.length)with
  |inl x=>rw[g]at e;cases e
  |inr k=>
   rw[g]at e;refine j (ks++[k]) ks' (λ h m=>i h (dz _ m)) (λ n b=>?_) e;rcases dy.mp b with b|b
   ·exact c n b
   ·cases cu.mp b;exact Hm ok hr (i h dR) g
omit u in
theorem HA:∀(c:List Rw)(ks ks':List (List V2)),(∀r∈c,r∈rs)->(∀k∈ks,Bk k)->df rs up odd c ks=.inr ks'->ks'.length<=ks.length+8*c.length/\∀k∈ks',Bk k:=by
 intro c;induction c with
 |nil=>intro ks ks' _ i e;cases e;exact⟨aS _,i⟩
 |cons r c n=>
  intro ks ks' j i e;have e:(de rs up odd r r.heads ks).elim .inl (λ ks=>df rs up odd c ks)=.inr ks':=e;cases g:de rs up odd r r.heads ks with
  |inl x=>rw[g]at e;cases e
  |inr m=>
   rw[g]at e;have hr:=j r dR;obtain⟨l,b⟩:=n m ks' (λ r hr=>j r (dz _ hr)) (IA ok hr r.heads ks m (λ ω h=>h) i g) e;have:=Ej g;have:=(ok.sm r hr).2.1;exact⟨by rw[dv];lia,b⟩
theorem vt:d9 (bw odd rs) up (bw odd rs).houses [] (df rs up odd rs []):=Jc ok u rs 0 [] (λ ω h=>h) (λ ω h=>h) rfl
theorem FK:iT (bw odd rs) up none (bw odd rs).main (.inr ["number"]):=by
 have z:iT (bw odd rs) up none (bw odd rs).main (if b9 up "number" (bw odd rs).main.kind=true then .inr ["number"]else .inl (bw odd rs).main.name):=.ok (vd ok u) (λ z=>T7 uU z) (by show("main":V2).length<=1000;decide);rw[T6 (show b9 up "number" (bw odd rs).main.kind=true from T9 (.inl rfl))]at z;exact z
end
end P23
end
section
namespace L2
open PySem PySem.Spec PyProof.Rows TM
theorem E8{J:It}{G:TE}{Q:VK}{H:Hp}{D:V0}{ys:List V}{w:St}(I:Option V)(rest:St)(R:Nat->V->Hp->Prop)(mono:∀j v g n,R j v g->SX D g n->R j v n)(P:w=I::rest)(K:H D=none)(hz:ys.length<=Qj)(S:∀i g,af H g->i<ys.length->J.go i g)(T:∀i g x n,i<ys.length->af H g->J.yld i g x n->n=g/\ys[i]?=some x)(U:∀g,af H g->J.stop ys.length g)(X:∀i y,ys[i]?=some y->∀g (L:VK),af H g->(∃vs,g D=some (.lst vs))->(∀v n,af g n->R i v n->L v n)->G (some y::rest) g L)(Y:∀vs H',af H H'->H' D=some (.lst vs)->vs.length=ys.length->(∀j v,vs[j]?=some v->R j v H')->Q (.ref D) H'):gr J (fg 0) fh G D Q w (ag H D (.lst [])):=by
 refine⟨λ i m z H'=>m=ys.length-i/\i<=ys.length/\(∃v,z=v::rest)/\af H H'/\∃vs,H' D=some (.lst vs)/\vs.length=i/\∀j v,vs[j]?=some v->R j v H',⟨ys.length,by simp,bJ _,⟨I,P⟩,bM K _,[],aG,rfl,λ j v h=>by simp at h⟩,?_⟩;rintro i m z H' ⟨rfl,hi,⟨v,rfl⟩,q,vs,B,hl,hr⟩;by_cases p:i<ys.length
 ·refine .inr ⟨S i H' q p,λ A n=>(∃v,A=v::rest)/\af H n/\∃vs,n D=some (.lst vs)/\vs.length=i+1/\∀j v,vs[j]?=some v->R j v n,λ A n ⟨a,b,c⟩=>⟨ys.length-(i+1),qR,rfl,p,a,b,c⟩,λ x n Z=>?_⟩;obtain⟨e1,e2⟩:=T i H' x n p q Z;subst e1;unfold fg fh;rw[nG];refine jo (X i x e2 n _ q ⟨_,B⟩ λ v M C hR=>?_);have h3:=C _ _ B;have N:SX D M (ag M D (.lst (vs++[v]))):=SX.put _;refine⟨vs,h3,qR,⟨_,rfl⟩,λ b o O=>?_,_,aG,by rw[bB,hl];rfl,λ j u r=>?_⟩
  ·rw[aD (bS O K)];exact C _ _ (q _ _ O)
  ·by_cases E:j<vs.length
   ·rw[jE E]at r;exact mono j u _ _ (mono j u _ _ (hr j u r) (SX.of C)) N
   ·rw[jF qR]at r;have ej:j-vs.length=0:=by
     have:=(bG.mp r).1;simp at this;lia
    rw[ej]at r;cases r;have:j=i:=by lia
    subst this;exact mono _ _ _ _ hR N
 ·have e:i=ys.length:=by lia
  subst e;exact .inl ⟨U _ q,Y vs H' q B hl hr⟩
variable{K:X0}
theorem Fd{a:V0}{m:TE}{Q:VK}{H:Hp}{D:V0}{ys:List V}{e:St}(n:Option V)(rest:St)(R:Nat->V->Hp->Prop)(mono:∀j v b c,R j v b->SX D b c->R j v c)(p:e=n::rest)(q:H D=none)(hz:ys.length<=Qj)(g:∀b,af H b->ai K b a ys)(r:∀i y,ys[i]?=some y->∀b (o:VK),af H b->(∃vs,b D=some (.lst vs))->(∀v c,af b c->R i v c->o v c)->m (some y::rest) b o)(u:∀vs H',af H H'->H' D=some (.lst vs)->vs.length=ys.length->(∀j v,vs[j]?=some v->R j v H')->Q (.ref D) H'):gr (je K a) (fg 0) fh m D Q e (ag H D (.lst [])):=
 E8 n rest R mono p q hz (λ i b s h=>⟨ys,ys[i],g b s,aV h⟩) (λ i b x c ω s h=>⟨h.1,h.2 ys (g b s)⟩) (λ b s=>⟨ys,g b s,aS _⟩) r u
theorem Kg{P:Program}{w:Y3}{mg:V2->Option V1}{fa:V0}{k:Nat}{x:V2}{st:Qw}{sp:Sp}(F:Fn K mg "law" st)(hfa:mg "law"=some (.ref fa))(hb:∀(kV doc pm:V1)(an:Option V0)(cdv ct u:V1),RY (Rz "law" "law" (fS st) (eJ st) (aR st) .none kV doc pm an cdv ct) ⟨[u],[]⟩=pure [(x,u)])(ok:∀(f:V0)(fd:Q_)(base:Z3),jC mg base->iz K "law" "law" st f fd->cj P w K mg base hZ k f fd [x] sp):∃fd:Q_,(∀(s:M1)(u:V1),BindsTo s fd ⟨[u],[]⟩ [(x,u)])/\∀base:Z3,K.In base->base.Ns Qu mg->jC mg base->cj P w K mg base hZ k fa fd [x] sp:=by
 obtain⟨f,fd,F,m⟩:=F.ex;cases hfa.symm.trans m;have F':=F;obtain⟨oc,od,kV,doc,pm,an,cdv,ct,osl,rfl,lk,hcd⟩:=F.ex;exact⟨_,λ s u=>.of_eq (hb kV doc pm an cdv ct u),λ base ω ω hB=>ok _ _ base hB F'⟩
theorem DN{a:V0}{o:Obj}{h:Z3}(X:W.Frag.In ((a,o)::K) h)(n:K.lookup a=none):K.In h/\h.get? a=some o:=by
 refine⟨λ b u e=>X b u ?_,X a o ?_⟩
 ·rw[fe];have:(b==a)=false:=beq_false_of_ne λ z=>by rw[z,n]at e;cases e
  rw[this];exact e
 ·rw[fe,beq_self_eq_true]
def FU(TS:List V0)(H:Hp):Prop:=∀b,H b=none\/(∃o xs,H b=some (.frz o (.lst xs)))\/(b∈TS/\H b=some (.tbl #[]))
theorem Li{P:Program}{TS:List V0}{w:Y3}{mg mb:V2->Option V1}{CX:iA}{k:Nat}{fa a:V0}{fd:Q_}{x:V2}{sp:Sp}{s₁:M1}{vs:List V1}{ns:List Int}(Cd:∀t∈TS,∃c,W.CodeHd s₁.heap c t)(hT:∀t∈TS,s₁.heap.get? t=some (W.tabObj #[]))(hKT:∀t∈TS,K.lookup t=none)(hbm:∃bm ob,mg "__builtins__"=some (.ref bm)/\bm≠Sj/\s₁.heap.get? bm=some ob/\ob.cls=.type "module"/\ob.dict=some Sj/\ob.data=.plain)(KX:K.In s₁.heap)(hns:s₁.heap.Ns Qu mg)(hb:s₁.heap.Ns Sj mb)(hbb:∀x:V2,x≠"__name__"->mb x=Qv x)(hlim:s₁.heap.NoLimit)(hg:s₁.gens=#[])(ha:s₁.heap.get? a=some {cls:=.type "list",data:=.seq vs.toArray})(hi:IntsAre vs ns)(hl:ns.length<=Qj)(hr:aP k TV)(F:∀base:Z3,K.In base->base.Ns Qu mg->jC mg base->cj P w K mg base CX k fa fd [x] sp)(hbind:∀(s:M1)(u:V1),BindsTo s fd ⟨[u],[]⟩ [(x,u)])(hsp:∀H:Hp,(∀t∈TS,H t=some (.tbl #[]))->ai K H a (ns.map V.int)->sp [.ref a] H (λ v ω=>v=.bl true) λ ω ω ω=>False)(hCX:∀H e s',CX [] H s₁ (λ ω ω ω=>False) e s'->False):Rm (Qn P w) TV (.call (.ref fa) ⟨[.ref a],[]⟩) (λ r s'=>r=.ok (.ret (.bool true))/\OldK s₁.heap s'.heap/\s'.os=s₁.os/\SG s'.gens) s₁:=by
 have rv:=AQ hi;have lenV:=hi.length
 --from an abstract heap in which nothing but the script may be tracked
 have core:∀H:Hp,FU TS H->(∀t∈TS,H t=some (.tbl #[]))->ai K H a (ns.map V.int)->cV P w H s₁.heap->(∀b,H b≠none->b=a\/b∈TS)->(H a≠none->K.lookup a=none)->
   Rm (Qn P w) TV (.call (.ref fa) ⟨[.ref a],[]⟩) (λ r s'=>r=.ok (.ret (.bool true))/\OldK s₁.heap s'.heap/\s'.os=s₁.os/\SG s'.gens) s₁:=by
  intro H hO hHT hS hok hA hK;have base_of:∀{b:V0}{o:Obj},s₁.heap.get? b=some o->H b=none->(fA s₁.heap H).get? b=some o:=λ e n=>Kf e n;have noA:∀{b:V0}{o:Obj}{es:Array DictEntry}{ep:Nat},s₁.heap.get? b=some o->o.data=.dict es ep->H b=none:=λ{b o es ep} e d=>by
   cases q:H b with
   |none=>rfl
   |some u=>
    rcases hA b (by rw[q];simp)with e'|e'
    ·subst e';rw[ha]at e;cases e;have d':Data.seq vs.toArray _=Data.dict es ep:=d;cases d'
    ·rw[hT b e']at e;cases e;have d':Data.fields #[]=Data.dict es ep:=d;cases d'
  have nsK:∀{b:V0}{m:V2->Option V1},s₁.heap.Ns b m->(fA s₁.heap H).Ns b m:=λ{b m} ⟨o,es,ep,e,d,r⟩=>⟨o,es,ep,base_of e (noA e d),d,r⟩;have hKb:K.In (fA s₁.heap H):=λ b o e=>base_of (KX b o e) (by
   cases q:H b with
   |none=>rfl
   |some u=>
    rcases hA b (by rw[q];simp)with e'|e'
    ·subst e';rw[hK (by rw[q];simp)]at e;cases e
    ·rw[hKT b e']at e;cases e)
  have hM:Mod K mg (fA s₁.heap H):=⟨hKb,nsK hns,⟨mb,nsK hb,hbb⟩,let⟨mc,h1,h2⟩:=hlim;⟨mc,nsK h1,h2⟩⟩;have e0:hU P w K mg (fA s₁.heap H) TV [] s₁ H:=⟨rfl,hM,λ b o e=>IE e,lY (LL _ _),trivial,λ b hb=>T7 (show b∈([]:List V0)from hb) s!"n",hok,.of_eq hg⟩;have hB:jC mg (fA s₁.heap H):=by
   obtain⟨bm,ob,b1,b2,b3,b4,b5,b6⟩:=hbm;have nb:H bm=none:=by
    cases q:H bm with
    |none=>rfl
    |some u=>
     rcases hA bm (by rw[q];simp)with e'|e'
     ·subst e';rw[ha]at b3;cases b3;injection b4 with z
      exact T7 z qQ
     ·rw[hT bm e']at b3;cases b3;cases b4
   refine⟨bm,ob,b1,b2,λ z=>?_,base_of b3 nb,b4,b5,b6⟩;obtain⟨og,es,ep,eg,dg,ω⟩:=hns;rw[<-z,b3]at eg;cases eg;rw[b6]at dg;cases dg
  refine Rn ((F _ hKb (nsK hns) hB).run TV [] s₁ H ⟨[.ref a],[]⟩ [.ref a] [.ref a] _ _ hr e0 (hbind s₁ (.ref a)) (.cons rfl .nil) (hsp H hHT hS)) λ r s' h=>?_;cases r with
  |error e=>exact(hCX H e s' h).elim
  |ok fl=>
   cases fl with
   |next=>exact False.elim h
   |brk=>exact False.elim h
   |cont=>exact False.elim h
   |ret u=>
    obtain⟨v,H',os,bare,un,hok',r',q⟩:=h;have q':v=.bl true:=q;subst q';obtain rfl:u=SN true:=r';have old:∀b o,s₁.heap.get? b=some o->asItWas s₁.heap s'.heap b o/\∃o',s'.heap.get? b=some o':=λ b o e=>by
     cases q:H b with
     |none=>
      have z:=un.keep b o e q (by intro z;exact T7 (show b∈([]:List V0)from z) s!"n") s!"n";exact⟨.inl z,o,z⟩
     |some u=>
      rcases hO b with z|⟨ob,xs,z⟩|⟨hb,z⟩
      ·rw[q]at z;cases z
      ·have z2:=un.frzs b ob _ z;obtain⟨e1,ω⟩:=hok b _ z;obtain⟨e2,ω⟩:=hok' b _ z2;rw[e]at e1;cases e1;exact⟨.inl e2,_,e2⟩
      ·obtain⟨more,z2⟩:=un.tbls b _ z;have e2:s'.heap.get? b=some {cls:=.none,data:=.fields (#[]++more)}:=hok' b _ z2;obtain⟨c,Cd⟩:=Cd b hb;rw[hT b hb]at e;cases e;exact⟨.inr (.inl ⟨(Cd.tab (hT b hb)).isCodeTable,rfl,#[],more,rfl,e2⟩),_,e2⟩
    exact⟨rfl,⟨λ b o e=>(old b o e).1,λ b o e=>(old b o e).2⟩,os,bare⟩
 cases hk:K.lookup a with
 |some o=>
  --the script is one of the module's own objects
  have e:=KX a o hk;rw[ha]at e;cases e;refine core (λ b=>if b∈TS then some (.tbl #[])else none) (λ b=>?_) (λ t ht=>T6 ht) (.inr ⟨_,vs.toArray,_,hk,rfl,rfl,rfl,by rw[bF,lenV];exact hl,by simpa using rv⟩) (λ b u z=>?_) (λ b z=>?_) (λ z=>?_)
  ·by_cases hb:b∈TS
   ·exact .inr (.inr ⟨hb,T6 hb⟩)
   ·exact .inl (T5 hb)
  ·by_cases hb:b∈TS
   ·have z':=(T6 hb).symm.trans z;cases z';exact hT b hb
   ·have z':=(T5 hb).symm.trans z;cases z'
  ·by_cases hb:b∈TS
   ·exact .inr hb
   ·exact T7 (T5 hb) z
  ·have:a∉TS:=λ y=>by rw[hT a y]at ha;cases ha
   exact T7 (T5 this) z
 |none=>
  have naT:a∉TS:=λ y=>by rw[hT a y]at ha;cases ha
  refine core (λ b=>if b=a then some (.frz {cls:=.type "list",data:=.seq vs.toArray} (.lst (ns.map V.int)))else if b∈TS then some (.tbl #[])else none) (λ b=>?_) ?_ (.inl (.inr ⟨{cls:=.type "list",data:=.seq vs.toArray},T6 rfl⟩)) (λ b u z=>?_) (λ b z=>?_) λ ω=>hk
  ·by_cases hb:b=a
   ·exact .inr (.inl ⟨_,_,T6 hb⟩)
   ·by_cases hb2:b∈TS
    ·exact .inr (.inr ⟨hb2,(T5 hb).trans (T6 hb2)⟩)
    ·exact .inl ((T5 hb).trans (T5 hb2))
  ·exact λ t ht=>(T5 (show ¬t=a from λ z=>naT (z▸ht))).trans (T6 ht)
  ·by_cases hb:b=a
   ·have z':=(T6 hb).symm.trans z;cases z';subst hb;exact⟨ha,by rw[aA];exact hl,vs,_,rv,ha⟩
   ·by_cases hb2:b∈TS
    ·have z':=((T5 hb).trans (T6 hb2)).symm.trans z;cases z';exact hT b hb2
    ·have z':=((T5 hb).trans (T5 hb2)).symm.trans z;cases z'
  ·by_cases hb:b=a
   ·exact .inl hb
   ·by_cases hb2:b∈TS
    ·exact .inr hb2
    ·exact T7 ((T5 hb).trans (T5 hb2)) z
theorem Jr{TS:List V0}{l:W.OpenLaw}{n k:Nat}{q:Program}{loose:List V2}{XP:(V2->Option V1)->Z3->Prop}{YP:Y3->Z3->Prop}{d:DefRec}{K:Params->X0}{CX:Y3->iA}{sp:Y3->Sp}{x:V2}(hn:l.most=some n)(hn2:n<=Qj)(hdf:d.params.defaults=[])(hr:aP k TV)(hY:∀(w:Y3)(h:Z3),YP w h->(K w.params).In h/\∀t∈TS,h.get? t=some (W.tabObj #[]))(hKT:∀w:Y3,∀t∈TS,(K w.params).lookup t=none)(hCd:∀w:Y3,∀t∈TS,∃c,bI (K w.params) c t)(F:∀(w:Y3)(mg:V2->Option V1)(fa:V0)(h:Z3),(K w.params).In h->h.Ns Qu mg->mg d.name=some (.ref fa)->∃fd:Q_,(∀(s:M1)(u:V1),BindsTo s fd ⟨[u],[]⟩ [(x,u)])/\∀base:Z3,(K w.params).In base->base.Ns Qu mg->jC mg base->cj l.prog w (K w.params) mg base (CX w) k fa fd [x] (sp w))(hsp:∀(w:Y3)(H:Hp)(a:V0)(ns:List Int),ns.length<=n->(∀t∈TS,H t=some (.tbl #[]))->ai (K w.params) H a (ns.map V.int)->sp w [.ref a] H (λ v ω=>v=.bl true) λ ω ω ω=>False)(hCX:∀(w:Y3)(H:Hp)(s:M1)(e:V1)(s':M1),CX w [] H s (λ ω ω ω=>False) e s'->False):W.WalkO q loose XP YP l.row.toRowW d [] (λ f vs=>PySem.call f vs):=by
 refine Att.gp hn hdf λ w s₀ s₁ mg mb fa o pm cd doc a vs ns G Y ho hd hcd hmg hobj hints hlen hg=>?_;obtain⟨KX,hT⟩:=hY w _ Y;obtain⟨fd,hb,hF⟩:=F w mg fa _ KX G.T.g hmg;exact Li (λ t ht=>let⟨c,h⟩:=hCd w t ht;⟨c,h.hd KX⟩) hT (hKT w) G.T.bmain KX G.T.g G.T.b G.T.builtins G.T.nolimit hg hobj hints (cb hlen hn2) hr hF hb (λ H hO hS=>hsp w H a ns hlen hO hS) λ H e s'=>hCX w H s₁ e s'
theorem all2{a b:V0}{p:V0->Prop}(h1:p a)(h2:p b):∀t∈[a,b],p t:=λ t ht=>by
 rcases bH.mp ht with rfl|ht
 ·exact h1
 ·cases cu.mp ht;exact h2
theorem JX{a b:V0}{o:Obj}{h:Z3}(X:W.Frag.In ((a,o)::(b,o)::K) h)(n1:K.lookup a=none)(n2:K.lookup b=none)(ne:(a==b)=false):K.In h/\∀t∈[a,b],h.get? t=some o:=by
 obtain⟨x,y⟩:=DN X (by rw[fe,ne];exact n1);obtain⟨z,q⟩:=DN x n2;exact⟨z,all2 y q⟩
end L2
end
section
open PySem L2 TM WK
section
namespace K34
open P15 (Lb Fm Tm bO gu ig Ok bW cW aU cG)
open PW (Vl Wd Hs Pg Sc Wt Ws gv Look aL lG cm oq j8 uM mh mY jN Step qV uL j_)
seal L2.PE L2.PA L2.PT L2.PS L2.fb L2.PG L2.kG L2.PI L2.PW
theorem MR:bj ["kind"] ["kind"] (aR tq):=by walk_at "c"
theorem P8:bj ["hall","one","other"] ["hall","one","other"] (aR sv):=by walk_at "c"
theorem uP:bj ["program","hall","told","house","word"] ["program"] (aR tu):=by walk_at "c"
theorem ym:bj ["hall","house","word","head","params","kind"] ["hall","house","word"] (aR uw):=by walk_at "c"
theorem MU:bj ["pairs"] ["pairs"] (aR sZ):=by walk_at "c"
theorem GG:bj ["hall","house","word","told"] ["hall","house","word"] (aR t6):=by walk_at "c"
theorem rg:bj ["hall","house","term","bound","firsts","told","part","inner"] ["hall","house","term","bound"] (aR tX):=by walk_at "c"
theorem M3:bj ["term","firsts","bound","more"] ["term","firsts","bound"] (aR uD):=by walk_at "c"
theorem MT:bj ["hall","house","term","bound","parts"] ["hall","house","term","bound","parts"] (aR s_):=by walk_at "c"
theorem P9:bj ["word","holds"] ["word","holds"] (aR ve):=by walk_at "c"
theorem BW:bj ["hall","kind","word","terms","params","told"] ["hall","kind","word","terms"] (aR uc):=by walk_at "c"
theorem BR:bj ["hall","kinds","pairs","wanted"] ["hall","kinds","pairs"] (aR tP):=by walk_at "c"
theorem MP:bj ["form","label","parts"] ["form","label","parts"] (aR tD):=by walk_at "c"
theorem MQ:bj ["pairs"] ["pairs"] (aR tJ):=by walk_at "c"
theorem ra:bj ["plain","told_houses","told_main","params","kind","body"] ["plain"] (aR tU):=by walk_at "c"
theorem uO:bj ["plain","name","elder","own_fields","own_words"] ["plain"] (aR tG):=by walk_at "c"
theorem uN:bj ["plain","name","params","kind","body"] ["plain"] (aR tM):=by walk_at "c"
theorem uR:bj ["plain","built","one","inner"] ["plain"] (aR tK):=by walk_at "c"
theorem yl:bj ["plain","found","waiting","one"] ["plain"] (aR tW):=by walk_at "c"
theorem GA:bj ["plain","form"] ["plain"] (aR tE):=by walk_at "c"
theorem Gz:bj ["plain","form"] ["plain"] (aR tI):=by walk_at "c"
theorem BN:bj ["_law_script","_law_k","_law_cell"] ["_law_script","_law_k"] (aR uo):=by walk_at "c"
theorem jz:bj ["_law_cell","_law_k","_law_letters","_law_told","_law_rest","_law_base","_law_at","_law_name_here"] ["_law_cell","_law_k"] (aR uf):=by walk_at "c"
theorem Ft:bj ["_law_script","_law_many"] ["_law_script","_law_many"] (aR m9):=by walk_at "c"
theorem yn:bj ["_law_script","_law_order_here","_law_found_here","_law_place","_law_number"] ["_law_script","_law_order_here"] (aR uy):=by walk_at "c"
theorem MV:bj ["_law_number","_law_names"] ["_law_number","_law_names"] (aR ud):=by walk_at "c"
theorem uQ:bj ["_law_script","_law_j","_law_taken","_law_pool","_law_names","_law_number","_law_found_here","_law_k","_law_name_here"] ["_law_script","_law_j","_law_taken","_law_pool","_law_names"] (aR ub):=by walk_at "c"
theorem BU:bj ["_law_number","_law_pool","_law_names","_law_kinds_here"] ["_law_number","_law_pool","_law_names"] (aR uC):=by walk_at "c"
theorem q_:bj ["_law_script","_law_j","_law_pools","_law_names","_law_number","_law_found_here","_law_k","_law_more","_law_word"] ["_law_script","_law_j","_law_pools","_law_names"] (aR tR):=by walk_at "c"
theorem iR:bj ["_law_script","_law_first","_law_many","_law_names","_law_pools","_law_order_here","_law_elders","_law_fields_here","_law_taken","_law_j","_law_rows_here","_law_elder"] ["_law_script"] (aR ug):=by walk_at "c"
theorem yo:bj ["_law_rows_here","_law_name_here","_law_above","_law_found_here"] ["_law_rows_here","_law_name_here"] (aR tw):=by walk_at "c"
theorem yk:bj ["_law_rows_here","_law_name_here","_law_word","_law_one","_law_row","_law_head"] ["_law_rows_here","_law_name_here","_law_word"] (aR t9):=by walk_at "c"
theorem MO:bj ["_law_rows_here","_law_one","_law_other"] ["_law_rows_here","_law_one","_law_other"] (aR tm):=by walk_at "c"
theorem Fs:bj ["_law_program"] ["_law_program"] (aR t_):=by walk_at "c"
theorem GD:bj ["_law_found_here","_law_due_here","_law_kept","_law_row"] ["_law_found_here","_law_due_here","_law_kept"] (aR uk):=by walk_at "c"
theorem yj:bj ["_law_program","_law_due_here","e","_law_others"] ["_law_program","_law_due_here"] (aR uE):=by walk_at "c"
theorem jP:bj ["_law_head","_law_old","_law_number","_law_pool","_law_rows_here","_law_names","_law_kinds_here","_law_fitting","_law_kind_here","_law_more","_law_some","_law_others"] ["_law_head","_law_old","_law_number","_law_pool","_law_rows_here","_law_names"] (aR uu):=by walk_at "c"
theorem jQ:bj ["_law_script","_law_rows_here","_law_pool","_law_names","_law_found_here","_law_name_here","_law_row","_law_heads_here","_law_k","_law_head","_law_old","_law_number"] ["_law_script","_law_rows_here","_law_pool"] (aR m_):=by walk_at "c"
theorem GC:bj ["_law_head","_law_way","_law_given"] ["_law_head","_law_way"] (aR uj):=by walk_at "c"
theorem kL:bj ["_law_rows_here","_law_odd","_law_houses","_law_at","_law_name_here","_law_elder","_law_fields_here","_law_heads_here","_law_told","_law_head"] ["_law_rows_here","_law_odd"] (aR uI):=by walk_at "c"
theorem lH:bj ["_law_rows_here","_law_odd","_law_kinds_here","_law_row","_law_word","_law_params_here","_law_kind_here","_law_way","_law_ahead","_law_own"] ["_law_rows_here","_law_odd"] (aR tH):=by walk_at "c"
theorem iQ:bj ["_law_script","_law_pool","_law_rows_here","_law_many","_law_odd","_law_turn","_law_number","_law_alone","_law_trees","_law_programs","_law_dues","_law_kept","_law_k"] ["_law_script"] (aR oA):=by walk_at "c"
theorem dW:bj ["self","program","house"] ["self","program"] (aR uK):=by walk_at "c"
theorem bZ:bj ["self","house","nearest_first","one"] ["self","house"] (aR uB):=by walk_at "c"
theorem dt:bj ["self","house","word","one","names"] ["self","house","word"] (aR tY):=by walk_at "c"
theorem fO:bj ["self","house","word","own"] ["self","house","word"] (aR ue):=by walk_at "c"
theorem br:bj ["self","house","word","where","name","number"] ["self","house","word"] (aR uv):=by walk_at "c"
theorem M5:bj ["self","form","label","parts"] ["self","form","label","parts"] (aR uG):=by walk_at "c"
theorem MZ:bj ["self"] ["self"] (aR t7):=by walk_at "c"
theorem MW:bj ["self"] ["self"] (aR tZ):=by walk_at "c"
theorem MX:bj ["self"] ["self"] (aR tV):=by walk_at "c"
theorem MS:bj ["self"] ["self"] (aR uh):=by walk_at "c"
theorem M6:bj ["self","name","params","kind","body"] ["self","name","params","kind","body"] (aR uH):=by walk_at "c"
theorem MY:bj ["self"] ["self"] (aR um):=by walk_at "c"
theorem M4:bj ["self","name","elder","own_fields","own_words"] ["self","name","elder","own_fields","own_words"] (aR uq):=by walk_at "c"
theorem eR:bj ["self","told"] ["self"] (aR uz):=by walk_at "c"
theorem M7:bj ["self","all_houses","main"] ["self","all_houses","main"] (aR ux):=by walk_at "c"
theorem dU:bj ["self","told"] ["self"] (aR uJ):=by walk_at "c"
structure Txt(K:X0)(mg:V2->Option V1)(Cl:V0)(Ct:V0)(Cw:V0)(Ch:V0)(Cp:V0)(Uh9:V0):Prop where
 z_all:mg "all"=none
 yi:mg "dict"=none
 Gm:mg "enumerate"=none
 z_int:mg "int"=none
 jO:mg "isinstance"=none
 z_len:mg "len"=none
 lJ:mg "list"=none
 z_max:mg "max"=none
 hH:mg "range"=none
 BQ:mg "reversed"=none
 BM:mg "sorted"=none
 z_str:mg "str"=none
 z_sum:mg "sum"=none
 gK:mg "tuple"=none
 z_zip:mg "zip"=none
 c_NO_HOUSES:yW mg "NO_HOUSES" (.ref Uh9)
 t_NO_HOUSES:qY K Uh9 [.str "number",.str "truth"]
 OQ:Fn K mg "is_house" tq
 f_fits:Fn K mg "fits" sv
 Pl:Fn K mg "kinds_of" tu
 Po:Fn K mg "need_like_elders" uw
 Pk:Fn K mg "kinds_in" sZ
 O4:Fn K mg "body_kinds" t6
 GB:Fn K mg "term_kinds" tX
 O6:Fn K mg "bound_ahead" uD
 Pj:Fn K mg "own_kind" s_
 f_need:Fn K mg "need" ve
 OU:Fn K mg "call_kind" uc
 Gw:Fn K mg "all_fit" tP
 Ph:Fn K mg "shape_of" tD
 Pf:Fn K mg "pairs_of" tJ
 O3:Fn K mg "program_of" tU
 Pe:Fn K mg "house_of" tG
 O8:Fn K mg "word_of" tM
 Gv:Fn K mg "term_of" tK
 OZ:Fn K mg "all_within" tW
 Pc:Fn K mg "parts_of" tE
 Pb:Fn K mg "label_of" tI
 OY:Fn K mg "_law_drawn" uo
 Gk:Fn K mg "_law_name" uf
 O7:Fn K mg "_law_order" m9
 Pp:Fn K mg "_law_elders_drawn" uy
 OT:Fn K mg "_law_kind" ud
 O5:Fn K mg "_law_fields" ub
 Gu:Fn K mg "_law_params" uC
 OX:Fn K mg "_law_heads" tR
 Gj:Fn K mg "_law_rows" ug
 Pa:Fn K mg "_law_ups" tw
 OW:Fn K mg "_law_found" t9
 O_:Fn K mg "_law_fit" tm
 Gr:Fn K mg "_law_kinds" t_
 OS:Fn K mg "_law_same" uk
 Gy:Fn K mg "_law_refused" uE
 GF:Fn K mg "_law_other_head" uu
 OV:Fn K mg "_law_put_otherwise" m_
 OR:Fn K mg "_law_body" uj
 Pn:Fn K mg "_law_plain_by" uI
 O9:Fn K mg "_law_due" tH
 f_law:Fn K mg "law" oA
 Hall:mq K mg "Hall" Cl
 n_Hall_by_name:aK K Cl "by_name"
 n_Hall_in_order:aK K Cl "in_order"
 Term:mq K mg "Term" Ct
 n_Term_deep:aK K Ct "deep"
 n_Term_form:aK K Ct "form"
 n_Term_inner:aK K Ct "inner"
 n_Term_label:aK K Ct "label"
 n_Term_many:aK K Ct "many"
 n_Term_shape:aK K Ct "shape"
 Word:mq K mg "Word" Cw
 n_Word_body:aK K Cw "body"
 n_Word_kind:aK K Cw "kind"
 n_Word_name:aK K Cw "name"
 n_Word_params:aK K Cw "params"
 House:mq K mg "House" Ch
 n_House_elder:aK K Ch "elder"
 n_House_name:aK K Ch "name"
 n_House_own_fields:aK K Ch "own_fields"
 n_House_own_words:aK K Ch "own_words"
 Program:mq K mg "Program" Cp
 n_Program_all_houses:aK K Cp "all_houses"
 n_Program_main:aK K Cp "main"
 m_Hall___init__:fL K Cl "__init__" "Hall.__init__" uK
 m_Hall_elders:fL K Cl "elders" "Hall.elders" uB
 m_Hall_fields:fL K Cl "fields" "Hall.fields" yc
 m_Hall_place:fL K Cl "place" "Hall.place" xZ
 m_Hall_found:fL K Cl "found" "Hall.found" tY
 m_Hall_head:fL K Cl "head" "Hall.head" ue
 m_Hall_found_word:fL K Cl "found_word" "Hall.found_word" uv
 m_Term___init__:fL K Ct "__init__" "Term.__init__" uG
 m_Term_plain:fL K Ct "plain" "Term.plain" t7
 m_Term_parts:fL K Ct "parts" "Term.parts" tZ
 m_Term_depth:fL K Ct "depth" "Term.depth" tV
 m_Term_size:fL K Ct "size" "Term.size" uh
 m_Word___init__:fL K Cw "__init__" "Word.__init__" uH
 m_Word_plain:fL K Cw "plain" "Word.plain" um
 m_House___init__:fL K Ch "__init__" "House.__init__" uq
 m_House_plain:fL K Ch "plain" "House.plain" uz
 m_Program___init__:fL K Cp "__init__" "Program.__init__" ux
 m_Program_plain:fL K Cp "plain" "Program.plain" uJ
def pX:Fm->Bool| .self| .nt| .iff=>true|_=>false
def nR:Fm->Bool| .new| .elder=>true|_=>false
def ma:Fm->Bool| .field| .set=>true|_=>false
theorem zf(f:Fm):ij (V.str f.s) [V.str (Qp "self"),V.str (Qp "not"),V.str (Qp "if")]=pX f:=by cases f<;>decide+kernel
theorem pY(f:Fm):ij (V.str f.s) [V.str (Qp "new"),V.str (Qp "elder")]=nR f:=by cases f<;>decide+kernel
theorem nS(f:Fm):ij (V.str f.s) [V.str (Qp "field"),V.str (Qp "set")]=ma f:=by cases f<;>decide+kernel
theorem sk(f:Fm):f.s=Qp "call"->f=.call:=by cases f<;>first|exact λ ω=>rfl|exact λ h=>T7 h qP
variable{ds:List PyData}
theorem y8{f:Fm}{l:Lb}(h:pX f=true):gu f l ds=.str f.s::ds:=by cases f<;>first|rfl|cases h
theorem rM{f:Fm}{l:Lb}{b:List PyData}(h:nR f=true):gu f l b=[.str f.s,l.d,.tuple b]:=by cases f<;>first|rfl|cases h
theorem rN{f:Fm}{l:Lb}{d:PyData}(h:ma f=true):gu f l (d::ds)=.str f.s::d::l.d::ds:=by cases f<;>first|rfl|cases h
theorem vr{f:Fm}{l:Lb}(b:¬pX f=true)(h2:¬nR f=true)(c:¬f=.call)(e:¬ma f=true):gu f l ds=.str f.s::l.d::ds:=by cases f<;>first|rfl|exact T7 rfl b|exact T7 rfl h2|exact T7 rfl c|exact T7 rfl e
theorem nY{f:Fm}{l:Lb}{b:List PyData}(h:ig f l b.length)(c:f=.call\/ma f=true):∃d r,b=d::r:=by
 cases b with
 |cons d r=>exact⟨d,r,rfl⟩
 |nil=>
  cases f<;>cases l<;>first|(rcases c with c|c<;>cases c;done)|exact T7 h qQ|cases h
theorem kc(x:V)(xs:List V):bP (x::xs) (some 1) none=xs:=by
 rw[show(some (1:Int))=some ((1:Nat):Int)from rfl];unfold bP;simp[HT.bf]
inductive EA(K:X0)(vs:List V)(H:Hp)(Q:VK):Prop
 |mk(f:Fm)(l:Lb)(p:V0)(us:List V)(ds:List PyData)(a1:vs=[.str f.s,dS l,.ref p])(a2:ao K H p us)(a3:bb K H us ds)(a4:ig f l ds.length)(a5:ds.length<=100)(a6:∀r ws H',af H H'->ao K H' r ws->bb K H' ws (gu f l ds)->Q (.ref r) H'):EA K vs H Q
def zr(K:X0):Sp:=λ vs H Q ω=>EA K vs H Q
theorem Jq(T:∅):aO P w K mg base 1 "shape_of" ["form","label","parts"] (zr K):=by
 walk_at "h Ph MP 3"
 obtain⟨f,l,p,us,ds,rfl,e,j,n,hl,q⟩:=h;refine⟨_,(aw (bu (iu (r:=fH K false) g9 (ae 0) (bz (qK aX aX aX)) s!"k") (aC (aY (aB (r:=ki K) lA (bz (qI (ae 0))) (ae 2)))) bL) (aw (bu (iu (r:=fH K false) g9 (ae 0) (bz (qJ aX aX)) s!"k") (aC (aY (bz (qK (ae 0) (ae 1) (ae 2))))) bL) (aw (bu (qM cM (ae 0) aX) (aC (aY (bz (cg (ae 0) (qK (qA K 2) (ae 1) (g8 (r:=gN K) nW (ae 2) (gY az) gX)))))) bL) (aw (bu (iu (r:=fH K false) g9 (ae 0) (bz (qJ aX aX)) s!"k") (aC (aY (aB (r:=ki K) lA (bz (qK (ae 0) (qA K 2) (ae 1))) (g8 (r:=gN K) nW (ae 2) (gY az) gX)))) bL) (aC (aY (aB (r:=ki K) lA (bz (qJ (ae 0) (ae 1))) (ae 2)))))))),?_⟩;walk_at "r";have C:us.length<=100:=by rw[j.length];exact hl
 refine aE.of λ p1 H1 h1 U e1=>?_;refine⟨_,.inr (ao.of e1),rfl,rfl,?_⟩;rw[zf];refine ay (λ c=>?_) (λ cA=>?_)
 ·skip
  refine aE.of λ p2 H2 h2 D G=>?_;have S:=U.trans D;refine⟨_,_,_,_,rfl,rfl,ao.of G,e.same S,by rw[Qk];show 1+us.length<=_;lia,λ r o b hr=>q r _ o (S.trans b) hr ?_⟩;rw[y8 c];exact .cons (.str _) (j.same (S.trans b))
 refine aE.of λ p2 H2 h2 D G=>?_;refine⟨_,.inr (ao.of G),rfl,rfl,?_⟩;rw[pY];have u:=U.trans D;refine ay (λ c=>?_) (λ cN=>?_)
 ·skip
  refine aE.of λ X I B x J=>?_;have S:=u.trans x;refine q _ _ I S (ao.of J) ?_;rw[rM c];exact .cons (.str _) (.cons (uV l) (.cons (.tup (e.same S) (j.same S)) .nil))
 refine ay (λ c=>?_) (λ cC=>?_)
 ·obtain⟨d,r,rfl⟩:=nY n (.inl (sk f c));obtain⟨v,Y,rfl,L,g⟩:=j.inv;refine⟨_,e.same u,v,cL,?_⟩;refine⟨p,_,rfl,e.same u,λ X I x B=>?_⟩;rw[kc]at B;refine aE.of λ Z M h4 m y=>?_;have S:=u.trans (x.trans m);refine q _ _ M S (ao.of y) ?_;cases sk f c;exact .cons (.str _) (.cons (L.same S) (.cons (uV l) (.cons (.tup (B.same m) (g.same S)) .nil)))
 have N:¬f=.call:=λ z=>cC (by rw[z];rfl);refine aE.of λ X I B x J=>?_;refine⟨_,.inr (ao.of J),rfl,rfl,?_⟩;rw[nS];have O:=u.trans x;refine ay (λ c=>?_) (λ cF=>?_)
 ·obtain⟨d,r,rfl⟩:=nY n (.inr c);obtain⟨v,Y,rfl,L,g⟩:=j.inv;refine⟨_,e.same O,v,cL,?_⟩;refine aE.of λ Z M h4 m y=>?_;have i:=O.trans m;refine⟨p,_,rfl,e.same i,λ p5 H5 R h5=>?_⟩;rw[kc]at h5;refine⟨_,_,_,_,rfl,rfl,ao.of (R _ _ y),h5,by rw[Qk];show 3+Y.length<=_;simp at C;lia,λ r' o b hr=>q r' _ o (i.trans (R.trans b)) hr ?_⟩;rw[rN c];have S:=i.trans (R.trans b);exact .cons (.str _) (.cons (L.same S) (.cons (uV l) (g.same S)))
 refine aE.of λ Z M h4 m y=>?_;have i:=O.trans m;refine⟨_,_,_,_,rfl,rfl,ao.of y,e.same i,by rw[Qk];show 2+us.length<=_;lia,λ r o b hr=>q r _ o (i.trans b) hr ?_⟩;rw[vr cA cN N cF];exact .cons (.str _) (.cons (uV l) (j.same (i.trans b)))
inductive zK(K:X0)(vs:List V)(H:Hp)(Q:VK):Prop
 |mk(f:Fm)(l:Lb)(p:V0)(ws:List V)(ds:List PyData)(a1:vs=[.ref p])(a2:ao K H p ws)(a3:bb K H ws (gu f l ds))(a4:ig f l ds.length)(a5:ds.length<=100)(a6:∀r us H',af H H'->ao K H' r us->bb K H' us ds->Q (.ref r) H'):zK K vs H Q
def xn(K:X0):Sp:=λ vs H Q ω=>zK K vs H Q
inductive Et(K:X0)(vs:List V)(H:Hp)(Q:VK):Prop
 |mk(f:Fm)(l:Lb)(p:V0)(ws:List V)(ds:List PyData)(a1:vs=[.ref p])(a2:ao K H p ws)(a3:bb K H ws (gu f l ds))(a4:ig f l ds.length)(a5:∀H',af H H'->Q (dS l) H'):Et K vs H Q
def zI(K:X0):Sp:=λ vs H Q ω=>Et K vs H Q
theorem lN{f:Fm}{l:Lb}{b:List PyData}(h:ig f l b.length):∃r,gu f l b=.str f.s::r:=by
 by_cases c:f=.call\/ma f=true
 ·obtain⟨d,r,rfl⟩:=nY h c;rcases c with rfl|c
  ·exact⟨_,rfl⟩
  ·exact⟨_,rN c⟩
 ·by_cases e:pX f=true
  ·exact⟨_,y8 e⟩
  by_cases g:nR f=true
  ·exact⟨_,rM g⟩
  exact⟨_,vr e g (λ z=>c (.inl z)) (λ z=>c (.inr z))⟩
def vU:Fm->Bool| .nt| .iff=>true|_=>false
def vT:Fm->Bool| .two| .lt=>true|_=>false
def ER:Fm->Bool| .field| .call| .set=>true|_=>false
theorem EU(f:Fm):ij (V.str f.s) [V.str (Qp "not"),V.str (Qp "if")]=vU f:=by cases f<;>decide+kernel
theorem ET(f:Fm):ij (V.str f.s) [V.str (Qp "two"),V.str (Qp "let")]=vT f:=by cases f<;>decide+kernel
theorem ES(f:Fm):ij (V.str f.s) [V.str (Qp "field"),V.str (Qp "call"),V.str (Qp "set")]=ER f:=by cases f<;>decide+kernel
theorem EN{f:Fm}{l:Lb}(h:vU f=true):gu f l ds=.str f.s::ds:=by cases f<;>first|rfl|cases h
theorem EM{f:Fm}{l:Lb}(h:vT f=true):gu f l ds=.str f.s::l.d::ds:=by cases f<;>first|rfl|cases h
theorem pO{f:Fm}{l:Lb}{b:List PyData}(h:ig f l b.length)(c:¬vU f=true)(e:¬vT f=true)(g:¬nR f=true)(i:¬f=.call)(j:¬ma f=true):b=[]:=by
 cases f<;>cases l<;>first|exact sf.mp h|exact T7 rfl c|exact T7 rfl e|exact T7 rfl g|exact T7 rfl i|exact T7 rfl j|cases h
theorem j9{f:Fm}{l:Lb}{n:Nat}(h:ig f l n)(c:pX f=true):l=.non:=by
 cases f<;>cases l<;>first|rfl|(cases c;done)|cases h
theorem wc(x y:V)(xs:List V):bP (x::y::xs) (some 2) none=xs:=by
 rw[show(some (2:Int))=some ((2:Nat):Int)from rfl];unfold bP;simp[HT.bf]
theorem v_(x y z:V)(xs:List V):bP (x::y::z::xs) (some 3) none=xs:=by
 rw[show(some (3:Int))=some ((3:Nat):Int)from rfl];unfold bP;simp[HT.bf]
theorem Kn(T:∅):aO P w K mg base 1 "parts_of" ["plain"] (xn K):=by
 walk_at "h Pc GA 1"
 obtain⟨f,l,p,ws,ds,rfl,n,hw,j,hl,q⟩:=h;refine⟨_,(aw (qG 1 GA.nd (qA K 0)) (aw (bu (iu (r:=fH K false) g9 (ae 1) (bz (qJ aX aX)) s!"k") (aC (aY (g8 (r:=gN K) nW (ae 0) (gY az) gX))) bL) (aw (bu (iu (r:=fH K false) g9 (ae 1) (bz (qJ aX aX)) s!"k") (aC (aY (g8 (r:=gN K) nW (ae 0) (gY az) gX))) bL) (aw (bu (iu (r:=fH K false) g9 (ae 1) (bz (qJ aX aX)) s!"k") (aC (aY (qA K 0))) bL) (aw (bu (qM cM (ae 1) aX) (aC (aY (aB (r:=ki K) lA (bz (qI (qA K 0))) (qA K 0)))) bL) (aw (bu (iu (r:=fH K false) g9 (ae 1) (bz (qJ aX aX)) s!"k") (aC (aY (aB (r:=ki K) lA (bz (qI (qA K 0))) (g8 (r:=gN K) nW (ae 0) (gY az) gX)))) bL) (aC (aY (bz dO))))))))),?_⟩;walk_at "s 2 z";obtain⟨r0,g⟩:=lN j;have y:=hw;rw[g]at y;obtain⟨v0,o,rfl,J,b⟩:=y.inv;cases J.str_inv;refine⟨_,n,_,cL,?_⟩;walk_at "n z1";refine aE.of λ p1 H1 h1 B e1=>?_;refine⟨_,.inr (ao.of e1),rfl,rfl,?_⟩;rw[EU];refine ay (λ c=>?_) (λ cB=>?_)
 ·refine⟨p,_,rfl,n.same B,λ r u e hr=>?_⟩;rw[kc]at hr;rw[EN c]at g;cases g;exact q r _ u (B.trans e) hr (b.same (B.trans e))
 refine aE.of λ p2 H2 Z s2 e2=>?_;refine⟨_,.inr (ao.of e2),rfl,rfl,?_⟩;rw[ET];have C:=B.trans s2;refine ay (λ c=>?_) (λ cD=>?_)
 ·rw[EM c]at g;cases g;obtain⟨L,o,rfl,ω,b⟩:=b.inv;refine⟨p,_,rfl,n.same C,λ r u e hr=>?_⟩;rw[wc]at hr;exact q r _ u (C.trans e) hr (b.same (C.trans e))
 refine aE.of λ p3 H3 h3 s3 e3=>?_;refine⟨_,.inr (ao.of e3),rfl,rfl,?_⟩;rw[pY];have v:=C.trans s3;refine ay (λ c=>?_) (λ cN=>?_)
 ·rw[rM c]at g;cases g;obtain⟨L,o,rfl,ω,b⟩:=b.inv;obtain⟨v2,o,rfl,Z,ω⟩:=b.inv;obtain⟨a,us,rfl,M,D⟩:=Z.tup_inv;exact⟨_,n.same v,_,pW,q a us H3 v (M.same v) (D.same v)⟩
 refine ay (λ c=>?_) (λ cC=>?_)
 ·obtain⟨d,r,rfl⟩:=nY j (.inl (sk f c));cases sk f c;cases g;obtain⟨L,o,rfl,x,b⟩:=b.inv;obtain⟨v2,o,rfl,ω,b⟩:=b.inv;obtain⟨v3,o,rfl,N,ω⟩:=b.inv;obtain⟨a,us,rfl,M,D⟩:=N.tup_inv;refine⟨_,n.same v,_,eB,?_⟩;refine aE.of λ p4 H4 h4 O R=>?_;have m:=v.trans O;refine⟨_,n.same m,_,nQ,_,_,_,_,rfl,rfl,ao.of R,M.same m,?_,λ S u e hr=>q S _ u (m.trans e) hr (.cons (x.same (m.trans e)) (D.same (m.trans e)))⟩;rw[Qk,D.length];simp only[dv,pD]at hl ⊢;lia
 have U:¬f=.call:=λ z=>cC (by rw[z];rfl);refine aE.of λ p4 H4 h4 O R=>?_;refine⟨_,.inr (ao.of R),rfl,rfl,?_⟩;rw[nS];have m:=v.trans O;refine ay (λ c=>?_) (λ cF=>?_)
 ·obtain⟨d,r,rfl⟩:=nY j (.inr c);rw[rN c]at g;cases g;obtain⟨L,o,rfl,x,b⟩:=b.inv;obtain⟨v2,o,rfl,ω,b⟩:=b.inv;refine⟨_,n.same m,_,eB,?_⟩;refine aE.of λ p5 H5 h5 X Y=>?_;have G:=m.trans X;refine⟨p,_,rfl,n.same G,λ p6 H6 I h6=>?_⟩;rw[v_]at h6;refine⟨_,_,_,_,rfl,rfl,ao.of (I _ _ Y),h6,?_,λ S u e hr=>q S _ u (G.trans (I.trans e)) hr (.cons (x.same (G.trans (I.trans e))) (b.same (G.trans (I.trans e))))⟩;rw[Qk,b.length];simp only[dv,pD]at hl ⊢;lia
 refine aE.of λ p5 H5 h5 X Y=>?_;cases pO j cB cD cN U cF;exact q _ _ H5 (m.trans X) (ao.of Y) .nil
theorem KQ(T:∅):aO P w K mg base 1 "label_of" ["plain"] (zI K):=by
 walk_at "h Pb Gz 1"
 obtain⟨f,l,p,X,B,rfl,u,L,g,q⟩:=h;refine⟨_,(aw (qG 1 Gz.nd (qA K 0)) (aw (bu (iu (r:=fH K false) g9 (ae 1) (bz (qK aX aX aX)) s!"k") (aC (aY fj)) bL) (aw (bu (iu (r:=fH K false) g9 (ae 1) (bz (qK aX aX aX)) s!"k") (aC (aY (qA K 0))) bL) (aC (aY (qA K 0)))))),?_⟩;walk_at "s 2 z";obtain⟨Y,j⟩:=lN g;have m:=L;rw[j]at m;obtain⟨Z,v,rfl,x,e⟩:=m.inv;cases x.str_inv;refine⟨_,u,_,cL,?_⟩;walk_at "n z1";refine aE.of λ p1 M h1 C N=>?_;refine⟨_,.inr (ao.of N),rfl,rfl,?_⟩;rw[zf];refine ay (λ c=>?_) (λ O=>?_)
 ·cases j9 g c;exact q M C
 refine aE.of λ p2 D G R S=>?_;refine⟨_,.inr (ao.of S),rfl,rfl,?_⟩;rw[ES];have n:=C.trans R;refine ay (λ c=>?_) (λ I=>?_)
 ·have o:f=.call\/ma f=true:=by cases f<;>first|exact .inl rfl|exact .inr rfl|cases c
  obtain⟨d,r,rfl⟩:=nY g o;have b:∃r2,gu f l (d::r)=.str f.s::d::l.d::r2:=by
   rcases o with rfl|o
   ·exact⟨_,rfl⟩
   ·exact⟨_,rN o⟩
  obtain⟨r2,b⟩:=b;rw[b]at j;cases j;obtain⟨U,v,rfl,ω,e⟩:=e.inv;obtain⟨v2,v,rfl,G,ω⟩:=e.inv;cases C4 G;exact⟨_,u.same n,_,pW,q D n⟩
 have b:∃r2,gu f l B=.str f.s::l.d::r2:=by
  by_cases J:nR f=true
  ·exact⟨_,rM J⟩
  ·refine⟨_,vr O J (λ z=>I (by rw[z];rfl)) (λ z=>I ?_)⟩;cases f<;>first|rfl|cases z
 obtain⟨r2,b⟩:=b;rw[b]at j;cases j;obtain⟨U,v,rfl,y,ω⟩:=e.inv;cases C4 y;exact⟨_,u.same n,_,eB,q D n⟩
inductive An(C:V0)(K:X0)(vs:List V)(H:Hp)(Q:VK):Prop
 |mk(v:V)(t:Tm)(a1:vs=[v])(a2:TO K C H v t)(a3:∀u,RT K H u t.dat->Q u H):An C K vs H Q
def tL(C:V0)(K:X0):Sp:=λ vs H Q ω=>An C K vs H Q
inductive z_(C:V0)(K:X0)(vs:List V)(H:Hp)(Q:VK):Prop
 |mk(v:V)(t:Tm)(a1:vs=[v])(a2:TO K C H v t)(a3:∀l us,H l=none->cE K C H us t.ps->Q (.ref l) (ag H l (.lst us))):z_ C K vs H Q
def xo(C:V0)(K:X0):Sp:=λ vs H Q ω=>z_ C K vs H Q
inductive AB(C:V0)(K:X0)(vs:List V)(H:Hp)(Q:VK):Prop
 |mk(v:V)(t:Tm)(a1:vs=[v])(a2:TO K C H v t)(a3:Q (.int (t.depth:Nat)) H):AB C K vs H Q
def AU(C:V0)(K:X0):Sp:=λ vs H Q ω=>AB C K vs H Q
inductive Ey(C:V0)(K:X0)(vs:List V)(H:Hp)(Q:VK):Prop
 |mk(v:V)(t:Tm)(a1:vs=[v])(a2:TO K C H v t)(a3:Q (.int (t.size:Nat)) H):Ey C K vs H Q
def Eu(C:V0)(K:X0):Sp:=λ vs H Q ω=>Ey C K vs H Q
theorem Ll(T:∅):aT P w K mg base 1 Ct "plain" ["self"] (tL Ct K):=by
 walk_at "m m_Term_plain MZ 1"
 obtain⟨v,t,rfl,h,q⟩:=h;refine⟨_,(aC (aY (qO 0))),?_⟩;walk_at "r";obtain⟨a,b,c,e,us,n,rfl,g,o,i,j,m⟩:=h.inv;refine⟨a,rfl,Ct,b,_,g,T.Term.cl,T.n_Term_shape,.ref e,rfl,q _ ?_⟩;cases t;exact .tup j m
theorem Mt(T:∅):aT P w K mg base 1 Ct "parts" ["self"] (xo Ct K):=by
 walk_at "m m_Term_parts MW 1"
 obtain⟨v,t,rfl,h,q⟩:=h;refine⟨_,(aC (aY (d7 qX rfl T.lJ mL (qI (qO 0))))),?_⟩;walk_at "r";obtain⟨a,e,b,j,us,m,rfl,g,i,c,n,o⟩:=h.inv;exact⟨a,rfl,Ct,e,_,g,T.Term.cl,T.n_Term_inner,.ref b,rfl,b,rfl,us,.inr i,λ l hl=>q l us hl c⟩
theorem Mp(T:∅):aT P w K mg base 1 Ct "depth" ["self"] (AU Ct K):=by
 walk_at "m m_Term_depth MX 1"
 obtain⟨v,t,rfl,h,q⟩:=h;refine⟨_,(aC (aY (qO 0))),?_⟩;walk_at "r";obtain⟨a,b,c,i,us,j,rfl,e,m,g,n,o⟩:=h.inv;exact⟨a,rfl,Ct,b,_,e,T.Term.cl,T.n_Term_deep,.int (t.depth:Nat),rfl,q⟩
theorem Jw(T:∅):aT P w K mg base 1 Ct "size" ["self"] (Eu Ct K):=by
 walk_at "m m_Term_size MS 1"
 obtain⟨v,t,rfl,h,q⟩:=h;refine⟨_,(aC (aY (qO 0))),?_⟩;walk_at "r";obtain⟨a,b,c,i,us,j,rfl,e,m,g,n,o⟩:=h.inv;exact⟨a,rfl,Ct,b,_,e,T.Term.cl,T.n_Term_many,.int (t.size:Nat),rfl,q⟩
inductive zq(C:V0)(K:X0)(vs:List V)(H:Hp)(Q:VK):Prop
 |mk(x dx p:V0)(f:Fm)(l:Lb)(us:List V)(ps:List Tm)(a1:vs=[.ref x,.str f.s,dS l,.ref p])(a2:H x=some (.ins C dx []))(a3:ai K H p us)(a4:cE K C H us ps)(a5:ig f l ps.length)(a6:ps.length<=100)(a7:∀H',SX x H H'->TO K C H' (.ref x) (.mk f l ps)->Q .non H'):zq C K vs H Q
def zD(C:V0)(K:X0):Sp:=λ vs H Q ω=>zq C K vs H Q
variable{ts:List Tm}
theorem HQ{m:Int}(e:ts.map (λ t=>((t.depth:Nat):Int))=[]->m=0)(g:ts.map (λ t=>((t.depth:Nat):Int))≠[]->rq (ts.map λ t=>((t.depth:Nat):Int)) m):m=((bW ts:Nat):Int):=by
 cases ts with
 |nil=>exact e rfl
 |cons t ts=>
  obtain⟨h,c⟩:=g s!"n";obtain⟨u,i,rfl⟩:=bE.mp h;have a:=DH i;have b:bW (t::ts)<=u.depth:=Dt λ v j=>by
   have:=c _ (bE.mpr ⟨v,j,rfl⟩);lia
  lia
theorem C7:∀ts:List Tm,(ts.map λ t=>((t.size:Nat):Int)).sum=((cW ts:Nat):Int)
 |[]=>rfl
 |t::ts=>by
  rw[eP,List.sum_cons,C7 ts];show _=((t.size+cW ts:Nat):Int);lia
variable{vs:List V}
theorem jv{c:Type}{g:c->V}{ts:List c}(hl:vs.length=ts.length)(h:∀(j:Nat) v,vs[j]?=some v->∃t,ts[j]?=some t/\v=g t):vs=ts.map g:=by
 refine lS λ j=>?_;rw[a_];by_cases e:j<vs.length
 ·obtain⟨t,a,b⟩:=h j _ (aV e);rw[aV e,a,b];rfl
 ·rw[ic qR,ic qR];rfl
variable{H' H:Hp}
theorem iZ(s:i5 H H'):Kp H H':=⟨λ b e h=>s b _ (λ c z=>by cases z) h,λ b o e h=>s b _ (λ c z=>by cases z) h,λ b C g f fs h=>s b _ (λ c z=>by cases z) h⟩
theorem HL{K:X0}:∀{ts:List Tm}{vs:List V},vs.length=ts.length->(∀(j:Nat) v,vs[j]?=some v->∃t,ts[j]?=some t/\RT K H v t.dat)->bb K H vs (bO ts):=λ{ts vs} hl h=>by
 have z:A2 (λ v (t:Tm)=>RT K H v t.dat) vs ts:=A2.of hl h;clear hl h;induction z with
 |nil=>exact .nil
 |cons a _ b=>exact .cons a b
theorem JZ(T:∅)(J:aO P w K mg base 1 "shape_of" ["form","label","parts"] (zr K))(B:aT P w K mg base 1 Ct "plain" ["self"] (tL Ct K))(G:aT P w K mg base 1 Ct "depth" ["self"] (AU Ct K))(I:aT P w K mg base 1 Ct "size" ["self"] (Eu Ct K)):aT P w K mg base 2 Ct "__init__" ["self","form","label","parts"] (zD Ct K):=by
 walk_at "m m_Term___init__ M5 4"
 obtain⟨x,n,p,f,l,us,ps,rfl,hx,hp,hu,d0,hl,q⟩:=h;refine⟨_,(aw (f9 (ae 0) (ae 1) rfl) (aw (f9 (ae 0) (ae 2) rfl) (aw (f9 (ae 0) (d7 gG rfl T.gK gH (qI (ae 3))) rfl) (aw (f9 (ae 0) (aB cU az (HF rfl rfl T.z_max HP (qI (eF rfl (ak.plain (N:=["part"]) rfl qP qP qP) (eY (qO 0)) (λ C fp s H=>(qH 0 (show(["part"]:List V2).Nodup by decide+kernel))) (λ C fp s H=>(jK (ae 0) T.Term.cl G hr qR)))) (Jg az HV))) rfl) (aw (f9 (ae 0) (aB cU az (gI (zP rfl) rfl T.z_sum CA (qI (eF rfl (ak.plain (N:=["part"]) rfl qP qP qP) (eY (qO 0)) (λ C fp s H=>(qH 0 (show(["part"]:List V2).Nodup by decide+kernel))) (λ C fp s H=>(jK (ae 0) T.Term.cl I hr qR)))))) rfl) (aC (f9 (ae 0) (bq J hr qR rfl (qK (ae 1) (ae 2) (d7 gG rfl T.gK gH (qI (eF rfl (ak.plain (N:=["part"]) rfl qP qP qP) (eY (qO 0)) (λ C fp s H=>(qH 0 (show(["part"]:List V2).Nodup by decide+kernel))) (λ C fp s H=>(jK (ae 0) T.Term.cl B hr qR))))))) rfl))))))),?_⟩;walk_at "s 6 z";refine⟨Ct,n,_,hx,T.Term.cl,T.n_Term_form,fZ rfl,?_⟩;walk_at "n z1";refine⟨Ct,n,_,aG,T.Term.cl,T.n_Term_label,fZ rfl,?_⟩;walk_at "n z2";have S1:SX x H (ag (ag H x (.ins Ct n (aj "form" (.str f.s) []))) x (.ins Ct n (aj "label" (dS l) (aj "form" (.str f.s) [])))):=(SX.put _).trans (SX.put _);have X1:ag (ag H x (.ins Ct n (aj "form" (.str f.s) []))) x (.ins Ct n (aj "label" (dS l) (aj "form" (.str f.s) []))) x=some (.ins Ct n (aj "label" (dS l) (aj "form" (.str f.s) []))):=aG;generalize ag (ag H x (.ins Ct n (aj "form" (.str f.s) []))) x (.ins Ct n (aj "label" (dS l) (aj "form" (.str f.s) [])))=L at*;refine⟨us,.inl ⟨S1.sqL hx hp,λ c M=>?_⟩⟩;have nx:c≠x:=λ z=>bS X1 M z.symm;have s2:=bM M (.tup us);refine⟨Ct,n,_,s2 _ _ X1,T.Term.cl,T.n_Term_inner,fZ rfl,?_⟩;have S2:SX x H (ag (ag L c (.tup us)) x (.ins Ct n (aj "inner" (.ref c) (aj "label" (dS l) (aj "form" (.str f.s) []))))):=S1.trans ((SX.of s2).trans (SX.put _));have X2:ag (ag L c (.tup us)) x (.ins Ct n (aj "inner" (.ref c) (aj "label" (dS l) (aj "form" (.str f.s) [])))) x=some (.ins Ct n (aj "inner" (.ref c) (aj "label" (dS l) (aj "form" (.str f.s) [])))):=aG;have I2:ag (ag L c (.tup us)) x (.ins Ct n (aj "inner" (.ref c) (aj "label" (dS l) (aj "form" (.str f.s) [])))) c=some (.tup us):=by rw[aD nx];exact aG
 clear s2 M X1 S1;generalize ag (ag L c (.tup us)) x (.ins Ct n (aj "inner" (.ref c) (aj "label" (dS l) (aj "form" (.str f.s) []))))=H2 at*;have S:us.length=ps.length:=hu.length;have U2:cE K Ct H2 us ps:=hu.kp (S2.kp hx);walk_at "n z3";refine⟨Ct,n,_,X2,T.Term.cl,T.n_Term_inner,.ref c,rfl,c,rfl,⟨_,ao.of I2⟩,λ D U=>?_⟩;refine iy (ys:=us) none [] (λ j v H=>∃t,ps[j]?=some t/\v=.int ((t.depth:Nat):Int)) (λ ω ω ω ω h ω=>h) rfl U (by rw[Qk];lia) (λ L s=>ao.of (s _ _ I2)) (λ i y hy L K' s k=>?_) (λ vs Ha Sa X lv Y=>?_)
 ·walk_at "r";obtain⟨t,ht,o⟩:=U2.at hy;have o:=o.kp (Kp.of s);obtain⟨a,O,R,a0,b0,c0,rfl,ha,ω⟩:=o.inv;exact⟨a,rfl,O,_,ha,rfl,_,t,rfl,o,k _ _ (af.refl _) ⟨t,ht,rfl⟩⟩
 cases jv (g:=λ t:Tm=>V.int ((t.depth:Nat):Int)) (lv.trans S) Y;refine⟨D,rfl,ps.map λ t=>((t.depth:Nat):Int),by rw[dH];exact ai.of X,λ m m0 m1=>?_⟩;cases HQ m0 m1;refine⟨Ct,n,_,Sa _ _ X2,T.Term.cl,T.n_Term_deep,fZ rfl,?_⟩;have S3:SX x H2 (ag Ha x (.ins Ct n s!"b")):=(SX.of Sa).trans (SX.put _);have X3:ag Ha x (.ins Ct n s!"b") x=some (.ins Ct n s!"b"):=aG;clear X Y U Sa;generalize ag Ha x (.ins Ct n s!"b")=H3 at*;have I3:=S3 _ _ nx I2;have U3:cE K Ct H3 us ps:=hu.kp ((S2.trans S3).kp hx);walk_at "n z4";refine⟨Ct,n,_,X3,T.Term.cl,T.n_Term_inner,.ref c,rfl,c,rfl,⟨_,ao.of I3⟩,λ D U=>?_⟩;refine iy (ys:=us) none [] (λ j v H=>∃t,ps[j]?=some t/\v=.int ((t.size:Nat):Int)) (λ ω ω ω ω h ω=>h) rfl U (by rw[Qk];lia) (λ L s=>ao.of (s _ _ I3)) (λ i y hy L K' s k=>?_) (λ vs Hb Sb X lv Y=>?_)
 ·walk_at "r";obtain⟨t,ht,o⟩:=U3.at hy;have o:=o.kp (Kp.of s);obtain⟨a,O,R,a0,b0,c0,rfl,ha,ω⟩:=o.inv;exact⟨a,rfl,O,_,ha,rfl,_,t,rfl,o,k _ _ (af.refl _) ⟨t,ht,rfl⟩⟩
 cases jv (g:=λ t:Tm=>V.int ((t.size:Nat):Int)) (lv.trans S) Y;refine⟨D,rfl,ps.map (λ t=>((t.size:Nat):Int)),by rw[dH];exact ai.of X,?_⟩;rw[C7];refine⟨Ct,n,_,Sb _ _ X3,T.Term.cl,T.n_Term_many,fZ rfl,?_⟩;have S4:SX x H3 (ag Hb x (.ins Ct n (aj "many" (.int (1+((cW ps:Nat):Int))) s!"b"))):=(SX.of Sb).trans (SX.put _);have X4:ag Hb x (.ins Ct n (aj "many" (.int (1+((cW ps:Nat):Int))) s!"b")) x=some (.ins Ct n (aj "many" (.int (1+((cW ps:Nat):Int))) s!"b")):=aG;clear X Y U Sb;generalize ag Hb x (.ins Ct n (aj "many" (.int (1+((cW ps:Nat):Int))) s!"b"))=H4 at*;have I4:=S4 _ _ nx I3;have Z:SX x H H4:=S2.trans (S3.trans S4);have U4:cE K Ct H4 us ps:=hu.kp (Z.kp hx);walk_at "n z5";refine⟨Ct,n,_,X4,T.Term.cl,T.n_Term_inner,.ref c,rfl,c,rfl,⟨_,ao.of I4⟩,λ D U=>?_⟩;refine iy (ys:=us) none [] (λ j v H=>∃t,ps[j]?=some t/\RT K H v t.dat) (λ j v L H2 ⟨t,a,b⟩ s=>⟨t,a,b.kp (iZ s)⟩) rfl U (by rw[Qk];lia) (λ L s=>ao.of (s _ _ I4)) (λ i y hy L K' s k=>?_) (λ vs Hc Sc X lv Y=>?_)
 ·walk_at "r";obtain⟨t,ht,o⟩:=U4.at hy;have o:=o.kp (Kp.of s);obtain⟨a,O,R,a0,b0,c0,rfl,ha,ω⟩:=o.inv;exact⟨a,rfl,O,_,ha,rfl,_,t,rfl,o,λ u e0=>k _ _ (af.refl _) ⟨t,ht,e0⟩⟩
 have hd:=HL (lv.trans S) Y;refine⟨D,rfl,vs,.inl ⟨ai.of X,λ t5 h5=>?_⟩⟩;have s5:=bM h5 (.tup vs);refine⟨f,l,t5,vs,bO ps,rfl,ao.of aG,hd.same s5,by rw[ir];exact d0,by rw[ir];exact hl,λ r ws H6 s6 hr hw=>?_⟩;refine⟨Ct,n,_,s6 _ _ (s5 _ _ (Sc _ _ X4)),T.Term.cl,T.n_Term_shape,fZ rfl,?_⟩;have S6:SX x H4 H6:=SX.of (Sc.trans (s5.trans s6));have X6:=S6;have S7:SX x H6 (ag H6 x (.ins Ct n (aj "shape" (.ref r) (aj "many" (.int (1+((cW ps:Nat):Int))) s!"b")))):=SX.put _;have x6:=s6 _ _ (s5 _ _ (Sc _ _ X4));have k6:Kp H (ag H6 x (.ins Ct n (aj "shape" (.ref r) (aj "many" (.int (1+((cW ps:Nat):Int))) s!"b")))):=(Z.trans (S6.trans S7)).kp hx;refine q _ (Z.trans (S6.trans S7)) ?_;have e:((aj "shape" (.ref r) (aj "many" (.int (1+((cW ps:Nat):Int))) s!"b")):List (V2×V))=qf f l c r (1+bW ps) (1+cW ps):=by
  unfold qf;rw[gP,gP];rfl
 have x7:ag H6 x (.ins Ct n (aj "shape" (.ref r) (aj "many" (.int (1+((cW ps:Nat):Int))) s!"b"))) x=some (.ins Ct n (qf f l c r (1+bW ps) (1+cW ps))):=by rw[aG,e]
 refine .mk x7 (ao.of (S7 _ _ nx (S6 _ _ nx I4))) (hu.kp k6) (S7.sqT x6 hr) ?_;exact hw.kt (Kt.put _ x6 (λ ω z=>by cases z) (λ ω ω z=>by cases z))
inductive Au(K:X0)(vs:List V)(H:Hp)(Q:VK):Prop
 |mk(v:V)(t:Tm)(a1:vs=[v])(a2:RT K H v t.dat)(a3:Ok t)(a4:t.flat.length<=100)(a5:∀l us H',af H H'->H l=none->H' l=some (.lst us)->bb K H' us (bO t.flat)->Q (.ref l) H'):Au K vs H Q
def Ao(K:X0):Sp:=λ vs H Q ω=>Au K vs H Q
theorem zX{K:X0}:∀{c es:List PyData}{vs:List V},bb K H vs (c++es)->∃xs ys,vs=xs++ys/\bb K H xs c/\bb K H ys es
 |[],es,vs,h=>⟨[],vs,rfl,.nil,h⟩
 |d::c,es,_,.cons a b=>by
  obtain⟨xs,ys,rfl,e,g⟩:=zX b;exact⟨_::xs,ys,rfl,.cons a e,g⟩
theorem xv:∀ts:List Tm,ts.length<=(aU ts).length
 |[]=>aS _
 | .mk f l ps::ts=>by
  show ts.length+1<=(aU ts++(Tm.mk f l ps::aU ps)).length;rw[bB,dv];have:=xv ts;lia
theorem Mq(t:Tm):aU [t]=t::aU t.ps:=by
 cases t;rfl
noncomputable def WI(K:X0)(H0:Hp)(t:Tm)(v:V)(p1 p2:V0)(m:Nat)(σ:St)(H':Hp):Prop:=∃us vs w B b,af H0 H'/\H' p1=some (.lst us)/\bb K H' us (bO w)/\H' p2=some (.lst vs)/\bb K H' vs (bO B)/\t.flat=w++aU B/\m=(aU B).length/\(∀x∈B,Ok x)/\σ=[some v,some (.ref p1),some (.ref p2),b]
theorem LZ(T:∅)(c:aO P w K mg base 1 "parts_of" ["plain"] (xn K)):aO P w K mg base 2 "all_within" ["plain"] (Ao K):=by
 walk_at "h OZ yl 1"
 obtain⟨v,t,rfl,hv,ok,hz,q⟩:=h;refine⟨_,(aw (qG 1 yl.nd (bK dO)) (aw (qG 2 yl.nd (bK (qI (ae 0)))) (aw (xj Qs (Ic (ae 2) (λ ω=>rfl)) (aw (qG 3 yl.nd (yO eu PySem.F.slot_list_pop PySem.F.type_list_pop CV (ae 2))) (aw (d8 (eE eu fY fX fK (ae 1) (qI (ae 3)))) (aC (d8 (eE (r:=wX K) eu PySem.F.slot_list_extend PySem.F.type_list_extend MA (ae 2) (qI (bq c hr qR rfl (qI (ae 3)))))))))) (aC (aY (ae 1)))))),?_⟩;walk_at "s 4 z";refine aE.of λ g H1 h1 R e1=>?_;walk_at "n z1";refine aE.of λ p2 H2 h2 U e2=>?_;walk_at "n z2";refine II (WI K H t v g p2) ⟨[],[v],[],[t],none,R.trans U,U _ _ e1,.nil,e2,.cons (hv.same (R.trans U)) .nil,?_,rfl,λ x j=>by rw[cu.mp j];exact ok,rfl⟩ (λ m σ C h=>?_) LU
 ·show t.flat=[]++([]++t.flat);rfl
 obtain⟨us,vs,w,B,o3,S,G,X,e,Y,D,hm,I,rfl⟩:=h;walk_at "r";have y:g≠p2:=bS e1 h2;have n1:H g=none:=h1;have n2:H p2=none:=R.free h2;have e0:us.length<=100:=by
  rw[X.length,ir];have:=congrArg gB D;rw[bB]at this;lia
 refine⟨vs,ai.of e,?_⟩;cases J:B.length with
 |zero=>
  cases sf.mp J;cases Y.nil_inv;refine ay (λ z=>by cases z) (λ ω=>?_);walk_at "n z3";refine q g us C S n1 G ?_;rw[D,show aU ([]:List Tm)=[]from rfl,gD];exact X
 |succ n=>
  obtain⟨B,b,rfl,ω⟩:=P15.wz J;rw[n_]at Y;obtain⟨vs,ys,rfl,L,hy⟩:=zX Y;obtain⟨u,r0,rfl,Z,a0⟩:=hy.inv;cases a0.nil_inv;have b0:=I b s!"n";obtain⟨f,l,ps⟩:=b;obtain⟨of,op⟩:ig f l ps.length/\∀p∈ps,Ok p:=by cases b0 with|mk a b=>exact⟨a,b⟩
  obtain⟨a,ws,rfl,hq,hw⟩:=Z.tup_inv;rw[P15.tO,Mq]at D hm;have c0:ps.length<=100:=by
   have d0:t.flat=w++(Tm.mk f l ps::aU ps++aU B):=D;have:=congrArg gB d0;simp only[bB,dv]at this;have:=xv ps;lia
  refine ay (λ ω=>?_) (λ z=>T7 (by cases vs<;>rfl) z);refine⟨.inl ⟨rfl,_,ai.of e⟩,_,e,.ref a,by simp,?_⟩;rw[rT];have g1:ag C p2 (.lst vs) g=some (.lst us):=by rw[aD y];exact G
  have g2:ag (ag C p2 (.lst vs)) g (.lst (us++[.ref a])) p2=some (.lst vs):=by rw[aD y.symm];exact aG
  have k2:Kp C (ag (ag C p2 (.lst vs)) g (.lst (us++[.ref a]))):=(Kp.lst _ e).trans (Kp.lst _ g1);refine⟨.inl ⟨rfl,_,ai.of g1⟩,us,g1,qR,.inl ⟨rfl,_,ai.of g2⟩,f,l,a,ws,bO ps,rfl,ao.kp hq k2,hw.kp k2,by rw[ir];exact of,by rw[ir];exact c0,λ r us2 H5 M hr hus2=>?_⟩;have f0:vs.length<=100:=by
   rw[L.length,ir];have:=congrArg gB D;simp only[bB,dv]at this;have:=xv B;lia
  have g5:=M _ _ g2;have N:Kp C (ag H5 p2 (.lst (vs++us2))):=k2.trans ((Kp.of M).trans (Kp.lst _ g5));refine⟨r,rfl,vs,g5,us2,hr,by rw[hus2.length,ir];lia,(aU (B++ps)).length,?_,us++[.ref a],vs++us2,w++[.mk f l ps],B++ps,_,λ b o O=>?_,?_,?_,aG,?_,?_,rfl,λ x j=>?_,rfl⟩
  ·rw[hm,P15.tO];exact jl _
  ·rw[aD (bS O n2)];refine M _ _ ?_;rw[aD (bS O n1),aD (bS O n2)];exact S _ _ O
  ·rw[aD y];exact M _ _ aG
  ·rw[n_];exact(X.kp N).app (.cons (.tup (ao.kp hq N) (hw.kp N)) .nil)
  ·rw[n_];exact(L.kp N).app (hus2.kp (Kp.lst _ g5))
  ·rw[P15.tO,iX];exact D
  ·rcases dy.mp j with j|j
   ·exact I x (nM _ j)
   ·exact op x j
inductive AA(C:V0)(K:X0)(vs:List V)(H:Hp)(Q:VK):Prop
 |mk(v:V)(t:Tm)(a1:vs=[v])(a2:RT K H v t.dat)(a3:Ok t)(a4:t.flat.length<=100)(a5:∀u H',af H H'->TO K C H' u t->Q u H'):AA C K vs H Q
def Al(C:V0)(K:X0):Sp:=λ vs H Q ω=>AA C K vs H Q
variable{x:V0}{xs:List V}
theorem SX.kpl(s:SX x H H')(c:H x=some (.lst xs)):Kp H H':=
 ⟨λ b xs h=>s b _ (λ z=>by rw[z,c]at h;cases h) h,λ b o xs h=>s b _ (λ z=>by rw[z,c]at h;cases h) h,λ b C e f fs h=>s b _ (λ z=>by rw[z,c]at h;cases h) h⟩
theorem Ee:∀ts:List Tm,bO ts.reverse=(bO ts).reverse
 |[]=>rfl
 |t::ts=>by rw[j7,n_,Ee];show _=(t.dat::bO ts).reverse;rw[j7];rfl
theorem DL{K:X0}:∀{vs:List V}{c:List PyData},bb K H vs c->bb K H vs.reverse c.reverse
 |_,_,.nil=>.nil
 |_,_,.cons a b=>by rw[j7,j7];exact(DL b).app (.cons a .nil)
mutual
theorem DF:∀(t:Tm),Ok t->∀x∈t.flat,Ok x
 | .mk f l ps,h,x,c=>by
  rcases bH.mp c with rfl|c
  ·exact h
  ·cases h with
   |mk a b=>exact gm ps b x c
theorem gm:∀(ts:List Tm),(∀p∈ts,Ok p)->∀x∈aU ts,Ok x
 |t::ts,h,x,b=>by
  rcases dy.mp b with b|b
  ·exact gm ts (λ p c=>h p (dz _ c)) x b
  ·exact DF t (h t dR) x b
end
theorem IU{b:Type}{xs:List b}{y:b}:(xs++[y])[(xs++[y]).length-1]?=some y:=by simp
theorem IB{w S:List Tm}(h:cG w S):S.length<=w.length:=by
 induction h with
 |nil=>exact aS _
 |snoc _ b=>
  rw[bB]at b ⊢;rw[bB];show _+1<=_+1;lia
noncomputable def FI(K:X0)(C:V0)(H2:Hp)(t:Tm)(v:V)(p1:V0)(i:Nat)(σ:St)(H':Hp):Prop:=∃b S c e,SX p1 H2 H'/\H' p1=some (.lst b)/\cG (t.flat.reverse.take i) S/\TM.cE K C H' b S/\σ=[some v,some (.ref p1),c,e]
theorem LH(T:∅)(G:aO P w K mg base 1 "parts_of" ["plain"] (xn K))(I:aO P w K mg base 1 "label_of" ["plain"] (zI K))(g:aO P w K mg base 2 "all_within" ["plain"] (Ao K))(c:aT P w K mg base 2 Ct "__init__" ["self","form","label","parts"] (zD Ct K)):aO P w K mg base 4 "term_of" ["plain"] (Al Ct K):=by
  refine aO.of T.Gv uR (λ ω ω ω ω ω ω us hl=>el1 us hl λ ω=>rfl) (λ vs H Q E h=>?_) (λ f cdv A outer s H vs Q E hr h=>?_)
  · obtain⟨v,t,rfl,ω⟩:=h;rfl
  obtain⟨v,t,rfl,hv,ok,hz,q⟩:=h;refine⟨_,(aw (jH (i:=1) uR.nd rfl (Or.inr rfl) (bK dO)) (aw (eZ Qs rfl (Hk rfl T.BQ Fc (qI (bq g hr qR rfl (qI (ae 0))))) (qH 2 uR.nd) (aw (jL rfl uR.nd (i:=3) rfl rfl (ak.of (N:=["part","built"]) (nl:=[none,some 1]) (cl:=[("built",s.heap.objs.size+1)]) rfl qP qP rfl (ei rfl) (nm:=["built"]) rfl qP rfl (λ i hi j hj=>by
            match i,hi with
            | 0,_=>cases hj
             |1,_=>cases hj;exact s!"e"
            )) (eY (bq G hr qR rfl (qI (ae 2)))) (λ C fp s H=>(qH 0 (show(["part","built"]:List V2).Nodup by decide+kernel))) (λ C fp s H=>(show PE _ _ (lO K "list" lQ _)from yO eu PySem.F.slot_list_pop PySem.F.type_list_pop CV (ae 1)))) (aC (d8 (eE eu fY fX fK (ae 1) (qI (qj T.Term c hr qR rfl (qK (qA K 2) (bq I hr qR rfl (qI (ae 2))) (Ir rfl rfl rfl T.lJ T.BQ (qI (ae 3))))))))))) (aC (aY (qD K (ae 1) az))))),?_⟩
  walk_at "s 3 z";refine aE.of λ p1 H1 h1 s1 e1=>?_;walk_at "n z1";refine⟨v,t,rfl,hv.same s1,ok,hz,λ a us H2 s2 m0 ha b0=>⟨a,rfl,us,ai.of ha,?_⟩⟩;have e2:=s2 _ _ e1;have n0:a≠p1:=λ z=>bS e1 m0 z.symm;have Z:cG t.flat.reverse [t]:=P15.cG.flat t (w:=[]) (B:=[]) .nil;have c0:us.length=t.flat.length:=by rw[b0.length,ir]
  refine J9 us (FI K Ct H2 t v p1) ⟨[],[],none,none,λ ω ω ω h=>h,e2,.nil,.nil,rfl⟩ (λ i σ H' ω h=>?_) (λ i x σ H' hx h=>?_) (λ σ H' h=>?_)
  · obtain⟨os,S,o2,o3,sx,ω⟩:=h;exact ai.of (sx _ _ n0 ha)
  · obtain⟨os,S,o2,o3,sx,hp,hb,ho,rfl⟩:=h;have kp:=SX.kpl sx e2;have hi:i<us.length:=by
      have:=(bG.mp hx).1
      rwa [kR]at this
    have R:=(DL b0).kp kp;rw[<-Ee]at R;obtain⟨d,hd,R⟩:=R.at hx;obtain⟨y,hy,rfl⟩:=Dw hd;obtain⟨C,rfl,o0⟩:=Z.next hy hb;have p0:=DF t ok y (List.mem_reverse.mp (bN hy));obtain⟨f,l,ps⟩:=y;obtain⟨of,op⟩:ig f l ps.length/\∀p∈ps,Ok p:=by cases p0 with|mk a b=>exact⟨a,b⟩
    obtain⟨xa,ws,rfl,hq,hw⟩:=R.tup_inv;have q0:=IB hb;have d0:ps.length<=100/\C.length<=100:=by
      rw[bB,cJ]at q0;have:(Tm.mk f l ps).ps.length=ps.length:=rfl;lia
    obtain⟨U,u,rfl,e0,f0⟩:=TM.cE.split ho;have lP:u.length=ps.length:=f0.length;have lC:U.length=C.length:=e0.length;walk_at "r";refine⟨f,l,xa,ws,bO ps,rfl,hq,hw,by rw[ir];exact of,by rw[ir];exact d0.1,λ r us2 H3 s3 hr hus2=>⟨r,rfl,⟨_,hr⟩,λ D hD=>?_⟩⟩;have x0:us2.length=ps.length:=by rw[hus2.length,ir]
    have J:=s3 _ _ hp;have a0:D≠p1:=λ z=>bS J hD z.symm;have sq:∀{H4:Hp},(∀b o,b≠p1->b≠D->H3 b=some o->H4 b=some o)->Kp H3 H4:=λ h=>⟨λ b xs e=>h b _ (λ z=>by rw[z,J]at e;cases e) (λ z=>by rw[z,hD]at e;cases e) e,λ b o xs e=>h b _ (λ z=>by rw[z,J]at e;cases e) (λ z=>by rw[z,hD]at e;cases e) e,λ b C dx f fs e=>h b _ (λ z=>by rw[z,J]at e;cases e) (λ z=>by rw[z,hD]at e;cases e) e⟩;refine wW (n:=ps.length) none [some (.ref p1)] (λ ω ω=>True) (λ j vs H4=>H4 p1=some (.lst (U++u.take (ps.length-j)))/\vs=(u.drop (ps.length-j)).reverse/\∀b o,b≠p1->b≠D->H3 b=some o->H4 b=some o) rfl (by rw[Qk];lia) ⟨?_,?_,λ b o ω X h=>?_⟩ (λ j vs H4 hj hW=>?_) (λ vs H4 hW=>?_) (λ j x vs H4 K' hj ω hW L k=>?_) (λ vs H4 hW L hl=>?_)
    · rw[aD a0.symm,pA,iU qR];exact J
    · rw[pA,rR qR];rfl
    · rw[aD X];exact h
    · exact⟨⟨us2,us2[j],ao.kp hr (sq hW.2.2),aV qR⟩,λ x H2 hy=>⟨hy.1,trivial⟩⟩
    · exact⟨us2,ao.kp hr (sq hW.2.2),qR⟩
    · obtain⟨O,rfl,g3⟩:=hW;obtain⟨m,em⟩:∃m,ps.length-j=m+1:=⟨ps.length-j-1,qR⟩;have g0:ps.length-(j+1)=m:=by lia
      have hm:m<u.length:=by lia
      rw[em]at O L k;rw[lT hm,<-iX]at O;walk_at "r";refine⟨.inl ⟨rfl,_,ai.of O⟩,_,O,u[m],IU,?_⟩;rw[rT];refine k _ _ (by rw[aD a0];exact L) ⟨?_,?_,λ b o X h0 h=>?_⟩
      · rw[aD a0.symm,g0];exact aG
      · rw[g0,jj hm,j7]
      · rw[aD h0,aD X];exact g3 b o X h0 h
    · obtain⟨O,rfl,g3⟩:=hW;rw[Nat.sub_self,List.take_zero,gD]at O;rw[Nat.sub_self,nC]at L;have k4:Kp H' H4:=(Kp.of s3).trans (sq g3);have i0:ig f l (bO ps).length:=by rw[ir];exact of
      obtain⟨r0,er⟩:=lN i0;have j0:=hw;rw[er]at j0;obtain⟨v0,wr,rfl,s0,ω⟩:=j0.inv;cases s0.str_inv;refine⟨.inl ⟨rfl,_,ai.of O⟩,_,ao.kp hq k4,_,cL,f,l,xa,_,bO ps,rfl,ao.kp hq k4,hw.kp k4,i0,λ H5 s5=>?_⟩;refine⟨D,rfl,_,ai.of (s5 _ _ L),λ li t0 x5 dx M k0 u0=>?_⟩;rw[List.reverse_reverse]at M k0 ⊢;have sa:=bM t0 (.lst u);have sb:=bM k0 (.own x5);have sc:=bM (show ag (ag H5 li (.lst u)) dx (.own x5) x5=none by rw[aD (λ z=>u0 z.symm)];exact M) (.ins Ct dx []);have S5:af H4 (ag (ag (ag H5 li (.lst u)) dx (.own x5)) x5 (.ins Ct dx [])):=s5.trans (sa.trans (sb.trans sc));have l0:=sa _ _ (s5 _ _ O);refine⟨x5,dx,li,f,l,u,ps,rfl,aG,ai.of (sc _ _ (sb _ _ aG)),f0.kp (k4.trans (Kp.of S5)),of,d0.1,λ H6 Y w0=>⟨rfl,U,Y _ _ (bS l0 M) (S5 _ _ O),by rw[lC];lia,?_⟩⟩;have g6:=Y _ _ (bS l0 M) (S5 _ _ O);have k6:Kp H' (ag H6 p1 (.lst (U++[.ref x5]))):=k4.trans ((Kp.of S5).trans ((SX.kp Y aG).trans (Kp.lst _ g6)));refine⟨_,_,_,_,λ b o X h=>?_,aG,o0,(e0.kp k6).app (.cons (w0.kp (Kp.lst _ g6)) .nil),rfl⟩;rw[aD X];have h4:=g3 b o X (λ z=>bS (s3 _ _ (sx _ _ X h)) hD z) (s3 _ _ (sx _ _ X h));exact Y _ _ (bS (sa _ _ (s5 _ _ h4)) M) (S5 _ _ h4)
  · obtain⟨os,S,o2,o3,sx,hp,hb,ho,rfl⟩:=h;walk_at "n z2";rw[c0,iU (by rw[kR];exact aS _)]at hb;cases P15.cG.det rfl hb Z;cases ho with
    |cons a b=>
      refine⟨_,ai.of hp,_,cL,q _ H' (λ b o hb=>?_) a⟩;exact sx _ _ (bS hb h1) ((s1.trans s2) _ _ hb)
open P23 (gy lD)
inductive Er(K:X0)(vs:List V)(H:Hp)(Q:VK):Prop
 |mk(a:V0)(ns:List Int)(k:Nat)(a1:vs=[.ref a,.int (k:Int)])(a2:ai K H a (ns.map V.int))(a3:k<=1000000)(a4:∀r,r=lD ns k->0<=r->r<2147483647->Q (.int r) H):Er K vs H Q
def lF(K:X0):Sp:=λ vs H Q ω=>Er K vs H Q
inductive zk(K:X0)(tb:V0)(vs:List V)(H:Hp)(Q:VK):Prop
 |mk(a:V0)(ns:List Int)(m:Nat)(a1:vs=[.ref a,.int (m:Int)])(a2:ai K H a (ns.map V.int))(a3:m<64)(a4:H tb=some (.tbl #[]))(a5:∀H' l (p:List Nat),SX tb H H'->H l=none->H' l=some (.lst (p.map λ i=>V.int ((i:Nat):Int)))->p.Perm (bU m)->Q (.ref l) H'):zk K tb vs H Q
def zH(K:X0)(tb:V0):Sp:=λ vs H Q ω=>zk K tb vs H Q
noncomputable def oV:Option Nat->V
 |none=>.non
 |some n=>.int (n:Int)
inductive Dh(K:X0)(vs:List V)(H:Hp)(Q:VK):Prop
 |mk(r:Int)(nl:V0)(ns:List V2)(a1:vs=[.int r,.ref nl])(a2:H nl=some (.lst (ns.map V.str)))(a3:ns.length<=100)(a4:∀x H',x∈[("number":V2),"truth"]++ns++ns->af H H'->Q (.str x) H'):Dh K vs H Q
def sE(K:X0):Sp:=λ vs H Q ω=>Dh K vs H Q
inductive Bq(K:X0)(vs:List V)(H:Hp)(Q:VK):Prop
 |mk(a:V0)(ns:List Int)(l:V0)(p:List Nat)(a1:vs=[.ref a,.ref l])(a2:ai K H a (ns.map V.int))(a3:H l=some (.lst (p.map λ i=>V.int ((i:Nat):Int))))(a4:p.Perm (bU p.length))(a5:0<p.length)(a6:p.length<64)(a7:∀H' fl es,af H H'->H fl=none->H' fl=some (.lst (es.map oV))->es.length=p.length->gy p p.length es->Q (.ref fl) H'):Bq K vs H Q
def Bt(K:X0):Sp:=λ vs H Q ω=>Bq K vs H Q
theorem xc{b:Type}{x:b}:∀{r:Nat},(c9 r [x]).flatten=c9 r x
 |0=>rfl
 |r+1=>by rw[lW,jY,xc,lW];rfl
theorem qq(s:af H H')(h:H' x=none):H x=none:=by
 cases e:H x with
 |none=>rfl
 |some o=>rw[s x o e]at h;cases h
theorem nZ{n j:Nat}(h:j<n):gi n (j:Int)=some j:=by
 unfold gi;rw[T6 qR,T6 qR,gf]
variable{o:HO}
theorem g7{a:V0}(s:af H H')(n:H a=none):af H (ag H' a o):=λ b u c=>by rw[aD (bS c n)];exact s _ _ c
theorem rF{K:X0}{a tb:V0}{ps:Array V1}(s:SX tb H H')(b:H tb=some (.tbl ps))(h:ai K H a xs):ai K H' a xs:=by
 rcases h with h|h
 ·refine .inl ?_;rcases h with h|⟨o,h⟩
  ·exact .inl (s _ _ (jt h b (λ z=>by cases z)) h)
  ·exact .inr ⟨o,s _ _ (jt h b (λ z=>by cases z)) h⟩
 ·exact .inr h
theorem JE(T:∅):aO P w K mg base 1 "_law_drawn" ["_law_script","_law_k"] (lF K):=by
 walk_at "h OY BN 2"
 obtain⟨a,b,k,rfl,g,n,q⟩:=h;refine⟨_,(aw (qG 2 BN.nd az) (aw (bu (qM yv (qL T.z_len (qI (ae 0))) az) (aC (qG 2 BN.nd (qD K (ae 0) (aB cc (ae 1) (qL T.z_len (qI (ae 0))))))) bL) (aC (aY (aB cc (aB cU (aB gW (ae 2) (aB cU az (aB gW az (ae 1)))) (aB gW (aB cU (aB gW (ae 1) (ae 1)) az) az)) az))))),?_⟩;walk_at "s 3 z";have fin:∀c:Int,c=b.getD (k%b.length) 0->uz2 {nx:=λ x j=>Q V.non j,rt:=Q} [some (V.ref a),some (V.int ↑k),some (V.int c)] H:=by
  intro c m;walk_at "n z2";exact⟨.inr ⟨qR,qR⟩,.inl ⟨qR,qR⟩,q _ (by rw[m];rfl) (Int.emod_nonneg _ qQ) (vB _ qQ)⟩
 walk_at "n z1";refine⟨_,.inl g,ay (λ z=>?_) (λ z=>fin 0 (by rw[aA]at z;cases b with|nil=>rfl|cons _ _=>exact T7 (by rw[dv];lia) z))⟩;rw[aA]at z;refine⟨_,.inl g,by rw[aA];exact z,?_⟩;rw[aA];have e:k%b.length<b.length:=fQ _ qR;rw[show((k:Int)%(b.length:Int))=((k%b.length:Nat):Int)from rfl];exact⟨_,g,_,eI (show(b.map V.int)[k%b.length]?=some (.int b[k%b.length])by rw[a_,aV e];rfl),fin _ (by rw[P23.iw e])⟩
theorem Jm(T:∅){tb:V0}(F:lM K mg "_law_order" m9 tb)(I:jC mg base)(g:aO P w K mg base 1 "_law_drawn" ["_law_script","_law_k"] (lF K)):aO P w K mg base 5 "_law_order" ["_law_script","_law_many"] (zH K tb):=by
  refine aO.ofT F Ft (λ ω ω ω ω ω ω us hl=>el2 us hl λ ω ω=>rfl) (λ vs H Q E h=>?_) (λ f c A outer s H vs Q E J hr h=>?_)
  · obtain⟨a,y,m,rfl,ω⟩:=h;rfl
  obtain⟨a,y,m,rfl,L,M,n,q⟩:=h;refine⟨_,(aC (aY (Jp rfl hr qR I rfl J rfl rfl T.BM T.hH rfl (qI (ae 1)) (ak.of (N:=["_law_j","_law_script"]) (nl:=[none,some 0]) (cl:=[("_law_script",s.heap.objs.size+1)]) rfl qP qP rfl (ei rfl) (nm:=["_law_script"]) rfl qP rfl (λ i C j D=>by
            match i,C with
            | 0,_=>cases D
             |1,_=>cases D;exact s!"e"
            )) rfl qP rfl rfl rfl (λ ω ω ω ω ω=>rfl) (λ ω ω s H=>(bz (qJ (aB ee (qF g (hr.in1.in1.deeper _) (qJ (ae 1) (aB cU az (ae 0)))) az) (ae 0))))))),?_⟩
  walk_at "r";refine⟨m,rfl,M,n,λ ps=>⟨λ i H3 C u=>?_,λ H3 l p u hl O=>?_⟩⟩
  · have sx:SX tb H H3:=(SX.put _).trans (SX.of u);exact⟨a,y,10+i,by rw[gP];rfl,rF sx n L,qR,λ r X Y Z=>⟨r,rfl,aE.of λ p H2 h2 R S=>⟨R,_,_,S⟩⟩⟩
  · have x:l≠tb:=λ z=>by rw[z,u tb _ aG]at hl;cases hl
    have v:H l=none:=by
      cases e:H l with
      |none=>rfl
      |some o=>rw[u l o (by rw[aD x];exact e)]at hl;cases hl
    refine q _ l p (λ b o U G=>?_) v aG O;rw[aD (bS G v)];exact u _ _ (by rw[aD U];exact G)
theorem Jh(T:∅):aO P w K mg base 1 "_law_kind" ["_law_number","_law_names"] (sE K):=by
 walk_at "h OT MV 2"
 obtain⟨r,n,b,rfl,e,hl,q⟩:=h;refine⟨_,(aC (aY (qD K (aB gF (aB gF (bK (qJ aX aX)) (ae 1)) (ae 1)) (aB cc (ae 0) (aB cU az (aB gW az (qL T.z_len (qI (ae 1))))))))),?_⟩;walk_at "r";refine aE.of λ z C D g o=>⟨_,o,_,g _ _ e,by rw[aA];show 2+_<=_;lia,aE.of λ G I J i p=>⟨_,p,_,i _ _ (g _ _ e),by rw[bB,aA];show 2+_+_<=_;lia,aE.of λ L M N u m=>?_⟩⟩;have S:=g.trans (i.trans u);refine⟨_,.inl (ai.of (S _ _ e)),qR,?_⟩;rw[aA];have v:[V.str (Qp "number"),V.str (Qp "truth")]++b.map V.str++b.map V.str=([(Qp "number"),(Qp "truth")]++b++b).map V.str:=by rw[ew,ew];rfl
 rw[v]at m;have O:=Int.emod_nonneg r (show(2+2*(b.length:Int))≠0 by lia);have x:=vB r (show 0<(2+2*(b.length:Int))by lia);obtain⟨j,y⟩:∃j:Nat,r%(2+2*(b.length:Int))=(j:Int):=⟨(r%(2+2*(b.length:Int))).toNat,qR⟩;rw[y]at x ⊢;have c:j<([(Qp "number"),(Qp "truth")]++b++b).length:=by
  rw[bB,bB];show j<2+b.length+b.length;lia
 exact⟨_,ai.of m,_,eI (show(([(Qp "number"),(Qp "truth")]++b++b).map V.str)[j]?=some (.str _)by rw[a_,aV c];rfl),q _ _ (gQ c) S⟩
noncomputable def EF(H:Hp)(a l fl:V0)(p:List Nat)(i:Nat)(σ:St)(H':Hp):Prop:=∃(b:List (Option Nat))(c e:Option V),af H H'/\H' fl=some (.lst (b.map oV))/\b.length=p.length/\gy p (i+1) b/\σ=[some (.ref a),some (.ref l),some (.ref fl),c,e]
theorem FC(T:∅)(b:aO P w K mg base 1 "_law_drawn" ["_law_script","_law_k"] (lF K)):aO P w K mg base 2 "_law_elders_drawn" ["_law_script","_law_order_here"] (Bt K):=by
 walk_at "h Pp yn 2"
 obtain⟨a,ns,l,p,rfl,sq,hl,hp,h0,hm,q⟩:=h;refine⟨_,(aw (qG 2 yn.nd (aB yH (bK (qI fj)) (qL T.z_len (qI (ae 1))))) (aw (eZ Qs rfl (Mn rfl T.hH (qJ az (qL T.z_len (qI (ae 1))))) (qH 3 yn.nd) (aw (qG 4 yn.nd (bq b hr qR rfl (qJ (ae 0) (aB cU az (ae 3))))) (aC (bu (qM yv (aB cc (ae 4) az) az) (aC (iq (qD K (ae 1) (aB Hi (ae 3) az)) (mD (ae 2) (qD K (ae 1) (ae 3)) mR))) (aC (bu (qM yv (aB cc (ae 4) az) az) (aC (iq (qD K (ae 1) (aB cc (aB ee (ae 4) az) (ae 3))) (mD (ae 2) (qD K (ae 1) (ae 3)) mR))) bL)))))) (aC (aY (ae 2))))),?_⟩;walk_at "s 3 z";refine aE.of λ p1 H1 h1 M e1=>⟨_,.inl (ai.of (M _ _ hl)),_,e1,qR,by rw[aA];lia,by rw[aA];show 1*_<=_;lia,λ o N=>?_⟩;have O:(c9 (((p.map λ i=>V.int ((i:Nat):Int)).length:Nat):Int).toNat [V.non]).flatten=(c9 p.length (none:Option Nat)).map oV:=by
  rw[aA,gf,List.map_replicate];exact xc
 rw[O];have s2:=bM N (.lst ((c9 p.length (none:Option Nat)).map oV));have e2:ag H1 o (.lst ((c9 p.length (none:Option Nat)).map oV)) o=some (.lst ((c9 p.length (none:Option Nat)).map oV)):=aG;have S2:=M.trans s2;have D:H o=none:=qq M N;generalize ag H1 o (.lst ((c9 p.length (none:Option Nat)).map oV))=H2 at*;walk_at "n z1";refine⟨_,.inl (ai.of (S2 _ _ hl)),qR,by rw[aA];lia,?_⟩;rw[aA,show((p.length:Int)-1).toNat=p.length-1 by lia];refine qU (EF H a l o p) ⟨_,none,none,S2,e2,nJ,λ j e g=>?_,rfl⟩ (λ i σ R hi S=>?_) (λ σ R S=>?_)
 ·rw[pJ]at g;split at g<;>cases g
 ·obtain⟨es,o3,J,C,c,m,u,rfl⟩:=S;have v:=C _ _ hl;have a0:1+i<p.length:=by lia
  have G:p[i+1]?=some p[i+1]:=aV qR;have U:p[i+1]<p.length:=eV.mp (hp.mem_iff.mp (gQ _));have I:c7 (p.map λ i=>V.int ((i:Nat):Int)) (1+(i:Int))=some (.int ((p[i+1]:Nat):Int)):=by
   rw[show(1+(i:Int))=((i+1:Nat):Int)by lia];exact eI (by rw[a_,G];rfl)
  have mono:gy p (i+1+1) es:=λ j e g=>by
   obtain⟨x,y,h1,N,h3,h4⟩:=u j e g;exact⟨x,y,h1,qR,h3,h4⟩
  have z:∀(J:Option V)(x L:Nat),x<i+1->p[x]?=some L->kD o ((p[i+1]:Nat):Int) R λ xs j=>EF H a l o p (i+1) [some (.ref a),some (.ref l),some (.ref o),some (.int (1+(i:Int))),J] (ag R o (.lst (xs.set j (.int ((L:Nat):Int))))):=by
   intro J x L X Y;refine⟨_,c,p[i+1],nZ (by rw[aA,m];exact U),es.set p[i+1] (some L),_,_,g7 C D,?_,by rw[iW,m],λ j e g=>?_,rfl⟩
   ·rw[rQ];exact aG
   ·rw[List.getElem?_set]at g;split at g
    ·rename_i Z;split at g
     ·cases g;exact⟨x,i+1,X,qR,by rw[<-Z];exact G,Y⟩
     ·cases g
    ·exact mono j e g
  walk_at "r";refine⟨a,ns,30+(1+i),by rw[gP,gP];rfl,sq.same C,qR,λ r rz r0 r1=>⟨r,rfl,?_⟩⟩;refine ay (λ ω=>?_) (λ ω=>⟨r,rfl,ay (λ ω=>⟨r,rfl,qR,?_⟩) (λ ω=>⟨es,_,_,C,c,m,mono,rfl⟩)⟩)
  ·have n:p[i]?=some p[i]:=aV qR;refine⟨_,ai.of v,.int ((p[i]:Nat):Int),?_,_,ai.of v,_,I,_,rfl,z _ i p[i] qR n⟩;rw[show(1+(i:Int)-1)=((i:Nat):Int)by lia];exact eI (by rw[a_,n];rfl)
  ·have m0:=Int.emod_nonneg (r/5) (show(1+(i:Int))≠0 by lia);have m1:=vB (r/5) (show 0<(1+(i:Int))by lia);obtain⟨x,X⟩:∃x:Nat,r/5%(1+(i:Int))=(x:Int):=⟨(r/5%(1+(i:Int))).toNat,qR⟩;rw[X]at m1 ⊢;have n:p[x]?=some p[x]:=aV qR;exact⟨_,ai.of v,.int ((p[x]:Nat):Int),eI (by rw[a_,n];rfl),_,ai.of v,_,I,_,rfl,z _ x p[x] qR n⟩
 ·obtain⟨es,o3,J,C,c,m,u,rfl⟩:=S;walk_at "n z2";rw[show p.length-1+1=p.length by lia]at u;exact q _ _ _ C D c m u
inductive zo(K:X0)(vs:List V)(H:Hp)(Q:VK):Prop
 |mk(v:V)(ps:List (V2×V2))(a1:vs=[v])(a2:RT K H v (pairsD ps))(a3:ps.length<=100)(a4:∀r H',af H H'->RT K H' (.ref r) (pairsD ps)->Q (.ref r) H'):zo K vs H Q
def xh(K:X0):Sp:=λ vs H Q ω=>zo K vs H Q
inductive EB(c:CS)(K:X0)(vs:List V)(H:Hp)(Q:VK):Prop
 |mk(x dx:V0)(pp bv:V)(d:Wd)(a1:vs=[.ref x,.str d.name,pp,.str d.kind,bv])(a2:H x=some (.ins c.word dx []))(a3:RT K H pp (pairsD d.params))(a4:d.params.length<=100)(a5:TO K c.term H bv d.body)(a6:∀H',SX x H H'->e_ K c H' (.ref x) d->Q .non H'):EB c K vs H Q
def Eb(c:CS)(K:X0):Sp:=λ vs H Q ω=>EB c K vs H Q
inductive El(c:CS)(K:X0)(vs:List V)(H:Hp)(Q:VK):Prop
 |mk(x dx wl:V0)(fv:V)(ws:List V)(d:Hs)(a1:vs=[.ref x,.str d.name,oS d.elder,fv,.ref wl])(a2:H x=some (.ins c.house dx []))(a3:RT K H fv (pairsD d.fields))(a4:d.fields.length<=100)(a5:ai K H wl ws)(a6:A2 (e_ K c H) ws d.words)(a7:∀H',SX x H H'->eQ K c H' (.ref x) d->Q .non H'):El c K vs H Q
def zS(c:CS)(K:X0):Sp:=λ vs H Q ω=>El c K vs H Q
inductive Ed(c:CS)(K:X0)(vs:List V)(H:Hp)(Q:VK):Prop
 |mk(x dx hl:V0)(mv:V)(hs:List V)(d:Pg)(a1:vs=[.ref x,.ref hl,mv])(a2:H x=some (.ins c.program dx []))(a3:ai K H hl hs)(a4:A2 (eQ K c H) hs d.houses)(a5:e_ K c H mv d.main)(a6:∀H',SX x H H'->iP K c H' (.ref x) d->Q .non H'):Ed c K vs H Q
def zF(c:CS)(K:X0):Sp:=λ vs H Q ω=>Ed c K vs H Q
theorem SX.ktf{C e:V0}{fs:List (V2×V)}(s:SX x H H')(c:H x=some (.ins C e fs)):Kt H H':=
 ⟨λ b g h=>s b _ (λ z=>by rw[z,c]at h;cases h) h,λ b o g h=>s b _ (λ z=>by rw[z,c]at h;cases h) h⟩
theorem e_.kp{K:X0}{c:CS}{v:V}{d:Wd}(h:e_ K c H v d)(k:Kp H H'):e_ K c H' v d:=by
 cases h with
 |mk a b t=>exact .mk (k.i _ _ _ _ _ a) (b.kp k) (t.kp k)
theorem eQ.kp{K:X0}{c:CS}{v:V}{d:Hs}(h:eQ K c H v d)(k:Kp H H'):eQ K c H' v d:=by
 cases h with
 |mk a b q t=>exact .mk (k.i _ _ _ _ _ a) (b.kp k) (ao.kp q k) (t.mono λ ω ω r=>e_.kp r k)
theorem sM{c:Type}{K:X0}(f:c->PyData):∀{ts:List c}{vs:List V},vs.length=ts.length->(∀(j:Nat) v,vs[j]?=some v->∃t,ts[j]?=some t/\RT K H v (f t))->bb K H vs (ts.map f)
 |[],[],_,_=>.nil
 |t::ts,v::vs,e,h=>by
  obtain⟨i,a,b⟩:=h 0 v rfl;cases a;exact .cons b (sM f (nB e) λ j u g=>h (j+1) u g)
theorem KJ(T:∅):aO P w K mg base 1 "pairs_of" ["pairs"] (xh K):=by
 walk_at "h Pf MQ 1"
 obtain⟨v,ps,rfl,G,hl,q⟩:=h;obtain⟨Y,m,rfl,n,o⟩:=G.tup_inv;have I:m.length=ps.length:=by rw[o.length,aA]
 refine⟨_,(aC (aY (d7 gG rfl T.gK gH (qI (eF rfl (ak.plain (N:=["pair"]) rfl qP qP qP) (eY (ae 0)) (λ C J s H=>(qH 0 (show(["pair"]:List V2).Nodup by decide+kernel))) (λ C J s H=>(d7 (r:=CG K) gG rfl T.gK gH (qI (ae 0))))))))),?_⟩;walk_at "r";refine⟨⟨_,n⟩,λ D L=>?_⟩;refine iy (ys:=m) none [] (λ j v H=>∃p,ps[j]?=some p/\RT K H v (.tuple [.str p.1,.str p.2])) (λ j v u Z ⟨t,a,b⟩ s=>⟨t,a,b.kp (iZ s)⟩) rfl L (by rw[Qk];lia) (λ u s=>ao.same n s) (λ i y M u K' s k=>?_) (λ vs Hc Sc O R S=>?_)
 ·walk_at "r";obtain⟨d,hd,c⟩:=o.at M;rw[a_]at hd;obtain⟨p,e,rfl⟩:=c_.mp hd;obtain⟨a,U,rfl,x,g⟩:=c.tup_inv;exact⟨a,rfl,U,.inr ⟨ao.same x s,k _ _ (af.refl _) ⟨p,e,.tup (ao.same x s) (g.same s)⟩⟩⟩
 refine⟨D,rfl,vs,.inl ⟨ai.of O,λ t5 X=>?_⟩⟩;have z:=bM X (.tup vs);refine q _ _ (Sc.trans z) (.tup (ao.of aG) ?_);refine bb.same ?_ z;exact sM (λ p=>.tuple [.str p.1,.str p.2]) (R.trans I) S
theorem Ke(T:∅)(b:aO P w K mg base 1 "pairs_of" ["pairs"] (xh K)):aT P w K mg base 2 Cw "__init__" ["self","name","params","kind","body"] (Eb s!"a" K):=by
 walk_at "m m_Word___init__ M6 5"
 obtain⟨x,c,i,j,d,rfl,e,v,hl,y,q⟩:=h;refine⟨_,(aw (f9 (ae 0) (ae 1) rfl) (aw (f9 (ae 0) (bq b hr qR rfl (qI (ae 2))) rfl) (aw (f9 (ae 0) (ae 3) rfl) (aC (f9 (ae 0) (ae 4) rfl))))),?_⟩;walk_at "s 4 z";refine⟨Cw,c,_,e,T.Word.cl,T.n_Word_name,fZ rfl,?_⟩;walk_at "n z1";have m:SX x H (ag H x (.ins Cw c s!"i")):=SX.put _;have z:ag H x (.ins Cw c s!"i") x=some (.ins Cw c s!"i"):=aG;generalize ag H x (.ins Cw c s!"i")=D at*;refine⟨i,d.params,rfl,v.kp (m.kp e),hl,λ r C n g=>?_⟩;have o:=n _ _ z;refine⟨Cw,c,_,o,T.Word.cl,T.n_Word_params,fZ rfl,?_⟩;walk_at "n z2";refine⟨Cw,c,_,aG,T.Word.cl,T.n_Word_kind,fZ rfl,?_⟩;walk_at "n z3";refine⟨Cw,c,_,aG,T.Word.cl,T.n_Word_body,fZ rfl,?_⟩;have p:SX x C _:=(SX.put (.ins Cw c (aj "params" (.ref r) s!"i"))).trans ((SX.put (.ins Cw c (aj "kind" (.str d.kind) (aj "params" (.ref r) s!"i")))).trans (SX.put (.ins Cw c (aj "body" j (aj "kind" (.str d.kind) (aj "params" (.ref r) s!"i"))))));have u:=m.trans ((SX.of n).trans p);exact q _ u (.mk (aG) (g.kt (SX.ktf p o)) (y.kp (u.kp e)))
theorem KZ(T:∅)(b:aO P w K mg base 1 "pairs_of" ["pairs"] (xh K)):aT P w K mg base 2 Ch "__init__" ["self","name","elder","own_fields","own_words"] (zS s!"a" K):=by
 walk_at "m m_House___init__ M4 5"
 obtain⟨x,c,L,o,m,d,rfl,i,M,hl,N,O,q⟩:=h;refine⟨_,(aw (f9 (ae 0) (ae 1) rfl) (aw (f9 (ae 0) (ae 2) rfl) (aw (f9 (ae 0) (bq b hr qR rfl (qI (ae 3))) rfl) (aC (f9 (ae 0) (d7 gG rfl T.gK gH (qI (ae 4))) rfl))))),?_⟩;walk_at "s 4 z";refine⟨Ch,c,_,i,T.House.cl,T.n_House_name,fZ rfl,?_⟩;walk_at "n z1";refine⟨Ch,c,_,aG,T.House.cl,T.n_House_elder,fZ rfl,?_⟩;walk_at "n z2";have p:SX x H (ag (ag H x (.ins Ch c s!"i")) x (.ins Ch c (aj "elder" (oS d.elder) s!"i"))):=(SX.put _).trans (SX.put _);have R:ag (ag H x (.ins Ch c s!"i")) x (.ins Ch c (aj "elder" (oS d.elder) s!"i")) x=some (.ins Ch c (aj "elder" (oS d.elder) s!"i")):=aG;generalize ag (ag H x (.ins Ch c s!"i")) x (.ins Ch c (aj "elder" (oS d.elder) s!"i"))=X at*;refine⟨o,d.fields,rfl,M.kp (p.kp i),hl,λ r j u n=>?_⟩;have v:=u _ _ R;refine⟨Ch,c,_,v,T.House.cl,T.n_House_own_fields,fZ rfl,?_⟩;walk_at "n z3";have y:SX x j (ag j x (.ins Ch c (aj "own_fields" (.ref r) (aj "elder" (oS d.elder) s!"i")))):=SX.put _;have C:ag j x (.ins Ch c (aj "own_fields" (.ref r) (aj "elder" (oS d.elder) s!"i"))) x=some (.ins Ch c (aj "own_fields" (.ref r) (aj "elder" (oS d.elder) s!"i"))):=aG;generalize ag j x (.ins Ch c (aj "own_fields" (.ref r) (aj "elder" (oS d.elder) s!"i")))=Y at*;have e:=p.trans ((SX.of u).trans y);refine⟨m,.inl ⟨e.sqL i N,λ D g=>?_⟩⟩;have G:=bM g (.tup m);have S:=G _ _ C;have U:D≠x:=λ z=>bS C g z.symm;refine⟨Ch,c,_,S,T.House.cl,T.n_House_own_words,fZ rfl,?_⟩;have I:=(SX.of (x:=x) G).trans (SX.put (.ins Ch c (aj "own_words" (.ref D) (aj "own_fields" (.ref r) (aj "elder" (oS d.elder) s!"i")))));have J:=e.trans I;refine q _ J (.mk aG (n.kt (SX.ktf (y.trans I) v)) (ao.of (by rw[aD U];exact aG)) (O.mono λ ω ω r=>e_.kp r (J.kp i)))
theorem K5(T:∅):aT P w K mg base 1 Cp "__init__" ["self","all_houses","main"] (zF s!"a" K):=by
 walk_at "m m_Program___init__ M7 3"
 obtain⟨x,b,hl,m,g,d,rfl,e,p,u,v,q⟩:=h;refine⟨_,(aw (f9 (ae 0) (d7 gG rfl T.gK gH (qI (ae 1))) rfl) (aC (f9 (ae 0) (ae 2) rfl))),?_⟩;walk_at "s 2 z";refine⟨g,.inl ⟨p,λ i c=>?_⟩⟩;have n:=bM c (.tup g);have o:i≠x:=λ z=>bS e c z.symm;refine⟨Cp,b,_,n _ _ e,T.Program.cl,T.n_Program_all_houses,fZ rfl,?_⟩;walk_at "n z1";refine⟨Cp,b,_,aG,T.Program.cl,T.n_Program_main,fZ rfl,?_⟩;have j:=(SX.of (x:=x) n).trans ((SX.put (.ins Cp b (aj "all_houses" (.ref i) []))).trans (SX.put (.ins Cp b (aj "main" m (aj "all_houses" (.ref i) [])))));exact q _ j (.mk aG (ao.of (by rw[aD o,aD o];exact aG)) (u.mono λ ω ω r=>eQ.kp r (j.kp e)) (e_.kp v (j.kp e)))
open P23 (fW u9 bX xJ f7)
def aZ(H:Hp)(l:V0)(ns:List V2):Prop:=H l=some (.lst (ns.map V.str))
inductive Bg(K:X0)(vs:List V)(H:Hp)(Q:VK):Prop
 |mk(a tk pl nl:V0)(sc:List Int)(j:Nat)(taken pool ns:List V2)(a1:vs=[.ref a,.int (j:Int),.ref tk,.ref pl,.ref nl])(a2:ai K H a (sc.map V.int))(a3:j<64)(a4:aZ H tk taken)(a5:aZ H pl pool)(a6:pool.length=26)(a7:pool.Nodup)(a8:aZ H nl ns)(a9:ns.length<=100)(a10:taken.length<=1000)(a11:∀u fs H',af H H'->fW pool taken ns fs->RT K H' u (pairsD fs)->Q u H'):Bg K vs H Q
def Bp(K:X0):Sp:=λ vs H Q ω=>Bg K vs H Q
noncomputable def gE(h:V2×List (V2×V2)×V2):PyData:=.tuple [.str h.1,pairsD h.2.1,.str h.2.2]
inductive Bh(K:X0)(vs:List V)(H:Hp)(Q:VK):Prop
 |mk(r:Int)(pl nl:V0)(pool ns:List V2)(a1:vs=[.int r,.ref pl,.ref nl])(a2:0<=r)(a3:r<2147483647)(a4:aZ H pl pool)(a5:pool.length=26)(a6:pool.Nodup)(a7:aZ H nl ns)(a8:ns.length<=100)(a9:∀u fs H',af H H'->fW pool [] ns fs->RT K H' u (pairsD fs)->Q u H'):Bh K vs H Q
def Bi(K:X0):Sp:=λ vs H Q ω=>Bh K vs H Q
inductive Aw(K:X0)(vs:List V)(H:Hp)(Q:VK):Prop
 |mk(a pp p0 p1 p2 nl:V0)(sc:List Int)(j:Nat)(q0 q1 q2 ns:List V2)(a1:vs=[.ref a,.int (j:Int),.ref pp,.ref nl])(a2:ai K H a (sc.map V.int))(a3:j<64)(a4:H pp=some (.lst [.ref p0,.ref p1,.ref p2]))(a5:aZ H p1 q1)(a6:q1.length=26)(a7:q1.Nodup)(a8:aZ H p2 q2)(a9:q2.length=26)(a10:q2.Nodup)(a11:aZ H nl ns)(a12:ns.length<=100)(a13:∀l (hs:List (V2×List (V2×V2)×V2)) us H',af H H'->H l=none->H' l=some (.lst us)->bb K H' us (hs.map gE)->u9 q1 q2 ns hs->Q (.ref l) H'):Aw K vs H Q
def zT(K:X0):Sp:=λ vs H Q ω=>Aw K vs H Q
theorem k_{ns:List V2}{x:Nat}(h:x<ns.length):c7 (ns.map V.str) (x:Int)=some (.str ns[x]):=eI (by rw[a_,aV h];rfl)
theorem xp:∀{ns:List V2},(ns.map V.str).all i4=true
 |[]=>rfl
 |_::ns=>xp (ns:=ns)
theorem fR{x:V2}{ns:List V2}:ij (.str x) (ns.map V.str)=true↔x∈ns:=by
 unfold ij;rw[List.any_eq_true];constructor
 ·rintro⟨y,b,e⟩;obtain⟨z,c,rfl⟩:=bE.mp b;have:z=x:=by simpa[gS]using e
  exact this▸c
 ·exact λ h=>⟨_,iF h,by simp[gS]⟩
theorem yB{K:X0}{F:Nat->V2×V2->Prop}:∀{vs:List V}{o:Nat},(∀(j:Nat) v,vs[j]?=some v->∃p:V2×V2,RT K H v (.tuple [.str p.1,.str p.2])/\F (o+j) p)->∃fs:List (V2×V2),fs.length=vs.length/\bb K H vs (fs.map λ p=>.tuple [.str p.1,.str p.2])/\∀(j:Nat) p,fs[j]?=some p->F (o+j) p
 |[],_,_=>⟨[],rfl,.nil,λ j p h=>by cases h⟩
 |v::vs,o,h=>by
  obtain⟨p,c,e⟩:=h 0 v rfl;obtain⟨fs,l,r,g⟩:=yB (o:=o+1) (vs:=vs) λ j v i=>by
   have:=h (j+1) v i;rw[show o+1+j=o+(j+1)by lia];exact this
  refine⟨p::fs,by rw[dv,dv,l],.cons c r,λ j m b=>?_⟩;cases j with
  |zero=>cases b;exact e
  |succ j=>rw[show o+(j+1)=o+1+j by lia];exact g j m b
noncomputable def GQ(K:X0)(H:Hp)(a tk pl nl fl:V0)(j:Nat)(r:Int)(taken pool ns:List V2)(i:Nat)(σ:St)(H':Hp):Prop:=∃(us:List V)(fs:List (V2×V2))(b c:Option V),af H H'/\H' fl=some (.lst us)/\bb K H' us (fs.map λ p=>.tuple [.str p.1,.str p.2])/\fs.length<=i/\(∀f∈fs,f.1∉taken/\bX ns f.2/\∃t:Nat,t<i/\pool[((r/5+7*(t:Int))%26).toNat]?=some f.1)/\(fs.map Prod.fst).Nodup/\σ=[some (.ref a),some (.int (j:Int)),some (.ref tk),some (.ref pl),some (.ref nl),some (.int r),some (.ref fl),b,c]
theorem Mb(T:∅)(b:aO P w K mg base 1 "_law_drawn" ["_law_script","_law_k"] (lF K))(e:aO P w K mg base 1 "_law_kind" ["_law_number","_law_names"] (sE K)):aO P w K mg base 2 "_law_fields" ["_law_script","_law_j","_law_taken","_law_pool","_law_names"] (Bp K):=by
 walk_at "h O5 uQ 5"
 obtain⟨a,tk,pl,O,R,j,taken,c,S,rfl,sq,hj,U,X,g0,Y,Z,p,ht,q⟩:=h;refine⟨_,(aw (qG 5 uQ.nd (bq b hr qR rfl (qJ (ae 0) (aB cU az (ae 1))))) (aw (qG 6 uQ.nd (bK dO)) (aw (eZ Qs rfl (iM rfl T.hH (qI (aB cc (ae 5) az))) (qH 7 uQ.nd) (aw (qG 8 uQ.nd (qD K (ae 3) (aB cc (aB cU (aB ee (ae 5) az) (aB gW az (ae 7))) az))) (aC (bu (iu (r:=fH K true) Bz (ae 8) (ae 2) s!"k") (aC (d8 (eE eu fY fX fK (ae 6) (qI (bz (qJ (ae 8) (bq e hr qR rfl (qJ (aB ee (bq b hr qR rfl (qJ (ae 0) (aB cU (aB cU az (aB gW az (ae 1))) (ae 7)))) az) (ae 4))))))))) bL)))) (aC (aY (d7 gG rfl T.gK gH (qI (ae 6)))))))),?_⟩;walk_at "s 4 z";refine⟨a,R,50+j,by rw[gP];rfl,sq,qR,λ r rz r0 r1=>?_⟩;walk_at "n z1";refine aE.of λ fl H1 u s1 e1=>?_;walk_at "n z2";obtain⟨n,hn,h0⟩:∃n:Nat,r%5=(n:Int)/\n<=4:=⟨(r%5).toNat,qR,qR⟩;rw[hn,gf];have a0:H fl=none:=u;refine⟨qR,qR,qU (GQ K H a tk pl O fl j r taken c S) ⟨[],[],none,none,s1,e1,.nil,bJ _,(λ f v=>T7 v h_),.nil,rfl⟩ (λ i σ H' hi hI=>?_) (λ σ H' hI=>?_)⟩
 ·obtain⟨us,fs,o7,o8,m,D,G,lf,v,L,rfl⟩:=hI;walk_at "r";obtain⟨x,hx,f0⟩:∃x:Nat,(r/5+7*(i:Int))%26=(x:Int)/\x<26:=⟨((r/5+7*(i:Int))%26).toNat,qR,qR⟩;rw[hx];have y:x<c.length:=by lia
  refine⟨_,ai.of (m _ _ X),_,k_ y,_,.inl (ai.of (m _ _ U)),rfl,xp,?_⟩;refine ay (λ z=>?_) (λ z=>⟨us,fs,_,_,m,D,G,qR,(λ f g=>let⟨u,I,t,M,o⟩:=v f g;⟨u,I,t,qR,o⟩),L,rfl⟩);have b0:c[x]∉taken:=λ g=>by rw[fR.mpr g]at z;cases z
  refine⟨.inl ⟨rfl,_,ai.of D⟩,a,R,70+4*j+i,by rw[gP,gP,Int.natCast_mul];rfl,sq.same m,qR,λ r2 i0 j0 k0=>⟨r2,rfl,r2/3,O,S,rfl,m _ _ Z,p,λ kx H2 c0 N=>aE.of λ p3 H3 M s3 e3=>?_⟩⟩;have C:=N.trans s3;have J:=C _ _ D;have l0:us.length=fs.length:=by rw[G.length,aA]
  refine⟨_,J,qR,us++[.ref p3],fs++[(c[x],kx)],_,_,g7 (m.trans C) a0,aG,?_,by rw[bB];show _+1<=_;lia,λ f g=>?_,?_,rfl⟩
  ·rw[ew];exact bb.kp (Kp.lst _ J) ((G.same C).app (.cons (.tup (ao.of e3) (.cons (.str _) (.cons (.str _) .nil))) .nil))
  ·rcases dy.mp g with g|g
   ·obtain⟨u,I,t,M,o⟩:=v f g;exact⟨u,I,t,qR,o⟩
   ·cases cu.mp g;exact⟨b0,c0,i,jl _,by rw[hx,gf];exact aV y⟩
  ·rw[ew];refine xJ L λ g=>?_;obtain⟨f,d0,e0⟩:=bE.mp g;obtain⟨ω,ω,t,M,o⟩:=v f d0;rw[e0]at o;have:=f7 Y o (show c[x]?=some c[x]from aV y);omega
 ·obtain⟨us,fs,o7,o8,m,D,G,lf,v,L,rfl⟩:=hI;walk_at "n z3";refine⟨us,.inl ⟨ai.of D,λ l hl=>?_⟩⟩;have N:=bM hl (.tup us);exact q _ fs _ (m.trans N) ⟨qR,(λ f g=>let⟨u,I,t,M,o⟩:=v f g;⟨bN o,u,I⟩),L⟩ (.tup (ao.of aG) (G.same N))
theorem Mu(T:∅)(m:aO P w K mg base 1 "_law_kind" ["_law_number","_law_names"] (sE K)):aO P w K mg base 2 "_law_params" ["_law_number","_law_pool","_law_names"] (Bi K):=by
  refine aO.of T.Gu BU (λ ω ω ω ω ω ω us hl=>el3 us hl λ ω ω ω=>rfl) (λ vs H Q E h=>?_) (λ f cdv A outer s H vs Q E hr h=>?_)
  · obtain⟨r,pl,nl,g,I,rfl,ω⟩:=h;rfl
  obtain⟨r,pl,nl,g,I,rfl,r0,r1,X,f0,Y,Z,G,q⟩:=h;refine⟨_,(aw (jH (i:=3) BU.nd rfl (Or.inr rfl) (eF rfl (ak.of (N:=["_law_k","_law_number"]) (nl:=[none,some 0]) (cl:=[("_law_number",s.heap.objs.size+1)]) rfl qP qP rfl (ei rfl) (nm:=["_law_number"]) rfl qP rfl (λ i J j u=>by
            match i,J with
            | 0,_=>cases u
             |1,_=>cases u;exact s!"e"
            )) (iM rfl T.hH (qI az)) (λ C fp s H=>(qH 0 (show(["_law_k","_law_number"]:List V2).Nodup by decide+kernel))) (λ C fp s H=>(aB Kh (aB ee (ae 1) az) (aB cU az (aB gW az (ae 0))))))) (aC (aY (d7 gG rfl T.gK gH (qI (eF rfl (ak.of (N:=["_law_k","_law_kinds_here","_law_names","_law_number","_law_pool"]) (nl:=[none,some 3,some 2,some 0,some 1]) (cl:=[("_law_pool",s.heap.objs.size+2),("_law_number",s.heap.objs.size+1),("_law_names",s.heap.objs.size+3),("_law_kinds_here",s.heap.objs.size+4)]) rfl qP qP rfl (vq rfl rfl rfl rfl) (nm:=["_law_pool","_law_number","_law_names","_law_kinds_here"]) rfl qP rfl (λ i J j u=>by
            match i,J with
            | 0,_=>cases u
             |1,_=>cases u;exact s!"e"
             |2,_=>cases u;exact s!"e"
             |3,_=>cases u;exact s!"e"
             |4,_=>cases u;exact s!"e"
            )) (iM rfl T.hH (qI (aB cc (ae 0) az))) (λ C fp s H=>(qH 0 (show(["_law_k","_law_kinds_here","_law_names","_law_number","_law_pool"]:List V2).Nodup by decide+kernel))) (λ C fp s H=>(bz (qJ (qD K (ae 4) (aB cc (aB cU (aB ee (ae 3) az) (aB gW az (ae 0))) az)) (bq m hr qR rfl (qJ (qD K (ae 1) (ae 0)) (ae 2)))))))))))),?_⟩
  walk_at "s 2 z";intro D hD;refine xI none [some (.int r)] (λ i=>V.int ((r/7).fdiv (1+11*(i:Int)))) rfl (λ i J l k hk=>?_) (by rw[Qk];lia) ?_
  · walk_at "r";exact⟨qR,qR,qR,hk⟩
  have s1:=bM hD (.lst ((bU 4).map λ i=>V.int ((r/7).fdiv (1+11*((i:Nat):Int)))));have e1:ag H D (.lst ((bU 4).map λ i=>V.int ((r/7).fdiv (1+11*((i:Nat):Int))))) D=some (.lst ((bU 4).map λ i=>V.int ((r/7).fdiv (1+11*((i:Nat):Int))))):=aG;generalize ag H D (.lst ((bU 4).map λ i=>V.int ((r/7).fdiv (1+11*((i:Nat):Int)))))=H1 at*;walk_at "n z1";obtain⟨n,hn,g0⟩:∃n:Nat,r%5=(n:Int)/\n<=4:=⟨(r%5).toNat,qR,qR⟩;rw[hn,gf];refine⟨qR,qR,λ D2 a0=>?_⟩;refine qy (n:=n) none [some (.ref D),some (.ref nl),some (.int r),some (.ref pl)] (λ j v H=>∃p:V2×V2,RT K H v (.tuple [.str p.1,.str p.2])/\g[((r/5+3*(j:Int))%26).toNat]?=some p.1/\bX I p.2) (λ j v H1 H2 ⟨p,b,c⟩ s=>⟨p,b.kp (iZ s),c⟩) rfl a0 (by rw[Qk];lia) (λ i J H2 K' O kk=>?_) (λ vs H2 O b0 h0 hR=>?_)
  · walk_at "r";obtain⟨x,L,e0⟩:∃x:Nat,(r/5+3*(i:Int))%26=(x:Int)/\x<26:=⟨((r/5+3*(i:Int))%26).toNat,qR,qR⟩;rw[L];have M:x<g.length:=by lia
    have S:=s1.trans O;refine⟨_,ai.of (S _ _ X),_,k_ M,_,ai.of (O _ _ e1),_,eI (by rw[a_,jk qR];rfl),_,nl,I,rfl,S _ _ Z,G,λ kx H3 c0 R=>aE.of λ p4 H4 h4 s4 e4=>kk _ _ (R.trans s4) ⟨(g[x],kx),.tup (ao.of e4) (.cons (.str _) (.cons (.str _) .nil)),by rw[L,gf];exact aV M,c0⟩⟩
  · obtain⟨fs,i0,d0,z⟩:=yB (K:=K) (H:=H2) (vs:=vs) (o:=0) (F:=λ j p=>g[((r/5+3*(j:Int))%26).toNat]?=some p.1/\bX I p.2) λ j v u=>by rw[nA];exact hR j v u
    have z:∀(j:Nat) p,fs[j]?=some p->g[((r/5+3*(j:Int))%26).toNat]?=some p.1/\bX I p.2:=λ j p u=>by have:=z j p u;rw[nA]at this;exact this
    refine⟨D2,rfl,vs,.inl ⟨ai.of b0,λ l hl=>?_⟩⟩;have R:=bM hl (.tup vs);refine q _ fs _ (s1.trans (O.trans R)) ⟨qR,λ f hm=>?_,?_⟩ (.tup (ao.of aG) (d0.same R))
    · obtain⟨j,u⟩:=eS hm;obtain⟨U,h2⟩:=z j f u;exact⟨bN U,h_,h2⟩
    · refine List.pairwise_iff_getElem.mpr λ x y L hy lt e=>?_;rw[aA]at L hy;rw[rP,rP]at e;have U:=(z x _ (aV L)).1;have h2:=(z y _ (aV hy)).1;rw[e]at U;have:=f7 Y U h2;lia
noncomputable def GP(K:X0)(H:Hp)(a pp nl fl:V0)(j:Nat)(r:Int)(q1 q2 ns:List V2)(i:Nat)(σ:St)(H':Hp):Prop:=∃(us:List V)(b:List (V2×List (V2×V2)×V2))(c e g:Option V),af H H'/\H' fl=some (.lst us)/\bb K H' us (b.map gE)/\b.length<=i/\(∀h∈b,fW q2 [] ns h.2.1/\bX ns h.2.2/\∃t:Nat,t<i/\q1[((r/6+5*(t:Int))%12).toNat]?=some h.1)/\(b.map Prod.fst).Nodup/\σ=[some (.ref a),some (.int (j:Int)),some (.ref pp),some (.ref nl),some (.int r),some (.ref fl),c,e,g]
theorem LG(T:∅)(b:aO P w K mg base 1 "_law_drawn" ["_law_script","_law_k"] (lF K))(e:aO P w K mg base 1 "_law_kind" ["_law_number","_law_names"] (sE K))(c:aO P w K mg base 2 "_law_params" ["_law_number","_law_pool","_law_names"] (Bi K)):aO P w K mg base 3 "_law_heads" ["_law_script","_law_j","_law_pools","_law_names"] (zT K):=by
 walk_at "h OX q_ 4"
 obtain⟨a,pp,p0,p1,X,M,Y,j,q0,y,Z,N,rfl,sq,hj,D,a0,l1,b0,c0,l2,d0,G,g,q⟩:=h;refine⟨_,(aw (qG 4 q_.nd (bq b hr qR rfl (qJ (ae 0) (aB cU az (ae 1))))) (aw (qG 5 q_.nd (bK dO)) (aw (eZ Qs rfl (iM rfl T.hH (qI (qD K (bK (cg az (cg az (cg az (qK az az az))))) (aB cc (ae 4) az)))) (qH 6 q_.nd) (aw (qG 7 q_.nd (bq b hr qR rfl (qJ (ae 0) (aB cU (aB cU az (aB gW az (ae 1))) (ae 6))))) (aw (qG 8 q_.nd (qD K (qD K (ae 2) az) (aB cc (aB cU (aB ee (ae 4) az) (aB gW az (ae 6))) az))) (aC (d8 (eE eu fY fX fK (ae 5) (qI (bz (qK (ae 8) (bq c hr qR rfl (qK (ae 7) (qD K (ae 2) az) (ae 3))) (bq e hr qR rfl (qJ (aB ee (ae 7) az) (ae 3)))))))))))) (aC (aY (ae 5)))))),?_⟩;walk_at "s 4 z";refine⟨a,Y,120+j,by rw[gP];rfl,sq,qR,λ r rz r0 r1=>?_⟩;walk_at "n z1";refine aE.of λ fl H1 I s1 e1=>?_;walk_at "n z2";obtain⟨n,hn,l0⟩:∃n:Nat,c7 [V.int 0,V.int 1,V.int 2,V.int 3,V.int 2,V.int 8] (r%6)=some (.int (n:Int))/\n<=8:=by
  obtain⟨x,O,e0⟩:∃x:Nat,r%6=(x:Int)/\x<6:=⟨(r%6).toNat,qR,qR⟩;rw[O];match x,e0 with
  |0,_=>exact⟨0,eI rfl,qR⟩
  |1,_=>exact⟨1,eI rfl,qR⟩
  |2,_=>exact⟨2,eI rfl,qR⟩
  |3,_=>exact⟨3,eI rfl,qR⟩
  |4,_=>exact⟨2,eI rfl,qR⟩
  |5,_=>exact⟨8,eI rfl,qR⟩
 refine aE.of λ p3 H3 h3 s3 e3=>⟨_,ai.of e3,_,hn,_,rfl,qR,qR,?_⟩;rw[gf];have J:H fl=none:=I;refine qU (GP K H a pp M fl j r y Z N) ⟨[],[],none,none,none,s1.trans s3,s3 _ _ e1,.nil,bJ _,(λ f z=>T7 z h_),.nil,rfl⟩ (λ i σ H' hi hI=>?_) (λ σ H' hI=>?_)
 ·obtain⟨us,R,o6,o7,o8,o,S,U,lf,z,nf,rfl⟩:=hI;walk_at "r";refine⟨a,Y,140+8*j+i,by rw[gP,gP,Int.natCast_mul];rfl,sq.same o,qR,λ m mz m0 m1=>?_⟩;obtain⟨x,O,k0⟩:∃x:Nat,(r/6+5*(i:Int))%12=(x:Int)/\x<12:=⟨((r/6+5*(i:Int))%12).toNat,qR,qR⟩;rw[O];have u:x<y.length:=by lia
  refine⟨_,ai.of (o _ _ D),_,eB,p1,rfl,_,ai.of (o _ _ a0),_,k_ u,.inl ⟨rfl,_,ai.of S⟩,_,ai.of (o _ _ D),.ref X,eI rfl,m,X,M,Z,N,rfl,m0,m1,o _ _ c0,l2,d0,o _ _ G,g,λ pu fs H4 s4 f0 g0=>⟨m,rfl,m/35,M,N,rfl,s4 _ _ (o _ _ G),g,λ kx H5 h0 s5=>aE.of λ p6 H6 h6 s6 e6=>?_⟩⟩;have v:=s4.trans (s5.trans s6);have L:=v _ _ S;have n0:us.length=R.length:=by rw[U.length,aA]
  refine⟨_,L,qR,us++[.ref p6],R++[(y[x],fs,kx)],_,_,_,g7 (o.trans v) J,aG,?_,by rw[bB];show _+1<=_;lia,λ f p=>?_,?_,rfl⟩
  ·rw[ew];exact bb.kp (Kp.lst _ L) ((U.same v).app (.cons (.tup (ao.of e6) (.cons (.str _) (.cons (g0.same (s5.trans s6)) (.cons (.str _) .nil)))) .nil))
  ·rcases dy.mp p with p|p
   ·obtain⟨I,h2,t,h3,C⟩:=z f p;exact⟨I,h2,t,qR,C⟩
   ·cases cu.mp p;exact⟨f0,h0,i,jl _,by rw[O,gf];exact aV u⟩
  ·rw[ew];refine xJ nf λ p=>?_;obtain⟨f,i0,j0⟩:=bE.mp p;obtain⟨ω,ω,t,h3,C⟩:=z f i0;rw[j0]at C;have:=f7 b0 C (show y[x]?=some y[x]from aV u);omega
 ·obtain⟨us,R,o6,o7,o8,o,S,U,lf,z,nf,rfl⟩:=hI;walk_at "n z3";exact q _ R us _ o J S U ⟨qR,(λ f p=>let⟨I,h2,t,h3,C⟩:=z f p;⟨bN C,I,h2⟩),nf⟩
inductive zj(K:X0)(nm:Nat->Nat->V2)(vs:List V)(H:Hp)(Q:VK):Prop
 |mk(C k:Nat)(a1:vs=[.int (C:Int),.int (k:Int)])(a2:k<26)(a3:∀H',af H H'->Q (.str (nm C k)) H'):zj K nm vs H Q
def wY(K:X0)(nm:Nat->Nat->V2):Sp:=λ vs H Q ω=>zj K nm vs H Q
open P23 (bR d_ gU cf f6 gq bQ dq cY d6)
theorem lets:∀j:Fin 26,(Qp "abcdefghijklmnopqrstuvwxyz").cps.toList[j.1]?=some (97+j.1):=by decide+kernel
theorem u_{j:Nat}(h:j<26):c7 (Qp "abcdefghijklmnopqrstuvwxyz").cps.toList (j:Int)=some (97+j):=eI (lets ⟨j,h⟩)
theorem HX:∀j:Fin 10,(Qp "1234567890").cps.toList[j.1]?=some (d6 j.1):=by decide+kernel
theorem HM{j:Nat}(h:j<10):c7 (Qp "1234567890").cps.toList (j:Int)=some (d6 j):=eI (HX ⟨j,h⟩)
theorem wD(a b:List Nat):bR a++bR b=bR (a++b):=by
 show(⟨a.toArray++b.toArray⟩:V2)=⟨(a++b).toArray⟩;simp
theorem xm:∀x∈bQ,x.length<=10:=by decide+kernel
variable{i:Nat}
theorem Jl(h:i<bQ.length):bR (dq.getD i [])=bQ[i]:=by
 have:∀j:Fin 19,bR (dq.getD j.1 [])=bQ[j.1]'j.2:=by decide+kernel
 exact this ⟨i,h⟩
theorem JA{k:Nat}:(cY k).length<=2:=by unfold P23.cY;split<;>simp
theorem GX{w r k:Nat}:(cf w r k).length<=8:=by
 have:=P23.lE (r:=r);unfold P23.cf;split
 ·rw[cJ,iW];lia
 ·rw[dv,cJ];lia
 ·have:=P23.mW (r:=r+k/8);rw[bB,gA,cJ];lia
theorem LF{k:Nat}(h:k<26):((k:Int)).natAbs.log2<1920:=by
 have:∀j:Fin 26,((j.1:Int)).natAbs.log2<1920:=by decide+kernel
 exact this ⟨k,h⟩
theorem K0:∀k:Fin 26,Qp (toString ((k.1:Nat):Int))=bR (cY k.1):=by decide+kernel
theorem DQ{k:Nat}(h:k<26):Qp (toString (k:Int))=bR (cY k):=K0 ⟨k,h⟩
open K10 (gT zQ Bx)
theorem CY{x:V2}{l:List Nat}(h:gT x=l):x=bR l:=by
 obtain⟨a⟩:=x;show(⟨a⟩:V2)=⟨l.toArray⟩;rw[<-h]
theorem JK(cs:List Nat):Txt.join "" (cs.map λ c=>bR [c])=bR cs:=by
 refine CY ?_;rw[zQ,dH];induction cs with
 |nil=>rfl
 |cons c cs b=>rw[eP,jY,b];rfl
theorem K_{l:List Nat}(h:l≠[]):TZ (bR l) none (some 1)=bR (l.take 1):=by
 refine CY ?_;have:=Bx (bR l) (b:=1) (by show 1<=l.toArray.size;rw[bF];exact rY.mpr h);exact this
theorem sQ{l:List Nat}:(bR l).length=l.length:=by show l.toArray.size=_;exact bF
theorem xS(xs:List V)(n:Nat)(h:n<=xs.length):bP xs none (some (n:Int))=xs.take n:=by
 unfold bP;have b:HT.bf xs.length xs.length (some (n:Int))=n:=by rw[HT.fP];lia
 have c:HT.bf xs.length 0 none=0:=rfl;rw[b,c,nC,pA]
theorem Lo(xs:List V)(n:Nat)(h:n<=xs.length):bP xs (some (n:Int)) none=xs.drop n:=by
 unfold bP;have b:HT.bf xs.length 0 (some (n:Int))=n:=by rw[HT.fP];lia
 have c:HT.bf xs.length xs.length none=xs.length:=rfl;rw[b,c,iU (by rw[gA];exact aS _)]
variable{Q:VK}
theorem wC{K:X0}{p:V0}{b:List Nat}(h:H p=some (.lst (b.map λ c=>V.str (bR [c]))))(hl:b.length<=1000)(q:Q (.str (bR b)) H):B6 K (V.str (Qp "")) [V.ref p] H Q:=by
 refine⟨_,p,b.map λ c=>bR [c],rfl,rfl,?_,?_,?_⟩
 ·rw[dH];exact ai.of h
 ·have:((b.map λ c=>bR [c]).map (·.length)).sum=b.length:=by
   clear h hl q;induction b with
   |nil=>rfl
   |cons c b e=>rw[eP,eP,List.sum_cons,e,dv];show 1+_=_;lia
  rw[this];show _+_*0<=_;lia
 ·rw[JK];exact q
theorem JN(T:∅):aO P w K mg base 1 "_law_name" ["_law_cell","_law_k"] (wY K d_):=by
  refine aO.of T.Gk jz (λ ω ω ω ω ω ω us hl=>el2 us hl λ ω ω=>rfl) (λ vs H Q E h=>?_) (λ f cdv A outer s H vs Q E hr h=>?_)
  · obtain⟨C,k,rfl,ω⟩:=h;rfl
  obtain⟨C,k,rfl,Y,q⟩:=h;refine⟨_,(aw (jH (i:=2) jz.nd rfl (Or.inr rfl) aX) (aw (qG 3 jz.nd (bK (cg aX (cg aX (cg aX (cg aX (cg aX (cg aX (cg aX (cg aX (cg aX (cg aX (qK aX aX aX))))))))))))) (aw (qG 3 jz.nd (aB gF (ae 3) (bK (cg aX (cg aX (cg aX (qK aX aX aX))))))) (aw (jH (i:=4) jz.nd rfl (Or.inr rfl) (aB ee (ae 0) az)) (aw (jL rfl jz.nd (i:=5) rfl rfl (ak.of (N:=["_law_j","_law_letters","_law_rest"]) (nl:=[none,some 2,some 4]) (cl:=[("_law_rest",s.heap.objs.size+3),("_law_letters",s.heap.objs.size+2)]) rfl qP qP rfl (iC rfl rfl) (nm:=["_law_rest","_law_letters"]) rfl qP rfl (λ i G j g=>by
            match i,G with
            | 0,_=>cases g
             |1,_=>cases g;exact s!"e"
             |2,_=>cases g;exact s!"e"
            )) (iM rfl T.hH (qI az)) (λ C Z s H=>(qH 0 (show(["_law_j","_law_letters","_law_rest"]:List V2).Nodup by decide+kernel))) (λ C Z s H=>(kY ql (ae 1) (aB cc (aB cU (aB ee (ae 2) az) (aB gW az (ae 0))) az) (λ ω ω=>rfl)))) (aw (bu (qM cM (aB cc (ae 0) az) az) (aC (aY (aB xR (qD K (ae 3) (aB cc (aB cU (ae 4) (ae 1)) az)) (kY ql aX (aB cc (aB cU (ae 4) (aB ee (ae 1) az)) az) (λ ω ω=>rfl))))) bL) (aw (bu (qM cM (aB cc (ae 0) az) az) (aw (qG 6 jz.nd (aB cc (aB ee (ae 4) az) (aB cU az (aB cc (ae 4) az)))) (aw (iq (kY ql (ae 2) (aB cc (aB cU (ae 4) (ae 1)) az) (λ ω ω=>rfl)) (mD (ae 5) (ae 6) mR)) (aC (qG 7 jz.nd (eE vA vz vx wF aX (qI (g8 (r:=fq K) lr (ae 5) gX (gY (aB cU az (aB cc (ae 4) az)))))))))) (aC (bu (qM cM (aB cc (ae 0) az) az) (aC (qG 7 jz.nd (aB xR (kY ql (ae 2) (aB cc (aB cU (ae 4) (aB ee (ae 1) az)) az) (λ ω ω=>rfl)) (eE vA vz vx wF aX (qI (g8 (r:=fq K) lr (ae 5) gX (gY (aB cc (ae 1) az)))))))) (aw (jL rfl jz.nd (i:=5) rfl rfl (ak.of (N:=["_law_j","_law_k","_law_letters","_law_rest"]) (nl:=[none,some 1,some 2,some 4]) (cl:=[("_law_rest",s.heap.objs.size+3),("_law_letters",s.heap.objs.size+2),("_law_k",s.heap.objs.size+1)]) rfl qP qP rfl (oZ rfl rfl rfl) (nm:=["_law_rest","_law_letters","_law_k"]) rfl qP rfl (λ i G j g=>by
            match i,G with
            | 0,_=>cases g
             |1,_=>cases g;exact s!"e"
             |2,_=>cases g;exact s!"e"
             |3,_=>cases g;exact s!"e"
            )) (iM rfl T.hH (qI az)) (λ C Z s H=>(qH 0 (show(["_law_j","_law_k","_law_letters","_law_rest"]:List V2).Nodup by decide+kernel))) (λ C Z s H=>(kY ql (ae 2) (aB cc (aB cU (aB cU (ae 3) (aB ee (ae 1) az)) (aB gW az (ae 0))) az) (λ ω ω=>rfl)))) (aC (qG 7 jz.nd (eE vA vz vx wF aX (qI (aB gF (g8 (r:=fq K) lr (ae 5) (gY (aB cc (ae 1) az)) gX) (g8 (r:=fq K) lr (ae 5) gX (gY (aB cc (ae 1) az)))))))))))) (aw (bu (iu (r:=fH K false) g9 (ae 7) (ae 3) s!"k") (aC (aY (aB xR (g8 Hl (ae 7) gX (gY az)) (d7 Fo rfl T.z_str yD (qI (ae 1)))))) bL) (aC (aY (ae 7))))))))))),?_⟩
  walk_at "s 9 z";walk_at "n z1";refine aE.of λ p1 H1 h1 s1 e1=>?_;walk_at "n z2";refine aE.of λ p2 H2 v s2 e2=>⟨_,s2 _ _ e1,_,e2,by simp,aE.of λ I H3 h3 s3 e3=>?_⟩;walk_at "n z3";walk_at "n z4";intro D hD;obtain⟨r,n⟩:∃r:Nat,r=C/4:=⟨_,rfl⟩;have er:(C:Int)/4=(r:Int):=by lia
  rw[er];refine xI none [some (.str (Qp "abcdefghijklmnopqrstuvwxyz")),some (.int (r:Int))] (λ i=>V.str (bR [97+(r/64+5*i)%26])) rfl (λ i G l kk p=>?_) (by rw[Qk];lia) ?_
  · walk_at "r";rw[show((r:Int)/64+5*(i:Int))%26=(((r/64+5*i)%26:Nat):Int)by lia];exact⟨qP,_,u_ (fQ _ qQ),p⟩
  have S3:=s1.trans (s2.trans s3);have s4:=bM hD (.lst ((bU 8).map λ i=>V.str (bR [97+(r/64+5*i)%26])));have e4:ag H3 D (.lst ((bU 8).map λ i=>V.str (bR [97+(r/64+5*i)%26]))) D=some (.lst ((f6 r).map λ c=>V.str (bR [c]))):=by
    rw[aG];unfold P23.f6;rw[dH];rfl
  generalize ag H3 D (.lst ((bU 8).map λ i=>V.str (bR [97+(r/64+5*i)%26])))=y at*;have S:=S3.trans s4;have e:y I=some (.lst (bQ.map V.str)):=s4 _ _ e3;have fin:∀{H5:Hp}{o6:Option V}{bl:V0}(l:List Nat),af H H5->H5 I=some (.lst (bQ.map V.str))->C%4≠2->l=cf (C%4) r k->uz7 {nx:=λ x H'=>Q V.non H',rt:=Q} [some (V.int ↑C),some (V.int ↑k),some (V.str (Qp "abcdefghijklmnopqrstuvwxyz")),some (V.ref I),some (V.int (r:Int)),some (V.ref bl),o6,some (.str (bR l))] H5:=by
    intro H5 o6 bl l U t5 J hl;walk_at "n z7";refine⟨_,.inl (ai.of t5),rfl,xp,ay (λ z=>?_) (λ z=>?_)⟩
    · have u:bR l∈bQ:=fR.mp z;have L:d_ C k=bR (l.take 1)++Qp (toString (k:Int)):=by
        unfold P23.d_ P23.gU;rw[T5 J,<-n,<-hl,T6 u,DQ Y];exact(wD _ _).symm
      have a0:l≠[]:=by rw[hl];exact P23.CJ
      have ll:l.length<=8:=by rw[hl];exact GX
      refine⟨_,rfl,by rw[sQ,Qk];lia,?_⟩;rw[K_ a0];refine⟨LF Y,_,rfl,?_,?_⟩
      · rw[sQ,DQ Y,sQ,cJ];have:=JA (k:=k);lia
      · rw[<-L];exact q _ U
    · have u:bR l∉bQ:=λ u=>z (fR.mpr u);have L:d_ C k=bR l:=by
        unfold P23.d_ P23.gU;rw[T5 J,<-n,<-hl,T5 u]
      walk_at "n z8";rw[<-L];exact q _ U
  walk_at "n z5";refine ay (λ z=>?_) (λ z=>?_)
  · have v:C%4=2:=by lia
    have b0:(r+k)%19<19:=fQ _ qQ;have c0:(r+k/19)%10<10:=fQ _ qQ;rw[show((r:Int)+(k:Int))%19=(((r+k)%19:Nat):Int)by lia,show((r:Int)+(k:Int)/19)%10=(((r+k/19)%10:Nat):Int)by lia];have b:(r+k)%19<bQ.length:=b0;refine⟨_,ai.of e,_,k_ b,qP,_,HM c0,_,rfl,?_,?_⟩
    · have u:=gQ b;have:=xm _ u;show _+1<=_;lia
    · have L:d_ C k=bQ[(r+k)%19]++bR [d6 ((r+k/19)%10)]:=by
        unfold P23.d_ P23.gU;rw[T6 v,<-n,<-Jl b,wD]
      rw[show(bQ[(r+k)%19]++{cps:=#[d6 ((r+k/19)%10)]})=d_ C k from L.symm];exact q _ S
  · have v:C%4≠2:=by lia
    walk_at "n z6";have b8:=P23.lE (r:=r);refine ay (λ z=>?_) (λ z=>ay (λ z1=>?_) (λ z1=>?_))
    · have w0:C%4=0:=by lia
      rw[show((r:Int)+(k:Int))%26=(((r+k)%26:Nat):Int)by lia,show((r:Int)/8%(1+(r:Int)%8))=((r/8%(1+r%8):Nat):Int)from rfl];have f0:r/8%(1+r%8)<1+r%8:=fQ _ qR;refine⟨qR,qP,_,u_ (fQ _ qQ),_,e4,r/8%(1+r%8),nZ (by rw[aA,b8];lia),?_⟩;have es:((f6 r).map λ c=>V.str (bR [c])).set (r/8%(1+r%8)) (V.str ⟨#[97+(r+k)%26]⟩)=((f6 r).set (r/8%(1+r%8)) (97+(r+k)%26)).map λ c=>V.str (bR [c]):=by rw[rQ];rfl
      rw[es];have X:ag y D (.lst (((f6 r).set (r/8%(1+r%8)) (97+(r+k)%26)).map λ c=>V.str (bR [c]))) D=some (.lst (((f6 r).set (r/8%(1+r%8)) (97+(r+k)%26)).map λ c=>V.str (bR [c]))):=aG;have fD:H D=none:=qq S3 hD;have d0:I≠D:=λ z=>by rw[z,hD]at e3;cases e3
      have S5:=g7 (o:=.lst (((f6 r).set (r/8%(1+r%8)) (97+(r+k)%26)).map λ c=>V.str (bR [c]))) S fD;have t5:ag y D (.lst (((f6 r).set (r/8%(1+r%8)) (97+(r+k)%26)).map λ c=>V.str (bR [c]))) I=some (.lst (bQ.map V.str)):=by rw[aD d0];exact e
      generalize ag y D (.lst (((f6 r).set (r/8%(1+r%8)) (97+(r+k)%26)).map λ c=>V.str (bR [c])))=H5 at*;refine⟨rfl,_,ai.of X,?_⟩;rw[show(1+(r:Int)%8)=((1+r%8:Nat):Int)by lia,xS _ _ (by rw[aA,iW,b8];lia),<-nz];refine aE.of λ p6 H6 h6 m M=>wC M (by rw[cJ];lia) ?_;refine fin _ (S5.trans m) (m _ _ t5) v ?_;rw[w0];rfl
    · have w1:C%4=1:=by lia
      rw[show((r:Int)+(k:Int)/8)%26=(((r+k/8)%26:Nat):Int)by lia,show((k:Int)%8)=((k%8:Nat):Int)by lia];refine⟨qP,_,u_ (fQ _ qQ),rfl,_,ai.of e4,?_⟩;rw[xS _ _ (by rw[aA,b8];lia),<-nz];refine aE.of λ p6 H6 h6 m M=>wC M (by rw[cJ];lia) ⟨_,rfl,?_,?_⟩
      · rw[sQ,cJ];show 1+_<=_;lia
      · rw[show(({cps:=#[97+(r+k/8)%26]}:V2)++bR ((f6 r).take (k%8)))=bR ((97+(r+k/8)%26)::(f6 r).take (k%8))from wD [97+(r+k/8)%26] _];refine fin _ (S.trans m) (m _ _ e) v ?_;rw[w1];rfl
    · have w3:C%4=3:=by lia
      intro O e0;refine xI none [some (.int (k:Int)),some (.str (Qp "abcdefghijklmnopqrstuvwxyz")),some (.int (r:Int))] (λ i=>V.str (bR [97+(r+k/8+3*i)%26])) rfl (λ i G l kk p=>?_) (by rw[Qk];lia) ?_
      · walk_at "r";rw[show((r:Int)+(k:Int)/8+3*(i:Int))%26=(((r+k/8+3*i)%26:Nat):Int)by lia];exact⟨qP,_,u_ (fQ _ qQ),p⟩
      have U:=bM e0 (.lst ((bU 8).map λ i=>V.str (bR [97+(r+k/8+3*i)%26])));have X:ag y O (.lst ((bU 8).map λ i=>V.str (bR [97+(r+k/8+3*i)%26]))) O=some (.lst ((gq (r+k/8)).map λ c=>V.str (bR [c]))):=by
        rw[aG];unfold P23.gq;rw[dH];rfl
      generalize ag y O (.lst ((bU 8).map λ i=>V.str (bR [97+(r+k/8+3*i)%26])))=H5 at*;have t8:=P23.mW (r:=r+k/8);have k8:k%8<8:=fQ _ qQ;rw[show((k:Int)%8)=((k%8:Nat):Int)by lia];refine⟨rfl,O,rfl,_,ai.of X,?_⟩;rw[Lo _ _ (by rw[aA,t8];lia),<-List.map_drop];refine aE.of λ p6 H6 h6 m M=>⟨O,rfl,_,ai.of (m _ _ X),?_⟩;rw[xS _ _ (by rw[aA,t8];lia),<-nz];refine aE.of λ p7 H7 h7 s7 e7=>⟨_,s7 _ _ M,_,e7,by rw[aA,aA,gA,cJ];lia,aE.of λ p8 H8 h8 s8 e8=>?_⟩;rw[<-ew]at e8;refine wC e8 (by rw[bB,gA,cJ];lia) ?_;have R:=U.trans (m.trans (s7.trans s8));refine fin _ (S.trans R) (R _ _ e) v ?_;rw[w3];rfl
open P23 (Rw di ik fF)
inductive dE(K:X0)(H:Hp):V->Rw->Prop
 |mk{t hl:V0}{ft:V}{us:List V}{r:Rw}:H t=some (.tup [.str r.name,oS r.elder,ft,.ref hl])->RT K H ft (pairsD r.fields)->H hl=some (.lst us)->bb K H us (r.heads.map gE)->dE K H (.ref t) r
inductive Ep(K:X0)(tb:V0)(vs:List V)(H:Hp)(Q:VK):Prop
 |mk(a:V0)(sc:List Int)(a1:vs=[.ref a])(a2:ai K H a (sc.map V.int))(a3:H tb=some (.tbl #[]))(a4:∀l us (rs:List Rw) H',SX tb H H'->H' l=some (.lst us)->A2 (dE K H') us rs->di rs->(∀x∈rs.map Rw.name,x∉P23.NN)->Q (.ref l) H'):Ep K tb vs H Q
def zC(K:X0)(tb:V0):Sp:=λ vs H Q ω=>Ep K tb vs H Q
theorem wM{K:X0}:∀{vs:List V}{b:List PyData},vs.length=b.length->(∀(j:Nat) v,vs[j]?=some v->∃d,b[j]?=some d/\RT K H v d)->bb K H vs b
 |[],[],_,_=>.nil
 |v::vs,d::b,hl,h=>by
  obtain⟨g,e,r⟩:=h 0 v rfl;cases e;exact .cons r (wM (nB hl) λ j v c=>h (j+1) v c)
theorem D_{K:X0}:∀{vs:List V}{b:List PyData}(j:Nat){v:V}{d:PyData},bb K H vs b->RT K H v d->bb K H (vs.set j v) (b.set j d)
 |_,_,_,_,_,.nil,_=>.nil
 |_,_,0,_,_,.cons _ t,r=>.cons r t
 |_,_,j+1,_,_,.cons q t,r=>.cons q (D_ j t r)
inductive eM(K:X0)(x:V0)(H:Hp):V->Rw->Prop
 |mk{t hl:V0}{ft:V}{us:List V}{r:Rw}:H t=some (.tup [.str r.name,oS r.elder,ft,.ref hl])->RT K H ft (pairsD r.fields)->H hl=some (.lst us)->bb K H us (r.heads.map gE)->hl≠x->eM K x H (.ref t) r
theorem eM.row{K:X0}{v:V}{r:Rw}(h:eM K x H v r):dE K H v r:=by
 cases h with
 |mk a b c d e=>exact .mk a b c d
theorem eM.same{K:X0}{v:V}{r:Rw}(h:eM K x H v r)(s:af H H'):eM K x H' v r:=by
 cases h with
 |mk a b c d e=>exact .mk (s _ _ a) (b.same s) (s _ _ c) (d.same s) e
theorem eM.put{K:X0}{v:V}{r:Rw}{ys:List V}(o:HO)(h:eM K x H v r)(g:H x=some (.lst ys)):eM K x (ag H x o) v r:=by
 have k:Kp H (ag H x o):=Kp.lst _ g;cases h with
 |mk a b c d e=>exact .mk (k.t _ _ a) (b.kp k) (by rw[aD e];exact c) (d.kp k) e
theorem dE.same{K:X0}{v:V}{r:Rw}(h:dE K H v r)(s:af H H'):dE K H' v r:=by
 cases h with
 |mk a b c d=>exact .mk (s _ _ a) (b.same s) (s _ _ c) (d.same s)
structure RJ(K:X0)(H6:Hp)(fl tk:V0)(p:List Nat)(es:List (Option Nat))(q0 ns:List V2)(m i:Nat)(H':Hp)(fv:List V)(fss:List (List (V2×V2)))(tv:List V)(tks:List (List V2)):Prop where
 s:af H6 H'
 hf:H' fl=some (.lst fv)
 ht:H' tk=some (.lst tv)
 rf:bb K H' fv (fss.map pairsD)
 lf:fss.length=m
 lv:tv.length=m
 lt:tks.length=m
 fo:∀fs∈fss,fW q0 [] ns fs
 at':∀(j:Nat) v x,tv[j]?=some v->tks[j]?=some x->∃l,v=.ref l/\l≠tk/\l≠fl/\aZ H' l x/\x.length<=4*i
 tk':∀b,b<i->∀j,p[b]?=some j->fF es fss tks j
noncomputable def RI(K:X0)(H6:Hp)(a nl pp ol el fl tk:V0)(p:List Nat)(es:List (Option Nat))(q0 ns:List V2)(F m i:Nat)(σ:St)(H':Hp):Prop:=∃e g b h c,RJ K H6 fl tk p es q0 ns m i H' g b h c/\σ=[some (V.ref a),some (V.int (F:Int)),some (V.int (m:Int)),some (V.ref nl),some (V.ref pp),some (V.ref ol),some (V.ref el),some (V.ref fl),some (V.ref tk),e,none,none]
noncomputable def RK(K:X0)(Hb:Hp)(a nl pp ol el fl tk rl:V0)(ns:List V2)(es:List (Option Nat))(fss:List (List (V2×V2)))(q1 q2:List V2)(F m i:Nat)(σ:St)(H':Hp):Prop:=∃(e c:Option V)(us:List V)(b:List (List (V2×List (V2×V2)×V2))),af Hb H'/\H' rl=some (.lst us)/\b.length=i/\A2 (eM K rl H') us ((bU i).map (ik ns es fss λ j=>b.getD j []))/\(∀h∈b,u9 q1 q2 ns h)/\σ=[some (V.ref a),some (V.int (F:Int)),some (V.int (m:Int)),some (V.ref nl),some (V.ref pp),some (V.ref ol),some (V.ref el),some (V.ref fl),some (V.ref tk),e,some (V.ref rl),c]
theorem JM(T:∅){tb:V0}(oy:aO P w K mg base 1 "_law_drawn" ["_law_script","_law_k"] (lF K))(uS:aO P w K mg base 1 "_law_name" ["_law_cell","_law_k"] (wY K d_))(Gq:aO P w K mg base 5 "_law_order" ["_law_script","_law_many"] (zH K tb))(GH:aO P w K mg base 2 "_law_elders_drawn" ["_law_script","_law_order_here"] (Bt K))(Gs:aO P w K mg base 2 "_law_fields" ["_law_script","_law_j","_law_taken","_law_pool","_law_names"] (Bp K))(Gp:aO P w K mg base 3 "_law_heads" ["_law_script","_law_j","_law_pools","_law_names"] (zT K)):aO P w K mg base 6 "_law_rows" ["_law_script"] (zC K tb):=by
  refine aO.of T.Gj iR (λ ω ω ω ω ω ω us hl=>el1 us hl λ ω=>rfl) (λ vs H Q E h=>?_) (λ f cdv A outer s H vs Q E hr h=>?_)
  · obtain⟨a,sc,rfl,ω⟩:=h;rfl
  obtain⟨a,sc,rfl,sq,htb,q⟩:=h;refine⟨_,(aw (jH (i:=1) iR.nd rfl (Or.inr rfl) (bq oy hr qR rfl (qJ (ae 0) az))) (aw (qG 2 iR.nd (qD K (bK (qJ (aB cU az (aB cc (ae 1) az)) az)) (d7 Ac rfl T.z_int CU (qI (ja cM (aB cc (aB ee (ae 1) az) az) az (kr _)))))) (aw (jL rfl iR.nd (i:=3) rfl rfl (ak.of (N:=["_law_j","_law_first"]) (nl:=[none,some 1]) (cl:=[("_law_first",s.heap.objs.size+2)]) rfl qP qP rfl (ei rfl) (nm:=["_law_first"]) rfl qP rfl (λ i hi j hj=>by
            match i,hi with
            | 0,_=>cases hj
             |1,_=>cases hj;exact s!"e"
            )) (iM rfl T.hH (qI (ae 2))) (λ C fp s H=>(qH 0 (show(["_law_j","_law_first"]:List V2).Nodup by decide+kernel))) (λ C fp s H=>(bq uS hr qR rfl (qJ (aB ee (ae 1) az) (ae 0))))) (aw (E3 rfl iR.nd (i:=4) rfl rfl (bA.mk' (y:="_law_way") (N:=["_law_way","_law_script"]) (nl:=[none,some 0]) (cl:=[("_law_script",s.heap.objs.size+1)]) rfl qP rfl qP rfl (ei rfl) (nm:=["_law_script"]) rfl qP rfl (λ i hi j hj=>by
            match i,hi with
            | 0,_=>cases hj
             |1,_=>cases hj;exact s!"e"
            ) (λ ω=>rfl) (λ ω=>rfl)) (iM rfl T.hH (qI az)) (λ Cq fpq sq Hq=>(wh (i:=0) (show(["_law_way","_law_script"]:List V2).Nodup by decide+kernel) rfl (Or.inr rfl))) (λ Cq fpq sq Hq=>(eF rfl (ak.of (N:=["_law_k","_law_script","_law_way"]) (nl:=[none,some 1,some 0]) (cl:=[("_law_way",Cq+1),("_law_script",s.heap.objs.size+1)]) rfl qP qP rfl (iC rfl rfl) (nm:=["_law_way","_law_script"]) rfl qP rfl (λ i hi j hj=>by
            match i,hi with
            | 0,_=>cases hj
             |1,_=>cases hj;exact s!"e"
             |2,_=>cases hj;exact s!"e"
            )) (iM rfl T.hH (qI az)) (λ C fp s H=>(qH 0 (show(["_law_k","_law_script","_law_way"]:List V2).Nodup by decide+kernel))) (λ C fp s H=>(bq uS hr qR rfl (qJ (aB ee (bq oy hr qR rfl (qJ (ae 1) (aB cU az (ae 2)))) az) (ae 0))))))) (aw (qG 5 iR.nd (bq Gq hr qR rfl (qJ (ae 0) (ae 2)))) (aw (qG 6 iR.nd (bq GH hr qR rfl (qJ (ae 0) (ae 5)))) (aw (qG 7 iR.nd (aB yH (bK (qI (bz dO))) (ae 2))) (aw (jL rfl iR.nd (i:=8) rfl rfl (ak.plain (N:=["_law_name_here"]) rfl qP qP qP) (eH (ae 3)) (λ C fp s H=>(qH 0 (show(["_law_name_here"]:List V2).Nodup by decide+kernel))) (λ C fp s H=>(bK dO))) (aw (eZ Qs rfl (eH (ae 5)) (qH 9 iR.nd) (aw (bu (qM qs (qD K (ae 6) (ae 9)) fj) (aC (iq (d7 qX rfl T.lJ mL (qI (qD K (ae 8) (qD K (ae 6) (ae 9))))) (mD (ae 8) (ae 9) mR))) bL) (aw (iq (bq Gs hr qR rfl (cg (ae 0) (cg (ae 9) (qK (qD K (ae 8) (ae 9)) (qD K (ae 4) az) (ae 3))))) (mD (ae 7) (ae 9) mR)) (aC (iq (aB gF (qD K (ae 8) (ae 9)) (eF rfl (ak.plain (N:=["_law_field"]) rfl qP qP qP) (eY (qD K (ae 7) (ae 9))) (λ C fp s H=>(qH 0 (show(["_law_field"]:List V2).Nodup by decide+kernel))) (λ C fp s H=>(qA K 0)))) (mD (ae 8) (ae 9) mR)))))) (aw (qG 10 iR.nd (bK dO)) (aw (eZ Qs rfl (iM rfl T.hH (qI (ae 2))) (qH 9 iR.nd) (aw (qG 11 iR.nd (wR (qM mG (qD K (ae 6) (ae 9)) fj) fj (qD K (ae 3) (qD K (ae 6) (ae 9))))) (aC (d8 (eE eu fY fX fK (ae 10) (qI (bz (cg (qD K (ae 3) (ae 9)) (qK (ae 11) (qD K (ae 7) (ae 9)) (bq Gp hr qR rfl (cg (ae 0) (qK (ae 9) (ae 4) (ae 3))))))))))))) (aC (aY (ae 10)))))))))))))),?_⟩
  refine FP λ uz11 huz11 uz10 huz10 uz9 huz9 uz8 huz8 uz7 huz7 uz6 huz6 uz5 huz5 uz4 huz4 uz3 huz3 uz2 huz2 uz1 huz1=>?_;walk_at "r";refine⟨a,sc,0,rfl,sq,qR,λ r rz r0 r1=>?_⟩;obtain⟨F,rfl⟩:∃F:Nat,r=(F:Int):=⟨r.toNat,qR⟩;walk_at "n z1";obtain⟨m,hm,m1,m12⟩:∃m:Nat,c7 [V.int (1+(F:Int)%6),V.int 12] (if(F:Int)/6%8=1 then 1 else 0)=some (.int (m:Int))/\1<=m/\m<=12:=by
    by_cases z:(F:Int)/6%8=1
    · rw[T6 z];exact⟨12,eB,qR,qR⟩
    · rw[T5 z];exact⟨1+F%6,cL.trans (congrArg (λ y=>some (V.int y)) qR),qR,qR⟩
  refine aE.of λ p1 H1 h1 s1 e1=>.inr ⟨_,ai.of e1,_,hm,?_⟩;walk_at "n z2";rw[gf];refine⟨qR,qR,λ nl hnl=>?_⟩;refine qy (n:=m) none [some (.int (F:Int))] (λ j v H=>v=.str (d_ (F/48) j)) (λ ω ω ω ω h ω=>h) rfl hnl (by rw[Qk];lia) (λ i hi H2 K' s2 kk=>?_) (λ vs H2 s2 hnl2 lvs hR=>?_)
  · walk_at "r";exact⟨F/48,i,by rw[show(F:Int)/48=((F/48:Nat):Int)by lia],qR,λ H3 s3=>kk _ _ s3 rfl⟩
  obtain⟨ns,hns⟩:∃ns:List V2,ns=(bU m).map λ j=>d_ (F/48) j:=⟨_,rfl⟩;have lns:ns.length=m:=by rw[hns,aA,eU]
  have ndn:ns.Nodup:=by rw[hns];exact P23.xb _ _ qR
  have son:∀x∈ns,P23.bC x:=by rw[hns];exact P23.xV _ _ qR
  have nwn:∀x∈ns,x∉P23.NN:=by rw[hns];exact P23.LV _ _ qR
  have hnl3:aZ H2 nl ns:=by
    show H2 nl=_;rw[hnl2];refine congrArg (λ l=>some (HO.lst l)) (lS λ j=>?_);rw[hns,dH];by_cases hj:j<m
    · rw[a_,jk hj,aV qR];exact congrArg some (hR j _ (aV qR))
    · rw[ic qR,ic (by rw[aA,eU];lia)]
  have S2:=s1.trans s2;clear hR hnl2 lvs hns e1 h1;walk_at "n z3";intro pp hpp;refine wW (n:=3) none [some (.ref a)] (λ i x=>x=.int ((i:Nat):Int)) (λ i vs H'=>af H2 H'/\∀v∈vs,∃l xs,v=V.ref l/\l≠pp/\aZ H' l xs/\xs.length=26/\xs.Nodup/\∀x∈xs,P23.bC x) rfl (by rw[Qk];lia) ⟨bM hpp _,λ v hv=>T7 hv h_⟩ (λ i vs H' hi hW=>⟨hi,λ x H3 hy=>?_⟩) (λ vs H' hW=>aS _) (λ i x vs H' K' hi hx hW hD kk=>?_) (λ vs H3 hW hD lvs=>?_)
  · obtain⟨rfl,rfl⟩:=hy;exact⟨rfl,by rw[pE]⟩
  · subst hx;obtain⟨sW,hWv⟩:=hW;walk_at "r";intro D2 hD2;have nD:D2≠pp:=λ z=>by rw[z,hD]at hD2;cases hD2
    refine qy (n:=26) none [some (.ref a),some (.int (i:Int))] (λ j v H=>v=.str (d_ ((lD sc (1+i)).toNat/3) j)) (λ ω ω ω ω h ω=>h) rfl hD2 (by rw[Qk];lia) (λ j hj H4 K2 s4 kk2=>?_) (λ vs2 H4 s4 hD4 lvs2 hR2=>?_)
    · walk_at "r";refine⟨a,sc,1+i,by rw[gP];rfl,sq.same (S2.trans (sW.trans s4)),qR,λ r rz r0 r1=>?_⟩;obtain⟨R,rfl⟩:∃R:Nat,r=(R:Int):=⟨r.toNat,qR⟩;exact⟨_,rfl,R/3,j,by rw[show(R:Int)/3=((R/3:Nat):Int)by lia],hj,λ H5 s5=>kk2 _ _ s5 (by rw[<-rz,gf])⟩
    · have hxs:vs2=(P23.my ((lD sc (1+i)).toNat/3)).map V.str:=by
        refine lS λ j=>?_;unfold P23.my;rw[dH];by_cases hj:j<26
        · rw[a_,jk hj,aV qR];exact congrArg some (hR2 j _ (aV qR))
        · rw[ic qR,ic (by rw[aA,eU];lia)]
      subst hxs;refine kk _ _ (s4 _ _ hD) ⟨g7 (sW.trans s4) hpp,λ v hv=>?_⟩;rcases dy.mp hv with hv|hv
      · obtain⟨l,ys,rfl,nl2,hl,ll⟩:=hWv v hv;refine⟨l,ys,rfl,nl2,?_,ll⟩;show ag _ _ _ l=_;rw[aD nl2];exact s4 _ _ hl
      · cases cu.mp hv;refine⟨D2,P23.my ((lD sc (1+i)).toNat/3),rfl,nD,?_,P23.zE _,P23.xb _ 26 (aS _),P23.xV _ 26 (aS _)⟩;show ag _ _ _ D2=_;rw[aD nD];exact hD4
  obtain⟨s3,hWv⟩:=hW;obtain⟨v0,v1,v2,rfl⟩:∃v0 v1 v2,vs=[v0,v1,v2]:=by
    match vs,lvs with
    |[v0,v1,v2],_=>exact⟨v0,v1,v2,rfl⟩
  obtain⟨p0,q0,rfl,ω,hp0,l0,nd0,so0⟩:=hWv v0 s!"n";obtain⟨p1',q1,rfl,ω,hp1,l1,nd1,so1⟩:=hWv v1 s!"n";obtain⟨p2,q2,rfl,ω,hp2,l2,nd2,so2⟩:=hWv v2 s!"n";have S3:=S2.trans s3;have hnl4:aZ H3 nl ns:=s3 _ _ hnl3;clear hWv lvs;walk_at "n z4";refine⟨a,sc,m,rfl,sq.same S3,qR,S3 _ _ htb,λ H4 ol p sx4 hol eol hperm=>?_⟩;have lp:p.length=m:=by rw[hperm.length_eq,eU]
  have hT3:=S3 _ _ htb;have sx04:SX tb H H4:=(SX.of S3).trans sx4;have kl:∀{l:V0}{xs:List V},H3 l=some (.lst xs)->H4 l=some (.lst xs):=λ h=>sx4 _ _ (jt h hT3 (λ z=>by cases z)) h;have hnl5:aZ H4 nl ns:=kl hnl4;have hpp5:H4 pp=some (.lst [.ref p0,.ref p1',.ref p2]):=kl hD;have hp05:aZ H4 p0 q0:=kl hp0;have hp15:aZ H4 p1' q1:=kl hp1;have hp25:aZ H4 p2 q2:=kl hp2;have sq5:=rF sx04 htb sq;clear kl hnl4 hD hp0 hp1 hp2 hnl3 s3 sx4 S2 s2 s1 S3 hT3;walk_at "n z5";refine⟨a,sc,ol,p,rfl,sq5,eol,by rw[lp];exact hperm,qR,qR,λ H6 el es s6 hel eel les hels=>?_⟩;rw[lp]at les hels;have hnl6:aZ H6 nl ns:=s6 _ _ hnl5;have hpp6:=s6 _ _ hpp5;have hp06:aZ H6 p0 q0:=s6 _ _ hp05;have hp16:aZ H6 p1' q1:=s6 _ _ hp15;have hp26:aZ H6 p2 q2:=s6 _ _ hp25;have eol6:=s6 _ _ eol;have sq6:=sq5.same s6;have sx06:SX tb H H6:=sx04.trans (SX.of s6);clear hnl5 hpp5 hp05 hp15 hp25 eol sq5 sx04 s6;walk_at "n z6";refine aE.of λ e0 H7 h7 s7 e7=>aE.of λ p8 H8 h8 s8 e8=>⟨_,e8,qR,qR,by rw[gf];show 1*_<=_;lia,λ fl hfl=>?_⟩;have efl:(c9 ((m:Nat):Int).toNat [V.ref e0]).flatten=c9 m (V.ref e0):=by rw[gf];exact xc
  rw[efl];have s9:=bM hfl (.lst (c9 m (V.ref e0)));have e9:ag H8 fl (.lst (c9 m (V.ref e0))) fl=some (.lst (c9 m (V.ref e0))):=aG;generalize ag H8 fl (.lst (c9 m (V.ref e0)))=H9 at*;have S8:=s7.trans s8;have fl6:H6 fl=none:=qq S8 hfl;have S9:=S8.trans s9;walk_at "n z7";have hnl9:aZ H9 nl ns:=S9 _ _ hnl6;refine⟨⟨_,ai.of hnl9⟩,λ tk htk=>?_⟩;refine wW (n:=m) none [] (λ i x=>True) (λ i vs H'=>af H9 H'/\∀v∈vs,∃l,v=V.ref l/\l≠tk/\l≠fl/\aZ H' l []) rfl (by rw[Qk];lia) ⟨bM htk _,λ v hv=>T7 hv h_⟩ (λ i vs H' hi hW=>⟨⟨_,_,ai.of (hW.1 _ _ hnl9),aV (by rw[aA];lia)⟩,λ x H3 hy=>⟨hy.1,trivial⟩⟩) (λ vs H' hW=>⟨_,ai.of (hW.1 _ _ hnl9),by rw[aA];lia⟩) (λ i x vs H' K' hi hx hW hD kk=>?_) (λ vs H10 hW hD lvs=>?_)
  · obtain⟨sW,hWv⟩:=hW;walk_at "r";refine aE.of λ d H3 h3 s3 e3=>?_;have n1:d≠tk:=λ z=>by rw[z,hD]at h3;cases h3
    have n2:d≠fl:=λ z=>by rw[z,sW _ _ e9]at h3;cases h3
    refine kk _ _ (s3 _ _ hD) ⟨g7 (sW.trans s3) htk,λ v hv=>?_⟩;rcases dy.mp hv with hv|hv
    · obtain⟨l,rfl,a1,a2,a3⟩:=hWv v hv;refine⟨l,rfl,a1,a2,?_⟩;show ag _ _ _ l=_;rw[aD a1];exact s3 _ _ a3
    · cases cu.mp hv;refine⟨d,rfl,n1,n2,?_⟩;show ag _ _ _ d=_;rw[aD n1];exact e3
  obtain⟨s10,hWv⟩:=hW;have ntf:tk≠fl:=λ z=>by rw[z,e9]at htk;cases htk
  have ut:af H6 H8:=S8;have i0:RJ K H6 fl tk p es q0 ns m 0 H10 (c9 m (V.ref e0)) (c9 m []) vs (c9 m []):=by
    refine⟨S9.trans s10,s10 _ _ e9,hD,?_,by rw[nJ],lvs,by rw[nJ],λ fs hfs=>?_,λ j v x hv hx=>?_,λ b hb=>T7 hb (nE _)⟩
    · have e0':=(s8.trans (s9.trans s10)) _ _ e7;refine wM (by rw[nJ,aA,nJ]) λ j v hj=>?_;rw[pJ]at hj;split at hj
      · cases hj;rename_i hjm;exact⟨_,by rw[a_,pJ,T6 hjm];rfl,.tup (ao.of e0') .nil⟩
      · cases hj
    · rw[(List.mem_replicate.mp hfs).2];exact⟨bJ _,(λ f hf=>T7 hf h_),.nil⟩
    · obtain⟨l,rfl,a1,a2,a3⟩:=hWv v (bN hv);rw[pJ]at hx;split at hx
      · cases hx;exact⟨l,rfl,a1,a2,a3,bJ _⟩
      · cases hx
  walk_at "n z8";have tk6:H6 tk=none:=qq S9 htk;refine⟨⟨_,ai.of ((S9.trans s10) _ _ eol6)⟩,?_⟩;refine kA (p.map λ i=>V.int ((i:Nat):Int)) (RI K H6 a nl pp ol el fl tk p es q0 ns F m) ⟨none,_,_,_,_,i0,rfl⟩ (λ i σ H' ω hI=>?_) (λ i y σ H' hy hI=>?_) (λ σ H' hI=>?_)
  · obtain⟨o9,fv,fss,tv,tks,J,ω⟩:=hI;exact ai.of (J.s _ _ eol6)
  · obtain⟨o9,fv,fss,tv,tks,J,rfl⟩:=hI;rw[a_]at hy;obtain⟨j,hy2,rfl⟩:=c_.mp hy;clear hy;have hy:=hy2;clear hy2;have hjm:j<m:=eV.mp (hperm.mem_iff.mp (bN hy));have him:i<m:=by have:=(bG.mp hy).1;lia
    walk_at "s 3 y";have key:∀(D:bc),(∀σ H,RI K H6 a nl pp ol el fl tk p es q0 ns F m (i+1) σ H->D.nx σ H)->∀H5 tv tks,RJ K H6 fl tk p es q0 ns m i H5 fv fss tv tks->(∀e,es[j]?=some (some e)->tks.getD e []=tks.getD j [])->uy1 D [some (V.ref a),some (V.int F),some (V.int m),some (V.ref nl),some (V.ref pp),some (V.ref ol),some (V.ref el),some (V.ref fl),some (V.ref tk),some (V.int j),none,none] H5:=by
      intro D hD5 H5 tv tks J hel5;have lfv:fv.length=m:=by rw[J.rf.length,aA];exact J.lf
      have ltv:=J.lv;have ltk:=J.lt;have hx5:tks[j]?=some (tks.getD j []):=by rw[P23.iw qR];exact aV qR
      have hv5:tv[j]?=some tv[j]:=aV qR;obtain⟨l,e1,n1,n2,hl,hxl⟩:=J.at' j tv[j] _ hv5 hx5;rw[e1]at hv5;generalize tks.getD j []=tj at*;walk_at "n y1";refine⟨_,ai.of J.ht,_,eI hv5,_,ai.of (J.s _ _ hpp6),.ref p0,cL,a,l,p0,nl,sc,j,tj,q0,ns,rfl,sq6.same J.s,qR,hl,J.s _ _ hp06,l0,nd0,J.s _ _ hnl6,qR,qR,λ u fs H7 s7 fso rfs=>?_⟩;have hf7:=s7 _ _ J.hf;refine⟨_,hf7,j,nZ qR,?_⟩;have tk8:ag H7 fl (.lst (fv.set j u)) tk=some (.lst tv):=by rw[aD ntf];exact s7 _ _ J.ht
      have hf8:ag H7 fl (.lst (fv.set j u)) fl=some (.lst (fv.set j u)):=aG;have hl8:ag H7 fl (.lst (fv.set j u)) l=some (.lst (tj.map V.str)):=by rw[aD n2];exact s7 _ _ hl
      have s68:af H6 (ag H7 fl (.lst (fv.set j u))):=g7 (J.s.trans s7) fl6;have kp8:Kp H7 (ag H7 fl (.lst (fv.set j u))):=Kp.lst _ hf7;have oth8:∀b o,b≠fl->H5 b=some o->ag H7 fl (.lst (fv.set j u)) b=some o:=λ b o nb hb=>by rw[aD nb];exact s7 _ _ hb
      have ru8:=rfs.kp kp8;have rf8:bb K (ag H7 fl (.lst (fv.set j u))) (fv.set j u) ((fss.set j fs).map pairsD):=by
        rw[rQ];exact D_ j ((J.rf.same s7).kp kp8) ru8
      generalize ag H7 fl (.lst (fv.set j u))=H8 at*;walk_at "n y2";obtain⟨ua,uxs,rfl,huq,hux⟩:=RT.tup_inv ru8;have lux:uxs.length=fs.length:=by rw[hux.length,aA]
      have l4:=fso.le;refine⟨_,ai.of tk8,_,eI hv5,_,ai.of hf8,.ref ua,eI (by rw[j6 qR]),ua,rfl,⟨_,huq⟩,λ D2 hD2=>?_⟩;refine iy (ys:=uxs) none [] (λ k v H=>∃t,fs[k]?=some t/\v=.str t.1) (λ ω ω ω ω h ω=>h) rfl hD2 (by rw[Qk];lia) (λ H1 s=>ao.same huq s) (λ k y hy2 H9 K' s9 kk=>?_) (λ vs H9 s9 hD9 lvs hR=>?_)
      · obtain⟨d,hd,hr'⟩:=hux.at hy2;rw[a_]at hd;obtain⟨t,ht2,rfl⟩:=c_.mp hd;obtain⟨b,zs,rfl,hz,hzs⟩:=RT.tup_inv hr';obtain⟨v1,r1,rfl,k1,hzs⟩:=hzs.inv;cases k1.str_inv;walk_at "r";exact⟨_,ao.same hz s9,_,cL,kk _ _ (af.refl _) ⟨t,ht2,rfl⟩⟩
      · have ev:=jv (g:=λ t:V2×V2=>V.str t.1) (lvs.trans lux) hR;have ev2:vs=(fs.map Prod.fst).map V.str:=by rw[ev,dH];rfl
        rw[ev2]at hD9;refine⟨l,rfl,D2,rfl,_,s9 _ _ hl8,_,hD9,by rw[aA,aA,aA];lia,aE.of λ p' H10 h10 s10 e10=>?_⟩;have S:=s9.trans s10;have tk10:=S _ _ tk8;have n10:p'≠tk:=λ z=>by rw[z,s9 _ _ tk8]at h10;cases h10
        have n10':p'≠fl:=λ z=>by rw[z,s9 _ _ hf8]at h10;cases h10
        refine⟨_,tk10,j,nZ qR,hD5 _ _ ⟨_,fv.set j (.ref ua),fss.set j fs,tv.set j (.ref p'),tks.set j (tj++fs.map Prod.fst),⟨g7 (s68.trans S) tk6,?_,aG,bb.kp (Kp.lst _ tk10) (rf8.same S),by rw[iW];exact J.lf,by rw[iW];exact J.lv,by rw[iW];exact J.lt,λ x hx=>?_,λ j' v x hv hx=>?_,P23.HC hperm hels J.lf J.lt hy J.tk' hel5 (λ f hf=>(fso.nm f hf).2.1)⟩,rfl⟩⟩
        · rw[aD ntf.symm];exact S _ _ hf8
        · rcases rW hx with hx|hx
          · exact J.fo x hx
          · rw[hx];exact⟨fso.le,λ f hf=>⟨(fso.nm f hf).1,h_,(fso.nm f hf).2.2⟩,fso.nd⟩
        · by_cases hjj:j=j'
          · subst hjj;rw[j6 qR]at hv hx;cases hv;cases hx;refine⟨p',rfl,n10,n10',?_,by rw[bB,aA];lia⟩;show ag _ _ _ _=_;rw[aD n10,e10,ew]
          · rw[nL hjj]at hv hx;obtain⟨l',e1',n1',n2',hl',hx'⟩:=J.at' j' v x hv hx;refine⟨l',e1',n1',n2',?_,qR⟩;show ag _ _ _ _=_;rw[aD n1'];exact S _ _ (oth8 _ _ n2' hl')
    have el':ai K H' el (es.map oV):=ai.of (J.s _ _ eel);obtain⟨o,ho⟩:∃o,es[j]?=some o:=⟨_,aV qR⟩;have ato:c7 (es.map oV) (j:Int)=some (oV o):=eI (by rw[a_,ho];rfl);refine⟨_,el',_,ato,?_⟩;cases o with
    |none=>exact ay (λ z=>T7 rfl z) (λ ω=>key _ (λ ω ω h=>h) H' tv tks J (λ e he=>by rw[ho]at he;cases he))
    |some e=>
      refine ay (λ ω=>?_) (λ z=>T7 (λ z=>by cases z) z);obtain⟨hem,hne⟩:=P23.Cn hperm hels ho;have ltv:=J.lv;have ltk:=J.lt;have hxe:tks[e]?=some (tks.getD e []):=by rw[P23.iw qR];exact aV qR
      have hve:tv[e]?=some tv[e]:=aV qR;obtain⟨le,e1,n1,n2,hle,hxl⟩:=J.at' e tv[e] _ hve hxe;rw[e1]at hve;refine⟨_,el',_,ato,(e:Int),rfl,_,ai.of J.ht,_,eI hve,le,rfl,_,.inl (ai.of hle),λ l hl=>?_⟩;have s2:=bM hl (.lst ((tks.getD e []).map V.str));have e2:ag H' l (.lst ((tks.getD e []).map V.str)) l=some (.lst ((tks.getD e []).map V.str)):=aG;have n3:l≠tk:=λ z=>by rw[z,J.ht]at hl;cases hl
      have n4:l≠fl:=λ z=>by rw[z,J.hf]at hl;cases hl
      generalize ag H' l (.lst ((tks.getD e []).map V.str))=H2' at*;have tk2:=s2 _ _ J.ht;refine⟨_,tk2,j,nZ qR,key _ (λ ω ω h=>h) _ (tv.set j (.ref l)) (tks.set j (tks.getD e [])) ⟨g7 (J.s.trans s2) tk6,?_,aG,bb.kp (Kp.lst _ tk2) (J.rf.same s2),J.lf,by rw[iW];exact J.lv,by rw[iW];exact J.lt,J.fo,λ j' v x hv hx=>?_,P23.H_ hperm hels hy J.tk'⟩ (λ e' he'=>?_)⟩
      · rw[aD ntf.symm];exact s2 _ _ J.hf
      · by_cases hjj:j=j'
        · subst hjj;rw[j6 qR]at hv hx;cases hv;cases hx;refine⟨l,rfl,n3,n4,?_,hxl⟩;show ag _ _ _ _=_;rw[aD n3];exact e2
        · rw[nL hjj]at hv hx;obtain⟨l',e1',n1',n2',hl',hx'⟩:=J.at' j' v x hv hx;refine⟨l',e1',n1',n2',?_,hx'⟩;show ag _ _ _ _=_;rw[aD n1'];exact s2 _ _ hl'
      · rw[ho]at he';cases he';rw[P23.mO hne,P23.wG qR]
  · obtain⟨o9,fv,fss,tv,tks,J,rfl⟩:=hI;have lfv:fv.length=m:=by rw[J.rf.length,aA];exact J.lf
    have lfs:=J.lf;walk_at "n z9";refine aE.of λ rl H11 h11 s11 e11=>?_;walk_at "n z10";refine⟨qR,qR,?_⟩;rw[gf];refine qU (RK K H' a nl pp ol el fl tk rl ns es fss q1 q2 F m) ⟨o9,none,[],[],s11,e11,rfl,.nil,(λ f hf=>T7 hf h_),rfl⟩ (λ i σ G' hi hI=>?_) (λ σ G' hI=>?_)
    · obtain⟨o9,o11,us,hds,sI,hrl,lhd,hA,hhd,rfl⟩:=hI;have lus:us.length=i:=by rw[hA.len,aA,eU]
      have s6I:=J.s.trans sI;rw[pE];walk_at "s 2 x";have key:∀(D:bc),(∀σ H,RK K H' a nl pp ol el fl tk rl ns es fss q1 q2 F m (i+1) σ H->D.nx σ H)->ux1 D [some (V.ref a),some (V.int F),some (V.int m),some (V.ref nl),some (V.ref pp),some (V.ref ol),some (V.ref el),some (V.ref fl),some (V.ref tk),some (V.int i),some (V.ref rl),some (oS ((es.getD i none).map λ e=>ns.getD e ""))] G':=by
        intro D hD;have hfi:fv[i]?=some fv[i]:=aV qR;obtain⟨d,hd,rfi⟩:=J.rf.at hfi;rw[a_]at hd;obtain⟨fs,hfs,rfl⟩:=c_.mp hd;walk_at "n x1";refine⟨.inl ⟨rfl,_,ai.of hrl⟩,_,ai.of (s6I _ _ hnl6),_,k_ (show i<ns.length by lia),_,ai.of (sI _ _ J.hf),_,eI hfi,a,pp,p0,p1',p2,nl,sc,i,q0,q1,q2,ns,rfl,sq6.same s6I,qR,s6I _ _ hpp6,s6I _ _ hp16,l1,nd1,s6I _ _ hp26,l2,nd2,s6I _ _ hnl6,qR,λ hl hs hus H2 s2 h2 e2 r2 hok=>aE.of λ p3 H3 h3 s3 e3=>?_⟩;have S:=s2.trans s3;have hrl3:=S _ _ hrl;have row:eM K rl H3 (.ref p3) (ik ns es fss (λ j=>(hds++[hs]).getD j []) i):=by
          have e1':ns.getD i ""=ns[i]:=P23.iw qR;have e2':fss.getD i []=fs:=by rw[c6,hfs];rfl
          have e3':(hds++[hs]).getD i []=hs:=by rw[c6,jF qR,lhd,Nat.sub_self];rfl
          refine eM.mk (r:=ik ns es fss (λ j=>(hds++[hs]).getD j []) i) (ft:=fv[i]) (us:=hus) (hl:=hl) ?_ ?_ (s3 _ _ e2) ?_ (λ z=>by rw[z,hrl]at h2;cases h2)
          · show H3 p3=some (.tup [.str (ns.getD i ""),oS _,_,_]);rw[e1'];exact e3
          · show RT K H3 _ (pairsD (fss.getD i []));rw[e2'];exact rfi.same (sI.trans S)
          · show bb K H3 hus (((hds++[hs]).getD i []).map gE);rw[e3'];exact r2.same s3
        have er:(bU i).map (ik ns es fss λ j=>(hds++[hs]).getD j [])=(bU i).map (ik ns es fss λ j=>hds.getD j []):=List.map_congr_left λ j hj=>by
          have:(hds++[hs]).getD j []=hds.getD j []:=by
            have:=eV.mp hj;rw[c6,c6,jE qR]
          unfold P23.ik;dsimp only;rw[this]
        refine⟨_,hrl3,qR,hD _ _ ⟨_,_,us++[.ref p3],hds++[hs],g7 (sI.trans S) h11,aG,by rw[bB,lhd];rfl,?_,λ h hm=>?_,rfl⟩⟩
        · rw[List.range_succ,ew,er];exact A2.snoc (hA.mono λ ω ω r=>(r.same S).put _ hrl3) (row.put _ hrl3)
        · rcases(dy.mp hm)with hm|hm
          · exact hhd h hm
          · cases cu.mp hm;exact hok
      have el':ai K G' el (es.map oV):=ai.of (s6I _ _ eel);obtain⟨o,ho⟩:∃o,es[i]?=some o:=⟨_,aV qR⟩;have ato:c7 (es.map oV) (i:Int)=some (oV o):=eI (by rw[a_,ho];rfl);have eo:es.getD i none=o:=by rw[c6,ho];rfl
      rw[eo]at key;refine⟨_,el',_,ato,?_⟩;cases o with
      |none=>exact ay (λ ω=>key _ (λ ω ω h=>h)) (λ z=>T7 rfl z)
      |some e=>
        have hem:=(P23.Cn hperm hels ho).1;have atn:c7 (ns.map V.str) (e:Int)=some (.str (ns.getD e "")):=by rw[P23.iw qR];exact k_ qR
        exact ay (λ z=>by cases z) (λ ω=>⟨_,el',_,ato,(e:Int),rfl,_,ai.of (s6I _ _ hnl6),_,atn,key _ (λ ω ω h=>h)⟩)
    · obtain⟨o9,o11,us,hds,sI,hrl,lhd,hA,hhd,rfl⟩:=hI;walk_at "n z11";refine q rl us _ G' (sx06.trans (SX.of (J.s.trans sI))) hrl (hA.mono λ ω ω r=>r.row) (P23.IP lns les lfs ndn hperm hels m1 m12 son so0 so1 so2 J.fo (λ j hj=>by rw[P23.iw qR];exact hhd _ (gQ _)) (λ b hb=>J.tk' b (by rw[aA];lia))) (λ x hx=>?_);rw[dH]at hx;obtain⟨j,hj,rfl⟩:=bE.mp hx;have hjm:=eV.mp hj;show ns.getD j ""∉_;rw[P23.iw qR];exact nwn _ (gQ _)
inductive Dn(c:CS)(K:X0)(vs:List V)(H:Hp)(Q:VK):Prop
 |mk(v:V)(d:Wd)(a1:vs=[v])(a2:RT K H v (kq d))(a3:iN d)(a4:∀u H',af H H'->e_ K c H' u d->Q u H'):Dn c K vs H Q
def wK(c:CS)(K:X0):Sp:=λ vs H Q ω=>Dn c K vs H Q
inductive Ec(c:CS)(K:X0)(vs:List V)(H:Hp)(Q:VK):Prop
 |mk(v:V)(d:Hs)(a1:vs=[v])(a2:RT K H v (km d))(a3:kQ d)(a4:∀u H',af H H'->eQ K c H' u d->Q u H'):Ec c K vs H Q
def Ez(c:CS)(K:X0):Sp:=λ vs H Q ω=>Ec c K vs H Q
inductive Bf(c:CS)(K:X0)(vs:List V)(H:Hp)(Q:VK):Prop
 |mk(v:V)(d:Pg)(a1:vs=[v])(a2:RT K H v (k9 d))(a3:(∀h∈d.houses,kQ h))(a4:d.houses.length<=100)(a5:iN d.main)(a6:d.main.name="main")(a7:∀u H',af H H'->iP K c H' u d->Q u H'):Bf c K vs H Q
def Bl(c:CS)(K:X0):Sp:=λ vs H Q ω=>Bf c K vs H Q
theorem tQ{b C:V0}(e:H x=none)(c:H b=none)(g:b≠x):af H (ag (ag H b (.own x)) x (.ins C b [])):=
 (bM c _).trans (bM (by rw[aD (λ z=>g z.symm)];exact e) _)
theorem Gb{K:X0}{v:V}{o:Option V2}(h:RT K H v (oD o)):v=oS o:=by
 cases o with
 |none=>cases h;rfl
 |some s=>cases h;rfl
theorem C3{b:Type}{c:V->b->Prop}{ts:List b}(l:vs.length=ts.length)(h:∀(j:Nat) v,vs[j]?=some v->∃t,ts[j]?=some t/\c v t):A2 c vs ts:=A2.of l h
theorem ID(T:∅)(c:aO P w K mg base 4 "term_of" ["plain"] (Al Ct K))(b:aT P w K mg base 2 Cw "__init__" ["self","name","params","kind","body"] (Eb s!"a" K)):aO P w K mg base 5 "word_of" ["plain"] (wK s!"a" K):=by
 walk_at "h O8 uN 1"
 obtain⟨v,d,rfl,y,hd,q⟩:=h;obtain⟨a,S,rfl,z,g⟩:=y.tup_inv;obtain⟨U,X,rfl,D,g⟩:=g.inv;obtain⟨G,Y,rfl,I,g⟩:=g.inv;obtain⟨Z,r3,rfl,J,g⟩:=g.inv;obtain⟨L,r4,rfl,M,g⟩:=g.inv;cases g.nil_inv;cases D.str_inv;cases J.str_inv;refine⟨_,(aw (iq (ae 0) (i_ (n:=4) rfl (dA (qH 1 uN.nd) (dA (qH 2 uN.nd) (dA (qH 3 uN.nd) (dA (qH 4 uN.nd) i9)))))) (aC (aY (qj T.Word b hr qR rfl (cg (ae 1) (qK (ae 2) (ae 3) (bq c hr qR rfl (qI (ae 4))))))))),?_⟩;walk_at "r";refine⟨_,z,rfl,⟨_,_,rfl,⟨_,_,rfl,⟨_,_,rfl,⟨_,_,rfl,?_⟩⟩⟩⟩⟩;walk_at "r";refine⟨L,d.body,rfl,M,hd.ok,hd.fl,λ u H1 j m x N g p O=>?_⟩;have r:=tQ (C:=Cw) g p O;refine⟨x,N,G,u,d,rfl,aG,I.same (j.trans r),hd.pl,m.kp (Kp.of r),λ H3 sx R=>⟨rfl,q _ _ (gZ (j.trans r) sx ?_) R⟩⟩;cases e:H x with
 |none=>rfl
 |some o=>rw[j _ _ e]at g;cases g
theorem J8(T:∅)(g:aO P w K mg base 5 "word_of" ["plain"] (wK s!"a" K))(c:aT P w K mg base 2 Ch "__init__" ["self","name","elder","own_fields","own_words"] (zS s!"a" K)):aO P w K mg base 6 "house_of" ["plain"] (Ez s!"a" K):=by
 walk_at "h Pe uO 1"
 obtain⟨v,d,rfl,I,hd,q⟩:=h;obtain⟨a,xs,rfl,X,m⟩:=I.tup_inv;obtain⟨v1,r1,rfl,Y,m⟩:=m.inv;obtain⟨v2,r2,rfl,Z,m⟩:=m.inv;obtain⟨v3,r3,rfl,h3,m⟩:=m.inv;obtain⟨v4,r4,rfl,h4,m⟩:=m.inv;cases m.nil_inv;cases Y.str_inv;cases Gb Z;obtain⟨wa,us,rfl,G,R⟩:=h4.tup_inv;have lu:us.length=d.words.length:=by rw[R.length,aA]
 have lw:=hd.wl;refine⟨_,(aw (iq (ae 0) (i_ (n:=4) rfl (dA (qH 1 uO.nd) (dA (qH 2 uO.nd) (dA (qH 3 uO.nd) (dA (qH 4 uO.nd) i9)))))) (aC (aY (qj T.House c hr qR rfl (cg (ae 1) (qK (ae 2) (ae 3) (eF rfl (ak.plain (N:=["word"]) rfl qP qP qP) (eY (ae 4)) (λ C fp s H=>(qH 0 (show(["word"]:List V2).Nodup by decide+kernel))) (λ C fp s H=>(bq g hr qR rfl (qI (ae 0))))))))))),?_⟩;walk_at "r";refine⟨_,X,rfl,⟨_,_,rfl,⟨_,_,rfl,⟨_,_,rfl,⟨_,_,rfl,?_⟩⟩⟩⟩⟩;walk_at "r";refine⟨⟨_,G⟩,λ D hD=>?_⟩;refine iy (ys:=us) none [] (λ j v H=>∃t,d.words[j]?=some t/\e_ K s!"a" H v t) (λ j v S H2 ⟨t,a,b⟩ s=>⟨t,a,e_.kp b (iZ s)⟩) rfl hD (by rw[Qk];lia) (λ S s=>ao.same G s) (λ i y hy S K' s k=>?_) (λ vs Hc Sc I lv hR=>?_)
 ·walk_at "r";obtain⟨t,U,J⟩:=R.at hy;rw[a_]at U;obtain⟨t,z,rfl⟩:=c_.mp U;exact⟨y,t,rfl,J.same s,hd.wd t (bN z),λ u H2 p L=>k _ _ p ⟨t,z,L⟩⟩
 have M:=C3 (lv.trans lu) hR;intro x dx m O ne;have p:=tQ (C:=Ch) m O ne;refine⟨x,dx,D,v3,vs,d,rfl,aG,h3.same (Sc.trans p),hd.fl,ai.of (p _ _ I),M.mono λ ω ω r=>r.same p,λ H3 sx G=>⟨rfl,q _ _ (gZ (Sc.trans p) sx ?_) G⟩⟩;cases e:H x with
 |none=>rfl
 |some o=>rw[Sc _ _ e]at m;cases m
theorem Mc(T:∅)(m:aO P w K mg base 5 "word_of" ["plain"] (wK s!"a" K))(g:aO P w K mg base 6 "house_of" ["plain"] (Ez s!"a" K))(c:aT P w K mg base 1 Cp "__init__" ["self","all_houses","main"] (zF s!"a" K)):aO P w K mg base 7 "program_of" ["plain"] (Bl s!"a" K):=by
 walk_at "h O3 ra 1"
 obtain⟨v,d,rfl,O,R,c0,S,U,q⟩:=h;obtain⟨a,xs,rfl,hq,p⟩:=O.tup_inv;obtain⟨v1,r1,rfl,h1,p⟩:=p.inv;obtain⟨v2,r2,rfl,h2,p⟩:=p.inv;cases p.nil_inv;obtain⟨b,ys,rfl,X,z⟩:=h2.tup_inv;obtain⟨u1,r1,rfl,g1,z⟩:=z.inv;obtain⟨u2,r2,rfl,g2,z⟩:=z.inv;obtain⟨u3,r3,rfl,g3,z⟩:=z.inv;cases z.nil_inv;cases g2.str_inv;obtain⟨ha,us,rfl,I,hu⟩:=h1.tup_inv;have lu:us.length=d.houses.length:=by rw[hu.length,aA]
 refine⟨_,(aw (iq (ae 0) (i_ (n:=2) rfl (dA (qH 1 ra.nd) (dA (qH 2 ra.nd) i9)))) (aw (iq (ae 2) (i_ (n:=3) rfl (dA (qH 3 ra.nd) (dA (qH 4 ra.nd) (dA (qH 5 ra.nd) i9))))) (aC (aY (qj T.Program c hr qR rfl (qJ (eF rfl (ak.plain (N:=["house"]) rfl qP qP qP) (eY (ae 1)) (λ C fp s H=>(qH 0 (show(["house"]:List V2).Nodup by decide+kernel))) (λ C fp s H=>(bq g hr qR rfl (qI (ae 0))))) (bq m hr qR rfl (qI (bz (cg aX (qK (ae 3) (ae 4) (ae 5)))))))))))),?_⟩;walk_at "r";refine⟨_,hq,rfl,⟨_,_,rfl,⟨_,_,rfl,?_⟩⟩⟩;walk_at "r";refine⟨_,X,rfl,⟨_,_,rfl,⟨_,_,rfl,⟨_,_,rfl,?_⟩⟩⟩⟩;walk_at "r";refine⟨⟨_,I⟩,λ D hD=>?_⟩;refine iy (ys:=us) none [] (λ j v H=>∃t,d.houses[j]?=some t/\eQ K s!"a" H v t) (λ j v J H2 ⟨t,a,b⟩ s=>⟨t,a,eQ.kp b (iZ s)⟩) rfl hD (by rw[Qk];lia) (λ J s=>ao.same I s) (λ i y z J K' s k=>?_) (λ vs Hc Sc O lv hR=>?_)
 ·walk_at "r";obtain⟨t,ht,Y⟩:=hu.at z;rw[a_]at ht;obtain⟨t,G,rfl⟩:=c_.mp ht;exact⟨y,t,rfl,Y.same s,R t (bN G),λ u H2 L Z=>k _ _ L ⟨t,G,Z⟩⟩
 have a0:=C3 (lv.trans lu) hR;refine aE.of λ p1 J h1 M e1=>?_;have wd:RT K J (.ref p1) (kq d.main):=by
  refine .tup (ao.of e1) (.cons ?_ (.cons (g1.same (Sc.trans M)) (.cons (.str _) (.cons (g3.same (Sc.trans M)) .nil))));rw[U];exact .str _
 refine⟨.ref p1,d.main,rfl,wd,S,λ u H2 L hm x dx p b0 ne=>?_⟩;have s3:=tQ (C:=Cp) p b0 ne;have s4:=M.trans (L.trans s3);refine⟨x,dx,D,u,vs,d,rfl,aG,ai.of (s4 _ _ O),a0.mono λ ω ω r=>r.same s4,hm.same s3,λ H3 sx I=>⟨rfl,q _ _ (gZ (Sc.trans s4) sx ?_) I⟩⟩;cases e:H x with
 |none=>rfl
 |some o=>rw[L _ _ (M _ _ (Sc _ _ e))]at p;cases p
def ML(c:CS)(H:Hp)(x:V0)(G:Pg):Prop:=∃e b d,H x=some (.ins c.hall e [("in_order",.ref b),("by_name",.ref d)])/\H b=some (.tup (G.houses.map λ h=>V.str h.name))
inductive zL(c:CS)(K:X0)(vs:List V)(H:Hp)(Q:VK):Prop
 |mk(x dx:V0)(pp:V)(G:Pg)(a1:vs=[.ref x,pp])(a2:H x=some (.ins c.hall dx []))(a3:iP K c H pp G)(a4:lL G)(a5:G.houses.length<=100)(a6:∀H',SX x H H'->gw K c H' (.ref x) G->ML c H' x G->Q .non H'):zL c K vs H Q
def Ei(c:CS)(K:X0):Sp:=λ vs H Q ω=>zL c K vs H Q
inductive zV(c:CS)(K:X0)(vs:List V)(H:Hp)(Q:VK):Prop
 |mk(a:V0)(h:V2)(G:Pg)(es:List V2)(a1:vs=[.ref a,.str h])(a2:gw K c H (.ref a) G)(a3:aL G h es)(a4:es.length<=100)(a5:∀l H',H l=none->af H H'->H' l=some (.lst (es.map V.str))->Q (.ref l) H'):zV c K vs H Q
def xX(c:CS)(K:X0):Sp:=λ vs H Q ω=>zV c K vs H Q
variable{kvs:List (bD×V)}
theorem IW{k:bD}(h:k∉kvs.map (·.1)):bg kvs k=none:=by
 induction kvs with
 |nil=>rfl
 |cons p r b=>
  rw[eP,bH,not_or]at h;rw[iL (λ z=>h.1 z.symm)];exact b h.2
noncomputable def eA:List V->List Hs->List (bD×V)
 |v::vs,h::b=>(.inr h.name,v)::eA vs b
 |_,_=>[]
theorem DT:∀{vs:List V}{hs:List Hs}{i:Nat}{v:V}{h:Hs},vs[i]?=some v->hs[i]?=some h->(eA vs hs).take (i+1)=(eA vs hs).take i++[(.inr h.name,v)]
 |_::vs,_::hs,0,v,h,a,b=>by cases a;cases b;rfl
 |_::vs,_::hs,i+1,v,h,a,b=>by
  have:=DT (vs:=vs) (hs:=hs) (i:=i) a b;show _::List.take (i+1) (eA vs hs)=_::(List.take i (eA vs hs)++_);rw[this]
theorem xq:∀{vs:List V}{hs:List Hs},vs.length=hs.length->(eA vs hs).map (·.1)=hs.map λ h=>.inr h.name
 |[],[],_=>rfl
 |_::vs,_::hs,e=>by
  show _::jW _ (eA vs hs)=_;rw[xq (nB e)];rfl
theorem DI{R:V->Hs->Prop}:∀{vs:List V}{hs:List Hs},A2 R vs hs->A2 (λ b h=>b.1=.inr h.name/\R b.2 h) (eA vs hs) hs
 |_,_,.nil=>.nil
 |_,_,.cons r t=>.cons ⟨rfl,r⟩ (DI t)
theorem JB{hs:List Hs}{h:Hs}(l:vs.length=hs.length)(n:(hs.map Hs.name).Nodup)(e:hs[i]?=some h):bg ((eA vs hs).take i) (.inr h.name)=none:=by
 refine IW λ z=>?_;rw[nz,xq l]at z;have c:(hs.map Hs.name)[i]?=some h.name:=by rw[a_,e];rfl
 have m:h.name∈(hs.map Hs.name).take i:=by
  rw[<-nz]at z ⊢;obtain⟨g,o,p⟩:=bE.mp z;exact bE.mpr ⟨g,o,Sum.inr.inj p⟩
 generalize hs.map Hs.name=r at*;obtain⟨j,b⟩:=List.mem_iff_getElem?.mp m;rw[List.getElem?_take]at b;split at b
 ·rename_i lt;have q:=(bG.mp b).1;have u:=(bG.mp c).1;have:=(List.getElem?_inj q n).mp (b.trans c.symm);lia
 ·cases b
variable{G:Pg}
theorem ju{K:X0}{c:CS}{a:V0}(h:gw K c H (.ref a) G):∃m n d kvs,H a=some (.ins c.hall m [("in_order",.ref n),("by_name",.ref d)])/\H d=some (.dK kvs)/\lL G/\∀x X,Look G x X->∃b o ft g i,cZ H d (.str x) (some (.ref b))/\H b=some (.ins c.house o [("name",.str X.name),("elder",oS X.elder),("own_fields",.ref ft),("own_words",.ref g)])/\RT K H (.ref ft) (pairsD X.fields)/\ao K H g i/\A2 (e_ K c H) i X.words/\kQ X:=by
 cases h with
 |mk p j r ok=>
  refine⟨_,_,_,_,p,j,ok,λ x X e=>?_⟩;obtain⟨v,q,u⟩:=JR r ok.nd e.1;cases u with
  |mk y z A C=>
   refine⟨_,_,_,_,_,?_,y,z,A,C,ok.hs _ e.1⟩;rw[<-q,e.2];exact cZ.k (k:=.inr x) j
theorem aL.at{h:V2}{es:List V2}(c:aL G h es):∀(i:Nat)(x:V2),(h::es)[i]?=some x->∃X,Look G x X/\X.elder=es[i]?:=by
 induction c with
 |top l e=>
  intro i x b;cases i with
  |zero=>cases b;exact⟨_,l,e⟩
  |succ i=>cases b
 |up l e _ g=>
  intro i x b;cases i with
  |zero=>cases b;exact⟨_,l,e⟩
  |succ i=>exact g i x b
theorem F6{d:V0}(h:H x=some o)(n:H d=none):d≠x:=λ z=>bS h n z.symm
noncomputable def LI(K:X0)(H2:Hp)(x d:V0)(pp:V)(hs:List V)(houses:List Hs)(i:Nat)(σ:St)(H':Hp):Prop:=∃b,SX d H2 H'/\H' d=some (.dK ((eA hs houses).take i))/\σ=[some (.ref x),some pp,b]
theorem Jn(T:∅):aT P w K mg base 1 Cl "__init__" ["self","program"] (Ei s!"a" K):=by
 walk_at "m m_Hall___init__ dW 2"
 obtain⟨x,m,pp,G,rfl,hx,hp,ok,c0,q⟩:=h;obtain⟨d0,pa,p,J,n,mv,rfl,ha,hq,hh⟩:iP K s!"a" H pp G/\∃pa p J n mv,pp=.ref pa/\H pa=some (.ins Cp p [("all_houses",.ref J),("main",mv)])/\ao K H J n/\A2 (eQ K s!"a" H) n G.houses:=by
  refine⟨hp,?_⟩;cases hp with
  |mk a b c d=>exact⟨_,_,_,_,_,rfl,a,b,c⟩
 have lh:n.length=G.houses.length:=hh.len;refine⟨_,(aw (f9 (ae 0) (d7 gG rfl T.gK gH (qI (eF rfl (ak.plain (N:=["house"]) rfl qP qP qP) (eY (qO 1)) (λ C fp s H=>(qH 0 (show(["house"]:List V2).Nodup by decide+kernel))) (λ C fp s H=>(show PE _ _ (mw K _ "name")from jI (ae 0) rfl))))) rfl) (aw (f9 (ae 0) sT rfl) (aC (eZ Qs rfl (eY (qO 1)) (qH 2 dW.nd) (aC (wB (mB hr) (qO 0) (qO 2) (ae 2) rfl)))))),?_⟩;walk_at "s 3 z";refine⟨Cp,p,_,ha,T.Program.cl,T.n_Program_all_houses,.ref J,rfl,J,rfl,⟨_,hq⟩,λ D hD=>?_⟩;refine iy (ys:=n) none [] (λ j v H=>∃t,G.houses[j]?=some t/\v=.str t.name) (λ ω ω ω ω h ω=>h) rfl hD (by rw[Qk];lia) (λ M s=>ao.same hq s) (λ i y O M K' s k=>?_) (λ vs Hc Sc hv lv hR=>?_)
 ·walk_at "r";obtain⟨t,u,L⟩:=hh.at O;have L:=L.same s;cases L with
  |mk f1 f2 f3 f4=>exact⟨_,rfl,Ch,_,_,f1,T.House.cl,T.n_House_name,_,rfl,k _ _ (af.refl _) ⟨t,u,rfl⟩⟩
 walk_at "r";refine⟨vs,.inl ⟨ai.of hv,λ g a0=>?_⟩⟩;have s1:=Sc.trans (bM a0 (.tup vs));have R:ag Hc g (.tup vs) g=some (.tup vs):=aG;generalize ag Hc g (.tup vs)=M at*;refine⟨Cl,m,_,s1 _ _ hx,T.Hall.cl,T.n_Hall_in_order,fZ rfl,?_⟩;walk_at "n z1";have S1:SX x H (ag M x (.ins Cl m (aj "in_order" (.ref g) []))):=(SX.of s1).trans (SX.put _);have X1:ag M x (.ins Cl m (aj "in_order" (.ref g) [])) x=some (.ins Cl m (aj "in_order" (.ref g) [])):=aG;have S:g≠x:=jt R (s1 _ _ hx) (λ z=>by cases z);have I2:ag M x (.ins Cl m (aj "in_order" (.ref g) [])) g=some (.tup vs):=by rw[aD S];exact R
 generalize ag M x (.ins Cl m (aj "in_order" (.ref g) []))=U at*;intro d hd;have s2:=bM hd (.dK []);have X:d≠x:=F6 X1 hd;refine⟨Cl,m,_,s2 _ _ X1,T.Hall.cl,T.n_Hall_by_name,fZ rfl,?_⟩;have S2:SX x H (ag (ag U d (.dK [])) x (.ins Cl m (aj "by_name" (.ref d) (aj "in_order" (.ref g) [])))):=S1.trans ((SX.of s2).trans (SX.put _));have X2:ag (ag U d (.dK [])) x (.ins Cl m (aj "by_name" (.ref d) (aj "in_order" (.ref g) []))) x=some (.ins Cl m (aj "by_name" (.ref d) (aj "in_order" (.ref g) []))):=aG;have Y:ag (ag U d (.dK [])) x (.ins Cl m (aj "by_name" (.ref d) (aj "in_order" (.ref g) []))) d=some (.dK []):=by rw[aD X];exact aG
 have I3:ag (ag U d (.dK [])) x (.ins Cl m (aj "by_name" (.ref d) (aj "in_order" (.ref g) []))) g=some (.tup vs):=by rw[aD S];exact s2 _ _ I2
 have ev:vs=G.houses.map λ h=>V.str h.name:=jv (lv.trans lh) hR;have nH:H d=none:=by
  cases e:H d with
  |none=>rfl
  |some o=>rw[S1 _ _ X e]at hd;cases hd
 generalize ag (ag U d (.dK [])) x (.ins Cl m (aj "by_name" (.ref d) (aj "in_order" (.ref g) [])))=H3 at*;have k3:=S2.kp hx;have Z:=hh.mono λ ω ω r=>eQ.kp r k3;have b0:=k3.i _ _ _ _ _ ha;walk_at "n z2";refine⟨Cp,p,_,b0,T.Program.cl,T.n_Program_all_houses,.ref J,rfl,J,rfl,⟨_,ao.kp hq k3⟩,?_⟩;have kd:∀{H':Hp},SX d H3 H'->Kp H3 H':=λ h=>⟨λ b xs e=>h b _ (λ z=>by rw[z,Y]at e;cases e) e,λ b o xs e=>h b _ (λ z=>by rw[z,Y]at e;cases e) e,λ b C m f fs e=>h b _ (λ z=>by rw[z,Y]at e;cases e) e⟩;refine mS n (LI K H3 x d (.ref pa) n G.houses) ⟨none,λ ω ω ω h=>h,Y,rfl⟩ (λ i σ H' ω h=>?_) (λ i y σ H' O h=>?_) (λ σ H' h=>?_)
 ·obtain⟨o2,sx,ω⟩:=h;exact ao.kp hq (k3.trans (kd sx))
 ·obtain⟨o2,sx,I,rfl⟩:=h;obtain⟨t,u,L⟩:=Z.at O;have L:=eQ.kp L (kd sx);have hi:i<100:=by have:=(bG.mp O).1;lia
  cases L with
  |mk f1 f2 f3 f4=>
   walk_at "r";refine⟨Cl,m,_,sx _ _ X.symm X2,T.Hall.cl,T.n_Hall_by_name,_,rfl,Ch,_,_,f1,T.House.cl,T.n_House_name,_,rfl,d,rfl,_,gz.k (k:=.inr t.name) I ?_,_,(sx.trans (SX.put _)),?_,rfl⟩
   ·have:=List.length_take_le i (eA n G.houses);rw[Qk];lia
   ·rw[aG,DT O u,Kq _ (JB lh ok.nd u)]
 ·obtain⟨o2,sx,I,rfl⟩:=h;have lk:(eA n G.houses).length=n.length:=by
   have:=congrArg gB (xq lh);rw[aA,aA]at this;lia
  rw[iU qR]at I;refine q _ (λ b o nb e=>?_) (.mk (sx _ _ X.symm X2) I (DI (Z.mono λ ω ω r=>eQ.kp r (kd sx))) ok) ⟨_,_,_,sx _ _ X.symm X2,by rw[<-ev];exact sx _ _ (jt I3 Y (λ z=>by cases z)) I3⟩;exact sx _ _ (bS e nH) (S2 _ _ nb e)
noncomputable def EI(H:Hp)(a l:V0)(h:V2)(es:List V2)(m:Nat)(σ:St)(H':Hp):Prop:=∃i,m=es.length-i/\i<=es.length/\af H H'/\H' l=some (.lst ((es.take i).map V.str))/\σ=[some (.ref a),some (.str h),some (.ref l),some (oS es[i]?)]
theorem Lc(T:∅):aT P w K mg base 1 Cl "elders" ["self","house"] (xX s!"a" K):=by
 walk_at "m m_Hall_elders bZ 2"
 obtain⟨a,h,G,c,rfl,hl,L,M,q⟩:=h;refine⟨_,(aw (qG 2 bZ.nd (bK dO)) (aw (qG 3 bZ.nd (jI (qE hr (qO 0) (ae 1)) rfl)) (aw (xj Qs (qM qs (ae 3) fj) (aw (d8 (eE eu fY fX fK (ae 2) (qI (ae 3)))) (aC (qG 3 bZ.nd (jI (qE hr (qO 0) (ae 3)) rfl))))) (aC (aY (ae 2)))))),?_⟩;walk_at "s 4 z";refine aE.of λ l H1 N O Z=>?_;walk_at "n z1";obtain⟨X,r,ex⟩:=aL.at L 0 h rfl;obtain⟨u,io,d,v,x,ed,ok,n⟩:=ju (hl.same O);obtain⟨b,y,ft,wt,ws,C,D,ω⟩:=n h X r;refine⟨Cl,u,_,x,T.Hall.cl,T.n_Hall_by_name,_,rfl,d,rfl,_,C,_,rfl,Ch,y,_,D,T.House.cl,T.n_House_elder,_,rfl,?_⟩;walk_at "n z2";refine⟨EI H a l h c,⟨c.length,0,rfl,bJ _,O,Z,by rw[ex]⟩,λ m σ p hI=>?_⟩;obtain⟨i,rfl,hi,R,g,rfl⟩:=hI;walk_at "r";cases j:c[i]? with
 |none=>
  have:i=c.length:=by have:=vw.mp j;lia
  subst this;refine ay (λ z=>T7 rfl z) (λ ω=>?_);walk_at "n z3";rw[iU (aS _)]at g;exact q l p N R g
 |some e=>
  refine ay (λ ω=>?_) (λ z=>by simp[oS]at z);have I:i<c.length:=(bG.mp j).1;refine⟨λ J p=>∃S,S<c.length-i/\EI H a l h c S J p,λ ω ω h=>h,?_⟩;obtain⟨X,r,ex⟩:=aL.at L (i+1) e j;have U:af H (ag p l (.lst ((c.take i).map V.str++[.str e]))):=λ b o Y=>by rw[aD (bS Y N)];exact R _ _ Y
  obtain⟨u,io,d,v,x,ed,ok,n⟩:=ju (hl.same U);obtain⟨b,y,ft,wt,ws,C,D,ω⟩:=n e X r;refine⟨.inl ⟨rfl,_,ai.of g⟩,_,g,by rw[aA,cJ];lia,Cl,u,_,x,T.Hall.cl,T.n_Hall_by_name,_,rfl,d,rfl,_,C,_,rfl,Ch,y,_,D,T.House.cl,T.n_House_elder,_,rfl,c.length-(i+1),qR,i+1,rfl,I,U,?_,?_⟩
  ·rw[aG,lZ,j,ew];rfl
  ·rw[ex]
noncomputable def Cv(p:V2×V2):PyData:=.tuple [.str p.1,.str p.2]
theorem Jx(es:List V2)(h:V2):V.str h::es.map V.str=(h::es).map V.str:=rfl
noncomputable def Qe(K:X0)(G:Pg)(H:Hp)(a l:V0)(h:V2)(ls:List V2)(fs:List (V2×V2))(i:Nat)(σ:St)(H':Hp):Prop:=∃g b c e,SX l H H'/\H' l=some (.lst b)/\bb K H' b (c.map Cv)/\fs=c++e/\cm G (ls.drop i) e/\σ=[some (.ref a),some (.str h),some (.ref l),g]
open P23 (gR yd qT Bc FO)
noncomputable def oP:Option Nat->V
 |none=>.non
 |some n=>.int (n:Int)
noncomputable def EW:Option (V2×Nat×Wd)->PyData
 |none=>.none
 |some (h,i,_)=>.tuple [.str h,.int (i:Int)]
noncomputable def EV:Option (V2×Nat×Wd)->PyData
 |none=>.none
 |some (_,_,d)=>.tuple [pairsD d.params,.str d.kind]
inductive FW(K:X0)(c:CS)(H:Hp):V->Option (V2×Nat×Wd)->Prop
 |non:FW K c H .non none
 |wd{v:V}{h:V2}{i:Nat}{d:Wd}:e_ K c H v d->FW K c H v (some (h,i,d))
inductive As(c:CS)(K:X0)(vs:List V)(H:Hp)(Q:VK):Prop
 |mk(a:V0)(h wd:V2)(G:Pg)(es:List V2)(r:Option (V2×Nat×Wd))(a1:vs=[.ref a,.str h,.str wd])(a2:gw K c H (.ref a) G)(a3:aL G h es)(a4:es.length<=100)(a5:FO G wd (h::es) r)(a6:∀v H',af H H'->RT K H' v (EW r)->Q v H'):As c K vs H Q
def xu(c:CS)(K:X0):Sp:=λ vs H Q ω=>As c K vs H Q
inductive Bo(c:CS)(K:X0)(vs:List V)(H:Hp)(Q:VK):Prop
 |mk(a:V0)(h wd:V2)(G:Pg)(es:List V2)(r:Option (V2×Nat×Wd))(a1:vs=[.ref a,.str h,.str wd])(a2:gw K c H (.ref a) G)(a3:aL G h es)(a4:es.length<=100)(a5:FO G wd (h::es) r)(a6:∀v H',af H H'->FW K c H' v r->Q v H'):Bo c K vs H Q
def AV(c:CS)(K:X0):Sp:=λ vs H Q ω=>Bo c K vs H Q
inductive D6(c:CS)(K:X0)(vs:List V)(H:Hp)(Q:VK):Prop
 |mk(a:V0)(h wd:V2)(G:Pg)(es:List V2)(r:Option (V2×Nat×Wd))(a1:vs=[.ref a,.str h,.str wd])(a2:gw K c H (.ref a) G)(a3:aL G h es)(a4:es.length<=100)(a5:FO G wd (h::es) r)(a6:∀v H',af H H'->RT K H' v (EV r)->Q v H'):D6 c K vs H Q
def wm(c:CS)(K:X0):Sp:=λ vs H Q ω=>D6 c K vs H Q
theorem qh{x:V2}{ns:List V2}:ij (.str x) (ns.map V.str)=decide (x∈ns):=by
 unfold ij;rw[List.any_map];by_cases b:x∈ns
 ·rw[T9 b,List.any_eq_true];exact⟨x,b,by simp[gS]⟩
 ·rw[T8 b,List.any_eq_false];intro z c;have:z≠x:=λ e=>b (e▸c);simp[gS,this]
noncomputable def yU(G:Pg)(H:Hp)(a:V0)(h wd:V2)(ls:List V2)(r:Option (V2×Nat×Wd))(i:Nat)(σ:St)(H':Hp):Prop:=∃b c,af H H'/\FO G wd (ls.drop i) r/\σ=[some (.ref a),some (.str h),some (.str wd),b,c]
theorem LR(T:∅)(c:aT P w K mg base 1 Cl "elders" ["self","house"] (xX s!"a" K)):aT P w K mg base 2 Cl "found" ["self","house","word"] (xu s!"a" K):=by
 walk_at "m m_Hall_found dt 3"
 obtain⟨a,h,wd,G,O,r,rfl,hl,hc,u,hf,q⟩:=h;refine⟨_,(aw (eZ Qs rfl (eH (aB gF (bK (qI (ae 1))) (mU (ae 0) T.Hall.cl c hr qR (qI (ae 1))))) (qH 3 dt.nd) (aw (jL rfl dt.nd (i:=4) rfl rfl (ak.plain (N:=["own"]) rfl qP qP qP) (eY (jI (qE hr (qO 0) (ae 3)) rfl)) (λ C fp s H=>(qH 0 (show(["own"]:List V2).Nodup by decide+kernel))) (λ C fp s H=>(show PE _ _ (mw K _ "name")from jI (ae 0) rfl))) (aC (bu (iu (r:=fH K false) g9 (ae 2) (ae 4) s!"k") (aC (aY (bz (qJ (ae 3) (eE eu PySem.F.slot_list_index PySem.F.type_list_index Es (ae 4) (qI (ae 2))))))) bL)))) (aC (aY fj))),?_⟩;walk_at "s 2 z";refine aE.of λ l2 H2 h2 S e2=>?_;obtain⟨U,io,dd,Y,Z,ed,ok,x⟩:=ju (hl.same S);refine⟨U,_,Z,rfl,a,h,G,O,rfl,hl.same S,hc,u,λ l3 H3 h3 s3 e3=>?_⟩;refine⟨_,rfl,_,s3 _ _ e2,_,e3,by rw[aA];simp;lia,?_⟩;refine aE.of λ l4 H4 h4 s4 e4=>?_;have n:=S.trans (s3.trans s4);refine⟨⟨_,ai.of e4⟩,?_⟩;refine kA (.str h::O.map V.str) (yU G H4 a h wd (h::O) r) ⟨none,none,af.refl _,hf,rfl⟩ (λ i σ H' ω I=>?_) (λ i y σ H' R I=>?_) (λ σ H' I=>?_)
 ·obtain⟨o3,o4,sx,ω⟩:=I;exact ai.of (sx _ _ e4)
 ·obtain⟨o3,o4,sx,m,rfl⟩:=I;rw[Jx,a_]at R;obtain⟨y,J,rfl⟩:=c_.mp R;rw[jj (bG.mp J).1,(bG.mp J).2]at m;obtain⟨X,L⟩:∃X,Look G y X:=by cases m with|here a _ _=>exact⟨_,a⟩|there a _ _=>exact⟨_,a⟩
  obtain⟨U,io,dd,Y,Z,ed,ok,x⟩:=ju (hl.same (n.trans sx));obtain⟨b,bx,ft,wt,ws,g1,g2,g3,g4,g5,g6⟩:=x y X L;have lw:ws.length=X.words.length:=g5.len;have b0:=g6.wl;walk_at "s 2 y";refine⟨Cl,U,_,Z,T.Hall.cl,T.n_Hall_by_name,_,rfl,dd,rfl,_,g1,_,rfl,Ch,bx,_,g2,T.House.cl,T.n_House_own_words,_,rfl,wt,rfl,⟨_,g4⟩,λ D hD=>?_⟩;refine iy (ys:=ws) none [] (λ j v H=>∃t,X.words[j]?=some t/\v=.str t.name) (λ ω ω ω ω h ω=>h) rfl hD (by rw[Qk];lia) (λ H1 s=>ao.same g4 s) (λ i y R H1 K' s k=>?_) (λ vs Hc Sc hv lv hR=>?_)
  ·walk_at "r";obtain⟨t,a0,ho⟩:=g5.at R;have ho:=ho.same s;cases ho with
   |mk f1 f2 f3=>exact⟨_,rfl,Cw,_,_,f1,T.Word.cl,T.n_Word_name,_,rfl,k _ _ (af.refl _) ⟨t,a0,rfl⟩⟩
  have ev:=jv (g:=λ t:Wd=>V.str t.name) (lv.trans lw) hR;have o:Hc D=some (.lst ((X.words.map Wd.name).map V.str)):=by rw[hv,ev,dH];rfl
  walk_at "n y1";refine⟨_,.inl (ai.of o),rfl,oj _,?_⟩;rw[qh];have un:=vl ok.nd;cases m with
  |here M a2 a3=>
   have:=un _ _ M.1 L.1 (M.2.trans L.2.symm);subst this;obtain⟨m1,m2,m3⟩:=Bc a2;refine ay (λ ω=>?_) (λ z=>T7 (T9 m1) z);refine⟨.inl ⟨rfl,_,ai.of o⟩,_,o,_,m3.1,m3.2,?_⟩;refine aE.of λ p H6 h6 s6 e6=>?_;exact q _ H6 (n.trans (sx.trans (Sc.trans s6))) (.tup (ao.of e6) (.cons (.str _) (.cons (.int _) .nil)))
  |there M a2 a3=>
   have:=un _ _ M.1 L.1 (M.2.trans L.2.symm);subst this;refine ay (λ z=>?_) (λ ω=>?_)
   ·obtain⟨j,e,ω⟩:=qT (of_decide_eq_true z);rw[a2]at e;cases e
   exact⟨_,_,sx.trans Sc,a3,rfl⟩
 ·obtain⟨o3,o4,sx,m,rfl⟩:=I;rw[rR s!"n"]at m;cases m;walk_at "n z1";exact q _ _ (n.trans sx) .non
theorem Mi(T:∅)(c:aT P w K mg base 2 Cl "found" ["self","house","word"] (xu s!"a" K)):aT P w K mg base 3 Cl "found_word" ["self","house","word"] (AV s!"a" K):=by
 walk_at "m m_Hall_found_word br 3"
 obtain⟨a,h,wd,G,D,r,rfl,hl,M,e,I,q⟩:=h;refine⟨_,(aw (qG 3 br.nd (mU (ae 0) T.Hall.cl c hr qR (qJ (ae 1) (ae 2)))) (aw (bu (qM mG (ae 3) fj) (aC (aY fj)) bL) (aw (iq (ae 3) (i_ (n:=2) rfl (dA (qH 4 br.nd) (dA (qH 5 br.nd) i9)))) (aC (aY (qC K (jI (qE hr (qO 0) (ae 4)) rfl) (ae 5))))))),?_⟩;walk_at "s 4 z";obtain⟨m,N,J,o,u,O,ok,g⟩:=ju hl;refine⟨m,_,u,rfl,a,h,wd,G,D,r,rfl,hl,M,e,I,λ p R x L=>?_⟩;walk_at "n z1";cases r with
 |none=>
  cases L;refine ay (λ ω=>q _ _ x .non) (λ z=>T7 rfl z)
 |some t=>
  obtain⟨S,ix,d⟩:=t;obtain⟨pa,xs,rfl,U,j⟩:=RT.tup_inv L;obtain⟨v1,r1,rfl,y,j⟩:=j.inv;obtain⟨v2,r2,rfl,C,j⟩:=j.inv;cases j.nil_inv;cases y;cases C;refine ay (λ z=>by simp at z) (λ ω=>?_);walk_at "n z2";refine⟨_,U,rfl,⟨_,_,rfl,⟨_,_,rfl,?_⟩⟩⟩;walk_at "n z3";obtain⟨X,Y,hd⟩:=I.at;obtain⟨m,N,J,o,u,O,ok,g⟩:=ju (hl.same x);obtain⟨b,Z,ft,wt,ws,y,C,g3,g4,g5,g6⟩:=g S X Y;obtain⟨v,hv,hw⟩:=g5.to hd;refine⟨Cl,m,_,u,T.Hall.cl,T.n_Hall_by_name,_,rfl,J,rfl,_,y,_,rfl,Ch,Z,_,C,T.House.cl,T.n_House_own_words,_,rfl,_,rfl,_,g4,v,?_,q v R x (.wd hw)⟩;exact eI hv
theorem IJ(T:∅)(b:aT P w K mg base 3 Cl "found_word" ["self","house","word"] (AV s!"a" K)):aT P w K mg base 4 Cl "head" ["self","house","word"] (wm s!"a" K):=by
 walk_at "m m_Hall_head fO 3"
 obtain⟨a,h,wd,G,e,r,rfl,hl,n,c,o,q⟩:=h;refine⟨_,(aw (qG 3 fO.nd (mU (ae 0) T.Hall.cl b hr qR (qJ (ae 1) (ae 2)))) (aw (bu (qM mG (ae 3) fj) (aC (aY fj)) bL) (aC (aY (bz (qJ (qO 3) (qO 3))))))),?_⟩;walk_at "s 3 z";obtain⟨u,L,M,v,x,N,ok,y⟩:=ju hl;refine⟨u,_,x,rfl,a,h,wd,G,e,r,rfl,hl,n,c,o,λ p O g C=>?_⟩;walk_at "n z1";cases C with
 |non=>exact ay (λ ω=>q _ _ g .non) (λ z=>T7 rfl z)
 |wd D=>
  cases D with
  |mk j I R=>
   refine ay (λ z=>by simp at z) (λ ω=>?_);walk_at "n z2";refine⟨Cw,_,_,j,T.Word.cl,T.n_Word_params,_,rfl,Cw,_,_,j,T.Word.cl,T.n_Word_kind,_,rfl,aE.of λ S U X m J=>?_⟩;exact q _ _ (g.trans m) (.tup (ao.of J) (.cons (I.same m) (.cons (.str _) .nil)))
open P23 (da jq oM l8 NN b9 EO)
inductive Ba(K:X0)(vs:List V)(H:Hp)(Q:VK):Prop
 |mk(k:V2)(a1:vs=[.str k])(a2:Q (.bl (!decide (k∈NN))) H):Ba K vs H Q
def xE(K:X0):Sp:=λ vs H Q ω=>Ba K vs H Q
inductive D9(c:CS)(K:X0)(vs:List V)(H:Hp)(Q:VK):Prop
 |mk(a:V0)(x y:V2)(G:Pg)(up:V2->List V2)(a1:vs=[.ref a,.str x,.str y])(a2:gw K c H (.ref a) G)(a3:(x∉NN->aL G x (up x)/\(up x).length<=100))(a4:∀H',af H H'->Q (.bl (b9 up x y)) H'):D9 c K vs H Q
def sR(c:CS)(K:X0):Sp:=λ vs H Q ω=>D9 c K vs H Q
theorem zd{b:Type}:∀{l:List b},l.length=1->∃a,l=[a]
 |[a],_=>⟨a,rfl⟩
theorem sj{e:Type}:∀{l:List e},l.length=3->∃a b c,l=[a,b,c]
 |[a,b,c],_=>⟨a,b,c,rfl⟩
theorem kT{c:Type}:∀{l:List c},l.length=2->∃a b,l=[a,b]
 |[a,b],_=>⟨a,b,rfl⟩
variable{us:List V}
theorem rp{K:X0}{ps:List (V2×V2)}{y:V}(n:bb K H us (ps.map Cv))(o:us[i]?=some y):∃b t e g,y=.ref b/\ps[i]?=some t/\ao K H b [e,g]/\(e=.str t.1/\g=.str t.2):=by
 obtain⟨t,m,h⟩:=n.at o;rw[a_]at m;obtain⟨t,j,rfl⟩:=c_.mp m;obtain⟨b,u,rfl,p,c⟩:=h.tup_inv;obtain⟨e,v,rfl,q,c⟩:=c.inv;obtain⟨g,x,rfl,r,c⟩:=c.inv;cases c.nil_inv;exact⟨_,_,_,_,rfl,j,p,q.str_inv,r.str_inv⟩
theorem Mv(T:∅):aO P w K mg base 1 "is_house" ["kind"] (xE K):=by
 walk_at "h OQ MR 1"
 obtain⟨k,rfl,q⟩:=h;refine⟨_,(aC (aY (ja (r:=fH K true) Bz (ae 0) (Hr T.c_NO_HOUSES rfl) s!"k"))),?_⟩;walk_at "r";refine⟨_,.inr (T.t_NO_HOUSES H),rfl,rfl,?_⟩;rw[show[V.str "number",V.str "truth"]=NN.map V.str from rfl,qh];exact q
theorem IG(T:∅)(b:aO P w K mg base 1 "is_house" ["kind"] (xE K))(c:aT P w K mg base 1 Cl "elders" ["self","house"] (xX s!"a" K)):aO P w K mg base 2 "fits" ["hall","one","other"] (sR s!"a" K):=by
 walk_at "h f_fits P8 3"
 obtain⟨a,x,y,G,up,rfl,hl,j,q⟩:=h;refine⟨_,(aw (bu (qM cM (ae 1) (ae 2)) (aC (aY jG)) bL) (aC (aY (mJ (bq b hr qR rfl (qI (ae 1))) (mJ (bq b hr qR rfl (qI (ae 2))) (qi (ja (r:=fH K false) g9 (ae 2) (mU (ae 0) T.Hall.cl c hr qR (qI (ae 1))) s!"k"))))))),?_⟩;walk_at "r";refine ay (λ e=>?_) (λ g=>⟨x,rfl,_,rfl,ay (λ z=>?_) (λ z=>?_)⟩)
 ·have:b9 up x y=true:=T9 (.inl e);rw[this]at q;exact q _ (af.refl _)
 ·have i:x∉NN:=λ m=>by rw[T9 m]at z;cases z
  refine⟨y,rfl,_,rfl,ay (λ z=>?_) (λ z=>?_)⟩
  ·have o:y∉NN:=λ m=>by rw[T9 m]at z;cases z
   obtain⟨p,L,M,u,v,N,ω,ω⟩:=ju hl;obtain⟨C,D⟩:=j i;refine⟨p,_,v,rfl,a,x,G,up x,rfl,hl,C,D,λ l O R I J=>⟨l,rfl,_,.inl (ai.of J),rfl,oj _,?_⟩⟩;rw[qh];have:b9 up x y=decide (y∈up x):=decide_eq_decide.mpr ⟨λ h=>(h.resolve_left g).2.2,λ h=>.inr ⟨i,o,h⟩⟩;rw[<-this];exact q _ I
  ·have:b9 up x y=false:=T8 λ h=>(h.resolve_left g).2.1 (vv λ n=>z (by rw[T8 n];rfl));rw[this]at q;exact q _ (af.refl _)
 ·have:b9 up x y=false:=T8 λ h=>(h.resolve_left g).1 (vv λ n=>z (by rw[T8 n];rfl));rw[this]at q;exact q _ (af.refl _)
noncomputable def Pq(H:Hp)(a:V0)(x y:V2)(up:V2->List V2)(ls:List V2)(i:Nat)(σ:St)(H':Hp):Prop:=∃b,af H H'/\(∀z∈ls.take i,b9 up y z=false)/\σ=[some (.ref a),some (.str x),some (.str y),b]
open P23 (bC)
def iO(K:X0)(H:Hp)(v:V)(r:Rw):Prop:=∃t b hl,v=.ref t/\ao K H t [.str r.name,oS r.elder,b,hl]
structure m7(K:X0)(H:Hp)(l:V0)(us:List V)(rs:List Rw):Prop where
 ls:H l=some (.lst us)
 rw:A2 (iO K H) us rs
 nd:(rs.map Rw.name).Nodup
 le:rs.length<=12
theorem iO.same{K:X0}{v:V}{r:Rw}(h:iO K H v r)(s:af H H'):iO K H' v r:=let⟨t,c,hl,a,b⟩:=h;⟨t,c,hl,a,b.same s⟩
theorem m7.same{K:X0}{l:V0}{rs:List Rw}(h:m7 K H l us rs)(s:af H H'):m7 K H' l us rs:=⟨s _ _ h.ls,h.rw.mono λ ω ω r=>r.same s,h.nd,h.le⟩
inductive Dm(K:X0)(vs:List V)(H:Hp)(Q:VK):Prop
 |mk(l:V0)(us:List V)(rs:List Rw)(h:V2)(es:List V2)(a1:vs=[.ref l,.str h])(a2:m7 K H l us rs)(a3:aL (da rs) h es)(a4:es.length<=12)(a5:∀k H',af H H'->H k=none->aZ H' k es->Q (.ref k) H'):Dm K vs H Q
def sG(K:X0):Sp:=λ vs H Q ω=>Dm K vs H Q
variable{ks:Nat->bD}
theorem zN{ys:Nat->V}{n:Nat}(inj:∀i j,i<n->j<n->ks i=ks j->i=j):∀m,m<=n->∀i,i<m->bg (eX ks ys m) (ks i)=some (ys i)
 |m+1,b,i,c=>by
  show bg (bV (eX ks ys m) (ks m) (ys m)) (ks i)=_;rw[xk];by_cases e:ks i=ks m
  ·rw[T6 e,inj i m qR qR e]
  ·rw[T5 e];exact zN inj m qR i (by have:i≠m:=λ z=>e (by rw[z]);lia)
theorem xW{ks:List V2}{ys:List V}(g:ks.Nodup){x:V2}{y:V}(b:ks[i]?=some x)(c:ys[i]?=some y):bg (f_ ks ys) (.inr x)=some y:=by
 have h:ks.getD i ""=x:=by rw[c6,b];rfl
 have j:ys.getD i .non=y:=by rw[c6,c];rfl
 have:=zN (ks:=λ i=>Sum.inr (ks.getD i "")) (ys:=λ i=>ys.getD i .non) (n:=ks.length) (λ x y b c e=>by
  have e:=Sum.inr.inj e;rw[P23.iw b,P23.iw c]at e;exact P23.f7 g (aV b) (by rw[e];exact aV c)) _ (aS _) i (bG.mp b).1
 rw[h,j]at this;exact this
theorem Lz{b:List Rw}(e:(b.map Rw.name).Nodup){r:Rw}(hr:r∈b):bg (f_ (b.map Rw.name) (b.map λ r=>oS r.elder)) (.inr r.name)=some (oS r.elder):=by
 obtain⟨i,c⟩:=eS hr;exact xW e (by rw[a_,c];rfl) (by rw[a_,c];rfl)
theorem dE.a{K:X0}{v:V}{r:Rw}(h:dE K H v r):iO K H v r:=by
 cases h with
 |mk a b c d=>exact⟨_,_,_,rfl,ao.of a⟩
noncomputable def BI(H:Hp)(l d k:V0)(h:V2)(es:List V2)(m:Nat)(σ:St)(H':Hp):Prop:=∃i x,m=es.length-i/\i<=es.length/\(h::es)[i]?=some x/\af H H'/\H' k=some (.lst ((es.take i).map V.str))/\σ=[some (.ref l),some (.str x),some (.ref d),some (.ref k)]
theorem Ih(T:∅):aO P w K mg base 1 "_law_ups" ["_law_rows_here","_law_name_here"] (sG K):=by
 walk_at "h Pa yo 2"
 obtain⟨l,us,g,h,n,rfl,⟨hl,p,nd,e0⟩,O,f0,q⟩:=h;have R:=p.len;refine⟨_,(aw (qG 2 yo.nd (d7 (r:=sC K) (Be rfl) rfl T.yi wO (qI (eF rfl (ak.plain (N:=["_law_row"]) rfl qP qP qP) (eH (ae 0)) s!"j" (λ C fp s H=>(bz (qJ (qA K 0) (qA K 0)))))))) (aw (qG 3 yo.nd (bK dO)) (aw (xj Qs (qM qs (qE hr (ae 2) (ae 1)) fj) (aw (qG 1 yo.nd (qE hr (ae 2) (ae 1))) (aC (d8 (eE eu fY fX fK (ae 3) (qI (ae 1))))))) (aC (aY (ae 3)))))),?_⟩;walk_at "s 4 z";refine⟨⟨_,ai.of hl⟩,λ D hD=>?_⟩;refine mX (ys:=us) none [] (λ k v H=>∃r T,g[k]?=some r/\v=.ref T/\H T=some (.tup [.str r.name,oS r.elder])) (λ j v G I ⟨r,T,a,b,c⟩ s=>⟨r,T,a,b,s _ _ (λ ω z=>by cases z) c⟩) rfl hD (by rw[Qk];lia) (λ G s=>ai.of (s _ _ hl)) (λ k y S H9 K' s9 kk=>?_) (λ vs G s1 U Y hR=>?_)
 ·obtain⟨r2,Z,ro⟩:=p.at S;obtain⟨t,ft,g0,rfl,g1⟩:=ro.same s9;walk_at "r";exact⟨_,g1,_,cL,_,g1,_,eB,aE.of λ p2 I h2 s2 J=>kk _ _ s2 ⟨r2,p2,Z,rfl,J⟩⟩
 refine⟨D,rfl,vs,ai.of U,g.map Rw.name,by rw[Y,R,aA],g.map (λ r=>oS r.elder),λ i t ht=>?_,λ d hd=>?_⟩
 ·obtain⟨r,T,hr,rfl,hT⟩:=hR i t ht;refine⟨T,rfl,ao.of ?_⟩;rw[c6,a_,hr,c6,a_,hr];exact hT
 have s2:=bM hd (.dK (f_ (g.map Rw.name) (g.map λ r=>oS r.elder)));have J:ag G d (.dK (f_ (g.map Rw.name) (g.map λ r=>oS r.elder))) d=some (.dK (f_ (g.map Rw.name) (g.map λ r=>oS r.elder))):=aG;generalize ag G d (.dK (f_ (g.map Rw.name) (g.map λ r=>oS r.elder)))=I at*;walk_at "n z1";refine aE.of λ k H3 h3 s3 e3=>?_;have u:=s3 _ _ J;have S2:=s1.trans s2;have a0:H k=none:=qq S2 h3;have ne:d≠k:=λ z=>by rw[z,e3]at u;cases u
 have look:∀(i:Nat) x,(h::n)[i]?=some x->bg (f_ (g.map Rw.name) (g.map λ r=>oS r.elder)) (.inr x)=some (oS n[i]?):=λ i x hx=>by
  obtain⟨X,lk,ex⟩:=aL.at O i x hx;obtain⟨r,hr,rfl⟩:=bE.mp lk.1;rw[<-ex,<-lk.2];exact Lz nd hr
 walk_at "n z2";refine⟨BI I l d k h n,⟨n.length,0,h,rfl,bJ _,rfl,s3,e3,rfl⟩,λ m σ L hI=>?_⟩;obtain⟨i,x,rfl,hi,hx,sI,M,rfl⟩:=hI;have b0:=sI _ _ J;have gx:cZ L d (.str x) (some (oS n[i]?)):=by
  rw[<-look i x hx];exact cZ.k (k:=.inr x) b0
 walk_at "r";refine⟨_,gx,?_⟩;cases o:n[i]? with
 |none=>
  have:i=n.length:=by have:=vw.mp o;lia
  subst this;refine ay (λ z=>T7 rfl z) (λ ω=>?_);walk_at "n z3";rw[iU (aS _)]at M;exact q k L (S2.trans sI) a0 M
 |some e=>
  rw[o]at gx;have c0:i<n.length:=(bG.mp o).1;refine ay (λ ω=>?_) (λ z=>by simp[oS]at z);refine⟨λ d0 L=>∃m',m'<n.length-i/\BI I l d k h n m' d0 L,λ ω ω h=>h,_,gx,.inl ⟨rfl,_,ai.of M⟩,_,M,by rw[aA,cJ];lia,n.length-(i+1),qR,i+1,e,rfl,c0,o,g7 sI h3,?_,rfl⟩;rw[aG,lZ,o,ew];rfl
open P23 (dh dc dM js aJ Hd)
inductive DP(K:X0)(vs:List V)(H:Hp)(Q:VK):Prop
 |mk(l:V0)(us:List V)(rs:List Rw)(x y:V2)(up:V2->List V2)(a1:vs=[.ref l,.str x,.str y])(a2:m7 K H l us rs)(a3:dh rs up)(a4:∀H',af H H'->Q (.bl (dc up x y)) H'):DP K vs H Q
def wQ(K:X0):Sp:=λ vs H Q ω=>DP K vs H Q
inductive dj(K:X0)(H:Hp):V->Rw->Prop
 |mk{t:V0}{ft hv:V}{r:Rw}:ao K H t [.str r.name,oS r.elder,ft,hv]->RT K H ft (pairsD r.fields)->RT K H hv (.tuple (r.heads.map gE))->dj K H (.ref t) r
theorem dj.same{K:X0}{v:V}{r:Rw}(h:dj K H v r)(s:af H H'):dj K H' v r:=by
 cases h with
 |mk a b c=>exact .mk (a.same s) (b.same s) (c.same s)
theorem dj.a{K:X0}{v:V}{r:Rw}(h:dj K H v r):iO K H v r:=by
 cases h with
 |mk a b c=>exact⟨_,_,_,rfl,a⟩
structure jy(K:X0)(H:Hp)(l:V0)(us:List V)(rs:List Rw):Prop where
 ls:H l=some (.lst us)
 rw:A2 (dj K H) us rs
 nd:(rs.map Rw.name).Nodup
 le:rs.length<=12
 pl:∀r∈rs,∀h∈r.heads,h.2.1.length<=100
theorem jy.same{K:X0}{l:V0}{rs:List Rw}(h:jy K H l us rs)(s:af H H'):jy K H' l us rs:=⟨s _ _ h.ls,h.rw.mono λ ω ω r=>r.same s,h.nd,h.le,h.pl⟩
theorem jy.a{K:X0}{l:V0}{rs:List Rw}(h:jy K H l us rs):m7 K H l us rs:=⟨h.ls,h.rw.mono λ ω ω r=>r.a,h.nd,h.le⟩
inductive rH(H:Hp):V->Option Hd->Prop
 |non:rH H .non none
 |som{t kl:V0}{g:Hd}:H t=some (.tup [.ref kl,.str g.2.2])->aZ H kl (aJ g.2.1)->rH H (.ref t) (some g)
inductive zW(K:X0)(vs:List V)(H:Hp)(Q:VK):Prop
 |mk(l:V0)(us:List V)(rs:List Rw)(x wd:V2)(es:List V2)(a1:vs=[.ref l,.str x,.str wd])(a2:jy K H l us rs)(a3:aL (da rs) x es)(a4:es.length<=12)(a5:∀v H',af H H'->rH H' v (dM rs wd (x::es))->Q v H'):zW K vs H Q
def xt(K:X0):Sp:=λ vs H Q ω=>zW K vs H Q
variable{D:bc}
theorem yx{g:TG}{y:V}{c:St}{tb:TS}(h:∀t,t=tb->g y c H λ b H2=>t D b H2):g y c H λ b H2=>tb D b H2:=h tb rfl
theorem Im(T:∅)(b:aO P w K mg base 1 "_law_ups" ["_law_rows_here","_law_name_here"] (sG K)):aO P w K mg base 2 "_law_fit" ["_law_rows_here","_law_one","_law_other"] (wQ K):=by
 walk_at "h O_ MO 3"
 obtain⟨l,us,j,x,y,up,rfl,c,u,q⟩:=h;refine⟨_,(aC (aY (Ga (ja cM (ae 1) (ae 2) (kr _)) (qi (mJ (ja (r:=fH K false) g9 (ae 1) (eF rfl (ak.plain (N:=["_law_row"]) rfl qP qP qP) (eH (ae 0)) (λ C L s H=>(qH 0 (show(["_law_row"]:List V2).Nodup by decide+kernel))) (λ C L s H=>(qA K 0))) s!"k") (qi (ja (r:=fH K false) g9 (ae 2) (bq b hr qR rfl (qJ (ae 0) (ae 1))) s!"k"))))))),?_⟩;walk_at "r";refine ay (λ e=>?_) λ J=>⟨⟨_,ai.of c.ls⟩,λ D M=>?_⟩
 ·have:dc up x y=true:=T9 (.inl e);rw[this]at q;exact q _ (af.refl _)
 have o:=c.rw.len;have:=c.le;refine mX (ys:=us) none [] (λ k v H=>∃r,j[k]?=some r/\v=.str r.name) (λ ω ω ω ω h ω=>h) rfl M (by rw[Qk];lia) (λ O s=>ai.of (s _ _ c.ls)) (λ k y R H9 K' S U=>?_) (λ vs O p n G X=>?_)
 ·obtain⟨Y,I,Z⟩:=c.rw.at R;obtain⟨t,ft,a0,rfl,g1⟩:=Z.same S;walk_at "r";exact⟨_,g1,_,cL,U _ _ (af.refl _) ⟨Y,I,rfl⟩⟩
 rw[jv (g:=λ r:Rw=>V.str r.name) (G.trans o) X,show(j.map λ r=>V.str r.name)=(j.map Rw.name).map V.str by rw[dH];rfl]at n;refine⟨D,rfl,_,.inl (ai.of n),rfl,oj _,?_⟩;rw[qh];refine ay (λ z=>?_) λ z=>?_
 ·obtain⟨c1,c2⟩:=u.ch x (of_decide_eq_true z);refine⟨l,us,j,x,up x,rfl,c.same p,c1,c2,λ k H2 s2 hk e2=>⟨k,rfl,_,.inl (ai.of e2),rfl,oj _,?_⟩⟩;rw[qh,show decide (y∈up x)=dc up x y from decide_eq_decide.mpr ⟨.inr,λ h=>h.resolve_left J⟩];exact q _ (p.trans s2)
 ·have:dc up x y=false:=T8 λ h=>by
   have:=h.resolve_left J;rw[u.no x λ m=>z (T9 m)]at this;cases this
  rw[this]at q;exact q _ p
def vk{α β:Type}(f:α->Option β)(xs:List α)(r:Option β)(H:Hp)(σ0:List (Option V)->St)(n i:Nat)(σ:St)(H':Hp):Prop:=∃b,af H H'/\(xs.drop i).findSome? f=r/\b.length=n/\σ=σ0 b
theorem wq{c j:Type}{f:c->Option j}{xs:List c}{x:c}{r:Option j}(h:(xs.drop i).findSome? f=r)(m:xs[i]?=some x):∃g,f x=g/\(∀b,g=some b->r=some b)/\(g=none->(xs.drop (i+1)).findSome? f=r):=by
 rw[jj (bG.mp m).1,(bG.mp m).2,lR]at h;refine⟨_,rfl,λ b e=>?_,λ e=>?_⟩
 ·rw[e]at h;exact h.symm
 ·rw[e]at h;exact h
theorem nU{K:X0}{v:V}{h:Hd}(r:RT K H v (gE h)):∃t p,v=.ref t/\ao K H t [.str h.1,p,.str h.2.2]/\RT K H p (pairsD h.2.1):=by
 obtain⟨b,n,rfl,e,c⟩:=r.tup_inv;obtain⟨o,q,rfl,g,c⟩:=c.inv;obtain⟨i,u,rfl,j,c⟩:=c.inv;obtain⟨x,y,rfl,m,c⟩:=c.inv;cases c.nil_inv;cases g.str_inv;cases m.str_inv;exact⟨b,i,rfl,e,j⟩
theorem Lg(T:∅)(m:aO P w K mg base 1 "_law_ups" ["_law_rows_here","_law_name_here"] (sG K)):aO P w K mg base 2 "_law_found" ["_law_rows_here","_law_name_here","_law_word"] (xt K):=by
 walk_at "h OW yk 3"
 obtain⟨l,us,U,x,wd,X,rfl,J,hc,le,q⟩:=h;refine⟨_,(aw (eZ Qs rfl (eH (aB gF (bK (qI (ae 1))) (bq m hr qR rfl (qJ (ae 0) (ae 1))))) (qH 3 yk.nd) (aC (eZ Qs rfl (eH (ae 0)) (qH 4 yk.nd) (aC (eZ Qs rfl (eY (qA K 4)) (qH 5 yk.nd) (aC (bu (PW.pt (kZ (qM cM (qA K 4) (ae 3)) (mQ (qM cM (qA K 5) (ae 2))))) (aC (aY (bz (qJ (eF rfl (ak.plain (N:=["_law_param"]) rfl qP qP qP) (eY (qA K 5)) (λ C fp s H=>(qH 0 (show(["_law_param"]:List V2).Nodup by decide+kernel))) (λ C fp s H=>(qA K 0))) (qA K 5))))) bL))))))) (aC (aY fj))),?_⟩;walk_at "s 2 z";refine aE.of λ p1 H1 h1 s1 e1=>⟨l,us,U,x,X,rfl,J.a.same s1,hc,le,λ k H2 s2 hk e2=>⟨k,rfl,_,s2 _ _ e1,_,e2,by rw[aA];show 1+_<=_;lia,aE.of λ p3 H3 h3 s3 e3=>⟨⟨_,ai.of e3⟩,?_⟩⟩⟩;have S3:=s1.trans (s2.trans s3);have J:=J.same S3;have c0:=J.rw.len;refine kA ((x::X).map V.str) (vk (js U wd) (x::X) (dM U wd (x::X)) H3 (λ u=>some (V.ref l)::some (V.str x)::some (V.str wd)::u) 3) ⟨[none,none,none],af.refl _,rfl,rfl,rfl⟩ (λ i L H' ω Y=>?_) (λ i y L H' hy Y=>?_) (λ L H' Y=>?_)
 ·obtain⟨ω,O,ω⟩:=Y;exact ai.of (O _ _ e3)
 ·obtain⟨u,O,o,c,rfl⟩:=Y;obtain⟨o3,o4,M,rfl⟩:=sj c;rw[a_]at hy;obtain⟨y,d0,rfl⟩:=c_.mp hy;obtain⟨ry,e0,fy,fn⟩:=wq o d0;walk_at "r";refine⟨⟨_,ai.of (O _ _ J.ls)⟩,kA us (vk (λ r:Rw=>r.heads.findSome? λ h:Hd=>if r.name=y/\h.1=wd then some h else none) U ry H3 (λ u=>some (V.ref l)::some (V.str x)::some (V.str wd)::some (V.str y)::u) 2) ⟨[o4,M],O,e0,rfl,rfl⟩ (λ j L H' ω G=>?_) (λ j v L H' R G=>?_) (λ L H' G=>?_)⟩
  ·obtain⟨ω,I,ω⟩:=G;exact ai.of (I _ _ J.ls)
  ·obtain⟨u,I,o,c,rfl⟩:=G;obtain⟨o4,M,rfl⟩:=kT c;obtain⟨r,Z,f0⟩:=J.rw.at R;obtain⟨a0,erw,fw,fm⟩:=wq o Z;have pl:=J.pl r (bN Z);cases f0 with
   |@mk t ft i0 _ g1 g2 g3=>
   obtain⟨ht,hs,rfl,q1,q2⟩:=g3.tup_inv;have lhs:hs.length=r.heads.length:=by rw[q2.length,aA]
   walk_at "r";refine⟨_,ao.same g1 I,_,nQ,_,rfl,⟨_,ao.same q1 I⟩,mS hs (vk (λ h:Hd=>if r.name=y/\h.1=wd then some h else none) r.heads a0 H3 (λ u=>some (V.ref l)::some (V.str x)::some (V.str wd)::some (V.str y)::some (V.ref t)::u) 1) ⟨[M],I,erw,rfl,rfl⟩ (λ k L H' ω G=>?_) (λ k v L H' R G=>?_) (λ L H' G=>?_)⟩
   ·obtain⟨ω,I,ω⟩:=G;exact ao.same q1 I
   ·obtain⟨u,S,o,c,rfl⟩:=G;obtain⟨M,rfl⟩:=zd c;obtain⟨d,hd,rv⟩:=q2.at R;rw[a_]at hd;obtain⟨g,hg,rfl⟩:=c_.mp hd;obtain⟨rz,b0,fz,fk⟩:=wq o hg;obtain⟨hb,h0,rfl,b1,b2⟩:=nU (rv.same S);walk_at "r";have no:¬(r.name=y/\g.1=wd)->vk (λ h:Hd=>if r.name=y/\h.1=wd then some h else none) r.heads a0 H3 (λ u=>some (V.ref l)::some (V.str x)::some (V.str wd)::some (V.str y)::some (V.ref t)::u) 1 (k+1) [some (V.ref l),some (V.str x),some (V.str wd),some (V.str y),some (V.ref t),some (V.ref hb)] H':=λ n=>⟨[some (V.ref hb)],S,fk (by rw[<-b0,T5 n]),rfl,rfl⟩;refine⟨_,ao.same g1 S,_,cL,rfl,ay (λ e1=>⟨_,b1,_,cL,rfl,ay (λ e2=>?_) λ n=>no λ z=>n (by rw[z.2])⟩) λ n=>no λ z=>n (by rw[z.1])⟩;have e:=fy g (fw g (fz g (by rw[<-b0,T6 ⟨V.str.inj e1,V.str.inj e2⟩])));obtain⟨pa,ps,rfl,c1,c2⟩:=b2.tup_inv;have g0:ps.length=g.2.1.length:=by rw[c2.length,aA]
    have lg:=pl g (bN hg);refine⟨_,b1,_,eB,_,rfl,⟨_,c1⟩,λ D hD=>?_⟩;refine iy (ys:=ps) none [] (λ j v ω=>∃p,g.2.1[j]?=some p/\v=.str p.2) (λ ω ω ω ω h ω=>h) rfl hD (by rw[Qk];lia) (λ H1 s=>ao.same c1 s) (λ i y hy H1 K' s kk=>?_) (λ vs Hc Sc R lv hR=>?_)
    ·obtain⟨b,t,v1,v2,rfl,ht,hz,rfl,rfl⟩:=rp c2 hy;walk_at "r";exact⟨_,ao.same hz s,_,eB,kk _ _ (af.refl _) ⟨t,ht,rfl⟩⟩
    rw[jv (g:=λ p:V2×V2=>V.str p.2) (lv.trans g0) hR]at R;refine⟨_,ao.same b1 Sc,_,pW,aE.of λ p4 H4 h4 s4 e4=>q _ _ (S3.trans (S.trans (Sc.trans s4))) ?_⟩;rw[e];exact .som e4 (s4 _ _ (by rw[R,aJ,dH];rfl))
   ·obtain⟨u,S,o,c,rfl⟩:=G;obtain⟨M,rfl⟩:=zd c;rw[lhs,jV]at o;exact⟨[some (V.ref t),M],S,fm o.symm,rfl,rfl⟩
  ·obtain⟨u,I,o,c,rfl⟩:=G;obtain⟨o4,M,rfl⟩:=kT c;rw[c0,jV]at o;exact⟨[some (V.str y),o4,M],I,fn o.symm,rfl,rfl⟩
 ·obtain⟨u,O,o,c,rfl⟩:=Y;rw[aA,jV]at o;walk_at "n z1";exact q _ _ (S3.trans O) (o▸.non)
open P23 (c8 yA cq args gs fG cR cT dZ bw)
inductive zv(K:X0)(vs:List V)(H:Hp)(Q:VK):Prop
 |mk(hv:V)(h:Hd)(way:Int)(a1:vs=[hv,.int way])(a2:RT K H hv (gE h))(a3:h.2.1.length<=100)(a4:∀v H',af H H'->RT K H' v (gs h way).dat->Q v H'):zv K vs H Q
def zt(K:X0):Sp:=λ vs H Q ω=>zv K vs H Q
def kH(H:Hp)(d:V0)(odd:Nat->Int):Prop:=∃b,H d=some (.dK b)/\∀n:Nat,(bg b (.inl (n:Int))).getD (.int 0)=.int (odd n)
inductive AL(K:X0)(vs:List V)(H:Hp)(Q:VK):Prop
 |mk(l d:V0)(us:List V)(rs:List Rw)(odd:Nat->Int)(a1:vs=[.ref l,.ref d])(a2:jy K H l us rs)(a3:(∀r∈rs,r.heads.length<=100))(a4:kH H d odd)(a5:∀v H',af H H'->RT K H' v (k9 (bw odd rs))->Q v H'):AL K vs H Q
def Ak(K:X0):Sp:=λ vs H Q ω=>AL K vs H Q
def GN(K:X0)(odd:Nat->Int)(rs:List Rw)(H1:Hp)(l1:V0)(σ0:Nat->List (Option V)->St)(i:Nat)(σ:St)(H':Hp):Prop:=∃(b:List V)(c:List Hs)(m:Nat)(e:List (Option V)),SX l1 H1 H'/\H' l1=some (.lst b)/\bb K H' b (c.map km)/\dZ odd 0 rs=c++dZ odd m (rs.drop i)/\e.length=6/\σ=σ0 m e
theorem y_{a b:V0}(h:H a=none)(q:H b=some o):b≠a:=nq h q
theorem zb{g:Type}{l:List g}(h:l.length=6):∃a b c d e f,l=[a,b,c,d,e,f]:=by
 obtain⟨a,b,c,i⟩:=sj (l:=l.take 3) (by rw[cJ,h];rfl);obtain⟨d,e,f,j⟩:=sj (l:=l.drop 3) (by rw[gA,h]);exact⟨a,b,c,d,e,f,by rw[<-se 3 l,i,j];rfl⟩
def GK(K:X0)(odd:Nat->Int)(m0:Nat)(r:Rw)(H2:Hp)(l2:V0)(σ0:Nat->Option V->St)(i:Nat)(σ:St)(H':Hp):Prop:=∃(b:List V)(c:List Wd)(o:Option V),SX l2 H2 H'/\H' l2=some (.lst b)/\bb K H' b (c.map kq)/\c.length=i/\cR odd m0 r.heads=c++cR odd (m0+i) (r.heads.drop i)/\σ=σ0 (m0+i) o
theorem CD{K:X0}(o:Option V2):RT K H (oS o) (oD o):=by
 cases o with
 |none=>exact .non
 |some x=>exact .str x
theorem zu(ts:List Tm):bO ts=ts.map Tm.dat:=by
 induction ts with
 |nil=>rfl
 |cons t ts b=>exact congrArg (t.dat::·) b
theorem JJ(T:∅):aO P w K mg base 1 "_law_body" ["_law_head","_law_way"] (zt K):=by
 walk_at "h OR GC 2"
 obtain⟨S,h,U,rfl,rh,lh,q⟩:=h;refine⟨_,(aw (qG 2 GC.nd (d7 gG rfl T.gK gH (qI (eF rfl (ak.plain (N:=["_law_param"]) rfl qP qP qP) (eY (qA K 0)) (λ C fp s H=>(qH 0 (show(["_law_param"]:List V2).Nodup by decide+kernel))) (λ C fp s H=>(bz (qJ aX (qA K 0)))))))) (aw (bu (qM cM (ae 1) az) (aC (aY (bz (qJ aX (bz (qJ aX az)))))) bL) (aw (bu (qM cM (ae 1) az) (aC (aY (bz (cg aX (qK (bz (qI aX)) (qA K 0) (aB (r:=ki K) lA (ae 2) (bz (qI (bz (qJ aX az)))))))))) bL) (aw (bu (qM cM (ae 1) az) (aC (aY (bz (qJ aX az)))) bL) (aC (aY (bz (cg aX (qK (bz (qI aX)) (qA K 0) (ae 2)))))))))),?_⟩;obtain⟨hb,a0,rfl,X,b2⟩:=nU rh;obtain⟨pa,ps,rfl,c1,c2⟩:=b2.tup_inv;have x:ps.length=h.2.1.length:=by rw[c2.length,aA]
 walk_at "s 5 z";refine⟨_,X,_,eB,_,rfl,⟨_,c1⟩,λ D hD=>?_⟩;refine iy (ys:=ps) none [] (λ j v H=>∃p,h.2.1[j]?=some p/\RT K H v (yA p.1).dat) (λ j v o H2 ⟨p,a,b⟩ s=>⟨p,a,b.kp (iZ s)⟩) rfl hD (by rw[Qk];lia) (λ o s=>ao.same c1 s) (λ i y hy o K' s kk=>?_) (λ vs o s1 S lv hR=>?_)
 ·obtain⟨b,t,v1,v2,rfl,ht,hz,rfl,rfl⟩:=rp c2 hy;walk_at "r";exact⟨_,ao.same hz s,_,cL,aE.of λ p2 H2 h2 L M=>kk _ _ L ⟨t,ht,.tup (ao.of M) (.cons (.str _) (.cons (.str _) .nil))⟩⟩
 have m:bb K o vs (bO (args h)):=by
  refine wM (by rw[lv,x,ir,args,aA]) λ j v hj=>?_;obtain⟨p,hp,Y⟩:=hR j v hj;exact⟨_,by rw[zu,args,dH,a_,hp];rfl,Y⟩
 refine⟨_,rfl,_,.inl ⟨ai.of S,λ O Z=>?_⟩⟩;have L:=bM Z (.tup vs);have M:ag o O (.tup vs) O=some (.tup vs):=aG;generalize ag o O (.tup vs)=H2 at*;have m:=m.same L;have u:=s1.trans L;unfold gs at q;walk_at "n z1";refine ay (λ e=>?_) λ z=>?_
 ·rw[T6 e]at q;exact aE.of λ p3 H3 h3 c n=>aE.of λ p4 H4 h4 g G=>q _ _ (u.trans (c.trans g)) (.tup (ao.of G) (.cons (.str _) (.cons (.tup (ao.of (g _ _ n)) (.cons (.str _) (.cons (.int _) .nil))) .nil)))
 rw[T5 z]at q;walk_at "n z2";refine ay (λ e=>?_) λ z=>?_
 ·rw[T6 e]at q;refine aE.of λ p3 H3 h3 c n=>⟨_,ao.same X (u.trans c),_,cL,aE.of λ p4 H4 h4 g G=>aE.of λ p5 H5 h5 I e5=>⟨O,p5,_,_,rfl,rfl,ao.of (I _ _ (g _ _ (c _ _ M))),ao.of e5,?_,λ p6 H6 R q6=>aE.of λ p7 H7 h7 J e7=>q _ _ (u.trans (c.trans (g.trans (I.trans (R.trans J))))) ?_⟩⟩
  ·rw[lv,x,Qk];show _+1<=_;lia
  ·refine .tup (ao.of e7) (.cons (.str _) (.cons (.tup (ao.of (J _ _ (R _ _ (I _ _ (g _ _ n))))) (.cons (.str _) .nil)) (.cons (.str _) (.cons (.tup (ao.same q6 J) ?_) .nil))));rw[n_];exact(m.same (c.trans (g.trans (I.trans (R.trans J))))).app (.cons (.tup (ao.of (J _ _ (R _ _ (I _ _ G)))) (.cons (.str _) (.cons (.int _) .nil))) .nil)
 rw[T5 z]at q;walk_at "n z3";refine ay (λ e=>?_) λ z=>?_
 ·rw[T6 e]at q;exact aE.of λ p3 H3 h3 c n=>q _ _ (u.trans c) (.tup (ao.of n) (.cons (.str _) (.cons (.int _) .nil)))
 rw[T5 z]at q;walk_at "n z4";refine aE.of λ p3 H3 h3 c n=>⟨_,ao.same X (u.trans c),_,cL,aE.of λ p4 H4 h4 g G=>q _ _ (u.trans (c.trans g)) ?_⟩;exact .tup (ao.of G) (.cons (.str _) (.cons (.tup (ao.of (g _ _ n)) (.cons (.str _) .nil)) (.cons (.str _) (.cons (.tup (ao.of (g _ _ (c _ _ M))) (m.same (c.trans g))) .nil))))
theorem Ky(T:∅)(c:aO P w K mg base 1 "_law_body" ["_law_head","_law_way"] (zt K)):aO P w K mg base 2 "_law_plain_by" ["_law_rows_here","_law_odd"] (Ak K):=by
 walk_at "h Pn kL 2"
 obtain⟨l,d,us,rs,b,rfl,M,hh,ho,q⟩:=h;refine⟨_,(aw (qG 2 kL.nd (bK dO)) (aw (qG 3 kL.nd az) (aw (eZ Qs rfl (eH (ae 0)) (i_ (n:=4) rfl (dA (qH 4 kL.nd) (dA (qH 5 kL.nd) (dA (qH 6 kL.nd) (dA (qH 7 kL.nd) i9))))) (aw (qG 8 kL.nd (bK dO)) (aw (eZ Qs rfl (eY (ae 7)) (qH 9 kL.nd) (aw (d8 (eE eu fY fX fK (ae 8) (qI (aB (r:=ki K) lA (ae 9) (bz (qI (bq c hr qR rfl (qJ (ae 9) (Ef (mB hr) (ae 1) (ae 3) az ⟨rfl,rfl,rfl,rfl⟩))))))))) (aC (qG 3 kL.nd (aB cU (ae 3) az))))) (aC (d8 (eE eu fY fX fK (ae 2) (qI (bz (cg (ae 4) (qK (ae 5) (ae 6) (d7 gG rfl T.gK gH (qI (ae 8))))))))))))) (aC (aY (bz (qJ (d7 gG rfl T.gK gH (qI (ae 2))) (bz (qK (bz dO) aX (bz (qJ aX az))))))))))),?_⟩;walk_at "s 4 z";refine aE.of λ l1 H1 h1 s1 e1=>?_;walk_at "n z1";walk_at "n z2";refine⟨⟨_,ai.of (s1 _ _ M.ls)⟩,?_⟩;have h0:=M.rw.len;have n0:=M.le;refine kA us (GN K b rs H1 l1 λ m os=>some (V.ref l)::some (V.ref d)::some (V.ref l1)::some (.int (m:Nat))::os) ⟨[],[],0,[none,none,none,none,none,none],λ ω ω ω h=>h,e1,.nil,rfl,rfl,rfl⟩ (λ i σ H' ω hI=>?_) (λ i y σ H' hy hI=>?_) (λ σ H' hI=>?_)
 ·obtain⟨ω,ω,ω,ω,X,ω⟩:=hI;exact ai.of (X _ _ (y_ h1 M.ls) (s1 _ _ M.ls))
 ·obtain⟨e,dn,m,os,X,eL,hR,N,a0,rfl⟩:=hI;obtain⟨o0,o1,o2,o3,o4,o5,rfl⟩:=zb a0;obtain⟨r,O,R⟩:=M.rw.at hy;have z:af H H':=gZ s1 X h1;have R:=R.same z;cases R with
  |@mk t ft hv _ g1 g2 g3=>
  refine yx λ p0 b0=>?_;walk_at "r";refine⟨_,g1,rfl,⟨_,_,rfl,⟨_,_,rfl,⟨_,_,rfl,⟨_,_,rfl,rfl,?_⟩⟩⟩⟩⟩;subst b0;walk_at "s 3 y";obtain⟨ht,hs,rfl,q1,q2⟩:=g3.tup_inv;have lhs:hs.length=r.heads.length:=by rw[q2.length,aA]
  have rm:=bN O;have l0:=hh r rm;have pl:=M.pl r rm;refine aE.of λ l2 H2 h2 S e2=>?_;walk_at "n y1";refine⟨⟨_,ao.same q1 S⟩,mS hs (GK K b m r H2 l2 λ m' o=>[some (V.ref l),some (V.ref d),some (V.ref l1),some (.int (m':Nat)),some (V.str r.name),some (oS r.elder),some ft,some (V.ref ht),some (V.ref l2),o]) ⟨[],[],o5,λ ω ω ω h=>h,e2,.nil,rfl,rfl,rfl⟩ (λ j σ H3 ω hJ=>?_) (λ j v σ H3 hv hJ=>?_) (λ σ H3 hJ=>?_)⟩
  ·obtain⟨ω,ω,ω,Y,ω⟩:=hJ;exact ao.same q1 (gZ S Y h2)
  ·obtain⟨g,dn2,o9,Y,C,D,L,Z,rfl⟩:=hJ;have p:af H' H3:=gZ S Y h2;obtain⟨dd,c0,rv⟩:=q2.at hv;rw[a_]at c0;obtain⟨h,U,rfl⟩:=c_.mp c0;obtain⟨hb,m0,rfl,b1,b2⟩:=nU (rv.same p);obtain⟨i0,k1,k2⟩:=ho;have hm:=bN U;walk_at "s 2 x";refine⟨.inl ⟨rfl,_,ai.of C⟩,?_⟩;have sd:=z.trans p;have gd:=k2 (m+j);refine⟨.inl ⟨_,.inl (sd _ _ k1)⟩,bg i0 (.inl ((m+j:Nat):Int)),cZ.k (k:=.inl _) (sd _ _ k1),?_⟩;rw[gd];refine⟨.ref hb,h,b (m+j),rfl,rv.same p,pl h hm,λ bv H4 G rb=>aE.of λ p5 H5 h5 u e5=>⟨hb,p5,_,_,rfl,rfl,ao.same b1 (G.trans u),ao.of e5,by rw[Qk];show 3+1<=_;decide,λ p6 H6 I q6=>?_⟩⟩;have J:=G.trans (u.trans I);have d0:=J _ _ C;have e0:Kp H6 (ag H6 l2 (.lst (g++[.ref p6]))):=SX.kpl (SX.put _) d0;have q0:g.length=dn2.length:=by rw[D.length,aA]
   have hj:=(bG.mp U).1;refine⟨_,d0,qR,?_⟩;walk_at "n x1";refine⟨g++[.ref p6],dn2++[fG h (b (m+j))],_,(Y.trans (SX.of J)).trans (SX.put _),aG,?_,by rw[bB,L];rfl,?_,rfl⟩
   ·rw[ew];exact((D.same J).kp e0).app (.cons (RT.kp e0 (.tup q6 (.cons (.str _) (.cons (b2.same J) (.cons (.str _) (.cons (rb.same (u.trans I)) .nil)))))) .nil)
   ·rw[Z,jj hj,(bG.mp U).2,iX];rfl
  ·obtain⟨g,dn2,o9,Y,C,D,L,Z,rfl⟩:=hJ;have p:af H' H3:=gZ S Y h2;show uy2 _ _ _;walk_at "n y2";rw[lhs,jV]at Z;have Z:cR b m r.heads=dn2:=Z.trans (gD _);have r0:e.length=dn.length:=by rw[hR.length,aA]
   have s0:dn.length<=12:=by
    have:=congrArg gB N;rw[bB,<-aA (f:=Hs.name),P23.xG,aA]at this;lia
   refine⟨.inl ⟨rfl,_,ai.of (p _ _ eL)⟩,_,.inl ⟨ai.of C,λ p4 j0=>?_⟩⟩;have G:=bM j0 (.tup g);have e4:ag H3 p4 (.tup g) p4=some (.tup g):=aG;generalize ag H3 p4 (.tup g)=H4 at*;refine aE.of λ p5 H5 h5 u e5=>?_;have x:=G.trans u;have f0:=x _ _ (p _ _ eL);have g0:Kp H5 (ag H5 l1 (.lst (e++[.ref p5]))):=SX.kpl (SX.put _) f0;refine⟨_,f0,qR,e++[.ref p5],dn++[cT b m r],m+hs.length,_,(X.trans (SX.of (p.trans x))).trans (SX.put _),aG,?_,?_,rfl,rfl⟩
   ·rw[ew];refine((hR.same (p.trans x)).kp g0).app (.cons (RT.kp g0 (.tup (ao.of e5) (.cons (.str _) (.cons (CD _) (.cons (g2.same (p.trans x)) (.cons (.tup (ao.of (u _ _ e4)) ?_) .nil)))))) .nil);show bb K H5 g ((cR b m r.heads).map kq);rw[Z];exact D.same x
   ·rw[N,jj (bG.mp O).1,(bG.mp O).2,lhs,iX];rfl
 ·obtain⟨e,dn,m,os,X,eL,hR,N,a0,rfl⟩:=hI;show uz3 _ _ _;walk_at "n z3";rw[h0,jV]at N;have N:dZ b 0 rs=dn:=N.trans (gD _);have z:af H H':=gZ s1 X h1;refine⟨_,.inl ⟨ai.of eL,λ p2 k0=>?_⟩⟩;have S:=bM k0 (.tup e);have e2:ag H' p2 (.tup e) p2=some (.tup e):=aG;generalize ag H' p2 (.tup e)=H2 at*;refine aE.of λ p3 H3 h3 s3 e3=>aE.of λ p4 H4 h4 G e4=>aE.of λ p5 H5 h5 u e5=>aE.of λ p6 H6 h6 I e6=>q _ _ (z.trans (S.trans (s3.trans (G.trans (u.trans I))))) ?_;refine .tup (ao.of e6) (.cons (.tup (ao.of (I _ _ (u _ _ (G _ _ (s3 _ _ e2))))) ?_) (.cons (.tup (ao.of (I _ _ e5)) (.cons (.tup (ao.of (I _ _ (u _ _ (G _ _ e3)))) .nil) (.cons (.str _) (.cons (.tup (ao.of (I _ _ (u _ _ e4))) (.cons (.str _) (.cons (.int _) .nil))) .nil)))) .nil));show bb K H6 e ((dZ b 0 rs).map km);rw[N];exact hR.same (S.trans (s3.trans (G.trans (u.trans I))))
inductive Ae(c:CS)(K:X0)(vs:List V)(H:Hp)(Q:VK):Prop
 |mk(v:V)(d:Wd)(a1:vs=[v])(a2:e_ K c H v d)(a3:∀u H',af H H'->RT K H' u (kq d)->Q u H'):Ae c K vs H Q
def Ab(c:CS)(K:X0):Sp:=λ vs H Q ω=>Ae c K vs H Q
inductive zZ(c:CS)(K:X0)(vs:List V)(H:Hp)(Q:VK):Prop
 |mk(v:V)(d:Hs)(a1:vs=[v])(a2:eQ K c H v d)(a3:d.words.length<=100)(a4:∀u H',af H H'->RT K H' u (km d)->Q u H'):zZ c K vs H Q
def AR(c:CS)(K:X0):Sp:=λ vs H Q ω=>zZ c K vs H Q
inductive Az(c:CS)(K:X0)(vs:List V)(H:Hp)(Q:VK):Prop
 |mk(v:V)(d:Pg)(a1:vs=[v])(a2:iP K c H v d)(a3:d.houses.length<=100)(a4:(∀h∈d.houses,h.words.length<=100))(a5:∀u H',af H H'->RT K H' u (k9 d)->Q u H'):Az c K vs H Q
def Ah(c:CS)(K:X0):Sp:=λ vs H Q ω=>Az c K vs H Q
theorem LQ(T:∅)(b:aT P w K mg base 1 Ct "plain" ["self"] (tL Ct K)):aT P w K mg base 2 Cw "plain" ["self"] (Ab s!"a" K):=by
 walk_at "m m_Word_plain MY 1"
 obtain⟨v,d,rfl,n,q⟩:=h;refine⟨_,(aC (aY (bz (cg (qO 0) (qK (qO 0) (qO 0) (jK (qO 0) T.Term.cl b hr qR)))))),?_⟩;cases n with
 |mk c o j=>
  obtain⟨m,e,p,C,r,x,rfl,g,ω⟩:=j.inv;walk_at "r";exact⟨Cw,_,_,c,T.Word.cl,T.n_Word_name,_,rfl,Cw,_,_,c,T.Word.cl,T.n_Word_params,_,rfl,Cw,_,_,c,T.Word.cl,T.n_Word_kind,_,rfl,Cw,_,_,c,T.Word.cl,T.n_Word_body,_,rfl,m,rfl,e,_,g,rfl,.ref m,d.body,rfl,j,λ u y=>aE.of λ D G I i z=>q _ _ i (.tup (ao.of z) (.cons (.str _) (.cons (o.same i) (.cons (.str _) (.cons (y.same i) .nil)))))⟩
theorem Lu(T:∅)(c:aT P w K mg base 2 Cw "plain" ["self"] (Ab s!"a" K)):aT P w K mg base 3 Ch "plain" ["self"] (AR s!"a" K):=by
 walk_at "m m_House_plain eR 1"
 obtain⟨v,d,rfl,g,hl,q⟩:=h;refine⟨_,(aw (qG 1 eR.nd (d7 gG rfl T.gK gH (qI (eF rfl (ak.plain (N:=["word"]) rfl qP qP qP) (eY (qO 0)) (λ C M s H=>(qH 0 (show(["word"]:List V2).Nodup by decide+kernel))) (λ C M s H=>(jK (ae 0) T.Word.cl c hr qR)))))) (aC (aY (bz (cg (qO 0) (qK (qO 0) (qO 0) (ae 1))))))),?_⟩;cases g with
 |mk z O G I=>
  have R:=I.len;walk_at "s 2 z";refine⟨Ch,_,_,z,T.House.cl,T.n_House_own_words,_,rfl,_,rfl,⟨_,G⟩,λ D S=>?_⟩;refine iy (ys:=_) none [] (λ j v H=>∃t,d.words[j]?=some t/\RT K H v (kq t)) (λ j v J U ⟨t,a,b⟩ s=>⟨t,a,b.kp (iZ s)⟩) rfl S (by rw[Qk];lia) (λ J s=>ao.same G s) (λ i y X J K' s k=>?_) (λ vs n Sc Y Z hR=>?_)
  ·obtain⟨t,ht,g⟩:=I.at X;have g:=g.same s;walk_at "r";have o:=g;cases g with
   |mk k1 k2 k3=>exact⟨_,rfl,_,_,k1,rfl,_,t,rfl,o,λ u U s2 ru=>k _ _ s2 ⟨t,ht,ru⟩⟩
  refine⟨D,rfl,vs,.inl ⟨ai.of Y,λ p h5=>?_⟩⟩;have L:=bM h5 (.tup vs);have e5:ag n p (.tup vs) p=some (.tup vs):=aG;generalize ag n p (.tup vs)=H5 at*;have r:=Sc.trans L;have x:bb K n vs (d.words.map kq):=sM kq (Z.trans R) hR;have e:=r _ _ z;walk_at "n z1";exact⟨Ch,_,_,e,T.House.cl,T.n_House_name,_,rfl,Ch,_,_,e,T.House.cl,T.n_House_elder,_,rfl,Ch,_,_,e,T.House.cl,T.n_House_own_fields,_,rfl,aE.of λ p6 H6 h6 m e6=>q _ _ (r.trans m) (.tup (ao.of e6) (.cons (.str _) (.cons (CD _) (.cons (O.same (r.trans m)) (.cons (.tup (ao.of (m _ _ e5)) (x.same (L.trans m))) .nil)))))⟩
theorem Mr(T:∅)(e:aT P w K mg base 1 Ct "plain" ["self"] (tL Ct K))(c:aT P w K mg base 3 Ch "plain" ["self"] (AR s!"a" K)):aT P w K mg base 4 Cp "plain" ["self"] (Ah s!"a" K):=by
 walk_at "m m_Program_plain dU 1"
 obtain⟨v,d,rfl,m,hl,r,q⟩:=h;refine⟨_,(aw (qG 1 dU.nd (d7 gG rfl T.gK gH (qI (eF rfl (ak.plain (N:=["house"]) rfl qP qP qP) (eY (qO 0)) (λ C fp s H=>(qH 0 (show(["house"]:List V2).Nodup by decide+kernel))) (λ C fp s H=>(jK (ae 0) T.House.cl c hr qR)))))) (aC (aY (bz (qJ (ae 1) (bz (qK (jI (qO 0) rfl) (jI (qO 0) rfl) (jK (jI (qO 0) rfl) T.Term.cl e hr qR)))))))),?_⟩;cases m with
 |mk U X Y f4=>
  have l3:=Y.len;walk_at "s 2 z";refine⟨Cp,_,_,U,T.Program.cl,T.n_Program_all_houses,_,rfl,_,rfl,⟨_,X⟩,λ D hD=>?_⟩;refine iy (ys:=_) none [] (λ j v H=>∃t,d.houses[j]?=some t/\RT K H v (km t)) (λ j v Z H2 ⟨t,a,b⟩ s=>⟨t,a,b.kp (iZ s)⟩) rfl hD (by rw[Qk];lia) (λ Z s=>ao.same X s) (λ i y hy Z K' s k=>?_) (λ vs x Sc hv lv hR=>?_)
  ·obtain⟨t,ht,m⟩:=Y.at hy;have m:=m.same s;have o:=r t (bN ht);walk_at "r";have z:=m;cases m with
   |mk k1 k2 k3 k4=>exact⟨_,rfl,_,_,k1,rfl,_,t,rfl,z,o,λ u H2 s2 G=>k _ _ s2 ⟨t,ht,G⟩⟩
  refine⟨D,rfl,vs,.inl ⟨ai.of hv,λ I h5=>?_⟩⟩;have s5:=bM h5 (.tup vs);have e5:ag x I (.tup vs) I=some (.tup vs):=aG;generalize ag x I (.tup vs)=H5 at*;have J:=Sc.trans s5;have L:bb K x vs (d.houses.map km):=sM km (lv.trans l3) hR;have g:=J _ _ U;have M:=f4.same J;cases M with
  |mk O m2 m3=>
   obtain⟨ba,R,a0,sh,b0,c0,rfl,S,ω⟩:=m3.inv;walk_at "n z1";exact⟨Cp,_,_,g,T.Program.cl,T.n_Program_main,_,rfl,_,rfl,Cw,_,_,O,T.Word.cl,T.n_Word_params,_,rfl,Cp,_,_,g,T.Program.cl,T.n_Program_main,_,rfl,_,rfl,Cw,_,_,O,T.Word.cl,T.n_Word_kind,_,rfl,Cp,_,_,g,T.Program.cl,T.n_Program_main,_,rfl,_,rfl,Cw,_,_,O,T.Word.cl,T.n_Word_body,_,rfl,ba,rfl,R,_,S,rfl,.ref ba,d.main.body,rfl,m3,λ u G=>aE.of λ p6 H6 h6 p e6=>aE.of λ p7 H7 h7 n e7=>q _ _ (J.trans (p.trans n)) (.tup (ao.of e7) (.cons (.tup (ao.of ((p.trans n) _ _ e5)) (L.same (s5.trans (p.trans n)))) (.cons (.tup (ao.of (n _ _ e6)) (.cons (m2.same (p.trans n)) (.cons (.str _) (.cons (G.same (p.trans n)) .nil)))) .nil)))⟩
open P23 (eW ni fc jb)
theorem yy{K:X0}{e:TE}{x y:V2}{b r:TS}{c:St}{a:V0}(g:∀{Q:VK},Q (.ref a) H->e c H Q)(h:∀{Q:VK},Q (.str y) H->nr K "form" a H Q)(n:y≠x)(q:r D c H):ar (jg (rB (jf rO (mw K e "form") (tC (.str x)))) b uY) r D c H:=
 g ⟨a,rfl,h ⟨rfl,_,rfl,show(if decide (V.str y=V.str x)=true then _ else _)from ay (λ z=>T7 (V.str.inj (of_decide_eq_true z)) n) λ ω=>q⟩⟩
theorem uW{K:X0}{e:TE}{x y:V2}{b r:TS}{c:St}{a:V0}(g:∀{Q:VK},Q (.ref a) H->e c H Q)(h:∀{Q:VK},Q (.str y) H->nr K "form" a H Q)(n:y=x)(q:b {D with nx:=r D} c H):ar (jg (rB (jf rO (mw K e "form") (tC (.str x)))) b uY) r D c H:=
 g ⟨a,rfl,h ⟨rfl,_,rfl,show(if decide (V.str y=V.str x)=true then _ else _)from ay (λ ω=>q) λ z=>T7 (T9 (congrArg V.str n)) z⟩⟩
inductive Bm(K:X0)(vs:List V)(H:Hp)(Q:VK):Prop
 |mk(v:V)(ps:List (V2×V2))(a1:vs=[v])(a2:RT K H v (pairsD ps))(a3:ps.length<=100)(a4:∀l H',H l=none->af H H'->H' l=some (.lst ((aJ ps).map V.str))->Q (.ref l) H'):Bm K vs H Q
def xN(K:X0):Sp:=λ vs H Q ω=>Bm K vs H Q
def wH(C:V0):Sp:=λ vs H Q E=>∃(x:V2)(b:Bool),vs=[.str x,.bl b]/\x.length<=1000/\(if b=true then Q .non H else gM H C x E)
inductive Ai(c:CS)(K:X0)(vs:List V)(H:Hp)(Q:VK):Prop
 |mk(a l:V0)(v:V)(ks:List V2)(ps:List (V2×V2))(G:Pg)(up:V2->List V2)(a1:vs=[.ref a,.ref l,v])(a2:gw K c H (.ref a) G)(a3:ai K H l (ks.map V.str))(a4:ks.length<=100)(a5:RT K H v (pairsD ps))(a6:ps.length<=100)(a7:(∀x∈ks,ni G up x))(a8:∀H',af H H'->Q (.bl (eW up ks (aJ ps))) H'):Ai c K vs H Q
def AS(c:CS)(K:X0):Sp:=λ vs H Q ω=>Ai c K vs H Q
def AZ(c:CS)(K:X0)(C:V0):Sp:=λ vs H Q E=>∃(a l:V0)(k wd h:V2)(i:Nat)(d:Wd)(b e:List V2)(G:Pg)(up:V2->List V2),vs=[.ref a,.str k,.str wd,.ref l]/\gw K c H (.ref a) G/\k∉NN/\aL G k e/\e.length<=100/\FO G wd (k::e) (some (h,i,d))/\d.params.length<=100/\wd.length<=1000/\ai K H l (b.map V.str)/\b.length<=100/\(∀x∈b,ni G up x)/\(if eW up b (aJ d.params)=true then ∀g,af H g->Q (.str d.kind) g else gM H C wd E)
theorem Md(T:∅):aO P w K mg base 1 "kinds_in" ["pairs"] (xN K):=by
 walk_at "h Pk MU 1"
 obtain⟨v,ps,rfl,x,hl,q⟩:=h;obtain⟨a,us,rfl,c,e⟩:=x.tup_inv;refine⟨_,(aC (aY (eF rfl (ak.plain (N:=["name","kind"]) rfl qP qP qP) (eY (ae 0)) (λ C z s H=>(show PG _ _ (u7 K 2 _)from i_ (n:=2) rfl (dA (qH 0 (show(["name","kind"]:List V2).Nodup by decide+kernel)) (dA (qH 1 (show(["name","kind"]:List V2).Nodup by decide+kernel)) i9)))) (λ C z s H=>(ae 1))))),?_⟩;walk_at "r";have G:us.length=ps.length:=by rw[e.length,aA]
 refine⟨⟨_,c⟩,λ D m=>EZ (ys:=us) (λ o=>∃p r,o=[p,r]) (λ j v H=>∃t,ps[j]?=some t/\v=.str t.2) (λ ω ω ω ω h ω=>h) ⟨_,_,rfl⟩ m (by rw[Qk];lia) (λ U s=>ao.same c s) (λ i y o I J X Y s k=>?_) (λ vs L Sc u M O=>?_)⟩
 ·obtain⟨p,r,rfl⟩:=J;obtain⟨b,t,Z,v2,rfl,R,S,rfl,rfl⟩:=rp e I;walk_at "r";exact⟨_,ao.same S s,rfl,⟨_,_,rfl,⟨_,_,rfl,⟨rfl,k _ _ _ ⟨_,_,rfl⟩ (af.refl _) ⟨t,R,rfl⟩⟩⟩⟩⟩
 ·rw[jv (g:=λ t:V2×V2=>V.str t.2) (M.trans G) O]at u;exact q D L m Sc (by rw[u,aJ,dH];rfl)
theorem IL(T:∅)(c:XW P w K mg base "BadKind" aq):b_ P w K mg base 3 "need" ["word","holds"] (wH aq):=by
 walk_at "x f_need P9 2"
 obtain⟨x,b,rfl,e,q⟩:=h;refine⟨_,(aC (bu (ko (i6 (ae 1))) (aC (xD c hr qR rfl (ae 0))) bL)),?_⟩;walk_at "r";cases b with
 |true=>exact q
 |false=>exact⟨e,q⟩
theorem Kv(T:∅)(b:aO P w K mg base 1 "kinds_in" ["pairs"] (xN K))(c:aO P w K mg base 2 "fits" ["hall","one","other"] (sR s!"a" K)):aO P w K mg base 3 "all_fit" ["hall","kinds","pairs"] (AS s!"a" K):=by
  refine aO.of T.Gw BR (λ ω ω ω ω ω ω us hl=>el3 us hl λ ω ω ω=>rfl) (λ vs H Q E h=>?_) (λ f cdv A outer s H vs Q E hr h=>?_)
  · obtain⟨a,l,v,m,ps,G,up,rfl,ω⟩:=h;rfl
  obtain⟨a,l,v,m,ps,G,up,rfl,hl,D,a0,hp,I,J,q⟩:=h;refine⟨_,(aw (qG 3 BR.nd (bq b hr qR rfl (qI (ae 2)))) (aw (bu (qM yu (qL T.z_len (qI (ae 1))) (qL T.z_len (qI (ae 3)))) (aC (aY jG)) bL) (aC (aY (gI (Jz rfl) rfl T.z_all He (qI (eF rfl (ak.of (N:=["one","other","hall"]) (nl:=[none,none,some 0]) (cl:=[("hall",s.heap.objs.size+1)]) rfl qP qP rfl (ei rfl) (nm:=["hall"]) rfl qP rfl (λ i hi j L=>by
            match i,hi with
            | 0,_=>cases L
             |1,_=>cases L
             |2,_=>cases L;exact s!"e"
            )) (G7 rfl T.z_zip (qJ (ae 1) (ae 3))) (λ C fp s H=>(show PG _ _ (u7 K 2 _)from i_ (n:=2) rfl (dA (qH 0 (show(["one","other","hall"]:List V2).Nodup by decide+kernel)) (dA (qH 1 (show(["one","other","hall"]:List V2).Nodup by decide+kernel)) i9)))) (λ C fp s H=>(bq c hr qR rfl (qK (ae 2) (ae 0) (ae 1))))))))))),?_⟩
  walk_at "r";refine⟨v,ps,rfl,hp,I,λ p H1 h1 o M=>⟨_,.inl (ai.same D o),p,rfl,_,.inl (ai.of M),ay (λ ne=>?_) λ e=>?_⟩⟩
  · have:eW up m (aJ ps)=false:=by
      unfold eW;rw[T8 (λ z=>ne (by rw[aA,aA,z])),pK]
    rw[this]at q;exact q _ o
  have O:(m.map V.str).length=((aJ ps).map V.str).length:=Int.ofNat.inj (vv λ z=>e z);refine⟨p,rfl,⟨_,ai.same D o⟩,⟨_,ai.of M⟩,λ D' R=>?_⟩;refine Kj (λ U=>∃X Y,U=[X,Y,some (V.ref a)]) (λ j v ω=>∃p,(m.zip (aJ ps))[j]?=some p/\v=.bl (b9 up p.1 p.2)) (λ ω ω ω ω h ω=>h) ⟨_,_,rfl⟩ R O (by rw[aA,Qk];lia) (λ Z r=>ai.same D (o.trans r)) (λ Z r=>ai.of (r _ _ M)) (λ i x y t U hx hy hS Z K' r e2 k=>?_) (λ vs Hc Sc hv lv hR=>?_)
  · obtain⟨X,Y,rfl⟩:=hS;rw[a_]at hx hy;obtain⟨x,u,rfl⟩:=c_.mp hx;obtain⟨y,S,rfl⟩:=c_.mp hy;walk_at "r";refine⟨_,ao.of e2,rfl,⟨_,_,rfl,⟨_,_,rfl,rfl,a,x,y,G,up,rfl,hl.same (o.trans r),J x (bN u),λ H3 s3=>?_⟩⟩⟩;exact k _ _ _ ⟨_,_,rfl⟩ s3 ⟨(x,y),List.getElem?_zip_eq_some.mpr ⟨u,S⟩,rfl⟩
  · rw[aA,aA]at O;rw[aA]at lv;rw[jv (g:=λ p:V2×V2=>V.bl (b9 up p.1 p.2)) (by rw[lv,List.length_zip];lia) hR]at hv;refine⟨D',rfl,(m.zip (aJ ps)).map λ p=>b9 up p.1 p.2,ai.of (by rw[hv,dH];rfl),?_⟩;have:eW up m (aJ ps)=((m.zip (aJ ps)).map λ p=>b9 up p.1 p.2).all id:=by
      unfold eW;rw[T9 O,pw,List.all_map];rfl
    rw[this]at q;exact q _ (o.trans Sc)
theorem E6(T:∅)(g:aO P w K mg base 1 "is_house" ["kind"] (xE K))(m:b_ P w K mg base 3 "need" ["word","holds"] (wH aq))(c:aT P w K mg base 2 Cl "found" ["self","house","word"] (xu s!"a" K))(e:aT P w K mg base 4 Cl "head" ["self","house","word"] (wm s!"a" K))(j:aO P w K mg base 3 "all_fit" ["hall","kinds","pairs"] (AS s!"a" K)):b_ P w K mg base 5 "call_kind" ["hall","kind","word","terms"] (AZ s!"a" K aq):=by
 walk_at "x OU BW 4"
 obtain⟨a,l,k,wd,O,i,d,y,r,G,up,rfl,hl,R,C,D,I,S,J,U,X,u,q⟩:=h;refine⟨_,(aw (d8 (jJ m hr qR rfl (qJ (ae 2) (mJ (bq g hr qR rfl (qI (ae 1))) (qi (ja qs (mU (ae 0) T.Hall.cl c hr qR (qJ (ae 1) (ae 2))) fj (kr _))))))) (aw (iq (mU (ae 0) T.Hall.cl e hr qR (qJ (ae 1) (ae 2))) (i_ (n:=2) rfl (dA (qH 4 BW.nd) (dA (qH 5 BW.nd) i9)))) (aw (d8 (jJ m hr qR rfl (qJ (ae 2) (bq j hr qR rfl (qK (ae 0) (ae 3) (ae 4)))))) (aC (aY (ae 5)))))),?_⟩;walk_at "r";obtain⟨L,io,dd,Y,M,ω,ω,ω⟩:=ju hl;refine⟨k,rfl,_,rfl,ay (λ ω=>⟨L,_,M,rfl,a,k,wd,G,r,_,rfl,hl,C,D,I,λ v H1 x Z=>?_⟩) λ z=>T7 (by rw[T8 R];rfl) z⟩;obtain⟨va,xs,rfl,ω,ω⟩:=RT.tup_inv Z;refine⟨wd,true,rfl,J,?_⟩;refine⟨L,_,x _ _ M,rfl,a,k,wd,G,r,_,rfl,hl.same x,C,D,I,λ v2 H2 s2 r2=>?_⟩;obtain⟨b,zs,rfl,hz,o⟩:=RT.tup_inv r2;obtain⟨v1,a0,rfl,g1,o⟩:=o.inv;obtain⟨v3,r3,rfl,g2,o⟩:=o.inv;cases o.nil_inv;cases g2.str_inv;have p:=x.trans s2;refine⟨b,rfl,_,hz,rfl,⟨_,_,rfl,⟨_,_,rfl,rfl,a,l,v1,y,d.params,G,up,rfl,hl.same p,ai.same U p,X,g1,S,u,λ H3 N=>⟨wd,_,rfl,J,?_⟩⟩⟩⟩;revert q;exact λ q=>ay (λ z=>by rw[T6 z]at q;exact q _ (p.trans N)) λ z=>by rw[T5 z]at q;exact q.mono (p.trans N)
open P23 (iT jc ou eK d9)
def oK(H:Hp)(d:V0)(bs:List (V2×V2)):Prop:=∃b,H d=some (.dK b)/\∀x k,(x,k)∈bs->bg b (.inr x)=some (.str k)
def ow(K:X0)(c:CS)(H:Hp)(v:V)(own:Option V2):Prop:=(own=none/\v=.non)\/∃X,own=some X.name/\eQ K c H v X
theorem oK.same{d:V0}{bs:List (V2×V2)}(h:oK H d bs)(s:af H H'):oK H' d bs:=let⟨k,a,b⟩:=h;⟨k,s _ _ a,b⟩
theorem ow.same{K:X0}{c:CS}{v:V}{own:Option V2}(h:ow K c H v own)(s:af H H'):ow K c H' v own:=h.imp id λ⟨X,a,c⟩=>⟨X,a,c.same s⟩
def Told(H:Hp)(C:V0)(E:XK){α:Type}(r:V2 ⊕ α)(q:α->Prop):Prop:=r.elim (λ x=>gM H C x E) q
def wo(c:CS)(K:X0)(C:V0):Sp:=λ vs H Q E=>∃(a d l:V0)(b e:V)(G:Pg)(up:V2->List V2)(own:Option V2)(bs:List (V2×V2))(t:Tm)(g:List V2)(r:V2 ⊕ V2),vs=[.ref a,b,e,.ref d,.ref l]/\gw K c H (.ref a) G/\ow K c H b own/\TO K c.term H e t/\oK H d bs/\ai K H l (g.map V.str)/\fc G up own bs t g r/\Told H C E r λ k=>∀h,af H h->Q (.str k) h
theorem ya(ys:List V2):∀b:List V2,Tg (ys.map PyData.str) (b.map PyData.str)=decide (ys=b):=by
 induction ys with
 |nil=>intro b;cases b<;>simp[Tg]
 |cons y ys e=>
  intro b;cases b with
  |nil=>simp[Tg]
  |cons z b=>
   simp only[eP,Tg,RG,e];by_cases c:y=z
   ·subst c;simp
   ·have:(y==z)=false:=by simpa using c
    rw[this];simp[c]
theorem mT{ks:List V2}(h:∀k∈ks,bC k):Lay 1 (.list (ks.map .str)):=.lst (.of λ d hd=>by
 obtain⟨k,b,rfl⟩:=bE.mp hd;exact .str (h k b))
theorem nX{K:X0}(ks:List V2):cH K H (ks.map V.str) (ks.map PyData.str):=by
 induction ks with
 |nil=>exact .nil
 |cons k ks b=>exact .cons (.str k) b
theorem Iy(T:∅)(i:b_ P w K mg base 3 "need" ["word","holds"] (wH aq))(b:b_ P w K mg base 5 "call_kind" ["hall","kind","word","terms"] (AZ s!"a" K aq)):b_ P w K mg base 6 "own_kind" ["hall","house","term","bound","parts"] (wo s!"a" K aq):=by
 walk_at "x Pj MT 5"
 obtain⟨a,d,l,c,U,G,up,own,bs,t,ks,r,rfl,hl,Y,Z,hb,n,hw,q⟩:=h;refine⟨_,(aw (bu (iu (r:=fH K false) g9 (qO 2) (bz (qJ aX aX)) s!"k") (aC (aY (qO 2))) bL) (aw (bu (qM cM (qO 2) aX) (aC (aY (qE hr (ae 3) (qO 2)))) bL) (aw (bu (qM cM (qO 2) aX) (aC (aY (qO 1))) bL) (aw (bu (qM cM (qO 2) aX) (aC i8) bL) (aw (bu (qM cM (qO 2) aX) (aw (d8 (jJ i hr qR rfl (qJ aX (ja (r:=jU K) (CL hr.units) (ae 4) (bK (qI aX)) (kr _))))) (aC (aY aX))) bL) (aw (bu (qM cM (qO 2) aX) (aC i8) bL) (aw (bu (qM cM (qO 2) aX) (aC i8) bL) (aw (bu (qM cM (qO 2) aX) (aw i8 (aC i8)) bL) (aw (bu (qM cM (qO 2) aX) (aC i8) bL) (aw (bu (qM cM (qO 2) aX) (aw i8 (aC i8)) bL) (aw (bu (qM cM (qO 2) aX) (aC (aY (jJ b hr qR rfl (cg (ae 0) (qK (qD K (ae 4) az) (qO 2) (g8 (r:=fq K) lr (ae 4) (gY az) gX)))))) bL) (aC i8)))))))))))),?_⟩;cases Z with
 |@mk C J a0 sh f lb ps vs ws o h2 O h4 h5=>
 refine seq2 λ u D=>?_;walk_at "r";refine⟨Ct,J,_,o,T.Term.cl,T.n_Term_form,_,rfl,aE.of λ p m hp g e2=>⟨_,.inr (ao.of e2),rfl,rfl,?_⟩⟩;have o:=g _ _ o;have j:∀{Q':VK},Q' (.str f.s) m->nr K "form" C m Q':=λ q=>⟨Ct,J,_,o,T.Term.cl,T.n_Term_form,_,rfl,q⟩;have R:∀{Q':VK},Q' (dS lb) m->nr K "label" C m Q':=λ q=>⟨Ct,J,_,o,T.Term.cl,T.n_Term_label,_,rfl,q⟩;have n:=ai.same n g;have hl:=hl.same g;have c:∀{Q':VK},Q' (.ref C) m->iJ 2 [some (V.ref a),some c,some (V.ref C),some (V.ref d),some (V.ref l)] m Q':=λ q=>q;cases hw with
 |num=>exact ay (λ ω=>j (q _ g)) λ z=>T7 qP z
 |name g1=>
  obtain⟨b0,L,M⟩:=hb;refine ay (λ z=>T7 z qP) λ ω=>?_;subst D;refine uW c j rfl ?_;walk_at "r";refine R ⟨_,?_,q _ g⟩;rw[<-M _ _ g1];exact cZ.k (k:=.inr _) (g _ _ L)
 |self e=>
  refine ay (λ z=>T7 z qP) λ ω=>?_;subst D;repeat refine yy c j qP ?_
  rcases Y with⟨I,_⟩|⟨X,I,hO⟩
  ·rw[e]at I;cases I
  ·cases e.symm.trans I;cases hO with
   |mk o1 o2 o3 o4=>
    refine uW c j rfl ?_;walk_at "r";exact⟨Ch,_,_,g _ _ o1,T.House.cl,T.n_House_name,_,rfl,q _ g⟩
 |@nt p k kn kS=>
  refine ay (λ z=>T7 z qP) λ ω=>?_;subst D;repeat refine yy c j qP ?_
  refine uW c j rfl ?_;walk_at "r";refine aE.of λ S H3 O v N=>⟨.list [.str k],.lst (ai.same n v) (.cons (.str _) .nil),_,.lst (ai.of N) (.cons (.str _) .nil),(mT (ks:=[k]) λ x hx=>by cases cu.mp hx;exact kS).shaped qQ,qP,⟨"not",_,rfl,qP,?_⟩⟩;have:RG (.list [.str k]) (.list [.str "truth"])=false:=by
   rw[RG];exact(ya [k] ["truth"]).trans (T8 λ z=>kn (List.cons.inj z).1)
  rw[this];exact(show gM H aq "not" E from q).mono (g.trans v)
 |call L M k3 k4 k5 k6 k7 k8=>
  refine ay (λ z=>T7 z qP) λ ω=>?_;subst D;repeat refine yy c j qP ?_
  refine uW c j rfl ?_;walk_at "r";refine⟨_,n,_,cL,R ⟨_,n,aE.of λ S H3 O v N=>⟨a,S,_,_,_,_,_,_,_,G,up,rfl,hl.same v,L,M,k3,k4,k5,k6,ai.of (N.trans (congrArg (λ z=>some (HO.lst z)) (kc _ _))),k7,k8,?_⟩⟩⟩;have y:=g.trans v;refine ay (λ z=>?_) λ z=>?_
  ·rw[T6 z]at q;exact λ H4 s4=>q _ (y.trans s4)
  ·rw[T5 z]at q;exact gM.mono q y
inductive AX(c:CS)(K:X0)(vs:List V)(H:Hp)(Q:VK):Prop
 |mk(tv:V)(l d:V0)(t:Tm)(a1:vs=[tv,.ref l,.ref d])(a2:TO K c.term H tv t)(a3:t.f≠.lt)(a4:Q (.ref d) H):AX c K vs H Q
def xA(c:CS)(K:X0):Sp:=λ vs H Q ω=>AX c K vs H Q
theorem HD{up:V2->List V2}{own:Option V2}{bs:List (V2×V2)}{t:Tm}{ks:List V2}{r:V2 ⊕ V2}(h:fc G up own bs t ks r):t.f≠.lt:=by cases h<;>exact λ z=>nomatch z
def sV(c:CS)(K:X0)(C:V0)(N:Nat):Sp:=λ vs H Q E=>∃(a d:V0)(e g:V)(G:Pg)(up:V2->List V2)(own:Option V2)(bs:List (V2×V2))(t:Tm)(r:V2 ⊕ List V2),vs=[.ref a,e,g,.ref d]/\gw K c H (.ref a) G/\ow K c H e own/\TO K c.term H g t/\oK H d bs/\jb G up own bs N t r/\Told H C E r λ h=>∀l b,H l=none->af H b->b l=some (.lst (h.map V.str))->Q (.ref l) b
def flt(ls:List (V2×List V2)):List V2:=(ls.map λ l=>l.1::l.2).flatten
theorem JI{ls:List (V2×List V2)}{l:V2×List V2}(h:ls[i]?=some l):flt (ls.take (i+1))=flt (ls.take i)++l.1::l.2:=by
 rw[lZ,h,flt,flt,ew,List.flatten_append];simp
theorem IH{ls:List (V2×List V2)}(h:∀l∈ls,l.2.length<=100):(flt ls).length<=101*ls.length:=by
 induction ls with
 |nil=>exact aS _
 |cons l ls b=>
  have:=b λ x c=>h x (dz _ c);have e:=h l dR;show(l.1::l.2++flt ls).length<=_;rw[bB,dv,dv];lia
theorem LB(T:∅):aO P w K mg base 1 "bound_ahead" ["term","firsts","bound"] (xA s!"a" K):=by
 walk_at "h O6 M3 3"
 obtain⟨b,l,d,t,rfl,c,g,q⟩:=h;refine⟨_,(aw (bu (PW.pt (oF (qM yu (qO 0) aX) (qp (qM (r:=jT K) (CW hr.units) (ae 1) (bK dO))))) (aC (aY (ae 2))) bL) (aw i8 (aw i8 (aC i8)))),?_⟩;cases c with
 |@mk n i j o f _ _ vs p m u v x y=>
 walk_at "r";exact⟨Ct,i,_,m,T.Term.cl,T.n_Term_form,_,rfl,rfl,ay (λ ω=>q) λ z=>T7 (show f.s≠"let" from by cases f<;>first|exact T7 rfl g|decide+kernel) (λ h=>z λ e=>h (V.str.inj e))⟩
def Ge(H0 H3:Hp)(lp l1 l2:V0)(us:List V)(ls:List (V2×List V2))(σ0:List (Option V)->St)(i:Nat)(σ:St)(H':Hp):Prop:=
 ∃c,af H0 H'/\(∀b o,b≠l1->b≠l2->H3 b=some o->H' b=some o)/\H' lp=some (.lst us)/\H' l1=some (.lst (((ls.take i).map Prod.fst).map V.str))/\H' l2=some (.lst ((flt (ls.take i)).map V.str))/\c.length=2/\σ=σ0 c
theorem JV(T:∅){N:Nat}(g:b_ P w K mg base (N+7) "term_kinds" ["hall","house","term","bound"] (sV s!"a" K aq N))(c:aO P w K mg base 1 "bound_ahead" ["term","firsts","bound"] (xA s!"a" K))(m:b_ P w K mg base 6 "own_kind" ["hall","house","term","bound","parts"] (wo s!"a" K aq))(j:aT P w K mg base 1 Ct "parts" ["self"] (xo Ct K)):b_ P w K mg base (N+8) "term_kinds" ["hall","house","term","bound"] (sV s!"a" K aq (N+1)):=by
 walk_at "x GB rg 4"
 obtain⟨a,d,hv,tv,G,up,own,bs,t,r,rfl,hl,ho,ht,hb,hg,q⟩:=h;refine⟨_,(aw (qG 4 rg.nd (bK dO)) (aw (qG 5 rg.nd (bK dO)) (aw (eZ (yb rfl rfl) rfl (eH (jK (ae 2) T.Term.cl j hr qR)) (qH 6 rg.nd) (aw (qG 7 rg.nd (jJ g hr qR rfl (cg (ae 0) (qK (ae 1) (ae 6) (bq c hr qR rfl (qK (ae 2) (ae 4) (ae 3))))))) (aw (d8 (eE eu fY fX fK (ae 4) (qI (qD K (ae 7) az)))) (aC (d8 (eE eu PySem.F.slot_list_extend PySem.F.type_list_extend Lf (ae 5) (qI (ae 7)))))))) (aC (aY (aB gF (bK (qI (jJ m hr qR rfl (cg (ae 0) (cg (ae 1) (qK (ae 2) (ae 3) (ae 4))))))) (ae 5))))))),?_⟩;walk_at "s 4 z";refine aE.of λ l1 H1 h1 s1 R=>?_;walk_at "n z1";refine aE.of λ l2 H2 h2 S U=>?_;walk_at "n z2";obtain⟨ls,v,hp,X,Y,o,Z,rfl⟩:=hg;have J:=ht;cases ht with
 |@mk ta dx l0 sh f lb ps vs ws t1 t2 t3 t4 t5=>
 have L:=s1.trans S;refine⟨ta,rfl,dx,_,L _ _ t1,rfl,⟨_,_,rfl,J.kp (Kp.of L),λ M us h3 a0=>?_⟩⟩;have u:=bM h3 (.lst us);have e3:ag H2 M (.lst us) M=some (.lst us):=aG;generalize ag H2 M (.lst us)=H3 at*;have f0:=L.trans u;have b0:l1≠l2:=λ z=>by rw[<-z,R]at h2;cases h2
 have g0:M≠l1:=nq (S _ _ R) h3;have h0:M≠l2:=nq U h3;have lu:us.length=ps.length:=cE.length (ts:=ps) a0;have fz:=λ i=>IH (ls:=ls.take i) λ l hl=>Y l (jX hl);refine⟨M,rfl,⟨_,ai.of e3⟩,kA us (Ge H H3 M l1 l2 us ls λ os=>some (V.ref a)::some hv::some (V.ref ta)::some (V.ref d)::some (V.ref l1)::some (V.ref l2)::os) ⟨[none,none],f0,(λ ω ω ω ω h=>h),e3,u _ _ (S _ _ R),u _ _ U,rfl,rfl⟩ (λ i σ H' ω h=>?_) (λ i y σ H' hy h=>?_) (λ σ H' h=>?_)⟩
 ·obtain⟨ω,ω,ω,ep,ω⟩:=h;exact ai.of ep
 ·obtain⟨os,n,sK,ep,el1,el2,O,rfl⟩:=h;obtain⟨o6,o7,rfl⟩:=kT O;obtain⟨p,c0,i0⟩:=cE.at (ts:=ps) a0 hy;have hi:i<ls.length:=by have:=(bG.mp c0).1;rw[v];exact this
  have D:=aV hi;have g1:=hp i p _ c0 D;generalize ls[i]=lk at*;have kJ:Kp H3 H':=⟨λ b xs e=>sK _ _ (nq (u _ _ (S _ _ R)) e) (nq (u _ _ U) e) e,λ b o xs e=>sK _ _ (nq (u _ _ (S _ _ R)) e) (nq (u _ _ U) e) e,λ b C dx f fs e=>sK _ _ (nq (u _ _ (S _ _ R)) e) (nq (u _ _ U) e) e⟩;walk_at "r";refine⟨.ref ta,l1,d,_,rfl,J.kp (Kp.of n),(HD Z),a,d,hv,y,G,up,own,bs,p,_,rfl,hl.same n,ho.same n,(i0.kp (Kp.of u)).kp kJ,hb.same n,g1,λ l5 H5 h5 I e5=>?_⟩;have q1:=I _ _ el1;have q2:=I _ _ el2;have n5:∀{x:V0}{o:HO},H' x=some o->x≠l5:=λ e z=>by rw[z,h5]at e;cases e
  have b1:=fz i;have b2:=Y lk (bN D);have b3:(ls.take i).length<=100:=by rw[cJ,v];exact cb (Nat.min_le_right _ _) X
  refine⟨.inl ⟨rfl,_,ai.of q1⟩,l5,rfl,⟨_,ai.of e5,_,cL,⟨_,q1,by rw[aA,aA];lia,?_⟩⟩⟩;have u2:ag H5 l1 (.lst (((ls.take i).map Prod.fst).map V.str++[V.str lk.1])) l2=some (.lst ((flt (ls.take i)).map V.str)):=by rw[aD b0.symm];exact q2
  have u5:ag H5 l1 (.lst (((ls.take i).map Prod.fst).map V.str++[V.str lk.1])) l5=some (.lst ((lk.1::lk.2).map V.str)):=by rw[aD (n5 el1).symm];exact e5
  have j0:H l1=none:=h1;have k0:H l2=none:=s1.free h2;refine⟨.inl ⟨rfl,_,ai.of u2⟩,l5,rfl,_,u2,_,u5,by rw[aA,aA,dv];lia,[some y,some (V.ref l5)],λ b o e=>?_,λ b o d0 e0 e=>?_,?_,?_,?_,rfl,rfl⟩
  ·rw[aD (nq k0 e),aD (nq j0 e)];exact I _ _ (n _ _ e)
  ·rw[aD e0,aD d0];exact I _ _ (sK _ _ d0 e0 e)
  ·rw[aD h0,aD g0];exact I _ _ ep
  ·rw[aD b0,aG,lZ,D,ew,ew];rfl
  ·rw[aG,JI D,ew]
 ·obtain⟨os,n,sK,ep,el1,el2,O,rfl⟩:=h;obtain⟨o6,o7,rfl⟩:=kT O;have lt:ls.take us.length=ls:=iU (by rw[v,lu];exact aS _);rw[lt]at el1 el2;show uz3 _ _ _;walk_at "n z3";have b1:=fz us.length;rw[lt,v]at b1;have b3:ps.length<=100:=X;refine⟨a,d,l1,hv,.ref ta,G,up,own,bs,_,_,o,rfl,hl.same n,ho.same n,J.kp (Kp.of n),hb.same n,ai.of el1,Z,?_⟩;cases o with
  |inl x=>exact gM.mono q n
  |inr k=>exact λ H4 s4=>aE.of λ p H5 h5 I e5=>⟨_,e5,_,I _ _ (s4 _ _ el2),by rw[aA];show 1+_<=_;lia,aE.of λ p6 H6 h6 s6 e6=>q p6 H6 ((n.trans (s4.trans I)).free h6) (n.trans (s4.trans (I.trans s6))) e6⟩
theorem Ln(T:∅)(b:aO P w K mg base 1 "bound_ahead" ["term","firsts","bound"] (xA s!"a" K))(e:b_ P w K mg base 6 "own_kind" ["hall","house","term","bound","parts"] (wo s!"a" K aq))(c:aT P w K mg base 1 Ct "parts" ["self"] (xo Ct K))(N:Nat):b_ P w K mg base (N+7) "term_kinds" ["hall","house","term","bound"] (sV s!"a" K aq N):=by
 induction N with
 |zero=>
  refine b_.of T.GB rg (λ ω ω ω ω ω ω us hl=>el4 us hl λ ω ω ω ω=>rfl) (λ vs H Q E h=>?_) (λ f cdv A outer s H vs Q E hr h=>?_)
  ·obtain⟨a,d,g,i,G,up,own,bs,t,r,rfl,ω⟩:=h;rfl
  ·obtain⟨a,d,g,i,G,up,own,bs,t,r,rfl,ω,ω,ω,ω,j,ω⟩:=h;exact j.elim
 |succ N m=>exact JV T m b e c
def wu(c:CS)(K:X0)(C:V0):Sp:=λ vs H Q E=>∃(a:V0)(e g:V)(G:Pg)(up:V2->List V2)(X:Hs)(d:Wd)(b:Bool),vs=[.ref a,e,g]/\gw K c H (.ref a) G/\eQ K c H e X/\e_ K c H g d/\jc G up X d b/\d.name.length<=1000/\(if b=true then ∀h,af H h->Q .non h else gM H C d.name E)
def wZ(c:CS)(K:X0)(C:V0):Sp:=λ vs H Q E=>∃(a:V0)(e g:V)(G:Pg)(up:V2->List V2)(own:Option V2)(d:Wd)(r:V2 ⊕ List V2),vs=[.ref a,e,g]/\gw K c H (.ref a) G/\ow K c H e own/\e_ K c H g d/\(d.params.map Prod.fst).Nodup/\iT G up own d r/\Told H C E r λ h=>∀l b,H l=none->af H b->b l=some (.lst (h.map V.str))->Q (.ref l) b
theorem Hx(T:∅)(m:XW P w K mg base "BadKind" aq)(c:aO P w K mg base 1 "kinds_in" ["pairs"] (xN K))(x:aO P w K mg base 2 "fits" ["hall","one","other"] (sR s!"a" K))(j:aT P w K mg base 4 Cl "head" ["self","house","word"] (wm s!"a" K)):b_ P w K mg base 5 "need_like_elders" ["hall","house","word"] (wu s!"a" K aq):=by
 walk_at "x Po ym 3"
 obtain⟨a,hv,wv,G,up,X,d,b,rfl,hl,hX,hd,hk,ln,q⟩:=h;refine⟨_,(aw (bu (qM mG (qO 1) fj) (aC DY) bL) (aw (qG 3 ym.nd (mU (ae 0) T.Hall.cl j hr qR (qJ (qO 1) (qO 2)))) (aw (bu (qM mG (ae 3) fj) (aC DY) bL) (aw (iq (ae 3) (i_ (n:=2) rfl (dA (qH 4 ym.nd) (dA (qH 5 ym.nd) i9)))) (aC (bu (PW.pt (oF (qM (r:=gO K) (qo hr.units) (bq c hr qR rfl (qI (ae 4))) (bq c hr qR rfl (qI (qO 2)))) (qp (ko (i6 (bq x hr qR rfl (qK (ae 0) (qO 2) (ae 5)))))))) (aC (xD m hr qR rfl (qO 2))) bL)))))),?_⟩;cases hX with
 |@mk xa xd xf xw xs _ C x2 x3 x4=>
 cases hd with
 |@mk wa wx wp wb _ J w2 w3=>
 walk_at "s 5 z";cases hk with
 |top e=>
  refine⟨Ch,_,_,C,T.House.cl,T.n_House_elder,_,rfl,?_⟩;rw[e];exact q _ (af.refl _)
 |@non e L D M o N=>
  refine⟨Ch,_,_,C,T.House.cl,T.n_House_elder,_,rfl,?_⟩;rw[D];refine ay (λ z=>by cases z) λ ω=>?_;walk_at "n z1";obtain⟨O,io,dd,R,S,ω,ω,ω⟩:=ju hl;refine⟨O,_,S,rfl,⟨Ch,_,_,C,T.House.cl,T.n_House_elder,_,rfl,⟨Cw,_,_,J,T.Word.cl,T.n_Word_name,_,rfl,a,e,d.name,G,L,_,by rw[D];rfl,hl,M,o,N,λ v H1 I U=>?_⟩⟩⟩;cases U;walk_at "n z2";exact q _ I
 |@som e h L i g D M o N lg ld sg sd ku=>
  refine⟨Ch,_,_,C,T.House.cl,T.n_House_elder,_,rfl,?_⟩;rw[D];refine ay (λ z=>by cases z) λ ω=>?_;walk_at "n z1";obtain⟨O,io,dd,R,S,ω,ω,ω⟩:=ju hl;refine⟨O,_,S,rfl,⟨Ch,_,_,C,T.House.cl,T.n_House_elder,_,rfl,⟨Cw,_,_,J,T.Word.cl,T.n_Word_name,_,rfl,a,e,d.name,G,L,_,by rw[D];rfl,hl,M,o,N,λ v H1 I U=>?_⟩⟩⟩;obtain⟨b,zs,rfl,hz,p⟩:=RT.tup_inv U;obtain⟨v1,a0,rfl,g1,p⟩:=p.inv;obtain⟨v3,r3,rfl,g2,p⟩:=p.inv;cases p.nil_inv;cases g2.str_inv;walk_at "n z2";walk_at "n z3";refine⟨_,hz,rfl,⟨_,_,rfl,⟨_,_,rfl,rfl,?_⟩⟩⟩;walk_at "n z4";refine⟨_,_,rfl,g1,lg,λ l2 H2 h2 Y e2=>⟨Cw,_,_,Y _ _ (I _ _ J),T.Word.cl,T.n_Word_params,_,rfl,_,_,rfl,w2.same (I.trans Y),ld,λ l3 H3 h3 s3 e3=>?_⟩⟩;have u:=I.trans (Y.trans s3);refine⟨_,.lst (ai.of (s3 _ _ e2)) (nX _),_,.lst (ai.of e3) (nX _),(mT sg).shaped qQ,(mT sd).shaped qQ,?_⟩;rw[RG,ya];have y:=u _ _ J;refine ay (λ z=>?_) λ z=>?_
  ·rw[z,pK,T5 qQ]at q;exact⟨Cw,_,_,y,T.Word.cl,T.n_Word_name,_,rfl,_,rfl,ln,q.mono u⟩
  rw[(pv _).mp z,pw]at q;refine⟨Cw,_,_,y,T.Word.cl,T.n_Word_kind,_,rfl,a,_,_,G,up,rfl,hl.same u,ku,λ H4 Z=>⟨_,rfl,ay (λ z2=>?_) λ z2=>?_⟩⟩
  ·rw[z2,T5 qQ]at q;exact⟨Cw,_,_,Z _ _ y,T.Word.cl,T.n_Word_name,_,rfl,_,rfl,ln,q.mono (u.trans Z)⟩
  ·rw[(pv _).mp z2,T6 rfl]at q;exact q _ (u.trans Z)
theorem KC(T:∅)(g:XW P w K mg base "BadKind" aq)(m:aO P w K mg base 2 "fits" ["hall","one","other"] (sR s!"a" K))(c:b_ P w K mg base 9 "term_kinds" ["hall","house","term","bound"] (sV s!"a" K aq 2)):b_ P w K mg base 10 "body_kinds" ["hall","house","word"] (wZ s!"a" K aq):=by
 walk_at "x O4 GG 3"
 obtain⟨a,D,U,G,up,own,d,r,rfl,hl,L,hd,X,Y,q⟩:=h;refine⟨_,(aw (qG 3 GG.nd (jJ c hr qR rfl (cg (ae 0) (qK (ae 1) (qO 2) (d7 (r:=yE K) (L6 rfl) rfl T.yi wO (qI (qO 2))))))) (aw (bu (ko (i6 (bq m hr qR rfl (qK (ae 0) (qD K (ae 3) az) (qO 2))))) (aC (xD g hr qR rfl (qO 2))) bL) (aC (aY (ae 3))))),?_⟩;cases hd with
 |@mk wa wx wp M _ u Z v=>
 walk_at "s 3 z";refine⟨Cw,_,_,u,T.Word.cl,T.n_Word_body,_,rfl,⟨Cw,_,_,u,T.Word.cl,T.n_Word_params,_,rfl,?_⟩⟩;obtain⟨ω,us,e,hq,N⟩:=Z.tup_inv;cases e;have lu:us.length=d.params.length:=by rw[N.length,aA]
 refine⟨_,rfl,us,hq,d.params.map Prod.fst,by rw[lu,aA],d.params.map (λ p=>V.str p.2),λ i t y=>?_,λ o I=>?_⟩
 ·obtain⟨b,t,v1,v2,rfl,y,hz,rfl,rfl⟩:=rp N y;refine⟨b,rfl,?_⟩;rw[c6,a_,y,c6,a_,y];exact hz
 have n:=bM I (.dK (f_ (d.params.map Prod.fst) (d.params.map λ p=>V.str p.2)));have e1:ag H o (.dK (f_ (d.params.map Prod.fst) (d.params.map λ p=>V.str p.2))) o=some _:=aG;generalize ag H o _=H1 at*;have O:oK H1 o d.params:=⟨_,e1,λ x k hx=>by
  obtain⟨i,R⟩:=eS hx;exact xW X (by rw[a_,R];rfl) (by rw[a_,R];rfl)⟩
 have v:=v.kp (Kp.of n);cases Y with
 |bad J=>exact⟨a,o,D,M,G,up,own,d.params,d.body,_,rfl,hl.same n,L.same n,v,O,J,gM.mono q n⟩
 |@ok k ks J ku ln=>
  refine⟨a,o,D,M,G,up,own,d.params,d.body,_,rfl,hl.same n,L.same n,v,O,J,λ l H2 h2 s2 S=>?_⟩;have j:=n.trans s2;walk_at "n z1";refine⟨_,ai.of S,_,cL,⟨Cw,_,_,j _ _ u,T.Word.cl,T.n_Word_kind,_,rfl,a,_,_,G,up,rfl,hl.same j,ku,λ H3 C=>⟨_,rfl,ay (λ z=>?_) λ z=>?_⟩⟩⟩
  ·rw[T5 (by rw[z];decide)]at q;exact⟨Cw,_,_,C _ _ (j _ _ u),T.Word.cl,T.n_Word_name,_,rfl,_,rfl,ln,gM.mono q (j.trans C)⟩
  ·rw[T6 ((pv _).mp z)]at q;walk_at "n z2";exact q l H3 (n.free h2) (j.trans C) (C _ _ S)
def kM(l:V0)(H H':Hp)(v:V)(ks:List V2):Prop:=∃a,v=.ref a/\H a=none/\a≠l/\aZ H' a ks
def xP(c:CS)(K:X0)(C:V0):Sp:=λ vs H Q E=>∃(e:V)(G:Pg)(up:V2->List V2)(r:V2 ⊕ List (List V2)),vs=[e]/\iP K c H e G/\lL G/\G.houses.length<=100/\(∀X∈G.houses,∀d∈X.words,(d.params.map Prod.fst).Nodup/\d.name.length<=1000)/\(G.main.params.map Prod.fst).Nodup/\d9 G up G.houses [] r/\iT G up none G.main (.inr ["number"])/\
 Told H C E r λ g=>∀l us a b,H l=none->af H b->b l=some (.lst (us++[.ref a]))->A2 (kM l H b) us g->H a=none->aZ b a ["number"]->V.ref a∉us->Q (.ref l) b
theorem JL{up:V2->List V2}{X:Hs}{c:List Hs}{ks:List (List V2)}{r:V2 ⊕ List (List V2)}(h:d9 G up (X::c) ks r):∃rw,eK G up X X.words ks rw/\(∀x,rw=.inl x->r=.inl x)/\∀b,rw=.inr b->d9 G up c b r:=by
 cases h with
 |bad h=>exact⟨_,h,λ ω e=>by cases e;rfl,λ ω e=>(nomatch e)⟩
 |ok h g=>exact⟨_,h,λ ω e=>(nomatch e),λ ω e=>by cases e;exact g⟩
theorem kM.put{l:V0}{b:Hp}{ks:List (List V2)}(h:A2 (kM l H H') us ks)(s:af H' b):A2 (kM l H (ag b l o)) us ks:=h.mono λ v k ⟨a,e,n,c,z⟩=>⟨a,e,n,c,by show ag b l o a=_;rw[aD c];exact s _ _ z⟩
def GS(G:Pg)(up:V2->List V2)(r:V2 ⊕ List (List V2))(H H2:Hp)(l:V0)(σ0:List (Option V)->St)(i:Nat)(σ:St)(H':Hp):Prop:=
 ∃us b c,af H2 H'/\H' l=some (.lst us)/\A2 (kM l H H') us b/\us.length<=100*i/\d9 G up (G.houses.drop i) b r/\c.length=2/\σ=σ0 c
def BX(G:Pg)(up:V2->List V2)(X:Hs)(r:V2 ⊕ List (List V2))(H H2:Hp)(l:V0)(n:Nat)(σ0:Option V->St)(i:Nat)(σ:St)(H':Hp):Prop:=
 ∃us b o,af H2 H'/\H' l=some (.lst us)/\A2 (kM l H H') us b/\us.length<=n+i/\eK G up X (X.words.drop i) b r/\σ=σ0 o
theorem My(T:∅)(m:aT P w K mg base 1 Cl "__init__" ["self","program"] (Ei s!"a" K))(c:b_ P w K mg base 5 "need_like_elders" ["hall","house","word"] (wu s!"a" K aq))(g:b_ P w K mg base 10 "body_kinds" ["hall","house","word"] (wZ s!"a" K aq)):b_ P w K mg base 11 "kinds_of" ["program"] (xP s!"a" K aq):=by
 walk_at "x Pl uP 1"
 obtain⟨pp,G,up,r,rfl,hp,c0,lh,hw,i0,d0,j0,q⟩:=h;refine⟨_,(aw (qG 1 uP.nd (qj T.Hall m hr qR rfl (qI (ae 0)))) (aw (qG 2 uP.nd (bK dO)) (aw (eZ (yb rfl rfl) rfl (eY (qO 0)) (qH 3 uP.nd) (aC (eZ (yb rfl rfl) rfl (eY (qO 3)) (qH 4 uP.nd) (aw (d8 (jJ c hr qR rfl (qK (ae 1) (ae 3) (ae 4)))) (aC (d8 (eE eu fY fX fK (ae 2) (qI (jJ g hr qR rfl (qK (ae 1) (ae 3) (ae 4))))))))))) (aw (d8 (eE eu fY fX fK (ae 2) (qI (jJ g hr qR rfl (qK (ae 1) fj (qO 0)))))) (aC (aY (ae 2))))))),?_⟩;walk_at "s 5 z";intro x dx hx k0 ne;have s1:=tQ (C:=Cl) hx k0 ne;refine⟨x,dx,pp,G,rfl,aG,hp.same s1,c0,lh,λ H2 l0 U ω=>⟨rfl,?_⟩⟩;have D:af H H2:=gZ s1 l0 hx;walk_at "n z1";refine aE.of λ l H3 h3 s3 e3=>?_;have hp:=hp;cases hp with
 |@mk pa pd ht e0 mv _ p1 p2 p3 p4=>
 walk_at "n z2";have f0:H l=none:=D.free h3;refine⟨Cp,_,_,s3 _ _ (D _ _ p1),T.Program.cl,T.n_Program_all_houses,_,rfl,_,rfl,⟨_,ao.same p2 (D.trans s3)⟩,?_⟩;refine mS e0 (GS G up r H H2 l λ os=>some (V.ref pa)::some (V.ref x)::some (V.ref l)::os) ⟨[],[],[none,none],s3,e3,.nil,bJ _,d0,rfl,rfl⟩ (λ i σ H' ω hI=>?_) (λ i y σ H' hy hI=>?_) (λ σ H' hI=>?_)
 ·obtain⟨us,L,os,M,ω⟩:=hI;exact ao.same p2 (D.trans M)
 ·obtain⟨us,L,os,M,u,N,Y,hR,Z,rfl⟩:=hI;obtain⟨o3,o4,rfl⟩:=kT Z;obtain⟨X,I,hX⟩:=p3.at hy;have g0:=bN I;rw[jj (bG.mp I).1,(bG.mp I).2]at hR;obtain⟨a0,n,hB,hO⟩:=JL hR;have hX:=hX.same D;have h0:=hX;cases hX with
  |@mk O xd xf xw xs _ x1 x2 x3 x4=>
  walk_at "r";refine⟨Ch,_,_,M _ _ x1,T.House.cl,T.n_House_own_words,_,rfl,_,rfl,⟨_,ao.same x3 M⟩,?_⟩;have m0:=c0.hs X g0;have lx:xs.length=X.words.length:=x4.len;have lw:=m0.wl;refine mS xs (BX G up X a0 H H2 l (100*i) λ o=>[some (V.ref pa),some (V.ref x),some (V.ref l),some (V.ref O),o]) ⟨us,L,o4,M,u,N,qR,n,rfl⟩ (λ j σ H4 ω hJ=>?_) (λ j y2 σ H4 n0 hJ=>?_) (λ σ H4 hJ=>?_)
  ·obtain⟨ω,ω,ω,J,ω⟩:=hJ;exact ao.same x3 J
  ·obtain⟨us,L,o4,J,u,N,Y,n,rfl⟩:=hJ;obtain⟨d,b0,hd⟩:=x4.at n0;have o0:=bN b0;obtain⟨nd,ln⟩:=hw X g0 d o0;have hj:=(bG.mp b0).1;have r0:=(bG.mp I).1;rw[jj hj,(bG.mp b0).2]at n;have bad:∀b,jc G up X d b->(b=false->r=.inl d.name)->(b=true->∃r2,iT G up (some X.name) d r2/\(∀z,r2=.inl z->r=.inl z)/\∀k,r2=.inr k->eK G up X (X.words.drop (j+1)) (L++[k]) a0)->wu s!"a" K aq [V.ref x,V.ref O,y2] H4 (λ ω H5=>nv K "list" (V.ref l) H5/\wZ s!"a" K aq [V.ref x,V.ref O,y2] H5 (λ v H6=>∃vs,H6 l=some (.lst vs)/\vs.length<16777216/\BX G up X a0 H H2 l (100*i) (λ o=>[some (V.ref pa),some (V.ref x),some (V.ref l),some (V.ref O),o]) (j+1) [some (V.ref pa),some (V.ref x),some (V.ref l),some (V.ref O),some y2] (ag H6 l (.lst (vs++[v])))) E) E:=by
    intro b R p0 q0;refine⟨x,.ref O,y2,G,up,X,d,b,rfl,U.same J,h0.same J,hd.same J,R,ln,?_⟩;cases b with
    |false=>
     rw[p0 rfl]at q;exact gM.mono q (D.trans J)
    |true=>
     intro H5 s5;obtain⟨r2,h2,hi,ho⟩:=q0 rfl;have p:=J.trans s5;refine⟨.inl ⟨rfl,_,ai.of (s5 _ _ u)⟩,x,.ref O,y2,G,up,some X.name,d,r2,rfl,U.same p,.inr ⟨X,rfl,h0.same p⟩,hd.same p,nd,h2,?_⟩;cases r2 with
     |inl z=>
      rw[hi z rfl]at q;exact gM.mono q (D.trans p)
     |inr k=>
      intro S H6 h6 s6 e6;have e5:=s6 _ _ (s5 _ _ u);have nl:S≠l:=nq (s5 _ _ u) h6;refine⟨us,e5,qR,us++[.ref S],L++[k],some y2,g7 (p.trans s6) h3,aG,(kM.put N (s5.trans s6)).snoc ⟨S,rfl,D.free (p.free h6),nl,?_⟩,by rw[bB,jD];lia,ho k rfl,rfl⟩;show ag H6 l _ S=_;rw[aD nl];exact e6
   walk_at "r";cases n with
   |bad hw=>
    cases hw with
    |bad R _=>exact bad _ R (λ ω=>hB _ rfl) λ z=>nomatch z
    |ok R hb=>exact bad _ R (λ z=>nomatch z) λ ω=>⟨_,hb,λ ω e=>by cases e;exact hB _ rfl,λ ω e=>nomatch e⟩
   |ok hw n=>
    generalize hz:Sum.inr _=z at hw;cases hw with
    |bad R _=>cases hz
    |ok R hb=>exact bad _ R (λ z=>nomatch z) λ ω=>⟨_,hb,λ ω e=>(nomatch hz.trans e),λ ω e=>by cases hz.trans e;exact n⟩
  ·obtain⟨us,L,o4,J,u,N,Y,n,rfl⟩:=hJ;rw[lx,jV]at n;cases n;exact⟨us,L,[some (V.ref O),o4],J,u,N,qR,hO _ rfl,rfl,rfl⟩
 ·obtain⟨us,L,os,M,u,N,Y,hR,Z,rfl⟩:=hI;obtain⟨o3,o4,rfl⟩:=kT Z;show uz3 _ _ _;walk_at "n z3";have pQ:e0.length=G.houses.length:=p3.len;rw[pQ,jV]at hR;cases hR;have S3:=D.trans M;refine⟨.inl ⟨rfl,_,ai.of u⟩,⟨Cp,_,_,S3 _ _ p1,T.Program.cl,T.n_Program_main,_,rfl,x,.non,mv,G,up,none,G.main,_,rfl,U.same M,.inl ⟨rfl,rfl⟩,p4.same S3,i0,j0,λ S H6 h6 s6 e6=>⟨us,s6 _ _ u,qR,?_⟩⟩⟩;have nl:S≠l:=nq u h6;walk_at "n z4";refine q l us S _ f0 (g7 (S3.trans s6) f0) aG (kM.put N s6) (S3.free h6) (by show ag H6 l _ S=_;rw[aD nl];exact e6) λ hm=>?_;obtain⟨i,hi⟩:=eS hm;obtain⟨k,ω,b,eb,ω,ω,hb⟩:=N.at hi;cases eb;rw[hb]at h6;cases h6
structure KG(G:Pg)(r:V2 ⊕ List (List V2)):Prop where
 gok:lL G
 lh:G.houses.length<=100
 hw:∀X∈G.houses,∀d∈X.words,(d.params.map Prod.fst).Nodup/\d.name.length<=1000
 mn:(G.main.params.map Prod.fst).Nodup
 run:∃up,d9 G up G.houses [] r/\iT G up none G.main (.inr ["number"])
def GR(H:Hp)(ks:List (List V2))(Q:VK):Prop:=∀l us a b,H l=none->af H b->b l=some (.lst (us++[.ref a]))->A2 (kM l H b) us ks->H a=none->aZ b a ["number"]->V.ref a∉us->Q (.ref l) b
structure EE(K:X0)(mg:V2->Option V1)(Hc ck:V0):Prop where
 mH:mg "HouseError"=some (.ref Hc)
 xH:iB K Hc none=true
 sub:S_ K ck (.ref Hc)=some true
 words:∃a,mg "BadWords"=some (.ref a)/\QN K (.ref ck) (.ref a)=some false
 name:∃a,mg "BadName"=some (.ref a)/\QN K (.ref ck) (.ref a)=some false
 form:∃a,mg "BadForm"=some (.ref a)/\QN K (.ref ck) (.ref a)=some false
 inp:∃a,mg "BadInput"=some (.ref a)/\QN K (.ref ck) (.ref a)=some false
 val:mg "ValueError"=none/\QN K (.ref ck) (.type "ValueError")=some true
theorem FD:Qv "ValueError"=some (.type "ValueError"):=by decide+kernel
theorem JY{K:X0}{C:V0}:QN K (.ref C) (.ref C)=some true:=by unfold QN;rw[T6 (beq_self_eq_true _)]
theorem rn{X:Cx}{x:V2}{a:V0}{b:Pos}(c:Gl X x)(e:X.mg x=some (.ref a))(hd:s!"p"=false:=by decide):PE X (.Name x b) (tC (.ref a)):=DM (v:=.ref a) c e rfl hd
inductive AF(c:CS)(K:X0)(vs:List V)(H:Hp)(Q:VK):Prop
 |mk(pp:V)(G:Pg)(ks:List (List V2))(a1:vs=[pp])(a2:iP K c H pp G)(a3:KG G (.inr ks))(a4:GR H ks Q):AF c K vs H Q
def Ar(c:CS)(K:X0):Sp:=λ vs H Q ω=>AF c K vs H Q
inductive DS(c:CS)(K:X0)(vs:List V)(H:Hp)(Q:VK):Prop
 |mk(pp:V)(G:Pg)(x:V2)(a1:vs=[pp,.str x])(a2:iP K c H pp G)(a3:KG G (.inl x))(a4:∀H',af H H'->Q (.bl true) H'):DS c K vs H Q
def DO(c:CS)(K:X0):Sp:=λ vs H Q ω=>DS c K vs H Q
theorem LJ(T:∅)(b:b_ P w K mg base 11 "kinds_of" ["program"] (xP s!"a" K aq)):aO P w K mg base 12 "_law_kinds" ["_law_program"] (Ar s!"a" K):=by
 obtain⟨fr,i,j,m,n,o⟩:=b.ex;refine aO.of T.Gr Fs (λ ω ω ω ω ω ω us hl=>el1 us hl λ ω=>rfl) (λ vs H Q E h=>?_) (λ f cdv A outer s H vs Q E hr h=>?_)
 ·obtain⟨c,G,e,rfl,ω⟩:=h;rfl
 obtain⟨c,G,e,rfl,p,g,q⟩:=h;obtain⟨up,r,u⟩:=g.run;refine⟨_,(aC (HH (λ l v=>aC (aY (zw (E:=v) j (hr.mono qR) rfl o n m (qI (ae 0))))))),?_⟩;walk_at "r";exact⟨c,G,up,.inr e,rfl,p,g.gok,g.lh,g.hw,g.mn,r,u,q⟩
theorem IF(T:∅){N:V0}(X:EE K mg N aq)(XK:XW P w K mg base "BadKind" aq)(b:b_ P w K mg base 11 "kinds_of" ["program"] (xP s!"a" K aq)):aO P w K mg base 12 "_law_refused" ["_law_program","_law_due_here"] (DO s!"a" K):=by
 obtain⟨fr,O,R,S,U,Y⟩:=b.ex;obtain⟨aW,Z,kW⟩:=X.words;obtain⟨aN,mN,kN⟩:=X.name;obtain⟨aF,mF,kF⟩:=X.form;obtain⟨aI,mI,kI⟩:=X.inp;obtain⟨mV,kV⟩:=X.val;have mK:=XK.mgC;obtain⟨fi,ω,xB,ω⟩:=XK.ini;refine aO.of T.Gy yj (λ ω ω ω ω ω ω us hl=>el2 us hl λ ω ω=>rfl) (λ vs H Q E h=>?_) (λ f cdv A outer s H vs Q E hr h=>?_)
 ·obtain⟨o,G,x,rfl,ω⟩:=h;rfl
 obtain⟨o,G,x,rfl,hp,g,q⟩:=h;obtain⟨up,h1,I⟩:=g.run;refine⟨_,(aw (Hg (i:=2) rfl rfl X.xH rfl X.mH yj.nd rfl rfl (λ l E'=>aC (d8 (zw (E:=E') R (hr.mono qR) rfl Y U S (qI (ae 0))))) (λ a=>aw (qG 3 yj.nd (bK (cg (gI (r:=kU K) om rfl T.jO jM (qJ (ae 2) (rn rfl mF))) (qK (gI (r:=kU K) om rfl T.jO jM (qJ (ae 2) (rn rfl mN))) (gI (r:=kU K) om rfl T.jO jM (qJ (ae 2) (rn rfl mI))) (gI (r:=kU K) om rfl T.jO jM (qJ (ae 2) (rn rfl Z))))))) (aC (aY (mJ (gI (r:=kU K) om rfl T.jO jM (qJ (ae 2) (rn rfl mK))) (mJ (gI (r:=kU K) om rfl T.jO jM (qJ (ae 2) (qr (v:=.ty "ValueError") rfl mV FD rfl))) (mJ (ja (r:=jU K) (CL hr.units) (ae 3) (aB yH (bK (qI jG)) az) (kr _)) (qi (ja cM (IY (ae 2) rfl) (ae 1) (kr _)))))))))) (aC (aY jG))),?_⟩;refine⟨λ σ cl m n=>cl=.ref aq/\(∃J L,σ=[some o,some (.str x),J,L])/\∃(j:V0),m=some j/\af H n/\n j=some (.xd [("word",.str x)]),?_,?_⟩
 ·walk_at "r";refine⟨o,G,up,.inl x,rfl,hp,g.gok,g.lh,g.hw,g.mn,h1,I,λ n j u m=>⟨rfl,⟨_,rfl⟩,j,rfl,u,m⟩⟩
 ·rintro a0 a C m n hl ⟨ec,⟨J,L,rfl⟩,j,rfl,u,hd⟩ c;obtain rfl:C=aq:=by injection ec
  refine⟨⟨_,xB⟩,X.sub,?_⟩;walk_at "r";refine⟨_,rfl,_,_,c,_,hd,XK.cls,_,kF,_,rfl,_,_,c,_,hd,XK.cls,_,kN,_,rfl,_,_,c,_,hd,XK.cls,_,kI,_,rfl,_,_,c,_,hd,XK.cls,_,kW,aE.of λ p H2 I y e2=>?_⟩;have c:=y _ _ c;have hd:=y _ _ hd;refine⟨_,rfl,_,_,c,_,hd,XK.cls,_,JY,?_⟩;refine ay (λ ω=>?_) λ z=>T7 rfl z;refine⟨_,rfl,_,_,c,_,hd,XK.cls,_,kV,ay (λ ω=>aE.of λ p3 M h3 s3 e3=>⟨_,e3,qQ,λ D h4=>?_⟩) λ z=>T7 rfl z⟩;have s4:=bM h4 (.lst [[V.bl false],[V.bl false],[V.bl false],[V.bl false]].flatten);have e4:ag M D (.lst [[V.bl false],[V.bl false],[V.bl false],[V.bl false]].flatten) D=some (.lst [V.bl false,V.bl false,V.bl false,V.bl false]):=aG;generalize ag M D (.lst [[V.bl false],[V.bl false],[V.bl false],[V.bl false]].flatten)=H4 at*;have e:=s3.trans s4;refine⟨.list [.bool false,.bool false,.bool false,.bool false],.lst (ai.of (e _ _ e2)) (.cons (.bl _) (.cons (.bl _) (.cons (.bl _) (.cons (.bl _) .nil)))),.list [.bool false,.bool false,.bool false,.bool false],.lst (ai.of e4) (.cons (.bl _) (.cons (.bl _) (.cons (.bl _) (.cons (.bl _) .nil)))),qQ,qQ,ay (λ ω=>?_) λ z=>T7 rfl z⟩;refine⟨_,_,e _ _ c,_,e _ _ hd,XK.cls,XK.no,_,rfl,rfl,?_⟩;rw[T9 rfl];exact q _ (u.trans (y.trans e))
inductive Ek(K:X0)(vs:List V)(H:Hp)(Q:VK):Prop
 |mk(hv ov:V)(n:Nat)(pl l nl:V0)(h g:Hd)(us:List V)(rs:List Rw)(up:V2->List V2)(pool ns:List V2)(a1:vs=[hv,ov,.int (n:Int),.ref pl,.ref l,.ref nl])(a2:RT K H hv (gE h))(a3:rH H ov (some g))(a4:g.2.1.length<=4)(a5:bX ns g.2.2)(a6:(∀k∈aJ g.2.1,bX ns k))(a7:aZ H pl pool)(a8:pool.length=26)(a9:pool.Nodup)(a10:m7 K H l us rs)(a11:dh rs up)(a12:aZ H nl ns)(a13:ns.length<=12)(a14:∀v ps k H',af H H'->RT K H' v (gE (h.1,ps,k))->fW pool [] ns ps->bX ns k->Q v H'):Ek K vs H Q
def zG(K:X0):Sp:=λ vs H Q ω=>Ek K vs H Q
theorem AO(ns:List V2)(p:V->Bool):∃b:List V2,(ns.map V.str).filter p=b.map V.str/\(∀z∈b,z∈ns)/\b.length<=ns.length:=
 ⟨ns.filter (p∘V.str),List.filter_map,λ ω h=>(pL.mp h).1,vJ _ _⟩
theorem Cu{ns:List V2}{k:V2}(h:k∈ns):bX ns k:=dY _ h
theorem DJ{xs:List V2}{lo hi:Option Int}:∃ys:List V2,bP (xs.map V.str) lo hi=ys.map V.str/\(∀y∈ys,y∈xs)/\ys.length<=xs.length/\(lo=none->hi=some 4->ys.length<=4):=by
 unfold bP;rw[<-List.map_drop,<-nz];refine⟨_,rfl,λ y h=>vE (jX h),by rw[cJ,gA];lia,λ e b=>?_⟩;subst e b;rw[cJ,aA];refine cb (Nat.min_le_left _ _) (cb (Nat.sub_le _ _) ?_);show HT.bf _ _ _<=4;unfold HT.bf;simp;lia
theorem pZ{t:TT}{b r:TS}{g:St}(i:Prop)(h:∀j:Bool->Hp->Prop,(∀c H',af H H'->(c=true->i)->j c H')->t g H j)(m:∀H',af H H'->i->b D g H')(n:∀H',af H H'->r D g H'):jg t b r D g H:=
 h _ λ c H' s e=>ay (λ z=>m H' s (e z)) λ ω=>n H' s
theorem wL{ks:List V2}(h:0<ks.length)(m:Nat){L:Int}(e:L=(ks.length:Nat)):∃k∈ks,c7 (ks.map V.str) ((m:Int)%L)=some (.str k):=by
 have lt:=fQ m h;refine⟨ks[m%ks.length],gQ _,?_⟩;rw[e,<-Int.natCast_emod];exact eI (by rw[a_,aV lt];rfl)
theorem Jk(T:∅)(BP:aO P w K mg base 2 "_law_fit" ["_law_rows_here","_law_one","_law_other"] (wQ K)):aO P w K mg base 3 "_law_other_head" ["_law_head","_law_old","_law_number","_law_pool","_law_rows_here","_law_names"] (zG K):=by
  refine aO.of T.GF jP (λ ω ω ω ω ω ω us hl=>el6 us hl λ ω ω ω ω ω ω=>rfl) (λ vs H Q E h=>?_) (λ f cdv A outer s H vs Q E hr h=>?_)
  · obtain⟨hv,ov,n,pl,l,nl,h,g,us,rs,up,pool,ns,rfl,ω⟩:=h;rfl
  obtain⟨hv,ov,n,pl,l,nl,h,g,us,rs,up,pool,ns,rfl,rh,ro,lg,kg,ksg,hpl,h26,ndp,hA,u,hnl,ln,q⟩:=h;refine⟨_,(aw (jH (i:=6) jP.nd rfl (Or.inr rfl) (d7 qX rfl T.lJ mL (qI (qA K 1)))) (aw (qG 7 jP.nd (aB gF (n9 rfl (ak.of (N:=["_law_name_here","_law_old","_law_rows_here"]) (nl:=[none,some 1,some 4]) (cl:=[("_law_rows_here",s.heap.objs.size+4),("_law_old",s.heap.objs.size+1)]) rfl qP qP rfl (iC rfl rfl) (nm:=["_law_rows_here","_law_old"]) rfl qP rfl (λ i hi j hj=>by
            match i,hi with
            | 0,_=>cases hj
             |1,_=>cases hj;exact s!"e"
             |2,_=>cases hj;exact s!"e"
            )) (eH (ae 5)) (λ C fp s H=>(qH 0 (show(["_law_name_here","_law_old","_law_rows_here"]:List V2).Nodup by decide+kernel))) (λ C fp s H=>(i6 (bq BP hr qR rfl (qK (ae 2) (ae 0) (qA K 1))))) (λ C fp s H=>(ae 0))) (bK (qI (qA K 1))))) (aw (qG 8 jP.nd (qD K (ae 7) (aB cc (aB ee (ae 2) az) (qL T.z_len (qI (ae 7)))))) (aw (qG 9 jP.nd (aB ee (aB ee (ae 2) az) az)) (aw (qG 10 jP.nd (qD K (aB gF (bK (qJ aX aX)) (ae 5)) (aB cc (aB ee (ae 9) az) (aB cU az (qL T.z_len (qI (ae 5))))))) (aw (bu (PW.pt (kZ (qM cM (aB cc (ae 2) az) az) (mQ (qM cM (aB cc (ae 9) az) az)))) (aC (jH (i:=6) jP.nd rfl (Or.inr rfl) (g8 (r:=fq K) lr (aB gF (ae 6) (bK (qI (ae 10)))) gX (gY az)))) (aC (bu (PW.pt (kZ (qM cM (aB cc (ae 2) az) az) (mQ (qM cM (aB cc (ae 9) az) az)))) (aC (jH (i:=6) jP.nd rfl (Or.inr rfl) (g8 (r:=fq K) lr (ae 6) gX (gY qN)))) (aC (bu (PW.pt (kZ (qM cM (aB cc (ae 2) az) az) (kZ (qM cM (aB cc (ae 9) az) az) (mQ (qM (r:=ji K) (yP hr.units) (ae 6) (bK dO)))))) (aC (iq (ae 10) (mD (ae 6) (aB cc (aB ee (ae 9) az) (qL T.z_len (qI (ae 6)))) mR))) (aC (bu (PW.pt (kZ (qM cM (aB cc (ae 2) az) az) (mQ (qM cM (aB cc (ae 9) az) az)))) (aC (d8 (yO eu PySem.F.slot_list_reverse PySem.F.type_list_reverse MJ (ae 6)))) (aC (bu (qM cM (aB cc (ae 2) az) az) (aw (qG 11 jP.nd (aB gF (n9 rfl (ak.of (N:=["_law_name_here","_law_old","_law_rows_here"]) (nl:=[none,some 1,some 4]) (cl:=[("_law_rows_here",s.heap.objs.size+4),("_law_old",s.heap.objs.size+1)]) rfl qP qP rfl (iC rfl rfl) (nm:=["_law_rows_here","_law_old"]) rfl qP rfl (λ i hi j hj=>by
            match i,hi with
            | 0,_=>cases hj
             |1,_=>cases hj;exact s!"e"
             |2,_=>cases hj;exact s!"e"
            )) (eH (ae 5)) (λ C fp s H=>(qH 0 (show(["_law_name_here","_law_old","_law_rows_here"]:List V2).Nodup by decide+kernel))) (λ C fp s H=>(i6 (bq BP hr qR rfl (qK (ae 2) (qA K 1) (ae 0))))) (λ C fp s H=>(ae 0))) (bK (qI (ae 10))))) (aC (qG 8 jP.nd (qD K (ae 11) (aB cc (aB ee (ae 9) az) (qL T.z_len (qI (ae 11)))))))) bL))))))))) (aC (aY (bz (qK (qA K 0) (d7 gG rfl T.gK gH (qI (eF rfl (ak.of (N:=["_law_k","_law_kinds_here","_law_number","_law_pool"]) (nl:=[none,some 6,some 2,some 3]) (cl:=[("_law_pool",s.heap.objs.size+3),("_law_number",s.heap.objs.size+2),("_law_kinds_here",s.heap.objs.size+5)]) rfl qP qP rfl (oZ rfl rfl rfl) (nm:=["_law_pool","_law_number","_law_kinds_here"]) rfl qP rfl (λ i hi j hj=>by
            match i,hi with
            | 0,_=>cases hj
             |1,_=>cases hj;exact s!"e"
             |2,_=>cases hj;exact s!"e"
             |3,_=>cases hj;exact s!"e"
            )) (iM rfl T.hH (qI (qL T.z_len (qI (ae 6))))) (λ C fp s H=>(qH 0 (show(["_law_k","_law_kinds_here","_law_number","_law_pool"]:List V2).Nodup by decide+kernel))) (λ C fp s H=>(bz (qJ (qD K (ae 3) (aB cc (aB cU (aB ee (ae 2) az) (aB gW az (ae 0))) az)) (qD K (ae 1) (ae 0)))))))) (ae 8))))))))))),?_⟩
  cases ro with
  |@som t kl _ o1 o2=>
  walk_at "s 7 z";refine⟨_,ao.of o1,_,cL,_,rfl,_,.inl (ai.of o2),λ kh hkh=>?_⟩;have s1:=bM hkh (.lst ((aJ g.2.1).map V.str));have e1:ag H kh (.lst ((aJ g.2.1).map V.str)) kh=some _:=aG;generalize ag H kh _=H1 at*;walk_at "n z1";refine⟨⟨_,ai.of (s1 _ _ hnl)⟩,λ D hD=>?_⟩;refine xM (ys:=ns.map V.str) none [some (V.ref t),some (V.ref l)] (λ v=>match v with| .str x=>dc up x g.2.2|_=>false) rfl hD (by rw[aA,Qk];lia) (λ H2 s=>ai.of (s _ _ (s1 _ _ hnl))) (λ y hy H2 K' s2 kk=>?_) (λ H2 s2 hD2=>?_)
  · obtain⟨x,hx,rfl⟩:=bE.mp hy;walk_at "r";have s12:=s1.trans s2;exact⟨_,ao.of (s12 _ _ o1),_,eB,l,us,rs,x,g.2.2,up,rfl,hA.same s12,u,λ H3 s3=>⟨_,rfl,kk _ s3⟩⟩
  have s12:=s1.trans s2;obtain⟨zs,ez,hz,lz⟩:=AO ns (λ v=>match v with|V.str x=>dc up x g.2.2|_=>false);rw[ez]at hD2;refine⟨_,ao.of (s12 _ _ o1),_,eB,aE.of λ p3 H3 h3 s3 e3=>⟨_,rfl,_,s3 _ _ hD2,_,e3,by rw[aA];show _+1<=_;lia,aE.of λ fl H4 h4 s4 e4=>?_⟩⟩;have S4:=s12.trans (s3.trans s4);have e4:H4 fl=some (.lst ((zs++[g.2.2]).map V.str)):=by rw[e4,ew];rfl
  have kz:∀k∈zs++[g.2.2],bX ns k:=λ k hk=>by
    rcases dy.mp hk with h|h
    · exact Cu (hz k h)
    · cases cu.mp h;exact kg
  have lz1:0<(zs++[g.2.2]).length:=by rw[bB];exact Nat.succ_pos _
  generalize zs++[g.2.2]=ks at*;walk_at "n z2";obtain⟨k0,hk0,ek0⟩:=wL lz1 (n/9) (L:=((ks.map V.str).length:Nat)) (by rw[aA]);refine⟨_,.inl (ai.of e4),by rw[aA];lia,⟨_,ai.of e4,_,ek0,?_⟩⟩;walk_at "n z3";walk_at "n z4";refine aE.of λ p5 H5 h5 s5 e5=>⟨_,e5,_,s5 _ _ (S4 _ _ hnl),by rw[aA];show 2+_<=_;lia,aE.of λ p6 H6 h6 s6 e6=>⟨_,.inl (ai.of (s6 _ _ (s5 _ _ (S4 _ _ hnl)))),?_⟩⟩;have S6:=S4.trans (s5.trans s6);have e6:H6 p6=some (.lst (([("number":V2),"truth"]++ns).map V.str)):=e6;obtain⟨k1,hk1,ek1⟩:=wL (ks:=[("number":V2),"truth"]++ns) s!"n" (n/9/13/5) (L:=2+((ns.map V.str).length:Nat)) (by rw[aA,bB];rfl);have kk1:bX ns k1:=nM _ hk1;refine⟨qR,⟨_,ai.of e6,_,ek1,?_⟩⟩;have fin:∀(kh2:V0)(ks2:List V2)(k2:V2)(o:Option V)(H7:Hp),af H H7->H7 kh2=some (.lst (ks2.map V.str))->ks2.length<=4->(∀k∈ks2,bX ns k)->bX ns k2->uz6 {nx:=λ x H'=>Q V.non H',rt:=Q} [some hv,some (V.ref t),some (V.int n),some (V.ref pl),some (V.ref l),some (V.ref nl),some (V.ref kh2),some (V.ref fl),some (V.str k2),some (V.int ((n:Int)/9/13)),some (V.str k1),o] H7:=by
    intro kh2 ks2 k2 o H7 s7 e7 l7 hk7 hk2;obtain⟨hb,pvF',rfl,b1,b2⟩:=nU (rh.same s7);walk_at "n z6";have lp4:((ks2.map V.str).length:Int).toNat=ks2.length:=by rw[aA];rfl
    refine⟨_,b1,_,cL,_,.inl (ai.of e7),qR,by rw[aA];lia,λ D hD=>?_⟩;rw[lp4];refine qy (n:=ks2.length) none [some (.ref kh2),some (.int n),some (.ref pl)] (λ j v H=>∃p:V2×V2,RT K H v (.tuple [.str p.1,.str p.2])/\pool[((n/3+3*(j:Int))%26).toNat]?=some p.1/\ks2[j]?=some p.2) (λ j v H1 H2 ⟨p,b,c⟩ s=>⟨p,b.kp (iZ s),c⟩) rfl hD (by rw[Qk];lia) (λ i hi H8 K' s8 kk=>?_) (λ vs H8 s8 hD8 lvs hR=>?_)
    · walk_at "r";obtain⟨x,hx,hx26⟩:∃x:Nat,((n:Int)/3+3*(i:Int))%26=(x:Int)/\x<26:=⟨(((n:Int)/3+3*(i:Int))%26).toNat,qR,qR⟩;rw[hx];have hxl:x<pool.length:=by lia
      refine⟨_,ai.of (s8 _ _ (s7 _ _ hpl)),_,k_ hxl,⟨_,ai.of (s8 _ _ e7),_,k_ hi,aE.of λ p9 H9 h9 s9 e9=>kk _ _ s9 ⟨(pool[x],ks2[i]),.tup (ao.of e9) (.cons (.str _) (.cons (.str _) .nil)),by rw[hx,gf];exact aV hxl,aV hi⟩⟩⟩
    obtain⟨fs,lfs,rfs,hfs⟩:=yB (K:=K) (H:=H8) (vs:=vs) (o:=0) (F:=λ j p=>pool[((n/3+3*(j:Int))%26).toNat]?=some p.1/\ks2[j]?=some p.2) λ j v hj=>by rw[nA];exact hR j v hj
    have hfs:∀(j:Nat) p,fs[j]?=some p->pool[((n/3+3*(j:Int))%26).toNat]?=some p.1/\ks2[j]?=some p.2:=λ j p hj=>by have:=hfs j p hj;rw[nA]at this;exact this
    refine⟨D,rfl,vs,.inl ⟨ai.of hD8,λ l9 hl9=>?_⟩⟩;have s9:=bM hl9 (.tup vs);refine aE.of λ p10 H10 h10 s10 e10=>q _ fs k2 _ (s7.trans (s8.trans (s9.trans s10))) (.tup (ao.of e10) (.cons (.str _) (.cons (.tup (ao.of (s10 _ _ aG)) ((rfs.same s9).same s10)) (.cons (.str _) .nil)))) ⟨qR,λ f hm=>?_,?_⟩ hk2
    · obtain⟨j,hj⟩:=eS hm;obtain⟨h1,h2⟩:=hfs j f hj;exact⟨bN h1,h_,hk7 _ (bN h2)⟩
    · refine List.pairwise_iff_getElem.mpr λ x y hx hy lt e=>?_;rw[aA]at hx hy;rw[rP,rP]at e;have h1:=(hfs x _ (aV hx)).1;have h2:=(hfs y _ (aV hy)).1;rw[e]at h1;have:=f7 ndp h1 h2;omega
  have e6':=s6 _ _ (s5 _ _ (s4 _ _ (s3 _ _ (s2 _ _ e1))));have lk0:(aJ g.2.1).length<=4:=by rw[aJ,aA];exact lg
  subst huz5;have two:∀{c d:Prop} [Decidable c] [Decidable d]{H7:Hp}{K':Bool->Hp->Prop},(∀b H8,af H7 H8->(b=true->True)->K' b H8)->if c then K' (decide d) H7 else K' false H7:=λ k=>ay (λ ω=>k _ _ (af.refl _) λ ω=>trivial) λ ω=>k _ _ (af.refl _) λ ω=>trivial;refine pZ True (λ K' k=>?_) (λ H7 s7 ω=>?_) λ H7 s7=>?_
  · walk_at "r";exact two k
  · walk_at "r";refine aE.of λ pa Ha ha sa ea=>⟨_,sa _ _ (s7 _ _ e6'),_,ea,by rw[aA];show _+1<=_;lia,aE.of λ pb Hb hb sb eb=>⟨_,ai.of eb,aE.of λ pc Hc hc sc ec=>?_⟩⟩;rw[show(aJ g.2.1).map V.str++[V.str k1]=(aJ g.2.1++[k1]).map V.str by rw[ew];rfl]at ec;obtain⟨ys,ey,hy,ω,l4⟩:=DJ (xs:=aJ g.2.1++[k1]) (lo:=none) (hi:=some 4);rw[ey]at ec;refine fin pc ys k0 _ Hc (S6.trans (s7.trans (sa.trans (sb.trans sc)))) ec (l4 rfl rfl) (λ k hk=>?_) (kz k0 hk0);rcases dy.mp (hy k hk)with h|h
    · exact ksg k h
    · cases cu.mp h;exact kk1
  refine pZ True (λ K' k=>?_) (λ H8 s8 ω=>?_) λ H8 s8=>?_
  · walk_at "r";exact two k
  · walk_at "r";have s68:=s7.trans s8;obtain⟨ys,ey,hy,l4,ω⟩:=DJ (xs:=aJ g.2.1) (lo:=none) (hi:=some (-1));refine⟨_,ai.of (s68 _ _ e6'),aE.of λ pc Hc hc sc ec=>?_⟩;rw[ey]at ec;exact fin pc ys k0 _ Hc (S6.trans (s68.trans sc)) ec (cb l4 lk0) (λ k hk=>ksg k (hy k hk)) (kz k0 hk0)
  have s68:=s7.trans s8;refine pZ (aJ g.2.1≠[]) (λ K' k=>?_) (λ H9 s9 ne=>?_) λ H9 s9=>?_
  · walk_at "r";refine ay (λ ω=>ay (λ ω=>aE.of λ pa Ha ha sa ea=>⟨_,ai.of (sa _ _ (s68 _ _ e6')),ai.of ea,k _ _ sa λ z e=>?_⟩) λ ω=>k _ _ (af.refl _) λ z=>nomatch z) λ ω=>k _ _ (af.refl _) λ z=>nomatch z;rw[e]at z;cases z
  · walk_at "r";have s69:=s68.trans s9;have lpos:0<(aJ g.2.1).length:=rY.mpr ne;have m0:∃j:Nat,((n:Int)/9/13/70%((jW V.str (aJ g.2.1)).length:Nat))=(j:Int)/\j<(aJ g.2.1).length:=by
      rw[aA];exact⟨n/9/13/70%(aJ g.2.1).length,by rw[Int.natCast_emod];rfl,fQ _ lpos⟩
    obtain⟨j,ej,lj⟩:=m0;refine⟨_,.inl (ai.of (s69 _ _ e6')),by rw[aA];lia,?_⟩;rw[ej];refine⟨_,s69 _ _ e6',j,nZ (by rw[aA];exact lj),fin kh ((aJ g.2.1).set j k1) k0 _ _ (g7 (S6.trans s69) hkh) (by rw[aG,rQ]) (by rw[iW];exact lk0) (λ k hk=>?_) (kz k0 hk0)⟩;rcases rW hk with h|h
    · exact ksg k h
    · rw[h];exact kk1
  have s69:=s68.trans s9;refine pZ True (λ K' k=>?_) (λ H10 s10 ω=>?_) λ H10 s10=>?_
  · walk_at "r";exact two k
  · walk_at "r";have e10:=s10 _ _ (s69 _ _ e6');refine⟨.inl ⟨rfl,_,ai.of e10⟩,_,e10,fin kh (aJ g.2.1).reverse k0 _ _ (g7 ?_ hkh) (by rw[aG,List.map_reverse]) (by rw[kR];exact lk0) (λ k hk=>ksg k (List.mem_reverse.mp hk)) (kz k0 hk0)⟩;exact S6.trans (s69.trans s10)
  have s610:=s69.trans s10;refine pZ True (λ K' k=>?_) (λ H11 s11 ω=>?_) λ H11 s11=>?_
  · walk_at "r";exact k _ _ (af.refl _) λ ω=>trivial
  · have S11:=S6.trans (s610.trans s11);walk_at "r";refine⟨⟨_,ai.of (S11 _ _ hnl)⟩,λ D hD=>?_⟩;refine xM (ys:=ns.map V.str) none [some (V.ref t),some (V.ref l)] (λ v=>match v with| .str x=>dc up g.2.2 x|_=>false) rfl hD (by rw[aA,Qk];lia) (λ H2 s=>ai.of (s _ _ (S11 _ _ hnl))) (λ y hy H2 K' s2 kk=>?_) (λ H2 s2 hD2=>?_)
    · obtain⟨x,hx,rfl⟩:=bE.mp hy;walk_at "r";have s12:=S11.trans s2;exact⟨_,ao.of (s12 _ _ o1),_,eB,l,us,rs,g.2.2,x,up,rfl,hA.same s12,u,λ H3 s3=>⟨_,rfl,kk _ s3⟩⟩
    obtain⟨zs2,ez2,hz2,lz2⟩:=AO ns (λ v=>match v with|V.str x=>dc up g.2.2 x|_=>false);rw[ez2]at hD2;refine aE.of λ p3 H3 h3 s3 e3=>⟨_,rfl,_,s3 _ _ hD2,_,e3,by rw[aA];show _+1<=_;lia,aE.of λ p4 H12 h12 s12 e12=>?_⟩;have e12:H12 p4=some (.lst ((zs2++[k1]).map V.str)):=by rw[e12,ew];rfl
    obtain⟨k3,hk3,ek3⟩:=wL (ks:=zs2++[k1]) s!"n" (n/9/13/70) (L:=(((zs2++[k1]).map V.str).length:Nat)) (by rw[aA]);have Sx:=s2.trans (s3.trans s12);refine⟨_,.inl (ai.of e12),by rw[aA,bB];show(0:Int)<((_+1:Nat):Int);lia,⟨_,ai.of e12,_,ek3,fin kh _ k3 _ H12 (S11.trans Sx) (Sx _ _ (s11 _ _ (s610 _ _ e6'))) lk0 ksg ?_⟩⟩;rcases dy.mp hk3 with h|h
    · exact Cu (hz2 k3 h)
    · cases cu.mp h;exact kk1
  · have S11:=S6.trans (s610.trans s11);exact fin kh _ k0 _ H11 S11 (s11 _ _ (s610 _ _ e6')) lk0 ksg (kz k0 hk0)
open P23 (vj eO)
inductive C6(K:X0)(tb:V0)(vs:List V)(H:Hp)(Q:VK):Prop
 |mk(a l pl:V0)(sc:List Int)(us:List V)(rs:List Rw)(up:V2->List V2)(pool:List V2)(a1:vs=[.ref a,.ref l,.ref pl])(a2:ai K H a (sc.map V.int))(a3:H l=some (.lst us))(a4:A2 (dE K H) us rs)(a5:di rs)(a6:dh rs up)(a7:aZ H pl pool)(a8:pool.length=26)(a9:pool.Nodup)(a10:(∀x∈pool,bC x))(a11:H tb=some (.tbl #[]))(a12:∀l' us' rs' H',SX tb H H'->jy K H' l' us' rs'->A2 (eO (rs.map Rw.name)) rs rs'->Q (.ref l') H'):C6 K tb vs H Q
def CN(K:X0)(tb:V0):Sp:=λ vs H Q ω=>C6 K tb vs H Q
theorem Kp.tb{tb:V0}{ps:Array V1}(s:SX tb H H')(c:H tb=some (.tbl ps)):Kp H H':=⟨λ b g e=>s _ _ (nq c e) e,λ b o g e=>s _ _ (nq c e) e,λ b C h f fs e=>s _ _ (nq c e) e⟩
theorem dj.kp{K:X0}{v:V}{r:Rw}(h:dj K H v r)(k:Kp H H'):dj K H' v r:=by
 cases h with
 |mk a b c=>exact .mk (ao.kp a k) (b.kp k) (c.kp k)
theorem dE.sx{K:X0}{v:V}{r:Rw}(h:dE K H v r)(k:Kp H H')(s:SX x H H')(e:H x=some o)(n:∀xs,o≠.lst xs):dE K H' v r:=by
 cases h with
 |mk a b c d=>exact .mk (k.t _ _ a) (b.kp k) (s _ _ (λ z=>by rw[z,e]at c;cases c;exact n _ rfl) c) (d.kp k)
theorem Kp.dk{d:V0}(s:SX d H H')(c:H d=some (.dK kvs)):Kp H H':=⟨λ b g e=>s _ _ (nq c e) e,λ b o g e=>s _ _ (nq c e) e,λ b C h f fs e=>s _ _ (nq c e) e⟩
theorem Iq(xs:List V):bP xs none (some 4)=xs.take 4:=by
 unfold bP;rw[HT.jh,show(4:Int)=((4:Nat):Int)from rfl,HT.fP,nC,pA];by_cases h:4<=xs.length
 ·rw[rZ h]
 ·rw[Nat.min_eq_right qR,iU (aS _),iU qR]
theorem B5{i m n:Type}{R:i->n->Prop}{S:m->n->Prop}{g:List i}{bs:List m}(hl:g.length=bs.length)(h:∀(j:Nat) a,g[j]?=some a->∃b c,bs[j]?=some b/\R a c/\S b c):∃cs,A2 R g cs/\A2 S bs cs:=by
 induction g generalizing bs with
 |nil=>cases bs with|nil=>exact⟨[],.nil,.nil⟩|cons=>cases hl
 |cons a g o=>
  cases bs with
  |nil=>cases hl
  |cons b bs=>
   obtain⟨ω,c,e,r,s⟩:=h 0 a rfl;cases e;obtain⟨cs,p,q⟩:=o (nB hl) λ j=>h (j+1);exact⟨c::cs,.cons r p,.cons s q⟩
theorem Kl{ys:Nat->V}{n:Nat}:(eX ks ys n).length<=n:=by
 induction n with
 |zero=>exact aS _
 |succ n b=>
  show(bV (eX ks ys n) _ _).length<=_;unfold bV;split
  ·rw[aA];lia
  ·rw[bB];exact rS b
theorem zc{e:Type}:∀{l:List e},l.length=4->∃a b c d,l=[a,b,c,d]
 |[a,b,c,d],_=>⟨a,b,c,d,rfl⟩
theorem za{i:Type}{l:List i}(h:l.length=7):∃a b c d e f g,l=[a,b,c,d,e,f,g]:=by
 obtain⟨a,b,c,j⟩:=sj (l:=l.take 3) (by rw[cJ,h];rfl);obtain⟨d,e,m⟩:=kT (l:=(l.drop 3).take 2) (by rw[cJ,gA,h];rfl);obtain⟨f,g,n⟩:=kT (l:=(l.drop 3).drop 2) (by rw[gA,gA,h]);exact⟨a,b,c,d,e,f,g,by rw[<-se 3 l,j,<-se 2 (l.drop 3),m,n];rfl⟩
theorem C5{K:X0}{a d:V0}(s:SX d H H')(b:H d=some (.dK kvs))(h:ai K H a xs):ai K H' a xs:=by
 rcases h with(h|⟨o,h⟩)|h
 ·exact .inl (.inl (s _ _ (nq b h) h))
 ·exact .inl (.inr ⟨o,s _ _ (nq b h) h⟩)
 ·exact .inr h
def oJ(K:X0)(H:Hp)(rs:List Rw)(kvs:List (bD×V)):Prop:=∀r∈rs,∃v b,bg kvs (.inr r.name)=some v/\dj K H v b/\eO (rs.map Rw.name) r b
theorem oJ.kp{K:X0}{e:List Rw}(h:oJ K H e kvs)(k:Kp H H'):oJ K H' e kvs:=λ r hr=>let⟨v,g,a,b,c⟩:=h r hr;⟨v,g,a,b.kp k,c⟩
theorem AW{K:X0}{D d r:V0}{e:List Rw}(T:(e.map Rw.name).Nodup)(A:e.length<=12)(nm:H D=some (.lst ((e.map Rw.name).map V.str)))(U:H d=some (.dK kvs))(X:oJ K H e kvs)(C:H r=none)(q:∀vs h H',af H H'->jy K H' r vs h->A2 (eO (e.map Rw.name)) e h->Q (.ref r) H'):gr (je K D) (fg 0) fh (rE (iJ 1) (iJ 0)) r Q [none,some (V.ref d)] (ag H r (.lst [])):=by
 have u:((e.map Rw.name).map V.str).length=e.length:=by rw[aA,aA]
 refine mX (ys:=(e.map Rw.name).map V.str) none [some (V.ref d)] (λ j v H=>∃g o,e[j]?=some g/\dj K H v o/\eO (e.map Rw.name) g o) (λ j v Y H2 ⟨g,o,a,b,c⟩ s=>⟨g,o,a,b.kp (iZ s),c⟩) rfl C (by rw[u,Qk];lia) (λ Y s=>ai.of (s _ _ nm)) (λ j y O p K' i Z=>?_) (λ E p i z G I=>?_)
 ·rw[a_,a_]at O;obtain⟨x,hx,rfl⟩:=c_.mp O;obtain⟨g,m,rfl⟩:=c_.mp hx;obtain⟨v,o,c1,c2,c3⟩:=X g (bN m);walk_at "r";refine⟨v,?_,Z _ _ (af.refl _) ⟨g,o,m,c2.same i,c3⟩⟩;rw[<-c1];exact cZ.k (k:=.inr g.name) (i _ _ U)
 obtain⟨h,J,n⟩:=B5 (R:=dj K p) (S:=eO (e.map Rw.name)) (G.trans u) λ j v L=>by
  obtain⟨g,o,a,b,c⟩:=I j v L;exact⟨g,o,a,b,c⟩
 refine q E h p i ⟨z,J,by rw[P23.xF n];exact T,by rw[<-n.len];exact A,λ g m h2 M=>?_⟩ n;obtain⟨j,L⟩:=eS m;obtain⟨r3,ω,N⟩:=n.to L;exact cb (N.hd h2 M).le qQ
def Gf(K:X0)(rs:List Rw)(H5:Hp)(d:V0)(σ0:List (Option V)->St)(i:Nat)(σ:St)(H':Hp):Prop:=∃b c,SX d H5 H'/\H' d=some (.dK b)/\oJ K H' rs b/\b.length<=12+i/\c.length=7/\σ=σ0 c
def BL(K:X0)(ns:List V2)(r:Rw)(H8:Hp)(hh:V0)(σ0:List (Option V)->St)(k:Nat)(σ:St)(H':Hp):Prop:=∃(c:List V)(b:List Hd)(e:List (Option V)),SX hh H8 H'/\H' hh=some (.lst c)/\bb K H' c (b.map gE)/\b.map Prod.fst=(r.heads.map Prod.fst).take k/\(∀h∈b,vj ns h)/\e.length=4/\σ=σ0 e
theorem Hh(T:∅){tb:V0}(F:lM K mg "_law_put_otherwise" m_ tb)(hB:jC mg base)(I:aO P w K mg base 1 "_law_drawn" ["_law_script","_law_k"] (lF K))(M:aO P w K mg base 1 "_law_ups" ["_law_rows_here","_law_name_here"] (sG K))(J:aO P w K mg base 2 "_law_found" ["_law_rows_here","_law_name_here","_law_word"] (xt K))(m:aO P w K mg base 3 "_law_other_head" ["_law_head","_law_old","_law_number","_law_pool","_law_rows_here","_law_names"] (zG K)):aO P w K mg base 5 "_law_put_otherwise" ["_law_script","_law_rows_here","_law_pool"] (CN K tb):=by
  refine aO.ofT F jQ (λ ω ω ω ω ω ω us hl=>el3 us hl λ ω ω ω=>rfl) (λ vs H Q E h=>?_) (λ f c A outer s H vs Q E hC hr h=>?_)
  · obtain⟨a,l,pl,sc,us,rs,up,pool,rfl,ω⟩:=h;rfl
  obtain⟨a,l,pl,sc,us,rs,up,pool,rfl,sq,hl,hO,ok,u,l1,I1,J1,L1,J0,q⟩:=h;refine⟨_,(aw (jL rfl jQ.nd (i:=3) rfl rfl (ak.plain (N:=["_law_row"]) rfl qP qP qP) (eH (ae 1)) s!"j" (λ C fp s H=>(qA K 0))) (aw (jH (i:=4) jQ.nd rfl (Or.inr rfl) (d7 (r:=sC K) (Be rfl) rfl T.yi wO (qI (eF rfl (ak.plain (N:=["_law_row"]) rfl qP qP qP) (eH (ae 1)) s!"j" (λ C fp s H=>(bz (qJ (qA K 0) (bz (cg (qA K 0) (qK (qA K 0) (qA K 0) (bz dO))))))))))) (aw (eZ Qs rfl (eH (Jv rfl hr qR hB rfl hC rfl T.BM rfl (ae 3) (ak.of (N:=["_law_one","_law_rows_here"]) (nl:=[none,some 1]) (cl:=[("_law_rows_here",s.heap.objs.size+1)]) rfl qP qP rfl (ei rfl) (nm:=["_law_rows_here"]) rfl qP rfl (λ i hi j L=>by
            match i,hi with
            | 0,_=>cases L
             |1,_=>cases L;exact s!"e"
            )) rfl qP rfl rfl rfl (λ ω ω ω ω ω=>rfl) (λ ω ω s H=>(gI (r:=jS K) Aj rfl T.z_len yM (qI (qF M (hr.in1.in1.deeper _) (qJ (ae 1) (ae 0)))))))) (wh (i:=5) jQ.nd rfl (Or.inr rfl)) (aw (qG 6 jQ.nd (qD K (n9 rfl (ak.of (N:=["_law_one","_law_name_here"]) (nl:=[none,some 5]) (cl:=[("_law_name_here",s.heap.objs.size+3)]) rfl qP qP rfl (ei rfl) (nm:=["_law_name_here"]) rfl qP rfl (λ i hi j L=>by
            match i,hi with
            | 0,_=>cases L
             |1,_=>cases L;exact s!"e"
            )) (eH (ae 1)) (λ C fp s H=>(qH 0 (show(["_law_one","_law_name_here"]:List V2).Nodup by decide+kernel))) (λ C fp s H=>(qM cM (qA K 0) (ae 1))) (λ C fp s H=>(ae 0))) az)) (aw (qG 7 jQ.nd (bK dO)) (aw (eZ Qs rfl (Jb rfl T.Gm E7 (qI (g8 (r:=fq K) lr (qA K 6) gX (gY az)))) (i_ (n:=2) rfl (dA (qH 8 jQ.nd) (dA (qH 9 jQ.nd) i9))) (aw (qG 10 jQ.nd (bq J hr qR rfl (qK (eF rfl (ak.of (N:=["_law_one","_law_found_here"]) (nl:=[none,some 4]) (cl:=[("_law_found_here",s.heap.objs.size+2)]) rfl qP qP rfl (ei rfl) (nm:=["_law_found_here"]) rfl qP rfl (λ i hi j L=>by
            match i,hi with
            | 0,_=>cases L
             |1,_=>cases L;exact s!"e"
            )) (eH (ae 3)) (λ C fp s H=>(qH 0 (show(["_law_one","_law_found_here"]:List V2).Nodup by decide+kernel))) (λ C fp s H=>(qE hr (ae 1) (ae 0)))) (ae 5) (qA K 9)))) (aw (qG 11 jQ.nd (bq I hr qR rfl (qJ (ae 0) (aB cU (aB cU az (aB gW az (eE eu PySem.F.slot_list_index PySem.F.type_list_index Es (ae 3) (qI (ae 5))))) (ae 8))))) (aC (d8 (eE eu fY fX fK (ae 7) (qI (wR (qM mG (ae 10) fj) (ae 9) (bq m hr qR rfl (cg (ae 9) (cg (ae 10) (cg (ae 11) (qK (ae 2) (ae 1) (ae 3)))))))))))))) (aC (wB (mB hr) (ae 4) (ae 5) (aB (r:=ki K) lA (g8 (r:=gN K) nW (ae 6) gX (gY az)) (bz (qI (d7 gG rfl T.gK gH (qI (ae 7)))))) rfl)))))) (aC (aY (eF rfl (ak.of (N:=["_law_name_here","_law_found_here"]) (nl:=[none,some 4]) (cl:=[("_law_found_here",s.heap.objs.size+2)]) rfl qP qP rfl (ei rfl) (nm:=["_law_found_here"]) rfl qP rfl (λ i hi j L=>by
            match i,hi with
            | 0,_=>cases L
             |1,_=>cases L;exact s!"e"
            )) (eH (ae 3)) (λ C fp s H=>(qH 0 (show(["_law_name_here","_law_found_here"]:List V2).Nodup by decide+kernel))) (λ C fp s H=>(qE hr (ae 1) (ae 0))))))))),?_⟩
  walk_at "s 4 z";have m1:=hO.len;have l0:=ok.l12;refine⟨⟨_,ai.of hl⟩,λ D hD=>?_⟩;refine mX (ys:=us) none [] (λ k v H=>∃r,rs[k]?=some r/\v=.str r.name) (λ ω ω ω ω h ω=>h) rfl hD (by rw[Qk];lia) (λ H1 s=>ai.of (s _ _ hl)) (λ k y hy H9 K' s9 kk=>?_) (λ vs H1 s1 n1 N1 hR=>?_)
  · obtain⟨r2,O,ro⟩:=hO.at hy;obtain⟨t,ft,L0,rfl,U⟩:=(ro.same s9).a;walk_at "r";exact⟨_,U,_,cL,kk _ _ (af.refl _) ⟨r2,O,rfl⟩⟩
  rw[jv (g:=λ r:Rw=>V.str r.name) (N1.trans m1) hR,show(rs.map λ r=>V.str r.name)=(rs.map Rw.name).map V.str by rw[dH];rfl]at n1;walk_at "n z1";refine⟨⟨_,ai.of (s1 _ _ hl)⟩,λ D2 O1=>?_⟩;refine mX (ys:=us) none [] (λ k v H=>∃r T w,rs[k]?=some r/\v=.ref T/\H T=some (.tup [.str r.name,w])/\dj K H w {r with heads:=[]}) (λ j v H1 H2 ⟨r,T,w,a,b,c,d⟩ s=>⟨r,T,w,a,b,s _ _ (λ ω z=>by cases z) c,d.kp (iZ s)⟩) rfl O1 (by rw[Qk];lia) (λ H2 s=>ai.of (s _ _ (s1 _ _ hl))) (λ k y hy H2 K' s2 kk=>?_) (λ Y2 H2 s2 m0 o1 Q1=>?_)
  · obtain⟨r2,O,ro⟩:=hO.at hy;have ro:=ro.same (s1.trans s2);cases ro with
    |@mk t L0 ft n0 _ U g2 g3 g4=>
    walk_at "r";exact⟨_,ao.of U,_,cL,⟨_,ao.of U,_,cL,⟨_,ao.of U,_,eB,⟨_,ao.of U,_,pW,aE.of λ p3 H3 h3 s3 e3=>aE.of λ p4 H4 h4 s4 e4=>aE.of λ p5 H5 h5 s5 e5=>kk _ _ (s3.trans (s4.trans s5)) ⟨r2,p5,.ref p4,O,rfl,e5,.mk (ao.of (s5 _ _ e4)) (g2.same (s3.trans (s4.trans s5))) (.tup (ao.of (s5 _ _ (s4 _ _ e3))) .nil)⟩⟩⟩⟩⟩
  obtain⟨cs,c1,c2⟩:=B5 (R:=λ v (c:Rw×V)=>∃T,v=.ref T/\H2 T=some (.tup [.str c.1.name,c.2])) (S:=λ r c=>c.1=r/\dj K H2 c.2 {r with heads:=[]}) (o1.trans m1) λ j v L=>by
    obtain⟨r,T,w,a,b,c,d⟩:=Q1 j v L;exact⟨r,(r,w),a,⟨T,b,c⟩,rfl,d⟩
  have en:cs.map (λ c=>c.1.name)=rs.map Rw.name:=by
    refine lS λ j=>?_;rw[a_,a_];cases e:cs[j]? with
    |none=>rw[ic (by rw[c2.len];exact vw.mp e)];rfl
    |some c=>obtain⟨r,hr,e',ω⟩:=c2.to e;rw[hr];show some c.1.name=_;rw[e'];rfl
  refine⟨_,rfl,_,ai.of m0,cs.map λ c=>c.1.name,by rw[c1.len,aA],cs.map Prod.snd,λ i t ht=>?_,λ d hd=>?_⟩
  · obtain⟨c,hc,T,rfl,hT⟩:=c1.at ht;refine⟨T,rfl,ao.of ?_⟩;rw[c6,a_,hc,c6,a_,hc];exact hT
  rw[en];have R1:oJ K H2 rs (f_ (rs.map Rw.name) (cs.map Prod.snd)):=λ r hr=>by
    obtain⟨i,hi⟩:=eS hr;obtain⟨c,hc,e,hw⟩:=c2.at hi;refine⟨c.2,_,xW ok.nd (i:=i) (by rw[a_,hi];rfl) (by rw[a_,hc];rfl),hw,rfl,rfl,rfl,bJ _,.nil,λ x hx=>nomatch hx⟩
  have iY:(f_ (rs.map Rw.name) (cs.map Prod.snd)).length<=12:=by
    refine cb Kl ?_;rw[aA];exact l0
  generalize f_ (rs.map Rw.name) (cs.map Prod.snd)=X at*;have s3:=bM hd (.dK X);have e3:ag H2 d (.dK X) d=some (.dK X):=aG;generalize ag H2 d (.dK X)=H3 at*;have S2:=s1.trans s2;have S3:=S2.trans s3;have S1:=R1.kp (Kp.of s3);have M0:=s3 _ _ (s2 _ _ n1);walk_at "n z2";refine⟨_,M0,by rw[aA,aA];lia,S3 _ _ J0,λ ps=>⟨λ i x H4 hx s4=>?_,λ H4 sl p s4 T1 hp=>?_⟩⟩
  · have sx:SX tb H3 H4:=(SX.put _).trans (SX.of s4);have t3:=S3 _ _ J0;rw[a_]at hx;obtain⟨x,U1,rfl⟩:=c_.mp hx;obtain⟨u1,u2⟩:=u.ch x (bN U1);exact⟨l,us,rs,x,up x,rfl,⟨sx _ _ (nq t3 (S3 _ _ hl)) (S3 _ _ hl),hO.mono λ ω ω r=>((r.same S3).sx (Kp.tb sx t3) sx t3 λ ω z=>nomatch z).a,ok.nd,ok.l12⟩,u1,u2,λ k H5 s5 hk e5=>⟨k,rfl,_,.inl (ai.of e5),s5,_,rfl⟩⟩
  have t3:=S3 _ _ J0;have sx:SX tb H3 H4:=(SX.put _).trans (SX.of s4);have kp:=Kp.tb sx t3;have s5:=bM T1 (.lst (p.map λ i=>((rs.map Rw.name).map V.str).getD i .non));have e5:ag H4 sl (.lst (p.map λ i=>((rs.map Rw.name).map V.str).getD i .non)) sl=some _:=aG;generalize ag H4 sl _=H5 at*;have Y1:SX tb H H5:=(SX.of S3).trans (sx.trans (SX.of s5));have Z1:A2 (dE K H5) us rs:=hO.mono λ ω ω r=>((r.same S3).sx (Kp.tb sx t3) sx t3 λ ω z=>nomatch z).same s5;have p1:=s5 _ _ (sx _ _ (nq t3 (S3 _ _ hl)) (S3 _ _ hl));have f0:=s5 _ _ (sx _ _ (nq t3 M0) M0);have r1:aZ H5 pl pool:=s5 _ _ (sx _ _ (nq t3 (S3 _ _ l1)) (S3 _ _ l1));have a2:=ai.same (rF sx t3 (ai.same sq S3)) s5;have d5:=s5 _ _ (sx _ _ (nq t3 e3) e3);have d2:=S1.kp (kp.trans (Kp.of s5));have i2:∀b o,H5 b=some o->(∀o0,o≠.dK o0)->b≠d:=λ b o e n z=>by rw[z,d5]at e;cases e;exact n _ rfl
  refine⟨⟨_,ai.of e5⟩,kA (p.map λ i=>((rs.map Rw.name).map V.str).getD i .non) (Gf K rs H5 d λ os=>some (V.ref a)::some (V.ref l)::some (V.ref pl)::some (V.ref D)::some (V.ref d)::os) ⟨X,[none,none,none,none,none,none,none],λ ω ω ω h=>h,d5,d2,iY,rfl,rfl⟩ (λ i σ H' ω hI=>?_) (λ i y σ H' hy hI=>?_) (λ σ H' hI=>?_)⟩
  · obtain⟨ω,ω,sI,ω⟩:=hI;exact ai.of (sI _ _ (i2 _ _ e5 λ ω z=>nomatch z) e5)
  · obtain⟨o0,os,sI,eD,hk,lk,g0,rfl⟩:=hI;obtain⟨o5,o6,o7,o8,o9,oa,ob,rfl⟩:=za g0;have kI:=Kp.dk sI d5;have Q2:i<12:=by
      have:=(bG.mp hy).1;rw[aA,hp.length_eq,eU,aA,aA]at this;lia
    obtain⟨r,b0,rfl⟩:∃r∈rs,y=.str r.name:=by
      rw[a_]at hy;obtain⟨j,L,rfl⟩:=c_.mp hy;have:=hp.mem_iff.mp (bN L);rw[aA,aA,eV]at this;exact⟨rs[j],gQ _,by rw[c6,a_,a_,aV this];rfl⟩
    have w0:A2 (dE K H') us rs:=Z1.mono λ ω ω q=>q.sx kI sI d5 λ ω z=>nomatch z;have N0:=sI _ _ (nq d5 p1) p1;have p0:=sI _ _ (nq d5 f0) f0;have k2:aZ H' pl pool:=sI _ _ (nq d5 r1) r1;have l2:=C5 sI d5 a2;walk_at "s 4 y";refine⟨⟨_,ai.of N0⟩,λ Df m2=>?_⟩;obtain⟨pf,O0⟩:∃pf:V->Bool,∀v,pf v=true↔∃t w,v=.ref t/\H' t=some (.tup (.str r.name::w)):=⟨(λ v=>@decide (∃t w,v=.ref t/\H' t=some (.tup (.str r.name::w))) (Classical.propDecidable _)),λ v=>@decide_eq_true_iff _ (Classical.propDecidable _)⟩;refine xM (ys:=us) none [some (V.str r.name)] pf rfl m2 (by rw[Qk];lia) (λ H6 s=>ai.of (s _ _ N0)) (λ v hv H6 K' s6 kk=>?_) (λ H6 s6 t1=>?_)
    · obtain⟨j,L⟩:=eS hv;obtain⟨q0,x0,ro⟩:=w0.at L;cases ro with
      |@mk t L0 ft n0 _ U g2 g3 g4=>
      walk_at "r";refine⟨_,ao.of (s6 _ _ U),_,cL,rfl,?_⟩;have:=kk H6 (af.refl _);rw[show decide (V.str q0.name=V.str r.name)=pf (.ref t)from nK.mpr (decide_eq_true_iff.trans (Iff.trans ⟨λ e=>⟨t,_,rfl,by rw[U,e]⟩,λ⟨t',w,e,h⟩=>by cases e;exact(List.cons.inj (HO.tup.inj (dG (U.symm.trans h)))).1⟩ (O0 _).symm))];exact this
    obtain⟨v0,us2,ef,ro⟩:∃v0 us2,us.filter pf=v0::us2/\dE K H' v0 r:=by
      obtain⟨j,L⟩:=eS b0;obtain⟨v,hv,ro⟩:=w0.to L;have v1:v∈us.filter pf:=pL.mpr ⟨bN hv,by
        cases ro with
        |mk U _ _ _=>exact(O0 _).mpr ⟨_,_,rfl,U⟩⟩
      cases e:us.filter pf with
      |nil=>rw[e]at v1;cases v1
      |cons v0 us2=>
        refine⟨v0,us2,rfl,?_⟩;have h0:v0∈us.filter pf:=by rw[e];exact dR
        obtain⟨h1,h2⟩:=pL.mp h0;obtain⟨t',w,rfl,h3⟩:=(O0 _).mp h2;obtain⟨k,Q0⟩:=eS h1;obtain⟨q0,x0,w1⟩:=w0.at Q0;have en:q0.name=r.name:=by
          cases w1 with
          |mk U _ _ _=>exact V.str.inj (List.cons.inj (HO.tup.inj (dG (U.symm.trans h3)))).1
        have:=f7 ok.nd (i:=k) (j:=j) (x:=r.name) (by rw[a_,x0];exact congrArg some en) (by rw[a_,L];rfl);rw[this]at x0;cases L.symm.trans x0;exact w1
    rw[ef]at t1;cases ro with
    |@mk t L0 ft n0 _ U g2 g3 g4=>
    refine⟨_,rfl,⟨_,ai.of t1,_,cL,?_⟩⟩;walk_at "n y1";refine aE.of λ hh H7 h7 s7 e7=>?_;have S7:=s6.trans s7;walk_at "n y2";refine⟨_,ao.of (S7 _ _ U),_,nQ,_,rfl,?_⟩;refine⟨_,ai.of (S7 _ _ g3),aE.of λ n2 H8 h8 s8 e8=>⟨⟨_,ai.of e8⟩,?_⟩⟩;rw[Iq]at e8;have T2:n0.length=r.heads.length:=by rw[g4.length,aA]
    have S8:=S7.trans s8;have o2:=g4;have n8:n2≠hh:=nq e7 h8;obtain⟨jr,R0⟩:=eS b0;have Z2:=(bG.mp R0).1;have y0:(rs.map Rw.name)[jr]?=some r.name:=by rw[a_,R0];rfl
    obtain⟨p2,t2⟩:=u.ch r.name (bN y0);obtain⟨a3,v2⟩:=ok.so r b0;refine Lm (n0.take 4) (BL K (rs.map Rw.name) r H8 hh λ os=>some (V.ref a)::some (V.ref l)::some (V.ref pl)::some (V.ref D)::some (V.ref d)::some (V.str r.name)::some (V.ref t)::some (V.ref hh)::os) ⟨[],[],[o8,o9,oa,ob],λ ω ω ω h=>h,s8 _ _ e7,.nil,rfl,(λ ω h=>nomatch h),rfl,rfl⟩ (λ k σ H9 ω hJ=>?_) (λ k v tt σ H9 hv w2 hJ=>?_) (λ σ H9 hJ=>?_)
    · obtain⟨Y,i0,os,sJ,ω⟩:=hJ;exact ai.of (sJ _ _ n8 e8)
    · obtain⟨Y,i0,os,sJ,eh,A0,r0,S0,g0,rfl⟩:=hJ;obtain⟨p8,p9,pa,pb,rfl⟩:=zc g0;have T0:af H6 H9:=gZ (s7.trans s8) sJ h7;have S9:=s6.trans T0;have x2:n0[k]?=some v/\k<4:=by
        rw[List.getElem?_take]at hv;split at hv
        · exact⟨hv,by assumption⟩
        · cases hv
      obtain⟨dd,x1,rv⟩:=o2.at x2.1;rw[a_]at x1;obtain⟨h,A1,rfl⟩:=c_.mp x1;have rv:=rv.same S9;obtain⟨hb,U2,rfl,b1,b2⟩:=nU rv;have st:=bM w2 (.tup [.int k,.ref hb]);have et:ag H9 tt (.tup [.int k,.ref hb]) tt=some _:=aG;generalize ag H9 tt _=B0 at*;have s0:=S9.trans st;refine yx λ b3 B1=>?_;walk_at "r";refine⟨_,ao.of et,rfl,⟨_,_,rfl,⟨_,_,rfl,rfl,?_⟩⟩⟩;subst B1;walk_at "s 3 x";refine⟨⟨_,ai.of (s0 _ _ p0)⟩,λ D3 m0=>AW ok.nd l0 (s0 _ _ p0) (s0 _ _ eD) (hk.kp (Kp.of s0)) m0 λ U0 C0 Y0 Z Z0 D0=>?_⟩;have y2:=s0.trans Z;refine⟨_,ao.same b1 (st.trans Z),_,cL,D3,U0,C0,r.name,h.1,up r.name,rfl,Z0,P23.xQ (P23.A6 D0) p2,t2,λ ov a1 j0 hf=>?_⟩;have c0:=y2.trans j0;walk_at "n x1";refine⟨.inl ⟨rfl,_,ai.of (c0 _ _ p0)⟩,?_⟩;refine⟨_,c0 _ _ p0,jr,y0,λ i hi e=>T7 (f7 ok.nd e y0) (bY hi),a,sc,300+4*jr+k,by rw[gP,gP,Int.natCast_mul];rfl,ai.same l2 c0,qR,λ z ω z0 z1=>?_⟩;obtain⟨n,rfl⟩:=Int.eq_ofNat_of_zero_le z0;walk_at "n x2";have d0:=st.trans (Z.trans j0);have fin:∀(v:V)(h':Hd)(G:Hp),af a1 G->RT K G v (gE h')->h'.1=h.1->vj (rs.map Rw.name) h'->∃vs,G hh=some (.lst vs)/\vs.length<16777216/\BL K (rs.map Rw.name) r H8 hh (λ os=>some (V.ref a)::some (V.ref l)::some (V.ref pl)::some (V.ref D)::some (V.ref d)::some (V.str r.name)::some (V.ref t)::some (V.ref hh)::os) (k+1) [some (V.ref a),some (V.ref l),some (V.ref pl),some (V.ref D),some (V.ref d),some (V.str r.name),some (V.ref t),some (V.ref hh),some (V.int k),some (V.ref hb),some ov,some (V.int (Int.ofNat n))] (ag G hh (.lst (vs++[v]))):=by
        intro v h' G k0 rt z2 hg;have t0:=d0.trans k0;have G0:=t0 _ _ eh;have C1:Kp G (ag G hh (.lst (Y++[v]))):=SX.kpl (SX.put _) G0;refine⟨Y,G0,?_,Y++[v],i0++[h'],_,((sJ.trans (SX.of t0)).trans (SX.put _)),aG,?_,?_,λ x hx=>?_,rfl,rfl⟩
        · have:=A0.length;have e2:=congrArg gB r0;rw[aA,cJ]at e2;rw[aA]at this;lia
        · rw[ew];exact((A0.same t0).kp C1).app (.cons (rt.kp C1) .nil)
        · rw[ew,r0,lZ,a_,A1];show _++[h'.1]=_++[h.1];rw[z2]
        · rcases dy.mp hx with z|z
          · exact S0 x z
          · cases cu.mp z;exact hg
      have e0:=bN A1;refine⟨.inl ⟨rfl,_,ai.of (d0 _ _ eh)⟩,?_⟩;obtain⟨q1,q2,q3⟩:=v2.2 h e0;obtain⟨q4,q5⟩:=(ok.kd r b0).2 h e0;generalize hfd:dM C0 h.1 (r.name::up r.name)=fd at hf;cases hf with
      |non=>exact ay (λ ω=>fin _ h a1 (af.refl _) (rv.same d0) rfl ⟨(ok.sm r b0).2.2 h e0,(ok.dn r b0).2.2 h e0,q1,q4,λ p hp=>⟨(q3 p hp).1,q5 p hp⟩⟩) λ z=>T7 rfl z
      |@som ot kl g f1 f2=>
        refine ay (λ z=>by cases z) λ ω=>?_;obtain⟨r2,O,B2⟩:=P23.xl hfd;obtain⟨j2,u0⟩:=eS O;obtain⟨r3,ω,C2⟩:=D0.to u0;have gd:=C2.hd g B2;refine⟨.ref hb,.ref ot,n,pl,l,D,h,g,us,rs,up,pool,rs.map Rw.name,rfl,rv.same d0,.som f1 f2,gd.le,gd.kd,λ k' Q0=>?_,c0 _ _ k2,I1,J1,⟨c0 _ _ N0,w0.mono λ ω ω q=>(q.same c0).a,ok.nd,l0⟩,u,c0 _ _ p0,by rw[aA];exact l0,λ v ps k' G k0 rt d1 E2=>fin v (h.1,ps,k') G k0 rt rfl ⟨d1.le,d1.nd,q1,E2,λ p hp=>?_⟩⟩
        · obtain⟨p,hp,rfl⟩:=bE.mp Q0;exact(gd.ps p hp).2
        · obtain⟨y1,ω,y3⟩:=d1.nm p hp;exact⟨L1 _ y1,y3⟩
    · obtain⟨Y,i0,os,sJ,eh,A0,r0,S0,g0,rfl⟩:=hJ;obtain⟨p8,p9,pa,pb,rfl⟩:=zc g0;have T0:af H6 H9:=gZ (s7.trans s8) sJ h7;have S9:=s6.trans T0;have G2:i0.length<=4:=by
        have e2:=congrArg gB r0;rw[aA,cJ,aA,cJ]at e2;lia
      show uy3 _ _ _;walk_at "n y3";refine⟨t,_,rfl,ao.of (S9 _ _ U),λ D1 B0 E1 e1=>⟨_,.inl ⟨ai.of (E1 _ _ eh),λ i1 I2=>?_⟩⟩⟩;have Z:=bM I2 (.tup Y);have J2:ag B0 i1 (.tup Y) i1=some _:=aG;generalize ag B0 i1 (.tup Y)=Y0 at*;have e1:ao K B0 D1 [.str r.name,oS r.elder,ft]:=e1;refine aE.of λ L2 a1 d3 j0 N2=>⟨D1,L2,_,_,rfl,rfl,ao.same e1 (Z.trans j0),ao.of N2,by rw[Qk];show 3+1<=_;decide,λ G1 G k0 O2=>?_⟩;have j1:=E1.trans (Z.trans (j0.trans k0));have I0:=j1 _ _ (S9 _ _ eD);have a0:Kp G (ag G d (.dK (bV o0 (.inr r.name) (.ref G1)))):=Kp.dk (SX.put _) I0;have k1:=S9.trans j1;refine⟨_,gz.k (k:=.inr r.name) I0 (by rw[Qk];lia),bV o0 (.inr r.name) (.ref G1),_,(sI.trans (SX.of k1)).trans (SX.put _),aG,λ r2 O=>?_,?_,rfl,rfl⟩
      · rw[xk];by_cases e:r2.name=r.name
        · rw[T6 (by rw[e])];obtain⟨j2,u0⟩:=eS O;have:=f7 ok.nd (i:=j2) (j:=jr) (x:=r.name) (by rw[a_,u0];exact congrArg some e) y0;rw[this]at u0;cases R0.symm.trans u0;refine⟨_,{r with heads:=i0},rfl,.mk (ao.kp O2 a0) ((g2.same k1).kp a0) (.tup (ao.of (a0.t _ _ (k0 _ _ (j0 _ _ J2)))) ((A0.same j1).kp a0)),rfl,rfl,rfl,G2,?_,S0⟩;show(i0.map Prod.fst).Nodup;rw[r0];exact List.Nodup.sublist (List.take_sublist _ _) (ok.dn r b0).2.1
        · rw[T5 (λ z=>e (Sum.inr.inj z))];obtain⟨v,r',c1,c2,c3⟩:=hk r2 O;exact⟨v,r',c1,(c2.same k1).kp a0,c3⟩
      · unfold bV;split
        · rw[aA];lia
        · rw[bB,jD];lia
  · obtain⟨o0,os,sI,eD,hk,lk,g0,rfl⟩:=hI;show uz3 _ _ _;walk_at "n z3";refine⟨⟨_,ai.of (sI _ _ (nq d5 f0) f0)⟩,λ D3 m0=>AW ok.nd l0 (sI _ _ (nq d5 f0) f0) eD hk m0 λ U0 C0 Y0 Z Z0 D0=>q D3 U0 C0 Y0 ?_ Z0 D0⟩;exact λ b o n e=>Z _ _ (sI _ _ (bS e (S2.free hd)) (Y1 _ _ n e))
open P23 (mx iY fC de df mj)
def ng(l:V0)(H:Hp)(v:V)(ks:List V2):Prop:=∃a,v=.ref a/\a≠l/\aZ H a ks
theorem ng.put{l:V0}{b:Hp}{ks:List (List V2)}(h:A2 (ng l H') us ks)(s:af H' b):A2 (ng l (ag b l o)) us ks:=h.mono λ v k ⟨a,e,c,z⟩=>⟨a,e,c,by show ag b l o a=_;rw[aD c];exact s _ _ z⟩
noncomputable def jn(ks:List (List V2)):PyData:=.list (ks.map λ k=>.list (k.map .str))
theorem sy{K:X0}{ks:List (List V2)}(h:A2 (λ v k=>∃a,v=.ref a/\aZ H a k) vs ks):cH K H vs (ks.map λ k=>.list (k.map .str)):=by
 induction h with
 |nil=>exact .nil
 |cons a _ c=>
  obtain⟨b,rfl,z⟩:=a;exact .cons (.lst (ai.of z) (nX _)) c
inductive hV(K:X0)(H:Hp):V->V2 ⊕ List (List V2)->Prop
 |word{x:V2}:hV K H (.str x) (.inl x)
 |kinds{a:V0}{vs:List V}{ks:List (List V2)}:H a=some (.lst vs)->dm K H (.ref a) (jn ks)->hV K H (.ref a) (.inr ks)
theorem hV.same{K:X0}{v:V}{r:V2 ⊕ List (List V2)}(h:hV K H v r)(s:af H H'):hV K H' v r:=by
 cases h with
 |word=>exact .word
 |kinds a b=>exact .kinds (s _ _ a) (b.same s)
inductive Ds(K:X0)(vs:List V)(H:Hp)(Q:VK):Prop
 |mk(l d:V0)(us:List V)(rs:List Rw)(odd:Nat->Int)(up:V2->List V2)(a1:vs=[.ref l,.ref d])(a2:jy K H l us rs)(a3:(∀r∈rs,r.heads.length<=100))(a4:kH H d odd)(a5:dh rs up)(a6:(∀r∈rs,∀e,r.elder=some e->e∈rs.map Rw.name))(a7:(∀r∈rs,∀h∈r.heads,∀k∈aJ h.2.1,bC k))(a8:∀v H',af H H'->hV K H' v (mj rs up odd)->Q v H'):Ds K vs H Q
def Dl(K:X0):Sp:=λ vs H Q ω=>Ds K vs H Q
def EG(rs:List Rw)(up:V2->List V2)(odd:Nat->Int)(r0:V2 ⊕ List (List V2))(H1:Hp)(lk:V0)(σ0:List (Option V)->St)(i:Nat)(σ:St)(H':Hp):Prop:=∃(vs:List V)(b:List (List V2))(c:List (Option V)),SX lk H1 H'/\H' lk=some (.lst vs)/\A2 (ng lk H') vs b/\vs.length<=100*i/\df rs up odd (rs.drop i) b=r0/\c.length=7/\σ=σ0 c
def yV(rs:List Rw)(up:V2->List V2)(odd:Nat->Int)(r:Rw)(rr:V2 ⊕ List (List V2))(H1:Hp)(lk:V0)(n:Nat)(σ0:List (Option V)->St)(i:Nat)(σ:St)(H':Hp):Prop:=∃(vs:List V)(b:List (List V2))(c:List (Option V)),SX lk H1 H'/\H' lk=some (.lst vs)/\A2 (ng lk H') vs b/\vs.length<=n+i/\de rs up odd r (r.heads.drop i) b=rr/\c.length=6/\σ=σ0 c
theorem Ik(T:∅)(G:aO P w K mg base 2 "_law_found" ["_law_rows_here","_law_name_here","_law_word"] (xt K))(L:aO P w K mg base 2 "_law_fit" ["_law_rows_here","_law_one","_law_other"] (wQ K)):aO P w K mg base 3 "_law_due" ["_law_rows_here","_law_odd"] (Dl K):=by
 walk_at "h O9 lH 2"
 obtain⟨l,d,us,o,c,up,rfl,Z,hh,ho,u,u0,n0,q⟩:=h;refine⟨_,(aw (qG 2 lH.nd (bK dO)) (aw (eZ Qs rfl (eH (ae 0)) (qH 3 lH.nd) (aC (eZ Qs rfl (eY (qA K 3)) (i_ (n:=3) rfl (dA (qH 4 lH.nd) (dA (qH 5 lH.nd) (dA (qH 6 lH.nd) i9)))) (aw (qG 7 lH.nd (Ef (mB hr) (ae 1) (qL T.z_len (qI (ae 2))) az ⟨rfl,rfl,rfl,rfl⟩)) (aw (qG 8 lH.nd (wR (qM mG (qA K 3) fj) fj (bq G hr qR rfl (qK (ae 0) (qA K 3) (ae 4))))) (aw (jL rfl lH.nd (i:=9) rfl rfl (ak.plain (N:=["_law_param"]) rfl qP qP qP) (eY (ae 5)) (λ C fp s H=>(qH 0 (show(["_law_param"]:List V2).Nodup by decide+kernel))) (λ C fp s H=>(qA K 0))) (aw (bu (PW.pt (kZ (qM qs (ae 8) fj) (mQ (PW.pt (oF (qM (r:=gO K) (qo hr.units) (ae 9) (qA K 8)) (qp (ko (i6 (bq L hr qR rfl (qK (ae 0) (ae 6) (qA K 8))))))))))) (aC (aY (ae 4))) bL) (aw (bu (qM cM (ae 7) az) (aC (aY aX)) bL) (aw (bu (PW.pt (oF (qM cM (ae 7) az) (qp (PW.pt (kZ (qM cM (ae 7) az) (mQ (qM yu (ae 6) aX))))))) (aC (aY (ae 4))) bL) (aC (d8 (eE eu fY fX fK (ae 2) (qI (qD K (bK (qJ (aB gF (bK (qJ (ae 6) (qA K 3))) (ae 9)) (bK (qI aX)))) (d7 Ac rfl T.z_int CU (qI (ja cM (ae 7) az (kr _)))))))))))))))))) (aC (aY (aB gF (ae 2) (bK (qI (bK (qI aX))))))))),?_⟩;walk_at "s 3 z";refine aE.of λ J H1 h1 s1 e1=>?_;walk_at "n z1";refine⟨⟨_,ai.of (s1 _ _ Z.ls)⟩,?_⟩;have v0:=Z.rw.len;have J0:=Z.le;generalize hr0:df o up c o []=r0;refine kA us (EG o up c r0 H1 J λ M=>some (V.ref l)::some (V.ref d)::some (V.ref J)::M) ⟨[],[],[none,none,none,none,none,none,none],λ ω ω ω h=>h,e1,.nil,bJ _,hr0,rfl,rfl⟩ (λ i σ H' ω hI=>?_) (λ i y σ H' hy hI=>?_) (λ σ H' hI=>?_)
 ·obtain⟨ω,ω,ω,sI,ω⟩:=hI;exact ai.of (sI _ _ (y_ h1 Z.ls) (s1 _ _ Z.ls))
 ·obtain⟨vs,I,M,sI,U,hA,e0,hR,O,rfl⟩:=hI;obtain⟨o0,o1,o2,o3,o4,o5,o6,rfl⟩:=za O;obtain⟨r,a0,f0⟩:=Z.rw.at hy;have p0:af H H':=gZ s1 sI h1;have f0:=f0.same s1;have kI:=SX.kpl sI e1;have rm:=bN a0;have D0:=hh r rm;have pl:=Z.pl r rm;rw[jj (bG.mp a0).1,(bG.mp a0).2]at hR;cases f0 with
  |@mk t ft hv _ g1 g2 g3=>
  obtain⟨ht,hs,rfl,q1,q2⟩:=g3.tup_inv;have lhs:hs.length=r.heads.length:=by rw[q2.length,aA]
  walk_at "r";refine⟨_,ao.kp g1 kI,_,nQ,_,rfl,⟨_,ao.kp q1 kI⟩,?_⟩;generalize hrr:de o up c r r.heads I=rr;have hR:rr.elim .inl (λ I=>df o up c (o.drop (i+1)) I)=r0:=by rw[<-hrr];exact hR
  refine mS hs (yV o up c r rr H1 J (100*i) λ M=>some (V.ref l)::some (V.ref d)::some (V.ref J)::some (V.ref t)::M) ⟨vs,I,[o1,o2,o3,o4,o5,o6],sI,U,hA,qR,hrr,rfl,rfl⟩ (λ j σ H3 ω hJ=>?_) (λ j v σ H3 hv hJ=>?_) (λ σ H3 hJ=>?_)
  ·obtain⟨ω,ω,ω,sJ,ω⟩:=hJ;exact ao.kp q1 (SX.kpl sJ e1)
  ·obtain⟨vs,I,M,sJ,U,hA,e0,hC,O,rfl⟩:=hJ;obtain⟨o1,o2,o3,o4,o5,o6,rfl⟩:=zb O;have R:af H H3:=gZ s1 sJ h1;have kJ:=SX.kpl sJ e1;obtain⟨dd,q0,rv⟩:=q2.at hv;rw[a_]at q0;obtain⟨h,g0,rfl⟩:=c_.mp q0;have hm:=bN g0;obtain⟨hb,G0,rfl,b1,b2⟩:=nU (rv.kp kJ);obtain⟨pa,ps,rfl,c1,c2⟩:=b2.tup_inv;have w0:ps.length=h.2.1.length:=by rw[c2.length,aA]
   have hj:=(bG.mp g0).1;have I0:=(bG.mp a0).1;have x0:=hA.len;rw[jj hj,(bG.mp g0).2]at hC;have hC:(fC o up r h (c I.length)).elim .inl (λ k=>de o up c r (r.heads.drop (j+1)) (I++[k]))=rr:=hC;obtain⟨y0,k1,k2⟩:=ho;refine yx λ L0 s0=>?_;walk_at "r";refine⟨_,b1,rfl,⟨_,_,rfl,⟨_,_,rfl,⟨_,_,rfl,rfl,?_⟩⟩⟩⟩;subst s0;walk_at "s 7 x";refine⟨.inl ⟨_,.inl (R _ _ k1)⟩,_,.inl (ai.of U),bg y0 (.inl ((vs.length:Nat):Int)),cZ.k (k:=.inl _) (R _ _ k1),?_⟩;rw[k2 vs.length,x0];have b0:=ao.kp g1 kJ;obtain⟨DD,h0⟩:∃DD:bc,DD={nx:=yV o up c r rr H1 J (100*i) (λ M=>some (V.ref l)::some (V.ref d)::some (V.ref J)::some (V.ref t)::M) (j+1),rt:=Q,bk:=EG o up c r0 H1 J (λ M=>some (V.ref l)::some (V.ref d)::some (V.ref J)::M) (i+1),ct:=yV o up c r rr H1 J (100*i) (λ M=>some (V.ref l)::some (V.ref d)::some (V.ref J)::some (V.ref t)::M) (j+1)}:=⟨_,rfl⟩;rw[<-h0];have go:∀(av:V)(H4:Hp),af H3 H4->rH H4 av (mx o up r h.1)->ux2 DD [some (V.ref l),some (V.ref d),some (V.ref J),some (V.ref t),some (V.str h.1),some (V.ref pa),some (V.str h.2.2),some (V.int (c I.length)),some av,o6] H4:=by
    intro av H4 X hf;walk_at "n x2";refine⟨⟨_,ao.same c1 X⟩,λ D hD=>?_⟩;refine iy (ys:=ps) none [] (λ j v ω=>∃p,h.2.1[j]?=some p/\v=.str p.2) (λ ω ω ω ω h ω=>h) rfl hD (by have:=pl h hm;rw[Qk];lia) (λ H1 s=>ao.same c1 (X.trans s)) (λ i y hy H1 K' s kk=>?_) (λ M0 H5 s5 i0 z0 A0=>?_)
    ·obtain⟨b,t,v1,v2,rfl,ht,hz,rfl,rfl⟩:=rp c2 hy;walk_at "r";exact⟨_,ao.same hz (X.trans s),_,eB,kk _ _ (af.refl _) ⟨t,ht,rfl⟩⟩
    rw[jv (g:=λ p:V2×V2=>V.str p.2) (z0.trans w0) A0,show(h.2.1.map λ p=>V.str p.2)=(aJ h.2.1).map V.str by rw[aJ,dH];rfl]at i0;have c0:=X.trans s5;have m:∀x,fC o up r h (c I.length)=.inl x->∀H6,af H5 H6->DD.rt (.str x) H6:=λ x e H6 S=>by
     rw[h0];refine q _ _ (R.trans (c0.trans S)) ?_;rw[show mj o up c=.inl x by unfold mj;rw[hr0,<-hR,<-hC,e];rfl];exact .word
    unfold fC at m;have ge:iY o up r h=true->∀H6,af H5 H6->ux4 DD [some (V.ref l),some (V.ref d),some (V.ref J),some (V.ref t),some (V.str h.1),some (V.ref pa),some (V.str h.2.2),some (V.int (c I.length)),some av,some (V.ref D)] H6:=by
     intro j0 H6 S;rw[T5 (by rw[j0];decide)]at m;walk_at "n x4";refine ay (λ e=>m _ (T6 e) _ S) λ ne=>?_;rw[T5 ne]at m;have d0:∀k,fC o up r h (c I.length)=.inr k->∀a H7,af H6 H7->H7 a=some (.lst (k.map V.str))->a≠J->∃k0,H7 J=some (.lst k0)/\k0.length<16777216/\DD.nx [some (V.ref l),some (V.ref d),some (V.ref J),some (V.ref t),some (V.str h.1),some (V.ref pa),some (V.str h.2.2),some (V.int (c I.length)),some av,some (V.ref D)] (ag H7 J (.lst (k0++[.ref a]))):=by
      intro k e a H7 s7 ea na;have l0:=c0.trans (S.trans s7);refine⟨vs,l0 _ _ U,qR,?_⟩;rw[h0];refine⟨vs++[.ref a],I++[k],_,(sJ.trans (SX.of l0)).trans (SX.put _),aG,(ng.put hA l0).snoc ⟨a,rfl,na,?_⟩,by rw[bB,jD];lia,by rw[<-hC,e];rfl,rfl,rfl⟩;show ag H7 J _ a=_;rw[aD na];exact ea
     have fin:(fC o up r h (c I.length)=.inr (if c I.length=3 then["number"]else h.2.2::r.name::aJ h.2.1))->ux6 DD [some (V.ref l),some (V.ref d),some (V.ref J),some (V.ref t),some (V.str h.1),some (V.ref pa),some (V.str h.2.2),some (V.int (c I.length)),some av,some (V.ref D)] H6:=by
      intro e;walk_at "n x6";have m0:=c0.trans S;refine⟨.inl ⟨rfl,_,ai.of (m0 _ _ U)⟩,⟨_,ao.same b0 m0,_,cL,aE.of λ p1 Ha h1 sa ea=>⟨_,ea,_,sa _ _ (S _ _ i0),by rw[aA,aJ,aA];have:=pl h hm;show 2+_<=_;lia,aE.of λ p2 Hb h2 sb eb=>aE.of λ p3 Hc h3 sc ec=>aE.of λ p4 Hd h4 sd ed=>.inr ?_⟩⟩⟩;have t0:=sa _ _ (m0 _ _ U);by_cases Y:c I.length=3
      ·rw[T6 Y]at e;rw[T6 Y];exact⟨_,ai.of ed,_,eB,d0 _ e p3 Hd (sa.trans (sb.trans (sc.trans sd))) (sd _ _ ec) (nq (sb _ _ t0) h3)⟩
      ·rw[T5 Y]at e;rw[T5 Y];exact⟨_,ai.of ed,_,cL,d0 _ e p2 Hd (sa.trans (sb.trans (sc.trans sd))) (sd _ _ (sc _ _ eb)) (nq t0 h2)⟩
     walk_at "n x5";refine ay (λ e=>m _ (T6 (.inl e)) _ S) λ n2=>ay (λ Y=>ay (λ e=>m _ (T6 (.inr ⟨Y,e⟩)) _ S) λ e=>fin ?_) λ n3=>fin ?_
     ·unfold fC;rw[T5 (by rw[j0];decide),T5 ne,T5 (λ z=>z.elim n2 λ z=>e z.2),T6 Y,T6 Y]
     ·unfold fC;rw[T5 (by rw[j0];decide),T5 ne,T5 (λ z=>z.elim n2 λ z=>n3 z.1),T5 n3,T5 n3]
    walk_at "n x3";unfold iY at m ge;generalize hah:mx o up r h.1=ah at hf m ge;cases hf with
    |non=>exact ay (λ z=>T7 rfl z) λ ω=>ge rfl _ (af.refl _)
    |@som ot kl g f1 f2=>
     refine ay (λ ω=>?_) λ z=>T7 (λ z=>by cases z) z;refine⟨_,rfl,⟨_,ao.of (s5 _ _ f1),_,cL,_,.lst (ai.of i0) (nX _),_,.lst (ai.of (s5 _ _ f2)) (nX _),(mT (n0 r rm h hm)).shaped qQ,(mT ?_).shaped qQ,?_⟩⟩
     ·obtain⟨e,ω,he⟩:=Option.bind_eq_some_iff.mp hah;obtain⟨r2,B0,C0⟩:=P23.xl he;exact n0 r2 B0 g C0
     rw[RG,ya];refine ay (λ z=>m _ (T6 (show(decide _&&dc _ _ _)=false by rw[z,pK])) _ (af.refl _)) λ z=>?_;have z:=(pv _).mp z;refine⟨_,rfl,⟨_,ao.of (s5 _ _ f1),_,eB,l,us,o,_,_,up,rfl,(Z.same (R.trans c0)).a,u,λ H6 S=>⟨_,rfl,ay (λ y=>m _ (T6 (show(decide _&&dc _ _ _)=false by rw[z,pw];exact y)) _ S) λ y=>ge (show(decide _&&dc _ _ _)=true by rw[z,pw];exact(pv _).mp y) _ S⟩⟩⟩
   walk_at "n x1";refine⟨_,b0,_,eB,?_⟩;cases he:r.elder with
   |none=>exact ay (λ ω=>go _ _ (af.refl _) (by unfold mx;rw[he];exact .non)) λ z=>T7 rfl z
   |some e=>
    rw[he]at b0;obtain⟨u1,u2⟩:=u.ch e (u0 r rm e he);refine ay (λ z=>by cases z) λ ω=>⟨_,b0,_,eB,l,us,o,e,h.1,up e,rfl,Z.same R,u1,u2,λ v H4 X hf=>go v H4 X (by unfold mx;rw[he];exact hf)⟩
  ·obtain⟨vs,I,M,sJ,U,hA,e0,hC,O,rfl⟩:=hJ;rw[lhs,jV]at hC;rw[<-hC]at hR;exact⟨vs,I,some (V.ref t)::M,sJ,U,hA,qR,hR,by rw[dv,O],rfl⟩
 ·obtain⟨vs,I,M,sI,U,hA,e0,hR,O,rfl⟩:=hI;rw[v0,jV]at hR;have p0:af H H':=gZ s1 sI h1;show uz2 _ _ _;walk_at "n z2";refine aE.of λ p2 H2 h2 s2 e2=>aE.of λ p3 H3 h3 s3 Y=>⟨_,s3 _ _ (s2 _ _ U),_,Y,by show _+1<=_;lia,aE.of λ p4 H4 h4 X e4=>q _ _ (p0.trans (s2.trans (s3.trans X))) ?_⟩;rw[show mj o up c=.inr (I++[[("number":V2)]])by unfold mj;rw[hr0,<-hR];rfl];refine .kinds e4 (.lst (ai.of e4) (sy ((hA.mono λ v k ⟨a,e,_,z⟩=>?_).snoc ⟨p2,rfl,X _ _ (s3 _ _ e2)⟩)));exact⟨a,e,(s2.trans (s3.trans X)) _ _ z⟩
def gj(k:V0)(H:Hp):Hp:=λ b=>if b=k then none else H b
theorem qk{k b:V0}(n:b≠k):gj k H b=H b:=T5 n
theorem md{k:V0}:af (gj k H) H:=λ b o e=>by
 unfold gj at e;split at e
 ·cases e
 ·exact e
theorem CO{k:V0}(s:SX k H H'):af (gj k H) (gj k H'):=λ b o e=>by
 by_cases n:b=k
 ·rw[n]at e;unfold gj at e;rw[T6 rfl]at e;cases e
 ·rw[qk n]at e ⊢;exact s _ _ n e
inductive Pr(K:X0)(H:Hp):V->Prop
 |mk{t:V0}{x y:V}{d:PyData}:H t=some (.tup [x,y])->dm K H x d->dm K H y d->Lay 4 d->Pr K H (.ref t)
theorem Pr.same{K:X0}{v:V}(h:Pr K H v)(s:af H H'):Pr K H' v:=by
 cases h with
 |mk a b c d=>exact .mk (s _ _ a) (b.same s) (c.same s) d
structure Sm(K:X0)(H:Hp)(l a d k:V0)(us:List V)(ks:List (List V2))(ps:List V):Prop where
 e0:H l=some (.lst (us++[.ref a]))
 e1:A2 (ng l H) us ks
 e2:aZ H a ["number"]
 al:a≠l
 au:V.ref a∉us
 e3:dm K H (.ref d) (jn (ks++[[("number":V2)]]))
 e4:H k=some (.lst ps)
 kl:k≠l
 ka:k≠a
 ku:V.ref k∉us
 lp:ps.length<=100
 lk:ks.length<=1000
 le:∀k∈ks,k.length<=1000/\∀x∈k,bC x
inductive zx(K:X0)(vs:List V)(H:Hp)(Q:VK):Prop
 |mk(l a d k:V0)(us:List V)(ks:List (List V2))(ps:List V)(a1:vs=[.ref l,.ref d,.ref k])(a2:Sm K H l a d k us ks ps)(a3:∀H' p1 p2,(∀b o,b≠l->b≠a->b≠k->H b=some o->H' b=some o)->H' k=some (.lst (ps++[p1,p2]))->Pr K (gj k H') p1->Pr K (gj k H') p2->Q (.bl true) H'):zx K vs H Q
def EC(K:X0):Sp:=λ vs H Q ω=>zx K vs H Q
theorem KL(T:∅):aO P w K mg base 1 "_law_same" ["_law_found_here","_law_due_here","_law_kept"] (EC K):=by
 walk_at "h OS GD 3"
 obtain⟨l,a,d,k,us,ks,ps,rfl,m,q⟩:=h;refine⟨_,(aw (bu (PW.pt (oF (ko (i6 (gI (r:=dX K) sY rfl T.jO jM (qJ (ae 0) (qr (v:=.ty "list") rfl T.lJ mL rfl))))) (oF (qM (r:=gO K) (qo hr.units) (ae 0) (ae 1)) (qp (qM (r:=ji K) (yP hr.units) (n9 rfl (ak.plain (N:=["_law_row"]) rfl qP qP qP) (eH (ae 0)) s!"j" (λ C fp s H=>(ko (i6 (gI (r:=dX K) sY rfl T.jO jM (qJ (ae 0) (qr (v:=.ty "list") rfl T.lJ mL rfl)))))) (λ C fp s H=>(ae 0))) (bK dO)))))) (aC (aY jG)) bL) (aw (eZ Qs rfl (eH (ae 0)) (qH 3 GD.nd) (aC (bu (qM (r:=ji K) (yP hr.units) (n9 rfl (ak.plain (N:=["_law_kind_here"]) rfl qP qP qP) (eH (ae 3)) (λ C fp s H=>(qH 0 (show(["_law_kind_here"]:List V2).Nodup by decide+kernel))) (λ C fp s H=>(ko (i6 (gI (r:=dX K) sY rfl T.jO jM (qJ (ae 0) (qr (v:=.ty "str") rfl T.z_str yD rfl)))))) (λ C fp s H=>(ae 0))) (bK dO)) (aC (aY jG)) bL))) (aw (d8 (eE eu fY fX fK (ae 2) (qI (bz (qJ (qD K (ae 0) qN) (aB gF (d7 qX rfl T.lJ mL (qI (qD K (ae 0) qN))) (bK (qI aX)))))))) (aw (d8 (eE eu fY fX fK (qD K (ae 0) qN) (qI aX))) (aw (d8 (eE eu fY fX fK (ae 2) (qI (bz (qJ (ae 0) (aB gF (eF rfl (ak.plain (N:=["_law_row"]) rfl qP qP qP) (eH (ae 0)) s!"j" (λ C fp s H=>(d7 (r:=G9 K) qX rfl T.lJ mL (qI (ae 0))))) (bK (qI (bK dO))))))))) (aw (d8 (eE eu fY fX fK (ae 0) (qI (bK dO)))) (aC (aY jG)))))))),?_⟩;walk_at "s 7 z";have Q0:dm K H (.ref l) (jn (ks++[[("number":V2)]])):=.lst (ai.of m.e0) (sy ((m.e1.mono λ v k ⟨b,e,_,z⟩=>⟨b,e,z⟩).snoc ⟨a,rfl,m.e2⟩));have o1:=m.e1.len;have lk:=m.lk;have lu:(us++[V.ref a]).length<=1001:=by rw[bB,jD];lia
 have sok:∀k∈ks++[[("number":V2)]],∀x∈k,bC x:=λ k u x hx=>by
  rcases dy.mp u with u|u
  ·exact(m.le k u).2 x hx
  ·cases cu.mp u;cases cu.mp hx;exact⟨qP,qP⟩
 have ly:∀X:List (List V2),(∀k∈X,∀x∈k,bC x)->Lay 2 (jn X):=λ X u=>Lay.lst (dF.of λ d hd=>by
  obtain⟨k,R0,rfl⟩:=bE.mp hd;exact mT (u k R0))
 have m0:=ly _ sok;have row:∀v∈us++[V.ref a],∃b g,v=.ref b/\b≠l/\b≠k/\aZ H b g/\g.length<=1000:=λ v Y=>by
  rcases dy.mp Y with Y|Y
  ·obtain⟨i,hi⟩:=eS Y;obtain⟨g,h1,b,rfl,h2,h3⟩:=m.e1.at hi;exact⟨b,g,rfl,h2,(λ z=>m.ku (z▸Y)),h3,(m.le g (bN h1)).1⟩
  ·cases cu.mp Y;exact⟨a,_,rfl,m.al,Ne.symm m.ka,m.e2,qQ⟩
 refine Dx m.e0 ⟨true,rfl,ay (λ z=>by cases z) λ ω=>⟨_,Q0,_,m.e3,m0.shaped qQ,m0.shaped qQ,ay (λ z=>by rw[m0.eqv]at z;cases z) λ ω=>⟨⟨_,ai.of m.e0⟩,λ D hD=>?_⟩⟩⟩;refine xr (ys:=us++[.ref a]) none [] (λ ω=>false) rfl hD (by rw[Qk];lia) (λ H1 s=>ai.of (s _ _ m.e0)) (λ i y hy H1 K' s X=>?_) (λ zs H1 s1 hz ω n0=>?_)
 ·obtain⟨b,g,rfl,ω,ω,hb,ω⟩:=row y (bN hy);walk_at "r";exact Dx (s _ _ hb) ⟨_,rfl,X _ (af.refl _)⟩
 cases n0 λ ω ω=>rfl;refine aE.of λ p2 H2 h2 s2 e2=>⟨_,rfl,_,ai.of (s2 _ _ hz),ai.of e2,ay (λ z=>by cases z) λ ω=>?_⟩;walk_at "n z1";have S2:=s1.trans s2;refine⟨⟨_,ai.of (S2 _ _ m.e0)⟩,?_⟩;refine kA (us++[.ref a]) (λ ω σ H'=>af H H'/\∃o,σ=[some (V.ref l),some (V.ref d),some (V.ref k),o]) ⟨S2,none,rfl⟩ (λ i σ H' ω hI=>ai.of (hI.1 _ _ m.e0)) (λ i y σ H' hy hI=>?_) (λ σ H3 hI=>?_)
 ·obtain⟨U,o,rfl⟩:=hI;obtain⟨b,g,rfl,ω,ω,hb,p1⟩:=row y (bN hy);walk_at "r";refine⟨⟨_,ai.of (U _ _ hb)⟩,λ D hD=>xr (ys:=g.map V.str) none [] (λ ω=>false) rfl hD (by rw[Qk,aA];lia) (λ H1 s=>ai.of (s _ _ (U _ _ hb))) (λ i y hy H1 K' s X=>?_) (λ zs H1 s1 hz ω n0=>?_)⟩
  ·obtain⟨x,ω,rfl⟩:=bE.mp (bN hy);walk_at "r";exact X _ (af.refl _)
  ·cases n0 λ ω ω=>rfl;refine aE.of λ p2 H2 h2 s2 e2=>⟨_,rfl,_,ai.of (s2 _ _ hz),ai.of e2,ay (λ z=>by cases z) λ ω=>⟨U.trans (s1.trans s2),_,rfl⟩⟩
 obtain⟨U,o,rfl⟩:=hI;show uz2 _ _ _;walk_at "n z2";have el:=U _ _ m.e0;have ea:=U _ _ m.e2;refine⟨.inl ⟨rfl,_,ai.of (U _ _ m.e4)⟩,⟨_,ai.of el,_,w6 _ _,⟨_,ai.of el,_,w6 _ _,a,rfl,_,.inl (ai.of ea),λ l4 h4=>?_⟩⟩⟩;have s4:=bM h4 (.lst (jW V.str [("number":V2)]));have e4:ag H3 l4 (.lst (jW V.str [("number":V2)])) l4=some (.lst [.str "number"]):=aG;generalize ag H3 l4 (.lst (jW V.str [("number":V2)]))=H4 at*;refine aE.of λ p5 H5 h5 s5 e5=>⟨_,s5 _ _ e4,_,e5,by show 2<=_;lia,aE.of λ p6 H6 h6 s6 e6=>aE.of λ L H7 h7 s7 e7=>?_⟩;have S7:=U.trans (s4.trans (s5.trans (s6.trans s7)));have lp:=m.lp;refine⟨ps,S7 _ _ m.e4,qR,?_⟩;have s0:p6≠k:=nq (s5 _ _ (s4 _ _ (U _ _ m.e4))) h6;have t0:L≠k:=nq (s6 _ _ (s5 _ _ (s4 _ _ (U _ _ m.e4)))) h7;have e7:ag H7 k (.lst (ps++[.ref L])) L=some (.tup [.ref a,.ref p6]):=by rw[aD t0];exact e7
 have e6:ag H7 k (.lst (ps++[.ref L])) p6=some (.lst [.str "number",.str "more"]):=by rw[aD s0];exact s7 _ _ e6
 have x8:SX k H7 (ag H7 k (.lst (ps++[.ref L]))):=SX.put _;have e8:ag H7 k (.lst (ps++[.ref L])) k=some (.lst (ps++[.ref L])):=aG;generalize ag H7 k (.lst (ps++[.ref L]))=H8 at*;have u0:=x8 _ _ (Ne.symm m.kl) (S7 _ _ m.e0);have v0:=x8 _ _ (Ne.symm m.ka) (S7 _ _ m.e2);walk_at "n z3";refine⟨_,ai.of u0,_,w6 _ _,.inl ⟨rfl,_,ai.of v0⟩,a,rfl,_,v0,by show 1<_;lia,?_⟩;have x9:SX a H8 (ag H8 a (.lst (jW V.str [("number":V2)]++[.str "more"]))):=SX.put _;have e9:ag H8 a (.lst (jW V.str [("number":V2)]++[.str "more"])) a=some (.lst [.str "number",.str "more"]):=aG;generalize ag H8 a (.lst (jW V.str [("number":V2)]++[.str "more"]))=H9 at*;have S0:p6≠a:=nq (s5 _ _ (s4 _ _ (U _ _ m.e2))) h6;have T0:L≠a:=nq (s6 _ _ (s5 _ _ (s4 _ _ (U _ _ m.e2)))) h7;have R9:∀b o,b≠a->b≠k->H b=some o->H9 b=some o:=λ b o na R e=>x9 _ _ na (x8 _ _ R (S7 _ _ e));have M:=x9 _ _ (Ne.symm m.al) u0;have S:=x9 _ _ m.ka e8;have U0:=x9 _ _ S0 e6;have Y0:=x9 _ _ T0 e7;walk_at "n z4";have O:A2 (λ v g=>∃b,v=V.ref b/\b≠l/\b≠k/\aZ H9 b g) (us++[.ref a]) (ks++[[("number":V2),"more"]]):=by
  refine(m.e1.monoM λ v g Y ⟨b,e,n,z⟩=>?_).snoc ⟨a,rfl,m.al,Ne.symm m.ka,e9⟩;subst e;have R:b≠k:=λ z=>m.ku (z▸Y);exact⟨b,rfl,n,R,R9 _ _ (λ z=>m.au (z▸Y)) R z⟩
 have I:∀{G:Hp}{b c:V0}{o:HO},af H9 G->H9 c=some o->G b=none->b≠c:=λ s e n=>nq (s _ _ e) n;refine⟨.inl ⟨rfl,_,ai.of S⟩,⟨_,ai.of M⟩,λ D hD=>?_⟩;refine Fd (ys:=us++[.ref a]) none [] (λ j v H=>∃b g,(ks++[[("number":V2),"more"]])[j]?=some g/\v=V.ref b/\b≠D/\b≠k/\b≠l/\aZ H b g) (λ j v H1 H2 ⟨b,g,h1,h2,h3,h4,h5,h6⟩ sx=>⟨b,g,h1,h2,h3,h4,h5,sx _ _ h3 h6⟩) rfl hD (by rw[Qk];lia) (λ H1 s=>ai.of (s _ _ M)) (λ i y hy H1 K' s ⟨vs,Z0⟩ X=>?_) (λ vs q1 f0 Y lv hR=>?_)
 ·obtain⟨g,a1,b,rfl,ω,ω,hb⟩:=O.at hy;walk_at "r";exact⟨_,_,rfl,.inl (ai.of (s _ _ hb)),λ l1 g0=>X _ _ (bM g0 _) ⟨l1,g,a1,rfl,nq Z0 g0,I s S g0,I s M g0,aG⟩⟩
 have r1:vs.length<=1001:=by lia
 refine aE.of λ w0 t1 x0 h0 b1=>aE.of λ u1 v1 w1 Z c1=>⟨_,rfl,_,Z _ _ (h0 _ _ Y),_,c1,by show _+1<=_;lia,aE.of λ x1 y1 y0 i0 d1=>aE.of λ a0 b0 z0 c0 e1=>⟨_,(f0.trans (h0.trans (Z.trans (i0.trans c0)))) _ _ S,by rw[bB,jD];lia,?_⟩⟩;have f1:=f0.trans h0;have o0:=f1.trans Z;have p0:=o0.trans i0;have q0:=p0.trans c0;have A0:=I f0 S x0;have B0:=I o0 S y0;have C0:=I p0 S z0;have D0:=I f0 M x0;have G0:=I o0 M y0;have I0:=I p0 M z0;have r0:SX k b0 (ag b0 k (.lst (ps++[.ref L]++[.ref a0]))):=SX.put _;have J0:ag b0 k (.lst (ps++[.ref L]++[.ref a0])) k=some (.lst (ps++[.ref L]++[.ref a0])):=aG;generalize ag b0 k (.lst (ps++[.ref L]++[.ref a0]))=z1 at*;have d0:=r0 _ _ (Ne.symm m.kl) (q0 _ _ M);walk_at "n z5";refine⟨.inl ⟨rfl,_,ai.of d0⟩,aE.of λ p j0 L0 k0 g1=>⟨_,k0 _ _ d0,qR,?_⟩⟩;have M0:p≠l:=nq d0 L0;have N0:p≠k:=nq J0 L0;have l0:SX l j0 (ag j0 l (.lst (us++[.ref a]++[.ref p]))):=SX.put _;have i1:ag j0 l (.lst (us++[.ref a]++[.ref p])) l=some (.lst (us++[.ref a]++[.ref p])):=aG;generalize ag j0 l (.lst (us++[.ref a]++[.ref p]))=J at*;walk_at "n z6";have e0:∀b o,b≠k->b≠l->b0 b=some o->gj k J b=some o:=λ b o R nl e=>by
  rw[qk R];exact l0 _ _ nl (k0 _ _ (r0 _ _ R e))
 have Z9:∀b o,b≠k->b≠l->H9 b=some o->gj k J b=some o:=λ b o R nl e=>e0 b o R nl (q0 _ _ e);have zl:gj k J l=some (.lst (us++[.ref a]++[.ref p])):=by rw[qk (Ne.symm m.kl)];exact i1
 have j1:aZ (gj k J) p []:=by unfold aZ;rw[qk N0];exact l0 _ _ M0 g1
 have k1:aZ (gj k J) w0 []:=e0 _ _ A0 D0 (c0 _ _ (i0 _ _ (Z _ _ b1)));have m1:p6≠l:=nq (s5 _ _ (s4 _ _ el)) h6;have n1:L≠l:=nq (s6 _ _ (s5 _ _ (s4 _ _ el))) h7;have mo:bC ("number":V2)/\bC ("more":V2):=⟨⟨qP,qP⟩,qP,qP⟩;have l2:∀x∈[("number":V2),"more"],bC x:=λ x hx=>by
  rcases bH.mp hx with rfl|hx
  ·exact mo.1
  ·cases cu.mp hx;exact mo.2
 have lz:Lay 4 (jn ((ks++[[("number":V2),"more"]])++[[]])):=(ly _ λ X u x hx=>by
  rcases dy.mp u with u|u
  ·rcases dy.mp u with u|u
   ·exact(m.le X u).2 x hx
   ·cases cu.mp u;exact l2 x hx
  ·cases cu.mp u;cases hx).mono qQ
 have O0:∀{b:V0},gj k J b=some (.lst [.str "number",.str "more"])->dm K (gj k J) (.ref b) (.list ([("number":V2),"more"].map .str)):=λ e=>.lst (ai.of e) (nX [("number":V2),"more"]);refine q J (.ref L) (.ref a0) (λ b o nl na R e=>?_) ?_ (.mk (Z9 _ _ t0 n1 Y0) (O0 (Z9 _ _ (Ne.symm m.ka) m.al e9)) (O0 (Z9 _ _ s0 m1 U0)) ((mT l2).mono qQ)) (.mk (e0 _ _ C0 I0 e1) (.lst (ai.of zl) (sy ((O.mono λ v g ⟨b,e,nl,R,z⟩=>⟨b,e,Z9 _ _ R nl z⟩).snoc ⟨p,rfl,j1⟩))) (.lst (ai.of (e0 _ _ B0 G0 (c0 _ _ d1))) (sy (A2.snoc (A2.of (by rw[lv];exact O.len) λ j v hj=>?_) ⟨w0,rfl,k1⟩))) lz)
 ·exact l0 _ _ nl (k0 _ _ (r0 _ _ R (q0 _ _ (R9 _ _ na R e))))
 ·rw[l0 _ _ m.kl (k0 _ _ J0),iX];rfl
 ·obtain⟨b,g,h1,h2,ω,h4,h5,h6⟩:=hR j v hj;exact⟨g,h1,b,h2,e0 _ _ h4 h5 ((h0.trans (Z.trans (i0.trans c0))) _ _ h6)⟩
open P23 (ff)
theorem Lay.pair{p:V2×V2}(h:bC p.1/\bC p.2):Lay 1 (.tuple [.str p.1,.str p.2]):=Lay.tup (.cons (.str h.1) (.cons (.str h.2) .nil))
theorem Lay.pairsD{fs:List (V2×V2)}(h:∀f∈fs,bC f.1/\bC f.2):Lay 2 (WK.pairsD fs):=Lay.tup (dF.of λ d hd=>by
 obtain⟨p,b,rfl⟩:=bE.mp hd;exact Lay.pair (h p b))
theorem F8{rs:List Rw}(ok:di rs):∃ch:V2->List V2,∀x∈rs.map Rw.name,aL (da rs) x (ch x)/\(ch x).length<=12:=by
 have h:∀x:V2,∃b,x∈rs.map Rw.name->aL (da rs) x b/\b.length<=12:=λ x=>by
  by_cases c:x∈rs.map Rw.name
  ·obtain⟨r,hr,rfl⟩:=bE.mp c;obtain⟨b,e,i⟩:=P23.yh.ex ok hr;exact⟨b,λ ω=>⟨i.ch,i.le⟩⟩
  ·exact⟨[],λ z=>T7 z c⟩
 exact⟨λ x=>Classical.choose (h x),λ x c=>Classical.choose_spec (h x) c⟩
theorem FH{rs:List Rw}(ok:di rs)(e:∀x∈rs.map Rw.name,x∉NN):∃up,dh rs up:=by
 obtain⟨g,c⟩:=F8 ok;refine⟨λ x=>if x∈rs.map Rw.name then g x else[],λ x b=>?_,λ x b=>?_,e⟩
 ·rw[T6 b];exact c x b
 ·exact T5 b
theorem vb(i:Int):P15.Ok (c8 i)/\(c8 i).flat.length=1:=⟨.mk rfl (λ p b=>by cases b),rfl⟩
theorem Dz{h:Hd}:∀t∈args h,P15.Ok t/\t.flat.length=1:=λ t b=>by
 obtain⟨p,ω,rfl⟩:=bE.mp b;exact⟨.mk rfl λ p c=>(by cases c),rfl⟩
theorem E5(h:∀t∈ts,t.flat.length=1):(aU ts).length=ts.length:=by
 induction ts with
 |nil=>rfl
 |cons t ts b=>
  show(aU ts++t.flat).length=_;rw[bB,b λ t c=>h t (dz _ c),h t dR];rfl
theorem DG{w:V2}(h:∀t∈ts,P15.Ok t/\t.flat.length=1):P15.Ok (.mk .call (.str w) (cq::ts))/\(Tm.mk .call (.str w) (cq::ts)).flat.length=ts.length+2:=by
 refine⟨.mk (show 1<=ts.length+1 by lia) λ p b=>?_,?_⟩
 ·rcases bH.mp b with rfl|b
  ·exact .mk rfl λ p b=>by cases b
  ·exact(h p b).1
 ·show(aU ts++cq.flat).length+1=_;rw[bB,E5 λ t c=>(h t c).2];rfl
theorem Dr{h:Hd}{c:Int}(l:h.2.1.length<=4):P15.Ok (gs h c)/\(gs h c).flat.length<=100:=by
 have i:(args h).length=h.2.1.length:=aA _;unfold gs;split
 ·refine⟨.mk rfl λ p g=>?_,by show gB [_,_]<=100;decide⟩;cases cu.mp g;exact(vb 3).1
 split
 ·obtain⟨a,b⟩:=DG (w:=h.1) (ts:=args h++[c8 1]) λ t e=>by
   rcases dy.mp e with e|e
   ·exact Dz t e
   ·cases cu.mp e;exact vb 1
  exact⟨a,by rw[b,bB,jD];lia⟩
 split
 ·exact⟨(vb 3).1,by show gB [_]<=100;decide⟩
 ·obtain⟨a,b⟩:=DG (w:=h.1) (ts:=args h) Dz;exact⟨a,by rw[b];lia⟩
theorem cw:bC ("number":V2)/\bC ("name":V2)/\bC ("self":V2)/\bC ("call":V2)/\bC ("not":V2):=⟨⟨qP,qP⟩,⟨qP,qP⟩,⟨qP,qP⟩,⟨qP,qP⟩,⟨qP,qP⟩⟩
theorem sF{k:Nat}(i:Int):Lay (k+1) (c8 i).dat:=Lay.tup (.cons (.str cw.1) (.cons .int .nil))
theorem zi{w:V2}(b:bC w)(h:∀t∈ts,Lay 1 t.dat):Lay 3 (Tm.mk .call (.str w) (cq::ts)).dat:=Lay.tup (.cons (.str cw.2.2.2.1) (.cons ((Lay.tup (k:=0) (.cons (.str cw.2.2.1) .nil):Lay 1 cq.dat).mono qQ) (.cons (.str b) (.cons (Lay.tup (k:=1) (by
 rw[zu];refine dF.of λ d hd=>?_;obtain⟨t,c,rfl⟩:=bE.mp hd;exact h t c)) .nil))))
theorem Kk{h:Hd}{c:Int}(g:bC h.1)(j:∀p∈h.2.1,bC p.1):Lay 3 (gs h c).dat:=by
 have i:∀t∈args h,Lay 1 t.dat:=λ t b=>by
  obtain⟨p,e,rfl⟩:=bE.mp b;exact Lay.tup (.cons (.str cw.2.1) (.cons (.str (j p e)) .nil))
 unfold gs;split
 ·exact Lay.tup (.cons (.str cw.2.2.2.2) (.cons (sF (k:=1) 3) .nil))
 split
 ·refine zi g λ t b=>?_;rcases dy.mp b with b|b
  ·exact i t b
  ·cases cu.mp b;exact sF 1
 split
 ·exact sF 3
 ·exact zi g i
theorem Fl{K:X0}:QN K (.type "list") (.type "str")=some false:=by with_unfolding_all rfl
theorem E4{K:X0}{a:V0}(h:H a=some (.lst xs))(q:Q (.bl false) H):dX K [.ref a,.ty "str"] H Q:=⟨_,_,_,_,_,rfl,rfl,.lst h,Fl,q⟩
def GO(K:X0)(H:Hp)(k:V0)(σ0:Option V->St)(i:Nat)(σ:St)(H':Hp):Prop:=∃(ps:List V)(o:Option V),SX k H H'/\H' k=some (.lst ps)/\ps.length<=2*i/\(∀p∈ps,Pr K (gj k H') p)/\σ=σ0 o
structure Pd(K:X0)(c:CS)(H:Hp)(u v:V)(G:Pg):Prop where
 pg:iP K c H u G
 du:∃r:V2 ⊕ List (List V2),KG G r/\hV K H v (r.elim .inl λ ks=>.inr (ks++[[("number":V2)]]))/\∀ks,r=.inr ks->ks.length<=1000/\∀k∈ks,P23.Bk k
theorem Pd.same{K:X0}{c:CS}{u v:V}(h:Pd K c H u v G)(s:af H H'):Pd K c H' u v G:=by
 obtain⟨p,r,a,b,d⟩:=h;exact⟨p.same s,r,a,b.same s,d⟩
section
variable{odd:Nat->Int}{rs:List Rw}(ok:di rs)
include ok
theorem yw{r:Rw}(hr:r∈rs){m:Nat}{d:Wd}(hd:d∈(cT odd m r).words):∃h∈r.heads,∃way,d=fG h way:=P23.GZ hd
theorem me:lL (bw odd rs):=by
 refine⟨by rw[show(bw odd rs).houses.map Hs.name=rs.map Rw.name from P23.xG odd rs 0];exact ok.nd,λ X b=>?_⟩;obtain⟨r,hr,m,rfl⟩:=P23.yN b;obtain⟨i,j,c⟩:=ok.sm r hr;refine⟨λ d hd=>?_,by show r.fields.length<=100;lia,by show(cR odd m r.heads).length<=100;rw[P23.sS];lia⟩;obtain⟨h,e,g,rfl⟩:=yw ok hr hd;have l:=c h e;exact⟨(Dr l).1,(Dr l).2,by show h.2.1.length<=100;lia⟩
theorem zM:iN (bw odd rs).main:=⟨(vb 0).1,by show gB [_]<=100;decide,by show gB []<=100;decide⟩
theorem pQ:(bw odd rs).houses.length<=100:=by
 rw[show(bw odd rs).houses.length=rs.length from P23.Em odd rs 0];have:=ok.l12;lia
theorem ze{up:V2->List V2}(u:dh rs up):KG (bw odd rs) (df rs up odd rs []):=by
 refine⟨me ok,pQ ok,λ X c d hd=>?_,List.nodup_nil,up,P23.vt ok u,P23.FK ok u⟩;obtain⟨r,hr,m,rfl⟩:=P23.yN c;obtain⟨h,b,e,rfl⟩:=yw ok hr hd;have:=((ok.so r hr).2.2 h b).1.2;exact⟨(ok.dn r hr).2.2 h b,by show h.1.length<=1000;lia⟩
theorem zh{up:V2->List V2}:∀ks,df rs up odd rs []=.inr ks->ks.length<=1000/\∀k∈ks,P23.Bk k:=λ ks e=>by
 obtain⟨a,b⟩:=P23.HA ok rs [] ks (λ ω h=>h) (λ k h=>by cases h) e;have:=ok.l12;exact⟨by show _<=1000;rw[pD]at a;lia,b⟩
theorem pR:Lay 8 (k9 (bw odd rs)):=by
 have j:∀o:Option V2,(∀s,o=some s->bC s)->Lay 5 (oD o):=λ o n=>by
  cases o with
  |none=>exact .non
  |some s=>exact .str (n s rfl)
 have hl:∀X∈(bw odd rs).houses,Lay 6 (km X):=λ X b=>by
  obtain⟨r,hr,m,rfl⟩:=P23.yN b;obtain⟨q,u,v⟩:=ok.so r hr;refine Lay.tup (.cons (.str q) (.cons (j _ λ s x=>?_) (.cons ((Lay.pairsD u).mono qQ) (.cons (Lay.tup (k:=4) (dF.of λ d hd=>?_)) .nil))))
  ·obtain⟨y,c,e⟩:=bE.mp (P23.uX ok r hr s x);exact e▸(ok.so y c).1
  ·obtain⟨w,z,rfl⟩:=bE.mp hd;obtain⟨h,A,B,rfl⟩:=yw ok hr z;obtain⟨g,C,i⟩:=v h A;exact Lay.tup (.cons (.str g) (.cons ((Lay.pairsD i).mono qQ) (.cons (.str C) (.cons (Kk g λ p D=>(i p D).1) .nil))))
 refine Lay.tup (.cons (Lay.tup (k:=6) (dF.of λ d hd=>?_)) (.cons ((Lay.tup (k:=2) (.cons (Lay.pairsD (λ f E=>by cases E)) (.cons (.str cw.1) (.cons (sF (k:=1) 0) .nil)))).mono qQ) .nil));obtain⟨X,b,rfl⟩:=bE.mp hd;exact hl X b
end
end K34
end
section
namespace K34
open P15 (Lb Fm Tm bO gu ig Ok bW cW aU cG)
open PW (Vl Wd Hs Pg Sc Wt Ws gv Look aL lG cm oq j8 uM mh mY jN Step qV uL j_)
seal L2.PE L2.PA L2.PT L2.PS L2.fb L2.PG L2.kG L2.PI L2.PW
open P23 (Rw di da bC dh dc NN Hd bw aJ df mj ff d_ lD eO)
inductive CC(tb tb2:V0)(K:X0)(vs:List V)(H:Hp)(Q:VK):Prop
 |mk(a:V0)(ns:List Int)(a1:vs=[.ref a])(a2:ai K H a (ns.map V.int))(a3:ns.length<=63)(a4:H tb=some (.tbl #[]))(a5:H tb2=some (.tbl #[]))(a6:∀H',Q (.bl true) H'):CC tb tb2 K vs H Q
def fN(tb tb2:V0)(K:X0):Sp:=λ vs H Q ω=>CC tb tb2 K vs H Q
theorem iD{tb b:V0}{K:X0}{H:Hp}{a:V0}{ns:List Int}(hl:ns.length<=63)(e:H tb=some (.tbl #[]))(c:H b=some (.tbl #[]))(g:ai K H a (ns.map V.int)):fN tb b K [.ref a] H (λ v ω=>v=.bl true) λ ω ω ω=>False:=⟨a,ns,rfl,g,hl,e,c,λ ω=>rfl⟩
def Gg(H:Hp)(d:V0)(σ0:Option V->Option V->St)(i:Nat)(σ:St)(H':Hp):Prop:=∃(b:List (bD×V))(c:Nat->Int)(e g:Option V),SX d H H'/\H' d=some (.dK b)/\b.length<=i/\(∀n:Nat,(bg b (.inl (n:Int))).getD (.int 0)=.int (c n))/\σ=σ0 e g
variable{fd:Q_}
theorem JS(T:∅){f tb tb2:V0}(tne:tb2≠tb)(uS:aO P w K mg base 1 "_law_name" ["_law_cell","_law_k"] (wY K d_))(oy:aO P w K mg base 1 "_law_drawn" ["_law_script","_law_k"] (lF K))(Gi:aO P w K mg base 6 "_law_rows" ["_law_script"] (zC K tb))(GI:aO P w K mg base 5 "_law_put_otherwise" ["_law_script","_law_rows_here","_law_pool"] (CN K tb2))(BV:aO P w K mg base 2 "_law_plain_by" ["_law_rows_here","_law_odd"] (Ak K))(BS:aO P w K mg base 7 "program_of" ["plain"] (Bl s!"a" K))(BO:aO P w K mg base 3 "_law_due" ["_law_rows_here","_law_odd"] (Dl K))(Gx:aO P w K mg base 12 "_law_refused" ["_law_program","_law_due_here"] (DO s!"a" K))(Gn:aO P w K mg base 12 "_law_kinds" ["_law_program"] (Ar s!"a" K))(Gh:aO P w K mg base 1 "_law_same" ["_law_found_here","_law_due_here","_law_kept"] (EC K))(h_Program_plain:aT P w K mg base 4 Cp "plain" ["self"] (Ah s!"a" K))(F:iz K "law" "law" oA f fd):cj P w K mg base hZ 20 f fd ["_law_script"] (fN tb tb2 K):=by
  refine F.ok iQ (λ vs H Q E h=>?_) (λ cdv A outer s H vs Q E hr h=>?_)
  · obtain⟨a,ns,rfl,ω⟩:=h;rfl
  obtain⟨a,ns,rfl,sq,hl,htb,htb2,q⟩:=h;refine⟨_,(aw (jL rfl iQ.nd (i:=1) rfl rfl (ak.of (N:=["_law_k","_law_script"]) (nl:=[none,some 0]) (cl:=[("_law_script",s.heap.objs.size+1)]) rfl qP qP rfl (ei rfl) (nm:=["_law_script"]) rfl qP rfl (λ i hi j hj=>by
            match i,hi with
            | 0,_=>cases hj
             |1,_=>cases hj;exact s!"e"
            )) (iM rfl T.hH (qI az)) (λ C fp s H=>(qH 0 (show(["_law_k","_law_script"]:List V2).Nodup by decide+kernel))) (λ C fp s H=>(bq uS hr qR rfl (qJ (aB ee (bq oy hr qR rfl (qJ (ae 1) az)) az) (ae 0))))) (aw (qG 2 iQ.nd (bq GI hr qR rfl (qK (ae 0) (bq Gi hr qR rfl (qI (ae 0))) (ae 1)))) (aw (qG 3 iQ.nd (gI (zP rfl) rfl T.z_sum CA (qI (eF rfl (ak.plain (N:=["_law_row"]) rfl qP qP qP) (eH (ae 2)) s!"j" (λ C fp s H=>(gI (r:=jS K) Aj rfl T.z_len yM (qI (qA K 0)))))))) (aw (qG 4 iQ.nd sT) (aw (eZ Qs rfl (iM rfl T.hH (qI (aB cc (bq oy hr qR rfl (qJ (ae 0) az)) az))) (qH 5 iQ.nd) (aw (qG 6 iQ.nd (bq oy hr qR rfl (qJ (ae 0) (aB cU az (ae 5))))) (aC (wB (mB hr) (ae 4) (aB cc (ae 6) (aB cU (ae 3) az)) (aB cU az (aB cc (aB ee (ae 6) az) az)) rfl)))) (aw (jL rfl iQ.nd (i:=7) rfl rfl (ak.plain (N:=["_law_row"]) rfl qP qP qP) (eH (ae 2)) s!"j" (λ C fp s H=>(bz (cg (qA K 0) (qK fj (qA K 0) (qA K 0)))))) (aw (qG 8 iQ.nd (bK (qJ (bq BV hr qR rfl (qJ (ae 2) (ae 4))) (bq BV hr qR rfl (qJ (ae 7) sT))))) (aw (qG 9 iQ.nd (bK (qJ (bq BS hr qR rfl (qI (qD K (ae 8) az))) (bq BS hr qR rfl (qI (qD K (ae 8) az)))))) (aw (qG 10 iQ.nd (bK (qJ (bq BO hr qR rfl (qJ (ae 2) (ae 4))) (bq BO hr qR rfl (qJ (ae 7) sT))))) (aw (qG 11 iQ.nd (bK dO)) (aw (eZ Qs rfl (eY (bz (cg az (qK az az az)))) (qH 12 iQ.nd) (aC (bu (i6 (gI (r:=dX K) sY rfl T.jO jM (qJ (qD K (ae 10) (ae 12)) (qr (v:=.ty "str") rfl T.z_str yD rfl)))) (aC (bu (ko (i6 (bq Gx hr qR rfl (qJ (qD K (ae 9) (ae 12)) (qD K (ae 10) (ae 12)))))) (aC (aY jG)) bL)) (aC (bu (ko (i6 (bq Gh hr qR rfl (qK (bq Gn hr qR rfl (qI (qD K (ae 9) (ae 12)))) (qD K (ae 10) (ae 12)) (ae 11))))) (aC (aY jG)) bL))))) (aw (bu (qM (r:=gO K) (qo hr.units) (bK (qJ (jK (qD K (ae 9) az) T.Program.cl h_Program_plain hr qR) (jK (qD K (ae 9) az) T.Program.cl h_Program_plain hr qR))) (ae 8)) (aC (aY jG)) bL) (aC (aY (ja (r:=jT K) (CW hr.units) (n9 rfl (ak.plain (N:=["_law_pair"]) rfl qP qP qP) (eH (ae 11)) (λ C fp s H=>(qH 0 (show(["_law_pair"]:List V2).Nodup by decide+kernel))) (λ C fp s H=>(qM (r:=gO K) (qo hr.units) (qA K 0) (qA K 0))) (λ C fp s H=>(ae 0))) (bK dO) (kr _)))))))))))))))),?_⟩
  refine FL λ uz12 huz12 uz11 huz11 uz10 huz10 uz9 huz9 uz8 huz8 uz7 huz7 uz6 huz6 uz5 huz5 uz4 huz4 uz3 huz3 uz2 huz2 uz1 huz1=>?_;walk_at "r";intro D hD;refine qy (n:=26) none [some (.ref a)] (λ j v H=>v=.str (d_ ((lD ns 3).toNat/3) j)) (λ ω ω ω ω h ω=>h) rfl hD (by rw[Qk];lia) (λ j hj H4 K2 s4 kk2=>?_) (λ vs2 H1 s1 hD1 lvs2 hR2=>?_)
  · walk_at "r";refine⟨a,ns,3,rfl,sq.same s4,qR,λ r rz r0 r1=>?_⟩;obtain⟨R,rfl⟩:∃R:Nat,r=(R:Int):=⟨r.toNat,qR⟩;exact⟨_,rfl,R/3,j,by rw[show(R:Int)/3=((R/3:Nat):Int)by lia],hj,λ H5 s5=>kk2 _ _ s5 (by rw[<-rz,gf])⟩
  obtain⟨pool,hpool,l26,ndp,sop⟩:∃pool:List V2,aZ H1 D pool/\pool.length=26/\pool.Nodup/\∀x∈pool,bC x:=by
    refine⟨P23.my ((lD ns 3).toNat/3),?_,P23.zE _,P23.xb _ 26 (aS _),P23.xV _ 26 (aS _)⟩;show H1 D=_;rw[hD1];congr 2;refine lS λ j=>?_;unfold P23.my;rw[dH];by_cases hj:j<26
    · rw[a_,jk hj,aV qR];exact congrArg some (hR2 j _ (aV qR))
    · rw[ic qR,ic (by rw[aA,eU];lia)]
  have sq1:=sq.same s1;have t1:=s1 _ _ htb;walk_at "n z1";refine⟨a,ns,rfl,sq1,t1,λ l0 us0 rs0 H2 sx2 hl0 hrs0 pO nn0=>?_⟩;have nD:D≠tb:=nq t1 hpool;obtain⟨up,u0⟩:=FH pO nn0;have sq2:=rF sx2 t1 sq1;refine⟨a,l0,D,ns,us0,rs0,up,pool,rfl,sq2,hl0,hrs0,pO,u0,sx2 _ _ nD hpool,l26,ndp,sop,sx2 _ _ tne (s1 _ _ htb2),λ rl us rs H3 sx3 hB3 hlk=>?_⟩;have ok:=P23.IT pO hlk;have u:=P23.Ji hlk u0;have sq3:=rF sx3 (sx2 _ _ tne (s1 _ _ htb2)) sq2;clear sq2 sq1 hrs0 hl0 sx2 sx3 t1 hpool s1 hD1 hR2;have el:=P23.uX ok;have hdl:∀r∈rs,r.heads.length<=100:=λ r hr=>cb (ok.sm r hr).2.1 qQ;have hso:∀r∈rs,∀h∈r.heads,∀k∈aJ h.2.1,bC k:=λ r hr h hh k hk=>by
    obtain⟨p,hp,rfl⟩:=bE.mp hk;exact(((ok.so r hr).2.2 h hh).2.2 p hp).2
  have lus:=hB3.rw.len;have l12:=hB3.le;walk_at "n z2";refine⟨⟨_,ai.of hB3.ls⟩,λ D2 hD2=>?_⟩;refine mX (ys:=us) none [] (λ j v H=>∃n:Nat,v=.int (n:Int)) (λ ω ω ω ω h ω=>h) rfl hD2 (by rw[Qk];lia) (λ H1 s=>ai.of (s _ _ hB3.ls)) (λ i y hy H6 K' s6 k=>?_) (λ vs H4 s4 hv lv hR=>?_)
  · obtain⟨r,hr',ro⟩:=hB3.rw.at hy;cases ro with
    |@mk t ft hv _ g1 g2 g3=>
    obtain⟨ht,hs,rfl,q1,q2⟩:=g3.tup_inv;walk_at "r";exact⟨_,ao.same g1 s6,_,nQ,ht,rfl,_,.inr (ao.same q1 s6),k _ _ (af.refl _) ⟨_,rfl⟩⟩
  obtain⟨zs,rfl,hz⟩:∃zs:List Int,vs=zs.map V.int/\∀z∈zs,0<=z:=by
    clear hv lv;induction vs with
    |nil=>exact⟨[],rfl,λ z hz=>by cases hz⟩
    |cons v vs ih=>
      obtain⟨zs,rfl,h⟩:=ih λ j v hj=>hR (j+1) v hj;obtain⟨n,rfl⟩:=hR 0 v rfl;exact⟨n::zs,rfl,λ z hz=>(bH.mp hz).elim (λ e=>by rw[e];lia) (h z)⟩
  have hs0:0<=zs.sum:=by
    clear hv lv hR;induction zs with
    |nil=>exact Int.le_refl _
    |cons z zs ih=>
      have:=hz z dR;have:=ih λ z h=>hz z (dz _ h);rw[List.sum_cons];lia
  refine⟨_,rfl,zs,ai.of hv,?_⟩;have hB4:=hB3.same s4;have sq4:=sq3.same s4;generalize zs.sum=many at hs0;walk_at "n z3";intro d hd;have s5:=bM hd (.dK []);have e5:ag H4 d (.dK []) d=some (.dK []):=aG;generalize ag H4 d (.dK [])=H5 at*;walk_at "n z4";have sq5:=sq4.same s5;refine⟨a,ns,5,rfl,sq5,qR,λ r ω r0 r1=>⟨_,rfl,?_⟩⟩;refine⟨qR,qR,qU (Gg H5 d λ o1 o2=>[some (V.ref a),some (V.ref D),some (V.ref rl),some (V.int many),some (V.ref d),o1,o2,none,none,none,none,none,none]) ⟨[],λ ω=>0,none,none,λ ω ω ω h=>h,e5,bJ _,λ ω=>rfl,rfl⟩ (λ i σ H' hi hI=>?_) (λ σ H6 hI=>?_)⟩
  · obtain⟨kvs,odd,o1,o2,sx,ed,lk,hv,rfl⟩:=hI;walk_at "r";refine⟨a,ns,6+i,by rw[gP];rfl,C5 sx e5 sq5,qR,λ r ω r0 r1=>?_⟩;obtain⟨R,rfl⟩:∃R:Nat,r=(R:Int):=⟨r.toNat,qR⟩;refine⟨_,rfl,_,rfl,qR,_,gz.k (k:=.inl _) ed (by rw[Qk];lia),_,λ n=>if(n:Int)=(R:Int)%(many+1)then 1+(R:Int)/101%3 else odd n,_,_,sx.trans (SX.put _),aG,?_,λ n=>?_,rfl⟩
    · unfold bV;split
      · rw[aA];lia
      · rw[bB];show _+1<=_;lia
    · rw[xk];by_cases e:(n:Int)=(R:Int)%(many+1)
      · rw[T6 (congrArg Sum.inl e)];show V.int _=V.int (if _ then _ else _);rw[T6 e]
      · rw[T5 (λ z=>e (Sum.inl.inj z)),hv n];show V.int _=V.int (if _ then _ else _);rw[T5 e]
  obtain⟨kvs,odd,o1,o2,sx,ed,lk,hv,rfl⟩:=hI;have S6:af H4 H6:=gZ s5 sx hd;have hB6:=hB4.same S6;have hO:kH H6 d odd:=⟨kvs,ed,hv⟩;show uz5 _ _ _;walk_at "n z5";refine⟨⟨_,ai.of hB6.ls⟩,λ D3 hD3=>?_⟩;refine mX (ys:=us) none [] (λ j v H=>∃r,rs[j]?=some r/\dj K H v (ff r)) (λ _ _ _ _ ⟨r,e,h⟩ s=>⟨r,e,h.kp (iZ s)⟩) rfl hD3 (by rw[Qk];lia) (λ H1 s=>ai.of (s _ _ hB6.ls)) (λ i y hy H7 K' s7 k=>?_) (λ vs H7 s7 hv7 lv7 hR7=>?_)
  · obtain⟨r,hr',ro⟩:=hB6.rw.at hy;cases ro with
    |@mk t ft hv _ g1 g2 g3=>
    walk_at "r";have g1:=ao.same g1 s7;refine⟨_,g1,_,cL,⟨_,g1,_,pW,⟨_,g1,_,nQ,aE.of λ p2 H2 h2 s2 e2=>k _ _ s2 ⟨r,hr',.mk (ao.of e2) (g2.same (s7.trans s2)) (g3.same (s7.trans s2))⟩⟩⟩⟩
  have hA:jy K H7 D3 vs (rs.map ff):=by
    have e:(rs.map ff).map Rw.name=rs.map Rw.name:=by rw[dH];rfl
    refine⟨hv7,A2.of (by rw[lv7,lus,aA]) λ j v hj=>?_,by rw[e];exact hB6.nd,by rw[aA];exact l12,λ r hr=>?_⟩
    · obtain⟨r,h1,h2⟩:=hR7 j v hj;exact⟨_,by rw[a_,h1];rfl,h2⟩
    · obtain⟨r0,h0,rfl⟩:=bE.mp hr;exact hB6.pl r0 h0
  have j9:=P23.Js ok;have uA:=P23.JW u.nn;have hdlA:∀r∈rs.map ff,r.heads.length<=100:=λ r hr=>by
    obtain⟨r0,h0,rfl⟩:=bE.mp hr;exact hdl r0 h0
  have hsoA:∀r∈rs.map ff,∀h∈r.heads,∀k∈aJ h.2.1,bC k:=λ r hr=>by
    obtain⟨r0,h0,rfl⟩:=bE.mp hr;exact hso r0 h0
  have hB7:=hB6.same s7;have hO7:kH H7 d odd:=⟨kvs,s7 _ _ ed,hv⟩;clear hR7 hv7 lv7 sx hB6 hO sq4 sq5 hB4;walk_at "n z6";refine⟨rl,d,us,rs,odd,rfl,hB7,hdl,hO7,λ tv0 H8 s8 r0=>?_⟩;intro d2 hd2;have s9:=bM hd2 (.dK []);have e9:ag H8 d2 (.dK []) d2=some (.dK []):=aG;generalize ag H8 d2 (.dK [])=H9 at*;have S79:=s8.trans s9;have hA9:=hA.same S79;refine⟨D3,d2,vs,rs.map ff,λ ω=>0,rfl,hA9,hdlA,⟨[],e9,λ ω=>rfl⟩,λ tv1 H10 s10 r1=>aE.of λ tl H11 h11 s11 e11=>?_⟩;obtain⟨ly0,g0,kg0,m0,l0',gw0⟩:Lay 8 (k9 (bw odd rs))/\lL (bw odd rs)/\KG (bw odd rs) (df rs up odd rs [])/\iN (bw odd rs).main/\(bw odd rs).houses.length<=100/\(bw odd rs).main.name="main":=⟨pR ok,me ok,ze ok u,zM ok,pQ ok,rfl⟩;obtain⟨ly1,g1,kg1,m1,l1',gw1⟩:Lay 8 (k9 (bw (λ ω=>0) (rs.map ff)))/\lL (bw (λ ω=>0) (rs.map ff))/\KG (bw (λ ω=>0) (rs.map ff)) (df (rs.map ff) (λ ω=>[]) (λ ω=>0) (rs.map ff) [])/\iN (bw (λ ω=>0) (rs.map ff)).main/\(bw (λ ω=>0) (rs.map ff)).houses.length<=100/\(bw (λ ω=>0) (rs.map ff)).main.name="main":=⟨pR j9,me j9,ze j9 uA,zM j9,pQ j9,rfl⟩;generalize hG0:bw odd rs=G0 at*;generalize hG1:bw (λ ω=>0) (rs.map ff)=G1 at*;have r0:=r0.same (s9.trans (s10.trans s11));have r1:=r1.same s11;have S711:=S79.trans (s10.trans s11);walk_at "n z7";refine⟨_,ai.of e11,_,cL,tv0,G0,rfl,r0,g0.hs,l0',m0,gw0,λ u0 H12 s12 hp0=>⟨_,ai.of (s12 _ _ e11),_,eB,tv1,G1,rfl,r1.same s12,g1.hs,l1',m1,gw1,λ u1 H13 s13 hp1=>aE.of λ pl H14 h14 s14 e14=>?_⟩⟩;have hp0:=hp0.same (s13.trans s14);have hp1:=hp1.same s14;have S1114:=s12.trans (s13.trans s14);have S714:=S711.trans S1114;walk_at "n z8";refine⟨rl,d,us,rs,odd,up,rfl,hB7.same S714,hdl,⟨_,S714 _ _ (s7 _ _ ed),hv⟩,u,el,hso,λ v0 H15 s15 du0=>?_⟩;intro d3 hd3;have s16:=bM hd3 (.dK []);have e16:ag H15 d3 (.dK []) d3=some (.dK []):=aG;generalize ag H15 d3 (.dK [])=H16 at*;have S716:=S714.trans (s15.trans s16);refine⟨D3,d3,vs,rs.map ff,λ ω=>0,λ ω=>[],rfl,hA.same S716,hdlA,⟨[],e16,λ ω=>rfl⟩,uA,P23.uX j9,hsoA,λ v1 H17 s17 du1=>aE.of λ dl H18 h18 s18 e18=>?_⟩;have S1418:=s15.trans (s16.trans (s17.trans s18));have pd0:Pd K s!"a" H18 u0 v0 G0:=⟨hp0.same S1418,_,kg0,du0.same (s16.trans (s17.trans s18)),zh ok⟩;have pd1:Pd K s!"a" H18 u1 v1 G1:=⟨hp1.same S1418,_,kg1,du1.same s18,zh j9⟩;have e14:=S1418 _ _ e14;have e11:=(S1114.trans S1418) _ _ e11;have r0:=r0.same (S1114.trans S1418);have r1:=r1.same (S1114.trans S1418);clear hB7 hA hA9 du0 du1 hp0 hp1 kg0 kg1 s15 s16 s17 s18 S1418 S716 S714 S711 S79 s12 s13 s14 s10 s11 s9 s8 s7 s5 s4 S1114 hO7 hv;walk_at "n z9";refine aE.of λ kl H19 h19 s19 e19=>?_;walk_at "n z10";refine aE.of λ t4 H20 h20 s20 e20=>⟨⟨_,ao.of e20⟩,?_⟩;have e19:=s20 _ _ e19;have S20:=s19.trans s20;have nk:∀{b:V0}{o:HO},H18 b=some o->b≠kl:=λ e=>nq h19 e;have n4:t4≠kl:=nq e19 (show H20 t4=_ from e20);refine mS [V.int 0,V.int 1,V.int 0,V.int 1] (GO K H20 kl λ o=>[some (V.ref a),some (V.ref D),some (V.ref rl),some (V.int many),some (V.ref d),o1,o2,some (V.ref D3),some (V.ref tl),some (V.ref pl),some (V.ref dl),some (V.ref kl),o]) ⟨[],none,λ ω ω ω h=>h,e19,bJ _,(λ p hp=>by cases hp),rfl⟩ (λ i σ H' ω hI=>?_) (λ i y σ H' hy hI=>?_) (λ σ H' hI=>?_)
  · obtain⟨ps,o,sx,ω⟩:=hI;exact ao.of (sx _ _ n4 e20)
  · obtain⟨ps,o,sx,ek,lp,hpr,rfl⟩:=hI;have hz:af H18 (gj kl H'):=λ b oo e=>by
      rw[qk (nk e)];exact sx _ _ (nk e) (S20 _ _ e)
    have hzz:af H18 H':=λ b oo e=>sx _ _ (nk e) (S20 _ _ e);obtain⟨k,u,v,G,rfl,hu,hv,pd⟩:∃k u v G,y=.int k/\c7 [u0,u1] k=some u/\c7 [v0,v1] k=some v/\Pd K s!"a" H18 u v G:=by
      match i,hy with
      |0,hy=>cases hy;exact⟨_,_,_,_,rfl,cL,cL,pd0⟩
      |1,hy=>cases hy;exact⟨_,_,_,_,rfl,eB,eB,pd1⟩
      |2,hy=>cases hy;exact⟨_,_,_,_,rfl,cL,cL,pd0⟩
      |3,hy=>cases hy;exact⟨_,_,_,_,rfl,eB,eB,pd1⟩
    have lp6:ps.length<=6:=by
      have:=(bG.mp hy).1;have:i<4:=this;lia
    have pd:=pd.same hzz;have el:=hzz _ _ e14;have el2:=hzz _ _ e18;obtain⟨hp,r,kg,du,hb⟩:=pd;walk_at "r";refine⟨_,ai.of el2,_,hv,?_⟩;cases r with
    |inl x=>
      cases du with
      |word=>
        walk_at "r";exact⟨_,ai.of el,_,hu,⟨_,ai.of el2,_,hv,u,G,x,rfl,hp,kg,λ H2 s2=>⟨true,rfl,ay (λ z=>by cases z) λ ω=>⟨ps,_,sx.trans (SX.of s2),s2 _ _ ek,qR,λ p hp=>(hpr p hp).same (CO (SX.of s2)),rfl⟩⟩⟩⟩
    |inr ks=>
      cases du with
      |kinds d1 d2=>
        refine E4 d1 ⟨_,rfl,ay (λ z=>by cases z) λ ω=>?_⟩;refine⟨_,ai.of el,_,hu,u,G,ks,rfl,hp,kg,λ l us a' H2 hl0 s2 el3 hA ha0 ea nau=>⟨_,ai.of (s2 _ _ el2),_,hv,?_⟩⟩;obtain⟨lk,bk⟩:=hb ks rfl;have kl0:kl≠l:=nq hl0 ek;have ka0:kl≠a':=nq ha0 ek;refine⟨l,a',_,kl,us,ks,ps,rfl,⟨el3,hA.mono λ v k ⟨b,e,_,n,z⟩=>⟨b,e,n,z⟩,ea,λ z=>?_,nau,d2.same s2,s2 _ _ ek,kl0,ka0,λ hm=>?_,qR,lk,bk⟩,λ H3 p1 p2 fr ek3 q1 q2=>⟨true,rfl,ay (λ z=>by cases z) λ ω=>?_⟩⟩
        · rw[z]at ea;have:=ea.symm.trans el3;injection this with this
          injection this with this
          have:us++[V.ref l]=[V.str "number"]:=by rw[<-z];exact this.symm
          have:=congrArg List.getLast? this;rw[rX]at this;cases this
        · obtain⟨j,hj⟩:=eS hm;obtain⟨ω,ω,b,e,n0,ω⟩:=hA.at hj;cases e;rw[ek]at n0;cases n0
        · have sx3:SX kl H' H3:=λ b oo n e=>fr b oo (nq hl0 e) (nq ha0 e) n (s2 _ _ e);refine⟨ps++[p1,p2],_,sx.trans sx3,ek3,by rw[bB];show _+2<=_;lia,λ p hp=>?_,rfl⟩;rcases(dy.mp hp)with hp|hp
          · exact(hpr p hp).same (CO sx3)
          · rcases(bH.mp hp)with rfl|hp
            · exact q1
            · cases cu.mp hp;exact q2
  obtain⟨ps,o,sx,ek,lp,hpr,rfl⟩:=hI;have hzz:af H18 H':=λ b oo e=>sx _ _ (nk e) (S20 _ _ e);show uz11 _ _ _;walk_at "n z11";have el:=hzz _ _ e14;have pg0:=pd0.pg.same hzz;have pg1:=pd1.pg.same hzz;have tle:=hzz _ _ e11;have r0:=r0.same hzz;have r1:=r1.same hzz;have q0:=pg0;cases pg0 with
  |mk k1 k2 k3 k4=>
  refine⟨_,ai.of el,_,cL,⟨_,rfl,_,_,k1,rfl,_,G0,rfl,q0,l0',(λ h hh=>(g0.hs h hh).wl),λ w0 G2 t2 w0r=>⟨_,ai.of (t2 _ _ el),_,eB,?_⟩⟩⟩;have pg1:=pg1.same t2;have q1:=pg1;cases pg1 with
  |mk j1 j2 j3 j4=>
  refine⟨_,rfl,_,_,j1,rfl,_,G1,rfl,q1,l1',(λ h hh=>(g1.hs h hh).wl),λ w1 G3 t3 w1r=>aE.of λ p4 G4 h4 t4' e4=>?_⟩;have lyy:Lay 9 (.list [k9 G0,k9 G1]):=Lay.lst (.cons ly0 (.cons ly1 .nil));have t24:=t2.trans (t3.trans t4');refine⟨_,.lst (ai.of e4) (.cons (RT.rd (w0r.same (t3.trans t4'))) (.cons (RT.rd (w1r.same t4')) .nil)),_,.lst (ai.of (t24 _ _ tle)) (.cons (RT.rd (r0.same t24)) (.cons (RT.rd (r1.same t24)) .nil)),lyy.shaped qQ,lyy.shaped qQ,ay (λ z=>by rw[lyy.eqv]at z;cases z) λ ω=>?_⟩;walk_at "n z12";have ek4:=t24 _ _ ek;have lp:ps.length<=8:=lp;refine⟨⟨_,ai.of ek4⟩,λ D5 hD5=>xr (ys:=ps) none [] (λ ω=>false) rfl hD5 (by rw[Qk];lia) (λ H1 s=>ai.of (s _ _ ek4)) (λ i y hy H1 K' s kk=>?_) (λ zs H1 s1 hz ω hz2=>?_)⟩
  · have pr:=(hpr y (bN hy)).same (md.trans (t24.trans s));cases pr with
    |mk c1 c2 c3 c4=>
    walk_at "r";refine⟨_,ao.of c1,_,cL,⟨_,ao.of c1,_,eB,_,c2,_,c3,c4.shaped qQ,c4.shaped qQ,?_⟩⟩;rw[c4.eqv];exact kk _ (af.refl _)
  · cases hz2 λ ω ω=>rfl;exact aE.of λ p2 H2 h2 s2 e2=>⟨_,rfl,_,ai.of (s2 _ _ hz),ai.of e2,q _⟩
open K10 (mP wy)
theorem F7:bj ["self","word"] ["self","word"] (aR iE):=by walk_at "c"
section
variable{P:Program}{w:Y3}{K:X0}{mg:V2->Option V1}{base:Z3}
theorem F5{j C f:V0}{m:Q_}(F:iz K "__init__" "BadKind.__init__" iE f m)(r:mg "HouseError"=some (.ref j))(c:m4 K j)(n:iB K C (some f)=true)(fn:TR K (.ref f)=true)(cls:fT K C)(o:aK K C "word")(u:mg "BadKind"=some (.ref C))(kp:QR K (.ref C)=true):XW P w K mg base "BadKind" C:=by
 refine⟨u,kp,cls,o,f,m,n,fn,F.ok F7 (λ vs H Q E h=>?_) (λ cdv A outer s H vs Q E hr h=>?_),F.binds λ ω ω ω ω ω ω us hl=>el2 us hl λ ω ω=>rfl⟩
 ·obtain⟨x,i,rfl,ω⟩:=h;rfl
 obtain⟨x,z,rfl,p,B,q⟩:=h;refine⟨_,aw (d8 (K1 c rfl r (qJ (ae 0) (Je (Ea aX (Ea (GW (ae 1)) HJ)))))) (aC (IX (ae 0) (ae 1) rfl)),?_⟩;have v:∀z:V2,(Sl++z).length=z.length:=λ z=>by rw[<-mP,<-mP,wy];rfl
 have b:(Sl++("the kinds do not go together at: ":V2)++z).length<=Qj:=by
  rw[<-mP,wy,bB,mP,mP,v,Qk];have:("the kinds do not go together at: ":V2).length=33:=by decide
  lia
 have e:z.length<=Qj:=by rw[Qk];lia
 refine⟨_,rfl,qQ,.inr ⟨z,rfl,e,?_⟩⟩;refine⟨_,rfl,b,b,x,C,some f,none,_,rfl,p,n,(by show 1<=Qj;decide),?_⟩;exact⟨x,C,rfl,p,cls,o,λ y g=>q y g⟩
end
structure Ex(K:X0)(mg:V2->Option V1)(Hc ck fi:V0):Prop where
 X:EE K mg Hc ck
 W:∃fd,iz K "__init__" "BadKind.__init__" iE fi fd
 sup:m4 K Hc
 xC:iB K ck (some fi)=true
 fn:TR K (.ref fi)=true
 cls:fT K ck
 no:aK K ck "word"
 mC:mg "BadKind"=some (.ref ck)
 kp:QR K (.ref ck)=true
theorem qg{K:X0}{mg:V2->Option V1}{h:Z3}{c b fi A C D E:V0}{g e i j m n:V1}{od' o:Option V0}{p:Array (Option V1)}(X:K.In h)(G:h.Ns Qu mg)(H:Sq K Qu "HouseError"=some (some (.ref c)))(q:Sq K Qu "BadWords"=some (some (.ref A)))(r:Sq K Qu "BadName"=some (some (.ref C)))(u:Sq K Qu "BadKind"=some (some (.ref b)))(v:Sq K Qu "BadInput"=some (some (.ref E)))(x:Sq K Qu "BadForm"=some (some (.ref D)))(fI:QM K (.ref b) "__init__"=some (some (.ref fi)))(I:K.lookup fi=some ⟨g,od',.func (Rz "__init__" "BadKind.__init__" (fS iE) (eJ iE) (aR iE) .none i j m o e n),p⟩)(J:SQ K e "BadKind.__init__"=true)(L:QR K (.ref fi)=true)(M:TR K (.ref fi)=true)(N:Sq K Qu "ValueError"=some none)(O:SY K (.ref c) "__getattribute__"=some (some (.builtin "type.__getattribute__")))(Q:W.readsIn K c (.type "type")=true)(R:W.findCls K (.ref c) (.type "type") "__init__"=some (.val (.builtin "ValueError.__init__")))(S:iB K c none=true)(T:iB K b (some fi)=true)(U:QM K (.ref b) "__setattr__"=some (some (.builtin "object.__setattr__")))(Y:W.valueOver K b=true)(Z:Ss K b=true)(q4:QM K (.ref b) "__getattribute__"=some (some (.builtin "BaseException.__getattribute__")))(q5:QM K (.ref b) "__getattr__"=some none)(q6:S_ K b (.type "BaseException")=some true)(q7:QM K (.ref b) "__class__"=some (some (.builtin "object.__class__")))(q8:SY K (.builtin "object.__class__") "__get__"=some (some (.builtin "getset_descriptor.__get__")))(q9:W.takesIn K (.builtin "object.__class__")=some true)(y:S_ K b (.type "object")=some true)(no:QM K (.ref b) "word"=some none)(kB:QR K (.ref b)=true)(sub:S_ K b (.ref c)=some true)(kF:QN K (.ref b) (.ref D)=some false)(kN:QN K (.ref b) (.ref C)=some false)(kK:QN K (.ref b) (.ref A)=some false)(kIn:QN K (.ref b) (.ref E)=some false)(z:QN K (.ref b) (.type "ValueError")=some true):Ex K mg c b fi:=
  ⟨⟨SJ X G H,S,sub,⟨_,SJ X G q,kK⟩,⟨_,SJ X G r,kN⟩,⟨_,SJ X G x,kF⟩,⟨_,SJ X G v,kIn⟩,QG X G N,z⟩,⟨_,yG I J L⟩,⟨O,Q,R⟩,T,M,⟨U,Y,Z,q4,q5,q6,q7,q8,q9,y⟩,no,SJ X G u,kB⟩
theorem l6(T:∅){Hc fi:V0}(E:Ex K mg Hc aq fi){f tb U:V0}(a0:U≠tb)(FT:lM K mg "_law_order" m9 tb)(b0:lM K mg "_law_put_otherwise" m_ U)(hB:jC mg base)(F:iz K "law" "law" oA f fd):cj P w K mg base hZ 20 f fd ["_law_script"] (fN tb U K):=by
 obtain⟨X,⟨e0,FI⟩,c0,xC,fn,d0,no,mC,kp⟩:=E;have XK:=F5 (P:=P) (w:=w) (base:=base) FI X.mH c0 xC fn d0 no mC kp;have b:=JE (P:=P) (w:=w) (base:=base) T;have C:=Jm T FT hB b;have e:=Jh (P:=P) (w:=w) (base:=base) T;have z:=Mu T e;have m:=JN (P:=P) (w:=w) (base:=base) T;have I:=JM T b m C (FC T b) (Mb T b e) (LG T b e z);have M:=Jq (P:=P) (w:=w) (base:=base) T;have q:=Kn (P:=P) (w:=w) (base:=base) T;have N:=KQ (P:=P) (w:=w) (base:=base) T;have c:=Ll (P:=P) (w:=w) (base:=base) T;have D:=Mt (P:=P) (w:=w) (base:=base) T;have G:=Mp (P:=P) (w:=w) (base:=base) T;have J:=Jw (P:=P) (w:=w) (base:=base) T;have Q:=LH T q N (LZ T q) (JZ T M c G J);have r:=KJ (P:=P) (w:=w) (base:=base) T;have A:=ID (B:=λ ω=>none) (Cs:=0) (Cq:=0) (Ck:=0) T Q (Ke T r);have O:=J8 T A (KZ T r);have H:=Mc T A O (K5 (P:=P) (w:=w) (base:=base) T);have o:=Jn (P:=P) (w:=w) (base:=base) (B:=λ ω=>none) (Cs:=0) (Cq:=0) (Ck:=0) T;have g:=Lc (P:=P) (w:=w) (base:=base) (B:=λ ω=>none) (Cs:=0) (Cq:=0) (Ck:=0) T;have i:=LR T g;have n:=IJ T (Mi T i);have h:=Ih (P:=P) (w:=w) (base:=base) T;have p:=Mr T c (Lu T (LQ (B:=λ ω=>none) (Cl:=Cl) (Cs:=0) (Cq:=0) (Ck:=0) T c));have u:=Mv (P:=P) (w:=w) (base:=base) T;have L:=IG T u g;have v:=Md (P:=P) (w:=w) (base:=base) T;have R:=IL T XK;have Y:=Iy T R (E6 T u R i n (Kv T v L));have S:=KC T XK L (Ln T (LB (P:=P) (w:=w) (base:=base) T) Y D 2);have x:=My T o (Hx T XK v L n) S;have y:=Im T h;have j:=Lg T h;have Z:=Hh T b0 hB b h j (Jk T y);exact JS T a0 m b I Z (Ky T (JJ T)) H (Ik T j y) (IF T X XK x) (LJ T x) (KL T) p F
end K34
end
end
section
namespace K34
open PySem L2
theorem pT:∀P,(KB P).lookup 496=none:=λ ω=>by kernel_rfl
theorem pV:∀P,L2.bI (KB P) 500 496:=λ ω=>⟨none,#[(.str "_law_order" 857),(.str "_law_order" 858),(.str "/claim/cut.py" 859),(.int (336) 0),(.int (2) 0),(.int (0) 0),(.int (0) 0),(.int (3) 0),(.ref 495),(.bool true),(.int (181) 0),(.ref 496),.none,(.ref 497),(.ref 498),(.ref 499),(.int (863) 0),(.int (336) 0),(.str "/claim/cut.py" 864)],#[],"/claim/cut.py",864,3,0,true,181,0,by kernel_rfl,rfl,rfl,rfl,rfl,rfl,rfl,qQ⟩
theorem pS:∀P,(KB P).lookup 597=none:=λ ω=>by kernel_rfl
theorem pU:∀P,L2.bI (KB P) 599 597:=λ ω=>⟨none,#[(.str "_law_put_otherwise" 997),(.str "_law_put_otherwise" 998),(.str "/claim/cut.py" 999),(.int (462) 0),(.int (3) 0),(.int (0) 0),(.int (0) 0),(.int (3) 0),(.ref 596),(.bool true),(.int (181) 0),(.ref 597),.none,.none,.none,(.ref 598),(.int (1000) 0),(.int (462) 0),(.str "/claim/cut.py" 1001)],#[],"/claim/cut.py",1001,3,0,true,181,0,by kernel_rfl,rfl,rfl,rfl,rfl,rfl,rfl,qQ⟩
end K34
end
open PySem PySem.W PyProof.Rows
set_option maxRecDepth 100000 in
set_option maxHeartbeats 0 in
theorem PySem.Challenge.cw_elderhouse_k34_words_put_otherwise_holds : PySem.Challenge.rw_elderhouse_k34_words_put_otherwise.Holds := by
 w_on
 refine holds_law K34.EK λ said=>?_
 refine holds_open (q:=K34.qv) (loose:=[]) (Xt:=λ s=>xlAt K34.qv [] s&&recOk (RowW.records K34.rv) s) (XP:=XL K34.qv []) (Yf:=Hook.obs (kHook K34.KK K34.KA K34.cx)) (Ya:=Hook.val (kHook K34.KK K34.KA K34.cx)) (YP:=Hook.says (kHook K34.KK K34.KA K34.cx)) (N:=9176) K34.left (Hook.of (kHook K34.KK K34.KA K34.cx)) (Hook.keeps (kHook K34.KK K34.KA K34.cx)) (λ s e=>xl_of s (vC.mp e).1) XL.keeps (by rfl) (by rfl) (by rfl) (λ s e=>recFacts_of (vC.mp e).2) (by rfl) said qP ⟨rfl,rfl,rfl,rfl,rfl,qP⟩ ?hw ?hc
 case hw=>w_witness2
 refine L2.Jr (l:=rw0) (n:=63) (k:=20) (x:="_law_script") (TS:=[496,597]) (K:=K34.KB) (CX:=λ ω=>L2.hZ) (sp:=λ w=>K34.fN 496 597 (K34.KB w.params)) rfl qQ rfl ⟨rfl,qQ,qQ,rfl⟩ (λ w h Y=>L2.JX (W.kIn_of Y) (K34.pT w.params) (K34.pS w.params) rfl) (λ w=>L2.all2 (K34.pT w.params) (K34.pS w.params)) (λ w=>L2.all2 ⟨_,K34.pV w.params⟩ ⟨_,K34.pU w.params⟩) ?F ?S (λ ω ω ω ω ω z=>z)
 case F=>
  intro w mg fa h KX G hmg
  k_fill
  have T:∃Cl Ct Cw Ch Cp Uh9,K34.Txt (L2.lK KX) mg Cl Ct Cw Ch Cp Uh9:=by
   dsimp only[L2.lK]
   refine' ⟨_,_,_,_,_,_,K34.Txt.mk (QG KX G ?x0) (QG KX G ?x1) (QG KX G ?x2) (QG KX G ?x3) (QG KX G ?x4) (QG KX G ?x5) (QG KX G ?x6) (QG KX G ?x7) (QG KX G ?x8) (QG KX G ?x9) (QG KX G ?x10) (QG KX G ?x11) (QG KX G ?x12) (QG KX G ?x13) (QG KX G ?x14) (L2.HB KX G ?x15) (L2.Iv ?x16 ?x17 ?x18 ?sz_NO_HOUSES ?x19) (L2.cp KX G ?x20 ?x21 ?x22 ?x23) (L2.cp KX G ?x24 ?x25 ?x26 ?x27) (L2.cp KX G ?x28 ?x29 ?x30 ?x31) (L2.cp KX G ?x32 ?x33 ?x34 ?x35) (L2.cp KX G ?x36 ?x37 ?x38 ?x39) (L2.cp KX G ?x40 ?x41 ?x42 ?x43) (L2.cp KX G ?x44 ?x45 ?x46 ?x47) (L2.cp KX G ?x48 ?x49 ?x50 ?x51) (L2.cp KX G ?x52 ?x53 ?x54 ?x55) (L2.cp KX G ?x56 ?x57 ?x58 ?x59) (L2.cp KX G ?x60 ?x61 ?x62 ?x63) (L2.cp KX G ?x64 ?x65 ?x66 ?x67) (L2.cp KX G ?x68 ?x69 ?x70 ?x71) (L2.cp KX G ?x72 ?x73 ?x74 ?x75) (L2.cp KX G ?x76 ?x77 ?x78 ?x79) (L2.cp KX G ?x80 ?x81 ?x82 ?x83) (L2.cp KX G ?x84 ?x85 ?x86 ?x87) (L2.cp KX G ?x88 ?x89 ?x90 ?x91) (L2.cp KX G ?x92 ?x93 ?x94 ?x95) (L2.cp KX G ?x96 ?x97 ?x98 ?x99) (L2.cp KX G ?x100 ?x101 ?x102 ?x103) (L2.cp KX G ?x104 ?x105 ?x106 ?x107) (L2.cp KX G ?x108 ?x109 ?x110 ?x111) (L2.cp KX G ?x112 ?x113 ?x114 ?x115) (L2.cp KX G ?x116 ?x117 ?x118 ?x119) (L2.cp KX G ?x120 ?x121 ?x122 ?x123) (L2.cp KX G ?x124 ?x125 ?x126 ?x127) (L2.cp KX G ?x128 ?x129 ?x130 ?x131) (L2.cp KX G ?x132 ?x133 ?x134 ?x135) (L2.cp KX G ?x136 ?x137 ?x138 ?x139) (L2.cp KX G ?x140 ?x141 ?x142 ?x143) (L2.cp KX G ?x144 ?x145 ?x146 ?x147) (L2.cp KX G ?x148 ?x149 ?x150 ?x151) (L2.cp KX G ?x152 ?x153 ?x154 ?x155) (L2.cp KX G ?x156 ?x157 ?x158 ?x159) (L2.cp KX G ?x160 ?x161 ?x162 ?x163) (L2.cp KX G ?x164 ?x165 ?x166 ?x167) (L2.cp KX G ?x168 ?x169 ?x170 ?x171) (L2.cp KX G ?x172 ?x173 ?x174 ?x175) (L2.cp KX G ?x176 ?x177 ?x178 ?x179) (L2.cp KX G ?x180 ?x181 ?x182 ?x183) (L2.cp KX G ?x184 ?x185 ?x186 ?x187) (L2.qm KX G ?x188 ?pg_Hall ?hd_Hall ?po_Hall ?sa_Hall ?mk_Hall ?kp_Hall) (L2.gc ?x189) (L2.gc ?x190) (L2.qm KX G ?x191 ?pg_Term ?hd_Term ?po_Term ?sa_Term ?mk_Term ?kp_Term) (L2.gc ?x192) (L2.gc ?x193) (L2.gc ?x194) (L2.gc ?x195) (L2.gc ?x196) (L2.gc ?x197) (L2.qm KX G ?x198 ?pg_Word ?hd_Word ?po_Word ?sa_Word ?mk_Word ?kp_Word) (L2.gc ?x199) (L2.gc ?x200) (L2.gc ?x201) (L2.gc ?x202) (L2.qm KX G ?x203 ?pg_House ?hd_House ?po_House ?sa_House ?mk_House ?kp_House) (L2.gc ?x204) (L2.gc ?x205) (L2.gc ?x206) (L2.gc ?x207) (L2.qm KX G ?x208 ?pg_Program ?hd_Program ?po_Program ?sa_Program ?mk_Program ?kp_Program) (L2.gc ?x209) (L2.gc ?x210) (L2.gb ?x211 ?x212 ?x213 ?x214 ?x215) (L2.gb ?x216 ?x217 ?x218 ?x219 ?x220) (L2.gb ?x221 ?x222 ?x223 ?x224 ?x225) (L2.gb ?x226 ?x227 ?x228 ?x229 ?x230) (L2.gb ?x231 ?x232 ?x233 ?x234 ?x235) (L2.gb ?x236 ?x237 ?x238 ?x239 ?x240) (L2.gb ?x241 ?x242 ?x243 ?x244 ?x245) (L2.gb ?x246 ?x247 ?x248 ?x249 ?x250) (L2.gb ?x251 ?x252 ?x253 ?x254 ?x255) (L2.gb ?x256 ?x257 ?x258 ?x259 ?x260) (L2.gb ?x261 ?x262 ?x263 ?x264 ?x265) (L2.gb ?x266 ?x267 ?x268 ?x269 ?x270) (L2.gb ?x271 ?x272 ?x273 ?x274 ?x275) (L2.gb ?x276 ?x277 ?x278 ?x279 ?x280) (L2.gb ?x281 ?x282 ?x283 ?x284 ?x285) (L2.gb ?x286 ?x287 ?x288 ?x289 ?x290) (L2.gb ?x291 ?x292 ?x293 ?x294 ?x295) (L2.gb ?x296 ?x297 ?x298 ?x299 ?x300)⟩
   (case x0|x1|x2|x3|x4|x5|x6|x7|x8|x9|x10|x11|x12|x13|x14|x15|x16=>k_is);(case x17=>first|exact rfl|exact⟨rfl,rfl⟩);(case x18=>exact rfl);(case sz_NO_HOUSES=>decide);(case x19=>exact .cons ⟨_,rfl⟩ (.cons ⟨_,rfl⟩ (.nil)));(case x20|x21|x22|x23|x24|x25|x26|x27|x28|x29|x30|x31|x32|x33|x34|x35|x36|x37|x38|x39|x40|x41|x42|x43|x44|x45|x46|x47|x48|x49|x50|x51|x52|x53|x54|x55|x56|x57|x58|x59|x60|x61|x62|x63|x64|x65|x66|x67|x68|x69|x70|x71|x72|x73|x74|x75|x76|x77|x78|x79|x80|x81|x82|x83|x84|x85|x86|x87|x88|x89|x90|x91|x92|x93|x94|x95|x96|x97|x98|x99|x100|x101|x102|x103|x104|x105|x106|x107|x108|x109|x110|x111|x112|x113|x114|x115|x116|x117|x118|x119|x120|x121|x122|x123|x124|x125|x126|x127|x128|x129|x130|x131|x132|x133|x134|x135|x136|x137|x138|x139|x140|x141|x142|x143|x144|x145|x146|x147|x148|x149|x150|x151|x152|x153|x154|x155|x156|x157|x158|x159|x160|x161|x162|x163|x164|x165|x166|x167|x168|x169|x170|x171|x172|x173|x174|x175|x176|x177|x178|x179|x180|x181|x182|x183|x184|x185|x186|x187|x188|pg_Hall|hd_Hall|po_Hall|sa_Hall|mk_Hall|kp_Hall|x189|x190|x191|pg_Term|hd_Term|po_Term|sa_Term|mk_Term|kp_Term|x192|x193|x194|x195|x196|x197|x198|pg_Word|hd_Word|po_Word|sa_Word|mk_Word|kp_Word|x199|x200|x201|x202|x203|pg_House|hd_House|po_House|sa_House|mk_House|kp_House|x204|x205|x206|x207|x208|pg_Program|hd_Program|po_Program|sa_Program|mk_Program|kp_Program|x209|x210|x211|x212|x213|x214|x215|x216|x217|x218|x219|x220|x221|x222|x223|x224|x225|x226|x227|x228|x229|x230|x231|x232|x233|x234|x235|x236|x237|x238|x239|x240|x241|x242|x243|x244|x245|x246|x247|x248|x249|x250|x251|x252|x253|x254|x255|x256|x257|x258|x259|x260|x261|x262|x263|x264|x265|x266|x267|x268|x269|x270|x271|x272|x273|x274|x275|x276|x277|x278|x279|x280|x281|x282|x283|x284|x285|x286|x287|x288|x289|x290|x291|x292|x293|x294|x295|x296|x297|x298|x299|x300=>k_is)
  obtain⟨Cl,Ct,Cw,Ch,Cp,Uh9,T⟩:=T
  have E:∃Hc ck fi,K34.Ex (L2.lK KX) mg Hc ck fi:=by
   dsimp only[L2.lK]
   refine' ⟨_,_,_,K34.qg KX G ?aH ?aBa ?aNa ?aKi ?aIn ?aFo ?fI ?lI ?cI ?kI ?iI ?z3 ?s1 ?s2 ?s3 ?xH ?xB ?q1 ?q2 ?q3 ?q4 ?q5 ?q6 ?q7 ?q8 ?q9 ?q10 ?no ?kB ?sub ?kF ?kN ?kK ?kIn ?kV0⟩
   (case aH|aBa|aNa|aKi|aIn|aFo|fI|lI|cI|kI|iI|z3|s1|s2|s3=>k_is);(case xH=>kernel_rfl);(case xB=>kernel_rfl);(case q1=>k_is);(case q2=>kernel_rfl);(case q3|q4|q5|q6|q7|q8|q9|q10|no|kB|sub=>k_is);(case kF=>kernel_rfl);(case kN=>kernel_rfl);(case kK=>kernel_rfl);(case kIn=>kernel_rfl);(case kV0=>kernel_rfl)
  obtain⟨Hc,ck,fi,E⟩:=E
  have FT1:L2.lM (L2.lK KX) mg "_law_order" K34.m9 496:=by
   dsimp only[L2.lK]
   refine' L2.CP KX G ?a ?l ?d ?k (K34.pV _);(case a|l|d|k=>k_is)
  have FT2:L2.lM (L2.lK KX) mg "_law_put_otherwise" K34.m_ 597:=by
   dsimp only[L2.lK]
   refine' L2.CP KX G ?a ?l ?d ?k (K34.pU _);(case a|l|d|k=>k_is)
  exact L2.Kg T.f_law hmg (λ ω ω ω ω ω ω ω=>rfl) λ f fd base hB F=>K34.l6 T E qQ FT1 FT2 hB F
 case S=>exact λ w H a ns hl ht hS=>K34.iD hl (ht 496 qQ) (ht 597 qQ) hS
